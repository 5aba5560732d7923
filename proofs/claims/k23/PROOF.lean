import PyProof.Rows.All
import Wide.All
import OpenK.AllK
import Wide.FinOn
import Lean
import PyProof.EqAt
import PyProof.EqKinds
import PyProof.TupleCall
import PySem.Challenge.RW_onelook_k23_sheets_refused
-- CHANGE: your row's module here,as the last of these rows
set_option Elab.async false
set_option linter.all false
set_option maxRecDepth 100000
namespace L2
open PySem PySem.Spec PyProof.Rows
abbrev Key:=Sum Int Str
def keyIs:Key → Value → Bool
  | .inl k,v => Value.isInt k v
  | .inr x,v => Value.isStrOf x v
def keyH (w:World):Key → Int
  | .inl k => hashInt k
  | .inr x => hashStr w x
theorem keyIs_shape:∀ {k:Key} {v:Value},keyIs k v = true → (∃ i t,k = Sum.inl i ∧ v = Value.int i t) ∨ (∃ x t,k = Sum.inr x ∧ v = Value.str x t)
  | .inl i,v,h => by
    obtain ⟨t,e⟩:=Value.isInt_shape (k:=i) (v:=v) h
    exact .inl ⟨i,t,rfl,e⟩
  | .inr x,v,h => by
    obtain ⟨t,e⟩:=Value.isStrOf_shape (x:=x) (v:=v) h
    exact .inr ⟨x,t,rfl,e⟩
theorem keyIs_int (i:Int) (t:Tok):keyIs (.inl i) (.int i t) = true:=by simp [keyIs,Value.isInt]
theorem keyIs_str (x:Str) (t:Tok):keyIs (.inr x) (.str x t) = true:=by simp [keyIs,Value.isStrOf]
theorem key_ll (a b:Int):decide ((Sum.inl a:Key) = Sum.inl b) = (a == b):=by
  by_cases e:a = b
  · subst e; simp
  · have h:¬ (Sum.inl a:Key) = Sum.inl b:=fun q => e (Sum.inl.inj q)
    rw [decide_eq_false h]
    exact (beq_eq_false_iff_ne.mpr e).symm
theorem key_rr (a b:Str):decide ((Sum.inr a:Key) = Sum.inr b) = decide (a = b):=by
  by_cases e:a = b
  · subst e; simp
  · have h:¬ (Sum.inr a:Key) = Sum.inr b:=fun q => e (Sum.inr.inj q)
    rw [decide_eq_false h,decide_eq_false e]
theorem key_lr (a:Int) (b:Str):decide ((Sum.inl a:Key) = Sum.inr b) = false:=decide_eq_false (fun q => nomatch q)
theorem key_rl (a:Str) (b:Int):decide ((Sum.inr a:Key) = Sum.inl b) = false:=decide_eq_false (fun q => nomatch q)
def mixKind (prog:Program) (w:World):PySem.KeyKind prog w Key where
  is:=keyIs
  hash:=keyH w
  inj:=fun v a b ha hb => by
    rcases keyIs_shape ha with ⟨i,t,rfl,rfl⟩ | ⟨x,t,rfl,rfl⟩
    · rcases keyIs_shape hb with ⟨j,u,rfl,e⟩ | ⟨y,u,rfl,e⟩
      · injection e with e1 _; rw [e1]
      · exact nomatch e
    · rcases keyIs_shape hb with ⟨j,u,rfl,e⟩ | ⟨y,u,rfl,e⟩
      · exact nomatch e
      · injection e with e1 _; rw [e1]
  byValue:=fun k v h => by
    rcases keyIs_shape h with ⟨i,t,rfl,rfl⟩ | ⟨x,t,rfl,rfl⟩ <;> rfl
  pyHash:=fun hv h => by
    rcases keyIs_shape hv with ⟨i,t,rfl,rfl⟩ | ⟨x,t,rfl,rfl⟩
    · exact wpAny_pyHash_int h
    · exact wpAny_pyHash_str h
  eqBool:=fun hu hv h => by
    rcases keyIs_shape hu with ⟨i,t,rfl,rfl⟩ | ⟨x,t,rfl,rfl⟩
    · rcases keyIs_shape hv with ⟨j,u,rfl,rfl⟩ | ⟨y,u,rfl,rfl⟩
      · rw [key_ll] at h; exact wpAny_eqBool_int h
      · rw [key_lr] at h; exact SeqAt.EqAt.int_str i t y u _ _ _ _ h
    · rcases keyIs_shape hv with ⟨j,u,rfl,rfl⟩ | ⟨y,u,rfl,rfl⟩
      · rw [key_rl] at h; exact SeqAt.EqAt.str_int x t j u _ _ _ _ h
      · rw [key_rr] at h; exact wpAny_eqBool_str h
  «strs»:=fun k x t v h => by
    rcases keyIs_shape h with ⟨i,u,rfl,e⟩ | ⟨y,u,rfl,e⟩
    · exact nomatch e
    · injection e with e1 _
      subst e1
      cases v <;> rfl
theorem mixKind_int (prog:Program) (w:World) (i:Int) (t:Tok):(mixKind prog w).is (.inl i) (.int i t) = true:=keyIs_int i t
theorem mixKind_str (prog:Program) (w:World) (x:Str) (t:Tok):(mixKind prog w).is (.inr x) (.str x t) = true:=keyIs_str x t
end L2
namespace L2
open PySem PySem.Spec PyProof.Rows
inductive V where
  | non | bl (b:Bool) | int (i:Int) | str (x:Str) | byt (b:Array UInt8) | flt (b:UInt64) | ref (a:Addr) | ty (n:String)
  deriving DecidableEq
def RelV:V → Value → Prop
  | .non,u => u = Value.none
  | .bl b,u => u = Value.bool b
  | .int i,u => ∃ t,u = Value.int i t
  | .str x,u => ∃ t,u = Value.str x t
  | .byt b,u => ∃ t,u = Value.bytes b t
  | .flt b,u => ∃ t,u = Value.float b t
  | .ref a,u => u = Value.ref a
  | .ty n,u => u = Value.type n
abbrev Vals:List V → List Value → Prop:=Paired RelV
theorem Vals.length {xs:List V} {us:List Value} (r:Vals xs us):xs.length = us.length:=Paired.length r
theorem Vals.get:∀ {xs:List V} {us:List Value} {i:Nat} {x:V},Vals xs us → xs[i]? = some x → ∃ u,us[i]? = some u ∧ RelV x u
  | _,_,_,_,.nil,e => by simp at e
  | _,_,0,_,.cons r _,e => by simp at e; subst e; exact ⟨_,rfl,r⟩
  | _,_,i + 1,x,.cons _ t,e => by
    obtain ⟨u,h1,h2⟩:=Vals.get (i:=i) (x:=x) t (by simpa using e)
    exact ⟨u,by simpa using h1,h2⟩
theorem Vals.set {x:V} {u:Value} (r:RelV x u):∀ {xs:List V} {us:List Value} (i:Nat),Vals xs us → Vals (xs.set i x) (us.set i u)
  | _,_,_,.nil => .nil
  | _,_,0,.cons _ t => .cons r t
  | _,_,i + 1,.cons q t => .cons q (Vals.set r i t)
theorem Vals.append:∀ {xs ys:List V} {us ws:List Value},Vals xs us → Vals ys ws → Vals (xs ++ ys) (us ++ ws)
  | _,_,_,_,.nil,s => s
  | _,_,_,_,.cons r t,s => .cons r (Vals.append t s)
theorem Vals.take:∀ {xs:List V} {us:List Value} (n:Nat),Vals xs us → Vals (xs.take n) (us.take n)
  | _,_,0,_ => .nil
  | _,_,_ + 1,.nil => .nil
  | _,_,n + 1,.cons r t => .cons r (Vals.take n t)
theorem Vals.drop:∀ {xs:List V} {us:List Value} (n:Nat),Vals xs us → Vals (xs.drop n) (us.drop n)
  | _,_,0,r => r
  | _,_,_ + 1,.nil => .nil
  | _,_,n + 1,.cons _ t => Vals.drop n t
def RelO:Option V → Option Value → Prop
  | some v,some u => RelV v u
  | none,none => True
  | _,_ => False
def KV {κ:Type}:List (κ × V) → List (κ × Value) → Prop:=Paired fun (p:κ × V) (q:κ × Value) => p.1 = q.1 ∧ RelV p.2 q.2
def kV:Key → V
  | .inl i => .int i
  | .inr x => .str x
inductive HO where
    | lst (xs:List V)
    | tup (xs:List V)
    | dK (kvs:List (Key × V)) | dT (kvs:List (List Key × V))
    | set (S:Int → Bool) (n:Nat)
    | ins (C dx:Addr) (fs:List (Str × V))
    | own (x:Addr)
    | xd (fs:List (Str × V))
    | met (f x:Addr)
    | rng (lo hi:Int)
    | frz (o:Obj) (u:HO)
    | tbl (ps:Array Value)
    | ext (φ:Heap → Prop)
abbrev Hp:=Addr → Option HO
def upd (H:Hp) (a:Addr) (o:HO):Hp:=fun b => if b = a then some o else H b
theorem upd_same {H:Hp} {a:Addr} {o:HO}:upd H a o a = some o:=by unfold upd; rw [if_pos rfl]
theorem upd_ne {H:Hp} {a b:Addr} {o:HO} (h:b ≠ a):upd H a o b = H b:=by unfold upd; rw [if_neg h]
theorem ne_of {H:Hp} {a b:Addr} {o u:HO} (h:H a = some o) (h':H b = some u) (d:o ≠ u):a ≠ b:=by
  intro e; subst e; rw [h] at h'; exact d (Option.some.inj h')
theorem ne_of_none {H:Hp} {a b:Addr} {o:HO} (h:H a = some o) (h':H b = none):a ≠ b:=by
  intro e; subst e; rw [h] at h'; cases h'
def NoDi (h:Heap) (a:Addr):Prop:=∀ o,h.get? a = some o → o.dict = none
theorem NoDi.new (h:Heap) (us:Array Value):NoDi (h.push { cls:=.type "tuple",data:=.seq us }) h.objs.size:=fun o q => by
  rw [Heap.get?_push_size _ rfl] at q
  cases q
  rfl
section
variable (P:Program) (w:World)
def ObjOk (H:Hp) (h:Heap) (a:Addr):HO → Prop
  | .lst xs => xs.length ≤ sizeLine ∧ ∃ (its:List Value) (n:Nat),Vals xs its ∧ h.get? a = some { cls:=.type "list",data:=.seq its.toArray n }
  | .tup xs => xs.length ≤ sizeLine ∧ ∃ its:List Value,Vals xs its ∧ IsTup h a its.toArray ∧ NoDi h a
  | .dK kvs => kvs.length ≤ sizeLine ∧ (a == sysModules) = false ∧ ∃ vs,KV kvs vs ∧ h.DictOf (mixKind P w) a vs
  | .dT kvs => kvs.length ≤ sizeLine ∧ (a == sysModules) = false ∧ ∃ xs:List (List Key × Addr × Value),
      Paired (fun (p:List Key × V) (q:List Key × Addr × Value) => p.1 = q.1 ∧ H q.2.1 = some (.tup (p.1.map kV)) ∧ RelV p.2 q.2.2) kvs xs ∧
      ∃ o es ep,h.get? a = some o ∧ o.ExactDict ∧ o.data = .dict es ep ∧ es.toList = xs.map (entryOfKey (tupleKind (mixKind P w))) ∧ (xs.map (·.1)).Nodup
  | .set S n => h.SetOf (intKind P w) a S n
  | .ins C dx fs => H dx = some (.own a) ∧ fs.length ≤ 1000 ∧ dx ≠ a ∧ h.get? a = some (PySem.W.instObj C dx) ∧
      ∃ mA,h.Ns1 dx mA ∧ (∀ f,RelO (fs.lookup f) (mA f)) ∧ PySem.Within mA (fs.map (·.1))
  | .own _ => ∃ o,h.get? a = some o
  | .xd fs => ∃ mA,h.Ns1 a mA ∧ ∀ f,RelO (fs.lookup f) (mA f)
  | .rng lo hi => ∃ t u v,h.get? a = some { cls:=.type "range",data:=.fields #[.int lo t,.int hi u,.int 1 v] }
  | .frz o u => h.get? a = some o ∧ ObjOk H h a u
  | .tbl ps => h.get? a = some { cls:=.none,data:=.fields ps }
  | .met f x => h.get? a = some (PySem.W.methodObj (.ref f) (.ref x))
  | .ext φ => φ h ∧ (∃ o,h.get? a = some o) ∧ ∀ h1 h2:Heap,φ h1 → (∀ o,h1.get? a = some o → h2.get? a = some o) → φ h2
def HOk (H:Hp) (h:Heap):Prop:=∀ a o,H a = some o → ObjOk P w H h a o
end
section
variable {P:Program} {w:World} {H H':Hp} {h h':Heap} {a:Addr} {o:HO}
theorem ObjOk.lt (x:ObjOk P w H h a o):a < h.objs.size:=by
  cases o with
  | lst xs => obtain ⟨_,_,_,_,e⟩:=x; exact Heap.lt_size e
  | tup xs => obtain ⟨_,_,_,p,_⟩:=x; exact p.lt
  | dK kvs => obtain ⟨_,_,_,_,o,_,_,e,_⟩:=x; exact Heap.lt_size e
  | dT kvs => obtain ⟨_,_,_,_,o,_,_,e,_⟩:=x; exact Heap.lt_size e
  | set S n => obtain ⟨o,_,_,_,e,_⟩:=x; exact Heap.lt_size e
  | ins C dx fs => obtain ⟨_,_,_,e,_⟩:=x; exact Heap.lt_size e
  | own y => obtain ⟨_,e⟩:=x; exact Heap.lt_size e
  | xd fs => obtain ⟨_,⟨_,_,_,e,_⟩,_⟩:=x; exact Heap.lt_size e
  | rng lo hi => obtain ⟨_,_,_,e⟩:=x; exact Heap.lt_size e
  | frz ob u => obtain ⟨e,_⟩:=x; exact Heap.lt_size e
  | tbl ps => exact Heap.lt_size (show h.get? a = some _ from x)
  | met f y => exact Heap.lt_size (show h.get? a = some _ from x)
  | ext φ => obtain ⟨_,⟨_,e⟩,_⟩:=x; exact Heap.lt_size e
theorem Paired.mapP {α β:Type} {F G:α → β → Prop}:∀ {l₁:List α} {l₂:List β},Paired F l₁ l₂ → (∀ a b,F a b → G a b) → Paired G l₁ l₂
  | _,_,.nil,_ => .nil
  | _,_,.cons r t,f => .cons (f _ _ r) (Paired.mapP t f)
theorem ObjOk.stay (x:ObjOk P w H h a o) (k:∀ b u,(b = a ∨ H b = some (.own a)) → h.get? b = some u → h'.get? b = some u)
    (ho:∀ b,H b = some (.own a) → H' b = some (.own a)) (ht:∀ b xs,H b = some (.tup xs) → H' b = some (.tup xs)):ObjOk P w H' h' a o:=by
  induction o with
  | lst xs => obtain ⟨z,its,n,r,e⟩:=x; exact ⟨z,its,n,r,k _ _ (.inl rfl) e⟩
  | tup xs => obtain ⟨z,us,r,⟨ob,e,c⟩,nd⟩:=x; exact ⟨z,us,r,⟨ob,k _ _ (.inl rfl) e,c⟩,fun o q => by rw [k _ _ (.inl rfl) e] at q; cases q; exact nd _ e⟩
  | dK kvs => obtain ⟨z,y,vs,r,ob,es,ep,e,c⟩:=x; exact ⟨z,y,vs,r,ob,es,ep,k _ _ (.inl rfl) e,c⟩
  | dT kvs =>
    obtain ⟨z,y,xs,r,ob,es,ep,e,c⟩:=x
    exact ⟨z,y,xs,Paired.mapP r fun p q z => ⟨z.1,ht _ _ z.2.1,z.2.2⟩,ob,es,ep,k _ _ (.inl rfl) e,c⟩
  | set S n => obtain ⟨ob,es,ep,t,e,c⟩:=x; exact ⟨ob,es,ep,t,k _ _ (.inl rfl) e,c⟩
  | ins C dx fs =>
    obtain ⟨d,z,ne,e,mA,⟨od,es,ep,e2,c⟩,r⟩:=x
    exact ⟨ho _ d,z,ne,k _ _ (.inl rfl) e,mA,⟨od,es,ep,k _ _ (.inr d) e2,c⟩,r⟩
  | own y => obtain ⟨ob,e⟩:=x; exact ⟨ob,k _ _ (.inl rfl) e⟩
  | xd fs => obtain ⟨mA,⟨od,es,ep,e,c⟩,r⟩:=x; exact ⟨mA,⟨od,es,ep,k _ _ (.inl rfl) e,c⟩,r⟩
  | rng lo hi => obtain ⟨t,u,v,e⟩:=x; exact ⟨t,u,v,k _ _ (.inl rfl) e⟩
  | frz ob u ih => obtain ⟨e,q⟩:=x; exact ⟨k _ _ (.inl rfl) e,ih q⟩
  | tbl ps =>
    have e:h.get? a = some { cls:=.none,data:=.fields ps }:=x
    show h'.get? a = some { cls:=.none,data:=.fields ps }
    exact k a _ (.inl rfl) e
  | met f y =>
    have e:h.get? a = some (PySem.W.methodObj (.ref f) (.ref y)):=x
    show h'.get? a = some (PySem.W.methodObj (.ref f) (.ref y))
    exact k a _ (.inl rfl) e
  | ext φ => obtain ⟨p,⟨o,e⟩,st⟩:=x; exact ⟨st _ _ p fun o q => k _ _ (.inl rfl) q,⟨o,k _ _ (.inl rfl) e⟩,st⟩
theorem HOk.lt (x:HOk P w H h) (e:H a = some o):a < h.objs.size:=(x a o e).lt
theorem HOk.fresh (x:HOk P w H h) (e:h.objs.size ≤ a):H a = none:=by
  cases q:H a with
  | none => rfl
  | some u => exact absurd (Nat.lt_of_lt_of_le (x.lt q) e) (Nat.lt_irrefl _)
theorem HOk.kept (x:HOk P w H h) (k:∀ b u,h.get? b = some u → h'.get? b = some u):HOk P w H h':=fun a o e =>
  (x a o e).stay (fun b u _ q => k b u q) (fun _ q => q) fun _ _ q => q
theorem HOk.laid (x:HOk P w H h) (k:∀ b u,h.get? b = some u → h'.get? b = some u) (hp:h.objs.size ≤ a) (new:ObjOk P w (upd H a o) h' a o):HOk P w (upd H a o) h':=fun b u e => by
  have hn:=x.fresh hp
  by_cases hb:b = a
  · subst hb; rw [upd_same] at e; cases e; exact new
  · rw [upd_ne hb] at e
    exact (x b u e).stay (fun c v _ q => k c v q) (fun c q => by rw [upd_ne (ne_of_none q hn)]; exact q) fun c xs q => by rw [upd_ne (ne_of_none q hn)]; exact q
end
def Rd (H:Hp) (a:Addr) (u:HO):Prop:=H a = some u ∨ ∃ o,H a = some (.frz o u)
theorem Rd.ok {P:Program} {w:World} {H:Hp} {h:Heap} {a:Addr} {u:HO} (r:Rd H a u) (x:HOk P w H h):ObjOk P w H h a u:=by
  rcases r with r | ⟨o,r⟩
  · exact x a u r
  · obtain ⟨_,q⟩:=x a _ r
    exact q
def Mut:Option HO → Prop
  | some (.lst _) => True
  | some (.dK _) => True
  | some (.dT _) => True
  | some (.set _ _) => True
  | some (.ins _ _ _) => True
  | some (.ext _) => True
  | _ => False
section
variable {P:Program} {w:World} {H:Hp} {h h':Heap} {x e:Addr} {o':HO}
theorem HOk.write (ok:HOk P w H h) (mu:Mut (H x)) (he:e = x ∨ H e = some (.own x)) (k:∀ b u,b ≠ e → h.get? b = some u → h'.get? b = some u) (heo:∃ u,h'.get? e = some u)
    (new:ObjOk P w (upd H x o') h' x o'):HOk P w (upd H x o') h':=fun b u q => by
  have nown:∀ c y,H c = some (.own y) → c ≠ x:=fun c y r z => by subst z; rw [r] at mu; exact mu
  have ntup:∀ c xs,H c = some (.tup xs) → c ≠ x:=fun c xs r z => by subst z; rw [r] at mu; exact mu
  by_cases hb:b = x
  · subst hb; rw [upd_same] at q; cases q; exact new
  · rw [upd_ne hb] at q
    by_cases hbe:b = e
    · have q':H b = some (.own x):=by
        rcases he with z | z
        · exact absurd (hbe.trans z) hb
        · rw [hbe]; exact z
      rw [q] at q'; cases q'
      obtain ⟨v,hv⟩:=heo
      exact ⟨v,by rw [hbe]; exact hv⟩
    · refine (ok b u q).stay (fun c v hc r => k c v ?_ r) (fun c r => by rw [upd_ne (nown c b r)]; exact r) fun c xs r => by rw [upd_ne (ntup c xs r)]; exact r
      rcases hc with rfl | hc
      · exact hbe
      · rintro rfl
        rcases he with z | z
        · exact nown c b hc z
        · rw [hc] at z; cases z; exact hb rfl
end
structure Un (fs ex:List Addr) (H H':Hp) (h h':Heap):Prop where
  keep:∀ b o,h.get? b = some o → H b = none → b ∉ fs → b ∉ ex → h'.get? b = some o
  slot:∀ b o,h.get? b = some o → H b = none → b ∈ fs → b ∉ ex → ∃ sl,h'.get? b = some { o with slots:=sl }
  free:∀ b o,h.get? b = some o → H b = none → b ∉ ex → H' b = none
  there:∀ b o,h.get? b = some o → b ∉ ex → ∃ o',h'.get? b = some o'
  tups:∀ b xs,H b = some (.tup xs) → H' b = some (.tup xs)
  frzs:∀ b o u,H b = some (.frz o u) → H' b = some (.frz o u)
  tbls:∀ b ps,H b = some (.tbl ps) → ∃ more,H' b = some (.tbl (ps ++ more))
section
variable {fs fs' ex ex':List Addr} {H H1 H2:Hp} {h h1 h2 h':Heap} {a x e:Addr} {o:HO}
theorem Un.any (u:Un fs ex H H1 h h1) {b:Addr} {ob:Obj} (q:h.get? b = some ob) (n:H b = none) (hx:b ∉ ex):∃ sl,h1.get? b = some { ob with slots:=sl }:=by
  by_cases hb:b ∈ fs
  · exact u.slot b ob q n hb hx
  · exact ⟨ob.slots,u.keep b ob q n hb hx⟩
theorem Un.kept (k:∀ b u,h.get? b = some u → h'.get? b = some u):Un fs ex H H h h' :=
  ⟨fun b ob q _ _ _ => k b ob q,fun b ob q _ _ _ => ⟨ob.slots,k b ob q⟩,fun _ _ _ n _ => n,fun b ob q _ => ⟨ob,k b ob q⟩,fun _ _ q => q,fun _ _ _ q => q,fun _ ps q => ⟨#[],by rw [q]; simp⟩⟩
theorem Un.refl:Un fs ex H H h h:=Un.kept fun _ _ q => q
theorem Un.laid (k:∀ b u,h.get? b = some u → h'.get? b = some u) (hp:h.objs.size ≤ a) (hn:H a = none):Un fs ex H (upd H a o) h h' where
  keep:=fun b u q _ _ _ => k b u q
  slot:=fun b u q _ _ _ => ⟨u.slots,k b u q⟩
  free:=fun b u q n _ => by rw [upd_ne (Nat.ne_of_lt (Nat.lt_of_lt_of_le (Heap.lt_size q) hp))]; exact n
  there:=fun b u q _ => ⟨u,k b u q⟩
  tups:=fun b xs q => by rw [upd_ne (ne_of_none q hn)]; exact q
  frzs:=fun b u xs q => by rw [upd_ne (ne_of_none q hn)]; exact q
  tbls:=fun b ps q => ⟨#[],by rw [upd_ne (ne_of_none q hn),q]; simp⟩
theorem Un.write (mu:Mut (H x)) (he:e = x ∨ H e = some (.own x)) (k:∀ b u,b ≠ e → h.get? b = some u → h'.get? b = some u) (heo:∃ u,h'.get? e = some u):Un fs ex H (upd H x o) h h':=by
  have hx:∀ b,H b = none → b ≠ x:=fun b n z => by subst z; rw [n] at mu; exact mu
  have hb:∀ b,H b = none → b ≠ e:=fun b n z => by
    subst z
    rcases he with r | r
    · exact hx b n r
    · rw [n] at r; cases r
  have hm:∀ b u,H b = some u → ¬ Mut (some u) → b ≠ x:=fun b u q nm z => by subst z; rw [q] at mu; exact nm mu
  refine ⟨fun b u q n _ _ => k b u (hb b n) q,fun b u q n _ _ => ⟨u.slots,k b u (hb b n) q⟩,fun b u q n _ => by rw [upd_ne (hx b n)]; exact n,fun b u q _ => ?_,
    fun b xs q => by rw [upd_ne (hm b _ q fun z => z)]; exact q,fun b u xs q => by rw [upd_ne (hm b _ q fun z => z)]; exact q,fun b ps q => ⟨#[],by rw [upd_ne (hm b _ q fun z => z),q]; simp⟩⟩
  by_cases hbe:b = e
  · subst hbe; exact heo
  · exact ⟨u,k b u hbe q⟩
end
def trk (h:Heap) (H:Hp):List Addr:=(List.range h.objs.size).filter fun a => (H a).isSome
def hidT (h:Heap) (H:Hp):Heap:=PySem.W.hideAll h (trk h H)
theorem hidT_size (h:Heap) (H:Hp):(hidT h H).objs.size = h.objs.size:=PySem.W.hideAll_size _ _
theorem hidT_get {h:Heap} {H:Hp} {b:Addr} {o:Obj} (e:h.get? b = some o) (n:H b = none):(hidT h H).get? b = some o :=
  PySem.W.hideAll_get _ e fun hm => by
    have q:(H b).isSome = true:=(List.mem_filter.mp hm).2
    rw [n] at q; simp at q
theorem of_hidT {h:Heap} {H:Hp} {b:Addr} {o:Obj} (e:(hidT h H).get? b = some o):h.get? b = some o ∧ H b = none:=by
  have e':h.get? b = some o:=PySem.W.of_hideAll (trk h H) e
  refine ⟨e',?_⟩
  cases q:H b with
  | none => rfl
  | some x =>
    have hm:b ∈ trk h H:=List.mem_filter.mpr ⟨List.mem_range.mpr (Heap.lt_size e'),by simp [q]⟩
    have z:(hidT h H).get? b = none:=PySem.W.hideAll_none (trk h H) hm
    rw [z] at e; cases e
end L2
namespace L2
open PySem PySem.Spec PyProof.Rows
structure Mod (K:PySem.W.Frag) (mg:Str → Option Value) (base:Heap):Prop where
  kin:K.In base
  glob:base.Ns mainGlobals mg
  blt:∃ mb,base.Ns builtinsNs mb ∧ ∀ x:Str,x ≠ "__name__" → mb x = bootBuiltins x
  nolimit:base.NoLimit
structure Cx where
  prog:Program
  w:World
  K:PySem.W.Frag
  mg:Str → Option Value
  base:Heap
  A:Around
  N:List Str
  s₀:Shared
  H₀:Hp
  env:Env
  outer:List Env
  stack:List Env
  ex:List Addr
  fn:Str → Bool
  calm:Bool
  pn:List (Addr × Obj)
  xe:Value → Shared → Prop
def frs (l:List Env):List Addr:=l.filterMap (·.frame)
abbrev Cx.fs (X:Cx):List Addr:=frs X.outer
def Vis (sc:Scope) (x:Str):Prop:=sc.names.lookup x = some .local ∨ sc.names.lookup x = some .cell ∨ sc.names.lookup x = some .free
def Loc (sc:Scope) (x:Str):Prop:=sc.names.lookup x = some .local ∨ sc.names.lookup x = some .cell
def Look (env:Env) (h:Heap) (m:Str → Option Value) (x:Str) (u:Value):Prop :=
  (env.kindOf x = some .local ∧ m x = some u) ∨ ((env.kindOf x = some .cell ∨ env.kindOf x = some .free) ∧ ∃ c,env.cells.lookup x = some c ∧ h.IsCell c (some u))
structure Cx.Ok (X:Cx):Prop where
  mod:Mod X.K X.mg X.base
  kind:X.env.scope.kind = .function
  glob:X.env.globals = mainGlobals
  blt:X.env.builtins = builtinsNs
  above:X.s₀.heap.objs.size ≤ X.env.locals
  inj:∀ x y c,X.env.cells.lookup x = some c → X.env.cells.lookup y = some c → x = y
  has:∀ x,(X.env.kindOf x = some .cell ∨ X.env.kindOf x = some .free) → ∃ c,X.env.cells.lookup x = some c
  cab:∀ x c,X.fn x = true → X.env.cells.lookup x = some c → X.s₀.heap.objs.size ≤ c
  hd:X.calm = true → X.A.handled = none
  frames:X.A.frames = some X.stack
  stk:X.stack = X.outer ∨ (X.stack = X.env :: X.outer ∧ X.env.frame = some X.env.locals)
  exf:∀ b ∈ X.ex,b ≠ X.env.locals ∧ ∀ x c,X.env.cells.lookup x = some c → c ≠ b
  bs:∀ b o,X.base.get? b = some o → X.s₀.heap.get? b = some o ∧ X.H₀ b = none
  bsz:X.base.objs.size ≤ X.s₀.heap.objs.size
  noex:∀ b o,X.base.get? b = some o → b ∉ X.ex
  exfs:∀ b ∈ X.ex,b ∉ X.fs
  funs:X.s₀.heap.FunFrames X.base X.outer
  frf:∀ b ∈ X.fs,X.H₀ b = none
structure Inv (X:Cx) (pins:List (Addr × Obj)) (σ:List (Option V)) (H:Hp) (s:Shared):Prop where
  ok:X.Ok
  os:s.os = X.s₀.os
  bare:AllBare s.gens
  base:Un X.fs X.ex X.H₀ H X.s₀.heap s.heap
  loc:∃ m,s.heap.Ns X.env.locals m ∧ ∀ (i:Nat) (x:Str) (v:V),X.N[i]? = some x → σ[i]? = some (some v) → Vis X.env.scope x → ∃ u,RelV v u ∧ Look X.env s.heap m x u
  cell:∀ x c,X.env.cells.lookup x = some c → ∃ v,s.heap.IsCell c v
  free:H X.env.locals = none
  freeC:∀ x c,X.env.cells.lookup x = some c → H c = none
  pin:∀ p ∈ X.pn ++ pins,s.heap.get? p.1 = some p.2 ∧ H p.1 = none ∧ p.1 ≠ X.env.locals ∧ p.1 ∉ X.fs ∧ ∀ v,p.2.data ≠ .cell v
  hok:HOk X.prog X.w H s.heap
  len:σ.length = X.N.length
section
variable {X:Cx} {pins:List (Addr × Obj)} {σ:List (Option V)} {H H':Hp} {s:Shared} {h':Heap}
theorem Cx.Ok.nofr (ok:X.Ok) {b:Addr} {o:Obj} (e:X.base.get? b = some o):b ∉ X.fs:=fun hb => by
  have:=(ok.funs.mem hb).1
  rw [e] at this; cases this
theorem Inv.bs (I:Inv X pins σ H s):∀ b o,X.base.get? b = some o → s.heap.get? b = some o ∧ H b = none:=fun b o e =>
  ⟨I.base.keep b o (I.ok.bs b o e).1 (I.ok.bs b o e).2 (I.ok.nofr e) (I.ok.noex b o e),I.base.free b o (I.ok.bs b o e).1 (I.ok.bs b o e).2 (I.ok.noex b o e)⟩
theorem Inv.bk (I:Inv X pins σ H s):∀ b o,X.base.get? b = some o → s.heap.get? b = some o:=fun b o e => (I.bs b o e).1
theorem Inv.mod (I:Inv X pins σ H s):Mod X.K X.mg X.base:=I.ok.mod
theorem Inv.kIn (I:Inv X pins σ H s):X.K.In s.heap:=I.ok.mod.kin.keeps I.bk
theorem Inv.lt (I:Inv X pins σ H s):X.env.locals < s.heap.objs.size:=let ⟨_,hn,_⟩:=I.loc; hn.lt
theorem Inv.sz (I:Inv X pins σ H s):X.s₀.heap.objs.size ≤ s.heap.objs.size:=Nat.le_trans I.ok.above (Nat.le_of_lt I.lt)
theorem Inv.nofs (I:Inv X pins σ H s) {a:Addr} (h:s.heap.objs.size ≤ a):a ∉ X.fs:=fun hb => by
  obtain ⟨_,o,ho,_⟩:=I.ok.funs.mem hb
  exact absurd (Nat.lt_of_lt_of_le (Heap.lt_size ho) (Nat.le_trans I.sz h)) (Nat.lt_irrefl _)
theorem Inv.cne (I:Inv X pins σ H s):∀ x c,X.env.cells.lookup x = some c → c ≠ X.env.locals:=fun x c e z => by
  obtain ⟨v,o,ho,hd⟩:=I.cell x c e
  obtain ⟨m,⟨o',es,ep,ho',hd',_⟩,_⟩:=I.loc
  rw [z,ho'] at ho; cases ho; rw [hd'] at hd; cases hd
theorem Inv.funs (I:Inv X pins σ H s):s.heap.FunFrames X.base X.outer:=by
  have all:∀ (l:List Env),(∀ b ∈ frs l,b ∈ X.fs) → X.s₀.heap.FunFrames X.base l → s.heap.FunFrames X.base l:=by
    intro l
    induction l with
    | nil => intro _ _; trivial
    | cons env r ih =>
      intro hs hl
      obtain ⟨hk,⟨L,o,hf,hn,ho,hd⟩,hr⟩:=hl
      have hL:L ∈ X.fs:=hs L (by unfold frs; rw [List.filterMap_cons,hf]; exact List.mem_cons_self)
      obtain ⟨sl,e⟩:=I.base.slot L o ho (I.ok.frf L hL) hL fun z => I.ok.exfs L z hL
      exact ⟨hk,⟨L,_,hf,hn,e,hd⟩,ih (fun b hb => hs b (by unfold frs; rw [List.filterMap_cons,hf]; exact List.mem_cons_of_mem _ hb)) hr⟩
  exact all X.outer (fun _ hb => hb) I.ok.funs
theorem Inv.stack (I:Inv X pins σ H s):s.heap.FunFrames X.base X.stack:=by
  rcases I.ok.stk with e | ⟨e,hf⟩
  · rw [e]; exact I.funs
  · rw [e]
    obtain ⟨m,hn,_⟩:=I.loc
    refine .cons (by rw [I.ok.kind]; decide) hf hn ?_ I.funs
    exact Heap.get?_none_of_le (Nat.le_trans I.ok.bsz I.ok.above)
theorem Inv.stkSub (I:Inv X pins σ H s):∀ b ∈ frs X.stack,b ∈ X.env.locals :: X.fs:=fun b hb => by
  rcases I.ok.stk with e | ⟨e,hf⟩
  · rw [e] at hb; exact List.mem_cons_of_mem _ hb
  · rw [e] at hb
    unfold frs at hb
    rw [List.filterMap_cons,hf] at hb
    exact hb
theorem Inv.stkFree (I:Inv X pins σ H s):∀ b ∈ frs X.stack,H b = none:=fun b hb => by
  rcases List.mem_cons.mp (I.stkSub b hb) with e | hb
  · rw [e]; exact I.free
  · obtain ⟨_,o,ho,_⟩:=I.ok.funs.mem hb
    exact I.base.free b o ho (I.ok.frf b hb) fun z => I.ok.exfs b z hb
theorem Inv.step {g':Array GenState} {t':Nat} {d':Drawn} {ch:List Addr} (I:Inv X pins σ H s)
    (hch:∀ b ∈ ch,(b ∈ X.ex ∨ X.s₀.heap.objs.size ≤ b) ∧ b ≠ X.env.locals ∧ (∀ x c,X.env.cells.lookup x = some c → c ≠ b) ∧ ∀ p ∈ X.pn ++ pins,p.1 ≠ b)
    (keep:∀ b o,b ≠ X.env.locals → b ∉ X.fs → b ∉ ch → s.heap.get? b = some o → H b = none → h'.get? b = some o)
    (slot:∀ b o,b ≠ X.env.locals → b ∈ X.fs → b ∉ ch → s.heap.get? b = some o → H b = none → ∃ sl,h'.get? b = some { o with slots:=sl }) (free:∀ b o,b ∉ ch → s.heap.get? b = some o → H b = none → H' b = none)
    (there:∀ b o,b ∉ ch → s.heap.get? b = some o → ∃ o',h'.get? b = some o')
    (tups:∀ b xs,H b = some (.tup xs) → H' b = some (.tup xs)) (frzs:∀ b o u,H b = some (.frz o u) → H' b = some (.frz o u)) (tbls:∀ b ps,H b = some (.tbl ps) → ∃ more,H' b = some (.tbl (ps ++ more)))
    (ns:∀ m,s.heap.Ns X.env.locals m → h'.Ns X.env.locals m) (hok:HOk X.prog X.w H' h') (hg:AllBare g') :
    Inv X pins σ H' { s with heap:=h',gens:=g',drawn:=d',toks:=t' }:=by
  have neL:∀ b o,X.s₀.heap.get? b = some o → b ≠ X.env.locals:=fun b o e => Nat.ne_of_lt (Nat.lt_of_lt_of_le (Heap.lt_size e) I.ok.above)
  have neC:∀ b o,X.s₀.heap.get? b = some o → b ∉ X.ex → b ∉ ch:=fun b o e hx hb => by
    rcases (hch b hb).1 with z | z
    · exact hx z
    · exact absurd (Nat.lt_of_lt_of_le (Heap.lt_size e) z) (Nat.lt_irrefl _)
  have cellK:∀ x c,X.env.cells.lookup x = some c → ∀ v,s.heap.IsCell c v → h'.IsCell c v:=fun x c e v ⟨o,ho,hd⟩ => by
    have nch:c ∉ ch:=fun z => (hch c z).2.2.1 x c e rfl
    by_cases hc:c ∈ X.fs
    · obtain ⟨sl,q⟩:=slot c o (I.cne x c e) hc nch ho (I.freeC x c e)
      exact ⟨_,q,hd⟩
    · exact ⟨o,keep c o (I.cne x c e) hc nch ho (I.freeC x c e),hd⟩
  refine ⟨I.ok,I.os,hg,⟨fun b o e n hb hx => ?_,fun b o e n hb hx => ?_,fun b o e n hx => ?_,fun b o e hx => ?_,fun b xs e => tups b xs (I.base.tups b xs e),fun b o xs e => frzs b o xs (I.base.frzs b o xs e),fun b ps e => ?_⟩,?_,fun x c e => ?_,?_,fun x c e => ?_,fun p hp => ?_,hok,I.len⟩
  · exact keep b o (neL b o e) hb (neC b o e hx) (I.base.keep b o e n hb hx) (I.base.free b o e n hx)
  · obtain ⟨sl,e1⟩:=I.base.slot b o e n hb hx
    obtain ⟨sl',e2⟩:=slot b _ (neL b o e) hb (neC b o e hx) e1 (I.base.free b o e n hx)
    exact ⟨sl',e2⟩
  · obtain ⟨o',e1⟩:=I.base.there b o e hx
    exact free b o' (neC b o e hx) e1 (I.base.free b o e n hx)
  · obtain ⟨o',e1⟩:=I.base.there b o e hx
    exact there b o' (neC b o e hx) e1
  · obtain ⟨m1,e1⟩:=I.base.tbls b ps e
    obtain ⟨m2,e2⟩:=tbls b _ e1
    exact ⟨m1 ++ m2,by rw [e2,Array.append_assoc]⟩
  · obtain ⟨m,hn,hl⟩:=I.loc
    refine ⟨m,ns m hn,fun i x v e1 e2 e3 => ?_⟩
    obtain ⟨u,r,l⟩:=hl i x v e1 e2 e3
    refine ⟨u,r,?_⟩
    rcases l with l | ⟨k,c,e,z⟩
    · exact .inl l
    · exact .inr ⟨k,c,e,cellK x c e _ z⟩
  · obtain ⟨v,z⟩:=I.cell x c e
    exact ⟨v,cellK x c e v z⟩
  · obtain ⟨m,⟨o,_,_,ho,_⟩,_⟩:=I.loc
    exact free _ o (fun z => (hch _ z).2.1 rfl) ho I.free
  · obtain ⟨v,o,ho,hd⟩:=I.cell x c e
    exact free c o (fun z => (hch c z).2.2.1 x c e rfl) ho (I.freeC x c e)
  · obtain ⟨e,n,ne,nf,d⟩:=I.pin p hp
    have nch:p.1 ∉ ch:=fun z => (hch p.1 z).2.2.2 p hp rfl
    exact ⟨keep p.1 p.2 ne nf nch e n,free p.1 p.2 nch e n,ne,nf,d⟩
theorem Inv.un {t':Nat} (I:Inv X pins σ H s) (u:Un X.fs [] H H' s.heap h') (hok:HOk X.prog X.w H' h'):Inv X pins σ H' { s with heap:=h',toks:=t' }:=by
  obtain ⟨m,⟨o,es,ep,ho,r⟩,_⟩:=id I.loc
  obtain ⟨sl,hL⟩:=u.any ho I.free (by simp)
  exact I.step (g':=s.gens) (d':=s.drawn) (ch:=[]) (fun _ z => nomatch z) (fun b o _ hb _ e n => u.keep b o e n hb (by simp)) (fun b o _ hb _ e n => u.slot b o e n hb (by simp)) (fun b o _ e n => u.free b o e n (by simp)) (fun b o _ e => u.there b o e (by simp)) u.tups u.frzs u.tbls (fun m' hm => by
    obtain ⟨o',es',ep',ho',r'⟩:=hm
    rw [ho] at ho'; cases ho'
    exact ⟨_,es',ep',hL,r'⟩) hok I.bare
theorem Inv.call {g':Array GenState} {t':Nat} {d':Drawn} {ch:List Addr} (I:Inv X pins σ H s) (u:Un (frs X.stack) ch H H' s.heap h') (hok:HOk X.prog X.w H' h') (hg:AllBare g')
    (hch:∀ b ∈ ch,(b ∈ X.ex ∨ X.s₀.heap.objs.size ≤ b) ∧ b ≠ X.env.locals ∧ (∀ x c,X.env.cells.lookup x = some c → c ≠ b) ∧ ∀ p ∈ X.pn ++ pins,p.1 ≠ b) :
    Inv X pins σ H' { s with heap:=h',gens:=g',drawn:=d',toks:=t' }:=by
  obtain ⟨m,⟨o,es,ep,ho,r⟩,_⟩:=id I.loc
  obtain ⟨sl,hL⟩:=u.any ho I.free fun z => (hch _ z).2.1 rfl
  exact I.step (ch:=ch) hch (fun b o hL hb hc e n => u.keep b o e n (fun z => (List.mem_cons.mp (I.stkSub b z)).elim hL hb) hc) (fun b o _ _ hc e n => u.any e n hc) (fun b o hc e n => u.free b o e n hc) (fun b o hc e => u.there b o e hc) u.tups u.frzs u.tbls (fun m' hm => by
    obtain ⟨o',es',ep',ho',r'⟩:=hm
    rw [ho] at ho'; cases ho'
    exact ⟨_,es',ep',hL,r'⟩) hok hg
theorem Inv.turned {t':Nat} {it:Addr} (I:Inv X pins σ H s) (k:∀ b o,b ≠ it → s.heap.get? b = some o → h'.get? b = some o) (hn:H it = none) (hL:it ≠ X.env.locals)
    (h1:it ∈ X.ex ∨ X.s₀.heap.objs.size ≤ it) (h2:∀ x c,X.env.cells.lookup x = some c → c ≠ it) (h3:∀ p ∈ X.pn ++ pins,p.1 ≠ it):Inv X pins σ H { s with heap:=h',toks:=t' }:=by
  have nit:∀ b u,H b = some u → b ≠ it:=fun b u e z => by rw [z,hn] at e; cases e
  refine I.step (g':=s.gens) (d':=s.drawn) (ch:=[it]) (fun b hb => ?_) (fun b o _ _ hc e _ => k b o (fun z => hc (by simp [z])) e) (fun b o _ _ hc e _ => ⟨o.slots,k b o (fun z => hc (by simp [z])) e⟩) (fun _ _ _ _ n => n)
    (fun b o hc e => ⟨o,k b o (fun z => hc (by simp [z])) e⟩) (fun _ _ e => e) (fun _ _ _ e => e) (fun b ps e => ⟨#[],by rw [e]; simp⟩) (fun m hm => ?_) (fun b u e => ?_) I.bare
  · have e:b = it:=by simpa using hb
    subst e
    exact ⟨h1,hL,h2,h3⟩
  · obtain ⟨o,es,ep,ho,r⟩:=hm
    exact ⟨o,es,ep,k _ o (Ne.symm hL) ho,r⟩
  · refine (I.hok b u e).stay (fun c v hc q => k c v ?_ q) (fun _ q => q) fun _ _ q => q
    rcases hc with z | z
    · rw [z]; exact nit b u e
    · exact nit c _ z
theorem Inv.tok (I:Inv X pins σ H s) (t:Nat):Inv X pins σ H { s with toks:=t }:=I.un (h':=s.heap) (t':=t) Un.refl I.hok
theorem Inv.kept {t':Nat} (I:Inv X pins σ H s) (k:∀ b u,s.heap.get? b = some u → h'.get? b = some u):Inv X pins σ H { s with heap:=h',toks:=t' }:=I.un (Un.kept k) (I.hok.kept k)
theorem Inv.laid {a:Addr} {o:HO} {t':Nat} (I:Inv X pins σ H s) (k:∀ b u,s.heap.get? b = some u → h'.get? b = some u) (hp:s.heap.objs.size ≤ a) (new:ObjOk X.prog X.w (upd H a o) h' a o) :
    Inv X pins σ (upd H a o) { s with heap:=h',toks:=t' }:=I.un (Un.laid k hp (I.hok.fresh hp)) (I.hok.laid k hp new)
theorem Inv.write {x e:Addr} {o:HO} {t':Nat} (I:Inv X pins σ H s) (mu:Mut (H x)) (he:e = x ∨ H e = some (.own x)) (k:∀ b u,b ≠ e → s.heap.get? b = some u → h'.get? b = some u) (heo:∃ u,h'.get? e = some u)
    (new:ObjOk X.prog X.w (upd H x o) h' x o):Inv X pins σ (upd H x o) { s with heap:=h',toks:=t' }:=I.un (Un.write mu he k heo) (I.hok.write mu he k heo new)
theorem Inv.pins_of {pins':List (Addr × Obj)} (I:Inv X pins σ H s) (h:∀ p ∈ pins',s.heap.get? p.1 = some p.2 ∧ H p.1 = none ∧ p.1 ≠ X.env.locals ∧ p.1 ∉ X.fs ∧ ∀ v,p.2.data ≠ .cell v):Inv X pins' σ H s :=
  ⟨I.ok,I.os,I.bare,I.base,I.loc,I.cell,I.free,I.freeC,fun p hp => (List.mem_append.mp hp).elim (fun z => I.pin p (List.mem_append_left _ z)) (h p),I.hok,I.len⟩
theorem nodup_ix {N:List Str} (hN:N.Nodup) {i j:Nat} {x:Str} (a:N[i]? = some x) (b:N[j]? = some x):i = j:=by
  obtain ⟨h1,e1⟩:=List.getElem?_eq_some_iff.mp a
  obtain ⟨h2,e2⟩:=List.getElem?_eq_some_iff.mp b
  exact (List.getElem_inj hN).mp (e1.trans e2.symm)
theorem store_ok2 {M:Model} {A:Around} {E:Value → Shared → Prop} {i:Nat} {x:Str} {v:V} {u:Value} {Q:Unit → Shared → Prop} (I:Inv X pins σ H s) (hN:X.N.Nodup) (hi:X.N[i]? = some x) (hx:Loc X.env.scope x) (r:RelV v u)
    (h:∀ s',Inv X pins (σ.set i (some v)) H s' → (∃ a,Heap.SameBut a s.heap s'.heap ∧ (a = X.env.locals ∨ X.env.cells.lookup x = some a)) → Q () s') (hf:X.fn x = true ∨ X.env.scope.names.lookup x = some .local:=by first | exact .inl rfl | exact .inr rfl | assumption):wpAny M A (storeName X.env x u) Q E s:=by
  obtain ⟨m,hn,hl⟩:=id I.loc
  have hcls:(X.env.scope.kind == .class || (X.env.scope.kind == .module && X.env.locals != X.env.globals)) = false:=by rw [I.ok.kind]; rfl
  have hiσ:i < σ.length:=by rw [I.len]; exact (List.getElem?_eq_some_iff.mp hi).1
  have cne:=I.cne
  have tracked:∀ {a:Addr} {h':Heap},(∃ o,s.heap.get? a = some o ∧ H a = none) → Heap.SameBut a s.heap h' → HOk X.prog X.w H h':=fun {a h'} ha hs b ob e => by
    obtain ⟨_,_,hfree⟩:=ha
    refine (I.hok b ob e).stay (fun c w' hc q => (hs.2 c ?_).trans q) (fun _ q => q) fun _ _ q => q
    rintro rfl
    rcases hc with rfl | hc
    · rw [hfree] at e; cases e
    · rw [hfree] at hc; cases hc
  rcases hx with hk | hk
  · refine wpAny_storeName_local hk hn (fun h' hn' hs => ?_) hcls
    obtain ⟨oL,_,_,hoL,_⟩:=id hn
    refine h _ ⟨I.ok,I.os,I.bare,⟨fun b o e n hb hx => ?_,fun b o e n hb hx => ?_,I.base.free,fun b o e hx => ?_,I.base.tups,I.base.frzs,I.base.tbls⟩,⟨_,hn',fun j y v' e1 e2 e3 => ?_⟩,fun y c e => ?_,I.free,I.freeC,fun p hp => ?_,tracked ⟨oL,hoL,I.free⟩ hs,by simpa using I.len⟩ ⟨_,hs,.inl rfl⟩
    · exact (hs.2 b (Nat.ne_of_lt (Nat.lt_of_lt_of_le (Heap.lt_size e) I.ok.above))).trans (I.base.keep b o e n hb hx)
    · obtain ⟨sl,e1⟩:=I.base.slot b o e n hb hx
      exact ⟨sl,(hs.2 b (Nat.ne_of_lt (Nat.lt_of_lt_of_le (Heap.lt_size e) I.ok.above))).trans e1⟩
    · obtain ⟨o',e1⟩:=I.base.there b o e hx
      exact ⟨o',(hs.2 b (Nat.ne_of_lt (Nat.lt_of_lt_of_le (Heap.lt_size e) I.ok.above))).trans e1⟩
    · by_cases hj:j = i
      · subst hj
        rw [hi] at e1; cases e1
        rw [List.getElem?_set_self hiσ] at e2
        cases e2
        exact ⟨u,r,.inl ⟨hk,by simp⟩⟩
      · rw [List.getElem?_set_ne (Ne.symm hj)] at e2
        obtain ⟨u',r',q⟩:=hl j y v' e1 e2 e3
        refine ⟨u',r',?_⟩
        rcases q with ⟨k,e⟩ | ⟨k,c,e,z⟩
        · refine .inl ⟨k,?_⟩
          have:y ≠ x:=fun e => hj (nodup_ix hN e1 (e ▸ hi))
          simp [this,e]
        · exact .inr ⟨k,c,e,z.sameBut hs (cne y c e)⟩
    · obtain ⟨w',z⟩:=I.cell y c e
      exact ⟨w',z.sameBut hs (cne y c e)⟩
    · obtain ⟨e,n,ne,nf,d⟩:=I.pin p hp
      exact ⟨(hs.2 p.1 ne).trans e,n,ne,nf,d⟩
  · have hfn:X.fn x = true:=by
      rcases hf with z | z
      · exact z
      · rw [z] at hk; cases hk
    obtain ⟨c,hc⟩:=I.ok.has x (.inl hk)
    obtain ⟨w',z⟩:=I.cell x c hc
    refine wpAny_storeName_cell I.ok.kind hk hc z (fun h' hc' hs => ?_)
    obtain ⟨oc,hoc,hocd⟩:=id z
    refine h { s with heap:=h' } ⟨I.ok,I.os,I.bare,⟨fun b o e n hb hx => ?_,fun b o e n hb hx => ?_,I.base.free,fun b o e hx => ?_,I.base.tups,I.base.frzs,I.base.tbls⟩,⟨m,hn.sameBut hs (Ne.symm (cne x c hc)),fun j y v' e1 e2 e3 => ?_⟩,fun y c' e => ?_,I.free,I.freeC,fun p hp => ?_,tracked ⟨oc,hoc,I.freeC x c hc⟩ hs,by simpa using I.len⟩ ⟨c,hs,.inr hc⟩
    · exact (hs.2 b (Nat.ne_of_lt (Nat.lt_of_lt_of_le (Heap.lt_size e) (I.ok.cab x c hfn hc)))).trans (I.base.keep b o e n hb hx)
    · obtain ⟨sl,e1⟩:=I.base.slot b o e n hb hx
      exact ⟨sl,(hs.2 b (Nat.ne_of_lt (Nat.lt_of_lt_of_le (Heap.lt_size e) (I.ok.cab x c hfn hc)))).trans e1⟩
    · obtain ⟨o',e1⟩:=I.base.there b o e hx
      exact ⟨o',(hs.2 b (Nat.ne_of_lt (Nat.lt_of_lt_of_le (Heap.lt_size e) (I.ok.cab x c hfn hc)))).trans e1⟩
    · by_cases hj:j = i
      · subst hj
        rw [hi] at e1; cases e1
        rw [List.getElem?_set_self hiσ] at e2
        cases e2
        exact ⟨u,r,.inr ⟨.inl hk,c,hc,hc'⟩⟩
      · rw [List.getElem?_set_ne (Ne.symm hj)] at e2
        obtain ⟨u',r',q⟩:=hl j y v' e1 e2 e3
        refine ⟨u',r',?_⟩
        rcases q with q | ⟨k,c',e,z'⟩
        · exact .inl q
        · refine .inr ⟨k,c',e,z'.sameBut hs ?_⟩
          rintro rfl
          exact hj (nodup_ix hN e1 (I.ok.inj _ _ _ e hc ▸ hi))
    · by_cases hcc:c' = c
      · subst hcc; exact ⟨_,hc'⟩
      · obtain ⟨w2,z2⟩:=I.cell y c' e
        exact ⟨w2,z2.sameBut hs hcc⟩
    · obtain ⟨e,n,ne,nf,d⟩:=I.pin p hp
      refine ⟨(hs.2 p.1 ?_).trans e,n,ne,nf,d⟩
      intro q
      rw [q,hoc] at e
      have q':oc = p.2:=Option.some.inj e
      exact d w' (by rw [← q']; exact hocd)
theorem store_ok {M:Model} {A:Around} {E:Value → Shared → Prop} {i:Nat} {x:Str} {v:V} {u:Value} {Q:Unit → Shared → Prop} (I:Inv X pins σ H s) (hN:X.N.Nodup) (hi:X.N[i]? = some x) (hx:Loc X.env.scope x) (r:RelV v u)
    (h:∀ s',Inv X pins (σ.set i (some v)) H s' → Q () s') (hf:X.fn x = true ∨ X.env.scope.names.lookup x = some .local:=by first | exact .inl rfl | exact .inr rfl | assumption):wpAny M A (storeName X.env x u) Q E s :=
  store_ok2 I hN hi hx r (fun s' I' _ => h s' I') hf
theorem Inv.call' {s':Shared} {ch:List Addr} (I:Inv X pins σ H s) (ho:s'.os = s.os) (u:Un (frs X.stack) ch H H' s.heap s'.heap) (hok:HOk X.prog X.w H' s'.heap) (hg:AllBare s'.gens)
    (hch:∀ b ∈ ch,(b ∈ X.ex ∨ X.s₀.heap.objs.size ≤ b) ∧ b ≠ X.env.locals ∧ (∀ x c,X.env.cells.lookup x = some c → c ≠ b) ∧ ∀ p ∈ X.pn ++ pins,p.1 ≠ b):Inv X pins σ H' s':=by
  obtain ⟨h',g',d',t',o'⟩:=s'
  have e:o' = s.os:=ho
  subst e
  exact I.call (g':=g') (t':=t') (d':=d') u hok hg hch
end
abbrev XK:=Value → Option Addr → Hp → Prop
abbrev St:=List (Option V)
abbrev VK:=V → Hp → Prop
abbrev TE:=St → Hp → VK → Prop
abbrev TT:=St → Hp → (Bool → Hp → Prop) → Prop
abbrev TA:=St → Hp → (List V → Hp → Prop) → Prop
structure Ends where
  nx:St → Hp → Prop
  rt:VK
  bk:St → Hp → Prop:=fun _ _ => False
  ct:St → Hp → Prop:=fun _ _ => False
abbrev TS:=Ends → St → Hp → Prop
def EP (X:Cx) (pins:List (Addr × Obj)) (σ:St) (Q:VK) (u:Value) (s':Shared):Prop:=∃ v H',Inv X pins σ H' s' ∧ RelV v u ∧ Q v H'
def TP (X:Cx) (pins:List (Addr × Obj)) (σ:St) (Q:Bool → Hp → Prop) (b:Bool) (s':Shared):Prop:=∃ H',Inv X pins σ H' s' ∧ Q b H'
def AP (X:Cx) (pins:List (Addr × Obj)) (σ:St) (Q:List V → Hp → Prop) (us:List Value) (s':Shared):Prop:=∃ vs H',Inv X pins σ H' s' ∧ Vals vs us ∧ Q vs H'
def SP (X:Cx) (pins:List (Addr × Obj)) (D:Ends) (f:Flow) (s':Shared):Prop :=
  match f with
  | .next => ∃ σ' H',Inv X pins σ' H' s' ∧ D.nx σ' H'
  | .brk => ∃ σ' H',Inv X pins σ' H' s' ∧ D.bk σ' H'
  | .cont => ∃ σ' H',Inv X pins σ' H' s' ∧ D.ct σ' H'
  | .ret u => ∃ v σ' H',Inv X pins σ' H' s' ∧ RelV v u ∧ D.rt v H'
def PE (X:Cx) (e:Expr) (t:TE):Prop :=
  ∀ (pins:List (Addr × Obj)) (s:Shared) (σ:St) (H:Hp) (Q:VK),Inv X pins σ H s → t σ H Q → wpAny (model X.prog X.w) X.A (eval e X.env) (EP X pins σ Q) X.xe s
def PT (X:Cx) (e:Expr) (t:TT):Prop :=
  ∀ (pins:List (Addr × Obj)) (s:Shared) (σ:St) (H:Hp) (Q:Bool → Hp → Prop),Inv X pins σ H s → t σ H Q → wpAny (model X.prog X.w) X.A (isTrue e X.env (eval e X.env)) (TP X pins σ Q) X.xe s
def PW (X:Cx) (e:Expr) (t:TT):Prop :=
  ∀ (whole:Sem Value) (pins:List (Addr × Obj)) (s:Shared) (σ:St) (H:Hp) (Q:Bool → Hp → Prop),Inv X pins σ H s → t σ H Q → wpAny (model X.prog X.w) X.A (isTrue e X.env whole) (TP X pins σ Q) X.xe s
def PA (X:Cx) (es:List Expr) (t:TA):Prop :=
  ∀ (pos:Pos) (pins:List (Addr × Obj)) (s:Shared) (σ:St) (H:Hp) (Q:List V → Hp → Prop),Inv X pins σ H s → t σ H Q → wpAny (model X.prog X.w) X.A (spliced (backTo pos (starEach es X.env))) (AP X pins σ Q) X.xe s
def PS (X:Cx) (st:Stmt) (t:TS):Prop :=
  ∀ (pins:List (Addr × Obj)) (s:Shared) (σ:St) (H:Hp) (D:Ends),Inv X pins σ H s → t D σ H → wpAny (model X.prog X.w) X.A (exec st X.env) (SP X pins D) X.xe s
def PSs (X:Cx) (st:List Stmt) (t:TS):Prop :=
  ∀ (pins:List (Addr × Obj)) (s:Shared) (σ:St) (H:Hp) (D:Ends),Inv X pins σ H s → t D σ H → wpAny (model X.prog X.w) X.A (execs st X.env) (SP X pins D) X.xe s
theorem thn {α:Type} {t:Sem α} {Q Q':α → Shared → Prop} {M:Model} {A:Around} {E:Value → Shared → Prop} {s:Shared} (h:wpAny M A t Q E s) (hQ:∀ a s,Q a s → Q' a s):wpAny M A t Q' E s:=wpAny_mono h hQ fun _ _ x => x
end L2
namespace L2
open PySem PySem.Spec PyProof.Rows
section
variable {X:Cx}
def tVar (i:Nat):TE:=fun σ H Q => ∃ v,σ[i]? = some (some v) ∧ Q v H
def tC (v:V):TE:=fun _ H Q => Q v H
theorem pe_var {i:Nat} {x:Str} {pos:Pos} (hN:X.N[i]? = some x) (hv:Vis X.env.scope x) (hd:(x == ("__debug__":Str)) = false:=by decide) (hcd:(x == ("__classdict__":Str)) = false:=by decide):PE X (.Name x pos) (tVar i):=by
  intro pins s σ H Q I h
  obtain ⟨v,e,h⟩:=h
  obtain ⟨m,hn,hl⟩:=I.loc
  obtain ⟨u,r,l⟩:=hl i x v hN e hv
  have fin:EP X pins σ Q u s:=⟨v,H,I,r,h⟩
  rcases l with ⟨hk,hm⟩ | ⟨hk,c,hc,hcell⟩
  · exact wpAny_Name (wpAny_loadName_local I.ok.kind hk hn hm fin) hd
  · rcases hk with hk | hk
    · exact wpAny_Name (wpAny_loadName_cell I.ok.kind hk hc hcell fin) hd
    · exact wpAny_Name (wpAny_loadName_free I.ok.kind hk hc hcell fin hcd) hd
theorem pe_int {i j pos}:PE X (.Constant (.int i) j pos) (tC (.int i)):=fun _ _ _ H _ I h => wpAny_Constant_int ⟨.int i,H,I.tok _,⟨_,rfl⟩,h⟩
theorem pe_bl {b j pos}:PE X (.Constant (.bool b) j pos) (tC (.bl b)):=fun _ _ _ H _ I h => Constant_bool ⟨.bl b,H,I,rfl,h⟩
theorem pe_non {j pos}:PE X (.Constant .none j pos) (tC .non):=fun _ _ _ H _ I h => Constant_none ⟨.non,H,I,rfl,h⟩
theorem pe_str {x j pos}:PE X (.Constant (.str x) j pos) (tC (.str x)):=fun _ _ _ H _ I h => Calls.Constant_str ⟨.str x,H,I.tok _,⟨_,rfl⟩,h⟩
def Gl (X:Cx) (x:Str):Prop:=X.env.kindOf x = some .globalImplicit
theorem ld_glob {E:Value → Shared → Prop} {pins:List (Addr × Obj)} {s:Shared} {σ:St} {H:Hp} {x:Str} {u:Value} {pos:Pos} {Q:Value → Shared → Prop} (I:Inv X pins σ H s) (hg:Gl X x) (hm:X.mg x = some u) (h:Q u s)
    (hd:(x == ("__debug__":Str)) = false:=by decide):wpAny (model X.prog X.w) X.A (eval (.Name x pos) X.env) Q E s :=
  Calls.Name_function_global I.ok.kind hg (Calls.loadGlobal_global (by rw [I.ok.glob]; exact I.mod.glob.keeps I.bk) hm h) hd
theorem ld_blt {E:Value → Shared → Prop} {pins:List (Addr × Obj)} {s:Shared} {σ:St} {H:Hp} {x:Str} {u:Value} {pos:Pos} {Q:Value → Shared → Prop} (I:Inv X pins σ H s) (hg:Gl X x) (hm:X.mg x = none) (hv:bootBuiltins x = some u) (h:Q u s)
    (hn:x ≠ "__name__":=by decide) (hd:(x == ("__debug__":Str)) = false:=by decide):wpAny (model X.prog X.w) X.A (eval (.Name x pos) X.env) Q E s:=by
  obtain ⟨mb,h1,h2⟩:=I.mod.blt
  exact Calls.Name_function_global I.ok.kind hg (Calls.loadGlobal_builtin (by rw [I.ok.glob]; exact I.mod.glob.keeps I.bk) hm (by rw [I.ok.blt]; exact h1.keeps I.bk) ((h2 x hn).trans hv) h) hd
theorem pe_glob {x:Str} {v:V} {u:Value} {pos:Pos} (hg:Gl X x) (hm:X.mg x = some u) (r:RelV v u) (hd:(x == ("__debug__":Str)) = false:=by decide):PE X (.Name x pos) (tC v) :=
  fun _ _ _ H _ I h => ld_glob I hg hm ⟨v,H,I,r,h⟩ hd
theorem pe_bltn {x:Str} {v:V} {u:Value} {pos:Pos} (hg:Gl X x) (hm:X.mg x = none) (hv:bootBuiltins x = some u) (r:RelV v u) (hn:x ≠ "__name__":=by decide) (hd:(x == ("__debug__":Str)) = false:=by decide):PE X (.Name x pos) (tC v) :=
  fun _ _ _ H _ I h => ld_blt I hg hm hv ⟨v,H,I,r,h⟩ hn hd
def t2I (ta tb:TE) (k:Int → Int → Hp → Prop):St → Hp → Prop:=fun σ H => ta σ H fun x H1 => tb σ H1 fun y H2 => ∃ i j,x = .int i ∧ y = .int j ∧ k i j H2
variable {a b:Expr} {ta tb:TE} {pos:Pos}
def PC (X:Cx) (op:CmpOp) (a b:Expr) (t:TE):Prop :=
  ∀ (pins:List (Addr × Obj)) (s:Shared) (σ:St) (H:Hp) (Q:VK),Inv X pins σ H s → t σ H Q →
    wpAny (model X.prog X.w) X.A (eval a X.env) (fun v s₁ => wpAny (model X.prog X.w) X.A (eval b X.env) (fun u s₂ => wpAny (model X.prog X.w) X.A (compareOp op v u) (EP X pins σ Q) X.xe s₂) X.xe s₁) X.xe s
def tCmp (p:Int → Int → Bool) (ta tb:TE):TE:=fun σ H Q => t2I ta tb (fun i j H2 => Q (.bl (p i j)) H2) σ H
abbrev tLt:TE → TE → TE:=tCmp fun i j => decide (i < j)
abbrev tLe:TE → TE → TE:=tCmp fun i j => decide (i ≤ j)
abbrev tGt:TE → TE → TE:=tCmp fun i j => decide (j < i)
abbrev tGe:TE → TE → TE:=tCmp fun i j => decide (j ≤ i)
abbrev tEqI:TE → TE → TE:=tCmp fun i j => decide (i = j)
abbrev tNeI:TE → TE → TE:=tCmp fun i j => !decide (i = j)
def tB (t:TE):TT:=fun σ H Q => t σ H fun x H1 => ∃ c,x = .bl c ∧ Q c H1
theorem pe_cmp {op:CmpOp} {t:TE} (h:PC X op a b t) (h1:behindInMarks op b = false:=by first | exact nobehind _ (by decide) (by decide) | rfl):PE X (.Compare a [op] [b] pos) t:=fun pins s σ H Q I hw => wpAny_Compare1 (h pins s σ H Q I hw) h1
theorem pt_cmp {op:CmpOp} {t:TE} (h:PC X op a b t) (h1:behindInMarks op b = false:=by first | exact nobehind _ (by decide) (by decide) | rfl):PT X (.Compare a [op] [b] pos) (tB t):=by
  intro pins s σ H Q I hw
  refine wpAny_isTrue_Compare1 (thn (h pins s σ H _ I hw) fun v s1 h1 => thn h1 fun u s2 h2 => thn h2 fun c s3 ⟨x,H1,I1,r1,q1⟩ => ?_) h1
  obtain ⟨d,rfl,q⟩:=q1
  cases r1
  exact wpAny_truthy_bool ⟨H1,I1,q⟩
variable {tA tB':TT} {rest:List Expr}
def tAnd (t u:TT):TT:=fun σ H Q => t σ H fun c H1 => if c = true then u σ H1 Q else Q false H1
def tOr (t u:TT):TT:=fun σ H Q => t σ H fun c H1 => if c = true then Q true H1 else u σ H1 Q
def tNot (t:TT):TT:=fun σ H Q => t σ H fun c H1 => Q (!c) H1
theorem pw_and1 (ha:PT X a tA):PW X (.BoolOp .And [a] pos) tA:=by
  intro wh pins s σ H Q I h
  refine isTrue_and (thn (ha pins s σ H Q I h) fun c s1 e => ?_)
  cases c with
  | true => exact isTrue_and_nil e
  | false => exact e
theorem pw_or1 (ha:PT X a tA):PW X (.BoolOp .Or [a] pos) tA:=by
  intro wh pins s σ H Q I h
  refine isTrue_or (thn (ha pins s σ H Q I h) fun c s1 e => ?_)
  cases c with
  | false => exact isTrue_or_nil e
  | true => exact e
theorem pw_and (ha:PT X a tA) (hb:PW X (.BoolOp .And (b :: rest) pos) tB'):PW X (.BoolOp .And (a :: b :: rest) pos) (tAnd tA tB'):=by
  intro wh pins s σ H Q I h
  refine isTrue_and (thn (ha pins s σ H _ I h) fun c s1 ⟨H1,I1,q1⟩ => ?_)
  cases c with
  | true => exact hb wh pins s1 σ H1 Q I1 q1
  | false => exact ⟨H1,I1,q1⟩
theorem pw_or (ha:PT X a tA) (hb:PW X (.BoolOp .Or (b :: rest) pos) tB'):PW X (.BoolOp .Or (a :: b :: rest) pos) (tOr tA tB'):=by
  intro wh pins s σ H Q I h
  refine isTrue_or (thn (ha pins s σ H _ I h) fun c s1 ⟨H1,I1,q1⟩ => ?_)
  cases c with
  | true => exact ⟨H1,I1,q1⟩
  | false => exact hb wh pins s1 σ H1 Q I1 q1
theorem pt_not (ha:PT X a tA):PT X (.UnaryOp .Not a pos) (tNot tA):=by
  intro pins s σ H Q I h
  exact isTrue_not (ha pins s σ H (fun c H1 => Q (!c) H1) I h)
def tAndV (ta tb:TE):TE:=fun σ H Q => ta σ H fun x H1 => ∃ c,x = .bl c ∧ if c = true then tb σ H1 Q else Q (.bl false) H1
def tOrV (ta tb:TE):TE:=fun σ H Q => ta σ H fun x H1 => ∃ c,x = .bl c ∧ if c = true then Q (.bl true) H1 else tb σ H1 Q
def tNotV (ta:TE):TE:=fun σ H Q => ta σ H fun x H1 => ∃ c,x = .bl c ∧ Q (.bl (!c)) H1
theorem pe_one {op} {t:TE} (h:PE X a t):PE X (.BoolOp op [a] pos) t:=fun pins s σ H Q I hw => BoolOp_one (h pins s σ H Q I hw)
theorem pe_and (ha:PE X a ta) (hb:PE X (.BoolOp .And (b :: rest) pos) tb):PE X (.BoolOp .And (a :: b :: rest) pos) (tAndV ta tb):=by
  intro pins s σ H Q I h
  refine BoolOp_and (thn (ha pins s σ H _ I h) fun v s1 ⟨x,H1,I1,r1,q1⟩ => ?_)
  obtain ⟨c,rfl,q1⟩:=q1
  cases r1
  refine wpAny_truthy_bool ?_
  cases c with
  | true => exact hb pins s1 σ H1 Q I1 q1
  | false => exact ⟨.bl false,H1,I1,rfl,q1⟩
theorem pe_or (ha:PE X a ta) (hb:PE X (.BoolOp .Or (b :: rest) pos) tb):PE X (.BoolOp .Or (a :: b :: rest) pos) (tOrV ta tb):=by
  intro pins s σ H Q I h
  refine BoolOp_or (thn (ha pins s σ H _ I h) fun v s1 ⟨x,H1,I1,r1,q1⟩ => ?_)
  obtain ⟨c,rfl,q1⟩:=q1
  cases r1
  refine wpAny_truthy_bool ?_
  cases c with
  | false => exact hb pins s1 σ H1 Q I1 q1
  | true => exact ⟨.bl true,H1,I1,rfl,q1⟩
theorem pe_not (ha:PE X a ta):PE X (.UnaryOp .Not a pos) (tNotV ta):=by
  intro pins s σ H Q I h
  refine UnaryOp_ (thn (ha pins s σ H _ I h) fun v s1 ⟨x,H1,I1,r1,q1⟩ => ?_)
  obtain ⟨c,rfl,q1⟩:=q1
  cases r1
  exact not_of (wpAny_truthy_bool ⟨.bl (!c),H1,I1,rfl,q1⟩)
def tIf (t:TT) (ta tb:TE):TE:=fun σ H Q => t σ H fun c H1 => if c = true then ta σ H1 Q else tb σ H1 Q
theorem pe_ifExp {c:Expr} (hc:PT X c tA) (ha:PE X a ta) (hb:PE X b tb):PE X (.IfExp c a b pos) (tIf tA ta tb):=by
  intro pins s σ H Q I h
  refine wpAny_IfExp (thn (hc pins s σ H _ I h) fun d s1 ⟨H1,I1,q1⟩ => ?_)
  cases d with
  | true => exact ha pins s1 σ H1 Q I1 q1
  | false => exact hb pins s1 σ H1 Q I1 q1
end
end L2
namespace L2
open PySem PySem.Spec PyProof.Rows
def SqL (K:PySem.W.Frag) (H:Hp) (a:Addr) (xs:List V):Prop :=
  Rd H a (.lst xs) ∨
    ∃ (o:Obj) (its:Array Value) (n:Nat),K.lookup a = some o ∧ o.cls = .type "list" ∧ o.dict = none ∧ o.data = .seq its n ∧ its.size ≤ sizeLine ∧ Vals xs its.toList
def SqT (K:PySem.W.Frag) (H:Hp) (a:Addr) (xs:List V):Prop :=
  Rd H a (.tup xs) ∨
    ∃ (o:Obj) (its:Array Value) (n:Nat),K.lookup a = some o ∧ o.cls = .type "tuple" ∧ o.data = .seq its n ∧ its.size ≤ sizeLine ∧ Vals xs its.toList
def absV:Value → Option V
  | .none => some .non
  | .bool b => some (.bl b)
  | .int i _ => some (.int i)
  | .str x _ => some (.str x)
  | .bytes b _ => some (.byt b)
  | .float b _ => some (.flt b)
  | .ref a => some (.ref a)
  | .type n => some (.ty n)
  | _ => none
theorem RelV.abs {x:V} {u:Value} (r:RelV x u):absV u = some x:=by
  cases x with
  | non => cases r; rfl
  | bl _ => cases r; rfl
  | int _ => obtain ⟨t,rfl⟩:=r; rfl
  | str _ => obtain ⟨t,rfl⟩:=r; rfl
  | byt _ => obtain ⟨t,rfl⟩:=r; rfl
  | flt _ => obtain ⟨t,rfl⟩:=r; rfl
  | ref _ => cases r; rfl
  | ty _ => cases r; rfl
theorem RelV.inj {x y:V} {u:Value} (r:RelV x u) (q:RelV y u):x = y:=Option.some.inj (r.abs.symm.trans q.abs)
theorem Vals.inj:∀ {xs ys:List V} {us:List Value},Vals xs us → Vals ys us → xs = ys
  | _,_,_,.nil,.nil => rfl
  | _,_,_,.cons r t,.cons r' t' => by rw [r.inj r',Vals.inj t t']
section
variable {X:Cx} {pins:List (Addr × Obj)} {σ:St} {H:Hp} {s:Shared} {a:Addr} {xs ys:List V}
theorem SqL.of {K:PySem.W.Frag} (h:H a = some (.lst xs)):SqL K H a xs:=.inl (.inl h)
theorem SqT.of {K:PySem.W.Frag} (h:H a = some (.tup xs)):SqT K H a xs:=.inl (.inl h)
theorem Inv.list (I:Inv X pins σ H s) (h:SqL X.K H a xs):∃ its:List Value,Vals xs its ∧ PlainL s.heap a its.toArray ∧ xs.length ≤ sizeLine:=by
  rcases h with h | ⟨o,its,n,hk,hc,hd,hs,hz,r⟩
  · obtain ⟨z,its,n,r,e⟩:=h.ok I.hok
    exact ⟨its,r,⟨_,n,e,rfl,rfl,rfl⟩,z⟩
  · refine ⟨its.toList,r,⟨o,n,I.kIn a o hk,hc,hd,by simpa using hs⟩,?_⟩
    have e:=r.length
    simp only [Array.length_toList] at e
    omega
theorem Inv.tuple (I:Inv X pins σ H s) (h:SqT X.K H a xs):∃ its:List Value,Vals xs its ∧ IsTup s.heap a its.toArray ∧ xs.length ≤ sizeLine:=by
  rcases h with h | ⟨o,its,n,hk,hc,hs,hz,r⟩
  · obtain ⟨z,its,r,p,_⟩:=h.ok I.hok
    exact ⟨its,r,p,z⟩
  · refine ⟨its.toList,r,⟨o,I.kIn a o hk,hc,n,by simpa using hs⟩,?_⟩
    have e:=r.length
    simp only [Array.length_toList] at e
    omega
theorem Inv.list_inj (I:Inv X pins σ H s) (h:SqL X.K H a xs) (h':SqL X.K H a ys):xs = ys:=by
  obtain ⟨its,r,⟨o,n,e,_,_,d⟩,_⟩:=I.list h
  obtain ⟨its',r',⟨o',n',e',_,_,d'⟩,_⟩:=I.list h'
  rw [e] at e'; cases e'
  rw [d] at d'
  injection d' with d1 _
  have:its = its':=by simpa using congrArg Array.toList d1
  subst this
  exact r.inj r'
theorem Inv.tuple_inj (I:Inv X pins σ H s) (h:SqT X.K H a xs) (h':SqT X.K H a ys):xs = ys:=by
  obtain ⟨its,r,⟨o,e,_,n,d⟩,_⟩:=I.tuple h
  obtain ⟨its',r',⟨o',e',_,n',d'⟩,_⟩:=I.tuple h'
  rw [e] at e'; cases e'
  rw [d] at d'
  injection d' with d1 _
  have:its = its':=by simpa using congrArg Array.toList d1
  subst this
  exact r.inj r'
end
abbrev Cx.wish (X:Cx) (E:Value → Shared → Prop):Cx:={ X with xe:=E }
abbrev Cx.nox (X:Cx):Cx:=X.wish fun _ _ => False
section
variable {X:Cx} {pins:List (Addr × Obj)} {σ:St} {H:Hp} {s:Shared} {E:Value → Shared → Prop}
end
section
variable {X:Cx} {st:Stmt} {rest:List Stmt} {t u:TS} {e:Expr} {te:TE} {pos:Pos}
def tNext:TS:=fun D σ H => D.nx σ H
def tSeq (t u:TS):TS:=fun D σ H => t { D with nx:=u D } σ H
theorem pss_nil:PSs X [] tNext:=fun _ _ σ H _ I h => wpAny_execs_nil ⟨σ,H,I,h⟩
theorem pss_cons (h1:PS X st t) (h2:PSs X rest u):PSs X (st :: rest) (tSeq t u):=by
  intro pins s σ H D I h
  refine wpAny_execs_cons (thn (h1 pins s σ H { D with nx:=u D } I h) fun f s1 q => ?_)
  cases f with
  | next =>
    obtain ⟨σ',H',I',q⟩:=q
    exact h2 pins s1 σ' H' D I' q
  | ret v => exact q
  | brk => exact q
  | cont => exact q
theorem pss_one (h1:PS X st t):PSs X [st] t:=by
  intro pins s σ H D I h
  refine wpAny_execs_cons (thn (h1 pins s σ H D I h) fun f s1 q => ?_)
  cases f with
  | next => exact wpAny_execs_nil q
  | ret v => exact q
  | brk => exact q
  | cont => exact q
theorem ps_pass:PS X (.Pass pos) tNext:=fun _ _ σ H _ I h => wpAny_Pass ⟨σ,H,I,h⟩
theorem Inv.quiet {pins:List (Addr × Obj)} {σ:St} {H:Hp} {s:Shared} (I:Inv X pins σ H s):interactive X.env = false:=by simp [interactive,I.ok.kind]
def tDrop (te:TE):TS:=fun D σ H => te σ H fun _ H1 => D.nx σ H1
theorem ps_expr (he:PE X e te) (hs:swapsWith e none pos.line X.env = pure false:=by rfl):PS X (.Expr e pos) (tDrop te):=by
  intro pins s σ H D I h
  exact wpAny_Expr_any (thn (he pins s σ H _ I h) fun v s1 ⟨x,H1,I1,r1,q1⟩ => ⟨σ,H1,I1,q1⟩) I.quiet hs
def tRet (te:TE):TS:=fun D σ H => te σ H D.rt
theorem ps_ret (he:PE X e te):PS X (.Return (some e) pos) (tRet te):=by
  intro pins s σ H D I h
  exact wpAny_Return_some (thn (he pins s σ H _ I h) fun v s1 ⟨x,H1,I1,r1,q1⟩ => ⟨x,σ,H1,I1,r1,q1⟩)
def tRetN:TS:=fun D _ H => D.rt .non H
theorem ps_retN:PS X (.Return none pos) tRetN:=fun _ _ σ H _ I h => wpAny_Return_none ⟨.non,σ,H,I,rfl,h⟩
def tIfS (c:TT) (t u:TS):TS:=fun D σ H => c σ H fun b H1 => if b = true then t D σ H1 else u D σ H1
theorem ps_if {c:Expr} {a b:List Stmt} {tc:TT} (hc:PT X c tc) (ha:PSs X a t) (hb:PSs X b u):PS X (.If c a b pos) (tIfS tc t u):=by
  intro pins s σ H D I h
  refine wpAny_If (thn (hc pins s σ H _ I h) fun d s1 ⟨H1,I1,q1⟩ => ?_)
  cases d with
  | true => exact ha pins s1 σ H1 D I1 q1
  | false => exact hb pins s1 σ H1 D I1 q1
def tNever:TS:=fun _ _ _ => False
theorem ps_never:PS X st tNever:=fun _ _ _ _ _ _ h => h.elim
theorem pss_never {sts:List Stmt}:PSs X sts tNever:=fun _ _ _ _ _ _ h => h.elim
end
abbrev TG:=V → St → Hp → (St → Hp → Prop) → Prop
abbrev TGs:=List V → St → Hp → (St → Hp → Prop) → Prop
def PG (X:Cx) (target:Expr) (t:TG):Prop :=
  ∀ (pins:List (Addr × Obj)) (s:Shared) (σ:St) (H:Hp) (v:V) (u:Value) (Q:St → Hp → Prop),Inv X pins σ H s → RelV v u → t v σ H Q →
    wpAny (model X.prog X.w) X.A (assign target X.env u) (fun _ s' => ∃ σ' H',Inv X pins σ' H' s' ∧ Q σ' H') X.xe s
def PGs (X:Cx) (ts:List Expr) (t:TGs):Prop :=
  ∀ (pins:List (Addr × Obj)) (s:Shared) (σ:St) (H:Hp) (vs:List V) (us:List Value) (Q:St → Hp → Prop),Inv X pins σ H s → Vals vs us → t vs σ H Q →
    wpAny (model X.prog X.w) X.A (assignInOrder ((assignEach ts X.env).map (·.2)) us) (fun _ s' => ∃ σ' H',Inv X pins σ' H' s' ∧ Q σ' H') X.xe s
abbrev TSet:=V → V → V → Hp → (Hp → Prop) → Prop
def PSet (X:Cx) (t:TSet):Prop :=
  ∀ (pins:List (Addr × Obj)) (s:Shared) (σ:St) (H:Hp) (o i v:V) (ov iv u:Value) (Q:Hp → Prop),Inv X pins σ H s → RelV o ov → RelV i iv → RelV v u → t o i v H Q →
    wpAny (model X.prog X.w) X.A (setItem ov iv u) (fun _ s' => ∃ H',Inv X pins σ H' s' ∧ Q H') X.xe s
abbrev TIp:=V → V → Hp → VK → Prop
def PIp (X:Cx) (op:Operator) (t:TIp):Prop :=
  ∀ (pins:List (Addr × Obj)) (s:Shared) (σ:St) (H:Hp) (x y:V) (v u:Value) (Q:VK),Inv X pins σ H s → RelV x v → RelV y u → t x y H Q →
    wpAny (model X.prog X.w) X.A (inplaceOp op v u) (EP X pins σ Q) X.xe s
section
variable {X:Cx} {pos:Pos}
def gName (i:Nat):TG:=fun v σ H Q => Q (σ.set i (some v)) H
theorem pg_name {i:Nat} {x:Str} (hN:X.N.Nodup) (hi:X.N[i]? = some x) (hx:Loc X.env.scope x) (hf:X.fn x = true ∨ X.env.scope.names.lookup x = some .local:=by first | exact .inl rfl | exact .inr rfl | assumption):PG X (.Name x pos) (gName i):=by
  intro pins s σ H v u Q I r h
  exact wpAny_assign_Name (store_ok I hN hi hx r (fun s' I' => ⟨_,H,I',h⟩) hf)
def gNil:TGs:=fun vs σ H Q => vs = [] ∧ Q σ H
def gCons (t:TG) (u:TGs):TGs:=fun vs σ H Q => ∃ v r,vs = v :: r ∧ t v σ H fun σ' H' => u r σ' H' Q
theorem pgs_nil:PGs X [] gNil:=by
  intro pins s σ H vs us Q I r h
  obtain ⟨e,h⟩:=h
  subst e
  cases r
  exact assignInOrder_nil ⟨σ,H,I,h⟩
theorem pgs_cons {e:Expr} {es:List Expr} {t:TG} {u:TGs} (h1:PG X e t) (h2:PGs X es u)
    (hs:(assignEach (e :: es) X.env).map (·.2) = assign e X.env :: (assignEach es X.env).map (·.2):=by rfl):PGs X (e :: es) (gCons t u):=by
  intro pins s σ H vs us Q I r h
  obtain ⟨v,vr,e1,h⟩:=h
  subst e1
  cases r with
  | cons r rr =>
    rw [hs]
    refine assignInOrder_cons (thn (h1 pins s σ H _ _ _ I r h) fun _ s1 ⟨σ1,H1,I1,q1⟩ => ?_)
    exact h2 pins s1 σ1 H1 _ _ Q I1 rr q1
def gTup (K:PySem.W.Frag) (n:Nat) (t:TGs):TG:=fun v σ H Q => ∃ a xs,v = .ref a ∧ SqT K H a xs ∧ xs.length = n ∧ t xs σ H Q
theorem pg_tup {es:List Expr} {k:Nat} {t:TGs} {n:Nat} (hc:X.calm = true) (h:PGs X es t)
    (hn:(assignEach es X.env).length = n:=by rfl) (hst:(assignEach es X.env).findIdx? (·.1) = none:=by rfl):PG X (.Tuple es k pos) (gTup X.K n t):=by
  intro pins s σ H v u Q I r hw
  obtain ⟨a,xs,e1,hq,hl,hw⟩:=hw
  subst e1
  cases r
  obtain ⟨its,rv,ht,hz⟩:=I.tuple hq
  refine assign_Tuple_tuple (I.ok.hd hc) ht (by simp [hn,← hl,rv.length]) hst fun h' hx => ?_
  have I1:Inv X pins σ H { s with heap:=h' }:=I.kept (t':=s.toks) fun b o e => hx b o (Nat.ne_of_lt (Heap.lt_size e)) e
  exact h pins _ σ H xs _ Q I1 (by simpa using rv) hw
def gSub (to ti:TE) (t:TSet):TG:=fun v σ H Q => to σ H fun o H1 => ti σ H1 fun i H2 => t o i v H2 fun H3 => Q σ H3
theorem pg_sub {o i:Expr} {to ti:TE} {t:TSet} (ho:PE X o to) (hi:PE X i ti) (hs:PSet X t)
    (ha:∀ v,assign (.Subscript o i pos) X.env v = (do
      let ov ← holding [v] (eval o X.env)
      let iv ← holding [v,ov] (eval i X.env)
      standAt pos
      holding [v,ov,iv] (setItem ov iv v)
      release [v,ov,iv] []):=by intro _; rfl):PG X (.Subscript o i pos) (gSub to ti t):=by
  intro pins s σ H v u Q I r h
  rw [ha]
  refine wpAny_bind (wpAny_holding (thn (ho pins s σ H _ I h) fun ov s1 ⟨x,H1,I1,r1,q1⟩ => ?_))
  refine wpAny_bind (wpAny_holding (thn (hi pins s1 σ H1 _ I1 q1) fun iv s2 ⟨y,H2,I2,r2,q2⟩ => ?_))
  refine wpAny_bind (wpAny_standAt (wpAny_bind (wpAny_holding (thn (hs pins s2 σ H2 x y v ov iv u _ I2 r1 r2 r q2) fun _ s3 ⟨H3,I3,q3⟩ => ?_))))
  exact wpAny_release ⟨σ,H3,I3,q3⟩
def tAsg (te:TE) (g:TG):TS:=fun D σ H => te σ H fun x H1 => g x σ H1 D.nx
theorem ps_asg {tg e:Expr} {te:TE} {g:TG} (he:PE X e te) (hg:PG X tg g) (hs:swapsWithSole [tg] e pos.line X.env = pure false:=by rfl) (hw:swappedStores [tg] e X.env = pure none:=by rfl)
    (h1:(assignEach [tg] X.env).map (·.2) = [assign tg X.env]:=by rfl):PS X (.Assign [tg] e pos) (tAsg te g):=by
  intro pins s σ H D I h
  refine wpAny_Assign_stores (thn (he pins s σ H _ I h) fun v s1 ⟨x,H1,I1,r1,q1⟩ => ?_) hs hw
  rw [h1]
  exact thn (hg pins s1 σ H1 x v _ I1 r1 q1) fun _ s2 q => q
theorem ps_set {i:Nat} {x:Str} {e:Expr} {te:TE} {pos':Pos} (hN:X.N.Nodup) (hi:X.N[i]? = some x) (hx:Loc X.env.scope x) (he:PE X e te) (hs:swapsWith e (some (.Name x pos')) pos.line X.env = pure false:=by rfl) (hf:X.fn x = true ∨ X.env.scope.names.lookup x = some .local:=by first | exact .inl rfl | exact .inr rfl | assumption) :
    PS X (.Assign [.Name x pos'] e pos) (tAsg te (gName i)):=by
  intro pins s σ H D I h
  refine wpAny_Assign_Name (thn (he pins s σ H _ I h) fun v s1 ⟨y,H1,I1,r1,q1⟩ => ?_) hs
  exact store_ok I1 hN hi hx r1 (fun s2 I2 => ⟨_,H1,I2,q1⟩) hf
def tAug (i:Nat) (te:TE) (ti:TIp):TS:=fun D σ H => ∃ x,σ[i]? = some (some x) ∧ te σ H fun y H1 => ti x y H1 fun z H2 => D.nx (σ.set i (some z)) H2
theorem ps_aug {i:Nat} {x:Str} {e:Expr} {te:TE} {op:Operator} {ti:TIp} {pos':Pos} (hN:X.N.Nodup) (hi:X.N[i]? = some x) (hx:Loc X.env.scope x) (he:PE X e te) (ho:PIp X op ti) (hf:X.fn x = true ∨ X.env.scope.names.lookup x = some .local:=by first | exact .inl rfl | exact .inr rfl | assumption) :
    PS X (.AugAssign (.Name x pos') op e pos) (tAug i te ti):=by
  intro pins s σ H D I h
  obtain ⟨v,e1,h⟩:=h
  obtain ⟨m,hn,hl⟩:=I.loc
  have vis:Vis X.env.scope x:=by rcases hx with k | k; exact .inl k; exact .inr (.inl k)
  obtain ⟨u,r,l⟩:=hl i x v hi e1 vis
  refine wpAny_AugAssign_Name ?_
  have go:wpAny (model X.prog X.w) X.A (eval e X.env) (fun w s₂ => wpAny (model X.prog X.w) X.A (inplaceOp op u w) (fun r s₃ => wpAny (model X.prog X.w) X.A (storeName X.env x r) (fun _ => SP X pins D .next) X.xe s₃) X.xe s₂) X.xe s:=by
    refine thn (he pins s σ H _ I h) fun w s1 ⟨y,H1,I1,r1,q1⟩ => ?_
    refine thn (ho pins s1 σ H1 v y u w _ I1 r r1 q1) fun z s2 ⟨zv,H2,I2,r2,q2⟩ => ?_
    exact store_ok I2 hN hi hx r2 (fun s3 I3 => ⟨_,H2,I3,q2⟩) hf
  rcases l with ⟨hk,hm⟩ | ⟨hk,c,hc,hcell⟩
  · exact wpAny_loadName_local I.ok.kind hk hn hm go
  · rcases hk with hk | hk
    · exact wpAny_loadName_cell I.ok.kind hk hc hcell go
    · rcases hx with k | k
      · have:X.env.scope.names.lookup x = some .free:=hk
        rw [k] at this; cases this
      · have:X.env.scope.names.lookup x = some .free:=hk
        rw [k] at this; cases this
def ipI (f:Int → Int → Int):TIp:=fun x y H Q => ∃ i j,x = .int i ∧ y = .int j ∧ Q (.int (f i j)) H
theorem ip_add:PIp X .Add (ipI fun i j => i + j):=by
  intro pins s σ H x y v u Q I r1 r2 h
  obtain ⟨i,j,e1,e2,q⟩:=h
  subst e1; subst e2
  obtain ⟨t,rfl⟩:=r1
  obtain ⟨t',rfl⟩:=r2
  exact iadd_int ⟨.int _,H,I.tok _,⟨_,rfl⟩,q⟩
theorem ip_sub:PIp X .Sub (ipI fun i j => i - j):=by
  intro pins s σ H x y v u Q I r1 r2 h
  obtain ⟨i,j,e1,e2,q⟩:=h
  subst e1; subst e2
  obtain ⟨t,rfl⟩:=r1
  obtain ⟨t',rfl⟩:=r2
  exact isub_int ⟨.int _,H,I.tok _,⟨_,rfl⟩,q⟩
end
section
variable {X:Cx} {pos:Pos}
def tWhile (c:TT) (tb:TS):TS:=fun D σ H => ∃ W:Nat → St → Hp → Prop,(∃ m,W m σ H) ∧ ∀ m σ H,W m σ H →
  c σ H fun b H1 => if b = true then ∃ N:St → Hp → Prop,(∀ σ' H',N σ' H' → ∃ m',m' < m ∧ W m' σ' H') ∧ tb { D with nx:=N,ct:=N,bk:=D.nx } σ H1 else D.nx σ H1
theorem ps_while {c:Expr} {body:List Stmt} {tc:TT} {tb:TS} (hp:PassesOwn (model X.prog X.w) X.A X.env X.xe) (hc:PT X c tc) (hb:PSs X body tb):PS X (.While c body [] pos) (tWhile tc tb):=by
  intro pins s σ H D I h
  obtain ⟨W,⟨m0,w0⟩,turn⟩:=h
  refine wpAny_While (codeAny_whileLoop (fun n s' => ∃ σ' H',Inv X pins σ' H' s' ∧ W n σ' H') ?_ m0 ⟨σ,H,I,w0⟩)
  rintro n s1 ⟨σ1,H1,I1,w1⟩
  refine wpAny_passesOwn hp (thn (hc pins s1 σ1 H1 _ I1 (turn n σ1 H1 w1)) fun b s2 ⟨H2,I2,q2⟩ => ?_)
  cases b with
  | true =>
    obtain ⟨N,hN,q2⟩:=q2
    rw [if_pos rfl]
    refine wpAny_passesOwn hp (thn (hb pins s2 σ1 H2 _ I2 q2) fun f s3 q3 => ?_)
    cases f with
    | next =>
      obtain ⟨σ3,H3,I3,n3⟩:=q3
      obtain ⟨m',hm,w3⟩:=hN σ3 H3 n3
      exact ⟨m',hm,σ3,H3,I3,w3⟩
    | cont =>
      obtain ⟨σ3,H3,I3,n3⟩:=q3
      obtain ⟨m',hm,w3⟩:=hN σ3 H3 n3
      exact ⟨m',hm,σ3,H3,I3,w3⟩
    | brk => exact q3
    | ret v => exact q3
  | false =>
    rw [if_neg Bool.false_ne_true]
    exact wpAny_execs_nil ⟨σ1,H2,I2,q2⟩
end
structure It where
  go:Nat → Hp → Prop
  yld:Nat → Hp → V → Hp → Prop
  stop:Nat → Hp → Prop
def FpOk (X:Cx) (pins:List (Addr × Obj)) (H:Hp) (b:Addr):Prop :=
  H b = none ∧ b ≠ X.env.locals ∧ b ∉ X.fs ∧ (b ∈ X.ex ∨ X.s₀.heap.objs.size ≤ b) ∧ (∀ x c,X.env.cells.lookup x = some c → c ≠ b) ∧ ∀ p ∈ X.pn ++ pins,p.1 ≠ b
theorem Inv.fpOk {X:Cx} {pins:List (Addr × Obj)} {σ:St} {H H':Hp} {s:Shared} {b:Addr} (I:Inv X pins σ H s) (hb:s.heap.objs.size ≤ b) (hn:H' b = none):FpOk X pins H' b:=by
  refine ⟨hn,Nat.ne_of_gt (Nat.lt_of_lt_of_le I.lt hb),I.nofs hb,.inr (Nat.le_trans I.sz hb),fun x c e z => ?_,fun p hp z => ?_⟩
  · obtain ⟨v,q⟩:=I.cell x c e
    exact absurd (Nat.lt_of_lt_of_le q.lt (by rw [z]; exact hb)) (Nat.lt_irrefl _)
  · exact absurd (Nat.lt_of_lt_of_le (Heap.lt_size (I.pin p hp).1) (by rw [z]; exact hb)) (Nat.lt_irrefl _)
structure Turn (P:Program) (w:World) (K:PySem.W.Frag) (tg:Expr) (J:It) (fp:List Addr) (it:Addr) (tn:Nat → Heap → Prop):Prop where
  mem:it ∈ fp
  obj:∀ i h,tn i h → ∀ b ∈ fp,∃ o,h.get? b = some o ∧ ∀ v,o.data ≠ .cell v
  keep:∀ i h h',tn i h → (∀ b ∈ fp,∀ o,h.get? b = some o → h'.get? b = some o) → tn i h'
  item:∀ (X:Cx),X.prog = P → X.w = w → X.K = K → X.calm = true → ∀ (i:Nat) (pins:List (Addr × Obj)) (s:Shared) (σ:St) (H:Hp) (E:Value → Shared → Prop),Inv X pins σ H s → (∀ b ∈ fp,FpOk X pins H b) → tn i s.heap → J.go i H →
    wpAny (model P w) X.A (pyNext (.ref it)) (fun r s1 => ∃ u,r = some u ∧
      wpAny (model P w) X.A (letOwnedTupleGo tg (.ref it) u) (fun _ s2 => ∃ x H',Inv X pins σ H' s2 ∧ RelV x u ∧ J.yld i H x H' ∧ tn (i + 1) s2.heap ∧ ∀ b ∈ fp,H' b = none) E s1) E s
  done:∀ (X:Cx),X.prog = P → X.w = w → X.K = K → X.calm = true → ∀ (i:Nat) (pins:List (Addr × Obj)) (s:Shared) (σ:St) (H:Hp) (E:Value → Shared → Prop),Inv X pins σ H s → (∀ b ∈ fp,FpOk X pins H b) → tn i s.heap → J.stop i H →
    wpAny (model P w) X.A (pyNext (.ref it)) (fun r s1 => r = none ∧ Inv X pins σ H s1) E s
  self:∀ (A:Around) (i:Nat) (s:Shared) (Q:Value → Shared → Prop) (E:Value → Shared → Prop),tn i s.heap → Q (.ref it) s → wpAny (model P w) A (pyIter (.ref it)) Q E s
abbrev TI:=St → Hp → (It → Hp → Prop) → Prop
def PIE (X:Cx) (pins:List (Addr × Obj)) (σ:St) (tg:Expr) (R:It → Hp → Prop) (itv:Value) (s2:Shared):Prop :=
  ∃ (it:Addr) (fp:List Addr) (tn:Nat → Heap → Prop) (J:It) (H':Hp),itv = .ref it ∧ Inv X pins σ H' s2 ∧ Turn X.prog X.w X.K tg J fp it tn ∧ tn 0 s2.heap ∧ (∀ b ∈ fp,FpOk X pins H' b) ∧ R J H'
def PI (X:Cx) (tg iter:Expr) (wi:TI):Prop :=
  ∀ (pins:List (Addr × Obj)) (s:Shared) (σ:St) (H:Hp) (R:It → Hp → Prop),Inv X pins σ H s → wi σ H R →
    wpAny (model X.prog X.w) X.A (eval iter X.env) (fun v s1 => wpAny (model X.prog X.w) X.A (pyIter v) (PIE X pins σ tg R) X.xe s1) X.xe s
theorem go_of {M:Model} {A:Around} {E:Value → Shared → Prop} {s:Shared} {tg:Expr} {it:Addr} {u:Value} {o:Obj} {n:String} {vs:Array Value} {Q:Unit → Shared → Prop} (ho:s.heap.get? it = some o) (hc:o.cls = .type n) (hd:o.data = .fields vs)
    (hn:["enumerate","zip","dict_itemiterator","dict_reverseitemiterator","odict_iterator","itertools.zip_longest","itertools.pairwise"].contains n = false) (hQ:Q () s):wpAny M A (letOwnedTupleGo tg (.ref it) u) Q E s:=by
  unfold letOwnedTupleGo
  cases tg <;> first
    | exact wpAny_pure hQ
    | (cases u <;> first
        | exact wpAny_pure hQ
        | (refine wpAny_bind (wpAny_load ho ?_)
           rw [hc,hd]
           show wpAny M A (if (["enumerate","zip","dict_itemiterator","dict_reverseitemiterator","odict_iterator","itertools.zip_longest","itertools.pairwise"].contains n && vs[0]? == some (rawInt _)) = true then _ else _) Q E s
           rw [if_neg (by intro h; rw [hn,Bool.false_and] at h; cases h)]
           exact wpAny_pure hQ))
def Itl (K:PySem.W.Frag) (a:Addr):It :=
  ⟨fun i H => ∃ xs x,SqL K H a xs ∧ xs[i]? = some x,fun i H x H' => H' = H ∧ ∀ xs,SqL K H a xs → xs[i]? = some x,fun i H => ∃ xs,SqL K H a xs ∧ xs.length ≤ i⟩
def Itt (K:PySem.W.Frag) (a:Addr):It :=
  ⟨fun i H => ∃ xs x,SqT K H a xs ∧ xs[i]? = some x,fun i H x H' => H' = H ∧ ∀ xs,SqT K H a xs → xs[i]? = some x,fun i H => ∃ xs,SqT K H a xs ∧ xs.length ≤ i⟩
def Itr (lo:Int) (n:Nat):It:=⟨fun i _ => i < n,fun i H x H' => H' = H ∧ x = .int (lo + i),fun i _ => n ≤ i⟩
theorem turn_list {P:Program} {w:World} {K:PySem.W.Frag} {tg:Expr} (a it:Addr):Turn P w K tg (Itl K a) [it] it (fun i h => h.IsListIter it a i) where
  mem:=by simp
  obj:=fun i h st b hb => by
    have e:b = it:=by simpa using hb
    subst e
    obtain ⟨o,e,c,d⟩:=st
    exact ⟨o,e,fun v z => by rw [d] at z; cases z⟩
  keep:=fun i h h' st k => st.at fun o e => k it (by simp) o e
  item:=by
    intro X hP hw hK hc i pins s σ H E I hf st hg
    subst hP hw hK
    obtain ⟨xs,x,hq,hx⟩:=hg
    obtain ⟨its,rv,p,hz⟩:=I.list hq
    obtain ⟨u,hu,ru⟩:=rv.get hx
    obtain ⟨f0,f1,f2,f3,f4,f5⟩:=hf it (by simp)
    refine wpAny_pyNext_list_item st p.isList (x:=u) (by simpa using hu) fun h' st' sb => ?_
    have I1:Inv X pins σ H { s with heap:=h' }:=I.turned (t':=s.toks) (fun b o hb e => (sb.2 b hb).trans e) f0 f1 f3 f4 f5
    obtain ⟨o,e,c,d⟩:=id st'
    exact ⟨u,rfl,go_of (s:={ s with heap:=h' }) e c d (by decide) ⟨x,H,I1,ru,⟨rfl,fun ys hy => by rw [I.list_inj hy hq]; exact hx⟩,st',fun b hb => (hf b hb).1⟩⟩
  done:=by
    intro X hP hw hK hc i pins s σ H E I hf st hg
    subst hP hw hK
    obtain ⟨xs,hq,hx⟩:=hg
    obtain ⟨its,rv,p,hz⟩:=I.list hq
    obtain ⟨f0,f1,f2,f3,f4,f5⟩:=hf it (by simp)
    have hl:=rv.length
    exact wpAny_pyNext_list_end (I.ok.hd hc) st p.isList (by simp; omega) fun h' eb => ⟨rfl,I.turned (t':=s.toks) (fun b o hb e => eb b o hb e) f0 f1 f3 f4 f5⟩
  self:=fun _ _ _ _ _ st h => wpAny_pyIter_listiter st h
theorem turn_tuple {P:Program} {w:World} {K:PySem.W.Frag} {tg:Expr} (a it:Addr):Turn P w K tg (Itt K a) [it] it (fun i h => h.IsTupleIter it a i) where
  mem:=by simp
  obj:=fun i h st b hb => by
    have e:b = it:=by simpa using hb
    subst e
    obtain ⟨o,e,c,d⟩:=st
    exact ⟨o,e,fun v z => by rw [d] at z; cases z⟩
  keep:=fun i h h' st k => st.at fun o e => k it (by simp) o e
  item:=by
    intro X hP hw hK hc i pins s σ H E I hf st hg
    subst hP hw hK
    obtain ⟨xs,x,hq,hx⟩:=hg
    obtain ⟨its,rv,p,hz⟩:=I.tuple hq
    obtain ⟨u,hu,ru⟩:=rv.get hx
    obtain ⟨f0,f1,f2,f3,f4,f5⟩:=hf it (by simp)
    refine wpAny_pyNext_tuple_item st (show s.heap.IsTuple a its.toArray from p) (x:=u) (by simpa using hu) fun h' st' sb => ?_
    have I1:Inv X pins σ H { s with heap:=h' }:=I.turned (t':=s.toks) (fun b o hb e => (sb.2 b hb).trans e) f0 f1 f3 f4 f5
    obtain ⟨o,e,c,d⟩:=id st'
    exact ⟨u,rfl,go_of (s:={ s with heap:=h' }) e c d (by decide) ⟨x,H,I1,ru,⟨rfl,fun ys hy => by rw [I.tuple_inj hy hq]; exact hx⟩,st',fun b hb => (hf b hb).1⟩⟩
  done:=by
    intro X hP hw hK hc i pins s σ H E I hf st hg
    subst hP hw hK
    obtain ⟨xs,hq,hx⟩:=hg
    obtain ⟨its,rv,p,hz⟩:=I.tuple hq
    obtain ⟨f0,f1,f2,f3,f4,f5⟩:=hf it (by simp)
    have hl:=rv.length
    exact wpAny_pyNext_tuple_end (I.ok.hd hc) st (show s.heap.IsTuple a its.toArray from p) (by simp; omega) fun h' eb => ⟨rfl,I.turned (t':=s.toks) (fun b o hb e => eb b o hb e) f0 f1 f3 f4 f5⟩
  self:=fun _ _ _ _ _ st h => wpAny_pyIter_tupleiter st h
theorem turn_range {P:Program} {w:World} {K:PySem.W.Frag} {tg:Expr} (it:Addr) (lo:Int) (n:Nat):Turn P w K tg (Itr lo n) [it] it (fun i h => IsRangeIter h it (lo + (i:Nat) * 1) ((n:Int) - (i:Nat)) 1) where
  mem:=by simp
  obj:=fun i h st b hb => by
    have e:b = it:=by simpa using hb
    subst e
    exact ⟨_,st,fun v z => by
      have z':Data.fields _ = Data.cell v:=z
      cases z'⟩
  keep:=fun i h h' st k => k it (by simp) _ st
  item:=by
    intro X hP hw hK hc i pins s σ H E I hf st hg
    subst hP hw hK
    obtain ⟨f0,f1,f2,f3,f4,f5⟩:=hf it (by simp)
    have W:=Walks.range (prog:=X.prog) (w:=X.w) (I.ok.hd hc) it lo 1 n
    refine W.item i s _ _ hg st fun v h' tk hv st' kk => ?_
    obtain ⟨t,rfl⟩:=hv
    have I1:Inv X pins σ H { s with heap:=h',toks:=tk }:=I.turned (fun b o hb e => kk b o (by simpa using hb) e) f0 f1 f3 f4 f5
    refine ⟨_,rfl,go_of (s:={ s with heap:=h',toks:=tk }) (n:="range_iterator") st' rfl rfl (by decide) ⟨.int (lo + i),H,I1,⟨t,?_⟩,⟨rfl,rfl⟩,st',fun b hb => (hf b hb).1⟩⟩
    rw [Int.mul_one]
  done:=by
    intro X hP hw hK hc i pins s σ H E I hf st hg
    subst hP hw hK
    obtain ⟨f0,f1,f2,f3,f4,f5⟩:=hf it (by simp)
    exact wpAny_pyNext_range_end (I.ok.hd hc) st (by have:n ≤ i:=hg; omega) fun h' eb => ⟨rfl,I.turned (t':=s.toks) (fun b o hb e => eb b o hb e) f0 f1 f3 f4 f5⟩
  self:=fun _ _ _ _ _ st h => wpAny_pyIter_rangeiter st h
end L2
namespace L2
open PySem PySem.Spec PyProof.Rows
section
variable {X:Cx} {tg:Expr}
def iList (K:PySem.W.Frag) (tl:TE):TI:=fun σ H R => tl σ H fun x H1 => ∃ a,x = .ref a ∧ (∃ xs,SqL K H1 a xs) ∧ R (Itl K a) H1
theorem pi_list {l:Expr} {tl:TE} (hl:PE X l tl):PI X tg l (iList X.K tl):=by
  intro pins s σ H R I h
  refine thn (hl pins s σ H _ I h) fun v s1 ⟨x,H1,I1,r1,q1⟩ => ?_
  obtain ⟨a,e,⟨xs,hq⟩,q⟩:=q1
  subst e
  cases r1
  obtain ⟨its,rv,p,hz⟩:=I1.list hq
  refine wpAny_pyIter_list p.isList ?_
  refine ⟨s1.heap.objs.size,[s1.heap.objs.size],_,_,H1,rfl,I1.kept (t':=s1.toks) fun b o e => Heap.get?_push_of_some _ e,turn_list a _,⟨_,Heap.get?_push_size _ rfl,rfl,rfl⟩,fun b hb => ?_,q⟩
  have e:b = s1.heap.objs.size:=by simpa using hb
  subst e
  exact I1.fpOk (Nat.le_refl _) (I1.hok.fresh (Nat.le_refl _))
theorem range_it {pins:List (Addr × Obj)} {σ:St} {H:Hp} {s:Shared} {R:It → Hp → Prop} {E:Value → Shared → Prop} {lo hi:Int} {t u v:Tok} {tk:Nat} (I:Inv X pins σ H s) (h1:-(2 ^ 62) ≤ lo) (h2:lo < 2 ^ 62) (h3:-(2 ^ 62) ≤ hi) (h4:hi < 2 ^ 62)
    (q:R (Itr lo (hi - lo).toNat) H):wpAny (model X.prog X.w) X.A (pyIter (.ref s.heap.objs.size)) (PIE X pins σ tg R) E { s with heap:=s.heap.push { cls:=.type "range",data:=.fields #[.int lo t,.int hi u,.int 1 v] },toks:=tk }:=by
  refine wpAny_pyIter_range (IsRange.new ..) (small_one h1 h2 h3 h4) ?_
  have I1:Inv X pins σ H { s with heap:=s.heap.push { cls:=.type "range",data:=.fields #[.int lo t,.int hi u,.int 1 v] },toks:=tk }:=I.kept fun b o e => Heap.get?_push_of_some _ e
  refine ⟨(s.heap.push { cls:=.type "range",data:=.fields #[.int lo t,.int hi u,.int 1 v] }).objs.size,[(s.heap.push { cls:=.type "range",data:=.fields #[.int lo t,.int hi u,.int 1 v] }).objs.size],_,_,H,rfl,
    I1.kept (t':=tk) fun b o e => Heap.get?_push_of_some _ e,turn_range _ lo (hi - lo).toNat,?_,fun b hb => ?_,q⟩
  · have e1:lo + ((0:Nat):Int) * 1 = lo:=by simp
    have e2:(((hi - lo).toNat:Nat):Int) - ((0:Nat):Int) = Builtin.Range.rangeSize lo hi 1:=by rw [rangeSize_one]; split <;> omega
    show IsRangeIter _ _ (lo + ((0:Nat):Int) * 1) ((((hi - lo).toNat:Nat):Int) - ((0:Nat):Int)) 1
    rw [e1,e2]
    exact Heap.get?_push_size _ rfl
  · have e:b = (s.heap.push { cls:=.type "range",data:=.fields #[.int lo t,.int hi u,.int 1 v] }).objs.size:=by simpa using hb
    subst e
    exact I1.fpOk (Nat.le_refl _) (I1.hok.fresh (Nat.le_refl _))
def iRng1 (ta:TA):TI:=fun σ H R => ta σ H fun vs H1 => ∃ j:Int,vs = [.int j] ∧ -(2 ^ 62) ≤ j ∧ j < 2 ^ 62 ∧ R (Itr 0 j.toNat) H1
theorem pi_range1 {a:Expr} {ta:TA} {p pos:Pos} (hg:Gl X "range") (hm:X.mg "range" = none) (ha:PA X [a] ta) (hs:starEach [a] X.env = [(false,eval a X.env)]:=by rfl):PI X tg (.Call (.Name "range" p) [a] [] pos) (iRng1 ta):=by
  intro pins s σ H R I h
  refine Call_ (ld_blt I hg hm boot_range (PyProof.Rows.callWith_type1 (thn (ha pos pins s σ H _ I h) fun us s1 ⟨vs,H1,I1,r1,q1⟩ => ?_) hs rfl))
  obtain ⟨j,e,q1,q2,q⟩:=q1
  subst e
  cases r1 with
  | cons r rr =>
    cases rr
    obtain ⟨t,rfl⟩:=r
    exact call_range_1 (range_it I1 (by omega) (by omega) q1 q2 (by simpa using q))
def tFor (wi:TI) (g:TG) (tb:TS):TS:=fun D σ H => wi σ H fun J H1 => ∃ W:Nat → Nat → St → Hp → Prop,(∃ m,W 0 m σ H1) ∧ ∀ i m σ H,W i m σ H →
  (J.stop i H ∧ D.nx σ H) ∨ (J.go i H ∧ ∃ N:St → Hp → Prop,(∀ σ' H',N σ' H' → ∃ m',m' < m ∧ W (i + 1) m' σ' H') ∧ ∀ x H',J.yld i H x H' → g x σ H' fun σ2 H2 => tb { D with nx:=N,ct:=N,bk:=D.nx } σ2 H2)
def pinsAt (fp:List Addr) (h:Heap):List (Addr × Obj):=fp.filterMap fun b => (h.get? b).map fun o => (b,o)
theorem mem_pinsAt {fp:List Addr} {h:Heap} {b:Addr} {o:Obj} (hb:b ∈ fp) (e:h.get? b = some o):(b,o) ∈ pinsAt fp h:=List.mem_filterMap.mpr ⟨b,hb,by rw [e]; rfl⟩
theorem of_pinsAt {fp:List Addr} {h:Heap} {p:Addr × Obj} (hp:p ∈ pinsAt fp h):p.1 ∈ fp ∧ h.get? p.1 = some p.2:=by
  obtain ⟨b,hb,e⟩:=List.mem_filterMap.mp hp
  cases q:h.get? b with
  | none => rw [q] at e; cases e
  | some o =>
    rw [q] at e
    have e':(b,o) = p:=Option.some.inj e
    subst e'
    exact ⟨hb,q⟩
theorem Inv.pinned {pins:List (Addr × Obj)} {σ:St} {H:Hp} {s:Shared} {fp:List Addr} (I:Inv X pins σ H s) (hf:∀ b ∈ fp,FpOk X pins H b) (ho:∀ b ∈ fp,∃ o,s.heap.get? b = some o ∧ ∀ v,o.data ≠ .cell v):Inv X (pins ++ pinsAt fp s.heap) σ H s :=
  I.pins_of fun p hp => (List.mem_append.mp hp).elim (fun z => I.pin p (List.mem_append_right _ z)) fun z => by
    obtain ⟨hb,e⟩:=of_pinsAt z
    obtain ⟨f0,f1,f2,_⟩:=hf p.1 hb
    obtain ⟨o,e',d⟩:=ho p.1 hb
    rw [e] at e'; cases e'
    exact ⟨e,f0,f1,f2,d⟩
theorem Inv.unpinned {pins pl:List (Addr × Obj)} {σ:St} {H:Hp} {s:Shared} (I:Inv X (pins ++ pl) σ H s):Inv X pins σ H s:=I.pins_of fun p hp => I.pin p (List.mem_append_right _ (List.mem_append_left _ hp))
theorem ps_for {iter:Expr} {body:List Stmt} {wi:TI} {g:TG} {tb:TS} {pos:Pos} (hp:PassesOwn (model X.prog X.w) X.A X.env X.xe) (hc:X.calm = true) (hi:PI X tg iter wi) (hg:PG X tg g) (hb:PSs X body tb)
    (hs:∀ x,foldedSetIterable iter X.env x = pure x:=by intro _; rfl):PS X (.For tg iter body [] pos) (tFor wi g tb):=by
  intro pins s σ H D I h
  refine wpAny_For (thn (hi pins s σ H _ I h) fun v s1 h1 => thn h1 fun itv s2 h2 => ?_) hs
  obtain ⟨it,fp,tn,J,H2,e,I2,T,st2,f2,W,⟨m0,w0⟩,turn⟩:=h2
  subst e
  -- what stays true of the iterator's objects through the loop
  have stat:∀ {H':Hp},(∀ b ∈ fp,H' b = none) → ∀ b ∈ fp,FpOk X pins H' b:=fun hn b hb => ⟨hn b hb,(f2 b hb).2⟩
  refine codeAny_forLoop_any (fun n s' => ∃ i σ' H',Inv X pins σ' H' s' ∧ tn i s'.heap ∧ (∀ b ∈ fp,H' b = none) ∧ W i n σ' H') ?_ m0 ⟨0,σ,H2,I2,st2,fun b hb => (f2 b hb).1,w0⟩
  rintro n s3 ⟨i,σ3,H3,I3,st3,fr3,w3⟩
  rcases turn i n σ3 H3 w3 with ⟨stop,qn⟩ | ⟨go,N,hN,step⟩
  · refine wpAny_passesOwn hp (thn (T.done X rfl rfl rfl hc i pins s3 σ3 H3 X.xe I3 (stat fr3) st3 stop) fun r s4 ⟨hr,I4⟩ => ?_)
    subst hr
    exact wpAny_execs_nil ⟨σ3,H3,I4,qn⟩
  · refine wpAny_passesOwn hp (thn (T.item X rfl rfl rfl hc i pins s3 σ3 H3 X.xe I3 (stat fr3) st3 go) fun r s4 ⟨u,hr,h4⟩ => ?_)
    subst hr
    refine wpAny_passesOwn hp (thn h4 fun _ s5 ⟨x,H5,I5,r5,y5,st5,fr5⟩ => ?_)
    have I5':=I5.pinned (stat fr5) (T.obj _ _ st5)
    refine wpAny_passesOwn hp (thn (hg _ s5 σ3 H5 x u _ I5' r5 (step x H5 y5)) fun _ s6 ⟨σ6,H6,I6,q6⟩ => ?_)
    refine wpAny_passesOwn hp (thn (hb _ s6 σ6 H6 _ I6 q6) fun f s7 q7 => ?_)
    have again:∀ {σ7:St} {H7:Hp},Inv X (pins ++ pinsAt fp s5.heap) σ7 H7 s7 → N σ7 H7 → ∃ m,m < n ∧ ∃ i σ' H',Inv X pins σ' H' s7 ∧ tn i s7.heap ∧ (∀ b ∈ fp,H' b = none) ∧ W i m σ' H':=fun {σ7 H7} I7 n7 => by
      obtain ⟨m',hm,w7⟩:=hN σ7 H7 n7
      refine ⟨m',hm,i + 1,σ7,H7,I7.unpinned,T.keep _ _ _ st5 fun b hb o e => (I7.pin (b,o) (List.mem_append_right _ (List.mem_append_right _ (mem_pinsAt hb e)))).1,fun b hb => ?_,w7⟩
      obtain ⟨o,e,d⟩:=T.obj _ _ st5 b hb
      exact (I7.pin (b,o) (List.mem_append_right _ (List.mem_append_right _ (mem_pinsAt hb e)))).2.1
    cases f with
    | next => obtain ⟨σ7,H7,I7,n7⟩:=q7; exact again I7 n7
    | cont => obtain ⟨σ7,H7,I7,n7⟩:=q7; exact again I7 n7
    | brk => obtain ⟨σ7,H7,I7,q7⟩:=q7; exact ⟨σ7,H7,I7.unpinned,q7⟩
    | ret v => obtain ⟨x7,σ7,H7,I7,r7,q7⟩:=q7; exact ⟨x7,σ7,H7,I7.unpinned,r7,q7⟩
end
end L2
namespace L2
open PySem PySem.Spec PyProof.Rows
abbrev R2:=V → V → Hp → VK → Prop
def OpR (X:Cx) (f:Value → Value → Sem Value) (r:R2):Prop :=
  ∀ (pins:List (Addr × Obj)) (s:Shared) (σ:St) (H:Hp) (x y:V) (v u:Value) (Q:VK),Inv X pins σ H s → RelV x v → RelV y u → r x y H Q →
    wpAny (model X.prog X.w) X.A (f v u) (EP X pins σ Q) X.xe s
def UnR (X:Cx) (f:Value → Sem Value) (r:V → Hp → VK → Prop):Prop :=
  ∀ (pins:List (Addr × Obj)) (s:Shared) (σ:St) (H:Hp) (x:V) (v:Value) (Q:VK),Inv X pins σ H s → RelV x v → r x H Q →
    wpAny (model X.prog X.w) X.A (f v) (EP X pins σ Q) X.xe s
def CallR (X:Cx) (f:Value) (r:List V → Hp → VK → Prop):Prop :=
  ∀ (pins:List (Addr × Obj)) (s:Shared) (σ:St) (H:Hp) (xs:List V) (us:List Value) (Q:VK),Inv X pins σ H s → Vals xs us → r xs H Q →
    wpAny (model X.prog X.w) X.A (call f us) (EP X pins σ Q) X.xe s
def TruR (X:Cx) (r:V → Hp → (Bool → Hp → Prop) → Prop):Prop :=
  ∀ (pins:List (Addr × Obj)) (s:Shared) (σ:St) (H:Hp) (x:V) (v:Value) (Q:Bool → Hp → Prop),Inv X pins σ H s → RelV x v → r x H Q →
    wpAny (model X.prog X.w) X.A (truthy v) (TP X pins σ Q) X.xe s
def tOp (r:R2) (ta tb:TE):TE:=fun σ H Q => ta σ H fun x H1 => tb σ H1 fun y H2 => r x y H2 Q
def tUn (r:V → Hp → VK → Prop) (ta:TE):TE:=fun σ H Q => ta σ H fun x H1 => r x H1 Q
def rI (C:Int → Int → Prop) (g:Int → Int → V):R2:=fun x y H Q => ∃ i j,x = .int i ∧ y = .int j ∧ C i j ∧ Q (g i j) H
def rI0 (g:Int → Int → V):R2:=fun x y H Q => ∃ i j,x = .int i ∧ y = .int j ∧ Q (g i j) H
def rU (g:Int → V):V → Hp → VK → Prop:=fun x H Q => ∃ i,x = .int i ∧ Q (g i) H
section
variable {X:Cx} {a b c:Expr} {ta tb tc:TE} {pos:Pos}
theorem binT (ha:PE X a ta) (hb:PE X b tb) {pins:List (Addr × Obj)} {s:Shared} {σ:St} {H:Hp} {R:V → V → Hp → Prop} (I:Inv X pins σ H s)
    (h:ta σ H fun x H1 => tb σ H1 fun y H2 => R x y H2) {Q:Value → Shared → Prop} {f:Value → Value → Sem Value}
    (hf:∀ v u s2 x y H2,Inv X pins σ H2 s2 → RelV x v → RelV y u → R x y H2 → wpAny (model X.prog X.w) X.A (f v u) Q X.xe s2) :
    wpAny (model X.prog X.w) X.A (eval a X.env) (fun v s₁ => wpAny (model X.prog X.w) X.A (eval b X.env) (fun u s₂ => wpAny (model X.prog X.w) X.A (f v u) Q X.xe s₂) X.xe s₁) X.xe s:=by
  refine thn (ha pins s σ H _ I h) fun v s1 ⟨x,H1,I1,r1,q1⟩ => ?_
  refine thn (hb pins s1 σ H1 _ I1 q1) fun u s2 ⟨y,H2,I2,r2,q2⟩ => ?_
  exact hf v u s2 x y H2 I2 r1 r2 q2
theorem pe_op {op:Operator} {r:R2} (ho:OpR X (binaryOp op) r) (ha:PE X a ta) (hb:PE X b tb):PE X (.BinOp a op b pos) (tOp r ta tb):=by
  intro pins s σ H Q I h
  exact wpAny_BinOp (binT ha hb I h fun v u s2 x y H2 I2 rx ry q => ho pins s2 σ H2 x y v u Q I2 rx ry q)
theorem pe_un {op:UnaryOp} {r:V → Hp → VK → Prop} (ho:UnR X (unaryOp op) r) (ha:PE X a ta):PE X (.UnaryOp op a pos) (tUn r ta):=by
  intro pins s σ H Q I h
  exact UnaryOp_ (thn (ha pins s σ H _ I h) fun v s1 ⟨x,H1,I1,r1,q1⟩ => ho pins s1 σ H1 x v Q I1 r1 q1)
theorem opI {f:Value → Value → Sem Value} {C:Int → Int → Prop} {g:Int → Int → Int}
    (rule:∀ (i j:Int) (t u:Tok) (s:Shared) (Q:Value → Shared → Prop) (E:Value → Shared → Prop),C i j → Q (.int (g i j) s.toks) { s with toks:=s.toks + 1 } → wpAny (model X.prog X.w) X.A (f (.int i t) (.int j u)) Q E s) :
    OpR X f (rI C fun i j => .int (g i j)):=by
  intro pins s σ H x y v u Q I rx ry h
  obtain ⟨i,j,rfl,rfl,hc,q⟩:=h
  obtain ⟨t,rfl⟩:=rx
  obtain ⟨t',rfl⟩:=ry
  exact rule i j t t' s _ _ hc ⟨.int (g i j),H,I.tok _,⟨_,rfl⟩,q⟩
theorem opI0 {f:Value → Value → Sem Value} {g:Int → Int → Int}
    (rule:∀ (i j:Int) (t u:Tok) (s:Shared) (Q:Value → Shared → Prop) (E:Value → Shared → Prop),Q (.int (g i j) s.toks) { s with toks:=s.toks + 1 } → wpAny (model X.prog X.w) X.A (f (.int i t) (.int j u)) Q E s) :
    OpR X f (rI0 fun i j => .int (g i j)):=by
  intro pins s σ H x y v u Q I rx ry h
  obtain ⟨i,j,rfl,rfl,q⟩:=h
  obtain ⟨t,rfl⟩:=rx
  obtain ⟨t',rfl⟩:=ry
  exact rule i j t t' s _ _ ⟨.int (g i j),H,I.tok _,⟨_,rfl⟩,q⟩
theorem opB0 {f:Value → Value → Sem Value} {g:Int → Int → Bool}
    (rule:∀ (i j:Int) (t u:Tok) (s:Shared) (Q:Value → Shared → Prop) (E:Value → Shared → Prop),Q (.bool (g i j)) s → wpAny (model X.prog X.w) X.A (f (.int i t) (.int j u)) Q E s) :
    OpR X f (rI0 fun i j => .bl (g i j)):=by
  intro pins s σ H x y v u Q I rx ry h
  obtain ⟨i,j,rfl,rfl,q⟩:=h
  obtain ⟨t,rfl⟩:=rx
  obtain ⟨t',rfl⟩:=ry
  exact rule i j t t' s _ _ ⟨.bl (g i j),H,I,rfl,q⟩
def CPow (i j:Int):Prop:=0 ≤ j ∧ j ≤ 1000000 ∧ i.natAbs < 2 ^ 64
theorem op_add:OpR X (binaryOp .Add) (rI0 fun i j => .int (i + j)):=opI0 fun _ _ _ _ _ _ _ q => add_int q
theorem op_sub:OpR X (binaryOp .Sub) (rI0 fun i j => .int (i - j)):=opI0 fun _ _ _ _ _ _ _ q => sub_int q
theorem op_pow:OpR X (binaryOp .Pow) (rI CPow fun i j => .int (i ^ j.toNat)):=opI fun _ _ _ _ _ _ _ hc q => pow_int_small hc.1 hc.2.1 hc.2.2 q
theorem unI {f:Value → Sem Value} {g:Int → Int}
    (rule:∀ (i:Int) (t:Tok) (s:Shared) (Q:Value → Shared → Prop) (E:Value → Shared → Prop),Q (.int (g i) s.toks) { s with toks:=s.toks + 1 } → wpAny (model X.prog X.w) X.A (f (.int i t)) Q E s) :
    UnR X f (rU fun i => .int (g i)):=by
  intro pins s σ H x v Q I rx h
  obtain ⟨i,rfl,q⟩:=h
  obtain ⟨t,rfl⟩:=rx
  exact rule i t s _ _ ⟨.int (g i),H,I.tok _,⟨_,rfl⟩,q⟩
theorem un_neg:UnR X (unaryOp .USub) (rU fun i => .int (-i)):=unI fun _ _ _ _ _ q => neg_int q
end
section
variable {X:Cx} {a b c:Expr} {ta tb tc:TE} {pos:Pos}
theorem fin_bl {pins:List (Addr × Obj)} {σ:St} {H:Hp} {s:Shared} {Q:VK} {k k':Bool} (I:Inv X pins σ H s) (q:Q (.bl k) H) (e:k = k'):EP X pins σ Q (.bool k') s:=by
  subst e
  exact ⟨.bl k,H,I,rfl,q⟩
theorem op_lt:OpR X (compareOp .Lt) (rI0 fun i j => .bl (decide (i < j))):=opB0 fun _ _ _ _ _ _ _ q => lt_int q
theorem op_le:OpR X (compareOp .LtE) (rI0 fun i j => .bl (decide (i ≤ j))):=opB0 fun _ _ _ _ _ _ _ q => le_int q
theorem op_gt:OpR X (compareOp .Gt) (rI0 fun i j => .bl (decide (j < i))):=opB0 fun _ _ _ _ _ _ _ q => gt_int q
theorem op_ge:OpR X (compareOp .GtE) (rI0 fun i j => .bl (decide (j ≤ i))):=opB0 fun _ _ _ _ _ _ _ q => ge_int q
theorem op_lt_str:OpR X (compareOp .Lt) (fun x y H Q => ∃ i j,x = .str i ∧ y = .str j ∧ Q (.bl (decide (i.cps.toList < j.cps.toList))) H):=by
  intro pins s σ H x y v u Q I rx ry h
  obtain ⟨i,j,rfl,rfl,q⟩:=h
  obtain ⟨t,rfl⟩:=rx
  obtain ⟨t',rfl⟩:=ry
  exact lt_str (fin_bl I q rfl)
theorem op_in_str:OpR X (compareOp .In) (fun x y H Q => ∃ i j,x = .str i ∧ y = .str j ∧ Q (.bl (!(Builtin.Str.occurrences j i 0 j.length 1).isEmpty)) H):=by
  intro pins s σ H x y v u Q I rx ry h
  obtain ⟨i,j,rfl,rfl,q⟩:=h
  obtain ⟨t,rfl⟩:=rx
  obtain ⟨t',rfl⟩:=ry
  exact in_str (fin_bl I q rfl)
theorem op_isN:OpR X (compareOp .Is) (fun x y H Q => y = .non ∧ Q (.bl (decide (x = .non))) H):=by
  intro pins s σ H x y v u Q I rx ry h
  obtain ⟨rfl,q⟩:=h
  cases ry
  refine is_none_gen (fin_bl I q ?_)
  cases x <;> first
    | (cases rx; rfl)
    | (obtain ⟨t,rfl⟩:=rx; rfl)
theorem op_notN:OpR X (compareOp .IsNot) (fun x y H Q => y = .non ∧ Q (.bl (!decide (x = .non))) H):=by
  intro pins s σ H x y v u Q I rx ry h
  obtain ⟨rfl,q⟩:=h
  cases ry
  refine isnot_none_gen (fin_bl I q ?_)
  cases x <;> first
    | (cases rx; rfl)
    | (obtain ⟨t,rfl⟩:=rx; rfl)
theorem pe_cmpR {op:CmpOp} {r:R2} (ho:OpR X (compareOp op) r) (ha:PE X a ta) (hb:PE X b tb) (hm:behindInMarks op b = false):PE X (.Compare a [op] [b] pos) (tOp r ta tb):=by
  intro pins s σ H Q I h
  exact wpAny_Compare1 (binT ha hb I h fun v u s2 x y H2 I2 rx ry q => ho pins s2 σ H2 x y v u Q I2 rx ry q) hm
def tTest (t:TE):TT:=fun σ H Q => t σ H fun x H' => ∃ k,x = .bl k ∧ Q k H'
theorem pt_cmpR {op:CmpOp} {r:R2} (ho:OpR X (compareOp op) r) (ha:PE X a ta) (hb:PE X b tb) (hm:behindInMarks op b = false):PT X (.Compare a [op] [b] pos) (tTest (tOp r ta tb)):=by
  intro pins s σ H Q I h
  refine wpAny_isTrue_Compare1 (thn (ha pins s σ H _ I h) fun v s1 ⟨x,H1,I1,r1,q1⟩ => thn (hb pins s1 σ H1 _ I1 q1) fun u s2 ⟨y,H2,I2,r2,q2⟩ =>
    thn (ho pins s2 σ H2 x y v u _ I2 r1 r2 q2) fun c s3 ⟨z,H3,I3,r3,k,e,q3⟩ => ?_) hm
  subst e
  cases r3
  exact wpAny_truthy_bool ⟨H3,I3,q3⟩
def tChain (r r':R2) (ta tb tc:TE):TE:=fun σ H Q => ta σ H fun x H1 => tb σ H1 fun y H2 => r x y H2 fun z H3 => ∃ k,z = .bl k ∧
  (if k = true then tc σ H3 fun w' H4 => r' y w' H4 Q else Q (.bl false) H3)
theorem pe_chain {op op':CmpOp} {r r':R2} (ho:OpR X (compareOp op) r) (ho':OpR X (compareOp op') r') (ha:PE X a ta) (hb:PE X b tb) (hc:PE X c tc)
    (hm:lastMarks [op,op'] [b,c] = false:=by with_unfolding_all rfl):PE X (.Compare a [op,op'] [b,c] pos) (tChain r r' ta tb tc):=by
  intro pins s σ H Q I h
  refine Compare_chain (thn (ha pins s σ H _ I h) fun v s1 ⟨x,H1,I1,r1,q1⟩ => chain_link (thn (hb pins s1 σ H1 _ I1 q1) fun u s2 ⟨y,H2,I2,r2,q2⟩ =>
    thn (ho pins s2 σ H2 x y v u _ I2 r1 r2 q2) fun d s3 ⟨z,H3,I3,r3,k,e,q3⟩ => ?_)) hm
  subst e
  cases r3
  refine wpAny_truthy_bool ?_
  cases k with
  | false => exact ite_ff ⟨.bl false,H3,I3,rfl,q3⟩
  | true => exact ite_tt (chain_last (thn (hc pins s3 σ H3 _ I3 q3) fun w' s4 ⟨z',H4,I4,r4,q4⟩ => ho' pins s4 σ H4 y z' u w' Q I4 r2 r4 q4))
theorem pt_chain {op op':CmpOp} {r r':R2} (ho:OpR X (compareOp op) r) (ho':OpR X (compareOp op') r') (ha:PE X a ta) (hb:PE X b tb) (hc:PE X c tc)
    (hm:lastMarks [op,op'] [b,c] = false:=by with_unfolding_all rfl):PT X (.Compare a [op,op'] [b,c] pos) (tTest (tChain r r' ta tb tc)):=by
  intro pins s σ H Q I h
  refine isTrue_chain (thn (ha pins s σ H _ I h) fun v s1 ⟨x,H1,I1,r1,q1⟩ => test_link (thn (hb pins s1 σ H1 _ I1 q1) fun u s2 ⟨y,H2,I2,r2,q2⟩ =>
    thn (ho pins s2 σ H2 x y v u _ I2 r1 r2 q2) fun d s3 ⟨z,H3,I3,r3,k,e,q3⟩ => ?_)) hm
  subst e
  cases r3
  refine wpAny_truthy_bool ?_
  cases k with
  | false =>
    obtain ⟨k',e',q'⟩:=q3
    cases e'
    exact ite_ff ⟨H3,I3,q'⟩
  | true =>
    refine ite_tt (test_last (thn (hc pins s3 σ H3 _ I3 q3) fun w' s4 ⟨z',H4,I4,r4,q4⟩ => thn (ho' pins s4 σ H4 y z' u w' _ I4 r2 r4 q4) fun d' s5 ⟨z2,H5,I5,r5,k2,e2,q5⟩ => ?_))
    subst e2
    cases r5
    exact wpAny_truthy_bool ⟨H5,I5,q5⟩
def TruV (K:PySem.W.Frag) (x:V) (H:Hp) (k:Bool):Prop :=
  match x with
  | .non => k = false
  | .bl b => k = b
  | .int i => k = (i != 0)
  | .str y => y.length ≤ sizeLine ∧ k = ((y.length:Int) != 0)
  | .byt y => y.size ≤ sizeLine ∧ k = ((y.size:Int) != 0)
  | .ref p => (∃ xs,SqL K H p xs ∧ k = !xs.isEmpty) ∨ (∃ xs,SqT K H p xs ∧ k = !xs.isEmpty) ∨ ∃ kvs,H p = some (.dK kvs) ∧ k = !kvs.isEmpty
  | _ => False
theorem isEmpty_kv {κ:Type} {kvs:List (κ × V)} {vs:List (κ × Value)} (r:KV kvs vs):(!vs.isEmpty) = !kvs.isEmpty:=by
  cases r <;> rfl
theorem isEmpty_of {xs:List V} {its:List Value} (r:Vals xs its):(!its.toArray.isEmpty) = !xs.isEmpty:=by
  cases r <;> simp
theorem line63:(sizeLine:Nat) < 2 ^ 63:=by rw [sizeLine_eq]; decide
theorem tru_ok:TruR X (fun x H Q => ∃ k,TruV X.K x H k ∧ Q k H):=by
  intro pins s σ H x v Q I rx h
  obtain ⟨k,e,q⟩:=h
  have hl:=line63
  have hs:sizeLine = 16777216:=sizeLine_eq
  cases x with
  | non =>
    cases rx
    have e':k = false:=e
    subst e'
    exact truthy_none ⟨H,I,q⟩
  | bl b =>
    cases rx
    have e':k = b:=e
    subst e'
    exact wpAny_truthy_bool ⟨H,I,q⟩
  | int i =>
    obtain ⟨t,rfl⟩:=rx
    have e':k = (i != 0):=e
    subst e'
    exact PySem.P.truthy_int ⟨H,I,q⟩
  | str y =>
    obtain ⟨t,rfl⟩:=rx
    obtain ⟨hy,e'⟩:y.length ≤ sizeLine ∧ k = ((y.length:Int) != 0):=e
    subst e'
    exact PySem.P.truthy_str (by omega) ⟨H,I.tok _,q⟩
  | byt y =>
    obtain ⟨t,rfl⟩:=rx
    obtain ⟨hy,e'⟩:y.size ≤ sizeLine ∧ k = ((y.size:Int) != 0):=e
    subst e'
    exact PySem.W.truthy_bytes (by omega) ⟨H,I.tok _,q⟩
  | ref p =>
    cases rx
    have e':(∃ xs,SqL X.K H p xs ∧ k = !xs.isEmpty) ∨ (∃ xs,SqT X.K H p xs ∧ k = !xs.isEmpty) ∨ ∃ kvs,H p = some (.dK kvs) ∧ k = !kvs.isEmpty:=e
    rcases e' with ⟨xs,hx,e'⟩ | ⟨xs,hx,e'⟩ | ⟨kvs,hx,e'⟩
    · subst e'
      obtain ⟨its,r,pl,hz⟩:=I.list hx
      have hlen:=r.length
      exact wpAny_truthy_list pl.isList (by simp only [List.size_toArray]; omega) ⟨H,I.tok _,by rw [isEmpty_of r]; exact q⟩
    · subst e'
      obtain ⟨its,r,pl,hz⟩:=I.tuple hx
      have hlen:=r.length
      exact truthy_tuple pl (by simp only [List.size_toArray]; omega) ⟨H,I.tok _,by rw [isEmpty_of r]; exact q⟩
    · subst e'
      obtain ⟨hz,hS,vs,r,m⟩:kvs.length ≤ sizeLine ∧ (p == sysModules) = false ∧ ∃ vs,KV kvs vs ∧ s.heap.DictOf (mixKind X.prog X.w) p vs:=I.hok p _ hx
      have hlen:kvs.length = vs.length:=Paired.length r
      exact wpAny_truthy_dict hS m (by omega) ⟨H,I.tok _,by rw [isEmpty_kv r]; exact q⟩
  | _ => exact (show False from e).elim
theorem pt_truth (ha:PE X a ta) (he:∀ whole,isTrue a X.env whole = (do let v ← whole; standAt a.pos; holding [v] (truthy v))) :
    PT X a (fun σ H Q => ta σ H fun x H' => ∃ k,TruV X.K x H' k ∧ Q k H'):=by
  intro pins s σ H Q I h
  exact isTrue_plain (thn (ha pins s σ H _ I h) fun v s1 ⟨x,H1,I1,r1,q1⟩ => tru_ok pins s1 σ H1 x v Q I1 r1 q1) (he _)
theorem op_add_str:OpR X (binaryOp .Add) (fun x y H Q => ∃ i j,x = .str i ∧ y = .str j ∧ i.length + j.length ≤ sizeLine ∧ Q (.str (i ++ j)) H):=by
  intro pins s σ H x y v u Q I rx ry h
  obtain ⟨i,j,rfl,rfl,hz,q⟩:=h
  obtain ⟨t,rfl⟩:=rx
  obtain ⟨t',rfl⟩:=ry
  exact add_str (fun t' tk => ⟨.str (i ++ j),H,I.tok _,⟨_,rfl⟩,q⟩) hz
theorem vals1 {x:V} {us:List Value} (r:Vals [x] us):∃ u,us = [u] ∧ RelV x u:=by
  cases r with
  | cons r1 r2 => cases r2; exact ⟨_,rfl,r1⟩
theorem vals2 {x y:V} {us:List Value} (r:Vals [x,y] us):∃ u w',us = [u,w'] ∧ RelV x u ∧ RelV y w':=by
  cases r with
  | cons r1 r2 =>
    cases r2 with
    | cons r3 r4 => cases r4; exact ⟨_,_,rfl,r1,r3⟩
theorem call_abs:CallR X (.builtin "abs") (fun xs H Q => ∃ i,xs = [.int i] ∧ Q (.int (if i < 0 then -i else i)) H):=by
  intro pins s σ H xs us Q I r h
  obtain ⟨i,rfl,q⟩:=h
  obtain ⟨u,rfl,t,rfl⟩:=vals1 r
  exact call_abs_int fun u tk => ⟨.int (if i < 0 then -i else i),H,I.tok _,⟨_,rfl⟩,q⟩
theorem call_min2 (hc:X.calm = true):CallR X (.builtin "min") (fun xs H Q => ∃ i j,xs = [.int i,.int j] ∧ Q (.int (if j < i then j else i)) H):=by
  intro pins s σ H xs us Q I r h
  obtain ⟨i,j,rfl,q⟩:=h
  obtain ⟨u,w',rfl,⟨t,rfl⟩,⟨t',rfl⟩⟩:=vals2 r
  refine min_two_ints (I.ok.hd hc) fun h' tk k => ⟨_,H,I.kept k,?_,q⟩
  by_cases hj:j < i
  · rw [if_pos hj,if_pos hj]; exact ⟨_,rfl⟩
  · rw [if_neg hj,if_neg hj]; exact ⟨_,rfl⟩
theorem call_int1:CallR X (.type "int") (fun xs H Q => (∃ i,xs = [.int i] ∧ Q (.int i) H) ∨ ∃ k,xs = [.bl k] ∧ Q (.int (if k then 1 else 0)) H):=by
  intro pins s σ H xs us Q I r h
  rcases h with ⟨i,rfl,q⟩ | ⟨k,rfl,q⟩
  · obtain ⟨u,rfl,t,rfl⟩:=vals1 r
    exact call_int_int ⟨.int i,H,I,⟨_,rfl⟩,q⟩
  · obtain ⟨u,rfl,r1⟩:=vals1 r
    cases r1
    exact call_int_bool ⟨.int (if k then 1 else 0),H,I.tok _,⟨_,rfl⟩,q⟩
theorem call_ord:CallR X (.builtin "ord") (fun xs H Q => ∃ x,xs = [.str x] ∧ x.length = 1 ∧ Q (.int (x.cps.getD 0 0:Nat)) H):=by
  intro pins s σ H xs us Q I r h
  obtain ⟨x,rfl,hz,q⟩:=h
  obtain ⟨u,rfl,t,rfl⟩:=vals1 r
  exact ord_of_one hz ⟨.int _,H,I.tok _,⟨_,rfl⟩,q⟩
end
end L2
namespace L2
open PySem PySem.Spec PyProof.Rows
structure ObjM (h:Heap) (x dx C:Addr) (mA:Str → Option Value):Prop where
  obj:h.get? x = some (PySem.W.instObj C dx)
  ns:h.Ns1 dx mA
  ne:dx ≠ x
section
variable {prog:Program} {w:World} {A:Around} {E:Value → Shared → Prop} {s:Shared} {K:PySem.W.Frag} {x dx C f:Addr} {mA:Str → Option Value} {name:Str} {v:Value}
end
section
variable {P:Program} {w:World} {H H':Hp} {h h':Heap} {a C dx:Addr} {fs fs':List (Str × V)}
end
structure Cls (K:PySem.W.Frag) (C:Addr):Prop where
  pg:PySem.W.plainGet K C Str.empty = true
  hd:PySem.W.hasDictIn K C = true
  po:PySem.W.plainOver K C = true
  sa:PySem.W.findIn K (.ref C) "__setattr__" = some (some (.builtin "object.__setattr__"))
structure Con (K:PySem.W.Frag) (C:Addr) (f:Str) (v:V) (u:Value):Prop where
  at_:PySem.W.findIn K (.ref C) f = some (some u)
  rel:RelV v u
  get:PySem.W.specialIn K u "__get__" = some none
  cp:PySem.W.copiedNames.contains f = false
structure Meth (K:PySem.W.Frag) (C:Addr) (m:Str) (f:Addr):Prop where
  at_:PySem.W.findIn K (.ref C) m = some (some (.ref f))
  fn:PySem.W.isFn K (.ref f) = true
  kp:PySem.W.keepIn K (.ref f) = true
section
variable {X:Cx} {pins:List (Addr × Obj)} {σ:St} {H:Hp} {s:Shared} {a C dx:Addr} {fs:List (Str × V)} {f:Str} {v:V} {A:Around} {E:Value → Shared → Prop}
end
section
variable {X:Cx} {o e value:Expr} {f:Str} {pos pos' tpos:Pos} {ta tv:TE}
end
section
variable {X:Cx} {pins:List (Addr × Obj)} {σ:St} {H:Hp} {s:Shared} {A:Around} {E:Value → Shared → Prop} {Q:Value → Shared → Prop} {c:Value} {b:Bool}
inductive TyOf (K:PySem.W.Frag) (H:Hp):V → Value → Prop where
  | non:TyOf K H .non (.type "NoneType")
  | bl (x:Bool):TyOf K H (.bl x) (.type "bool")
  | int (i:Int):TyOf K H (.int i) (.type "int")
  | str (x:Str):TyOf K H (.str x) (.type "str")
  | flt (x:UInt64):TyOf K H (.flt x) (.type "float")
  | lst {a:Addr} {xs:List V} (e:H a = some (.lst xs)):TyOf K H (.ref a) (.type "list")
  | frz {a:Addr} {o:Obj} {xs:List V} (e:H a = some (.frz o (.lst xs))):TyOf K H (.ref a) (.type "list")
  | tup {a:Addr} {xs:List V} (e:H a = some (.tup xs)):TyOf K H (.ref a) (.type "tuple")
  | dK {a:Addr} {kvs:List (Key × V)} (e:H a = some (.dK kvs)):TyOf K H (.ref a) (.type "dict")
  | dT {a:Addr} {kvs:List (List Key × V)} (e:H a = some (.dT kvs)):TyOf K H (.ref a) (.type "dict")
  | ins {a C dx:Addr} {fs:List (Str × V)} (e:H a = some (.ins C dx fs)) (cl:Cls K C) (ha:PySem.W.findIn K (.ref C) "__class__" = some (some (.builtin "object.__class__")))
      (hn:PySem.W.specialIn K (.builtin "object.__class__") "__get__" = some (some (.builtin "getset_descriptor.__get__"))) (htk:PySem.W.takesIn K (.builtin "object.__class__") = some true)
      (hm:PySem.W.mroIn K C (.type "object") = some true):TyOf K H (.ref a) (.ref C)
end
end L2
namespace L2
open PySem PySem.Spec PyProof.Rows
structure Room (k:Nat) (A:Around):Prop where
  hd:A.handled = none
  dp:A.depth + 3 * k + 5 < recursionLimit
  un:A.units + 16 * k + 200 < cLine
theorem Room.mono {j k:Nat} {A:Around} (r:Room k A) (h:j ≤ k):Room j A:=⟨r.hd,by have:=r.dp; omega,by have:=r.un; omega⟩
theorem Room.deeper {k:Nat} {A:Around} (r:Room (k + 1) A) (env:Env):Room k (A.deeper env) :=
  ⟨r.hd,by have:=r.dp; show A.depth + 1 + 3 * k + 5 < _; omega,by have:=r.un; show A.units + 3 + 16 * k + 200 < _; omega⟩
theorem Room.depth {k:Nat} {A:Around} (r:Room k A):A.depth < recursionLimit:=by have:=r.dp; omega
def tNil:TA:=fun _ H Q => Q [] H
def tCons (ta:TE) (tr:TA):TA:=fun σ H Q => ta σ H fun x H1 => tr σ H1 fun xs H2 => Q (x :: xs) H2
section
variable {X:Cx} {e:Expr} {es:List Expr} {te:TE} {t:TA} {pos:Pos}
theorem pa_nil:PA X [] tNil:=fun _ _ _ _ H Q I h => Calls.spliced_nil ⟨[],H,I,.nil,h⟩
theorem pa_cons (ha:PE X e te) (hr:PA X es t) (hs:starEach (e :: es) X.env = (false,eval e X.env) :: starEach es X.env:=by rfl):PA X (e :: es) (tCons te t):=by
  intro pos pins s σ H Q I h
  rw [hs]
  show wpAny _ _ (spliced ((false,eval e X.env) :: backTo pos (starEach es X.env))) _ _ s
  refine Calls.spliced_cons (thn (ha pins s σ H _ I h) fun u s1 ⟨x,H1,I1,r1,q1⟩ => ?_)
  exact thn (hr pos pins s1 σ H1 _ I1 q1) fun us s2 ⟨xs,H2,I2,r2,q2⟩ => ⟨x :: xs,H2,I2,.cons r1 r2,q2⟩
def tTup (t:TA):TE:=fun σ H Q => t σ H fun xs H1 => xs.length ≤ sizeLine ∧ ∀ p,H1 p = none → Q (.ref p) (upd H1 p (.tup xs))
def tLst (t:TA):TE:=fun σ H Q => t σ H fun xs H1 => xs.length ≤ sizeLine ∧ ∀ p,H1 p = none → Q (.ref p) (upd H1 p (.lst xs))
theorem pe_tup {x1} (h:PA X es t):PE X (.Tuple es x1 pos) (tTup t):=by
  intro pins s σ H Q I hq
  refine wpAny_Tuple_spliced (thn (h pos pins s σ H _ I hq) fun us s1 ⟨xs,H1,I1,r,z,q⟩ => ⟨by rw [← r.length]; exact z,?_⟩)
  have hf:H1 s1.heap.objs.size = none:=I1.hok.fresh (Nat.le_refl _)
  refine ⟨.ref s1.heap.objs.size,upd H1 s1.heap.objs.size (.tup xs),I1.laid (t':=s1.toks) (fun b u e => Heap.get?_push_of_some _ e) (Nat.le_refl _) ?_,rfl,q _ hf⟩
  exact ⟨z,us,r,⟨_,Heap.get?_push_size _ rfl,rfl,_,rfl⟩,NoDi.new _ _⟩
theorem pe_lst (h:PA X es t):PE X (.List es pos) (tLst t):=by
  intro pins s σ H Q I hq
  refine wpAny_List_spliced (thn (h pos pins s σ H _ I hq) fun us s1 ⟨xs,H1,I1,r,z,q⟩ => ⟨by rw [← r.length]; exact z,?_⟩)
  have hf:H1 s1.heap.objs.size = none:=I1.hok.fresh (Nat.le_refl _)
  refine ⟨.ref s1.heap.objs.size,upd H1 s1.heap.objs.size (.lst xs),I1.laid (t':=s1.toks) (fun b u e => Heap.get?_push_of_some _ e) (Nat.le_refl _) ?_,rfl,q _ hf⟩
  exact ⟨z,us,0,r,Heap.get?_push_size _ rfl⟩
end
abbrev Sp:=List V → Hp → VK → XK → Prop
abbrev CXT:=List Env → Hp → Shared → XK → Value → Shared → Prop
structure Env0 (P:Program) (w:World) (K:PySem.W.Frag) (mg:Str → Option Value) (base:Heap) (A:Around) (outer:List Env) (s:Shared) (H:Hp):Prop where
  frames:A.frames = some outer
  mod:Mod K mg base
  bs:∀ b o,base.get? b = some o → s.heap.get? b = some o ∧ H b = none
  bsz:base.objs.size ≤ s.heap.objs.size
  funs:s.heap.FunFrames base outer
  frf:∀ b ∈ frs outer,H b = none
  hok:HOk P w H s.heap
  bare:AllBare s.gens
def CE (outer:List Env) (P:Program) (w:World) (H:Hp) (s:Shared) (Q:VK) (u:Value) (s':Shared):Prop :=
  ∃ v H',s'.os = s.os ∧ AllBare s'.gens ∧ Un (frs outer) [] H H' s.heap s'.heap ∧ HOk P w H' s'.heap ∧ RelV v u ∧ Q v H'
def CR (CX:CXT) (outer:List Env) (P:Program) (w:World) (H:Hp) (s:Shared) (Q:VK) (E:XK) (r:Result) (s':Shared):Prop :=
  match r with
  | .ok (.ret u) => CE outer P w H s Q u s'
  | .ok _ => False
  | .error e => CX outer H s E e s'
structure FnOk (P:Program) (w:World) (K:PySem.W.Frag) (mg:Str → Option Value) (base:Heap) (CX:CXT) (k:Nat) (f:Addr) (fd:FuncData) (ps:List Str) (sp:Sp):Prop where
  len:∀ vs H Q E,sp vs H Q E → vs.length = ps.length
  run:∀ (A:Around) (outer:List Env) (s:Shared) (H:Hp) (args:Args) (us:List Value) (vs:List V) (Q:VK) (E:XK),Room k A → Env0 P w K mg base A outer s H → BindsTo s fd args (ps.zip us) → Vals vs us → sp vs H Q E →
    codeAny (model P w) A (.call (.ref f) args) (CR CX outer P w H s Q E) s
theorem FnOk.mono {P:Program} {w:World} {K:PySem.W.Frag} {mg:Str → Option Value} {base:Heap} {CX:CXT} {j k:Nat} {f:Addr} {fd:FuncData} {ps:List Str} {sp:Sp} (F:FnOk P w K mg base CX j f fd ps sp) (h:j ≤ k) :
    FnOk P w K mg base CX k f fd ps sp:=⟨F.len,fun A outer s H args us vs Q E hr => F.run A outer s H args us vs Q E (hr.mono h)⟩
section
variable {X:Cx} {pins:List (Addr × Obj)} {σ:St} {H:Hp} {s s':Shared}
theorem Inv.env0 (I:Inv X pins σ H s):Env0 X.prog X.w X.K X.mg X.base X.A X.stack s H :=
  ⟨I.ok.frames,I.ok.mod,I.bs,Nat.le_trans I.ok.bsz I.sz,I.stack,I.stkFree,I.hok,I.bare⟩
theorem Inv.after {Q:VK} {u:Value} (I:Inv X pins σ H s) (h:CE X.stack X.prog X.w H s Q u s'):EP X pins σ Q u s':=by
  obtain ⟨v,H',os,bare,un,hok,r,q⟩:=h
  obtain ⟨hh,g,d,t,os'⟩:=s'
  obtain rfl:os' = s.os:=os
  exact ⟨v,H',I.call (h':=hh) (g':=g) (d':=d) (t':=t) (ch:=[]) un hok bare (fun b z => absurd z (by simp)),r,q⟩
end
def Binds (K:PySem.W.Frag) (fd:FuncData) (ps:List Str) (ds:List Value):Prop :=
  ∀ (s:Shared) (us:List Value),K.In s.heap → (us ++ ds).length = ps.length → BindsTo s fd ⟨us,[]⟩ (ps.zip (us ++ ds))
theorem Binds.all {K:PySem.W.Frag} {fd:FuncData} {ps:List Str} (h:∀ us:List Value,us.length = ps.length → bindArgs fd ⟨us,[]⟩ = pure (ps.zip us)):Binds K fd ps []:=fun s us _ hl => by
  rw [List.append_nil] at hl ⊢
  exact .of_eq (h us hl)
section
variable {X:Cx} {CX:CXT} {k:Nat} {f C:Addr} {fd:FuncData} {ps:List Str} {sp:Sp} {dvs:List V} {ds:List Value} {E:XK} {x m:Str} {p pos apos:Pos} {e o:Expr} {es:List Expr} {ta:TE} {t:TA}
structure Mk (K:PySem.W.Frag) (C f:Addr):Prop where
  makes:PySem.W.makesIn K C = true
  init:PySem.W.findIn K (.ref C) "__init__" = some (some (.ref f))
  fn:PySem.W.isFn K (.ref f) = true
  kp:PySem.W.keepIn K (.ref C) = true
end
section
variable {X:Cx} {CX:CXT} {k:Nat} {f C:Addr} {fd:FuncData} {ps ks:List Str} {sp:Sp} {E:XK} {x m:Str} {p pos apos kpos:Pos} {e o:Expr} {es:List Expr} {kws:List Keyword} {te ta:TE} {t tk:TA} {nm:Option Str}
structure KBinds (K:PySem.W.Frag) (fd:FuncData) (ps ks:List Str) (g:List Value → List Value → List Value) (gV:List V → List V → List V):Prop where
  to:∀ (s:Shared) (us ws:List Value),K.In s.heap → (g us ws).length = ps.length → BindsTo s fd ⟨us,ks.zip ws⟩ (ps.zip (g us ws))
  rel:∀ {vs:List V} {us:List Value} {zs:List V} {ws:List Value},Vals vs us → Vals zs ws → Vals (gV vs zs) (g us ws)
variable {g:List Value → List Value → List Value} {gV:List V → List V → List V}
end
structure FnScope (N P:List Str) (sc:Scope):Prop where
  kind:sc.kind = .function
  co:sc.isCoroutine = false
  gen:sc.isGenerator = false
  nd:N.Nodup
  pre:N.take P.length = P
  par:∀ x ∈ P,sc.names.lookup x = some .local ∨ sc.names.lookup x = some .cell
  nofree:∀ y ∈ sc.names,y.2 ≠ .free
theorem bindL_out {kindOf:Str → Option NameKind} {x:Str}:∀ {binds:List (Str × Value)} {m:Str → Option Value},(∀ v,(x,v) ∉ binds) → bindL kindOf binds m x = m x
  | [],_,_ => rfl
  | (n,v) :: r,m,h => by
    unfold bindL
    rw [bindL_out fun w hw => h w (List.mem_cons_of_mem _ hw)]
    split
    · have:x ≠ n:=by rintro rfl; exact h v List.mem_cons_self
      simp [this]
    · rfl
theorem bindC_out {kindOf:Str → Option NameKind} {x:Str}:∀ {binds:List (Str × Value)} {m:Str → Option Value},(∀ v,(x,v) ∉ binds) → bindC kindOf binds m x = m x
  | [],_,_ => rfl
  | (n,v) :: r,m,h => by
    unfold bindC
    rw [bindC_out fun w hw => h w (List.mem_cons_of_mem _ hw)]
    split
    · rfl
    · have:x ≠ n:=by rintro rfl; exact h v List.mem_cons_self
      simp [this]
theorem bindL_get {kindOf:Str → Option NameKind} {x:Str} {v:Value}:∀ {P:List Str} {vs:List Value} {i:Nat} {m:Str → Option Value},P.Nodup → P[i]? = some x → vs[i]? = some v → kindOf x = some .local →
    bindL kindOf (P.zip vs) m x = some v
  | [],_,_,_,_,h,_,_ => by simp at h
  | _ :: _,[],_,_,_,_,h,_ => by simp at h
  | p :: P,w :: vs,0,m,nd,h1,h2,hk => by
    simp at h1 h2; subst h1; subst h2
    show bindL kindOf ((p,w) :: P.zip vs) m p = _
    unfold bindL
    rw [bindL_out fun v hv => (List.nodup_cons.mp nd).1 (List.of_mem_zip hv).1,if_pos hk]
    simp
  | p :: P,w :: vs,i + 1,m,nd,h1,h2,hk => by
    show bindL kindOf ((p,w) :: P.zip vs) m x = _
    unfold bindL
    exact bindL_get (i:=i) (List.nodup_cons.mp nd).2 (by simpa using h1) (by simpa using h2) hk
theorem bindC_get {kindOf:Str → Option NameKind} {x:Str} {v:Value}:∀ {P:List Str} {vs:List Value} {i:Nat} {m:Str → Option Value},P.Nodup → P[i]? = some x → vs[i]? = some v → kindOf x ≠ some .local →
    bindC kindOf (P.zip vs) m x = some v
  | [],_,_,_,_,h,_,_ => by simp at h
  | _ :: _,[],_,_,_,_,h,_ => by simp at h
  | p :: P,w :: vs,0,m,nd,h1,h2,hk => by
    simp at h1 h2; subst h1; subst h2
    show bindC kindOf ((p,w) :: P.zip vs) m p = _
    unfold bindC
    rw [bindC_out fun v hv => (List.nodup_cons.mp nd).1 (List.of_mem_zip hv).1,if_neg hk]
    simp
  | p :: P,w :: vs,i + 1,m,nd,h1,h2,hk => by
    show bindC kindOf ((p,w) :: P.zip vs) m x = _
    unfold bindC
    exact bindC_get (i:=i) (List.nodup_cons.mp nd).2 (by simpa using h1) (by simpa using h2) hk
def start (N:List Str) (vs:List V):St:=vs.map some ++ List.replicate (N.length - vs.length) none
def cxOf (CX:CXT) (P:Program) (w:World) (K:PySem.W.Frag) (mg:Str → Option Value) (base:Heap) (N:List Str) (qual:Str) (scope:Scope) (f:Addr) (cd:Value) (A:Around) (outer:List Env) (s:Shared) (H:Hp) (E:XK):Cx where
  prog:=P
  w:=w
  K:=K
  mg:=mg
  base:=base
  A:=A.deeper (envOfC qual scope s.heap.objs.size f cd)
  N:=N
  s₀:=s
  H₀:=H
  env:=envOfC qual scope s.heap.objs.size f cd
  outer:=outer
  stack:=envOfC qual scope s.heap.objs.size f cd :: outer
  ex:=[]
  calm:=true
  fn:=fun _ => true
  pn:=[]
  xe:=fun e s' => wpAny (model P w) (A.deeper (envOfC qual scope s.heap.objs.size f cd)) (leaving (envOfC qual scope s.heap.objs.size f cd) e) (fun _ s'' => CX outer H s E e s'') (fun e' s'' => CX outer H s E e' s'') s'
theorem cell_has {sc:Scope} {n:Nat} {x:Str} (h:sc.names.lookup x = some .cell):∃ c,(cellsFrom n sc.names []).lookup x = some c:=by
  have q:=PySem.W.cellsFrom_some sc.names n [] (.inl h)
  exact Option.isSome_iff_exists.mp q
theorem inv_start {CX:CXT} {P:Program} {w:World} {K:PySem.W.Frag} {mg:Str → Option Value} {base:Heap} {N ps:List Str} {qual:Str} {scope:Scope} {f:Addr} {cd:Value} {A:Around} {outer:List Env} {s s1:Shared} {H:Hp} {E:XK} {us:List Value} {vs:List V}
    (S:FnScope N ps scope) (hd:A.handled = none) (e0:Env0 P w K mg base A outer s H) (hl:vs.length = ps.length) (r:Vals vs us)
    (x:InCallC s s.heap.objs.size (bindL (envOfC qual scope s.heap.objs.size f cd).kindOf (ps.zip us) fun _ => none) (cellsFrom (s.heap.objs.size + 1) scope.names []) (bindC (envOfC qual scope s.heap.objs.size f cd).kindOf (ps.zip us) fun _ => none) s1) :
    Inv (cxOf CX P w K mg base N qual scope f cd A outer s H E) [] (start N vs) H s1:=by
  have hpl:ps.length ≤ N.length:=by have:=congrArg List.length S.pre; rw [List.length_take] at this; omega
  obtain ⟨h1,tk,rfl,hk⟩:=x.done
  have noA:∀ b:Addr,b ∉ (cxOf CX P w K mg base N qual scope f cd A outer s H E).ex:=fun b z => absurd (show b ∈ ([]:List Addr) from z) (by simp)
  refine ⟨⟨e0.mod,S.kind,rfl,rfl,Nat.le_refl _,fun y z c h1 h2 => ?_,fun y hy => ?_,fun y c _ h => ?_,fun _ => hd,Around.frames_deeper e0.frames,.inr ⟨rfl,rfl⟩,fun b z => absurd z (noA b),e0.bs,e0.bsz,fun b _ _ => noA b,fun b z => absurd z (noA b),e0.funs,e0.frf⟩,
    rfl,e0.bare,Un.kept hk,⟨_,x.toInCall.ns,fun i y v h1 h2 h3 => ?_⟩,fun y c h => ⟨_,x.cell y c h⟩,e0.hok.fresh (Nat.le_refl _),fun y c h => ?_,fun p hp => absurd (show p ∈ ([]:List (Addr × Obj)) from hp) (by simp),e0.hok.kept hk,?_⟩
  · exact name_of_addr x.apart (PySem.mem_of_lookup h1) (PySem.mem_of_lookup h2)
  · have hy:scope.names.lookup y = some .cell ∨ scope.names.lookup y = some .free:=hy
    rcases hy with hy | hy
    · exact cell_has hy
    · exact absurd rfl (S.nofree _ (PySem.mem_of_lookup hy))
  · exact Nat.le_of_lt (x.above y c (PySem.mem_of_lookup h))
  · have hi:i < vs.length:=by
      unfold start at h2
      by_cases hi:i < vs.length
      · exact hi
      · rw [List.getElem?_append_right (by simpa using hi)] at h2
        rw [List.getElem?_replicate] at h2
        split at h2 <;> cases h2
    have ha:vs[i]? = some v:=by
      unfold start at h2
      rw [List.getElem?_append_left (by simpa using hi),List.getElem?_map] at h2
      cases e:vs[i]? with
      | none => rw [e] at h2; cases h2
      | some a => rw [e] at h2; cases h2; rfl
    obtain ⟨u,hu,rv⟩:=r.get ha
    have hp:ps[i]? = some y:=by
      rw [← S.pre,List.getElem?_take_of_lt (by omega)]; exact h1
    have ndP:ps.Nodup:=by rw [← S.pre]; exact S.nd.sublist (List.take_sublist _ _)
    refine ⟨u,rv,?_⟩
    rcases S.par y (List.mem_of_getElem? hp) with k | k
    · exact .inl ⟨k,bindL_get ndP hp hu k⟩
    · obtain ⟨c,e⟩:=cell_has (n:=s.heap.objs.size + 1) k
      refine .inr ⟨.inl k,c,e,?_⟩
      have q:=x.cell y c e
      rw [bindC_get ndP hp hu (by show scope.names.lookup y ≠ _; rw [k]; decide)] at q
      exact q
  · exact e0.hok.fresh (Nat.le_of_lt (x.above y c (PySem.mem_of_lookup h)))
  · unfold start
    show _ = N.length
    rw [List.length_append,List.length_map,List.length_replicate]
    omega
theorem fn_of {CX:CXT} {P:Program} {w:World} {K:PySem.W.Frag} {mg:Str → Option Value} {base:Heap} {k:Nat} {f:Addr} {name qual:Str} {params:Arguments} {body:List Stmt} {scope:Scope} {dV kV doc pm cdv ct oc:Value} {an od:Option Addr}
    {osl:Array (Option Value)} {N ps:List Str} {sp:Sp} (lk:K.lookup f = some ⟨oc,od,.func (PySem.W.fnOf name qual params body scope dV kV doc pm an cdv ct),osl⟩) (hcd:PySem.W.codeIn K cdv qual = true) (S:FnScope N ps scope)
    (len:∀ vs H Q E,sp vs H Q E → vs.length = ps.length)
    (hbody:∀ (A:Around) (outer:List Env) (s:Shared) (H:Hp) (vs:List V) (Q:VK) (E:XK),Room k (A.deeper (envOfC qual scope s.heap.objs.size f cdv)) → sp vs H Q E →
      ∃ t,PSs (cxOf CX P w K mg base N qual scope f cdv A outer s H E) body t ∧ t { nx:=fun _ H' => Q .non H',rt:=Q } (start N vs) H) :
    FnOk P w K mg base CX (k + 1) f (PySem.W.fnOf name qual params body scope dV kV doc pm an cdv ct) ps sp:=by
  refine ⟨len,fun A outer s H args us vs Q E hr e0 hb r hsp => ?_⟩
  have hl:=len _ _ _ _ hsp
  have KX:K.In s.heap:=e0.mod.kin.keeps fun b o e => (e0.bs b o e).1
  have lim:s.heap.NoLimit:=e0.mod.nolimit.keeps fun b o e => (e0.bs b o e).1
  have hkind:∀ y ∈ ps.zip us,scope.names.lookup y.1 = some .local ∨ (scope.names.lookup y.1 = some .cell ∧ ((cellsFrom (s.heap.objs.size + 1) scope.names []).lookup y.1).isSome = true):=fun ⟨n,v⟩ hy => by
    rcases S.par n (List.of_mem_zip hy).1 with q | q
    · exact .inl q
    · exact .inr ⟨q,PySem.W.cellsFrom_some _ _ _ (.inl q)⟩
  refine codeAny_call_function hr.depth (KX _ _ lk) rfl S.co S.gen rfl (PySem.W.codeRec_of KX hcd) (hb _ _ _ _ ?_)
  refine wpAny_newFunctionEnv_cells S.kind hkind fun env he s1 x => ?_
  subst he
  refine ⟨lim.keeps x.toInCall.keep,codeAny_func ?_⟩
  obtain ⟨t,ht,hq⟩:=hbody A outer s H vs Q E (hr.deeper _) hsp
  have I:Inv (cxOf CX P w K mg base N qual scope f cdv A outer s H E) [] (start N vs) H s1:=inv_start S hr.hd e0 hl r x
  refine wpAny_mono (ht [] s1 (start N vs) H _ I hq) (fun fl s' hs => ?_) fun e s' hs => hs
  have fin:∀ {σ':St} {H':Hp} {v:V} {u:Value},Inv (cxOf CX P w K mg base N qual scope f cdv A outer s H E) [] σ' H' s' → RelV v u → Q v H' → CE outer P w H s Q u s' :=
    fun {σ' H' v u} J rv q => ⟨v,H',J.os,J.bare,J.base,J.hok,rv,q⟩
  cases fl with
  | ret u =>
    obtain ⟨v,σ',H',J,rv,q⟩:=hs
    exact fin J rv q
  | next =>
    obtain ⟨σ',H',J,q⟩:=hs
    exact fin (v:=V.non) (u:=Value.none) J rfl q
  | brk =>
    obtain ⟨_,_,_,q⟩:=hs
    exact False.elim q
  | cont =>
    obtain ⟨_,_,_,q⟩:=hs
    exact False.elim q
end L2
namespace L2
open PySem PySem.Spec PyProof.Rows
section
variable {X:Cx} {x:Str} {p pos:Pos} {e:Expr} {es:List Expr} {t:TA} {id T:String} {r:List V → Hp → VK → Prop}
def tCB (r:List V → Hp → VK → Prop) (t:TA):TE:=fun σ H Q => t σ H fun vs H1 => r vs H1 Q
theorem pe_callB (hc:CallR X (.builtin id) r) (hg:Gl X x) (hm:X.mg x = none) (hv:bootBuiltins x = some (.builtin id)) (ha:PA X (e :: es) t) (hn:x ≠ "__name__":=by decide) (hdb:(x == ("__debug__":Str)) = false:=by decide)
    (he:starEach (e :: es) X.env = (false,eval e X.env) :: starEach es X.env:=by rfl) (hpl:(backTo pos (starEach es X.env)).any (·.1) = false:=by rfl):PE X (.Call (.Name x p) (e :: es) [] pos) (tCB r t):=by
  intro pins s σ H Q I h
  refine wpAny_Call_Name_kw (ld_blt I hg hm hv ?_ hn hdb)
  exact PyProof.Rows.callWith_builtin1 (thn (ha pos pins s σ H _ I h) fun us s1 ⟨vs,H1,I1,r1,q1⟩ => hc pins s1 σ H1 vs us Q I1 r1 q1) he hpl
theorem pe_callTy (hc:CallR X (.type T) r) (hg:Gl X x) (hm:X.mg x = none) (hv:bootBuiltins x = some (.type T)) (ha:PA X (e :: es) t) (hn:x ≠ "__name__":=by decide) (hdb:(x == ("__debug__":Str)) = false:=by decide)
    (he:starEach (e :: es) X.env = (false,eval e X.env) :: starEach es X.env:=by rfl) (hpl:(backTo pos (starEach es X.env)).any (·.1) = false:=by rfl):PE X (.Call (.Name x p) (e :: es) [] pos) (tCB r t):=by
  intro pins s σ H Q I h
  refine wpAny_Call_Name_kw (ld_blt I hg hm hv ?_ hn hdb)
  exact PyProof.Rows.callWith_type1 (thn (ha pos pins s σ H _ I h) fun us s1 ⟨vs,H1,I1,r1,q1⟩ => hc pins s1 σ H1 vs us Q I1 r1 q1) he hpl
end
end L2
namespace HT
open PySem PyProof.Rows
def lexLt:List Int → List Int → Bool
  | [],[] => false
  | [],_ :: _ => true
  | _ :: _,[] => false
  | x :: xs,y :: ys => if x = y then lexLt xs ys else decide (x < y)
theorem lexLt_cons (x y:Int) (xs ys:List Int):lexLt (x :: xs) (y :: ys) = if x = y then lexLt xs ys else decide (x < y):=rfl
theorem lexLt_nil_nil:lexLt [] [] = false:=rfl
theorem lexLt_nil_cons (y:Int) (ys:List Int):lexLt [] (y :: ys) = true:=rfl
theorem lexLt_cons_nil (x:Int) (xs:List Int):lexLt (x :: xs) [] = false:=rfl
theorem eqAt_int (A:Around) (s:Shared) (a:Int) (t:Tok) (c:Int) (u:Tok):∃ e,SeqAt.EqAt A s (.int a t) (.int c u) e ∧ (e = true ↔ a = c) :=
  ⟨(a == c),SeqAt.EqAt.int_int a t c u,by simp⟩
theorem rcLt_int (A:Around) (s:Shared) (a:Int) (t:Tok) (c:Int) (u:Tok) (prog:Program) (w:World) (E:Value → Shared → Prop) (Q:Value → Shared → Prop) (h:Q (.bool (decide (a < c))) s) :
    wpAny (model prog w) A (richCompare .Lt (.int a t) (.int c u)) Q E s :=
  (PyProof.Rows.lt_int h:wpAny (model prog w) A (compareOp .Lt (.int a t) (.int c u)) Q E s)
section
open PySem.SeqAt
open PySem.AutoSeq1 (wpAny_loadPart')
open PySem.MeetsSeq PySem.MeetsSeq2 PySem.MeetsSeq3
theorem tuple_lt_ints (l b:Addr) (items items2:Array Value) (n n2:Nat) (dd dd2:Option Addr) (sl sl2:Array (Option Value)) (ns ms:List Int) (hi:IntsAre items.toList ns) (hj:IntsAre items2.toList ms) :
    Meets (Builtin.«tuple.__lt__» ⟨[.ref l,.ref b],[]⟩)
      (fun _ R s => s.heap.get? l = some { cls:=.type "tuple",dict:=dd,data:=.seq items n,slots:=sl } ∧ s.heap.get? b = some { cls:=.type "tuple",dict:=dd2,data:=.seq items2 n2,slots:=sl2 } ∧
        R (.ok (.ret (.bool (lexLt ns ms)))) s) :=
  .of_wp fun prog w A R s h => by
    obtain ⟨hp,g,d,tk,os⟩:=s; obtain ⟨hl,hb,h⟩:=h
    have f2:=AutoSeq1.sub_tuple_tuple
    have z1:items.size = ns.length:=by rw [← hi.length]; simp
    have z2:items2.size = ms.length:=by rw [← hj.length]; simp
    wp_walk using wpAny_loadPart' hl,wpAny_loadPart' hb,wpAny_forIn_list _ (fun rest b s' => b.1 = none ∧ s' = ⟨hp,g,d,tk,os⟩ ∧ ∃ (vs ws:List Value) (ns' ms':List Int),rest = vs.zip ws ∧
      IntsAre vs ns' ∧ IntsAre ws ms' ∧ ns'.length + items2.size = ms'.length + items.size ∧ R (.ok (.ret (.bool (lexLt ns' ms')))) ⟨hp,g,d,tk,os⟩) _
    case turn =>
      rintro ⟨y,x⟩ rest b s' ⟨hb',rfl,vs,ws,ns',ms',hz,hvi,hwi,hlen,hR⟩
      cases hvi with
      | nil => rw [List.zip_nil_left] at hz; cases hz
      | cons a t hvi' =>
        cases hwi with
        | nil => rw [List.zip_nil_right] at hz; cases hz
        | cons c u hwi' =>
          rw [List.zip_cons_cons] at hz
          injection hz with hyx hrest
          injection hyx with hy hx
          subst hy hx
          rw [lexLt_cons] at hR
          simp only [List.length_cons] at hlen
          obtain ⟨e,he,hiff⟩:=eqAt_int A.in1 ⟨hp,g,d,tk,os⟩ a t c u
          refine wpAny_bind (he prog w _ _ ?_)
          cases e with
          | true =>
            rw [if_pos (hiff.mp rfl)] at hR
            wp_walk
            exact ⟨rfl,rfl,_,_,_,_,hrest,hvi',hwi',by omega,hR⟩
          | false =>
            rw [if_neg (fun q => absurd (hiff.mpr q) Bool.false_ne_true)] at hR
            have hri:=rcLt_int A.in1 ⟨hp,g,d,tk,os⟩ a t c u prog w
            wp_walk using hri
            exact ⟨_,rfl,by simpa using hR⟩
    case fin =>
      rintro ⟨b1,b2⟩ s' ⟨hb',rfl,vs,ws,ns',ms',hz,hvi,hwi,hlen,hR⟩
      simp only at hb'
      subst hb'
      have hv:lexLt ns' ms' = decide (items.size < items2.size):=by
        cases hvi with
        | nil =>
          cases hwi with
          | nil =>
            simp only [List.length_nil] at hlen
            rw [lexLt_nil_nil]
            exact (decide_eq_false (by omega)).symm
          | cons c u hw =>
            simp only [List.length_nil,List.length_cons] at hlen
            rw [lexLt_nil_cons]
            exact (decide_eq_true (by omega)).symm
        | cons a t hv =>
          cases hwi with
          | nil =>
            simp only [List.length_nil,List.length_cons] at hlen
            rw [lexLt_cons_nil]
            exact (decide_eq_false (by omega)).symm
          | cons c u hw =>
            rw [List.zip_cons_cons] at hz
            cases hz
      rw [hv] at hR
      wp_walk
      exact ⟨_,rfl,by simpa [Builtin.Tuple.tupleCompareSizes] using hR⟩
    case h =>
      exact ⟨rfl,rfl,items.toList,items2.toList,ns,ms,rfl,hi,hj,by omega,h⟩
end
section
variable {prog:Program} {w:World} {A:Around} {E:Value → Shared → Prop} {s:Shared}
theorem lt_tupInts {l b:Addr} {items items2:Array Value} {ns ms:List Int} {Q:Value → Shared → Prop} (hl:IsTup s.heap l items) (hb:IsTup s.heap b items2) (hi:IntsAre items.toList ns) (hj:IntsAre items2.toList ms)
    (hu:A.units < cLine) (h:Q (.bool (lexLt ns ms)) s):wpAny (model prog w) A (compareOp .Lt (.ref l) (.ref b)) Q E s:=by
  obtain ⟨⟨cls,dd,data,sl⟩,ho,hc,n,hd⟩:=id hl
  obtain ⟨⟨cls2,dd2,data2,sl2⟩,ho2,hc2,n2,hd2⟩:=id hb
  simp only at hc hd hc2 hd2
  subst hc hd hc2 hd2
  exact richCompare_meets_room (op:=.Lt) ⟨_,ho,rfl⟩ ⟨_,ho2,rfl⟩ PySem.F.slot_tuple_lt PySem.F.entry_tuple_lt (PySem.F.args_tuple_lt_2 _ _) (tuple_lt_ints l b items items2 n n2 dd dd2 sl sl2 ns ms hi hj)
    ⟨ho,ho2,show Value.bool (lexLt ns ms) ≠ Value.notImplemented ∧ Q (.bool (lexLt ns ms)) s from ⟨(fun x => nomatch x),h⟩⟩ hu
theorem cat_tup {t b:Addr} {vs ws:List Value} {Q:Value → Shared → Prop} (ht:IsTup s.heap t vs.toArray) (hb:IsTup s.heap b ws.toArray) (hv:vs ≠ [])
    (h1:ws = [] → Q (.ref t) s) (h2:ws ≠ [] → Q (.ref s.heap.objs.size) { s with heap:=s.heap.push { cls:=.type "tuple",data:=.seq (vs ++ ws).toArray } })
    (hsz:vs.length + ws.length ≤ sizeLine):wpAny (model prog w) A (binaryOp .Add (.ref t) (.ref b)) Q E s:=by
  obtain ⟨⟨cls,dd,data,sl⟩,ho,hc,n,hd⟩:=id ht
  obtain ⟨⟨cls2,dd2,data2,sl2⟩,ho2,hc2,n2,hd2⟩:=id hb
  simp only at hc hd hc2 hd2
  subst hc hd hc2 hd2
  have e:vs.toArray ++ ws.toArray = (vs ++ ws).toArray:=by simp
  by_cases hw:ws = []
  · exact concat_meets ⟨_,ho,rfl⟩ ⟨_,ho2,rfl⟩ noFill_tuple_add seq_tuple_add PySem.F.slot_tuple_add PySem.F.entry_tuple_add (PySem.F.args_tuple_add_2 _ _)
      (tuple_addW1 t b vs.toArray ws.toArray n n2 dd dd2 sl sl2 (by simpa using hv) (by simp [hw])) ⟨ho,ho2,h1 hw⟩
  · refine concat_meets ⟨_,ho,rfl⟩ ⟨_,ho2,rfl⟩ noFill_tuple_add seq_tuple_add PySem.F.slot_tuple_add PySem.F.entry_tuple_add (PySem.F.args_tuple_add_2 _ _)
      (tuple_addW2 t b vs.toArray ws.toArray n n2 dd dd2 sl sl2 (by simpa using hv) (by simpa using hw) (by rw [List.size_toArray,List.size_toArray]; exact hsz)) ⟨ho,ho2,?_⟩
    rw [e]
    exact h2 hw
def sIx (n d:Nat):Option Int → Nat
  | none => d
  | some v => if v < 0 then (v + (n:Int)).toNat else min v.toNat n
theorem sIx_none (n d:Nat):sIx n d none = d:=rfl
theorem sIx_nat (n d k:Nat):sIx n d (some (k:Int)) = min k n:=by
  show (if (k:Int) < 0 then ((k:Int) + (n:Int)).toNat else min (k:Int).toNat n) = min k n
  rw [if_neg (by omega),Int.toNat_natCast]
theorem sIx_le (n d:Nat) (hd:d ≤ n) (o:Option Int):sIx n d o ≤ n:=by
  cases o with
  | none => exact hd
  | some v =>
    show (if v < 0 then (v + (n:Int)).toNat else min v.toNat n) ≤ n
    by_cases hv:v < 0
    · rw [if_pos hv]; omega
    · rw [if_neg hv]; exact Nat.min_le_right _ _
theorem clip_eq (v:Int) (n d:Nat):(if v < 0 then max (v + (n:Int)) 0 else min v (n:Int)) = ((sIx n d (some v):Nat):Int):=by
  show (if v < 0 then max (v + (n:Int)) 0 else min v (n:Int)) = (((if v < 0 then (v + (n:Int)).toNat else min v.toNat n):Nat):Int)
  by_cases hv:v < 0
  · simp only [if_pos hv]; omega
  · simp only [if_neg hv]; omega
theorem adjust_gen (lo hi:Option Int) (n:Nat):Builtin.Slice.sliceAdjust lo hi 1 (n:Int) = (((sIx n 0 lo:Nat):Int),((sIx n n hi:Nat):Int)):=by
  have h1:¬ ((1:Int) < 0):=by omega
  unfold Builtin.Slice.sliceAdjust
  simp only [h1,if_false]
  refine Prod.ext ?_ ?_
  · cases lo with
    | none => rfl
    | some v => exact clip_eq v n 0
  · cases hi with
    | none => rfl
    | some v => exact clip_eq v n n
theorem places_gen (i j:Nat):Builtin.Slice.slicePlaces (i:Int) (j:Int) 1 = j - i:=by
  unfold Builtin.Slice.slicePlaces
  have h1:(1:Int) > 0:=by omega
  simp only [h1,if_true,Int.ediv_one]
  split <;> omega
theorem slicePart_ {v:Value} {o:Option Int} {Q:Option Int → Shared → Prop} (p:IsPart v o) (h:Q o s):wpAny (model prog w) A (Builtin.Slice.slicePartIndex v) Q E s:=by
  cases p with
  | none => exact slicePart_none h
  | int i t => exact slicePart_int h
theorem sliceApplied_gen {sl:Addr} {vl vu:Value} {lo hi:Option Int} {n:Nat} {Q:Int × Int × Nat → Shared → Prop} (hs:s.heap.IsSliceOf sl vl vu .none) (pl:IsPart vl lo) (pu:IsPart vu hi)
    (h:Q (((sIx n 0 lo:Nat):Int),1,sIx n n hi - sIx n 0 lo) s):wpAny (model prog w) A (Builtin.Slice.sliceApplied (.ref sl) (pure (n:Int))) Q E s:=by
  obtain ⟨os,hos,hcs,hds⟩:=id hs
  unfold Builtin.Slice.sliceApplied Builtin.Slice.sliceFields
  refine wpAny_bind (wpAny_bind (wpAny_field hos hds (x:=vl) rfl (wpAny_bind (wpAny_field hos hds (x:=vu) rfl (wpAny_bind (wpAny_field hos hds (x:=.none) rfl (wpAny_pure ?_)))))))
  refine wpAny_bind (slicePart_none ?_)
  show wpAny _ _ (if ((1:Int) == 0) = true then _ else _) _ _ s
  rw [if_neg (by decide)]
  refine wpAny_bind (slicePart_ pl (wpAny_bind (slicePart_ pu (wpAny_bind (wpAny_pure ?_)))))
  show wpAny _ _ (match Builtin.Slice.sliceAdjust lo hi 1 (n:Int) with | (lo,hi) => pure (lo,(1:Int),Builtin.Slice.slicePlaces lo hi 1)) _ _ s
  rw [adjust_gen lo hi n]
  show wpAny _ _ (pure (((sIx n 0 lo:Nat):Int),(1:Int),Builtin.Slice.slicePlaces ((sIx n 0 lo:Nat):Int) ((sIx n n hi:Nat):Int) 1)) _ _ s
  rw [places_gen]
  exact wpAny_pure h
theorem pick_gen (xs:Array Value) (i k:Nat):((List.range k).filterMap fun (m:Nat) => xs[((i:Int) + (m:Int) * 1).toNat]?).toArray = ((xs.toList.drop i).take k).toArray:=by
  have e:(fun (m:Nat) => xs[((i:Int) + (m:Int) * 1).toNat]?) = fun m => xs[i + m]?:=by
    funext m
    have:((i:Int) + (m:Int) * 1).toNat = i + m:=by omega
    rw [this]
  rw [e]
  have:=pick_run xs i k
  rw [List.filterMap_map] at this
  have e2:((fun x => xs[x]?) ∘ fun x => i + x) = fun m => xs[i + m]?:=rfl
  rw [e2] at this
  rw [this]
theorem getItem_tuple_cut {t sl:Addr} {items:Array Value} {vl vu:Value} {lo hi:Option Int} {Q:Value → Shared → Prop} (ht:IsTup s.heap t items) (hs:s.heap.IsSliceOf sl vl vu .none) (pl:IsPart vl lo) (pu:IsPart vu hi)
    (hw:¬ (sIx items.size 0 lo = 0 ∧ sIx items.size items.size hi = items.size))
    (h:Q (.ref s.heap.objs.size) { s with heap:=s.heap.push { cls:=.type "tuple",data:=.seq ((items.toList.drop (sIx items.size 0 lo)).take (sIx items.size items.size hi - sIx items.size 0 lo)).toArray } })
    (hsz:items.size ≤ sizeLine):wpAny (model prog w) A (getItem (.ref t) (.ref sl)) Q E s:=by
  have htake:sizeOk (.seq ((items.toList.drop (sIx items.size 0 lo)).take (sIx items.size items.size hi - sIx items.size 0 lo)).toArray):=by
    show ((items.toList.drop (sIx items.size 0 lo)).take (sIx items.size items.size hi - sIx items.size 0 lo)).toArray.size ≤ sizeLine
    rw [List.size_toArray,List.length_take,List.length_drop,Array.length_toList]
    omega
  have hj:sIx items.size items.size hi ≤ items.size:=sIx_le _ _ (Nat.le_refl _) hi
  obtain ⟨os,hos,hcs,hds⟩:=id hs
  have hTs:s.TypeIs (.ref sl) "slice":=⟨os,hos,hcs⟩
  unfold getItem
  try with_reducible refine wpAny_holding ?_
  first | refine wpAny_bind (wpAny_pure ?_) | skip
  refine wpAny_bind (wpAny_sequenceKey ht.typeIs (by decide) ?_)
  refine wpAny_bind (wpAny_callSpecial?_slot (name:=Str.ofString "__getitem__") ht.typeIs PyProof.Rows.slot_tuple_getitem
    (wpAny_call_entry PyProof.Rows.slot_tuple_getitem ht.typeIs entry_tuple_getitem ?_ (args_tuple_getitem _ _)))
  show wpAny _ _ (Builtin.Tuple.tupleItemsOf (.ref t) >>= _) _ _ s
  refine wpAny_bind (tupleItemsOf_ ht ?_)
  refine wpAny_bind (wpAny_typeOf hTs ?_)
  rw [if_pos (by decide)]
  refine wpAny_bind (sliceApplied_gen hs pl pu ?_)
  have hno:¬ ((((sIx items.size 0 lo:Nat):Int) == 0 && (1:Int) == 1 && (sIx items.size items.size hi - sIx items.size 0 lo) == items.size) = true):=by
    intro q
    rw [Bool.and_eq_true,Bool.and_eq_true] at q
    have q1:((sIx items.size 0 lo:Nat):Int) = 0:=eq_of_beq q.1.1
    have q2:sIx items.size items.size hi - sIx items.size 0 lo = items.size:=eq_of_beq q.2
    exact hw ⟨by omega,by omega⟩
  show wpAny _ _ (if (((sIx items.size 0 lo:Nat):Int) == 0 && (1:Int) == 1 && (sIx items.size items.size hi - sIx items.size 0 lo) == items.size) = true then _ else _) _ _ s
  rw [if_neg hno,pick_gen]
  first
    | exact wpAny_bind (m:=Builtin.Tuple.tupleExact _) (wpAny_newObj_type (wpAny_pure ⟨_,rfl,wpAny_pure h⟩) htake)
    | exact wpAny_bind (m:=Builtin.Tuple.tupleExact _) (wpAny_newObj_type (wpAny_bind (wpAny_pure (wpAny_pure ⟨_,rfl,wpAny_pure h⟩))) htake)
    | exact wpAny_bind (wpAny_bind (m:=Builtin.Tuple.tupleExact _) (wpAny_newObj_type (wpAny_pure (wpAny_pure ⟨_,rfl,wpAny_pure h⟩)) htake))
    | exact wpAny_bind (wpAny_bind (m:=Builtin.Tuple.tupleExact _) (wpAny_newObj_type (wpAny_pure ⟨_,rfl,wpAny_pure h⟩) htake))
end
end HT
namespace L2
open PySem PySem.Spec PyProof.Rows
abbrev TO:=St → Hp → (Option Int → Hp → Prop) → Prop
def PO (X:Cx) (e:Option Expr) (t:TO):Prop :=
  ∀ (pins:List (Addr × Obj)) (s:Shared) (σ:St) (H:Hp) (Q:Option Int → Hp → Prop),Inv X pins σ H s → t σ H Q →
    wpAny (model X.prog X.w) X.A (evalPart e X.env) (fun u s' => ∃ o H',Inv X pins σ H' s' ∧ IsPart u o ∧ Q o H') X.xe s
def tNoPart:TO:=fun _ H Q => Q none H
def tPart (t:TE):TO:=fun σ H Q => t σ H fun x H1 => ∃ i,x = .int i ∧ Q (some i) H1
theorem intsAre_of {ns:List Int}:∀ {us:List Value},Vals (ns.map V.int) us → IntsAre us ns:=by
  induction ns with
  | nil => intro us r; rw [List.map_nil] at r; cases r; exact .nil
  | cons n ns ih =>
    intro us r
    rw [List.map_cons] at r
    cases r with
    | cons r1 r2 =>
      obtain ⟨t,e⟩:=r1
      subst e
      exact .cons n t (ih r2)
section
variable {X:Cx} {e:Expr} {te:TE} {lo hi:Option Expr} {tl th:TO} {pos p2:Pos}
theorem po_none:PO X none tNoPart:=by
  intro pins s σ H Q I h
  rw [evalPart_none]
  exact wpAny_pure ⟨none,H,I,.none,h⟩
theorem po_some (h:PE X e te):PO X (some e) (tPart te):=by
  intro pins s σ H Q I hw
  rw [evalPart_some]
  refine thn (h pins s σ H _ I hw) fun u s1 ⟨x,H1,I1,r1,q1⟩ => ?_
  obtain ⟨i,rfl,q⟩:=q1
  obtain ⟨t,rfl⟩:=r1
  exact ⟨some i,H1,I1,.int i t,q⟩
def SlR (X:Cx) (r:V → Option Int → Option Int → Hp → VK → Prop):Prop :=
  ∀ (pins:List (Addr × Obj)) (s:Shared) (σ:St) (H:Hp) (x:V) (v vl vu:Value) (lo hi:Option Int) (sl:Addr) (Q:VK),Inv X pins σ H s → RelV x v → s.heap.IsSliceOf sl vl vu .none → IsPart vl lo → IsPart vu hi → r x lo hi H Q →
    ∃ T id,typeLookup (.type T) "__getitem__" = pure (some (.builtin id)) ∧ s.TypeIs v T ∧ wpAny (model X.prog X.w) X.A (getItem v (.ref sl)) (EP X pins σ Q) X.xe s
theorem SlR.or {r r':V → Option Int → Option Int → Hp → VK → Prop} (h:SlR X r) (h':SlR X r'):SlR X (fun x lo hi H Q => r x lo hi H Q ∨ r' x lo hi H Q):=by
  intro pins s σ H x v vl vu lo hi sl Q I rx hs pl pu q
  rcases q with q | q
  · exact h pins s σ H x v vl vu lo hi sl Q I rx hs pl pu q
  · exact h' pins s σ H x v vl vu lo hi sl Q I rx hs pl pu q
def tSl (r:V → Option Int → Option Int → Hp → VK → Prop) (te:TE) (tl th:TO):TE:=fun σ H Q => te σ H fun x H1 => tl σ H1 fun l H2 => th σ H2 fun u H3 => r x l u H3 Q
theorem pe_slice {r:V → Option Int → Option Int → Hp → VK → Prop} (hr:SlR X r) (he:PE X e te) (hl:PO X lo tl) (hu:PO X hi th):PE X (.Subscript e (.Slice lo hi none p2) pos) (tSl r te tl th):=by
  intro pins s σ H Q I h
  refine Subscript_ (thn (he pins s σ H _ I h) fun v s1 ⟨x,H1,I1,r1,q1⟩ => ?_)
  refine wpAny_Slice (thn (hl pins s1 σ H1 _ I1 q1) fun vl s2 ⟨l,H2,I2,pl,q2⟩ => thn (hu pins s2 σ H2 _ I2 q2) fun vu s3 ⟨u,H3,I3,pu,q3⟩ => ?_)
  rw [evalPart_none]
  refine wpAny_pure ?_
  have I4:Inv X pins σ H3 { s3 with heap:=s3.heap.push { cls:=.type "slice",data:=.fields #[vl,vu,.none] } }:=I3.kept (t':=s3.toks) fun b ob q => Heap.get?_push_of_some _ q
  obtain ⟨T,id,hT,ht,hg⟩:=hr pins { s3 with heap:=s3.heap.push { cls:=.type "slice",data:=.fields #[vl,vu,.none] } } σ H3 x v vl vu l u s3.heap.objs.size Q I4 r1 (Heap.IsSliceOf.new ..) pl pu q3
  show wpAny (model X.prog X.w) X.A (subscriptTail e (.Slice lo hi none p2) v (.ref s3.heap.objs.size)) (EP X pins σ Q) X.xe { s3 with heap:=s3.heap.push { cls:=.type "slice",data:=.fields #[vl,vu,.none] } }
  exact tail_any (ops:=[.ref s3.heap.objs.size,v]) ht hT hg (by with_unfolding_all rfl)
def cutV (xs:List V) (lo hi:Option Int):List V:=(xs.drop (HT.sIx xs.length 0 lo)).take (HT.sIx xs.length xs.length hi - HT.sIx xs.length 0 lo)
theorem cutV_length (xs:List V) (lo hi:Option Int):(cutV xs lo hi).length ≤ xs.length:=by
  unfold cutV
  rw [List.length_take,List.length_drop]
  omega
def rSlT (K:PySem.W.Frag):V → Option Int → Option Int → Hp → VK → Prop:=fun x lo hi H Q => ∃ a xs,x = .ref a ∧ SqT K H a xs ∧
  ¬ (HT.sIx xs.length 0 lo = 0 ∧ HT.sIx xs.length xs.length hi = xs.length) ∧ ∀ p,H p = none → Q (.ref p) (upd H p (.tup (cutV xs lo hi)))
theorem sl_tup:SlR X (rSlT X.K):=by
  intro pins s σ H x v vl vu lo hi sl Q I rx hs pl pu h
  obtain ⟨a,xs,rfl,hx,hw,q⟩:=h
  cases rx
  obtain ⟨its,r,ht,hz⟩:=I.tuple hx
  have hlen:its.toArray.size = xs.length:=by rw [List.size_toArray]; exact r.length.symm
  refine ⟨"tuple",_,PyProof.Rows.slot_tuple_getitem.lookup,ht.typeIs,?_⟩
  refine HT.getItem_tuple_cut ht hs pl pu (by rw [hlen]; exact hw) ?_ (by rw [hlen]; exact hz)
  rw [hlen]
  refine ⟨.ref s.heap.objs.size,_,I.laid (t':=s.toks) (o:=.tup (cutV xs lo hi)) (fun b ob q => Heap.get?_push_of_some _ q) (Nat.le_refl _) ?_,rfl,q _ (I.hok.fresh (Nat.le_refl _))⟩
  exact ⟨Nat.le_trans (cutV_length xs lo hi) hz,_,(r.drop (HT.sIx xs.length 0 lo)).take (HT.sIx xs.length xs.length hi - HT.sIx xs.length 0 lo),IsTup.new _ _,NoDi.new _ _⟩
def rLtT (K:PySem.W.Frag):R2:=fun x y H Q => ∃ a b ns ms,x = .ref a ∧ y = .ref b ∧ SqT K H a (ns.map V.int) ∧ SqT K H b (ms.map V.int) ∧ Q (.bl (HT.lexLt ns ms)) H
theorem op_ltT (hu:X.A.units < cLine):OpR X (compareOp .Lt) (rLtT X.K):=by
  intro pins s σ H x y v u Q I rx ry h
  obtain ⟨a,b,ns,ms,rfl,rfl,ha,hb,q⟩:=h
  cases rx
  cases ry
  obtain ⟨its,r1,p1,_⟩:=I.tuple ha
  obtain ⟨its2,r2,p2,_⟩:=I.tuple hb
  have i1:IntsAre its.toArray.toList ns:=intsAre_of r1
  have i2:IntsAre its2.toArray.toList ms:=intsAre_of r2
  exact HT.lt_tupInts p1 p2 i1 i2 hu ⟨.bl (HT.lexLt ns ms),H,I,rfl,q⟩
def rCatT (K:PySem.W.Frag):R2:=fun x y H Q => ∃ a b xs ys,x = .ref a ∧ y = .ref b ∧ SqT K H a xs ∧ SqT K H b ys ∧ xs ≠ [] ∧ xs.length + ys.length ≤ sizeLine ∧
  (ys = [] → Q (.ref a) H) ∧ (ys ≠ [] → ∀ p,H p = none → Q (.ref p) (upd H p (.tup (xs ++ ys))))
theorem Vals.nil_iff {xs:List V} {us:List Value} (r:Vals xs us):us = [] ↔ xs = []:=by
  cases r with
  | nil => simp
  | cons _ _ => simp
theorem op_catT:OpR X (binaryOp .Add) (rCatT X.K):=by
  intro pins s σ H x y v u Q I rx ry h
  obtain ⟨a,b,xs,ys,rfl,rfl,ha,hb,hx,hz,q1,q2⟩:=h
  cases rx
  cases ry
  obtain ⟨its,r1,p1,_⟩:=I.tuple ha
  obtain ⟨its2,r2,p2,_⟩:=I.tuple hb
  refine HT.cat_tup p1 p2 (fun z => hx (r1.nil_iff.mp z)) (fun z => ⟨.ref a,H,I,rfl,q1 (r2.nil_iff.mp z)⟩) (fun z => ?_) (by rw [← r1.length,← r2.length]; exact hz)
  refine ⟨.ref s.heap.objs.size,_,I.laid (t':=s.toks) (o:=.tup (xs ++ ys)) (fun b ob q => Heap.get?_push_of_some _ q) (Nat.le_refl _) ?_,rfl,q2 (fun w => z (r2.nil_iff.mpr w)) _ (I.hok.fresh (Nat.le_refl _))⟩
  exact ⟨by rw [List.length_append]; exact hz,_,r1.append r2,IsTup.new _ _,NoDi.new _ _⟩
end
end L2
namespace L2
open PySem PySem.Spec PyProof.Rows
def ixN (n:Nat) (i:Int):Option Nat:=if 0 ≤ i then (if i < n then some i.toNat else none) else if -(n:Int) ≤ i then some (i + n).toNat else none
def atI {α:Type} (xs:List α) (i:Int):Option α:=(ixN xs.length i).bind fun j => xs[j]?
theorem ixN_seq {n:Nat} {i:Int} {j:Nat} (h:ixN n i = some j):seqIndex? i n = some j ∧ j < n ∧ -(n:Int) ≤ i ∧ i < n:=by
  unfold ixN at h
  by_cases h0:0 ≤ i
  · rw [if_pos h0] at h
    by_cases h1:i < n
    · rw [if_pos h1] at h
      have e:i.toNat = j:=Option.some.inj h
      exact ⟨by rw [seqIndex_of h0 h1,e],by omega,by omega,h1⟩
    · rw [if_neg h1] at h; cases h
  · rw [if_neg h0] at h
    by_cases h1:-(n:Int) ≤ i
    · rw [if_pos h1] at h
      have e:(i + n).toNat = j:=Option.some.inj h
      exact ⟨by rw [seqIndex_neg (by omega) h1,e],by omega,h1,by omega⟩
    · rw [if_neg h1] at h; cases h
theorem atI_get {α:Type} {xs:List α} {i:Int} {v:α} (h:atI xs i = some v):∃ j,seqIndex? i xs.length = some j ∧ xs[j]? = some v ∧ j < xs.length ∧ -(xs.length:Int) ≤ i ∧ i < xs.length:=by
  unfold atI at h
  cases e:ixN xs.length i with
  | none => rw [e] at h; cases h
  | some j =>
    rw [e] at h
    obtain ⟨h1,h2,h3,h4⟩:=ixN_seq e
    exact ⟨j,h1,h,h2,h3,h4⟩
theorem atI_nat {α:Type} {xs:List α} {j:Nat} {v:α} (h:xs[j]? = some v):atI xs (j:Int) = some v:=by
  have hj:j < xs.length:=(List.getElem?_eq_some_iff.mp h).1
  have e:ixN xs.length (j:Int) = some j:=by
    unfold ixN
    rw [if_pos (by omega),if_pos (by omega)]; simp
  unfold atI; rw [e]; exact h
def PlainIx (b:Expr):Prop:=∀ o i,subscripted b false o i = operate [o,i] (getItem o i)
def IxR (X:Cx) (r:R2):Prop :=
  ∀ (value slice:Expr) (pins:List (Addr × Obj)) (s:Shared) (σ:St) (H:Hp) (x y:V) (v u:Value) (Q:VK),Inv X pins σ H s → RelV x v → RelV y u → r x y H Q →
    subscripted slice false v u = operate [v,u] (getItem v u) → wpAny (model X.prog X.w) X.A (subscriptTail value slice v u) (EP X pins σ Q) X.xe s
def MtR (X:Cx) (id:String) (r:V → List V → Hp → VK → Prop):Prop :=
  ∀ (pins:List (Addr × Obj)) (s:Shared) (σ:St) (H:Hp) (x:V) (xs:List V) (v:Value) (us:List Value) (Q:VK),Inv X pins σ H s → RelV x v → Vals xs us → r x xs H Q →
    wpAny (model X.prog X.w) X.A (call (.builtin id) (v :: us)) (EP X pins σ Q) X.xe s
section
variable {X:Cx} {a b:Expr} {ta tb:TE} {pos:Pos}
theorem IxR.or {r r':R2} (h:IxR X r) (h':IxR X r'):IxR X (fun x y H Q => r x y H Q ∨ r' x y H Q):=by
  intro value slice pins s σ H x y v u Q I rx ry q hs
  rcases q with q | q
  · exact h value slice pins s σ H x y v u Q I rx ry q hs
  · exact h' value slice pins s σ H x y v u Q I rx ry q hs
theorem pe_ix {r:R2} (hr:IxR X r) (ha:PE X a ta) (hb:PE X b tb) (hs:PlainIx b):PE X (.Subscript a b pos) (tOp r ta tb):=by
  intro pins s σ H Q I h
  exact Subscript_ (binT ha hb I h fun v u s2 x y H2 I2 rx ry q => hr a b pins s2 σ H2 x y v u Q I2 rx ry q (hs _ _))
def rIxL (K:PySem.W.Frag):R2:=fun x y H Q => ∃ p xs i v,x = .ref p ∧ y = .int i ∧ SqL K H p xs ∧ atI xs i = some v ∧ Q v H
def rIxT (K:PySem.W.Frag):R2:=fun x y H Q => ∃ p xs i v,x = .ref p ∧ y = .int i ∧ SqT K H p xs ∧ atI xs i = some v ∧ Q v H
def rIxS:R2:=fun x y H Q => ∃ z i c,x = .str z ∧ y = .int i ∧ z.length ≤ sizeLine ∧ atI z.cps.toList i = some c ∧ Q (.str ⟨#[c]⟩) H
theorem ix_list:IxR X (rIxL X.K):=by
  intro value slice pins s σ H x y v u Q I rx ry h hs
  obtain ⟨p,xs,i,z,rfl,rfl,hq,he,q⟩:=h
  cases rx
  obtain ⟨t,rfl⟩:=ry
  obtain ⟨its,r,pl,hz⟩:=I.list hq
  obtain ⟨j,h1,h2,h3,h4,h5⟩:=atI_get he
  obtain ⟨w,ew,rw'⟩:=r.get h2
  have hl:=r.length
  have hn:=line63
  have fin:EP X pins σ Q w s:=⟨z,H,I,rw',q⟩
  by_cases h0:0 ≤ i
  · have hj:i.toNat = j:=by
      rw [seqIndex_of h0 h5] at h1
      exact Option.some.inj h1
    exact item_listR pl.isList h0 (by omega) (by rw [hj]; simpa using ew) fin hs
  · have hj:(i + (its.toArray.size:Int)).toNat = j:=by
      rw [seqIndex_neg (by omega) h4] at h1
      rw [List.size_toArray,← hl]
      exact Option.some.inj h1
    exact subscriptTail_builtinR (x:=w) pl.isList.typeIs slot_list_getitem.lookup
      (wpAny_getItem_list_neg (Q:=fun r s' => r = w ∧ EP X pins σ Q r s') pl.isList (by omega) (by rw [List.size_toArray] <;> omega) (by omega) (by rw [hj]; simpa using ew) ⟨rfl,fin⟩) hs
theorem ix_tup:IxR X (rIxT X.K):=by
  intro value slice pins s σ H x y v u Q I rx ry h hs
  obtain ⟨p,xs,i,z,rfl,rfl,hq,he,q⟩:=h
  cases rx
  obtain ⟨t,rfl⟩:=ry
  obtain ⟨its,r,pl,hz⟩:=I.tuple hq
  obtain ⟨j,h1,h2,h3,h4,h5⟩:=atI_get he
  obtain ⟨w,ew,rw'⟩:=r.get h2
  have hl:=r.length
  have hn:=line63
  have fin:EP X pins σ Q w s:=⟨z,H,I,rw',q⟩
  exact subscriptTail_builtinR (x:=w) pl.typeIs slot_tuple_getitem.lookup
    (getItem_tuple (j:=j) (Q:=fun r s' => r = w ∧ EP X pins σ Q r s') pl (by omega) (by omega) (by rw [List.size_toArray,← hl]; exact h1) (by simpa using ew) ⟨rfl,fin⟩) hs
theorem ix_str:IxR X rIxS:=by
  intro value slice pins s σ H x y v u Q I rx ry h hs
  obtain ⟨z,i,c,rfl,rfl,hz,he,q⟩:=h
  obtain ⟨t,rfl⟩:=rx
  obtain ⟨t',rfl⟩:=ry
  obtain ⟨j,h1,h2,h3,h4,h5⟩:=atI_get he
  have hl:z.cps.toList.length = z.length:=by simp [Str.length]
  rw [hl] at h1 h4 h5
  have hn:=line63
  exact tail_any (typeIs_str s z t) slot_str_getitem.lookup (getItem_str (c:=c) (by
    have e1:decide (i < -(2 ^ 63:Int)) = false:=decide_eq_false (by omega)
    have e2:decide (i ≥ 2 ^ 63) = false:=decide_eq_false (by omega)
    rw [e1,e2,Bool.or_false]) (by rw [h1]; simpa using h2) ⟨.str ⟨#[c]⟩,H,I.tok _,⟨_,rfl⟩,q⟩) hs
def rIx (K:PySem.W.Frag):R2:=fun x y H Q => rIxL K x y H Q ∨ rIxT K x y H Q ∨ rIxS x y H Q
theorem ix_seq:IxR X (rIx X.K):=ix_list.or (ix_tup.or ix_str)
theorem mapSeq_set (its:List Value) (n j:Nat) (u:Value):Obj.mapSeq (·.setIfInBounds j u) { cls:=.type "list",data:=.seq its.toArray n } = { cls:=.type "list",data:=.seq (its.set j u).toArray n }:=by
  simp [Obj.mapSeq]
theorem Inv.lst {pins:List (Addr × Obj)} {σ:St} {H:Hp} {s:Shared} {p:Addr} {xs:List V} (I:Inv X pins σ H s) (h:H p = some (.lst xs)) :
    ∃ (its:List Value) (n:Nat),Vals xs its ∧ s.heap.get? p = some { cls:=.type "list",data:=.seq its.toArray n } ∧ xs.length ≤ sizeLine:=by
  obtain ⟨z,its,n,r,e⟩:=I.hok p _ h
  exact ⟨its,n,r,e,z⟩
theorem Inv.lstUpd {pins:List (Addr × Obj)} {σ:St} {H:Hp} {s:Shared} {p:Addr} {xs ys:List V} {its its':List Value} {n n':Nat} {f:Obj → Obj} (I:Inv X pins σ H s) (h:H p = some (.lst xs))
    (ho:s.heap.get? p = some { cls:=.type "list",data:=.seq its.toArray n }) (hf:f { cls:=.type "list",data:=.seq its.toArray n } = { cls:=.type "list",data:=.seq its'.toArray n' }) (r:Vals ys its') (hz:ys.length ≤ sizeLine) (t:Nat) :
    Inv X pins σ (upd H p (.lst ys)) { s with heap:=s.heap.update p f,toks:=t }:=by
  have e:(s.heap.update p f).get? p = some { cls:=.type "list",data:=.seq its'.toArray n' }:=by
    rw [Heap.get?_update_self f ho (by rw [hf] <;> rfl),hf]
  refine I.write (x:=p) (e:=p) (by rw [h]; trivial) (.inl rfl) (fun b u hb q => (Heap.get?_update_other _ _ (Ne.symm hb)).trans q) ⟨_,e⟩ ?_
  exact ⟨hz,its',n',r,e⟩
def rSetL:V → V → V → Hp → (Hp → Prop) → Prop:=fun o i v H Q => ∃ p xs k j,o = .ref p ∧ i = .int k ∧ H p = some (.lst xs) ∧ ixN xs.length k = some j ∧ Q (upd H p (.lst (xs.set j v)))
theorem set_list:PSet X rSetL:=by
  intro pins s σ H o i v ov iv u Q I ro ri rv h
  obtain ⟨p,xs,k,j,rfl,rfl,hp,hj,q⟩:=h
  cases ro
  obtain ⟨t,rfl⟩:=ri
  obtain ⟨its,n,r,ho,hz⟩:=I.lst hp
  obtain ⟨h1,h2,h3,h4⟩:=ixN_seq hj
  have hl:=r.length
  have hn:=line63
  have I':Inv X pins σ (upd H p (.lst (xs.set j v))) { s with heap:=s.heap.update p (Obj.mapSeq (·.setIfInBounds j u)) } :=
    I.lstUpd hp ho (mapSeq_set its n j u) (r.set rv j) (by rw [List.length_set]; exact hz) s.toks
  by_cases h0:0 ≤ k
  · have hk:k.toNat = j:=by
      rw [seqIndex_of h0 h4] at h1
      exact Option.some.inj h1
    exact PySem.W.ki_setAt ho h0 (by omega) (by rw [List.size_toArray,← hl]; exact h4) (by rw [hk]; exact ⟨_,I',q⟩)
  · have hk:(k + (its.toArray.size:Int)).toNat = j:=by
      rw [seqIndex_neg (by omega) h3] at h1
      rw [List.size_toArray,← hl]
      exact Option.some.inj h1
    exact PySem.W.ki_setBack ho (by omega) (by rw [List.size_toArray,← hl]; exact h3) (by omega) (by rw [hk]; exact ⟨_,I',q⟩)
theorem slice_bounds (lo hi:Option Int) (n:Nat):(sliceBounds lo hi none n).1 = ((HT.sIx n 0 lo:Nat):Int) ∧ (sliceBounds lo hi none n).2.1 = ((HT.sIx n n hi:Nat):Int) ∧ (sliceBounds lo hi none n).2.2 = 1:=by
  refine ⟨?_,?_,rfl⟩
  · cases lo with
    | none => simp [sliceBounds,HT.sIx]
    | some i =>
      simp only [sliceBounds,HT.sIx,Option.getD_none,show (1:Int) > 0 by decide,if_true]
      by_cases h:i < 0
      · simp only [h,if_true] <;> omega
      · simp only [h,if_false] <;> omega
  · cases hi with
    | none => simp [sliceBounds,HT.sIx]
    | some i =>
      simp only [sliceBounds,HT.sIx,Option.getD_none,show (1:Int) > 0 by decide,if_true]
      by_cases h:i < 0
      · simp only [h,if_true] <;> omega
      · simp only [h,if_false] <;> omega
theorem slicePick_cut (its:List Value) (lo hi:Option Int):slicePick its.toArray lo hi none = ((its.drop (HT.sIx its.length 0 lo)).take (HT.sIx its.length its.length hi - HT.sIx its.length 0 lo)).toArray:=by
  obtain ⟨h1,h2,h3⟩:=slice_bounds lo hi its.toArray.size
  unfold slicePick
  rw [h1,h2,h3]
  simp only [sliceRange_one,pick_run,List.size_toArray] <;> rfl
def rSlL (K:PySem.W.Frag):V → Option Int → Option Int → Hp → VK → Prop:=fun x lo hi H Q => ∃ a xs,x = .ref a ∧ SqL K H a xs ∧ ∀ p,H p = none → Q (.ref p) (upd H p (.lst (cutV xs lo hi)))
theorem sl_list:SlR X (rSlL X.K):=by
  intro pins s σ H x v vl vu lo hi sl Q I rx hs pl pu h
  obtain ⟨a,xs,rfl,hx,q⟩:=h
  cases rx
  obtain ⟨its,r,ht,hz⟩:=I.list hx
  have hlen:=r.length
  refine ⟨"list",_,slot_list_getitem.lookup,ht.isList.typeIs,?_⟩
  refine wpAny_getItem_list_slice ht.isList hs pl pu .none (by simp) ?_ (by rw [List.size_toArray] <;> omega)
  rw [slicePick_cut,← hlen]
  refine ⟨.ref s.heap.objs.size,_,I.laid (t':=s.toks) (o:=.lst (cutV xs lo hi)) (fun b ob q => Heap.get?_push_of_some _ q) (Nat.le_refl _) ?_,rfl,q _ (I.hok.fresh (Nat.le_refl _))⟩
  exact ⟨Nat.le_trans (cutV_length xs lo hi) hz,_,0,(r.drop (HT.sIx xs.length 0 lo)).take (HT.sIx xs.length xs.length hi - HT.sIx xs.length 0 lo),Heap.get?_push_size _ rfl⟩
def flatV:V → Bool
  | .non => true
  | .bl _ => true
  | .int _ => true
  | .str _ => true
  | _ => false
def eqV:V → V → Bool
  | .non,.non => true
  | .bl a,.bl b => a == b
  | .bl a,.int b => (if a then 1 else 0) == b
  | .int a,.bl b => a == (if b then 1 else 0)
  | .int a,.int b => a == b
  | .str a,.str b => a == b
  | _,_ => false
theorem eqAt_V {A:Around} {s:Shared} {y x:V} {u v:Value} (ry:RelV y u) (rx:RelV x v) (fy:flatV y = true) (fx:flatV x = true):SeqAt.EqAt A s u v (eqV y x):=by
  cases y with
  | non =>
    cases ry
    cases x with
    | non => cases rx; exact SeqAt.EqAt.same _
    | bl b => cases rx; exact SeqAt.EqAt.none_bool b
    | int b => obtain ⟨t,rfl⟩:=rx; exact SeqAt.EqAt.none_int b t
    | str b => obtain ⟨t,rfl⟩:=rx; exact SeqAt.EqAt.none_str b t
    | _ => exact absurd (show false = true from fx) Bool.false_ne_true
  | bl a =>
    cases ry
    cases x with
    | non => cases rx; exact SeqAt.EqAt.bool_none a
    | bl b => cases rx; exact SeqAt.EqAt.bool_bool a b
    | int b => obtain ⟨t,rfl⟩:=rx; exact SeqAt.EqAt.bool_int a b t
    | str b => obtain ⟨t,rfl⟩:=rx; exact SeqAt.EqAt.bool_str a b t
    | _ => exact absurd (show false = true from fx) Bool.false_ne_true
  | int a =>
    obtain ⟨t',rfl⟩:=ry
    cases x with
    | non => cases rx; exact SeqAt.EqAt.int_none a t'
    | bl b => cases rx; exact SeqAt.EqAt.int_bool a t' b
    | int b => obtain ⟨t,rfl⟩:=rx; exact SeqAt.EqAt.int_int a t' b t
    | str b => obtain ⟨t,rfl⟩:=rx; exact SeqAt.EqAt.int_str a t' b t
    | _ => exact absurd (show false = true from fx) Bool.false_ne_true
  | str a =>
    obtain ⟨t',rfl⟩:=ry
    cases x with
    | non => cases rx; exact SeqAt.EqAt.str_none a t'
    | bl b => cases rx; exact SeqAt.EqAt.str_bool a t' b
    | int b => obtain ⟨t,rfl⟩:=rx; exact SeqAt.EqAt.str_int a t' b t
    | str b => obtain ⟨t,rfl⟩:=rx; exact SeqAt.EqAt.str_str a t' b t
    | _ => exact absurd (show false = true from fx) Bool.false_ne_true
  | _ => exact absurd (show false = true from fy) Bool.false_ne_true
def eqU (x:V) (u:Value):Bool:=match u with
  | .none => eqV .non x
  | .bool b => eqV (.bl b) x
  | .int i _ => eqV (.int i) x
  | .str z _ => eqV (.str z) x
  | _ => false
theorem eqU_of {x y:V} {u:Value} (r:RelV y u) (f:flatV y = true):eqU x u = eqV y x:=by
  cases y with
  | non => cases r; rfl
  | bl b => cases r; rfl
  | int i => obtain ⟨t,rfl⟩:=r; rfl
  | str z => obtain ⟨t,rfl⟩:=r; rfl
  | _ => exact absurd (show false = true from f) Bool.false_ne_true
theorem any_eqU {x:V}:∀ {xs:List V} {us:List Value},Vals xs us → xs.all flatV = true → us.any (eqU x) = xs.any fun y => eqV y x
  | _,_,.nil,_ => rfl
  | y :: xs,u :: us,.cons r t,f => by
    rw [List.all_cons,Bool.and_eq_true] at f
    rw [List.any_cons,List.any_cons,eqU_of r f.1,any_eqU t f.2]
theorem mem_eqAt {A:Around} {s:Shared} {x:V} {v:Value} (rx:RelV x v) (fx:flatV x = true):∀ {xs:List V} {us:List Value},Vals xs us → xs.all flatV = true → ∀ u ∈ us,SeqAt.EqAt A s u v (eqU x u)
  | _,_,.nil,_ => fun u hu => by cases hu
  | y :: xs,u :: us,.cons r t,f => fun u' hu => by
    rw [List.all_cons,Bool.and_eq_true] at f
    rcases List.mem_cons.mp hu with rfl | hu
    · rw [eqU_of r f.1]; exact eqAt_V r rx f.1 fx
    · exact mem_eqAt rx fx t f.2 u' hu
def inV (x:V) (xs:List V):Bool:=xs.any fun y => eqV y x
def rIn (K:PySem.W.Frag) (neg:Bool):R2:=fun x y H Q => ∃ p xs,y = .ref p ∧ (SqL K H p xs ∨ SqT K H p xs) ∧ flatV x = true ∧ xs.all flatV = true ∧ Q (.bl (if neg then !inV x xs else inV x xs)) H
theorem op_in_seq:OpR X (compareOp .In) (rIn X.K false):=by
  intro pins s σ H x y v u Q I rx ry h
  obtain ⟨p,xs,rfl,hq,fx,fs,q⟩:=h
  cases ry
  rcases hq with hq | hq
  · obtain ⟨its,r,pl,hz⟩:=I.list hq
    refine SeqAt.in_listAt (eqU x) pl.isList (fun w hw => mem_eqAt rx fx r fs w (by simpa using hw)) ⟨.bl _,H,I,rfl,?_⟩
    rw [show its.toArray.any (eqU x) = its.any (eqU x) by simp,any_eqU r fs]
    exact q
  · obtain ⟨its,r,pl,hz⟩:=I.tuple hq
    refine SeqAt.in_tupleAt (eqU x) pl (fun w hw => mem_eqAt rx fx r fs w (by simpa using hw)) ⟨.bl _,H,I,rfl,?_⟩
    rw [show its.toArray.any (eqU x) = its.any (eqU x) by simp,any_eqU r fs]
    exact q
theorem op_notIn_seq:OpR X (compareOp .NotIn) (rIn X.K true):=by
  intro pins s σ H x y v u Q I rx ry h
  obtain ⟨p,xs,rfl,hq,fx,fs,q⟩:=h
  cases ry
  rcases hq with hq | hq
  · obtain ⟨its,r,pl,hz⟩:=I.list hq
    refine SeqAt.notIn_listAt (eqU x) pl.isList (fun w hw => mem_eqAt rx fx r fs w (by simpa using hw)) ⟨.bl _,H,I,rfl,?_⟩
    rw [show its.toArray.any (eqU x) = its.any (eqU x) by simp,any_eqU r fs]
    exact q
  · obtain ⟨its,r,pl,hz⟩:=I.tuple hq
    refine SeqAt.notIn_tupleAt (eqU x) pl (fun w hw => mem_eqAt rx fx r fs w (by simpa using hw)) ⟨.bl _,H,I,rfl,?_⟩
    rw [show its.toArray.any (eqU x) = its.any (eqU x) by simp,any_eqU r fs]
    exact q
theorem op_notIn_str:OpR X (compareOp .NotIn) (fun x y H Q => ∃ i j,x = .str i ∧ y = .str j ∧ Q (.bl (!(!(Builtin.Str.occurrences j i 0 j.length 1).isEmpty))) H):=by
  intro pins s σ H x y v u Q I rx ry h
  obtain ⟨i,j,rfl,rfl,q⟩:=h
  obtain ⟨t,rfl⟩:=rx
  obtain ⟨t',rfl⟩:=ry
  exact notIn_str ⟨.bl _,H,I,rfl,q⟩
theorem call_len_seq:CallR X (.builtin "len") (fun xs H Q => ∃ p ys,xs = [.ref p] ∧ (SqL X.K H p ys ∨ SqT X.K H p ys) ∧ Q (.int ys.length) H):=by
  intro pins s σ H xs us Q I r h
  obtain ⟨p,ys,rfl,hq,q⟩:=h
  obtain ⟨u,rfl,rx⟩:=vals1 r
  cases rx
  have hn:=line63
  rcases hq with hq | hq
  · obtain ⟨its,r',pl,hz⟩:=I.list hq
    have hlen:=r'.length
    exact Calls.call_len_list pl.isList (by simp only [List.size_toArray] <;> omega) ⟨.int ys.length,H,I.tok _,⟨s.toks + 1,by rw [List.size_toArray,hlen]⟩,q⟩
  · obtain ⟨its,r',pl,hz⟩:=I.tuple hq
    have hlen:=r'.length
    exact len_tuple pl (by simp only [List.size_toArray] <;> omega) ⟨.int ys.length,H,I.tok _,⟨s.toks + 1,by rw [List.size_toArray,hlen]⟩,q⟩
theorem call_len_str:CallR X (.builtin "len") (fun xs H Q => ∃ z,xs = [.str z] ∧ z.length ≤ sizeLine ∧ Q (.int z.length) H):=by
  intro pins s σ H xs us Q I r h
  obtain ⟨z,rfl,hz,q⟩:=h
  obtain ⟨u,rfl,t,rfl⟩:=vals1 r
  have hn:=line63
  exact len_str (by omega) ⟨.int z.length,H,I.tok _,⟨_,rfl⟩,q⟩
theorem CallR.or {f:Value} {r r':List V → Hp → VK → Prop} (h:CallR X f r) (h':CallR X f r'):CallR X f (fun xs H Q => r xs H Q ∨ r' xs H Q):=by
  intro pins s σ H xs us Q I rs q
  rcases q with q | q
  · exact h pins s σ H xs us Q I rs q
  · exact h' pins s σ H xs us Q I rs q
def tyV (K:PySem.W.Frag) (T:String) (x:V) (H:Hp):Prop:=match x with
  | .str _ => T = "str"
  | .int _ => T = "int"
  | .ref p => (T = "list" ∧ ∃ xs,SqL K H p xs) ∨ (T = "tuple" ∧ ((∃ o,K.lookup p = some o ∧ o.cls = .type "tuple" ∧ o.dict = none) ∨ ∃ xs,H p = some (.tup xs))) ∨
      (T = "dict" ∧ ((∃ kvs,H p = some (.dK kvs)) ∨ ∃ kvs,H p = some (.dT kvs))) ∨ (T = "set" ∧ ∃ S n,H p = some (.set S n))
  | _ => False
theorem tyV_is {pins:List (Addr × Obj)} {σ:St} {H:Hp} {s:Shared} {T:String} {x:V} {v:Value} (I:Inv X pins σ H s) (r:RelV x v) (ty:tyV X.K T x H) :
    s.TypeIs v T ∧ ∀ a,v = .ref a → ∃ ob,s.heap.get? a = some ob ∧ ob.dict = none:=by
  cases x with
  | str z =>
    obtain ⟨t,rfl⟩:=r
    cases (show T = "str" from ty)
    exact ⟨typeIs_str s z t,fun _ e => nomatch e⟩
  | int i =>
    obtain ⟨t,rfl⟩:=r
    cases (show T = "int" from ty)
    exact ⟨typeIs_int s i t,fun _ e => nomatch e⟩
  | ref p =>
    cases r
    rcases ty with ⟨rfl,xs,hq⟩ | ⟨rfl,⟨o,hk,hc,hd⟩ | ⟨xs,hk⟩⟩ | ⟨rfl,hk⟩ | ⟨rfl,S,n,hk⟩
    · obtain ⟨its,_,pl,_⟩:=I.list hq
      refine ⟨pl.isList.typeIs,fun a e => ?_⟩
      cases e
      obtain ⟨o,n,e,c,hd,_⟩:=pl
      exact ⟨o,e,hd⟩
    · refine ⟨⟨o,I.kIn p o hk,hc⟩,fun a e => ?_⟩
      cases e
      exact ⟨o,I.kIn _ o hk,hd⟩
    · obtain ⟨_,_,_,⟨o,e1,e2,_⟩,nd⟩:=I.hok p _ hk
      refine ⟨⟨o,e1,e2⟩,fun a e => ?_⟩
      cases e
      exact ⟨o,e1,nd o e1⟩
    · have z:∃ o,s.heap.get? p = some o ∧ o.ExactDict:=by
        rcases hk with ⟨kvs,hk⟩ | ⟨kvs,hk⟩
        · obtain ⟨_,_,_,_,o,_,_,e,ex,_⟩:=I.hok p _ hk
          exact ⟨o,e,ex⟩
        · obtain ⟨_,_,_,_,o,_,_,e,ex,_⟩:=I.hok p _ hk
          exact ⟨o,e,ex⟩
      obtain ⟨o,e,ex⟩:=z
      refine ⟨⟨o,e,ex.1⟩,fun a e2 => ?_⟩
      cases e2
      exact ⟨o,e,ex.2.1⟩
    · obtain ⟨o,_,_,_,e,ex,_⟩:=I.hok p _ hk
      refine ⟨⟨o,e,ex.1⟩,fun a e2 => ?_⟩
      cases e2
      exact ⟨o,e,ex.2.1⟩
  | _ => exact False.elim ty
def tBM (K:PySem.W.Frag) (T:String) (r:V → List V → Hp → VK → Prop) (to:TE) (t:TA):TE:=fun σ H Q => to σ H fun x H1 => tyV K T x H1 ∧ t σ H1 fun xs H2 => r x xs H2 Q
variable {o e:Expr} {es:List Expr} {to:TE} {t:TA} {name:Str} {apos cpos:Pos} {T id:String} {r:V → List V → Hp → VK → Prop}
theorem pe_bm (pa:PlainAttrs T) (slot:Slot T name id) (hty:typeOf (.builtin id) = pure (.type "method_descriptor")) (hm:MtR X id r) (ho:PE X o to) (ha:PA X (e :: es) t)
    (hbase:attributeBase o name X.env (eval o X.env) = eval o X.env:=by rfl)
    (hfew:((backTo cpos (starEach (e :: es) X.env)).all (fun x => !x.1) && (backToKw cpos (keywordEach [] X.env)).all (fun x => x.1.isSome)
      && decide ((e :: es).length + ([]:List Keyword).length + (if ([]:List Keyword).isEmpty then 0 else 1) < 30)) = true:=by rfl)
    (hline:(apos.endLine == cpos.line) = true:=by rfl) (hs:starEach (e :: es) X.env = (false,eval e X.env) :: starEach es X.env:=by rfl) (hplain:(backTo cpos (starEach es X.env)).any (·.1) = false:=by rfl) :
    PE X (.Call (.Attribute o name apos) (e :: es) [] cpos) (tBM X.K T r to t):=by
  intro pins s σ H Q I h
  refine wpAny_Call_method_late hbase hfew hline rfl (thn (ho pins s σ H _ I h) fun v s1 ⟨x,H1,I1,r1,ty,q1⟩ => ?_)
  obtain ⟨h1,h2⟩:=tyV_is I1 r1 ty
  refine ⟨T,id,pa,slot,hty,h1,h2,?_⟩
  have hA:=ha cpos pins s1 σ H1 _ I1 q1
  rw [hs] at hA ⊢
  refine Calls.callWith_builtin (by show (false || (backTo cpos (starEach es X.env)).any (·.1)) = false; rw [hplain] <;> rfl) (Calls.evalArgs_plain ?_)
  exact thn hA fun us s2 ⟨vs,H2,I2,r2,q2⟩ => hm pins s2 σ H2 x vs v us Q I2 r1 r2 q2
/- xs.append(e),list.index on a module's tuple .. are MtR facts of 06m -/
end
end L2
namespace L2
open PySem PySem.Spec PyProof.Rows
def MtM (X:Cx) (id:String) (r:V → List V → Hp → VK → Prop):Prop :=
  ∀ (pins:List (Addr × Obj)) (s:Shared) (σ:St) (H:Hp) (x:V) (xs:List V) (v:Value) (us:List Value) (Q:VK),Inv X pins σ H s → RelV x v → Vals xs us → r x xs H Q →
    wpAny (model X.prog X.w) X.A (call (.builtin id) (v :: us)) (EP X pins σ Q) X.xe s
theorem Vals.one:∀ {x:V} {us:List Value},Vals [x] us → ∃ u,us = [u] ∧ RelV x u
  | _,_,.cons r .nil => ⟨_,rfl,r⟩
theorem Vals.rep {xs:List V} {us:List Value} (h:Vals xs us):∀ k:Nat,Vals (List.replicate k xs).flatten (List.replicate k us).flatten
  | 0 => .nil
  | k + 1 => by
    rw [List.replicate_succ,List.replicate_succ,List.flatten_cons,List.flatten_cons]
    exact Vals.append h (Vals.rep h k)
theorem foldl_rep (its:List Value):∀ (k:Nat) (acc:List Value),
    List.foldl (fun x1 x2 => x1 ++ x2) acc.toArray (List.replicate k its.toArray) = (acc ++ (List.replicate k its).flatten).toArray
  | 0,acc => by simp
  | k + 1,acc => by
    have e:acc.toArray ++ its.toArray = (acc ++ its).toArray:=by simp
    have e2:(acc ++ its) ++ (List.replicate k its).flatten = acc ++ (List.replicate (k + 1) its).flatten:=by
      rw [List.replicate_succ,List.flatten_cons,List.append_assoc]
    rw [← e2,← foldl_rep its k (acc ++ its),← e,List.replicate_succ,List.foldl_cons]
section
variable {X:Cx} {pins:List (Addr × Obj)} {σ:St} {H:Hp} {s:Shared} {l b:Addr} {xs ys zs:List V}
theorem Inv.lset {its its':List Value} {n:Nat} {f:Array Value → Array Value} {t':Nat} (I:Inv X pins σ H s) (hH:H l = some (.lst xs))
    (e:s.heap.get? l = some { cls:=.type "list",data:=.seq its.toArray n }) (hf:f its.toArray = its'.toArray) (hv:Vals ys its') (hz:ys.length ≤ sizeLine) :
    Inv X pins σ (upd H l (.lst ys)) { s with heap:=s.heap.update l (Obj.mapSeq f),toks:=t' }:=by
  have q:=PySem.IsL.update e f
  rw [hf] at q
  refine I.write (x:=l) (e:=l) (by rw [hH]; exact trivial) (.inl rfl) (fun b' u hb hu => (Heap.get?_update_other s.heap (Obj.mapSeq f) (Ne.symm hb)).trans hu) ⟨_,q⟩ ?_
  exact ⟨hz,its',_,hv,q⟩
theorem Inv.lnew {its:List Value} {t':Nat} (I:Inv X pins σ H s) (hv:Vals ys its) (hz:ys.length ≤ sizeLine) :
    Inv X pins σ (upd H s.heap.objs.size (.lst ys)) { s with heap:=s.heap.push { cls:=.type "list",data:=.seq its.toArray },toks:=t' } :=
  I.laid (fun _ _ q => Heap.get?_push_of_some _ q) (Nat.le_refl _) ⟨hz,its,0,hv,Heap.get?_push_size _ rfl⟩
theorem Inv.fresh (I:Inv X pins σ H s):H s.heap.objs.size = none:=I.hok.fresh (Nat.le_refl _)
theorem Inv.lstM (I:Inv X pins σ H s) (hH:H l = some (.lst xs)):xs.length ≤ sizeLine ∧ ∃ (its:List Value) (n:Nat),Vals xs its ∧ xs.length = its.length ∧ s.heap.get? l = some { cls:=.type "list",data:=.seq its.toArray n }:=by
  obtain ⟨z,its,n,r,e⟩:=I.hok l _ hH
  exact ⟨z,its,n,r,r.length,e⟩
theorem notLongL {n:Nat} (h:n ≤ sizeLine):Builtin.List.listTooLong n = false:=by
  unfold Builtin.List.listTooLong
  exact decide_eq_false (by omega)
end
section
variable {X:Cx}
def rAppend:V → List V → Hp → VK → Prop:=fun x vs H Q => ∃ l xs y,x = .ref l ∧ vs = [y] ∧ H l = some (.lst xs) ∧ xs.length < sizeLine ∧ Q .non (upd H l (.lst (xs ++ [y])))
theorem mt_append:MtM X "list.append" rAppend:=by
  intro pins s σ H x vs v us Q I rx rv h
  obtain ⟨l,xs,y,rfl,rfl,hH,hz,q⟩:=h
  cases rx
  obtain ⟨u,rfl,ru⟩:=rv.one
  obtain ⟨z,its,n,r,hl,e⟩:=I.lstM hH
  refine call_meets F.slot_list_append ⟨_,e,rfl⟩ F.entry_list_append (F.args_list_append_2 _ _) (PySem.list_append l its.toArray n u (by rw [List.size_toArray]; omega)) ⟨e,?_⟩
  refine ⟨.non,_,I.lset (its':=its ++ [u]) hH e (by simp) (r.append (.cons ru .nil)) ?_,rfl,q⟩
  rw [List.length_append,List.length_singleton]
  omega
def rExtend:V → List V → Hp → VK → Prop:=fun x vs H Q => ∃ l b xs zs,x = .ref l ∧ vs = [.ref b] ∧ H l = some (.lst xs) ∧ H b = some (.lst zs) ∧ xs.length + zs.length ≤ sizeLine ∧ Q .non (upd H l (.lst (xs ++ zs)))
theorem mt_extend:MtM X "list.extend" rExtend:=by
  intro pins s σ H x vs v us Q I rx rv h
  obtain ⟨l,b,xs,zs,rfl,rfl,hH,hB,hz,q⟩:=h
  cases rx
  obtain ⟨u,rfl,ru⟩:=rv.one
  cases ru
  obtain ⟨z,its,n,r,hl,e⟩:=I.lstM hH
  obtain ⟨z2,its2,n2,r2,hl2,e2⟩:=I.lstM hB
  have hsz:its.toArray.size + its2.toArray.size ≤ sizeLine:=by rw [List.size_toArray,List.size_toArray]; omega
  have hlong:¬ (!its.toArray.isEmpty && Builtin.List.listTooLong (its.toArray.size + its2.toArray.size)) = true:=by
    rw [notLongL hsz,Bool.and_false]
    exact Bool.false_ne_true
  refine call_meets F.slot_list_extend ⟨_,e,rfl⟩ F.entry_list_extend (F.args_list_extend_2 _ _)
    (AutoSeq1.list_extend_list_list_0 l its.toArray n b its2.toArray n2 hlong (by rw [List.size_toArray]; omega) (by omega)) ⟨e,e2,?_⟩
  refine ⟨.non,_,I.lset (its':=its ++ its2) hH e (by simp) (r.append r2) ?_,rfl,q⟩
  rw [List.length_append]
  omega
def rRep:R2:=fun x y H Q => ∃ l k xs,x = .ref l ∧ y = .int k ∧ H l = some (.lst xs) ∧ -(2 ^ 63) ≤ k ∧ k < 2 ^ 63 ∧ xs.length * k.toNat ≤ sizeLine ∧
  ∀ p,H p = none → Q (.ref p) (upd H p (.lst (List.replicate k.toNat xs).flatten))
theorem len_rep {α:Type} (xs:List α) (k:Nat):(List.replicate k xs).flatten.length = k * xs.length:=by
  induction k with
  | zero => simp
  | succ k ih => rw [List.replicate_succ,List.flatten_cons,List.length_append,ih,Nat.succ_mul,Nat.add_comm]
theorem op_rep:OpR X (binaryOp .Mult) rRep:=by
  intro pins s σ H x y v u Q I rx ry h
  obtain ⟨l,k,xs,rfl,rfl,hH,h1,h2,hz,q⟩:=h
  cases rx
  obtain ⟨t,rfl⟩:=ry
  obtain ⟨z,its,n,r,hl,e⟩:=I.lstM hH
  have hlen:its.toArray.size * k.toNat ≤ sizeLine:=by rw [List.size_toArray,← hl]; exact hz
  have hcap:¬ its.toArray.size * k.toNat > (2 ^ 63 - 1) / 8:=by
    have:(sizeLine:Nat) ≤ (2 ^ 63 - 1) / 8:=by decide
    omega
  have hfit:¬ (!Builtin.List.listFitsIndex k) = true:=by
    rw [fitsIndex_both h1 h2]
    exact Bool.false_ne_true
  have hlong:¬ Builtin.List.listTooLong (its.toArray.size * k.toNat) = true:=by
    rw [notLongL hlen]
    exact Bool.false_ne_true
  have hnew:List.foldl (fun x1 x2 => x1 ++ x2) #[] (List.replicate (if its.toArray.isEmpty = true then 0 else k.toNat) its.toArray) = (List.replicate k.toNat its).flatten.toArray:=by
    have f0:∀ m:Nat,List.foldl (fun x1 x2 => x1 ++ x2) #[] (List.replicate m its.toArray) = (List.replicate m its).flatten.toArray:=fun m => by
      have:=foldl_rep its m []
      rw [List.nil_append] at this
      exact this
    rw [f0]
    cases its with
    | nil => simp
    | cons a r' => rw [if_neg (by simp)]
  refine wpAny_binaryOp_repeat_ref (T:="list") (U:="int") (by decide) ⟨_,e,rfl⟩ (fun s' => typeIs_int s' k t) noFill_list_mul F.fills_int_mul F.slot_int_rmul repeat_list F.slot_int_index.lookup
    (call_meets F.slot_int_rmul (typeIs_int s k t) F.entry_int_rmul (F.args_int_rmul_2 _ _) (int___rmul___int_list k t l its.toArray n)
      ⟨e,rfl,⟨_,e,rfl⟩,call_meets F.slot_list_mul ⟨_,e,rfl⟩ F.entry_list_mul (F.args_list_mul_2 _ _) (AutoListH.list___mul___list_int_3 l its.toArray n k t hfit hcap hlong) ⟨e,?_⟩⟩)
  rw [hnew]
  exact ⟨.ref _,_,I.lnew (t':=s.toks) (r.rep k.toNat) (by rw [len_rep,Nat.mul_comm]; exact hz),rfl,q _ I.fresh⟩
end
section
variable {prog:Program} {w:World} {A:Around} {E:Value → Shared → Prop} {s:Shared}
set_option maxRecDepth 100000 in
end
section
variable {X:Cx}
end
end L2
namespace Att
open PySem PySem.W PySem.Calls PyProof.Rows
theorem ints_of_wellAll {P:Params} {h:Heap}:∀ (ns:List Int) (vs:List Value),WellAll P h vs (ns.map WData.int) → IntsAre vs ns:=by
  intro ns
  induction ns with
  | nil =>
    intro vs w
    rw [List.map_nil] at w
    cases w
    exact .nil
  | cons n ns ih =>
    intro vs w
    rw [List.map_cons] at w
    cases w with
    | cons a b =>
      cases a
      exact .cons _ _ (ih _ b)
theorem script_of {l:OpenLaw} {n:Nat} (hn:l.most = some n) {P:Params} {h:Heap} {args:List WData} {vals:List Value}
    (hpre:l.row.toRowW.claim.pre args = true) (hwl:WellAll P h vals args) :
    ∃ a vs ns,vals = [Value.ref a] ∧ args = [WData.list (ns.map WData.int)] ∧ h.get? a = some { cls:=.type "list",data:=.seq vs.toArray } ∧ IntsAre vs ns ∧ ns.length ≤ n:=by
  have hsh:WShape.hasAll [] args [.list .int] = true:=(pre_splitW hpre).1
  have hc:l.pre.holds [] { args:=args } = true:=(pre_splitW hpre).2
  obtain ⟨d,r,rfl,h1,h2⟩:=hasAllW_cons hsh
  obtain rfl:=hasAllW_nil h2
  obtain ⟨xs,rfl,h3⟩:=hasW_list h1
  obtain ⟨ns,rfl⟩:=items_int h3
  have hlen:ns.length ≤ n:=by
    unfold OpenLaw.pre at hc
    have h4:(WTm.not (.lt (.lit (.int (n:Int))) (.len (.arg 0)))).holds [] { args:=[.list (ns.map .int)] } = true:=by
      have h4:=(holds_andW hc).1
      rw [hn] at h4
      exact h4
    have h5:=condW_of h4 (w_not (w_lt w_lit (w_len_list (w_arg rfl))))
    rw [List.length_map] at h5
    refine Nat.le_of_not_lt fun q => ?_
    have q':(n:Int) < ((ns.length:Nat):Int):=by omega
    first
      | (rw [decide_eq_true q'] at h5; exact absurd h5 (by decide))
      | (simp at h5; omega)
  cases hwl with
  | cons w1 w2 =>
    cases w2
    cases w1 with
    | list ho hall => exact ⟨_,_,ns,rfl,rfl,ho,ints_of_wellAll ns _ hall,hlen⟩
theorem post_true (l:OpenLaw) (args:List WData):l.row.toRowW.claim.post args (.bool true) args = true :=
  postW_of (r:=l.row.toRowW) (X:=(true == true))
    (show WShape.has [] (.bool true) .bool = true by first | rfl | decide | simp [WShape.has,WShape.arms,WShape.armsAll])
    (show (WTm.eq .res (.lit (.bool true))).value [] { args:=args,res:=some (.bool true),after:=args } = some (.bool (true == true)) from w_eq_bool (w_res rfl) w_lit) rfl
theorem attach_call {l:OpenLaw} {n:Nat} {q:Program} {loose:List Str} {XP:(Str → Option Value) → Heap → Prop} {YP:World → Heap → Prop} {d:DefRec}
    (hn:l.most = some n) (hdf:d.params.defaults = [])
    (call:∀ (w:World) (s₀ s₁:Shared) (mg mb:Str → Option Value) (fa:Addr) (o:Obj) (pm cd doc:Value) (a:Addr) (vs:List Value) (ns:List Int),
      Ground q loose [] XP w s₀ mg mb s₁.heap → YP w s₁.heap →
      s₁.heap.get? fa = some o → o.data = .func (docDef d.name d.params d.body d.scope pm cd doc) → s₁.heap.CodeRec cd d.name → mg d.name = some (.ref fa) →
      s₁.heap.get? a = some { cls:=.type "list",data:=.seq vs.toArray } → IntsAre vs ns → ns.length ≤ n → s₁.gens = #[] →
      codeAny (model l.prog w) callerA (.call (.ref fa) ⟨[.ref a],[]⟩) (fun r s' => r = .ok (.ret (.bool true)) ∧ OldK s₁.heap s'.heap ∧ s'.os = s₁.os ∧ AllBare s'.gens) s₁) :
    WalkO q loose XP YP l.row.toRowW d [] (fun f vs => PySem.call f vs):=by
  intro w s₀ s₁ mg mb G Y fa o pm cd doc dV kV ho hd hcd hD hmg hg args vals as hpre hlay hrd hwl hlo
  obtain rfl:dV = .none:=Dflts.none hD hdf
  obtain rfl:kV = .none:=Dflts.noKw hD
  obtain ⟨a,vs,ns,rfl,rfl,hobj,hints,hlen⟩:=script_of hn hpre hwl
  refine enter_call (codeAny_mono (call w s₀ s₁ mg mb fa o pm cd doc a vs ns G Y ho (fd_plain hd) hcd hmg hobj hints hlen hg) fun r s' hq => ?_)
  obtain ⟨rfl,h2,h3,h4⟩:=hq
  exact ⟨.inl ⟨.bool true,.bool true,[],rfl,fun _ => rfl,.bool true,post_true l _,fun _ => ⟨List.Pairwise.nil,fun _ hm => (nomatch hm)⟩⟩,h2,h3,h4⟩
section
variable {prog:Program} {w:World} {A:Around} {E:Value → Shared → Prop} {s:Shared} {K:Frag}
end
end Att
namespace L2
open PySem PySem.Spec PyProof.Rows
theorem vals_ints:∀ {vs:List Value} {ns:List Int},IntsAre vs ns → Vals (ns.map V.int) vs
  | _,_,.nil => .nil
  | _,_,.cons n t h => .cons ⟨t,rfl⟩ (vals_ints h)
def Only (H:Hp):Prop:=∀ b,H b = none ∨ ∃ o xs,H b = some (.frz o (.lst xs))
theorem law_call {P:Program} {w:World} {K:PySem.W.Frag} {mg mb:Str → Option Value} {CX:CXT} {k:Nat} {fa a:Addr} {fd:FuncData} {x:Str} {sp:Sp} {s₁:Shared} {vs:List Value} {ns:List Int}
    (KX:K.In s₁.heap) (hns:s₁.heap.Ns mainGlobals mg) (hb:s₁.heap.Ns builtinsNs mb) (hbb:∀ x:Str,x ≠ "__name__" → mb x = bootBuiltins x) (hlim:s₁.heap.NoLimit) (hg:s₁.gens = #[])
    (ha:s₁.heap.get? a = some { cls:=.type "list",data:=.seq vs.toArray }) (hi:IntsAre vs ns) (hl:ns.length ≤ sizeLine) (hr:Room k callerA)
    (F:∀ base:Heap,K.In base → base.Ns mainGlobals mg → FnOk P w K mg base CX k fa fd [x] sp) (hbind:∀ (s:Shared) (u:Value),BindsTo s fd ⟨[u],[]⟩ [(x,u)])
    (hsp:∀ H:Hp,Only H → SqL K H a (ns.map V.int) → sp [.ref a] H (fun v _ => v = .bl true) fun _ _ _ => False)
    (hCX:∀ H e s',CX [] H s₁ (fun _ _ _ => False) e s' → False) :
    codeAny (model P w) callerA (.call (.ref fa) ⟨[.ref a],[]⟩) (fun r s' => r = .ok (.ret (.bool true)) ∧ OldK s₁.heap s'.heap ∧ s'.os = s₁.os ∧ AllBare s'.gens) s₁:=by
  have rv:=vals_ints hi
  have lenV:=hi.length
  -- from an abstract heap in which nothing but the script may be tracked
  have core:∀ H:Hp,Only H → SqL K H a (ns.map V.int) → HOk P w H s₁.heap → (∀ b,H b ≠ none → b = a) → (H a ≠ none → K.lookup a = none) →
      codeAny (model P w) callerA (.call (.ref fa) ⟨[.ref a],[]⟩) (fun r s' => r = .ok (.ret (.bool true)) ∧ OldK s₁.heap s'.heap ∧ s'.os = s₁.os ∧ AllBare s'.gens) s₁:=by
    intro H hO hS hok hA hK
    have base_of:∀ {b:Addr} {o:Obj},s₁.heap.get? b = some o → H b = none → (hidT s₁.heap H).get? b = some o:=fun e n => hidT_get e n
    have noA:∀ {b:Addr} {o:Obj} {es:Array DictEntry} {ep:Nat},s₁.heap.get? b = some o → o.data = .dict es ep → H b = none:=fun {b o es ep} e d => by
      cases q:H b with
      | none => rfl
      | some u =>
        have e':b = a:=hA b (by rw [q]; simp)
        subst e'
        rw [ha] at e; cases e
        have d':Data.seq vs.toArray _ = Data.dict es ep:=d
        cases d'
    have nsK:∀ {b:Addr} {m:Str → Option Value},s₁.heap.Ns b m → (hidT s₁.heap H).Ns b m:=fun {b m} ⟨o,es,ep,e,d,r⟩ => ⟨o,es,ep,base_of e (noA e d),d,r⟩
    have hKb:K.In (hidT s₁.heap H):=fun b o e => base_of (KX b o e) (by
      cases q:H b with
      | none => rfl
      | some u =>
        have e':b = a:=hA b (by rw [q]; simp)
        subst e'
        rw [hK (by rw [q]; simp)] at e; cases e)
    have hM:Mod K mg (hidT s₁.heap H):=⟨hKb,nsK hns,⟨mb,nsK hb,hbb⟩,let ⟨mc,h1,h2⟩:=hlim; ⟨mc,nsK h1,h2⟩⟩
    have e0:Env0 P w K mg (hidT s₁.heap H) callerA [] s₁ H:=⟨rfl,hM,fun b o e => of_hidT e,Nat.le_of_eq (hidT_size _ _),trivial,fun b hb => absurd (show b ∈ ([]:List Addr) from hb) (by simp),hok,.of_eq hg⟩
    refine codeAny_mono ((F _ hKb (nsK hns)).run callerA [] s₁ H ⟨[.ref a],[]⟩ [.ref a] [.ref a] _ _ hr e0 (hbind s₁ (.ref a)) (.cons rfl .nil) (hsp H hO hS)) fun r s' h => ?_
    cases r with
    | error e => exact (hCX H e s' h).elim
    | ok fl =>
      cases fl with
      | next => exact False.elim h
      | brk => exact False.elim h
      | cont => exact False.elim h
      | ret u =>
        obtain ⟨v,H',os,bare,un,hok',r',q⟩:=h
        have q':v = .bl true:=q
        subst q'
        obtain rfl:u = Value.bool true:=r'
        refine ⟨rfl,OldK.of_keep fun b o e => ?_,os,bare⟩
        cases q:H b with
        | none => exact un.keep b o e q (by intro z; exact absurd (show b ∈ ([]:List Addr) from z) (by simp)) (by simp)
        | some u =>
          rcases hO b with z | ⟨ob,xs,z⟩
          · rw [q] at z; cases z
          · have z2:=un.frzs b ob _ z
            obtain ⟨e1,_⟩:=hok b _ z
            obtain ⟨e2,_⟩:=hok' b _ z2
            rw [e] at e1; cases e1
            exact e2
  cases hk:K.lookup a with
  | some o =>
    -- the script is one of the module's own objects
    have e:=KX a o hk
    rw [ha] at e
    cases e
    refine core (fun _ => none) (fun _ => .inl rfl) (.inr ⟨_,vs.toArray,_,hk,rfl,rfl,rfl,by rw [List.size_toArray,lenV]; exact hl,by simpa using rv⟩) (fun b u z => by have z':(none:Option HO) = some u:=z; cases z') (fun b z => absurd rfl z) fun z => absurd rfl z
  | none =>
    refine core (fun b => if b = a then some (.frz { cls:=.type "list",data:=.seq vs.toArray } (.lst (ns.map V.int))) else none) (fun b => ?_) (.inl (.inr ⟨{ cls:=.type "list",data:=.seq vs.toArray },if_pos rfl⟩)) (fun b u z => ?_) (fun b z => ?_) fun _ => hk
    · by_cases hb:b = a
      · exact .inr ⟨_,_,if_pos hb⟩
      · exact .inl (if_neg hb)
    · by_cases hb:b = a
      · have z':=(if_pos hb).symm.trans z
        cases z'
        subst hb
        exact ⟨ha,by rw [List.length_map]; exact hl,vs,_,rv,ha⟩
      · have z':=(if_neg hb).symm.trans z
        cases z'
    · by_cases hb:b = a
      · exact hb
      · exact absurd (if_neg hb) z
end L2
namespace L2
open PySem PySem.Spec PyProof.Rows
abbrev KOf {K:PySem.W.Frag} {h:Heap} (_:K.In h):PySem.W.Frag:=K
theorem walk_of {l:PySem.W.OpenLaw} {n k:Nat} {q:Program} {loose:List Str} {XP:(Str → Option Value) → Heap → Prop} {YP:World → Heap → Prop} {d:DefRec} {K:Params → PySem.W.Frag} {CX:World → CXT} {sp:World → Sp} {x:Str}
    (hn:l.most = some n) (hn2:n ≤ sizeLine) (hdf:d.params.defaults = []) (hr:Room k callerA)
    (hY:∀ (w:World) (h:Heap),YP w h → (K w.params).In h)
    (F:∀ (w:World) (mg:Str → Option Value) (fa:Addr) (h:Heap),(K w.params).In h → h.Ns mainGlobals mg → mg d.name = some (.ref fa) →
      ∃ fd:FuncData,(∀ (s:Shared) (u:Value),BindsTo s fd ⟨[u],[]⟩ [(x,u)]) ∧
        ∀ base:Heap,(K w.params).In base → base.Ns mainGlobals mg → FnOk l.prog w (K w.params) mg base (CX w) k fa fd [x] (sp w))
    (hsp:∀ (w:World) (H:Hp) (a:Addr) (ns:List Int),ns.length ≤ n → Only H → SqL (K w.params) H a (ns.map V.int) → sp w [.ref a] H (fun v _ => v = .bl true) fun _ _ _ => False)
    (hCX:∀ (w:World) (H:Hp) (s:Shared) (e:Value) (s':Shared),CX w [] H s (fun _ _ _ => False) e s' → False) :
    PySem.W.WalkO q loose XP YP l.row.toRowW d [] (fun f vs => PySem.call f vs):=by
  refine Att.attach_call hn hdf fun w s₀ s₁ mg mb fa o pm cd doc a vs ns G Y ho hd hcd hmg hobj hints hlen hg => ?_
  have KX:=hY w _ Y
  obtain ⟨fd,hb,hF⟩:=F w mg fa _ KX G.T.g hmg
  exact law_call KX G.T.g G.T.b G.T.builtins G.T.nolimit hg hobj hints (Nat.le_trans hlen hn2) hr hF hb (fun H hO hS => hsp w H a ns hlen hO hS) fun H e s' => hCX w H s₁ e s'
end L2
/- THE LAST THEOREM (shape; LID,My.* are yours):
   My.Adr: a structure of the addresses that your layer names (classes,functions); My.Txt K t: a structure (Prop) of the equations over K;
   My.txt_mk:{K} {implicit addresses ..} (e1:nsIn K mainGlobals "law" = some (some (.ref f))) (e2:K.lookup f = some ⟨oc,od,.func (fnOf "law" "law" params body scope dV kV doc pm an cdv ct),sl⟩) (e3:codeIn K cdv "law" = true) ..:∃ t,My.Txt K t
set_option maxRecDepth 100000 in
set_option maxHeartbeats 0 in
theorem PySem.Challenge.cw_LID_holds:PySem.Challenge.rw_LID.Holds:=by
  w_on; o_law; k_head; (case hw => w_witness2)
  k_fill
  refine L2.walk_of (l:=PySem.Challenge.rw_LID) (n:=63) (k:=40) (x:="script") (CX:=fun w => ..) (sp:=fun _ => My.sp_law) rfl (by decide) rfl ⟨rfl,by decide,by decide⟩ (fun w h Y => PySem.W.kIn_of Y) ?F ?S ?C
  case F =>
    intro w mg fa h KX G hmg
    have T:∃ t,My.Txt (L2.KOf KX) t:=by
      dsimp only [L2.KOf]                          -- K must stand as «<heap const> w.params» for k_is
      refine' My.txt_mk ?e1 ?e2 ?e3 ..
      (case e1 => PySem.W.k_is)                    -- in the order: a name -> its address -> its object -> its parts
      (case e2 => PySem.W.k_is)
      ..
    obtain ⟨t,T⟩:=T
    have e0:=hmg.symm.trans (PySem.W.mg_of KX G T.law)
    cases e0                                       -- fa is the law's own address
    exact ⟨_,fun s u => .of_eq rfl,fun base kb nb => My.law_fn T kb nb⟩     -- if «.of_eq rfl» comes too early: refine' ⟨_,?b,fun base kb nb => My.law_fn T kb nb⟩; exact fun s u => .of_eq rfl
  case S => exact fun w H a ns hl hO hS => ..
  case C => exact ..
(the tactic k_is has no namespace: write k_is) -/
namespace L2
open PySem PySem.Spec PyProof.Rows
def defArgs (s:Stmt):Arguments:=match s with
  | .FunctionDef _ a _ _ _ _ _ _ _ _ => a
  | _ => { posonlyargs:=[],args:=[],vararg:=none,kwonlyargs:=[],kw_defaults:=[],kwarg:=none,defaults:=[] }
def defBody (s:Stmt):List Stmt:=match s with
  | .FunctionDef _ _ b _ _ _ _ _ _ _ => b
  | _ => []
def defScope (s:Stmt):Scope:=match s with
  | .FunctionDef _ _ _ _ _ _ sc _ _ _ => sc
  | _ => { kind:=.function,names:=[],isGenerator:=false,isCoroutine:=false }
abbrev CX0:CXT:=fun _ _ _ _ _ _ => False
abbrev E0:XK:=fun _ _ _ => False
structure Fun (K:PySem.W.Frag) (x qual:Str) (st:Stmt) (f:Addr) (fd:FuncData):Prop where
  ex:∃ (oc:Value) (od:Option Addr) (kV doc pm:Value) (an:Option Addr) (cdv ct:Value) (osl:Array (Option Value)),
    fd = PySem.W.fnOf x qual (defArgs st) (defBody st) (defScope st) .none kV doc pm an cdv ct ∧ K.lookup f = some ⟨oc,od,.func fd,osl⟩ ∧ PySem.W.codeIn K cdv qual = true
  kp:PySem.W.keepIn K (.ref f) = true
section
variable {P:Program} {w:World} {K:PySem.W.Frag} {mg:Str → Option Value} {base:Heap}
theorem Fun.binds {x qual:Str} {st:Stmt} {f:Addr} {fd:FuncData} {ps:List Str} (F:Fun K x qual st f fd)
    (h:∀ (kV doc pm:Value) (an:Option Addr) (cdv ct:Value) (us:List Value),us.length = ps.length → bindArgs (PySem.W.fnOf x qual (defArgs st) (defBody st) (defScope st) .none kV doc pm an cdv ct) ⟨us,[]⟩ = pure (ps.zip us)):Binds K fd ps []:=by
  obtain ⟨oc,od,kV,doc,pm,an,cdv,ct,osl,rfl,lk,hcd⟩:=F.ex
  exact .all (h kV doc pm an cdv ct)
theorem fun_mk {x qual:Str} {st:Stmt} {f:Addr} {oc:Value} {od an:Option Addr} {osl:Array (Option Value)} {kV doc pm cdv ct:Value} (l:K.lookup f = some ⟨oc,od,.func (PySem.W.fnOf x qual (defArgs st) (defBody st) (defScope st) .none kV doc pm an cdv ct),osl⟩)
    (c:PySem.W.codeIn K cdv qual = true) (k:PySem.W.keepIn K (.ref f) = true):Fun K x qual st f (PySem.W.fnOf x qual (defArgs st) (defBody st) (defScope st) .none kV doc pm an cdv ct):=⟨⟨oc,od,kV,doc,pm,an,cdv,ct,osl,rfl,l,c⟩,k⟩
end
section
variable {X:Cx}
end
end L2
namespace L2
open PySem PySem.Spec PyProof.Rows
section
variable {κ : Type} [DecidableEq κ]
def valV (kvs : List (κ × V)) (k : κ) : Option V := (kvs.find? fun kv => decide (kv.1 = k)).map (·.2)
def putK (kvs : List (κ × V)) (k : κ) (v : V) : List (κ × V) :=
  if (kvs.any fun kv => decide (kv.1 = k)) = true then kvs.map (fun kv => if kv.1 = k then (kv.1, v) else kv) else kvs ++ [(k, v)]
def dropK (kvs : List (κ × V)) (k : κ) : List (κ × V) := kvs.filter fun kv => decide (kv.1 ≠ k)
theorem valV_pos {p : κ × V} {r : List (κ × V)} {k : κ} (e : p.1 = k) : valV (p :: r) k = some p.2 := by simp [valV, List.find?_cons, e]
theorem valV_neg {p : κ × V} {r : List (κ × V)} {k : κ} (e : ¬ p.1 = k) : valV (p :: r) k = valV r k := by simp [valV, List.find?_cons, e]
theorem valV_any (k : κ) : ∀ kvs : List (κ × V), (kvs.any fun kv => decide (kv.1 = k)) = (valV kvs k).isSome
  | [] => rfl
  | p :: r => by
    rw [List.any_cons]
    by_cases e : p.1 = k
    · simp only [valV_pos e, decide_eq_true e, Bool.true_or, Option.isSome_some]
    · rw [valV_neg e, decide_eq_false e, Bool.false_or]; exact valV_any k r
theorem length_putK (kvs : List (κ × V)) (k : κ) (v : V) : (putK kvs k v).length ≤ kvs.length + 1 := by
  unfold putK
  split
  · rw [List.length_map]; omega
  · rw [List.length_append, List.length_cons, List.length_nil]; omega
theorem RelO.isSome_eq {o : Option V} {u : Option Value} (r : RelO o u) : o.isSome = u.isSome := by
  cases o with
  | none => cases u with
    | none => rfl
    | some _ => exact (show False from r).elim
  | some _ => cases u with
    | none => exact (show False from r).elim
    | some _ => rfl
theorem KV.any {kvs : List (κ × V)} {vs : List (κ × Value)} (r : KV kvs vs) (k : κ) : (kvs.any fun kv => decide (kv.1 = k)) = vs.any fun kv => decide (kv.1 = k) := by
  unfold KV at r
  induction r with
  | nil => rfl
  | cons h t ih => rw [List.any_cons, List.any_cons, ih, h.1]
theorem KV.repl {kvs : List (κ × V)} {vs : List (κ × Value)} (r : KV kvs vs) (k : κ) {y : V} {u : Value} (ry : RelV y u) :
    KV (kvs.map fun kv => if kv.1 = k then (kv.1, y) else kv) (vs.map fun kv => if kv.1 = k then (kv.1, u) else kv) := by
  unfold KV at r ⊢
  induction r with
  | nil => exact .nil
  | @cons p q ps qs h t ih =>
    rw [List.map_cons, List.map_cons]
    refine .cons ?_ ih
    obtain ⟨h1, h2⟩ := h
    by_cases e : p.1 = k
    · rw [if_pos e, if_pos (h1.symm.trans e)]; exact ⟨h1, ry⟩
    · rw [if_neg e, if_neg (fun z => e (h1.trans z))]; exact ⟨h1, h2⟩
theorem KV.put {kvs : List (κ × V)} {vs : List (κ × Value)} (r : KV kvs vs) (k : κ) {y : V} {u : Value} (ry : RelV y u) : KV (putK kvs k y) (stored vs k u) := by
  unfold putK stored
  rw [r.any k]
  by_cases e : (vs.any fun kv => decide (kv.1 = k)) = true
  · rw [if_pos e, if_pos e]; exact r.repl k ry
  · rw [if_neg e, if_neg e]; exact Paired.snoc r ⟨rfl, ry⟩
theorem KV.length {kvs : List (κ × V)} {vs : List (κ × Value)} (r : KV kvs vs) : kvs.length = vs.length := Paired.length r
theorem dropK_le (kvs : List (κ × V)) (k : κ) : (dropK kvs k).length ≤ kvs.length := List.length_filter_le _ _
end
theorem kV_is {P : Program} {w : World} {k : Key} {u : Value} (r : RelV (kV k) u) : (mixKind P w).is k u = true := by
  cases k with
  | inl i => obtain ⟨t, e⟩ := (show ∃ t, u = Value.int i t from r); subst e; exact mixKind_int P w i t
  | inr x => obtain ⟨t, e⟩ := (show ∃ t, u = Value.str x t from r); subst e; exact mixKind_str P w x t
theorem items_are {P : Program} {w : World} : ∀ {ks : List Key} {us : List Value}, Vals (ks.map kV) us → ItemsAre (mixKind P w) ks us
  | [], _, r => by rw [List.map_nil] at r; cases r; exact .nil
  | k :: ks, _, r => by
    rw [List.map_cons] at r
    cases r with
    | cons h t => exact .cons (kV_is h) (items_are t)
abbrev KT (H : Hp) : List (List Key × V) → List (List Key × Addr × Value) → Prop := Paired fun p q => p.1 = q.1 ∧ H q.2.1 = some (.tup (p.1.map kV)) ∧ RelV p.2 q.2.2
theorem KT.val {H : Hp} {kvs : List (List Key × V)} {xs : List (List Key × Addr × Value)} (r : KT H kvs xs) (k : List Key) : RelO (valV kvs k) ((atKey xs k).map (·.2)) := by
  induction r with
  | nil => exact True.intro
  | @cons p q ps qs h t ih =>
    obtain ⟨h1, _, h2⟩ := h
    by_cases e : p.1 = k
    · have e' : q.1 = k := h1.symm.trans e
      have b : atKey (q :: qs) k = some q.2 := by simp [atKey, List.find?_cons, e']
      rw [valV_pos e, b]; exact h2
    · have e' : ¬ q.1 = k := fun z => e (h1.trans z)
      have b : atKey (q :: qs) k = atKey qs k := by simp [atKey, List.find?_cons, e']
      rw [valV_neg e, b]; exact ih
theorem KT.repl {H : Hp} {kvs : List (List Key × V)} {xs : List (List Key × Addr × Value)} (r : KT H kvs xs) (k : List Key) {y : V} {u : Value} (ry : RelV y u) :
    KT H (kvs.map fun kv => if kv.1 = k then (kv.1, y) else kv) (xs.map (putAt k u)) := by
  induction r with
  | nil => exact .nil
  | @cons p q ps qs h t ih =>
    rw [List.map_cons, List.map_cons]
    refine .cons ?_ ih
    obtain ⟨h1, h2, h3⟩ := h
    unfold putAt
    by_cases e : p.1 = k
    · rw [if_pos e, if_pos (h1.symm.trans e)]; exact ⟨h1, h2, ry⟩
    · rw [if_neg e, if_neg (fun z => e (h1.trans z))]; exact ⟨h1, h2, h3⟩
theorem KT.put {H : Hp} {kvs : List (List Key × V)} {xs : List (List Key × Addr × Value)} (r : KT H kvs xs) (k : List Key) {b : Addr} {y : V} {u : Value} (hb : H b = some (.tup (k.map kV))) (ry : RelV y u) :
    KT H (putK kvs k y) (storedH xs k b u) := by
  have e : (kvs.any fun kv => decide (kv.1 = k)) = (atKey xs k).isSome := by
    rw [valV_any, (r.val k).isSome_eq, Option.isSome_map]
  unfold putK storedH
  rw [e]
  by_cases q : (atKey xs k).isSome = true
  · rw [if_pos q, if_pos q]; exact r.repl k ry
  · rw [if_neg q, if_neg q]; exact Paired.snoc r ⟨rfl, hb, ry⟩
theorem KT.keeps {H H' : Hp} {kvs : List (List Key × V)} {xs : List (List Key × Addr × Value)} (r : KT H kvs xs) (ht : ∀ b ys, H b = some (.tup ys) → H' b = some (.tup ys)) : KT H' kvs xs :=
  Paired.mapP r fun _ _ z => ⟨z.1, ht _ _ z.2.1, z.2.2⟩
section
variable {P : Program} {w : World} {H : Hp} {h : Heap} {a : Addr}
theorem rd_of {u : HO} (ok : HOk P w H h) (e : Rd H a u) : ObjOk P w H h a u := e.ok ok
theorem dk_rd {kvs : List (Key × V)} (ok : HOk P w H h) (e : Rd H a (.dK kvs)) : kvs.length ≤ sizeLine ∧ (a == sysModules) = false ∧ ∃ vs, KV kvs vs ∧ h.DictOf (mixKind P w) a vs :=
  show ObjOk P w H h a (.dK kvs) from rd_of ok e
theorem dk_of {kvs : List (Key × V)} (ok : HOk P w H h) (e : H a = some (.dK kvs)) : kvs.length ≤ sizeLine ∧ (a == sysModules) = false ∧ ∃ vs, KV kvs vs ∧ h.DictOf (mixKind P w) a vs := dk_rd ok (.inl e)
theorem key_of {ks : List Key} (ok : HOk P w H h) (e : H a = some (.tup (ks.map kV))) : (tupleKind (mixKind P w)).is h ks a := by
  obtain ⟨_, its, r, ⟨o, h1, h2, n, h3⟩, _⟩ := (show ObjOk P w H h a (.tup (ks.map kV)) from ok a _ e)
  exact ⟨o, its.toArray, n, h1, h2, h3, by simpa using items_are r⟩
theorem dt_rd {kvs : List (List Key × V)} (ok : HOk P w H h) (e : Rd H a (.dT kvs)) : kvs.length ≤ sizeLine ∧ (a == sysModules) = false ∧
    ∃ xs, KT H kvs xs ∧ h.DictOfH (tupleKind (mixKind P w)) a xs := by
  obtain ⟨z, y, xs, r, o, es, ep, h1, h2, h3, h4, h5⟩ := (show ObjOk P w H h a (.dT kvs) from rd_of ok e)
  refine ⟨z, y, xs, r, o, es, ep, h1, h2, h3, h4, fun x hx => ?_, h5⟩
  have all : ∀ {l : List (List Key × V)} {m : List (List Key × Addr × Value)}, KT H l m → ∀ x ∈ m, (tupleKind (mixKind P w)).is h x.1 x.2.1 := by
    intro l m q
    induction q with
    | nil => intro x hx; exact nomatch hx
    | @cons p q ps qs hq t ih =>
      intro x hx
      rcases List.mem_cons.mp hx with e | hx
      · subst e
        exact key_of ok (by rw [← hq.1]; exact hq.2.1)
      · exact ih x hx
  exact all r x hx
theorem dt_of {kvs : List (List Key × V)} (ok : HOk P w H h) (e : H a = some (.dT kvs)) : kvs.length ≤ sizeLine ∧ (a == sysModules) = false ∧
    ∃ xs, KT H kvs xs ∧ h.DictOfH (tupleKind (mixKind P w)) a xs := dt_rd ok (.inl e)
end
def DPut (H : Hp) (a : Addr) (y v : V) (H' : Hp) : Prop :=
  (∃ kvs k, H a = some (.dK kvs) ∧ y = kV k ∧ kvs.length < sizeLine ∧ H' = upd H a (.dK (putK kvs k v))) ∨
  ∃ kvs k b, H a = some (.dT kvs) ∧ y = .ref b ∧ H b = some (.tup (k.map kV)) ∧ kvs.length < sizeLine ∧ H' = upd H a (.dT (putK kvs k v))
theorem DPut.k {H : Hp} {a : Addr} {kvs : List (Key × V)} {k : Key} {v : V} (e : H a = some (.dK kvs)) (hl : kvs.length < sizeLine) : DPut H a (kV k) v (upd H a (.dK (putK kvs k v))) := .inl ⟨kvs, k, e, rfl, hl, rfl⟩
theorem DPut.t {H : Hp} {a b : Addr} {kvs : List (List Key × V)} {k : List Key} {v : V} (e : H a = some (.dT kvs)) (eb : H b = some (.tup (k.map kV))) (hl : kvs.length < sizeLine) :
    DPut H a (.ref b) v (upd H a (.dT (putK kvs k v))) := .inr ⟨kvs, k, b, e, rfl, eb, hl, rfl⟩
section
variable {X : Cx} {pins : List (Addr × Obj)} {σ : St} {H : Hp} {s : Shared} {a : Addr} {y v : V} {u r : Value} {o : Option V} {A : Around} {E : Value → Shared → Prop}
theorem Inv.big (I : Inv X pins σ H s) : sysModules < s.heap.objs.size := by
  have h : mainGlobals < s.heap.objs.size := (I.mod.glob.keeps I.bk).lt
  exact Nat.lt_trans (by decide) h
theorem d_write {h' : Heap} {t' : Nat} {ob : HO} (I : Inv X pins σ H s) (mu : Mut (H a)) (hs : Heap.SameBut a s.heap h') (he : ∃ q, h'.get? a = some q) (new : ObjOk X.prog X.w (upd H a ob) h' a ob) :
    Inv X pins σ (upd H a ob) { s with heap := h', toks := t' } :=
  I.write (x := a) (e := a) mu (.inl rfl) (fun b q hb z => (hs.2 b hb).trans z) he new
theorem dk_new {P : Program} {w : World} {H' : Hp} {h' : Heap} {kvs : List (Key × V)} {vs : List (Key × Value)} (z : kvs.length ≤ sizeLine) (hd : (a == sysModules) = false) (rel : KV kvs vs) (dd : h'.DictOf (mixKind P w) a vs) :
    ObjOk P w H' h' a (.dK kvs) := ⟨z, hd, vs, rel, dd⟩
theorem d_setItem {H' : Hp} {Q : Unit → Shared → Prop} (hu : A.units + 1 < cLine) (I : Inv X pins σ H s) (g : DPut H a y v H') (ry : RelV y u) (rv : RelV v r) (h : ∀ s', Inv X pins σ H' s' → Q () s') :
    wpAny (model X.prog X.w) A (setItem (.ref a) u r) Q E s := by
  rcases g with ⟨kvs, k, e, ey, l, eH⟩ | ⟨kvs, k, b, e, ey, eb, l, eH⟩
  · subst ey eH
    obtain ⟨z, hd, vs, rel, dd⟩ := dk_of I.hok e
    have hz : vs.length ≤ sizeLine := by rw [← rel.length]; exact z
    have hl : (putK kvs k v).length ≤ sizeLine := by have := length_putK kvs k v; omega
    refine wpAny_setItem_pairs (hsz := hz) (kV_is ry) dd fun h' dd' hs => h _ ?_
    have he : ∃ q, h'.get? a = some q := let ⟨q, _, _, hq, _⟩ := dd'; ⟨q, hq⟩
    exact d_write I (by rw [e]; exact True.intro) hs he (dk_new hl hd (rel.put k rv) dd')
  · subst ey eH
    cases (show u = Value.ref b from ry)
    obtain ⟨z, hd, xs, rel, dd⟩ := dt_of I.hok e
    have hz : xs.length ≤ sizeLine := by rw [← Paired.length rel]; exact z
    have hl : (putK kvs k v).length ≤ sizeLine := by have := length_putK kvs k v; omega
    refine wpAny_setItem_heap (hsz := hz) (tupleKind_room_in1 hu) (key_of I.hok eb) dd fun h' dd' hs => h _ ?_
    obtain ⟨q, es, ep, hq, h2, h3, h4, _, h5⟩ := dd'
    refine d_write I (by rw [e]; exact True.intro) hs ⟨q, hq⟩ ⟨hl, hd, _, (rel.put k eb rv).keeps fun c ys ec => ?_, q, es, ep, hq, h2, h3, h4, h5⟩
    rw [upd_ne (ne_of ec e (fun z => nomatch z))]
    exact ec
end
section
variable {X : Cx} {pins : List (Addr × Obj)} {σ : St} {H : Hp} {s : Shared} {a : Addr} {kvs : List (Key × V)} {k : Key} {u : Value} {A : Around} {E : Value → Shared → Prop}
end
def NoSl (i : Expr) : Prop := ∀ ov iv, subscripted i false ov iv = operate [ov, iv] (getItem ov iv)
theorem subD_of {prog : Program} {w : World} {A : Around} {E : Value → Shared → Prop} {s : Shared} {env : Env} {value slice : Expr} {pos : Pos} {T id : String} {Q : Value → Shared → Prop}
    (hl : typeLookup (.type T) "__getitem__" = pure (some (.builtin id))) (hs : NoSl slice)
    (h : wpAny (model prog w) A (eval value env) (fun o s₁ => wpAny (model prog w) A (eval slice env) (fun i s₂ => s₂.TypeIs o T ∧ wpAny (model prog w) A (getItem o i) Q E s₂) E s₁) E s) :
    wpAny (model prog w) A (eval (.Subscript value slice pos) env) Q E s := by
  refine Subscript_ (wpAny_mono h (fun o s₁ h₁ => wpAny_mono h₁ (fun i s₂ h₂ => ?_) fun _ _ x => x) fun _ _ x => x)
  obtain ⟨hT, h₂⟩ := h₂
  unfold subscriptTail
  refine wpAny_bind ?_
  rw [getitemInPython_of_ne hT.not_modules]
  refine wpAny_bind (wpAny_specialOf hT hl ?_)
  have fin : wpAny (model prog w) A (subscripted slice false o i) (fun r s₃ => wpAny (model prog w) A (letTemporaryGo value o r >>= fun _ => pure r) Q E s₃) E s₂ := by
    rw [hs o i]
    exact wpAny_operating (wpAny_mono h₂ (fun r s₃ h₃ => wpAny_bind (wpAny_letTemporaryGo (wpAny_pure h₃))) fun _ _ x => x)
  first
    | exact wpAny_pure (wpAny_bind fin)
    | exact wpAny_bind (wpAny_pure (wpAny_bind fin))
    | exact wpAny_bind fin
def sDPut (td ty tv : TE) : TS := fun D σ H => tv σ H fun v H1 => td σ H1 fun x H2 => ty σ H2 fun y H3 => ∃ a H4, x = .ref a ∧ DPut H3 a y v H4 ∧ D.nx σ H4
section
variable {X : Cx} {o i e value : Expr} {pos pos' tpos : Pos} {td ty tv : TE}
theorem ps_dput (hu : X.A.units + 1 < cLine) (ho : PE X o td) (hi : PE X i ty) (hv : PE X value tv) (hs : swapsWith value (some (.Subscript o i pos')) pos.line X.env = pure false) :
    PS X (.Assign [.Subscript o i pos'] value pos) (sDPut td ty tv) := by
  intro pins s σ H D I h
  refine wpAny_Assign_Subscript (thn (hv pins s σ H _ I h) fun r s1 ⟨v, H1, I1, rv, q1⟩ => thn (ho pins s1 σ H1 _ I1 q1) fun u s2 ⟨x, H2, I2, rx, q2⟩ => thn (hi pins s2 σ H2 _ I2 q2) fun iv s3 ⟨y, H3, I3, ry, a, H4, ex, g, q3⟩ => ?_) hs
  subst ex
  obtain rfl : u = Value.ref a := rx
  exact d_setItem hu I3 g ry rv fun s4 I4 => ⟨σ, H4, I4, q3⟩
end
theorem dk_empty {P : Program} {w : World} {H : Hp} (h : Heap) (hb : sysModules < h.objs.size) : ObjOk P w H (h.push { cls := .type "dict", data := .dict #[] }) h.objs.size (.dK []) :=
  ⟨Nat.zero_le _, beq_eq_false_iff_ne.mpr (Ne.symm (Nat.ne_of_lt hb)), [], .nil, Heap.DictOf.new h⟩
theorem dt_empty {P : Program} {w : World} {H : Hp} (h : Heap) (hb : sysModules < h.objs.size) : ObjOk P w H (h.push { cls := .type "dict", data := .dict #[] }) h.objs.size (.dT []) :=
  ⟨Nat.zero_le _, beq_eq_false_iff_ne.mpr (Ne.symm (Nat.ne_of_lt hb)), [], .nil, _, #[], 0, Heap.get?_push_size _ rfl, ⟨rfl, rfl, rfl⟩, rfl, rfl, List.nodup_nil⟩
def tDNewK : TE := fun _ H Q => ∀ p, H p = none → Q (.ref p) (upd H p (.dK []))
def tDNewT : TE := fun _ H Q => ∀ p, H p = none → Q (.ref p) (upd H p (.dT []))
section
variable {X : Cx} {pos : Pos}
theorem pe_dnewK : PE X (.Dict [] [] pos) tDNewK := fun pins s σ H Q I h =>
  wpAny_Dict_empty ⟨.ref s.heap.objs.size, _, I.laid (a := s.heap.objs.size) (o := .dK []) (t' := s.toks) (fun _ _ q => Heap.get?_push_of_some _ q) (Nat.le_refl _) (dk_empty s.heap I.big), rfl, h _ (I.hok.fresh (Nat.le_refl _))⟩
theorem pe_dnewT : PE X (.Dict [] [] pos) tDNewT := fun pins s σ H Q I h =>
  wpAny_Dict_empty ⟨.ref s.heap.objs.size, _, I.laid (a := s.heap.objs.size) (o := .dT []) (t' := s.toks) (fun _ _ q => Heap.get?_push_of_some _ q) (Nat.le_refl _) (dt_empty s.heap I.big), rfl, h _ (I.hok.fresh (Nat.le_refl _))⟩
end
def tPairs : List (TE × TE) → St → Hp → (List (V × V) → Hp → Prop) → Prop
  | [], _, H, Q => Q [] H
  | (tk, tv) :: r, σ, H, Q => tk σ H fun x H1 => tv σ H1 fun y H2 => tPairs r σ H2 fun ps H3 => Q ((x, y) :: ps) H3
abbrev VV : List (V × V) → List (Value × Value) → Prop := Paired fun p q => RelV p.1 q.1 ∧ RelV p.2 q.2
def PPs (X : Cx) (pos : Pos) (keys : List (Option Expr)) (values : List Expr) (trs : List (TE × TE)) : Prop :=
  ∀ (pins : List (Addr × Obj)) (s : Shared) (σ : St) (H : Hp) (Q : List (V × V) → Hp → Prop), Inv X pins σ H s → tPairs trs σ H Q →
    wpAny (model X.prog X.w) X.A (evalPairs (pairTrees keys values X.env pos)) (fun vs s' => ∃ ps H', Inv X pins σ H' s' ∧ VV ps vs ∧ Q ps H') X.xe s
theorem pps_nil {X : Cx} {pos : Pos} : PPs X pos [] [] [] := fun pins s σ H Q I h => pairTrees_nil_walk ⟨[], H, I, .nil, h⟩
theorem pps_cons {X : Cx} {pos : Pos} {k v : Expr} {ks : List (Option Expr)} {vs : List Expr} {tk tv : TE} {trs : List (TE × TE)} (hk : PE X k tk) (hv : PE X v tv) (hr : PPs X pos ks vs trs) :
    PPs X pos (some k :: ks) (v :: vs) ((tk, tv) :: trs) := fun pins s σ H Q I h =>
  pairTrees_cons_walk (thn (hk pins s σ H _ I h) fun u s1 ⟨x, H1, I1, rx, q1⟩ => thn (hv pins s1 σ H1 _ I1 q1) fun w2 s2 ⟨y, H2, I2, ry, q2⟩ =>
    thn (hr pins s2 σ H2 _ I2 q2) fun ws s3 ⟨ps, H3, I3, rel, q3⟩ => ⟨(x, y) :: ps, H3, I3, .cons ⟨rx, ry⟩ rel, q3⟩)
def mergeK (kvs more : List (Key × V)) : List (Key × V) := more.foldl (fun acc kv => putK acc kv.1 kv.2) kvs
structure M1 (X : Cx) (o : Expr) (m : Str) (apos : Pos) (e : Expr) (cpos : Pos) : Prop where
  base : attributeBase o m X.env (eval o X.env) = eval o X.env
  few : ((backTo cpos (starEach [e] X.env)).all (fun x => !x.1) && (backToKw cpos (keywordEach [] X.env)).all (fun x => x.1.isSome)
    && decide (([e] : List Expr).length + ([] : List Keyword).length + (if ([] : List Keyword).isEmpty then 0 else 1) < 30)) = true
  line : (apos.endLine == cpos.line) = true
  trees : backTo cpos (starEach [e] X.env) = [(false, eval e X.env)]
structure M2 (X : Cx) (o : Expr) (m : Str) (apos : Pos) (e f : Expr) (cpos : Pos) : Prop where
  base : attributeBase o m X.env (eval o X.env) = eval o X.env
  few : ((backTo cpos (starEach [e, f] X.env)).all (fun x => !x.1) && (backToKw cpos (keywordEach [] X.env)).all (fun x => x.1.isSome)
    && decide (([e, f] : List Expr).length + ([] : List Keyword).length + (if ([] : List Keyword).isEmpty then 0 else 1) < 30)) = true
  line : (apos.endLine == cpos.line) = true
  trees : backTo cpos (starEach [e, f] X.env) = [(false, eval e X.env), (false, eval f X.env)]
def IsD (H : Hp) (a : Addr) : Prop := (∃ kvs, Rd H a (.dK kvs)) ∨ ∃ kvs, Rd H a (.dT kvs)
theorem isD_at {X : Cx} {pins : List (Addr × Obj)} {σ : St} {H : Hp} {s : Shared} {a : Addr} (I : Inv X pins σ H s) (d : IsD H a) :
    s.TypeIs (.ref a) "dict" ∧ (∀ b, Value.ref a = .ref b → ∃ ob, s.heap.get? b = some ob ∧ ob.dict = none) ∧ (a == sysModules) = false := by
  rcases d with ⟨kvs, e⟩ | ⟨kvs, e⟩
  · obtain ⟨_, hd, vs, _, dd⟩ := dk_rd I.hok e
    refine ⟨dd.typeIs, fun b q => ?_, hd⟩
    cases q
    obtain ⟨ob, _, _, h1, h2, _⟩ := dd
    exact ⟨ob, h1, h2.2.1⟩
  · obtain ⟨_, hd, xs, _, dd⟩ := dt_rd I.hok e
    refine ⟨dd.typeIs, fun b q => ?_, hd⟩
    cases q
    obtain ⟨ob, _, _, h1, h2, _⟩ := dd
    exact ⟨ob, h1, h2.2.1⟩
section
variable {X : Cx} {pins : List (Addr × Obj)} {σ : St} {H : Hp} {s : Shared} {a : Addr} {y d : V} {u r : Value} {o : Option V} {A : Around} {E : Value → Shared → Prop}
end
section
variable {X : Cx} {o e f : Expr} {apos cpos : Pos} {td ty tx : TE}
end
section
variable {X : Cx} {pins : List (Addr × Obj)} {σ : St} {H : Hp} {s : Shared} {a : Addr} {kvs : List (Key × V)} {A : Around} {E : Value → Shared → Prop}
end
section
variable {X : Cx} {pins : List (Addr × Obj)} {σ : St} {H : Hp} {s : Shared} {a : Addr} {y : V} {u : Value} {A : Around} {E : Value → Shared → Prop}
end
end L2
namespace Att
open PySem PySem.W PySem.Calls PyProof.Rows
end Att
namespace L2
open PySem PySem.Spec PyProof.Rows
section
variable {X : Cx}
end
section
variable {κ : Type} [DecidableEq κ]
theorem dropK_pos {p : κ × V} {r : List (κ × V)} {k : κ} (e : p.1 = k) : dropK (p :: r) k = dropK r k := by
  unfold dropK
  rw [List.filter_cons, if_neg (by simp [e])]
theorem dropK_neg {p : κ × V} {r : List (κ × V)} {k : κ} (e : ¬ p.1 = k) : dropK (p :: r) k = p :: dropK r k := by
  unfold dropK
  rw [List.filter_cons, if_pos (by simp [e])]
end
end L2
set_option maxHeartbeats 4000000
namespace J
open PySem PySem.Spec PyProof.Rows L2
def TrX (h base:Heap) (e:Addr) (cls a0 fl:Value):Prop :=
 ∃ ox us T ot ws,h.get? e = some ox ∧ (ox.cls = cls ∧ us[2]? = some Value.none) ∧ ox.data = .fields us ∧ us[1]? = some (.ref T) ∧ base.get? T = none ∧ T ≠ e ∧ h.get? T = some ot ∧ ot.data = .fields ws ∧ ws[3]? = some fl
abbrev MetX (base:Heap) (l:List Env) (e:Addr) (cls a0 fl:Value) (h:Heap):Prop:=base.StaysIn h ∧ base.get? e = none ∧ h.FunFrames base l ∧ TrX h base e cls a0 fl
def HeldX (base:Heap) (l:List Env) (e:Addr) (cls a0:Value) (L:Addr) (h:Heap):Prop:=MetX base l e cls a0 (rawInt L) h
def FlyX (base:Heap) (l:List Env) (e:Addr) (cls a0:Value) (h:Heap):Prop:=MetX base l e cls a0 .none h
theorem FlyX.first {base h:Heap} {l:List Env} {e:Addr} {cls a0:Value} (x:FlyX base l e cls a0 h):∃ ox us,h.get? e = some ox ∧ ox.cls = cls ∧ ox.data = .fields us ∧ us[2]? = some Value.none :=
 let ⟨_,_,_,ox,us,_,_,_,g1,g2,g3,_⟩:=x; ⟨ox,us,g1,g2.1,g3,g2.2⟩
section
variable {M:Model} {A:Around} {E:Value → Shared → Prop} {s:Shared} {base:Heap} {env:Env} {outer l:List Env} {L e:Addr} {cls a0 nt:Value} {Q:Unit → Shared → Prop}
theorem entry_heap {h h1:Heap} {S:List Addr} {ox ob:Obj} {us ws:Array Value} (so:Heap.SlotsOnly S h h1) (hS:S = l.filterMap (·.frame)) (fs:h.FunFrames base l) (g1:h.get? e = some ox) (g3:ox.data = .fields us) (st:base.StaysIn h) (ne:base.get? e = none) (sz:1 < us.size) (g2:us[2]? = some Value.none)
  (d:ob.data = .fields ws) (w3:ws[3]? = some nt) (nf:ob.isFreed = false) :
  MetX base l e ox.cls a0 nt ((h1.push ob).update e (Obj.mapFields (·.setIfInBounds 1 (.ref h1.objs.size)))) ∧ h.UpToSlots ((h1.push ob).update e (Obj.mapFields (·.setIfInBounds 1 (.ref h1.objs.size)))):=by
 have nS:e ∉ S:=fun z => by
  rw [hS] at z
  obtain ⟨_,o2,q2,d2⟩:=fs.mem z
  rw [g1] at q2
  cases q2
  exact d2 us g3
 have q1:h1.get? e = some ox:=(so.2.1 e nS).trans g1
 have lt:e ≠ h1.objs.size:=Nat.ne_of_lt (Heap.lt_size q1)
 have oth:∀ b o,b ≠ e → h1.get? b = some o → ((h1.push ob).update e (Obj.mapFields (·.setIfInBounds 1 (.ref h1.objs.size)))).get? b = some o:=fun b o n q => (Heap.get?_update_other _ _ (Ne.symm n)).trans (Heap.get?_push_of_some _ q)
 have up:h.UpToSlots ((h1.push ob).update e (Obj.mapFields (·.setIfInBounds 1 (.ref h1.objs.size)))):=fun b o q n => by
  obtain ⟨sl,q2⟩:=so.2.2 b o q
  exact ⟨sl,oth b _ (fun z => by rw [z,g1] at q; cases q; exact n us g3) q2⟩
 have stay:base.StaysIn h1:=fun b o q => (so.2.1 b fun z => by
  rw [hS] at z
  rw [(fs.mem z).1] at q
  cases q).trans (st b o q)
 have fresh:base.get? h1.objs.size = none:=by
  cases z:base.get? h1.objs.size with
  | none => rfl
  | some o => exact absurd (Heap.lt_size (stay _ _ z)) (Nat.lt_irrefl _)
 have d1:=Obj.data_mapFields g3 (·.setIfInBounds 1 (Value.ref h1.objs.size))
 refine ⟨⟨fun b o q => oth b o (fun z => by rw [z,ne] at q; cases q) (stay b o q),ne,fs.of_keeps fun b o q n => ?_,_,_,h1.objs.size,ob,ws,Heap.get?_update_self _ (Heap.get?_push_of_some _ q1) (Obj.isFreed_of_fields d1),⟨Obj.cls_mapFields _ _,?_⟩,d1,by simp [sz],fresh,Ne.symm lt,?_,d,w3⟩,up⟩
 ·obtain ⟨sl,q2⟩:=up b o q n
  exact ⟨_,q2,rfl⟩
 ·rw [Array.getElem?_setIfInBounds_ne (by decide)]; exact g2
 ·exact (Heap.get?_update_other _ _ lt).trans (Heap.get?_push_size _ nf)
theorem entryX {ox:Obj} {us:Array Value} {head:Value} {had:Bool} (hfr:A.frames = some (env :: outer)) (fs:s.heap.FunFrames base (env :: outer)) (hf:env.frame = some L) (g1:s.heap.get? e = some ox) (st:base.StaysIn s.heap) (ne:base.get? e = none) (g3:ox.data = .fields us) (sz:1 < us.size) (g2:us[2]? = some Value.none)
  (k:∀ h',HeldX base (env :: outer) e ox.cls a0 L h' → s.heap.UpToSlots h' → Q () { s with heap:=h' }) :
  wpAny M A (do let a ← frameOf env; let pl ← entryPlaceOf L had; let b ← EntryCells.newEntry head a .none (rawInt L) .none pl; setField (.ref e) 1 b) Q E s:=by
 refine wpAny_bind (wpAny_frameOf_fun hfr fs hf fun h1 so => wpAny_bind (wpAny_entryPlaceOf fun pl pp => ?_))
 have nS:e ∉ (env :: outer).filterMap (·.frame):=fun z => by
  obtain ⟨_,o2,q2,d2⟩:=fs.mem z
  rw [g1] at q2
  cases q2
  exact d2 us g3
 have q1:h1.get? e = some ox:=(so.2.1 e nS).trans g1
 simp only [EntryCells.newEntry,newFields]
 refine wpAny_bind (wpAny_newObj_type (wpAny_setField (Heap.get?_push_of_some _ q1) g3 sz ?_) (pp.sizeOk5 _ _ _ _ _))
 obtain ⟨m,up⟩:=entry_heap (a0:=a0) (nt:=rawInt L) so rfl fs g1 g3 st ne sz g2 (ob:={ cls:=.type "traceback",dict:=none,data:=.fields ([head,.ref L,.none,rawInt L,.none] ++ (if pl.isEmpty then List.replicate 6 Value.none else pl)).toArray }) rfl (by first | (simp; done) | (rcases pp with rfl | ⟨_,_,_,_,_,_,_,rfl⟩ <;> simp)) rfl
 exact k _ m up
theorem againX (hf:env.frame = some L) (x:TrX s.heap base e cls a0 (rawInt L)) (k:Q () s):wpAny M A (noteFrame (.ref e) env) Q E s:=by
 obtain ⟨ox,us,T,ot,ws,g1,g2,g3,g4,g5,g6,g7,g8,g9⟩:=x
 unfold noteFrame
 simp only [hf]
 refine wpAny_bind (wpAny_field g1 g3 g4 ?_)
 rw [if_pos (by simp)]
 refine wpAny_bind (wpAny_field g7 g8 g9 ?_)
 rw [if_pos (by simp)]
 exact wpAny_pure k
theorem landX (x:MetX base l e cls a0 nt s.heap) (k:∀ h',FlyX base l e cls a0 h' → s.heap.UpToSlots h' → Q () { s with heap:=h' }):wpAny M A (setFlight (.ref e) none) Q E s:=by
 obtain ⟨x1,x2,x3,ox,us,T,ot,ws,g1,g2,g3,g4,g5,g6,g7,g8,g9⟩:=x
 have sz:3 < ws.size:=(Array.getElem?_eq_some_iff.mp g9).1
 unfold setFlight
 refine wpAny_bind (wpAny_field g1 g3 g4 ?_)
 rw [if_pos (by simp)]
 refine wpAny_setField g7 g8 sz ?_
 generalize hu:s.heap.update T _ = h'
 have ap:∀ b,b ≠ T → h'.get? b = s.heap.get? b:=fun b n => by rw [← hu]; exact Heap.get?_update_other _ _ (Ne.symm n)
 have pl:∀ b o,s.heap.get? b = some o → (∀ vs,o.data ≠ .fields vs) → h'.get? b = some o:=fun b o q n => (ap b fun z => by rw [z,g7] at q; cases q; exact n ws g8).trans q
 refine k h' ⟨fun b o q => (ap b fun z => by rw [z,g5] at q; cases q).trans (x1 b o q),x2,x3.of_keeps fun b o q n => ⟨o,pl b o q n,rfl⟩,ox,us,T,Obj.mapFields (·.setIfInBounds 3 .none) ot,ws.setIfInBounds 3 .none,(ap e (Ne.symm g6)).trans g1,g2,g3,g4,g5,g6,?_,Obj.data_mapFields g8 _,?_⟩ fun b o q n => ⟨o.slots,pl b o q n⟩
 ·rw [← hu]; exact Heap.get?_update_self _ g7 (Obj.isFreed_of_fields (Obj.data_mapFields g8 _))
 ·simp [sz]
end
end J
namespace J
open PySem PySem.Spec PyProof.Rows L2
structure Lm where
 a:Addr
 c:Addr
 q:PySem.Str
 xs:List V
inductive Wv where
 | non
 | bl (b:Bool)
 | int (i:Int)
 | str (x:PySem.Str)
 | tup (ws:List Wv)
 | ktp (ws:List Wv)
 | ref (l:Nat)
 | ty (n:String)
 | cls (c:PySem.Str)
 | exn (c:PySem.Str)
 | fn (p:Lm) (ws:List Wv)
inductive Ob where
 | lst (ws:List Wv)
 | scr (ns:List Int)
 | dct (kvs:List (L2.Key × Wv))
 | dcT (kvs:List (List L2.Key × Wv))
 | dcF (kvs:List (List L2.Key × Wv))
abbrev Hs:=List Ob
abbrev St:=L2.St
abbrev Rho:=List (Option Wv)
abbrev Mp:=List Addr
def ExnAt (a C:Addr):Heap → Prop:=fun h => ∃ o,h.get? a = some o ∧ o.cls = .ref C ∧ ∃ vs,o.data = .fields vs
def ExH (a C:Addr) (u:Option HO):Prop:=∃ o vs,u = some (.frz o (.ext (ExnAt a C))) ∧ o.data = .fields vs ∧ vs[2]? = some Value.none
theorem ex_at {P:Program} {w:World} {H:Hp} {h:Heap} {a C:Addr} (ok:HOk P w H h) (x:ExH a C (H a)):ExnAt a C h:=let ⟨_,_,e,_⟩:=x; (ok a _ e).2.1
def ClsAt (K:PySem.W.Frag) (c:PySem.Str) (C:Addr):Prop:=PySem.W.nsIn K mainGlobals c = some (some (.ref C))
def CodeX (c:Addr) (q:PySem.Str):Heap → Prop:=fun h => h.CodeRec (.ref c) q
def lamDefs:List PySem.Str:=["form_of","formula_by","turned"]
def tabFree (K:PySem.W.Frag) (q:PySem.Str):Option Addr:=match PySem.W.tabIn K q with
 | some (_,P) => if (K.lookup P).isNone = true then some P else none
 | none => none
def lamQ (q:PySem.Str):PySem.Str:=(q ++ ".<locals>.") ++ "<lambda>"
def TbOk (K:PySem.W.Frag) (H:Hp):Prop:=∀ q P,q ∈ lamDefs → tabFree K q = some P → ∃ ps,H P = some (.tbl ps) ∧ TriplesOk ps.toList ∧ ∀ pos cv,codeAmong pos ps.toList = some cv → ∃ c,cv = .ref c ∧ H c = some (.ext (CodeX c (lamQ q)))
theorem TbOk.keep {K:PySem.W.Frag} {H H':Hp} (t:TbOk K H) (h1:∀ a ps,H a = some (.tbl ps) → H' a = some (.tbl ps)) (h2:∀ a φ,H a = some (.ext φ) → H' a = some (.ext φ)):TbOk K H':=fun q P hq hP => by
 obtain ⟨ps,e1,e2,e3⟩:=t q P hq hP
 refine ⟨ps,h1 _ _ e1,e2,fun pos cv e => ?_⟩
 obtain ⟨c,f1,f2⟩:=e3 pos cv e
 exact ⟨c,f1,h2 _ _ f2⟩
def KTup (K:PySem.W.Frag) (a:Addr) (xs:List V):Prop:=∃ (o:Obj) (its:Array Value) (n:Nat),K.lookup a = some o ∧ o.cls = .type "tuple" ∧ o.data = .seq its n ∧ its.size ≤ sizeLine ∧ Vals xs its.toList
mutual
def RelW (K:PySem.W.Frag) (m:Mp) (H:Hp):Wv → V → Prop
 | .non,v => v = .non
 | .bl b,v => v = .bl b
 | .int i,v => v = .int i
 | .str x,v => v = .str x ∧ PyData.strOk x = true
 | .tup ws,v => ∃ a xs,v = .ref a ∧ H a = some (.tup xs) ∧ RelWs K m H ws xs
 | .ktp ws,v => ∃ a xs,v = .ref a ∧ KTup K a xs ∧ RelWs K m H ws xs
 | .ref l,v => ∃ a,v = .ref a ∧ m[l]? = some a
 | .ty n,v => v = .ty n
 | .cls c,v => ∃ C,v = .ref C ∧ ClsAt K c C
 | .exn c,v => ∃ a C,v = .ref a ∧ ClsAt K c C ∧ ExH a C (H a)
 | .fn p ws,v => v = .ref p.a ∧ H p.c = some (.ext (CodeX p.c p.q)) ∧ RelWs K m H ws p.xs
def RelWs (K:PySem.W.Frag) (m:Mp) (H:Hp):List Wv → List V → Prop
 | [],xs => xs = []
 | w :: ws,xs => ∃ x r,xs = x :: r ∧ RelW K m H w x ∧ RelWs K m H ws r
end
structure Ext (K:PySem.W.Frag) (m:Mp) (H:Hp) (m':Mp) (H':Hp):Prop where
 pre:∀ (l:Nat) (a:Addr),m[l]? = some a → m'[l]? = some a
 tup:∀ (a:Addr) (xs:List V),H a = some (.tup xs) → H' a = some (.tup xs)
 ext:∀ (a:Addr) (φ:Heap → Prop),H a = some (.ext φ) → H' a = some (.ext φ)
 frz:∀ (a:Addr) (o:Obj) (u:HO),H a = some (.frz o u) → H' a = some (.frz o u)
section
variable {K:PySem.W.Frag} {m m1 m2:Mp} {H H1 H2:Hp}
theorem Ext.refl:Ext K m H m H:=⟨fun _ _ h => h,fun _ _ h => h,fun _ _ h => h,fun _ _ _ h => h⟩
theorem Ext.trans (a:Ext K m H m1 H1) (b:Ext K m1 H1 m2 H2):Ext K m H m2 H2 :=
 ⟨fun l x h => b.pre l x (a.pre l x h),fun x xs h => b.tup x xs (a.tup x xs h),fun x φ h => b.ext x φ (a.ext x φ h),fun x o u h => b.frz x o u (a.frz x o u h)⟩
structure Ext0 (K:PySem.W.Frag) (m:Mp) (H:Hp) (m':Mp) (H':Hp):Prop where
 pre:∀ (l:Nat) (a:Addr),m[l]? = some a → m'[l]? = some a
 tup:∀ (a:Addr) (xs:List V),H a = some (.tup xs) → H' a = some (.tup xs)
 ext:∀ (a:Addr) (φ:Heap → Prop),H a = some (.ext φ) → H' a = some (.ext φ)
 fx:∀ (a:Addr) (o:Obj) (φ:Heap → Prop),H a = some (.frz o (.ext φ)) → H' a = some (.frz o (.ext φ))
theorem Ext.z (e:Ext K m H m1 H1):Ext0 K m H m1 H1:=⟨e.pre,e.tup,e.ext,fun a o φ h => e.frz a o _ h⟩
mutual
theorem RelW.mono0 (e:Ext0 K m H m1 H1):∀ (w:Wv) (v:V),RelW K m H w v → RelW K m1 H1 w v
 | .non,v,h => by unfold RelW at h ⊢; exact h
 | .bl b,v,h => by unfold RelW at h ⊢; exact h
 | .int i,v,h => by unfold RelW at h ⊢; exact h
 | .str x,v,h => by unfold RelW at h ⊢; exact h
 | .ty n,v,h => by unfold RelW at h ⊢; exact h
 | .cls c,v,h => by unfold RelW at h ⊢; exact h
 | .exn c,v,h => by
  unfold RelW at h ⊢
  obtain ⟨a,C,e1,e2,o,vs,e3,e4⟩:=h
  exact ⟨a,C,e1,e2,o,vs,e.fx _ _ _ e3,e4⟩
 | .ref l,v,h => by
  unfold RelW at h ⊢
  obtain ⟨a,e1,e2⟩:=h
  exact ⟨a,e1,e.pre _ _ e2⟩
 | .tup ws,v,h => by
  unfold RelW at h ⊢
  obtain ⟨a,xs,e1,e2,e3⟩:=h
  exact ⟨a,xs,e1,e.tup _ _ e2,RelWs.mono0 e ws xs e3⟩
 | .ktp ws,v,h => by
  unfold RelW at h ⊢
  obtain ⟨a,xs,e1,e2,e3⟩:=h
  exact ⟨a,xs,e1,e2,RelWs.mono0 e ws xs e3⟩
 | .fn p ws,v,h => by
  unfold RelW at h ⊢
  obtain ⟨e1,e2,e3⟩:=h
  exact ⟨e1,e.ext _ _ e2,RelWs.mono0 e ws p.xs e3⟩
theorem RelWs.mono0 (e:Ext0 K m H m1 H1):∀ (ws:List Wv) (xs:List V),RelWs K m H ws xs → RelWs K m1 H1 ws xs
 | [],xs,h => by unfold RelWs at h ⊢; exact h
 | w :: ws,xs,h => by
  unfold RelWs at h ⊢
  obtain ⟨x,r,e1,e2,e3⟩:=h
  exact ⟨x,r,e1,RelW.mono0 e w x e2,RelWs.mono0 e ws r e3⟩
end
theorem RelW.mono (e:Ext K m H m1 H1) (w:Wv) (v:V) (h:RelW K m H w v):RelW K m1 H1 w v:=RelW.mono0 e.z w v h
theorem RelWs.mono (e:Ext K m H m1 H1) (ws:List Wv) (xs:List V) (h:RelWs K m H ws xs):RelWs K m1 H1 ws xs:=RelWs.mono0 e.z ws xs h
theorem RelWs.nil:RelWs K m H [] []:=by unfold RelWs; rfl
theorem RelWs.cons {w:Wv} {x:V} {ws:List Wv} {xs:List V} (h:RelW K m H w x) (t:RelWs K m H ws xs):RelWs K m H (w :: ws) (x :: xs):=by unfold RelWs; exact ⟨x,xs,rfl,h,t⟩
theorem RelWs.length:∀ {ws:List Wv} {xs:List V},RelWs K m H ws xs → ws.length = xs.length
 | [],xs,h => by unfold RelWs at h; subst h; rfl
 | w :: ws,xs,h => by
  unfold RelWs at h
  obtain ⟨x,r,e1,_,e3⟩:=h
  subst e1
  simp [RelWs.length e3]
theorem RelWs.get:∀ {ws:List Wv} {xs:List V} {i:Nat} {w:Wv},RelWs K m H ws xs → ws[i]? = some w → ∃ x,xs[i]? = some x ∧ RelW K m H w x
 | [],_,i,w,_,e => by simp at e
 | a :: ws,xs,0,w,h,e => by
  unfold RelWs at h
  obtain ⟨x,r,e1,e2,_⟩:=h
  subst e1
  simp at e
  subst e
  exact ⟨x,rfl,e2⟩
 | a :: ws,xs,i + 1,w,h,e => by
  unfold RelWs at h
  obtain ⟨x,r,e1,_,e3⟩:=h
  subst e1
  obtain ⟨y,f1,f2⟩:=RelWs.get (i:=i) (w:=w) e3 (by simpa using e)
  exact ⟨y,by simpa using f1,f2⟩
theorem RelWs.append:∀ {ws zs:List Wv} {xs ys:List V},RelWs K m H ws xs → RelWs K m H zs ys → RelWs K m H (ws ++ zs) (xs ++ ys)
 | [],_,xs,_,h,g => by unfold RelWs at h; subst h; exact g
 | w :: ws,zs,xs,ys,h,g => by
  unfold RelWs at h
  obtain ⟨x,r,e1,e2,e3⟩:=h
  subst e1
  exact RelWs.cons e2 (RelWs.append e3 g)
theorem RelWs.set:∀ {ws:List Wv} {xs:List V} (i:Nat) {w:Wv} {x:V},RelWs K m H ws xs → RelW K m H w x → RelWs K m H (ws.set i w) (xs.set i x)
 | [],xs,i,w,x,h,_ => by unfold RelWs at h; subst h; exact RelWs.nil
 | a :: ws,xs,0,w,x,h,g => by
  unfold RelWs at h
  obtain ⟨y,r,e1,e2,e3⟩:=h
  subst e1
  exact RelWs.cons g e3
 | a :: ws,xs,i + 1,w,x,h,g => by
  unfold RelWs at h
  obtain ⟨y,r,e1,e2,e3⟩:=h
  subst e1
  exact RelWs.cons e2 (RelWs.set i e3 g)
theorem RelWs.drop:∀ {ws:List Wv} {xs:List V} (i:Nat),RelWs K m H ws xs → RelWs K m H (ws.drop i) (xs.drop i)
 | ws,xs,0,h => by simpa using h
 | [],xs,i + 1,h => by unfold RelWs at h; subst h; simpa using RelWs.nil
 | a :: ws,xs,i + 1,h => by
  unfold RelWs at h
  obtain ⟨y,r,e1,e2,e3⟩:=h
  subst e1
  simpa using RelWs.drop i e3
theorem RelWs.take:∀ {ws:List Wv} {xs:List V} (i:Nat),RelWs K m H ws xs → RelWs K m H (ws.take i) (xs.take i)
 | ws,xs,0,h => by simpa using RelWs.nil
 | [],xs,i + 1,h => by unfold RelWs at h; subst h; simpa using RelWs.nil
 | a :: ws,xs,i + 1,h => by
  unfold RelWs at h
  obtain ⟨y,r,e1,e2,e3⟩:=h
  subst e1
  simpa using RelWs.cons e2 (RelWs.take i e3)
theorem RelWs.ints:∀ (ns:List Int),RelWs K m H (ns.map Wv.int) (ns.map V.int)
 | [] => RelWs.nil
 | n :: ns => RelWs.cons (by unfold RelW; rfl) (RelWs.ints ns)
end
def ScrOk (K:PySem.W.Frag) (H:Hp) (a:Addr) (ns:List Int):Prop :=
 (∃ o,H a = some (.frz o (.lst (ns.map V.int)))) ∨
  ∃ (o:Obj) (its:Array Value) (n:Nat),K.lookup a = some o ∧ o.cls = .type "list" ∧ o.dict = none ∧ o.data = .seq its n ∧ its.size ≤ sizeLine ∧ Vals (ns.map V.int) its.toList
def RelK {κ:Type} (K:PySem.W.Frag) (m:Mp) (H:Hp) (kvs:List (κ × Wv)) (xs:List (κ × V)):Prop:=kvs.map (·.1) = xs.map (·.1) ∧ RelWs K m H (kvs.map (·.2)) (xs.map (·.2))
def ORel (K:PySem.W.Frag) (m:Mp) (H:Hp) (a:Addr):Ob → Prop
 | .lst ws => ∃ xs,H a = some (.lst xs) ∧ RelWs K m H ws xs
 | .scr ns => ScrOk K H a ns
 | .dct kvs => ∃ xs,H a = some (.dK xs) ∧ RelK K m H kvs xs
 | .dcT kvs => ∃ xs,H a = some (.dT xs) ∧ RelK K m H kvs xs
 | .dcF kvs => ∃ o xs,H a = some (.frz o (.dT xs)) ∧ RelK K m H kvs xs
def Ob.mu:Ob → Bool
 | .scr _ => false
 | _ => true
def Ob.wm:Ob → Bool
 | .scr _ => false
 | .dcF _ => false
 | _ => true
theorem Ob.wm_mu {o:Ob} (h:o.wm = true):o.mu = true:=by cases o <;> first | rfl | cases h
structure Sim (K:PySem.W.Frag) (m:Mp) (st:Hs) (H:Hp):Prop where
 len:m.length = st.length
 obj:∀ (l:Nat) (a:Addr) (o:Ob),m[l]? = some a → st[l]? = some o → ORel K m H a o
 inj:∀ (l l':Nat) (a:Addr) (o o':Ob),m[l]? = some a → m[l']? = some a → st[l]? = some o → st[l']? = some o' → o.mu = true → o'.mu = true → l = l'
 tab:TbOk K H
def lstOf (st:Hs) (l:Nat):Option (List Wv):=match st[l]? with
 | some (.lst ws) => some ws
 | some (.scr ns) => some (ns.map Wv.int)
 | _ => none
section
variable {K:PySem.W.Frag} {m:Mp} {H:Hp} {st:Hs}
def Wr (u:Option HO):Prop:=u = none ∨ (∃ ys,u = some (.lst ys)) ∨ (∃ ys,u = some (.dK ys)) ∨ ∃ ys,u = some (.dT ys)
theorem Wr.ne {p a:Addr} {u:HO} (hp:Wr (H p)) (e:H a = some u) (n1:∀ ys,u ≠ .lst ys) (n2:∀ ys,u ≠ .dK ys) (n3:∀ ys,u ≠ .dT ys):a ≠ p:=fun z => by
 subst z
 rcases hp with q | ⟨ys,q⟩ | ⟨ys,q⟩ | ⟨ys,q⟩
 ·rw [q] at e; cases e
 ·rw [q] at e; cases e; exact n1 ys rfl
 ·rw [q] at e; cases e; exact n2 ys rfl
 ·rw [q] at e; cases e; exact n3 ys rfl
theorem tup_updW {p a:Addr} {o:HO} {xs:List V} (hp:Wr (H p)) (h:H a = some (.tup xs)):upd H p o a = some (.tup xs):=by
 rw [upd_ne (hp.ne h (by intro ys z; cases z) (by intro ys z; cases z) (by intro ys z; cases z))]; exact h
theorem scr_updW {p a:Addr} {o:HO} {ns:List Int} (hp:Wr (H p)) (h:ScrOk K H a ns):ScrOk K (upd H p o) a ns:=by
 rcases h with ⟨o',h⟩ | h
 ·exact .inl ⟨o',by rw [upd_ne (hp.ne h (by intro ys z; cases z) (by intro ys z; cases z) (by intro ys z; cases z))]; exact h⟩
 ·exact .inr h
theorem Wr.of {u:Option HO} (h:u = none ∨ ∃ ys,u = some (.lst ys)):Wr u:=by
 rcases h with q | q
 ·exact .inl q
 ·exact .inr (.inl q)
theorem Ext.updW {p:Addr} {o:HO} (hp:Wr (H p)):Ext K m H m (upd H p o):=⟨fun _ _ h => h,fun _ _ h => tup_updW hp h,fun a φ h => by
 rw [upd_ne (hp.ne h (by intro ys z; cases z) (by intro ys z; cases z) (by intro ys z; cases z))]
 exact h,fun a o u h => by
 rw [upd_ne (hp.ne h (by intro ys z; cases z) (by intro ys z; cases z) (by intro ys z; cases z))]
 exact h⟩
theorem Ext.upd {p:Addr} {o:HO} (hp:H p = none ∨ ∃ ys,H p = some (.lst ys)):Ext K m H m (upd H p o):=Ext.updW (Wr.of hp)
theorem RelK.mono {κ:Type} {m1:Mp} {H1:Hp} {kvs:List (κ × Wv)} {xs:List (κ × V)} (e:Ext K m H m1 H1) (h:RelK K m H kvs xs):RelK K m1 H1 kvs xs:=⟨h.1,RelWs.mono e _ _ h.2⟩
theorem ORel.keep {m1:Mp} {b p:Addr} {u:HO} {o:Ob} (ex:Ext K m H m1 (L2.upd H p u)) (hp:Wr (H p)) (hb:o.mu = true → b ≠ p) (h:ORel K m H b o):ORel K m1 (L2.upd H p u) b o:=by
 cases o with
 | lst ws =>
  obtain ⟨xs,e1,e2⟩:=h
  exact ⟨xs,by rw [upd_ne (hb rfl)]; exact e1,RelWs.mono ex _ _ e2⟩
 | dct kvs =>
  obtain ⟨xs,e1,e2⟩:=h
  exact ⟨xs,by rw [upd_ne (hb rfl)]; exact e1,e2.mono ex⟩
 | dcT kvs =>
  obtain ⟨xs,e1,e2⟩:=h
  exact ⟨xs,by rw [upd_ne (hb rfl)]; exact e1,e2.mono ex⟩
 | dcF kvs =>
  obtain ⟨o,xs,e1,e2⟩:=h
  exact ⟨o,xs,by rw [upd_ne (hb rfl)]; exact e1,e2.mono ex⟩
 | scr ns => exact scr_updW hp h
theorem ORel.at {b:Addr} {o:Ob} (h:ORel K m H b o) (hm:o.mu = true):∃ u,H b = some u:=by
 cases o with
 | lst ws => obtain ⟨xs,e1,e2⟩:=h; exact ⟨_,e1⟩
 | dct kvs => obtain ⟨xs,e1,e2⟩:=h; exact ⟨_,e1⟩
 | dcT kvs => obtain ⟨xs,e1,e2⟩:=h; exact ⟨_,e1⟩
 | dcF kvs => obtain ⟨o,xs,e1,e2⟩:=h; exact ⟨_,e1⟩
 | scr ns => simp [Ob.mu] at hm
theorem ORel.wr {b:Addr} {o:Ob} (h:ORel K m H b o) (hm:o.wm = true):Wr (H b):=by
 cases o with
 | lst ws => obtain ⟨xs,e1,e2⟩:=h; exact .inr (.inl ⟨_,e1⟩)
 | dct kvs => obtain ⟨xs,e1,e2⟩:=h; exact .inr (.inr (.inl ⟨_,e1⟩))
 | dcT kvs => obtain ⟨xs,e1,e2⟩:=h; exact .inr (.inr (.inr ⟨_,e1⟩))
 | dcF kvs => cases hm
 | scr ns => cases hm
theorem TbOk.updW {p:Addr} {o:HO} (t:TbOk K H) (hp:Wr (H p)):TbOk K (L2.upd H p o):=t.keep
 (fun a ps h => by rw [upd_ne (hp.ne h (by intro ys z; cases z) (by intro ys z; cases z) (by intro ys z; cases z))]; exact h)
 fun a φ h => by rw [upd_ne (hp.ne h (by intro ys z; cases z) (by intro ys z; cases z) (by intro ys z; cases z))]; exact h
theorem Ext.more {p:Addr}:Ext K m H (m ++ [p]) H:=⟨fun l a h => by
 rw [List.getElem?_append_left]
 ·exact h
 ·exact (List.getElem?_eq_some_iff.mp h).1,fun _ _ h => h,fun _ _ h => h,fun _ _ _ h => h⟩
theorem Sim.fresh {p:Addr} {o:HO} (S:Sim K m st H) (hp:H p = none):Sim K m st (upd H p o) :=
 ⟨S.len,fun l a ob h1 h2 => by
  have q:=S.obj l a ob h1 h2
  refine q.keep (Ext.updW (.inl hp)) (.inl hp) fun hm => ?_
  obtain ⟨u,e⟩:=q.at hm
  exact ne_of_none e hp,S.inj,S.tab.updW (.inl hp)⟩
theorem Sim.lstAt {l:Nat} {a:Addr} {ws:List Wv} (S:Sim K m st H) (h1:m[l]? = some a) (h2:st[l]? = some (.lst ws)):∃ xs,H a = some (.lst xs) ∧ RelWs K m H ws xs:=S.obj l a _ h1 h2
theorem Sim.has {l:Nat} {o:Ob} (S:Sim K m st H) (h:st[l]? = some o):∃ a,m[l]? = some a:=by
 have e:l < st.length:=(List.getElem?_eq_some_iff.mp h).1
 have e':l < m.length:=by rw [S.len]; exact e
 exact ⟨m[l],List.getElem?_eq_getElem e'⟩
theorem Sim.read {l:Nat} {a:Addr} {ws:List Wv} (S:Sim K m st H) (h1:m[l]? = some a) (h2:lstOf st l = some ws):∃ xs,SqL K H a xs ∧ RelWs K m H ws xs:=by
 unfold lstOf at h2
 cases e:st[l]? with
 | none => rw [e] at h2; cases h2
 | some o =>
  rw [e] at h2
  cases o with
  | lst zs =>
   cases h2
   obtain ⟨xs,e1,e2⟩:=S.lstAt h1 e
   exact ⟨xs,SqL.of e1,e2⟩
  | dct kvs => cases h2
  | dcT kvs => cases h2
  | dcF kvs => cases h2
  | scr ns =>
   cases h2
   have q:ScrOk K H a ns:=S.obj l a _ h1 e
   refine ⟨ns.map V.int,?_,RelWs.ints ns⟩
   rcases q with ⟨o,q⟩ | q
   ·exact .inl (.inr ⟨o,q⟩)
   ·exact .inr q
theorem Sim.allocO {p:Addr} {ob:Ob} {u:HO} (S:Sim K m st H) (hp:H p = none) (r:ORel K (m ++ [p]) (L2.upd H p u) p ob):Sim K (m ++ [p]) (st ++ [ob]) (L2.upd H p u):=by
 have ex:Ext K m H (m ++ [p]) (L2.upd H p u):=Ext.more.trans (Ext.updW (.inl hp))
 have notold:∀ (l:Nat) (o:Ob),m[l]? = some p → st[l]? = some o → o.mu = true → False:=fun l o h1 h2 hm => by
  obtain ⟨v,e⟩:=(S.obj l p o h1 h2).at hm
  rw [hp] at e; cases e
 have old:∀ (l:Nat) (a:Addr),(m ++ [p])[l]? = some a → (l < m.length ∧ m[l]? = some a) ∨ (l = m.length ∧ a = p):=fun l a h => by
  by_cases hl:l < m.length
  ·exact .inl ⟨hl,by rw [List.getElem?_append_left hl] at h; exact h⟩
  ·have h':=h
   rw [List.getElem?_append_right (by omega)] at h'
   have z:=List.getElem?_eq_some_iff.mp h'
   have z1:l - m.length < 1:=by simpa using z.1
   refine .inr ⟨by omega,?_⟩
   have e0:l - m.length = 0:=by omega
   rw [e0] at h'
   simpa using h'.symm
 have olds:∀ (l:Nat) (o:Ob),l < m.length → (st ++ [ob])[l]? = some o → st[l]? = some o:=fun l o hl h => by
  rw [List.getElem?_append_left (by rw [← S.len]; exact hl)] at h
  exact h
 refine ⟨by simp [S.len],fun l a o h1 h2 => ?_,fun l l' a zs zs' h1 h1' h2 h2' k k' => ?_,S.tab.updW (.inl hp)⟩
 ·rcases old l a h1 with ⟨hl,h1⟩ | ⟨hl,rfl⟩
  ·have q:=S.obj l a o h1 (olds l o hl h2)
   refine q.keep ex (.inl hp) fun hm => ?_
   obtain ⟨v,e⟩:=q.at hm
   exact ne_of_none e hp
  ·have e:o = ob:=by
    rw [hl,S.len,List.getElem?_append_right (Nat.le_refl _),Nat.sub_self] at h2
    simpa using h2.symm
   subst e
   exact r
 ·rcases old l a h1 with ⟨hl,g1⟩ | ⟨hl,ea⟩
  ·rcases old l' a h1' with ⟨hl',g1'⟩ | ⟨hl',ea'⟩
   ·exact S.inj l l' a zs zs' g1 g1' (olds l _ hl h2) (olds l' _ hl' h2') k k'
   ·rw [ea'] at g1
    exact (notold l zs g1 (olds l _ hl h2) k).elim
  ·rcases old l' a h1' with ⟨hl',g1'⟩ | ⟨hl',_⟩
   ·rw [ea] at g1'
    exact (notold l' zs' g1' (olds l' _ hl' h2') k').elim
   ·omega
theorem Sim.alloc {p:Addr} {ws:List Wv} {xs:List V} (S:Sim K m st H) (hp:H p = none) (r:RelWs K m H ws xs):Sim K (m ++ [p]) (st ++ [.lst ws]) (upd H p (.lst xs)) :=
 S.allocO hp ⟨xs,upd_same,RelWs.mono (Ext.more.trans (Ext.updW (.inl hp))) _ _ r⟩
theorem Sim.writeO {l:Nat} {a:Addr} {o0 ob:Ob} {u:HO} (S:Sim K m st H) (h1:m[l]? = some a) (h2:st[l]? = some o0) (hw:o0.wm = true) (r:ORel K m (L2.upd H a u) a ob):Sim K m (st.set l ob) (L2.upd H a u):=by
 have wr:Wr (H a):=(S.obj l a o0 h1 h2).wr hw
 have hm:=Ob.wm_mu hw
 have ex:Ext K m H m (L2.upd H a u):=Ext.updW wr
 have hl:l < st.length:=(List.getElem?_eq_some_iff.mp h2).1
 have at':∀ (k:Nat) (o:Ob),(st.set l ob)[k]? = some o → (k = l ∧ o = ob) ∨ (k ≠ l ∧ st[k]? = some o):=fun k o h => by
  by_cases e:l = k
  ·subst e
   rw [List.getElem?_set_self hl] at h
   exact .inl ⟨rfl,(Option.some.inj h).symm⟩
  ·rw [List.getElem?_set_ne e] at h
   exact .inr ⟨fun z => e z.symm,h⟩
 refine ⟨by simp [S.len],fun k b o g1 g2 => ?_,fun k k' b us us' g1 g1' g2 g2' q q' => ?_,S.tab.updW wr⟩
 ·rcases at' k o g2 with ⟨rfl,rfl⟩ | ⟨hk,g2⟩
  ·rw [h1] at g1; cases g1
   exact r
  ·have q:=S.obj k b o g1 g2
   refine q.keep ex wr fun ho z => ?_
   subst z
   exact hk (S.inj k l b o o0 g1 h1 g2 h2 ho hm)
 ·have back:∀ (k:Nat) (o:Ob),(st.set l ob)[k]? = some o → o.mu = true → ∃ o',st[k]? = some o' ∧ o'.mu = true:=fun k o h ho => by
   rcases at' k _ h with ⟨rfl,_⟩ | ⟨_,h⟩
   ·exact ⟨o0,h2,hm⟩
   ·exact ⟨o,h,ho⟩
  obtain ⟨u1,e1,f1⟩:=back k us g2 q
  obtain ⟨u2,e2,f2⟩:=back k' us' g2' q'
  exact S.inj k k' b u1 u2 g1 g1' e1 e2 f1 f2
theorem Sim.write {l:Nat} {a:Addr} {ws zs:List Wv} {xs:List V} (S:Sim K m st H) (h1:m[l]? = some a) (h2:st[l]? = some (.lst ws)) (r:RelWs K m H zs xs):Sim K m (st.set l (.lst zs)) (upd H a (.lst xs)) :=
 S.writeO h1 h2 rfl ⟨xs,upd_same,RelWs.mono (Ext.updW ((S.obj l a _ h1 h2).wr rfl)) _ _ r⟩
end
structure RelEnv (K:PySem.W.Frag) (m:Mp) (H:Hp) (ρ:Rho) (σ:St):Prop where
 len:ρ.length = σ.length
 get:∀ (i:Nat) (w:Wv),ρ[i]? = some (some w) → ∃ v,σ[i]? = some (some v) ∧ RelW K m H w v
section
variable {K:PySem.W.Frag} {m m1:Mp} {H H1:Hp} {ρ:Rho} {σ:St}
theorem RelEnv.mono (R:RelEnv K m H ρ σ) (e:Ext K m H m1 H1):RelEnv K m1 H1 ρ σ:=⟨R.len,fun i w h => let ⟨v,h1,h2⟩:=R.get i w h; ⟨v,h1,RelW.mono e _ _ h2⟩⟩
theorem RelEnv.set (R:RelEnv K m H ρ σ) (i:Nat) {w:Wv} {v:V} (h:RelW K m H w v):RelEnv K m H (ρ.set i (some w)) (σ.set i (some v)):=by
 refine ⟨by simp [R.len],fun j u e => ?_⟩
 by_cases hj:i = j
 ·subst hj
  have hi:i < ρ.length:=by
   have:=(List.getElem?_eq_some_iff.mp e).1
   simpa using this
  rw [List.getElem?_set_self hi] at e
  have e':w = u:=Option.some.inj (Option.some.inj e)
  subst e'
  exact ⟨v,by rw [List.getElem?_set_self (by rw [← R.len]; exact hi)],h⟩
 ·rw [List.getElem?_set_ne hj] at e
  obtain ⟨x,h1,h2⟩:=R.get j u e
  exact ⟨x,by rw [List.getElem?_set_ne hj]; exact h1,h2⟩
end
inductive Re (α:Type) where
 | ok (a:α) (st:Hs)
 | err (c:PySem.Str) (st:Hs)
 | bad
def Re.bind {α β:Type} (r:Re α) (f:α → Hs → Re β):Re β:=match r with
 | .ok a st => f a st
 | .err c st => .err c st
 | .bad => .bad
inductive Rs where
 | nx (ρ:Rho) (st:Hs)
 | rt (w:Wv) (st:Hs)
 | bk (ρ:Rho) (st:Hs)
 | ct (ρ:Rho) (st:Hs)
 | err (c:PySem.Str) (ρ:Rho) (st:Hs)
 | bad
def Re.thn {α:Type} (ρ:Rho) (r:Re α) (f:α → Hs → Rs):Rs:=match r with
 | .ok a st => f a st
 | .err c st => .err c ρ st
 | .bad => .bad
def Re.nox {α:Type} (r:Re α):Re α:=match r with
 | .ok a st => .ok a st
 | _ => .bad
abbrev GE:=Rho → Hs → Re Wv
abbrev GT:=Rho → Hs → Re Bool
abbrev GA:=Rho → Hs → Re (List Wv)
abbrev GS:=Rho → Hs → Rs
def Flown (P:Program) (w:World) (outer:List Env) (H:Hp) (s:Shared) (H':Hp) (cls:Value) (e:Value) (s':Shared):Prop :=
 ∃ (a:Addr) (a0:Value) (B:Heap),e = .ref a ∧ s'.os = s.os ∧ AllBare s'.gens ∧ Un (frs outer) [] H H' s.heap s'.heap ∧ HOk P w H' B ∧ FlyX B outer a cls a0 s'.heap ∧
  (∀ b o,s.heap.get? b = some o → b ∉ frs outer → ∃ o',B.get? b = some o' ∧ (H b = none → o' = o))
def FlownA (X:Cx) (pins:List (Addr × Obj)) (H:Hp) (s:Shared) (H':Hp) (cls:Value) (e:Value) (s':Shared):Prop :=
 ∃ (a:Addr) (a0 nt:Value) (B:Heap) (ch:List Addr),e = .ref a ∧ s'.os = s.os ∧ AllBare s'.gens ∧ (∀ b ∈ ch,FpOk X pins H b) ∧ Un (frs X.stack) ch H H' s.heap s'.heap ∧ HOk X.prog X.w H' B ∧
  (B.StaysIn s'.heap ∧ B.get? a = none ∧ s'.heap.FunFrames B X.stack ∧ TrX s'.heap B a cls a0 nt) ∧
  (∀ b o,s.heap.get? b = some o → b ∉ frs X.stack → b ∉ ch → ∃ o',B.get? b = some o' ∧ (H b = none → o' = o))
theorem Flown.any {X:Cx} {pins:List (Addr × Obj)} {H H':Hp} {s s':Shared} {cls e:Value} (f:Flown X.prog X.w X.stack H s H' cls e s'):FlownA X pins H s H' cls e s' :=
 let ⟨a,a0,B,e1,e2,e3,un,hok,fl,cov⟩:=f
 ⟨a,a0,.none,B,[],e1,e2,e3,(fun b z => by cases z),un,hok,fl,fun b o q hb _ => cov b o q hb⟩
def Raised (X:Cx) (σ:St) (H':Hp) (c:PySem.Str) (e:Value) (s':Shared):Prop :=
 ∃ (C:Addr) (pins:List (Addr × Obj)) (Hc:Hp) (sc:Shared),ClsAt X.K c C ∧ Inv X pins σ Hc sc ∧
  (FlownA X pins Hc sc H' (.ref C) e s' ∨ (H' = Hc ∧ ∃ a args,e = .ref a ∧ s'.os = sc.os ∧ s'.gens = sc.gens ∧ Heap.MadeExcOf sc.heap s'.heap a (.ref C) args))
def XOk (X:Cx) (σ:St) (m:Mp) (H:Hp) (c:PySem.Str) (st:Hs):Prop :=
 ∀ (m':Mp) (H':Hp) (e:Value) (s':Shared),Ext X.K m H m' H' → Sim X.K m' st H' → Raised X σ H' c e s' → X.xe e s'
theorem XOk.mono {X:Cx} {σ:St} {m m1:Mp} {H H1:Hp} {c:PySem.Str} {st:Hs} (h:XOk X σ m H c st) (e:Ext X.K m H m1 H1):XOk X σ m1 H1 c st :=
 fun m' H' x s' e' S r => h m' H' x s' (e.trans e') S r
def PostG {α:Type} (X:Cx) (σ:St) (m:Mp) (H:Hp) (r:Re α) (ok:α → Hs → Prop):Prop:=match r with
 | .ok a st => ok a st
 | .err c st => XOk X σ m H c st
 | .bad => False
def PostN {α:Type} (r:Re α) (ok:α → Hs → Prop):Prop:=match r with
 | .ok a st => ok a st
 | _ => False
theorem PostG.nox {α:Type} {X:Cx} {σ:St} {m:Mp} {H:Hp} {r:Re α} {ok:α → Hs → Prop} (h:PostG X σ m H r.nox ok):PostN r ok:=by
 cases r with
 | ok a st => exact h
 | err c st => exact h
 | bad => exact h
theorem PostG.bind {α β:Type} {X:Cx} {σ:St} {m:Mp} {H:Hp} {r:Re α} {f:α → Hs → Re β} {ok:β → Hs → Prop} (h:PostG X σ m H (r.bind f) ok):PostG X σ m H r (fun a st => PostG X σ m H (f a st) ok):=by
 cases r with
 | ok a st => exact h
 | err c st => exact h
 | bad => exact h
theorem PostG.imp {α:Type} {X:Cx} {σ:St} {m m1:Mp} {H H1:Hp} {r:Re α} {ok ok':α → Hs → Prop} (h:PostG X σ m H r ok) (e:Ext X.K m H m1 H1) (k:∀ a st,ok a st → ok' a st):PostG X σ m1 H1 r ok':=by
 cases r with
 | ok a st => exact k a st h
 | err c st => exact XOk.mono (c:=c) (st:=st) h e
 | bad => exact h
theorem PostN.imp {α:Type} {r:Re α} {ok ok':α → Hs → Prop} (h:PostN r ok) (k:∀ a st,ok a st → ok' a st):PostN r ok':=by
 cases r with
 | ok a st => exact k a st h
 | err c st => exact h
 | bad => exact h
def okE (K:PySem.W.Frag) (m:Mp) (H:Hp) (Q:VK) (w:Wv) (st:Hs):Prop:=∀ (v:V) (m':Mp) (H':Hp),Ext K m H m' H' → Sim K m' st H' → RelW K m' H' w v → Q v H'
def okT (K:PySem.W.Frag) (m:Mp) (H:Hp) (Q:Bool → Hp → Prop) (b:Bool) (st:Hs):Prop:=∀ (m':Mp) (H':Hp),Ext K m H m' H' → Sim K m' st H' → Q b H'
def okA (K:PySem.W.Frag) (m:Mp) (H:Hp) (Q:List V → Hp → Prop) (ws:List Wv) (st:Hs):Prop:=∀ (vs:List V) (m':Mp) (H':Hp),Ext K m H m' H' → Sim K m' st H' → RelWs K m' H' ws vs → Q vs H'
abbrev PostE (X:Cx) (σ:St) (m:Mp) (H:Hp) (r:Re Wv) (Q:VK):Prop:=PostG X σ m H r (okE X.K m H Q)
abbrev PostT (X:Cx) (σ:St) (m:Mp) (H:Hp) (r:Re Bool) (Q:Bool → Hp → Prop):Prop:=PostG X σ m H r (okT X.K m H Q)
abbrev PostA (X:Cx) (σ:St) (m:Mp) (H:Hp) (r:Re (List Wv)) (Q:List V → Hp → Prop):Prop:=PostG X σ m H r (okA X.K m H Q)
theorem PostE.shift {X:Cx} {σ:St} {m m1:Mp} {H H1:Hp} {r:Re Wv} {Q:VK} (h:PostE X σ m H r Q) (e:Ext X.K m H m1 H1):PostE X σ m1 H1 r Q:=h.imp e fun _ _ k v m' H' e' => k v m' H' (e.trans e')
theorem PostT.shift {X:Cx} {σ:St} {m m1:Mp} {H H1:Hp} {r:Re Bool} {Q:Bool → Hp → Prop} (h:PostT X σ m H r Q) (e:Ext X.K m H m1 H1):PostT X σ m1 H1 r Q:=h.imp e fun _ _ k m' H' e' => k m' H' (e.trans e')
theorem PostA.shift {X:Cx} {σ:St} {m m1:Mp} {H H1:Hp} {r:Re (List Wv)} {Q:List V → Hp → Prop} (h:PostA X σ m H r Q) (e:Ext X.K m H m1 H1):PostA X σ m1 H1 r Q:=h.imp e fun _ _ k v m' H' e' => k v m' H' (e.trans e')
abbrev PostO (K:PySem.W.Frag) (m:Mp) (H:Hp) (r:Re Wv) (Q:VK):Prop:=PostN r (okE K m H Q)
theorem PostO.shift {K:PySem.W.Frag} {m m1:Mp} {H H1:Hp} {r:Re Wv} {Q:VK} (h:PostO K m H r Q) (e:Ext K m H m1 H1):PostO K m1 H1 r Q:=PostN.imp h fun _ _ k v m' H' e' => k v m' H' (e.trans e')
def PostS (X:Cx) (m:Mp) (H:Hp) (r:Rs) (D:Ends):Prop:=match r with
 | .nx ρ st => ∀ (σ:St) (m':Mp) (H':Hp),Ext X.K m H m' H' → Sim X.K m' st H' → RelEnv X.K m' H' ρ σ → D.nx σ H'
 | .rt w st => ∀ (v:V) (m':Mp) (H':Hp),Ext X.K m H m' H' → Sim X.K m' st H' → RelW X.K m' H' w v → D.rt v H'
 | .bk ρ st => ∀ (σ:St) (m':Mp) (H':Hp),Ext X.K m H m' H' → Sim X.K m' st H' → RelEnv X.K m' H' ρ σ → D.bk σ H'
 | .ct ρ st => ∀ (σ:St) (m':Mp) (H':Hp),Ext X.K m H m' H' → Sim X.K m' st H' → RelEnv X.K m' H' ρ σ → D.ct σ H'
 | .err c ρ st => ∀ (σ:St) (m':Mp) (H':Hp) (e:Value) (s':Shared),Ext X.K m H m' H' → Sim X.K m' st H' → RelEnv X.K m' H' ρ σ → Raised X σ H' c e s' → X.xe e s'
 | .bad => False
theorem PostS.shift {X:Cx} {m m1:Mp} {H H1:Hp} {r:Rs} {D:Ends} (h:PostS X m H r D) (e:Ext X.K m H m1 H1):PostS X m1 H1 r D:=by
 cases r with
 | nx ρ st => exact fun σ m' H' e' => h σ m' H' (e.trans e')
 | rt w st => exact fun v m' H' e' => h v m' H' (e.trans e')
 | bk ρ st => exact fun σ m' H' e' => h σ m' H' (e.trans e')
 | ct ρ st => exact fun σ m' H' e' => h σ m' H' (e.trans e')
 | err c ρ st => exact fun σ m' H' x s' e' => h σ m' H' x s' (e.trans e')
 | bad => exact h
theorem PostS.of_thn {α:Type} {X:Cx} {m:Mp} {H:Hp} {ρ:Rho} {σ:St} {r:Re α} {f:α → Hs → Rs} {D:Ends} (R:RelEnv X.K m H ρ σ) (h:PostS X m H (r.thn ρ f) D):PostG X σ m H r (fun a st => PostS X m H (f a st) D):=by
 cases r with
 | ok a st => exact h
 | err c st => exact fun m' H' x s' e' S r => h σ m' H' x s' e' S (R.mono e') r
 | bad => exact h
def SE (X:Cx) (e:Expr):TE:=fun σ H Q => ∀ (pins:List (Addr × Obj)) (s:Shared),Inv X pins σ H s → wpAny (model X.prog X.w) X.A (eval e X.env) (EP X pins σ Q) X.xe s
def ST (X:Cx) (e:Expr):TT:=fun σ H Q => ∀ (pins:List (Addr × Obj)) (s:Shared),Inv X pins σ H s → wpAny (model X.prog X.w) X.A (isTrue e X.env (eval e X.env)) (TP X pins σ Q) X.xe s
def SA (X:Cx) (es:List Expr):TA:=fun σ H Q => ∀ (pos:Pos) (pins:List (Addr × Obj)) (s:Shared),Inv X pins σ H s → wpAny (model X.prog X.w) X.A (spliced (backTo pos (starEach es X.env))) (AP X pins σ Q) X.xe s
def SS (X:Cx) (st:Stmt):TS:=fun D σ H => ∀ (pins:List (Addr × Obj)) (s:Shared),Inv X pins σ H s → wpAny (model X.prog X.w) X.A (exec st X.env) (SP X pins D) X.xe s
def SSs (X:Cx) (st:List Stmt):TS:=fun D σ H => ∀ (pins:List (Addr × Obj)) (s:Shared),Inv X pins σ H s → wpAny (model X.prog X.w) X.A (execs st X.env) (SP X pins D) X.xe s
section
variable {X:Cx}
theorem pe_SE {e:Expr}:PE X e (SE X e):=fun pins s _ _ _ I h => h pins s I
theorem pt_ST {e:Expr}:PT X e (ST X e):=fun pins s _ _ _ I h => h pins s I
theorem pa_SA {es:List Expr}:PA X es (SA X es):=fun pos pins s _ _ _ I h => h pos pins s I
theorem ps_SS {st:Stmt}:PS X st (SS X st):=fun pins s _ _ _ I h => h pins s I
theorem pss_SSs {st:List Stmt}:PSs X st (SSs X st):=fun pins s _ _ _ I h => h pins s I
end
def JE (X:Cx) (e:Expr) (g:GE):Prop:=∀ (ρ:Rho) (st:Hs) (σ:St) (H:Hp) (m:Mp) (Q:VK),Sim X.K m st H → RelEnv X.K m H ρ σ → PostE X σ m H (g ρ st) Q → SE X e σ H Q
def JT (X:Cx) (e:Expr) (g:GT):Prop:=∀ (ρ:Rho) (st:Hs) (σ:St) (H:Hp) (m:Mp) (Q:Bool → Hp → Prop),Sim X.K m st H → RelEnv X.K m H ρ σ → PostT X σ m H (g ρ st) Q → ST X e σ H Q
def JA (X:Cx) (es:List Expr) (g:GA):Prop:=∀ (ρ:Rho) (st:Hs) (σ:St) (H:Hp) (m:Mp) (Q:List V → Hp → Prop),Sim X.K m st H → RelEnv X.K m H ρ σ → PostA X σ m H (g ρ st) Q → SA X es σ H Q
def JS (X:Cx) (s:Stmt) (g:GS):Prop:=∀ (ρ:Rho) (st:Hs) (σ:St) (H:Hp) (m:Mp) (D:Ends),Sim X.K m st H → RelEnv X.K m H ρ σ → PostS X m H (g ρ st) D → SS X s D σ H
def JSs (X:Cx) (s:List Stmt) (g:GS):Prop:=∀ (ρ:Rho) (st:Hs) (σ:St) (H:Hp) (m:Mp) (D:Ends),Sim X.K m st H → RelEnv X.K m H ρ σ → PostS X m H (g ρ st) D → SSs X s D σ H
section
variable {X:Cx}
theorem JE.of {e:Expr} {g:GE} {t:TE} (h:PE X e t) (k:∀ (ρ:Rho) (st:Hs) (σ:St) (H:Hp) (m:Mp) (Q:VK),Sim X.K m st H → RelEnv X.K m H ρ σ → PostE X σ m H (g ρ st) Q → t σ H Q):JE X e g :=
 fun ρ st σ H m Q S R p pins s I => h pins s σ H Q I (k ρ st σ H m Q S R p)
theorem JT.of {e:Expr} {g:GT} {t:TT} (h:PT X e t) (k:∀ (ρ:Rho) (st:Hs) (σ:St) (H:Hp) (m:Mp) (Q:Bool → Hp → Prop),Sim X.K m st H → RelEnv X.K m H ρ σ → PostT X σ m H (g ρ st) Q → t σ H Q):JT X e g :=
 fun ρ st σ H m Q S R p pins s I => h pins s σ H Q I (k ρ st σ H m Q S R p)
theorem JA.of {es:List Expr} {g:GA} {t:TA} (h:PA X es t) (k:∀ (ρ:Rho) (st:Hs) (σ:St) (H:Hp) (m:Mp) (Q:List V → Hp → Prop),Sim X.K m st H → RelEnv X.K m H ρ σ → PostA X σ m H (g ρ st) Q → t σ H Q):JA X es g :=
 fun ρ st σ H m Q S R p pos pins s I => h pos pins s σ H Q I (k ρ st σ H m Q S R p)
theorem JS.of {e:Stmt} {g:GS} {t:TS} (h:PS X e t) (k:∀ (ρ:Rho) (st:Hs) (σ:St) (H:Hp) (m:Mp) (D:Ends),Sim X.K m st H → RelEnv X.K m H ρ σ → PostS X m H (g ρ st) D → t D σ H):JS X e g :=
 fun ρ st σ H m D S R p pins s I => h pins s σ H D I (k ρ st σ H m D S R p)
theorem JSs.of {e:List Stmt} {g:GS} {t:TS} (h:PSs X e t) (k:∀ (ρ:Rho) (st:Hs) (σ:St) (H:Hp) (m:Mp) (D:Ends),Sim X.K m st H → RelEnv X.K m H ρ σ → PostS X m H (g ρ st) D → t D σ H):JSs X e g :=
 fun ρ st σ H m D S R p pins s I => h pins s σ H D I (k ρ st σ H m D S R p)
theorem JE.go {e:Expr} {g:GE} {ρ:Rho} {st:Hs} {σ:St} {H:Hp} {m:Mp} {T:VK} {ok:Wv → Hs → Prop} (h:JE X e g) (S:Sim X.K m st H) (R:RelEnv X.K m H ρ σ) (p:PostG X σ m H (g ρ st) ok)
  (k:∀ (w:Wv) (st1:Hs) (v:V) (m1:Mp) (H1:Hp),ok w st1 → Ext X.K m H m1 H1 → Sim X.K m1 st1 H1 → RelW X.K m1 H1 w v → T v H1):SE X e σ H T :=
 h ρ st σ H m T S R (p.imp Ext.refl fun w st1 q v m1 H1 e1 s1 r1 => k w st1 v m1 H1 q e1 s1 r1)
theorem JT.go {e:Expr} {g:GT} {ρ:Rho} {st:Hs} {σ:St} {H:Hp} {m:Mp} {T:Bool → Hp → Prop} {ok:Bool → Hs → Prop} (h:JT X e g) (S:Sim X.K m st H) (R:RelEnv X.K m H ρ σ) (p:PostG X σ m H (g ρ st) ok)
  (k:∀ (b:Bool) (st1:Hs) (m1:Mp) (H1:Hp),ok b st1 → Ext X.K m H m1 H1 → Sim X.K m1 st1 H1 → T b H1):ST X e σ H T :=
 h ρ st σ H m T S R (p.imp Ext.refl fun b st1 q m1 H1 e1 s1 => k b st1 m1 H1 q e1 s1)
theorem JA.go {es:List Expr} {g:GA} {ρ:Rho} {st:Hs} {σ:St} {H:Hp} {m:Mp} {T:List V → Hp → Prop} {ok:List Wv → Hs → Prop} (h:JA X es g) (S:Sim X.K m st H) (R:RelEnv X.K m H ρ σ) (p:PostG X σ m H (g ρ st) ok)
  (k:∀ (ws:List Wv) (st1:Hs) (vs:List V) (m1:Mp) (H1:Hp),ok ws st1 → Ext X.K m H m1 H1 → Sim X.K m1 st1 H1 → RelWs X.K m1 H1 ws vs → T vs H1):SA X es σ H T :=
 h ρ st σ H m T S R (p.imp Ext.refl fun w st1 q v m1 H1 e1 s1 r1 => k w st1 v m1 H1 q e1 s1 r1)
end
end J
namespace J
open PySem PySem.Spec PyProof.Rows L2
def lim:Nat:=1000000
theorem lim_le {n:Nat} (h:n ≤ lim):n ≤ sizeLine:=Nat.le_trans h (by unfold lim; rw [sizeLine_eq]; decide)
theorem lim_lt {n:Nat} (h:n < lim):n < sizeLine:=Nat.lt_of_lt_of_le h (by unfold lim; rw [sizeLine_eq]; decide)
def gVar (i:Nat):GE:=fun ρ st => match ρ[i]? with
 | some (some w) => .ok w st
 | _ => .bad
def gC (w:Wv):GE:=fun _ st => .ok w st
section
variable {X:Cx}
theorem je_var (i:Nat) {x:Str} {pos:Pos} (hN:X.N[i]? = some x:=by rfl) (hv:Vis X.env.scope x:=by first | exact Or.inl rfl | exact Or.inr (Or.inl rfl) | exact Or.inr (Or.inr rfl)) (hd:(x == ("__debug__":Str)) = false:=by decide)
  (hcd:(x == ("__classdict__":Str)) = false:=by decide):JE X (.Name x pos) (gVar i):=JE.of (pe_var hN hv hd hcd) fun ρ st σ H m Q S R p => by
 unfold gVar at p
 cases e:ρ[i]? with
 | none => rw [e] at p; exact False.elim p
 | some o =>
  cases o with
  | none => rw [e] at p; exact False.elim p
  | some w =>
   rw [e] at p
   obtain ⟨v,h1,h2⟩:=R.get i w e
   exact ⟨v,h1,p v m H Ext.refl S h2⟩
theorem je_int {i:Int} {j pos}:JE X (.Constant (.int i) j pos) (gC (.int i)):=JE.of pe_int fun ρ st σ H m Q S R p => p (.int i) m H Ext.refl S (by unfold RelW; rfl)
theorem je_bl {b:Bool} {j pos}:JE X (.Constant (.bool b) j pos) (gC (.bl b)):=JE.of pe_bl fun ρ st σ H m Q S R p => p (.bl b) m H Ext.refl S (by unfold RelW; rfl)
theorem je_non {j pos}:JE X (.Constant .none j pos) (gC .non):=JE.of pe_non fun ρ st σ H m Q S R p => p .non m H Ext.refl S (by unfold RelW; rfl)
theorem je_str {x:PySem.Str} {j pos} (hx:PyData.strOk x = true:=by decide +kernel):JE X (.Constant (.str x) j pos) (gC (.str x)):=JE.of pe_str fun ρ st σ H m Q S R p => p (.str x) m H Ext.refl S (by unfold RelW; exact ⟨rfl,hx⟩)
theorem je_globI {x:Str} {i:Int} {t:Tok} {pos:Pos} (hg:Gl X x) (hm:X.mg x = some (.int i t)) (hd:(x == ("__debug__":Str)) = false:=by decide):JE X (.Name x pos) (gC (.int i)) :=
 JE.of (pe_glob (v:=.int i) hg hm ⟨t,rfl⟩ hd) fun ρ st σ H m Q S R p => p (.int i) m H Ext.refl S (by unfold RelW; rfl)
theorem je_globS {x y:Str} {t:Tok} {pos:Pos} (hg:Gl X x) (hm:X.mg x = some (.str y t)) (hy:PyData.strOk y = true:=by decide +kernel) (hd:(x == ("__debug__":Str)) = false:=by decide):JE X (.Name x pos) (gC (.str y)) :=
 JE.of (pe_glob (v:=.str y) hg hm ⟨t,rfl⟩ hd) fun ρ st σ H m Q S R p => p (.str y) m H Ext.refl S (by unfold RelW; exact ⟨rfl,hy⟩)
theorem je_ty {x:Str} {T:String} {pos:Pos} (hg:Gl X x) (hm:X.mg x = none) (hv:bootBuiltins x = some (.type T)) (hn:x ≠ "__name__":=by decide) (hd:(x == ("__debug__":Str)) = false:=by decide):JE X (.Name x pos) (gC (.ty T)) :=
 JE.of (pe_bltn (v:=.ty T) hg hm hv rfl hn hd) fun ρ st σ H m Q S R p => p (.ty T) m H Ext.refl S (by unfold RelW; rfl)
abbrev Op2:=Wv → Wv → Hs → Re Wv
def gBin (op:Op2) (ga gb:GE):GE:=fun ρ st => (ga ρ st).bind fun x st1 => (gb ρ st1).bind fun y st2 => (op x y st2).nox
def ReadW (X:Cx) (op:Op2) (r:R2):Prop:=∀ (x y:Wv) (a b:V) (st:Hs) (H:Hp) (m:Mp) (Q:VK),Sim X.K m st H → RelW X.K m H x a → RelW X.K m H y b → PostO X.K m H (op x y st) Q → r a b H Q
def OpW (X:Cx) (f:Value → Value → Sem Value) (op:Op2):Prop:=∃ r,OpR X f r ∧ ReadW X op r
theorem read2 {a b:Expr} {ga gb:GE} {op:Op2} {r:R2} (h2:ReadW X op r) (ha:JE X a ga) (hb:JE X b gb) {ρ:Rho} {st:Hs} {σ:St} {H:Hp} {m:Mp} {Q:VK} (S:Sim X.K m st H) (R:RelEnv X.K m H ρ σ) (p:PostE X σ m H (gBin op ga gb ρ st) Q) :
  tOp r (SE X a) (SE X b) σ H Q:=by
 refine ha.go S R (PostG.bind p) fun x st1 v m1 H1 p1 e1 S1 rx => ?_
 refine hb.go S1 (R.mono e1) ((PostG.bind p1).imp e1 fun _ _ q => q) fun y st2 u m2 H2 p2 e2 S2 ry => ?_
 exact h2 x y v u st2 H2 m2 Q S2 (RelW.mono e2 _ _ rx) ry (PostO.shift (PostG.nox p2) (e1.trans e2))
theorem je_bin {a b:Expr} {ga gb:GE} {o:Operator} {op:Op2} {pos:Pos} (ho:OpW X (binaryOp o) op) (ha:JE X a ga) (hb:JE X b gb):JE X (.BinOp a o b pos) (gBin op ga gb):=by
 obtain ⟨r,h1,h2⟩:=ho
 exact JE.of (pe_op h1 pe_SE pe_SE) fun ρ st σ H m Q S R p => read2 h2 ha hb S R p
theorem je_cmp {a b:Expr} {ga gb:GE} {o:CmpOp} {op:Op2} {pos:Pos} (ho:OpW X (compareOp o) op) (ha:JE X a ga) (hb:JE X b gb) (hm:behindInMarks o b = false):JE X (.Compare a [o] [b] pos) (gBin op ga gb):=by
 obtain ⟨r,h1,h2⟩:=ho
 exact JE.of (pe_cmpR h1 pe_SE pe_SE hm) fun ρ st σ H m Q S R p => read2 h2 ha hb S R p
def tst (w:Wv) (st:Hs):Re Bool:=match w with
 | .bl b => .ok b st
 | _ => .bad
def gTst (g:GE):GT:=fun ρ st => (g ρ st).bind tst
theorem post_tst {σ:St} {m:Mp} {H:Hp} {r:Re Wv} {Q:Bool → Hp → Prop} (p:PostT X σ m H (r.bind tst) Q):PostE X σ m H r (fun x H' => ∃ k,x = .bl k ∧ Q k H'):=by
 cases r with
 | ok w st =>
  cases w with
  | bl b =>
   intro v m' H' e S rw'
   unfold RelW at rw'
   exact ⟨b,rw',p m' H' e S⟩
  | _ => exact False.elim p
 | err c st => exact p
 | bad => exact p
theorem jt_cmp {a b:Expr} {ga gb:GE} {o:CmpOp} {op:Op2} {pos:Pos} (ho:OpW X (compareOp o) op) (ha:JE X a ga) (hb:JE X b gb) (hm:behindInMarks o b = false):JT X (.Compare a [o] [b] pos) (gTst (gBin op ga gb)):=by
 obtain ⟨r,h1,h2⟩:=ho
 exact JT.of (pt_cmpR h1 pe_SE pe_SE hm) fun ρ st σ H m Q S R p => read2 h2 ha hb S R (post_tst p)
def gChain (op op':Op2) (ga gb gc:GE):GE:=fun ρ st => (ga ρ st).bind fun x st1 => (gb ρ st1).bind fun y st2 => (op x y st2).nox.bind fun z st3 => match z with
 | .bl true => (gc ρ st3).bind fun u st4 => (op' y u st4).nox
 | .bl false => .ok (.bl false) st3
 | _ => .bad
theorem readC {a b c:Expr} {ga gb gc:GE} {op op':Op2} {r r':R2} (h2:ReadW X op r) (h2':ReadW X op' r') (ha:JE X a ga) (hb:JE X b gb) (hc:JE X c gc) {ρ:Rho} {st:Hs} {σ:St} {H:Hp} {m:Mp} {Q:VK}
  (S:Sim X.K m st H) (R:RelEnv X.K m H ρ σ) (p:PostE X σ m H (gChain op op' ga gb gc ρ st) Q):tChain r r' (SE X a) (SE X b) (SE X c) σ H Q:=by
 refine ha.go S R (PostG.bind p) fun x st1 v m1 H1 p1 e1 S1 rx => ?_
 refine hb.go S1 (R.mono e1) ((PostG.bind p1).imp e1 fun _ _ q => q) fun y st2 u m2 H2 p2 e2 S2 ry => ?_
 refine h2 x y v u st2 H2 m2 _ S2 (RelW.mono e2 _ _ rx) ry (PostN.imp (PostG.nox (PostG.bind p2)) fun z st3 p3 => ?_)
 intro z' m3 H3 e3 S3 rz
 cases z with
 | bl k =>
  unfold RelW at rz
  refine ⟨k,rz,?_⟩
  cases k with
  | true =>
   rw [if_pos rfl]
   refine hc.go S3 (R.mono (e1.trans (e2.trans e3))) ((PostG.bind p3).imp (e1.trans (e2.trans e3)) fun _ _ q => q) fun q st4 u' m4 H4 p4 e4 S4 rq => ?_
   exact h2' y q u u' st4 H4 m4 Q S4 (RelW.mono (e3.trans e4) _ _ ry) rq (PostO.shift (PostG.nox p4) (e1.trans (e2.trans (e3.trans e4))))
  | false =>
   rw [if_neg Bool.false_ne_true]
   exact p3 (.bl false) m3 H3 (e1.trans (e2.trans e3)) S3 (by unfold RelW; rfl)
 | _ => exact False.elim p3
theorem je_chain {a b c:Expr} {ga gb gc:GE} {o o':CmpOp} {op op':Op2} {pos:Pos} (ho:OpW X (compareOp o) op) (ho':OpW X (compareOp o') op') (ha:JE X a ga) (hb:JE X b gb) (hc:JE X c gc)
  (hm:lastMarks [o,o'] [b,c] = false:=by with_unfolding_all rfl):JE X (.Compare a [o,o'] [b,c] pos) (gChain op op' ga gb gc):=by
 obtain ⟨r,h1,h2⟩:=ho
 obtain ⟨r',h1',h2'⟩:=ho'
 exact JE.of (pe_chain h1 h1' pe_SE pe_SE pe_SE hm) fun ρ st σ H m Q S R p => readC h2 h2' ha hb hc S R p
theorem jt_chain {a b c:Expr} {ga gb gc:GE} {o o':CmpOp} {op op':Op2} {pos:Pos} (ho:OpW X (compareOp o) op) (ho':OpW X (compareOp o') op') (ha:JE X a ga) (hb:JE X b gb) (hc:JE X c gc)
  (hm:lastMarks [o,o'] [b,c] = false:=by with_unfolding_all rfl):JT X (.Compare a [o,o'] [b,c] pos) (gTst (gChain op op' ga gb gc)):=by
 obtain ⟨r,h1,h2⟩:=ho
 obtain ⟨r',h1',h2'⟩:=ho'
 exact JT.of (pt_chain h1 h1' pe_SE pe_SE pe_SE hm) fun ρ st σ H m Q S R p => readC h2 h2' ha hb hc S R (post_tst p)
def gUn (op:Wv → Hs → Re Wv) (ga:GE):GE:=fun ρ st => (ga ρ st).bind op
def opNeg:Wv → Hs → Re Wv
 | .int i,st => .ok (.int (-i)) st
 | _,_ => .bad
theorem je_neg {a:Expr} {ga:GE} {pos:Pos} (ha:JE X a ga):JE X (.UnaryOp .USub a pos) (gUn opNeg ga):=by
 refine JE.of (pe_un un_neg pe_SE) fun ρ st σ H m Q S R p => ?_
 refine ha.go S R (PostG.bind p) fun x st1 v m1 H1 p1 e1 S1 rx => ?_
 cases x with
 | int i =>
  unfold RelW at rx
  exact ⟨i,rx,p1 _ m1 H1 e1 S1 (by unfold RelW; rfl)⟩
 | _ => exact False.elim p1
def SW (X:Cx) (e:Expr):TT:=fun σ H Q => ∀ (wh:Sem Value) (pins:List (Addr × Obj)) (s:Shared),Inv X pins σ H s → wpAny (model X.prog X.w) X.A (isTrue e X.env wh) (TP X pins σ Q) X.xe s
theorem pw_SW {e:Expr}:PW X e (SW X e):=fun wh pins s _ _ _ I h => h wh pins s I
def JW (X:Cx) (e:Expr) (g:GT):Prop:=∀ (ρ:Rho) (st:Hs) (σ:St) (H:Hp) (m:Mp) (Q:Bool → Hp → Prop),Sim X.K m st H → RelEnv X.K m H ρ σ → PostT X σ m H (g ρ st) Q → SW X e σ H Q
theorem JW.of {e:Expr} {g:GT} {t:TT} (h:PW X e t) (k:∀ (ρ:Rho) (st:Hs) (σ:St) (H:Hp) (m:Mp) (Q:Bool → Hp → Prop),Sim X.K m st H → RelEnv X.K m H ρ σ → PostT X σ m H (g ρ st) Q → t σ H Q):JW X e g :=
 fun ρ st σ H m Q S R p wh pins s I => h wh pins s σ H Q I (k ρ st σ H m Q S R p)
theorem JW.jt {e:Expr} {g:GT} (h:JW X e g):JT X e g:=fun ρ st σ H m Q S R p pins s I => h ρ st σ H m Q S R p _ pins s I
def gAnd (ga gb:GT):GT:=fun ρ st => (ga ρ st).bind fun b st1 => if b = true then gb ρ st1 else .ok false st1
def gOr (ga gb:GT):GT:=fun ρ st => (ga ρ st).bind fun b st1 => if b = true then .ok true st1 else gb ρ st1
def gNot (ga:GT):GT:=fun ρ st => (ga ρ st).bind fun b st1 => .ok (!b) st1
theorem jw_and1 {a:Expr} {ga:GT} {pos:Pos} (ha:JT X a ga):JW X (.BoolOp .And [a] pos) ga:=JW.of (pw_and1 pt_ST) fun ρ st σ H m Q S R p => ha ρ st σ H m Q S R p
theorem jw_or1 {a:Expr} {ga:GT} {pos:Pos} (ha:JT X a ga):JW X (.BoolOp .Or [a] pos) ga:=JW.of (pw_or1 pt_ST) fun ρ st σ H m Q S R p => ha ρ st σ H m Q S R p
theorem jw_and {a b:Expr} {rest:List Expr} {ga gb:GT} {pos:Pos} (ha:JT X a ga) (hb:JW X (.BoolOp .And (b :: rest) pos) gb):JW X (.BoolOp .And (a :: b :: rest) pos) (gAnd ga gb):=by
 refine JW.of (pw_and pt_ST pw_SW) fun ρ st σ H m Q S R p => ?_
 refine ha.go S R (PostG.bind p) fun c st1 m1 H1 p1 e1 S1 => ?_
 cases c with
 | true => rw [if_pos rfl] at p1 ⊢; exact hb ρ st1 σ H1 m1 Q S1 (R.mono e1) (PostT.shift p1 e1)
 | false => rw [if_neg Bool.false_ne_true] at p1 ⊢; exact p1 m1 H1 e1 S1
theorem jw_or {a b:Expr} {rest:List Expr} {ga gb:GT} {pos:Pos} (ha:JT X a ga) (hb:JW X (.BoolOp .Or (b :: rest) pos) gb):JW X (.BoolOp .Or (a :: b :: rest) pos) (gOr ga gb):=by
 refine JW.of (pw_or pt_ST pw_SW) fun ρ st σ H m Q S R p => ?_
 refine ha.go S R (PostG.bind p) fun c st1 m1 H1 p1 e1 S1 => ?_
 cases c with
 | true => rw [if_pos rfl] at p1 ⊢; exact p1 m1 H1 e1 S1
 | false => rw [if_neg Bool.false_ne_true] at p1 ⊢; exact hb ρ st1 σ H1 m1 Q S1 (R.mono e1) (PostT.shift p1 e1)
theorem jt_not {a:Expr} {ga:GT} {pos:Pos} (ha:JT X a ga):JT X (.UnaryOp .Not a pos) (gNot ga):=by
 refine JT.of (pt_not pt_ST) fun ρ st σ H m Q S R p => ?_
 exact ha.go S R (PostG.bind p) fun c st1 m1 H1 p1 e1 S1 => p1 m1 H1 e1 S1
def gAndV (ga gb:GE):GE:=fun ρ st => (ga ρ st).bind fun w st1 => match w with
 | .bl true => gb ρ st1
 | .bl false => .ok (.bl false) st1
 | _ => .bad
def gOrV (ga gb:GE):GE:=fun ρ st => (ga ρ st).bind fun w st1 => match w with
 | .bl true => .ok (.bl true) st1
 | .bl false => gb ρ st1
 | _ => .bad
def gNotV (ga:GE):GE:=fun ρ st => (ga ρ st).bind fun w st1 => match w with
 | .bl b => .ok (.bl (!b)) st1
 | _ => .bad
theorem je_one {op} {a:Expr} {ga:GE} {pos:Pos} (ha:JE X a ga):JE X (.BoolOp op [a] pos) ga:=JE.of (pe_one pe_SE) fun ρ st σ H m Q S R p => ha ρ st σ H m Q S R p
theorem je_and {a b:Expr} {rest:List Expr} {ga gb:GE} {pos:Pos} (ha:JE X a ga) (hb:JE X (.BoolOp .And (b :: rest) pos) gb):JE X (.BoolOp .And (a :: b :: rest) pos) (gAndV ga gb):=by
 refine JE.of (pe_and pe_SE pe_SE) fun ρ st σ H m Q S R p => ?_
 refine ha.go S R (PostG.bind p) fun x st1 v m1 H1 p1 e1 S1 rx => ?_
 cases x with
 | bl c =>
  unfold RelW at rx
  refine ⟨c,rx,?_⟩
  cases c with
  | true => rw [if_pos rfl]; exact hb ρ st1 σ H1 m1 Q S1 (R.mono e1) (PostE.shift p1 e1)
  | false => rw [if_neg Bool.false_ne_true]; exact p1 _ m1 H1 e1 S1 (by unfold RelW; rfl)
 | _ => exact False.elim p1
theorem je_or {a b:Expr} {rest:List Expr} {ga gb:GE} {pos:Pos} (ha:JE X a ga) (hb:JE X (.BoolOp .Or (b :: rest) pos) gb):JE X (.BoolOp .Or (a :: b :: rest) pos) (gOrV ga gb):=by
 refine JE.of (pe_or pe_SE pe_SE) fun ρ st σ H m Q S R p => ?_
 refine ha.go S R (PostG.bind p) fun x st1 v m1 H1 p1 e1 S1 rx => ?_
 cases x with
 | bl c =>
  unfold RelW at rx
  refine ⟨c,rx,?_⟩
  cases c with
  | true => rw [if_pos rfl]; exact p1 _ m1 H1 e1 S1 (by unfold RelW; rfl)
  | false => rw [if_neg Bool.false_ne_true]; exact hb ρ st1 σ H1 m1 Q S1 (R.mono e1) (PostE.shift p1 e1)
 | _ => exact False.elim p1
theorem je_not {a:Expr} {ga:GE} {pos:Pos} (ha:JE X a ga):JE X (.UnaryOp .Not a pos) (gNotV ga):=by
 refine JE.of (pe_not pe_SE) fun ρ st σ H m Q S R p => ?_
 refine ha.go S R (PostG.bind p) fun x st1 v m1 H1 p1 e1 S1 rx => ?_
 cases x with
 | bl c =>
  unfold RelW at rx
  exact ⟨c,rx,p1 _ m1 H1 e1 S1 (by unfold RelW; rfl)⟩
 | _ => exact False.elim p1
def gIfE (gt:GT) (ga gb:GE):GE:=fun ρ st => (gt ρ st).bind fun b st1 => if b = true then ga ρ st1 else gb ρ st1
theorem je_if {c a b:Expr} {gt:GT} {ga gb:GE} {pos:Pos} (hc:JT X c gt) (ha:JE X a ga) (hb:JE X b gb):JE X (.IfExp c a b pos) (gIfE gt ga gb):=by
 refine JE.of (pe_ifExp pt_ST pe_SE pe_SE) fun ρ st σ H m Q S R p => ?_
 refine hc.go S R (PostG.bind p) fun k st1 m1 H1 p1 e1 S1 => ?_
 cases k with
 | true => rw [if_pos rfl] at p1 ⊢; exact ha ρ st1 σ H1 m1 Q S1 (R.mono e1) (PostE.shift p1 e1)
 | false => rw [if_neg Bool.false_ne_true] at p1 ⊢; exact hb ρ st1 σ H1 m1 Q S1 (R.mono e1) (PostE.shift p1 e1)
def gNil:GA:=fun _ st => .ok [] st
def gCons (ga:GE) (gr:GA):GA:=fun ρ st => (ga ρ st).bind fun x st1 => (gr ρ st1).bind fun xs st2 => .ok (x :: xs) st2
theorem ja_nil:JA X [] gNil:=JA.of pa_nil fun ρ st σ H m Q S R p => p [] m H Ext.refl S RelWs.nil
theorem ja_cons {e:Expr} {es:List Expr} {ga:GE} {gr:GA} (ha:JE X e ga) (hr:JA X es gr) (hs:starEach (e :: es) X.env = (false,eval e X.env) :: starEach es X.env:=by rfl):JA X (e :: es) (gCons ga gr):=by
 refine JA.of (pa_cons pe_SE pa_SA hs) fun ρ st σ H m Q S R p => ?_
 refine ha.go S R (PostG.bind p) fun x st1 v m1 H1 p1 e1 S1 rx => ?_
 refine hr.go S1 (R.mono e1) ((PostG.bind p1).imp e1 fun _ _ q => q) fun xs st2 vs m2 H2 p2 e2 S2 rs => ?_
 exact p2 (v :: vs) m2 H2 (e1.trans e2) S2 (RelWs.cons (RelW.mono e2 _ _ rx) rs)
def gTup (g:GA):GE:=fun ρ st => (g ρ st).bind fun ws st1 => if ws.length ≤ lim then .ok (.tup ws) st1 else .bad
def gLst (g:GA):GE:=fun ρ st => (g ρ st).bind fun ws st1 => if ws.length ≤ lim then .ok (.ref st1.length) (st1 ++ [.lst ws]) else .bad
theorem je_tup {es:List Expr} {g:GA} {x1 pos} (h:JA X es g):JE X (.Tuple es x1 pos) (gTup g):=by
 refine JE.of (pe_tup pa_SA) fun ρ st σ H m Q S R p => ?_
 refine h.go S R (PostG.bind p) fun ws st1 vs m1 H1 p1 e1 S1 rs => ?_
 by_cases hl:ws.length ≤ lim
 ·rw [if_pos hl] at p1
  refine ⟨by rw [← rs.length]; exact lim_le hl,fun q hq => ?_⟩
  have e2:Ext X.K m1 H1 m1 (upd H1 q (.tup vs)):=Ext.upd (.inl hq)
  exact p1 (.ref q) m1 _ (e1.trans e2) (S1.fresh hq) (by unfold RelW; exact ⟨q,vs,rfl,upd_same,RelWs.mono e2 _ _ rs⟩)
 ·rw [if_neg hl] at p1; exact False.elim p1
theorem Sim.newest {K:PySem.W.Frag} {m:Mp} {st:Hs} {H:Hp} (S:Sim K m st H) (q:Addr) (H':Hp):RelW K (m ++ [q]) H' (.ref st.length) (.ref q):=by
 unfold RelW
 refine ⟨q,rfl,?_⟩
 rw [← S.len,List.getElem?_append_right (Nat.le_refl _),Nat.sub_self]
 rfl
theorem new_list {m m1:Mp} {H H1:Hp} {st1:Hs} {ws:List Wv} {vs:List V} {Q:VK} (p1:okE X.K m H Q (.ref st1.length) (st1 ++ [.lst ws])) (e1:Ext X.K m H m1 H1) (S1:Sim X.K m1 st1 H1) (rs:RelWs X.K m1 H1 ws vs) (q:Addr) (hq:H1 q = none) :
  Q (.ref q) (upd H1 q (.lst vs)) :=
 p1 (.ref q) (m1 ++ [q]) _ (e1.trans (Ext.more.trans (Ext.upd (.inl hq)))) (S1.alloc hq rs) (S1.newest q _)
theorem je_lst {es:List Expr} {g:GA} {pos} (h:JA X es g):JE X (.List es pos) (gLst g):=by
 refine JE.of (pe_lst pa_SA) fun ρ st σ H m Q S R p => ?_
 refine h.go S R (PostG.bind p) fun ws st1 vs m1 H1 p1 e1 S1 rs => ?_
 by_cases hl:ws.length ≤ lim
 ·rw [if_pos hl] at p1
  exact ⟨by rw [← rs.length]; exact lim_le hl,fun q hq => new_list p1 e1 S1 rs q hq⟩
 ·rw [if_neg hl] at p1; exact False.elim p1
end
end J
namespace J
open PySem PySem.Spec PyProof.Rows L2
section
variable {X:Cx}
theorem OpR.or {f:Value → Value → Sem Value} {r r':R2} (h:OpR X f r) (h':OpR X f r'):OpR X f (fun x y H Q => r x y H Q ∨ r' x y H Q):=by
 intro pins s σ H x y v u Q I rx ry q
 rcases q with q | q
 ·exact h pins s σ H x y v u Q I rx ry q
 ·exact h' pins s σ H x y v u Q I rx ry q
theorem op_fdivG:OpR X (binaryOp .FloorDiv) (rI (fun _ j => j ≠ 0 ∧ j.natAbs.log2 < 9000) fun i j => .int (i.fdiv j)):=opI fun i j _ _ _ _ _ hc q => floordiv_int hc.1 q (.inl (PyProof.noPylong_of_log2 hc.2))
theorem op_modG:OpR X (binaryOp .Mod) (rI (fun _ j => j ≠ 0) fun i j => .int (i.fmod j)):=opI fun i j _ _ _ _ _ hc q => mod_int' hc q
theorem op_mulG:OpR X (binaryOp .Mult) (rI (fun i j => IntMulOk i j) fun i j => .int (i * j)):=opI fun _ _ _ _ _ _ _ hc q => mul_int q hc
instance mulDec {a b:Int}:Decidable (IntMulOk a b):=by unfold IntMulOk; infer_instance
def oSub:Op2
 | .int i,.int j,st => .ok (.int (i - j)) st
 | _,_,_ => .bad
def oFdiv:Op2
 | .int i,.int j,st => if j ≠ 0 ∧ j.natAbs.log2 < 9000 then .ok (.int (i.fdiv j)) st else .bad
 | _,_,_ => .bad
def oMod:Op2
 | .int i,.int j,st => if j ≠ 0 then .ok (.int (i.fmod j)) st else .bad
 | _,_,_ => .bad
def oPow:Op2
 | .int i,.int j,st => if 0 ≤ j ∧ j ≤ 1000000 ∧ i.natAbs < 2 ^ 64 then .ok (.int (i ^ j.toNat)) st else .bad
 | _,_,_ => .bad
def oLt0:Op2
 | .int i,.int j,st => .ok (.bl (decide (i < j))) st
 | .str i,.str j,st => .ok (.bl (decide (i.cps.toList < j.cps.toList))) st
 | _,_,_ => .bad
def oLe0:Op2
 | .int i,.int j,st => .ok (.bl (decide (i ≤ j))) st
 | _,_,_ => .bad
def oGt:Op2
 | .int i,.int j,st => .ok (.bl (decide (j < i))) st
 | _,_,_ => .bad
def oGe:Op2
 | .int i,.int j,st => .ok (.bl (decide (j ≤ i))) st
 | _,_,_ => .bad
theorem relInt {m:Mp} {H:Hp} {i:Int} {a:V} (h:RelW X.K m H (.int i) a):a = .int i:=by unfold RelW at h; exact h
theorem relBl {m:Mp} {H:Hp} {b:Bool} {a:V} (h:RelW X.K m H (.bl b) a):a = .bl b:=by unfold RelW at h; exact h
theorem relStr {m:Mp} {H:Hp} {x:PySem.Str} {a:V} (h:RelW X.K m H (.str x) a):a = .str x ∧ PyData.strOk x = true:=by unfold RelW at h; exact h
theorem mkInt {m:Mp} {H:Hp} {i:Int}:RelW X.K m H (.int i) (.int i):=by unfold RelW; rfl
theorem mkBl {m:Mp} {H:Hp} {i:Bool}:RelW X.K m H (.bl i) (.bl i):=by unfold RelW; rfl
theorem mkNon {m:Mp} {H:Hp}:RelW X.K m H .non .non:=by unfold RelW; rfl
theorem mkStr {m:Mp} {H:Hp} {x:PySem.Str} (h:PyData.strOk x = true):RelW X.K m H (.str x) (.str x):=by unfold RelW; exact ⟨rfl,h⟩
theorem ow_sub:OpW X (binaryOp .Sub) oSub:=⟨_,op_sub,fun x y a b st H m Q S rx ry p => by
 cases x with
 | int i =>
  cases y with
  | int j => exact ⟨i,j,relInt rx,relInt ry,p _ m H Ext.refl S mkInt⟩
  | _ => exact False.elim p
 | _ => cases y <;> exact False.elim p⟩
theorem ow_fdiv:OpW X (binaryOp .FloorDiv) oFdiv:=⟨_,op_fdivG,fun x y a b st H m Q S rx ry p => by
 cases x with
 | int i =>
  cases y with
  | int j =>
   dsimp only [oFdiv] at p
   by_cases c:j ≠ 0 ∧ j.natAbs.log2 < 9000
   ·rw [if_pos c] at p; exact ⟨i,j,relInt rx,relInt ry,c,p _ m H Ext.refl S mkInt⟩
   ·rw [if_neg c] at p; exact False.elim p
  | _ => exact False.elim p
 | _ => cases y <;> exact False.elim p⟩
theorem ow_mod:OpW X (binaryOp .Mod) oMod:=⟨_,op_modG,fun x y a b st H m Q S rx ry p => by
 cases x with
 | int i =>
  cases y with
  | int j =>
   dsimp only [oMod] at p
   by_cases c:j ≠ 0
   ·rw [if_pos c] at p; exact ⟨i,j,relInt rx,relInt ry,c,p _ m H Ext.refl S mkInt⟩
   ·rw [if_neg c] at p; exact False.elim p
  | _ => exact False.elim p
 | _ => cases y <;> exact False.elim p⟩
theorem ow_pow:OpW X (binaryOp .Pow) oPow:=⟨_,op_pow,fun x y a b st H m Q S rx ry p => by
 cases x with
 | int i =>
  cases y with
  | int j =>
   dsimp only [oPow] at p
   by_cases c:0 ≤ j ∧ j ≤ 1000000 ∧ i.natAbs < 2 ^ 64
   ·rw [if_pos c] at p; exact ⟨i,j,relInt rx,relInt ry,c,p _ m H Ext.refl S mkInt⟩
   ·rw [if_neg c] at p; exact False.elim p
  | _ => exact False.elim p
 | _ => cases y <;> exact False.elim p⟩
theorem ow_lt:OpW X (compareOp .Lt) oLt0:=⟨_,OpR.or op_lt op_lt_str,fun x y a b st H m Q S rx ry p => by
 cases x with
 | int i =>
  cases y with
  | int j => exact .inl ⟨i,j,relInt rx,relInt ry,p _ m H Ext.refl S mkBl⟩
  | _ => exact False.elim p
 | str i =>
  cases y with
  | str j => exact .inr ⟨i,j,(relStr rx).1,(relStr ry).1,p _ m H Ext.refl S mkBl⟩
  | _ => exact False.elim p
 | _ => cases y <;> exact False.elim p⟩
theorem ow_le:OpW X (compareOp .LtE) oLe0:=⟨_,op_le,fun x y a b st H m Q S rx ry p => by
 cases x with
 | int i =>
  cases y with
  | int j => exact ⟨i,j,relInt rx,relInt ry,p _ m H Ext.refl S mkBl⟩
  | _ => exact False.elim p
 | _ => cases y <;> exact False.elim p⟩
theorem ow_gt:OpW X (compareOp .Gt) oGt:=⟨_,op_gt,fun x y a b st H m Q S rx ry p => by
 cases x with
 | int i =>
  cases y with
  | int j => exact ⟨i,j,relInt rx,relInt ry,p _ m H Ext.refl S mkBl⟩
  | _ => exact False.elim p
 | _ => cases y <;> exact False.elim p⟩
theorem ow_ge:OpW X (compareOp .GtE) oGe:=⟨_,op_ge,fun x y a b st H m Q S rx ry p => by
 cases x with
 | int i =>
  cases y with
  | int j => exact ⟨i,j,relInt rx,relInt ry,p _ m H Ext.refl S mkBl⟩
  | _ => exact False.elim p
 | _ => cases y <;> exact False.elim p⟩
def oIs:Op2
 | x,.non,st => .ok (.bl (match x with | .non => true | _ => false)) st
 | _,_,_ => .bad
def oIsNot:Op2
 | x,.non,st => .ok (.bl (match x with | .non => false | _ => true)) st
 | _,_,_ => .bad
theorem isNon {m:Mp} {H:Hp} {x:Wv} {a:V} (h:RelW X.K m H x a):decide (a = V.non) = (match x with | .non => true | _ => false):=by
 cases x with
 | non => unfold RelW at h; subst h; rfl
 | bl b => unfold RelW at h; subst h; rfl
 | int b => unfold RelW at h; subst h; rfl
 | str b => unfold RelW at h; obtain ⟨h,_⟩:=h; subst h; rfl
 | tup b => unfold RelW at h; obtain ⟨q,xs,h,_⟩:=h; subst h; rfl
 | ktp b => unfold RelW at h; obtain ⟨q,xs,h,_⟩:=h; subst h; rfl
 | ref b => unfold RelW at h; obtain ⟨q,h,_⟩:=h; subst h; rfl
 | ty b => unfold RelW at h; subst h; rfl
 | cls b => unfold RelW at h; obtain ⟨q,h,_⟩:=h; subst h; rfl
 | exn b => unfold RelW at h; obtain ⟨q,C,h,_⟩:=h; subst h; rfl
 | fn fp b => unfold RelW at h; obtain ⟨h,_⟩:=h; subst h; rfl
theorem ow_is:OpW X (compareOp .Is) oIs:=⟨_,op_isN,fun x y a b st H m Q S rx ry p => by
 cases y with
 | non =>
  refine ⟨by unfold RelW at ry; exact ry,?_⟩
  rw [isNon rx]
  cases x <;> exact p _ m H Ext.refl S mkBl
 | _ => cases x <;> exact False.elim p⟩
theorem ow_isnot:OpW X (compareOp .IsNot) oIsNot:=⟨_,op_notN,fun x y a b st H m Q S rx ry p => by
 cases y with
 | non =>
  refine ⟨by unfold RelW at ry; exact ry,?_⟩
  rw [isNon rx]
  cases x <;> exact p _ m H Ext.refl S mkBl
 | _ => cases x <;> exact False.elim p⟩
theorem strOk_append {a b:PySem.Str} (ha:PyData.strOk a = true) (hb:PyData.strOk b = true):PyData.strOk (a ++ b) = true:=by
 unfold PyData.strOk at *
 show ((a.cps ++ b.cps).all _) = true
 rw [Array.all_append,ha,hb]
 rfl
def rCatL (K:PySem.W.Frag):R2:=fun x y H Q => ∃ l b xs zs,x = .ref l ∧ y = .ref b ∧ SqL K H l xs ∧ SqL K H b zs ∧ xs.length + zs.length ≤ sizeLine ∧ ∀ p,H p = none → Q (.ref p) (upd H p (.lst (xs ++ zs)))
theorem op_catL:OpR X (binaryOp .Add) (rCatL X.K):=by
 intro pins s σ H x y v u Q I rx ry h
 obtain ⟨l,b,xs,zs,rfl,rfl,hH,hB,hz,q⟩:=h
 cases rx
 cases ry
 obtain ⟨its,r,pl,hs⟩:=I.list hH
 obtain ⟨its2,r2,pl2,hs2⟩:=I.list hB
 have hl:=r.length
 have hl2:=r2.length
 obtain ⟨⟨cls,dd,data,sl⟩,ho,hc,n,hd⟩:=id pl.isList
 obtain ⟨⟨cls2,dd2,data2,sl2⟩,ho2,hc2,n2,hd2⟩:=id pl2.isList
 simp only at hc hd hc2 hd2
 subst hc hd hc2 hd2
 have e:its.toArray ++ its2.toArray = (its ++ its2).toArray:=by simp
 refine PySem.concat_meets ⟨_,ho,rfl⟩ ⟨_,ho2,rfl⟩ PySem.noFill_list_add PySem.seq_list_add PySem.F.slot_list_add PySem.F.entry_list_add (PySem.F.args_list_add_2 _ _) (list_addW l b its.toArray its2.toArray n n2 dd dd2 sl sl2 (by simp; omega)) ⟨ho,ho2,?_⟩
 rw [e]
 exact ⟨.ref _,_,I.lnew (t':=s.toks) (r.append r2) (by rw [List.length_append]; omega),rfl,q _ I.fresh⟩
def rCatE (K:PySem.W.Frag):R2:=fun x y H Q => ∃ a b ys,x = .ref a ∧ y = .ref b ∧ SqT K H a [] ∧ SqT K H b ys ∧ Q (.ref b) H
theorem op_catE:OpR X (binaryOp .Add) (rCatE X.K):=by
 intro pins s σ H x y v u Q I rx ry h
 obtain ⟨a,b,ys,rfl,rfl,ha,hb,q⟩:=h
 cases rx
 cases ry
 obtain ⟨its,r1,p1,_⟩:=I.tuple ha
 obtain ⟨its2,r2,p2,_⟩:=I.tuple hb
 cases r1
 obtain ⟨⟨c1,d1,t1,l1⟩,g1,k1,n1,j1⟩:=id p1
 obtain ⟨⟨c2,d2,t2,l2⟩,g2,k2,n2,j2⟩:=id p2
 simp only at k1 j1 k2 j2
 subst k1 j1 k2 j2
 exact PySem.concat_meets ⟨_,g1,rfl⟩ ⟨_,g2,rfl⟩ PySem.noFill_tuple_add PySem.seq_tuple_add PySem.F.slot_tuple_add PySem.F.entry_tuple_add (PySem.F.args_tuple_add_2 _ _) (tuple_addW0 a b #[] its2.toArray n1 n2 d1 d2 l1 l2 (by simp)) ⟨g1,g2,⟨.ref b,H,I,rfl,q⟩⟩
def oAdd:Op2
 | .int i,.int j,st => .ok (.int (i + j)) st
 | .str i,.str j,st => if i.length + j.length ≤ lim then .ok (.str (i ++ j)) st else .bad
 | .tup i,.tup j,st => if i.length + j.length ≤ lim then .ok (.tup (i ++ j)) st else .bad
 | .ref l,.ref k,st => match lstOf st l,lstOf st k with
  | some i,some j => if i.length + j.length ≤ lim then .ok (.ref st.length) (st ++ [.lst (i ++ j)]) else .bad
  | _,_ => .bad
 | _,_,_ => .bad
instance {α:Type} {xs:List α}:Decidable (xs ≠ []):=match xs with
 | [] => isFalse (fun h => h rfl)
 | _ :: _ => isTrue (fun h => by cases h)
theorem ow_add:OpW X (binaryOp .Add) oAdd:=⟨_,OpR.or op_add (OpR.or op_add_str (OpR.or op_catT (OpR.or op_catL op_catE))),fun x y a b st H m Q S rx ry p => by
 cases x with
 | int i =>
  cases y with
  | int j => exact .inl ⟨i,j,relInt rx,relInt ry,p _ m H Ext.refl S mkInt⟩
  | _ => exact False.elim p
 | str i =>
  cases y with
  | str j =>
   dsimp only [oAdd] at p
   by_cases c:i.length + j.length ≤ lim
   ·rw [if_pos c] at p
    exact .inr (.inl ⟨i,j,(relStr rx).1,(relStr ry).1,lim_le c,p _ m H Ext.refl S (mkStr (strOk_append (relStr rx).2 (relStr ry).2))⟩)
   ·rw [if_neg c] at p; exact False.elim p
  | _ => exact False.elim p
 | tup i =>
  cases y with
  | tup j =>
   dsimp only [oAdd] at p
   by_cases c:i.length + j.length ≤ lim
   ·rw [if_pos c] at p
    by_cases c0:i = []
    ·subst c0
     unfold RelW at rx ry
     obtain ⟨a1,xs,rfl,h1,h2⟩:=rx
     obtain ⟨a2,ys,rfl,h3,h4⟩:=ry
     have l1:xs = []:=List.eq_nil_of_length_eq_zero h2.length.symm
     subst l1
     exact .inr (.inr (.inr (.inr ⟨a1,a2,ys,rfl,rfl,SqT.of h1,SqT.of h3,p (.ref a2) m H Ext.refl S (by rw [List.nil_append]; unfold RelW; exact ⟨a2,ys,rfl,h3,h4⟩)⟩)))
    unfold RelW at rx ry
    obtain ⟨a1,xs,rfl,h1,h2⟩:=rx
    obtain ⟨a2,ys,rfl,h3,h4⟩:=ry
    have l1:=h2.length
    have l2:=h4.length
    have n1:xs ≠ []:=fun z => by rw [z] at l1; exact c0 (List.eq_nil_of_length_eq_zero l1)
    refine .inr (.inr (.inl ⟨a1,a2,xs,ys,rfl,rfl,SqT.of h1,SqT.of h3,n1,by rw [← l1,← l2]; exact lim_le c,fun z => ?_,fun _ q hq => ?_⟩))
    ·rw [z] at l2
     rw [List.eq_nil_of_length_eq_zero l2,List.append_nil] at p
     exact p (.ref a1) m H Ext.refl S (by unfold RelW; exact ⟨a1,xs,rfl,h1,h2⟩)
    have e2:Ext X.K m H m (upd H q (.tup (xs ++ ys))):=Ext.upd (.inl hq)
    exact p (.ref q) m _ e2 (S.fresh hq) (by unfold RelW; exact ⟨q,xs ++ ys,rfl,upd_same,RelWs.mono e2 _ _ (h2.append h4)⟩)
   ·rw [if_neg c] at p; exact False.elim p
  | _ => exact False.elim p
 | ref l =>
  cases y with
  | ref k =>
   dsimp only [oAdd] at p
   unfold RelW at rx ry
   obtain ⟨a1,rfl,h1⟩:=rx
   obtain ⟨a2,rfl,h2⟩:=ry
   cases e1:lstOf st l with
   | none => rw [e1] at p; exact False.elim p
   | some i =>
    cases e2:lstOf st k with
    | none => rw [e1,e2] at p; exact False.elim p
    | some j =>
     rw [e1,e2] at p
     by_cases c:i.length + j.length ≤ lim
     ·simp only [if_pos c] at p
      obtain ⟨xs,q1,q2⟩:=S.read h1 e1
      obtain ⟨ys,q3,q4⟩:=S.read h2 e2
      exact .inr (.inr (.inr (.inl ⟨a1,a2,xs,ys,rfl,rfl,q1,q3,by rw [← q2.length,← q4.length]; exact lim_le c,fun q hq => new_list p Ext.refl S (q2.append q4) q hq⟩)))
     ·simp only [if_neg c] at p; exact False.elim p
  | _ => exact False.elim p
 | _ => cases y <;> exact False.elim p⟩
def repS (n:Nat) (x:PySem.Str):PySem.Str:=⟨(List.replicate n x.cps).foldl (· ++ ·) #[]⟩
end
end J
namespace J
open PySem PySem.Spec PySem.SeqAt PyProof.Rows L2
def mapO {α β:Type} (f:α → Option β):List α → Option (List β)
 | [] => some []
 | w :: ws => match f w,mapO f ws with
  | some d,some ds => some (d :: ds)
  | _,_ => none
def datum (st:Hs):Nat → Wv → Option PyData
 | 0,w => match w with
  | .non => some .none
  | .bl b => some (.bool b)
  | .int i => some (.int i)
  | .str x => some (.str x)
  | _ => none
 | n + 1,w => match w with
  | .non => some .none
  | .bl b => some (.bool b)
  | .int i => some (.int i)
  | .str x => some (.str x)
  | .tup ws => (mapO (datum st n) ws).map .tuple
  | .ktp ws => (mapO (datum st n) ws).map .tuple
  | .ref l => match lstOf st l with
   | some ws => (mapO (datum st n) ws).map .list
   | none => none
  | .ty _ => none
  | .cls _ => none
  | .exn _ => none
  | .fn _ _ => none
section
variable {X:Cx} {pins:List (Addr × Obj)} {σ:St} {H:Hp} {s:Shared} {m:Mp} {st:Hs}
def DatOk (h:Heap) (n:Nat) (u:Value) (d:PyData):Prop:=∃ as,Reads h u d as ∧ d.canLay0 = true ∧ d.depth ≤ n
theorem datums_ok {n:Nat} (ih:∀ (w:Wv) (a:V) (u:Value) (d:PyData),RelW X.K m H w a → RelV a u → datum st n w = some d → DatOk s.heap n u d) :
  ∀ (ws:List Wv) (xs:List V) (us:List Value) (ds:List PyData),RelWs X.K m H ws xs → Vals xs us → mapO (datum st n) ws = some ds → ∃ as,ReadsAll s.heap us ds as ∧ PyData.canLayAll0 ds = true ∧ PyData.depthAll ds ≤ n
 | [],xs,us,ds,h,r,e => by
  unfold RelWs at h
  subst h
  cases r
  cases e
  exact ⟨[],.nil,rfl,Nat.zero_le _⟩
 | w :: ws,xs,us,ds,h,r,e => by
  unfold RelWs at h
  obtain ⟨x,xr,rfl,h1,h2⟩:=h
  cases r with
  | cons r1 r2 =>
   unfold mapO at e
   cases e1:datum st n w with
   | none => rw [e1] at e; cases e
   | some d =>
    cases e2:mapO (datum st n) ws with
    | none => rw [e1,e2] at e; cases e
    | some dr =>
     rw [e1,e2] at e
     cases e
     obtain ⟨as,q1,q2,q3⟩:=ih w x _ d h1 r1 e1
     obtain ⟨bs,p1,p2,p3⟩:=datums_ok ih ws xr _ dr h2 r2 e2
     refine ⟨as ++ bs,.cons q1 p1,?_,?_⟩
     ·show (PyData.canLay0 d && PyData.canLayAll0 dr) = true
      rw [q2,p2]; rfl
     ·show max d.depth (PyData.depthAll dr) ≤ n
      omega
theorem datum_ok (I:Inv X pins σ H s) (S:Sim X.K m st H):∀ (n:Nat) (w:Wv) (a:V) (u:Value) (d:PyData),RelW X.K m H w a → RelV a u → datum st n w = some d → DatOk s.heap n u d:=by
 intro n
 induction n with
 | zero =>
  intro w a u d h r e
  cases w with
  | non => unfold RelW at h; subst h; cases r; cases e; exact ⟨[],.none,rfl,Nat.le_refl _⟩
  | bl b => unfold RelW at h; subst h; cases r; cases e; exact ⟨[],.bool b,rfl,Nat.le_refl _⟩
  | int i => unfold RelW at h; subst h; obtain ⟨t,rfl⟩:=r; cases e; exact ⟨[],.int i t,rfl,Nat.le_refl _⟩
  | str x => unfold RelW at h; obtain ⟨rfl,hx⟩:=h; obtain ⟨t,rfl⟩:=r; cases e; exact ⟨[],.str x t,hx,Nat.le_refl _⟩
  | tup ws => cases e
  | ktp ws => cases e
  | ref l => cases e
  | ty t => cases e
  | cls t => cases e
  | exn t => cases e
  | fn fp t => cases e
 | succ n ih =>
  intro w a u d h r e
  cases w with
  | non => unfold RelW at h; subst h; cases r; cases e; exact ⟨[],.none,rfl,Nat.zero_le _⟩
  | bl b => unfold RelW at h; subst h; cases r; cases e; exact ⟨[],.bool b,rfl,Nat.zero_le _⟩
  | int i => unfold RelW at h; subst h; obtain ⟨t,rfl⟩:=r; cases e; exact ⟨[],.int i t,rfl,Nat.zero_le _⟩
  | str x => unfold RelW at h; obtain ⟨rfl,hx⟩:=h; obtain ⟨t,rfl⟩:=r; cases e; exact ⟨[],.str x t,hx,Nat.zero_le _⟩
  | ty t => cases e
  | cls t => cases e
  | exn t => cases e
  | fn fp t => cases e
  | tup ws =>
   unfold RelW at h
   obtain ⟨p,xs,rfl,h1,h2⟩:=h
   cases r
   have e':(mapO (datum st n) ws).map PyData.tuple = some d:=e
   cases e2:mapO (datum st n) ws with
   | none => rw [e2] at e'; cases e'
   | some ds =>
    rw [e2] at e'
    cases e'
    obtain ⟨its,rv,ht,hz⟩:=I.tuple (SqT.of h1)
    obtain ⟨as,q1,q2,q3⟩:=datums_ok ih ws xs its ds h2 rv e2
    obtain ⟨o,ho,hc,k,hd⟩:=ht
    exact ⟨as,.tuple ho hc hd (by simpa using q1),q2,Nat.succ_le_succ q3⟩
  | ktp ws =>
   unfold RelW at h
   obtain ⟨p,xs,rfl,h1,h2⟩:=h
   cases r
   have e':(mapO (datum st n) ws).map PyData.tuple = some d:=e
   cases e2:mapO (datum st n) ws with
   | none => rw [e2] at e'; cases e'
   | some ds =>
    rw [e2] at e'
    cases e'
    obtain ⟨its,rv,ht,hz⟩:=I.tuple (.inr h1)
    obtain ⟨as,q1,q2,q3⟩:=datums_ok ih ws xs its ds h2 rv e2
    obtain ⟨o,ho,hc,k,hd⟩:=ht
    exact ⟨as,.tuple ho hc hd (by simpa using q1),q2,Nat.succ_le_succ q3⟩
  | ref l =>
   unfold RelW at h
   obtain ⟨p,rfl,h1⟩:=h
   cases r
   have e':(match lstOf st l with | some ws => (mapO (datum st n) ws).map PyData.list | none => none) = some d:=e
   cases e1:lstOf st l with
   | none => rw [e1] at e'; cases e'
   | some ws =>
    rw [e1] at e'
    have e'':(mapO (datum st n) ws).map PyData.list = some d:=e'
    cases e2:mapO (datum st n) ws with
    | none => rw [e2] at e''; cases e''
    | some ds =>
     rw [e2] at e''
     cases e''
     obtain ⟨xs,hq,h2⟩:=S.read h1 e1
     obtain ⟨its,rv,ht,hz⟩:=I.list hq
     obtain ⟨as,q1,q2,q3⟩:=datums_ok ih ws xs its ds h2 rv e2
     obtain ⟨o,ho,hc,k,hd⟩:=ht.isList
     exact ⟨_,.list ho hc hd (by simpa using q1),q2,Nat.succ_le_succ q3⟩
end
def oEq:Op2:=fun x y st => match datum st 20 x,datum st 20 y with
 | some a,some b => .ok (.bl (PyData.eqv a b)) st
 | _,_ => .bad
def oNe:Op2:=fun x y st => match datum st 20 x,datum st 20 y with
 | some a,some b => .ok (.bl (!PyData.eqv a b)) st
 | _,_ => .bad
section
variable {X:Cx}
def rDat (K:PySem.W.Frag) (neg:Bool):R2:=fun a b H Q => ∃ m st x y da db,Sim K m st H ∧ RelW K m H x a ∧ RelW K m H y b ∧ datum st 20 x = some da ∧ datum st 20 y = some db ∧ Q (.bl (if neg then !PyData.eqv da db else PyData.eqv da db)) H
theorem shaped_of {n:Nat} {d:PyData} (hn:n ≤ 64) (h:d.canLay0 = true) (k:d.depth ≤ n):shaped d = true:=by
 unfold shaped
 rw [h,decide_eq_true (Nat.le_trans k hn)]
 rfl
theorem op_eqD (hu:X.A.units + 64 < cLine):OpR X (compareOp .Eq) (rDat X.K false):=by
 intro pins s σ H a b v u Q I rx ry h
 obtain ⟨m,st,x,y,da,db,S,h1,h2,e1,e2,q⟩:=h
 obtain ⟨as,q1,q2,q3⟩:=datum_ok I S 20 x a v da h1 rx e1
 obtain ⟨bs,p1,p2,p3⟩:=datum_ok I S 20 y b u db h2 ry e2
 exact eq_dataH q1 p1 (shaped_of (by decide) q2 q3) (shaped_of (by decide) p2 p3) hu ⟨.bl _,H,I,rfl,q⟩
theorem op_neD (hu:X.A.units + 64 < cLine):OpR X (compareOp .NotEq) (rDat X.K true):=by
 intro pins s σ H a b v u Q I rx ry h
 obtain ⟨m,st,x,y,da,db,S,h1,h2,e1,e2,q⟩:=h
 obtain ⟨as,q1,q2,q3⟩:=datum_ok I S 20 x a v da h1 rx e1
 obtain ⟨bs,p1,p2,p3⟩:=datum_ok I S 20 y b u db h2 ry e2
 exact ne_dataH q1 p1 (shaped_of (by decide) q2 q3) (shaped_of (by decide) p2 p3) hu ⟨.bl _,H,I,rfl,q⟩
theorem ow_eq (hu:X.A.units + 64 < cLine):OpW X (compareOp .Eq) oEq:=⟨_,op_eqD hu,fun x y a b st H m Q S rx ry p => by
 unfold oEq at p
 cases e1:datum st 20 x with
 | none => rw [e1] at p; exact False.elim p
 | some da =>
  cases e2:datum st 20 y with
  | none => rw [e1,e2] at p; exact False.elim p
  | some db =>
   rw [e1,e2] at p
   exact ⟨m,st,x,y,da,db,S,rx,ry,e1,e2,p _ m H Ext.refl S mkBl⟩⟩
theorem ow_ne (hu:X.A.units + 64 < cLine):OpW X (compareOp .NotEq) oNe:=⟨_,op_neD hu,fun x y a b st H m Q S rx ry p => by
 unfold oNe at p
 cases e1:datum st 20 x with
 | none => rw [e1] at p; exact False.elim p
 | some da =>
  cases e2:datum st 20 y with
  | none => rw [e1,e2] at p; exact False.elim p
  | some db =>
   rw [e1,e2] at p
   exact ⟨m,st,x,y,da,db,S,rx,ry,e1,e2,p _ m H Ext.refl S mkBl⟩⟩
def flatW:Wv → Bool
 | .non => true
 | .bl _ => true
 | .int _ => true
 | .str _ => true
 | _ => false
def eqF:Wv → Wv → Bool
 | .non,.non => true
 | .bl a,.bl b => a == b
 | .bl a,.int b => (if a then 1 else 0) == b
 | .int a,.bl b => a == (if b then 1 else 0)
 | .int a,.int b => a == b
 | .str a,.str b => a == b
 | _,_ => false
def seqOf (st:Hs):Wv → Option (List Wv)
 | .tup ws => some ws
 | .ktp ws => some ws
 | .ref l => lstOf st l
 | _ => none
def oIn:Op2:=fun x y st => match seqOf st y with
 | some ws => if flatW x = true ∧ ws.all flatW = true then .ok (.bl (ws.any fun z => eqF z x)) st else .bad
 | none => .bad
def oNotIn:Op2:=fun x y st => match seqOf st y with
 | some ws => if flatW x = true ∧ ws.all flatW = true then .ok (.bl (!(ws.any fun z => eqF z x))) st else .bad
 | none => .bad
theorem flat_rel {m:Mp} {H:Hp} {x:Wv} {a:V} (h:RelW X.K m H x a) (f:flatW x = true):flatV a = true:=by
 cases x with
 | non => unfold RelW at h; subst h; rfl
 | bl b => unfold RelW at h; subst h; rfl
 | int b => unfold RelW at h; subst h; rfl
 | str b => unfold RelW at h; obtain ⟨h,_⟩:=h; subst h; rfl
 | _ => cases f
theorem eqF_rel {m:Mp} {H:Hp} {x y:Wv} {a b:V} (h:RelW X.K m H x a) (k:RelW X.K m H y b) (f:flatW x = true) (g:flatW y = true):eqV a b = eqF x y:=by
 cases x with
 | non =>
  unfold RelW at h; subst h
  cases y with
  | str j => unfold RelW at k; obtain ⟨k,_⟩:=k; subst k; rfl
  | tup j => cases g
  | ktp j => cases g
  | ref j => cases g
  | ty j => cases g
  | cls j => cases g
  | exn j => cases g
  | fn fp j => cases g
  | _ => unfold RelW at k; subst k; rfl
 | bl i =>
  unfold RelW at h; subst h
  cases y with
  | str j => unfold RelW at k; obtain ⟨k,_⟩:=k; subst k; rfl
  | tup j => cases g
  | ktp j => cases g
  | ref j => cases g
  | ty j => cases g
  | cls j => cases g
  | exn j => cases g
  | fn fp j => cases g
  | _ => unfold RelW at k; subst k; rfl
 | int i =>
  unfold RelW at h; subst h
  cases y with
  | str j => unfold RelW at k; obtain ⟨k,_⟩:=k; subst k; rfl
  | tup j => cases g
  | ktp j => cases g
  | ref j => cases g
  | ty j => cases g
  | cls j => cases g
  | exn j => cases g
  | fn fp j => cases g
  | _ => unfold RelW at k; subst k; rfl
 | str i =>
  unfold RelW at h; obtain ⟨h,_⟩:=h; subst h
  cases y with
  | str j => unfold RelW at k; obtain ⟨k,_⟩:=k; subst k; rfl
  | tup j => cases g
  | ktp j => cases g
  | ref j => cases g
  | ty j => cases g
  | cls j => cases g
  | exn j => cases g
  | fn fp j => cases g
  | _ => unfold RelW at k; subst k; rfl
 | _ => cases f
theorem flats_rel {m:Mp} {H:Hp} {x:Wv} {a:V} (h:RelW X.K m H x a) (f:flatW x = true):∀ {ws:List Wv} {xs:List V},RelWs X.K m H ws xs → ws.all flatW = true → xs.all flatV = true ∧ inV a xs = ws.any fun z => eqF z x
 | [],xs,r,_ => by unfold RelWs at r; subst r; exact ⟨rfl,rfl⟩
 | w :: ws,xs,r,g => by
  unfold RelWs at r
  obtain ⟨y,yr,rfl,r1,r2⟩:=r
  rw [List.all_cons,Bool.and_eq_true] at g
  obtain ⟨q1,q2⟩:=flats_rel h f r2 g.2
  constructor
  ·rw [List.all_cons,flat_rel r1 g.1,q1]; rfl
  ·unfold inV at q2 ⊢
   rw [List.any_cons,List.any_cons,eqF_rel r1 h g.1 f,q2]
theorem seq_rel {m:Mp} {H:Hp} {st:Hs} {y:Wv} {b:V} {ws:List Wv} (S:Sim X.K m st H) (h:RelW X.K m H y b) (e:seqOf st y = some ws):∃ p xs,b = .ref p ∧ (SqL X.K H p xs ∨ SqT X.K H p xs) ∧ RelWs X.K m H ws xs:=by
 cases y with
 | tup zs =>
  cases e
  unfold RelW at h
  obtain ⟨p,xs,e1,e2,e3⟩:=h
  exact ⟨p,xs,e1,.inr (SqT.of e2),e3⟩
 | ktp zs =>
  cases e
  unfold RelW at h
  obtain ⟨p,xs,e1,e2,e3⟩:=h
  exact ⟨p,xs,e1,.inr (.inr e2),e3⟩
 | ref l =>
  unfold RelW at h
  obtain ⟨p,e1,e2⟩:=h
  obtain ⟨xs,q1,q2⟩:=S.read e2 e
  exact ⟨p,xs,e1,.inl q1,q2⟩
 | _ => cases e
theorem ow_in:OpW X (compareOp .In) oIn:=⟨_,op_in_seq,fun x y a b st H m Q S rx ry p => by
 unfold oIn at p
 cases e:seqOf st y with
 | none => rw [e] at p; exact False.elim p
 | some ws =>
  rw [e] at p
  by_cases c:flatW x = true ∧ ws.all flatW = true
  ·simp only [if_pos c] at p
   obtain ⟨q,xs,e1,e2,e3⟩:=seq_rel S ry e
   obtain ⟨f1,f2⟩:=flats_rel rx c.1 e3 c.2
   refine ⟨q,xs,e1,e2,flat_rel rx c.1,f1,?_⟩
   rw [f2]
   exact p _ m H Ext.refl S mkBl
  ·simp only [if_neg c] at p; exact False.elim p⟩
theorem ow_notIn:OpW X (compareOp .NotIn) oNotIn:=⟨_,op_notIn_seq,fun x y a b st H m Q S rx ry p => by
 unfold oNotIn at p
 cases e:seqOf st y with
 | none => rw [e] at p; exact False.elim p
 | some ws =>
  rw [e] at p
  by_cases c:flatW x = true ∧ ws.all flatW = true
  ·simp only [if_pos c] at p
   obtain ⟨q,xs,e1,e2,e3⟩:=seq_rel S ry e
   obtain ⟨f1,f2⟩:=flats_rel rx c.1 e3 c.2
   refine ⟨q,xs,e1,e2,flat_rel rx c.1,f1,?_⟩
   rw [f2]
   exact p _ m H Ext.refl S mkBl
  ·simp only [if_neg c] at p; exact False.elim p⟩
def oIx:Op2
 | .str z,.int i,st => if z.length ≤ lim then (match atI z.cps.toList i with | some c => .ok (.str ⟨#[c]⟩) st | none => .bad) else .bad
 | x,.int i,st => match seqOf st x with
  | some ws => (match atI ws i with | some w => .ok w st | none => .bad)
  | none => .bad
 | _,_,_ => .bad
theorem atI_rel {m:Mp} {H:Hp} {ws:List Wv} {xs:List V} {i:Int} {w:Wv} (r:RelWs X.K m H ws xs) (h:atI ws i = some w):∃ x,atI xs i = some x ∧ RelW X.K m H w x:=by
 unfold atI at h ⊢
 rw [← r.length]
 cases e:ixN ws.length i with
 | none => rw [e] at h; cases h
 | some j => rw [e] at h; exact r.get h
theorem atI_mem {α:Type} {xs:List α} {i:Int} {v:α} (h:atI xs i = some v):v ∈ xs:=by
 obtain ⟨j,_,h2,_⟩:=atI_get h
 exact List.mem_of_getElem? h2
theorem strOk_one {z:PySem.Str} {c:Nat} (h:PyData.strOk z = true) (hc:c ∈ z.cps.toList):PyData.strOk ⟨#[c]⟩ = true:=by
 unfold PyData.strOk at h ⊢
 rw [Array.all_eq_true_iff_forall_mem] at h
 have q:=h c (by simpa using hc)
 simpa using q
theorem je_ix {a b:Expr} {ga gb:GE} {pos:Pos} (ha:JE X a ga) (hb:JE X b gb) (hs:PlainIx b:=by exact fun _ _ => rfl):JE X (.Subscript a b pos) (gBin oIx ga gb) :=
 JE.of (pe_ix ix_seq pe_SE pe_SE hs) fun ρ st σ H m Q S R p => read2 (op:=oIx) (fun x y a b st H m Q S rx ry p => by
  have seqs:∀ (i:Int),y = .int i → (match seqOf st x with | some ws => (match atI ws i with | some w => Re.ok w st | none => .bad) | none => .bad) = oIx x y st → rIx X.K a b H Q:=fun i hy hp => by
   subst hy
   rw [← hp] at p
   cases e:seqOf st x with
   | none => rw [e] at p; exact False.elim p
   | some ws =>
    rw [e] at p
    dsimp only at p
    cases e1:atI ws i with
    | none => rw [e1] at p; exact False.elim p
    | some w =>
     rw [e1] at p
     obtain ⟨q,xs,e2,e3,e4⟩:=seq_rel S rx e
     obtain ⟨v,f1,f2⟩:=atI_rel e4 e1
     rcases e3 with e3 | e3
     ·exact .inl ⟨q,xs,i,v,e2,relInt ry,e3,f1,p v m H Ext.refl S f2⟩
     ·exact .inr (.inl ⟨q,xs,i,v,e2,relInt ry,e3,f1,p v m H Ext.refl S f2⟩)
  cases y with
  | int i =>
   cases x with
   | str z =>
    dsimp only [oIx] at p
    by_cases c:z.length ≤ lim
    ·simp only [if_pos c] at p
     cases e1:atI z.cps.toList i with
     | none => rw [e1] at p; exact False.elim p
     | some ch =>
      rw [e1] at p
      exact .inr (.inr ⟨z,i,ch,(relStr rx).1,relInt ry,lim_le c,e1,p _ m H Ext.refl S (mkStr (strOk_one (relStr rx).2 (atI_mem e1)))⟩)
    ·simp only [if_neg c] at p; exact False.elim p
   | _ => exact seqs i rfl rfl
  | _ => cases x <;> exact False.elim p) ha hb S R p
abbrev GO:=Rho → Hs → Re (Option Int)
def SO (X:Cx) (e:Option Expr):TO:=fun σ H Q => ∀ (pins:List (Addr × Obj)) (s:Shared),Inv X pins σ H s → wpAny (model X.prog X.w) X.A (evalPart e X.env) (fun u s' => ∃ o H',Inv X pins σ H' s' ∧ IsPart u o ∧ Q o H') X.xe s
theorem po_SO {e:Option Expr}:PO X e (SO X e):=fun pins s _ _ _ I h => h pins s I
def okO (K:PySem.W.Frag) (m:Mp) (H:Hp) (Q:Option Int → Hp → Prop) (o:Option Int) (st:Hs):Prop:=∀ (m':Mp) (H':Hp),Ext K m H m' H' → Sim K m' st H' → Q o H'
def JO (X:Cx) (e:Option Expr) (g:GO):Prop:=∀ (ρ:Rho) (st:Hs) (σ:St) (H:Hp) (m:Mp) (Q:Option Int → Hp → Prop),Sim X.K m st H → RelEnv X.K m H ρ σ → PostG X σ m H (g ρ st) (okO X.K m H Q) → SO X e σ H Q
def gNoPart:GO:=fun _ st => .ok none st
def gPart (g:GE):GO:=fun ρ st => (g ρ st).bind fun w st1 => match w with
 | .int i => .ok (some i) st1
 | _ => .bad
theorem jo_none:JO X none gNoPart:=fun ρ st σ H m Q S R p pins s I => po_none pins s σ H Q I (p m H Ext.refl S)
theorem jo_some {e:Expr} {g:GE} (h:JE X e g):JO X (some e) (gPart g):=fun ρ st σ H m Q S R p pins s I =>
 po_some pe_SE pins s σ H Q I (h.go S R (PostG.bind p) fun w st1 v m1 H1 p1 e1 S1 r1 => by
  cases w with
  | int i => exact ⟨i,relInt r1,p1 m1 H1 e1 S1⟩
  | _ => exact False.elim p1)
theorem JO.go {e:Option Expr} {g:GO} {ρ:Rho} {st:Hs} {σ:St} {H:Hp} {m:Mp} {T:Option Int → Hp → Prop} {ok:Option Int → Hs → Prop} (h:JO X e g) (S:Sim X.K m st H) (R:RelEnv X.K m H ρ σ) (p:PostG X σ m H (g ρ st) ok)
  (k:∀ (b:Option Int) (st1:Hs) (m1:Mp) (H1:Hp),ok b st1 → Ext X.K m H m1 H1 → Sim X.K m1 st1 H1 → T b H1):SO X e σ H T :=
 h ρ st σ H m T S R (p.imp Ext.refl fun b st1 q m1 H1 e1 s1 => k b st1 m1 H1 q e1 s1)
def cutW (xs:List Wv) (lo hi:Option Int):List Wv:=(xs.drop (HT.sIx xs.length 0 lo)).take (HT.sIx xs.length xs.length hi - HT.sIx xs.length 0 lo)
def oSl (x:Wv) (lo hi:Option Int) (st:Hs):Re Wv:=match x with
 | .tup ws => if HT.sIx ws.length 0 lo = 0 ∧ HT.sIx ws.length ws.length hi = ws.length then .bad else .ok (.tup (cutW ws lo hi)) st
 | .ref l => match lstOf st l with
  | some ws => .ok (.ref st.length) (st ++ [.lst (cutW ws lo hi)])
  | none => .bad
 | _ => .bad
theorem cut_rel {m:Mp} {H:Hp} {ws:List Wv} {xs:List V} {lo hi:Option Int} (r:RelWs X.K m H ws xs):RelWs X.K m H (cutW ws lo hi) (cutV xs lo hi):=by
 unfold cutW cutV
 rw [← r.length]
 exact (r.drop _).take _
def gSlice (ga:GE) (gl gh:GO):GE:=fun ρ st => (ga ρ st).bind fun x st1 => (gl ρ st1).bind fun lo st2 => (gh ρ st2).bind fun hi st3 => oSl x lo hi st3
theorem je_slice {a:Expr} {lo hi:Option Expr} {ga:GE} {gl gh:GO} {pos p2:Pos} (ha:JE X a ga) (hl:JO X lo gl) (hh:JO X hi gh):JE X (.Subscript a (.Slice lo hi none p2) pos) (gSlice ga gl gh):=by
 refine JE.of (pe_slice (sl_tup.or sl_list) pe_SE po_SO po_SO) fun ρ st σ H m Q S R p => ?_
 refine ha.go S R (PostG.bind p) fun x st1 v m1 H1 p1 e1 S1 rx => ?_
 refine hl.go S1 (R.mono e1) ((PostG.bind p1).imp e1 fun _ _ q => q) fun l st2 m2 H2 p2 e2 S2 => ?_
 refine hh.go S2 (R.mono (e1.trans e2)) ((PostG.bind p2).imp (e1.trans e2) fun _ _ q => q) fun h st3 m3 H3 p3 e3 S3 => ?_
 have e13:=e1.trans (e2.trans e3)
 have rx3:=RelW.mono (e2.trans e3) _ _ rx
 cases x with
 | tup ws =>
  have p3':PostE X σ m H (if HT.sIx ws.length 0 l = 0 ∧ HT.sIx ws.length ws.length h = ws.length then .bad else .ok (.tup (cutW ws l h)) st3) Q:=p3
  by_cases c:HT.sIx ws.length 0 l = 0 ∧ HT.sIx ws.length ws.length h = ws.length
  ·rw [if_pos c] at p3'; exact False.elim p3'
  ·rw [if_neg c] at p3'
   unfold RelW at rx3
   obtain ⟨q,xs,rfl,f1,f2⟩:=rx3
   refine .inl ⟨q,xs,rfl,SqT.of f1,by rw [← f2.length]; exact c,fun r hr => ?_⟩
   have e4:Ext X.K m3 H3 m3 (upd H3 r (.tup (cutV xs l h))):=Ext.upd (.inl hr)
   exact p3' (.ref r) m3 _ (e13.trans e4) (S3.fresh hr) (by unfold RelW; exact ⟨r,_,rfl,upd_same,RelWs.mono e4 _ _ (cut_rel f2)⟩)
 | ref k =>
  have p3':PostE X σ m H (match lstOf st3 k with | some ws => .ok (.ref st3.length) (st3 ++ [.lst (cutW ws l h)]) | none => .bad) Q:=p3
  unfold RelW at rx3
  obtain ⟨q,rfl,f1⟩:=rx3
  cases e:lstOf st3 k with
  | none => rw [e] at p3'; exact False.elim p3'
  | some ws =>
   rw [e] at p3'
   obtain ⟨xs,g1,g2⟩:=S3.read f1 e
   exact .inr ⟨q,xs,rfl,g1,fun r hr => new_list p3' e13 S3 (cut_rel g2) r hr⟩
 | _ => exact False.elim p3
end
end J
namespace J
open PySem PySem.Spec PyProof.Rows L2
section
variable {X:Cx}
def CallW (X:Cx) (f:Value) (op:List Wv → Hs → Re Wv):Prop:=∃ r,CallR X f r ∧ ∀ (ws:List Wv) (vs:List V) (st:Hs) (H:Hp) (m:Mp) (Q:VK),Sim X.K m st H → RelWs X.K m H ws vs → PostO X.K m H (op ws st) Q → r vs H Q
def gCallB (op:List Wv → Hs → Re Wv) (g:GA):GE:=fun ρ st => (g ρ st).bind fun ws st1 => (op ws st1).nox
theorem je_callB {x:Str} {id:String} {p pos:Pos} {e:Expr} {es:List Expr} {g:GA} {op:List Wv → Hs → Re Wv} (hc:CallW X (.builtin id) op) (hg:Gl X x) (hm:X.mg x = none) (hv:bootBuiltins x = some (.builtin id)) (ha:JA X (e :: es) g)
  (hn:x ≠ "__name__":=by decide) (hdb:(x == ("__debug__":Str)) = false:=by decide) (he:starEach (e :: es) X.env = (false,eval e X.env) :: starEach es X.env:=by rfl) (hpl:(backTo pos (starEach es X.env)).any (·.1) = false:=by rfl) :
  JE X (.Call (.Name x p) (e :: es) [] pos) (gCallB op g):=by
 obtain ⟨r,h1,h2⟩:=hc
 refine JE.of (pe_callB h1 hg hm hv pa_SA hn hdb he hpl) fun ρ st σ H m Q S R p => ?_
 exact ha.go S R (PostG.bind p) fun ws st1 vs m1 H1 p1 e1 S1 rs => h2 ws vs st1 H1 m1 Q S1 rs (PostO.shift (PostG.nox p1) e1)
theorem je_callTy {x:Str} {T:String} {p pos:Pos} {e:Expr} {es:List Expr} {g:GA} {op:List Wv → Hs → Re Wv} (hc:CallW X (.type T) op) (hg:Gl X x) (hm:X.mg x = none) (hv:bootBuiltins x = some (.type T)) (ha:JA X (e :: es) g)
  (hn:x ≠ "__name__":=by decide) (hdb:(x == ("__debug__":Str)) = false:=by decide) (he:starEach (e :: es) X.env = (false,eval e X.env) :: starEach es X.env:=by rfl) (hpl:(backTo pos (starEach es X.env)).any (·.1) = false:=by rfl) :
  JE X (.Call (.Name x p) (e :: es) [] pos) (gCallB op g):=by
 obtain ⟨r,h1,h2⟩:=hc
 refine JE.of (pe_callTy h1 hg hm hv pa_SA hn hdb he hpl) fun ρ st σ H m Q S R p => ?_
 exact ha.go S R (PostG.bind p) fun ws st1 vs m1 H1 p1 e1 S1 rs => h2 ws vs st1 H1 m1 Q S1 rs (PostO.shift (PostG.nox p1) e1)
theorem rel1 {m:Mp} {H:Hp} {w:Wv} {vs:List V} (r:RelWs X.K m H [w] vs):∃ v,vs = [v] ∧ RelW X.K m H w v:=by
 unfold RelWs at r
 obtain ⟨v,t,rfl,h1,h2⟩:=r
 unfold RelWs at h2
 subst h2
 exact ⟨v,rfl,h1⟩
theorem rel2 {m:Mp} {H:Hp} {w w':Wv} {vs:List V} (r:RelWs X.K m H [w,w'] vs):∃ v v',vs = [v,v'] ∧ RelW X.K m H w v ∧ RelW X.K m H w' v':=by
 unfold RelWs at r
 obtain ⟨v,t,rfl,h1,h2⟩:=r
 obtain ⟨v',rfl,h3⟩:=rel1 h2
 exact ⟨v,v',rfl,h1,h3⟩
def oLen:List Wv → Hs → Re Wv
 | [.str z],st => if z.length ≤ lim then .ok (.int z.length) st else .bad
 | [x],st => match seqOf st x with
  | some ws => .ok (.int ws.length) st
  | none => .bad
 | _,_ => .bad
theorem cw_len:CallW X (.builtin "len") oLen:=⟨_,call_len_seq.or call_len_str,fun ws vs st H m Q S r p => by
 match ws,r,p with
 | [],r,p => exact False.elim p
 | x :: y :: t,r,p => cases x <;> exact False.elim p
 | [x],r,p =>
  obtain ⟨v,rfl,rx⟩:=rel1 r
  have seqs:(match seqOf st x with | some ws => Re.ok (Wv.int ws.length) st | none => .bad) = oLen [x] st → (∃ p ys,[v] = [V.ref p] ∧ (SqL X.K H p ys ∨ SqT X.K H p ys) ∧ Q (.int ys.length) H):=fun hp => by
   rw [← hp] at p
   cases e:seqOf st x with
   | none => rw [e] at p; exact False.elim p
   | some ws =>
    rw [e] at p
    obtain ⟨q,xs,rfl,e2,e3⟩:=seq_rel S rx e
    refine ⟨q,xs,rfl,e2,?_⟩
    rw [← e3.length]
    exact p _ m H Ext.refl S mkInt
  cases x with
  | str z =>
   have p':PostO X.K m H (if z.length ≤ lim then .ok (.int z.length) st else .bad) Q:=p
   by_cases c:z.length ≤ lim
   ·rw [if_pos c] at p'
    obtain ⟨rfl,_⟩:=relStr rx
    exact .inr ⟨z,rfl,lim_le c,p' _ m H Ext.refl S mkInt⟩
   ·rw [if_neg c] at p'; exact False.elim p'
  | _ => exact .inl (seqs rfl)⟩
def oAbs:List Wv → Hs → Re Wv
 | [.int i],st => .ok (.int (if i < 0 then -i else i)) st
 | _,_ => .bad
theorem cw_abs:CallW X (.builtin "abs") oAbs:=⟨_,call_abs,fun ws vs st H m Q S r p => by
 match ws,r,p with
 | [],r,p => exact False.elim p
 | x :: y :: t,r,p => cases x <;> exact False.elim p
 | [x],r,p =>
  obtain ⟨v,rfl,rx⟩:=rel1 r
  cases x with
  | int i => cases relInt rx; exact ⟨i,rfl,p _ m H Ext.refl S mkInt⟩
  | _ => exact False.elim p⟩
def isW (st:Hs) (T:String):Wv → Option Bool
 | .non => some false
 | .bl _ => some (T == "bool" || T == "int")
 | .int _ => some (T == "int")
 | .str _ => some (T == "str")
 | .tup _ => some (T == "tuple")
 | .ktp _ => none
 | .ref l => (lstOf st l).map fun _ => T == "list"
 | .ty _ => none
 | .cls _ => none
 | .exn _ => none
 | .fn _ _ => none
def okTy (T:String):Bool:=T == "int" || T == "str" || T == "bool" || T == "tuple" || T == "list"
def oIsI:List Wv → Hs → Re Wv
 | [x,.ty T],st => if okTy T = true then (match isW st T x with | some b => .ok (.bl b) st | none => .bad) else .bad
 | _,_ => .bad
def rIsI (K:PySem.W.Frag):List V → Hp → VK → Prop:=fun vs H Q => ∃ m st x T v b,vs = [v,.ty T] ∧ Sim K m st H ∧ RelW K m H x v ∧ okTy T = true ∧ isW st T x = some b ∧ Q (.bl b) H
theorem call_isI:CallR X (.builtin "isinstance") (rIsI X.K):=by
 intro pins s σ H xs us Q I r h
 obtain ⟨m,st,x,T,v,b,rfl,S,rx,hT,hb,q⟩:=h
 obtain ⟨u,u',rfl,r1,r2⟩:=vals2 r
 cases r2
 have fin:∀ tk,EP X pins σ Q (.bool b) { s with toks:=tk }:=fun tk => ⟨.bl b,H,I.tok tk,rfl,q⟩
 have fin0:EP X pins σ Q (.bool b) s:=⟨.bl b,H,I,rfl,q⟩
 unfold okTy at hT
 simp only [Bool.or_eq_true,beq_iff_eq] at hT
 cases x with
 | non =>
  unfold RelW at rx; subst rx; cases r1
  cases hb
  rcases hT with (((rfl | rfl) | rfl) | rfl) | rfl <;>
   exact call_isinstance (isinstance_false_none (by decide) (by kernel_rfl) (by rw [isSubtype_type]; kernel_rfl)) (fin _)
 | bl c =>
  unfold RelW at rx; subst rx; cases r1
  rcases hT with (((rfl | rfl) | rfl) | rfl) | rfl <;> cases hb <;> first
   | exact call_isinstance_yes (Tx:="bool") rfl (by kernel_rfl) (by rw [isSubtype_type]; kernel_rfl) fin0
   | exact call_isinstance (isinstance_false_bool (by decide) (by kernel_rfl) (by rw [isSubtype_type]; kernel_rfl)) (fin _)
 | int c =>
  unfold RelW at rx; subst rx; obtain ⟨t,rfl⟩:=r1
  rcases hT with (((rfl | rfl) | rfl) | rfl) | rfl <;> cases hb <;> first
   | exact call_isinstance_yes (Tx:="int") (typeIs_int s c t) (by kernel_rfl) (by rw [isSubtype_type]; kernel_rfl) fin0
   | exact call_isinstance (isinstance_false_int (by decide) (by kernel_rfl) (by rw [isSubtype_type]; kernel_rfl)) (fin _)
 | str c =>
  obtain ⟨rfl,_⟩:=relStr rx; obtain ⟨t,rfl⟩:=r1
  rcases hT with (((rfl | rfl) | rfl) | rfl) | rfl <;> cases hb <;> first
   | exact call_isinstance_yes (Tx:="str") (typeIs_str s c t) (by kernel_rfl) (by rw [isSubtype_type]; kernel_rfl) fin0
   | exact call_isinstance (isinstance_false_str (by decide) (by kernel_rfl) (by rw [isSubtype_type]; kernel_rfl)) (fin _)
 | ktp ws => cases hb
 | tup ws =>
  unfold RelW at rx; obtain ⟨a,xs,rfl,h1,h2⟩:=rx; cases r1
  obtain ⟨its,rv,ht,hz⟩:=I.tuple (SqT.of h1)
  have hty:=ht.typeIs
  obtain ⟨o,ho,hc,k,hd⟩:=ht
  rcases hT with (((rfl | rfl) | rfl) | rfl) | rfl <;> cases hb <;> first
   | exact call_isinstance_yes (Tx:="tuple") hty (by kernel_rfl) (by rw [isSubtype_type]; kernel_rfl) fin0
   | exact call_isinstance (isinstance_false_tuple (by decide) (by kernel_rfl) (by rw [isSubtype_type]; kernel_rfl)) ⟨⟨o,ho,hc⟩,fin _⟩
 | ref l =>
  unfold RelW at rx; obtain ⟨a,rfl,h1⟩:=rx; cases r1
  have hb':(lstOf st l).map (fun _ => T == "list") = some b:=hb
  cases e:lstOf st l with
  | none => rw [e] at hb'; cases hb'
  | some ws =>
   rw [e] at hb'
   obtain ⟨xs,hq,h2⟩:=S.read h1 e
   obtain ⟨its,rv,ht,hz⟩:=I.list hq
   have hty:=ht.isList.typeIs
   obtain ⟨o,ho,hc,k,hd⟩:=ht.isList
   rcases hT with (((rfl | rfl) | rfl) | rfl) | rfl <;> cases hb' <;> first
    | exact call_isinstance_yes (Tx:="list") hty (by kernel_rfl) (by rw [isSubtype_type]; kernel_rfl) fin0
    | exact call_isinstance (isinstance_false_list (by decide) (by kernel_rfl) (by rw [isSubtype_type]; kernel_rfl)) ⟨⟨o,ho,hc⟩,fin _⟩
 | ty t => cases hb
 | cls t => cases hb
 | exn t => cases hb
 | fn fp t => cases hb
theorem cw_isI:CallW X (.builtin "isinstance") oIsI:=⟨_,call_isI,fun ws vs st H m Q S r p => by
 match ws,r,p with
 | [],r,p => exact False.elim p
 | [x],r,p => cases x <;> exact False.elim p
 | x :: y :: z :: t,r,p => cases y <;> exact False.elim p
 | [x,y],r,p =>
  obtain ⟨v,v',rfl,rx,ry⟩:=rel2 r
  cases y with
  | ty T =>
   unfold RelW at ry
   subst ry
   have p':PostO X.K m H (if okTy T = true then (match isW st T x with | some b => .ok (.bl b) st | none => .bad) else .bad) Q:=p
   by_cases c:okTy T = true
   ·rw [if_pos c] at p'
    cases e:isW st T x with
    | none => rw [e] at p'; exact False.elim p'
    | some b => rw [e] at p'; exact ⟨m,st,x,T,v,b,rfl,S,rx,c,e,p' _ m H Ext.refl S mkBl⟩
   ·rw [if_neg c] at p'; exact False.elim p'
  | _ => exact False.elim p⟩
def gNext:GS:=fun ρ st => .nx ρ st
def gSeq (g h:GS):GS:=fun ρ st => match g ρ st with
 | .nx ρ' st' => h ρ' st'
 | r => r
theorem jss_nil:JSs X [] gNext:=JSs.of pss_nil fun ρ st σ H m D S R p => p σ m H Ext.refl S R
theorem jss_cons {s:Stmt} {rest:List Stmt} {g h:GS} (h1:JS X s g) (h2:JSs X rest h):JSs X (s :: rest) (gSeq g h) :=
 JSs.of (pss_cons ps_SS pss_SSs) fun ρ st σ H m D S R p => h1 ρ st σ H m _ S R (by
  unfold gSeq at p
  cases e:g ρ st with
  | nx ρ' st' => rw [e] at p; exact fun σ' m' H' e' S' R' => h2 ρ' st' σ' H' m' D S' R' (PostS.shift p e')
  | rt w st' => rw [e] at p; exact p
  | bk ρ' st' => rw [e] at p; exact p
  | ct ρ' st' => rw [e] at p; exact p
  | err c ρ' st' => rw [e] at p; exact p
  | bad => rw [e] at p; exact p)
theorem jss_one {s:Stmt} {g:GS} (h1:JS X s g):JSs X [s] g:=JSs.of (pss_one ps_SS) fun ρ st σ H m D S R p => h1 ρ st σ H m D S R p
def gRet (g:GE):GS:=fun ρ st => (g ρ st).thn ρ fun w st' => .rt w st'
theorem js_ret {e:Expr} {g:GE} {pos:Pos} (h:JE X e g):JS X (.Return (some e) pos) (gRet g) :=
 JS.of (ps_ret pe_SE) fun ρ st σ H m D S R p => h.go S R (PostS.of_thn R p) fun w st1 v m1 H1 q e1 S1 r1 => q v m1 H1 e1 S1 r1
theorem js_pass {pos:Pos}:JS X (.Pass pos) gNext:=JS.of ps_pass fun ρ st σ H m D S R p => p σ m H Ext.refl S R
def gExpr (g:GE):GS:=fun ρ st => (g ρ st).thn ρ fun _ st' => .nx ρ st'
theorem js_expr {e:Expr} {g:GE} {pos:Pos} (h:JE X e g) (hs:swapsWith e none pos.line X.env = pure false:=by rfl):JS X (.Expr e pos) (gExpr g) :=
 JS.of (ps_expr pe_SE hs) fun ρ st σ H m D S R p => h.go S R (PostS.of_thn R p) fun w st1 v m1 H1 q e1 S1 r1 => q σ m1 H1 e1 S1 (R.mono e1)
def gIf (gt:GT) (ga gb:GS):GS:=fun ρ st => (gt ρ st).thn ρ fun b st' => if b = true then ga ρ st' else gb ρ st'
theorem js_if {c:Expr} {a b:List Stmt} {gt:GT} {ga gb:GS} {pos:Pos} (hc:JT X c gt) (ha:JSs X a ga) (hb:JSs X b gb):JS X (.If c a b pos) (gIf gt ga gb) :=
 JS.of (ps_if pt_ST pss_SSs pss_SSs) fun ρ st σ H m D S R p => hc.go S R (PostS.of_thn R p) fun k st1 m1 H1 q e1 S1 => by
  cases k with
  | true => rw [if_pos rfl] at q ⊢; exact ha ρ st1 σ H1 m1 D S1 (R.mono e1) (PostS.shift q e1)
  | false => rw [if_neg Bool.false_ne_true] at q ⊢; exact hb ρ st1 σ H1 m1 D S1 (R.mono e1) (PostS.shift q e1)
def gSet (i:Nat) (g:GE):GS:=fun ρ st => (g ρ st).thn ρ fun w st' => .nx (ρ.set i (some w)) st'
theorem js_set (i:Nat) {x:Str} {e:Expr} {g:GE} {pos pos':Pos} (hN:X.N.Nodup) (h:JE X e g) (hi:X.N[i]? = some x:=by rfl) (hx:Loc X.env.scope x:=by first | exact Or.inl rfl | exact Or.inr rfl) (hs:swapsWith e (some (.Name x pos')) pos.line X.env = pure false:=by rfl)
  (hf:X.fn x = true ∨ X.env.scope.names.lookup x = some .local:=by first | exact .inl rfl | exact .inr rfl | assumption):JS X (.Assign [.Name x pos'] e pos) (gSet i g) :=
 JS.of (ps_set hN hi hx pe_SE hs hf) fun ρ st σ H m D S R p => h.go S R (PostS.of_thn R p) fun w st1 v m1 H1 q e1 S1 r1 => q _ m1 H1 e1 S1 ((R.mono e1).set i r1)
def gNever:GS:=fun _ _ => .bad
theorem js_never {s:Stmt}:JS X s gNever:=JS.of ps_never fun ρ st σ H m D S R p => p
theorem jss_never {s:List Stmt}:JSs X s gNever:=JSs.of pss_never fun ρ st σ H m D S R p => p
def oSet (o i v:Wv) (ρ:Rho) (st:Hs):Rs:=match o,i with
 | .ref l,.int k => match st[l]? with
  | some (.lst ws) => (match ixN ws.length k with | some j => .nx ρ (st.set l (.lst (ws.set j v))) | none => .bad)
  | _ => .bad
 | _,_ => .bad
def gSetI (ge go gi:GE):GS:=fun ρ st => (ge ρ st).thn ρ fun v st1 => (go ρ st1).thn ρ fun o st2 => (gi ρ st2).thn ρ fun i st3 => oSet o i v ρ st3
theorem js_setI {o i e:Expr} {go gi ge:GE} {pos pos':Pos} (he:JE X e ge) (ho:JE X o go) (hi:JE X i gi) (hs:swapsWithSole [.Subscript o i pos'] e pos.line X.env = pure false:=by rfl) (hw:swappedStores [.Subscript o i pos'] e X.env = pure none:=by rfl)
  (h1:(assignEach [.Subscript o i pos'] X.env).map (·.2) = [assign (.Subscript o i pos') X.env]:=by rfl)
  (ha:∀ v,assign (.Subscript o i pos') X.env v = (do
   let ov ← holding [v] (eval o X.env)
   let iv ← holding [v,ov] (eval i X.env)
   standAt pos'
   holding [v,ov,iv] (setItem ov iv v)
   release [v,ov,iv] []):=by intro _; rfl):JS X (.Assign [.Subscript o i pos'] e pos) (gSetI ge go gi):=by
 refine JS.of (ps_asg pe_SE (pg_sub pe_SE pe_SE set_list ha) hs hw h1) fun ρ st σ H m D S R p => ?_
 refine he.go S R (PostS.of_thn R p) fun v st1 vv m1 H1 p1 e1 S1 rv => ?_
 refine ho.go S1 (R.mono e1) ((PostS.of_thn (m:=m) (H:=H) R p1).imp e1 fun _ _ q => q) fun o' st2 ov m2 H2 p2 e2 S2 ro => ?_
 refine hi.go S2 (R.mono (e1.trans e2)) ((PostS.of_thn (m:=m) (H:=H) R p2).imp (e1.trans e2) fun _ _ q => q) fun i' st3 iv m3 H3 p3 e3 S3 ri => ?_
 have e13:=e1.trans (e2.trans e3)
 cases o' with
 | ref l =>
  cases i' with
  | int k =>
   have p3':PostS X m H (match st3[l]? with | some (.lst ws) => (match ixN ws.length k with | some j => .nx ρ (st3.set l (.lst (ws.set j v))) | none => .bad) | _ => .bad) D:=p3
   have ro3:=RelW.mono e3 _ _ ro
   unfold RelW at ro3
   obtain ⟨a,rfl,f1⟩:=ro3
   cases e:st3[l]? with
   | none => rw [e] at p3'; exact False.elim p3'
   | some ob =>
    cases ob with
    | dct kvs => rw [e] at p3'; exact False.elim p3'
    | dcT kvs => rw [e] at p3'; exact False.elim p3'
    | dcF kvs => rw [e] at p3'; exact False.elim p3'
    | scr ns => rw [e] at p3'; exact False.elim p3'
    | lst ws =>
     rw [e] at p3'
     cases ej:ixN ws.length k with
     | none => simp only [ej] at p3'; exact False.elim p3'
     | some j =>
      simp only [ej] at p3'
      obtain ⟨xs,g1,g2⟩:=S3.lstAt f1 e
      refine ⟨a,xs,k,j,rfl,relInt ri,g1,by rw [← g2.length]; exact ej,?_⟩
      have rv3:=RelW.mono (e2.trans e3) _ _ rv
      have e4:Ext X.K m3 H3 m3 (upd H3 a (.lst (xs.set j vv))):=Ext.upd (.inr ⟨xs,g1⟩)
      exact p3' σ m3 _ (e13.trans e4) (S3.write f1 e (g2.set j rv3)) (R.mono (e13.trans e4))
  | _ => exact False.elim p3
 | _ => cases i' <;> exact False.elim p3
open Classical in
noncomputable def forL (i:Nat) (gb:GS) (l:Nat) (all:List Wv):List Wv → Rho → Hs → Rs
 | [],ρ,st => .nx ρ st
 | w :: r,ρ,st => match gb (ρ.set i (some w)) st with
  | .nx ρ' st' => if lstOf st' l = some all then forL i gb l all r ρ' st' else .bad
  | .ct ρ' st' => if lstOf st' l = some all then forL i gb l all r ρ' st' else .bad
  | .bk ρ' st' => .nx ρ' st'
  | .rt w st' => .rt w st'
  | .err c ρ' st' => .err c ρ' st'
  | .bad => .bad
end
end J
namespace J
open PySem PySem.Spec PyProof.Rows L2
def CXJ (P:Program) (w:World):CXT:=fun outer H s E e s' => ∃ H' C,Flown P w outer H s H' (.ref C) e s' ∧ E (.ref C) none H'
section
variable {X:Cx} {pins:List (Addr × Obj)} {σ:St} {Hc H':Hp} {sc s':Shared} {cls e:Value} {E:Value → Shared → Prop} {Q:Unit → Shared → Prop}
theorem old_ne (I:Inv X pins σ Hc sc) {b:Addr} {o:Obj} (q:X.s₀.heap.get? b = some o):b ≠ X.env.locals:=fun z => by
 have h1:=Heap.lt_size q
 have h2:=I.ok.above
 rw [z] at h1
 exact absurd (Nat.lt_of_lt_of_le h1 h2) (Nat.lt_irrefl _)
theorem old_out (I:Inv X pins σ Hc sc) (hst:X.stack = X.env :: X.outer) (hf:X.env.frame = some X.env.locals) {b:Addr} {o:Obj} (q:X.s₀.heap.get? b = some o) (hb:b ∉ frs X.outer):b ∉ frs X.stack:=fun z => by
 rw [hst] at z
 unfold frs at z
 rw [List.filterMap_cons,hf] at z
 rcases List.mem_cons.mp z with z | z
 ·exact old_ne I q z
 ·exact hb z
theorem in_stack (hst:X.stack = X.env :: X.outer) (hf:X.env.frame = some X.env.locals) {b:Addr} (hb:b ∈ frs X.outer):b ∈ frs X.stack:=by
 rw [hst]
 unfold frs
 rw [List.filterMap_cons,hf]
 exact List.mem_cons_of_mem _ hb
theorem note_any {M:Model} {A:Around} {E:Value → Shared → Prop} {s:Shared} {base:Heap} {env:Env} {outer:List Env} {L e:Addr} {cls a0 nt:Value} {Q:Unit → Shared → Prop} (hfr:A.frames = some (env :: outer)) (hf:env.frame = some L)
  (x:base.StaysIn s.heap ∧ base.get? e = none ∧ s.heap.FunFrames base (env :: outer) ∧ TrX s.heap base e cls a0 nt) (k:∀ h',HeldX base (env :: outer) e cls a0 L h' → s.heap.UpToSlots h' → Q () { s with heap:=h' }) :
  wpAny M A (noteFrame (.ref e) env) Q E s:=by
 obtain ⟨x1,x2,x3,x4⟩:=x
 by_cases z:nt = rawInt L
 ·subst z
  exact againX hf x4 (k s.heap ⟨x1,x2,x3,x4⟩ (Heap.UpToSlots.refl _))
 ·obtain ⟨ox,us,T,ot,ws,g1,⟨g2,g3⟩,g4,g5,g6,g7,g8,g9,g10⟩:=x4
  subst g2
  have apart:∀ b,b ≠ T → (s.heap.update T (Obj.mapFields (·.setIfInBounds 3 Value.none))).get? b = s.heap.get? b:=fun b hb => Heap.get?_update_other _ _ (Ne.symm hb)
  have plain:∀ b o,s.heap.get? b = some o → (∀ vs,o.data ≠ .fields vs) → b ≠ T:=fun b o hb hd q => by
   subst q
   rw [g8] at hb
   cases hb
   exact hd ws g9
  unfold noteFrame
  simp only [hf]
  refine wpAny_bind (wpAny_field g1 g4 g5 ?_)
  rw [if_pos (show (Value.ref T != Value.none) = true from by simp)]
  refine wpAny_bind (wpAny_field g8 g9 g10 ?_)
  rw [if_neg (show ¬ ((nt == rawInt L) = true) from by simpa using z)]
  refine wpAny_bind (wpAny_setField g8 g9 (Array.getElem?_eq_some_iff.mp g10).1 ?_)
  refine entryX (a0:=a0) hfr (x3.of_keeps fun b o hb hd => ⟨o,(apart b (plain b o hb hd)).trans hb,rfl⟩) hf ((apart e (Ne.symm g7)).trans g1) (fun b o hb => (apart b fun q => by rw [q,g6] at hb; cases hb).trans (x1 b o hb)) x2 g4 (Array.getElem?_eq_some_iff.mp g5).1 g3 fun h' y y4 => ?_
  exact k h' y fun b o hb hd => y4 b o ((apart b (plain b o hb hd)).trans hb) hd
theorem note_made {M:Model} {A:Around} {E:Value → Shared → Prop} {s:Shared} {base h:Heap} {env:Env} {outer:List Env} {L a:Addr} {cls:Value} {args:List Value} {Q:Unit → Shared → Prop} (hfr:A.frames = some (env :: outer)) (hf:env.frame = some L)
  (st:base.StaysIn h) (fs:h.FunFrames base (env :: outer)) (mk:Heap.MadeExcOf h s.heap a cls args) (k:∀ h' a0,HeldX base (env :: outer) a cls a0 L h' → s.heap.UpToSlots h' → Q () { s with heap:=h' }) :
  wpAny M A (noteFrame (.ref a) env) Q E s:=by
 obtain ⟨t,e1,e2,e3⟩:=mk.there
 have fresh:∀ b,h.get? b = none → base.get? b = none:=fun b hb => by
  cases q:base.get? b with
  | none => rfl
  | some o' => have z:=st b o' q; rw [hb] at z; cases z
 have fs':=fs.of_keeps (h':=s.heap) fun b o hb _ => ⟨o,mk.keeps b o hb,rfl⟩
 unfold noteFrame
 simp only [hf]
 refine wpAny_bind (wpAny_field e1 rfl (x:=.none) rfl ?_)
 rw [if_neg (by decide)]
 exact entryX hfr fs' hf e1 (fun b o hb => mk.keeps b o (st b o hb)) (fresh a mk.new) rfl (by simp) (a0:=.ref t) rfl fun h' l1 l4 => k h' (.ref t) l1 l4
theorem un_out {ch:List Addr} (hx:X.ex = []) (hst:X.stack = X.env :: X.outer) (hf:X.env.frame = some X.env.locals) (I:Inv X pins σ Hc sc) {B h2:Heap} (hch:∀ b ∈ ch,FpOk X pins Hc b) (un:Un (frs X.stack) ch Hc H' sc.heap s'.heap) (up:s'.heap.UpToSlots h2) (stay:B.StaysIn h2)
  (cov:∀ b o,sc.heap.get? b = some o → b ∉ frs X.stack → b ∉ ch → ∃ o',B.get? b = some o' ∧ (Hc b = none → o' = o)) :
  Un (frs X.outer) [] X.H₀ H' X.s₀.heap h2 ∧ (∀ b o,X.s₀.heap.get? b = some o → b ∉ frs X.outer → ∃ o',B.get? b = some o' ∧ (X.H₀ b = none → o' = o)):=by
 have nx:∀ b:Addr,b ∉ X.ex:=fun b => by rw [hx]; simp
 have nc:∀ b o,X.s₀.heap.get? b = some o → b ∉ ch:=fun b o q z => by
  rcases (hch b z).2.2.2.1 with y | y
  ·exact nx b y
  ·exact absurd (Nat.lt_of_lt_of_le (Heap.lt_size q) y) (Nat.lt_irrefl _)
 have cov2:∀ b o,X.s₀.heap.get? b = some o → b ∉ frs X.outer → ∃ o',B.get? b = some o' ∧ (X.H₀ b = none → o' = o):=fun b o q hb => by
  obtain ⟨o1,q1⟩:=I.base.there b o q (nx b)
  obtain ⟨o2,q2,q3⟩:=cov b o1 q1 (old_out I hst hf q hb) (nc b o q)
  refine ⟨o2,q2,fun n => ?_⟩
  have q4:=I.base.keep b o q n hb (nx b)
  rw [q4] at q1
  cases q1
  exact q3 (I.base.free b o q n (nx b))
 have sl:∀ b o,X.s₀.heap.get? b = some o → X.H₀ b = none → b ∈ frs X.outer → ∃ sl,h2.get? b = some { o with slots:=sl }:=fun b o q n hb => by
  obtain ⟨s1,q1⟩:=I.base.slot b o q n hb (nx b)
  obtain ⟨s2,q2⟩:=un.slot b _ q1 (I.base.free b o q n (nx b)) (in_stack hst hf hb) (nc b o q)
  obtain ⟨_,o3,q3,q4⟩:=I.ok.funs.mem hb
  rw [q] at q3
  cases q3
  obtain ⟨s3,q5⟩:=up b _ q2 q4
  exact ⟨s3,q5⟩
 refine ⟨⟨fun b o q n hb _ => ?_,fun b o q n hb _ => sl b o q n hb,fun b o q n _ => ?_,fun b o q _ => ?_,fun b xs h => un.tups b xs (I.base.tups b xs h),fun b o u h => un.frzs b o u (I.base.frzs b o u h),fun b ps h => ?_⟩,cov2⟩
 ·obtain ⟨o2,q2,q3⟩:=cov2 b o q hb
  rw [q3 n] at q2
  exact stay b o q2
 ·obtain ⟨o1,q1⟩:=I.base.there b o q (nx b)
  exact un.free b o1 q1 (I.base.free b o q n (nx b)) (nc b o q)
 ·by_cases hb:b ∈ frs X.outer
  ·obtain ⟨s3,q3⟩:=sl b o q (I.ok.frf b hb) hb
   exact ⟨_,q3⟩
  ·obtain ⟨o2,q2,_⟩:=cov2 b o q hb
   exact ⟨o2,stay b o2 q2⟩
 ·obtain ⟨m1,t1⟩:=I.base.tbls b ps h
  obtain ⟨m2,t2⟩:=un.tbls b _ t1
  exact ⟨m1 ++ m2,by rw [← Array.append_assoc]; exact t2⟩
theorem leave_flown (hx:X.ex = []) (hst:X.stack = X.env :: X.outer) (hf:X.env.frame = some X.env.locals) (I:Inv X pins σ Hc sc) (F:FlownA X pins Hc sc H' cls e s')
  (k:∀ s2,Flown X.prog X.w X.outer X.H₀ X.s₀ H' cls e s2 → Q () s2):wpAny (model X.prog X.w) X.A (leaving X.env e) Q E s':=by
 obtain ⟨a,a0,nt,B,ch,rfl,os,bare,hch,un,hok,fl,cov⟩:=F
 have hfr:X.A.frames = some (X.env :: X.outer):=by rw [I.ok.frames,hst]
 rw [hst] at fl
 unfold leaving
 refine wpAny_bind (note_any hfr hf fl fun h1 hd1 up1 => ?_)
 refine landX hd1 fun h2 fl2 up2 => k _ ?_
 obtain ⟨k1,k2,⟨_,_,k3⟩,k4⟩:=fl2
 obtain ⟨u2,c2⟩:=un_out hx hst hf I hch un (up1.trans up2) k1 cov
 exact ⟨a,a0,B,rfl,os.trans I.os,bare,u2,hok,⟨k1,k2,k3,k4⟩,c2⟩
theorem hok_hide {P:Program} {w:World} {H:Hp} {h:Heap} {l:List Addr} (ok:HOk P w H h) (fr:∀ b ∈ l,H b = none):HOk P w H (PySem.W.hideAll h l):=fun a o q =>
 (ok a o q).stay (fun b u hb r => PySem.W.hideAll_get _ r fun z => by
  have n:=fr b z
  rcases hb with hb | hb
  ·rw [hb,q] at n; cases n
  ·rw [hb] at n; cases n) (fun _ r => r) fun _ _ r => r
theorem leave_made {a C:Addr} {args:List Value} (hx:X.ex = []) (hst:X.stack = X.env :: X.outer) (hf:X.env.frame = some X.env.locals) (I:Inv X pins σ Hc sc) (ho:s'.os = sc.os) (hgn:s'.gens = sc.gens)
  (M:Heap.MadeExcOf sc.heap s'.heap a (.ref C) args) (k:∀ s2,Flown X.prog X.w X.outer X.H₀ X.s₀ Hc (.ref C) (.ref a) s2 → Q () s2):wpAny (model X.prog X.w) X.A (leaving X.env (.ref a)) Q E s':=by
 have hfr:X.A.frames = some (X.env :: X.outer):=by rw [I.ok.frames,hst]
 have fs:sc.heap.FunFrames (PySem.W.hideAll sc.heap (frs X.stack)) (X.env :: X.outer):=by
  rw [← hst]
  exact PySem.W.funFrames_hide I.stack fun env he b hb => List.mem_filterMap.mpr ⟨env,he,hb⟩
 unfold leaving
 refine wpAny_bind (note_made (base:=PySem.W.hideAll sc.heap (frs X.stack)) hfr hf (fun b o q => PySem.W.of_hideAll _ q) fs M fun h1 t hd1 up1 => ?_)
 refine landX hd1 fun h2 fl2 up2 => k _ ?_
 have up:=up1.trans up2
 replace fl2:FlyX (PySem.W.hideAll sc.heap (frs X.stack)) X.outer a (.ref C) t h2:=let ⟨k1,k2,⟨_,_,k3⟩,k4⟩:=fl2; ⟨k1,k2,k3,k4⟩
 obtain ⟨u2,c2⟩:=un_out (H':=Hc) (s':=s') (ch:=[]) hx hst hf I (fun b z => by cases z) (Un.kept M.keeps) up fl2.1 fun b o q hb _ => ⟨o,PySem.W.hideAll_get _ q hb,fun _ => rfl⟩
 exact ⟨a,t,_,rfl,ho.trans I.os,by rw [show ({ s' with heap:=h2 }:Shared).gens = sc.gens from hgn]; exact I.bare,u2,hok_hide I.hok I.stkFree,fl2,c2⟩
end
def PostF (K:PySem.W.Frag) (m:Mp) (H:Hp) (r:Re Wv) (Q:VK) (E:XK):Prop:=match r with
 | .ok w st => okE K m H Q w st
 | .err c st => ∀ (m':Mp) (H':Hp) (C:Addr),Ext K m H m' H' → Sim K m' st H' → ClsAt K c C → E (.ref C) none H'
 | .bad => False
def spW (K:PySem.W.Frag) (n:Nat) (F:List Wv → Hs → Re Wv):Sp:=fun vs H Q E => ∃ m st ws,Sim K m st H ∧ RelWs K m H ws vs ∧ ws.length = n ∧ PostF K m H (F ws st) Q E
def gCall (n:Nat) (F:List Wv → Hs → Re Wv) (g:GA):GE:=fun ρ st => (g ρ st).bind fun ws st1 => if ws.length = n then F ws st1 else .bad
section
variable {X:Cx}
theorem je_call {k n:Nat} {f:Addr} {fd:FuncData} {ps:List Str} {F:List Wv → Hs → Re Wv} {x:Str} {p pos:Pos} {e:Expr} {es:List Expr} {g:GA}
  (G:FnOk X.prog X.w X.K X.mg X.base (CXJ X.prog X.w) k f fd ps (spW X.K n F)) (hr:Room k X.A) (hm:X.mg x = some (.ref f)) (hk:PySem.W.keepIn X.K (.ref f) = true) (hb:Binds X.K fd ps []) (ha:JA X (e :: es) g) (hg:Gl X x:=by rfl)
  (hdb:(x == ("__debug__":Str)) = false:=by decide) (he:starEach (e :: es) X.env = (false,eval e X.env) :: starEach es X.env:=by rfl) (hpl:(backTo pos (starEach es X.env)).any (·.1) = false:=by rfl) :
  JE X (.Call (.Name x p) (e :: es) [] pos) (gCall n F g):=by
 intro ρ st σ H m Q S R p pins s I
 have args:=ha.go (T:=fun vs H1 => ∃ ws st1 m1,PostE X σ m H (if ws.length = n then F ws st1 else .bad) Q ∧ Ext X.K m H m1 H1 ∧ Sim X.K m1 st1 H1 ∧ RelWs X.K m1 H1 ws vs) S R (PostG.bind p)
  fun ws st1 vs m1 H1 p1 e1 S1 rs => ⟨ws,st1,m1,p1,e1,S1,rs⟩
 refine wpAny_Call_Name_kw (ld_glob I hg hm ?_ hdb)
 refine PySem.W.callWith_K (h₀:=X.base) I.ok.mod.kin hk (thn (args pos pins s I) fun us s1 ⟨vs,H1,I1,r,ws,st1,m1,p1,e1,S1,rs⟩ => ⟨I1.kIn,?_⟩) he hpl
 by_cases c:ws.length = n
 ·rw [if_pos c] at p1
  let E:XK:=fun cl _ H2 => ∃ c' st2 m2 C,cl = .ref C ∧ ClsAt X.K c' C ∧ F ws st1 = .err c' st2 ∧ Ext X.K m1 H1 m2 H2 ∧ Sim X.K m2 st2 H2
  have sp:spW X.K n F vs H1 Q E:=by
   refine ⟨m1,st1,ws,S1,rs,c,?_⟩
   cases er:F ws st1 with
   | ok w st2 => rw [er] at p1; exact PostE.shift (r:=.ok w st2) p1 e1
   | err c' st2 => exact fun m2 H2 C e2 S2 hC => ⟨c',st2,m2,C,rfl,hC,er,e2,S2⟩
   | bad => rw [er] at p1; exact False.elim p1
  have hl:us.length = ps.length:=by rw [← r.length]; exact G.len _ _ _ _ sp
  have bd:=hb s1 us I1.kIn (by rw [List.append_nil]; exact hl)
  rw [List.append_nil] at bd
  refine wpAny_call (codeAny_mono (G.run X.A X.stack s1 H1 ⟨us,[]⟩ us vs Q E hr I1.env0 bd r sp) fun rr s2 hq => ?_)
  cases rr with
  | error x =>
   obtain ⟨H2,C,fl,c',st2,m2,C',ec,hC,er,e2,S2⟩:=hq
   cases ec
   rw [er] at p1
   exact p1 m2 H2 x s2 (e1.trans e2) S2 ⟨C,pins,H1,s1,hC,I1,.inl fl.any⟩
  | ok fw =>
   cases fw with
   | ret u => exact I1.after hq
   | next => exact False.elim hq
   | brk => exact False.elim hq
   | cont => exact False.elim hq
 ·rw [if_neg c] at p1; exact False.elim p1
end
def fnF (n:Nat) (g:GS):List Wv → Hs → Re Wv:=fun ws st => match g (ws.map some ++ List.replicate (n - ws.length) none) st with
 | .nx _ st' => .ok .non st'
 | .rt w st' => .ok w st'
 | .err c _ st' => .err c st'
 | _ => .bad
theorem startRel {K:PySem.W.Frag} {m:Mp} {H:Hp} {N:List Str} {ws:List Wv} {vs:List V} (r:RelWs K m H ws vs) (h:ws.length ≤ N.length):RelEnv K m H (ws.map some ++ List.replicate (N.length - ws.length) none) (L2.start N vs):=by
 have hl:=r.length
 refine ⟨by unfold L2.start; simp [hl],fun i w e => ?_⟩
 by_cases hi:i < ws.length
 ·rw [List.getElem?_append_left (by simpa using hi),List.getElem?_map] at e
  cases q:ws[i]? with
  | none => rw [q] at e; cases e
  | some w' =>
   rw [q] at e
   cases e
   obtain ⟨x,h1,h2⟩:=r.get q
   refine ⟨x,?_,h2⟩
   unfold L2.start
   rw [List.getElem?_append_left (by simp; omega),List.getElem?_map,h1]
   rfl
 ·rw [List.getElem?_append_right (by simpa using hi),List.getElem?_replicate] at e
  split at e <;> cases e
section
variable {P:Program} {w:World} {K:PySem.W.Frag} {mg:Str → Option Value} {base:Heap}
theorem raised_out {N:List Str} {qual:Str} {scope:Scope} {f:Addr} {cdv:Value} {A:Around} {outer:List Env} {s s':Shared} {H H':Hp} {E:XK} {σ:St} {c:PySem.Str} {e:Value}
  (r:Raised (cxOf (CXJ P w) P w K mg base N qual scope f cdv A outer s H E) σ H' c e s') (h:∀ C,ClsAt K c C → E (.ref C) none H'):(cxOf (CXJ P w) P w K mg base N qual scope f cdv A outer s H E).xe e s':=by
 obtain ⟨C,pins,Hc,sc,hC,I,r⟩:=r
 rcases r with fl | ⟨rfl,a,args,rfl,ho,hg,M⟩
 ·exact leave_flown (X:=cxOf (CXJ P w) P w K mg base N qual scope f cdv A outer s H E) rfl rfl rfl I fl fun s2 fl2 => ⟨H',C,fl2,h C hC⟩
 ·exact leave_made (X:=cxOf (CXJ P w) P w K mg base N qual scope f cdv A outer s H E) rfl rfl rfl I ho hg M fun s2 fl2 => ⟨H',C,fl2,h C hC⟩
def CodeOf (K:PySem.W.Frag) (f:Addr) (cdv:Value):Prop:=∃ o,K.lookup f = some o ∧ ∃ fd,o.data = .func fd ∧ fd.code = cdv
theorem fn_ok {x qual:Str} {st:Stmt} {f:Addr} {fd:FuncData} {N ps:List Str} {k:Nat} {g:GS} (F:Fun K x qual st f fd) (S:FnScope N ps (defScope st))
  (body:∀ (cdv:Value),CodeOf K f cdv → ∀ (A:Around) (outer:List Env) (s:Shared) (H:Hp) (E:XK),Room k (A.deeper (envOfC qual (defScope st) s.heap.objs.size f cdv)) → JSs (cxOf (CXJ P w) P w K mg base N qual (defScope st) f cdv A outer s H E) (defBody st) g) :
  FnOk P w K mg base (CXJ P w) (k + 1) f fd ps (spW K ps.length (fnF N.length g)):=by
 have hpl:ps.length ≤ N.length:=by have:=congrArg List.length S.pre; rw [List.length_take] at this; omega
 obtain ⟨oc,od,kV,doc,pm,an,cdv,ct,osl,rfl,lk,hcd⟩:=F.ex
 refine fn_of lk hcd S (fun vs H Q E h => ?_) fun A outer s H vs Q E hr h => ?_
 ·obtain ⟨m,st',ws,_,r,hl,_⟩:=h
  rw [← r.length]; exact hl
 ·obtain ⟨m,st',ws,S',r,hl,p⟩:=h
  refine ⟨_,pss_SSs,?_⟩
  refine body cdv ⟨_,lk,_,rfl,rfl⟩ A outer s H E hr _ st' _ H m _ S' (startRel r (by omega)) ?_
  unfold fnF at p
  cases e:g (ws.map some ++ List.replicate (N.length - ws.length) none) st' with
  | nx ρ st2 => rw [e] at p; exact fun σ m' H' e' S2 R2 => p _ m' H' e' S2 (by unfold RelW; rfl)
  | rt w' st2 => rw [e] at p; exact p
  | bk ρ st2 => rw [e] at p; exact False.elim p
  | ct ρ st2 => rw [e] at p; exact False.elim p
  | err c ρ st2 => rw [e] at p; exact fun σ m' H' x s' e' S2 R2 rz => raised_out rz fun C hC => p m' H' C e' S2 hC
  | bad => rw [e] at p; exact False.elim p
end
def OnlyT (H:Hp):Prop:=∀ b,H b = none ∨ (∃ o xs,H b = some (.frz o (.lst xs))) ∨ H b = some (.tbl #[])
theorem OnlyT.of {H:Hp} (h:Only H):OnlyT H:=fun b => by
 rcases h b with q | q
 ·exact .inl q
 ·exact .inr (.inl q)
theorem law_sp {K:PySem.W.Frag} {F:List Wv → Hs → Re Wv} (h:∀ ns:List Int,ns.length ≤ 63 → ∃ st,F [.ref 0] [.scr ns] = .ok (.bl true) st) (H:Hp) (a:Addr) (ns:List Int) (hl:ns.length ≤ 63) (hO:OnlyT H) (hS:SqL K H a (ns.map V.int)) (hT:TbOk K H) :
  spW K 1 F [.ref a] H (fun v _ => v = .bl true) fun _ _ _ => False:=by
 obtain ⟨st,e⟩:=h ns hl
 refine ⟨[a],[.scr ns],[.ref 0],⟨rfl,fun l b o h1 h2 => ?_,fun l l' b ws ws' _ _ h2 _ k _ => ?_,hT⟩,RelWs.cons (by unfold RelW; exact ⟨a,rfl,rfl⟩) RelWs.nil,rfl,?_⟩
 ·cases l with
  | zero =>
   simp at h1 h2
   subst h1 h2
   show ScrOk K H a ns
   rcases hS with (q | ⟨o',q⟩) | q
   ·rcases hO a with z | ⟨o',xs,z⟩ | z
    ·rw [z] at q; cases q
    ·rw [z] at q; cases q
    ·rw [z] at q; cases q
   ·exact .inl ⟨o',q⟩
   ·exact .inr q
  | succ l => simp at h1
 ·cases l with
  | zero => simp at h2; subst h2; simp [Ob.mu] at k
  | succ l => simp at h2
 ·rw [e]
  intro v m' H' _ _ r
  unfold RelW at r
  exact r
end J
namespace J
open PySem PySem.Spec PyProof.Rows L2
def truW (w:Wv) (st:Hs):Re Bool:=match w with
 | .non => .ok false st
 | .bl b => .ok b st
 | .int i => .ok (i != 0) st
 | .str y => if y.length ≤ lim then .ok ((y.length:Int) != 0) st else .bad
 | .tup ws => .ok (!ws.isEmpty) st
 | .ktp _ => .bad
 | .ref l => match lstOf st l with
  | some ws => .ok (!ws.isEmpty) st
  | none => .bad
 | .ty _ => .bad
 | .cls _ => .bad
 | .exn _ => .bad
 | .fn _ _ => .bad
def gTru (g:GE):GT:=fun ρ st => (g ρ st).bind truW
section
variable {X:Cx}
theorem isE {m:Mp} {H:Hp} {ws:List Wv} {xs:List V} (r:RelWs X.K m H ws xs):(!ws.isEmpty) = !xs.isEmpty:=by
 have h:=r.length
 cases ws <;> cases xs <;> simp_all
theorem jt_tru {e:Expr} {g:GE} (h:JE X e g) (he:∀ whole,isTrue e X.env whole = (do let v ← whole; standAt e.pos; holding [v] (truthy v))):JT X e (gTru g) :=
 JT.of (pt_truth pe_SE he) fun ρ st σ H m Q S R p => h.go S R (PostG.bind p) fun w st1 v m1 H1 p1 e1 S1 r1 => by
  cases w with
  | non => unfold RelW at r1; subst r1; exact ⟨false,rfl,p1 m1 H1 e1 S1⟩
  | bl b => unfold RelW at r1; subst r1; exact ⟨b,rfl,p1 m1 H1 e1 S1⟩
  | int i => unfold RelW at r1; subst r1; exact ⟨_,rfl,p1 m1 H1 e1 S1⟩
  | str y =>
   obtain ⟨rfl,_⟩:=relStr r1
   have p2:PostT X σ m H (if y.length ≤ lim then .ok ((y.length:Int) != 0) st1 else .bad) Q:=p1
   by_cases c:y.length ≤ lim
   ·rw [if_pos c] at p2; exact ⟨_,⟨lim_le c,rfl⟩,p2 m1 H1 e1 S1⟩
   ·rw [if_neg c] at p2; exact False.elim p2
  | ktp ws => exact False.elim p1
  | tup ws =>
   unfold RelW at r1
   obtain ⟨a,xs,rfl,h1,h2⟩:=r1
   refine ⟨!xs.isEmpty,.inr (.inl ⟨xs,SqT.of h1,rfl⟩),?_⟩
   rw [← isE h2]
   exact p1 m1 H1 e1 S1
  | ref l =>
   unfold RelW at r1
   obtain ⟨a,rfl,h1⟩:=r1
   have p2:PostT X σ m H (match lstOf st1 l with | some ws => .ok (!ws.isEmpty) st1 | none => .bad) Q:=p1
   cases el:lstOf st1 l with
   | none => rw [el] at p2; exact False.elim p2
   | some ws =>
    rw [el] at p2
    obtain ⟨xs,hq,h2⟩:=S1.read h1 el
    refine ⟨!xs.isEmpty,.inl ⟨xs,hq,rfl⟩,?_⟩
    rw [← isE h2]
    exact p2 m1 H1 e1 S1
  | ty T => exact False.elim p1
  | cls T => exact False.elim p1
  | exn T => exact False.elim p1
  | fn fp T => exact False.elim p1
theorem all_fold {p:Nat → Bool} {x:Array Nat} (hx:x.all p = true):∀ (n:Nat) (a:Array Nat),a.all p = true → ((List.replicate n x).foldl (· ++ ·) a).all p = true
 | 0,a,h => h
 | n + 1,a,h => by
  rw [List.replicate_succ,List.foldl_cons]
  refine all_fold hx n _ ?_
  rw [Array.all_append,h,hx]
  rfl
theorem strOk_rep {x:PySem.Str} {n:Nat} (h:PyData.strOk x = true):PyData.strOk (repS n x) = true:=by
 unfold PyData.strOk at h ⊢
 unfold repS
 exact all_fold h n #[] (by simp)
theorem size_fold {x:Array Nat}:∀ (n:Nat) (a:Array Nat),((List.replicate n x).foldl (· ++ ·) a).size = a.size + x.size * n
 | 0,a => by simp
 | n + 1,a => by
  rw [List.replicate_succ,List.foldl_cons,size_fold n,Array.size_append,Nat.mul_succ]
  omega
theorem len_repS {x:PySem.Str} {n:Nat}:(repS n x).length = x.length * n:=by
 show ((List.replicate n x.cps).foldl (· ++ ·) #[]).size = x.cps.size * n
 rw [size_fold]
 simp
def CMulS (x:PySem.Str) (n:Int):Prop:=1 < n ∧ n ≤ 100000 ∧ x.length ≠ 0 ∧ x.length * n.toNat ≤ lim
instance {x n}:Decidable (CMulS x n):=by unfold CMulS; infer_instance
theorem op_mulS:OpR X (binaryOp .Mult) (fun x y H Q => ∃ z n,x = .str z ∧ y = .int n ∧ CMulS z n ∧ Q (.str (repS n.toNat z)) H):=by
 intro pins s σ H x y v u Q I rx ry h
 obtain ⟨z,n,rfl,rfl,⟨h1,h2,h3,h4⟩,q⟩:=h
 obtain ⟨t,rfl⟩:=rx
 obtain ⟨t',rfl⟩:=ry
 have n1:¬ n < 1:=by omega
 have hlen:z.length ≤ lim:=by
  refine Nat.le_trans ?_ h4
  exact Nat.le_mul_of_pos_right _ (by omega)
 have hne:(n == 1 || z.length == 0) = false:=by
  have e1:(n == 1) = false:=by rw [beq_eq_false_iff_ne]; omega
  have e2:(z.length == 0) = false:=by rw [beq_eq_false_iff_ne]; exact h3
  rw [e1,e2]; rfl
 have hl:PySem.Builtin.Str.tooLong (z.length * n.toNat) = false:=by
  unfold PySem.Builtin.Str.tooLong
  have q:=lim_le h4
  first
   | exact decide_eq_false (by omega)
   | simp only [decide_eq_false_iff_not]; omega
 refine PySem.P.mul_str (by
   have e1:¬ n < -(2 ^ 63:Int):=by omega
   have e2:¬ n ≥ 2 ^ 63:=by omega
   rw [decide_eq_false e1,decide_eq_false e2]; rfl) (fun _ _ => ?_) (fun _ _ => hl) ?_
 ·have e:((2:Int) ^ 63 - 1) / 100000 ≤ (2 ^ 63 - 1) / n:=by
   refine Int.le_ediv_of_mul_le (by omega) ?_
   have:((2:Int) ^ 63 - 1) / 100000 * n ≤ ((2:Int) ^ 63 - 1) / 100000 * 100000:=Int.mul_le_mul_of_nonneg_left h2 (by decide)
   exact Int.le_trans this (by decide)
  have e':(1000000:Int) ≤ (2 ^ 63 - 1) / 100000:=by decide
  unfold lim at hlen
  omega
 ·rw [if_neg n1,if_neg (by rw [hne]; exact Bool.false_ne_true)]
  exact ⟨by show (repS n.toNat z).length ≤ _; rw [len_repS]; exact lim_le h4,.str (repS n.toNat z),H,I.tok _,⟨_,rfl⟩,q⟩
def oMulS:Op2
 | .int i,.int j,st => if IntMulOk i j then .ok (.int (i * j)) st else .bad
 | .str z,.int n,st => if CMulS z n then .ok (.str (repS n.toNat z)) st else .bad
 | _,_,_ => .bad
theorem ow_mulS:OpW X (binaryOp .Mult) oMulS:=⟨_,OpR.or op_mulG op_mulS,fun x y a b st H m Q S rx ry p => by
 cases x with
 | int i =>
  cases y with
  | int j =>
   cases relInt rx; cases relInt ry
   have p':PostO X.K m H (if IntMulOk i j then .ok (.int (i * j)) st else .bad) Q:=p
   by_cases c:IntMulOk i j
   ·rw [if_pos c] at p'; exact .inl ⟨i,j,rfl,rfl,c,p' _ m H Ext.refl S mkInt⟩
   ·rw [if_neg c] at p'; exact False.elim p'
  | _ => exact False.elim p
 | str z =>
  cases y with
  | int n =>
   obtain ⟨rfl,hz⟩:=relStr rx
   cases relInt ry
   have p':PostO X.K m H (if CMulS z n then .ok (.str (repS n.toNat z)) st else .bad) Q:=p
   by_cases c:CMulS z n
   ·rw [if_pos c] at p'; exact .inr ⟨z,n,rfl,rfl,c,p' _ m H Ext.refl S (mkStr (strOk_rep hz))⟩
   ·rw [if_neg c] at p'; exact False.elim p'
  | _ => exact False.elim p
 | _ => exact False.elim p⟩
def gBad:GE:=fun _ _ => .bad
def gBadT:GT:=fun _ _ => .bad
theorem je_bad {e:Expr}:JE X e gBad:=fun ρ st σ H m Q S R p => False.elim p
theorem jt_bad {e:Expr}:JT X e gBadT:=fun ρ st σ H m Q S R p => False.elim p
end
def Has (P:Program) (w:World) (K:PySem.W.Frag) (mg:Str → Option Value) (base:Heap) (k:Nat) (x:Str) (n:Nat) (F:List Wv → Hs → Re Wv):Prop :=
 ∃ f fd ps,FnOk P w K mg base (CXJ P w) k f fd ps (spW K n F) ∧ mg x = some (.ref f) ∧ PySem.W.keepIn K (.ref f) = true ∧ Binds K fd ps []
theorem Has.mono {P:Program} {w:World} {K:PySem.W.Frag} {mg:Str → Option Value} {base:Heap} {j k:Nat} {x:Str} {n:Nat} {F:List Wv → Hs → Re Wv} (h:Has P w K mg base j x n F) (l:j ≤ k):Has P w K mg base k x n F:=by
 obtain ⟨f,fd,ps,G,r⟩:=h
 exact ⟨f,fd,ps,G.mono l,r⟩
def DefAt (K:PySem.W.Frag) (x:Str) (st:Stmt):Prop:=∃ f fd,PySem.W.nsIn K mainGlobals x = some (some (.ref f)) ∧ Fun K x x st f fd
theorem def_at {K:PySem.W.Frag} {x:Str} {st:Stmt} {f:Addr} {oc:Value} {od an:Option Addr} {osl:Array (Option Value)} {kV doc pm cdv ct:Value} (a:PySem.W.nsIn K mainGlobals x = some (some (.ref f)))
  (l:K.lookup f = some ⟨oc,od,.func (PySem.W.fnOf x x (defArgs st) (defBody st) (defScope st) .none kV doc pm an cdv ct),osl⟩) (c:PySem.W.codeIn K cdv x = true) (k:PySem.W.keepIn K (.ref f) = true):DefAt K x st:=⟨f,_,a,fun_mk l c k⟩
theorem boot_isI:bootBuiltins "isinstance" = some (.builtin "isinstance"):=by decide +kernel
theorem boot_absJ:bootBuiltins "abs" = some (.builtin "abs"):=by decide +kernel
theorem boot_lenJ:bootBuiltins "len" = some (.builtin "len"):=by decide +kernel
theorem boot_tyI:bootBuiltins "int" = some (.type "int"):=by decide +kernel
theorem boot_tyS:bootBuiltins "str" = some (.type "str"):=by decide +kernel
theorem boot_tyB:bootBuiltins "bool" = some (.type "bool"):=by decide +kernel
theorem boot_tyT:bootBuiltins "tuple" = some (.type "tuple"):=by decide +kernel
theorem boot_tyL:bootBuiltins "list" = some (.type "list"):=by decide +kernel
end J
namespace J
open PySem PySem.Spec PyProof.Rows L2
def forT (i:Nat) (gb:GS):List Wv → Rho → Hs → Rs
 | [],ρ,st => .nx ρ st
 | w :: r,ρ,st => match gb (ρ.set i (some w)) st with
  | .nx ρ' st' => forT i gb r ρ' st'
  | .ct ρ' st' => forT i gb r ρ' st'
  | .bk ρ' st' => .nx ρ' st'
  | .rt w st' => .rt w st'
  | .err c ρ' st' => .err c ρ' st'
  | .bad => .bad
section
variable {X:Cx}
theorem for_core (i:Nat) {body:List Stmt} {gb:GS} (hb:JSs X body gb) {J':It} {ws:List Wv} {m1:Mp} {H1:Hp} {st1:Hs} {ρ:Rho} {σ:St} {D:Ends} (S1:Sim X.K m1 st1 H1) (R:RelEnv X.K m1 H1 ρ σ) (p1:PostS X m1 H1 (forT i gb ws ρ st1) D)
  (hgo:∀ (k:Nat) (H:Hp) (m':Mp),Ext X.K m1 H1 m' H → k < ws.length → J'.go k H) (hstop:∀ (k:Nat) (H:Hp) (m':Mp),Ext X.K m1 H1 m' H → k = ws.length → J'.stop k H)
  (hy:∀ (k:Nat) (hk:k < ws.length) (H:Hp) (x:V) (H':Hp) (m':Mp),Ext X.K m1 H1 m' H → J'.yld k H x H' → H' = H ∧ RelW X.K m' H ws[k] x) :
  ∃ W:Nat → Nat → St → Hp → Prop,(∃ m,W 0 m σ H1) ∧ ∀ k n σ H,W k n σ H →
   (J'.stop k H ∧ D.nx σ H) ∨ (J'.go k H ∧ ∃ N:St → Hp → Prop,(∀ σ' H',N σ' H' → ∃ m',m' < n ∧ W (k + 1) m' σ' H') ∧ ∀ x H',J'.yld k H x H' → gName i x σ H' fun σ2 H2 => SSs X body { D with nx:=N,ct:=N,bk:=D.nx } σ2 H2):=by
 let Pv:Nat → St → Hp → Prop:=fun k σ H => ∃ ρ st m',Ext X.K m1 H1 m' H ∧ Sim X.K m' st H ∧ RelEnv X.K m' H ρ σ ∧ PostS X m' H (forT i gb (ws.drop k) ρ st) D
 refine ⟨fun k n σ H => n = ws.length - k ∧ k ≤ ws.length ∧ Pv k σ H,⟨ws.length,by simp,Nat.zero_le _,ρ,st1,m1,Ext.refl,S1,R,p1⟩,?_⟩
 rintro k n σ2 H2 ⟨rfl,hk,ρ2,st2,m2,e2,S2,R2,p2⟩
 by_cases hlt:k < ws.length
 ·refine .inr ⟨hgo k H2 m2 e2 hlt,Pv (k + 1),fun σ' H' p' => ⟨ws.length - (k + 1),by omega,rfl,hlt,p'⟩,fun x H' y => ?_⟩
  obtain ⟨ee,rx'⟩:=hy k hlt H2 x H' m2 e2 y
  subst ee
  have ed:ws.drop k = ws[k] :: ws.drop (k + 1):=List.drop_eq_getElem_cons hlt
  rw [ed] at p2
  refine hb _ st2 _ _ m2 _ S2 (R2.set i rx') ?_
  unfold forT at p2
  cases eg:gb (ρ2.set i (some ws[k])) st2 with
  | nx ρ3 st3 => rw [eg] at p2; exact fun σ3 m3 H3 e3 S3 R3 => ⟨ρ3,st3,m3,e2.trans e3,S3,R3,PostS.shift p2 e3⟩
  | ct ρ3 st3 => rw [eg] at p2; exact fun σ3 m3 H3 e3 S3 R3 => ⟨ρ3,st3,m3,e2.trans e3,S3,R3,PostS.shift p2 e3⟩
  | bk ρ3 st3 => rw [eg] at p2; exact p2
  | rt w3 st3 => rw [eg] at p2; exact p2
  | err c3 ρ3 st3 => rw [eg] at p2; exact p2
  | bad => rw [eg] at p2; exact p2
 ·have e:k = ws.length:=by omega
  subst e
  rw [List.drop_length] at p2
  exact .inl ⟨hstop _ H2 m2 e2 rfl,p2 σ2 m2 H2 Ext.refl S2 R2⟩
def iSeq (K:PySem.W.Frag) (tl:TE):TI:=fun σ H R => tl σ H fun x H1 => ∃ a,x = .ref a ∧ (((∃ xs,SqL K H1 a xs) ∧ R (Itl K a) H1) ∨ ((∃ xs,SqT K H1 a xs) ∧ R (Itt K a) H1))
theorem pi_seq {tg l:Expr} {tl:TE} (hl:PE X l tl):PI X tg l (iSeq X.K tl):=by
 intro pins s σ H R I h
 refine thn (hl pins s σ H _ I h) fun v s1 ⟨x,H1,I1,r1,q1⟩ => ?_
 obtain ⟨a,e,q1⟩:=q1
 subst e
 cases r1
 have frs:∀ b ∈ [s1.heap.objs.size],FpOk X pins H1 b:=fun b hb => by
  have e:b = s1.heap.objs.size:=by simpa using hb
  subst e
  exact I1.fpOk (Nat.le_refl _) (I1.hok.fresh (Nat.le_refl _))
 rcases q1 with ⟨⟨xs,hq⟩,q⟩ | ⟨⟨xs,hq⟩,q⟩
 ·obtain ⟨its,rv,p,hz⟩:=I1.list hq
  refine wpAny_pyIter_list p.isList ?_
  exact ⟨s1.heap.objs.size,[s1.heap.objs.size],_,_,H1,rfl,I1.kept (t':=s1.toks) fun b o e => Heap.get?_push_of_some _ e,turn_list a _,⟨_,Heap.get?_push_size _ rfl,rfl,rfl⟩,frs,q⟩
 ·obtain ⟨its,rv,p,hz⟩:=I1.tuple hq
  refine wpAny_pyIter_tuple (show s1.heap.IsTuple a its.toArray from p) ?_
  exact ⟨s1.heap.objs.size,[s1.heap.objs.size],_,_,H1,rfl,I1.kept (t':=s1.toks) fun b o e => Heap.get?_push_of_some _ e,turn_tuple a _,⟨_,Heap.get?_push_size _ rfl,rfl,rfl⟩,frs,q⟩
noncomputable def gFor (i:Nat) (gi:GE) (gb:GS):GS:=fun ρ st => (gi ρ st).thn ρ fun w st1 => match w with
 | .ref l => (match lstOf st1 l with | some ws => forL i gb l ws ws ρ st1 | none => .bad)
 | .tup ws => forT i gb ws ρ st1
 | .ktp ws => forT i gb ws ρ st1
 | _ => .bad
theorem js_for (i:Nat) {x:Str} {iter:Expr} {body:List Stmt} {gi:GE} {gb:GS} {pos pos':Pos} (hN:X.N.Nodup) (hp:PassesOwn (model X.prog X.w) X.A X.env X.xe) (hc:X.calm = true) (hi:JE X iter gi) (hb:JSs X body gb)
  (hx:X.N[i]? = some x) (hlo:Loc X.env.scope x) (hlf:X.fn x = true ∨ X.env.scope.names.lookup x = some .local)
  (hs:∀ x,foldedSetIterable iter X.env x = pure x):JS X (.For (.Name x pos') iter body [] pos) (gFor i gi gb):=by
 refine JS.of (ps_for hp hc (pi_seq pe_SE) (pg_name hN hx hlo hlf) pss_SSs hs) fun ρ st σ H m D S R p => ?_
 refine hi.go S R (PostS.of_thn R p) fun w st1 v m1 H1 p1 e1 S1 rw' => ?_
 cases w with
 | ref l =>
  have p1':PostS X m H (match lstOf st1 l with | some ws => forL i gb l ws ws ρ st1 | none => .bad) D:=p1
  unfold RelW at rw'
  obtain ⟨a,rfl,hla⟩:=rw'
  cases el:lstOf st1 l with
  | none => rw [el] at p1'; exact False.elim p1'
  | some ws =>
   rw [el] at p1'
   obtain ⟨xs0,q0,_⟩:=S1.read hla el
   refine ⟨a,rfl,.inl ⟨⟨xs0,q0⟩,?_⟩⟩
   let Pv:Nat → St → Hp → Prop:=fun k σ H => ∃ ρ st m',Ext X.K m1 H1 m' H ∧ Sim X.K m' st H ∧ RelEnv X.K m' H ρ σ ∧ lstOf st l = some ws ∧ PostS X m' H (forL i gb l ws (ws.drop k) ρ st) D
   refine ⟨fun k n σ H => n = ws.length - k ∧ k ≤ ws.length ∧ Pv k σ H,⟨ws.length,by simp,Nat.zero_le _,ρ,st1,m1,Ext.refl,S1,R.mono e1,el,PostS.shift p1' e1⟩,?_⟩
   rintro k n σ2 H2 ⟨rfl,hk,ρ2,st2,m2,e2,S2,R2,l2,p2⟩
   obtain ⟨xs,hq,rws⟩:=S2.read (e2.pre _ _ hla) l2
   have hlen:=rws.length
   by_cases hlt:k < ws.length
   ·have hx':k < xs.length:=by omega
    refine .inr ⟨⟨xs,xs[k],hq,by simp [hx']⟩,Pv (k + 1),fun σ' H' p' => ⟨ws.length - (k + 1),by omega,rfl,hlt,p'⟩,fun x H' y => ?_⟩
    obtain ⟨ee,y⟩:=y
    subst ee
    have ey:=y xs hq
    have ed:ws.drop k = ws[k] :: ws.drop (k + 1):=List.drop_eq_getElem_cons hlt
    obtain ⟨x',ex',rx'⟩:=rws.get (i:=k) (w:=ws[k]) (List.getElem?_eq_getElem hlt)
    rw [ey] at ex'
    cases ex'
    rw [ed] at p2
    refine hb _ st2 _ _ m2 _ S2 (R2.set i rx') ?_
    unfold forL at p2
    cases eg:gb (ρ2.set i (some ws[k])) st2 with
    | nx ρ3 st3 =>
     rw [eg] at p2
     by_cases c:lstOf st3 l = some ws
     ·simp only [if_pos c] at p2
      exact fun σ3 m3 H3 e3 S3 R3 => ⟨ρ3,st3,m3,e2.trans e3,S3,R3,c,PostS.shift p2 e3⟩
     ·simp only [if_neg c] at p2; exact False.elim p2
    | ct ρ3 st3 =>
     rw [eg] at p2
     by_cases c:lstOf st3 l = some ws
     ·simp only [if_pos c] at p2
      exact fun σ3 m3 H3 e3 S3 R3 => ⟨ρ3,st3,m3,e2.trans e3,S3,R3,c,PostS.shift p2 e3⟩
     ·simp only [if_neg c] at p2; exact False.elim p2
    | bk ρ3 st3 => rw [eg] at p2; exact p2
    | rt w3 st3 => rw [eg] at p2; exact p2
    | err c3 ρ3 st3 => rw [eg] at p2; exact p2
    | bad => rw [eg] at p2; exact p2
   ·have e:k = ws.length:=by omega
    subst e
    rw [List.drop_length] at p2
    exact .inl ⟨⟨xs,hq,by omega⟩,p2 σ2 m2 H2 Ext.refl S2 R2⟩
 | tup ws =>
  unfold RelW at rw'
  obtain ⟨a,xs,rfl,hq,rws⟩:=rw'
  have hlen:=rws.length
  refine ⟨a,rfl,.inr ⟨⟨xs,SqT.of hq⟩,?_⟩⟩
  refine for_core i hb (ws:=ws) S1 (R.mono e1) (PostS.shift p1 e1) (fun k H m' e hk => ?_) (fun k H m' e hk => ?_) fun k hk H x H' m' e y => ?_
  ·have hx':k < xs.length:=by omega
   exact ⟨xs,xs[k],SqT.of (e.tup _ _ hq),by simp [hx']⟩
  ·exact ⟨xs,SqT.of (e.tup _ _ hq),by omega⟩
  ·obtain ⟨ee,y⟩:=y
   refine ⟨ee,?_⟩
   obtain ⟨x',ex',rx'⟩:=(RelWs.mono e _ _ rws).get (i:=k) (w:=ws[k]) (List.getElem?_eq_getElem hk)
   rw [y xs (SqT.of (e.tup _ _ hq))] at ex'
   cases ex'
   exact rx'
 | ktp ws =>
  unfold RelW at rw'
  obtain ⟨a,xs,rfl,hq,rws⟩:=rw'
  have hlen:=rws.length
  refine ⟨a,rfl,.inr ⟨⟨xs,.inr hq⟩,?_⟩⟩
  refine for_core i hb (ws:=ws) S1 (R.mono e1) (PostS.shift p1 e1) (fun k H m' e hk => ?_) (fun k H m' e hk => ?_) fun k hk H x H' m' e y => ?_
  ·have hx':k < xs.length:=by omega
   exact ⟨xs,xs[k],.inr hq,by simp [hx']⟩
  ·exact ⟨xs,.inr hq,by omega⟩
  ·obtain ⟨ee,y⟩:=y
   refine ⟨ee,?_⟩
   obtain ⟨x',ex',rx'⟩:=(RelWs.mono e _ _ rws).get (i:=k) (w:=ws[k]) (List.getElem?_eq_getElem hk)
   rw [y xs (.inr hq)] at ex'
   cases ex'
   exact rx'
 | _ => exact False.elim p1
def rngW (lo:Int) (n:Nat):List Wv:=(List.range n).map fun k:Nat => Wv.int (lo + k)
theorem rngW_get? {lo:Int} {n k:Nat} (h:k < n):(rngW lo n)[k]? = some (.int (lo + k)):=by
 unfold rngW
 rw [List.getElem?_map,List.getElem?_range h]
 rfl
theorem rngW_get {lo:Int} {n k:Nat} (h:k < (rngW lo n).length):(rngW lo n)[k] = .int (lo + k):=by
 have q:=rngW_get? (lo:=lo) (n:=n) (k:=k) (by unfold rngW at h; simpa using h)
 rw [List.getElem?_eq_getElem h] at q
 exact Option.some.inj q
theorem rngW_len {lo:Int} {n:Nat}:(rngW lo n).length = n:=by unfold rngW; simp
def CRng (i:Int):Prop:=-(2 ^ 62) ≤ i ∧ i < 2 ^ 62
noncomputable instance {i}:Decidable (CRng i):=Classical.propDecidable _
noncomputable def gForR1 (i:Nat) (ga:GA) (gb:GS):GS:=fun ρ st => (ga ρ st).thn ρ fun ws st1 => match ws with
 | [.int j] => if CRng j then forT i gb (rngW 0 j.toNat) ρ st1 else .bad
 | _ => .bad
theorem for_rng (i:Nat) {body:List Stmt} {gb:GS} (hb:JSs X body gb) {lo:Int} {n:Nat} {m1:Mp} {H1:Hp} {st1:Hs} {ρ:Rho} {σ:St} {D:Ends} (S1:Sim X.K m1 st1 H1) (R:RelEnv X.K m1 H1 ρ σ) (p1:PostS X m1 H1 (forT i gb (rngW lo n) ρ st1) D) :
  ∃ W:Nat → Nat → St → Hp → Prop,(∃ m,W 0 m σ H1) ∧ ∀ k n' σ H,W k n' σ H →
   ((Itr lo n).stop k H ∧ D.nx σ H) ∨ ((Itr lo n).go k H ∧ ∃ N:St → Hp → Prop,(∀ σ' H',N σ' H' → ∃ m',m' < n' ∧ W (k + 1) m' σ' H') ∧ ∀ x H',(Itr lo n).yld k H x H' → gName i x σ H' fun σ2 H2 => SSs X body { D with nx:=N,ct:=N,bk:=D.nx } σ2 H2) :=
 for_core i hb S1 R p1 (fun k H m' e hk => by rw [rngW_len] at hk; exact hk) (fun k H m' e hk => by rw [rngW_len] at hk; exact Nat.le_of_eq hk.symm) fun k hk H x H' m' e y => by
  obtain ⟨y1,y2⟩:=y
  refine ⟨y1,?_⟩
  rw [rngW_get,y2]
  exact mkInt
theorem js_forR1 (i:Nat) {x:Str} {a:Expr} {body:List Stmt} {ga:GA} {gb:GS} {pos pos' p q:Pos} (hN:X.N.Nodup) (hp:PassesOwn (model X.prog X.w) X.A X.env X.xe) (hc:X.calm = true) (hg:Gl X "range") (hm:X.mg "range" = none) (ha:JA X [a] ga) (hb:JSs X body gb)
  (hx:X.N[i]? = some x) (hlo:Loc X.env.scope x) (hlf:X.fn x = true ∨ X.env.scope.names.lookup x = some .local) (hst:starEach [a] X.env = [(false,eval a X.env)]):JS X (.For (.Name x pos') (.Call (.Name "range" p) [a] [] q) body [] pos) (gForR1 i ga gb):=by
 refine JS.of (ps_for hp hc (pi_range1 hg hm pa_SA hst) (pg_name hN hx hlo hlf) pss_SSs (fun _ => rfl)) fun ρ st σ H m D S R p => ?_
 refine ha.go S R (PostS.of_thn R p) fun ws st1 vs m1 H1 p1 e1 S1 rs => ?_
 match ws,rs,p1 with
 | [],rs,p1 => exact False.elim p1
 | x :: y :: t,rs,p1 => cases x <;> exact False.elim p1
 | [x],rs,p1 =>
  obtain ⟨v,rfl,r1⟩:=rel1 rs
  cases x with
  | int j =>
   cases relInt r1
   have p2:PostS X m H (if CRng j then forT i gb (rngW 0 j.toNat) ρ st1 else .bad) D:=p1
   by_cases c:CRng j
   ·rw [if_pos c] at p2
    exact ⟨j,rfl,c.1,c.2,for_rng i hb S1 (R.mono e1) (PostS.shift p2 e1)⟩
   ·rw [if_neg c] at p2; exact False.elim p2
  | _ => exact False.elim p1
theorem js_retN {pos:Pos}:JS X (.Return none pos) (gRet (gC .non)):=JS.of ps_retN fun ρ st σ H m D S R p => p .non m H Ext.refl S mkNon
end
end J
namespace J
open PySem PySem.Spec PyProof.Rows L2
abbrev bmV:List Value:=[.type "ValueError",.type "Exception",.type "BaseException",.type "object"]
abbrev nwV:String:="ValueError.__new__"
structure ExcC (K:PySem.W.Frag) (c:PySem.Str) (C:Addr):Prop where
 cls:ClsAt K c C
 exc:PySem.W.excIn K C bmV nwV = true
theorem exc_obj {K:PySem.W.Frag} {h:Heap} {C:Addr} (KX:K.In h) (q:PySem.W.excIn K C bmV nwV = true) :
  ∃ (bm:List Value) (N:Addr) (nm qn:Str) (bs:List Value) (hd:Bool) (sn:List Str) (sub:List Value) (ab:Bool) (col:Option Bool) (dd:Option Addr) (k0 k1 k2 k3 k5:Option Value) (mN:Str → Option Value),
   h.get? C = some (excClassObj nm qn C N bs bm hd sn sub ab col dd k0 k1 k2 k3 k5 nwV) ∧ h.Ns N mN ∧ mN "__init__" = none ∧ OwnTail h bmV bm ∧ (∀ v r,PySem.W.mroIn K C v = some r → (Value.ref C :: bm).contains v = r):=by
 unfold PySem.W.excIn at q
 split at q
 ·rename_i dd cd sl lk
  split at q
  ·rename_i C1 bm k0 k1 k2 k3 n1 k5 em es
   simp only [Bool.and_eq_true,beq_iff_eq,Bool.not_eq_true'] at q
   obtain ⟨⟨⟨⟨⟨q1,q2⟩,q3⟩,q4⟩,q5⟩,q6⟩:=q
   subst q1 q2
   obtain ⟨nm,bs,mro,N,qn,hd,sn,sub,ab,col,del⟩:=cd
   dsimp only at em q3 q5 q6
   subst em q3
   have esl:sl = #[k0,k1,k2,k3,some (.builtin nwV),k5]:=by
    cases sl with
    | mk l => exact congrArg Array.mk es
   subst esl
   refine ⟨bm,N,nm,qn,bs,hd,sn,sub,ab,col,dd,k0,k1,k2,k3,k5,_,KX _ _ lk,.of_isNs (PySem.W.isNs_of_in KX q5),PySem.W.nsMap_none_of_in KX q5 q6,PySem.W.tail_of_in KX q4,fun v r e => ?_⟩
   unfold PySem.W.mroIn PySem.W.clsIn at e
   rw [lk] at e
   first
    | exact Option.some.inj e
    | (simp at e; exact e)
  ·cases q
 ·cases q
section
variable {X:Cx}
def gRaise (c:PySem.Str) (ga:GA):GS:=fun ρ st => (ga ρ st).thn ρ fun ws st1 => if ws.length ≤ lim then .err c ρ st1 else .bad
theorem js_raise {c:Str} {C:Addr} {e:Expr} {es:List Expr} {ga:GA} {np cpos pos:Pos} (hc:X.calm = true) (O:ExcC X.K c C) (hg:Gl X c) (hm:X.mg c = some (.ref C)) (ha:JA X (e :: es) ga) (hd:(c == ("__debug__":Str)) = false)
  (he:starEach (e :: es) X.env = (false,eval e X.env) :: starEach es X.env) (hpl:(backTo cpos (starEach es X.env)).any (·.1) = false):JS X (.Raise (some (.Call (.Name c np) (e :: es) [] cpos)) none pos) (gRaise c ga):=by
 intro ρ st σ H m D S R p pins s I
 have args:=ha.go (T:=fun vs H1 => ∃ ws st1 m1,PostS X m H (if ws.length ≤ lim then .err c ρ st1 else .bad) D ∧ Ext X.K m H m1 H1 ∧ Sim X.K m1 st1 H1 ∧ RelWs X.K m1 H1 ws vs) S R (PostS.of_thn R p)
  fun ws st1 vs m1 H1 p1 e1 S1 rs => ⟨ws,st1,m1,p1,e1,S1,rs⟩
 obtain ⟨bm,N,nm,qn,bs,hdd,sn,sub,ab,col,dd,k0,k1,k2,k3,k5,mN,hC,hN,hni,T,_⟩:=exc_obj I.ok.mod.kin O.exc
 refine wpAny_Raise_call_subU (C:=C) (nm:=nm) (q:=qn) (N:=N) (bs:=bs) (bm:=bm) (hdct:=hdd) (sn:=sn) (sub:=sub) (ab:=ab) (col:=col) (dd:=dd) (k0:=k0) (k1:=k1) (k2:=k2) (k3:=k3) (k5:=k5) (bmB:=bmV)
  F.excBase_ValueError (by decide) F.excBase_ValueError (mN:=mN) (T.hasType F.excBase_ValueError.hasBase) (I.ok.hd hc) ?_ hni (ld_glob I hg hm ⟨rfl,?_⟩ hd)
 ·rw [he]
  show (false || (backTo cpos (starEach es X.env)).any (·.1)) = false
  rw [hpl]
  rfl
 ·have go:=args cpos pins s I
  rw [he] at go ⊢
  refine Calls.evalArgs_plain (thn go fun us s1 ⟨vs,H1,I1,r,ws,st1,m1,p1,e1,S1,rs⟩ => ?_)
  by_cases cl:ws.length ≤ lim
  ·rw [if_pos cl] at p1
   refine ⟨rfl,by rw [← r.length,← rs.length]; exact lim_le cl,I1.bk _ _ hC,hN.keeps I1.bk,T.keeps I1.bk,fun h2 a M => ?_⟩
   exact p1 σ m1 H1 _ _ e1 S1 (R.mono e1) ⟨C,pins,H1,s1,O.cls,I1,.inr ⟨rfl,a,us,rfl,rfl,rfl,M⟩⟩
  ·rw [if_neg cl] at p1; exact False.elim p1
end
end J
namespace J
open PySem PySem.Spec PyProof.Rows L2
structure ExcK (K:PySem.W.Frag) (C:Addr):Prop where
 exc:PySem.W.excIn K C bmV nwV = true
 ga:PySem.W.findIn K (.ref C) "__getattribute__" = some (some (.builtin "BaseException.__getattribute__"))
 gx:PySem.W.findIn K (.ref C) "__getattr__" = some none
 cl:PySem.W.findIn K (.ref C) "__class__" = some (some (.builtin "object.__class__"))
section
variable {prog:Program} {w:World} {A:Around} {E:Value → Shared → Prop} {h:Heap} {g:Array GenState} {d:Drawn} {t:Nat} {os:OsState} {a C:Addr} {o:Obj} {K:PySem.W.Frag}
theorem xc_get {R:Result → Shared → Prop} (Y:K.In h) (Z:ExcK K C) (ha:h.get? a = some o) (hc:o.cls = .ref C) (k:R (.ok (.ret (.ref C))) ⟨h,g,d,t,os⟩) :
  codeAny (model prog w) A (.call (.builtin "getset_descriptor.__get__") ⟨[.builtin "object.__class__",.ref a,.ref C],[]⟩) R ⟨h,g,d,t,os⟩:=by
 obtain ⟨bm,N,nm,qn,bs,hdd,sn,sub,ab,col,dd,k0,k1,k2,k3,k5,mN,hC,hN,hni,T,_⟩:=exc_obj Y Z.exc
 have ty:(⟨h,g,d,t,os⟩:Shared).TypeIs (.builtin "object.__class__") "getset_descriptor":=F.typeOf_object_class
 have own:(Value.ref C :: bm).contains (.type (".".intercalate ("object.__class__".cutAt '.').dropLast)) = true:=by
  rw [F.owner_object_class,List.contains_cons,T.hasType (X:="object") (b:=true) (by decide)]; rfl
 refine codeAny_call_builtin F.slot_gs_get.plain F.entry_gs_get (F.slot_gs_get.check _ _ _ _ _ _ _ _ ty (F.args_gs_get _ _ _) ?_)
 repeat (any_goals (first | assumption | (with_reducible refine wpAny_loadPart_at ha ?_; rw [hc]) | (with_reducible refine wpAny_isSubtype_exc hC ?_; rw [own]) | wp_step))
 refine ⟨Code.quiet_builtin _ (by decide +kernel),codeAny_builtin F.entry_object_class ?_⟩
 repeat (any_goals (first | assumption | (with_reducible refine wpAny_loadPart_at ha ?_; rw [hc]) | wp_step))
theorem xc_entry {tk:Tok} {Q:Fin → Shared → Prop} (Y:K.In h) (Z:ExcK K C) (ha:h.get? a = some o) (hc:o.cls = .ref C) (k:Q (.done (.ret (.ref C))) ⟨h,g,d,t,os⟩) :
  wpAny (model prog w) A (Builtin.«object.__getattribute__» ⟨[.ref a,.str "__class__" tk],[]⟩) Q E ⟨h,g,d,t,os⟩:=by
 have ty:(⟨h,g,d,t,os⟩:Shared).TypeIs (.builtin "object.__class__") "getset_descriptor":=F.typeOf_object_class
 have t1:=F.typeOf_object_class
 have t2:=F.slot_gs_get.lookup
 have t3:=F.slot_gs_set.lookup
 have L:=PySem.W.looks_findIn (M:=model prog w) Y Z.cl
 repeat (any_goals (first | assumption | (with_reducible refine wpAny_loadPart_at ha ?_; rw [hc]) | with_reducible refine L.at ?_ | wp_step))
 refine xc_get Y Z ha hc ?_
 repeat (any_goals (first | assumption | wp_step))
theorem xc_check {M:Model} {nv:Value} {Q:Unit → Shared → Prop} (Y:K.In h) (Z:ExcK K C) (ha:h.get? a = some o) (hc:o.cls = .ref C) (k:Q () ⟨h,g,d,t,os⟩) :
  wpAny M A (checkBuiltinCall "BaseException.__getattribute__" ⟨[.ref a,nv],[]⟩) Q E ⟨h,g,d,t,os⟩:=by
 obtain ⟨bm,N,nm,qn,bs,hdd,sn,sub,ab,col,dd,k0,k1,k2,k3,k5,mN,hC,hN,hni,T,_⟩:=exc_obj Y Z.exc
 have u1:builtinKind "BaseException.__getattribute__" = some .slot:=by decide +kernel
 have u2:splitId "BaseException.__getattribute__" = some ("BaseException","__getattribute__"):=by decide +kernel
 have u3:(Value.ref C :: bm).contains (.type "BaseException") = true:=by rw [List.contains_cons,T.hasType (X:="BaseException") (b:=true) (by decide)]; rfl
 have u4:=F.args_bexc_ga (.ref a) nv
 simp only [checkBuiltinCall,u1,u2]
 refine wpAny_bind ?_
 unfold isInstance
 repeat (first | (with_reducible refine wpAny_loadPart_at ha ?_; rw [hc]) | (with_reducible refine wpAny_isSubtype_exc hC ?_; rw [u3]) | wp_step)
 exact k
theorem xc_by {tk:Tok} {Q:Value → Shared → Prop} (Y:K.In h) (Z:ExcK K C) (ha:h.get? a = some o) (hc:o.cls = .ref C) (k:Q (.ref C) ⟨h,g,d,t,os⟩) :
  wpAny (model prog w) A (getAttrBy (.ref a) (.str "__class__" tk) false) Q E ⟨h,g,d,t,os⟩:=by
 have v1:=F.excAttr_ValueError.ga.bind (.ref a)
 have v2:(Value.builtin "BaseException.__getattribute__" == Value.builtin "object.__getattribute__") = false:=by decide +kernel
 have v3:(onTheHeap (Value.ref C) && Value.builtin "BaseException.__getattribute__" == Value.builtin "object.__getattribute__") = false:=by rw [v2]; rfl
 have v4:(false && onTheHeap (Value.builtin "BaseException.__getattribute__")) = false:=rfl
 have L1:=PySem.W.looks_findIn (M:=model prog w) Y Z.ga
 have L2:=PySem.W.looks_findIn (M:=model prog w) Y Z.gx
 repeat (any_goals (first | assumption | (with_reducible refine wpAny_loadPart_at ha ?_; rw [hc]) | with_reducible refine L1.at ?_ | with_reducible refine L2.at ?_ | wp_step))
 refine codeAny_call_builtin F.excAttr_ValueError.ga.plain F.entry_bexc_ga (xc_check Y Z ha hc (xc_entry Y Z ha hc ?_))
 repeat (any_goals (first | assumption | wp_step))
theorem xc_attr {Q:Option Value → Shared → Prop} (Y:K.In h) (Z:ExcK K C) (ha:h.get? a = some o) (hc:o.cls = .ref C) (k:Q (some (.ref C)) ⟨h,g,d,t + 1,os⟩) :
  wpAny (model prog w) A (getAttr? (.ref a) "__class__") Q E ⟨h,g,d,t,os⟩:=by
 unfold getAttr? getAttrBy?
 repeat (any_goals (first | assumption | with_reducible apply xc_by Y Z ha hc | wp_step))
end
end J
namespace J
open PySem PySem.Spec PyProof.Rows L2
structure Stk (X:Cx):Prop where
 st:X.stack = X.env :: X.outer
 fr:X.env.frame = some X.env.locals
 ex:X.ex = []
theorem objOk_get {P:Program} {w:World} {H:Hp} {h:Heap} {a:Addr} {o:HO} (x:ObjOk P w H h a o):∃ u,h.get? a = some u:=by
 cases o with
 | lst xs => obtain ⟨_,_,_,_,e⟩:=x; exact ⟨_,e⟩
 | tup xs => obtain ⟨_,_,_,⟨ob,e,_⟩,_⟩:=x; exact ⟨_,e⟩
 | dK kvs => obtain ⟨_,_,_,_,ob,_,_,e,_⟩:=x; exact ⟨_,e⟩
 | dT kvs => obtain ⟨_,_,_,_,ob,_,_,e,_⟩:=x; exact ⟨_,e⟩
 | set S n => obtain ⟨ob,_,_,_,e,_⟩:=x; exact ⟨_,e⟩
 | ins C dx fs => obtain ⟨_,_,_,e,_⟩:=x; exact ⟨_,e⟩
 | own y => exact x
 | xd fs => obtain ⟨_,⟨_,_,_,e,_⟩,_⟩:=x; exact ⟨_,e⟩
 | rng lo hi => obtain ⟨_,_,_,e⟩:=x; exact ⟨_,e⟩
 | frz ob u => obtain ⟨e,_⟩:=x; exact ⟨_,e⟩
 | tbl ps => exact ⟨_,x⟩
 | met f y => exact ⟨_,x⟩
 | ext φ => exact x.2.1
def New0 (X:Cx) (a:Addr):Prop:=X.s₀.heap.get? a = none ∧ (∀ xs,X.H₀ a ≠ some (.tup xs)) ∧ (∀ o u,X.H₀ a ≠ some (.frz o u)) ∧ ∀ ps,X.H₀ a ≠ some (.tbl ps)
def NoCx (o:Obj):Prop:=∃ vs,o.data = .fields vs ∧ vs[2]? = some Value.none
section
variable {X:Cx} {pins:List (Addr × Obj)} {σ:St} {Hc H':Hp} {sc s':Shared} {B h2:Heap} {a C:Addr} {a0:Value} {ch:List Addr}
theorem exn_inv (I:Inv X pins σ Hc sc) (os:s'.os = sc.os) (bare:AllBare s'.gens) (hch:∀ b ∈ ch,FpOk X pins Hc b) (un:Un (frs X.stack) ch Hc H' sc.heap s'.heap) (hok:HOk X.prog X.w H' B) (fl:FlyX B X.stack a (.ref C) a0 h2) (up:s'.heap.UpToSlots h2)
  (cov:∀ b o,sc.heap.get? b = some o → b ∉ frs X.stack → b ∉ ch → ∃ o',B.get? b = some o' ∧ (Hc b = none → o' = o)) {tk:Nat} :
  (∃ o,NoCx o ∧ Inv X pins σ (upd H' a (.frz o (.ext (ExnAt a C)))) { s' with heap:=h2,toks:=tk }) ∧ H' a = none ∧ (X.ex = [] → New0 X a):=by
 have stay:=fl.1
 obtain ⟨oe,vs,hoe,hcl,hda,hcx⟩:=fl.first
 have isx:ExnAt a C h2:=⟨oe,hoe,hcl,vs,hda⟩
 have ha:H' a = none:=by
  cases q:H' a with
  | none => rfl
  | some u =>
   obtain ⟨z,e⟩:=objOk_get (hok a u q)
   rw [fl.2.1] at e
   cases e
 have nfr:a ∉ frs X.stack:=fun z => by
  obtain ⟨_,o1,e1,d1⟩:=fl.2.2.1.mem z
  rw [hoe] at e1
  cases e1
  exact d1 vs hda
 have nch:∀ b ∈ frs X.stack,b ∉ ch:=fun b hb z => by
  rcases List.mem_cons.mp (I.stkSub b hb) with q | q
  ·exact (hch b z).2.1 q
  ·exact (hch b z).2.2.1 q
 have new:a ∉ ch → ∀ o,sc.heap.get? a ≠ some o:=fun hx o e => by
  obtain ⟨o1,e1,_⟩:=cov a o e nfr hx
  rw [fl.2.1] at e1
  cases e1
 have ne:∀ b u,H' b = some u → b ≠ a:=fun b u e => ne_of_none e ha
 have sl:∀ b o,sc.heap.get? b = some o → Hc b = none → b ∈ frs X.stack → ∃ sl,h2.get? b = some { o with slots:=sl }:=fun b o e n hb => by
  obtain ⟨s1,e1⟩:=un.slot b o e n hb (nch b hb)
  obtain ⟨_,o1,e2,d1⟩:=I.stack.mem hb
  rw [e] at e2
  cases e2
  obtain ⟨s2,e3⟩:=up b _ e1 d1
  exact ⟨s2,e3⟩
 refine ⟨⟨oe,⟨vs,hda,hcx⟩,?_⟩,ha,fun hex => ?_⟩
 rotate_left
 ·refine ⟨?_,fun xs q => ?_,fun o u q => ?_,fun ps q => ?_⟩
  rotate_left
  ·have z:=un.tups _ _ (I.base.tups _ _ q)
   rw [ha] at z; cases z
  ·have z:=un.frzs _ _ _ (I.base.frzs _ _ _ q)
   rw [ha] at z; cases z
  ·obtain ⟨_,z⟩:=I.base.tbls _ _ q
   obtain ⟨_,z⟩:=un.tbls _ _ z
   rw [ha] at z; cases z
  cases q:X.s₀.heap.get? a with
  | none => rfl
  | some o0 =>
   obtain ⟨o1,q1⟩:=I.base.there a o0 q (by rw [hex]; simp)
   refine absurd q1 (new (fun z => ?_) o1)
   rcases (hch a z).2.2.2.1 with y | y
   ·rw [hex] at y; cases y
   ·exact absurd (Nat.lt_of_lt_of_le (Heap.lt_size q) y) (Nat.lt_irrefl _)
 refine I.call' (s':={ s' with heap:=h2,toks:=tk }) (ch:=ch) os ?_ ?_ bare (fun b z => ⟨(hch b z).2.2.2.1,(hch b z).2.1,(hch b z).2.2.2.2.1,(hch b z).2.2.2.2.2⟩)
 ·refine ⟨fun b o e n hb hx => ?_,fun b o e n hb _ => sl b o e n hb,fun b o e n hx => ?_,fun b o e hx => ?_,fun b xs h => ?_,fun b o u h => ?_,fun b ps h => ?_⟩
  ·obtain ⟨o1,e1,e2⟩:=cov b o e hb hx
   rw [e2 n] at e1
   exact stay b o e1
  ·have ba:b ≠ a:=fun z => by subst z; exact new hx o e
   rw [upd_ne ba]
   exact un.free b o e n hx
  ·by_cases hb:b ∈ frs X.stack
   ·obtain ⟨s2,e2⟩:=sl b o e (I.stkFree b hb) hb
    exact ⟨_,e2⟩
   ·obtain ⟨o1,e1,_⟩:=cov b o e hb hx
    exact ⟨o1,stay b o1 e1⟩
  ·have q:=un.tups b xs h
   rw [upd_ne (ne b _ q)]
   exact q
  ·have q:=un.frzs b o u h
   rw [upd_ne (ne b _ q)]
   exact q
  ·obtain ⟨m1,q⟩:=un.tbls b ps h
   refine ⟨m1,?_⟩
   rw [upd_ne (ne b _ q)]
   exact q
 ·intro b u e
  by_cases hb:b = a
  ·subst hb
   rw [upd_same] at e
   cases e
   exact ⟨hoe,isx,⟨oe,hoe⟩,fun h3 h4 p k => let ⟨o1,q1,q2,q3⟩:=p; ⟨o1,k o1 q1,q2,q3⟩⟩
  ·rw [upd_ne hb] at e
   exact (hok b u e).stay (fun c v _ q => stay c v q) (fun c q => by rw [upd_ne (ne c _ q)]; exact q) fun c xs q => by rw [upd_ne (ne c _ q)]; exact q
end
theorem catch_own {M:Model} {A:Around} {E:Value → Shared → Prop} {s:Shared} {K:PySem.W.Frag} {a C D:Addr} {o:Obj} {b:Bool} {Q:Bool → Shared → Prop} (Y:K.In s.heap) (ZC:PySem.W.excIn K C bmV nwV = true) (ZD:PySem.W.excIn K D bmV nwV = true)
  (hm:PySem.W.mroIn K C (.ref D) = some b) (ha:s.heap.get? a = some o) (hc:o.cls = .ref C) (k:Q b s):wpAny M A (excMatches (.ref a) (.ref D)) Q E s:=by
 obtain ⟨h,g,d,t,os⟩:=s
 obtain ⟨bm,N,nm,qn,bs,hdd,sn,sub,ab,col,dd,k0,k1,k2,k3,k5,mN,hC,hN,hni,T,mr⟩:=exc_obj Y ZC
 obtain ⟨bm',N',nm',qn',bs',hdd',sn',sub',ab',col',dd',k0',k1',k2',k3',k5',mN',hD,hN',hni',T',mr'⟩:=exc_obj Y ZD
 have e1:(Value.ref C :: bm).contains (.ref D) = b:=mr _ _ hm
 have e2:(Value.ref D :: bm').contains (.type "BaseException") = true:=by rw [List.contains_cons,T'.hasType (X:="BaseException") (b:=true) (by decide)]; rfl
 have f:=tc_notTuple
 unfold excMatches
 repeat (first | (with_reducible refine wpAny_loadPart_at ha ?_; rw [hc]) | with_reducible refine wpAny_loadPart_at hD ?_ | (with_reducible refine wpAny_isSubtype_exc hD ?_; rw [e2]) | (with_reducible refine wpAny_isSubtype_exc hC ?_; rw [e1]) | wp_step)
 cases b <;> (wp_walk; exact k)
end J
namespace J
open PySem PySem.Spec PyProof.Rows L2
theorem kitx_exn {K:PySem.W.Frag} {a C:Addr} (Z:ExcK K C):PySem.W.KitX K (.ref a) (.ref C) (ExnAt a C) where
 ty:=fun M h _ p => by
  obtain ⟨o,h1,h2,_⟩:=p
  rw [← h2]
  exact (PySem.W.Looks.ld h1).andThen .now
 it:=fun M h Y _ => by
  obtain ⟨bm,N,nm,qn,bs,hdd,sn,sub,ab,col,dd,k0,k1,k2,k3,k5,mN,hC,_⟩:=exc_obj Y Z.exc
  intro A' Q' E' s' k q
  unfold isType loadHead
  exact wpAny_bind (wpAny_loadPart (k _ _ hC) (wpAny_pure q))
 ne:=fun h tp dd its n sl Y e => by
  obtain ⟨bm,N,nm,qn,bs,hdd,sn,sub,ab,col,dd',k0,k1,k2,k3,k5,mN,hC,_⟩:=exc_obj Y Z.exc
  refine Bool.eq_false_iff.mpr fun q => ?_
  have z:C = tp:=Value.ref.inj (beq_iff_eq.mp q)
  subst z
  rw [hC] at e
  have z2:Value.type "type" = Value.type "tuple":=congrArg Obj.cls (Option.some.inj e)
  exact absurd z2 (by decide)
 ca:=fun {prog w A E Q s} Y p k => by
  obtain ⟨o,h1,h2,_⟩:=p
  obtain ⟨h,g,d,t,os⟩:=s
  exact xc_attr Y Z h1 h2 k
abbrev Tab:=List ((PySem.Str × PySem.Str) × Bool)
abbrev TabT:=List ((PySem.Str × String) × Bool)
structure TabOk (K:PySem.W.Frag) (tb:Tab) (tt:TabT) (tc:Tab):Prop where
 own:∀ c d b C D,tb.lookup (c,d) = some b → ClsAt K c C → ClsAt K d D → ExcK K C ∧ PySem.W.kitOne K (.ref C) (.ref D) = some b
 cat:∀ c d b C D,tc.lookup (c,d) = some b → ClsAt K c C → ClsAt K d D → PySem.W.excIn K C bmV nwV = true ∧ PySem.W.excIn K D bmV nwV = true ∧ PySem.W.mroIn K C (.ref D) = some b
 typ:∀ c T b C,tt.lookup (c,T) = some b → ClsAt K c C → ExcK K C ∧ PySem.W.kitOne K (.ref C) (.type T) = some b
def anyTab (tb:Tab) (c:PySem.Str):List Wv → Option Bool
 | [] => some false
 | .cls d :: r => (match tb.lookup (c,d) with
  | some true => some true
  | some false => anyTab tb c r
  | none => none)
 | _ => none
theorem anyTab_ok {K:PySem.W.Frag} {m:Mp} {H:Hp} {tb:Tab} {tt:TabT} {tc:Tab} (O:TabOk K tb tt tc) {c:PySem.Str} {C:Addr} (hC:ClsAt K c C):∀ {ds:List Wv} {vs:List V} {its:List Value} {b:Bool},RelWs K m H ds vs → Vals vs its → anyTab tb c ds = some b → PySem.W.kitAny K (.ref C) its = some b
 | [],vs,its,b,r,v,e => by
  unfold RelWs at r
  subst r
  cases v
  cases e
  rfl
 | w :: ds,vs,its,b,r,v,e => by
  unfold RelWs at r
  obtain ⟨x,t,rfl,r1,r2⟩:=r
  cases v with
  | cons h1 h2 =>
   cases w with
   | cls d =>
    unfold RelW at r1
    obtain ⟨D,rfl,hD⟩:=r1
    cases h1
    unfold anyTab at e
    unfold PySem.W.kitAny
    cases q:tb.lookup (c,d) with
    | none => rw [q] at e; cases e
    | some k =>
     rw [q] at e
     obtain ⟨_,z3⟩:=O.own c d k C D q hC hD
     rw [z3]
     cases k with
     | true => cases e; rfl
     | false => exact anyTab_ok O hC r2 h2 e
   | _ => cases e
def oIsA (tb:Tab) (tt:TabT):List Wv → Hs → Re Wv
 | [.exn c,.cls d],st => (match tb.lookup (c,d) with | some b => .ok (.bl b) st | none => .bad)
 | [.exn c,.ty T],st => (match tt.lookup (c,T) with | some b => .ok (.bl b) st | none => .bad)
 | [.exn c,.tup (.cls d :: ds)],st => (match anyTab tb c (.cls d :: ds) with | some b => .ok (.bl b) st | none => .bad)
 | ws,st => oIsI ws st
section
variable {X:Cx}
theorem call_isA:CallR X (.builtin "isinstance") (fun vs H Q => ∃ a C v c b,vs = [.ref a,v] ∧ ExH a C (H a) ∧ ExcK X.K C ∧ RelV v c ∧ PySem.W.kitOne X.K (.ref C) c = some b ∧ Q (.bl b) H):=by
 intro pins s σ H xs us Q I r h
 obtain ⟨a,C,v,c,b,rfl,ha,Z,rc,e,q⟩:=h
 obtain ⟨u,u',rfl,r1,r2⟩:=vals2 r
 cases r1
 have uc:u' = c:=by
  cases v with
  | int i => obtain ⟨t,rfl⟩:=rc; cases e
  | str i => obtain ⟨t,rfl⟩:=rc; cases e
  | byt i => obtain ⟨t,rfl⟩:=rc; cases e
  | flt i => obtain ⟨t,rfl⟩:=rc; cases e
  | non => cases rc; cases r2; rfl
  | bl i => cases rc; cases r2; rfl
  | ref i => cases rc; cases r2; rfl
  | ty i => cases rc; cases r2; rfl
 subst uc
 exact PySem.W.kia_one (kitx_exn Z) I.kIn (ex_at I.hok ha) e (by intro z; cases z) fun tk => ⟨.bl b,H,I.tok tk,rfl,q⟩
theorem call_isAT:CallR X (.builtin "isinstance") (fun vs H Q => ∃ a C p xs b,vs = [.ref a,.ref p] ∧ ExH a C (H a) ∧ ExcK X.K C ∧ SqT X.K H p xs ∧ (∀ its,Vals xs its → PySem.W.kitAny X.K (.ref C) its = some b) ∧ Q (.bl b) H):=by
 intro pins s σ H xs us Q I r h
 obtain ⟨a,C,p,ys,b,rfl,ha,Z,hT,e,q⟩:=h
 obtain ⟨u,u',rfl,r1,r2⟩:=vals2 r
 cases r1
 cases r2
 obtain ⟨its,rv,⟨o,g1,g2,n,g3⟩,z⟩:=I.tuple hT
 obtain ⟨oc,od,oda,osl⟩:=o
 cases g2
 cases g3
 exact PySem.W.kia_tup (kitx_exn Z) I.kIn (ex_at I.hok ha) g1 (e its rv) (by intro z; cases z) fun tk => ⟨.bl b,H,I.tok tk,rfl,q⟩
theorem cw_isA {tb:Tab} {tt:TabT} {tc:Tab} (O:TabOk X.K tb tt tc):CallW X (.builtin "isinstance") (oIsA tb tt):=by
 obtain ⟨r,h1,h2⟩:=cw_isI (X:=X)
 refine ⟨_,call_isA.or (call_isAT.or h1),fun ws vs st H m Q S rs p => ?_⟩
 unfold oIsA at p
 split at p
 ·rename_i _ c d
  cases e:tb.lookup (c,d) with
  | none => rw [e] at p; exact False.elim p
  | some b =>
   rw [e] at p
   obtain ⟨v,v',rfl,r1,r2⟩:=rel2 rs
   unfold RelW at r1 r2
   obtain ⟨a,C,rfl,hC,ha⟩:=r1
   obtain ⟨D,rfl,hD⟩:=r2
   obtain ⟨z1,z3⟩:=O.own c d b C D e hC hD
   exact .inl ⟨a,C,.ref D,.ref D,b,rfl,ha,z1,rfl,z3,p _ m H Ext.refl S mkBl⟩
 ·rename_i _ c T
  cases e:tt.lookup (c,T) with
  | none => rw [e] at p; exact False.elim p
  | some b =>
   rw [e] at p
   obtain ⟨v,v',rfl,r1,r2⟩:=rel2 rs
   unfold RelW at r1 r2
   obtain ⟨a,C,rfl,hC,ha⟩:=r1
   subst r2
   obtain ⟨z1,z3⟩:=O.typ c T b C e hC
   exact .inl ⟨a,C,.ty T,.type T,b,rfl,ha,z1,rfl,z3,p _ m H Ext.refl S mkBl⟩
 ·rename_i _ c d ds
  cases e:anyTab tb c (.cls d :: ds) with
  | none => rw [e] at p; exact False.elim p
  | some b =>
   rw [e] at p
   obtain ⟨v,v',rfl,r1,r2⟩:=rel2 rs
   unfold RelW at r1
   obtain ⟨a,C,rfl,hC,ha⟩:=r1
   have r2':=r2
   unfold RelW at r2'
   obtain ⟨t,xs,rfl,hT,rx⟩:=r2'
   have Z:ExcK X.K C:=by
    have rx':=rx
    unfold RelWs at rx'
    obtain ⟨x,r,_,rd,_⟩:=rx'
    unfold RelW at rd
    obtain ⟨D,_,hD⟩:=rd
    unfold anyTab at e
    cases q:tb.lookup (c,d) with
    | none => rw [q] at e; cases e
    | some k => exact (O.own c d k C D q hC hD).1
   exact .inr (.inl ⟨a,C,t,xs,b,rfl,ha,Z,SqT.of hT,fun its hv => anyTab_ok O hC rx hv e,p _ m H Ext.refl S mkBl⟩)
 ·exact .inr (.inr (h2 ws vs st H m Q S rs p))
end
section
variable {X:Cx} {pins:List (Addr × Obj)} {σ:St} {H:Hp} {s:Shared}
abbrev reX (X:Cx) (A':Around) (cm:Bool) (pn:List (Addr × Obj)) (E:Value → Shared → Prop):Cx:={ X with A:=A',calm:=cm,pn:=pn,xe:=E }
theorem ok_re {A':Around} {cm:Bool} {pn:List (Addr × Obj)} {E:Value → Shared → Prop} (ok:X.Ok) (hf:A'.frames = X.A.frames) (hd:cm = true → A'.handled = none):(reX X A' cm pn E).Ok :=
 ⟨ok.mod,ok.kind,ok.glob,ok.blt,ok.above,ok.inj,ok.has,ok.cab,hd,hf.trans ok.frames,ok.stk,ok.exf,ok.bs,ok.bsz,ok.noex,ok.exfs,ok.funs,ok.frf⟩
theorem inv_re {A':Around} {cm:Bool} {E:Value → Shared → Prop} (I:Inv X pins σ H s) (hf:A'.frames = X.A.frames) (hd:cm = true → A'.handled = none):Inv (reX X A' cm (X.pn ++ pins) E) [] σ H s :=
 ⟨ok_re I.ok hf hd,I.os,I.bare,I.base,I.loc,I.cell,I.free,I.freeC,fun p hp => I.pin p (by simpa using hp),I.hok,I.len⟩
theorem inv_er {A':Around} {cm:Bool} {E:Value → Shared → Prop} {pins':List (Addr × Obj)} (ok:X.Ok) (I:Inv (reX X A' cm (X.pn ++ pins) E) pins' σ H s):Inv X pins σ H s :=
 ⟨ok,I.os,I.bare,I.base,I.loc,I.cell,I.free,I.freeC,fun p hp => I.pin p (List.mem_append_left _ hp),I.hok,I.len⟩
abbrev suX (X:Cx) (a:Addr) (u:HO) (pn:List (Addr × Obj)) (E:Value → Shared → Prop):Cx:={ X with A:=X.A.mark (some (.ref a)),calm:=false,pn:=pn,xe:=E,H₀:=upd X.H₀ a u }
theorem inv_su {a:Addr} {o:Obj} {u:HO} {E:Value → Shared → Prop} (I:Inv X pins σ H s) (e:H a = some (.frz o u)) (n:X.s₀.heap.get? a = none):Inv (suX X a (.frz o u) (X.pn ++ pins) E) [] σ H s:=by
 have k:=I.ok
 have ne:∀ b o,X.s₀.heap.get? b = some o → b ≠ a:=fun b o q z => by rw [z,n] at q; cases q
 have nf:∀ b ∈ X.fs,b ≠ a:=fun b hb => let ⟨_,o,q,_⟩:=k.funs.mem hb; ne b o q
 have up:∀ b,b ≠ a → upd X.H₀ a (.frz o u) b = X.H₀ b:=fun b h => upd_ne h
 have dn:∀ {b:Addr} {w:Option HO},upd X.H₀ a (.frz o u) b = w → w ≠ some (.frz o u) → X.H₀ b = w:=fun {b w} q h => by
  by_cases z:b = a
  ·rw [z,upd_same] at q; exact absurd q.symm h
  ·rw [up b z] at q; exact q
 have nn:∀ {b:Addr},upd X.H₀ a (.frz o u) b = none → X.H₀ b = none:=fun q => dn q (by intro z; cases z)
 refine ⟨⟨k.mod,k.kind,k.glob,k.blt,k.above,k.inj,k.has,k.cab,(fun z => by cases z),k.frames,k.stk,k.exf,fun b ob q => ⟨(k.bs b ob q).1,(up b (ne b ob (k.bs b ob q).1)).trans (k.bs b ob q).2⟩,k.bsz,k.noex,k.exfs,k.funs,fun b hb => (up b (nf b hb)).trans (k.frf b hb)⟩,I.os,I.bare,?_,I.loc,I.cell,I.free,I.freeC,fun p hp => I.pin p (by simpa using hp),I.hok,I.len⟩
 have g:=I.base
 exact ⟨fun b ob q h => g.keep b ob q (nn h),fun b ob q h => g.slot b ob q (nn h),fun b ob q h => g.free b ob q (nn h),g.there,fun b xs q => g.tups b xs (dn q (by intro z; cases z)),fun b ob v q => by
  by_cases z:b = a
  ·subst z
   have q':upd X.H₀ b (.frz o u) b = some (.frz ob v):=q
   rw [upd_same] at q'
   cases q'
   exact e
  ·exact g.frzs b ob v ((up b z).symm.trans q),fun b ps q => g.tbls b ps (dn q (by intro z; cases z))⟩
theorem inv_us {a:Addr} {o:Obj} {u:HO} {E:Value → Shared → Prop} {pins':List (Addr × Obj)} (ok:X.Ok) (n:New0 X a) (I:Inv (suX X a (.frz o u) (X.pn ++ pins) E) pins' σ H s):Inv X pins σ H s:=by
 have ne:∀ b o,X.s₀.heap.get? b = some o → b ≠ a:=fun b o q z => by rw [z,n.1] at q; cases q
 have up:∀ b,b ≠ a → (suX X a (.frz o u) (X.pn ++ pins) E).H₀ b = X.H₀ b:=fun b h => upd_ne h
 have g:=I.base
 exact ⟨ok,I.os,I.bare,⟨fun b ob q h => g.keep b ob q ((up b (ne b ob q)).trans h),fun b ob q h => g.slot b ob q ((up b (ne b ob q)).trans h),fun b ob q h => g.free b ob q ((up b (ne b ob q)).trans h),g.there,fun b xs q => g.tups b xs ((up b fun z => n.2.1 xs (z ▸ q)).trans q),fun b ob v q => g.frzs b ob v ((up b fun z => n.2.2.1 ob v (z ▸ q)).trans q),fun b ps q => g.tbls b ps ((up b fun z => n.2.2.2 ps (z ▸ q)).trans q)⟩,I.loc,I.cell,I.free,I.freeC,fun p hp => I.pin p (List.mem_append_left _ hp),I.hok,I.len⟩
def HdC (X:Cx):Prop:=X.A.handled = none ∨ ∃ a o u,X.A.handled = some (.ref a) ∧ NoCx o ∧ X.H₀ a = some (.frz o u)
def HdA (A:Around) (H:Hp):Prop:=A.handled = none ∨ ∃ a o u,A.handled = some (.ref a) ∧ NoCx o ∧ H a = some (.frz o u)
theorem HdC.at (h:HdC X) (I:Inv X pins σ H s):HdA X.A H:=h.imp id fun ⟨a,o,u,h1,h2,h3⟩ => ⟨a,o,u,h1,h2,I.base.frzs _ _ _ h3⟩
theorem sp_er {A':Around} {cm:Bool} {E:Value → Shared → Prop} {D:Ends} {f:Flow} (ok:X.Ok) (h:SP (reX X A' cm (X.pn ++ pins) E) [] D f s):SP X pins D f s:=by
 cases f with
 | next => obtain ⟨σ',H',I,q⟩:=h; exact ⟨σ',H',inv_er ok I,q⟩
 | brk => obtain ⟨σ',H',I,q⟩:=h; exact ⟨σ',H',inv_er ok I,q⟩
 | cont => obtain ⟨σ',H',I,q⟩:=h; exact ⟨σ',H',inv_er ok I,q⟩
 | ret u => obtain ⟨v,σ',H',I,r,q⟩:=h; exact ⟨v,σ',H',inv_er ok I,r,q⟩
end
theorem name_gone {X:Cx} {pins:List (Addr × Obj)} {σ:St} {H:Hp} {s:Shared} {M:Model} {A:Around} {E:Value → Shared → Prop} {i:Nat} {n:Str} {pos:Pos} {Q:Unit → Shared → Prop} (I:Inv X pins σ H s) (hN:X.N.Nodup) (hi:X.N[i]? = some n) (hx:X.env.scope.names.lookup n = some .local)
  (k:∀ s',Inv X pins (σ.set i none) H s' → Q () s'):wpAny M A (do bindName X.env n .none; unbindBehindTheSuite X.env n pos) Q E s:=by
 obtain ⟨m,ns,lk⟩:=id I.loc
 have pl:(X.env.scope.kind == .class || (X.env.scope.kind == .module && X.env.locals != X.env.globals)) = false:=by rw [I.ok.kind]; rfl
 have up:∀ b o,X.s₀.heap.get? b = some o → b ≠ X.env.locals:=fun b o e => old_ne I e
 refine wpAny_nameGoes_keeps hx ns pl fun h2 v ns2 sb => k _ ?_
 obtain ⟨oL,_,_,hoL,_⟩:=id ns
 refine ⟨I.ok,I.os,I.bare,⟨fun b o e f hb hx => (sb.2 b (up b o e)).trans (I.base.keep b o e f hb hx),fun b o e f hb hx => ?_,I.base.free,fun b o e hx => ?_,I.base.tups,I.base.frzs,I.base.tbls⟩,⟨_,ns2,fun j y w e1 e2 e3 => ?_⟩,fun y c e => ?_,I.free,I.freeC,fun p hp => ?_,fun b u e => ?_,by simpa using I.len⟩
 ·obtain ⟨sl,e1⟩:=I.base.slot b o e f hb hx
  exact ⟨sl,(sb.2 b (up b o e)).trans e1⟩
 ·obtain ⟨o1,e1⟩:=I.base.there b o e hx
  exact ⟨o1,(sb.2 b (up b o e)).trans e1⟩
 ·have ji:j ≠ i:=fun z => by
   subst z
   have:j < σ.length:=by have q:=(List.getElem?_eq_some_iff.mp e2).1; simpa using q
   rw [List.getElem?_set_self this] at e2
   cases e2
  rw [List.getElem?_set_ne (Ne.symm ji)] at e2
  obtain ⟨u,r,q⟩:=lk j y w e1 e2 e3
  refine ⟨u,r,?_⟩
  rcases q with ⟨q1,q2⟩ | ⟨q1,c,q2,z⟩
  ·have yn:y ≠ n:=fun z => ji (nodup_ix hN e1 (z ▸ hi))
   exact .inl ⟨q1,by simp [yn,q2]⟩
  ·exact .inr ⟨q1,c,q2,z.sameBut sb (I.cne y c q2)⟩
 ·obtain ⟨w,z⟩:=I.cell y c e
  exact ⟨w,z.sameBut sb (I.cne y c e)⟩
 ·obtain ⟨e,f,ne,nf,d⟩:=I.pin p hp
  exact ⟨(sb.2 p.1 ne).trans e,f,ne,nf,d⟩
 ·refine (I.hok b u e).stay (fun c w hc q => (sb.2 c fun z => ?_).trans q) (fun _ q => q) fun _ _ q => q
  have fr:=I.free
  rcases hc with hc | hc
  ·rw [← z,hc,e] at fr; cases fr
  ·rw [← z,hc] at fr; cases fr
end J
namespace J
open PySem PySem.Spec PyProof.Rows L2
def gTry (cat:PySem.Str → Option Bool) (i:Nat) (gb gs:GS):GS:=fun ρ st => match gb ρ st with
 | .err c ρ' st' => (match cat c with
  | some true => (match gs (ρ'.set i (some (.exn c))) st' with
   | .nx ρ2 st2 => .nx (ρ2.set i none) st2
   | .rt w st2 => .rt w st2
   | _ => .bad)
  | _ => .bad)
 | r => r
theorem RelEnv.unset {K:PySem.W.Frag} {m:Mp} {H:Hp} {ρ:Rho} {σ:St} (R:RelEnv K m H ρ σ) (i:Nat):RelEnv K m H (ρ.set i none) (σ.set i none):=by
 refine ⟨by simp [R.len],fun j w e => ?_⟩
 have ji:i ≠ j:=fun z => by
  subst z
  have:i < ρ.length:=by have q:=(List.getElem?_eq_some_iff.mp e).1; simpa using q
  rw [List.getElem?_set_self this] at e
  cases e
 rw [List.getElem?_set_ne ji] at e ⊢
 exact R.get j w e
section
variable {X:Cx}
theorem land_made {M:Model} {A:Around} {E:Value → Shared → Prop} {s:Shared} {base h:Heap} {env:Env} {outer:List Env} {L a:Addr} {cls:Value} {args:List Value} {Q:Unit → Shared → Prop} (hfr:A.frames = some (env :: outer)) (hf:env.frame = some L)
  (st:base.StaysIn h) (fs:h.FunFrames base (env :: outer)) (mk:Heap.MadeExcOf h s.heap a cls args) (k:∀ h' a0,FlyX base (env :: outer) a cls a0 h' → s.heap.UpToSlots h' → Q () { s with heap:=h' }) :
  wpAny M A (noteFrame (.ref a) env) (fun _ s2 => wpAny M A (setFlight (.ref a) none) Q E s2) E s:=by
 exact note_made hfr hf st fs mk fun h1 t hd1 up1 => landX hd1 fun h2 fl2 up2 => k h2 t fl2 (up1.trans up2)
theorem FlownA.er {A:Around} {b:Bool} {E:Value → Shared → Prop} {pins pins':List (Addr × Obj)} {H H':Hp} {s s':Shared} {cls e:Value} (f:FlownA (reX X A b (X.pn ++ pins) E) pins' H s H' cls e s'):FlownA X pins H s H' cls e s' :=
 let ⟨a,a0,nt,B,ch,e1,e2,e3,hch,r⟩:=f
 ⟨a,a0,nt,B,ch,e1,e2,e3,fun b hb => let ⟨h1,h2,h3,h4,h5,h6⟩:=hch b hb; ⟨h1,h2,h3,h4,h5,fun p hp => h6 p (List.mem_append_left _ hp)⟩,r⟩
theorem land {pins:List (Addr × Obj)} {σ:St} {Hc H':Hp} {sc s':Shared} {C:Addr} {e:Value} {E:Value → Shared → Prop} {Q:Unit → Shared → Prop} (K0:Stk X) (I:Inv X pins σ Hc sc)
  (r:FlownA X pins Hc sc H' (.ref C) e s' ∨ (H' = Hc ∧ ∃ a args,e = .ref a ∧ s'.os = sc.os ∧ s'.gens = sc.gens ∧ Heap.MadeExcOf sc.heap s'.heap a (.ref C) args))
  (k:∀ (a:Addr) (a0:Value) (B h5:Heap),e = .ref a → FlyX B X.stack a (.ref C) a0 h5 → (∀ h6 tk,FlyX B X.stack a (.ref C) a0 h6 → h5.UpToSlots h6 → ∃ o,NoCx o ∧ Inv X pins σ (upd H' a (.frz o (.ext (ExnAt a C)))) { s' with heap:=h6,toks:=tk }) → H' a = none → New0 X a → Q () { s' with heap:=h5 }) :
  wpAny (model X.prog X.w) X.A (noteFrame e X.env) (fun _ s2 => wpAny (model X.prog X.w) X.A (setFlight e none) Q E s2) E s':=by
 have hfr:X.A.frames = some (X.env :: X.outer):=by rw [I.ok.frames,K0.st]
 rcases r with ⟨a,a0,nt,B,ch,rfl,os,bare,hch,un,hok,fl,cov⟩ | ⟨rfl,a,args,rfl,ho,hg,M⟩
 ·rw [K0.st] at fl
  refine note_any hfr K0.fr fl fun h4 hd4 up4 => ?_
  refine landX hd4 fun h5 fl5 up5 => ?_
  rw [← K0.st] at fl5
  exact k a a0 B h5 rfl fl5 (fun h6 tk fl6 up6 => (exn_inv I os bare hch un hok fl6 ((up4.trans up5).trans up6) cov).1) (exn_inv (tk:=0) I os bare hch un hok fl5 (up4.trans up5) cov).2.1 ((exn_inv (tk:=0) I os bare hch un hok fl5 (up4.trans up5) cov).2.2 K0.ex)
 ·have fs:sc.heap.FunFrames (PySem.W.hideAll sc.heap (frs X.stack)) (X.env :: X.outer):=by
   rw [← K0.st]
   exact PySem.W.funFrames_hide I.stack fun env he b hb => List.mem_filterMap.mpr ⟨env,he,hb⟩
  refine land_made (base:=PySem.W.hideAll sc.heap (frs X.stack)) hfr K0.fr (fun b o q => PySem.W.of_hideAll _ q) fs M fun h5 a0 fl5 up5 => ?_
  rw [← K0.st] at fl5
  have bare:AllBare s'.gens:=by rw [hg]; exact I.bare
  have hok:HOk X.prog X.w H' (PySem.W.hideAll sc.heap (frs X.stack)):=hok_hide I.hok I.stkFree
  have cov:∀ b o,sc.heap.get? b = some o → b ∉ frs X.stack → b ∉ ([]:List Addr) → ∃ o',(PySem.W.hideAll sc.heap (frs X.stack)).get? b = some o' ∧ (H' b = none → o' = o):=fun b o q hb _ => ⟨o,PySem.W.hideAll_get _ q hb,fun _ => rfl⟩
  have nil:∀ b ∈ ([]:List Addr),FpOk X pins H' b:=fun b z => by cases z
  exact k a a0 _ h5 rfl fl5 (fun h6 tk fl6 up6 => (exn_inv I ho bare nil (Un.kept M.keeps) hok fl6 (up5.trans up6) cov).1) (exn_inv (tk:=0) I ho bare nil (Un.kept M.keeps) hok fl5 up5 cov).2.1 ((exn_inv (tk:=0) I ho bare nil (Un.kept M.keeps) hok fl5 up5 cov).2.2 K0.ex)
theorem js_try {x n:Str} {D:Addr} {i:Nat} {body suite:List Stmt} {b₀:Stmt} {gb gs:GS} {np hp pos:Pos} {tb:Tab} {tt:TabT} {tc:Tab} (K0:Stk X) (hN:X.N.Nodup) (hi:X.N[i]? = some n) (hx:X.env.scope.names.lookup n = some .local) (hc:X.calm = true) (O:TabOk X.K tb tt tc)
  (hg:Gl X x) (hm:X.mg x = some (.ref D)) (hD:ClsAt X.K x D) (hd:(x == ("__debug__":Str)) = false)
  (hb:∀ (pn:List (Addr × Obj)) (E:Value → Shared → Prop),JSs (reX X X.A true pn E) body gb) (hs:∀ (a:Addr) (o:Obj) (u:HO) (pn:List (Addr × Obj)) (E:Value → Shared → Prop),NoCx o → JSs (suX X a (.frz o u) pn E) (b₀ :: suite) gs) :
  JS X (.Try body [.ExceptHandler (some (.Name x np)) (some n) (b₀ :: suite) hp] [] [] pos) (gTry (fun c => tc.lookup (c,x)) i gb gs):=by
 intro ρ st σ H m D' S R p pins s I
 refine wpAny_Try_except ?_
 let hx':Value → Shared → Prop:=fun e s1 => wpAny (model X.prog X.w) X.A (noteFrame e X.env) (fun _ s2 => wpAny (model X.prog X.w) X.A (setFlight e none) (fun _ s3 =>
  wpAny (model X.prog X.w) X.A (handleBy e X.env [.ExceptHandler (some (.Name x np)) (some n) (b₀ :: suite) hp]) (SP X pins D') X.xe s3) X.xe s2) X.xe s1
 have hA:X.A.handled = none:=I.ok.hd hc
 have Ib:Inv (reX X X.A true (X.pn ++ pins) hx') [] σ H s:=inv_re I rfl fun _ => hA
 have post:PostS (reX X X.A true (X.pn ++ pins) hx') m H (gb ρ st) D':=by
  unfold gTry at p
  cases eb:gb ρ st with
  | nx ρ1 st1 => rw [eb] at p; exact p
  | rt w1 st1 => rw [eb] at p; exact p
  | bk ρ1 st1 => rw [eb] at p; exact p
  | ct ρ1 st1 => rw [eb] at p; exact p
  | bad => rw [eb] at p; exact p
  | err c ρ1 st1 =>
   rw [eb] at p
   dsimp only at p
   cases ec:tc.lookup (c,x) with
   | none => rw [ec] at p; exact False.elim p
   | some bc =>
    cases bc with
    | false => rw [ec] at p; exact False.elim p
    | true =>
     rw [ec] at p
     dsimp only at p
     intro σ1 m1 H1 e s1 e1 S1 R1 rz
     obtain ⟨C,pins',Hc,sc,hC,Ic,rz⟩:=rz
     obtain ⟨zC,zD,hmro⟩:=O.cat c x true C D ec hC hD
     refine land K0 (inv_er I.ok Ic) (rz.imp FlownA.er id) fun a a0 B h5 ea fl5 inv hn hnew => ?_
     subst ea
     obtain ⟨ox,_,I5⟩:=inv h5 s1.toks fl5 (Heap.UpToSlots.refl _)
     obtain ⟨o5,ho5,hc5,_⟩:=(I5.hok a _ upd_same).2.1
     have Im:=inv_re (A':=X.A.mark (some (.ref a))) (cm:=false) (E:=fun _ _ => False) I5 rfl (fun z => by cases z)
     refine wpAny_handleBy_cons (codeAny_handlers_test (ld_glob Im hg hm ?_ hd)) (by intro q; cases q)
     refine catch_own (b:=true) Im.kIn zC zD hmro ho5 hc5 ?_
     refine codeAny_handlers_suite_as ?_
     refine landX fl5 fun h6 fl6 up6 => ?_
     obtain ⟨oy,nx,I6⟩:=inv h6 s1.toks fl6 up6
     have e6:Ext X.K m1 H1 m1 (upd H1 a (.frz oy (.ext (ExnAt a C)))):=Ext.upd (.inl hn)
     have S6:Sim X.K m1 st1 (upd H1 a (.frz oy (.ext (ExnAt a C)))):=S1.fresh hn
     have rv:RelW X.K m1 (upd H1 a (.frz oy (.ext (ExnAt a C)))) (.exn c) (.ref a):=by unfold RelW; obtain ⟨vs,d1,d2⟩:=nx; exact ⟨a,C,rfl,hC,oy,vs,upd_same,d1,d2⟩
     refine store_ok (v:=.ref a) I6 hN hi (.inl hx) rfl (fun s7 I7 => ?_) (.inr hx)
     have I7':=inv_su (E:=fun _ _ => False) I7 upd_same hnew.1
     cases es:gs (ρ1.set i (some (.exn c))) st1 with
     | nx ρ2 st2 =>
      rw [es] at p
      let D2:Ends:={ nx:=fun σ' H' => D'.nx (σ'.set i none) H',rt:=fun _ _ => False,bk:=fun _ _ => False,ct:=fun _ _ => False }
      have go:=hs a oy (.ext (ExnAt a C)) (X.pn ++ pins) (fun _ _ => False) nx (ρ1.set i (some (.exn c))) st1 (σ1.set i (some (.ref a))) _ m1 D2 S6 ((R1.mono e6).set i rv) (by
       rw [es]
       exact fun σ' m' H' e' S' R' => p (σ'.set i none) m' H' (e1.trans (e6.trans e')) S' (RelEnv.unset R' i)) [] s7 I7'
      refine wpAny_mono go (fun f s8 h8 => ?_) fun _ _ z => z.elim
      cases f with
      | next =>
       obtain ⟨σ8,H8,I8,q8⟩:=h8
       exact name_gone (inv_us I.ok hnew I8) hN hi hx fun s9 I9 => ⟨_,H8,I9,q8⟩
      | brk => obtain ⟨_,_,_,q8⟩:=h8; exact q8.elim
      | cont => obtain ⟨_,_,_,q8⟩:=h8; exact q8.elim
      | ret u => obtain ⟨_,_,_,_,_,q8⟩:=h8; exact q8.elim
     | rt w2 st2 =>
      rw [es] at p
      let D2:Ends:={ nx:=fun _ _ => False,rt:=D'.rt,bk:=fun _ _ => False,ct:=fun _ _ => False }
      have go:=hs a oy (.ext (ExnAt a C)) (X.pn ++ pins) (fun _ _ => False) nx (ρ1.set i (some (.exn c))) st1 (σ1.set i (some (.ref a))) _ m1 D2 S6 ((R1.mono e6).set i rv) (by
       rw [es]
       exact fun v' m' H' e' S' R' => p v' m' H' (e1.trans (e6.trans e')) S' R') [] s7 I7'
      refine wpAny_mono go (fun f s8 h8 => ?_) fun _ _ z => z.elim
      cases f with
      | next => obtain ⟨_,_,_,q8⟩:=h8; exact q8.elim
      | brk => obtain ⟨_,_,_,q8⟩:=h8; exact q8.elim
      | cont => obtain ⟨_,_,_,q8⟩:=h8; exact q8.elim
      | ret u =>
       obtain ⟨v8,σ8,H8,I8,r8,q8⟩:=h8
       exact name_gone (inv_us I.ok hnew I8) hN hi hx fun s9 I9 => ⟨v8,_,H8,I9,r8,q8⟩
     | bk ρ2 st2 => rw [es] at p; exact False.elim p
     | ct ρ2 st2 => rw [es] at p; exact False.elim p
     | err c2 ρ2 st2 => rw [es] at p; exact False.elim p
     | bad => rw [es] at p; exact False.elim p
 refine wpAny_mono (hb (X.pn ++ pins) hx' ρ st σ H m D' S R post [] s Ib) (fun f s1 h1 => ?_) fun e s1 h1 => h1
 have h2:=sp_er I.ok h1
 cases f with
 | next => exact wpAny_execs_nil h2
 | brk => exact h2
 | cont => exact h2
 | ret u => exact h2
end
end J
namespace J
open PySem PySem.Spec PyProof.Rows L2
section
variable {X:Cx}
def oStr:List Wv → Hs → Re Wv
 | [.int i],st => if i.natAbs.log2 < 1920 then .ok (.str (toString i:String)) st else .bad
 | _,_ => .bad
def mApp (o v:Wv) (st:Hs):Re Wv:=match o with
 | .ref l => (match st[l]? with
  | some (.lst ws) => if ws.length < lim then .ok .non (st.set l (.lst (ws ++ [v]))) else .bad
  | _ => .bad)
 | _ => .bad
def mExt (o v:Wv) (st:Hs):Re Wv:=match o,v with
 | .ref l,.ref k => (match st[l]?,st[k]? with
  | some (.lst ws),some (.lst zs) => if ws.length + zs.length ≤ lim then .ok .non (st.set l (.lst (ws ++ zs))) else .bad
  | _,_ => .bad)
 | _,_ => .bad
def gMeth (mt:Wv → Wv → Hs → Re Wv) (go ga:GE):GE:=fun ρ st => (go ρ st).bind fun o st1 => match o with
 | .ref l => (match lstOf st1 l with
  | some _ => (ga ρ st1).bind fun v st2 => (mt o v st2).nox
  | none => .bad)
 | _ => .bad
def MtW (X:Cx) (id:String) (mt:Wv → Wv → Hs → Re Wv):Prop:=∃ r,MtR X id r ∧ ∀ (o w:Wv) (x v:V) (st:Hs) (H:Hp) (m:Mp) (Q:VK),Sim X.K m st H → RelW X.K m H o x → RelW X.K m H w v → PostO X.K m H (mt o w st) Q → r x [v] H Q
theorem mw_app:MtW X "list.append" mApp:=⟨_,mt_append,fun o w x v st H m Q S ro rw' p => by
 cases o with
 | ref l =>
  unfold RelW at ro
  obtain ⟨a,rfl,ha⟩:=ro
  have p':PostO X.K m H (match st[l]? with | some (.lst ws) => if ws.length < lim then .ok .non (st.set l (.lst (ws ++ [w]))) else .bad | _ => .bad) Q:=p
  cases e:st[l]? with
  | none => rw [e] at p'; exact False.elim p'
  | some ob =>
   cases ob with
   | dct kvs => rw [e] at p'; exact False.elim p'
   | dcT kvs => rw [e] at p'; exact False.elim p'
   | dcF kvs => rw [e] at p'; exact False.elim p'
   | scr ns => rw [e] at p'; exact False.elim p'
   | lst ws =>
    rw [e] at p'
    dsimp only at p'
    by_cases c:ws.length < lim
    ·rw [if_pos c] at p'
     obtain ⟨xs,h1,h2⟩:=S.lstAt ha e
     have e4:Ext X.K m H m (upd H a (.lst (xs ++ [v]))):=Ext.upd (.inr ⟨xs,h1⟩)
     exact ⟨a,xs,v,rfl,rfl,h1,by rw [← h2.length]; exact lim_lt c,p' _ m _ e4 (S.write ha e (h2.append (RelWs.cons rw' RelWs.nil))) mkNon⟩
    ·rw [if_neg c] at p'; exact False.elim p'
 | _ => exact False.elim p⟩
theorem mw_ext:MtW X "list.extend" mExt:=⟨_,mt_extend,fun o w x v st H m Q S ro rw' p => by
 cases o with
 | ref l =>
  cases w with
  | ref k =>
   unfold RelW at ro rw'
   obtain ⟨a,rfl,ha⟩:=ro
   obtain ⟨b,rfl,hb⟩:=rw'
   have p':PostO X.K m H (match st[l]?,st[k]? with | some (.lst ws),some (.lst zs) => if ws.length + zs.length ≤ lim then .ok .non (st.set l (.lst (ws ++ zs))) else .bad | _,_ => .bad) Q:=p
   cases e:st[l]? with
   | none => rw [e] at p'; exact False.elim p'
   | some ob =>
    cases ob with
    | dct kvs => rw [e] at p'; exact False.elim p'
    | dcT kvs => rw [e] at p'; exact False.elim p'
    | dcF kvs => rw [e] at p'; exact False.elim p'
    | scr ns => rw [e] at p'; exact False.elim p'
    | lst ws =>
     cases e2:st[k]? with
     | none => rw [e,e2] at p'; exact False.elim p'
     | some ob2 =>
      cases ob2 with
      | dct kvs => rw [e,e2] at p'; exact False.elim p'
      | dcT kvs => rw [e,e2] at p'; exact False.elim p'
      | dcF kvs => rw [e,e2] at p'; exact False.elim p'
      | scr ns => rw [e,e2] at p'; exact False.elim p'
      | lst zs =>
       rw [e,e2] at p'
       dsimp only at p'
       by_cases c:ws.length + zs.length ≤ lim
       ·rw [if_pos c] at p'
        obtain ⟨xs,h1,h2⟩:=S.lstAt ha e
        obtain ⟨ys,g1,g2⟩:=S.lstAt hb e2
        have e4:Ext X.K m H m (upd H a (.lst (xs ++ ys))):=Ext.upd (.inr ⟨xs,h1⟩)
        exact ⟨a,b,xs,ys,rfl,rfl,h1,g1,by rw [← h2.length,← g2.length]; exact lim_le c,p' _ m _ e4 (S.write ha e (h2.append g2)) mkNon⟩
       ·rw [if_neg c] at p'; exact False.elim p'
  | _ => exact False.elim p
 | _ => exact False.elim p⟩
theorem je_meth {x name:Str} {id:String} {e:Expr} {go ga:GE} {p apos cpos:Pos} {mt:Wv → Wv → Hs → Re Wv} (hm:MtW X id mt) (slot:Slot "list" name id) (hty:typeOf (.builtin id) = pure (.type "method_descriptor")) (ho:JE X (.Name x p) go) (ha:JE X e ga)
  (hst:starEach [e] X.env = [(false,eval e X.env)]) (hline:(apos.endLine == cpos.line) = true):JE X (.Call (.Attribute (.Name x p) name apos) [e] [] cpos) (gMeth mt go ga):=by
 obtain ⟨r,h1,h2⟩:=hm
 have hfew:((backTo cpos (starEach [e] X.env)).all (fun x => !x.1) && (backToKw cpos (keywordEach [] X.env)).all (fun x => x.1.isSome) && decide ([e].length + ([]:List Keyword).length + (if ([]:List Keyword).isEmpty then 0 else 1) < 30)) = true:=by
  rw [hst]; rfl
 refine JE.of (pe_bm PySem.F.plainAttrs_list slot hty h1 pe_SE pa_SA rfl hfew hline hst rfl) fun ρ st σ H m Q S R p => ?_
 refine ho.go S R (PostG.bind p) fun o st1 v m1 H1 p1 e1 S1 ro => ?_
 cases o with
 | ref l =>
  dsimp only at p1
  cases el:lstOf st1 l with
  | none => rw [el] at p1; exact False.elim p1
  | some ws0 =>
   rw [el] at p1
   dsimp only at p1
   have ro':=ro
   unfold RelW at ro'
   obtain ⟨a,rfl,hla⟩:=ro'
   obtain ⟨xs,hq,_⟩:=S1.read hla el
   refine ⟨.inl ⟨rfl,xs,hq⟩,?_⟩
   refine (ja_cons ha ja_nil hst).go S1 (R.mono e1) (ok:=fun ws st2 => PostG X σ m H (match ws with | [w] => (mt (.ref l) w st2).nox | _ => .bad) (okE X.K m H Q)) ?_ fun ws st2 vs m2 H2 p2 e2 S2 rs => ?_
   ·have p3:=(PostG.bind p1).imp e1 (fun _ _ q => q)
    show PostG X σ m1 H1 ((ga ρ st1).bind fun x st1 => (gNil ρ st1).bind fun xs st2 => .ok (x :: xs) st2) _
    cases eg:ga ρ st1 with
    | ok w st2 => rw [eg] at p3; exact p3
    | err c st2 => rw [eg] at p3; exact p3
    | bad => rw [eg] at p3; exact p3
   ·match ws,rs,p2 with
    | [],rs,p2 => exact False.elim p2
    | [w],rs,p2 =>
     obtain ⟨v2,rfl,rw2⟩:=rel1 rs
     exact h2 (.ref l) w (.ref a) v2 st2 H2 m2 Q S2 (RelW.mono e2 _ _ ro) rw2 (PostO.shift (PostG.nox p2) (e1.trans e2))
    | _ :: _ :: _,rs,p2 => exact False.elim p2
 | _ => exact False.elim p1
end
end J
namespace J
open PySem PySem.Spec PyProof.Rows L2
section
variable {X:Cx}
def oStr2:List Wv → Hs → Re Wv
 | [.str z],st => .ok (.str z) st
 | ws,st => oStr ws st
def oInt:List Wv → Hs → Re Wv
 | [.int i],st => .ok (.int i) st
 | [.bl b],st => .ok (.int (if b then 1 else 0)) st
 | _,_ => .bad
theorem cw_int:CallW X (.type "int") oInt:=⟨_,call_int1,fun ws vs st H m Q S rs p => by
 match ws,rs,p with
 | [],rs,p => exact False.elim p
 | x :: y :: t,rs,p => cases x <;> exact False.elim p
 | [x],rs,p =>
  obtain ⟨v,rfl,r1⟩:=rel1 rs
  cases x with
  | int i => cases relInt r1; exact .inl ⟨i,rfl,p _ m H Ext.refl S mkInt⟩
  | bl b => cases relBl r1; exact .inr ⟨b,rfl,p _ m H Ext.refl S mkInt⟩
  | _ => exact False.elim p⟩
def oMax:List Wv → Hs → Re Wv
 | [.int i,.int j],st => .ok (.int (if j > i then j else i)) st
 | _,_ => .bad
def oMin:List Wv → Hs → Re Wv
 | [.int i,.int j],st => .ok (.int (if j < i then j else i)) st
 | _,_ => .bad
theorem cw_min (hc:X.calm = true):CallW X (.builtin "min") oMin:=⟨_,call_min2 hc,fun ws vs st H m Q S rs p => by
 match ws,rs,p with
 | [],rs,p => exact False.elim p
 | [x],rs,p => cases x <;> exact False.elim p
 | x :: y :: z :: t,rs,p => cases x <;> cases y <;> exact False.elim p
 | [x,y],rs,p =>
  obtain ⟨v,v',rfl,r1,r2⟩:=rel2 rs
  cases x with
  | int i =>
   cases y with
   | int j => cases relInt r1; cases relInt r2; exact ⟨i,j,rfl,p _ m H Ext.refl S mkInt⟩
   | _ => exact False.elim p
  | _ => cases y <;> exact False.elim p⟩
def setL:List Nat → List Wv → Rho → Option Rho
 | [],[],ρ => some ρ
 | i :: is,w :: ws,ρ => setL is ws (ρ.set i (some w))
 | _,_,_ => none
def bdT (is:List Nat) (w:Wv) (ρ:Rho):Option Rho:=match w with
 | .tup ws => setL is ws ρ
 | _ => none
def tgs:List Nat → TGs
 | [] => L2.gNil
 | i :: is => L2.gCons (gName i) (tgs is)
theorem setL_run {m:Mp} {H:Hp} {Q:St → Hp → Prop}:∀ {is:List Nat} {ws:List Wv} {xs:List V} {ρ ρ':Rho} {σ:St},RelWs X.K m H ws xs → RelEnv X.K m H ρ σ → setL is ws ρ = some ρ' → (∀ σ',RelEnv X.K m H ρ' σ' → Q σ' H) → tgs is xs σ H Q
 | [],[],xs,ρ,ρ',σ,r,R,e,k => by
  unfold RelWs at r
  subst r
  cases e
  exact ⟨rfl,k σ R⟩
 | i :: is,w :: ws,xs,ρ,ρ',σ,r,R,e,k => by
  unfold RelWs at r
  obtain ⟨x,rr,rfl,h1,h2⟩:=r
  exact ⟨x,rr,rfl,setL_run (is:=is) h2 (R.set i h1) e k⟩
 | [],_ :: _,_,_,_,_,_,_,e,_ => by cases e
 | _ :: _,[],_,_,_,_,_,_,e,_ => by cases e
theorem setL_len:∀ {is:List Nat} {ws:List Wv} {ρ ρ':Rho},setL is ws ρ = some ρ' → ws.length = is.length
 | [],[],_,_,_ => rfl
 | _ :: is,_ :: ws,_,_,e => congrArg (· + 1) (setL_len (is:=is) (ws:=ws) e)
 | [],_ :: _,_,_,e => by cases e
 | _ :: _,[],_,_,e => by cases e
inductive Slots (X:Cx):List Expr → List Nat → Prop
 | nil:Slots X [] []
 | cons {x:Str} {p:Pos} {i:Nat} {es:List Expr} {is:List Nat}:X.N[i]? = some x → (Loc X.env.scope x ∧ (X.fn x = true ∨ X.env.scope.names.lookup x = some .local)) → Slots X es is → Slots X (.Name x p :: es) (i :: is)
theorem pgs_slots (hN:X.N.Nodup):∀ {es:List Expr} {is:List Nat},Slots X es is → PGs X es (tgs is)
 | _,_,.nil => pgs_nil
 | _,_,.cons h1 h2 r => pgs_cons (pg_name hN h1 h2.1 h2.2) (pgs_slots hN r) rfl
theorem each_len:∀ {es:List Expr} {is:List Nat},Slots X es is → (assignEach es X.env).length = is.length
 | _,_,.nil => rfl
 | _,_,.cons _ _ r => congrArg (· + 1) (each_len r)
theorem each_star:∀ {es:List Expr} {is:List Nat},Slots X es is → (assignEach es X.env).findIdx? (·.1) = none
 | _,_,.nil => rfl
 | _,_,.cons (x:=x) (p:=p) (es:=es) _ _ r => by
  have q:=each_star r
  show List.findIdx? _ ((false,assign (.Name x p) X.env) :: assignEach es X.env) = none
  rw [List.findIdx?_cons]
  simp [q]
def gSetT (is:List Nat) (g:GE):GS:=fun ρ st => (g ρ st).thn ρ fun w st' => match bdT is w ρ with
 | some ρ' => .nx ρ' st'
 | none => .bad
theorem js_setT {es:List Expr} {is:List Nat} {k:Nat} {e:Expr} {g:GE} {pos pos':Pos} (hN:X.N.Nodup) (hc:X.calm = true) (sl:Slots X es is) (h:JE X e g) (hs:swapsWith e (some (.Tuple es k pos')) pos.line X.env = pure false) (hw:swappedStores [.Tuple es k pos'] e X.env = pure none) :
  JS X (.Assign [.Tuple es k pos'] e pos) (gSetT is g) :=
 JS.of (ps_asg pe_SE (pg_tup hc (pgs_slots hN sl) (each_len sl) (each_star sl)) (by unfold swapsWithSole; exact hs) hw rfl) fun ρ st σ H m D S R p => h.go S R (PostS.of_thn R p) fun w st1 v m1 H1 q e1 S1 r1 => by
  cases w with
  | tup ws =>
   have q':PostS X m H (match setL is ws ρ with | some ρ' => .nx ρ' st1 | none => .bad) D:=q
   cases e2:setL is ws ρ with
   | none => rw [e2] at q'; exact False.elim q'
   | some ρ' =>
    rw [e2] at q'
    unfold RelW at r1
    obtain ⟨a,xs,rfl,f1,f2⟩:=r1
    exact ⟨a,xs,rfl,SqT.of f1,by rw [← f2.length]; exact setL_len e2,setL_run f2 (R.mono e1) e2 fun σ' R' => q' σ' m1 H1 e1 S1 R'⟩
  | _ => exact False.elim q
open Classical in
noncomputable def forLB (is:List Nat) (gb:GS) (l:Nat) (all:List Wv):List Wv → Rho → Hs → Rs
 | [],ρ,st => .nx ρ st
 | w :: r,ρ,st => match bdT is w ρ with
  | none => .bad
  | some ρ1 => match gb ρ1 st with
   | .nx ρ' st' => if lstOf st' l = some all then forLB is gb l all r ρ' st' else .bad
   | .ct ρ' st' => if lstOf st' l = some all then forLB is gb l all r ρ' st' else .bad
   | .bk ρ' st' => .nx ρ' st'
   | .rt w st' => .rt w st'
   | .err c ρ' st' => .err c ρ' st'
   | .bad => .bad
noncomputable def gForB (is:List Nat) (gi:GE) (gb:GS):GS:=fun ρ st => (gi ρ st).thn ρ fun w st1 => match w with
 | .ref l => (match lstOf st1 l with | some ws => forLB is gb l ws ws ρ st1 | none => .bad)
 | _ => .bad
theorem js_forB {es:List Expr} {is:List Nat} {k:Nat} {iter:Expr} {body:List Stmt} {gi:GE} {gb:GS} {pos pos':Pos} (hN:X.N.Nodup) (hp:PassesOwn (model X.prog X.w) X.A X.env X.xe) (hc:X.calm = true) (sl:Slots X es is) (hi:JE X iter gi) (hb:JSs X body gb)
  (hs:∀ x,foldedSetIterable iter X.env x = pure x):JS X (.For (.Tuple es k pos') iter body [] pos) (gForB is gi gb):=by
 refine JS.of (ps_for hp hc (pi_list pe_SE) (pg_tup hc (pgs_slots hN sl) (each_len sl) (each_star sl)) pss_SSs hs) fun ρ st σ H m D S R p => ?_
 refine hi.go S R (PostS.of_thn R p) fun w st1 v m1 H1 p1 e1 S1 rw' => ?_
 cases w with
 | ref l =>
  have p1':PostS X m H (match lstOf st1 l with | some ws => forLB is gb l ws ws ρ st1 | none => .bad) D:=p1
  unfold RelW at rw'
  obtain ⟨a,rfl,hla⟩:=rw'
  cases el:lstOf st1 l with
  | none => rw [el] at p1'; exact False.elim p1'
  | some ws =>
   rw [el] at p1'
   obtain ⟨xs0,q0,_⟩:=S1.read hla el
   refine ⟨a,rfl,⟨xs0,q0⟩,?_⟩
   let Pv:Nat → St → Hp → Prop:=fun k σ H => ∃ ρ st m',Ext X.K m1 H1 m' H ∧ Sim X.K m' st H ∧ RelEnv X.K m' H ρ σ ∧ lstOf st l = some ws ∧ PostS X m' H (forLB is gb l ws (ws.drop k) ρ st) D
   refine ⟨fun k n σ H => n = ws.length - k ∧ k ≤ ws.length ∧ Pv k σ H,⟨ws.length,by simp,Nat.zero_le _,ρ,st1,m1,Ext.refl,S1,R.mono e1,el,PostS.shift p1' e1⟩,?_⟩
   rintro k n σ2 H2 ⟨rfl,hk,ρ2,st2,m2,e2,S2,R2,l2,p2⟩
   obtain ⟨xs,hq,rws⟩:=S2.read (e2.pre _ _ hla) l2
   have hlen:=rws.length
   by_cases hlt:k < ws.length
   ·have hx':k < xs.length:=by omega
    refine .inr ⟨⟨xs,xs[k],hq,by simp [hx']⟩,Pv (k + 1),fun σ' H' p' => ⟨ws.length - (k + 1),by omega,rfl,hlt,p'⟩,fun x H' y => ?_⟩
    obtain ⟨ee,y⟩:=y
    subst ee
    have ey:=y xs hq
    have ed:ws.drop k = ws[k] :: ws.drop (k + 1):=List.drop_eq_getElem_cons hlt
    obtain ⟨x',ex',rx'⟩:=rws.get (i:=k) (w:=ws[k]) (List.getElem?_eq_getElem hlt)
    rw [ey] at ex'
    cases ex'
    rw [ed] at p2
    unfold forLB at p2
    cases eb:ws[k] with
    | tup us =>
     rw [eb] at p2 rx'
     dsimp only [bdT] at p2
     cases e5:setL is us ρ2 with
     | none => rw [e5] at p2; exact False.elim p2
     | some ρ5 =>
      rw [e5] at p2
      dsimp only at p2
      unfold RelW at rx'
      obtain ⟨b,ys,rfl,f1,f2⟩:=rx'
      refine ⟨b,ys,rfl,SqT.of f1,by rw [← f2.length]; exact setL_len e5,setL_run f2 R2 e5 fun σ5 R5 => ?_⟩
      refine hb _ st2 _ _ m2 _ S2 R5 ?_
      cases eg:gb ρ5 st2 with
      | nx ρ3 st3 =>
       rw [eg] at p2
       by_cases c:lstOf st3 l = some ws
       ·simp only [if_pos c] at p2
        exact fun σ3 m3 H3 e3 S3 R3 => ⟨ρ3,st3,m3,e2.trans e3,S3,R3,c,PostS.shift p2 e3⟩
       ·simp only [if_neg c] at p2; exact False.elim p2
      | ct ρ3 st3 =>
       rw [eg] at p2
       by_cases c:lstOf st3 l = some ws
       ·simp only [if_pos c] at p2
        exact fun σ3 m3 H3 e3 S3 R3 => ⟨ρ3,st3,m3,e2.trans e3,S3,R3,c,PostS.shift p2 e3⟩
       ·simp only [if_neg c] at p2; exact False.elim p2
      | bk ρ3 st3 => rw [eg] at p2; exact p2
      | rt w3 st3 => rw [eg] at p2; exact p2
      | err c3 ρ3 st3 => rw [eg] at p2; exact p2
      | bad => rw [eg] at p2; exact p2
    | _ => rw [eb] at p2; exact False.elim p2
   ·have e:k = ws.length:=by omega
    subst e
    rw [List.drop_length] at p2
    exact .inl ⟨⟨xs,hq,by omega⟩,p2 σ2 m2 H2 Ext.refl S2 R2⟩
 | _ => exact False.elim p1
end
end J
namespace J
open PySem PySem.Spec PyProof.Rows L2
def clF (env:Env):List (Str × NameKind) → List (Str × Addr) → List (Str × Addr)
 | [],acc => acc
 | (n,k) :: r,acc => if k = .free then clF env r ((n,(env.cells.lookup n).getD 0) :: acc) else clF env r acc
theorem clos_run (env:Env):∀ (names:List (Str × NameKind)) (acc:List (Str × Addr)),(∀ y ∈ names,y.2 = .free → ∃ c,env.cells.lookup y.1 = some c) →
  (forIn names acc fun x r => match x with
   | (name,kind) => if (kind == NameKind.free) = true then do let c ← cellOf env name; pure (ForInStep.yield ((name,c) :: r)) else (pure (ForInStep.yield r):Sem _)) = pure (clF env names acc)
 | [],acc,_ => rfl
 | (n,k) :: r,acc,h => by
  have ih:=fun acc => clos_run env r acc fun y hy => h y (List.mem_cons_of_mem _ hy)
  rw [List.forIn_cons]
  by_cases hk:k = .free
  ·subst hk
   obtain ⟨c,e⟩:=h (n,.free) List.mem_cons_self rfl
   have e':env.cells.lookup n = some c:=e
   have cc:cellOf env n = pure c:=by unfold cellOf; rw [e']
   simp only [beq_self_eq_true,if_true,cc]
   have q:clF env ((n,.free) :: r) acc = clF env r ((n,c) :: acc):=by
    show (if NameKind.free = .free then clF env r ((n,(env.cells.lookup n).getD 0) :: acc) else _) = _
    rw [if_pos rfl,e']
    rfl
   rw [q,← ih]
   rfl
  ·have hb:(k == NameKind.free) = false:=by simpa using hk
   simp only [hb,Bool.false_eq_true,if_false]
   have q:clF env ((n,k) :: r) acc = clF env r acc:=by
    show (if k = .free then _ else clF env r acc) = _
    rw [if_neg hk]
   rw [q,← ih]
   rfl
theorem clos_is {env:Env} {scope:Scope} (h:∀ y ∈ scope.names,y.2 = .free → ∃ c,env.cells.lookup y.1 = some c):closureFor scope env = pure (clF env scope.names []):=by
 have q:=clos_run env scope.names [] h
 unfold closureFor
 first
  | (rw [← q]; rfl)
  | (simp only [bind_pure]; exact q)
theorem clF_sub {env:Env}:∀ {names:List (Str × NameKind)} {acc:List (Str × Addr)} {y:Str} {c:Addr},(∀ y ∈ names,y.2 = .free → ∃ c,env.cells.lookup y.1 = some c) → (∀ y c,acc.lookup y = some c → env.cells.lookup y = some c) → (clF env names acc).lookup y = some c → env.cells.lookup y = some c
 | [],acc,y,c,_,ha,e => ha y c e
 | (n,k) :: r,acc,y,c,h,ha,e => by
  unfold clF at e
  by_cases hk:k = .free
  ·rw [if_pos hk] at e
   subst hk
   obtain ⟨c0,e0⟩:=h (n,.free) List.mem_cons_self rfl
   have e0':env.cells.lookup n = some c0:=e0
   refine clF_sub (fun y hy => h y (List.mem_cons_of_mem _ hy)) (fun y' c' e' => ?_) e
   rw [List.lookup_cons] at e'
   cases q:y' == n with
   | true =>
    rw [q] at e'
    have q':=eq_of_beq q
    subst q'
    rw [e0'] at e' ⊢
    exact e'
   | false => rw [q] at e'; exact ha y' c' e'
  ·rw [if_neg hk] at e
   exact clF_sub (fun y hy => h y (List.mem_cons_of_mem _ hy)) ha e
theorem clF_has {env:Env} {y:Str}:∀ {names:List (Str × NameKind)} {acc:List (Str × Addr)},((∃ c,acc.lookup y = some c) ∨ (y,NameKind.free) ∈ names) → ∃ c,(clF env names acc).lookup y = some c
 | [],acc,h => by
  rcases h with h | h
  ·exact h
  ·cases h
 | (n,k) :: r,acc,h => by
  unfold clF
  by_cases hk:k = .free
  ·rw [if_pos hk]
   refine clF_has ?_
   rw [List.lookup_cons]
   cases q:y == n with
   | true => exact .inl ⟨_,rfl⟩
   | false =>
    rcases h with h | h
    ·exact .inl h
    ·rcases List.mem_cons.mp h with h | h
     ·cases h; simp at q
     ·exact .inr h
  ·rw [if_neg hk]
   refine clF_has ?_
   rcases h with h | h
   ·exact .inl h
   ·rcases List.mem_cons.mp h with h | h
    ·cases h; exact absurd rfl hk
    ·exact .inr h
theorem lookup_mem {α β:Type} [BEq α] [LawfulBEq α] {y:α} {k:β}:∀ {names:List (α × β)},names.lookup y = some k → (y,k) ∈ names
 | [],h => by cases h
 | (n,j) :: r,h => by
  rw [List.lookup_cons] at h
  cases q:y == n with
  | true =>
   rw [q] at h
   cases h
   have q':=eq_of_beq q
   subst q'
   exact List.mem_cons_self
  | false => rw [q] at h; exact List.mem_cons_of_mem _ (lookup_mem h)
theorem rel_look {env:Env}:∀ {names:List (Str × NameKind)} {y:Str},(names.map fun (n,k) => if (k == NameKind.free && env.scope.kind == .function && env.kindOf n == some .cell) then (n,NameKind.cell) else (n,k)).lookup y =
  (names.lookup y).map fun k => if (k == NameKind.free && env.scope.kind == .function && env.kindOf y == some .cell) = true then NameKind.cell else k
 | [],y => rfl
 | (n,k) :: r,y => by
  have ih:=rel_look (env:=env) (names:=r) (y:=y)
  show List.lookup y ((if (k == NameKind.free && env.scope.kind == .function && env.kindOf n == some .cell) = true then (n,NameKind.cell) else (n,k)) :: _) = _
  cases q:y == n with
  | true =>
   have q':=eq_of_beq q
   subst q'
   by_cases hc:(k == NameKind.free && env.scope.kind == .function && env.kindOf y == some .cell) = true
   ·rw [if_pos hc]
    simp only [List.lookup_cons,beq_self_eq_true,Option.map_some]
    rw [if_pos hc]
   ·rw [if_neg hc]
    simp only [List.lookup_cons,beq_self_eq_true,Option.map_some]
    rw [if_neg hc]
  | false =>
   by_cases hc:(k == NameKind.free && env.scope.kind == .function && env.kindOf n == some .cell) = true
   ·rw [if_pos hc]; simp only [List.lookup_cons,q]; exact ih
   ·rw [if_neg hc]; simp only [List.lookup_cons,q]; exact ih
open Classical in
noncomputable def compG (ck:Hs → Prop) (gt:Wv → Hs → Re Bool) (ge:Wv → Hs → Re Wv) (l:Nat):List Wv → Hs → Option Hs
 | [],st => some st
 | w :: r,st => match gt w st with
  | .ok false st1 => if ck st1 then compG ck gt ge l r st1 else none
  | .ok true st1 => (match ge w st1 with
   | .ok v st2 => (match mApp (.ref l) v st2 with
    | .ok _ st3 => if ck st3 then compG ck gt ge l r st3 else none
    | _ => none)
   | _ => none)
  | _ => none
open Classical in
noncomputable def compZ (ck:Hs → Prop) (gt:Wv → Hs → Re Bool) (ge:Wv → Hs → Re Wv) (l:Nat):List Wv → Hs → Re Unit
 | [],st => .ok () st
 | w :: r,st => match gt w st with
  | .ok false st1 => if ck st1 then compZ ck gt ge l r st1 else .bad
  | .ok true st1 => (match ge w st1 with
   | .ok v st2 => (match mApp (.ref l) v st2 with
    | .ok _ st3 => if ck st3 then compZ ck gt ge l r st3 else .bad
    | _ => .bad)
   | .err c st2 => .err c st2
   | .bad => .bad)
  | .err c st1 => .err c st1
  | .bad => .bad
theorem compZ_of {ck:Hs → Prop} {gt:Wv → Hs → Re Bool} {ge:Wv → Hs → Re Wv} {l:Nat} {stF:Hs}:∀ (ws:List Wv) (st:Hs),compG ck gt ge l ws st = some stF → compZ ck gt ge l ws st = .ok () stF
 | [],st,h => by cases h; rfl
 | w :: r,st,h => by
  unfold compG at h
  unfold compZ
  cases eg:gt w st with
  | err c st1 => rw [eg] at h; cases h
  | bad => rw [eg] at h; cases h
  | ok b st1 =>
   rw [eg] at h
   cases b with
   | false =>
    dsimp only at h ⊢
    by_cases c:ck st1
    ·rw [if_pos c] at h ⊢; exact compZ_of r st1 h
    ·rw [if_neg c] at h; cases h
   | true =>
    dsimp only at h ⊢
    cases ee:ge w st1 with
    | err c st2 => rw [ee] at h; cases h
    | bad => rw [ee] at h; cases h
    | ok v st2 =>
     rw [ee] at h
     dsimp only at h ⊢
     cases ea:mApp (.ref l) v st2 with
     | err c st3 => rw [ea] at h; cases h
     | bad => rw [ea] at h; cases h
     | ok u st3 =>
      rw [ea] at h
      dsimp only at h ⊢
      by_cases c:ck st3
      ·rw [if_pos c] at h ⊢; exact compZ_of r st3 h
      ·rw [if_neg c] at h; cases h
abbrev Caps:=List (Str × Nat)
def capR (cs:Caps) (ρ:Rho):Rho:=cs.map fun p => (ρ[p.2]?).getD none
def capS (cs:Caps) (σ:St):St:=cs.map fun p => (σ[p.2]?).getD none
theorem cap_rel {K:PySem.W.Frag} {m:Mp} {H:Hp} {ρ:Rho} {σ:St} (cs:Caps) (R:RelEnv K m H ρ σ):RelEnv K m H (capR cs ρ) (capS cs σ):=by
 refine ⟨by unfold capR capS; simp,fun i w e => ?_⟩
 unfold capR at e
 rw [List.getElem?_map] at e
 cases q:cs[i]? with
 | none => rw [q] at e; cases e
 | some p =>
  rw [q] at e
  have e':(ρ[p.2]?).getD none = some w:=by simpa using e
  cases q2:ρ[p.2]? with
  | none => rw [q2] at e'; cases e'
  | some o =>
   rw [q2] at e'
   have e2:o = some w:=e'
   subst e2
   obtain ⟨v,h1,h2⟩:=R.get _ _ q2
   refine ⟨v,?_,h2⟩
   unfold capS
   rw [List.getElem?_map,q]
   simp [h1]
def compX (X:Cx) (scope:Scope) (x:Str) (cs:Caps) (C:Addr) (s0:Shared) (H0:Hp) (fp:List Addr) (pn:List (Addr × Obj)) (E:Value → Shared → Prop):Cx where
 prog:=X.prog
 w:=X.w
 K:=X.K
 mg:=X.mg
 base:=X.base
 A:=X.A
 N:=x :: cs.map (·.1)
 s₀:=s0
 H₀:=H0
 env:=compEnvC scope (clF X.env scope.names []) C X.env
 outer:=X.stack
 stack:=X.stack
 ex:=fp
 fn:=fun _ => false
 calm:=X.calm
 pn:=pn
 xe:=E
structure CScope (X:Cx) (scope:Scope) (x:Str) (cs:Caps):Prop where
 kind:scope.kind = .function
 look:∀ y ∈ scope.names,scope.names.lookup y.1 = some y.2
 cell:∀ y ∈ scope.names,y.2 ≠ .cell
 var:scope.names.lookup x = some .local
 cap:∀ y ∈ scope.names,y.2 = .free → X.env.kindOf y.1 = some .cell ∨ X.env.kindOf y.1 = some .free
 at_:∀ p ∈ cs,X.N[p.2]? = some p.1 ∧ scope.names.lookup p.1 = some .free
 nd:(x :: cs.map (·.1)).Nodup
section
variable {X:Cx} {pins:List (Addr × Obj)} {σ:St} {H:Hp} {s:Shared} {scope:Scope} {x:Str} {cs:Caps}
theorem fp_stack (I:Inv X pins σ H s) {b:Addr} (f:FpOk X pins H b):b ∉ frs X.stack:=fun z => by
 rcases List.mem_cons.mp (I.stkSub b z) with q | q
 ·exact f.2.1 q
 ·exact f.2.2.1 q
theorem CScope.has (S:CScope X scope x cs) (ok:X.Ok):∀ y ∈ scope.names,y.2 = .free → ∃ c,X.env.cells.lookup y.1 = some c:=fun y hy e => ok.has y.1 (S.cap y hy e)
theorem CScope.sub (S:CScope X scope x cs) (ok:X.Ok) {y:Str} {c:Addr} (e:(clF X.env scope.names []).lookup y = some c):X.env.cells.lookup y = some c :=
 clF_sub (S.has ok) (fun _ _ z => by cases z) e
theorem CScope.kindIn (S:CScope X scope x cs) (ok:X.Ok) {C:Addr} {y:Str} (h:(compEnvC scope (clF X.env scope.names []) C X.env).kindOf y = some .cell ∨ (compEnvC scope (clF X.env scope.names []) C X.env).kindOf y = some .free):scope.names.lookup y = some .free:=by
 have q:(compEnvC scope (clF X.env scope.names []) C X.env).kindOf y = (scope.names.lookup y).map fun k => if (k == NameKind.free && X.env.scope.kind == .function && X.env.kindOf y == some .cell) = true then NameKind.cell else k:=rel_look
 rw [q] at h
 cases e:scope.names.lookup y with
 | none => rw [e] at h; simp at h
 | some k =>
  rw [e] at h
  simp only [Option.map_some,Option.some.injEq] at h
  by_cases hk:k = .free
  ·rw [hk]
  ·have hb:(k == NameKind.free) = false:=by simpa using hk
   rw [hb] at h
   simp only [Bool.false_and,Bool.false_eq_true,if_false] at h
   rcases h with h | h
   ·exact absurd h (S.cell (y,k) (lookup_mem e))
   ·exact absurd h hk
theorem CScope.free_vis (S:CScope X scope x cs) {C:Addr} {y:Str} (e:scope.names.lookup y = some .free):(compEnvC scope (clF X.env scope.names []) C X.env).kindOf y = some .cell ∨ (compEnvC scope (clF X.env scope.names []) C X.env).kindOf y = some .free:=by
 have q:(compEnvC scope (clF X.env scope.names []) C X.env).kindOf y = (scope.names.lookup y).map fun k => if (k == NameKind.free && X.env.scope.kind == .function && X.env.kindOf y == some .cell) = true then NameKind.cell else k:=rel_look
 rw [q,e]
 simp only [Option.map_some]
 split
 ·exact .inl rfl
 ·exact .inr rfl
theorem comp_inv {fp:List Addr} {h2:Heap} {tk:Nat} {E:Value → Shared → Prop} (S:CScope X scope x cs) (I:Inv X pins σ H s) (hf:∀ b ∈ fp,FpOk X pins H b) (hl:∀ b ∈ fp,b < s.heap.objs.size)
  (ns:h2.Ns s.heap.objs.size (fun y => ([]:List (Str × Value)).reverse.lookup y)) (sb:Heap.SameBut s.heap.objs.size (s.heap.push { cls:=.type "dict",data:=.dict #[] }) h2) :
  Inv (compX X scope x cs s.heap.objs.size s H fp (X.pn ++ pins) E) [] (none :: capS cs σ) H { s with heap:=h2,toks:=tk }:=by
 have keep:∀ b o,s.heap.get? b = some o → h2.get? b = some o:=fun b o e => (sb.2 b (Nat.ne_of_lt (Heap.lt_size e))).trans (Heap.get?_push_of_some _ e)
 have sub:∀ {y:Str} {c:Addr},(clF X.env scope.names []).lookup y = some c → X.env.cells.lookup y = some c:=fun e => S.sub I.ok e
 have cellK:∀ y c,X.env.cells.lookup y = some c → ∀ v,s.heap.IsCell c v → h2.IsCell c v:=fun y c _ v ⟨o,ho,hd⟩ => ⟨o,keep c o ho,hd⟩
 refine ⟨⟨I.ok.mod,S.kind,I.ok.glob,I.ok.blt,Nat.le_refl _,(fun y z c e1 e2 => I.ok.inj y z c (sub e1) (sub e2)),fun y h => clF_has (.inr (lookup_mem (S.kindIn I.ok h))),(fun y c e => by cases e),I.ok.hd,I.ok.frames,.inl rfl,fun b hb => ⟨Nat.ne_of_lt (hl b hb),fun y c e => (hf b hb).2.2.2.2.1 y c (sub e)⟩,I.bs,Nat.le_trans I.ok.bsz I.sz,fun b o e hb => ?_,fun b hb => fp_stack I (hf b hb),I.stack,I.stkFree⟩,rfl,I.bare,Un.kept keep,⟨_,ns,fun i y v e1 e2 e3 => ?_⟩,(fun y c e => ?_),I.fresh,(fun y c e => I.freeC y c (sub e)),fun p hp => ?_,I.hok.kept keep,by unfold compX capS; simp⟩
 ·rcases (hf b hb).2.2.2.1 with z | z
  ·exact I.ok.noex b o e z
  ·exact absurd (Nat.lt_of_lt_of_le (Heap.lt_size e) (Nat.le_trans I.ok.bsz z)) (Nat.lt_irrefl _)
 ·cases i with
  | zero => cases e2
  | succ i =>
   have e1':(cs.map (·.1))[i]? = some y:=e1
   have e2':(capS cs σ)[i]? = some (some v):=e2
   unfold capS at e2'
   rw [List.getElem?_map] at e1' e2'
   cases q:cs[i]? with
   | none => rw [q] at e1'; cases e1'
   | some p =>
    rw [q] at e1' e2'
    have y1:p.1 = y:=by simpa using e1'
    have e4:(σ[p.2]?).getD none = some v:=by simpa using e2'
    have e5:σ[p.2]? = some (some v):=by
     cases q2:σ[p.2]? with
     | none => rw [q2] at e4; cases e4
     | some o =>
      rw [q2] at e4
      have:o = some v:=e4
      rw [this]
    have hp:=S.at_ p (List.mem_iff_getElem?.mpr ⟨i,q⟩)
    rw [y1] at hp
    have kd:=S.cap (y,.free) (lookup_mem hp.2) rfl
    obtain ⟨m,hn,hl'⟩:=I.loc
    obtain ⟨u,r,l⟩:=hl' p.2 y v hp.1 e5 (.inr kd)
    refine ⟨u,r,.inr ⟨S.free_vis hp.2,?_⟩⟩
    rcases l with ⟨l,_⟩ | ⟨_,c,e,z⟩
    ·rcases kd with kd | kd
     ·have kd':X.env.kindOf y = some .cell:=kd
      rw [kd'] at l; cases l
     ·have kd':X.env.kindOf y = some .free:=kd
      rw [kd'] at l; cases l
    ·obtain ⟨c',e'⟩:=clF_has (env:=X.env) (y:=y) (names:=scope.names) (acc:=[]) (.inr (lookup_mem hp.2))
     have:=sub e'
     rw [e] at this
     cases this
     exact ⟨c,e',cellK y c e _ z⟩
 ·obtain ⟨v,z⟩:=I.cell y c (sub e)
  exact ⟨v,cellK y c (sub e) v z⟩
 ·rw [List.append_nil] at hp
  obtain ⟨e,n,ne,nf,d⟩:=I.pin p hp
  refine ⟨keep _ _ e,n,Nat.ne_of_lt (Heap.lt_size e),fun z => ?_,d⟩
  rcases List.mem_cons.mp (I.stkSub p.1 z) with q | q
  ·exact ne q
  ·exact nf q
theorem comp_end {fp:List Addr} {E:Value → Shared → Prop} {Hb He:Hp} {sb se:Shared} {C:Addr} {σ':St} {pins':List (Addr × Obj)} (I:Inv X pins σ Hb sb) (hf:∀ b ∈ fp,FpOk X pins Hb b) (J:Inv (compX X scope x cs C sb Hb fp (X.pn ++ pins) E) pins' σ' He se):Inv X pins σ He se:=by
 have un:Un (frs X.stack) fp Hb He sb.heap se.heap:=J.base
 exact I.call' (ch:=fp) J.os un J.hok J.bare fun b hb => ⟨(hf b hb).2.2.2.1,(hf b hb).2.1,(hf b hb).2.2.2.2.1,fun p hp => (hf b hb).2.2.2.2.2 p hp⟩
theorem comp_gone {He:Hp} {se:Shared} {C:Addr} {h2:Heap} (I:Inv X pins σ He se) (f:FpOk X pins He C) (same:Heap.SameBut C se.heap h2):Inv X pins σ He { se with heap:=h2 } :=
 I.turned (t':=se.toks) (it:=C) (fun b o hb e => (same.2 b hb).trans e) f.1 f.2.1 f.2.2.2.1 f.2.2.2.2.1 f.2.2.2.2.2
end
def FrOk (X:Cx):Prop:=∃ (env:Env) (outer:List Env) (L:Addr),X.stack = env :: outer ∧ env.frame = some L ∧ X.env.frame = some L
theorem note_env {e:Value} {env env':Env} (h:env.frame = env'.frame):noteFrame e env = noteFrame e env':=by
 unfold noteFrame PySem.frameOf
 rw [h]
theorem funFrames_to {B B' h h':Heap} (st:B'.StaysIn B):∀ {l:List Env},h.FunFrames B l → (∀ b ∈ frs l,∀ o,h.get? b = some o → (∀ vs,o.data ≠ .fields vs) → h'.get? b = some o) → h'.FunFrames B' l
 | [],_,_ => trivial
 | env :: r,⟨hk,⟨L,o,hf,hn,ho,hd⟩,hr⟩,k => by
  refine ⟨hk,⟨L,o,hf,?_,k L (List.mem_filterMap.mpr ⟨env,List.mem_cons_self,hf⟩) o ho hd,hd⟩,funFrames_to st hr fun b hb => k b ?_⟩
  ·cases q:B'.get? L with
   | none => rfl
   | some u => rw [st L u q] at hn; cases hn
  ·obtain ⟨e,he,hb⟩:=List.mem_filterMap.mp hb
   exact List.mem_filterMap.mpr ⟨e,List.mem_cons_of_mem _ he,hb⟩
section
variable {X:Cx} {pins:List (Addr × Obj)} {σ:St} {scope:Scope} {x:Str} {cs:Caps}
theorem noted_post {Hc H':Hp} {sc s':Shared} {C a Cl L:Addr} {a0 acc:Value} {B h4:Heap} {ch:List Addr} {mm:Str → Option Value} {use:Option (Value → Sem Unit)} {Q:Value → Shared → Prop} {c:Str}
  (hC:ClsAt X.K c Cl) (Io:Inv X pins σ Hc sc) (fC:FpOk X pins Hc C) (ns:sc.heap.Ns C mm) (os:s'.os = sc.os) (bare:AllBare s'.gens) (hch:∀ b ∈ ch,FpOk X pins Hc b) (nC:C ∉ ch) (un:Un (frs X.stack) ch Hc H' sc.heap s'.heap) (hok:HOk X.prog X.w H' B)
  (hd:HeldX B X.stack a (.ref Cl) a0 L h4) (up:s'.heap.UpToSlots h4) (cov:∀ b o,sc.heap.get? b = some o → b ∉ frs X.stack → b ∉ ch → ∃ o',B.get? b = some o' ∧ (Hc b = none → o' = o)) (k:∀ s5,Raised X σ H' c (.ref a) s5 → X.xe (.ref a) s5) :
  compPost (model X.prog X.w) X.A X.xe use Q acc C (.error (.ref a)) { s' with heap:=h4 }:=by
 have nfC:C ∉ frs X.stack:=fp_stack Io fC
 obtain ⟨oC,es,ep,hoC,dC,sk⟩:=ns
 obtain ⟨oC',gC,eC⟩:=cov C oC hoC nfC nC
 rw [eC fC.1] at gC
 obtain ⟨d1,d2,d3,oe,vs,T,oT,ts,t1,t2,t3,t4,t5,t6,t7,t8,t9⟩:=hd
 have aC:a ≠ C:=fun z => by rw [z,gC] at d2; cases d2
 have TC:T ≠ C:=fun z => by rw [z,gC] at t5; cases t5
 have lt:3 < ts.size:=(Array.getElem?_eq_some_iff.mp t9).1
 have nch:∀ b ∈ frs X.stack,b ∉ ch:=fun b hb z => fp_stack Io (hch b z) hb
 have go:∃ m,h4.Ns C m ∧ ∀ h',Heap.SameBut C h4 h' → ∀ cenv:Env,cenv.locals = C → wpAny (model X.prog X.w) X.A (PySem.passOn "comprehension.variables-let-go" (.ref a) cenv:Sem Value) (fun _ _ => False) X.xe { s' with heap:=h' }:=by
  refine ⟨mm,⟨oC,es,ep,d1 C oC gC,dC,sk⟩,fun h' same cenv _ => ?_⟩
  have ga:h'.get? a = some oe:=(same.2 a aC).trans t1
  have gT:h'.get? T = some oT:=(same.2 T TC).trans t7
  have fin:∀ nt:Value,X.xe (.ref a) { s' with heap:=h'.update T (Obj.mapFields (·.setIfInBounds 3 nt)) }:=fun nt => by
   have other:∀ b,b ≠ T → (h'.update T (Obj.mapFields (·.setIfInBounds 3 nt))).get? b = h'.get? b:=fun b hb => Heap.get?_update_other _ _ (Ne.symm hb)
   have gB:∀ b o,B.get? b = some o → b ≠ C → (h'.update T (Obj.mapFields (·.setIfInBounds 3 nt))).get? b = some o:=fun b o q n => (other b fun z => by rw [z,t5] at q; cases q).trans ((same.2 b n).trans (d1 b o q))
   have gF:∀ b ∈ frs X.stack,∀ o,h4.get? b = some o → (∀ vs,o.data ≠ .fields vs) → (h'.update T (Obj.mapFields (·.setIfInBounds 3 nt))).get? b = some o:=fun b hb o q n => (other b fun z => by
    rw [z,t7] at q
    cases q
    exact n ts t8).trans ((same.2 b fun z => nfC (z ▸ hb)).trans q)
   have sl:∀ b o,sc.heap.get? b = some o → Hc b = none → b ∈ frs X.stack → ∃ sl,(h'.update T (Obj.mapFields (·.setIfInBounds 3 nt))).get? b = some { o with slots:=sl }:=fun b o q n hb => by
    obtain ⟨s1,q1⟩:=un.slot b o q n hb (nch b hb)
    obtain ⟨_,o1,q2,n1⟩:=Io.stack.mem hb
    rw [q] at q2
    cases q2
    obtain ⟨s2,q3⟩:=up b _ q1 n1
    exact ⟨s2,gF b hb _ q3 n1⟩
   have non:∀ b,B.get? b = none → (PySem.W.hideAll B [C]).get? b = none:=fun b q => by
    cases z:(PySem.W.hideAll B [C]).get? b with
    | none => rfl
    | some u => rw [PySem.W.of_hideAll _ z] at q; cases q
   refine k _ ⟨Cl,pins,Hc,sc,hC,Io,.inl ⟨a,a0,nt,PySem.W.hideAll B [C],C :: ch,rfl,os,bare,fun b hb => ?_,⟨fun b o q n hb hx => ?_,fun b o q n hb _ => sl b o q n hb,fun b o q n hx => un.free b o q n fun z => hx (List.mem_cons_of_mem _ z),fun b o q hx => ?_,un.tups,un.frzs,un.tbls⟩,hok_hide hok fun b hb => ?_,⟨fun b o q => ?_,non a d2,funFrames_to (fun b o q => PySem.W.of_hideAll _ q) d3 gF,oe,vs,T,_,_,(other a (Ne.symm t6)).trans ga,t2,t3,t4,non T t5,t6,Heap.get?_update_self _ gT (Obj.isFreed_of_fields (Obj.data_mapFields t8 _)),Obj.data_mapFields t8 _,by simp [lt]⟩,fun b o q hb hx => ?_⟩⟩
   ·rcases List.mem_cons.mp hb with z | z
    ·rw [z]; exact fC
    ·exact hch b z
   ·obtain ⟨o',q1,q2⟩:=cov b o q hb fun z => hx (List.mem_cons_of_mem _ z)
    rw [q2 n] at q1
    exact gB b o q1 fun z => hx (z ▸ List.mem_cons_self)
   ·by_cases hb:b ∈ frs X.stack
    ·obtain ⟨s2,q2⟩:=sl b o q (Io.stkFree b hb) hb
     exact ⟨_,q2⟩
    ·obtain ⟨o',q1,_⟩:=cov b o q hb fun z => hx (List.mem_cons_of_mem _ z)
     exact ⟨o',gB b o' q1 fun z => hx (z ▸ List.mem_cons_self)⟩
   ·rw [List.mem_singleton.mp hb]
    exact un.free C oC hoC fC.1 nC
   ·refine gB b o (PySem.W.of_hideAll _ q) fun z => ?_
    rw [z,PySem.W.hideAll_none [C] List.mem_cons_self] at q
    cases q
   ·obtain ⟨o',q1,q2⟩:=cov b o q hb fun z => hx (List.mem_cons_of_mem _ z)
    exact ⟨o',PySem.W.hideAll_get _ q1 fun z => hx ((List.mem_singleton.mp z) ▸ List.mem_cons_self),q2⟩
  unfold PySem.passOn
  refine wpAny_bind (wpAny_field ga t3 t4 ?_)
  rw [if_neg (show ¬ ((Value.ref T == Value.none) = true) from by simp)]
  unfold setFlight
  refine wpAny_bind (wpAny_bind (wpAny_field ga t3 t4 ?_))
  rw [if_pos (show (Value.ref T != Value.none) = true from by simp)]
  exact wpAny_setField gT t8 lt (wpAny_throw (fin _))
 cases use <;> exact go
theorem comp_raise {fp:List Addr} {H3 H':Hp} {s3 s':Shared} {σ':St} {c:Str} {e acc:Value} {E0:Value → Shared → Prop} {use:Option (Value → Sem Unit)} {Q:Value → Shared → Prop} (fr:FrOk X) (I3:Inv X pins σ H3 s3) (f3:∀ b ∈ fp,FpOk X pins H3 b)
  (rz:Raised (compX X scope x cs s3.heap.objs.size s3 H3 fp (X.pn ++ pins) E0) σ' H' c e s') (k:∀ s5,Raised X σ H' c e s5 → X.xe e s5) :
  notedBy (model X.prog X.w) X.A (compEnvC scope (clF X.env scope.names []) s3.heap.objs.size X.env) (fun e s' => compPost (model X.prog X.w) X.A X.xe use Q acc s3.heap.objs.size (.error e) s') e s':=by
 obtain ⟨env,outer,L,hst,hf,hfe⟩:=fr
 obtain ⟨Cl,pins',Hc,sc,hC,J,r⟩:=rz
 have Io:Inv X pins σ Hc sc:=comp_end I3 f3 J
 have fC:FpOk X pins Hc s3.heap.objs.size:=I3.fpOk (Nat.le_refl _) J.free
 obtain ⟨mm,ns,_⟩:=id J.loc
 have hfr:X.A.frames = some (env :: outer):=by rw [Io.ok.frames,hst]
 unfold notedBy
 rw [note_env (env':=env) (show (compEnvC scope (clF X.env scope.names []) s3.heap.objs.size X.env).frame = env.frame from hfe.trans hf.symm)]
 rcases r with ⟨a,a0,nt,B,ch,rfl,os,bare,hch,un,hok,fl,cov⟩ | ⟨rfl,a,args,rfl,ho,hg,M⟩
 ·have fl':B.StaysIn s'.heap ∧ B.get? a = none ∧ s'.heap.FunFrames B X.stack ∧ TrX s'.heap B a (.ref Cl) a0 nt:=fl
  rw [hst] at fl'
  refine note_any hfr hf fl' fun h4 hd4 up4 => ?_
  rw [← hst] at hd4
  refine noted_post hC Io fC ns os bare (fun b hb => ?_) (fun z => (hch _ z).2.1 rfl) un hok hd4 up4 cov k
  obtain ⟨h1,_,_,h4,_⟩:=hch b hb
  rcases h4 with z | z
  ·exact ⟨h1,(f3 b z).2⟩
  ·exact I3.fpOk z h1
 ·have fs:sc.heap.FunFrames (PySem.W.hideAll sc.heap (frs X.stack)) (env :: outer):=by
   rw [← hst]
   exact PySem.W.funFrames_hide Io.stack fun env he b hb => List.mem_filterMap.mpr ⟨env,he,hb⟩
  refine note_made (base:=PySem.W.hideAll sc.heap (frs X.stack)) hfr hf (fun b o q => PySem.W.of_hideAll _ q) fs M fun h4 a0 hd4 up4 => ?_
  rw [← hst] at hd4
  exact noted_post (ch:=[]) hC Io fC ns ho (by rw [hg]; exact Io.bare) (fun b z => by cases z) (by simp) (Un.kept M.keeps) (hok_hide Io.hok Io.stkFree) hd4 up4 (fun b o q hb _ => ⟨o,PySem.W.hideAll_get _ q hb,fun _ => rfl⟩) k
end
structure TurnY (Y:Cx → Prop) (P:Program) (w:World) (K:PySem.W.Frag) (tg:Expr) (J:It) (fp:List Addr) (it:Addr) (tn:Nat → Heap → Prop):Prop where
 obj:∀ i h,tn i h → ∀ b ∈ fp,∃ o,h.get? b = some o ∧ ∀ v,o.data ≠ .cell v
 keep:∀ i h h',tn i h → (∀ b ∈ fp,∀ o,h.get? b = some o → h'.get? b = some o) → tn i h'
 item:∀ (X:Cx),X.prog = P → X.w = w → X.K = K → Y X → ∀ (i:Nat) (pins:List (Addr × Obj)) (s:Shared) (σ:St) (H:Hp) (E:Value → Shared → Prop),Inv X pins σ H s → (∀ b ∈ fp,FpOk X pins H b) → tn i s.heap → J.go i H → wpAny (model P w) X.A (pyNext (.ref it)) (fun r s1 => ∃ u,r = some u ∧
  wpAny (model P w) X.A (letOwnedTupleGo tg (.ref it) u) (fun _ s2 => ∃ x H',Inv X pins σ H' s2 ∧ RelV x u ∧ J.yld i H x H' ∧ tn (i + 1) s2.heap ∧ ∀ b ∈ fp,H' b = none) E s1) E s
 done:∀ (X:Cx),X.prog = P → X.w = w → X.K = K → Y X → ∀ (i:Nat) (pins:List (Addr × Obj)) (s:Shared) (σ:St) (H:Hp) (E:Value → Shared → Prop),Inv X pins σ H s → (∀ b ∈ fp,FpOk X pins H b) → tn i s.heap → J.stop i H → wpAny (model P w) X.A (pyNext (.ref it)) (fun r s1 => r = none ∧ Inv X pins σ H s1) E s
 self:∀ (A:Around) (i:Nat) (s:Shared) (Q:Value → Shared → Prop) (E:Value → Shared → Prop),tn i s.heap → Q (.ref it) s → wpAny (model P w) A (pyIter (.ref it)) Q E s
abbrev Calm (X:Cx):Prop:=X.calm = true
theorem _root_.L2.Turn.y {P:Program} {w:World} {K:PySem.W.Frag} {tg:Expr} {J:It} {fp:List Addr} {it:Addr} {tn:Nat → Heap → Prop} (T:Turn P w K tg J fp it tn):TurnY Calm P w K tg J fp it tn:=⟨T.obj,T.keep,T.item,T.done,T.self⟩
def YIn (Y:Cx → Prop) (X:Cx):Prop:=∀ {pins:List (Addr × Obj)} {σ:St} {H:Hp} {s:Shared} (scope:Scope) (x:Str) (cs:Caps) (C:Addr) (s0:Shared) (fp:List Addr) (pn:List (Addr × Obj)) (E:Value → Shared → Prop),Inv X pins σ H s → Y (compX X scope x cs C s0 H fp pn E)
theorem yin_calm {X:Cx} (hc:X.calm = true):YIn Calm X:=fun _ _ _ _ _ _ _ _ _ => hc
def JTs (X:Cx) (ifs:List Expr) (g:GT):Prop:=∀ (ρ:Rho) (st:Hs) (σ:St) (H:Hp) (m:Mp) (Q:Bool → Hp → Prop),Sim X.K m st H → RelEnv X.K m H ρ σ → PostT X σ m H (g ρ st) Q → ∀ (pins:List (Addr × Obj)) (s:Shared),Inv X pins σ H s →
 wpAny (model X.prog X.w) X.A (forIn ifs true fun c r => if r = true then do let ok ← isTrue c X.env (eval c X.env); pure (ForInStep.yield ok) else pure (ForInStep.yield r)) (TP X pins σ Q) X.xe s
section
variable {X:Cx}
theorem jts_nil:JTs X [] (fun _ st => .ok true st):=fun ρ st σ H m Q S R p pins s I => wpAny_tests_nil ⟨H,I,p m H Ext.refl S⟩
theorem comp_block {pins:List (Addr × Obj)} {σ:St} {ρ:Rho} {scope:Scope} {x:Str} {cs:Caps} {px pos:Pos} {elt iter:Expr} {ifs:List Expr} {gt:GT} {ge:GE} {ck:Hs → Prop} {ws:List Wv} {E:Value → Shared → Prop}
  {use:Option (Value → Sem Unit)} {Q:Value → Shared → Prop} {res:Re Unit}
  {it:Addr} {fp:List Addr} {tn:Nat → Heap → Prop} {J':It} {H2:Hp} {s2:Shared} {m1:Mp} {st1:Hs} {Y:Cx → Prop} (fr:FrOk X) (S:CScope X scope x cs) (hY:YIn Y X) (hH:HdC X) (I2:Inv X pins σ H2 s2) (T:TurnY Y X.prog X.w X.K (.Name x px) J' fp it tn) (t0:tn 0 s2.heap) (f2:∀ b ∈ fp,FpOk X pins H2 b)
  (S1:Sim X.K m1 st1 H2) (R:RelEnv X.K m1 H2 ρ σ) (hck:ck (st1 ++ [.lst []])) (run:compZ ck (fun w => gt (some w :: capR cs ρ)) (fun w => ge (some w :: capR cs ρ)) st1.length ws (st1 ++ [.lst []]) = res) (nb:res ≠ .bad) (hx:∀ c stE,res = .err c stE → XOk X σ m1 H2 c stE)
  (hE:∀ C s0 H0 pn E,HdA X.A H0 → JE (compX X scope x cs C s0 H0 fp pn E) elt ge) (hT:∀ C s0 H0 pn E,HdA X.A H0 → JTs (compX X scope x cs C s0 H0 fp pn E) ifs gt)
  (hgo:∀ (k:Nat) (H:Hp) (m':Mp) (st:Hs),Ext X.K m1 H2 m' H → Sim X.K m' st H → ck st → k < ws.length → J'.go k H) (hstop:∀ (k:Nat) (H:Hp) (m':Mp) (st:Hs),Ext X.K m1 H2 m' H → Sim X.K m' st H → ck st → k = ws.length → J'.stop k H)
  (hy:∀ (k:Nat) (hk:k < ws.length) (H:Hp) (v:V) (H':Hp) (m':Mp) (st:Hs),Ext X.K m1 H2 m' H → Sim X.K m' st H → ck st → J'.yld k H v H' → H' = H ∧ RelW X.K m' H ws[k] v)
  (fin:∀ (stF:Hs),res = .ok () stF → ∀ (D C:Addr) (mm:Str → Option Value) (m':Mp) (H':Hp) (s':Shared),Ext X.K m1 H2 m' H' → Sim X.K m' stF H' → m'[st1.length]? = some D → Inv X pins σ H' s' → FpOk X pins H' C → s'.heap.Ns C mm → (∀ y c,X.env.cells.lookup y = some c → c ≠ C) → compPost (model X.prog X.w) X.A X.xe use Q (.ref D) C (.ok .next) s') :
  wpAny (model X.prog X.w) X.A (newList []) (fun acc s3 => wpAny (model X.prog X.w) X.A (newFunctionEnv scope X.env.globals (clF X.env scope.names []) [] X.env.qual none .none (some X.env)) (fun cenv s4 =>
   codeAny (model X.prog X.w) X.A (.compStart (.ListComp elt [⟨.Name x px,iter,ifs,0⟩] scope pos) 0 (.ref it) acc { cenv with scope:=relabel scope X.env }) (compPost (model X.prog X.w) X.A X.xe use Q acc cenv.locals) s4) E s3) E s2:=by
 refine wpAny_newList ?_
 have I3:Inv X pins σ (upd H2 s2.heap.objs.size (.lst [])) { s2 with heap:=s2.heap.push { cls:=.type "list",data:=.seq ([]:List Value).toArray } }:=I2.lnew (ys:=[]) (its:=[]) (t':=s2.toks) .nil (Nat.zero_le _)
 have lt2:∀ b ∈ fp,b < s2.heap.objs.size:=fun b hb => by
  obtain ⟨o,e,_⟩:=T.obj _ _ t0 b hb
  exact Heap.lt_size e
 have hD:H2 s2.heap.objs.size = none:=I2.fresh
 have f3:∀ b ∈ fp,FpOk X pins (upd H2 s2.heap.objs.size (.lst [])) b:=fun b hb => ⟨by rw [upd_ne (Nat.ne_of_lt (lt2 b hb))]; exact (f2 b hb).1,(f2 b hb).2⟩
 have S3:=S1.alloc (ws:=[]) (xs:=[]) hD RelWs.nil
 have e3:Ext X.K m1 H2 (m1 ++ [s2.heap.objs.size]) (upd H2 s2.heap.objs.size (.lst [])):=Ext.more.trans (Ext.upd (.inl hD))
 have lab:(m1 ++ [s2.heap.objs.size])[st1.length]? = some s2.heap.objs.size:=by
  rw [← S1.len,List.getElem?_append_right (Nat.le_refl _),Nat.sub_self]; rfl
 generalize hs3:({ s2 with heap:=s2.heap.push { cls:=.type "list",data:=.seq ([]:List Value).toArray } }:Shared) = s3 at I3
 have k23:∀ b o,s2.heap.get? b = some o → s3.heap.get? b = some o:=fun b o e => by rw [← hs3]; exact Heap.get?_push_of_some _ e
 have lt3:∀ b ∈ fp,b < s3.heap.objs.size:=fun b hb => by
  obtain ⟨o,e,_⟩:=T.obj _ _ t0 b hb
  exact Heap.lt_size (k23 b o e)
 generalize hDD:s2.heap.objs.size = D at *
 generalize hH3:upd H2 D (.lst []) = H3 at *
 generalize hm3:m1 ++ [D] = m3 at *
 have R3:RelEnv X.K m3 H3 (capR cs ρ) (capS cs σ):=(cap_rel cs R).mono e3
 generalize hrr:capR cs ρ = ρc at *
 generalize hss:capS cs σ = σc at *
 refine wpAny_newFunctionEnv S.cell (fun _ z => nomatch z) (fun h4 ns4 sb4 => ?_) S.kind
 have Ic:=fun E => comp_inv (E:=E) (tk:=s3.toks + ([]:List (Str × Value)).length) S I3 f3 lt3 ns4 sb4
 have k34:∀ b o,s3.heap.get? b = some o → h4.get? b = some o:=fun b o e => (sb4.2 b (Nat.ne_of_lt (Heap.lt_size e))).trans (Heap.get?_push_of_some _ e)
 have t4:tn 0 h4:=T.keep _ _ _ t0 fun b _ o e => k34 b o (k23 b o e)
 let EX:Value → Shared → Prop:=notedBy (model X.prog X.w) X.A (compEnvC scope (clF X.env scope.names []) s3.heap.objs.size X.env) fun e s' => compPost (model X.prog X.w) X.A X.xe use Q (.ref D) s3.heap.objs.size (.error e) s'
 let Xc:=compX X scope x cs s3.heap.objs.size s3 H3 fp (X.pn ++ pins) EX
 have noted:∀ {σ':St} {m:Mp} {H:Hp} {c:Str} {st:Hs},Ext X.K m1 H2 m H → res = .err c st → XOk Xc σ' m H c st:=fun {σ' m H c st} e0 er m' H' e s' ex S' rz => comp_raise fr I3 f3 rz fun s5 r5 => hx c st er m' H' e s5 (e0.trans ex) S' r5
 have vis:Xc.env.scope.names.lookup x = some .local:=lookup_relabel_local S.var
 have fpc:∀ (H':Hp),(∀ b ∈ fp,H' b = none) → ∀ b ∈ fp,FpOk Xc [] H' b:=fun H' hn b hb => ⟨hn b hb,Nat.ne_of_lt (lt3 b hb),fp_stack I3 (f3 b hb),.inl hb,fun y c e => (f3 b hb).2.2.2.2.1 y c (S.sub I3.ok e),fun p hp => (f2 b hb).2.2.2.2.2 p (by have hp':p ∈ (X.pn ++ pins) ++ []:=hp; rw [List.append_nil] at hp'; exact hp')⟩
 let Pv:Nat → Shared → Prop:=fun k s' => ∃ z H' st m',Inv Xc [] (z :: σc) H' s' ∧ tn k s'.heap ∧ (∀ b ∈ fp,H' b = none) ∧ Ext X.K m3 H3 m' H' ∧ Sim X.K m' st H' ∧ ck st ∧ compZ ck (fun w => gt (some w :: ρc)) (fun w => ge (some w :: ρc)) st1.length (ws.drop k) st = res
 have loop:∀ s4:Shared,Pv 0 s4 → codeAny (model X.prog X.w) X.A (.compLoop (.ListComp elt [⟨.Name x px,iter,ifs,0⟩] scope pos) 0 (.ref it) (.ref D) (compEnvC scope (clF X.env scope.names []) s3.heap.objs.size X.env)) (compPost (model X.prog X.w) X.A X.xe use Q (.ref D) s3.heap.objs.size) s4:=fun s4 p0 => by
  refine codeAny_compLoop_tests (fun n s' => ∃ k,n = ws.length - k ∧ k ≤ ws.length ∧ Pv k s') ?_ ws.length ⟨0,by simp,Nat.zero_le _,p0⟩
  rintro n s5 ⟨k,rfl,hk,z5,H5,st5,m5,I5,tn5,fr5,e5,S5,c5,run5⟩
  have e15:=e3.trans e5
  by_cases hlt:k < ws.length
  ·refine thn (T.item Xc rfl rfl rfl (hY _ _ _ _ _ _ _ _ I3) k [] s5 (z5 :: σc) H5 _ I5 (fpc H5 fr5) tn5 (hgo k H5 m5 st5 e15 S5 c5 hlt)) fun r s6 h6 => ?_
   obtain ⟨u,rfl,h6⟩:=h6
   show wpAny (model X.prog X.w) X.A (pure () >>= fun _ => assign (.Name x px) Xc.env u) _ _ s6
   refine wpAny_bind (thn h6 fun _ s7 h7 => ?_)
   obtain ⟨v,H7,I7,rv,yl,tn7,fr7⟩:=h7
   obtain ⟨rfl,rw7⟩:=hy k hlt H5 v H7 m5 st5 e15 S5 c5 yl
   have I7':=I7.pinned (fpc H7 fr7) (T.obj _ _ tn7)
   refine wpAny_assign_Name (store_ok (i:=0) I7' S.nd rfl (.inl vis) rv (fun s8 I8 => ?_) (.inr vis))
   have I8':Inv Xc ([] ++ pinsAt fp s7.heap) (some v :: σc) H7 s8:=I8
   have R8:RelEnv X.K m5 H7 (some ws[k] :: ρc) (some v :: σc):=by
    have R5:=R3.mono e5
    refine ⟨by simp [R5.len],fun i w e => ?_⟩
    cases i with
    | zero =>
     cases e
     exact ⟨v,rfl,rw7⟩
    | succ i => exact R5.get i w e
   have ed:ws.drop k = ws[k] :: ws.drop (k + 1):=List.drop_eq_getElem_cons hlt
   rw [ed] at run5
   unfold compZ at run5
   have back:∀ {H':Hp} {s':Shared} {m':Mp} {st:Hs},Inv Xc ([] ++ pinsAt fp s7.heap) (some v :: σc) H' s' → Ext X.K m3 H3 m' H' → Sim X.K m' st H' → ck st → compZ ck (fun w => gt (some w :: ρc)) (fun w => ge (some w :: ρc)) st1.length (ws.drop (k + 1)) st = res → ∃ n',n' < ws.length - k ∧ ∃ k',n' = ws.length - k' ∧ k' ≤ ws.length ∧ Pv k' s' :=
    fun {H' s' m' st} I' e' S' c' r' => ⟨ws.length - (k + 1),by omega,k + 1,rfl,hlt,some v,H',st,m',I'.unpinned,T.keep _ _ _ tn7 fun b hb o e => (I'.pin (b,o) (List.mem_append_right _ (List.mem_append_right _ (mem_pinsAt hb e)))).1,fun b hb => by
     obtain ⟨o,e,_⟩:=T.obj _ _ tn7 b hb
     exact (I'.pin (b,o) (List.mem_append_right _ (List.mem_append_right _ (mem_pinsAt hb e)))).2.1,e',S',c',r'⟩
   cases eg:gt (some ws[k] :: ρc) st5 with
   | err c st6 =>
    rw [eg] at run5
    refine wpAny_mono (hT s3.heap.objs.size s3 H3 (X.pn ++ pins) EX (hH.at I3) (some ws[k] :: ρc) st5 (some v :: σc) H7 m5 (fun _ _ => False) S5 R8 (by rw [eg]; exact noted e15 run5.symm) ([] ++ pinsAt fp s7.heap) s8 I8') (fun _ _ h9 => ?_) fun _ _ z => z
    obtain ⟨_,_,z⟩:=h9
    exact z.elim
   | bad => rw [eg] at run5; exact absurd run5.symm nb
   | ok b st6 =>
    rw [eg] at run5
    have tst:=hT s3.heap.objs.size s3 H3 (X.pn ++ pins) EX (hH.at I3) (some ws[k] :: ρc) st5 (some v :: σc) H7 m5 (fun b' H' => b' = b ∧ ∃ m',Ext X.K m5 H7 m' H' ∧ Sim X.K m' st6 H') S5 R8 (by rw [eg]; exact fun m' H' e' S' => ⟨rfl,m',e',S'⟩) ([] ++ pinsAt fp s7.heap) s8 I8'
    refine wpAny_mono tst (fun ok s9 h9 => ?_) fun _ _ z => z
    obtain ⟨H9,I9,rfl,m9,e9,S9⟩:=h9
    cases ok with
    | false =>
     dsimp only at run5
     by_cases c6:ck st6
     ·rw [if_pos c6] at run5
      rw [if_neg Bool.false_ne_true]
      exact back I9 (e5.trans e9) S9 c6 run5
     ·rw [if_neg c6] at run5; exact absurd run5.symm nb
    | true =>
     dsimp only at run5
     rw [if_pos rfl]
     cases ee:ge (some ws[k] :: ρc) st6 with
     | err c st7 =>
      rw [ee] at run5
      refine wpAny_mono (hE s3.heap.objs.size s3 H3 (X.pn ++ pins) EX (hH.at I3) (some ws[k] :: ρc) st6 (some v :: σc) H9 m9 (fun _ _ => False) S9 (R8.mono e9) (by rw [ee]; exact noted (e15.trans e9) run5.symm) ([] ++ pinsAt fp s7.heap) s9 I9) (fun _ _ h10 => ?_) fun _ _ z => z
      obtain ⟨_,_,_,_,z⟩:=h10
      exact z.elim
     | bad => rw [ee] at run5; exact absurd run5.symm nb
     | ok w st7 =>
      rw [ee] at run5
      dsimp only at run5
      cases ea:mApp (.ref st1.length) w st7 with
      | err c st8 => rw [ea] at run5; exact absurd run5.symm nb
      | bad => rw [ea] at run5; exact absurd run5.symm nb
      | ok w2 st8 =>
       rw [ea] at run5
       dsimp only at run5
       by_cases c8:ck st8
       ·rw [if_pos c8] at run5
        have el:=hE s3.heap.objs.size s3 H3 (X.pn ++ pins) EX (hH.at I3) (some ws[k] :: ρc) st6 (some v :: σc) H9 m9 (fun v' H' => ∃ m',Ext X.K m9 H9 m' H' ∧ Sim X.K m' st7 H' ∧ RelW X.K m' H' w v') S9 (R8.mono e9) (by rw [ee]; exact fun v' m' H' e' S' r' => ⟨m',e',S',r'⟩) ([] ++ pinsAt fp s7.heap) s9 I9
        refine wpAny_mono el (fun u2 s10 h10 => ?_) fun _ _ z => z
        obtain ⟨v2,H10,I10,r2,m10,e10,S10,rw10⟩:=h10
        obtain ⟨r,h1,h2⟩:=mw_app (X:=Xc)
        have eA:=(e5.trans e9).trans e10
        have ro:RelW X.K m10 H10 (.ref st1.length) (.ref D):=by unfold RelW; exact ⟨D,rfl,eA.pre _ _ lab⟩
        have rd:=h2 (.ref st1.length) w (.ref D) v2 st7 H10 m10 (fun _ H' => ∃ m',Ext X.K m10 H10 m' H' ∧ Sim X.K m' st8 H') S10 ro rw10 (by rw [ea]; exact fun v' m' H' e' S' r' => ⟨m',e',S'⟩)
        refine wpAny_mono (h1 ([] ++ pinsAt fp s7.heap) s10 (some v :: σc) H10 (.ref D) [v2] (.ref D) [u2] _ I10 rfl (.cons r2 .nil) rd) (fun _ s11 h11 => ?_) fun _ _ z => z
        obtain ⟨_,H11,I11,_,m11,e11,S11⟩:=h11
        exact back I11 (eA.trans e11) S11 c8 run5
       ·rw [if_neg c8] at run5; exact absurd run5.symm nb
  ·have ek:k = ws.length:=by omega
   subst ek
   refine thn (T.done Xc rfl rfl rfl (hY _ _ _ _ _ _ _ _ I3) _ [] s5 (z5 :: σc) H5 _ I5 (fpc H5 fr5) tn5 (hstop _ H5 m5 st5 e15 S5 c5 rfl)) fun r s6 h6 => ?_
   obtain ⟨rfl,I6⟩:=h6
   rw [List.drop_length] at run5
   obtain ⟨mm,ns6,_⟩:=id I6.loc
   have fC:=I3.fpOk (H':=H5) (Nat.le_refl _) I6.free
   exact fin st5 run5.symm D _ mm m5 H5 _ e15 S5 (e5.pre _ _ lab) (comp_end I3 f3 I6) fC ns6 fC.2.2.2.2.1
 have p0:Pv 0 { s3 with heap:=h4,toks:=s3.toks + ([]:List (Str × Value)).length }:=⟨none,H3,st1 ++ [Ob.lst []],m3,hss ▸ Ic EX,t4,fun b hb => (f3 b hb).1,Ext.refl,S3,hck,by rw [List.drop_zero]; exact run⟩
 exact codeAny_compStart_list (loop _ p0) (T.self X.A 0 _ _ _ t4 (loop _ p0))
end
end J
namespace J
open PySem PySem.Spec PyProof.Rows L2
abbrev Wk:=Option Nat × List Wv
def ckOf (w:Wk) (st:Hs):Prop:=match w.1 with
 | some l => lstOf st l = some w.2
 | none => True
structure ItFor (X:Cx) (w:Wk) (m1:Mp) (H1:Hp) (J':It):Prop where
 go:∀ (k:Nat) (H:Hp) (m':Mp) (st:Hs),Ext X.K m1 H1 m' H → Sim X.K m' st H → ckOf w st → k < w.2.length → J'.go k H
 stop:∀ (k:Nat) (H:Hp) (m':Mp) (st:Hs),Ext X.K m1 H1 m' H → Sim X.K m' st H → ckOf w st → k = w.2.length → J'.stop k H
 yld:∀ (k:Nat) (hk:k < w.2.length) (H:Hp) (v:V) (H':Hp) (m':Mp) (st:Hs),Ext X.K m1 H1 m' H → Sim X.K m' st H → ckOf w st → J'.yld k H v H' → H' = H ∧ RelW X.K m' H w.2[k] v
abbrev GI:=Rho → Hs → Re Wk
def PIEY (Y:Cx → Prop) (X:Cx) (pins:List (Addr × Obj)) (σ:St) (tg:Expr) (R:It → Hp → Prop) (itv:Value) (s2:Shared):Prop :=
 ∃ (it:Addr) (fp:List Addr) (tn:Nat → Heap → Prop) (J:It) (H':Hp),itv = .ref it ∧ Inv X pins σ H' s2 ∧ TurnY Y X.prog X.w X.K tg J fp it tn ∧ tn 0 s2.heap ∧ (∀ b ∈ fp,FpOk X pins H' b) ∧ R J H'
def PIY (Y:Cx → Prop) (X:Cx) (tg iter:Expr) (wi:TI):Prop:=∀ (pins:List (Addr × Obj)) (s:Shared) (σ:St) (H:Hp) (R:It → Hp → Prop),Inv X pins σ H s → wi σ H R →
 wpAny (model X.prog X.w) X.A (eval iter X.env) (fun v s1 => wpAny (model X.prog X.w) X.A (pyIter v) (PIEY Y X pins σ tg R) X.xe s1) X.xe s
theorem _root_.L2.PI.y {X:Cx} {tg iter:Expr} {wi:TI} (h:PI X tg iter wi):PIY Calm X tg iter wi:=fun pins s σ H R I q => thn (h pins s σ H R I q) fun _ _ h1 => thn h1 fun _ _ h2 =>
 let ⟨it,fp,tn,J,H',e,I',T,r⟩:=h2; ⟨it,fp,tn,J,H',e,I',T.y,r⟩
def JIY (Y:Cx → Prop) (X:Cx) (tg iter:Expr) (gi:GI):Prop:=∃ wi,PIY Y X tg iter wi ∧ ∀ (ρ:Rho) (st:Hs) (σ:St) (H:Hp) (m:Mp) (R:It → Hp → Prop),Sim X.K m st H → RelEnv X.K m H ρ σ →
 PostG X σ m H (gi ρ st) (fun w st1 => ∀ (m1:Mp) (H1:Hp) (J':It),Ext X.K m H m1 H1 → Sim X.K m1 st1 H1 → ckOf w st1 → ItFor X w m1 H1 J' → R J' H1) → wi σ H R
def JI (X:Cx) (tg iter:Expr) (gi:GI):Prop:=∃ wi,PI X tg iter wi ∧ ∀ (ρ:Rho) (st:Hs) (σ:St) (H:Hp) (m:Mp) (R:It → Hp → Prop),Sim X.K m st H → RelEnv X.K m H ρ σ →
 PostG X σ m H (gi ρ st) (fun w st1 => ∀ (m1:Mp) (H1:Hp) (J':It),Ext X.K m H m1 H1 → Sim X.K m1 st1 H1 → ckOf w st1 → ItFor X w m1 H1 J' → R J' H1) → wi σ H R
theorem JI.y {X:Cx} {tg iter:Expr} {gi:GI} (h:JI X tg iter gi):JIY Calm X tg iter gi:=let ⟨wi,h1,h2⟩:=h; ⟨wi,h1.y,h2⟩
def seqW (w:Wv) (st:Hs):Re Wk:=match w with
 | .ref l => (match lstOf st l with | some ws => .ok (some l,ws) st | none => .bad)
 | .tup ws => .ok (none,ws) st
 | .ktp ws => .ok (none,ws) st
 | _ => .bad
def giSeq (g:GE):GI:=fun ρ st => (g ρ st).bind seqW
section
variable {X:Cx}
theorem ji_seq {tg iter:Expr} {g:GE} (h:JE X iter g):JI X tg iter (giSeq g):=by
 refine ⟨_,pi_seq pe_SE,fun ρ st σ H m Q S R p => ?_⟩
 refine h.go S R (PostG.bind p) fun w st1 v m1 H1 p1 e1 S1 rw' => ?_
 cases w with
 | ref l =>
  unfold RelW at rw'
  obtain ⟨a,rfl,hla⟩:=rw'
  unfold seqW at p1
  cases el:lstOf st1 l with
  | none => simp only [el] at p1; exact False.elim p1
  | some ws =>
   simp only [el] at p1
   obtain ⟨xs0,q0,_⟩:=S1.read hla el
   refine ⟨a,rfl,.inl ⟨⟨xs0,q0⟩,p1 m1 H1 _ e1 S1 el ⟨fun k H' m' st' e S' c hk => ?_,fun k H' m' st' e S' c hk => ?_,fun k hk H' v H'' m' st' e S' c y => ?_⟩⟩⟩
   ·obtain ⟨xs,hq,rws⟩:=S'.read (e.pre _ _ hla) c
    have hx':k < xs.length:=by rw [← rws.length]; exact hk
    exact ⟨xs,xs[k],hq,by simp [hx']⟩
   ·obtain ⟨xs,hq,rws⟩:=S'.read (e.pre _ _ hla) c
    exact ⟨xs,hq,by rw [← rws.length,hk]; exact Nat.le_refl _⟩
   ·obtain ⟨xs,hq,rws⟩:=S'.read (e.pre _ _ hla) c
    obtain ⟨ee,y⟩:=y
    refine ⟨ee,?_⟩
    obtain ⟨x',ex',rx'⟩:=rws.get (i:=k) (w:=ws[k]) (List.getElem?_eq_getElem hk)
    rw [y xs hq] at ex'
    cases ex'
    exact rx'
 | tup ws =>
  unfold RelW at rw'
  obtain ⟨a,xs,rfl,hq,rws⟩:=rw'
  refine ⟨a,rfl,.inr ⟨⟨xs,SqT.of hq⟩,p1 m1 H1 _ e1 S1 trivial ⟨fun k H' m' st' e S' c hk => ?_,fun k H' m' st' e S' c hk => ?_,fun k hk H' v H'' m' st' e S' c y => ?_⟩⟩⟩
  ·have hx':k < xs.length:=by rw [← rws.length]; exact hk
   exact ⟨xs,xs[k],SqT.of (e.tup _ _ hq),by simp [hx']⟩
  ·exact ⟨xs,SqT.of (e.tup _ _ hq),by rw [← rws.length,hk]; exact Nat.le_refl _⟩
  ·obtain ⟨ee,y⟩:=y
   refine ⟨ee,?_⟩
   obtain ⟨x',ex',rx'⟩:=(RelWs.mono e _ _ rws).get (i:=k) (w:=ws[k]) (List.getElem?_eq_getElem hk)
   rw [y xs (SqT.of (e.tup _ _ hq))] at ex'
   cases ex'
   exact rx'
 | ktp ws =>
  unfold RelW at rw'
  obtain ⟨a,xs,rfl,hq,rws⟩:=rw'
  refine ⟨a,rfl,.inr ⟨⟨xs,.inr hq⟩,p1 m1 H1 _ e1 S1 trivial ⟨fun k H' m' st' e S' c hk => ?_,fun k H' m' st' e S' c hk => ?_,fun k hk H' v H'' m' st' e S' c y => ?_⟩⟩⟩
  ·have hx':k < xs.length:=by rw [← rws.length]; exact hk
   exact ⟨xs,xs[k],.inr hq,by simp [hx']⟩
  ·exact ⟨xs,.inr hq,by rw [← rws.length,hk]; exact Nat.le_refl _⟩
  ·obtain ⟨ee,y⟩:=y
   refine ⟨ee,?_⟩
   obtain ⟨x',ex',rx'⟩:=(RelWs.mono e _ _ rws).get (i:=k) (w:=ws[k]) (List.getElem?_eq_getElem hk)
   rw [y xs (.inr hq)] at ex'
   cases ex'
   exact rx'
 | _ => exact False.elim p1
theorem it_rng {lo:Int} {n:Nat} {m1:Mp} {H1:Hp}:ItFor X (none,rngW lo n) m1 H1 (Itr lo n) where
 go:=fun k H m' st e S c hk => by
  have:(rngW lo n).length = n:=rngW_len
  have hk':k < (rngW lo n).length:=hk
  rw [this] at hk'; exact hk'
 stop:=fun k H m' st e S c hk => by
  have:(rngW lo n).length = n:=rngW_len
  have hk':k = (rngW lo n).length:=hk
  rw [this] at hk'; exact Nat.le_of_eq hk'.symm
 yld:=fun k hk H v H' m' st e S c y => by
  obtain ⟨y1,y2⟩:=y
  refine ⟨y1,?_⟩
  have q:(rngW lo n)[k]'hk = .int (lo + k):=rngW_get hk
  show RelW X.K m' H ((rngW lo n)[k]'hk) v
  rw [q,y2]
  exact mkInt
noncomputable def rng1W (ws:List Wv) (st:Hs):Re Wk:=match ws with
 | [.int j] => if CRng j then .ok (none,rngW 0 j.toNat) st else .bad
 | _ => .bad
noncomputable def rng2W (ws:List Wv) (st:Hs):Re Wk:=match ws with
 | [.int a,.int j] => if CRng a ∧ CRng j then .ok (none,rngW a (j - a).toNat) st else .bad
 | _ => .bad
noncomputable def giR1 (g:GA):GI:=fun ρ st => (g ρ st).bind rng1W
noncomputable def giR2 (g:GA):GI:=fun ρ st => (g ρ st).bind rng2W
theorem ji_r1 {tg a:Expr} {ga:GA} {p q:Pos} (hg:Gl X "range") (hm:X.mg "range" = none) (ha:JA X [a] ga) (hst:starEach [a] X.env = [(false,eval a X.env)]):JI X tg (.Call (.Name "range" p) [a] [] q) (giR1 ga):=by
 refine ⟨_,pi_range1 hg hm pa_SA hst,fun ρ st σ H m Q S R p => ?_⟩
 refine ha.go S R (PostG.bind p) fun ws st1 vs m1 H1 p1 e1 S1 rs => ?_
 match ws,rs,p1 with
 | [],rs,p1 => exact False.elim p1
 | x :: y :: t,rs,p1 => cases x <;> exact False.elim p1
 | [x],rs,p1 =>
  obtain ⟨v,rfl,r1⟩:=rel1 rs
  cases x with
  | int j =>
   cases relInt r1
   unfold rng1W at p1
   by_cases c:CRng j
   ·simp only [if_pos c] at p1
    exact ⟨j,rfl,c.1,c.2,p1 m1 H1 _ e1 S1 trivial it_rng⟩
   ·simp only [if_neg c] at p1; exact False.elim p1
  | _ => exact False.elim p1
def gBadI:GI:=fun _ _ => .bad
theorem pi_never {tg iter:Expr}:PI X tg iter (fun _ _ _ => False):=fun _ _ _ _ _ _ h => h.elim
theorem ji_bad {tg iter:Expr}:JI X tg iter gBadI:=⟨_,pi_never,fun ρ st σ H m Q S R p => p⟩
noncomputable def compRun (cs:Caps) (gt:GT) (ge:GE) (ρ:Rho) (w:Wk) (st:Hs):Re Wv:=match compG (ckOf w) (fun v => gt (some v :: capR cs ρ)) (fun v => ge (some v :: capR cs ρ)) st.length w.2 (st ++ [.lst []]) with
 | some stF => .ok (.ref st.length) stF
 | none => (match compZ (ckOf w) (fun v => gt (some v :: capR cs ρ)) (fun v => ge (some v :: capR cs ρ)) st.length w.2 (st ++ [.lst []]) with
  | .err c stE => .err c stE
  | _ => .bad)
noncomputable def gComp (cs:Caps) (gi:GI) (gt:GT) (ge:GE):GE:=fun ρ st => (gi ρ st).bind fun w st1 => compRun cs gt ge ρ w st1
theorem lstOf_app {st:Hs} {l:Nat} {ws:List Wv} {more:Hs} (h:lstOf st l = some ws):lstOf (st ++ more) l = some ws:=by
 unfold lstOf at h ⊢
 cases e:st[l]? with
 | none => rw [e] at h; cases h
 | some o =>
  have hl:=(List.getElem?_eq_some_iff.mp e).1
  rw [List.getElem?_append_left hl,e]
  rw [e] at h
  exact h
theorem ckOf_app {w:Wk} {st more:Hs} (h:ckOf w st):ckOf w (st ++ more):=by
 obtain ⟨o,ws⟩:=w
 cases o with
 | none => trivial
 | some l => exact lstOf_app h
theorem comp_go {scope:Scope} {x:Str} {cs:Caps} {px pos:Pos} {elt iter:Expr} {ifs:List Expr} {gi:GI} {gt:GT} {ge:GE} {use:Option (Value → Sem Unit)} {Q:Value → Shared → Prop} {P:Wv → Hs → Prop}
  {ρ:Rho} {st:Hs} {σ:St} {H:Hp} {m:Mp} {pins:List (Addr × Obj)} {s:Shared} {ps:Pos}
  {Y:Cx → Prop} (fr:FrOk X) (CS:CScope X scope x cs) (hc:YIn Y X) (hH:HdC X) (hi:JIY Y X (.Name x px) iter gi) (hE:∀ C s0 H0 fp pn E,HdA X.A H0 → JE (compX X scope x cs C s0 H0 fp pn E) elt ge) (hT:∀ C s0 H0 fp pn E,HdA X.A H0 → JTs (compX X scope x cs C s0 H0 fp pn E) ifs gt) (hs:∀ x,foldedSetIterable iter X.env x = pure x)
  (S:Sim X.K m st H) (R:RelEnv X.K m H ρ σ) (I:Inv X pins σ H s) (p:PostG X σ m H (gComp cs gi gt ge ρ st) P)
  (fin:∀ (w:Wv) (stF:Hs) (v:V) (D C:Addr) (mm:Str → Option Value) (m':Mp) (H':Hp) (s':Shared),P w stF → Ext X.K m H m' H' → Sim X.K m' stF H' → RelW X.K m' H' w v → v = .ref D → Inv X pins σ H' s' → FpOk X pins H' C → s'.heap.Ns C mm → compPost (model X.prog X.w) X.A X.xe use Q (.ref D) C (.ok .next) s') :
  wpAny (model X.prog X.w) X.A (comprehension (.ListComp elt [⟨.Name x px,iter,ifs,0⟩] scope pos) scope X.env ps (newList []) false (eval iter X.env) use) Q X.xe s:=by
 obtain ⟨wi,hpi,hw⟩:=hi
 let R':It → Hp → Prop:=fun J' H1 => ∃ (w:Wk) (st1:Hs) (m1:Mp),PostG X σ m H (compRun cs gt ge ρ w st1) P ∧ Ext X.K m H m1 H1 ∧ Sim X.K m1 st1 H1 ∧ ckOf w st1 ∧ ItFor X w m1 H1 J'
 have hr:=hw ρ st σ H m R' S R ((PostG.bind p).imp Ext.refl fun w st1 q m1 H1 J' e1 S1 c1 it1 => ⟨w,st1,m1,q,e1,S1,c1,it1⟩)
 refine wpAny_comprehension_free (g:=⟨.Name x px,iter,ifs,0⟩) (gs:=[]) (cl:=clF X.env scope.names []) rfl hs (clos_is (CS.has I.ok)) CS.kind (fun y hy e => by rw [CS.look y hy,e]) (thn (hpi pins s σ H R' I hr) fun v s1 h1 => thn h1 fun itv s2 h2 => ?_)
 obtain ⟨it,fp,tn,J',H1,rfl,I2,T,t0,f2,w,st1,m1,q,e1,S1,c1,it1⟩:=h2
 unfold compRun at q
 cases run:compG (ckOf w) (fun v => gt (some v :: capR cs ρ)) (fun v => ge (some v :: capR cs ρ)) st1.length w.2 (st1 ++ [.lst []]) with
 | none =>
  rw [run] at q
  dsimp only at q
  cases rz:compZ (ckOf w) (fun v => gt (some v :: capR cs ρ)) (fun v => ge (some v :: capR cs ρ)) st1.length w.2 (st1 ++ [.lst []]) with
  | ok _ _ => rw [rz] at q; exact False.elim q
  | bad => rw [rz] at q; exact False.elim q
  | err c stE =>
   rw [rz] at q
   refine comp_block (use:=use) (Q:=Q) fr CS hc hH I2 T t0 f2 S1 (R.mono e1) (ckOf_app c1) rz (by intro z; cases z) (fun c' stE' z => ?_) (fun C s0 H0 pn E => hE C s0 H0 fp pn E) (fun C s0 H0 pn E => hT C s0 H0 fp pn E) it1.go it1.stop it1.yld (fun stF z => by cases z)
   cases z
   exact XOk.mono q e1
 | some stF =>
  rw [run] at q
  refine comp_block (use:=use) (Q:=Q) fr CS hc hH I2 T t0 f2 S1 (R.mono e1) (ckOf_app c1) (compZ_of _ _ run) (by intro z; cases z) (fun c' stE' z => by cases z) (fun C s0 H0 pn E => hE C s0 H0 fp pn E) (fun C s0 H0 pn E => hT C s0 H0 fp pn E) it1.go it1.stop it1.yld ?_
  intro stF' z D C mm m' H' s' e' S' lab I' fC ns _
  cases z
  exact fin _ stF (.ref D) D C mm m' H' s' q (e1.trans e') S' (by unfold RelW; exact ⟨D,rfl,lab⟩) rfl I' fC ns
theorem je_comp {scope:Scope} {x:Str} {cs:Caps} {px pos:Pos} {elt iter:Expr} {ifs:List Expr} {gi:GI} {gt:GT} {ge:GE}
  {Y:Cx → Prop} (fr:FrOk X) (CS:CScope X scope x cs) (hc:YIn Y X) (hH:HdC X) (hi:JIY Y X (.Name x px) iter gi) (hE:∀ C s0 H0 fp pn E,HdA X.A H0 → JE (compX X scope x cs C s0 H0 fp pn E) elt ge) (hT:∀ C s0 H0 fp pn E,HdA X.A H0 → JTs (compX X scope x cs C s0 H0 fp pn E) ifs gt) (hs:∀ x,foldedSetIterable iter X.env x = pure x) :
  JE X (.ListComp elt [⟨.Name x px,iter,ifs,0⟩] scope pos) (gComp cs gi gt ge):=fun ρ st σ H m Q S R p pins s I => by
 rw [eval_ListComp]
 refine comp_go (use:=none) fr CS hc hH hi hE hT hs S R I p ?_
 intro w stF v D C mm m' H' s' q e' S' rw' ev I' fC ns
 exact ⟨mm,ns,fun h' same => ⟨.ref D,H',comp_gone I' fC same,rfl,ev ▸ q v m' H' e' S' rw'⟩⟩
theorem js_setC (i:Nat) {scope:Scope} {x y:Str} {cs:Caps} {px pos spos py:Pos} {elt iter:Expr} {ifs:List Expr} {gi:GI} {gt:GT} {ge:GE} (hN:X.N.Nodup)
  {Y:Cx → Prop} (fr:FrOk X) (CS:CScope X scope x cs) (hc:YIn Y X) (hH:HdC X) (hi:JIY Y X (.Name x px) iter gi) (hE:∀ C s0 H0 fp pn E,HdA X.A H0 → JE (compX X scope x cs C s0 H0 fp pn E) elt ge) (hT:∀ C s0 H0 fp pn E,HdA X.A H0 → JTs (compX X scope x cs C s0 H0 fp pn E) ifs gt) (hs:∀ x,foldedSetIterable iter X.env x = pure x)
  (hx:X.N[i]? = some y) (hl:Loc X.env.scope y) (hf:X.fn y = true ∨ X.env.scope.names.lookup y = some .local) :
  JS X (.Assign [.Name y py] (.ListComp elt [⟨.Name x px,iter,ifs,0⟩] scope pos) spos) (gSet i (gComp cs gi gt ge)):=by
 have sw:∃ b,swapsWith (.ListComp elt [⟨.Name x px,iter,ifs,0⟩] scope pos) (some (.Name y py)) spos.line X.env = pure b:=⟨_,rfl⟩
 obtain ⟨b,sw⟩:=sw
 cases b with
 | false => exact js_set i hN (je_comp fr CS hc hH hi hE hT hs) hx hl sw hf
 | true =>
  intro ρ st σ H m D S R p pins s I
  rw [exec_Assign_Name_used _ _ _ _ sw]
  refine wpAny_bind (wpAny_standAt (wpAny_bind ?_))
  show wpAny _ X.A (do let _ ← comprehension (.ListComp elt [⟨.Name x px,iter,ifs,0⟩] scope pos) scope X.env _ (newList []) false (eval iter X.env) (some (assign (.Name y py) X.env))) _ _ s
  refine wpAny_bind (wpAny_mono (comp_go (use:=some (assign (.Name y py) X.env)) (Q:=fun _ s' => SP X pins D .next s') fr CS hc hH hi hE hT hs S R I (PostS.of_thn R p) ?_) (fun _ s' hq => wpAny_pure (wpAny_pure hq)) fun _ _ e => e)
  intro w stF v D' C mm m' H' s' q e' S' rw' ev I' fC ns
  refine wpAny_assign_Name (store_ok2 (i:=i) I' hN hx hl (show RelV v (.ref D') by rw [ev]; rfl) (fun s2 I2 h2 => ?_) hf)
  obtain ⟨a,sb,ha⟩:=h2
  have hca:C ≠ a:=by
   rcases ha with z | z
   ·rw [z]; exact fC.2.1
   ·exact Ne.symm (fC.2.2.2.2.1 y a z)
  exact ⟨mm,ns.sameBut sb hca,fun h' same => ⟨_,_,comp_gone I2 fC same,q _ m' H' e' S' ((R.mono e').set i rw')⟩⟩
end
end J
namespace J
open PySem PySem.Spec PyProof.Rows L2
section
variable {X:Cx}
def CRep (n:Nat) (k:Int):Prop:=-(2 ^ 62) ≤ k ∧ k < 2 ^ 62 ∧ n * k.toNat ≤ lim
noncomputable instance {n k}:Decidable (CRep n k):=Classical.propDecidable _
noncomputable def oMulL0:Op2
 | .ref l,.int n,st => match st[l]? with
  | some (.lst ws) => if CRep ws.length n then .ok (.ref st.length) (st ++ [.lst (List.replicate n.toNat ws).flatten]) else .bad
  | _ => .bad
 | x,y,st => oMulS x y st
theorem relWs_rep {K:PySem.W.Frag} {m:Mp} {H:Hp} {ws:List Wv} {xs:List V} (r:RelWs K m H ws xs):∀ n:Nat,RelWs K m H (List.replicate n ws).flatten (List.replicate n xs).flatten
 | 0 => RelWs.nil
 | n + 1 => by
  rw [List.replicate_succ,List.flatten_cons,List.replicate_succ,List.flatten_cons]
  exact r.append (relWs_rep r n)
theorem ow_mulL:OpW X (binaryOp .Mult) oMulL0:=by
 obtain ⟨r,h1,h2⟩:=ow_mulS (X:=X)
 refine ⟨_,OpR.or op_rep h1,fun x y a b st H m Q S rx ry p => ?_⟩
 unfold oMulL0 at p
 split at p
 ·rename_i l n
  unfold RelW at rx
  obtain ⟨a1,rfl,hl⟩:=rx
  cases relInt ry
  cases e:st[l]? with
  | none => rw [e] at p; exact False.elim p
  | some o =>
   cases o with
   | dct kvs => rw [e] at p; exact False.elim p
   | dcT kvs => rw [e] at p; exact False.elim p
   | dcF kvs => rw [e] at p; exact False.elim p
   | scr ns => rw [e] at p; exact False.elim p
   | lst ws =>
    rw [e] at p
    dsimp only at p
    by_cases c:CRep ws.length n
    ·rw [if_pos c] at p
     obtain ⟨xs,q1,q2⟩:=S.lstAt hl e
     refine .inl ⟨a1,n,xs,rfl,rfl,q1,by have:=c.1; omega,by have:=c.2.1; omega,by rw [← q2.length]; exact lim_le c.2.2,fun q hq => ?_⟩
     exact new_list p Ext.refl S (relWs_rep q2 n.toNat) q hq
    ·rw [if_neg c] at p; exact False.elim p
 ·exact .inr (h2 x y a b st H m Q S rx ry p)
def blsOf:List Wv → Option (List Bool)
 | [] => some []
 | .bl b :: r => (match blsOf r with | some l => some (b :: l) | none => none)
 | _ => none
def oAll:List Wv → Hs → Re Wv
 | [.ref l],st => match lstOf st l with
  | some ws => (match blsOf ws with | some bs => .ok (.bl (bs.all id)) st | none => .bad)
  | none => .bad
 | _,_ => .bad
theorem blsOf_rel {K:PySem.W.Frag} {m:Mp} {H:Hp}:∀ {ws:List Wv} {xs:List V} {bs:List Bool},RelWs K m H ws xs → blsOf ws = some bs → xs = bs.map V.bl
 | [],xs,bs,r,h => by
  unfold RelWs at r
  cases h
  exact r
 | w :: ws,xs,bs,r,h => by
  unfold RelWs at r
  obtain ⟨x,t,rfl,r1,r2⟩:=r
  cases w with
  | bl b =>
   unfold blsOf at h
   cases e:blsOf ws with
   | none => rw [e] at h; cases h
   | some l =>
    rw [e] at h
    cases h
    unfold RelW at r1
    rw [r1,blsOf_rel r2 e]
    rfl
  | _ => cases h
theorem vals_bl:∀ {bs:List Bool} {its:List Value},Vals (bs.map V.bl) its → its = bs.map Value.bool
 | [],its,r => by cases r; rfl
 | b :: bs,its,r => by
  cases r with
  | cons h t =>
   cases h
   rw [List.map_cons,vals_bl t]
theorem all_range:∀ (bs:List Bool),(List.range bs.length).all (fun i => bs.getD i true) = bs.all id
 | [] => rfl
 | b :: bs => by
  rw [List.length_cons,List.range_succ_eq_map,List.all_cons,List.all_map,List.all_cons,← all_range bs]
  rfl
theorem call_allB (hc:X.calm = true):CallR X (.builtin "all") (fun xs H Q => ∃ (p:Addr) (bs:List Bool),xs = [.ref p] ∧ SqL X.K H p (bs.map V.bl) ∧ Q (.bl (bs.all id)) H):=by
 intro pins s σ H xs us Q I r h
 obtain ⟨p,bs,rfl,hq,q⟩:=h
 obtain ⟨u,rfl,rx⟩:=vals1 r
 cases rx
 obtain ⟨its,r',pl,hz⟩:=I.list hq
 have hb:=vals_bl r'
 subst hb
 have hl:=pl.isList
 have hlt:p < s.heap.objs.size:=by obtain ⟨_,e,_⟩:=hl; exact Heap.lt_size e
 refine call_all_walk (wpAny_pyIter_list hl ?_)
 refine ⟨_,_,_,_,_,_,fun i => bs.getD i true,rfl,Walks.list (A:=X.A.in1) (I.ok.hd hc) _ p (Nat.ne_of_lt hlt) (bs.map Value.bool).toArray,⟨⟨_,Heap.get?_push_size _ rfl,rfl,rfl⟩,hl.push _⟩,?_,fun h' tk hk => ?_⟩
 ·intro i v s' Q' E' hP hQ
  have hP':(bs.map Value.bool).toArray[i]? = some v:=hP
  rw [List.getElem?_toArray,List.getElem?_map] at hP'
  cases e:bs[i]? with
  | none => rw [e] at hP'; cases hP'
  | some b =>
   rw [e] at hP'
   cases hP'
   have:(bs.getD i true) = b:=by rw [List.getD_eq_getElem?_getD,e]; rfl
   dsimp only at hQ
   rw [this] at hQ
   exact wpAny_truthy_bool hQ
 ·have hk':∀ b o,s.heap.get? b = some o → h'.get? b = some o:=old_kept hk
  refine ⟨.bl _,H,I.kept (t':=tk) hk',?_,q⟩
  rw [← all_range bs]
  simp only [List.size_toArray,List.length_map]
  rfl
theorem cw_all (hc:X.calm = true):CallW X (.builtin "all") oAll:=⟨_,call_allB hc,fun ws vs st H m Q S rs p => by
 match ws,rs,p with
 | [],rs,p => exact False.elim p
 | x :: y :: t,rs,p => cases x <;> exact False.elim p
 | [x],rs,p =>
  obtain ⟨v,rfl,r1⟩:=rel1 rs
  cases x with
  | ref l =>
   unfold oAll at p
   unfold RelW at r1
   obtain ⟨a,rfl,hl⟩:=r1
   cases e:lstOf st l with
   | none => simp only [e] at p; exact False.elim p
   | some ws =>
    simp only [e] at p
    cases e2:blsOf ws with
    | none => simp only [e2] at p; exact False.elim p
    | some bs =>
     simp only [e2] at p
     obtain ⟨xs,q1,q2⟩:=S.read hl e
     have q3:=blsOf_rel q2 e2
     subst q3
     exact ⟨a,bs,rfl,q1,p _ m H Ext.refl S mkBl⟩
  | _ => exact False.elim p⟩
end
end J
namespace J
open PySem PySem.Spec PyProof.Rows L2
section
variable {X:Cx}
def gAlt (ga gb:GE):GE:=fun ρ st => match ga ρ st with
  | .bad => gb ρ st
  | r => r
theorem je_alt {e:Expr} {ga gb:GE} (ha:JE X e ga) (hb:JE X e gb):JE X e (gAlt ga gb):=by
  intro ρ st σ H m Q S R p
  unfold gAlt at p
  cases e1:ga ρ st with
  | bad => rw [e1] at p; exact hb ρ st σ H m Q S R p
  | ok w st' => rw [e1] at p; exact ha ρ st σ H m Q S R (by rw [e1]; exact p)
  | err c st' => rw [e1] at p; exact ha ρ st σ H m Q S R (by rw [e1]; exact p)
def intsOf:List Wv → Option (List Int)
  | [] => some []
  | .int b :: r => (match intsOf r with | some l => some (b :: l) | none => none)
  | _ => none
theorem intsOf_map:∀ ns:List Int,intsOf (ns.map Wv.int) = some ns
  | [] => rfl
  | n :: r => by rw [List.map_cons]; unfold intsOf; rw [intsOf_map r]
theorem intsOf_rel {K:PySem.W.Frag} {m:Mp} {H:Hp}:∀ {ws:List Wv} {xs:List V} {bs:List Int},RelWs K m H ws xs → intsOf ws = some bs → xs = bs.map V.int
  | [],xs,bs,r,h => by
    unfold RelWs at r
    cases h
    exact r
  | w :: ws,xs,bs,r,h => by
    unfold RelWs at r
    obtain ⟨x,t,rfl,r1,r2⟩:=r
    cases w with
    | int b =>
      unfold intsOf at h
      cases e:intsOf ws with
      | none => rw [e] at h; cases h
      | some l =>
        rw [e] at h
        cases h
        unfold RelW at r1
        rw [r1,intsOf_rel r2 e]
        rfl
    | _ => cases h
theorem vals_int:∀ {ns:List Int} {its:List Value},Vals (ns.map V.int) its → ∃ xs:List (Int × Tok),its = xs.map (fun p => Value.int p.1 p.2) ∧ xs.map (·.1) = ns
  | [],its,r => by cases r; exact ⟨[],rfl,rfl⟩
  | n :: ns,its,r => by
    cases r with
    | cons h t =>
      obtain ⟨tk,rfl⟩:=h
      obtain ⟨xs,e1,e2⟩:=vals_int t
      exact ⟨(n,tk) :: xs,by rw [e1]; rfl,by rw [← e2]; rfl⟩
theorem numAt_map (xs:List (Int × Tok)) (i:Nat):numAt xs.toArray i = (xs.map (·.1)).getD i 0:=by
  unfold numAt
  rw [List.getElem?_toArray,List.getD_eq_getElem?_getD,List.getElem?_map]
theorem preSum_map (xs:List (Int × Tok)):∀ k,preSum (numAt xs.toArray) k = ((xs.map (·.1)).take k).sum
  | 0 => by simp [preSum]
  | k + 1 => by
    unfold preSum
    rw [preSum_map xs k,numAt_map]
    rw [PySem.sum_take_succ]
theorem call_sumI (hc:X.calm = true):CallR X (.builtin "sum") (fun xs H Q => ∃ (p:Addr) (ns:List Int),xs = [.ref p] ∧ SqL X.K H p (ns.map V.int) ∧ Q (.int ns.sum) H):=by
  intro pins s σ H xs us Q I r h
  obtain ⟨p,ns,rfl,hq,q⟩:=h
  obtain ⟨u,rfl,rx⟩:=vals1 r
  cases rx
  obtain ⟨its,r',pl,hz⟩:=I.list hq
  obtain ⟨xs,rfl,rfl⟩:=vals_int r'
  have hl:=pl.isList
  have e:(xs.map fun p => Value.int p.1 p.2).toArray = intItems xs.toArray:=by unfold intItems; simp
  rw [e] at hl
  refine sum_intListG (I.ok.hd hc) hl fun h' tk t' hk => ⟨.int _,H,I.kept hk,⟨t',?_⟩,q⟩
  rw [preSum_map,List.take_of_length_le (by simp)]
def oSum:List Wv → Hs → Re Wv
  | [.ref l],st => match lstOf st l with
    | some ws => (match intsOf ws with | some ns => .ok (.int ns.sum) st | none => .bad)
    | none => .bad
  | _,_ => .bad
theorem cw_sum (hc:X.calm = true):CallW X (.builtin "sum") oSum:=⟨_,call_sumI hc,fun ws vs st H m Q S rs p => by
  match ws,rs,p with
  | [],rs,p => exact False.elim p
  | x :: y :: t,rs,p => cases x <;> exact False.elim p
  | [x],rs,p =>
    obtain ⟨v,rfl,r1⟩:=rel1 rs
    cases x with
    | ref l =>
      unfold oSum at p
      unfold RelW at r1
      obtain ⟨a,rfl,hl⟩:=r1
      cases e:lstOf st l with
      | none => simp only [e] at p; exact False.elim p
      | some ws =>
        simp only [e] at p
        cases e2:intsOf ws with
        | none => simp only [e2] at p; exact False.elim p
        | some bs =>
          simp only [e2] at p
          obtain ⟨xs,q1,q2⟩:=S.read hl e
          have q3:=intsOf_rel q2 e2
          subst q3
          exact ⟨a,bs,rfl,q1,p _ m H Ext.refl S mkInt⟩
    | _ => exact False.elim p⟩
def mxI (n:Int) (r:List Int):Int:=r.foldl (fun a b => if b > a then b else a) n
def oMax2:List Wv → Hs → Re Wv
  | [.ref l],st => match lstOf st l with
    | some ws => (match intsOf ws with | some (n :: r) => .ok (.int (mxI n r)) st | _ => .bad)
    | none => .bad
  | ws,st => oMax ws st
def oMin2:List Wv → Hs → Re Wv:=fun ws st => oMin ws st
theorem CallW.or {f:Value} {op op':List Wv → Hs → Re Wv} (g:List Wv → Hs → Re Wv) (h:CallW X f op) (h':CallW X f op') (k:∀ ws st,g ws st = op ws st ∨ g ws st = op' ws st):CallW X f g:=by
  obtain ⟨r,h1,h2⟩:=h
  obtain ⟨r',h1',h2'⟩:=h'
  refine ⟨_,h1.or h1',fun ws vs st H m Q S rs p => ?_⟩
  rcases k ws st with e | e
  · rw [e] at p; exact .inl (h2 ws vs st H m Q S rs p)
  · rw [e] at p; exact .inr (h2' ws vs st H m Q S rs p)
theorem cw_min2 (hc:X.calm = true):CallW X (.builtin "min") oMin2:=cw_min hc
end
end J
namespace J
open PySem PySem.Spec PyProof.Rows L2
section
variable {X:Cx}
def gMethS (mt:PySem.Str → List Wv → Hs → Re Wv) (go:GE) (ga:GA):GE:=fun ρ st => (go ρ st).bind fun o st1 => match o with
 | .str z => (ga ρ st1).bind fun ws st2 => (mt z ws st2).nox
 | _ => .bad
def MsW (X:Cx) (id:String) (mt:PySem.Str → List Wv → Hs → Re Wv):Prop:=∃ r,MtR X id r ∧ ∀ (z:PySem.Str) (ws:List Wv) (vs:List V) (st:Hs) (H:Hp) (m:Mp) (Q:VK),PyData.strOk z = true → Sim X.K m st H → RelWs X.K m H ws vs → PostO X.K m H (mt z ws st) Q → r (.str z) vs H Q
theorem je_methS {o:Expr} {name:Str} {id:String} {e:Expr} {es:List Expr} {go:GE} {ga:GA} {apos cpos:Pos} {mt:PySem.Str → List Wv → Hs → Re Wv} (hm:MsW X id mt) (slot:Slot "str" name id) (hty:typeOf (.builtin id) = pure (.type "method_descriptor")) (ho:JE X o go) (ha:JA X (e :: es) ga)
  (hbase:attributeBase o name X.env (eval o X.env) = eval o X.env)
  (hfew:((backTo cpos (starEach (e :: es) X.env)).all (fun x => !x.1) && (backToKw cpos (keywordEach [] X.env)).all (fun x => x.1.isSome) && decide ((e :: es).length + ([]:List Keyword).length + (if ([]:List Keyword).isEmpty then 0 else 1) < 30)) = true)
  (hline:(apos.endLine == cpos.line) = true) (hs:starEach (e :: es) X.env = (false,eval e X.env) :: starEach es X.env) (hplain:(backTo cpos (starEach es X.env)).any (·.1) = false) :
  JE X (.Call (.Attribute o name apos) (e :: es) [] cpos) (gMethS mt go ga):=by
 obtain ⟨r,h1,h2⟩:=hm
 refine JE.of (pe_bm PySem.F.plainAttrs_str slot hty h1 pe_SE pa_SA hbase hfew hline hs hplain) fun ρ st σ H m Q S R p => ?_
 refine ho.go S R (PostG.bind p) fun o st1 v m1 H1 p1 e1 S1 ro => ?_
 cases o with
 | str z =>
  dsimp only at p1
  unfold RelW at ro
  obtain ⟨rfl,hz⟩:=ro
  refine ⟨rfl,?_⟩
  refine ha.go S1 (R.mono e1) ((PostG.bind p1).imp e1 fun _ _ q => q) fun ws st2 vs m2 H2 p2 e2 S2 rs => ?_
  exact h2 z ws vs st2 H2 m2 Q hz S2 rs (PostO.shift (PostG.nox p2) (e1.trans e2))
 | _ => exact False.elim p1
theorem strOk_iff {z:PySem.Str}:PyData.strOk z = true ↔ ∀ c ∈ z.cps.toList,c < 1114112:=by
 unfold PyData.strOk
 rw [Array.all_eq_true_iff_forall_mem]
 constructor
 ·intro h c hc
  simpa using h c (Array.mem_toList_iff.mp hc)
 ·intro h c hc
  simpa using h c (Array.mem_toList_iff.mpr hc)
end
end J
namespace J
open PySem PySem.Spec PyProof.Rows L2
section
variable {X:Cx}
theorem sl_str:SlR X (fun x lo hi H Q => ∃ z,x = .str z ∧ z.length ≤ sizeLine ∧ Q (.str (Txt.slice z lo hi)) H):=by
 intro pins s σ H x v vl vu lo hi sl Q I rx hs pl pu h
 obtain ⟨z,rfl,hz,q⟩:=h
 obtain ⟨t,rfl⟩:=rx
 have fin:∀ t' k,EP X pins σ Q (.str (Txt.slice z lo hi) t') { s with toks:=k }:=fun t' k => ⟨.str _,H,I.tok k,⟨t',rfl⟩,q⟩
 refine ⟨"str",_,PySem.F.slot_str_getitem.lookup,typeIs_str _ _ _,?_⟩
 have hl:=Nat.le_trans (Txt.slice_le z lo hi) hz
 cases pl with
 | none =>
  cases pu with
  | none => exact wpAny_getItem_str_slice (l:=none) (u:=none) (st:=none) hs rfl (post_val_or_str ⟨hl,fin⟩)
  | int j tj => exact wpAny_getItem_str_slice (l:=none) (u:=some (j,tj)) (st:=none) hs rfl (post_val_or_str ⟨hl,fin⟩)
 | int i ti =>
  cases pu with
  | none => exact wpAny_getItem_str_slice (l:=some (i,ti)) (u:=none) (st:=none) hs rfl (post_val_or_str ⟨hl,fin⟩)
  | int j tj => exact wpAny_getItem_str_slice (l:=some (i,ti)) (u:=some (j,tj)) (st:=none) hs rfl (post_val_or_str ⟨hl,fin⟩)
theorem mem_slice {z:PySem.Str} {lo hi:Option Int} {c:Nat} (h:c ∈ (Txt.slice z lo hi).cps.toList):c ∈ z.cps.toList:=by
 unfold Txt.slice at h
 split at h
 ·exact h
 ·simp only [List.mem_filterMap] at h
  obtain ⟨i,_,e⟩:=h
  rw [Array.getElem?_eq_some_iff] at e
  obtain ⟨hi,rfl⟩:=e
  exact Array.mem_toList_iff.mpr (Array.getElem_mem hi)
theorem strOk_slice {z:PySem.Str} {lo hi:Option Int} (h:PyData.strOk z = true):PyData.strOk (Txt.slice z lo hi) = true:=by
 rw [strOk_iff] at h ⊢
 exact fun c hc => h c (mem_slice hc)
end
section
open HT
theorem getItem_whole {prog:Program} {w:World} {A:Around} {E:Value → Shared → Prop} {s:Shared} {t sl:Addr} {us:Array Value} {vl vu:Value} {lo hi:Option Int} {Q:Value → Shared → Prop} (ht:IsTup s.heap t us) (hs:s.heap.IsSliceOf sl vl vu .none) (pl:IsPart vl lo) (pu:IsPart vu hi)
  (hw:sIx us.size 0 lo = 0 ∧ sIx us.size us.size hi = us.size) (h:Q (.ref t) s):wpAny (model prog w) A (getItem (.ref t) (.ref sl)) Q E s:=by
 obtain ⟨os,o1,o2,o3⟩:=id hs
 have tys:s.TypeIs (.ref sl) "slice":=⟨os,o1,o2⟩
 unfold getItem; try with_reducible refine wpAny_holding ?_
 first | refine wpAny_bind (wpAny_pure ?_) | skip
 refine wpAny_bind (wpAny_sequenceKey ht.typeIs (by decide) ?_); refine wpAny_bind (wpAny_callSpecial?_slot (name:=Str.ofString "__getitem__") ht.typeIs PyProof.Rows.slot_tuple_getitem (wpAny_call_entry PyProof.Rows.slot_tuple_getitem ht.typeIs entry_tuple_getitem ?_ (args_tuple_getitem _ _)))
 show wpAny _ _ (Builtin.Tuple.tupleItemsOf (.ref t) >>= _) _ _ _; refine wpAny_bind (tupleItemsOf_ ht ?_); refine wpAny_bind (wpAny_typeOf tys ?_)
 rw [if_pos (by decide)]; refine wpAny_bind (sliceApplied_gen hs pl pu ?_)
 rw [hw.1,hw.2]
 have yes:((((0:Nat):Int)) == 0 && (1:Int) == 1 && (us.size - 0) == us.size) = true:=by simp
 show wpAny _ _ (if ((((0:Nat):Int)) == 0 && (1:Int) == 1 && (us.size - 0) == us.size) = true then _ else _) _ _ s
 rw [if_pos yes]
 refine wpAny_bind (m:=Builtin.Tuple.tupleIsExact _) ?_
 unfold Builtin.Tuple.tupleIsExact
 refine wpAny_bind (wpAny_typeOf ht.typeIs (wpAny_pure ?_))
 rw [if_pos (by decide)]
 exact wpAny_bind (wpAny_rule (wpAny_pure ⟨_,rfl,wpAny_pure h⟩))
end
section
variable {X:Cx}
def rSlW (K:PySem.W.Frag):V → Option Int → Option Int → Hp → VK → Prop:=fun x lo hi H Q => ∃ a xs,x = .ref a ∧ SqT K H a xs ∧ (HT.sIx xs.length 0 lo = 0 ∧ HT.sIx xs.length xs.length hi = xs.length) ∧ Q (.ref a) H
theorem sl_whole:SlR X (rSlW X.K):=by
 intro pins s σ H x v vl vu lo hi sl Q I rx hs pl pu h
 obtain ⟨a,xs,rfl,hx,hw,q⟩:=h
 cases rx
 obtain ⟨its,r,ht,hz⟩:=I.tuple hx
 have n:its.toArray.size = xs.length:=by rw [List.size_toArray]; exact r.length.symm
 exact ⟨"tuple",_,PyProof.Rows.slot_tuple_getitem.lookup,ht.typeIs,getItem_whole ht hs pl pu (by rw [n]; exact hw) ⟨.ref a,H,I,rfl,q⟩⟩
def isWh (n:Nat) (lo hi:Option Int):Prop:=HT.sIx n 0 lo = 0 ∧ HT.sIx n n hi = n
instance {n:Nat} {lo hi:Option Int}:Decidable (isWh n lo hi):=inferInstanceAs (Decidable (HT.sIx n 0 lo = 0 ∧ HT.sIx n n hi = n))
def oSl2 (x:Wv) (lo hi:Option Int) (st:Hs):Re Wv:=match x with
 | .str z => if z.length ≤ lim then .ok (.str (Txt.slice z lo hi)) st else .bad
 | .tup ws => if isWh ws.length lo hi then .ok (.tup ws) st else oSl (.tup ws) lo hi st
 | x => oSl x lo hi st
def gSlice2 (ga:GE) (gl gh:GO):GE:=fun ρ st => (ga ρ st).bind fun x st1 => (gl ρ st1).bind fun lo st2 => (gh ρ st2).bind fun hi st3 => oSl2 x lo hi st3
theorem je_slice2 {a:Expr} {lo hi:Option Expr} {ga:GE} {gl gh:GO} {pos p2:Pos} (ha:JE X a ga) (hl:JO X lo gl) (hh:JO X hi gh):JE X (.Subscript a (.Slice lo hi none p2) pos) (gSlice2 ga gl gh):=by
 have hS:JE X (.Subscript a (.Slice lo hi none p2) pos) (fun ρ st => (ga ρ st).bind fun x st1 => (gl ρ st1).bind fun lo st2 => (gh ρ st2).bind fun hi st3 => match x with | .str z => if z.length ≤ lim then .ok (.str (Txt.slice z lo hi)) st3 else .bad | _ => .bad):=by
  refine JE.of (pe_slice sl_str pe_SE po_SO po_SO) fun ρ st σ H m Q S R p => ?_
  refine ha.go S R (PostG.bind p) fun x st1 v m1 H1 p1 e1 S1 rx => ?_
  refine hl.go S1 (R.mono e1) ((PostG.bind p1).imp e1 fun _ _ q => q) fun l st2 m2 H2 p2 e2 S2 => ?_
  refine hh.go S2 (R.mono (e1.trans e2)) ((PostG.bind p2).imp (e1.trans e2) fun _ _ q => q) fun h st3 m3 H3 p3 e3 S3 => ?_
  have e13:=e1.trans (e2.trans e3)
  cases x with
  | str z =>
   dsimp only at p3
   by_cases c:z.length ≤ lim
   ·rw [if_pos c] at p3
    unfold RelW at rx
    obtain ⟨rfl,hz⟩:=rx
    exact ⟨z,rfl,lim_le c,p3 _ m3 H3 e13 S3 (mkStr (strOk_slice hz))⟩
   ·rw [if_neg c] at p3; exact False.elim p3
  | _ => exact False.elim p3
 have hW:JE X (.Subscript a (.Slice lo hi none p2) pos) (fun ρ st => (ga ρ st).bind fun x st1 => (gl ρ st1).bind fun lo st2 => (gh ρ st2).bind fun hi st3 => match x with | .tup ws => if isWh ws.length lo hi then .ok (.tup ws) st3 else oSl (.tup ws) lo hi st3 | _ => .bad):=by
  refine JE.of (pe_slice (SlR.or sl_whole sl_tup) pe_SE po_SO po_SO) fun ρ st σ H m Q S R p => ?_
  refine ha.go S R (PostG.bind p) fun x st1 v m1 H1 p1 e1 S1 rx => ?_
  refine hl.go S1 (R.mono e1) ((PostG.bind p1).imp e1 fun _ _ q => q) fun l st2 m2 H2 p2 e2 S2 => ?_
  refine hh.go S2 (R.mono (e1.trans e2)) ((PostG.bind p2).imp (e1.trans e2) fun _ _ q => q) fun h st3 m3 H3 p3 e3 S3 => ?_
  have e13:=e1.trans (e2.trans e3)
  cases x with
  | tup ws =>
   dsimp only at p3
   have rx':=RelW.mono (e2.trans e3) _ _ rx
   unfold RelW at rx'
   obtain ⟨a',xs,rfl,f1,f2⟩:=rx'
   by_cases c:isWh ws.length l h
   ·rw [if_pos c] at p3
    unfold isWh at c
    rw [f2.length] at c
    exact .inl ⟨a',xs,rfl,SqT.of f1,c,p3 _ m3 H3 e13 S3 (by unfold RelW; exact ⟨a',xs,rfl,f1,f2⟩)⟩
   ·rw [if_neg c] at p3
    unfold oSl at p3
    dsimp only at p3
    unfold isWh at c
    rw [if_neg c] at p3
    rw [f2.length] at c
    refine .inr ⟨a',xs,rfl,SqT.of f1,c,fun q hq => ?_⟩
    have eU:Ext X.K m3 H3 m3 (L2.upd H3 q (.tup (cutV xs l h))):=Ext.updW (.inl hq)
    exact p3 (.ref q) m3 _ (e13.trans eU) (S3.fresh hq) (by unfold RelW; exact ⟨q,_,rfl,L2.upd_same,RelWs.mono eU _ _ (cut_rel f2)⟩)
  | _ => exact False.elim p3
 intro ρ st σ H m Q S R p
 unfold gSlice2 at p
 cases e1:ga ρ st with
 | bad => rw [e1] at p; exact False.elim p
 | err c st1 => rw [e1] at p; exact je_slice ha hl hh ρ st σ H m Q S R (by unfold gSlice; rw [e1]; exact p)
 | ok x st1 =>
  rw [e1] at p
  cases x with
  | str z => exact hS ρ st σ H m Q S R (by dsimp only; rw [e1]; exact p)
  | tup ws => exact hW ρ st σ H m Q S R (by dsimp only; rw [e1]; exact p)
  | _ => exact je_slice ha hl hh ρ st σ H m Q S R (by unfold gSlice; rw [e1]; exact p)
def oIn2:Op2
 | .str i,.str j,st => .ok (.bl (!(Builtin.Str.occurrences j i 0 j.length 1).isEmpty)) st
 | x,y,st => oIn x y st
def oNotIn2:Op2
 | .str i,.str j,st => .ok (.bl (!(!(Builtin.Str.occurrences j i 0 j.length 1).isEmpty))) st
 | x,y,st => oNotIn x y st
theorem ow_in2:OpW X (compareOp .In) oIn2:=by
 obtain ⟨r,h1,h2⟩:=ow_in (X:=X)
 refine ⟨_,OpR.or op_in_str h1,fun x y a b st H m Q S rx ry p => ?_⟩
 unfold oIn2 at p
 split at p
 ·rename_i i j
  unfold RelW at rx ry
  obtain ⟨rfl,_⟩:=rx
  obtain ⟨rfl,_⟩:=ry
  exact .inl ⟨i,j,rfl,rfl,p _ m H Ext.refl S mkBl⟩
 ·exact .inr (h2 x y a b st H m Q S rx ry p)
theorem ow_notIn2:OpW X (compareOp .NotIn) oNotIn2:=by
 obtain ⟨r,h1,h2⟩:=ow_notIn (X:=X)
 refine ⟨_,OpR.or op_notIn_str h1,fun x y a b st H m Q S rx ry p => ?_⟩
 unfold oNotIn2 at p
 split at p
 ·rename_i i j
  unfold RelW at rx ry
  obtain ⟨rfl,_⟩:=rx
  obtain ⟨rfl,_⟩:=ry
  exact .inl ⟨i,j,rfl,rfl,p _ m H Ext.refl S mkBl⟩
 ·exact .inr (h2 x y a b st H m Q S rx ry p)
theorem mt_count:MtR X "str.count" (fun x xs H Q => ∃ z y,x = .str z ∧ xs = [.str y] ∧ Q (.int (Txt.count z y)) H):=by
 intro pins s σ H x xs v us Q I rx rv h
 obtain ⟨z,y,rfl,rfl,q⟩:=h
 obtain ⟨t,rfl⟩:=rx
 obtain ⟨u,rfl,t',rfl⟩:=vals1 rv
 exact SC.count ⟨.int _,H,I.tok _,⟨_,rfl⟩,q⟩
theorem mt_index:MtR X "str.index" (fun x xs H Q => ∃ z y i r,x = .str z ∧ xs = [.str y] ∧ Builtin.Str.occurrences z y 0 z.length 1 = i :: r ∧ Q (.int (i:Nat)) H):=by
 intro pins s σ H x xs v us Q I rx rv h
 obtain ⟨z,y,i,r,rfl,rfl,ho,q⟩:=h
 obtain ⟨t,rfl⟩:=rx
 obtain ⟨u,rfl,t',rfl⟩:=vals1 rv
 exact SC.index ho ⟨.int _,H,I.tok _,⟨_,rfl⟩,q⟩
def mCount (z:PySem.Str):List Wv → Hs → Re Wv
 | [.str y],st => .ok (.int (Txt.count z y)) st
 | _,_ => .bad
def mIndex (z:PySem.Str):List Wv → Hs → Re Wv
 | [.str y],st => (match Builtin.Str.occurrences z y 0 z.length 1 with | i :: _ => .ok (.int (i:Nat)) st | [] => .bad)
 | _,_ => .bad
theorem ms_count:MsW X "str.count" mCount:=⟨_,mt_count,fun z ws vs st H m Q hz S rs p => by
 match ws,rs,p with
 | [],rs,p => exact False.elim p
 | x :: y :: t,rs,p => cases x <;> exact False.elim p
 | [x],rs,p =>
  obtain ⟨v,rfl,r1⟩:=rel1 rs
  cases x with
  | str y => unfold RelW at r1; obtain ⟨rfl,_⟩:=r1; exact ⟨z,y,rfl,rfl,p _ m H Ext.refl S mkInt⟩
  | _ => exact False.elim p⟩
theorem ms_index:MsW X "str.index" mIndex:=⟨_,mt_index,fun z ws vs st H m Q hz S rs p => by
 match ws,rs,p with
 | [],rs,p => exact False.elim p
 | x :: y :: t,rs,p => cases x <;> exact False.elim p
 | [x],rs,p =>
  obtain ⟨v,rfl,r1⟩:=rel1 rs
  cases x with
  | str y =>
   unfold RelW at r1
   obtain ⟨rfl,_⟩:=r1
   unfold mIndex at p
   dsimp only at p
   cases e:Builtin.Str.occurrences z y 0 z.length 1 with
   | nil => rw [e] at p; exact False.elim p
   | cons i r => rw [e] at p; exact ⟨z,y,i,r,rfl,rfl,e,p _ m H Ext.refl S mkInt⟩
  | _ => exact False.elim p⟩
end
end J
namespace J
open PySem PySem.Spec PyProof.Rows L2 PySem.W
section
variable {X:Cx}
end
section
variable {X:Cx}
end
section
variable {X:Cx}
end
end J
namespace J
open PySem PySem.Spec PyProof.Rows L2
def Its (x:Str):It:=⟨fun i _ => i < x.cps.size,fun i H v H' => H' = H ∧ ∃ c,x.cps[i]? = some c ∧ v = .str ⟨#[c]⟩,fun i _ => x.cps.size ≤ i⟩
theorem turn_ascii {P:Program} {w:World} {K:PySem.W.Frag} {tg:Expr} (x:Str) (t:Tok) (it:Addr):Turn P w K tg (Its x) [it] it (fun i h => h.IsStrIter it "str_ascii_iterator" x t i) where
 mem:=List.mem_singleton.mpr rfl
 obj:=fun i h st b hb => by
  cases List.mem_singleton.mp hb
  obtain ⟨o,e,c,d⟩:=st
  exact ⟨o,e,fun v z => by rw [d] at z; cases z⟩
 keep:=fun i h h' st k => let ⟨o,e,r⟩:=st; ⟨o,k it (List.mem_singleton.mpr rfl) o e,r⟩
 item:=by
  intro X hP hw hK hc i pins s σ H E I hf st hg
  subst hP; subst hw; subst hK
  obtain ⟨f0,f1,f2,f3,f4,f5⟩:=hf it (List.mem_singleton.mpr rfl)
  have hi:i < x.cps.size:=hg
  refine wpAny_pyNext_ascii_item st (c:=x.cps[i]) (by simp [hi]) fun h' st' sb => ?_
  have I1:L2.Inv X pins σ H { s with heap:=h',toks:=s.toks + 1 }:=I.turned (t':=s.toks + 1) (fun b o hb e => sb.extBut b o hb e) f0 f1 f3 f4 f5
  obtain ⟨o,e,c,d⟩:=id st'
  exact ⟨_,rfl,go_of (s:={ s with heap:=h',toks:=s.toks + 1 }) e c d (by decide) ⟨.str ⟨#[x.cps[i]]⟩,H,I1,⟨_,rfl⟩,⟨rfl,_,by simp [hi],rfl⟩,st',fun b hb => (hf b hb).1⟩⟩
 done:=by
  intro X hP hw hK hc i pins s σ H E I hf st hg
  subst hP; subst hw; subst hK
  obtain ⟨f0,f1,f2,f3,f4,f5⟩:=hf it (List.mem_singleton.mpr rfl)
  have hi:x.cps.size ≤ i:=hg
  exact wpAny_pyNext_ascii_end (I.ok.hd hc) st (by simp [hi]) fun h' eb => ⟨rfl,I.turned (t':=s.toks) (fun b o hb e => eb b o hb e) f0 f1 f3 f4 f5⟩
 self:=fun _ _ _ _ _ st h => wpAny_pyIter_striter_ascii st h
theorem turn_wide {P:Program} {w:World} {K:PySem.W.Frag} {tg:Expr} (x:Str) (t:Tok) (it:Addr):Turn P w K tg (Its x) [it] it (fun i h => h.IsStrIter it "str_iterator" x t i) where
 mem:=List.mem_singleton.mpr rfl
 obj:=fun i h st b hb => by
  cases List.mem_singleton.mp hb
  obtain ⟨o,e,c,d⟩:=st
  exact ⟨o,e,fun v z => by rw [d] at z; cases z⟩
 keep:=fun i h h' st k => let ⟨o,e,r⟩:=st; ⟨o,k it (List.mem_singleton.mpr rfl) o e,r⟩
 item:=by
  intro X hP hw hK hc i pins s σ H E I hf st hg
  subst hP; subst hw; subst hK
  obtain ⟨f0,f1,f2,f3,f4,f5⟩:=hf it (List.mem_singleton.mpr rfl)
  have hi:i < x.cps.size:=hg
  refine wpAny_pyNext_wide_item st (c:=x.cps[i]) (by simp [hi]) fun h' st' sb => ?_
  have I1:L2.Inv X pins σ H { s with heap:=h',toks:=s.toks + 1 }:=I.turned (t':=s.toks + 1) (fun b o hb e => sb.extBut b o hb e) f0 f1 f3 f4 f5
  obtain ⟨o,e,c,d⟩:=id st'
  exact ⟨_,rfl,go_of (s:={ s with heap:=h',toks:=s.toks + 1 }) e c d (by decide) ⟨.str ⟨#[x.cps[i]]⟩,H,I1,⟨_,rfl⟩,⟨rfl,_,by simp [hi],rfl⟩,st',fun b hb => (hf b hb).1⟩⟩
 done:=by
  intro X hP hw hK hc i pins s σ H E I hf st hg
  subst hP; subst hw; subst hK
  obtain ⟨f0,f1,f2,f3,f4,f5⟩:=hf it (List.mem_singleton.mpr rfl)
  have hi:x.cps.size ≤ i:=hg
  exact wpAny_pyNext_wide_end (I.ok.hd hc) st (by simp [hi]) fun h' eb => ⟨rfl,I.turned (t':=s.toks) (fun b o hb e => eb b o hb e) f0 f1 f3 f4 f5⟩
 self:=fun _ _ _ _ _ st h => wpAny_pyIter_striter_wide st h
section
variable {X:Cx}
theorem pi_str {tg l:Expr} {tl:TE} (hl:PE X l tl):PI X tg l (fun σ H R => tl σ H fun v H1 => ∃ z,v = .str z ∧ R (Its z) H1):=by
 intro pins s σ H R I h
 refine thn (hl pins s σ H _ I h) fun v s1 ⟨x,H1,I1,r1,z,e,q⟩ => ?_
 subst e
 obtain ⟨t,rfl⟩:=r1
 have frs:∀ b ∈ [s1.heap.objs.size],FpOk X pins H1 b:=fun b hb => by
  cases List.mem_singleton.mp hb
  exact I1.fpOk (Nat.le_refl _) (I1.hok.fresh (Nat.le_refl _))
 cases ha:z.cps.all (· < 128)
 ·exact wpAny_pyIter_wide ha ⟨s1.heap.objs.size,[s1.heap.objs.size],_,_,H1,rfl,I1.kept (t':=s1.toks) fun b o e => Heap.get?_push_of_some _ e,turn_wide z t _,⟨_,Heap.get?_push_size _ rfl,rfl,rfl⟩,frs,q⟩
 ·exact wpAny_pyIter_ascii ha ⟨s1.heap.objs.size,[s1.heap.objs.size],_,_,H1,rfl,I1.kept (t':=s1.toks) fun b o e => Heap.get?_push_of_some _ e,turn_ascii z t _,⟨_,Heap.get?_push_size _ rfl,rfl,rfl⟩,frs,q⟩
def signsW (z:PySem.Str):List Wv:=z.cps.toList.map fun c => Wv.str ⟨#[c]⟩
def seqW2 (w:Wv) (st:Hs):Re Wk:=match w with
 | .str z => .ok (none,signsW z) st
 | w => seqW w st
def giSeq2 (g:GE):GI:=fun ρ st => (g ρ st).bind seqW2
theorem it_str {z:PySem.Str} {m1:Mp} {H1:Hp} (hz:PyData.strOk z = true):ItFor X (none,signsW z) m1 H1 (Its z) where
 go:=fun k H m' st _ _ _ hk => by
  have:k < z.cps.size:=by simpa [signsW] using hk
  exact this
 stop:=fun k H m' st _ _ _ hk => by
  have:k = z.cps.size:=by simpa [signsW] using hk
  exact Nat.le_of_eq this.symm
 yld:=fun k hk H v H' m' st _ _ _ y => by
  obtain ⟨rfl,c,hc,rfl⟩:=y
  refine ⟨rfl,?_⟩
  have hk':k < z.cps.size:=by simpa [signsW] using hk
  have e:∀ h:k < (signsW z).length,(signsW z)[k]'h = .str ⟨#[z.cps[k]]⟩:=by intro h; simp [signsW]
  have hc':z.cps[k] = c:=by simpa [hk'] using hc
  show RelW X.K m' H' ((signsW z)[k]'hk) _
  rw [e hk,hc']
  refine mkStr ?_
  rw [strOk_iff] at hz ⊢
  intro d hd
  simp at hd
  rw [hd,← hc']
  exact hz _ (by simp)
theorem ji_seq2 {tg iter:Expr} {g:GE} (h:JE X iter g):JI X tg iter (giSeq2 g):=by
 obtain ⟨w1,h1,k1⟩:=ji_seq (tg:=tg) h
 refine ⟨fun σ H R => w1 σ H R ∨ (SE X iter σ H fun v H1 => ∃ z,v = .str z ∧ R (Its z) H1),fun pins s σ H R I q => ?_,fun ρ st σ H m R S RR p => ?_⟩
 ·rcases q with q | q
  ·exact h1 pins s σ H R I q
  ·exact pi_str pe_SE pins s σ H R I q
 ·unfold giSeq2 at p
  cases e:g ρ st with
  | bad => rw [e] at p; exact False.elim p
  | err c st' => rw [e] at p; exact .inl (k1 ρ st σ H m R S RR (by unfold giSeq; rw [e]; exact p))
  | ok w st' =>
   rw [e] at p
   cases w with
   | str z =>
    refine .inr ?_
    refine h.go (ok:=fun w st1 => w = .str z ∧ st1 = st') S RR (by rw [e]; exact ⟨rfl,rfl⟩) fun w st1 v m1 H1 q e1 S1 r1 => ?_
    obtain ⟨rfl,rfl⟩:=q
    unfold RelW at r1
    obtain ⟨rfl,hz⟩:=r1
    exact ⟨z,rfl,p m1 H1 _ e1 S1 trivial (it_str hz)⟩
   | _ => exact .inl (k1 ρ st σ H m R S RR (by unfold giSeq; rw [e]; exact p))
def oInt2:List Wv → Hs → Re Wv:=fun ws st => oInt ws st
theorem cw_int2:CallW X (.type "int") oInt2:=cw_int
end
end J
namespace J
open PySem PySem.Spec PyProof.Rows L2
section
variable {X:Cx}
theorem countP_eqU {x:V}:∀ {xs:List V} {us:List Value},Vals xs us → xs.all flatV = true → us.countP (eqU x) = xs.countP fun y => eqV y x
 | _,_,.nil,_ => rfl
 | y :: xs,u :: us,.cons r t,f => by
  rw [List.all_cons,Bool.and_eq_true] at f
  rw [List.countP_cons,List.countP_cons,eqU_of r f.1,countP_eqU t f.2]
theorem mt_lcount:MtR X "list.count" (fun x xs H Q => ∃ (p:Addr) (ys:List V) (y:V),x = .ref p ∧ xs = [y] ∧ SqL X.K H p ys ∧ flatV y = true ∧ ys.all flatV = true ∧ Q (.int (ys.countP fun z => eqV z y:Nat)) H):=by
 intro pins s σ H x xs v us Q I rx rv h
 obtain ⟨p,ys,y,rfl,rfl,hq,fy,fs,q⟩:=h
 cases rx
 obtain ⟨u,rfl,ru⟩:=vals1 rv
 obtain ⟨its,r,pl,hz⟩:=I.list hq
 obtain ⟨⟨cls,dd,data,sl⟩,ho,hc,n,hd⟩:=pl.isList
 simp only at hc hd
 subst hc; subst hd
 refine call_meets PySem.F.slot_list_count ⟨_,ho,rfl⟩ PySem.F.entry_list_count (PySem.F.args_list_count_2 _ _) (SeqAt.list_countAt p its.toArray n dd sl u (eqU y)) ⟨ho,fun w hw => mem_eqAt ru fy r fs w (by simpa using hw),?_⟩
 refine ⟨.int _,H,I.tok _,⟨s.toks,?_⟩,q⟩
 rw [List.toList_toArray,countP_eqU r fs]
theorem mt_lindex:MtR X "list.index" (fun x xs H Q => ∃ (p:Addr) (ys:List V) (y:V) (j:Nat),x = .ref p ∧ xs = [y] ∧ SqL X.K H p ys ∧ flatV y = true ∧ ys.all flatV = true ∧ ys.findIdx? (fun z => eqV z y) = some j ∧ Q (.int (j:Nat)) H):=by
 intro pins s σ H x xs v us Q I rx rv h
 obtain ⟨p,ys,y,j,rfl,rfl,hq,fy,fs,hj,q⟩:=h
 cases rx
 obtain ⟨u,rfl,ru⟩:=vals1 rv
 obtain ⟨its,r,pl,hz⟩:=I.list hq
 have hlen:=r.length
 obtain ⟨⟨cls,dd,data,sl⟩,ho,hc,n,hd⟩:=pl.isList
 simp only at hc hd
 subst hc; subst hd
 rw [List.findIdx?_eq_some_iff_getElem] at hj
 obtain ⟨hj1,hj2,hj3⟩:=hj
 have at':∀ (k:Nat) (h:k < ys.length) (h':k < its.length),eqU y its[k] = eqV ys[k] y:=by
  intro k h h'
  obtain ⟨w,hw,rw'⟩:=r.get (List.getElem?_eq_getElem h)
  rw [List.getElem?_eq_getElem h'] at hw
  cases hw
  exact eqU_of rw' (List.all_eq_true.mp fs _ (List.getElem_mem h))
 have hs:sizeLine = 16777216:=sizeLine_eq
 refine call_meets PySem.F.slot_list_index ⟨_,ho,rfl⟩ PySem.F.entry_list_index (PySem.F.args_list_index_2 _ _) (SeqAt.list_indexAt p its.toArray n dd sl u (eqU y) j (by simp; omega) (by omega) ?_ ?_) ⟨ho,fun w hw => mem_eqAt ru fy r fs w (by simpa using hw),⟨.int _,H,I.tok _,⟨_,rfl⟩,q⟩⟩
 ·rw [List.getElem_toArray,at' j hj1 (by omega)]; exact hj2
 ·intro m hm hlt
  rw [List.getElem_toArray,at' m (by omega) (by omega)]
  simpa using hj3 m hlt
def mLCount (o v:Wv) (st:Hs):Re Wv:=match o with
 | .ref l => (match lstOf st l with
  | some ws => if flatW v = true ∧ ws.all flatW = true then .ok (.int (ws.countP fun z => eqF z v:Nat)) st else .bad
  | none => .bad)
 | _ => .bad
def mLIndex (o v:Wv) (st:Hs):Re Wv:=match o with
 | .ref l => (match lstOf st l with
  | some ws => if flatW v = true ∧ ws.all flatW = true then (match ws.findIdx? (fun z => eqF z v) with | some j => .ok (.int (j:Nat)) st | none => .bad) else .bad
  | none => .bad)
 | _ => .bad
theorem flatsW_rel {m:Mp} {H:Hp}:∀ {ws:List Wv} {xs:List V},RelWs X.K m H ws xs → ws.all flatW = true → xs.all flatV = true
 | [],xs,r,_ => by unfold RelWs at r; subst r; rfl
 | w :: ws,xs,r,f => by
  unfold RelWs at r
  obtain ⟨x,t,rfl,r1,r2⟩:=r
  rw [List.all_cons,Bool.and_eq_true] at f ⊢
  exact ⟨flat_rel r1 f.1,flatsW_rel r2 f.2⟩
theorem count_rel {m:Mp} {H:Hp} {v:Wv} {y:V} (rv:RelW X.K m H v y) (fv:flatW v = true):∀ {ws:List Wv} {xs:List V},RelWs X.K m H ws xs → ws.all flatW = true → (xs.countP fun z => eqV z y) = ws.countP fun z => eqF z v
 | [],xs,r,_ => by unfold RelWs at r; subst r; rfl
 | w :: ws,xs,r,f => by
  unfold RelWs at r
  obtain ⟨x,t,rfl,r1,r2⟩:=r
  rw [List.all_cons,Bool.and_eq_true] at f
  rw [List.countP_cons,List.countP_cons,count_rel rv fv r2 f.2,eqF_rel r1 rv f.1 fv]
theorem find_rel {m:Mp} {H:Hp} {v:Wv} {y:V} (rv:RelW X.K m H v y) (fv:flatW v = true):∀ {ws:List Wv} {xs:List V},RelWs X.K m H ws xs → ws.all flatW = true → xs.findIdx? (fun z => eqV z y) = ws.findIdx? fun z => eqF z v
 | [],xs,r,_ => by unfold RelWs at r; subst r; rfl
 | w :: ws,xs,r,f => by
  unfold RelWs at r
  obtain ⟨x,t,rfl,r1,r2⟩:=r
  rw [List.all_cons,Bool.and_eq_true] at f
  rw [List.findIdx?_cons,List.findIdx?_cons,find_rel rv fv r2 f.2,eqF_rel r1 rv f.1 fv]
theorem mw_lcount:MtW X "list.count" mLCount:=⟨_,mt_lcount,fun o w x v st H m Q S ro rw' p => by
 cases o with
 | ref l =>
  unfold RelW at ro
  obtain ⟨a,rfl,ha⟩:=ro
  unfold mLCount at p
  cases e:lstOf st l with
  | none => simp only [e] at p; exact False.elim p
  | some ws =>
   simp only [e] at p
   by_cases c:flatW w = true ∧ ws.all flatW = true
   ·rw [if_pos c] at p
    obtain ⟨xs,q1,q2⟩:=S.read ha e
    refine ⟨a,xs,v,rfl,rfl,q1,flat_rel rw' c.1,flatsW_rel q2 c.2,?_⟩
    rw [count_rel rw' c.1 q2 c.2]
    exact p _ m H Ext.refl S mkInt
   ·rw [if_neg c] at p; exact False.elim p
 | _ => exact False.elim p⟩
theorem mw_lindex:MtW X "list.index" mLIndex:=⟨_,mt_lindex,fun o w x v st H m Q S ro rw' p => by
 cases o with
 | ref l =>
  unfold RelW at ro
  obtain ⟨a,rfl,ha⟩:=ro
  unfold mLIndex at p
  cases e:lstOf st l with
  | none => simp only [e] at p; exact False.elim p
  | some ws =>
   simp only [e] at p
   by_cases c:flatW w = true ∧ ws.all flatW = true
   ·rw [if_pos c] at p
    obtain ⟨xs,q1,q2⟩:=S.read ha e
    cases ej:ws.findIdx? (fun z => eqF z w) with
    | none => rw [ej] at p; exact False.elim p
    | some j =>
     rw [ej] at p
     exact ⟨a,xs,v,j,rfl,rfl,q1,flat_rel rw' c.1,flatsW_rel q2 c.2,by rw [find_rel rw' c.1 q2 c.2]; exact ej,p _ m H Ext.refl S mkInt⟩
   ·rw [if_neg c] at p; exact False.elim p
 | _ => exact False.elim p⟩
end
end J
namespace J
open PySem PySem.Spec PyProof.Rows L2
def keyOf:Wv → Option L2.Key
 | .int i => some (.inl i)
 | .str x => some (.inr x)
 | _ => none
theorem keyOf_rel {K:PySem.W.Frag} {m:Mp} {H:Hp} {w:Wv} {v:V} {k:L2.Key} (r:RelW K m H w v) (e:keyOf w = some k):v = kV k:=by
 cases w with
 | int i => cases e; unfold RelW at r; rw [r]; rfl
 | str x => cases e; unfold RelW at r; rw [r.1]; rfl
 | _ => cases e
def valW {κ:Type} [DecidableEq κ] (kvs:List (κ × Wv)) (k:κ):Option Wv:=match kvs with
 | [] => none
 | p :: r => if p.1 = k then some p.2 else valW r k
def putW {κ:Type} [DecidableEq κ] (kvs:List (κ × Wv)) (k:κ) (v:Wv):List (κ × Wv):=if (kvs.any fun kv => decide (kv.1 = k)) = true then kvs.map (fun kv => if kv.1 = k then (kv.1,v) else kv) else kvs ++ [(k,v)]
def mergeW (kvs more:List (L2.Key × Wv)):List (L2.Key × Wv):=more.foldl (fun acc kv => putW acc kv.1 kv.2) kvs
section
variable {K:PySem.W.Frag} {m:Mp} {H:Hp} {κ:Type}
theorem RelK.nil:RelK (κ:=κ) K m H [] []:=⟨rfl,RelWs.nil⟩
theorem RelK.cons {k:κ} {w:Wv} {v:V} {kvs:List (κ × Wv)} {xs:List (κ × V)} (h:RelW K m H w v) (t:RelK K m H kvs xs):RelK K m H ((k,w) :: kvs) ((k,v) :: xs) :=
 ⟨by simp [t.1],by simpa using RelWs.cons h t.2⟩
theorem RelK.nil_inv {xs:List (κ × V)} (h:RelK K m H [] xs):xs = []:=by
 have:=h.1
 cases xs with
 | nil => rfl
 | cons a b => simp at this
theorem RelK.cons_inv {p:κ × Wv} {kvs:List (κ × Wv)} {xs:List (κ × V)} (h:RelK K m H (p :: kvs) xs):∃ v t,xs = (p.1,v) :: t ∧ RelW K m H p.2 v ∧ RelK K m H kvs t:=by
 obtain ⟨h1,h2⟩:=h
 cases xs with
 | nil => simp at h1
 | cons q t =>
  simp at h1 h2
  unfold RelWs at h2
  obtain ⟨x,r,e1,e2,e3⟩:=h2
  cases e1
  exact ⟨q.2,t,by rw [h1.1],e2,h1.2,e3⟩
theorem RelK.length {kvs:List (κ × Wv)} {xs:List (κ × V)} (h:RelK K m H kvs xs):kvs.length = xs.length:=by
 have:=congrArg List.length h.1
 simpa using this
variable [DecidableEq κ]
theorem RelK.val:∀ {kvs:List (κ × Wv)} {xs:List (κ × V)} (k:κ),RelK K m H kvs xs → (valW kvs k = none → valV xs k = none) ∧ ∀ w,valW kvs k = some w → ∃ v,valV xs k = some v ∧ RelW K m H w v
 | [],xs,k,h => by
  rw [h.nil_inv]
  exact ⟨fun _ => rfl,(fun w e => by cases e)⟩
 | p :: r,xs,k,h => by
  obtain ⟨v,t,rfl,h1,h2⟩:=h.cons_inv
  obtain ⟨i1,i2⟩:=RelK.val k h2
  unfold valW
  by_cases e:p.1 = k
  ·rw [if_pos e,valV_pos (by exact e)]
   exact ⟨(fun z => by cases z),fun w z => ⟨v,rfl,by cases z; exact h1⟩⟩
  ·rw [if_neg e,valV_neg (by exact e)]
   exact ⟨i1,i2⟩
theorem RelK.any:∀ {kvs:List (κ × Wv)} {xs:List (κ × V)} (k:κ),RelK K m H kvs xs → (kvs.any fun kv => decide (kv.1 = k)) = xs.any fun kv => decide (kv.1 = k)
 | [],xs,k,h => by rw [h.nil_inv]; rfl
 | p :: r,xs,k,h => by
  obtain ⟨v,t,rfl,h1,h2⟩:=h.cons_inv
  rw [List.any_cons,List.any_cons,RelK.any k h2]
theorem RelK.repl:∀ {kvs:List (κ × Wv)} {xs:List (κ × V)} (k:κ) {w:Wv} {v:V},RelK K m H kvs xs → RelW K m H w v → RelK K m H (kvs.map fun kv => if kv.1 = k then (kv.1,w) else kv) (xs.map fun kv => if kv.1 = k then (kv.1,v) else kv)
 | [],xs,k,w,v,h,r => by rw [h.nil_inv]; exact RelK.nil
 | p :: kvs,xs,k,w,v,h,r => by
  obtain ⟨u,t,rfl,h1,h2⟩:=h.cons_inv
  rw [List.map_cons,List.map_cons]
  by_cases e:p.1 = k
  ·rw [if_pos e,if_pos (by exact e)]
   exact RelK.cons r (RelK.repl k h2 r)
  ·rw [if_neg e,if_neg (by exact e)]
   exact RelK.cons h1 (RelK.repl k h2 r)
theorem RelK.snoc:∀ {kvs:List (κ × Wv)} {xs:List (κ × V)} (k:κ) {w:Wv} {v:V},RelK K m H kvs xs → RelW K m H w v → RelK K m H (kvs ++ [(k,w)]) (xs ++ [(k,v)])
 | [],xs,k,w,v,h,r => by rw [h.nil_inv]; exact RelK.cons r RelK.nil
 | p :: kvs,xs,k,w,v,h,r => by
  obtain ⟨u,t,rfl,h1,h2⟩:=h.cons_inv
  exact RelK.cons h1 (RelK.snoc k h2 r)
theorem RelK.put {kvs:List (κ × Wv)} {xs:List (κ × V)} (k:κ) {w:Wv} {v:V} (h:RelK K m H kvs xs) (r:RelW K m H w v):RelK K m H (putW kvs k w) (putK xs k v):=by
 unfold putW putK
 rw [h.any k]
 split
 ·exact h.repl k r
 ·exact h.snoc k r
end
section
variable {K:PySem.W.Frag} {m:Mp} {H:Hp}
theorem RelK.merge:∀ {more:List (L2.Key × Wv)} {ms:List (L2.Key × V)} {kvs:List (L2.Key × Wv)} {xs:List (L2.Key × V)},RelK K m H kvs xs → RelK K m H more ms → RelK K m H (mergeW kvs more) (mergeK xs ms)
 | [],ms,kvs,xs,h,g => by rw [g.nil_inv]; exact h
 | p :: more,ms,kvs,xs,h,g => by
  obtain ⟨u,t,rfl,h1,h2⟩:=g.cons_inv
  have:=RelK.merge (more:=more) (ms:=t) (kvs:=putW kvs p.1 p.2) (xs:=putK xs p.1 u) (RelK.put p.1 h h1) h2
  exact this
end
section
variable {X:Cx}
inductive JPs (X:Cx) (pos:Pos):List (Option Expr) → List Expr → List (GE × GE) → Prop
 | nil:JPs X pos [] [] []
 | cons {k v:Expr} {ks:List (Option Expr)} {vs:List Expr} {gk gv:GE} {gs:List (GE × GE)}:JE X k gk → JE X v gv → JPs X pos ks vs gs → JPs X pos (some k :: ks) (v :: vs) ((gk,gv) :: gs)
def trsOf (X:Cx):List (Option Expr) → List Expr → List (TE × TE)
 | some k :: ks,v :: vs => (SE X k,SE X v) :: trsOf X ks vs
 | _,_ => []
theorem jps_pps {pos:Pos} {ks:List (Option Expr)} {vs:List Expr} {gs:List (GE × GE)} (h:JPs X pos ks vs gs):PPs X pos ks vs (trsOf X ks vs):=by
 induction h with
 | nil => exact pps_nil
 | cons _ _ _ ih => exact pps_cons pe_SE pe_SE ih
theorem jps_all {pos:Pos} {ks:List (Option Expr)} {vs:List Expr} {gs:List (GE × GE)} (h:JPs X pos ks vs gs):ks.all (·.isSome) = true ∧ ks.length = vs.length ∧ gs.length = ks.length:=by
 induction h with
 | nil => exact ⟨rfl,rfl,rfl⟩
 | cons _ _ _ ih => exact ⟨by simp [ih.1],by simp [ih.2.1],by simp [ih.2.2]⟩
end
def FlatV:Wv → Value → Prop
 | .int i,u => ∃ t,u = .int i t
 | .str x,u => (∃ t,u = .str x t) ∧ PyData.strOk x = true
 | _,_ => False
abbrev Dc:=List (PySem.Str × Wv)
def EntsOk (w:World):Dc → List DictEntry → Prop
 | [],[] => True
 | (k,v) :: r,e :: t => (e.hash = hashStr w k ∧ (∃ tk,e.key = .str k tk) ∧ FlatV v e.val) ∧ EntsOk w r t
 | _,_ => False
def DcAt (K:PySem.W.Frag) (w:World) (mg:Str → Option Value) (x:Str) (kvs:Dc):Prop :=
 ∃ (a:Addr) (es:Array DictEntry) (ep:Nat),mg x = some (.ref a) ∧ K.lookup a = some ⟨.type "dict",none,.dict es ep,#[]⟩ ∧ (a == sysModules) = false ∧ EntsOk w kvs es.toList ∧ (kvs.map (·.1)).Nodup
theorem ents_get {P:Program} {w:World}:∀ {kvs:Dc} {l:List DictEntry},EntsOk w kvs l → ∃ vs:List (PySem.Str × Value),vs.map (·.1) = kvs.map (·.1) ∧ Pairs (PySem.strKind P w) l vs ∧ (∀ e ∈ l,∃ k,(PySem.strKind P w).is k e.key = true ∧ e.hash = (PySem.strKind P w).hash k) ∧
  ∀ k,(kvs.lookup k = none → valueAt vs k = none) ∧ ∀ v,kvs.lookup k = some v → ∃ u,valueAt vs k = some u ∧ FlatV v u
 | [],[],_ => ⟨[],rfl,.nil,(fun _ z => by cases z),fun k => ⟨fun _ => rfl,(fun v z => by cases z)⟩⟩
 | (k,v) :: r,e :: t,h => by
  obtain ⟨⟨h1,⟨tk,h2⟩,h3⟩,h4⟩:=h
  obtain ⟨vs,i1,i2,i3,i4⟩:=ents_get (P:=P) h4
  have his:(PySem.strKind P w).is k e.key = true:=by rw [h2]; exact strKind_is P w k tk
  refine ⟨(k,e.val) :: vs,by simp [i1],.cons his rfl i2,fun e' he => ?_,fun k' => ?_⟩
  ·rcases List.mem_cons.mp he with z | z
   ·subst z; exact ⟨k,his,h1⟩
   ·exact i3 e' z
  ·rw [List.lookup_cons]
   unfold valueAt
   rw [List.find?_cons]
   by_cases ek:k = k'
   ·subst ek
    have b1:(k == k) = true:=by simp
    rw [b1]
    simp only [decide_true,Option.map_some]
    exact ⟨(fun z => by cases z),fun v' z => ⟨e.val,rfl,by cases z; exact h3⟩⟩
   ·have b1:(k' == k) = false:=beq_eq_false_iff_ne.mpr fun z => ek z.symm
    rw [b1]
    simp only [ek,decide_false]
    exact i4 k'
 | [],_ :: _,h => False.elim h
 | _ :: _,[],h => False.elim h
theorem dc_dict {P:Program} {w:World} {K:PySem.W.Frag} {h:Heap} {a:Addr} {es:Array DictEntry} {ep:Nat} {kvs:Dc} (KX:K.In h) (hl:K.lookup a = some ⟨.type "dict",none,.dict es ep,#[]⟩) (he:EntsOk w kvs es.toList) (nd:(kvs.map (·.1)).Nodup) :
  ∃ vs:List (PySem.Str × Value),h.DictOf (PySem.strKind P w) a vs ∧ ∀ k,(kvs.lookup k = none → valueAt vs k = none) ∧ ∀ v,kvs.lookup k = some v → ∃ u,valueAt vs k = some u ∧ FlatV v u:=by
 obtain ⟨vs,i1,i2,i3,i4⟩:=ents_get (P:=P) he
 exact ⟨vs,⟨_,es,ep,KX a _ hl,⟨rfl,rfl,rfl⟩,rfl,fun e hm => i3 e (by simpa using hm),i2,by rw [i1]; exact nd⟩,i4⟩
section
variable {X:Cx}
def gDcIn (neg:Bool) (kvs:Dc) (ga:GE):GE:=fun ρ st => (ga ρ st).bind fun a st1 => match a with
 | .str k => .ok (.bl ((kvs.lookup k).isSome != neg)) st1
 | _ => .bad
def gDcIx (kvs:Dc) (ga:GE):GE:=fun ρ st => (ga ρ st).bind fun a st1 => match a with
 | .str k => (match kvs.lookup k with | some w => .ok w st1 | none => .bad)
 | _ => .bad
def tDcIn (neg:Bool) (kvs:Dc) (ty:TE):TE:=fun σ H Q => ty σ H fun y H1 => ∃ z,y = .str z ∧ Q (.bl ((kvs.lookup z).isSome != neg)) H1
theorem pc_kin {i:Expr} {ty:TE} {x:Str} {p:Pos} {kvs:Dc} (hi:PE X i ty) (hg:Gl X x) (hd:(x == ("__debug__":Str)) = false) (D:DcAt X.K X.w X.mg x kvs):PC X .In i (.Name x p) (tDcIn false kvs ty):=by
 intro pins s σ H Q I h
 obtain ⟨a,es,ep,g1,g2,g3,g4,g5⟩:=D
 refine thn (hi pins s σ H _ I h) fun iv s1 ⟨y,H1,I1,ry,z,ey,q1⟩ => thn (pe_glob (v:=.ref a) hg g1 rfl hd pins s1 σ H1 (fun v H2 => v = .ref a ∧ H2 = H1) I1 ⟨rfl,rfl⟩) fun u s2 ⟨v,H2,I2,rv,ev,eH⟩ => ?_
 subst ey ev eH
 obtain rfl:u = Value.ref a:=rv
 obtain ⟨t,rfl⟩:=(show ∃ t,iv = Value.str z t from ry)
 obtain ⟨vs,dd,look⟩:=dc_dict (P:=X.prog) (w:=X.w) I2.kIn g2 g4 g5
 refine wpAny_in_of (strKind_is X.prog X.w z t) g3 dd.mapOf ⟨.bl (kvs.lookup z).isSome,_,I2.tok _,?_,by simpa using q1⟩
 obtain ⟨l1,l2⟩:=look z
 cases e:kvs.lookup z with
 | none => rw [l1 e]; rfl
 | some w => obtain ⟨u,e1,_⟩:=l2 w e; rw [e1]; rfl
theorem pc_knotin {i:Expr} {ty:TE} {x:Str} {p:Pos} {kvs:Dc} (hi:PE X i ty) (hg:Gl X x) (hd:(x == ("__debug__":Str)) = false) (D:DcAt X.K X.w X.mg x kvs):PC X .NotIn i (.Name x p) (tDcIn true kvs ty):=by
 intro pins s σ H Q I h
 obtain ⟨a,es,ep,g1,g2,g3,g4,g5⟩:=D
 refine thn (hi pins s σ H _ I h) fun iv s1 ⟨y,H1,I1,ry,z,ey,q1⟩ => thn (pe_glob (v:=.ref a) hg g1 rfl hd pins s1 σ H1 (fun v H2 => v = .ref a ∧ H2 = H1) I1 ⟨rfl,rfl⟩) fun u s2 ⟨v,H2,I2,rv,ev,eH⟩ => ?_
 subst ey ev eH
 obtain rfl:u = Value.ref a:=rv
 obtain ⟨t,rfl⟩:=(show ∃ t,iv = Value.str z t from ry)
 obtain ⟨vs,dd,look⟩:=dc_dict (P:=X.prog) (w:=X.w) I2.kIn g2 g4 g5
 refine wpAny_notIn_of (strKind_is X.prog X.w z t) g3 dd.mapOf ⟨.bl (!(kvs.lookup z).isSome),_,I2.tok _,?_,by simpa using q1⟩
 obtain ⟨l1,l2⟩:=look z
 cases e:kvs.lookup z with
 | none => rw [l1 e]; rfl
 | some w => obtain ⟨u,e1,_⟩:=l2 w e; rw [e1]; rfl
theorem read_dcIn {a:Expr} {ga:GE} {neg:Bool} {kvs:Dc} (ha:JE X a ga) {ρ:Rho} {st:Hs} {σ:St} {H:Hp} {m:Mp} {Q:VK} (S:Sim X.K m st H) (R:RelEnv X.K m H ρ σ) (p:PostE X σ m H (gDcIn neg kvs ga ρ st) Q):tDcIn neg kvs (SE X a) σ H Q:=by
 refine ha.go S R (PostG.bind p) fun w st1 v m1 H1 p1 e1 S1 r1 => ?_
 cases w with
 | str k =>
  unfold RelW at r1
  exact ⟨k,r1.1,p1 _ m1 H1 e1 S1 (by unfold RelW; rfl)⟩
 | _ => exact False.elim p1
theorem je_dcIn {a:Expr} {ga:GE} {x:Str} {p pos:Pos} {kvs:Dc} (ha:JE X a ga) (hg:Gl X x) (hd:(x == ("__debug__":Str)) = false) (D:DcAt X.K X.w X.mg x kvs):JE X (.Compare a [.In] [.Name x p] pos) (gDcIn false kvs ga) :=
 JE.of (pe_cmp (pc_kin pe_SE hg hd D) rfl) fun ρ st σ H m Q S R p => read_dcIn ha S R p
theorem je_dcNotIn {a:Expr} {ga:GE} {x:Str} {p pos:Pos} {kvs:Dc} (ha:JE X a ga) (hg:Gl X x) (hd:(x == ("__debug__":Str)) = false) (D:DcAt X.K X.w X.mg x kvs):JE X (.Compare a [.NotIn] [.Name x p] pos) (gDcIn true kvs ga) :=
 JE.of (pe_cmp (pc_knotin pe_SE hg hd D) rfl) fun ρ st σ H m Q S R p => read_dcIn ha S R p
theorem jt_dcIn {a:Expr} {ga:GE} {x:Str} {p pos:Pos} {kvs:Dc} (ha:JE X a ga) (hg:Gl X x) (hd:(x == ("__debug__":Str)) = false) (D:DcAt X.K X.w X.mg x kvs):JT X (.Compare a [.In] [.Name x p] pos) (gTst (gDcIn false kvs ga)) :=
 JT.of (pt_cmp (pc_kin pe_SE hg hd D) rfl) fun ρ st σ H m Q S R p => read_dcIn ha S R (post_tst p)
theorem jt_dcNotIn {a:Expr} {ga:GE} {x:Str} {p pos:Pos} {kvs:Dc} (ha:JE X a ga) (hg:Gl X x) (hd:(x == ("__debug__":Str)) = false) (D:DcAt X.K X.w X.mg x kvs):JT X (.Compare a [.NotIn] [.Name x p] pos) (gTst (gDcIn true kvs ga)) :=
 JT.of (pt_cmp (pc_knotin pe_SE hg hd D) rfl) fun ρ st σ H m Q S R p => read_dcIn ha S R (post_tst p)
def tDcIx (kvs:Dc) (ty:TE):TE:=fun σ H Q => ty σ H fun y H1 => ∃ z w v,y = .str z ∧ kvs.lookup z = some w ∧ (∀ u,FlatV w u → RelV v u) ∧ Q v H1
theorem pe_dcIx {b:Expr} {ty:TE} {x:Str} {p pos:Pos} {kvs:Dc} (hb:PE X b ty) (hs:NoSl b) (hg:Gl X x) (hd:(x == ("__debug__":Str)) = false) (D:DcAt X.K X.w X.mg x kvs):PE X (.Subscript (.Name x p) b pos) (tDcIx kvs ty):=by
 intro pins s σ H Q I h
 obtain ⟨a,es,ep,g1,g2,g3,g4,g5⟩:=D
 refine subD_of PySem.F.slot_dict_getitem.lookup hs (thn (pe_glob (v:=.ref a) hg g1 rfl hd pins s σ H (fun v H2 => v = .ref a ∧ H2 = H) I ⟨rfl,rfl⟩) fun u s1 ⟨v,H1,I1,rv,ev,eH⟩ => ?_)
 subst ev eH
 obtain rfl:u = Value.ref a:=rv
 refine thn (hb pins s1 σ H1 _ I1 h) fun iv s2 ⟨y,H2,I2,ry,z,w,v,ey,ew,ev,q⟩ => ?_
 subst ey
 obtain ⟨t,rfl⟩:=(show ∃ t,iv = Value.str z t from ry)
 obtain ⟨vs,dd,look⟩:=dc_dict (P:=X.prog) (w:=X.w) I2.kIn g2 g4 g5
 obtain ⟨u,e1,e2⟩:=(look z).2 w ew
 exact ⟨dd.typeIs,wpAny_getItem_of (strKind_is X.prog X.w z t) dd.mapOf e1 ⟨v,H2,I2.tok _,ev u e2,q⟩⟩
theorem je_dcIx {b:Expr} {gb:GE} {x:Str} {p pos:Pos} {kvs:Dc} (hb:JE X b gb) (hs:NoSl b) (hg:Gl X x) (hd:(x == ("__debug__":Str)) = false) (D:DcAt X.K X.w X.mg x kvs):JE X (.Subscript (.Name x p) b pos) (gDcIx kvs gb) :=
 JE.of (pe_dcIx pe_SE hs hg hd D) fun ρ st σ H m Q S R p => by
  refine hb.go S R (PostG.bind p) fun w st1 v m1 H1 p1 e1 S1 r1 => ?_
  cases w with
  | str k =>
   dsimp only at p1
   cases e:kvs.lookup k with
   | none => rw [e] at p1; exact False.elim p1
   | some u =>
    rw [e] at p1
    unfold RelW at r1
    cases u with
    | int i => exact ⟨k,.int i,.int i,r1.1,e,fun u h => h,p1 _ m1 H1 e1 S1 (by unfold RelW; rfl)⟩
    | str y =>
     by_cases hy:PyData.strOk y = true
     ·exact ⟨k,.str y,.str y,r1.1,e,fun u h => h.1,p1 _ m1 H1 e1 S1 (by unfold RelW; exact ⟨rfl,hy⟩)⟩
     ·obtain ⟨a,es,ep,_,_,_,g4,_⟩:=D
      obtain ⟨vs,_,_,_,i4⟩:=ents_get (P:=X.prog) g4
      obtain ⟨u,_,e2⟩:=(i4 k).2 _ e
      exact absurd e2.2 hy
    | _ =>
     obtain ⟨a,es,ep,_,_,_,g4,_⟩:=D
     obtain ⟨vs,_,_,_,i4⟩:=ents_get (P:=X.prog) g4
     obtain ⟨u,_,e2⟩:=(i4 k).2 _ e
     exact False.elim e2
  | _ => exact False.elim p1
end
end J
namespace J
open PySem PySem.Spec PyProof.Rows PySem.W L2
section
variable (lt:Nat → Nat → Bool) (N:Nat)
def Kg {α:Type}:KasT α → (α → Prop) → Prop
 | .ret a,Q => Q a
 | .ask i j k,Q => (i < N ∧ j < N) ∧ Kg (k (lt i j)) Q
end
section
variable {lt:Nat → Nat → Bool} {N:Nat}
theorem Kg.bind {α β:Type} {f:α → KasT β} {Q:β → Prop}:∀ {t:KasT α},Kg lt N t (fun a => Kg lt N (f a) Q) → Kg lt N (t.bind f) Q
 | .ret a,h => h
 | .ask i j k,h => ⟨h.1,Kg.bind (t:=k (lt i j)) h.2⟩
theorem Kg.imp {α:Type} {Q R:α → Prop} (hq:∀ a,Q a → R a):∀ {t:KasT α},Kg lt N t Q → Kg lt N t R
 | .ret a,h => hq a h
 | .ask i j k,h => ⟨h.1,Kg.imp hq (t:=k (lt i j)) h.2⟩
structure Ord (lt:Nat → Nat → Bool):Prop where
 as:∀ a b,lt a b = true → lt b a = false
 tr:∀ a b c,lt a b = false → lt b c = false → lt a c = false
theorem Ord.irr (o:Ord lt) (a:Nat):lt a a = false:=by
 cases h:lt a a with
 | false => rfl
 | true => have:=o.as a a h; rw [h] at this; cases this
abbrev at_ (p:Array Nat) (i:Nat):Nat:=p.getD i 0
structure Pm (N:Nat) (p:Array Nat):Prop where
 sz:p.size = N
 pm:p.toList.Perm (List.range N)
theorem Pm.bd {p:Array Nat} (h:Pm N p) {i:Nat} (hi:i < N):at_ p i < N:=by
 have e:at_ p i = p[i]'(by rw [h.sz]; exact hi):=by simp [at_,Array.getD,h.sz,hi]
 rw [e]
 have:p[i]'(by rw [h.sz]; exact hi) ∈ p.toList:=by simp
 exact List.mem_range.mp (h.pm.mem_iff.mp this)
theorem getD_of {p q:Array Nat} {i j:Nat} (h:p[i]? = q[j]?):at_ p i = at_ q j:=by
 unfold at_
 rw [Array.getD_eq_getD_getElem?,Array.getD_eq_getD_getElem?,h]
theorem rev_at {p:Array Nat} (h:Pm N p) {i j:Nat} (hj:j ≤ N) (k:Nat):at_ (kas_rev p i j) k = if i ≤ k ∧ k < j then at_ p (i + j - 1 - k) else at_ p k:=by
 have q:=getElem?_mirror_all (xs:=p) (i:=i) (j:=j) (by rw [h.sz]; exact hj) k
 unfold kas_rev
 split
 ·rename_i c; rw [if_pos c] at q; exact getD_of q
 ·rename_i c; rw [if_neg c] at q; exact getD_of q
def Up (lt:Nat → Nat → Bool) (p:Array Nat) (k:Nat):Prop:=∀ i j,i ≤ j → j < k → lt (at_ p j) (at_ p i) = false
def Dn (lt:Nat → Nat → Bool) (p:Array Nat) (k:Nat):Prop:=∀ i j,i ≤ j → j < k → lt (at_ p i) (at_ p j) = false
theorem Up.succ (o:Ord lt) {p:Array Nat} {k:Nat} (h:Up lt p k) (hk:1 ≤ k) (e:lt (at_ p k) (at_ p (k - 1)) = false):Up lt p (k + 1):=by
 intro i j hij hj
 by_cases c:j < k
 ·exact h i j hij c
 ·have:j = k:=by omega
  subst this
  by_cases c2:i = j
  ·subst c2; exact o.irr _
  ·exact o.tr _ _ _ e (h i (j - 1) (by omega) (by omega))
theorem Dn.succ (o:Ord lt) {p:Array Nat} {k:Nat} (h:Dn lt p k) (hk:1 ≤ k) (e:lt (at_ p (k - 1)) (at_ p k) = false):Dn lt p (k + 1):=by
 intro i j hij hj
 by_cases c:j < k
 ·exact h i j hij c
 ·have:j = k:=by omega
  subst this
  by_cases c2:i = j
  ·subst c2; exact o.irr _
  ·exact o.tr _ _ _ (h i (j - 1) (by omega) (by omega)) e
theorem Dn.up {p:Array Nat} (hp:Pm N p) {n:Nat} (hn:n ≤ N) (h:Dn lt p n):Up lt (kas_rev p 0 n) n:=by
 intro i j hij hj
 rw [rev_at hp hn,rev_at hp hn,if_pos ⟨by omega,hj⟩,if_pos ⟨by omega,by omega⟩]
 exact h _ _ (by omega) (by omega)
end
section
variable {prog:Program} {w:World} {A:Around} {E:Value → Shared → Prop} {s:Shared}
end
section
variable {X:Cx} {pins:List (Addr × Obj)} {σ:St} {H:Hp} {s:Shared}
end
section
variable {X:Cx}
end
section
variable {prog:Program} {w:World} {A:Around} {E:Value → Shared → Prop} {s:Shared}
end
section
variable {X:Cx}
abbrev pw (p:Int × Int):Wv:=.tup [.int p.1,.int p.2]
end
end J
namespace J
open PySem PySem.Spec PyProof.Rows L2
def keysOf:List Wv → Option (List L2.Key)
 | [] => some []
 | w :: r => (match keyOf w,keysOf r with | some k,some l => some (k :: l) | _,_ => none)
def keyT:Wv → Option (List L2.Key)
 | .tup ws => keysOf ws
 | _ => none
theorem keysOf_rel {K:PySem.W.Frag} {m:Mp} {H:Hp}:∀ {ws:List Wv} {xs:List V} {ks:List L2.Key},RelWs K m H ws xs → keysOf ws = some ks → xs = ks.map kV
 | [],xs,ks,r,e => by unfold RelWs at r; subst r; cases e; rfl
 | w :: ws,xs,ks,r,e => by
  unfold RelWs at r
  obtain ⟨x,t,rfl,r1,r2⟩:=r
  unfold keysOf at e
  cases e1:keyOf w with
  | none => rw [e1] at e; cases e
  | some k =>
   cases e2:keysOf ws with
   | none => rw [e1,e2] at e; cases e
   | some l =>
    rw [e1,e2] at e
    cases e
    rw [keyOf_rel r1 e1,keysOf_rel r2 e2]
    rfl
theorem keyT_rel {K:PySem.W.Frag} {m:Mp} {H:Hp} {w:Wv} {v:V} {ks:List L2.Key} (r:RelW K m H w v) (e:keyT w = some ks):∃ b,v = .ref b ∧ H b = some (.tup (ks.map kV)):=by
 cases w with
 | tup ws =>
  unfold RelW at r
  obtain ⟨a,xs,rfl,h1,h2⟩:=r
  rw [keysOf_rel h2 e] at h1
  exact ⟨a,rfl,h1⟩
 | _ => cases e
def gNewT:GE:=fun _ st => .ok (.ref st.length) (st ++ [.dcT []])
def gNewK:GE:=fun _ st => .ok (.ref st.length) (st ++ [.dct []])
section
variable {X:Cx}
theorem je_newT {pos:Pos}:JE X (.Dict [] [] pos) gNewT:=JE.of pe_dnewT fun ρ st σ H m Q S R p => fun q hq =>
 p (.ref q) (m ++ [q]) _ (Ext.more.trans (Ext.updW (.inl hq))) (S.allocO hq ⟨[],upd_same,RelK.nil⟩) (S.newest q _)
theorem je_newK {pos:Pos}:JE X (.Dict [] [] pos) gNewK:=JE.of pe_dnewK fun ρ st σ H m Q S R p => fun q hq =>
 p (.ref q) (m ++ [q]) _ (Ext.more.trans (Ext.updW (.inl hq))) (S.allocO hq ⟨[],upd_same,RelK.nil⟩) (S.newest q _)
def putD (d k v:Wv) (st:Hs):Option Hs:=match d with
 | .ref l => (match st[l]? with
  | some (.dct kvs) => (match keyOf k with | some kk => if kvs.length < lim then some (st.set l (.dct (putW kvs kk v))) else none | none => none)
  | some (.dcT kvs) => (match keyT k with | some kk => if kvs.length < lim then some (st.set l (.dcT (putW kvs kk v))) else none | none => none)
  | _ => none)
 | _ => none
def gDPut (gv gd gk:GE):GS:=fun ρ st => (gv ρ st).thn ρ fun v st1 => (gd ρ st1).thn ρ fun d st2 => (gk ρ st2).thn ρ fun k st3 => match putD d k v st3 with
 | some st4 => .nx ρ st4
 | none => .bad
theorem putD_ok {m:Mp} {st st':Hs} {H:Hp} {d k v:Wv} {x y z:V} (S:Sim X.K m st H) (rd:RelW X.K m H d x) (rk:RelW X.K m H k y) (rv:RelW X.K m H v z) (e:putD d k v st = some st'):∃ a H',x = .ref a ∧ DPut H a y z H' ∧ Ext X.K m H m H' ∧ Sim X.K m st' H':=by
 unfold putD at e
 cases d with
 | ref l =>
  dsimp only at e
  unfold RelW at rd
  obtain ⟨a,rfl,ha⟩:=rd
  cases e1:st[l]? with
  | none => rw [e1] at e; cases e
  | some o =>
   rw [e1] at e
   cases o with
   | dct kvs =>
    dsimp only at e
    cases e2:keyOf k with
    | none => rw [e2] at e; cases e
    | some kk =>
     rw [e2] at e
     dsimp only at e
     by_cases c:kvs.length < lim
     ·rw [if_pos c] at e
      cases e
      obtain ⟨xs,h1,h2⟩:=(show ∃ ys,H a = some (.dK ys) ∧ RelK X.K m H kvs ys from S.obj _ _ _ ha e1)
      have ex:Ext X.K m H m (upd H a (.dK (putK xs kk z))):=Ext.updW (.inr (.inr (.inl ⟨_,h1⟩)))
      refine ⟨a,_,rfl,by rw [keyOf_rel rk e2]; exact DPut.k h1 (by rw [← h2.length]; exact lim_lt c),ex,?_⟩
      exact S.writeO ha e1 rfl ⟨_,upd_same,(h2.put kk rv).mono ex⟩
     ·rw [if_neg c] at e; cases e
   | dcT kvs =>
    dsimp only at e
    cases e2:keyT k with
    | none => rw [e2] at e; cases e
    | some kk =>
     rw [e2] at e
     dsimp only at e
     by_cases c:kvs.length < lim
     ·rw [if_pos c] at e
      cases e
      obtain ⟨xs,h1,h2⟩:=(show ∃ ys,H a = some (.dT ys) ∧ RelK X.K m H kvs ys from S.obj _ _ _ ha e1)
      obtain ⟨b,rfl,hb⟩:=keyT_rel rk e2
      have ex:Ext X.K m H m (upd H a (.dT (putK xs kk z))):=Ext.updW (.inr (.inr (.inr ⟨_,h1⟩)))
      refine ⟨a,_,rfl,DPut.t h1 hb (by rw [← h2.length]; exact lim_lt c),ex,?_⟩
      exact S.writeO ha e1 rfl ⟨_,upd_same,(h2.put kk rv).mono ex⟩
     ·rw [if_neg c] at e; cases e
   | _ => cases e
 | _ => cases e
theorem js_dput {o i e:Expr} {go gi ge:GE} {pos pos':Pos} (hu:X.A.units + 1 < cLine) (he:JE X e ge) (ho:JE X o go) (hi:JE X i gi) (hs:swapsWith e (some (.Subscript o i pos')) pos.line X.env = pure false):JS X (.Assign [.Subscript o i pos'] e pos) (gDPut ge go gi) :=
 JS.of (ps_dput hu pe_SE pe_SE pe_SE hs) fun ρ st σ H m D S R p => by
  refine he.go S R (PostS.of_thn R p) fun v st1 vv m1 H1 p1 e1 S1 rv => ?_
  refine ho.go S1 (R.mono e1) ((PostS.of_thn (m:=m) (H:=H) R p1).imp e1 fun _ _ q => q) fun d st2 vd m2 H2 p2 e2 S2 rd => ?_
  refine hi.go S2 (R.mono (e1.trans e2)) ((PostS.of_thn (m:=m) (H:=H) R p2).imp (e1.trans e2) fun _ _ q => q) fun k st3 vk m3 H3 p3 e3 S3 rk => ?_
  have e13:=e1.trans (e2.trans e3)
  cases e4:putD d k v st3 with
  | none => rw [e4] at p3; exact False.elim p3
  | some st4 =>
   rw [e4] at p3
   obtain ⟨a,H4,f1,f2,f3,f4⟩:=putD_ok (X:=X) S3 (RelW.mono e3 _ _ rd) rk (RelW.mono (e2.trans e3) _ _ rv) e4
   exact ⟨a,H4,f1,f2,p3 σ m3 H4 (e13.trans f3) f4 (R.mono (e13.trans f3))⟩
end
end J
namespace J
open PySem PySem.Spec PyProof.Rows PySem.W L2
def DRaw (h:Heap) (d:Addr) (es:Array DictEntry) (ep:Nat):Prop:=∃ o,h.get? d = some o ∧ o.cls = .type "dict" ∧ o.data = .dict es ep
section
variable {prog:Program} {w:World} {A:Around} {E:Value → Shared → Prop} {s:Shared} {d it:Addr} {es:Array DictEntry} {ep i:Nat}
theorem DRaw.ty (x:DRaw s.heap d es ep):s.TypeIs (.ref d) "dict":=let ⟨o,h1,h2,_⟩:=x; ⟨o,h1,h2⟩
end
section
variable {X:Cx}
end
def intK:List L2.Key → Option (List Int)
 | [] => some []
 | .inl i :: r => (match intK r with | some l => some (i :: l) | none => none)
 | _ => none
theorem intK_kV:∀ {ks:List L2.Key} {ns:List Int},intK ks = some ns → ks.map kV = ns.map V.int
 | [],ns,e => by cases e; rfl
 | .inl i :: r,ns,e => by
  unfold intK at e
  cases q:intK r with
  | none => rw [q] at e; cases e
  | some l => rw [q] at e; cases e; rw [List.map_cons,List.map_cons,intK_kV q]; rfl
 | .inr x :: r,ns,e => by cases e
section
variable {X:Cx}
end
end J
namespace J
open PySem L2 PyProof.Rows
section
open PySem.SeqAt PySem.MeetsSeq PySem.MeetsSeq2 PySem.MeetsSeq3
end
variable {X:Cx}
def oLe:Op2:=fun x y st => oLe0 x y st
theorem ow_leT (hu:X.A.units + 64 < cLine):OpW X (compareOp .LtE) oLe:=ow_le
def oLt:Op2:=fun x y st => oLt0 x y st
theorem ow_ltT (hu:X.A.units + 64 < cLine):OpW X (compareOp .Lt) oLt:=ow_lt
end J
namespace J
open PySem PySem.Spec PyProof.Rows L2
structure RoomU (k:Nat) (A:Around):Prop where
 d:A.depth + 3 * k + 5 < recursionLimit
 u:A.units + 16 * k + 200 < cLine
theorem RoomU.of {k:Nat} {A:Around} (r:Room k A):RoomU k A:=⟨r.dp,r.un⟩
theorem RoomU.less {j k:Nat} {A:Around} (r:RoomU k A) (h:j ≤ k):RoomU j A:=⟨by have:=r.d; omega,by have:=r.u; omega⟩
structure FnOkU (P:Program) (w:World) (K:PySem.W.Frag) (mg:Str → Option Value) (base:Heap) (k:Nat) (f:Addr) (fd:FuncData) (ps:List Str) (sp:Sp):Prop where
 n:∀ vs H Q E,sp vs H Q E → vs.length = ps.length
 go:∀ (A:Around) (outer:List Env) (s:Shared) (H:Hp) (args:Args) (us:List Value) (vs:List V) (Q:VK) (E:XK),RoomU k A → HdA A H → Env0 P w K mg base A outer s H →
  BindsTo s fd args (ps.zip us) → Vals vs us → sp vs H Q E → codeAny (model P w) A (.call (.ref f) args) (CR (CXJ P w) outer P w H s Q E) s
section
variable {P:Program} {w:World} {K:PySem.W.Frag} {mg:Str → Option Value} {base:Heap}
end
section
variable {X:Cx}
end
def HasU (P:Program) (w:World) (K:PySem.W.Frag) (mg:Str → Option Value) (base:Heap) (k:Nat) (x:Str) (n:Nat) (F:List Wv → Hs → Re Wv):Prop :=
 ∃ f fd ps,FnOkU P w K mg base k f fd ps (spW K n F) ∧ mg x = some (.ref f) ∧ PySem.W.keepIn K (.ref f) = true ∧ Binds K fd ps []
theorem HasU.mono {P:Program} {w:World} {K:PySem.W.Frag} {mg:Str → Option Value} {base:Heap} {j k:Nat} {x:Str} {n:Nat} {F:List Wv → Hs → Re Wv} (h:HasU P w K mg base j x n F) (l:j ≤ k):HasU P w K mg base k x n F:=by
 obtain ⟨f,fd,ps,G,r⟩:=h
 exact ⟨f,fd,ps,⟨G.n,fun A outer s H args us vs Q E hr => G.go A outer s H args us vs Q E (hr.less l)⟩,r⟩
end J
namespace J
open PySem PySem.Spec PyProof.Rows L2
section
variable {X:Cx}
end
end J
namespace J
open PySem PySem.Spec PyProof.Rows L2
section
variable {X:Cx}
end
end J
namespace J
open PySem PySem.Spec PyProof.Rows L2
abbrev Wk2:=Option (Nat × List Wv) × List Wv
def ck2 (c:Option (Nat × List Wv)) (st:Hs):Prop:=match c with
 | some (l,ws) => lstOf st l = some ws
 | none => True
structure ItFor2 (X:Cx) (w:Wk2) (m1:Mp) (H1:Hp) (J':It):Prop where
 go:∀ (k:Nat) (H:Hp) (m':Mp) (st:Hs),Ext X.K m1 H1 m' H → Sim X.K m' st H → ck2 w.1 st → k < w.2.length → J'.go k H
 stop:∀ (k:Nat) (H:Hp) (m':Mp) (st:Hs),Ext X.K m1 H1 m' H → Sim X.K m' st H → ck2 w.1 st → k = w.2.length → J'.stop k H
 yld:∀ (k:Nat) (hk:k < w.2.length) (H:Hp) (v:V) (H':Hp) (m':Mp) (st:Hs),Ext X.K m1 H1 m' H → Sim X.K m' st H → ck2 w.1 st → J'.yld k H v H' → Ext X.K m' H m' H' ∧ Sim X.K m' st H' ∧ RelW X.K m' H' w.2[k] v
abbrev GI2:=Rho → Hs → Re Wk2
def JI2 (X:Cx) (tg iter:Expr) (gi:GI2):Prop:=∃ wi,PI X tg iter wi ∧ ∀ (ρ:Rho) (st:Hs) (σ:St) (H:Hp) (m:Mp) (R:It → Hp → Prop),Sim X.K m st H → RelEnv X.K m H ρ σ →
 PostG X σ m H (gi ρ st) (fun w st1 => ∀ (m1:Mp) (H1:Hp) (J':It),Ext X.K m H m1 H1 → Sim X.K m1 st1 H1 → ck2 w.1 st1 → ItFor2 X w m1 H1 J' → R J' H1) → wi σ H R
section
variable {X:Cx}
theorem ji2_of {tg iter:Expr} {gi:GI} (h:JI X tg iter gi):JI2 X tg iter (fun ρ st => (gi ρ st).bind fun w st1 => .ok (w.1.map fun l => (l,w.2),w.2) st1):=by
 obtain ⟨wi,hp,hw⟩:=h
 refine ⟨wi,hp,fun ρ st σ H m R S r p => hw ρ st σ H m R S r ((PostG.bind p).imp Ext.refl fun w st1 q m1 H1 J' e1 S1 c1 it1 => ?_)⟩
 obtain ⟨o,ws⟩:=w
 have cc:∀ st,ck2 (o.map fun l => (l,ws)) st → ckOf (o,ws) st:=fun st c => by cases o <;> exact c
 have cc':ckOf (o,ws) st1 → ck2 (o.map fun l => (l,ws)) st1:=fun c => by cases o <;> exact c
 refine q m1 H1 J' e1 S1 (cc' c1) ⟨fun k H2 m' st2 e S2 c => it1.go k H2 m' st2 e S2 (cc _ c),fun k H2 m' st2 e S2 c => it1.stop k H2 m' st2 e S2 (cc _ c),fun k hk H2 v H3 m' st2 e S2 c y => ?_⟩
 obtain ⟨rfl,rr⟩:=it1.yld k hk H2 v H3 m' st2 e S2 (cc _ c) y
 exact ⟨Ext.refl,S2,rr⟩
end
open Classical in
noncomputable def forG2 (is:List Nat) (gb:GS) (c:Option (Nat × List Wv)):List Wv → Rho → Hs → Rs
 | [],ρ,st => .nx ρ st
 | w :: r,ρ,st => match bdT is w ρ with
  | none => .bad
  | some ρ1 => match gb ρ1 st with
   | .nx ρ' st' => if ck2 c st' then forG2 is gb c r ρ' st' else .bad
   | .ct ρ' st' => if ck2 c st' then forG2 is gb c r ρ' st' else .bad
   | .bk ρ' st' => .nx ρ' st'
   | .rt w st' => .rt w st'
   | .err c ρ' st' => .err c ρ' st'
   | .bad => .bad
noncomputable def gForG (is:List Nat) (gi:GI2) (gb:GS):GS:=fun ρ st => (gi ρ st).thn ρ fun w st1 => forG2 is gb w.1 w.2 ρ st1
section
variable {X:Cx}
theorem js_forG {es:List Expr} {is:List Nat} {k:Nat} {iter:Expr} {body:List Stmt} {gi:GI2} {gb:GS} {pos pos':Pos} (hN:X.N.Nodup) (hp:PassesOwn (model X.prog X.w) X.A X.env X.xe) (hc:X.calm = true) (sl:Slots X es is) (hi:JI2 X (.Tuple es k pos') iter gi) (hb:JSs X body gb)
  (hs:∀ x,foldedSetIterable iter X.env x = pure x):JS X (.For (.Tuple es k pos') iter body [] pos) (gForG is gi gb):=by
 obtain ⟨wi,hpi,hw⟩:=hi
 refine JS.of (ps_for hp hc hpi (pg_tup hc (pgs_slots hN sl) (each_len sl) (each_star sl)) pss_SSs hs) fun ρ st σ H m D S R p => ?_
 refine hw ρ st σ H m _ S R ((PostS.of_thn R p).imp Ext.refl fun w st1 p1 m1 H1 J' e1 S1 c1 it1 => ?_)
 obtain ⟨cc,ws⟩:=w
 let Pv:Nat → St → Hp → Prop:=fun k σ H => ∃ ρ st m',Ext X.K m1 H1 m' H ∧ Sim X.K m' st H ∧ RelEnv X.K m' H ρ σ ∧ ck2 cc st ∧ PostS X m' H (forG2 is gb cc (ws.drop k) ρ st) D
 refine ⟨fun k n σ H => n = ws.length - k ∧ k ≤ ws.length ∧ Pv k σ H,⟨ws.length,by simp,Nat.zero_le _,ρ,st1,m1,Ext.refl,S1,R.mono e1,c1,PostS.shift p1 e1⟩,?_⟩
 rintro k n σ2 H2 ⟨rfl,hk,ρ2,st2,m2,e2,S2,R2,c2,p2⟩
 by_cases hlt:k < ws.length
 ·refine .inr ⟨it1.go k H2 m2 st2 e2 S2 c2 hlt,Pv (k + 1),fun σ' H' p' => ⟨ws.length - (k + 1),by omega,rfl,hlt,p'⟩,fun x H' y => ?_⟩
  obtain ⟨eY,S2',rx'⟩:=it1.yld k hlt H2 x H' m2 st2 e2 S2 c2 y
  have ed:ws.drop k = ws[k] :: ws.drop (k + 1):=List.drop_eq_getElem_cons hlt
  rw [ed] at p2
  unfold forG2 at p2
  replace p2:=PostS.shift p2 eY
  have R2':=R2.mono eY
  have e2':=e2.trans eY
  have rx2:RelW X.K m2 H' ws[k] x:=rx'
  cases eb:ws[k] with
  | tup us =>
   rw [eb] at p2 rx2
   dsimp only [bdT] at p2
   cases e5:setL is us ρ2 with
   | none => rw [e5] at p2; exact False.elim p2
   | some ρ5 =>
    rw [e5] at p2
    dsimp only at p2
    unfold RelW at rx2
    obtain ⟨b,ys,rfl,f1,f2⟩:=rx2
    refine ⟨b,ys,rfl,SqT.of f1,by rw [← f2.length]; exact setL_len e5,setL_run f2 R2' e5 fun σ5 R5 => ?_⟩
    refine hb _ st2 _ _ m2 _ S2' R5 ?_
    cases eg:gb ρ5 st2 with
    | nx ρ3 st3 =>
     rw [eg] at p2
     by_cases c:ck2 cc st3
     ·simp only [if_pos c] at p2
      exact fun σ3 m3 H3 e3 S3 R3 => ⟨ρ3,st3,m3,e2'.trans e3,S3,R3,c,PostS.shift p2 e3⟩
     ·simp only [if_neg c] at p2; exact False.elim p2
    | ct ρ3 st3 =>
     rw [eg] at p2
     by_cases c:ck2 cc st3
     ·simp only [if_pos c] at p2
      exact fun σ3 m3 H3 e3 S3 R3 => ⟨ρ3,st3,m3,e2'.trans e3,S3,R3,c,PostS.shift p2 e3⟩
     ·simp only [if_neg c] at p2; exact False.elim p2
    | bk ρ3 st3 => rw [eg] at p2; exact p2
    | rt w3 st3 => rw [eg] at p2; exact p2
    | err c3 ρ3 st3 => rw [eg] at p2; exact p2
    | bad => rw [eg] at p2; exact p2
  | _ => rw [eb] at p2; exact False.elim p2
 ·have e:k = ws.length:=by omega
  subst e
  rw [List.drop_length] at p2
  exact .inl ⟨it1.stop _ H2 m2 st2 e2 S2 c2 rfl,p2 σ2 m2 H2 Ext.refl S2 R2⟩
end
end J
namespace J
open PySem PySem.Spec PyProof.Rows L2
open Classical in
structure CScope2 (X:Cx) (scope:Scope) (x:Str) (xr:List Str) (cs:Caps):Prop where
 one:CScope X scope x cs
 var:∀ y ∈ x :: xr,scope.names.lookup y = some .local
 nd:((x :: xr) ++ cs.map (·.1)).Nodup
inductive NamesAre:List Expr → List Str → Prop
 | nil:NamesAre [] []
 | cons {x:Str} {p:Pos} {es:List Expr} {xs:List Str}:NamesAre es xs → NamesAre (.Name x p :: es) (x :: xs)
section
variable {X:Cx} {pins:List (Addr × Obj)} {σ:St} {H:Hp} {s:Shared} {scope:Scope} {x:Str} {xr:List Str} {cs:Caps}
end
section
variable {prog:Program} {w:World} {A:Around} {R:Result → Shared → Prop} {s:Shared}
end
section
variable {X:Cx}
end
end J
namespace J
open PySem PySem.Spec PyProof.Rows L2
section
variable {X:Cx}
end
section
open PySem.SeqAt PySem.MeetsSeq PySem.MeetsSeq2 PySem.MeetsSeq3
end
section
variable {X:Cx}
end
end J
namespace J
open PySem PySem.Spec PyProof.Rows L2
section
variable {X:Cx}
inductive JEs (X:Cx):List Expr → List GE → Prop
 | nil:JEs X [] []
 | cons {e:Expr} {g:GE} {es:List Expr} {gs:List GE}:JE X e g → JEs X es gs → JEs X (e :: es) (g :: gs)
end
section
variable {X:Cx}
def gDcGet (kvs:Dc) (gk gx:GE):GE:=fun ρ st => (gk ρ st).bind fun k st1 => (gx ρ st1).bind fun x st2 => match k with
 | .str z => .ok ((kvs.lookup z).getD x) st2
 | _ => .bad
theorem je_dcGet {e f:Expr} {gk gx:GE} {x:Str} {p apos cpos:Pos} {kvs:Dc} (he:JE X e gk) (hf:JE X f gx) (M:M2 X (.Name x p) "get" apos e f cpos) (hg:Gl X x) (hd:(x == ("__debug__":Str)) = false) (D:DcAt X.K X.w X.mg x kvs):JE X (.Call (.Attribute (.Name x p) "get" apos) [e,f] [] cpos) (gDcGet kvs gk gx):=by
 intro ρ st σ H m Q S R pp pins s I
 obtain ⟨a,es,ep,g1,g2,g3,g4,g5⟩:=D
 have k1:=he.go (T:=fun y H2 => ∃ k st1 m1,PostE X σ m H ((gx ρ st1).bind fun x st2 => match k with | .str z => .ok ((kvs.lookup z).getD x) st2 | _ => .bad) Q ∧ Ext X.K m H m1 H2 ∧ Sim X.K m1 st1 H2 ∧ RelW X.K m1 H2 k y) S R (PostG.bind pp) fun w st1 v m1 H1 p1 e1 S1 rw' => ⟨w,st1,m1,p1,e1,S1,rw'⟩
 refine wpAny_Call_method M.base M.few M.line PySem.F.plainAttrs_dict PySem.F.slot_dict_get PySem.F.type_dict_get (thn (pe_glob (v:=.ref a) hg g1 rfl hd pins s σ H (fun v H2 => v = .ref a ∧ H2 = H) I ⟨rfl,rfl⟩) fun u s1 ⟨v,H1,I1,rv,ev,eH⟩ => ?_)
 subst ev
 cases eH
 obtain rfl:u = Value.ref a:=rv
 refine ⟨⟨_,I1.kIn _ _ g2,rfl⟩,fun a' e => by cases e; exact ⟨_,I1.kIn _ _ g2,rfl⟩,?_⟩
 rw [M.trees]
 refine Calls.callWith_builtin rfl (Calls.evalArgs_plain (Calls.spliced_cons (thn (k1 pins s1 I1) fun iv s2 ⟨y,H2,I2,ry,k,st1,m1,p1,e1,S1,rk⟩ => ?_)))
 have k2:=hf.go (T:=fun z H3 => ∃ x' st2 m2,PostE X σ m H (match k with | .str z => .ok ((kvs.lookup z).getD x') st2 | _ => .bad) Q ∧ Ext X.K m H m2 H3 ∧ Sim X.K m2 st2 H3 ∧ RelW X.K m2 H3 x' z) S1 (R.mono e1) ((PostG.bind p1).imp e1 fun _ _ q => q) fun w st2 v m2 H3 p2 e2 S2 rw' => ⟨w,st2,m2,p2,e1.trans e2,S2,rw'⟩
 refine Calls.spliced_cons (thn (k2 pins s2 I2) fun fv s3 ⟨z,H3,I3,rz,x',st2,m2,p2,e2,S2,rx⟩ => Calls.spliced_nil ?_)
 cases k with
 | str zs =>
  obtain ⟨rfl,_⟩:=relStr rk
  obtain ⟨t,rfl⟩:=(show ∃ t,iv = Value.str zs t from ry)
  obtain ⟨vs,dd,look⟩:=dc_dict (P:=X.prog) (w:=X.w) I3.kIn g2 g4 g5
  refine call_meetsIn PySem.F.slot_dict_get dd.typeIs PySem.F.entry_dict_get (PySem.F.args_dict_get_3 _ _ _) (meets_dict_get_default (PySem.strKind X.prog X.w) a (strKind_is X.prog X.w zs t) g3 fv) ⟨_,dd.mapOf,?_⟩
  have p2':okE X.K m H Q ((kvs.lookup zs).getD x') st2:=p2
  cases e:kvs.lookup zs with
  | none =>
   rw [e] at p2'
   have q:=(look zs).1 e
   show EP X pins σ Q ((valueAt vs zs).getD fv) _
   rw [q]
   exact ⟨z,H3,I3.tok _,rz,p2' z m2 H3 e2 S2 rx⟩
  | some u =>
   rw [e] at p2'
   obtain ⟨u',q1,q2⟩:=(look zs).2 u e
   show EP X pins σ Q ((valueAt vs zs).getD fv) _
   rw [q1]
   cases u with
   | int i => exact ⟨.int i,H3,I3.tok _,q2,p2' _ m2 H3 e2 S2 (by unfold RelW; rfl)⟩
   | str y => exact ⟨.str y,H3,I3.tok _,q2.1,p2' _ m2 H3 e2 S2 (by unfold RelW; exact ⟨rfl,q2.2⟩)⟩
   | _ => exact False.elim q2
 | _ => exact False.elim p2
end
section
variable {X:Cx}
theorem op_mulS1:OpR X (binaryOp .Mult) (fun x y H Q => ∃ z n,x = .str z ∧ y = .int n ∧ (n = 0 ∨ n = 1) ∧ Q (.str (if n = 0 then PySem.Str.empty else z)) H):=by
 intro pins s σ H x y v u Q I rx ry h
 obtain ⟨z,n,rfl,rfl,hn,q⟩:=h
 obtain ⟨t,rfl⟩:=rx
 obtain ⟨t',rfl⟩:=ry
 rcases hn with rfl | rfl
 ·exact PySem.P.mul_str_none (by omega) (by omega) ⟨.str PySem.Str.empty,H,I.tok _,⟨_,rfl⟩,q⟩
 ·refine PySem.P.mul_str (by decide) (fun _ h => by cases h) (fun _ h => by cases h) ?_
  rw [if_neg (by omega),if_pos (by rfl)]
  exact ⟨.str z,H,I,⟨t,rfl⟩,q⟩
noncomputable def oMulL:Op2:=fun x y st => match x,y with
 | .str z,.int n => if n = 0 ∨ n = 1 then .ok (.str (if n = 0 then PySem.Str.empty else z)) st else oMulL0 (.str z) (.int n) st
 | x,y => oMulL0 x y st
theorem ow_mulL1:OpW X (binaryOp .Mult) oMulL:=by
 obtain ⟨r,h1,h2⟩:=ow_mulL (X:=X)
 refine ⟨_,OpR.or op_mulS1 h1,fun x y a b st H m Q S rx ry p => ?_⟩
 cases x with
 | str z =>
  cases y with
  | int n =>
   have p':PostO X.K m H (if n = 0 ∨ n = 1 then .ok (.str (if n = 0 then PySem.Str.empty else z)) st else oMulL0 (.str z) (.int n) st) Q:=p
   by_cases c:n = 0 ∨ n = 1
   ·rw [if_pos c] at p'
    obtain ⟨rfl,ok⟩:=relStr rx
    refine .inl ⟨z,n,rfl,relInt ry,c,p' _ m H Ext.refl S (mkStr ?_)⟩
    by_cases c0:n = 0
    ·rw [if_pos c0]; decide +kernel
    ·rw [if_neg c0]; exact ok
   ·rw [if_neg c] at p'
    exact .inr (h2 _ _ _ _ st H m Q S rx ry p')
  | _ => exact .inr (h2 _ _ _ _ st H m Q S rx ry p)
 | _ => exact .inr (h2 _ _ _ _ st H m Q S rx ry p)
end
end J
namespace J
open PySem PySem.Spec PyProof.Rows L2
abbrev LF:=List Wv → List Wv → Hs → Re Wv
section
variable {X:Cx} {pins:List (Addr × Obj)} {σ:St} {H:Hp} {s:Shared}
end
def spL (K:PySem.W.Frag) (n:Nat) (p:Lm) (L:LF):Sp:=fun vs H Q E => ∃ m st ws caps,Sim K m st H ∧ RelWs K m H ws vs ∧ RelWs K m H caps p.xs ∧ H p.c = some (.ext (CodeX p.c p.q)) ∧ ws.length = n ∧ PostF K m H (L caps ws st) Q E
def HasL (P:Program) (w:World) (K:PySem.W.Frag) (mg:Str → Option Value) (base:Heap) (k:Nat) (p:Lm) (n:Nat) (L:LF):Prop :=
 ∃ fd ps ob,FnOk P w K mg base (CXJ P w) k p.a fd ps (spL K n p L) ∧ base.get? p.a = some ob ∧ ob.data = .func fd ∧ Binds K fd ps []
open Classical in
section
variable {X:Cx}
end
def freeOf (sc:Scope):List Str:=(sc.names.filter fun p => decide (p.2 = .free)).map (·.1)
structure LamSc (sc:Scope) (x1 x2 x3 y:Str):Prop where
 kind:sc.kind = .function
 co:sc.isCoroutine = false
 gen:sc.isGenerator = false
 nocell:∀ p ∈ sc.names,p.2 ≠ .cell
 p1:sc.names.lookup x1 = some .local
 p2:sc.names.lookup x2 = some .local
 p3:sc.names.lookup x3 = some .local
 fr:freeOf sc = [y]
 fy:sc.names.lookup y = some .free
 nd:[x1,x2,x3,y].Nodup
end J
namespace J
open PySem PySem.Spec PyProof.Rows L2
section
variable {P:Program} {w:World} {K:PySem.W.Frag} {mg:Str → Option Value} {base:Heap} {p:Lm} {scope:Scope} {x1 x2 x3 y:Str} {cy:Addr}
theorem rel3 {m:Mp} {H:Hp} {ws:List Wv} {vs:List V} (r:RelWs K m H ws vs) (h:ws.length = 3):∃ w1 w2 w3 v1 v2 v3,ws = [w1,w2,w3] ∧ vs = [v1,v2,v3] ∧ RelW K m H w1 v1 ∧ RelW K m H w2 v2 ∧ RelW K m H w3 v3:=by
 match ws,h with
 | [w1,w2,w3],_ =>
  unfold RelWs at r
  obtain ⟨v1,t1,rfl,r1,r⟩:=r
  unfold RelWs at r
  obtain ⟨v2,t2,rfl,r2,r⟩:=r
  unfold RelWs at r
  obtain ⟨v3,t3,rfl,r3,r⟩:=r
  unfold RelWs at r
  subst r
  exact ⟨w1,w2,w3,v1,v2,v3,rfl,rfl,r1,r2,r3⟩
end
end J
namespace J
open PySem PySem.Spec PyProof.Rows L2
structure LamAt (X:Cx) (q:Str) (P:Addr):Prop where
 code:∃ c,X.env.code = .ref c ∧ PySem.W.CodeHd X.base c P
 qual:X.env.qual = q ++ ".<locals>."
 tab:tabFree X.K q = some P
 mem:q ∈ lamDefs
 uniq:∀ q',q' ∈ lamDefs → tabFree X.K q' = some P → q' = q
 bm:∃ bm ob,X.mg "__builtins__" = some (.ref bm) ∧ bm ≠ builtinsNs ∧ bm ≠ mainGlobals ∧ X.base.get? bm = some ob ∧ ob.cls = .type "module" ∧ ob.dict = some builtinsNs ∧ ob.data = .plain
section
variable {X:Cx} {pins:List (Addr × Obj)} {σ:St} {H:Hp} {s:Shared} {q:Str} {P:Addr}
end
end J
namespace J
open PySem PySem.Spec PyProof.Rows L2
abbrev FLt:=Lm → LF → List Wv → Hs → Re Wv
def BmOk (mg:Str → Option Value) (base:Heap):Prop:=∃ bm ob,mg "__builtins__" = some (.ref bm) ∧ bm ≠ builtinsNs ∧ bm ≠ mainGlobals ∧ base.get? bm = some ob ∧ ob.cls = .type "module" ∧ ob.dict = some builtinsNs ∧ ob.data = .plain
def ModB (K:PySem.W.Frag) (mg:Str → Option Value) (base:Heap):Prop:=Mod K mg base ∧ BmOk mg base
def FnL (P:Program) (w:World) (K:PySem.W.Frag) (mg:Str → Option Value) (k j:Nat) (x:Str) (FL:FLt):Prop :=
 (∃ f,mg x = some (.ref f) ∧ PySem.W.keepIn K (.ref f) = true) ∧ ∀ (base:Heap) (p:Lm) (L:LF),ModB K mg base → HasL P w K mg base (j + 1) p 3 L → Has P w K mg base k x 2 (FL p L)
section
variable {X:Cx}
end
end J
namespace J
open PySem PySem.Spec PyProof.Rows L2
section
variable {P:Program} {w:World} {A:Around} {E:Value → Shared → Prop} {s:Shared}
structure Zd (z T O j1 j2 j3 t1 t2 t3:Addr):Prop where
 nd:[z,T,O,j1,j2,j3].Nodup
 a1:t1 ∉ [z,O,j1,j2,j3]
 a2:t2 ∉ [z,O,j1,j2,j3]
 a3:t3 ∉ [z,O,j1,j2,j3]
end
end J
namespace J
open PySem PySem.Spec PyProof.Rows L2
theorem oi_4 (a b c d:Value):argsOk "object.__init__" ⟨[a,b,c,d],[]⟩:=by
 unfold argsOk; rw [signature?_of (id:="object.__init__") (n:=['_','_','t','i','n','i','_','_']) (o:=['t','c','e','j','b','o']) (by kernel_rfl) F.owner_object]; kernel_rfl
abbrev zA (h:Heap) (t1:Addr):Heap:=h.push { cls:=.type "tuple_iterator",data:=.fields #[.ref t1,.int 0 0] }
abbrev zB (h:Heap) (t1 t2:Addr):Heap:=zA (zA h t1) t2
abbrev zC (h:Heap) (t1 t2 t3:Addr):Heap:=zA (zB h t1 t2) t3
abbrev zD (h:Heap) (t1 t2 t3:Addr):Heap:=(zC h t1 t2 t3).push { cls:=.type "tuple",data:=.seq #[.ref h.objs.size,.ref (zA h t1).objs.size,.ref (zB h t1 t2).objs.size] }
section
variable {P:Program} {w:World} {A:Around} {E:Value → Shared → Prop} {s:Shared}
end
section
variable {P:Program} {w:World} {A:Around} {E:Value → Shared → Prop} {s:Shared}
end
end J
namespace J
open PySem PySem.Spec PyProof.Rows L2
section
variable {X:Cx}
end
end J
namespace J
open PySem PySem.Spec PyProof.Rows L2
def Itq (lo c:Int) (n:Nat):It:=⟨fun i _ => i < n,fun i H v H' => H' = H ∧ v = .int (lo + i * c),fun i _ => n ≤ i⟩
theorem turn_rangeS {P:Program} {w:World} {K:PySem.W.Frag} {tg:Expr} (it:Addr) (lo c:Int) (n:Nat):Turn P w K tg (Itq lo c n) [it] it (fun i h => IsRangeIter h it (lo + (i:Nat) * c) ((n:Int) - (i:Nat)) c) where
 mem:=by simp
 obj:=fun i h st b hb => by
  have e:b = it:=by simpa using hb
  subst e
  exact ⟨_,st,fun v z => by cases z⟩
 keep:=fun i h h' st k => k it (by simp) _ st
 item:=by
  intro X hP hw hK hc i pins s σ H E I hf st hg
  subst hP hw hK
  obtain ⟨f0,f1,f2,f3,f4,f5⟩:=hf it (by simp)
  have W:=Walks.range (prog:=X.prog) (w:=X.w) (I.ok.hd hc) it lo c n
  refine W.item i s _ _ hg st fun v h' tk hv st' kk => ?_
  obtain ⟨t,rfl⟩:=hv
  have I1:Inv X pins σ H { s with heap:=h',toks:=tk }:=I.turned (fun b o hb e => kk b o (by simpa using hb) e) f0 f1 f3 f4 f5
  exact ⟨_,rfl,go_of (s:={ s with heap:=h',toks:=tk }) (n:="range_iterator") st' rfl rfl (by decide) ⟨.int (lo + i * c),H,I1,⟨t,rfl⟩,⟨rfl,rfl⟩,st',fun b hb => (hf b hb).1⟩⟩
 done:=by
  intro X hP hw hK hc i pins s σ H E I hf st hg
  subst hP hw hK
  obtain ⟨f0,f1,f2,f3,f4,f5⟩:=hf it (by simp)
  exact wpAny_pyNext_range_end (I.ok.hd hc) st (by have:n ≤ i:=hg; omega) fun h' eb => ⟨rfl,I.turned (t':=s.toks) (fun b o hb e => eb b o hb e) f0 f1 f3 f4 f5⟩
 self:=fun _ _ _ _ _ st h => wpAny_pyIter_rangeiter st h
theorem tc_range3 (a b c:Value):checkTypeCall "range" ⟨[a,b,c],[]⟩ = pure ():=by kernel_rfl
theorem nc_range3 (a b c:Value):checkBuiltinCall "range.__new__" ⟨[.type "range",a,b,c],[]⟩ = pure ():=by kernel_rfl
def CRs (a b c:Int):Prop:=0 ≤ a ∧ a < 2 ^ 30 ∧ 0 ≤ b ∧ b < 2 ^ 30 ∧ 1 ≤ c ∧ c < 2 ^ 30
noncomputable instance {a b c}:Decidable (CRs a b c):=Classical.propDecidable _
def stepN (a b c:Int):Nat:=(if a < b then (b - a - 1) / c + 1 else 0).toNat
theorem size_step {a b c:Int} (h:CRs a b c):Builtin.Range.rangeSize a b c = stepN a b c:=by
 obtain ⟨h1,h2,h3,h4,h5,h6⟩:=h
 unfold Builtin.Range.rangeSize stepN
 rw [if_pos (by omega)]
 by_cases e:a < b
 ·rw [if_pos e]
  have:0 ≤ (b - a - 1) / c:=Int.ediv_nonneg (by omega) (by omega)
  omega
 ·rw [if_neg e]; rfl
theorem small_step {a b c:Int} (h:CRs a b c):Builtin.Range.small a b c = true:=by
 obtain ⟨h1,h2,h3,h4,h5,h6⟩:=h
 unfold Builtin.Range.small Builtin.Range.rangeSize
 have d1:0 ≤ (b - a - 1) / c ∨ ¬ a < b:=by
  by_cases e:a < b
  ·exact .inl (Int.ediv_nonneg (by omega) (by omega))
  ·exact .inr e
 have d2:a < b → (b - a - 1) / c ≤ b - a - 1:=fun e => Int.ediv_le_self _ (by omega)
 simp only [Builtin.Range.rangeFitsLong,Bool.and_eq_true,Bool.or_eq_true,decide_eq_true_eq,beq_iff_eq,show c > 0 by omega,if_true]
 split <;> omega
theorem nodiv {a b c:Int} (h:CRs a b c):Builtin.divisionGoesByPylong (b - a) c = false:=by
 obtain ⟨h1,h2,h3,h4,h5,h6⟩:=h
 have e0:(c == 0) = false:=by rw [beq_eq_false_iff_ne]; omega
 have e1:c.natAbs.log2 < 30:=(Nat.log2_lt (by omega)).mpr (by omega)
 have e2:c.natAbs.log2 / 30 = 0:=Nat.div_eq_of_lt e1
 simp [Builtin.divisionGoesByPylong,e0,e2]
theorem call_range3 {P:Program} {w:World} {A:Around} {E:Value → Shared → Prop} {s:Shared} {a b c:Int} {t u v:Tok} {Q:Value → Shared → Prop} (h:CRs a b c)
  (k:Q (.ref s.heap.objs.size) { s with heap:=s.heap.push { cls:=.type "range",data:=.fields #[.int a t,.int b u,.int c v] } }):wpAny (model P w) A (call (.type "range") [.int a t,.int b u,.int c v]) Q E s:=by
 refine callType_new F.called_range (by decide) (tc_range3 _ _ _) (nc_range3 _ _ _) (fun obj => oi_4 obj _ _ _) F.entry_range_new (AutoRange.range___new___type_int_int_int_1 a b c t u v F.called_range.sub ?_) ⟨nodiv h,⟨_,Heap.get?_push_size _ rfl,rfl⟩,k⟩
 have:c ≠ 0:=by have:=h.2.2.2.2.1; omega
 simpa using this
section
variable {X:Cx} {tg:Expr}
def iRng3 (ta:TA):TI:=fun σ H R => ta σ H fun vs H1 => ∃ a b c:Int,vs = [.int a,.int b,.int c] ∧ CRs a b c ∧ R (Itq a c (stepN a b c)) H1
theorem ints3 {a b c:Int} {us:List Value} (r:Vals [.int a,.int b,.int c] us):∃ t u v,us = [.int a t,.int b u,.int c v]:=by
 cases r with
 | cons r1 r =>
  cases r with
  | cons r2 r =>
   cases r with
   | cons r3 r =>
    cases r
    obtain ⟨t,rfl⟩:=r1
    obtain ⟨u,rfl⟩:=r2
    obtain ⟨v,rfl⟩:=r3
    exact ⟨t,u,v,rfl⟩
theorem pi_range3 {l:Expr} {ls:List Expr} {ta:TA} {p pos:Pos} (hg:Gl X "range") (hm:X.mg "range" = none) (ha:PA X (l :: ls) ta) (hst:starEach (l :: ls) X.env = (false,eval l X.env) :: starEach ls X.env) (hpl:(backTo pos (starEach ls X.env)).any (·.1) = false) :
  PI X tg (.Call (.Name "range" p) (l :: ls) [] pos) (iRng3 ta):=by
 intro pins s σ H R I h
 refine wpAny_Call_Name_kw (ld_blt I hg hm boot_range ?_)
 refine PyProof.Rows.callWith_type1 (thn (ha pos pins s σ H _ I h) fun us s1 ⟨vs,H1,I1,r1,q1⟩ => ?_) hst hpl
 obtain ⟨a,b,c,rfl,hc,q⟩:=q1
 obtain ⟨t,u,v,rfl⟩:=ints3 r1
 refine call_range3 hc ?_
 refine wpAny_pyIter_range (IsRange.new ..) (small_step hc) ?_
 have I2:Inv X pins σ H1 { s1 with heap:=s1.heap.push { cls:=.type "range",data:=.fields #[.int a t,.int b u,.int c v] } }:=I1.kept (t':=s1.toks) fun b o e => Heap.get?_push_of_some _ e
 refine ⟨(s1.heap.push { cls:=.type "range",data:=.fields #[.int a t,.int b u,.int c v] }).objs.size,[(s1.heap.push { cls:=.type "range",data:=.fields #[.int a t,.int b u,.int c v] }).objs.size],_,_,H1,rfl,I2.kept (t':=s1.toks) fun b o e => Heap.get?_push_of_some _ e,turn_rangeS _ a c (stepN a b c),?_,fun y hy => ?_,q⟩
 ·have e1:a + ((0:Nat):Int) * c = a:=by simp
  have e2:((stepN a b c:Nat):Int) - ((0:Nat):Int) = Builtin.Range.rangeSize a b c:=by rw [size_step hc]; simp
  show IsRangeIter _ _ (a + ((0:Nat):Int) * c) (((stepN a b c:Nat):Int) - ((0:Nat):Int)) c
  rw [e1,e2]
  exact Heap.get?_push_size _ rfl
 ·have e:y = (s1.heap.push { cls:=.type "range",data:=.fields #[.int a t,.int b u,.int c v] }).objs.size:=by simpa using hy
  subst e
  exact I2.fpOk (Nat.le_refl _) (I2.hok.fresh (Nat.le_refl _))
def rngS (lo c:Int) (n:Nat):List Wv:=(List.range n).map fun k:Nat => Wv.int (lo + k * c)
theorem rngS_len {lo c:Int} {n:Nat}:(rngS lo c n).length = n:=by unfold rngS; simp
theorem rngS_get? {lo c:Int} {n k:Nat} (h:k < n):(rngS lo c n)[k]? = some (.int (lo + k * c)):=by
 unfold rngS
 rw [List.getElem?_map,List.getElem?_range h]
 rfl
theorem rngS_get {lo c:Int} {n k:Nat} (h:k < (rngS lo c n).length):(rngS lo c n)[k] = .int (lo + k * c):=by
 have q:=rngS_get? (lo:=lo) (c:=c) (n:=n) (k:=k) (by rw [rngS_len] at h; exact h)
 rw [List.getElem?_eq_getElem h] at q
 exact Option.some.inj q
noncomputable def gForR3 (i:Nat) (ga:GA) (gb:GS):GS:=fun ρ st => (ga ρ st).thn ρ fun ws st1 => match ws with
 | [.int a,.int b,.int c] => if CRs a b c then forT i gb (rngS a c (stepN a b c)) ρ st1 else .bad
 | _ => .bad
theorem js_forR3 (i:Nat) {x:Str} {l:Expr} {ls:List Expr} {body:List Stmt} {ga:GA} {gb:GS} {pos pos' p q:Pos} (hN:X.N.Nodup) (hp:PassesOwn (model X.prog X.w) X.A X.env X.xe) (hc:X.calm = true) (hg:Gl X "range") (hm:X.mg "range" = none) (ha:JA X (l :: ls) ga) (hb:JSs X body gb)
  (hx:X.N[i]? = some x) (hlo:Loc X.env.scope x) (hlf:X.fn x = true ∨ X.env.scope.names.lookup x = some .local) (hst:starEach (l :: ls) X.env = (false,eval l X.env) :: starEach ls X.env) (hpl:(backTo q (starEach ls X.env)).any (·.1) = false) :
  JS X (.For (.Name x pos') (.Call (.Name "range" p) (l :: ls) [] q) body [] pos) (gForR3 i ga gb):=by
 refine JS.of (ps_for hp hc (pi_range3 hg hm pa_SA hst hpl) (pg_name hN hx hlo hlf) pss_SSs (fun _ => rfl)) fun ρ st σ H m D S R p => ?_
 refine ha.go S R (PostS.of_thn R p) fun ws st1 vs m1 H1 p1 e1 S1 rs => ?_
 split at p1
 ·rename_i a b c
  by_cases cc:CRs a b c
  ·rw [if_pos cc] at p1
   obtain ⟨w1,w2,w3,v1,v2,v3,e,rfl,r1,r2,r3⟩:=rel3 rs rfl
   cases e
   cases relInt r1
   cases relInt r2
   cases relInt r3
   refine ⟨a,b,c,rfl,cc,for_core (J':=Itq a c (stepN a b c)) i hb S1 (R.mono e1) (PostS.shift p1 e1) (fun k H m' e hk => by rw [rngS_len] at hk; exact hk) (fun k H m' e hk => by rw [rngS_len] at hk; exact Nat.le_of_eq hk.symm) fun k hk H x H' m' e y => ?_⟩
   obtain ⟨y1,y2⟩:=y
   refine ⟨y1,?_⟩
   rw [rngS_get,y2]
   exact mkInt
  ·rw [if_neg cc] at p1; exact False.elim p1
 ·exact False.elim p1
end
end J
namespace J
open PySem PySem.Spec PyProof.Rows L2
section
variable {X:Cx}
end
end J
namespace J
open PySem PySem.Spec PyProof.Rows L2
def whl (gt:GT) (gb:GS):Nat → Rho → Hs → Rs
 | 0,_,_ => .bad
 | n + 1,ρ,st => (gt ρ st).thn ρ fun b st1 => if b = true then (match gb ρ st1 with
   | .nx ρ' st' => whl gt gb n ρ' st'
   | .ct ρ' st' => whl gt gb n ρ' st'
   | .bk ρ' st' => .nx ρ' st'
   | .rt w st' => .rt w st'
   | .err c ρ' st' => .err c ρ' st'
   | .bad => .bad) else .nx ρ st1
def gWhile (n:Nat) (gt:GT) (gb:GS):GS:=fun ρ st => whl gt gb n ρ st
section
variable {X:Cx}
theorem js_while (n:Nat) {c:Expr} {body:List Stmt} {gt:GT} {gb:GS} {pos:Pos} (hp:PassesOwn (model X.prog X.w) X.A X.env X.xe) (hc:JT X c gt) (hb:JSs X body gb):JS X (.While c body [] pos) (gWhile n gt gb):=by
 refine JS.of (ps_while hp pt_ST pss_SSs) fun ρ st σ H m D S R p => ?_
 refine ⟨fun k σ' H' => ∃ ρ' st' m',Ext X.K m H m' H' ∧ Sim X.K m' st' H' ∧ RelEnv X.K m' H' ρ' σ' ∧ PostS X m' H' (whl gt gb k ρ' st') D,⟨n,ρ,st,m,Ext.refl,S,R,p⟩,?_⟩
 rintro k σ1 H1 ⟨ρ1,st1,m1,e1,S1,R1,p1⟩
 cases k with
 | zero => exact False.elim p1
 | succ k =>
  refine hc.go S1 R1 (PostS.of_thn R1 p1) fun b st2 m2 H2 p2 e2 S2 => ?_
  cases b with
  | false =>
   rw [if_neg Bool.false_ne_true] at p2 ⊢
   exact p2 σ1 m2 H2 e2 S2 (R1.mono e2)
  | true =>
   rw [if_pos rfl] at p2 ⊢
   refine ⟨fun σ' H' => ∃ ρ' st' m',Ext X.K m H m' H' ∧ Sim X.K m' st' H' ∧ RelEnv X.K m' H' ρ' σ' ∧ PostS X m' H' (whl gt gb k ρ' st') D,fun σ' H' q => ⟨k,Nat.lt_succ_self k,q⟩,?_⟩
   refine hb ρ1 st2 σ1 H2 m2 _ S2 (R1.mono e2) ?_
   have e12:=e1.trans e2
   cases eg:gb ρ1 st2 with
   | nx ρ3 st3 => rw [eg] at p2; exact fun σ3 m3 H3 e3 S3 R3 => ⟨ρ3,st3,m3,e12.trans e3,S3,R3,PostS.shift p2 (e2.trans e3)⟩
   | ct ρ3 st3 => rw [eg] at p2; exact fun σ3 m3 H3 e3 S3 R3 => ⟨ρ3,st3,m3,e12.trans e3,S3,R3,PostS.shift p2 (e2.trans e3)⟩
   | bk ρ3 st3 => rw [eg] at p2; exact fun σ3 m3 H3 e3 S3 R3 => p2 σ3 m3 H3 (e2.trans e3) S3 R3
   | rt w3 st3 => rw [eg] at p2; exact PostS.shift (r:=.rt w3 st3) p2 e2
   | err c3 ρ3 st3 => rw [eg] at p2; exact fun σ' m' H' x s' e' => p2 σ' m' H' x s' (e2.trans e')
   | bad => rw [eg] at p2; exact p2
def augO:Operator → Option (Int → Int → Int)
 | .Add => some fun i j => i + j
 | .Sub => some fun i j => i - j
 | _ => none
def kAug (f:Int → Int → Int) (i:Nat) (x y:Wv) (ρ:Rho) (st:Hs):Rs:=match x,y with
 | .int a,.int b => .nx (ρ.set i (some (.int (f a b)))) st
 | _,_ => .bad
def gAug (f:Int → Int → Int) (i:Nat) (g:GE):GS:=fun ρ st => match ρ[i]? with
 | some (some x) => (g ρ st).thn ρ fun y st' => kAug f i x y ρ st'
 | _ => .bad
theorem js_aug {op:Operator} {f:Int → Int → Int} (i:Nat) {x:Str} {e:Expr} {g:GE} {pos pos':Pos} (ho:augO op = some f) (hN:X.N.Nodup) (h:JE X e g) (hi:X.N[i]? = some x) (hx:Loc X.env.scope x)
  (hf:X.fn x = true ∨ X.env.scope.names.lookup x = some .local):JS X (.AugAssign (.Name x pos') op e pos) (gAug f i g):=by
 have hip:PIp X op (ipI f):=by
  cases op <;> first | (cases ho; exact ip_add) | (cases ho; exact ip_sub) | cases ho
 refine JS.of (ps_aug hN hi hx pe_SE hip hf) fun ρ st σ H m D S R p => ?_
 unfold gAug at p
 cases q:ρ[i]? with
 | none => rw [q] at p; exact False.elim p
 | some o =>
  cases o with
  | none => rw [q] at p; exact False.elim p
  | some w =>
   rw [q] at p
   obtain ⟨v,h1,h2⟩:=R.get _ _ q
   refine ⟨v,h1,?_⟩
   refine h.go S R (PostS.of_thn R p) fun y st1 u m1 H1 p1 e1 S1 r1 => ?_
   have h2':=RelW.mono e1 _ _ h2
   cases w with
   | int a =>
    cases y with
    | int b =>
     cases relInt h2'
     cases relInt r1
     exact ⟨a,b,rfl,rfl,p1 _ m1 H1 e1 S1 ((R.mono e1).set i mkInt)⟩
    | _ => exact False.elim p1
   | _ => exact False.elim p1
def oOrd:List Wv → Hs → Re Wv
 | [.str x],st => if x.length = 1 then .ok (.int (x.cps.getD 0 0:Nat)) st else .bad
 | _,_ => .bad
theorem boot_ordJ:bootBuiltins "ord" = some (.builtin "ord"):=by decide +kernel
theorem cw_ord:CallW X (.builtin "ord") oOrd:=⟨_,call_ord,fun ws vs st H m Q S r p => by
 match ws,r,p with
 | [],r,p => exact False.elim p
 | x :: y :: t,r,p => cases x <;> exact False.elim p
 | [x],r,p =>
  obtain ⟨v,rfl,rx⟩:=rel1 r
  cases x with
  | str z =>
   have p':PostO X.K m H (if z.length = 1 then .ok (.int (z.cps.getD 0 0:Nat)) st else .bad) Q:=p
   by_cases c:z.length = 1
   ·rw [if_pos c] at p'
    obtain ⟨rfl,_⟩:=relStr rx
    exact ⟨z,rfl,c,p' _ m H Ext.refl S mkInt⟩
   ·rw [if_neg c] at p'; exact False.elim p'
  | _ => exact False.elim p⟩
end
end J
namespace J
open PySem PySem.Spec PyProof.Rows L2
theorem ext_tup (l:Addr) (items:Array Value) (n:Nat) (b:Addr) (items2:Array Value) (n2:Nat) (dd:Option Addr) (sl:Array (Option Value)) (hs0:¬(!items.isEmpty && Builtin.List.listTooLong (items.size + items2.size)) = true) (hs1:items.size ≤ sizeLine) (hs2:items.size + items2.size ≤ sizeLine + 1) :
  Meets (Builtin.«list.extend» ⟨[.ref l,.ref b],[]⟩) (fun _ R s => s.heap.get? l = some { cls:=.type "list",dict:=none,data:=.seq items n,slots:=#[] } ∧ s.heap.get? b = some ⟨.type "tuple",dd,.seq items2 n2,sl⟩ ∧ R (.ok (.ret Value.none)) { s with heap:=s.heap.update l (Obj.mapSeq fun x => x ++ items2),toks:=s.toks }) :=
 .of_wp fun prog w A R s h => by
  obtain ⟨hp,g,d,tk,os⟩:=s; obtain ⟨hl,hb,h⟩:=h; have f1:=AutoSeq1.idx_int; have f2:=AutoSeq1.sub_tuple_tuple; have f3:=AutoSeq1.sub_list_list; have f4:=AutoSeq1.sub_tuple_list; have f5:=AutoSeq1.sub_list_tuple;
  have hz':(items ++ items2).size ≤ sizeLine + 1:=by rw [Array.size_append]; exact hs2
  wp_walk using (wpAny_updateSeq hl rfl (hz:=hs1) (_hz':=hz')),wpAny_loadPart' hl,wpAny_loadPart' hb; exact ⟨_,rfl,h⟩
def rExtendT (K:PySem.W.Frag):V → List V → Hp → VK → Prop:=fun x vs H Q => ∃ l b xs zs,x = .ref l ∧ vs = [.ref b] ∧ H l = some (.lst xs) ∧ SqT K H b zs ∧ xs.length + zs.length ≤ sizeLine ∧ Q .non (upd H l (.lst (xs ++ zs)))
section
variable {X:Cx}
theorem mt_extendT:MtM X "list.extend" (rExtendT X.K):=by
 intro pins s σ H x vs v us Q I rx rv h
 obtain ⟨l,b,xs,zs,rfl,rfl,hH,hB,hz,q⟩:=h
 cases rx
 obtain ⟨u,rfl,ru⟩:=rv.one
 cases ru
 obtain ⟨z,its,n,r,hl,e⟩:=I.lstM hH
 obtain ⟨its2,r2,⟨o,e2,oc,n2,od⟩,z2⟩:=I.tuple hB
 obtain ⟨oc',dd,od',sl⟩:=o
 dsimp only at oc od
 subst oc od
 have l1:xs.length = its.length:=r.length
 have l2:zs.length = its2.length:=r2.length
 have hsz:its.toArray.size + its2.toArray.size ≤ sizeLine:=by rw [List.size_toArray,List.size_toArray]; omega
 have hlong:¬ (!its.toArray.isEmpty && Builtin.List.listTooLong (its.toArray.size + its2.toArray.size)) = true:=by
  rw [notLongL hsz,Bool.and_false]
  exact Bool.false_ne_true
 refine call_meets F.slot_list_extend ⟨_,e,rfl⟩ F.entry_list_extend (F.args_list_extend_2 _ _)
  (ext_tup l its.toArray n b its2.toArray n2 dd sl hlong (by rw [List.size_toArray]; omega) (by omega)) ⟨e,e2,?_⟩
 refine ⟨.non,_,I.lset (its':=its ++ its2) hH e (by simp) (r.append r2) ?_,rfl,q⟩
 rw [List.length_append]
 omega
def mExtT (o v:Wv) (st:Hs):Re Wv:=match v with
 | .tup zs => (match o with
  | .ref l => (match st[l]? with
   | some (.lst ws) => if ws.length + zs.length ≤ lim then .ok .non (st.set l (.lst (ws ++ zs))) else .bad
   | _ => .bad)
  | _ => .bad)
 | v => mExt o v st
theorem mw_extT:MtW X "list.extend" mExtT:=by
 obtain ⟨r0,m0,h0⟩:=mw_ext (X:=X)
 refine ⟨fun x vs H Q => r0 x vs H Q ∨ rExtendT X.K x vs H Q,?_,fun o w x v st H m Q S ro rw' p => ?_⟩
 ·intro pins s σ H x vs v us Q I rx rv h
  rcases h with h | h
  ·exact m0 pins s σ H x vs v us Q I rx rv h
  ·exact mt_extendT pins s σ H x vs v us Q I rx rv h
 ·cases w with
  | tup zs =>
   refine .inr ?_
   cases o with
   | ref l =>
    unfold RelW at ro rw'
    obtain ⟨a,rfl,ha⟩:=ro
    obtain ⟨b,ys,rfl,hb,g2⟩:=rw'
    have p':PostO X.K m H (match st[l]? with | some (.lst ws) => if ws.length + zs.length ≤ lim then .ok .non (st.set l (.lst (ws ++ zs))) else .bad | _ => .bad) Q:=p
    cases e:st[l]? with
    | none => rw [e] at p'; exact False.elim p'
    | some ob =>
     cases ob with
     | dct kvs => rw [e] at p'; exact False.elim p'
     | dcT kvs => rw [e] at p'; exact False.elim p'
     | dcF kvs => rw [e] at p'; exact False.elim p'
     | scr ns => rw [e] at p'; exact False.elim p'
     | lst ws =>
      rw [e] at p'
      dsimp only at p'
      by_cases c:ws.length + zs.length ≤ lim
      ·rw [if_pos c] at p'
       obtain ⟨xs,h1,h2⟩:=S.lstAt ha e
       have e4:Ext X.K m H m (upd H a (.lst (xs ++ ys))):=Ext.upd (.inr ⟨xs,h1⟩)
       exact ⟨a,b,xs,ys,rfl,rfl,h1,SqT.of hb,by rw [← h2.length,← g2.length]; exact lim_le c,p' _ m _ e4 (S.write ha e (h2.append g2)) mkNon⟩
      ·rw [if_neg c] at p'; exact False.elim p'
   | _ => exact False.elim p
  | _ => exact .inl (h0 o _ x v st H m Q S ro rw' p)
end
section
variable {X:Cx}
end
end J
namespace J
open PySem PySem.Spec PyProof.Rows L2
section
variable {prog:Program} {w:World} {A:Around} {E:Value → Shared → Prop} {s:Shared}
end
section
variable {X:Cx} {tg:Expr}
end
section
variable {X:Cx} {a b c d:Expr} {pos:Pos}
end
end J
namespace J
open PySem PySem.Spec PyProof.Rows L2
def putsT (p:Addr):List (V × V) → Hp → (Hp → Prop) → Prop
 | [],H,Q => Q H
 | (x,y) :: r,H,Q => ∃ H',DPut H p x y H' ∧ putsT p r H' Q
section
variable {X:Cx} {pins:List (Addr × Obj)} {σ:St} {E:Value → Shared → Prop} {p:Addr}
theorem dset_ok {H H':Hp} {s:Shared} {x y:V} {u r:Value} {Q:Unit → Shared → Prop} (hu:X.A.units + 1 < cLine) (I:Inv X pins σ H s) (g:DPut H p x y H') (ru:RelV x u) (rv:RelV y r) (k:∀ s',Inv X pins σ H' s' → Q () s'):wpAny (model X.prog X.w) X.A (dictSet p u r) Q E s:=by
 rcases g with ⟨kvs,kk,e,ey,l,eH⟩ | ⟨kvs,kk,b,e,ey,eb,l,eH⟩
 ·subst ey eH
  obtain ⟨z,hd,vs,rel,dd⟩:=dk_of I.hok e
  have hl:(putK kvs kk y).length ≤ sizeLine:=by have:=length_putK kvs kk y; omega
  refine wpAny_dictSet_pairs (hsz:=by rw [← rel.length]; exact z) (kV_is ru) dd fun h' dd' hs => k _ ?_
  exact d_write I (by rw [e]; exact True.intro) hs (let ⟨q,_,_,hq,_⟩:=dd'; ⟨q,hq⟩) (dk_new hl hd (rel.put kk rv) dd')
 ·subst ey eH
  cases (show u = Value.ref b from ru)
  obtain ⟨z,hd,xs,rel,dd⟩:=dt_of I.hok e
  have hl:(putK kvs kk y).length ≤ sizeLine:=by have:=length_putK kvs kk y; omega
  refine wpAny_dictSet_heap (knd:=tupleKind (mixKind X.prog X.w)) (hsz:=by rw [← Paired.length rel]; exact z) (show X.A.units < cLine by omega) (key_of I.hok eb) dd fun h' dd' hs => k _ ?_
  obtain ⟨q,es,ep,hq,h2,h3,h4,_,h5⟩:=dd'
  refine d_write I (by rw [e]; exact True.intro) hs ⟨q,hq⟩ ⟨hl,hd,_,(rel.put kk eb rv).keeps fun c ys ec => ?_,q,es,ep,hq,h2,h3,h4,h5⟩
  rw [upd_ne (ne_of ec e (fun z => nomatch z))]
  exact ec
theorem puts_ok {Q:PUnit → Shared → Prop} (hu:X.A.units + 1 < cLine):∀ {ps:List (V × V)} {vs:List (Value × Value)} {H:Hp} {s:Shared} {T:Hp → Prop},VV ps vs → Inv X pins σ H s → putsT p ps H T → (∀ s' H',Inv X pins σ H' s' → T H' → Q PUnit.unit s') →
  wpAny (model X.prog X.w) X.A (forIn vs PUnit.unit fun (x:Value × Value) (_:PUnit) => (do dictSet p x.1 x.2; pure (ForInStep.yield PUnit.unit):Sem (ForInStep PUnit))) Q E s
 | _,_,H,s,T,.nil,I,t,k => by rw [List.forIn_nil]; exact wpAny_pure (k s H I t)
 | _,_,H,s,T,.cons (a:=a) (b:=b) h r,I,t,k => by
  obtain ⟨x,y⟩:=a
  obtain ⟨u,v⟩:=b
  obtain ⟨H',g,t⟩:=t
  rw [List.forIn_cons]
  exact wpAny_bind (wpAny_bind (dset_ok hu I g h.1 h.2 fun s1 I1 => wpAny_pure (puts_ok hu r I1 t k)))
end
section
variable {X:Cx} {pos:Pos}
def tDispT (trs:List (TE × TE)):TE:=fun σ H Q => ∀ p,H p = none → tPairs trs σ (upd H p (.dT [])) fun ps H2 => putsT p ps H2 (Q (.ref p))
theorem pe_dispT {ks:List (Option Expr)} {vs:List Expr} {trs:List (TE × TE)} (hu:X.A.units + 1 < cLine) (h:PPs X pos ks vs trs) (ha:ks.all (·.isSome) = true) (hl:ks.length = vs.length) (h0:ks ≠ []) (h15:ks.length ≤ 15):PE X (.Dict ks vs pos) (tDispT trs):=by
 intro pins s σ H Q I q
 have I1:=I.laid (a:=s.heap.objs.size) (o:=.dT []) (h':=s.heap.push { cls:=.type "dict",data:=.dict #[] }) (t':=s.toks) (fun _ _ q => Heap.get?_push_of_some _ q) (Nat.le_refl _) (dt_empty s.heap I.big)
 have hn:=pairTrees_length ks vs X.env pos ha hl
 have go:=h pins _ σ _ _ I1 (q _ (I.hok.fresh (Nat.le_refl _)))
 have ne:pairTrees ks vs X.env pos ≠ []:=fun z => by
  rw [z] at hn
  exact h0 (List.length_eq_zero_iff.mp hn.symm)
 rw [arm_eval_Dict,zip_pairTrees ks vs X.env pos ha hl,dictDisplay_pairs _ ne (by omega)]
 refine wpAny_bind (wpAny_standAt (wpAny_bind ?_))
 unfold subDict
 refine wpAny_bind (wpAny_alloc (wpAny_bind (wpAny_holding ?_)))
 rw [if_pos (by omega)]
 refine wpAny_bind (thn go fun ws s2 ⟨ps,H2,I2,rel,t⟩ => wpAny_holding ?_)
 refine wpAny_bind (puts_ok hu rel I2 t fun s3 H3 I3 q3 => wpAny_pure (wpAny_pure (wpAny_pure ⟨.ref s.heap.objs.size,H3,I3,rfl,q3⟩)))
def pairsV:List (GE × GE) → Rho → Hs → Re (List (Wv × Wv))
 | [] => fun _ st => .ok [] st
 | (gk,gv) :: r => fun ρ st => (gk ρ st).bind fun k st1 => (gv ρ st1).bind fun v st2 => (pairsV r ρ st2).bind fun l st3 => .ok ((k,v) :: l) st3
def putsW (d:Wv):List (Wv × Wv) → Hs → Option Hs
 | [],st => some st
 | (k,v) :: r,st => (match putD d k v st with | some st1 => putsW d r st1 | none => none)
def gDispT (gs:List (GE × GE)):GE:=fun ρ st => (pairsV gs ρ (st ++ [.dcT []])).bind fun kvs st2 => match putsW (.ref st.length) kvs st2 with
 | some st3 => .ok (.ref st.length) st3
 | none => .bad
abbrev RelVV (K:PySem.W.Frag) (m:Mp) (H:Hp):List (Wv × Wv) → List (V × V) → Prop:=Paired fun p q => RelW K m H p.1 q.1 ∧ RelW K m H p.2 q.2
theorem RelVV.mono {K:PySem.W.Frag} {m m1:Mp} {H H1:Hp} (e:Ext K m H m1 H1):∀ {a:List (Wv × Wv)} {b:List (V × V)},RelVV K m H a b → RelVV K m1 H1 a b
 | _,_,.nil => .nil
 | _,_,.cons h t => .cons ⟨RelW.mono e _ _ h.1,RelW.mono e _ _ h.2⟩ (RelVV.mono e t)
theorem jps_readV {ks:List (Option Expr)} {vs:List Expr} {gs:List (GE × GE)} (h:JPs X pos ks vs gs):∀ {ρ:Rho} {st:Hs} {σ:St} {H:Hp} {m:Mp} {ok:List (Wv × Wv) → Hs → Prop} {T:List (V × V) → Hp → Prop},Sim X.K m st H → RelEnv X.K m H ρ σ → PostG X σ m H (pairsV gs ρ st) ok →
  (∀ (kvs:List (Wv × Wv)) (st1:Hs) (xs:List (V × V)) (m1:Mp) (H1:Hp),ok kvs st1 → Ext X.K m H m1 H1 → Sim X.K m1 st1 H1 → RelVV X.K m1 H1 kvs xs → T xs H1) → tPairs (trsOf X ks vs) σ H T:=by
 induction h with
 | nil => intro ρ st σ H m ok T S R p k; exact k [] st [] m H p Ext.refl S .nil
 | cons hk hv _ ih =>
  intro ρ st σ H m ok T S R p k
  unfold pairsV at p
  refine hk.go S R (PostG.bind p) fun w st1 v m1 H1 p1 e1 S1 r1 => ?_
  refine hv.go S1 (R.mono e1) ((PostG.bind p1).imp e1 fun _ _ q => q) fun w2 st2 v2 m2 H2 p2 e2 S2 r2 => ?_
  refine ih S2 (R.mono (e1.trans e2)) ((PostG.bind p2).imp (e1.trans e2) fun _ _ q => q) fun kvs st3 xs m3 H3 p3 e3 S3 r3 => ?_
  exact k ((w,w2) :: kvs) st3 ((v,v2) :: xs) m3 H3 p3 (e1.trans (e2.trans e3)) S3 (.cons ⟨RelW.mono (e2.trans e3) _ _ r1,RelW.mono e3 _ _ r2⟩ r3)
theorem putsW_ok {d:Wv} {a:Addr}:∀ {kvs:List (Wv × Wv)} {xs:List (V × V)} {m:Mp} {st st':Hs} {H:Hp} {T:Hp → Prop},Sim X.K m st H → RelW X.K m H d (.ref a) → RelVV X.K m H kvs xs → putsW d kvs st = some st' → (∀ H',Ext X.K m H m H' → Sim X.K m st' H' → T H') → putsT a xs H T
 | _,_,m,st,st',H,T,S,rd,.nil,e,k => by cases e; exact k H Ext.refl S
 | _,_,m,st,st',H,T,S,rd,.cons (a:=p) (b:=q) h t,e,k => by
  obtain ⟨kw,vw⟩:=p
  obtain ⟨x,y⟩:=q
  unfold putsW at e
  cases e1:putD d kw vw st with
  | none => rw [e1] at e; cases e
  | some st1 =>
   rw [e1] at e
   obtain ⟨a',H',f1,f2,f3,f4⟩:=putD_ok (X:=X) S rd h.1 h.2 e1
   cases f1
   exact ⟨H',f2,putsW_ok f4 (RelW.mono f3 _ _ rd) (RelVV.mono f3 t) e fun H2 e2 S2 => k H2 (f3.trans e2) S2⟩
theorem je_dispT {ks:List (Option Expr)} {vs:List Expr} {gs:List (GE × GE)} (hu:X.A.units + 1 < cLine) (h:JPs X pos ks vs gs) (h0:ks ≠ []) (h15:ks.length ≤ 15):JE X (.Dict ks vs pos) (gDispT gs) :=
 JE.of (pe_dispT hu (jps_pps h) (jps_all h).1 (jps_all h).2.1 h0 h15) fun ρ st σ H m Q S R p => by
  intro q hq
  have ex:Ext X.K m H (m ++ [q]) (upd H q (.dT [])):=Ext.more.trans (Ext.updW (.inl hq))
  have S0:Sim X.K (m ++ [q]) (st ++ [.dcT []]) (upd H q (.dT [])):=S.allocO hq ⟨[],upd_same,RelK.nil⟩
  refine jps_readV h S0 (R.mono ex) ((PostG.bind p).imp ex fun _ _ q => q) fun kvs st2 xs m2 H2 p2 e2 S2 r2 => ?_
  have hm:m2[st.length]? = some q:=e2.pre _ _ (by rw [← S.len,List.getElem?_append_right (Nat.le_refl _),Nat.sub_self]; rfl)
  have rd:RelW X.K m2 H2 (.ref st.length) (.ref q):=by unfold RelW; exact ⟨q,rfl,hm⟩
  cases e:putsW (.ref st.length) kvs st2 with
  | none => rw [e] at p2; exact False.elim p2
  | some st3 =>
   rw [e] at p2
   exact putsW_ok S2 rd r2 e fun H3 e3 S3 => p2 (.ref q) m2 H3 (ex.trans (e2.trans e3)) S3 (RelW.mono e3 _ _ rd)
end
def getD (d k:Wv) (st:Hs):Option Wv:=match d with
 | .ref l => (match st[l]? with
  | some (.dct kvs) => (match keyOf k with | some kk => valW kvs kk | none => none)
  | some (.dcT kvs) => (match keyT k with | some kk => valW kvs kk | none => none)
  | _ => none)
 | _ => none
section
variable {X:Cx}
end
end J
namespace J
open PySem PySem.Spec PyProof.Rows L2
section
variable {X:Cx} {pins:List (Addr × Obj)} {σ:St} {H:Hp} {s:Shared} {a:Addr} {xs:List (List L2.Key × V)}
theorem dt_frz (I:Inv X pins σ H s) (e:H a = some (.dT xs)):∃ o,s.heap.get? a = some o ∧ Inv X pins σ (upd H a (.frz o (.dT xs))) s:=by
 obtain ⟨z,lo,ys,kt,o,es,ep,g1,g2,g3,g4,g5⟩:=id (I.hok a _ e)
 refine ⟨o,g1,d_write (t':=s.toks) (h':=s.heap) I (by rw [e]; exact True.intro) (Heap.SameBut.refl _ _) ⟨o,g1⟩ ⟨g1,z,lo,ys,KT.keeps kt fun c zs ec => ?_,o,es,ep,g1,g2,g3,g4,g5⟩⟩
 rw [upd_ne (ne_of ec e (fun z => nomatch z))]
 exact ec
theorem dt_thaw {o:Obj} (I:Inv X pins σ H s) (e:H a = some (.frz o (.dT xs))) (n:∀ o u,X.H₀ a ≠ some (.frz o u)):Inv X pins σ (upd H a (.dT xs)) s:=by
 have ne:∀ {b:Addr},H b = none → b ≠ a:=fun h z => by rw [z,e] at h; cases h
 have g:=I.base
 have ow:∀ c b,H c = some (.own b) → upd H a (.dT xs) c = some (.own b):=fun c b q => by
  rw [upd_ne (fun z => by rw [z,e] at q; cases q)]; exact q
 have tu:∀ c ys,H c = some (.tup ys) → upd H a (.dT xs) c = some (.tup ys):=fun c ys q => by
  rw [upd_ne (fun z => by rw [z,e] at q; cases q)]; exact q
 refine ⟨I.ok,I.os,I.bare,⟨g.keep,g.slot,fun b ob q h hx => ?_,g.there,fun b ys q => tu b ys (g.tups b ys q),fun b ob u q => ?_,fun b ps q => ?_⟩,I.loc,I.cell,?_,fun y c q => ?_,fun p hp => ?_,fun b u q => ?_,I.len⟩
 ·have h1:=g.free b ob q h hx
  rw [upd_ne (ne h1)]; exact h1
 ·rw [upd_ne (fun z => n ob u (by rw [← z]; exact q))]; exact g.frzs b ob u q
 ·obtain ⟨m,h1⟩:=g.tbls b ps q
  exact ⟨m,by rw [upd_ne (fun z => by rw [z,e] at h1; cases h1)]; exact h1⟩
 ·rw [upd_ne (ne I.free)]; exact I.free
 ·rw [upd_ne (ne (I.freeC y c q))]; exact I.freeC y c q
 ·obtain ⟨p1,p2,p3⟩:=I.pin p hp
  exact ⟨p1,by rw [upd_ne (ne p2)]; exact p2,p3⟩
 ·by_cases hb:b = a
  ·subst hb
   rw [upd_same] at q
   cases q
   exact ObjOk.stay (I.hok b _ e).2 (fun c v _ q => q) (fun c q => ow c _ q) tu
  ·rw [upd_ne hb] at q
   exact (I.hok b u q).stay (fun c v _ q => q) (fun c q => ow c _ q) tu
end
section
variable {K:PySem.W.Frag} {m:Mp} {st:Hs} {H:Hp}
theorem RelK.mono0 {κ:Type} {m1:Mp} {H1:Hp} {kvs:List (κ × Wv)} {xs:List (κ × V)} (e:Ext0 K m H m1 H1) (h:RelK K m H kvs xs):RelK K m1 H1 kvs xs:=⟨h.1,RelWs.mono0 e _ _ h.2⟩
theorem ext0_thaw {a:Addr} {o:Obj} {xs:List (List L2.Key × V)} (e:H a = some (.frz o (.dT xs))):Ext0 K m H m (upd H a (.dT xs)) :=
 ⟨fun _ _ h => h,fun b ys q => by rw [upd_ne (fun z => by rw [z,e] at q; cases q)]; exact q,fun b φ q => by rw [upd_ne (fun z => by rw [z,e] at q; cases q)]; exact q,fun b ob φ q => by rw [upd_ne (fun z => by rw [z,e] at q; cases q)]; exact q⟩
theorem Sim.thaw {l:Nat} {a:Addr} {o:Obj} {kvs:List (List L2.Key × Wv)} {xs:List (List L2.Key × V)} (S:Sim K m st H) (h1:m[l]? = some a) (h2:st[l]? = some (.dcF kvs)) (e:H a = some (.frz o (.dT xs))):Sim K m (st.set l (.dcT kvs)) (upd H a (.dT xs)):=by
 have ez:=ext0_thaw (K:=K) (m:=m) e
 have hl:l < st.length:=(List.getElem?_eq_some_iff.mp h2).1
 have at':∀ (k:Nat) (ob:Ob),(st.set l (.dcT kvs))[k]? = some ob → (k = l ∧ ob = .dcT kvs) ∨ (k ≠ l ∧ st[k]? = some ob):=fun k ob h => by
  by_cases z:l = k
  ·subst z
   rw [List.getElem?_set_self hl] at h
   exact .inl ⟨rfl,(Option.some.inj h).symm⟩
  ·rw [List.getElem?_set_ne z] at h
   exact .inr ⟨fun z' => z z'.symm,h⟩
 refine ⟨by simp [S.len],fun k b ob g1 g2 => ?_,fun k k' b us us' g1 g1' g2 g2' q q' => ?_,S.tab.keep (fun c ps q => ?_) ez.ext⟩
 ·rcases at' k ob g2 with ⟨rfl,rfl⟩ | ⟨hk,g2⟩
  ·rw [h1] at g1
   cases g1
   obtain ⟨o',xs',r1,r2⟩:=(show ∃ o' xs',H a = some (.frz o' (.dT xs')) ∧ RelK K m H kvs xs' from S.obj _ _ _ h1 h2)
   rw [e] at r1
   cases r1
   exact ⟨xs,upd_same,r2.mono0 ez⟩
  ·have q:=S.obj k b ob g1 g2
   have nb:ob.mu = true → b ≠ a:=fun hm z => hk (S.inj k l b ob _ g1 (z ▸ h1) g2 h2 hm rfl)
   cases ob with
   | lst ws => obtain ⟨ys,e1,e2⟩:=q; exact ⟨ys,by rw [upd_ne (nb rfl)]; exact e1,RelWs.mono0 ez _ _ e2⟩
   | dct ws => obtain ⟨ys,e1,e2⟩:=q; exact ⟨ys,by rw [upd_ne (nb rfl)]; exact e1,e2.mono0 ez⟩
   | dcT ws => obtain ⟨ys,e1,e2⟩:=q; exact ⟨ys,by rw [upd_ne (nb rfl)]; exact e1,e2.mono0 ez⟩
   | dcF ws => obtain ⟨o',ys,e1,e2⟩:=q; exact ⟨o',ys,by rw [upd_ne (nb rfl)]; exact e1,e2.mono0 ez⟩
   | scr ns =>
    rcases q with ⟨o',q⟩ | q
    ·exact .inl ⟨o',by rw [upd_ne (fun z => by rw [z,e] at q; cases q)]; exact q⟩
    ·exact .inr q
 ·have back:∀ (k:Nat) (ob:Ob),(st.set l (.dcT kvs))[k]? = some ob → ob.mu = true → ∃ o',st[k]? = some o' ∧ o'.mu = true:=fun k ob h ho => by
   rcases at' k _ h with ⟨rfl,_⟩ | ⟨_,h⟩
   ·exact ⟨_,h2,rfl⟩
   ·exact ⟨ob,h,ho⟩
  obtain ⟨u1,f1,f2⟩:=back k us g2 q
  obtain ⟨u2,f3,f4⟩:=back k' us' g2' q'
  exact S.inj k k' b u1 u2 g1 g1' f1 f3 f2 f4
 ·rw [upd_ne (fun z => by rw [z,e] at q; cases q)]; exact q
theorem RelEnv.mono0 {m1:Mp} {H1:Hp} {ρ:Rho} {σ:St} (R:RelEnv K m H ρ σ) (e:Ext0 K m H m1 H1):RelEnv K m1 H1 ρ σ:=⟨R.len,fun i w h => let ⟨v,h1,h2⟩:=R.get i w h; ⟨v,h1,RelW.mono0 e _ _ h2⟩⟩
theorem Ext.thaw {m1:Mp} {H1:Hp} {a:Addr} {xs ys:List (List L2.Key × V)} (e:Ext K m H m1 H1) (h:H a = some (.dT xs)):Ext K m H m1 (L2.upd H1 a (.dT ys)) :=
 ⟨e.pre,fun b zs q => by rw [upd_ne (fun z => by rw [z,h] at q; cases q)]; exact e.tup b zs q,fun b φ q => by rw [upd_ne (fun z => by rw [z,h] at q; cases q)]; exact e.ext b φ q,fun b o u q => by rw [upd_ne (fun z => by rw [z,h] at q; cases q)]; exact e.frz b o u q⟩
end
def thawW (l:Nat) (st:Hs):Hs:=match st[l]? with
 | some (.dcF kvs) => st.set l (.dcT kvs)
 | _ => st
def openD (w:Option (Option Wv)) (st:Hs):Option Nat:=match w with
 | some (some (.ref l)) => (match st[l]? with | some (.dcT _) => some l | _ => none)
 | _ => none
def gThaw (i:Nat) (g:GS):GS:=fun ρ st => match openD ρ[i]? st with
 | some l => (match g ρ st with | .nx ρ' st' => .nx ρ' (thawW l st') | r => r)
 | none => g ρ st
section
variable {X:Cx}
theorem openD_at {ρ:Rho} {st:Hs} {σ:St} {H:Hp} {m:Mp} {i l:Nat} (S:Sim X.K m st H) (R:RelEnv X.K m H ρ σ) (h:openD ρ[i]? st = some l):∃ a xs,m[l]? = some a ∧ H a = some (.dT xs):=by
 unfold openD at h
 split at h
 ·rename_i k e
  obtain ⟨v,_,r⟩:=R.get i _ e
  unfold RelW at r
  obtain ⟨a,rfl,ha⟩:=r
  split at h
  ·rename_i kvs e1
   cases h
   obtain ⟨xs,h1,_⟩:=(show ∃ ys,H a = some (.dT ys) ∧ RelK X.K m H kvs ys from S.obj _ _ _ ha e1)
   exact ⟨a,xs,ha,h1⟩
  ·cases h
 ·cases h
theorem thaw_all {pins:List (Addr × Obj)} {s0 s':Shared} {σ σ':St} {H H':Hp} {m m':Mp} {l:Nat} {a:Addr} {xs:List (List L2.Key × V)} {st':Hs} (I:Inv X pins σ H s0) (h0:H a = some (.dT xs)) (ha:m[l]? = some a) (e:Ext X.K m H m' H') (S:Sim X.K m' st' H') (I':Inv X pins σ' H' s') :
  ∃ H'',Inv X pins σ' H'' s' ∧ Ext X.K m H m' H'' ∧ Sim X.K m' (thawW l st') H'' ∧ Ext0 X.K m' H' m' H'':=by
 unfold thawW
 have same:∃ H'',Inv X pins σ' H'' s' ∧ Ext X.K m H m' H'' ∧ Sim X.K m' st' H'' ∧ Ext0 X.K m' H' m' H'':=⟨H',I',e,S,Ext.refl.z⟩
 split
 ·rename_i kvs e1
  obtain ⟨o,ys,h1,_⟩:=(show ∃ o ys,H' a = some (.frz o (.dT ys)) ∧ RelK X.K m' H' kvs ys from S.obj _ _ _ (e.pre _ _ ha) e1)
  exact ⟨_,dt_thaw I' h1 fun o u q => (by have z:=I.base.frzs _ _ _ q; rw [h0] at z; cases z),e.thaw h0,S.thaw (e.pre _ _ ha) e1 h1,ext0_thaw h1⟩
 ·exact same
theorem js_thaw (i:Nat) {stm:Stmt} {g:GS} (h:JS X stm g):JS X stm (gThaw i g):=by
 intro ρ st σ H m D S R p
 unfold gThaw at p
 cases eo:openD ρ[i]? st with
 | none => rw [eo] at p; exact h ρ st σ H m D S R p
 | some l =>
  rw [eo] at p
  dsimp only at p
  cases eg:g ρ st with
  | nx ρ' st' =>
   rw [eg] at p
   intro pins s I
   obtain ⟨a,xs,ha,h0⟩:=openD_at S R eo
   have go:=h ρ st σ H m { D with nx:=fun σ' H' => ∃ m',Ext X.K m H m' H' ∧ Sim X.K m' st' H' ∧ RelEnv X.K m' H' ρ' σ' } S R (by rw [eg]; exact fun σ' m' H' e' S' R' => ⟨m',e',S',R'⟩) pins s I
   refine wpAny_mono go (fun f s' q => ?_) fun _ _ z => z
   cases f with
   | next =>
    obtain ⟨σ',H',I',m',e',S',R'⟩:=q
    obtain ⟨H'',I2,e2,S2,z2⟩:=thaw_all I h0 ha e' S' I'
    exact ⟨σ',H'',I2,p σ' m' H'' e2 S2 (R'.mono0 z2)⟩
   | brk => exact q
   | cont => exact q
   | ret u => exact q
  | rt w st' => rw [eg] at p; exact h ρ st σ H m D S R (by rw [eg]; exact p)
  | bk ρ' st' => rw [eg] at p; exact h ρ st σ H m D S R (by rw [eg]; exact p)
  | ct ρ' st' => rw [eg] at p; exact h ρ st σ H m D S R (by rw [eg]; exact p)
  | err c ρ' st' => rw [eg] at p; exact h ρ st σ H m D S R (by rw [eg]; exact p)
  | bad => rw [eg] at p; exact False.elim p
end
theorem kt_get {H:Hp}:∀ {xs:List (List L2.Key × V)} {ys:List (List L2.Key × Addr × Value)},KT H xs ys → ∀ {i:Nat} {y:List L2.Key × Addr × Value},ys[i]? = some y → ∃ x,xs[i]? = some x ∧ x.1 = y.1 ∧ H y.2.1 = some (.tup (x.1.map kV)) ∧ RelV x.2 y.2.2
 | _,_,.nil,i,y,h => by cases h
 | _,_,.cons h t,0,y,e => by cases e; exact ⟨_,rfl,h⟩
 | _,_,.cons h t,i + 1,y,e => kt_get t (i:=i) e
theorem frz_raw {P:Program} {w:World} {H:Hp} {h:Heap} {a:Addr} {o:Obj} {xs:List (List L2.Key × V)} (ok:HOk P w H h) (e:H a = some (.frz o (.dT xs))) :
  ∃ es ep,(a == sysModules) = false ∧ o.data = .dict es ep ∧ DRaw h a es ep ∧ es.size = xs.length ∧ ∀ (i:Nat) (hi:i < es.size),∃ x b,xs[i]? = some x ∧ es[i].key = .ref b ∧ H b = some (.tup (x.1.map kV)) ∧ RelV x.2 es[i].val:=by
 obtain ⟨ho,z,lo,ys,kt,o',es,ep,g1,g2,g3,g4,g5⟩:=ok a _ e
 rw [ho] at g1
 cases g1
 have len:es.size = ys.length:=by have:=congrArg List.length g4; simpa using this
 have len2:xs.length = ys.length:=Paired.length kt
 refine ⟨es,ep,lo,g3,⟨o,ho,g2.1,g3⟩,by omega,fun i hi => ?_⟩
 have hi':i < ys.length:=by omega
 have q1:es[i] = entryOfKey (tupleKind (mixKind P w)) ys[i]:=by
  have:es.toList[i]? = (ys.map (entryOfKey (tupleKind (mixKind P w))))[i]?:=by rw [g4]
  rw [List.getElem?_eq_getElem (by simpa using hi),List.getElem?_map,List.getElem?_eq_getElem hi'] at this
  simpa using this
 obtain ⟨x,e1,e2,e3,e4⟩:=kt_get kt (List.getElem?_eq_getElem hi')
 exact ⟨x,ys[i].2.1,e1,by rw [q1]; rfl,e3,by rw [q1]; exact e4⟩
section
variable {X:Cx} {tg:Expr}
end
end J
namespace J
open PySem PySem.Spec PyProof.Rows L2
section
variable {prog:Program} {w:World} {A:Around} {E:Value → Shared → Prop} {s:Shared} {d:Addr} {es:Array DictEntry} {ep:Nat}
theorem raw_len {Q:Value → Shared → Prop} (lo:(d == sysModules) = false) (x:DRaw s.heap d es ep) (hz:es.size ≤ sizeLine) (h:Q (.int es.size (s.toks + 1)) { s with toks:=s.toks + 1 + 1 }):wpAny (model prog w) A (call (.builtin "len") [.ref d]) Q E s:=by
 have ty:=x.ty
 obtain ⟨o,g1,g2,g3⟩:=x
 refine Calls.call_function_entry kind_len plain_len entry_len (args_len1 _) ?_
 have n0:¬ ((es.size:Int) < 0):=by omega
 have n1:¬ ((es.size:Int) ≥ 2 ^ 63):=by rw [sizeLine_eq] at hz; omega
 have M:MeetsIn prog w (Builtin.«dict.__len__» ⟨[.ref d],[]⟩) (fun _ R s' => s' = s ∧ R (.ok (.ret (.int es.size s.toks))) { s with toks:=s.toks + 1 }):=.of_wp fun A R s' ⟨e,h⟩ => by
  subst e
  refine (show wpAny _ _ (dictSize d >>= _) _ _ s' from ?_)
  unfold dictSize
  refine wpAny_bind (wpAny_bind (wpAny_dictEntries g1 g3 (wpAny_pure ?_)))
  exact (show wpAny _ _ (Builtin.Dict.pendingCount d >>= _) _ _ s' from wpAny_bind (wpAny_pendingCount_other lo (wpAny_ret_mkInt (by rw [Nat.add_zero]; exact h))))
 unfold Builtin.«len»
 refine wpAny_bind (m:=oneArg "len" _) (wpAny_pure (wpAny_bind (m:=callSpecial? (.ref d) (Str.ofString "__len__")) (wpAny_callSpecial?_slot (name:=Str.ofString "__len__") ty PySem.F.slot_dict_len
  (call_meetsIn PySem.F.slot_dict_len ty PySem.F.entry_dict_len (PySem.F.args_dict_len_1 _) M ⟨rfl,?_⟩))))
 refine (show wpAny _ _ _ _ _ { s with toks:=s.toks + 1 } from wpAny_bind (wpAny_holding (wpAny_pure (wpAny_bind (wpAny_letGo ?_)))))
 refine (show wpAny _ _ (if ((es.size:Nat):Int) < 0 then _ else _) _ _ _ from ?_); rw [if_neg n0]
 refine (show wpAny _ _ (if ((es.size:Nat):Int) ≥ 2 ^ 63 then _ else _) _ _ _ from ?_); rw [if_neg n1]
 exact wpAny_bind (wpAny_mkInt (wpAny_pure ⟨_,rfl,h⟩))
end
section
variable {prog:Program} {w:World} {K:Type} [DecidableEq K] {knd:HeapKind prog w K} {A:Around} {E:Value → Shared → Prop} {s:Shared} {d a:Addr} {xs:List (K × Addr × Value)} {k:K}
theorem erase_at:∀ {xs:List (K × Addr × Value)} {j:Nat} {k:K} {p:Addr × Value},(xs.map (·.1)).Nodup → xs[j]? = some (k,p) → xs.eraseIdx j = xs.filter fun x => decide (x.1 ≠ k)
 | [],j,k,p,n,h => by cases h
 | x :: r,0,k,p,n,h => by
  cases h
  have n1:=(List.nodup_cons.mp (show (k :: r.map (·.1)).Nodup from n)).1
  rw [List.filter_cons,if_neg (by simp),List.eraseIdx_zero,List.tail_cons]
  refine (List.filter_eq_self.mpr fun y hy => ?_).symm
  simp only [decide_eq_true_eq]
  exact fun e => n1 (List.mem_map.mpr ⟨y,hy,e⟩)
 | x :: r,j + 1,k,p,n,h => by
  have n0:=List.nodup_cons.mp (show (x.1 :: r.map (·.1)).Nodup from n)
  have h':r[j]? = some (k,p):=h
  have ne:x.1 ≠ k:=fun e => n0.1 (List.mem_map.mpr ⟨_,List.mem_of_getElem? h',e.symm⟩)
  rw [List.filter_cons,if_pos (by simp [ne]),List.eraseIdx_cons_succ,erase_at n0.2 h']
theorem map_erase {α β:Type} (f:α → β):∀ (l:List α) (j:Nat),(l.eraseIdx j).map f = (l.map f).eraseIdx j
 | [],j => rfl
 | x :: r,0 => rfl
 | x :: r,j + 1 => by rw [List.eraseIdx_cons_succ,List.map_cons,List.map_cons,List.eraseIdx_cons_succ,map_erase f r j]
theorem pop_heap {x:Value} {Q:Value → Shared → Prop} (hu:knd.room A.in1) (lo:(d == sysModules) = false) (hkey:knd.is s.heap k a) (hm:s.heap.DictOfH knd d xs) (hsz:xs.length ≤ sizeLine)
  (hn:(∀ (j:Nat) (p:Addr × Value),xs[j]? ≠ some (k,p)) → ∀ t,Q x { s with toks:=t })
  (hs:∀ (j:Nat) (p:Addr × Value),xs[j]? = some (k,p) → ∀ h' t,h'.DictOfH knd d (xs.filter fun x => decide (x.1 ≠ k)) → Heap.SameBut d s.heap h' → Q p.2 { s with heap:=h',toks:=t }) :
  wpAny (model prog w) A (call (.builtin "dict.pop") [.ref d,.ref a,x]) Q E s:=by
 have ty:s.TypeIs (.ref d) "dict":=hm.typeIs
 obtain ⟨o,es,ep,ho,hc,hd,he,his,hnd⟩:=id hm
 have hes:es.size ≤ sizeLine:=by have e:=size_of_entries he; omega
 have M:MeetsIn prog w (Builtin.«dict.pop» ⟨[.ref d,.ref a,x],[]⟩) (fun A' R s' => A' = A ∧ s' = s ∧ ((∀ (j:Nat) (p:Addr × Value),xs[j]? ≠ some (k,p)) → ∀ t,R (.ok (.ret x)) { s with toks:=t }) ∧
   ∀ (j:Nat) (p:Addr × Value),xs[j]? = some (k,p) → ∀ h' t,h'.DictOfH knd d (xs.filter fun x => decide (x.1 ≠ k)) → Heap.SameBut d s.heap h' → R (.ok (.ret p.2)) { s with heap:=h',toks:=t }):=.of_wp fun A' R s' ⟨eA,e,h1,h2⟩ => by
  subst e eA
  unfold Builtin.«dict.pop»
  refine wpAny_bind ?_
  unfold Builtin.Dict.keyAndDefault
  refine wpAny_bind (wpAny_notOrdered_dict ty (show wpAny _ _ (pure (d,Value.ref a,some x)) _ _ s' from wpAny_pure ?_))
  have kp:(keyPart (Value.ref a)).isSome = false:=rfl
  simp only [kp,Bool.false_eq_true,if_false]
  refine wpAny_bind (wpAny_dictEntries ho hd (wpAny_bind (wpAny_pure ?_)))
  have none':xs = [] → ∀ (j:Nat) (p:Addr × Value),xs[j]? ≠ some (k,p):=fun z j p q => by rw [z] at q; cases q
  by_cases em:es.isEmpty = true
  ·have xe:xs = []:=by
    have:=size_of_entries he
    have e0:es.size = 0:=by simpa [Array.isEmpty] using em
    exact List.length_eq_zero_iff.mp (by omega)
   rw [if_pos em]
   refine wpAny_bind (wpAny_rule (wpAny_bind (wpAny_pure ?_)))
   simp only [Option.isNone_none,if_true]
   refine wpAny_bind (wpAny_missedRemoval_other lo (wpAny_bind (wpAny_rule (wpAny_pure ⟨x,rfl,h1 (none' xe) _⟩))))
  ·rw [if_neg em]
   refine wpAny_bind ?_
   unfold Builtin.Dict.takeOut
   refine wpAny_holding ?_
   refine wpAny_bind (knd.pyHash hu hkey (wpAny_bind (wpAny_dictFind_heap (s:={ s' with toks:=s'.toks + knd.draws k }) hu hkey ho hd he his hnd (fun no => wpAny_pure ?_) fun j p hj => ?_)))
   ·simp only [Option.isNone_none,if_true]
    exact wpAny_bind (wpAny_missedRemoval_other lo (wpAny_bind (wpAny_rule (wpAny_pure ⟨x,rfl,h1 no _⟩))))
   ·refine wpAny_bind (wpAny_dictEntries (s:={ s' with toks:=s'.toks + knd.draws k }) ho hd ?_)
    rw [entry_at he j,hj]
    refine wpAny_bind (wpAny_updateDictKeys (hz:=hes) (s:={ s' with toks:=s'.toks + knd.draws k }) ho hd (wpAny_pure ?_))
    simp only [Option.isNone_some,Bool.false_eq_true,if_false]
    refine wpAny_bind (wpAny_letGo (wpAny_pure ⟨p.2,rfl,h2 j p hj _ _ ?_ (Heap.SameBut.update ..)⟩))
    refine ⟨_,_,ep + 1,Heap.get?_update_self _ ho (Obj.isFreed_of_dict (Obj.data_mapDictKeys hd _)),hc.mapDictKeys _,Obj.data_mapDictKeys hd _,?_,fun y hy => ?_,?_⟩
    ·rw [← erase_at hnd hj,map_erase,← he]
     obtain ⟨l⟩:=es
     simp
    ·exact knd.keeps (his y (List.mem_filter.mp hy).1) ho hd (Heap.SameBut.update ..)
    ·exact hnd.sublist (List.filter_sublist.map _)
 exact call_meetsIn PySem.F.slot_dict_pop ty PySem.F.entry_dict_pop (PySem.F.args_dict_pop_3 _ _ _) M ⟨rfl,rfl,hn,hs⟩
end
section
variable {prog:Program} {w:World} {A:Around} {E:Value → Shared → Prop} {s:Shared}
theorem each_ok {b:DictEntry → PUnit → Sem (ForInStep PUnit)} {Q:PUnit → Shared → Prop}:∀ {l:List DictEntry},(∀ e ∈ l,∀ Q':ForInStep PUnit → Shared → Prop,Q' (.yield PUnit.unit) s → wpAny (model prog w) A (b e PUnit.unit) Q' E s) → Q PUnit.unit s → wpAny (model prog w) A (forIn l PUnit.unit b) Q E s
 | [],_,q => by rw [List.forIn_nil]; exact wpAny_pure q
 | e :: r,h,q => by
  rw [List.forIn_cons]
  exact wpAny_bind (h e (.head _) _ (each_ok (fun e' he' => h e' (.tail _ he')) q))
theorem one_hash {es:List DictEntry} (n:(es.map (·.hash)).Nodup) (c:Int):(es.filter fun e => e.hash == c).length ≤ 1:=by
 induction es with
 | nil => simp
 | cons e r ih =>
  have n:=List.nodup_cons.mp (show (e.hash :: r.map (·.hash)).Nodup from n)
  rw [List.filter_cons]
  by_cases h:(e.hash == c) = true
  ·rw [if_pos h]
   have:(r.filter fun e => e.hash == c) = []:=List.filter_eq_nil_iff.mpr fun y hy q => n.1 (List.mem_map.mpr ⟨y,hy,by rw [eq_of_beq q,eq_of_beq h]⟩)
   rw [this]
   exact Nat.le_refl 1
  ·rw [if_neg h]; exact ih n.2
theorem lookup_eq_tuple:typeLookup (.type "tuple") "__eq__" = pure (some (.builtin "tuple.__eq__")):=PySem.F.slot_tuple_eq.lookup
theorem copy_raw {o:Addr} {es:Array DictEntry} {ep:Nat} {Q:Value → Shared → Prop} (lo:(o == sysModules) = false) (x:DRaw s.heap o es ep) (hz:es.size ≤ sizeLine) (he:es.size ≠ 0) (hn:(es.toList.map (·.hash)).Nodup) (ht:∀ e ∈ es,∃ b,e.key = .ref b ∧ s.TypeIs (.ref b) "tuple")
  (h:∀ h',(∃ q,h'.get? s.heap.objs.size = some q ∧ q.cls = .type "dict" ∧ q.dict = none ∧ q.slots = #[] ∧ ∃ e',q.data = .dict es e') → Heap.SameBut s.heap.objs.size (s.heap.push { cls:=.type "dict",data:=.dict #[] }) h' → Q (.ref s.heap.objs.size) { s with heap:=h' }) :
  wpAny (model prog w) A (call (.type "dict") [.ref o]) Q E s:=by
 refine callType_codes (Q₁:=fun obj s₁ => obj = .ref s.heap.objs.size ∧ s₁ = { s with heap:=s.heap.push { cls:=.type "dict",data:=.dict #[] } }) F.kt_called_dict (F.kt_typeCall_dict_1 _) F.entry_dict_init (kt_code_dict_new _ ⟨rfl,rfl⟩) ?_
 rintro obj s₁ ⟨rfl,rfl⟩
 obtain ⟨q,g1,g2,g3⟩:=x
 have hne:s.heap.objs.size ≠ o:=fun e => absurd (Heap.lt_size g1) (by rw [e]; exact Nat.lt_irrefl _)
 have n1:(s.heap.push { cls:=.type "dict",data:=.dict #[] }).get? s.heap.objs.size = some { cls:=.type "dict",data:=.dict #[] }:=Heap.get?_push_size _ rfl
 have o1:(s.heap.push { cls:=.type "dict",data:=.dict #[] }).get? o = some q:=Heap.get?_push_of_some _ g1
 have tn:Shared.TypeIs { s with heap:=s.heap.push { cls:=.type "dict",data:=.dict #[] } } (.ref s.heap.objs.size) "dict":=⟨_,n1,rfl⟩
 have to:Shared.TypeIs { s with heap:=s.heap.push { cls:=.type "dict",data:=.dict #[] } } (.ref o) "dict":=⟨_,o1,g2⟩
 refine ⟨tn,F.args_dict_init_2 _ _,?_⟩
 unfold Builtin.«dict.__init__»
 refine wpAny_bind ?_
 unfold Builtin.Dict.selfAndRest
 refine wpAny_bind (wpAny_notOrdered_dict tn (show wpAny _ _ (pure (s.heap.objs.size,[Value.ref o])) _ _ _ from wpAny_pure ?_))
 refine (show wpAny _ _ (Builtin.Dict.updateFrom "dict.__init__" s.heap.objs.size (.ref o) [] .none) _ _ _ from ?_)
 unfold Builtin.Dict.updateFrom
 refine wpAny_bind (wpAny_typeOf to ?_)
 rw [if_neg (by decide)]
 refine wpAny_bind ?_
 unfold Builtin.Dict.merge
 refine wpAny_bind ?_
 unfold Builtin.Dict.readDirectly
 refine wpAny_bind (wpAny_isInstance to isSubtype_dict_dict ?_)
 simp only [Bool.not_true,Bool.false_eq_true,if_false]
 refine wpAny_bind (wpAny_specialOf to F.slot_dict_iter.lookup (wpAny_pure ?_))
 simp only [beq_self_eq_true,if_true]
 refine wpAny_bind (wpAny_pure ?_)
 unfold Builtin.Dict.mergeDict
 rw [if_neg (by simpa using hne)]
 unfold Builtin.Dict.showsAll
 rw [if_neg (by rw [lo]; exact Bool.false_ne_true)]
 refine wpAny_bind (wpAny_pure (wpAny_bind (wpAny_dictEntries o1 g3 ?_)))
 have few:(decide (es.size ≤ 8) && es.all fun e => (keyPart e.key).isSome) = false:=by
  rw [Bool.and_eq_false_iff]
  refine .inr ?_
  rw [← Bool.not_eq_true,Array.all_eq_true]
  intro al
  have:=al 0 (by omega)
  obtain ⟨b,e1,_⟩:=ht es[0] (by simp)
  rw [e1] at this
  cases this
 simp only [few,Bool.not_false,if_true]
 refine wpAny_bind (wpAny_dictEntries n1 rfl ?_)
 simp only [show (#[]:Array DictEntry).isEmpty = true from rfl,if_true]
 refine wpAny_bind ?_
 unfold Builtin.Dict.entriesForEmpty
 refine wpAny_bind (wpAny_dictEntries o1 g3 ?_)
 rw [← Array.forIn_toList]
 refine wpAny_bind (each_ok (fun e hm Q' q' => ?_) (wpAny_pure ?_))
 ·obtain ⟨b,e1,e2⟩:=ht e (Array.mem_toList_iff.mp hm)
  rw [e1]
  obtain ⟨ob,f1,f2⟩:=e2
  have tb:Shared.TypeIs { s with heap:=s.heap.push { cls:=.type "dict",data:=.dict #[] } } (.ref b) "tuple":=⟨_,Heap.get?_push_of_some _ f1,f2⟩
  unfold Builtin.Dict.quietEq
  refine wpAny_bind (wpAny_bind (wpAny_specialOf tb lookup_eq_tuple (wpAny_pure ?_)))
  have nq:(some (Value.builtin "tuple.__eq__") == some (Value.builtin "object.__eq__")) = false:=by decide
  have sz:¬ (es.filter (fun x => x.hash == e.hash)).size > 1:=by
   have q1:=one_hash hn e.hash
   have q2:(es.filter (fun x => x.hash == e.hash)).size = (es.toList.filter (fun x => x.hash == e.hash)).length:=by rw [← Array.length_toList,Array.toList_filter]
   rw [q2]
   omega
  simp only [nq,Bool.not_false,if_true,if_neg sz]
  exact wpAny_pure q'
 ·have ne:es.isEmpty = false:=by simpa [Array.isEmpty] using he
  simp only [ne,Bool.not_false,if_true]
  refine wpAny_bind (wpAny_updateDictKeysTo (hz':=by show es.size ≤ sizeLine + 1; omega) n1 rfl (wpAny_pure ?_))
  refine (show wpAny _ _ (Builtin.Dict.addKeywords s.heap.objs.size [] >>= _) _ _ _ from wpAny_bind (wpAny_pure (wpAny_pure ⟨rfl,h _ ?_ (Heap.SameBut.update ..)⟩)))
  exact ⟨_,Heap.get?_update_self _ n1 (Obj.isFreed_of_dict (Obj.data_mapDictKeys rfl _)),rfl,rfl,rfl,_,rfl⟩
end
section
variable {prog:Program} {w:World} {A:Around} {E:Value → Shared → Prop} {s:Shared} {d it:Addr} {i:Nat} {es:Array DictEntry} {ep:Nat} {ok ov:Value}
theorem rawI_view {Q:Value → Shared → Prop} (lo:(d == sysModules) = false) (x:DRaw s.heap d es ep) (h:Q (.ref s.heap.objs.size) { s with heap:=s.heap.push { cls:=.type "dict_items",data:=.fields #[.ref d] } }):wpAny (model prog w) A (call (.builtin "dict.items") [.ref d]) Q E s:=by
 have ty:=x.ty
 have M:MeetsIn prog w (Builtin.«dict.items» ⟨[.ref d],[]⟩) (fun _ R s' => s' = s ∧ R (.ok (.ret (.ref s.heap.objs.size))) { s with heap:=s.heap.push { cls:=.type "dict_items",data:=.fields #[.ref d] } }):=.of_wp fun A' R s' ⟨e,h⟩ => by
  subst e
  unfold Builtin.«dict.items»
  refine wpAny_bind ?_
  unfold Builtin.Dict.noArgs Builtin.Dict.showsAll
  refine wpAny_bind (wpAny_notOrdered_dict ty (show wpAny _ _ (pure d) _ _ s' from wpAny_pure ?_))
  rw [if_neg (by rw [lo]; exact Bool.false_ne_true)]
  exact wpAny_bind (wpAny_pure (wpAny_bind (wpAny_newObj_type (wpAny_pure ⟨_,rfl,h⟩))))
 exact call_meetsIn PySem.F.slot_dict_items ty PySem.F.entry_dict_items (PySem.F.args_dict_items_1 _) M ⟨rfl,h⟩
theorem rawI_iter {v:Addr} {Q:Value → Shared → Prop} (hv:s.heap.IsItemsView v d) (x:DRaw s.heap d es ep)
  (h:Q (.ref s.heap.objs.size) { s with heap:=s.heap.push { cls:=.type "dict_itemiterator",data:=.fields #[.none,.bool false,.ref d,.int 0 0,.int es.size 0,.int ep 0,.none,.none] } }):wpAny (model prog w) A (pyIter (.ref v)) Q E s:=by
 have ty:=hv.typeIs
 obtain ⟨o1,a1,a2,a3⟩:=hv
 obtain ⟨o,g1,g2,g3⟩:=x
 refine wpAny_pyIter_slot ty PySem.F.slot_dict_items_iter (wpAny_call_entry PySem.F.slot_dict_items_iter ty PySem.F.entry_dict_items_iter ?_ (PySem.F.args_dict_items_iter_1 _))
 unfold Builtin.«dict_items.__iter__»
 refine wpAny_bind (wpAny_pure (wpAny_bind ?_))
 unfold Builtin.Dict_items.dictOf
 refine wpAny_bind (wpAny_field a1 a3 (x:=.ref d) rfl (wpAny_pure (wpAny_bind ?_)))
 unfold Builtin.Dict_items.newIterator
 refine wpAny_bind (wpAny_dictEntries g1 g3 (wpAny_bind (wpAny_dictEpoch g1 g3 ?_)))
 have own:Builtin.Dict_items.ownsTuple "dict_itemiterator" = true:=by decide
 simp only [own,if_true]
 refine wpAny_newObj_type (wpAny_pure ⟨_,rfl,"dict_itemiterator",_,⟨_,Heap.get?_push_size _ rfl,rfl⟩,PySem.F.slot_dict_itemiterator_next.lookup,?_⟩) (by simp only [sizeOk,Builtin.Dict_items.ownedTupleFields,List.size_toArray,List.length_append,List.length_cons,List.length_nil,sizeLine_eq]; omega)
 simpa [rawInt,Builtin.Dict_items.ownedTupleFields] using h
theorem rawI_item {Q:Option Value → Shared → Prop} (ki:IsItemIter s.heap it d i es.size ep ok ov) (x:DRaw s.heap d es ep) (hi:i < es.size)
  (k:∀ h',IsItemIterOut h' it d (i + 1) es.size ep es[i].key es[i].val s.heap.objs.size → h'.get? s.heap.objs.size = some { cls:=.type "tuple",data:=.seq #[es[i].key,es[i].val] } → h'.objs.size = s.heap.objs.size + 1 → (∀ b o,b ≠ it → s.heap.get? b = some o → h'.get? b = some o) → Q (some (.ref s.heap.objs.size)) { s with heap:=h' }):wpAny (model prog w) A (pyNext (.ref it)) Q E s:=by
 obtain ⟨hp,g,dr,tk,os⟩:=s
 obtain ⟨o,g1,g2,g3⟩:=x
 have ty:Shared.TypeIs ⟨hp,g,dr,tk,os⟩ (.ref it) "dict_itemiterator":=⟨_,ki,rfl⟩
 have own:Builtin.Dict_items.ownsTuple "dict_itemiterator" = true:=by decide
 have nn:¬ ((Value.ref d == Value.none) = true):=Bool.false_ne_true
 have n0:¬ ((i:Int) < 0):=by omega
 have lt:it < hp.objs.size:=Heap.lt_size ki
 have gt:=Nat.ne_of_gt lt
 unfold pyNext
 refine wpAny_bind (wpAny_attempt (wpAny_callSpecial?_slot (name:=Str.ofString "__next__") ty PySem.F.slot_dict_itemiterator_next (wpAny_call_entry PySem.F.slot_dict_itemiterator_next ty PySem.F.entry_dict_itemiterator_next ?_ (PySem.F.args_dict_itemiterator_next_1 _))))
 refine wpAny_bind (wpAny_pure (wpAny_bind (wpAny_bind ?_)))
 first | refine wpAny_bind (wpAny_typeNameOfWhole_itemiter ty (wpAny_pure (wpAny_bind (wpAny_fieldsOf ki rfl ?_)))) | refine wpAny_bind (wpAny_typeNameOf_itemiter ty (wpAny_pure (wpAny_bind (wpAny_fieldsOf ki rfl ?_))))
 simp only [own,if_true]
 refine (show wpAny _ _ (if (Value.ref d == Value.none) = true then _ else _) _ _ _ from ?_); rw [if_neg nn]
 refine wpAny_bind (wpAny_pure (wpAny_bind (wpAny_dictEntries g1 g3 ?_)))
 rw [if_neg (by simp)]
 refine wpAny_bind (wpAny_pure (wpAny_bind (wpAny_dictEpoch g1 g3 ?_)))
 rw [if_neg (by simp)]
 refine wpAny_pure ?_
 simp only [n0,if_false,Int.toNat_natCast,Array.getElem?_eq_getElem hi]
 refine wpAny_bind ?_
 first | refine wpAny_bind (wpAny_typeNameOfWhole_itemiter ty (wpAny_pure (wpAny_bind (wpAny_isOneOf_itemiter ty ?_)))) | refine wpAny_bind (wpAny_typeNameOf_itemiter ty (wpAny_pure (wpAny_bind (wpAny_isOneOf_itemiter ty ?_))))
 refine (show wpAny _ _ (setField (.ref it) 3 (rawInt ((i:Int) + 1)) >>= _) _ _ ⟨hp,g,dr,tk,os⟩ from wpAny_bind (wpAny_setField_rec ki (by simp) fun h1 e1 s1 => ?_))
 have z1:h1.objs.size = hp.objs.size:=s1.1
 have t1:IsItemIter h1 it d (i + 1) es.size ep ok ov:=by
  have e:((i + 1:Nat):Int) = (i:Int) + 1:=by omega
  unfold IsItemIter; rw [e]; simpa [rawInt] using e1
 have y1:Shared.TypeIs ⟨h1,g,dr,tk,os⟩ (.ref it) "dict_itemiterator":=⟨_,t1,rfl⟩
 refine wpAny_bind (wpAny_holding (wpAny_bind (wpAny_isOneOf_itemiter y1 (wpAny_bind (wpAny_isOneOf_itemiter y1 ?_)))))
 refine (show wpAny _ _ (Builtin.Dict_items.pairFromOwner (.ref it) 6 es[i].key es[i].val) _ _ ⟨h1,g,dr,tk,os⟩ from ?_)
 unfold Builtin.Dict_items.pairFromOwner
 refine wpAny_bind (wpAny_newTuple ?_)
 have t2:IsItemIter (h1.push { cls:=.type "tuple",data:=.seq #[es[i].key,es[i].val] }) it d (i + 1) es.size ep ok ov:=Heap.get?_push_of_some _ t1
 generalize e2:h1.push { cls:=.type "tuple",data:=.seq #[es[i].key,es[i].val] } = h2 at t2
 have T2:h2.get? hp.objs.size = some { cls:=.type "tuple",data:=.seq #[es[i].key,es[i].val] }:=by rw [← e2,← z1]; exact Heap.get?_push_size _ rfl
 have z2:h2.objs.size = hp.objs.size + 1:=by rw [← e2,Heap.size_push,z1]
 have k2:∀ b o,b ≠ it → hp.get? b = some o → h2.get? b = some o:=fun b o hb e => by rw [← e2]; exact Heap.get?_push_of_some _ (s1.extBut b o hb e)
 refine (show wpAny _ _ (Builtin.Dict_items.ownedTupleIsFree (.ref it) >>= _) _ _ ⟨h2,g,dr,tk,os⟩ from wpAny_bind ?_)
 rw [z1]
 unfold Builtin.Dict_items.ownedTupleIsFree
 refine wpAny_bind (wpAny_field t2 rfl (x:=.none) rfl (wpAny_pure ?_))
 simp only [if_true]
 refine wpAny_bind (wpAny_field t2 rfl (x:=ok) rfl (wpAny_bind (wpAny_field t2 rfl (x:=ov) rfl (wpAny_bind (wpAny_setField_rec t2 (by simp) fun h3 t3 s3 => ?_)))))
 refine wpAny_bind (wpAny_setField_rec (show IsItemIter h3 it d (i + 1) es.size ep es[i].key ov from t3) (by simp) fun h4 t4 s4 => ?_)
 refine wpAny_bind (wpAny_setField_rec (show IsItemIter h4 it d (i + 1) es.size ep es[i].key es[i].val from t4) (by simp) fun h5 t5 s5 => ?_)
 refine wpAny_bind (wpAny_setField_rec (show IsItemIterOut h5 it d (i + 1) es.size ep es[i].key es[i].val hp.objs.size from t5) (by simp) fun h6 t6 s6 => ?_)
 have sb:∀ b,b ≠ it → ∀ o,h2.get? b = some o → h6.get? b = some o:=fun b hb o e => s6.extBut b o hb (s5.extBut b o hb (s4.extBut b o hb (s3.extBut b o hb e)))
 refine wpAny_bind (wpAny_letGo (wpAny_pure (wpAny_pure ⟨_,rfl,wpAny_pure (k h6 t6 (sb _ gt _ T2) ?_ fun b o hb e => sb b hb o (k2 b o hb e))⟩)))
 exact (s6.1.trans (s5.1.trans (s4.1.trans s3.1))).trans z2
theorem rawI_end {Q:Option Value → Shared → Prop} (hh:A.handled = none) (ki:IsItemIter s.heap it d i es.size ep ok ov) (x:DRaw s.heap d es ep) (hi:es.size ≤ i) (k:∀ h',Heap.ExtBut it s.heap h' → Q none { s with heap:=h' }):wpAny (model prog w) A (pyNext (.ref it)) Q E s:=by
 obtain ⟨o,g1,g2,g3⟩:=x
 have ty:s.TypeIs (.ref it) "dict_itemiterator":=⟨_,ki,rfl⟩
 have own:Builtin.Dict_items.ownsTuple "dict_itemiterator" = true:=by decide
 have nn:¬ ((Value.ref d == Value.none) = true):=Bool.false_ne_true
 have n0:¬ ((i:Int) < 0):=by omega
 unfold pyNext
 refine wpAny_bind (wpAny_attempt (wpAny_callSpecial?_slot (name:=Str.ofString "__next__") ty PySem.F.slot_dict_itemiterator_next (wpAny_call_entry PySem.F.slot_dict_itemiterator_next ty PySem.F.entry_dict_itemiterator_next ?_ (PySem.F.args_dict_itemiterator_next_1 _))))
 refine wpAny_bind (wpAny_pure (wpAny_bind (wpAny_bind ?_)))
 first | refine wpAny_bind (wpAny_typeNameOfWhole_itemiter ty (wpAny_pure (wpAny_bind (wpAny_fieldsOf ki rfl ?_)))) | refine wpAny_bind (wpAny_typeNameOf_itemiter ty (wpAny_pure (wpAny_bind (wpAny_fieldsOf ki rfl ?_))))
 simp only [own,if_true]
 refine (show wpAny _ _ (if (Value.ref d == Value.none) = true then _ else _) _ _ s from ?_); rw [if_neg nn]
 refine wpAny_bind (wpAny_pure (wpAny_bind (wpAny_dictEntries g1 g3 ?_)))
 rw [if_neg (by simp)]
 refine wpAny_bind (wpAny_pure (wpAny_bind (wpAny_dictEpoch g1 g3 ?_)))
 rw [if_neg (by simp)]
 refine wpAny_pure ?_
 simp only [n0,if_false,Int.toNat_natCast,Array.getElem?_eq_none hi]
 refine wpAny_bind ?_
 first | refine wpAny_bind (wpAny_typeNameOfWhole_itemiter ty (wpAny_pure ?_)) | refine wpAny_bind (wpAny_typeNameOf_itemiter ty (wpAny_pure ?_))
 refine (show wpAny _ _ (setField (.ref it) 2 .none >>= _) _ _ s from wpAny_bind (wpAny_setField ki rfl (by simp) ?_))
 refine (show wpAny _ _ (newExc (.type "StopIteration") [] >>= _) _ _ _ from ?_)
 simp only [newExc,newTuple,raiseNew]
 refine wpAny_bind (wpAny_bind (wpAny_newObj_type (wpAny_bind (m:=firstArgMember _ _) (wpAny_of_eq (a:=Value.none) (by first | rfl | (simp only [firstArgMember]; rfl)) (wpAny_newObj_type ?_ (by size_fits)))) (by size_fits)))
 refine (wpAny_bind (wpAny_handled ?_))
 rw [show A.in1.handled = none by exact hh]
 refine (wpAny_bind (wpAny_pure (wpAny_throw ?_)))
 refine wpAny_bind (wpAny_isInstance (b:=true) (T:="StopIteration") ⟨_,Heap.get?_push_size _ rfl,rfl⟩ isSubtype_stop (wpAny_pure ?_))
 refine k _ ?_; exact ((Heap.SameBut.update ..).extBut.push _).push _
end
end J
namespace J
open PySem PySem.Spec PyProof.Rows L2
section
variable {X:Cx}
theorem dt_raw {P:Program} {w:World} {H:Hp} {h:Heap} {a:Addr} {xs:List (List L2.Key × V)} (ok:HOk P w H h) (e:Rd H a (.dT xs)) :
  ∃ es ep ys,xs.length ≤ sizeLine ∧ (a == sysModules) = false ∧ DRaw h a es ep ∧ es.size = xs.length ∧ KT H xs ys ∧ es.toList = ys.map (entryOfKey (tupleKind (mixKind P w))) ∧ (ys.map (·.1)).Nodup:=by
 obtain ⟨z,lo,ys,kt,o,es,ep,g1,g2,g3,g4,g5⟩:=(show ObjOk P w H h a (.dT xs) from rd_of ok e)
 have len:es.size = ys.length:=by have:=congrArg List.length g4; simpa using this
 exact ⟨es,ep,ys,z,lo,⟨o,g1,g2.1,g3⟩,by rw [len]; exact (Paired.length kt).symm,kt,g4,g5⟩
theorem call_lenD:CallR X (.builtin "len") (fun xs H Q => ∃ a kvs,xs = [.ref a] ∧ Rd H a (.dT kvs) ∧ Q (.int kvs.length) H):=by
 intro pins s σ H xs us Q I rs q
 obtain ⟨a,kvs,rfl,e,q⟩:=q
 cases rs with
 | cons r rr =>
  cases rr
  cases r
  obtain ⟨es,ep,ys,z,lo,raw,sz,_⟩:=dt_raw I.hok e
  refine raw_len lo raw (by rw [sz]; exact z) ⟨.int kvs.length,H,I.tok _,⟨_,by rw [sz]⟩,q⟩
def isDw:Option Ob → Option (List (List L2.Key × Wv))
 | some (.dcT kvs) => some kvs
 | some (.dcF kvs) => some kvs
 | _ => none
theorem isDw_at {m:Mp} {st:Hs} {H:Hp} {l:Nat} {a:Addr} {kvs:List (List L2.Key × Wv)} (S:Sim X.K m st H) (ha:m[l]? = some a) (h:isDw st[l]? = some kvs):∃ xs,Rd H a (.dT xs) ∧ RelK X.K m H kvs xs:=by
 unfold isDw at h
 split at h
 ·rename_i k' e
  cases h
  obtain ⟨xs,h1,h2⟩:=(show ∃ ys,H a = some (.dT ys) ∧ RelK X.K m H kvs ys from S.obj _ _ _ ha e)
  exact ⟨xs,.inl h1,h2⟩
 ·rename_i k' e
  cases h
  obtain ⟨o,xs,h1,h2⟩:=(show ∃ o ys,H a = some (.frz o (.dT ys)) ∧ RelK X.K m H kvs ys from S.obj _ _ _ ha e)
  exact ⟨xs,.inr ⟨o,h1⟩,h2⟩
 ·cases h
def oLenD:List Wv → Hs → Re Wv
 | [.ref l],st => (match isDw st[l]? with | some kvs => .ok (.int kvs.length) st | none => oLen [.ref l] st)
 | ws,st => oLen ws st
theorem cw_lenD:CallW X (.builtin "len") oLenD:=by
 obtain ⟨r0,c0,k0⟩:=cw_len (X:=X)
 refine ⟨_,call_lenD.or c0,fun ws vs st H m Q S r p => ?_⟩
 have old:PostO X.K m H (oLen ws st) Q → r0 vs H Q:=fun p => k0 ws vs st H m Q S r p
 unfold oLenD at p
 split at p
 ·rename_i l
  cases e:isDw st[l]? with
  | none => rw [e] at p; exact .inr (old p)
  | some kvs =>
   rw [e] at p
   obtain ⟨v,rfl,rx⟩:=rel1 r
   unfold RelW at rx
   obtain ⟨a,rfl,ha⟩:=rx
   obtain ⟨xs,h1,h2⟩:=isDw_at (X:=X) S ha e
   refine .inl ⟨a,xs,rfl,h1,?_⟩
   rw [← h2.length]
   exact p _ m H Ext.refl S mkInt
 ·exact .inr (old p)
def hashT (ns:List Int):Int:=reduceHash (Builtin.Tuple.tupleHashOf (ns.map hashInt))
def keysN:List (List L2.Key) → Option (List (List Int))
 | [] => some []
 | k :: r => (match intK k,keysN r with | some ns,some l => some (ns :: l) | _,_ => none)
theorem intK_inl:∀ {ks:List L2.Key} {ns:List Int},intK ks = some ns → ks = ns.map Sum.inl
 | [],ns,e => by cases e; rfl
 | .inl i :: r,ns,e => by
  unfold intK at e
  cases q:intK r with
  | none => rw [q] at e; cases e
  | some l => rw [q] at e; cases e; rw [List.map_cons,← intK_inl q]
theorem hashT_is {P:Program} {w:World} {ks:List L2.Key} {ns:List Int} (h:intK ks = some ns):(tupleKind (mixKind P w)).hash ks = hashT ns:=by
 rw [intK_inl h]
 show reduceHash (Builtin.Tuple.tupleHashOf ((ns.map Sum.inl).map (mixKind P w).hash)) = _
 rw [List.map_map]
 rfl
theorem keysN_hash {P:Program} {w:World}:∀ {kss:List (List L2.Key)} {nss:List (List Int)},keysN kss = some nss → kss.map (tupleKind (mixKind P w)).hash = nss.map hashT
 | [],nss,e => by cases e; rfl
 | k :: r,nss,e => by
  unfold keysN at e
  cases q1:intK k with
  | none => rw [q1] at e; cases e
  | some ns =>
   cases q2:keysN r with
   | none => rw [q1,q2] at e; cases e
   | some l => rw [q1,q2] at e; cases e; rw [List.map_cons,List.map_cons,hashT_is q1,keysN_hash q2]
def hashOk (ks:List (List L2.Key)):Bool:=match keysN ks with
 | some nss => decide ((nss.map hashT).Nodup)
 | none => false
theorem call_dictT:CallR X (.type "dict") (fun xs H Q => ∃ a kvs,xs = [.ref a] ∧ Rd H a (.dT kvs) ∧ kvs ≠ [] ∧ ((kvs.map (·.1)).map (tupleKind (mixKind X.prog X.w)).hash).Nodup ∧ ∀ p,H p = none → Q (.ref p) (upd H p (.dT kvs))):=by
 intro pins s σ H xs us Q I rs q
 obtain ⟨a,kvs,rfl,e,ne,hn,q⟩:=q
 cases rs with
 | cons r rr =>
  cases rr
  cases r
  obtain ⟨es,ep,ys,z,lo,raw,sz,kt,g4,g5⟩:=dt_raw I.hok e
  have keys:kvs.map (·.1) = ys.map (·.1):=by
   clear q hn ne g5 g4 e sz z
   induction kt with
   | nil => rfl
   | cons h t ih => rw [List.map_cons,List.map_cons,ih,h.1]
  have hs:es.toList.map (·.hash) = (kvs.map (·.1)).map (tupleKind (mixKind X.prog X.w)).hash:=by
   rw [g4,keys,List.map_map,List.map_map]
   rfl
  have ht:∀ e ∈ es,∃ b,e.key = .ref b ∧ s.TypeIs (.ref b) "tuple":=fun e' he => by
   have:e' ∈ ys.map (entryOfKey (tupleKind (mixKind X.prog X.w))):=by rw [← g4]; exact Array.mem_toList_iff.mpr he
   obtain ⟨y,hy,rfl⟩:=List.mem_map.mp this
   obtain ⟨j,hj⟩:=List.mem_iff_getElem?.mp hy
   obtain ⟨x,_,_,hx,_⟩:=kt_get kt hj
   have kk:=key_of (P:=X.prog) (w:=X.w) I.hok hx
   obtain ⟨ob,its,n,f1,f2,_⟩:=kk
   exact ⟨y.2.1,rfl,ob,f1,f2⟩
  have l0:es.size ≠ 0:=by rw [sz]; exact fun z0 => ne (List.length_eq_zero_iff.mp z0)
  refine copy_raw lo raw (by rw [sz]; exact z) l0 (by rw [hs]; exact hn) ht fun h' nw sb => ?_
  obtain ⟨o',f1,f2,f3,f4,ep',f5⟩:=nw
  have fr:H s.heap.objs.size = none:=I.hok.fresh (Nat.le_refl _)
  refine ⟨.ref s.heap.objs.size,_,I.laid (a:=s.heap.objs.size) (o:=.dT kvs) (t':=s.toks) (fun b ob hq => (sb.2 b (Nat.ne_of_lt (Heap.lt_size hq))).trans (Heap.get?_push_of_some _ hq)) (Nat.le_refl _) ?_,rfl,q _ fr⟩
  refine ⟨z,beq_eq_false_iff_ne.mpr (Ne.symm (Nat.ne_of_lt I.big)),ys,kt.keeps fun c zs ec => ?_,o',es,ep',f1,⟨f2,f3,f4⟩,f5,g4,g5⟩
  rw [upd_ne (ne_of_none ec fr)]
  exact ec
def oDict:List Wv → Hs → Re Wv
 | [.ref l],st => (match isDw st[l]? with | some kvs => if kvs.isEmpty = false ∧ hashOk (kvs.map (·.1)) = true then .ok (.ref st.length) (st ++ [.dcT kvs]) else .bad | none => .bad)
 | _,_ => .bad
theorem cw_dict:CallW X (.type "dict") oDict:=⟨_,call_dictT,fun ws vs st H m Q S r p => by
 unfold oDict at p
 split at p
 ·rename_i l
  cases e:isDw st[l]? with
  | none => rw [e] at p; exact False.elim p
  | some kvs =>
   rw [e] at p
   dsimp only at p
   by_cases c:kvs.isEmpty = false ∧ hashOk (kvs.map (·.1)) = true
   ·rw [if_pos c] at p
    obtain ⟨v,rfl,rx⟩:=rel1 r
    unfold RelW at rx
    obtain ⟨a,rfl,ha⟩:=rx
    obtain ⟨xs,h1,h2⟩:=isDw_at (X:=X) S ha e
    have ne:xs ≠ []:=fun z => by
     have:=h2.length
     rw [z] at this
     have c1:=c.1
     rw [List.length_eq_zero_iff.mp this] at c1
     cases c1
    refine ⟨a,xs,rfl,h1,ne,?_,fun q hq => ?_⟩
    ·have c2:=c.2
     unfold hashOk at c2
     rw [← h2.1]
     cases ek:keysN (kvs.map (·.1)) with
     | none => rw [ek] at c2; cases c2
     | some nss => rw [ek] at c2; rw [keysN_hash ek]; exact of_decide_eq_true c2
    ·have ex:Ext X.K m H (m ++ [q]) (upd H q (.dT xs)):=Ext.more.trans (Ext.updW (.inl hq))
     exact p (.ref q) (m ++ [q]) _ ex (S.allocO hq ⟨xs,upd_same,h2.mono ex⟩) (by unfold RelW; exact ⟨q,rfl,by rw [← S.len,List.getElem?_append_right (Nat.le_refl _),Nat.sub_self]; rfl⟩)
   ·rw [if_neg c] at p; exact False.elim p
 ·exact False.elim p⟩
end
theorem relO_none {o:Option V} (r:RelO o none):o = none:=by
 cases o with
 | none => rfl
 | some u => exact (show False from r).elim
theorem relO_some {o:Option V} {u:Value} (r:RelO o (some u)):∃ v,o = some v ∧ RelV v u:=by
 cases o with
 | none => exact (show False from r).elim
 | some v => exact ⟨v,rfl,r⟩
def tDPopT (td ty tx:TE):TE:=fun σ H Q => td σ H fun x H1 => ∃ a,x = .ref a ∧ IsD H1 a ∧ ty σ H1 fun y H2 => tx σ H2 fun z H3 => ∃ kvs k b,H3 a = some (.dT kvs) ∧ y = .ref b ∧ H3 b = some (.tup (k.map kV)) ∧
 (∀ v,valV kvs k = some v → Q v (upd H3 a (.dT (dropK kvs k)))) ∧ (valV kvs k = none → Q z H3)
theorem kt_drop {H:Hp} {k:List L2.Key}:∀ {xs:List (List L2.Key × V)} {ys:List (List L2.Key × Addr × Value)},KT H xs ys → KT H (dropK xs k) (ys.filter fun y => decide (y.1 ≠ k))
 | _,_,.nil => .nil
 | _,_,.cons (a:=x) (b:=y) h t => by
  by_cases e:x.1 = k
  ·rw [dropK_pos e,List.filter_cons,if_neg (by rw [← h.1]; simp [e])]; exact kt_drop t
  ·rw [dropK_neg e,List.filter_cons,if_pos (by rw [← h.1]; simp [e])]; exact .cons h (kt_drop t)
section
variable {X:Cx} {o e f:Expr} {apos cpos:Pos} {td ty tx:TE}
theorem pe_dpopT (hu:X.A.units + 1 < cLine) (ho:PE X o td) (he:PE X e ty) (hf:PE X f tx) (m:M2 X o "pop" apos e f cpos):PE X (.Call (.Attribute o "pop" apos) [e,f] [] cpos) (tDPopT td ty tx):=by
 intro pins s σ H Q I h
 refine wpAny_Call_method m.base m.few m.line PySem.F.plainAttrs_dict PySem.F.slot_dict_pop PySem.F.type_dict_pop (thn (ho pins s σ H _ I h) fun u s1 ⟨x,H1,I1,rx,a,ex,d,q1⟩ => ?_)
 subst ex
 obtain rfl:u = Value.ref a:=rx
 obtain ⟨t1,t2,_⟩:=isD_at I1 d
 refine ⟨t1,t2,?_⟩
 rw [m.trees]
 refine Calls.callWith_builtin rfl (Calls.evalArgs_plain (Calls.spliced_cons (thn (he pins s1 σ H1 _ I1 q1) fun iv s2 ⟨y,H2,I2,ry,q2⟩ =>
  Calls.spliced_cons (thn (hf pins s2 σ H2 _ I2 q2) fun fv s3 ⟨z,H3,I3,rz,kvs,k,b,ea,ey,eb,q3,q4⟩ => Calls.spliced_nil ?_))))
 subst ey
 cases (show iv = Value.ref b from ry)
 obtain ⟨zz,hd,xs,rel,dd⟩:=dt_of I3.hok ea
 have vl:=rel.val k
 refine pop_heap (tupleKind_room_in1 hu) hd (key_of I3.hok eb) dd (by rw [← Paired.length rel]; exact zz) (fun no t => ?_) fun j p hj h' t dd' hs => ?_
 ·rw [atKey_none_of_get no] at vl
  exact ⟨z,H3,I3.tok _,rz,q4 (relO_none vl)⟩
 ·have hnd:(xs.map (·.1)).Nodup:=let ⟨_,_,_,_,_,_,_,_,n⟩:=dd; n
  rw [atKey_of_get hnd hj] at vl
  obtain ⟨v,ev,rv⟩:=relO_some vl
  obtain ⟨q,es,ep,hq,h2,h3,h4,_,h5⟩:=dd'
  refine ⟨v,_,d_write (ob:=.dT (dropK kvs k)) I3 (by rw [ea]; exact True.intro) hs ⟨q,hq⟩ ⟨Nat.le_trans (dropK_le kvs k) zz,hd,_,(kt_drop rel).keeps fun c ys ec => ?_,q,es,ep,hq,h2,h3,h4,h5⟩,rv,q3 v ev⟩
  rw [upd_ne (ne_of ec ea (fun z => nomatch z))]
  exact ec
def dropW {κ:Type} [DecidableEq κ] (kvs:List (κ × Wv)) (k:κ):List (κ × Wv):=kvs.filter fun kv => decide (kv.1 ≠ k)
theorem RelK.drop {κ:Type} [DecidableEq κ] {K:PySem.W.Frag} {m:Mp} {H:Hp} (k:κ):∀ {kvs:List (κ × Wv)} {xs:List (κ × V)},RelK K m H kvs xs → RelK K m H (dropW kvs k) (dropK xs k)
 | [],xs,h => by rw [h.nil_inv]; exact RelK.nil
 | p :: r,xs,h => by
  obtain ⟨v,t,rfl,h1,h2⟩:=h.cons_inv
  by_cases e:p.1 = k
  ·rw [dropK_pos e]
   unfold dropW
   rw [List.filter_cons,if_neg (by simp [e])]
   exact h2.drop k
  ·rw [dropK_neg e]
   unfold dropW
   rw [List.filter_cons,if_pos (by simp [e])]
   exact RelK.cons h1 (h2.drop k)
def popD (d k x:Wv) (st:Hs):Re Wv:=match d with
 | .ref l => (match keyT k,st[l]? with
  | some kk,some (.dcT kvs) => (match valW kvs kk with | some w => .ok w (st.set l (.dcT (dropW kvs kk))) | none => .ok x st)
  | _,_ => .bad)
 | _ => .bad
def isDv (st:Hs):Wv → Bool
 | .ref l => (isDw st[l]?).isSome
 | _ => false
def gPop2 (gd gk gx:GE):GE:=fun ρ st => (gd ρ st).bind fun d st1 => if isDv st1 d = true then (gk ρ st1).bind fun k st2 => (gx ρ st2).bind fun x st3 => popD d k x st3 else .bad
theorem je_pop2 {gd gk gx:GE} (hu:X.A.units + 1 < cLine) (ho:JE X o gd) (he:JE X e gk) (hf:JE X f gx) (M:M2 X o "pop" apos e f cpos):JE X (.Call (.Attribute o "pop" apos) [e,f] [] cpos) (gPop2 gd gk gx) :=
 JE.of (pe_dpopT hu pe_SE pe_SE pe_SE M) fun ρ st σ H m Q S R p => by
  refine ho.go S R (PostG.bind p) fun d st1 v m1 H1 p1 e1 S1 r1 => ?_
  by_cases hd:isDv st1 d = true
  ·rw [if_pos hd] at p1
   cases d with
   | ref l =>
    unfold RelW at r1
    obtain ⟨a,rfl,ha⟩:=r1
    obtain ⟨kv0,ek⟩:=Option.isSome_iff_exists.mp (show (isDw st1[l]?).isSome = true from hd)
    obtain ⟨xs0,h0,_⟩:=isDw_at (X:=X) S1 ha ek
    refine ⟨a,rfl,.inr ⟨xs0,h0⟩,?_⟩
    refine he.go S1 (R.mono e1) ((PostG.bind p1).imp e1 fun _ _ q => q) fun k st2 y m2 H2 p2 e2 S2 r2 => ?_
    refine hf.go S2 (R.mono (e1.trans e2)) ((PostG.bind p2).imp (e1.trans e2) fun _ _ q => q) fun x st3 z m3 H3 p3 e3 S3 r3 => ?_
    unfold popD at p3
    dsimp only at p3
    cases q1:keyT k with
    | none => rw [q1] at p3; exact False.elim p3
    | some kk =>
     cases q2:st3[l]? with
     | none => rw [q1,q2] at p3; exact False.elim p3
     | some ob =>
      rw [q1,q2] at p3
      cases ob with
      | dcT kvs =>
       dsimp only at p3
       have ha3:m3[l]? = some a:=(e2.trans e3).pre _ _ ha
       obtain ⟨xs,y1,y2⟩:=(show ∃ ys,H3 a = some (.dT ys) ∧ RelK X.K m3 H3 kvs ys from S3.obj _ _ _ ha3 q2)
       obtain ⟨b,rfl,hb⟩:=keyT_rel (RelW.mono e3 _ _ r2) q1
       obtain ⟨i1,i2⟩:=y2.val kk
       refine ⟨xs,kk,b,y1,rfl,hb,fun u hu' => ?_,fun hn => ?_⟩
       ·cases q3:valW kvs kk with
        | none => rw [i1 q3] at hu'; cases hu'
        | some w =>
         rw [q3] at p3
         obtain ⟨u',j1,j2⟩:=i2 w q3
         rw [hu'] at j1
         cases j1
         have ex:Ext X.K m3 H3 m3 (upd H3 a (.dT (dropK xs kk))):=Ext.updW (.inr (.inr (.inr ⟨_,y1⟩)))
         exact p3 u m3 _ (e1.trans (e2.trans (e3.trans ex))) (S3.writeO ha3 q2 rfl ⟨_,upd_same,(y2.drop kk).mono ex⟩) (RelW.mono ex _ _ j2)
       ·cases q3:valW kvs kk with
        | none => rw [q3] at p3; exact p3 z m3 H3 (e1.trans (e2.trans e3)) S3 r3
        | some w =>
         obtain ⟨u',j1,_⟩:=i2 w q3
         rw [hn] at j1
         cases j1
      | _ => exact False.elim p3
   | _ => cases hd
  ·rw [if_neg hd] at p1; exact False.elim p1
end
def Iti (a:Addr) (o:Obj) (xs:List (List L2.Key × V)):It :=
 ⟨fun i H => H a = some (.frz o (.dT xs)) ∧ i < xs.length,fun i H v H' => ∃ p b x,v = .ref p ∧ H p = none ∧ xs[i]? = some x ∧ H b = some (.tup (x.1.map kV)) ∧ H' = upd H p (.tup [.ref b,x.2]),fun i H => H a = some (.frz o (.dT xs)) ∧ xs.length ≤ i⟩
theorem turn_items {P:Program} {w:World} {K:PySem.W.Frag} {es':List Expr} {kt:Nat} {pt:Pos} (a it:Addr) (o:Obj) (xs:List (List L2.Key × V)):Turn P w K (.Tuple es' kt pt) (Iti a o xs) [it] it (fun i h => ∃ es ep ok ov,o.data = .dict es ep ∧ IsItemIter h it a i es.size ep ok ov) where
 mem:=by simp
 obj:=fun i h st b hb => by
  obtain ⟨es,ep,ok,ov,_,q1⟩:=st
  have e:b = it:=by simpa using hb
  subst e
  exact ⟨_,q1,fun v z => by cases z⟩
 keep:=fun i h h' st k => let ⟨es,ep,ok,ov,hd,ki⟩:=st; ⟨es,ep,ok,ov,hd,k it (by simp) _ ki⟩
 self:=fun _ _ _ _ _ st h => let ⟨_,_,_,_,_,ki⟩:=st; PySem.W.kcp_self ki h
 item:=by
  intro X hP hw hK hc i pins s σ H E I hf st hg
  subst hP hw hK
  obtain ⟨es,ep,ok,ov,hd,ki⟩:=st
  obtain ⟨he,hi⟩:=hg
  obtain ⟨es2,ep2,lo,hd2,raw,sz,keys⟩:=frz_raw I.hok he
  rw [hd] at hd2
  cases hd2
  have fi:=hf it (by simp)
  have hi':i < es.size:=by omega
  obtain ⟨x,b,e1,e2,e3,e4⟩:=keys i hi'
  refine rawI_item ki raw hi' fun h' ho hT hsz hk => ?_
  refine ⟨.ref s.heap.objs.size,rfl,?_⟩
  refine wpAny_letOwnedTupleGo_items ho fun h2 he2 sb => ?_
  have hfr:H s.heap.objs.size = none:=I.hok.fresh (Nat.le_refl _)
  have lt:∀ b o,s.heap.get? b = some o → b ≠ s.heap.objs.size:=fun b o q => Nat.ne_of_lt (Heap.lt_size q)
  have ilt:it ≠ s.heap.objs.size:=lt _ _ ki
  have kp:∀ b o,b ≠ it → s.heap.get? b = some o → h2.get? b = some o:=fun b o b1 q => (sb.2 b b1).trans (hk b o b1 q)
  have kt:∀ b u,H b = some u → b ≠ s.heap.objs.size:=fun b u q => ne_of_none q hfr
  have ke:∀ b u,H b = some u → b ≠ it:=fun b u q => ne_of_none q fi.1
  have T2:h2.get? s.heap.objs.size = some { cls:=.type "tuple",data:=.seq #[es[i].key,es[i].val] }:=(sb.2 _ (Ne.symm ilt)).trans hT
  refine ⟨.ref s.heap.objs.size,upd H s.heap.objs.size (.tup [.ref b,x.2]),?_,rfl,⟨s.heap.objs.size,b,x,rfl,hfr,e1,e3,rfl⟩,⟨es,ep,_,_,hd,he2⟩,fun c hb => ?_⟩
  ·refine I.call' (s':={ s with heap:=h2 }) (ch:=[it]) rfl ?_ ?_ I.bare (fun b hb => ⟨(hf b hb).2.2.2.1,(hf b hb).2.1,(hf b hb).2.2.2.2.1,(hf b hb).2.2.2.2.2⟩)
   ·refine ⟨fun b o q _ _ hx => kp b o (fun z => hx (by simp [z])) q,fun b o q _ _ hx => ⟨o.slots,kp b o (fun z => hx (by simp [z])) q⟩,fun b o q n _ => by rw [upd_ne (lt b o q)]; exact n,fun b o q hx => ⟨o,kp b o (fun z => hx (by simp [z])) q⟩,fun b ys q => by rw [upd_ne (kt b _ q)]; exact q,fun b o y q => by rw [upd_ne (kt b _ q)]; exact q,fun b ps q => ⟨#[],by rw [upd_ne (kt b _ q),q]; simp⟩⟩
   ·intro c u q
    by_cases hb:c = s.heap.objs.size
    ·subst hb
     rw [upd_same] at q
     cases q
     exact ⟨by show 2 ≤ sizeLine; decide,[es[i].key,es[i].val],.cons e2 (.cons e4 .nil),⟨_,T2,rfl,0,rfl⟩,fun o q => by rw [T2] at q; cases q; rfl⟩
    ·rw [upd_ne hb] at q
     refine (I.hok c u q).stay (fun c' v hc g => ?_) (fun c' g => by rw [upd_ne (kt c' _ g)]; exact g) fun c' ys g => by rw [upd_ne (kt c' _ g)]; exact g
     rcases hc with z | z
     ·subst z; exact kp _ _ (ke _ _ q) g
     ·exact kp _ _ (ke _ _ z) g
  ·have z:c = it:=by simpa using hb
   rw [z,upd_ne ilt]; exact fi.1
 done:=by
  intro X hP hw hK hc i pins s σ H E I hf st hg
  subst hP hw hK
  obtain ⟨es,ep,ok,ov,hd,ki⟩:=st
  obtain ⟨he,hi⟩:=hg
  obtain ⟨es2,ep2,lo,hd2,raw,sz,keys⟩:=frz_raw I.hok he
  rw [hd] at hd2
  cases hd2
  obtain ⟨f0,f1,f2,f3,f4,f5⟩:=hf it (by simp)
  exact rawI_end (I.ok.hd hc) ki raw (by omega) fun h' eb => ⟨rfl,I.turned (t':=s.toks) (fun b ob hb e => eb b ob hb e) f0 f1 f3 f4 f5⟩
structure M0 (X:Cx) (o:Expr) (m:Str) (apos cpos:Pos):Prop where
 base:attributeBase o m X.env (eval o X.env) = eval o X.env
 line:(apos.endLine == cpos.line) = true
section
variable {X:Cx} {es':List Expr} {kt:Nat} {pt:Pos}
def iItems (te:TE):TI:=fun σ H R => te σ H fun x H1 => ∃ a xs,x = .ref a ∧ ((H1 a = some (.dT xs) ∧ ∀ o,R (Iti a o xs) (upd H1 a (.frz o (.dT xs)))) ∨ ∃ o,H1 a = some (.frz o (.dT xs)) ∧ R (Iti a o xs) H1)
theorem items_it {pins:List (Addr × Obj)} {σ:St} {H:Hp} {s:Shared} {R:It → Hp → Prop} {E:Value → Shared → Prop} {a:Addr} {o:Obj} {xs:List (List L2.Key × V)} (I:Inv X pins σ H s) (e:H a = some (.frz o (.dT xs))) (r:R (Iti a o xs) H) :
  wpAny (model X.prog X.w) X.A (call (.builtin "dict.items") [.ref a]) (fun v s1 => wpAny (model X.prog X.w) X.A (pyIter v) (PIE X pins σ (.Tuple es' kt pt) R) E s1) E s:=by
 obtain ⟨es,ep,lo,hd,raw,sz,keys⟩:=frz_raw I.hok e
 refine rawI_view lo raw ?_
 obtain ⟨o1,a1,a2,a3⟩:=raw
 refine rawI_iter (es:=es) (ep:=ep) ⟨_,Heap.get?_push_size _ rfl,rfl,rfl⟩ ⟨o1,Heap.get?_push_of_some _ a1,a2,a3⟩ ?_
 refine ⟨_,[_],_,Iti a o xs,H,rfl,I.kept (t':=s.toks) fun b ob q => Heap.get?_push_of_some _ (Heap.get?_push_of_some _ q),turn_items a _ o xs,⟨es,ep,_,_,hd,Heap.get?_push_size _ rfl⟩,fun b hb => ?_,r⟩
 rw [List.mem_singleton.mp hb]
 exact I.fpOk (by rw [Heap.size_push]; exact Nat.le_succ _) (I.hok.fresh (by rw [Heap.size_push]; exact Nat.le_succ _))
theorem pi_items {e:Expr} {te:TE} {apos cpos:Pos} (he:PE X e te) (m:M0 X e "items" apos cpos):PI X (.Tuple es' kt pt) (.Call (.Attribute e "items" apos) [] [] cpos) (iItems te):=by
 intro pins s σ H R I h
 refine wpAny_Call_method m.base rfl m.line PySem.F.plainAttrs_dict PySem.F.slot_dict_items PySem.F.type_dict_items (thn (he pins s σ H _ I h) fun u s1 ⟨x,H1,I1,rx,a,xs,ex,q⟩ => ?_)
 subst ex
 obtain rfl:u = Value.ref a:=rx
 have d:IsD H1 a:=by
  rcases q with ⟨e1,_⟩ | ⟨o,e1,_⟩
  ·exact .inr ⟨xs,.inl e1⟩
  ·exact .inr ⟨xs,.inr ⟨o,e1⟩⟩
 obtain ⟨t1,t2,_⟩:=isD_at I1 d
 refine ⟨t1,t2,Calls.callWith_builtin rfl (show wpAny _ _ (evalArgs (Value.builtin "dict.items") true [] []) _ _ _ from ?_)⟩
 refine PyProof.Rows.evalArgs_none ?_
 rcases q with ⟨e1,k⟩ | ⟨o,e1,k⟩
 ·obtain ⟨o,_,I2⟩:=dt_frz I1 e1
  exact items_it I2 upd_same (k o)
 ·exact items_it I1 e1 k
def itemsI:List (List L2.Key × Wv) → Option (List Wv)
 | [] => some []
 | kv :: r => (match intK kv.1,itemsI r with | some ns,some l => some (.tup [.tup (ns.map Wv.int),kv.2] :: l) | _,_ => none)
def itemsW (w:Wv) (st:Hs):Re Wk2:=match w with
 | .ref l => (match st[l]? with
  | some (.dcT kvs) => (match itemsI kvs with | some ws => .ok (none,ws) (st.set l (.dcF kvs)) | none => .bad)
  | some (.dcF kvs) => (match itemsI kvs with | some ws => .ok (none,ws) st | none => .bad)
  | _ => .bad)
 | _ => .bad
def giItems (g:GE):GI2:=fun ρ st => (g ρ st).bind itemsW
theorem itemsI_get:∀ {kvs:List (List L2.Key × Wv)} {ws:List Wv},itemsI kvs = some ws → ws.length = kvs.length ∧ ∀ (i:Nat) (h:i < ws.length),∃ kv ns,kvs[i]? = some kv ∧ intK kv.1 = some ns ∧ ws[i] = .tup [.tup (ns.map Wv.int),kv.2]
 | [],ws,e => by cases e; exact ⟨rfl,fun i h => by cases h⟩
 | k :: ks,ws,e => by
  unfold itemsI at e
  cases q1:intK k.1 with
  | none => rw [q1] at e; cases e
  | some ns =>
   cases q2:itemsI ks with
   | none => rw [q1,q2] at e; cases e
   | some l =>
    rw [q1,q2] at e
    cases e
    obtain ⟨h1,h2⟩:=itemsI_get q2
    refine ⟨by simp [h1],fun i h => ?_⟩
    cases i with
    | zero => exact ⟨k,ns,rfl,q1,rfl⟩
    | succ i => exact h2 i (by simpa using h)
theorem relK_get {κ:Type} {K:PySem.W.Frag} {m:Mp} {H:Hp}:∀ {kvs:List (κ × Wv)} {xs:List (κ × V)},RelK K m H kvs xs → ∀ {i:Nat} {kv:κ × Wv},kvs[i]? = some kv → ∃ v,xs[i]? = some (kv.1,v) ∧ RelW K m H kv.2 v
 | [],xs,h,i,kv,e => by cases e
 | p :: r,xs,h,0,kv,e => by
  obtain ⟨v,t,rfl,h1,h2⟩:=h.cons_inv
  cases e
  exact ⟨v,rfl,h1⟩
 | p :: r,xs,h,i + 1,kv,e => by
  obtain ⟨v,t,rfl,h1,h2⟩:=h.cons_inv
  exact relK_get h2 (i:=i) e
theorem it_items {m1:Mp} {H1:Hp} {a:Addr} {o:Obj} {kvs:List (List L2.Key × Wv)} {xs:List (List L2.Key × V)} {ws:List Wv} (e:H1 a = some (.frz o (.dT xs))) (r:RelK X.K m1 H1 kvs xs) (hk:itemsI kvs = some ws):ItFor2 X (none,ws) m1 H1 (Iti a o xs):=by
 obtain ⟨l1,g1⟩:=itemsI_get hk
 have l2:ws.length = xs.length:=by rw [l1,r.length]
 refine ⟨fun k H m' st e' S c h => ⟨e'.frz _ _ _ e,by rw [← l2]; exact h⟩,fun k H m' st e' S c h => ⟨e'.frz _ _ _ e,by rw [← l2]; exact Nat.le_of_eq h.symm⟩,fun k h H v H' m' st e' S c y => ?_⟩
 obtain ⟨p,b,x,rfl,fr,y1,y2,rfl⟩:=y
 obtain ⟨kv,ns,f1,f2,f3⟩:=g1 k h
 obtain ⟨u,f4,f5⟩:=relK_get r f1
 rw [y1] at f4
 cases f4
 have eU:Ext X.K m' H m' (upd H p (.tup [.ref b,u])):=Ext.updW (.inl fr)
 refine ⟨eU,S.fresh fr,?_⟩
 rw [f3]
 rw [intK_kV f2] at y2
 unfold RelW
 refine ⟨p,_,rfl,upd_same,RelWs.cons ?_ (RelWs.cons (RelW.mono (e'.trans eU) _ _ f5) RelWs.nil)⟩
 unfold RelW
 exact ⟨b,_,rfl,eU.tup _ _ y2,RelWs.ints ns⟩
theorem ji2_items {e:Expr} {g:GE} {apos cpos:Pos} (h:JE X e g) (m:M0 X e "items" apos cpos):JI2 X (.Tuple es' kt pt) (.Call (.Attribute e "items" apos) [] [] cpos) (giItems g):=by
 refine ⟨_,pi_items pe_SE m,fun ρ st σ H m Q S R p => ?_⟩
 refine h.go S R (PostG.bind p) fun w st1 v m1 H1 p1 e1 S1 rw' => ?_
 unfold itemsW at p1
 cases w with
 | ref l =>
  unfold RelW at rw'
  obtain ⟨a,rfl,ha⟩:=rw'
  dsimp only at p1
  cases el:st1[l]? with
  | none => rw [el] at p1; exact False.elim p1
  | some ob =>
   rw [el] at p1
   cases ob with
   | dcT kvs =>
    dsimp only at p1
    cases ek:itemsI kvs with
    | none => rw [ek] at p1; exact False.elim p1
    | some ws =>
     rw [ek] at p1
     obtain ⟨xs,h1,h2⟩:=(show ∃ ys,H1 a = some (.dT ys) ∧ RelK X.K m1 H1 kvs ys from S1.obj _ _ _ ha el)
     refine ⟨a,xs,rfl,.inl ⟨h1,fun o => ?_⟩⟩
     have ex:Ext X.K m1 H1 m1 (upd H1 a (.frz o (.dT xs))):=Ext.updW (.inr (.inr (.inr ⟨_,h1⟩)))
     have S2:Sim X.K m1 (st1.set l (.dcF kvs)) (upd H1 a (.frz o (.dT xs))):=S1.writeO ha el rfl ⟨o,xs,upd_same,h2.mono ex⟩
     exact p1 m1 _ _ (e1.trans ex) S2 trivial (it_items upd_same (h2.mono ex) ek)
   | dcF kvs =>
    dsimp only at p1
    cases ek:itemsI kvs with
    | none => rw [ek] at p1; exact False.elim p1
    | some ws =>
     rw [ek] at p1
     obtain ⟨o,xs,h1,h2⟩:=(show ∃ o ys,H1 a = some (.frz o (.dT ys)) ∧ RelK X.K m1 H1 kvs ys from S1.obj _ _ _ ha el)
     exact ⟨a,xs,rfl,.inr ⟨o,h1,p1 m1 _ _ e1 S1 trivial (it_items h1 h2 ek)⟩⟩
   | _ => exact False.elim p1
 | _ => exact False.elim p1
end
end J
namespace J
open PySem PySem.Spec PyProof.Rows L2
structure Ct where
 N:List Str
 names:List (Str × NameKind)
 consts:List (Str × Wv)
 bl:List Str
 fns:List (Str × Nat × (List Wv → Hs → Re Wv))
 tb:Tab:=[]
 tt:TabT:=[]
 clss:List Str:=[]
 cln:List Str:=[]
 tc:Tab:=[]
 dcs:List (Str × Dc):=[]
 dts:List Str:=[]
 dks:List Str:=[]
 dis:List Str:=[]
 fnu:List Str:=[]
 loop:Bool:=true
 free:Bool:=true
 top:Bool:=true
 lam:Option (Lm × LF):=none
 fnL:List (Str × FLt):=[]
 lfn:List Str:=[]
 lj:Nat:=0
 self:Str:=""
def ixOf (x:Str):List Str → Option Nat
 | [] => none
 | y :: r => if x = y then some 0 else match ixOf x r with
  | some i => some (i + 1)
  | none => none
theorem ixOf_get {x:Str}:∀ {N:List Str} {i:Nat},ixOf x N = some i → N[i]? = some x
 | [],i,h => by cases h
 | y :: r,i,h => by
  unfold ixOf at h
  by_cases e:x = y
  ·rw [if_pos e] at h; cases h; subst e; rfl
  ·rw [if_neg e] at h
   cases q:ixOf x r with
   | none => rw [q] at h; cases h
   | some j => rw [q] at h; cases h; simpa using ixOf_get q
def okN (x:Str):Bool:=!(x == ("__debug__":Str)) && !(x == ("__classdict__":Str)) && !(decide (x = "__name__"))
theorem okN_d {x:Str} (h:okN x = true):(x == ("__debug__":Str)) = false:=by unfold okN at h; revert h; cases (x == ("__debug__":Str)) <;> simp
theorem okN_c {x:Str} (h:okN x = true):(x == ("__classdict__":Str)) = false:=by unfold okN at h; revert h; cases (x == ("__classdict__":Str)) <;> simp
theorem okN_n {x:Str} (h:okN x = true):x ≠ "__name__":=by
 intro e
 subst e
 unfold okN at h
 simp at h
def FlatL:List Wv → List V → Prop
 | [],[] => True
 | .int i :: r,.int j :: t => i = j ∧ FlatL r t
 | .str x :: r,.str y :: t => (x = y ∧ PyData.strOk x = true) ∧ FlatL r t
 | _,_ => False
theorem FlatL.rel {K:PySem.W.Frag} {m:Mp} {H:Hp}:∀ {ws:List Wv} {vs:List V},FlatL ws vs → RelWs K m H ws vs
 | [],[],_ => RelWs.nil
 | .int i :: r,.int j :: t,h => by
  obtain ⟨rfl,h⟩:=h
  exact RelWs.cons (by unfold RelW; rfl) h.rel
 | .str x :: r,.str y :: t,h => by
  obtain ⟨⟨rfl,hx⟩,h⟩:=h
  exact RelWs.cons (by unfold RelW; exact ⟨rfl,hx⟩) h.rel
 | [],_ :: _,h => False.elim h
 | .int i :: r,[],h => False.elim h
 | .str i :: r,[],h => False.elim h
 | .int i :: r,.str _ :: _,h => False.elim h
 | .str i :: r,.int _ :: _,h => False.elim h
def CstOk (K:PySem.W.Frag) (mg:Str → Option Value) (x:Str):Wv → Prop
 | .int i => ∃ t,mg x = some (.int i t)
 | .str y => (∃ t,mg x = some (.str y t)) ∧ PyData.strOk y = true
 | .ktp ws => ∃ (a:Addr) (vs:List V) (o:Obj) (its:Array Value) (n:Nat),mg x = some (.ref a) ∧ K.lookup a = some o ∧ o.cls = .type "tuple" ∧ o.data = .seq its n ∧ its.size ≤ sizeLine ∧ Vals vs its.toList ∧ FlatL ws vs
 | _ => False
structure GoodX (c:Ct) (k:Nat) (X:Cx):Prop where
 lam:∀ p L,c.lam = some (p,L) → HasL X.prog X.w X.K X.mg X.base k p 3 L
 fnL:∀ x F,c.fnL.lookup x = some F → FnL X.prog X.w X.K X.mg k c.lj x F
 fnJ:∀ x n F,c.fns.lookup x = some (n,F) → c.lfn.contains x = true → ∀ base,ModB X.K X.mg base → Has X.prog X.w X.K X.mg base c.lj x n F
 at':c.top = true → c.self ∈ lamDefs → ∃ P,LamAt X c.self P
structure Good (c:Ct) (k:Nat) (X:Cx):Prop where
 N:X.N = c.N
 sc:X.env.scope.names = c.names
 nd:c.N.Nodup
 un:X.A.units + 64 < cLine
 free:c.free = true → Room k X.A ∧ X.calm = true
 loop:c.loop = true → X.calm = true ∧ PassesOwn (model X.prog X.w) X.A X.env X.xe
 cst:∀ x w,c.consts.lookup x = some w → CstOk X.K X.mg x w
 bl:∀ x,c.bl.contains x = true → X.mg x = none
 fns:∀ x n F,c.fns.lookup x = some (n,F) → Has X.prog X.w X.K X.mg X.base k x n F
 stk:c.top = true → Stk X
 fn:c.top = true → ∀ x,X.fn x = true
 kind:X.env.scope.kind = .function
 tab:TabOk X.K c.tb c.tt c.tc
 cls:∀ x,c.clss.contains x = true → ∃ C,X.mg x = some (.ref C) ∧ ExcC X.K x C
 cln:∀ x,c.cln.contains x = true → ∃ C,X.mg x = some (.ref C) ∧ ClsAt X.K x C
 dcs:∀ x kvs,c.dcs.lookup x = some kvs → DcAt X.K X.w X.mg x kvs
 rm:RoomU k X.A
 fnu:∀ x n F,c.fnu.contains x = true → c.fns.lookup x = some (n,F) → HasU X.prog X.w X.K X.mg X.base k x n F
 x:GoodX c k X
 fr:FrOk X
 hd:HdC X
theorem room_un {k:Nat} {A:Around} (hr:Room k A):A.units + 64 < cLine:=by have:=hr.un; omega
def Ct.inTry (c:Ct):Ct:={ c with loop:=false }
def Ct.inSuite (c:Ct):Ct:={ c with loop:=false,free:=false }
abbrev Ct.un (c:Ct):Ct:=c.inSuite
theorem Good.body {c:Ct} {k:Nat} {X:Cx} (G:Good c k X) (hf:c.free = true) (pn:List (Addr × Obj)) (E:Value → Shared → Prop):Good c.inTry k (reX X X.A true pn E) :=
 ⟨G.N,G.sc,G.nd,G.un,fun _ => ⟨(G.free hf).1,rfl⟩,(fun z => by cases z),G.cst,G.bl,G.fns,fun z => ⟨(G.stk z).st,(G.stk z).fr,(G.stk z).ex⟩,G.fn,G.kind,G.tab,G.cls,G.cln,G.dcs,⟨G.rm.d,G.rm.u⟩,G.fnu,⟨G.x.lam,G.x.fnL,G.x.fnJ,fun t m => (G.x.at' t m).imp fun P L => ⟨L.code,L.qual,L.tab,L.mem,L.uniq,L.bm⟩⟩,G.fr,G.hd⟩
theorem Good.suite {c:Ct} {k:Nat} {X:Cx} (G:Good c k X) {a:Addr} {o:Obj} {u:HO} (nx:NoCx o) (pn:List (Addr × Obj)) (E:Value → Shared → Prop):Good c.inSuite k (suX X a (.frz o u) pn E) :=
 ⟨G.N,G.sc,G.nd,G.un,(fun z => by cases z),(fun z => by cases z),G.cst,G.bl,G.fns,fun z => ⟨(G.stk z).st,(G.stk z).fr,(G.stk z).ex⟩,G.fn,G.kind,G.tab,G.cls,G.cln,G.dcs,⟨G.rm.d,G.rm.u⟩,G.fnu,⟨G.x.lam,G.x.fnL,G.x.fnJ,fun t m => (G.x.at' t m).imp fun P L => ⟨L.code,L.qual,L.tab,L.mem,L.uniq,L.bm⟩⟩,G.fr,.inr ⟨a,o,u,rfl,nx,upd_same⟩⟩
theorem boot_tyV:bootBuiltins "ValueError" = some (.type "ValueError"):=by decide +kernel
def tyOf (x:Str):Option String :=
 if x = "int" then some "int" else if x = "str" then some "str" else if x = "bool" then some "bool" else if x = "tuple" then some "tuple" else if x = "list" then some "list" else if x = "ValueError" then some "ValueError" else none
theorem tyOf_ok {x:Str} {T:String} (h:tyOf x = some T):bootBuiltins x = some (.type T):=by
 unfold tyOf at h
 by_cases e:x = "int"
 ·rw [if_pos e] at h; cases h; subst e; exact boot_tyI
 rw [if_neg e] at h
 by_cases e:x = "str"
 ·rw [if_pos e] at h; cases h; subst e; exact boot_tyS
 rw [if_neg e] at h
 by_cases e:x = "bool"
 ·rw [if_pos e] at h; cases h; subst e; exact boot_tyB
 rw [if_neg e] at h
 by_cases e:x = "tuple"
 ·rw [if_pos e] at h; cases h; subst e; exact boot_tyT
 rw [if_neg e] at h
 by_cases e:x = "list"
 ·rw [if_pos e] at h; cases h; subst e; exact boot_tyL
 rw [if_neg e] at h
 by_cases e:x = "ValueError"
 ·rw [if_pos e] at h; cases h; subst e; exact boot_tyV
 rw [if_neg e] at h
 cases h
section
variable {X:Cx}
def oBad:Op2:=fun _ _ _ => .bad
theorem ow_bad {f:Value → Value → Sem Value}:OpW X f oBad:=⟨fun _ _ _ _ => False,fun _ _ _ _ _ _ _ _ _ _ _ _ h => h.elim,fun _ _ _ _ _ _ _ _ _ _ _ p => p⟩
noncomputable def binO:Operator → Op2
 | .Add => oAdd
 | .Sub => oSub
 | .Mult => oMulL
 | .FloorDiv => oFdiv
 | .Mod => oMod
 | .Pow => oPow
 | _ => oBad
theorem binO_ok (o:Operator):OpW X (binaryOp o) (binO o):=by
 cases o <;> first | exact ow_add | exact ow_sub | exact ow_mulL1 | exact ow_fdiv | exact ow_mod | exact ow_pow | exact ow_bad
def cmpO:CmpOp → Op2
 | .Eq => oEq
 | .NotEq => oNe
 | .Lt => oLt
 | .LtE => oLe
 | .Gt => oGt
 | .GtE => oGe
 | .Is => oIs
 | .IsNot => oIsNot
 | .In => oIn2
 | .NotIn => oNotIn2
theorem cmpO_ok (hu:X.A.units + 64 < cLine) (o:CmpOp):OpW X (compareOp o) (cmpO o):=by
 cases o <;> first | exact ow_eq hu | exact ow_ne hu | exact ow_ltT hu | exact ow_leT hu | exact ow_gt | exact ow_ge | exact ow_is | exact ow_isnot | exact ow_in2 | exact ow_notIn2
def cName (c:Ct) (x:Str):GE:=if okN x = true then
  match c.names.lookup x with
  | some .local => (match ixOf x c.N with | some i => gVar i | none => gBad)
  | some .cell => (match ixOf x c.N with | some i => gVar i | none => gBad)
  | some .free => (match ixOf x c.N with | some i => gVar i | none => gBad)
  | some .globalImplicit => (match c.consts.lookup x with
   | some w => gC w
   | none => if c.clss.contains x = true then gC (.cls x) else if c.cln.contains x = true then gC (.cls x) else if c.bl.contains x = true then (match tyOf x with | some T => gC (.ty T) | none => gBad) else gBad)
  | _ => gBad
 else gBad
theorem cName_ok {c:Ct} {k:Nat} (G:Good c k X) (x:Str) (pos:Pos):JE X (.Name x pos) (cName c x):=by
 unfold cName
 by_cases hx:okN x = true
 ·rw [if_pos hx]
  cases e:c.names.lookup x with
  | none => exact je_bad
  | some kd =>
   have el:X.env.scope.names.lookup x = some kd:=by rw [G.sc]; exact e
   cases kd with
   | «local» =>
    dsimp only
    cases e2:ixOf x c.N with
    | none => exact je_bad
    | some i => exact je_var i (by rw [G.N]; exact ixOf_get e2) (Or.inl el) (okN_d hx) (okN_c hx)
   | cell =>
    dsimp only
    cases e2:ixOf x c.N with
    | none => exact je_bad
    | some i => exact je_var i (by rw [G.N]; exact ixOf_get e2) (Or.inr (Or.inl el)) (okN_d hx) (okN_c hx)
   | free =>
    dsimp only
    cases e2:ixOf x c.N with
    | none => exact je_bad
    | some i => exact je_var i (by rw [G.N]; exact ixOf_get e2) (Or.inr (Or.inr el)) (okN_d hx) (okN_c hx)
   | globalImplicit =>
    dsimp only
    have hg:Gl X x:=el
    cases e2:c.consts.lookup x with
    | some w =>
     have q:=G.cst x w e2
     cases w with
     | int i => obtain ⟨t,q⟩:=q; exact je_globI hg q (okN_d hx)
     | str y => obtain ⟨⟨t,q⟩,z⟩:=q; exact je_globS hg q z (okN_d hx)
     | ktp ws =>
      obtain ⟨a,vs,o,its,n,q1,q2,q3,q4,q5,q6,q7⟩:=q
      exact JE.of (pe_glob (v:=.ref a) hg q1 rfl (okN_d hx)) fun ρ st σ H m Q S R p => p (.ref a) m H Ext.refl S (by unfold RelW; exact ⟨a,vs,rfl,⟨o,its,n,q2,q3,q4,q5,q6⟩,q7.rel⟩)
     | _ => exact False.elim q
    | none =>
     dsimp only
     by_cases e5:c.clss.contains x = true
     ·rw [if_pos e5]
      obtain ⟨C,q1,q2⟩:=G.cls x e5
      exact JE.of (pe_glob (v:=.ref C) hg q1 rfl (okN_d hx)) fun ρ st σ H m Q S R p => p (.ref C) m H Ext.refl S (by unfold RelW; exact ⟨C,rfl,q2.cls⟩)
     rw [if_neg e5]
     by_cases e6:c.cln.contains x = true
     ·rw [if_pos e6]
      obtain ⟨C,q1,q2⟩:=G.cln x e6
      exact JE.of (pe_glob (v:=.ref C) hg q1 rfl (okN_d hx)) fun ρ st σ H m Q S R p => p (.ref C) m H Ext.refl S (by unfold RelW; exact ⟨C,rfl,q2⟩)
     rw [if_neg e6]
     by_cases e3:c.bl.contains x = true
     ·rw [if_pos e3]
      cases e4:tyOf x with
      | none => exact je_bad
      | some T => exact je_ty hg (G.bl x e3) (tyOf_ok e4) (okN_n hx) (okN_d hx)
     ·rw [if_neg e3]; exact je_bad
   | _ => exact je_bad
 ·rw [if_neg hx]; exact je_bad
def cConst:Const → GE
 | .none => gC .non
 | .bool b => gC (.bl b)
 | .int i => gC (.int i)
 | .str x => if PyData.strOk x = true then gC (.str x) else gBad
 | _ => gBad
theorem cConst_ok (k:Const) (j:Nat) (pos:Pos):JE X (.Constant k j pos) (cConst k):=by
 cases k with
 | none => exact je_non
 | bool b => exact je_bl
 | int i => exact je_int
 | str x =>
  show JE X _ (if PyData.strOk x = true then gC (.str x) else gBad)
  by_cases h:PyData.strOk x = true
  ·rw [if_pos h]; exact je_str h
  ·rw [if_neg h]; exact je_bad
 | _ => exact je_bad
def plain:Expr → Bool
 | .Starred .. => false
 | _ => true
theorem star_plain {e:Expr} {es:List Expr} {env:Env} (h:plain e = true):starEach (e :: es) env = (false,eval e env) :: starEach es env:=by
 cases e <;> first | rfl | cases h
theorem any_plain {pos:Pos} {env:Env}:∀ {es:List Expr},es.all plain = true → (backTo pos (starEach es env)).any (·.1) = false
 | [],_ => rfl
 | e :: es,h => by
  rw [List.all_cons,Bool.and_eq_true] at h
  rw [star_plain h.1]
  have q:=any_plain (pos:=pos) (env:=env) h.2
  unfold backTo at q ⊢
  rw [List.map_cons,List.any_cons,q]
  rfl
def argsG (f:Expr → GE):List Expr → GA
 | [] => gNil
 | e :: es => gCons (f e) (argsG f es)
theorem args_ok {f:Expr → GE} (h:∀ e,JE X e (f e)):∀ es:List Expr,es.all plain = true → JA X es (argsG f es)
 | [],_ => ja_nil
 | e :: es,g => by
  rw [List.all_cons,Bool.and_eq_true] at g
  exact ja_cons (h e) (args_ok h es g.2) (star_plain g.1)
def blO (c:Ct) (x:Str):Option (Value × (List Wv → Hs → Re Wv)) :=
 if x = "len" then some (.builtin "len",if c.dts.isEmpty = true then oLen else oLenD) else if x = "abs" then some (.builtin "abs",oAbs) else if x = "isinstance" then some (.builtin "isinstance",oIsA c.tb c.tt) else if x = "int" then some (.type "int",oInt2) else if x = "all" ∧ c.free = true then some (.builtin "all",oAll) else if x = "min" ∧ c.free = true then some (.builtin "min",oMin2) else if x = "sum" ∧ c.free = true then some (.builtin "sum",oSum) else if x = "ord" then some (.builtin "ord",oOrd) else if x = "dict" then some (.type "dict",oDict) else none
theorem boot_all':bootBuiltins "all" = some (.builtin "all"):=by decide +kernel
theorem boot_min':bootBuiltins "min" = some (.builtin "min"):=by decide +kernel
theorem boot_sum':bootBuiltins "sum" = some (.builtin "sum"):=by decide +kernel
theorem len_or (c:Ct):CallW X (.builtin "len") (if c.dts.isEmpty = true then oLen else oLenD):=by
 by_cases e2:c.dts.isEmpty = true
 ·rw [if_pos e2]; exact cw_len
 ·rw [if_neg e2]; exact cw_lenD
theorem boot_tyD:bootBuiltins "dict" = some (.type "dict"):=by decide +kernel
theorem blO_ok {c:Ct} {x:Str} {v:Value} {op:List Wv → Hs → Re Wv} (O:TabOk X.K c.tb c.tt c.tc) (hc:c.free = true → X.calm = true) (h:blO c x = some (v,op)):bootBuiltins x = some v ∧ CallW X v op ∧ ((∃ id,v = .builtin id) ∨ ∃ T,v = .type T):=by
 unfold blO at h
 by_cases e:x = "len"
 ·rw [if_pos e] at h; cases h; subst e; exact ⟨boot_lenJ,len_or c,.inl ⟨_,rfl⟩⟩
 rw [if_neg e] at h
 by_cases e:x = "abs"
 ·rw [if_pos e] at h; cases h; subst e; exact ⟨boot_absJ,cw_abs,.inl ⟨_,rfl⟩⟩
 rw [if_neg e] at h
 by_cases e:x = "isinstance"
 ·rw [if_pos e] at h; cases h; subst e; exact ⟨boot_isI,cw_isA O,.inl ⟨_,rfl⟩⟩
 rw [if_neg e] at h
 by_cases e:x = "int"
 ·rw [if_pos e] at h; cases h; subst e; exact ⟨boot_tyI,cw_int2,.inr ⟨_,rfl⟩⟩
 rw [if_neg e] at h
 by_cases e:x = "all" ∧ c.free = true
 ·rw [if_pos e] at h; cases h; obtain ⟨rfl,e2⟩:=e; exact ⟨boot_all',cw_all (hc e2),.inl ⟨_,rfl⟩⟩
 rw [if_neg e] at h
 by_cases e:x = "min" ∧ c.free = true
 ·rw [if_pos e] at h; cases h; obtain ⟨rfl,e2⟩:=e; exact ⟨boot_min',cw_min2 (hc e2),.inl ⟨_,rfl⟩⟩
 rw [if_neg e] at h
 by_cases e:x = "sum" ∧ c.free = true
 ·rw [if_pos e] at h; cases h; obtain ⟨rfl,e2⟩:=e; exact ⟨boot_sum',cw_sum (hc e2),.inl ⟨_,rfl⟩⟩
 rw [if_neg e] at h
 by_cases e:x = "ord"
 ·rw [if_pos e] at h; cases h; subst e; exact ⟨boot_ordJ,cw_ord,.inl ⟨_,rfl⟩⟩
 rw [if_neg e] at h
 by_cases e:x = "dict"
 ·rw [if_pos e] at h; cases h; subst e; exact ⟨boot_tyD,cw_dict,.inr ⟨_,rfl⟩⟩
 rw [if_neg e] at h
 cases h
noncomputable def cCallN (c:Ct) (fE:Expr → GE) (x:Str) (es:List Expr):GE:=if okN x = true ∧ es.all plain = true ∧ c.names.lookup x = some .globalImplicit then
   (match c.fns.lookup x with
   | some (n,F) => if c.free = true then gCall n F (argsG fE es) else gBad
   | none => if c.bl.contains x = true then (match blO c x with | some (_,op) => gCallB op (argsG fE es) | none => gBad) else gBad)
  else gBad
def cMeth (fE:Expr → GE) (o:Expr) (name:Str) (e:Expr) (apos cpos:Pos):GE:=if plain e = true ∧ (apos.endLine == cpos.line) = true then
   (if name = "append" then gMeth mApp (fE o) (fE e) else if name = "extend" then gMeth mExtT (fE o) (fE e) else gBad)
  else gBad
def cMethL (fE:Expr → GE) (o:Expr) (name:Str) (e:Expr) (apos cpos:Pos):GE:=if plain e = true ∧ (apos.endLine == cpos.line) = true then
   (if name = "count" then gMeth mLCount (fE o) (fE e) else if name = "index" then gMeth mLIndex (fE o) (fE e) else gBad)
  else gBad
theorem cMethL_ok {fE:Expr → GE} (h:∀ e,JE X e (fE e)) (x name:Str) (e:Expr) (p apos cpos:Pos):JE X (.Call (.Attribute (.Name x p) name apos) [e] [] cpos) (cMethL fE (.Name x p) name e apos cpos):=by
 unfold cMethL
 by_cases g:plain e = true ∧ (apos.endLine == cpos.line) = true
 ·rw [if_pos g]
  by_cases n1:name = "count"
  ·rw [if_pos n1]
   subst n1
   exact je_meth mw_lcount PySem.F.slot_list_count PySem.F.type_list_count (h _) (h e) (star_plain g.1) g.2
  rw [if_neg n1]
  by_cases n2:name = "index"
  ·rw [if_pos n2]
   subst n2
   exact je_meth mw_lindex PySem.F.slot_list_index PySem.F.type_list_index (h _) (h e) (star_plain g.1) g.2
  rw [if_neg n2]
  exact je_bad
 ·rw [if_neg g]; exact je_bad
def isBase:Expr → Bool
 | .Name .. => true
 | .Constant (.str _) _ _ => true
 | .Subscript .. => true
 | _ => false
def cMethS (fE:Expr → GE) (o:Expr) (name:Str) (es:List Expr) (apos cpos:Pos):GE:=if isBase o = true ∧ es.all plain = true ∧ es.length < 20 ∧ (apos.endLine == cpos.line) = true then
   (if name = "count" then gMethS mCount (fE o) (argsG fE es) else if name = "index" then gMethS mIndex (fE o) (argsG fE es) else gBad)
  else gBad
theorem base_ok {o:Expr} {name:Str} {env:Env} (h:isBase o = true):attributeBase o name env (eval o env) = eval o env:=by
 cases o with
 | Constant k j p => cases k <;> first | rfl | cases h
 | _ => first | rfl | cases h
theorem all_plain {pos:Pos} {env:Env}:∀ {es:List Expr},es.all plain = true → (backTo pos (starEach es env)).all (fun x => !x.1) = true
 | [],_ => rfl
 | e :: es,h => by
  rw [List.all_cons,Bool.and_eq_true] at h
  rw [star_plain h.1]
  have q:=all_plain (pos:=pos) (env:=env) h.2
  unfold backTo at q ⊢
  rw [List.map_cons,List.all_cons,q]
  rfl
theorem cMethS_ok {fE:Expr → GE} (h:∀ e,JE X e (fE e)) (o:Expr) (name:Str) (e:Expr) (es:List Expr) (apos cpos:Pos):JE X (.Call (.Attribute o name apos) (e :: es) [] cpos) (cMethS fE o name (e :: es) apos cpos):=by
 unfold cMethS
 by_cases g:isBase o = true ∧ (e :: es).all plain = true ∧ (e :: es).length < 20 ∧ (apos.endLine == cpos.line) = true
 ·rw [if_pos g]
  obtain ⟨g1,g2,g3,g4⟩:=g
  have gp:plain e = true ∧ es.all plain = true:=by rw [List.all_cons,Bool.and_eq_true] at g2; exact g2
  have hfew:((backTo cpos (starEach (e :: es) X.env)).all (fun x => !x.1) && (backToKw cpos (keywordEach [] X.env)).all (fun x => x.1.isSome) && decide ((e :: es).length + ([]:List Keyword).length + (if ([]:List Keyword).isEmpty then 0 else 1) < 30)) = true:=by
   rw [all_plain g2]
   have g5:(e :: es).length + ([]:List Keyword).length + (if ([]:List Keyword).isEmpty then 0 else 1) < 30:=by
    show (e :: es).length + 0 + 0 < 30
    omega
   rw [decide_eq_true g5]
   rfl
  by_cases n1:name = "count"
  ·rw [if_pos n1]
   subst n1
   exact je_methS ms_count PySem.F.slot_str_count PySem.F.type_str_count (h o) (args_ok h (e :: es) g2) (base_ok g1) hfew g4 (star_plain gp.1) (any_plain gp.2)
  rw [if_neg n1]
  by_cases n1:name = "index"
  ·rw [if_pos n1]
   subst n1
   exact je_methS ms_index PySem.F.slot_str_index PySem.F.type_str_index (h o) (args_ok h (e :: es) g2) (base_ok g1) hfew g4 (star_plain gp.1) (any_plain gp.2)
  rw [if_neg n1]
  exact je_bad
 ·rw [if_neg g]; exact je_bad
def cGet2 (fE:Expr → GE) (o:Expr) (e f:Expr) (apos cpos:Pos):GE:=gBad
theorem cGet2_ok {c:Ct} {k:Nat} (G:Good c k X) {fE:Expr → GE} (h:∀ e,JE X e (fE e)) (o:Expr) (ho:attributeBase o "get" X.env (eval o X.env) = eval o X.env) (e f:Expr) (apos cpos:Pos):JE X (.Call (.Attribute o "get" apos) [e,f] [] cpos) (cGet2 fE o e f apos cpos):=by
 exact je_bad
def dcOf (c:Ct) (x:Str):Option Dc:=if okN x = true ∧ c.names.lookup x = some .globalImplicit then c.dcs.lookup x else none
theorem dcOf_ok {c:Ct} {k:Nat} (G:Good c k X) {x:Str} {kvs:Dc} (h:dcOf c x = some kvs):Gl X x ∧ (x == ("__debug__":Str)) = false ∧ DcAt X.K X.w X.mg x kvs:=by
 unfold dcOf at h
 by_cases g:okN x = true ∧ c.names.lookup x = some .globalImplicit
 ·rw [if_pos g] at h
  refine ⟨?_,okN_d g.1,G.dcs x kvs h⟩
  show X.env.scope.names.lookup x = _
  rw [G.sc]; exact g.2
 ·rw [if_neg g] at h; cases h
def cPop2 (c:Ct) (fE:Expr → GE) (x:Str) (p:Pos) (e f:Expr) (apos cpos:Pos):GE:=if c.dts.contains x = true ∧ plain e = true ∧ plain f = true ∧ (apos.endLine == cpos.line) = true then gPop2 (fE (.Name x p)) (fE e) (fE f) else gBad
theorem cPop2_ok {c:Ct} {k:Nat} (G:Good c k X) {fE:Expr → GE} (h:∀ e,JE X e (fE e)) (x:Str) (p:Pos) (e f:Expr) (apos cpos:Pos):JE X (.Call (.Attribute (.Name x p) "pop" apos) [e,f] [] cpos) (cPop2 c fE x p e f apos cpos):=by
 unfold cPop2
 by_cases g:c.dts.contains x = true ∧ plain e = true ∧ plain f = true ∧ (apos.endLine == cpos.line) = true
 ·rw [if_pos g]
  obtain ⟨_,g1,g2,g3⟩:=g
  refine je_pop2 (by have:=G.un; omega) (h _) (h e) (h f) ⟨rfl,?_,g3,?_⟩
  ·rw [all_plain (es:=[e,f]) (by simp [g1,g2])]
   rfl
  ·rw [star_plain g1,star_plain g2]
   rfl
 ·rw [if_neg g]; exact je_bad
noncomputable def cCall (c:Ct) (fE:Expr → GE) (cpos:Pos):Expr → List Expr → List Keyword → GE
 | .Name x _,e :: es,[] => cCallN c fE x (e :: es)
 | .Attribute (.Name x p) name apos,[e],[] => if name = "append" ∨ name = "extend" then cMeth fE (.Name x p) name e apos cpos else if name = "count" ∨ name = "index" then gAlt (cMethS fE (.Name x p) name [e] apos cpos) (cMethL fE (.Name x p) name e apos cpos) else cMethS fE (.Name x p) name [e] apos cpos
 | .Attribute (.Name x p) name apos,[e,f],[] => if name = "get" then (match dcOf c x with | some kvs => (if plain e = true ∧ plain f = true ∧ (apos.endLine == cpos.line) = true then gDcGet kvs (fE e) (fE f) else gBad) | none => cGet2 fE (.Name x p) e f apos cpos) else if name = "pop" then cPop2 c fE x p e f apos cpos else cMethS fE (.Name x p) name [e,f] apos cpos
 | .Attribute o name apos,[e],[] => cMethS fE o name [e] apos cpos
 | .Attribute o name apos,e :: es,[] => cMethS fE o name (e :: es) apos cpos
 | _,_,_ => gBad
theorem cCallN_ok {c:Ct} {k:Nat} (G:Good c k X) {fE:Expr → GE} (h:∀ e,JE X e (fE e)) (x:Str) (e:Expr) (es:List Expr) (p pos:Pos):JE X (.Call (.Name x p) (e :: es) [] pos) (cCallN c fE x (e :: es)):=by
 unfold cCallN
 by_cases g:okN x = true ∧ (e :: es).all plain = true ∧ c.names.lookup x = some .globalImplicit
 ·rw [if_pos g]
  obtain ⟨g1,g2,g3⟩:=g
  have hg:Gl X x:=by
   show X.env.scope.names.lookup x = _
   rw [G.sc]; exact g3
  have gp:plain e = true ∧ es.all plain = true:=by rw [List.all_cons,Bool.and_eq_true] at g2; exact g2
  have ha:=args_ok h (e :: es) g2
  cases e1:c.fns.lookup x with
  | some nF =>
   obtain ⟨n,F⟩:=nF
   dsimp only
   by_cases cf:c.free = true
   ·rw [if_pos cf]
    obtain ⟨a,fd,ps,G1,G2,G3,G4⟩:=G.fns x n F e1
    exact je_call G1 (G.free cf).1 G2 G3 G4 ha hg (okN_d g1) (star_plain gp.1) (any_plain gp.2)
   ·rw [if_neg cf]
    exact je_bad
  | none =>
   dsimp only
   by_cases e3:c.bl.contains x = true
   ·rw [if_pos e3]
    cases e4:blO c x with
    | none => exact je_bad
    | some io =>
     obtain ⟨v,op⟩:=io
     obtain ⟨b1,b2,b3⟩:=blO_ok (X:=X) G.tab (fun z => (G.free z).2) e4
     rcases b3 with ⟨id,rfl⟩ | ⟨T,rfl⟩
     ·exact je_callB b2 hg (G.bl x e3) b1 ha (okN_n g1) (okN_d g1) (star_plain gp.1) (any_plain gp.2)
     ·exact je_callTy b2 hg (G.bl x e3) b1 ha (okN_n g1) (okN_d g1) (star_plain gp.1) (any_plain gp.2)
   ·rw [if_neg e3]
    exact je_bad
 ·rw [if_neg g]; exact je_bad
theorem cMeth_ok {fE:Expr → GE} (h:∀ e,JE X e (fE e)) (x name:Str) (e:Expr) (p apos cpos:Pos):JE X (.Call (.Attribute (.Name x p) name apos) [e] [] cpos) (cMeth fE (.Name x p) name e apos cpos):=by
 unfold cMeth
 by_cases g:plain e = true ∧ (apos.endLine == cpos.line) = true
 ·rw [if_pos g]
  by_cases n1:name = "append"
  ·rw [if_pos n1]
   subst n1
   exact je_meth mw_app PySem.F.slot_list_append PySem.F.type_list_append (h _) (h e) (star_plain g.1) g.2
  rw [if_neg n1]
  by_cases n2:name = "extend"
  ·rw [if_pos n2]
   subst n2
   exact je_meth mw_extT PySem.F.slot_list_extend PySem.F.type_list_extend (h _) (h e) (star_plain g.1) g.2
  rw [if_neg n2]
  exact je_bad
 ·rw [if_neg g]; exact je_bad
theorem cCall_ok {c:Ct} {k:Nat} (G:Good c k X) {fE:Expr → GE} (h:∀ e,JE X e (fE e)) (f:Expr) (as:List Expr) (ks:List Keyword) (pos:Pos):JE X (.Call f as ks pos) (cCall c fE pos f as ks):=by
 unfold cCall
 split
 ·exact cCallN_ok G h _ _ _ _ _
 ·rename_i x p name apos e
  by_cases g:name = "append" ∨ name = "extend"
  ·rw [if_pos g]; exact cMeth_ok h _ _ _ _ _ _
  ·rw [if_neg g]
   by_cases g2:name = "count" ∨ name = "index"
   ·rw [if_pos g2]; exact je_alt (cMethS_ok h _ _ _ _ _ _) (cMethL_ok h _ _ _ _ _ _)
   ·rw [if_neg g2]; exact cMethS_ok h _ _ _ _ _ _
 ·rename_i x p name apos e f
  by_cases g:name = "get"
  ·rw [if_pos g]
   subst g
   cases ed:dcOf c x with
   | none => exact cGet2_ok G h _ rfl _ _ _ _
   | some kvs =>
    dsimp only
    by_cases g:plain e = true ∧ plain f = true ∧ (apos.endLine == pos.line) = true
    ·rw [if_pos g]
     obtain ⟨g1,g2,g3⟩:=g
     obtain ⟨q1,q2,q3⟩:=dcOf_ok G ed
     refine je_dcGet (h e) (h f) ⟨rfl,?_,g3,?_⟩ q1 q2 q3
     ·rw [all_plain (es:=[e,f]) (by simp [g1,g2])]
      rfl
     ·rw [star_plain g1,star_plain g2]
      rfl
    ·rw [if_neg g]; exact je_bad
  ·rw [if_neg g]
   by_cases g2:name = "pop"
   ·rw [if_pos g2]; subst g2; exact cPop2_ok G h _ _ _ _ _ _
   ·rw [if_neg g2]; exact cMethS_ok h _ _ _ _ _ _
 ·exact cMethS_ok h _ _ _ _ _ _
 ·exact cMethS_ok h _ _ _ _ _ _
 ·exact je_bad
def isSl:Expr → Bool
 | .Slice .. => true
 | _ => false
def partG (f:Expr → GE):Option Expr → GO
 | none => gNoPart
 | some e => gPart (f e)
theorem part_ok {f:Expr → GE} (h:∀ e,JE X e (f e)) (o:Option Expr):JO X o (partG f o):=by
 cases o with
 | none => exact jo_none
 | some e => exact jo_some (h e)
def subG (f:Expr → GE) (a:Expr):Expr → GE
 | .Slice lo hi none _ => gSlice2 (f a) (partG f lo) (partG f hi)
 | .Slice .. => gBad
 | b => gBin oIx (f a) (f b)
theorem sub_ok {f:Expr → GE} (h:∀ e,JE X e (f e)) (a b:Expr) (pos:Pos):JE X (.Subscript a b pos) (subG f a b):=by
 unfold subG
 split
 ·exact je_slice2 (h a) (part_ok h _) (part_ok h _)
 ·exact je_bad
 ·rename_i n1 n2
  refine je_ix (h a) (h b) ?_
  intro o i
  cases b <;> first | rfl | (rename_i lo hi st p; exact (n2 _ _ _ _ rfl).elim)
def cmpG (f:Expr → GE) (a:Expr):List CmpOp → List Expr → GE
 | [o],[b] => if behindInMarks o b = false then gBin (cmpO o) (f a) (f b) else gBad
 | [o,o'],[b,b'] => if lastMarks [o,o'] [b,b'] = false then gChain (cmpO o) (cmpO o') (f a) (f b) (f b') else gBad
 | _,_ => gBad
theorem cmp_ok (hu:X.A.units + 64 < cLine) {f:Expr → GE} (h:∀ e,JE X e (f e)) (a:Expr) (os:List CmpOp) (bs:List Expr) (pos:Pos):JE X (.Compare a os bs pos) (cmpG f a os bs):=by
 unfold cmpG
 split
 ·rename_i o b
  by_cases g:behindInMarks o b = false
  ·rw [if_pos g]; exact je_cmp (cmpO_ok hu o) (h a) (h b) g
  ·rw [if_neg g]; exact je_bad
 ·rename_i o o' b b'
  by_cases g:lastMarks [o,o'] [b,b'] = false
  ·rw [if_pos g]; exact je_chain (cmpO_ok hu o) (cmpO_ok hu o') (h a) (h b) (h b') g
  ·rw [if_neg g]; exact je_bad
 ·exact je_bad
def cmpT (f:Expr → GE) (a:Expr):List CmpOp → List Expr → GT
 | [o],[b] => if behindInMarks o b = false then gTst (gBin (cmpO o) (f a) (f b)) else gBadT
 | [o,o'],[b,b'] => if lastMarks [o,o'] [b,b'] = false then gTst (gChain (cmpO o) (cmpO o') (f a) (f b) (f b')) else gBadT
 | _,_ => gBadT
theorem cmpT_ok (hu:X.A.units + 64 < cLine) {f:Expr → GE} (h:∀ e,JE X e (f e)) (a:Expr) (os:List CmpOp) (bs:List Expr) (pos:Pos):JT X (.Compare a os bs pos) (cmpT f a os bs):=by
 unfold cmpT
 split
 ·rename_i o b
  by_cases g:behindInMarks o b = false
  ·rw [if_pos g]; exact jt_cmp (cmpO_ok hu o) (h a) (h b) g
  ·rw [if_neg g]; exact jt_bad
 ·rename_i o o' b b'
  by_cases g:lastMarks [o,o'] [b,b'] = false
  ·rw [if_pos g]; exact jt_chain (cmpO_ok hu o) (cmpO_ok hu o') (h a) (h b) (h b') g
  ·rw [if_neg g]; exact jt_bad
 ·exact jt_bad
def cmpD (c:Ct) (f:Expr → GE) (a:Expr):List CmpOp → List Expr → GE
 | [.In],[.Name x p] => (match dcOf c x with | some kvs => gDcIn false kvs (f a) | none => cmpG f a [.In] [.Name x p])
 | [.NotIn],[.Name x p] => (match dcOf c x with | some kvs => gDcIn true kvs (f a) | none => cmpG f a [.NotIn] [.Name x p])
 | os,bs => cmpG f a os bs
theorem cmpD_ok {c:Ct} {k:Nat} (G:Good c k X) {f:Expr → GE} (h:∀ e,JE X e (f e)) (a:Expr) (os:List CmpOp) (bs:List Expr) (pos:Pos):JE X (.Compare a os bs pos) (cmpD c f a os bs):=by
 unfold cmpD
 split
 ·rename_i x p
  cases e:dcOf c x with
  | none =>
   dsimp only
   exact cmp_ok G.un h a _ _ pos
  | some kvs => obtain ⟨g1,g2,g3⟩:=dcOf_ok G e; exact je_dcIn (h a) g1 g2 g3
 ·rename_i x p
  cases e:dcOf c x with
  | none =>
   dsimp only
   exact cmp_ok G.un h a _ _ pos
  | some kvs => obtain ⟨g1,g2,g3⟩:=dcOf_ok G e; exact je_dcNotIn (h a) g1 g2 g3
 ·exact cmp_ok G.un h a _ _ pos
def cmpTD (c:Ct) (f:Expr → GE) (a:Expr):List CmpOp → List Expr → GT
 | [.In],[.Name x p] => (match dcOf c x with | some kvs => gTst (gDcIn false kvs (f a)) | none => cmpT f a [.In] [.Name x p])
 | [.NotIn],[.Name x p] => (match dcOf c x with | some kvs => gTst (gDcIn true kvs (f a)) | none => cmpT f a [.NotIn] [.Name x p])
 | os,bs => cmpT f a os bs
theorem cmpTD_ok {c:Ct} {k:Nat} (G:Good c k X) {f:Expr → GE} (h:∀ e,JE X e (f e)) (a:Expr) (os:List CmpOp) (bs:List Expr) (pos:Pos):JT X (.Compare a os bs pos) (cmpTD c f a os bs):=by
 unfold cmpTD
 split
 ·rename_i x p
  cases e:dcOf c x with
  | none =>
   dsimp only
   exact cmpT_ok G.un h a _ _ pos
  | some kvs => obtain ⟨g1,g2,g3⟩:=dcOf_ok G e; exact jt_dcIn (h a) g1 g2 g3
 ·rename_i x p
  cases e:dcOf c x with
  | none =>
   dsimp only
   exact cmpT_ok G.un h a _ _ pos
  | some kvs => obtain ⟨g1,g2,g3⟩:=dcOf_ok G e; exact jt_dcNotIn (h a) g1 g2 g3
 ·exact cmpT_ok G.un h a _ _ pos
def isDn (c:Ct):Expr → Bool
 | .Name x _ => c.dts.contains x || c.dks.contains x
 | _ => false
def subD (c:Ct) (f:Expr → GE):Expr → Expr → GE
 | .Name x p,b => (match dcOf c x with | some kvs => if isSl b = false then gDcIx kvs (f b) else gBad | none => subG f (.Name x p) b)
 | a,b => subG f a b
theorem subD_ok {c:Ct} {k:Nat} (G:Good c k X) {f:Expr → GE} (h:∀ e,JE X e (f e)) (a b:Expr) (pos:Pos):JE X (.Subscript a b pos) (subD c f a b):=by
 unfold subD
 split
 ·rename_i x p
  cases e:dcOf c x with
  | none =>
   dsimp only
   exact sub_ok h _ b pos
  | some kvs =>
   dsimp only
   by_cases g:isSl b = false
   ·rw [if_pos g]
    obtain ⟨g1,g2,g3⟩:=dcOf_ok G e
    refine je_dcIx (h b) ?_ g1 g2 g3
    intro o i
    cases b <;> first | rfl | cases g
   ·rw [if_neg g]; exact je_bad
 ·exact sub_ok h _ b pos
def pairsOf (f:Expr → GE):List (Option Expr) → List Expr → Option (List (GE × GE))
 | [],[] => some []
 | some k :: ks,v :: vs => (match pairsOf f ks vs with | some r => some ((f k,f v) :: r) | none => none)
 | _,_ => none
theorem pairsOf_ok {f:Expr → GE} (h:∀ e,JE X e (f e)) {pos:Pos}:∀ {ks:List (Option Expr)} {vs:List Expr} {gs:List (GE × GE)},pairsOf f ks vs = some gs → JPs X pos ks vs gs
 | [],[],gs,e => by cases e; exact .nil
 | some k :: ks,v :: vs,gs,e => by
  unfold pairsOf at e
  cases q:pairsOf f ks vs with
  | none => rw [q] at e; cases e
  | some r => rw [q] at e; cases e; exact .cons (h k) (h v) (pairsOf_ok h q)
 | [],_ :: _,gs,e => by cases e
 | none :: _,_,gs,e => by unfold pairsOf at e; cases e
 | some _ :: _,[],gs,e => by cases e
def isKT:List (Option Expr) → Bool
 | some (.Tuple ..) :: _ => true
 | _ => false
def isKN (c:Ct):List (Option Expr) → Bool
 | some (.Name x _) :: _ => c.dts.contains x
 | _ => false
def dispG (b:Bool) (f:Expr → GE) (ks:List (Option Expr)) (vs:List Expr):GE:=if (!ks.isEmpty && decide (ks.length ≤ 15)) = true then (match pairsOf f ks vs with | some gs => if b = true then gDispT gs else gBad | none => gBad) else gBad
theorem disp_ok (hu:X.A.units + 1 < cLine) (b:Bool) {f:Expr → GE} (h:∀ e,JE X e (f e)) (ks:List (Option Expr)) (vs:List Expr) (pos:Pos):JE X (.Dict ks vs pos) (dispG b f ks vs):=by
 unfold dispG
 by_cases g:(!ks.isEmpty && decide (ks.length ≤ 15)) = true
 ·rw [if_pos g]
  simp only [Bool.and_eq_true,decide_eq_true_eq] at g
  cases e:pairsOf f ks vs with
  | none => exact je_bad
  | some gs =>
   dsimp only
   by_cases t:b = true
   ·rw [if_pos t]; exact je_dispT hu (pairsOf_ok h e) (by intro z; subst z; simp at g) g.2
   ·rw [if_neg t]; exact je_bad
 ·rw [if_neg g]; exact je_bad
def andV (f:Expr → GE):List Expr → GE
 | [] => gBad
 | [a] => f a
 | a :: b :: r => gAndV (f a) (andV f (b :: r))
def orV (f:Expr → GE):List Expr → GE
 | [] => gBad
 | [a] => f a
 | a :: b :: r => gOrV (f a) (orV f (b :: r))
theorem andV_ok {f:Expr → GE} (h:∀ e,JE X e (f e)) (pos:Pos):∀ es,JE X (.BoolOp .And es pos) (andV f es)
 | [] => je_bad
 | [a] => je_one (h a)
 | a :: b :: r => je_and (h a) (andV_ok h pos (b :: r))
theorem orV_ok {f:Expr → GE} (h:∀ e,JE X e (f e)) (pos:Pos):∀ es,JE X (.BoolOp .Or es pos) (orV f es)
 | [] => je_bad
 | [a] => je_one (h a)
 | a :: b :: r => je_or (h a) (orV_ok h pos (b :: r))
def andT (f:Expr → GT):List Expr → GT
 | [] => gBadT
 | [a] => f a
 | a :: b :: r => gAnd (f a) (andT f (b :: r))
def orT (f:Expr → GT):List Expr → GT
 | [] => gBadT
 | [a] => f a
 | a :: b :: r => gOr (f a) (orT f (b :: r))
theorem jw_bad {e:Expr}:JW X e gBadT:=fun ρ st σ H m Q S R p => False.elim p
theorem andT_ok {f:Expr → GT} (h:∀ e,JT X e (f e)) (pos:Pos):∀ es,JW X (.BoolOp .And es pos) (andT f es)
 | [] => jw_bad
 | [a] => jw_and1 (h a)
 | a :: b :: r => jw_and (h a) (andT_ok h pos (b :: r))
theorem orT_ok {f:Expr → GT} (h:∀ e,JT X e (f e)) (pos:Pos):∀ es,JW X (.BoolOp .Or es pos) (orT f es)
 | [] => jw_bad
 | [a] => jw_or1 (h a)
 | a :: b :: r => jw_or (h a) (orT_ok h pos (b :: r))
def unG (f:Expr → GE):UnaryOp → Expr → GE
 | .USub,a => gUn opNeg (f a)
 | .Not,a => gNotV (f a)
 | _,_ => gBad
def seqG (f:Expr → GE) (g:GA → GE) (es:List Expr):GE:=if es.all plain = true then g (argsG f es) else gBad
def isSet:Expr → Bool
 | .Set .. => true
 | _ => false
theorem fold_no {e:Expr} {env:Env} (h:isSet e = false) (x:Value):foldedSetIterable e env x = pure x:=by
 cases e <;> first | rfl | cases h
def isRange (c:Ct) (x:Str):Bool:=decide (x = "range") && decide (c.names.lookup x = some .globalImplicit) && c.bl.contains x && (match c.fns.lookup x with | some _ => false | none => true)
theorem range_ok {c:Ct} {k:Nat} (G:Good c k X) (y:Str) (hy:isRange c y = true):y = "range" ∧ Gl X y ∧ X.mg y = none:=by
 unfold isRange at hy
 simp only [Bool.and_eq_true,decide_eq_true_eq] at hy
 refine ⟨hy.1.1.1,?_,G.bl y hy.1.2⟩
 show X.env.scope.names.lookup y = _
 rw [G.sc]; exact hy.1.1.2
noncomputable def iterG (c:Ct) (f:Expr → GE):Expr → GI
 | .Call (.Name x p) [a] [] q => if isRange c x = true then (if plain a = true then giR1 (argsG f [a]) else gBadI) else giSeq2 (f (.Call (.Name x p) [a] [] q))
 | e => if isSet e = false then giSeq2 (f e) else gBadI
theorem iter_ok {c:Ct} {k:Nat} (G:Good c k X) {f:Expr → GE} (h:∀ e,JE X e (f e)) (tg e:Expr):JI X tg e (iterG c f e):=by
 unfold iterG
 split
 ·rename_i y p a q
  by_cases g:isRange c y = true
  ·rw [if_pos g]
   obtain ⟨rfl,g2,g3⟩:=range_ok G y g
   by_cases ga:plain a = true
   ·rw [if_pos ga]
    exact ji_r1 g2 g3 (args_ok h [a] (by simp [ga])) (star_plain ga)
   ·rw [if_neg ga]; exact ji_bad
  ·rw [if_neg g]; exact ji_seq2 (h _)
 ·by_cases g:isSet e = false
  ·rw [if_pos g]; exact ji_seq2 (h _)
  ·rw [if_neg g]; exact ji_bad
def isEn (c:Ct) (x:Str):Bool:=decide (x = "enumerate") && decide (c.names.lookup x = some .globalImplicit) && c.bl.contains x && (match c.fns.lookup x with | some _ => false | none => true)
def giOf (gi:GI):GI2:=fun ρ st => (gi ρ st).bind fun w st1 => .ok (w.1.map fun l => (l,w.2),w.2) st1
noncomputable def iterG2 (c:Ct) (f:Expr → GE):Expr → GI2
 | e => giOf (iterG c f e)
theorem iter2_ok {c:Ct} {k:Nat} (G:Good c k X) {f:Expr → GE} (h:∀ e,JE X e (f e)) (es:List Expr) (kt:Nat) (pt:Pos) (e:Expr):JI2 X (.Tuple es kt pt) e (iterG2 c f e):=by
 unfold iterG2
 exact ji2_of (iter_ok G h _ _)
def isEnC (c:Ct):Expr → Bool
 | .Call (.Name x _) [_] [] _ => isEn c x
 | _ => false
def capsL (c:Ct):List (Str × NameKind) → Option Caps
 | [] => some []
 | (n,.free) :: r => if c.names.lookup n = some .cell ∨ c.names.lookup n = some .free then (match ixOf n c.N,capsL c r with | some i,some l => some ((n,i) :: l) | _,_ => none) else none
 | _ :: r => capsL c r
theorem capsL_ok {c:Ct}:∀ {ns:List (Str × NameKind)} {cs:Caps},capsL c ns = some cs → (∀ y ∈ ns,y.2 = .free → c.names.lookup y.1 = some .cell ∨ c.names.lookup y.1 = some .free) ∧ ∀ p ∈ cs,(p.1,NameKind.free) ∈ ns ∧ c.N[p.2]? = some p.1
 | [],cs,h => by cases h; exact ⟨(fun _ z => by cases z),(fun _ z => by cases z)⟩
 | (n,k) :: r,cs,h => by
  unfold capsL at h
  split at h
  ·cases ‹_ :: _ = []›
  ·rename_i n' r' he
   cases he
   by_cases g:c.names.lookup n = some .cell ∨ c.names.lookup n = some .free
   ·rw [if_pos g] at h
    cases e1:ixOf n c.N with
    | none => rw [e1] at h; cases h
    | some i =>
     cases e2:capsL c r with
     | none => rw [e1,e2] at h; cases h
     | some l =>
      rw [e1,e2] at h
      cases h
      obtain ⟨q1,q2⟩:=capsL_ok e2
      refine ⟨fun y hy e => ?_,fun p hp => ?_⟩
      ·rcases List.mem_cons.mp hy with z | z
       ·subst z; exact g
       ·exact q1 y z e
      ·rcases List.mem_cons.mp hp with z | z
       ·subst z; exact ⟨List.mem_cons_self,ixOf_get e1⟩
       ·exact ⟨List.mem_cons_of_mem _ (q2 p z).1,(q2 p z).2⟩
   ·rw [if_neg g] at h; cases h
  ·rename_i kk r' hk he
   cases he
   obtain ⟨q1,q2⟩:=capsL_ok h
   refine ⟨fun y hy e => ?_,fun p hp => ⟨List.mem_cons_of_mem _ (q2 p hp).1,(q2 p hp).2⟩⟩
   rcases List.mem_cons.mp hy with z | z
   ·subst z
    have e':k = .free:=e
    subst e'
    exact (hk n rfl).elim
   ·exact q1 y z e
def relabN (c:Ct) (ns:List (Str × NameKind)):List (Str × NameKind):=ns.map fun (n,k) => if (k == .free && c.names.lookup n == some .cell) then (n,.cell) else (n,k)
def isFnK:ScopeKind → Bool
 | .function => true
 | _ => false
def scopeOk (scope:Scope) (x:Str):Bool:=isFnK scope.kind && scope.names.all (fun y => decide (scope.names.lookup y.1 = some y.2)) && scope.names.all (fun y => decide (y.2 ≠ .cell)) && decide (scope.names.lookup x = some .local)
def Ct.block (c:Ct) (scope:Scope) (x:Str) (cs:Caps):Ct:={ c with N:=x :: cs.map (·.1),names:=relabN c scope.names,loop:=false,top:=false }
noncomputable def compC (c:Ct) (sub:Ct → (Expr → GE) × (Expr → GT)) (f:Expr → GE) (elt:Expr) (x:Str) (iter:Expr) (gts:Ct → GT) (scope:Scope):GE :=
 if scopeOk scope x = true ∧ c.free = true ∧ isSet iter = false then (match capsL c scope.names with
  | some cs => if (x :: cs.map (·.1)).Nodup then gComp cs (iterG c f iter) (gts (c.block scope x cs)) ((sub (c.block scope x cs)).1 elt) else gBad
  | none => gBad) else gBad
noncomputable def coG (c:Ct) (sub:Ct → (Expr → GE) × (Expr → GT)) (f:Expr → GE) (elt:Expr) (scope:Scope):List Comprehension → GE
 | [⟨.Name x _,iter,[],0⟩] => compC c sub f elt x iter (fun _ => fun _ st => .ok true st) scope
 | _ => gBad
theorem block_good {c:Ct} {k:Nat} (G:Good c k X) {scope:Scope} {x:Str} {cs:Caps} (hs:scopeOk scope x = true) (nd:(x :: cs.map (·.1)).Nodup) (C:Addr) (s0:Shared) (H0:Hp) (fp:List Addr) (pn:List (Addr × Obj)) (E:Value → Shared → Prop) (hA:HdA X.A H0) :
  Good (c.block scope x cs) k (compX X scope x cs C s0 H0 fp pn E):=by
 unfold scopeOk at hs
 simp only [Bool.and_eq_true,decide_eq_true_eq] at hs
 have hk:scope.kind = .function:=by
  have:=hs.1.1.1
  revert this
  cases scope.kind <;> intro z <;> first | rfl | cases z
 refine ⟨rfl,?_,nd,G.un,G.free,(fun z => by cases z),G.cst,G.bl,G.fns,(fun z => by cases z),(fun z => by cases z),hk,G.tab,G.cls,G.cln,G.dcs,⟨G.rm.d,G.rm.u⟩,G.fnu,⟨G.x.lam,G.x.fnL,G.x.fnJ,(fun z => by cases z)⟩,G.fr,hA⟩
 show (relabel scope X.env).names = relabN c scope.names
 unfold relabel relabN Env.kindOf
 rw [G.kind,G.sc]
 simp
theorem scope_cs {c:Ct} {k:Nat} (G:Good c k X) {scope:Scope} {x:Str} {cs:Caps} (hs:scopeOk scope x = true) (hcs:capsL c scope.names = some cs) (nd:(x :: cs.map (·.1)).Nodup):CScope X scope x cs:=by
 unfold scopeOk at hs
 simp only [Bool.and_eq_true,decide_eq_true_eq,List.all_eq_true] at hs
 obtain ⟨⟨⟨h1,h2⟩,h3⟩,h4⟩:=hs
 have hk:scope.kind = .function:=by
  revert h1
  cases scope.kind <;> intro z <;> first | rfl | cases z
 obtain ⟨q1,q2⟩:=capsL_ok hcs
 refine ⟨hk,h2,h3,h4,fun y hy e => ?_,fun p hp => ⟨by rw [G.N]; exact (q2 p hp).2,h2 _ (q2 p hp).1⟩,nd⟩
 show X.env.scope.names.lookup y.1 = _ ∨ X.env.scope.names.lookup y.1 = _
 rw [G.sc]; exact q1 y hy e
def JAs (X:Cx) (e:Expr) (g:GE):Prop:=∀ (i:Nat) (y:Str) (py spos:Pos),X.N.Nodup → X.N[i]? = some y → Loc X.env.scope y → (X.fn y = true ∨ X.env.scope.names.lookup y = some .local) → JS X (.Assign [.Name y py] e spos) (gSet i g)
theorem js_setBad {i:Nat} {s:Stmt}:JS X s (gSet i gBad):=fun ρ st σ H m D S R p => False.elim p
theorem jas_bad {e:Expr}:JAs X e gBad:=fun i y py spos _ _ _ _ => js_setBad
theorem co_both {c:Ct} {k:Nat} (G:Good c k X) {sub:Ct → (Expr → GE) × (Expr → GT)} (hb:∀ c X,Good c k X → (∀ e,JE X e ((sub c).1 e)) ∧ ∀ e,JT X e ((sub c).2 e)) {f:Expr → GE} (h:∀ e,JE X e (f e)) (elt:Expr) (scope:Scope) (gens:List Comprehension) (pos:Pos) :
  JE X (.ListComp elt gens scope pos) (coG c sub f elt scope gens) ∧ JAs X (.ListComp elt gens scope pos) (coG c sub f elt scope gens):=by
 have core:∀ (x:Str) (px:Pos) (iter:Expr) (ifs:List Expr) (gts:Ct → GT),(∀ c X,Good c k X → JTs X ifs (gts c)) →
   JE X (.ListComp elt [⟨.Name x px,iter,ifs,0⟩] scope pos) (compC c sub f elt x iter gts scope) ∧ JAs X (.ListComp elt [⟨.Name x px,iter,ifs,0⟩] scope pos) (compC c sub f elt x iter gts scope):=by
  intro x px iter ifs gts hg
  unfold compC
  by_cases g:scopeOk scope x = true ∧ c.free = true ∧ isSet iter = false
  ·rw [if_pos g]
   obtain ⟨g1,g2,g3⟩:=g
   cases ec:capsL c scope.names with
   | none => exact ⟨je_bad,jas_bad⟩
   | some cs =>
    dsimp only
    by_cases nd:(x :: cs.map (·.1)).Nodup
    ·rw [if_pos nd]
     have CS:=scope_cs G g1 ec nd
     have hE:∀ C s0 H0 fp pn E,HdA X.A H0 → JE (compX X scope x cs C s0 H0 fp pn E) elt ((sub (c.block scope x cs)).1 elt):=fun C s0 H0 fp pn E z => (hb _ _ (block_good G g1 nd C s0 H0 fp pn E z)).1 elt
     have hT:∀ C s0 H0 fp pn E,HdA X.A H0 → JTs (compX X scope x cs C s0 H0 fp pn E) ifs (gts (c.block scope x cs)):=fun C s0 H0 fp pn E z => hg _ _ (block_good G g1 nd C s0 H0 fp pn E z)
     exact ⟨je_comp G.fr CS (yin_calm (G.free g2).2) G.hd (iter_ok G h _ iter).y hE hT (fold_no g3),fun i y py spos hN hi hl hf => js_setC i hN G.fr CS (yin_calm (G.free g2).2) G.hd (iter_ok G h _ iter).y hE hT (fold_no g3) hi hl hf⟩
    ·rw [if_neg nd]; exact ⟨je_bad,jas_bad⟩
  ·rw [if_neg g]; exact ⟨je_bad,jas_bad⟩
 unfold coG
 split
 ·exact core _ _ _ _ _ fun _ _ _ => jts_nil
 ·exact ⟨je_bad,jas_bad⟩
noncomputable def stepE (c:Ct) (sub:Ct → (Expr → GE) × (Expr → GT)) (f:Expr → GE) (t:Expr → GT):Expr → GE
 | .Name x _ => cName c x
 | .Constant k _ _ => cConst k
 | .BinOp a o b _ => gBin (binO o) (f a) (f b)
 | .UnaryOp o a _ => unG f o a
 | .BoolOp .And es _ => andV f es
 | .BoolOp .Or es _ => orV f es
 | .Compare a os bs _ => cmpD c f a os bs
 | .IfExp q a b _ => gIfE (t q) (f a) (f b)
 | .Tuple es _ _ => seqG f gTup es
 | .List es _ => seqG f gLst es
 | .Subscript a b _ => subD c f a b
 | .Dict [] [] _ => gNewK
 | .Dict ks vs _ => dispG (isKT ks || isKN c ks) f ks vs
 | .Call g as ks p => cCall c f p g as ks
 | .ListComp elt gens scope _ => coG c sub f elt scope gens
 | _ => gBad
def stepT (c:Ct) (f:Expr → GE) (t:Expr → GT):Expr → GT
 | .UnaryOp .Not a _ => gNot (t a)
 | .BoolOp .And es _ => andT t es
 | .BoolOp .Or es _ => orT t es
 | .Compare a os bs _ => cmpTD c f a os bs
 | .Name x p => gTru (f (.Name x p))
 | .Call g as ks p => gTru (f (.Call g as ks p))
 | .Subscript a b p => gTru (f (.Subscript a b p))
 | .Constant k j p => gTru (f (.Constant k j p))
 | .BinOp a o b p => gTru (f (.BinOp a o b p))
 | _ => gBadT
theorem stepE_ok {c:Ct} {k:Nat} (G:Good c k X) {sub:Ct → (Expr → GE) × (Expr → GT)} (hb:∀ k c X,Good c k X → (∀ e,JE X e ((sub c).1 e)) ∧ ∀ e,JT X e ((sub c).2 e)) {f:Expr → GE} {t:Expr → GT} (h:∀ e,JE X e (f e)) (ht:∀ e,JT X e (t e)) (e:Expr):JE X e (stepE c sub f t e):=by
 have hu:X.A.units + 64 < cLine:=G.un
 cases e with
 | Name x p => exact cName_ok G x p
 | Constant v j p => exact cConst_ok v j p
 | BinOp a o b p => exact je_bin (binO_ok o) (h a) (h b)
 | UnaryOp o a p =>
  cases o with
  | USub => exact je_neg (h a)
  | Not => exact je_not (h a)
  | _ => exact je_bad
 | BoolOp o es p =>
  cases o with
  | And => exact andV_ok h p es
  | Or => exact orV_ok h p es
 | Compare a os bs p => exact cmpD_ok G h a os bs p
 | IfExp q a b p => exact je_if (ht q) (h a) (h b)
 | Tuple es j p =>
  show JE X _ (seqG f gTup es)
  unfold seqG
  by_cases g:es.all plain = true
  ·rw [if_pos g]; exact je_tup (args_ok h es g)
  ·rw [if_neg g]; exact je_bad
 | List es p =>
  show JE X _ (seqG f gLst es)
  unfold seqG
  by_cases g:es.all plain = true
  ·rw [if_pos g]; exact je_lst (args_ok h es g)
  ·rw [if_neg g]; exact je_bad
 | Subscript a b p => exact subD_ok G h a b p
 | Dict ks vs p =>
  cases ks with
  | cons k ks => exact disp_ok (by have:=G.un; omega) _ h (k :: ks) vs p
  | nil =>
   cases vs with
   | nil => exact je_newK
   | cons v vs => exact disp_ok (by have:=G.un; omega) (isKT [] || isKN c []) h [] (v :: vs) p
 | Call g as ks p => exact cCall_ok G h g as ks p
 | ListComp elt gens scope p => exact (co_both G (hb k) h elt scope gens p).1
 | _ => exact je_bad
def isCo:Expr → Bool
 | .ListComp .. => true
 | .SetComp .. => true
 | .DictComp .. => true
 | .Set .. => true
 | _ => false
theorem swap_no {e:Expr} {t:Option Expr} {n:Nat} {env:Env} (h:isCo e = false):swapsWith e t n env = pure false:=by
 cases e <;> first | rfl | cases h
theorem stepE_as {c:Ct} {k:Nat} (G:Good c k X) {sub:Ct → (Expr → GE) × (Expr → GT)} (hb:∀ k c X,Good c k X → (∀ e,JE X e ((sub c).1 e)) ∧ ∀ e,JT X e ((sub c).2 e)) {f:Expr → GE} {t:Expr → GT} (h:∀ e,JE X e (f e)) (ht:∀ e,JT X e (t e)) (e:Expr):JAs X e (stepE c sub f t e):=by
 by_cases g:isCo e = false
 ·exact fun i y py spos hN hi hl hf => js_set i hN (stepE_ok G hb h ht e) hi hl (swap_no g) hf
 ·cases e with
  | ListComp elt gens scope p => exact (co_both G (hb k) h elt scope gens p).2
  | SetComp => exact jas_bad
  | DictComp => exact jas_bad
  | Set => exact jas_bad
  | _ => exact absurd rfl g
theorem stepT_ok {c:Ct} {k:Nat} (G:Good c k X) {f:Expr → GE} {t:Expr → GT} (h:∀ e,JE X e (f e)) (ht:∀ e,JT X e (t e)) (e:Expr):JT X e (stepT c f t e):=by
 have hu:X.A.units + 64 < cLine:=G.un
 cases e with
 | UnaryOp o a p =>
  cases o with
  | Not => exact jt_not (ht a)
  | _ => exact jt_bad
 | BoolOp o es p =>
  cases o with
  | And => exact (andT_ok ht p es).jt
  | Or => exact (orT_ok ht p es).jt
 | Compare a os bs p => exact cmpTD_ok G h a os bs p
 | Name x p => exact jt_tru (h _) (fun _ => rfl)
 | Call g as ks p => exact jt_tru (h _) (fun _ => rfl)
 | Subscript a b p => exact jt_tru (h _) (fun _ => rfl)
 | Constant v j p => exact jt_tru (h _) (fun _ => rfl)
 | BinOp a o b p => exact jt_tru (h _) (fun _ => rfl)
 | _ => exact jt_bad
end
noncomputable def compE:Nat → Ct → (Expr → GE) × (Expr → GT)
 | 0,_ => (fun _ => gBad,fun _ => gBadT)
 | n + 1,c => (stepE c (compE n) (compE n c).1 (compE n c).2,stepT c (compE n c).1 (compE n c).2)
section
variable {X:Cx}
theorem compE_ok:∀ (n:Nat) (k:Nat) (c:Ct) (X:Cx),Good c k X → (∀ e,JE X e ((compE n c).1 e)) ∧ ∀ e,JT X e ((compE n c).2 e)
 | 0,_,_,_,_ => ⟨fun _ => je_bad,fun _ => jt_bad⟩
 | n + 1,k,c,X,G => ⟨fun e => stepE_ok G (fun k c X G => compE_ok n k c X G) (compE_ok n k c X G).1 (compE_ok n k c X G).2 e,fun e => stepT_ok G (compE_ok n k c X G).1 (compE_ok n k c X G).2 e⟩
theorem compE_as {k:Nat}:∀ (n:Nat) (c:Ct) (X:Cx),Good c k X → ∀ e,JAs X e ((compE n c).1 e)
 | 0,_,_,_,_ => jas_bad
 | n + 1,c,X,G,e => stepE_as G (fun k c X G => compE_ok n k c X G) (compE_ok n k c X G).1 (compE_ok n k c X G).2 e
def slot (c:Ct) (x:Str):Option Nat:=if c.names.lookup x = some .local ∨ (c.names.lookup x = some .cell ∧ c.top = true) then ixOf x c.N else none
def slotL (c:Ct) (x:Str):Option Nat:=if c.names.lookup x = some .local then ixOf x c.N else none
theorem slotL_ok {c:Ct} {k:Nat} (G:Good c k X) {x:Str} {i:Nat} (h:slotL c x = some i):X.N[i]? = some x ∧ X.env.scope.names.lookup x = some .local:=by
 unfold slotL at h
 by_cases e:c.names.lookup x = some .local
 ·rw [if_pos e] at h
  exact ⟨by rw [G.N]; exact ixOf_get h,by rw [G.sc]; exact e⟩
 ·rw [if_neg e] at h; cases h
theorem slot_ok {c:Ct} {k:Nat} (G:Good c k X) {x:Str} {i:Nat} (h:slot c x = some i):X.N[i]? = some x ∧ (Loc X.env.scope x ∧ (X.fn x = true ∨ X.env.scope.names.lookup x = some .local)):=by
 unfold slot at h
 by_cases e:c.names.lookup x = some .local ∨ (c.names.lookup x = some .cell ∧ c.top = true)
 ·rw [if_pos e] at h
  refine ⟨by rw [G.N]; exact ixOf_get h,?_⟩
  rcases e with e | ⟨e,e2⟩
  ·have q:X.env.scope.names.lookup x = some .local:=by rw [G.sc]; exact e
   exact ⟨.inl q,.inr q⟩
  ·have q:X.env.scope.names.lookup x = some .cell:=by rw [G.sc]; exact e
   exact ⟨.inr q,.inl (G.fn e2 x)⟩
 ·rw [if_neg e] at h; cases h
def slots (c:Ct):List Expr → Option (List Nat)
 | [] => some []
 | .Name x _ :: es => (match slot c x,slots c es with | some i,some is => some (i :: is) | _,_ => none)
 | _ => none
theorem slots_ok {c:Ct} {k:Nat} (G:Good c k X):∀ {es:List Expr} {is:List Nat},slots c es = some is → Slots X es is
 | [],is,h => by cases h; exact .nil
 | e :: es,is,h => by
  cases e with
  | Name x p =>
   have h:(match slot c x,slots c es with | some i,some is => some (i :: is) | _,_ => none) = some is:=h
   cases e1:slot c x with
   | none => rw [e1] at h; cases h
   | some i =>
    cases e2:slots c es with
    | none => rw [e1,e2] at h; cases h
    | some js =>
     rw [e1,e2] at h
     cases h
     obtain ⟨q1,q2⟩:=slot_ok G e1
     exact .cons q1 q2 (slots_ok G e2)
  | _ => cases h
def isTp:Expr → Bool
 | .Tuple .. => true
 | _ => false
def tpOk (es:List Expr) (v:Expr):Bool:=!isTp v || decide (4 ≤ es.length)
def isE0:Expr → Bool
 | .Dict [] [] _ => true
 | _ => false
theorem swap_none {es:List Expr} {k:Nat} {p:Pos} {v:Expr} (h:tpOk es v = true):swappedStores [.Tuple es k p] v X.env = pure none:=by
 cases v with
 | Tuple vs k2 p2 =>
  have h4:4 ≤ es.length:=by simpa [tpOk,isTp] using h
  unfold swappedStores
  have:(!(es.length == 2 || es.length == 3) || vs.length != es.length || X.env.blockKind != .function) = true:=by
   have h2:(es.length == 2) = false:=by simp; omega
   have h3:(es.length == 3) = false:=by simp; omega
   rw [h2,h3]; rfl
  dsimp only
  rw [if_pos this]
 | _ => rfl
def asgG (c:Ct) (f:Expr → GE) (v:Expr):List Expr → GS
 | [.Name x _] => (match slot c x with | some i => if isE0 v = true ∧ c.dts.contains x = true then gSet i gNewT else gSet i (f v) | none => gNever)
 | [.Subscript o i _] => if isCo v = false ∧ isSl i = false then (if isDn c o = true then gDPut (f v) (f o) (f i) else gSetI (f v) (f o) (f i)) else gNever
 | [.Tuple es _ _] => if isCo v = false ∧ tpOk es v = true ∧ c.free = true then (match slots c es with | some is => gSetT is (f v) | none => gNever) else gNever
 | _ => gNever
theorem asg_ok {c:Ct} {k:Nat} (G:Good c k X) {f:Expr → GE} (h:∀ e,JE X e (f e)) (ha:∀ e,JAs X e (f e)) (v:Expr) (ts:List Expr) (pos:Pos):JS X (.Assign ts v pos) (asgG c f v ts):=by
 unfold asgG
 split
 ·rename_i x p
  cases e:slot c x with
  | none => exact js_never
  | some i =>
   obtain ⟨e1,e2⟩:=slot_ok G e
   dsimp only
   by_cases g:isE0 v = true ∧ c.dts.contains x = true
   ·rw [if_pos g]
    have gv:=g.1
    unfold isE0 at gv
    split at gv
    ·exact js_set i (by rw [G.N]; exact G.nd) je_newT e1 e2.1 rfl e2.2
    ·cases gv
   ·rw [if_neg g]; exact ha v i x _ _ (by rw [G.N]; exact G.nd) e1 e2.1 e2.2
 ·rename_i o i p
  by_cases g:isCo v = false ∧ isSl i = false
  ·rw [if_pos g]
   have g2:=g.2
   by_cases gd:isDn c o = true
   ·rw [if_pos gd]; exact js_dput (by have:=G.un; omega) (h v) (h o) (h i) (swap_no g.1)
   rw [if_neg gd]
   refine js_setI (h v) (h o) (h i) (by unfold swapsWithSole; exact swap_no g.1) ?_ rfl ?_
   ·cases v <;> rfl
   ·intro _
    cases i <;> first | rfl | cases g2
  ·rw [if_neg g]; exact js_never
 ·rename_i es kk p
  by_cases g:isCo v = false ∧ tpOk es v = true ∧ c.free = true
  ·rw [if_pos g]
   cases e1:slots c es with
   | none => exact js_never
   | some is =>
    have g2:=g.2.1
    refine js_setT (by rw [G.N]; exact G.nd) (G.free g.2.2).2 (slots_ok G e1) (h v) (swap_no g.1) ?_
    exact swap_none g2
  ·rw [if_neg g]; exact js_never
 ·exact js_never
noncomputable def forG (c:Ct) (f:Expr → GE) (i:Nat) (gb:GS):Expr → GS
 | .Call (.Name x p) [a] [] q => if isRange c x = true then (if plain a = true then gForR1 i (argsG f [a]) gb else gNever) else gFor i (f (.Call (.Name x p) [a] [] q)) gb
 | .Call (.Name x p) [a,b,d] [] q => if isRange c x = true then (if [a,b,d].all plain = true then gForR3 i (argsG f [a,b,d]) gb else gNever) else gFor i (f (.Call (.Name x p) [a,b,d] [] q)) gb
 | e => if isSet e = false then gFor i (f e) gb else gNever
theorem for_ok {c:Ct} {k:Nat} (G:Good c k X) (hl:c.loop = true) {f:Expr → GE} (h:∀ e,JE X e (f e)) {x:Str} {i:Nat} (hx:slot c x = some i) {body:List Stmt} {gb:GS} (hb:JSs X body gb) (e:Expr) (pos pos':Pos):JS X (.For (.Name x pos') e body [] pos) (forG c f i gb e):=by
 have nd:X.N.Nodup:=by rw [G.N]; exact G.nd
 obtain ⟨e1,e2⟩:=slot_ok G hx
 have rg:=range_ok G
 unfold forG
 split
 ·rename_i y p a q
  by_cases g:isRange c y = true
  ·rw [if_pos g]
   obtain ⟨rfl,g2,g3⟩:=rg y g
   by_cases ga:plain a = true
   ·rw [if_pos ga]
    exact js_forR1 i nd (G.loop hl).2 (G.loop hl).1 g2 g3 (args_ok h [a] (by simp [ga])) hb e1 e2.1 e2.2 (star_plain ga)
   ·rw [if_neg ga]; exact js_never
  ·rw [if_neg g]; exact js_for i nd (G.loop hl).2 (G.loop hl).1 (h _) hb e1 e2.1 e2.2 (fold_no rfl)
 ·rename_i y p a b d q
  by_cases g:isRange c y = true
  ·rw [if_pos g]
   obtain ⟨rfl,g2,g3⟩:=rg y g
   by_cases ga:[a,b,d].all plain = true
   ·rw [if_pos ga]
    have gp:plain a = true ∧ [b,d].all plain = true:=by rw [List.all_cons,Bool.and_eq_true] at ga; exact ga
    exact js_forR3 i nd (G.loop hl).2 (G.loop hl).1 g2 g3 (args_ok h [a,b,d] ga) hb e1 e2.1 e2.2 (star_plain gp.1) (any_plain gp.2)
   ·rw [if_neg ga]; exact js_never
  ·rw [if_neg g]; exact js_for i nd (G.loop hl).2 (G.loop hl).1 (h _) hb e1 e2.1 e2.2 (fold_no rfl)
 ·by_cases g:isSet e = false
  ·rw [if_pos g]; exact js_for i nd (G.loop hl).2 (G.loop hl).1 (h _) hb e1 e2.1 e2.2 (fold_no g)
  ·rw [if_neg g]; exact js_never
def raiseG (c:Ct) (f:Expr → GE):Expr → GS
 | .Call (.Name x _) (e :: es) [] _ => if okN x = true ∧ (e :: es).all plain = true ∧ c.names.lookup x = some .globalImplicit ∧ c.clss.contains x = true ∧ c.free = true then gRaise x (argsG f (e :: es)) else gNever
 | _ => gNever
theorem raise_ok {c:Ct} {k:Nat} (G:Good c k X) {f:Expr → GE} (h:∀ e,JE X e (f e)) (e:Expr) (pos:Pos):JS X (.Raise (some e) none pos) (raiseG c f e):=by
 unfold raiseG
 split
 ·rename_i x p e es q
  by_cases g:okN x = true ∧ (e :: es).all plain = true ∧ c.names.lookup x = some .globalImplicit ∧ c.clss.contains x = true ∧ c.free = true
  ·rw [if_pos g]
   obtain ⟨g1,g2,g3,g4,g5⟩:=g
   have hg:Gl X x:=by
    show X.env.scope.names.lookup x = _
    rw [G.sc]; exact g3
   have gp:plain e = true ∧ es.all plain = true:=by rw [List.all_cons,Bool.and_eq_true] at g2; exact g2
   obtain ⟨C,q1,q2⟩:=G.cls x g4
   exact js_raise (G.free g5).2 q2 hg q1 (args_ok h (e :: es) g2) (okN_d g1) (star_plain gp.1) (any_plain gp.2)
  ·rw [if_neg g]; exact js_never
 ·exact js_never
def tryG (c:Ct) (b:Ct → List Stmt → GS) (body:List Stmt):List ExceptHandler → GS
 | [.ExceptHandler (some (.Name x _)) (some n) (b0 :: suite) _] => if okN x = true ∧ c.names.lookup x = some .globalImplicit ∧ c.clss.contains x = true ∧ c.free = true ∧ c.top = true then
   (match slotL c n with
   | some i => gTry (fun y => c.tc.lookup (y,x)) i (b c.inTry body) (b c.inSuite (b0 :: suite))
   | none => gNever) else gNever
 | _ => gNever
theorem try_ok {c:Ct} {k:Nat} (G:Good c k X) {b:Ct → List Stmt → GS} (hb:∀ c X,Good c k X → ∀ s,JSs X s (b c s)) (body:List Stmt) (hs:List ExceptHandler) (pos:Pos):JS X (.Try body hs [] [] pos) (tryG c b body hs):=by
 unfold tryG
 split
 ·rename_i x p n b0 suite q
  by_cases g:okN x = true ∧ c.names.lookup x = some .globalImplicit ∧ c.clss.contains x = true ∧ c.free = true ∧ c.top = true
  ·rw [if_pos g]
   obtain ⟨g1,g3,g4,g5,g6⟩:=g
   have hg:Gl X x:=by
    show X.env.scope.names.lookup x = _
    rw [G.sc]; exact g3
   obtain ⟨D,q1,q2⟩:=G.cls x g4
   cases e1:slotL c n with
   | none => exact js_never
   | some i =>
    obtain ⟨e2,e3⟩:=slotL_ok G e1
    exact js_try (G.stk g6) (by rw [G.N]; exact G.nd) e2 e3 (G.free g5).2 G.tab hg q1 q2.cls (okN_d g1) (fun pn E => hb _ _ (G.body g5 pn E) _) fun a o u pn E nx => hb _ _ (G.suite nx pn E) _
  ·rw [if_neg g]; exact js_never
 ·exact js_never
def augG (c:Ct) (f:Expr → GE) (x:Str) (op:Operator) (e:Expr):GS:=match slot c x,augO op with
 | some i,some o => gAug o i (f e)
 | _,_ => gNever
theorem aug_ok {c:Ct} {k:Nat} (G:Good c k X) {f:Expr → GE} (h:∀ e,JE X e (f e)) (x:Str) (op:Operator) (e:Expr) (p pos:Pos):JS X (.AugAssign (.Name x p) op e pos) (augG c f x op e):=by
 unfold augG
 cases e1:slot c x with
 | none => exact js_never
 | some i =>
  cases e2:augO op with
  | none => exact js_never
  | some o =>
   obtain ⟨q1,q2⟩:=slot_ok G e1
   exact js_aug i e2 (by rw [G.N]; exact G.nd) (h e) q1 q2.1 q2.2
def isItems (c:Ct):Expr → Bool
 | .Call (.Attribute (.Name x _) name apos) [] [] cpos => decide (name = "items") && c.dts.contains x && (apos.endLine == cpos.line)
 | _ => false
noncomputable def forItems (c:Ct) (f:Expr → GE) (is:List Nat) (gb:GS):Expr → GS
 | .Call (.Attribute (.Name x p) _ _) [] [] _ => (match slot c x with | some i => gThaw i (gForG is (giItems (f (.Name x p))) gb) | none => gForG is (giItems (f (.Name x p))) gb)
 | _ => gNever
theorem items_ok {c:Ct} {k:Nat} (G:Good c k X) (gl:c.loop = true) {f:Expr → GE} (h:∀ e,JE X e (f e)) {es:List Expr} {is:List Nat} (e1:slots c es = some is) {body:List Stmt} {gb:GS} (hb:JSs X body gb) (e:Expr) (g:isItems c e = true) {kk:Nat} {p q:Pos}:JS X (.For (.Tuple es kk p) e body [] q) (forItems c f is gb e):=by
 unfold isItems at g
 split at g
 ·rename_i x p1 name apos cpos
  simp only [Bool.and_eq_true,decide_eq_true_eq] at g
  obtain ⟨⟨rfl,_⟩,g3⟩:=g
  have go:=js_forG (pos:=q) (by rw [G.N]; exact G.nd) (G.loop gl).2 (G.loop gl).1 (slots_ok G e1) (ji2_items (es':=es) (kt:=kk) (pt:=p) (h (.Name x p1)) ⟨rfl,g3⟩) hb (fun _ => rfl)
  unfold forItems
  dsimp only
  cases e2:slot c x with
  | none => exact go
  | some i => exact js_thaw i go
 ·cases g
def wTurns:Nat:=100000
noncomputable def stepS (c:Ct) (f:Expr → GE) (t:Expr → GT) (b:Ct → List Stmt → GS):Stmt → GS
 | .Return (some e) _ => gRet (f e)
 | .Return none _ => gRet (gC .non)
 | .Expr e _ => if isCo e = false then gExpr (f e) else gNever
 | .If q x y _ => gIf (t q) (b c x) (b c y)
 | .Assign ts v _ => asgG c f v ts
 | .For (.Name x _) e body [] _ => if c.loop = true then (match slot c x with | some i => forG c f i (b c body) e | none => gNever) else gNever
 | .For (.Tuple es _ _) e body [] _ => if c.loop = true ∧ isSet e = false then (match slots c es with | some is => (if isEnC c e = true then gForG is (iterG2 c f e) (b c body) else if isItems c e = true then forItems c f is (b c body) e else gForB is (f e) (b c body)) | none => gNever) else gNever
 | .While q body [] _ => if c.loop = true then gWhile wTurns (t q) (b c body) else gNever
 | .AugAssign (.Name x _) op e _ => augG c f x op e
 | .Raise (some e) none _ => raiseG c f e
 | .Try body hs [] [] _ => tryG c b body hs
 | .Pass _ => gNext
 | _ => gNever
theorem stepS_ok {c:Ct} {k:Nat} (G:Good c k X) {f:Expr → GE} {t:Expr → GT} {b:Ct → List Stmt → GS} (h:∀ e,JE X e (f e)) (ha:∀ e,JAs X e (f e)) (ht:∀ e,JT X e (t e)) (hb:∀ c X,Good c k X → ∀ s,JSs X s (b c s)) (s:Stmt):JS X s (stepS c f t b s):=by
 unfold stepS
 split
 ·exact js_ret (h _)
 ·exact js_retN
 ·rename_i e p
  by_cases g:isCo e = false
  ·rw [if_pos g]; exact js_expr (h _) (swap_no g)
  ·rw [if_neg g]; exact js_never
 ·exact js_if (ht _) (hb c X G _) (hb c X G _)
 ·exact asg_ok G h ha _ _ _
 ·rename_i x p e body q
  by_cases g:c.loop = true
  ·rw [if_pos g]
   cases e1:slot c x with
   | none => exact js_never
   | some i => exact for_ok G g h e1 (hb c X G body) e _ _
  ·rw [if_neg g]; exact js_never
 ·rename_i es kk p e body q
  by_cases g:c.loop = true ∧ isSet e = false
  ·rw [if_pos g]
   cases e1:slots c es with
   | none => exact js_never
   | some is =>
    dsimp only
    by_cases ge:isEnC c e = true
    ·rw [if_pos ge]; exact js_forG (by rw [G.N]; exact G.nd) (G.loop g.1).2 (G.loop g.1).1 (slots_ok G e1) (iter2_ok G h es kk p e) (hb c X G body) (fold_no g.2)
    ·rw [if_neg ge]
     by_cases gi:isItems c e = true
     ·rw [if_pos gi]; exact items_ok G g.1 h e1 (hb c X G body) e gi
     ·rw [if_neg gi]; exact js_forB (by rw [G.N]; exact G.nd) (G.loop g.1).2 (G.loop g.1).1 (slots_ok G e1) (h e) (hb c X G body) (fold_no g.2)
  ·rw [if_neg g]; exact js_never
 ·rename_i q body p
  by_cases g:c.loop = true
  ·rw [if_pos g]; exact js_while wTurns (G.loop g).2 (ht _) (hb c X G body)
  ·rw [if_neg g]; exact js_never
 ·exact aug_ok G h _ _ _ _ _
 ·exact raise_ok G h _ _
 ·exact try_ok G hb _ _ _
 ·exact js_pass
 ·exact js_never
end
def stmtsG (f:Stmt → GS):List Stmt → GS
 | [] => gNext
 | [s] => f s
 | s :: s' :: r => gSeq (f s) (stmtsG f (s' :: r))
theorem stmts_ok {X:Cx} {f:Stmt → GS} (h:∀ s,JS X s (f s)):∀ ss,JSs X ss (stmtsG f ss)
 | [] => jss_nil
 | [s] => jss_one (h s)
 | s :: s' :: r => jss_cons (h s) (stmts_ok h (s' :: r))
noncomputable def compS:Nat → Ct → List Stmt → GS
 | 0,_ => fun _ => gNever
 | n + 1,c => stmtsG (stepS c (compE 40 c).1 (compE 40 c).2 (compS n))
theorem compS_ok {k:Nat}:∀ (n:Nat) (c:Ct) (X:Cx),Good c k X → ∀ ss:List Stmt,JSs X ss (compS n c ss)
 | 0,_,_,_,_ => jss_never
 | n + 1,c,X,G,ss => stmts_ok (fun s => stepS_ok G (compE_ok 40 k c X G).1 (compE_as 40 c X G) (compE_ok 40 k c X G).2 (compS_ok n) s) ss
structure LamK (K:PySem.W.Frag) (mg:Str → Option Value) (q:Str) (P:Addr):Prop where
 tab:tabFree K q = some P
 code:∃ c o vs file tf flags tg inF text tt,PySem.W.tabIn K q = some (c,P) ∧ K.lookup c = some o ∧ o.cls = .type "code" ∧ o.data = .fields vs ∧ vs[11]? = some (.ref P) ∧ vs.getD 11 .none = .ref P ∧ vs.getD 18 .none = .str file tf ∧
  vs.getD 7 .none = .int flags tg ∧ vs.getD 9 .none = .bool inF ∧ vs.getD 10 .none = .int text tt ∧ c ≠ P
 mem:q ∈ lamDefs
 uniq:∀ q',q' ∈ lamDefs → tabFree K q' = some P → q' = q
theorem LamK.at' {X:Cx} {q:Str} {P f:Addr} {cdv:Value} (h:LamK X.K X.mg q P) (M:ModB X.K X.mg X.base) (hn:PySem.W.nsIn X.K mainGlobals q = some (some (.ref f))) (hc:CodeOf X.K f cdv) (e1:X.env.code = cdv) (e2:X.env.qual = q ++ ".<locals>."):LamAt X q P:=by
 obtain ⟨c,o,vs,file,tf,flags,tg,inF,text,tt,t,l,r⟩:=h.code
 refine ⟨⟨c,?_,o,vs,file,tf,flags,tg,inF,text,tt,M.1.kin _ _ l,r⟩,e2,h.tab,h.mem,h.uniq,M.2⟩
 ·obtain ⟨of,lf,fd,d,cd⟩:=hc
  rw [e1,← cd]
  unfold PySem.W.tabIn at t
  rw [hn] at t
  dsimp only at t
  rw [lf] at t
  obtain ⟨oc,od,da,sl⟩:=of
  dsimp only at d
  subst d
  dsimp only at t
  cases q1:fd.code with
  | ref c2 =>
   rw [q1] at t
   dsimp only at t
   split at t
   ·split at t
    ·cases t; rfl
    ·cases t
   ·cases t
  | _ => rw [q1] at t; cases t
structure TopX (c:Ct) (k:Nat) (P:Program) (w:World) (K:PySem.W.Frag) (mg:Str → Option Value) (base:Heap):Prop where
 lam:∀ p L,c.lam = some (p,L) → HasL P w K mg base k p 3 L
 fnL:∀ x F,c.fnL.lookup x = some F → FnL P w K mg k c.lj x F
 fnJ:∀ x n F,c.fns.lookup x = some (n,F) → c.lfn.contains x = true → ∀ base,ModB K mg base → Has P w K mg base c.lj x n F
 at':c.self ∈ lamDefs → ∃ P,LamK K mg c.self P
theorem TopX.no {c:Ct} {k:Nat} {P:Program} {w:World} {K:PySem.W.Frag} {mg:Str → Option Value} {base:Heap} (h1:c.lam = none) (h2:c.fnL = []) (h3:c.lfn = []) (h4:c.self = ""):TopX c k P w K mg base :=
 ⟨(fun p L e => by rw [h1] at e; cases e),(fun x F e => by rw [h2] at e; cases e),(fun x n F _ e => by rw [h3] at e; cases e),(fun e => by rw [h4] at e; exact absurd e (by decide))⟩
structure TopOk (c:Ct) (k:Nat) (P:Program) (w:World) (K:PySem.W.Frag) (mg:Str → Option Value) (base:Heap):Prop where
 cst:∀ x w,c.consts.lookup x = some w → CstOk K mg x w
 bl:∀ x,c.bl.contains x = true → mg x = none
 fns:∀ x n F,c.fns.lookup x = some (n,F) → Has P w K mg base k x n F
 tab:TabOk K c.tb c.tt c.tc
 cls:∀ x,c.clss.contains x = true → ∃ C,mg x = some (.ref C) ∧ ExcC K x C
 cln:∀ x,c.cln.contains x = true → ∃ C,mg x = some (.ref C) ∧ ClsAt K x C
 dcs:∀ x kvs,c.dcs.lookup x = some kvs → DcAt K w mg x kvs
 fnu:∀ x n F,c.fnu.contains x = true → c.fns.lookup x = some (n,F) → HasU P w K mg base k x n F
 x:TopX c k P w K mg base
theorem has_def {P:Program} {w:World} {K:PySem.W.Frag} {mg:Str → Option Value} {base:Heap} {h:Heap} {k:Nat} {c:Ct} {x:Str} {st:Stmt} {ps:List Str} {g:GS} (KX:K.In h) (NS:h.Ns mainGlobals mg) (D:DefAt K x st) (T:TopOk c k P w K mg base)
  (S:FnScope c.N ps (defScope st)) (hn:(defScope st).names = c.names) (hg:compS 30 c (defBody st) = g)
  (hb:∀ (kV doc pm:Value) (an:Option Addr) (cdv ct:Value) (us:List Value),us.length = ps.length → bindArgs (PySem.W.fnOf x x (defArgs st) (defBody st) (defScope st) .none kV doc pm an cdv ct) ⟨us,[]⟩ = pure (ps.zip us)) (hM:c.self ∈ lamDefs → ModB K mg base ∧ c.self = x:=by exact fun z => absurd (show ("":Str) ∈ lamDefs from z) (by decide)) :
  Has P w K mg base (k + 1) x ps.length (fnF c.N.length g):=by
 obtain ⟨f,fd,a,F⟩:=D
 refine ⟨f,fd,ps,?_,PySem.W.mg_of KX NS a,F.kp,F.binds hb⟩
 subst hg
 refine fn_ok F S fun cdv hcdv A outer s H E hr => ?_
 refine compS_ok (k:=k) 30 c _ ⟨rfl,hn,S.nd,room_un hr,fun _ => ⟨hr,rfl⟩,fun _ => ⟨rfl,PassesOwn.leaving⟩,T.cst,T.bl,T.fns,fun _ => ⟨rfl,rfl,rfl⟩,fun _ _ => rfl,S.kind,T.tab,T.cls,T.cln,T.dcs,RoomU.of hr,T.fnu,⟨T.x.lam,T.x.fnL,T.x.fnJ,fun _ z => ?_⟩,⟨_,_,_,rfl,rfl,rfl⟩,.inl hr.hd⟩ _
 obtain ⟨P',L⟩:=T.x.at' z
 obtain ⟨M,e⟩:=hM z
 exact ⟨P',LamK.at' L M (by rw [e]; exact a) hcdv rfl (by rw [e]; rfl)⟩
theorem law_has {P:Program} {w:World} {K:PySem.W.Frag} {mg:Str → Option Value} {h:Heap} {k:Nat} {F:List Wv → Hs → Re Wv} {fa:Addr} {st:Stmt} (KX:K.In h) (NS:h.Ns mainGlobals mg) (hmg:mg "law" = some (.ref fa)) (D:DefAt K "law" st)
  (hp:∀ (kV doc pm:Value) (an:Option Addr) (cdv ct:Value) (s:Shared) (u:Value),BindsTo s (PySem.W.fnOf "law" "law" (defArgs st) (defBody st) (defScope st) .none kV doc pm an cdv ct) ⟨[u],[]⟩ [("script",u)])
  (FN:∀ (f:Addr) (fd:FuncData),Fun K "law" "law" st f fd → ∀ base:Heap,K.In base → base.Ns mainGlobals mg → FnOk P w K mg base (CXJ P w) k f fd ["script"] (spW K 1 F)) :
  ∃ fd:FuncData,(∀ (s:Shared) (u:Value),BindsTo s fd ⟨[u],[]⟩ [("script",u)]) ∧ ∀ base:Heap,K.In base → base.Ns mainGlobals mg → FnOk P w K mg base (CXJ P w) k fa fd ["script"] (spW K 1 F):=by
 obtain ⟨f,fd,a,Fu⟩:=D
 have e:=hmg.symm.trans (PySem.W.mg_of KX NS a)
 cases e
 refine ⟨fd,fun s u => ?_,FN fa fd Fu⟩
 obtain ⟨oc,od,kV,doc,pm,an,cdv,ct,osl,rfl,lk,hcd⟩:=Fu.ex
 exact hp kV doc pm an cdv ct s u
theorem fn_def {P:Program} {w:World} {K:PySem.W.Frag} {mg:Str → Option Value} {base:Heap} {k:Nat} {c:Ct} {x:Str} {st:Stmt} {ps:List Str} {g:GS} {f:Addr} {fd:FuncData} (F:Fun K x x st f fd) (T:TopOk c k P w K mg base)
  (S:FnScope c.N ps (defScope st)) (hn:(defScope st).names = c.names) (hg:compS 30 c (defBody st) = g) (hs:c.self ∉ lamDefs:=by exact (show ("":Str) ∉ lamDefs by decide)):FnOk P w K mg base (CXJ P w) (k + 1) f fd ps (spW K ps.length (fnF c.N.length g)):=by
 subst hg
 refine fn_ok F S fun cdv _ A outer s H E hr => ?_
 exact compS_ok (k:=k) 30 c _ ⟨rfl,hn,S.nd,room_un hr,fun _ => ⟨hr,rfl⟩,fun _ => ⟨rfl,PassesOwn.leaving⟩,T.cst,T.bl,T.fns,fun _ => ⟨rfl,rfl,rfl⟩,fun _ _ => rfl,S.kind,T.tab,T.cls,T.cln,T.dcs,RoomU.of hr,T.fnu,⟨T.x.lam,T.x.fnL,T.x.fnJ,fun _ z => absurd z hs⟩,⟨_,_,_,rfl,rfl,rfl⟩,.inl hr.hd⟩ _
end J
namespace J
open PySem PySem.Spec PyProof.Rows L2
def AllP {α:Type} (P:α → Prop):List α → Prop
 | [] => True
 | a :: l => P a ∧ AllP P l
theorem AllP.look {κ β:Type} [BEq κ] [LawfulBEq κ] {P:κ × β → Prop}:∀ {l:List (κ × β)} {x:κ} {b:β},AllP P l → l.lookup x = some b → P (x,b)
 | [],_,_,_,h => by cases h
 | (y,c) :: l,x,b,a,h => by
  rw [List.lookup_cons] at h
  cases e:x == y with
  | true =>
   rw [e] at h
   cases h
   have e':=eq_of_beq e
   subst e'
   exact a.1
  | false => rw [e] at h; exact AllP.look a.2 h
theorem AllP.mem {P:Str → Prop}:∀ {l:List Str} {x:Str},AllP P l → l.contains x = true → P x
 | [],_,_,h => by cases h
 | y :: l,x,a,h => by
  rw [List.contains_cons,Bool.or_eq_true] at h
  rcases h with e | h
  ·have e':=eq_of_beq e
   subst e'
   exact a.1
  ·exact AllP.mem a.2 h
theorem cls_one {K:PySem.W.Frag} {c:PySem.Str} {C D:Addr} (h:ClsAt K c C) (k:ClsAt K c D):C = D:=by
 unfold ClsAt at h k
 rw [h] at k
 cases k
 rfl
theorem tab_mk {K:PySem.W.Frag} {tb:Tab} {tt:TabT} {tc:Tab} (h:AllP (fun p => ∃ C D,ClsAt K p.1.1 C ∧ ClsAt K p.1.2 D ∧ ExcK K C ∧ PySem.W.kitOne K (.ref C) (.ref D) = some p.2) tb)
  (g:AllP (fun p => ∃ C,ClsAt K p.1.1 C ∧ ExcK K C ∧ PySem.W.kitOne K (.ref C) (.type p.1.2) = some p.2) tt)
  (f:AllP (fun p => ∃ C D,ClsAt K p.1.1 C ∧ ClsAt K p.1.2 D ∧ PySem.W.excIn K C bmV nwV = true ∧ PySem.W.excIn K D bmV nwV = true ∧ PySem.W.mroIn K C (.ref D) = some p.2) tc):TabOk K tb tt tc :=
 ⟨fun c d b C D e hC hD => by
  obtain ⟨C',D',q1,q2,r⟩:=AllP.look h e
  cases cls_one hC q1
  cases cls_one hD q2
  exact r,fun c d b C D e hC hD => by
  obtain ⟨C',D',q1,q2,r⟩:=AllP.look f e
  cases cls_one hC q1
  cases cls_one hD q2
  exact r,fun c T b C e hC => by
  obtain ⟨C',q1,r⟩:=AllP.look g e
  cases cls_one hC q1
  exact r⟩
theorem topOk_mk {c:Ct} {k:Nat} {P:Program} {w:World} {K:PySem.W.Frag} {mg:Str → Option Value} {base:Heap} (hc:AllP (fun p => CstOk K mg p.1 p.2) c.consts) (hb:AllP (fun x => mg x = none) c.bl) (hf:AllP (fun p => Has P w K mg base k p.1 p.2.1 p.2.2) c.fns)
  (ht:TabOk K c.tb c.tt c.tc) (hk:AllP (fun x => ∃ C,mg x = some (.ref C) ∧ ExcC K x C) c.clss) (hn:AllP (fun x => ∃ C,mg x = some (.ref C) ∧ ClsAt K x C) c.cln) (hd:AllP (fun p => DcAt K w mg p.1 p.2) c.dcs)
  (hu:AllP (fun x => ∀ n F,c.fns.lookup x = some (n,F) → HasU P w K mg base k x n F) c.fnu:=by exact trivial) (hx:TopX c k P w K mg base:=by exact TopX.no rfl rfl rfl rfl):TopOk c k P w K mg base :=
 ⟨fun _ _ h => hc.look h,fun _ h => hb.mem h,fun x n F h => hf.look (b:=(n,F)) h,ht,fun _ h => hk.mem h,fun _ h => hn.mem h,fun x kvs h => hd.look (b:=kvs) h,fun x n F h k => hu.mem h n F k,hx⟩
end J
namespace J
open PySem PySem.Spec PyProof.Rows L2
theorem HasL.mono {P:Program} {w:World} {K:PySem.W.Frag} {mg:Str → Option Value} {base:Heap} {j k:Nat} {p:Lm} {n:Nat} {L:LF} (h:HasL P w K mg base j p n L) (l:j ≤ k):HasL P w K mg base k p n L:=by
 obtain ⟨fd,ps,ob,G,r⟩:=h
 exact ⟨fd,ps,ob,G.mono l,r⟩
end J
namespace J
open PySem PySem.Spec PyProof.Rows L2
def Rs.sq (r:Rs) (h:GS):Rs:=match r with
 | .nx ρ st => h ρ st
 | r => r
section
variable {α β:Type} {ρ ρ':Rho} {st:Hs} {h g ga' gb':GS} {ga gb gc:GE} {gt gu:GT} {w:Wv} {c:PySem.Str} {f:α → Hs → Re β} {k:α → Hs → Rs} {a:α} {i:Nat}
@[simp] theorem sq_nx:(Rs.nx ρ st).sq h = h ρ st:=rfl
@[simp] theorem sq_rt:(Rs.rt w st).sq h = .rt w st:=rfl
@[simp] theorem sq_bk:(Rs.bk ρ st).sq h = .bk ρ st:=rfl
@[simp] theorem sq_ct:(Rs.ct ρ st).sq h = .ct ρ st:=rfl
@[simp] theorem sq_err:(Rs.err c ρ st).sq h = .err c ρ st:=rfl
@[simp] theorem sq_bad:Rs.bad.sq h = .bad:=rfl
@[simp] theorem bind_ok:(Re.ok a st).bind f = f a st:=rfl
@[simp] theorem bind_err:(Re.err c st).bind f = .err c st:=rfl
@[simp] theorem bind_bad:(Re.bad:Re α).bind f = .bad:=rfl
@[simp] theorem thn_ok:(Re.ok a st).thn ρ k = k a st:=rfl
@[simp] theorem thn_err:(Re.err c st:Re α).thn ρ k = .err c ρ st:=rfl
@[simp] theorem nox_ok:(Re.ok a st).nox = .ok a st:=rfl
@[simp] theorem nox_bad:(Re.bad:Re α).nox = .bad:=rfl
@[simp] theorem thn_bad:(Re.bad:Re α).thn ρ k = .bad:=rfl
@[simp] theorem e_seq:gSeq g h ρ st = (g ρ st).sq h:=by unfold gSeq Rs.sq; cases g ρ st <;> rfl
@[simp] theorem e_next:gNext ρ st = .nx ρ st:=rfl
@[simp] theorem e_ret:gRet ga ρ st = (ga ρ st).thn ρ fun w st' => .rt w st':=rfl
@[simp] theorem e_expr:gExpr ga ρ st = (ga ρ st).thn ρ fun _ st' => .nx ρ st':=rfl
@[simp] theorem e_set:gSet i ga ρ st = (ga ρ st).thn ρ fun w st' => .nx (ρ.set i (some w)) st':=rfl
def kIf (ga gb:GS) (ρ:Rho):Bool → Hs → Rs:=fun b st' => if b = true then ga ρ st' else gb ρ st'
@[simp] theorem kIf_t:kIf g h ρ true st = g ρ st:=rfl
@[simp] theorem kIf_f:kIf g h ρ false st = h ρ st:=rfl
@[simp] theorem e_if:gIf gt g h ρ st = (gt ρ st).thn ρ (kIf g h ρ):=rfl
def rdV (o:Option (Option Wv)) (st:Hs):Re Wv:=match o with
 | some (some w) => .ok w st
 | _ => .bad
@[simp] theorem rdV_s:rdV (some (some w)) st = .ok w st:=rfl
@[simp] theorem e_var:gVar i ρ st = rdV ρ[i]? st:=rfl
@[simp] theorem e_c:gC w ρ st = .ok w st:=rfl
def kB (op:Op2) (gb:GE) (ρ:Rho):Wv → Hs → Re Wv:=fun x st1 => (gb ρ st1).bind fun y st2 => (op x y st2).nox
@[simp] theorem kB_d {op:Op2} {x:Wv}:kB op gb ρ x st = (gb ρ st).bind fun y st2 => (op x y st2).nox:=rfl
@[simp] theorem e_bin {op:Op2}:gBin op ga gb ρ st = (ga ρ st).bind (kB op gb ρ):=rfl
@[simp] theorem e_tst:gTst ga ρ st = (ga ρ st).bind tst:=rfl
@[simp] theorem tst_b {b:Bool}:tst (.bl b) st = .ok b st:=rfl
@[simp] theorem e_tru:gTru ga ρ st = (ga ρ st).bind truW:=rfl
@[simp] theorem truW_b {b:Bool}:truW (.bl b) st = .ok b st:=rfl
@[simp] theorem e_not:gNot gt ρ st = (gt ρ st).bind fun b st1 => .ok (!b) st1:=rfl
def kAnd (gb:GT) (ρ:Rho):Bool → Hs → Re Bool:=fun b st1 => if b = true then gb ρ st1 else .ok false st1
@[simp] theorem kAnd_t:kAnd gu ρ true st = gu ρ st:=rfl
@[simp] theorem kAnd_f:kAnd gu ρ false st = .ok false st:=rfl
@[simp] theorem e_and:gAnd gt gu ρ st = (gt ρ st).bind (kAnd gu ρ):=rfl
def kOr (gb:GT) (ρ:Rho):Bool → Hs → Re Bool:=fun b st1 => if b = true then .ok true st1 else gb ρ st1
@[simp] theorem kOr_t:kOr gu ρ true st = .ok true st:=rfl
@[simp] theorem kOr_f:kOr gu ρ false st = gu ρ st:=rfl
@[simp] theorem e_or:gOr gt gu ρ st = (gt ρ st).bind (kOr gu ρ):=rfl
def kAndV (gb:GE) (ρ:Rho):Wv → Hs → Re Wv:=fun w st1 => match w with
 | .bl true => gb ρ st1
 | .bl false => .ok (.bl false) st1
 | _ => .bad
@[simp] theorem kAndV_t:kAndV gb ρ (.bl true) st = gb ρ st:=rfl
@[simp] theorem kAndV_f:kAndV gb ρ (.bl false) st = .ok (.bl false) st:=rfl
@[simp] theorem e_andV:gAndV ga gb ρ st = (ga ρ st).bind (kAndV gb ρ):=rfl
def kNotV:Wv → Hs → Re Wv:=fun w st1 => match w with
 | .bl b => .ok (.bl (!b)) st1
 | _ => .bad
@[simp] theorem kNotV_b {b:Bool}:kNotV (.bl b) st = .ok (.bl (!b)) st:=rfl
@[simp] theorem e_notV:gNotV ga ρ st = (ga ρ st).bind kNotV:=rfl
@[simp] theorem e_nil:gNil ρ st = .ok [] st:=rfl
def kCons (gr:GA) (ρ:Rho):Wv → Hs → Re (List Wv):=fun x st1 => (gr ρ st1).bind fun xs st2 => .ok (x :: xs) st2
@[simp] theorem kCons_d {gr:GA} {x:Wv}:kCons gr ρ x st = (gr ρ st).bind fun xs st2 => .ok (x :: xs) st2:=rfl
@[simp] theorem e_cons {gr:GA}:gCons ga gr ρ st = (ga ρ st).bind (kCons gr ρ):=rfl
def kTup:List Wv → Hs → Re Wv:=fun ws st1 => if ws.length ≤ lim then .ok (.tup ws) st1 else .bad
theorem kTup_d {ws:List Wv} (hl:ws.length ≤ lim):kTup ws st = .ok (.tup ws) st:=if_pos hl
@[simp] theorem e_tup {gr:GA}:gTup gr ρ st = (gr ρ st).bind kTup:=rfl
def kLst:List Wv → Hs → Re Wv:=fun ws st1 => if ws.length ≤ lim then .ok (.ref st1.length) (st1 ++ [.lst ws]) else .bad
theorem kLst_d {ws:List Wv} (hl:ws.length ≤ lim):kLst ws st = .ok (.ref st.length) (st ++ [.lst ws]):=if_pos hl
@[simp] theorem e_lst {gr:GA}:gLst gr ρ st = (gr ρ st).bind kLst:=rfl
section
variable {x x0 x1 x2 x3 x4 x5 x6 x7:Wv}
@[simp] theorem kTup_2:kTup [x0,x1] st = .ok (.tup [x0,x1]) st:=kTup_d (by simp [lim])
@[simp] theorem kTup_3:kTup [x0,x1,x2] st = .ok (.tup [x0,x1,x2]) st:=kTup_d (by simp [lim])
@[simp] theorem kLst_0:kLst [] st = .ok (.ref st.length) (st ++ [.lst []]):=kLst_d (by simp [lim])
@[simp] theorem kLst_1:kLst [x0] st = .ok (.ref st.length) (st ++ [.lst [x0]]):=kLst_d (by simp [lim])
end
def kCall (n:Nat) (F:List Wv → Hs → Re Wv):List Wv → Hs → Re Wv:=fun ws st1 => if ws.length = n then F ws st1 else .bad
section
variable {F:List Wv → Hs → Re Wv} {x0 x1 x2 x3:Wv} {gr:GA}
@[simp] theorem kCall_1:kCall 1 F [x0] st = F [x0] st:=rfl
@[simp] theorem kCall_2:kCall 2 F [x0,x1] st = F [x0,x1] st:=rfl
@[simp] theorem kCall_3:kCall 3 F [x0,x1,x2] st = F [x0,x1,x2] st:=rfl
@[simp] theorem kCall_4:kCall 4 F [x0,x1,x2,x3] st = F [x0,x1,x2,x3] st:=rfl
@[simp] theorem e_call {n:Nat}:gCall n F gr ρ st = (gr ρ st).bind (kCall n F):=rfl
@[simp] theorem e_callB {op:List Wv → Hs → Re Wv}:gCallB op gr ρ st = (gr ρ st).bind fun ws st1 => (op ws st1).nox:=rfl
end
@[simp] theorem e_un {op:Wv → Hs → Re Wv}:gUn op ga ρ st = (ga ρ st).bind op:=rfl
@[simp] theorem neg_i {i:Int}:opNeg (.int i) st = .ok (.int (-i)) st:=rfl
@[simp] theorem add_i {i j:Int}:oAdd (.int i) (.int j) st = .ok (.int (i + j)) st:=rfl
@[simp] theorem sub_i {i j:Int}:oSub (.int i) (.int j) st = .ok (.int (i - j)) st:=rfl
@[simp] theorem lt_i {i j:Int}:oLt (.int i) (.int j) st = .ok (.bl (decide (i < j))) st:=rfl
@[simp] theorem le_i {i j:Int}:oLe (.int i) (.int j) st = .ok (.bl (decide (i ≤ j))) st:=rfl
@[simp] theorem gt_i {i j:Int}:oGt (.int i) (.int j) st = .ok (.bl (decide (j < i))) st:=rfl
@[simp] theorem ge_i {i j:Int}:oGe (.int i) (.int j) st = .ok (.bl (decide (j ≤ i))) st:=rfl
@[simp] theorem eq_i {i j:Int}:oEq (.int i) (.int j) st = .ok (.bl (i == j)) st:=rfl
@[simp] theorem ne_i {i j:Int}:oNe (.int i) (.int j) st = .ok (.bl (!(i == j))) st:=rfl
@[simp] theorem eq_s {i j:PySem.Str}:oEq (.str i) (.str j) st = .ok (.bl (i == j)) st:=rfl
@[simp] theorem ne_s {i j:PySem.Str}:oNe (.str i) (.str j) st = .ok (.bl (!(i == j))) st:=rfl
@[simp] theorem eq_b {i j:Bool}:oEq (.bl i) (.bl j) st = .ok (.bl (i == j)) st:=by cases i <;> cases j <;> rfl
@[simp] theorem ne_b {i j:Bool}:oNe (.bl i) (.bl j) st = .ok (.bl (!(i == j))) st:=by cases i <;> cases j <;> rfl
theorem fdiv_i {i j:Int} (h:j ≠ 0 ∧ j.natAbs.log2 < 9000):oFdiv (.int i) (.int j) st = .ok (.int (i.fdiv j)) st:=by show (if _ then _ else _) = _; rw [if_pos h]
theorem mod_i {i j:Int} (h:j ≠ 0):oMod (.int i) (.int j) st = .ok (.int (i.fmod j)) st:=by show (if _ then _ else _) = _; rw [if_pos h]
theorem mul_i {i j:Int} (h:IntMulOk i j):oMulL (.int i) (.int j) st = .ok (.int (i * j)) st:=by show (if _ then _ else _) = _; rw [if_pos h]
theorem mul_l {i j:Int} (h1:-(2 ^ 64) < i) (h2:i < 2 ^ 64):oMulL (.int i) (.int j) st = .ok (.int (i * j)) st:=mul_i (IntMulOk.of_left (intBits_le_64 h1 h2))
theorem mul_r {i j:Int} (h1:-(2 ^ 64) < j) (h2:j < 2 ^ 64):oMulL (.int i) (.int j) st = .ok (.int (i * j)) st:=mul_i (IntMulOk.of_right (intBits_le_64 h1 h2))
theorem pow_i {i j:Int} (h:0 ≤ j ∧ j ≤ 1000000 ∧ i.natAbs < 2 ^ 64):oPow (.int i) (.int j) st = .ok (.int (i ^ j.toNat)) st:=by show (if _ then _ else _) = _; rw [if_pos h]
theorem ix_l {l:Nat} {i:Int} {ws:List Wv} {v:Wv} (h:lstOf st l = some ws) (h2:atI ws i = some v):oIx (.ref l) (.int i) st = .ok v st:=by
 show (match lstOf st l with | some ws => (match atI ws i with | some w => Re.ok w st | none => .bad) | none => .bad) = _
 rw [h]
 dsimp only
 rw [h2]
theorem add_l {l k:Nat} {xs ys:List Wv} (h1:lstOf st l = some xs) (h2:lstOf st k = some ys) (hl:xs.length + ys.length ≤ lim):oAdd (.ref l) (.ref k) st = .ok (.ref st.length) (st ++ [.lst (xs ++ ys)]):=by
 show (match lstOf st l,lstOf st k with | some i,some j => if i.length + j.length ≤ lim then Re.ok (Wv.ref st.length) (st ++ [Ob.lst (i ++ j)]) else .bad | _,_ => .bad) = _
 rw [h1,h2]
 exact if_pos hl
theorem ix_t {i:Int} {ws:List Wv} {v:Wv} (h2:atI ws i = some v):oIx (.tup ws) (.int i) st = .ok v st:=by
 show (match atI ws i with | some w => Re.ok w st | none => .bad) = _
 rw [h2]
end
theorem fn_rt {n:Nat} {g:GS} {ws:List Wv} {st st':Hs} {w:Wv} (h:g (ws.map some ++ List.replicate (n - ws.length) none) st = .rt w st'):fnF n g ws st = .ok w st':=by unfold fnF; rw [h]
theorem fn_err {n:Nat} {g:GS} {ws:List Wv} {st st':Hs} {ρ:Rho} {c:PySem.Str} (h:g (ws.map some ++ List.replicate (n - ws.length) none) st = .err c ρ st'):fnF n g ws st = .err c st':=by unfold fnF; rw [h]
section
variable {ρ:Rho} {st:Hs} {ga gb gc:GE} {gl gh:GO}
def kSl (gl gh:GO) (ρ:Rho):Wv → Hs → Re Wv:=fun x st1 => (gl ρ st1).bind fun lo st2 => (gh ρ st2).bind fun hi st3 => oSl2 x lo hi st3
@[simp] theorem e_slice:gSlice2 ga gl gh ρ st = (ga ρ st).bind (kSl gl gh ρ):=rfl
@[simp] theorem kSl_d {x:Wv}:kSl gl gh ρ x st = (gl ρ st).bind fun lo st2 => (gh ρ st2).bind fun hi st3 => oSl2 x lo hi st3:=rfl
@[simp] theorem e_nopart:gNoPart ρ st = .ok none st:=rfl
def kPart:Wv → Hs → Re (Option Int):=fun w st1 => match w with
 | .int i => .ok (some i) st1
 | _ => .bad
@[simp] theorem e_part:gPart ga ρ st = (ga ρ st).bind kPart:=rfl
@[simp] theorem kPart_i {i:Int}:kPart (.int i) st = .ok (some i) st:=rfl
theorem sl_l {l:Nat} {ws:List Wv} {lo hi:Option Int} (h:lstOf st l = some ws):oSl2 (.ref l) lo hi st = .ok (.ref st.length) (st ++ [.lst (cutW ws lo hi)]):=by
 show (match lstOf st l with | some ws => Re.ok (Wv.ref st.length) (st ++ [Ob.lst (cutW ws lo hi)]) | none => .bad) = _
 rw [h]
theorem len_l {l:Nat} {ws:List Wv} (h:lstOf st l = some ws):oLen [.ref l] st = .ok (.int ws.length) st:=by
 show (match lstOf st l with | some ws => Re.ok (Wv.int ws.length) st | none => .bad) = _
 rw [h]
def kCh2 (op':Op2) (gc:GE) (y:Wv) (ρ:Rho):Wv → Hs → Re Wv:=fun z st3 => match z with
 | .bl true => (gc ρ st3).bind fun u st4 => (op' y u st4).nox
 | .bl false => .ok (.bl false) st3
 | _ => .bad
@[simp] theorem kCh2_t {op':Op2} {y:Wv}:kCh2 op' gc y ρ (.bl true) st = (gc ρ st).bind fun u st4 => (op' y u st4).nox:=rfl
@[simp] theorem kCh2_f {op':Op2} {y:Wv}:kCh2 op' gc y ρ (.bl false) st = .ok (.bl false) st:=rfl
@[simp] theorem e_chain {op op':Op2}:gChain op op' ga gb gc ρ st = (ga ρ st).bind fun x st1 => (gb ρ st1).bind fun y st2 => (op x y st2).nox.bind (kCh2 op' gc y ρ):=rfl
def kCh3 (op' op'':Op2) (gc gd:GE) (y:Wv) (ρ:Rho):Wv → Hs → Re Wv:=fun z st3 => match z with
 | .bl true => (gc ρ st3).bind fun u st4 => (op' y u st4).nox.bind (kCh2 op'' gd u ρ)
 | .bl false => .ok (.bl false) st3
 | _ => .bad
@[simp] theorem kCh3_t {op' op'':Op2} {gd:GE} {y:Wv}:kCh3 op' op'' gc gd y ρ (.bl true) st = (gc ρ st).bind fun u st4 => (op' y u st4).nox.bind (kCh2 op'' gd u ρ):=rfl
@[simp] theorem kCh3_f {op' op'':Op2} {gd:GE} {y:Wv}:kCh3 op' op'' gc gd y ρ (.bl false) st = .ok (.bl false) st:=rfl
def kTry (cat:PySem.Str → Option Bool) (i:Nat) (gs:GS) (r:Rs):Rs:=match r with
 | .err c ρ' st' => (match cat c with
  | some true => (match gs (ρ'.set i (some (.exn c))) st' with
   | .nx ρ2 st2 => .nx (ρ2.set i none) st2
   | .rt w st2 => .rt w st2
   | _ => .bad)
  | _ => .bad)
 | r => r
@[simp] theorem e_try {cat:PySem.Str → Option Bool} {i:Nat} {g gs:GS}:gTry cat i g gs ρ st = kTry cat i gs (g ρ st):=by
 unfold gTry kTry
 cases g ρ st <;> rfl
@[simp] theorem kTry_nx {cat:PySem.Str → Option Bool} {i:Nat} {gs:GS}:kTry cat i gs (.nx ρ st) = .nx ρ st:=rfl
@[simp] theorem kTry_rt {cat:PySem.Str → Option Bool} {i:Nat} {gs:GS} {w:Wv}:kTry cat i gs (.rt w st) = .rt w st:=rfl
def kTryN (cat:PySem.Str → Option Bool) (gs:GS) (r:Rs):Rs:=match r with
 | .err c ρ' st' => (match cat c with
  | some true => (match gs ρ' st' with
   | .nx ρ2 st2 => .nx ρ2 st2
   | .rt w st2 => .rt w st2
   | _ => .bad)
  | _ => .bad)
 | r => r
@[simp] theorem kTryN_nx {cat:PySem.Str → Option Bool} {gs:GS}:kTryN cat gs (.nx ρ st) = .nx ρ st:=rfl
@[simp] theorem kTryN_rt {cat:PySem.Str → Option Bool} {gs:GS} {w:Wv}:kTryN cat gs (.rt w st) = .rt w st:=rfl
theorem kTry_err {cat:PySem.Str → Option Bool} {i:Nat} {gs:GS} {c:PySem.Str} {ρ2:Rho} {st2:Hs} (h:cat c = some true) (k:gs (ρ.set i (some (.exn c))) st = .nx ρ2 st2):kTry cat i gs (.err c ρ st) = .nx (ρ2.set i none) st2:=by
 unfold kTry
 simp only [h,k]
end
theorem lstOf_new {st:Hs} {ws:List Wv}:lstOf (st ++ [.lst ws]) st.length = some ws:=by unfold lstOf; simp
theorem lstOf_old {st:Hs} {o:Ob} {l:Nat} {ws:List Wv} (h:lstOf st l = some ws):lstOf (st ++ [o]) l = some ws:=by
 have hl:l < st.length:=by
  unfold lstOf at h
  cases e:st[l]? with
  | none => rw [e] at h; cases h
  | some o => exact (List.getElem?_eq_some_iff.mp e).1
 unfold lstOf at h ⊢
 rw [List.getElem?_append_left hl]
 exact h
theorem lstOf_lt {st:Hs} {l:Nat} {ws:List Wv} (h:lstOf st l = some ws):l < st.length:=by
 unfold lstOf at h
 cases e:st[l]? with
 | none => rw [e] at h; cases h
 | some o => exact (List.getElem?_eq_some_iff.mp e).1
def Keep (l:Nat) (st st':Hs):Prop:=st.length ≤ st'.length ∧ ∀ k,k < st.length → k ≠ l → st'[k]? = st[k]?
theorem Keep.refl {l:Nat} {st:Hs}:Keep l st st:=⟨Nat.le_refl _,fun _ _ _ => rfl⟩
theorem Keep.trans {l:Nat} {a b c:Hs} (h:Keep l a b) (k:Keep l b c):Keep l a c:=⟨Nat.le_trans h.1 k.1,fun j h1 h2 => (k.2 j (Nat.lt_of_lt_of_le h1 h.1) h2).trans (h.2 j h1 h2)⟩
theorem Keep.push {l:Nat} {st:Hs} {o:Ob}:Keep l st (st ++ [o]):=⟨by simp,fun k h _ => List.getElem?_append_left h⟩
theorem Keep.set {l:Nat} {st:Hs} {o:Ob}:Keep l st (st.set l o):=⟨by simp,fun k _ h => List.getElem?_set_ne (fun z => h z.symm)⟩
theorem Keep.lst {l:Nat} {st st':Hs} (k:Keep l st st') {j:Nat} {ws:List Wv} (h:lstOf st j = some ws) (hj:j ≠ l):lstOf st' j = some ws:=by
 unfold lstOf at h ⊢
 rw [k.2 j (lstOf_lt (st:=st) (ws:=ws) (by unfold lstOf; exact h)) hj]
 exact h
@[simp] theorem e_forR1 {i:Nat} {ga:GA} {gb:GS} {ρ:Rho} {st:Hs}:gForR1 i ga gb ρ st = (ga ρ st).thn ρ fun ws st1 => match ws with
 | [.int j] => if CRng j then forT i gb (rngW 0 j.toNat) ρ st1 else .bad
 | _ => .bad:=rfl
@[simp] theorem e_raise {c:PySem.Str} {ga:GA} {ρ:Rho} {st:Hs}:gRaise c ga ρ st = (ga ρ st).thn ρ fun ws st1 => if ws.length ≤ lim then .err c ρ st1 else .bad:=rfl
def kMeth (mt:Wv → Wv → Hs → Re Wv) (ga:GE) (ρ:Rho):Wv → Hs → Re Wv:=fun o st1 => match o with
 | .ref l => (match lstOf st1 l with
  | some _ => (ga ρ st1).bind fun v st2 => (mt o v st2).nox
  | none => .bad)
 | _ => .bad
@[simp] theorem e_meth {mt:Wv → Wv → Hs → Re Wv} {go ga:GE} {ρ:Rho} {st:Hs}:gMeth mt go ga ρ st = (go ρ st).bind (kMeth mt ga ρ):=rfl
theorem kMeth_l {mt:Wv → Wv → Hs → Re Wv} {ga:GE} {ρ:Rho} {st:Hs} {l:Nat} {ws:List Wv} (h:lstOf st l = some ws):kMeth mt ga ρ (.ref l) st = (ga ρ st).bind fun v st2 => (mt (.ref l) v st2).nox:=by
 show (match lstOf st l with | some _ => (ga ρ st).bind fun v st2 => (mt (.ref l) v st2).nox | none => .bad) = _
 rw [h]
theorem app_l {st:Hs} {l:Nat} {v:Wv} {ws:List Wv} (h:st[l]? = some (.lst ws)) (hl:ws.length < lim):mApp (.ref l) v st = .ok .non (st.set l (.lst (ws ++ [v]))):=by
 show (match st[l]? with | some (.lst ws) => if ws.length < lim then Re.ok Wv.non (st.set l (.lst (ws ++ [v]))) else .bad | _ => .bad) = _
 rw [h]
 exact if_pos hl
noncomputable def kFor (i:Nat) (gb:GS) (ρ:Rho):Wv → Hs → Rs:=fun w st1 => match w with
 | .ref l => (match lstOf st1 l with | some ws => forL i gb l ws ws ρ st1 | none => .bad)
 | .tup ws => forT i gb ws ρ st1
 | .ktp ws => forT i gb ws ρ st1
 | _ => .bad
@[simp] theorem e_for {i:Nat} {ga:GE} {gb:GS} {ρ:Rho} {st:Hs}:gFor i ga gb ρ st = (ga ρ st).thn ρ (kFor i gb ρ):=rfl
theorem kFor_l {i:Nat} {gb:GS} {ρ:Rho} {st:Hs} {l:Nat} {ws:List Wv} (h:lstOf st l = some ws):kFor i gb ρ (.ref l) st = forL i gb l ws ws ρ st:=by
 show (match lstOf st l with | some ws => forL i gb l ws ws ρ st | none => .bad) = _
 rw [h]
@[simp] theorem kFor_t {i:Nat} {gb:GS} {ρ:Rho} {st:Hs} {ws:List Wv}:kFor i gb ρ (.tup ws) st = forT i gb ws ρ st:=rfl
theorem forT_ix {i:Nat} {gb:GS} (P:Nat → Rho → Hs → Prop):∀ (ws:List Wv) (k:Nat) (ρ:Rho) (st:Hs),P k ρ st →
  (∀ (j:Nat) (w:Wv),ws[j]? = some w → ∀ ρ st,P (k + j) ρ st → ∃ ρ' st',gb (ρ.set i (some w)) st = .nx ρ' st' ∧ P (k + j + 1) ρ' st') → ∃ ρ' st',forT i gb ws ρ st = .nx ρ' st' ∧ P (k + ws.length) ρ' st'
 | [],k,ρ,st,h,_ => ⟨ρ,st,rfl,h⟩
 | w :: r,k,ρ,st,h,step => by
  obtain ⟨ρ1,st1,e1,p1⟩:=step 0 w rfl ρ st h
  obtain ⟨ρ2,st2,e2,p2⟩:=forT_ix P r (k + 1) ρ1 st1 p1 fun j w hw ρ st hp => by
   have e:k + (j + 1) = k + 1 + j:=by omega
   have q:=step (j + 1) w hw ρ st (by rw [e]; exact hp)
   rw [e] at q
   exact q
  refine ⟨ρ2,st2,?_,?_⟩
  ·unfold forT
   rw [e1]
   exact e2
  ·have e:k + (w :: r).length = k + 1 + r.length:=by simp; omega
   rw [e]
   exact p2
theorem forT_inv {i:Nat} {gb:GS} (P:Rho → Hs → Prop):∀ (ws:List Wv) (ρ:Rho) (st:Hs),P ρ st →
  (∀ w ∈ ws,∀ ρ st,P ρ st → ∃ ρ' st',gb (ρ.set i (some w)) st = .nx ρ' st' ∧ P ρ' st') → ∃ ρ' st',forT i gb ws ρ st = .nx ρ' st' ∧ P ρ' st'
 | [],ρ,st,h,_ => ⟨ρ,st,rfl,h⟩
 | w :: r,ρ,st,h,step => by
  obtain ⟨ρ1,st1,e1,p1⟩:=step w List.mem_cons_self ρ st h
  obtain ⟨ρ2,st2,e2,p2⟩:=forT_inv P r ρ1 st1 p1 fun w hw => step w (List.mem_cons_of_mem _ hw)
  refine ⟨ρ2,st2,?_,p2⟩
  unfold forT
  rw [e1]
  exact e2
@[simp] theorem str2_i {i:Int} {st:Hs}:oStr2 [.int i] st = oStr [.int i] st:=rfl
@[simp] theorem e_comp {cs:Caps} {gi:GI} {gt:GT} {ge:GE} {ρ:Rho} {st:Hs}:gComp cs gi gt ge ρ st = (gi ρ st).bind (compRun cs gt ge ρ):=rfl
@[simp] theorem e_giSeq {g:GE} {ρ:Rho} {st:Hs}:giSeq2 g ρ st = (g ρ st).bind seqW2:=rfl
@[simp] theorem e_giR1 {g:GA} {ρ:Rho} {st:Hs}:giR1 g ρ st = (g ρ st).bind rng1W:=rfl
@[simp] theorem e_giR2 {g:GA} {ρ:Rho} {st:Hs}:giR2 g ρ st = (g ρ st).bind rng2W:=rfl
theorem seqW_l {l:Nat} {st:Hs} {ws:List Wv} (h:lstOf st l = some ws):seqW2 (.ref l) st = .ok (some l,ws) st:=by
 show (match lstOf st l with | some ws => Re.ok (some l,ws) st | none => .bad) = _
 rw [h]
@[simp] theorem seqW_s {st:Hs} {z:PySem.Str}:seqW2 (.str z) st = .ok (none,signsW z) st:=rfl
@[simp] theorem seqW_t {st:Hs} {ws:List Wv}:seqW2 (.tup ws) st = .ok (none,ws) st:=rfl
theorem app_new {st:Hs} {acc:List Wv} {v:Wv} (h:acc.length < lim):mApp (.ref st.length) v (st ++ [.lst acc]) = .ok .non (st ++ [.lst (acc ++ [v])]):=by
 rw [app_l (ws:=acc) (by simp) h]
 congr 1
 simp
theorem compG_pure {w:Wk} {gt:Wv → Hs → Re Bool} {ge:Wv → Hs → Re Wv} {st:Hs} {t:Wv → Bool} {f:Wv → Wv} (ck:ckOf w st):∀ (ws acc:List Wv),(∀ v ∈ ws,∀ acc,gt v (st ++ [.lst acc]) = .ok (t v) (st ++ [.lst acc])) →
  (∀ v ∈ ws,t v = true → ∀ acc,ge v (st ++ [.lst acc]) = .ok (f v) (st ++ [.lst acc])) → acc.length + ws.length < lim → compG (ckOf w) gt ge st.length ws (st ++ [.lst acc]) = some (st ++ [.lst (acc ++ (ws.filter t).map f)])
 | [],acc,_,_,_ => by simp [compG]
 | v :: r,acc,h1,h2,hl => by
  have hl':acc.length + (r.length + 1) < lim:=hl
  unfold compG
  rw [h1 v List.mem_cons_self acc]
  cases e:t v with
  | false =>
   dsimp only
   rw [if_pos (ckOf_app ck),compG_pure ck r acc (fun v hv => h1 v (List.mem_cons_of_mem _ hv)) (fun v hv => h2 v (List.mem_cons_of_mem _ hv)) (by omega),List.filter_cons_of_neg (by simp [e])]
  | true =>
   dsimp only
   rw [h2 v List.mem_cons_self e acc]
   dsimp only
   rw [app_new (by omega)]
   dsimp only
   rw [if_pos (ckOf_app ck),compG_pure ck r (acc ++ [f v]) (fun v hv => h1 v (List.mem_cons_of_mem _ hv)) (fun v hv => h2 v (List.mem_cons_of_mem _ hv)) (by simp; omega),List.filter_cons_of_pos e]
   simp
theorem comp_pure {cs:Caps} {gt:GT} {ge:GE} {ρ:Rho} {w:Wk} {st:Hs} {t:Wv → Bool} {f:Wv → Wv} (ck:ckOf w st) (h1:∀ v ∈ w.2,∀ acc,gt (some v :: capR cs ρ) (st ++ [.lst acc]) = .ok (t v) (st ++ [.lst acc]))
  (h2:∀ v ∈ w.2,t v = true → ∀ acc,ge (some v :: capR cs ρ) (st ++ [.lst acc]) = .ok (f v) (st ++ [.lst acc])) (hl:w.2.length < lim):compRun cs gt ge ρ w st = .ok (.ref st.length) (st ++ [.lst ((w.2.filter t).map f)]):=by
 unfold compRun
 rw [compG_pure ck w.2 [] h1 h2 (by simpa using hl)]
 simp
end J
namespace J
open PySem PySem.Spec PyProof.Rows L2
theorem set_get {st:Hs} {l:Nat} {o o':Ob} (h:st[l]? = some o):(st.set l o')[l]? = some o':=List.getElem?_set_self (List.getElem?_eq_some_iff.mp h).1
theorem push_get {st:Hs} {l:Nat} {o o':Ob} (h:st[l]? = some o):(st ++ [o'])[l]? = some o:=by rw [List.getElem?_append_left (List.getElem?_eq_some_iff.mp h).1]; exact h
theorem lst_get {st:Hs} {l:Nat} {ws:List Wv} (h:st[l]? = some (.lst ws)):lstOf st l = some ws:=by unfold lstOf; rw [h]
theorem get_lt {st:Hs} {l:Nat} {o:Ob} (h:st[l]? = some o):l < st.length:=(List.getElem?_eq_some_iff.mp h).1
theorem new_get {st:Hs} {o:Ob}:(st ++ [o])[st.length]? = some o:=by simp
theorem len_s {z:PySem.Str} {st:Hs} (h:z.length ≤ lim):oLen [.str z] st = .ok (.int z.length) st:=by
 show (if z.length ≤ lim then Re.ok (Wv.int z.length) st else .bad) = _
 rw [if_pos h]
def kMethS (mt:PySem.Str → List Wv → Hs → Re Wv) (ga:GA) (ρ:Rho):Wv → Hs → Re Wv:=fun o st1 => match o with
 | .str z => (ga ρ st1).bind fun ws st2 => (mt z ws st2).nox
 | _ => .bad
@[simp] theorem e_methS {mt:PySem.Str → List Wv → Hs → Re Wv} {go:GE} {ga:GA} {ρ:Rho} {st:Hs}:gMethS mt go ga ρ st = (go ρ st).bind (kMethS mt ga ρ):=rfl
@[simp] theorem kMethS_s {mt:PySem.Str → List Wv → Hs → Re Wv} {ga:GA} {ρ:Rho} {st:Hs} {z:PySem.Str}:kMethS mt ga ρ (.str z) st = (ga ρ st).bind fun ws st2 => (mt z ws st2).nox:=rfl
@[simp] theorem abs_i {i:Int} {st:Hs}:oAbs [.int i] st = .ok (.int (if i < 0 then -i else i)) st:=rfl
@[simp] theorem sum_l {l:Nat} {st:Hs} {ns:List Int} (h:lstOf st l = some (ns.map Wv.int)):oSum [.ref l] st = .ok (.int ns.sum) st:=by
 show (match lstOf st l with | some ws => (match intsOf ws with | some ns => Re.ok (Wv.int ns.sum) st | none => .bad) | none => .bad) = _
 rw [h]
 dsimp only
 rw [intsOf_map]
theorem rng_mem {lo:Int} {n:Nat} {w:Wv} (h:w ∈ rngW lo n):∃ k:Int,w = .int k ∧ lo ≤ k ∧ k < lo + n:=by
 unfold rngW at h
 obtain ⟨k,hk,rfl⟩:=List.mem_map.mp h
 have:=List.mem_range.mp hk
 exact ⟨lo + k,rfl,by omega,by omega⟩
theorem crng {i:Int} (h1:-1000000 ≤ i) (h2:i ≤ 1000000):CRng i:=⟨by omega,by omega⟩
@[simp] theorem kCall_0 {F:List Wv → Hs → Re Wv} {st:Hs}:kCall 0 F [] st = F [] st:=rfl
theorem e_alt2 {ga gb:GE} {ρ:Rho} {st:Hs} (h:ga ρ st = .bad):gAlt ga gb ρ st = gb ρ st:=by unfold gAlt; rw [h]
def Gr (st st':Hs):Prop:=st.length ≤ st'.length ∧ ∀ k,k < st.length → st'[k]? = st[k]?
theorem Gr.refl {st:Hs}:Gr st st:=⟨Nat.le_refl _,fun _ _ => rfl⟩
theorem Gr.trans {a b c:Hs} (h:Gr a b) (k:Gr b c):Gr a c:=⟨Nat.le_trans h.1 k.1,fun j h1 => (k.2 j (Nat.lt_of_lt_of_le h1 h.1)).trans (h.2 j h1)⟩
theorem Gr.push {st:Hs} {o:Ob}:Gr st (st ++ [o]):=⟨by simp,fun k h => List.getElem?_append_left h⟩
theorem Gr.lst {st st':Hs} (k:Gr st st') {j:Nat} {ws:List Wv} (h:lstOf st j = some ws):lstOf st' j = some ws:=by
 unfold lstOf at h ⊢
 rw [k.2 j (lstOf_lt (st:=st) (ws:=ws) (by unfold lstOf; exact h))]
 exact h
theorem Gr.get {st st':Hs} (k:Gr st st') {j:Nat} {o:Ob} (h:st[j]? = some o):st'[j]? = some o:=by rw [k.2 j (get_lt h)]; exact h
theorem Gr.keep {st st':Hs} {l:Nat} (k:Gr st st'):Keep l st st':=⟨k.1,fun j h _ => k.2 j h⟩
theorem Keep.gr {st st':Hs} {l:Nat} (h:st.length ≤ l) (k:Keep l st st'):Gr st st':=⟨k.1,fun j h1 => k.2 j h1 (by omega)⟩
theorem Gr.keepAt {st s1 s2:Hs} {l:Nat} (h:st.length ≤ l) (g:Gr st s1) (k:Keep l s1 s2):Gr st s2:=⟨Nat.le_trans g.1 k.1,fun j h1 => (k.2 j (Nat.lt_of_lt_of_le h1 g.1) (by omega)).trans (g.2 j h1)⟩
theorem compG_map {α:Type} {w:Wk} {gt:Wv → Hs → Re Bool} {ge:Wv → Hs → Re Wv} {rr:Nat} (f:α → Wv) (P:Hs → Prop) (E:α → Wv → Prop) (hP:∀ st acc,P st → P (st.set rr (.lst acc))) (hck:∀ st,P st → ckOf w st) :
  ∀ (ws:List α),(∀ v ∈ ws,∀ st acc,P st → st[rr]? = some (.lst acc) → ∃ st1,gt (f v) st = .ok true st1 ∧ P st1 ∧ st1[rr]? = some (.lst acc) ∧ ∃ u st2,ge (f v) st1 = .ok u st2 ∧ E v u ∧ P st2 ∧ st2[rr]? = some (.lst acc)) →
   ∀ (acc:List Wv) (st:Hs),P st → st[rr]? = some (.lst acc) → acc.length + ws.length < lim → ∃ st' us,compG (ckOf w) gt ge rr (ws.map f) st = some st' ∧ P st' ∧ st'[rr]? = some (.lst (acc ++ us)) ∧ us.length = ws.length ∧ ∀ k (h:k < ws.length) (h':k < us.length),E ws[k] us[k]
 | [],_,acc,st,hp,hg,_ => ⟨st,[],rfl,hp,by simpa using hg,rfl,fun k h => by cases h⟩
 | v :: r,step,acc,st,hp,hg,hl => by
  obtain ⟨st1,e1,p1,g1,u,st2,e2,hu,p2,g2⟩:=step v List.mem_cons_self st acc hp hg
  have hl':acc.length + (r.length + 1) < lim:=hl
  obtain ⟨st3,us,f1,f2,f3,f4,f5⟩:=compG_map f P E hP hck r (fun v hv => step v (List.mem_cons_of_mem _ hv)) (acc ++ [u]) (st2.set rr (.lst (acc ++ [u]))) (hP _ _ p2) (set_get g2) (by simp; omega)
  refine ⟨st3,u :: us,?_,f2,by simpa using f3,by simp [f4],fun k h h' => ?_⟩
  ·rw [List.map_cons]
   unfold compG
   rw [e1]
   dsimp only
   rw [e2]
   dsimp only
   rw [app_l g2 (by omega)]
   dsimp only
   rw [if_pos (hck _ (hP _ _ p2)),f1]
  ·cases k with
   | zero => exact hu
   | succ k => exact f5 k (by simpa using h) (by simpa using h')
@[simp] theorem max_2 {i j:Int} {st:Hs}:oMax2 [.int i,.int j] st = .ok (.int (if j > i then j else i)) st:=rfl
@[simp] theorem min_2 {i j:Int} {st:Hs}:oMin2 [.int i,.int j] st = .ok (.int (if j < i then j else i)) st:=rfl
def kDcIn (neg:Bool) (kvs:Dc):Wv → Hs → Re Wv:=fun a st1 => match a with
 | .str k => .ok (.bl ((kvs.lookup k).isSome != neg)) st1
 | _ => .bad
@[simp] theorem e_dcIn {neg:Bool} {kvs:Dc} {ga:GE} {ρ:Rho} {st:Hs}:gDcIn neg kvs ga ρ st = (ga ρ st).bind (kDcIn neg kvs):=rfl
@[simp] theorem kDcIn_s {neg:Bool} {kvs:Dc} {k:PySem.Str} {st:Hs}:kDcIn neg kvs (.str k) st = .ok (.bl ((kvs.lookup k).isSome != neg)) st:=rfl
def kDcIx (kvs:Dc):Wv → Hs → Re Wv:=fun a st1 => match a with
 | .str k => (match kvs.lookup k with | some w => .ok w st1 | none => .bad)
 | _ => .bad
@[simp] theorem e_dcIx {kvs:Dc} {ga:GE} {ρ:Rho} {st:Hs}:gDcIx kvs ga ρ st = (ga ρ st).bind (kDcIx kvs):=rfl
theorem kDcIx_s {kvs:Dc} {k:PySem.Str} {w:Wv} {st:Hs} (h:kvs.lookup k = some w):kDcIx kvs (.str k) st = .ok w st:=by
 show (match kvs.lookup k with | some w => Re.ok w st | none => .bad) = _
 rw [h]
theorem set_new {st:Hs} {o o':Ob}:(st ++ [o]).set st.length o' = st ++ [o']:=by simp
end J
namespace J
open PySem L2
theorem tb_none {K:PySem.W.Frag} {H:Hp} (h1:PySem.W.nsIn K mainGlobals "form_of" = some none) (h2:PySem.W.nsIn K mainGlobals "formula_by" = some none) (h3:PySem.W.nsIn K mainGlobals "turned" = some none):TbOk K H:=fun q P hq e => by
 have no:∀ q,PySem.W.nsIn K mainGlobals q = some none → tabFree K q = none:=fun q h => by
  unfold tabFree PySem.W.tabIn
  rw [h]
 simp only [lamDefs,List.mem_cons,List.not_mem_nil,or_false] at hq
 rcases hq with rfl | rfl | rfl
 ·rw [no _ h1] at e; cases e
 ·rw [no _ h2] at e; cases e
 ·rw [no _ h3] at e; cases e
theorem ln1 {fd:FuncData} {ps:List Str} (us:List Value) (hl:us.length = 1) (h:∀ a0:Value,bindArgs fd { pos:=[a0] } = pure (ps.zip [a0])):bindArgs fd { pos:=us } = pure (ps.zip us):=match us,hl with | [a0],_ => h a0
theorem ln2 {fd:FuncData} {ps:List Str} (us:List Value) (hl:us.length = 2) (h:∀ a0 a1:Value,bindArgs fd { pos:=[a0,a1] } = pure (ps.zip [a0,a1])):bindArgs fd { pos:=us } = pure (ps.zip us):=match us,hl with | [a0,a1],_ => h a0 a1
theorem ln3 {fd:FuncData} {ps:List Str} (us:List Value) (hl:us.length = 3) (h:∀ a0 a1 a2:Value,bindArgs fd { pos:=[a0,a1,a2] } = pure (ps.zip [a0,a1,a2])):bindArgs fd { pos:=us } = pure (ps.zip us):=match us,hl with | [a0,a1,a2],_ => h a0 a1 a2
end J
namespace K23
open PySem J
open L2 (defScope defBody defArgs FnScope CX0 FnOk XK Hp)
def top (i:Nat):Stmt:=PySem.Challenge.pw_onelook_k23_sheets_refused.main.body.getD i (.Pass ⟨0,0,0,0⟩)
def tbl:Tab:=[(("Full","Full"),true),(("Full","BadPlace"),false),(("Full","BadFormula"),false),(("Full","BadContent"),false),(("Full","SheetError"),true),(("BadPlace","Full"),false),(("BadPlace","BadPlace"),true),(("BadPlace","BadFormula"),false),(("BadPlace","BadContent"),false),(("BadPlace","SheetError"),true),(("BadFormula","Full"),false),(("BadFormula","BadPlace"),false),(("BadFormula","BadFormula"),true),(("BadFormula","BadContent"),false),(("BadFormula","SheetError"),true),(("BadContent","Full"),false),(("BadContent","BadPlace"),false),(("BadContent","BadFormula"),false),(("BadContent","BadContent"),true),(("BadContent","SheetError"),true)]
def tblT:TabT:=[(("Full","ValueError"),true),(("BadPlace","ValueError"),true),(("BadFormula","ValueError"),true),(("BadContent","ValueError"),true)]
def d_PART_COUNTS:Dc:=[("num",.int 0),("text",.int 0),("lost",.int 0),("at",.int 0),("minus",.int 1),("not",.int 1),("+",.int 2),("-",.int 2),("*",.int 2),("/",.int 2),("&",.int 2),("<",.int 2),("=",.int 2),("rest",.int 2),("if",.int 3),("else",.int 2),("sum",.int 0),("count",.int 0),("least",.int 0),("greatest",.int 0),("find",.int 1)]
def tblC:Tab:=[(("Full","SheetError"),true),(("BadPlace","SheetError"),true),(("BadFormula","SheetError"),true),(("BadContent","SheetError"),true)]
abbrev s__law_mixed:Stmt:=top 50
noncomputable def g__law_mixed:GS:=(gSeq (gSet 2 (gBin oMod (gBin oMulL (gBin oAdd (gBin oAdd (gBin oMod (gVar 0) (gC (.int 1000000007))) (gBin oMulL (gC (.int 7919)) (gVar 1))) (gC (.int 1))) (gC (.int 48271))) (gC (.int 2147483647))))
  (gRet (gBin oMod (gBin oMulL (gBin oMod (gBin oMulL (gVar 2) (gVar 2)) (gC (.int 2147483629))) (gC (.int 69621))) (gC (.int 2147483647)))))
noncomputable def F__law_mixed:List Wv → Hs → Re Wv:=fnF 3 g__law_mixed
noncomputable def c__law_mixed:Ct where
  N:=["cell","k","stir"]
  names:=(defScope s__law_mixed).names
  consts:=[]
  bl:=[]
  fns:=[]
  tb:=tbl
  tt:=tblT
  tc:=tblC
  clss:=[]
  cln:=[]
  dcs:=[]
  dts:=[]
  dks:=[]
theorem r__law_mixed:compS 30 (c__law_mixed) (defBody s__law_mixed) = g__law_mixed:=by kernel_rfl
theorem sc__law_mixed:FnScope (c__law_mixed).N ["cell","k"] (defScope s__law_mixed):=⟨rfl,rfl,rfl,by decide +kernel,rfl,by decide +kernel,by decide +kernel⟩
abbrev s__law_cell_at:Stmt:=top 49
noncomputable def g__law_cell_at:GS:=(gSeq (gIf (gTst (gBin oLt (gVar 1) (gCallB oLen (gCons (gVar 0) gNil)))) (gRet (gBin oIx (gVar 0) (gVar 1))) gNext)
  (gRet (gC (.int 0))))
noncomputable def F__law_cell_at:List Wv → Hs → Re Wv:=fnF 2 g__law_cell_at
noncomputable def c__law_cell_at:Ct where
  N:=["script","k"]
  names:=(defScope s__law_cell_at).names
  consts:=[]
  bl:=["len"]
  fns:=[]
  tb:=tbl
  tt:=tblT
  tc:=tblC
  clss:=[]
  cln:=[]
  dcs:=[]
  dts:=[]
  dks:=[]
theorem r__law_cell_at:compS 30 (c__law_cell_at) (defBody s__law_cell_at) = g__law_cell_at:=by kernel_rfl
theorem sc__law_cell_at:FnScope (c__law_cell_at).N ["script","k"] (defScope s__law_cell_at):=⟨rfl,rfl,rfl,by decide +kernel,rfl,by decide +kernel,by decide +kernel⟩
abbrev s__law_stream:Stmt:=top 51
noncomputable def g__law_stream_L1:GS:=(gSeq (gSet 5 (gCall 2 F__law_mixed (gCons (gBin oAdd (gVar 2) (gCallB oSum (gCons (gVar 0) gNil))) (gCons (gBin oAdd (gBin oMulL (gC (.int 8)) (gVar 1)) (gVar 3)) gNil))))
  (gSet 4 (gBin oAdd (gBin oMulL (gVar 4) (gC (.int 2147483647))) (gVar 5))))
noncomputable def g__law_stream_L2:GS:=(gSet 2 (gBin oAdd (gBin oMulL (gVar 2) (gBin oPow (gC (.int 10)) (gC (.int 60)))) (gBin oMod (gBin oIx (gVar 0) (gVar 3)) (gBin oPow (gC (.int 10)) (gC (.int 60))))))
noncomputable def g__law_stream:GS:=(gSeq (gSet 2 (gC (.int 0)))
  (gSeq (gForR3 3 (gCons (gBin oAdd (gVar 1) (gC (.int 1))) (gCons (gCallB oLen (gCons (gVar 0) gNil)) (gCons (gC (.int 13)) gNil))) g__law_stream_L2)
  (gSeq (gIf (gTst (gBin oEq (gBin oMod (gCall 2 F__law_cell_at (gCons (gVar 0) (gCons (gC (.int 0)) gNil))) (gC (.int 2))) (gC (.int 1)))) (gRet (gLst (gCons (gVar 2) gNil))) gNext)
  (gSeq (gSet 4 (gC (.int 0)))
  (gSeq (gForR1 3 (gCons (gC (.int 8)) gNil) g__law_stream_L1)
  (gRet (gLst (gCons (gBin oFdiv (gVar 4) (gC (.int 8))) gNil))))))))
noncomputable def F__law_stream:List Wv → Hs → Re Wv:=fnF 6 g__law_stream
noncomputable def c__law_stream:Ct where
  N:=["script","k","cell","j","found","drawn"]
  names:=(defScope s__law_stream).names
  consts:=[]
  bl:=["range","len","sum"]
  fns:=[("_law_mixed",2,F__law_mixed),("_law_cell_at",2,F__law_cell_at)]
  tb:=tbl
  tt:=tblT
  tc:=tblC
  clss:=[]
  cln:=[]
  dcs:=[]
  dts:=[]
  dks:=[]
theorem r__law_stream:compS 30 (c__law_stream) (defBody s__law_stream) = g__law_stream:=by kernel_rfl
theorem sc__law_stream:FnScope (c__law_stream).N ["script","k"] (defScope s__law_stream):=⟨rfl,rfl,rfl,by decide +kernel,rfl,by decide +kernel,by decide +kernel⟩
abbrev s__law_digit:Stmt:=top 52
noncomputable def g__law_digit:GS:=(gSeq (gSet 2 (gBin oMod (gBin oIx (gVar 0) (gC (.int 0))) (gVar 1)))
  (gSeq (gSetI (gBin oFdiv (gBin oIx (gVar 0) (gC (.int 0))) (gVar 1)) (gVar 0) (gC (.int 0)))
  (gRet (gVar 2))))
noncomputable def F__law_digit:List Wv → Hs → Re Wv:=fnF 3 g__law_digit
noncomputable def c__law_digit:Ct where
  N:=["row","many","digit"]
  names:=(defScope s__law_digit).names
  consts:=[]
  bl:=[]
  fns:=[]
  tb:=tbl
  tt:=tblT
  tc:=tblC
  clss:=[]
  cln:=[]
  dcs:=[]
  dts:=[]
  dks:=[]
theorem r__law_digit:compS 30 (c__law_digit) (defBody s__law_digit) = g__law_digit:=by kernel_rfl
theorem sc__law_digit:FnScope (c__law_digit).N ["row","many"] (defScope s__law_digit):=⟨rfl,rfl,rfl,by decide +kernel,rfl,by decide +kernel,by decide +kernel⟩
abbrev s__law_bad:Stmt:=top 54
noncomputable def g__law_bad:GS:=(gSeq (gSet 1 (gCall 2 F__law_digit (gCons (gVar 0) (gCons (gBin oPow (gC (.int 10)) (gC (.int 59))) gNil))))
  (gSeq (gSet 2 (gCall 2 F__law_digit (gCons (gVar 0) (gCons (gC (.int 11)) gNil))))
  (gSeq (gSet 3 (gLst (gCons (gTup (gCons (gBin oSub (gUn opNeg (gC (.int 1))) (gVar 1)) (gCons (gC (.int 3)) gNil))) (gCons (gTup (gCons (gBin oAdd (gC (.int 99)) (gVar 1)) (gCons (gC (.int 3)) gNil))) (gCons (gTup (gCons (gC (.int 4)) (gCons (gBin oAdd (gC (.int 26)) (gVar 1)) gNil))) (gCons (gTup (gCons (gC (.int 4)) (gCons (gBin oSub (gUn opNeg (gC (.int 1))) (gVar 1)) gNil))) gNil))))))
  (gSeq (gIf (gTst (gBin oLt (gVar 2) (gC (.int 4)))) (gRet (gTup (gCons (gBin oIx (gVar 3) (gVar 2)) (gCons (gC (.int 5)) (gCons (gC (.str "place")) gNil))))) gNext)
  (gSeq (gSet 4 (gLst (gCons (gBin oAdd (gBin oAdd (gBin oPow (gC (.int 10)) (gC (.int 60))) (gC (.int 1))) (gVar 1)) (gCons (gBin oSub (gBin oSub (gUn opNeg (gC (.int 1))) (gVar 1)) (gBin oPow (gC (.int 10)) (gC (.int 60)))) (gCons (gBin oMulL (gC (.str "a")) (gC (.int 41))) (gCons (gC (.str "a\"b")) (gCons (gC (.str "a\n")) (gCons (gC (.str "\n")) (gCons (gTup (gCons (gC (.str "num")) (gCons (gBin oSub (gUn opNeg (gC (.int 1))) (gVar 1)) gNil))) gNil)))))))))
  (gSeq (gSet 5 (gC (.str "content")))
  (gSeq (gIf (gTst (gBin oEq (gVar 2) (gC (.int 10)))) (gSet 5 (gC (.str "formula"))) gNext)
  (gRet (gTup (gCons (gTup (gCons (gCall 2 F__law_digit (gCons (gVar 0) (gCons (gC (.int 99)) gNil))) (gCons (gCall 2 F__law_digit (gCons (gVar 0) (gCons (gC (.int 26)) gNil))) gNil))) (gCons (gBin oIx (gVar 4) (gBin oSub (gVar 2) (gC (.int 4)))) (gCons (gVar 5) gNil))))))))))))
noncomputable def F__law_bad:List Wv → Hs → Re Wv:=fnF 6 g__law_bad
noncomputable def c__law_bad:Ct where
  N:=["row","far","way","places","contents","word"]
  names:=(defScope s__law_bad).names
  consts:=[]
  bl:=[]
  fns:=[("_law_digit",2,F__law_digit)]
  tb:=tbl
  tt:=tblT
  tc:=tblC
  clss:=[]
  cln:=[]
  dcs:=[]
  dts:=[]
  dks:=[]
theorem r__law_bad:compS 30 (c__law_bad) (defBody s__law_bad) = g__law_bad:=by kernel_rfl
theorem sc__law_bad:FnScope (c__law_bad).N ["row"] (defScope s__law_bad):=⟨rfl,rfl,rfl,by decide +kernel,rfl,by decide +kernel,by decide +kernel⟩
abbrev s_with_room:Stmt:=top 47
noncomputable def g_with_room:GS:=(gSeq (gIf (gTst (gBin oGt (gCallB oLenD (gCons (gVar 0) gNil)) (gC (.int 200)))) (gRaise "Full" (gCons (gC (.str "more than 200 filled cells")) gNil)) gNext)
  (gRet (gVar 0)))
noncomputable def F_with_room:List Wv → Hs → Re Wv:=fnF 1 g_with_room
noncomputable def c_with_room:Ct where
  N:=["sheet"]
  names:=(defScope s_with_room).names
  consts:=[("MOST_CELLS",(.int 200))]
  bl:=["len"]
  fns:=[]
  tb:=tbl
  tt:=tblT
  tc:=tblC
  clss:=["Full"]
  cln:=[]
  dcs:=[]
  dts:=["sheet"]
  dks:=[]
theorem r_with_room:compS 30 (c_with_room) (defBody s_with_room) = g_with_room:=by kernel_rfl
theorem sc_with_room:FnScope (c_with_room).N ["sheet"] (defScope s_with_room):=⟨rfl,rfl,rfl,by decide +kernel,rfl,by decide +kernel,by decide +kernel⟩
abbrev s_is_place:Stmt:=top 10
noncomputable def g_is_place:GS:=(gRet (gAndV (gChain oLe oLt (gC (.int 0)) (gBin oIx (gVar 0) (gC (.int 0))) (gC (.int 99))) (gChain oLe oLt (gC (.int 0)) (gBin oIx (gVar 0) (gC (.int 1))) (gC (.int 26)))))
noncomputable def F_is_place:List Wv → Hs → Re Wv:=fnF 1 g_is_place
noncomputable def c_is_place:Ct where
  N:=["place"]
  names:=(defScope s_is_place).names
  consts:=[("ROWS",(.int 99)),("COLUMNS",(.int 26))]
  bl:=[]
  fns:=[]
  tb:=tbl
  tt:=tblT
  tc:=tblC
  clss:=[]
  cln:=[]
  dcs:=[]
  dts:=[]
  dks:=[]
theorem r_is_place:compS 30 (c_is_place) (defBody s_is_place) = g_is_place:=by kernel_rfl
theorem sc_is_place:FnScope (c_is_place).N ["place"] (defScope s_is_place):=⟨rfl,rfl,rfl,by decide +kernel,rfl,by decide +kernel,by decide +kernel⟩
abbrev s_made_place:Stmt:=top 11
noncomputable def g_made_place:GS:=(gSeq (gIf (gNot (gTru (gCall 1 F_is_place (gCons (gTup (gCons (gVar 0) (gCons (gVar 1) gNil))) gNil)))) (gRaise "BadPlace" (gCons (gC (.str "the row or the column is beyond the sheet")) gNil)) gNext)
  (gRet (gTup (gCons (gVar 0) (gCons (gVar 1) gNil)))))
noncomputable def F_made_place:List Wv → Hs → Re Wv:=fnF 2 g_made_place
noncomputable def c_made_place:Ct where
  N:=["row","column"]
  names:=(defScope s_made_place).names
  consts:=[]
  bl:=[]
  fns:=[("is_place",1,F_is_place)]
  tb:=tbl
  tt:=tblT
  tc:=tblC
  clss:=["BadPlace"]
  cln:=[]
  dcs:=[]
  dts:=[]
  dks:=[]
theorem r_made_place:compS 30 (c_made_place) (defBody s_made_place) = g_made_place:=by kernel_rfl
theorem sc_made_place:FnScope (c_made_place).N ["row","column"] (defScope s_made_place):=⟨rfl,rfl,rfl,by decide +kernel,rfl,by decide +kernel,by decide +kernel⟩
abbrev s_part_many:Stmt:=top 23
noncomputable def g_part_many:GS:=(gRet (gDcIx d_PART_COUNTS (gVar 0)))
noncomputable def F_part_many:List Wv → Hs → Re Wv:=fnF 1 g_part_many
noncomputable def c_part_many:Ct where
  N:=["word"]
  names:=(defScope s_part_many).names
  consts:=[]
  bl:=[]
  fns:=[]
  tb:=tbl
  tt:=tblT
  tc:=tblC
  clss:=[]
  cln:=[]
  dcs:=[("PART_COUNTS",d_PART_COUNTS)]
  dts:=[]
  dks:=[]
theorem r_part_many:compS 30 (c_part_many) (defBody s_part_many) = g_part_many:=by kernel_rfl
theorem sc_part_many:FnScope (c_part_many).N ["word"] (defScope s_part_many):=⟨rfl,rfl,rfl,by decide +kernel,rfl,by decide +kernel,by decide +kernel⟩
abbrev s_parts_of:Stmt:=top 25
noncomputable def g_parts_of:GS:=(gRet (gSlice2 (gVar 0) (gPart (gC (.int 1))) (gPart (gBin oAdd (gC (.int 1)) (gCall 1 F_part_many (gCons (gBin oIx (gVar 0) (gC (.int 0))) gNil))))))
noncomputable def F_parts_of:List Wv → Hs → Re Wv:=fnF 1 g_parts_of
noncomputable def c_parts_of:Ct where
  N:=["formula"]
  names:=(defScope s_parts_of).names
  consts:=[]
  bl:=[]
  fns:=[("part_many",1,F_part_many)]
  tb:=tbl
  tt:=tblT
  tc:=tblC
  clss:=[]
  cln:=[]
  dcs:=[]
  dts:=[]
  dks:=[]
theorem r_parts_of:compS 30 (c_parts_of) (defBody s_parts_of) = g_parts_of:=by kernel_rfl
theorem sc_parts_of:FnScope (c_parts_of).N ["formula"] (defScope s_parts_of):=⟨rfl,rfl,rfl,by decide +kernel,rfl,by decide +kernel,by decide +kernel⟩
abbrev s_level_below:Stmt:=top 36
noncomputable def g_level_below_L1:GS:=(gExpr (gMeth mExtT (gVar 1) (gCall 1 F_parts_of (gCons (gVar 2) gNil))))
noncomputable def g_level_below:GS:=(gSeq (gSet 1 (gLst gNil))
  (gSeq (gFor 2 (gVar 0) g_level_below_L1)
  (gRet (gVar 1))))
noncomputable def F_level_below:List Wv → Hs → Re Wv:=fnF 3 g_level_below
noncomputable def c_level_below:Ct where
  N:=["level","parts","piece"]
  names:=(defScope s_level_below).names
  consts:=[]
  bl:=[]
  fns:=[("parts_of",1,F_parts_of)]
  tb:=tbl
  tt:=tblT
  tc:=tblC
  clss:=[]
  cln:=[]
  dcs:=[]
  dts:=[]
  dks:=[]
theorem r_level_below:compS 30 (c_level_below) (defBody s_level_below) = g_level_below:=by kernel_rfl
theorem sc_level_below:FnScope (c_level_below).N ["level"] (defScope s_level_below):=⟨rfl,rfl,rfl,by decide +kernel,rfl,by decide +kernel,by decide +kernel⟩
abbrev s_has_area:Stmt:=top 24
noncomputable def g_has_area:GS:=(gRet (gBin oIn2 (gVar 0) (gC (.ktp [.str "sum",.str "count",.str "least",.str "greatest",.str "find"]))))
noncomputable def F_has_area:List Wv → Hs → Re Wv:=fnF 1 g_has_area
noncomputable def c_has_area:Ct where
  N:=["word"]
  names:=(defScope s_has_area).names
  consts:=[("AREA_WORDS",(.ktp [.str "sum",.str "count",.str "least",.str "greatest",.str "find"]))]
  bl:=[]
  fns:=[]
  tb:=tbl
  tt:=tblT
  tc:=tblC
  clss:=[]
  cln:=[]
  dcs:=[]
  dts:=[]
  dks:=[]
theorem r_has_area:compS 30 (c_has_area) (defBody s_has_area) = g_has_area:=by kernel_rfl
theorem sc_has_area:FnScope (c_has_area).N ["word"] (defScope s_has_area):=⟨rfl,rfl,rfl,by decide +kernel,rfl,by decide +kernel,by decide +kernel⟩
abbrev s_is_whole:Stmt:=top 27
noncomputable def g_is_whole:GS:=(gRet (gAndV (gCallB (oIsA tbl tblT) (gCons (gVar 0) (gCons (gC (.ty "int")) gNil))) (gNotV (gCallB (oIsA tbl tblT) (gCons (gVar 0) (gCons (gC (.ty "bool")) gNil))))))
noncomputable def F_is_whole:List Wv → Hs → Re Wv:=fnF 1 g_is_whole
noncomputable def c_is_whole:Ct where
  N:=["thing"]
  names:=(defScope s_is_whole).names
  consts:=[]
  bl:=["isinstance","int","bool"]
  fns:=[]
  tb:=tbl
  tt:=tblT
  tc:=tblC
  clss:=[]
  cln:=[]
  dcs:=[]
  dts:=[]
  dks:=[]
theorem r_is_whole:compS 30 (c_is_whole) (defBody s_is_whole) = g_is_whole:=by kernel_rfl
theorem sc_is_whole:FnScope (c_is_whole).N ["thing"] (defScope s_is_whole):=⟨rfl,rfl,rfl,by decide +kernel,rfl,by decide +kernel,by decide +kernel⟩
abbrev s_is_text_sign:Stmt:=top 30
noncomputable def g_is_text_sign:GS:=(gRet (gAndV (gChain oLe oLe (gC (.int 32)) (gVar 0) (gC (.int 126))) (gAndV (gBin oNe (gVar 0) (gC (.int 34))) (gBin oNe (gVar 0) (gC (.int 37))))))
noncomputable def F_is_text_sign:List Wv → Hs → Re Wv:=fnF 1 g_is_text_sign
noncomputable def c_is_text_sign:Ct where
  N:=["number"]
  names:=(defScope s_is_text_sign).names
  consts:=[]
  bl:=[]
  fns:=[]
  tb:=tbl
  tt:=tblT
  tc:=tblC
  clss:=[]
  cln:=[]
  dcs:=[]
  dts:=[]
  dks:=[]
theorem r_is_text_sign:compS 30 (c_is_text_sign) (defBody s_is_text_sign) = g_is_text_sign:=by kernel_rfl
theorem sc_is_text_sign:FnScope (c_is_text_sign).N ["number"] (defScope s_is_text_sign):=⟨rfl,rfl,rfl,by decide +kernel,rfl,by decide +kernel,by decide +kernel⟩
abbrev s_has_text_signs:Stmt:=top 29
noncomputable def g_has_text_signs_C1t:GT:=(fun _ st => .ok true st)
noncomputable def g_has_text_signs_C1e:GE:=(gCall 1 F_is_text_sign (gCons (gCallB oOrd (gCons (gVar 0) gNil)) gNil))
noncomputable def g_has_text_signs:GS:=(gRet (gCallB oAll (gCons (gComp [] (giSeq2 (gVar 0)) g_has_text_signs_C1t g_has_text_signs_C1e) gNil)))
noncomputable def F_has_text_signs:List Wv → Hs → Re Wv:=fnF 1 g_has_text_signs
noncomputable def c_has_text_signs:Ct where
  N:=["text"]
  names:=(defScope s_has_text_signs).names
  consts:=[]
  bl:=["all","ord"]
  fns:=[("is_text_sign",1,F_is_text_sign)]
  tb:=tbl
  tt:=tblT
  tc:=tblC
  clss:=[]
  cln:=[]
  dcs:=[]
  dts:=[]
  dks:=[]
theorem r_has_text_signs:compS 30 (c_has_text_signs) (defBody s_has_text_signs) = g_has_text_signs:=by kernel_rfl
theorem sc_has_text_signs:FnScope (c_has_text_signs).N ["text"] (defScope s_has_text_signs):=⟨rfl,rfl,rfl,by decide +kernel,rfl,by decide +kernel,by decide +kernel⟩
abbrev s_is_text:Stmt:=top 28
noncomputable def g_is_text:GS:=(gRet (gAndV (gCallB (oIsA tbl tblT) (gCons (gVar 0) (gCons (gC (.ty "str")) gNil))) (gAndV (gBin oLe (gCallB oLen (gCons (gVar 0) gNil)) (gC (.int 40))) (gCall 1 F_has_text_signs (gCons (gVar 0) gNil)))))
noncomputable def F_is_text:List Wv → Hs → Re Wv:=fnF 1 g_is_text
noncomputable def c_is_text:Ct where
  N:=["thing"]
  names:=(defScope s_is_text).names
  consts:=[("MOST_SIGNS",(.int 40))]
  bl:=["isinstance","str","len"]
  fns:=[("has_text_signs",1,F_has_text_signs)]
  tb:=tbl
  tt:=tblT
  tc:=tblC
  clss:=[]
  cln:=[]
  dcs:=[]
  dts:=[]
  dks:=[]
theorem r_is_text:compS 30 (c_is_text) (defBody s_is_text) = g_is_text:=by kernel_rfl
theorem sc_is_text:FnScope (c_is_text).N ["thing"] (defScope s_is_text):=⟨rfl,rfl,rfl,by decide +kernel,rfl,by decide +kernel,by decide +kernel⟩
abbrev s_is_number_row:Stmt:=top 31
noncomputable def g_is_number_row_C1t:GT:=(fun _ st => .ok true st)
noncomputable def g_is_number_row_C1e:GE:=(gCall 1 F_is_whole (gCons (gVar 0) gNil))
noncomputable def g_is_number_row:GS:=(gRet (gAndV (gCallB (oIsA tbl tblT) (gCons (gVar 0) (gCons (gC (.ty "tuple")) gNil))) (gAndV (gBin oEq (gCallB oLen (gCons (gVar 0) gNil)) (gVar 1)) (gCallB oAll (gCons (gComp [] (giSeq2 (gVar 0)) g_is_number_row_C1t g_is_number_row_C1e) gNil)))))
noncomputable def F_is_number_row:List Wv → Hs → Re Wv:=fnF 2 g_is_number_row
noncomputable def c_is_number_row:Ct where
  N:=["thing","many"]
  names:=(defScope s_is_number_row).names
  consts:=[]
  bl:=["isinstance","tuple","all","len"]
  fns:=[("is_whole",1,F_is_whole)]
  tb:=tbl
  tt:=tblT
  tc:=tblC
  clss:=[]
  cln:=[]
  dcs:=[]
  dts:=[]
  dks:=[]
theorem r_is_number_row:compS 30 (c_is_number_row) (defBody s_is_number_row) = g_is_number_row:=by kernel_rfl
theorem sc_is_number_row:FnScope (c_is_number_row).N ["thing","many"] (defScope s_is_number_row):=⟨rfl,rfl,rfl,by decide +kernel,rfl,by decide +kernel,by decide +kernel⟩
abbrev s_are_pins:Stmt:=top 32
noncomputable def g_are_pins_C1t:GT:=(fun _ st => .ok true st)
noncomputable def g_are_pins_C1e:GE:=(gBin oIn2 (gVar 0) (gTup (gCons (gC (.int 0)) (gCons (gC (.int 1)) gNil))))
noncomputable def g_are_pins:GS:=(gRet (gAndV (gCall 2 F_is_number_row (gCons (gVar 0) (gCons (gVar 1) gNil))) (gCallB oAll (gCons (gComp [] (giSeq2 (gVar 0)) g_are_pins_C1t g_are_pins_C1e) gNil))))
noncomputable def F_are_pins:List Wv → Hs → Re Wv:=fnF 2 g_are_pins
noncomputable def c_are_pins:Ct where
  N:=["thing","many"]
  names:=(defScope s_are_pins).names
  consts:=[]
  bl:=["all"]
  fns:=[("is_number_row",2,F_is_number_row)]
  tb:=tbl
  tt:=tblT
  tc:=tblC
  clss:=[]
  cln:=[]
  dcs:=[]
  dts:=[]
  dks:=[]
theorem r_are_pins:compS 30 (c_are_pins) (defBody s_are_pins) = g_are_pins:=by kernel_rfl
theorem sc_are_pins:FnScope (c_are_pins).N ["thing","many"] (defScope s_are_pins):=⟨rfl,rfl,rfl,by decide +kernel,rfl,by decide +kernel,by decide +kernel⟩
abbrev s_has_corners:Stmt:=top 15
noncomputable def g_has_corners:GS:=(gSeq (gSet 1 (gAndV (gBin oLe (gBin oIx (gVar 0) (gC (.int 0))) (gBin oIx (gVar 0) (gC (.int 2)))) (gBin oLe (gBin oIx (gVar 0) (gC (.int 1))) (gBin oIx (gVar 0) (gC (.int 3))))))
  (gRet (gAndV (gVar 1) (gAndV (gCall 1 F_is_place (gCons (gSlice2 (gVar 0) gNoPart (gPart (gC (.int 2)))) gNil)) (gCall 1 F_is_place (gCons (gSlice2 (gVar 0) (gPart (gC (.int 2))) gNoPart) gNil))))))
noncomputable def F_has_corners:List Wv → Hs → Re Wv:=fnF 2 g_has_corners
noncomputable def c_has_corners:Ct where
  N:=["area","in_order"]
  names:=(defScope s_has_corners).names
  consts:=[]
  bl:=[]
  fns:=[("is_place",1,F_is_place)]
  tb:=tbl
  tt:=tblT
  tc:=tblC
  clss:=[]
  cln:=[]
  dcs:=[]
  dts:=[]
  dks:=[]
theorem r_has_corners:compS 30 (c_has_corners) (defBody s_has_corners) = g_has_corners:=by kernel_rfl
theorem sc_has_corners:FnScope (c_has_corners).N ["area"] (defScope s_has_corners):=⟨rfl,rfl,rfl,by decide +kernel,rfl,by decide +kernel,by decide +kernel⟩
abbrev s_area_many:Stmt:=top 16
noncomputable def g_area_many:GS:=(gRet (gBin oMulL (gBin oAdd (gBin oSub (gBin oIx (gVar 0) (gC (.int 2))) (gBin oIx (gVar 0) (gC (.int 0)))) (gC (.int 1))) (gBin oAdd (gBin oSub (gBin oIx (gVar 0) (gC (.int 3))) (gBin oIx (gVar 0) (gC (.int 1)))) (gC (.int 1)))))
noncomputable def F_area_many:List Wv → Hs → Re Wv:=fnF 1 g_area_many
noncomputable def c_area_many:Ct where
  N:=["area"]
  names:=(defScope s_area_many).names
  consts:=[]
  bl:=[]
  fns:=[]
  tb:=tbl
  tt:=tblT
  tc:=tblC
  clss:=[]
  cln:=[]
  dcs:=[]
  dts:=[]
  dks:=[]
theorem r_area_many:compS 30 (c_area_many) (defBody s_area_many) = g_area_many:=by kernel_rfl
theorem sc_area_many:FnScope (c_area_many).N ["area"] (defScope s_area_many):=⟨rfl,rfl,rfl,by decide +kernel,rfl,by decide +kernel,by decide +kernel⟩
abbrev s_is_area:Stmt:=top 14
noncomputable def g_is_area:GS:=(gRet (gAndV (gCall 1 F_has_corners (gCons (gVar 0) gNil)) (gBin oLe (gCall 1 F_area_many (gCons (gVar 0) gNil)) (gC (.int 300)))))
noncomputable def F_is_area:List Wv → Hs → Re Wv:=fnF 1 g_is_area
noncomputable def c_is_area:Ct where
  N:=["area"]
  names:=(defScope s_is_area).names
  consts:=[("MOST_PLACES",(.int 300))]
  bl:=[]
  fns:=[("has_corners",1,F_has_corners),("area_many",1,F_area_many)]
  tb:=tbl
  tt:=tblT
  tc:=tblC
  clss:=[]
  cln:=[]
  dcs:=[]
  dts:=[]
  dks:=[]
theorem r_is_area:compS 30 (c_is_area) (defBody s_is_area) = g_is_area:=by kernel_rfl
theorem sc_is_area:FnScope (c_is_area).N ["area"] (defScope s_is_area):=⟨rfl,rfl,rfl,by decide +kernel,rfl,by decide +kernel,by decide +kernel⟩
abbrev s_is_tail:Stmt:=top 33
noncomputable def g_is_tail:GS:=(gSeq (gIf (gTst (gBin oEq (gVar 0) (gC (.str "num")))) (gRet (gAndV (gBin oEq (gCallB oLen (gCons (gVar 1) gNil)) (gC (.int 1))) (gAndV (gCall 1 F_is_whole (gCons (gBin oIx (gVar 1) (gC (.int 0))) gNil)) (gChain oLe oLe (gC (.int 0)) (gBin oIx (gVar 1) (gC (.int 0))) (gBin oPow (gC (.int 10)) (gC (.int 60))))))) gNext)
  (gSeq (gIf (gTst (gBin oEq (gVar 0) (gC (.str "text")))) (gRet (gAndV (gBin oEq (gCallB oLen (gCons (gVar 1) gNil)) (gC (.int 1))) (gCall 1 F_is_text (gCons (gBin oIx (gVar 1) (gC (.int 0))) gNil)))) gNext)
  (gSeq (gIf (gTst (gBin oEq (gVar 0) (gC (.str "at")))) (gRet (gAndV (gBin oEq (gCallB oLen (gCons (gVar 1) gNil)) (gC (.int 2))) (gAndV (gCall 2 F_is_number_row (gCons (gBin oIx (gVar 1) (gC (.int 0))) (gCons (gC (.int 2)) gNil))) (gAndV (gCall 1 F_is_place (gCons (gBin oIx (gVar 1) (gC (.int 0))) gNil)) (gCall 2 F_are_pins (gCons (gBin oIx (gVar 1) (gC (.int 1))) (gCons (gC (.int 2)) gNil))))))) gNext)
  (gSeq (gIf (gTru (gCall 1 F_has_area (gCons (gVar 0) gNil))) (gRet (gAndV (gBin oEq (gCallB oLen (gCons (gVar 1) gNil)) (gC (.int 2))) (gAndV (gCall 2 F_is_number_row (gCons (gBin oIx (gVar 1) (gC (.int 0))) (gCons (gC (.int 4)) gNil))) (gAndV (gCall 1 F_is_area (gCons (gBin oIx (gVar 1) (gC (.int 0))) gNil)) (gCall 2 F_are_pins (gCons (gBin oIx (gVar 1) (gC (.int 1))) (gCons (gC (.int 4)) gNil))))))) gNext)
  (gRet (gBin oEq (gCallB oLen (gCons (gVar 1) gNil)) (gC (.int 0))))))))
noncomputable def F_is_tail:List Wv → Hs → Re Wv:=fnF 2 g_is_tail
noncomputable def c_is_tail:Ct where
  N:=["word","tail"]
  names:=(defScope s_is_tail).names
  consts:=[]
  bl:=["len"]
  fns:=[("has_area",1,F_has_area),("is_whole",1,F_is_whole),("is_text",1,F_is_text),("is_number_row",2,F_is_number_row),("is_place",1,F_is_place),("are_pins",2,F_are_pins),("is_area",1,F_is_area)]
  tb:=tbl
  tt:=tblT
  tc:=tblC
  clss:=[]
  cln:=[]
  dcs:=[]
  dts:=[]
  dks:=[]
theorem r_is_tail:compS 30 (c_is_tail) (defBody s_is_tail) = g_is_tail:=by kernel_rfl
theorem sc_is_tail:FnScope (c_is_tail).N ["word","tail"] (defScope s_is_tail):=⟨rfl,rfl,rfl,by decide +kernel,rfl,by decide +kernel,by decide +kernel⟩
abbrev s_tail_of:Stmt:=top 26
noncomputable def g_tail_of:GS:=(gRet (gSlice2 (gVar 0) (gPart (gBin oAdd (gC (.int 1)) (gCall 1 F_part_many (gCons (gBin oIx (gVar 0) (gC (.int 0))) gNil)))) gNoPart))
noncomputable def F_tail_of:List Wv → Hs → Re Wv:=fnF 1 g_tail_of
noncomputable def c_tail_of:Ct where
  N:=["formula"]
  names:=(defScope s_tail_of).names
  consts:=[]
  bl:=[]
  fns:=[("part_many",1,F_part_many)]
  tb:=tbl
  tt:=tblT
  tc:=tblC
  clss:=[]
  cln:=[]
  dcs:=[]
  dts:=[]
  dks:=[]
theorem r_tail_of:compS 30 (c_tail_of) (defBody s_tail_of) = g_tail_of:=by kernel_rfl
theorem sc_tail_of:FnScope (c_tail_of).N ["formula"] (defScope s_tail_of):=⟨rfl,rfl,rfl,by decide +kernel,rfl,by decide +kernel,by decide +kernel⟩
abbrev s_is_piece:Stmt:=top 34
noncomputable def g_is_piece:GS:=(gSeq (gIf (gOr (gNot (gTru (gCallB (oIsA tbl tblT) (gCons (gVar 0) (gCons (gC (.ty "tuple")) gNil))))) (gTst (gBin oEq (gCallB oLen (gCons (gVar 0) gNil)) (gC (.int 0))))) (gRet (gC (.bl false))) gNext)
  (gSeq (gSet 1 (gBin oIx (gVar 0) (gC (.int 0))))
  (gSeq (gIf (gOr (gNot (gTru (gCallB (oIsA tbl tblT) (gCons (gVar 1) (gCons (gC (.ty "str")) gNil))))) (gTst (gDcIn true d_PART_COUNTS (gVar 1)))) (gRet (gC (.bl false))) gNext)
  (gRet (gAndV (gBin oEq (gCallB oLen (gCons (gCall 1 F_parts_of (gCons (gVar 0) gNil)) gNil)) (gCall 1 F_part_many (gCons (gVar 1) gNil))) (gCall 2 F_is_tail (gCons (gVar 1) (gCons (gCall 1 F_tail_of (gCons (gVar 0) gNil)) gNil))))))))
noncomputable def F_is_piece:List Wv → Hs → Re Wv:=fnF 2 g_is_piece
noncomputable def c_is_piece:Ct where
  N:=["thing","word"]
  names:=(defScope s_is_piece).names
  consts:=[]
  bl:=["isinstance","tuple","len","str"]
  fns:=[("is_tail",2,F_is_tail),("part_many",1,F_part_many),("tail_of",1,F_tail_of),("parts_of",1,F_parts_of)]
  tb:=tbl
  tt:=tblT
  tc:=tblC
  clss:=[]
  cln:=[]
  dcs:=[("PART_COUNTS",d_PART_COUNTS)]
  dts:=[]
  dks:=[]
theorem r_is_piece:compS 30 (c_is_piece) (defBody s_is_piece) = g_is_piece:=by kernel_rfl
theorem sc_is_piece:FnScope (c_is_piece).N ["thing"] (defScope s_is_piece):=⟨rfl,rfl,rfl,by decide +kernel,rfl,by decide +kernel,by decide +kernel⟩
abbrev s_made_formula:Stmt:=top 35
noncomputable def g_made_formula_C1t:GT:=(fun _ st => .ok true st)
noncomputable def g_made_formula_C1e:GE:=(gCall 1 F_is_piece (gCons (gVar 0) gNil))
noncomputable def g_made_formula_L1:GS:=(gSeq (gAug (fun i j => i + j) 2 (gCallB oLen (gCons (gVar 1) gNil)))
  (gSeq (gAug (fun i j => i + j) 3 (gC (.int 1)))
  (gSeq (gIf (gOr (gTst (gBin oGt (gVar 2) (gC (.int 60)))) (gOr (gTst (gBin oGt (gVar 3) (gC (.int 12)))) (gNot (gTru (gCallB oAll (gCons (gComp [] (giSeq2 (gVar 1)) g_made_formula_C1t g_made_formula_C1e) gNil)))))) (gRaise "BadFormula" (gCons (gC (.str "no formula")) gNil)) gNext)
  (gSet 1 (gCall 1 F_level_below (gCons (gVar 1) gNil))))))
noncomputable def g_made_formula:GS:=(gSeq (gSet 1 (gLst (gCons (gVar 0) gNil)))
  (gSeq (gSet 2 (gC (.int 0)))
  (gSeq (gSet 3 (gC (.int 0)))
  (gSeq (gWhile wTurns (gTru (gVar 1)) g_made_formula_L1)
  (gRet (gVar 0))))))
noncomputable def F_made_formula:List Wv → Hs → Re Wv:=fnF 4 g_made_formula
noncomputable def c_made_formula:Ct where
  N:=["formula","level","pieces","deep"]
  names:=(defScope s_made_formula).names
  consts:=[("MOST_PIECES",(.int 60)),("MOST_DEEP",(.int 12))]
  bl:=["len","all"]
  fns:=[("level_below",1,F_level_below),("is_piece",1,F_is_piece)]
  tb:=tbl
  tt:=tblT
  tc:=tblC
  clss:=["BadFormula"]
  cln:=[]
  dcs:=[]
  dts:=[]
  dks:=[]
theorem r_made_formula:compS 30 (c_made_formula) (defBody s_made_formula) = g_made_formula:=by kernel_rfl
theorem sc_made_formula:FnScope (c_made_formula).N ["formula"] (defScope s_made_formula):=⟨rfl,rfl,rfl,by decide +kernel,rfl,by decide +kernel,by decide +kernel⟩
abbrev s_is_great:Stmt:=top 38
noncomputable def g_is_great:GS:=(gRet (gBin oGt (gCallB oAbs (gCons (gVar 0) gNil)) (gBin oPow (gC (.int 10)) (gC (.int 60)))))
noncomputable def F_is_great:List Wv → Hs → Re Wv:=fnF 1 g_is_great
noncomputable def c_is_great:Ct where
  N:=["number"]
  names:=(defScope s_is_great).names
  consts:=[]
  bl:=["abs"]
  fns:=[]
  tb:=tbl
  tt:=tblT
  tc:=tblC
  clss:=[]
  cln:=[]
  dcs:=[]
  dts:=[]
  dks:=[]
theorem r_is_great:compS 30 (c_is_great) (defBody s_is_great) = g_is_great:=by kernel_rfl
theorem sc_is_great:FnScope (c_is_great).N ["number"] (defScope s_is_great):=⟨rfl,rfl,rfl,by decide +kernel,rfl,by decide +kernel,by decide +kernel⟩
abbrev s_is_number:Stmt:=top 46
noncomputable def g_is_number:GS:=(gRet (gAndV (gCall 1 F_is_whole (gCons (gVar 0) gNil)) (gNotV (gCall 1 F_is_great (gCons (gVar 0) gNil)))))
noncomputable def F_is_number:List Wv → Hs → Re Wv:=fnF 1 g_is_number
noncomputable def c_is_number:Ct where
  N:=["content"]
  names:=(defScope s_is_number).names
  consts:=[]
  bl:=[]
  fns:=[("is_whole",1,F_is_whole),("is_great",1,F_is_great)]
  tb:=tbl
  tt:=tblT
  tc:=tblC
  clss:=[]
  cln:=[]
  dcs:=[]
  dts:=[]
  dks:=[]
theorem r_is_number:compS 30 (c_is_number) (defBody s_is_number) = g_is_number:=by kernel_rfl
theorem sc_is_number:FnScope (c_is_number).N ["content"] (defScope s_is_number):=⟨rfl,rfl,rfl,by decide +kernel,rfl,by decide +kernel,by decide +kernel⟩
abbrev s_made_content:Stmt:=top 45
noncomputable def g_made_content:GS:=(gSeq (gIf (gTru (gCallB (oIsA tbl tblT) (gCons (gVar 0) (gCons (gC (.ty "tuple")) gNil)))) (gRet (gCall 1 F_made_formula (gCons (gVar 0) gNil))) gNext)
  (gSeq (gIf (gAnd (gNot (gTru (gCall 1 F_is_text (gCons (gVar 0) gNil)))) (gNot (gTru (gCall 1 F_is_number (gCons (gVar 0) gNil))))) (gRaise "BadContent" (gCons (gC (.str "a number or a text beyond the bounds")) gNil)) gNext)
  (gRet (gVar 0))))
noncomputable def F_made_content:List Wv → Hs → Re Wv:=fnF 1 g_made_content
noncomputable def c_made_content:Ct where
  N:=["content"]
  names:=(defScope s_made_content).names
  consts:=[]
  bl:=["isinstance","tuple"]
  fns:=[("made_formula",1,F_made_formula),("is_text",1,F_is_text),("is_number",1,F_is_number)]
  tb:=tbl
  tt:=tblT
  tc:=tblC
  clss:=["BadContent"]
  cln:=[]
  dcs:=[]
  dts:=[]
  dks:=[]
theorem r_made_content:compS 30 (c_made_content) (defBody s_made_content) = g_made_content:=by kernel_rfl
theorem sc_made_content:FnScope (c_made_content).N ["content"] (defScope s_made_content):=⟨rfl,rfl,rfl,by decide +kernel,rfl,by decide +kernel,by decide +kernel⟩
abbrev s_put_content:Stmt:=top 44
noncomputable def g_put_content:GS:=(gSeq (gSet 3 (gCall 2 F_made_place (gCons (gBin oIx (gVar 1) (gC (.int 0))) (gCons (gBin oIx (gVar 1) (gC (.int 1))) gNil))))
  (gIf (gTst (gBin oIs (gVar 2) (gC .non))) (gExpr (gPop2 (gVar 0) (gVar 3) (gC .non))) (gDPut (gCall 1 F_made_content (gCons (gVar 2) gNil)) (gVar 0) (gVar 3))))
noncomputable def F_put_content:List Wv → Hs → Re Wv:=fnF 4 g_put_content
noncomputable def c_put_content:Ct where
  N:=["sheet","place","content","made"]
  names:=(defScope s_put_content).names
  consts:=[]
  bl:=[]
  fns:=[("made_place",2,F_made_place),("made_content",1,F_made_content)]
  tb:=tbl
  tt:=tblT
  tc:=tblC
  clss:=[]
  cln:=[]
  dcs:=[]
  dts:=["sheet"]
  dks:=[]
theorem r_put_content:compS 30 (c_put_content) (defBody s_put_content) = g_put_content:=by kernel_rfl
theorem sc_put_content:FnScope (c_put_content).N ["sheet","place","content"] (defScope s_put_content):=⟨rfl,rfl,rfl,by decide +kernel,rfl,by decide +kernel,by decide +kernel⟩
abbrev s_made_sheet:Stmt:=top 41
noncomputable def g_made_sheet_L1:GS:=(gExpr (gCall 3 F_put_content (gCons (gVar 1) (gCons (gBin oIx (gVar 2) (gC (.int 0))) (gCons (gBin oIx (gVar 2) (gC (.int 1))) gNil)))))
noncomputable def g_made_sheet:GS:=(gSeq (gSet 1 gNewT)
  (gSeq (gFor 2 (gVar 0) g_made_sheet_L1)
  (gRet (gCall 1 F_with_room (gCons (gVar 1) gNil)))))
noncomputable def F_made_sheet:List Wv → Hs → Re Wv:=fnF 3 g_made_sheet
noncomputable def c_made_sheet:Ct where
  N:=["cells","sheet","cell"]
  names:=(defScope s_made_sheet).names
  consts:=[]
  bl:=[]
  fns:=[("with_room",1,F_with_room),("put_content",3,F_put_content)]
  tb:=tbl
  tt:=tblT
  tc:=tblC
  clss:=[]
  cln:=[]
  dcs:=[]
  dts:=["sheet"]
  dks:=[]
theorem r_made_sheet:compS 30 (c_made_sheet) (defBody s_made_sheet) = g_made_sheet:=by kernel_rfl
theorem sc_made_sheet:FnScope (c_made_sheet).N ["cells"] (defScope s_made_sheet):=⟨rfl,rfl,rfl,by decide +kernel,rfl,by decide +kernel,by decide +kernel⟩
abbrev s_with_changes:Stmt:=top 43
noncomputable def g_with_changes_L1:GS:=(gExpr (gCall 3 F_put_content (gCons (gVar 2) (gCons (gVar 3) (gCons (gVar 4) gNil)))))
noncomputable def g_with_changes:GS:=(gSeq (gSet 2 (gCallB oDict (gCons (gVar 0) gNil)))
  (gSeq (gThaw 1 (gForG [3,4] (giItems (gVar 1)) g_with_changes_L1))
  (gRet (gVar 2))))
noncomputable def F_with_changes:List Wv → Hs → Re Wv:=fnF 5 g_with_changes
noncomputable def c_with_changes:Ct where
  N:=["sheet","changes","turned","place","content"]
  names:=(defScope s_with_changes).names
  consts:=[]
  bl:=["dict"]
  fns:=[("put_content",3,F_put_content)]
  tb:=tbl
  tt:=tblT
  tc:=tblC
  clss:=[]
  cln:=[]
  dcs:=[]
  dts:=["sheet","turned","changes"]
  dks:=[]
theorem r_with_changes:compS 30 (c_with_changes) (defBody s_with_changes) = g_with_changes:=by kernel_rfl
theorem sc_with_changes:FnScope (c_with_changes).N ["sheet","changes"] (defScope s_with_changes):=⟨rfl,rfl,rfl,by decide +kernel,rfl,by decide +kernel,by decide +kernel⟩
abbrev s_with_cells:Stmt:=top 42
noncomputable def g_with_cells:GS:=(gRet (gCall 1 F_with_room (gCons (gCall 2 F_with_changes (gCons (gVar 0) (gCons (gVar 1) gNil))) gNil)))
noncomputable def F_with_cells:List Wv → Hs → Re Wv:=fnF 2 g_with_cells
noncomputable def c_with_cells:Ct where
  N:=["sheet","changes"]
  names:=(defScope s_with_cells).names
  consts:=[]
  bl:=[]
  fns:=[("with_room",1,F_with_room),("with_changes",2,F_with_changes)]
  tb:=tbl
  tt:=tblT
  tc:=tblC
  clss:=[]
  cln:=[]
  dcs:=[]
  dts:=[]
  dks:=[]
theorem r_with_cells:compS 30 (c_with_cells) (defBody s_with_cells) = g_with_cells:=by kernel_rfl
theorem sc_with_cells:FnScope (c_with_cells).N ["sheet","changes"] (defScope s_with_cells):=⟨rfl,rfl,rfl,by decide +kernel,rfl,by decide +kernel,by decide +kernel⟩
abbrev s__law_word:Stmt:=top 53
noncomputable def g__law_word_B1:GS:=(gIf (gTst (gBin oIs (gVar 1) (gC .non))) (gExpr (gCall 1 F_made_sheet (gCons (gVar 0) gNil))) (gExpr (gCall 2 F_with_cells (gCons (gCall 1 F_made_sheet (gCons (gVar 0) gNil)) (gCons (gVar 1) gNil)))))
noncomputable def g__law_word_U1:GS:=(gSeq (gSet 4 (gLst (gCons (gCallB (oIsA tbl tblT) (gCons (gVar 3) (gCons (gC (.cls "BadPlace")) gNil))) (gCons (gCallB (oIsA tbl tblT) (gCons (gVar 3) (gCons (gC (.cls "BadContent")) gNil))) (gCons (gCallB (oIsA tbl tblT) (gCons (gVar 3) (gCons (gC (.cls "BadFormula")) gNil))) (gCons (gCallB (oIsA tbl tblT) (gCons (gVar 3) (gCons (gC (.cls "Full")) gNil))) gNil))))))
  (gSeq (gSet 2 (gC (.str "odd")))
  (gIf (gAnd (gTru (gCallB (oIsA tbl tblT) (gCons (gVar 3) (gCons (gC (.ty "ValueError")) gNil)))) (gTst (gBin oEq (gAlt (gMethS mCount (gVar 4) (gCons (gC (.bl true)) gNil)) (gMeth mLCount (gVar 4) (gC (.bl true)))) (gC (.int 1))))) (gSet 2 (gBin oIx (gLst (gCons (gC (.str "place")) (gCons (gC (.str "content")) (gCons (gC (.str "formula")) (gCons (gC (.str "full")) gNil))))) (gAlt (gMethS mIndex (gVar 4) (gCons (gC (.bl true)) gNil)) (gMeth mLIndex (gVar 4) (gC (.bl true)))))) gNext)))
noncomputable def g__law_word:GS:=(gSeq (gSet 2 (gC (.str "made")))
  (gSeq (gTry (fun y => tblC.lookup (y,("SheetError":PySem.Str))) 3 g__law_word_B1 g__law_word_U1)
  (gRet (gVar 2))))
noncomputable def F__law_word:List Wv → Hs → Re Wv:=fnF 5 g__law_word
noncomputable def c__law_word:Ct where
  N:=["cells","changes","word","e","signs"]
  names:=(defScope s__law_word).names
  consts:=[]
  bl:=["isinstance","ValueError"]
  fns:=[("made_sheet",1,F_made_sheet),("with_cells",2,F_with_cells)]
  tb:=tbl
  tt:=tblT
  tc:=tblC
  clss:=["SheetError"]
  cln:=["BadPlace","BadContent","BadFormula","Full"]
  dcs:=[]
  dts:=[]
  dks:=[]
theorem r__law_word:compS 30 (c__law_word) (defBody s__law_word) = g__law_word:=by kernel_rfl
theorem sc__law_word:FnScope (c__law_word).N ["cells","changes"] (defScope s__law_word):=⟨rfl,rfl,rfl,by decide +kernel,rfl,by decide +kernel,by decide +kernel⟩
abbrev s_law:Stmt:=top 55
noncomputable def g_law_L1:GS:=(gSeq (gSet 6 (gBin oMod (gBin oAdd (gBin oMulL (gVar 5) (gVar 3)) (gCall 2 F__law_digit (gCons (gVar 1) (gCons (gC (.int 1)) gNil)))) (gC (.int 2574))))
  (gExpr (gMeth mApp (gVar 4) (gTup (gCons (gTup (gCons (gBin oFdiv (gVar 6) (gC (.int 26))) (gCons (gBin oMod (gVar 6) (gC (.int 26))) gNil))) (gCons (gVar 5) gNil))))))
noncomputable def g_law:GS:=(gSeq (gSet 1 (gCall 2 F__law_stream (gCons (gVar 0) (gCons (gC (.int 1)) gNil))))
  (gSeq (gSet 2 (gBin oIx (gLst (gCons (gBin oAdd (gC (.int 197)) (gCall 2 F__law_digit (gCons (gVar 1) (gCons (gC (.int 7)) gNil)))) (gCons (gBin oAdd (gC (.int 2)) (gCall 2 F__law_digit (gCons (gVar 1) (gCons (gC (.int 9)) gNil)))) gNil))) (gCall 2 F__law_digit (gCons (gVar 1) (gCons (gC (.int 2)) gNil)))))
  (gSeq (gSet 3 (gBin oIx (gLst (gCons (gC (.int 1)) (gCons (gC (.int 5)) (gCons (gC (.int 7)) (gCons (gC (.int 11)) gNil))))) (gCall 2 F__law_digit (gCons (gVar 1) (gCons (gC (.int 4)) gNil)))))
  (gSeq (gSet 4 (gLst gNil))
  (gSeq (gForR1 5 (gCons (gVar 2) gNil) g_law_L1)
  (gSeq (gIf (gTst (gBin oNe (gCall 2 F__law_word (gCons (gVar 4) (gCons (gC .non) gNil))) (gBin oIx (gLst (gCons (gC (.str "made")) (gCons (gC (.str "full")) gNil))) (gCallB oInt2 (gCons (gBin oGt (gVar 2) (gC (.int 200))) gNil))))) (gRet (gC (.bl false))) gNext)
  (gSeq (gSetT [7,8,9] (gCall 1 F__law_bad (gCons (gVar 1) gNil)))
  (gSeq (gSet 10 (gCall 2 F__law_digit (gCons (gVar 1) (gCons (gBin oAdd (gVar 2) (gC (.int 1))) gNil))))
  (gSeq (gIf (gTst (gBin oNe (gCall 2 F__law_word (gCons (gBin oAdd (gBin oAdd (gSlice2 (gVar 4) gNoPart (gPart (gVar 10))) (gLst (gCons (gTup (gCons (gVar 7) (gCons (gVar 8) gNil))) gNil))) (gSlice2 (gVar 4) (gPart (gVar 10)) gNoPart)) (gCons (gC .non) gNil))) (gVar 9))) (gRet (gC (.bl false))) gNext)
  (gSeq (gSet 11 (gSlice2 (gVar 4) gNoPart (gPart (gCallB oMin2 (gCons (gVar 2) (gCons (gC (.int 200)) gNil))))))
  (gSeq (gIf (gOr (gTst (gBin oNe (gCall 2 F__law_word (gCons (gVar 11) (gCons (gDispT [((gVar 7),(gVar 8))]) gNil))) (gVar 9))) (gTst (gBin oNe (gCall 2 F__law_word (gCons (gVar 11) (gCons (gDispT [((gTup (gCons (gC (.int 98)) (gCons (gC (.int 25)) gNil))),(gC (.int 1))),((gVar 7),(gVar 8))]) gNil))) (gVar 9)))) (gRet (gC (.bl false))) gNext)
  (gSeq (gSet 12 gNewT)
  (gSeq (gDPut (gC (.int 7)) (gVar 12) (gTup (gCons (gC (.int 98)) (gCons (gC (.int 24)) gNil))))
  (gSeq (gSet 13 (gBin oIx (gLst (gCons (gC (.str "made")) (gCons (gC (.str "full")) gNil))) (gCallB oInt2 (gCons (gBin oEq (gCallB oLenD (gCons (gVar 11) gNil)) (gC (.int 200))) gNil))))
  (gSeq (gIf (gTst (gBin oNe (gCall 2 F__law_word (gCons (gVar 11) (gCons (gCallB oDict (gCons (gVar 12) gNil)) gNil))) (gVar 13))) (gRet (gC (.bl false))) gNext)
  (gSeq (gDPut (gC .non) (gVar 12) (gBin oIx (gBin oIx (gVar 11) (gC (.int 0))) (gC (.int 0))))
  (gRet (gAndV (gBin oEq (gCall 2 F__law_word (gCons (gVar 11) (gCons (gVar 12) gNil))) (gC (.str "made"))) (gBin oEq (gCall 2 F__law_word (gCons (gBin oAdd (gVar 11) (gLst (gCons (gTup (gCons (gTup (gCons (gC (.int 98)) (gCons (gC (.int 24)) gNil))) (gCons (gC .non) gNil))) gNil))) (gCons (gC .non) gNil))) (gC (.str "made")))))))))))))))))))))
noncomputable def F_law:List Wv → Hs → Re Wv:=fnF 14 g_law
noncomputable def c_law:Ct where
  N:=["script","row","many","step","cells","k","at","place","content","word","spot","few","changes","due"]
  names:=(defScope s_law).names
  consts:=[]
  bl:=["range","int","min","dict","len"]
  fns:=[("_law_stream",2,F__law_stream),("_law_bad",1,F__law_bad),("_law_digit",2,F__law_digit),("_law_word",2,F__law_word)]
  tb:=tbl
  tt:=tblT
  tc:=tblC
  clss:=[]
  cln:=[]
  dcs:=[]
  dts:=["changes","place"]
  dks:=[]
theorem r_law:compS 30 (c_law) (defBody s_law) = g_law:=by kernel_rfl
theorem sc_law:FnScope (c_law).N ["script"] (defScope s_law):=⟨rfl,rfl,rfl,by decide +kernel,rfl,by decide +kernel,by decide +kernel⟩
end K23
namespace K23
open PySem J
abbrev S:=PySem.Str
def Ro (r:Nat) (st:Hs):Prop:=∃ v:Int,st[r]? = some (.lst [.int v])
def Dw (r:Nat) (st st':Hs):Prop:=Keep r st st' ∧ Ro r st'
theorem Dw.trans {r:Nat} {a b c:Hs} (h:Dw r a b) (k:Dw r b c):Dw r a c:=⟨h.1.trans k.1,k.2⟩
theorem Ro.push {r:Nat} {st:Hs} {o:Ob} (h:Ro r st):Ro r (st ++ [o]):=let ⟨v,e⟩:=h; ⟨v,push_get e⟩
theorem Ro.gr {r:Nat} {st st':Hs} (h:Ro r st) (g:Gr st st'):Ro r st':=let ⟨v,e⟩:=h; ⟨v,g.get e⟩
theorem Dw.of {r:Nat} {st:Hs} (h:Ro r st):Dw r st st:=⟨Keep.refl,h⟩
theorem Dw.gr {r:Nat} {st st':Hs} (h:Ro r st) (g:Gr st st'):Dw r st st':=⟨g.keep,h.gr g⟩
theorem digit {st:Hs} {l:Nat} {n many:Int} (h:st[l]? = some (.lst [.int n])) (hm:many ≠ 0 ∧ many.natAbs.log2 < 9000) :
  F__law_digit [.ref l,.int many] st = .ok (.int (n.fmod many)) (st.set l (.lst [.int (n.fdiv many)])):=by
 have hl:lstOf st l = some [.int n]:=by unfold lstOf; rw [h]
 have h0:L2.atI [Wv.int n] 0 = some (.int n):=rfl
 unfold F__law_digit fnF g__law_digit
 simp [ix_l hl h0,mod_i hm.1,fdiv_i hm,gSetI,oSet,h,L2.ixN]
theorem dig {r:Nat} {st:Hs} {m:Int} (h:Ro r st) (h0:0 < m) (h1:m < 1000000):∃ d st',F__law_digit [.ref r,.int m] st = .ok (.int d) st' ∧ 0 ≤ d ∧ d < m ∧ Dw r st st':=by
 obtain ⟨v,e⟩:=h
 have hl:m.natAbs.log2 < 9000:=Nat.lt_trans ((Nat.log2_lt (k:=20) (by omega)).mpr (by omega)) (by decide)
 exact ⟨_,_,digit e ⟨by omega,hl⟩,Int.fmod_nonneg_of_pos _ h0,Int.fmod_lt_of_pos _ h0,Keep.set,_,set_get e⟩
theorem mixed {st:Hs} {c k:Int} (h0:0 ≤ k) (h1:k < 1000000):∃ v:Int,0 ≤ v ∧ F__law_mixed [.int c,.int k] st = .ok (.int v) st:=by
 have z1:oMulL (.int 7919) (.int k) st = .ok (.int (7919 * k)) st:=mul_l (by decide) (by decide)
 have z2:∀ i:Int,oMulL (.int i) (.int 48271) st = .ok (.int (i * 48271)) st:=fun i => mul_r (by decide) (by decide)
 have z3:∀ i:Int,oMulL (.int i) (.int 69621) st = .ok (.int (i * 69621)) st:=fun i => mul_r (by decide) (by decide)
 generalize hs:((c.fmod 1000000007 + 7919 * k + 1) * 48271).fmod 2147483647 = s
 have s0:0 ≤ s:=by rw [← hs]; exact Int.fmod_nonneg_of_pos _ (by decide)
 have s1:s < 2147483647:=by rw [← hs]; exact Int.fmod_lt_of_pos _ (by decide)
 have z4:oMulL (.int s) (.int s) st = .ok (.int (s * s)) st:=mul_l (by omega) (by omega)
 refine ⟨((s * s).fmod 2147483629 * 69621).fmod 2147483647,Int.fmod_nonneg_of_pos _ (by decide),?_⟩
 unfold F__law_mixed fnF g__law_mixed
 simp [z1,z2,z3,z4,hs,mod_i]
theorem at_nat {ns:List Int} {k:Int} (h0:0 ≤ k) (c:k < ns.length):L2.atI (ns.map Wv.int) k = some (.int (ns.getD k.toNat 0)):=by
 have hk:k.toNat < ns.length:=by omega
 have ek:k = ((k.toNat:Nat):Int):=by omega
 have q:=L2.atI_nat (xs:=ns.map Wv.int) (j:=k.toNat) (v:=.int (ns.getD k.toNat 0)) (by simp [hk])
 rw [← ek] at q
 exact q
theorem cell_at {st:Hs} {l:Nat} {ns:List Int} (h:lstOf st l = some (ns.map Wv.int)) {k:Int} (h0:0 ≤ k):∃ v:Int,F__law_cell_at [.ref l,.int k] st = .ok (.int v) st:=by
 have ln:=len_l h
 rw [List.length_map] at ln
 unfold F__law_cell_at fnF g__law_cell_at
 by_cases c:k < ns.length
 ·exact ⟨_,by simp [ln,c,ix_l h (at_nat h0 c)]; rfl⟩
 ·exact ⟨0,by simp [ln,c]⟩
theorem pow60 {st:Hs}:oPow (.int 10) (.int 60) st = .ok (.int (10 ^ 60)) st:=pow_i (by decide)
theorem rngS_mem {lo c:Int} {n:Nat} {j:Nat} {w:Wv} (h:(rngS lo c n)[j]? = some w):w = .int (lo + j * c) ∧ j < n:=by
 have hj:j < n:=by
  have:=(List.getElem?_eq_some_iff.mp h).1
  rw [rngS_len] at this
  exact this
 rw [rngS_get? hj] at h
 exact ⟨(Option.some.inj h).symm,hj⟩
theorem big_ok {c:Int} {k:Nat} (h0:0 ≤ c) (h1:c < (10 ^ 60) ^ k) (hk:k ≤ 5):IntMulOk c (10 ^ 60):=by
 have b:c.natAbs < 2 ^ 1000:=by
  have e:(10 ^ 60:Int) ^ k < 2 ^ 1000:=by
   have hk':k = 0 ∨ k = 1 ∨ k = 2 ∨ k = 3 ∨ k = 4 ∨ k = 5:=by omega
   rcases hk' with rfl | rfl | rfl | rfl | rfl | rfl <;> decide +kernel
  have e2:((2 ^ 1000:Nat):Int) = 2 ^ 1000:=by norm_cast
  omega
 exact IntMulOk.of_bits (Nat.le_trans (PyProof.Rows.intBits_le b) (by decide)) (Nat.le_trans (PyProof.Rows.intBits_le (k:=200) (by decide +kernel)) (by decide))
theorem stream {st:Hs} {l:Nat} {ns:List Int} (h:lstOf st l = some (ns.map Wv.int)) (hn:ns.length ≤ 63) {k:Int} (h0:0 ≤ k) (h1:k ≤ 3):∃ n:Int,F__law_stream [.ref l,.int k] st = .ok (.ref st.length) (st ++ [.lst [.int n]]):=by
 obtain ⟨v0,ev0⟩:=cell_at h (k:=0) (Int.le_refl _)
 have ln:=len_l h
 rw [List.length_map] at ln
 have sm:=sum_l h
 have cr:CRs (k + 1) ns.length 13:=⟨by omega,by omega,by omega,by omega,by decide,by decide⟩
 have sn:stepN (k + 1) ns.length 13 ≤ 5:=by
  unfold stepN
  split <;> omega
 have l1:∃ (o3:Option Wv) (c:Int),forT 3 g__law_stream_L2 (rngS (k + 1) 13 (stepN (k + 1) ns.length 13)) [some (.ref l),some (.int k),some (.int 0),none,none,none] st = .nx [some (.ref l),some (.int k),some (.int c),o3,none,none] st:=by
  obtain ⟨ρ,st',e,o3,c,rfl,rfl,_,_⟩:=forT_ix (i:=3) (gb:=g__law_stream_L2) (fun i ρ st' => ∃ (o3:Option Wv) (c:Int),ρ = [some (.ref l),some (.int k),some (.int c),o3,none,none] ∧ st' = st ∧ 0 ≤ c ∧ c < (10 ^ 60) ^ i) (rngS (k + 1) 13 (stepN (k + 1) ns.length 13)) 0 [some (.ref l),some (.int k),some (.int 0),none,none,none] st ⟨none,0,rfl,rfl,by decide,by decide⟩ (by
   rintro j w hw _ s ⟨o3,c,rfl,rfl,c0,c1⟩
   obtain ⟨rfl,hj⟩:=rngS_mem hw
   have hj5:0 + j ≤ 5:=by omega
   have jx:k + 1 + (j:Int) * 13 < ns.length:=by
    unfold stepN at hj
    split at hj <;> omega
   have m1:oMulL (.int c) (.int (10 ^ 60)) s = .ok (.int (c * 10 ^ 60)) s:=mul_i (big_ok c0 c1 hj5)
   have m2:oMod (.int (ns.getD (k + 1 + (j:Int) * 13).toNat 0)) (.int (10 ^ 60)) s = .ok (.int ((ns.getD (k + 1 + (j:Int) * 13).toNat 0).fmod (10 ^ 60))) s:=mod_i (by decide)
   have x1:=ix_l h (at_nat (k:=k + 1 + (j:Int) * 13) (by omega) jx)
   have q0:=Int.fmod_nonneg_of_pos (ns.getD (k + 1 + (j:Int) * 13).toNat 0) (b:=10 ^ 60) (by decide)
   have q1:=Int.fmod_lt_of_pos (ns.getD (k + 1 + (j:Int) * 13).toNat 0) (b:=10 ^ 60) (by decide)
   generalize (ns.getD (k + 1 + (j:Int) * 13).toNat 0).fmod (10 ^ 60) = q at m2 q0 q1
   refine ⟨_,_,?_,⟨some (.int (k + 1 + (j:Int) * 13)),c * 10 ^ 60 + q,rfl,rfl,?_,?_⟩⟩
   ·unfold g__law_stream_L2
    simp only [e_set,e_bin,e_var,e_c,List.getElem?_cons_zero,List.getElem?_cons_succ,List.set_cons_zero,List.set_cons_succ,rdV_s,bind_ok,kB_d,pow60,nox_ok,m1,x1,m2,add_i,thn_ok]
   ·have:=Int.mul_nonneg c0 (show (0:Int) ≤ 10 ^ 60 by decide)
    omega
   ·have e:(10 ^ 60:Int) ^ (0 + j + 1) = (10 ^ 60) ^ (0 + j) * 10 ^ 60:=Int.pow_succ ..
    rw [e]
    have:(c + 1) * 10 ^ 60 ≤ (10 ^ 60) ^ (0 + j) * 10 ^ 60:=Int.mul_le_mul_of_nonneg_right (by omega) (by decide)
    rw [Int.add_mul] at this
    omega)
  exact ⟨o3,c,e⟩
 obtain ⟨o3,c,e1⟩:=l1
 have l2:∃ (o3' o5':Option Wv) (g':Int),forT 3 g__law_stream_L1 (rngW 0 8) [some (.ref l),some (.int k),some (.int c),o3,some (.int 0),none] st = .nx [some (.ref l),some (.int k),some (.int c),o3',some (.int g'),o5'] st:=by
  obtain ⟨ρ,st',e,o3',o5',g',rfl,rfl⟩:=forT_inv (i:=3) (gb:=g__law_stream_L1) (fun ρ st' => ∃ (o3 o5:Option Wv) (g:Int),ρ = [some (.ref l),some (.int k),some (.int c),o3,some (.int g),o5] ∧ st' = st) (rngW 0 8) [some (.ref l),some (.int k),some (.int c),o3,some (.int 0),none] st ⟨o3,none,0,rfl,rfl⟩ (by
   rintro w hw _ s ⟨o3,o5,g,rfl,rfl⟩
   obtain ⟨j,rfl,j0,j1⟩:=rng_mem hw
   obtain ⟨u,_,eu⟩:=mixed (st:=s) (c:=c + ns.sum) (k:=8 * k + j) (by omega) (by omega)
   have z1:oMulL (.int 8) (.int k) s = .ok (.int (8 * k)) s:=mul_l (by decide) (by decide)
   have z3:oMulL (.int g) (.int 2147483647) s = .ok (.int (g * 2147483647)) s:=mul_r (by decide) (by decide)
   refine ⟨_,_,?_,⟨some (.int j),some (.int u),g * 2147483647 + u,rfl,rfl⟩⟩
   unfold g__law_stream_L1
   simp [sm,z1,z3,eu])
  exact ⟨o3',o5',g',e⟩
 obtain ⟨o3',o5',g',e2⟩:=l2
 have f8:∀ i:Int,oFdiv (.int i) (.int 8) st = .ok (.int (i.fdiv 8)) st:=fun i => fdiv_i (by decide)
 have c8:CRng 8:=crng (by decide) (by decide)
 have er3:∀ (ga:GA) (ρ:Rho) (s s1:Hs) (a b c:Int),ga ρ s = .ok [.int a,.int b,.int c] s1 → CRs a b c → gForR3 3 ga g__law_stream_L2 ρ s = forT 3 g__law_stream_L2 (rngS a c (stepN a b c)) ρ s1:=fun ga ρ s s1 a b c h1 h2 => by
  unfold gForR3
  rw [h1]
  show (if CRs a b c then _ else _) = _
  rw [if_pos h2]
 have e3:=er3 (gCons (gBin oAdd (gVar 1) (gC (.int 1))) (gCons (gCallB oLen (gCons (gVar 0) gNil)) (gCons (gC (.int 13)) gNil))) [some (.ref l),some (.int k),some (.int 0),none,none,none] st st (k + 1) ns.length 13 (by simp [ln]) cr
 rw [e1] at e3
 unfold F__law_stream fnF g__law_stream
 by_cases b:v0.fmod 2 = 1
 ·exact ⟨c,by simp [e3,ev0,mod_i,b]⟩
 ·have b':(v0.fmod 2 == 1) = false:=beq_false_of_ne b
  exact ⟨g'.fdiv 8,by simp [e3,ev0,mod_i,b',c8,e2,f8]⟩
def PlOk (a b:Int):Prop:=0 ≤ a ∧ a < 99 ∧ 0 ≤ b ∧ b < 26
instance {a b:Int}:Decidable (PlOk a b):=inferInstanceAs (Decidable (_ ∧ _ ∧ _ ∧ _))
def sgB (c:Nat):Bool:=decide (32 ≤ c ∧ c ≤ 126 ∧ c ≠ 34 ∧ c ≠ 37)
theorem tup_is {ws:List Wv} {st:Hs}:oIsA tbl tblT [.tup ws,.ty "tuple"] st = .ok (.bl true) st:=rfl
theorem str_nt {x:S} {st:Hs}:oIsA tbl tblT [.str x,.ty "tuple"] st = .ok (.bl false) st:=rfl
theorem int_nt {i:Int} {st:Hs}:oIsA tbl tblT [.int i,.ty "tuple"] st = .ok (.bl false) st:=rfl
theorem str_is {x:S} {st:Hs}:oIsA tbl tblT [.str x,.ty "str"] st = .ok (.bl true) st:=rfl
theorem int_ns {i:Int} {st:Hs}:oIsA tbl tblT [.int i,.ty "str"] st = .ok (.bl false) st:=rfl
theorem str_ni {x:S} {st:Hs}:oIsA tbl tblT [.str x,.ty "int"] st = .ok (.bl false) st:=rfl
theorem int_is {i:Int} {st:Hs}:oIsA tbl tblT [.int i,.ty "int"] st = .ok (.bl true) st:=rfl
theorem int_nb {i:Int} {st:Hs}:oIsA tbl tblT [.int i,.ty "bool"] st = .ok (.bl false) st:=rfl
theorem len_t {ws:List Wv} {st:Hs}:oLen [.tup ws] st = .ok (.int ws.length) st:=rfl
theorem is_whole {i:Int} {st:Hs}:F_is_whole [.int i] st = .ok (.bl true) st:=by
 unfold F_is_whole fnF g_is_whole
 simp [int_is,int_nb]
theorem is_wholeS {x:S} {st:Hs}:F_is_whole [.str x] st = .ok (.bl false) st:=by
 unfold F_is_whole fnF g_is_whole
 simp [str_ni]
theorem placeG {a b:Int} {st:Hs}:F_is_place [.tup [.int a,.int b]] st = .ok (.bl (decide (PlOk a b))) st:=by
 have a0:oIx (.tup [.int a,.int b]) (.int 0) st = .ok (.int a) st:=ix_t rfl
 have a1:oIx (.tup [.int a,.int b]) (.int 1) st = .ok (.int b) st:=ix_t rfl
 unfold F_is_place fnF g_is_place PlOk
 by_cases c1:0 ≤ a
 ·by_cases c2:a < 99
  ·by_cases c3:0 ≤ b
   ·by_cases c4:b < 26 <;> simp [a0,a1,c1,c2,c3,c4]
   ·simp [a0,a1,c1,c2,c3]
  ·simp [a0,a1,c1,c2]
 ·simp [a0,a1,c1]
theorem made_place {a b:Int} {st:Hs} (h:PlOk a b):F_made_place [.int a,.int b] st = .ok (.tup [.int a,.int b]) st:=by
 unfold F_made_place fnF g_made_place
 simp [placeG,h,lim]
theorem made_placeN {a b:Int} {st:Hs} (h:¬ PlOk a b):F_made_place [.int a,.int b] st = .err "BadPlace" st:=by
 unfold F_made_place fnF g_made_place
 simp [placeG,h,lim]
theorem bls_map:∀ bs:List Bool,blsOf (bs.map Wv.bl) = some bs
 | [] => rfl
 | b :: r => by
  rw [List.map_cons]
  unfold blsOf
  rw [bls_map r]
theorem all_bs {l:Nat} {bs:List Bool} {st:Hs} (h:lstOf st l = some (bs.map Wv.bl)):oAll [.ref l] st = .ok (.bl (bs.all id)) st:=by
 show (match lstOf st l with | some ws => (match blsOf ws with | some bs => Re.ok (Wv.bl (bs.all id)) st | none => .bad) | none => .bad) = _
 rw [h]
 dsimp only
 rw [bls_map]
theorem comp_bs {cs:Caps} {gt:GT} {ge:GE} {ρ:Rho} {ws:List Wv} {st:Hs} (t:Wv → Bool) (h1:∀ v ∈ ws,∀ s,gt (some v :: capR cs ρ) s = .ok true s) (h2:∀ v ∈ ws,∀ s,ge (some v :: capR cs ρ) s = .ok (.bl (t v)) s) (hl:ws.length < lim) :
  compRun cs gt ge ρ (none,ws) st = .ok (.ref st.length) (st ++ [.lst ((ws.map t).map Wv.bl)]):=by
 rw [comp_pure (w:=(none,ws)) (t:=fun _ => true) (f:=fun v => .bl (t v)) trivial (fun v hv acc => h1 v hv _) (fun v hv _ acc => h2 v hv _) hl]
 have e:((ws.filter fun _ => true).map fun v => Wv.bl (t v)) = (ws.map t).map Wv.bl:=by
  rw [List.filter_eq_self.mpr (fun _ _ => rfl),List.map_map]
  rfl
 show Re.ok _ (st ++ [.lst ((ws.filter fun _ => true).map fun v => Wv.bl (t v))]) = _
 rw [e]
theorem all_id {ws:List Wv} {t:Wv → Bool}:(ws.map t).all id = ws.all t:=by rw [List.all_map]; rfl
theorem signG {c:Nat} {st:Hs}:F_is_text_sign [.int (c:Nat)] st = .ok (.bl (sgB c)) st:=by
 unfold sgB
 unfold F_is_text_sign fnF g_is_text_sign
 have e1:decide ((32:Int) ≤ (c:Nat)) = decide (32 ≤ c):=decide_eq_decide.mpr (by omega)
 have e2:decide (((c:Nat):Int) ≤ 126) = decide (c ≤ 126):=decide_eq_decide.mpr (by omega)
 have n1:oNe (.int (c:Nat)) (.int 34) st = .ok (.bl (decide (c ≠ 34))) st:=by rw [ne_i]; congr 2; rw [Bool.eq_iff_iff]; simp; omega
 have n2:oNe (.int (c:Nat)) (.int 37) st = .ok (.bl (decide (c ≠ 37))) st:=by rw [ne_i]; congr 2; rw [Bool.eq_iff_iff]; simp; omega
 by_cases c1:32 ≤ c
 ·have c1':(32:Int) ≤ (c:Nat):=by omega
  by_cases c2:c ≤ 126
  ·have c2':((c:Nat):Int) ≤ 126:=by omega
   by_cases c3:c = 34
   ·have t:decide (32 ≤ c ∧ c ≤ 126 ∧ c ≠ 34 ∧ c ≠ 37) = false:=decide_eq_false fun z => z.2.2.1 c3
    rw [decide_eq_false (fun z => z c3)] at n1
    rw [t]
    simp [-ne_i,c1',c2',n1]
   ·rw [decide_eq_true c3] at n1
    by_cases c4:c = 37
    ·have t:decide (32 ≤ c ∧ c ≤ 126 ∧ c ≠ 34 ∧ c ≠ 37) = false:=decide_eq_false fun z => z.2.2.2 c4
     rw [decide_eq_false (fun z => z c4)] at n2
     rw [t]
     simp [-ne_i,c1',c2',n1,n2]
    ·have t:decide (32 ≤ c ∧ c ≤ 126 ∧ c ≠ 34 ∧ c ≠ 37) = true:=decide_eq_true ⟨c1,c2,c3,c4⟩
     rw [decide_eq_true c4] at n2
     rw [t]
     simp [-ne_i,c1',c2',n1,n2]
  ·have c2':¬ ((c:Nat):Int) ≤ 126:=by omega
   have t:decide (32 ≤ c ∧ c ≤ 126 ∧ c ≠ 34 ∧ c ≠ 37) = false:=decide_eq_false fun z => c2 z.2.1
   rw [t]
   simp [-ne_i,c1',c2']
 ·have c1':¬ (32:Int) ≤ (c:Nat):=by omega
  have t:decide (32 ≤ c ∧ c ≤ 126 ∧ c ≠ 34 ∧ c ≠ 37) = false:=decide_eq_false fun z => c1 z.1
  rw [t]
  simp [-ne_i,c1']
theorem textL {x:S} {st:Hs} (h:40 < x.length) (h1:x.length ≤ 1000):F_is_text [.str x] st = .ok (.bl false) st:=by
 have ln:oLen [.str x] st = .ok (.int x.length) st:=len_s (by unfold lim; omega)
 have l:¬ (x.length:Int) ≤ 40:=by omega
 unfold F_is_text fnF g_is_text
 simp [str_is,ln,l]
theorem textS {x:S} {st:Hs} (h:x.length ≤ 40):∃ st',F_is_text [.str x] st = .ok (.bl (x.cps.toList.all sgB)) st' ∧ Gr st st':=by
 have ln:oLen [.str x] st = .ok (.int x.length) st:=len_s (by unfold lim; omega)
 have l:(x.length:Int) ≤ 40:=by omega
 have cp:=comp_bs (cs:=[]) (gt:=g_has_text_signs_C1t) (ge:=g_has_text_signs_C1e) (ρ:=[some (.str x)]) (ws:=signsW x) (st:=st) (fun v => match v with | .str z => sgB (z.cps.getD 0 0) | _ => false) (fun _ _ _ => rfl) (fun v hv s => by
  unfold signsW at hv
  obtain ⟨i,hi,rfl⟩:=List.mem_map.mp hv
  have o:oOrd [.str ⟨#[i]⟩] s = .ok (.int (i:Nat)) s:=rfl
  unfold g_has_text_signs_C1e
  simp [o,signG]) (by
   unfold signsW lim
   rw [List.length_map]
   show x.cps.toList.length < _
   rw [Array.length_toList]
   exact Nat.lt_of_le_of_lt (h:x.cps.size ≤ 40) (by decide))
 have al:=all_bs (st:=st ++ [.lst (((signsW x).map (fun v => match v with | .str z => sgB (z.cps.getD 0 0) | _ => false)).map Wv.bl)]) (l:=st.length) lstOf_new
 rw [all_id] at al
 have ea:(signsW x).all (fun v => match v with | .str z => sgB (z.cps.getD 0 0) | _ => false) = x.cps.toList.all sgB:=by
  unfold signsW
  rw [List.all_map]
  rfl
 rw [ea] at al
 have g1:Gr st (st ++ [.lst (((signsW x).map (fun v => match v with | .str z => sgB (z.cps.getD 0 0) | _ => false)).map Wv.bl)]):=Gr.push
 generalize st ++ [.lst (((signsW x).map (fun v => match v with | .str z => sgB (z.cps.getD 0 0) | _ => false)).map Wv.bl)] = s1 at cp al g1
 have ht:F_has_text_signs [.str x] st = .ok (.bl (x.cps.toList.all sgB)) s1:=by
  unfold F_has_text_signs fnF g_has_text_signs
  simp [cp,al]
 refine ⟨s1,?_,g1⟩
 unfold F_is_text fnF g_is_text
 simp [str_is,ln,l,ht]
theorem textI {i:Int} {st:Hs}:F_is_text [.int i] st = .ok (.bl false) st:=by
 unfold F_is_text fnF g_is_text
 simp [int_ns]
theorem abs_i {i:Int} {st:Hs}:oAbs [.int i] st = .ok (.int (if i < 0 then -i else i)) st:=rfl
theorem numberI {i:Int} {st:Hs}:F_is_number [.int i] st = .ok (.bl (decide ((if i < 0 then -i else i) ≤ 10 ^ 60))) st:=by
 have g:F_is_great [.int i] st = .ok (.bl (!decide ((if i < 0 then -i else i) ≤ 10 ^ 60))) st:=by
  unfold F_is_great fnF g_is_great
  rw [← decide_not]
  simp only [Int.not_le]
  simp [abs_i,pow60]
 unfold F_is_number fnF g_is_number
 simp [is_whole,g]
theorem numberS {x:S} {st:Hs}:F_is_number [.str x] st = .ok (.bl false) st:=by
 unfold F_is_number fnF g_is_number
 simp [is_wholeS]
theorem contentI {i:Int} {st:Hs} (h0:0 ≤ i) (h1:i ≤ 1000):F_made_content [.int i] st = .ok (.int i) st:=by
 have n:=numberI (i:=i) (st:=st)
 rw [if_neg (by omega),decide_eq_true (by omega)] at n
 unfold F_made_content fnF g_made_content
 simp [int_nt,textI,n]
def BadC (w:Wv) (x:PySem.Str):Prop:=∀ st:Hs,∃ st',F_made_content [w] st = .err x st' ∧ Gr st st'
theorem bad_int {i:Int} (h:10 ^ 60 < i ∨ i < - 10 ^ 60):BadC (.int i) "BadContent":=fun st => by
 have n:=numberI (i:=i) (st:=st)
 rw [decide_eq_false (by split <;> omega)] at n
 refine ⟨st,?_,Gr.refl⟩
 unfold F_made_content fnF g_made_content
 simp [int_nt,textI,n,lim]
theorem bad_long {x:S} (h:40 < x.length) (h1:x.length ≤ 1000):BadC (.str x) "BadContent":=fun st => by
 refine ⟨st,?_,Gr.refl⟩
 unfold F_made_content fnF g_made_content
 simp [str_nt,textL h h1,numberS,lim]
theorem bad_sign {x:S} (h:x.length ≤ 40) (hs:x.cps.toList.all sgB = false):BadC (.str x) "BadContent":=fun st => by
 obtain ⟨s1,e,g⟩:=textS (x:=x) (st:=st) h
 rw [hs] at e
 refine ⟨s1,?_,g⟩
 unfold F_made_content fnF g_made_content
 simp [str_nt,e,numberS,lim]
theorem ix0 {x:Wv} {ws:List Wv} {st:Hs}:oIx (.tup (x :: ws)) (.int 0) st = .ok x st:=ix_t (L2.atI_nat (j:=0) rfl)
theorem ix1 {x y:Wv} {ws:List Wv} {st:Hs}:oIx (.tup (x :: y :: ws)) (.int 1) st = .ok y st:=ix_t (L2.atI_nat (j:=1) rfl)
theorem whl_e {gt:GT} {gb:GS} {n:Nat} {c:PySem.Str} {ρ ρ':Rho} {st st1 st':Hs} (h:gt ρ st = .ok true st1) (k:gb ρ st1 = .err c ρ' st'):whl gt gb (n + 1) ρ st = .err c ρ' st':=by
 rw [whl,h]
 simp [k]
theorem sl_t {ws us:List Wv} {lo hi:Option Int} {st:Hs} (h:¬ isWh ws.length lo hi) (h2:cutW ws lo hi = us):oSl2 (.tup ws) lo hi st = .ok (.tup us) st:=by
 show (if isWh ws.length lo hi then Re.ok (Wv.tup ws) st else oSl (.tup ws) lo hi st) = _
 rw [if_neg h]
 show (if isWh ws.length lo hi then Re.bad else Re.ok (Wv.tup (cutW ws lo hi)) st) = _
 rw [if_neg h,h2]
theorem num_many {st:Hs}:F_part_many [.str "num"] st = .ok (.int 0) st:=by
 unfold F_part_many fnF g_part_many
 have h:d_PART_COUNTS.lookup ("num":PySem.Str) = some (Wv.int 0):=by kernel_rfl
 simp [kDcIx_s h]
theorem num_piece {j:Int} {st:Hs} (hj:j < 0):F_is_piece [.tup [.str "num",.int j]] st = .ok (.bl false) st:=by
 have h:d_PART_COUNTS.lookup ("num":PySem.Str) = some (Wv.int 0):=by kernel_rfl
 have s1:oSl2 (.tup [.str "num",.int j]) (some 1) (some 1) st = .ok (.tup []) st:=sl_t (by show ¬ isWh 2 (some 1) (some 1); decide +kernel) rfl
 have s2:oSl2 (.tup [.str "num",.int j]) (some 1) none st = .ok (.tup [.int j]) st:=sl_t (by show ¬ isWh 2 (some 1) none; decide +kernel) rfl
 have p1:F_parts_of [.tup [.str "num",.int j]] st = .ok (.tup []) st:=by
  unfold F_parts_of fnF g_parts_of
  simp [ix0,num_many,s1]
 have p2:F_tail_of [.tup [.str "num",.int j]] st = .ok (.tup [.int j]) st:=by
  unfold F_tail_of fnF g_tail_of
  simp [ix0,num_many,s2]
 have q:oEq (.str "num") (.str "num") st = .ok (.bl true) st:=rfl
 have n:¬ (0:Int) ≤ j:=by omega
 have p3:F_is_tail [.str "num",.tup [.int j]] st = .ok (.bl false) st:=by
  unfold F_is_tail fnF g_is_tail
  simp [q,len_t,ix0,is_whole,n]
 unfold F_is_piece fnF g_is_piece
 simp [tup_is,len_t,ix0,str_is,h,p1,p2,p3,num_many]
theorem comp_allG {cs:Caps} {gt:GT} {ge:GE} {ρ:Rho} {k:Nat} {ws:List Wv} {st:Hs} (t:Wv → Bool) (h0:lstOf st k = some ws) (h1:∀ v ∈ ws,∀ s,gt (some v :: capR cs ρ) s = .ok true s)
  (h2:∀ v ∈ ws,∀ s,∃ s',ge (some v :: capR cs ρ) s = .ok (.bl (t v)) s' ∧ Gr s s') (hl:ws.length < lim):∃ st',compRun cs gt ge ρ (some k,ws) st = .ok (.ref st.length) st' ∧ Gr st st' ∧ lstOf st' st.length = some ((ws.map t).map Wv.bl):=by
 obtain ⟨st',us,e,p,g,hu,hE⟩:=compG_map (w:=(some k,ws)) (gt:=fun v => gt (some v :: capR cs ρ)) (ge:=fun v => ge (some v :: capR cs ρ)) (rr:=st.length) (fun v:Wv => v) (fun s => Gr st s) (fun v u => u = .bl (t v))
  (fun s acc h => Gr.keepAt (Nat.le_refl _) h Keep.set) (fun s h => h.lst h0) ws (fun v hv s acc hp hg => by
   obtain ⟨s',e',g'⟩:=h2 v hv s
   exact ⟨s,h1 v hv s,hp,hg,_,s',e',rfl,hp.trans g',g'.get hg⟩) [] (st ++ [.lst []]) Gr.push new_get (by simpa using hl)
 rw [List.map_id'] at e
 have hus:us = (ws.map t).map Wv.bl:=by
  refine List.ext_getElem (by simp [hu]) fun j h1 h2 => ?_
  rw [hE j (by rw [← hu]; exact h1) h1]
  simp
 subst hus
 refine ⟨st',?_,p,?_⟩
 ·unfold compRun
  dsimp only
  rw [e]
 ·rw [lst_get g]
  simp
theorem tru_l {l:Nat} {ws:List Wv} {st:Hs} (h:lstOf st l = some ws):truW (.ref l) st = .ok (!ws.isEmpty) st:=by
 unfold truW
 simp only [h]
theorem bad_num {j:Int} (hj:j < 0):BadC (.tup [.str "num",.int j]) "BadFormula":=fun st => by
 obtain ⟨w,hw⟩:∃ w,Wv.tup [.str "num",.int j] = w:=⟨_,rfl⟩
 have np:∀ s:Hs,F_is_piece [w] s = .ok (.bl false) s:=fun s => by rw [← hw]; exact num_piece hj
 have tp:∀ s:Hs,oIsA tbl tblT [w,.ty "tuple"] s = .ok (.bl true) s:=fun s => by rw [← hw]; rfl
 rw [hw]
 clear hw
 have l1:lstOf (st ++ [.lst [w]]) st.length = some [w]:=lstOf_new
 have g1:Gr st (st ++ [.lst [w]]):=Gr.push
 have e0:gLst (gCons (gVar 0) gNil) [some w,none,none,none] st = .ok (.ref st.length) (st ++ [.lst [w]]):=by simp [lim]
 generalize st ++ [.lst [w]] = s0 at l1 g1 e0
 have ln:=len_l l1
 have tl:=tru_l l1
 obtain ⟨s1,cp',g2,l2⟩:=comp_allG (cs:=[]) (gt:=g_made_formula_C1t) (ge:=g_made_formula_C1e) (ρ:=[some w,some (.ref st.length),some (.int 1),some (.int 1)]) (fun _ => false) l1 (fun _ _ _ => rfl) (fun v hv s => by
  rw [List.mem_singleton.mp hv]
  refine ⟨s,?_,Gr.refl⟩
  unfold g_made_formula_C1e
  simp [np]) (by unfold lim; simp)
 have al':oAll [.ref s0.length] s1 = .ok (.bl false) s1:=all_bs l2
 have a1:gAug (fun i j => i + j) 2 (gCallB oLen (gCons (gVar 1) gNil)) [some w,some (.ref st.length),some (.int 0),some (.int 0)] s0 = .nx [some w,some (.ref st.length),some (.int 1),some (.int 0)] s0:=by
  unfold gAug
  simp [ln,kAug]
 have a2:gAug (fun i j => i + j) 3 (gC (.int 1)) [some w,some (.ref st.length),some (.int 1),some (.int 0)] s0 = .nx [some w,some (.ref st.length),some (.int 1),some (.int 1)] s0:=by
  unfold gAug
  simp [kAug]
 have bd:g_made_formula_L1 [some w,some (.ref st.length),some (.int 0),some (.int 0)] s0 = .err "BadFormula" [some w,some (.ref st.length),some (.int 1),some (.int 1)] s1:=by
  unfold g_made_formula_L1
  simp [a1,a2,seqW_l l1,cp',al',lim]
 have wh:gWhile wTurns (gTru (gVar 1)) g_made_formula_L1 [some w,some (.ref st.length),some (.int 0),some (.int 0)] s0 = .err "BadFormula" [some w,some (.ref st.length),some (.int 1),some (.int 1)] s1:=whl_e (n:=99999) (by simp [tl]) bd
 have mf:F_made_formula [w] st = .err "BadFormula" s1:=by
  refine fn_err (n:=4) (g:=g_made_formula) (ρ:=[some w,some (.ref st.length),some (.int 1),some (.int 1)]) ?_
  unfold g_made_formula
  have e1:(gSet 1 (gLst (gCons (gVar 0) gNil))) ([w].map some ++ List.replicate (4 - [w].length) none) st = .nx [some w,some (.ref st.length),none,none] s0:=by
   show (gLst (gCons (gVar 0) gNil) [some w,none,none,none] st).thn _ _ = _
   rw [e0]
   rfl
  rw [e_seq,e1]
  simp [wh]
 refine ⟨s1,?_,g1.trans g2⟩
 unfold F_made_content fnF g_made_content
 simp [tp,mf]
abbrev Ks:=List (List L2.Key × Wv)
def pw (a b:Int):Wv:=.tup [.int a,.int b]
def kk (a b:Int):List L2.Key:=[.inl a,.inl b]
abbrev Cl:=Int × Int × Option Int
def ow:Option Int → Wv
 | some c => .int c
 | none => .non
def cw (x:Cl):Wv:=.tup [pw x.1 x.2.1,ow x.2.2]
def Cok (x:Cl):Prop:=PlOk x.1 x.2.1 ∧ ∀ c,x.2.2 = some c → 0 ≤ c ∧ c ≤ 1000
def up (kvs:Ks) (x:Cl):Ks:=match x.2.2 with
 | some c => putW kvs (kk x.1 x.2.1) (.int c)
 | none => dropW kvs (kk x.1 x.2.1)
def ups (kvs:Ks) (cs:List Cl):Ks:=cs.foldl up kvs
theorem putW_len {κ:Type} [DecidableEq κ] (kvs:List (κ × Wv)) (k:κ) (v:Wv):(putW kvs k v).length ≤ kvs.length + 1:=by
 unfold putW
 split <;> simp
theorem up_len (kvs:Ks) (x:Cl):(up kvs x).length ≤ kvs.length + 1:=by
 unfold up
 split
 ·exact putW_len _ _ _
 ·exact Nat.le_trans (List.length_filter_le _ _) (by omega)
theorem set_same {st:Hs} {l:Nat} {o:Ob} (h:st[l]? = some o):st.set l o = st:=List.ext_getElem? fun j => by
 by_cases e:l = j
 ·subst e; rw [set_get h,h]
 ·rw [List.getElem?_set_ne e]
theorem putD_T {d:Nat} {kvs:Ks} {a b:Int} {v:Wv} {st:Hs} (h:st[d]? = some (.dcT kvs)) (hl:kvs.length < 1000):putD (.ref d) (.tup [.int a,.int b]) v st = some (st.set d (.dcT (putW kvs (kk a b) v))):=by
 have hk:keyT (.tup [.int a,.int b]) = some (kk a b):=rfl
 unfold putD
 dsimp only
 rw [h]
 dsimp only
 rw [hk]
 dsimp only
 rw [if_pos (by unfold lim; omega)]
theorem valW_no {κ:Type} [DecidableEq κ] {k:κ}:∀ {kvs:List (κ × Wv)},valW kvs k = none → dropW kvs k = kvs
 | [],_ => rfl
 | p :: r,h => by
  unfold valW at h
  by_cases e:p.1 = k
  ·rw [if_pos e] at h; cases h
  ·rw [if_neg e] at h
   unfold dropW
   rw [List.filter_cons,if_pos (by simp [e])]
   exact congrArg (p :: ·) (valW_no h)
theorem popD_T {d:Nat} {kvs:Ks} {a b:Int} {st:Hs} (h:st[d]? = some (.dcT kvs)):∃ w,popD (.ref d) (.tup [.int a,.int b]) .non st = .ok w (st.set d (.dcT (dropW kvs (kk a b)))):=by
 have hk:keyT (.tup [.int a,.int b]) = some (kk a b):=rfl
 unfold popD
 dsimp only
 rw [h,hk]
 dsimp only
 cases e:valW kvs (kk a b) with
 | some w => exact ⟨w,rfl⟩
 | none => exact ⟨.non,by rw [valW_no e,set_same h]⟩
theorem is_i {i:Int} {st:Hs}:oIs (.int i) .non st = .ok (.bl false) st:=rfl
theorem is_n {st:Hs}:oIs .non .non st = .ok (.bl true) st:=rfl
theorem is_r {l:Nat} {st:Hs}:oIs (.ref l) .non st = .ok (.bl false) st:=rfl
theorem put_ok {d:Nat} {kvs:Ks} {x:Cl} {st:Hs} (h:st[d]? = some (.dcT kvs)) (hx:Cok x) (hl:kvs.length < 1000):F_put_content [.ref d,pw x.1 x.2.1,ow x.2.2] st = .ok .non (st.set d (.dcT (up kvs x))):=by
 obtain ⟨a,b,o⟩:=x
 obtain ⟨h1,h2⟩:=hx
 have mp:=fun st:Hs => made_place (st:=st) h1
 unfold F_put_content fnF g_put_content
 cases o with
 | some c =>
  obtain ⟨c0,c1⟩:=h2 c rfl
  have p:=putD_T (a:=a) (b:=b) (v:=.int c) h hl
  simp [pw,ow,ix0,ix1,mp,is_i,gDPut,contentI c0 c1,p,up]
 | none =>
  obtain ⟨w,p⟩:=popD_T (a:=a) (b:=b) h
  have dv:isDv st (.ref d) = true:=by show (isDw st[d]?).isSome = true; rw [h]; rfl
  simp [pw,ow,ix0,ix1,mp,is_n,gPop2,dv,p,up]
def BadE (a b:Int) (w:Wv) (x:PySem.Str):Prop:=∀ (d:Nat) (st:Hs),∃ st',F_put_content [.ref d,pw a b,w] st = .err x st' ∧ Gr st st'
theorem bad_place {a b:Int} {w:Wv} (h:¬ PlOk a b):BadE a b w "BadPlace":=fun d st => ⟨st,by
 unfold F_put_content fnF g_put_content
 simp [pw,ix0,ix1,made_placeN h],Gr.refl⟩
theorem bad_content {a b:Int} {w:Wv} {x:PySem.Str} (h:PlOk a b) (hw:∀ st:Hs,oIs w .non st = .ok (.bl false) st) (hb:BadC w x):BadE a b w x:=fun d st => by
 obtain ⟨s1,e,g⟩:=hb st
 refine ⟨s1,?_,g⟩
 unfold F_put_content fnF g_put_content
 simp [pw,ix0,ix1,made_place h,hw,gDPut,e]
theorem ups_len:∀ (cs:List Cl) (kvs:Ks),(ups kvs cs).length ≤ kvs.length + cs.length
 | [],kvs => Nat.le_refl _
 | x :: r,kvs => by
  have h1:=ups_len r (up kvs x)
  have h2:=up_len kvs x
  show (ups (up kvs x) r).length ≤ kvs.length + (r.length + 1)
  omega
theorem sheet_L1 {L d:Nat} {o2:Option Wv} {v w:Wv} {st:Hs}:g_made_sheet_L1 ([some (.ref L),some (.ref d),o2].set 2 (some (.tup [v,w]))) st = (F_put_content [.ref d,v,w] st).thn [some (.ref L),some (.ref d),some (.tup [v,w])] fun _ s => .nx [some (.ref L),some (.ref d),some (.tup [v,w])] s:=by
 unfold g_made_sheet_L1
 have a0:oIx (.tup [v,w]) (.int 0) st = .ok v st:=ix0
 have a1:oIx (.tup [v,w]) (.int 1) st = .ok w st:=ix1
 cases e:F_put_content [.ref d,v,w] st <;> simp [a0,a1,e]
theorem fill {L d:Nat} {all:List Wv} (hne:L ≠ d):∀ (cs:List Cl) (rest:List Wv) (kvs:Ks) (o2:Option Wv) (st:Hs),(∀ x ∈ cs,Cok x) → st[d]? = some (.dcT kvs) → lstOf st L = some all → kvs.length + cs.length ≤ 900 →
  ∃ o2',forL 2 g_made_sheet_L1 L all (cs.map cw ++ rest) [some (.ref L),some (.ref d),o2] st = forL 2 g_made_sheet_L1 L all rest [some (.ref L),some (.ref d),o2'] (st.set d (.dcT (ups kvs cs)))
 | [],rest,kvs,o2,st,_,h,_,_ => ⟨o2,by rw [show ups kvs [] = kvs from rfl,set_same h]; rfl⟩
 | x :: r,rest,kvs,o2,st,hc,h,hL,hl => by
  have hl':kvs.length + (r.length + 1) ≤ 900:=hl
  have p:=put_ok (d:=d) h (hc x List.mem_cons_self) (by omega)
  have ul:=up_len kvs x
  have h1:=set_get (o':=.dcT (up kvs x)) h
  have hL1:lstOf (st.set d (.dcT (up kvs x))) L = some all:=(Keep.set (l:=d)).lst hL hne
  obtain ⟨o2',e⟩:=fill hne r rest (up kvs x) (some (cw x)) (st.set d (.dcT (up kvs x))) (fun y hy => hc y (List.mem_cons_of_mem _ hy)) h1 hL1 (by omega)
  refine ⟨o2',?_⟩
  rw [List.map_cons,List.cons_append]
  rw [forL]
  rw [show cw x = .tup [pw x.1 x.2.1,ow x.2.2] from rfl,sheet_L1,p]
  simp only [thn_ok,if_pos hL1]
  rw [show (Wv.tup [pw x.1 x.2.1,ow x.2.2]) = cw x from rfl,e,List.set_set]
  rfl
theorem set_new {st:Hs} {o o':Ob}:(st ++ [o]).set st.length o' = st ++ [o']:=by simp
theorem room {d:Nat} {kvs:Ks} {st:Hs} (h:st[d]? = some (.dcT kvs)):F_with_room [.ref d] st = if kvs.length ≤ 200 then .ok (.ref d) st else .err "Full" st:=by
 have ln:oLenD [.ref d] st = .ok (.int kvs.length) st:=by
  show (match isDw st[d]? with | some kvs => Re.ok (Wv.int kvs.length) st | none => oLen [.ref d] st) = _
  rw [h]
  rfl
 unfold F_with_room fnF g_with_room
 by_cases c:kvs.length ≤ 200
 ·have c':¬ (200:Int) < (kvs.length:Nat):=by omega
  rw [if_pos c]
  simp [ln,c']
 ·have c':(200:Int) < (kvs.length:Nat):=by omega
  rw [if_neg c]
  simp [ln,c',lim]
theorem made {L:Nat} {cs:List Cl} {st:Hs} (hL:lstOf st L = some (cs.map cw)) (hc:∀ x ∈ cs,Cok x) (hl:cs.length ≤ 900):F_made_sheet [.ref L] st = if (ups [] cs).length ≤ 200 then .ok (.ref st.length) (st ++ [.dcT (ups [] cs)]) else .err "Full" (st ++ [.dcT (ups [] cs)]):=by
 have lt:=lstOf_lt hL
 have h1:lstOf (st ++ [.dcT []]) L = some (cs.map cw):=lstOf_old hL
 obtain ⟨o2,e⟩:=fill (L:=L) (d:=st.length) (all:=cs.map cw) (by omega) cs [] [] none (st ++ [.dcT []]) hc new_get h1 (by simpa using hl)
 rw [List.append_nil,set_new] at e
 have e':kFor 2 g_made_sheet_L1 [some (.ref L),some (.ref st.length),none] (.ref L) (st ++ [.dcT []]) = .nx [some (.ref L),some (.ref st.length),o2] (st ++ [.dcT (ups [] cs)]):=by rw [kFor_l h1]; exact e
 have rm:=room (d:=st.length) (kvs:=ups [] cs) (st:=st ++ [.dcT (ups [] cs)]) new_get
 unfold F_made_sheet fnF g_made_sheet
 by_cases c:(ups [] cs).length ≤ 200
 ·rw [if_pos c] at rm ⊢
  simp [gNewT,e',rm]
 ·rw [if_neg c] at rm ⊢
  simp [gNewT,e',rm]
theorem made_bad {L:Nat} {cs:List Cl} {a b:Int} {w:Wv} {x:PySem.Str} {rest:List Wv} {st:Hs} (hL:lstOf st L = some (cs.map cw ++ .tup [pw a b,w] :: rest)) (hc:∀ x ∈ cs,Cok x) (hl:cs.length ≤ 900) (hb:BadE a b w x):∃ st',F_made_sheet [.ref L] st = .err x st' ∧ Gr st st':=by
 have lt:=lstOf_lt hL
 have h1:lstOf (st ++ [.dcT []]) L = some (cs.map cw ++ .tup [pw a b,w] :: rest):=lstOf_old hL
 obtain ⟨o2,e⟩:=fill (L:=L) (d:=st.length) (all:=cs.map cw ++ .tup [pw a b,w] :: rest) (by omega) cs (.tup [pw a b,w] :: rest) [] none (st ++ [.dcT []]) hc new_get h1 (by simpa using hl)
 rw [set_new] at e
 obtain ⟨s1,e1,g1⟩:=hb st.length (st ++ [.dcT (ups [] cs)])
 have e':kFor 2 g_made_sheet_L1 [some (.ref L),some (.ref st.length),none] (.ref L) (st ++ [.dcT []]) = .err x [some (.ref L),some (.ref st.length),some (.tup [pw a b,w])] s1:=by
  rw [kFor_l h1,e,forL,sheet_L1,e1]
  rfl
 refine ⟨s1,?_,Gr.push.trans g1⟩
 unfold F_made_sheet fnF g_made_sheet
 simp [gNewT,e']
def chs (cs:List Cl):Ks:=cs.map fun x => (kk x.1 x.2.1,ow x.2.2)
theorem intK_kk {a b:Int}:intK (kk a b) = some [a,b]:=rfl
theorem items_app {a b:Int} {w:Wv}:∀ cs:List Cl,itemsI (chs cs ++ [(kk a b,w)]) = some (cs.map cw ++ [.tup [pw a b,w]])
 | [] => rfl
 | x :: r => by
  show (match intK (kk x.1 x.2.1),itemsI (chs r ++ [(kk a b,w)]) with | some ns,some l => some (Wv.tup [.tup (ns.map Wv.int),ow x.2.2] :: l) | _,_ => none) = _
  rw [items_app r,intK_kk]
  rfl
theorem items_all:∀ cs:List Cl,itemsI (chs cs) = some (cs.map cw)
 | [] => rfl
 | x :: r => by
  show (match intK (kk x.1 x.2.1),itemsI (chs r) with | some ns,some l => some (Wv.tup [.tup (ns.map Wv.int),ow x.2.2] :: l) | _,_ => none) = _
  rw [items_all r,intK_kk]
  rfl
theorem chg_L1 {d e t:Nat} {v w:Wv} {st:Hs}:g_with_changes_L1 [some (.ref d),some (.ref e),some (.ref t),some v,some w] st = (F_put_content [.ref t,v,w] st).thn [some (.ref d),some (.ref e),some (.ref t),some v,some w] fun _ s => .nx [some (.ref d),some (.ref e),some (.ref t),some v,some w] s:=by
 unfold g_with_changes_L1
 cases q:F_put_content [.ref t,v,w] st <;> simp [q]
theorem fillG {d e t:Nat}:∀ (cs:List Cl) (rest:List Wv) (kvs:Ks) (o3 o4:Option Wv) (st:Hs),(∀ x ∈ cs,Cok x) → st[t]? = some (.dcT kvs) → kvs.length + cs.length ≤ 900 →
  ∃ o3' o4',forG2 [3,4] g_with_changes_L1 none (cs.map cw ++ rest) [some (.ref d),some (.ref e),some (.ref t),o3,o4] st = forG2 [3,4] g_with_changes_L1 none rest [some (.ref d),some (.ref e),some (.ref t),o3',o4'] (st.set t (.dcT (ups kvs cs)))
 | [],rest,kvs,o3,o4,st,_,h,_ => ⟨o3,o4,by rw [show ups kvs [] = kvs from rfl,set_same h]; rfl⟩
 | x :: r,rest,kvs,o3,o4,st,hc,h,hl => by
  have hl':kvs.length + (r.length + 1) ≤ 900:=hl
  have p:=put_ok (d:=t) h (hc x List.mem_cons_self) (by omega)
  have ul:=up_len kvs x
  have h1:=set_get (o':=.dcT (up kvs x)) h
  obtain ⟨o3',o4',q⟩:=fillG (d:=d) (e:=e) r rest (up kvs x) (some (pw x.1 x.2.1)) (some (ow x.2.2)) (st.set t (.dcT (up kvs x))) (fun y hy => hc y (List.mem_cons_of_mem _ hy)) h1 (by omega)
  refine ⟨o3',o4',?_⟩
  rw [List.map_cons,List.cons_append,forG2]
  rw [show bdT [3,4] (cw x) [some (.ref d),some (.ref e),some (.ref t),o3,o4] = some [some (.ref d),some (.ref e),some (.ref t),some (pw x.1 x.2.1),some (ow x.2.2)] from rfl]
  dsimp only
  rw [chg_L1,p]
  simp only [thn_ok,if_pos (show ck2 none (st.set t (.dcT (up kvs x))) from trivial)]
  rw [q,List.set_set]
  rfl
theorem dict_ok {d:Nat} {kvs:Ks} {st:Hs} (hd:st[d]? = some (.dcT kvs)) (ne:kvs ≠ []) (hk:hashOk (kvs.map (·.1)) = true):oDict [.ref d] st = .ok (.ref st.length) (st ++ [.dcT kvs]):=by
 unfold oDict
 dsimp only
 rw [hd]
 show (if kvs.isEmpty = false ∧ hashOk (kvs.map (·.1)) = true then Re.ok (Wv.ref st.length) (st ++ [.dcT kvs]) else .bad) = _
 rw [if_pos ⟨by cases kvs with | nil => exact absurd rfl ne | cons _ _ => rfl,hk⟩]
theorem thaw_at {d e t:Nat} {es:Ks} {ws:List Wv} {gb:GS} {s:Hs} (he:s[e]? = some (.dcT es)) (hi:itemsI es = some ws) :
  gThaw 1 (gForG [3,4] (giItems (gVar 1)) gb) [some (.ref d),some (.ref e),some (.ref t),none,none] s = (match forG2 [3,4] gb none ws [some (.ref d),some (.ref e),some (.ref t),none,none] (s.set e (.dcF es)) with | .nx ρ' st' => .nx ρ' (thawW e st') | r => r):=by
 have i1:itemsW (.ref e) s = .ok (none,ws) (s.set e (.dcF es)):=by
  show (match s[e]? with
   | some (.dcT kvs) => (match itemsI kvs with | some ws => Re.ok ((none,ws):Wk2) (s.set e (.dcF kvs)) | none => .bad)
   | some (.dcF kvs) => (match itemsI kvs with | some ws => .ok (none,ws) s | none => .bad)
   | _ => .bad) = _
  rw [he]
  dsimp only
  rw [hi]
 have g1:giItems (gVar 1) [some (.ref d),some (.ref e),some (.ref t),none,none] s = .ok (none,ws) (s.set e (.dcF es)):=by
  unfold giItems
  simp [i1]
 have o1:openD ([some (Wv.ref d),some (.ref e),some (.ref t),none,none]:Rho)[1]? s = some e:=by
  show (match s[e]? with | some (.dcT _) => some e | _ => none) = _
  rw [he]
 unfold gThaw
 rw [o1]
 dsimp only
 unfold gForG
 rw [g1]
 rfl
theorem changed {d e:Nat} {kvs:Ks} {cs:List Cl} {st:Hs} (hd:st[d]? = some (.dcT kvs)) (he:st[e]? = some (.dcT (chs cs))) (ne:kvs ≠ []) (hk:hashOk (kvs.map (·.1)) = true) (hc:∀ x ∈ cs,Cok x) (hl:kvs.length + cs.length ≤ 900) :
  ∃ st',F_with_changes [.ref d,.ref e] st = .ok (.ref st.length) st' ∧ Gr st st' ∧ st'[st.length]? = some (.dcT (ups kvs cs)):=by
 have lt:=get_lt he
 have en:e ≠ st.length:=by omega
 have dc:=dict_ok hd ne hk
 have he1:(st ++ [.dcT kvs])[e]? = some (.dcT (chs cs)):=push_get he
 have ht1:(st ++ [.dcT kvs])[st.length]? = some (.dcT kvs):=new_get
 have g1:Gr st (st ++ [.dcT kvs]):=Gr.push
 generalize st ++ [.dcT kvs] = s1 at dc he1 ht1 g1
 have th:=thaw_at (d:=d) (t:=st.length) (gb:=g_with_changes_L1) he1 (items_all cs)
 have ht2:(s1.set e (.dcF (chs cs)))[st.length]? = some (.dcT kvs):=by rw [List.getElem?_set_ne en]; exact ht1
 obtain ⟨o3,o4,f⟩:=fillG (d:=d) (e:=e) (t:=st.length) cs [] kvs none none _ hc ht2 hl
 rw [List.append_nil] at f
 rw [f] at th
 dsimp only [forG2] at th
 have fz:((s1.set e (.dcF (chs cs))).set st.length (.dcT (ups kvs cs)))[e]? = some (.dcF (chs cs)):=by rw [List.getElem?_set_ne (Ne.symm en)]; exact set_get he1
 have tw:thawW e ((s1.set e (.dcF (chs cs))).set st.length (.dcT (ups kvs cs))) = ((s1.set e (.dcF (chs cs))).set st.length (.dcT (ups kvs cs))).set e (.dcT (chs cs)):=by unfold thawW; rw [fz]
 rw [tw] at th
 refine ⟨((s1.set e (.dcF (chs cs))).set st.length (.dcT (ups kvs cs))).set e (.dcT (chs cs)),?_,⟨by simpa using g1.1,fun j hj => ?_⟩,?_⟩
 rotate_left
 ·by_cases q:j = e
  ·subst q
   rw [set_get fz,he]
  ·rw [List.getElem?_set_ne (fun z => q z.symm),List.getElem?_set_ne (by omega),List.getElem?_set_ne (fun z => q z.symm)]
   exact g1.2 j hj
 ·rw [List.getElem?_set_ne en]
  exact set_get ht2
 ·unfold F_with_changes fnF g_with_changes
  simp [dc,th]
theorem changed_bad {d e:Nat} {kvs:Ks} {cs:List Cl} {a b:Int} {w:Wv} {x:PySem.Str} {st:Hs} (hd:st[d]? = some (.dcT kvs)) (he:st[e]? = some (.dcT (chs cs ++ [(kk a b,w)]))) (ne:kvs ≠ []) (hk:hashOk (kvs.map (·.1)) = true) (hc:∀ x ∈ cs,Cok x) (hl:kvs.length + cs.length ≤ 900) (hb:BadE a b w x) :
  ∃ st',F_with_changes [.ref d,.ref e] st = .err x st' ∧ Keep e st st':=by
 have lt:=get_lt he
 have en:e ≠ st.length:=by omega
 have dc:=dict_ok hd ne hk
 have he1:(st ++ [.dcT kvs])[e]? = some (.dcT (chs cs ++ [(kk a b,w)])):=push_get he
 have ht1:(st ++ [.dcT kvs])[st.length]? = some (.dcT kvs):=new_get
 have g1:Gr st (st ++ [.dcT kvs]):=Gr.push
 generalize st ++ [.dcT kvs] = s1 at dc he1 ht1 g1
 have th:=thaw_at (d:=d) (t:=st.length) (gb:=g_with_changes_L1) he1 (items_app cs)
 have ht2:(s1.set e (.dcF (chs cs ++ [(kk a b,w)])))[st.length]? = some (.dcT kvs):=by rw [List.getElem?_set_ne en]; exact ht1
 obtain ⟨o3,o4,f⟩:=fillG (d:=d) (e:=e) (t:=st.length) cs [.tup [pw a b,w]] kvs none none _ hc ht2 hl
 rw [f] at th
 obtain ⟨s2,e2,g2⟩:=hb st.length ((s1.set e (.dcF (chs cs ++ [(kk a b,w)]))).set st.length (.dcT (ups kvs cs)))
 have el:forG2 [3,4] g_with_changes_L1 none [.tup [pw a b,w]] [some (.ref d),some (.ref e),some (.ref st.length),o3,o4] ((s1.set e (.dcF (chs cs ++ [(kk a b,w)]))).set st.length (.dcT (ups kvs cs))) = .err x [some (.ref d),some (.ref e),some (.ref st.length),some (pw a b),some w] s2:=by
  rw [forG2]
  rw [show bdT [3,4] (.tup [pw a b,w]) [some (.ref d),some (.ref e),some (.ref st.length),o3,o4] = some [some (.ref d),some (.ref e),some (.ref st.length),some (pw a b),some w] from rfl]
  dsimp only
  rw [chg_L1,e2]
  rfl
 rw [el] at th
 refine ⟨s2,?_,?_⟩
 ·unfold F_with_changes fnF g_with_changes
  simp [dc,th]
 ·have k2:Keep e st ((s1.set e (.dcF (chs cs ++ [(kk a b,w)]))).set st.length (.dcT (ups kvs cs))):=⟨by simpa using g1.1,fun j hj q => by
   rw [List.getElem?_set_ne (by omega),List.getElem?_set_ne (fun z => q z.symm)]
   exact g1.2 j hj⟩
  exact k2.trans g2.keep
theorem isa_c {c d:S} {b:Bool} {st:Hs} (h:tbl.lookup (c,d) = some b):oIsA tbl tblT [.exn c,.cls d] st = .ok (.bl b) st:=by
 show (match tbl.lookup (c,d) with | some b => Re.ok (Wv.bl b) st | none => .bad) = _
 rw [h]
theorem isa_ty {c:S} {T:String} {b:Bool} {st:Hs} (h:tblT.lookup (c,T) = some b):oIsA tbl tblT [.exn c,.ty T] st = .ok (.bl b) st:=by
 show (match tblT.lookup (c,T) with | some b => Re.ok (Wv.bl b) st | none => .bad) = _
 rw [h]
def Sup (x wd:PySem.Str):Prop:=tblC.lookup (x,("SheetError":PySem.Str)) = some true ∧ ∀ (c ch:Wv) (s:Hs),∃ (o:Option Wv) (s':Hs),g__law_word_U1 [some c,some ch,some (.str "made"),some (.exn x),none] s = .nx [some c,some ch,some (.str wd),some (.exn x),o] s' ∧ Gr s s'
theorem sup_of {x wd:PySem.Str} {b0 b1 b2 b3:Bool} {i:Int} (tc:tblC.lookup (x,("SheetError":PySem.Str)) = some true) (k0:tbl.lookup (x,("BadPlace":PySem.Str)) = some b0) (k1:tbl.lookup (x,("BadContent":PySem.Str)) = some b1) (k2:tbl.lookup (x,("BadFormula":PySem.Str)) = some b2) (k3:tbl.lookup (x,("Full":PySem.Str)) = some b3)
  (k4:tblT.lookup (x,"ValueError") = some true) (cn:∀ (s:Hs) (l:Nat),lstOf s l = some [.bl b0,.bl b1,.bl b2,.bl b3] → mLCount (.ref l) (.bl true) s = .ok (.int 1) s) (ci:∀ (s:Hs) (l:Nat),lstOf s l = some [.bl b0,.bl b1,.bl b2,.bl b3] → mLIndex (.ref l) (.bl true) s = .ok (.int i) s)
  (ix:L2.atI [Wv.str "place",.str "content",.str "formula",.str "full"] i = some (.str wd)):Sup x wd:=by
 refine ⟨tc,fun c ch s => ?_⟩
 have l1:lstOf (s ++ [.lst [.bl b0,.bl b1,.bl b2,.bl b3]]) s.length = some [.bl b0,.bl b1,.bl b2,.bl b3]:=lstOf_new
 have g1:Gr s (s ++ [.lst [.bl b0,.bl b1,.bl b2,.bl b3]]):=Gr.push
 have e1:kLst [.bl b0,.bl b1,.bl b2,.bl b3] s = .ok (.ref s.length) (s ++ [.lst [.bl b0,.bl b1,.bl b2,.bl b3]]):=kLst_d (by show 4 ≤ lim; unfold lim; omega)
 generalize s ++ [.lst [.bl b0,.bl b1,.bl b2,.bl b3]] = s1 at l1 g1 e1
 have l2:lstOf (s1 ++ [.lst [.str "place",.str "content",.str "formula",.str "full"]]) s1.length = some [.str "place",.str "content",.str "formula",.str "full"]:=lstOf_new
 have g2:Gr s1 (s1 ++ [.lst [.str "place",.str "content",.str "formula",.str "full"]]):=Gr.push
 have e2:kLst [.str "place",.str "content",.str "formula",.str "full"] s1 = .ok (.ref s1.length) (s1 ++ [.lst [.str "place",.str "content",.str "formula",.str "full"]]):=kLst_d (by show 4 ≤ lim; unfold lim; omega)
 generalize s1 ++ [.lst [.str "place",.str "content",.str "formula",.str "full"]] = s2 at l2 g2 e2
 have l1':=g2.lst l1
 have a1:gAlt (gMethS mCount (gVar 4) (gCons (gC (.bl true)) gNil)) (gMeth mLCount (gVar 4) (gC (.bl true))) [some c,some ch,some (.str "odd"),some (.exn x),some (.ref s.length)] s1 = .ok (.int 1) s1:=by
  rw [e_alt2 rfl]
  have km:=kMeth_l (mt:=mLCount) (ga:=gC (.bl true)) (ρ:=[some c,some ch,some (.str "odd"),some (.exn x),some (.ref s.length)]) l1
  simp [km,cn _ _ l1]
 have a2:gAlt (gMethS mIndex (gVar 4) (gCons (gC (.bl true)) gNil)) (gMeth mLIndex (gVar 4) (gC (.bl true))) [some c,some ch,some (.str "odd"),some (.exn x),some (.ref s.length)] s2 = .ok (.int i) s2:=by
  rw [e_alt2 rfl]
  have km:=kMeth_l (mt:=mLIndex) (ga:=gC (.bl true)) (ρ:=[some c,some ch,some (.str "odd"),some (.exn x),some (.ref s.length)]) l1'
  simp [km,ci _ _ l1']
 refine ⟨some (.ref s.length),s2,?_,g1.trans g2⟩
 unfold g__law_word_U1
 simp [isa_c k0,isa_c k1,isa_c k2,isa_c k3,isa_ty k4,e1,e2,a1,a2,ix_l l2 ix]
theorem sup_place:Sup "BadPlace" "place":=sup_of (b0:=true) (b1:=false) (b2:=false) (b3:=false) (by decide +kernel) (by decide +kernel) (by decide +kernel) (by decide +kernel) (by decide +kernel) (by decide +kernel) (fun s l h => by unfold mLCount; simp only [h]; rfl) (fun s l h => by unfold mLIndex; simp only [h]; rfl) (i:=0) rfl
theorem sup_content:Sup "BadContent" "content":=sup_of (b0:=false) (b1:=true) (b2:=false) (b3:=false) (by decide +kernel) (by decide +kernel) (by decide +kernel) (by decide +kernel) (by decide +kernel) (by decide +kernel) (fun s l h => by unfold mLCount; simp only [h]; rfl) (fun s l h => by unfold mLIndex; simp only [h]; rfl) (i:=1) rfl
theorem sup_formula:Sup "BadFormula" "formula":=sup_of (b0:=false) (b1:=false) (b2:=true) (b3:=false) (by decide +kernel) (by decide +kernel) (by decide +kernel) (by decide +kernel) (by decide +kernel) (by decide +kernel) (fun s l h => by unfold mLCount; simp only [h]; rfl) (fun s l h => by unfold mLIndex; simp only [h]; rfl) (i:=2) rfl
theorem sup_full:Sup "Full" "full":=sup_of (b0:=false) (b1:=false) (b2:=false) (b3:=true) (by decide +kernel) (by decide +kernel) (by decide +kernel) (by decide +kernel) (by decide +kernel) (by decide +kernel) (fun s l h => by unfold mLCount; simp only [h]; rfl) (fun s l h => by unfold mLIndex; simp only [h]; rfl) (i:=3) rfl
theorem lens {d:Nat} {kvs:Ks} {st:Hs} (h:st[d]? = some (.dcT kvs)) (c:kvs.length ≤ 200):F_with_room [.ref d] st = .ok (.ref d) st:=by rw [room h,if_pos c]
theorem lensF {d:Nat} {kvs:Ks} {st:Hs} (h:st[d]? = some (.dcT kvs)) (c:¬ kvs.length ≤ 200):F_with_room [.ref d] st = .err "Full" st:=by rw [room h,if_neg c]
theorem word_ok {L:Nat} {st:Hs} {v:Wv} {s:Hs} (h:F_made_sheet [.ref L] st = .ok v s):F__law_word [.ref L,.non] st = .ok (.str "made") s:=by
 refine fn_rt (n:=5) (g:=g__law_word) ?_
 have bd:g__law_word_B1 [some (.ref L),some .non,some (.str "made"),none,none] st = .nx [some (.ref L),some .non,some (.str "made"),none,none] s:=by
  unfold g__law_word_B1
  simp [is_n,h]
 unfold g__law_word
 simp [bd]
theorem word_err {L:Nat} {st:Hs} {x wd:PySem.Str} {s:Hs} (h:F_made_sheet [.ref L] st = .err x s) (hs:Sup x wd):∃ s',F__law_word [.ref L,.non] st = .ok (.str wd) s' ∧ Gr s s':=by
 obtain ⟨o,s',su,g⟩:=hs.2 (.ref L) .non s
 have bd:g__law_word_B1 [some (.ref L),some .non,some (.str "made"),none,none] st = .err x [some (.ref L),some .non,some (.str "made"),none,none] s:=by
  unfold g__law_word_B1
  simp [is_n,h]
 have tr:=kTry_err (cat:=fun y => tblC.lookup (y,("SheetError":PySem.Str))) (i:=3) (gs:=g__law_word_U1) (ρ:=[some (.ref L),some .non,some (.str "made"),none,none]) (st:=s) hs.1 su
 refine ⟨s',fn_rt (n:=5) (g:=g__law_word) ?_,g⟩
 unfold g__law_word
 simp [bd,tr]
theorem cells_ok {d e:Nat} {st s s':Hs} {v u:Wv} (h:F_with_changes [.ref d,.ref e] st = .ok v s) (h2:F_with_room [v] s = .ok u s'):F_with_cells [.ref d,.ref e] st = .ok u s':=by
 unfold F_with_cells fnF g_with_cells
 simp [h,h2]
theorem cells_e1 {d e:Nat} {st s:Hs} {x:PySem.Str} (h:F_with_changes [.ref d,.ref e] st = .err x s):F_with_cells [.ref d,.ref e] st = .err x s:=by
 unfold F_with_cells fnF g_with_cells
 simp [h]
theorem cells_e2 {d e:Nat} {st s s':Hs} {v:Wv} {x:PySem.Str} (h:F_with_changes [.ref d,.ref e] st = .ok v s) (h2:F_with_room [v] s = .err x s'):F_with_cells [.ref d,.ref e] st = .err x s':=by
 unfold F_with_cells fnF g_with_cells
 simp [h,h2]
theorem wordC_ok {L e d:Nat} {st s s':Hs} {v:Wv} (h:F_made_sheet [.ref L] st = .ok (.ref d) s) (h2:F_with_cells [.ref d,.ref e] s = .ok v s'):F__law_word [.ref L,.ref e] st = .ok (.str "made") s':=by
 refine fn_rt (n:=5) (g:=g__law_word) ?_
 have bd:g__law_word_B1 [some (.ref L),some (.ref e),some (.str "made"),none,none] st = .nx [some (.ref L),some (.ref e),some (.str "made"),none,none] s':=by
  unfold g__law_word_B1
  simp [is_r,h,h2]
 unfold g__law_word
 simp [bd]
theorem wordC_err {L e d:Nat} {st s s':Hs} {x wd:PySem.Str} (h:F_made_sheet [.ref L] st = .ok (.ref d) s) (h2:F_with_cells [.ref d,.ref e] s = .err x s') (hs:Sup x wd):∃ s2,F__law_word [.ref L,.ref e] st = .ok (.str wd) s2 ∧ Gr s' s2:=by
 obtain ⟨o,s2,su,g⟩:=hs.2 (.ref L) (.ref e) s'
 have bd:g__law_word_B1 [some (.ref L),some (.ref e),some (.str "made"),none,none] st = .err x [some (.ref L),some (.ref e),some (.str "made"),none,none] s':=by
  unfold g__law_word_B1
  simp [is_r,h,h2]
 have tr:=kTry_err (cat:=fun y => tblC.lookup (y,("SheetError":PySem.Str))) (i:=3) (gs:=g__law_word_U1) (ρ:=[some (.ref L),some (.ref e),some (.str "made"),none,none]) (st:=s') hs.1 su
 refine ⟨s2,fn_rt (n:=5) (g:=g__law_word) ?_,g⟩
 unfold g__law_word
 simp [bd,tr]
def ce (s k:Nat):Cl:=(((k * s / 26:Nat):Int),((k * s % 26:Nat):Int),some (k:Int))
def ces (s n:Nat):List Cl:=(List.range n).map (ce s)
theorem ces_len {s n:Nat}:(ces s n).length = n:=by unfold ces; simp
theorem ces_succ {s n:Nat}:ces s (n + 1) = ces s n ++ [ce s n]:=by unfold ces; rw [List.range_succ,List.map_append]; rfl
theorem kk_inj {a b c d:Int} (h:kk a b = kk c d):a = c ∧ b = d:=by
 unfold kk at h
 injection h with h1 h2
 injection h2 with h2
 injection h1 with h1
 injection h2 with h2
 exact ⟨h1,h2⟩
theorem ce_inj {s j k:Nat} (hs:0 < s) (h:kk (ce s j).1 (ce s j).2.1 = kk (ce s k).1 (ce s k).2.1):j = k:=by
 obtain ⟨h1,h2⟩:=kk_inj h
 have h1:((j * s / 26:Nat):Int) = ((k * s / 26:Nat):Int):=h1
 have h2:((j * s % 26:Nat):Int) = ((k * s % 26:Nat):Int):=h2
 have e:j * s = k * s:=by omega
 exact Nat.eq_of_mul_eq_mul_right hs e
theorem ce_ok {s k:Nat} (hk:k ≤ 1000) (h:k * s < 2548):Cok (ce s k):=by
 refine ⟨⟨?_,?_,?_,?_⟩,fun c hc => ?_⟩
 ·show (0:Int) ≤ ((k * s / 26:Nat):Int); omega
 ·show ((k * s / 26:Nat):Int) < 99; omega
 ·show (0:Int) ≤ ((k * s % 26:Nat):Int); omega
 ·show ((k * s % 26:Nat):Int) < 26; omega
 ·cases hc; omega
theorem put_new {κ:Type} [DecidableEq κ] {kvs:List (κ × Wv)} {k:κ} {v:Wv} (h:k ∉ kvs.map (·.1)):putW kvs k v = kvs ++ [(k,v)]:=by
 unfold putW
 rw [if_neg]
 intro q
 obtain ⟨p,hp,e⟩:=List.any_eq_true.mp q
 exact h (List.mem_map.mpr ⟨p,hp,of_decide_eq_true e⟩)
theorem ups_app (kvs:Ks) (xs ys:List Cl):ups kvs (xs ++ ys) = ups (ups kvs xs) ys:=by unfold ups; rw [List.foldl_append]
theorem keys_ces {s n:Nat}:(chs (ces s n)).map (·.1) = (List.range n).map fun k => kk (ce s k).1 (ce s k).2.1:=by
 unfold chs ces
 rw [List.map_map,List.map_map]
 rfl
theorem ups_ces {s:Nat} (hs:0 < s):∀ n:Nat,ups [] (ces s n) = chs (ces s n)
 | 0 => rfl
 | n + 1 => by
  rw [ces_succ,ups_app,ups_ces hs n]
  show putW (chs (ces s n)) (kk (ce s n).1 (ce s n).2.1) (.int (n:Nat)) = _
  rw [put_new]
  ·unfold chs
   rw [List.map_append]
   rfl
  ·rw [keys_ces]
   intro q
   obtain ⟨j,hj,e⟩:=List.mem_map.mp q
   have:=ce_inj hs e
   rw [List.mem_range] at hj
   omega
theorem far_new {s n:Nat} {b:Int} (h:∀ k,k < n → k * s < 2548):kk 98 b ∉ (chs (ces s n)).map (·.1):=by
 rw [keys_ces]
 intro q
 obtain ⟨j,hj,e⟩:=List.mem_map.mp q
 have h1:((j * s / 26:Nat):Int) = 98:=(kk_inj e).1
 have:=h j (List.mem_range.mp hj)
 omega
theorem keysN_ces {s:Nat}:∀ l:List Nat,keysN (l.map fun k => kk (ce s k).1 (ce s k).2.1) = some (l.map fun k => [((k * s / 26:Nat):Int),((k * s % 26:Nat):Int)])
 | [] => rfl
 | k :: r => by
  rw [List.map_cons,List.map_cons]
  unfold keysN
  rw [keysN_ces r]
  rfl
def hs (s k:Nat):Int:=hashT [((k * s / 26:Nat):Int),((k * s % 26:Nat):Int)]
theorem nd1:((List.range 200).map (hs 1)).Nodup:=by decide +kernel
theorem nd5:((List.range 200).map (hs 5)).Nodup:=by decide +kernel
theorem nd7:((List.range 200).map (hs 7)).Nodup:=by decide +kernel
theorem nd11:((List.range 200).map (hs 11)).Nodup:=by decide +kernel
def Stp (s:Nat):Prop:=s = 1 ∨ s = 5 ∨ s = 7 ∨ s = 11
theorem hash_ces {s n:Nat} (h:Stp s) (hn:n ≤ 200):hashOk ((chs (ces s n)).map (·.1)) = true:=by
 have nd:((List.range 200).map (hs s)).Nodup:=by
  rcases h with rfl | rfl | rfl | rfl
  ·exact nd1
  ·exact nd5
  ·exact nd7
  ·exact nd11
 unfold hashOk
 rw [keys_ces,keysN_ces]
 refine decide_eq_true ?_
 rw [List.map_map]
 have sub:(List.range n).Sublist (List.range 200):=by
  have e:List.range n = (List.range 200).take n:=by rw [List.take_range,Nat.min_eq_left hn]
  rw [e]
  exact List.take_sublist _ _
 exact nd.sublist (sub.map _)
theorem chs_len {cs:List Cl}:(chs cs).length = cs.length:=by unfold chs; simp
theorem one_more {s n:Nat} (h:∀ k,k < n → k * s < 2548):(ups (chs (ces s n)) [(98,24,some 7)]).length = n + 1:=by
 show (putW (chs (ces s n)) (kk 98 24) (.int 7)).length = _
 rw [put_new (far_new h),List.length_append,chs_len,ces_len]
 rfl
theorem drop_lt {κ:Type} [DecidableEq κ] {kvs:List (κ × Wv)} {k:κ} (h:k ∈ kvs.map (·.1)):(dropW kvs k).length < kvs.length:=by
 obtain ⟨p,hp,e⟩:=List.mem_map.mp h
 unfold dropW
 exact List.length_filter_lt_length_iff_exists.mpr ⟨p,hp,by simp [e]⟩
theorem one_less {s n:Nat} (h:∀ k,k < n → k * s < 2548) (h0:0 < n):(ups (chs (ces s n)) [(98,24,some 7),(0,0,none)]).length ≤ n:=by
 show (dropW (putW (chs (ces s n)) (kk 98 24) (.int 7)) (kk 0 0)).length ≤ _
 rw [put_new (far_new h)]
 have m:kk 0 0 ∈ (chs (ces s n) ++ [(kk 98 24,Wv.int 7)]).map (·.1):=by
  rw [List.map_append,keys_ces]
  refine List.mem_append_left _ (List.mem_map.mpr ⟨0,List.mem_range.mpr h0,?_⟩)
  unfold ce
  simp
 have:=drop_lt m
 rw [List.length_append,chs_len,ces_len] at this
 have e:[(kk 98 24,Wv.int 7)].length = 1:=rfl
 omega
theorem none_more {s n:Nat}:(ups (chs (ces s n)) [(98,24,none)]).length ≤ n:=by
 show (dropW (chs (ces s n)) (kk 98 24)).length ≤ _
 have:=List.length_filter_le (fun kv:List L2.Key × Wv => decide (kv.1 ≠ kk 98 24)) (chs (ces s n))
 rw [chs_len,ces_len] at this
 exact this
theorem int_b {b:Bool} {st:Hs}:oInt2 [.bl b] st = .ok (.int (if b = true then 1 else 0)) st:=rfl
theorem digB {r:Nat} {st:Hs} {m:Int} (h:Ro r st) (h0:0 < m) (hl:m.natAbs.log2 < 9000):∃ d st',F__law_digit [.ref r,.int m] st = .ok (.int d) st' ∧ 0 ≤ d ∧ d < m ∧ Dw r st st':=by
 obtain ⟨v,e⟩:=h
 exact ⟨_,_,digit e ⟨by omega,hl⟩,Int.fmod_nonneg_of_pos _ h0,Int.fmod_lt_of_pos _ h0,Keep.set,_,set_get e⟩
theorem pow59 {st:Hs}:oPow (.int 10) (.int 59) st = .ok (.int (10 ^ 59)) st:=pow_i (by decide)
theorem a41 {st:Hs}:oMulL (.str "a") (.int 41) st = .ok (.str (repS 41 "a")) st:=by
 have c:CMulS "a" 41:=by decide +kernel
 show (if (41:Int) = 0 ∨ (41:Int) = 1 then Re.ok (Wv.str (if (41:Int) = 0 then PySem.Str.empty else "a")) st else oMulS (.str "a") (.int 41) st) = _
 rw [if_neg (by decide)]
 show (if CMulS "a" 41 then Re.ok (Wv.str (repS (41:Int).toNat "a")) st else .bad) = _
 rw [if_pos c]
 rfl
theorem bads {r:Nat} {st:Hs} (h:Ro r st):∃ (a b:Int) (w:Wv) (wd x:PySem.Str) (st':Hs),F__law_bad [.ref r] st = .ok (.tup [pw a b,w,.str wd]) st' ∧ BadE a b w x ∧ Sup x wd ∧ Dw r st st':=by
 have hr:r < st.length:=let ⟨v,e⟩:=h; get_lt e
 obtain ⟨P,hP⟩:∃ P:Int,10 ^ 59 = P:=⟨_,rfl⟩
 obtain ⟨Q,hQ⟩:∃ Q:Int,10 ^ 60 = Q:=⟨_,rfl⟩
 have p59:∀ st:Hs,oPow (.int 10) (.int 59) st = .ok (.int P) st:=fun st => by rw [← hP]; exact pow59
 have p60:∀ st:Hs,oPow (.int 10) (.int 60) st = .ok (.int Q) st:=fun st => by rw [← hQ]; exact pow60
 obtain ⟨far,s1,e1,f0,f1,d1⟩:=digB (m:=P) h (by rw [← hP]; decide) (by rw [← hP]; decide +kernel)
 obtain ⟨way,s2,e2,w0,w1,d2⟩:=dig (m:=11) d1.2 (by decide) (by decide)
 have d12:=d1.trans d2
 have ln2:=d12.1.1
 obtain ⟨Ps,hPs⟩:∃ Ps:List Wv,[pw (-1 - far) 3,pw (99 + far) 3,pw 4 (26 + far),pw 4 (-1 - far)] = Ps:=⟨_,rfl⟩
 have kp:kLst [.tup [.int (-1 - far),.int 3],.tup [.int (99 + far),.int 3],.tup [.int 4,.int (26 + far)],.tup [.int 4,.int (-1 - far)]] s2 = .ok (.ref s2.length) (s2 ++ [.lst Ps]):=by
  rw [← hPs]
  exact kLst_d (by show 4 ≤ lim; unfold lim; omega)
 have l3:lstOf (s2 ++ [.lst Ps]) s2.length = some Ps:=lstOf_new
 have d3:Dw r s2 (s2 ++ [.lst Ps]):=⟨Gr.push.keep,d12.2.push⟩
 generalize s2 ++ [.lst Ps] = s3 at kp l3 d3
 have d13:=d12.trans d3
 by_cases c:way < 4
 ·have pl:∃ a b,L2.atI Ps way = some (pw a b) ∧ ¬ PlOk a b:=by
   rw [← hPs]
   have:way = 0 ∨ way = 1 ∨ way = 2 ∨ way = 3:=by omega
   rcases this with rfl | rfl | rfl | rfl
   ·exact ⟨-1 - far,3,rfl,fun q => by have:=q.1; omega⟩
   ·exact ⟨99 + far,3,rfl,fun q => by have:=q.2.1; omega⟩
   ·exact ⟨4,26 + far,rfl,fun q => by have:=q.2.2.2; omega⟩
   ·exact ⟨4,-1 - far,rfl,fun q => by have:=q.2.2.1; omega⟩
  obtain ⟨a,b,pa,pn⟩:=pl
  refine ⟨a,b,.int 5,"place","BadPlace",s3,?_,bad_place pn,sup_place,d13⟩
  unfold F__law_bad fnF g__law_bad
  simp [p59,e1,e2,kp,c,ix_l l3 pa]
 ·obtain ⟨Cs,hCs⟩:∃ Cs:List Wv,[Wv.int (Q + 1 + far),.int (-1 - far - Q),.str (repS 41 "a"),.str "a\"b",.str "a\n", .str "\n", .tup [.str "num",.int (-1 - far)]] = Cs:=⟨_,rfl⟩
  have kc:kLst [.int (Q + 1 + far),.int (-1 - far - Q),.str (repS 41 "a"),.str "a\"b",.str "a\n", .str "\n", .tup [.str "num",.int (-1 - far)]] s3 = .ok (.ref s3.length) (s3 ++ [.lst Cs]):=by
   rw [← hCs]
   exact kLst_d (by show 7 ≤ lim; unfold lim; omega)
  have l4:lstOf (s3 ++ [.lst Cs]) s3.length = some Cs:=lstOf_new
  have d4:Dw r s3 (s3 ++ [.lst Cs]):=⟨Gr.push.keep,d13.2.push⟩
  generalize s3 ++ [.lst Cs] = s4 at kc l4 d4
  have d14:=d13.trans d4
  obtain ⟨a,s5,e5,a0,a1,d5⟩:=dig (m:=99) d14.2 (by decide) (by decide)
  obtain ⟨b,s6,e6,b0,b1,d6⟩:=dig (m:=26) d5.2 (by decide) (by decide)
  have d56:=d5.trans d6
  have l6:lstOf s6 s3.length = some Cs:=d56.1.lst l4 (by have:=d13.1.1; omega)
  have pk:PlOk a b:=⟨a0,a1,b0,b1⟩
  have bd:∃ (w:Wv) (wd x:PySem.Str),L2.atI Cs (way - 4) = some w ∧ BadE a b w x ∧ Sup x wd ∧ wd = (if way = 10 then "formula" else "content"):=by
   rw [← hCs]
   have:way = 4 ∨ way = 5 ∨ way = 6 ∨ way = 7 ∨ way = 8 ∨ way = 9 ∨ way = 10:=by omega
   rcases this with rfl | rfl | rfl | rfl | rfl | rfl | rfl
   ·exact ⟨_,_,_,rfl,bad_content pk (fun _ => rfl) (bad_int (.inl (by omega))),sup_content,rfl⟩
   ·exact ⟨_,_,_,rfl,bad_content pk (fun _ => rfl) (bad_int (.inr (by omega))),sup_content,rfl⟩
   ·exact ⟨_,_,_,rfl,bad_content pk (fun _ => rfl) (bad_long (by decide +kernel) (by decide +kernel)),sup_content,rfl⟩
   ·exact ⟨_,_,_,rfl,bad_content pk (fun _ => rfl) (bad_sign (by decide +kernel) (by decide +kernel)),sup_content,rfl⟩
   ·exact ⟨_,_,_,rfl,bad_content pk (fun _ => rfl) (bad_sign (by decide +kernel) (by decide +kernel)),sup_content,rfl⟩
   ·exact ⟨_,_,_,rfl,bad_content pk (fun _ => rfl) (bad_sign (by decide +kernel) (by decide +kernel)),sup_content,rfl⟩
   ·exact ⟨_,_,_,rfl,bad_content pk (fun _ => rfl) (bad_num (by omega)),sup_formula,rfl⟩
  obtain ⟨w,wd,x,aw,hb,hsu,ew⟩:=bd
  refine ⟨a,b,w,wd,x,s6,?_,hb,hsu,d14.trans d56⟩
  have iw:=ix_l l6 aw
  unfold F__law_bad fnF g__law_bad
  by_cases c10:way = 10
  ·subst c10
   rw [if_pos rfl] at ew
   subst ew
   have iw':oIx (.ref s3.length) (.int 6) s6 = .ok w s6:=iw
   simp [p59,p60,a41,e1,e2,kp,kc,e5,e6,iw',pw]
  ·have b10:(way == 10) = false:=beq_false_of_ne c10
   rw [if_neg c10] at ew
   subst ew
   simp [p59,p60,a41,e1,e2,kp,kc,e5,e6,iw,pw,c,b10]
theorem cut_take {ws:List Wv} {k:Nat}:cutW ws none (some (k:Nat)) = ws.take k:=by
 unfold cutW
 rw [HT.sIx_nat,HT.sIx_none,List.drop_zero,Nat.sub_zero]
 by_cases c:k ≤ ws.length
 ·rw [Nat.min_eq_left c]
 ·rw [Nat.min_eq_right (by omega),List.take_of_length_le (Nat.le_refl _),List.take_of_length_le (by omega)]
theorem cut_drop {ws:List Wv} {k:Nat}:cutW ws (some (k:Nat)) none = ws.drop k:=by
 unfold cutW
 rw [HT.sIx_nat,HT.sIx_none]
 by_cases c:k ≤ ws.length
 ·rw [Nat.min_eq_left c,List.take_of_length_le (by rw [List.length_drop]; omega)]
 ·rw [Nat.min_eq_right (by omega),List.drop_of_length_le (Nat.le_refl _),List.drop_of_length_le (by omega),List.take_nil]
theorem ces_take {s n k:Nat} (h:k ≤ n):((ces s n).map cw).take k = (ces s k).map cw:=by
 unfold ces
 rw [← List.map_take,← List.map_take,List.take_range,Nat.min_eq_left h]
theorem sq_nx {a b:GS} {ρ ρ':Rho} {st st':Hs} (h:a ρ st = .nx ρ' st'):gSeq a b ρ st = b ρ' st':=by rw [e_seq,h]; rfl
theorem pick_many {r:Nat} {ρ:Rho} {st:Hs} (hρ:ρ[1]? = some (some (.ref r))) (h:Ro r st):∃ (m:Nat) (st':Hs),2 ≤ m ∧ m ≤ 203 ∧ Dw r st st' ∧
  gBin oIx (gLst (gCons (gBin oAdd (gC (.int 197)) (gCall 2 F__law_digit (gCons (gVar 1) (gCons (gC (.int 7)) gNil)))) (gCons (gBin oAdd (gC (.int 2)) (gCall 2 F__law_digit (gCons (gVar 1) (gCons (gC (.int 9)) gNil)))) gNil))) (gCall 2 F__law_digit (gCons (gVar 1) (gCons (gC (.int 2)) gNil))) ρ st = .ok (.int (m:Nat)) st':=by
 have hr:r < st.length:=let ⟨v,e⟩:=h; get_lt e
 obtain ⟨a,s1,e1,a0,a1,d1⟩:=dig (m:=7) h (by decide) (by decide)
 obtain ⟨b,s2,e2,b0,b1,d2⟩:=dig (m:=9) d1.2 (by decide) (by decide)
 have d12:=d1.trans d2
 have kl:kLst [.int (197 + a),.int (2 + b)] s2 = .ok (.ref s2.length) (s2 ++ [.lst [.int (197 + a),.int (2 + b)]]):=kLst_d (by show 2 ≤ lim; unfold lim; omega)
 have l3:lstOf (s2 ++ [.lst [.int (197 + a),.int (2 + b)]]) s2.length = some [.int (197 + a),.int (2 + b)]:=lstOf_new
 have d3:Dw r s2 (s2 ++ [.lst [.int (197 + a),.int (2 + b)]]):=⟨Gr.push.keep,d12.2.push⟩
 generalize s2 ++ [.lst [.int (197 + a),.int (2 + b)]] = s3 at kl l3 d3
 obtain ⟨c,s4,e4,c0,c1,d4⟩:=dig (m:=2) d3.2 (by decide) (by decide)
 have l4:lstOf s4 s2.length = some [.int (197 + a),.int (2 + b)]:=d4.1.lst l3 (by have:=d12.1.1; omega)
 have dd:=d12.trans (d3.trans d4)
 have:c = 0 ∨ c = 1:=by omega
 rcases this with rfl | rfl
 ·obtain ⟨m,hm⟩:=Int.eq_ofNat_of_zero_le (show 0 ≤ 197 + a by omega)
  refine ⟨m,s4,by omega,by omega,dd,?_⟩
  have ix:oIx (.ref s2.length) (.int 0) s4 = .ok (.int (m:Nat)) s4:=by rw [← hm]; exact ix_l l4 rfl
  simp [hρ,e1,e2,kl,e4,ix]
 ·obtain ⟨m,hm⟩:=Int.eq_ofNat_of_zero_le (show 0 ≤ 2 + b by omega)
  refine ⟨m,s4,by omega,by omega,dd,?_⟩
  have ix:oIx (.ref s2.length) (.int 1) s4 = .ok (.int (m:Nat)) s4:=by rw [← hm]; exact ix_l l4 rfl
  simp [hρ,e1,e2,kl,e4,ix]
theorem pick_step {r:Nat} {ρ:Rho} {st:Hs} (hρ:ρ[1]? = some (some (.ref r))) (h:Ro r st):∃ (s:Nat) (st':Hs),Stp s ∧ Dw r st st' ∧
  gBin oIx (gLst (gCons (gC (.int 1)) (gCons (gC (.int 5)) (gCons (gC (.int 7)) (gCons (gC (.int 11)) gNil))))) (gCall 2 F__law_digit (gCons (gVar 1) (gCons (gC (.int 4)) gNil))) ρ st = .ok (.int (s:Nat)) st':=by
 have hr:r < st.length:=let ⟨v,e⟩:=h; get_lt e
 have kl:kLst [.int 1,.int 5,.int 7,.int 11] st = .ok (.ref st.length) (st ++ [.lst [.int 1,.int 5,.int 7,.int 11]]):=kLst_d (by show 4 ≤ lim; unfold lim; omega)
 have l3:lstOf (st ++ [.lst [.int 1,.int 5,.int 7,.int 11]]) st.length = some [.int 1,.int 5,.int 7,.int 11]:=lstOf_new
 have d3:Dw r st (st ++ [.lst [.int 1,.int 5,.int 7,.int 11]]):=⟨Gr.push.keep,h.push⟩
 generalize st ++ [.lst [.int 1,.int 5,.int 7,.int 11]] = s3 at kl l3 d3
 obtain ⟨c,s4,e4,c0,c1,d4⟩:=dig (m:=4) d3.2 (by decide) (by decide)
 have l4:lstOf s4 st.length = some [.int 1,.int 5,.int 7,.int 11]:=d4.1.lst l3 (by omega)
 have:c = 0 ∨ c = 1 ∨ c = 2 ∨ c = 3:=by omega
 rcases this with rfl | rfl | rfl | rfl
 ·exact ⟨1,s4,.inl rfl,d3.trans d4,by simp [hρ,kl,e4,show oIx (.ref st.length) (.int 0) s4 = .ok (.int 1) s4 from ix_l l4 rfl]⟩
 ·exact ⟨5,s4,.inr (.inl rfl),d3.trans d4,by simp [hρ,kl,e4,show oIx (.ref st.length) (.int 1) s4 = .ok (.int 5) s4 from ix_l l4 rfl]⟩
 ·exact ⟨7,s4,.inr (.inr (.inl rfl)),d3.trans d4,by simp [hρ,kl,e4,show oIx (.ref st.length) (.int 2) s4 = .ok (.int 7) s4 from ix_l l4 rfl]⟩
 ·exact ⟨11,s4,.inr (.inr (.inr rfl)),d3.trans d4,by simp [hρ,kl,e4,show oIx (.ref st.length) (.int 3) s4 = .ok (.int 11) s4 from ix_l l4 rfl]⟩
theorem Stp.le {s:Nat} (h:Stp s):0 < s ∧ s ≤ 11:=by unfold Stp at h; omega
theorem mul_le {k s:Nat} (hk:k ≤ 202) (hs:s ≤ 11):k * s < 2548:=Nat.lt_of_le_of_lt (Nat.mul_le_mul hk hs) (by decide)
theorem turn {r L s k:Nat} {M:Wv} {o6:Option Wv} {ρr:Rho} {st:Hs} (hs:Stp s) (hk:k ≤ 202) (h:Ro r st) (hL:st[L]? = some (.lst ((ces s k).map cw))) (hne:L ≠ r) :
  ∃ (o:Option Wv) (st':Hs),g_law_L1 (some (.ref 0) :: some (.ref r) :: some M :: some (.int (s:Nat)) :: some (.ref L) :: some (.int (k:Nat)) :: o6 :: ρr) st = .nx (some (.ref 0) :: some (.ref r) :: some M :: some (.int (s:Nat)) :: some (.ref L) :: some (.int (k:Nat)) :: o :: ρr) st' ∧ Ro r st' ∧ st'[L]? = some (.lst ((ces s (k + 1)).map cw)) ∧ st.length ≤ st'.length:=by
 obtain ⟨d,s1,e1,d0,d1,dw⟩:=dig (m:=1) h (by decide) (by decide)
 have dz:d = 0:=by omega
 subst dz
 have hL1:s1[L]? = some (.lst ((ces s k).map cw)):=by rw [dw.1.2 L (get_lt hL) hne]; exact hL
 have lt:=mul_le hk hs.le.2
 have mu:oMulL (.int (k:Nat)) (.int (s:Nat)) st = .ok (.int ((k * s:Nat):Int)) st:=by
  rw [mul_l (by omega) (by omega)]
  push_cast
  rfl
 have mo:oMod (.int ((k * s:Nat):Int)) (.int 2574) s1 = .ok (.int ((k * s:Nat):Int)) s1:=by
  rw [mod_i (by decide),Int.fmod_eq_emod_of_nonneg _ (by decide),Int.emod_eq_of_lt (by omega) (by omega)]
 have fd:oFdiv (.int ((k * s:Nat):Int)) (.int 26) s1 = .ok (.int ((k * s / 26:Nat):Int)) s1:=by
  rw [fdiv_i ⟨by decide,by decide⟩,Int.fdiv_eq_ediv_of_nonneg _ (by decide)]
  rfl
 have fm:oMod (.int ((k * s:Nat):Int)) (.int 26) s1 = .ok (.int ((k * s % 26:Nat):Int)) s1:=by
  rw [mod_i (by decide),Int.fmod_eq_emod_of_nonneg _ (by decide)]
  rfl
 have ap:=app_l (v:=cw (ce s k)) hL1 (by rw [List.length_map,ces_len]; unfold lim; omega)
 have ap':mApp (.ref L) (.tup [.tup [.int ((k * s / 26:Nat):Int),.int ((k * s % 26:Nat):Int)],.int (k:Nat)]) s1 = .ok .non (s1.set L (.lst ((ces s k).map cw ++ [cw (ce s k)]))):=ap
 have km:=fun ga => kMeth_l (mt:=mApp) (ga:=ga) (ρ:=some (.ref 0) :: some (.ref r) :: some M :: some (.int (s:Nat)) :: some (.ref L) :: some (.int (k:Nat)) :: some (.int ((k * s:Nat):Int)) :: ρr) (lst_get hL1)
 generalize hx:((k * s:Nat):Int) = x at mu mo fd fm km
 refine ⟨some (.int x),s1.set L (.lst ((ces s k).map cw ++ [cw (ce s k)])),?_,?_,?_,by simpa using dw.1.1⟩
 ·generalize ((k * s / 26:Nat):Int) = y at fd ap'
  generalize ((k * s % 26:Nat):Int) = z at fm ap'
  unfold g_law_L1
  simp [mu,e1,mo,km,fd,fm,ap']
 ·obtain ⟨v,q⟩:=dw.2
  exact ⟨v,by rw [List.getElem?_set_ne hne]; exact q⟩
 ·rw [set_get hL1,ces_succ,List.map_append]
  rfl
theorem ces_ok {s n:Nat} (hs:Stp s) (hn:n ≤ 203):∀ x ∈ ces s n,Cok x:=fun x hx => by
 unfold ces at hx
 obtain ⟨k,hk,rfl⟩:=List.mem_map.mp hx
 rw [List.mem_range] at hk
 exact ce_ok (by omega) (mul_le (by omega) hs.le.2)
theorem w_cells {L s n:Nat} {st:Hs} (hs:Stp s) (hn:n ≤ 203) (hL:lstOf st L = some ((ces s n).map cw)):∃ st',F__law_word [.ref L,.non] st = .ok (.str (if n ≤ 200 then "made" else "full")) st' ∧ Gr st st':=by
 have m:=made hL (ces_ok hs hn) (by rw [ces_len]; omega)
 rw [ups_ces hs.le.1,chs_len,ces_len] at m
 by_cases c:n ≤ 200
 ·rw [if_pos c] at m ⊢
  exact ⟨_,word_ok m,Gr.push⟩
 ·rw [if_neg c] at m ⊢
  obtain ⟨s',e,g⟩:=word_err m sup_full
  exact ⟨s',e,Gr.push.trans g⟩
theorem w_bad {L s k:Nat} {a b:Int} {w:Wv} {x wd:PySem.Str} {rest:List Wv} {st:Hs} (hs:Stp s) (hk:k ≤ 203) (hL:lstOf st L = some ((ces s k).map cw ++ .tup [pw a b,w] :: rest)) (hb:BadE a b w x) (hsu:Sup x wd):∃ st',F__law_word [.ref L,.non] st = .ok (.str wd) st' ∧ Gr st st':=by
 obtain ⟨s1,e1,g1⟩:=made_bad hL (ces_ok hs hk) (by rw [ces_len]; omega) hb
 obtain ⟨s',e,g⟩:=word_err e1 hsu
 exact ⟨s',e,g1.trans g⟩
theorem made_few {L s n:Nat} {st:Hs} (hs:Stp s) (hn:n ≤ 200) (hL:lstOf st L = some ((ces s n).map cw)):F_made_sheet [.ref L] st = .ok (.ref st.length) (st ++ [.dcT (chs (ces s n))]):=by
 have m:=made hL (ces_ok hs (by omega)) (by rw [ces_len]; omega)
 rw [ups_ces hs.le.1,chs_len,ces_len,if_pos hn] at m
 exact m
theorem chs_ne {s n:Nat} (h:0 < n):chs (ces s n) ≠ []:=fun z => by
 have:=chs_len (cs:=ces s n)
 rw [z,ces_len] at this
 have e:([]:Ks).length = 0:=rfl
 omega
theorem w_badC {L e s n:Nat} {cs:List Cl} {a b:Int} {w:Wv} {x wd:PySem.Str} {st:Hs} (hs:Stp s) (h0:0 < n) (hn:n ≤ 200) (hL:lstOf st L = some ((ces s n).map cw)) (he:st[e]? = some (.dcT (chs cs ++ [(kk a b,w)]))) (hc:∀ x ∈ cs,Cok x) (hl:cs.length ≤ 5) (hb:BadE a b w x) (hsu:Sup x wd) :
  ∃ st',F__law_word [.ref L,.ref e] st = .ok (.str wd) st' ∧ Keep e st st':=by
 have m:=made_few hs hn hL
 obtain ⟨s2,e2,k2⟩:=changed_bad (d:=st.length) (e:=e) (st:=st ++ [.dcT (chs (ces s n))]) new_get (push_get he) (chs_ne h0) (hash_ces hs hn) hc (by rw [chs_len,ces_len]; omega) hb
 obtain ⟨s3,e3,g3⟩:=wordC_err m (cells_e1 e2) hsu
 exact ⟨s3,e3,(Gr.push.keep.trans k2).trans g3.keep⟩
theorem w_okC {L e s n:Nat} {cs:List Cl} {st:Hs} (hs:Stp s) (h0:0 < n) (hn:n ≤ 200) (hL:lstOf st L = some ((ces s n).map cw)) (he:st[e]? = some (.dcT (chs cs))) (hc:∀ x ∈ cs,Cok x) (hl:cs.length ≤ 5) :
  ∃ st',F__law_word [.ref L,.ref e] st = .ok (.str (if (ups (chs (ces s n)) cs).length ≤ 200 then "made" else "full")) st' ∧ Gr st st':=by
 have m:=made_few hs hn hL
 obtain ⟨s2,e2,g2,q2⟩:=changed (d:=st.length) (e:=e) (st:=st ++ [.dcT (chs (ces s n))]) new_get (push_get he) (chs_ne h0) (hash_ces hs hn) hc (by rw [chs_len,ces_len]; omega)
 have g:=(Gr.push (st:=st) (o:=.dcT (chs (ces s n)))).trans g2
 by_cases c:(ups (chs (ces s n)) cs).length ≤ 200
 ·rw [if_pos c]
  exact ⟨s2,wordC_ok m (cells_ok e2 (lens q2 c)),g⟩
 ·rw [if_neg c]
  obtain ⟨s3,e3,g3⟩:=wordC_err m (cells_e2 e2 (lensF q2 c)) sup_full
  exact ⟨s3,e3,g.trans g3⟩
theorem w_none {L s n:Nat} {st:Hs} (hs:Stp s) (hn:n ≤ 200) (hL:lstOf st L = some ((ces s n).map cw ++ [.tup [.tup [.int 98,.int 24],.non]])):∃ st',F__law_word [.ref L,.non] st = .ok (.str "made") st' ∧ Gr st st':=by
 have e:(ces s n).map cw ++ [.tup [.tup [.int 98,.int 24],.non]] = (ces s n ++ [(98,24,none)]).map cw:=by rw [List.map_append]; rfl
 rw [e] at hL
 have ok:Cok (98,24,none):=⟨⟨by decide,by decide,by decide,by decide⟩,fun c hc => by cases hc⟩
 have m:=made hL (fun x hx => by
  rcases List.mem_append.mp hx with z | z
  ·exact ces_ok hs (by omega) x z
  ·rw [List.mem_singleton.mp z]; exact ok) (by rw [List.length_append,ces_len]; simp; omega)
 rw [ups_app,ups_ces hs.le.1,if_pos (Nat.le_trans none_more hn)] at m
 exact ⟨_,word_ok m,Gr.push⟩
theorem disp1 {a b:Int} {w:Wv} {ρ:Rho} {st:Hs} (h7:ρ[7]? = some (some (pw a b))) (h8:ρ[8]? = some (some w)):gDispT [((gVar 7),(gVar 8))] ρ st = .ok (.ref st.length) (st ++ [.dcT [(kk a b,w)]]):=by
 have pv:pairsV [((gVar 7),(gVar 8))] ρ (st ++ [.dcT []]) = .ok [(pw a b,w)] (st ++ [.dcT []]):=by
  simp [pairsV,h7,h8]
 have pd:=putD_T (d:=st.length) (kvs:=[]) (a:=a) (b:=b) (v:=w) (st:=st ++ [.dcT []]) new_get (by show 0 < 1000; decide)
 rw [set_new] at pd
 have pd':putD (.ref st.length) (pw a b) w (st ++ [.dcT []]) = some (st ++ [.dcT (putW [] (kk a b) w)]):=pd
 unfold gDispT
 rw [pv]
 simp only [bind_ok,putsW,pd']
 rfl
theorem disp2 {a b:Int} {w:Wv} {ρ:Rho} {st:Hs} (h7:ρ[7]? = some (some (pw a b))) (h8:ρ[8]? = some (some w)):∃ cs:List Cl,(∀ x ∈ cs,Cok x) ∧ cs.length ≤ 5 ∧
  gDispT [((gTup (gCons (gC (.int 98)) (gCons (gC (.int 25)) gNil))),(gC (.int 1))),((gVar 7),(gVar 8))] ρ st = .ok (.ref st.length) (st ++ [.dcT (chs cs ++ [(kk a b,w)])]):=by
 have pv:pairsV [((gTup (gCons (gC (.int 98)) (gCons (gC (.int 25)) gNil))),(gC (.int 1))),((gVar 7),(gVar 8))] ρ (st ++ [.dcT []]) = .ok [(.tup [.int 98,.int 25],.int 1),(pw a b,w)] (st ++ [.dcT []]):=by
  simp [pairsV,h7,h8]
 have pd:=putD_T (d:=st.length) (kvs:=[]) (a:=98) (b:=25) (v:=.int 1) (st:=st ++ [.dcT []]) new_get (by show 0 < 1000; decide)
 rw [set_new] at pd
 have pd1:putD (.ref st.length) (.tup [.int 98,.int 25]) (.int 1) (st ++ [.dcT []]) = some (st ++ [.dcT [(kk 98 25,.int 1)]]):=pd
 have pe:=putD_T (d:=st.length) (kvs:=[(kk 98 25,.int 1)]) (a:=a) (b:=b) (v:=w) (st:=st ++ [.dcT [(kk 98 25,.int 1)]]) new_get (by show 1 < 1000; decide)
 rw [set_new] at pe
 have pe1:putD (.ref st.length) (pw a b) w (st ++ [.dcT [(kk 98 25,.int 1)]]) = some (st ++ [.dcT (putW [(kk 98 25,.int 1)] (kk a b) w)]):=pe
 have all:gDispT [((gTup (gCons (gC (.int 98)) (gCons (gC (.int 25)) gNil))),(gC (.int 1))),((gVar 7),(gVar 8))] ρ st = .ok (.ref st.length) (st ++ [.dcT (putW [(kk 98 25,.int 1)] (kk a b) w)]):=by
  unfold gDispT
  rw [pv]
  simp only [bind_ok,putsW,pd1,pe1]
 by_cases c:kk 98 25 = kk a b
 ·refine ⟨[],(fun x hx => by cases hx),by decide,?_⟩
  rw [all,← c]
  unfold putW
  rw [if_pos (by simp)]
  simp [chs]
 ·refine ⟨[(98,25,some 1)],fun x hx => ?_,by decide,?_⟩
  ·rw [List.mem_singleton.mp hx]
   exact ⟨⟨by decide,by decide,by decide,by decide⟩,fun c hc => by cases hc; decide⟩
  ·rw [all]
   unfold putW
   rw [if_neg (by simp [c])]
   rfl
theorem if_no {t:GT} {g:GS} {ρ:Rho} {st st':Hs} (h:t ρ st = .ok false st'):gIf t g gNext ρ st = .nx ρ st':=by simp [h]
theorem full_ix {l:Nat} {c:Bool} {st:Hs} (h:lstOf st l = some [.str "made",.str "full"]):oIx (.ref l) (.int (if c = true then 1 else 0)) st = .ok (.str (if c = true then "full" else "made")) st:=by
 cases c
 ·exact ix_l h rfl
 ·exact ix_l h rfl
theorem st6 {m s L:Nat} {o5 o6:Option Wv} {st:Hs} (hs:Stp s) (m1:m ≤ 203) (h:lstOf st L = some ((ces s m).map cw)):∃ st',gIf (gTst (gBin oNe (gCall 2 F__law_word (gCons (gVar 4) (gCons (gC .non) gNil))) (gBin oIx (gLst (gCons (gC (.str "made")) (gCons (gC (.str "full")) gNil))) (gCallB oInt2 (gCons (gBin oGt (gVar 2) (gC (.int 200))) gNil))))) (gRet (gC (.bl false))) gNext [some (.ref 0),some (.ref 1),some (.int (m:Nat)),some (.int (s:Nat)),some (.ref L),o5,o6,none,none,none,none,none,none,none] st = .nx [some (.ref 0),some (.ref 1),some (.int (m:Nat)),some (.int (s:Nat)),some (.ref L),o5,o6,none,none,none,none,none,none,none] st' ∧ Gr st st':=by
 obtain ⟨s6,e6,g6⟩:=w_cells hs m1 h
 have l6:lstOf (s6 ++ [.lst [.str "made",.str "full"]]) s6.length = some [.str "made",.str "full"]:=lstOf_new
 have g7:Gr s6 (s6 ++ [.lst [.str "made",.str "full"]]):=Gr.push
 have k6:kLst [.str "made",.str "full"] s6 = .ok (.ref s6.length) (s6 ++ [.lst [.str "made",.str "full"]]):=kLst_d (by show 2 ≤ lim; unfold lim; omega)
 generalize s6 ++ [.lst [.str "made",.str "full"]] = s7 at l6 g7 k6
 refine ⟨s7,if_no ?_,g6.trans g7⟩
 by_cases c:m ≤ 200
 ·have c':¬ (200:Int) < (m:Nat):=by omega
  have x:oIx (.ref s6.length) (.int 0) s7 = .ok (.str "made") s7:=ix_l l6 rfl
  rw [if_pos c] at e6
  simp [e6,k6,c',int_b,x]
 ·have c':(200:Int) < (m:Nat):=by omega
  have x:oIx (.ref s6.length) (.int 1) s7 = .ok (.str "full") s7:=ix_l l6 rfl
  rw [if_neg c] at e6
  simp [e6,k6,c',int_b,x]
theorem st7 {m s L:Nat} {a b:Int} {w:Wv} {wd:PySem.Str} {o5 o6:Option Wv} {st st':Hs} (h:F__law_bad [.ref 1] st = .ok (.tup [pw a b,w,.str wd]) st'):gSetT [7,8,9] (gCall 1 F__law_bad (gCons (gVar 1) gNil)) [some (.ref 0),some (.ref 1),some (.int (m:Nat)),some (.int (s:Nat)),some (.ref L),o5,o6,none,none,none,none,none,none,none] st = .nx [some (.ref 0),some (.ref 1),some (.int (m:Nat)),some (.int (s:Nat)),some (.ref L),o5,o6,some (pw a b),some w,some (.str wd),none,none,none,none] st':=by
 unfold gSetT
 simp [h]
 rfl
theorem st8 {m s L q:Nat} {a b:Int} {w:Wv} {wd:PySem.Str} {o5 o6:Option Wv} {st st':Hs} (h:F__law_digit [.ref 1,.int ((m:Nat) + 1)] st = .ok (.int (q:Nat)) st'):gSet 10 (gCall 2 F__law_digit (gCons (gVar 1) (gCons (gBin oAdd (gVar 2) (gC (.int 1))) gNil))) [some (.ref 0),some (.ref 1),some (.int (m:Nat)),some (.int (s:Nat)),some (.ref L),o5,o6,some (pw a b),some w,some (.str wd),none,none,none,none] st = .nx [some (.ref 0),some (.ref 1),some (.int (m:Nat)),some (.int (s:Nat)),some (.ref L),o5,o6,some (pw a b),some w,some (.str wd),some (.int (q:Nat)),none,none,none] st':=by
 simp [h]
theorem st9 {m s L q:Nat} {a b:Int} {w:Wv} {x wd:PySem.Str} {o5 o6:Option Wv} {st:Hs} (hs:Stp s) (m1:m ≤ 203) (hq:q ≤ m) (h:lstOf st L = some ((ces s m).map cw)) (hb:BadE a b w x) (hsu:Sup x wd) :
  ∃ st',gIf (gTst (gBin oNe (gCall 2 F__law_word (gCons (gBin oAdd (gBin oAdd (gSlice2 (gVar 4) gNoPart (gPart (gVar 10))) (gLst (gCons (gTup (gCons (gVar 7) (gCons (gVar 8) gNil))) gNil))) (gSlice2 (gVar 4) (gPart (gVar 10)) gNoPart)) (gCons (gC .non) gNil))) (gVar 9))) (gRet (gC (.bl false))) gNext [some (.ref 0),some (.ref 1),some (.int (m:Nat)),some (.int (s:Nat)),some (.ref L),o5,o6,some (pw a b),some w,some (.str wd),some (.int (q:Nat)),none,none,none] st = .nx [some (.ref 0),some (.ref 1),some (.int (m:Nat)),some (.int (s:Nat)),some (.ref L),o5,o6,some (pw a b),some w,some (.str wd),some (.int (q:Nat)),none,none,none] st' ∧ Gr st st':=by
 have lm:((ces s m).map cw).length = m:=by rw [List.length_map,ces_len]
 have f1:=sl_l (lo:=none) (hi:=some (q:Nat)) h
 rw [cut_take,ces_take hq] at f1
 have l1:lstOf (st ++ [.lst ((ces s q).map cw)]) st.length = some ((ces s q).map cw):=lstOf_new
 have g1:Gr st (st ++ [.lst ((ces s q).map cw)]):=Gr.push
 generalize st ++ [.lst ((ces s q).map cw)] = s1 at f1 l1 g1
 have k2:kLst [.tup [pw a b,w]] s1 = .ok (.ref s1.length) (s1 ++ [.lst [.tup [pw a b,w]]]):=kLst_d (by show 1 ≤ lim; unfold lim; omega)
 have l2:lstOf (s1 ++ [.lst [.tup [pw a b,w]]]) s1.length = some [.tup [pw a b,w]]:=lstOf_new
 have g2:Gr s1 (s1 ++ [.lst [.tup [pw a b,w]]]):=Gr.push
 generalize s1 ++ [.lst [.tup [pw a b,w]]] = s2 at k2 l2 g2
 have a3:=add_l (g2.lst l1) l2 (by rw [List.length_map,ces_len]; show q + 1 ≤ lim; unfold lim; omega)
 have l3:lstOf (s2 ++ [.lst ((ces s q).map cw ++ [.tup [pw a b,w]])]) s2.length = some ((ces s q).map cw ++ [.tup [pw a b,w]]):=lstOf_new
 have g3:Gr s2 (s2 ++ [.lst ((ces s q).map cw ++ [.tup [pw a b,w]])]):=Gr.push
 generalize s2 ++ [.lst ((ces s q).map cw ++ [.tup [pw a b,w]])] = s3 at a3 l3 g3
 have f4:=sl_l (lo:=some (q:Nat)) (hi:=none) ((g1.trans (g2.trans g3)).lst h)
 rw [cut_drop] at f4
 have l4:lstOf (s3 ++ [.lst (((ces s m).map cw).drop q)]) s3.length = some (((ces s m).map cw).drop q):=lstOf_new
 have g4:Gr s3 (s3 ++ [.lst (((ces s m).map cw).drop q)]):=Gr.push
 generalize s3 ++ [.lst (((ces s m).map cw).drop q)] = s4 at f4 l4 g4
 have a5:=add_l (g4.lst l3) l4 (by rw [List.length_append,List.length_drop,lm,List.length_map,ces_len]; show q + 1 + (m - q) ≤ lim; unfold lim; omega)
 have l5:lstOf (s4 ++ [.lst ((ces s q).map cw ++ [.tup [pw a b,w]] ++ ((ces s m).map cw).drop q)]) s4.length = some ((ces s q).map cw ++ [.tup [pw a b,w]] ++ ((ces s m).map cw).drop q):=lstOf_new
 have g5:Gr s4 (s4 ++ [.lst ((ces s q).map cw ++ [.tup [pw a b,w]] ++ ((ces s m).map cw).drop q)]):=Gr.push
 generalize s4 ++ [.lst ((ces s q).map cw ++ [.tup [pw a b,w]] ++ ((ces s m).map cw).drop q)] = s5 at a5 l5 g5
 rw [List.append_assoc] at l5
 obtain ⟨s6,e6,g6⟩:=w_bad hs (by omega) l5 hb hsu
 refine ⟨s6,if_no ?_,g1.trans (g2.trans (g3.trans (g4.trans (g5.trans g6))))⟩
 simp [f1,k2,a3,f4,a5,e6]
theorem st10 {m s L q:Nat} {a b:Int} {w:Wv} {wd:PySem.Str} {o5 o6:Option Wv} {st:Hs} (h:lstOf st L = some ((ces s m).map cw)) :
  ∃ F st',gSet 11 (gSlice2 (gVar 4) gNoPart (gPart (gCallB oMin2 (gCons (gVar 2) (gCons (gC (.int 200)) gNil))))) [some (.ref 0),some (.ref 1),some (.int (m:Nat)),some (.int (s:Nat)),some (.ref L),o5,o6,some (pw a b),some w,some (.str wd),some (.int (q:Nat)),none,none,none] st = .nx [some (.ref 0),some (.ref 1),some (.int (m:Nat)),some (.int (s:Nat)),some (.ref L),o5,o6,some (pw a b),some w,some (.str wd),some (.int (q:Nat)),some (.ref F),none,none] st' ∧ Gr st st' ∧ lstOf st' F = some ((ces s (min m 200)).map cw):=by
 have f1:=sl_l (lo:=none) (hi:=some ((min m 200:Nat):Int)) h
 rw [cut_take,ces_take (Nat.min_le_left _ _)] at f1
 refine ⟨st.length,_,?_,Gr.push,lstOf_new⟩
 by_cases c:m ≤ 200
 ·have c':¬ (200:Int) < (m:Nat):=by omega
  rw [Nat.min_eq_left c] at f1 ⊢
  simp [c',f1]
 ·have c':(200:Int) < (m:Nat):=by omega
  rw [Nat.min_eq_right (by omega)] at f1 ⊢
  have f2:oSl2 (.ref L) none (some 200) st = .ok (.ref st.length) (st ++ [.lst ((ces s 200).map cw)]):=f1
  simp [c',f2]
theorem keep_gr {e:Nat} {st s1 s2:Hs} (h:st.length ≤ e) (g:Gr st s1) (k:Keep e s1 s2):Gr st s2:=Gr.keepAt h g k
theorem st11 {m s L q F n:Nat} {a b:Int} {w:Wv} {x wd:PySem.Str} {o5 o6:Option Wv} {st:Hs} (hs:Stp s) (n0:0 < n) (n1:n ≤ 200) (h:lstOf st F = some ((ces s n).map cw)) (hb:BadE a b w x) (hsu:Sup x wd) :
  ∃ st',gIf (gOr (gTst (gBin oNe (gCall 2 F__law_word (gCons (gVar 11) (gCons (gDispT [((gVar 7),(gVar 8))]) gNil))) (gVar 9))) (gTst (gBin oNe (gCall 2 F__law_word (gCons (gVar 11) (gCons (gDispT [((gTup (gCons (gC (.int 98)) (gCons (gC (.int 25)) gNil))),(gC (.int 1))),((gVar 7),(gVar 8))]) gNil))) (gVar 9)))) (gRet (gC (.bl false))) gNext [some (.ref 0),some (.ref 1),some (.int (m:Nat)),some (.int (s:Nat)),some (.ref L),o5,o6,some (pw a b),some w,some (.str wd),some (.int (q:Nat)),some (.ref F),none,none] st = .nx [some (.ref 0),some (.ref 1),some (.int (m:Nat)),some (.int (s:Nat)),some (.ref L),o5,o6,some (pw a b),some w,some (.str wd),some (.int (q:Nat)),some (.ref F),none,none] st' ∧ Gr st st':=by
 have p1:=disp1 (a:=a) (b:=b) (w:=w) (ρ:=[some (.ref 0),some (.ref 1),some (.int (m:Nat)),some (.int (s:Nat)),some (.ref L),o5,o6,some (pw a b),some w,some (.str wd),some (.int (q:Nat)),some (.ref F),none,none]) (st:=st) rfl rfl
 obtain ⟨s1,e1,k1⟩:=w_badC (cs:=[]) hs n0 n1 (L:=F) (e:=st.length) (st:=st ++ [.dcT [(kk a b,w)]]) (lstOf_old h) new_get (fun x hx => by cases hx) (by decide) hb hsu
 have g1:Gr st s1:=keep_gr (Nat.le_refl _) Gr.push k1
 obtain ⟨cs,hc,hl,p2⟩:=disp2 (a:=a) (b:=b) (w:=w) (ρ:=[some (.ref 0),some (.ref 1),some (.int (m:Nat)),some (.int (s:Nat)),some (.ref L),o5,o6,some (pw a b),some w,some (.str wd),some (.int (q:Nat)),some (.ref F),none,none]) (st:=s1) rfl rfl
 obtain ⟨s2,e2,k2⟩:=w_badC (cs:=cs) hs n0 n1 (L:=F) (e:=s1.length) (st:=s1 ++ [.dcT (chs cs ++ [(kk a b,w)])]) (lstOf_old (g1.lst h)) new_get hc hl hb hsu
 have g2:Gr s1 s2:=keep_gr (Nat.le_refl _) Gr.push k2
 refine ⟨s2,if_no ?_,g1.trans g2⟩
 simp [p1,e1,p2,e2]
theorem st12 {m s L q F n:Nat} {a b:Int} {w:Wv} {wd:PySem.Str} {o5 o6:Option Wv} {g:GS} {st:Hs} :
  gSeq (gSet 12 gNewT) (gSeq (gDPut (gC (.int 7)) (gVar 12) (gTup (gCons (gC (.int 98)) (gCons (gC (.int 24)) gNil)))) g) [some (.ref 0),some (.ref 1),some (.int (m:Nat)),some (.int (s:Nat)),some (.ref L),o5,o6,some (pw a b),some w,some (.str wd),some (.int (q:Nat)),some (.ref F),none,none] st = g [some (.ref 0),some (.ref 1),some (.int (m:Nat)),some (.int (s:Nat)),some (.ref L),o5,o6,some (pw a b),some w,some (.str wd),some (.int (q:Nat)),some (.ref F),some (.ref st.length),none] (st ++ [.dcT (chs [(98,24,some 7)])]):=by
 have pd:=putD_T (d:=st.length) (kvs:=[]) (a:=98) (b:=24) (v:=.int 7) (st:=st ++ [.dcT []]) new_get (by show 0 < 1000; decide)
 rw [set_new] at pd
 have pd':putD (.ref st.length) (.tup [.int 98,.int 24]) (.int 7) (st ++ [.dcT []]) = some (st ++ [.dcT (chs [(98,24,some 7)])]):=pd
 have e1:gSet 12 gNewT [some (.ref 0),some (.ref 1),some (.int (m:Nat)),some (.int (s:Nat)),some (.ref L),o5,o6,some (pw a b),some w,some (.str wd),some (.int (q:Nat)),some (.ref F),none,none] st = .nx [some (.ref 0),some (.ref 1),some (.int (m:Nat)),some (.int (s:Nat)),some (.ref L),o5,o6,some (pw a b),some w,some (.str wd),some (.int (q:Nat)),some (.ref F),some (.ref st.length),none] (st ++ [.dcT []]):=by simp [gNewT]
 have e2:gDPut (gC (.int 7)) (gVar 12) (gTup (gCons (gC (.int 98)) (gCons (gC (.int 24)) gNil))) [some (.ref 0),some (.ref 1),some (.int (m:Nat)),some (.int (s:Nat)),some (.ref L),o5,o6,some (pw a b),some w,some (.str wd),some (.int (q:Nat)),some (.ref F),some (.ref st.length),none] (st ++ [.dcT []]) = .nx [some (.ref 0),some (.ref 1),some (.int (m:Nat)),some (.int (s:Nat)),some (.ref L),o5,o6,some (pw a b),some w,some (.str wd),some (.int (q:Nat)),some (.ref F),some (.ref st.length),none] (st ++ [.dcT (chs [(98,24,some 7)])]):=by simp [gDPut,pd']
 rw [sq_nx e1,sq_nx e2]
theorem lenD_l {l:Nat} {ws:List Wv} {st:Hs} (h:lstOf st l = some ws):oLenD [.ref l] st = .ok (.int ws.length) st:=by
 have e:isDw st[l]? = none:=by
  unfold lstOf at h
  cases q:st[l]? with
  | none => rfl
  | some o =>
   rw [q] at h
   cases o <;> first | rfl | cases h
 show (match isDw st[l]? with | some kvs => Re.ok (Wv.int kvs.length) st | none => oLen [.ref l] st) = _
 rw [e]
 exact len_l h
theorem st13 {m s L q F n e:Nat} {a b:Int} {w:Wv} {wd:PySem.Str} {o5 o6:Option Wv} {st:Hs} (h:lstOf st F = some ((ces s n).map cw)) :
  ∃ (due:PySem.Str) (st':Hs),gSet 13 (gBin oIx (gLst (gCons (gC (.str "made")) (gCons (gC (.str "full")) gNil))) (gCallB oInt2 (gCons (gBin oEq (gCallB oLenD (gCons (gVar 11) gNil)) (gC (.int 200))) gNil))) [some (.ref 0),some (.ref 1),some (.int (m:Nat)),some (.int (s:Nat)),some (.ref L),o5,o6,some (pw a b),some w,some (.str wd),some (.int (q:Nat)),some (.ref F),some (.ref e),none] st = .nx [some (.ref 0),some (.ref 1),some (.int (m:Nat)),some (.int (s:Nat)),some (.ref L),o5,o6,some (pw a b),some w,some (.str wd),some (.int (q:Nat)),some (.ref F),some (.ref e),some (.str due)] st' ∧ Gr st st' ∧ due = if n = 200 then "full" else "made":=by
 have l6:lstOf (st ++ [.lst [.str "made",.str "full"]]) st.length = some [.str "made",.str "full"]:=lstOf_new
 have g7:Gr st (st ++ [.lst [.str "made",.str "full"]]):=Gr.push
 have k6:kLst [.str "made",.str "full"] st = .ok (.ref st.length) (st ++ [.lst [.str "made",.str "full"]]):=kLst_d (by show 2 ≤ lim; unfold lim; omega)
 generalize st ++ [.lst [.str "made",.str "full"]] = s7 at l6 g7 k6
 have ln:=lenD_l (g7.lst h)
 rw [List.length_map,ces_len] at ln
 refine ⟨_,s7,?_,g7,rfl⟩
 by_cases c:n = 200
 ·subst c
  have x:oIx (.ref st.length) (.int 1) s7 = .ok (.str "full") s7:=ix_l l6 rfl
  have ln':oLenD [.ref F] s7 = .ok (.int 200) s7:=ln
  simp [k6,ln',int_b,x]
 ·have c':((n:Int) == 200) = false:=beq_false_of_ne (by omega)
  have x:oIx (.ref st.length) (.int 0) s7 = .ok (.str "made") s7:=ix_l l6 rfl
  rw [if_neg c]
  simp [k6,ln,c',int_b,x]
theorem one_ok:∀ x ∈ [((98,24,some 7):Cl)],Cok x:=fun x hx => by
 rw [List.mem_singleton.mp hx]
 exact ⟨⟨by decide,by decide,by decide,by decide⟩,fun c hc => by cases hc; decide⟩
theorem two_ok:∀ x ∈ [((98,24,some 7):Cl),(0,0,none)],Cok x:=fun x hx => by
 rcases List.mem_cons.mp hx with rfl | hx
 ·exact one_ok _ (by simp)
 ·rw [List.mem_singleton.mp hx]
  exact ⟨⟨by decide,by decide,by decide,by decide⟩,fun c hc => by cases hc⟩
theorem st14 {m s L q F n e:Nat} {a b:Int} {w:Wv} {wd due:PySem.Str} {o5 o6:Option Wv} {st:Hs} (hs:Stp s) (n0:0 < n) (n1:n ≤ 200) (h:lstOf st F = some ((ces s n).map cw)) (he:st[e]? = some (.dcT (chs [(98,24,some 7)]))) (hd:due = if n = 200 then "full" else "made") :
  ∃ st',gIf (gTst (gBin oNe (gCall 2 F__law_word (gCons (gVar 11) (gCons (gCallB oDict (gCons (gVar 12) gNil)) gNil))) (gVar 13))) (gRet (gC (.bl false))) gNext [some (.ref 0),some (.ref 1),some (.int (m:Nat)),some (.int (s:Nat)),some (.ref L),o5,o6,some (pw a b),some w,some (.str wd),some (.int (q:Nat)),some (.ref F),some (.ref e),some (.str due)] st = .nx [some (.ref 0),some (.ref 1),some (.int (m:Nat)),some (.int (s:Nat)),some (.ref L),o5,o6,some (pw a b),some w,some (.str wd),some (.int (q:Nat)),some (.ref F),some (.ref e),some (.str due)] st' ∧ Gr st st':=by
 have dc:=dict_ok he (fun z => by cases z) (by decide +kernel)
 obtain ⟨s2,e2,g2⟩:=w_okC (cs:=[(98,24,some 7)]) hs n0 n1 (L:=F) (e:=st.length) (st:=st ++ [.dcT (chs [(98,24,some 7)])]) (lstOf_old h) new_get one_ok (by decide)
 rw [one_more (fun k hk => mul_le (by omega) hs.le.2)] at e2
 have ed:(if n + 1 ≤ 200 then ("made":PySem.Str) else "full") = due:=by
  rw [hd]
  by_cases c:n = 200
  ·rw [if_pos c,if_neg (by omega)]
  ·rw [if_neg c,if_pos (by omega)]
 rw [ed] at e2
 refine ⟨s2,if_no ?_,Gr.push.trans g2⟩
 simp [dc,e2]
theorem ce0 {s:Nat}:cw (ce s 0) = .tup [.tup [.int 0,.int 0],.int 0]:=by
 unfold cw pw ce ow
 simp
theorem few0 {s n F:Nat} {st:Hs} (n0:0 < n) (h:lstOf st F = some ((ces s n).map cw)):oIx (.ref F) (.int 0) st = .ok (.tup [.tup [.int 0,.int 0],.int 0]) st:=by
 refine ix_l h (L2.atI_nat (j:=0) ?_)
 rw [← ce0 (s:=s)]
 unfold ces
 rw [List.map_map,List.getElem?_map,List.getElem?_range n0]
 rfl
theorem st15 {m s L q F n e:Nat} {a b:Int} {w:Wv} {wd due:PySem.Str} {o5 o6:Option Wv} {st:Hs} (n0:0 < n) (h:lstOf st F = some ((ces s n).map cw)) (he:st[e]? = some (.dcT (chs [(98,24,some 7)]))) :
  gDPut (gC .non) (gVar 12) (gBin oIx (gBin oIx (gVar 11) (gC (.int 0))) (gC (.int 0))) [some (.ref 0),some (.ref 1),some (.int (m:Nat)),some (.int (s:Nat)),some (.ref L),o5,o6,some (pw a b),some w,some (.str wd),some (.int (q:Nat)),some (.ref F),some (.ref e),some (.str due)] st = .nx [some (.ref 0),some (.ref 1),some (.int (m:Nat)),some (.int (s:Nat)),some (.ref L),o5,o6,some (pw a b),some w,some (.str wd),some (.int (q:Nat)),some (.ref F),some (.ref e),some (.str due)] (st.set e (.dcT (chs [(98,24,some 7),(0,0,none)]))):=by
 have f0:=few0 n0 h
 have f1:oIx (.tup [.tup [.int 0,.int 0],.int 0]) (.int 0) st = .ok (.tup [.int 0,.int 0]) st:=ix0
 have pd:putD (.ref e) (.tup [.int 0,.int 0]) .non st = some (st.set e (.dcT (chs [(98,24,some 7),(0,0,none)]))):=putD_T he (by show 1 < 1000; decide)
 simp [gDPut,f0,f1,pd]
theorem st16 {m s L q F n e:Nat} {a b:Int} {w:Wv} {wd due:PySem.Str} {o5 o6:Option Wv} {st:Hs} (hs:Stp s) (n0:0 < n) (n1:n ≤ 200) (h:lstOf st F = some ((ces s n).map cw)) (he:st[e]? = some (.dcT (chs [(98,24,some 7),(0,0,none)]))) :
  ∃ st',gRet (gAndV (gBin oEq (gCall 2 F__law_word (gCons (gVar 11) (gCons (gVar 12) gNil))) (gC (.str "made"))) (gBin oEq (gCall 2 F__law_word (gCons (gBin oAdd (gVar 11) (gLst (gCons (gTup (gCons (gTup (gCons (gC (.int 98)) (gCons (gC (.int 24)) gNil))) (gCons (gC .non) gNil))) gNil))) (gCons (gC .non) gNil))) (gC (.str "made")))) [some (.ref 0),some (.ref 1),some (.int (m:Nat)),some (.int (s:Nat)),some (.ref L),o5,o6,some (pw a b),some w,some (.str wd),some (.int (q:Nat)),some (.ref F),some (.ref e),some (.str due)] st = .rt (.bl true) st':=by
 obtain ⟨s1,e1,g1⟩:=w_okC (cs:=[(98,24,some 7),(0,0,none)]) hs n0 n1 h he two_ok (by decide)
 rw [if_pos (Nat.le_trans (one_less (fun k hk => mul_le (by omega) hs.le.2) n0) n1)] at e1
 have h1:=g1.lst h
 have k2:kLst [.tup [.tup [.int 98,.int 24],.non]] s1 = .ok (.ref s1.length) (s1 ++ [.lst [.tup [.tup [.int 98,.int 24],.non]]]):=kLst_d (by show 1 ≤ lim; unfold lim; omega)
 have l2:lstOf (s1 ++ [.lst [.tup [.tup [.int 98,.int 24],.non]]]) s1.length = some [.tup [.tup [.int 98,.int 24],.non]]:=lstOf_new
 have h2:lstOf (s1 ++ [.lst [.tup [.tup [.int 98,.int 24],.non]]]) F = some ((ces s n).map cw):=lstOf_old h1
 generalize s1 ++ [.lst [.tup [.tup [.int 98,.int 24],.non]]] = s2 at k2 l2 h2
 have a3:=add_l h2 l2 (by rw [List.length_map,ces_len]; show n + 1 ≤ lim; unfold lim; omega)
 have l3:lstOf (s2 ++ [.lst ((ces s n).map cw ++ [.tup [.tup [.int 98,.int 24],.non]])]) s2.length = some ((ces s n).map cw ++ [.tup [.tup [.int 98,.int 24],.non]]):=lstOf_new
 generalize s2 ++ [.lst ((ces s n).map cw ++ [.tup [.tup [.int 98,.int 24],.non]])] = s3 at a3 l3
 obtain ⟨s4,e4,_⟩:=w_none hs n1 l3
 refine ⟨s4,?_⟩
 simp [e1,k2,a3,e4]
theorem law_true:∀ ns:List Int,ns.length ≤ 63 → ∃ st,F_law [.ref 0] [.scr ns] = .ok (.bl true) st:=by
 intro ns hn
 have l0:lstOf [Ob.scr ns] 0 = some (ns.map Wv.int):=rfl
 obtain ⟨n,e1⟩:=stream l0 hn (k:=1) (by decide) (by decide)
 have e1':F__law_stream [.ref 0,.int 1] [Ob.scr ns] = .ok (.ref 1) ([Ob.scr ns] ++ [.lst [.int n]]):=e1
 have r1:Ro 1 ([Ob.scr ns] ++ [.lst [.int n]]):=⟨n,rfl⟩
 have n1:([Ob.scr ns] ++ [Ob.lst [.int n]]).length = 2:=rfl
 generalize [Ob.scr ns] ++ [Ob.lst [.int n]] = s1 at e1' r1 n1
 have h1:gSet 1 (gCall 2 F__law_stream (gCons (gVar 0) (gCons (gC (.int 1)) gNil))) [some (.ref 0),none,none,none,none,none,none,none,none,none,none,none,none,none] [Ob.scr ns] = .nx [some (.ref 0),some (.ref 1),none,none,none,none,none,none,none,none,none,none,none,none] s1:=by simp [e1']
 obtain ⟨m,s2,m0,m1,d2,e2⟩:=pick_many (r:=1) (ρ:=[some (.ref 0),some (.ref 1),none,none,none,none,none,none,none,none,none,none,none,none]) rfl r1
 have h2:gSet 2 (gBin oIx (gLst (gCons (gBin oAdd (gC (.int 197)) (gCall 2 F__law_digit (gCons (gVar 1) (gCons (gC (.int 7)) gNil)))) (gCons (gBin oAdd (gC (.int 2)) (gCall 2 F__law_digit (gCons (gVar 1) (gCons (gC (.int 9)) gNil)))) gNil))) (gCall 2 F__law_digit (gCons (gVar 1) (gCons (gC (.int 2)) gNil)))) [some (.ref 0),some (.ref 1),none,none,none,none,none,none,none,none,none,none,none,none] s1 = .nx [some (.ref 0),some (.ref 1),some (.int (m:Nat)),none,none,none,none,none,none,none,none,none,none,none] s2:=by rw [e_set,e2]; rfl
 obtain ⟨s,s3,hs,d3,e3⟩:=pick_step (r:=1) (ρ:=[some (.ref 0),some (.ref 1),some (.int (m:Nat)),none,none,none,none,none,none,none,none,none,none,none]) rfl d2.2
 have h3:gSet 3 (gBin oIx (gLst (gCons (gC (.int 1)) (gCons (gC (.int 5)) (gCons (gC (.int 7)) (gCons (gC (.int 11)) gNil))))) (gCall 2 F__law_digit (gCons (gVar 1) (gCons (gC (.int 4)) gNil)))) [some (.ref 0),some (.ref 1),some (.int (m:Nat)),none,none,none,none,none,none,none,none,none,none,none] s2 = .nx [some (.ref 0),some (.ref 1),some (.int (m:Nat)),some (.int (s:Nat)),none,none,none,none,none,none,none,none,none,none] s3:=by rw [e_set,e3]; rfl
 have d13:=d2.trans d3
 have n3:2 ≤ s3.length:=by have:=d13.1.1; omega
 obtain ⟨L,hLe⟩:∃ L,s3.length = L:=⟨_,rfl⟩
 have h4:gSet 4 (gLst gNil) [some (.ref 0),some (.ref 1),some (.int (m:Nat)),some (.int (s:Nat)),none,none,none,none,none,none,none,none,none,none] s3 = .nx [some (.ref 0),some (.ref 1),some (.int (m:Nat)),some (.int (s:Nat)),some (.ref L),none,none,none,none,none,none,none,none,none] (s3 ++ [.lst []]):=by rw [← hLe]; simp [lim]
 have q4:(s3 ++ [Ob.lst []])[L]? = some (.lst ((ces s 0).map cw)):=by rw [← hLe]; exact new_get
 have r4:Ro 1 (s3 ++ [Ob.lst []]):=d13.2.push
 generalize s3 ++ [Ob.lst []] = s4 at h4 q4 r4
 obtain ⟨ρ5,s5,e5,o5,o6,rfl,r5,q5⟩:=forT_ix (i:=5) (gb:=g_law_L1) (fun k ρ st => ∃ o5 o6,ρ = [some (.ref 0),some (.ref 1),some (.int (m:Nat)),some (.int (s:Nat)),some (.ref L),o5,o6,none,none,none,none,none,none,none] ∧ Ro 1 st ∧ st[L]? = some (.lst ((ces s k).map cw))) (rngW 0 m) 0 [some (.ref 0),some (.ref 1),some (.int (m:Nat)),some (.int (s:Nat)),some (.ref L),none,none,none,none,none,none,none,none,none] s4 ⟨none,none,rfl,r4,q4⟩ fun j w hw ρ st hP => by
  obtain ⟨o5,o6,rfl,r,q⟩:=hP
  have hj:=(List.getElem?_eq_some_iff.mp hw).1
  rw [rngW_len] at hj
  rw [rngW_get? hj] at hw
  cases hw
  rw [Nat.zero_add] at q ⊢
  obtain ⟨o,st',e,r',q',_⟩:=turn (M:=.int (m:Nat)) (o6:=o6) (ρr:=[none,none,none,none,none,none,none]) hs (show j ≤ 202 by omega) r q (by omega)
  rw [Int.zero_add]
  exact ⟨_,st',e,_,_,rfl,r',q'⟩
 rw [rngW_len,Nat.zero_add] at q5
 have cm:CRng (m:Int):=crng (by omega) (by omega)
 have h5:gForR1 5 (gCons (gVar 2) gNil) g_law_L1 [some (.ref 0),some (.ref 1),some (.int (m:Nat)),some (.int (s:Nat)),some (.ref L),none,none,none,none,none,none,none,none,none] s4 = .nx [some (.ref 0),some (.ref 1),some (.int (m:Nat)),some (.int (s:Nat)),some (.ref L),o5,o6,none,none,none,none,none,none,none] s5:=by simp [cm,e5]
 obtain ⟨s6,h6,g6⟩:=st6 (o5:=o5) (o6:=o6) hs m1 (lst_get q5)
 obtain ⟨a,b,w,wd,x,s7,e7,hb,hsu,d7⟩:=bads (r5.gr g6)
 have h7:=st7 (m:=m) (s:=s) (L:=L) (o5:=o5) (o6:=o6) e7
 obtain ⟨q,s8,e8,q0,q1,d8⟩:=dig (m:=(m:Int) + 1) d7.2 (by omega) (by omega)
 obtain ⟨q,rfl⟩:=Int.eq_ofNat_of_zero_le q0
 have h8:=st8 (m:=m) (s:=s) (L:=L) (a:=a) (b:=b) (w:=w) (wd:=wd) (o5:=o5) (o6:=o6) e8
 have l8:lstOf s8 L = some ((ces s m).map cw):=(d7.1.trans d8.1).lst (g6.lst (lst_get q5)) (by omega)
 obtain ⟨s9,h9,g9⟩:=st9 (o5:=o5) (o6:=o6) hs m1 (show q ≤ m by omega) l8 hb hsu
 obtain ⟨F,s10,h10,g10,l10⟩:=st10 (q:=q) (a:=a) (b:=b) (w:=w) (wd:=wd) (o5:=o5) (o6:=o6) (g9.lst l8)
 have n0:0 < min m 200:=by omega
 have n2:min m 200 ≤ 200:=Nat.min_le_right _ _
 obtain ⟨s11,h11,g11⟩:=st11 (m:=m) (L:=L) (q:=q) (o5:=o5) (o6:=o6) hs n0 n2 l10 hb hsu
 have l11:=g11.lst l10
 have l12:lstOf (s11 ++ [.dcT (chs [(98,24,some 7)])]) F = some ((ces s (min m 200)).map cw):=lstOf_old l11
 have q12:(s11 ++ [.dcT (chs [(98,24,some 7)])])[s11.length]? = some (.dcT (chs [(98,24,some 7)])):=new_get
 have h12:=fun g:GS => st12 (m:=m) (s:=s) (L:=L) (q:=q) (F:=F) (n:=n.toNat) (a:=a) (b:=b) (w:=w) (wd:=wd) (o5:=o5) (o6:=o6) (g:=g) (st:=s11)
 generalize s11 ++ [Ob.dcT (chs [(98,24,some 7)])] = s12 at l12 q12 h12
 generalize s11.length = e at q12 h12
 obtain ⟨due,s13,h13,g13,hdue⟩:=st13 (m:=m) (L:=L) (q:=q) (e:=e) (a:=a) (b:=b) (w:=w) (wd:=wd) (o5:=o5) (o6:=o6) l12
 obtain ⟨s14,h14,g14⟩:=st14 (m:=m) (L:=L) (q:=q) (a:=a) (b:=b) (w:=w) (wd:=wd) (o5:=o5) (o6:=o6) hs n0 n2 (g13.lst l12) (g13.get q12) hdue
 have l14:=(g13.trans g14).lst l12
 have q14:=(g13.trans g14).get q12
 have h15:=st15 (m:=m) (L:=L) (q:=q) (a:=a) (b:=b) (w:=w) (wd:=wd) (due:=due) (o5:=o5) (o6:=o6) n0 l14 q14
 have fe:F ≠ e:=fun z => by
  rw [z] at l14
  unfold lstOf at l14
  rw [q14] at l14
  cases l14
 obtain ⟨s16,h16⟩:=st16 (m:=m) (L:=L) (q:=q) (a:=a) (b:=b) (w:=w) (wd:=wd) (due:=due) (o5:=o5) (o6:=o6) hs n0 n2 ((Keep.set (l:=e)).lst l14 fe) (set_get q14)
 refine ⟨s16,fn_rt (n:=14) (g:=g_law) ?_⟩
 unfold g_law
 refine (sq_nx h1).trans ((sq_nx h2).trans ((sq_nx h3).trans ((sq_nx h4).trans ((sq_nx h5).trans ((sq_nx h6).trans ((sq_nx h7).trans ((sq_nx h8).trans ((sq_nx h9).trans ((sq_nx h10).trans ((sq_nx h11).trans ((h12 _).trans ((sq_nx h13).trans ((sq_nx h14).trans ((sq_nx h15).trans h16))))))))))))))
end K23
def PySem.W.Fast.tw2426079745129412650:Unit:=()
def PySem.W.Fast.tw3943064306440999154:Unit:=()
def PySem.W.Fast.tw11849295813920387974:Unit:=()
def PySem.W.Fast.tw17559548994807771299:Unit:=()
def PySem.W.Fast.tw11370996678670874445:Unit:=()
def PySem.W.Fast.tw7177297967763317892:Unit:=()
def PySem.W.Fast.tw15629801637482562255:Unit:=()
def PySem.W.Fast.tw4717467943149688677:Unit:=()
def PySem.W.Fast.tw5679367868318265737:Unit:=()
def PySem.W.Fast.tw13922029379146203423:Unit:=()
def PySem.W.Fast.tw8745285975075632561:Unit:=()
def PySem.W.Fast.tw13611492875487258067:Unit:=()
def PySem.W.Fast.tw3445144805885084139:Unit:=()
def PySem.W.Fast.tw6617324699787759755:Unit:=()
def PySem.W.Fast.tw5741065906919544110:Unit:=()
namespace K23
open PySem PySem.W PyProof.Rows
set_option maxHeartbeats 0 in
open_top head for PySem.Challenge.rw_onelook_k23_sheets_refused
end K23
namespace K23
open PySem J
open L2 (defScope defBody defArgs FnScope CX0 FnOk XK Hp)
theorem all_mk {l:PySem.W.OpenLaw} {w:World} {K:PySem.W.Frag} {h:Heap} {mg:Str → Option Value} {fa:Addr} (X:K.In h) (G:h.Ns mainGlobals mg) (hfa:mg "law" = some (.ref fa))
        {tk0 tk1 tk2 tk3_0 tk3_1 tk3_2 tk3_3 tk3_4 tk4 tk5 tk6 tk7:Tok} {ca3:Addr} {cd3_:Option Addr} {cn3:Nat} {cs3:Array (Option Value)} {da0:Addr} {de0:Nat} {dh0_0 dh0_1 dh0_2 dh0_3 dh0_4 dh0_5 dh0_6 dh0_7 dh0_8 dh0_9 dh0_10 dh0_11 dh0_12 dh0_13 dh0_14 dh0_15 dh0_16 dh0_17 dh0_18 dh0_19 dh0_20:Int} {dk0_0 dk0_1 dk0_2 dk0_3 dk0_4 dk0_5 dk0_6 dk0_7 dk0_8 dk0_9 dk0_10 dk0_11 dk0_12 dk0_13 dk0_14 dk0_15 dk0_16 dk0_17 dk0_18 dk0_19 dk0_20 dt0_0 dt0_1 dt0_2 dt0_3 dt0_4 dt0_5 dt0_6 dt0_7 dt0_8 dt0_9 dt0_10 dt0_11 dt0_12 dt0_13 dt0_14 dt0_15 dt0_16 dt0_17 dt0_18 dt0_19 dt0_20:Tok} {X0 X1 X2 X3 X4:Addr} 
    (d1:J.DefAt K "_law_mixed" s__law_mixed)
    (d2:J.DefAt K "_law_cell_at" s__law_cell_at)
    (d3:J.DefAt K "_law_stream" s__law_stream)
    (d4:J.DefAt K "_law_digit" s__law_digit)
    (d5:J.DefAt K "_law_bad" s__law_bad)
    (d6:J.DefAt K "with_room" s_with_room)
    (d7:J.DefAt K "is_place" s_is_place)
    (d8:J.DefAt K "made_place" s_made_place)
    (d9:J.DefAt K "part_many" s_part_many)
    (d10:J.DefAt K "parts_of" s_parts_of)
    (d11:J.DefAt K "level_below" s_level_below)
    (d12:J.DefAt K "has_area" s_has_area)
    (d13:J.DefAt K "is_whole" s_is_whole)
    (d14:J.DefAt K "is_text_sign" s_is_text_sign)
    (d15:J.DefAt K "has_text_signs" s_has_text_signs)
    (d16:J.DefAt K "is_text" s_is_text)
    (d17:J.DefAt K "is_number_row" s_is_number_row)
    (d18:J.DefAt K "are_pins" s_are_pins)
    (d19:J.DefAt K "has_corners" s_has_corners)
    (d20:J.DefAt K "area_many" s_area_many)
    (d21:J.DefAt K "is_area" s_is_area)
    (d22:J.DefAt K "is_tail" s_is_tail)
    (d23:J.DefAt K "tail_of" s_tail_of)
    (d24:J.DefAt K "is_piece" s_is_piece)
    (d25:J.DefAt K "made_formula" s_made_formula)
    (d26:J.DefAt K "is_great" s_is_great)
    (d27:J.DefAt K "is_number" s_is_number)
    (d28:J.DefAt K "made_content" s_made_content)
    (d29:J.DefAt K "put_content" s_put_content)
    (d30:J.DefAt K "made_sheet" s_made_sheet)
    (d31:J.DefAt K "with_changes" s_with_changes)
    (d32:J.DefAt K "with_cells" s_with_cells)
    (d33:J.DefAt K "_law_word" s__law_word)
    (d34:J.DefAt K "law" s_law)
    (z0:PySem.W.nsIn K mainGlobals "len" = some none)
    (z1:PySem.W.nsIn K mainGlobals "range" = some none)
    (z2:PySem.W.nsIn K mainGlobals "sum" = some none)
    (z3:PySem.W.nsIn K mainGlobals "isinstance" = some none)
    (z4:PySem.W.nsIn K mainGlobals "int" = some none)
    (z5:PySem.W.nsIn K mainGlobals "bool" = some none)
    (z6:PySem.W.nsIn K mainGlobals "all" = some none)
    (z7:PySem.W.nsIn K mainGlobals "ord" = some none)
    (z8:PySem.W.nsIn K mainGlobals "str" = some none)
    (z9:PySem.W.nsIn K mainGlobals "tuple" = some none)
    (z10:PySem.W.nsIn K mainGlobals "abs" = some none)
    (z11:PySem.W.nsIn K mainGlobals "dict" = some none)
    (z12:PySem.W.nsIn K mainGlobals "ValueError" = some none)
    (z13:PySem.W.nsIn K mainGlobals "min" = some none)
    (v0:PySem.W.nsIn K mainGlobals "MOST_CELLS" = some (some (.int 200 tk0)))
    (v1:PySem.W.nsIn K mainGlobals "ROWS" = some (some (.int 99 tk1)))
    (v2:PySem.W.nsIn K mainGlobals "COLUMNS" = some (some (.int 26 tk2)))
    (v3:PySem.W.nsIn K mainGlobals "AREA_WORDS" = some (some (.ref ca3))) (w3:K.lookup ca3 = some ⟨.type "tuple",cd3_,.seq #[.str "sum" tk3_0,.str "count" tk3_1,.str "least" tk3_2,.str "greatest" tk3_3,.str "find" tk3_4] cn3,cs3⟩)
    (v4:PySem.W.nsIn K mainGlobals "MOST_SIGNS" = some (some (.int 40 tk4)))
    (v5:PySem.W.nsIn K mainGlobals "MOST_PLACES" = some (some (.int 300 tk5)))
    (v6:PySem.W.nsIn K mainGlobals "MOST_PIECES" = some (some (.int 60 tk6)))
    (v7:PySem.W.nsIn K mainGlobals "MOST_DEEP" = some (some (.int 12 tk7)))
    (dv0:PySem.W.nsIn K mainGlobals "PART_COUNTS" = some (some (.ref da0))) (dw0:K.lookup da0 = some ⟨.type "dict",none,.dict #[⟨dh0_0,.str "num" dk0_0,.int 0 dt0_0⟩,⟨dh0_1,.str "text" dk0_1,.int 0 dt0_1⟩,⟨dh0_2,.str "lost" dk0_2,.int 0 dt0_2⟩,⟨dh0_3,.str "at" dk0_3,.int 0 dt0_3⟩,⟨dh0_4,.str "minus" dk0_4,.int 1 dt0_4⟩,⟨dh0_5,.str "not" dk0_5,.int 1 dt0_5⟩,⟨dh0_6,.str "+" dk0_6,.int 2 dt0_6⟩,⟨dh0_7,.str "-" dk0_7,.int 2 dt0_7⟩,⟨dh0_8,.str "*" dk0_8,.int 2 dt0_8⟩,⟨dh0_9,.str "/" dk0_9,.int 2 dt0_9⟩,⟨dh0_10,.str "&" dk0_10,.int 2 dt0_10⟩,⟨dh0_11,.str "<" dk0_11,.int 2 dt0_11⟩,⟨dh0_12,.str "=" dk0_12,.int 2 dt0_12⟩,⟨dh0_13,.str "rest" dk0_13,.int 2 dt0_13⟩,⟨dh0_14,.str "if" dk0_14,.int 3 dt0_14⟩,⟨dh0_15,.str "else" dk0_15,.int 2 dt0_15⟩,⟨dh0_16,.str "sum" dk0_16,.int 0 dt0_16⟩,⟨dh0_17,.str "count" dk0_17,.int 0 dt0_17⟩,⟨dh0_18,.str "least" dk0_18,.int 0 dt0_18⟩,⟨dh0_19,.str "greatest" dk0_19,.int 0 dt0_19⟩,⟨dh0_20,.str "find" dk0_20,.int 1 dt0_20⟩] de0,#[]⟩) (dm0:(da0 == sysModules) = false) (dx0_0:dh0_0 = hashStr w "num") (dx0_1:dh0_1 = hashStr w "text") (dx0_2:dh0_2 = hashStr w "lost") (dx0_3:dh0_3 = hashStr w "at") (dx0_4:dh0_4 = hashStr w "minus") (dx0_5:dh0_5 = hashStr w "not") (dx0_6:dh0_6 = hashStr w "+") (dx0_7:dh0_7 = hashStr w "-") (dx0_8:dh0_8 = hashStr w "*") (dx0_9:dh0_9 = hashStr w "/") (dx0_10:dh0_10 = hashStr w "&") (dx0_11:dh0_11 = hashStr w "<") (dx0_12:dh0_12 = hashStr w "=") (dx0_13:dh0_13 = hashStr w "rest") (dx0_14:dh0_14 = hashStr w "if") (dx0_15:dh0_15 = hashStr w "else") (dx0_16:dh0_16 = hashStr w "sum") (dx0_17:dh0_17 = hashStr w "count") (dx0_18:dh0_18 = hashStr w "least") (dx0_19:dh0_19 = hashStr w "greatest") (dx0_20:dh0_20 = hashStr w "find")
    (xa0:PySem.W.nsIn K mainGlobals "Full" = some (some (.ref X0))) (xe0:PySem.W.excIn K X0 bmV nwV = true) (xg0:PySem.W.findIn K (.ref X0) "__getattribute__" = some (some (.builtin "BaseException.__getattribute__"))) (xx0:PySem.W.findIn K (.ref X0) "__getattr__" = some none) (xc0:PySem.W.findIn K (.ref X0) "__class__" = some (some (.builtin "object.__class__")))
    (xa1:PySem.W.nsIn K mainGlobals "BadPlace" = some (some (.ref X1))) (xe1:PySem.W.excIn K X1 bmV nwV = true) (xg1:PySem.W.findIn K (.ref X1) "__getattribute__" = some (some (.builtin "BaseException.__getattribute__"))) (xx1:PySem.W.findIn K (.ref X1) "__getattr__" = some none) (xc1:PySem.W.findIn K (.ref X1) "__class__" = some (some (.builtin "object.__class__")))
    (xa2:PySem.W.nsIn K mainGlobals "BadFormula" = some (some (.ref X2))) (xe2:PySem.W.excIn K X2 bmV nwV = true) (xg2:PySem.W.findIn K (.ref X2) "__getattribute__" = some (some (.builtin "BaseException.__getattribute__"))) (xx2:PySem.W.findIn K (.ref X2) "__getattr__" = some none) (xc2:PySem.W.findIn K (.ref X2) "__class__" = some (some (.builtin "object.__class__")))
    (xa3:PySem.W.nsIn K mainGlobals "BadContent" = some (some (.ref X3))) (xe3:PySem.W.excIn K X3 bmV nwV = true) (xg3:PySem.W.findIn K (.ref X3) "__getattribute__" = some (some (.builtin "BaseException.__getattribute__"))) (xx3:PySem.W.findIn K (.ref X3) "__getattr__" = some none) (xc3:PySem.W.findIn K (.ref X3) "__class__" = some (some (.builtin "object.__class__")))
    (xa4:PySem.W.nsIn K mainGlobals "SheetError" = some (some (.ref X4))) (xe4:PySem.W.excIn K X4 bmV nwV = true)
    (pk0:PySem.W.kitOne K (.ref X0) (.ref X0) = some true)
    (pk1:PySem.W.kitOne K (.ref X0) (.ref X1) = some false)
    (pk2:PySem.W.kitOne K (.ref X0) (.ref X2) = some false)
    (pk3:PySem.W.kitOne K (.ref X0) (.ref X3) = some false)
    (pk4:PySem.W.kitOne K (.ref X0) (.ref X4) = some true)
    (pk5:PySem.W.kitOne K (.ref X1) (.ref X0) = some false)
    (pk6:PySem.W.kitOne K (.ref X1) (.ref X1) = some true)
    (pk7:PySem.W.kitOne K (.ref X1) (.ref X2) = some false)
    (pk8:PySem.W.kitOne K (.ref X1) (.ref X3) = some false)
    (pk9:PySem.W.kitOne K (.ref X1) (.ref X4) = some true)
    (pk10:PySem.W.kitOne K (.ref X2) (.ref X0) = some false)
    (pk11:PySem.W.kitOne K (.ref X2) (.ref X1) = some false)
    (pk12:PySem.W.kitOne K (.ref X2) (.ref X2) = some true)
    (pk13:PySem.W.kitOne K (.ref X2) (.ref X3) = some false)
    (pk14:PySem.W.kitOne K (.ref X2) (.ref X4) = some true)
    (pk15:PySem.W.kitOne K (.ref X3) (.ref X0) = some false)
    (pk16:PySem.W.kitOne K (.ref X3) (.ref X1) = some false)
    (pk17:PySem.W.kitOne K (.ref X3) (.ref X2) = some false)
    (pk18:PySem.W.kitOne K (.ref X3) (.ref X3) = some true)
    (pk19:PySem.W.kitOne K (.ref X3) (.ref X4) = some true)
    (pm0:PySem.W.mroIn K X0 (.ref X4) = some true)
    (pm1:PySem.W.mroIn K X1 (.ref X4) = some true)
    (pm2:PySem.W.mroIn K X2 (.ref X4) = some true)
    (pm3:PySem.W.mroIn K X3 (.ref X4) = some true)
    (pt0:PySem.W.kitOne K (.ref X0) (.type "ValueError") = some true)
    (pt1:PySem.W.kitOne K (.ref X1) (.type "ValueError") = some true)
    (pt2:PySem.W.kitOne K (.ref X2) (.type "ValueError") = some true)
    (pt3:PySem.W.kitOne K (.ref X3) (.type "ValueError") = some true)
     :
    ∃ fd:FuncData,(∀ (s:Shared) (u:Value),BindsTo s fd ⟨[u],[]⟩ [("script",u)]) ∧ ∀ base:Heap,K.In base → base.Ns mainGlobals mg → FnOk l.prog w K mg base (CXJ l.prog w) 12 fa fd ["script"] (spW K 1 F_law):=by
  refine J.law_has X G hfa d34 (fun _ _ _ _ _ _ s u => .of_eq rfl) (fun f fd Fu base kb nb => ?_)
  have Z0:=PySem.W.mg_none_of kb nb z0
  have Z1:=PySem.W.mg_none_of kb nb z1
  have Z2:=PySem.W.mg_none_of kb nb z2
  have Z3:=PySem.W.mg_none_of kb nb z3
  have Z4:=PySem.W.mg_none_of kb nb z4
  have Z5:=PySem.W.mg_none_of kb nb z5
  have Z6:=PySem.W.mg_none_of kb nb z6
  have Z7:=PySem.W.mg_none_of kb nb z7
  have Z8:=PySem.W.mg_none_of kb nb z8
  have Z9:=PySem.W.mg_none_of kb nb z9
  have Z10:=PySem.W.mg_none_of kb nb z10
  have Z11:=PySem.W.mg_none_of kb nb z11
  have Z12:=PySem.W.mg_none_of kb nb z12
  have Z13:=PySem.W.mg_none_of kb nb z13
  have V0:=PySem.W.mg_of kb nb v0
  have V1:=PySem.W.mg_of kb nb v1
  have V2:=PySem.W.mg_of kb nb v2
  have V3:=PySem.W.mg_of kb nb v3
  have V4:=PySem.W.mg_of kb nb v4
  have V5:=PySem.W.mg_of kb nb v5
  have V6:=PySem.W.mg_of kb nb v6
  have V7:=PySem.W.mg_of kb nb v7
  have TB:TabOk K tbl tblT tblC:=J.tab_mk ⟨⟨X0,X0,xa0,xa0,⟨xe0,xg0,xx0,xc0⟩,pk0⟩,⟨X0,X1,xa0,xa1,⟨xe0,xg0,xx0,xc0⟩,pk1⟩,⟨X0,X2,xa0,xa2,⟨xe0,xg0,xx0,xc0⟩,pk2⟩,⟨X0,X3,xa0,xa3,⟨xe0,xg0,xx0,xc0⟩,pk3⟩,⟨X0,X4,xa0,xa4,⟨xe0,xg0,xx0,xc0⟩,pk4⟩,⟨X1,X0,xa1,xa0,⟨xe1,xg1,xx1,xc1⟩,pk5⟩,⟨X1,X1,xa1,xa1,⟨xe1,xg1,xx1,xc1⟩,pk6⟩,⟨X1,X2,xa1,xa2,⟨xe1,xg1,xx1,xc1⟩,pk7⟩,⟨X1,X3,xa1,xa3,⟨xe1,xg1,xx1,xc1⟩,pk8⟩,⟨X1,X4,xa1,xa4,⟨xe1,xg1,xx1,xc1⟩,pk9⟩,⟨X2,X0,xa2,xa0,⟨xe2,xg2,xx2,xc2⟩,pk10⟩,⟨X2,X1,xa2,xa1,⟨xe2,xg2,xx2,xc2⟩,pk11⟩,⟨X2,X2,xa2,xa2,⟨xe2,xg2,xx2,xc2⟩,pk12⟩,⟨X2,X3,xa2,xa3,⟨xe2,xg2,xx2,xc2⟩,pk13⟩,⟨X2,X4,xa2,xa4,⟨xe2,xg2,xx2,xc2⟩,pk14⟩,⟨X3,X0,xa3,xa0,⟨xe3,xg3,xx3,xc3⟩,pk15⟩,⟨X3,X1,xa3,xa1,⟨xe3,xg3,xx3,xc3⟩,pk16⟩,⟨X3,X2,xa3,xa2,⟨xe3,xg3,xx3,xc3⟩,pk17⟩,⟨X3,X3,xa3,xa3,⟨xe3,xg3,xx3,xc3⟩,pk18⟩,⟨X3,X4,xa3,xa4,⟨xe3,xg3,xx3,xc3⟩,pk19⟩,trivial⟩ ⟨⟨X0,xa0,⟨xe0,xg0,xx0,xc0⟩,pt0⟩,⟨X1,xa1,⟨xe1,xg1,xx1,xc1⟩,pt1⟩,⟨X2,xa2,⟨xe2,xg2,xx2,xc2⟩,pt2⟩,⟨X3,xa3,⟨xe3,xg3,xx3,xc3⟩,pt3⟩,trivial⟩ ⟨⟨X0,X4,xa0,xa4,xe0,xe4,pm0⟩,⟨X1,X4,xa1,xa4,xe1,xe4,pm1⟩,⟨X2,X4,xa2,xa4,xe2,xe4,pm2⟩,⟨X3,X4,xa3,xa4,xe3,xe4,pm3⟩,trivial⟩
  have H1:J.Has l.prog w K mg base 1 "_law_mixed" 2 F__law_mixed:=J.has_def (ps:=["cell","k"]) kb nb d1 (J.topOk_mk (c:=c__law_mixed) (k:=0) trivial trivial trivial TB trivial trivial trivial) sc__law_mixed rfl r__law_mixed (fun _ _ _ _ _ _ us hl => J.ln2 us hl fun _ _ => rfl)
  have H2:J.Has l.prog w K mg base 1 "_law_cell_at" 2 F__law_cell_at:=J.has_def (ps:=["script","k"]) kb nb d2 (J.topOk_mk (c:=c__law_cell_at) (k:=0) trivial ⟨Z0,trivial⟩ trivial TB trivial trivial trivial) sc__law_cell_at rfl r__law_cell_at (fun _ _ _ _ _ _ us hl => J.ln2 us hl fun _ _ => rfl)
  have H3:J.Has l.prog w K mg base 2 "_law_stream" 2 F__law_stream:=J.has_def (ps:=["script","k"]) kb nb d3 (J.topOk_mk (c:=c__law_stream) (k:=1) trivial ⟨Z1,Z0,Z2,trivial⟩ ⟨H1.mono (by decide),H2.mono (by decide),trivial⟩ TB trivial trivial trivial) sc__law_stream rfl r__law_stream (fun _ _ _ _ _ _ us hl => J.ln2 us hl fun _ _ => rfl)
  have H4:J.Has l.prog w K mg base 1 "_law_digit" 2 F__law_digit:=J.has_def (ps:=["row","many"]) kb nb d4 (J.topOk_mk (c:=c__law_digit) (k:=0) trivial trivial trivial TB trivial trivial trivial) sc__law_digit rfl r__law_digit (fun _ _ _ _ _ _ us hl => J.ln2 us hl fun _ _ => rfl)
  have H5:J.Has l.prog w K mg base 2 "_law_bad" 1 F__law_bad:=J.has_def (ps:=["row"]) kb nb d5 (J.topOk_mk (c:=c__law_bad) (k:=1) trivial trivial ⟨H4.mono (by decide),trivial⟩ TB trivial trivial trivial) sc__law_bad rfl r__law_bad (fun _ _ _ _ _ _ us hl => J.ln1 us hl fun _ => rfl)
  have H6:J.Has l.prog w K mg base 1 "with_room" 1 F_with_room:=J.has_def (ps:=["sheet"]) kb nb d6 (J.topOk_mk (c:=c_with_room) (k:=0) ⟨⟨_,V0⟩,trivial⟩ ⟨Z0,trivial⟩ trivial TB ⟨⟨X0,PySem.W.mg_of kb nb xa0,⟨xa0,xe0⟩⟩,trivial⟩ trivial trivial) sc_with_room rfl r_with_room (fun _ _ _ _ _ _ us hl => J.ln1 us hl fun _ => rfl)
  have H7:J.Has l.prog w K mg base 1 "is_place" 1 F_is_place:=J.has_def (ps:=["place"]) kb nb d7 (J.topOk_mk (c:=c_is_place) (k:=0) ⟨⟨_,V1⟩,⟨_,V2⟩,trivial⟩ trivial trivial TB trivial trivial trivial) sc_is_place rfl r_is_place (fun _ _ _ _ _ _ us hl => J.ln1 us hl fun _ => rfl)
  have H8:J.Has l.prog w K mg base 2 "made_place" 2 F_made_place:=J.has_def (ps:=["row","column"]) kb nb d8 (J.topOk_mk (c:=c_made_place) (k:=1) trivial trivial ⟨H7.mono (by decide),trivial⟩ TB ⟨⟨X1,PySem.W.mg_of kb nb xa1,⟨xa1,xe1⟩⟩,trivial⟩ trivial trivial) sc_made_place rfl r_made_place (fun _ _ _ _ _ _ us hl => J.ln2 us hl fun _ _ => rfl)
  have H9:J.Has l.prog w K mg base 1 "part_many" 1 F_part_many:=J.has_def (ps:=["word"]) kb nb d9 (J.topOk_mk (c:=c_part_many) (k:=0) trivial trivial trivial TB trivial trivial ⟨⟨_,_,_,PySem.W.mg_of kb nb dv0,dw0,dm0,⟨⟨dx0_0,⟨_,rfl⟩,⟨_,rfl⟩⟩,⟨dx0_1,⟨_,rfl⟩,⟨_,rfl⟩⟩,⟨dx0_2,⟨_,rfl⟩,⟨_,rfl⟩⟩,⟨dx0_3,⟨_,rfl⟩,⟨_,rfl⟩⟩,⟨dx0_4,⟨_,rfl⟩,⟨_,rfl⟩⟩,⟨dx0_5,⟨_,rfl⟩,⟨_,rfl⟩⟩,⟨dx0_6,⟨_,rfl⟩,⟨_,rfl⟩⟩,⟨dx0_7,⟨_,rfl⟩,⟨_,rfl⟩⟩,⟨dx0_8,⟨_,rfl⟩,⟨_,rfl⟩⟩,⟨dx0_9,⟨_,rfl⟩,⟨_,rfl⟩⟩,⟨dx0_10,⟨_,rfl⟩,⟨_,rfl⟩⟩,⟨dx0_11,⟨_,rfl⟩,⟨_,rfl⟩⟩,⟨dx0_12,⟨_,rfl⟩,⟨_,rfl⟩⟩,⟨dx0_13,⟨_,rfl⟩,⟨_,rfl⟩⟩,⟨dx0_14,⟨_,rfl⟩,⟨_,rfl⟩⟩,⟨dx0_15,⟨_,rfl⟩,⟨_,rfl⟩⟩,⟨dx0_16,⟨_,rfl⟩,⟨_,rfl⟩⟩,⟨dx0_17,⟨_,rfl⟩,⟨_,rfl⟩⟩,⟨dx0_18,⟨_,rfl⟩,⟨_,rfl⟩⟩,⟨dx0_19,⟨_,rfl⟩,⟨_,rfl⟩⟩,⟨dx0_20,⟨_,rfl⟩,⟨_,rfl⟩⟩,trivial⟩,by decide +kernel⟩,trivial⟩) sc_part_many rfl r_part_many (fun _ _ _ _ _ _ us hl => J.ln1 us hl fun _ => rfl)
  have H10:J.Has l.prog w K mg base 2 "parts_of" 1 F_parts_of:=J.has_def (ps:=["formula"]) kb nb d10 (J.topOk_mk (c:=c_parts_of) (k:=1) trivial trivial ⟨H9.mono (by decide),trivial⟩ TB trivial trivial trivial) sc_parts_of rfl r_parts_of (fun _ _ _ _ _ _ us hl => J.ln1 us hl fun _ => rfl)
  have H11:J.Has l.prog w K mg base 3 "level_below" 1 F_level_below:=J.has_def (ps:=["level"]) kb nb d11 (J.topOk_mk (c:=c_level_below) (k:=2) trivial trivial ⟨H10.mono (by decide),trivial⟩ TB trivial trivial trivial) sc_level_below rfl r_level_below (fun _ _ _ _ _ _ us hl => J.ln1 us hl fun _ => rfl)
  have H12:J.Has l.prog w K mg base 1 "has_area" 1 F_has_area:=J.has_def (ps:=["word"]) kb nb d12 (J.topOk_mk (c:=c_has_area) (k:=0) ⟨⟨_,[.str "sum",.str "count",.str "least",.str "greatest",.str "find"],_,_,_,V3,w3,rfl,rfl,(show (5:Nat) ≤ sizeLine by decide),(.cons ⟨_,rfl⟩ (.cons ⟨_,rfl⟩ (.cons ⟨_,rfl⟩ (.cons ⟨_,rfl⟩ (.cons ⟨_,rfl⟩ .nil))))),⟨⟨rfl,by decide +kernel⟩,⟨⟨rfl,by decide +kernel⟩,⟨⟨rfl,by decide +kernel⟩,⟨⟨rfl,by decide +kernel⟩,⟨⟨rfl,by decide +kernel⟩,trivial⟩⟩⟩⟩⟩⟩,trivial⟩ trivial trivial TB trivial trivial trivial) sc_has_area rfl r_has_area (fun _ _ _ _ _ _ us hl => J.ln1 us hl fun _ => rfl)
  have H13:J.Has l.prog w K mg base 1 "is_whole" 1 F_is_whole:=J.has_def (ps:=["thing"]) kb nb d13 (J.topOk_mk (c:=c_is_whole) (k:=0) trivial ⟨Z3,Z4,Z5,trivial⟩ trivial TB trivial trivial trivial) sc_is_whole rfl r_is_whole (fun _ _ _ _ _ _ us hl => J.ln1 us hl fun _ => rfl)
  have H14:J.Has l.prog w K mg base 1 "is_text_sign" 1 F_is_text_sign:=J.has_def (ps:=["number"]) kb nb d14 (J.topOk_mk (c:=c_is_text_sign) (k:=0) trivial trivial trivial TB trivial trivial trivial) sc_is_text_sign rfl r_is_text_sign (fun _ _ _ _ _ _ us hl => J.ln1 us hl fun _ => rfl)
  have H15:J.Has l.prog w K mg base 2 "has_text_signs" 1 F_has_text_signs:=J.has_def (ps:=["text"]) kb nb d15 (J.topOk_mk (c:=c_has_text_signs) (k:=1) trivial ⟨Z6,Z7,trivial⟩ ⟨H14.mono (by decide),trivial⟩ TB trivial trivial trivial) sc_has_text_signs rfl r_has_text_signs (fun _ _ _ _ _ _ us hl => J.ln1 us hl fun _ => rfl)
  have H16:J.Has l.prog w K mg base 3 "is_text" 1 F_is_text:=J.has_def (ps:=["thing"]) kb nb d16 (J.topOk_mk (c:=c_is_text) (k:=2) ⟨⟨_,V4⟩,trivial⟩ ⟨Z3,Z8,Z0,trivial⟩ ⟨H15.mono (by decide),trivial⟩ TB trivial trivial trivial) sc_is_text rfl r_is_text (fun _ _ _ _ _ _ us hl => J.ln1 us hl fun _ => rfl)
  have H17:J.Has l.prog w K mg base 2 "is_number_row" 2 F_is_number_row:=J.has_def (ps:=["thing","many"]) kb nb d17 (J.topOk_mk (c:=c_is_number_row) (k:=1) trivial ⟨Z3,Z9,Z6,Z0,trivial⟩ ⟨H13.mono (by decide),trivial⟩ TB trivial trivial trivial) sc_is_number_row rfl r_is_number_row (fun _ _ _ _ _ _ us hl => J.ln2 us hl fun _ _ => rfl)
  have H18:J.Has l.prog w K mg base 3 "are_pins" 2 F_are_pins:=J.has_def (ps:=["thing","many"]) kb nb d18 (J.topOk_mk (c:=c_are_pins) (k:=2) trivial ⟨Z6,trivial⟩ ⟨H17.mono (by decide),trivial⟩ TB trivial trivial trivial) sc_are_pins rfl r_are_pins (fun _ _ _ _ _ _ us hl => J.ln2 us hl fun _ _ => rfl)
  have H19:J.Has l.prog w K mg base 2 "has_corners" 1 F_has_corners:=J.has_def (ps:=["area"]) kb nb d19 (J.topOk_mk (c:=c_has_corners) (k:=1) trivial trivial ⟨H7.mono (by decide),trivial⟩ TB trivial trivial trivial) sc_has_corners rfl r_has_corners (fun _ _ _ _ _ _ us hl => J.ln1 us hl fun _ => rfl)
  have H20:J.Has l.prog w K mg base 1 "area_many" 1 F_area_many:=J.has_def (ps:=["area"]) kb nb d20 (J.topOk_mk (c:=c_area_many) (k:=0) trivial trivial trivial TB trivial trivial trivial) sc_area_many rfl r_area_many (fun _ _ _ _ _ _ us hl => J.ln1 us hl fun _ => rfl)
  have H21:J.Has l.prog w K mg base 3 "is_area" 1 F_is_area:=J.has_def (ps:=["area"]) kb nb d21 (J.topOk_mk (c:=c_is_area) (k:=2) ⟨⟨_,V5⟩,trivial⟩ trivial ⟨H19.mono (by decide),H20.mono (by decide),trivial⟩ TB trivial trivial trivial) sc_is_area rfl r_is_area (fun _ _ _ _ _ _ us hl => J.ln1 us hl fun _ => rfl)
  have H22:J.Has l.prog w K mg base 4 "is_tail" 2 F_is_tail:=J.has_def (ps:=["word","tail"]) kb nb d22 (J.topOk_mk (c:=c_is_tail) (k:=3) trivial ⟨Z0,trivial⟩ ⟨H12.mono (by decide),H13.mono (by decide),H16.mono (by decide),H17.mono (by decide),H7.mono (by decide),H18.mono (by decide),H21.mono (by decide),trivial⟩ TB trivial trivial trivial) sc_is_tail rfl r_is_tail (fun _ _ _ _ _ _ us hl => J.ln2 us hl fun _ _ => rfl)
  have H23:J.Has l.prog w K mg base 2 "tail_of" 1 F_tail_of:=J.has_def (ps:=["formula"]) kb nb d23 (J.topOk_mk (c:=c_tail_of) (k:=1) trivial trivial ⟨H9.mono (by decide),trivial⟩ TB trivial trivial trivial) sc_tail_of rfl r_tail_of (fun _ _ _ _ _ _ us hl => J.ln1 us hl fun _ => rfl)
  have H24:J.Has l.prog w K mg base 5 "is_piece" 1 F_is_piece:=J.has_def (ps:=["thing"]) kb nb d24 (J.topOk_mk (c:=c_is_piece) (k:=4) trivial ⟨Z3,Z9,Z0,Z8,trivial⟩ ⟨H22.mono (by decide),H9.mono (by decide),H23.mono (by decide),H10.mono (by decide),trivial⟩ TB trivial trivial ⟨⟨_,_,_,PySem.W.mg_of kb nb dv0,dw0,dm0,⟨⟨dx0_0,⟨_,rfl⟩,⟨_,rfl⟩⟩,⟨dx0_1,⟨_,rfl⟩,⟨_,rfl⟩⟩,⟨dx0_2,⟨_,rfl⟩,⟨_,rfl⟩⟩,⟨dx0_3,⟨_,rfl⟩,⟨_,rfl⟩⟩,⟨dx0_4,⟨_,rfl⟩,⟨_,rfl⟩⟩,⟨dx0_5,⟨_,rfl⟩,⟨_,rfl⟩⟩,⟨dx0_6,⟨_,rfl⟩,⟨_,rfl⟩⟩,⟨dx0_7,⟨_,rfl⟩,⟨_,rfl⟩⟩,⟨dx0_8,⟨_,rfl⟩,⟨_,rfl⟩⟩,⟨dx0_9,⟨_,rfl⟩,⟨_,rfl⟩⟩,⟨dx0_10,⟨_,rfl⟩,⟨_,rfl⟩⟩,⟨dx0_11,⟨_,rfl⟩,⟨_,rfl⟩⟩,⟨dx0_12,⟨_,rfl⟩,⟨_,rfl⟩⟩,⟨dx0_13,⟨_,rfl⟩,⟨_,rfl⟩⟩,⟨dx0_14,⟨_,rfl⟩,⟨_,rfl⟩⟩,⟨dx0_15,⟨_,rfl⟩,⟨_,rfl⟩⟩,⟨dx0_16,⟨_,rfl⟩,⟨_,rfl⟩⟩,⟨dx0_17,⟨_,rfl⟩,⟨_,rfl⟩⟩,⟨dx0_18,⟨_,rfl⟩,⟨_,rfl⟩⟩,⟨dx0_19,⟨_,rfl⟩,⟨_,rfl⟩⟩,⟨dx0_20,⟨_,rfl⟩,⟨_,rfl⟩⟩,trivial⟩,by decide +kernel⟩,trivial⟩) sc_is_piece rfl r_is_piece (fun _ _ _ _ _ _ us hl => J.ln1 us hl fun _ => rfl)
  have H25:J.Has l.prog w K mg base 6 "made_formula" 1 F_made_formula:=J.has_def (ps:=["formula"]) kb nb d25 (J.topOk_mk (c:=c_made_formula) (k:=5) ⟨⟨_,V6⟩,⟨_,V7⟩,trivial⟩ ⟨Z0,Z6,trivial⟩ ⟨H11.mono (by decide),H24.mono (by decide),trivial⟩ TB ⟨⟨X2,PySem.W.mg_of kb nb xa2,⟨xa2,xe2⟩⟩,trivial⟩ trivial trivial) sc_made_formula rfl r_made_formula (fun _ _ _ _ _ _ us hl => J.ln1 us hl fun _ => rfl)
  have H26:J.Has l.prog w K mg base 1 "is_great" 1 F_is_great:=J.has_def (ps:=["number"]) kb nb d26 (J.topOk_mk (c:=c_is_great) (k:=0) trivial ⟨Z10,trivial⟩ trivial TB trivial trivial trivial) sc_is_great rfl r_is_great (fun _ _ _ _ _ _ us hl => J.ln1 us hl fun _ => rfl)
  have H27:J.Has l.prog w K mg base 2 "is_number" 1 F_is_number:=J.has_def (ps:=["content"]) kb nb d27 (J.topOk_mk (c:=c_is_number) (k:=1) trivial trivial ⟨H13.mono (by decide),H26.mono (by decide),trivial⟩ TB trivial trivial trivial) sc_is_number rfl r_is_number (fun _ _ _ _ _ _ us hl => J.ln1 us hl fun _ => rfl)
  have H28:J.Has l.prog w K mg base 7 "made_content" 1 F_made_content:=J.has_def (ps:=["content"]) kb nb d28 (J.topOk_mk (c:=c_made_content) (k:=6) trivial ⟨Z3,Z9,trivial⟩ ⟨H25.mono (by decide),H16.mono (by decide),H27.mono (by decide),trivial⟩ TB ⟨⟨X3,PySem.W.mg_of kb nb xa3,⟨xa3,xe3⟩⟩,trivial⟩ trivial trivial) sc_made_content rfl r_made_content (fun _ _ _ _ _ _ us hl => J.ln1 us hl fun _ => rfl)
  have H29:J.Has l.prog w K mg base 8 "put_content" 3 F_put_content:=J.has_def (ps:=["sheet","place","content"]) kb nb d29 (J.topOk_mk (c:=c_put_content) (k:=7) trivial trivial ⟨H8.mono (by decide),H28.mono (by decide),trivial⟩ TB trivial trivial trivial) sc_put_content rfl r_put_content (fun _ _ _ _ _ _ us hl => J.ln3 us hl fun _ _ _ => rfl)
  have H30:J.Has l.prog w K mg base 9 "made_sheet" 1 F_made_sheet:=J.has_def (ps:=["cells"]) kb nb d30 (J.topOk_mk (c:=c_made_sheet) (k:=8) trivial trivial ⟨H6.mono (by decide),H29.mono (by decide),trivial⟩ TB trivial trivial trivial) sc_made_sheet rfl r_made_sheet (fun _ _ _ _ _ _ us hl => J.ln1 us hl fun _ => rfl)
  have H31:J.Has l.prog w K mg base 9 "with_changes" 2 F_with_changes:=J.has_def (ps:=["sheet","changes"]) kb nb d31 (J.topOk_mk (c:=c_with_changes) (k:=8) trivial ⟨Z11,trivial⟩ ⟨H29.mono (by decide),trivial⟩ TB trivial trivial trivial) sc_with_changes rfl r_with_changes (fun _ _ _ _ _ _ us hl => J.ln2 us hl fun _ _ => rfl)
  have H32:J.Has l.prog w K mg base 10 "with_cells" 2 F_with_cells:=J.has_def (ps:=["sheet","changes"]) kb nb d32 (J.topOk_mk (c:=c_with_cells) (k:=9) trivial trivial ⟨H6.mono (by decide),H31.mono (by decide),trivial⟩ TB trivial trivial trivial) sc_with_cells rfl r_with_cells (fun _ _ _ _ _ _ us hl => J.ln2 us hl fun _ _ => rfl)
  have H33:J.Has l.prog w K mg base 11 "_law_word" 2 F__law_word:=J.has_def (ps:=["cells","changes"]) kb nb d33 (J.topOk_mk (c:=c__law_word) (k:=10) trivial ⟨Z3,Z12,trivial⟩ ⟨H30.mono (by decide),H32.mono (by decide),trivial⟩ TB ⟨⟨X4,PySem.W.mg_of kb nb xa4,⟨xa4,xe4⟩⟩,trivial⟩ ⟨⟨X1,PySem.W.mg_of kb nb xa1,xa1⟩,⟨X3,PySem.W.mg_of kb nb xa3,xa3⟩,⟨X2,PySem.W.mg_of kb nb xa2,xa2⟩,⟨X0,PySem.W.mg_of kb nb xa0,xa0⟩,trivial⟩ trivial) sc__law_word rfl r__law_word (fun _ _ _ _ _ _ us hl => J.ln2 us hl fun _ _ => rfl)
  exact J.fn_def Fu (J.topOk_mk (c:=c_law) (k:=11) trivial ⟨Z1,Z4,Z13,Z11,Z0,trivial⟩ ⟨H3.mono (by decide),H5.mono (by decide),H4.mono (by decide),H33.mono (by decide),trivial⟩ TB trivial trivial trivial) sc_law rfl r_law
end K23
open PySem PySem.W PyProof.Rows
set_option maxRecDepth 100000 in
set_option maxHeartbeats 0 in
theorem PySem.Challenge.cw_onelook_k23_sheets_refused_holds : PySem.Challenge.rw_onelook_k23_sheets_refused.Holds := by
  refine K23.head ?_
  k_fill
  refine L2.walk_of (l:=PySem.Challenge.rw_onelook_k23_sheets_refused) (n:=63) (k:=12) (x:="script") (CX:=fun w => J.CXJ PySem.Challenge.rw_onelook_k23_sheets_refused.prog w) (sp:=fun w => J.spW _ 1 K23.F_law) rfl (by decide) rfl ⟨rfl,by decide,by decide⟩ (fun w h Y => PySem.W.kIn_of Y) ?F (fun w H a ns hl hO hS => J.law_sp K23.law_true H a ns hl (J.OnlyT.of hO) hS (J.tb_none ?Ta ?Tb ?Tc)) (fun _ _ _ _ _ z => z.elim fun _ y => y.elim fun _ x => x.2)
  case F =>
    intro w mg fa h KX G hmg
    refine' K23.all_mk KX G hmg ?d1 ?d2 ?d3 ?d4 ?d5 ?d6 ?d7 ?d8 ?d9 ?d10 ?d11 ?d12 ?d13 ?d14 ?d15 ?d16 ?d17 ?d18 ?d19 ?d20 ?d21 ?d22 ?d23 ?d24 ?d25 ?d26 ?d27 ?d28 ?d29 ?d30 ?d31 ?d32 ?d33 ?d34 ?z0 ?z1 ?z2 ?z3 ?z4 ?z5 ?z6 ?z7 ?z8 ?z9 ?z10 ?z11 ?z12 ?z13 ?v0 ?v1 ?v2 ?v3 ?w3 ?v4 ?v5 ?v6 ?v7 ?dv0 ?dw0 ?dm0 ?dx0_0 ?dx0_1 ?dx0_2 ?dx0_3 ?dx0_4 ?dx0_5 ?dx0_6 ?dx0_7 ?dx0_8 ?dx0_9 ?dx0_10 ?dx0_11 ?dx0_12 ?dx0_13 ?dx0_14 ?dx0_15 ?dx0_16 ?dx0_17 ?dx0_18 ?dx0_19 ?dx0_20 ?xa0 ?xe0 ?xg0 ?xx0 ?xc0 ?xa1 ?xe1 ?xg1 ?xx1 ?xc1 ?xa2 ?xe2 ?xg2 ?xx2 ?xc2 ?xa3 ?xe3 ?xg3 ?xx3 ?xc3 ?xa4 ?xe4 ?pk0 ?pk1 ?pk2 ?pk3 ?pk4 ?pk5 ?pk6 ?pk7 ?pk8 ?pk9 ?pk10 ?pk11 ?pk12 ?pk13 ?pk14 ?pk15 ?pk16 ?pk17 ?pk18 ?pk19 ?pm0 ?pm1 ?pm2 ?pm3 ?pt0 ?pt1 ?pt2 ?pt3
    (case d1 => refine' J.def_at ?a ?l ?c ?k; (case a => k_is); (case l => k_is); (case c => k_is); (case k => k_is))
    (case d2 => refine' J.def_at ?a ?l ?c ?k; (case a => k_is); (case l => k_is); (case c => k_is); (case k => k_is))
    (case d3 => refine' J.def_at ?a ?l ?c ?k; (case a => k_is); (case l => k_is); (case c => k_is); (case k => k_is))
    (case d4 => refine' J.def_at ?a ?l ?c ?k; (case a => k_is); (case l => k_is); (case c => k_is); (case k => k_is))
    (case d5 => refine' J.def_at ?a ?l ?c ?k; (case a => k_is); (case l => k_is); (case c => k_is); (case k => k_is))
    (case d6 => refine' J.def_at ?a ?l ?c ?k; (case a => k_is); (case l => k_is); (case c => k_is); (case k => k_is))
    (case d7 => refine' J.def_at ?a ?l ?c ?k; (case a => k_is); (case l => k_is); (case c => k_is); (case k => k_is))
    (case d8 => refine' J.def_at ?a ?l ?c ?k; (case a => k_is); (case l => k_is); (case c => k_is); (case k => k_is))
    (case d9 => refine' J.def_at ?a ?l ?c ?k; (case a => k_is); (case l => k_is); (case c => k_is); (case k => k_is))
    (case d10 => refine' J.def_at ?a ?l ?c ?k; (case a => k_is); (case l => k_is); (case c => k_is); (case k => k_is))
    (case d11 => refine' J.def_at ?a ?l ?c ?k; (case a => k_is); (case l => k_is); (case c => k_is); (case k => k_is))
    (case d12 => refine' J.def_at ?a ?l ?c ?k; (case a => k_is); (case l => k_is); (case c => k_is); (case k => k_is))
    (case d13 => refine' J.def_at ?a ?l ?c ?k; (case a => k_is); (case l => k_is); (case c => k_is); (case k => k_is))
    (case d14 => refine' J.def_at ?a ?l ?c ?k; (case a => k_is); (case l => k_is); (case c => k_is); (case k => k_is))
    (case d15 => refine' J.def_at ?a ?l ?c ?k; (case a => k_is); (case l => k_is); (case c => k_is); (case k => k_is))
    (case d16 => refine' J.def_at ?a ?l ?c ?k; (case a => k_is); (case l => k_is); (case c => k_is); (case k => k_is))
    (case d17 => refine' J.def_at ?a ?l ?c ?k; (case a => k_is); (case l => k_is); (case c => k_is); (case k => k_is))
    (case d18 => refine' J.def_at ?a ?l ?c ?k; (case a => k_is); (case l => k_is); (case c => k_is); (case k => k_is))
    (case d19 => refine' J.def_at ?a ?l ?c ?k; (case a => k_is); (case l => k_is); (case c => k_is); (case k => k_is))
    (case d20 => refine' J.def_at ?a ?l ?c ?k; (case a => k_is); (case l => k_is); (case c => k_is); (case k => k_is))
    (case d21 => refine' J.def_at ?a ?l ?c ?k; (case a => k_is); (case l => k_is); (case c => k_is); (case k => k_is))
    (case d22 => refine' J.def_at ?a ?l ?c ?k; (case a => k_is); (case l => k_is); (case c => k_is); (case k => k_is))
    (case d23 => refine' J.def_at ?a ?l ?c ?k; (case a => k_is); (case l => k_is); (case c => k_is); (case k => k_is))
    (case d24 => refine' J.def_at ?a ?l ?c ?k; (case a => k_is); (case l => k_is); (case c => k_is); (case k => k_is))
    (case d25 => refine' J.def_at ?a ?l ?c ?k; (case a => k_is); (case l => k_is); (case c => k_is); (case k => k_is))
    (case d26 => refine' J.def_at ?a ?l ?c ?k; (case a => k_is); (case l => k_is); (case c => k_is); (case k => k_is))
    (case d27 => refine' J.def_at ?a ?l ?c ?k; (case a => k_is); (case l => k_is); (case c => k_is); (case k => k_is))
    (case d28 => refine' J.def_at ?a ?l ?c ?k; (case a => k_is); (case l => k_is); (case c => k_is); (case k => k_is))
    (case d29 => refine' J.def_at ?a ?l ?c ?k; (case a => k_is); (case l => k_is); (case c => k_is); (case k => k_is))
    (case d30 => refine' J.def_at ?a ?l ?c ?k; (case a => k_is); (case l => k_is); (case c => k_is); (case k => k_is))
    (case d31 => refine' J.def_at ?a ?l ?c ?k; (case a => k_is); (case l => k_is); (case c => k_is); (case k => k_is))
    (case d32 => refine' J.def_at ?a ?l ?c ?k; (case a => k_is); (case l => k_is); (case c => k_is); (case k => k_is))
    (case d33 => refine' J.def_at ?a ?l ?c ?k; (case a => k_is); (case l => k_is); (case c => k_is); (case k => k_is))
    (case d34 => refine' J.def_at ?a ?l ?c ?k; (case a => k_is); (case l => k_is); (case c => k_is); (case k => k_is))
    (case z0 => k_is)
    (case z1 => k_is)
    (case z2 => k_is)
    (case z3 => k_is)
    (case z4 => k_is)
    (case z5 => k_is)
    (case z6 => k_is)
    (case z7 => k_is)
    (case z8 => k_is)
    (case z9 => k_is)
    (case z10 => k_is)
    (case z11 => k_is)
    (case z12 => k_is)
    (case z13 => k_is)
    (case v0 => k_is)
    (case v1 => k_is)
    (case v2 => k_is)
    (case v3 => k_is)
    (case w3 => k_is)
    (case v4 => k_is)
    (case v5 => k_is)
    (case v6 => k_is)
    (case v7 => k_is)
    (case dv0 => k_is)
    (case dw0 => k_is)
    (case dm0 => rfl)
    (case dx0_0 => rfl)
    (case dx0_1 => rfl)
    (case dx0_2 => rfl)
    (case dx0_3 => rfl)
    (case dx0_4 => rfl)
    (case dx0_5 => rfl)
    (case dx0_6 => rfl)
    (case dx0_7 => rfl)
    (case dx0_8 => rfl)
    (case dx0_9 => rfl)
    (case dx0_10 => rfl)
    (case dx0_11 => rfl)
    (case dx0_12 => rfl)
    (case dx0_13 => rfl)
    (case dx0_14 => rfl)
    (case dx0_15 => rfl)
    (case dx0_16 => rfl)
    (case dx0_17 => rfl)
    (case dx0_18 => rfl)
    (case dx0_19 => rfl)
    (case dx0_20 => rfl)
    (case xa0 => k_is)
    (case xe0 => k_exc)
    (case xg0 => k_is)
    (case xx0 => k_is)
    (case xc0 => k_is)
    (case xa1 => k_is)
    (case xe1 => k_exc)
    (case xg1 => k_is)
    (case xx1 => k_is)
    (case xc1 => k_is)
    (case xa2 => k_is)
    (case xe2 => k_exc)
    (case xg2 => k_is)
    (case xx2 => k_is)
    (case xc2 => k_is)
    (case xa3 => k_is)
    (case xe3 => k_exc)
    (case xg3 => k_is)
    (case xx3 => k_is)
    (case xc3 => k_is)
    (case xa4 => k_is)
    (case xe4 => k_exc)
    (case pk0 => kit_is)
    (case pk1 => kit_is)
    (case pk2 => kit_is)
    (case pk3 => kit_is)
    (case pk4 => kit_is)
    (case pk5 => kit_is)
    (case pk6 => kit_is)
    (case pk7 => kit_is)
    (case pk8 => kit_is)
    (case pk9 => kit_is)
    (case pk10 => kit_is)
    (case pk11 => kit_is)
    (case pk12 => kit_is)
    (case pk13 => kit_is)
    (case pk14 => kit_is)
    (case pk15 => kit_is)
    (case pk16 => kit_is)
    (case pk17 => kit_is)
    (case pk18 => kit_is)
    (case pk19 => kit_is)
    (case pm0 => k_is)
    (case pm1 => k_is)
    (case pm2 => k_is)
    (case pm3 => k_is)
    (case pt0 => kit_is)
    (case pt1 => kit_is)
    (case pt2 => kit_is)
    (case pt3 => kit_is)
  (case Ta => k_is)
  (case Tb => k_is)
  (case Tc => k_is)
