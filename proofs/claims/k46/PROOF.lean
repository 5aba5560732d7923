import PyProof.Rows.All
import Wide.All
import OpenK.AllK
import Wide.FinOn
import Lean
import PyProof.EqAt
import PyProof.EqKinds
import PyProof.TupleCall
import PySem.Challenge.RW_onelook_k46_formulas_turned
-- CHANGE: your row's module here,as the last of these rows
set_option Elab.async false
set_option linter.all false
set_option maxRecDepth 100000
namespace L2
open PySem PySem.Spec PyProof.Rows
abbrev Key:=Sum Int Str
def keyIs:Key → Value → Bool
  | .inl k,v => Value.isInt k v
  | .inr x,v => Value.isStrOf x v
def keyH (w:World):Key → Int
  | .inl k => hashInt k
  | .inr x => hashStr w x
theorem keyIs_shape:∀ {k:Key} {v:Value},keyIs k v = true → (∃ i t,k = Sum.inl i ∧ v = Value.int i t) ∨ (∃ x t,k = Sum.inr x ∧ v = Value.str x t)
  | .inl i,v,h => by
    obtain ⟨t,e⟩:=Value.isInt_shape (k:=i) (v:=v) h
    exact .inl ⟨i,t,rfl,e⟩
  | .inr x,v,h => by
    obtain ⟨t,e⟩:=Value.isStrOf_shape (x:=x) (v:=v) h
    exact .inr ⟨x,t,rfl,e⟩
theorem key_ll (a b:Int):decide ((Sum.inl a:Key) = Sum.inl b) = (a == b):=by
  by_cases e:a = b
  · subst e; simp
  · have h:¬ (Sum.inl a:Key) = Sum.inl b:=fun q => e (Sum.inl.inj q)
    rw [decide_eq_false h]
    exact (beq_eq_false_iff_ne.mpr e).symm
theorem key_rr (a b:Str):decide ((Sum.inr a:Key) = Sum.inr b) = decide (a = b):=by
  by_cases e:a = b
  · subst e; simp
  · have h:¬ (Sum.inr a:Key) = Sum.inr b:=fun q => e (Sum.inr.inj q)
    rw [decide_eq_false h,decide_eq_false e]
theorem key_lr (a:Int) (b:Str):decide ((Sum.inl a:Key) = Sum.inr b) = false:=decide_eq_false (fun q => nomatch q)
theorem key_rl (a:Str) (b:Int):decide ((Sum.inr a:Key) = Sum.inl b) = false:=decide_eq_false (fun q => nomatch q)
def mixKind (prog:Program) (w:World):PySem.KeyKind prog w Key where
  is:=keyIs
  hash:=keyH w
  inj:=fun v a b ha hb => by
    rcases keyIs_shape ha with ⟨i,t,rfl,rfl⟩ | ⟨x,t,rfl,rfl⟩
    · rcases keyIs_shape hb with ⟨j,u,rfl,e⟩ | ⟨y,u,rfl,e⟩
      · injection e with e1 _; rw [e1]
      · exact nomatch e
    · rcases keyIs_shape hb with ⟨j,u,rfl,e⟩ | ⟨y,u,rfl,e⟩
      · exact nomatch e
      · injection e with e1 _; rw [e1]
  byValue:=fun k v h => by
    rcases keyIs_shape h with ⟨i,t,rfl,rfl⟩ | ⟨x,t,rfl,rfl⟩ <;> rfl
  pyHash:=fun hv h => by
    rcases keyIs_shape hv with ⟨i,t,rfl,rfl⟩ | ⟨x,t,rfl,rfl⟩
    · exact wpAny_pyHash_int h
    · exact wpAny_pyHash_str h
  eqBool:=fun hu hv h => by
    rcases keyIs_shape hu with ⟨i,t,rfl,rfl⟩ | ⟨x,t,rfl,rfl⟩
    · rcases keyIs_shape hv with ⟨j,u,rfl,rfl⟩ | ⟨y,u,rfl,rfl⟩
      · rw [key_ll] at h; exact wpAny_eqBool_int h
      · rw [key_lr] at h; exact SeqAt.EqAt.int_str i t y u _ _ _ _ h
    · rcases keyIs_shape hv with ⟨j,u,rfl,rfl⟩ | ⟨y,u,rfl,rfl⟩
      · rw [key_rl] at h; exact SeqAt.EqAt.str_int x t j u _ _ _ _ h
      · rw [key_rr] at h; exact wpAny_eqBool_str h
  «strs»:=fun k x t v h => by
    rcases keyIs_shape h with ⟨i,u,rfl,e⟩ | ⟨y,u,rfl,e⟩
    · exact nomatch e
    · injection e with e1 _
      subst e1
      cases v <;> rfl
end L2
namespace L2
open PySem PySem.Spec PyProof.Rows
inductive V where
  | non | bl (b:Bool) | int (i:Int) | str (x:Str) | byt (b:Array UInt8) | flt (b:UInt64) | ref (a:Addr) | ty (n:String)
  deriving DecidableEq
def RelV:V → Value → Prop
  | .non,u => u = Value.none
  | .bl b,u => u = Value.bool b
  | .int i,u => ∃ t,u = Value.int i t
  | .str x,u => ∃ t,u = Value.str x t
  | .byt b,u => ∃ t,u = Value.bytes b t
  | .flt b,u => ∃ t,u = Value.float b t
  | .ref a,u => u = Value.ref a
  | .ty n,u => u = Value.type n
abbrev Vals:List V → List Value → Prop:=Paired RelV
theorem Vals.length {xs:List V} {us:List Value} (r:Vals xs us):xs.length = us.length:=Paired.length r
theorem Vals.get:∀ {xs:List V} {us:List Value} {i:Nat} {x:V},Vals xs us → xs[i]? = some x → ∃ u,us[i]? = some u ∧ RelV x u
  | _,_,_,_,.nil,e => by simp at e
  | _,_,0,_,.cons r _,e => by simp at e; subst e; exact ⟨_,rfl,r⟩
  | _,_,i + 1,x,.cons _ t,e => by
    obtain ⟨u,h1,h2⟩:=Vals.get (i:=i) (x:=x) t (by simpa using e)
    exact ⟨u,by simpa using h1,h2⟩
theorem Vals.set {x:V} {u:Value} (r:RelV x u):∀ {xs:List V} {us:List Value} (i:Nat),Vals xs us → Vals (xs.set i x) (us.set i u)
  | _,_,_,.nil => .nil
  | _,_,0,.cons _ t => .cons r t
  | _,_,i + 1,.cons q t => .cons q (Vals.set r i t)
theorem Vals.append:∀ {xs ys:List V} {us ws:List Value},Vals xs us → Vals ys ws → Vals (xs ++ ys) (us ++ ws)
  | _,_,_,_,.nil,s => s
  | _,_,_,_,.cons r t,s => .cons r (Vals.append t s)
theorem Vals.take:∀ {xs:List V} {us:List Value} (n:Nat),Vals xs us → Vals (xs.take n) (us.take n)
  | _,_,0,_ => .nil
  | _,_,_ + 1,.nil => .nil
  | _,_,n + 1,.cons r t => .cons r (Vals.take n t)
theorem Vals.drop:∀ {xs:List V} {us:List Value} (n:Nat),Vals xs us → Vals (xs.drop n) (us.drop n)
  | _,_,0,r => r
  | _,_,_ + 1,.nil => .nil
  | _,_,n + 1,.cons _ t => Vals.drop n t
def RelO:Option V → Option Value → Prop
  | some v,some u => RelV v u
  | none,none => True
  | _,_ => False
def KV {κ:Type}:List (κ × V) → List (κ × Value) → Prop:=Paired fun (p:κ × V) (q:κ × Value) => p.1 = q.1 ∧ RelV p.2 q.2
def kV:Key → V
  | .inl i => .int i
  | .inr x => .str x
inductive HO where
    | lst (xs:List V)
    | tup (xs:List V)
    | dK (kvs:List (Key × V)) | dT (kvs:List (List Key × V))
    | set (S:Int → Bool) (n:Nat)
    | ins (C dx:Addr) (fs:List (Str × V))
    | own (x:Addr)
    | xd (fs:List (Str × V))
    | met (f x:Addr)
    | rng (lo hi:Int)
    | frz (o:Obj) (u:HO)
    | tbl (ps:Array Value)
    | ext (φ:Heap → Prop)
abbrev Hp:=Addr → Option HO
def upd (H:Hp) (a:Addr) (o:HO):Hp:=fun b => if b = a then some o else H b
theorem upd_same {H:Hp} {a:Addr} {o:HO}:upd H a o a = some o:=by unfold upd; rw [if_pos rfl]
theorem upd_ne {H:Hp} {a b:Addr} {o:HO} (h:b ≠ a):upd H a o b = H b:=by unfold upd; rw [if_neg h]
theorem ne_of_none {H:Hp} {a b:Addr} {o:HO} (h:H a = some o) (h':H b = none):a ≠ b:=by
  intro e; subst e; rw [h] at h'; cases h'
def NoDi (h:Heap) (a:Addr):Prop:=∀ o,h.get? a = some o → o.dict = none
theorem NoDi.new (h:Heap) (us:Array Value):NoDi (h.push { cls:=.type "tuple",data:=.seq us }) h.objs.size:=fun o q => by
  rw [Heap.get?_push_size _ rfl] at q
  cases q
  rfl
section
variable (P:Program) (w:World)
def ObjOk (H:Hp) (h:Heap) (a:Addr):HO → Prop
  | .lst xs => xs.length ≤ sizeLine ∧ ∃ (its:List Value) (n:Nat),Vals xs its ∧ h.get? a = some { cls:=.type "list",data:=.seq its.toArray n }
  | .tup xs => xs.length ≤ sizeLine ∧ ∃ its:List Value,Vals xs its ∧ IsTup h a its.toArray ∧ NoDi h a
  | .dK kvs => kvs.length ≤ sizeLine ∧ (a == sysModules) = false ∧ ∃ vs,KV kvs vs ∧ h.DictOf (mixKind P w) a vs
  | .dT kvs => kvs.length ≤ sizeLine ∧ (a == sysModules) = false ∧ ∃ xs:List (List Key × Addr × Value),
      Paired (fun (p:List Key × V) (q:List Key × Addr × Value) => p.1 = q.1 ∧ H q.2.1 = some (.tup (p.1.map kV)) ∧ RelV p.2 q.2.2) kvs xs ∧
      ∃ o es ep,h.get? a = some o ∧ o.ExactDict ∧ o.data = .dict es ep ∧ es.toList = xs.map (entryOfKey (tupleKind (mixKind P w))) ∧ (xs.map (·.1)).Nodup
  | .set S n => h.SetOf (intKind P w) a S n
  | .ins C dx fs => H dx = some (.own a) ∧ fs.length ≤ 1000 ∧ dx ≠ a ∧ h.get? a = some (PySem.W.instObj C dx) ∧
      ∃ mA,h.Ns1 dx mA ∧ (∀ f,RelO (fs.lookup f) (mA f)) ∧ PySem.Within mA (fs.map (·.1))
  | .own _ => ∃ o,h.get? a = some o
  | .xd fs => ∃ mA,h.Ns1 a mA ∧ ∀ f,RelO (fs.lookup f) (mA f)
  | .rng lo hi => ∃ t u v,h.get? a = some { cls:=.type "range",data:=.fields #[.int lo t,.int hi u,.int 1 v] }
  | .frz o u => h.get? a = some o ∧ ObjOk H h a u
  | .tbl ps => h.get? a = some { cls:=.none,data:=.fields ps }
  | .met f x => h.get? a = some (PySem.W.methodObj (.ref f) (.ref x))
  | .ext φ => φ h ∧ (∃ o,h.get? a = some o) ∧ ∀ h1 h2:Heap,φ h1 → (∀ o,h1.get? a = some o → h2.get? a = some o) → φ h2
def HOk (H:Hp) (h:Heap):Prop:=∀ a o,H a = some o → ObjOk P w H h a o
end
section
variable {P:Program} {w:World} {H H':Hp} {h h':Heap} {a:Addr} {o:HO}
theorem ObjOk.lt (x:ObjOk P w H h a o):a < h.objs.size:=by
  cases o with
  | lst xs => obtain ⟨_,_,_,_,e⟩:=x; exact Heap.lt_size e
  | tup xs => obtain ⟨_,_,_,p,_⟩:=x; exact p.lt
  | dK kvs => obtain ⟨_,_,_,_,o,_,_,e,_⟩:=x; exact Heap.lt_size e
  | dT kvs => obtain ⟨_,_,_,_,o,_,_,e,_⟩:=x; exact Heap.lt_size e
  | set S n => obtain ⟨o,_,_,_,e,_⟩:=x; exact Heap.lt_size e
  | ins C dx fs => obtain ⟨_,_,_,e,_⟩:=x; exact Heap.lt_size e
  | own y => obtain ⟨_,e⟩:=x; exact Heap.lt_size e
  | xd fs => obtain ⟨_,⟨_,_,_,e,_⟩,_⟩:=x; exact Heap.lt_size e
  | rng lo hi => obtain ⟨_,_,_,e⟩:=x; exact Heap.lt_size e
  | frz ob u => obtain ⟨e,_⟩:=x; exact Heap.lt_size e
  | tbl ps => exact Heap.lt_size (show h.get? a = some _ from x)
  | met f y => exact Heap.lt_size (show h.get? a = some _ from x)
  | ext φ => obtain ⟨_,⟨_,e⟩,_⟩:=x; exact Heap.lt_size e
theorem Paired.mapP {α β:Type} {F G:α → β → Prop}:∀ {l₁:List α} {l₂:List β},Paired F l₁ l₂ → (∀ a b,F a b → G a b) → Paired G l₁ l₂
  | _,_,.nil,_ => .nil
  | _,_,.cons r t,f => .cons (f _ _ r) (Paired.mapP t f)
theorem ObjOk.stay (x:ObjOk P w H h a o) (k:∀ b u,(b = a ∨ H b = some (.own a)) → h.get? b = some u → h'.get? b = some u)
    (ho:∀ b,H b = some (.own a) → H' b = some (.own a)) (ht:∀ b xs,H b = some (.tup xs) → H' b = some (.tup xs)):ObjOk P w H' h' a o:=by
  induction o with
  | lst xs => obtain ⟨z,its,n,r,e⟩:=x; exact ⟨z,its,n,r,k _ _ (.inl rfl) e⟩
  | tup xs => obtain ⟨z,us,r,⟨ob,e,c⟩,nd⟩:=x; exact ⟨z,us,r,⟨ob,k _ _ (.inl rfl) e,c⟩,fun o q => by rw [k _ _ (.inl rfl) e] at q; cases q; exact nd _ e⟩
  | dK kvs => obtain ⟨z,y,vs,r,ob,es,ep,e,c⟩:=x; exact ⟨z,y,vs,r,ob,es,ep,k _ _ (.inl rfl) e,c⟩
  | dT kvs =>
    obtain ⟨z,y,xs,r,ob,es,ep,e,c⟩:=x
    exact ⟨z,y,xs,Paired.mapP r fun p q z => ⟨z.1,ht _ _ z.2.1,z.2.2⟩,ob,es,ep,k _ _ (.inl rfl) e,c⟩
  | set S n => obtain ⟨ob,es,ep,t,e,c⟩:=x; exact ⟨ob,es,ep,t,k _ _ (.inl rfl) e,c⟩
  | ins C dx fs =>
    obtain ⟨d,z,ne,e,mA,⟨od,es,ep,e2,c⟩,r⟩:=x
    exact ⟨ho _ d,z,ne,k _ _ (.inl rfl) e,mA,⟨od,es,ep,k _ _ (.inr d) e2,c⟩,r⟩
  | own y => obtain ⟨ob,e⟩:=x; exact ⟨ob,k _ _ (.inl rfl) e⟩
  | xd fs => obtain ⟨mA,⟨od,es,ep,e,c⟩,r⟩:=x; exact ⟨mA,⟨od,es,ep,k _ _ (.inl rfl) e,c⟩,r⟩
  | rng lo hi => obtain ⟨t,u,v,e⟩:=x; exact ⟨t,u,v,k _ _ (.inl rfl) e⟩
  | frz ob u ih => obtain ⟨e,q⟩:=x; exact ⟨k _ _ (.inl rfl) e,ih q⟩
  | tbl ps =>
    have e:h.get? a = some { cls:=.none,data:=.fields ps }:=x
    show h'.get? a = some { cls:=.none,data:=.fields ps }
    exact k a _ (.inl rfl) e
  | met f y =>
    have e:h.get? a = some (PySem.W.methodObj (.ref f) (.ref y)):=x
    show h'.get? a = some (PySem.W.methodObj (.ref f) (.ref y))
    exact k a _ (.inl rfl) e
  | ext φ => obtain ⟨p,⟨o,e⟩,st⟩:=x; exact ⟨st _ _ p fun o q => k _ _ (.inl rfl) q,⟨o,k _ _ (.inl rfl) e⟩,st⟩
theorem HOk.lt (x:HOk P w H h) (e:H a = some o):a < h.objs.size:=(x a o e).lt
theorem HOk.fresh (x:HOk P w H h) (e:h.objs.size ≤ a):H a = none:=by
  cases q:H a with
  | none => rfl
  | some u => exact absurd (Nat.lt_of_lt_of_le (x.lt q) e) (Nat.lt_irrefl _)
theorem HOk.kept (x:HOk P w H h) (k:∀ b u,h.get? b = some u → h'.get? b = some u):HOk P w H h':=fun a o e =>
  (x a o e).stay (fun b u _ q => k b u q) (fun _ q => q) fun _ _ q => q
theorem HOk.laid (x:HOk P w H h) (k:∀ b u,h.get? b = some u → h'.get? b = some u) (hp:h.objs.size ≤ a) (new:ObjOk P w (upd H a o) h' a o):HOk P w (upd H a o) h':=fun b u e => by
  have hn:=x.fresh hp
  by_cases hb:b = a
  · subst hb; rw [upd_same] at e; cases e; exact new
  · rw [upd_ne hb] at e
    exact (x b u e).stay (fun c v _ q => k c v q) (fun c q => by rw [upd_ne (ne_of_none q hn)]; exact q) fun c xs q => by rw [upd_ne (ne_of_none q hn)]; exact q
end
def Rd (H:Hp) (a:Addr) (u:HO):Prop:=H a = some u ∨ ∃ o,H a = some (.frz o u)
theorem Rd.ok {P:Program} {w:World} {H:Hp} {h:Heap} {a:Addr} {u:HO} (r:Rd H a u) (x:HOk P w H h):ObjOk P w H h a u:=by
  rcases r with r | ⟨o,r⟩
  · exact x a u r
  · obtain ⟨_,q⟩:=x a _ r
    exact q
def Mut:Option HO → Prop
  | some (.lst _) => True
  | some (.dK _) => True
  | some (.dT _) => True
  | some (.set _ _) => True
  | some (.ins _ _ _) => True
  | some (.ext _) => True
  | _ => False
section
variable {P:Program} {w:World} {H:Hp} {h h':Heap} {x e:Addr} {o':HO}
theorem HOk.write (ok:HOk P w H h) (mu:Mut (H x)) (he:e = x ∨ H e = some (.own x)) (k:∀ b u,b ≠ e → h.get? b = some u → h'.get? b = some u) (heo:∃ u,h'.get? e = some u)
    (new:ObjOk P w (upd H x o') h' x o'):HOk P w (upd H x o') h':=fun b u q => by
  have nown:∀ c y,H c = some (.own y) → c ≠ x:=fun c y r z => by subst z; rw [r] at mu; exact mu
  have ntup:∀ c xs,H c = some (.tup xs) → c ≠ x:=fun c xs r z => by subst z; rw [r] at mu; exact mu
  by_cases hb:b = x
  · subst hb; rw [upd_same] at q; cases q; exact new
  · rw [upd_ne hb] at q
    by_cases hbe:b = e
    · have q':H b = some (.own x):=by
        rcases he with z | z
        · exact absurd (hbe.trans z) hb
        · rw [hbe]; exact z
      rw [q] at q'; cases q'
      obtain ⟨v,hv⟩:=heo
      exact ⟨v,by rw [hbe]; exact hv⟩
    · refine (ok b u q).stay (fun c v hc r => k c v ?_ r) (fun c r => by rw [upd_ne (nown c b r)]; exact r) fun c xs r => by rw [upd_ne (ntup c xs r)]; exact r
      rcases hc with rfl | hc
      · exact hbe
      · rintro rfl
        rcases he with z | z
        · exact nown c b hc z
        · rw [hc] at z; cases z; exact hb rfl
end
structure Un (fs ex:List Addr) (H H':Hp) (h h':Heap):Prop where
  keep:∀ b o,h.get? b = some o → H b = none → b ∉ fs → b ∉ ex → h'.get? b = some o
  slot:∀ b o,h.get? b = some o → H b = none → b ∈ fs → b ∉ ex → ∃ sl,h'.get? b = some { o with slots:=sl }
  free:∀ b o,h.get? b = some o → H b = none → b ∉ ex → H' b = none
  there:∀ b o,h.get? b = some o → b ∉ ex → ∃ o',h'.get? b = some o'
  tups:∀ b xs,H b = some (.tup xs) → H' b = some (.tup xs)
  frzs:∀ b o u,H b = some (.frz o u) → H' b = some (.frz o u)
  tbls:∀ b ps,H b = some (.tbl ps) → ∃ more,H' b = some (.tbl (ps ++ more))
section
variable {fs fs' ex ex':List Addr} {H H1 H2:Hp} {h h1 h2 h':Heap} {a x e:Addr} {o:HO}
theorem Un.any (u:Un fs ex H H1 h h1) {b:Addr} {ob:Obj} (q:h.get? b = some ob) (n:H b = none) (hx:b ∉ ex):∃ sl,h1.get? b = some { ob with slots:=sl }:=by
  by_cases hb:b ∈ fs
  · exact u.slot b ob q n hb hx
  · exact ⟨ob.slots,u.keep b ob q n hb hx⟩
theorem Un.kept (k:∀ b u,h.get? b = some u → h'.get? b = some u):Un fs ex H H h h' :=
  ⟨fun b ob q _ _ _ => k b ob q,fun b ob q _ _ _ => ⟨ob.slots,k b ob q⟩,fun _ _ _ n _ => n,fun b ob q _ => ⟨ob,k b ob q⟩,fun _ _ q => q,fun _ _ _ q => q,fun _ ps q => ⟨#[],by rw [q]; simp⟩⟩
theorem Un.refl:Un fs ex H H h h:=Un.kept fun _ _ q => q
theorem Un.laid (k:∀ b u,h.get? b = some u → h'.get? b = some u) (hp:h.objs.size ≤ a) (hn:H a = none):Un fs ex H (upd H a o) h h' where
  keep:=fun b u q _ _ _ => k b u q
  slot:=fun b u q _ _ _ => ⟨u.slots,k b u q⟩
  free:=fun b u q n _ => by rw [upd_ne (Nat.ne_of_lt (Nat.lt_of_lt_of_le (Heap.lt_size q) hp))]; exact n
  there:=fun b u q _ => ⟨u,k b u q⟩
  tups:=fun b xs q => by rw [upd_ne (ne_of_none q hn)]; exact q
  frzs:=fun b u xs q => by rw [upd_ne (ne_of_none q hn)]; exact q
  tbls:=fun b ps q => ⟨#[],by rw [upd_ne (ne_of_none q hn),q]; simp⟩
theorem Un.write (mu:Mut (H x)) (he:e = x ∨ H e = some (.own x)) (k:∀ b u,b ≠ e → h.get? b = some u → h'.get? b = some u) (heo:∃ u,h'.get? e = some u):Un fs ex H (upd H x o) h h':=by
  have hx:∀ b,H b = none → b ≠ x:=fun b n z => by subst z; rw [n] at mu; exact mu
  have hb:∀ b,H b = none → b ≠ e:=fun b n z => by
    subst z
    rcases he with r | r
    · exact hx b n r
    · rw [n] at r; cases r
  have hm:∀ b u,H b = some u → ¬ Mut (some u) → b ≠ x:=fun b u q nm z => by subst z; rw [q] at mu; exact nm mu
  refine ⟨fun b u q n _ _ => k b u (hb b n) q,fun b u q n _ _ => ⟨u.slots,k b u (hb b n) q⟩,fun b u q n _ => by rw [upd_ne (hx b n)]; exact n,fun b u q _ => ?_,
    fun b xs q => by rw [upd_ne (hm b _ q fun z => z)]; exact q,fun b u xs q => by rw [upd_ne (hm b _ q fun z => z)]; exact q,fun b ps q => ⟨#[],by rw [upd_ne (hm b _ q fun z => z),q]; simp⟩⟩
  by_cases hbe:b = e
  · subst hbe; exact heo
  · exact ⟨u,k b u hbe q⟩
end
def trk (h:Heap) (H:Hp):List Addr:=(List.range h.objs.size).filter fun a => (H a).isSome
def hidT (h:Heap) (H:Hp):Heap:=PySem.W.hideAll h (trk h H)
theorem hidT_size (h:Heap) (H:Hp):(hidT h H).objs.size = h.objs.size:=PySem.W.hideAll_size _ _
theorem hidT_get {h:Heap} {H:Hp} {b:Addr} {o:Obj} (e:h.get? b = some o) (n:H b = none):(hidT h H).get? b = some o :=
  PySem.W.hideAll_get _ e fun hm => by
    have q:(H b).isSome = true:=(List.mem_filter.mp hm).2
    rw [n] at q; simp at q
theorem of_hidT {h:Heap} {H:Hp} {b:Addr} {o:Obj} (e:(hidT h H).get? b = some o):h.get? b = some o ∧ H b = none:=by
  have e':h.get? b = some o:=PySem.W.of_hideAll (trk h H) e
  refine ⟨e',?_⟩
  cases q:H b with
  | none => rfl
  | some x =>
    have hm:b ∈ trk h H:=List.mem_filter.mpr ⟨List.mem_range.mpr (Heap.lt_size e'),by simp [q]⟩
    have z:(hidT h H).get? b = none:=PySem.W.hideAll_none (trk h H) hm
    rw [z] at e; cases e
end L2
namespace L2
open PySem PySem.Spec PyProof.Rows
structure Mod (K:PySem.W.Frag) (mg:Str → Option Value) (base:Heap):Prop where
  kin:K.In base
  glob:base.Ns mainGlobals mg
  blt:∃ mb,base.Ns builtinsNs mb ∧ ∀ x:Str,x ≠ "__name__" → mb x = bootBuiltins x
  nolimit:base.NoLimit
structure Cx where
  prog:Program
  w:World
  K:PySem.W.Frag
  mg:Str → Option Value
  base:Heap
  A:Around
  N:List Str
  s₀:Shared
  H₀:Hp
  env:Env
  outer:List Env
  stack:List Env
  ex:List Addr
  fn:Str → Bool
  calm:Bool
  pn:List (Addr × Obj)
  xe:Value → Shared → Prop
def frs (l:List Env):List Addr:=l.filterMap (·.frame)
abbrev Cx.fs (X:Cx):List Addr:=frs X.outer
def Vis (sc:Scope) (x:Str):Prop:=sc.names.lookup x = some .local ∨ sc.names.lookup x = some .cell ∨ sc.names.lookup x = some .free
def Loc (sc:Scope) (x:Str):Prop:=sc.names.lookup x = some .local ∨ sc.names.lookup x = some .cell
def Look (env:Env) (h:Heap) (m:Str → Option Value) (x:Str) (u:Value):Prop :=
  (env.kindOf x = some .local ∧ m x = some u) ∨ ((env.kindOf x = some .cell ∨ env.kindOf x = some .free) ∧ ∃ c,env.cells.lookup x = some c ∧ h.IsCell c (some u))
structure Cx.Ok (X:Cx):Prop where
  mod:Mod X.K X.mg X.base
  kind:X.env.scope.kind = .function
  glob:X.env.globals = mainGlobals
  blt:X.env.builtins = builtinsNs
  above:X.s₀.heap.objs.size ≤ X.env.locals
  inj:∀ x y c,X.env.cells.lookup x = some c → X.env.cells.lookup y = some c → x = y
  has:∀ x,(X.env.kindOf x = some .cell ∨ X.env.kindOf x = some .free) → ∃ c,X.env.cells.lookup x = some c
  cab:∀ x c,X.fn x = true → X.env.cells.lookup x = some c → X.s₀.heap.objs.size ≤ c
  hd:X.calm = true → X.A.handled = none
  frames:X.A.frames = some X.stack
  stk:X.stack = X.outer ∨ (X.stack = X.env :: X.outer ∧ X.env.frame = some X.env.locals)
  exf:∀ b ∈ X.ex,b ≠ X.env.locals ∧ ∀ x c,X.env.cells.lookup x = some c → c ≠ b
  bs:∀ b o,X.base.get? b = some o → X.s₀.heap.get? b = some o ∧ X.H₀ b = none
  bsz:X.base.objs.size ≤ X.s₀.heap.objs.size
  noex:∀ b o,X.base.get? b = some o → b ∉ X.ex
  exfs:∀ b ∈ X.ex,b ∉ X.fs
  funs:X.s₀.heap.FunFrames X.base X.outer
  frf:∀ b ∈ X.fs,X.H₀ b = none
structure Inv (X:Cx) (pins:List (Addr × Obj)) (σ:List (Option V)) (H:Hp) (s:Shared):Prop where
  ok:X.Ok
  os:s.os = X.s₀.os
  bare:AllBare s.gens
  base:Un X.fs X.ex X.H₀ H X.s₀.heap s.heap
  loc:∃ m,s.heap.Ns X.env.locals m ∧ ∀ (i:Nat) (x:Str) (v:V),X.N[i]? = some x → σ[i]? = some (some v) → Vis X.env.scope x → ∃ u,RelV v u ∧ Look X.env s.heap m x u
  cell:∀ x c,X.env.cells.lookup x = some c → ∃ v,s.heap.IsCell c v
  free:H X.env.locals = none
  freeC:∀ x c,X.env.cells.lookup x = some c → H c = none
  pin:∀ p ∈ X.pn ++ pins,s.heap.get? p.1 = some p.2 ∧ H p.1 = none ∧ p.1 ≠ X.env.locals ∧ p.1 ∉ X.fs ∧ ∀ v,p.2.data ≠ .cell v
  hok:HOk X.prog X.w H s.heap
  len:σ.length = X.N.length
section
variable {X:Cx} {pins:List (Addr × Obj)} {σ:List (Option V)} {H H':Hp} {s:Shared} {h':Heap}
theorem Cx.Ok.nofr (ok:X.Ok) {b:Addr} {o:Obj} (e:X.base.get? b = some o):b ∉ X.fs:=fun hb => by
  have:=(ok.funs.mem hb).1
  rw [e] at this; cases this
theorem Inv.bs (I:Inv X pins σ H s):∀ b o,X.base.get? b = some o → s.heap.get? b = some o ∧ H b = none:=fun b o e =>
  ⟨I.base.keep b o (I.ok.bs b o e).1 (I.ok.bs b o e).2 (I.ok.nofr e) (I.ok.noex b o e),I.base.free b o (I.ok.bs b o e).1 (I.ok.bs b o e).2 (I.ok.noex b o e)⟩
theorem Inv.bk (I:Inv X pins σ H s):∀ b o,X.base.get? b = some o → s.heap.get? b = some o:=fun b o e => (I.bs b o e).1
theorem Inv.mod (I:Inv X pins σ H s):Mod X.K X.mg X.base:=I.ok.mod
theorem Inv.kIn (I:Inv X pins σ H s):X.K.In s.heap:=I.ok.mod.kin.keeps I.bk
theorem Inv.lt (I:Inv X pins σ H s):X.env.locals < s.heap.objs.size:=let ⟨_,hn,_⟩:=I.loc; hn.lt
theorem Inv.sz (I:Inv X pins σ H s):X.s₀.heap.objs.size ≤ s.heap.objs.size:=Nat.le_trans I.ok.above (Nat.le_of_lt I.lt)
theorem Inv.nofs (I:Inv X pins σ H s) {a:Addr} (h:s.heap.objs.size ≤ a):a ∉ X.fs:=fun hb => by
  obtain ⟨_,o,ho,_⟩:=I.ok.funs.mem hb
  exact absurd (Nat.lt_of_lt_of_le (Heap.lt_size ho) (Nat.le_trans I.sz h)) (Nat.lt_irrefl _)
theorem Inv.cne (I:Inv X pins σ H s):∀ x c,X.env.cells.lookup x = some c → c ≠ X.env.locals:=fun x c e z => by
  obtain ⟨v,o,ho,hd⟩:=I.cell x c e
  obtain ⟨m,⟨o',es,ep,ho',hd',_⟩,_⟩:=I.loc
  rw [z,ho'] at ho; cases ho; rw [hd'] at hd; cases hd
theorem Inv.funs (I:Inv X pins σ H s):s.heap.FunFrames X.base X.outer:=by
  have all:∀ (l:List Env),(∀ b ∈ frs l,b ∈ X.fs) → X.s₀.heap.FunFrames X.base l → s.heap.FunFrames X.base l:=by
    intro l
    induction l with
    | nil => intro _ _; trivial
    | cons env r ih =>
      intro hs hl
      obtain ⟨hk,⟨L,o,hf,hn,ho,hd⟩,hr⟩:=hl
      have hL:L ∈ X.fs:=hs L (by unfold frs; rw [List.filterMap_cons,hf]; exact List.mem_cons_self)
      obtain ⟨sl,e⟩:=I.base.slot L o ho (I.ok.frf L hL) hL fun z => I.ok.exfs L z hL
      exact ⟨hk,⟨L,_,hf,hn,e,hd⟩,ih (fun b hb => hs b (by unfold frs; rw [List.filterMap_cons,hf]; exact List.mem_cons_of_mem _ hb)) hr⟩
  exact all X.outer (fun _ hb => hb) I.ok.funs
theorem Inv.stack (I:Inv X pins σ H s):s.heap.FunFrames X.base X.stack:=by
  rcases I.ok.stk with e | ⟨e,hf⟩
  · rw [e]; exact I.funs
  · rw [e]
    obtain ⟨m,hn,_⟩:=I.loc
    refine .cons (by rw [I.ok.kind]; decide) hf hn ?_ I.funs
    exact Heap.get?_none_of_le (Nat.le_trans I.ok.bsz I.ok.above)
theorem Inv.stkSub (I:Inv X pins σ H s):∀ b ∈ frs X.stack,b ∈ X.env.locals :: X.fs:=fun b hb => by
  rcases I.ok.stk with e | ⟨e,hf⟩
  · rw [e] at hb; exact List.mem_cons_of_mem _ hb
  · rw [e] at hb
    unfold frs at hb
    rw [List.filterMap_cons,hf] at hb
    exact hb
theorem Inv.stkFree (I:Inv X pins σ H s):∀ b ∈ frs X.stack,H b = none:=fun b hb => by
  rcases List.mem_cons.mp (I.stkSub b hb) with e | hb
  · rw [e]; exact I.free
  · obtain ⟨_,o,ho,_⟩:=I.ok.funs.mem hb
    exact I.base.free b o ho (I.ok.frf b hb) fun z => I.ok.exfs b z hb
theorem Inv.step {g':Array GenState} {t':Nat} {d':Drawn} {ch:List Addr} (I:Inv X pins σ H s)
    (hch:∀ b ∈ ch,(b ∈ X.ex ∨ X.s₀.heap.objs.size ≤ b) ∧ b ≠ X.env.locals ∧ (∀ x c,X.env.cells.lookup x = some c → c ≠ b) ∧ ∀ p ∈ X.pn ++ pins,p.1 ≠ b)
    (keep:∀ b o,b ≠ X.env.locals → b ∉ X.fs → b ∉ ch → s.heap.get? b = some o → H b = none → h'.get? b = some o)
    (slot:∀ b o,b ≠ X.env.locals → b ∈ X.fs → b ∉ ch → s.heap.get? b = some o → H b = none → ∃ sl,h'.get? b = some { o with slots:=sl }) (free:∀ b o,b ∉ ch → s.heap.get? b = some o → H b = none → H' b = none)
    (there:∀ b o,b ∉ ch → s.heap.get? b = some o → ∃ o',h'.get? b = some o')
    (tups:∀ b xs,H b = some (.tup xs) → H' b = some (.tup xs)) (frzs:∀ b o u,H b = some (.frz o u) → H' b = some (.frz o u)) (tbls:∀ b ps,H b = some (.tbl ps) → ∃ more,H' b = some (.tbl (ps ++ more)))
    (ns:∀ m,s.heap.Ns X.env.locals m → h'.Ns X.env.locals m) (hok:HOk X.prog X.w H' h') (hg:AllBare g') :
    Inv X pins σ H' { s with heap:=h',gens:=g',drawn:=d',toks:=t' }:=by
  have neL:∀ b o,X.s₀.heap.get? b = some o → b ≠ X.env.locals:=fun b o e => Nat.ne_of_lt (Nat.lt_of_lt_of_le (Heap.lt_size e) I.ok.above)
  have neC:∀ b o,X.s₀.heap.get? b = some o → b ∉ X.ex → b ∉ ch:=fun b o e hx hb => by
    rcases (hch b hb).1 with z | z
    · exact hx z
    · exact absurd (Nat.lt_of_lt_of_le (Heap.lt_size e) z) (Nat.lt_irrefl _)
  have cellK:∀ x c,X.env.cells.lookup x = some c → ∀ v,s.heap.IsCell c v → h'.IsCell c v:=fun x c e v ⟨o,ho,hd⟩ => by
    have nch:c ∉ ch:=fun z => (hch c z).2.2.1 x c e rfl
    by_cases hc:c ∈ X.fs
    · obtain ⟨sl,q⟩:=slot c o (I.cne x c e) hc nch ho (I.freeC x c e)
      exact ⟨_,q,hd⟩
    · exact ⟨o,keep c o (I.cne x c e) hc nch ho (I.freeC x c e),hd⟩
  refine ⟨I.ok,I.os,hg,⟨fun b o e n hb hx => ?_,fun b o e n hb hx => ?_,fun b o e n hx => ?_,fun b o e hx => ?_,fun b xs e => tups b xs (I.base.tups b xs e),fun b o xs e => frzs b o xs (I.base.frzs b o xs e),fun b ps e => ?_⟩,?_,fun x c e => ?_,?_,fun x c e => ?_,fun p hp => ?_,hok,I.len⟩
  · exact keep b o (neL b o e) hb (neC b o e hx) (I.base.keep b o e n hb hx) (I.base.free b o e n hx)
  · obtain ⟨sl,e1⟩:=I.base.slot b o e n hb hx
    obtain ⟨sl',e2⟩:=slot b _ (neL b o e) hb (neC b o e hx) e1 (I.base.free b o e n hx)
    exact ⟨sl',e2⟩
  · obtain ⟨o',e1⟩:=I.base.there b o e hx
    exact free b o' (neC b o e hx) e1 (I.base.free b o e n hx)
  · obtain ⟨o',e1⟩:=I.base.there b o e hx
    exact there b o' (neC b o e hx) e1
  · obtain ⟨m1,e1⟩:=I.base.tbls b ps e
    obtain ⟨m2,e2⟩:=tbls b _ e1
    exact ⟨m1 ++ m2,by rw [e2,Array.append_assoc]⟩
  · obtain ⟨m,hn,hl⟩:=I.loc
    refine ⟨m,ns m hn,fun i x v e1 e2 e3 => ?_⟩
    obtain ⟨u,r,l⟩:=hl i x v e1 e2 e3
    refine ⟨u,r,?_⟩
    rcases l with l | ⟨k,c,e,z⟩
    · exact .inl l
    · exact .inr ⟨k,c,e,cellK x c e _ z⟩
  · obtain ⟨v,z⟩:=I.cell x c e
    exact ⟨v,cellK x c e v z⟩
  · obtain ⟨m,⟨o,_,_,ho,_⟩,_⟩:=I.loc
    exact free _ o (fun z => (hch _ z).2.1 rfl) ho I.free
  · obtain ⟨v,o,ho,hd⟩:=I.cell x c e
    exact free c o (fun z => (hch c z).2.2.1 x c e rfl) ho (I.freeC x c e)
  · obtain ⟨e,n,ne,nf,d⟩:=I.pin p hp
    have nch:p.1 ∉ ch:=fun z => (hch p.1 z).2.2.2 p hp rfl
    exact ⟨keep p.1 p.2 ne nf nch e n,free p.1 p.2 nch e n,ne,nf,d⟩
theorem Inv.un {t':Nat} (I:Inv X pins σ H s) (u:Un X.fs [] H H' s.heap h') (hok:HOk X.prog X.w H' h'):Inv X pins σ H' { s with heap:=h',toks:=t' }:=by
  obtain ⟨m,⟨o,es,ep,ho,r⟩,_⟩:=id I.loc
  obtain ⟨sl,hL⟩:=u.any ho I.free (by simp)
  exact I.step (g':=s.gens) (d':=s.drawn) (ch:=[]) (fun _ z => nomatch z) (fun b o _ hb _ e n => u.keep b o e n hb (by simp)) (fun b o _ hb _ e n => u.slot b o e n hb (by simp)) (fun b o _ e n => u.free b o e n (by simp)) (fun b o _ e => u.there b o e (by simp)) u.tups u.frzs u.tbls (fun m' hm => by
    obtain ⟨o',es',ep',ho',r'⟩:=hm
    rw [ho] at ho'; cases ho'
    exact ⟨_,es',ep',hL,r'⟩) hok I.bare
theorem Inv.call {g':Array GenState} {t':Nat} {d':Drawn} {ch:List Addr} (I:Inv X pins σ H s) (u:Un (frs X.stack) ch H H' s.heap h') (hok:HOk X.prog X.w H' h') (hg:AllBare g')
    (hch:∀ b ∈ ch,(b ∈ X.ex ∨ X.s₀.heap.objs.size ≤ b) ∧ b ≠ X.env.locals ∧ (∀ x c,X.env.cells.lookup x = some c → c ≠ b) ∧ ∀ p ∈ X.pn ++ pins,p.1 ≠ b) :
    Inv X pins σ H' { s with heap:=h',gens:=g',drawn:=d',toks:=t' }:=by
  obtain ⟨m,⟨o,es,ep,ho,r⟩,_⟩:=id I.loc
  obtain ⟨sl,hL⟩:=u.any ho I.free fun z => (hch _ z).2.1 rfl
  exact I.step (ch:=ch) hch (fun b o hL hb hc e n => u.keep b o e n (fun z => (List.mem_cons.mp (I.stkSub b z)).elim hL hb) hc) (fun b o _ _ hc e n => u.any e n hc) (fun b o hc e n => u.free b o e n hc) (fun b o hc e => u.there b o e hc) u.tups u.frzs u.tbls (fun m' hm => by
    obtain ⟨o',es',ep',ho',r'⟩:=hm
    rw [ho] at ho'; cases ho'
    exact ⟨_,es',ep',hL,r'⟩) hok hg
theorem Inv.turned {t':Nat} {it:Addr} (I:Inv X pins σ H s) (k:∀ b o,b ≠ it → s.heap.get? b = some o → h'.get? b = some o) (hn:H it = none) (hL:it ≠ X.env.locals)
    (h1:it ∈ X.ex ∨ X.s₀.heap.objs.size ≤ it) (h2:∀ x c,X.env.cells.lookup x = some c → c ≠ it) (h3:∀ p ∈ X.pn ++ pins,p.1 ≠ it):Inv X pins σ H { s with heap:=h',toks:=t' }:=by
  have nit:∀ b u,H b = some u → b ≠ it:=fun b u e z => by rw [z,hn] at e; cases e
  refine I.step (g':=s.gens) (d':=s.drawn) (ch:=[it]) (fun b hb => ?_) (fun b o _ _ hc e _ => k b o (fun z => hc (by simp [z])) e) (fun b o _ _ hc e _ => ⟨o.slots,k b o (fun z => hc (by simp [z])) e⟩) (fun _ _ _ _ n => n)
    (fun b o hc e => ⟨o,k b o (fun z => hc (by simp [z])) e⟩) (fun _ _ e => e) (fun _ _ _ e => e) (fun b ps e => ⟨#[],by rw [e]; simp⟩) (fun m hm => ?_) (fun b u e => ?_) I.bare
  · have e:b = it:=by simpa using hb
    subst e
    exact ⟨h1,hL,h2,h3⟩
  · obtain ⟨o,es,ep,ho,r⟩:=hm
    exact ⟨o,es,ep,k _ o (Ne.symm hL) ho,r⟩
  · refine (I.hok b u e).stay (fun c v hc q => k c v ?_ q) (fun _ q => q) fun _ _ q => q
    rcases hc with z | z
    · rw [z]; exact nit b u e
    · exact nit c _ z
theorem Inv.tok (I:Inv X pins σ H s) (t:Nat):Inv X pins σ H { s with toks:=t }:=I.un (h':=s.heap) (t':=t) Un.refl I.hok
theorem Inv.kept {t':Nat} (I:Inv X pins σ H s) (k:∀ b u,s.heap.get? b = some u → h'.get? b = some u):Inv X pins σ H { s with heap:=h',toks:=t' }:=I.un (Un.kept k) (I.hok.kept k)
theorem Inv.laid {a:Addr} {o:HO} {t':Nat} (I:Inv X pins σ H s) (k:∀ b u,s.heap.get? b = some u → h'.get? b = some u) (hp:s.heap.objs.size ≤ a) (new:ObjOk X.prog X.w (upd H a o) h' a o) :
    Inv X pins σ (upd H a o) { s with heap:=h',toks:=t' }:=I.un (Un.laid k hp (I.hok.fresh hp)) (I.hok.laid k hp new)
theorem Inv.write {x e:Addr} {o:HO} {t':Nat} (I:Inv X pins σ H s) (mu:Mut (H x)) (he:e = x ∨ H e = some (.own x)) (k:∀ b u,b ≠ e → s.heap.get? b = some u → h'.get? b = some u) (heo:∃ u,h'.get? e = some u)
    (new:ObjOk X.prog X.w (upd H x o) h' x o):Inv X pins σ (upd H x o) { s with heap:=h',toks:=t' }:=I.un (Un.write mu he k heo) (I.hok.write mu he k heo new)
theorem Inv.pins_of {pins':List (Addr × Obj)} (I:Inv X pins σ H s) (h:∀ p ∈ pins',s.heap.get? p.1 = some p.2 ∧ H p.1 = none ∧ p.1 ≠ X.env.locals ∧ p.1 ∉ X.fs ∧ ∀ v,p.2.data ≠ .cell v):Inv X pins' σ H s :=
  ⟨I.ok,I.os,I.bare,I.base,I.loc,I.cell,I.free,I.freeC,fun p hp => (List.mem_append.mp hp).elim (fun z => I.pin p (List.mem_append_left _ z)) (h p),I.hok,I.len⟩
theorem nodup_ix {N:List Str} (hN:N.Nodup) {i j:Nat} {x:Str} (a:N[i]? = some x) (b:N[j]? = some x):i = j:=by
  obtain ⟨h1,e1⟩:=List.getElem?_eq_some_iff.mp a
  obtain ⟨h2,e2⟩:=List.getElem?_eq_some_iff.mp b
  exact (List.getElem_inj hN).mp (e1.trans e2.symm)
theorem store_ok2 {M:Model} {A:Around} {E:Value → Shared → Prop} {i:Nat} {x:Str} {v:V} {u:Value} {Q:Unit → Shared → Prop} (I:Inv X pins σ H s) (hN:X.N.Nodup) (hi:X.N[i]? = some x) (hx:Loc X.env.scope x) (r:RelV v u)
    (h:∀ s',Inv X pins (σ.set i (some v)) H s' → (∃ a,Heap.SameBut a s.heap s'.heap ∧ (a = X.env.locals ∨ X.env.cells.lookup x = some a)) → Q () s') (hf:X.fn x = true ∨ X.env.scope.names.lookup x = some .local:=by first | exact .inl rfl | exact .inr rfl | assumption):wpAny M A (storeName X.env x u) Q E s:=by
  obtain ⟨m,hn,hl⟩:=id I.loc
  have hcls:(X.env.scope.kind == .class || (X.env.scope.kind == .module && X.env.locals != X.env.globals)) = false:=by rw [I.ok.kind]; rfl
  have hiσ:i < σ.length:=by rw [I.len]; exact (List.getElem?_eq_some_iff.mp hi).1
  have cne:=I.cne
  have tracked:∀ {a:Addr} {h':Heap},(∃ o,s.heap.get? a = some o ∧ H a = none) → Heap.SameBut a s.heap h' → HOk X.prog X.w H h':=fun {a h'} ha hs b ob e => by
    obtain ⟨_,_,hfree⟩:=ha
    refine (I.hok b ob e).stay (fun c w' hc q => (hs.2 c ?_).trans q) (fun _ q => q) fun _ _ q => q
    rintro rfl
    rcases hc with rfl | hc
    · rw [hfree] at e; cases e
    · rw [hfree] at hc; cases hc
  rcases hx with hk | hk
  · refine wpAny_storeName_local hk hn (fun h' hn' hs => ?_) hcls
    obtain ⟨oL,_,_,hoL,_⟩:=id hn
    refine h _ ⟨I.ok,I.os,I.bare,⟨fun b o e n hb hx => ?_,fun b o e n hb hx => ?_,I.base.free,fun b o e hx => ?_,I.base.tups,I.base.frzs,I.base.tbls⟩,⟨_,hn',fun j y v' e1 e2 e3 => ?_⟩,fun y c e => ?_,I.free,I.freeC,fun p hp => ?_,tracked ⟨oL,hoL,I.free⟩ hs,by simpa using I.len⟩ ⟨_,hs,.inl rfl⟩
    · exact (hs.2 b (Nat.ne_of_lt (Nat.lt_of_lt_of_le (Heap.lt_size e) I.ok.above))).trans (I.base.keep b o e n hb hx)
    · obtain ⟨sl,e1⟩:=I.base.slot b o e n hb hx
      exact ⟨sl,(hs.2 b (Nat.ne_of_lt (Nat.lt_of_lt_of_le (Heap.lt_size e) I.ok.above))).trans e1⟩
    · obtain ⟨o',e1⟩:=I.base.there b o e hx
      exact ⟨o',(hs.2 b (Nat.ne_of_lt (Nat.lt_of_lt_of_le (Heap.lt_size e) I.ok.above))).trans e1⟩
    · by_cases hj:j = i
      · subst hj
        rw [hi] at e1; cases e1
        rw [List.getElem?_set_self hiσ] at e2
        cases e2
        exact ⟨u,r,.inl ⟨hk,by simp⟩⟩
      · rw [List.getElem?_set_ne (Ne.symm hj)] at e2
        obtain ⟨u',r',q⟩:=hl j y v' e1 e2 e3
        refine ⟨u',r',?_⟩
        rcases q with ⟨k,e⟩ | ⟨k,c,e,z⟩
        · refine .inl ⟨k,?_⟩
          have:y ≠ x:=fun e => hj (nodup_ix hN e1 (e ▸ hi))
          simp [this,e]
        · exact .inr ⟨k,c,e,z.sameBut hs (cne y c e)⟩
    · obtain ⟨w',z⟩:=I.cell y c e
      exact ⟨w',z.sameBut hs (cne y c e)⟩
    · obtain ⟨e,n,ne,nf,d⟩:=I.pin p hp
      exact ⟨(hs.2 p.1 ne).trans e,n,ne,nf,d⟩
  · have hfn:X.fn x = true:=by
      rcases hf with z | z
      · exact z
      · rw [z] at hk; cases hk
    obtain ⟨c,hc⟩:=I.ok.has x (.inl hk)
    obtain ⟨w',z⟩:=I.cell x c hc
    refine wpAny_storeName_cell I.ok.kind hk hc z (fun h' hc' hs => ?_)
    obtain ⟨oc,hoc,hocd⟩:=id z
    refine h { s with heap:=h' } ⟨I.ok,I.os,I.bare,⟨fun b o e n hb hx => ?_,fun b o e n hb hx => ?_,I.base.free,fun b o e hx => ?_,I.base.tups,I.base.frzs,I.base.tbls⟩,⟨m,hn.sameBut hs (Ne.symm (cne x c hc)),fun j y v' e1 e2 e3 => ?_⟩,fun y c' e => ?_,I.free,I.freeC,fun p hp => ?_,tracked ⟨oc,hoc,I.freeC x c hc⟩ hs,by simpa using I.len⟩ ⟨c,hs,.inr hc⟩
    · exact (hs.2 b (Nat.ne_of_lt (Nat.lt_of_lt_of_le (Heap.lt_size e) (I.ok.cab x c hfn hc)))).trans (I.base.keep b o e n hb hx)
    · obtain ⟨sl,e1⟩:=I.base.slot b o e n hb hx
      exact ⟨sl,(hs.2 b (Nat.ne_of_lt (Nat.lt_of_lt_of_le (Heap.lt_size e) (I.ok.cab x c hfn hc)))).trans e1⟩
    · obtain ⟨o',e1⟩:=I.base.there b o e hx
      exact ⟨o',(hs.2 b (Nat.ne_of_lt (Nat.lt_of_lt_of_le (Heap.lt_size e) (I.ok.cab x c hfn hc)))).trans e1⟩
    · by_cases hj:j = i
      · subst hj
        rw [hi] at e1; cases e1
        rw [List.getElem?_set_self hiσ] at e2
        cases e2
        exact ⟨u,r,.inr ⟨.inl hk,c,hc,hc'⟩⟩
      · rw [List.getElem?_set_ne (Ne.symm hj)] at e2
        obtain ⟨u',r',q⟩:=hl j y v' e1 e2 e3
        refine ⟨u',r',?_⟩
        rcases q with q | ⟨k,c',e,z'⟩
        · exact .inl q
        · refine .inr ⟨k,c',e,z'.sameBut hs ?_⟩
          rintro rfl
          exact hj (nodup_ix hN e1 (I.ok.inj _ _ _ e hc ▸ hi))
    · by_cases hcc:c' = c
      · subst hcc; exact ⟨_,hc'⟩
      · obtain ⟨w2,z2⟩:=I.cell y c' e
        exact ⟨w2,z2.sameBut hs hcc⟩
    · obtain ⟨e,n,ne,nf,d⟩:=I.pin p hp
      refine ⟨(hs.2 p.1 ?_).trans e,n,ne,nf,d⟩
      intro q
      rw [q,hoc] at e
      have q':oc = p.2:=Option.some.inj e
      exact d w' (by rw [← q']; exact hocd)
theorem store_ok {M:Model} {A:Around} {E:Value → Shared → Prop} {i:Nat} {x:Str} {v:V} {u:Value} {Q:Unit → Shared → Prop} (I:Inv X pins σ H s) (hN:X.N.Nodup) (hi:X.N[i]? = some x) (hx:Loc X.env.scope x) (r:RelV v u)
    (h:∀ s',Inv X pins (σ.set i (some v)) H s' → Q () s') (hf:X.fn x = true ∨ X.env.scope.names.lookup x = some .local:=by first | exact .inl rfl | exact .inr rfl | assumption):wpAny M A (storeName X.env x u) Q E s :=
  store_ok2 I hN hi hx r (fun s' I' _ => h s' I') hf
theorem Inv.call' {s':Shared} {ch:List Addr} (I:Inv X pins σ H s) (ho:s'.os = s.os) (u:Un (frs X.stack) ch H H' s.heap s'.heap) (hok:HOk X.prog X.w H' s'.heap) (hg:AllBare s'.gens)
    (hch:∀ b ∈ ch,(b ∈ X.ex ∨ X.s₀.heap.objs.size ≤ b) ∧ b ≠ X.env.locals ∧ (∀ x c,X.env.cells.lookup x = some c → c ≠ b) ∧ ∀ p ∈ X.pn ++ pins,p.1 ≠ b):Inv X pins σ H' s':=by
  obtain ⟨h',g',d',t',o'⟩:=s'
  have e:o' = s.os:=ho
  subst e
  exact I.call (g':=g') (t':=t') (d':=d') u hok hg hch
end
abbrev XK:=Value → Option Addr → Hp → Prop
abbrev St:=List (Option V)
abbrev VK:=V → Hp → Prop
abbrev TE:=St → Hp → VK → Prop
abbrev TT:=St → Hp → (Bool → Hp → Prop) → Prop
abbrev TA:=St → Hp → (List V → Hp → Prop) → Prop
structure Ends where
  nx:St → Hp → Prop
  rt:VK
  bk:St → Hp → Prop:=fun _ _ => False
  ct:St → Hp → Prop:=fun _ _ => False
abbrev TS:=Ends → St → Hp → Prop
def EP (X:Cx) (pins:List (Addr × Obj)) (σ:St) (Q:VK) (u:Value) (s':Shared):Prop:=∃ v H',Inv X pins σ H' s' ∧ RelV v u ∧ Q v H'
def TP (X:Cx) (pins:List (Addr × Obj)) (σ:St) (Q:Bool → Hp → Prop) (b:Bool) (s':Shared):Prop:=∃ H',Inv X pins σ H' s' ∧ Q b H'
def AP (X:Cx) (pins:List (Addr × Obj)) (σ:St) (Q:List V → Hp → Prop) (us:List Value) (s':Shared):Prop:=∃ vs H',Inv X pins σ H' s' ∧ Vals vs us ∧ Q vs H'
def SP (X:Cx) (pins:List (Addr × Obj)) (D:Ends) (f:Flow) (s':Shared):Prop :=
  match f with
  | .next => ∃ σ' H',Inv X pins σ' H' s' ∧ D.nx σ' H'
  | .brk => ∃ σ' H',Inv X pins σ' H' s' ∧ D.bk σ' H'
  | .cont => ∃ σ' H',Inv X pins σ' H' s' ∧ D.ct σ' H'
  | .ret u => ∃ v σ' H',Inv X pins σ' H' s' ∧ RelV v u ∧ D.rt v H'
def PE (X:Cx) (e:Expr) (t:TE):Prop :=
  ∀ (pins:List (Addr × Obj)) (s:Shared) (σ:St) (H:Hp) (Q:VK),Inv X pins σ H s → t σ H Q → wpAny (model X.prog X.w) X.A (eval e X.env) (EP X pins σ Q) X.xe s
def PT (X:Cx) (e:Expr) (t:TT):Prop :=
  ∀ (pins:List (Addr × Obj)) (s:Shared) (σ:St) (H:Hp) (Q:Bool → Hp → Prop),Inv X pins σ H s → t σ H Q → wpAny (model X.prog X.w) X.A (isTrue e X.env (eval e X.env)) (TP X pins σ Q) X.xe s
def PW (X:Cx) (e:Expr) (t:TT):Prop :=
  ∀ (whole:Sem Value) (pins:List (Addr × Obj)) (s:Shared) (σ:St) (H:Hp) (Q:Bool → Hp → Prop),Inv X pins σ H s → t σ H Q → wpAny (model X.prog X.w) X.A (isTrue e X.env whole) (TP X pins σ Q) X.xe s
def PA (X:Cx) (es:List Expr) (t:TA):Prop :=
  ∀ (pos:Pos) (pins:List (Addr × Obj)) (s:Shared) (σ:St) (H:Hp) (Q:List V → Hp → Prop),Inv X pins σ H s → t σ H Q → wpAny (model X.prog X.w) X.A (spliced (backTo pos (starEach es X.env))) (AP X pins σ Q) X.xe s
def PS (X:Cx) (st:Stmt) (t:TS):Prop :=
  ∀ (pins:List (Addr × Obj)) (s:Shared) (σ:St) (H:Hp) (D:Ends),Inv X pins σ H s → t D σ H → wpAny (model X.prog X.w) X.A (exec st X.env) (SP X pins D) X.xe s
def PSs (X:Cx) (st:List Stmt) (t:TS):Prop :=
  ∀ (pins:List (Addr × Obj)) (s:Shared) (σ:St) (H:Hp) (D:Ends),Inv X pins σ H s → t D σ H → wpAny (model X.prog X.w) X.A (execs st X.env) (SP X pins D) X.xe s
theorem thn {α:Type} {t:Sem α} {Q Q':α → Shared → Prop} {M:Model} {A:Around} {E:Value → Shared → Prop} {s:Shared} (h:wpAny M A t Q E s) (hQ:∀ a s,Q a s → Q' a s):wpAny M A t Q' E s:=wpAny_mono h hQ fun _ _ x => x
end L2
namespace L2
open PySem PySem.Spec PyProof.Rows
section
variable {X:Cx}
def tVar (i:Nat):TE:=fun σ H Q => ∃ v,σ[i]? = some (some v) ∧ Q v H
def tC (v:V):TE:=fun _ H Q => Q v H
theorem pe_var {i:Nat} {x:Str} {pos:Pos} (hN:X.N[i]? = some x) (hv:Vis X.env.scope x) (hd:(x == ("__debug__":Str)) = false:=by decide) (hcd:(x == ("__classdict__":Str)) = false:=by decide):PE X (.Name x pos) (tVar i):=by
  intro pins s σ H Q I h
  obtain ⟨v,e,h⟩:=h
  obtain ⟨m,hn,hl⟩:=I.loc
  obtain ⟨u,r,l⟩:=hl i x v hN e hv
  have fin:EP X pins σ Q u s:=⟨v,H,I,r,h⟩
  rcases l with ⟨hk,hm⟩ | ⟨hk,c,hc,hcell⟩
  · exact wpAny_Name (wpAny_loadName_local I.ok.kind hk hn hm fin) hd
  · rcases hk with hk | hk
    · exact wpAny_Name (wpAny_loadName_cell I.ok.kind hk hc hcell fin) hd
    · exact wpAny_Name (wpAny_loadName_free I.ok.kind hk hc hcell fin hcd) hd
theorem pe_int {i j pos}:PE X (.Constant (.int i) j pos) (tC (.int i)):=fun _ _ _ H _ I h => wpAny_Constant_int ⟨.int i,H,I.tok _,⟨_,rfl⟩,h⟩
theorem pe_bl {b j pos}:PE X (.Constant (.bool b) j pos) (tC (.bl b)):=fun _ _ _ H _ I h => Constant_bool ⟨.bl b,H,I,rfl,h⟩
theorem pe_non {j pos}:PE X (.Constant .none j pos) (tC .non):=fun _ _ _ H _ I h => Constant_none ⟨.non,H,I,rfl,h⟩
theorem pe_str {x j pos}:PE X (.Constant (.str x) j pos) (tC (.str x)):=fun _ _ _ H _ I h => Calls.Constant_str ⟨.str x,H,I.tok _,⟨_,rfl⟩,h⟩
def Gl (X:Cx) (x:Str):Prop:=X.env.kindOf x = some .globalImplicit
theorem ld_glob {E:Value → Shared → Prop} {pins:List (Addr × Obj)} {s:Shared} {σ:St} {H:Hp} {x:Str} {u:Value} {pos:Pos} {Q:Value → Shared → Prop} (I:Inv X pins σ H s) (hg:Gl X x) (hm:X.mg x = some u) (h:Q u s)
    (hd:(x == ("__debug__":Str)) = false:=by decide):wpAny (model X.prog X.w) X.A (eval (.Name x pos) X.env) Q E s :=
  Calls.Name_function_global I.ok.kind hg (Calls.loadGlobal_global (by rw [I.ok.glob]; exact I.mod.glob.keeps I.bk) hm h) hd
theorem ld_blt {E:Value → Shared → Prop} {pins:List (Addr × Obj)} {s:Shared} {σ:St} {H:Hp} {x:Str} {u:Value} {pos:Pos} {Q:Value → Shared → Prop} (I:Inv X pins σ H s) (hg:Gl X x) (hm:X.mg x = none) (hv:bootBuiltins x = some u) (h:Q u s)
    (hn:x ≠ "__name__":=by decide) (hd:(x == ("__debug__":Str)) = false:=by decide):wpAny (model X.prog X.w) X.A (eval (.Name x pos) X.env) Q E s:=by
  obtain ⟨mb,h1,h2⟩:=I.mod.blt
  exact Calls.Name_function_global I.ok.kind hg (Calls.loadGlobal_builtin (by rw [I.ok.glob]; exact I.mod.glob.keeps I.bk) hm (by rw [I.ok.blt]; exact h1.keeps I.bk) ((h2 x hn).trans hv) h) hd
theorem pe_glob {x:Str} {v:V} {u:Value} {pos:Pos} (hg:Gl X x) (hm:X.mg x = some u) (r:RelV v u) (hd:(x == ("__debug__":Str)) = false:=by decide):PE X (.Name x pos) (tC v) :=
  fun _ _ _ H _ I h => ld_glob I hg hm ⟨v,H,I,r,h⟩ hd
theorem pe_bltn {x:Str} {v:V} {u:Value} {pos:Pos} (hg:Gl X x) (hm:X.mg x = none) (hv:bootBuiltins x = some u) (r:RelV v u) (hn:x ≠ "__name__":=by decide) (hd:(x == ("__debug__":Str)) = false:=by decide):PE X (.Name x pos) (tC v) :=
  fun _ _ _ H _ I h => ld_blt I hg hm hv ⟨v,H,I,r,h⟩ hn hd
variable {a b:Expr} {ta tb:TE} {pos:Pos}
def PC (X:Cx) (op:CmpOp) (a b:Expr) (t:TE):Prop :=
  ∀ (pins:List (Addr × Obj)) (s:Shared) (σ:St) (H:Hp) (Q:VK),Inv X pins σ H s → t σ H Q →
    wpAny (model X.prog X.w) X.A (eval a X.env) (fun v s₁ => wpAny (model X.prog X.w) X.A (eval b X.env) (fun u s₂ => wpAny (model X.prog X.w) X.A (compareOp op v u) (EP X pins σ Q) X.xe s₂) X.xe s₁) X.xe s
def tB (t:TE):TT:=fun σ H Q => t σ H fun x H1 => ∃ c,x = .bl c ∧ Q c H1
theorem pe_cmp {op:CmpOp} {t:TE} (h:PC X op a b t) (h1:behindInMarks op b = false:=by first | exact nobehind _ (by decide) (by decide) | rfl):PE X (.Compare a [op] [b] pos) t:=fun pins s σ H Q I hw => wpAny_Compare1 (h pins s σ H Q I hw) h1
theorem pt_cmp {op:CmpOp} {t:TE} (h:PC X op a b t) (h1:behindInMarks op b = false:=by first | exact nobehind _ (by decide) (by decide) | rfl):PT X (.Compare a [op] [b] pos) (tB t):=by
  intro pins s σ H Q I hw
  refine wpAny_isTrue_Compare1 (thn (h pins s σ H _ I hw) fun v s1 h1 => thn h1 fun u s2 h2 => thn h2 fun c s3 ⟨x,H1,I1,r1,q1⟩ => ?_) h1
  obtain ⟨d,rfl,q⟩:=q1
  cases r1
  exact wpAny_truthy_bool ⟨H1,I1,q⟩
variable {tA tB':TT} {rest:List Expr}
def tAnd (t u:TT):TT:=fun σ H Q => t σ H fun c H1 => if c = true then u σ H1 Q else Q false H1
def tOr (t u:TT):TT:=fun σ H Q => t σ H fun c H1 => if c = true then Q true H1 else u σ H1 Q
def tNot (t:TT):TT:=fun σ H Q => t σ H fun c H1 => Q (!c) H1
theorem pw_and1 (ha:PT X a tA):PW X (.BoolOp .And [a] pos) tA:=by
  intro wh pins s σ H Q I h
  refine isTrue_and (thn (ha pins s σ H Q I h) fun c s1 e => ?_)
  cases c with
  | true => exact isTrue_and_nil e
  | false => exact e
theorem pw_or1 (ha:PT X a tA):PW X (.BoolOp .Or [a] pos) tA:=by
  intro wh pins s σ H Q I h
  refine isTrue_or (thn (ha pins s σ H Q I h) fun c s1 e => ?_)
  cases c with
  | false => exact isTrue_or_nil e
  | true => exact e
theorem pw_and (ha:PT X a tA) (hb:PW X (.BoolOp .And (b :: rest) pos) tB'):PW X (.BoolOp .And (a :: b :: rest) pos) (tAnd tA tB'):=by
  intro wh pins s σ H Q I h
  refine isTrue_and (thn (ha pins s σ H _ I h) fun c s1 ⟨H1,I1,q1⟩ => ?_)
  cases c with
  | true => exact hb wh pins s1 σ H1 Q I1 q1
  | false => exact ⟨H1,I1,q1⟩
theorem pw_or (ha:PT X a tA) (hb:PW X (.BoolOp .Or (b :: rest) pos) tB'):PW X (.BoolOp .Or (a :: b :: rest) pos) (tOr tA tB'):=by
  intro wh pins s σ H Q I h
  refine isTrue_or (thn (ha pins s σ H _ I h) fun c s1 ⟨H1,I1,q1⟩ => ?_)
  cases c with
  | true => exact ⟨H1,I1,q1⟩
  | false => exact hb wh pins s1 σ H1 Q I1 q1
theorem pt_not (ha:PT X a tA):PT X (.UnaryOp .Not a pos) (tNot tA):=by
  intro pins s σ H Q I h
  exact isTrue_not (ha pins s σ H (fun c H1 => Q (!c) H1) I h)
def tAndV (ta tb:TE):TE:=fun σ H Q => ta σ H fun x H1 => ∃ c,x = .bl c ∧ if c = true then tb σ H1 Q else Q (.bl false) H1
def tOrV (ta tb:TE):TE:=fun σ H Q => ta σ H fun x H1 => ∃ c,x = .bl c ∧ if c = true then Q (.bl true) H1 else tb σ H1 Q
def tNotV (ta:TE):TE:=fun σ H Q => ta σ H fun x H1 => ∃ c,x = .bl c ∧ Q (.bl (!c)) H1
theorem pe_one {op} {t:TE} (h:PE X a t):PE X (.BoolOp op [a] pos) t:=fun pins s σ H Q I hw => BoolOp_one (h pins s σ H Q I hw)
theorem pe_and (ha:PE X a ta) (hb:PE X (.BoolOp .And (b :: rest) pos) tb):PE X (.BoolOp .And (a :: b :: rest) pos) (tAndV ta tb):=by
  intro pins s σ H Q I h
  refine BoolOp_and (thn (ha pins s σ H _ I h) fun v s1 ⟨x,H1,I1,r1,q1⟩ => ?_)
  obtain ⟨c,rfl,q1⟩:=q1
  cases r1
  refine wpAny_truthy_bool ?_
  cases c with
  | true => exact hb pins s1 σ H1 Q I1 q1
  | false => exact ⟨.bl false,H1,I1,rfl,q1⟩
theorem pe_or (ha:PE X a ta) (hb:PE X (.BoolOp .Or (b :: rest) pos) tb):PE X (.BoolOp .Or (a :: b :: rest) pos) (tOrV ta tb):=by
  intro pins s σ H Q I h
  refine BoolOp_or (thn (ha pins s σ H _ I h) fun v s1 ⟨x,H1,I1,r1,q1⟩ => ?_)
  obtain ⟨c,rfl,q1⟩:=q1
  cases r1
  refine wpAny_truthy_bool ?_
  cases c with
  | false => exact hb pins s1 σ H1 Q I1 q1
  | true => exact ⟨.bl true,H1,I1,rfl,q1⟩
theorem pe_not (ha:PE X a ta):PE X (.UnaryOp .Not a pos) (tNotV ta):=by
  intro pins s σ H Q I h
  refine UnaryOp_ (thn (ha pins s σ H _ I h) fun v s1 ⟨x,H1,I1,r1,q1⟩ => ?_)
  obtain ⟨c,rfl,q1⟩:=q1
  cases r1
  exact not_of (wpAny_truthy_bool ⟨.bl (!c),H1,I1,rfl,q1⟩)
def tIf (t:TT) (ta tb:TE):TE:=fun σ H Q => t σ H fun c H1 => if c = true then ta σ H1 Q else tb σ H1 Q
theorem pe_ifExp {c:Expr} (hc:PT X c tA) (ha:PE X a ta) (hb:PE X b tb):PE X (.IfExp c a b pos) (tIf tA ta tb):=by
  intro pins s σ H Q I h
  refine wpAny_IfExp (thn (hc pins s σ H _ I h) fun d s1 ⟨H1,I1,q1⟩ => ?_)
  cases d with
  | true => exact ha pins s1 σ H1 Q I1 q1
  | false => exact hb pins s1 σ H1 Q I1 q1
end
end L2
namespace L2
open PySem PySem.Spec PyProof.Rows
def SqL (K:PySem.W.Frag) (H:Hp) (a:Addr) (xs:List V):Prop :=
  Rd H a (.lst xs) ∨
    ∃ (o:Obj) (its:Array Value) (n:Nat),K.lookup a = some o ∧ o.cls = .type "list" ∧ o.dict = none ∧ o.data = .seq its n ∧ its.size ≤ sizeLine ∧ Vals xs its.toList
def SqT (K:PySem.W.Frag) (H:Hp) (a:Addr) (xs:List V):Prop :=
  Rd H a (.tup xs) ∨
    ∃ (o:Obj) (its:Array Value) (n:Nat),K.lookup a = some o ∧ o.cls = .type "tuple" ∧ o.data = .seq its n ∧ its.size ≤ sizeLine ∧ Vals xs its.toList
def absV:Value → Option V
  | .none => some .non
  | .bool b => some (.bl b)
  | .int i _ => some (.int i)
  | .str x _ => some (.str x)
  | .bytes b _ => some (.byt b)
  | .float b _ => some (.flt b)
  | .ref a => some (.ref a)
  | .type n => some (.ty n)
  | _ => none
theorem RelV.abs {x:V} {u:Value} (r:RelV x u):absV u = some x:=by
  cases x with
  | non => cases r; rfl
  | bl _ => cases r; rfl
  | int _ => obtain ⟨t,rfl⟩:=r; rfl
  | str _ => obtain ⟨t,rfl⟩:=r; rfl
  | byt _ => obtain ⟨t,rfl⟩:=r; rfl
  | flt _ => obtain ⟨t,rfl⟩:=r; rfl
  | ref _ => cases r; rfl
  | ty _ => cases r; rfl
theorem RelV.inj {x y:V} {u:Value} (r:RelV x u) (q:RelV y u):x = y:=Option.some.inj (r.abs.symm.trans q.abs)
theorem Vals.inj:∀ {xs ys:List V} {us:List Value},Vals xs us → Vals ys us → xs = ys
  | _,_,_,.nil,.nil => rfl
  | _,_,_,.cons r t,.cons r' t' => by rw [r.inj r',Vals.inj t t']
section
variable {X:Cx} {pins:List (Addr × Obj)} {σ:St} {H:Hp} {s:Shared} {a:Addr} {xs ys:List V}
theorem SqL.of {K:PySem.W.Frag} (h:H a = some (.lst xs)):SqL K H a xs:=.inl (.inl h)
theorem SqT.of {K:PySem.W.Frag} (h:H a = some (.tup xs)):SqT K H a xs:=.inl (.inl h)
theorem Inv.list (I:Inv X pins σ H s) (h:SqL X.K H a xs):∃ its:List Value,Vals xs its ∧ PlainL s.heap a its.toArray ∧ xs.length ≤ sizeLine:=by
  rcases h with h | ⟨o,its,n,hk,hc,hd,hs,hz,r⟩
  · obtain ⟨z,its,n,r,e⟩:=h.ok I.hok
    exact ⟨its,r,⟨_,n,e,rfl,rfl,rfl⟩,z⟩
  · refine ⟨its.toList,r,⟨o,n,I.kIn a o hk,hc,hd,by simpa using hs⟩,?_⟩
    have e:=r.length
    simp only [Array.length_toList] at e
    omega
theorem Inv.tuple (I:Inv X pins σ H s) (h:SqT X.K H a xs):∃ its:List Value,Vals xs its ∧ IsTup s.heap a its.toArray ∧ xs.length ≤ sizeLine:=by
  rcases h with h | ⟨o,its,n,hk,hc,hs,hz,r⟩
  · obtain ⟨z,its,r,p,_⟩:=h.ok I.hok
    exact ⟨its,r,p,z⟩
  · refine ⟨its.toList,r,⟨o,I.kIn a o hk,hc,n,by simpa using hs⟩,?_⟩
    have e:=r.length
    simp only [Array.length_toList] at e
    omega
theorem Inv.list_inj (I:Inv X pins σ H s) (h:SqL X.K H a xs) (h':SqL X.K H a ys):xs = ys:=by
  obtain ⟨its,r,⟨o,n,e,_,_,d⟩,_⟩:=I.list h
  obtain ⟨its',r',⟨o',n',e',_,_,d'⟩,_⟩:=I.list h'
  rw [e] at e'; cases e'
  rw [d] at d'
  injection d' with d1 _
  have:its = its':=by simpa using congrArg Array.toList d1
  subst this
  exact r.inj r'
theorem Inv.tuple_inj (I:Inv X pins σ H s) (h:SqT X.K H a xs) (h':SqT X.K H a ys):xs = ys:=by
  obtain ⟨its,r,⟨o,e,_,n,d⟩,_⟩:=I.tuple h
  obtain ⟨its',r',⟨o',e',_,n',d'⟩,_⟩:=I.tuple h'
  rw [e] at e'; cases e'
  rw [d] at d'
  injection d' with d1 _
  have:its = its':=by simpa using congrArg Array.toList d1
  subst this
  exact r.inj r'
end
abbrev Cx.wish (X:Cx) (E:Value → Shared → Prop):Cx:={ X with xe:=E }
abbrev Cx.nox (X:Cx):Cx:=X.wish fun _ _ => False
section
variable {X:Cx} {pins:List (Addr × Obj)} {σ:St} {H:Hp} {s:Shared} {E:Value → Shared → Prop}
end
section
variable {X:Cx} {st:Stmt} {rest:List Stmt} {t u:TS} {e:Expr} {te:TE} {pos:Pos}
def tNext:TS:=fun D σ H => D.nx σ H
def tSeq (t u:TS):TS:=fun D σ H => t { D with nx:=u D } σ H
theorem pss_nil:PSs X [] tNext:=fun _ _ σ H _ I h => wpAny_execs_nil ⟨σ,H,I,h⟩
theorem pss_cons (h1:PS X st t) (h2:PSs X rest u):PSs X (st :: rest) (tSeq t u):=by
  intro pins s σ H D I h
  refine wpAny_execs_cons (thn (h1 pins s σ H { D with nx:=u D } I h) fun f s1 q => ?_)
  cases f with
  | next =>
    obtain ⟨σ',H',I',q⟩:=q
    exact h2 pins s1 σ' H' D I' q
  | ret v => exact q
  | brk => exact q
  | cont => exact q
theorem pss_one (h1:PS X st t):PSs X [st] t:=by
  intro pins s σ H D I h
  refine wpAny_execs_cons (thn (h1 pins s σ H D I h) fun f s1 q => ?_)
  cases f with
  | next => exact wpAny_execs_nil q
  | ret v => exact q
  | brk => exact q
  | cont => exact q
theorem ps_pass:PS X (.Pass pos) tNext:=fun _ _ σ H _ I h => wpAny_Pass ⟨σ,H,I,h⟩
theorem Inv.quiet {pins:List (Addr × Obj)} {σ:St} {H:Hp} {s:Shared} (I:Inv X pins σ H s):interactive X.env = false:=by simp [interactive,I.ok.kind]
def tDrop (te:TE):TS:=fun D σ H => te σ H fun _ H1 => D.nx σ H1
theorem ps_expr (he:PE X e te) (hs:swapsWith e none pos.line X.env = pure false:=by rfl):PS X (.Expr e pos) (tDrop te):=by
  intro pins s σ H D I h
  exact wpAny_Expr_any (thn (he pins s σ H _ I h) fun v s1 ⟨x,H1,I1,r1,q1⟩ => ⟨σ,H1,I1,q1⟩) I.quiet hs
def tRet (te:TE):TS:=fun D σ H => te σ H D.rt
theorem ps_ret (he:PE X e te):PS X (.Return (some e) pos) (tRet te):=by
  intro pins s σ H D I h
  exact wpAny_Return_some (thn (he pins s σ H _ I h) fun v s1 ⟨x,H1,I1,r1,q1⟩ => ⟨x,σ,H1,I1,r1,q1⟩)
def tRetN:TS:=fun D _ H => D.rt .non H
theorem ps_retN:PS X (.Return none pos) tRetN:=fun _ _ σ H _ I h => wpAny_Return_none ⟨.non,σ,H,I,rfl,h⟩
def tIfS (c:TT) (t u:TS):TS:=fun D σ H => c σ H fun b H1 => if b = true then t D σ H1 else u D σ H1
theorem ps_if {c:Expr} {a b:List Stmt} {tc:TT} (hc:PT X c tc) (ha:PSs X a t) (hb:PSs X b u):PS X (.If c a b pos) (tIfS tc t u):=by
  intro pins s σ H D I h
  refine wpAny_If (thn (hc pins s σ H _ I h) fun d s1 ⟨H1,I1,q1⟩ => ?_)
  cases d with
  | true => exact ha pins s1 σ H1 D I1 q1
  | false => exact hb pins s1 σ H1 D I1 q1
def tNever:TS:=fun _ _ _ => False
theorem ps_never:PS X st tNever:=fun _ _ _ _ _ _ h => h.elim
theorem pss_never {sts:List Stmt}:PSs X sts tNever:=fun _ _ _ _ _ _ h => h.elim
end
abbrev TG:=V → St → Hp → (St → Hp → Prop) → Prop
abbrev TGs:=List V → St → Hp → (St → Hp → Prop) → Prop
def PG (X:Cx) (target:Expr) (t:TG):Prop :=
  ∀ (pins:List (Addr × Obj)) (s:Shared) (σ:St) (H:Hp) (v:V) (u:Value) (Q:St → Hp → Prop),Inv X pins σ H s → RelV v u → t v σ H Q →
    wpAny (model X.prog X.w) X.A (assign target X.env u) (fun _ s' => ∃ σ' H',Inv X pins σ' H' s' ∧ Q σ' H') X.xe s
def PGs (X:Cx) (ts:List Expr) (t:TGs):Prop :=
  ∀ (pins:List (Addr × Obj)) (s:Shared) (σ:St) (H:Hp) (vs:List V) (us:List Value) (Q:St → Hp → Prop),Inv X pins σ H s → Vals vs us → t vs σ H Q →
    wpAny (model X.prog X.w) X.A (assignInOrder ((assignEach ts X.env).map (·.2)) us) (fun _ s' => ∃ σ' H',Inv X pins σ' H' s' ∧ Q σ' H') X.xe s
abbrev TSet:=V → V → V → Hp → (Hp → Prop) → Prop
def PSet (X:Cx) (t:TSet):Prop :=
  ∀ (pins:List (Addr × Obj)) (s:Shared) (σ:St) (H:Hp) (o i v:V) (ov iv u:Value) (Q:Hp → Prop),Inv X pins σ H s → RelV o ov → RelV i iv → RelV v u → t o i v H Q →
    wpAny (model X.prog X.w) X.A (setItem ov iv u) (fun _ s' => ∃ H',Inv X pins σ H' s' ∧ Q H') X.xe s
abbrev TIp:=V → V → Hp → VK → Prop
def PIp (X:Cx) (op:Operator) (t:TIp):Prop :=
  ∀ (pins:List (Addr × Obj)) (s:Shared) (σ:St) (H:Hp) (x y:V) (v u:Value) (Q:VK),Inv X pins σ H s → RelV x v → RelV y u → t x y H Q →
    wpAny (model X.prog X.w) X.A (inplaceOp op v u) (EP X pins σ Q) X.xe s
section
variable {X:Cx} {pos:Pos}
def gName (i:Nat):TG:=fun v σ H Q => Q (σ.set i (some v)) H
theorem pg_name {i:Nat} {x:Str} (hN:X.N.Nodup) (hi:X.N[i]? = some x) (hx:Loc X.env.scope x) (hf:X.fn x = true ∨ X.env.scope.names.lookup x = some .local:=by first | exact .inl rfl | exact .inr rfl | assumption):PG X (.Name x pos) (gName i):=by
  intro pins s σ H v u Q I r h
  exact wpAny_assign_Name (store_ok I hN hi hx r (fun s' I' => ⟨_,H,I',h⟩) hf)
def gNil:TGs:=fun vs σ H Q => vs = [] ∧ Q σ H
def gCons (t:TG) (u:TGs):TGs:=fun vs σ H Q => ∃ v r,vs = v :: r ∧ t v σ H fun σ' H' => u r σ' H' Q
theorem pgs_nil:PGs X [] gNil:=by
  intro pins s σ H vs us Q I r h
  obtain ⟨e,h⟩:=h
  subst e
  cases r
  exact assignInOrder_nil ⟨σ,H,I,h⟩
theorem pgs_cons {e:Expr} {es:List Expr} {t:TG} {u:TGs} (h1:PG X e t) (h2:PGs X es u)
    (hs:(assignEach (e :: es) X.env).map (·.2) = assign e X.env :: (assignEach es X.env).map (·.2):=by rfl):PGs X (e :: es) (gCons t u):=by
  intro pins s σ H vs us Q I r h
  obtain ⟨v,vr,e1,h⟩:=h
  subst e1
  cases r with
  | cons r rr =>
    rw [hs]
    refine assignInOrder_cons (thn (h1 pins s σ H _ _ _ I r h) fun _ s1 ⟨σ1,H1,I1,q1⟩ => ?_)
    exact h2 pins s1 σ1 H1 _ _ Q I1 rr q1
def gTup (K:PySem.W.Frag) (n:Nat) (t:TGs):TG:=fun v σ H Q => ∃ a xs,v = .ref a ∧ SqT K H a xs ∧ xs.length = n ∧ t xs σ H Q
theorem pg_tup {es:List Expr} {k:Nat} {t:TGs} {n:Nat} (hc:X.calm = true) (h:PGs X es t)
    (hn:(assignEach es X.env).length = n:=by rfl) (hst:(assignEach es X.env).findIdx? (·.1) = none:=by rfl):PG X (.Tuple es k pos) (gTup X.K n t):=by
  intro pins s σ H v u Q I r hw
  obtain ⟨a,xs,e1,hq,hl,hw⟩:=hw
  subst e1
  cases r
  obtain ⟨its,rv,ht,hz⟩:=I.tuple hq
  refine assign_Tuple_tuple (I.ok.hd hc) ht (by simp [hn,← hl,rv.length]) hst fun h' hx => ?_
  have I1:Inv X pins σ H { s with heap:=h' }:=I.kept (t':=s.toks) fun b o e => hx b o (Nat.ne_of_lt (Heap.lt_size e)) e
  exact h pins _ σ H xs _ Q I1 (by simpa using rv) hw
def gSub (to ti:TE) (t:TSet):TG:=fun v σ H Q => to σ H fun o H1 => ti σ H1 fun i H2 => t o i v H2 fun H3 => Q σ H3
theorem pg_sub {o i:Expr} {to ti:TE} {t:TSet} (ho:PE X o to) (hi:PE X i ti) (hs:PSet X t)
    (ha:∀ v,assign (.Subscript o i pos) X.env v = (do
      let ov ← holding [v] (eval o X.env)
      let iv ← holding [v,ov] (eval i X.env)
      standAt pos
      holding [v,ov,iv] (setItem ov iv v)
      release [v,ov,iv] []):=by intro _; rfl):PG X (.Subscript o i pos) (gSub to ti t):=by
  intro pins s σ H v u Q I r h
  rw [ha]
  refine wpAny_bind (wpAny_holding (thn (ho pins s σ H _ I h) fun ov s1 ⟨x,H1,I1,r1,q1⟩ => ?_))
  refine wpAny_bind (wpAny_holding (thn (hi pins s1 σ H1 _ I1 q1) fun iv s2 ⟨y,H2,I2,r2,q2⟩ => ?_))
  refine wpAny_bind (wpAny_standAt (wpAny_bind (wpAny_holding (thn (hs pins s2 σ H2 x y v ov iv u _ I2 r1 r2 r q2) fun _ s3 ⟨H3,I3,q3⟩ => ?_))))
  exact wpAny_release ⟨σ,H3,I3,q3⟩
def tAsg (te:TE) (g:TG):TS:=fun D σ H => te σ H fun x H1 => g x σ H1 D.nx
theorem ps_asg {tg e:Expr} {te:TE} {g:TG} (he:PE X e te) (hg:PG X tg g) (hs:swapsWithSole [tg] e pos.line X.env = pure false:=by rfl) (hw:swappedStores [tg] e X.env = pure none:=by rfl)
    (h1:(assignEach [tg] X.env).map (·.2) = [assign tg X.env]:=by rfl):PS X (.Assign [tg] e pos) (tAsg te g):=by
  intro pins s σ H D I h
  refine wpAny_Assign_stores (thn (he pins s σ H _ I h) fun v s1 ⟨x,H1,I1,r1,q1⟩ => ?_) hs hw
  rw [h1]
  exact thn (hg pins s1 σ H1 x v _ I1 r1 q1) fun _ s2 q => q
theorem ps_set {i:Nat} {x:Str} {e:Expr} {te:TE} {pos':Pos} (hN:X.N.Nodup) (hi:X.N[i]? = some x) (hx:Loc X.env.scope x) (he:PE X e te) (hs:swapsWith e (some (.Name x pos')) pos.line X.env = pure false:=by rfl) (hf:X.fn x = true ∨ X.env.scope.names.lookup x = some .local:=by first | exact .inl rfl | exact .inr rfl | assumption) :
    PS X (.Assign [.Name x pos'] e pos) (tAsg te (gName i)):=by
  intro pins s σ H D I h
  refine wpAny_Assign_Name (thn (he pins s σ H _ I h) fun v s1 ⟨y,H1,I1,r1,q1⟩ => ?_) hs
  exact store_ok I1 hN hi hx r1 (fun s2 I2 => ⟨_,H1,I2,q1⟩) hf
def tAug (i:Nat) (te:TE) (ti:TIp):TS:=fun D σ H => ∃ x,σ[i]? = some (some x) ∧ te σ H fun y H1 => ti x y H1 fun z H2 => D.nx (σ.set i (some z)) H2
theorem ps_aug {i:Nat} {x:Str} {e:Expr} {te:TE} {op:Operator} {ti:TIp} {pos':Pos} (hN:X.N.Nodup) (hi:X.N[i]? = some x) (hx:Loc X.env.scope x) (he:PE X e te) (ho:PIp X op ti) (hf:X.fn x = true ∨ X.env.scope.names.lookup x = some .local:=by first | exact .inl rfl | exact .inr rfl | assumption) :
    PS X (.AugAssign (.Name x pos') op e pos) (tAug i te ti):=by
  intro pins s σ H D I h
  obtain ⟨v,e1,h⟩:=h
  obtain ⟨m,hn,hl⟩:=I.loc
  have vis:Vis X.env.scope x:=by rcases hx with k | k; exact .inl k; exact .inr (.inl k)
  obtain ⟨u,r,l⟩:=hl i x v hi e1 vis
  refine wpAny_AugAssign_Name ?_
  have go:wpAny (model X.prog X.w) X.A (eval e X.env) (fun w s₂ => wpAny (model X.prog X.w) X.A (inplaceOp op u w) (fun r s₃ => wpAny (model X.prog X.w) X.A (storeName X.env x r) (fun _ => SP X pins D .next) X.xe s₃) X.xe s₂) X.xe s:=by
    refine thn (he pins s σ H _ I h) fun w s1 ⟨y,H1,I1,r1,q1⟩ => ?_
    refine thn (ho pins s1 σ H1 v y u w _ I1 r r1 q1) fun z s2 ⟨zv,H2,I2,r2,q2⟩ => ?_
    exact store_ok I2 hN hi hx r2 (fun s3 I3 => ⟨_,H2,I3,q2⟩) hf
  rcases l with ⟨hk,hm⟩ | ⟨hk,c,hc,hcell⟩
  · exact wpAny_loadName_local I.ok.kind hk hn hm go
  · rcases hk with hk | hk
    · exact wpAny_loadName_cell I.ok.kind hk hc hcell go
    · rcases hx with k | k
      · have:X.env.scope.names.lookup x = some .free:=hk
        rw [k] at this; cases this
      · have:X.env.scope.names.lookup x = some .free:=hk
        rw [k] at this; cases this
def ipI (f:Int → Int → Int):TIp:=fun x y H Q => ∃ i j,x = .int i ∧ y = .int j ∧ Q (.int (f i j)) H
theorem ip_add:PIp X .Add (ipI fun i j => i + j):=by
  intro pins s σ H x y v u Q I r1 r2 h
  obtain ⟨i,j,e1,e2,q⟩:=h
  subst e1; subst e2
  obtain ⟨t,rfl⟩:=r1
  obtain ⟨t',rfl⟩:=r2
  exact iadd_int ⟨.int _,H,I.tok _,⟨_,rfl⟩,q⟩
theorem ip_sub:PIp X .Sub (ipI fun i j => i - j):=by
  intro pins s σ H x y v u Q I r1 r2 h
  obtain ⟨i,j,e1,e2,q⟩:=h
  subst e1; subst e2
  obtain ⟨t,rfl⟩:=r1
  obtain ⟨t',rfl⟩:=r2
  exact isub_int ⟨.int _,H,I.tok _,⟨_,rfl⟩,q⟩
end
section
variable {X:Cx} {pos:Pos}
def tWhile (c:TT) (tb:TS):TS:=fun D σ H => ∃ W:Nat → St → Hp → Prop,(∃ m,W m σ H) ∧ ∀ m σ H,W m σ H →
  c σ H fun b H1 => if b = true then ∃ N:St → Hp → Prop,(∀ σ' H',N σ' H' → ∃ m',m' < m ∧ W m' σ' H') ∧ tb { D with nx:=N,ct:=N,bk:=D.nx } σ H1 else D.nx σ H1
theorem ps_while {c:Expr} {body:List Stmt} {tc:TT} {tb:TS} (hp:PassesOwn (model X.prog X.w) X.A X.env X.xe) (hc:PT X c tc) (hb:PSs X body tb):PS X (.While c body [] pos) (tWhile tc tb):=by
  intro pins s σ H D I h
  obtain ⟨W,⟨m0,w0⟩,turn⟩:=h
  refine wpAny_While (codeAny_whileLoop (fun n s' => ∃ σ' H',Inv X pins σ' H' s' ∧ W n σ' H') ?_ m0 ⟨σ,H,I,w0⟩)
  rintro n s1 ⟨σ1,H1,I1,w1⟩
  refine wpAny_passesOwn hp (thn (hc pins s1 σ1 H1 _ I1 (turn n σ1 H1 w1)) fun b s2 ⟨H2,I2,q2⟩ => ?_)
  cases b with
  | true =>
    obtain ⟨N,hN,q2⟩:=q2
    rw [if_pos rfl]
    refine wpAny_passesOwn hp (thn (hb pins s2 σ1 H2 _ I2 q2) fun f s3 q3 => ?_)
    cases f with
    | next =>
      obtain ⟨σ3,H3,I3,n3⟩:=q3
      obtain ⟨m',hm,w3⟩:=hN σ3 H3 n3
      exact ⟨m',hm,σ3,H3,I3,w3⟩
    | cont =>
      obtain ⟨σ3,H3,I3,n3⟩:=q3
      obtain ⟨m',hm,w3⟩:=hN σ3 H3 n3
      exact ⟨m',hm,σ3,H3,I3,w3⟩
    | brk => exact q3
    | ret v => exact q3
  | false =>
    rw [if_neg Bool.false_ne_true]
    exact wpAny_execs_nil ⟨σ1,H2,I2,q2⟩
end
structure It where
  go:Nat → Hp → Prop
  yld:Nat → Hp → V → Hp → Prop
  stop:Nat → Hp → Prop
def FpOk (X:Cx) (pins:List (Addr × Obj)) (H:Hp) (b:Addr):Prop :=
  H b = none ∧ b ≠ X.env.locals ∧ b ∉ X.fs ∧ (b ∈ X.ex ∨ X.s₀.heap.objs.size ≤ b) ∧ (∀ x c,X.env.cells.lookup x = some c → c ≠ b) ∧ ∀ p ∈ X.pn ++ pins,p.1 ≠ b
theorem Inv.fpOk {X:Cx} {pins:List (Addr × Obj)} {σ:St} {H H':Hp} {s:Shared} {b:Addr} (I:Inv X pins σ H s) (hb:s.heap.objs.size ≤ b) (hn:H' b = none):FpOk X pins H' b:=by
  refine ⟨hn,Nat.ne_of_gt (Nat.lt_of_lt_of_le I.lt hb),I.nofs hb,.inr (Nat.le_trans I.sz hb),fun x c e z => ?_,fun p hp z => ?_⟩
  · obtain ⟨v,q⟩:=I.cell x c e
    exact absurd (Nat.lt_of_lt_of_le q.lt (by rw [z]; exact hb)) (Nat.lt_irrefl _)
  · exact absurd (Nat.lt_of_lt_of_le (Heap.lt_size (I.pin p hp).1) (by rw [z]; exact hb)) (Nat.lt_irrefl _)
structure Turn (P:Program) (w:World) (K:PySem.W.Frag) (tg:Expr) (J:It) (fp:List Addr) (it:Addr) (tn:Nat → Heap → Prop):Prop where
  mem:it ∈ fp
  obj:∀ i h,tn i h → ∀ b ∈ fp,∃ o,h.get? b = some o ∧ ∀ v,o.data ≠ .cell v
  keep:∀ i h h',tn i h → (∀ b ∈ fp,∀ o,h.get? b = some o → h'.get? b = some o) → tn i h'
  item:∀ (X:Cx),X.prog = P → X.w = w → X.K = K → X.calm = true → ∀ (i:Nat) (pins:List (Addr × Obj)) (s:Shared) (σ:St) (H:Hp) (E:Value → Shared → Prop),Inv X pins σ H s → (∀ b ∈ fp,FpOk X pins H b) → tn i s.heap → J.go i H →
    wpAny (model P w) X.A (pyNext (.ref it)) (fun r s1 => ∃ u,r = some u ∧
      wpAny (model P w) X.A (letOwnedTupleGo tg (.ref it) u) (fun _ s2 => ∃ x H',Inv X pins σ H' s2 ∧ RelV x u ∧ J.yld i H x H' ∧ tn (i + 1) s2.heap ∧ ∀ b ∈ fp,H' b = none) E s1) E s
  done:∀ (X:Cx),X.prog = P → X.w = w → X.K = K → X.calm = true → ∀ (i:Nat) (pins:List (Addr × Obj)) (s:Shared) (σ:St) (H:Hp) (E:Value → Shared → Prop),Inv X pins σ H s → (∀ b ∈ fp,FpOk X pins H b) → tn i s.heap → J.stop i H →
    wpAny (model P w) X.A (pyNext (.ref it)) (fun r s1 => r = none ∧ Inv X pins σ H s1) E s
  self:∀ (A:Around) (i:Nat) (s:Shared) (Q:Value → Shared → Prop) (E:Value → Shared → Prop),tn i s.heap → Q (.ref it) s → wpAny (model P w) A (pyIter (.ref it)) Q E s
abbrev TI:=St → Hp → (It → Hp → Prop) → Prop
def PIE (X:Cx) (pins:List (Addr × Obj)) (σ:St) (tg:Expr) (R:It → Hp → Prop) (itv:Value) (s2:Shared):Prop :=
  ∃ (it:Addr) (fp:List Addr) (tn:Nat → Heap → Prop) (J:It) (H':Hp),itv = .ref it ∧ Inv X pins σ H' s2 ∧ Turn X.prog X.w X.K tg J fp it tn ∧ tn 0 s2.heap ∧ (∀ b ∈ fp,FpOk X pins H' b) ∧ R J H'
def PI (X:Cx) (tg iter:Expr) (wi:TI):Prop :=
  ∀ (pins:List (Addr × Obj)) (s:Shared) (σ:St) (H:Hp) (R:It → Hp → Prop),Inv X pins σ H s → wi σ H R →
    wpAny (model X.prog X.w) X.A (eval iter X.env) (fun v s1 => wpAny (model X.prog X.w) X.A (pyIter v) (PIE X pins σ tg R) X.xe s1) X.xe s
theorem go_of {M:Model} {A:Around} {E:Value → Shared → Prop} {s:Shared} {tg:Expr} {it:Addr} {u:Value} {o:Obj} {n:String} {vs:Array Value} {Q:Unit → Shared → Prop} (ho:s.heap.get? it = some o) (hc:o.cls = .type n) (hd:o.data = .fields vs)
    (hn:["enumerate","zip","dict_itemiterator","dict_reverseitemiterator","odict_iterator","itertools.zip_longest","itertools.pairwise"].contains n = false) (hQ:Q () s):wpAny M A (letOwnedTupleGo tg (.ref it) u) Q E s:=by
  unfold letOwnedTupleGo
  cases tg <;> first
    | exact wpAny_pure hQ
    | (cases u <;> first
        | exact wpAny_pure hQ
        | (refine wpAny_bind (wpAny_load ho ?_)
           rw [hc,hd]
           show wpAny M A (if (["enumerate","zip","dict_itemiterator","dict_reverseitemiterator","odict_iterator","itertools.zip_longest","itertools.pairwise"].contains n && vs[0]? == some (rawInt _)) = true then _ else _) Q E s
           rw [if_neg (by intro h; rw [hn,Bool.false_and] at h; cases h)]
           exact wpAny_pure hQ))
def Itl (K:PySem.W.Frag) (a:Addr):It :=
  ⟨fun i H => ∃ xs x,SqL K H a xs ∧ xs[i]? = some x,fun i H x H' => H' = H ∧ ∀ xs,SqL K H a xs → xs[i]? = some x,fun i H => ∃ xs,SqL K H a xs ∧ xs.length ≤ i⟩
def Itt (K:PySem.W.Frag) (a:Addr):It :=
  ⟨fun i H => ∃ xs x,SqT K H a xs ∧ xs[i]? = some x,fun i H x H' => H' = H ∧ ∀ xs,SqT K H a xs → xs[i]? = some x,fun i H => ∃ xs,SqT K H a xs ∧ xs.length ≤ i⟩
def Itr (lo:Int) (n:Nat):It:=⟨fun i _ => i < n,fun i H x H' => H' = H ∧ x = .int (lo + i),fun i _ => n ≤ i⟩
theorem turn_list {P:Program} {w:World} {K:PySem.W.Frag} {tg:Expr} (a it:Addr):Turn P w K tg (Itl K a) [it] it (fun i h => h.IsListIter it a i) where
  mem:=by simp
  obj:=fun i h st b hb => by
    have e:b = it:=by simpa using hb
    subst e
    obtain ⟨o,e,c,d⟩:=st
    exact ⟨o,e,fun v z => by rw [d] at z; cases z⟩
  keep:=fun i h h' st k => st.at fun o e => k it (by simp) o e
  item:=by
    intro X hP hw hK hc i pins s σ H E I hf st hg
    subst hP hw hK
    obtain ⟨xs,x,hq,hx⟩:=hg
    obtain ⟨its,rv,p,hz⟩:=I.list hq
    obtain ⟨u,hu,ru⟩:=rv.get hx
    obtain ⟨f0,f1,f2,f3,f4,f5⟩:=hf it (by simp)
    refine wpAny_pyNext_list_item st p.isList (x:=u) (by simpa using hu) fun h' st' sb => ?_
    have I1:Inv X pins σ H { s with heap:=h' }:=I.turned (t':=s.toks) (fun b o hb e => (sb.2 b hb).trans e) f0 f1 f3 f4 f5
    obtain ⟨o,e,c,d⟩:=id st'
    exact ⟨u,rfl,go_of (s:={ s with heap:=h' }) e c d (by decide) ⟨x,H,I1,ru,⟨rfl,fun ys hy => by rw [I.list_inj hy hq]; exact hx⟩,st',fun b hb => (hf b hb).1⟩⟩
  done:=by
    intro X hP hw hK hc i pins s σ H E I hf st hg
    subst hP hw hK
    obtain ⟨xs,hq,hx⟩:=hg
    obtain ⟨its,rv,p,hz⟩:=I.list hq
    obtain ⟨f0,f1,f2,f3,f4,f5⟩:=hf it (by simp)
    have hl:=rv.length
    exact wpAny_pyNext_list_end (I.ok.hd hc) st p.isList (by simp; omega) fun h' eb => ⟨rfl,I.turned (t':=s.toks) (fun b o hb e => eb b o hb e) f0 f1 f3 f4 f5⟩
  self:=fun _ _ _ _ _ st h => wpAny_pyIter_listiter st h
theorem turn_tuple {P:Program} {w:World} {K:PySem.W.Frag} {tg:Expr} (a it:Addr):Turn P w K tg (Itt K a) [it] it (fun i h => h.IsTupleIter it a i) where
  mem:=by simp
  obj:=fun i h st b hb => by
    have e:b = it:=by simpa using hb
    subst e
    obtain ⟨o,e,c,d⟩:=st
    exact ⟨o,e,fun v z => by rw [d] at z; cases z⟩
  keep:=fun i h h' st k => st.at fun o e => k it (by simp) o e
  item:=by
    intro X hP hw hK hc i pins s σ H E I hf st hg
    subst hP hw hK
    obtain ⟨xs,x,hq,hx⟩:=hg
    obtain ⟨its,rv,p,hz⟩:=I.tuple hq
    obtain ⟨u,hu,ru⟩:=rv.get hx
    obtain ⟨f0,f1,f2,f3,f4,f5⟩:=hf it (by simp)
    refine wpAny_pyNext_tuple_item st (show s.heap.IsTuple a its.toArray from p) (x:=u) (by simpa using hu) fun h' st' sb => ?_
    have I1:Inv X pins σ H { s with heap:=h' }:=I.turned (t':=s.toks) (fun b o hb e => (sb.2 b hb).trans e) f0 f1 f3 f4 f5
    obtain ⟨o,e,c,d⟩:=id st'
    exact ⟨u,rfl,go_of (s:={ s with heap:=h' }) e c d (by decide) ⟨x,H,I1,ru,⟨rfl,fun ys hy => by rw [I.tuple_inj hy hq]; exact hx⟩,st',fun b hb => (hf b hb).1⟩⟩
  done:=by
    intro X hP hw hK hc i pins s σ H E I hf st hg
    subst hP hw hK
    obtain ⟨xs,hq,hx⟩:=hg
    obtain ⟨its,rv,p,hz⟩:=I.tuple hq
    obtain ⟨f0,f1,f2,f3,f4,f5⟩:=hf it (by simp)
    have hl:=rv.length
    exact wpAny_pyNext_tuple_end (I.ok.hd hc) st (show s.heap.IsTuple a its.toArray from p) (by simp; omega) fun h' eb => ⟨rfl,I.turned (t':=s.toks) (fun b o hb e => eb b o hb e) f0 f1 f3 f4 f5⟩
  self:=fun _ _ _ _ _ st h => wpAny_pyIter_tupleiter st h
theorem turn_range {P:Program} {w:World} {K:PySem.W.Frag} {tg:Expr} (it:Addr) (lo:Int) (n:Nat):Turn P w K tg (Itr lo n) [it] it (fun i h => IsRangeIter h it (lo + (i:Nat) * 1) ((n:Int) - (i:Nat)) 1) where
  mem:=by simp
  obj:=fun i h st b hb => by
    have e:b = it:=by simpa using hb
    subst e
    exact ⟨_,st,fun v z => by
      have z':Data.fields _ = Data.cell v:=z
      cases z'⟩
  keep:=fun i h h' st k => k it (by simp) _ st
  item:=by
    intro X hP hw hK hc i pins s σ H E I hf st hg
    subst hP hw hK
    obtain ⟨f0,f1,f2,f3,f4,f5⟩:=hf it (by simp)
    have W:=Walks.range (prog:=X.prog) (w:=X.w) (I.ok.hd hc) it lo 1 n
    refine W.item i s _ _ hg st fun v h' tk hv st' kk => ?_
    obtain ⟨t,rfl⟩:=hv
    have I1:Inv X pins σ H { s with heap:=h',toks:=tk }:=I.turned (fun b o hb e => kk b o (by simpa using hb) e) f0 f1 f3 f4 f5
    refine ⟨_,rfl,go_of (s:={ s with heap:=h',toks:=tk }) (n:="range_iterator") st' rfl rfl (by decide) ⟨.int (lo + i),H,I1,⟨t,?_⟩,⟨rfl,rfl⟩,st',fun b hb => (hf b hb).1⟩⟩
    rw [Int.mul_one]
  done:=by
    intro X hP hw hK hc i pins s σ H E I hf st hg
    subst hP hw hK
    obtain ⟨f0,f1,f2,f3,f4,f5⟩:=hf it (by simp)
    exact wpAny_pyNext_range_end (I.ok.hd hc) st (by have:n ≤ i:=hg; omega) fun h' eb => ⟨rfl,I.turned (t':=s.toks) (fun b o hb e => eb b o hb e) f0 f1 f3 f4 f5⟩
  self:=fun _ _ _ _ _ st h => wpAny_pyIter_rangeiter st h
end L2
namespace L2
open PySem PySem.Spec PyProof.Rows
section
variable {X:Cx} {tg:Expr}
theorem range_it {pins:List (Addr × Obj)} {σ:St} {H:Hp} {s:Shared} {R:It → Hp → Prop} {E:Value → Shared → Prop} {lo hi:Int} {t u v:Tok} {tk:Nat} (I:Inv X pins σ H s) (h1:-(2 ^ 62) ≤ lo) (h2:lo < 2 ^ 62) (h3:-(2 ^ 62) ≤ hi) (h4:hi < 2 ^ 62)
    (q:R (Itr lo (hi - lo).toNat) H):wpAny (model X.prog X.w) X.A (pyIter (.ref s.heap.objs.size)) (PIE X pins σ tg R) E { s with heap:=s.heap.push { cls:=.type "range",data:=.fields #[.int lo t,.int hi u,.int 1 v] },toks:=tk }:=by
  refine wpAny_pyIter_range (IsRange.new ..) (small_one h1 h2 h3 h4) ?_
  have I1:Inv X pins σ H { s with heap:=s.heap.push { cls:=.type "range",data:=.fields #[.int lo t,.int hi u,.int 1 v] },toks:=tk }:=I.kept fun b o e => Heap.get?_push_of_some _ e
  refine ⟨(s.heap.push { cls:=.type "range",data:=.fields #[.int lo t,.int hi u,.int 1 v] }).objs.size,[(s.heap.push { cls:=.type "range",data:=.fields #[.int lo t,.int hi u,.int 1 v] }).objs.size],_,_,H,rfl,
    I1.kept (t':=tk) fun b o e => Heap.get?_push_of_some _ e,turn_range _ lo (hi - lo).toNat,?_,fun b hb => ?_,q⟩
  · have e1:lo + ((0:Nat):Int) * 1 = lo:=by simp
    have e2:(((hi - lo).toNat:Nat):Int) - ((0:Nat):Int) = Builtin.Range.rangeSize lo hi 1:=by rw [rangeSize_one]; split <;> omega
    show IsRangeIter _ _ (lo + ((0:Nat):Int) * 1) ((((hi - lo).toNat:Nat):Int) - ((0:Nat):Int)) 1
    rw [e1,e2]
    exact Heap.get?_push_size _ rfl
  · have e:b = (s.heap.push { cls:=.type "range",data:=.fields #[.int lo t,.int hi u,.int 1 v] }).objs.size:=by simpa using hb
    subst e
    exact I1.fpOk (Nat.le_refl _) (I1.hok.fresh (Nat.le_refl _))
def iRng1 (ta:TA):TI:=fun σ H R => ta σ H fun vs H1 => ∃ j:Int,vs = [.int j] ∧ -(2 ^ 62) ≤ j ∧ j < 2 ^ 62 ∧ R (Itr 0 j.toNat) H1
def iRng2 (ta:TA):TI:=fun σ H R => ta σ H fun vs H1 => ∃ i j:Int,vs = [.int i,.int j] ∧ (-(2 ^ 62) ≤ i ∧ i < 2 ^ 62 ∧ -(2 ^ 62) ≤ j ∧ j < 2 ^ 62) ∧ R (Itr i (j - i).toNat) H1
theorem pi_range1 {a:Expr} {ta:TA} {p pos:Pos} (hg:Gl X "range") (hm:X.mg "range" = none) (ha:PA X [a] ta) (hs:starEach [a] X.env = [(false,eval a X.env)]:=by rfl):PI X tg (.Call (.Name "range" p) [a] [] pos) (iRng1 ta):=by
  intro pins s σ H R I h
  refine Call_ (ld_blt I hg hm boot_range (PyProof.Rows.callWith_type1 (thn (ha pos pins s σ H _ I h) fun us s1 ⟨vs,H1,I1,r1,q1⟩ => ?_) hs rfl))
  obtain ⟨j,e,q1,q2,q⟩:=q1
  subst e
  cases r1 with
  | cons r rr =>
    cases rr
    obtain ⟨t,rfl⟩:=r
    exact call_range_1 (range_it I1 (by omega) (by omega) q1 q2 (by simpa using q))
theorem pi_range2 {a b:Expr} {ta:TA} {p pos:Pos} (hg:Gl X "range") (hm:X.mg "range" = none) (ha:PA X [a,b] ta) (hs:starEach [a,b] X.env = [(false,eval a X.env),(false,eval b X.env)]:=by rfl) (hs2:starEach [b] X.env = [(false,eval b X.env)]:=by rfl) :
    PI X tg (.Call (.Name "range" p) [a,b] [] pos) (iRng2 ta):=by
  intro pins s σ H R I h
  refine Call_ (ld_blt I hg hm boot_range (PyProof.Rows.callWith_type1 (thn (ha pos pins s σ H _ I h) fun us s1 ⟨vs,H1,I1,r1,q1⟩ => ?_) (by rw [hs,hs2]) (by rw [hs2]; rfl)))
  obtain ⟨i,j,e,⟨q1,q2,q3,q4⟩,q⟩:=q1
  subst e
  cases r1 with
  | cons r rr =>
    cases rr with
    | cons r' rr =>
      cases rr
      obtain ⟨t,rfl⟩:=r
      obtain ⟨t',rfl⟩:=r'
      exact call_range_2 (range_it I1 q1 q2 q3 q4 q)
def tFor (wi:TI) (g:TG) (tb:TS):TS:=fun D σ H => wi σ H fun J H1 => ∃ W:Nat → Nat → St → Hp → Prop,(∃ m,W 0 m σ H1) ∧ ∀ i m σ H,W i m σ H →
  (J.stop i H ∧ D.nx σ H) ∨ (J.go i H ∧ ∃ N:St → Hp → Prop,(∀ σ' H',N σ' H' → ∃ m',m' < m ∧ W (i + 1) m' σ' H') ∧ ∀ x H',J.yld i H x H' → g x σ H' fun σ2 H2 => tb { D with nx:=N,ct:=N,bk:=D.nx } σ2 H2)
def pinsAt (fp:List Addr) (h:Heap):List (Addr × Obj):=fp.filterMap fun b => (h.get? b).map fun o => (b,o)
theorem mem_pinsAt {fp:List Addr} {h:Heap} {b:Addr} {o:Obj} (hb:b ∈ fp) (e:h.get? b = some o):(b,o) ∈ pinsAt fp h:=List.mem_filterMap.mpr ⟨b,hb,by rw [e]; rfl⟩
theorem of_pinsAt {fp:List Addr} {h:Heap} {p:Addr × Obj} (hp:p ∈ pinsAt fp h):p.1 ∈ fp ∧ h.get? p.1 = some p.2:=by
  obtain ⟨b,hb,e⟩:=List.mem_filterMap.mp hp
  cases q:h.get? b with
  | none => rw [q] at e; cases e
  | some o =>
    rw [q] at e
    have e':(b,o) = p:=Option.some.inj e
    subst e'
    exact ⟨hb,q⟩
theorem Inv.pinned {pins:List (Addr × Obj)} {σ:St} {H:Hp} {s:Shared} {fp:List Addr} (I:Inv X pins σ H s) (hf:∀ b ∈ fp,FpOk X pins H b) (ho:∀ b ∈ fp,∃ o,s.heap.get? b = some o ∧ ∀ v,o.data ≠ .cell v):Inv X (pins ++ pinsAt fp s.heap) σ H s :=
  I.pins_of fun p hp => (List.mem_append.mp hp).elim (fun z => I.pin p (List.mem_append_right _ z)) fun z => by
    obtain ⟨hb,e⟩:=of_pinsAt z
    obtain ⟨f0,f1,f2,_⟩:=hf p.1 hb
    obtain ⟨o,e',d⟩:=ho p.1 hb
    rw [e] at e'; cases e'
    exact ⟨e,f0,f1,f2,d⟩
theorem Inv.unpinned {pins pl:List (Addr × Obj)} {σ:St} {H:Hp} {s:Shared} (I:Inv X (pins ++ pl) σ H s):Inv X pins σ H s:=I.pins_of fun p hp => I.pin p (List.mem_append_right _ (List.mem_append_left _ hp))
theorem ps_for {iter:Expr} {body:List Stmt} {wi:TI} {g:TG} {tb:TS} {pos:Pos} (hp:PassesOwn (model X.prog X.w) X.A X.env X.xe) (hc:X.calm = true) (hi:PI X tg iter wi) (hg:PG X tg g) (hb:PSs X body tb)
    (hs:∀ x,foldedSetIterable iter X.env x = pure x:=by intro _; rfl):PS X (.For tg iter body [] pos) (tFor wi g tb):=by
  intro pins s σ H D I h
  refine wpAny_For (thn (hi pins s σ H _ I h) fun v s1 h1 => thn h1 fun itv s2 h2 => ?_) hs
  obtain ⟨it,fp,tn,J,H2,e,I2,T,st2,f2,W,⟨m0,w0⟩,turn⟩:=h2
  subst e
  -- what stays true of the iterator's objects through the loop
  have stat:∀ {H':Hp},(∀ b ∈ fp,H' b = none) → ∀ b ∈ fp,FpOk X pins H' b:=fun hn b hb => ⟨hn b hb,(f2 b hb).2⟩
  refine codeAny_forLoop_any (fun n s' => ∃ i σ' H',Inv X pins σ' H' s' ∧ tn i s'.heap ∧ (∀ b ∈ fp,H' b = none) ∧ W i n σ' H') ?_ m0 ⟨0,σ,H2,I2,st2,fun b hb => (f2 b hb).1,w0⟩
  rintro n s3 ⟨i,σ3,H3,I3,st3,fr3,w3⟩
  rcases turn i n σ3 H3 w3 with ⟨stop,qn⟩ | ⟨go,N,hN,step⟩
  · refine wpAny_passesOwn hp (thn (T.done X rfl rfl rfl hc i pins s3 σ3 H3 X.xe I3 (stat fr3) st3 stop) fun r s4 ⟨hr,I4⟩ => ?_)
    subst hr
    exact wpAny_execs_nil ⟨σ3,H3,I4,qn⟩
  · refine wpAny_passesOwn hp (thn (T.item X rfl rfl rfl hc i pins s3 σ3 H3 X.xe I3 (stat fr3) st3 go) fun r s4 ⟨u,hr,h4⟩ => ?_)
    subst hr
    refine wpAny_passesOwn hp (thn h4 fun _ s5 ⟨x,H5,I5,r5,y5,st5,fr5⟩ => ?_)
    have I5':=I5.pinned (stat fr5) (T.obj _ _ st5)
    refine wpAny_passesOwn hp (thn (hg _ s5 σ3 H5 x u _ I5' r5 (step x H5 y5)) fun _ s6 ⟨σ6,H6,I6,q6⟩ => ?_)
    refine wpAny_passesOwn hp (thn (hb _ s6 σ6 H6 _ I6 q6) fun f s7 q7 => ?_)
    have again:∀ {σ7:St} {H7:Hp},Inv X (pins ++ pinsAt fp s5.heap) σ7 H7 s7 → N σ7 H7 → ∃ m,m < n ∧ ∃ i σ' H',Inv X pins σ' H' s7 ∧ tn i s7.heap ∧ (∀ b ∈ fp,H' b = none) ∧ W i m σ' H':=fun {σ7 H7} I7 n7 => by
      obtain ⟨m',hm,w7⟩:=hN σ7 H7 n7
      refine ⟨m',hm,i + 1,σ7,H7,I7.unpinned,T.keep _ _ _ st5 fun b hb o e => (I7.pin (b,o) (List.mem_append_right _ (List.mem_append_right _ (mem_pinsAt hb e)))).1,fun b hb => ?_,w7⟩
      obtain ⟨o,e,d⟩:=T.obj _ _ st5 b hb
      exact (I7.pin (b,o) (List.mem_append_right _ (List.mem_append_right _ (mem_pinsAt hb e)))).2.1
    cases f with
    | next => obtain ⟨σ7,H7,I7,n7⟩:=q7; exact again I7 n7
    | cont => obtain ⟨σ7,H7,I7,n7⟩:=q7; exact again I7 n7
    | brk => obtain ⟨σ7,H7,I7,q7⟩:=q7; exact ⟨σ7,H7,I7.unpinned,q7⟩
    | ret v => obtain ⟨x7,σ7,H7,I7,r7,q7⟩:=q7; exact ⟨x7,σ7,H7,I7.unpinned,r7,q7⟩
end
end L2
namespace L2
open PySem PySem.Spec PyProof.Rows
abbrev R2:=V → V → Hp → VK → Prop
def OpR (X:Cx) (f:Value → Value → Sem Value) (r:R2):Prop :=
  ∀ (pins:List (Addr × Obj)) (s:Shared) (σ:St) (H:Hp) (x y:V) (v u:Value) (Q:VK),Inv X pins σ H s → RelV x v → RelV y u → r x y H Q →
    wpAny (model X.prog X.w) X.A (f v u) (EP X pins σ Q) X.xe s
def UnR (X:Cx) (f:Value → Sem Value) (r:V → Hp → VK → Prop):Prop :=
  ∀ (pins:List (Addr × Obj)) (s:Shared) (σ:St) (H:Hp) (x:V) (v:Value) (Q:VK),Inv X pins σ H s → RelV x v → r x H Q →
    wpAny (model X.prog X.w) X.A (f v) (EP X pins σ Q) X.xe s
def CallR (X:Cx) (f:Value) (r:List V → Hp → VK → Prop):Prop :=
  ∀ (pins:List (Addr × Obj)) (s:Shared) (σ:St) (H:Hp) (xs:List V) (us:List Value) (Q:VK),Inv X pins σ H s → Vals xs us → r xs H Q →
    wpAny (model X.prog X.w) X.A (call f us) (EP X pins σ Q) X.xe s
def TruR (X:Cx) (r:V → Hp → (Bool → Hp → Prop) → Prop):Prop :=
  ∀ (pins:List (Addr × Obj)) (s:Shared) (σ:St) (H:Hp) (x:V) (v:Value) (Q:Bool → Hp → Prop),Inv X pins σ H s → RelV x v → r x H Q →
    wpAny (model X.prog X.w) X.A (truthy v) (TP X pins σ Q) X.xe s
def tOp (r:R2) (ta tb:TE):TE:=fun σ H Q => ta σ H fun x H1 => tb σ H1 fun y H2 => r x y H2 Q
def tUn (r:V → Hp → VK → Prop) (ta:TE):TE:=fun σ H Q => ta σ H fun x H1 => r x H1 Q
def rI (C:Int → Int → Prop) (g:Int → Int → V):R2:=fun x y H Q => ∃ i j,x = .int i ∧ y = .int j ∧ C i j ∧ Q (g i j) H
def rI0 (g:Int → Int → V):R2:=fun x y H Q => ∃ i j,x = .int i ∧ y = .int j ∧ Q (g i j) H
def rU (g:Int → V):V → Hp → VK → Prop:=fun x H Q => ∃ i,x = .int i ∧ Q (g i) H
section
variable {X:Cx} {a b c:Expr} {ta tb tc:TE} {pos:Pos}
theorem binT (ha:PE X a ta) (hb:PE X b tb) {pins:List (Addr × Obj)} {s:Shared} {σ:St} {H:Hp} {R:V → V → Hp → Prop} (I:Inv X pins σ H s)
    (h:ta σ H fun x H1 => tb σ H1 fun y H2 => R x y H2) {Q:Value → Shared → Prop} {f:Value → Value → Sem Value}
    (hf:∀ v u s2 x y H2,Inv X pins σ H2 s2 → RelV x v → RelV y u → R x y H2 → wpAny (model X.prog X.w) X.A (f v u) Q X.xe s2) :
    wpAny (model X.prog X.w) X.A (eval a X.env) (fun v s₁ => wpAny (model X.prog X.w) X.A (eval b X.env) (fun u s₂ => wpAny (model X.prog X.w) X.A (f v u) Q X.xe s₂) X.xe s₁) X.xe s:=by
  refine thn (ha pins s σ H _ I h) fun v s1 ⟨x,H1,I1,r1,q1⟩ => ?_
  refine thn (hb pins s1 σ H1 _ I1 q1) fun u s2 ⟨y,H2,I2,r2,q2⟩ => ?_
  exact hf v u s2 x y H2 I2 r1 r2 q2
theorem pe_op {op:Operator} {r:R2} (ho:OpR X (binaryOp op) r) (ha:PE X a ta) (hb:PE X b tb):PE X (.BinOp a op b pos) (tOp r ta tb):=by
  intro pins s σ H Q I h
  exact wpAny_BinOp (binT ha hb I h fun v u s2 x y H2 I2 rx ry q => ho pins s2 σ H2 x y v u Q I2 rx ry q)
theorem pe_un {op:UnaryOp} {r:V → Hp → VK → Prop} (ho:UnR X (unaryOp op) r) (ha:PE X a ta):PE X (.UnaryOp op a pos) (tUn r ta):=by
  intro pins s σ H Q I h
  exact UnaryOp_ (thn (ha pins s σ H _ I h) fun v s1 ⟨x,H1,I1,r1,q1⟩ => ho pins s1 σ H1 x v Q I1 r1 q1)
theorem opI {f:Value → Value → Sem Value} {C:Int → Int → Prop} {g:Int → Int → Int}
    (rule:∀ (i j:Int) (t u:Tok) (s:Shared) (Q:Value → Shared → Prop) (E:Value → Shared → Prop),C i j → Q (.int (g i j) s.toks) { s with toks:=s.toks + 1 } → wpAny (model X.prog X.w) X.A (f (.int i t) (.int j u)) Q E s) :
    OpR X f (rI C fun i j => .int (g i j)):=by
  intro pins s σ H x y v u Q I rx ry h
  obtain ⟨i,j,rfl,rfl,hc,q⟩:=h
  obtain ⟨t,rfl⟩:=rx
  obtain ⟨t',rfl⟩:=ry
  exact rule i j t t' s _ _ hc ⟨.int (g i j),H,I.tok _,⟨_,rfl⟩,q⟩
theorem opI0 {f:Value → Value → Sem Value} {g:Int → Int → Int}
    (rule:∀ (i j:Int) (t u:Tok) (s:Shared) (Q:Value → Shared → Prop) (E:Value → Shared → Prop),Q (.int (g i j) s.toks) { s with toks:=s.toks + 1 } → wpAny (model X.prog X.w) X.A (f (.int i t) (.int j u)) Q E s) :
    OpR X f (rI0 fun i j => .int (g i j)):=by
  intro pins s σ H x y v u Q I rx ry h
  obtain ⟨i,j,rfl,rfl,q⟩:=h
  obtain ⟨t,rfl⟩:=rx
  obtain ⟨t',rfl⟩:=ry
  exact rule i j t t' s _ _ ⟨.int (g i j),H,I.tok _,⟨_,rfl⟩,q⟩
theorem opB0 {f:Value → Value → Sem Value} {g:Int → Int → Bool}
    (rule:∀ (i j:Int) (t u:Tok) (s:Shared) (Q:Value → Shared → Prop) (E:Value → Shared → Prop),Q (.bool (g i j)) s → wpAny (model X.prog X.w) X.A (f (.int i t) (.int j u)) Q E s) :
    OpR X f (rI0 fun i j => .bl (g i j)):=by
  intro pins s σ H x y v u Q I rx ry h
  obtain ⟨i,j,rfl,rfl,q⟩:=h
  obtain ⟨t,rfl⟩:=rx
  obtain ⟨t',rfl⟩:=ry
  exact rule i j t t' s _ _ ⟨.bl (g i j),H,I,rfl,q⟩
def CPow (i j:Int):Prop:=0 ≤ j ∧ j ≤ 1000000 ∧ i.natAbs < 2 ^ 64
theorem op_add:OpR X (binaryOp .Add) (rI0 fun i j => .int (i + j)):=opI0 fun _ _ _ _ _ _ _ q => add_int q
theorem op_sub:OpR X (binaryOp .Sub) (rI0 fun i j => .int (i - j)):=opI0 fun _ _ _ _ _ _ _ q => sub_int q
theorem op_pow:OpR X (binaryOp .Pow) (rI CPow fun i j => .int (i ^ j.toNat)):=opI fun _ _ _ _ _ _ _ hc q => pow_int_small hc.1 hc.2.1 hc.2.2 q
theorem unI {f:Value → Sem Value} {g:Int → Int}
    (rule:∀ (i:Int) (t:Tok) (s:Shared) (Q:Value → Shared → Prop) (E:Value → Shared → Prop),Q (.int (g i) s.toks) { s with toks:=s.toks + 1 } → wpAny (model X.prog X.w) X.A (f (.int i t)) Q E s) :
    UnR X f (rU fun i => .int (g i)):=by
  intro pins s σ H x v Q I rx h
  obtain ⟨i,rfl,q⟩:=h
  obtain ⟨t,rfl⟩:=rx
  exact rule i t s _ _ ⟨.int (g i),H,I.tok _,⟨_,rfl⟩,q⟩
theorem un_neg:UnR X (unaryOp .USub) (rU fun i => .int (-i)):=unI fun _ _ _ _ _ q => neg_int q
end
section
variable {X:Cx} {a b c:Expr} {ta tb tc:TE} {pos:Pos}
theorem fin_bl {pins:List (Addr × Obj)} {σ:St} {H:Hp} {s:Shared} {Q:VK} {k k':Bool} (I:Inv X pins σ H s) (q:Q (.bl k) H) (e:k = k'):EP X pins σ Q (.bool k') s:=by
  subst e
  exact ⟨.bl k,H,I,rfl,q⟩
theorem op_lt:OpR X (compareOp .Lt) (rI0 fun i j => .bl (decide (i < j))):=opB0 fun _ _ _ _ _ _ _ q => lt_int q
theorem op_le:OpR X (compareOp .LtE) (rI0 fun i j => .bl (decide (i ≤ j))):=opB0 fun _ _ _ _ _ _ _ q => le_int q
theorem op_gt:OpR X (compareOp .Gt) (rI0 fun i j => .bl (decide (j < i))):=opB0 fun _ _ _ _ _ _ _ q => gt_int q
theorem op_ge:OpR X (compareOp .GtE) (rI0 fun i j => .bl (decide (j ≤ i))):=opB0 fun _ _ _ _ _ _ _ q => ge_int q
theorem op_lt_str:OpR X (compareOp .Lt) (fun x y H Q => ∃ i j,x = .str i ∧ y = .str j ∧ Q (.bl (decide (i.cps.toList < j.cps.toList))) H):=by
  intro pins s σ H x y v u Q I rx ry h
  obtain ⟨i,j,rfl,rfl,q⟩:=h
  obtain ⟨t,rfl⟩:=rx
  obtain ⟨t',rfl⟩:=ry
  exact lt_str (fin_bl I q rfl)
theorem op_in_str:OpR X (compareOp .In) (fun x y H Q => ∃ i j,x = .str i ∧ y = .str j ∧ Q (.bl (!(Builtin.Str.occurrences j i 0 j.length 1).isEmpty)) H):=by
  intro pins s σ H x y v u Q I rx ry h
  obtain ⟨i,j,rfl,rfl,q⟩:=h
  obtain ⟨t,rfl⟩:=rx
  obtain ⟨t',rfl⟩:=ry
  exact in_str (fin_bl I q rfl)
theorem op_isN:OpR X (compareOp .Is) (fun x y H Q => y = .non ∧ Q (.bl (decide (x = .non))) H):=by
  intro pins s σ H x y v u Q I rx ry h
  obtain ⟨rfl,q⟩:=h
  cases ry
  refine is_none_gen (fin_bl I q ?_)
  cases x <;> first
    | (cases rx; rfl)
    | (obtain ⟨t,rfl⟩:=rx; rfl)
theorem op_notN:OpR X (compareOp .IsNot) (fun x y H Q => y = .non ∧ Q (.bl (!decide (x = .non))) H):=by
  intro pins s σ H x y v u Q I rx ry h
  obtain ⟨rfl,q⟩:=h
  cases ry
  refine isnot_none_gen (fin_bl I q ?_)
  cases x <;> first
    | (cases rx; rfl)
    | (obtain ⟨t,rfl⟩:=rx; rfl)
theorem pe_cmpR {op:CmpOp} {r:R2} (ho:OpR X (compareOp op) r) (ha:PE X a ta) (hb:PE X b tb) (hm:behindInMarks op b = false):PE X (.Compare a [op] [b] pos) (tOp r ta tb):=by
  intro pins s σ H Q I h
  exact wpAny_Compare1 (binT ha hb I h fun v u s2 x y H2 I2 rx ry q => ho pins s2 σ H2 x y v u Q I2 rx ry q) hm
def tTest (t:TE):TT:=fun σ H Q => t σ H fun x H' => ∃ k,x = .bl k ∧ Q k H'
theorem pt_cmpR {op:CmpOp} {r:R2} (ho:OpR X (compareOp op) r) (ha:PE X a ta) (hb:PE X b tb) (hm:behindInMarks op b = false):PT X (.Compare a [op] [b] pos) (tTest (tOp r ta tb)):=by
  intro pins s σ H Q I h
  refine wpAny_isTrue_Compare1 (thn (ha pins s σ H _ I h) fun v s1 ⟨x,H1,I1,r1,q1⟩ => thn (hb pins s1 σ H1 _ I1 q1) fun u s2 ⟨y,H2,I2,r2,q2⟩ =>
    thn (ho pins s2 σ H2 x y v u _ I2 r1 r2 q2) fun c s3 ⟨z,H3,I3,r3,k,e,q3⟩ => ?_) hm
  subst e
  cases r3
  exact wpAny_truthy_bool ⟨H3,I3,q3⟩
def tChain (r r':R2) (ta tb tc:TE):TE:=fun σ H Q => ta σ H fun x H1 => tb σ H1 fun y H2 => r x y H2 fun z H3 => ∃ k,z = .bl k ∧
  (if k = true then tc σ H3 fun w' H4 => r' y w' H4 Q else Q (.bl false) H3)
theorem pe_chain {op op':CmpOp} {r r':R2} (ho:OpR X (compareOp op) r) (ho':OpR X (compareOp op') r') (ha:PE X a ta) (hb:PE X b tb) (hc:PE X c tc)
    (hm:lastMarks [op,op'] [b,c] = false:=by with_unfolding_all rfl):PE X (.Compare a [op,op'] [b,c] pos) (tChain r r' ta tb tc):=by
  intro pins s σ H Q I h
  refine Compare_chain (thn (ha pins s σ H _ I h) fun v s1 ⟨x,H1,I1,r1,q1⟩ => chain_link (thn (hb pins s1 σ H1 _ I1 q1) fun u s2 ⟨y,H2,I2,r2,q2⟩ =>
    thn (ho pins s2 σ H2 x y v u _ I2 r1 r2 q2) fun d s3 ⟨z,H3,I3,r3,k,e,q3⟩ => ?_)) hm
  subst e
  cases r3
  refine wpAny_truthy_bool ?_
  cases k with
  | false => exact ite_ff ⟨.bl false,H3,I3,rfl,q3⟩
  | true => exact ite_tt (chain_last (thn (hc pins s3 σ H3 _ I3 q3) fun w' s4 ⟨z',H4,I4,r4,q4⟩ => ho' pins s4 σ H4 y z' u w' Q I4 r2 r4 q4))
theorem pt_chain {op op':CmpOp} {r r':R2} (ho:OpR X (compareOp op) r) (ho':OpR X (compareOp op') r') (ha:PE X a ta) (hb:PE X b tb) (hc:PE X c tc)
    (hm:lastMarks [op,op'] [b,c] = false:=by with_unfolding_all rfl):PT X (.Compare a [op,op'] [b,c] pos) (tTest (tChain r r' ta tb tc)):=by
  intro pins s σ H Q I h
  refine isTrue_chain (thn (ha pins s σ H _ I h) fun v s1 ⟨x,H1,I1,r1,q1⟩ => test_link (thn (hb pins s1 σ H1 _ I1 q1) fun u s2 ⟨y,H2,I2,r2,q2⟩ =>
    thn (ho pins s2 σ H2 x y v u _ I2 r1 r2 q2) fun d s3 ⟨z,H3,I3,r3,k,e,q3⟩ => ?_)) hm
  subst e
  cases r3
  refine wpAny_truthy_bool ?_
  cases k with
  | false =>
    obtain ⟨k',e',q'⟩:=q3
    cases e'
    exact ite_ff ⟨H3,I3,q'⟩
  | true =>
    refine ite_tt (test_last (thn (hc pins s3 σ H3 _ I3 q3) fun w' s4 ⟨z',H4,I4,r4,q4⟩ => thn (ho' pins s4 σ H4 y z' u w' _ I4 r2 r4 q4) fun d' s5 ⟨z2,H5,I5,r5,k2,e2,q5⟩ => ?_))
    subst e2
    cases r5
    exact wpAny_truthy_bool ⟨H5,I5,q5⟩
def TruV (K:PySem.W.Frag) (x:V) (H:Hp) (k:Bool):Prop :=
  match x with
  | .non => k = false
  | .bl b => k = b
  | .int i => k = (i != 0)
  | .str y => y.length ≤ sizeLine ∧ k = ((y.length:Int) != 0)
  | .byt y => y.size ≤ sizeLine ∧ k = ((y.size:Int) != 0)
  | .ref p => (∃ xs,SqL K H p xs ∧ k = !xs.isEmpty) ∨ (∃ xs,SqT K H p xs ∧ k = !xs.isEmpty) ∨ ∃ kvs,H p = some (.dK kvs) ∧ k = !kvs.isEmpty
  | _ => False
theorem isEmpty_kv {κ:Type} {kvs:List (κ × V)} {vs:List (κ × Value)} (r:KV kvs vs):(!vs.isEmpty) = !kvs.isEmpty:=by
  cases r <;> rfl
theorem isEmpty_of {xs:List V} {its:List Value} (r:Vals xs its):(!its.toArray.isEmpty) = !xs.isEmpty:=by
  cases r <;> simp
theorem line63:(sizeLine:Nat) < 2 ^ 63:=by rw [sizeLine_eq]; decide
theorem tru_ok:TruR X (fun x H Q => ∃ k,TruV X.K x H k ∧ Q k H):=by
  intro pins s σ H x v Q I rx h
  obtain ⟨k,e,q⟩:=h
  have hl:=line63
  have hs:sizeLine = 16777216:=sizeLine_eq
  cases x with
  | non =>
    cases rx
    have e':k = false:=e
    subst e'
    exact truthy_none ⟨H,I,q⟩
  | bl b =>
    cases rx
    have e':k = b:=e
    subst e'
    exact wpAny_truthy_bool ⟨H,I,q⟩
  | int i =>
    obtain ⟨t,rfl⟩:=rx
    have e':k = (i != 0):=e
    subst e'
    exact PySem.P.truthy_int ⟨H,I,q⟩
  | str y =>
    obtain ⟨t,rfl⟩:=rx
    obtain ⟨hy,e'⟩:y.length ≤ sizeLine ∧ k = ((y.length:Int) != 0):=e
    subst e'
    exact PySem.P.truthy_str (by omega) ⟨H,I.tok _,q⟩
  | byt y =>
    obtain ⟨t,rfl⟩:=rx
    obtain ⟨hy,e'⟩:y.size ≤ sizeLine ∧ k = ((y.size:Int) != 0):=e
    subst e'
    exact PySem.W.truthy_bytes (by omega) ⟨H,I.tok _,q⟩
  | ref p =>
    cases rx
    have e':(∃ xs,SqL X.K H p xs ∧ k = !xs.isEmpty) ∨ (∃ xs,SqT X.K H p xs ∧ k = !xs.isEmpty) ∨ ∃ kvs,H p = some (.dK kvs) ∧ k = !kvs.isEmpty:=e
    rcases e' with ⟨xs,hx,e'⟩ | ⟨xs,hx,e'⟩ | ⟨kvs,hx,e'⟩
    · subst e'
      obtain ⟨its,r,pl,hz⟩:=I.list hx
      have hlen:=r.length
      exact wpAny_truthy_list pl.isList (by simp only [List.size_toArray]; omega) ⟨H,I.tok _,by rw [isEmpty_of r]; exact q⟩
    · subst e'
      obtain ⟨its,r,pl,hz⟩:=I.tuple hx
      have hlen:=r.length
      exact truthy_tuple pl (by simp only [List.size_toArray]; omega) ⟨H,I.tok _,by rw [isEmpty_of r]; exact q⟩
    · subst e'
      obtain ⟨hz,hS,vs,r,m⟩:kvs.length ≤ sizeLine ∧ (p == sysModules) = false ∧ ∃ vs,KV kvs vs ∧ s.heap.DictOf (mixKind X.prog X.w) p vs:=I.hok p _ hx
      have hlen:kvs.length = vs.length:=Paired.length r
      exact wpAny_truthy_dict hS m (by omega) ⟨H,I.tok _,by rw [isEmpty_kv r]; exact q⟩
  | _ => exact (show False from e).elim
theorem pt_truth (ha:PE X a ta) (he:∀ whole,isTrue a X.env whole = (do let v ← whole; standAt a.pos; holding [v] (truthy v))) :
    PT X a (fun σ H Q => ta σ H fun x H' => ∃ k,TruV X.K x H' k ∧ Q k H'):=by
  intro pins s σ H Q I h
  exact isTrue_plain (thn (ha pins s σ H _ I h) fun v s1 ⟨x,H1,I1,r1,q1⟩ => tru_ok pins s1 σ H1 x v Q I1 r1 q1) (he _)
theorem op_add_str:OpR X (binaryOp .Add) (fun x y H Q => ∃ i j,x = .str i ∧ y = .str j ∧ i.length + j.length ≤ sizeLine ∧ Q (.str (i ++ j)) H):=by
  intro pins s σ H x y v u Q I rx ry h
  obtain ⟨i,j,rfl,rfl,hz,q⟩:=h
  obtain ⟨t,rfl⟩:=rx
  obtain ⟨t',rfl⟩:=ry
  exact add_str (fun t' tk => ⟨.str (i ++ j),H,I.tok _,⟨_,rfl⟩,q⟩) hz
theorem vals1 {x:V} {us:List Value} (r:Vals [x] us):∃ u,us = [u] ∧ RelV x u:=by
  cases r with
  | cons r1 r2 => cases r2; exact ⟨_,rfl,r1⟩
theorem vals2 {x y:V} {us:List Value} (r:Vals [x,y] us):∃ u w',us = [u,w'] ∧ RelV x u ∧ RelV y w':=by
  cases r with
  | cons r1 r2 =>
    cases r2 with
    | cons r3 r4 => cases r4; exact ⟨_,_,rfl,r1,r3⟩
theorem call_min2 (hc:X.calm = true):CallR X (.builtin "min") (fun xs H Q => ∃ i j,xs = [.int i,.int j] ∧ Q (.int (if j < i then j else i)) H):=by
  intro pins s σ H xs us Q I r h
  obtain ⟨i,j,rfl,q⟩:=h
  obtain ⟨u,w',rfl,⟨t,rfl⟩,⟨t',rfl⟩⟩:=vals2 r
  refine min_two_ints (I.ok.hd hc) fun h' tk k => ⟨_,H,I.kept k,?_,q⟩
  by_cases hj:j < i
  · rw [if_pos hj,if_pos hj]; exact ⟨_,rfl⟩
  · rw [if_neg hj,if_neg hj]; exact ⟨_,rfl⟩
theorem call_int1:CallR X (.type "int") (fun xs H Q => (∃ i,xs = [.int i] ∧ Q (.int i) H) ∨ ∃ k,xs = [.bl k] ∧ Q (.int (if k then 1 else 0)) H):=by
  intro pins s σ H xs us Q I r h
  rcases h with ⟨i,rfl,q⟩ | ⟨k,rfl,q⟩
  · obtain ⟨u,rfl,t,rfl⟩:=vals1 r
    exact call_int_int ⟨.int i,H,I,⟨_,rfl⟩,q⟩
  · obtain ⟨u,rfl,r1⟩:=vals1 r
    cases r1
    exact call_int_bool ⟨.int (if k then 1 else 0),H,I.tok _,⟨_,rfl⟩,q⟩
theorem call_ord:CallR X (.builtin "ord") (fun xs H Q => ∃ x,xs = [.str x] ∧ x.length = 1 ∧ Q (.int (x.cps.getD 0 0:Nat)) H):=by
  intro pins s σ H xs us Q I r h
  obtain ⟨x,rfl,hz,q⟩:=h
  obtain ⟨u,rfl,t,rfl⟩:=vals1 r
  exact ord_of_one hz ⟨.int _,H,I.tok _,⟨_,rfl⟩,q⟩
end
end L2
namespace L2
open PySem PySem.Spec PyProof.Rows
section
variable {prog:Program} {w:World} {A:Around} {E:Value → Shared → Prop} {s:Shared} {K:PySem.W.Frag} {x dx C f:Addr} {mA:Str → Option Value} {name:Str} {v:Value}
end
section
variable {P:Program} {w:World} {H H':Hp} {h h':Heap} {a C dx:Addr} {fs fs':List (Str × V)}
end
section
variable {X:Cx} {pins:List (Addr × Obj)} {σ:St} {H:Hp} {s:Shared} {a C dx:Addr} {fs:List (Str × V)} {f:Str} {v:V} {A:Around} {E:Value → Shared → Prop}
end
section
variable {X:Cx} {o e value:Expr} {f:Str} {pos pos' tpos:Pos} {ta tv:TE}
end
section
variable {X:Cx} {pins:List (Addr × Obj)} {σ:St} {H:Hp} {s:Shared} {A:Around} {E:Value → Shared → Prop} {Q:Value → Shared → Prop} {c:Value} {b:Bool}
end
end L2
namespace L2
open PySem PySem.Spec PyProof.Rows
structure Room (k:Nat) (A:Around):Prop where
  hd:A.handled = none
  dp:A.depth + 3 * k + 5 < recursionLimit
  un:A.units + 16 * k + 200 < cLine
theorem Room.mono {j k:Nat} {A:Around} (r:Room k A) (h:j ≤ k):Room j A:=⟨r.hd,by have:=r.dp; omega,by have:=r.un; omega⟩
theorem Room.deeper {k:Nat} {A:Around} (r:Room (k + 1) A) (env:Env):Room k (A.deeper env) :=
  ⟨r.hd,by have:=r.dp; show A.depth + 1 + 3 * k + 5 < _; omega,by have:=r.un; show A.units + 3 + 16 * k + 200 < _; omega⟩
theorem Room.depth {k:Nat} {A:Around} (r:Room k A):A.depth < recursionLimit:=by have:=r.dp; omega
def tNil:TA:=fun _ H Q => Q [] H
def tCons (ta:TE) (tr:TA):TA:=fun σ H Q => ta σ H fun x H1 => tr σ H1 fun xs H2 => Q (x :: xs) H2
section
variable {X:Cx} {e:Expr} {es:List Expr} {te:TE} {t:TA} {pos:Pos}
theorem pa_nil:PA X [] tNil:=fun _ _ _ _ H Q I h => Calls.spliced_nil ⟨[],H,I,.nil,h⟩
theorem pa_cons (ha:PE X e te) (hr:PA X es t) (hs:starEach (e :: es) X.env = (false,eval e X.env) :: starEach es X.env:=by rfl):PA X (e :: es) (tCons te t):=by
  intro pos pins s σ H Q I h
  rw [hs]
  show wpAny _ _ (spliced ((false,eval e X.env) :: backTo pos (starEach es X.env))) _ _ s
  refine Calls.spliced_cons (thn (ha pins s σ H _ I h) fun u s1 ⟨x,H1,I1,r1,q1⟩ => ?_)
  exact thn (hr pos pins s1 σ H1 _ I1 q1) fun us s2 ⟨xs,H2,I2,r2,q2⟩ => ⟨x :: xs,H2,I2,.cons r1 r2,q2⟩
def tTup (t:TA):TE:=fun σ H Q => t σ H fun xs H1 => xs.length ≤ sizeLine ∧ ∀ p,H1 p = none → Q (.ref p) (upd H1 p (.tup xs))
def tLst (t:TA):TE:=fun σ H Q => t σ H fun xs H1 => xs.length ≤ sizeLine ∧ ∀ p,H1 p = none → Q (.ref p) (upd H1 p (.lst xs))
theorem pe_tup {x1} (h:PA X es t):PE X (.Tuple es x1 pos) (tTup t):=by
  intro pins s σ H Q I hq
  refine wpAny_Tuple_spliced (thn (h pos pins s σ H _ I hq) fun us s1 ⟨xs,H1,I1,r,z,q⟩ => ⟨by rw [← r.length]; exact z,?_⟩)
  have hf:H1 s1.heap.objs.size = none:=I1.hok.fresh (Nat.le_refl _)
  refine ⟨.ref s1.heap.objs.size,upd H1 s1.heap.objs.size (.tup xs),I1.laid (t':=s1.toks) (fun b u e => Heap.get?_push_of_some _ e) (Nat.le_refl _) ?_,rfl,q _ hf⟩
  exact ⟨z,us,r,⟨_,Heap.get?_push_size _ rfl,rfl,_,rfl⟩,NoDi.new _ _⟩
theorem pe_lst (h:PA X es t):PE X (.List es pos) (tLst t):=by
  intro pins s σ H Q I hq
  refine wpAny_List_spliced (thn (h pos pins s σ H _ I hq) fun us s1 ⟨xs,H1,I1,r,z,q⟩ => ⟨by rw [← r.length]; exact z,?_⟩)
  have hf:H1 s1.heap.objs.size = none:=I1.hok.fresh (Nat.le_refl _)
  refine ⟨.ref s1.heap.objs.size,upd H1 s1.heap.objs.size (.lst xs),I1.laid (t':=s1.toks) (fun b u e => Heap.get?_push_of_some _ e) (Nat.le_refl _) ?_,rfl,q _ hf⟩
  exact ⟨z,us,0,r,Heap.get?_push_size _ rfl⟩
end
abbrev Sp:=List V → Hp → VK → XK → Prop
abbrev CXT:=List Env → Hp → Shared → XK → Value → Shared → Prop
structure Env0 (P:Program) (w:World) (K:PySem.W.Frag) (mg:Str → Option Value) (base:Heap) (A:Around) (outer:List Env) (s:Shared) (H:Hp):Prop where
  frames:A.frames = some outer
  mod:Mod K mg base
  bs:∀ b o,base.get? b = some o → s.heap.get? b = some o ∧ H b = none
  bsz:base.objs.size ≤ s.heap.objs.size
  funs:s.heap.FunFrames base outer
  frf:∀ b ∈ frs outer,H b = none
  hok:HOk P w H s.heap
  bare:AllBare s.gens
def CE (outer:List Env) (P:Program) (w:World) (H:Hp) (s:Shared) (Q:VK) (u:Value) (s':Shared):Prop :=
  ∃ v H',s'.os = s.os ∧ AllBare s'.gens ∧ Un (frs outer) [] H H' s.heap s'.heap ∧ HOk P w H' s'.heap ∧ RelV v u ∧ Q v H'
def CR (CX:CXT) (outer:List Env) (P:Program) (w:World) (H:Hp) (s:Shared) (Q:VK) (E:XK) (r:Result) (s':Shared):Prop :=
  match r with
  | .ok (.ret u) => CE outer P w H s Q u s'
  | .ok _ => False
  | .error e => CX outer H s E e s'
structure FnOk (P:Program) (w:World) (K:PySem.W.Frag) (mg:Str → Option Value) (base:Heap) (CX:CXT) (k:Nat) (f:Addr) (fd:FuncData) (ps:List Str) (sp:Sp):Prop where
  len:∀ vs H Q E,sp vs H Q E → vs.length = ps.length
  run:∀ (A:Around) (outer:List Env) (s:Shared) (H:Hp) (args:Args) (us:List Value) (vs:List V) (Q:VK) (E:XK),Room k A → Env0 P w K mg base A outer s H → BindsTo s fd args (ps.zip us) → Vals vs us → sp vs H Q E →
    codeAny (model P w) A (.call (.ref f) args) (CR CX outer P w H s Q E) s
theorem FnOk.mono {P:Program} {w:World} {K:PySem.W.Frag} {mg:Str → Option Value} {base:Heap} {CX:CXT} {j k:Nat} {f:Addr} {fd:FuncData} {ps:List Str} {sp:Sp} (F:FnOk P w K mg base CX j f fd ps sp) (h:j ≤ k) :
    FnOk P w K mg base CX k f fd ps sp:=⟨F.len,fun A outer s H args us vs Q E hr => F.run A outer s H args us vs Q E (hr.mono h)⟩
section
variable {X:Cx} {pins:List (Addr × Obj)} {σ:St} {H:Hp} {s s':Shared}
theorem Inv.env0 (I:Inv X pins σ H s):Env0 X.prog X.w X.K X.mg X.base X.A X.stack s H :=
  ⟨I.ok.frames,I.ok.mod,I.bs,Nat.le_trans I.ok.bsz I.sz,I.stack,I.stkFree,I.hok,I.bare⟩
theorem Inv.after {Q:VK} {u:Value} (I:Inv X pins σ H s) (h:CE X.stack X.prog X.w H s Q u s'):EP X pins σ Q u s':=by
  obtain ⟨v,H',os,bare,un,hok,r,q⟩:=h
  obtain ⟨hh,g,d,t,os'⟩:=s'
  obtain rfl:os' = s.os:=os
  exact ⟨v,H',I.call (h':=hh) (g':=g) (d':=d) (t':=t) (ch:=[]) un hok bare (fun b z => absurd z (by simp)),r,q⟩
end
def Binds (K:PySem.W.Frag) (fd:FuncData) (ps:List Str) (ds:List Value):Prop :=
  ∀ (s:Shared) (us:List Value),K.In s.heap → (us ++ ds).length = ps.length → BindsTo s fd ⟨us,[]⟩ (ps.zip (us ++ ds))
theorem Binds.all {K:PySem.W.Frag} {fd:FuncData} {ps:List Str} (h:∀ us:List Value,us.length = ps.length → bindArgs fd ⟨us,[]⟩ = pure (ps.zip us)):Binds K fd ps []:=fun s us _ hl => by
  rw [List.append_nil] at hl ⊢
  exact .of_eq (h us hl)
section
variable {X:Cx} {CX:CXT} {k:Nat} {f C:Addr} {fd:FuncData} {ps:List Str} {sp:Sp} {dvs:List V} {ds:List Value} {E:XK} {x m:Str} {p pos apos:Pos} {e o:Expr} {es:List Expr} {ta:TE} {t:TA}
end
section
variable {X:Cx} {CX:CXT} {k:Nat} {f C:Addr} {fd:FuncData} {ps ks:List Str} {sp:Sp} {E:XK} {x m:Str} {p pos apos kpos:Pos} {e o:Expr} {es:List Expr} {kws:List Keyword} {te ta:TE} {t tk:TA} {nm:Option Str}
variable {g:List Value → List Value → List Value} {gV:List V → List V → List V}
end
structure FnScope (N P:List Str) (sc:Scope):Prop where
  kind:sc.kind = .function
  co:sc.isCoroutine = false
  gen:sc.isGenerator = false
  nd:N.Nodup
  pre:N.take P.length = P
  par:∀ x ∈ P,sc.names.lookup x = some .local ∨ sc.names.lookup x = some .cell
  nofree:∀ y ∈ sc.names,y.2 ≠ .free
theorem bindL_out {kindOf:Str → Option NameKind} {x:Str}:∀ {binds:List (Str × Value)} {m:Str → Option Value},(∀ v,(x,v) ∉ binds) → bindL kindOf binds m x = m x
  | [],_,_ => rfl
  | (n,v) :: r,m,h => by
    unfold bindL
    rw [bindL_out fun w hw => h w (List.mem_cons_of_mem _ hw)]
    split
    · have:x ≠ n:=by rintro rfl; exact h v List.mem_cons_self
      simp [this]
    · rfl
theorem bindC_out {kindOf:Str → Option NameKind} {x:Str}:∀ {binds:List (Str × Value)} {m:Str → Option Value},(∀ v,(x,v) ∉ binds) → bindC kindOf binds m x = m x
  | [],_,_ => rfl
  | (n,v) :: r,m,h => by
    unfold bindC
    rw [bindC_out fun w hw => h w (List.mem_cons_of_mem _ hw)]
    split
    · rfl
    · have:x ≠ n:=by rintro rfl; exact h v List.mem_cons_self
      simp [this]
theorem bindL_get {kindOf:Str → Option NameKind} {x:Str} {v:Value}:∀ {P:List Str} {vs:List Value} {i:Nat} {m:Str → Option Value},P.Nodup → P[i]? = some x → vs[i]? = some v → kindOf x = some .local →
    bindL kindOf (P.zip vs) m x = some v
  | [],_,_,_,_,h,_,_ => by simp at h
  | _ :: _,[],_,_,_,_,h,_ => by simp at h
  | p :: P,w :: vs,0,m,nd,h1,h2,hk => by
    simp at h1 h2; subst h1; subst h2
    show bindL kindOf ((p,w) :: P.zip vs) m p = _
    unfold bindL
    rw [bindL_out fun v hv => (List.nodup_cons.mp nd).1 (List.of_mem_zip hv).1,if_pos hk]
    simp
  | p :: P,w :: vs,i + 1,m,nd,h1,h2,hk => by
    show bindL kindOf ((p,w) :: P.zip vs) m x = _
    unfold bindL
    exact bindL_get (i:=i) (List.nodup_cons.mp nd).2 (by simpa using h1) (by simpa using h2) hk
theorem bindC_get {kindOf:Str → Option NameKind} {x:Str} {v:Value}:∀ {P:List Str} {vs:List Value} {i:Nat} {m:Str → Option Value},P.Nodup → P[i]? = some x → vs[i]? = some v → kindOf x ≠ some .local →
    bindC kindOf (P.zip vs) m x = some v
  | [],_,_,_,_,h,_,_ => by simp at h
  | _ :: _,[],_,_,_,_,h,_ => by simp at h
  | p :: P,w :: vs,0,m,nd,h1,h2,hk => by
    simp at h1 h2; subst h1; subst h2
    show bindC kindOf ((p,w) :: P.zip vs) m p = _
    unfold bindC
    rw [bindC_out fun v hv => (List.nodup_cons.mp nd).1 (List.of_mem_zip hv).1,if_neg hk]
    simp
  | p :: P,w :: vs,i + 1,m,nd,h1,h2,hk => by
    show bindC kindOf ((p,w) :: P.zip vs) m x = _
    unfold bindC
    exact bindC_get (i:=i) (List.nodup_cons.mp nd).2 (by simpa using h1) (by simpa using h2) hk
def start (N:List Str) (vs:List V):St:=vs.map some ++ List.replicate (N.length - vs.length) none
def cxOf (CX:CXT) (P:Program) (w:World) (K:PySem.W.Frag) (mg:Str → Option Value) (base:Heap) (N:List Str) (qual:Str) (scope:Scope) (f:Addr) (cd:Value) (A:Around) (outer:List Env) (s:Shared) (H:Hp) (E:XK):Cx where
  prog:=P
  w:=w
  K:=K
  mg:=mg
  base:=base
  A:=A.deeper (envOfC qual scope s.heap.objs.size f cd)
  N:=N
  s₀:=s
  H₀:=H
  env:=envOfC qual scope s.heap.objs.size f cd
  outer:=outer
  stack:=envOfC qual scope s.heap.objs.size f cd :: outer
  ex:=[]
  calm:=true
  fn:=fun _ => true
  pn:=[]
  xe:=fun e s' => wpAny (model P w) (A.deeper (envOfC qual scope s.heap.objs.size f cd)) (leaving (envOfC qual scope s.heap.objs.size f cd) e) (fun _ s'' => CX outer H s E e s'') (fun e' s'' => CX outer H s E e' s'') s'
theorem cell_has {sc:Scope} {n:Nat} {x:Str} (h:sc.names.lookup x = some .cell):∃ c,(cellsFrom n sc.names []).lookup x = some c:=by
  have q:=PySem.W.cellsFrom_some sc.names n [] (.inl h)
  exact Option.isSome_iff_exists.mp q
theorem inv_start {CX:CXT} {P:Program} {w:World} {K:PySem.W.Frag} {mg:Str → Option Value} {base:Heap} {N ps:List Str} {qual:Str} {scope:Scope} {f:Addr} {cd:Value} {A:Around} {outer:List Env} {s s1:Shared} {H:Hp} {E:XK} {us:List Value} {vs:List V}
    (S:FnScope N ps scope) (hd:A.handled = none) (e0:Env0 P w K mg base A outer s H) (hl:vs.length = ps.length) (r:Vals vs us)
    (x:InCallC s s.heap.objs.size (bindL (envOfC qual scope s.heap.objs.size f cd).kindOf (ps.zip us) fun _ => none) (cellsFrom (s.heap.objs.size + 1) scope.names []) (bindC (envOfC qual scope s.heap.objs.size f cd).kindOf (ps.zip us) fun _ => none) s1) :
    Inv (cxOf CX P w K mg base N qual scope f cd A outer s H E) [] (start N vs) H s1:=by
  have hpl:ps.length ≤ N.length:=by have:=congrArg List.length S.pre; rw [List.length_take] at this; omega
  obtain ⟨h1,tk,rfl,hk⟩:=x.done
  have noA:∀ b:Addr,b ∉ (cxOf CX P w K mg base N qual scope f cd A outer s H E).ex:=fun b z => absurd (show b ∈ ([]:List Addr) from z) (by simp)
  refine ⟨⟨e0.mod,S.kind,rfl,rfl,Nat.le_refl _,fun y z c h1 h2 => ?_,fun y hy => ?_,fun y c _ h => ?_,fun _ => hd,Around.frames_deeper e0.frames,.inr ⟨rfl,rfl⟩,fun b z => absurd z (noA b),e0.bs,e0.bsz,fun b _ _ => noA b,fun b z => absurd z (noA b),e0.funs,e0.frf⟩,
    rfl,e0.bare,Un.kept hk,⟨_,x.toInCall.ns,fun i y v h1 h2 h3 => ?_⟩,fun y c h => ⟨_,x.cell y c h⟩,e0.hok.fresh (Nat.le_refl _),fun y c h => ?_,fun p hp => absurd (show p ∈ ([]:List (Addr × Obj)) from hp) (by simp),e0.hok.kept hk,?_⟩
  · exact name_of_addr x.apart (PySem.mem_of_lookup h1) (PySem.mem_of_lookup h2)
  · have hy:scope.names.lookup y = some .cell ∨ scope.names.lookup y = some .free:=hy
    rcases hy with hy | hy
    · exact cell_has hy
    · exact absurd rfl (S.nofree _ (PySem.mem_of_lookup hy))
  · exact Nat.le_of_lt (x.above y c (PySem.mem_of_lookup h))
  · have hi:i < vs.length:=by
      unfold start at h2
      by_cases hi:i < vs.length
      · exact hi
      · rw [List.getElem?_append_right (by simpa using hi)] at h2
        rw [List.getElem?_replicate] at h2
        split at h2 <;> cases h2
    have ha:vs[i]? = some v:=by
      unfold start at h2
      rw [List.getElem?_append_left (by simpa using hi),List.getElem?_map] at h2
      cases e:vs[i]? with
      | none => rw [e] at h2; cases h2
      | some a => rw [e] at h2; cases h2; rfl
    obtain ⟨u,hu,rv⟩:=r.get ha
    have hp:ps[i]? = some y:=by
      rw [← S.pre,List.getElem?_take_of_lt (by omega)]; exact h1
    have ndP:ps.Nodup:=by rw [← S.pre]; exact S.nd.sublist (List.take_sublist _ _)
    refine ⟨u,rv,?_⟩
    rcases S.par y (List.mem_of_getElem? hp) with k | k
    · exact .inl ⟨k,bindL_get ndP hp hu k⟩
    · obtain ⟨c,e⟩:=cell_has (n:=s.heap.objs.size + 1) k
      refine .inr ⟨.inl k,c,e,?_⟩
      have q:=x.cell y c e
      rw [bindC_get ndP hp hu (by show scope.names.lookup y ≠ _; rw [k]; decide)] at q
      exact q
  · exact e0.hok.fresh (Nat.le_of_lt (x.above y c (PySem.mem_of_lookup h)))
  · unfold start
    show _ = N.length
    rw [List.length_append,List.length_map,List.length_replicate]
    omega
theorem fn_of {CX:CXT} {P:Program} {w:World} {K:PySem.W.Frag} {mg:Str → Option Value} {base:Heap} {k:Nat} {f:Addr} {name qual:Str} {params:Arguments} {body:List Stmt} {scope:Scope} {dV kV doc pm cdv ct oc:Value} {an od:Option Addr}
    {osl:Array (Option Value)} {N ps:List Str} {sp:Sp} (lk:K.lookup f = some ⟨oc,od,.func (PySem.W.fnOf name qual params body scope dV kV doc pm an cdv ct),osl⟩) (hcd:PySem.W.codeIn K cdv qual = true) (S:FnScope N ps scope)
    (len:∀ vs H Q E,sp vs H Q E → vs.length = ps.length)
    (hbody:∀ (A:Around) (outer:List Env) (s:Shared) (H:Hp) (vs:List V) (Q:VK) (E:XK),Room k (A.deeper (envOfC qual scope s.heap.objs.size f cdv)) → sp vs H Q E →
      ∃ t,PSs (cxOf CX P w K mg base N qual scope f cdv A outer s H E) body t ∧ t { nx:=fun _ H' => Q .non H',rt:=Q } (start N vs) H) :
    FnOk P w K mg base CX (k + 1) f (PySem.W.fnOf name qual params body scope dV kV doc pm an cdv ct) ps sp:=by
  refine ⟨len,fun A outer s H args us vs Q E hr e0 hb r hsp => ?_⟩
  have hl:=len _ _ _ _ hsp
  have KX:K.In s.heap:=e0.mod.kin.keeps fun b o e => (e0.bs b o e).1
  have lim:s.heap.NoLimit:=e0.mod.nolimit.keeps fun b o e => (e0.bs b o e).1
  have hkind:∀ y ∈ ps.zip us,scope.names.lookup y.1 = some .local ∨ (scope.names.lookup y.1 = some .cell ∧ ((cellsFrom (s.heap.objs.size + 1) scope.names []).lookup y.1).isSome = true):=fun ⟨n,v⟩ hy => by
    rcases S.par n (List.of_mem_zip hy).1 with q | q
    · exact .inl q
    · exact .inr ⟨q,PySem.W.cellsFrom_some _ _ _ (.inl q)⟩
  refine codeAny_call_function hr.depth (KX _ _ lk) rfl S.co S.gen rfl (PySem.W.codeRec_of KX hcd) (hb _ _ _ _ ?_)
  refine wpAny_newFunctionEnv_cells S.kind hkind fun env he s1 x => ?_
  subst he
  refine ⟨lim.keeps x.toInCall.keep,codeAny_func ?_⟩
  obtain ⟨t,ht,hq⟩:=hbody A outer s H vs Q E (hr.deeper _) hsp
  have I:Inv (cxOf CX P w K mg base N qual scope f cdv A outer s H E) [] (start N vs) H s1:=inv_start S hr.hd e0 hl r x
  refine wpAny_mono (ht [] s1 (start N vs) H _ I hq) (fun fl s' hs => ?_) fun e s' hs => hs
  have fin:∀ {σ':St} {H':Hp} {v:V} {u:Value},Inv (cxOf CX P w K mg base N qual scope f cdv A outer s H E) [] σ' H' s' → RelV v u → Q v H' → CE outer P w H s Q u s' :=
    fun {σ' H' v u} J rv q => ⟨v,H',J.os,J.bare,J.base,J.hok,rv,q⟩
  cases fl with
  | ret u =>
    obtain ⟨v,σ',H',J,rv,q⟩:=hs
    exact fin J rv q
  | next =>
    obtain ⟨σ',H',J,q⟩:=hs
    exact fin (v:=V.non) (u:=Value.none) J rfl q
  | brk =>
    obtain ⟨_,_,_,q⟩:=hs
    exact False.elim q
  | cont =>
    obtain ⟨_,_,_,q⟩:=hs
    exact False.elim q
end L2
namespace L2
open PySem PySem.Spec PyProof.Rows
section
variable {X:Cx} {x:Str} {p pos:Pos} {e:Expr} {es:List Expr} {t:TA} {id T:String} {r:List V → Hp → VK → Prop}
def tCB (r:List V → Hp → VK → Prop) (t:TA):TE:=fun σ H Q => t σ H fun vs H1 => r vs H1 Q
theorem pe_callB (hc:CallR X (.builtin id) r) (hg:Gl X x) (hm:X.mg x = none) (hv:bootBuiltins x = some (.builtin id)) (ha:PA X (e :: es) t) (hn:x ≠ "__name__":=by decide) (hdb:(x == ("__debug__":Str)) = false:=by decide)
    (he:starEach (e :: es) X.env = (false,eval e X.env) :: starEach es X.env:=by rfl) (hpl:(backTo pos (starEach es X.env)).any (·.1) = false:=by rfl):PE X (.Call (.Name x p) (e :: es) [] pos) (tCB r t):=by
  intro pins s σ H Q I h
  refine wpAny_Call_Name_kw (ld_blt I hg hm hv ?_ hn hdb)
  exact PyProof.Rows.callWith_builtin1 (thn (ha pos pins s σ H _ I h) fun us s1 ⟨vs,H1,I1,r1,q1⟩ => hc pins s1 σ H1 vs us Q I1 r1 q1) he hpl
theorem pe_callTy (hc:CallR X (.type T) r) (hg:Gl X x) (hm:X.mg x = none) (hv:bootBuiltins x = some (.type T)) (ha:PA X (e :: es) t) (hn:x ≠ "__name__":=by decide) (hdb:(x == ("__debug__":Str)) = false:=by decide)
    (he:starEach (e :: es) X.env = (false,eval e X.env) :: starEach es X.env:=by rfl) (hpl:(backTo pos (starEach es X.env)).any (·.1) = false:=by rfl):PE X (.Call (.Name x p) (e :: es) [] pos) (tCB r t):=by
  intro pins s σ H Q I h
  refine wpAny_Call_Name_kw (ld_blt I hg hm hv ?_ hn hdb)
  exact PyProof.Rows.callWith_type1 (thn (ha pos pins s σ H _ I h) fun us s1 ⟨vs,H1,I1,r1,q1⟩ => hc pins s1 σ H1 vs us Q I1 r1 q1) he hpl
end
end L2
namespace HT
open PySem PyProof.Rows
section
open PySem.SeqAt
open PySem.AutoSeq1 (wpAny_loadPart')
open PySem.MeetsSeq PySem.MeetsSeq2 PySem.MeetsSeq3
end
section
variable {prog:Program} {w:World} {A:Around} {E:Value → Shared → Prop} {s:Shared}
theorem cat_tup {t b:Addr} {vs ws:List Value} {Q:Value → Shared → Prop} (ht:IsTup s.heap t vs.toArray) (hb:IsTup s.heap b ws.toArray) (hv:vs ≠ [])
    (h1:ws = [] → Q (.ref t) s) (h2:ws ≠ [] → Q (.ref s.heap.objs.size) { s with heap:=s.heap.push { cls:=.type "tuple",data:=.seq (vs ++ ws).toArray } })
    (hsz:vs.length + ws.length ≤ sizeLine):wpAny (model prog w) A (binaryOp .Add (.ref t) (.ref b)) Q E s:=by
  obtain ⟨⟨cls,dd,data,sl⟩,ho,hc,n,hd⟩:=id ht
  obtain ⟨⟨cls2,dd2,data2,sl2⟩,ho2,hc2,n2,hd2⟩:=id hb
  simp only at hc hd hc2 hd2
  subst hc hd hc2 hd2
  have e:vs.toArray ++ ws.toArray = (vs ++ ws).toArray:=by simp
  by_cases hw:ws = []
  · exact concat_meets ⟨_,ho,rfl⟩ ⟨_,ho2,rfl⟩ noFill_tuple_add seq_tuple_add PySem.F.slot_tuple_add PySem.F.entry_tuple_add (PySem.F.args_tuple_add_2 _ _)
      (tuple_addW1 t b vs.toArray ws.toArray n n2 dd dd2 sl sl2 (by simpa using hv) (by simp [hw])) ⟨ho,ho2,h1 hw⟩
  · refine concat_meets ⟨_,ho,rfl⟩ ⟨_,ho2,rfl⟩ noFill_tuple_add seq_tuple_add PySem.F.slot_tuple_add PySem.F.entry_tuple_add (PySem.F.args_tuple_add_2 _ _)
      (tuple_addW2 t b vs.toArray ws.toArray n n2 dd dd2 sl sl2 (by simpa using hv) (by simpa using hw) (by rw [List.size_toArray,List.size_toArray]; exact hsz)) ⟨ho,ho2,?_⟩
    rw [e]
    exact h2 hw
def sIx (n d:Nat):Option Int → Nat
  | none => d
  | some v => if v < 0 then (v + (n:Int)).toNat else min v.toNat n
theorem sIx_le (n d:Nat) (hd:d ≤ n) (o:Option Int):sIx n d o ≤ n:=by
  cases o with
  | none => exact hd
  | some v =>
    show (if v < 0 then (v + (n:Int)).toNat else min v.toNat n) ≤ n
    by_cases hv:v < 0
    · rw [if_pos hv]; omega
    · rw [if_neg hv]; exact Nat.min_le_right _ _
theorem clip_eq (v:Int) (n d:Nat):(if v < 0 then max (v + (n:Int)) 0 else min v (n:Int)) = ((sIx n d (some v):Nat):Int):=by
  show (if v < 0 then max (v + (n:Int)) 0 else min v (n:Int)) = (((if v < 0 then (v + (n:Int)).toNat else min v.toNat n):Nat):Int)
  by_cases hv:v < 0
  · simp only [if_pos hv]; omega
  · simp only [if_neg hv]; omega
theorem adjust_gen (lo hi:Option Int) (n:Nat):Builtin.Slice.sliceAdjust lo hi 1 (n:Int) = (((sIx n 0 lo:Nat):Int),((sIx n n hi:Nat):Int)):=by
  have h1:¬ ((1:Int) < 0):=by omega
  unfold Builtin.Slice.sliceAdjust
  simp only [h1,if_false]
  refine Prod.ext ?_ ?_
  · cases lo with
    | none => rfl
    | some v => exact clip_eq v n 0
  · cases hi with
    | none => rfl
    | some v => exact clip_eq v n n
theorem places_gen (i j:Nat):Builtin.Slice.slicePlaces (i:Int) (j:Int) 1 = j - i:=by
  unfold Builtin.Slice.slicePlaces
  have h1:(1:Int) > 0:=by omega
  simp only [h1,if_true,Int.ediv_one]
  split <;> omega
theorem slicePart_ {v:Value} {o:Option Int} {Q:Option Int → Shared → Prop} (p:IsPart v o) (h:Q o s):wpAny (model prog w) A (Builtin.Slice.slicePartIndex v) Q E s:=by
  cases p with
  | none => exact slicePart_none h
  | int i t => exact slicePart_int h
theorem sliceApplied_gen {sl:Addr} {vl vu:Value} {lo hi:Option Int} {n:Nat} {Q:Int × Int × Nat → Shared → Prop} (hs:s.heap.IsSliceOf sl vl vu .none) (pl:IsPart vl lo) (pu:IsPart vu hi)
    (h:Q (((sIx n 0 lo:Nat):Int),1,sIx n n hi - sIx n 0 lo) s):wpAny (model prog w) A (Builtin.Slice.sliceApplied (.ref sl) (pure (n:Int))) Q E s:=by
  obtain ⟨os,hos,hcs,hds⟩:=id hs
  unfold Builtin.Slice.sliceApplied Builtin.Slice.sliceFields
  refine wpAny_bind (wpAny_bind (wpAny_field hos hds (x:=vl) rfl (wpAny_bind (wpAny_field hos hds (x:=vu) rfl (wpAny_bind (wpAny_field hos hds (x:=.none) rfl (wpAny_pure ?_)))))))
  refine wpAny_bind (slicePart_none ?_)
  show wpAny _ _ (if ((1:Int) == 0) = true then _ else _) _ _ s
  rw [if_neg (by decide)]
  refine wpAny_bind (slicePart_ pl (wpAny_bind (slicePart_ pu (wpAny_bind (wpAny_pure ?_)))))
  show wpAny _ _ (match Builtin.Slice.sliceAdjust lo hi 1 (n:Int) with | (lo,hi) => pure (lo,(1:Int),Builtin.Slice.slicePlaces lo hi 1)) _ _ s
  rw [adjust_gen lo hi n]
  show wpAny _ _ (pure (((sIx n 0 lo:Nat):Int),(1:Int),Builtin.Slice.slicePlaces ((sIx n 0 lo:Nat):Int) ((sIx n n hi:Nat):Int) 1)) _ _ s
  rw [places_gen]
  exact wpAny_pure h
theorem pick_gen (xs:Array Value) (i k:Nat):((List.range k).filterMap fun (m:Nat) => xs[((i:Int) + (m:Int) * 1).toNat]?).toArray = ((xs.toList.drop i).take k).toArray:=by
  have e:(fun (m:Nat) => xs[((i:Int) + (m:Int) * 1).toNat]?) = fun m => xs[i + m]?:=by
    funext m
    have:((i:Int) + (m:Int) * 1).toNat = i + m:=by omega
    rw [this]
  rw [e]
  have:=pick_run xs i k
  rw [List.filterMap_map] at this
  have e2:((fun x => xs[x]?) ∘ fun x => i + x) = fun m => xs[i + m]?:=rfl
  rw [e2] at this
  rw [this]
theorem getItem_tuple_cut {t sl:Addr} {items:Array Value} {vl vu:Value} {lo hi:Option Int} {Q:Value → Shared → Prop} (ht:IsTup s.heap t items) (hs:s.heap.IsSliceOf sl vl vu .none) (pl:IsPart vl lo) (pu:IsPart vu hi)
    (hw:¬ (sIx items.size 0 lo = 0 ∧ sIx items.size items.size hi = items.size))
    (h:Q (.ref s.heap.objs.size) { s with heap:=s.heap.push { cls:=.type "tuple",data:=.seq ((items.toList.drop (sIx items.size 0 lo)).take (sIx items.size items.size hi - sIx items.size 0 lo)).toArray } })
    (hsz:items.size ≤ sizeLine):wpAny (model prog w) A (getItem (.ref t) (.ref sl)) Q E s:=by
  have htake:sizeOk (.seq ((items.toList.drop (sIx items.size 0 lo)).take (sIx items.size items.size hi - sIx items.size 0 lo)).toArray):=by
    show ((items.toList.drop (sIx items.size 0 lo)).take (sIx items.size items.size hi - sIx items.size 0 lo)).toArray.size ≤ sizeLine
    rw [List.size_toArray,List.length_take,List.length_drop,Array.length_toList]
    omega
  have hj:sIx items.size items.size hi ≤ items.size:=sIx_le _ _ (Nat.le_refl _) hi
  obtain ⟨os,hos,hcs,hds⟩:=id hs
  have hTs:s.TypeIs (.ref sl) "slice":=⟨os,hos,hcs⟩
  unfold getItem
  try with_reducible refine wpAny_holding ?_
  first | refine wpAny_bind (wpAny_pure ?_) | skip
  refine wpAny_bind (wpAny_sequenceKey ht.typeIs (by decide) ?_)
  refine wpAny_bind (wpAny_callSpecial?_slot (name:=Str.ofString "__getitem__") ht.typeIs PyProof.Rows.slot_tuple_getitem
    (wpAny_call_entry PyProof.Rows.slot_tuple_getitem ht.typeIs entry_tuple_getitem ?_ (args_tuple_getitem _ _)))
  show wpAny _ _ (Builtin.Tuple.tupleItemsOf (.ref t) >>= _) _ _ s
  refine wpAny_bind (tupleItemsOf_ ht ?_)
  refine wpAny_bind (wpAny_typeOf hTs ?_)
  rw [if_pos (by decide)]
  refine wpAny_bind (sliceApplied_gen hs pl pu ?_)
  have hno:¬ ((((sIx items.size 0 lo:Nat):Int) == 0 && (1:Int) == 1 && (sIx items.size items.size hi - sIx items.size 0 lo) == items.size) = true):=by
    intro q
    rw [Bool.and_eq_true,Bool.and_eq_true] at q
    have q1:((sIx items.size 0 lo:Nat):Int) = 0:=eq_of_beq q.1.1
    have q2:sIx items.size items.size hi - sIx items.size 0 lo = items.size:=eq_of_beq q.2
    exact hw ⟨by omega,by omega⟩
  show wpAny _ _ (if (((sIx items.size 0 lo:Nat):Int) == 0 && (1:Int) == 1 && (sIx items.size items.size hi - sIx items.size 0 lo) == items.size) = true then _ else _) _ _ s
  rw [if_neg hno,pick_gen]
  first
    | exact wpAny_bind (m:=Builtin.Tuple.tupleExact _) (wpAny_newObj_type (wpAny_pure ⟨_,rfl,wpAny_pure h⟩) htake)
    | exact wpAny_bind (m:=Builtin.Tuple.tupleExact _) (wpAny_newObj_type (wpAny_bind (wpAny_pure (wpAny_pure ⟨_,rfl,wpAny_pure h⟩))) htake)
    | exact wpAny_bind (wpAny_bind (m:=Builtin.Tuple.tupleExact _) (wpAny_newObj_type (wpAny_pure (wpAny_pure ⟨_,rfl,wpAny_pure h⟩)) htake))
    | exact wpAny_bind (wpAny_bind (m:=Builtin.Tuple.tupleExact _) (wpAny_newObj_type (wpAny_pure ⟨_,rfl,wpAny_pure h⟩) htake))
end
end HT
namespace L2
open PySem PySem.Spec PyProof.Rows
abbrev TO:=St → Hp → (Option Int → Hp → Prop) → Prop
def PO (X:Cx) (e:Option Expr) (t:TO):Prop :=
  ∀ (pins:List (Addr × Obj)) (s:Shared) (σ:St) (H:Hp) (Q:Option Int → Hp → Prop),Inv X pins σ H s → t σ H Q →
    wpAny (model X.prog X.w) X.A (evalPart e X.env) (fun u s' => ∃ o H',Inv X pins σ H' s' ∧ IsPart u o ∧ Q o H') X.xe s
def tNoPart:TO:=fun _ H Q => Q none H
def tPart (t:TE):TO:=fun σ H Q => t σ H fun x H1 => ∃ i,x = .int i ∧ Q (some i) H1
section
variable {X:Cx} {e:Expr} {te:TE} {lo hi:Option Expr} {tl th:TO} {pos p2:Pos}
theorem po_none:PO X none tNoPart:=by
  intro pins s σ H Q I h
  rw [evalPart_none]
  exact wpAny_pure ⟨none,H,I,.none,h⟩
theorem po_some (h:PE X e te):PO X (some e) (tPart te):=by
  intro pins s σ H Q I hw
  rw [evalPart_some]
  refine thn (h pins s σ H _ I hw) fun u s1 ⟨x,H1,I1,r1,q1⟩ => ?_
  obtain ⟨i,rfl,q⟩:=q1
  obtain ⟨t,rfl⟩:=r1
  exact ⟨some i,H1,I1,.int i t,q⟩
def SlR (X:Cx) (r:V → Option Int → Option Int → Hp → VK → Prop):Prop :=
  ∀ (pins:List (Addr × Obj)) (s:Shared) (σ:St) (H:Hp) (x:V) (v vl vu:Value) (lo hi:Option Int) (sl:Addr) (Q:VK),Inv X pins σ H s → RelV x v → s.heap.IsSliceOf sl vl vu .none → IsPart vl lo → IsPart vu hi → r x lo hi H Q →
    ∃ T id,typeLookup (.type T) "__getitem__" = pure (some (.builtin id)) ∧ s.TypeIs v T ∧ wpAny (model X.prog X.w) X.A (getItem v (.ref sl)) (EP X pins σ Q) X.xe s
theorem SlR.or {r r':V → Option Int → Option Int → Hp → VK → Prop} (h:SlR X r) (h':SlR X r'):SlR X (fun x lo hi H Q => r x lo hi H Q ∨ r' x lo hi H Q):=by
  intro pins s σ H x v vl vu lo hi sl Q I rx hs pl pu q
  rcases q with q | q
  · exact h pins s σ H x v vl vu lo hi sl Q I rx hs pl pu q
  · exact h' pins s σ H x v vl vu lo hi sl Q I rx hs pl pu q
def tSl (r:V → Option Int → Option Int → Hp → VK → Prop) (te:TE) (tl th:TO):TE:=fun σ H Q => te σ H fun x H1 => tl σ H1 fun l H2 => th σ H2 fun u H3 => r x l u H3 Q
theorem pe_slice {r:V → Option Int → Option Int → Hp → VK → Prop} (hr:SlR X r) (he:PE X e te) (hl:PO X lo tl) (hu:PO X hi th):PE X (.Subscript e (.Slice lo hi none p2) pos) (tSl r te tl th):=by
  intro pins s σ H Q I h
  refine Subscript_ (thn (he pins s σ H _ I h) fun v s1 ⟨x,H1,I1,r1,q1⟩ => ?_)
  refine wpAny_Slice (thn (hl pins s1 σ H1 _ I1 q1) fun vl s2 ⟨l,H2,I2,pl,q2⟩ => thn (hu pins s2 σ H2 _ I2 q2) fun vu s3 ⟨u,H3,I3,pu,q3⟩ => ?_)
  rw [evalPart_none]
  refine wpAny_pure ?_
  have I4:Inv X pins σ H3 { s3 with heap:=s3.heap.push { cls:=.type "slice",data:=.fields #[vl,vu,.none] } }:=I3.kept (t':=s3.toks) fun b ob q => Heap.get?_push_of_some _ q
  obtain ⟨T,id,hT,ht,hg⟩:=hr pins { s3 with heap:=s3.heap.push { cls:=.type "slice",data:=.fields #[vl,vu,.none] } } σ H3 x v vl vu l u s3.heap.objs.size Q I4 r1 (Heap.IsSliceOf.new ..) pl pu q3
  show wpAny (model X.prog X.w) X.A (subscriptTail e (.Slice lo hi none p2) v (.ref s3.heap.objs.size)) (EP X pins σ Q) X.xe { s3 with heap:=s3.heap.push { cls:=.type "slice",data:=.fields #[vl,vu,.none] } }
  exact tail_any (ops:=[.ref s3.heap.objs.size,v]) ht hT hg (by with_unfolding_all rfl)
def cutV (xs:List V) (lo hi:Option Int):List V:=(xs.drop (HT.sIx xs.length 0 lo)).take (HT.sIx xs.length xs.length hi - HT.sIx xs.length 0 lo)
theorem cutV_length (xs:List V) (lo hi:Option Int):(cutV xs lo hi).length ≤ xs.length:=by
  unfold cutV
  rw [List.length_take,List.length_drop]
  omega
def rSlT (K:PySem.W.Frag):V → Option Int → Option Int → Hp → VK → Prop:=fun x lo hi H Q => ∃ a xs,x = .ref a ∧ SqT K H a xs ∧
  ¬ (HT.sIx xs.length 0 lo = 0 ∧ HT.sIx xs.length xs.length hi = xs.length) ∧ ∀ p,H p = none → Q (.ref p) (upd H p (.tup (cutV xs lo hi)))
theorem sl_tup:SlR X (rSlT X.K):=by
  intro pins s σ H x v vl vu lo hi sl Q I rx hs pl pu h
  obtain ⟨a,xs,rfl,hx,hw,q⟩:=h
  cases rx
  obtain ⟨its,r,ht,hz⟩:=I.tuple hx
  have hlen:its.toArray.size = xs.length:=by rw [List.size_toArray]; exact r.length.symm
  refine ⟨"tuple",_,PyProof.Rows.slot_tuple_getitem.lookup,ht.typeIs,?_⟩
  refine HT.getItem_tuple_cut ht hs pl pu (by rw [hlen]; exact hw) ?_ (by rw [hlen]; exact hz)
  rw [hlen]
  refine ⟨.ref s.heap.objs.size,_,I.laid (t':=s.toks) (o:=.tup (cutV xs lo hi)) (fun b ob q => Heap.get?_push_of_some _ q) (Nat.le_refl _) ?_,rfl,q _ (I.hok.fresh (Nat.le_refl _))⟩
  exact ⟨Nat.le_trans (cutV_length xs lo hi) hz,_,(r.drop (HT.sIx xs.length 0 lo)).take (HT.sIx xs.length xs.length hi - HT.sIx xs.length 0 lo),IsTup.new _ _,NoDi.new _ _⟩
def rCatT (K:PySem.W.Frag):R2:=fun x y H Q => ∃ a b xs ys,x = .ref a ∧ y = .ref b ∧ SqT K H a xs ∧ SqT K H b ys ∧ xs ≠ [] ∧ xs.length + ys.length ≤ sizeLine ∧
  (ys = [] → Q (.ref a) H) ∧ (ys ≠ [] → ∀ p,H p = none → Q (.ref p) (upd H p (.tup (xs ++ ys))))
theorem Vals.nil_iff {xs:List V} {us:List Value} (r:Vals xs us):us = [] ↔ xs = []:=by
  cases r with
  | nil => simp
  | cons _ _ => simp
theorem op_catT:OpR X (binaryOp .Add) (rCatT X.K):=by
  intro pins s σ H x y v u Q I rx ry h
  obtain ⟨a,b,xs,ys,rfl,rfl,ha,hb,hx,hz,q1,q2⟩:=h
  cases rx
  cases ry
  obtain ⟨its,r1,p1,_⟩:=I.tuple ha
  obtain ⟨its2,r2,p2,_⟩:=I.tuple hb
  refine HT.cat_tup p1 p2 (fun z => hx (r1.nil_iff.mp z)) (fun z => ⟨.ref a,H,I,rfl,q1 (r2.nil_iff.mp z)⟩) (fun z => ?_) (by rw [← r1.length,← r2.length]; exact hz)
  refine ⟨.ref s.heap.objs.size,_,I.laid (t':=s.toks) (o:=.tup (xs ++ ys)) (fun b ob q => Heap.get?_push_of_some _ q) (Nat.le_refl _) ?_,rfl,q2 (fun w => z (r2.nil_iff.mpr w)) _ (I.hok.fresh (Nat.le_refl _))⟩
  exact ⟨by rw [List.length_append]; exact hz,_,r1.append r2,IsTup.new _ _,NoDi.new _ _⟩
end
end L2
namespace L2
open PySem PySem.Spec PyProof.Rows
def ixN (n:Nat) (i:Int):Option Nat:=if 0 ≤ i then (if i < n then some i.toNat else none) else if -(n:Int) ≤ i then some (i + n).toNat else none
def atI {α:Type} (xs:List α) (i:Int):Option α:=(ixN xs.length i).bind fun j => xs[j]?
theorem ixN_seq {n:Nat} {i:Int} {j:Nat} (h:ixN n i = some j):seqIndex? i n = some j ∧ j < n ∧ -(n:Int) ≤ i ∧ i < n:=by
  unfold ixN at h
  by_cases h0:0 ≤ i
  · rw [if_pos h0] at h
    by_cases h1:i < n
    · rw [if_pos h1] at h
      have e:i.toNat = j:=Option.some.inj h
      exact ⟨by rw [seqIndex_of h0 h1,e],by omega,by omega,h1⟩
    · rw [if_neg h1] at h; cases h
  · rw [if_neg h0] at h
    by_cases h1:-(n:Int) ≤ i
    · rw [if_pos h1] at h
      have e:(i + n).toNat = j:=Option.some.inj h
      exact ⟨by rw [seqIndex_neg (by omega) h1,e],by omega,h1,by omega⟩
    · rw [if_neg h1] at h; cases h
theorem atI_get {α:Type} {xs:List α} {i:Int} {v:α} (h:atI xs i = some v):∃ j,seqIndex? i xs.length = some j ∧ xs[j]? = some v ∧ j < xs.length ∧ -(xs.length:Int) ≤ i ∧ i < xs.length:=by
  unfold atI at h
  cases e:ixN xs.length i with
  | none => rw [e] at h; cases h
  | some j =>
    rw [e] at h
    obtain ⟨h1,h2,h3,h4⟩:=ixN_seq e
    exact ⟨j,h1,h,h2,h3,h4⟩
theorem atI_nat {α:Type} {xs:List α} {j:Nat} {v:α} (h:xs[j]? = some v):atI xs (j:Int) = some v:=by
  have hj:j < xs.length:=(List.getElem?_eq_some_iff.mp h).1
  have e:ixN xs.length (j:Int) = some j:=by
    unfold ixN
    rw [if_pos (by omega),if_pos (by omega)]; simp
  unfold atI; rw [e]; exact h
def PlainIx (b:Expr):Prop:=∀ o i,subscripted b false o i = operate [o,i] (getItem o i)
def IxR (X:Cx) (r:R2):Prop :=
  ∀ (value slice:Expr) (pins:List (Addr × Obj)) (s:Shared) (σ:St) (H:Hp) (x y:V) (v u:Value) (Q:VK),Inv X pins σ H s → RelV x v → RelV y u → r x y H Q →
    subscripted slice false v u = operate [v,u] (getItem v u) → wpAny (model X.prog X.w) X.A (subscriptTail value slice v u) (EP X pins σ Q) X.xe s
def MtR (X:Cx) (id:String) (r:V → List V → Hp → VK → Prop):Prop :=
  ∀ (pins:List (Addr × Obj)) (s:Shared) (σ:St) (H:Hp) (x:V) (xs:List V) (v:Value) (us:List Value) (Q:VK),Inv X pins σ H s → RelV x v → Vals xs us → r x xs H Q →
    wpAny (model X.prog X.w) X.A (call (.builtin id) (v :: us)) (EP X pins σ Q) X.xe s
section
variable {X:Cx} {a b:Expr} {ta tb:TE} {pos:Pos}
theorem IxR.or {r r':R2} (h:IxR X r) (h':IxR X r'):IxR X (fun x y H Q => r x y H Q ∨ r' x y H Q):=by
  intro value slice pins s σ H x y v u Q I rx ry q hs
  rcases q with q | q
  · exact h value slice pins s σ H x y v u Q I rx ry q hs
  · exact h' value slice pins s σ H x y v u Q I rx ry q hs
theorem pe_ix {r:R2} (hr:IxR X r) (ha:PE X a ta) (hb:PE X b tb) (hs:PlainIx b):PE X (.Subscript a b pos) (tOp r ta tb):=by
  intro pins s σ H Q I h
  exact Subscript_ (binT ha hb I h fun v u s2 x y H2 I2 rx ry q => hr a b pins s2 σ H2 x y v u Q I2 rx ry q (hs _ _))
def rIxL (K:PySem.W.Frag):R2:=fun x y H Q => ∃ p xs i v,x = .ref p ∧ y = .int i ∧ SqL K H p xs ∧ atI xs i = some v ∧ Q v H
def rIxT (K:PySem.W.Frag):R2:=fun x y H Q => ∃ p xs i v,x = .ref p ∧ y = .int i ∧ SqT K H p xs ∧ atI xs i = some v ∧ Q v H
def rIxS:R2:=fun x y H Q => ∃ z i c,x = .str z ∧ y = .int i ∧ z.length ≤ sizeLine ∧ atI z.cps.toList i = some c ∧ Q (.str ⟨#[c]⟩) H
theorem ix_list:IxR X (rIxL X.K):=by
  intro value slice pins s σ H x y v u Q I rx ry h hs
  obtain ⟨p,xs,i,z,rfl,rfl,hq,he,q⟩:=h
  cases rx
  obtain ⟨t,rfl⟩:=ry
  obtain ⟨its,r,pl,hz⟩:=I.list hq
  obtain ⟨j,h1,h2,h3,h4,h5⟩:=atI_get he
  obtain ⟨w,ew,rw'⟩:=r.get h2
  have hl:=r.length
  have hn:=line63
  have fin:EP X pins σ Q w s:=⟨z,H,I,rw',q⟩
  by_cases h0:0 ≤ i
  · have hj:i.toNat = j:=by
      rw [seqIndex_of h0 h5] at h1
      exact Option.some.inj h1
    exact item_listR pl.isList h0 (by omega) (by rw [hj]; simpa using ew) fin hs
  · have hj:(i + (its.toArray.size:Int)).toNat = j:=by
      rw [seqIndex_neg (by omega) h4] at h1
      rw [List.size_toArray,← hl]
      exact Option.some.inj h1
    exact subscriptTail_builtinR (x:=w) pl.isList.typeIs slot_list_getitem.lookup
      (wpAny_getItem_list_neg (Q:=fun r s' => r = w ∧ EP X pins σ Q r s') pl.isList (by omega) (by rw [List.size_toArray] <;> omega) (by omega) (by rw [hj]; simpa using ew) ⟨rfl,fin⟩) hs
theorem ix_tup:IxR X (rIxT X.K):=by
  intro value slice pins s σ H x y v u Q I rx ry h hs
  obtain ⟨p,xs,i,z,rfl,rfl,hq,he,q⟩:=h
  cases rx
  obtain ⟨t,rfl⟩:=ry
  obtain ⟨its,r,pl,hz⟩:=I.tuple hq
  obtain ⟨j,h1,h2,h3,h4,h5⟩:=atI_get he
  obtain ⟨w,ew,rw'⟩:=r.get h2
  have hl:=r.length
  have hn:=line63
  have fin:EP X pins σ Q w s:=⟨z,H,I,rw',q⟩
  exact subscriptTail_builtinR (x:=w) pl.typeIs slot_tuple_getitem.lookup
    (getItem_tuple (j:=j) (Q:=fun r s' => r = w ∧ EP X pins σ Q r s') pl (by omega) (by omega) (by rw [List.size_toArray,← hl]; exact h1) (by simpa using ew) ⟨rfl,fin⟩) hs
theorem ix_str:IxR X rIxS:=by
  intro value slice pins s σ H x y v u Q I rx ry h hs
  obtain ⟨z,i,c,rfl,rfl,hz,he,q⟩:=h
  obtain ⟨t,rfl⟩:=rx
  obtain ⟨t',rfl⟩:=ry
  obtain ⟨j,h1,h2,h3,h4,h5⟩:=atI_get he
  have hl:z.cps.toList.length = z.length:=by simp [Str.length]
  rw [hl] at h1 h4 h5
  have hn:=line63
  exact tail_any (typeIs_str s z t) slot_str_getitem.lookup (getItem_str (c:=c) (by
    have e1:decide (i < -(2 ^ 63:Int)) = false:=decide_eq_false (by omega)
    have e2:decide (i ≥ 2 ^ 63) = false:=decide_eq_false (by omega)
    rw [e1,e2,Bool.or_false]) (by rw [h1]; simpa using h2) ⟨.str ⟨#[c]⟩,H,I.tok _,⟨_,rfl⟩,q⟩) hs
def rIx (K:PySem.W.Frag):R2:=fun x y H Q => rIxL K x y H Q ∨ rIxT K x y H Q ∨ rIxS x y H Q
theorem ix_seq:IxR X (rIx X.K):=ix_list.or (ix_tup.or ix_str)
theorem mapSeq_set (its:List Value) (n j:Nat) (u:Value):Obj.mapSeq (·.setIfInBounds j u) { cls:=.type "list",data:=.seq its.toArray n } = { cls:=.type "list",data:=.seq (its.set j u).toArray n }:=by
  simp [Obj.mapSeq]
theorem Inv.lst {pins:List (Addr × Obj)} {σ:St} {H:Hp} {s:Shared} {p:Addr} {xs:List V} (I:Inv X pins σ H s) (h:H p = some (.lst xs)) :
    ∃ (its:List Value) (n:Nat),Vals xs its ∧ s.heap.get? p = some { cls:=.type "list",data:=.seq its.toArray n } ∧ xs.length ≤ sizeLine:=by
  obtain ⟨z,its,n,r,e⟩:=I.hok p _ h
  exact ⟨its,n,r,e,z⟩
theorem Inv.lstUpd {pins:List (Addr × Obj)} {σ:St} {H:Hp} {s:Shared} {p:Addr} {xs ys:List V} {its its':List Value} {n n':Nat} {f:Obj → Obj} (I:Inv X pins σ H s) (h:H p = some (.lst xs))
    (ho:s.heap.get? p = some { cls:=.type "list",data:=.seq its.toArray n }) (hf:f { cls:=.type "list",data:=.seq its.toArray n } = { cls:=.type "list",data:=.seq its'.toArray n' }) (r:Vals ys its') (hz:ys.length ≤ sizeLine) (t:Nat) :
    Inv X pins σ (upd H p (.lst ys)) { s with heap:=s.heap.update p f,toks:=t }:=by
  have e:(s.heap.update p f).get? p = some { cls:=.type "list",data:=.seq its'.toArray n' }:=by
    rw [Heap.get?_update_self f ho (by rw [hf] <;> rfl),hf]
  refine I.write (x:=p) (e:=p) (by rw [h]; trivial) (.inl rfl) (fun b u hb q => (Heap.get?_update_other _ _ (Ne.symm hb)).trans q) ⟨_,e⟩ ?_
  exact ⟨hz,its',n',r,e⟩
def rSetL:V → V → V → Hp → (Hp → Prop) → Prop:=fun o i v H Q => ∃ p xs k j,o = .ref p ∧ i = .int k ∧ H p = some (.lst xs) ∧ ixN xs.length k = some j ∧ Q (upd H p (.lst (xs.set j v)))
theorem set_list:PSet X rSetL:=by
  intro pins s σ H o i v ov iv u Q I ro ri rv h
  obtain ⟨p,xs,k,j,rfl,rfl,hp,hj,q⟩:=h
  cases ro
  obtain ⟨t,rfl⟩:=ri
  obtain ⟨its,n,r,ho,hz⟩:=I.lst hp
  obtain ⟨h1,h2,h3,h4⟩:=ixN_seq hj
  have hl:=r.length
  have hn:=line63
  have I':Inv X pins σ (upd H p (.lst (xs.set j v))) { s with heap:=s.heap.update p (Obj.mapSeq (·.setIfInBounds j u)) } :=
    I.lstUpd hp ho (mapSeq_set its n j u) (r.set rv j) (by rw [List.length_set]; exact hz) s.toks
  by_cases h0:0 ≤ k
  · have hk:k.toNat = j:=by
      rw [seqIndex_of h0 h4] at h1
      exact Option.some.inj h1
    exact PySem.W.ki_setAt ho h0 (by omega) (by rw [List.size_toArray,← hl]; exact h4) (by rw [hk]; exact ⟨_,I',q⟩)
  · have hk:(k + (its.toArray.size:Int)).toNat = j:=by
      rw [seqIndex_neg (by omega) h3] at h1
      rw [List.size_toArray,← hl]
      exact Option.some.inj h1
    exact PySem.W.ki_setBack ho (by omega) (by rw [List.size_toArray,← hl]; exact h3) (by omega) (by rw [hk]; exact ⟨_,I',q⟩)
theorem slice_bounds (lo hi:Option Int) (n:Nat):(sliceBounds lo hi none n).1 = ((HT.sIx n 0 lo:Nat):Int) ∧ (sliceBounds lo hi none n).2.1 = ((HT.sIx n n hi:Nat):Int) ∧ (sliceBounds lo hi none n).2.2 = 1:=by
  refine ⟨?_,?_,rfl⟩
  · cases lo with
    | none => simp [sliceBounds,HT.sIx]
    | some i =>
      simp only [sliceBounds,HT.sIx,Option.getD_none,show (1:Int) > 0 by decide,if_true]
      by_cases h:i < 0
      · simp only [h,if_true] <;> omega
      · simp only [h,if_false] <;> omega
  · cases hi with
    | none => simp [sliceBounds,HT.sIx]
    | some i =>
      simp only [sliceBounds,HT.sIx,Option.getD_none,show (1:Int) > 0 by decide,if_true]
      by_cases h:i < 0
      · simp only [h,if_true] <;> omega
      · simp only [h,if_false] <;> omega
theorem slicePick_cut (its:List Value) (lo hi:Option Int):slicePick its.toArray lo hi none = ((its.drop (HT.sIx its.length 0 lo)).take (HT.sIx its.length its.length hi - HT.sIx its.length 0 lo)).toArray:=by
  obtain ⟨h1,h2,h3⟩:=slice_bounds lo hi its.toArray.size
  unfold slicePick
  rw [h1,h2,h3]
  simp only [sliceRange_one,pick_run,List.size_toArray] <;> rfl
def rSlL (K:PySem.W.Frag):V → Option Int → Option Int → Hp → VK → Prop:=fun x lo hi H Q => ∃ a xs,x = .ref a ∧ SqL K H a xs ∧ ∀ p,H p = none → Q (.ref p) (upd H p (.lst (cutV xs lo hi)))
theorem sl_list:SlR X (rSlL X.K):=by
  intro pins s σ H x v vl vu lo hi sl Q I rx hs pl pu h
  obtain ⟨a,xs,rfl,hx,q⟩:=h
  cases rx
  obtain ⟨its,r,ht,hz⟩:=I.list hx
  have hlen:=r.length
  refine ⟨"list",_,slot_list_getitem.lookup,ht.isList.typeIs,?_⟩
  refine wpAny_getItem_list_slice ht.isList hs pl pu .none (by simp) ?_ (by rw [List.size_toArray] <;> omega)
  rw [slicePick_cut,← hlen]
  refine ⟨.ref s.heap.objs.size,_,I.laid (t':=s.toks) (o:=.lst (cutV xs lo hi)) (fun b ob q => Heap.get?_push_of_some _ q) (Nat.le_refl _) ?_,rfl,q _ (I.hok.fresh (Nat.le_refl _))⟩
  exact ⟨Nat.le_trans (cutV_length xs lo hi) hz,_,0,(r.drop (HT.sIx xs.length 0 lo)).take (HT.sIx xs.length xs.length hi - HT.sIx xs.length 0 lo),Heap.get?_push_size _ rfl⟩
def flatV:V → Bool
  | .non => true
  | .bl _ => true
  | .int _ => true
  | .str _ => true
  | _ => false
def eqV:V → V → Bool
  | .non,.non => true
  | .bl a,.bl b => a == b
  | .bl a,.int b => (if a then 1 else 0) == b
  | .int a,.bl b => a == (if b then 1 else 0)
  | .int a,.int b => a == b
  | .str a,.str b => a == b
  | _,_ => false
theorem eqAt_V {A:Around} {s:Shared} {y x:V} {u v:Value} (ry:RelV y u) (rx:RelV x v) (fy:flatV y = true) (fx:flatV x = true):SeqAt.EqAt A s u v (eqV y x):=by
  cases y with
  | non =>
    cases ry
    cases x with
    | non => cases rx; exact SeqAt.EqAt.same _
    | bl b => cases rx; exact SeqAt.EqAt.none_bool b
    | int b => obtain ⟨t,rfl⟩:=rx; exact SeqAt.EqAt.none_int b t
    | str b => obtain ⟨t,rfl⟩:=rx; exact SeqAt.EqAt.none_str b t
    | _ => exact absurd (show false = true from fx) Bool.false_ne_true
  | bl a =>
    cases ry
    cases x with
    | non => cases rx; exact SeqAt.EqAt.bool_none a
    | bl b => cases rx; exact SeqAt.EqAt.bool_bool a b
    | int b => obtain ⟨t,rfl⟩:=rx; exact SeqAt.EqAt.bool_int a b t
    | str b => obtain ⟨t,rfl⟩:=rx; exact SeqAt.EqAt.bool_str a b t
    | _ => exact absurd (show false = true from fx) Bool.false_ne_true
  | int a =>
    obtain ⟨t',rfl⟩:=ry
    cases x with
    | non => cases rx; exact SeqAt.EqAt.int_none a t'
    | bl b => cases rx; exact SeqAt.EqAt.int_bool a t' b
    | int b => obtain ⟨t,rfl⟩:=rx; exact SeqAt.EqAt.int_int a t' b t
    | str b => obtain ⟨t,rfl⟩:=rx; exact SeqAt.EqAt.int_str a t' b t
    | _ => exact absurd (show false = true from fx) Bool.false_ne_true
  | str a =>
    obtain ⟨t',rfl⟩:=ry
    cases x with
    | non => cases rx; exact SeqAt.EqAt.str_none a t'
    | bl b => cases rx; exact SeqAt.EqAt.str_bool a t' b
    | int b => obtain ⟨t,rfl⟩:=rx; exact SeqAt.EqAt.str_int a t' b t
    | str b => obtain ⟨t,rfl⟩:=rx; exact SeqAt.EqAt.str_str a t' b t
    | _ => exact absurd (show false = true from fx) Bool.false_ne_true
  | _ => exact absurd (show false = true from fy) Bool.false_ne_true
def eqU (x:V) (u:Value):Bool:=match u with
  | .none => eqV .non x
  | .bool b => eqV (.bl b) x
  | .int i _ => eqV (.int i) x
  | .str z _ => eqV (.str z) x
  | _ => false
theorem eqU_of {x y:V} {u:Value} (r:RelV y u) (f:flatV y = true):eqU x u = eqV y x:=by
  cases y with
  | non => cases r; rfl
  | bl b => cases r; rfl
  | int i => obtain ⟨t,rfl⟩:=r; rfl
  | str z => obtain ⟨t,rfl⟩:=r; rfl
  | _ => exact absurd (show false = true from f) Bool.false_ne_true
theorem any_eqU {x:V}:∀ {xs:List V} {us:List Value},Vals xs us → xs.all flatV = true → us.any (eqU x) = xs.any fun y => eqV y x
  | _,_,.nil,_ => rfl
  | y :: xs,u :: us,.cons r t,f => by
    rw [List.all_cons,Bool.and_eq_true] at f
    rw [List.any_cons,List.any_cons,eqU_of r f.1,any_eqU t f.2]
theorem mem_eqAt {A:Around} {s:Shared} {x:V} {v:Value} (rx:RelV x v) (fx:flatV x = true):∀ {xs:List V} {us:List Value},Vals xs us → xs.all flatV = true → ∀ u ∈ us,SeqAt.EqAt A s u v (eqU x u)
  | _,_,.nil,_ => fun u hu => by cases hu
  | y :: xs,u :: us,.cons r t,f => fun u' hu => by
    rw [List.all_cons,Bool.and_eq_true] at f
    rcases List.mem_cons.mp hu with rfl | hu
    · rw [eqU_of r f.1]; exact eqAt_V r rx f.1 fx
    · exact mem_eqAt rx fx t f.2 u' hu
def inV (x:V) (xs:List V):Bool:=xs.any fun y => eqV y x
def rIn (K:PySem.W.Frag) (neg:Bool):R2:=fun x y H Q => ∃ p xs,y = .ref p ∧ (SqL K H p xs ∨ SqT K H p xs) ∧ flatV x = true ∧ xs.all flatV = true ∧ Q (.bl (if neg then !inV x xs else inV x xs)) H
theorem op_in_seq:OpR X (compareOp .In) (rIn X.K false):=by
  intro pins s σ H x y v u Q I rx ry h
  obtain ⟨p,xs,rfl,hq,fx,fs,q⟩:=h
  cases ry
  rcases hq with hq | hq
  · obtain ⟨its,r,pl,hz⟩:=I.list hq
    refine SeqAt.in_listAt (eqU x) pl.isList (fun w hw => mem_eqAt rx fx r fs w (by simpa using hw)) ⟨.bl _,H,I,rfl,?_⟩
    rw [show its.toArray.any (eqU x) = its.any (eqU x) by simp,any_eqU r fs]
    exact q
  · obtain ⟨its,r,pl,hz⟩:=I.tuple hq
    refine SeqAt.in_tupleAt (eqU x) pl (fun w hw => mem_eqAt rx fx r fs w (by simpa using hw)) ⟨.bl _,H,I,rfl,?_⟩
    rw [show its.toArray.any (eqU x) = its.any (eqU x) by simp,any_eqU r fs]
    exact q
theorem op_notIn_seq:OpR X (compareOp .NotIn) (rIn X.K true):=by
  intro pins s σ H x y v u Q I rx ry h
  obtain ⟨p,xs,rfl,hq,fx,fs,q⟩:=h
  cases ry
  rcases hq with hq | hq
  · obtain ⟨its,r,pl,hz⟩:=I.list hq
    refine SeqAt.notIn_listAt (eqU x) pl.isList (fun w hw => mem_eqAt rx fx r fs w (by simpa using hw)) ⟨.bl _,H,I,rfl,?_⟩
    rw [show its.toArray.any (eqU x) = its.any (eqU x) by simp,any_eqU r fs]
    exact q
  · obtain ⟨its,r,pl,hz⟩:=I.tuple hq
    refine SeqAt.notIn_tupleAt (eqU x) pl (fun w hw => mem_eqAt rx fx r fs w (by simpa using hw)) ⟨.bl _,H,I,rfl,?_⟩
    rw [show its.toArray.any (eqU x) = its.any (eqU x) by simp,any_eqU r fs]
    exact q
theorem op_notIn_str:OpR X (compareOp .NotIn) (fun x y H Q => ∃ i j,x = .str i ∧ y = .str j ∧ Q (.bl (!(!(Builtin.Str.occurrences j i 0 j.length 1).isEmpty))) H):=by
  intro pins s σ H x y v u Q I rx ry h
  obtain ⟨i,j,rfl,rfl,q⟩:=h
  obtain ⟨t,rfl⟩:=rx
  obtain ⟨t',rfl⟩:=ry
  exact notIn_str ⟨.bl _,H,I,rfl,q⟩
theorem call_len_seq:CallR X (.builtin "len") (fun xs H Q => ∃ p ys,xs = [.ref p] ∧ (SqL X.K H p ys ∨ SqT X.K H p ys) ∧ Q (.int ys.length) H):=by
  intro pins s σ H xs us Q I r h
  obtain ⟨p,ys,rfl,hq,q⟩:=h
  obtain ⟨u,rfl,rx⟩:=vals1 r
  cases rx
  have hn:=line63
  rcases hq with hq | hq
  · obtain ⟨its,r',pl,hz⟩:=I.list hq
    have hlen:=r'.length
    exact Calls.call_len_list pl.isList (by simp only [List.size_toArray] <;> omega) ⟨.int ys.length,H,I.tok _,⟨s.toks + 1,by rw [List.size_toArray,hlen]⟩,q⟩
  · obtain ⟨its,r',pl,hz⟩:=I.tuple hq
    have hlen:=r'.length
    exact len_tuple pl (by simp only [List.size_toArray] <;> omega) ⟨.int ys.length,H,I.tok _,⟨s.toks + 1,by rw [List.size_toArray,hlen]⟩,q⟩
theorem call_len_str:CallR X (.builtin "len") (fun xs H Q => ∃ z,xs = [.str z] ∧ z.length ≤ sizeLine ∧ Q (.int z.length) H):=by
  intro pins s σ H xs us Q I r h
  obtain ⟨z,rfl,hz,q⟩:=h
  obtain ⟨u,rfl,t,rfl⟩:=vals1 r
  have hn:=line63
  exact len_str (by omega) ⟨.int z.length,H,I.tok _,⟨_,rfl⟩,q⟩
theorem CallR.or {f:Value} {r r':List V → Hp → VK → Prop} (h:CallR X f r) (h':CallR X f r'):CallR X f (fun xs H Q => r xs H Q ∨ r' xs H Q):=by
  intro pins s σ H xs us Q I rs q
  rcases q with q | q
  · exact h pins s σ H xs us Q I rs q
  · exact h' pins s σ H xs us Q I rs q
theorem call_tuple_of:CallR X (.type "tuple") (fun xs H Q => ∃ p ys,xs = [.ref p] ∧ ((SqL X.K H p ys ∧ ∀ l,H l = none → Q (.ref l) (upd H l (.tup ys))) ∨ (SqT X.K H p ys ∧ Q (.ref p) H))):=by
  intro pins s σ H xs us Q I r h
  obtain ⟨p,ys,rfl,h⟩:=h
  obtain ⟨u,rfl,rx⟩:=vals1 r
  cases rx
  rcases h with ⟨hq,q⟩ | ⟨hq,q⟩
  · obtain ⟨its,r',pl,hz⟩:=I.list hq
    have hlen:=r'.length
    refine call_tuple_list pl.isList (fun h' kp => ?_) (by simp only [List.size_toArray] <;> omega)
    have I1:Inv X pins σ H { s with heap:=h' }:=I.kept (t':=s.toks) kp
    have I2:Inv X pins σ (upd H h'.objs.size (.tup ys)) { s with heap:=h'.push { cls:=.type "tuple",data:=.seq its.toArray } } :=
      I1.laid (t':=s.toks) (fun b o e => Heap.get?_push_of_some _ e) (Nat.le_refl _) (show ObjOk X.prog X.w _ _ _ (.tup ys) from ⟨hz,its,r',IsTup.new _ _,NoDi.new _ _⟩)
    exact ⟨.ref h'.objs.size,_,I2,rfl,q _ (I1.hok.fresh (Nat.le_refl _))⟩
  · obtain ⟨its,r',pl,hz⟩:=I.tuple hq
    exact call_tuple_same pl ⟨.ref p,H,I,rfl,q⟩
def tyV (K:PySem.W.Frag) (T:String) (x:V) (H:Hp):Prop:=match x with
  | .str _ => T = "str"
  | .int _ => T = "int"
  | .ref p => (T = "list" ∧ ∃ xs,SqL K H p xs) ∨ (T = "tuple" ∧ ((∃ o,K.lookup p = some o ∧ o.cls = .type "tuple" ∧ o.dict = none) ∨ ∃ xs,H p = some (.tup xs))) ∨
      (T = "dict" ∧ ((∃ kvs,H p = some (.dK kvs)) ∨ ∃ kvs,H p = some (.dT kvs))) ∨ (T = "set" ∧ ∃ S n,H p = some (.set S n))
  | _ => False
theorem tyV_is {pins:List (Addr × Obj)} {σ:St} {H:Hp} {s:Shared} {T:String} {x:V} {v:Value} (I:Inv X pins σ H s) (r:RelV x v) (ty:tyV X.K T x H) :
    s.TypeIs v T ∧ ∀ a,v = .ref a → ∃ ob,s.heap.get? a = some ob ∧ ob.dict = none:=by
  cases x with
  | str z =>
    obtain ⟨t,rfl⟩:=r
    cases (show T = "str" from ty)
    exact ⟨typeIs_str s z t,fun _ e => nomatch e⟩
  | int i =>
    obtain ⟨t,rfl⟩:=r
    cases (show T = "int" from ty)
    exact ⟨typeIs_int s i t,fun _ e => nomatch e⟩
  | ref p =>
    cases r
    rcases ty with ⟨rfl,xs,hq⟩ | ⟨rfl,⟨o,hk,hc,hd⟩ | ⟨xs,hk⟩⟩ | ⟨rfl,hk⟩ | ⟨rfl,S,n,hk⟩
    · obtain ⟨its,_,pl,_⟩:=I.list hq
      refine ⟨pl.isList.typeIs,fun a e => ?_⟩
      cases e
      obtain ⟨o,n,e,c,hd,_⟩:=pl
      exact ⟨o,e,hd⟩
    · refine ⟨⟨o,I.kIn p o hk,hc⟩,fun a e => ?_⟩
      cases e
      exact ⟨o,I.kIn _ o hk,hd⟩
    · obtain ⟨_,_,_,⟨o,e1,e2,_⟩,nd⟩:=I.hok p _ hk
      refine ⟨⟨o,e1,e2⟩,fun a e => ?_⟩
      cases e
      exact ⟨o,e1,nd o e1⟩
    · have z:∃ o,s.heap.get? p = some o ∧ o.ExactDict:=by
        rcases hk with ⟨kvs,hk⟩ | ⟨kvs,hk⟩
        · obtain ⟨_,_,_,_,o,_,_,e,ex,_⟩:=I.hok p _ hk
          exact ⟨o,e,ex⟩
        · obtain ⟨_,_,_,_,o,_,_,e,ex,_⟩:=I.hok p _ hk
          exact ⟨o,e,ex⟩
      obtain ⟨o,e,ex⟩:=z
      refine ⟨⟨o,e,ex.1⟩,fun a e2 => ?_⟩
      cases e2
      exact ⟨o,e,ex.2.1⟩
    · obtain ⟨o,_,_,_,e,ex,_⟩:=I.hok p _ hk
      refine ⟨⟨o,e,ex.1⟩,fun a e2 => ?_⟩
      cases e2
      exact ⟨o,e,ex.2.1⟩
  | _ => exact False.elim ty
def tBM (K:PySem.W.Frag) (T:String) (r:V → List V → Hp → VK → Prop) (to:TE) (t:TA):TE:=fun σ H Q => to σ H fun x H1 => tyV K T x H1 ∧ t σ H1 fun xs H2 => r x xs H2 Q
variable {o e:Expr} {es:List Expr} {to:TE} {t:TA} {name:Str} {apos cpos:Pos} {T id:String} {r:V → List V → Hp → VK → Prop}
theorem pe_bm (pa:PlainAttrs T) (slot:Slot T name id) (hty:typeOf (.builtin id) = pure (.type "method_descriptor")) (hm:MtR X id r) (ho:PE X o to) (ha:PA X (e :: es) t)
    (hbase:attributeBase o name X.env (eval o X.env) = eval o X.env:=by rfl)
    (hfew:((backTo cpos (starEach (e :: es) X.env)).all (fun x => !x.1) && (backToKw cpos (keywordEach [] X.env)).all (fun x => x.1.isSome)
      && decide ((e :: es).length + ([]:List Keyword).length + (if ([]:List Keyword).isEmpty then 0 else 1) < 30)) = true:=by rfl)
    (hline:(apos.endLine == cpos.line) = true:=by rfl) (hs:starEach (e :: es) X.env = (false,eval e X.env) :: starEach es X.env:=by rfl) (hplain:(backTo cpos (starEach es X.env)).any (·.1) = false:=by rfl) :
    PE X (.Call (.Attribute o name apos) (e :: es) [] cpos) (tBM X.K T r to t):=by
  intro pins s σ H Q I h
  refine wpAny_Call_method_late hbase hfew hline rfl (thn (ho pins s σ H _ I h) fun v s1 ⟨x,H1,I1,r1,ty,q1⟩ => ?_)
  obtain ⟨h1,h2⟩:=tyV_is I1 r1 ty
  refine ⟨T,id,pa,slot,hty,h1,h2,?_⟩
  have hA:=ha cpos pins s1 σ H1 _ I1 q1
  rw [hs] at hA ⊢
  refine Calls.callWith_builtin (by show (false || (backTo cpos (starEach es X.env)).any (·.1)) = false; rw [hplain] <;> rfl) (Calls.evalArgs_plain ?_)
  exact thn hA fun us s2 ⟨vs,H2,I2,r2,q2⟩ => hm pins s2 σ H2 x vs v us Q I2 r1 r2 q2
/- xs.append(e),list.index on a module's tuple .. are MtR facts of 06m -/
end
end L2
namespace L2
open PySem PySem.Spec PyProof.Rows
def MtM (X:Cx) (id:String) (r:V → List V → Hp → VK → Prop):Prop :=
  ∀ (pins:List (Addr × Obj)) (s:Shared) (σ:St) (H:Hp) (x:V) (xs:List V) (v:Value) (us:List Value) (Q:VK),Inv X pins σ H s → RelV x v → Vals xs us → r x xs H Q →
    wpAny (model X.prog X.w) X.A (call (.builtin id) (v :: us)) (EP X pins σ Q) X.xe s
theorem Vals.one:∀ {x:V} {us:List Value},Vals [x] us → ∃ u,us = [u] ∧ RelV x u
  | _,_,.cons r .nil => ⟨_,rfl,r⟩
theorem Vals.rep {xs:List V} {us:List Value} (h:Vals xs us):∀ k:Nat,Vals (List.replicate k xs).flatten (List.replicate k us).flatten
  | 0 => .nil
  | k + 1 => by
    rw [List.replicate_succ,List.replicate_succ,List.flatten_cons,List.flatten_cons]
    exact Vals.append h (Vals.rep h k)
theorem foldl_rep (its:List Value):∀ (k:Nat) (acc:List Value),
    List.foldl (fun x1 x2 => x1 ++ x2) acc.toArray (List.replicate k its.toArray) = (acc ++ (List.replicate k its).flatten).toArray
  | 0,acc => by simp
  | k + 1,acc => by
    have e:acc.toArray ++ its.toArray = (acc ++ its).toArray:=by simp
    have e2:(acc ++ its) ++ (List.replicate k its).flatten = acc ++ (List.replicate (k + 1) its).flatten:=by
      rw [List.replicate_succ,List.flatten_cons,List.append_assoc]
    rw [← e2,← foldl_rep its k (acc ++ its),← e,List.replicate_succ,List.foldl_cons]
section
variable {X:Cx} {pins:List (Addr × Obj)} {σ:St} {H:Hp} {s:Shared} {l b:Addr} {xs ys zs:List V}
theorem Inv.lset {its its':List Value} {n:Nat} {f:Array Value → Array Value} {t':Nat} (I:Inv X pins σ H s) (hH:H l = some (.lst xs))
    (e:s.heap.get? l = some { cls:=.type "list",data:=.seq its.toArray n }) (hf:f its.toArray = its'.toArray) (hv:Vals ys its') (hz:ys.length ≤ sizeLine) :
    Inv X pins σ (upd H l (.lst ys)) { s with heap:=s.heap.update l (Obj.mapSeq f),toks:=t' }:=by
  have q:=PySem.IsL.update e f
  rw [hf] at q
  refine I.write (x:=l) (e:=l) (by rw [hH]; exact trivial) (.inl rfl) (fun b' u hb hu => (Heap.get?_update_other s.heap (Obj.mapSeq f) (Ne.symm hb)).trans hu) ⟨_,q⟩ ?_
  exact ⟨hz,its',_,hv,q⟩
theorem Inv.lnew {its:List Value} {t':Nat} (I:Inv X pins σ H s) (hv:Vals ys its) (hz:ys.length ≤ sizeLine) :
    Inv X pins σ (upd H s.heap.objs.size (.lst ys)) { s with heap:=s.heap.push { cls:=.type "list",data:=.seq its.toArray },toks:=t' } :=
  I.laid (fun _ _ q => Heap.get?_push_of_some _ q) (Nat.le_refl _) ⟨hz,its,0,hv,Heap.get?_push_size _ rfl⟩
theorem Inv.fresh (I:Inv X pins σ H s):H s.heap.objs.size = none:=I.hok.fresh (Nat.le_refl _)
theorem Inv.lstM (I:Inv X pins σ H s) (hH:H l = some (.lst xs)):xs.length ≤ sizeLine ∧ ∃ (its:List Value) (n:Nat),Vals xs its ∧ xs.length = its.length ∧ s.heap.get? l = some { cls:=.type "list",data:=.seq its.toArray n }:=by
  obtain ⟨z,its,n,r,e⟩:=I.hok l _ hH
  exact ⟨z,its,n,r,r.length,e⟩
theorem notLongL {n:Nat} (h:n ≤ sizeLine):Builtin.List.listTooLong n = false:=by
  unfold Builtin.List.listTooLong
  exact decide_eq_false (by omega)
end
section
variable {X:Cx}
def rAppend:V → List V → Hp → VK → Prop:=fun x vs H Q => ∃ l xs y,x = .ref l ∧ vs = [y] ∧ H l = some (.lst xs) ∧ xs.length < sizeLine ∧ Q .non (upd H l (.lst (xs ++ [y])))
theorem mt_append:MtM X "list.append" rAppend:=by
  intro pins s σ H x vs v us Q I rx rv h
  obtain ⟨l,xs,y,rfl,rfl,hH,hz,q⟩:=h
  cases rx
  obtain ⟨u,rfl,ru⟩:=rv.one
  obtain ⟨z,its,n,r,hl,e⟩:=I.lstM hH
  refine call_meets F.slot_list_append ⟨_,e,rfl⟩ F.entry_list_append (F.args_list_append_2 _ _) (PySem.list_append l its.toArray n u (by rw [List.size_toArray]; omega)) ⟨e,?_⟩
  refine ⟨.non,_,I.lset (its':=its ++ [u]) hH e (by simp) (r.append (.cons ru .nil)) ?_,rfl,q⟩
  rw [List.length_append,List.length_singleton]
  omega
def rExtend:V → List V → Hp → VK → Prop:=fun x vs H Q => ∃ l b xs zs,x = .ref l ∧ vs = [.ref b] ∧ H l = some (.lst xs) ∧ H b = some (.lst zs) ∧ xs.length + zs.length ≤ sizeLine ∧ Q .non (upd H l (.lst (xs ++ zs)))
theorem mt_extend:MtM X "list.extend" rExtend:=by
  intro pins s σ H x vs v us Q I rx rv h
  obtain ⟨l,b,xs,zs,rfl,rfl,hH,hB,hz,q⟩:=h
  cases rx
  obtain ⟨u,rfl,ru⟩:=rv.one
  cases ru
  obtain ⟨z,its,n,r,hl,e⟩:=I.lstM hH
  obtain ⟨z2,its2,n2,r2,hl2,e2⟩:=I.lstM hB
  have hsz:its.toArray.size + its2.toArray.size ≤ sizeLine:=by rw [List.size_toArray,List.size_toArray]; omega
  have hlong:¬ (!its.toArray.isEmpty && Builtin.List.listTooLong (its.toArray.size + its2.toArray.size)) = true:=by
    rw [notLongL hsz,Bool.and_false]
    exact Bool.false_ne_true
  refine call_meets F.slot_list_extend ⟨_,e,rfl⟩ F.entry_list_extend (F.args_list_extend_2 _ _)
    (AutoSeq1.list_extend_list_list_0 l its.toArray n b its2.toArray n2 hlong (by rw [List.size_toArray]; omega) (by omega)) ⟨e,e2,?_⟩
  refine ⟨.non,_,I.lset (its':=its ++ its2) hH e (by simp) (r.append r2) ?_,rfl,q⟩
  rw [List.length_append]
  omega
def rRep:R2:=fun x y H Q => ∃ l k xs,x = .ref l ∧ y = .int k ∧ H l = some (.lst xs) ∧ -(2 ^ 63) ≤ k ∧ k < 2 ^ 63 ∧ xs.length * k.toNat ≤ sizeLine ∧
  ∀ p,H p = none → Q (.ref p) (upd H p (.lst (List.replicate k.toNat xs).flatten))
theorem len_rep {α:Type} (xs:List α) (k:Nat):(List.replicate k xs).flatten.length = k * xs.length:=by
  induction k with
  | zero => simp
  | succ k ih => rw [List.replicate_succ,List.flatten_cons,List.length_append,ih,Nat.succ_mul,Nat.add_comm]
theorem op_rep:OpR X (binaryOp .Mult) rRep:=by
  intro pins s σ H x y v u Q I rx ry h
  obtain ⟨l,k,xs,rfl,rfl,hH,h1,h2,hz,q⟩:=h
  cases rx
  obtain ⟨t,rfl⟩:=ry
  obtain ⟨z,its,n,r,hl,e⟩:=I.lstM hH
  have hlen:its.toArray.size * k.toNat ≤ sizeLine:=by rw [List.size_toArray,← hl]; exact hz
  have hcap:¬ its.toArray.size * k.toNat > (2 ^ 63 - 1) / 8:=by
    have:(sizeLine:Nat) ≤ (2 ^ 63 - 1) / 8:=by decide
    omega
  have hfit:¬ (!Builtin.List.listFitsIndex k) = true:=by
    rw [fitsIndex_both h1 h2]
    exact Bool.false_ne_true
  have hlong:¬ Builtin.List.listTooLong (its.toArray.size * k.toNat) = true:=by
    rw [notLongL hlen]
    exact Bool.false_ne_true
  have hnew:List.foldl (fun x1 x2 => x1 ++ x2) #[] (List.replicate (if its.toArray.isEmpty = true then 0 else k.toNat) its.toArray) = (List.replicate k.toNat its).flatten.toArray:=by
    have f0:∀ m:Nat,List.foldl (fun x1 x2 => x1 ++ x2) #[] (List.replicate m its.toArray) = (List.replicate m its).flatten.toArray:=fun m => by
      have:=foldl_rep its m []
      rw [List.nil_append] at this
      exact this
    rw [f0]
    cases its with
    | nil => simp
    | cons a r' => rw [if_neg (by simp)]
  refine wpAny_binaryOp_repeat_ref (T:="list") (U:="int") (by decide) ⟨_,e,rfl⟩ (fun s' => typeIs_int s' k t) noFill_list_mul F.fills_int_mul F.slot_int_rmul repeat_list F.slot_int_index.lookup
    (call_meets F.slot_int_rmul (typeIs_int s k t) F.entry_int_rmul (F.args_int_rmul_2 _ _) (int___rmul___int_list k t l its.toArray n)
      ⟨e,rfl,⟨_,e,rfl⟩,call_meets F.slot_list_mul ⟨_,e,rfl⟩ F.entry_list_mul (F.args_list_mul_2 _ _) (AutoListH.list___mul___list_int_3 l its.toArray n k t hfit hcap hlong) ⟨e,?_⟩⟩)
  rw [hnew]
  exact ⟨.ref _,_,I.lnew (t':=s.toks) (r.rep k.toNat) (by rw [len_rep,Nat.mul_comm]; exact hz),rfl,q _ I.fresh⟩
end
section
variable {prog:Program} {w:World} {A:Around} {E:Value → Shared → Prop} {s:Shared}
set_option maxRecDepth 100000 in
end
section
variable {X:Cx}
end
end L2
namespace Att
open PySem PySem.W PySem.Calls PyProof.Rows
theorem ints_of_wellAll {P:Params} {h:Heap}:∀ (ns:List Int) (vs:List Value),WellAll P h vs (ns.map WData.int) → IntsAre vs ns:=by
  intro ns
  induction ns with
  | nil =>
    intro vs w
    rw [List.map_nil] at w
    cases w
    exact .nil
  | cons n ns ih =>
    intro vs w
    rw [List.map_cons] at w
    cases w with
    | cons a b =>
      cases a
      exact .cons _ _ (ih _ b)
theorem script_of {l:OpenLaw} {n:Nat} (hn:l.most = some n) {P:Params} {h:Heap} {args:List WData} {vals:List Value}
    (hpre:l.row.toRowW.claim.pre args = true) (hwl:WellAll P h vals args) :
    ∃ a vs ns,vals = [Value.ref a] ∧ args = [WData.list (ns.map WData.int)] ∧ h.get? a = some { cls:=.type "list",data:=.seq vs.toArray } ∧ IntsAre vs ns ∧ ns.length ≤ n:=by
  have hsh:WShape.hasAll [] args [.list .int] = true:=(pre_splitW hpre).1
  have hc:l.pre.holds [] { args:=args } = true:=(pre_splitW hpre).2
  obtain ⟨d,r,rfl,h1,h2⟩:=hasAllW_cons hsh
  obtain rfl:=hasAllW_nil h2
  obtain ⟨xs,rfl,h3⟩:=hasW_list h1
  obtain ⟨ns,rfl⟩:=items_int h3
  have hlen:ns.length ≤ n:=by
    unfold OpenLaw.pre at hc
    have h4:(WTm.not (.lt (.lit (.int (n:Int))) (.len (.arg 0)))).holds [] { args:=[.list (ns.map .int)] } = true:=by
      have h4:=(holds_andW hc).1
      rw [hn] at h4
      exact h4
    have h5:=condW_of h4 (w_not (w_lt w_lit (w_len_list (w_arg rfl))))
    rw [List.length_map] at h5
    refine Nat.le_of_not_lt fun q => ?_
    have q':(n:Int) < ((ns.length:Nat):Int):=by omega
    first
      | (rw [decide_eq_true q'] at h5; exact absurd h5 (by decide))
      | (simp at h5; omega)
  cases hwl with
  | cons w1 w2 =>
    cases w2
    cases w1 with
    | list ho hall => exact ⟨_,_,ns,rfl,rfl,ho,ints_of_wellAll ns _ hall,hlen⟩
theorem post_true (l:OpenLaw) (args:List WData):l.row.toRowW.claim.post args (.bool true) args = true :=
  postW_of (r:=l.row.toRowW) (X:=(true == true))
    (show WShape.has [] (.bool true) .bool = true by first | rfl | decide | simp [WShape.has,WShape.arms,WShape.armsAll])
    (show (WTm.eq .res (.lit (.bool true))).value [] { args:=args,res:=some (.bool true),after:=args } = some (.bool (true == true)) from w_eq_bool (w_res rfl) w_lit) rfl
theorem attach_call {l:OpenLaw} {n:Nat} {q:Program} {loose:List Str} {XP:(Str → Option Value) → Heap → Prop} {YP:World → Heap → Prop} {d:DefRec}
    (hn:l.most = some n) (hdf:d.params.defaults = [])
    (call:∀ (w:World) (s₀ s₁:Shared) (mg mb:Str → Option Value) (fa:Addr) (o:Obj) (pm cd doc:Value) (a:Addr) (vs:List Value) (ns:List Int),
      Ground q loose [] XP w s₀ mg mb s₁.heap → YP w s₁.heap →
      s₁.heap.get? fa = some o → o.data = .func (docDef d.name d.params d.body d.scope pm cd doc) → s₁.heap.CodeRec cd d.name → mg d.name = some (.ref fa) →
      s₁.heap.get? a = some { cls:=.type "list",data:=.seq vs.toArray } → IntsAre vs ns → ns.length ≤ n → s₁.gens = #[] →
      codeAny (model l.prog w) callerA (.call (.ref fa) ⟨[.ref a],[]⟩) (fun r s' => r = .ok (.ret (.bool true)) ∧ OldK s₁.heap s'.heap ∧ s'.os = s₁.os ∧ AllBare s'.gens) s₁) :
    WalkO q loose XP YP l.row.toRowW d [] (fun f vs => PySem.call f vs):=by
  intro w s₀ s₁ mg mb G Y fa o pm cd doc dV kV ho hd hcd hD hmg hg args vals as hpre hlay hrd hwl hlo
  obtain rfl:dV = .none:=Dflts.none hD hdf
  obtain rfl:kV = .none:=Dflts.noKw hD
  obtain ⟨a,vs,ns,rfl,rfl,hobj,hints,hlen⟩:=script_of hn hpre hwl
  refine enter_call (codeAny_mono (call w s₀ s₁ mg mb fa o pm cd doc a vs ns G Y ho (fd_plain hd) hcd hmg hobj hints hlen hg) fun r s' hq => ?_)
  obtain ⟨rfl,h2,h3,h4⟩:=hq
  exact ⟨.inl ⟨.bool true,.bool true,[],rfl,fun _ => rfl,.bool true,post_true l _,fun _ => ⟨List.Pairwise.nil,fun _ hm => (nomatch hm)⟩⟩,h2,h3,h4⟩
section
variable {prog:Program} {w:World} {A:Around} {E:Value → Shared → Prop} {s:Shared} {K:Frag}
end
end Att
namespace L2
open PySem PySem.Spec PyProof.Rows
theorem vals_ints:∀ {vs:List Value} {ns:List Int},IntsAre vs ns → Vals (ns.map V.int) vs
  | _,_,.nil => .nil
  | _,_,.cons n t h => .cons ⟨t,rfl⟩ (vals_ints h)
def Only (H:Hp):Prop:=∀ b,H b = none ∨ ∃ o xs,H b = some (.frz o (.lst xs))
end L2
namespace L2
open PySem PySem.Spec PyProof.Rows
abbrev KOf {K:PySem.W.Frag} {h:Heap} (_:K.In h):PySem.W.Frag:=K
end L2
/- THE LAST THEOREM (shape; LID,My.* are yours):
   My.Adr: a structure of the addresses that your layer names (classes,functions); My.Txt K t: a structure (Prop) of the equations over K;
   My.txt_mk:{K} {implicit addresses ..} (e1:nsIn K mainGlobals "law" = some (some (.ref f))) (e2:K.lookup f = some ⟨oc,od,.func (fnOf "law" "law" params body scope dV kV doc pm an cdv ct),sl⟩) (e3:codeIn K cdv "law" = true) ..:∃ t,My.Txt K t
set_option maxRecDepth 100000 in
set_option maxHeartbeats 0 in
theorem PySem.Challenge.cw_LID_holds:PySem.Challenge.rw_LID.Holds:=by
  w_on; o_law; k_head; (case hw => w_witness2)
  k_fill
  refine L2.walk_of (l:=PySem.Challenge.rw_LID) (n:=63) (k:=40) (x:="script") (CX:=fun w => ..) (sp:=fun _ => My.sp_law) rfl (by decide) rfl ⟨rfl,by decide,by decide⟩ (fun w h Y => PySem.W.kIn_of Y) ?F ?S ?C
  case F =>
    intro w mg fa h KX G hmg
    have T:∃ t,My.Txt (L2.KOf KX) t:=by
      dsimp only [L2.KOf]                          -- K must stand as «<heap const> w.params» for k_is
      refine' My.txt_mk ?e1 ?e2 ?e3 ..
      (case e1 => PySem.W.k_is)                    -- in the order: a name -> its address -> its object -> its parts
      (case e2 => PySem.W.k_is)
      ..
    obtain ⟨t,T⟩:=T
    have e0:=hmg.symm.trans (PySem.W.mg_of KX G T.law)
    cases e0                                       -- fa is the law's own address
    exact ⟨_,fun s u => .of_eq rfl,fun base kb nb => My.law_fn T kb nb⟩     -- if «.of_eq rfl» comes too early: refine' ⟨_,?b,fun base kb nb => My.law_fn T kb nb⟩; exact fun s u => .of_eq rfl
  case S => exact fun w H a ns hl hO hS => ..
  case C => exact ..
(the tactic k_is has no namespace: write k_is) -/
namespace L2
open PySem PySem.Spec PyProof.Rows
def defArgs (s:Stmt):Arguments:=match s with
  | .FunctionDef _ a _ _ _ _ _ _ _ _ => a
  | _ => { posonlyargs:=[],args:=[],vararg:=none,kwonlyargs:=[],kw_defaults:=[],kwarg:=none,defaults:=[] }
def defBody (s:Stmt):List Stmt:=match s with
  | .FunctionDef _ _ b _ _ _ _ _ _ _ => b
  | _ => []
def defScope (s:Stmt):Scope:=match s with
  | .FunctionDef _ _ _ _ _ _ sc _ _ _ => sc
  | _ => { kind:=.function,names:=[],isGenerator:=false,isCoroutine:=false }
abbrev CX0:CXT:=fun _ _ _ _ _ _ => False
abbrev E0:XK:=fun _ _ _ => False
structure Fun (K:PySem.W.Frag) (x qual:Str) (st:Stmt) (f:Addr) (fd:FuncData):Prop where
  ex:∃ (oc:Value) (od:Option Addr) (kV doc pm:Value) (an:Option Addr) (cdv ct:Value) (osl:Array (Option Value)),
    fd = PySem.W.fnOf x qual (defArgs st) (defBody st) (defScope st) .none kV doc pm an cdv ct ∧ K.lookup f = some ⟨oc,od,.func fd,osl⟩ ∧ PySem.W.codeIn K cdv qual = true
  kp:PySem.W.keepIn K (.ref f) = true
section
variable {P:Program} {w:World} {K:PySem.W.Frag} {mg:Str → Option Value} {base:Heap}
theorem Fun.binds {x qual:Str} {st:Stmt} {f:Addr} {fd:FuncData} {ps:List Str} (F:Fun K x qual st f fd)
    (h:∀ (kV doc pm:Value) (an:Option Addr) (cdv ct:Value) (us:List Value),us.length = ps.length → bindArgs (PySem.W.fnOf x qual (defArgs st) (defBody st) (defScope st) .none kV doc pm an cdv ct) ⟨us,[]⟩ = pure (ps.zip us)):Binds K fd ps []:=by
  obtain ⟨oc,od,kV,doc,pm,an,cdv,ct,osl,rfl,lk,hcd⟩:=F.ex
  exact .all (h kV doc pm an cdv ct)
theorem fun_mk {x qual:Str} {st:Stmt} {f:Addr} {oc:Value} {od an:Option Addr} {osl:Array (Option Value)} {kV doc pm cdv ct:Value} (l:K.lookup f = some ⟨oc,od,.func (PySem.W.fnOf x qual (defArgs st) (defBody st) (defScope st) .none kV doc pm an cdv ct),osl⟩)
    (c:PySem.W.codeIn K cdv qual = true) (k:PySem.W.keepIn K (.ref f) = true):Fun K x qual st f (PySem.W.fnOf x qual (defArgs st) (defBody st) (defScope st) .none kV doc pm an cdv ct):=⟨⟨oc,od,kV,doc,pm,an,cdv,ct,osl,rfl,l,c⟩,k⟩
end
section
variable {X:Cx}
end
end L2
namespace L2
open PySem PySem.Spec PyProof.Rows
section
variable {κ : Type} [DecidableEq κ]
def valV (kvs : List (κ × V)) (k : κ) : Option V := (kvs.find? fun kv => decide (kv.1 = k)).map (·.2)
theorem valV_pos {p : κ × V} {r : List (κ × V)} {k : κ} (e : p.1 = k) : valV (p :: r) k = some p.2 := by simp [valV, List.find?_cons, e]
theorem valV_neg {p : κ × V} {r : List (κ × V)} {k : κ} (e : ¬ p.1 = k) : valV (p :: r) k = valV r k := by simp [valV, List.find?_cons, e]
end
section
variable {P : Program} {w : World} {H : Hp} {h : Heap} {a : Addr}
end
section
variable {X : Cx} {pins : List (Addr × Obj)} {σ : St} {H : Hp} {s : Shared} {a : Addr} {y v : V} {u r : Value} {o : Option V} {A : Around} {E : Value → Shared → Prop}
end
section
variable {X : Cx} {pins : List (Addr × Obj)} {σ : St} {H : Hp} {s : Shared} {a : Addr} {kvs : List (Key × V)} {k : Key} {u : Value} {A : Around} {E : Value → Shared → Prop}
end
def NoSl (i : Expr) : Prop := ∀ ov iv, subscripted i false ov iv = operate [ov, iv] (getItem ov iv)
theorem subD_of {prog : Program} {w : World} {A : Around} {E : Value → Shared → Prop} {s : Shared} {env : Env} {value slice : Expr} {pos : Pos} {T id : String} {Q : Value → Shared → Prop}
    (hl : typeLookup (.type T) "__getitem__" = pure (some (.builtin id))) (hs : NoSl slice)
    (h : wpAny (model prog w) A (eval value env) (fun o s₁ => wpAny (model prog w) A (eval slice env) (fun i s₂ => s₂.TypeIs o T ∧ wpAny (model prog w) A (getItem o i) Q E s₂) E s₁) E s) :
    wpAny (model prog w) A (eval (.Subscript value slice pos) env) Q E s := by
  refine Subscript_ (wpAny_mono h (fun o s₁ h₁ => wpAny_mono h₁ (fun i s₂ h₂ => ?_) fun _ _ x => x) fun _ _ x => x)
  obtain ⟨hT, h₂⟩ := h₂
  unfold subscriptTail
  refine wpAny_bind ?_
  rw [getitemInPython_of_ne hT.not_modules]
  refine wpAny_bind (wpAny_specialOf hT hl ?_)
  have fin : wpAny (model prog w) A (subscripted slice false o i) (fun r s₃ => wpAny (model prog w) A (letTemporaryGo value o r >>= fun _ => pure r) Q E s₃) E s₂ := by
    rw [hs o i]
    exact wpAny_operating (wpAny_mono h₂ (fun r s₃ h₃ => wpAny_bind (wpAny_letTemporaryGo (wpAny_pure h₃))) fun _ _ x => x)
  first
    | exact wpAny_pure (wpAny_bind fin)
    | exact wpAny_bind (wpAny_pure (wpAny_bind fin))
    | exact wpAny_bind fin
section
variable {X : Cx} {o i e value : Expr} {pos pos' tpos : Pos} {td ty tv : TE}
end
section
variable {X : Cx} {pos : Pos}
end
section
variable {X : Cx} {pins : List (Addr × Obj)} {σ : St} {H : Hp} {s : Shared} {a : Addr} {y d : V} {u r : Value} {o : Option V} {A : Around} {E : Value → Shared → Prop}
end
section
variable {X : Cx} {o e f : Expr} {apos cpos : Pos} {td ty tx : TE}
end
section
variable {X : Cx} {pins : List (Addr × Obj)} {σ : St} {H : Hp} {s : Shared} {a : Addr} {kvs : List (Key × V)} {A : Around} {E : Value → Shared → Prop}
end
section
variable {X : Cx} {pins : List (Addr × Obj)} {σ : St} {H : Hp} {s : Shared} {a : Addr} {y : V} {u : Value} {A : Around} {E : Value → Shared → Prop}
end
end L2
namespace Att
open PySem PySem.W PySem.Calls PyProof.Rows
end Att
namespace L2
open PySem PySem.Spec PyProof.Rows
section
variable {X : Cx}
end
section
variable {κ : Type} [DecidableEq κ]
end
end L2
set_option maxHeartbeats 4000000
namespace J
open PySem PySem.Spec PyProof.Rows L2
structure Lm where
 a:Addr
 c:Addr
 q:PySem.Str
 xs:List V
inductive Wv where
 | non
 | bl (b:Bool)
 | int (i:Int)
 | str (x:PySem.Str)
 | tup (ws:List Wv)
 | ktp (ws:List Wv)
 | ref (l:Nat)
 | ty (n:String)
 | cls (c:PySem.Str)
 | exn (c:PySem.Str)
 | fn (p:Lm) (ws:List Wv)
inductive Ob where
 | lst (ws:List Wv)
 | scr (ns:List Int)
 | dct (kvs:List (L2.Key × Wv))
 | dcT (kvs:List (List L2.Key × Wv))
abbrev Hs:=List Ob
abbrev St:=L2.St
abbrev Rho:=List (Option Wv)
abbrev Mp:=List Addr
def ExnAt (a C:Addr):Heap → Prop:=fun h => ∃ o,h.get? a = some o ∧ o.cls = .ref C ∧ ∃ vs,o.data = .fields vs
def ClsAt (K:PySem.W.Frag) (c:PySem.Str) (C:Addr):Prop:=PySem.W.nsIn K mainGlobals c = some (some (.ref C))
def CodeX (c:Addr) (q:PySem.Str):Heap → Prop:=fun h => h.CodeRec (.ref c) q
def lamDefs:List PySem.Str:=["form_of","formula_by","turned"]
def tabFree (K:PySem.W.Frag) (q:PySem.Str):Option Addr:=match PySem.W.tabIn K q with
 | some (_,P) => if (K.lookup P).isNone = true then some P else none
 | none => none
def lamQ (q:PySem.Str):PySem.Str:=(q ++ ".<locals>.") ++ "<lambda>"
def TbOk (K:PySem.W.Frag) (H:Hp):Prop:=∀ q P,q ∈ lamDefs → tabFree K q = some P → ∃ ps,H P = some (.tbl ps) ∧ TriplesOk ps.toList ∧ ∀ pos cv,codeAmong pos ps.toList = some cv → ∃ c,cv = .ref c ∧ H c = some (.ext (CodeX c (lamQ q)))
theorem TbOk.keep {K:PySem.W.Frag} {H H':Hp} (t:TbOk K H) (h1:∀ a ps,H a = some (.tbl ps) → H' a = some (.tbl ps)) (h2:∀ a φ,H a = some (.ext φ) → H' a = some (.ext φ)):TbOk K H':=fun q P hq hP => by
 obtain ⟨ps,e1,e2,e3⟩:=t q P hq hP
 refine ⟨ps,h1 _ _ e1,e2,fun pos cv e => ?_⟩
 obtain ⟨c,f1,f2⟩:=e3 pos cv e
 exact ⟨c,f1,h2 _ _ f2⟩
def KTup (K:PySem.W.Frag) (a:Addr) (xs:List V):Prop:=∃ (o:Obj) (its:Array Value) (n:Nat),K.lookup a = some o ∧ o.cls = .type "tuple" ∧ o.data = .seq its n ∧ its.size ≤ sizeLine ∧ Vals xs its.toList
mutual
def RelW (K:PySem.W.Frag) (m:Mp) (H:Hp):Wv → V → Prop
 | .non,v => v = .non
 | .bl b,v => v = .bl b
 | .int i,v => v = .int i
 | .str x,v => v = .str x ∧ PyData.strOk x = true
 | .tup ws,v => ∃ a xs,v = .ref a ∧ H a = some (.tup xs) ∧ RelWs K m H ws xs
 | .ktp ws,v => ∃ a xs,v = .ref a ∧ KTup K a xs ∧ RelWs K m H ws xs
 | .ref l,v => ∃ a,v = .ref a ∧ m[l]? = some a
 | .ty n,v => v = .ty n
 | .cls c,v => ∃ C,v = .ref C ∧ ClsAt K c C
 | .exn c,v => ∃ a C,v = .ref a ∧ ClsAt K c C ∧ H a = some (.ext (ExnAt a C))
 | .fn p ws,v => v = .ref p.a ∧ H p.c = some (.ext (CodeX p.c p.q)) ∧ RelWs K m H ws p.xs
def RelWs (K:PySem.W.Frag) (m:Mp) (H:Hp):List Wv → List V → Prop
 | [],xs => xs = []
 | w :: ws,xs => ∃ x r,xs = x :: r ∧ RelW K m H w x ∧ RelWs K m H ws r
end
structure Ext (K:PySem.W.Frag) (m:Mp) (H:Hp) (m':Mp) (H':Hp):Prop where
 pre:∀ (l:Nat) (a:Addr),m[l]? = some a → m'[l]? = some a
 tup:∀ (a:Addr) (xs:List V),H a = some (.tup xs) → H' a = some (.tup xs)
 ext:∀ (a:Addr) (φ:Heap → Prop),H a = some (.ext φ) → H' a = some (.ext φ)
section
variable {K:PySem.W.Frag} {m m1 m2:Mp} {H H1 H2:Hp}
theorem Ext.refl:Ext K m H m H:=⟨fun _ _ h => h,fun _ _ h => h,fun _ _ h => h⟩
theorem Ext.trans (a:Ext K m H m1 H1) (b:Ext K m1 H1 m2 H2):Ext K m H m2 H2 :=
 ⟨fun l x h => b.pre l x (a.pre l x h),fun x xs h => b.tup x xs (a.tup x xs h),fun x φ h => b.ext x φ (a.ext x φ h)⟩
mutual
theorem RelW.mono (e:Ext K m H m1 H1):∀ (w:Wv) (v:V),RelW K m H w v → RelW K m1 H1 w v
 | .non,v,h => by unfold RelW at h ⊢; exact h
 | .bl b,v,h => by unfold RelW at h ⊢; exact h
 | .int i,v,h => by unfold RelW at h ⊢; exact h
 | .str x,v,h => by unfold RelW at h ⊢; exact h
 | .ty n,v,h => by unfold RelW at h ⊢; exact h
 | .cls c,v,h => by unfold RelW at h ⊢; exact h
 | .exn c,v,h => by
  unfold RelW at h ⊢
  obtain ⟨a,C,e1,e2,e3⟩:=h
  exact ⟨a,C,e1,e2,e.ext _ _ e3⟩
 | .ref l,v,h => by
  unfold RelW at h ⊢
  obtain ⟨a,e1,e2⟩:=h
  exact ⟨a,e1,e.pre _ _ e2⟩
 | .tup ws,v,h => by
  unfold RelW at h ⊢
  obtain ⟨a,xs,e1,e2,e3⟩:=h
  exact ⟨a,xs,e1,e.tup _ _ e2,RelWs.mono e ws xs e3⟩
 | .ktp ws,v,h => by
  unfold RelW at h ⊢
  obtain ⟨a,xs,e1,e2,e3⟩:=h
  exact ⟨a,xs,e1,e2,RelWs.mono e ws xs e3⟩
 | .fn p ws,v,h => by
  unfold RelW at h ⊢
  obtain ⟨e1,e2,e3⟩:=h
  exact ⟨e1,e.ext _ _ e2,RelWs.mono e ws p.xs e3⟩
theorem RelWs.mono (e:Ext K m H m1 H1):∀ (ws:List Wv) (xs:List V),RelWs K m H ws xs → RelWs K m1 H1 ws xs
 | [],xs,h => by unfold RelWs at h ⊢; exact h
 | w :: ws,xs,h => by
  unfold RelWs at h ⊢
  obtain ⟨x,r,e1,e2,e3⟩:=h
  exact ⟨x,r,e1,RelW.mono e w x e2,RelWs.mono e ws r e3⟩
end
theorem RelWs.nil:RelWs K m H [] []:=by unfold RelWs; rfl
theorem RelWs.cons {w:Wv} {x:V} {ws:List Wv} {xs:List V} (h:RelW K m H w x) (t:RelWs K m H ws xs):RelWs K m H (w :: ws) (x :: xs):=by unfold RelWs; exact ⟨x,xs,rfl,h,t⟩
theorem RelWs.length:∀ {ws:List Wv} {xs:List V},RelWs K m H ws xs → ws.length = xs.length
 | [],xs,h => by unfold RelWs at h; subst h; rfl
 | w :: ws,xs,h => by
  unfold RelWs at h
  obtain ⟨x,r,e1,_,e3⟩:=h
  subst e1
  simp [RelWs.length e3]
theorem RelWs.get:∀ {ws:List Wv} {xs:List V} {i:Nat} {w:Wv},RelWs K m H ws xs → ws[i]? = some w → ∃ x,xs[i]? = some x ∧ RelW K m H w x
 | [],_,i,w,_,e => by simp at e
 | a :: ws,xs,0,w,h,e => by
  unfold RelWs at h
  obtain ⟨x,r,e1,e2,_⟩:=h
  subst e1
  simp at e
  subst e
  exact ⟨x,rfl,e2⟩
 | a :: ws,xs,i + 1,w,h,e => by
  unfold RelWs at h
  obtain ⟨x,r,e1,_,e3⟩:=h
  subst e1
  obtain ⟨y,f1,f2⟩:=RelWs.get (i:=i) (w:=w) e3 (by simpa using e)
  exact ⟨y,by simpa using f1,f2⟩
theorem RelWs.append:∀ {ws zs:List Wv} {xs ys:List V},RelWs K m H ws xs → RelWs K m H zs ys → RelWs K m H (ws ++ zs) (xs ++ ys)
 | [],_,xs,_,h,g => by unfold RelWs at h; subst h; exact g
 | w :: ws,zs,xs,ys,h,g => by
  unfold RelWs at h
  obtain ⟨x,r,e1,e2,e3⟩:=h
  subst e1
  exact RelWs.cons e2 (RelWs.append e3 g)
theorem RelWs.set:∀ {ws:List Wv} {xs:List V} (i:Nat) {w:Wv} {x:V},RelWs K m H ws xs → RelW K m H w x → RelWs K m H (ws.set i w) (xs.set i x)
 | [],xs,i,w,x,h,_ => by unfold RelWs at h; subst h; exact RelWs.nil
 | a :: ws,xs,0,w,x,h,g => by
  unfold RelWs at h
  obtain ⟨y,r,e1,e2,e3⟩:=h
  subst e1
  exact RelWs.cons g e3
 | a :: ws,xs,i + 1,w,x,h,g => by
  unfold RelWs at h
  obtain ⟨y,r,e1,e2,e3⟩:=h
  subst e1
  exact RelWs.cons e2 (RelWs.set i e3 g)
theorem RelWs.drop:∀ {ws:List Wv} {xs:List V} (i:Nat),RelWs K m H ws xs → RelWs K m H (ws.drop i) (xs.drop i)
 | ws,xs,0,h => by simpa using h
 | [],xs,i + 1,h => by unfold RelWs at h; subst h; simpa using RelWs.nil
 | a :: ws,xs,i + 1,h => by
  unfold RelWs at h
  obtain ⟨y,r,e1,e2,e3⟩:=h
  subst e1
  simpa using RelWs.drop i e3
theorem RelWs.take:∀ {ws:List Wv} {xs:List V} (i:Nat),RelWs K m H ws xs → RelWs K m H (ws.take i) (xs.take i)
 | ws,xs,0,h => by simpa using RelWs.nil
 | [],xs,i + 1,h => by unfold RelWs at h; subst h; simpa using RelWs.nil
 | a :: ws,xs,i + 1,h => by
  unfold RelWs at h
  obtain ⟨y,r,e1,e2,e3⟩:=h
  subst e1
  simpa using RelWs.cons e2 (RelWs.take i e3)
theorem RelWs.ints:∀ (ns:List Int),RelWs K m H (ns.map Wv.int) (ns.map V.int)
 | [] => RelWs.nil
 | n :: ns => RelWs.cons (by unfold RelW; rfl) (RelWs.ints ns)
end
def ScrOk (K:PySem.W.Frag) (H:Hp) (a:Addr) (ns:List Int):Prop :=
 (∃ o,H a = some (.frz o (.lst (ns.map V.int)))) ∨
  ∃ (o:Obj) (its:Array Value) (n:Nat),K.lookup a = some o ∧ o.cls = .type "list" ∧ o.dict = none ∧ o.data = .seq its n ∧ its.size ≤ sizeLine ∧ Vals (ns.map V.int) its.toList
def RelK {κ:Type} (K:PySem.W.Frag) (m:Mp) (H:Hp) (kvs:List (κ × Wv)) (xs:List (κ × V)):Prop:=kvs.map (·.1) = xs.map (·.1) ∧ RelWs K m H (kvs.map (·.2)) (xs.map (·.2))
def ORel (K:PySem.W.Frag) (m:Mp) (H:Hp) (a:Addr):Ob → Prop
 | .lst ws => ∃ xs,H a = some (.lst xs) ∧ RelWs K m H ws xs
 | .scr ns => ScrOk K H a ns
 | .dct kvs => ∃ xs,H a = some (.dK xs) ∧ RelK K m H kvs xs
 | .dcT kvs => ∃ xs,H a = some (.dT xs) ∧ RelK K m H kvs xs
def Ob.mu:Ob → Bool
 | .scr _ => false
 | _ => true
structure Sim (K:PySem.W.Frag) (m:Mp) (st:Hs) (H:Hp):Prop where
 len:m.length = st.length
 obj:∀ (l:Nat) (a:Addr) (o:Ob),m[l]? = some a → st[l]? = some o → ORel K m H a o
 inj:∀ (l l':Nat) (a:Addr) (o o':Ob),m[l]? = some a → m[l']? = some a → st[l]? = some o → st[l']? = some o' → o.mu = true → o'.mu = true → l = l'
 tab:TbOk K H
def lstOf (st:Hs) (l:Nat):Option (List Wv):=match st[l]? with
 | some (.lst ws) => some ws
 | some (.scr ns) => some (ns.map Wv.int)
 | _ => none
section
variable {K:PySem.W.Frag} {m:Mp} {H:Hp} {st:Hs}
def Wr (u:Option HO):Prop:=u = none ∨ (∃ ys,u = some (.lst ys)) ∨ (∃ ys,u = some (.dK ys)) ∨ ∃ ys,u = some (.dT ys)
theorem Wr.ne {p a:Addr} {u:HO} (hp:Wr (H p)) (e:H a = some u) (n1:∀ ys,u ≠ .lst ys) (n2:∀ ys,u ≠ .dK ys) (n3:∀ ys,u ≠ .dT ys):a ≠ p:=fun z => by
 subst z
 rcases hp with q | ⟨ys,q⟩ | ⟨ys,q⟩ | ⟨ys,q⟩
 ·rw [q] at e; cases e
 ·rw [q] at e; cases e; exact n1 ys rfl
 ·rw [q] at e; cases e; exact n2 ys rfl
 ·rw [q] at e; cases e; exact n3 ys rfl
theorem tup_updW {p a:Addr} {o:HO} {xs:List V} (hp:Wr (H p)) (h:H a = some (.tup xs)):upd H p o a = some (.tup xs):=by
 rw [upd_ne (hp.ne h (by intro ys z; cases z) (by intro ys z; cases z) (by intro ys z; cases z))]; exact h
theorem scr_updW {p a:Addr} {o:HO} {ns:List Int} (hp:Wr (H p)) (h:ScrOk K H a ns):ScrOk K (upd H p o) a ns:=by
 rcases h with ⟨o',h⟩ | h
 ·exact .inl ⟨o',by rw [upd_ne (hp.ne h (by intro ys z; cases z) (by intro ys z; cases z) (by intro ys z; cases z))]; exact h⟩
 ·exact .inr h
theorem Wr.of {u:Option HO} (h:u = none ∨ ∃ ys,u = some (.lst ys)):Wr u:=by
 rcases h with q | q
 ·exact .inl q
 ·exact .inr (.inl q)
theorem Ext.updW {p:Addr} {o:HO} (hp:Wr (H p)):Ext K m H m (upd H p o):=⟨fun _ _ h => h,fun _ _ h => tup_updW hp h,fun a φ h => by
 rw [upd_ne (hp.ne h (by intro ys z; cases z) (by intro ys z; cases z) (by intro ys z; cases z))]
 exact h⟩
theorem Ext.upd {p:Addr} {o:HO} (hp:H p = none ∨ ∃ ys,H p = some (.lst ys)):Ext K m H m (upd H p o):=Ext.updW (Wr.of hp)
theorem RelK.mono {κ:Type} {m1:Mp} {H1:Hp} {kvs:List (κ × Wv)} {xs:List (κ × V)} (e:Ext K m H m1 H1) (h:RelK K m H kvs xs):RelK K m1 H1 kvs xs:=⟨h.1,RelWs.mono e _ _ h.2⟩
theorem ORel.keep {m1:Mp} {b p:Addr} {u:HO} {o:Ob} (ex:Ext K m H m1 (L2.upd H p u)) (hp:Wr (H p)) (hb:o.mu = true → b ≠ p) (h:ORel K m H b o):ORel K m1 (L2.upd H p u) b o:=by
 cases o with
 | lst ws =>
  obtain ⟨xs,e1,e2⟩:=h
  exact ⟨xs,by rw [upd_ne (hb rfl)]; exact e1,RelWs.mono ex _ _ e2⟩
 | dct kvs =>
  obtain ⟨xs,e1,e2⟩:=h
  exact ⟨xs,by rw [upd_ne (hb rfl)]; exact e1,e2.mono ex⟩
 | dcT kvs =>
  obtain ⟨xs,e1,e2⟩:=h
  exact ⟨xs,by rw [upd_ne (hb rfl)]; exact e1,e2.mono ex⟩
 | scr ns => exact scr_updW hp h
theorem ORel.at {b:Addr} {o:Ob} (h:ORel K m H b o) (hm:o.mu = true):∃ u,H b = some u:=by
 cases o with
 | lst ws => obtain ⟨xs,e1,e2⟩:=h; exact ⟨_,e1⟩
 | dct kvs => obtain ⟨xs,e1,e2⟩:=h; exact ⟨_,e1⟩
 | dcT kvs => obtain ⟨xs,e1,e2⟩:=h; exact ⟨_,e1⟩
 | scr ns => simp [Ob.mu] at hm
theorem ORel.wr {b:Addr} {o:Ob} (h:ORel K m H b o) (hm:o.mu = true):Wr (H b):=by
 cases o with
 | lst ws => obtain ⟨xs,e1,e2⟩:=h; exact .inr (.inl ⟨_,e1⟩)
 | dct kvs => obtain ⟨xs,e1,e2⟩:=h; exact .inr (.inr (.inl ⟨_,e1⟩))
 | dcT kvs => obtain ⟨xs,e1,e2⟩:=h; exact .inr (.inr (.inr ⟨_,e1⟩))
 | scr ns => simp [Ob.mu] at hm
theorem TbOk.updW {p:Addr} {o:HO} (t:TbOk K H) (hp:Wr (H p)):TbOk K (L2.upd H p o):=t.keep
 (fun a ps h => by rw [upd_ne (hp.ne h (by intro ys z; cases z) (by intro ys z; cases z) (by intro ys z; cases z))]; exact h)
 fun a φ h => by rw [upd_ne (hp.ne h (by intro ys z; cases z) (by intro ys z; cases z) (by intro ys z; cases z))]; exact h
theorem Ext.more {p:Addr}:Ext K m H (m ++ [p]) H:=⟨fun l a h => by
 rw [List.getElem?_append_left]
 ·exact h
 ·exact (List.getElem?_eq_some_iff.mp h).1,fun _ _ h => h,fun _ _ h => h⟩
theorem Sim.fresh {p:Addr} {o:HO} (S:Sim K m st H) (hp:H p = none):Sim K m st (upd H p o) :=
 ⟨S.len,fun l a ob h1 h2 => by
  have q:=S.obj l a ob h1 h2
  refine q.keep (Ext.updW (.inl hp)) (.inl hp) fun hm => ?_
  obtain ⟨u,e⟩:=q.at hm
  exact ne_of_none e hp,S.inj,S.tab.updW (.inl hp)⟩
theorem Sim.lstAt {l:Nat} {a:Addr} {ws:List Wv} (S:Sim K m st H) (h1:m[l]? = some a) (h2:st[l]? = some (.lst ws)):∃ xs,H a = some (.lst xs) ∧ RelWs K m H ws xs:=S.obj l a _ h1 h2
theorem Sim.has {l:Nat} {o:Ob} (S:Sim K m st H) (h:st[l]? = some o):∃ a,m[l]? = some a:=by
 have e:l < st.length:=(List.getElem?_eq_some_iff.mp h).1
 have e':l < m.length:=by rw [S.len]; exact e
 exact ⟨m[l],List.getElem?_eq_getElem e'⟩
theorem Sim.read {l:Nat} {a:Addr} {ws:List Wv} (S:Sim K m st H) (h1:m[l]? = some a) (h2:lstOf st l = some ws):∃ xs,SqL K H a xs ∧ RelWs K m H ws xs:=by
 unfold lstOf at h2
 cases e:st[l]? with
 | none => rw [e] at h2; cases h2
 | some o =>
  rw [e] at h2
  cases o with
  | lst zs =>
   cases h2
   obtain ⟨xs,e1,e2⟩:=S.lstAt h1 e
   exact ⟨xs,SqL.of e1,e2⟩
  | dct kvs => cases h2
  | dcT kvs => cases h2
  | scr ns =>
   cases h2
   have q:ScrOk K H a ns:=S.obj l a _ h1 e
   refine ⟨ns.map V.int,?_,RelWs.ints ns⟩
   rcases q with ⟨o,q⟩ | q
   ·exact .inl (.inr ⟨o,q⟩)
   ·exact .inr q
theorem Sim.allocO {p:Addr} {ob:Ob} {u:HO} (S:Sim K m st H) (hp:H p = none) (r:ORel K (m ++ [p]) (L2.upd H p u) p ob):Sim K (m ++ [p]) (st ++ [ob]) (L2.upd H p u):=by
 have ex:Ext K m H (m ++ [p]) (L2.upd H p u):=Ext.more.trans (Ext.updW (.inl hp))
 have notold:∀ (l:Nat) (o:Ob),m[l]? = some p → st[l]? = some o → o.mu = true → False:=fun l o h1 h2 hm => by
  obtain ⟨v,e⟩:=(S.obj l p o h1 h2).at hm
  rw [hp] at e; cases e
 have old:∀ (l:Nat) (a:Addr),(m ++ [p])[l]? = some a → (l < m.length ∧ m[l]? = some a) ∨ (l = m.length ∧ a = p):=fun l a h => by
  by_cases hl:l < m.length
  ·exact .inl ⟨hl,by rw [List.getElem?_append_left hl] at h; exact h⟩
  ·have h':=h
   rw [List.getElem?_append_right (by omega)] at h'
   have z:=List.getElem?_eq_some_iff.mp h'
   have z1:l - m.length < 1:=by simpa using z.1
   refine .inr ⟨by omega,?_⟩
   have e0:l - m.length = 0:=by omega
   rw [e0] at h'
   simpa using h'.symm
 have olds:∀ (l:Nat) (o:Ob),l < m.length → (st ++ [ob])[l]? = some o → st[l]? = some o:=fun l o hl h => by
  rw [List.getElem?_append_left (by rw [← S.len]; exact hl)] at h
  exact h
 refine ⟨by simp [S.len],fun l a o h1 h2 => ?_,fun l l' a zs zs' h1 h1' h2 h2' k k' => ?_,S.tab.updW (.inl hp)⟩
 ·rcases old l a h1 with ⟨hl,h1⟩ | ⟨hl,rfl⟩
  ·have q:=S.obj l a o h1 (olds l o hl h2)
   refine q.keep ex (.inl hp) fun hm => ?_
   obtain ⟨v,e⟩:=q.at hm
   exact ne_of_none e hp
  ·have e:o = ob:=by
    rw [hl,S.len,List.getElem?_append_right (Nat.le_refl _),Nat.sub_self] at h2
    simpa using h2.symm
   subst e
   exact r
 ·rcases old l a h1 with ⟨hl,g1⟩ | ⟨hl,ea⟩
  ·rcases old l' a h1' with ⟨hl',g1'⟩ | ⟨hl',ea'⟩
   ·exact S.inj l l' a zs zs' g1 g1' (olds l _ hl h2) (olds l' _ hl' h2') k k'
   ·rw [ea'] at g1
    exact (notold l zs g1 (olds l _ hl h2) k).elim
  ·rcases old l' a h1' with ⟨hl',g1'⟩ | ⟨hl',_⟩
   ·rw [ea] at g1'
    exact (notold l' zs' g1' (olds l' _ hl' h2') k').elim
   ·omega
theorem Sim.alloc {p:Addr} {ws:List Wv} {xs:List V} (S:Sim K m st H) (hp:H p = none) (r:RelWs K m H ws xs):Sim K (m ++ [p]) (st ++ [.lst ws]) (upd H p (.lst xs)) :=
 S.allocO hp ⟨xs,upd_same,RelWs.mono (Ext.more.trans (Ext.updW (.inl hp))) _ _ r⟩
theorem Sim.writeO {l:Nat} {a:Addr} {o0 ob:Ob} {u:HO} (S:Sim K m st H) (h1:m[l]? = some a) (h2:st[l]? = some o0) (hm:o0.mu = true) (r:ORel K m (L2.upd H a u) a ob):Sim K m (st.set l ob) (L2.upd H a u):=by
 have wr:Wr (H a):=(S.obj l a o0 h1 h2).wr hm
 have ex:Ext K m H m (L2.upd H a u):=Ext.updW wr
 have hl:l < st.length:=(List.getElem?_eq_some_iff.mp h2).1
 have at':∀ (k:Nat) (o:Ob),(st.set l ob)[k]? = some o → (k = l ∧ o = ob) ∨ (k ≠ l ∧ st[k]? = some o):=fun k o h => by
  by_cases e:l = k
  ·subst e
   rw [List.getElem?_set_self hl] at h
   exact .inl ⟨rfl,(Option.some.inj h).symm⟩
  ·rw [List.getElem?_set_ne e] at h
   exact .inr ⟨fun z => e z.symm,h⟩
 refine ⟨by simp [S.len],fun k b o g1 g2 => ?_,fun k k' b us us' g1 g1' g2 g2' q q' => ?_,S.tab.updW wr⟩
 ·rcases at' k o g2 with ⟨rfl,rfl⟩ | ⟨hk,g2⟩
  ·rw [h1] at g1; cases g1
   exact r
  ·have q:=S.obj k b o g1 g2
   refine q.keep ex wr fun ho z => ?_
   subst z
   exact hk (S.inj k l b o o0 g1 h1 g2 h2 ho hm)
 ·have back:∀ (k:Nat) (o:Ob),(st.set l ob)[k]? = some o → o.mu = true → ∃ o',st[k]? = some o' ∧ o'.mu = true:=fun k o h ho => by
   rcases at' k _ h with ⟨rfl,_⟩ | ⟨_,h⟩
   ·exact ⟨o0,h2,hm⟩
   ·exact ⟨o,h,ho⟩
  obtain ⟨u1,e1,f1⟩:=back k us g2 q
  obtain ⟨u2,e2,f2⟩:=back k' us' g2' q'
  exact S.inj k k' b u1 u2 g1 g1' e1 e2 f1 f2
theorem Sim.write {l:Nat} {a:Addr} {ws zs:List Wv} {xs:List V} (S:Sim K m st H) (h1:m[l]? = some a) (h2:st[l]? = some (.lst ws)) (r:RelWs K m H zs xs):Sim K m (st.set l (.lst zs)) (upd H a (.lst xs)) :=
 S.writeO h1 h2 rfl ⟨xs,upd_same,RelWs.mono (Ext.updW ((S.obj l a _ h1 h2).wr rfl)) _ _ r⟩
end
structure RelEnv (K:PySem.W.Frag) (m:Mp) (H:Hp) (ρ:Rho) (σ:St):Prop where
 len:ρ.length = σ.length
 get:∀ (i:Nat) (w:Wv),ρ[i]? = some (some w) → ∃ v,σ[i]? = some (some v) ∧ RelW K m H w v
section
variable {K:PySem.W.Frag} {m m1:Mp} {H H1:Hp} {ρ:Rho} {σ:St}
theorem RelEnv.mono (R:RelEnv K m H ρ σ) (e:Ext K m H m1 H1):RelEnv K m1 H1 ρ σ:=⟨R.len,fun i w h => let ⟨v,h1,h2⟩:=R.get i w h; ⟨v,h1,RelW.mono e _ _ h2⟩⟩
theorem RelEnv.set (R:RelEnv K m H ρ σ) (i:Nat) {w:Wv} {v:V} (h:RelW K m H w v):RelEnv K m H (ρ.set i (some w)) (σ.set i (some v)):=by
 refine ⟨by simp [R.len],fun j u e => ?_⟩
 by_cases hj:i = j
 ·subst hj
  have hi:i < ρ.length:=by
   have:=(List.getElem?_eq_some_iff.mp e).1
   simpa using this
  rw [List.getElem?_set_self hi] at e
  have e':w = u:=Option.some.inj (Option.some.inj e)
  subst e'
  exact ⟨v,by rw [List.getElem?_set_self (by rw [← R.len]; exact hi)],h⟩
 ·rw [List.getElem?_set_ne hj] at e
  obtain ⟨x,h1,h2⟩:=R.get j u e
  exact ⟨x,by rw [List.getElem?_set_ne hj]; exact h1,h2⟩
end
inductive Re (α:Type) where
 | ok (a:α) (st:Hs)
 | err (c:PySem.Str) (st:Hs)
 | bad
def Re.bind {α β:Type} (r:Re α) (f:α → Hs → Re β):Re β:=match r with
 | .ok a st => f a st
 | .err c st => .err c st
 | .bad => .bad
inductive Rs where
 | nx (ρ:Rho) (st:Hs)
 | rt (w:Wv) (st:Hs)
 | bk (ρ:Rho) (st:Hs)
 | ct (ρ:Rho) (st:Hs)
 | err (c:PySem.Str) (ρ:Rho) (st:Hs)
 | bad
def Re.thn {α:Type} (ρ:Rho) (r:Re α) (f:α → Hs → Rs):Rs:=match r with
 | .ok a st => f a st
 | .err c st => .err c ρ st
 | .bad => .bad
def Re.nox {α:Type} (r:Re α):Re α:=match r with
 | .ok a st => .ok a st
 | _ => .bad
abbrev GE:=Rho → Hs → Re Wv
abbrev GT:=Rho → Hs → Re Bool
abbrev GA:=Rho → Hs → Re (List Wv)
abbrev GS:=Rho → Hs → Rs
def Flown (P:Program) (w:World) (outer:List Env) (H:Hp) (s:Shared) (H':Hp) (cls:Value) (e:Value) (s':Shared):Prop :=
 ∃ (a:Addr) (a0:Value) (B:Heap),e = .ref a ∧ s'.os = s.os ∧ AllBare s'.gens ∧ Un (frs outer) [] H H' s.heap s'.heap ∧ HOk P w H' B ∧ Heap.FlyingW B outer a cls a0 s'.heap ∧
  (∀ b o,s.heap.get? b = some o → b ∉ frs outer → ∃ o',B.get? b = some o' ∧ (H b = none → o' = o))
def FlownA (X:Cx) (pins:List (Addr × Obj)) (H:Hp) (s:Shared) (H':Hp) (cls:Value) (e:Value) (s':Shared):Prop :=
 ∃ (a:Addr) (a0 nt:Value) (B:Heap) (ch:List Addr),e = .ref a ∧ s'.os = s.os ∧ AllBare s'.gens ∧ (∀ b ∈ ch,FpOk X pins H b) ∧ Un (frs X.stack) ch H H' s.heap s'.heap ∧ HOk X.prog X.w H' B ∧
  (B.StaysIn s'.heap ∧ B.get? a = none ∧ s'.heap.FunFrames B X.stack ∧ s'.heap.TracedAtW B a cls a0 nt) ∧
  (∀ b o,s.heap.get? b = some o → b ∉ frs X.stack → b ∉ ch → ∃ o',B.get? b = some o' ∧ (H b = none → o' = o))
theorem Flown.any {X:Cx} {pins:List (Addr × Obj)} {H H':Hp} {s s':Shared} {cls e:Value} (f:Flown X.prog X.w X.stack H s H' cls e s'):FlownA X pins H s H' cls e s' :=
 let ⟨a,a0,B,e1,e2,e3,un,hok,fl,cov⟩:=f
 ⟨a,a0,.none,B,[],e1,e2,e3,(fun b z => by cases z),un,hok,fl,fun b o q hb _ => cov b o q hb⟩
def Raised (X:Cx) (σ:St) (H':Hp) (c:PySem.Str) (e:Value) (s':Shared):Prop :=
 ∃ (C:Addr) (pins:List (Addr × Obj)) (Hc:Hp) (sc:Shared),ClsAt X.K c C ∧ Inv X pins σ Hc sc ∧
  (FlownA X pins Hc sc H' (.ref C) e s' ∨ (H' = Hc ∧ ∃ a args,e = .ref a ∧ s'.os = sc.os ∧ s'.gens = sc.gens ∧ Heap.MadeExcOf sc.heap s'.heap a (.ref C) args))
def XOk (X:Cx) (σ:St) (m:Mp) (H:Hp) (c:PySem.Str) (st:Hs):Prop :=
 ∀ (m':Mp) (H':Hp) (e:Value) (s':Shared),Ext X.K m H m' H' → Sim X.K m' st H' → Raised X σ H' c e s' → X.xe e s'
theorem XOk.mono {X:Cx} {σ:St} {m m1:Mp} {H H1:Hp} {c:PySem.Str} {st:Hs} (h:XOk X σ m H c st) (e:Ext X.K m H m1 H1):XOk X σ m1 H1 c st :=
 fun m' H' x s' e' S r => h m' H' x s' (e.trans e') S r
def PostG {α:Type} (X:Cx) (σ:St) (m:Mp) (H:Hp) (r:Re α) (ok:α → Hs → Prop):Prop:=match r with
 | .ok a st => ok a st
 | .err c st => XOk X σ m H c st
 | .bad => False
def PostN {α:Type} (r:Re α) (ok:α → Hs → Prop):Prop:=match r with
 | .ok a st => ok a st
 | _ => False
theorem PostG.nox {α:Type} {X:Cx} {σ:St} {m:Mp} {H:Hp} {r:Re α} {ok:α → Hs → Prop} (h:PostG X σ m H r.nox ok):PostN r ok:=by
 cases r with
 | ok a st => exact h
 | err c st => exact h
 | bad => exact h
theorem PostG.bind {α β:Type} {X:Cx} {σ:St} {m:Mp} {H:Hp} {r:Re α} {f:α → Hs → Re β} {ok:β → Hs → Prop} (h:PostG X σ m H (r.bind f) ok):PostG X σ m H r (fun a st => PostG X σ m H (f a st) ok):=by
 cases r with
 | ok a st => exact h
 | err c st => exact h
 | bad => exact h
theorem PostG.imp {α:Type} {X:Cx} {σ:St} {m m1:Mp} {H H1:Hp} {r:Re α} {ok ok':α → Hs → Prop} (h:PostG X σ m H r ok) (e:Ext X.K m H m1 H1) (k:∀ a st,ok a st → ok' a st):PostG X σ m1 H1 r ok':=by
 cases r with
 | ok a st => exact k a st h
 | err c st => exact XOk.mono (c:=c) (st:=st) h e
 | bad => exact h
theorem PostN.imp {α:Type} {r:Re α} {ok ok':α → Hs → Prop} (h:PostN r ok) (k:∀ a st,ok a st → ok' a st):PostN r ok':=by
 cases r with
 | ok a st => exact k a st h
 | err c st => exact h
 | bad => exact h
def okE (K:PySem.W.Frag) (m:Mp) (H:Hp) (Q:VK) (w:Wv) (st:Hs):Prop:=∀ (v:V) (m':Mp) (H':Hp),Ext K m H m' H' → Sim K m' st H' → RelW K m' H' w v → Q v H'
def okT (K:PySem.W.Frag) (m:Mp) (H:Hp) (Q:Bool → Hp → Prop) (b:Bool) (st:Hs):Prop:=∀ (m':Mp) (H':Hp),Ext K m H m' H' → Sim K m' st H' → Q b H'
def okA (K:PySem.W.Frag) (m:Mp) (H:Hp) (Q:List V → Hp → Prop) (ws:List Wv) (st:Hs):Prop:=∀ (vs:List V) (m':Mp) (H':Hp),Ext K m H m' H' → Sim K m' st H' → RelWs K m' H' ws vs → Q vs H'
abbrev PostE (X:Cx) (σ:St) (m:Mp) (H:Hp) (r:Re Wv) (Q:VK):Prop:=PostG X σ m H r (okE X.K m H Q)
abbrev PostT (X:Cx) (σ:St) (m:Mp) (H:Hp) (r:Re Bool) (Q:Bool → Hp → Prop):Prop:=PostG X σ m H r (okT X.K m H Q)
abbrev PostA (X:Cx) (σ:St) (m:Mp) (H:Hp) (r:Re (List Wv)) (Q:List V → Hp → Prop):Prop:=PostG X σ m H r (okA X.K m H Q)
theorem PostE.shift {X:Cx} {σ:St} {m m1:Mp} {H H1:Hp} {r:Re Wv} {Q:VK} (h:PostE X σ m H r Q) (e:Ext X.K m H m1 H1):PostE X σ m1 H1 r Q:=h.imp e fun _ _ k v m' H' e' => k v m' H' (e.trans e')
theorem PostT.shift {X:Cx} {σ:St} {m m1:Mp} {H H1:Hp} {r:Re Bool} {Q:Bool → Hp → Prop} (h:PostT X σ m H r Q) (e:Ext X.K m H m1 H1):PostT X σ m1 H1 r Q:=h.imp e fun _ _ k m' H' e' => k m' H' (e.trans e')
theorem PostA.shift {X:Cx} {σ:St} {m m1:Mp} {H H1:Hp} {r:Re (List Wv)} {Q:List V → Hp → Prop} (h:PostA X σ m H r Q) (e:Ext X.K m H m1 H1):PostA X σ m1 H1 r Q:=h.imp e fun _ _ k v m' H' e' => k v m' H' (e.trans e')
abbrev PostO (K:PySem.W.Frag) (m:Mp) (H:Hp) (r:Re Wv) (Q:VK):Prop:=PostN r (okE K m H Q)
theorem PostO.shift {K:PySem.W.Frag} {m m1:Mp} {H H1:Hp} {r:Re Wv} {Q:VK} (h:PostO K m H r Q) (e:Ext K m H m1 H1):PostO K m1 H1 r Q:=PostN.imp h fun _ _ k v m' H' e' => k v m' H' (e.trans e')
def PostS (X:Cx) (m:Mp) (H:Hp) (r:Rs) (D:Ends):Prop:=match r with
 | .nx ρ st => ∀ (σ:St) (m':Mp) (H':Hp),Ext X.K m H m' H' → Sim X.K m' st H' → RelEnv X.K m' H' ρ σ → D.nx σ H'
 | .rt w st => ∀ (v:V) (m':Mp) (H':Hp),Ext X.K m H m' H' → Sim X.K m' st H' → RelW X.K m' H' w v → D.rt v H'
 | .bk ρ st => ∀ (σ:St) (m':Mp) (H':Hp),Ext X.K m H m' H' → Sim X.K m' st H' → RelEnv X.K m' H' ρ σ → D.bk σ H'
 | .ct ρ st => ∀ (σ:St) (m':Mp) (H':Hp),Ext X.K m H m' H' → Sim X.K m' st H' → RelEnv X.K m' H' ρ σ → D.ct σ H'
 | .err c ρ st => ∀ (σ:St) (m':Mp) (H':Hp) (e:Value) (s':Shared),Ext X.K m H m' H' → Sim X.K m' st H' → RelEnv X.K m' H' ρ σ → Raised X σ H' c e s' → X.xe e s'
 | .bad => False
theorem PostS.shift {X:Cx} {m m1:Mp} {H H1:Hp} {r:Rs} {D:Ends} (h:PostS X m H r D) (e:Ext X.K m H m1 H1):PostS X m1 H1 r D:=by
 cases r with
 | nx ρ st => exact fun σ m' H' e' => h σ m' H' (e.trans e')
 | rt w st => exact fun v m' H' e' => h v m' H' (e.trans e')
 | bk ρ st => exact fun σ m' H' e' => h σ m' H' (e.trans e')
 | ct ρ st => exact fun σ m' H' e' => h σ m' H' (e.trans e')
 | err c ρ st => exact fun σ m' H' x s' e' => h σ m' H' x s' (e.trans e')
 | bad => exact h
theorem PostS.of_thn {α:Type} {X:Cx} {m:Mp} {H:Hp} {ρ:Rho} {σ:St} {r:Re α} {f:α → Hs → Rs} {D:Ends} (R:RelEnv X.K m H ρ σ) (h:PostS X m H (r.thn ρ f) D):PostG X σ m H r (fun a st => PostS X m H (f a st) D):=by
 cases r with
 | ok a st => exact h
 | err c st => exact fun m' H' x s' e' S r => h σ m' H' x s' e' S (R.mono e') r
 | bad => exact h
def SE (X:Cx) (e:Expr):TE:=fun σ H Q => ∀ (pins:List (Addr × Obj)) (s:Shared),Inv X pins σ H s → wpAny (model X.prog X.w) X.A (eval e X.env) (EP X pins σ Q) X.xe s
def ST (X:Cx) (e:Expr):TT:=fun σ H Q => ∀ (pins:List (Addr × Obj)) (s:Shared),Inv X pins σ H s → wpAny (model X.prog X.w) X.A (isTrue e X.env (eval e X.env)) (TP X pins σ Q) X.xe s
def SA (X:Cx) (es:List Expr):TA:=fun σ H Q => ∀ (pos:Pos) (pins:List (Addr × Obj)) (s:Shared),Inv X pins σ H s → wpAny (model X.prog X.w) X.A (spliced (backTo pos (starEach es X.env))) (AP X pins σ Q) X.xe s
def SS (X:Cx) (st:Stmt):TS:=fun D σ H => ∀ (pins:List (Addr × Obj)) (s:Shared),Inv X pins σ H s → wpAny (model X.prog X.w) X.A (exec st X.env) (SP X pins D) X.xe s
def SSs (X:Cx) (st:List Stmt):TS:=fun D σ H => ∀ (pins:List (Addr × Obj)) (s:Shared),Inv X pins σ H s → wpAny (model X.prog X.w) X.A (execs st X.env) (SP X pins D) X.xe s
section
variable {X:Cx}
theorem pe_SE {e:Expr}:PE X e (SE X e):=fun pins s _ _ _ I h => h pins s I
theorem pt_ST {e:Expr}:PT X e (ST X e):=fun pins s _ _ _ I h => h pins s I
theorem pa_SA {es:List Expr}:PA X es (SA X es):=fun pos pins s _ _ _ I h => h pos pins s I
theorem ps_SS {st:Stmt}:PS X st (SS X st):=fun pins s _ _ _ I h => h pins s I
theorem pss_SSs {st:List Stmt}:PSs X st (SSs X st):=fun pins s _ _ _ I h => h pins s I
end
def JE (X:Cx) (e:Expr) (g:GE):Prop:=∀ (ρ:Rho) (st:Hs) (σ:St) (H:Hp) (m:Mp) (Q:VK),Sim X.K m st H → RelEnv X.K m H ρ σ → PostE X σ m H (g ρ st) Q → SE X e σ H Q
def JT (X:Cx) (e:Expr) (g:GT):Prop:=∀ (ρ:Rho) (st:Hs) (σ:St) (H:Hp) (m:Mp) (Q:Bool → Hp → Prop),Sim X.K m st H → RelEnv X.K m H ρ σ → PostT X σ m H (g ρ st) Q → ST X e σ H Q
def JA (X:Cx) (es:List Expr) (g:GA):Prop:=∀ (ρ:Rho) (st:Hs) (σ:St) (H:Hp) (m:Mp) (Q:List V → Hp → Prop),Sim X.K m st H → RelEnv X.K m H ρ σ → PostA X σ m H (g ρ st) Q → SA X es σ H Q
def JS (X:Cx) (s:Stmt) (g:GS):Prop:=∀ (ρ:Rho) (st:Hs) (σ:St) (H:Hp) (m:Mp) (D:Ends),Sim X.K m st H → RelEnv X.K m H ρ σ → PostS X m H (g ρ st) D → SS X s D σ H
def JSs (X:Cx) (s:List Stmt) (g:GS):Prop:=∀ (ρ:Rho) (st:Hs) (σ:St) (H:Hp) (m:Mp) (D:Ends),Sim X.K m st H → RelEnv X.K m H ρ σ → PostS X m H (g ρ st) D → SSs X s D σ H
section
variable {X:Cx}
theorem JE.of {e:Expr} {g:GE} {t:TE} (h:PE X e t) (k:∀ (ρ:Rho) (st:Hs) (σ:St) (H:Hp) (m:Mp) (Q:VK),Sim X.K m st H → RelEnv X.K m H ρ σ → PostE X σ m H (g ρ st) Q → t σ H Q):JE X e g :=
 fun ρ st σ H m Q S R p pins s I => h pins s σ H Q I (k ρ st σ H m Q S R p)
theorem JT.of {e:Expr} {g:GT} {t:TT} (h:PT X e t) (k:∀ (ρ:Rho) (st:Hs) (σ:St) (H:Hp) (m:Mp) (Q:Bool → Hp → Prop),Sim X.K m st H → RelEnv X.K m H ρ σ → PostT X σ m H (g ρ st) Q → t σ H Q):JT X e g :=
 fun ρ st σ H m Q S R p pins s I => h pins s σ H Q I (k ρ st σ H m Q S R p)
theorem JA.of {es:List Expr} {g:GA} {t:TA} (h:PA X es t) (k:∀ (ρ:Rho) (st:Hs) (σ:St) (H:Hp) (m:Mp) (Q:List V → Hp → Prop),Sim X.K m st H → RelEnv X.K m H ρ σ → PostA X σ m H (g ρ st) Q → t σ H Q):JA X es g :=
 fun ρ st σ H m Q S R p pos pins s I => h pos pins s σ H Q I (k ρ st σ H m Q S R p)
theorem JS.of {e:Stmt} {g:GS} {t:TS} (h:PS X e t) (k:∀ (ρ:Rho) (st:Hs) (σ:St) (H:Hp) (m:Mp) (D:Ends),Sim X.K m st H → RelEnv X.K m H ρ σ → PostS X m H (g ρ st) D → t D σ H):JS X e g :=
 fun ρ st σ H m D S R p pins s I => h pins s σ H D I (k ρ st σ H m D S R p)
theorem JSs.of {e:List Stmt} {g:GS} {t:TS} (h:PSs X e t) (k:∀ (ρ:Rho) (st:Hs) (σ:St) (H:Hp) (m:Mp) (D:Ends),Sim X.K m st H → RelEnv X.K m H ρ σ → PostS X m H (g ρ st) D → t D σ H):JSs X e g :=
 fun ρ st σ H m D S R p pins s I => h pins s σ H D I (k ρ st σ H m D S R p)
theorem JE.go {e:Expr} {g:GE} {ρ:Rho} {st:Hs} {σ:St} {H:Hp} {m:Mp} {T:VK} {ok:Wv → Hs → Prop} (h:JE X e g) (S:Sim X.K m st H) (R:RelEnv X.K m H ρ σ) (p:PostG X σ m H (g ρ st) ok)
  (k:∀ (w:Wv) (st1:Hs) (v:V) (m1:Mp) (H1:Hp),ok w st1 → Ext X.K m H m1 H1 → Sim X.K m1 st1 H1 → RelW X.K m1 H1 w v → T v H1):SE X e σ H T :=
 h ρ st σ H m T S R (p.imp Ext.refl fun w st1 q v m1 H1 e1 s1 r1 => k w st1 v m1 H1 q e1 s1 r1)
theorem JT.go {e:Expr} {g:GT} {ρ:Rho} {st:Hs} {σ:St} {H:Hp} {m:Mp} {T:Bool → Hp → Prop} {ok:Bool → Hs → Prop} (h:JT X e g) (S:Sim X.K m st H) (R:RelEnv X.K m H ρ σ) (p:PostG X σ m H (g ρ st) ok)
  (k:∀ (b:Bool) (st1:Hs) (m1:Mp) (H1:Hp),ok b st1 → Ext X.K m H m1 H1 → Sim X.K m1 st1 H1 → T b H1):ST X e σ H T :=
 h ρ st σ H m T S R (p.imp Ext.refl fun b st1 q m1 H1 e1 s1 => k b st1 m1 H1 q e1 s1)
theorem JA.go {es:List Expr} {g:GA} {ρ:Rho} {st:Hs} {σ:St} {H:Hp} {m:Mp} {T:List V → Hp → Prop} {ok:List Wv → Hs → Prop} (h:JA X es g) (S:Sim X.K m st H) (R:RelEnv X.K m H ρ σ) (p:PostG X σ m H (g ρ st) ok)
  (k:∀ (ws:List Wv) (st1:Hs) (vs:List V) (m1:Mp) (H1:Hp),ok ws st1 → Ext X.K m H m1 H1 → Sim X.K m1 st1 H1 → RelWs X.K m1 H1 ws vs → T vs H1):SA X es σ H T :=
 h ρ st σ H m T S R (p.imp Ext.refl fun w st1 q v m1 H1 e1 s1 r1 => k w st1 v m1 H1 q e1 s1 r1)
end
end J
namespace J
open PySem PySem.Spec PyProof.Rows L2
def lim:Nat:=1000000
theorem lim_le {n:Nat} (h:n ≤ lim):n ≤ sizeLine:=Nat.le_trans h (by unfold lim; rw [sizeLine_eq]; decide)
theorem lim_lt {n:Nat} (h:n < lim):n < sizeLine:=Nat.lt_of_lt_of_le h (by unfold lim; rw [sizeLine_eq]; decide)
def gVar (i:Nat):GE:=fun ρ st => match ρ[i]? with
 | some (some w) => .ok w st
 | _ => .bad
def gC (w:Wv):GE:=fun _ st => .ok w st
section
variable {X:Cx}
theorem je_var (i:Nat) {x:Str} {pos:Pos} (hN:X.N[i]? = some x:=by rfl) (hv:Vis X.env.scope x:=by first | exact Or.inl rfl | exact Or.inr (Or.inl rfl) | exact Or.inr (Or.inr rfl)) (hd:(x == ("__debug__":Str)) = false:=by decide)
  (hcd:(x == ("__classdict__":Str)) = false:=by decide):JE X (.Name x pos) (gVar i):=JE.of (pe_var hN hv hd hcd) fun ρ st σ H m Q S R p => by
 unfold gVar at p
 cases e:ρ[i]? with
 | none => rw [e] at p; exact False.elim p
 | some o =>
  cases o with
  | none => rw [e] at p; exact False.elim p
  | some w =>
   rw [e] at p
   obtain ⟨v,h1,h2⟩:=R.get i w e
   exact ⟨v,h1,p v m H Ext.refl S h2⟩
theorem je_int {i:Int} {j pos}:JE X (.Constant (.int i) j pos) (gC (.int i)):=JE.of pe_int fun ρ st σ H m Q S R p => p (.int i) m H Ext.refl S (by unfold RelW; rfl)
theorem je_bl {b:Bool} {j pos}:JE X (.Constant (.bool b) j pos) (gC (.bl b)):=JE.of pe_bl fun ρ st σ H m Q S R p => p (.bl b) m H Ext.refl S (by unfold RelW; rfl)
theorem je_non {j pos}:JE X (.Constant .none j pos) (gC .non):=JE.of pe_non fun ρ st σ H m Q S R p => p .non m H Ext.refl S (by unfold RelW; rfl)
theorem je_str {x:PySem.Str} {j pos} (hx:PyData.strOk x = true:=by decide +kernel):JE X (.Constant (.str x) j pos) (gC (.str x)):=JE.of pe_str fun ρ st σ H m Q S R p => p (.str x) m H Ext.refl S (by unfold RelW; exact ⟨rfl,hx⟩)
theorem je_globI {x:Str} {i:Int} {t:Tok} {pos:Pos} (hg:Gl X x) (hm:X.mg x = some (.int i t)) (hd:(x == ("__debug__":Str)) = false:=by decide):JE X (.Name x pos) (gC (.int i)) :=
 JE.of (pe_glob (v:=.int i) hg hm ⟨t,rfl⟩ hd) fun ρ st σ H m Q S R p => p (.int i) m H Ext.refl S (by unfold RelW; rfl)
theorem je_globS {x y:Str} {t:Tok} {pos:Pos} (hg:Gl X x) (hm:X.mg x = some (.str y t)) (hy:PyData.strOk y = true:=by decide +kernel) (hd:(x == ("__debug__":Str)) = false:=by decide):JE X (.Name x pos) (gC (.str y)) :=
 JE.of (pe_glob (v:=.str y) hg hm ⟨t,rfl⟩ hd) fun ρ st σ H m Q S R p => p (.str y) m H Ext.refl S (by unfold RelW; exact ⟨rfl,hy⟩)
theorem je_ty {x:Str} {T:String} {pos:Pos} (hg:Gl X x) (hm:X.mg x = none) (hv:bootBuiltins x = some (.type T)) (hn:x ≠ "__name__":=by decide) (hd:(x == ("__debug__":Str)) = false:=by decide):JE X (.Name x pos) (gC (.ty T)) :=
 JE.of (pe_bltn (v:=.ty T) hg hm hv rfl hn hd) fun ρ st σ H m Q S R p => p (.ty T) m H Ext.refl S (by unfold RelW; rfl)
abbrev Op2:=Wv → Wv → Hs → Re Wv
def gBin (op:Op2) (ga gb:GE):GE:=fun ρ st => (ga ρ st).bind fun x st1 => (gb ρ st1).bind fun y st2 => (op x y st2).nox
def ReadW (X:Cx) (op:Op2) (r:R2):Prop:=∀ (x y:Wv) (a b:V) (st:Hs) (H:Hp) (m:Mp) (Q:VK),Sim X.K m st H → RelW X.K m H x a → RelW X.K m H y b → PostO X.K m H (op x y st) Q → r a b H Q
def OpW (X:Cx) (f:Value → Value → Sem Value) (op:Op2):Prop:=∃ r,OpR X f r ∧ ReadW X op r
theorem read2 {a b:Expr} {ga gb:GE} {op:Op2} {r:R2} (h2:ReadW X op r) (ha:JE X a ga) (hb:JE X b gb) {ρ:Rho} {st:Hs} {σ:St} {H:Hp} {m:Mp} {Q:VK} (S:Sim X.K m st H) (R:RelEnv X.K m H ρ σ) (p:PostE X σ m H (gBin op ga gb ρ st) Q) :
  tOp r (SE X a) (SE X b) σ H Q:=by
 refine ha.go S R (PostG.bind p) fun x st1 v m1 H1 p1 e1 S1 rx => ?_
 refine hb.go S1 (R.mono e1) ((PostG.bind p1).imp e1 fun _ _ q => q) fun y st2 u m2 H2 p2 e2 S2 ry => ?_
 exact h2 x y v u st2 H2 m2 Q S2 (RelW.mono e2 _ _ rx) ry (PostO.shift (PostG.nox p2) (e1.trans e2))
theorem je_bin {a b:Expr} {ga gb:GE} {o:Operator} {op:Op2} {pos:Pos} (ho:OpW X (binaryOp o) op) (ha:JE X a ga) (hb:JE X b gb):JE X (.BinOp a o b pos) (gBin op ga gb):=by
 obtain ⟨r,h1,h2⟩:=ho
 exact JE.of (pe_op h1 pe_SE pe_SE) fun ρ st σ H m Q S R p => read2 h2 ha hb S R p
theorem je_cmp {a b:Expr} {ga gb:GE} {o:CmpOp} {op:Op2} {pos:Pos} (ho:OpW X (compareOp o) op) (ha:JE X a ga) (hb:JE X b gb) (hm:behindInMarks o b = false):JE X (.Compare a [o] [b] pos) (gBin op ga gb):=by
 obtain ⟨r,h1,h2⟩:=ho
 exact JE.of (pe_cmpR h1 pe_SE pe_SE hm) fun ρ st σ H m Q S R p => read2 h2 ha hb S R p
def tst (w:Wv) (st:Hs):Re Bool:=match w with
 | .bl b => .ok b st
 | _ => .bad
def gTst (g:GE):GT:=fun ρ st => (g ρ st).bind tst
theorem post_tst {σ:St} {m:Mp} {H:Hp} {r:Re Wv} {Q:Bool → Hp → Prop} (p:PostT X σ m H (r.bind tst) Q):PostE X σ m H r (fun x H' => ∃ k,x = .bl k ∧ Q k H'):=by
 cases r with
 | ok w st =>
  cases w with
  | bl b =>
   intro v m' H' e S rw'
   unfold RelW at rw'
   exact ⟨b,rw',p m' H' e S⟩
  | _ => exact False.elim p
 | err c st => exact p
 | bad => exact p
theorem jt_cmp {a b:Expr} {ga gb:GE} {o:CmpOp} {op:Op2} {pos:Pos} (ho:OpW X (compareOp o) op) (ha:JE X a ga) (hb:JE X b gb) (hm:behindInMarks o b = false):JT X (.Compare a [o] [b] pos) (gTst (gBin op ga gb)):=by
 obtain ⟨r,h1,h2⟩:=ho
 exact JT.of (pt_cmpR h1 pe_SE pe_SE hm) fun ρ st σ H m Q S R p => read2 h2 ha hb S R (post_tst p)
def gChain (op op':Op2) (ga gb gc:GE):GE:=fun ρ st => (ga ρ st).bind fun x st1 => (gb ρ st1).bind fun y st2 => (op x y st2).nox.bind fun z st3 => match z with
 | .bl true => (gc ρ st3).bind fun u st4 => (op' y u st4).nox
 | .bl false => .ok (.bl false) st3
 | _ => .bad
theorem readC {a b c:Expr} {ga gb gc:GE} {op op':Op2} {r r':R2} (h2:ReadW X op r) (h2':ReadW X op' r') (ha:JE X a ga) (hb:JE X b gb) (hc:JE X c gc) {ρ:Rho} {st:Hs} {σ:St} {H:Hp} {m:Mp} {Q:VK}
  (S:Sim X.K m st H) (R:RelEnv X.K m H ρ σ) (p:PostE X σ m H (gChain op op' ga gb gc ρ st) Q):tChain r r' (SE X a) (SE X b) (SE X c) σ H Q:=by
 refine ha.go S R (PostG.bind p) fun x st1 v m1 H1 p1 e1 S1 rx => ?_
 refine hb.go S1 (R.mono e1) ((PostG.bind p1).imp e1 fun _ _ q => q) fun y st2 u m2 H2 p2 e2 S2 ry => ?_
 refine h2 x y v u st2 H2 m2 _ S2 (RelW.mono e2 _ _ rx) ry (PostN.imp (PostG.nox (PostG.bind p2)) fun z st3 p3 => ?_)
 intro z' m3 H3 e3 S3 rz
 cases z with
 | bl k =>
  unfold RelW at rz
  refine ⟨k,rz,?_⟩
  cases k with
  | true =>
   rw [if_pos rfl]
   refine hc.go S3 (R.mono (e1.trans (e2.trans e3))) ((PostG.bind p3).imp (e1.trans (e2.trans e3)) fun _ _ q => q) fun q st4 u' m4 H4 p4 e4 S4 rq => ?_
   exact h2' y q u u' st4 H4 m4 Q S4 (RelW.mono (e3.trans e4) _ _ ry) rq (PostO.shift (PostG.nox p4) (e1.trans (e2.trans (e3.trans e4))))
  | false =>
   rw [if_neg Bool.false_ne_true]
   exact p3 (.bl false) m3 H3 (e1.trans (e2.trans e3)) S3 (by unfold RelW; rfl)
 | _ => exact False.elim p3
theorem je_chain {a b c:Expr} {ga gb gc:GE} {o o':CmpOp} {op op':Op2} {pos:Pos} (ho:OpW X (compareOp o) op) (ho':OpW X (compareOp o') op') (ha:JE X a ga) (hb:JE X b gb) (hc:JE X c gc)
  (hm:lastMarks [o,o'] [b,c] = false:=by with_unfolding_all rfl):JE X (.Compare a [o,o'] [b,c] pos) (gChain op op' ga gb gc):=by
 obtain ⟨r,h1,h2⟩:=ho
 obtain ⟨r',h1',h2'⟩:=ho'
 exact JE.of (pe_chain h1 h1' pe_SE pe_SE pe_SE hm) fun ρ st σ H m Q S R p => readC h2 h2' ha hb hc S R p
theorem jt_chain {a b c:Expr} {ga gb gc:GE} {o o':CmpOp} {op op':Op2} {pos:Pos} (ho:OpW X (compareOp o) op) (ho':OpW X (compareOp o') op') (ha:JE X a ga) (hb:JE X b gb) (hc:JE X c gc)
  (hm:lastMarks [o,o'] [b,c] = false:=by with_unfolding_all rfl):JT X (.Compare a [o,o'] [b,c] pos) (gTst (gChain op op' ga gb gc)):=by
 obtain ⟨r,h1,h2⟩:=ho
 obtain ⟨r',h1',h2'⟩:=ho'
 exact JT.of (pt_chain h1 h1' pe_SE pe_SE pe_SE hm) fun ρ st σ H m Q S R p => readC h2 h2' ha hb hc S R (post_tst p)
def gUn (op:Wv → Hs → Re Wv) (ga:GE):GE:=fun ρ st => (ga ρ st).bind op
def opNeg:Wv → Hs → Re Wv
 | .int i,st => .ok (.int (-i)) st
 | _,_ => .bad
theorem je_neg {a:Expr} {ga:GE} {pos:Pos} (ha:JE X a ga):JE X (.UnaryOp .USub a pos) (gUn opNeg ga):=by
 refine JE.of (pe_un un_neg pe_SE) fun ρ st σ H m Q S R p => ?_
 refine ha.go S R (PostG.bind p) fun x st1 v m1 H1 p1 e1 S1 rx => ?_
 cases x with
 | int i =>
  unfold RelW at rx
  exact ⟨i,rx,p1 _ m1 H1 e1 S1 (by unfold RelW; rfl)⟩
 | _ => exact False.elim p1
def SW (X:Cx) (e:Expr):TT:=fun σ H Q => ∀ (wh:Sem Value) (pins:List (Addr × Obj)) (s:Shared),Inv X pins σ H s → wpAny (model X.prog X.w) X.A (isTrue e X.env wh) (TP X pins σ Q) X.xe s
theorem pw_SW {e:Expr}:PW X e (SW X e):=fun wh pins s _ _ _ I h => h wh pins s I
def JW (X:Cx) (e:Expr) (g:GT):Prop:=∀ (ρ:Rho) (st:Hs) (σ:St) (H:Hp) (m:Mp) (Q:Bool → Hp → Prop),Sim X.K m st H → RelEnv X.K m H ρ σ → PostT X σ m H (g ρ st) Q → SW X e σ H Q
theorem JW.of {e:Expr} {g:GT} {t:TT} (h:PW X e t) (k:∀ (ρ:Rho) (st:Hs) (σ:St) (H:Hp) (m:Mp) (Q:Bool → Hp → Prop),Sim X.K m st H → RelEnv X.K m H ρ σ → PostT X σ m H (g ρ st) Q → t σ H Q):JW X e g :=
 fun ρ st σ H m Q S R p wh pins s I => h wh pins s σ H Q I (k ρ st σ H m Q S R p)
theorem JW.jt {e:Expr} {g:GT} (h:JW X e g):JT X e g:=fun ρ st σ H m Q S R p pins s I => h ρ st σ H m Q S R p _ pins s I
def gAnd (ga gb:GT):GT:=fun ρ st => (ga ρ st).bind fun b st1 => if b = true then gb ρ st1 else .ok false st1
def gOr (ga gb:GT):GT:=fun ρ st => (ga ρ st).bind fun b st1 => if b = true then .ok true st1 else gb ρ st1
def gNot (ga:GT):GT:=fun ρ st => (ga ρ st).bind fun b st1 => .ok (!b) st1
theorem jw_and1 {a:Expr} {ga:GT} {pos:Pos} (ha:JT X a ga):JW X (.BoolOp .And [a] pos) ga:=JW.of (pw_and1 pt_ST) fun ρ st σ H m Q S R p => ha ρ st σ H m Q S R p
theorem jw_or1 {a:Expr} {ga:GT} {pos:Pos} (ha:JT X a ga):JW X (.BoolOp .Or [a] pos) ga:=JW.of (pw_or1 pt_ST) fun ρ st σ H m Q S R p => ha ρ st σ H m Q S R p
theorem jw_and {a b:Expr} {rest:List Expr} {ga gb:GT} {pos:Pos} (ha:JT X a ga) (hb:JW X (.BoolOp .And (b :: rest) pos) gb):JW X (.BoolOp .And (a :: b :: rest) pos) (gAnd ga gb):=by
 refine JW.of (pw_and pt_ST pw_SW) fun ρ st σ H m Q S R p => ?_
 refine ha.go S R (PostG.bind p) fun c st1 m1 H1 p1 e1 S1 => ?_
 cases c with
 | true => rw [if_pos rfl] at p1 ⊢; exact hb ρ st1 σ H1 m1 Q S1 (R.mono e1) (PostT.shift p1 e1)
 | false => rw [if_neg Bool.false_ne_true] at p1 ⊢; exact p1 m1 H1 e1 S1
theorem jw_or {a b:Expr} {rest:List Expr} {ga gb:GT} {pos:Pos} (ha:JT X a ga) (hb:JW X (.BoolOp .Or (b :: rest) pos) gb):JW X (.BoolOp .Or (a :: b :: rest) pos) (gOr ga gb):=by
 refine JW.of (pw_or pt_ST pw_SW) fun ρ st σ H m Q S R p => ?_
 refine ha.go S R (PostG.bind p) fun c st1 m1 H1 p1 e1 S1 => ?_
 cases c with
 | true => rw [if_pos rfl] at p1 ⊢; exact p1 m1 H1 e1 S1
 | false => rw [if_neg Bool.false_ne_true] at p1 ⊢; exact hb ρ st1 σ H1 m1 Q S1 (R.mono e1) (PostT.shift p1 e1)
theorem jt_not {a:Expr} {ga:GT} {pos:Pos} (ha:JT X a ga):JT X (.UnaryOp .Not a pos) (gNot ga):=by
 refine JT.of (pt_not pt_ST) fun ρ st σ H m Q S R p => ?_
 exact ha.go S R (PostG.bind p) fun c st1 m1 H1 p1 e1 S1 => p1 m1 H1 e1 S1
def gAndV (ga gb:GE):GE:=fun ρ st => (ga ρ st).bind fun w st1 => match w with
 | .bl true => gb ρ st1
 | .bl false => .ok (.bl false) st1
 | _ => .bad
def gOrV (ga gb:GE):GE:=fun ρ st => (ga ρ st).bind fun w st1 => match w with
 | .bl true => .ok (.bl true) st1
 | .bl false => gb ρ st1
 | _ => .bad
def gNotV (ga:GE):GE:=fun ρ st => (ga ρ st).bind fun w st1 => match w with
 | .bl b => .ok (.bl (!b)) st1
 | _ => .bad
theorem je_one {op} {a:Expr} {ga:GE} {pos:Pos} (ha:JE X a ga):JE X (.BoolOp op [a] pos) ga:=JE.of (pe_one pe_SE) fun ρ st σ H m Q S R p => ha ρ st σ H m Q S R p
theorem je_and {a b:Expr} {rest:List Expr} {ga gb:GE} {pos:Pos} (ha:JE X a ga) (hb:JE X (.BoolOp .And (b :: rest) pos) gb):JE X (.BoolOp .And (a :: b :: rest) pos) (gAndV ga gb):=by
 refine JE.of (pe_and pe_SE pe_SE) fun ρ st σ H m Q S R p => ?_
 refine ha.go S R (PostG.bind p) fun x st1 v m1 H1 p1 e1 S1 rx => ?_
 cases x with
 | bl c =>
  unfold RelW at rx
  refine ⟨c,rx,?_⟩
  cases c with
  | true => rw [if_pos rfl]; exact hb ρ st1 σ H1 m1 Q S1 (R.mono e1) (PostE.shift p1 e1)
  | false => rw [if_neg Bool.false_ne_true]; exact p1 _ m1 H1 e1 S1 (by unfold RelW; rfl)
 | _ => exact False.elim p1
theorem je_or {a b:Expr} {rest:List Expr} {ga gb:GE} {pos:Pos} (ha:JE X a ga) (hb:JE X (.BoolOp .Or (b :: rest) pos) gb):JE X (.BoolOp .Or (a :: b :: rest) pos) (gOrV ga gb):=by
 refine JE.of (pe_or pe_SE pe_SE) fun ρ st σ H m Q S R p => ?_
 refine ha.go S R (PostG.bind p) fun x st1 v m1 H1 p1 e1 S1 rx => ?_
 cases x with
 | bl c =>
  unfold RelW at rx
  refine ⟨c,rx,?_⟩
  cases c with
  | true => rw [if_pos rfl]; exact p1 _ m1 H1 e1 S1 (by unfold RelW; rfl)
  | false => rw [if_neg Bool.false_ne_true]; exact hb ρ st1 σ H1 m1 Q S1 (R.mono e1) (PostE.shift p1 e1)
 | _ => exact False.elim p1
theorem je_not {a:Expr} {ga:GE} {pos:Pos} (ha:JE X a ga):JE X (.UnaryOp .Not a pos) (gNotV ga):=by
 refine JE.of (pe_not pe_SE) fun ρ st σ H m Q S R p => ?_
 refine ha.go S R (PostG.bind p) fun x st1 v m1 H1 p1 e1 S1 rx => ?_
 cases x with
 | bl c =>
  unfold RelW at rx
  exact ⟨c,rx,p1 _ m1 H1 e1 S1 (by unfold RelW; rfl)⟩
 | _ => exact False.elim p1
def gIfE (gt:GT) (ga gb:GE):GE:=fun ρ st => (gt ρ st).bind fun b st1 => if b = true then ga ρ st1 else gb ρ st1
theorem je_if {c a b:Expr} {gt:GT} {ga gb:GE} {pos:Pos} (hc:JT X c gt) (ha:JE X a ga) (hb:JE X b gb):JE X (.IfExp c a b pos) (gIfE gt ga gb):=by
 refine JE.of (pe_ifExp pt_ST pe_SE pe_SE) fun ρ st σ H m Q S R p => ?_
 refine hc.go S R (PostG.bind p) fun k st1 m1 H1 p1 e1 S1 => ?_
 cases k with
 | true => rw [if_pos rfl] at p1 ⊢; exact ha ρ st1 σ H1 m1 Q S1 (R.mono e1) (PostE.shift p1 e1)
 | false => rw [if_neg Bool.false_ne_true] at p1 ⊢; exact hb ρ st1 σ H1 m1 Q S1 (R.mono e1) (PostE.shift p1 e1)
def gNil:GA:=fun _ st => .ok [] st
def gCons (ga:GE) (gr:GA):GA:=fun ρ st => (ga ρ st).bind fun x st1 => (gr ρ st1).bind fun xs st2 => .ok (x :: xs) st2
theorem ja_nil:JA X [] gNil:=JA.of pa_nil fun ρ st σ H m Q S R p => p [] m H Ext.refl S RelWs.nil
theorem ja_cons {e:Expr} {es:List Expr} {ga:GE} {gr:GA} (ha:JE X e ga) (hr:JA X es gr) (hs:starEach (e :: es) X.env = (false,eval e X.env) :: starEach es X.env:=by rfl):JA X (e :: es) (gCons ga gr):=by
 refine JA.of (pa_cons pe_SE pa_SA hs) fun ρ st σ H m Q S R p => ?_
 refine ha.go S R (PostG.bind p) fun x st1 v m1 H1 p1 e1 S1 rx => ?_
 refine hr.go S1 (R.mono e1) ((PostG.bind p1).imp e1 fun _ _ q => q) fun xs st2 vs m2 H2 p2 e2 S2 rs => ?_
 exact p2 (v :: vs) m2 H2 (e1.trans e2) S2 (RelWs.cons (RelW.mono e2 _ _ rx) rs)
def gTup (g:GA):GE:=fun ρ st => (g ρ st).bind fun ws st1 => if ws.length ≤ lim then .ok (.tup ws) st1 else .bad
def gLst (g:GA):GE:=fun ρ st => (g ρ st).bind fun ws st1 => if ws.length ≤ lim then .ok (.ref st1.length) (st1 ++ [.lst ws]) else .bad
theorem je_tup {es:List Expr} {g:GA} {x1 pos} (h:JA X es g):JE X (.Tuple es x1 pos) (gTup g):=by
 refine JE.of (pe_tup pa_SA) fun ρ st σ H m Q S R p => ?_
 refine h.go S R (PostG.bind p) fun ws st1 vs m1 H1 p1 e1 S1 rs => ?_
 by_cases hl:ws.length ≤ lim
 ·rw [if_pos hl] at p1
  refine ⟨by rw [← rs.length]; exact lim_le hl,fun q hq => ?_⟩
  have e2:Ext X.K m1 H1 m1 (upd H1 q (.tup vs)):=Ext.upd (.inl hq)
  exact p1 (.ref q) m1 _ (e1.trans e2) (S1.fresh hq) (by unfold RelW; exact ⟨q,vs,rfl,upd_same,RelWs.mono e2 _ _ rs⟩)
 ·rw [if_neg hl] at p1; exact False.elim p1
theorem Sim.newest {K:PySem.W.Frag} {m:Mp} {st:Hs} {H:Hp} (S:Sim K m st H) (q:Addr) (H':Hp):RelW K (m ++ [q]) H' (.ref st.length) (.ref q):=by
 unfold RelW
 refine ⟨q,rfl,?_⟩
 rw [← S.len,List.getElem?_append_right (Nat.le_refl _),Nat.sub_self]
 rfl
theorem new_list {m m1:Mp} {H H1:Hp} {st1:Hs} {ws:List Wv} {vs:List V} {Q:VK} (p1:okE X.K m H Q (.ref st1.length) (st1 ++ [.lst ws])) (e1:Ext X.K m H m1 H1) (S1:Sim X.K m1 st1 H1) (rs:RelWs X.K m1 H1 ws vs) (q:Addr) (hq:H1 q = none) :
  Q (.ref q) (upd H1 q (.lst vs)) :=
 p1 (.ref q) (m1 ++ [q]) _ (e1.trans (Ext.more.trans (Ext.upd (.inl hq)))) (S1.alloc hq rs) (S1.newest q _)
theorem je_lst {es:List Expr} {g:GA} {pos} (h:JA X es g):JE X (.List es pos) (gLst g):=by
 refine JE.of (pe_lst pa_SA) fun ρ st σ H m Q S R p => ?_
 refine h.go S R (PostG.bind p) fun ws st1 vs m1 H1 p1 e1 S1 rs => ?_
 by_cases hl:ws.length ≤ lim
 ·rw [if_pos hl] at p1
  exact ⟨by rw [← rs.length]; exact lim_le hl,fun q hq => new_list p1 e1 S1 rs q hq⟩
 ·rw [if_neg hl] at p1; exact False.elim p1
end
end J
namespace J
open PySem PySem.Spec PyProof.Rows L2
section
variable {X:Cx}
theorem OpR.or {f:Value → Value → Sem Value} {r r':R2} (h:OpR X f r) (h':OpR X f r'):OpR X f (fun x y H Q => r x y H Q ∨ r' x y H Q):=by
 intro pins s σ H x y v u Q I rx ry q
 rcases q with q | q
 ·exact h pins s σ H x y v u Q I rx ry q
 ·exact h' pins s σ H x y v u Q I rx ry q
theorem op_fdivG:OpR X (binaryOp .FloorDiv) (rI (fun _ j => j ≠ 0 ∧ j.natAbs.log2 < 9000) fun i j => .int (i.fdiv j)):=opI fun i j _ _ _ _ _ hc q => floordiv_int hc.1 q (.inl (PyProof.noPylong_of_log2 hc.2))
theorem op_modG:OpR X (binaryOp .Mod) (rI (fun _ j => j ≠ 0) fun i j => .int (i.fmod j)):=opI fun i j _ _ _ _ _ hc q => mod_int' hc q
theorem op_mulG:OpR X (binaryOp .Mult) (rI (fun i j => IntMulOk i j) fun i j => .int (i * j)):=opI fun _ _ _ _ _ _ _ hc q => mul_int q hc
instance mulDec {a b:Int}:Decidable (IntMulOk a b):=by unfold IntMulOk; infer_instance
def oSub:Op2
 | .int i,.int j,st => .ok (.int (i - j)) st
 | _,_,_ => .bad
def oFdiv:Op2
 | .int i,.int j,st => if j ≠ 0 ∧ j.natAbs.log2 < 9000 then .ok (.int (i.fdiv j)) st else .bad
 | _,_,_ => .bad
def oMod:Op2
 | .int i,.int j,st => if j ≠ 0 then .ok (.int (i.fmod j)) st else .bad
 | _,_,_ => .bad
def oPow:Op2
 | .int i,.int j,st => if 0 ≤ j ∧ j ≤ 1000000 ∧ i.natAbs < 2 ^ 64 then .ok (.int (i ^ j.toNat)) st else .bad
 | _,_,_ => .bad
def oLt0:Op2
 | .int i,.int j,st => .ok (.bl (decide (i < j))) st
 | .str i,.str j,st => .ok (.bl (decide (i.cps.toList < j.cps.toList))) st
 | _,_,_ => .bad
def oLe0:Op2
 | .int i,.int j,st => .ok (.bl (decide (i ≤ j))) st
 | _,_,_ => .bad
def oGt:Op2
 | .int i,.int j,st => .ok (.bl (decide (j < i))) st
 | _,_,_ => .bad
def oGe:Op2
 | .int i,.int j,st => .ok (.bl (decide (j ≤ i))) st
 | _,_,_ => .bad
theorem relInt {m:Mp} {H:Hp} {i:Int} {a:V} (h:RelW X.K m H (.int i) a):a = .int i:=by unfold RelW at h; exact h
theorem relBl {m:Mp} {H:Hp} {b:Bool} {a:V} (h:RelW X.K m H (.bl b) a):a = .bl b:=by unfold RelW at h; exact h
theorem relStr {m:Mp} {H:Hp} {x:PySem.Str} {a:V} (h:RelW X.K m H (.str x) a):a = .str x ∧ PyData.strOk x = true:=by unfold RelW at h; exact h
theorem mkInt {m:Mp} {H:Hp} {i:Int}:RelW X.K m H (.int i) (.int i):=by unfold RelW; rfl
theorem mkBl {m:Mp} {H:Hp} {i:Bool}:RelW X.K m H (.bl i) (.bl i):=by unfold RelW; rfl
theorem mkNon {m:Mp} {H:Hp}:RelW X.K m H .non .non:=by unfold RelW; rfl
theorem mkStr {m:Mp} {H:Hp} {x:PySem.Str} (h:PyData.strOk x = true):RelW X.K m H (.str x) (.str x):=by unfold RelW; exact ⟨rfl,h⟩
theorem ow_sub:OpW X (binaryOp .Sub) oSub:=⟨_,op_sub,fun x y a b st H m Q S rx ry p => by
 cases x with
 | int i =>
  cases y with
  | int j => exact ⟨i,j,relInt rx,relInt ry,p _ m H Ext.refl S mkInt⟩
  | _ => exact False.elim p
 | _ => cases y <;> exact False.elim p⟩
theorem ow_fdiv:OpW X (binaryOp .FloorDiv) oFdiv:=⟨_,op_fdivG,fun x y a b st H m Q S rx ry p => by
 cases x with
 | int i =>
  cases y with
  | int j =>
   dsimp only [oFdiv] at p
   by_cases c:j ≠ 0 ∧ j.natAbs.log2 < 9000
   ·rw [if_pos c] at p; exact ⟨i,j,relInt rx,relInt ry,c,p _ m H Ext.refl S mkInt⟩
   ·rw [if_neg c] at p; exact False.elim p
  | _ => exact False.elim p
 | _ => cases y <;> exact False.elim p⟩
theorem ow_mod:OpW X (binaryOp .Mod) oMod:=⟨_,op_modG,fun x y a b st H m Q S rx ry p => by
 cases x with
 | int i =>
  cases y with
  | int j =>
   dsimp only [oMod] at p
   by_cases c:j ≠ 0
   ·rw [if_pos c] at p; exact ⟨i,j,relInt rx,relInt ry,c,p _ m H Ext.refl S mkInt⟩
   ·rw [if_neg c] at p; exact False.elim p
  | _ => exact False.elim p
 | _ => cases y <;> exact False.elim p⟩
theorem ow_pow:OpW X (binaryOp .Pow) oPow:=⟨_,op_pow,fun x y a b st H m Q S rx ry p => by
 cases x with
 | int i =>
  cases y with
  | int j =>
   dsimp only [oPow] at p
   by_cases c:0 ≤ j ∧ j ≤ 1000000 ∧ i.natAbs < 2 ^ 64
   ·rw [if_pos c] at p; exact ⟨i,j,relInt rx,relInt ry,c,p _ m H Ext.refl S mkInt⟩
   ·rw [if_neg c] at p; exact False.elim p
  | _ => exact False.elim p
 | _ => cases y <;> exact False.elim p⟩
theorem ow_lt:OpW X (compareOp .Lt) oLt0:=⟨_,OpR.or op_lt op_lt_str,fun x y a b st H m Q S rx ry p => by
 cases x with
 | int i =>
  cases y with
  | int j => exact .inl ⟨i,j,relInt rx,relInt ry,p _ m H Ext.refl S mkBl⟩
  | _ => exact False.elim p
 | str i =>
  cases y with
  | str j => exact .inr ⟨i,j,(relStr rx).1,(relStr ry).1,p _ m H Ext.refl S mkBl⟩
  | _ => exact False.elim p
 | _ => cases y <;> exact False.elim p⟩
theorem ow_le:OpW X (compareOp .LtE) oLe0:=⟨_,op_le,fun x y a b st H m Q S rx ry p => by
 cases x with
 | int i =>
  cases y with
  | int j => exact ⟨i,j,relInt rx,relInt ry,p _ m H Ext.refl S mkBl⟩
  | _ => exact False.elim p
 | _ => cases y <;> exact False.elim p⟩
theorem ow_gt:OpW X (compareOp .Gt) oGt:=⟨_,op_gt,fun x y a b st H m Q S rx ry p => by
 cases x with
 | int i =>
  cases y with
  | int j => exact ⟨i,j,relInt rx,relInt ry,p _ m H Ext.refl S mkBl⟩
  | _ => exact False.elim p
 | _ => cases y <;> exact False.elim p⟩
theorem ow_ge:OpW X (compareOp .GtE) oGe:=⟨_,op_ge,fun x y a b st H m Q S rx ry p => by
 cases x with
 | int i =>
  cases y with
  | int j => exact ⟨i,j,relInt rx,relInt ry,p _ m H Ext.refl S mkBl⟩
  | _ => exact False.elim p
 | _ => cases y <;> exact False.elim p⟩
def oIs:Op2
 | x,.non,st => .ok (.bl (match x with | .non => true | _ => false)) st
 | _,_,_ => .bad
def oIsNot:Op2
 | x,.non,st => .ok (.bl (match x with | .non => false | _ => true)) st
 | _,_,_ => .bad
theorem isNon {m:Mp} {H:Hp} {x:Wv} {a:V} (h:RelW X.K m H x a):decide (a = V.non) = (match x with | .non => true | _ => false):=by
 cases x with
 | non => unfold RelW at h; subst h; rfl
 | bl b => unfold RelW at h; subst h; rfl
 | int b => unfold RelW at h; subst h; rfl
 | str b => unfold RelW at h; obtain ⟨h,_⟩:=h; subst h; rfl
 | tup b => unfold RelW at h; obtain ⟨q,xs,h,_⟩:=h; subst h; rfl
 | ktp b => unfold RelW at h; obtain ⟨q,xs,h,_⟩:=h; subst h; rfl
 | ref b => unfold RelW at h; obtain ⟨q,h,_⟩:=h; subst h; rfl
 | ty b => unfold RelW at h; subst h; rfl
 | cls b => unfold RelW at h; obtain ⟨q,h,_⟩:=h; subst h; rfl
 | exn b => unfold RelW at h; obtain ⟨q,C,h,_⟩:=h; subst h; rfl
 | fn fp b => unfold RelW at h; obtain ⟨h,_⟩:=h; subst h; rfl
theorem ow_is:OpW X (compareOp .Is) oIs:=⟨_,op_isN,fun x y a b st H m Q S rx ry p => by
 cases y with
 | non =>
  refine ⟨by unfold RelW at ry; exact ry,?_⟩
  rw [isNon rx]
  cases x <;> exact p _ m H Ext.refl S mkBl
 | _ => cases x <;> exact False.elim p⟩
theorem ow_isnot:OpW X (compareOp .IsNot) oIsNot:=⟨_,op_notN,fun x y a b st H m Q S rx ry p => by
 cases y with
 | non =>
  refine ⟨by unfold RelW at ry; exact ry,?_⟩
  rw [isNon rx]
  cases x <;> exact p _ m H Ext.refl S mkBl
 | _ => cases x <;> exact False.elim p⟩
theorem strOk_append {a b:PySem.Str} (ha:PyData.strOk a = true) (hb:PyData.strOk b = true):PyData.strOk (a ++ b) = true:=by
 unfold PyData.strOk at *
 show ((a.cps ++ b.cps).all _) = true
 rw [Array.all_append,ha,hb]
 rfl
def rCatL (K:PySem.W.Frag):R2:=fun x y H Q => ∃ l b xs zs,x = .ref l ∧ y = .ref b ∧ SqL K H l xs ∧ SqL K H b zs ∧ xs.length + zs.length ≤ sizeLine ∧ ∀ p,H p = none → Q (.ref p) (upd H p (.lst (xs ++ zs)))
theorem op_catL:OpR X (binaryOp .Add) (rCatL X.K):=by
 intro pins s σ H x y v u Q I rx ry h
 obtain ⟨l,b,xs,zs,rfl,rfl,hH,hB,hz,q⟩:=h
 cases rx
 cases ry
 obtain ⟨its,r,pl,hs⟩:=I.list hH
 obtain ⟨its2,r2,pl2,hs2⟩:=I.list hB
 have hl:=r.length
 have hl2:=r2.length
 obtain ⟨⟨cls,dd,data,sl⟩,ho,hc,n,hd⟩:=id pl.isList
 obtain ⟨⟨cls2,dd2,data2,sl2⟩,ho2,hc2,n2,hd2⟩:=id pl2.isList
 simp only at hc hd hc2 hd2
 subst hc hd hc2 hd2
 have e:its.toArray ++ its2.toArray = (its ++ its2).toArray:=by simp
 refine PySem.concat_meets ⟨_,ho,rfl⟩ ⟨_,ho2,rfl⟩ PySem.noFill_list_add PySem.seq_list_add PySem.F.slot_list_add PySem.F.entry_list_add (PySem.F.args_list_add_2 _ _) (list_addW l b its.toArray its2.toArray n n2 dd dd2 sl sl2 (by simp; omega)) ⟨ho,ho2,?_⟩
 rw [e]
 exact ⟨.ref _,_,I.lnew (t':=s.toks) (r.append r2) (by rw [List.length_append]; omega),rfl,q _ I.fresh⟩
def rCatE (K:PySem.W.Frag):R2:=fun x y H Q => ∃ a b ys,x = .ref a ∧ y = .ref b ∧ SqT K H a [] ∧ SqT K H b ys ∧ Q (.ref b) H
theorem op_catE:OpR X (binaryOp .Add) (rCatE X.K):=by
 intro pins s σ H x y v u Q I rx ry h
 obtain ⟨a,b,ys,rfl,rfl,ha,hb,q⟩:=h
 cases rx
 cases ry
 obtain ⟨its,r1,p1,_⟩:=I.tuple ha
 obtain ⟨its2,r2,p2,_⟩:=I.tuple hb
 cases r1
 obtain ⟨⟨c1,d1,t1,l1⟩,g1,k1,n1,j1⟩:=id p1
 obtain ⟨⟨c2,d2,t2,l2⟩,g2,k2,n2,j2⟩:=id p2
 simp only at k1 j1 k2 j2
 subst k1 j1 k2 j2
 exact PySem.concat_meets ⟨_,g1,rfl⟩ ⟨_,g2,rfl⟩ PySem.noFill_tuple_add PySem.seq_tuple_add PySem.F.slot_tuple_add PySem.F.entry_tuple_add (PySem.F.args_tuple_add_2 _ _) (tuple_addW0 a b #[] its2.toArray n1 n2 d1 d2 l1 l2 (by simp)) ⟨g1,g2,⟨.ref b,H,I,rfl,q⟩⟩
def oAdd:Op2
 | .int i,.int j,st => .ok (.int (i + j)) st
 | .str i,.str j,st => if i.length + j.length ≤ lim then .ok (.str (i ++ j)) st else .bad
 | .tup i,.tup j,st => if i.length + j.length ≤ lim then .ok (.tup (i ++ j)) st else .bad
 | .ref l,.ref k,st => match lstOf st l,lstOf st k with
  | some i,some j => if i.length + j.length ≤ lim then .ok (.ref st.length) (st ++ [.lst (i ++ j)]) else .bad
  | _,_ => .bad
 | _,_,_ => .bad
instance {α:Type} {xs:List α}:Decidable (xs ≠ []):=match xs with
 | [] => isFalse (fun h => h rfl)
 | _ :: _ => isTrue (fun h => by cases h)
theorem ow_add:OpW X (binaryOp .Add) oAdd:=⟨_,OpR.or op_add (OpR.or op_add_str (OpR.or op_catT (OpR.or op_catL op_catE))),fun x y a b st H m Q S rx ry p => by
 cases x with
 | int i =>
  cases y with
  | int j => exact .inl ⟨i,j,relInt rx,relInt ry,p _ m H Ext.refl S mkInt⟩
  | _ => exact False.elim p
 | str i =>
  cases y with
  | str j =>
   dsimp only [oAdd] at p
   by_cases c:i.length + j.length ≤ lim
   ·rw [if_pos c] at p
    exact .inr (.inl ⟨i,j,(relStr rx).1,(relStr ry).1,lim_le c,p _ m H Ext.refl S (mkStr (strOk_append (relStr rx).2 (relStr ry).2))⟩)
   ·rw [if_neg c] at p; exact False.elim p
  | _ => exact False.elim p
 | tup i =>
  cases y with
  | tup j =>
   dsimp only [oAdd] at p
   by_cases c:i.length + j.length ≤ lim
   ·rw [if_pos c] at p
    by_cases c0:i = []
    ·subst c0
     unfold RelW at rx ry
     obtain ⟨a1,xs,rfl,h1,h2⟩:=rx
     obtain ⟨a2,ys,rfl,h3,h4⟩:=ry
     have l1:xs = []:=List.eq_nil_of_length_eq_zero h2.length.symm
     subst l1
     exact .inr (.inr (.inr (.inr ⟨a1,a2,ys,rfl,rfl,SqT.of h1,SqT.of h3,p (.ref a2) m H Ext.refl S (by rw [List.nil_append]; unfold RelW; exact ⟨a2,ys,rfl,h3,h4⟩)⟩)))
    unfold RelW at rx ry
    obtain ⟨a1,xs,rfl,h1,h2⟩:=rx
    obtain ⟨a2,ys,rfl,h3,h4⟩:=ry
    have l1:=h2.length
    have l2:=h4.length
    have n1:xs ≠ []:=fun z => by rw [z] at l1; exact c0 (List.eq_nil_of_length_eq_zero l1)
    refine .inr (.inr (.inl ⟨a1,a2,xs,ys,rfl,rfl,SqT.of h1,SqT.of h3,n1,by rw [← l1,← l2]; exact lim_le c,fun z => ?_,fun _ q hq => ?_⟩))
    ·rw [z] at l2
     rw [List.eq_nil_of_length_eq_zero l2,List.append_nil] at p
     exact p (.ref a1) m H Ext.refl S (by unfold RelW; exact ⟨a1,xs,rfl,h1,h2⟩)
    have e2:Ext X.K m H m (upd H q (.tup (xs ++ ys))):=Ext.upd (.inl hq)
    exact p (.ref q) m _ e2 (S.fresh hq) (by unfold RelW; exact ⟨q,xs ++ ys,rfl,upd_same,RelWs.mono e2 _ _ (h2.append h4)⟩)
   ·rw [if_neg c] at p; exact False.elim p
  | _ => exact False.elim p
 | ref l =>
  cases y with
  | ref k =>
   dsimp only [oAdd] at p
   unfold RelW at rx ry
   obtain ⟨a1,rfl,h1⟩:=rx
   obtain ⟨a2,rfl,h2⟩:=ry
   cases e1:lstOf st l with
   | none => rw [e1] at p; exact False.elim p
   | some i =>
    cases e2:lstOf st k with
    | none => rw [e1,e2] at p; exact False.elim p
    | some j =>
     rw [e1,e2] at p
     by_cases c:i.length + j.length ≤ lim
     ·simp only [if_pos c] at p
      obtain ⟨xs,q1,q2⟩:=S.read h1 e1
      obtain ⟨ys,q3,q4⟩:=S.read h2 e2
      exact .inr (.inr (.inr (.inl ⟨a1,a2,xs,ys,rfl,rfl,q1,q3,by rw [← q2.length,← q4.length]; exact lim_le c,fun q hq => new_list p Ext.refl S (q2.append q4) q hq⟩)))
     ·simp only [if_neg c] at p; exact False.elim p
  | _ => exact False.elim p
 | _ => cases y <;> exact False.elim p⟩
def repS (n:Nat) (x:PySem.Str):PySem.Str:=⟨(List.replicate n x.cps).foldl (· ++ ·) #[]⟩
end
end J
namespace J
open PySem PySem.Spec PySem.SeqAt PyProof.Rows L2
def mapO {α β:Type} (f:α → Option β):List α → Option (List β)
 | [] => some []
 | w :: ws => match f w,mapO f ws with
  | some d,some ds => some (d :: ds)
  | _,_ => none
def datum (st:Hs):Nat → Wv → Option PyData
 | 0,w => match w with
  | .non => some .none
  | .bl b => some (.bool b)
  | .int i => some (.int i)
  | .str x => some (.str x)
  | _ => none
 | n + 1,w => match w with
  | .non => some .none
  | .bl b => some (.bool b)
  | .int i => some (.int i)
  | .str x => some (.str x)
  | .tup ws => (mapO (datum st n) ws).map .tuple
  | .ktp ws => (mapO (datum st n) ws).map .tuple
  | .ref l => match lstOf st l with
   | some ws => (mapO (datum st n) ws).map .list
   | none => none
  | .ty _ => none
  | .cls _ => none
  | .exn _ => none
  | .fn _ _ => none
section
variable {X:Cx} {pins:List (Addr × Obj)} {σ:St} {H:Hp} {s:Shared} {m:Mp} {st:Hs}
def DatOk (h:Heap) (n:Nat) (u:Value) (d:PyData):Prop:=∃ as,Reads h u d as ∧ d.canLay0 = true ∧ d.depth ≤ n
theorem datums_ok {n:Nat} (ih:∀ (w:Wv) (a:V) (u:Value) (d:PyData),RelW X.K m H w a → RelV a u → datum st n w = some d → DatOk s.heap n u d) :
  ∀ (ws:List Wv) (xs:List V) (us:List Value) (ds:List PyData),RelWs X.K m H ws xs → Vals xs us → mapO (datum st n) ws = some ds → ∃ as,ReadsAll s.heap us ds as ∧ PyData.canLayAll0 ds = true ∧ PyData.depthAll ds ≤ n
 | [],xs,us,ds,h,r,e => by
  unfold RelWs at h
  subst h
  cases r
  cases e
  exact ⟨[],.nil,rfl,Nat.zero_le _⟩
 | w :: ws,xs,us,ds,h,r,e => by
  unfold RelWs at h
  obtain ⟨x,xr,rfl,h1,h2⟩:=h
  cases r with
  | cons r1 r2 =>
   unfold mapO at e
   cases e1:datum st n w with
   | none => rw [e1] at e; cases e
   | some d =>
    cases e2:mapO (datum st n) ws with
    | none => rw [e1,e2] at e; cases e
    | some dr =>
     rw [e1,e2] at e
     cases e
     obtain ⟨as,q1,q2,q3⟩:=ih w x _ d h1 r1 e1
     obtain ⟨bs,p1,p2,p3⟩:=datums_ok ih ws xr _ dr h2 r2 e2
     refine ⟨as ++ bs,.cons q1 p1,?_,?_⟩
     ·show (PyData.canLay0 d && PyData.canLayAll0 dr) = true
      rw [q2,p2]; rfl
     ·show max d.depth (PyData.depthAll dr) ≤ n
      omega
theorem datum_ok (I:Inv X pins σ H s) (S:Sim X.K m st H):∀ (n:Nat) (w:Wv) (a:V) (u:Value) (d:PyData),RelW X.K m H w a → RelV a u → datum st n w = some d → DatOk s.heap n u d:=by
 intro n
 induction n with
 | zero =>
  intro w a u d h r e
  cases w with
  | non => unfold RelW at h; subst h; cases r; cases e; exact ⟨[],.none,rfl,Nat.le_refl _⟩
  | bl b => unfold RelW at h; subst h; cases r; cases e; exact ⟨[],.bool b,rfl,Nat.le_refl _⟩
  | int i => unfold RelW at h; subst h; obtain ⟨t,rfl⟩:=r; cases e; exact ⟨[],.int i t,rfl,Nat.le_refl _⟩
  | str x => unfold RelW at h; obtain ⟨rfl,hx⟩:=h; obtain ⟨t,rfl⟩:=r; cases e; exact ⟨[],.str x t,hx,Nat.le_refl _⟩
  | tup ws => cases e
  | ktp ws => cases e
  | ref l => cases e
  | ty t => cases e
  | cls t => cases e
  | exn t => cases e
  | fn fp t => cases e
 | succ n ih =>
  intro w a u d h r e
  cases w with
  | non => unfold RelW at h; subst h; cases r; cases e; exact ⟨[],.none,rfl,Nat.zero_le _⟩
  | bl b => unfold RelW at h; subst h; cases r; cases e; exact ⟨[],.bool b,rfl,Nat.zero_le _⟩
  | int i => unfold RelW at h; subst h; obtain ⟨t,rfl⟩:=r; cases e; exact ⟨[],.int i t,rfl,Nat.zero_le _⟩
  | str x => unfold RelW at h; obtain ⟨rfl,hx⟩:=h; obtain ⟨t,rfl⟩:=r; cases e; exact ⟨[],.str x t,hx,Nat.zero_le _⟩
  | ty t => cases e
  | cls t => cases e
  | exn t => cases e
  | fn fp t => cases e
  | tup ws =>
   unfold RelW at h
   obtain ⟨p,xs,rfl,h1,h2⟩:=h
   cases r
   have e':(mapO (datum st n) ws).map PyData.tuple = some d:=e
   cases e2:mapO (datum st n) ws with
   | none => rw [e2] at e'; cases e'
   | some ds =>
    rw [e2] at e'
    cases e'
    obtain ⟨its,rv,ht,hz⟩:=I.tuple (SqT.of h1)
    obtain ⟨as,q1,q2,q3⟩:=datums_ok ih ws xs its ds h2 rv e2
    obtain ⟨o,ho,hc,k,hd⟩:=ht
    exact ⟨as,.tuple ho hc hd (by simpa using q1),q2,Nat.succ_le_succ q3⟩
  | ktp ws =>
   unfold RelW at h
   obtain ⟨p,xs,rfl,h1,h2⟩:=h
   cases r
   have e':(mapO (datum st n) ws).map PyData.tuple = some d:=e
   cases e2:mapO (datum st n) ws with
   | none => rw [e2] at e'; cases e'
   | some ds =>
    rw [e2] at e'
    cases e'
    obtain ⟨its,rv,ht,hz⟩:=I.tuple (.inr h1)
    obtain ⟨as,q1,q2,q3⟩:=datums_ok ih ws xs its ds h2 rv e2
    obtain ⟨o,ho,hc,k,hd⟩:=ht
    exact ⟨as,.tuple ho hc hd (by simpa using q1),q2,Nat.succ_le_succ q3⟩
  | ref l =>
   unfold RelW at h
   obtain ⟨p,rfl,h1⟩:=h
   cases r
   have e':(match lstOf st l with | some ws => (mapO (datum st n) ws).map PyData.list | none => none) = some d:=e
   cases e1:lstOf st l with
   | none => rw [e1] at e'; cases e'
   | some ws =>
    rw [e1] at e'
    have e'':(mapO (datum st n) ws).map PyData.list = some d:=e'
    cases e2:mapO (datum st n) ws with
    | none => rw [e2] at e''; cases e''
    | some ds =>
     rw [e2] at e''
     cases e''
     obtain ⟨xs,hq,h2⟩:=S.read h1 e1
     obtain ⟨its,rv,ht,hz⟩:=I.list hq
     obtain ⟨as,q1,q2,q3⟩:=datums_ok ih ws xs its ds h2 rv e2
     obtain ⟨o,ho,hc,k,hd⟩:=ht.isList
     exact ⟨_,.list ho hc hd (by simpa using q1),q2,Nat.succ_le_succ q3⟩
end
def oEq:Op2:=fun x y st => match datum st 20 x,datum st 20 y with
 | some a,some b => .ok (.bl (PyData.eqv a b)) st
 | _,_ => .bad
def oNe:Op2:=fun x y st => match datum st 20 x,datum st 20 y with
 | some a,some b => .ok (.bl (!PyData.eqv a b)) st
 | _,_ => .bad
section
variable {X:Cx}
def rDat (K:PySem.W.Frag) (neg:Bool):R2:=fun a b H Q => ∃ m st x y da db,Sim K m st H ∧ RelW K m H x a ∧ RelW K m H y b ∧ datum st 20 x = some da ∧ datum st 20 y = some db ∧ Q (.bl (if neg then !PyData.eqv da db else PyData.eqv da db)) H
theorem shaped_of {n:Nat} {d:PyData} (hn:n ≤ 64) (h:d.canLay0 = true) (k:d.depth ≤ n):shaped d = true:=by
 unfold shaped
 rw [h,decide_eq_true (Nat.le_trans k hn)]
 rfl
theorem op_eqD (hu:X.A.units + 64 < cLine):OpR X (compareOp .Eq) (rDat X.K false):=by
 intro pins s σ H a b v u Q I rx ry h
 obtain ⟨m,st,x,y,da,db,S,h1,h2,e1,e2,q⟩:=h
 obtain ⟨as,q1,q2,q3⟩:=datum_ok I S 20 x a v da h1 rx e1
 obtain ⟨bs,p1,p2,p3⟩:=datum_ok I S 20 y b u db h2 ry e2
 exact eq_dataH q1 p1 (shaped_of (by decide) q2 q3) (shaped_of (by decide) p2 p3) hu ⟨.bl _,H,I,rfl,q⟩
theorem op_neD (hu:X.A.units + 64 < cLine):OpR X (compareOp .NotEq) (rDat X.K true):=by
 intro pins s σ H a b v u Q I rx ry h
 obtain ⟨m,st,x,y,da,db,S,h1,h2,e1,e2,q⟩:=h
 obtain ⟨as,q1,q2,q3⟩:=datum_ok I S 20 x a v da h1 rx e1
 obtain ⟨bs,p1,p2,p3⟩:=datum_ok I S 20 y b u db h2 ry e2
 exact ne_dataH q1 p1 (shaped_of (by decide) q2 q3) (shaped_of (by decide) p2 p3) hu ⟨.bl _,H,I,rfl,q⟩
theorem ow_eq (hu:X.A.units + 64 < cLine):OpW X (compareOp .Eq) oEq:=⟨_,op_eqD hu,fun x y a b st H m Q S rx ry p => by
 unfold oEq at p
 cases e1:datum st 20 x with
 | none => rw [e1] at p; exact False.elim p
 | some da =>
  cases e2:datum st 20 y with
  | none => rw [e1,e2] at p; exact False.elim p
  | some db =>
   rw [e1,e2] at p
   exact ⟨m,st,x,y,da,db,S,rx,ry,e1,e2,p _ m H Ext.refl S mkBl⟩⟩
theorem ow_ne (hu:X.A.units + 64 < cLine):OpW X (compareOp .NotEq) oNe:=⟨_,op_neD hu,fun x y a b st H m Q S rx ry p => by
 unfold oNe at p
 cases e1:datum st 20 x with
 | none => rw [e1] at p; exact False.elim p
 | some da =>
  cases e2:datum st 20 y with
  | none => rw [e1,e2] at p; exact False.elim p
  | some db =>
   rw [e1,e2] at p
   exact ⟨m,st,x,y,da,db,S,rx,ry,e1,e2,p _ m H Ext.refl S mkBl⟩⟩
def flatW:Wv → Bool
 | .non => true
 | .bl _ => true
 | .int _ => true
 | .str _ => true
 | _ => false
def eqF:Wv → Wv → Bool
 | .non,.non => true
 | .bl a,.bl b => a == b
 | .bl a,.int b => (if a then 1 else 0) == b
 | .int a,.bl b => a == (if b then 1 else 0)
 | .int a,.int b => a == b
 | .str a,.str b => a == b
 | _,_ => false
def seqOf (st:Hs):Wv → Option (List Wv)
 | .tup ws => some ws
 | .ktp ws => some ws
 | .ref l => lstOf st l
 | _ => none
def oIn:Op2:=fun x y st => match seqOf st y with
 | some ws => if flatW x = true ∧ ws.all flatW = true then .ok (.bl (ws.any fun z => eqF z x)) st else .bad
 | none => .bad
def oNotIn:Op2:=fun x y st => match seqOf st y with
 | some ws => if flatW x = true ∧ ws.all flatW = true then .ok (.bl (!(ws.any fun z => eqF z x))) st else .bad
 | none => .bad
theorem flat_rel {m:Mp} {H:Hp} {x:Wv} {a:V} (h:RelW X.K m H x a) (f:flatW x = true):flatV a = true:=by
 cases x with
 | non => unfold RelW at h; subst h; rfl
 | bl b => unfold RelW at h; subst h; rfl
 | int b => unfold RelW at h; subst h; rfl
 | str b => unfold RelW at h; obtain ⟨h,_⟩:=h; subst h; rfl
 | _ => cases f
theorem eqF_rel {m:Mp} {H:Hp} {x y:Wv} {a b:V} (h:RelW X.K m H x a) (k:RelW X.K m H y b) (f:flatW x = true) (g:flatW y = true):eqV a b = eqF x y:=by
 cases x with
 | non =>
  unfold RelW at h; subst h
  cases y with
  | str j => unfold RelW at k; obtain ⟨k,_⟩:=k; subst k; rfl
  | tup j => cases g
  | ktp j => cases g
  | ref j => cases g
  | ty j => cases g
  | cls j => cases g
  | exn j => cases g
  | fn fp j => cases g
  | _ => unfold RelW at k; subst k; rfl
 | bl i =>
  unfold RelW at h; subst h
  cases y with
  | str j => unfold RelW at k; obtain ⟨k,_⟩:=k; subst k; rfl
  | tup j => cases g
  | ktp j => cases g
  | ref j => cases g
  | ty j => cases g
  | cls j => cases g
  | exn j => cases g
  | fn fp j => cases g
  | _ => unfold RelW at k; subst k; rfl
 | int i =>
  unfold RelW at h; subst h
  cases y with
  | str j => unfold RelW at k; obtain ⟨k,_⟩:=k; subst k; rfl
  | tup j => cases g
  | ktp j => cases g
  | ref j => cases g
  | ty j => cases g
  | cls j => cases g
  | exn j => cases g
  | fn fp j => cases g
  | _ => unfold RelW at k; subst k; rfl
 | str i =>
  unfold RelW at h; obtain ⟨h,_⟩:=h; subst h
  cases y with
  | str j => unfold RelW at k; obtain ⟨k,_⟩:=k; subst k; rfl
  | tup j => cases g
  | ktp j => cases g
  | ref j => cases g
  | ty j => cases g
  | cls j => cases g
  | exn j => cases g
  | fn fp j => cases g
  | _ => unfold RelW at k; subst k; rfl
 | _ => cases f
theorem flats_rel {m:Mp} {H:Hp} {x:Wv} {a:V} (h:RelW X.K m H x a) (f:flatW x = true):∀ {ws:List Wv} {xs:List V},RelWs X.K m H ws xs → ws.all flatW = true → xs.all flatV = true ∧ inV a xs = ws.any fun z => eqF z x
 | [],xs,r,_ => by unfold RelWs at r; subst r; exact ⟨rfl,rfl⟩
 | w :: ws,xs,r,g => by
  unfold RelWs at r
  obtain ⟨y,yr,rfl,r1,r2⟩:=r
  rw [List.all_cons,Bool.and_eq_true] at g
  obtain ⟨q1,q2⟩:=flats_rel h f r2 g.2
  constructor
  ·rw [List.all_cons,flat_rel r1 g.1,q1]; rfl
  ·unfold inV at q2 ⊢
   rw [List.any_cons,List.any_cons,eqF_rel r1 h g.1 f,q2]
theorem seq_rel {m:Mp} {H:Hp} {st:Hs} {y:Wv} {b:V} {ws:List Wv} (S:Sim X.K m st H) (h:RelW X.K m H y b) (e:seqOf st y = some ws):∃ p xs,b = .ref p ∧ (SqL X.K H p xs ∨ SqT X.K H p xs) ∧ RelWs X.K m H ws xs:=by
 cases y with
 | tup zs =>
  cases e
  unfold RelW at h
  obtain ⟨p,xs,e1,e2,e3⟩:=h
  exact ⟨p,xs,e1,.inr (SqT.of e2),e3⟩
 | ktp zs =>
  cases e
  unfold RelW at h
  obtain ⟨p,xs,e1,e2,e3⟩:=h
  exact ⟨p,xs,e1,.inr (.inr e2),e3⟩
 | ref l =>
  unfold RelW at h
  obtain ⟨p,e1,e2⟩:=h
  obtain ⟨xs,q1,q2⟩:=S.read e2 e
  exact ⟨p,xs,e1,.inl q1,q2⟩
 | _ => cases e
theorem ow_in:OpW X (compareOp .In) oIn:=⟨_,op_in_seq,fun x y a b st H m Q S rx ry p => by
 unfold oIn at p
 cases e:seqOf st y with
 | none => rw [e] at p; exact False.elim p
 | some ws =>
  rw [e] at p
  by_cases c:flatW x = true ∧ ws.all flatW = true
  ·simp only [if_pos c] at p
   obtain ⟨q,xs,e1,e2,e3⟩:=seq_rel S ry e
   obtain ⟨f1,f2⟩:=flats_rel rx c.1 e3 c.2
   refine ⟨q,xs,e1,e2,flat_rel rx c.1,f1,?_⟩
   rw [f2]
   exact p _ m H Ext.refl S mkBl
  ·simp only [if_neg c] at p; exact False.elim p⟩
theorem ow_notIn:OpW X (compareOp .NotIn) oNotIn:=⟨_,op_notIn_seq,fun x y a b st H m Q S rx ry p => by
 unfold oNotIn at p
 cases e:seqOf st y with
 | none => rw [e] at p; exact False.elim p
 | some ws =>
  rw [e] at p
  by_cases c:flatW x = true ∧ ws.all flatW = true
  ·simp only [if_pos c] at p
   obtain ⟨q,xs,e1,e2,e3⟩:=seq_rel S ry e
   obtain ⟨f1,f2⟩:=flats_rel rx c.1 e3 c.2
   refine ⟨q,xs,e1,e2,flat_rel rx c.1,f1,?_⟩
   rw [f2]
   exact p _ m H Ext.refl S mkBl
  ·simp only [if_neg c] at p; exact False.elim p⟩
def oIx:Op2
 | .str z,.int i,st => if z.length ≤ lim then (match atI z.cps.toList i with | some c => .ok (.str ⟨#[c]⟩) st | none => .bad) else .bad
 | x,.int i,st => match seqOf st x with
  | some ws => (match atI ws i with | some w => .ok w st | none => .bad)
  | none => .bad
 | _,_,_ => .bad
theorem atI_rel {m:Mp} {H:Hp} {ws:List Wv} {xs:List V} {i:Int} {w:Wv} (r:RelWs X.K m H ws xs) (h:atI ws i = some w):∃ x,atI xs i = some x ∧ RelW X.K m H w x:=by
 unfold atI at h ⊢
 rw [← r.length]
 cases e:ixN ws.length i with
 | none => rw [e] at h; cases h
 | some j => rw [e] at h; exact r.get h
theorem atI_mem {α:Type} {xs:List α} {i:Int} {v:α} (h:atI xs i = some v):v ∈ xs:=by
 obtain ⟨j,_,h2,_⟩:=atI_get h
 exact List.mem_of_getElem? h2
theorem strOk_one {z:PySem.Str} {c:Nat} (h:PyData.strOk z = true) (hc:c ∈ z.cps.toList):PyData.strOk ⟨#[c]⟩ = true:=by
 unfold PyData.strOk at h ⊢
 rw [Array.all_eq_true_iff_forall_mem] at h
 have q:=h c (by simpa using hc)
 simpa using q
theorem je_ix {a b:Expr} {ga gb:GE} {pos:Pos} (ha:JE X a ga) (hb:JE X b gb) (hs:PlainIx b:=by exact fun _ _ => rfl):JE X (.Subscript a b pos) (gBin oIx ga gb) :=
 JE.of (pe_ix ix_seq pe_SE pe_SE hs) fun ρ st σ H m Q S R p => read2 (op:=oIx) (fun x y a b st H m Q S rx ry p => by
  have seqs:∀ (i:Int),y = .int i → (match seqOf st x with | some ws => (match atI ws i with | some w => Re.ok w st | none => .bad) | none => .bad) = oIx x y st → rIx X.K a b H Q:=fun i hy hp => by
   subst hy
   rw [← hp] at p
   cases e:seqOf st x with
   | none => rw [e] at p; exact False.elim p
   | some ws =>
    rw [e] at p
    dsimp only at p
    cases e1:atI ws i with
    | none => rw [e1] at p; exact False.elim p
    | some w =>
     rw [e1] at p
     obtain ⟨q,xs,e2,e3,e4⟩:=seq_rel S rx e
     obtain ⟨v,f1,f2⟩:=atI_rel e4 e1
     rcases e3 with e3 | e3
     ·exact .inl ⟨q,xs,i,v,e2,relInt ry,e3,f1,p v m H Ext.refl S f2⟩
     ·exact .inr (.inl ⟨q,xs,i,v,e2,relInt ry,e3,f1,p v m H Ext.refl S f2⟩)
  cases y with
  | int i =>
   cases x with
   | str z =>
    dsimp only [oIx] at p
    by_cases c:z.length ≤ lim
    ·simp only [if_pos c] at p
     cases e1:atI z.cps.toList i with
     | none => rw [e1] at p; exact False.elim p
     | some ch =>
      rw [e1] at p
      exact .inr (.inr ⟨z,i,ch,(relStr rx).1,relInt ry,lim_le c,e1,p _ m H Ext.refl S (mkStr (strOk_one (relStr rx).2 (atI_mem e1)))⟩)
    ·simp only [if_neg c] at p; exact False.elim p
   | _ => exact seqs i rfl rfl
  | _ => cases x <;> exact False.elim p) ha hb S R p
abbrev GO:=Rho → Hs → Re (Option Int)
def SO (X:Cx) (e:Option Expr):TO:=fun σ H Q => ∀ (pins:List (Addr × Obj)) (s:Shared),Inv X pins σ H s → wpAny (model X.prog X.w) X.A (evalPart e X.env) (fun u s' => ∃ o H',Inv X pins σ H' s' ∧ IsPart u o ∧ Q o H') X.xe s
theorem po_SO {e:Option Expr}:PO X e (SO X e):=fun pins s _ _ _ I h => h pins s I
def okO (K:PySem.W.Frag) (m:Mp) (H:Hp) (Q:Option Int → Hp → Prop) (o:Option Int) (st:Hs):Prop:=∀ (m':Mp) (H':Hp),Ext K m H m' H' → Sim K m' st H' → Q o H'
def JO (X:Cx) (e:Option Expr) (g:GO):Prop:=∀ (ρ:Rho) (st:Hs) (σ:St) (H:Hp) (m:Mp) (Q:Option Int → Hp → Prop),Sim X.K m st H → RelEnv X.K m H ρ σ → PostG X σ m H (g ρ st) (okO X.K m H Q) → SO X e σ H Q
def gNoPart:GO:=fun _ st => .ok none st
def gPart (g:GE):GO:=fun ρ st => (g ρ st).bind fun w st1 => match w with
 | .int i => .ok (some i) st1
 | _ => .bad
theorem jo_none:JO X none gNoPart:=fun ρ st σ H m Q S R p pins s I => po_none pins s σ H Q I (p m H Ext.refl S)
theorem jo_some {e:Expr} {g:GE} (h:JE X e g):JO X (some e) (gPart g):=fun ρ st σ H m Q S R p pins s I =>
 po_some pe_SE pins s σ H Q I (h.go S R (PostG.bind p) fun w st1 v m1 H1 p1 e1 S1 r1 => by
  cases w with
  | int i => exact ⟨i,relInt r1,p1 m1 H1 e1 S1⟩
  | _ => exact False.elim p1)
theorem JO.go {e:Option Expr} {g:GO} {ρ:Rho} {st:Hs} {σ:St} {H:Hp} {m:Mp} {T:Option Int → Hp → Prop} {ok:Option Int → Hs → Prop} (h:JO X e g) (S:Sim X.K m st H) (R:RelEnv X.K m H ρ σ) (p:PostG X σ m H (g ρ st) ok)
  (k:∀ (b:Option Int) (st1:Hs) (m1:Mp) (H1:Hp),ok b st1 → Ext X.K m H m1 H1 → Sim X.K m1 st1 H1 → T b H1):SO X e σ H T :=
 h ρ st σ H m T S R (p.imp Ext.refl fun b st1 q m1 H1 e1 s1 => k b st1 m1 H1 q e1 s1)
def cutW (xs:List Wv) (lo hi:Option Int):List Wv:=(xs.drop (HT.sIx xs.length 0 lo)).take (HT.sIx xs.length xs.length hi - HT.sIx xs.length 0 lo)
def oSl (x:Wv) (lo hi:Option Int) (st:Hs):Re Wv:=match x with
 | .tup ws => if HT.sIx ws.length 0 lo = 0 ∧ HT.sIx ws.length ws.length hi = ws.length then .bad else .ok (.tup (cutW ws lo hi)) st
 | .ref l => match lstOf st l with
  | some ws => .ok (.ref st.length) (st ++ [.lst (cutW ws lo hi)])
  | none => .bad
 | _ => .bad
theorem cut_rel {m:Mp} {H:Hp} {ws:List Wv} {xs:List V} {lo hi:Option Int} (r:RelWs X.K m H ws xs):RelWs X.K m H (cutW ws lo hi) (cutV xs lo hi):=by
 unfold cutW cutV
 rw [← r.length]
 exact (r.drop _).take _
def gSlice (ga:GE) (gl gh:GO):GE:=fun ρ st => (ga ρ st).bind fun x st1 => (gl ρ st1).bind fun lo st2 => (gh ρ st2).bind fun hi st3 => oSl x lo hi st3
theorem je_slice {a:Expr} {lo hi:Option Expr} {ga:GE} {gl gh:GO} {pos p2:Pos} (ha:JE X a ga) (hl:JO X lo gl) (hh:JO X hi gh):JE X (.Subscript a (.Slice lo hi none p2) pos) (gSlice ga gl gh):=by
 refine JE.of (pe_slice (sl_tup.or sl_list) pe_SE po_SO po_SO) fun ρ st σ H m Q S R p => ?_
 refine ha.go S R (PostG.bind p) fun x st1 v m1 H1 p1 e1 S1 rx => ?_
 refine hl.go S1 (R.mono e1) ((PostG.bind p1).imp e1 fun _ _ q => q) fun l st2 m2 H2 p2 e2 S2 => ?_
 refine hh.go S2 (R.mono (e1.trans e2)) ((PostG.bind p2).imp (e1.trans e2) fun _ _ q => q) fun h st3 m3 H3 p3 e3 S3 => ?_
 have e13:=e1.trans (e2.trans e3)
 have rx3:=RelW.mono (e2.trans e3) _ _ rx
 cases x with
 | tup ws =>
  have p3':PostE X σ m H (if HT.sIx ws.length 0 l = 0 ∧ HT.sIx ws.length ws.length h = ws.length then .bad else .ok (.tup (cutW ws l h)) st3) Q:=p3
  by_cases c:HT.sIx ws.length 0 l = 0 ∧ HT.sIx ws.length ws.length h = ws.length
  ·rw [if_pos c] at p3'; exact False.elim p3'
  ·rw [if_neg c] at p3'
   unfold RelW at rx3
   obtain ⟨q,xs,rfl,f1,f2⟩:=rx3
   refine .inl ⟨q,xs,rfl,SqT.of f1,by rw [← f2.length]; exact c,fun r hr => ?_⟩
   have e4:Ext X.K m3 H3 m3 (upd H3 r (.tup (cutV xs l h))):=Ext.upd (.inl hr)
   exact p3' (.ref r) m3 _ (e13.trans e4) (S3.fresh hr) (by unfold RelW; exact ⟨r,_,rfl,upd_same,RelWs.mono e4 _ _ (cut_rel f2)⟩)
 | ref k =>
  have p3':PostE X σ m H (match lstOf st3 k with | some ws => .ok (.ref st3.length) (st3 ++ [.lst (cutW ws l h)]) | none => .bad) Q:=p3
  unfold RelW at rx3
  obtain ⟨q,rfl,f1⟩:=rx3
  cases e:lstOf st3 k with
  | none => rw [e] at p3'; exact False.elim p3'
  | some ws =>
   rw [e] at p3'
   obtain ⟨xs,g1,g2⟩:=S3.read f1 e
   exact .inr ⟨q,xs,rfl,g1,fun r hr => new_list p3' e13 S3 (cut_rel g2) r hr⟩
 | _ => exact False.elim p3
end
end J
namespace J
open PySem PySem.Spec PyProof.Rows L2
section
variable {X:Cx}
def CallW (X:Cx) (f:Value) (op:List Wv → Hs → Re Wv):Prop:=∃ r,CallR X f r ∧ ∀ (ws:List Wv) (vs:List V) (st:Hs) (H:Hp) (m:Mp) (Q:VK),Sim X.K m st H → RelWs X.K m H ws vs → PostO X.K m H (op ws st) Q → r vs H Q
def gCallB (op:List Wv → Hs → Re Wv) (g:GA):GE:=fun ρ st => (g ρ st).bind fun ws st1 => (op ws st1).nox
theorem je_callB {x:Str} {id:String} {p pos:Pos} {e:Expr} {es:List Expr} {g:GA} {op:List Wv → Hs → Re Wv} (hc:CallW X (.builtin id) op) (hg:Gl X x) (hm:X.mg x = none) (hv:bootBuiltins x = some (.builtin id)) (ha:JA X (e :: es) g)
  (hn:x ≠ "__name__":=by decide) (hdb:(x == ("__debug__":Str)) = false:=by decide) (he:starEach (e :: es) X.env = (false,eval e X.env) :: starEach es X.env:=by rfl) (hpl:(backTo pos (starEach es X.env)).any (·.1) = false:=by rfl) :
  JE X (.Call (.Name x p) (e :: es) [] pos) (gCallB op g):=by
 obtain ⟨r,h1,h2⟩:=hc
 refine JE.of (pe_callB h1 hg hm hv pa_SA hn hdb he hpl) fun ρ st σ H m Q S R p => ?_
 exact ha.go S R (PostG.bind p) fun ws st1 vs m1 H1 p1 e1 S1 rs => h2 ws vs st1 H1 m1 Q S1 rs (PostO.shift (PostG.nox p1) e1)
theorem je_callTy {x:Str} {T:String} {p pos:Pos} {e:Expr} {es:List Expr} {g:GA} {op:List Wv → Hs → Re Wv} (hc:CallW X (.type T) op) (hg:Gl X x) (hm:X.mg x = none) (hv:bootBuiltins x = some (.type T)) (ha:JA X (e :: es) g)
  (hn:x ≠ "__name__":=by decide) (hdb:(x == ("__debug__":Str)) = false:=by decide) (he:starEach (e :: es) X.env = (false,eval e X.env) :: starEach es X.env:=by rfl) (hpl:(backTo pos (starEach es X.env)).any (·.1) = false:=by rfl) :
  JE X (.Call (.Name x p) (e :: es) [] pos) (gCallB op g):=by
 obtain ⟨r,h1,h2⟩:=hc
 refine JE.of (pe_callTy h1 hg hm hv pa_SA hn hdb he hpl) fun ρ st σ H m Q S R p => ?_
 exact ha.go S R (PostG.bind p) fun ws st1 vs m1 H1 p1 e1 S1 rs => h2 ws vs st1 H1 m1 Q S1 rs (PostO.shift (PostG.nox p1) e1)
theorem rel1 {m:Mp} {H:Hp} {w:Wv} {vs:List V} (r:RelWs X.K m H [w] vs):∃ v,vs = [v] ∧ RelW X.K m H w v:=by
 unfold RelWs at r
 obtain ⟨v,t,rfl,h1,h2⟩:=r
 unfold RelWs at h2
 subst h2
 exact ⟨v,rfl,h1⟩
theorem rel2 {m:Mp} {H:Hp} {w w':Wv} {vs:List V} (r:RelWs X.K m H [w,w'] vs):∃ v v',vs = [v,v'] ∧ RelW X.K m H w v ∧ RelW X.K m H w' v':=by
 unfold RelWs at r
 obtain ⟨v,t,rfl,h1,h2⟩:=r
 obtain ⟨v',rfl,h3⟩:=rel1 h2
 exact ⟨v,v',rfl,h1,h3⟩
def oLen:List Wv → Hs → Re Wv
 | [.str z],st => if z.length ≤ lim then .ok (.int z.length) st else .bad
 | [x],st => match seqOf st x with
  | some ws => .ok (.int ws.length) st
  | none => .bad
 | _,_ => .bad
theorem cw_len:CallW X (.builtin "len") oLen:=⟨_,call_len_seq.or call_len_str,fun ws vs st H m Q S r p => by
 match ws,r,p with
 | [],r,p => exact False.elim p
 | x :: y :: t,r,p => cases x <;> exact False.elim p
 | [x],r,p =>
  obtain ⟨v,rfl,rx⟩:=rel1 r
  have seqs:(match seqOf st x with | some ws => Re.ok (Wv.int ws.length) st | none => .bad) = oLen [x] st → (∃ p ys,[v] = [V.ref p] ∧ (SqL X.K H p ys ∨ SqT X.K H p ys) ∧ Q (.int ys.length) H):=fun hp => by
   rw [← hp] at p
   cases e:seqOf st x with
   | none => rw [e] at p; exact False.elim p
   | some ws =>
    rw [e] at p
    obtain ⟨q,xs,rfl,e2,e3⟩:=seq_rel S rx e
    refine ⟨q,xs,rfl,e2,?_⟩
    rw [← e3.length]
    exact p _ m H Ext.refl S mkInt
  cases x with
  | str z =>
   have p':PostO X.K m H (if z.length ≤ lim then .ok (.int z.length) st else .bad) Q:=p
   by_cases c:z.length ≤ lim
   ·rw [if_pos c] at p'
    obtain ⟨rfl,_⟩:=relStr rx
    exact .inr ⟨z,rfl,lim_le c,p' _ m H Ext.refl S mkInt⟩
   ·rw [if_neg c] at p'; exact False.elim p'
  | _ => exact .inl (seqs rfl)⟩
def oAbs:List Wv → Hs → Re Wv
 | [.int i],st => .ok (.int (if i < 0 then -i else i)) st
 | _,_ => .bad
def isW (st:Hs) (T:String):Wv → Option Bool
 | .non => some false
 | .bl _ => some (T == "bool" || T == "int")
 | .int _ => some (T == "int")
 | .str _ => some (T == "str")
 | .tup _ => some (T == "tuple")
 | .ktp _ => none
 | .ref l => (lstOf st l).map fun _ => T == "list"
 | .ty _ => none
 | .cls _ => none
 | .exn _ => none
 | .fn _ _ => none
def okTy (T:String):Bool:=T == "int" || T == "str" || T == "bool" || T == "tuple" || T == "list"
def oIsI:List Wv → Hs → Re Wv
 | [x,.ty T],st => if okTy T = true then (match isW st T x with | some b => .ok (.bl b) st | none => .bad) else .bad
 | _,_ => .bad
def rIsI (K:PySem.W.Frag):List V → Hp → VK → Prop:=fun vs H Q => ∃ m st x T v b,vs = [v,.ty T] ∧ Sim K m st H ∧ RelW K m H x v ∧ okTy T = true ∧ isW st T x = some b ∧ Q (.bl b) H
theorem call_isI:CallR X (.builtin "isinstance") (rIsI X.K):=by
 intro pins s σ H xs us Q I r h
 obtain ⟨m,st,x,T,v,b,rfl,S,rx,hT,hb,q⟩:=h
 obtain ⟨u,u',rfl,r1,r2⟩:=vals2 r
 cases r2
 have fin:∀ tk,EP X pins σ Q (.bool b) { s with toks:=tk }:=fun tk => ⟨.bl b,H,I.tok tk,rfl,q⟩
 have fin0:EP X pins σ Q (.bool b) s:=⟨.bl b,H,I,rfl,q⟩
 unfold okTy at hT
 simp only [Bool.or_eq_true,beq_iff_eq] at hT
 cases x with
 | non =>
  unfold RelW at rx; subst rx; cases r1
  cases hb
  rcases hT with (((rfl | rfl) | rfl) | rfl) | rfl <;>
   exact call_isinstance (isinstance_false_none (by decide) (by kernel_rfl) (by rw [isSubtype_type]; kernel_rfl)) (fin _)
 | bl c =>
  unfold RelW at rx; subst rx; cases r1
  rcases hT with (((rfl | rfl) | rfl) | rfl) | rfl <;> cases hb <;> first
   | exact call_isinstance_yes (Tx:="bool") rfl (by kernel_rfl) (by rw [isSubtype_type]; kernel_rfl) fin0
   | exact call_isinstance (isinstance_false_bool (by decide) (by kernel_rfl) (by rw [isSubtype_type]; kernel_rfl)) (fin _)
 | int c =>
  unfold RelW at rx; subst rx; obtain ⟨t,rfl⟩:=r1
  rcases hT with (((rfl | rfl) | rfl) | rfl) | rfl <;> cases hb <;> first
   | exact call_isinstance_yes (Tx:="int") (typeIs_int s c t) (by kernel_rfl) (by rw [isSubtype_type]; kernel_rfl) fin0
   | exact call_isinstance (isinstance_false_int (by decide) (by kernel_rfl) (by rw [isSubtype_type]; kernel_rfl)) (fin _)
 | str c =>
  obtain ⟨rfl,_⟩:=relStr rx; obtain ⟨t,rfl⟩:=r1
  rcases hT with (((rfl | rfl) | rfl) | rfl) | rfl <;> cases hb <;> first
   | exact call_isinstance_yes (Tx:="str") (typeIs_str s c t) (by kernel_rfl) (by rw [isSubtype_type]; kernel_rfl) fin0
   | exact call_isinstance (isinstance_false_str (by decide) (by kernel_rfl) (by rw [isSubtype_type]; kernel_rfl)) (fin _)
 | ktp ws => cases hb
 | tup ws =>
  unfold RelW at rx; obtain ⟨a,xs,rfl,h1,h2⟩:=rx; cases r1
  obtain ⟨its,rv,ht,hz⟩:=I.tuple (SqT.of h1)
  have hty:=ht.typeIs
  obtain ⟨o,ho,hc,k,hd⟩:=ht
  rcases hT with (((rfl | rfl) | rfl) | rfl) | rfl <;> cases hb <;> first
   | exact call_isinstance_yes (Tx:="tuple") hty (by kernel_rfl) (by rw [isSubtype_type]; kernel_rfl) fin0
   | exact call_isinstance (isinstance_false_tuple (by decide) (by kernel_rfl) (by rw [isSubtype_type]; kernel_rfl)) ⟨⟨o,ho,hc⟩,fin _⟩
 | ref l =>
  unfold RelW at rx; obtain ⟨a,rfl,h1⟩:=rx; cases r1
  have hb':(lstOf st l).map (fun _ => T == "list") = some b:=hb
  cases e:lstOf st l with
  | none => rw [e] at hb'; cases hb'
  | some ws =>
   rw [e] at hb'
   obtain ⟨xs,hq,h2⟩:=S.read h1 e
   obtain ⟨its,rv,ht,hz⟩:=I.list hq
   have hty:=ht.isList.typeIs
   obtain ⟨o,ho,hc,k,hd⟩:=ht.isList
   rcases hT with (((rfl | rfl) | rfl) | rfl) | rfl <;> cases hb' <;> first
    | exact call_isinstance_yes (Tx:="list") hty (by kernel_rfl) (by rw [isSubtype_type]; kernel_rfl) fin0
    | exact call_isinstance (isinstance_false_list (by decide) (by kernel_rfl) (by rw [isSubtype_type]; kernel_rfl)) ⟨⟨o,ho,hc⟩,fin _⟩
 | ty t => cases hb
 | cls t => cases hb
 | exn t => cases hb
 | fn fp t => cases hb
theorem cw_isI:CallW X (.builtin "isinstance") oIsI:=⟨_,call_isI,fun ws vs st H m Q S r p => by
 match ws,r,p with
 | [],r,p => exact False.elim p
 | [x],r,p => cases x <;> exact False.elim p
 | x :: y :: z :: t,r,p => cases y <;> exact False.elim p
 | [x,y],r,p =>
  obtain ⟨v,v',rfl,rx,ry⟩:=rel2 r
  cases y with
  | ty T =>
   unfold RelW at ry
   subst ry
   have p':PostO X.K m H (if okTy T = true then (match isW st T x with | some b => .ok (.bl b) st | none => .bad) else .bad) Q:=p
   by_cases c:okTy T = true
   ·rw [if_pos c] at p'
    cases e:isW st T x with
    | none => rw [e] at p'; exact False.elim p'
    | some b => rw [e] at p'; exact ⟨m,st,x,T,v,b,rfl,S,rx,c,e,p' _ m H Ext.refl S mkBl⟩
   ·rw [if_neg c] at p'; exact False.elim p'
  | _ => exact False.elim p⟩
def gNext:GS:=fun ρ st => .nx ρ st
def gSeq (g h:GS):GS:=fun ρ st => match g ρ st with
 | .nx ρ' st' => h ρ' st'
 | r => r
theorem jss_nil:JSs X [] gNext:=JSs.of pss_nil fun ρ st σ H m D S R p => p σ m H Ext.refl S R
theorem jss_cons {s:Stmt} {rest:List Stmt} {g h:GS} (h1:JS X s g) (h2:JSs X rest h):JSs X (s :: rest) (gSeq g h) :=
 JSs.of (pss_cons ps_SS pss_SSs) fun ρ st σ H m D S R p => h1 ρ st σ H m _ S R (by
  unfold gSeq at p
  cases e:g ρ st with
  | nx ρ' st' => rw [e] at p; exact fun σ' m' H' e' S' R' => h2 ρ' st' σ' H' m' D S' R' (PostS.shift p e')
  | rt w st' => rw [e] at p; exact p
  | bk ρ' st' => rw [e] at p; exact p
  | ct ρ' st' => rw [e] at p; exact p
  | err c ρ' st' => rw [e] at p; exact p
  | bad => rw [e] at p; exact p)
theorem jss_one {s:Stmt} {g:GS} (h1:JS X s g):JSs X [s] g:=JSs.of (pss_one ps_SS) fun ρ st σ H m D S R p => h1 ρ st σ H m D S R p
def gRet (g:GE):GS:=fun ρ st => (g ρ st).thn ρ fun w st' => .rt w st'
theorem js_ret {e:Expr} {g:GE} {pos:Pos} (h:JE X e g):JS X (.Return (some e) pos) (gRet g) :=
 JS.of (ps_ret pe_SE) fun ρ st σ H m D S R p => h.go S R (PostS.of_thn R p) fun w st1 v m1 H1 q e1 S1 r1 => q v m1 H1 e1 S1 r1
theorem js_pass {pos:Pos}:JS X (.Pass pos) gNext:=JS.of ps_pass fun ρ st σ H m D S R p => p σ m H Ext.refl S R
def gExpr (g:GE):GS:=fun ρ st => (g ρ st).thn ρ fun _ st' => .nx ρ st'
theorem js_expr {e:Expr} {g:GE} {pos:Pos} (h:JE X e g) (hs:swapsWith e none pos.line X.env = pure false:=by rfl):JS X (.Expr e pos) (gExpr g) :=
 JS.of (ps_expr pe_SE hs) fun ρ st σ H m D S R p => h.go S R (PostS.of_thn R p) fun w st1 v m1 H1 q e1 S1 r1 => q σ m1 H1 e1 S1 (R.mono e1)
def gIf (gt:GT) (ga gb:GS):GS:=fun ρ st => (gt ρ st).thn ρ fun b st' => if b = true then ga ρ st' else gb ρ st'
theorem js_if {c:Expr} {a b:List Stmt} {gt:GT} {ga gb:GS} {pos:Pos} (hc:JT X c gt) (ha:JSs X a ga) (hb:JSs X b gb):JS X (.If c a b pos) (gIf gt ga gb) :=
 JS.of (ps_if pt_ST pss_SSs pss_SSs) fun ρ st σ H m D S R p => hc.go S R (PostS.of_thn R p) fun k st1 m1 H1 q e1 S1 => by
  cases k with
  | true => rw [if_pos rfl] at q ⊢; exact ha ρ st1 σ H1 m1 D S1 (R.mono e1) (PostS.shift q e1)
  | false => rw [if_neg Bool.false_ne_true] at q ⊢; exact hb ρ st1 σ H1 m1 D S1 (R.mono e1) (PostS.shift q e1)
def gSet (i:Nat) (g:GE):GS:=fun ρ st => (g ρ st).thn ρ fun w st' => .nx (ρ.set i (some w)) st'
theorem js_set (i:Nat) {x:Str} {e:Expr} {g:GE} {pos pos':Pos} (hN:X.N.Nodup) (h:JE X e g) (hi:X.N[i]? = some x:=by rfl) (hx:Loc X.env.scope x:=by first | exact Or.inl rfl | exact Or.inr rfl) (hs:swapsWith e (some (.Name x pos')) pos.line X.env = pure false:=by rfl)
  (hf:X.fn x = true ∨ X.env.scope.names.lookup x = some .local:=by first | exact .inl rfl | exact .inr rfl | assumption):JS X (.Assign [.Name x pos'] e pos) (gSet i g) :=
 JS.of (ps_set hN hi hx pe_SE hs hf) fun ρ st σ H m D S R p => h.go S R (PostS.of_thn R p) fun w st1 v m1 H1 q e1 S1 r1 => q _ m1 H1 e1 S1 ((R.mono e1).set i r1)
def gNever:GS:=fun _ _ => .bad
theorem js_never {s:Stmt}:JS X s gNever:=JS.of ps_never fun ρ st σ H m D S R p => p
theorem jss_never {s:List Stmt}:JSs X s gNever:=JSs.of pss_never fun ρ st σ H m D S R p => p
def oSet (o i v:Wv) (ρ:Rho) (st:Hs):Rs:=match o,i with
 | .ref l,.int k => match st[l]? with
  | some (.lst ws) => (match ixN ws.length k with | some j => .nx ρ (st.set l (.lst (ws.set j v))) | none => .bad)
  | _ => .bad
 | _,_ => .bad
def gSetI (ge go gi:GE):GS:=fun ρ st => (ge ρ st).thn ρ fun v st1 => (go ρ st1).thn ρ fun o st2 => (gi ρ st2).thn ρ fun i st3 => oSet o i v ρ st3
theorem js_setI {o i e:Expr} {go gi ge:GE} {pos pos':Pos} (he:JE X e ge) (ho:JE X o go) (hi:JE X i gi) (hs:swapsWithSole [.Subscript o i pos'] e pos.line X.env = pure false:=by rfl) (hw:swappedStores [.Subscript o i pos'] e X.env = pure none:=by rfl)
  (h1:(assignEach [.Subscript o i pos'] X.env).map (·.2) = [assign (.Subscript o i pos') X.env]:=by rfl)
  (ha:∀ v,assign (.Subscript o i pos') X.env v = (do
   let ov ← holding [v] (eval o X.env)
   let iv ← holding [v,ov] (eval i X.env)
   standAt pos'
   holding [v,ov,iv] (setItem ov iv v)
   release [v,ov,iv] []):=by intro _; rfl):JS X (.Assign [.Subscript o i pos'] e pos) (gSetI ge go gi):=by
 refine JS.of (ps_asg pe_SE (pg_sub pe_SE pe_SE set_list ha) hs hw h1) fun ρ st σ H m D S R p => ?_
 refine he.go S R (PostS.of_thn R p) fun v st1 vv m1 H1 p1 e1 S1 rv => ?_
 refine ho.go S1 (R.mono e1) ((PostS.of_thn (m:=m) (H:=H) R p1).imp e1 fun _ _ q => q) fun o' st2 ov m2 H2 p2 e2 S2 ro => ?_
 refine hi.go S2 (R.mono (e1.trans e2)) ((PostS.of_thn (m:=m) (H:=H) R p2).imp (e1.trans e2) fun _ _ q => q) fun i' st3 iv m3 H3 p3 e3 S3 ri => ?_
 have e13:=e1.trans (e2.trans e3)
 cases o' with
 | ref l =>
  cases i' with
  | int k =>
   have p3':PostS X m H (match st3[l]? with | some (.lst ws) => (match ixN ws.length k with | some j => .nx ρ (st3.set l (.lst (ws.set j v))) | none => .bad) | _ => .bad) D:=p3
   have ro3:=RelW.mono e3 _ _ ro
   unfold RelW at ro3
   obtain ⟨a,rfl,f1⟩:=ro3
   cases e:st3[l]? with
   | none => rw [e] at p3'; exact False.elim p3'
   | some ob =>
    cases ob with
    | dct kvs => rw [e] at p3'; exact False.elim p3'
    | dcT kvs => rw [e] at p3'; exact False.elim p3'
    | scr ns => rw [e] at p3'; exact False.elim p3'
    | lst ws =>
     rw [e] at p3'
     cases ej:ixN ws.length k with
     | none => simp only [ej] at p3'; exact False.elim p3'
     | some j =>
      simp only [ej] at p3'
      obtain ⟨xs,g1,g2⟩:=S3.lstAt f1 e
      refine ⟨a,xs,k,j,rfl,relInt ri,g1,by rw [← g2.length]; exact ej,?_⟩
      have rv3:=RelW.mono (e2.trans e3) _ _ rv
      have e4:Ext X.K m3 H3 m3 (upd H3 a (.lst (xs.set j vv))):=Ext.upd (.inr ⟨xs,g1⟩)
      exact p3' σ m3 _ (e13.trans e4) (S3.write f1 e (g2.set j rv3)) (R.mono (e13.trans e4))
  | _ => exact False.elim p3
 | _ => cases i' <;> exact False.elim p3
open Classical in
noncomputable def forL (i:Nat) (gb:GS) (l:Nat) (all:List Wv):List Wv → Rho → Hs → Rs
 | [],ρ,st => .nx ρ st
 | w :: r,ρ,st => match gb (ρ.set i (some w)) st with
  | .nx ρ' st' => if lstOf st' l = some all then forL i gb l all r ρ' st' else .bad
  | .ct ρ' st' => if lstOf st' l = some all then forL i gb l all r ρ' st' else .bad
  | .bk ρ' st' => .nx ρ' st'
  | .rt w st' => .rt w st'
  | .err c ρ' st' => .err c ρ' st'
  | .bad => .bad
end
end J
namespace J
open PySem PySem.Spec PyProof.Rows L2
def CXJ (P:Program) (w:World):CXT:=fun outer H s E e s' => ∃ H' C,Flown P w outer H s H' (.ref C) e s' ∧ E (.ref C) none H'
section
variable {X:Cx} {pins:List (Addr × Obj)} {σ:St} {Hc H':Hp} {sc s':Shared} {cls e:Value} {E:Value → Shared → Prop} {Q:Unit → Shared → Prop}
theorem old_ne (I:Inv X pins σ Hc sc) {b:Addr} {o:Obj} (q:X.s₀.heap.get? b = some o):b ≠ X.env.locals:=fun z => by
 have h1:=Heap.lt_size q
 have h2:=I.ok.above
 rw [z] at h1
 exact absurd (Nat.lt_of_lt_of_le h1 h2) (Nat.lt_irrefl _)
theorem old_out (I:Inv X pins σ Hc sc) (hst:X.stack = X.env :: X.outer) (hf:X.env.frame = some X.env.locals) {b:Addr} {o:Obj} (q:X.s₀.heap.get? b = some o) (hb:b ∉ frs X.outer):b ∉ frs X.stack:=fun z => by
 rw [hst] at z
 unfold frs at z
 rw [List.filterMap_cons,hf] at z
 rcases List.mem_cons.mp z with z | z
 ·exact old_ne I q z
 ·exact hb z
theorem in_stack (hst:X.stack = X.env :: X.outer) (hf:X.env.frame = some X.env.locals) {b:Addr} (hb:b ∈ frs X.outer):b ∈ frs X.stack:=by
 rw [hst]
 unfold frs
 rw [List.filterMap_cons,hf]
 exact List.mem_cons_of_mem _ hb
theorem note_any {M:Model} {A:Around} {E:Value → Shared → Prop} {s:Shared} {base:Heap} {env:Env} {outer:List Env} {L e:Addr} {cls a0 nt:Value} {Q:Unit → Shared → Prop} (hfr:A.frames = some (env :: outer)) (hf:env.frame = some L)
  (x:base.StaysIn s.heap ∧ base.get? e = none ∧ s.heap.FunFrames base (env :: outer) ∧ s.heap.TracedAtW base e cls a0 nt) (k:∀ h',Heap.HeldW base (env :: outer) e cls a0 L h' → s.heap.UpToSlots h' → Q () { s with heap:=h' }) :
  wpAny M A (noteFrame (.ref e) env) Q E s:=by
 obtain ⟨x1,x2,x3,x4⟩:=x
 by_cases z:nt = rawInt L
 ·subst z
  exact wpAny_noteFrame_againW hf x4 (k s.heap ⟨x1,x2,x3,x4⟩ (Heap.UpToSlots.refl _))
 ·obtain ⟨ox,us,T,ot,ws,g1,⟨g2,g3⟩,g4,g5,g6,g7,g8,g9,g10⟩:=x4
  subst g2
  have apart:∀ b,b ≠ T → (s.heap.update T (Obj.mapFields (·.setIfInBounds 3 Value.none))).get? b = s.heap.get? b:=fun b hb => Heap.get?_update_other _ _ (Ne.symm hb)
  have plain:∀ b o,s.heap.get? b = some o → (∀ vs,o.data ≠ .fields vs) → b ≠ T:=fun b o hb hd q => by
   subst q
   rw [g8] at hb
   cases hb
   exact hd ws g9
  unfold noteFrame
  simp only [hf]
  refine wpAny_bind (wpAny_field g1 g4 g5 ?_)
  rw [if_pos (show (Value.ref T != Value.none) = true from by simp)]
  refine wpAny_bind (wpAny_field g8 g9 g10 ?_)
  rw [if_neg (show ¬ ((nt == rawInt L) = true) from by simpa using z)]
  refine wpAny_bind (wpAny_setField g8 g9 (Array.getElem?_eq_some_iff.mp g10).1 ?_)
  refine wpAny_entryW hfr (x3.of_keeps fun b o hb hd => ⟨o,(apart b (plain b o hb hd)).trans hb,rfl⟩) hf ((apart e (Ne.symm g7)).trans g1) (fun b o hb => (apart b fun q => by rw [q,g6] at hb; cases hb).trans (x1 b o hb)) x2 g4 (Array.getElem?_eq_some_iff.mp g5).1 g3 fun h' y => ?_
  obtain ⟨y1,y2,y3,y4⟩:=y
  exact k h' ⟨y1,x2,y2,y3⟩ fun b o hb hd => y4 b o ((apart b (plain b o hb hd)).trans hb) hd
theorem note_made {M:Model} {A:Around} {E:Value → Shared → Prop} {s:Shared} {base h:Heap} {env:Env} {outer:List Env} {L a:Addr} {cls:Value} {args:List Value} {Q:Unit → Shared → Prop} (hfr:A.frames = some (env :: outer)) (hf:env.frame = some L)
  (st:base.StaysIn h) (fs:h.FunFrames base (env :: outer)) (mk:Heap.MadeExcOf h s.heap a cls args) (k:∀ h' a0,Heap.HeldW base (env :: outer) a cls a0 L h' → s.heap.UpToSlots h' → Q () { s with heap:=h' }) :
  wpAny M A (noteFrame (.ref a) env) Q E s:=by
 obtain ⟨t,e1,e2,e3⟩:=mk.there
 have fresh:∀ b,h.get? b = none → base.get? b = none:=fun b hb => by
  cases q:base.get? b with
  | none => rfl
  | some o' => have z:=st b o' q; rw [hb] at z; cases z
 have fs':=fs.of_keeps (h':=s.heap) fun b o hb _ => ⟨o,mk.keeps b o hb,rfl⟩
 unfold noteFrame
 simp only [hf]
 refine wpAny_bind (wpAny_field e1 rfl (x:=.none) rfl ?_)
 rw [if_neg (by decide)]
 refine wpAny_entryW hfr fs' hf e1 (fun b o hb => mk.keeps b o (st b o hb)) (fresh a mk.new) rfl (by simp) (a0:=.ref t) rfl fun h' lw => ?_
 obtain ⟨l1,l2,l3,l4⟩:=lw
 exact k h' (.ref t) ⟨l1,fresh a mk.new,l2,l3⟩ l4
theorem un_out {ch:List Addr} (hx:X.ex = []) (hst:X.stack = X.env :: X.outer) (hf:X.env.frame = some X.env.locals) (I:Inv X pins σ Hc sc) {B h2:Heap} (hch:∀ b ∈ ch,FpOk X pins Hc b) (un:Un (frs X.stack) ch Hc H' sc.heap s'.heap) (up:s'.heap.UpToSlots h2) (stay:B.StaysIn h2)
  (cov:∀ b o,sc.heap.get? b = some o → b ∉ frs X.stack → b ∉ ch → ∃ o',B.get? b = some o' ∧ (Hc b = none → o' = o)) :
  Un (frs X.outer) [] X.H₀ H' X.s₀.heap h2 ∧ (∀ b o,X.s₀.heap.get? b = some o → b ∉ frs X.outer → ∃ o',B.get? b = some o' ∧ (X.H₀ b = none → o' = o)):=by
 have nx:∀ b:Addr,b ∉ X.ex:=fun b => by rw [hx]; simp
 have nc:∀ b o,X.s₀.heap.get? b = some o → b ∉ ch:=fun b o q z => by
  rcases (hch b z).2.2.2.1 with y | y
  ·exact nx b y
  ·exact absurd (Nat.lt_of_lt_of_le (Heap.lt_size q) y) (Nat.lt_irrefl _)
 have cov2:∀ b o,X.s₀.heap.get? b = some o → b ∉ frs X.outer → ∃ o',B.get? b = some o' ∧ (X.H₀ b = none → o' = o):=fun b o q hb => by
  obtain ⟨o1,q1⟩:=I.base.there b o q (nx b)
  obtain ⟨o2,q2,q3⟩:=cov b o1 q1 (old_out I hst hf q hb) (nc b o q)
  refine ⟨o2,q2,fun n => ?_⟩
  have q4:=I.base.keep b o q n hb (nx b)
  rw [q4] at q1
  cases q1
  exact q3 (I.base.free b o q n (nx b))
 have sl:∀ b o,X.s₀.heap.get? b = some o → X.H₀ b = none → b ∈ frs X.outer → ∃ sl,h2.get? b = some { o with slots:=sl }:=fun b o q n hb => by
  obtain ⟨s1,q1⟩:=I.base.slot b o q n hb (nx b)
  obtain ⟨s2,q2⟩:=un.slot b _ q1 (I.base.free b o q n (nx b)) (in_stack hst hf hb) (nc b o q)
  obtain ⟨_,o3,q3,q4⟩:=I.ok.funs.mem hb
  rw [q] at q3
  cases q3
  obtain ⟨s3,q5⟩:=up b _ q2 q4
  exact ⟨s3,q5⟩
 refine ⟨⟨fun b o q n hb _ => ?_,fun b o q n hb _ => sl b o q n hb,fun b o q n _ => ?_,fun b o q _ => ?_,fun b xs h => un.tups b xs (I.base.tups b xs h),fun b o u h => un.frzs b o u (I.base.frzs b o u h),fun b ps h => ?_⟩,cov2⟩
 ·obtain ⟨o2,q2,q3⟩:=cov2 b o q hb
  rw [q3 n] at q2
  exact stay b o q2
 ·obtain ⟨o1,q1⟩:=I.base.there b o q (nx b)
  exact un.free b o1 q1 (I.base.free b o q n (nx b)) (nc b o q)
 ·by_cases hb:b ∈ frs X.outer
  ·obtain ⟨s3,q3⟩:=sl b o q (I.ok.frf b hb) hb
   exact ⟨_,q3⟩
  ·obtain ⟨o2,q2,_⟩:=cov2 b o q hb
   exact ⟨o2,stay b o2 q2⟩
 ·obtain ⟨m1,t1⟩:=I.base.tbls b ps h
  obtain ⟨m2,t2⟩:=un.tbls b _ t1
  exact ⟨m1 ++ m2,by rw [← Array.append_assoc]; exact t2⟩
theorem leave_flown (hx:X.ex = []) (hst:X.stack = X.env :: X.outer) (hf:X.env.frame = some X.env.locals) (I:Inv X pins σ Hc sc) (F:FlownA X pins Hc sc H' cls e s')
  (k:∀ s2,Flown X.prog X.w X.outer X.H₀ X.s₀ H' cls e s2 → Q () s2):wpAny (model X.prog X.w) X.A (leaving X.env e) Q E s':=by
 obtain ⟨a,a0,nt,B,ch,rfl,os,bare,hch,un,hok,fl,cov⟩:=F
 have hfr:X.A.frames = some (X.env :: X.outer):=by rw [I.ok.frames,hst]
 rw [hst] at fl
 unfold leaving
 refine wpAny_bind (note_any hfr hf fl fun h1 hd1 up1 => ?_)
 refine wpAny_landsW hd1 fun h2 fl2 up2 => k _ ?_
 obtain ⟨k1,k2,⟨_,_,k3⟩,k4⟩:=fl2
 obtain ⟨u2,c2⟩:=un_out hx hst hf I hch un (up1.trans up2) k1 cov
 exact ⟨a,a0,B,rfl,os.trans I.os,bare,u2,hok,⟨k1,k2,k3,k4⟩,c2⟩
theorem hok_hide {P:Program} {w:World} {H:Hp} {h:Heap} {l:List Addr} (ok:HOk P w H h) (fr:∀ b ∈ l,H b = none):HOk P w H (PySem.W.hideAll h l):=fun a o q =>
 (ok a o q).stay (fun b u hb r => PySem.W.hideAll_get _ r fun z => by
  have n:=fr b z
  rcases hb with hb | hb
  ·rw [hb,q] at n; cases n
  ·rw [hb] at n; cases n) (fun _ r => r) fun _ _ r => r
theorem leave_made {a C:Addr} {args:List Value} (hx:X.ex = []) (hst:X.stack = X.env :: X.outer) (hf:X.env.frame = some X.env.locals) (I:Inv X pins σ Hc sc) (ho:s'.os = sc.os) (hgn:s'.gens = sc.gens)
  (M:Heap.MadeExcOf sc.heap s'.heap a (.ref C) args) (k:∀ s2,Flown X.prog X.w X.outer X.H₀ X.s₀ Hc (.ref C) (.ref a) s2 → Q () s2):wpAny (model X.prog X.w) X.A (leaving X.env (.ref a)) Q E s':=by
 have hfr:X.A.frames = some (X.env :: X.outer):=by rw [I.ok.frames,hst]
 have fs:sc.heap.FunFrames (PySem.W.hideAll sc.heap (frs X.stack)) (X.env :: X.outer):=by
  rw [← hst]
  exact PySem.W.funFrames_hide I.stack fun env he b hb => List.mem_filterMap.mpr ⟨env,he,hb⟩
 refine wpAny_leaves_madeW (base:=PySem.W.hideAll sc.heap (frs X.stack)) hfr hf (fun b o q => PySem.W.of_hideAll _ q) fs M fun h2 t fl2 _ _ up => k _ ?_
 obtain ⟨u2,c2⟩:=un_out (H':=Hc) (s':=s') (ch:=[]) hx hst hf I (fun b z => by cases z) (Un.kept M.keeps) up fl2.1 fun b o q hb _ => ⟨o,PySem.W.hideAll_get _ q hb,fun _ => rfl⟩
 exact ⟨a,.ref t,_,rfl,ho.trans I.os,by rw [show ({ s' with heap:=h2 }:Shared).gens = sc.gens from hgn]; exact I.bare,u2,hok_hide I.hok I.stkFree,fl2,c2⟩
end
def PostF (K:PySem.W.Frag) (m:Mp) (H:Hp) (r:Re Wv) (Q:VK) (E:XK):Prop:=match r with
 | .ok w st => okE K m H Q w st
 | .err c st => ∀ (m':Mp) (H':Hp) (C:Addr),Ext K m H m' H' → Sim K m' st H' → ClsAt K c C → E (.ref C) none H'
 | .bad => False
def spW (K:PySem.W.Frag) (n:Nat) (F:List Wv → Hs → Re Wv):Sp:=fun vs H Q E => ∃ m st ws,Sim K m st H ∧ RelWs K m H ws vs ∧ ws.length = n ∧ PostF K m H (F ws st) Q E
def gCall (n:Nat) (F:List Wv → Hs → Re Wv) (g:GA):GE:=fun ρ st => (g ρ st).bind fun ws st1 => if ws.length = n then F ws st1 else .bad
section
variable {X:Cx}
theorem je_call {k n:Nat} {f:Addr} {fd:FuncData} {ps:List Str} {F:List Wv → Hs → Re Wv} {x:Str} {p pos:Pos} {e:Expr} {es:List Expr} {g:GA}
  (G:FnOk X.prog X.w X.K X.mg X.base (CXJ X.prog X.w) k f fd ps (spW X.K n F)) (hr:Room k X.A) (hm:X.mg x = some (.ref f)) (hk:PySem.W.keepIn X.K (.ref f) = true) (hb:Binds X.K fd ps []) (ha:JA X (e :: es) g) (hg:Gl X x:=by rfl)
  (hdb:(x == ("__debug__":Str)) = false:=by decide) (he:starEach (e :: es) X.env = (false,eval e X.env) :: starEach es X.env:=by rfl) (hpl:(backTo pos (starEach es X.env)).any (·.1) = false:=by rfl) :
  JE X (.Call (.Name x p) (e :: es) [] pos) (gCall n F g):=by
 intro ρ st σ H m Q S R p pins s I
 have args:=ha.go (T:=fun vs H1 => ∃ ws st1 m1,PostE X σ m H (if ws.length = n then F ws st1 else .bad) Q ∧ Ext X.K m H m1 H1 ∧ Sim X.K m1 st1 H1 ∧ RelWs X.K m1 H1 ws vs) S R (PostG.bind p)
  fun ws st1 vs m1 H1 p1 e1 S1 rs => ⟨ws,st1,m1,p1,e1,S1,rs⟩
 refine wpAny_Call_Name_kw (ld_glob I hg hm ?_ hdb)
 refine PySem.W.callWith_K (h₀:=X.base) I.ok.mod.kin hk (thn (args pos pins s I) fun us s1 ⟨vs,H1,I1,r,ws,st1,m1,p1,e1,S1,rs⟩ => ⟨I1.kIn,?_⟩) he hpl
 by_cases c:ws.length = n
 ·rw [if_pos c] at p1
  let E:XK:=fun cl _ H2 => ∃ c' st2 m2 C,cl = .ref C ∧ ClsAt X.K c' C ∧ F ws st1 = .err c' st2 ∧ Ext X.K m1 H1 m2 H2 ∧ Sim X.K m2 st2 H2
  have sp:spW X.K n F vs H1 Q E:=by
   refine ⟨m1,st1,ws,S1,rs,c,?_⟩
   cases er:F ws st1 with
   | ok w st2 => rw [er] at p1; exact PostE.shift (r:=.ok w st2) p1 e1
   | err c' st2 => exact fun m2 H2 C e2 S2 hC => ⟨c',st2,m2,C,rfl,hC,er,e2,S2⟩
   | bad => rw [er] at p1; exact False.elim p1
  have hl:us.length = ps.length:=by rw [← r.length]; exact G.len _ _ _ _ sp
  have bd:=hb s1 us I1.kIn (by rw [List.append_nil]; exact hl)
  rw [List.append_nil] at bd
  refine wpAny_call (codeAny_mono (G.run X.A X.stack s1 H1 ⟨us,[]⟩ us vs Q E hr I1.env0 bd r sp) fun rr s2 hq => ?_)
  cases rr with
  | error x =>
   obtain ⟨H2,C,fl,c',st2,m2,C',ec,hC,er,e2,S2⟩:=hq
   cases ec
   rw [er] at p1
   exact p1 m2 H2 x s2 (e1.trans e2) S2 ⟨C,pins,H1,s1,hC,I1,.inl fl.any⟩
  | ok fw =>
   cases fw with
   | ret u => exact I1.after hq
   | next => exact False.elim hq
   | brk => exact False.elim hq
   | cont => exact False.elim hq
 ·rw [if_neg c] at p1; exact False.elim p1
end
def fnF (n:Nat) (g:GS):List Wv → Hs → Re Wv:=fun ws st => match g (ws.map some ++ List.replicate (n - ws.length) none) st with
 | .nx _ st' => .ok .non st'
 | .rt w st' => .ok w st'
 | .err c _ st' => .err c st'
 | _ => .bad
theorem startRel {K:PySem.W.Frag} {m:Mp} {H:Hp} {N:List Str} {ws:List Wv} {vs:List V} (r:RelWs K m H ws vs) (h:ws.length ≤ N.length):RelEnv K m H (ws.map some ++ List.replicate (N.length - ws.length) none) (L2.start N vs):=by
 have hl:=r.length
 refine ⟨by unfold L2.start; simp [hl],fun i w e => ?_⟩
 by_cases hi:i < ws.length
 ·rw [List.getElem?_append_left (by simpa using hi),List.getElem?_map] at e
  cases q:ws[i]? with
  | none => rw [q] at e; cases e
  | some w' =>
   rw [q] at e
   cases e
   obtain ⟨x,h1,h2⟩:=r.get q
   refine ⟨x,?_,h2⟩
   unfold L2.start
   rw [List.getElem?_append_left (by simp; omega),List.getElem?_map,h1]
   rfl
 ·rw [List.getElem?_append_right (by simpa using hi),List.getElem?_replicate] at e
  split at e <;> cases e
section
variable {P:Program} {w:World} {K:PySem.W.Frag} {mg:Str → Option Value} {base:Heap}
theorem raised_out {N:List Str} {qual:Str} {scope:Scope} {f:Addr} {cdv:Value} {A:Around} {outer:List Env} {s s':Shared} {H H':Hp} {E:XK} {σ:St} {c:PySem.Str} {e:Value}
  (r:Raised (cxOf (CXJ P w) P w K mg base N qual scope f cdv A outer s H E) σ H' c e s') (h:∀ C,ClsAt K c C → E (.ref C) none H'):(cxOf (CXJ P w) P w K mg base N qual scope f cdv A outer s H E).xe e s':=by
 obtain ⟨C,pins,Hc,sc,hC,I,r⟩:=r
 rcases r with fl | ⟨rfl,a,args,rfl,ho,hg,M⟩
 ·exact leave_flown (X:=cxOf (CXJ P w) P w K mg base N qual scope f cdv A outer s H E) rfl rfl rfl I fl fun s2 fl2 => ⟨H',C,fl2,h C hC⟩
 ·exact leave_made (X:=cxOf (CXJ P w) P w K mg base N qual scope f cdv A outer s H E) rfl rfl rfl I ho hg M fun s2 fl2 => ⟨H',C,fl2,h C hC⟩
def CodeOf (K:PySem.W.Frag) (f:Addr) (cdv:Value):Prop:=∃ o,K.lookup f = some o ∧ ∃ fd,o.data = .func fd ∧ fd.code = cdv
theorem fn_ok {x qual:Str} {st:Stmt} {f:Addr} {fd:FuncData} {N ps:List Str} {k:Nat} {g:GS} (F:Fun K x qual st f fd) (S:FnScope N ps (defScope st))
  (body:∀ (cdv:Value),CodeOf K f cdv → ∀ (A:Around) (outer:List Env) (s:Shared) (H:Hp) (E:XK),Room k (A.deeper (envOfC qual (defScope st) s.heap.objs.size f cdv)) → JSs (cxOf (CXJ P w) P w K mg base N qual (defScope st) f cdv A outer s H E) (defBody st) g) :
  FnOk P w K mg base (CXJ P w) (k + 1) f fd ps (spW K ps.length (fnF N.length g)):=by
 have hpl:ps.length ≤ N.length:=by have:=congrArg List.length S.pre; rw [List.length_take] at this; omega
 obtain ⟨oc,od,kV,doc,pm,an,cdv,ct,osl,rfl,lk,hcd⟩:=F.ex
 refine fn_of lk hcd S (fun vs H Q E h => ?_) fun A outer s H vs Q E hr h => ?_
 ·obtain ⟨m,st',ws,_,r,hl,_⟩:=h
  rw [← r.length]; exact hl
 ·obtain ⟨m,st',ws,S',r,hl,p⟩:=h
  refine ⟨_,pss_SSs,?_⟩
  refine body cdv ⟨_,lk,_,rfl,rfl⟩ A outer s H E hr _ st' _ H m _ S' (startRel r (by omega)) ?_
  unfold fnF at p
  cases e:g (ws.map some ++ List.replicate (N.length - ws.length) none) st' with
  | nx ρ st2 => rw [e] at p; exact fun σ m' H' e' S2 R2 => p _ m' H' e' S2 (by unfold RelW; rfl)
  | rt w' st2 => rw [e] at p; exact p
  | bk ρ st2 => rw [e] at p; exact False.elim p
  | ct ρ st2 => rw [e] at p; exact False.elim p
  | err c ρ st2 => rw [e] at p; exact fun σ m' H' x s' e' S2 R2 rz => raised_out rz fun C hC => p m' H' C e' S2 hC
  | bad => rw [e] at p; exact False.elim p
end
def OnlyT (H:Hp):Prop:=∀ b,H b = none ∨ (∃ o xs,H b = some (.frz o (.lst xs))) ∨ H b = some (.tbl #[])
theorem OnlyT.of {H:Hp} (h:Only H):OnlyT H:=fun b => by
 rcases h b with q | q
 ·exact .inl q
 ·exact .inr (.inl q)
theorem law_sp {K:PySem.W.Frag} {F:List Wv → Hs → Re Wv} (h:∀ ns:List Int,ns.length ≤ 63 → ∃ st,F [.ref 0] [.scr ns] = .ok (.bl true) st) (H:Hp) (a:Addr) (ns:List Int) (hl:ns.length ≤ 63) (hO:OnlyT H) (hS:SqL K H a (ns.map V.int)) (hT:TbOk K H) :
  spW K 1 F [.ref a] H (fun v _ => v = .bl true) fun _ _ _ => False:=by
 obtain ⟨st,e⟩:=h ns hl
 refine ⟨[a],[.scr ns],[.ref 0],⟨rfl,fun l b o h1 h2 => ?_,fun l l' b ws ws' _ _ h2 _ k _ => ?_,hT⟩,RelWs.cons (by unfold RelW; exact ⟨a,rfl,rfl⟩) RelWs.nil,rfl,?_⟩
 ·cases l with
  | zero =>
   simp at h1 h2
   subst h1 h2
   show ScrOk K H a ns
   rcases hS with (q | ⟨o',q⟩) | q
   ·rcases hO a with z | ⟨o',xs,z⟩ | z
    ·rw [z] at q; cases q
    ·rw [z] at q; cases q
    ·rw [z] at q; cases q
   ·exact .inl ⟨o',q⟩
   ·exact .inr q
  | succ l => simp at h1
 ·cases l with
  | zero => simp at h2; subst h2; simp [Ob.mu] at k
  | succ l => simp at h2
 ·rw [e]
  intro v m' H' _ _ r
  unfold RelW at r
  exact r
end J
namespace J
open PySem PySem.Spec PyProof.Rows L2
def truW (w:Wv) (st:Hs):Re Bool:=match w with
 | .non => .ok false st
 | .bl b => .ok b st
 | .int i => .ok (i != 0) st
 | .str y => if y.length ≤ lim then .ok ((y.length:Int) != 0) st else .bad
 | .tup ws => .ok (!ws.isEmpty) st
 | .ktp _ => .bad
 | .ref l => match lstOf st l with
  | some ws => .ok (!ws.isEmpty) st
  | none => .bad
 | .ty _ => .bad
 | .cls _ => .bad
 | .exn _ => .bad
 | .fn _ _ => .bad
def gTru (g:GE):GT:=fun ρ st => (g ρ st).bind truW
section
variable {X:Cx}
theorem isE {m:Mp} {H:Hp} {ws:List Wv} {xs:List V} (r:RelWs X.K m H ws xs):(!ws.isEmpty) = !xs.isEmpty:=by
 have h:=r.length
 cases ws <;> cases xs <;> simp_all
theorem jt_tru {e:Expr} {g:GE} (h:JE X e g) (he:∀ whole,isTrue e X.env whole = (do let v ← whole; standAt e.pos; holding [v] (truthy v))):JT X e (gTru g) :=
 JT.of (pt_truth pe_SE he) fun ρ st σ H m Q S R p => h.go S R (PostG.bind p) fun w st1 v m1 H1 p1 e1 S1 r1 => by
  cases w with
  | non => unfold RelW at r1; subst r1; exact ⟨false,rfl,p1 m1 H1 e1 S1⟩
  | bl b => unfold RelW at r1; subst r1; exact ⟨b,rfl,p1 m1 H1 e1 S1⟩
  | int i => unfold RelW at r1; subst r1; exact ⟨_,rfl,p1 m1 H1 e1 S1⟩
  | str y =>
   obtain ⟨rfl,_⟩:=relStr r1
   have p2:PostT X σ m H (if y.length ≤ lim then .ok ((y.length:Int) != 0) st1 else .bad) Q:=p1
   by_cases c:y.length ≤ lim
   ·rw [if_pos c] at p2; exact ⟨_,⟨lim_le c,rfl⟩,p2 m1 H1 e1 S1⟩
   ·rw [if_neg c] at p2; exact False.elim p2
  | ktp ws => exact False.elim p1
  | tup ws =>
   unfold RelW at r1
   obtain ⟨a,xs,rfl,h1,h2⟩:=r1
   refine ⟨!xs.isEmpty,.inr (.inl ⟨xs,SqT.of h1,rfl⟩),?_⟩
   rw [← isE h2]
   exact p1 m1 H1 e1 S1
  | ref l =>
   unfold RelW at r1
   obtain ⟨a,rfl,h1⟩:=r1
   have p2:PostT X σ m H (match lstOf st1 l with | some ws => .ok (!ws.isEmpty) st1 | none => .bad) Q:=p1
   cases el:lstOf st1 l with
   | none => rw [el] at p2; exact False.elim p2
   | some ws =>
    rw [el] at p2
    obtain ⟨xs,hq,h2⟩:=S1.read h1 el
    refine ⟨!xs.isEmpty,.inl ⟨xs,hq,rfl⟩,?_⟩
    rw [← isE h2]
    exact p2 m1 H1 e1 S1
  | ty T => exact False.elim p1
  | cls T => exact False.elim p1
  | exn T => exact False.elim p1
  | fn fp T => exact False.elim p1
theorem all_fold {p:Nat → Bool} {x:Array Nat} (hx:x.all p = true):∀ (n:Nat) (a:Array Nat),a.all p = true → ((List.replicate n x).foldl (· ++ ·) a).all p = true
 | 0,a,h => h
 | n + 1,a,h => by
  rw [List.replicate_succ,List.foldl_cons]
  refine all_fold hx n _ ?_
  rw [Array.all_append,h,hx]
  rfl
theorem strOk_rep {x:PySem.Str} {n:Nat} (h:PyData.strOk x = true):PyData.strOk (repS n x) = true:=by
 unfold PyData.strOk at h ⊢
 unfold repS
 exact all_fold h n #[] (by simp)
theorem size_fold {x:Array Nat}:∀ (n:Nat) (a:Array Nat),((List.replicate n x).foldl (· ++ ·) a).size = a.size + x.size * n
 | 0,a => by simp
 | n + 1,a => by
  rw [List.replicate_succ,List.foldl_cons,size_fold n,Array.size_append,Nat.mul_succ]
  omega
theorem len_repS {x:PySem.Str} {n:Nat}:(repS n x).length = x.length * n:=by
 show ((List.replicate n x.cps).foldl (· ++ ·) #[]).size = x.cps.size * n
 rw [size_fold]
 simp
def CMulS (x:PySem.Str) (n:Int):Prop:=1 < n ∧ n ≤ 100000 ∧ x.length ≠ 0 ∧ x.length * n.toNat ≤ lim
instance {x n}:Decidable (CMulS x n):=by unfold CMulS; infer_instance
theorem op_mulS:OpR X (binaryOp .Mult) (fun x y H Q => ∃ z n,x = .str z ∧ y = .int n ∧ CMulS z n ∧ Q (.str (repS n.toNat z)) H):=by
 intro pins s σ H x y v u Q I rx ry h
 obtain ⟨z,n,rfl,rfl,⟨h1,h2,h3,h4⟩,q⟩:=h
 obtain ⟨t,rfl⟩:=rx
 obtain ⟨t',rfl⟩:=ry
 have n1:¬ n < 1:=by omega
 have hlen:z.length ≤ lim:=by
  refine Nat.le_trans ?_ h4
  exact Nat.le_mul_of_pos_right _ (by omega)
 have hne:(n == 1 || z.length == 0) = false:=by
  have e1:(n == 1) = false:=by rw [beq_eq_false_iff_ne]; omega
  have e2:(z.length == 0) = false:=by rw [beq_eq_false_iff_ne]; exact h3
  rw [e1,e2]; rfl
 have hl:PySem.Builtin.Str.tooLong (z.length * n.toNat) = false:=by
  unfold PySem.Builtin.Str.tooLong
  have q:=lim_le h4
  first
   | exact decide_eq_false (by omega)
   | simp only [decide_eq_false_iff_not]; omega
 refine PySem.P.mul_str (by
   have e1:¬ n < -(2 ^ 63:Int):=by omega
   have e2:¬ n ≥ 2 ^ 63:=by omega
   rw [decide_eq_false e1,decide_eq_false e2]; rfl) (fun _ _ => ?_) (fun _ _ => hl) ?_
 ·have e:((2:Int) ^ 63 - 1) / 100000 ≤ (2 ^ 63 - 1) / n:=by
   refine Int.le_ediv_of_mul_le (by omega) ?_
   have:((2:Int) ^ 63 - 1) / 100000 * n ≤ ((2:Int) ^ 63 - 1) / 100000 * 100000:=Int.mul_le_mul_of_nonneg_left h2 (by decide)
   exact Int.le_trans this (by decide)
  have e':(1000000:Int) ≤ (2 ^ 63 - 1) / 100000:=by decide
  unfold lim at hlen
  omega
 ·rw [if_neg n1,if_neg (by rw [hne]; exact Bool.false_ne_true)]
  exact ⟨by show (repS n.toNat z).length ≤ _; rw [len_repS]; exact lim_le h4,.str (repS n.toNat z),H,I.tok _,⟨_,rfl⟩,q⟩
def oMulS:Op2
 | .int i,.int j,st => if IntMulOk i j then .ok (.int (i * j)) st else .bad
 | .str z,.int n,st => if CMulS z n then .ok (.str (repS n.toNat z)) st else .bad
 | _,_,_ => .bad
theorem ow_mulS:OpW X (binaryOp .Mult) oMulS:=⟨_,OpR.or op_mulG op_mulS,fun x y a b st H m Q S rx ry p => by
 cases x with
 | int i =>
  cases y with
  | int j =>
   cases relInt rx; cases relInt ry
   have p':PostO X.K m H (if IntMulOk i j then .ok (.int (i * j)) st else .bad) Q:=p
   by_cases c:IntMulOk i j
   ·rw [if_pos c] at p'; exact .inl ⟨i,j,rfl,rfl,c,p' _ m H Ext.refl S mkInt⟩
   ·rw [if_neg c] at p'; exact False.elim p'
  | _ => exact False.elim p
 | str z =>
  cases y with
  | int n =>
   obtain ⟨rfl,hz⟩:=relStr rx
   cases relInt ry
   have p':PostO X.K m H (if CMulS z n then .ok (.str (repS n.toNat z)) st else .bad) Q:=p
   by_cases c:CMulS z n
   ·rw [if_pos c] at p'; exact .inr ⟨z,n,rfl,rfl,c,p' _ m H Ext.refl S (mkStr (strOk_rep hz))⟩
   ·rw [if_neg c] at p'; exact False.elim p'
  | _ => exact False.elim p
 | _ => exact False.elim p⟩
def gBad:GE:=fun _ _ => .bad
def gBadT:GT:=fun _ _ => .bad
theorem je_bad {e:Expr}:JE X e gBad:=fun ρ st σ H m Q S R p => False.elim p
theorem jt_bad {e:Expr}:JT X e gBadT:=fun ρ st σ H m Q S R p => False.elim p
end
def Has (P:Program) (w:World) (K:PySem.W.Frag) (mg:Str → Option Value) (base:Heap) (k:Nat) (x:Str) (n:Nat) (F:List Wv → Hs → Re Wv):Prop :=
 ∃ f fd ps,FnOk P w K mg base (CXJ P w) k f fd ps (spW K n F) ∧ mg x = some (.ref f) ∧ PySem.W.keepIn K (.ref f) = true ∧ Binds K fd ps []
theorem Has.mono {P:Program} {w:World} {K:PySem.W.Frag} {mg:Str → Option Value} {base:Heap} {j k:Nat} {x:Str} {n:Nat} {F:List Wv → Hs → Re Wv} (h:Has P w K mg base j x n F) (l:j ≤ k):Has P w K mg base k x n F:=by
 obtain ⟨f,fd,ps,G,r⟩:=h
 exact ⟨f,fd,ps,G.mono l,r⟩
def DefAt (K:PySem.W.Frag) (x:Str) (st:Stmt):Prop:=∃ f fd,PySem.W.nsIn K mainGlobals x = some (some (.ref f)) ∧ Fun K x x st f fd
theorem def_at {K:PySem.W.Frag} {x:Str} {st:Stmt} {f:Addr} {oc:Value} {od an:Option Addr} {osl:Array (Option Value)} {kV doc pm cdv ct:Value} (a:PySem.W.nsIn K mainGlobals x = some (some (.ref f)))
  (l:K.lookup f = some ⟨oc,od,.func (PySem.W.fnOf x x (defArgs st) (defBody st) (defScope st) .none kV doc pm an cdv ct),osl⟩) (c:PySem.W.codeIn K cdv x = true) (k:PySem.W.keepIn K (.ref f) = true):DefAt K x st:=⟨f,_,a,fun_mk l c k⟩
theorem boot_isI:bootBuiltins "isinstance" = some (.builtin "isinstance"):=by decide +kernel
theorem boot_lenJ:bootBuiltins "len" = some (.builtin "len"):=by decide +kernel
theorem boot_tyI:bootBuiltins "int" = some (.type "int"):=by decide +kernel
theorem boot_tyS:bootBuiltins "str" = some (.type "str"):=by decide +kernel
theorem boot_tyB:bootBuiltins "bool" = some (.type "bool"):=by decide +kernel
theorem boot_tyT:bootBuiltins "tuple" = some (.type "tuple"):=by decide +kernel
theorem boot_tyL:bootBuiltins "list" = some (.type "list"):=by decide +kernel
end J
namespace J
open PySem PySem.Spec PyProof.Rows L2
def forT (i:Nat) (gb:GS):List Wv → Rho → Hs → Rs
 | [],ρ,st => .nx ρ st
 | w :: r,ρ,st => match gb (ρ.set i (some w)) st with
  | .nx ρ' st' => forT i gb r ρ' st'
  | .ct ρ' st' => forT i gb r ρ' st'
  | .bk ρ' st' => .nx ρ' st'
  | .rt w st' => .rt w st'
  | .err c ρ' st' => .err c ρ' st'
  | .bad => .bad
section
variable {X:Cx}
theorem for_core (i:Nat) {body:List Stmt} {gb:GS} (hb:JSs X body gb) {J':It} {ws:List Wv} {m1:Mp} {H1:Hp} {st1:Hs} {ρ:Rho} {σ:St} {D:Ends} (S1:Sim X.K m1 st1 H1) (R:RelEnv X.K m1 H1 ρ σ) (p1:PostS X m1 H1 (forT i gb ws ρ st1) D)
  (hgo:∀ (k:Nat) (H:Hp) (m':Mp),Ext X.K m1 H1 m' H → k < ws.length → J'.go k H) (hstop:∀ (k:Nat) (H:Hp) (m':Mp),Ext X.K m1 H1 m' H → k = ws.length → J'.stop k H)
  (hy:∀ (k:Nat) (hk:k < ws.length) (H:Hp) (x:V) (H':Hp) (m':Mp),Ext X.K m1 H1 m' H → J'.yld k H x H' → H' = H ∧ RelW X.K m' H ws[k] x) :
  ∃ W:Nat → Nat → St → Hp → Prop,(∃ m,W 0 m σ H1) ∧ ∀ k n σ H,W k n σ H →
   (J'.stop k H ∧ D.nx σ H) ∨ (J'.go k H ∧ ∃ N:St → Hp → Prop,(∀ σ' H',N σ' H' → ∃ m',m' < n ∧ W (k + 1) m' σ' H') ∧ ∀ x H',J'.yld k H x H' → gName i x σ H' fun σ2 H2 => SSs X body { D with nx:=N,ct:=N,bk:=D.nx } σ2 H2):=by
 let Pv:Nat → St → Hp → Prop:=fun k σ H => ∃ ρ st m',Ext X.K m1 H1 m' H ∧ Sim X.K m' st H ∧ RelEnv X.K m' H ρ σ ∧ PostS X m' H (forT i gb (ws.drop k) ρ st) D
 refine ⟨fun k n σ H => n = ws.length - k ∧ k ≤ ws.length ∧ Pv k σ H,⟨ws.length,by simp,Nat.zero_le _,ρ,st1,m1,Ext.refl,S1,R,p1⟩,?_⟩
 rintro k n σ2 H2 ⟨rfl,hk,ρ2,st2,m2,e2,S2,R2,p2⟩
 by_cases hlt:k < ws.length
 ·refine .inr ⟨hgo k H2 m2 e2 hlt,Pv (k + 1),fun σ' H' p' => ⟨ws.length - (k + 1),by omega,rfl,hlt,p'⟩,fun x H' y => ?_⟩
  obtain ⟨ee,rx'⟩:=hy k hlt H2 x H' m2 e2 y
  subst ee
  have ed:ws.drop k = ws[k] :: ws.drop (k + 1):=List.drop_eq_getElem_cons hlt
  rw [ed] at p2
  refine hb _ st2 _ _ m2 _ S2 (R2.set i rx') ?_
  unfold forT at p2
  cases eg:gb (ρ2.set i (some ws[k])) st2 with
  | nx ρ3 st3 => rw [eg] at p2; exact fun σ3 m3 H3 e3 S3 R3 => ⟨ρ3,st3,m3,e2.trans e3,S3,R3,PostS.shift p2 e3⟩
  | ct ρ3 st3 => rw [eg] at p2; exact fun σ3 m3 H3 e3 S3 R3 => ⟨ρ3,st3,m3,e2.trans e3,S3,R3,PostS.shift p2 e3⟩
  | bk ρ3 st3 => rw [eg] at p2; exact p2
  | rt w3 st3 => rw [eg] at p2; exact p2
  | err c3 ρ3 st3 => rw [eg] at p2; exact p2
  | bad => rw [eg] at p2; exact p2
 ·have e:k = ws.length:=by omega
  subst e
  rw [List.drop_length] at p2
  exact .inl ⟨hstop _ H2 m2 e2 rfl,p2 σ2 m2 H2 Ext.refl S2 R2⟩
def iSeq (K:PySem.W.Frag) (tl:TE):TI:=fun σ H R => tl σ H fun x H1 => ∃ a,x = .ref a ∧ (((∃ xs,SqL K H1 a xs) ∧ R (Itl K a) H1) ∨ ((∃ xs,SqT K H1 a xs) ∧ R (Itt K a) H1))
theorem pi_seq {tg l:Expr} {tl:TE} (hl:PE X l tl):PI X tg l (iSeq X.K tl):=by
 intro pins s σ H R I h
 refine thn (hl pins s σ H _ I h) fun v s1 ⟨x,H1,I1,r1,q1⟩ => ?_
 obtain ⟨a,e,q1⟩:=q1
 subst e
 cases r1
 have frs:∀ b ∈ [s1.heap.objs.size],FpOk X pins H1 b:=fun b hb => by
  have e:b = s1.heap.objs.size:=by simpa using hb
  subst e
  exact I1.fpOk (Nat.le_refl _) (I1.hok.fresh (Nat.le_refl _))
 rcases q1 with ⟨⟨xs,hq⟩,q⟩ | ⟨⟨xs,hq⟩,q⟩
 ·obtain ⟨its,rv,p,hz⟩:=I1.list hq
  refine wpAny_pyIter_list p.isList ?_
  exact ⟨s1.heap.objs.size,[s1.heap.objs.size],_,_,H1,rfl,I1.kept (t':=s1.toks) fun b o e => Heap.get?_push_of_some _ e,turn_list a _,⟨_,Heap.get?_push_size _ rfl,rfl,rfl⟩,frs,q⟩
 ·obtain ⟨its,rv,p,hz⟩:=I1.tuple hq
  refine wpAny_pyIter_tuple (show s1.heap.IsTuple a its.toArray from p) ?_
  exact ⟨s1.heap.objs.size,[s1.heap.objs.size],_,_,H1,rfl,I1.kept (t':=s1.toks) fun b o e => Heap.get?_push_of_some _ e,turn_tuple a _,⟨_,Heap.get?_push_size _ rfl,rfl,rfl⟩,frs,q⟩
noncomputable def gFor (i:Nat) (gi:GE) (gb:GS):GS:=fun ρ st => (gi ρ st).thn ρ fun w st1 => match w with
 | .ref l => (match lstOf st1 l with | some ws => forL i gb l ws ws ρ st1 | none => .bad)
 | .tup ws => forT i gb ws ρ st1
 | .ktp ws => forT i gb ws ρ st1
 | _ => .bad
theorem js_for (i:Nat) {x:Str} {iter:Expr} {body:List Stmt} {gi:GE} {gb:GS} {pos pos':Pos} (hN:X.N.Nodup) (hp:PassesOwn (model X.prog X.w) X.A X.env X.xe) (hc:X.calm = true) (hi:JE X iter gi) (hb:JSs X body gb)
  (hx:X.N[i]? = some x) (hlo:Loc X.env.scope x) (hlf:X.fn x = true ∨ X.env.scope.names.lookup x = some .local)
  (hs:∀ x,foldedSetIterable iter X.env x = pure x):JS X (.For (.Name x pos') iter body [] pos) (gFor i gi gb):=by
 refine JS.of (ps_for hp hc (pi_seq pe_SE) (pg_name hN hx hlo hlf) pss_SSs hs) fun ρ st σ H m D S R p => ?_
 refine hi.go S R (PostS.of_thn R p) fun w st1 v m1 H1 p1 e1 S1 rw' => ?_
 cases w with
 | ref l =>
  have p1':PostS X m H (match lstOf st1 l with | some ws => forL i gb l ws ws ρ st1 | none => .bad) D:=p1
  unfold RelW at rw'
  obtain ⟨a,rfl,hla⟩:=rw'
  cases el:lstOf st1 l with
  | none => rw [el] at p1'; exact False.elim p1'
  | some ws =>
   rw [el] at p1'
   obtain ⟨xs0,q0,_⟩:=S1.read hla el
   refine ⟨a,rfl,.inl ⟨⟨xs0,q0⟩,?_⟩⟩
   let Pv:Nat → St → Hp → Prop:=fun k σ H => ∃ ρ st m',Ext X.K m1 H1 m' H ∧ Sim X.K m' st H ∧ RelEnv X.K m' H ρ σ ∧ lstOf st l = some ws ∧ PostS X m' H (forL i gb l ws (ws.drop k) ρ st) D
   refine ⟨fun k n σ H => n = ws.length - k ∧ k ≤ ws.length ∧ Pv k σ H,⟨ws.length,by simp,Nat.zero_le _,ρ,st1,m1,Ext.refl,S1,R.mono e1,el,PostS.shift p1' e1⟩,?_⟩
   rintro k n σ2 H2 ⟨rfl,hk,ρ2,st2,m2,e2,S2,R2,l2,p2⟩
   obtain ⟨xs,hq,rws⟩:=S2.read (e2.pre _ _ hla) l2
   have hlen:=rws.length
   by_cases hlt:k < ws.length
   ·have hx':k < xs.length:=by omega
    refine .inr ⟨⟨xs,xs[k],hq,by simp [hx']⟩,Pv (k + 1),fun σ' H' p' => ⟨ws.length - (k + 1),by omega,rfl,hlt,p'⟩,fun x H' y => ?_⟩
    obtain ⟨ee,y⟩:=y
    subst ee
    have ey:=y xs hq
    have ed:ws.drop k = ws[k] :: ws.drop (k + 1):=List.drop_eq_getElem_cons hlt
    obtain ⟨x',ex',rx'⟩:=rws.get (i:=k) (w:=ws[k]) (List.getElem?_eq_getElem hlt)
    rw [ey] at ex'
    cases ex'
    rw [ed] at p2
    refine hb _ st2 _ _ m2 _ S2 (R2.set i rx') ?_
    unfold forL at p2
    cases eg:gb (ρ2.set i (some ws[k])) st2 with
    | nx ρ3 st3 =>
     rw [eg] at p2
     by_cases c:lstOf st3 l = some ws
     ·simp only [if_pos c] at p2
      exact fun σ3 m3 H3 e3 S3 R3 => ⟨ρ3,st3,m3,e2.trans e3,S3,R3,c,PostS.shift p2 e3⟩
     ·simp only [if_neg c] at p2; exact False.elim p2
    | ct ρ3 st3 =>
     rw [eg] at p2
     by_cases c:lstOf st3 l = some ws
     ·simp only [if_pos c] at p2
      exact fun σ3 m3 H3 e3 S3 R3 => ⟨ρ3,st3,m3,e2.trans e3,S3,R3,c,PostS.shift p2 e3⟩
     ·simp only [if_neg c] at p2; exact False.elim p2
    | bk ρ3 st3 => rw [eg] at p2; exact p2
    | rt w3 st3 => rw [eg] at p2; exact p2
    | err c3 ρ3 st3 => rw [eg] at p2; exact p2
    | bad => rw [eg] at p2; exact p2
   ·have e:k = ws.length:=by omega
    subst e
    rw [List.drop_length] at p2
    exact .inl ⟨⟨xs,hq,by omega⟩,p2 σ2 m2 H2 Ext.refl S2 R2⟩
 | tup ws =>
  unfold RelW at rw'
  obtain ⟨a,xs,rfl,hq,rws⟩:=rw'
  have hlen:=rws.length
  refine ⟨a,rfl,.inr ⟨⟨xs,SqT.of hq⟩,?_⟩⟩
  refine for_core i hb (ws:=ws) S1 (R.mono e1) (PostS.shift p1 e1) (fun k H m' e hk => ?_) (fun k H m' e hk => ?_) fun k hk H x H' m' e y => ?_
  ·have hx':k < xs.length:=by omega
   exact ⟨xs,xs[k],SqT.of (e.tup _ _ hq),by simp [hx']⟩
  ·exact ⟨xs,SqT.of (e.tup _ _ hq),by omega⟩
  ·obtain ⟨ee,y⟩:=y
   refine ⟨ee,?_⟩
   obtain ⟨x',ex',rx'⟩:=(RelWs.mono e _ _ rws).get (i:=k) (w:=ws[k]) (List.getElem?_eq_getElem hk)
   rw [y xs (SqT.of (e.tup _ _ hq))] at ex'
   cases ex'
   exact rx'
 | ktp ws =>
  unfold RelW at rw'
  obtain ⟨a,xs,rfl,hq,rws⟩:=rw'
  have hlen:=rws.length
  refine ⟨a,rfl,.inr ⟨⟨xs,.inr hq⟩,?_⟩⟩
  refine for_core i hb (ws:=ws) S1 (R.mono e1) (PostS.shift p1 e1) (fun k H m' e hk => ?_) (fun k H m' e hk => ?_) fun k hk H x H' m' e y => ?_
  ·have hx':k < xs.length:=by omega
   exact ⟨xs,xs[k],.inr hq,by simp [hx']⟩
  ·exact ⟨xs,.inr hq,by omega⟩
  ·obtain ⟨ee,y⟩:=y
   refine ⟨ee,?_⟩
   obtain ⟨x',ex',rx'⟩:=(RelWs.mono e _ _ rws).get (i:=k) (w:=ws[k]) (List.getElem?_eq_getElem hk)
   rw [y xs (.inr hq)] at ex'
   cases ex'
   exact rx'
 | _ => exact False.elim p1
def rngW (lo:Int) (n:Nat):List Wv:=(List.range n).map fun k:Nat => Wv.int (lo + k)
theorem rngW_get? {lo:Int} {n k:Nat} (h:k < n):(rngW lo n)[k]? = some (.int (lo + k)):=by
 unfold rngW
 rw [List.getElem?_map,List.getElem?_range h]
 rfl
theorem rngW_get {lo:Int} {n k:Nat} (h:k < (rngW lo n).length):(rngW lo n)[k] = .int (lo + k):=by
 have q:=rngW_get? (lo:=lo) (n:=n) (k:=k) (by unfold rngW at h; simpa using h)
 rw [List.getElem?_eq_getElem h] at q
 exact Option.some.inj q
theorem rngW_len {lo:Int} {n:Nat}:(rngW lo n).length = n:=by unfold rngW; simp
def CRng (i:Int):Prop:=-(2 ^ 62) ≤ i ∧ i < 2 ^ 62
noncomputable instance {i}:Decidable (CRng i):=Classical.propDecidable _
noncomputable def gForR1 (i:Nat) (ga:GA) (gb:GS):GS:=fun ρ st => (ga ρ st).thn ρ fun ws st1 => match ws with
 | [.int j] => if CRng j then forT i gb (rngW 0 j.toNat) ρ st1 else .bad
 | _ => .bad
noncomputable def gForR2 (i:Nat) (ga:GA) (gb:GS):GS:=fun ρ st => (ga ρ st).thn ρ fun ws st1 => match ws with
 | [.int a,.int j] => if CRng a ∧ CRng j then forT i gb (rngW a (j - a).toNat) ρ st1 else .bad
 | _ => .bad
theorem for_rng (i:Nat) {body:List Stmt} {gb:GS} (hb:JSs X body gb) {lo:Int} {n:Nat} {m1:Mp} {H1:Hp} {st1:Hs} {ρ:Rho} {σ:St} {D:Ends} (S1:Sim X.K m1 st1 H1) (R:RelEnv X.K m1 H1 ρ σ) (p1:PostS X m1 H1 (forT i gb (rngW lo n) ρ st1) D) :
  ∃ W:Nat → Nat → St → Hp → Prop,(∃ m,W 0 m σ H1) ∧ ∀ k n' σ H,W k n' σ H →
   ((Itr lo n).stop k H ∧ D.nx σ H) ∨ ((Itr lo n).go k H ∧ ∃ N:St → Hp → Prop,(∀ σ' H',N σ' H' → ∃ m',m' < n' ∧ W (k + 1) m' σ' H') ∧ ∀ x H',(Itr lo n).yld k H x H' → gName i x σ H' fun σ2 H2 => SSs X body { D with nx:=N,ct:=N,bk:=D.nx } σ2 H2) :=
 for_core i hb S1 R p1 (fun k H m' e hk => by rw [rngW_len] at hk; exact hk) (fun k H m' e hk => by rw [rngW_len] at hk; exact Nat.le_of_eq hk.symm) fun k hk H x H' m' e y => by
  obtain ⟨y1,y2⟩:=y
  refine ⟨y1,?_⟩
  rw [rngW_get,y2]
  exact mkInt
theorem js_forR1 (i:Nat) {x:Str} {a:Expr} {body:List Stmt} {ga:GA} {gb:GS} {pos pos' p q:Pos} (hN:X.N.Nodup) (hp:PassesOwn (model X.prog X.w) X.A X.env X.xe) (hc:X.calm = true) (hg:Gl X "range") (hm:X.mg "range" = none) (ha:JA X [a] ga) (hb:JSs X body gb)
  (hx:X.N[i]? = some x) (hlo:Loc X.env.scope x) (hlf:X.fn x = true ∨ X.env.scope.names.lookup x = some .local) (hst:starEach [a] X.env = [(false,eval a X.env)]):JS X (.For (.Name x pos') (.Call (.Name "range" p) [a] [] q) body [] pos) (gForR1 i ga gb):=by
 refine JS.of (ps_for hp hc (pi_range1 hg hm pa_SA hst) (pg_name hN hx hlo hlf) pss_SSs (fun _ => rfl)) fun ρ st σ H m D S R p => ?_
 refine ha.go S R (PostS.of_thn R p) fun ws st1 vs m1 H1 p1 e1 S1 rs => ?_
 match ws,rs,p1 with
 | [],rs,p1 => exact False.elim p1
 | x :: y :: t,rs,p1 => cases x <;> exact False.elim p1
 | [x],rs,p1 =>
  obtain ⟨v,rfl,r1⟩:=rel1 rs
  cases x with
  | int j =>
   cases relInt r1
   have p2:PostS X m H (if CRng j then forT i gb (rngW 0 j.toNat) ρ st1 else .bad) D:=p1
   by_cases c:CRng j
   ·rw [if_pos c] at p2
    exact ⟨j,rfl,c.1,c.2,for_rng i hb S1 (R.mono e1) (PostS.shift p2 e1)⟩
   ·rw [if_neg c] at p2; exact False.elim p2
  | _ => exact False.elim p1
theorem js_forR2 (i:Nat) {x:Str} {a b:Expr} {body:List Stmt} {ga:GA} {gb:GS} {pos pos' p q:Pos} (hN:X.N.Nodup) (hp:PassesOwn (model X.prog X.w) X.A X.env X.xe) (hc:X.calm = true) (hg:Gl X "range") (hm:X.mg "range" = none) (ha:JA X [a,b] ga) (hb:JSs X body gb)
  (hx:X.N[i]? = some x) (hlo:Loc X.env.scope x) (hlf:X.fn x = true ∨ X.env.scope.names.lookup x = some .local) (hst:starEach [a,b] X.env = [(false,eval a X.env),(false,eval b X.env)]) (hst2:starEach [b] X.env = [(false,eval b X.env)]):JS X (.For (.Name x pos') (.Call (.Name "range" p) [a,b] [] q) body [] pos) (gForR2 i ga gb):=by
 refine JS.of (ps_for hp hc (pi_range2 hg hm pa_SA hst hst2) (pg_name hN hx hlo hlf) pss_SSs (fun _ => rfl)) fun ρ st σ H m D S R p => ?_
 refine ha.go S R (PostS.of_thn R p) fun ws st1 vs m1 H1 p1 e1 S1 rs => ?_
 match ws,rs,p1 with
 | [],rs,p1 => exact False.elim p1
 | [x],rs,p1 => cases x <;> exact False.elim p1
 | x :: y :: z :: t,rs,p1 => cases x <;> cases y <;> exact False.elim p1
 | [x,y],rs,p1 =>
  obtain ⟨v,v',rfl,r1,r2⟩:=rel2 rs
  cases x with
  | int a =>
   cases y with
   | int j =>
    cases relInt r1; cases relInt r2
    have p2:PostS X m H (if CRng a ∧ CRng j then forT i gb (rngW a (j - a).toNat) ρ st1 else .bad) D:=p1
    by_cases c:CRng a ∧ CRng j
    ·rw [if_pos c] at p2
     exact ⟨a,j,rfl,⟨c.1.1,c.1.2,c.2.1,c.2.2⟩,for_rng i hb S1 (R.mono e1) (PostS.shift p2 e1)⟩
    ·rw [if_neg c] at p2; exact False.elim p2
   | _ => exact False.elim p1
  | _ => cases y <;> exact False.elim p1
theorem js_retN {pos:Pos}:JS X (.Return none pos) (gRet (gC .non)):=JS.of ps_retN fun ρ st σ H m D S R p => p .non m H Ext.refl S mkNon
end
end J
namespace J
open PySem PySem.Spec PyProof.Rows L2
abbrev bmV:List Value:=[.type "ValueError",.type "Exception",.type "BaseException",.type "object"]
abbrev nwV:String:="ValueError.__new__"
structure ExcC (K:PySem.W.Frag) (c:PySem.Str) (C:Addr):Prop where
 cls:ClsAt K c C
 exc:PySem.W.excIn K C bmV nwV = true
theorem exc_obj {K:PySem.W.Frag} {h:Heap} {C:Addr} (KX:K.In h) (q:PySem.W.excIn K C bmV nwV = true) :
  ∃ (bm:List Value) (N:Addr) (nm qn:Str) (bs:List Value) (hd:Bool) (sn:List Str) (sub:List Value) (ab:Bool) (col:Option Bool) (dd:Option Addr) (k0 k1 k2 k3 k5:Option Value) (mN:Str → Option Value),
   h.get? C = some (excClassObj nm qn C N bs bm hd sn sub ab col dd k0 k1 k2 k3 k5 nwV) ∧ h.Ns N mN ∧ mN "__init__" = none ∧ OwnTail h bmV bm ∧ (∀ v r,PySem.W.mroIn K C v = some r → (Value.ref C :: bm).contains v = r):=by
 unfold PySem.W.excIn at q
 split at q
 ·rename_i dd cd sl lk
  split at q
  ·rename_i C1 bm k0 k1 k2 k3 n1 k5 em es
   simp only [Bool.and_eq_true,beq_iff_eq,Bool.not_eq_true'] at q
   obtain ⟨⟨⟨⟨⟨q1,q2⟩,q3⟩,q4⟩,q5⟩,q6⟩:=q
   subst q1 q2
   obtain ⟨nm,bs,mro,N,qn,hd,sn,sub,ab,col,del⟩:=cd
   dsimp only at em q3 q5 q6
   subst em q3
   have esl:sl = #[k0,k1,k2,k3,some (.builtin nwV),k5]:=by
    cases sl with
    | mk l => exact congrArg Array.mk es
   subst esl
   refine ⟨bm,N,nm,qn,bs,hd,sn,sub,ab,col,dd,k0,k1,k2,k3,k5,_,KX _ _ lk,.of_isNs (PySem.W.isNs_of_in KX q5),PySem.W.nsMap_none_of_in KX q5 q6,PySem.W.tail_of_in KX q4,fun v r e => ?_⟩
   unfold PySem.W.mroIn PySem.W.clsIn at e
   rw [lk] at e
   first
    | exact Option.some.inj e
    | (simp at e; exact e)
  ·cases q
 ·cases q
section
variable {X:Cx}
def gRaise (c:PySem.Str) (ga:GA):GS:=fun ρ st => (ga ρ st).thn ρ fun ws st1 => if ws.length ≤ lim then .err c ρ st1 else .bad
theorem js_raise {c:Str} {C:Addr} {e:Expr} {es:List Expr} {ga:GA} {np cpos pos:Pos} (hc:X.calm = true) (O:ExcC X.K c C) (hg:Gl X c) (hm:X.mg c = some (.ref C)) (ha:JA X (e :: es) ga) (hd:(c == ("__debug__":Str)) = false)
  (he:starEach (e :: es) X.env = (false,eval e X.env) :: starEach es X.env) (hpl:(backTo cpos (starEach es X.env)).any (·.1) = false):JS X (.Raise (some (.Call (.Name c np) (e :: es) [] cpos)) none pos) (gRaise c ga):=by
 intro ρ st σ H m D S R p pins s I
 have args:=ha.go (T:=fun vs H1 => ∃ ws st1 m1,PostS X m H (if ws.length ≤ lim then .err c ρ st1 else .bad) D ∧ Ext X.K m H m1 H1 ∧ Sim X.K m1 st1 H1 ∧ RelWs X.K m1 H1 ws vs) S R (PostS.of_thn R p)
  fun ws st1 vs m1 H1 p1 e1 S1 rs => ⟨ws,st1,m1,p1,e1,S1,rs⟩
 obtain ⟨bm,N,nm,qn,bs,hdd,sn,sub,ab,col,dd,k0,k1,k2,k3,k5,mN,hC,hN,hni,T,_⟩:=exc_obj I.ok.mod.kin O.exc
 refine wpAny_Raise_call_subU (C:=C) (nm:=nm) (q:=qn) (N:=N) (bs:=bs) (bm:=bm) (hdct:=hdd) (sn:=sn) (sub:=sub) (ab:=ab) (col:=col) (dd:=dd) (k0:=k0) (k1:=k1) (k2:=k2) (k3:=k3) (k5:=k5) (bmB:=bmV)
  F.excBase_ValueError (by decide) F.excBase_ValueError (mN:=mN) (T.hasType F.excBase_ValueError.hasBase) (I.ok.hd hc) ?_ hni (ld_glob I hg hm ⟨rfl,?_⟩ hd)
 ·rw [he]
  show (false || (backTo cpos (starEach es X.env)).any (·.1)) = false
  rw [hpl]
  rfl
 ·have go:=args cpos pins s I
  rw [he] at go ⊢
  refine Calls.evalArgs_plain (thn go fun us s1 ⟨vs,H1,I1,r,ws,st1,m1,p1,e1,S1,rs⟩ => ?_)
  by_cases cl:ws.length ≤ lim
  ·rw [if_pos cl] at p1
   refine ⟨rfl,by rw [← r.length,← rs.length]; exact lim_le cl,I1.bk _ _ hC,hN.keeps I1.bk,T.keeps I1.bk,fun h2 a M => ?_⟩
   exact p1 σ m1 H1 _ _ e1 S1 (R.mono e1) ⟨C,pins,H1,s1,O.cls,I1,.inr ⟨rfl,a,us,rfl,rfl,rfl,M⟩⟩
  ·rw [if_neg cl] at p1; exact False.elim p1
end
end J
namespace J
open PySem PySem.Spec PyProof.Rows L2
structure ExcK (K:PySem.W.Frag) (C:Addr):Prop where
 exc:PySem.W.excIn K C bmV nwV = true
 ga:PySem.W.findIn K (.ref C) "__getattribute__" = some (some (.builtin "BaseException.__getattribute__"))
 gx:PySem.W.findIn K (.ref C) "__getattr__" = some none
 cl:PySem.W.findIn K (.ref C) "__class__" = some (some (.builtin "object.__class__"))
section
variable {prog:Program} {w:World} {A:Around} {E:Value → Shared → Prop} {h:Heap} {g:Array GenState} {d:Drawn} {t:Nat} {os:OsState} {a C:Addr} {o:Obj} {K:PySem.W.Frag}
theorem xc_get {R:Result → Shared → Prop} (Y:K.In h) (Z:ExcK K C) (ha:h.get? a = some o) (hc:o.cls = .ref C) (k:R (.ok (.ret (.ref C))) ⟨h,g,d,t,os⟩) :
  codeAny (model prog w) A (.call (.builtin "getset_descriptor.__get__") ⟨[.builtin "object.__class__",.ref a,.ref C],[]⟩) R ⟨h,g,d,t,os⟩:=by
 obtain ⟨bm,N,nm,qn,bs,hdd,sn,sub,ab,col,dd,k0,k1,k2,k3,k5,mN,hC,hN,hni,T,_⟩:=exc_obj Y Z.exc
 have ty:(⟨h,g,d,t,os⟩:Shared).TypeIs (.builtin "object.__class__") "getset_descriptor":=F.typeOf_object_class
 have own:(Value.ref C :: bm).contains (.type (".".intercalate ("object.__class__".cutAt '.').dropLast)) = true:=by
  rw [F.owner_object_class,List.contains_cons,T.hasType (X:="object") (b:=true) (by decide)]; rfl
 refine codeAny_call_builtin F.slot_gs_get.plain F.entry_gs_get (F.slot_gs_get.check _ _ _ _ _ _ _ _ ty (F.args_gs_get _ _ _) ?_)
 repeat (any_goals (first | assumption | (with_reducible refine wpAny_loadPart_at ha ?_; rw [hc]) | (with_reducible refine wpAny_isSubtype_exc hC ?_; rw [own]) | wp_step))
 refine ⟨Code.quiet_builtin _ (by decide +kernel),codeAny_builtin F.entry_object_class ?_⟩
 repeat (any_goals (first | assumption | (with_reducible refine wpAny_loadPart_at ha ?_; rw [hc]) | wp_step))
theorem xc_entry {tk:Tok} {Q:Fin → Shared → Prop} (Y:K.In h) (Z:ExcK K C) (ha:h.get? a = some o) (hc:o.cls = .ref C) (k:Q (.done (.ret (.ref C))) ⟨h,g,d,t,os⟩) :
  wpAny (model prog w) A (Builtin.«object.__getattribute__» ⟨[.ref a,.str "__class__" tk],[]⟩) Q E ⟨h,g,d,t,os⟩:=by
 have ty:(⟨h,g,d,t,os⟩:Shared).TypeIs (.builtin "object.__class__") "getset_descriptor":=F.typeOf_object_class
 have t1:=F.typeOf_object_class
 have t2:=F.slot_gs_get.lookup
 have t3:=F.slot_gs_set.lookup
 have L:=PySem.W.looks_findIn (M:=model prog w) Y Z.cl
 repeat (any_goals (first | assumption | (with_reducible refine wpAny_loadPart_at ha ?_; rw [hc]) | with_reducible refine L.at ?_ | wp_step))
 refine xc_get Y Z ha hc ?_
 repeat (any_goals (first | assumption | wp_step))
theorem xc_check {M:Model} {nv:Value} {Q:Unit → Shared → Prop} (Y:K.In h) (Z:ExcK K C) (ha:h.get? a = some o) (hc:o.cls = .ref C) (k:Q () ⟨h,g,d,t,os⟩) :
  wpAny M A (checkBuiltinCall "BaseException.__getattribute__" ⟨[.ref a,nv],[]⟩) Q E ⟨h,g,d,t,os⟩:=by
 obtain ⟨bm,N,nm,qn,bs,hdd,sn,sub,ab,col,dd,k0,k1,k2,k3,k5,mN,hC,hN,hni,T,_⟩:=exc_obj Y Z.exc
 have u1:builtinKind "BaseException.__getattribute__" = some .slot:=by decide +kernel
 have u2:splitId "BaseException.__getattribute__" = some ("BaseException","__getattribute__"):=by decide +kernel
 have u3:(Value.ref C :: bm).contains (.type "BaseException") = true:=by rw [List.contains_cons,T.hasType (X:="BaseException") (b:=true) (by decide)]; rfl
 have u4:=F.args_bexc_ga (.ref a) nv
 simp only [checkBuiltinCall,u1,u2]
 refine wpAny_bind ?_
 unfold isInstance
 repeat (first | (with_reducible refine wpAny_loadPart_at ha ?_; rw [hc]) | (with_reducible refine wpAny_isSubtype_exc hC ?_; rw [u3]) | wp_step)
 exact k
theorem xc_by {tk:Tok} {Q:Value → Shared → Prop} (Y:K.In h) (Z:ExcK K C) (ha:h.get? a = some o) (hc:o.cls = .ref C) (k:Q (.ref C) ⟨h,g,d,t,os⟩) :
  wpAny (model prog w) A (getAttrBy (.ref a) (.str "__class__" tk) false) Q E ⟨h,g,d,t,os⟩:=by
 have v1:=F.excAttr_ValueError.ga.bind (.ref a)
 have v2:(Value.builtin "BaseException.__getattribute__" == Value.builtin "object.__getattribute__") = false:=by decide +kernel
 have v3:(onTheHeap (Value.ref C) && Value.builtin "BaseException.__getattribute__" == Value.builtin "object.__getattribute__") = false:=by rw [v2]; rfl
 have v4:(false && onTheHeap (Value.builtin "BaseException.__getattribute__")) = false:=rfl
 have L1:=PySem.W.looks_findIn (M:=model prog w) Y Z.ga
 have L2:=PySem.W.looks_findIn (M:=model prog w) Y Z.gx
 repeat (any_goals (first | assumption | (with_reducible refine wpAny_loadPart_at ha ?_; rw [hc]) | with_reducible refine L1.at ?_ | with_reducible refine L2.at ?_ | wp_step))
 refine codeAny_call_builtin F.excAttr_ValueError.ga.plain F.entry_bexc_ga (xc_check Y Z ha hc (xc_entry Y Z ha hc ?_))
 repeat (any_goals (first | assumption | wp_step))
theorem xc_attr {Q:Option Value → Shared → Prop} (Y:K.In h) (Z:ExcK K C) (ha:h.get? a = some o) (hc:o.cls = .ref C) (k:Q (some (.ref C)) ⟨h,g,d,t + 1,os⟩) :
  wpAny (model prog w) A (getAttr? (.ref a) "__class__") Q E ⟨h,g,d,t,os⟩:=by
 unfold getAttr? getAttrBy?
 repeat (any_goals (first | assumption | with_reducible apply xc_by Y Z ha hc | wp_step))
end
end J
namespace J
open PySem PySem.Spec PyProof.Rows L2
structure Stk (X:Cx):Prop where
 st:X.stack = X.env :: X.outer
 fr:X.env.frame = some X.env.locals
 ex:X.ex = []
theorem objOk_get {P:Program} {w:World} {H:Hp} {h:Heap} {a:Addr} {o:HO} (x:ObjOk P w H h a o):∃ u,h.get? a = some u:=by
 cases o with
 | lst xs => obtain ⟨_,_,_,_,e⟩:=x; exact ⟨_,e⟩
 | tup xs => obtain ⟨_,_,_,⟨ob,e,_⟩,_⟩:=x; exact ⟨_,e⟩
 | dK kvs => obtain ⟨_,_,_,_,ob,_,_,e,_⟩:=x; exact ⟨_,e⟩
 | dT kvs => obtain ⟨_,_,_,_,ob,_,_,e,_⟩:=x; exact ⟨_,e⟩
 | set S n => obtain ⟨ob,_,_,_,e,_⟩:=x; exact ⟨_,e⟩
 | ins C dx fs => obtain ⟨_,_,_,e,_⟩:=x; exact ⟨_,e⟩
 | own y => exact x
 | xd fs => obtain ⟨_,⟨_,_,_,e,_⟩,_⟩:=x; exact ⟨_,e⟩
 | rng lo hi => obtain ⟨_,_,_,e⟩:=x; exact ⟨_,e⟩
 | frz ob u => obtain ⟨e,_⟩:=x; exact ⟨_,e⟩
 | tbl ps => exact ⟨_,x⟩
 | met f y => exact ⟨_,x⟩
 | ext φ => exact x.2.1
section
variable {X:Cx} {pins:List (Addr × Obj)} {σ:St} {Hc H':Hp} {sc s':Shared} {B h2:Heap} {a C:Addr} {a0:Value} {ch:List Addr}
theorem exn_inv (I:Inv X pins σ Hc sc) (os:s'.os = sc.os) (bare:AllBare s'.gens) (hch:∀ b ∈ ch,FpOk X pins Hc b) (un:Un (frs X.stack) ch Hc H' sc.heap s'.heap) (hok:HOk X.prog X.w H' B) (fl:Heap.FlyingW B X.stack a (.ref C) a0 h2) (up:s'.heap.UpToSlots h2)
  (cov:∀ b o,sc.heap.get? b = some o → b ∉ frs X.stack → b ∉ ch → ∃ o',B.get? b = some o' ∧ (Hc b = none → o' = o)) {tk:Nat} :
  Inv X pins σ (upd H' a (.ext (ExnAt a C))) { s' with heap:=h2,toks:=tk } ∧ H' a = none:=by
 have stay:=fl.1
 obtain ⟨oe,vs,hoe,hcl,hda,_⟩:=fl.first
 have isx:ExnAt a C h2:=⟨oe,hoe,hcl,vs,hda⟩
 have ha:H' a = none:=by
  cases q:H' a with
  | none => rfl
  | some u =>
   obtain ⟨z,e⟩:=objOk_get (hok a u q)
   rw [fl.2.1] at e
   cases e
 have nfr:a ∉ frs X.stack:=fun z => by
  obtain ⟨_,o1,e1,d1⟩:=fl.2.2.1.mem z
  rw [hoe] at e1
  cases e1
  exact d1 vs hda
 have nch:∀ b ∈ frs X.stack,b ∉ ch:=fun b hb z => by
  rcases List.mem_cons.mp (I.stkSub b hb) with q | q
  ·exact (hch b z).2.1 q
  ·exact (hch b z).2.2.1 q
 have new:a ∉ ch → ∀ o,sc.heap.get? a ≠ some o:=fun hx o e => by
  obtain ⟨o1,e1,_⟩:=cov a o e nfr hx
  rw [fl.2.1] at e1
  cases e1
 have ne:∀ b u,H' b = some u → b ≠ a:=fun b u e => ne_of_none e ha
 have sl:∀ b o,sc.heap.get? b = some o → Hc b = none → b ∈ frs X.stack → ∃ sl,h2.get? b = some { o with slots:=sl }:=fun b o e n hb => by
  obtain ⟨s1,e1⟩:=un.slot b o e n hb (nch b hb)
  obtain ⟨_,o1,e2,d1⟩:=I.stack.mem hb
  rw [e] at e2
  cases e2
  obtain ⟨s2,e3⟩:=up b _ e1 d1
  exact ⟨s2,e3⟩
 refine ⟨?_,ha⟩
 refine I.call' (s':={ s' with heap:=h2,toks:=tk }) (ch:=ch) os ?_ ?_ bare (fun b z => ⟨(hch b z).2.2.2.1,(hch b z).2.1,(hch b z).2.2.2.2.1,(hch b z).2.2.2.2.2⟩)
 ·refine ⟨fun b o e n hb hx => ?_,fun b o e n hb _ => sl b o e n hb,fun b o e n hx => ?_,fun b o e hx => ?_,fun b xs h => ?_,fun b o u h => ?_,fun b ps h => ?_⟩
  ·obtain ⟨o1,e1,e2⟩:=cov b o e hb hx
   rw [e2 n] at e1
   exact stay b o e1
  ·have ba:b ≠ a:=fun z => by subst z; exact new hx o e
   rw [upd_ne ba]
   exact un.free b o e n hx
  ·by_cases hb:b ∈ frs X.stack
   ·obtain ⟨s2,e2⟩:=sl b o e (I.stkFree b hb) hb
    exact ⟨_,e2⟩
   ·obtain ⟨o1,e1,_⟩:=cov b o e hb hx
    exact ⟨o1,stay b o1 e1⟩
  ·have q:=un.tups b xs h
   rw [upd_ne (ne b _ q)]
   exact q
  ·have q:=un.frzs b o u h
   rw [upd_ne (ne b _ q)]
   exact q
  ·obtain ⟨m1,q⟩:=un.tbls b ps h
   refine ⟨m1,?_⟩
   rw [upd_ne (ne b _ q)]
   exact q
 ·intro b u e
  by_cases hb:b = a
  ·subst hb
   rw [upd_same] at e
   cases e
   exact ⟨isx,⟨oe,hoe⟩,fun h3 h4 p k => let ⟨o1,q1,q2,q3⟩:=p; ⟨o1,k o1 q1,q2,q3⟩⟩
  ·rw [upd_ne hb] at e
   exact (hok b u e).stay (fun c v _ q => stay c v q) (fun c q => by rw [upd_ne (ne c _ q)]; exact q) fun c xs q => by rw [upd_ne (ne c _ q)]; exact q
end
theorem catch_own {M:Model} {A:Around} {E:Value → Shared → Prop} {s:Shared} {K:PySem.W.Frag} {a C D:Addr} {o:Obj} {b:Bool} {Q:Bool → Shared → Prop} (Y:K.In s.heap) (ZC:PySem.W.excIn K C bmV nwV = true) (ZD:PySem.W.excIn K D bmV nwV = true)
  (hm:PySem.W.mroIn K C (.ref D) = some b) (ha:s.heap.get? a = some o) (hc:o.cls = .ref C) (k:Q b s):wpAny M A (excMatches (.ref a) (.ref D)) Q E s:=by
 obtain ⟨h,g,d,t,os⟩:=s
 obtain ⟨bm,N,nm,qn,bs,hdd,sn,sub,ab,col,dd,k0,k1,k2,k3,k5,mN,hC,hN,hni,T,mr⟩:=exc_obj Y ZC
 obtain ⟨bm',N',nm',qn',bs',hdd',sn',sub',ab',col',dd',k0',k1',k2',k3',k5',mN',hD,hN',hni',T',mr'⟩:=exc_obj Y ZD
 have e1:(Value.ref C :: bm).contains (.ref D) = b:=mr _ _ hm
 have e2:(Value.ref D :: bm').contains (.type "BaseException") = true:=by rw [List.contains_cons,T'.hasType (X:="BaseException") (b:=true) (by decide)]; rfl
 have f:=tc_notTuple
 unfold excMatches
 repeat (first | (with_reducible refine wpAny_loadPart_at ha ?_; rw [hc]) | with_reducible refine wpAny_loadPart_at hD ?_ | (with_reducible refine wpAny_isSubtype_exc hD ?_; rw [e2]) | (with_reducible refine wpAny_isSubtype_exc hC ?_; rw [e1]) | wp_step)
 cases b <;> (wp_walk; exact k)
end J
namespace J
open PySem PySem.Spec PyProof.Rows L2
theorem kitx_exn {K:PySem.W.Frag} {a C:Addr} (Z:ExcK K C):PySem.W.KitX K (.ref a) (.ref C) (ExnAt a C) where
 ty:=fun M h _ p => by
  obtain ⟨o,h1,h2,_⟩:=p
  rw [← h2]
  exact (PySem.W.Looks.ld h1).andThen .now
 it:=fun M h Y _ => by
  obtain ⟨bm,N,nm,qn,bs,hdd,sn,sub,ab,col,dd,k0,k1,k2,k3,k5,mN,hC,_⟩:=exc_obj Y Z.exc
  intro A' Q' E' s' k q
  unfold isType loadHead
  exact wpAny_bind (wpAny_loadPart (k _ _ hC) (wpAny_pure q))
 ne:=fun h tp dd its n sl Y e => by
  obtain ⟨bm,N,nm,qn,bs,hdd,sn,sub,ab,col,dd',k0,k1,k2,k3,k5,mN,hC,_⟩:=exc_obj Y Z.exc
  refine Bool.eq_false_iff.mpr fun q => ?_
  have z:C = tp:=Value.ref.inj (beq_iff_eq.mp q)
  subst z
  rw [hC] at e
  have z2:Value.type "type" = Value.type "tuple":=congrArg Obj.cls (Option.some.inj e)
  exact absurd z2 (by decide)
 ca:=fun {prog w A E Q s} Y p k => by
  obtain ⟨o,h1,h2,_⟩:=p
  obtain ⟨h,g,d,t,os⟩:=s
  exact xc_attr Y Z h1 h2 k
abbrev Tab:=List ((PySem.Str × PySem.Str) × Bool)
abbrev TabT:=List ((PySem.Str × String) × Bool)
structure TabOk (K:PySem.W.Frag) (tb:Tab) (tt:TabT) (tc:Tab):Prop where
 own:∀ c d b C D,tb.lookup (c,d) = some b → ClsAt K c C → ClsAt K d D → ExcK K C ∧ PySem.W.kitOne K (.ref C) (.ref D) = some b
 cat:∀ c d b C D,tc.lookup (c,d) = some b → ClsAt K c C → ClsAt K d D → PySem.W.excIn K C bmV nwV = true ∧ PySem.W.excIn K D bmV nwV = true ∧ PySem.W.mroIn K C (.ref D) = some b
 typ:∀ c T b C,tt.lookup (c,T) = some b → ClsAt K c C → ExcK K C ∧ PySem.W.kitOne K (.ref C) (.type T) = some b
def anyTab (tb:Tab) (c:PySem.Str):List Wv → Option Bool
 | [] => some false
 | .cls d :: r => (match tb.lookup (c,d) with
  | some true => some true
  | some false => anyTab tb c r
  | none => none)
 | _ => none
theorem anyTab_ok {K:PySem.W.Frag} {m:Mp} {H:Hp} {tb:Tab} {tt:TabT} {tc:Tab} (O:TabOk K tb tt tc) {c:PySem.Str} {C:Addr} (hC:ClsAt K c C):∀ {ds:List Wv} {vs:List V} {its:List Value} {b:Bool},RelWs K m H ds vs → Vals vs its → anyTab tb c ds = some b → PySem.W.kitAny K (.ref C) its = some b
 | [],vs,its,b,r,v,e => by
  unfold RelWs at r
  subst r
  cases v
  cases e
  rfl
 | w :: ds,vs,its,b,r,v,e => by
  unfold RelWs at r
  obtain ⟨x,t,rfl,r1,r2⟩:=r
  cases v with
  | cons h1 h2 =>
   cases w with
   | cls d =>
    unfold RelW at r1
    obtain ⟨D,rfl,hD⟩:=r1
    cases h1
    unfold anyTab at e
    unfold PySem.W.kitAny
    cases q:tb.lookup (c,d) with
    | none => rw [q] at e; cases e
    | some k =>
     rw [q] at e
     obtain ⟨_,z3⟩:=O.own c d k C D q hC hD
     rw [z3]
     cases k with
     | true => cases e; rfl
     | false => exact anyTab_ok O hC r2 h2 e
   | _ => cases e
def oIsA (tb:Tab) (tt:TabT):List Wv → Hs → Re Wv
 | [.exn c,.cls d],st => (match tb.lookup (c,d) with | some b => .ok (.bl b) st | none => .bad)
 | [.exn c,.ty T],st => (match tt.lookup (c,T) with | some b => .ok (.bl b) st | none => .bad)
 | [.exn c,.tup (.cls d :: ds)],st => (match anyTab tb c (.cls d :: ds) with | some b => .ok (.bl b) st | none => .bad)
 | ws,st => oIsI ws st
section
variable {X:Cx}
theorem call_isA:CallR X (.builtin "isinstance") (fun vs H Q => ∃ a C v c b,vs = [.ref a,v] ∧ H a = some (.ext (ExnAt a C)) ∧ ExcK X.K C ∧ RelV v c ∧ PySem.W.kitOne X.K (.ref C) c = some b ∧ Q (.bl b) H):=by
 intro pins s σ H xs us Q I r h
 obtain ⟨a,C,v,c,b,rfl,ha,Z,rc,e,q⟩:=h
 obtain ⟨u,u',rfl,r1,r2⟩:=vals2 r
 cases r1
 have uc:u' = c:=by
  cases v with
  | int i => obtain ⟨t,rfl⟩:=rc; cases e
  | str i => obtain ⟨t,rfl⟩:=rc; cases e
  | byt i => obtain ⟨t,rfl⟩:=rc; cases e
  | flt i => obtain ⟨t,rfl⟩:=rc; cases e
  | non => cases rc; cases r2; rfl
  | bl i => cases rc; cases r2; rfl
  | ref i => cases rc; cases r2; rfl
  | ty i => cases rc; cases r2; rfl
 subst uc
 exact PySem.W.kia_one (kitx_exn Z) I.kIn (I.hok a _ ha).1 e (by intro z; cases z) fun tk => ⟨.bl b,H,I.tok tk,rfl,q⟩
theorem call_isAT:CallR X (.builtin "isinstance") (fun vs H Q => ∃ a C p xs b,vs = [.ref a,.ref p] ∧ H a = some (.ext (ExnAt a C)) ∧ ExcK X.K C ∧ SqT X.K H p xs ∧ (∀ its,Vals xs its → PySem.W.kitAny X.K (.ref C) its = some b) ∧ Q (.bl b) H):=by
 intro pins s σ H xs us Q I r h
 obtain ⟨a,C,p,ys,b,rfl,ha,Z,hT,e,q⟩:=h
 obtain ⟨u,u',rfl,r1,r2⟩:=vals2 r
 cases r1
 cases r2
 obtain ⟨its,rv,⟨o,g1,g2,n,g3⟩,z⟩:=I.tuple hT
 obtain ⟨oc,od,oda,osl⟩:=o
 cases g2
 cases g3
 exact PySem.W.kia_tup (kitx_exn Z) I.kIn (I.hok a _ ha).1 g1 (e its rv) (by intro z; cases z) fun tk => ⟨.bl b,H,I.tok tk,rfl,q⟩
theorem cw_isA {tb:Tab} {tt:TabT} {tc:Tab} (O:TabOk X.K tb tt tc):CallW X (.builtin "isinstance") (oIsA tb tt):=by
 obtain ⟨r,h1,h2⟩:=cw_isI (X:=X)
 refine ⟨_,call_isA.or (call_isAT.or h1),fun ws vs st H m Q S rs p => ?_⟩
 unfold oIsA at p
 split at p
 ·rename_i _ c d
  cases e:tb.lookup (c,d) with
  | none => rw [e] at p; exact False.elim p
  | some b =>
   rw [e] at p
   obtain ⟨v,v',rfl,r1,r2⟩:=rel2 rs
   unfold RelW at r1 r2
   obtain ⟨a,C,rfl,hC,ha⟩:=r1
   obtain ⟨D,rfl,hD⟩:=r2
   obtain ⟨z1,z3⟩:=O.own c d b C D e hC hD
   exact .inl ⟨a,C,.ref D,.ref D,b,rfl,ha,z1,rfl,z3,p _ m H Ext.refl S mkBl⟩
 ·rename_i _ c T
  cases e:tt.lookup (c,T) with
  | none => rw [e] at p; exact False.elim p
  | some b =>
   rw [e] at p
   obtain ⟨v,v',rfl,r1,r2⟩:=rel2 rs
   unfold RelW at r1 r2
   obtain ⟨a,C,rfl,hC,ha⟩:=r1
   subst r2
   obtain ⟨z1,z3⟩:=O.typ c T b C e hC
   exact .inl ⟨a,C,.ty T,.type T,b,rfl,ha,z1,rfl,z3,p _ m H Ext.refl S mkBl⟩
 ·rename_i _ c d ds
  cases e:anyTab tb c (.cls d :: ds) with
  | none => rw [e] at p; exact False.elim p
  | some b =>
   rw [e] at p
   obtain ⟨v,v',rfl,r1,r2⟩:=rel2 rs
   unfold RelW at r1
   obtain ⟨a,C,rfl,hC,ha⟩:=r1
   have r2':=r2
   unfold RelW at r2'
   obtain ⟨t,xs,rfl,hT,rx⟩:=r2'
   have Z:ExcK X.K C:=by
    have rx':=rx
    unfold RelWs at rx'
    obtain ⟨x,r,_,rd,_⟩:=rx'
    unfold RelW at rd
    obtain ⟨D,_,hD⟩:=rd
    unfold anyTab at e
    cases q:tb.lookup (c,d) with
    | none => rw [q] at e; cases e
    | some k => exact (O.own c d k C D q hC hD).1
   exact .inr (.inl ⟨a,C,t,xs,b,rfl,ha,Z,SqT.of hT,fun its hv => anyTab_ok O hC rx hv e,p _ m H Ext.refl S mkBl⟩)
 ·exact .inr (.inr (h2 ws vs st H m Q S rs p))
end
section
variable {X:Cx} {pins:List (Addr × Obj)} {σ:St} {H:Hp} {s:Shared}
abbrev reX (X:Cx) (A':Around) (cm:Bool) (pn:List (Addr × Obj)) (E:Value → Shared → Prop):Cx:={ X with A:=A',calm:=cm,pn:=pn,xe:=E }
theorem ok_re {A':Around} {cm:Bool} {pn:List (Addr × Obj)} {E:Value → Shared → Prop} (ok:X.Ok) (hf:A'.frames = X.A.frames) (hd:cm = true → A'.handled = none):(reX X A' cm pn E).Ok :=
 ⟨ok.mod,ok.kind,ok.glob,ok.blt,ok.above,ok.inj,ok.has,ok.cab,hd,hf.trans ok.frames,ok.stk,ok.exf,ok.bs,ok.bsz,ok.noex,ok.exfs,ok.funs,ok.frf⟩
theorem inv_re {A':Around} {cm:Bool} {E:Value → Shared → Prop} (I:Inv X pins σ H s) (hf:A'.frames = X.A.frames) (hd:cm = true → A'.handled = none):Inv (reX X A' cm (X.pn ++ pins) E) [] σ H s :=
 ⟨ok_re I.ok hf hd,I.os,I.bare,I.base,I.loc,I.cell,I.free,I.freeC,fun p hp => I.pin p (by simpa using hp),I.hok,I.len⟩
theorem inv_er {A':Around} {cm:Bool} {E:Value → Shared → Prop} {pins':List (Addr × Obj)} (ok:X.Ok) (I:Inv (reX X A' cm (X.pn ++ pins) E) pins' σ H s):Inv X pins σ H s :=
 ⟨ok,I.os,I.bare,I.base,I.loc,I.cell,I.free,I.freeC,fun p hp => I.pin p (List.mem_append_left _ hp),I.hok,I.len⟩
theorem sp_er {A':Around} {cm:Bool} {E:Value → Shared → Prop} {D:Ends} {f:Flow} (ok:X.Ok) (h:SP (reX X A' cm (X.pn ++ pins) E) [] D f s):SP X pins D f s:=by
 cases f with
 | next => obtain ⟨σ',H',I,q⟩:=h; exact ⟨σ',H',inv_er ok I,q⟩
 | brk => obtain ⟨σ',H',I,q⟩:=h; exact ⟨σ',H',inv_er ok I,q⟩
 | cont => obtain ⟨σ',H',I,q⟩:=h; exact ⟨σ',H',inv_er ok I,q⟩
 | ret u => obtain ⟨v,σ',H',I,r,q⟩:=h; exact ⟨v,σ',H',inv_er ok I,r,q⟩
end
theorem name_gone {X:Cx} {pins:List (Addr × Obj)} {σ:St} {H:Hp} {s:Shared} {M:Model} {A:Around} {E:Value → Shared → Prop} {i:Nat} {n:Str} {pos:Pos} {Q:Unit → Shared → Prop} (I:Inv X pins σ H s) (hN:X.N.Nodup) (hi:X.N[i]? = some n) (hx:X.env.scope.names.lookup n = some .local)
  (k:∀ s',Inv X pins (σ.set i none) H s' → Q () s'):wpAny M A (do bindName X.env n .none; unbindBehindTheSuite X.env n pos) Q E s:=by
 obtain ⟨m,ns,lk⟩:=id I.loc
 have pl:(X.env.scope.kind == .class || (X.env.scope.kind == .module && X.env.locals != X.env.globals)) = false:=by rw [I.ok.kind]; rfl
 have up:∀ b o,X.s₀.heap.get? b = some o → b ≠ X.env.locals:=fun b o e => old_ne I e
 refine wpAny_nameGoes_keeps hx ns pl fun h2 v ns2 sb => k _ ?_
 obtain ⟨oL,_,_,hoL,_⟩:=id ns
 refine ⟨I.ok,I.os,I.bare,⟨fun b o e f hb hx => (sb.2 b (up b o e)).trans (I.base.keep b o e f hb hx),fun b o e f hb hx => ?_,I.base.free,fun b o e hx => ?_,I.base.tups,I.base.frzs,I.base.tbls⟩,⟨_,ns2,fun j y w e1 e2 e3 => ?_⟩,fun y c e => ?_,I.free,I.freeC,fun p hp => ?_,fun b u e => ?_,by simpa using I.len⟩
 ·obtain ⟨sl,e1⟩:=I.base.slot b o e f hb hx
  exact ⟨sl,(sb.2 b (up b o e)).trans e1⟩
 ·obtain ⟨o1,e1⟩:=I.base.there b o e hx
  exact ⟨o1,(sb.2 b (up b o e)).trans e1⟩
 ·have ji:j ≠ i:=fun z => by
   subst z
   have:j < σ.length:=by have q:=(List.getElem?_eq_some_iff.mp e2).1; simpa using q
   rw [List.getElem?_set_self this] at e2
   cases e2
  rw [List.getElem?_set_ne (Ne.symm ji)] at e2
  obtain ⟨u,r,q⟩:=lk j y w e1 e2 e3
  refine ⟨u,r,?_⟩
  rcases q with ⟨q1,q2⟩ | ⟨q1,c,q2,z⟩
  ·have yn:y ≠ n:=fun z => ji (nodup_ix hN e1 (z ▸ hi))
   exact .inl ⟨q1,by simp [yn,q2]⟩
  ·exact .inr ⟨q1,c,q2,z.sameBut sb (I.cne y c q2)⟩
 ·obtain ⟨w,z⟩:=I.cell y c e
  exact ⟨w,z.sameBut sb (I.cne y c e)⟩
 ·obtain ⟨e,f,ne,nf,d⟩:=I.pin p hp
  exact ⟨(sb.2 p.1 ne).trans e,f,ne,nf,d⟩
 ·refine (I.hok b u e).stay (fun c w hc q => (sb.2 c fun z => ?_).trans q) (fun _ q => q) fun _ _ q => q
  have fr:=I.free
  rcases hc with hc | hc
  ·rw [← z,hc,e] at fr; cases fr
  ·rw [← z,hc] at fr; cases fr
end J
namespace J
open PySem PySem.Spec PyProof.Rows L2
def gTry (cat:PySem.Str → Option Bool) (i:Nat) (gb gs:GS):GS:=fun ρ st => match gb ρ st with
 | .err c ρ' st' => (match cat c with
  | some true => (match gs (ρ'.set i (some (.exn c))) st' with
   | .nx ρ2 st2 => .nx (ρ2.set i none) st2
   | .rt w st2 => .rt w st2
   | _ => .bad)
  | _ => .bad)
 | r => r
theorem RelEnv.unset {K:PySem.W.Frag} {m:Mp} {H:Hp} {ρ:Rho} {σ:St} (R:RelEnv K m H ρ σ) (i:Nat):RelEnv K m H (ρ.set i none) (σ.set i none):=by
 refine ⟨by simp [R.len],fun j w e => ?_⟩
 have ji:i ≠ j:=fun z => by
  subst z
  have:i < ρ.length:=by have q:=(List.getElem?_eq_some_iff.mp e).1; simpa using q
  rw [List.getElem?_set_self this] at e
  cases e
 rw [List.getElem?_set_ne ji] at e ⊢
 exact R.get j w e
section
variable {X:Cx}
theorem land_made {M:Model} {A:Around} {E:Value → Shared → Prop} {s:Shared} {base h:Heap} {env:Env} {outer:List Env} {L a:Addr} {cls:Value} {args:List Value} {Q:Unit → Shared → Prop} (hfr:A.frames = some (env :: outer)) (hf:env.frame = some L)
  (st:base.StaysIn h) (fs:h.FunFrames base (env :: outer)) (mk:Heap.MadeExcOf h s.heap a cls args) (k:∀ h' a0,Heap.FlyingW base (env :: outer) a cls a0 h' → s.heap.UpToSlots h' → Q () { s with heap:=h' }) :
  wpAny M A (noteFrame (.ref a) env) (fun _ s2 => wpAny M A (setFlight (.ref a) none) Q E s2) E s:=by
 obtain ⟨t,e1,e2,e3⟩:=mk.there
 have fresh:∀ b,h.get? b = none → base.get? b = none:=fun b hb => by
  cases q:base.get? b with
  | none => rfl
  | some o' => have z:=st b o' q; rw [hb] at z; cases z
 have fs':=fs.of_keeps (h':=s.heap) fun b o hb _ => ⟨o,mk.keeps b o hb,rfl⟩
 unfold noteFrame
 simp only [hf]
 refine wpAny_bind (wpAny_field e1 rfl (x:=.none) rfl ?_)
 rw [if_neg (by decide)]
 refine wpAny_newEntryW hfr fs' hf e1 (fun b o hb => mk.keeps b o (st b o hb)) (fresh a mk.new) rfl (by simp) (a0:=.ref t) rfl fun h' lw => ?_
 obtain ⟨l1,l2,l3,l4⟩:=lw
 exact k h' (.ref t) ⟨l1,fresh a mk.new,l2,l3⟩ l4
theorem FlownA.er {A:Around} {b:Bool} {E:Value → Shared → Prop} {pins pins':List (Addr × Obj)} {H H':Hp} {s s':Shared} {cls e:Value} (f:FlownA (reX X A b (X.pn ++ pins) E) pins' H s H' cls e s'):FlownA X pins H s H' cls e s' :=
 let ⟨a,a0,nt,B,ch,e1,e2,e3,hch,r⟩:=f
 ⟨a,a0,nt,B,ch,e1,e2,e3,fun b hb => let ⟨h1,h2,h3,h4,h5,h6⟩:=hch b hb; ⟨h1,h2,h3,h4,h5,fun p hp => h6 p (List.mem_append_left _ hp)⟩,r⟩
theorem land {pins:List (Addr × Obj)} {σ:St} {Hc H':Hp} {sc s':Shared} {C:Addr} {e:Value} {E:Value → Shared → Prop} {Q:Unit → Shared → Prop} (K0:Stk X) (I:Inv X pins σ Hc sc)
  (r:FlownA X pins Hc sc H' (.ref C) e s' ∨ (H' = Hc ∧ ∃ a args,e = .ref a ∧ s'.os = sc.os ∧ s'.gens = sc.gens ∧ Heap.MadeExcOf sc.heap s'.heap a (.ref C) args))
  (k:∀ (a:Addr) (a0:Value) (B h5:Heap),e = .ref a → Heap.FlyingW B X.stack a (.ref C) a0 h5 → (∀ h6 tk,Heap.FlyingW B X.stack a (.ref C) a0 h6 → h5.UpToSlots h6 → Inv X pins σ (upd H' a (.ext (ExnAt a C))) { s' with heap:=h6,toks:=tk }) → H' a = none → Q () { s' with heap:=h5 }) :
  wpAny (model X.prog X.w) X.A (noteFrame e X.env) (fun _ s2 => wpAny (model X.prog X.w) X.A (setFlight e none) Q E s2) E s':=by
 have hfr:X.A.frames = some (X.env :: X.outer):=by rw [I.ok.frames,K0.st]
 rcases r with ⟨a,a0,nt,B,ch,rfl,os,bare,hch,un,hok,fl,cov⟩ | ⟨rfl,a,args,rfl,ho,hg,M⟩
 ·rw [K0.st] at fl
  refine note_any hfr K0.fr fl fun h4 hd4 up4 => ?_
  refine wpAny_landsW hd4 fun h5 fl5 up5 => ?_
  rw [← K0.st] at fl5
  exact k a a0 B h5 rfl fl5 (fun h6 tk fl6 up6 => (exn_inv I os bare hch un hok fl6 ((up4.trans up5).trans up6) cov).1) (exn_inv (tk:=0) I os bare hch un hok fl5 (up4.trans up5) cov).2
 ·have fs:sc.heap.FunFrames (PySem.W.hideAll sc.heap (frs X.stack)) (X.env :: X.outer):=by
   rw [← K0.st]
   exact PySem.W.funFrames_hide I.stack fun env he b hb => List.mem_filterMap.mpr ⟨env,he,hb⟩
  refine land_made (base:=PySem.W.hideAll sc.heap (frs X.stack)) hfr K0.fr (fun b o q => PySem.W.of_hideAll _ q) fs M fun h5 a0 fl5 up5 => ?_
  rw [← K0.st] at fl5
  have bare:AllBare s'.gens:=by rw [hg]; exact I.bare
  have hok:HOk X.prog X.w H' (PySem.W.hideAll sc.heap (frs X.stack)):=hok_hide I.hok I.stkFree
  have cov:∀ b o,sc.heap.get? b = some o → b ∉ frs X.stack → b ∉ ([]:List Addr) → ∃ o',(PySem.W.hideAll sc.heap (frs X.stack)).get? b = some o' ∧ (H' b = none → o' = o):=fun b o q hb _ => ⟨o,PySem.W.hideAll_get _ q hb,fun _ => rfl⟩
  have nil:∀ b ∈ ([]:List Addr),FpOk X pins H' b:=fun b z => by cases z
  exact k a a0 _ h5 rfl fl5 (fun h6 tk fl6 up6 => (exn_inv I ho bare nil (Un.kept M.keeps) hok fl6 (up5.trans up6) cov).1) (exn_inv (tk:=0) I ho bare nil (Un.kept M.keeps) hok fl5 up5 cov).2
theorem js_try {x n:Str} {D:Addr} {i:Nat} {body suite:List Stmt} {b₀:Stmt} {gb gs:GS} {np hp pos:Pos} {tb:Tab} {tt:TabT} {tc:Tab} (K0:Stk X) (hN:X.N.Nodup) (hi:X.N[i]? = some n) (hx:X.env.scope.names.lookup n = some .local) (hc:X.calm = true) (O:TabOk X.K tb tt tc)
  (hg:Gl X x) (hm:X.mg x = some (.ref D)) (hD:ClsAt X.K x D) (hd:(x == ("__debug__":Str)) = false)
  (hb:∀ (pn:List (Addr × Obj)) (E:Value → Shared → Prop),JSs (reX X X.A true pn E) body gb) (hs:∀ (e:Value) (pn:List (Addr × Obj)) (E:Value → Shared → Prop),JSs (reX X (X.A.mark (some e)) false pn E) (b₀ :: suite) gs) :
  JS X (.Try body [.ExceptHandler (some (.Name x np)) (some n) (b₀ :: suite) hp] [] [] pos) (gTry (fun c => tc.lookup (c,x)) i gb gs):=by
 intro ρ st σ H m D' S R p pins s I
 refine wpAny_Try_except ?_
 let hx':Value → Shared → Prop:=fun e s1 => wpAny (model X.prog X.w) X.A (noteFrame e X.env) (fun _ s2 => wpAny (model X.prog X.w) X.A (setFlight e none) (fun _ s3 =>
  wpAny (model X.prog X.w) X.A (handleBy e X.env [.ExceptHandler (some (.Name x np)) (some n) (b₀ :: suite) hp]) (SP X pins D') X.xe s3) X.xe s2) X.xe s1
 have hA:X.A.handled = none:=I.ok.hd hc
 have Ib:Inv (reX X X.A true (X.pn ++ pins) hx') [] σ H s:=inv_re I rfl fun _ => hA
 have post:PostS (reX X X.A true (X.pn ++ pins) hx') m H (gb ρ st) D':=by
  unfold gTry at p
  cases eb:gb ρ st with
  | nx ρ1 st1 => rw [eb] at p; exact p
  | rt w1 st1 => rw [eb] at p; exact p
  | bk ρ1 st1 => rw [eb] at p; exact p
  | ct ρ1 st1 => rw [eb] at p; exact p
  | bad => rw [eb] at p; exact p
  | err c ρ1 st1 =>
   rw [eb] at p
   dsimp only at p
   cases ec:tc.lookup (c,x) with
   | none => rw [ec] at p; exact False.elim p
   | some bc =>
    cases bc with
    | false => rw [ec] at p; exact False.elim p
    | true =>
     rw [ec] at p
     dsimp only at p
     intro σ1 m1 H1 e s1 e1 S1 R1 rz
     obtain ⟨C,pins',Hc,sc,hC,Ic,rz⟩:=rz
     obtain ⟨zC,zD,hmro⟩:=O.cat c x true C D ec hC hD
     refine land K0 (inv_er I.ok Ic) (rz.imp FlownA.er id) fun a a0 B h5 ea fl5 inv hn => ?_
     subst ea
     have I5:Inv X pins σ1 (upd H1 a (.ext (ExnAt a C))) { s1 with heap:=h5 }:=inv h5 s1.toks fl5 (Heap.UpToSlots.refl _)
     obtain ⟨o5,ho5,hc5,_⟩:=(I5.hok a _ upd_same).1
     have Im:Inv (reX X (X.A.mark (some (.ref a))) false (X.pn ++ pins) fun _ _ => False) [] σ1 (upd H1 a (.ext (ExnAt a C))) { s1 with heap:=h5 }:=inv_re I5 rfl (fun z => by cases z)
     refine wpAny_handleBy_cons (codeAny_handlers_test (ld_glob Im hg hm ?_ hd)) (by intro q; cases q)
     refine catch_own (b:=true) Im.kIn zC zD hmro ho5 hc5 ?_
     refine codeAny_handlers_suite_as ?_
     refine lands_againW fl5 fun h6 fl6 up6 => ?_
     have I6:=inv h6 s1.toks fl6 up6
     have e6:Ext X.K m1 H1 m1 (upd H1 a (.ext (ExnAt a C))):=Ext.upd (.inl hn)
     have S6:Sim X.K m1 st1 (upd H1 a (.ext (ExnAt a C))):=S1.fresh hn
     have rv:RelW X.K m1 (upd H1 a (.ext (ExnAt a C))) (.exn c) (.ref a):=by unfold RelW; exact ⟨a,C,rfl,hC,upd_same⟩
     refine store_ok (v:=.ref a) I6 hN hi (.inl hx) rfl (fun s7 I7 => ?_) (.inr hx)
     have I7':Inv (reX X (X.A.mark (some (.ref a))) false (X.pn ++ pins) fun _ _ => False) [] (σ1.set i (some (.ref a))) (upd H1 a (.ext (ExnAt a C))) s7:=inv_re I7 rfl (fun z => by cases z)
     cases es:gs (ρ1.set i (some (.exn c))) st1 with
     | nx ρ2 st2 =>
      rw [es] at p
      let D2:Ends:={ nx:=fun σ' H' => D'.nx (σ'.set i none) H',rt:=fun _ _ => False,bk:=fun _ _ => False,ct:=fun _ _ => False }
      have go:=hs (.ref a) (X.pn ++ pins) (fun _ _ => False) (ρ1.set i (some (.exn c))) st1 (σ1.set i (some (.ref a))) _ m1 D2 S6 ((R1.mono e6).set i rv) (by
       rw [es]
       exact fun σ' m' H' e' S' R' => p (σ'.set i none) m' H' (e1.trans (e6.trans e')) S' (RelEnv.unset R' i)) [] s7 I7'
      refine wpAny_mono go (fun f s8 h8 => ?_) fun _ _ z => z.elim
      cases f with
      | next =>
       obtain ⟨σ8,H8,I8,q8⟩:=h8
       exact name_gone (inv_er I.ok I8) hN hi hx fun s9 I9 => ⟨_,H8,I9,q8⟩
      | brk => obtain ⟨_,_,_,q8⟩:=h8; exact q8.elim
      | cont => obtain ⟨_,_,_,q8⟩:=h8; exact q8.elim
      | ret u => obtain ⟨_,_,_,_,_,q8⟩:=h8; exact q8.elim
     | rt w2 st2 =>
      rw [es] at p
      let D2:Ends:={ nx:=fun _ _ => False,rt:=D'.rt,bk:=fun _ _ => False,ct:=fun _ _ => False }
      have go:=hs (.ref a) (X.pn ++ pins) (fun _ _ => False) (ρ1.set i (some (.exn c))) st1 (σ1.set i (some (.ref a))) _ m1 D2 S6 ((R1.mono e6).set i rv) (by
       rw [es]
       exact fun v' m' H' e' S' R' => p v' m' H' (e1.trans (e6.trans e')) S' R') [] s7 I7'
      refine wpAny_mono go (fun f s8 h8 => ?_) fun _ _ z => z.elim
      cases f with
      | next => obtain ⟨_,_,_,q8⟩:=h8; exact q8.elim
      | brk => obtain ⟨_,_,_,q8⟩:=h8; exact q8.elim
      | cont => obtain ⟨_,_,_,q8⟩:=h8; exact q8.elim
      | ret u =>
       obtain ⟨v8,σ8,H8,I8,r8,q8⟩:=h8
       exact name_gone (inv_er I.ok I8) hN hi hx fun s9 I9 => ⟨v8,_,H8,I9,r8,q8⟩
     | bk ρ2 st2 => rw [es] at p; exact False.elim p
     | ct ρ2 st2 => rw [es] at p; exact False.elim p
     | err c2 ρ2 st2 => rw [es] at p; exact False.elim p
     | bad => rw [es] at p; exact False.elim p
 refine wpAny_mono (hb (X.pn ++ pins) hx' ρ st σ H m D' S R post [] s Ib) (fun f s1 h1 => ?_) fun e s1 h1 => h1
 have h2:=sp_er I.ok h1
 cases f with
 | next => exact wpAny_execs_nil h2
 | brk => exact h2
 | cont => exact h2
 | ret u => exact h2
end
end J
namespace J
open PySem PySem.Spec PyProof.Rows L2
section
variable {X:Cx}
def oStr:List Wv → Hs → Re Wv
 | [.int i],st => if i.natAbs.log2 < 1920 then .ok (.str (toString i:String)) st else .bad
 | _,_ => .bad
def mApp (o v:Wv) (st:Hs):Re Wv:=match o with
 | .ref l => (match st[l]? with
  | some (.lst ws) => if ws.length < lim then .ok .non (st.set l (.lst (ws ++ [v]))) else .bad
  | _ => .bad)
 | _ => .bad
def mExt (o v:Wv) (st:Hs):Re Wv:=match o,v with
 | .ref l,.ref k => (match st[l]?,st[k]? with
  | some (.lst ws),some (.lst zs) => if ws.length + zs.length ≤ lim then .ok .non (st.set l (.lst (ws ++ zs))) else .bad
  | _,_ => .bad)
 | _,_ => .bad
def gMeth (mt:Wv → Wv → Hs → Re Wv) (go ga:GE):GE:=fun ρ st => (go ρ st).bind fun o st1 => match o with
 | .ref l => (match lstOf st1 l with
  | some _ => (ga ρ st1).bind fun v st2 => (mt o v st2).nox
  | none => .bad)
 | _ => .bad
def MtW (X:Cx) (id:String) (mt:Wv → Wv → Hs → Re Wv):Prop:=∃ r,MtR X id r ∧ ∀ (o w:Wv) (x v:V) (st:Hs) (H:Hp) (m:Mp) (Q:VK),Sim X.K m st H → RelW X.K m H o x → RelW X.K m H w v → PostO X.K m H (mt o w st) Q → r x [v] H Q
theorem mw_app:MtW X "list.append" mApp:=⟨_,mt_append,fun o w x v st H m Q S ro rw' p => by
 cases o with
 | ref l =>
  unfold RelW at ro
  obtain ⟨a,rfl,ha⟩:=ro
  have p':PostO X.K m H (match st[l]? with | some (.lst ws) => if ws.length < lim then .ok .non (st.set l (.lst (ws ++ [w]))) else .bad | _ => .bad) Q:=p
  cases e:st[l]? with
  | none => rw [e] at p'; exact False.elim p'
  | some ob =>
   cases ob with
   | dct kvs => rw [e] at p'; exact False.elim p'
   | dcT kvs => rw [e] at p'; exact False.elim p'
   | scr ns => rw [e] at p'; exact False.elim p'
   | lst ws =>
    rw [e] at p'
    dsimp only at p'
    by_cases c:ws.length < lim
    ·rw [if_pos c] at p'
     obtain ⟨xs,h1,h2⟩:=S.lstAt ha e
     have e4:Ext X.K m H m (upd H a (.lst (xs ++ [v]))):=Ext.upd (.inr ⟨xs,h1⟩)
     exact ⟨a,xs,v,rfl,rfl,h1,by rw [← h2.length]; exact lim_lt c,p' _ m _ e4 (S.write ha e (h2.append (RelWs.cons rw' RelWs.nil))) mkNon⟩
    ·rw [if_neg c] at p'; exact False.elim p'
 | _ => exact False.elim p⟩
theorem mw_ext:MtW X "list.extend" mExt:=⟨_,mt_extend,fun o w x v st H m Q S ro rw' p => by
 cases o with
 | ref l =>
  cases w with
  | ref k =>
   unfold RelW at ro rw'
   obtain ⟨a,rfl,ha⟩:=ro
   obtain ⟨b,rfl,hb⟩:=rw'
   have p':PostO X.K m H (match st[l]?,st[k]? with | some (.lst ws),some (.lst zs) => if ws.length + zs.length ≤ lim then .ok .non (st.set l (.lst (ws ++ zs))) else .bad | _,_ => .bad) Q:=p
   cases e:st[l]? with
   | none => rw [e] at p'; exact False.elim p'
   | some ob =>
    cases ob with
    | dct kvs => rw [e] at p'; exact False.elim p'
    | dcT kvs => rw [e] at p'; exact False.elim p'
    | scr ns => rw [e] at p'; exact False.elim p'
    | lst ws =>
     cases e2:st[k]? with
     | none => rw [e,e2] at p'; exact False.elim p'
     | some ob2 =>
      cases ob2 with
      | dct kvs => rw [e,e2] at p'; exact False.elim p'
      | dcT kvs => rw [e,e2] at p'; exact False.elim p'
      | scr ns => rw [e,e2] at p'; exact False.elim p'
      | lst zs =>
       rw [e,e2] at p'
       dsimp only at p'
       by_cases c:ws.length + zs.length ≤ lim
       ·rw [if_pos c] at p'
        obtain ⟨xs,h1,h2⟩:=S.lstAt ha e
        obtain ⟨ys,g1,g2⟩:=S.lstAt hb e2
        have e4:Ext X.K m H m (upd H a (.lst (xs ++ ys))):=Ext.upd (.inr ⟨xs,h1⟩)
        exact ⟨a,b,xs,ys,rfl,rfl,h1,g1,by rw [← h2.length,← g2.length]; exact lim_le c,p' _ m _ e4 (S.write ha e (h2.append g2)) mkNon⟩
       ·rw [if_neg c] at p'; exact False.elim p'
  | _ => exact False.elim p
 | _ => exact False.elim p⟩
theorem je_meth {x name:Str} {id:String} {e:Expr} {go ga:GE} {p apos cpos:Pos} {mt:Wv → Wv → Hs → Re Wv} (hm:MtW X id mt) (slot:Slot "list" name id) (hty:typeOf (.builtin id) = pure (.type "method_descriptor")) (ho:JE X (.Name x p) go) (ha:JE X e ga)
  (hst:starEach [e] X.env = [(false,eval e X.env)]) (hline:(apos.endLine == cpos.line) = true):JE X (.Call (.Attribute (.Name x p) name apos) [e] [] cpos) (gMeth mt go ga):=by
 obtain ⟨r,h1,h2⟩:=hm
 have hfew:((backTo cpos (starEach [e] X.env)).all (fun x => !x.1) && (backToKw cpos (keywordEach [] X.env)).all (fun x => x.1.isSome) && decide ([e].length + ([]:List Keyword).length + (if ([]:List Keyword).isEmpty then 0 else 1) < 30)) = true:=by
  rw [hst]; rfl
 refine JE.of (pe_bm PySem.F.plainAttrs_list slot hty h1 pe_SE pa_SA rfl hfew hline hst rfl) fun ρ st σ H m Q S R p => ?_
 refine ho.go S R (PostG.bind p) fun o st1 v m1 H1 p1 e1 S1 ro => ?_
 cases o with
 | ref l =>
  dsimp only at p1
  cases el:lstOf st1 l with
  | none => rw [el] at p1; exact False.elim p1
  | some ws0 =>
   rw [el] at p1
   dsimp only at p1
   have ro':=ro
   unfold RelW at ro'
   obtain ⟨a,rfl,hla⟩:=ro'
   obtain ⟨xs,hq,_⟩:=S1.read hla el
   refine ⟨.inl ⟨rfl,xs,hq⟩,?_⟩
   refine (ja_cons ha ja_nil hst).go S1 (R.mono e1) (ok:=fun ws st2 => PostG X σ m H (match ws with | [w] => (mt (.ref l) w st2).nox | _ => .bad) (okE X.K m H Q)) ?_ fun ws st2 vs m2 H2 p2 e2 S2 rs => ?_
   ·have p3:=(PostG.bind p1).imp e1 (fun _ _ q => q)
    show PostG X σ m1 H1 ((ga ρ st1).bind fun x st1 => (gNil ρ st1).bind fun xs st2 => .ok (x :: xs) st2) _
    cases eg:ga ρ st1 with
    | ok w st2 => rw [eg] at p3; exact p3
    | err c st2 => rw [eg] at p3; exact p3
    | bad => rw [eg] at p3; exact p3
   ·match ws,rs,p2 with
    | [],rs,p2 => exact False.elim p2
    | [w],rs,p2 =>
     obtain ⟨v2,rfl,rw2⟩:=rel1 rs
     exact h2 (.ref l) w (.ref a) v2 st2 H2 m2 Q S2 (RelW.mono e2 _ _ ro) rw2 (PostO.shift (PostG.nox p2) (e1.trans e2))
    | _ :: _ :: _,rs,p2 => exact False.elim p2
 | _ => exact False.elim p1
end
end J
namespace J
open PySem PySem.Spec PyProof.Rows L2
section
variable {X:Cx}
def oStr2:List Wv → Hs → Re Wv
 | [.str z],st => .ok (.str z) st
 | ws,st => oStr ws st
def oInt:List Wv → Hs → Re Wv
 | [.int i],st => .ok (.int i) st
 | [.bl b],st => .ok (.int (if b then 1 else 0)) st
 | _,_ => .bad
theorem cw_int:CallW X (.type "int") oInt:=⟨_,call_int1,fun ws vs st H m Q S rs p => by
 match ws,rs,p with
 | [],rs,p => exact False.elim p
 | x :: y :: t,rs,p => cases x <;> exact False.elim p
 | [x],rs,p =>
  obtain ⟨v,rfl,r1⟩:=rel1 rs
  cases x with
  | int i => cases relInt r1; exact .inl ⟨i,rfl,p _ m H Ext.refl S mkInt⟩
  | bl b => cases relBl r1; exact .inr ⟨b,rfl,p _ m H Ext.refl S mkInt⟩
  | _ => exact False.elim p⟩
def oMax:List Wv → Hs → Re Wv
 | [.int i,.int j],st => .ok (.int (if j > i then j else i)) st
 | _,_ => .bad
def oMin:List Wv → Hs → Re Wv
 | [.int i,.int j],st => .ok (.int (if j < i then j else i)) st
 | _,_ => .bad
theorem cw_min (hc:X.calm = true):CallW X (.builtin "min") oMin:=⟨_,call_min2 hc,fun ws vs st H m Q S rs p => by
 match ws,rs,p with
 | [],rs,p => exact False.elim p
 | [x],rs,p => cases x <;> exact False.elim p
 | x :: y :: z :: t,rs,p => cases x <;> cases y <;> exact False.elim p
 | [x,y],rs,p =>
  obtain ⟨v,v',rfl,r1,r2⟩:=rel2 rs
  cases x with
  | int i =>
   cases y with
   | int j => cases relInt r1; cases relInt r2; exact ⟨i,j,rfl,p _ m H Ext.refl S mkInt⟩
   | _ => exact False.elim p
  | _ => cases y <;> exact False.elim p⟩
def setL:List Nat → List Wv → Rho → Option Rho
 | [],[],ρ => some ρ
 | i :: is,w :: ws,ρ => setL is ws (ρ.set i (some w))
 | _,_,_ => none
def bdT (is:List Nat) (w:Wv) (ρ:Rho):Option Rho:=match w with
 | .tup ws => setL is ws ρ
 | _ => none
def tgs:List Nat → TGs
 | [] => L2.gNil
 | i :: is => L2.gCons (gName i) (tgs is)
theorem setL_run {m:Mp} {H:Hp} {Q:St → Hp → Prop}:∀ {is:List Nat} {ws:List Wv} {xs:List V} {ρ ρ':Rho} {σ:St},RelWs X.K m H ws xs → RelEnv X.K m H ρ σ → setL is ws ρ = some ρ' → (∀ σ',RelEnv X.K m H ρ' σ' → Q σ' H) → tgs is xs σ H Q
 | [],[],xs,ρ,ρ',σ,r,R,e,k => by
  unfold RelWs at r
  subst r
  cases e
  exact ⟨rfl,k σ R⟩
 | i :: is,w :: ws,xs,ρ,ρ',σ,r,R,e,k => by
  unfold RelWs at r
  obtain ⟨x,rr,rfl,h1,h2⟩:=r
  exact ⟨x,rr,rfl,setL_run (is:=is) h2 (R.set i h1) e k⟩
 | [],_ :: _,_,_,_,_,_,_,e,_ => by cases e
 | _ :: _,[],_,_,_,_,_,_,e,_ => by cases e
theorem setL_len:∀ {is:List Nat} {ws:List Wv} {ρ ρ':Rho},setL is ws ρ = some ρ' → ws.length = is.length
 | [],[],_,_,_ => rfl
 | _ :: is,_ :: ws,_,_,e => congrArg (· + 1) (setL_len (is:=is) (ws:=ws) e)
 | [],_ :: _,_,_,e => by cases e
 | _ :: _,[],_,_,e => by cases e
inductive Slots (X:Cx):List Expr → List Nat → Prop
 | nil:Slots X [] []
 | cons {x:Str} {p:Pos} {i:Nat} {es:List Expr} {is:List Nat}:X.N[i]? = some x → (Loc X.env.scope x ∧ (X.fn x = true ∨ X.env.scope.names.lookup x = some .local)) → Slots X es is → Slots X (.Name x p :: es) (i :: is)
theorem pgs_slots (hN:X.N.Nodup):∀ {es:List Expr} {is:List Nat},Slots X es is → PGs X es (tgs is)
 | _,_,.nil => pgs_nil
 | _,_,.cons h1 h2 r => pgs_cons (pg_name hN h1 h2.1 h2.2) (pgs_slots hN r) rfl
theorem each_len:∀ {es:List Expr} {is:List Nat},Slots X es is → (assignEach es X.env).length = is.length
 | _,_,.nil => rfl
 | _,_,.cons _ _ r => congrArg (· + 1) (each_len r)
theorem each_star:∀ {es:List Expr} {is:List Nat},Slots X es is → (assignEach es X.env).findIdx? (·.1) = none
 | _,_,.nil => rfl
 | _,_,.cons (x:=x) (p:=p) (es:=es) _ _ r => by
  have q:=each_star r
  show List.findIdx? _ ((false,assign (.Name x p) X.env) :: assignEach es X.env) = none
  rw [List.findIdx?_cons]
  simp [q]
def gSetT (is:List Nat) (g:GE):GS:=fun ρ st => (g ρ st).thn ρ fun w st' => match bdT is w ρ with
 | some ρ' => .nx ρ' st'
 | none => .bad
theorem js_setT {es:List Expr} {is:List Nat} {k:Nat} {e:Expr} {g:GE} {pos pos':Pos} (hN:X.N.Nodup) (hc:X.calm = true) (sl:Slots X es is) (h:JE X e g) (hs:swapsWith e (some (.Tuple es k pos')) pos.line X.env = pure false) (hw:swappedStores [.Tuple es k pos'] e X.env = pure none) :
  JS X (.Assign [.Tuple es k pos'] e pos) (gSetT is g) :=
 JS.of (ps_asg pe_SE (pg_tup hc (pgs_slots hN sl) (each_len sl) (each_star sl)) (by unfold swapsWithSole; exact hs) hw rfl) fun ρ st σ H m D S R p => h.go S R (PostS.of_thn R p) fun w st1 v m1 H1 q e1 S1 r1 => by
  cases w with
  | tup ws =>
   have q':PostS X m H (match setL is ws ρ with | some ρ' => .nx ρ' st1 | none => .bad) D:=q
   cases e2:setL is ws ρ with
   | none => rw [e2] at q'; exact False.elim q'
   | some ρ' =>
    rw [e2] at q'
    unfold RelW at r1
    obtain ⟨a,xs,rfl,f1,f2⟩:=r1
    exact ⟨a,xs,rfl,SqT.of f1,by rw [← f2.length]; exact setL_len e2,setL_run f2 (R.mono e1) e2 fun σ' R' => q' σ' m1 H1 e1 S1 R'⟩
  | _ => exact False.elim q
open Classical in
end
end J
namespace J
open PySem PySem.Spec PyProof.Rows L2
def clF (env:Env):List (Str × NameKind) → List (Str × Addr) → List (Str × Addr)
 | [],acc => acc
 | (n,k) :: r,acc => if k = .free then clF env r ((n,(env.cells.lookup n).getD 0) :: acc) else clF env r acc
theorem clos_run (env:Env):∀ (names:List (Str × NameKind)) (acc:List (Str × Addr)),(∀ y ∈ names,y.2 = .free → ∃ c,env.cells.lookup y.1 = some c) →
  (forIn names acc fun x r => match x with
   | (name,kind) => if (kind == NameKind.free) = true then do let c ← cellOf env name; pure (ForInStep.yield ((name,c) :: r)) else (pure (ForInStep.yield r):Sem _)) = pure (clF env names acc)
 | [],acc,_ => rfl
 | (n,k) :: r,acc,h => by
  have ih:=fun acc => clos_run env r acc fun y hy => h y (List.mem_cons_of_mem _ hy)
  rw [List.forIn_cons]
  by_cases hk:k = .free
  ·subst hk
   obtain ⟨c,e⟩:=h (n,.free) List.mem_cons_self rfl
   have e':env.cells.lookup n = some c:=e
   have cc:cellOf env n = pure c:=by unfold cellOf; rw [e']
   simp only [beq_self_eq_true,if_true,cc]
   have q:clF env ((n,.free) :: r) acc = clF env r ((n,c) :: acc):=by
    show (if NameKind.free = .free then clF env r ((n,(env.cells.lookup n).getD 0) :: acc) else _) = _
    rw [if_pos rfl,e']
    rfl
   rw [q,← ih]
   rfl
  ·have hb:(k == NameKind.free) = false:=by simpa using hk
   simp only [hb,Bool.false_eq_true,if_false]
   have q:clF env ((n,k) :: r) acc = clF env r acc:=by
    show (if k = .free then _ else clF env r acc) = _
    rw [if_neg hk]
   rw [q,← ih]
   rfl
theorem clos_is {env:Env} {scope:Scope} (h:∀ y ∈ scope.names,y.2 = .free → ∃ c,env.cells.lookup y.1 = some c):closureFor scope env = pure (clF env scope.names []):=by
 have q:=clos_run env scope.names [] h
 unfold closureFor
 first
  | (rw [← q]; rfl)
  | (simp only [bind_pure]; exact q)
theorem clF_sub {env:Env}:∀ {names:List (Str × NameKind)} {acc:List (Str × Addr)} {y:Str} {c:Addr},(∀ y ∈ names,y.2 = .free → ∃ c,env.cells.lookup y.1 = some c) → (∀ y c,acc.lookup y = some c → env.cells.lookup y = some c) → (clF env names acc).lookup y = some c → env.cells.lookup y = some c
 | [],acc,y,c,_,ha,e => ha y c e
 | (n,k) :: r,acc,y,c,h,ha,e => by
  unfold clF at e
  by_cases hk:k = .free
  ·rw [if_pos hk] at e
   subst hk
   obtain ⟨c0,e0⟩:=h (n,.free) List.mem_cons_self rfl
   have e0':env.cells.lookup n = some c0:=e0
   refine clF_sub (fun y hy => h y (List.mem_cons_of_mem _ hy)) (fun y' c' e' => ?_) e
   rw [List.lookup_cons] at e'
   cases q:y' == n with
   | true =>
    rw [q] at e'
    have q':=eq_of_beq q
    subst q'
    rw [e0'] at e' ⊢
    exact e'
   | false => rw [q] at e'; exact ha y' c' e'
  ·rw [if_neg hk] at e
   exact clF_sub (fun y hy => h y (List.mem_cons_of_mem _ hy)) ha e
theorem clF_has {env:Env} {y:Str}:∀ {names:List (Str × NameKind)} {acc:List (Str × Addr)},((∃ c,acc.lookup y = some c) ∨ (y,NameKind.free) ∈ names) → ∃ c,(clF env names acc).lookup y = some c
 | [],acc,h => by
  rcases h with h | h
  ·exact h
  ·cases h
 | (n,k) :: r,acc,h => by
  unfold clF
  by_cases hk:k = .free
  ·rw [if_pos hk]
   refine clF_has ?_
   rw [List.lookup_cons]
   cases q:y == n with
   | true => exact .inl ⟨_,rfl⟩
   | false =>
    rcases h with h | h
    ·exact .inl h
    ·rcases List.mem_cons.mp h with h | h
     ·cases h; simp at q
     ·exact .inr h
  ·rw [if_neg hk]
   refine clF_has ?_
   rcases h with h | h
   ·exact .inl h
   ·rcases List.mem_cons.mp h with h | h
    ·cases h; exact absurd rfl hk
    ·exact .inr h
theorem lookup_mem {α β:Type} [BEq α] [LawfulBEq α] {y:α} {k:β}:∀ {names:List (α × β)},names.lookup y = some k → (y,k) ∈ names
 | [],h => by cases h
 | (n,j) :: r,h => by
  rw [List.lookup_cons] at h
  cases q:y == n with
  | true =>
   rw [q] at h
   cases h
   have q':=eq_of_beq q
   subst q'
   exact List.mem_cons_self
  | false => rw [q] at h; exact List.mem_cons_of_mem _ (lookup_mem h)
theorem rel_look {env:Env}:∀ {names:List (Str × NameKind)} {y:Str},(names.map fun (n,k) => if (k == NameKind.free && env.scope.kind == .function && env.kindOf n == some .cell) then (n,NameKind.cell) else (n,k)).lookup y =
  (names.lookup y).map fun k => if (k == NameKind.free && env.scope.kind == .function && env.kindOf y == some .cell) = true then NameKind.cell else k
 | [],y => rfl
 | (n,k) :: r,y => by
  have ih:=rel_look (env:=env) (names:=r) (y:=y)
  show List.lookup y ((if (k == NameKind.free && env.scope.kind == .function && env.kindOf n == some .cell) = true then (n,NameKind.cell) else (n,k)) :: _) = _
  cases q:y == n with
  | true =>
   have q':=eq_of_beq q
   subst q'
   by_cases hc:(k == NameKind.free && env.scope.kind == .function && env.kindOf y == some .cell) = true
   ·rw [if_pos hc]
    simp only [List.lookup_cons,beq_self_eq_true,Option.map_some]
    rw [if_pos hc]
   ·rw [if_neg hc]
    simp only [List.lookup_cons,beq_self_eq_true,Option.map_some]
    rw [if_neg hc]
  | false =>
   by_cases hc:(k == NameKind.free && env.scope.kind == .function && env.kindOf n == some .cell) = true
   ·rw [if_pos hc]; simp only [List.lookup_cons,q]; exact ih
   ·rw [if_neg hc]; simp only [List.lookup_cons,q]; exact ih
open Classical in
noncomputable def compG (ck:Hs → Prop) (gt:Wv → Hs → Re Bool) (ge:Wv → Hs → Re Wv) (l:Nat):List Wv → Hs → Option Hs
 | [],st => some st
 | w :: r,st => match gt w st with
  | .ok false st1 => if ck st1 then compG ck gt ge l r st1 else none
  | .ok true st1 => (match ge w st1 with
   | .ok v st2 => (match mApp (.ref l) v st2 with
    | .ok _ st3 => if ck st3 then compG ck gt ge l r st3 else none
    | _ => none)
   | _ => none)
  | _ => none
open Classical in
noncomputable def compZ (ck:Hs → Prop) (gt:Wv → Hs → Re Bool) (ge:Wv → Hs → Re Wv) (l:Nat):List Wv → Hs → Re Unit
 | [],st => .ok () st
 | w :: r,st => match gt w st with
  | .ok false st1 => if ck st1 then compZ ck gt ge l r st1 else .bad
  | .ok true st1 => (match ge w st1 with
   | .ok v st2 => (match mApp (.ref l) v st2 with
    | .ok _ st3 => if ck st3 then compZ ck gt ge l r st3 else .bad
    | _ => .bad)
   | .err c st2 => .err c st2
   | .bad => .bad)
  | .err c st1 => .err c st1
  | .bad => .bad
theorem compZ_of {ck:Hs → Prop} {gt:Wv → Hs → Re Bool} {ge:Wv → Hs → Re Wv} {l:Nat} {stF:Hs}:∀ (ws:List Wv) (st:Hs),compG ck gt ge l ws st = some stF → compZ ck gt ge l ws st = .ok () stF
 | [],st,h => by cases h; rfl
 | w :: r,st,h => by
  unfold compG at h
  unfold compZ
  cases eg:gt w st with
  | err c st1 => rw [eg] at h; cases h
  | bad => rw [eg] at h; cases h
  | ok b st1 =>
   rw [eg] at h
   cases b with
   | false =>
    dsimp only at h ⊢
    by_cases c:ck st1
    ·rw [if_pos c] at h ⊢; exact compZ_of r st1 h
    ·rw [if_neg c] at h; cases h
   | true =>
    dsimp only at h ⊢
    cases ee:ge w st1 with
    | err c st2 => rw [ee] at h; cases h
    | bad => rw [ee] at h; cases h
    | ok v st2 =>
     rw [ee] at h
     dsimp only at h ⊢
     cases ea:mApp (.ref l) v st2 with
     | err c st3 => rw [ea] at h; cases h
     | bad => rw [ea] at h; cases h
     | ok u st3 =>
      rw [ea] at h
      dsimp only at h ⊢
      by_cases c:ck st3
      ·rw [if_pos c] at h ⊢; exact compZ_of r st3 h
      ·rw [if_neg c] at h; cases h
abbrev Caps:=List (Str × Nat)
def capR (cs:Caps) (ρ:Rho):Rho:=cs.map fun p => (ρ[p.2]?).getD none
def capS (cs:Caps) (σ:St):St:=cs.map fun p => (σ[p.2]?).getD none
theorem cap_rel {K:PySem.W.Frag} {m:Mp} {H:Hp} {ρ:Rho} {σ:St} (cs:Caps) (R:RelEnv K m H ρ σ):RelEnv K m H (capR cs ρ) (capS cs σ):=by
 refine ⟨by unfold capR capS; simp,fun i w e => ?_⟩
 unfold capR at e
 rw [List.getElem?_map] at e
 cases q:cs[i]? with
 | none => rw [q] at e; cases e
 | some p =>
  rw [q] at e
  have e':(ρ[p.2]?).getD none = some w:=by simpa using e
  cases q2:ρ[p.2]? with
  | none => rw [q2] at e'; cases e'
  | some o =>
   rw [q2] at e'
   have e2:o = some w:=e'
   subst e2
   obtain ⟨v,h1,h2⟩:=R.get _ _ q2
   refine ⟨v,?_,h2⟩
   unfold capS
   rw [List.getElem?_map,q]
   simp [h1]
def compX (X:Cx) (scope:Scope) (x:Str) (cs:Caps) (C:Addr) (s0:Shared) (H0:Hp) (fp:List Addr) (pn:List (Addr × Obj)) (E:Value → Shared → Prop):Cx where
 prog:=X.prog
 w:=X.w
 K:=X.K
 mg:=X.mg
 base:=X.base
 A:=X.A
 N:=x :: cs.map (·.1)
 s₀:=s0
 H₀:=H0
 env:=compEnvC scope (clF X.env scope.names []) C X.env
 outer:=X.stack
 stack:=X.stack
 ex:=fp
 fn:=fun _ => false
 calm:=true
 pn:=pn
 xe:=E
structure CScope (X:Cx) (scope:Scope) (x:Str) (cs:Caps):Prop where
 kind:scope.kind = .function
 look:∀ y ∈ scope.names,scope.names.lookup y.1 = some y.2
 cell:∀ y ∈ scope.names,y.2 ≠ .cell
 var:scope.names.lookup x = some .local
 cap:∀ y ∈ scope.names,y.2 = .free → X.env.kindOf y.1 = some .cell ∨ X.env.kindOf y.1 = some .free
 at_:∀ p ∈ cs,X.N[p.2]? = some p.1 ∧ scope.names.lookup p.1 = some .free
 nd:(x :: cs.map (·.1)).Nodup
section
variable {X:Cx} {pins:List (Addr × Obj)} {σ:St} {H:Hp} {s:Shared} {scope:Scope} {x:Str} {cs:Caps}
theorem fp_stack (I:Inv X pins σ H s) {b:Addr} (f:FpOk X pins H b):b ∉ frs X.stack:=fun z => by
 rcases List.mem_cons.mp (I.stkSub b z) with q | q
 ·exact f.2.1 q
 ·exact f.2.2.1 q
theorem CScope.has (S:CScope X scope x cs) (ok:X.Ok):∀ y ∈ scope.names,y.2 = .free → ∃ c,X.env.cells.lookup y.1 = some c:=fun y hy e => ok.has y.1 (S.cap y hy e)
theorem CScope.sub (S:CScope X scope x cs) (ok:X.Ok) {y:Str} {c:Addr} (e:(clF X.env scope.names []).lookup y = some c):X.env.cells.lookup y = some c :=
 clF_sub (S.has ok) (fun _ _ z => by cases z) e
theorem CScope.kindIn (S:CScope X scope x cs) (ok:X.Ok) {C:Addr} {y:Str} (h:(compEnvC scope (clF X.env scope.names []) C X.env).kindOf y = some .cell ∨ (compEnvC scope (clF X.env scope.names []) C X.env).kindOf y = some .free):scope.names.lookup y = some .free:=by
 have q:(compEnvC scope (clF X.env scope.names []) C X.env).kindOf y = (scope.names.lookup y).map fun k => if (k == NameKind.free && X.env.scope.kind == .function && X.env.kindOf y == some .cell) = true then NameKind.cell else k:=rel_look
 rw [q] at h
 cases e:scope.names.lookup y with
 | none => rw [e] at h; simp at h
 | some k =>
  rw [e] at h
  simp only [Option.map_some,Option.some.injEq] at h
  by_cases hk:k = .free
  ·rw [hk]
  ·have hb:(k == NameKind.free) = false:=by simpa using hk
   rw [hb] at h
   simp only [Bool.false_and,Bool.false_eq_true,if_false] at h
   rcases h with h | h
   ·exact absurd h (S.cell (y,k) (lookup_mem e))
   ·exact absurd h hk
theorem CScope.free_vis (S:CScope X scope x cs) {C:Addr} {y:Str} (e:scope.names.lookup y = some .free):(compEnvC scope (clF X.env scope.names []) C X.env).kindOf y = some .cell ∨ (compEnvC scope (clF X.env scope.names []) C X.env).kindOf y = some .free:=by
 have q:(compEnvC scope (clF X.env scope.names []) C X.env).kindOf y = (scope.names.lookup y).map fun k => if (k == NameKind.free && X.env.scope.kind == .function && X.env.kindOf y == some .cell) = true then NameKind.cell else k:=rel_look
 rw [q,e]
 simp only [Option.map_some]
 split
 ·exact .inl rfl
 ·exact .inr rfl
theorem comp_inv {fp:List Addr} {h2:Heap} {tk:Nat} {E:Value → Shared → Prop} (S:CScope X scope x cs) (hc:X.calm = true) (I:Inv X pins σ H s) (hf:∀ b ∈ fp,FpOk X pins H b) (hl:∀ b ∈ fp,b < s.heap.objs.size)
  (ns:h2.Ns s.heap.objs.size (fun y => ([]:List (Str × Value)).reverse.lookup y)) (sb:Heap.SameBut s.heap.objs.size (s.heap.push { cls:=.type "dict",data:=.dict #[] }) h2) :
  Inv (compX X scope x cs s.heap.objs.size s H fp (X.pn ++ pins) E) [] (none :: capS cs σ) H { s with heap:=h2,toks:=tk }:=by
 have keep:∀ b o,s.heap.get? b = some o → h2.get? b = some o:=fun b o e => (sb.2 b (Nat.ne_of_lt (Heap.lt_size e))).trans (Heap.get?_push_of_some _ e)
 have sub:∀ {y:Str} {c:Addr},(clF X.env scope.names []).lookup y = some c → X.env.cells.lookup y = some c:=fun e => S.sub I.ok e
 have cellK:∀ y c,X.env.cells.lookup y = some c → ∀ v,s.heap.IsCell c v → h2.IsCell c v:=fun y c _ v ⟨o,ho,hd⟩ => ⟨o,keep c o ho,hd⟩
 refine ⟨⟨I.ok.mod,S.kind,I.ok.glob,I.ok.blt,Nat.le_refl _,(fun y z c e1 e2 => I.ok.inj y z c (sub e1) (sub e2)),fun y h => clF_has (.inr (lookup_mem (S.kindIn I.ok h))),(fun y c e => by cases e),fun _ => I.ok.hd hc,I.ok.frames,.inl rfl,fun b hb => ⟨Nat.ne_of_lt (hl b hb),fun y c e => (hf b hb).2.2.2.2.1 y c (sub e)⟩,I.bs,Nat.le_trans I.ok.bsz I.sz,fun b o e hb => ?_,fun b hb => fp_stack I (hf b hb),I.stack,I.stkFree⟩,rfl,I.bare,Un.kept keep,⟨_,ns,fun i y v e1 e2 e3 => ?_⟩,(fun y c e => ?_),I.fresh,(fun y c e => I.freeC y c (sub e)),fun p hp => ?_,I.hok.kept keep,by unfold compX capS; simp⟩
 ·rcases (hf b hb).2.2.2.1 with z | z
  ·exact I.ok.noex b o e z
  ·exact absurd (Nat.lt_of_lt_of_le (Heap.lt_size e) (Nat.le_trans I.ok.bsz z)) (Nat.lt_irrefl _)
 ·cases i with
  | zero => cases e2
  | succ i =>
   have e1':(cs.map (·.1))[i]? = some y:=e1
   have e2':(capS cs σ)[i]? = some (some v):=e2
   unfold capS at e2'
   rw [List.getElem?_map] at e1' e2'
   cases q:cs[i]? with
   | none => rw [q] at e1'; cases e1'
   | some p =>
    rw [q] at e1' e2'
    have y1:p.1 = y:=by simpa using e1'
    have e4:(σ[p.2]?).getD none = some v:=by simpa using e2'
    have e5:σ[p.2]? = some (some v):=by
     cases q2:σ[p.2]? with
     | none => rw [q2] at e4; cases e4
     | some o =>
      rw [q2] at e4
      have:o = some v:=e4
      rw [this]
    have hp:=S.at_ p (List.mem_iff_getElem?.mpr ⟨i,q⟩)
    rw [y1] at hp
    have kd:=S.cap (y,.free) (lookup_mem hp.2) rfl
    obtain ⟨m,hn,hl'⟩:=I.loc
    obtain ⟨u,r,l⟩:=hl' p.2 y v hp.1 e5 (.inr kd)
    refine ⟨u,r,.inr ⟨S.free_vis hp.2,?_⟩⟩
    rcases l with ⟨l,_⟩ | ⟨_,c,e,z⟩
    ·rcases kd with kd | kd
     ·have kd':X.env.kindOf y = some .cell:=kd
      rw [kd'] at l; cases l
     ·have kd':X.env.kindOf y = some .free:=kd
      rw [kd'] at l; cases l
    ·obtain ⟨c',e'⟩:=clF_has (env:=X.env) (y:=y) (names:=scope.names) (acc:=[]) (.inr (lookup_mem hp.2))
     have:=sub e'
     rw [e] at this
     cases this
     exact ⟨c,e',cellK y c e _ z⟩
 ·obtain ⟨v,z⟩:=I.cell y c (sub e)
  exact ⟨v,cellK y c (sub e) v z⟩
 ·rw [List.append_nil] at hp
  obtain ⟨e,n,ne,nf,d⟩:=I.pin p hp
  refine ⟨keep _ _ e,n,Nat.ne_of_lt (Heap.lt_size e),fun z => ?_,d⟩
  rcases List.mem_cons.mp (I.stkSub p.1 z) with q | q
  ·exact ne q
  ·exact nf q
theorem comp_end {fp:List Addr} {E:Value → Shared → Prop} {Hb He:Hp} {sb se:Shared} {C:Addr} {σ':St} {pins':List (Addr × Obj)} (I:Inv X pins σ Hb sb) (hf:∀ b ∈ fp,FpOk X pins Hb b) (J:Inv (compX X scope x cs C sb Hb fp (X.pn ++ pins) E) pins' σ' He se):Inv X pins σ He se:=by
 have un:Un (frs X.stack) fp Hb He sb.heap se.heap:=J.base
 exact I.call' (ch:=fp) J.os un J.hok J.bare fun b hb => ⟨(hf b hb).2.2.2.1,(hf b hb).2.1,(hf b hb).2.2.2.2.1,fun p hp => (hf b hb).2.2.2.2.2 p hp⟩
theorem comp_gone {He:Hp} {se:Shared} {C:Addr} {h2:Heap} (I:Inv X pins σ He se) (f:FpOk X pins He C) (same:Heap.SameBut C se.heap h2):Inv X pins σ He { se with heap:=h2 } :=
 I.turned (t':=se.toks) (it:=C) (fun b o hb e => (same.2 b hb).trans e) f.1 f.2.1 f.2.2.2.1 f.2.2.2.2.1 f.2.2.2.2.2
end
def FrOk (X:Cx):Prop:=∃ (env:Env) (outer:List Env) (L:Addr),X.stack = env :: outer ∧ env.frame = some L ∧ X.env.frame = some L
theorem note_env {e:Value} {env env':Env} (h:env.frame = env'.frame):noteFrame e env = noteFrame e env':=by
 unfold noteFrame PySem.frameOf
 rw [h]
theorem funFrames_to {B B' h h':Heap} (st:B'.StaysIn B):∀ {l:List Env},h.FunFrames B l → (∀ b ∈ frs l,∀ o,h.get? b = some o → (∀ vs,o.data ≠ .fields vs) → h'.get? b = some o) → h'.FunFrames B' l
 | [],_,_ => trivial
 | env :: r,⟨hk,⟨L,o,hf,hn,ho,hd⟩,hr⟩,k => by
  refine ⟨hk,⟨L,o,hf,?_,k L (List.mem_filterMap.mpr ⟨env,List.mem_cons_self,hf⟩) o ho hd,hd⟩,funFrames_to st hr fun b hb => k b ?_⟩
  ·cases q:B'.get? L with
   | none => rfl
   | some u => rw [st L u q] at hn; cases hn
  ·obtain ⟨e,he,hb⟩:=List.mem_filterMap.mp hb
   exact List.mem_filterMap.mpr ⟨e,List.mem_cons_of_mem _ he,hb⟩
section
variable {X:Cx} {pins:List (Addr × Obj)} {σ:St} {scope:Scope} {x:Str} {cs:Caps}
theorem noted_post {Hc H':Hp} {sc s':Shared} {C a Cl L:Addr} {a0 acc:Value} {B h4:Heap} {ch:List Addr} {mm:Str → Option Value} {use:Option (Value → Sem Unit)} {Q:Value → Shared → Prop} {c:Str}
  (hC:ClsAt X.K c Cl) (Io:Inv X pins σ Hc sc) (fC:FpOk X pins Hc C) (ns:sc.heap.Ns C mm) (os:s'.os = sc.os) (bare:AllBare s'.gens) (hch:∀ b ∈ ch,FpOk X pins Hc b) (nC:C ∉ ch) (un:Un (frs X.stack) ch Hc H' sc.heap s'.heap) (hok:HOk X.prog X.w H' B)
  (hd:Heap.HeldW B X.stack a (.ref Cl) a0 L h4) (up:s'.heap.UpToSlots h4) (cov:∀ b o,sc.heap.get? b = some o → b ∉ frs X.stack → b ∉ ch → ∃ o',B.get? b = some o' ∧ (Hc b = none → o' = o)) (k:∀ s5,Raised X σ H' c (.ref a) s5 → X.xe (.ref a) s5) :
  compPost (model X.prog X.w) X.A X.xe use Q acc C (.error (.ref a)) { s' with heap:=h4 }:=by
 have nfC:C ∉ frs X.stack:=fp_stack Io fC
 obtain ⟨oC,es,ep,hoC,dC,sk⟩:=ns
 obtain ⟨oC',gC,eC⟩:=cov C oC hoC nfC nC
 rw [eC fC.1] at gC
 obtain ⟨d1,d2,d3,oe,vs,T,oT,ts,t1,t2,t3,t4,t5,t6,t7,t8,t9⟩:=hd
 have aC:a ≠ C:=fun z => by rw [z,gC] at d2; cases d2
 have TC:T ≠ C:=fun z => by rw [z,gC] at t5; cases t5
 have lt:3 < ts.size:=(Array.getElem?_eq_some_iff.mp t9).1
 have nch:∀ b ∈ frs X.stack,b ∉ ch:=fun b hb z => fp_stack Io (hch b z) hb
 have go:∃ m,h4.Ns C m ∧ ∀ h',Heap.SameBut C h4 h' → ∀ cenv:Env,cenv.locals = C → wpAny (model X.prog X.w) X.A (PySem.passOn "comprehension.variables-let-go" (.ref a) cenv:Sem Value) (fun _ _ => False) X.xe { s' with heap:=h' }:=by
  refine ⟨mm,⟨oC,es,ep,d1 C oC gC,dC,sk⟩,fun h' same cenv _ => ?_⟩
  have ga:h'.get? a = some oe:=(same.2 a aC).trans t1
  have gT:h'.get? T = some oT:=(same.2 T TC).trans t7
  have fin:∀ nt:Value,X.xe (.ref a) { s' with heap:=h'.update T (Obj.mapFields (·.setIfInBounds 3 nt)) }:=fun nt => by
   have other:∀ b,b ≠ T → (h'.update T (Obj.mapFields (·.setIfInBounds 3 nt))).get? b = h'.get? b:=fun b hb => Heap.get?_update_other _ _ (Ne.symm hb)
   have gB:∀ b o,B.get? b = some o → b ≠ C → (h'.update T (Obj.mapFields (·.setIfInBounds 3 nt))).get? b = some o:=fun b o q n => (other b fun z => by rw [z,t5] at q; cases q).trans ((same.2 b n).trans (d1 b o q))
   have gF:∀ b ∈ frs X.stack,∀ o,h4.get? b = some o → (∀ vs,o.data ≠ .fields vs) → (h'.update T (Obj.mapFields (·.setIfInBounds 3 nt))).get? b = some o:=fun b hb o q n => (other b fun z => by
    rw [z,t7] at q
    cases q
    exact n ts t8).trans ((same.2 b fun z => nfC (z ▸ hb)).trans q)
   have sl:∀ b o,sc.heap.get? b = some o → Hc b = none → b ∈ frs X.stack → ∃ sl,(h'.update T (Obj.mapFields (·.setIfInBounds 3 nt))).get? b = some { o with slots:=sl }:=fun b o q n hb => by
    obtain ⟨s1,q1⟩:=un.slot b o q n hb (nch b hb)
    obtain ⟨_,o1,q2,n1⟩:=Io.stack.mem hb
    rw [q] at q2
    cases q2
    obtain ⟨s2,q3⟩:=up b _ q1 n1
    exact ⟨s2,gF b hb _ q3 n1⟩
   have non:∀ b,B.get? b = none → (PySem.W.hideAll B [C]).get? b = none:=fun b q => by
    cases z:(PySem.W.hideAll B [C]).get? b with
    | none => rfl
    | some u => rw [PySem.W.of_hideAll _ z] at q; cases q
   refine k _ ⟨Cl,pins,Hc,sc,hC,Io,.inl ⟨a,a0,nt,PySem.W.hideAll B [C],C :: ch,rfl,os,bare,fun b hb => ?_,⟨fun b o q n hb hx => ?_,fun b o q n hb _ => sl b o q n hb,fun b o q n hx => un.free b o q n fun z => hx (List.mem_cons_of_mem _ z),fun b o q hx => ?_,un.tups,un.frzs,un.tbls⟩,hok_hide hok fun b hb => ?_,⟨fun b o q => ?_,non a d2,funFrames_to (fun b o q => PySem.W.of_hideAll _ q) d3 gF,oe,vs,T,_,_,(other a (Ne.symm t6)).trans ga,t2,t3,t4,non T t5,t6,Heap.get?_update_self _ gT (Obj.isFreed_of_fields (Obj.data_mapFields t8 _)),Obj.data_mapFields t8 _,by simp [lt]⟩,fun b o q hb hx => ?_⟩⟩
   ·rcases List.mem_cons.mp hb with z | z
    ·rw [z]; exact fC
    ·exact hch b z
   ·obtain ⟨o',q1,q2⟩:=cov b o q hb fun z => hx (List.mem_cons_of_mem _ z)
    rw [q2 n] at q1
    exact gB b o q1 fun z => hx (z ▸ List.mem_cons_self)
   ·by_cases hb:b ∈ frs X.stack
    ·obtain ⟨s2,q2⟩:=sl b o q (Io.stkFree b hb) hb
     exact ⟨_,q2⟩
    ·obtain ⟨o',q1,_⟩:=cov b o q hb fun z => hx (List.mem_cons_of_mem _ z)
     exact ⟨o',gB b o' q1 fun z => hx (z ▸ List.mem_cons_self)⟩
   ·rw [List.mem_singleton.mp hb]
    exact un.free C oC hoC fC.1 nC
   ·refine gB b o (PySem.W.of_hideAll _ q) fun z => ?_
    rw [z,PySem.W.hideAll_none [C] List.mem_cons_self] at q
    cases q
   ·obtain ⟨o',q1,q2⟩:=cov b o q hb fun z => hx (List.mem_cons_of_mem _ z)
    exact ⟨o',PySem.W.hideAll_get _ q1 fun z => hx ((List.mem_singleton.mp z) ▸ List.mem_cons_self),q2⟩
  unfold PySem.passOn
  refine wpAny_bind (wpAny_field ga t3 t4 ?_)
  rw [if_neg (show ¬ ((Value.ref T == Value.none) = true) from by simp)]
  unfold setFlight
  refine wpAny_bind (wpAny_bind (wpAny_field ga t3 t4 ?_))
  rw [if_pos (show (Value.ref T != Value.none) = true from by simp)]
  exact wpAny_setField gT t8 lt (wpAny_throw (fin _))
 cases use <;> exact go
theorem comp_raise {fp:List Addr} {H3 H':Hp} {s3 s':Shared} {σ':St} {c:Str} {e acc:Value} {E0:Value → Shared → Prop} {use:Option (Value → Sem Unit)} {Q:Value → Shared → Prop} (fr:FrOk X) (I3:Inv X pins σ H3 s3) (f3:∀ b ∈ fp,FpOk X pins H3 b)
  (rz:Raised (compX X scope x cs s3.heap.objs.size s3 H3 fp (X.pn ++ pins) E0) σ' H' c e s') (k:∀ s5,Raised X σ H' c e s5 → X.xe e s5) :
  notedBy (model X.prog X.w) X.A (compEnvC scope (clF X.env scope.names []) s3.heap.objs.size X.env) (fun e s' => compPost (model X.prog X.w) X.A X.xe use Q acc s3.heap.objs.size (.error e) s') e s':=by
 obtain ⟨env,outer,L,hst,hf,hfe⟩:=fr
 obtain ⟨Cl,pins',Hc,sc,hC,J,r⟩:=rz
 have Io:Inv X pins σ Hc sc:=comp_end I3 f3 J
 have fC:FpOk X pins Hc s3.heap.objs.size:=I3.fpOk (Nat.le_refl _) J.free
 obtain ⟨mm,ns,_⟩:=id J.loc
 have hfr:X.A.frames = some (env :: outer):=by rw [Io.ok.frames,hst]
 unfold notedBy
 rw [note_env (env':=env) (show (compEnvC scope (clF X.env scope.names []) s3.heap.objs.size X.env).frame = env.frame from hfe.trans hf.symm)]
 rcases r with ⟨a,a0,nt,B,ch,rfl,os,bare,hch,un,hok,fl,cov⟩ | ⟨rfl,a,args,rfl,ho,hg,M⟩
 ·have fl':B.StaysIn s'.heap ∧ B.get? a = none ∧ s'.heap.FunFrames B X.stack ∧ s'.heap.TracedAtW B a (.ref Cl) a0 nt:=fl
  rw [hst] at fl'
  refine note_any hfr hf fl' fun h4 hd4 up4 => ?_
  rw [← hst] at hd4
  refine noted_post hC Io fC ns os bare (fun b hb => ?_) (fun z => (hch _ z).2.1 rfl) un hok hd4 up4 cov k
  obtain ⟨h1,_,_,h4,_⟩:=hch b hb
  rcases h4 with z | z
  ·exact ⟨h1,(f3 b z).2⟩
  ·exact I3.fpOk z h1
 ·have fs:sc.heap.FunFrames (PySem.W.hideAll sc.heap (frs X.stack)) (env :: outer):=by
   rw [← hst]
   exact PySem.W.funFrames_hide Io.stack fun env he b hb => List.mem_filterMap.mpr ⟨env,he,hb⟩
  refine note_made (base:=PySem.W.hideAll sc.heap (frs X.stack)) hfr hf (fun b o q => PySem.W.of_hideAll _ q) fs M fun h4 a0 hd4 up4 => ?_
  rw [← hst] at hd4
  exact noted_post (ch:=[]) hC Io fC ns ho (by rw [hg]; exact Io.bare) (fun b z => by cases z) (by simp) (Un.kept M.keeps) (hok_hide Io.hok Io.stkFree) hd4 up4 (fun b o q hb _ => ⟨o,PySem.W.hideAll_get _ q hb,fun _ => rfl⟩) k
end
def JTs (X:Cx) (ifs:List Expr) (g:GT):Prop:=∀ (ρ:Rho) (st:Hs) (σ:St) (H:Hp) (m:Mp) (Q:Bool → Hp → Prop),Sim X.K m st H → RelEnv X.K m H ρ σ → PostT X σ m H (g ρ st) Q → ∀ (pins:List (Addr × Obj)) (s:Shared),Inv X pins σ H s →
 wpAny (model X.prog X.w) X.A (forIn ifs true fun c r => if r = true then do let ok ← isTrue c X.env (eval c X.env); pure (ForInStep.yield ok) else pure (ForInStep.yield r)) (TP X pins σ Q) X.xe s
section
variable {X:Cx}
theorem jts_nil:JTs X [] (fun _ st => .ok true st):=fun ρ st σ H m Q S R p pins s I => wpAny_tests_nil ⟨H,I,p m H Ext.refl S⟩
theorem jts_one {c:Expr} {g:GT} (h:JT X c g):JTs X [c] g:=fun ρ st σ H m Q S R p pins s I => wpAny_tests_one (h ρ st σ H m Q S R p pins s I)
theorem comp_block {pins:List (Addr × Obj)} {σ:St} {ρ:Rho} {scope:Scope} {x:Str} {cs:Caps} {px pos:Pos} {elt iter:Expr} {ifs:List Expr} {gt:GT} {ge:GE} {ck:Hs → Prop} {ws:List Wv} {E:Value → Shared → Prop}
  {use:Option (Value → Sem Unit)} {Q:Value → Shared → Prop} {res:Re Unit}
  {it:Addr} {fp:List Addr} {tn:Nat → Heap → Prop} {J':It} {H2:Hp} {s2:Shared} {m1:Mp} {st1:Hs} (fr:FrOk X) (S:CScope X scope x cs) (hc:X.calm = true) (I2:Inv X pins σ H2 s2) (T:Turn X.prog X.w X.K (.Name x px) J' fp it tn) (t0:tn 0 s2.heap) (f2:∀ b ∈ fp,FpOk X pins H2 b)
  (S1:Sim X.K m1 st1 H2) (R:RelEnv X.K m1 H2 ρ σ) (hck:ck (st1 ++ [.lst []])) (run:compZ ck (fun w => gt (some w :: capR cs ρ)) (fun w => ge (some w :: capR cs ρ)) st1.length ws (st1 ++ [.lst []]) = res) (nb:res ≠ .bad) (hx:∀ c stE,res = .err c stE → XOk X σ m1 H2 c stE)
  (hE:∀ C s0 H0 pn E,JE (compX X scope x cs C s0 H0 fp pn E) elt ge) (hT:∀ C s0 H0 pn E,JTs (compX X scope x cs C s0 H0 fp pn E) ifs gt)
  (hgo:∀ (k:Nat) (H:Hp) (m':Mp) (st:Hs),Ext X.K m1 H2 m' H → Sim X.K m' st H → ck st → k < ws.length → J'.go k H) (hstop:∀ (k:Nat) (H:Hp) (m':Mp) (st:Hs),Ext X.K m1 H2 m' H → Sim X.K m' st H → ck st → k = ws.length → J'.stop k H)
  (hy:∀ (k:Nat) (hk:k < ws.length) (H:Hp) (v:V) (H':Hp) (m':Mp) (st:Hs),Ext X.K m1 H2 m' H → Sim X.K m' st H → ck st → J'.yld k H v H' → H' = H ∧ RelW X.K m' H ws[k] v)
  (fin:∀ (stF:Hs),res = .ok () stF → ∀ (D C:Addr) (mm:Str → Option Value) (m':Mp) (H':Hp) (s':Shared),Ext X.K m1 H2 m' H' → Sim X.K m' stF H' → m'[st1.length]? = some D → Inv X pins σ H' s' → FpOk X pins H' C → s'.heap.Ns C mm → (∀ y c,X.env.cells.lookup y = some c → c ≠ C) → compPost (model X.prog X.w) X.A X.xe use Q (.ref D) C (.ok .next) s') :
  wpAny (model X.prog X.w) X.A (newList []) (fun acc s3 => wpAny (model X.prog X.w) X.A (newFunctionEnv scope X.env.globals (clF X.env scope.names []) [] X.env.qual none .none (some X.env)) (fun cenv s4 =>
   codeAny (model X.prog X.w) X.A (.compStart (.ListComp elt [⟨.Name x px,iter,ifs,0⟩] scope pos) 0 (.ref it) acc { cenv with scope:=relabel scope X.env }) (compPost (model X.prog X.w) X.A X.xe use Q acc cenv.locals) s4) E s3) E s2:=by
 refine wpAny_newList ?_
 have I3:Inv X pins σ (upd H2 s2.heap.objs.size (.lst [])) { s2 with heap:=s2.heap.push { cls:=.type "list",data:=.seq ([]:List Value).toArray } }:=I2.lnew (ys:=[]) (its:=[]) (t':=s2.toks) .nil (Nat.zero_le _)
 have lt2:∀ b ∈ fp,b < s2.heap.objs.size:=fun b hb => by
  obtain ⟨o,e,_⟩:=T.obj _ _ t0 b hb
  exact Heap.lt_size e
 have hD:H2 s2.heap.objs.size = none:=I2.fresh
 have f3:∀ b ∈ fp,FpOk X pins (upd H2 s2.heap.objs.size (.lst [])) b:=fun b hb => ⟨by rw [upd_ne (Nat.ne_of_lt (lt2 b hb))]; exact (f2 b hb).1,(f2 b hb).2⟩
 have S3:=S1.alloc (ws:=[]) (xs:=[]) hD RelWs.nil
 have e3:Ext X.K m1 H2 (m1 ++ [s2.heap.objs.size]) (upd H2 s2.heap.objs.size (.lst [])):=Ext.more.trans (Ext.upd (.inl hD))
 have lab:(m1 ++ [s2.heap.objs.size])[st1.length]? = some s2.heap.objs.size:=by
  rw [← S1.len,List.getElem?_append_right (Nat.le_refl _),Nat.sub_self]; rfl
 generalize hs3:({ s2 with heap:=s2.heap.push { cls:=.type "list",data:=.seq ([]:List Value).toArray } }:Shared) = s3 at I3
 have k23:∀ b o,s2.heap.get? b = some o → s3.heap.get? b = some o:=fun b o e => by rw [← hs3]; exact Heap.get?_push_of_some _ e
 have lt3:∀ b ∈ fp,b < s3.heap.objs.size:=fun b hb => by
  obtain ⟨o,e,_⟩:=T.obj _ _ t0 b hb
  exact Heap.lt_size (k23 b o e)
 generalize hDD:s2.heap.objs.size = D at *
 generalize hH3:upd H2 D (.lst []) = H3 at *
 generalize hm3:m1 ++ [D] = m3 at *
 have R3:RelEnv X.K m3 H3 (capR cs ρ) (capS cs σ):=(cap_rel cs R).mono e3
 generalize hrr:capR cs ρ = ρc at *
 generalize hss:capS cs σ = σc at *
 refine wpAny_newFunctionEnv S.cell (fun _ z => nomatch z) (fun h4 ns4 sb4 => ?_) S.kind
 have Ic:=fun E => comp_inv (E:=E) (tk:=s3.toks + ([]:List (Str × Value)).length) S hc I3 f3 lt3 ns4 sb4
 have k34:∀ b o,s3.heap.get? b = some o → h4.get? b = some o:=fun b o e => (sb4.2 b (Nat.ne_of_lt (Heap.lt_size e))).trans (Heap.get?_push_of_some _ e)
 have t4:tn 0 h4:=T.keep _ _ _ t0 fun b _ o e => k34 b o (k23 b o e)
 let EX:Value → Shared → Prop:=notedBy (model X.prog X.w) X.A (compEnvC scope (clF X.env scope.names []) s3.heap.objs.size X.env) fun e s' => compPost (model X.prog X.w) X.A X.xe use Q (.ref D) s3.heap.objs.size (.error e) s'
 let Xc:=compX X scope x cs s3.heap.objs.size s3 H3 fp (X.pn ++ pins) EX
 have noted:∀ {σ':St} {m:Mp} {H:Hp} {c:Str} {st:Hs},Ext X.K m1 H2 m H → res = .err c st → XOk Xc σ' m H c st:=fun {σ' m H c st} e0 er m' H' e s' ex S' rz => comp_raise fr I3 f3 rz fun s5 r5 => hx c st er m' H' e s5 (e0.trans ex) S' r5
 have vis:Xc.env.scope.names.lookup x = some .local:=lookup_relabel_local S.var
 have fpc:∀ (H':Hp),(∀ b ∈ fp,H' b = none) → ∀ b ∈ fp,FpOk Xc [] H' b:=fun H' hn b hb => ⟨hn b hb,Nat.ne_of_lt (lt3 b hb),fp_stack I3 (f3 b hb),.inl hb,fun y c e => (f3 b hb).2.2.2.2.1 y c (S.sub I3.ok e),fun p hp => (f2 b hb).2.2.2.2.2 p (by have hp':p ∈ (X.pn ++ pins) ++ []:=hp; rw [List.append_nil] at hp'; exact hp')⟩
 let Pv:Nat → Shared → Prop:=fun k s' => ∃ z H' st m',Inv Xc [] (z :: σc) H' s' ∧ tn k s'.heap ∧ (∀ b ∈ fp,H' b = none) ∧ Ext X.K m3 H3 m' H' ∧ Sim X.K m' st H' ∧ ck st ∧ compZ ck (fun w => gt (some w :: ρc)) (fun w => ge (some w :: ρc)) st1.length (ws.drop k) st = res
 have loop:∀ s4:Shared,Pv 0 s4 → codeAny (model X.prog X.w) X.A (.compLoop (.ListComp elt [⟨.Name x px,iter,ifs,0⟩] scope pos) 0 (.ref it) (.ref D) (compEnvC scope (clF X.env scope.names []) s3.heap.objs.size X.env)) (compPost (model X.prog X.w) X.A X.xe use Q (.ref D) s3.heap.objs.size) s4:=fun s4 p0 => by
  refine codeAny_compLoop_tests (fun n s' => ∃ k,n = ws.length - k ∧ k ≤ ws.length ∧ Pv k s') ?_ ws.length ⟨0,by simp,Nat.zero_le _,p0⟩
  rintro n s5 ⟨k,rfl,hk,z5,H5,st5,m5,I5,tn5,fr5,e5,S5,c5,run5⟩
  have e15:=e3.trans e5
  by_cases hlt:k < ws.length
  ·refine thn (T.item Xc rfl rfl rfl rfl k [] s5 (z5 :: σc) H5 _ I5 (fpc H5 fr5) tn5 (hgo k H5 m5 st5 e15 S5 c5 hlt)) fun r s6 h6 => ?_
   obtain ⟨u,rfl,h6⟩:=h6
   show wpAny (model X.prog X.w) X.A (pure () >>= fun _ => assign (.Name x px) Xc.env u) _ _ s6
   refine wpAny_bind (thn h6 fun _ s7 h7 => ?_)
   obtain ⟨v,H7,I7,rv,yl,tn7,fr7⟩:=h7
   obtain ⟨rfl,rw7⟩:=hy k hlt H5 v H7 m5 st5 e15 S5 c5 yl
   have I7':=I7.pinned (fpc H7 fr7) (T.obj _ _ tn7)
   refine wpAny_assign_Name (store_ok (i:=0) I7' S.nd rfl (.inl vis) rv (fun s8 I8 => ?_) (.inr vis))
   have I8':Inv Xc ([] ++ pinsAt fp s7.heap) (some v :: σc) H7 s8:=I8
   have R8:RelEnv X.K m5 H7 (some ws[k] :: ρc) (some v :: σc):=by
    have R5:=R3.mono e5
    refine ⟨by simp [R5.len],fun i w e => ?_⟩
    cases i with
    | zero =>
     cases e
     exact ⟨v,rfl,rw7⟩
    | succ i => exact R5.get i w e
   have ed:ws.drop k = ws[k] :: ws.drop (k + 1):=List.drop_eq_getElem_cons hlt
   rw [ed] at run5
   unfold compZ at run5
   have back:∀ {H':Hp} {s':Shared} {m':Mp} {st:Hs},Inv Xc ([] ++ pinsAt fp s7.heap) (some v :: σc) H' s' → Ext X.K m3 H3 m' H' → Sim X.K m' st H' → ck st → compZ ck (fun w => gt (some w :: ρc)) (fun w => ge (some w :: ρc)) st1.length (ws.drop (k + 1)) st = res → ∃ n',n' < ws.length - k ∧ ∃ k',n' = ws.length - k' ∧ k' ≤ ws.length ∧ Pv k' s' :=
    fun {H' s' m' st} I' e' S' c' r' => ⟨ws.length - (k + 1),by omega,k + 1,rfl,hlt,some v,H',st,m',I'.unpinned,T.keep _ _ _ tn7 fun b hb o e => (I'.pin (b,o) (List.mem_append_right _ (List.mem_append_right _ (mem_pinsAt hb e)))).1,fun b hb => by
     obtain ⟨o,e,_⟩:=T.obj _ _ tn7 b hb
     exact (I'.pin (b,o) (List.mem_append_right _ (List.mem_append_right _ (mem_pinsAt hb e)))).2.1,e',S',c',r'⟩
   cases eg:gt (some ws[k] :: ρc) st5 with
   | err c st6 =>
    rw [eg] at run5
    refine wpAny_mono (hT s3.heap.objs.size s3 H3 (X.pn ++ pins) EX (some ws[k] :: ρc) st5 (some v :: σc) H7 m5 (fun _ _ => False) S5 R8 (by rw [eg]; exact noted e15 run5.symm) ([] ++ pinsAt fp s7.heap) s8 I8') (fun _ _ h9 => ?_) fun _ _ z => z
    obtain ⟨_,_,z⟩:=h9
    exact z.elim
   | bad => rw [eg] at run5; exact absurd run5.symm nb
   | ok b st6 =>
    rw [eg] at run5
    have tst:=hT s3.heap.objs.size s3 H3 (X.pn ++ pins) EX (some ws[k] :: ρc) st5 (some v :: σc) H7 m5 (fun b' H' => b' = b ∧ ∃ m',Ext X.K m5 H7 m' H' ∧ Sim X.K m' st6 H') S5 R8 (by rw [eg]; exact fun m' H' e' S' => ⟨rfl,m',e',S'⟩) ([] ++ pinsAt fp s7.heap) s8 I8'
    refine wpAny_mono tst (fun ok s9 h9 => ?_) fun _ _ z => z
    obtain ⟨H9,I9,rfl,m9,e9,S9⟩:=h9
    cases ok with
    | false =>
     dsimp only at run5
     by_cases c6:ck st6
     ·rw [if_pos c6] at run5
      rw [if_neg Bool.false_ne_true]
      exact back I9 (e5.trans e9) S9 c6 run5
     ·rw [if_neg c6] at run5; exact absurd run5.symm nb
    | true =>
     dsimp only at run5
     rw [if_pos rfl]
     cases ee:ge (some ws[k] :: ρc) st6 with
     | err c st7 =>
      rw [ee] at run5
      refine wpAny_mono (hE s3.heap.objs.size s3 H3 (X.pn ++ pins) EX (some ws[k] :: ρc) st6 (some v :: σc) H9 m9 (fun _ _ => False) S9 (R8.mono e9) (by rw [ee]; exact noted (e15.trans e9) run5.symm) ([] ++ pinsAt fp s7.heap) s9 I9) (fun _ _ h10 => ?_) fun _ _ z => z
      obtain ⟨_,_,_,_,z⟩:=h10
      exact z.elim
     | bad => rw [ee] at run5; exact absurd run5.symm nb
     | ok w st7 =>
      rw [ee] at run5
      dsimp only at run5
      cases ea:mApp (.ref st1.length) w st7 with
      | err c st8 => rw [ea] at run5; exact absurd run5.symm nb
      | bad => rw [ea] at run5; exact absurd run5.symm nb
      | ok w2 st8 =>
       rw [ea] at run5
       dsimp only at run5
       by_cases c8:ck st8
       ·rw [if_pos c8] at run5
        have el:=hE s3.heap.objs.size s3 H3 (X.pn ++ pins) EX (some ws[k] :: ρc) st6 (some v :: σc) H9 m9 (fun v' H' => ∃ m',Ext X.K m9 H9 m' H' ∧ Sim X.K m' st7 H' ∧ RelW X.K m' H' w v') S9 (R8.mono e9) (by rw [ee]; exact fun v' m' H' e' S' r' => ⟨m',e',S',r'⟩) ([] ++ pinsAt fp s7.heap) s9 I9
        refine wpAny_mono el (fun u2 s10 h10 => ?_) fun _ _ z => z
        obtain ⟨v2,H10,I10,r2,m10,e10,S10,rw10⟩:=h10
        obtain ⟨r,h1,h2⟩:=mw_app (X:=Xc)
        have eA:=(e5.trans e9).trans e10
        have ro:RelW X.K m10 H10 (.ref st1.length) (.ref D):=by unfold RelW; exact ⟨D,rfl,eA.pre _ _ lab⟩
        have rd:=h2 (.ref st1.length) w (.ref D) v2 st7 H10 m10 (fun _ H' => ∃ m',Ext X.K m10 H10 m' H' ∧ Sim X.K m' st8 H') S10 ro rw10 (by rw [ea]; exact fun v' m' H' e' S' r' => ⟨m',e',S'⟩)
        refine wpAny_mono (h1 ([] ++ pinsAt fp s7.heap) s10 (some v :: σc) H10 (.ref D) [v2] (.ref D) [u2] _ I10 rfl (.cons r2 .nil) rd) (fun _ s11 h11 => ?_) fun _ _ z => z
        obtain ⟨_,H11,I11,_,m11,e11,S11⟩:=h11
        exact back I11 (eA.trans e11) S11 c8 run5
       ·rw [if_neg c8] at run5; exact absurd run5.symm nb
  ·have ek:k = ws.length:=by omega
   subst ek
   refine thn (T.done Xc rfl rfl rfl rfl _ [] s5 (z5 :: σc) H5 _ I5 (fpc H5 fr5) tn5 (hstop _ H5 m5 st5 e15 S5 c5 rfl)) fun r s6 h6 => ?_
   obtain ⟨rfl,I6⟩:=h6
   rw [List.drop_length] at run5
   obtain ⟨mm,ns6,_⟩:=id I6.loc
   have fC:=I3.fpOk (H':=H5) (Nat.le_refl _) I6.free
   exact fin st5 run5.symm D _ mm m5 H5 _ e15 S5 (e5.pre _ _ lab) (comp_end I3 f3 I6) fC ns6 fC.2.2.2.2.1
 have p0:Pv 0 { s3 with heap:=h4,toks:=s3.toks + ([]:List (Str × Value)).length }:=⟨none,H3,st1 ++ [Ob.lst []],m3,hss ▸ Ic EX,t4,fun b hb => (f3 b hb).1,Ext.refl,S3,hck,by rw [List.drop_zero]; exact run⟩
 exact codeAny_compStart_list (loop _ p0) (T.self X.A 0 _ _ _ t4 (loop _ p0))
end
end J
namespace J
open PySem PySem.Spec PyProof.Rows L2
abbrev Wk:=Option Nat × List Wv
def ckOf (w:Wk) (st:Hs):Prop:=match w.1 with
 | some l => lstOf st l = some w.2
 | none => True
structure ItFor (X:Cx) (w:Wk) (m1:Mp) (H1:Hp) (J':It):Prop where
 go:∀ (k:Nat) (H:Hp) (m':Mp) (st:Hs),Ext X.K m1 H1 m' H → Sim X.K m' st H → ckOf w st → k < w.2.length → J'.go k H
 stop:∀ (k:Nat) (H:Hp) (m':Mp) (st:Hs),Ext X.K m1 H1 m' H → Sim X.K m' st H → ckOf w st → k = w.2.length → J'.stop k H
 yld:∀ (k:Nat) (hk:k < w.2.length) (H:Hp) (v:V) (H':Hp) (m':Mp) (st:Hs),Ext X.K m1 H1 m' H → Sim X.K m' st H → ckOf w st → J'.yld k H v H' → H' = H ∧ RelW X.K m' H w.2[k] v
abbrev GI:=Rho → Hs → Re Wk
def JI (X:Cx) (tg iter:Expr) (gi:GI):Prop:=∃ wi,PI X tg iter wi ∧ ∀ (ρ:Rho) (st:Hs) (σ:St) (H:Hp) (m:Mp) (R:It → Hp → Prop),Sim X.K m st H → RelEnv X.K m H ρ σ →
 PostG X σ m H (gi ρ st) (fun w st1 => ∀ (m1:Mp) (H1:Hp) (J':It),Ext X.K m H m1 H1 → Sim X.K m1 st1 H1 → ckOf w st1 → ItFor X w m1 H1 J' → R J' H1) → wi σ H R
def seqW (w:Wv) (st:Hs):Re Wk:=match w with
 | .ref l => (match lstOf st l with | some ws => .ok (some l,ws) st | none => .bad)
 | .tup ws => .ok (none,ws) st
 | .ktp ws => .ok (none,ws) st
 | _ => .bad
def giSeq (g:GE):GI:=fun ρ st => (g ρ st).bind seqW
section
variable {X:Cx}
theorem ji_seq {tg iter:Expr} {g:GE} (h:JE X iter g):JI X tg iter (giSeq g):=by
 refine ⟨_,pi_seq pe_SE,fun ρ st σ H m Q S R p => ?_⟩
 refine h.go S R (PostG.bind p) fun w st1 v m1 H1 p1 e1 S1 rw' => ?_
 cases w with
 | ref l =>
  unfold RelW at rw'
  obtain ⟨a,rfl,hla⟩:=rw'
  unfold seqW at p1
  cases el:lstOf st1 l with
  | none => simp only [el] at p1; exact False.elim p1
  | some ws =>
   simp only [el] at p1
   obtain ⟨xs0,q0,_⟩:=S1.read hla el
   refine ⟨a,rfl,.inl ⟨⟨xs0,q0⟩,p1 m1 H1 _ e1 S1 el ⟨fun k H' m' st' e S' c hk => ?_,fun k H' m' st' e S' c hk => ?_,fun k hk H' v H'' m' st' e S' c y => ?_⟩⟩⟩
   ·obtain ⟨xs,hq,rws⟩:=S'.read (e.pre _ _ hla) c
    have hx':k < xs.length:=by rw [← rws.length]; exact hk
    exact ⟨xs,xs[k],hq,by simp [hx']⟩
   ·obtain ⟨xs,hq,rws⟩:=S'.read (e.pre _ _ hla) c
    exact ⟨xs,hq,by rw [← rws.length,hk]; exact Nat.le_refl _⟩
   ·obtain ⟨xs,hq,rws⟩:=S'.read (e.pre _ _ hla) c
    obtain ⟨ee,y⟩:=y
    refine ⟨ee,?_⟩
    obtain ⟨x',ex',rx'⟩:=rws.get (i:=k) (w:=ws[k]) (List.getElem?_eq_getElem hk)
    rw [y xs hq] at ex'
    cases ex'
    exact rx'
 | tup ws =>
  unfold RelW at rw'
  obtain ⟨a,xs,rfl,hq,rws⟩:=rw'
  refine ⟨a,rfl,.inr ⟨⟨xs,SqT.of hq⟩,p1 m1 H1 _ e1 S1 trivial ⟨fun k H' m' st' e S' c hk => ?_,fun k H' m' st' e S' c hk => ?_,fun k hk H' v H'' m' st' e S' c y => ?_⟩⟩⟩
  ·have hx':k < xs.length:=by rw [← rws.length]; exact hk
   exact ⟨xs,xs[k],SqT.of (e.tup _ _ hq),by simp [hx']⟩
  ·exact ⟨xs,SqT.of (e.tup _ _ hq),by rw [← rws.length,hk]; exact Nat.le_refl _⟩
  ·obtain ⟨ee,y⟩:=y
   refine ⟨ee,?_⟩
   obtain ⟨x',ex',rx'⟩:=(RelWs.mono e _ _ rws).get (i:=k) (w:=ws[k]) (List.getElem?_eq_getElem hk)
   rw [y xs (SqT.of (e.tup _ _ hq))] at ex'
   cases ex'
   exact rx'
 | ktp ws =>
  unfold RelW at rw'
  obtain ⟨a,xs,rfl,hq,rws⟩:=rw'
  refine ⟨a,rfl,.inr ⟨⟨xs,.inr hq⟩,p1 m1 H1 _ e1 S1 trivial ⟨fun k H' m' st' e S' c hk => ?_,fun k H' m' st' e S' c hk => ?_,fun k hk H' v H'' m' st' e S' c y => ?_⟩⟩⟩
  ·have hx':k < xs.length:=by rw [← rws.length]; exact hk
   exact ⟨xs,xs[k],.inr hq,by simp [hx']⟩
  ·exact ⟨xs,.inr hq,by rw [← rws.length,hk]; exact Nat.le_refl _⟩
  ·obtain ⟨ee,y⟩:=y
   refine ⟨ee,?_⟩
   obtain ⟨x',ex',rx'⟩:=(RelWs.mono e _ _ rws).get (i:=k) (w:=ws[k]) (List.getElem?_eq_getElem hk)
   rw [y xs (.inr hq)] at ex'
   cases ex'
   exact rx'
 | _ => exact False.elim p1
theorem it_rng {lo:Int} {n:Nat} {m1:Mp} {H1:Hp}:ItFor X (none,rngW lo n) m1 H1 (Itr lo n) where
 go:=fun k H m' st e S c hk => by
  have:(rngW lo n).length = n:=rngW_len
  have hk':k < (rngW lo n).length:=hk
  rw [this] at hk'; exact hk'
 stop:=fun k H m' st e S c hk => by
  have:(rngW lo n).length = n:=rngW_len
  have hk':k = (rngW lo n).length:=hk
  rw [this] at hk'; exact Nat.le_of_eq hk'.symm
 yld:=fun k hk H v H' m' st e S c y => by
  obtain ⟨y1,y2⟩:=y
  refine ⟨y1,?_⟩
  have q:(rngW lo n)[k]'hk = .int (lo + k):=rngW_get hk
  show RelW X.K m' H ((rngW lo n)[k]'hk) v
  rw [q,y2]
  exact mkInt
noncomputable def rng1W (ws:List Wv) (st:Hs):Re Wk:=match ws with
 | [.int j] => if CRng j then .ok (none,rngW 0 j.toNat) st else .bad
 | _ => .bad
noncomputable def rng2W (ws:List Wv) (st:Hs):Re Wk:=match ws with
 | [.int a,.int j] => if CRng a ∧ CRng j then .ok (none,rngW a (j - a).toNat) st else .bad
 | _ => .bad
noncomputable def giR1 (g:GA):GI:=fun ρ st => (g ρ st).bind rng1W
noncomputable def giR2 (g:GA):GI:=fun ρ st => (g ρ st).bind rng2W
theorem ji_r1 {tg a:Expr} {ga:GA} {p q:Pos} (hg:Gl X "range") (hm:X.mg "range" = none) (ha:JA X [a] ga) (hst:starEach [a] X.env = [(false,eval a X.env)]):JI X tg (.Call (.Name "range" p) [a] [] q) (giR1 ga):=by
 refine ⟨_,pi_range1 hg hm pa_SA hst,fun ρ st σ H m Q S R p => ?_⟩
 refine ha.go S R (PostG.bind p) fun ws st1 vs m1 H1 p1 e1 S1 rs => ?_
 match ws,rs,p1 with
 | [],rs,p1 => exact False.elim p1
 | x :: y :: t,rs,p1 => cases x <;> exact False.elim p1
 | [x],rs,p1 =>
  obtain ⟨v,rfl,r1⟩:=rel1 rs
  cases x with
  | int j =>
   cases relInt r1
   unfold rng1W at p1
   by_cases c:CRng j
   ·simp only [if_pos c] at p1
    exact ⟨j,rfl,c.1,c.2,p1 m1 H1 _ e1 S1 trivial it_rng⟩
   ·simp only [if_neg c] at p1; exact False.elim p1
  | _ => exact False.elim p1
theorem ji_r2 {tg a b:Expr} {ga:GA} {p q:Pos} (hg:Gl X "range") (hm:X.mg "range" = none) (ha:JA X [a,b] ga) (hst:starEach [a,b] X.env = [(false,eval a X.env),(false,eval b X.env)]) (hst2:starEach [b] X.env = [(false,eval b X.env)]):JI X tg (.Call (.Name "range" p) [a,b] [] q) (giR2 ga):=by
 refine ⟨_,pi_range2 hg hm pa_SA hst hst2,fun ρ st σ H m Q S R p => ?_⟩
 refine ha.go S R (PostG.bind p) fun ws st1 vs m1 H1 p1 e1 S1 rs => ?_
 match ws,rs,p1 with
 | [],rs,p1 => exact False.elim p1
 | [x],rs,p1 => cases x <;> exact False.elim p1
 | x :: y :: z :: t,rs,p1 => cases x <;> cases y <;> exact False.elim p1
 | [x,y],rs,p1 =>
  obtain ⟨v,v',rfl,r1,r2⟩:=rel2 rs
  cases x with
  | int a =>
   cases y with
   | int j =>
    cases relInt r1; cases relInt r2
    unfold rng2W at p1
    by_cases c:CRng a ∧ CRng j
    ·simp only [if_pos c] at p1
     exact ⟨a,j,rfl,⟨c.1.1,c.1.2,c.2.1,c.2.2⟩,p1 m1 H1 _ e1 S1 trivial it_rng⟩
    ·simp only [if_neg c] at p1; exact False.elim p1
   | _ => exact False.elim p1
  | _ => cases y <;> exact False.elim p1
def gBadI:GI:=fun _ _ => .bad
theorem pi_never {tg iter:Expr}:PI X tg iter (fun _ _ _ => False):=fun _ _ _ _ _ _ h => h.elim
theorem ji_bad {tg iter:Expr}:JI X tg iter gBadI:=⟨_,pi_never,fun ρ st σ H m Q S R p => p⟩
noncomputable def compRun (cs:Caps) (gt:GT) (ge:GE) (ρ:Rho) (w:Wk) (st:Hs):Re Wv:=match compG (ckOf w) (fun v => gt (some v :: capR cs ρ)) (fun v => ge (some v :: capR cs ρ)) st.length w.2 (st ++ [.lst []]) with
 | some stF => .ok (.ref st.length) stF
 | none => (match compZ (ckOf w) (fun v => gt (some v :: capR cs ρ)) (fun v => ge (some v :: capR cs ρ)) st.length w.2 (st ++ [.lst []]) with
  | .err c stE => .err c stE
  | _ => .bad)
noncomputable def gComp (cs:Caps) (gi:GI) (gt:GT) (ge:GE):GE:=fun ρ st => (gi ρ st).bind fun w st1 => compRun cs gt ge ρ w st1
theorem lstOf_app {st:Hs} {l:Nat} {ws:List Wv} {more:Hs} (h:lstOf st l = some ws):lstOf (st ++ more) l = some ws:=by
 unfold lstOf at h ⊢
 cases e:st[l]? with
 | none => rw [e] at h; cases h
 | some o =>
  have hl:=(List.getElem?_eq_some_iff.mp e).1
  rw [List.getElem?_append_left hl,e]
  rw [e] at h
  exact h
theorem ckOf_app {w:Wk} {st more:Hs} (h:ckOf w st):ckOf w (st ++ more):=by
 obtain ⟨o,ws⟩:=w
 cases o with
 | none => trivial
 | some l => exact lstOf_app h
theorem comp_go {scope:Scope} {x:Str} {cs:Caps} {px pos:Pos} {elt iter:Expr} {ifs:List Expr} {gi:GI} {gt:GT} {ge:GE} {use:Option (Value → Sem Unit)} {Q:Value → Shared → Prop} {P:Wv → Hs → Prop}
  {ρ:Rho} {st:Hs} {σ:St} {H:Hp} {m:Mp} {pins:List (Addr × Obj)} {s:Shared} {ps:Pos}
  (fr:FrOk X) (CS:CScope X scope x cs) (hc:X.calm = true) (hi:JI X (.Name x px) iter gi) (hE:∀ C s0 H0 fp pn E,JE (compX X scope x cs C s0 H0 fp pn E) elt ge) (hT:∀ C s0 H0 fp pn E,JTs (compX X scope x cs C s0 H0 fp pn E) ifs gt) (hs:∀ x,foldedSetIterable iter X.env x = pure x)
  (S:Sim X.K m st H) (R:RelEnv X.K m H ρ σ) (I:Inv X pins σ H s) (p:PostG X σ m H (gComp cs gi gt ge ρ st) P)
  (fin:∀ (w:Wv) (stF:Hs) (v:V) (D C:Addr) (mm:Str → Option Value) (m':Mp) (H':Hp) (s':Shared),P w stF → Ext X.K m H m' H' → Sim X.K m' stF H' → RelW X.K m' H' w v → v = .ref D → Inv X pins σ H' s' → FpOk X pins H' C → s'.heap.Ns C mm → compPost (model X.prog X.w) X.A X.xe use Q (.ref D) C (.ok .next) s') :
  wpAny (model X.prog X.w) X.A (comprehension (.ListComp elt [⟨.Name x px,iter,ifs,0⟩] scope pos) scope X.env ps (newList []) false (eval iter X.env) use) Q X.xe s:=by
 obtain ⟨wi,hpi,hw⟩:=hi
 let R':It → Hp → Prop:=fun J' H1 => ∃ (w:Wk) (st1:Hs) (m1:Mp),PostG X σ m H (compRun cs gt ge ρ w st1) P ∧ Ext X.K m H m1 H1 ∧ Sim X.K m1 st1 H1 ∧ ckOf w st1 ∧ ItFor X w m1 H1 J'
 have hr:=hw ρ st σ H m R' S R ((PostG.bind p).imp Ext.refl fun w st1 q m1 H1 J' e1 S1 c1 it1 => ⟨w,st1,m1,q,e1,S1,c1,it1⟩)
 refine wpAny_comprehension_free (g:=⟨.Name x px,iter,ifs,0⟩) (gs:=[]) (cl:=clF X.env scope.names []) rfl hs (clos_is (CS.has I.ok)) CS.kind (fun y hy e => by rw [CS.look y hy,e]) (thn (hpi pins s σ H R' I hr) fun v s1 h1 => thn h1 fun itv s2 h2 => ?_)
 obtain ⟨it,fp,tn,J',H1,rfl,I2,T,t0,f2,w,st1,m1,q,e1,S1,c1,it1⟩:=h2
 unfold compRun at q
 cases run:compG (ckOf w) (fun v => gt (some v :: capR cs ρ)) (fun v => ge (some v :: capR cs ρ)) st1.length w.2 (st1 ++ [.lst []]) with
 | none =>
  rw [run] at q
  dsimp only at q
  cases rz:compZ (ckOf w) (fun v => gt (some v :: capR cs ρ)) (fun v => ge (some v :: capR cs ρ)) st1.length w.2 (st1 ++ [.lst []]) with
  | ok _ _ => rw [rz] at q; exact False.elim q
  | bad => rw [rz] at q; exact False.elim q
  | err c stE =>
   rw [rz] at q
   refine comp_block (use:=use) (Q:=Q) fr CS hc I2 T t0 f2 S1 (R.mono e1) (ckOf_app c1) rz (by intro z; cases z) (fun c' stE' z => ?_) (fun C s0 H0 pn E => hE C s0 H0 fp pn E) (fun C s0 H0 pn E => hT C s0 H0 fp pn E) it1.go it1.stop it1.yld (fun stF z => by cases z)
   cases z
   exact XOk.mono q e1
 | some stF =>
  rw [run] at q
  refine comp_block (use:=use) (Q:=Q) fr CS hc I2 T t0 f2 S1 (R.mono e1) (ckOf_app c1) (compZ_of _ _ run) (by intro z; cases z) (fun c' stE' z => by cases z) (fun C s0 H0 pn E => hE C s0 H0 fp pn E) (fun C s0 H0 pn E => hT C s0 H0 fp pn E) it1.go it1.stop it1.yld ?_
  intro stF' z D C mm m' H' s' e' S' lab I' fC ns _
  cases z
  exact fin _ stF (.ref D) D C mm m' H' s' q (e1.trans e') S' (by unfold RelW; exact ⟨D,rfl,lab⟩) rfl I' fC ns
theorem je_comp {scope:Scope} {x:Str} {cs:Caps} {px pos:Pos} {elt iter:Expr} {ifs:List Expr} {gi:GI} {gt:GT} {ge:GE}
  (fr:FrOk X) (CS:CScope X scope x cs) (hc:X.calm = true) (hi:JI X (.Name x px) iter gi) (hE:∀ C s0 H0 fp pn E,JE (compX X scope x cs C s0 H0 fp pn E) elt ge) (hT:∀ C s0 H0 fp pn E,JTs (compX X scope x cs C s0 H0 fp pn E) ifs gt) (hs:∀ x,foldedSetIterable iter X.env x = pure x) :
  JE X (.ListComp elt [⟨.Name x px,iter,ifs,0⟩] scope pos) (gComp cs gi gt ge):=fun ρ st σ H m Q S R p pins s I => by
 rw [eval_ListComp]
 refine comp_go (use:=none) fr CS hc hi hE hT hs S R I p ?_
 intro w stF v D C mm m' H' s' q e' S' rw' ev I' fC ns
 exact ⟨mm,ns,fun h' same => ⟨.ref D,H',comp_gone I' fC same,rfl,ev ▸ q v m' H' e' S' rw'⟩⟩
theorem js_setC (i:Nat) {scope:Scope} {x y:Str} {cs:Caps} {px pos spos py:Pos} {elt iter:Expr} {ifs:List Expr} {gi:GI} {gt:GT} {ge:GE} (hN:X.N.Nodup)
  (fr:FrOk X) (CS:CScope X scope x cs) (hc:X.calm = true) (hi:JI X (.Name x px) iter gi) (hE:∀ C s0 H0 fp pn E,JE (compX X scope x cs C s0 H0 fp pn E) elt ge) (hT:∀ C s0 H0 fp pn E,JTs (compX X scope x cs C s0 H0 fp pn E) ifs gt) (hs:∀ x,foldedSetIterable iter X.env x = pure x)
  (hx:X.N[i]? = some y) (hl:Loc X.env.scope y) (hf:X.fn y = true ∨ X.env.scope.names.lookup y = some .local) :
  JS X (.Assign [.Name y py] (.ListComp elt [⟨.Name x px,iter,ifs,0⟩] scope pos) spos) (gSet i (gComp cs gi gt ge)):=by
 have sw:∃ b,swapsWith (.ListComp elt [⟨.Name x px,iter,ifs,0⟩] scope pos) (some (.Name y py)) spos.line X.env = pure b:=⟨_,rfl⟩
 obtain ⟨b,sw⟩:=sw
 cases b with
 | false => exact js_set i hN (je_comp fr CS hc hi hE hT hs) hx hl sw hf
 | true =>
  intro ρ st σ H m D S R p pins s I
  rw [exec_Assign_Name_used _ _ _ _ sw]
  refine wpAny_bind (wpAny_standAt (wpAny_bind ?_))
  show wpAny _ X.A (do let _ ← comprehension (.ListComp elt [⟨.Name x px,iter,ifs,0⟩] scope pos) scope X.env _ (newList []) false (eval iter X.env) (some (assign (.Name y py) X.env))) _ _ s
  refine wpAny_bind (wpAny_mono (comp_go (use:=some (assign (.Name y py) X.env)) (Q:=fun _ s' => SP X pins D .next s') fr CS hc hi hE hT hs S R I (PostS.of_thn R p) ?_) (fun _ s' hq => wpAny_pure (wpAny_pure hq)) fun _ _ e => e)
  intro w stF v D' C mm m' H' s' q e' S' rw' ev I' fC ns
  refine wpAny_assign_Name (store_ok2 (i:=i) I' hN hx hl (show RelV v (.ref D') by rw [ev]; rfl) (fun s2 I2 h2 => ?_) hf)
  obtain ⟨a,sb,ha⟩:=h2
  have hca:C ≠ a:=by
   rcases ha with z | z
   ·rw [z]; exact fC.2.1
   ·exact Ne.symm (fC.2.2.2.2.1 y a z)
  exact ⟨mm,ns.sameBut sb hca,fun h' same => ⟨_,_,comp_gone I2 fC same,q _ m' H' e' S' ((R.mono e').set i rw')⟩⟩
end
end J
namespace J
open PySem PySem.Spec PyProof.Rows L2
section
variable {X:Cx}
def CRep (n:Nat) (k:Int):Prop:=-(2 ^ 62) ≤ k ∧ k < 2 ^ 62 ∧ n * k.toNat ≤ lim
noncomputable instance {n k}:Decidable (CRep n k):=Classical.propDecidable _
noncomputable def oMulL0:Op2
 | .ref l,.int n,st => match st[l]? with
  | some (.lst ws) => if CRep ws.length n then .ok (.ref st.length) (st ++ [.lst (List.replicate n.toNat ws).flatten]) else .bad
  | _ => .bad
 | x,y,st => oMulS x y st
theorem relWs_rep {K:PySem.W.Frag} {m:Mp} {H:Hp} {ws:List Wv} {xs:List V} (r:RelWs K m H ws xs):∀ n:Nat,RelWs K m H (List.replicate n ws).flatten (List.replicate n xs).flatten
 | 0 => RelWs.nil
 | n + 1 => by
  rw [List.replicate_succ,List.flatten_cons,List.replicate_succ,List.flatten_cons]
  exact r.append (relWs_rep r n)
theorem ow_mulL:OpW X (binaryOp .Mult) oMulL0:=by
 obtain ⟨r,h1,h2⟩:=ow_mulS (X:=X)
 refine ⟨_,OpR.or op_rep h1,fun x y a b st H m Q S rx ry p => ?_⟩
 unfold oMulL0 at p
 split at p
 ·rename_i l n
  unfold RelW at rx
  obtain ⟨a1,rfl,hl⟩:=rx
  cases relInt ry
  cases e:st[l]? with
  | none => rw [e] at p; exact False.elim p
  | some o =>
   cases o with
   | dct kvs => rw [e] at p; exact False.elim p
   | dcT kvs => rw [e] at p; exact False.elim p
   | scr ns => rw [e] at p; exact False.elim p
   | lst ws =>
    rw [e] at p
    dsimp only at p
    by_cases c:CRep ws.length n
    ·rw [if_pos c] at p
     obtain ⟨xs,q1,q2⟩:=S.lstAt hl e
     refine .inl ⟨a1,n,xs,rfl,rfl,q1,by have:=c.1; omega,by have:=c.2.1; omega,by rw [← q2.length]; exact lim_le c.2.2,fun q hq => ?_⟩
     exact new_list p Ext.refl S (relWs_rep q2 n.toNat) q hq
    ·rw [if_neg c] at p; exact False.elim p
 ·exact .inr (h2 x y a b st H m Q S rx ry p)
def blsOf:List Wv → Option (List Bool)
 | [] => some []
 | .bl b :: r => (match blsOf r with | some l => some (b :: l) | none => none)
 | _ => none
def oAll:List Wv → Hs → Re Wv
 | [.ref l],st => match lstOf st l with
  | some ws => (match blsOf ws with | some bs => .ok (.bl (bs.all id)) st | none => .bad)
  | none => .bad
 | _,_ => .bad
theorem blsOf_rel {K:PySem.W.Frag} {m:Mp} {H:Hp}:∀ {ws:List Wv} {xs:List V} {bs:List Bool},RelWs K m H ws xs → blsOf ws = some bs → xs = bs.map V.bl
 | [],xs,bs,r,h => by
  unfold RelWs at r
  cases h
  exact r
 | w :: ws,xs,bs,r,h => by
  unfold RelWs at r
  obtain ⟨x,t,rfl,r1,r2⟩:=r
  cases w with
  | bl b =>
   unfold blsOf at h
   cases e:blsOf ws with
   | none => rw [e] at h; cases h
   | some l =>
    rw [e] at h
    cases h
    unfold RelW at r1
    rw [r1,blsOf_rel r2 e]
    rfl
  | _ => cases h
theorem vals_bl:∀ {bs:List Bool} {its:List Value},Vals (bs.map V.bl) its → its = bs.map Value.bool
 | [],its,r => by cases r; rfl
 | b :: bs,its,r => by
  cases r with
  | cons h t =>
   cases h
   rw [List.map_cons,vals_bl t]
theorem all_range:∀ (bs:List Bool),(List.range bs.length).all (fun i => bs.getD i true) = bs.all id
 | [] => rfl
 | b :: bs => by
  rw [List.length_cons,List.range_succ_eq_map,List.all_cons,List.all_map,List.all_cons,← all_range bs]
  rfl
theorem call_allB (hc:X.calm = true):CallR X (.builtin "all") (fun xs H Q => ∃ (p:Addr) (bs:List Bool),xs = [.ref p] ∧ SqL X.K H p (bs.map V.bl) ∧ Q (.bl (bs.all id)) H):=by
 intro pins s σ H xs us Q I r h
 obtain ⟨p,bs,rfl,hq,q⟩:=h
 obtain ⟨u,rfl,rx⟩:=vals1 r
 cases rx
 obtain ⟨its,r',pl,hz⟩:=I.list hq
 have hb:=vals_bl r'
 subst hb
 have hl:=pl.isList
 have hlt:p < s.heap.objs.size:=by obtain ⟨_,e,_⟩:=hl; exact Heap.lt_size e
 refine call_all_walk (wpAny_pyIter_list hl ?_)
 refine ⟨_,_,_,_,_,_,fun i => bs.getD i true,rfl,Walks.list (A:=X.A.in1) (I.ok.hd hc) _ p (Nat.ne_of_lt hlt) (bs.map Value.bool).toArray,⟨⟨_,Heap.get?_push_size _ rfl,rfl,rfl⟩,hl.push _⟩,?_,fun h' tk hk => ?_⟩
 ·intro i v s' Q' E' hP hQ
  have hP':(bs.map Value.bool).toArray[i]? = some v:=hP
  rw [List.getElem?_toArray,List.getElem?_map] at hP'
  cases e:bs[i]? with
  | none => rw [e] at hP'; cases hP'
  | some b =>
   rw [e] at hP'
   cases hP'
   have:(bs.getD i true) = b:=by rw [List.getD_eq_getElem?_getD,e]; rfl
   dsimp only at hQ
   rw [this] at hQ
   exact wpAny_truthy_bool hQ
 ·have hk':∀ b o,s.heap.get? b = some o → h'.get? b = some o:=old_kept hk
  refine ⟨.bl _,H,I.kept (t':=tk) hk',?_,q⟩
  rw [← all_range bs]
  simp only [List.size_toArray,List.length_map]
  rfl
theorem cw_all (hc:X.calm = true):CallW X (.builtin "all") oAll:=⟨_,call_allB hc,fun ws vs st H m Q S rs p => by
 match ws,rs,p with
 | [],rs,p => exact False.elim p
 | x :: y :: t,rs,p => cases x <;> exact False.elim p
 | [x],rs,p =>
  obtain ⟨v,rfl,r1⟩:=rel1 rs
  cases x with
  | ref l =>
   unfold oAll at p
   unfold RelW at r1
   obtain ⟨a,rfl,hl⟩:=r1
   cases e:lstOf st l with
   | none => simp only [e] at p; exact False.elim p
   | some ws =>
    simp only [e] at p
    cases e2:blsOf ws with
    | none => simp only [e2] at p; exact False.elim p
    | some bs =>
     simp only [e2] at p
     obtain ⟨xs,q1,q2⟩:=S.read hl e
     have q3:=blsOf_rel q2 e2
     subst q3
     exact ⟨a,bs,rfl,q1,p _ m H Ext.refl S mkBl⟩
  | _ => exact False.elim p⟩
def oTupC:List Wv → Hs → Re Wv
 | [.ref l],st => match lstOf st l with
  | some ws => .ok (.tup ws) st
  | none => .bad
 | [.tup ws],st => .ok (.tup ws) st
 | _,_ => .bad
theorem cw_tup:CallW X (.type "tuple") oTupC:=⟨_,call_tuple_of,fun ws vs st H m Q S rs p => by
 match ws,rs,p with
 | [],rs,p => exact False.elim p
 | x :: y :: t,rs,p => cases x <;> exact False.elim p
 | [x],rs,p =>
  obtain ⟨v,rfl,r1⟩:=rel1 rs
  cases x with
  | ref l =>
   unfold oTupC at p
   unfold RelW at r1
   obtain ⟨a,rfl,hl⟩:=r1
   cases e:lstOf st l with
   | none => simp only [e] at p; exact False.elim p
   | some ws =>
    simp only [e] at p
    obtain ⟨xs,q1,q2⟩:=S.read hl e
    refine ⟨a,xs,rfl,.inl ⟨q1,fun q hq => ?_⟩⟩
    have e2:Ext X.K m H m (upd H q (.tup xs)):=Ext.upd (.inl hq)
    exact p (.ref q) m _ e2 (S.fresh hq) (by unfold RelW; exact ⟨q,xs,rfl,upd_same,RelWs.mono e2 _ _ q2⟩)
  | tup ws =>
   have r1':=r1
   unfold RelW at r1'
   obtain ⟨a,xs,rfl,q1,q2⟩:=r1'
   exact ⟨a,xs,rfl,.inr ⟨SqT.of q1,p _ m H Ext.refl S r1⟩⟩
  | _ => exact False.elim p⟩
end
end J
namespace J
open PySem PySem.Spec PyProof.Rows L2
section
variable {X:Cx}
def intsOf:List Wv → Option (List Int)
  | [] => some []
  | .int b :: r => (match intsOf r with | some l => some (b :: l) | none => none)
  | _ => none
theorem intsOf_rel {K:PySem.W.Frag} {m:Mp} {H:Hp}:∀ {ws:List Wv} {xs:List V} {bs:List Int},RelWs K m H ws xs → intsOf ws = some bs → xs = bs.map V.int
  | [],xs,bs,r,h => by
    unfold RelWs at r
    cases h
    exact r
  | w :: ws,xs,bs,r,h => by
    unfold RelWs at r
    obtain ⟨x,t,rfl,r1,r2⟩:=r
    cases w with
    | int b =>
      unfold intsOf at h
      cases e:intsOf ws with
      | none => rw [e] at h; cases h
      | some l =>
        rw [e] at h
        cases h
        unfold RelW at r1
        rw [r1,intsOf_rel r2 e]
        rfl
    | _ => cases h
theorem vals_int:∀ {ns:List Int} {its:List Value},Vals (ns.map V.int) its → ∃ xs:List (Int × Tok),its = xs.map (fun p => Value.int p.1 p.2) ∧ xs.map (·.1) = ns
  | [],its,r => by cases r; exact ⟨[],rfl,rfl⟩
  | n :: ns,its,r => by
    cases r with
    | cons h t =>
      obtain ⟨tk,rfl⟩:=h
      obtain ⟨xs,e1,e2⟩:=vals_int t
      exact ⟨(n,tk) :: xs,by rw [e1]; rfl,by rw [← e2]; rfl⟩
theorem numAt_map (xs:List (Int × Tok)) (i:Nat):numAt xs.toArray i = (xs.map (·.1)).getD i 0:=by
  unfold numAt
  rw [List.getElem?_toArray,List.getD_eq_getElem?_getD,List.getElem?_map]
def mxI (n:Int) (r:List Int):Int:=r.foldl (fun a b => if b > a then b else a) n
def mnI (n:Int) (r:List Int):Int:=r.foldl (fun a b => if b < a then b else a) n
theorem mnI_is:∀ (r:List Int) (n:Int),mnI n r ∈ n :: r ∧ ∀ a ∈ n :: r,mnI n r ≤ a
  | [],n => by simp [mnI]
  | b :: r,n => by
    have e:mnI n (b :: r) = mnI (if b < n then b else n) r:=rfl
    obtain ⟨h1,h2⟩:=mnI_is r (if b < n then b else n)
    rw [e]
    constructor
    · rcases List.mem_cons.mp h1 with z | z
      · rw [z]; split <;> simp
      · simp [z]
    · intro a ha
      have hn:mnI (if b < n then b else n) r ≤ n ∧ mnI (if b < n then b else n) r ≤ b:=by
        have q:=h2 _ List.mem_cons_self
        revert q
        split <;> intro q <;> constructor <;> omega
      rcases List.mem_cons.mp ha with z | z
      · rw [z]; exact hn.1
      · rcases List.mem_cons.mp z with z | z
        · rw [z]; exact hn.2
        · exact h2 a (List.mem_cons_of_mem _ z)
theorem mn_eq {n M:Int} {r:List Int} (h:M ∈ n :: r) (k:∀ a ∈ n :: r,M ≤ a):M = mnI n r:=by
  obtain ⟨h1,h2⟩:=mnI_is r n
  have:=h2 M h
  have:=k _ h1
  omega
theorem getD_memJ {l:List Int} {i:Nat} (h:i < l.length):l.getD i 0 ∈ l:=by
  rw [List.getD_eq_getElem?_getD,List.getElem?_eq_getElem h]
  exact List.getElem_mem h
theorem call_minL (hc:X.calm = true):CallR X (.builtin "min") (fun xs H Q => ∃ (p:Addr) (n:Int) (ns:List Int),xs = [.ref p] ∧ SqL X.K H p ((n :: ns).map V.int) ∧ Q (.int (mnI n ns)) H):=by
  intro pins s σ H xs us Q I r h
  obtain ⟨p,n,ns,rfl,hq,q⟩:=h
  obtain ⟨u,rfl,rx⟩:=vals1 r
  cases rx
  obtain ⟨its,r',pl,hz⟩:=I.list hq
  obtain ⟨xs,rfl,e0⟩:=vals_int r'
  have hl:=pl.isList
  have e:(xs.map fun p => Value.int p.1 p.2).toArray = intItems xs.toArray:=by unfold intItems; simp
  rw [e] at hl
  have hsz:xs.length = (n :: ns).length:=by rw [← e0]; simp
  have hs0:0 < xs.toArray.size:=by simp [hsz]
  refine min_intList (I.ok.hd hc) hl hs0 fun v h' tk hv hk => ?_
  obtain ⟨t,rfl⟩:=intItems_at hv
  obtain ⟨h1,h2⟩:=PySem.argBest_lt (numAt xs.toArray) (xs.toArray.size - 1)
  refine ⟨.int _,H,I.kept hk,⟨t,?_⟩,q⟩
  congr 1
  have hn:=fun i => numAt_map xs i
  rw [e0] at hn
  refine mn_eq ?_ fun a ha => ?_
  · rw [hn]
    refine getD_memJ ?_
    have:xs.toArray.size = (n :: ns).length:=by simp [hsz]
    omega
  · obtain ⟨j,hj,rfl⟩:=List.mem_iff_getElem.mp ha
    have q2 := h2 j (by have : xs.toArray.size = (n :: ns).length := by simp [hsz]
                        omega)
    rw [hn j,List.getD_eq_getElem?_getD,List.getElem?_eq_getElem hj] at q2
    exact q2
def oMax2:List Wv → Hs → Re Wv
  | [.ref l],st => match lstOf st l with
    | some ws => (match intsOf ws with | some (n :: r) => .ok (.int (mxI n r)) st | _ => .bad)
    | none => .bad
  | ws,st => oMax ws st
def oMin2:List Wv → Hs → Re Wv
  | [.ref l],st => match lstOf st l with
    | some ws => (match intsOf ws with | some (n :: r) => .ok (.int (mnI n r)) st | _ => .bad)
    | none => .bad
  | ws,st => oMin ws st
theorem CallW.or {f:Value} {op op':List Wv → Hs → Re Wv} (g:List Wv → Hs → Re Wv) (h:CallW X f op) (h':CallW X f op') (k:∀ ws st,g ws st = op ws st ∨ g ws st = op' ws st):CallW X f g:=by
  obtain ⟨r,h1,h2⟩:=h
  obtain ⟨r',h1',h2'⟩:=h'
  refine ⟨_,h1.or h1',fun ws vs st H m Q S rs p => ?_⟩
  rcases k ws st with e | e
  · rw [e] at p; exact .inl (h2 ws vs st H m Q S rs p)
  · rw [e] at p; exact .inr (h2' ws vs st H m Q S rs p)
def oMinL:List Wv → Hs → Re Wv
  | [.ref l],st => match lstOf st l with
    | some ws => (match intsOf ws with | some (n :: r) => .ok (.int (mnI n r)) st | _ => .bad)
    | none => .bad
  | _,_ => .bad
theorem cw_minL (hc:X.calm = true):CallW X (.builtin "min") oMinL:=⟨_,call_minL hc,fun ws vs st H m Q S rs p => by
  match ws,rs,p with
  | [],rs,p => exact False.elim p
  | x :: y :: t,rs,p => cases x <;> exact False.elim p
  | [x],rs,p =>
    obtain ⟨v,rfl,r1⟩:=rel1 rs
    cases x with
    | ref l =>
      unfold oMinL at p
      unfold RelW at r1
      obtain ⟨a,rfl,hl⟩:=r1
      cases e:lstOf st l with
      | none => simp only [e] at p; exact False.elim p
      | some ws =>
        simp only [e] at p
        cases e2:intsOf ws with
        | none => simp only [e2] at p; exact False.elim p
        | some bs =>
          cases bs with
          | nil => simp only [e2] at p; exact False.elim p
          | cons n bs =>
            simp only [e2] at p
            obtain ⟨xs,q1,q2⟩:=S.read hl e
            have q3:=intsOf_rel q2 e2
            subst q3
            exact ⟨a,n,bs,rfl,q1,p _ m H Ext.refl S mkInt⟩
    | _ => exact False.elim p⟩
theorem cw_min2 (hc:X.calm = true):CallW X (.builtin "min") oMin2:=CallW.or oMin2 (cw_minL hc) (cw_min hc) fun ws st => by
  unfold oMin2 oMinL
  split
  · exact .inl rfl
  · exact .inr rfl
end
end J
namespace J
open PySem PySem.Spec PyProof.Rows L2
section
variable {X:Cx}
theorem strOk_iff {z:PySem.Str}:PyData.strOk z = true ↔ ∀ c ∈ z.cps.toList,c < 1114112:=by
 unfold PyData.strOk
 rw [Array.all_eq_true_iff_forall_mem]
 constructor
 ·intro h c hc
  simpa using h c (Array.mem_toList_iff.mp hc)
 ·intro h c hc
  simpa using h c (Array.mem_toList_iff.mpr hc)
end
end J
namespace J
open PySem PySem.Spec PyProof.Rows L2
section
variable {X:Cx}
theorem sl_str:SlR X (fun x lo hi H Q => ∃ z,x = .str z ∧ z.length ≤ sizeLine ∧ Q (.str (Txt.slice z lo hi)) H):=by
 intro pins s σ H x v vl vu lo hi sl Q I rx hs pl pu h
 obtain ⟨z,rfl,hz,q⟩:=h
 obtain ⟨t,rfl⟩:=rx
 have fin:∀ t' k,EP X pins σ Q (.str (Txt.slice z lo hi) t') { s with toks:=k }:=fun t' k => ⟨.str _,H,I.tok k,⟨t',rfl⟩,q⟩
 refine ⟨"str",_,PySem.F.slot_str_getitem.lookup,typeIs_str _ _ _,?_⟩
 have hl:=Nat.le_trans (Txt.slice_le z lo hi) hz
 cases pl with
 | none =>
  cases pu with
  | none => exact wpAny_getItem_str_slice (l:=none) (u:=none) (st:=none) hs rfl (post_val_or_str ⟨hl,fin⟩)
  | int j tj => exact wpAny_getItem_str_slice (l:=none) (u:=some (j,tj)) (st:=none) hs rfl (post_val_or_str ⟨hl,fin⟩)
 | int i ti =>
  cases pu with
  | none => exact wpAny_getItem_str_slice (l:=some (i,ti)) (u:=none) (st:=none) hs rfl (post_val_or_str ⟨hl,fin⟩)
  | int j tj => exact wpAny_getItem_str_slice (l:=some (i,ti)) (u:=some (j,tj)) (st:=none) hs rfl (post_val_or_str ⟨hl,fin⟩)
theorem mem_slice {z:PySem.Str} {lo hi:Option Int} {c:Nat} (h:c ∈ (Txt.slice z lo hi).cps.toList):c ∈ z.cps.toList:=by
 unfold Txt.slice at h
 split at h
 ·exact h
 ·simp only [List.mem_filterMap] at h
  obtain ⟨i,_,e⟩:=h
  rw [Array.getElem?_eq_some_iff] at e
  obtain ⟨hi,rfl⟩:=e
  exact Array.mem_toList_iff.mpr (Array.getElem_mem hi)
theorem strOk_slice {z:PySem.Str} {lo hi:Option Int} (h:PyData.strOk z = true):PyData.strOk (Txt.slice z lo hi) = true:=by
 rw [strOk_iff] at h ⊢
 exact fun c hc => h c (mem_slice hc)
end
section
open HT
theorem getItem_whole {prog:Program} {w:World} {A:Around} {E:Value → Shared → Prop} {s:Shared} {t sl:Addr} {us:Array Value} {vl vu:Value} {lo hi:Option Int} {Q:Value → Shared → Prop} (ht:IsTup s.heap t us) (hs:s.heap.IsSliceOf sl vl vu .none) (pl:IsPart vl lo) (pu:IsPart vu hi)
  (hw:sIx us.size 0 lo = 0 ∧ sIx us.size us.size hi = us.size) (h:Q (.ref t) s):wpAny (model prog w) A (getItem (.ref t) (.ref sl)) Q E s:=by
 obtain ⟨os,o1,o2,o3⟩:=id hs
 have tys:s.TypeIs (.ref sl) "slice":=⟨os,o1,o2⟩
 unfold getItem; try with_reducible refine wpAny_holding ?_
 first | refine wpAny_bind (wpAny_pure ?_) | skip
 refine wpAny_bind (wpAny_sequenceKey ht.typeIs (by decide) ?_); refine wpAny_bind (wpAny_callSpecial?_slot (name:=Str.ofString "__getitem__") ht.typeIs PyProof.Rows.slot_tuple_getitem (wpAny_call_entry PyProof.Rows.slot_tuple_getitem ht.typeIs entry_tuple_getitem ?_ (args_tuple_getitem _ _)))
 show wpAny _ _ (Builtin.Tuple.tupleItemsOf (.ref t) >>= _) _ _ _; refine wpAny_bind (tupleItemsOf_ ht ?_); refine wpAny_bind (wpAny_typeOf tys ?_)
 rw [if_pos (by decide)]; refine wpAny_bind (sliceApplied_gen hs pl pu ?_)
 rw [hw.1,hw.2]
 have yes:((((0:Nat):Int)) == 0 && (1:Int) == 1 && (us.size - 0) == us.size) = true:=by simp
 show wpAny _ _ (if ((((0:Nat):Int)) == 0 && (1:Int) == 1 && (us.size - 0) == us.size) = true then _ else _) _ _ s
 rw [if_pos yes]
 refine wpAny_bind (m:=Builtin.Tuple.tupleIsExact _) ?_
 unfold Builtin.Tuple.tupleIsExact
 refine wpAny_bind (wpAny_typeOf ht.typeIs (wpAny_pure ?_))
 rw [if_pos (by decide)]
 exact wpAny_bind (wpAny_rule (wpAny_pure ⟨_,rfl,wpAny_pure h⟩))
end
section
variable {X:Cx}
def rSlW (K:PySem.W.Frag):V → Option Int → Option Int → Hp → VK → Prop:=fun x lo hi H Q => ∃ a xs,x = .ref a ∧ SqT K H a xs ∧ (HT.sIx xs.length 0 lo = 0 ∧ HT.sIx xs.length xs.length hi = xs.length) ∧ Q (.ref a) H
theorem sl_whole:SlR X (rSlW X.K):=by
 intro pins s σ H x v vl vu lo hi sl Q I rx hs pl pu h
 obtain ⟨a,xs,rfl,hx,hw,q⟩:=h
 cases rx
 obtain ⟨its,r,ht,hz⟩:=I.tuple hx
 have n:its.toArray.size = xs.length:=by rw [List.size_toArray]; exact r.length.symm
 exact ⟨"tuple",_,PyProof.Rows.slot_tuple_getitem.lookup,ht.typeIs,getItem_whole ht hs pl pu (by rw [n]; exact hw) ⟨.ref a,H,I,rfl,q⟩⟩
def isWh (n:Nat) (lo hi:Option Int):Prop:=HT.sIx n 0 lo = 0 ∧ HT.sIx n n hi = n
instance {n:Nat} {lo hi:Option Int}:Decidable (isWh n lo hi):=inferInstanceAs (Decidable (HT.sIx n 0 lo = 0 ∧ HT.sIx n n hi = n))
def oSl2 (x:Wv) (lo hi:Option Int) (st:Hs):Re Wv:=match x with
 | .str z => if z.length ≤ lim then .ok (.str (Txt.slice z lo hi)) st else .bad
 | .tup ws => if isWh ws.length lo hi then .ok (.tup ws) st else oSl (.tup ws) lo hi st
 | x => oSl x lo hi st
def gSlice2 (ga:GE) (gl gh:GO):GE:=fun ρ st => (ga ρ st).bind fun x st1 => (gl ρ st1).bind fun lo st2 => (gh ρ st2).bind fun hi st3 => oSl2 x lo hi st3
theorem je_slice2 {a:Expr} {lo hi:Option Expr} {ga:GE} {gl gh:GO} {pos p2:Pos} (ha:JE X a ga) (hl:JO X lo gl) (hh:JO X hi gh):JE X (.Subscript a (.Slice lo hi none p2) pos) (gSlice2 ga gl gh):=by
 have hS:JE X (.Subscript a (.Slice lo hi none p2) pos) (fun ρ st => (ga ρ st).bind fun x st1 => (gl ρ st1).bind fun lo st2 => (gh ρ st2).bind fun hi st3 => match x with | .str z => if z.length ≤ lim then .ok (.str (Txt.slice z lo hi)) st3 else .bad | _ => .bad):=by
  refine JE.of (pe_slice sl_str pe_SE po_SO po_SO) fun ρ st σ H m Q S R p => ?_
  refine ha.go S R (PostG.bind p) fun x st1 v m1 H1 p1 e1 S1 rx => ?_
  refine hl.go S1 (R.mono e1) ((PostG.bind p1).imp e1 fun _ _ q => q) fun l st2 m2 H2 p2 e2 S2 => ?_
  refine hh.go S2 (R.mono (e1.trans e2)) ((PostG.bind p2).imp (e1.trans e2) fun _ _ q => q) fun h st3 m3 H3 p3 e3 S3 => ?_
  have e13:=e1.trans (e2.trans e3)
  cases x with
  | str z =>
   dsimp only at p3
   by_cases c:z.length ≤ lim
   ·rw [if_pos c] at p3
    unfold RelW at rx
    obtain ⟨rfl,hz⟩:=rx
    exact ⟨z,rfl,lim_le c,p3 _ m3 H3 e13 S3 (mkStr (strOk_slice hz))⟩
   ·rw [if_neg c] at p3; exact False.elim p3
  | _ => exact False.elim p3
 have hW:JE X (.Subscript a (.Slice lo hi none p2) pos) (fun ρ st => (ga ρ st).bind fun x st1 => (gl ρ st1).bind fun lo st2 => (gh ρ st2).bind fun hi st3 => match x with | .tup ws => if isWh ws.length lo hi then .ok (.tup ws) st3 else oSl (.tup ws) lo hi st3 | _ => .bad):=by
  refine JE.of (pe_slice (SlR.or sl_whole sl_tup) pe_SE po_SO po_SO) fun ρ st σ H m Q S R p => ?_
  refine ha.go S R (PostG.bind p) fun x st1 v m1 H1 p1 e1 S1 rx => ?_
  refine hl.go S1 (R.mono e1) ((PostG.bind p1).imp e1 fun _ _ q => q) fun l st2 m2 H2 p2 e2 S2 => ?_
  refine hh.go S2 (R.mono (e1.trans e2)) ((PostG.bind p2).imp (e1.trans e2) fun _ _ q => q) fun h st3 m3 H3 p3 e3 S3 => ?_
  have e13:=e1.trans (e2.trans e3)
  cases x with
  | tup ws =>
   dsimp only at p3
   have rx':=RelW.mono (e2.trans e3) _ _ rx
   unfold RelW at rx'
   obtain ⟨a',xs,rfl,f1,f2⟩:=rx'
   by_cases c:isWh ws.length l h
   ·rw [if_pos c] at p3
    unfold isWh at c
    rw [f2.length] at c
    exact .inl ⟨a',xs,rfl,SqT.of f1,c,p3 _ m3 H3 e13 S3 (by unfold RelW; exact ⟨a',xs,rfl,f1,f2⟩)⟩
   ·rw [if_neg c] at p3
    unfold oSl at p3
    dsimp only at p3
    unfold isWh at c
    rw [if_neg c] at p3
    rw [f2.length] at c
    refine .inr ⟨a',xs,rfl,SqT.of f1,c,fun q hq => ?_⟩
    have eU:Ext X.K m3 H3 m3 (L2.upd H3 q (.tup (cutV xs l h))):=Ext.updW (.inl hq)
    exact p3 (.ref q) m3 _ (e13.trans eU) (S3.fresh hq) (by unfold RelW; exact ⟨q,_,rfl,L2.upd_same,RelWs.mono eU _ _ (cut_rel f2)⟩)
  | _ => exact False.elim p3
 intro ρ st σ H m Q S R p
 unfold gSlice2 at p
 cases e1:ga ρ st with
 | bad => rw [e1] at p; exact False.elim p
 | err c st1 => rw [e1] at p; exact je_slice ha hl hh ρ st σ H m Q S R (by unfold gSlice; rw [e1]; exact p)
 | ok x st1 =>
  rw [e1] at p
  cases x with
  | str z => exact hS ρ st σ H m Q S R (by dsimp only; rw [e1]; exact p)
  | tup ws => exact hW ρ st σ H m Q S R (by dsimp only; rw [e1]; exact p)
  | _ => exact je_slice ha hl hh ρ st σ H m Q S R (by unfold gSlice; rw [e1]; exact p)
def oIn2:Op2
 | .str i,.str j,st => .ok (.bl (!(Builtin.Str.occurrences j i 0 j.length 1).isEmpty)) st
 | x,y,st => oIn x y st
def oNotIn2:Op2
 | .str i,.str j,st => .ok (.bl (!(!(Builtin.Str.occurrences j i 0 j.length 1).isEmpty))) st
 | x,y,st => oNotIn x y st
theorem ow_in2:OpW X (compareOp .In) oIn2:=by
 obtain ⟨r,h1,h2⟩:=ow_in (X:=X)
 refine ⟨_,OpR.or op_in_str h1,fun x y a b st H m Q S rx ry p => ?_⟩
 unfold oIn2 at p
 split at p
 ·rename_i i j
  unfold RelW at rx ry
  obtain ⟨rfl,_⟩:=rx
  obtain ⟨rfl,_⟩:=ry
  exact .inl ⟨i,j,rfl,rfl,p _ m H Ext.refl S mkBl⟩
 ·exact .inr (h2 x y a b st H m Q S rx ry p)
theorem ow_notIn2:OpW X (compareOp .NotIn) oNotIn2:=by
 obtain ⟨r,h1,h2⟩:=ow_notIn (X:=X)
 refine ⟨_,OpR.or op_notIn_str h1,fun x y a b st H m Q S rx ry p => ?_⟩
 unfold oNotIn2 at p
 split at p
 ·rename_i i j
  unfold RelW at rx ry
  obtain ⟨rfl,_⟩:=rx
  obtain ⟨rfl,_⟩:=ry
  exact .inl ⟨i,j,rfl,rfl,p _ m H Ext.refl S mkBl⟩
 ·exact .inr (h2 x y a b st H m Q S rx ry p)
end
end J
namespace J
open PySem PySem.Spec PyProof.Rows L2 PySem.W
section
variable {X:Cx}
end
section
variable {X:Cx}
end
section
variable {X:Cx}
end
end J
namespace J
open PySem PySem.Spec PyProof.Rows L2
def Its (x:Str):It:=⟨fun i _ => i < x.cps.size,fun i H v H' => H' = H ∧ ∃ c,x.cps[i]? = some c ∧ v = .str ⟨#[c]⟩,fun i _ => x.cps.size ≤ i⟩
theorem turn_ascii {P:Program} {w:World} {K:PySem.W.Frag} {tg:Expr} (x:Str) (t:Tok) (it:Addr):Turn P w K tg (Its x) [it] it (fun i h => h.IsStrIter it "str_ascii_iterator" x t i) where
 mem:=List.mem_singleton.mpr rfl
 obj:=fun i h st b hb => by
  cases List.mem_singleton.mp hb
  obtain ⟨o,e,c,d⟩:=st
  exact ⟨o,e,fun v z => by rw [d] at z; cases z⟩
 keep:=fun i h h' st k => let ⟨o,e,r⟩:=st; ⟨o,k it (List.mem_singleton.mpr rfl) o e,r⟩
 item:=by
  intro X hP hw hK hc i pins s σ H E I hf st hg
  subst hP; subst hw; subst hK
  obtain ⟨f0,f1,f2,f3,f4,f5⟩:=hf it (List.mem_singleton.mpr rfl)
  have hi:i < x.cps.size:=hg
  refine wpAny_pyNext_ascii_item st (c:=x.cps[i]) (by simp [hi]) fun h' st' sb => ?_
  have I1:L2.Inv X pins σ H { s with heap:=h',toks:=s.toks + 1 }:=I.turned (t':=s.toks + 1) (fun b o hb e => sb.extBut b o hb e) f0 f1 f3 f4 f5
  obtain ⟨o,e,c,d⟩:=id st'
  exact ⟨_,rfl,go_of (s:={ s with heap:=h',toks:=s.toks + 1 }) e c d (by decide) ⟨.str ⟨#[x.cps[i]]⟩,H,I1,⟨_,rfl⟩,⟨rfl,_,by simp [hi],rfl⟩,st',fun b hb => (hf b hb).1⟩⟩
 done:=by
  intro X hP hw hK hc i pins s σ H E I hf st hg
  subst hP; subst hw; subst hK
  obtain ⟨f0,f1,f2,f3,f4,f5⟩:=hf it (List.mem_singleton.mpr rfl)
  have hi:x.cps.size ≤ i:=hg
  exact wpAny_pyNext_ascii_end (I.ok.hd hc) st (by simp [hi]) fun h' eb => ⟨rfl,I.turned (t':=s.toks) (fun b o hb e => eb b o hb e) f0 f1 f3 f4 f5⟩
 self:=fun _ _ _ _ _ st h => wpAny_pyIter_striter_ascii st h
theorem turn_wide {P:Program} {w:World} {K:PySem.W.Frag} {tg:Expr} (x:Str) (t:Tok) (it:Addr):Turn P w K tg (Its x) [it] it (fun i h => h.IsStrIter it "str_iterator" x t i) where
 mem:=List.mem_singleton.mpr rfl
 obj:=fun i h st b hb => by
  cases List.mem_singleton.mp hb
  obtain ⟨o,e,c,d⟩:=st
  exact ⟨o,e,fun v z => by rw [d] at z; cases z⟩
 keep:=fun i h h' st k => let ⟨o,e,r⟩:=st; ⟨o,k it (List.mem_singleton.mpr rfl) o e,r⟩
 item:=by
  intro X hP hw hK hc i pins s σ H E I hf st hg
  subst hP; subst hw; subst hK
  obtain ⟨f0,f1,f2,f3,f4,f5⟩:=hf it (List.mem_singleton.mpr rfl)
  have hi:i < x.cps.size:=hg
  refine wpAny_pyNext_wide_item st (c:=x.cps[i]) (by simp [hi]) fun h' st' sb => ?_
  have I1:L2.Inv X pins σ H { s with heap:=h',toks:=s.toks + 1 }:=I.turned (t':=s.toks + 1) (fun b o hb e => sb.extBut b o hb e) f0 f1 f3 f4 f5
  obtain ⟨o,e,c,d⟩:=id st'
  exact ⟨_,rfl,go_of (s:={ s with heap:=h',toks:=s.toks + 1 }) e c d (by decide) ⟨.str ⟨#[x.cps[i]]⟩,H,I1,⟨_,rfl⟩,⟨rfl,_,by simp [hi],rfl⟩,st',fun b hb => (hf b hb).1⟩⟩
 done:=by
  intro X hP hw hK hc i pins s σ H E I hf st hg
  subst hP; subst hw; subst hK
  obtain ⟨f0,f1,f2,f3,f4,f5⟩:=hf it (List.mem_singleton.mpr rfl)
  have hi:x.cps.size ≤ i:=hg
  exact wpAny_pyNext_wide_end (I.ok.hd hc) st (by simp [hi]) fun h' eb => ⟨rfl,I.turned (t':=s.toks) (fun b o hb e => eb b o hb e) f0 f1 f3 f4 f5⟩
 self:=fun _ _ _ _ _ st h => wpAny_pyIter_striter_wide st h
section
variable {X:Cx}
theorem pi_str {tg l:Expr} {tl:TE} (hl:PE X l tl):PI X tg l (fun σ H R => tl σ H fun v H1 => ∃ z,v = .str z ∧ R (Its z) H1):=by
 intro pins s σ H R I h
 refine thn (hl pins s σ H _ I h) fun v s1 ⟨x,H1,I1,r1,z,e,q⟩ => ?_
 subst e
 obtain ⟨t,rfl⟩:=r1
 have frs:∀ b ∈ [s1.heap.objs.size],FpOk X pins H1 b:=fun b hb => by
  cases List.mem_singleton.mp hb
  exact I1.fpOk (Nat.le_refl _) (I1.hok.fresh (Nat.le_refl _))
 cases ha:z.cps.all (· < 128)
 ·exact wpAny_pyIter_wide ha ⟨s1.heap.objs.size,[s1.heap.objs.size],_,_,H1,rfl,I1.kept (t':=s1.toks) fun b o e => Heap.get?_push_of_some _ e,turn_wide z t _,⟨_,Heap.get?_push_size _ rfl,rfl,rfl⟩,frs,q⟩
 ·exact wpAny_pyIter_ascii ha ⟨s1.heap.objs.size,[s1.heap.objs.size],_,_,H1,rfl,I1.kept (t':=s1.toks) fun b o e => Heap.get?_push_of_some _ e,turn_ascii z t _,⟨_,Heap.get?_push_size _ rfl,rfl,rfl⟩,frs,q⟩
def signsW (z:PySem.Str):List Wv:=z.cps.toList.map fun c => Wv.str ⟨#[c]⟩
def seqW2 (w:Wv) (st:Hs):Re Wk:=match w with
 | .str z => .ok (none,signsW z) st
 | w => seqW w st
def giSeq2 (g:GE):GI:=fun ρ st => (g ρ st).bind seqW2
theorem it_str {z:PySem.Str} {m1:Mp} {H1:Hp} (hz:PyData.strOk z = true):ItFor X (none,signsW z) m1 H1 (Its z) where
 go:=fun k H m' st _ _ _ hk => by
  have:k < z.cps.size:=by simpa [signsW] using hk
  exact this
 stop:=fun k H m' st _ _ _ hk => by
  have:k = z.cps.size:=by simpa [signsW] using hk
  exact Nat.le_of_eq this.symm
 yld:=fun k hk H v H' m' st _ _ _ y => by
  obtain ⟨rfl,c,hc,rfl⟩:=y
  refine ⟨rfl,?_⟩
  have hk':k < z.cps.size:=by simpa [signsW] using hk
  have e:∀ h:k < (signsW z).length,(signsW z)[k]'h = .str ⟨#[z.cps[k]]⟩:=by intro h; simp [signsW]
  have hc':z.cps[k] = c:=by simpa [hk'] using hc
  show RelW X.K m' H' ((signsW z)[k]'hk) _
  rw [e hk,hc']
  refine mkStr ?_
  rw [strOk_iff] at hz ⊢
  intro d hd
  simp at hd
  rw [hd,← hc']
  exact hz _ (by simp)
theorem ji_seq2 {tg iter:Expr} {g:GE} (h:JE X iter g):JI X tg iter (giSeq2 g):=by
 obtain ⟨w1,h1,k1⟩:=ji_seq (tg:=tg) h
 refine ⟨fun σ H R => w1 σ H R ∨ (SE X iter σ H fun v H1 => ∃ z,v = .str z ∧ R (Its z) H1),fun pins s σ H R I q => ?_,fun ρ st σ H m R S RR p => ?_⟩
 ·rcases q with q | q
  ·exact h1 pins s σ H R I q
  ·exact pi_str pe_SE pins s σ H R I q
 ·unfold giSeq2 at p
  cases e:g ρ st with
  | bad => rw [e] at p; exact False.elim p
  | err c st' => rw [e] at p; exact .inl (k1 ρ st σ H m R S RR (by unfold giSeq; rw [e]; exact p))
  | ok w st' =>
   rw [e] at p
   cases w with
   | str z =>
    refine .inr ?_
    refine h.go (ok:=fun w st1 => w = .str z ∧ st1 = st') S RR (by rw [e]; exact ⟨rfl,rfl⟩) fun w st1 v m1 H1 q e1 S1 r1 => ?_
    obtain ⟨rfl,rfl⟩:=q
    unfold RelW at r1
    obtain ⟨rfl,hz⟩:=r1
    exact ⟨z,rfl,p m1 H1 _ e1 S1 trivial (it_str hz)⟩
   | _ => exact .inl (k1 ρ st σ H m R S RR (by unfold giSeq; rw [e]; exact p))
theorem call_int_txt:CallR X (.type "int") (fun xs H Q => ∃ z n,xs = [.str z] ∧ PySem.intText? z = some n ∧ z.length ≤ 640 ∧ Q (.int n) H):=by
 intro pins s σ H xs us Q I r h
 obtain ⟨z,n,rfl,hn,hl,q⟩:=h
 obtain ⟨u,rfl,t,rfl⟩:=vals1 r
 exact PySem.W.KIN.call_text hn hl ⟨.int n,H,I.tok _,⟨_,rfl⟩,q⟩
def oInt2:List Wv → Hs → Re Wv
 | [.str z],st => (match PySem.intText? z with | some n => if z.length ≤ 640 then .ok (.int n) st else .bad | none => .bad)
 | ws,st => oInt ws st
theorem cw_int2:CallW X (.type "int") oInt2:=by
 obtain ⟨r,h1,h2⟩:=cw_int (X:=X)
 refine ⟨_,call_int_txt.or h1,fun ws vs st H m Q S rs p => ?_⟩
 unfold oInt2 at p
 split at p
 ·rename_i z
  obtain ⟨v,rfl,r1⟩:=rel1 rs
  unfold RelW at r1
  obtain ⟨rfl,_⟩:=r1
  cases e:PySem.intText? z with
  | none => rw [e] at p; exact False.elim p
  | some n =>
   rw [e] at p
   dsimp only at p
   by_cases c:z.length ≤ 640
   ·rw [if_pos c] at p
    exact .inl ⟨z,n,rfl,e,c,p _ m H Ext.refl S mkInt⟩
   ·rw [if_neg c] at p; exact False.elim p
 ·exact .inr (h2 _ vs st H m Q S rs p)
end
end J
namespace J
open PySem PySem.Spec PyProof.Rows L2
section
variable {X:Cx}
end
end J
namespace J
open PySem PySem.Spec PyProof.Rows L2
def valW {κ:Type} [DecidableEq κ] (kvs:List (κ × Wv)) (k:κ):Option Wv:=match kvs with
 | [] => none
 | p :: r => if p.1 = k then some p.2 else valW r k
section
variable {K:PySem.W.Frag} {m:Mp} {H:Hp} {κ:Type}
theorem RelK.nil:RelK (κ:=κ) K m H [] []:=⟨rfl,RelWs.nil⟩
theorem RelK.cons {k:κ} {w:Wv} {v:V} {kvs:List (κ × Wv)} {xs:List (κ × V)} (h:RelW K m H w v) (t:RelK K m H kvs xs):RelK K m H ((k,w) :: kvs) ((k,v) :: xs) :=
 ⟨by simp [t.1],by simpa using RelWs.cons h t.2⟩
theorem RelK.nil_inv {xs:List (κ × V)} (h:RelK K m H [] xs):xs = []:=by
 have:=h.1
 cases xs with
 | nil => rfl
 | cons a b => simp at this
theorem RelK.cons_inv {p:κ × Wv} {kvs:List (κ × Wv)} {xs:List (κ × V)} (h:RelK K m H (p :: kvs) xs):∃ v t,xs = (p.1,v) :: t ∧ RelW K m H p.2 v ∧ RelK K m H kvs t:=by
 obtain ⟨h1,h2⟩:=h
 cases xs with
 | nil => simp at h1
 | cons q t =>
  simp at h1 h2
  unfold RelWs at h2
  obtain ⟨x,r,e1,e2,e3⟩:=h2
  cases e1
  exact ⟨q.2,t,by rw [h1.1],e2,h1.2,e3⟩
theorem RelK.length {kvs:List (κ × Wv)} {xs:List (κ × V)} (h:RelK K m H kvs xs):kvs.length = xs.length:=by
 have:=congrArg List.length h.1
 simpa using this
variable [DecidableEq κ]
theorem RelK.val:∀ {kvs:List (κ × Wv)} {xs:List (κ × V)} (k:κ),RelK K m H kvs xs → (valW kvs k = none → valV xs k = none) ∧ ∀ w,valW kvs k = some w → ∃ v,valV xs k = some v ∧ RelW K m H w v
 | [],xs,k,h => by
  rw [h.nil_inv]
  exact ⟨fun _ => rfl,(fun w e => by cases e)⟩
 | p :: r,xs,k,h => by
  obtain ⟨v,t,rfl,h1,h2⟩:=h.cons_inv
  obtain ⟨i1,i2⟩:=RelK.val k h2
  unfold valW
  by_cases e:p.1 = k
  ·rw [if_pos e,valV_pos (by exact e)]
   exact ⟨(fun z => by cases z),fun w z => ⟨v,rfl,by cases z; exact h1⟩⟩
  ·rw [if_neg e,valV_neg (by exact e)]
   exact ⟨i1,i2⟩
theorem RelK.any:∀ {kvs:List (κ × Wv)} {xs:List (κ × V)} (k:κ),RelK K m H kvs xs → (kvs.any fun kv => decide (kv.1 = k)) = xs.any fun kv => decide (kv.1 = k)
 | [],xs,k,h => by rw [h.nil_inv]; rfl
 | p :: r,xs,k,h => by
  obtain ⟨v,t,rfl,h1,h2⟩:=h.cons_inv
  rw [List.any_cons,List.any_cons,RelK.any k h2]
end
section
variable {K:PySem.W.Frag} {m:Mp} {H:Hp}
end
section
variable {X:Cx}
end
def FlatV:Wv → Value → Prop
 | .int i,u => ∃ t,u = .int i t
 | .str x,u => (∃ t,u = .str x t) ∧ PyData.strOk x = true
 | _,_ => False
abbrev Dc:=List (PySem.Str × Wv)
def EntsOk (w:World):Dc → List DictEntry → Prop
 | [],[] => True
 | (k,v) :: r,e :: t => (e.hash = hashStr w k ∧ (∃ tk,e.key = .str k tk) ∧ FlatV v e.val) ∧ EntsOk w r t
 | _,_ => False
def DcAt (K:PySem.W.Frag) (w:World) (mg:Str → Option Value) (x:Str) (kvs:Dc):Prop :=
 ∃ (a:Addr) (es:Array DictEntry) (ep:Nat),mg x = some (.ref a) ∧ K.lookup a = some ⟨.type "dict",none,.dict es ep,#[]⟩ ∧ (a == sysModules) = false ∧ EntsOk w kvs es.toList ∧ (kvs.map (·.1)).Nodup
theorem ents_get {P:Program} {w:World}:∀ {kvs:Dc} {l:List DictEntry},EntsOk w kvs l → ∃ vs:List (PySem.Str × Value),vs.map (·.1) = kvs.map (·.1) ∧ Pairs (PySem.strKind P w) l vs ∧ (∀ e ∈ l,∃ k,(PySem.strKind P w).is k e.key = true ∧ e.hash = (PySem.strKind P w).hash k) ∧
  ∀ k,(kvs.lookup k = none → valueAt vs k = none) ∧ ∀ v,kvs.lookup k = some v → ∃ u,valueAt vs k = some u ∧ FlatV v u
 | [],[],_ => ⟨[],rfl,.nil,(fun _ z => by cases z),fun k => ⟨fun _ => rfl,(fun v z => by cases z)⟩⟩
 | (k,v) :: r,e :: t,h => by
  obtain ⟨⟨h1,⟨tk,h2⟩,h3⟩,h4⟩:=h
  obtain ⟨vs,i1,i2,i3,i4⟩:=ents_get (P:=P) h4
  have his:(PySem.strKind P w).is k e.key = true:=by rw [h2]; exact strKind_is P w k tk
  refine ⟨(k,e.val) :: vs,by simp [i1],.cons his rfl i2,fun e' he => ?_,fun k' => ?_⟩
  ·rcases List.mem_cons.mp he with z | z
   ·subst z; exact ⟨k,his,h1⟩
   ·exact i3 e' z
  ·rw [List.lookup_cons]
   unfold valueAt
   rw [List.find?_cons]
   by_cases ek:k = k'
   ·subst ek
    have b1:(k == k) = true:=by simp
    rw [b1]
    simp only [decide_true,Option.map_some]
    exact ⟨(fun z => by cases z),fun v' z => ⟨e.val,rfl,by cases z; exact h3⟩⟩
   ·have b1:(k' == k) = false:=beq_eq_false_iff_ne.mpr fun z => ek z.symm
    rw [b1]
    simp only [ek,decide_false]
    exact i4 k'
 | [],_ :: _,h => False.elim h
 | _ :: _,[],h => False.elim h
theorem dc_dict {P:Program} {w:World} {K:PySem.W.Frag} {h:Heap} {a:Addr} {es:Array DictEntry} {ep:Nat} {kvs:Dc} (KX:K.In h) (hl:K.lookup a = some ⟨.type "dict",none,.dict es ep,#[]⟩) (he:EntsOk w kvs es.toList) (nd:(kvs.map (·.1)).Nodup) :
  ∃ vs:List (PySem.Str × Value),h.DictOf (PySem.strKind P w) a vs ∧ ∀ k,(kvs.lookup k = none → valueAt vs k = none) ∧ ∀ v,kvs.lookup k = some v → ∃ u,valueAt vs k = some u ∧ FlatV v u:=by
 obtain ⟨vs,i1,i2,i3,i4⟩:=ents_get (P:=P) he
 exact ⟨vs,⟨_,es,ep,KX a _ hl,⟨rfl,rfl,rfl⟩,rfl,fun e hm => i3 e (by simpa using hm),i2,by rw [i1]; exact nd⟩,i4⟩
section
variable {X:Cx}
def gDcIn (neg:Bool) (kvs:Dc) (ga:GE):GE:=fun ρ st => (ga ρ st).bind fun a st1 => match a with
 | .str k => .ok (.bl ((kvs.lookup k).isSome != neg)) st1
 | _ => .bad
def gDcIx (kvs:Dc) (ga:GE):GE:=fun ρ st => (ga ρ st).bind fun a st1 => match a with
 | .str k => (match kvs.lookup k with | some w => .ok w st1 | none => .bad)
 | _ => .bad
def tDcIn (neg:Bool) (kvs:Dc) (ty:TE):TE:=fun σ H Q => ty σ H fun y H1 => ∃ z,y = .str z ∧ Q (.bl ((kvs.lookup z).isSome != neg)) H1
theorem pc_kin {i:Expr} {ty:TE} {x:Str} {p:Pos} {kvs:Dc} (hi:PE X i ty) (hg:Gl X x) (hd:(x == ("__debug__":Str)) = false) (D:DcAt X.K X.w X.mg x kvs):PC X .In i (.Name x p) (tDcIn false kvs ty):=by
 intro pins s σ H Q I h
 obtain ⟨a,es,ep,g1,g2,g3,g4,g5⟩:=D
 refine thn (hi pins s σ H _ I h) fun iv s1 ⟨y,H1,I1,ry,z,ey,q1⟩ => thn (pe_glob (v:=.ref a) hg g1 rfl hd pins s1 σ H1 (fun v H2 => v = .ref a ∧ H2 = H1) I1 ⟨rfl,rfl⟩) fun u s2 ⟨v,H2,I2,rv,ev,eH⟩ => ?_
 subst ey ev eH
 obtain rfl:u = Value.ref a:=rv
 obtain ⟨t,rfl⟩:=(show ∃ t,iv = Value.str z t from ry)
 obtain ⟨vs,dd,look⟩:=dc_dict (P:=X.prog) (w:=X.w) I2.kIn g2 g4 g5
 refine wpAny_in_of (strKind_is X.prog X.w z t) g3 dd.mapOf ⟨.bl (kvs.lookup z).isSome,_,I2.tok _,?_,by simpa using q1⟩
 obtain ⟨l1,l2⟩:=look z
 cases e:kvs.lookup z with
 | none => rw [l1 e]; rfl
 | some w => obtain ⟨u,e1,_⟩:=l2 w e; rw [e1]; rfl
theorem pc_knotin {i:Expr} {ty:TE} {x:Str} {p:Pos} {kvs:Dc} (hi:PE X i ty) (hg:Gl X x) (hd:(x == ("__debug__":Str)) = false) (D:DcAt X.K X.w X.mg x kvs):PC X .NotIn i (.Name x p) (tDcIn true kvs ty):=by
 intro pins s σ H Q I h
 obtain ⟨a,es,ep,g1,g2,g3,g4,g5⟩:=D
 refine thn (hi pins s σ H _ I h) fun iv s1 ⟨y,H1,I1,ry,z,ey,q1⟩ => thn (pe_glob (v:=.ref a) hg g1 rfl hd pins s1 σ H1 (fun v H2 => v = .ref a ∧ H2 = H1) I1 ⟨rfl,rfl⟩) fun u s2 ⟨v,H2,I2,rv,ev,eH⟩ => ?_
 subst ey ev eH
 obtain rfl:u = Value.ref a:=rv
 obtain ⟨t,rfl⟩:=(show ∃ t,iv = Value.str z t from ry)
 obtain ⟨vs,dd,look⟩:=dc_dict (P:=X.prog) (w:=X.w) I2.kIn g2 g4 g5
 refine wpAny_notIn_of (strKind_is X.prog X.w z t) g3 dd.mapOf ⟨.bl (!(kvs.lookup z).isSome),_,I2.tok _,?_,by simpa using q1⟩
 obtain ⟨l1,l2⟩:=look z
 cases e:kvs.lookup z with
 | none => rw [l1 e]; rfl
 | some w => obtain ⟨u,e1,_⟩:=l2 w e; rw [e1]; rfl
theorem read_dcIn {a:Expr} {ga:GE} {neg:Bool} {kvs:Dc} (ha:JE X a ga) {ρ:Rho} {st:Hs} {σ:St} {H:Hp} {m:Mp} {Q:VK} (S:Sim X.K m st H) (R:RelEnv X.K m H ρ σ) (p:PostE X σ m H (gDcIn neg kvs ga ρ st) Q):tDcIn neg kvs (SE X a) σ H Q:=by
 refine ha.go S R (PostG.bind p) fun w st1 v m1 H1 p1 e1 S1 r1 => ?_
 cases w with
 | str k =>
  unfold RelW at r1
  exact ⟨k,r1.1,p1 _ m1 H1 e1 S1 (by unfold RelW; rfl)⟩
 | _ => exact False.elim p1
theorem je_dcIn {a:Expr} {ga:GE} {x:Str} {p pos:Pos} {kvs:Dc} (ha:JE X a ga) (hg:Gl X x) (hd:(x == ("__debug__":Str)) = false) (D:DcAt X.K X.w X.mg x kvs):JE X (.Compare a [.In] [.Name x p] pos) (gDcIn false kvs ga) :=
 JE.of (pe_cmp (pc_kin pe_SE hg hd D) rfl) fun ρ st σ H m Q S R p => read_dcIn ha S R p
theorem je_dcNotIn {a:Expr} {ga:GE} {x:Str} {p pos:Pos} {kvs:Dc} (ha:JE X a ga) (hg:Gl X x) (hd:(x == ("__debug__":Str)) = false) (D:DcAt X.K X.w X.mg x kvs):JE X (.Compare a [.NotIn] [.Name x p] pos) (gDcIn true kvs ga) :=
 JE.of (pe_cmp (pc_knotin pe_SE hg hd D) rfl) fun ρ st σ H m Q S R p => read_dcIn ha S R p
theorem jt_dcIn {a:Expr} {ga:GE} {x:Str} {p pos:Pos} {kvs:Dc} (ha:JE X a ga) (hg:Gl X x) (hd:(x == ("__debug__":Str)) = false) (D:DcAt X.K X.w X.mg x kvs):JT X (.Compare a [.In] [.Name x p] pos) (gTst (gDcIn false kvs ga)) :=
 JT.of (pt_cmp (pc_kin pe_SE hg hd D) rfl) fun ρ st σ H m Q S R p => read_dcIn ha S R (post_tst p)
theorem jt_dcNotIn {a:Expr} {ga:GE} {x:Str} {p pos:Pos} {kvs:Dc} (ha:JE X a ga) (hg:Gl X x) (hd:(x == ("__debug__":Str)) = false) (D:DcAt X.K X.w X.mg x kvs):JT X (.Compare a [.NotIn] [.Name x p] pos) (gTst (gDcIn true kvs ga)) :=
 JT.of (pt_cmp (pc_knotin pe_SE hg hd D) rfl) fun ρ st σ H m Q S R p => read_dcIn ha S R (post_tst p)
def tDcIx (kvs:Dc) (ty:TE):TE:=fun σ H Q => ty σ H fun y H1 => ∃ z w v,y = .str z ∧ kvs.lookup z = some w ∧ (∀ u,FlatV w u → RelV v u) ∧ Q v H1
theorem pe_dcIx {b:Expr} {ty:TE} {x:Str} {p pos:Pos} {kvs:Dc} (hb:PE X b ty) (hs:NoSl b) (hg:Gl X x) (hd:(x == ("__debug__":Str)) = false) (D:DcAt X.K X.w X.mg x kvs):PE X (.Subscript (.Name x p) b pos) (tDcIx kvs ty):=by
 intro pins s σ H Q I h
 obtain ⟨a,es,ep,g1,g2,g3,g4,g5⟩:=D
 refine subD_of PySem.F.slot_dict_getitem.lookup hs (thn (pe_glob (v:=.ref a) hg g1 rfl hd pins s σ H (fun v H2 => v = .ref a ∧ H2 = H) I ⟨rfl,rfl⟩) fun u s1 ⟨v,H1,I1,rv,ev,eH⟩ => ?_)
 subst ev eH
 obtain rfl:u = Value.ref a:=rv
 refine thn (hb pins s1 σ H1 _ I1 h) fun iv s2 ⟨y,H2,I2,ry,z,w,v,ey,ew,ev,q⟩ => ?_
 subst ey
 obtain ⟨t,rfl⟩:=(show ∃ t,iv = Value.str z t from ry)
 obtain ⟨vs,dd,look⟩:=dc_dict (P:=X.prog) (w:=X.w) I2.kIn g2 g4 g5
 obtain ⟨u,e1,e2⟩:=(look z).2 w ew
 exact ⟨dd.typeIs,wpAny_getItem_of (strKind_is X.prog X.w z t) dd.mapOf e1 ⟨v,H2,I2.tok _,ev u e2,q⟩⟩
theorem je_dcIx {b:Expr} {gb:GE} {x:Str} {p pos:Pos} {kvs:Dc} (hb:JE X b gb) (hs:NoSl b) (hg:Gl X x) (hd:(x == ("__debug__":Str)) = false) (D:DcAt X.K X.w X.mg x kvs):JE X (.Subscript (.Name x p) b pos) (gDcIx kvs gb) :=
 JE.of (pe_dcIx pe_SE hs hg hd D) fun ρ st σ H m Q S R p => by
  refine hb.go S R (PostG.bind p) fun w st1 v m1 H1 p1 e1 S1 r1 => ?_
  cases w with
  | str k =>
   dsimp only at p1
   cases e:kvs.lookup k with
   | none => rw [e] at p1; exact False.elim p1
   | some u =>
    rw [e] at p1
    unfold RelW at r1
    cases u with
    | int i => exact ⟨k,.int i,.int i,r1.1,e,fun u h => h,p1 _ m1 H1 e1 S1 (by unfold RelW; rfl)⟩
    | str y =>
     by_cases hy:PyData.strOk y = true
     ·exact ⟨k,.str y,.str y,r1.1,e,fun u h => h.1,p1 _ m1 H1 e1 S1 (by unfold RelW; exact ⟨rfl,hy⟩)⟩
     ·obtain ⟨a,es,ep,_,_,_,g4,_⟩:=D
      obtain ⟨vs,_,_,_,i4⟩:=ents_get (P:=X.prog) g4
      obtain ⟨u,_,e2⟩:=(i4 k).2 _ e
      exact absurd e2.2 hy
    | _ =>
     obtain ⟨a,es,ep,_,_,_,g4,_⟩:=D
     obtain ⟨vs,_,_,_,i4⟩:=ents_get (P:=X.prog) g4
     obtain ⟨u,_,e2⟩:=(i4 k).2 _ e
     exact False.elim e2
  | _ => exact False.elim p1
end
end J
namespace J
open PySem PySem.Spec PyProof.Rows PySem.W L2
section
variable (lt:Nat → Nat → Bool) (N:Nat)
def Kg {α:Type}:KasT α → (α → Prop) → Prop
 | .ret a,Q => Q a
 | .ask i j k,Q => (i < N ∧ j < N) ∧ Kg (k (lt i j)) Q
end
section
variable {lt:Nat → Nat → Bool} {N:Nat}
theorem Kg.bind {α β:Type} {f:α → KasT β} {Q:β → Prop}:∀ {t:KasT α},Kg lt N t (fun a => Kg lt N (f a) Q) → Kg lt N (t.bind f) Q
 | .ret a,h => h
 | .ask i j k,h => ⟨h.1,Kg.bind (t:=k (lt i j)) h.2⟩
theorem Kg.imp {α:Type} {Q R:α → Prop} (hq:∀ a,Q a → R a):∀ {t:KasT α},Kg lt N t Q → Kg lt N t R
 | .ret a,h => hq a h
 | .ask i j k,h => ⟨h.1,Kg.imp hq (t:=k (lt i j)) h.2⟩
structure Ord (lt:Nat → Nat → Bool):Prop where
 as:∀ a b,lt a b = true → lt b a = false
 tr:∀ a b c,lt a b = false → lt b c = false → lt a c = false
theorem Ord.irr (o:Ord lt) (a:Nat):lt a a = false:=by
 cases h:lt a a with
 | false => rfl
 | true => have:=o.as a a h; rw [h] at this; cases this
abbrev at_ (p:Array Nat) (i:Nat):Nat:=p.getD i 0
structure Pm (N:Nat) (p:Array Nat):Prop where
 sz:p.size = N
 pm:p.toList.Perm (List.range N)
theorem Pm.bd {p:Array Nat} (h:Pm N p) {i:Nat} (hi:i < N):at_ p i < N:=by
 have e:at_ p i = p[i]'(by rw [h.sz]; exact hi):=by simp [at_,Array.getD,h.sz,hi]
 rw [e]
 have:p[i]'(by rw [h.sz]; exact hi) ∈ p.toList:=by simp
 exact List.mem_range.mp (h.pm.mem_iff.mp this)
theorem getD_of {p q:Array Nat} {i j:Nat} (h:p[i]? = q[j]?):at_ p i = at_ q j:=by
 unfold at_
 rw [Array.getD_eq_getD_getElem?,Array.getD_eq_getD_getElem?,h]
theorem rev_at {p:Array Nat} (h:Pm N p) {i j:Nat} (hj:j ≤ N) (k:Nat):at_ (kas_rev p i j) k = if i ≤ k ∧ k < j then at_ p (i + j - 1 - k) else at_ p k:=by
 have q:=getElem?_mirror_all (xs:=p) (i:=i) (j:=j) (by rw [h.sz]; exact hj) k
 unfold kas_rev
 split
 ·rename_i c; rw [if_pos c] at q; exact getD_of q
 ·rename_i c; rw [if_neg c] at q; exact getD_of q
def Up (lt:Nat → Nat → Bool) (p:Array Nat) (k:Nat):Prop:=∀ i j,i ≤ j → j < k → lt (at_ p j) (at_ p i) = false
def Dn (lt:Nat → Nat → Bool) (p:Array Nat) (k:Nat):Prop:=∀ i j,i ≤ j → j < k → lt (at_ p i) (at_ p j) = false
theorem Up.succ (o:Ord lt) {p:Array Nat} {k:Nat} (h:Up lt p k) (hk:1 ≤ k) (e:lt (at_ p k) (at_ p (k - 1)) = false):Up lt p (k + 1):=by
 intro i j hij hj
 by_cases c:j < k
 ·exact h i j hij c
 ·have:j = k:=by omega
  subst this
  by_cases c2:i = j
  ·subst c2; exact o.irr _
  ·exact o.tr _ _ _ e (h i (j - 1) (by omega) (by omega))
theorem Dn.succ (o:Ord lt) {p:Array Nat} {k:Nat} (h:Dn lt p k) (hk:1 ≤ k) (e:lt (at_ p (k - 1)) (at_ p k) = false):Dn lt p (k + 1):=by
 intro i j hij hj
 by_cases c:j < k
 ·exact h i j hij c
 ·have:j = k:=by omega
  subst this
  by_cases c2:i = j
  ·subst c2; exact o.irr _
  ·exact o.tr _ _ _ (h i (j - 1) (by omega) (by omega)) e
theorem Dn.up {p:Array Nat} (hp:Pm N p) {n:Nat} (hn:n ≤ N) (h:Dn lt p n):Up lt (kas_rev p 0 n) n:=by
 intro i j hij hj
 rw [rev_at hp hn,rev_at hp hn,if_pos ⟨by omega,hj⟩,if_pos ⟨by omega,by omega⟩]
 exact h _ _ (by omega) (by omega)
end
section
variable {prog:Program} {w:World} {A:Around} {E:Value → Shared → Prop} {s:Shared}
end
section
variable {X:Cx} {pins:List (Addr × Obj)} {σ:St} {H:Hp} {s:Shared}
end
section
variable {X:Cx}
end
section
variable {prog:Program} {w:World} {A:Around} {E:Value → Shared → Prop} {s:Shared}
end
section
variable {X:Cx}
abbrev pw (p:Int × Int):Wv:=.tup [.int p.1,.int p.2]
end
end J
namespace J
open PySem PySem.Spec PyProof.Rows L2
section
variable {X:Cx}
end
end J
namespace J
open PySem PySem.Spec PyProof.Rows PySem.W L2
def DRaw (h:Heap) (d:Addr) (es:Array DictEntry) (ep:Nat):Prop:=∃ o,h.get? d = some o ∧ o.cls = .type "dict" ∧ o.data = .dict es ep
section
variable {prog:Program} {w:World} {A:Around} {E:Value → Shared → Prop} {s:Shared} {d it:Addr} {es:Array DictEntry} {ep i:Nat}
theorem DRaw.ty (x:DRaw s.heap d es ep):s.TypeIs (.ref d) "dict":=let ⟨o,h1,h2,_⟩:=x; ⟨o,h1,h2⟩
end
section
variable {X:Cx}
end
section
variable {X:Cx}
end
end J
namespace J
open PySem L2 PyProof.Rows
section
open PySem.SeqAt PySem.MeetsSeq PySem.MeetsSeq2 PySem.MeetsSeq3
end
variable {X:Cx}
def oLe:Op2:=fun x y st => oLe0 x y st
theorem ow_leT (hu:X.A.units + 64 < cLine):OpW X (compareOp .LtE) oLe:=ow_le
def oLt:Op2:=fun x y st => oLt0 x y st
theorem ow_ltT (hu:X.A.units + 64 < cLine):OpW X (compareOp .Lt) oLt:=ow_lt
end J
namespace J
open PySem PySem.Spec PyProof.Rows L2
structure RoomU (k:Nat) (A:Around):Prop where
 d:A.depth + 3 * k + 5 < recursionLimit
 u:A.units + 16 * k + 200 < cLine
theorem RoomU.of {k:Nat} {A:Around} (r:Room k A):RoomU k A:=⟨r.dp,r.un⟩
theorem RoomU.less {j k:Nat} {A:Around} (r:RoomU k A) (h:j ≤ k):RoomU j A:=⟨by have:=r.d; omega,by have:=r.u; omega⟩
structure FnOkU (P:Program) (w:World) (K:PySem.W.Frag) (mg:Str → Option Value) (base:Heap) (k:Nat) (f:Addr) (fd:FuncData) (ps:List Str) (sp:Sp):Prop where
 n:∀ vs H Q E,sp vs H Q E → vs.length = ps.length
 go:∀ (A:Around) (outer:List Env) (s:Shared) (H:Hp) (args:Args) (us:List Value) (vs:List V) (Q:VK) (E:XK),RoomU k A → Env0 P w K mg base A outer s H →
  BindsTo s fd args (ps.zip us) → Vals vs us → sp vs H Q E → codeAny (model P w) A (.call (.ref f) args) (CR (CXJ P w) outer P w H s Q E) s
section
variable {P:Program} {w:World} {K:PySem.W.Frag} {mg:Str → Option Value} {base:Heap}
end
section
variable {X:Cx}
end
def HasU (P:Program) (w:World) (K:PySem.W.Frag) (mg:Str → Option Value) (base:Heap) (k:Nat) (x:Str) (n:Nat) (F:List Wv → Hs → Re Wv):Prop :=
 ∃ f fd ps,FnOkU P w K mg base k f fd ps (spW K n F) ∧ mg x = some (.ref f) ∧ PySem.W.keepIn K (.ref f) = true ∧ Binds K fd ps []
theorem HasU.mono {P:Program} {w:World} {K:PySem.W.Frag} {mg:Str → Option Value} {base:Heap} {j k:Nat} {x:Str} {n:Nat} {F:List Wv → Hs → Re Wv} (h:HasU P w K mg base j x n F) (l:j ≤ k):HasU P w K mg base k x n F:=by
 obtain ⟨f,fd,ps,G,r⟩:=h
 exact ⟨f,fd,ps,⟨G.n,fun A outer s H args us vs Q E hr => G.go A outer s H args us vs Q E (hr.less l)⟩,r⟩
end J
namespace J
open PySem PySem.Spec PyProof.Rows L2
section
variable {X:Cx}
end
end J
namespace J
open PySem PySem.Spec PyProof.Rows L2
section
variable {X:Cx}
end
end J
namespace J
open PySem PySem.Spec PyProof.Rows L2
section
variable {X:Cx}
end
open Classical in
section
variable {X:Cx}
end
end J
namespace J
open PySem PySem.Spec PyProof.Rows L2
open Classical in
section
variable {X:Cx} {pins:List (Addr × Obj)} {σ:St} {H:Hp} {s:Shared} {scope:Scope} {x:Str} {xr:List Str} {cs:Caps}
end
section
variable {prog:Program} {w:World} {A:Around} {R:Result → Shared → Prop} {s:Shared}
end
section
variable {X:Cx}
end
end J
namespace J
open PySem PySem.Spec PyProof.Rows L2
section
variable {X:Cx}
end
section
open PySem.SeqAt PySem.MeetsSeq PySem.MeetsSeq2 PySem.MeetsSeq3
end
section
variable {X:Cx}
end
end J
namespace J
open PySem PySem.Spec PyProof.Rows L2
section
variable {X:Cx}
end
section
variable {X:Cx}
end
def fBad:List Wv → Hs → Re Wv:=fun _ _ => .bad
theorem has_bad {P:Program} {w:World} {K:PySem.W.Frag} {mg:Str → Option Value} {base:Heap} {h:Heap} {k:Nat} {x:Str} {st:Stmt} {ps:List Str} (KX:K.In h) (NS:h.Ns mainGlobals mg) (D:DefAt K x st)
  (hb:∀ (kV doc pm:Value) (an:Option Addr) (cdv ct:Value) (us:List Value),us.length = ps.length → bindArgs (PySem.W.fnOf x x (defArgs st) (defBody st) (defScope st) .none kV doc pm an cdv ct) ⟨us,[]⟩ = pure (ps.zip us)) :
  Has P w K mg base k x ps.length fBad:=by
 obtain ⟨f,fd,a,F⟩:=D
 exact ⟨f,fd,ps,⟨fun vs H Q E ⟨_,_,_,_,_,_,p⟩ => False.elim p,fun A outer s H args us vs Q E hr e0 hb r ⟨_,_,_,_,_,_,p⟩ => False.elim p⟩,PySem.W.mg_of KX NS a,F.kp,F.binds hb⟩
section
variable {X:Cx}
theorem op_mulS1:OpR X (binaryOp .Mult) (fun x y H Q => ∃ z n,x = .str z ∧ y = .int n ∧ (n = 0 ∨ n = 1) ∧ Q (.str (if n = 0 then PySem.Str.empty else z)) H):=by
 intro pins s σ H x y v u Q I rx ry h
 obtain ⟨z,n,rfl,rfl,hn,q⟩:=h
 obtain ⟨t,rfl⟩:=rx
 obtain ⟨t',rfl⟩:=ry
 rcases hn with rfl | rfl
 ·exact PySem.P.mul_str_none (by omega) (by omega) ⟨.str PySem.Str.empty,H,I.tok _,⟨_,rfl⟩,q⟩
 ·refine PySem.P.mul_str (by decide) (fun _ h => by cases h) (fun _ h => by cases h) ?_
  rw [if_neg (by omega),if_pos (by rfl)]
  exact ⟨.str z,H,I,⟨t,rfl⟩,q⟩
noncomputable def oMulL:Op2:=fun x y st => match x,y with
 | .str z,.int n => if n = 0 ∨ n = 1 then .ok (.str (if n = 0 then PySem.Str.empty else z)) st else oMulL0 (.str z) (.int n) st
 | x,y => oMulL0 x y st
theorem ow_mulL1:OpW X (binaryOp .Mult) oMulL:=by
 obtain ⟨r,h1,h2⟩:=ow_mulL (X:=X)
 refine ⟨_,OpR.or op_mulS1 h1,fun x y a b st H m Q S rx ry p => ?_⟩
 cases x with
 | str z =>
  cases y with
  | int n =>
   have p':PostO X.K m H (if n = 0 ∨ n = 1 then .ok (.str (if n = 0 then PySem.Str.empty else z)) st else oMulL0 (.str z) (.int n) st) Q:=p
   by_cases c:n = 0 ∨ n = 1
   ·rw [if_pos c] at p'
    obtain ⟨rfl,ok⟩:=relStr rx
    refine .inl ⟨z,n,rfl,relInt ry,c,p' _ m H Ext.refl S (mkStr ?_)⟩
    by_cases c0:n = 0
    ·rw [if_pos c0]; decide +kernel
    ·rw [if_neg c0]; exact ok
   ·rw [if_neg c] at p'
    exact .inr (h2 _ _ _ _ st H m Q S rx ry p')
  | _ => exact .inr (h2 _ _ _ _ st H m Q S rx ry p)
 | _ => exact .inr (h2 _ _ _ _ st H m Q S rx ry p)
end
end J
namespace J
open PySem PySem.Spec PyProof.Rows L2
abbrev LF:=List Wv → List Wv → Hs → Re Wv
def lamBase (X:Cx) (H:Hp) (s:Shared):Heap:=PySem.W.hideAll (hidT s.heap H) (frs X.stack)
section
variable {X:Cx} {pins:List (Addr × Obj)} {σ:St} {H:Hp} {s:Shared}
theorem lb_of {b:Addr} {o:Obj} (e:(lamBase X H s).get? b = some o):s.heap.get? b = some o ∧ H b = none:=of_hidT (PySem.W.of_hideAll _ e)
theorem lb_get {b:Addr} {o:Obj} (e:s.heap.get? b = some o) (n:H b = none) (hf:b ∉ frs X.stack):(lamBase X H s).get? b = some o:=PySem.W.hideAll_get _ (hidT_get e n) hf
theorem lb_sub (I:Inv X pins σ H s):∀ b o,X.base.get? b = some o → (lamBase X H s).get? b = some o:=fun b o e => by
 obtain ⟨e1,e2⟩:=I.bs b o e
 refine lb_get e1 e2 fun z => ?_
 rcases List.mem_cons.mp (I.stkSub b z) with q | q
 ·have h1:X.base.get? b = none:=by
   rw [q]
   exact Heap.get?_none_of_le (Nat.le_trans I.ok.bsz I.ok.above)
  rw [e] at h1; cases h1
 ·exact I.ok.nofr e q
theorem lb_mod (I:Inv X pins σ H s):Mod X.K X.mg (lamBase X H s) :=
 ⟨I.mod.kin.keeps (lb_sub I),I.mod.glob.keeps (lb_sub I),let ⟨mb,h1,h2⟩:=I.mod.blt; ⟨mb,h1.keeps (lb_sub I),h2⟩,I.mod.nolimit.keeps (lb_sub I)⟩
theorem ff_hide {h B B':Heap}:∀ {l:List Env},(∀ env ∈ l,∀ L,env.frame = some L → B'.get? L = none) → h.FunFrames B l → h.FunFrames B' l
 | [],_,_ => trivial
 | env :: r,hn,⟨hk,⟨L,o,hf,_,ho,hd⟩,hr⟩ => ⟨hk,⟨L,o,hf,hn env (.head _) L hf,ho,hd⟩,ff_hide (fun e he => hn e (.tail _ he)) hr⟩
theorem lb_env0 (I:Inv X pins σ H s):Env0 X.prog X.w X.K X.mg (lamBase X H s) X.A X.stack s H :=
 ⟨I.ok.frames,lb_mod I,fun b o e => lb_of e,by unfold lamBase; rw [PySem.W.hideAll_size,hidT_size]; exact Nat.le_refl _,
  ff_hide (fun env he L hL => PySem.W.hideAll_none _ (List.mem_filterMap.mpr ⟨env,he,hL⟩)) I.stack,I.stkFree,I.hok,I.bare⟩
end
def spL (K:PySem.W.Frag) (n:Nat) (p:Lm) (L:LF):Sp:=fun vs H Q E => ∃ m st ws caps,Sim K m st H ∧ RelWs K m H ws vs ∧ RelWs K m H caps p.xs ∧ H p.c = some (.ext (CodeX p.c p.q)) ∧ ws.length = n ∧ PostF K m H (L caps ws st) Q E
def HasL (P:Program) (w:World) (K:PySem.W.Frag) (mg:Str → Option Value) (base:Heap) (k:Nat) (p:Lm) (n:Nat) (L:LF):Prop :=
 ∃ fd ps ob,FnOk P w K mg base (CXJ P w) k p.a fd ps (spL K n p L) ∧ base.get? p.a = some ob ∧ ob.data = .func fd ∧ Binds K fd ps []
open Classical in
noncomputable def gCallF (p:Lm) (n:Nat) (L:LF) (i:Nat) (g:GA):GE:=fun ρ st => match ρ[i]? with
 | some (some (.fn p' caps)) => if p' = p then (g ρ st).bind fun ws st1 => if ws.length = n then L caps ws st1 else .bad else .bad
 | _ => .bad
section
variable {X:Cx}
theorem je_callF {k n:Nat} {p:Lm} {L:LF} {x:Str} {i:Nat} {pp pos:Pos} {e:Expr} {es:List Expr} {g:GA} (G:HasL X.prog X.w X.K X.mg X.base k p n L) (hr:Room k X.A) (hN:X.N[i]? = some x) (hv:Vis X.env.scope x) (ha:JA X (e :: es) g)
  (hd:(x == ("__debug__":Str)) = false) (hcd:(x == ("__classdict__":Str)) = false) (he:starEach (e :: es) X.env = (false,eval e X.env) :: starEach es X.env:=by rfl) (hpl:(backTo pos (starEach es X.env)).any (·.1) = false:=by rfl) :
  JE X (.Call (.Name x pp) (e :: es) [] pos) (gCallF p n L i g):=by
 intro ρ st σ H m Q S R pq pins s I
 unfold gCallF at pq
 cases er:ρ[i]? with
 | none => rw [er] at pq; exact False.elim pq
 | some ow =>
  rw [er] at pq
  cases ow with
  | none => exact False.elim pq
  | some w =>
   cases w with
   | fn p' caps =>
    dsimp only at pq
    by_cases ep:p' = p
    ·rw [if_pos ep] at pq
     subst ep
     obtain ⟨v,ev,rv⟩:=R.get i _ er
     have rv0:=rv
     unfold RelW at rv
     obtain ⟨rfl,hc,rc⟩:=rv
     obtain ⟨fd,ps,ob,F,ho,hod,hb⟩:=G
     have args:=ha.go (T:=fun vs H1 => ∃ ws st1 m1,PostE X σ m H (if ws.length = n then L caps ws st1 else .bad) Q ∧ Ext X.K m H m1 H1 ∧ Sim X.K m1 st1 H1 ∧ RelWs X.K m1 H1 ws vs) S R (PostG.bind pq)
      fun ws st1 vs m1 H1 p1 e1 S1 rs => ⟨ws,st1,m1,p1,e1,S1,rs⟩
     refine wpAny_Call_Name_kw (thn (pe_var hN hv hd hcd pins s σ H (fun v H' => v = .ref p'.a ∧ H' = H) I ⟨_,ev,rfl,rfl⟩) fun u s0 ⟨v,H0,I0,r0,hv0,hH0⟩ => ?_)
     subst hv0 hH0
     obtain rfl:u = Value.ref p'.a:=r0
     let K1:PySem.W.Frag:=[(p'.a,ob)]
     have k1:PySem.W.keepIn K1 (.ref p'.a) = true:=by
      obtain ⟨oc,od,da,sl⟩:=ob
      dsimp only at hod
      subst hod
      simp [PySem.W.keepIn,K1]
     have kin1:∀ {h:Heap},h.get? p'.a = some ob → K1.In h:=fun {h} q a o e => by
      simp only [K1,List.lookup_cons,List.lookup_nil] at e
      cases q2:a == p'.a with
      | true => rw [q2] at e; cases e; rw [eq_of_beq q2]; exact q
      | false => rw [q2] at e; cases e
     refine PySem.W.callWith_K (K:=K1) (h₀:=X.base) (kin1 ho) k1 (thn (args pos pins s0 I0) fun us s1 ⟨vs,H1,I1,r,ws,st1,m1,p1,e1,S1,rs⟩ => ⟨kin1 (I1.bk _ _ ho),?_⟩) he hpl
     by_cases c:ws.length = n
     ·rw [if_pos c] at p1
      let E:XK:=fun cl _ H2 => ∃ c' st2 m2 C,cl = .ref C ∧ ClsAt X.K c' C ∧ L caps ws st1 = .err c' st2 ∧ Ext X.K m1 H1 m2 H2 ∧ Sim X.K m2 st2 H2
      have sp:spL X.K n p' L vs H1 Q E:=by
       refine ⟨m1,st1,ws,caps,S1,rs,RelWs.mono e1 _ _ rc,e1.ext _ _ hc,c,?_⟩
       cases er:L caps ws st1 with
       | ok w st2 => rw [er] at p1; exact PostE.shift (r:=.ok w st2) p1 e1
       | err c' st2 => exact fun m2 H2 C e2 S2 hC => ⟨c',st2,m2,C,rfl,hC,er,e2,S2⟩
       | bad => rw [er] at p1; exact False.elim p1
      have hl:us.length = ps.length:=by rw [← r.length]; exact F.len _ _ _ _ sp
      have bd:=hb s1 us I1.kIn (by rw [List.append_nil]; exact hl)
      rw [List.append_nil] at bd
      refine wpAny_call (codeAny_mono (F.run X.A X.stack s1 H1 ⟨us,[]⟩ us vs Q E hr I1.env0 bd r sp) fun rr s2 hq => ?_)
      cases rr with
      | error x =>
       obtain ⟨H2,C,fl,c',st2,m2,C',ec,hC,er,e2,S2⟩:=hq
       cases ec
       rw [er] at p1
       exact p1 m2 H2 x s2 (e1.trans e2) S2 ⟨C,pins,H1,s1,hC,I1,.inl fl.any⟩
      | ok fw =>
       cases fw with
       | ret u => exact I1.after hq
       | next => exact False.elim hq
       | brk => exact False.elim hq
       | cont => exact False.elim hq
     ·rw [if_neg c] at p1; exact False.elim p1
    ·rw [if_neg ep] at pq; exact False.elim pq
   | _ => exact False.elim pq
end
def freeOf (sc:Scope):List Str:=(sc.names.filter fun p => decide (p.2 = .free)).map (·.1)
structure LamSc (sc:Scope) (x1 x2 x3 y:Str):Prop where
 kind:sc.kind = .function
 co:sc.isCoroutine = false
 gen:sc.isGenerator = false
 nocell:∀ p ∈ sc.names,p.2 ≠ .cell
 p1:sc.names.lookup x1 = some .local
 p2:sc.names.lookup x2 = some .local
 p3:sc.names.lookup x3 = some .local
 fr:freeOf sc = [y]
 fy:sc.names.lookup y = some .free
 nd:[x1,x2,x3,y].Nodup
abbrev lamArgs (x1 x2 x3:Str) (a1 a2 a3:Option Expr) (q1 q2 q3:Pos):Arguments:=⟨[],[⟨x1,a1,q1⟩,⟨x2,a2,q2⟩,⟨x3,a3,q3⟩],none,[],[],none,[]⟩
theorem lam_bind {x1 x2 x3:Str} {a1 a2 a3:Option Expr} {q1 q2 q3:Pos} {name qual:Str} {body:Expr} {scope:Scope} {cl:List (Str × Addr)} {pm cdv ct:Value} (n12:x1 ≠ x2) (n13:x1 ≠ x3) (n23:x2 ≠ x3) (u1 u2 u3:Value) :
  bindArgs (PySem.W.kla_fn name qual (lamArgs x1 x2 x3 a1 a2 a3 q1 q2 q3) body scope cl pm cdv ct) ⟨[u1,u2,u3],[]⟩ = pure [(x1,u1),(x2,u2),(x3,u3)]:=by
 have h:([x1,x2,x3]:List Str).filter (fun n => (List.lookup n [(x1,u1),(x2,u2),(x3,u3)]).isNone) = []:=by
  rw [List.filter_eq_nil_iff]
  intro n hn
  simp only [List.mem_cons,List.not_mem_nil,or_false] at hn
  simp only [List.lookup_cons,List.lookup_nil]
  rcases hn with rfl | rfl | rfl
  ·simp
  ·split <;> simp
  ·split
   ·simp
   ·split <;> simp
 have e21:(x2 == x1) = false:=beq_eq_false_iff_ne.mpr (Ne.symm n12)
 have e31:(x3 == x1) = false:=beq_eq_false_iff_ne.mpr (Ne.symm n13)
 have e32:(x3 == x2) = false:=beq_eq_false_iff_ne.mpr (Ne.symm n23)
 have hs:notAStandIn Value.none = pure ():=rfl
 unfold bindArgs
 simp [seqItems?,h,hs,List.lookup_cons,e21,e31,e32]
end J
namespace J
open PySem PySem.Spec PyProof.Rows L2
abbrev envL (p:Lm) (scope:Scope) (L:Addr) (cl:List (Str × Addr)):Env:=PySem.W.envX p.q scope L p.a (.ref p.c) cl
def cxL (P:Program) (w:World) (K:PySem.W.Frag) (mg:Str → Option Value) (base:Heap) (N:List Str) (p:Lm) (scope:Scope) (cl:List (Str × Addr)) (A:Around) (outer:List Env) (s:Shared) (H:Hp) (E:XK):Cx where
 prog:=P
 w:=w
 K:=K
 mg:=mg
 base:=base
 A:=A.deeper (envL p scope s.heap.objs.size cl)
 N:=N
 s₀:=s
 H₀:=H
 env:=envL p scope s.heap.objs.size cl
 outer:=outer
 stack:=envL p scope s.heap.objs.size cl :: outer
 ex:=[]
 fn:=fun _ => false
 calm:=true
 pn:=[]
 xe:=fun e s' => wpAny (model P w) (A.deeper (envL p scope s.heap.objs.size cl)) (leaving (envL p scope s.heap.objs.size cl) e) (fun _ s'' => CXJ P w outer H s E e s'') (fun e' s'' => CXJ P w outer H s E e' s'') s'
theorem look1 {y x:Str} {c c':Addr} (h:List.lookup x [(y,c)] = some c'):x = y ∧ c' = c:=by
 rw [List.lookup_cons] at h
 cases q:x == y with
 | true => rw [q] at h; cases h; exact ⟨eq_of_beq q,rfl⟩
 | false => rw [q] at h; cases h
theorem free_mem {l:List (Str × NameKind)} {x:Str} (h:l.lookup x = some .free):x ∈ (l.filter fun p => decide (p.2 = .free)).map (·.1) :=
 List.mem_map.mpr ⟨(x,.free),List.mem_filter.mpr ⟨PySem.mem_of_lookup h,by simp⟩,rfl⟩
section
variable {P:Program} {w:World} {K:PySem.W.Frag} {mg:Str → Option Value} {base:Heap} {p:Lm} {scope:Scope} {x1 x2 x3 y:Str} {cy:Addr}
theorem raised_outL {N:List Str} {cl:List (Str × Addr)} {A:Around} {outer:List Env} {s s':Shared} {H H':Hp} {E:XK} {σ:St} {c:PySem.Str} {e:Value}
  (r:Raised (cxL P w K mg base N p scope cl A outer s H E) σ H' c e s') (h:∀ C,ClsAt K c C → E (.ref C) none H'):(cxL P w K mg base N p scope cl A outer s H E).xe e s':=by
 obtain ⟨C,pins,Hc,sc,hC,I,r⟩:=r
 rcases r with fl | ⟨rfl,a,args,rfl,ho,hg,M⟩
 ·exact leave_flown (X:=cxL P w K mg base N p scope cl A outer s H E) rfl rfl rfl I fl fun s2 fl2 => ⟨H',C,fl2,h C hC⟩
 ·exact leave_made (X:=cxL P w K mg base N p scope cl A outer s H E) rfl rfl rfl I ho hg M fun s2 fl2 => ⟨H',C,fl2,h C hC⟩
theorem inv_lam {A:Around} {outer:List Env} {s:Shared} {H:Hp} {E:XK} {v1 v2 v3 vy:V} {u1 u2 u3 uy:Value} {oc:Obj} {h1:Heap} {tk:Nat} (S:LamSc scope x1 x2 x3 y) (hd:A.handled = none) (e0:Env0 P w K mg base A outer s H)
  (r1:RelV v1 u1) (r2:RelV v2 u2) (r3:RelV v3 u3) (ry:RelV vy uy) (hc:base.get? cy = some oc) (hcd:oc.data = .cell (some uy))
  (hns:h1.Ns s.heap.objs.size (fun x => ([(x1,u1),(x2,u2),(x3,u3)]:List (Str × Value)).reverse.lookup x)) (hk:∀ b o,s.heap.get? b = some o → h1.get? b = some o) :
  Inv (cxL P w K mg base [x1,x2,x3,y] p scope [(y,cy)] A outer s H E) [] [some v1,some v2,some v3,some vy] H { s with heap:=h1,toks:=tk }:=by
 have noA:∀ b:Addr,b ∉ (cxL P w K mg base [x1,x2,x3,y] p scope [(y,cy)] A outer s H E).ex:=fun b z => absurd (show b ∈ ([]:List Addr) from z) (by simp)
 have nd:=S.nd
 simp only [List.nodup_cons,List.mem_cons,List.not_mem_nil,or_false,not_or,List.nodup_nil,and_true,not_false_eq_true] at nd
 obtain ⟨⟨n12,n13,_⟩,⟨n23,_⟩,_⟩:=nd
 have e12:(x1 == x2) = false:=beq_eq_false_iff_ne.mpr n12
 have e13:(x1 == x3) = false:=beq_eq_false_iff_ne.mpr n13
 have e23:(x2 == x3) = false:=beq_eq_false_iff_ne.mpr n23
 have cellB:∀ x c,List.lookup x [(y,cy)] = some c → s.heap.get? c = some oc ∧ H c = none:=fun x c h => by
  obtain ⟨_,rfl⟩:=look1 h
  exact e0.bs _ _ hc
 refine ⟨⟨e0.mod,S.kind,rfl,rfl,Nat.le_refl _,fun a b c h1 h2 => ?_,fun a ha => ?_,(fun a c h => by cases h),fun _ => hd,Around.frames_deeper e0.frames,.inr ⟨rfl,rfl⟩,fun b z => absurd z (noA b),e0.bs,e0.bsz,fun b _ _ => noA b,fun b z => absurd z (noA b),e0.funs,e0.frf⟩,
  rfl,e0.bare,Un.kept hk,⟨_,hns,fun i a v h1 h2 h3 => ?_⟩,fun a c h => ⟨some uy,oc,hk _ _ (cellB a c h).1,hcd⟩,e0.hok.fresh (Nat.le_refl _),fun a c h => (cellB a c h).2,fun q hq => absurd (show q ∈ ([]:List (Addr × Obj)) from hq) (by simp),e0.hok.kept hk,rfl⟩
 ·exact (look1 h1).1.trans (look1 h2).1.symm
 ·have ha:scope.names.lookup a = some .cell ∨ scope.names.lookup a = some .free:=ha
  rcases ha with ha | ha
  ·exact absurd rfl (S.nocell _ (PySem.mem_of_lookup ha))
  ·have q:=free_mem ha
   have q2:a ∈ freeOf scope:=q
   rw [S.fr] at q2
   simp at q2
   subst q2
   exact ⟨cy,by show List.lookup a [(a,cy)] = _; simp⟩
 ·match i,h1,h2 with
  | 0,h1,h2 =>
   cases h1; cases h2
   exact ⟨u1,r1,.inl ⟨S.p1,by simp [List.lookup_cons,e12,e13]⟩⟩
  | 1,h1,h2 =>
   cases h1; cases h2
   exact ⟨u2,r2,.inl ⟨S.p2,by simp [List.lookup_cons,e23]⟩⟩
  | 2,h1,h2 =>
   cases h1; cases h2
   exact ⟨u3,r3,.inl ⟨S.p3,by simp [List.lookup_cons]⟩⟩
  | 3,h1,h2 =>
   cases h1; cases h2
   exact ⟨uy,ry,.inr ⟨.inr S.fy,cy,by show List.lookup y [(y,cy)] = _; simp,oc,hk _ _ (e0.bs _ _ hc).1,hcd⟩⟩
  | i + 4,h1,h2 => simp [cxL] at h1
def lamF (g:GE):LF:=fun caps ws st => g (ws.map some ++ caps.map some) st
theorem rel3 {m:Mp} {H:Hp} {ws:List Wv} {vs:List V} (r:RelWs K m H ws vs) (h:ws.length = 3):∃ w1 w2 w3 v1 v2 v3,ws = [w1,w2,w3] ∧ vs = [v1,v2,v3] ∧ RelW K m H w1 v1 ∧ RelW K m H w2 v2 ∧ RelW K m H w3 v3:=by
 match ws,h with
 | [w1,w2,w3],_ =>
  unfold RelWs at r
  obtain ⟨v1,t1,rfl,r1,r⟩:=r
  unfold RelWs at r
  obtain ⟨v2,t2,rfl,r2,r⟩:=r
  unfold RelWs at r
  obtain ⟨v3,t3,rfl,r3,r⟩:=r
  unfold RelWs at r
  subst r
  exact ⟨w1,w2,w3,v1,v2,v3,rfl,rfl,r1,r2,r3⟩
theorem fn_lam {k:Nat} {a1 a2 a3:Option Expr} {q1 q2 q3:Pos} {body:Expr} {pm ctv uy:Value} {vy:V} {oc:Obj} {gb:GE} (S:LamSc scope x1 x2 x3 y) (hxs:p.xs = [vy])
  (hf:base.get? p.a = some (PySem.W.kla_obj "<lambda>" p.q (lamArgs x1 x2 x3 a1 a2 a3 q1 q2 q3) body scope [(y,cy)] pm p.c ctv)) (hc:base.get? cy = some oc) (hcd:oc.data = .cell (some uy)) (ry:RelV vy uy)
  (hb:∀ (A:Around) (outer:List Env) (s:Shared) (H:Hp) (E:XK),Room k (A.deeper (envL p scope s.heap.objs.size [(y,cy)])) → JE (cxL P w K mg base [x1,x2,x3,y] p scope [(y,cy)] A outer s H E) body gb) :
  HasL P w K mg base (k + 1) p 3 (lamF gb):=by
 have nd:=S.nd
 simp only [List.nodup_cons,List.mem_cons,List.not_mem_nil,or_false,not_or,List.nodup_nil,and_true,not_false_eq_true] at nd
 obtain ⟨⟨n12,n13,_⟩,⟨n23,_⟩,_⟩:=nd
 refine ⟨_,[x1,x2,x3],_,⟨fun vs H Q E h => ?_,fun A outer s H args us vs Q E hr e0 hbi r hsp => ?_⟩,hf,rfl,Binds.all fun us hl => ?_⟩
 ·obtain ⟨m,st,ws,caps,_,r,_,_,hl,_⟩:=h
  rw [← r.length]; exact hl
 ·obtain ⟨m,st,ws,caps,S',rs,rc,hcx,hl,post⟩:=hsp
  obtain ⟨w1,w2,w3,v1,v2,v3,rfl,rfl,s1,s2,s3⟩:=rel3 rs hl
  rw [hxs] at rc
  have rc0:=rc
  have hcl:=rc.length
  obtain ⟨wy,rfl⟩:∃ wy,caps = [wy]:=by
   match caps,hcl with
   | [wy],_ => exact ⟨wy,rfl⟩
  unfold RelWs at rc
  obtain ⟨vy',t,e,ryw,_⟩:=rc
  cases e
  rcases r with _ | ⟨r1,r⟩
  rcases r with _ | ⟨r2,r⟩
  rcases r with _ | ⟨r3,r⟩
  cases r
  rename_i u1 u2 u3
  have lim:s.heap.NoLimit:=e0.mod.nolimit.keeps fun b o e => (e0.bs b o e).1
  have code:s.heap.CodeRec (.ref p.c) p.q:=(e0.hok p.c _ hcx).1
  refine PySem.W.kla_callFunE hr.depth (e0.bs _ _ hf).1 rfl S.co S.gen rfl code (hbi _ _ _ _ ?_)
  refine wpAny_newFunctionEnv S.nocell (fun z hz => ?_) (fun h1 hns hsb => ⟨lim.fresh _ hsb,?_⟩) S.kind
  ·simp only [List.zip_cons_cons,List.zip_nil_right,List.mem_cons,List.not_mem_nil,or_false] at hz
   rcases hz with rfl | rfl | rfl
   ·exact S.p1
   ·exact S.p2
   ·exact S.p3
  ·have hk:∀ b o,s.heap.get? b = some o → h1.get? b = some o:=fun b o e => hsb.extBut b o (Nat.ne_of_lt (Heap.lt_size e)) (Heap.get?_push_of_some _ e)
   show codeAny _ _ (.expr body (envL p scope s.heap.objs.size [(y,cy)])) _ _
   have I:=inv_lam (p:=p) (E:=E) (tk:=s.toks + ([x1,x2,x3].zip [u1,u2,u3]).length) S hr.hd e0 r1 r2 r3 ry hc hcd hns hk
   have R:RelEnv K m H [some w1,some w2,some w3,some wy] [some v1,some v2,some v3,some vy]:=⟨rfl,fun i z h => by
    match i,h with
    | 0,h => cases h; exact ⟨_,rfl,s1⟩
    | 1,h => cases h; exact ⟨_,rfl,s2⟩
    | 2,h => cases h; exact ⟨_,rfl,s3⟩
    | 3,h => cases h; exact ⟨_,rfl,ryw⟩
    | i + 4,h => simp at h⟩
   have run:=hb A outer s H E (hr.deeper _) [some w1,some w2,some w3,some wy] st [some v1,some v2,some v3,some vy] H m Q S' R (by
    have post':PostF K m H (gb [some w1,some w2,some w3,some wy] st) Q E:=post
    cases er:gb [some w1,some w2,some w3,some wy] st with
    | ok z st2 => rw [er] at post'; exact post'
    | err c st2 => rw [er] at post'; exact fun m' H' x s' e' S2 rz => raised_outL rz fun C hC => post' m' H' C e' S2 hC
    | bad => rw [er] at post'; exact False.elim post') [] _ I
   refine PySem.W.kla_codeExpr (wpAny_mono run (fun u s' hs => ?_) fun e s' hs => hs)
   obtain ⟨v,H',J,rv,q⟩:=hs
   exact ⟨v,H',J.os,J.bare,J.base,J.hok,rv,q⟩
 ·match us,hl with
  | [u1,u2,u3],_ => exact lam_bind n12 n13 n23 u1 u2 u3
end
end J
namespace J
open PySem PySem.Spec PyProof.Rows L2
structure LamAt (X:Cx) (q:Str) (P:Addr):Prop where
 code:∃ c,X.env.code = .ref c ∧ PySem.W.CodeHd X.base c P
 qual:X.env.qual = q ++ ".<locals>."
 tab:tabFree X.K q = some P
 mem:q ∈ lamDefs
 uniq:∀ q',q' ∈ lamDefs → tabFree X.K q' = some P → q' = q
 bm:∃ bm ob,X.mg "__builtins__" = some (.ref bm) ∧ bm ≠ builtinsNs ∧ bm ≠ mainGlobals ∧ X.base.get? bm = some ob ∧ ob.cls = .type "module" ∧ ob.dict = some builtinsNs ∧ ob.data = .plain
theorem clos0 {env:Env} {f:Str × NameKind → List (Str × Addr) → Sem (ForInStep (List (Str × Addr)))} (hf:∀ x k acc,k ≠ .free → f (x,k) acc = pure (.yield acc)) :
  ∀ (l:List (Str × NameKind)) (acc:List (Str × Addr)),(l.filter fun p => decide (p.2 = .free)).map (·.1) = [] → forIn l acc f = pure acc
 | [],acc,_ => by rw [List.forIn_nil]
 | (x,k) :: l,acc,h => by
  have hk:k ≠ .free:=fun z => by subst z; simp at h
  rw [List.forIn_cons,hf x k acc hk,pure_bind]
  refine clos0 (env:=env) hf l acc ?_
  rw [List.filter_cons_of_neg (by simpa using hk)] at h
  exact h
theorem clos1 {env:Env} {y:Str} {cy:Addr} {f:Str × NameKind → List (Str × Addr) → Sem (ForInStep (List (Str × Addr)))} (hf:∀ x k acc,k ≠ .free → f (x,k) acc = pure (.yield acc)) (hg:∀ acc,f (y,.free) acc = pure (.yield ((y,cy) :: acc))) :
  ∀ (l:List (Str × NameKind)) (acc:List (Str × Addr)),(l.filter fun p => decide (p.2 = .free)).map (·.1) = [y] → forIn l acc f = pure ((y,cy) :: acc)
 | [],acc,h => by simp at h
 | (x,k) :: l,acc,h => by
  by_cases hk:k = .free
  ·subst hk
   rw [List.filter_cons_of_pos (by simp),List.map_cons] at h
   obtain ⟨e,h9⟩:=List.cons.inj h
   have e':x = y:=e
   subst e'
   rw [List.forIn_cons,hg acc,pure_bind]
   exact clos0 (env:=env) hf l _ h9
  ·rw [List.forIn_cons,hf x k acc hk,pure_bind]
   refine clos1 (env:=env) hf hg l acc ?_
   rw [List.filter_cons_of_neg (by simpa using hk)] at h
   exact h
theorem closureFor1 {scope:Scope} {env:Env} {y:Str} {cy:Addr} (h:freeOf scope = [y]) (hc:env.cells.lookup y = some cy):closureFor scope env = pure [(y,cy)]:=by
 unfold closureFor
 dsimp only
 rw [clos1 (env:=env) (y:=y) (cy:=cy) (fun x k acc hk => ?_) (fun acc => ?_) scope.names [] h,pure_bind]
 ·have:(k == NameKind.free) = false:=by simpa using hk
  simp only [this,Bool.false_eq_true,if_false]
 ·have e:cellOf env y = pure cy:=by unfold cellOf; rw [hc]
  simp [e]
theorem among_snoc {pos pos':Pos} {c cv:Value} (l:List Value) (h:TriplesOk l) (e:codeAmong pos' (l ++ [rawInt pos.line,rawInt pos.col,c]) = some cv):codeAmong pos' l = some cv ∨ cv = c:=by
 fun_induction TriplesOk l with
 | case1 =>
  simp only [List.nil_append,rawInt,codeAmong] at e
  split at e
  ·exact .inr (Option.some.inj e).symm
  ·cases e
 | case2 a t b u x rest ih =>
  simp only [List.cons_append,codeAmong] at e ⊢
  split at e
  ·rename_i q; rw [if_pos q]; exact .inl e
  ·rename_i q; rw [if_neg q]; exact ih h e
 | case3 l h1 h2 => exact h.elim
section
variable {X:Cx} {pins:List (Addr × Obj)} {σ:St} {H:Hp} {s:Shared} {q:Str} {P:Addr}
theorem make_lam (I:Inv X pins σ H s) (T:TbOk X.K H) (D:LamAt X q P) {args:Arguments} {body:Expr} {scope:Scope} {lpos:Pos} {y:Str} {cy:Addr} (hfr:freeOf scope = [y]) (hcy:X.env.cells.lookup y = some cy) {Q:Value → Shared → Prop} {E:Value → Shared → Prop}
  (h:∀ (f c':Addr) (ctv:Value) (H':Hp) (s':Shared),Inv X pins σ H' s' → s'.heap.get? f = some (PySem.W.kla_obj "<lambda>" (lamQ q) args body scope [(y,cy)] ((X.mg "__name__").getD .none) c' ctv) → H' f = none → f ∉ frs X.stack →
   H' c' = some (.ext (CodeX c' (lamQ q))) → TbOk X.K H' → (∀ b u,H b = some u → (∀ ps,u ≠ .tbl ps) → H' b = some u) → Q (.ref f) s') :
  wpAny (model X.prog X.w) X.A (makeFunction "<lambda>" (X.env.qual ++ "<lambda>") args (.expr body) scope X.env [] [] [] lpos lpos.line) Q E s:=by
 obtain ⟨c,hcode,CH⟩:=D.code
 obtain ⟨ps,hP,htr,hits⟩:=T q P D.mem D.tab
 obtain ⟨bm,ob,b1,b2,b3,b4,b5,b6,b7⟩:=D.bm
 have hPo:s.heap.get? P = some (PySem.W.tabObj ps):=I.hok P _ hP
 have gl:s.heap.Ns mainGlobals X.mg:=I.mod.glob.keeps I.bk
 have CH':PySem.W.CodeHd s.heap c P:=CH.keeps I.bk
 have hgP:mainGlobals ≠ P:=fun z => by
  obtain ⟨o,es,ep,e,hd,_⟩:=gl
  rw [z,hPo] at e; cases e; cases hd
 have hbP:bm ≠ P:=fun z => by
  have e:=I.bk _ _ b4
  rw [z,hPo] at e; cases e; cases b5
 have bAt:s.heap.BuiltinsAt X.mg P:=⟨bm,ob,b1,b2,b3,hbP,I.bk _ _ b4,b5,b6,b7⟩
 have hcl:=closureFor1 (scope:=scope) (env:=X.env) hfr hcy
 have nfr:∀ a,s.heap.objs.size ≤ a → a ∉ frs X.stack:=fun a ha z => by
  rcases List.mem_cons.mp (I.stkSub a z) with e | e
  ·rw [e] at ha; exact absurd (Nat.lt_of_lt_of_le I.lt ha) (Nat.lt_irrefl _)
  ·exact I.nofs ha e
 have hq:X.env.qual ++ "<lambda>" = lamQ q:=by rw [D.qual]; rfl
 rw [hq]
 cases hit:codeAmong lpos ps.toList with
 | some cv =>
  obtain ⟨c',rfl,hc'⟩:=hits lpos cv hit
  refine PySem.W.kla_makeFunctionHit (mg:=X.mg) hcl I.ok.glob gl hcode CH' hPo htr hit bAt fun ctv h' tk hk hsz => ?_
  have k2:∀ b o,s.heap.get? b = some o → (h'.push (PySem.W.kla_obj "<lambda>" (lamQ q) args body scope [(y,cy)] ((X.mg "__name__").getD .none) c' ctv)).get? b = some o:=fun b o e => Heap.get?_push_of_some _ (hk b o e)
  refine h h'.objs.size c' ctv H _ (I.un (Un.kept k2) (I.hok.kept k2)) (Heap.get?_push_size _ rfl) (I.hok.fresh hsz) (nfr _ hsz) hc' T fun b u e _ => e
 | none =>
  refine PySem.W.kla_makeFunction (mg:=X.mg) hcl I.ok.glob gl hcode CH' hPo htr hit hgP bAt fun c' ctv h' tk hx hge hlt hrec htb => ?_
  have hPs:P < s.heap.objs.size:=Heap.lt_size hPo
  have hcP:c' ≠ P:=Nat.ne_of_gt (Nat.lt_of_lt_of_le hPs hge)
  have hnc:H c' = none:=I.hok.fresh hge
  have hfc:h'.objs.size ≠ c':=Nat.ne_of_gt hlt
  have hfP:h'.objs.size ≠ P:=Nat.ne_of_gt (Nat.lt_of_lt_of_le hPs (Nat.le_trans hge (Nat.le_of_lt hlt)))
  have hsf:s.heap.objs.size ≤ h'.objs.size:=Nat.le_trans hge (Nat.le_of_lt hlt)
  let ps':Array Value:=ps ++ #[rawInt lpos.line,rawInt lpos.col,.ref c']
  let H':Hp:=upd (upd H P (.tbl ps')) c' (.ext (CodeX c' (lamQ q)))
  have at1:H' c' = some (.ext (CodeX c' (lamQ q))):=upd_same
  have at2:H' P = some (.tbl ps'):=by show upd _ _ _ P = _; rw [upd_ne (Ne.symm hcP),upd_same]
  have at3:∀ b,b ≠ c' → b ≠ P → H' b = H b:=fun b n1 n2 => by show upd _ _ _ b = _; rw [upd_ne n1,upd_ne n2]
  have keepH:∀ b u,H b = some u → (∀ ps,u ≠ .tbl ps) → H' b = some u:=fun b u e nt => by
   rw [at3 b (ne_of_none e hnc) (fun z => by rw [z,hP] at e; cases e; exact nt _ rfl)]; exact e
  have kp:∀ b o,b ≠ P → s.heap.get? b = some o → (h'.push (PySem.W.kla_obj "<lambda>" (lamQ q) args body scope [(y,cy)] ((X.mg "__name__").getD .none) c' ctv)).get? b = some o:=fun b o n e => Heap.get?_push_of_some _ (hx b o n e)
  have noP:∀ b,H b = none → b ≠ P:=fun b n z => by rw [z,hP] at n; cases n
  have hrec2:CodeX c' (lamQ q) (h'.push (PySem.W.kla_obj "<lambda>" (lamQ q) args body scope [(y,cy)] ((X.mg "__name__").getD .none) c' ctv)):=by
   obtain ⟨c₂,oc,vs,t,e2,hoc,hd,hv⟩:=hrec
   exact ⟨c₂,oc,vs,t,e2,Heap.get?_push_of_some _ hoc,hd,hv⟩
  have hok':HOk X.prog X.w H' (h'.push (PySem.W.kla_obj "<lambda>" (lamQ q) args body scope [(y,cy)] ((X.mg "__name__").getD .none) c' ctv)):=fun a o e => by
   by_cases e1:a = c'
   ·subst e1
    rw [at1] at e
    cases e
    obtain ⟨c₂,oc,vs,t,e2,hoc,hd,hv⟩:=id hrec2
    cases e2
    refine ⟨hrec2,⟨oc,hoc⟩,fun h1 h2 φ k => ?_⟩
    obtain ⟨c₃,o3,vs3,t3,e3,g1,g2,g3⟩:=φ
    cases e3
    exact ⟨_,o3,vs3,t3,rfl,k _ g1,g2,g3⟩
   ·by_cases e2:a = P
    ·subst e2
     rw [at2] at e
     cases e
     exact Heap.get?_push_of_some _ htb
    ·rw [at3 a e1 e2] at e
     refine (I.hok a o e).stay (fun b u hb r => kp b u ?_ r) (fun b r => keepH b _ r (fun _ z => by cases z)) fun b xs r => keepH b _ r (fun _ z => by cases z)
     rcases hb with rfl | hb
     ·exact e2
     ·exact fun z => by rw [z,hP] at hb; cases hb
  have T':TbOk X.K H':=fun q2 P2 hq2 hP2 => by
   obtain ⟨ps2,g1,g2,g3⟩:=T q2 P2 hq2 hP2
   by_cases e:P2 = P
   ·subst e
    have eq:=D.uniq q2 hq2 hP2
    subst eq
    rw [hP] at g1
    cases g1
    refine ⟨ps',at2,by simpa [ps'] using TriplesOk_snoc _ _ (.ref c') ps.toList g2,fun pos cv e => ?_⟩
    have e':codeAmong pos (ps.toList ++ [rawInt lpos.line,rawInt lpos.col,.ref c']) = some cv:=by simpa [ps'] using e
    rcases among_snoc ps.toList g2 e' with z | z
    ·obtain ⟨c2,f1,f2⟩:=g3 pos cv z
     exact ⟨c2,f1,keepH _ _ f2 (fun _ z => by cases z)⟩
    ·exact ⟨c',z,at1⟩
   ·refine ⟨ps2,?_,g2,fun pos cv e => ?_⟩
    ·rw [at3 P2 (ne_of_none g1 hnc) e]; exact g1
    ·obtain ⟨c2,f1,f2⟩:=g3 pos cv e
     exact ⟨c2,f1,keepH _ _ f2 (fun _ z => by cases z)⟩
  have hL:X.env.locals ≠ P:=noP _ I.free
  have I':Inv X pins σ H' { s with heap:=h'.push (PySem.W.kla_obj "<lambda>" (lamQ q) args body scope [(y,cy)] ((X.mg "__name__").getD .none) c' ctv),toks:=tk }:=by
   refine I.step (g':=s.gens) (d':=s.drawn) (ch:=[]) (fun _ z => nomatch z) (fun b o _ _ _ e n => kp b o (noP b n) e) (fun b o _ _ _ e n => ⟨o.slots,kp b o (noP b n) e⟩) (fun b o _ e n => ?_) (fun b o _ e => ?_)
    (fun b xs e => keepH b _ e (fun _ z => by cases z)) (fun b o u e => keepH b _ e (fun _ z => by cases z)) (fun b ps2 e => ?_) (fun m hm => (hm.extBut hx hL).push _) hok' I.bare
   ·rw [at3 b (fun z => by rw [z] at e; exact absurd (Nat.lt_of_lt_of_le (Heap.lt_size e) hge) (Nat.lt_irrefl _)) (noP b n)]; exact n
   ·by_cases z:b = P
    ·exact ⟨_,by rw [z]; exact Heap.get?_push_of_some _ htb⟩
    ·exact ⟨o,kp b o z e⟩
   ·by_cases z:b = P
    ·rw [z,hP] at e
     cases e
     exact ⟨#[rawInt lpos.line,rawInt lpos.col,.ref c'],by rw [z]; exact at2⟩
    ·exact ⟨#[],by rw [at3 b (ne_of_none e hnc) z,e]; simp⟩
  refine h h'.objs.size c' ctv H' _ I' (Heap.get?_push_size _ rfl) ?_ (nfr _ hsf) at1 T' keepH
  rw [at3 _ hfc hfP]
  exact I.hok.fresh hsf
theorem Sim.keepH {K:PySem.W.Frag} {m:Mp} {st:Hs} {H H':Hp} (S:Sim K m st H) (k:∀ b u,H b = some u → (∀ ps,u ≠ .tbl ps) → H' b = some u) (T:TbOk K H'):Ext K m H m H' ∧ Sim K m st H':=by
 have ex:Ext K m H m H':=⟨fun _ _ h => h,fun a xs h => k a _ h (fun _ z => by cases z),fun a φ h => k a _ h (fun _ z => by cases z)⟩
 refine ⟨ex,S.len,fun l a o h1 h2 => ?_,S.inj,T⟩
 have q:=S.obj l a o h1 h2
 cases o with
 | lst ws => obtain ⟨xs,e1,e2⟩:=q; exact ⟨xs,k _ _ e1 (fun _ z => by cases z),RelWs.mono ex _ _ e2⟩
 | dct kvs => obtain ⟨xs,e1,e2⟩:=q; exact ⟨xs,k _ _ e1 (fun _ z => by cases z),e2.mono ex⟩
 | dcT kvs => obtain ⟨xs,e1,e2⟩:=q; exact ⟨xs,k _ _ e1 (fun _ z => by cases z),e2.mono ex⟩
 | scr ns =>
  rcases q with ⟨o',q⟩ | q
  ·exact .inl ⟨o',k _ _ q (fun _ z => by cases z)⟩
  ·exact .inr q
end
end J
namespace J
open PySem PySem.Spec PyProof.Rows L2
noncomputable def anyLm (G:Lm → Re Wv):Re Wv:=open Classical in if h:∃ r,∀ p,G p = r then h.choose else .bad
theorem anyLm_eq {G:Lm → Re Wv} {r:Re Wv} (h:∀ p,G p = r):anyLm G = r:=by
 have e:∃ r,∀ p,G p = r:=⟨r,h⟩
 unfold anyLm
 rw [dif_pos e]
 exact (e.choose_spec ⟨0,0,"",[]⟩).symm.trans (h _)
abbrev FLt:=Lm → LF → List Wv → Hs → Re Wv
noncomputable def gLam (FL:FLt) (iy:Nat) (g gb:GE):GE:=fun ρ st => (g ρ st).bind fun w st1 => match ρ[iy]? with
 | some (some wy) => anyLm fun p => FL p (lamF gb) [w,.fn p [wy]] st1
 | _ => .bad
def BmOk (mg:Str → Option Value) (base:Heap):Prop:=∃ bm ob,mg "__builtins__" = some (.ref bm) ∧ bm ≠ builtinsNs ∧ bm ≠ mainGlobals ∧ base.get? bm = some ob ∧ ob.cls = .type "module" ∧ ob.dict = some builtinsNs ∧ ob.data = .plain
def ModB (K:PySem.W.Frag) (mg:Str → Option Value) (base:Heap):Prop:=Mod K mg base ∧ BmOk mg base
def FnL (P:Program) (w:World) (K:PySem.W.Frag) (mg:Str → Option Value) (k j:Nat) (x:Str) (FL:FLt):Prop :=
 (∃ f,mg x = some (.ref f) ∧ PySem.W.keepIn K (.ref f) = true) ∧ ∀ (base:Heap) (p:Lm) (L:LF),ModB K mg base → HasL P w K mg base (j + 1) p 3 L → Has P w K mg base k x 2 (FL p L)
section
variable {X:Cx}
theorem je_lam {k j:Nat} {x q y x1 x2 x3:Str} {P:Addr} {FL:FLt} {iy:Nat} {p pos lpos q1 q2 q3:Pos} {a1 a2 a3:Option Expr} {e body:Expr} {scope:Scope} {g gb:GE} (hF:FnL X.prog X.w X.K X.mg k j x FL) (hr:Room k X.A) (hg:Gl X x) (hdb:(x == ("__debug__":Str)) = false)
  (he:JE X e g) (D:LamAt X q P) (S:LamSc scope x1 x2 x3 y) (hy:X.N[iy]? = some y) (hyv:X.env.scope.names.lookup y = some .cell ∨ X.env.scope.names.lookup y = some .free) (hfn:X.fn y = true)
  (hb:∀ (base:Heap) (p:Lm) (cy:Addr) (A:Around) (outer:List Env) (s:Shared) (H:Hp) (E:XK),ModB X.K X.mg base → Room j (A.deeper (envL p scope s.heap.objs.size [(y,cy)])) → JE (cxL X.prog X.w X.K X.mg base [x1,x2,x3,y] p scope [(y,cy)] A outer s H E) body gb)
  (hs:∀ r,starEach (e :: r) X.env = (false,eval e X.env) :: starEach r X.env):JE X (.Call (.Name x p) [e,.Lambda (lamArgs x1 x2 x3 a1 a2 a3 q1 q2 q3) body scope lpos] [] pos) (gLam FL iy g gb):=by
 intro ρ st σ H m Q S0 R pq pins s I
 obtain ⟨⟨f,hm,hk⟩,HF⟩:=hF
 unfold gLam at pq
 have first:=he.go (T:=fun v H1 => ∃ w st1 m1,PostE X σ m H (match ρ[iy]? with
  | some (some wy) => anyLm fun p => FL p (lamF gb) [w,.fn p [wy]] st1
  | _ => .bad) Q ∧ Ext X.K m H m1 H1 ∧ Sim X.K m1 st1 H1 ∧ RelW X.K m1 H1 w v) S0 R (PostG.bind pq) fun w st1 v m1 H1 p1 e1 S1 r1 => ⟨w,st1,m1,p1,e1,S1,r1⟩
 refine wpAny_Call_Name_kw (ld_glob I hg hm ?_ hdb)
 refine PySem.W.callWith_K (h₀:=X.base) I.ok.mod.kin hk ?_ (hs _) rfl
 rw [hs]
 show wpAny _ _ (spliced ((false,eval e X.env) :: backTo pos (starEach [.Lambda (lamArgs x1 x2 x3 a1 a2 a3 q1 q2 q3) body scope lpos] X.env))) _ _ s
 refine Calls.spliced_cons (thn (first pins s I) fun u s1 ⟨v,H1,I1,r1,w,st1,m1,p1,e1,S1,rw1⟩ => ?_)
 show wpAny _ _ (spliced ((false,eval (.Lambda (lamArgs x1 x2 x3 a1 a2 a3 q1 q2 q3) body scope lpos) X.env) :: backTo pos (starEach [] X.env))) _ _ s1
 cases er:ρ[iy]? with
 | none => rw [er] at p1; exact False.elim p1
 | some ow =>
  rw [er] at p1
  cases ow with
  | none => exact False.elim p1
  | some wy =>
   dsimp only at p1
   obtain ⟨vy,evy,rvy⟩:=R.get iy wy er
   have vis:Vis X.env.scope y:=.inr hyv
   have hcell:∀ {H':Hp} {s':Shared},Inv X pins σ H' s' → ∃ uy cy,RelV vy uy ∧ X.env.cells.lookup y = some cy ∧ s'.heap.IsCell cy (some uy):=fun {H' s'} I' => by
    obtain ⟨mm,hn,hl⟩:=I'.loc
    obtain ⟨uy,ry,lk⟩:=hl iy y vy hy evy vis
    rcases lk with ⟨hkk,_⟩ | ⟨_,c,hc,hcl⟩
    ·have hkk:X.env.scope.names.lookup y = some .local:=hkk
     rcases hyv with z | z <;> rw [z] at hkk <;> cases hkk
    ·exact ⟨uy,c,ry,hc,hcl⟩
   obtain ⟨_,cy,_,hcy,_⟩:=hcell I1
   refine Calls.spliced_cons (PySem.W.kla_eval rfl (make_lam I1 S1.tab D S.fr hcy fun f2 c' ctv H2 s2 I2 hf2 nf2 nfr hc2 T2 kH => ?_))
   refine Calls.spliced_nil ⟨I2.kIn,?_⟩
   obtain ⟨ex2,S2⟩:=S1.keepH kH T2
   obtain ⟨uy,cy',ryv,hcy',oc,hoc,hocd⟩:=hcell I2
   rw [hcy] at hcy'
   cases hcy'
   have ncy:cy ∉ frs X.stack:=fun z => by
    rcases List.mem_cons.mp (I2.stkSub cy z) with e | e
    ·exact I2.cne y cy hcy e
    ·obtain ⟨_,o,ho,_⟩:=I2.ok.funs.mem e
     exact absurd (Nat.lt_of_lt_of_le (Heap.lt_size ho) (I2.ok.cab y cy hfn hcy)) (Nat.lt_irrefl _)
   let pl:Lm:=⟨f2,c',lamQ q,[vy]⟩
   have mB:ModB X.K X.mg (lamBase X H2 s2):=⟨lb_mod I2,let ⟨bm,ob,b1,b2,b3,b4,b5⟩:=D.bm; ⟨bm,ob,b1,b2,b3,lb_sub I2 _ _ b4,b5⟩⟩
   have HL:HasL X.prog X.w X.K X.mg (lamBase X H2 s2) (j + 1) pl 3 (lamF gb):=fn_lam (p:=pl) (vy:=vy) S rfl (lb_get hf2 nf2 nfr) (lb_get hoc (I2.freeC y cy hcy) ncy) hocd ryv fun A outer s H E hr => hb _ pl cy A outer s H E mB hr
   obtain ⟨f',fd,ps,G,hm',hk',hbn⟩:=HF _ pl (lamF gb) mB HL
   rw [hm] at hm'
   cases hm'
   have p2:PostE X σ m H (FL pl (lamF gb) [w,.fn pl [wy]] st1) Q:=by
    unfold anyLm at p1
    by_cases ee:∃ r,∀ p,FL p (lamF gb) [w,.fn p [wy]] st1 = r
    ·rw [dif_pos ee] at p1
     rw [ee.choose_spec pl]
     exact p1
    ·rw [dif_neg ee] at p1; exact False.elim p1
   let E:XK:=fun cl _ H3 => ∃ c' st2 m2 C,cl = .ref C ∧ ClsAt X.K c' C ∧ FL pl (lamF gb) [w,.fn pl [wy]] st1 = .err c' st2 ∧ Ext X.K m1 H2 m2 H3 ∧ Sim X.K m2 st2 H3
   have sp:spW X.K 2 (FL pl (lamF gb)) [v,.ref f2] H2 Q E:=by
    refine ⟨m1,st1,[w,.fn pl [wy]],S2,RelWs.cons (RelW.mono ex2 _ _ rw1) (RelWs.cons ?_ RelWs.nil),rfl,?_⟩
    ·unfold RelW
     exact ⟨rfl,hc2,RelWs.cons (RelW.mono (e1.trans ex2) _ _ rvy) RelWs.nil⟩
    ·cases er:FL pl (lamF gb) [w,.fn pl [wy]] st1 with
     | ok w st2 => rw [er] at p2; exact PostE.shift (r:=.ok w st2) p2 (e1.trans ex2)
     | err c' st2 => exact fun m2 H2 C e2 S2 hC => ⟨c',st2,m2,C,rfl,hC,er,e2,S2⟩
     | bad => rw [er] at p2; exact False.elim p2
   have rv:Vals [v,.ref f2] [u,.ref f2]:=.cons r1 (.cons rfl .nil)
   have hl:[u,Value.ref f2].length = ps.length:=by rw [← rv.length]; exact G.len _ _ _ _ sp
   have bd:=hbn s2 [u,.ref f2] I2.kIn (by rw [List.append_nil]; exact hl)
   rw [List.append_nil] at bd
   refine wpAny_call (codeAny_mono (G.run X.A X.stack s2 H2 ⟨[u,.ref f2],[]⟩ [u,.ref f2] [v,.ref f2] Q E hr (lb_env0 I2) bd rv sp) fun rr s3 hq => ?_)
   cases rr with
   | error z =>
    obtain ⟨H3,C,fl,c',st2,m2,C',ec,hC,er,e2,S3⟩:=hq
    cases ec
    rw [er] at p2
    exact p2 m2 H3 z s3 ((e1.trans ex2).trans e2) S3 ⟨C,pins,H2,s2,hC,I2,.inl fl.any⟩
   | ok fw =>
    cases fw with
    | ret u => exact I2.after hq
    | next => exact False.elim hq
    | brk => exact False.elim hq
    | cont => exact False.elim hq
end
end J
namespace J
open PySem PySem.Spec PyProof.Rows L2
section
variable {P:Program} {w:World} {A:Around} {E:Value → Shared → Prop} {s:Shared}
end
end J
namespace J
open PySem PySem.Spec PyProof.Rows L2
abbrev zA (h:Heap) (t1:Addr):Heap:=h.push { cls:=.type "tuple_iterator",data:=.fields #[.ref t1,.int 0 0] }
abbrev zB (h:Heap) (t1 t2:Addr):Heap:=zA (zA h t1) t2
abbrev zC (h:Heap) (t1 t2 t3:Addr):Heap:=zA (zB h t1 t2) t3
abbrev zD (h:Heap) (t1 t2 t3:Addr):Heap:=(zC h t1 t2 t3).push { cls:=.type "tuple",data:=.seq #[.ref h.objs.size,.ref (zA h t1).objs.size,.ref (zB h t1 t2).objs.size] }
section
variable {P:Program} {w:World} {A:Around} {E:Value → Shared → Prop} {s:Shared}
end
section
variable {P:Program} {w:World} {A:Around} {E:Value → Shared → Prop} {s:Shared}
end
end J
namespace J
open PySem PySem.Spec PyProof.Rows L2
section
variable {X:Cx}
end
end J
namespace J
open PySem PySem.Spec PyProof.Rows L2
def CRs (a b c:Int):Prop:=0 ≤ a ∧ a < 2 ^ 30 ∧ 0 ≤ b ∧ b < 2 ^ 30 ∧ 1 ≤ c ∧ c < 2 ^ 30
noncomputable instance {a b c}:Decidable (CRs a b c):=Classical.propDecidable _
section
variable {X:Cx} {tg:Expr}
end
end J
namespace J
open PySem PySem.Spec PyProof.Rows L2
def gTryN (cat:PySem.Str → Option Bool) (gb gs:GS):GS:=fun ρ st => match gb ρ st with
 | .err c ρ' st' => (match cat c with
  | some true => (match gs ρ' st' with
   | .nx ρ2 st2 => .nx ρ2 st2
   | .rt w st2 => .rt w st2
   | _ => .bad)
  | _ => .bad)
 | r => r
section
variable {X:Cx}
theorem js_tryN {x:Str} {D:Addr} {body suite:List Stmt} {b₀:Stmt} {gb gs:GS} {np hp pos:Pos} {tb:Tab} {tt:TabT} {tc:Tab} (K0:Stk X) (hc:X.calm = true) (O:TabOk X.K tb tt tc)
  (hg:Gl X x) (hm:X.mg x = some (.ref D)) (hD:ClsAt X.K x D) (hd:(x == ("__debug__":Str)) = false)
  (hb:∀ (pn:List (Addr × Obj)) (E:Value → Shared → Prop),JSs (reX X X.A true pn E) body gb) (hs:∀ (e:Value) (pn:List (Addr × Obj)) (E:Value → Shared → Prop),JSs (reX X (X.A.mark (some e)) false pn E) (b₀ :: suite) gs) :
  JS X (.Try body [.ExceptHandler (some (.Name x np)) none (b₀ :: suite) hp] [] [] pos) (gTryN (fun c => tc.lookup (c,x)) gb gs):=by
 intro ρ st σ H m D' S R p pins s I
 refine wpAny_Try_except ?_
 let hx':Value → Shared → Prop:=fun e s1 => wpAny (model X.prog X.w) X.A (noteFrame e X.env) (fun _ s2 => wpAny (model X.prog X.w) X.A (setFlight e none) (fun _ s3 =>
  wpAny (model X.prog X.w) X.A (handleBy e X.env [.ExceptHandler (some (.Name x np)) none (b₀ :: suite) hp]) (SP X pins D') X.xe s3) X.xe s2) X.xe s1
 have hA:X.A.handled = none:=I.ok.hd hc
 have Ib:Inv (reX X X.A true (X.pn ++ pins) hx') [] σ H s:=inv_re I rfl fun _ => hA
 have post:PostS (reX X X.A true (X.pn ++ pins) hx') m H (gb ρ st) D':=by
  unfold gTryN at p
  cases eb:gb ρ st with
  | nx ρ1 st1 => rw [eb] at p; exact p
  | rt w1 st1 => rw [eb] at p; exact p
  | bk ρ1 st1 => rw [eb] at p; exact p
  | ct ρ1 st1 => rw [eb] at p; exact p
  | bad => rw [eb] at p; exact p
  | err c ρ1 st1 =>
   rw [eb] at p
   dsimp only at p
   cases ec:tc.lookup (c,x) with
   | none => rw [ec] at p; exact False.elim p
   | some bc =>
    cases bc with
    | false => rw [ec] at p; exact False.elim p
    | true =>
     rw [ec] at p
     dsimp only at p
     intro σ1 m1 H1 e s1 e1 S1 R1 rz
     obtain ⟨C,pins',Hc,sc,hC,Ic,rz⟩:=rz
     obtain ⟨zC,zD,hmro⟩:=O.cat c x true C D ec hC hD
     refine land K0 (inv_er I.ok Ic) (rz.imp FlownA.er id) fun a a0 B h5 ea fl5 inv hn => ?_
     subst ea
     have I5:Inv X pins σ1 (upd H1 a (.ext (ExnAt a C))) { s1 with heap:=h5 }:=inv h5 s1.toks fl5 (Heap.UpToSlots.refl _)
     obtain ⟨o5,ho5,hc5,_⟩:=(I5.hok a _ upd_same).1
     have Im:Inv (reX X (X.A.mark (some (.ref a))) false (X.pn ++ pins) fun _ _ => False) [] σ1 (upd H1 a (.ext (ExnAt a C))) { s1 with heap:=h5 }:=inv_re I5 rfl (fun z => by cases z)
     refine wpAny_handleBy_cons (codeAny_handlers_test (ld_glob Im hg hm ?_ hd)) (by intro q; cases q)
     refine catch_own (b:=true) Im.kIn zC zD hmro ho5 hc5 ?_
     refine codeAny_handlers_suite ?_
     refine lands_againW fl5 fun h6 fl6 up6 => ?_
     have I6:=inv h6 s1.toks fl6 up6
     have e6:Ext X.K m1 H1 m1 (upd H1 a (.ext (ExnAt a C))):=Ext.upd (.inl hn)
     have S6:Sim X.K m1 st1 (upd H1 a (.ext (ExnAt a C))):=S1.fresh hn
     have I7':Inv (reX X (X.A.mark (some (.ref a))) false (X.pn ++ pins) fun _ _ => False) [] σ1 (upd H1 a (.ext (ExnAt a C))) { s1 with heap:=h6 }:=inv_re I6 rfl (fun z => by cases z)
     cases es:gs ρ1 st1 with
     | nx ρ2 st2 =>
      rw [es] at p
      let D2:Ends:={ nx:=D'.nx,rt:=fun _ _ => False,bk:=fun _ _ => False,ct:=fun _ _ => False }
      have go:=hs (.ref a) (X.pn ++ pins) (fun _ _ => False) ρ1 st1 σ1 _ m1 D2 S6 (R1.mono e6) (by
       rw [es]
       exact fun σ' m' H' e' S' R' => p σ' m' H' (e1.trans (e6.trans e')) S' R') [] _ I7'
      refine wpAny_mono go (fun f s8 h8 => ?_) fun _ _ z => z.elim
      cases f with
      | next =>
       obtain ⟨σ8,H8,I8,q8⟩:=h8
       exact ⟨_,H8,inv_er I.ok I8,q8⟩
      | brk => obtain ⟨_,_,_,q8⟩:=h8; exact q8.elim
      | cont => obtain ⟨_,_,_,q8⟩:=h8; exact q8.elim
      | ret u => obtain ⟨_,_,_,_,_,q8⟩:=h8; exact q8.elim
     | rt w2 st2 =>
      rw [es] at p
      let D2:Ends:={ nx:=fun _ _ => False,rt:=D'.rt,bk:=fun _ _ => False,ct:=fun _ _ => False }
      have go:=hs (.ref a) (X.pn ++ pins) (fun _ _ => False) ρ1 st1 σ1 _ m1 D2 S6 (R1.mono e6) (by
       rw [es]
       exact fun v' m' H' e' S' R' => p v' m' H' (e1.trans (e6.trans e')) S' R') [] _ I7'
      refine wpAny_mono go (fun f s8 h8 => ?_) fun _ _ z => z.elim
      cases f with
      | next => obtain ⟨_,_,_,q8⟩:=h8; exact q8.elim
      | brk => obtain ⟨_,_,_,q8⟩:=h8; exact q8.elim
      | cont => obtain ⟨_,_,_,q8⟩:=h8; exact q8.elim
      | ret u =>
       obtain ⟨v8,σ8,H8,I8,r8,q8⟩:=h8
       exact ⟨v8,_,H8,inv_er I.ok I8,r8,q8⟩
     | bk ρ2 st2 => rw [es] at p; exact False.elim p
     | ct ρ2 st2 => rw [es] at p; exact False.elim p
     | err c2 ρ2 st2 => rw [es] at p; exact False.elim p
     | bad => rw [es] at p; exact False.elim p
 refine wpAny_mono (hb (X.pn ++ pins) hx' ρ st σ H m D' S R post [] s Ib) (fun f s1 h1 => ?_) fun e s1 h1 => h1
 have h2:=sp_er I.ok h1
 cases f with
 | next => exact wpAny_execs_nil h2
 | brk => exact h2
 | cont => exact h2
 | ret u => exact h2
end
end J
namespace J
open PySem PySem.Spec PyProof.Rows L2
def whl (gt:GT) (gb:GS):Nat → Rho → Hs → Rs
 | 0,_,_ => .bad
 | n + 1,ρ,st => (gt ρ st).thn ρ fun b st1 => if b = true then (match gb ρ st1 with
   | .nx ρ' st' => whl gt gb n ρ' st'
   | .ct ρ' st' => whl gt gb n ρ' st'
   | .bk ρ' st' => .nx ρ' st'
   | .rt w st' => .rt w st'
   | .err c ρ' st' => .err c ρ' st'
   | .bad => .bad) else .nx ρ st1
def gWhile (n:Nat) (gt:GT) (gb:GS):GS:=fun ρ st => whl gt gb n ρ st
section
variable {X:Cx}
theorem js_while (n:Nat) {c:Expr} {body:List Stmt} {gt:GT} {gb:GS} {pos:Pos} (hp:PassesOwn (model X.prog X.w) X.A X.env X.xe) (hc:JT X c gt) (hb:JSs X body gb):JS X (.While c body [] pos) (gWhile n gt gb):=by
 refine JS.of (ps_while hp pt_ST pss_SSs) fun ρ st σ H m D S R p => ?_
 refine ⟨fun k σ' H' => ∃ ρ' st' m',Ext X.K m H m' H' ∧ Sim X.K m' st' H' ∧ RelEnv X.K m' H' ρ' σ' ∧ PostS X m' H' (whl gt gb k ρ' st') D,⟨n,ρ,st,m,Ext.refl,S,R,p⟩,?_⟩
 rintro k σ1 H1 ⟨ρ1,st1,m1,e1,S1,R1,p1⟩
 cases k with
 | zero => exact False.elim p1
 | succ k =>
  refine hc.go S1 R1 (PostS.of_thn R1 p1) fun b st2 m2 H2 p2 e2 S2 => ?_
  cases b with
  | false =>
   rw [if_neg Bool.false_ne_true] at p2 ⊢
   exact p2 σ1 m2 H2 e2 S2 (R1.mono e2)
  | true =>
   rw [if_pos rfl] at p2 ⊢
   refine ⟨fun σ' H' => ∃ ρ' st' m',Ext X.K m H m' H' ∧ Sim X.K m' st' H' ∧ RelEnv X.K m' H' ρ' σ' ∧ PostS X m' H' (whl gt gb k ρ' st') D,fun σ' H' q => ⟨k,Nat.lt_succ_self k,q⟩,?_⟩
   refine hb ρ1 st2 σ1 H2 m2 _ S2 (R1.mono e2) ?_
   have e12:=e1.trans e2
   cases eg:gb ρ1 st2 with
   | nx ρ3 st3 => rw [eg] at p2; exact fun σ3 m3 H3 e3 S3 R3 => ⟨ρ3,st3,m3,e12.trans e3,S3,R3,PostS.shift p2 (e2.trans e3)⟩
   | ct ρ3 st3 => rw [eg] at p2; exact fun σ3 m3 H3 e3 S3 R3 => ⟨ρ3,st3,m3,e12.trans e3,S3,R3,PostS.shift p2 (e2.trans e3)⟩
   | bk ρ3 st3 => rw [eg] at p2; exact fun σ3 m3 H3 e3 S3 R3 => p2 σ3 m3 H3 (e2.trans e3) S3 R3
   | rt w3 st3 => rw [eg] at p2; exact PostS.shift (r:=.rt w3 st3) p2 e2
   | err c3 ρ3 st3 => rw [eg] at p2; exact fun σ' m' H' x s' e' => p2 σ' m' H' x s' (e2.trans e')
   | bad => rw [eg] at p2; exact p2
def augO:Operator → Option (Int → Int → Int)
 | .Add => some fun i j => i + j
 | .Sub => some fun i j => i - j
 | _ => none
def kAug (f:Int → Int → Int) (i:Nat) (x y:Wv) (ρ:Rho) (st:Hs):Rs:=match x,y with
 | .int a,.int b => .nx (ρ.set i (some (.int (f a b)))) st
 | _,_ => .bad
def gAug (f:Int → Int → Int) (i:Nat) (g:GE):GS:=fun ρ st => match ρ[i]? with
 | some (some x) => (g ρ st).thn ρ fun y st' => kAug f i x y ρ st'
 | _ => .bad
theorem js_aug {op:Operator} {f:Int → Int → Int} (i:Nat) {x:Str} {e:Expr} {g:GE} {pos pos':Pos} (ho:augO op = some f) (hN:X.N.Nodup) (h:JE X e g) (hi:X.N[i]? = some x) (hx:Loc X.env.scope x)
  (hf:X.fn x = true ∨ X.env.scope.names.lookup x = some .local):JS X (.AugAssign (.Name x pos') op e pos) (gAug f i g):=by
 have hip:PIp X op (ipI f):=by
  cases op <;> first | (cases ho; exact ip_add) | (cases ho; exact ip_sub) | cases ho
 refine JS.of (ps_aug hN hi hx pe_SE hip hf) fun ρ st σ H m D S R p => ?_
 unfold gAug at p
 cases q:ρ[i]? with
 | none => rw [q] at p; exact False.elim p
 | some o =>
  cases o with
  | none => rw [q] at p; exact False.elim p
  | some w =>
   rw [q] at p
   obtain ⟨v,h1,h2⟩:=R.get _ _ q
   refine ⟨v,h1,?_⟩
   refine h.go S R (PostS.of_thn R p) fun y st1 u m1 H1 p1 e1 S1 r1 => ?_
   have h2':=RelW.mono e1 _ _ h2
   cases w with
   | int a =>
    cases y with
    | int b =>
     cases relInt h2'
     cases relInt r1
     exact ⟨a,b,rfl,rfl,p1 _ m1 H1 e1 S1 ((R.mono e1).set i mkInt)⟩
    | _ => exact False.elim p1
   | _ => exact False.elim p1
def oOrd:List Wv → Hs → Re Wv
 | [.str x],st => if x.length = 1 then .ok (.int (x.cps.getD 0 0:Nat)) st else .bad
 | _,_ => .bad
theorem boot_ordJ:bootBuiltins "ord" = some (.builtin "ord"):=by decide +kernel
theorem cw_ord:CallW X (.builtin "ord") oOrd:=⟨_,call_ord,fun ws vs st H m Q S r p => by
 match ws,r,p with
 | [],r,p => exact False.elim p
 | x :: y :: t,r,p => cases x <;> exact False.elim p
 | [x],r,p =>
  obtain ⟨v,rfl,rx⟩:=rel1 r
  cases x with
  | str z =>
   have p':PostO X.K m H (if z.length = 1 then .ok (.int (z.cps.getD 0 0:Nat)) st else .bad) Q:=p
   by_cases c:z.length = 1
   ·rw [if_pos c] at p'
    obtain ⟨rfl,_⟩:=relStr rx
    exact ⟨z,rfl,c,p' _ m H Ext.refl S mkInt⟩
   ·rw [if_neg c] at p'; exact False.elim p'
  | _ => exact False.elim p⟩
end
end J
namespace J
open PySem PySem.Spec PyProof.Rows L2
theorem ext_tup (l:Addr) (items:Array Value) (n:Nat) (b:Addr) (items2:Array Value) (n2:Nat) (dd:Option Addr) (sl:Array (Option Value)) (hs0:¬(!items.isEmpty && Builtin.List.listTooLong (items.size + items2.size)) = true) (hs1:items.size ≤ sizeLine) (hs2:items.size + items2.size ≤ sizeLine + 1) :
  Meets (Builtin.«list.extend» ⟨[.ref l,.ref b],[]⟩) (fun _ R s => s.heap.get? l = some { cls:=.type "list",dict:=none,data:=.seq items n,slots:=#[] } ∧ s.heap.get? b = some ⟨.type "tuple",dd,.seq items2 n2,sl⟩ ∧ R (.ok (.ret Value.none)) { s with heap:=s.heap.update l (Obj.mapSeq fun x => x ++ items2),toks:=s.toks }) :=
 .of_wp fun prog w A R s h => by
  obtain ⟨hp,g,d,tk,os⟩:=s; obtain ⟨hl,hb,h⟩:=h; have f1:=AutoSeq1.idx_int; have f2:=AutoSeq1.sub_tuple_tuple; have f3:=AutoSeq1.sub_list_list; have f4:=AutoSeq1.sub_tuple_list; have f5:=AutoSeq1.sub_list_tuple;
  have hz':(items ++ items2).size ≤ sizeLine + 1:=by rw [Array.size_append]; exact hs2
  wp_walk using (wpAny_updateSeq hl rfl (hz:=hs1) (_hz':=hz')),wpAny_loadPart' hl,wpAny_loadPart' hb; exact ⟨_,rfl,h⟩
def rExtendT (K:PySem.W.Frag):V → List V → Hp → VK → Prop:=fun x vs H Q => ∃ l b xs zs,x = .ref l ∧ vs = [.ref b] ∧ H l = some (.lst xs) ∧ SqT K H b zs ∧ xs.length + zs.length ≤ sizeLine ∧ Q .non (upd H l (.lst (xs ++ zs)))
section
variable {X:Cx}
theorem mt_extendT:MtM X "list.extend" (rExtendT X.K):=by
 intro pins s σ H x vs v us Q I rx rv h
 obtain ⟨l,b,xs,zs,rfl,rfl,hH,hB,hz,q⟩:=h
 cases rx
 obtain ⟨u,rfl,ru⟩:=rv.one
 cases ru
 obtain ⟨z,its,n,r,hl,e⟩:=I.lstM hH
 obtain ⟨its2,r2,⟨o,e2,oc,n2,od⟩,z2⟩:=I.tuple hB
 obtain ⟨oc',dd,od',sl⟩:=o
 dsimp only at oc od
 subst oc od
 have l1:xs.length = its.length:=r.length
 have l2:zs.length = its2.length:=r2.length
 have hsz:its.toArray.size + its2.toArray.size ≤ sizeLine:=by rw [List.size_toArray,List.size_toArray]; omega
 have hlong:¬ (!its.toArray.isEmpty && Builtin.List.listTooLong (its.toArray.size + its2.toArray.size)) = true:=by
  rw [notLongL hsz,Bool.and_false]
  exact Bool.false_ne_true
 refine call_meets F.slot_list_extend ⟨_,e,rfl⟩ F.entry_list_extend (F.args_list_extend_2 _ _)
  (ext_tup l its.toArray n b its2.toArray n2 dd sl hlong (by rw [List.size_toArray]; omega) (by omega)) ⟨e,e2,?_⟩
 refine ⟨.non,_,I.lset (its':=its ++ its2) hH e (by simp) (r.append r2) ?_,rfl,q⟩
 rw [List.length_append]
 omega
def mExtT (o v:Wv) (st:Hs):Re Wv:=match v with
 | .tup zs => (match o with
  | .ref l => (match st[l]? with
   | some (.lst ws) => if ws.length + zs.length ≤ lim then .ok .non (st.set l (.lst (ws ++ zs))) else .bad
   | _ => .bad)
  | _ => .bad)
 | v => mExt o v st
theorem mw_extT:MtW X "list.extend" mExtT:=by
 obtain ⟨r0,m0,h0⟩:=mw_ext (X:=X)
 refine ⟨fun x vs H Q => r0 x vs H Q ∨ rExtendT X.K x vs H Q,?_,fun o w x v st H m Q S ro rw' p => ?_⟩
 ·intro pins s σ H x vs v us Q I rx rv h
  rcases h with h | h
  ·exact m0 pins s σ H x vs v us Q I rx rv h
  ·exact mt_extendT pins s σ H x vs v us Q I rx rv h
 ·cases w with
  | tup zs =>
   refine .inr ?_
   cases o with
   | ref l =>
    unfold RelW at ro rw'
    obtain ⟨a,rfl,ha⟩:=ro
    obtain ⟨b,ys,rfl,hb,g2⟩:=rw'
    have p':PostO X.K m H (match st[l]? with | some (.lst ws) => if ws.length + zs.length ≤ lim then .ok .non (st.set l (.lst (ws ++ zs))) else .bad | _ => .bad) Q:=p
    cases e:st[l]? with
    | none => rw [e] at p'; exact False.elim p'
    | some ob =>
     cases ob with
     | dct kvs => rw [e] at p'; exact False.elim p'
     | dcT kvs => rw [e] at p'; exact False.elim p'
     | scr ns => rw [e] at p'; exact False.elim p'
     | lst ws =>
      rw [e] at p'
      dsimp only at p'
      by_cases c:ws.length + zs.length ≤ lim
      ·rw [if_pos c] at p'
       obtain ⟨xs,h1,h2⟩:=S.lstAt ha e
       have e4:Ext X.K m H m (upd H a (.lst (xs ++ ys))):=Ext.upd (.inr ⟨xs,h1⟩)
       exact ⟨a,b,xs,ys,rfl,rfl,h1,SqT.of hb,by rw [← h2.length,← g2.length]; exact lim_le c,p' _ m _ e4 (S.write ha e (h2.append g2)) mkNon⟩
      ·rw [if_neg c] at p'; exact False.elim p'
   | _ => exact False.elim p
  | _ => exact .inl (h0 o _ x v st H m Q S ro rw' p)
end
def oInD (neg:Bool):Op2:=fun x y st => match datum st 20 y,datum st 20 x with
 | some (.list ds),some d => .ok (.bl ((ds.any fun z => PyData.eqv z d) != neg)) st
 | some (.tuple ds),some d => .ok (.bl ((ds.any fun z => PyData.eqv z d) != neg)) st
 | _,_ => .bad
section
variable {X:Cx}
def rInD (K:PySem.W.Frag) (neg:Bool):R2:=fun a b H Q => ∃ m st x y d ds c,Sim K m st H ∧ RelW K m H x a ∧ RelW K m H y b ∧ datum st 20 y = some c ∧ (c = .list ds ∨ c = .tuple ds) ∧ datum st 20 x = some d ∧ Q (.bl ((ds.any fun z => PyData.eqv z d) != neg)) H
theorem dep_all {ds:List PyData} {c:PyData} (h:c = .list ds ∨ c = .tuple ds) (k:c.canLay0 = true):PyData.canLayAll0 ds = true:=by
 rcases h with rfl | rfl <;> exact k
theorem op_inD (hu:X.A.units + 64 < cLine):OpR X (compareOp .In) (rInD X.K false):=by
 intro pins s σ H a b v u Q I rx ry h
 obtain ⟨m,st,x,y,d,ds,c,S,h1,h2,e1,hc,e2,q⟩:=h
 obtain ⟨as,q1,q2,q3⟩:=datum_ok I S 20 x a v d h1 rx e2
 obtain ⟨bs,p1,p2,p3⟩:=datum_ok I S 20 y b u c h2 ry e1
 have hd:X.A.units + 1 + min (PyData.depthAll ds) d.depth < cLine:=by
  have:=Nat.min_le_right (PyData.depthAll ds) d.depth
  omega
 have e:∀ t:Bool,(t != false) = t:=by decide
 rw [e] at q
 have ca:=dep_all hc p2
 rcases hc with rfl | rfl
 ·exact SeqAt.in_list_reads p1 q1 ca q2 hd ⟨.bl _,H,I,rfl,q⟩
 ·exact SeqAt.in_tuple_reads p1 q1 ca q2 hd ⟨.bl _,H,I,rfl,q⟩
theorem op_notInD (hu:X.A.units + 64 < cLine):OpR X (compareOp .NotIn) (rInD X.K true):=by
 intro pins s σ H a b v u Q I rx ry h
 obtain ⟨m,st,x,y,d,ds,c,S,h1,h2,e1,hc,e2,q⟩:=h
 obtain ⟨as,q1,q2,q3⟩:=datum_ok I S 20 x a v d h1 rx e2
 obtain ⟨bs,p1,p2,p3⟩:=datum_ok I S 20 y b u c h2 ry e1
 have hd:X.A.units + 1 + min (PyData.depthAll ds) d.depth < cLine:=by
  have:=Nat.min_le_right (PyData.depthAll ds) d.depth
  omega
 have e:∀ t:Bool,(t != true) = !t:=by decide
 rw [e] at q
 have ca:=dep_all hc p2
 rcases hc with rfl | rfl
 ·exact SeqAt.notIn_list_reads p1 q1 ca q2 hd ⟨.bl _,H,I,rfl,q⟩
 ·exact SeqAt.notIn_tuple_reads p1 q1 ca q2 hd ⟨.bl _,H,I,rfl,q⟩
theorem inD_of {neg:Bool} {x y:Wv} {a b:V} {st:Hs} {H:Hp} {m:Mp} {Q:VK} (S:Sim X.K m st H) (rx:RelW X.K m H x a) (ry:RelW X.K m H y b) (p:PostO X.K m H (oInD neg x y st) Q):rInD X.K neg a b H Q:=by
 unfold oInD at p
 split at p
 ·rename_i ds d e1 e2
  exact ⟨m,st,x,y,d,ds,_,S,rx,ry,e1,.inl rfl,e2,p _ m H Ext.refl S mkBl⟩
 ·rename_i ds d e1 e2
  exact ⟨m,st,x,y,d,ds,_,S,rx,ry,e1,.inr rfl,e2,p _ m H Ext.refl S mkBl⟩
 ·exact False.elim p
theorem ow_inD (hu:X.A.units + 64 < cLine):OpW X (compareOp .In) (oInD false):=⟨_,op_inD hu,fun x y a b st H m Q S rx ry p => inD_of S rx ry p⟩
theorem ow_notInD (hu:X.A.units + 64 < cLine):OpW X (compareOp .NotIn) (oInD true):=⟨_,op_notInD hu,fun x y a b st H m Q S rx ry p => inD_of S rx ry p⟩
end
end J
namespace J
open PySem PySem.Spec PyProof.Rows L2
structure Ct where
 N:List Str
 names:List (Str × NameKind)
 consts:List (Str × Wv)
 bl:List Str
 fns:List (Str × Nat × (List Wv → Hs → Re Wv))
 tb:Tab:=[]
 tt:TabT:=[]
 clss:List Str:=[]
 cln:List Str:=[]
 tc:Tab:=[]
 dcs:List (Str × Dc):=[]
 dts:List Str:=[]
 dks:List Str:=[]
 dis:List Str:=[]
 fnu:List Str:=[]
 loop:Bool:=true
 free:Bool:=true
 top:Bool:=true
 lam:Option (Lm × LF):=none
 fnL:List (Str × FLt):=[]
 lfn:List Str:=[]
 lj:Nat:=0
 self:Str:=""
def ixOf (x:Str):List Str → Option Nat
 | [] => none
 | y :: r => if x = y then some 0 else match ixOf x r with
  | some i => some (i + 1)
  | none => none
theorem ixOf_get {x:Str}:∀ {N:List Str} {i:Nat},ixOf x N = some i → N[i]? = some x
 | [],i,h => by cases h
 | y :: r,i,h => by
  unfold ixOf at h
  by_cases e:x = y
  ·rw [if_pos e] at h; cases h; subst e; rfl
  ·rw [if_neg e] at h
   cases q:ixOf x r with
   | none => rw [q] at h; cases h
   | some j => rw [q] at h; cases h; simpa using ixOf_get q
def okN (x:Str):Bool:=!(x == ("__debug__":Str)) && !(x == ("__classdict__":Str)) && !(decide (x = "__name__"))
theorem okN_d {x:Str} (h:okN x = true):(x == ("__debug__":Str)) = false:=by unfold okN at h; revert h; cases (x == ("__debug__":Str)) <;> simp
theorem okN_c {x:Str} (h:okN x = true):(x == ("__classdict__":Str)) = false:=by unfold okN at h; revert h; cases (x == ("__classdict__":Str)) <;> simp
theorem okN_n {x:Str} (h:okN x = true):x ≠ "__name__":=by
 intro e
 subst e
 unfold okN at h
 simp at h
def FlatL:List Wv → List V → Prop
 | [],[] => True
 | .int i :: r,.int j :: t => i = j ∧ FlatL r t
 | .str x :: r,.str y :: t => (x = y ∧ PyData.strOk x = true) ∧ FlatL r t
 | _,_ => False
theorem FlatL.rel {K:PySem.W.Frag} {m:Mp} {H:Hp}:∀ {ws:List Wv} {vs:List V},FlatL ws vs → RelWs K m H ws vs
 | [],[],_ => RelWs.nil
 | .int i :: r,.int j :: t,h => by
  obtain ⟨rfl,h⟩:=h
  exact RelWs.cons (by unfold RelW; rfl) h.rel
 | .str x :: r,.str y :: t,h => by
  obtain ⟨⟨rfl,hx⟩,h⟩:=h
  exact RelWs.cons (by unfold RelW; exact ⟨rfl,hx⟩) h.rel
 | [],_ :: _,h => False.elim h
 | .int i :: r,[],h => False.elim h
 | .str i :: r,[],h => False.elim h
 | .int i :: r,.str _ :: _,h => False.elim h
 | .str i :: r,.int _ :: _,h => False.elim h
def CstOk (K:PySem.W.Frag) (mg:Str → Option Value) (x:Str):Wv → Prop
 | .int i => ∃ t,mg x = some (.int i t)
 | .str y => (∃ t,mg x = some (.str y t)) ∧ PyData.strOk y = true
 | .ktp ws => ∃ (a:Addr) (vs:List V) (o:Obj) (its:Array Value) (n:Nat),mg x = some (.ref a) ∧ K.lookup a = some o ∧ o.cls = .type "tuple" ∧ o.data = .seq its n ∧ its.size ≤ sizeLine ∧ Vals vs its.toList ∧ FlatL ws vs
 | _ => False
structure GoodX (c:Ct) (k:Nat) (X:Cx):Prop where
 lam:∀ p L,c.lam = some (p,L) → HasL X.prog X.w X.K X.mg X.base k p 3 L
 fnL:∀ x F,c.fnL.lookup x = some F → FnL X.prog X.w X.K X.mg k c.lj x F
 fnJ:∀ x n F,c.fns.lookup x = some (n,F) → c.lfn.contains x = true → ∀ base,ModB X.K X.mg base → Has X.prog X.w X.K X.mg base c.lj x n F
 at':c.top = true → c.self ∈ lamDefs → ∃ P,LamAt X c.self P
structure Good (c:Ct) (k:Nat) (X:Cx):Prop where
 N:X.N = c.N
 sc:X.env.scope.names = c.names
 nd:c.N.Nodup
 un:X.A.units + 64 < cLine
 free:c.free = true → Room k X.A ∧ X.calm = true
 loop:c.loop = true → X.calm = true ∧ PassesOwn (model X.prog X.w) X.A X.env X.xe
 cst:∀ x w,c.consts.lookup x = some w → CstOk X.K X.mg x w
 bl:∀ x,c.bl.contains x = true → X.mg x = none
 fns:∀ x n F,c.fns.lookup x = some (n,F) → Has X.prog X.w X.K X.mg X.base k x n F
 stk:c.top = true → Stk X
 fn:c.top = true → ∀ x,X.fn x = true
 kind:X.env.scope.kind = .function
 tab:TabOk X.K c.tb c.tt c.tc
 cls:∀ x,c.clss.contains x = true → ∃ C,X.mg x = some (.ref C) ∧ ExcC X.K x C
 cln:∀ x,c.cln.contains x = true → ∃ C,X.mg x = some (.ref C) ∧ ClsAt X.K x C
 dcs:∀ x kvs,c.dcs.lookup x = some kvs → DcAt X.K X.w X.mg x kvs
 rm:RoomU k X.A
 fnu:∀ x n F,c.fnu.contains x = true → c.fns.lookup x = some (n,F) → HasU X.prog X.w X.K X.mg X.base k x n F
 x:GoodX c k X
 fr:FrOk X
theorem room_un {k:Nat} {A:Around} (hr:Room k A):A.units + 64 < cLine:=by have:=hr.un; omega
def Ct.inTry (c:Ct):Ct:={ c with loop:=false }
def Ct.inSuite (c:Ct):Ct:={ c with loop:=false,free:=false }
abbrev Ct.un (c:Ct):Ct:=c.inSuite
theorem Good.body {c:Ct} {k:Nat} {X:Cx} (G:Good c k X) (hf:c.free = true) (pn:List (Addr × Obj)) (E:Value → Shared → Prop):Good c.inTry k (reX X X.A true pn E) :=
 ⟨G.N,G.sc,G.nd,G.un,fun _ => ⟨(G.free hf).1,rfl⟩,(fun z => by cases z),G.cst,G.bl,G.fns,fun z => ⟨(G.stk z).st,(G.stk z).fr,(G.stk z).ex⟩,G.fn,G.kind,G.tab,G.cls,G.cln,G.dcs,⟨G.rm.d,G.rm.u⟩,G.fnu,⟨G.x.lam,G.x.fnL,G.x.fnJ,fun t m => (G.x.at' t m).imp fun P L => ⟨L.code,L.qual,L.tab,L.mem,L.uniq,L.bm⟩⟩,G.fr⟩
theorem Good.suite {c:Ct} {k:Nat} {X:Cx} (G:Good c k X) (e:Value) (pn:List (Addr × Obj)) (E:Value → Shared → Prop):Good c.inSuite k (reX X (X.A.mark (some e)) false pn E) :=
 ⟨G.N,G.sc,G.nd,G.un,(fun z => by cases z),(fun z => by cases z),G.cst,G.bl,G.fns,fun z => ⟨(G.stk z).st,(G.stk z).fr,(G.stk z).ex⟩,G.fn,G.kind,G.tab,G.cls,G.cln,G.dcs,⟨G.rm.d,G.rm.u⟩,G.fnu,⟨G.x.lam,G.x.fnL,G.x.fnJ,fun t m => (G.x.at' t m).imp fun P L => ⟨L.code,L.qual,L.tab,L.mem,L.uniq,L.bm⟩⟩,G.fr⟩
theorem boot_tyV:bootBuiltins "ValueError" = some (.type "ValueError"):=by decide +kernel
def tyOf (x:Str):Option String :=
 if x = "int" then some "int" else if x = "str" then some "str" else if x = "bool" then some "bool" else if x = "tuple" then some "tuple" else if x = "list" then some "list" else if x = "ValueError" then some "ValueError" else none
theorem tyOf_ok {x:Str} {T:String} (h:tyOf x = some T):bootBuiltins x = some (.type T):=by
 unfold tyOf at h
 by_cases e:x = "int"
 ·rw [if_pos e] at h; cases h; subst e; exact boot_tyI
 rw [if_neg e] at h
 by_cases e:x = "str"
 ·rw [if_pos e] at h; cases h; subst e; exact boot_tyS
 rw [if_neg e] at h
 by_cases e:x = "bool"
 ·rw [if_pos e] at h; cases h; subst e; exact boot_tyB
 rw [if_neg e] at h
 by_cases e:x = "tuple"
 ·rw [if_pos e] at h; cases h; subst e; exact boot_tyT
 rw [if_neg e] at h
 by_cases e:x = "list"
 ·rw [if_pos e] at h; cases h; subst e; exact boot_tyL
 rw [if_neg e] at h
 by_cases e:x = "ValueError"
 ·rw [if_pos e] at h; cases h; subst e; exact boot_tyV
 rw [if_neg e] at h
 cases h
section
variable {X:Cx}
def oBad:Op2:=fun _ _ _ => .bad
theorem ow_bad {f:Value → Value → Sem Value}:OpW X f oBad:=⟨fun _ _ _ _ => False,fun _ _ _ _ _ _ _ _ _ _ _ _ h => h.elim,fun _ _ _ _ _ _ _ _ _ _ _ p => p⟩
noncomputable def binO:Operator → Op2
 | .Add => oAdd
 | .Sub => oSub
 | .Mult => oMulL
 | .FloorDiv => oFdiv
 | .Mod => oMod
 | .Pow => oPow
 | _ => oBad
theorem binO_ok (o:Operator):OpW X (binaryOp o) (binO o):=by
 cases o <;> first | exact ow_add | exact ow_sub | exact ow_mulL1 | exact ow_fdiv | exact ow_mod | exact ow_pow | exact ow_bad
def cmpO:CmpOp → Op2
 | .Eq => oEq
 | .NotEq => oNe
 | .Lt => oLt
 | .LtE => oLe
 | .Gt => oGt
 | .GtE => oGe
 | .Is => oIs
 | .IsNot => oIsNot
 | .In => oIn2
 | .NotIn => oNotIn2
theorem cmpO_ok (hu:X.A.units + 64 < cLine) (o:CmpOp):OpW X (compareOp o) (cmpO o):=by
 cases o <;> first | exact ow_eq hu | exact ow_ne hu | exact ow_ltT hu | exact ow_leT hu | exact ow_gt | exact ow_ge | exact ow_is | exact ow_isnot | exact ow_in2 | exact ow_notIn2
def cName (c:Ct) (x:Str):GE:=if okN x = true then
  match c.names.lookup x with
  | some .local => (match ixOf x c.N with | some i => gVar i | none => gBad)
  | some .cell => (match ixOf x c.N with | some i => gVar i | none => gBad)
  | some .free => (match ixOf x c.N with | some i => gVar i | none => gBad)
  | some .globalImplicit => (match c.consts.lookup x with
   | some w => gC w
   | none => if c.clss.contains x = true then gC (.cls x) else if c.cln.contains x = true then gC (.cls x) else if c.bl.contains x = true then (match tyOf x with | some T => gC (.ty T) | none => gBad) else gBad)
  | _ => gBad
 else gBad
theorem cName_ok {c:Ct} {k:Nat} (G:Good c k X) (x:Str) (pos:Pos):JE X (.Name x pos) (cName c x):=by
 unfold cName
 by_cases hx:okN x = true
 ·rw [if_pos hx]
  cases e:c.names.lookup x with
  | none => exact je_bad
  | some kd =>
   have el:X.env.scope.names.lookup x = some kd:=by rw [G.sc]; exact e
   cases kd with
   | «local» =>
    dsimp only
    cases e2:ixOf x c.N with
    | none => exact je_bad
    | some i => exact je_var i (by rw [G.N]; exact ixOf_get e2) (Or.inl el) (okN_d hx) (okN_c hx)
   | cell =>
    dsimp only
    cases e2:ixOf x c.N with
    | none => exact je_bad
    | some i => exact je_var i (by rw [G.N]; exact ixOf_get e2) (Or.inr (Or.inl el)) (okN_d hx) (okN_c hx)
   | free =>
    dsimp only
    cases e2:ixOf x c.N with
    | none => exact je_bad
    | some i => exact je_var i (by rw [G.N]; exact ixOf_get e2) (Or.inr (Or.inr el)) (okN_d hx) (okN_c hx)
   | globalImplicit =>
    dsimp only
    have hg:Gl X x:=el
    cases e2:c.consts.lookup x with
    | some w =>
     have q:=G.cst x w e2
     cases w with
     | int i => obtain ⟨t,q⟩:=q; exact je_globI hg q (okN_d hx)
     | str y => obtain ⟨⟨t,q⟩,z⟩:=q; exact je_globS hg q z (okN_d hx)
     | ktp ws =>
      obtain ⟨a,vs,o,its,n,q1,q2,q3,q4,q5,q6,q7⟩:=q
      exact JE.of (pe_glob (v:=.ref a) hg q1 rfl (okN_d hx)) fun ρ st σ H m Q S R p => p (.ref a) m H Ext.refl S (by unfold RelW; exact ⟨a,vs,rfl,⟨o,its,n,q2,q3,q4,q5,q6⟩,q7.rel⟩)
     | _ => exact False.elim q
    | none =>
     dsimp only
     by_cases e5:c.clss.contains x = true
     ·rw [if_pos e5]
      obtain ⟨C,q1,q2⟩:=G.cls x e5
      exact JE.of (pe_glob (v:=.ref C) hg q1 rfl (okN_d hx)) fun ρ st σ H m Q S R p => p (.ref C) m H Ext.refl S (by unfold RelW; exact ⟨C,rfl,q2.cls⟩)
     rw [if_neg e5]
     by_cases e6:c.cln.contains x = true
     ·rw [if_pos e6]
      obtain ⟨C,q1,q2⟩:=G.cln x e6
      exact JE.of (pe_glob (v:=.ref C) hg q1 rfl (okN_d hx)) fun ρ st σ H m Q S R p => p (.ref C) m H Ext.refl S (by unfold RelW; exact ⟨C,rfl,q2⟩)
     rw [if_neg e6]
     by_cases e3:c.bl.contains x = true
     ·rw [if_pos e3]
      cases e4:tyOf x with
      | none => exact je_bad
      | some T => exact je_ty hg (G.bl x e3) (tyOf_ok e4) (okN_n hx) (okN_d hx)
     ·rw [if_neg e3]; exact je_bad
   | _ => exact je_bad
 ·rw [if_neg hx]; exact je_bad
def cConst:Const → GE
 | .none => gC .non
 | .bool b => gC (.bl b)
 | .int i => gC (.int i)
 | .str x => if PyData.strOk x = true then gC (.str x) else gBad
 | _ => gBad
theorem cConst_ok (k:Const) (j:Nat) (pos:Pos):JE X (.Constant k j pos) (cConst k):=by
 cases k with
 | none => exact je_non
 | bool b => exact je_bl
 | int i => exact je_int
 | str x =>
  show JE X _ (if PyData.strOk x = true then gC (.str x) else gBad)
  by_cases h:PyData.strOk x = true
  ·rw [if_pos h]; exact je_str h
  ·rw [if_neg h]; exact je_bad
 | _ => exact je_bad
def plain:Expr → Bool
 | .Starred .. => false
 | _ => true
theorem star_plain {e:Expr} {es:List Expr} {env:Env} (h:plain e = true):starEach (e :: es) env = (false,eval e env) :: starEach es env:=by
 cases e <;> first | rfl | cases h
theorem any_plain {pos:Pos} {env:Env}:∀ {es:List Expr},es.all plain = true → (backTo pos (starEach es env)).any (·.1) = false
 | [],_ => rfl
 | e :: es,h => by
  rw [List.all_cons,Bool.and_eq_true] at h
  rw [star_plain h.1]
  have q:=any_plain (pos:=pos) (env:=env) h.2
  unfold backTo at q ⊢
  rw [List.map_cons,List.any_cons,q]
  rfl
def argsG (f:Expr → GE):List Expr → GA
 | [] => gNil
 | e :: es => gCons (f e) (argsG f es)
theorem args_ok {f:Expr → GE} (h:∀ e,JE X e (f e)):∀ es:List Expr,es.all plain = true → JA X es (argsG f es)
 | [],_ => ja_nil
 | e :: es,g => by
  rw [List.all_cons,Bool.and_eq_true] at g
  exact ja_cons (h e) (args_ok h es g.2) (star_plain g.1)
def blO (c:Ct) (x:Str):Option (Value × (List Wv → Hs → Re Wv)) :=
 if x = "len" then some (.builtin "len",oLen) else if x = "isinstance" then some (.builtin "isinstance",oIsA c.tb c.tt) else if x = "int" then some (.type "int",oInt2) else if x = "tuple" then some (.type "tuple",oTupC) else if x = "all" ∧ c.free = true then some (.builtin "all",oAll) else if x = "min" ∧ c.free = true then some (.builtin "min",oMin2) else if x = "ord" then some (.builtin "ord",oOrd) else none
theorem boot_all':bootBuiltins "all" = some (.builtin "all"):=by decide +kernel
theorem boot_min':bootBuiltins "min" = some (.builtin "min"):=by decide +kernel
theorem blO_ok {c:Ct} {x:Str} {v:Value} {op:List Wv → Hs → Re Wv} (O:TabOk X.K c.tb c.tt c.tc) (hc:c.free = true → X.calm = true) (h:blO c x = some (v,op)):bootBuiltins x = some v ∧ CallW X v op ∧ ((∃ id,v = .builtin id) ∨ ∃ T,v = .type T):=by
 unfold blO at h
 by_cases e:x = "len"
 ·rw [if_pos e] at h; cases h; subst e; exact ⟨boot_lenJ,cw_len,.inl ⟨_,rfl⟩⟩
 rw [if_neg e] at h
 by_cases e:x = "isinstance"
 ·rw [if_pos e] at h; cases h; subst e; exact ⟨boot_isI,cw_isA O,.inl ⟨_,rfl⟩⟩
 rw [if_neg e] at h
 by_cases e:x = "int"
 ·rw [if_pos e] at h; cases h; subst e; exact ⟨boot_tyI,cw_int2,.inr ⟨_,rfl⟩⟩
 rw [if_neg e] at h
 by_cases e:x = "tuple"
 ·rw [if_pos e] at h; cases h; subst e; exact ⟨boot_tyT,cw_tup,.inr ⟨_,rfl⟩⟩
 rw [if_neg e] at h
 by_cases e:x = "all" ∧ c.free = true
 ·rw [if_pos e] at h; cases h; obtain ⟨rfl,e2⟩:=e; exact ⟨boot_all',cw_all (hc e2),.inl ⟨_,rfl⟩⟩
 rw [if_neg e] at h
 by_cases e:x = "min" ∧ c.free = true
 ·rw [if_pos e] at h; cases h; obtain ⟨rfl,e2⟩:=e; exact ⟨boot_min',cw_min2 (hc e2),.inl ⟨_,rfl⟩⟩
 rw [if_neg e] at h
 by_cases e:x = "ord"
 ·rw [if_pos e] at h; cases h; subst e; exact ⟨boot_ordJ,cw_ord,.inl ⟨_,rfl⟩⟩
 rw [if_neg e] at h
 cases h
noncomputable def cCallV (c:Ct) (fE:Expr → GE) (x:Str) (es:List Expr):GE:=match c.lam,ixOf x c.N with
 | some (p,L),some i => if okN x = true ∧ es.all plain = true ∧ (c.names.lookup x = some .local ∨ c.names.lookup x = some .cell ∨ c.names.lookup x = some .free) ∧ c.free = true then gCallF p 3 L i (argsG fE es) else gBad
 | _,_ => gBad
theorem cCallV_ok {c:Ct} {k:Nat} (G:Good c k X) {fE:Expr → GE} (h:∀ e,JE X e (fE e)) (x:Str) (e:Expr) (es:List Expr) (p pos:Pos):JE X (.Call (.Name x p) (e :: es) [] pos) (cCallV c fE x (e :: es)):=by
 unfold cCallV
 cases el:c.lam with
 | none => exact je_bad
 | some pL =>
  obtain ⟨pl,L⟩:=pL
  cases ei:ixOf x c.N with
  | none => exact je_bad
  | some i =>
   dsimp only
   by_cases g:okN x = true ∧ (e :: es).all plain = true ∧ (c.names.lookup x = some .local ∨ c.names.lookup x = some .cell ∨ c.names.lookup x = some .free) ∧ c.free = true
   ·rw [if_pos g]
    obtain ⟨g1,g2,g3,g4⟩:=g
    have gp:plain e = true ∧ es.all plain = true:=by rw [List.all_cons,Bool.and_eq_true] at g2; exact g2
    refine je_callF (G.x.lam pl L el) (G.free g4).1 (by rw [G.N]; exact ixOf_get ei) ?_ (args_ok h (e :: es) g2) (okN_d g1) (okN_c g1) (star_plain gp.1) (any_plain gp.2)
    unfold Vis
    rw [G.sc]
    exact g3
   ·rw [if_neg g]; exact je_bad
noncomputable def cCallN (c:Ct) (fE:Expr → GE) (x:Str) (es:List Expr):GE:=if okN x = true ∧ es.all plain = true ∧ c.names.lookup x = some .globalImplicit then
   (match c.fns.lookup x with
   | some (n,F) => if c.free = true then gCall n F (argsG fE es) else gBad
   | none => if c.bl.contains x = true then (match blO c x with | some (_,op) => gCallB op (argsG fE es) | none => gBad) else gBad)
  else cCallV c fE x es
def cMeth (fE:Expr → GE) (o:Expr) (name:Str) (e:Expr) (apos cpos:Pos):GE:=if plain e = true ∧ (apos.endLine == cpos.line) = true then
   (if name = "append" then gMeth mApp (fE o) (fE e) else if name = "extend" then gMeth mExtT (fE o) (fE e) else gBad)
  else gBad
def dcOf (c:Ct) (x:Str):Option Dc:=if okN x = true ∧ c.names.lookup x = some .globalImplicit then c.dcs.lookup x else none
theorem dcOf_ok {c:Ct} {k:Nat} (G:Good c k X) {x:Str} {kvs:Dc} (h:dcOf c x = some kvs):Gl X x ∧ (x == ("__debug__":Str)) = false ∧ DcAt X.K X.w X.mg x kvs:=by
 unfold dcOf at h
 by_cases g:okN x = true ∧ c.names.lookup x = some .globalImplicit
 ·rw [if_pos g] at h
  refine ⟨?_,okN_d g.1,G.dcs x kvs h⟩
  show X.env.scope.names.lookup x = _
  rw [G.sc]; exact g.2
 ·rw [if_neg g] at h; cases h
noncomputable def cCall (c:Ct) (fE:Expr → GE) (cpos:Pos):Expr → List Expr → List Keyword → GE
 | .Name x _,e :: es,[] => cCallN c fE x (e :: es)
 | .Attribute (.Name x p) name apos,[e],[] => if name = "append" ∨ name = "extend" then cMeth fE (.Name x p) name e apos cpos else gBad
 | _,_,_ => gBad
theorem cCallN_ok {c:Ct} {k:Nat} (G:Good c k X) {fE:Expr → GE} (h:∀ e,JE X e (fE e)) (x:Str) (e:Expr) (es:List Expr) (p pos:Pos):JE X (.Call (.Name x p) (e :: es) [] pos) (cCallN c fE x (e :: es)):=by
 unfold cCallN
 by_cases g:okN x = true ∧ (e :: es).all plain = true ∧ c.names.lookup x = some .globalImplicit
 ·rw [if_pos g]
  obtain ⟨g1,g2,g3⟩:=g
  have hg:Gl X x:=by
   show X.env.scope.names.lookup x = _
   rw [G.sc]; exact g3
  have gp:plain e = true ∧ es.all plain = true:=by rw [List.all_cons,Bool.and_eq_true] at g2; exact g2
  have ha:=args_ok h (e :: es) g2
  cases e1:c.fns.lookup x with
  | some nF =>
   obtain ⟨n,F⟩:=nF
   dsimp only
   by_cases cf:c.free = true
   ·rw [if_pos cf]
    obtain ⟨a,fd,ps,G1,G2,G3,G4⟩:=G.fns x n F e1
    exact je_call G1 (G.free cf).1 G2 G3 G4 ha hg (okN_d g1) (star_plain gp.1) (any_plain gp.2)
   ·rw [if_neg cf]
    exact je_bad
  | none =>
   dsimp only
   by_cases e3:c.bl.contains x = true
   ·rw [if_pos e3]
    cases e4:blO c x with
    | none => exact je_bad
    | some io =>
     obtain ⟨v,op⟩:=io
     obtain ⟨b1,b2,b3⟩:=blO_ok (X:=X) G.tab (fun z => (G.free z).2) e4
     rcases b3 with ⟨id,rfl⟩ | ⟨T,rfl⟩
     ·exact je_callB b2 hg (G.bl x e3) b1 ha (okN_n g1) (okN_d g1) (star_plain gp.1) (any_plain gp.2)
     ·exact je_callTy b2 hg (G.bl x e3) b1 ha (okN_n g1) (okN_d g1) (star_plain gp.1) (any_plain gp.2)
   ·rw [if_neg e3]
    exact je_bad
 ·rw [if_neg g]; exact cCallV_ok G h x e es p pos
theorem cMeth_ok {fE:Expr → GE} (h:∀ e,JE X e (fE e)) (x name:Str) (e:Expr) (p apos cpos:Pos):JE X (.Call (.Attribute (.Name x p) name apos) [e] [] cpos) (cMeth fE (.Name x p) name e apos cpos):=by
 unfold cMeth
 by_cases g:plain e = true ∧ (apos.endLine == cpos.line) = true
 ·rw [if_pos g]
  by_cases n1:name = "append"
  ·rw [if_pos n1]
   subst n1
   exact je_meth mw_app PySem.F.slot_list_append PySem.F.type_list_append (h _) (h e) (star_plain g.1) g.2
  rw [if_neg n1]
  by_cases n2:name = "extend"
  ·rw [if_pos n2]
   subst n2
   exact je_meth mw_extT PySem.F.slot_list_extend PySem.F.type_list_extend (h _) (h e) (star_plain g.1) g.2
  rw [if_neg n2]
  exact je_bad
 ·rw [if_neg g]; exact je_bad
theorem cCall_ok {c:Ct} {k:Nat} (G:Good c k X) {fE:Expr → GE} (h:∀ e,JE X e (fE e)) (f:Expr) (as:List Expr) (ks:List Keyword) (pos:Pos):JE X (.Call f as ks pos) (cCall c fE pos f as ks):=by
 unfold cCall
 split
 ·exact cCallN_ok G h _ _ _ _ _
 ·rename_i x p name apos e
  by_cases g:name = "append" ∨ name = "extend"
  ·rw [if_pos g]; exact cMeth_ok h _ _ _ _ _ _
  ·rw [if_neg g]
   exact je_bad
 ·exact je_bad
def isSl:Expr → Bool
 | .Slice .. => true
 | _ => false
def partG (f:Expr → GE):Option Expr → GO
 | none => gNoPart
 | some e => gPart (f e)
theorem part_ok {f:Expr → GE} (h:∀ e,JE X e (f e)) (o:Option Expr):JO X o (partG f o):=by
 cases o with
 | none => exact jo_none
 | some e => exact jo_some (h e)
def subG (f:Expr → GE) (a:Expr):Expr → GE
 | .Slice lo hi none _ => gSlice2 (f a) (partG f lo) (partG f hi)
 | .Slice .. => gBad
 | b => gBin oIx (f a) (f b)
theorem sub_ok {f:Expr → GE} (h:∀ e,JE X e (f e)) (a b:Expr) (pos:Pos):JE X (.Subscript a b pos) (subG f a b):=by
 unfold subG
 split
 ·exact je_slice2 (h a) (part_ok h _) (part_ok h _)
 ·exact je_bad
 ·rename_i n1 n2
  refine je_ix (h a) (h b) ?_
  intro o i
  cases b <;> first | rfl | (rename_i lo hi st p; exact (n2 _ _ _ _ rfl).elim)
def cmpG (f:Expr → GE) (a:Expr):List CmpOp → List Expr → GE
 | [o],[b] => if behindInMarks o b = false then gBin (cmpO o) (f a) (f b) else gBad
 | [o,o'],[b,b'] => if lastMarks [o,o'] [b,b'] = false then gChain (cmpO o) (cmpO o') (f a) (f b) (f b') else gBad
 | _,_ => gBad
theorem cmp_ok (hu:X.A.units + 64 < cLine) {f:Expr → GE} (h:∀ e,JE X e (f e)) (a:Expr) (os:List CmpOp) (bs:List Expr) (pos:Pos):JE X (.Compare a os bs pos) (cmpG f a os bs):=by
 unfold cmpG
 split
 ·rename_i o b
  by_cases g:behindInMarks o b = false
  ·rw [if_pos g]; exact je_cmp (cmpO_ok hu o) (h a) (h b) g
  ·rw [if_neg g]; exact je_bad
 ·rename_i o o' b b'
  by_cases g:lastMarks [o,o'] [b,b'] = false
  ·rw [if_pos g]; exact je_chain (cmpO_ok hu o) (cmpO_ok hu o') (h a) (h b) (h b') g
  ·rw [if_neg g]; exact je_bad
 ·exact je_bad
def cmpT (f:Expr → GE) (a:Expr):List CmpOp → List Expr → GT
 | [o],[b] => if behindInMarks o b = false then gTst (gBin (cmpO o) (f a) (f b)) else gBadT
 | [o,o'],[b,b'] => if lastMarks [o,o'] [b,b'] = false then gTst (gChain (cmpO o) (cmpO o') (f a) (f b) (f b')) else gBadT
 | _,_ => gBadT
theorem cmpT_ok (hu:X.A.units + 64 < cLine) {f:Expr → GE} (h:∀ e,JE X e (f e)) (a:Expr) (os:List CmpOp) (bs:List Expr) (pos:Pos):JT X (.Compare a os bs pos) (cmpT f a os bs):=by
 unfold cmpT
 split
 ·rename_i o b
  by_cases g:behindInMarks o b = false
  ·rw [if_pos g]; exact jt_cmp (cmpO_ok hu o) (h a) (h b) g
  ·rw [if_neg g]; exact jt_bad
 ·rename_i o o' b b'
  by_cases g:lastMarks [o,o'] [b,b'] = false
  ·rw [if_pos g]; exact jt_chain (cmpO_ok hu o) (cmpO_ok hu o') (h a) (h b) (h b') g
  ·rw [if_neg g]; exact jt_bad
 ·exact jt_bad
def cmpD (c:Ct) (f:Expr → GE) (a:Expr):List CmpOp → List Expr → GE
 | [.In],[.Name x p] => (match dcOf c x with | some kvs => gDcIn false kvs (f a) | none => if c.dis.contains x = true then (if behindInMarks .In (.Name x p) = false then gBin (oInD false) (f a) (f (.Name x p)) else gBad) else cmpG f a [.In] [.Name x p])
 | [.NotIn],[.Name x p] => (match dcOf c x with | some kvs => gDcIn true kvs (f a) | none => if c.dis.contains x = true then (if behindInMarks .NotIn (.Name x p) = false then gBin (oInD true) (f a) (f (.Name x p)) else gBad) else cmpG f a [.NotIn] [.Name x p])
 | os,bs => cmpG f a os bs
theorem cmpD_ok {c:Ct} {k:Nat} (G:Good c k X) {f:Expr → GE} (h:∀ e,JE X e (f e)) (a:Expr) (os:List CmpOp) (bs:List Expr) (pos:Pos):JE X (.Compare a os bs pos) (cmpD c f a os bs):=by
 unfold cmpD
 split
 ·rename_i x p
  cases e:dcOf c x with
  | none =>
   dsimp only
   by_cases gd:c.dis.contains x = true
   ·rw [if_pos gd]
    by_cases gm:behindInMarks .In (.Name x p) = false
    ·rw [if_pos gm]; exact je_cmp (ow_inD G.un) (h a) (h _) gm
    ·rw [if_neg gm]; exact je_bad
   ·rw [if_neg gd]; exact cmp_ok G.un h a _ _ pos
  | some kvs => obtain ⟨g1,g2,g3⟩:=dcOf_ok G e; exact je_dcIn (h a) g1 g2 g3
 ·rename_i x p
  cases e:dcOf c x with
  | none =>
   dsimp only
   by_cases gd:c.dis.contains x = true
   ·rw [if_pos gd]
    by_cases gm:behindInMarks .NotIn (.Name x p) = false
    ·rw [if_pos gm]; exact je_cmp (ow_notInD G.un) (h a) (h _) gm
    ·rw [if_neg gm]; exact je_bad
   ·rw [if_neg gd]; exact cmp_ok G.un h a _ _ pos
  | some kvs => obtain ⟨g1,g2,g3⟩:=dcOf_ok G e; exact je_dcNotIn (h a) g1 g2 g3
 ·exact cmp_ok G.un h a _ _ pos
def cmpTD (c:Ct) (f:Expr → GE) (a:Expr):List CmpOp → List Expr → GT
 | [.In],[.Name x p] => (match dcOf c x with | some kvs => gTst (gDcIn false kvs (f a)) | none => if c.dis.contains x = true then (if behindInMarks .In (.Name x p) = false then gTst (gBin (oInD false) (f a) (f (.Name x p))) else gBadT) else cmpT f a [.In] [.Name x p])
 | [.NotIn],[.Name x p] => (match dcOf c x with | some kvs => gTst (gDcIn true kvs (f a)) | none => if c.dis.contains x = true then (if behindInMarks .NotIn (.Name x p) = false then gTst (gBin (oInD true) (f a) (f (.Name x p))) else gBadT) else cmpT f a [.NotIn] [.Name x p])
 | os,bs => cmpT f a os bs
theorem cmpTD_ok {c:Ct} {k:Nat} (G:Good c k X) {f:Expr → GE} (h:∀ e,JE X e (f e)) (a:Expr) (os:List CmpOp) (bs:List Expr) (pos:Pos):JT X (.Compare a os bs pos) (cmpTD c f a os bs):=by
 unfold cmpTD
 split
 ·rename_i x p
  cases e:dcOf c x with
  | none =>
   dsimp only
   by_cases gd:c.dis.contains x = true
   ·rw [if_pos gd]
    by_cases gm:behindInMarks .In (.Name x p) = false
    ·rw [if_pos gm]; exact jt_cmp (ow_inD G.un) (h a) (h _) gm
    ·rw [if_neg gm]; exact jt_bad
   ·rw [if_neg gd]; exact cmpT_ok G.un h a _ _ pos
  | some kvs => obtain ⟨g1,g2,g3⟩:=dcOf_ok G e; exact jt_dcIn (h a) g1 g2 g3
 ·rename_i x p
  cases e:dcOf c x with
  | none =>
   dsimp only
   by_cases gd:c.dis.contains x = true
   ·rw [if_pos gd]
    by_cases gm:behindInMarks .NotIn (.Name x p) = false
    ·rw [if_pos gm]; exact jt_cmp (ow_notInD G.un) (h a) (h _) gm
    ·rw [if_neg gm]; exact jt_bad
   ·rw [if_neg gd]; exact cmpT_ok G.un h a _ _ pos
  | some kvs => obtain ⟨g1,g2,g3⟩:=dcOf_ok G e; exact jt_dcNotIn (h a) g1 g2 g3
 ·exact cmpT_ok G.un h a _ _ pos
def subD (c:Ct) (f:Expr → GE):Expr → Expr → GE
 | .Name x p,b => (match dcOf c x with | some kvs => if isSl b = false then gDcIx kvs (f b) else gBad | none => subG f (.Name x p) b)
 | a,b => subG f a b
theorem subD_ok {c:Ct} {k:Nat} (G:Good c k X) {f:Expr → GE} (h:∀ e,JE X e (f e)) (a b:Expr) (pos:Pos):JE X (.Subscript a b pos) (subD c f a b):=by
 unfold subD
 split
 ·rename_i x p
  cases e:dcOf c x with
  | none => exact sub_ok h _ b pos
  | some kvs =>
   dsimp only
   by_cases g:isSl b = false
   ·rw [if_pos g]
    obtain ⟨g1,g2,g3⟩:=dcOf_ok G e
    refine je_dcIx (h b) ?_ g1 g2 g3
    intro o i
    cases b <;> first | rfl | cases g
   ·rw [if_neg g]; exact je_bad
 ·exact sub_ok h _ b pos
def andV (f:Expr → GE):List Expr → GE
 | [] => gBad
 | [a] => f a
 | a :: b :: r => gAndV (f a) (andV f (b :: r))
def orV (f:Expr → GE):List Expr → GE
 | [] => gBad
 | [a] => f a
 | a :: b :: r => gOrV (f a) (orV f (b :: r))
theorem andV_ok {f:Expr → GE} (h:∀ e,JE X e (f e)) (pos:Pos):∀ es,JE X (.BoolOp .And es pos) (andV f es)
 | [] => je_bad
 | [a] => je_one (h a)
 | a :: b :: r => je_and (h a) (andV_ok h pos (b :: r))
theorem orV_ok {f:Expr → GE} (h:∀ e,JE X e (f e)) (pos:Pos):∀ es,JE X (.BoolOp .Or es pos) (orV f es)
 | [] => je_bad
 | [a] => je_one (h a)
 | a :: b :: r => je_or (h a) (orV_ok h pos (b :: r))
def andT (f:Expr → GT):List Expr → GT
 | [] => gBadT
 | [a] => f a
 | a :: b :: r => gAnd (f a) (andT f (b :: r))
def orT (f:Expr → GT):List Expr → GT
 | [] => gBadT
 | [a] => f a
 | a :: b :: r => gOr (f a) (orT f (b :: r))
theorem jw_bad {e:Expr}:JW X e gBadT:=fun ρ st σ H m Q S R p => False.elim p
theorem andT_ok {f:Expr → GT} (h:∀ e,JT X e (f e)) (pos:Pos):∀ es,JW X (.BoolOp .And es pos) (andT f es)
 | [] => jw_bad
 | [a] => jw_and1 (h a)
 | a :: b :: r => jw_and (h a) (andT_ok h pos (b :: r))
theorem orT_ok {f:Expr → GT} (h:∀ e,JT X e (f e)) (pos:Pos):∀ es,JW X (.BoolOp .Or es pos) (orT f es)
 | [] => jw_bad
 | [a] => jw_or1 (h a)
 | a :: b :: r => jw_or (h a) (orT_ok h pos (b :: r))
def unG (f:Expr → GE):UnaryOp → Expr → GE
 | .USub,a => gUn opNeg (f a)
 | .Not,a => gNotV (f a)
 | _,_ => gBad
def seqG (f:Expr → GE) (g:GA → GE) (es:List Expr):GE:=if es.all plain = true then g (argsG f es) else gBad
def isSet:Expr → Bool
 | .Set .. => true
 | _ => false
theorem fold_no {e:Expr} {env:Env} (h:isSet e = false) (x:Value):foldedSetIterable e env x = pure x:=by
 cases e <;> first | rfl | cases h
def isRange (c:Ct) (x:Str):Bool:=decide (x = "range") && decide (c.names.lookup x = some .globalImplicit) && c.bl.contains x && (match c.fns.lookup x with | some _ => false | none => true)
theorem range_ok {c:Ct} {k:Nat} (G:Good c k X) (y:Str) (hy:isRange c y = true):y = "range" ∧ Gl X y ∧ X.mg y = none:=by
 unfold isRange at hy
 simp only [Bool.and_eq_true,decide_eq_true_eq] at hy
 refine ⟨hy.1.1.1,?_,G.bl y hy.1.2⟩
 show X.env.scope.names.lookup y = _
 rw [G.sc]; exact hy.1.1.2
noncomputable def iterG (c:Ct) (f:Expr → GE):Expr → GI
 | .Call (.Name x p) [a] [] q => if isRange c x = true then (if plain a = true then giR1 (argsG f [a]) else gBadI) else giSeq2 (f (.Call (.Name x p) [a] [] q))
 | .Call (.Name x p) [a,b] [] q => if isRange c x = true then (if plain a = true ∧ plain b = true then giR2 (argsG f [a,b]) else gBadI) else giSeq2 (f (.Call (.Name x p) [a,b] [] q))
 | e => if isSet e = false then giSeq2 (f e) else gBadI
theorem iter_ok {c:Ct} {k:Nat} (G:Good c k X) {f:Expr → GE} (h:∀ e,JE X e (f e)) (tg e:Expr):JI X tg e (iterG c f e):=by
 unfold iterG
 split
 ·rename_i y p a q
  by_cases g:isRange c y = true
  ·rw [if_pos g]
   obtain ⟨rfl,g2,g3⟩:=range_ok G y g
   by_cases ga:plain a = true
   ·rw [if_pos ga]
    exact ji_r1 g2 g3 (args_ok h [a] (by simp [ga])) (star_plain ga)
   ·rw [if_neg ga]; exact ji_bad
  ·rw [if_neg g]; exact ji_seq2 (h _)
 ·rename_i y p a b q
  by_cases g:isRange c y = true
  ·rw [if_pos g]
   obtain ⟨rfl,g2,g3⟩:=range_ok G y g
   by_cases ga:plain a = true ∧ plain b = true
   ·rw [if_pos ga]
    exact ji_r2 g2 g3 (args_ok h [a,b] (by simp [ga])) (by rw [star_plain ga.1,star_plain ga.2]; rfl) (by rw [star_plain ga.2]; rfl)
   ·rw [if_neg ga]; exact ji_bad
  ·rw [if_neg g]; exact ji_seq2 (h _)
 ·by_cases g:isSet e = false
  ·rw [if_pos g]; exact ji_seq2 (h _)
  ·rw [if_neg g]; exact ji_bad
def capsL (c:Ct):List (Str × NameKind) → Option Caps
 | [] => some []
 | (n,.free) :: r => if c.names.lookup n = some .cell ∨ c.names.lookup n = some .free then (match ixOf n c.N,capsL c r with | some i,some l => some ((n,i) :: l) | _,_ => none) else none
 | _ :: r => capsL c r
theorem capsL_ok {c:Ct}:∀ {ns:List (Str × NameKind)} {cs:Caps},capsL c ns = some cs → (∀ y ∈ ns,y.2 = .free → c.names.lookup y.1 = some .cell ∨ c.names.lookup y.1 = some .free) ∧ ∀ p ∈ cs,(p.1,NameKind.free) ∈ ns ∧ c.N[p.2]? = some p.1
 | [],cs,h => by cases h; exact ⟨(fun _ z => by cases z),(fun _ z => by cases z)⟩
 | (n,k) :: r,cs,h => by
  unfold capsL at h
  split at h
  ·cases ‹_ :: _ = []›
  ·rename_i n' r' he
   cases he
   by_cases g:c.names.lookup n = some .cell ∨ c.names.lookup n = some .free
   ·rw [if_pos g] at h
    cases e1:ixOf n c.N with
    | none => rw [e1] at h; cases h
    | some i =>
     cases e2:capsL c r with
     | none => rw [e1,e2] at h; cases h
     | some l =>
      rw [e1,e2] at h
      cases h
      obtain ⟨q1,q2⟩:=capsL_ok e2
      refine ⟨fun y hy e => ?_,fun p hp => ?_⟩
      ·rcases List.mem_cons.mp hy with z | z
       ·subst z; exact g
       ·exact q1 y z e
      ·rcases List.mem_cons.mp hp with z | z
       ·subst z; exact ⟨List.mem_cons_self,ixOf_get e1⟩
       ·exact ⟨List.mem_cons_of_mem _ (q2 p z).1,(q2 p z).2⟩
   ·rw [if_neg g] at h; cases h
  ·rename_i kk r' hk he
   cases he
   obtain ⟨q1,q2⟩:=capsL_ok h
   refine ⟨fun y hy e => ?_,fun p hp => ⟨List.mem_cons_of_mem _ (q2 p hp).1,(q2 p hp).2⟩⟩
   rcases List.mem_cons.mp hy with z | z
   ·subst z
    have e':k = .free:=e
    subst e'
    exact (hk n rfl).elim
   ·exact q1 y z e
def relabN (c:Ct) (ns:List (Str × NameKind)):List (Str × NameKind):=ns.map fun (n,k) => if (k == .free && c.names.lookup n == some .cell) then (n,.cell) else (n,k)
def isFnK:ScopeKind → Bool
 | .function => true
 | _ => false
def scopeOk (scope:Scope) (x:Str):Bool:=isFnK scope.kind && scope.names.all (fun y => decide (scope.names.lookup y.1 = some y.2)) && scope.names.all (fun y => decide (y.2 ≠ .cell)) && decide (scope.names.lookup x = some .local)
def Ct.block (c:Ct) (scope:Scope) (x:Str) (cs:Caps):Ct:={ c with N:=x :: cs.map (·.1),names:=relabN c scope.names,loop:=false,top:=false }
noncomputable def compC (c:Ct) (sub:Ct → (Expr → GE) × (Expr → GT)) (f:Expr → GE) (elt:Expr) (x:Str) (iter:Expr) (gts:Ct → GT) (scope:Scope):GE :=
 if scopeOk scope x = true ∧ c.free = true ∧ isSet iter = false then (match capsL c scope.names with
  | some cs => if (x :: cs.map (·.1)).Nodup then gComp cs (iterG c f iter) (gts (c.block scope x cs)) ((sub (c.block scope x cs)).1 elt) else gBad
  | none => gBad) else gBad
noncomputable def coG (c:Ct) (sub:Ct → (Expr → GE) × (Expr → GT)) (f:Expr → GE) (elt:Expr) (scope:Scope):List Comprehension → GE
 | [⟨.Name x _,iter,[],0⟩] => compC c sub f elt x iter (fun _ => fun _ st => .ok true st) scope
 | [⟨.Name x _,iter,[q],0⟩] => compC c sub f elt x iter (fun c' => (sub c').2 q) scope
 | _ => gBad
theorem block_good {c:Ct} {k:Nat} (G:Good c k X) {scope:Scope} {x:Str} {cs:Caps} (hs:scopeOk scope x = true) (hf:c.free = true) (nd:(x :: cs.map (·.1)).Nodup) (C:Addr) (s0:Shared) (H0:Hp) (fp:List Addr) (pn:List (Addr × Obj)) (E:Value → Shared → Prop) :
  Good (c.block scope x cs) k (compX X scope x cs C s0 H0 fp pn E):=by
 unfold scopeOk at hs
 simp only [Bool.and_eq_true,decide_eq_true_eq] at hs
 have hk:scope.kind = .function:=by
  have:=hs.1.1.1
  revert this
  cases scope.kind <;> intro z <;> first | rfl | cases z
 refine ⟨rfl,?_,nd,G.un,fun _ => ⟨(G.free hf).1,rfl⟩,(fun z => by cases z),G.cst,G.bl,G.fns,(fun z => by cases z),(fun z => by cases z),hk,G.tab,G.cls,G.cln,G.dcs,⟨G.rm.d,G.rm.u⟩,G.fnu,⟨G.x.lam,G.x.fnL,G.x.fnJ,(fun z => by cases z)⟩,G.fr⟩
 show (relabel scope X.env).names = relabN c scope.names
 unfold relabel relabN Env.kindOf
 rw [G.kind,G.sc]
 simp
theorem scope_cs {c:Ct} {k:Nat} (G:Good c k X) {scope:Scope} {x:Str} {cs:Caps} (hs:scopeOk scope x = true) (hcs:capsL c scope.names = some cs) (nd:(x :: cs.map (·.1)).Nodup):CScope X scope x cs:=by
 unfold scopeOk at hs
 simp only [Bool.and_eq_true,decide_eq_true_eq,List.all_eq_true] at hs
 obtain ⟨⟨⟨h1,h2⟩,h3⟩,h4⟩:=hs
 have hk:scope.kind = .function:=by
  revert h1
  cases scope.kind <;> intro z <;> first | rfl | cases z
 obtain ⟨q1,q2⟩:=capsL_ok hcs
 refine ⟨hk,h2,h3,h4,fun y hy e => ?_,fun p hp => ⟨by rw [G.N]; exact (q2 p hp).2,h2 _ (q2 p hp).1⟩,nd⟩
 show X.env.scope.names.lookup y.1 = _ ∨ X.env.scope.names.lookup y.1 = _
 rw [G.sc]; exact q1 y hy e
def JAs (X:Cx) (e:Expr) (g:GE):Prop:=∀ (i:Nat) (y:Str) (py spos:Pos),X.N.Nodup → X.N[i]? = some y → Loc X.env.scope y → (X.fn y = true ∨ X.env.scope.names.lookup y = some .local) → JS X (.Assign [.Name y py] e spos) (gSet i g)
theorem js_setBad {i:Nat} {s:Stmt}:JS X s (gSet i gBad):=fun ρ st σ H m D S R p => False.elim p
theorem jas_bad {e:Expr}:JAs X e gBad:=fun i y py spos _ _ _ _ => js_setBad
theorem co_both {c:Ct} {k:Nat} (G:Good c k X) {sub:Ct → (Expr → GE) × (Expr → GT)} (hb:∀ c X,Good c k X → (∀ e,JE X e ((sub c).1 e)) ∧ ∀ e,JT X e ((sub c).2 e)) {f:Expr → GE} (h:∀ e,JE X e (f e)) (elt:Expr) (scope:Scope) (gens:List Comprehension) (pos:Pos) :
  JE X (.ListComp elt gens scope pos) (coG c sub f elt scope gens) ∧ JAs X (.ListComp elt gens scope pos) (coG c sub f elt scope gens):=by
 have core:∀ (x:Str) (px:Pos) (iter:Expr) (ifs:List Expr) (gts:Ct → GT),(∀ c X,Good c k X → JTs X ifs (gts c)) →
   JE X (.ListComp elt [⟨.Name x px,iter,ifs,0⟩] scope pos) (compC c sub f elt x iter gts scope) ∧ JAs X (.ListComp elt [⟨.Name x px,iter,ifs,0⟩] scope pos) (compC c sub f elt x iter gts scope):=by
  intro x px iter ifs gts hg
  unfold compC
  by_cases g:scopeOk scope x = true ∧ c.free = true ∧ isSet iter = false
  ·rw [if_pos g]
   obtain ⟨g1,g2,g3⟩:=g
   cases ec:capsL c scope.names with
   | none => exact ⟨je_bad,jas_bad⟩
   | some cs =>
    dsimp only
    by_cases nd:(x :: cs.map (·.1)).Nodup
    ·rw [if_pos nd]
     have CS:=scope_cs G g1 ec nd
     have hE:∀ C s0 H0 fp pn E,JE (compX X scope x cs C s0 H0 fp pn E) elt ((sub (c.block scope x cs)).1 elt):=fun C s0 H0 fp pn E => (hb _ _ (block_good G g1 g2 nd C s0 H0 fp pn E)).1 elt
     have hT:∀ C s0 H0 fp pn E,JTs (compX X scope x cs C s0 H0 fp pn E) ifs (gts (c.block scope x cs)):=fun C s0 H0 fp pn E => hg _ _ (block_good G g1 g2 nd C s0 H0 fp pn E)
     exact ⟨je_comp G.fr CS (G.free g2).2 (iter_ok G h _ iter) hE hT (fold_no g3),fun i y py spos hN hi hl hf => js_setC i hN G.fr CS (G.free g2).2 (iter_ok G h _ iter) hE hT (fold_no g3) hi hl hf⟩
    ·rw [if_neg nd]; exact ⟨je_bad,jas_bad⟩
  ·rw [if_neg g]; exact ⟨je_bad,jas_bad⟩
 unfold coG
 split
 ·exact core _ _ _ _ _ fun _ _ _ => jts_nil
 ·exact core _ _ _ _ _ fun c X G' => jts_one ((hb c X G').2 _)
 ·exact ⟨je_bad,jas_bad⟩
def lamScB (sc:Scope) (x1 x2 x3 y:Str):Bool:=isFnK sc.kind && !sc.isCoroutine && !sc.isGenerator && sc.names.all (fun p => decide (p.2 ≠ .cell)) && decide (sc.names.lookup x1 = some .local) && decide (sc.names.lookup x2 = some .local) && decide (sc.names.lookup x3 = some .local) && decide (sc.names.lookup y = some .free) && decide ([x1,x2,x3,y].Nodup)
theorem lamScB_ok {sc:Scope} {x1 x2 x3 y:Str} (h:lamScB sc x1 x2 x3 y = true) (hf:freeOf sc = [y]):LamSc sc x1 x2 x3 y:=by
 unfold lamScB at h
 simp only [Bool.and_eq_true,decide_eq_true_eq,List.all_eq_true,Bool.not_eq_true'] at h
 obtain ⟨⟨⟨⟨⟨⟨⟨⟨h1,h2⟩,h3⟩,h4⟩,h5⟩,h6⟩,h7⟩,h8⟩,h9⟩:=h
 have hk:sc.kind = .function:=by
  revert h1
  cases sc.kind <;> intro z <;> first | rfl | cases z
 exact ⟨hk,h2,h3,h4,h5,h6,h7,hf,h8,h9⟩
def Ct.inLam (c:Ct) (N:List Str) (ns:List (Str × NameKind)):Ct:={ c with N:=N,names:=ns,fns:=c.fns.filter (fun p => c.lfn.contains p.1),fnu:=[],loop:=false,top:=false,free:=true,fnL:=[],lam:=none,dts:=[],dks:=[],self:="" }
theorem look_filter {α:Type} {l:List (Str × α)} {q:Str → Bool} {x:Str} {a:α} (h:(l.filter fun p => q p.1).lookup x = some a):l.lookup x = some a ∧ q x = true:=by
 induction l with
 | nil => cases h
 | cons p l ih =>
  obtain ⟨y,b⟩:=p
  rw [List.lookup_cons]
  by_cases hq:q y = true
  ·rw [List.filter_cons_of_pos (by simpa using hq),List.lookup_cons] at h
   cases e:x == y with
   | true =>
    rw [e] at h
    cases h
    exact ⟨rfl,by rw [eq_of_beq e]; exact hq⟩
   | false => rw [e] at h; exact ih h
  ·rw [List.filter_cons_of_neg (by simpa using hq)] at h
   obtain ⟨h1,h2⟩:=ih h
   cases e:x == y with
   | true => rw [eq_of_beq e] at h2; exact absurd h2 hq
   | false => exact ⟨h1,h2⟩
noncomputable def cLam (c:Ct) (sub:Ct → (Expr → GE) × (Expr → GT)) (f:Expr → GE) (x:Str) (e:Expr) (x1 x2 x3:Str) (body:Expr) (scope:Scope):GE:=match freeOf scope,c.fnL.lookup x with
 | [y],some FL => (match ixOf y c.N with
  | some iy => if okN x = true ∧ plain e = true ∧ c.names.lookup x = some .globalImplicit ∧ lamScB scope x1 x2 x3 y = true ∧ c.names.lookup y = some .cell ∧ c.top = true ∧ c.free = true ∧ lamDefs.contains c.self = true then gLam FL iy (f e) ((sub (c.inLam [x1,x2,x3,y] scope.names)).1 body) else gBad
  | none => gBad)
 | _,_ => gBad
theorem cLam_ok {c:Ct} {k:Nat} (G:Good c k X) {sub:Ct → (Expr → GE) × (Expr → GT)} (hb:∀ k c X,Good c k X → (∀ e,JE X e ((sub c).1 e)) ∧ ∀ e,JT X e ((sub c).2 e)) {f:Expr → GE} (h:∀ e,JE X e (f e)) (x:Str) (e:Expr) (x1 x2 x3:Str) (a1 a2 a3:Option Expr) (q1 q2 q3:Pos) (body:Expr) (scope:Scope) (p lpos pos:Pos) :
  JE X (.Call (.Name x p) [e,.Lambda (lamArgs x1 x2 x3 a1 a2 a3 q1 q2 q3) body scope lpos] [] pos) (cLam c sub f x e x1 x2 x3 body scope):=by
 unfold cLam
 cases ef:freeOf scope with
 | nil => exact je_bad
 | cons y r =>
  cases r with
  | cons z r => exact je_bad
  | nil =>
   cases el:c.fnL.lookup x with
   | none => exact je_bad
   | some FL =>
    cases ei:ixOf y c.N with
    | none => dsimp only; rw [ei]; exact je_bad
    | some iy =>
     dsimp only
     rw [ei]
     dsimp only
     by_cases g:okN x = true ∧ plain e = true ∧ c.names.lookup x = some .globalImplicit ∧ lamScB scope x1 x2 x3 y = true ∧ c.names.lookup y = some .cell ∧ c.top = true ∧ c.free = true ∧ lamDefs.contains c.self = true
     ·rw [if_pos g]
      obtain ⟨g1,g2,g3,g4,g5,g6,g7,g8⟩:=g
      have S:=lamScB_ok g4 ef
      have hg:Gl X x:=by
       show X.env.scope.names.lookup x = _
       rw [G.sc]; exact g3
      obtain ⟨P,D⟩:=G.x.at' g6 (by simpa using g8)
      refine je_lam (j:=c.lj) (P:=P) (G.x.fnL x FL el) (G.free g7).1 hg (okN_d g1) (h e) D S (by rw [G.N]; exact ixOf_get ei) (.inl (by rw [G.sc]; exact g5)) (G.fn g6 y) (fun base pl cy A outer s H E M hr => ?_) (fun r => star_plain g2)
      refine (hb c.lj (c.inLam [x1,x2,x3,y] scope.names) (cxL X.prog X.w X.K X.mg base [x1,x2,x3,y] pl scope [(y,cy)] A outer s H E) ⟨rfl,rfl,S.nd,room_un hr,fun _ => ⟨hr,rfl⟩,(fun z => by cases z),G.cst,G.bl,fun x n F h => ?_,(fun z => by cases z),(fun z => by cases z),S.kind,G.tab,G.cls,G.cln,G.dcs,RoomU.of hr,(fun x n F h => by cases h),⟨(fun p L z => by cases z),(fun x F z => by cases z),fun x n F h hx => ?_,(fun z => by cases z)⟩,⟨_,_,_,rfl,rfl,rfl⟩⟩).1 body
      ·obtain ⟨h1,h2⟩:=look_filter (q:=fun n => c.lfn.contains n) h
       exact G.x.fnJ x n F h1 h2 base M
      ·obtain ⟨h1,h2⟩:=look_filter (q:=fun n => c.lfn.contains n) h
       exact G.x.fnJ x n F h1 h2
     ·rw [if_neg g]; exact je_bad
def lam3:Expr → Option (Str × Str × Str × Expr × Scope)
 | .Lambda a b s _ => if (a.posonlyargs.isEmpty && a.vararg.isNone && a.kwonlyargs.isEmpty && a.kw_defaults.isEmpty && a.kwarg.isNone && a.defaults.isEmpty) = true then (match a.args with | [u,v,w] => some (u.arg,v.arg,w.arg,b,s) | _ => none) else none
 | _ => none
theorem lam3_ok {e:Expr} {x1 x2 x3:Str} {b:Expr} {s:Scope} (h:lam3 e = some (x1,x2,x3,b,s)):∃ a1 a2 a3 q1 q2 q3 p,e = .Lambda (lamArgs x1 x2 x3 a1 a2 a3 q1 q2 q3) b s p:=by
 cases e with
 | Lambda a b' s' p =>
  obtain ⟨po,ar,va,ko,kd,kw,df⟩:=a
  cases po with
  | cons _ _ => cases h
  | nil => cases va with
   | some _ => cases h
   | none => cases ko with
    | cons _ _ => cases h
    | nil => cases kd with
     | cons _ _ => cases h
     | nil => cases kw with
      | some _ => cases h
      | none => cases df with
       | cons _ _ => cases h
       | nil =>
        rcases ar with _ | ⟨⟨y1,a1,q1⟩,_ | ⟨⟨y2,a2,q2⟩,_ | ⟨⟨y3,a3,q3⟩,_ | ⟨_,_⟩⟩⟩⟩ <;> cases h
        exact ⟨a1,a2,a3,q1,q2,q3,p,rfl⟩
 | _ => cases h
noncomputable def cCallL (c:Ct) (sub:Ct → (Expr → GE) × (Expr → GT)) (fE:Expr → GE) (pos:Pos) (f:Expr) (as:List Expr) (ks:List Keyword):GE:=match as with
 | [e,l] => (match lam3 l with
  | some (x1,x2,x3,body,scope) => (match f with
   | .Name x _ => (match ks with
    | [] => cLam c sub fE x e x1 x2 x3 body scope
    | _ :: _ => cCall c fE pos f [e,l] ks)
   | _ => cCall c fE pos f [e,l] ks)
  | none => cCall c fE pos f [e,l] ks)
 | _ => cCall c fE pos f as ks
theorem cCallL_ok {c:Ct} {k:Nat} (G:Good c k X) {sub:Ct → (Expr → GE) × (Expr → GT)} (hb:∀ k c X,Good c k X → (∀ e,JE X e ((sub c).1 e)) ∧ ∀ e,JT X e ((sub c).2 e)) {fE:Expr → GE} (h:∀ e,JE X e (fE e)) (f:Expr) (as:List Expr) (ks:List Keyword) (pos:Pos):JE X (.Call f as ks pos) (cCallL c sub fE pos f as ks):=by
 have d:=cCall_ok G h f as ks pos
 rcases as with _ | ⟨e,_ | ⟨l,_ | ⟨l2,r⟩⟩⟩
 ·exact d
 ·exact d
 ·unfold cCallL
  dsimp only
  cases hl:lam3 l with
  | none => exact d
  | some q =>
   obtain ⟨x1,x2,x3,b,s⟩:=q
   obtain ⟨a1,a2,a3,q1,q2,q3,p,rfl⟩:=lam3_ok hl
   dsimp only
   cases f with
   | Name x px =>
    cases ks with
    | nil => exact cLam_ok G hb h _ _ _ _ _ _ _ _ _ _ _ _ _ _ _ _
    | cons _ _ => exact d
   | _ => exact d
 ·exact d
noncomputable def stepE (c:Ct) (sub:Ct → (Expr → GE) × (Expr → GT)) (f:Expr → GE) (t:Expr → GT):Expr → GE
 | .Name x _ => cName c x
 | .Constant k _ _ => cConst k
 | .BinOp a o b _ => gBin (binO o) (f a) (f b)
 | .UnaryOp o a _ => unG f o a
 | .BoolOp .And es _ => andV f es
 | .BoolOp .Or es _ => orV f es
 | .Compare a os bs _ => cmpD c f a os bs
 | .IfExp q a b _ => gIfE (t q) (f a) (f b)
 | .Tuple es _ _ => seqG f gTup es
 | .List es _ => seqG f gLst es
 | .Subscript a b _ => subD c f a b
 | .Call g as ks p => cCallL c sub f p g as ks
 | .ListComp elt gens scope _ => coG c sub f elt scope gens
 | _ => gBad
def stepT (c:Ct) (f:Expr → GE) (t:Expr → GT):Expr → GT
 | .UnaryOp .Not a _ => gNot (t a)
 | .BoolOp .And es _ => andT t es
 | .BoolOp .Or es _ => orT t es
 | .Compare a os bs _ => cmpTD c f a os bs
 | .Name x p => gTru (f (.Name x p))
 | .Call g as ks p => gTru (f (.Call g as ks p))
 | .Subscript a b p => gTru (f (.Subscript a b p))
 | .Constant k j p => gTru (f (.Constant k j p))
 | .BinOp a o b p => gTru (f (.BinOp a o b p))
 | _ => gBadT
theorem stepE_ok {c:Ct} {k:Nat} (G:Good c k X) {sub:Ct → (Expr → GE) × (Expr → GT)} (hb:∀ k c X,Good c k X → (∀ e,JE X e ((sub c).1 e)) ∧ ∀ e,JT X e ((sub c).2 e)) {f:Expr → GE} {t:Expr → GT} (h:∀ e,JE X e (f e)) (ht:∀ e,JT X e (t e)) (e:Expr):JE X e (stepE c sub f t e):=by
 have hu:X.A.units + 64 < cLine:=G.un
 cases e with
 | Name x p => exact cName_ok G x p
 | Constant v j p => exact cConst_ok v j p
 | BinOp a o b p => exact je_bin (binO_ok o) (h a) (h b)
 | UnaryOp o a p =>
  cases o with
  | USub => exact je_neg (h a)
  | Not => exact je_not (h a)
  | _ => exact je_bad
 | BoolOp o es p =>
  cases o with
  | And => exact andV_ok h p es
  | Or => exact orV_ok h p es
 | Compare a os bs p => exact cmpD_ok G h a os bs p
 | IfExp q a b p => exact je_if (ht q) (h a) (h b)
 | Tuple es j p =>
  show JE X _ (seqG f gTup es)
  unfold seqG
  by_cases g:es.all plain = true
  ·rw [if_pos g]; exact je_tup (args_ok h es g)
  ·rw [if_neg g]; exact je_bad
 | List es p =>
  show JE X _ (seqG f gLst es)
  unfold seqG
  by_cases g:es.all plain = true
  ·rw [if_pos g]; exact je_lst (args_ok h es g)
  ·rw [if_neg g]; exact je_bad
 | Subscript a b p => exact subD_ok G h a b p
 | Call g as ks p => exact cCallL_ok G hb h g as ks p
 | ListComp elt gens scope p => exact (co_both G (hb k) h elt scope gens p).1
 | _ => exact je_bad
def isCo:Expr → Bool
 | .ListComp .. => true
 | .SetComp .. => true
 | .DictComp .. => true
 | .Set .. => true
 | _ => false
theorem swap_no {e:Expr} {t:Option Expr} {n:Nat} {env:Env} (h:isCo e = false):swapsWith e t n env = pure false:=by
 cases e <;> first | rfl | cases h
theorem stepE_as {c:Ct} {k:Nat} (G:Good c k X) {sub:Ct → (Expr → GE) × (Expr → GT)} (hb:∀ k c X,Good c k X → (∀ e,JE X e ((sub c).1 e)) ∧ ∀ e,JT X e ((sub c).2 e)) {f:Expr → GE} {t:Expr → GT} (h:∀ e,JE X e (f e)) (ht:∀ e,JT X e (t e)) (e:Expr):JAs X e (stepE c sub f t e):=by
 by_cases g:isCo e = false
 ·exact fun i y py spos hN hi hl hf => js_set i hN (stepE_ok G hb h ht e) hi hl (swap_no g) hf
 ·cases e with
  | ListComp elt gens scope p => exact (co_both G (hb k) h elt scope gens p).2
  | SetComp => exact jas_bad
  | DictComp => exact jas_bad
  | Set => exact jas_bad
  | _ => exact absurd rfl g
theorem stepT_ok {c:Ct} {k:Nat} (G:Good c k X) {f:Expr → GE} {t:Expr → GT} (h:∀ e,JE X e (f e)) (ht:∀ e,JT X e (t e)) (e:Expr):JT X e (stepT c f t e):=by
 have hu:X.A.units + 64 < cLine:=G.un
 cases e with
 | UnaryOp o a p =>
  cases o with
  | Not => exact jt_not (ht a)
  | _ => exact jt_bad
 | BoolOp o es p =>
  cases o with
  | And => exact (andT_ok ht p es).jt
  | Or => exact (orT_ok ht p es).jt
 | Compare a os bs p => exact cmpTD_ok G h a os bs p
 | Name x p => exact jt_tru (h _) (fun _ => rfl)
 | Call g as ks p => exact jt_tru (h _) (fun _ => rfl)
 | Subscript a b p => exact jt_tru (h _) (fun _ => rfl)
 | Constant v j p => exact jt_tru (h _) (fun _ => rfl)
 | BinOp a o b p => exact jt_tru (h _) (fun _ => rfl)
 | _ => exact jt_bad
end
noncomputable def compE:Nat → Ct → (Expr → GE) × (Expr → GT)
 | 0,_ => (fun _ => gBad,fun _ => gBadT)
 | n + 1,c => (stepE c (compE n) (compE n c).1 (compE n c).2,stepT c (compE n c).1 (compE n c).2)
section
variable {X:Cx}
theorem compE_ok:∀ (n:Nat) (k:Nat) (c:Ct) (X:Cx),Good c k X → (∀ e,JE X e ((compE n c).1 e)) ∧ ∀ e,JT X e ((compE n c).2 e)
 | 0,_,_,_,_ => ⟨fun _ => je_bad,fun _ => jt_bad⟩
 | n + 1,k,c,X,G => ⟨fun e => stepE_ok G (fun k c X G => compE_ok n k c X G) (compE_ok n k c X G).1 (compE_ok n k c X G).2 e,fun e => stepT_ok G (compE_ok n k c X G).1 (compE_ok n k c X G).2 e⟩
theorem compE_as {k:Nat}:∀ (n:Nat) (c:Ct) (X:Cx),Good c k X → ∀ e,JAs X e ((compE n c).1 e)
 | 0,_,_,_,_ => jas_bad
 | n + 1,c,X,G,e => stepE_as G (fun k c X G => compE_ok n k c X G) (compE_ok n k c X G).1 (compE_ok n k c X G).2 e
def slot (c:Ct) (x:Str):Option Nat:=if c.names.lookup x = some .local ∨ (c.names.lookup x = some .cell ∧ c.top = true) then ixOf x c.N else none
def slotL (c:Ct) (x:Str):Option Nat:=if c.names.lookup x = some .local then ixOf x c.N else none
theorem slotL_ok {c:Ct} {k:Nat} (G:Good c k X) {x:Str} {i:Nat} (h:slotL c x = some i):X.N[i]? = some x ∧ X.env.scope.names.lookup x = some .local:=by
 unfold slotL at h
 by_cases e:c.names.lookup x = some .local
 ·rw [if_pos e] at h
  exact ⟨by rw [G.N]; exact ixOf_get h,by rw [G.sc]; exact e⟩
 ·rw [if_neg e] at h; cases h
theorem slot_ok {c:Ct} {k:Nat} (G:Good c k X) {x:Str} {i:Nat} (h:slot c x = some i):X.N[i]? = some x ∧ (Loc X.env.scope x ∧ (X.fn x = true ∨ X.env.scope.names.lookup x = some .local)):=by
 unfold slot at h
 by_cases e:c.names.lookup x = some .local ∨ (c.names.lookup x = some .cell ∧ c.top = true)
 ·rw [if_pos e] at h
  refine ⟨by rw [G.N]; exact ixOf_get h,?_⟩
  rcases e with e | ⟨e,e2⟩
  ·have q:X.env.scope.names.lookup x = some .local:=by rw [G.sc]; exact e
   exact ⟨.inl q,.inr q⟩
  ·have q:X.env.scope.names.lookup x = some .cell:=by rw [G.sc]; exact e
   exact ⟨.inr q,.inl (G.fn e2 x)⟩
 ·rw [if_neg e] at h; cases h
def slots (c:Ct):List Expr → Option (List Nat)
 | [] => some []
 | .Name x _ :: es => (match slot c x,slots c es with | some i,some is => some (i :: is) | _,_ => none)
 | _ => none
theorem slots_ok {c:Ct} {k:Nat} (G:Good c k X):∀ {es:List Expr} {is:List Nat},slots c es = some is → Slots X es is
 | [],is,h => by cases h; exact .nil
 | e :: es,is,h => by
  cases e with
  | Name x p =>
   have h:(match slot c x,slots c es with | some i,some is => some (i :: is) | _,_ => none) = some is:=h
   cases e1:slot c x with
   | none => rw [e1] at h; cases h
   | some i =>
    cases e2:slots c es with
    | none => rw [e1,e2] at h; cases h
    | some js =>
     rw [e1,e2] at h
     cases h
     obtain ⟨q1,q2⟩:=slot_ok G e1
     exact .cons q1 q2 (slots_ok G e2)
  | _ => cases h
def isTp:Expr → Bool
 | .Tuple .. => true
 | _ => false
def tpOk (es:List Expr) (v:Expr):Bool:=!isTp v || decide (4 ≤ es.length)
theorem swap_none {es:List Expr} {k:Nat} {p:Pos} {v:Expr} (h:tpOk es v = true):swappedStores [.Tuple es k p] v X.env = pure none:=by
 cases v with
 | Tuple vs k2 p2 =>
  have h4:4 ≤ es.length:=by simpa [tpOk,isTp] using h
  unfold swappedStores
  have:(!(es.length == 2 || es.length == 3) || vs.length != es.length || X.env.blockKind != .function) = true:=by
   have h2:(es.length == 2) = false:=by simp; omega
   have h3:(es.length == 3) = false:=by simp; omega
   rw [h2,h3]; rfl
  dsimp only
  rw [if_pos this]
 | _ => rfl
def asgG (c:Ct) (f:Expr → GE) (v:Expr):List Expr → GS
 | [.Name x _] => (match slot c x with | some i => gSet i (f v) | none => gNever)
 | [.Subscript o i _] => if isCo v = false ∧ isSl i = false then gSetI (f v) (f o) (f i) else gNever
 | [.Tuple es _ _] => if isCo v = false ∧ tpOk es v = true ∧ c.free = true then (match slots c es with | some is => gSetT is (f v) | none => gNever) else gNever
 | _ => gNever
theorem asg_ok {c:Ct} {k:Nat} (G:Good c k X) {f:Expr → GE} (h:∀ e,JE X e (f e)) (ha:∀ e,JAs X e (f e)) (v:Expr) (ts:List Expr) (pos:Pos):JS X (.Assign ts v pos) (asgG c f v ts):=by
 unfold asgG
 split
 ·rename_i x p
  cases e:slot c x with
  | none => exact js_never
  | some i =>
   obtain ⟨e1,e2⟩:=slot_ok G e
   dsimp only
   exact ha v i x _ _ (by rw [G.N]; exact G.nd) e1 e2.1 e2.2
 ·rename_i o i p
  by_cases g:isCo v = false ∧ isSl i = false
  ·rw [if_pos g]
   have g2:=g.2
   refine js_setI (h v) (h o) (h i) (by unfold swapsWithSole; exact swap_no g.1) ?_ rfl ?_
   ·cases v <;> rfl
   ·intro _
    cases i <;> first | rfl | cases g2
  ·rw [if_neg g]; exact js_never
 ·rename_i es kk p
  by_cases g:isCo v = false ∧ tpOk es v = true ∧ c.free = true
  ·rw [if_pos g]
   cases e1:slots c es with
   | none => exact js_never
   | some is =>
    have g2:=g.2.1
    refine js_setT (by rw [G.N]; exact G.nd) (G.free g.2.2).2 (slots_ok G e1) (h v) (swap_no g.1) ?_
    exact swap_none g2
  ·rw [if_neg g]; exact js_never
 ·exact js_never
noncomputable def forG (c:Ct) (f:Expr → GE) (i:Nat) (gb:GS):Expr → GS
 | .Call (.Name x p) [a] [] q => if isRange c x = true then (if plain a = true then gForR1 i (argsG f [a]) gb else gNever) else gFor i (f (.Call (.Name x p) [a] [] q)) gb
 | .Call (.Name x p) [a,b] [] q => if isRange c x = true then (if plain a = true ∧ plain b = true then gForR2 i (argsG f [a,b]) gb else gNever) else gFor i (f (.Call (.Name x p) [a,b] [] q)) gb
 | e => if isSet e = false then gFor i (f e) gb else gNever
theorem for_ok {c:Ct} {k:Nat} (G:Good c k X) (hl:c.loop = true) {f:Expr → GE} (h:∀ e,JE X e (f e)) {x:Str} {i:Nat} (hx:slot c x = some i) {body:List Stmt} {gb:GS} (hb:JSs X body gb) (e:Expr) (pos pos':Pos):JS X (.For (.Name x pos') e body [] pos) (forG c f i gb e):=by
 have nd:X.N.Nodup:=by rw [G.N]; exact G.nd
 obtain ⟨e1,e2⟩:=slot_ok G hx
 have rg:=range_ok G
 unfold forG
 split
 ·rename_i y p a q
  by_cases g:isRange c y = true
  ·rw [if_pos g]
   obtain ⟨rfl,g2,g3⟩:=rg y g
   by_cases ga:plain a = true
   ·rw [if_pos ga]
    exact js_forR1 i nd (G.loop hl).2 (G.loop hl).1 g2 g3 (args_ok h [a] (by simp [ga])) hb e1 e2.1 e2.2 (star_plain ga)
   ·rw [if_neg ga]; exact js_never
  ·rw [if_neg g]; exact js_for i nd (G.loop hl).2 (G.loop hl).1 (h _) hb e1 e2.1 e2.2 (fold_no rfl)
 ·rename_i y p a b q
  by_cases g:isRange c y = true
  ·rw [if_pos g]
   obtain ⟨rfl,g2,g3⟩:=rg y g
   by_cases ga:plain a = true ∧ plain b = true
   ·rw [if_pos ga]
    exact js_forR2 i nd (G.loop hl).2 (G.loop hl).1 g2 g3 (args_ok h [a,b] (by simp [ga])) hb e1 e2.1 e2.2 (by rw [star_plain ga.1,star_plain ga.2]; rfl) (by rw [star_plain ga.2]; rfl)
   ·rw [if_neg ga]; exact js_never
  ·rw [if_neg g]; exact js_for i nd (G.loop hl).2 (G.loop hl).1 (h _) hb e1 e2.1 e2.2 (fold_no rfl)
 ·by_cases g:isSet e = false
  ·rw [if_pos g]; exact js_for i nd (G.loop hl).2 (G.loop hl).1 (h _) hb e1 e2.1 e2.2 (fold_no g)
  ·rw [if_neg g]; exact js_never
def raiseG (c:Ct) (f:Expr → GE):Expr → GS
 | .Call (.Name x _) (e :: es) [] _ => if okN x = true ∧ (e :: es).all plain = true ∧ c.names.lookup x = some .globalImplicit ∧ c.clss.contains x = true ∧ c.free = true then gRaise x (argsG f (e :: es)) else gNever
 | _ => gNever
theorem raise_ok {c:Ct} {k:Nat} (G:Good c k X) {f:Expr → GE} (h:∀ e,JE X e (f e)) (e:Expr) (pos:Pos):JS X (.Raise (some e) none pos) (raiseG c f e):=by
 unfold raiseG
 split
 ·rename_i x p e es q
  by_cases g:okN x = true ∧ (e :: es).all plain = true ∧ c.names.lookup x = some .globalImplicit ∧ c.clss.contains x = true ∧ c.free = true
  ·rw [if_pos g]
   obtain ⟨g1,g2,g3,g4,g5⟩:=g
   have hg:Gl X x:=by
    show X.env.scope.names.lookup x = _
    rw [G.sc]; exact g3
   have gp:plain e = true ∧ es.all plain = true:=by rw [List.all_cons,Bool.and_eq_true] at g2; exact g2
   obtain ⟨C,q1,q2⟩:=G.cls x g4
   exact js_raise (G.free g5).2 q2 hg q1 (args_ok h (e :: es) g2) (okN_d g1) (star_plain gp.1) (any_plain gp.2)
  ·rw [if_neg g]; exact js_never
 ·exact js_never
def tryG (c:Ct) (b:Ct → List Stmt → GS) (body:List Stmt):List ExceptHandler → GS
 | [.ExceptHandler (some (.Name x _)) (some n) (b0 :: suite) _] => if okN x = true ∧ c.names.lookup x = some .globalImplicit ∧ c.clss.contains x = true ∧ c.free = true ∧ c.top = true then
   (match slotL c n with
   | some i => gTry (fun y => c.tc.lookup (y,x)) i (b c.inTry body) (b c.inSuite (b0 :: suite))
   | none => gNever) else gNever
 | [.ExceptHandler (some (.Name x _)) none (b0 :: suite) _] => if okN x = true ∧ c.names.lookup x = some .globalImplicit ∧ c.clss.contains x = true ∧ c.free = true ∧ c.top = true then
   gTryN (fun y => c.tc.lookup (y,x)) (b c.inTry body) (b c.inSuite (b0 :: suite)) else gNever
 | _ => gNever
theorem try_ok {c:Ct} {k:Nat} (G:Good c k X) {b:Ct → List Stmt → GS} (hb:∀ c X,Good c k X → ∀ s,JSs X s (b c s)) (body:List Stmt) (hs:List ExceptHandler) (pos:Pos):JS X (.Try body hs [] [] pos) (tryG c b body hs):=by
 unfold tryG
 split
 ·rename_i x p n b0 suite q
  by_cases g:okN x = true ∧ c.names.lookup x = some .globalImplicit ∧ c.clss.contains x = true ∧ c.free = true ∧ c.top = true
  ·rw [if_pos g]
   obtain ⟨g1,g3,g4,g5,g6⟩:=g
   have hg:Gl X x:=by
    show X.env.scope.names.lookup x = _
    rw [G.sc]; exact g3
   obtain ⟨D,q1,q2⟩:=G.cls x g4
   cases e1:slotL c n with
   | none => exact js_never
   | some i =>
    obtain ⟨e2,e3⟩:=slotL_ok G e1
    exact js_try (G.stk g6) (by rw [G.N]; exact G.nd) e2 e3 (G.free g5).2 G.tab hg q1 q2.cls (okN_d g1) (fun pn E => hb _ _ (G.body g5 pn E) _) fun e pn E => hb _ _ (G.suite e pn E) _
  ·rw [if_neg g]; exact js_never
 ·rename_i x p b0 suite q
  by_cases g:okN x = true ∧ c.names.lookup x = some .globalImplicit ∧ c.clss.contains x = true ∧ c.free = true ∧ c.top = true
  ·rw [if_pos g]
   obtain ⟨g1,g3,g4,g5,g6⟩:=g
   have hg:Gl X x:=by
    show X.env.scope.names.lookup x = _
    rw [G.sc]; exact g3
   obtain ⟨D,q1,q2⟩:=G.cls x g4
   exact js_tryN (G.stk g6) (G.free g5).2 G.tab hg q1 q2.cls (okN_d g1) (fun pn E => hb _ _ (G.body g5 pn E) _) fun e pn E => hb _ _ (G.suite e pn E) _
  ·rw [if_neg g]; exact js_never
 ·exact js_never
def augG (c:Ct) (f:Expr → GE) (x:Str) (op:Operator) (e:Expr):GS:=match slot c x,augO op with
 | some i,some o => gAug o i (f e)
 | _,_ => gNever
theorem aug_ok {c:Ct} {k:Nat} (G:Good c k X) {f:Expr → GE} (h:∀ e,JE X e (f e)) (x:Str) (op:Operator) (e:Expr) (p pos:Pos):JS X (.AugAssign (.Name x p) op e pos) (augG c f x op e):=by
 unfold augG
 cases e1:slot c x with
 | none => exact js_never
 | some i =>
  cases e2:augO op with
  | none => exact js_never
  | some o =>
   obtain ⟨q1,q2⟩:=slot_ok G e1
   exact js_aug i e2 (by rw [G.N]; exact G.nd) (h e) q1 q2.1 q2.2
def wTurns:Nat:=100000
noncomputable def stepS (c:Ct) (f:Expr → GE) (t:Expr → GT) (b:Ct → List Stmt → GS):Stmt → GS
 | .Return (some e) _ => gRet (f e)
 | .Return none _ => gRet (gC .non)
 | .Expr e _ => if isCo e = false then gExpr (f e) else gNever
 | .If q x y _ => gIf (t q) (b c x) (b c y)
 | .Assign ts v _ => asgG c f v ts
 | .For (.Name x _) e body [] _ => if c.loop = true then (match slot c x with | some i => forG c f i (b c body) e | none => gNever) else gNever
 | .While q body [] _ => if c.loop = true then gWhile wTurns (t q) (b c body) else gNever
 | .AugAssign (.Name x _) op e _ => augG c f x op e
 | .Raise (some e) none _ => raiseG c f e
 | .Try body hs [] [] _ => tryG c b body hs
 | .Pass _ => gNext
 | _ => gNever
theorem stepS_ok {c:Ct} {k:Nat} (G:Good c k X) {f:Expr → GE} {t:Expr → GT} {b:Ct → List Stmt → GS} (h:∀ e,JE X e (f e)) (ha:∀ e,JAs X e (f e)) (ht:∀ e,JT X e (t e)) (hb:∀ c X,Good c k X → ∀ s,JSs X s (b c s)) (s:Stmt):JS X s (stepS c f t b s):=by
 unfold stepS
 split
 ·exact js_ret (h _)
 ·exact js_retN
 ·rename_i e p
  by_cases g:isCo e = false
  ·rw [if_pos g]; exact js_expr (h _) (swap_no g)
  ·rw [if_neg g]; exact js_never
 ·exact js_if (ht _) (hb c X G _) (hb c X G _)
 ·exact asg_ok G h ha _ _ _
 ·rename_i x p e body q
  by_cases g:c.loop = true
  ·rw [if_pos g]
   cases e1:slot c x with
   | none => exact js_never
   | some i => exact for_ok G g h e1 (hb c X G body) e _ _
  ·rw [if_neg g]; exact js_never
 ·rename_i q body p
  by_cases g:c.loop = true
  ·rw [if_pos g]; exact js_while wTurns (G.loop g).2 (ht _) (hb c X G body)
  ·rw [if_neg g]; exact js_never
 ·exact aug_ok G h _ _ _ _ _
 ·exact raise_ok G h _ _
 ·exact try_ok G hb _ _ _
 ·exact js_pass
 ·exact js_never
end
def stmtsG (f:Stmt → GS):List Stmt → GS
 | [] => gNext
 | [s] => f s
 | s :: s' :: r => gSeq (f s) (stmtsG f (s' :: r))
theorem stmts_ok {X:Cx} {f:Stmt → GS} (h:∀ s,JS X s (f s)):∀ ss,JSs X ss (stmtsG f ss)
 | [] => jss_nil
 | [s] => jss_one (h s)
 | s :: s' :: r => jss_cons (h s) (stmts_ok h (s' :: r))
noncomputable def compS:Nat → Ct → List Stmt → GS
 | 0,_ => fun _ => gNever
 | n + 1,c => stmtsG (stepS c (compE 40 c).1 (compE 40 c).2 (compS n))
theorem compS_ok {k:Nat}:∀ (n:Nat) (c:Ct) (X:Cx),Good c k X → ∀ ss:List Stmt,JSs X ss (compS n c ss)
 | 0,_,_,_,_ => jss_never
 | n + 1,c,X,G,ss => stmts_ok (fun s => stepS_ok G (compE_ok 40 k c X G).1 (compE_as 40 c X G) (compE_ok 40 k c X G).2 (compS_ok n) s) ss
structure LamK (K:PySem.W.Frag) (mg:Str → Option Value) (q:Str) (P:Addr):Prop where
 tab:tabFree K q = some P
 code:∃ c o vs file tf flags tg inF text tt,PySem.W.tabIn K q = some (c,P) ∧ K.lookup c = some o ∧ o.cls = .type "code" ∧ o.data = .fields vs ∧ vs[11]? = some (.ref P) ∧ vs.getD 11 .none = .ref P ∧ vs.getD 18 .none = .str file tf ∧
  vs.getD 7 .none = .int flags tg ∧ vs.getD 9 .none = .bool inF ∧ vs.getD 10 .none = .int text tt ∧ c ≠ P
 mem:q ∈ lamDefs
 uniq:∀ q',q' ∈ lamDefs → tabFree K q' = some P → q' = q
theorem LamK.at' {X:Cx} {q:Str} {P f:Addr} {cdv:Value} (h:LamK X.K X.mg q P) (M:ModB X.K X.mg X.base) (hn:PySem.W.nsIn X.K mainGlobals q = some (some (.ref f))) (hc:CodeOf X.K f cdv) (e1:X.env.code = cdv) (e2:X.env.qual = q ++ ".<locals>."):LamAt X q P:=by
 obtain ⟨c,o,vs,file,tf,flags,tg,inF,text,tt,t,l,r⟩:=h.code
 refine ⟨⟨c,?_,o,vs,file,tf,flags,tg,inF,text,tt,M.1.kin _ _ l,r⟩,e2,h.tab,h.mem,h.uniq,M.2⟩
 ·obtain ⟨of,lf,fd,d,cd⟩:=hc
  rw [e1,← cd]
  unfold PySem.W.tabIn at t
  rw [hn] at t
  dsimp only at t
  rw [lf] at t
  obtain ⟨oc,od,da,sl⟩:=of
  dsimp only at d
  subst d
  dsimp only at t
  cases q1:fd.code with
  | ref c2 =>
   rw [q1] at t
   dsimp only at t
   split at t
   ·split at t
    ·cases t; rfl
    ·cases t
   ·cases t
  | _ => rw [q1] at t; cases t
structure TopX (c:Ct) (k:Nat) (P:Program) (w:World) (K:PySem.W.Frag) (mg:Str → Option Value) (base:Heap):Prop where
 lam:∀ p L,c.lam = some (p,L) → HasL P w K mg base k p 3 L
 fnL:∀ x F,c.fnL.lookup x = some F → FnL P w K mg k c.lj x F
 fnJ:∀ x n F,c.fns.lookup x = some (n,F) → c.lfn.contains x = true → ∀ base,ModB K mg base → Has P w K mg base c.lj x n F
 at':c.self ∈ lamDefs → ∃ P,LamK K mg c.self P
theorem TopX.no {c:Ct} {k:Nat} {P:Program} {w:World} {K:PySem.W.Frag} {mg:Str → Option Value} {base:Heap} (h1:c.lam = none) (h2:c.fnL = []) (h3:c.lfn = []) (h4:c.self = ""):TopX c k P w K mg base :=
 ⟨(fun p L e => by rw [h1] at e; cases e),(fun x F e => by rw [h2] at e; cases e),(fun x n F _ e => by rw [h3] at e; cases e),(fun e => by rw [h4] at e; exact absurd e (by decide))⟩
structure TopOk (c:Ct) (k:Nat) (P:Program) (w:World) (K:PySem.W.Frag) (mg:Str → Option Value) (base:Heap):Prop where
 cst:∀ x w,c.consts.lookup x = some w → CstOk K mg x w
 bl:∀ x,c.bl.contains x = true → mg x = none
 fns:∀ x n F,c.fns.lookup x = some (n,F) → Has P w K mg base k x n F
 tab:TabOk K c.tb c.tt c.tc
 cls:∀ x,c.clss.contains x = true → ∃ C,mg x = some (.ref C) ∧ ExcC K x C
 cln:∀ x,c.cln.contains x = true → ∃ C,mg x = some (.ref C) ∧ ClsAt K x C
 dcs:∀ x kvs,c.dcs.lookup x = some kvs → DcAt K w mg x kvs
 fnu:∀ x n F,c.fnu.contains x = true → c.fns.lookup x = some (n,F) → HasU P w K mg base k x n F
 x:TopX c k P w K mg base
theorem has_def {P:Program} {w:World} {K:PySem.W.Frag} {mg:Str → Option Value} {base:Heap} {h:Heap} {k:Nat} {c:Ct} {x:Str} {st:Stmt} {ps:List Str} {g:GS} (KX:K.In h) (NS:h.Ns mainGlobals mg) (D:DefAt K x st) (T:TopOk c k P w K mg base)
  (S:FnScope c.N ps (defScope st)) (hn:(defScope st).names = c.names) (hg:compS 30 c (defBody st) = g)
  (hb:∀ (kV doc pm:Value) (an:Option Addr) (cdv ct:Value) (us:List Value),us.length = ps.length → bindArgs (PySem.W.fnOf x x (defArgs st) (defBody st) (defScope st) .none kV doc pm an cdv ct) ⟨us,[]⟩ = pure (ps.zip us)) (hM:c.self ∈ lamDefs → ModB K mg base ∧ c.self = x:=by exact fun z => absurd (show ("":Str) ∈ lamDefs from z) (by decide)) :
  Has P w K mg base (k + 1) x ps.length (fnF c.N.length g):=by
 obtain ⟨f,fd,a,F⟩:=D
 refine ⟨f,fd,ps,?_,PySem.W.mg_of KX NS a,F.kp,F.binds hb⟩
 subst hg
 refine fn_ok F S fun cdv hcdv A outer s H E hr => ?_
 refine compS_ok (k:=k) 30 c _ ⟨rfl,hn,S.nd,room_un hr,fun _ => ⟨hr,rfl⟩,fun _ => ⟨rfl,PassesOwn.leaving⟩,T.cst,T.bl,T.fns,fun _ => ⟨rfl,rfl,rfl⟩,fun _ _ => rfl,S.kind,T.tab,T.cls,T.cln,T.dcs,RoomU.of hr,T.fnu,⟨T.x.lam,T.x.fnL,T.x.fnJ,fun _ z => ?_⟩,⟨_,_,_,rfl,rfl,rfl⟩⟩ _
 obtain ⟨P',L⟩:=T.x.at' z
 obtain ⟨M,e⟩:=hM z
 exact ⟨P',LamK.at' L M (by rw [e]; exact a) hcdv rfl (by rw [e]; rfl)⟩
theorem fn_def {P:Program} {w:World} {K:PySem.W.Frag} {mg:Str → Option Value} {base:Heap} {k:Nat} {c:Ct} {x:Str} {st:Stmt} {ps:List Str} {g:GS} {f:Addr} {fd:FuncData} (F:Fun K x x st f fd) (T:TopOk c k P w K mg base)
  (S:FnScope c.N ps (defScope st)) (hn:(defScope st).names = c.names) (hg:compS 30 c (defBody st) = g) (hs:c.self ∉ lamDefs:=by exact (show ("":Str) ∉ lamDefs by decide)):FnOk P w K mg base (CXJ P w) (k + 1) f fd ps (spW K ps.length (fnF c.N.length g)):=by
 subst hg
 refine fn_ok F S fun cdv _ A outer s H E hr => ?_
 exact compS_ok (k:=k) 30 c _ ⟨rfl,hn,S.nd,room_un hr,fun _ => ⟨hr,rfl⟩,fun _ => ⟨rfl,PassesOwn.leaving⟩,T.cst,T.bl,T.fns,fun _ => ⟨rfl,rfl,rfl⟩,fun _ _ => rfl,S.kind,T.tab,T.cls,T.cln,T.dcs,RoomU.of hr,T.fnu,⟨T.x.lam,T.x.fnL,T.x.fnJ,fun _ z => absurd z hs⟩,⟨_,_,_,rfl,rfl,rfl⟩⟩ _
end J
namespace J
open PySem PySem.Spec PyProof.Rows L2
def AllP {α:Type} (P:α → Prop):List α → Prop
 | [] => True
 | a :: l => P a ∧ AllP P l
theorem AllP.look {κ β:Type} [BEq κ] [LawfulBEq κ] {P:κ × β → Prop}:∀ {l:List (κ × β)} {x:κ} {b:β},AllP P l → l.lookup x = some b → P (x,b)
 | [],_,_,_,h => by cases h
 | (y,c) :: l,x,b,a,h => by
  rw [List.lookup_cons] at h
  cases e:x == y with
  | true =>
   rw [e] at h
   cases h
   have e':=eq_of_beq e
   subst e'
   exact a.1
  | false => rw [e] at h; exact AllP.look a.2 h
theorem AllP.mem {P:Str → Prop}:∀ {l:List Str} {x:Str},AllP P l → l.contains x = true → P x
 | [],_,_,h => by cases h
 | y :: l,x,a,h => by
  rw [List.contains_cons,Bool.or_eq_true] at h
  rcases h with e | h
  ·have e':=eq_of_beq e
   subst e'
   exact a.1
  ·exact AllP.mem a.2 h
theorem cls_one {K:PySem.W.Frag} {c:PySem.Str} {C D:Addr} (h:ClsAt K c C) (k:ClsAt K c D):C = D:=by
 unfold ClsAt at h k
 rw [h] at k
 cases k
 rfl
theorem tab_mk {K:PySem.W.Frag} {tb:Tab} {tt:TabT} {tc:Tab} (h:AllP (fun p => ∃ C D,ClsAt K p.1.1 C ∧ ClsAt K p.1.2 D ∧ ExcK K C ∧ PySem.W.kitOne K (.ref C) (.ref D) = some p.2) tb)
  (g:AllP (fun p => ∃ C,ClsAt K p.1.1 C ∧ ExcK K C ∧ PySem.W.kitOne K (.ref C) (.type p.1.2) = some p.2) tt)
  (f:AllP (fun p => ∃ C D,ClsAt K p.1.1 C ∧ ClsAt K p.1.2 D ∧ PySem.W.excIn K C bmV nwV = true ∧ PySem.W.excIn K D bmV nwV = true ∧ PySem.W.mroIn K C (.ref D) = some p.2) tc):TabOk K tb tt tc :=
 ⟨fun c d b C D e hC hD => by
  obtain ⟨C',D',q1,q2,r⟩:=AllP.look h e
  cases cls_one hC q1
  cases cls_one hD q2
  exact r,fun c d b C D e hC hD => by
  obtain ⟨C',D',q1,q2,r⟩:=AllP.look f e
  cases cls_one hC q1
  cases cls_one hD q2
  exact r,fun c T b C e hC => by
  obtain ⟨C',q1,r⟩:=AllP.look g e
  cases cls_one hC q1
  exact r⟩
theorem topOk_mk {c:Ct} {k:Nat} {P:Program} {w:World} {K:PySem.W.Frag} {mg:Str → Option Value} {base:Heap} (hc:AllP (fun p => CstOk K mg p.1 p.2) c.consts) (hb:AllP (fun x => mg x = none) c.bl) (hf:AllP (fun p => Has P w K mg base k p.1 p.2.1 p.2.2) c.fns)
  (ht:TabOk K c.tb c.tt c.tc) (hk:AllP (fun x => ∃ C,mg x = some (.ref C) ∧ ExcC K x C) c.clss) (hn:AllP (fun x => ∃ C,mg x = some (.ref C) ∧ ClsAt K x C) c.cln) (hd:AllP (fun p => DcAt K w mg p.1 p.2) c.dcs)
  (hu:AllP (fun x => ∀ n F,c.fns.lookup x = some (n,F) → HasU P w K mg base k x n F) c.fnu:=by exact trivial) (hx:TopX c k P w K mg base:=by exact TopX.no rfl rfl rfl rfl):TopOk c k P w K mg base :=
 ⟨fun _ _ h => hc.look h,fun _ h => hb.mem h,fun x n F h => hf.look (b:=(n,F)) h,ht,fun _ h => hk.mem h,fun _ h => hn.mem h,fun x kvs h => hd.look (b:=kvs) h,fun x n F h k => hu.mem h n F k,hx⟩
end J
namespace J
open PySem PySem.Spec PyProof.Rows L2
def tabsOf (K:PySem.W.Frag):List Addr:=lamDefs.filterMap (tabFree K)
def TabsK (K:PySem.W.Frag) (ts:List Addr):Prop:=∀ q P,q ∈ lamDefs → tabFree K q = some P → P ∈ ts ∧ ∃ c o vs,K.lookup c = some o ∧ o.cls = .type "code" ∧ o.data = .fields vs ∧ vs[11]? = some (.ref P)
theorem mem_tabs {K:PySem.W.Frag} {P:Addr} (h:P ∈ tabsOf K):∃ q,q ∈ lamDefs ∧ tabFree K q = some P:=by
 unfold tabsOf at h
 obtain ⟨q,hq,e⟩:=List.mem_filterMap.mp h
 exact ⟨q,hq,e⟩
theorem free_none {K:PySem.W.Frag} {q:Str} {P:Addr} (h:tabFree K q = some P):K.lookup P = none ∧ ∃ c,PySem.W.tabIn K q = some (c,P):=by
 unfold tabFree at h
 cases t:PySem.W.tabIn K q with
 | none => rw [t] at h; cases h
 | some cp =>
  obtain ⟨c,P'⟩:=cp
  rw [t] at h
  dsimp only at h
  split at h
  ·rename_i z; cases h; exact ⟨by simpa using z,c,rfl⟩
  ·cases h
theorem free_of {K:PySem.W.Frag} {q:Str} {c P:Addr} (t:PySem.W.tabIn K q = some (c,P)) (h:K.lookup P = none):tabFree K q = some P:=by
 unfold tabFree
 rw [t]
 dsimp only
 rw [h]
 rfl
theorem lamK_mk {K:PySem.W.Frag} {mg:Str → Option Value} {q:Str} {c P:Addr} {o:Obj} {vs:Array Value} {file:Str} {tf tg tt:Tok} {flags text:Int} {inF:Bool} (hq:q ∈ lamDefs) (ht:PySem.W.tabIn K q = some (c,P)) (hn:K.lookup P = none) (hc:K.lookup c = some o) (h1:o.cls = .type "code") (h2:o.data = .fields vs)
  (h3:vs[11]? = some (.ref P)) (h4:vs.getD 11 .none = .ref P) (h5:vs.getD 18 .none = .str file tf) (h6:vs.getD 7 .none = .int flags tg) (h7:vs.getD 9 .none = .bool inF) (h8:vs.getD 10 .none = .int text tt) (hne:c ≠ P)
  (hu:∀ q',q' ∈ lamDefs → tabFree K q' = some P → q' = q):LamK K mg q P :=
 ⟨free_of ht hn,⟨c,o,vs,file,tf,flags,tg,inF,text,tt,ht,hc,h1,h2,h3,h4,h5,h6,h7,h8,hne⟩,hq,hu⟩
theorem law_hasM {P:Program} {w:World} {K:PySem.W.Frag} {mg:Str → Option Value} {h:Heap} {k:Nat} {F:List Wv → Hs → Re Wv} {fa:Addr} {st:Stmt} (KX:K.In h) (NS:h.Ns mainGlobals mg) (hmg:mg "law" = some (.ref fa)) (D:DefAt K "law" st)
  (hp:∀ (kV doc pm:Value) (an:Option Addr) (cdv ct:Value) (s:Shared) (u:Value),BindsTo s (PySem.W.fnOf "law" "law" (defArgs st) (defBody st) (defScope st) .none kV doc pm an cdv ct) ⟨[u],[]⟩ [("script",u)])
  (FN:∀ (f:Addr) (fd:FuncData),Fun K "law" "law" st f fd → ∀ base:Heap,ModB K mg base → FnOk P w K mg base (CXJ P w) k f fd ["script"] (spW K 1 F)) :
  ∃ fd:FuncData,(∀ (s:Shared) (u:Value),BindsTo s fd ⟨[u],[]⟩ [("script",u)]) ∧ ∀ base:Heap,ModB K mg base → FnOk P w K mg base (CXJ P w) k fa fd ["script"] (spW K 1 F):=by
 obtain ⟨f,fd,a,Fu⟩:=D
 have e:=hmg.symm.trans (PySem.W.mg_of KX NS a)
 cases e
 refine ⟨fd,fun s u => ?_,FN fa fd Fu⟩
 obtain ⟨oc,od,kV,doc,pm,an,cdv,ct,osl,rfl,lk,hcd⟩:=Fu.ex
 exact hp kV doc pm an cdv ct s u
theorem HasL.mono {P:Program} {w:World} {K:PySem.W.Frag} {mg:Str → Option Value} {base:Heap} {j k:Nat} {p:Lm} {n:Nat} {L:LF} (h:HasL P w K mg base j p n L) (l:j ≤ k):HasL P w K mg base k p n L:=by
 obtain ⟨fd,ps,ob,G,r⟩:=h
 exact ⟨fd,ps,ob,G.mono l,r⟩
theorem topX_mk {c:Ct} {k:Nat} {P:Program} {w:World} {K:PySem.W.Frag} {mg:Str → Option Value} {base:Heap} (hl:c.lam = none) (hf:AllP (fun q => FnL P w K mg k c.lj q.1 q.2) c.fnL)
  (hj:AllP (fun x => ∀ n F,c.fns.lookup x = some (n,F) → ∀ base,ModB K mg base → Has P w K mg base c.lj x n F) c.lfn) (ha:c.self ∈ lamDefs → ∃ P,LamK K mg c.self P):TopX c k P w K mg base :=
 ⟨(fun p L e => by rw [hl] at e; cases e),fun x F e => hf.look (b:=F) e,fun x n F e h => hj.mem h n F e,ha⟩
theorem topX_lam {c:Ct} {k:Nat} {P:Program} {w:World} {K:PySem.W.Frag} {mg:Str → Option Value} {base:Heap} {p:Lm} {L:LF} (hl:c.lam = some (p,L)) (H:HasL P w K mg base k p 3 L) (h2:c.fnL = []) (h3:c.lfn = []) (h4:c.self = ""):TopX c k P w K mg base :=
 ⟨(fun p' L' e => by rw [hl] at e; cases e; exact H),(fun x F e => by rw [h2] at e; cases e),(fun x n F _ e => by rw [h3] at e; cases e),(fun e => by rw [h4] at e; exact absurd e (by decide))⟩
theorem law_callT {P:Program} {w:World} {K:PySem.W.Frag} {mg mb:Str → Option Value} {CX:CXT} {k:Nat} {fa a:Addr} {fd:FuncData} {x:Str} {sp:Sp} {s₁:Shared} {vs:List Value} {ns:List Int} {ts:List Addr}
  (KX:K.In s₁.heap) (T:TabsK K ts) (TH:∀ P ∈ ts,s₁.heap.get? P = some (PySem.W.tabObj #[])) (hbm:BmOk mg s₁.heap) (hns:s₁.heap.Ns mainGlobals mg) (hb:s₁.heap.Ns builtinsNs mb) (hbb:∀ x:Str,x ≠ "__name__" → mb x = bootBuiltins x) (hlim:s₁.heap.NoLimit) (hg:s₁.gens = #[])
  (ha:s₁.heap.get? a = some { cls:=.type "list",data:=.seq vs.toArray }) (hi:IntsAre vs ns) (hl:ns.length ≤ sizeLine) (hr:Room k callerA)
  (F:∀ base:Heap,ModB K mg base → FnOk P w K mg base CX k fa fd [x] sp) (hbind:∀ (s:Shared) (u:Value),BindsTo s fd ⟨[u],[]⟩ [(x,u)])
  (hsp:∀ H:Hp,OnlyT H → SqL K H a (ns.map V.int) → TbOk K H → sp [.ref a] H (fun v _ => v = .bl true) fun _ _ _ => False)
  (hCX:∀ H e s',CX [] H s₁ (fun _ _ _ => False) e s' → False) :
  codeAny (model P w) callerA (.call (.ref fa) ⟨[.ref a],[]⟩) (fun r s' => r = .ok (.ret (.bool true)) ∧ OldK s₁.heap s'.heap ∧ s'.os = s₁.os ∧ AllBare s'.gens) s₁:=by
 have rv:=vals_ints hi
 have lenV:=hi.length
 have tabH:∀ b ∈ tabsOf K,s₁.heap.get? b = some (PySem.W.tabObj #[]):=fun b hbt => by
  obtain ⟨q,hq,t⟩:=mem_tabs hbt
  exact TH _ (T q b hq t).1
 have nta:a ∉ tabsOf K:=fun z => by
  have e:=tabH a z
  rw [ha] at e; cases e
 have core:∀ S:Option HO,(S = none ∨ S = some (.frz { cls:=.type "list",data:=.seq vs.toArray } (.lst (ns.map V.int)))) → (S = none → SqL K (fun b => if b = a then S else if b ∈ tabsOf K then some (.tbl #[]) else none) a (ns.map V.int)) → (S ≠ none → K.lookup a = none) →
   codeAny (model P w) callerA (.call (.ref fa) ⟨[.ref a],[]⟩) (fun r s' => r = .ok (.ret (.bool true)) ∧ OldK s₁.heap s'.heap ∧ s'.os = s₁.os ∧ AllBare s'.gens) s₁:=by
  intro S hS hS0 hK
  let H:Hp:=fun b => if b = a then S else if b ∈ tabsOf K then some (.tbl #[]) else none
  have Ha:H a = S:=if_pos rfl
  have Ht:∀ b ∈ tabsOf K,H b = some (.tbl #[]):=fun b hbt => by
   show (if b = a then S else _) = _
   rw [if_neg (fun e => nta (by rw [← e]; exact hbt)),if_pos hbt]
  have Hn:∀ b,b ≠ a → b ∉ tabsOf K → H b = none:=fun b h1 h2 => by
   show (if b = a then S else _) = _
   rw [if_neg h1,if_neg h2]
  have hO:OnlyT H:=fun b => by
   by_cases e:b = a
   ·subst e
    rw [Ha]
    rcases hS with z | z
    ·exact .inl z
    ·exact .inr (.inl ⟨_,_,z⟩)
   ·by_cases e2:b ∈ tabsOf K
    ·exact .inr (.inr (Ht b e2))
    ·exact .inl (Hn b e e2)
  have hok:HOk P w H s₁.heap:=fun b u z => by
   by_cases e:b = a
   ·subst e
    rw [Ha] at z
    rcases hS with q | q
    ·rw [q] at z; cases z
    ·rw [q] at z
     cases z
     exact ⟨ha,by rw [List.length_map]; exact hl,vs,_,rv,ha⟩
   ·by_cases e2:b ∈ tabsOf K
    ·rw [Ht b e2] at z
     cases z
     exact tabH b e2
    ·rw [Hn b e e2] at z; cases z
  have hSq:SqL K H a (ns.map V.int):=by
   rcases hS with z | z
   ·exact hS0 z
   ·exact .inl (.inr ⟨_,Ha.trans z⟩)
  have tb:TbOk K H:=fun q P' hq e => ⟨#[],Ht _ (List.mem_filterMap.mpr ⟨q,hq,e⟩),trivial,fun pos cv z => by simp [codeAmong] at z⟩
  have dictN:∀ {b:Addr} {o:Obj} {es:Array DictEntry} {ep:Nat},s₁.heap.get? b = some o → o.data = .dict es ep → H b = none:=fun {b o es ep} e d => by
   refine Hn b (fun z => ?_) (fun z => ?_)
   ·rw [z,ha] at e; cases e; cases d
   ·rw [tabH b z] at e; cases e; cases d
  have nsK:∀ {b:Addr} {m:Str → Option Value},s₁.heap.Ns b m → (hidT s₁.heap H).Ns b m:=fun {b m} ⟨o,es,ep,e,d,r⟩ => ⟨o,es,ep,hidT_get e (dictN e d),d,r⟩
  have hKb:K.In (hidT s₁.heap H):=fun b o e1 => by
   have e2:b ∉ tabsOf K:=fun z => by
    obtain ⟨q,hq,t⟩:=mem_tabs z
    rw [(free_none t).1] at e1; cases e1
   refine hidT_get (KX b o e1) ?_
   by_cases z:b = a
   ·subst z
    rw [Ha]
    rcases hS with q | q
    ·exact q
    ·rw [hK (by rw [q]; simp)] at e1; cases e1
   ·exact Hn b z e2
  have hM:Mod K mg (hidT s₁.heap H):=⟨hKb,nsK hns,⟨mb,nsK hb,hbb⟩,let ⟨mc,h1,h2⟩:=hlim; ⟨mc,nsK h1,h2⟩⟩
  have e0:Env0 P w K mg (hidT s₁.heap H) callerA [] s₁ H:=⟨rfl,hM,fun b o e => of_hidT e,Nat.le_of_eq (hidT_size _ _),trivial,fun b z => absurd (show b ∈ ([]:List Addr) from z) (by simp),hok,.of_eq hg⟩
  have hB:BmOk mg (hidT s₁.heap H):=by
   obtain ⟨bm,ob,b1,b2,b3,b4,b5,b6,b7⟩:=hbm
   refine ⟨bm,ob,b1,b2,b3,hidT_get b4 (Hn bm (fun z => ?_) fun z => ?_),b5,b6,b7⟩
   ·rw [z,ha] at b4; cases b4; cases b7
   ·rw [tabH bm z] at b4; cases b4; cases b7
  refine codeAny_mono ((F _ ⟨hM,hB⟩).run callerA [] s₁ H ⟨[.ref a],[]⟩ [.ref a] [.ref a] _ _ hr e0 (hbind s₁ (.ref a)) (.cons rfl .nil) (hsp H hO hSq tb)) fun r s' h => ?_
  cases r with
  | error e => exact (hCX H e s' h).elim
  | ok fl =>
   cases fl with
   | next => exact False.elim h
   | brk => exact False.elim h
   | cont => exact False.elim h
   | ret u =>
    obtain ⟨v,H',os,bare,un,hok',r',q⟩:=h
    have q':v = .bl true:=q
    subst q'
    obtain rfl:u = Value.bool true:=r'
    have old:∀ b o,s₁.heap.get? b = some o → asItWas s₁.heap s'.heap b o:=fun b o e => by
     cases q:H b with
     | none => exact .inl (un.keep b o e q (fun z => absurd (show b ∈ ([]:List Addr) from z) (by simp)) (by simp))
     | some u =>
      rcases hO b with z | ⟨ob,xs,z⟩ | z
      ·rw [q] at z; cases z
      ·obtain ⟨e1,_⟩:=hok b _ z
       obtain ⟨e2,_⟩:=hok' b _ (un.frzs b ob _ z)
       rw [e] at e1; cases e1
       exact .inl e2
      ·obtain ⟨more,m1⟩:=un.tbls b _ z
       have e1:s₁.heap.get? b = some (PySem.W.tabObj #[]):=hok b _ z
       have e2:s'.heap.get? b = some (PySem.W.tabObj (#[] ++ more)):=hok' b _ m1
       rw [e] at e1
       cases e1
       have hbt:b ∈ tabsOf K:=by
        by_cases e3:b ∈ tabsOf K
        ·exact e3
        ·by_cases e4:b = a
         ·rw [e4,ha] at e; cases e
         ·rw [Hn b e4 e3] at z; cases z
       obtain ⟨qq,hq,t⟩:=mem_tabs hbt
       obtain ⟨_,c,o2,vs2,l1,l2,l3,l4⟩:=T qq b hq t
       exact .inr (.inl ⟨⟨c,o2,vs2,KX _ _ l1,l2,l3,l4⟩,rfl,#[],more,rfl,e2⟩)
    exact ⟨rfl,⟨old,fun b o e => un.there b o e (by simp)⟩,os,bare⟩
 cases hk:K.lookup a with
 | some o =>
  have e:=KX a o hk
  rw [ha] at e
  cases e
  refine core none (.inl rfl) (fun _ => .inr ⟨_,vs.toArray,_,hk,rfl,rfl,rfl,by rw [List.size_toArray,lenV]; exact hl,by simpa using rv⟩) (fun z => absurd rfl z)
 | none => exact core _ (.inr rfl) (fun z => by cases z) fun _ => hk
theorem walk_ofT {l:PySem.W.OpenLaw} {n k:Nat} {q:Program} {loose:List Str} {XP:(Str → Option Value) → Heap → Prop} {YP:World → Heap → Prop} {d:DefRec} {K:Params → PySem.W.Frag} {CX:World → CXT} {sp:World → Sp} {x:Str} {ts:List Addr}
  (hn:l.most = some n) (hn2:n ≤ sizeLine) (hdf:d.params.defaults = []) (hr:Room k callerA) (hY:∀ (w:World) (h:Heap),YP w h → (K w.params).In h ∧ ∀ P ∈ ts,h.get? P = some (PySem.W.tabObj #[]))
  (F:∀ (w:World) (mg:Str → Option Value) (fa:Addr) (h:Heap),(K w.params).In h → h.Ns mainGlobals mg → mg d.name = some (.ref fa) → TabsK (K w.params) ts ∧
   ∃ fd:FuncData,(∀ (s:Shared) (u:Value),BindsTo s fd ⟨[u],[]⟩ [(x,u)]) ∧ ∀ base:Heap,ModB (K w.params) mg base → FnOk l.prog w (K w.params) mg base (CX w) k fa fd [x] (sp w))
  (hsp:∀ (w:World) (H:Hp) (a:Addr) (ns:List Int),ns.length ≤ n → OnlyT H → SqL (K w.params) H a (ns.map V.int) → TbOk (K w.params) H → sp w [.ref a] H (fun v _ => v = .bl true) fun _ _ _ => False)
  (hCX:∀ (w:World) (H:Hp) (s:Shared) (e:Value) (s':Shared),CX w [] H s (fun _ _ _ => False) e s' → False) :
  PySem.W.WalkO q loose XP YP l.row.toRowW d [] (fun f vs => PySem.call f vs):=by
 refine Att.attach_call hn hdf fun w s₀ s₁ mg mb fa o pm cd doc a vs ns G Y ho hd hcd hmg hobj hints hlen hg => ?_
 obtain ⟨KX,TH⟩:=hY w _ Y
 obtain ⟨T,fd,hb,hF⟩:=F w mg fa _ KX G.T.g hmg
 have hbm:BmOk mg s₁.heap:=by
  obtain ⟨bm,ob,b1,b2,b3,b4,b5,b6⟩:=G.T.bmain
  refine ⟨bm,ob,b1,b2,fun q => ?_,b3,b4,b5,b6⟩
  obtain ⟨o,es,ep,e,hd,_⟩:=G.T.g
  rw [q,e] at b3; cases b3; rw [hd] at b6; cases b6
 exact law_callT KX T TH hbm G.T.g G.T.b G.T.builtins G.T.nolimit hg hobj hints (Nat.le_trans hlen hn2) hr hF hb (fun H hO hS hT => hsp w H a ns hlen hO hS hT) fun H e s' => hCX w H s₁ e s'
end J
namespace J
open PySem PySem.Spec PyProof.Rows L2
def Rs.sq (r:Rs) (h:GS):Rs:=match r with
 | .nx ρ st => h ρ st
 | r => r
section
variable {α β:Type} {ρ ρ':Rho} {st:Hs} {h g ga' gb':GS} {ga gb gc:GE} {gt gu:GT} {w:Wv} {c:PySem.Str} {f:α → Hs → Re β} {k:α → Hs → Rs} {a:α} {i:Nat}
@[simp] theorem sq_nx:(Rs.nx ρ st).sq h = h ρ st:=rfl
@[simp] theorem sq_rt:(Rs.rt w st).sq h = .rt w st:=rfl
@[simp] theorem sq_bk:(Rs.bk ρ st).sq h = .bk ρ st:=rfl
@[simp] theorem sq_ct:(Rs.ct ρ st).sq h = .ct ρ st:=rfl
@[simp] theorem sq_err:(Rs.err c ρ st).sq h = .err c ρ st:=rfl
@[simp] theorem sq_bad:Rs.bad.sq h = .bad:=rfl
@[simp] theorem bind_ok:(Re.ok a st).bind f = f a st:=rfl
@[simp] theorem bind_err:(Re.err c st).bind f = .err c st:=rfl
@[simp] theorem bind_bad:(Re.bad:Re α).bind f = .bad:=rfl
@[simp] theorem thn_ok:(Re.ok a st).thn ρ k = k a st:=rfl
@[simp] theorem thn_err:(Re.err c st:Re α).thn ρ k = .err c ρ st:=rfl
@[simp] theorem nox_ok:(Re.ok a st).nox = .ok a st:=rfl
@[simp] theorem nox_bad:(Re.bad:Re α).nox = .bad:=rfl
@[simp] theorem thn_bad:(Re.bad:Re α).thn ρ k = .bad:=rfl
@[simp] theorem e_seq:gSeq g h ρ st = (g ρ st).sq h:=by unfold gSeq Rs.sq; cases g ρ st <;> rfl
@[simp] theorem e_next:gNext ρ st = .nx ρ st:=rfl
@[simp] theorem e_ret:gRet ga ρ st = (ga ρ st).thn ρ fun w st' => .rt w st':=rfl
@[simp] theorem e_expr:gExpr ga ρ st = (ga ρ st).thn ρ fun _ st' => .nx ρ st':=rfl
@[simp] theorem e_set:gSet i ga ρ st = (ga ρ st).thn ρ fun w st' => .nx (ρ.set i (some w)) st':=rfl
def kIf (ga gb:GS) (ρ:Rho):Bool → Hs → Rs:=fun b st' => if b = true then ga ρ st' else gb ρ st'
@[simp] theorem kIf_t:kIf g h ρ true st = g ρ st:=rfl
@[simp] theorem kIf_f:kIf g h ρ false st = h ρ st:=rfl
@[simp] theorem e_if:gIf gt g h ρ st = (gt ρ st).thn ρ (kIf g h ρ):=rfl
def rdV (o:Option (Option Wv)) (st:Hs):Re Wv:=match o with
 | some (some w) => .ok w st
 | _ => .bad
@[simp] theorem rdV_s:rdV (some (some w)) st = .ok w st:=rfl
@[simp] theorem e_var:gVar i ρ st = rdV ρ[i]? st:=rfl
@[simp] theorem e_c:gC w ρ st = .ok w st:=rfl
def kB (op:Op2) (gb:GE) (ρ:Rho):Wv → Hs → Re Wv:=fun x st1 => (gb ρ st1).bind fun y st2 => (op x y st2).nox
@[simp] theorem kB_d {op:Op2} {x:Wv}:kB op gb ρ x st = (gb ρ st).bind fun y st2 => (op x y st2).nox:=rfl
@[simp] theorem e_bin {op:Op2}:gBin op ga gb ρ st = (ga ρ st).bind (kB op gb ρ):=rfl
@[simp] theorem e_tst:gTst ga ρ st = (ga ρ st).bind tst:=rfl
@[simp] theorem tst_b {b:Bool}:tst (.bl b) st = .ok b st:=rfl
@[simp] theorem e_tru:gTru ga ρ st = (ga ρ st).bind truW:=rfl
@[simp] theorem truW_b {b:Bool}:truW (.bl b) st = .ok b st:=rfl
@[simp] theorem e_not:gNot gt ρ st = (gt ρ st).bind fun b st1 => .ok (!b) st1:=rfl
def kAnd (gb:GT) (ρ:Rho):Bool → Hs → Re Bool:=fun b st1 => if b = true then gb ρ st1 else .ok false st1
@[simp] theorem kAnd_t:kAnd gu ρ true st = gu ρ st:=rfl
@[simp] theorem kAnd_f:kAnd gu ρ false st = .ok false st:=rfl
@[simp] theorem e_and:gAnd gt gu ρ st = (gt ρ st).bind (kAnd gu ρ):=rfl
def kOr (gb:GT) (ρ:Rho):Bool → Hs → Re Bool:=fun b st1 => if b = true then .ok true st1 else gb ρ st1
@[simp] theorem kOr_t:kOr gu ρ true st = .ok true st:=rfl
@[simp] theorem kOr_f:kOr gu ρ false st = gu ρ st:=rfl
@[simp] theorem e_or:gOr gt gu ρ st = (gt ρ st).bind (kOr gu ρ):=rfl
def kAndV (gb:GE) (ρ:Rho):Wv → Hs → Re Wv:=fun w st1 => match w with
 | .bl true => gb ρ st1
 | .bl false => .ok (.bl false) st1
 | _ => .bad
@[simp] theorem kAndV_t:kAndV gb ρ (.bl true) st = gb ρ st:=rfl
@[simp] theorem kAndV_f:kAndV gb ρ (.bl false) st = .ok (.bl false) st:=rfl
@[simp] theorem e_andV:gAndV ga gb ρ st = (ga ρ st).bind (kAndV gb ρ):=rfl
def kOrV (gb:GE) (ρ:Rho):Wv → Hs → Re Wv:=fun w st1 => match w with
 | .bl true => .ok (.bl true) st1
 | .bl false => gb ρ st1
 | _ => .bad
@[simp] theorem kOrV_t:kOrV gb ρ (.bl true) st = .ok (.bl true) st:=rfl
@[simp] theorem kOrV_f:kOrV gb ρ (.bl false) st = gb ρ st:=rfl
@[simp] theorem e_orV:gOrV ga gb ρ st = (ga ρ st).bind (kOrV gb ρ):=rfl
def kNotV:Wv → Hs → Re Wv:=fun w st1 => match w with
 | .bl b => .ok (.bl (!b)) st1
 | _ => .bad
@[simp] theorem kNotV_b {b:Bool}:kNotV (.bl b) st = .ok (.bl (!b)) st:=rfl
@[simp] theorem e_notV:gNotV ga ρ st = (ga ρ st).bind kNotV:=rfl
def kIfE (ga gb:GE) (ρ:Rho):Bool → Hs → Re Wv:=fun b st1 => if b = true then ga ρ st1 else gb ρ st1
@[simp] theorem kIfE_t:kIfE ga gb ρ true st = ga ρ st:=rfl
@[simp] theorem kIfE_f:kIfE ga gb ρ false st = gb ρ st:=rfl
@[simp] theorem e_ifE:gIfE gt ga gb ρ st = (gt ρ st).bind (kIfE ga gb ρ):=rfl
@[simp] theorem e_nil:gNil ρ st = .ok [] st:=rfl
def kCons (gr:GA) (ρ:Rho):Wv → Hs → Re (List Wv):=fun x st1 => (gr ρ st1).bind fun xs st2 => .ok (x :: xs) st2
@[simp] theorem kCons_d {gr:GA} {x:Wv}:kCons gr ρ x st = (gr ρ st).bind fun xs st2 => .ok (x :: xs) st2:=rfl
@[simp] theorem e_cons {gr:GA}:gCons ga gr ρ st = (ga ρ st).bind (kCons gr ρ):=rfl
def kTup:List Wv → Hs → Re Wv:=fun ws st1 => if ws.length ≤ lim then .ok (.tup ws) st1 else .bad
theorem kTup_d {ws:List Wv} (hl:ws.length ≤ lim):kTup ws st = .ok (.tup ws) st:=if_pos hl
@[simp] theorem e_tup {gr:GA}:gTup gr ρ st = (gr ρ st).bind kTup:=rfl
def kLst:List Wv → Hs → Re Wv:=fun ws st1 => if ws.length ≤ lim then .ok (.ref st1.length) (st1 ++ [.lst ws]) else .bad
theorem kLst_d {ws:List Wv} (hl:ws.length ≤ lim):kLst ws st = .ok (.ref st.length) (st ++ [.lst ws]):=if_pos hl
@[simp] theorem e_lst {gr:GA}:gLst gr ρ st = (gr ρ st).bind kLst:=rfl
section
variable {x x0 x1 x2 x3 x4 x5 x6 x7:Wv}
@[simp] theorem kTup_1:kTup [x0] st = .ok (.tup [x0]) st:=kTup_d (by simp [lim])
@[simp] theorem kTup_2:kTup [x0,x1] st = .ok (.tup [x0,x1]) st:=kTup_d (by simp [lim])
@[simp] theorem kTup_3:kTup [x0,x1,x2] st = .ok (.tup [x0,x1,x2]) st:=kTup_d (by simp [lim])
@[simp] theorem kTup_4:kTup [x0,x1,x2,x3] st = .ok (.tup [x0,x1,x2,x3]) st:=kTup_d (by simp [lim])
@[simp] theorem kLst_0:kLst [] st = .ok (.ref st.length) (st ++ [.lst []]):=kLst_d (by simp [lim])
@[simp] theorem kLst_1:kLst [x0] st = .ok (.ref st.length) (st ++ [.lst [x0]]):=kLst_d (by simp [lim])
@[simp] theorem kLst_2:kLst [x0,x1] st = .ok (.ref st.length) (st ++ [.lst [x0,x1]]):=kLst_d (by simp [lim])
@[simp] theorem kLst_3:kLst [x0,x1,x2] st = .ok (.ref st.length) (st ++ [.lst [x0,x1,x2]]):=kLst_d (by simp [lim])
@[simp] theorem kLst_4:kLst [x0,x1,x2,x3] st = .ok (.ref st.length) (st ++ [.lst [x0,x1,x2,x3]]):=kLst_d (by simp [lim])
end
def kCall (n:Nat) (F:List Wv → Hs → Re Wv):List Wv → Hs → Re Wv:=fun ws st1 => if ws.length = n then F ws st1 else .bad
section
variable {F:List Wv → Hs → Re Wv} {x0 x1 x2 x3:Wv} {gr:GA}
@[simp] theorem kCall_1:kCall 1 F [x0] st = F [x0] st:=rfl
@[simp] theorem kCall_2:kCall 2 F [x0,x1] st = F [x0,x1] st:=rfl
@[simp] theorem kCall_3:kCall 3 F [x0,x1,x2] st = F [x0,x1,x2] st:=rfl
@[simp] theorem kCall_4:kCall 4 F [x0,x1,x2,x3] st = F [x0,x1,x2,x3] st:=rfl
@[simp] theorem e_call {n:Nat}:gCall n F gr ρ st = (gr ρ st).bind (kCall n F):=rfl
@[simp] theorem e_callB {op:List Wv → Hs → Re Wv}:gCallB op gr ρ st = (gr ρ st).bind fun ws st1 => (op ws st1).nox:=rfl
end
@[simp] theorem e_un {op:Wv → Hs → Re Wv}:gUn op ga ρ st = (ga ρ st).bind op:=rfl
@[simp] theorem neg_i {i:Int}:opNeg (.int i) st = .ok (.int (-i)) st:=rfl
@[simp] theorem add_i {i j:Int}:oAdd (.int i) (.int j) st = .ok (.int (i + j)) st:=rfl
@[simp] theorem sub_i {i j:Int}:oSub (.int i) (.int j) st = .ok (.int (i - j)) st:=rfl
@[simp] theorem lt_i {i j:Int}:oLt (.int i) (.int j) st = .ok (.bl (decide (i < j))) st:=rfl
@[simp] theorem le_i {i j:Int}:oLe (.int i) (.int j) st = .ok (.bl (decide (i ≤ j))) st:=rfl
@[simp] theorem gt_i {i j:Int}:oGt (.int i) (.int j) st = .ok (.bl (decide (j < i))) st:=rfl
@[simp] theorem ge_i {i j:Int}:oGe (.int i) (.int j) st = .ok (.bl (decide (j ≤ i))) st:=rfl
@[simp] theorem eq_i {i j:Int}:oEq (.int i) (.int j) st = .ok (.bl (i == j)) st:=rfl
@[simp] theorem ne_i {i j:Int}:oNe (.int i) (.int j) st = .ok (.bl (!(i == j))) st:=rfl
@[simp] theorem eq_s {i j:PySem.Str}:oEq (.str i) (.str j) st = .ok (.bl (i == j)) st:=rfl
@[simp] theorem ne_s {i j:PySem.Str}:oNe (.str i) (.str j) st = .ok (.bl (!(i == j))) st:=rfl
@[simp] theorem eq_b {i j:Bool}:oEq (.bl i) (.bl j) st = .ok (.bl (i == j)) st:=by cases i <;> cases j <;> rfl
@[simp] theorem ne_b {i j:Bool}:oNe (.bl i) (.bl j) st = .ok (.bl (!(i == j))) st:=by cases i <;> cases j <;> rfl
theorem fdiv_i {i j:Int} (h:j ≠ 0 ∧ j.natAbs.log2 < 9000):oFdiv (.int i) (.int j) st = .ok (.int (i.fdiv j)) st:=by show (if _ then _ else _) = _; rw [if_pos h]
theorem mod_i {i j:Int} (h:j ≠ 0):oMod (.int i) (.int j) st = .ok (.int (i.fmod j)) st:=by show (if _ then _ else _) = _; rw [if_pos h]
theorem mul_i {i j:Int} (h:IntMulOk i j):oMulL (.int i) (.int j) st = .ok (.int (i * j)) st:=by show (if _ then _ else _) = _; rw [if_pos h]
theorem mul_l {i j:Int} (h1:-(2 ^ 64) < i) (h2:i < 2 ^ 64):oMulL (.int i) (.int j) st = .ok (.int (i * j)) st:=mul_i (IntMulOk.of_left (intBits_le_64 h1 h2))
theorem mul_r {i j:Int} (h1:-(2 ^ 64) < j) (h2:j < 2 ^ 64):oMulL (.int i) (.int j) st = .ok (.int (i * j)) st:=mul_i (IntMulOk.of_right (intBits_le_64 h1 h2))
theorem pow_i {i j:Int} (h:0 ≤ j ∧ j ≤ 1000000 ∧ i.natAbs < 2 ^ 64):oPow (.int i) (.int j) st = .ok (.int (i ^ j.toNat)) st:=by show (if _ then _ else _) = _; rw [if_pos h]
theorem ix_l {l:Nat} {i:Int} {ws:List Wv} {v:Wv} (h:lstOf st l = some ws) (h2:atI ws i = some v):oIx (.ref l) (.int i) st = .ok v st:=by
 show (match lstOf st l with | some ws => (match atI ws i with | some w => Re.ok w st | none => .bad) | none => .bad) = _
 rw [h]
 dsimp only
 rw [h2]
theorem add_l {l k:Nat} {xs ys:List Wv} (h1:lstOf st l = some xs) (h2:lstOf st k = some ys) (hl:xs.length + ys.length ≤ lim):oAdd (.ref l) (.ref k) st = .ok (.ref st.length) (st ++ [.lst (xs ++ ys)]):=by
 show (match lstOf st l,lstOf st k with | some i,some j => if i.length + j.length ≤ lim then Re.ok (Wv.ref st.length) (st ++ [Ob.lst (i ++ j)]) else .bad | _,_ => .bad) = _
 rw [h1,h2]
 exact if_pos hl
theorem ix_t {i:Int} {ws:List Wv} {v:Wv} (h2:atI ws i = some v):oIx (.tup ws) (.int i) st = .ok v st:=by
 show (match atI ws i with | some w => Re.ok w st | none => .bad) = _
 rw [h2]
end
theorem fn_rt {n:Nat} {g:GS} {ws:List Wv} {st st':Hs} {w:Wv} (h:g (ws.map some ++ List.replicate (n - ws.length) none) st = .rt w st'):fnF n g ws st = .ok w st':=by unfold fnF; rw [h]
section
variable {ρ:Rho} {st:Hs} {ga gb gc:GE} {gl gh:GO}
def kSl (gl gh:GO) (ρ:Rho):Wv → Hs → Re Wv:=fun x st1 => (gl ρ st1).bind fun lo st2 => (gh ρ st2).bind fun hi st3 => oSl2 x lo hi st3
@[simp] theorem e_slice:gSlice2 ga gl gh ρ st = (ga ρ st).bind (kSl gl gh ρ):=rfl
@[simp] theorem kSl_d {x:Wv}:kSl gl gh ρ x st = (gl ρ st).bind fun lo st2 => (gh ρ st2).bind fun hi st3 => oSl2 x lo hi st3:=rfl
@[simp] theorem e_nopart:gNoPart ρ st = .ok none st:=rfl
def kPart:Wv → Hs → Re (Option Int):=fun w st1 => match w with
 | .int i => .ok (some i) st1
 | _ => .bad
@[simp] theorem e_part:gPart ga ρ st = (ga ρ st).bind kPart:=rfl
@[simp] theorem kPart_i {i:Int}:kPart (.int i) st = .ok (some i) st:=rfl
theorem sl_l {l:Nat} {ws:List Wv} {lo hi:Option Int} (h:lstOf st l = some ws):oSl2 (.ref l) lo hi st = .ok (.ref st.length) (st ++ [.lst (cutW ws lo hi)]):=by
 show (match lstOf st l with | some ws => Re.ok (Wv.ref st.length) (st ++ [Ob.lst (cutW ws lo hi)]) | none => .bad) = _
 rw [h]
theorem len_l {l:Nat} {ws:List Wv} (h:lstOf st l = some ws):oLen [.ref l] st = .ok (.int ws.length) st:=by
 show (match lstOf st l with | some ws => Re.ok (Wv.int ws.length) st | none => .bad) = _
 rw [h]
def kCh2 (op':Op2) (gc:GE) (y:Wv) (ρ:Rho):Wv → Hs → Re Wv:=fun z st3 => match z with
 | .bl true => (gc ρ st3).bind fun u st4 => (op' y u st4).nox
 | .bl false => .ok (.bl false) st3
 | _ => .bad
@[simp] theorem kCh2_t {op':Op2} {y:Wv}:kCh2 op' gc y ρ (.bl true) st = (gc ρ st).bind fun u st4 => (op' y u st4).nox:=rfl
@[simp] theorem kCh2_f {op':Op2} {y:Wv}:kCh2 op' gc y ρ (.bl false) st = .ok (.bl false) st:=rfl
@[simp] theorem e_chain {op op':Op2}:gChain op op' ga gb gc ρ st = (ga ρ st).bind fun x st1 => (gb ρ st1).bind fun y st2 => (op x y st2).nox.bind (kCh2 op' gc y ρ):=rfl
def kTry (cat:PySem.Str → Option Bool) (i:Nat) (gs:GS) (r:Rs):Rs:=match r with
 | .err c ρ' st' => (match cat c with
  | some true => (match gs (ρ'.set i (some (.exn c))) st' with
   | .nx ρ2 st2 => .nx (ρ2.set i none) st2
   | .rt w st2 => .rt w st2
   | _ => .bad)
  | _ => .bad)
 | r => r
@[simp] theorem e_try {cat:PySem.Str → Option Bool} {i:Nat} {g gs:GS}:gTry cat i g gs ρ st = kTry cat i gs (g ρ st):=by
 unfold gTry kTry
 cases g ρ st <;> rfl
@[simp] theorem kTry_nx {cat:PySem.Str → Option Bool} {i:Nat} {gs:GS}:kTry cat i gs (.nx ρ st) = .nx ρ st:=rfl
@[simp] theorem kTry_rt {cat:PySem.Str → Option Bool} {i:Nat} {gs:GS} {w:Wv}:kTry cat i gs (.rt w st) = .rt w st:=rfl
def kTryN (cat:PySem.Str → Option Bool) (gs:GS) (r:Rs):Rs:=match r with
 | .err c ρ' st' => (match cat c with
  | some true => (match gs ρ' st' with
   | .nx ρ2 st2 => .nx ρ2 st2
   | .rt w st2 => .rt w st2
   | _ => .bad)
  | _ => .bad)
 | r => r
@[simp] theorem kTryN_nx {cat:PySem.Str → Option Bool} {gs:GS}:kTryN cat gs (.nx ρ st) = .nx ρ st:=rfl
@[simp] theorem kTryN_rt {cat:PySem.Str → Option Bool} {gs:GS} {w:Wv}:kTryN cat gs (.rt w st) = .rt w st:=rfl
theorem kTry_err {cat:PySem.Str → Option Bool} {i:Nat} {gs:GS} {c:PySem.Str} {ρ2:Rho} {st2:Hs} (h:cat c = some true) (k:gs (ρ.set i (some (.exn c))) st = .nx ρ2 st2):kTry cat i gs (.err c ρ st) = .nx (ρ2.set i none) st2:=by
 unfold kTry
 simp only [h,k]
end
theorem lstOf_new {st:Hs} {ws:List Wv}:lstOf (st ++ [.lst ws]) st.length = some ws:=by unfold lstOf; simp
theorem lstOf_lt {st:Hs} {l:Nat} {ws:List Wv} (h:lstOf st l = some ws):l < st.length:=by
 unfold lstOf at h
 cases e:st[l]? with
 | none => rw [e] at h; cases h
 | some o => exact (List.getElem?_eq_some_iff.mp e).1
def Keep (l:Nat) (st st':Hs):Prop:=st.length ≤ st'.length ∧ ∀ k,k < st.length → k ≠ l → st'[k]? = st[k]?
theorem Keep.refl {l:Nat} {st:Hs}:Keep l st st:=⟨Nat.le_refl _,fun _ _ _ => rfl⟩
theorem Keep.trans {l:Nat} {a b c:Hs} (h:Keep l a b) (k:Keep l b c):Keep l a c:=⟨Nat.le_trans h.1 k.1,fun j h1 h2 => (k.2 j (Nat.lt_of_lt_of_le h1 h.1) h2).trans (h.2 j h1 h2)⟩
theorem Keep.push {l:Nat} {st:Hs} {o:Ob}:Keep l st (st ++ [o]):=⟨by simp,fun k h _ => List.getElem?_append_left h⟩
theorem Keep.set {l:Nat} {st:Hs} {o:Ob}:Keep l st (st.set l o):=⟨by simp,fun k _ h => List.getElem?_set_ne (fun z => h z.symm)⟩
theorem Keep.lst {l:Nat} {st st':Hs} (k:Keep l st st') {j:Nat} {ws:List Wv} (h:lstOf st j = some ws) (hj:j ≠ l):lstOf st' j = some ws:=by
 unfold lstOf at h ⊢
 rw [k.2 j (lstOf_lt (st:=st) (ws:=ws) (by unfold lstOf; exact h)) hj]
 exact h
@[simp] theorem e_forR1 {i:Nat} {ga:GA} {gb:GS} {ρ:Rho} {st:Hs}:gForR1 i ga gb ρ st = (ga ρ st).thn ρ fun ws st1 => match ws with
 | [.int j] => if CRng j then forT i gb (rngW 0 j.toNat) ρ st1 else .bad
 | _ => .bad:=rfl
@[simp] theorem e_raise {c:PySem.Str} {ga:GA} {ρ:Rho} {st:Hs}:gRaise c ga ρ st = (ga ρ st).thn ρ fun ws st1 => if ws.length ≤ lim then .err c ρ st1 else .bad:=rfl
def kMeth (mt:Wv → Wv → Hs → Re Wv) (ga:GE) (ρ:Rho):Wv → Hs → Re Wv:=fun o st1 => match o with
 | .ref l => (match lstOf st1 l with
  | some _ => (ga ρ st1).bind fun v st2 => (mt o v st2).nox
  | none => .bad)
 | _ => .bad
@[simp] theorem e_meth {mt:Wv → Wv → Hs → Re Wv} {go ga:GE} {ρ:Rho} {st:Hs}:gMeth mt go ga ρ st = (go ρ st).bind (kMeth mt ga ρ):=rfl
theorem kMeth_l {mt:Wv → Wv → Hs → Re Wv} {ga:GE} {ρ:Rho} {st:Hs} {l:Nat} {ws:List Wv} (h:lstOf st l = some ws):kMeth mt ga ρ (.ref l) st = (ga ρ st).bind fun v st2 => (mt (.ref l) v st2).nox:=by
 show (match lstOf st l with | some _ => (ga ρ st).bind fun v st2 => (mt (.ref l) v st2).nox | none => .bad) = _
 rw [h]
theorem app_l {st:Hs} {l:Nat} {v:Wv} {ws:List Wv} (h:st[l]? = some (.lst ws)) (hl:ws.length < lim):mApp (.ref l) v st = .ok .non (st.set l (.lst (ws ++ [v]))):=by
 show (match st[l]? with | some (.lst ws) => if ws.length < lim then Re.ok Wv.non (st.set l (.lst (ws ++ [v]))) else .bad | _ => .bad) = _
 rw [h]
 exact if_pos hl
noncomputable def kFor (i:Nat) (gb:GS) (ρ:Rho):Wv → Hs → Rs:=fun w st1 => match w with
 | .ref l => (match lstOf st1 l with | some ws => forL i gb l ws ws ρ st1 | none => .bad)
 | .tup ws => forT i gb ws ρ st1
 | .ktp ws => forT i gb ws ρ st1
 | _ => .bad
@[simp] theorem e_for {i:Nat} {ga:GE} {gb:GS} {ρ:Rho} {st:Hs}:gFor i ga gb ρ st = (ga ρ st).thn ρ (kFor i gb ρ):=rfl
theorem kFor_l {i:Nat} {gb:GS} {ρ:Rho} {st:Hs} {l:Nat} {ws:List Wv} (h:lstOf st l = some ws):kFor i gb ρ (.ref l) st = forL i gb l ws ws ρ st:=by
 show (match lstOf st l with | some ws => forL i gb l ws ws ρ st | none => .bad) = _
 rw [h]
@[simp] theorem kFor_t {i:Nat} {gb:GS} {ρ:Rho} {st:Hs} {ws:List Wv}:kFor i gb ρ (.tup ws) st = forT i gb ws ρ st:=rfl
theorem forL_inv {i:Nat} {gb:GS} {l:Nat} {all:List Wv} (P:Rho → Hs → Prop):∀ (ws:List Wv) (ρ:Rho) (st:Hs),P ρ st → lstOf st l = some all →
  (∀ w ∈ ws,∀ ρ st,P ρ st → lstOf st l = some all → ∃ ρ' st',gb (ρ.set i (some w)) st = .nx ρ' st' ∧ lstOf st' l = some all ∧ P ρ' st') →
  ∃ ρ' st',forL i gb l all ws ρ st = .nx ρ' st' ∧ P ρ' st' ∧ lstOf st' l = some all
 | [],ρ,st,h,hl,_ => ⟨ρ,st,rfl,h,hl⟩
 | w :: r,ρ,st,h,hl,step => by
  obtain ⟨ρ1,st1,e1,l1,p1⟩:=step w List.mem_cons_self ρ st h hl
  obtain ⟨ρ2,st2,e2,p2,l2⟩:=forL_inv P r ρ1 st1 p1 l1 fun w hw => step w (List.mem_cons_of_mem _ hw)
  refine ⟨ρ2,st2,?_,p2,l2⟩
  unfold forL
  rw [e1]
  simp only [if_pos l1]
  exact e2
@[simp] theorem str2_i {i:Int} {st:Hs}:oStr2 [.int i] st = oStr [.int i] st:=rfl
@[simp] theorem e_comp {cs:Caps} {gi:GI} {gt:GT} {ge:GE} {ρ:Rho} {st:Hs}:gComp cs gi gt ge ρ st = (gi ρ st).bind (compRun cs gt ge ρ):=rfl
@[simp] theorem e_giSeq {g:GE} {ρ:Rho} {st:Hs}:giSeq2 g ρ st = (g ρ st).bind seqW2:=rfl
@[simp] theorem e_giR1 {g:GA} {ρ:Rho} {st:Hs}:giR1 g ρ st = (g ρ st).bind rng1W:=rfl
@[simp] theorem e_giR2 {g:GA} {ρ:Rho} {st:Hs}:giR2 g ρ st = (g ρ st).bind rng2W:=rfl
theorem rng1_i {j:Int} {st:Hs} (h:CRng j):rng1W [.int j] st = .ok (none,rngW 0 j.toNat) st:=if_pos h
theorem rng2_i {i j:Int} {st:Hs} (h:CRng i) (k:CRng j):rng2W [.int i,.int j] st = .ok (none,rngW i (j - i).toNat) st:=if_pos ⟨h,k⟩
theorem seqW_l {l:Nat} {st:Hs} {ws:List Wv} (h:lstOf st l = some ws):seqW2 (.ref l) st = .ok (some l,ws) st:=by
 show (match lstOf st l with | some ws => Re.ok (some l,ws) st | none => .bad) = _
 rw [h]
@[simp] theorem seqW_s {st:Hs} {z:PySem.Str}:seqW2 (.str z) st = .ok (none,signsW z) st:=rfl
@[simp] theorem seqW_t {st:Hs} {ws:List Wv}:seqW2 (.tup ws) st = .ok (none,ws) st:=rfl
theorem app_new {st:Hs} {acc:List Wv} {v:Wv} (h:acc.length < lim):mApp (.ref st.length) v (st ++ [.lst acc]) = .ok .non (st ++ [.lst (acc ++ [v])]):=by
 rw [app_l (ws:=acc) (by simp) h]
 congr 1
 simp
theorem compG_pure {w:Wk} {gt:Wv → Hs → Re Bool} {ge:Wv → Hs → Re Wv} {st:Hs} {t:Wv → Bool} {f:Wv → Wv} (ck:ckOf w st):∀ (ws acc:List Wv),(∀ v ∈ ws,∀ acc,gt v (st ++ [.lst acc]) = .ok (t v) (st ++ [.lst acc])) →
  (∀ v ∈ ws,t v = true → ∀ acc,ge v (st ++ [.lst acc]) = .ok (f v) (st ++ [.lst acc])) → acc.length + ws.length < lim → compG (ckOf w) gt ge st.length ws (st ++ [.lst acc]) = some (st ++ [.lst (acc ++ (ws.filter t).map f)])
 | [],acc,_,_,_ => by simp [compG]
 | v :: r,acc,h1,h2,hl => by
  have hl':acc.length + (r.length + 1) < lim:=hl
  unfold compG
  rw [h1 v List.mem_cons_self acc]
  cases e:t v with
  | false =>
   dsimp only
   rw [if_pos (ckOf_app ck),compG_pure ck r acc (fun v hv => h1 v (List.mem_cons_of_mem _ hv)) (fun v hv => h2 v (List.mem_cons_of_mem _ hv)) (by omega),List.filter_cons_of_neg (by simp [e])]
  | true =>
   dsimp only
   rw [h2 v List.mem_cons_self e acc]
   dsimp only
   rw [app_new (by omega)]
   dsimp only
   rw [if_pos (ckOf_app ck),compG_pure ck r (acc ++ [f v]) (fun v hv => h1 v (List.mem_cons_of_mem _ hv)) (fun v hv => h2 v (List.mem_cons_of_mem _ hv)) (by simp; omega),List.filter_cons_of_pos e]
   simp
theorem comp_pure {cs:Caps} {gt:GT} {ge:GE} {ρ:Rho} {w:Wk} {st:Hs} {t:Wv → Bool} {f:Wv → Wv} (ck:ckOf w st) (h1:∀ v ∈ w.2,∀ acc,gt (some v :: capR cs ρ) (st ++ [.lst acc]) = .ok (t v) (st ++ [.lst acc]))
  (h2:∀ v ∈ w.2,t v = true → ∀ acc,ge (some v :: capR cs ρ) (st ++ [.lst acc]) = .ok (f v) (st ++ [.lst acc])) (hl:w.2.length < lim):compRun cs gt ge ρ w st = .ok (.ref st.length) (st ++ [.lst ((w.2.filter t).map f)]):=by
 unfold compRun
 rw [compG_pure ck w.2 [] h1 h2 (by simpa using hl)]
 simp
end J
namespace J
open PySem PySem.Spec PyProof.Rows L2
theorem atI_some {α:Type} {ws:List α} {d:Int} (h0:0 ≤ d) (h1:d < ws.length):∃ v,L2.atI ws d = some v ∧ v ∈ ws:=by
 have hk:d.toNat < ws.length:=by omega
 have ek:d = ((d.toNat:Nat):Int):=by omega
 refine ⟨ws[d.toNat],?_,List.getElem_mem hk⟩
 have q:=L2.atI_nat (List.getElem?_eq_getElem hk)
 rw [← ek] at q
 exact q
theorem set_get {st:Hs} {l:Nat} {o o':Ob} (h:st[l]? = some o):(st.set l o')[l]? = some o':=List.getElem?_set_self (List.getElem?_eq_some_iff.mp h).1
theorem push_get {st:Hs} {l:Nat} {o o':Ob} (h:st[l]? = some o):(st ++ [o'])[l]? = some o:=by rw [List.getElem?_append_left (List.getElem?_eq_some_iff.mp h).1]; exact h
theorem lst_get {st:Hs} {l:Nat} {ws:List Wv} (h:st[l]? = some (.lst ws)):lstOf st l = some ws:=by unfold lstOf; rw [h]
theorem get_lt {st:Hs} {l:Nat} {o:Ob} (h:st[l]? = some o):l < st.length:=(List.getElem?_eq_some_iff.mp h).1
theorem new_get {st:Hs} {o:Ob}:(st ++ [o])[st.length]? = some o:=by simp
theorem log_lt {i b:Int} {k:Nat} (h1:-b ≤ i) (h2:i ≤ b) (hb:b.natAbs < 2 ^ k) (hk:0 < k):i.natAbs.log2 < k:=by
 by_cases e:i.natAbs = 0
 ·rw [e]
  exact hk
 ·exact (Nat.log2_lt e).mpr (by omega)
theorem len_s {z:PySem.Str} {st:Hs} (h:z.length ≤ lim):oLen [.str z] st = .ok (.int z.length) st:=by
 show (if z.length ≤ lim then Re.ok (Wv.int z.length) st else .bad) = _
 rw [if_pos h]
@[simp] theorem abs_i {i:Int} {st:Hs}:oAbs [.int i] st = .ok (.int (if i < 0 then -i else i)) st:=rfl
theorem rng_mem {lo:Int} {n:Nat} {w:Wv} (h:w ∈ rngW lo n):∃ k:Int,w = .int k ∧ lo ≤ k ∧ k < lo + n:=by
 unfold rngW at h
 obtain ⟨k,hk,rfl⟩:=List.mem_map.mp h
 have:=List.mem_range.mp hk
 exact ⟨lo + k,rfl,by omega,by omega⟩
theorem crng {i:Int} (h1:-1000000 ≤ i) (h2:i ≤ 1000000):CRng i:=⟨by omega,by omega⟩
@[simp] theorem kCall_0 {F:List Wv → Hs → Re Wv} {st:Hs}:kCall 0 F [] st = F [] st:=rfl
theorem compG_inv {w:Wk} {gt:Wv → Hs → Re Bool} {ge:Wv → Hs → Re Wv} {rr:Nat} (P:Hs → Prop) (E:Wv → Prop) (hP:∀ st acc,P st → P (st.set rr (.lst acc))) (hck:∀ st,P st → ckOf w st) :
  ∀ (ws:List Wv),(∀ v ∈ ws,∀ st acc,P st → st[rr]? = some (.lst acc) → ∃ st1,gt v st = .ok true st1 ∧ P st1 ∧ st1[rr]? = some (.lst acc) ∧ ∃ u st2,ge v st1 = .ok u st2 ∧ E u ∧ P st2 ∧ st2[rr]? = some (.lst acc)) →
   ∀ (acc:List Wv) (st:Hs),P st → st[rr]? = some (.lst acc) → acc.length + ws.length < lim → (∀ a ∈ acc,E a) → ∃ st' acc',compG (ckOf w) gt ge rr ws st = some st' ∧ P st' ∧ st'[rr]? = some (.lst acc') ∧ (∀ a ∈ acc',E a) ∧ acc'.length = acc.length + ws.length
 | [],_,acc,st,hp,hg,_,ha => ⟨st,acc,rfl,hp,hg,ha,rfl⟩
 | v :: r,step,acc,st,hp,hg,hl,ha => by
  obtain ⟨st1,e1,p1,g1,u,st2,e2,hu,p2,g2⟩:=step v List.mem_cons_self st acc hp hg
  have hl':acc.length + (r.length + 1) < lim:=hl
  obtain ⟨st3,acc3,f1,f2,f3,f4,f5⟩:=compG_inv P E hP hck r (fun v hv => step v (List.mem_cons_of_mem _ hv)) (acc ++ [u]) (st2.set rr (.lst (acc ++ [u]))) (hP _ _ p2) (set_get g2) (by simp; omega) (by
   intro a h
   rcases List.mem_append.mp h with z | z
   ·exact ha a z
   ·simp at z; rw [z]; exact hu)
  refine ⟨st3,acc3,?_,f2,f3,f4,?_⟩
  ·unfold compG
   rw [e1]
   dsimp only
   rw [e2]
   dsimp only
   rw [app_l g2 (by omega)]
   dsimp only
   rw [if_pos (hck _ (hP _ _ p2)),f1]
  ·rw [f5]; simp; omega
def Gr (st st':Hs):Prop:=st.length ≤ st'.length ∧ ∀ k,k < st.length → st'[k]? = st[k]?
theorem Gr.refl {st:Hs}:Gr st st:=⟨Nat.le_refl _,fun _ _ => rfl⟩
theorem Gr.trans {a b c:Hs} (h:Gr a b) (k:Gr b c):Gr a c:=⟨Nat.le_trans h.1 k.1,fun j h1 => (k.2 j (Nat.lt_of_lt_of_le h1 h.1)).trans (h.2 j h1)⟩
theorem Gr.push {st:Hs} {o:Ob}:Gr st (st ++ [o]):=⟨by simp,fun k h => List.getElem?_append_left h⟩
theorem Gr.lst {st st':Hs} (k:Gr st st') {j:Nat} {ws:List Wv} (h:lstOf st j = some ws):lstOf st' j = some ws:=by
 unfold lstOf at h ⊢
 rw [k.2 j (lstOf_lt (st:=st) (ws:=ws) (by unfold lstOf; exact h))]
 exact h
theorem Gr.get {st st':Hs} (k:Gr st st') {j:Nat} {o:Ob} (h:st[j]? = some o):st'[j]? = some o:=by rw [k.2 j (get_lt h)]; exact h
theorem Gr.keep {st st':Hs} {l:Nat} (k:Gr st st'):Keep l st st':=⟨k.1,fun j h _ => k.2 j h⟩
theorem Keep.gr {st st':Hs} {l:Nat} (h:st.length ≤ l) (k:Keep l st st'):Gr st st':=⟨k.1,fun j h1 => k.2 j h1 (by omega)⟩
theorem Gr.keepAt {st s1 s2:Hs} {l:Nat} (h:st.length ≤ l) (g:Gr st s1) (k:Keep l s1 s2):Gr st s2:=⟨Nat.le_trans g.1 k.1,fun j h1 => (k.2 j (Nat.lt_of_lt_of_le h1 g.1) (by omega)).trans (g.2 j h1)⟩
theorem compG_map {α:Type} {w:Wk} {gt:Wv → Hs → Re Bool} {ge:Wv → Hs → Re Wv} {rr:Nat} (f:α → Wv) (P:Hs → Prop) (E:α → Wv → Prop) (hP:∀ st acc,P st → P (st.set rr (.lst acc))) (hck:∀ st,P st → ckOf w st) :
  ∀ (ws:List α),(∀ v ∈ ws,∀ st acc,P st → st[rr]? = some (.lst acc) → ∃ st1,gt (f v) st = .ok true st1 ∧ P st1 ∧ st1[rr]? = some (.lst acc) ∧ ∃ u st2,ge (f v) st1 = .ok u st2 ∧ E v u ∧ P st2 ∧ st2[rr]? = some (.lst acc)) →
   ∀ (acc:List Wv) (st:Hs),P st → st[rr]? = some (.lst acc) → acc.length + ws.length < lim → ∃ st' us,compG (ckOf w) gt ge rr (ws.map f) st = some st' ∧ P st' ∧ st'[rr]? = some (.lst (acc ++ us)) ∧ us.length = ws.length ∧ ∀ k (h:k < ws.length) (h':k < us.length),E ws[k] us[k]
 | [],_,acc,st,hp,hg,_ => ⟨st,[],rfl,hp,by simpa using hg,rfl,fun k h => by cases h⟩
 | v :: r,step,acc,st,hp,hg,hl => by
  obtain ⟨st1,e1,p1,g1,u,st2,e2,hu,p2,g2⟩:=step v List.mem_cons_self st acc hp hg
  have hl':acc.length + (r.length + 1) < lim:=hl
  obtain ⟨st3,us,f1,f2,f3,f4,f5⟩:=compG_map f P E hP hck r (fun v hv => step v (List.mem_cons_of_mem _ hv)) (acc ++ [u]) (st2.set rr (.lst (acc ++ [u]))) (hP _ _ p2) (set_get g2) (by simp; omega)
  refine ⟨st3,u :: us,?_,f2,by simpa using f3,by simp [f4],fun k h h' => ?_⟩
  ·rw [List.map_cons]
   unfold compG
   rw [e1]
   dsimp only
   rw [e2]
   dsimp only
   rw [app_l g2 (by omega)]
   dsimp only
   rw [if_pos (hck _ (hP _ _ p2)),f1]
  ·cases k with
   | zero => exact hu
   | succ k => exact f5 k (by simpa using h) (by simpa using h')
theorem eqv_i {i:Int}:PyData.eqv (.int i) (.int i) = true:=by simp [PyData.eqv]
theorem eqv_s {x:PySem.Str}:PyData.eqv (.str x) (.str x) = true:=by simp [PyData.eqv]
theorem ne_dat {st:Hs} {x y:Wv} {d:PyData} (h1:datum st 20 x = some d) (h2:datum st 20 y = some d) (h:PyData.eqv d d = true):oNe x y st = .ok (.bl false) st:=by
 unfold oNe
 rw [h1,h2]
 show Re.ok (Wv.bl (!PyData.eqv d d)) st = _
 rw [h]
 rfl
theorem dat_l {st:Hs} {n l:Nat} {ws:List Wv} (h:lstOf st l = some ws):datum st (n + 1) (.ref l) = (mapO (datum st n) ws).map PyData.list:=by
 show (match lstOf st l with | some ws => (mapO (datum st n) ws).map PyData.list | none => none) = _
 rw [h]
theorem cutW_map' {α:Type} {f:α → Wv} {xs:List α} {lo hi:Option Int}:∃ ys:List α,cutW (xs.map f) lo hi = ys.map f ∧ ys.length ≤ xs.length:=by
 unfold cutW
 rw [← List.map_drop,← List.map_take]
 exact ⟨_,rfl,by simp; omega⟩
@[simp] theorem max_2 {i j:Int} {st:Hs}:oMax2 [.int i,.int j] st = .ok (.int (if j > i then j else i)) st:=rfl
@[simp] theorem min_2 {i j:Int} {st:Hs}:oMin2 [.int i,.int j] st = .ok (.int (if j < i then j else i)) st:=rfl
theorem atI_0 {α:Type} {a:α} {r:List α}:L2.atI (a :: r) 0 = some a:=L2.atI_nat (j:=0) rfl
theorem atI_last {α:Type} {t:List α} {a:α}:L2.atI (t ++ [a]) (-1) = some a:=by
 unfold L2.atI L2.ixN
 simp
 rw [if_pos (by omega)]
 have e:(-1 + ((t.length:Int) + 1)).toNat = t.length:=by omega
 simp [e]
def kDcIn (neg:Bool) (kvs:Dc):Wv → Hs → Re Wv:=fun a st1 => match a with
 | .str k => .ok (.bl ((kvs.lookup k).isSome != neg)) st1
 | _ => .bad
@[simp] theorem e_dcIn {neg:Bool} {kvs:Dc} {ga:GE} {ρ:Rho} {st:Hs}:gDcIn neg kvs ga ρ st = (ga ρ st).bind (kDcIn neg kvs):=rfl
@[simp] theorem kDcIn_s {neg:Bool} {kvs:Dc} {k:PySem.Str} {st:Hs}:kDcIn neg kvs (.str k) st = .ok (.bl ((kvs.lookup k).isSome != neg)) st:=rfl
def kDcIx (kvs:Dc):Wv → Hs → Re Wv:=fun a st1 => match a with
 | .str k => (match kvs.lookup k with | some w => .ok w st1 | none => .bad)
 | _ => .bad
@[simp] theorem e_dcIx {kvs:Dc} {ga:GE} {ρ:Rho} {st:Hs}:gDcIx kvs ga ρ st = (ga ρ st).bind (kDcIx kvs):=rfl
theorem kDcIx_s {kvs:Dc} {k:PySem.Str} {w:Wv} {st:Hs} (h:kvs.lookup k = some w):kDcIx kvs (.str k) st = .ok w st:=by
 show (match kvs.lookup k with | some w => Re.ok w st | none => .bad) = _
 rw [h]
end J
namespace J
open PySem L2
theorem ln1 {fd:FuncData} {ps:List Str} (us:List Value) (hl:us.length = 1) (h:∀ a0:Value,bindArgs fd { pos:=[a0] } = pure (ps.zip [a0])):bindArgs fd { pos:=us } = pure (ps.zip us):=match us,hl with | [a0],_ => h a0
theorem ln2 {fd:FuncData} {ps:List Str} (us:List Value) (hl:us.length = 2) (h:∀ a0 a1:Value,bindArgs fd { pos:=[a0,a1] } = pure (ps.zip [a0,a1])):bindArgs fd { pos:=us } = pure (ps.zip us):=match us,hl with | [a0,a1],_ => h a0 a1
theorem ln3 {fd:FuncData} {ps:List Str} (us:List Value) (hl:us.length = 3) (h:∀ a0 a1 a2:Value,bindArgs fd { pos:=[a0,a1,a2] } = pure (ps.zip [a0,a1,a2])):bindArgs fd { pos:=us } = pure (ps.zip us):=match us,hl with | [a0,a1,a2],_ => h a0 a1 a2
end J
namespace K46
open PySem J
open L2 (defScope defBody defArgs FnScope CX0 FnOk XK Hp)
def top (i:Nat):Stmt:=PySem.Challenge.pw_onelook_k46_formulas_turned.main.body.getD i (.Pass ⟨0,0,0,0⟩)
def tbl:Tab:=[(("NoRoom","NoRoom"),true),(("NoRoom","SheetError"),true),(("NoRoom","BadArea"),false),(("NoRoom","BadFormula"),false),(("NoRoom","BadPlace"),false),(("BadFormula","NoRoom"),false),(("BadFormula","SheetError"),true),(("BadFormula","BadArea"),false),(("BadFormula","BadFormula"),true),(("BadFormula","BadPlace"),false)]
def tblT:TabT:=[(("NoRoom","ValueError"),true),(("BadFormula","ValueError"),true)]
def d_PART_COUNTS:Dc:=[("num",.int 0),("text",.int 0),("lost",.int 0),("at",.int 0),("minus",.int 1),("not",.int 1),("+",.int 2),("-",.int 2),("*",.int 2),("/",.int 2),("&",.int 2),("<",.int 2),("=",.int 2),("rest",.int 2),("if",.int 3),("else",.int 2),("sum",.int 0),("count",.int 0),("least",.int 0),("greatest",.int 0),("find",.int 1)]
def tblC:Tab:=[(("NoRoom","SheetError"),true),(("BadFormula","SheetError"),true)]
abbrev s__law_pot:Stmt:=top 54
noncomputable def g__law_pot:GS:=(gRet (gLst (gCons (gVar 0) (gCons (gBin oAdd (gBin oMod (gVar 0) (gC (.int 1000000007))) (gC (.int 1))) gNil))))
noncomputable def F__law_pot:List Wv → Hs → Re Wv:=fnF 1 g__law_pot
noncomputable def c__law_pot:Ct where
  N:=["cell"]
  names:=(defScope s__law_pot).names
  consts:=[]
  bl:=[]
  fns:=[]
  tb:=tbl
  tt:=tblT
  tc:=tblC
  clss:=[]
  cln:=[]
  dcs:=[]
  dts:=[]
  dks:=[]
theorem r__law_pot:compS 30 (c__law_pot) (defBody s__law_pot) = g__law_pot:=by kernel_rfl
theorem sc__law_pot:FnScope (c__law_pot).N ["cell"] (defScope s__law_pot):=⟨rfl,rfl,rfl,by decide +kernel,rfl,by decide +kernel,by decide +kernel⟩
abbrev s__law_take:Stmt:=top 53
noncomputable def g__law_take:GS:=(gSeq (gIf (gTst (gBin oGt (gBin oIx (gVar 0) (gC (.int 0))) (gC (.int 0)))) (gSeq (gSet 2 (gBin oMod (gBin oIx (gVar 0) (gC (.int 0))) (gVar 1)))
    (gSeq (gSetI (gBin oFdiv (gBin oIx (gVar 0) (gC (.int 0))) (gVar 1)) (gVar 0) (gC (.int 0)))
    (gRet (gVar 2)))) gNext)
  (gSeq (gSetI (gBin oMod (gBin oAdd (gBin oMulL (gBin oIx (gVar 0) (gC (.int 1))) (gC (.int 48271))) (gC (.int 11))) (gC (.int 2147483647))) (gVar 0) (gC (.int 1)))
  (gRet (gBin oMod (gBin oFdiv (gBin oMod (gBin oMulL (gBin oIx (gVar 0) (gC (.int 1))) (gBin oIx (gVar 0) (gC (.int 1)))) (gC (.int 2147483629))) (gC (.int 8))) (gVar 1)))))
noncomputable def F__law_take:List Wv → Hs → Re Wv:=fnF 3 g__law_take
noncomputable def c__law_take:Ct where
  N:=["pot","many","digit"]
  names:=(defScope s__law_take).names
  consts:=[]
  bl:=[]
  fns:=[]
  tb:=tbl
  tt:=tblT
  tc:=tblC
  clss:=[]
  cln:=[]
  dcs:=[]
  dts:=[]
  dks:=[]
theorem r__law_take:compS 30 (c__law_take) (defBody s__law_take) = g__law_take:=by kernel_rfl
theorem sc__law_take:FnScope (c__law_take).N ["pot","many"] (defScope s__law_take):=⟨rfl,rfl,rfl,by decide +kernel,rfl,by decide +kernel,by decide +kernel⟩
abbrev s__law_place:Stmt:=top 58
noncomputable def g__law_place:GS:=(gSeq (gSet 1 (gBin oAdd (gCall 2 F__law_take (gCons (gVar 0) (gCons (gC (.int 12)) gNil))) (gBin oMulL (gC (.int 87)) (gCallB oInt2 (gCons (gBin oEq (gCall 2 F__law_take (gCons (gVar 0) (gCons (gC (.int 5)) gNil))) (gC (.int 4))) gNil)))))
  (gRet (gTup (gCons (gVar 1) (gCons (gBin oAdd (gCall 2 F__law_take (gCons (gVar 0) (gCons (gC (.int 6)) gNil))) (gBin oMulL (gC (.int 20)) (gCallB oInt2 (gCons (gBin oEq (gCall 2 F__law_take (gCons (gVar 0) (gCons (gC (.int 5)) gNil))) (gC (.int 4))) gNil)))) gNil)))))
noncomputable def F__law_place:List Wv → Hs → Re Wv:=fnF 2 g__law_place
noncomputable def c__law_place:Ct where
  N:=["pot","row"]
  names:=(defScope s__law_place).names
  consts:=[]
  bl:=["int"]
  fns:=[("_law_take",2,F__law_take)]
  tb:=tbl
  tt:=tblT
  tc:=tblC
  clss:=[]
  cln:=[]
  dcs:=[]
  dts:=[]
  dks:=[]
theorem r__law_place:compS 30 (c__law_place) (defBody s__law_place) = g__law_place:=by kernel_rfl
theorem sc__law_place:FnScope (c__law_place).N ["pot"] (defScope s__law_place):=⟨rfl,rfl,rfl,by decide +kernel,rfl,by decide +kernel,by decide +kernel⟩
abbrev s__law_pins:Stmt:=top 63
noncomputable def g__law_pins_C1t:GT:=(fun _ st => .ok true st)
noncomputable def g__law_pins_C1e:GE:=(gCall 2 F__law_take (gCons (gVar 1) (gCons (gC (.int 2)) gNil)))
noncomputable def g__law_pins:GS:=(gRet (gCallB oTupC (gCons (gComp [("pot",0)] (giR1 (gCons (gVar 1) gNil)) g__law_pins_C1t g__law_pins_C1e) gNil)))
noncomputable def F__law_pins:List Wv → Hs → Re Wv:=fnF 2 g__law_pins
noncomputable def c__law_pins:Ct where
  N:=["pot","many"]
  names:=(defScope s__law_pins).names
  consts:=[]
  bl:=["tuple","range"]
  fns:=[("_law_take",2,F__law_take)]
  tb:=tbl
  tt:=tblT
  tc:=tblC
  clss:=[]
  cln:=[]
  dcs:=[]
  dts:=[]
  dks:=[]
theorem r__law_pins:compS 30 (c__law_pins) (defBody s__law_pins) = g__law_pins:=by kernel_rfl
theorem sc__law_pins:FnScope (c__law_pins).N ["pot","many"] (defScope s__law_pins):=⟨rfl,rfl,rfl,by decide +kernel,rfl,by decide +kernel,by decide +kernel⟩
abbrev s__law_area:Stmt:=top 60
noncomputable def g__law_area:GS:=(gSeq (gSetT [1,2] (gCall 1 F__law_place (gCons (gVar 0) gNil)))
  (gSeq (gIf (gTst (gBin oEq (gCall 2 F__law_take (gCons (gVar 0) (gCons (gC (.int 8)) gNil))) (gC (.int 7)))) (gSeq (gSet 3 (gBin oAdd (gC (.int 1)) (gCall 2 F__law_take (gCons (gVar 0) (gCons (gBin oSub (gC (.int 99)) (gVar 1)) gNil)))))
    (gRet (gTup (gCons (gVar 1) (gCons (gVar 2) (gCons (gBin oSub (gBin oAdd (gVar 1) (gVar 3)) (gC (.int 1))) (gCons (gBin oAdd (gVar 2) (gCall 2 F__law_take (gCons (gVar 0) (gCons (gCallB oMin2 (gCons (gBin oSub (gC (.int 26)) (gVar 2)) (gCons (gBin oFdiv (gC (.int 300)) (gVar 3)) gNil))) gNil)))) gNil))))))) gNext)
  (gRet (gTup (gCons (gVar 1) (gCons (gVar 2) (gCons (gCallB oMin2 (gCons (gC (.int 98)) (gCons (gBin oAdd (gVar 1) (gCall 2 F__law_take (gCons (gVar 0) (gCons (gC (.int 6)) gNil)))) gNil))) (gCons (gCallB oMin2 (gCons (gC (.int 25)) (gCons (gBin oAdd (gVar 2) (gCall 2 F__law_take (gCons (gVar 0) (gCons (gC (.int 4)) gNil)))) gNil))) gNil))))))))
noncomputable def F__law_area:List Wv → Hs → Re Wv:=fnF 4 g__law_area
noncomputable def c__law_area:Ct where
  N:=["pot","top","left","high"]
  names:=(defScope s__law_area).names
  consts:=[]
  bl:=["min"]
  fns:=[("_law_place",1,F__law_place),("_law_take",2,F__law_take)]
  tb:=tbl
  tt:=tblT
  tc:=tblC
  clss:=[]
  cln:=[]
  dcs:=[]
  dts:=[]
  dks:=[]
theorem r__law_area:compS 30 (c__law_area) (defBody s__law_area) = g__law_area:=by kernel_rfl
theorem sc__law_area:FnScope (c__law_area).N ["pot"] (defScope s__law_area):=⟨rfl,rfl,rfl,by decide +kernel,rfl,by decide +kernel,by decide +kernel⟩
abbrev s__law_formula:Stmt:=top 64
noncomputable def g__law_formula_C1t (F__law_formula:List Wv → Hs → Re Wv):GT:=(fun _ st => .ok true st)
noncomputable def g__law_formula_C1e (F__law_formula:List Wv → Hs → Re Wv):GE:=(gCall 2 F__law_formula (gCons (gVar 1) (gCons (gBin oSub (gVar 2) (gC (.int 1))) gNil)))
noncomputable def g__law_formula (F__law_formula:List Wv → Hs → Re Wv):GS:=(gSeq (gSet 2 (gCall 2 F__law_take (gCons (gVar 0) (gCons (gBin oIx (gLst (gCons (gC (.int 6)) (gCons (gC (.int 15)) gNil))) (gCallB oInt2 (gCons (gBin oGt (gVar 1) (gC (.int 0))) gNil))) gNil))))
  (gSeq (gIf (gTst (gBin oEq (gVar 2) (gC (.int 0)))) (gRet (gTup (gCons (gC (.str "num")) (gCons (gCall 2 F__law_take (gCons (gVar 0) (gCons (gC (.int 1000)) gNil))) gNil)))) gNext)
  (gSeq (gIf (gTst (gBin oEq (gVar 2) (gC (.int 1)))) (gRet (gTup (gCons (gC (.str "text")) (gCons (gBin oIx (gLst (gCons (gC (.str "")) (gCons (gC (.str "a1")) (gCons (gC (.str "lost")) gNil)))) (gCall 2 F__law_take (gCons (gVar 0) (gCons (gC (.int 3)) gNil)))) gNil)))) gNext)
  (gSeq (gIf (gTst (gBin oEq (gVar 2) (gC (.int 2)))) (gRet (gTup (gCons (gC (.str "lost")) gNil))) gNext)
  (gSeq (gIf (gOr (gTst (gBin oEq (gVar 2) (gC (.int 3)))) (gTst (gBin oEq (gVar 2) (gC (.int 4))))) (gRet (gTup (gCons (gC (.str "at")) (gCons (gCall 1 F__law_place (gCons (gVar 0) gNil)) (gCons (gCall 2 F__law_pins (gCons (gVar 0) (gCons (gC (.int 2)) gNil))) gNil))))) gNext)
  (gSeq (gIf (gTst (gBin oEq (gVar 2) (gC (.int 5)))) (gSeq (gSet 3 (gBin oIx (gLst (gCons (gC (.str "sum")) (gCons (gC (.str "count")) (gCons (gC (.str "least")) (gCons (gC (.str "greatest")) gNil))))) (gCall 2 F__law_take (gCons (gVar 0) (gCons (gC (.int 4)) gNil)))))
    (gRet (gTup (gCons (gVar 3) (gCons (gCall 1 F__law_area (gCons (gVar 0) gNil)) (gCons (gCall 2 F__law_pins (gCons (gVar 0) (gCons (gC (.int 4)) gNil))) gNil)))))) gNext)
  (gSeq (gIf (gOr (gTst (gBin oEq (gVar 2) (gC (.int 6)))) (gTst (gBin oEq (gVar 2) (gC (.int 7))))) (gRet (gTup (gCons (gC (.str "find")) (gCons (gCall 2 F__law_formula (gCons (gVar 0) (gCons (gBin oSub (gVar 1) (gC (.int 1))) gNil))) (gCons (gCall 1 F__law_area (gCons (gVar 0) gNil)) (gCons (gCall 2 F__law_pins (gCons (gVar 0) (gCons (gC (.int 4)) gNil))) gNil)))))) gNext)
  (gSeq (gSet 4 (gBin oIx (gLst (gCons (gC (.int 1)) (gCons (gC (.int 2)) (gCons (gC (.int 3)) (gCons (gC (.int 2)) (gCons (gC (.int 2)) (gCons (gC (.int 2)) (gCons (gC (.int 2)) gNil)))))))) (gBin oSub (gVar 2) (gC (.int 8)))))
  (gSeq (gSet 3 (gBin oIx (gLst (gCons (gC (.str "minus")) (gCons (gC (.str "else")) (gCons (gC (.str "if")) (gCons (gC (.str "rest")) (gCons (gC (.str "+")) (gCons (gC (.str "<")) (gCons (gC (.str "&")) gNil)))))))) (gBin oSub (gVar 2) (gC (.int 8)))))
  (gSeq (gIf (gAnd (gTst (gBin oEq (gVar 2) (gC (.int 8)))) (gTst (gBin oEq (gCall 2 F__law_take (gCons (gVar 0) (gCons (gC (.int 2)) gNil))) (gC (.int 1))))) (gSet 3 (gC (.str "not"))) gNext)
  (gRet (gBin oAdd (gTup (gCons (gVar 3) gNil)) (gCallB oTupC (gCons (gComp [("pot",0),("deep",1)] (giR1 (gCons (gVar 4) gNil)) (g__law_formula_C1t F__law_formula) (g__law_formula_C1e F__law_formula)) gNil))))))))))))))
noncomputable def c__law_formula (F__law_formula:List Wv → Hs → Re Wv):Ct where
  N:=["pot","deep","way","word","many"]
  names:=(defScope s__law_formula).names
  consts:=[]
  bl:=["tuple","int","range"]
  fns:=[("_law_take",2,F__law_take),("_law_place",1,F__law_place),("_law_pins",2,F__law_pins),("_law_area",1,F__law_area),("_law_formula",2,F__law_formula)]
  tb:=tbl
  tt:=tblT
  tc:=tblC
  clss:=[]
  cln:=[]
  dcs:=[]
  dts:=[]
  dks:=[]
theorem r__law_formula (F__law_formula:List Wv → Hs → Re Wv):compS 30 (c__law_formula F__law_formula) (defBody s__law_formula) = g__law_formula F__law_formula:=by kernel_rfl
theorem sc__law_formula (F__law_formula:List Wv → Hs → Re Wv):FnScope ["pot","deep","way","word","many"] ["pot","deep"] (defScope s__law_formula):=⟨rfl,rfl,rfl,by decide +kernel,rfl,by decide +kernel,by decide +kernel⟩
noncomputable def RR__law_formula:Nat → (List Wv → Hs → Re Wv)
  | 0 => fBad
  | n + 1 => fnF 5 (g__law_formula ((RR__law_formula n)))
noncomputable def R__law_formula (n:Nat):List Wv → Hs → Re Wv:=(RR__law_formula n)
theorem R__law_formula_succ (n:Nat):R__law_formula (n + 1) = fnF 5 (g__law_formula (R__law_formula n)):=rfl
noncomputable def F__law_formula:List Wv → Hs → Re Wv:=R__law_formula 6
abbrev s__law_most:Stmt:=top 55
noncomputable def g__law_most:GS:=(gRet (gBin oIx (gLst (gCons (gC (.int 26)) (gCons (gC (.int 99)) gNil))) (gCallB oInt2 (gCons (gBin oEq (gSlice2 (gVar 0) gNoPart (gPart (gC (.int 4)))) (gC (.str "rows"))) gNil))))
noncomputable def F__law_most:List Wv → Hs → Re Wv:=fnF 1 g__law_most
noncomputable def c__law_most:Ct where
  N:=["way"]
  names:=(defScope s__law_most).names
  consts:=[]
  bl:=["int"]
  fns:=[]
  tb:=tbl
  tt:=tblT
  tc:=tblC
  clss:=[]
  cln:=[]
  dcs:=[]
  dts:=[]
  dks:=[]
theorem r__law_most:compS 30 (c__law_most) (defBody s__law_most) = g__law_most:=by kernel_rfl
theorem sc__law_most:FnScope (c__law_most).N ["way"] (defScope s__law_most):=⟨rfl,rfl,rfl,by decide +kernel,rfl,by decide +kernel,by decide +kernel⟩
abbrev s__law_shift:Stmt:=top 57
noncomputable def g__law_shift:GS:=(gSeq (gSet 1 (gBin oIx (gLst (gCons (gC (.str "rows in")) (gCons (gC (.str "rows out")) (gCons (gC (.str "columns in")) (gCons (gC (.str "columns out")) gNil))))) (gCall 2 F__law_take (gCons (gVar 0) (gCons (gC (.int 4)) gNil)))))
  (gSeq (gSet 2 (gCall 1 F__law_most (gCons (gVar 1) gNil)))
  (gSeq (gSet 3 (gCall 2 F__law_take (gCons (gVar 0) (gCons (gC (.int 12)) gNil))))
  (gSeq (gIf (gTst (gBin oEq (gCall 2 F__law_take (gCons (gVar 0) (gCons (gC (.int 3)) gNil))) (gC (.int 0)))) (gSet 3 (gCall 2 F__law_take (gCons (gVar 0) (gCons (gVar 2) gNil)))) gNext)
  (gSeq (gSet 4 (gBin oAdd (gC (.int 1)) (gCall 2 F__law_take (gCons (gVar 0) (gCons (gC (.int 5)) gNil)))))
  (gSeq (gIf (gTst (gBin oEq (gCall 2 F__law_take (gCons (gVar 0) (gCons (gC (.int 6)) gNil))) (gC (.int 0)))) (gSet 4 (gBin oAdd (gC (.int 1)) (gCall 2 F__law_take (gCons (gVar 0) (gCons (gVar 2) gNil))))) gNext)
  (gSeq (gIf (gTst (gBin oEq (gSlice2 (gVar 1) (gPart (gUn opNeg (gC (.int 3)))) gNoPart) (gC (.str "out")))) (gSet 4 (gCallB oMin2 (gCons (gVar 4) (gCons (gBin oSub (gVar 2) (gVar 3)) gNil)))) gNext)
  (gRet (gTup (gCons (gVar 1) (gCons (gVar 3) (gCons (gVar 4) gNil))))))))))))
noncomputable def F__law_shift:List Wv → Hs → Re Wv:=fnF 5 g__law_shift
noncomputable def c__law_shift:Ct where
  N:=["pot","way","most","at","many"]
  names:=(defScope s__law_shift).names
  consts:=[]
  bl:=["min"]
  fns:=[("_law_most",1,F__law_most),("_law_take",2,F__law_take)]
  tb:=tbl
  tt:=tblT
  tc:=tblC
  clss:=[]
  cln:=[]
  dcs:=[]
  dts:=[]
  dks:=[]
theorem r__law_shift:compS 30 (c__law_shift) (defBody s__law_shift) = g__law_shift:=by kernel_rfl
theorem sc__law_shift:FnScope (c__law_shift).N ["pot"] (defScope s__law_shift):=⟨rfl,rfl,rfl,by decide +kernel,rfl,by decide +kernel,by decide +kernel⟩
abbrev s__law_line:Stmt:=top 56
noncomputable def g__law_line:GS:=(gSeq (gSetT [2,3,4] (gVar 0))
  (gSeq (gIf (gTst (gBin oLt (gVar 1) (gVar 3))) (gRet (gVar 1)) gNext)
  (gSeq (gIf (gTst (gBin oEq (gSlice2 (gVar 2) (gPart (gUn opNeg (gC (.int 2)))) gNoPart) (gC (.str "in")))) (gRet (gBin oIx (gLst (gCons (gC .non) (gCons (gBin oAdd (gVar 1) (gVar 4)) gNil))) (gCallB oInt2 (gCons (gBin oLt (gBin oAdd (gVar 1) (gVar 4)) (gCall 1 F__law_most (gCons (gVar 2) gNil))) gNil)))) gNext)
  (gRet (gBin oIx (gLst (gCons (gBin oSub (gVar 1) (gVar 4)) (gCons (gC .non) gNil))) (gCallB oInt2 (gCons (gBin oLt (gVar 1) (gBin oAdd (gVar 3) (gVar 4))) gNil)))))))
noncomputable def F__law_line:List Wv → Hs → Re Wv:=fnF 5 g__law_line
noncomputable def c__law_line:Ct where
  N:=["shift","line","way","at","many"]
  names:=(defScope s__law_line).names
  consts:=[]
  bl:=["int"]
  fns:=[("_law_most",1,F__law_most)]
  tb:=tbl
  tt:=tblT
  tc:=tblC
  clss:=[]
  cln:=[]
  dcs:=[]
  dts:=[]
  dks:=[]
theorem r__law_line:compS 30 (c__law_line) (defBody s__law_line) = g__law_line:=by kernel_rfl
theorem sc__law_line:FnScope (c__law_line).N ["shift","line"] (defScope s__law_line):=⟨rfl,rfl,rfl,by decide +kernel,rfl,by decide +kernel,by decide +kernel⟩
abbrev s__law_moved:Stmt:=top 59
noncomputable def g__law_moved:GS:=(gSeq (gSetT [2,3] (gVar 1))
  (gSeq (gIf (gTst (gBin oEq (gSlice2 (gBin oIx (gVar 0) (gC (.int 0))) gNoPart (gPart (gC (.int 4)))) (gC (.str "rows")))) (gSet 2 (gCall 2 F__law_line (gCons (gVar 0) (gCons (gVar 2) gNil)))) (gSet 3 (gCall 2 F__law_line (gCons (gVar 0) (gCons (gVar 3) gNil)))))
  (gSeq (gIf (gOr (gTst (gBin oIs (gVar 2) (gC .non))) (gTst (gBin oIs (gVar 3) (gC .non)))) (gRet (gC .non)) gNext)
  (gRet (gTup (gCons (gVar 2) (gCons (gVar 3) gNil)))))))
noncomputable def F__law_moved:List Wv → Hs → Re Wv:=fnF 4 g__law_moved
noncomputable def c__law_moved:Ct where
  N:=["shift","place","row","column"]
  names:=(defScope s__law_moved).names
  consts:=[]
  bl:=[]
  fns:=[("_law_line",2,F__law_line)]
  tb:=tbl
  tt:=tblT
  tc:=tblC
  clss:=[]
  cln:=[]
  dcs:=[]
  dts:=[]
  dks:=[]
theorem r__law_moved:compS 30 (c__law_moved) (defBody s__law_moved) = g__law_moved:=by kernel_rfl
theorem sc__law_moved:FnScope (c__law_moved).N ["shift","place"] (defScope s__law_moved):=⟨rfl,rfl,rfl,by decide +kernel,rfl,by decide +kernel,by decide +kernel⟩
abbrev s__law_ends:Stmt:=top 61
noncomputable def g__law_ends_C1t:GT:=(gTst (gBin oIsNot (gVar 0) (gC .non)))
noncomputable def g__law_ends_C1e:GE:=(gVar 0)
noncomputable def g__law_ends_C2t:GT:=(fun _ st => .ok true st)
noncomputable def g__law_ends_C2e:GE:=(gCall 2 F__law_line (gCons (gVar 1) (gCons (gVar 0) gNil)))
noncomputable def g__law_ends:GS:=(gSeq (gSet 3 (gComp [("shift",0)] (giR2 (gCons (gVar 1) (gCons (gBin oAdd (gVar 2) (gC (.int 1))) gNil))) g__law_ends_C2t g__law_ends_C2e))
  (gSeq (gIf (gAnd (gTst (gBin oEq (gSlice2 (gBin oIx (gVar 0) (gC (.int 0))) (gPart (gUn opNeg (gC (.int 2)))) gNoPart) (gC (.str "in")))) (gTst (gBin oIn2 (gC .non) (gVar 3)))) (gRet (gC .non)) gNext)
  (gSeq (gSet 3 (gComp [] (giSeq2 (gVar 3)) g__law_ends_C1t g__law_ends_C1e))
  (gSeq (gIf (gTst (gBin oEq (gVar 3) (gLst gNil))) (gRet (gC .non)) gNext)
  (gRet (gTup (gCons (gBin oIx (gVar 3) (gC (.int 0))) (gCons (gBin oIx (gVar 3) (gUn opNeg (gC (.int 1)))) gNil))))))))
noncomputable def F__law_ends:List Wv → Hs → Re Wv:=fnF 4 g__law_ends
noncomputable def c__law_ends:Ct where
  N:=["shift","low","high","left"]
  names:=(defScope s__law_ends).names
  consts:=[]
  bl:=["range"]
  fns:=[("_law_line",2,F__law_line)]
  tb:=tbl
  tt:=tblT
  tc:=tblC
  clss:=[]
  cln:=[]
  dcs:=[]
  dts:=[]
  dks:=[]
theorem r__law_ends:compS 30 (c__law_ends) (defBody s__law_ends) = g__law_ends:=by kernel_rfl
theorem sc__law_ends:FnScope (c__law_ends).N ["shift","low","high"] (defScope s__law_ends):=⟨rfl,rfl,rfl,by decide +kernel,rfl,by decide +kernel,by decide +kernel⟩
abbrev s__law_area_moved:Stmt:=top 62
noncomputable def g__law_area_moved:GS:=(gSeq (gSet 2 (gTup (gCons (gBin oIx (gVar 1) (gC (.int 0))) (gCons (gBin oIx (gVar 1) (gC (.int 2))) gNil))))
  (gSeq (gSet 3 (gTup (gCons (gBin oIx (gVar 1) (gC (.int 1))) (gCons (gBin oIx (gVar 1) (gC (.int 3))) gNil))))
  (gSeq (gIf (gTst (gBin oEq (gSlice2 (gBin oIx (gVar 0) (gC (.int 0))) gNoPart (gPart (gC (.int 4)))) (gC (.str "rows")))) (gSet 2 (gCall 3 F__law_ends (gCons (gVar 0) (gCons (gBin oIx (gVar 1) (gC (.int 0))) (gCons (gBin oIx (gVar 1) (gC (.int 2))) gNil))))) (gSet 3 (gCall 3 F__law_ends (gCons (gVar 0) (gCons (gBin oIx (gVar 1) (gC (.int 1))) (gCons (gBin oIx (gVar 1) (gC (.int 3))) gNil))))))
  (gSeq (gIf (gOr (gTst (gBin oIs (gVar 2) (gC .non))) (gTst (gBin oIs (gVar 3) (gC .non)))) (gRet (gC .non)) gNext)
  (gSeq (gIf (gTst (gBin oGt (gBin oMulL (gBin oAdd (gBin oSub (gBin oIx (gVar 2) (gC (.int 1))) (gBin oIx (gVar 2) (gC (.int 0)))) (gC (.int 1))) (gBin oAdd (gBin oSub (gBin oIx (gVar 3) (gC (.int 1))) (gBin oIx (gVar 3) (gC (.int 0)))) (gC (.int 1)))) (gC (.int 300)))) (gRet (gC .non)) gNext)
  (gRet (gTup (gCons (gBin oIx (gVar 2) (gC (.int 0))) (gCons (gBin oIx (gVar 3) (gC (.int 0))) (gCons (gBin oIx (gVar 2) (gC (.int 1))) (gCons (gBin oIx (gVar 3) (gC (.int 1))) gNil)))))))))))
noncomputable def F__law_area_moved:List Wv → Hs → Re Wv:=fnF 4 g__law_area_moved
noncomputable def c__law_area_moved:Ct where
  N:=["shift","area","rows","columns"]
  names:=(defScope s__law_area_moved).names
  consts:=[]
  bl:=[]
  fns:=[("_law_ends",3,F__law_ends)]
  tb:=tbl
  tt:=tblT
  tc:=tblC
  clss:=[]
  cln:=[]
  dcs:=[]
  dts:=[]
  dks:=[]
theorem r__law_area_moved:compS 30 (c__law_area_moved) (defBody s__law_area_moved) = g__law_area_moved:=by kernel_rfl
theorem sc__law_area_moved:FnScope (c__law_area_moved).N ["shift","area"] (defScope s__law_area_moved):=⟨rfl,rfl,rfl,by decide +kernel,rfl,by decide +kernel,by decide +kernel⟩
abbrev s__law_side_lost:Stmt:=top 65
noncomputable def g__law_side_lost:GS:=(gSeq (gIf (gTst (gBin oNe (gBin oIx (gVar 0) (gC (.int 0))) (gC (.str "columns out")))) (gRet (gC (.bl false))) gNext)
  (gRet (gOrV (gBin oIs (gCall 2 F__law_line (gCons (gVar 0) (gCons (gBin oIx (gVar 1) (gC (.int 1))) gNil))) (gC .non)) (gBin oIs (gCall 2 F__law_line (gCons (gVar 0) (gCons (gBin oIx (gVar 1) (gC (.int 3))) gNil))) (gC .non)))))
noncomputable def F__law_side_lost:List Wv → Hs → Re Wv:=fnF 2 g__law_side_lost
noncomputable def c__law_side_lost:Ct where
  N:=["shift","area"]
  names:=(defScope s__law_side_lost).names
  consts:=[]
  bl:=[]
  fns:=[("_law_line",2,F__law_line)]
  tb:=tbl
  tt:=tblT
  tc:=tblC
  clss:=[]
  cln:=[]
  dcs:=[]
  dts:=[]
  dks:=[]
theorem r__law_side_lost:compS 30 (c__law_side_lost) (defBody s__law_side_lost) = g__law_side_lost:=by kernel_rfl
theorem sc__law_side_lost:FnScope (c__law_side_lost).N ["shift","area"] (defScope s__law_side_lost):=⟨rfl,rfl,rfl,by decide +kernel,rfl,by decide +kernel,by decide +kernel⟩
abbrev s__law_gone:Stmt:=top 66
noncomputable def g__law_gone:GS:=(gRet (gBin oIx (gLst (gCons (gTup (gCons (gC (.str "lost")) gNil)) (gCons (gC .non) gNil))) (gCallB oInt2 (gCons (gBin oEq (gSlice2 (gBin oIx (gVar 0) (gC (.int 0))) (gPart (gUn opNeg (gC (.int 2)))) gNoPart) (gC (.str "in"))) gNil))))
noncomputable def F__law_gone:List Wv → Hs → Re Wv:=fnF 1 g__law_gone
noncomputable def c__law_gone:Ct where
  N:=["shift"]
  names:=(defScope s__law_gone).names
  consts:=[]
  bl:=["int"]
  fns:=[]
  tb:=tbl
  tt:=tblT
  tc:=tblC
  clss:=[]
  cln:=[]
  dcs:=[]
  dts:=[]
  dks:=[]
theorem r__law_gone:compS 30 (c__law_gone) (defBody s__law_gone) = g__law_gone:=by kernel_rfl
theorem sc__law_gone:FnScope (c__law_gone).N ["shift"] (defScope s__law_gone):=⟨rfl,rfl,rfl,by decide +kernel,rfl,by decide +kernel,by decide +kernel⟩
abbrev s__law_turned:Stmt:=top 67
noncomputable def g__law_turned_C1t (F__law_turned:List Wv → Hs → Re Wv):GT:=(fun _ st => .ok true st)
noncomputable def g__law_turned_C1e (F__law_turned:List Wv → Hs → Re Wv):GE:=(gCall 2 F__law_turned (gCons (gVar 1) (gCons (gVar 0) gNil)))
noncomputable def g__law_turned (F__law_turned:List Wv → Hs → Re Wv):GS:=(gSeq (gSet 2 (gBin oIx (gVar 1) (gC (.int 0))))
  (gSeq (gIf (gTst (gBin oIn2 (gVar 2) (gLst (gCons (gC (.str "num")) (gCons (gC (.str "text")) (gCons (gC (.str "lost")) gNil)))))) (gRet (gVar 1)) gNext)
  (gSeq (gIf (gTst (gBin oEq (gVar 2) (gC (.str "at")))) (gSeq (gSet 3 (gCall 2 F__law_moved (gCons (gVar 0) (gCons (gBin oIx (gVar 1) (gC (.int 1))) gNil))))
    (gRet (gBin oIx (gLst (gCons (gTup (gCons (gC (.str "at")) (gCons (gVar 3) (gCons (gBin oIx (gVar 1) (gC (.int 2))) gNil)))) (gCons (gCall 1 F__law_gone (gCons (gVar 0) gNil)) gNil))) (gCallB oInt2 (gCons (gBin oIs (gVar 3) (gC .non)) gNil))))) gNext)
  (gSeq (gIf (gTst (gBin oIn2 (gVar 2) (gLst (gCons (gC (.str "sum")) (gCons (gC (.str "count")) (gCons (gC (.str "least")) (gCons (gC (.str "greatest")) gNil))))))) (gSeq (gSet 4 (gCall 2 F__law_area_moved (gCons (gVar 0) (gCons (gBin oIx (gVar 1) (gC (.int 1))) gNil))))
    (gRet (gBin oIx (gLst (gCons (gTup (gCons (gVar 2) (gCons (gVar 4) (gCons (gBin oIx (gVar 1) (gC (.int 2))) gNil)))) (gCons (gCall 1 F__law_gone (gCons (gVar 0) gNil)) gNil))) (gCallB oInt2 (gCons (gBin oIs (gVar 4) (gC .non)) gNil))))) gNext)
  (gSeq (gIf (gTst (gBin oEq (gVar 2) (gC (.str "find")))) (gSeq (gSet 4 (gCall 2 F__law_area_moved (gCons (gVar 0) (gCons (gBin oIx (gVar 1) (gC (.int 2))) gNil))))
    (gSeq (gSet 5 (gCall 2 F__law_turned (gCons (gVar 0) (gCons (gBin oIx (gVar 1) (gC (.int 1))) gNil))))
    (gSeq (gIf (gOr (gTst (gBin oIs (gVar 4) (gC .non))) (gTru (gCall 2 F__law_side_lost (gCons (gVar 0) (gCons (gBin oIx (gVar 1) (gC (.int 2))) gNil))))) (gRet (gCall 1 F__law_gone (gCons (gVar 0) gNil))) gNext)
    (gRet (gBin oIx (gLst (gCons (gTup (gCons (gC (.str "find")) (gCons (gVar 5) (gCons (gVar 4) (gCons (gBin oIx (gVar 1) (gC (.int 3))) gNil))))) (gCons (gC .non) gNil))) (gCallB oInt2 (gCons (gBin oIs (gVar 5) (gC .non)) gNil))))))) gNext)
  (gSeq (gSet 6 (gComp [("shift",0)] (giSeq2 (gSlice2 (gVar 1) (gPart (gC (.int 1))) gNoPart)) (g__law_turned_C1t F__law_turned) (g__law_turned_C1e F__law_turned)))
  (gRet (gBin oIx (gLst (gCons (gBin oAdd (gTup (gCons (gVar 2) gNil)) (gCallB oTupC (gCons (gVar 6) gNil))) (gCons (gC .non) gNil))) (gCallB oInt2 (gCons (gBin (oInD false) (gC .non) (gVar 6)) gNil))))))))))
noncomputable def c__law_turned (F__law_turned:List Wv → Hs → Re Wv):Ct where
  N:=["shift","formula","word","place","area","key","parts"]
  names:=(defScope s__law_turned).names
  consts:=[]
  bl:=["int","tuple"]
  fns:=[("_law_moved",2,F__law_moved),("_law_area_moved",2,F__law_area_moved),("_law_turned",2,F__law_turned),("_law_side_lost",2,F__law_side_lost),("_law_gone",1,F__law_gone)]
  tb:=tbl
  tt:=tblT
  tc:=tblC
  clss:=[]
  cln:=[]
  dcs:=[]
  dts:=[]
  dks:=[]
  dis:=["parts"]
theorem r__law_turned (F__law_turned:List Wv → Hs → Re Wv):compS 30 (c__law_turned F__law_turned) (defBody s__law_turned) = g__law_turned F__law_turned:=by kernel_rfl
theorem sc__law_turned (F__law_turned:List Wv → Hs → Re Wv):FnScope ["shift","formula","word","place","area","key","parts"] ["shift","formula"] (defScope s__law_turned):=⟨rfl,rfl,rfl,by decide +kernel,rfl,by decide +kernel,by decide +kernel⟩
noncomputable def RR__law_turned:Nat → (List Wv → Hs → Re Wv)
  | 0 => fBad
  | n + 1 => fnF 7 (g__law_turned ((RR__law_turned n)))
noncomputable def R__law_turned (n:Nat):List Wv → Hs → Re Wv:=(RR__law_turned n)
theorem R__law_turned_succ (n:Nat):R__law_turned (n + 1) = fnF 7 (g__law_turned (R__law_turned n)):=rfl
noncomputable def F__law_turned:List Wv → Hs → Re Wv:=R__law_turned 6
abbrev s_part_many:Stmt:=top 22
noncomputable def g_part_many:GS:=(gRet (gDcIx d_PART_COUNTS (gVar 0)))
noncomputable def F_part_many:List Wv → Hs → Re Wv:=fnF 1 g_part_many
noncomputable def c_part_many:Ct where
  N:=["word"]
  names:=(defScope s_part_many).names
  consts:=[]
  bl:=[]
  fns:=[]
  tb:=tbl
  tt:=tblT
  tc:=tblC
  clss:=[]
  cln:=[]
  dcs:=[("PART_COUNTS",d_PART_COUNTS)]
  dts:=[]
  dks:=[]
theorem r_part_many:compS 30 (c_part_many) (defBody s_part_many) = g_part_many:=by kernel_rfl
theorem sc_part_many:FnScope (c_part_many).N ["word"] (defScope s_part_many):=⟨rfl,rfl,rfl,by decide +kernel,rfl,by decide +kernel,by decide +kernel⟩
abbrev s_tail_of:Stmt:=top 25
noncomputable def g_tail_of:GS:=(gRet (gSlice2 (gVar 0) (gPart (gBin oAdd (gC (.int 1)) (gCall 1 F_part_many (gCons (gBin oIx (gVar 0) (gC (.int 0))) gNil)))) gNoPart))
noncomputable def F_tail_of:List Wv → Hs → Re Wv:=fnF 1 g_tail_of
noncomputable def c_tail_of:Ct where
  N:=["formula"]
  names:=(defScope s_tail_of).names
  consts:=[]
  bl:=[]
  fns:=[("part_many",1,F_part_many)]
  tb:=tbl
  tt:=tblT
  tc:=tblC
  clss:=[]
  cln:=[]
  dcs:=[]
  dts:=[]
  dks:=[]
theorem r_tail_of:compS 30 (c_tail_of) (defBody s_tail_of) = g_tail_of:=by kernel_rfl
theorem sc_tail_of:FnScope (c_tail_of).N ["formula"] (defScope s_tail_of):=⟨rfl,rfl,rfl,by decide +kernel,rfl,by decide +kernel,by decide +kernel⟩
abbrev s_has_area:Stmt:=top 23
noncomputable def g_has_area:GS:=(gRet (gBin oIn2 (gVar 0) (gC (.ktp [.str "sum",.str "count",.str "least",.str "greatest",.str "find"]))))
noncomputable def F_has_area:List Wv → Hs → Re Wv:=fnF 1 g_has_area
noncomputable def c_has_area:Ct where
  N:=["word"]
  names:=(defScope s_has_area).names
  consts:=[("AREA_WORDS",(.ktp [.str "sum",.str "count",.str "least",.str "greatest",.str "find"]))]
  bl:=[]
  fns:=[]
  tb:=tbl
  tt:=tblT
  tc:=tblC
  clss:=[]
  cln:=[]
  dcs:=[]
  dts:=[]
  dks:=[]
theorem r_has_area:compS 30 (c_has_area) (defBody s_has_area) = g_has_area:=by kernel_rfl
theorem sc_has_area:FnScope (c_has_area).N ["word"] (defScope s_has_area):=⟨rfl,rfl,rfl,by decide +kernel,rfl,by decide +kernel,by decide +kernel⟩
abbrev s_parts_of:Stmt:=top 24
noncomputable def g_parts_of:GS:=(gRet (gSlice2 (gVar 0) (gPart (gC (.int 1))) (gPart (gBin oAdd (gC (.int 1)) (gCall 1 F_part_many (gCons (gBin oIx (gVar 0) (gC (.int 0))) gNil))))))
noncomputable def F_parts_of:List Wv → Hs → Re Wv:=fnF 1 g_parts_of
noncomputable def c_parts_of:Ct where
  N:=["formula"]
  names:=(defScope s_parts_of).names
  consts:=[]
  bl:=[]
  fns:=[("part_many",1,F_part_many)]
  tb:=tbl
  tt:=tblT
  tc:=tblC
  clss:=[]
  cln:=[]
  dcs:=[]
  dts:=[]
  dks:=[]
theorem r_parts_of:compS 30 (c_parts_of) (defBody s_parts_of) = g_parts_of:=by kernel_rfl
theorem sc_parts_of:FnScope (c_parts_of).N ["formula"] (defScope s_parts_of):=⟨rfl,rfl,rfl,by decide +kernel,rfl,by decide +kernel,by decide +kernel⟩
abbrev s_rebuilt:Stmt:=top 36
noncomputable def g_rebuilt_C1t (p:Lm) (L:LF) (F_rebuilt:List Wv → Hs → Re Wv):GT:=(fun _ st => .ok true st)
noncomputable def g_rebuilt_C1e (p:Lm) (L:LF) (F_rebuilt:List Wv → Hs → Re Wv):GE:=(gCall 2 F_rebuilt (gCons (gVar 0) (gCons (gVar 1) gNil)))
noncomputable def g_rebuilt (p:Lm) (L:LF) (F_rebuilt:List Wv → Hs → Re Wv):GS:=(gSeq (gSet 2 (gBin oIx (gVar 0) (gC (.int 0))))
  (gSeq (gSet 3 (gCall 1 F_tail_of (gCons (gVar 0) gNil)))
  (gSeq (gIf (gOr (gTst (gBin oEq (gVar 2) (gC (.str "at")))) (gTru (gCall 1 F_has_area (gCons (gVar 2) gNil)))) (gSeq (gSet 4 (gCallF p 3 L 1 (gCons (gVar 2) (gCons (gBin oIx (gVar 3) (gC (.int 0))) (gCons (gBin oIx (gVar 3) (gC (.int 1))) gNil)))))
    (gSeq (gIf (gTst (gBin oIs (gVar 4) (gC .non))) (gRet (gTup (gCons (gC (.str "lost")) gNil))) gNext)
    (gSet 3 (gTup (gCons (gVar 4) (gCons (gBin oIx (gVar 3) (gC (.int 1))) gNil)))))) gNext)
  (gRet (gBin oAdd (gBin oAdd (gTup (gCons (gVar 2) gNil)) (gCallB oTupC (gCons (gComp [("goes",1)] (giSeq2 (gCall 1 F_parts_of (gCons (gVar 0) gNil))) (g_rebuilt_C1t p L F_rebuilt) (g_rebuilt_C1e p L F_rebuilt)) gNil))) (gVar 3))))))
noncomputable def c_rebuilt (p:Lm) (L:LF) (F_rebuilt:List Wv → Hs → Re Wv):Ct where
  N:=["formula","goes","word","tail","spot"]
  names:=(defScope s_rebuilt).names
  consts:=[]
  bl:=["tuple"]
  fns:=[("tail_of",1,F_tail_of),("has_area",1,F_has_area),("rebuilt",2,F_rebuilt),("parts_of",1,F_parts_of)]
  tb:=tbl
  tt:=tblT
  tc:=tblC
  clss:=[]
  cln:=[]
  dcs:=[]
  dts:=[]
  dks:=[]
  lam:=some (p,L)
theorem r_rebuilt (p:Lm) (L:LF) (F_rebuilt:List Wv → Hs → Re Wv):compS 30 (c_rebuilt p L F_rebuilt) (defBody s_rebuilt) = g_rebuilt p L F_rebuilt:=by kernel_rfl
theorem sc_rebuilt (p:Lm) (L:LF) (F_rebuilt:List Wv → Hs → Re Wv):FnScope ["formula","goes","word","tail","spot"] ["formula","goes"] (defScope s_rebuilt):=⟨rfl,rfl,rfl,by decide +kernel,rfl,by decide +kernel,by decide +kernel⟩
noncomputable def RR_rebuilt (p:Lm) (L:LF):Nat → (List Wv → Hs → Re Wv)
  | 0 => fBad
  | n + 1 => fnF 5 (g_rebuilt p L ((RR_rebuilt p L n)))
noncomputable def R_rebuilt (p:Lm) (L:LF) (n:Nat):List Wv → Hs → Re Wv:=(RR_rebuilt p L n)
theorem R_rebuilt_succ (p:Lm) (L:LF) (n:Nat):R_rebuilt p L (n + 1) = fnF 5 (g_rebuilt p L (R_rebuilt p L n)):=rfl
noncomputable def F_rebuilt:FLt:=fun p L => R_rebuilt p L 8
abbrev s_is_of_rows:Stmt:=top 41
noncomputable def g_is_of_rows:GS:=(gRet (gBin oIn2 (gBin oIx (gVar 0) (gC (.int 0))) (gC (.ktp [.str "rows in",.str "rows out"]))))
noncomputable def F_is_of_rows:List Wv → Hs → Re Wv:=fnF 1 g_is_of_rows
noncomputable def c_is_of_rows:Ct where
  N:=["shift"]
  names:=(defScope s_is_of_rows).names
  consts:=[("ROW_WAYS",(.ktp [.str "rows in",.str "rows out"]))]
  bl:=[]
  fns:=[]
  tb:=tbl
  tt:=tblT
  tc:=tblC
  clss:=[]
  cln:=[]
  dcs:=[]
  dts:=[]
  dks:=[]
theorem r_is_of_rows:compS 30 (c_is_of_rows) (defBody s_is_of_rows) = g_is_of_rows:=by kernel_rfl
theorem sc_is_of_rows:FnScope (c_is_of_rows).N ["shift"] (defScope s_is_of_rows):=⟨rfl,rfl,rfl,by decide +kernel,rfl,by decide +kernel,by decide +kernel⟩
abbrev s_is_in:Stmt:=top 40
noncomputable def g_is_in:GS:=(gRet (gBin oIn2 (gBin oIx (gVar 0) (gC (.int 0))) (gC (.ktp [.str "rows in",.str "columns in"]))))
noncomputable def F_is_in:List Wv → Hs → Re Wv:=fnF 1 g_is_in
noncomputable def c_is_in:Ct where
  N:=["shift"]
  names:=(defScope s_is_in).names
  consts:=[("IN_WAYS",(.ktp [.str "rows in",.str "columns in"]))]
  bl:=[]
  fns:=[]
  tb:=tbl
  tt:=tblT
  tc:=tblC
  clss:=[]
  cln:=[]
  dcs:=[]
  dts:=[]
  dks:=[]
theorem r_is_in:compS 30 (c_is_in) (defBody s_is_in) = g_is_in:=by kernel_rfl
theorem sc_is_in:FnScope (c_is_in).N ["shift"] (defScope s_is_in):=⟨rfl,rfl,rfl,by decide +kernel,rfl,by decide +kernel,by decide +kernel⟩
abbrev s_is_taken:Stmt:=top 42
noncomputable def g_is_taken:GS:=(gRet (gAndV (gNotV (gCall 1 F_is_in (gCons (gVar 0) gNil))) (gChain oLe oLt (gBin oIx (gVar 0) (gC (.int 1))) (gVar 1) (gBin oAdd (gBin oIx (gVar 0) (gC (.int 1))) (gBin oIx (gVar 0) (gC (.int 2)))))))
noncomputable def F_is_taken:List Wv → Hs → Re Wv:=fnF 2 g_is_taken
noncomputable def c_is_taken:Ct where
  N:=["shift","line"]
  names:=(defScope s_is_taken).names
  consts:=[]
  bl:=[]
  fns:=[("is_in",1,F_is_in)]
  tb:=tbl
  tt:=tblT
  tc:=tblC
  clss:=[]
  cln:=[]
  dcs:=[]
  dts:=[]
  dks:=[]
theorem r_is_taken:compS 30 (c_is_taken) (defBody s_is_taken) = g_is_taken:=by kernel_rfl
theorem sc_is_taken:FnScope (c_is_taken).N ["shift","line"] (defScope s_is_taken):=⟨rfl,rfl,rfl,by decide +kernel,rfl,by decide +kernel,by decide +kernel⟩
abbrev s_loses_end_column:Stmt:=top 51
noncomputable def g_loses_end_column:GS:=(gRet (gAndV (gNotV (gCall 1 F_is_of_rows (gCons (gVar 0) gNil))) (gOrV (gCall 2 F_is_taken (gCons (gVar 0) (gCons (gBin oIx (gVar 1) (gC (.int 1))) gNil))) (gCall 2 F_is_taken (gCons (gVar 0) (gCons (gBin oIx (gVar 1) (gC (.int 3))) gNil))))))
noncomputable def F_loses_end_column:List Wv → Hs → Re Wv:=fnF 2 g_loses_end_column
noncomputable def c_loses_end_column:Ct where
  N:=["shift","area"]
  names:=(defScope s_loses_end_column).names
  consts:=[]
  bl:=[]
  fns:=[("is_of_rows",1,F_is_of_rows),("is_taken",2,F_is_taken)]
  tb:=tbl
  tt:=tblT
  tc:=tblC
  clss:=[]
  cln:=[]
  dcs:=[]
  dts:=[]
  dks:=[]
theorem r_loses_end_column:compS 30 (c_loses_end_column) (defBody s_loses_end_column) = g_loses_end_column:=by kernel_rfl
theorem sc_loses_end_column:FnScope (c_loses_end_column).N ["shift","area"] (defScope s_loses_end_column):=⟨rfl,rfl,rfl,by decide +kernel,rfl,by decide +kernel,by decide +kernel⟩
abbrev s_moved_line:Stmt:=top 43
noncomputable def g_moved_line:GS:=(gSeq (gIf (gTru (gCall 2 F_is_taken (gCons (gVar 0) (gCons (gVar 1) gNil)))) (gRet (gC .non)) gNext)
  (gSeq (gIf (gTst (gBin oLt (gVar 1) (gBin oIx (gVar 0) (gC (.int 1))))) (gRet (gVar 1)) gNext)
  (gSeq (gIf (gNot (gTru (gCall 1 F_is_in (gCons (gVar 0) gNil)))) (gRet (gBin oSub (gVar 1) (gBin oIx (gVar 0) (gC (.int 2))))) gNext)
  (gSeq (gSet 2 (gIfE (gTru (gCall 1 F_is_of_rows (gCons (gVar 0) gNil))) (gC (.int 99)) (gC (.int 26))))
  (gRet (gIfE (gTst (gBin oLt (gBin oAdd (gVar 1) (gBin oIx (gVar 0) (gC (.int 2)))) (gVar 2))) (gBin oAdd (gVar 1) (gBin oIx (gVar 0) (gC (.int 2)))) (gC .non)))))))
noncomputable def F_moved_line:List Wv → Hs → Re Wv:=fnF 3 g_moved_line
noncomputable def c_moved_line:Ct where
  N:=["shift","line","lines"]
  names:=(defScope s_moved_line).names
  consts:=[("ROWS",(.int 99)),("COLUMNS",(.int 26))]
  bl:=[]
  fns:=[("is_taken",2,F_is_taken),("is_in",1,F_is_in),("is_of_rows",1,F_is_of_rows)]
  tb:=tbl
  tt:=tblT
  tc:=tblC
  clss:=[]
  cln:=[]
  dcs:=[]
  dts:=[]
  dks:=[]
theorem r_moved_line:compS 30 (c_moved_line) (defBody s_moved_line) = g_moved_line:=by kernel_rfl
theorem sc_moved_line:FnScope (c_moved_line).N ["shift","line"] (defScope s_moved_line):=⟨rfl,rfl,rfl,by decide +kernel,rfl,by decide +kernel,by decide +kernel⟩
abbrev s_moved_place:Stmt:=top 44
noncomputable def g_moved_place:GS:=(gSeq (gIf (gTru (gCall 1 F_is_of_rows (gCons (gVar 0) gNil))) (gSeq (gSet 2 (gCall 2 F_moved_line (gCons (gVar 0) (gCons (gBin oIx (gVar 1) (gC (.int 0))) gNil))))
    (gRet (gIfE (gTst (gBin oIs (gVar 2) (gC .non))) (gC .non) (gTup (gCons (gVar 2) (gCons (gBin oIx (gVar 1) (gC (.int 1))) gNil)))))) gNext)
  (gSeq (gSet 3 (gCall 2 F_moved_line (gCons (gVar 0) (gCons (gBin oIx (gVar 1) (gC (.int 1))) gNil))))
  (gRet (gIfE (gTst (gBin oIs (gVar 3) (gC .non))) (gC .non) (gTup (gCons (gBin oIx (gVar 1) (gC (.int 0))) (gCons (gVar 3) gNil)))))))
noncomputable def F_moved_place:List Wv → Hs → Re Wv:=fnF 4 g_moved_place
noncomputable def c_moved_place:Ct where
  N:=["shift","place","row","column"]
  names:=(defScope s_moved_place).names
  consts:=[]
  bl:=[]
  fns:=[("is_of_rows",1,F_is_of_rows),("moved_line",2,F_moved_line)]
  tb:=tbl
  tt:=tblT
  tc:=tblC
  clss:=[]
  cln:=[]
  dcs:=[]
  dts:=[]
  dks:=[]
theorem r_moved_place:compS 30 (c_moved_place) (defBody s_moved_place) = g_moved_place:=by kernel_rfl
theorem sc_moved_place:FnScope (c_moved_place).N ["shift","place"] (defScope s_moved_place):=⟨rfl,rfl,rfl,by decide +kernel,rfl,by decide +kernel,by decide +kernel⟩
abbrev s_moved_ends:Stmt:=top 47
noncomputable def g_moved_ends_C1t:GT:=(gNot (gTru (gCall 2 F_is_taken (gCons (gVar 1) (gCons (gVar 0) gNil)))))
noncomputable def g_moved_ends_C1e:GE:=(gVar 0)
noncomputable def g_moved_ends:GS:=(gSeq (gSet 3 (gComp [("shift",0)] (giR2 (gCons (gVar 1) (gCons (gBin oAdd (gVar 2) (gC (.int 1))) gNil))) g_moved_ends_C1t g_moved_ends_C1e))
  (gSeq (gIf (gNot (gTru (gVar 3))) (gRet (gC .non)) gNext)
  (gSeq (gSet 4 (gTup (gCons (gCall 2 F_moved_line (gCons (gVar 0) (gCons (gBin oIx (gVar 3) (gC (.int 0))) gNil))) (gCons (gCall 2 F_moved_line (gCons (gVar 0) (gCons (gBin oIx (gVar 3) (gUn opNeg (gC (.int 1)))) gNil))) gNil))))
  (gRet (gIfE (gTst (gBin oIn2 (gC .non) (gVar 4))) (gC .non) (gVar 4))))))
noncomputable def F_moved_ends:List Wv → Hs → Re Wv:=fnF 5 g_moved_ends
noncomputable def c_moved_ends:Ct where
  N:=["shift","first","last","left","ends"]
  names:=(defScope s_moved_ends).names
  consts:=[]
  bl:=["range"]
  fns:=[("moved_line",2,F_moved_line),("is_taken",2,F_is_taken)]
  tb:=tbl
  tt:=tblT
  tc:=tblC
  clss:=[]
  cln:=[]
  dcs:=[]
  dts:=[]
  dks:=[]
theorem r_moved_ends:compS 30 (c_moved_ends) (defBody s_moved_ends) = g_moved_ends:=by kernel_rfl
theorem sc_moved_ends:FnScope (c_moved_ends).N ["shift","first","last"] (defScope s_moved_ends):=⟨rfl,rfl,rfl,by decide +kernel,rfl,by decide +kernel,by decide +kernel⟩
abbrev s_area_with_ends:Stmt:=top 46
noncomputable def g_area_with_ends:GS:=(gSeq (gIf (gTru (gCall 1 F_is_of_rows (gCons (gVar 0) gNil))) (gSeq (gSet 2 (gCall 3 F_moved_ends (gCons (gVar 0) (gCons (gBin oIx (gVar 1) (gC (.int 0))) (gCons (gBin oIx (gVar 1) (gC (.int 2))) gNil)))))
    (gRet (gIfE (gTst (gBin oIs (gVar 2) (gC .non))) (gC .non) (gTup (gCons (gBin oIx (gVar 2) (gC (.int 0))) (gCons (gBin oIx (gVar 1) (gC (.int 1))) (gCons (gBin oIx (gVar 2) (gC (.int 1))) (gCons (gBin oIx (gVar 1) (gC (.int 3))) gNil)))))))) gNext)
  (gSeq (gSet 2 (gCall 3 F_moved_ends (gCons (gVar 0) (gCons (gBin oIx (gVar 1) (gC (.int 1))) (gCons (gBin oIx (gVar 1) (gC (.int 3))) gNil)))))
  (gRet (gIfE (gTst (gBin oIs (gVar 2) (gC .non))) (gC .non) (gTup (gCons (gBin oIx (gVar 1) (gC (.int 0))) (gCons (gBin oIx (gVar 2) (gC (.int 0))) (gCons (gBin oIx (gVar 1) (gC (.int 2))) (gCons (gBin oIx (gVar 2) (gC (.int 1))) gNil)))))))))
noncomputable def F_area_with_ends:List Wv → Hs → Re Wv:=fnF 3 g_area_with_ends
noncomputable def c_area_with_ends:Ct where
  N:=["shift","area","ends"]
  names:=(defScope s_area_with_ends).names
  consts:=[]
  bl:=[]
  fns:=[("is_of_rows",1,F_is_of_rows),("moved_ends",3,F_moved_ends)]
  tb:=tbl
  tt:=tblT
  tc:=tblC
  clss:=[]
  cln:=[]
  dcs:=[]
  dts:=[]
  dks:=[]
theorem r_area_with_ends:compS 30 (c_area_with_ends) (defBody s_area_with_ends) = g_area_with_ends:=by kernel_rfl
theorem sc_area_with_ends:FnScope (c_area_with_ends).N ["shift","area"] (defScope s_area_with_ends):=⟨rfl,rfl,rfl,by decide +kernel,rfl,by decide +kernel,by decide +kernel⟩
abbrev s_is_place:Stmt:=top 10
noncomputable def g_is_place:GS:=(gRet (gAndV (gChain oLe oLt (gC (.int 0)) (gBin oIx (gVar 0) (gC (.int 0))) (gC (.int 99))) (gChain oLe oLt (gC (.int 0)) (gBin oIx (gVar 0) (gC (.int 1))) (gC (.int 26)))))
noncomputable def F_is_place:List Wv → Hs → Re Wv:=fnF 1 g_is_place
noncomputable def c_is_place:Ct where
  N:=["place"]
  names:=(defScope s_is_place).names
  consts:=[("ROWS",(.int 99)),("COLUMNS",(.int 26))]
  bl:=[]
  fns:=[]
  tb:=tbl
  tt:=tblT
  tc:=tblC
  clss:=[]
  cln:=[]
  dcs:=[]
  dts:=[]
  dks:=[]
theorem r_is_place:compS 30 (c_is_place) (defBody s_is_place) = g_is_place:=by kernel_rfl
theorem sc_is_place:FnScope (c_is_place).N ["place"] (defScope s_is_place):=⟨rfl,rfl,rfl,by decide +kernel,rfl,by decide +kernel,by decide +kernel⟩
abbrev s_has_corners:Stmt:=top 14
noncomputable def g_has_corners:GS:=(gSeq (gSet 1 (gAndV (gBin oLe (gBin oIx (gVar 0) (gC (.int 0))) (gBin oIx (gVar 0) (gC (.int 2)))) (gBin oLe (gBin oIx (gVar 0) (gC (.int 1))) (gBin oIx (gVar 0) (gC (.int 3))))))
  (gRet (gAndV (gVar 1) (gAndV (gCall 1 F_is_place (gCons (gSlice2 (gVar 0) gNoPart (gPart (gC (.int 2)))) gNil)) (gCall 1 F_is_place (gCons (gSlice2 (gVar 0) (gPart (gC (.int 2))) gNoPart) gNil))))))
noncomputable def F_has_corners:List Wv → Hs → Re Wv:=fnF 2 g_has_corners
noncomputable def c_has_corners:Ct where
  N:=["area","in_order"]
  names:=(defScope s_has_corners).names
  consts:=[]
  bl:=[]
  fns:=[("is_place",1,F_is_place)]
  tb:=tbl
  tt:=tblT
  tc:=tblC
  clss:=[]
  cln:=[]
  dcs:=[]
  dts:=[]
  dks:=[]
theorem r_has_corners:compS 30 (c_has_corners) (defBody s_has_corners) = g_has_corners:=by kernel_rfl
theorem sc_has_corners:FnScope (c_has_corners).N ["area"] (defScope s_has_corners):=⟨rfl,rfl,rfl,by decide +kernel,rfl,by decide +kernel,by decide +kernel⟩
abbrev s_area_many:Stmt:=top 15
noncomputable def g_area_many:GS:=(gRet (gBin oMulL (gBin oAdd (gBin oSub (gBin oIx (gVar 0) (gC (.int 2))) (gBin oIx (gVar 0) (gC (.int 0)))) (gC (.int 1))) (gBin oAdd (gBin oSub (gBin oIx (gVar 0) (gC (.int 3))) (gBin oIx (gVar 0) (gC (.int 1)))) (gC (.int 1)))))
noncomputable def F_area_many:List Wv → Hs → Re Wv:=fnF 1 g_area_many
noncomputable def c_area_many:Ct where
  N:=["area"]
  names:=(defScope s_area_many).names
  consts:=[]
  bl:=[]
  fns:=[]
  tb:=tbl
  tt:=tblT
  tc:=tblC
  clss:=[]
  cln:=[]
  dcs:=[]
  dts:=[]
  dks:=[]
theorem r_area_many:compS 30 (c_area_many) (defBody s_area_many) = g_area_many:=by kernel_rfl
theorem sc_area_many:FnScope (c_area_many).N ["area"] (defScope s_area_many):=⟨rfl,rfl,rfl,by decide +kernel,rfl,by decide +kernel,by decide +kernel⟩
abbrev s_is_area:Stmt:=top 13
noncomputable def g_is_area:GS:=(gRet (gAndV (gCall 1 F_has_corners (gCons (gVar 0) gNil)) (gBin oLe (gCall 1 F_area_many (gCons (gVar 0) gNil)) (gC (.int 300)))))
noncomputable def F_is_area:List Wv → Hs → Re Wv:=fnF 1 g_is_area
noncomputable def c_is_area:Ct where
  N:=["area"]
  names:=(defScope s_is_area).names
  consts:=[("MOST_PLACES",(.int 300))]
  bl:=[]
  fns:=[("has_corners",1,F_has_corners),("area_many",1,F_area_many)]
  tb:=tbl
  tt:=tblT
  tc:=tblC
  clss:=[]
  cln:=[]
  dcs:=[]
  dts:=[]
  dks:=[]
theorem r_is_area:compS 30 (c_is_area) (defBody s_is_area) = g_is_area:=by kernel_rfl
theorem sc_is_area:FnScope (c_is_area).N ["area"] (defScope s_is_area):=⟨rfl,rfl,rfl,by decide +kernel,rfl,by decide +kernel,by decide +kernel⟩
abbrev s_moved_area:Stmt:=top 45
noncomputable def g_moved_area:GS:=(gSeq (gSet 2 (gCall 2 F_area_with_ends (gCons (gVar 0) (gCons (gVar 1) gNil))))
  (gRet (gIfE (gAnd (gTst (gBin oIsNot (gVar 2) (gC .non))) (gTru (gCall 1 F_is_area (gCons (gVar 2) gNil)))) (gVar 2) (gC .non))))
noncomputable def F_moved_area:List Wv → Hs → Re Wv:=fnF 3 g_moved_area
noncomputable def c_moved_area:Ct where
  N:=["shift","area","area_now"]
  names:=(defScope s_moved_area).names
  consts:=[]
  bl:=[]
  fns:=[("area_with_ends",2,F_area_with_ends),("is_area",1,F_is_area)]
  tb:=tbl
  tt:=tblT
  tc:=tblC
  clss:=[]
  cln:=[]
  dcs:=[]
  dts:=[]
  dks:=[]
theorem r_moved_area:compS 30 (c_moved_area) (defBody s_moved_area) = g_moved_area:=by kernel_rfl
theorem sc_moved_area:FnScope (c_moved_area).N ["shift","area"] (defScope s_moved_area):=⟨rfl,rfl,rfl,by decide +kernel,rfl,by decide +kernel,by decide +kernel⟩
abbrev s_turned_spot:Stmt:=top 50
noncomputable def g_turned_spot:GS:=(gSeq (gIf (gAnd (gTst (gBin oEq (gVar 1) (gC (.str "find")))) (gTru (gCall 2 F_loses_end_column (gCons (gVar 0) (gCons (gVar 2) gNil))))) (gRet (gC .non)) gNext)
  (gSeq (gSet 3 (gIfE (gTst (gBin oEq (gVar 1) (gC (.str "at")))) (gCall 2 F_moved_place (gCons (gVar 0) (gCons (gVar 2) gNil))) (gCall 2 F_moved_area (gCons (gVar 0) (gCons (gVar 2) gNil)))))
  (gSeq (gIf (gAnd (gTst (gBin oIs (gVar 3) (gC .non))) (gTru (gCall 1 F_is_in (gCons (gVar 0) gNil)))) (gRaise "NoRoom" (gCons (gC (.str "a formula's cell or area has no room")) gNil)) gNext)
  (gRet (gVar 3)))))
noncomputable def F_turned_spot:List Wv → Hs → Re Wv:=fnF 4 g_turned_spot
noncomputable def c_turned_spot:Ct where
  N:=["shift","word","spot","spot_now"]
  names:=(defScope s_turned_spot).names
  consts:=[]
  bl:=[]
  fns:=[("loses_end_column",2,F_loses_end_column),("moved_place",2,F_moved_place),("moved_area",2,F_moved_area),("is_in",1,F_is_in)]
  tb:=tbl
  tt:=tblT
  tc:=tblC
  clss:=["NoRoom"]
  cln:=[]
  dcs:=[]
  dts:=[]
  dks:=[]
theorem r_turned_spot:compS 30 (c_turned_spot) (defBody s_turned_spot) = g_turned_spot:=by kernel_rfl
theorem sc_turned_spot:FnScope (c_turned_spot).N ["shift","word","spot"] (defScope s_turned_spot):=⟨rfl,rfl,rfl,by decide +kernel,rfl,by decide +kernel,by decide +kernel⟩
abbrev s_turned:Stmt:=top 49
noncomputable def g_turned_M1:GE:=(gCall 3 F_turned_spot (gCons (gVar 3) (gCons (gVar 0) (gCons (gVar 1) gNil))))
noncomputable def g_turned:GS:=(gRet (gLam F_rebuilt 0 (gVar 1) g_turned_M1))
noncomputable def F_turned:List Wv → Hs → Re Wv:=fnF 2 g_turned
noncomputable def c_turned:Ct where
  N:=["shift","formula"]
  names:=(defScope s_turned).names
  consts:=[]
  bl:=[]
  fns:=[("turned_spot",3,F_turned_spot)]
  tb:=tbl
  tt:=tblT
  tc:=tblC
  clss:=[]
  cln:=[]
  dcs:=[]
  dts:=[]
  dks:=[]
  fnL:=[("rebuilt",F_rebuilt)]
  lfn:=["turned_spot"]
  lj:=7
  self:="turned"
theorem r_turned:compS 30 (c_turned) (defBody s_turned) = g_turned:=by kernel_rfl
theorem sc_turned:FnScope (c_turned).N ["shift","formula"] (defScope s_turned):=⟨rfl,rfl,rfl,by decide +kernel,rfl,by decide +kernel,by decide +kernel⟩
abbrev s__law_refused:Stmt:=top 68
noncomputable def g__law_refused_B1:GS:=(gExpr (gCall 2 F_turned (gCons (gVar 0) (gCons (gVar 1) gNil))))
noncomputable def g__law_refused_U1:GS:=(gSet 2 (gVar 3))
noncomputable def g__law_refused:GS:=(gSeq (gSet 2 (gC .non))
  (gSeq (gTry (fun y => tblC.lookup (y,("SheetError":PySem.Str))) 3 g__law_refused_B1 g__law_refused_U1)
  (gSeq (gIf (gOr (gNot (gTru (gCallB (oIsA tbl tblT) (gCons (gVar 2) (gCons (gC (.cls "NoRoom")) gNil))))) (gNot (gTru (gCallB (oIsA tbl tblT) (gCons (gVar 2) (gCons (gC (.ty "ValueError")) gNil)))))) (gRet (gC (.bl false))) gNext)
  (gRet (gNotV (gCallB (oIsA tbl tblT) (gCons (gVar 2) (gCons (gTup (gCons (gC (.cls "BadArea")) (gCons (gC (.cls "BadFormula")) (gCons (gC (.cls "BadPlace")) gNil)))) gNil))))))))
noncomputable def F__law_refused:List Wv → Hs → Re Wv:=fnF 4 g__law_refused
noncomputable def c__law_refused:Ct where
  N:=["shift","formula","caught","e"]
  names:=(defScope s__law_refused).names
  consts:=[]
  bl:=["isinstance","ValueError"]
  fns:=[("turned",2,F_turned)]
  tb:=tbl
  tt:=tblT
  tc:=tblC
  clss:=["SheetError"]
  cln:=["NoRoom","BadArea","BadFormula","BadPlace"]
  dcs:=[]
  dts:=[]
  dks:=[]
theorem r__law_refused:compS 30 (c__law_refused) (defBody s__law_refused) = g__law_refused:=by kernel_rfl
theorem sc__law_refused:FnScope (c__law_refused).N ["shift","formula"] (defScope s__law_refused):=⟨rfl,rfl,rfl,by decide +kernel,rfl,by decide +kernel,by decide +kernel⟩
abbrev s_level_below:Stmt:=top 35
noncomputable def g_level_below_L1:GS:=(gExpr (gMeth mExtT (gVar 1) (gCall 1 F_parts_of (gCons (gVar 2) gNil))))
noncomputable def g_level_below:GS:=(gSeq (gSet 1 (gLst gNil))
  (gSeq (gFor 2 (gVar 0) g_level_below_L1)
  (gRet (gVar 1))))
noncomputable def F_level_below:List Wv → Hs → Re Wv:=fnF 3 g_level_below
noncomputable def c_level_below:Ct where
  N:=["level","parts","piece"]
  names:=(defScope s_level_below).names
  consts:=[]
  bl:=[]
  fns:=[("parts_of",1,F_parts_of)]
  tb:=tbl
  tt:=tblT
  tc:=tblC
  clss:=[]
  cln:=[]
  dcs:=[]
  dts:=[]
  dks:=[]
theorem r_level_below:compS 30 (c_level_below) (defBody s_level_below) = g_level_below:=by kernel_rfl
theorem sc_level_below:FnScope (c_level_below).N ["level"] (defScope s_level_below):=⟨rfl,rfl,rfl,by decide +kernel,rfl,by decide +kernel,by decide +kernel⟩
abbrev s_is_whole:Stmt:=top 26
noncomputable def g_is_whole:GS:=(gRet (gAndV (gCallB (oIsA tbl tblT) (gCons (gVar 0) (gCons (gC (.ty "int")) gNil))) (gNotV (gCallB (oIsA tbl tblT) (gCons (gVar 0) (gCons (gC (.ty "bool")) gNil))))))
noncomputable def F_is_whole:List Wv → Hs → Re Wv:=fnF 1 g_is_whole
noncomputable def c_is_whole:Ct where
  N:=["thing"]
  names:=(defScope s_is_whole).names
  consts:=[]
  bl:=["isinstance","int","bool"]
  fns:=[]
  tb:=tbl
  tt:=tblT
  tc:=tblC
  clss:=[]
  cln:=[]
  dcs:=[]
  dts:=[]
  dks:=[]
theorem r_is_whole:compS 30 (c_is_whole) (defBody s_is_whole) = g_is_whole:=by kernel_rfl
theorem sc_is_whole:FnScope (c_is_whole).N ["thing"] (defScope s_is_whole):=⟨rfl,rfl,rfl,by decide +kernel,rfl,by decide +kernel,by decide +kernel⟩
abbrev s_is_text_sign:Stmt:=top 29
noncomputable def g_is_text_sign:GS:=(gRet (gAndV (gChain oLe oLe (gC (.int 32)) (gVar 0) (gC (.int 126))) (gAndV (gBin oNe (gVar 0) (gC (.int 34))) (gBin oNe (gVar 0) (gC (.int 37))))))
noncomputable def F_is_text_sign:List Wv → Hs → Re Wv:=fnF 1 g_is_text_sign
noncomputable def c_is_text_sign:Ct where
  N:=["number"]
  names:=(defScope s_is_text_sign).names
  consts:=[]
  bl:=[]
  fns:=[]
  tb:=tbl
  tt:=tblT
  tc:=tblC
  clss:=[]
  cln:=[]
  dcs:=[]
  dts:=[]
  dks:=[]
theorem r_is_text_sign:compS 30 (c_is_text_sign) (defBody s_is_text_sign) = g_is_text_sign:=by kernel_rfl
theorem sc_is_text_sign:FnScope (c_is_text_sign).N ["number"] (defScope s_is_text_sign):=⟨rfl,rfl,rfl,by decide +kernel,rfl,by decide +kernel,by decide +kernel⟩
abbrev s_has_text_signs:Stmt:=top 28
noncomputable def g_has_text_signs_C1t:GT:=(fun _ st => .ok true st)
noncomputable def g_has_text_signs_C1e:GE:=(gCall 1 F_is_text_sign (gCons (gCallB oOrd (gCons (gVar 0) gNil)) gNil))
noncomputable def g_has_text_signs:GS:=(gRet (gCallB oAll (gCons (gComp [] (giSeq2 (gVar 0)) g_has_text_signs_C1t g_has_text_signs_C1e) gNil)))
noncomputable def F_has_text_signs:List Wv → Hs → Re Wv:=fnF 1 g_has_text_signs
noncomputable def c_has_text_signs:Ct where
  N:=["text"]
  names:=(defScope s_has_text_signs).names
  consts:=[]
  bl:=["all","ord"]
  fns:=[("is_text_sign",1,F_is_text_sign)]
  tb:=tbl
  tt:=tblT
  tc:=tblC
  clss:=[]
  cln:=[]
  dcs:=[]
  dts:=[]
  dks:=[]
theorem r_has_text_signs:compS 30 (c_has_text_signs) (defBody s_has_text_signs) = g_has_text_signs:=by kernel_rfl
theorem sc_has_text_signs:FnScope (c_has_text_signs).N ["text"] (defScope s_has_text_signs):=⟨rfl,rfl,rfl,by decide +kernel,rfl,by decide +kernel,by decide +kernel⟩
abbrev s_is_text:Stmt:=top 27
noncomputable def g_is_text:GS:=(gRet (gAndV (gCallB (oIsA tbl tblT) (gCons (gVar 0) (gCons (gC (.ty "str")) gNil))) (gAndV (gBin oLe (gCallB oLen (gCons (gVar 0) gNil)) (gC (.int 40))) (gCall 1 F_has_text_signs (gCons (gVar 0) gNil)))))
noncomputable def F_is_text:List Wv → Hs → Re Wv:=fnF 1 g_is_text
noncomputable def c_is_text:Ct where
  N:=["thing"]
  names:=(defScope s_is_text).names
  consts:=[("MOST_SIGNS",(.int 40))]
  bl:=["isinstance","str","len"]
  fns:=[("has_text_signs",1,F_has_text_signs)]
  tb:=tbl
  tt:=tblT
  tc:=tblC
  clss:=[]
  cln:=[]
  dcs:=[]
  dts:=[]
  dks:=[]
theorem r_is_text:compS 30 (c_is_text) (defBody s_is_text) = g_is_text:=by kernel_rfl
theorem sc_is_text:FnScope (c_is_text).N ["thing"] (defScope s_is_text):=⟨rfl,rfl,rfl,by decide +kernel,rfl,by decide +kernel,by decide +kernel⟩
abbrev s_is_number_row:Stmt:=top 30
noncomputable def g_is_number_row_C1t:GT:=(fun _ st => .ok true st)
noncomputable def g_is_number_row_C1e:GE:=(gCall 1 F_is_whole (gCons (gVar 0) gNil))
noncomputable def g_is_number_row:GS:=(gRet (gAndV (gCallB (oIsA tbl tblT) (gCons (gVar 0) (gCons (gC (.ty "tuple")) gNil))) (gAndV (gBin oEq (gCallB oLen (gCons (gVar 0) gNil)) (gVar 1)) (gCallB oAll (gCons (gComp [] (giSeq2 (gVar 0)) g_is_number_row_C1t g_is_number_row_C1e) gNil)))))
noncomputable def F_is_number_row:List Wv → Hs → Re Wv:=fnF 2 g_is_number_row
noncomputable def c_is_number_row:Ct where
  N:=["thing","many"]
  names:=(defScope s_is_number_row).names
  consts:=[]
  bl:=["isinstance","tuple","all","len"]
  fns:=[("is_whole",1,F_is_whole)]
  tb:=tbl
  tt:=tblT
  tc:=tblC
  clss:=[]
  cln:=[]
  dcs:=[]
  dts:=[]
  dks:=[]
theorem r_is_number_row:compS 30 (c_is_number_row) (defBody s_is_number_row) = g_is_number_row:=by kernel_rfl
theorem sc_is_number_row:FnScope (c_is_number_row).N ["thing","many"] (defScope s_is_number_row):=⟨rfl,rfl,rfl,by decide +kernel,rfl,by decide +kernel,by decide +kernel⟩
abbrev s_are_pins:Stmt:=top 31
noncomputable def g_are_pins_C1t:GT:=(fun _ st => .ok true st)
noncomputable def g_are_pins_C1e:GE:=(gBin oIn2 (gVar 0) (gTup (gCons (gC (.int 0)) (gCons (gC (.int 1)) gNil))))
noncomputable def g_are_pins:GS:=(gRet (gAndV (gCall 2 F_is_number_row (gCons (gVar 0) (gCons (gVar 1) gNil))) (gCallB oAll (gCons (gComp [] (giSeq2 (gVar 0)) g_are_pins_C1t g_are_pins_C1e) gNil))))
noncomputable def F_are_pins:List Wv → Hs → Re Wv:=fnF 2 g_are_pins
noncomputable def c_are_pins:Ct where
  N:=["thing","many"]
  names:=(defScope s_are_pins).names
  consts:=[]
  bl:=["all"]
  fns:=[("is_number_row",2,F_is_number_row)]
  tb:=tbl
  tt:=tblT
  tc:=tblC
  clss:=[]
  cln:=[]
  dcs:=[]
  dts:=[]
  dks:=[]
theorem r_are_pins:compS 30 (c_are_pins) (defBody s_are_pins) = g_are_pins:=by kernel_rfl
theorem sc_are_pins:FnScope (c_are_pins).N ["thing","many"] (defScope s_are_pins):=⟨rfl,rfl,rfl,by decide +kernel,rfl,by decide +kernel,by decide +kernel⟩
abbrev s_is_tail:Stmt:=top 32
noncomputable def g_is_tail:GS:=(gSeq (gIf (gTst (gBin oEq (gVar 0) (gC (.str "num")))) (gRet (gAndV (gBin oEq (gCallB oLen (gCons (gVar 1) gNil)) (gC (.int 1))) (gAndV (gCall 1 F_is_whole (gCons (gBin oIx (gVar 1) (gC (.int 0))) gNil)) (gChain oLe oLe (gC (.int 0)) (gBin oIx (gVar 1) (gC (.int 0))) (gBin oPow (gC (.int 10)) (gC (.int 60))))))) gNext)
  (gSeq (gIf (gTst (gBin oEq (gVar 0) (gC (.str "text")))) (gRet (gAndV (gBin oEq (gCallB oLen (gCons (gVar 1) gNil)) (gC (.int 1))) (gCall 1 F_is_text (gCons (gBin oIx (gVar 1) (gC (.int 0))) gNil)))) gNext)
  (gSeq (gIf (gTst (gBin oEq (gVar 0) (gC (.str "at")))) (gRet (gAndV (gBin oEq (gCallB oLen (gCons (gVar 1) gNil)) (gC (.int 2))) (gAndV (gCall 2 F_is_number_row (gCons (gBin oIx (gVar 1) (gC (.int 0))) (gCons (gC (.int 2)) gNil))) (gAndV (gCall 1 F_is_place (gCons (gBin oIx (gVar 1) (gC (.int 0))) gNil)) (gCall 2 F_are_pins (gCons (gBin oIx (gVar 1) (gC (.int 1))) (gCons (gC (.int 2)) gNil))))))) gNext)
  (gSeq (gIf (gTru (gCall 1 F_has_area (gCons (gVar 0) gNil))) (gRet (gAndV (gBin oEq (gCallB oLen (gCons (gVar 1) gNil)) (gC (.int 2))) (gAndV (gCall 2 F_is_number_row (gCons (gBin oIx (gVar 1) (gC (.int 0))) (gCons (gC (.int 4)) gNil))) (gAndV (gCall 1 F_is_area (gCons (gBin oIx (gVar 1) (gC (.int 0))) gNil)) (gCall 2 F_are_pins (gCons (gBin oIx (gVar 1) (gC (.int 1))) (gCons (gC (.int 4)) gNil))))))) gNext)
  (gRet (gBin oEq (gCallB oLen (gCons (gVar 1) gNil)) (gC (.int 0))))))))
noncomputable def F_is_tail:List Wv → Hs → Re Wv:=fnF 2 g_is_tail
noncomputable def c_is_tail:Ct where
  N:=["word","tail"]
  names:=(defScope s_is_tail).names
  consts:=[]
  bl:=["len"]
  fns:=[("has_area",1,F_has_area),("is_whole",1,F_is_whole),("is_text",1,F_is_text),("is_number_row",2,F_is_number_row),("is_place",1,F_is_place),("are_pins",2,F_are_pins),("is_area",1,F_is_area)]
  tb:=tbl
  tt:=tblT
  tc:=tblC
  clss:=[]
  cln:=[]
  dcs:=[]
  dts:=[]
  dks:=[]
theorem r_is_tail:compS 30 (c_is_tail) (defBody s_is_tail) = g_is_tail:=by kernel_rfl
theorem sc_is_tail:FnScope (c_is_tail).N ["word","tail"] (defScope s_is_tail):=⟨rfl,rfl,rfl,by decide +kernel,rfl,by decide +kernel,by decide +kernel⟩
abbrev s_is_piece:Stmt:=top 33
noncomputable def g_is_piece:GS:=(gSeq (gIf (gOr (gNot (gTru (gCallB (oIsA tbl tblT) (gCons (gVar 0) (gCons (gC (.ty "tuple")) gNil))))) (gTst (gBin oEq (gCallB oLen (gCons (gVar 0) gNil)) (gC (.int 0))))) (gRet (gC (.bl false))) gNext)
  (gSeq (gSet 1 (gBin oIx (gVar 0) (gC (.int 0))))
  (gSeq (gIf (gOr (gNot (gTru (gCallB (oIsA tbl tblT) (gCons (gVar 1) (gCons (gC (.ty "str")) gNil))))) (gTst (gDcIn true d_PART_COUNTS (gVar 1)))) (gRet (gC (.bl false))) gNext)
  (gRet (gAndV (gBin oEq (gCallB oLen (gCons (gCall 1 F_parts_of (gCons (gVar 0) gNil)) gNil)) (gCall 1 F_part_many (gCons (gVar 1) gNil))) (gCall 2 F_is_tail (gCons (gVar 1) (gCons (gCall 1 F_tail_of (gCons (gVar 0) gNil)) gNil))))))))
noncomputable def F_is_piece:List Wv → Hs → Re Wv:=fnF 2 g_is_piece
noncomputable def c_is_piece:Ct where
  N:=["thing","word"]
  names:=(defScope s_is_piece).names
  consts:=[]
  bl:=["isinstance","tuple","len","str"]
  fns:=[("is_tail",2,F_is_tail),("part_many",1,F_part_many),("tail_of",1,F_tail_of),("parts_of",1,F_parts_of)]
  tb:=tbl
  tt:=tblT
  tc:=tblC
  clss:=[]
  cln:=[]
  dcs:=[("PART_COUNTS",d_PART_COUNTS)]
  dts:=[]
  dks:=[]
theorem r_is_piece:compS 30 (c_is_piece) (defBody s_is_piece) = g_is_piece:=by kernel_rfl
theorem sc_is_piece:FnScope (c_is_piece).N ["thing"] (defScope s_is_piece):=⟨rfl,rfl,rfl,by decide +kernel,rfl,by decide +kernel,by decide +kernel⟩
abbrev s_made_formula:Stmt:=top 34
noncomputable def g_made_formula_C1t:GT:=(fun _ st => .ok true st)
noncomputable def g_made_formula_C1e:GE:=(gCall 1 F_is_piece (gCons (gVar 0) gNil))
noncomputable def g_made_formula_L1:GS:=(gSeq (gAug (fun i j => i + j) 2 (gCallB oLen (gCons (gVar 1) gNil)))
  (gSeq (gAug (fun i j => i + j) 3 (gC (.int 1)))
  (gSeq (gIf (gOr (gTst (gBin oGt (gVar 2) (gC (.int 60)))) (gOr (gTst (gBin oGt (gVar 3) (gC (.int 12)))) (gNot (gTru (gCallB oAll (gCons (gComp [] (giSeq2 (gVar 1)) g_made_formula_C1t g_made_formula_C1e) gNil)))))) (gRaise "BadFormula" (gCons (gC (.str "no formula")) gNil)) gNext)
  (gSet 1 (gCall 1 F_level_below (gCons (gVar 1) gNil))))))
noncomputable def g_made_formula:GS:=(gSeq (gSet 1 (gLst (gCons (gVar 0) gNil)))
  (gSeq (gSet 2 (gC (.int 0)))
  (gSeq (gSet 3 (gC (.int 0)))
  (gSeq (gWhile wTurns (gTru (gVar 1)) g_made_formula_L1)
  (gRet (gVar 0))))))
noncomputable def F_made_formula:List Wv → Hs → Re Wv:=fnF 4 g_made_formula
noncomputable def c_made_formula:Ct where
  N:=["formula","level","pieces","deep"]
  names:=(defScope s_made_formula).names
  consts:=[("MOST_PIECES",(.int 60)),("MOST_DEEP",(.int 12))]
  bl:=["len","all"]
  fns:=[("level_below",1,F_level_below),("is_piece",1,F_is_piece)]
  tb:=tbl
  tt:=tblT
  tc:=tblC
  clss:=["BadFormula"]
  cln:=[]
  dcs:=[]
  dts:=[]
  dks:=[]
theorem r_made_formula:compS 30 (c_made_formula) (defBody s_made_formula) = g_made_formula:=by kernel_rfl
theorem sc_made_formula:FnScope (c_made_formula).N ["formula"] (defScope s_made_formula):=⟨rfl,rfl,rfl,by decide +kernel,rfl,by decide +kernel,by decide +kernel⟩
abbrev s_law:Stmt:=top 69
noncomputable def g_law_L2:GS:=(gSeq (gSet 5 (gCall 1 F__law_shift (gCons (gVar 2) gNil)))
  (gSeq (gSet 6 (gCall 2 F__law_turned (gCons (gVar 5) (gCons (gVar 3) gNil))))
  (gIf (gTst (gBin oIs (gVar 6) (gC .non))) (gIf (gNot (gTru (gCall 2 F__law_refused (gCons (gVar 5) (gCons (gVar 3) gNil))))) (gRet (gC (.bl false))) gNext) (gSeq (gSet 7 (gCall 2 F_turned (gCons (gVar 5) (gCons (gVar 3) gNil))))
    (gIf (gOr (gNot (gTru (gCallB (oIsA tbl tblT) (gCons (gVar 7) (gCons (gC (.ty "tuple")) gNil))))) (gOr (gTst (gBin oNe (gVar 7) (gVar 6))) (gTst (gBin oNe (gCall 1 F_made_formula (gCons (gVar 7) gNil)) (gVar 6))))) (gRet (gC (.bl false))) gNext)))))
noncomputable def g_law_L1:GS:=(gSeq (gSet 2 (gCall 1 F__law_pot (gCons (gVar 1) gNil)))
  (gSeq (gSet 3 (gCall 2 F__law_formula (gCons (gVar 2) (gCons (gC (.int 3)) gNil))))
  (gForR1 4 (gCons (gC (.int 3)) gNil) g_law_L2)))
noncomputable def g_law:GS:=(gSeq (gFor 1 (gBin oAdd (gLst (gCons (gC (.int 0)) (gCons (gC (.int 1)) gNil))) (gSlice2 (gVar 0) gNoPart (gPart (gC (.int 12))))) g_law_L1)
  (gRet (gC (.bl true))))
noncomputable def F_law:List Wv → Hs → Re Wv:=fnF 8 g_law
noncomputable def c_law:Ct where
  N:=["script","cell","pot","formula","k","shift","due","found"]
  names:=(defScope s_law).names
  consts:=[]
  bl:=["range","isinstance","tuple"]
  fns:=[("_law_pot",1,F__law_pot),("_law_formula",2,F__law_formula),("_law_shift",1,F__law_shift),("_law_turned",2,F__law_turned),("turned",2,F_turned),("_law_refused",2,F__law_refused),("made_formula",1,F_made_formula)]
  tb:=tbl
  tt:=tblT
  tc:=tblC
  clss:=[]
  cln:=[]
  dcs:=[]
  dts:=[]
  dks:=[]
theorem r_law:compS 30 (c_law) (defBody s_law) = g_law:=by kernel_rfl
theorem sc_law:FnScope (c_law).N ["script"] (defScope s_law):=⟨rfl,rfl,rfl,by decide +kernel,rfl,by decide +kernel,by decide +kernel⟩
end K46
namespace K46
open PySem J
abbrev S:=PySem.Str
def tI (l:List Int):Wv:=.tup (l.map Wv.int)
inductive Fm
 | lit (x:S) (ws:List Wv)
 | pt (x:S) (l p:List Int)
 | fd (a:Fm) (l p:List Int)
 | o1 (x:S) (a:Fm)
 | o2 (x:S) (a b:Fm)
 | o3 (a b c:Fm)
def Fm.v:Fm → S × List Wv
 | .lit x ws => (x,ws)
 | .pt x l p => (x,[tI l,tI p])
 | .fd a l p => ("find",[.tup (.str a.v.1 :: a.v.2),tI l,tI p])
 | .o1 x a => (x,[.tup (.str a.v.1 :: a.v.2)])
 | .o2 x a b => (x,[.tup (.str a.v.1 :: a.v.2),.tup (.str b.v.1 :: b.v.2)])
 | .o3 a b c => ("if",[.tup (.str a.v.1 :: a.v.2),.tup (.str b.v.1 :: b.v.2),.tup (.str c.v.1 :: c.v.2)])
def Fm.w (f:Fm):Wv:=.tup (.str f.v.1 :: f.v.2)
def Fm.dp:Fm → Nat
 | .lit _ _ => 1
 | .pt _ _ _ => 1
 | .fd a _ _ => a.dp + 1
 | .o1 _ a => a.dp + 1
 | .o2 _ a b => max a.dp b.dp + 1
 | .o3 a b c => max a.dp (max b.dp c.dp) + 1
def Fm.sz:Fm → Nat
 | .lit _ _ => 1
 | .pt _ _ _ => 1
 | .fd a _ _ => a.sz + 1
 | .o1 _ a => a.sz + 1
 | .o2 _ a b => a.sz + b.sz + 1
 | .o3 a b c => a.sz + b.sz + c.sz + 1
def P60:Int:=10 ^ (60:Int).toNat
def Sg (c:Nat):Prop:=32 ≤ c ∧ c ≤ 126 ∧ c ≠ 34 ∧ c ≠ 37
def TxOk (s:S):Prop:=s.length ≤ 40 ∧ ∀ c ∈ s.cps.toList,Sg c
def LitOk (x:S) (ws:List Wv):Prop:=(x = "num" ∧ ∃ i,ws = [.int i] ∧ 0 ≤ i ∧ i ≤ P60) ∨ (x = "text" ∧ ∃ s,ws = [.str s] ∧ TxOk s) ∨ (x = "lost" ∧ ws = [])
def P01 (q:Int):Prop:=q = 0 ∨ q = 1
def PlOk (a b:Int):Prop:=0 ≤ a ∧ a < 99 ∧ 0 ≤ b ∧ b < 26
def ArOk (a b c d:Int):Prop:=0 ≤ a ∧ a ≤ c ∧ c < 99 ∧ 0 ≤ b ∧ b ≤ d ∧ d < 26 ∧ (c - a + 1) * (d - b + 1) ≤ 300
def Sh2 (l p:List Int):Prop:=∃ a b q r,l = [a,b] ∧ p = [q,r] ∧ PlOk a b ∧ P01 q ∧ P01 r
def Sh4 (l p:List Int):Prop:=∃ a b c d q r s t,l = [a,b,c,d] ∧ p = [q,r,s,t] ∧ ArOk a b c d ∧ P01 q ∧ P01 r ∧ P01 s ∧ P01 t
def AW:List S:=["sum","count","least","greatest"]
def W1:List S:=["minus","not"]
def W2:List S:=["else","rest","+","-","*","/","&","<","="]
def Fm.ok:Fm → Prop
 | .lit x ws => LitOk x ws
 | .pt x l p => (x = "at" ∧ Sh2 l p) ∨ (x ∈ AW ∧ Sh4 l p)
 | .fd a l p => a.ok ∧ Sh4 l p
 | .o1 x a => x ∈ W1 ∧ a.ok
 | .o2 x a b => x ∈ W2 ∧ a.ok ∧ b.ok
 | .o3 a b c => a.ok ∧ b.ok ∧ c.ok
theorem cat {x:Wv} {xs ys:List Wv} {st:Hs} (h:xs.length + ys.length ≤ 100):oAdd (.tup (x :: xs)) (.tup ys) st = .ok (.tup (x :: (xs ++ ys))) st:=by
 show (if (x :: xs).length + ys.length ≤ lim then Re.ok (Wv.tup (x :: xs ++ ys)) st else .bad) = _
 rw [if_pos (by simp [lim]; omega)]
 rfl
def szs (fs:List Fm):Nat:=(fs.map Fm.sz).sum
theorem p60 {st:Hs}:oPow (.int 10) (.int 60) st = .ok (.int P60) st:=pow_i (by decide)
theorem in_t {x:S} {ys:List S} {st:Hs}:oIn2 (.str x) (.tup (ys.map Wv.str)) st = .ok (.bl (decide (x ∈ ys))) st:=by
 have e1:(ys.map Wv.str).all flatW = true:=by
  rw [List.all_eq_true]
  intro w hw
  obtain ⟨y,_,rfl⟩:=List.mem_map.mp hw
  rfl
 have e2:((ys.map Wv.str).any fun z => eqF z (.str x)) = decide (x ∈ ys):=by
  rw [List.any_map]
  induction ys with
  | nil => rfl
  | cons y r ih =>
   rw [List.any_cons,ih (by rw [List.all_eq_true]; intro w hw; obtain ⟨y,_,rfl⟩:=List.mem_map.mp hw; rfl)]
   show ((y == x) || decide (x ∈ r)) = _
   by_cases c:y = x
   ·subst c; simp
   ·have:(y == x) = false:=beq_false_of_ne c
    rw [this]
    simp [Ne.symm c]
 show (if flatW (.str x) = true ∧ (ys.map Wv.str).all flatW = true then Re.ok (Wv.bl ((ys.map Wv.str).any fun z => eqF z (.str x))) st else .bad) = _
 rw [if_pos ⟨rfl,e1⟩,e2]
def AF:List S:=["sum","count","least","greatest","find"]
theorem has_area {x:S} {st:Hs}:F_has_area [.str x] st = .ok (.bl (decide (x ∈ AF))) st:=by
 have e:oIn2 (.str x) (.ktp [.str "sum",.str "count",.str "least",.str "greatest",.str "find"]) st = .ok (.bl (decide (x ∈ AF))) st:=in_t (ys:=AF)
 unfold F_has_area fnF g_has_area
 simp [e]
theorem ix0 {x:Wv} {ws:List Wv} {st:Hs}:oIx (.tup (x :: ws)) (.int 0) st = .ok x st:=ix_t (L2.atI_nat (j:=0) rfl)
theorem ix1 {x y:Wv} {ws:List Wv} {st:Hs}:oIx (.tup (x :: y :: ws)) (.int 1) st = .ok y st:=ix_t (L2.atI_nat (j:=1) rfl)
theorem sl_t {ws us:List Wv} {lo hi:Option Int} {st:Hs} (h:¬ isWh ws.length lo hi) (h2:cutW ws lo hi = us):oSl2 (.tup ws) lo hi st = .ok (.tup us) st:=by
 show (if isWh ws.length lo hi then Re.ok (Wv.tup ws) st else oSl (.tup ws) lo hi st) = _
 rw [if_neg h]
 show (if isWh ws.length lo hi then Re.bad else Re.ok (Wv.tup (cutW ws lo hi)) st) = _
 rw [if_neg h,h2]
theorem part_many {x:S} {k:Int} {st:Hs} (h:d_PART_COUNTS.lookup x = some (.int k)):F_part_many [.str x] st = .ok (.int k) st:=by
 unfold F_part_many fnF g_part_many
 simp [kDcIx_s h]
theorem parts_of {x:S} {k:Int} {ws us:List Wv} (h:d_PART_COUNTS.lookup x = some (.int k)) (n1:¬ isWh (ws.length + 1) (some 1) (some (1 + k))) (hc:cutW (.str x :: ws) (some 1) (some (1 + k)) = us) (st:Hs):F_parts_of [.tup (.str x :: ws)] st = .ok (.tup us) st:=by
 unfold F_parts_of fnF g_parts_of
 have s:=sl_t (ws:=.str x :: ws) (us:=us) (lo:=some 1) (hi:=some (1 + k)) (st:=st) n1 hc
 simp [ix0,part_many h,s]
theorem tail_of {x:S} {k:Int} {ws us:List Wv} (h:d_PART_COUNTS.lookup x = some (.int k)) (n1:¬ isWh (ws.length + 1) (some (1 + k)) none) (hc:cutW (.str x :: ws) (some (1 + k)) none = us) (st:Hs):F_tail_of [.tup (.str x :: ws)] st = .ok (.tup us) st:=by
 unfold F_tail_of fnF g_tail_of
 have s:=sl_t (ws:=.str x :: ws) (us:=us) (lo:=some (1 + k)) (hi:=none) (st:=st) n1 hc
 simp [ix0,part_many h,s]
def Fm.kids:Fm → List Fm
 | .lit _ _ => []
 | .pt _ _ _ => []
 | .fd a _ _ => [a]
 | .o1 _ a => [a]
 | .o2 _ a b => [a,b]
 | .o3 a b c => [a,b,c]
def Fm.tl:Fm → List Wv
 | .lit _ ws => ws
 | .pt _ l p => [tI l,tI p]
 | .fd _ l p => [tI l,tI p]
 | _ => []
theorem lk1 {x:S} (h:x ∈ W1):d_PART_COUNTS.lookup x = some (.int 1):=by
 simp only [W1,List.mem_cons,List.not_mem_nil,or_false] at h
 rcases h with rfl | rfl <;> rfl
theorem lk2 {x:S} (h:x ∈ W2):d_PART_COUNTS.lookup x = some (.int 2):=by
 simp only [W2,List.mem_cons,List.not_mem_nil,or_false] at h
 rcases h with rfl | rfl | rfl | rfl | rfl | rfl | rfl | rfl | rfl <;> rfl
theorem lk0 {x:S} (h:x ∈ AW):d_PART_COUNTS.lookup x = some (.int 0):=by
 simp only [AW,List.mem_cons,List.not_mem_nil,or_false] at h
 rcases h with rfl | rfl | rfl | rfl <;> rfl
theorem node {f:Fm} (h:f.ok):(∀ st,F_parts_of [f.w] st = .ok (.tup (f.kids.map Fm.w)) st) ∧ ∀ st,F_tail_of [f.w] st = .ok (.tup f.tl) st:=by
 cases f with
 | lit x ws =>
  rcases h with ⟨rfl,i,rfl,_⟩ | ⟨rfl,s,rfl,_⟩ | ⟨rfl,rfl⟩
  ·exact ⟨parts_of (k:=0) rfl (by show ¬ isWh 2 (some 1) (some (1 + 0)); decide +kernel) rfl,tail_of (k:=0) rfl (by show ¬ isWh 2 (some (1 + 0)) none; decide +kernel) rfl⟩
  ·exact ⟨parts_of (k:=0) rfl (by show ¬ isWh 2 (some 1) (some (1 + 0)); decide +kernel) rfl,tail_of (k:=0) rfl (by show ¬ isWh 2 (some (1 + 0)) none; decide +kernel) rfl⟩
  ·exact ⟨parts_of (k:=0) rfl (by show ¬ isWh 1 (some 1) (some (1 + 0)); decide +kernel) rfl,tail_of (k:=0) rfl (by show ¬ isWh 1 (some (1 + 0)) none; decide +kernel) rfl⟩
 | pt x l p =>
  have lk:d_PART_COUNTS.lookup x = some (.int 0):=by
   rcases h with ⟨rfl,_⟩ | ⟨hx,_⟩
   ·rfl
   ·exact lk0 hx
  exact ⟨parts_of (k:=0) lk (by show ¬ isWh 3 (some 1) (some (1 + 0)); decide +kernel) rfl,tail_of (k:=0) lk (by show ¬ isWh 3 (some (1 + 0)) none; decide +kernel) rfl⟩
 | fd a l p => exact ⟨parts_of (k:=1) rfl (by show ¬ isWh 4 (some 1) (some (1 + 1)); decide +kernel) rfl,tail_of (k:=1) rfl (by show ¬ isWh 4 (some (1 + 1)) none; decide +kernel) rfl⟩
 | o1 x a => exact ⟨parts_of (k:=1) (lk1 h.1) (by show ¬ isWh 2 (some 1) (some (1 + 1)); decide +kernel) rfl,tail_of (k:=1) (lk1 h.1) (by show ¬ isWh 2 (some (1 + 1)) none; decide +kernel) rfl⟩
 | o2 x a b => exact ⟨parts_of (k:=2) (lk2 h.1) (by show ¬ isWh 3 (some 1) (some (1 + 2)); decide +kernel) rfl,tail_of (k:=2) (lk2 h.1) (by show ¬ isWh 3 (some (1 + 2)) none; decide +kernel) rfl⟩
 | o3 a b c => exact ⟨parts_of (k:=3) rfl (by show ¬ isWh 4 (some 1) (some (1 + 3)); decide +kernel) rfl,tail_of (k:=3) rfl (by show ¬ isWh 4 (some (1 + 3)) none; decide +kernel) rfl⟩
theorem Gr.setNew {base st:Hs} {rr:Nat} {o:Ob} (h:base.length ≤ rr) (g:Gr base st):Gr base (st.set rr o):=⟨by simpa using g.1,fun j hj => by rw [List.getElem?_set_ne (by omega)]; exact g.2 j hj⟩
theorem tupC {l:Nat} {st:Hs} {ws:List Wv} (h:st[l]? = some (.lst ws)):oTupC [.ref l] st = .ok (.tup ws) st:=by
 show (match lstOf st l with | some ws => Re.ok (Wv.tup ws) st | none => .bad) = _
 rw [lst_get h]
theorem bls_rep:∀ n:Nat,blsOf (List.replicate n (.bl true)) = some (List.replicate n true)
 | 0 => rfl
 | n + 1 => by
  rw [List.replicate_succ]
  unfold blsOf
  rw [bls_rep n]
  rfl
theorem all_rep {l n:Nat} {st:Hs} (h:lstOf st l = some (List.replicate n (.bl true))):oAll [.ref l] st = .ok (.bl true) st:=by
 show (match lstOf st l with | some ws => (match blsOf ws with | some bs => Re.ok (Wv.bl (bs.all id)) st | none => .bad) | none => .bad) = _
 rw [h]
 dsimp only
 rw [bls_rep]
 dsimp only
 congr 2
 rw [List.all_eq_true]
 intro x hx
 exact (List.mem_replicate.mp hx).2
theorem comp_true {cs:Caps} {gt:GT} {ge:GE} {ρ:Rho} {ws:List Wv} {st:Hs} (h1:∀ v ∈ ws,∀ s,gt (some v :: capR cs ρ) s = .ok true s) (h2:∀ v ∈ ws,∀ s,ge (some v :: capR cs ρ) s = .ok (.bl true) s) (hl:ws.length < lim) :
  compRun cs gt ge ρ (none,ws) st = .ok (.ref st.length) (st ++ [.lst (List.replicate ws.length (.bl true))]):=by
 rw [comp_pure (w:=(none,ws)) (t:=fun _ => true) (f:=fun _ => .bl true) trivial (fun v hv acc => h1 v hv _) (fun v hv _ acc => h2 v hv _) hl]
 have e:((ws.filter fun _ => true).map fun _ => Wv.bl true) = List.replicate ws.length (Wv.bl true):=by
  rw [List.filter_eq_self.mpr (fun _ _ => rfl),List.map_const']
 show Re.ok _ (st ++ [.lst ((ws.filter fun _ => true).map fun _ => Wv.bl true)]) = _
 rw [e]
theorem tup_is {ws:List Wv} {st:Hs}:oIsA tbl tblT [.tup ws,.ty "tuple"] st = .ok (.bl true) st:=rfl
theorem str_is {x:S} {st:Hs}:oIsA tbl tblT [.str x,.ty "str"] st = .ok (.bl true) st:=rfl
theorem int_is {i:Int} {st:Hs}:oIsA tbl tblT [.int i,.ty "int"] st = .ok (.bl true) st:=rfl
theorem int_nb {i:Int} {st:Hs}:oIsA tbl tblT [.int i,.ty "bool"] st = .ok (.bl false) st:=rfl
theorem len_t {ws:List Wv} {st:Hs}:oLen [.tup ws] st = .ok (.int ws.length) st:=rfl
theorem is_whole {i:Int} {st:Hs}:F_is_whole [.int i] st = .ok (.bl true) st:=by
 unfold F_is_whole fnF g_is_whole
 simp [int_is,int_nb]
theorem number_row {l:List Int} {n:Nat} (hn:l.length = n) (hl:n ≤ 10) (st:Hs):F_is_number_row [tI l,.int (n:Nat)] st = .ok (.bl true) (st ++ [.lst (List.replicate n (.bl true))]):=by
 subst hn
 have c:=comp_true (cs:=[]) (gt:=g_is_number_row_C1t) (ge:=g_is_number_row_C1e) (ρ:=[some (tI l),some (.int (l.length:Nat))]) (ws:=l.map Wv.int) (st:=st) (fun _ _ _ => rfl) (fun v hv s => by
  obtain ⟨i,_,rfl⟩:=List.mem_map.mp hv
  unfold g_is_number_row_C1e
  simp [is_whole]) (by rw [List.length_map]; unfold lim; omega)
 rw [List.length_map] at c
 have q:=all_rep (st:=st ++ [.lst (List.replicate l.length (.bl true))]) (l:=st.length) lstOf_new
 unfold F_is_number_row fnF g_is_number_row
 unfold tI at c ⊢
 simp [tup_is,len_t,c,q]
theorem are_pins {l:List Int} {n:Nat} (hn:l.length = n) (hl:n ≤ 10) (h:∀ q ∈ l,P01 q) (st:Hs):∃ st',F_are_pins [tI l,.int (n:Nat)] st = .ok (.bl true) st' ∧ Gr st st':=by
 have r:=number_row hn hl st
 subst hn
 have g1:Gr st (st ++ [.lst (List.replicate l.length (.bl true))]):=Gr.push
 generalize st ++ [.lst (List.replicate l.length (.bl true))] = s1 at r g1
 have c:=comp_true (cs:=[]) (gt:=g_are_pins_C1t) (ge:=g_are_pins_C1e) (ρ:=[some (tI l),some (.int (l.length:Nat))]) (ws:=l.map Wv.int) (st:=s1) (fun _ _ _ => rfl) (fun v hv s => by
  obtain ⟨i,hi,rfl⟩:=List.mem_map.mp hv
  have e:oIn2 (.int i) (.tup [.int 0,.int 1]) s = .ok (.bl true) s:=by
   rcases h i hi with rfl | rfl <;> rfl
  unfold g_are_pins_C1e
  simp [e]) (by rw [List.length_map]; unfold lim; omega)
 rw [List.length_map] at c
 have q:=all_rep (st:=s1 ++ [.lst (List.replicate l.length (.bl true))]) (l:=s1.length) lstOf_new
 refine ⟨_,?_,g1.trans (Gr.push (o:=.lst (List.replicate l.length (.bl true))))⟩
 unfold F_are_pins fnF g_are_pins
 unfold tI at r c ⊢
 simp [r,c,q]
theorem is_place {a b:Int} {st:Hs} (h:PlOk a b):F_is_place [.tup [.int a,.int b]] st = .ok (.bl true) st:=by
 obtain ⟨h1,h2,h3,h4⟩:=h
 have a0:oIx (.tup [.int a,.int b]) (.int 0) st = .ok (.int a) st:=ix_t rfl
 have a1:oIx (.tup [.int a,.int b]) (.int 1) st = .ok (.int b) st:=ix_t rfl
 unfold F_is_place fnF g_is_place
 simp [a0,a1,h1,h2,h3,h4]
theorem is_area {a b c d:Int} {st:Hs} (h:ArOk a b c d):F_is_area [.tup [.int a,.int b,.int c,.int d]] st = .ok (.bl true) st:=by
 obtain ⟨h1,h2,h3,h4,h5,h6,h7⟩:=h
 have x0:oIx (.tup [.int a,.int b,.int c,.int d]) (.int 0) st = .ok (.int a) st:=ix_t rfl
 have x1:oIx (.tup [.int a,.int b,.int c,.int d]) (.int 1) st = .ok (.int b) st:=ix_t rfl
 have x2:oIx (.tup [.int a,.int b,.int c,.int d]) (.int 2) st = .ok (.int c) st:=ix_t rfl
 have x3:oIx (.tup [.int a,.int b,.int c,.int d]) (.int 3) st = .ok (.int d) st:=ix_t rfl
 have s1:oSl2 (.tup [.int a,.int b,.int c,.int d]) none (some 2) st = .ok (.tup [.int a,.int b]) st:=sl_t (by show ¬ isWh 4 none (some 2); decide +kernel) rfl
 have s2:oSl2 (.tup [.int a,.int b,.int c,.int d]) (some 2) none st = .ok (.tup [.int c,.int d]) st:=sl_t (by show ¬ isWh 4 (some 2) none; decide +kernel) rfl
 have p1:=is_place (a:=a) (b:=b) (st:=st) ⟨h1,by omega,h4,by omega⟩
 have p2:=is_place (a:=c) (b:=d) (st:=st) ⟨by omega,h3,by omega,h6⟩
 have hc:F_has_corners [.tup [.int a,.int b,.int c,.int d]] st = .ok (.bl true) st:=by
  unfold F_has_corners fnF g_has_corners
  simp [x0,x1,x2,x3,h2,h5,s1,s2,p1,p2]
 have m:oMulL (.int (c - a + 1)) (.int (d - b + 1)) st = .ok (.int ((c - a + 1) * (d - b + 1))) st:=mul_l (by omega) (by omega)
 have hm:F_area_many [.tup [.int a,.int b,.int c,.int d]] st = .ok (.int ((c - a + 1) * (d - b + 1))) st:=by
  unfold F_area_many fnF g_area_many
  simp [x0,x1,x2,x3,m]
 unfold F_is_area fnF g_is_area
 simp [hc,hm,h7]
theorem text_sign {c:Nat} {st:Hs} (h:Sg c):F_is_text_sign [.int (c:Nat)] st = .ok (.bl true) st:=by
 obtain ⟨h1,h2,h3,h4⟩:=h
 have n1:oNe (.int (c:Nat)) (.int 34) st = .ok (.bl true) st:=by rw [ne_i]; congr 2; simp; omega
 have n2:oNe (.int (c:Nat)) (.int 37) st = .ok (.bl true) st:=by rw [ne_i]; congr 2; simp; omega
 have l1:(32:Int) ≤ (c:Nat):=by omega
 have l2:((c:Nat):Int) ≤ 126:=by omega
 unfold F_is_text_sign fnF g_is_text_sign
 simp [-ne_i,l1,l2,n1,n2]
theorem is_text {x:S} (h:TxOk x) (st:Hs):∃ st',F_is_text [.str x] st = .ok (.bl true) st' ∧ Gr st st':=by
 have c:=comp_true (cs:=[]) (gt:=g_has_text_signs_C1t) (ge:=g_has_text_signs_C1e) (ρ:=[some (.str x)]) (ws:=signsW x) (st:=st) (fun _ _ _ => rfl) (fun v hv s => by
  unfold signsW at hv
  obtain ⟨i,hi,rfl⟩:=List.mem_map.mp hv
  have o:oOrd [.str ⟨#[i]⟩] s = .ok (.int (i:Nat)) s:=rfl
  unfold g_has_text_signs_C1e
  simp [o,text_sign (h.2 i hi)]) (by
   have:=h.1
   unfold signsW lim
   rw [List.length_map]
   show x.cps.toList.length < _
   rw [Array.length_toList]
   exact Nat.lt_of_le_of_lt (h.1:x.cps.size ≤ 40) (by decide))
 have q:=all_rep (st:=st ++ [.lst (List.replicate (signsW x).length (.bl true))]) (l:=st.length) lstOf_new
 have g1:Gr st (st ++ [.lst (List.replicate (signsW x).length (.bl true))]):=Gr.push
 generalize st ++ [.lst (List.replicate (signsW x).length (.bl true))] = s1 at c q g1
 have ht:F_has_text_signs [.str x] st = .ok (.bl true) s1:=by
  unfold F_has_text_signs fnF g_has_text_signs
  simp [c,q]
 have ln:oLen [.str x] st = .ok (.int x.length) st:=len_s (Nat.le_trans h.1 (by decide))
 have l40:(x.length:Int) ≤ 40:=by have:=h.1; omega
 refine ⟨s1,?_,g1⟩
 unfold F_is_text fnF g_is_text
 simp [str_is,ln,l40,ht]
theorem is_tail {f:Fm} (h:f.ok) (st:Hs):∃ st',F_is_tail [.str f.v.1,.tup f.tl] st = .ok (.bl true) st' ∧ Gr st st':=by
 have fin4:∀ {x:S} {l p:List Int},((x == "num") = false ∧ (x == "text") = false ∧ (x == "at") = false) → x ∈ AF → Sh4 l p → ∃ st',F_is_tail [.str x,.tup [tI l,tI p]] st = .ok (.bl true) st' ∧ Gr st st':=by
  rintro x l p ⟨n1,n2,n3⟩ ha ⟨a,b,c,d,q,r,s,t,rfl,rfl,ho,q1,q2,q3,q4⟩
  have r1:=number_row (l:=[a,b,c,d]) (n:=4) rfl (by decide) st
  have g1:Gr st (st ++ [.lst (List.replicate 4 (.bl true))]):=Gr.push
  generalize st ++ [.lst (List.replicate 4 (.bl true))] = s1 at r1 g1
  obtain ⟨s2,e2,g2⟩:=are_pins (l:=[q,r,s,t]) (n:=4) rfl (by decide) (by simp [q1,q2,q3,q4]) s1
  have i:=is_area (st:=s1) ho
  refine ⟨s2,?_,g1.trans g2⟩
  have hr:F_is_number_row [tI [a,b,c,d],.int 4] st = .ok (.bl true) s1:=r1
  have hp:F_are_pins [tI [q,r,s,t],.int 4] s1 = .ok (.bl true) s2:=e2
  have i':F_is_area [tI [a,b,c,d]] s1 = .ok (.bl true) s1:=i
  unfold F_is_tail fnF g_is_tail
  simp [n1,n2,n3,has_area,ha,len_t,ix0,ix1,hr,i',hp]
 have noth:∀ {x:S},((x == "num") = false ∧ (x == "text") = false ∧ (x == "at") = false) → x ∉ AF → ∃ st',F_is_tail [.str x,.tup []] st = .ok (.bl true) st' ∧ Gr st st':=by
  rintro x ⟨n1,n2,n3⟩ ha
  refine ⟨st,?_,Gr.refl⟩
  unfold F_is_tail fnF g_is_tail
  simp [n1,n2,n3,has_area,ha,len_t]
 cases f with
 | lit x ws =>
  rcases h with ⟨rfl,i,rfl,h0,h1⟩ | ⟨rfl,s,rfl,ht⟩ | ⟨rfl,rfl⟩
  ·refine ⟨st,?_,Gr.refl⟩
   show F_is_tail [.str "num",.tup [.int i]] st = _
   unfold F_is_tail fnF g_is_tail
   simp [len_t,ix0,is_whole,p60,h0,h1]
  ·obtain ⟨s1,e1,g1⟩:=is_text ht st
   refine ⟨s1,?_,g1⟩
   show F_is_tail [.str "text",.tup [.str s]] st = _
   have n1:(("text":S) == "num") = false:=by decide +kernel
   unfold F_is_tail fnF g_is_tail
   simp [n1,len_t,ix0,e1]
  ·exact noth (x:="lost") (by decide +kernel) (by decide +kernel)
 | pt x l p =>
  rcases h with ⟨rfl,a,b,q,r,rfl,rfl,ho,q1,q2⟩ | ⟨hx,hs⟩
  ·have r1:=number_row (l:=[a,b]) (n:=2) rfl (by decide) st
   have g1:Gr st (st ++ [.lst (List.replicate 2 (.bl true))]):=Gr.push
   generalize st ++ [.lst (List.replicate 2 (.bl true))] = s1 at r1 g1
   obtain ⟨s2,e2,g2⟩:=are_pins (l:=[q,r]) (n:=2) rfl (by decide) (by simp [q1,q2]) s1
   have i:F_is_place [tI [a,b]] s1 = .ok (.bl true) s1:=is_place ho
   refine ⟨s2,?_,g1.trans g2⟩
   have hr:F_is_number_row [tI [a,b],.int 2] st = .ok (.bl true) s1:=r1
   have hp:F_are_pins [tI [q,r],.int 2] s1 = .ok (.bl true) s2:=e2
   have n1:(("at":S) == "num") = false:=by decide +kernel
   have n2:(("at":S) == "text") = false:=by decide +kernel
   show F_is_tail [.str "at",.tup [tI [a,b],tI [q,r]]] st = _
   unfold F_is_tail fnF g_is_tail
   simp [n1,n2,len_t,ix0,ix1,hr,i,hp]
  ·have q:∀ x ∈ AW,((x == "num") = false ∧ (x == "text") = false ∧ (x == "at") = false) ∧ x ∈ AF:=by decide +kernel
   exact fin4 (q x hx).1 (q x hx).2 hs
 | fd a l p => exact fin4 (x:="find") (by decide +kernel) (by decide +kernel) h.2
 | o1 x a =>
  have q:∀ x ∈ W1,((x == "num") = false ∧ (x == "text") = false ∧ (x == "at") = false) ∧ x ∉ AF:=by decide +kernel
  exact noth (q x h.1).1 (q x h.1).2
 | o2 x a b =>
  have q:∀ x ∈ W2,((x == "num") = false ∧ (x == "text") = false ∧ (x == "at") = false) ∧ x ∉ AF:=by decide +kernel
  exact noth (q x h.1).1 (q x h.1).2
 | o3 a b c => exact noth (x:="if") (by decide +kernel) (by decide +kernel)
theorem parts_n {f:Fm} (h:f.ok):d_PART_COUNTS.lookup f.v.1 = some (.int f.kids.length):=by
 cases f with
 | lit x ws =>
  rcases h with ⟨rfl,_⟩ | ⟨rfl,_⟩ | ⟨rfl,_⟩ <;> rfl
 | pt x l p =>
  rcases h with ⟨rfl,_⟩ | ⟨hx,_⟩
  ·rfl
  ·exact lk0 hx
 | fd a l p => rfl
 | o1 x a => exact lk1 h.1
 | o2 x a b => exact lk2 h.1
 | o3 a b c => rfl
theorem is_piece {f:Fm} (h:f.ok) (st:Hs):∃ st',F_is_piece [f.w] st = .ok (.bl true) st' ∧ Gr st st':=by
 obtain ⟨n1,n2⟩:=node h
 obtain ⟨s1,e1,g1⟩:=is_tail h st
 have lk:=parts_n h
 refine ⟨s1,?_,g1⟩
 have w0:∀ st:Hs,oIx f.w (.int 0) st = .ok (.str f.v.1) st:=fun _ => ix0
 have t0:∀ st:Hs,oIsA tbl tblT [f.w,.ty "tuple"] st = .ok (.bl true) st:=fun _ => rfl
 obtain ⟨n,l0,b0'⟩:∃ n:Int,(∀ st:Hs,oLen [f.w] st = .ok (.int n) st) ∧ (n == 0) = false:=⟨((f.v.2.length + 1:Nat):Int),fun _ => rfl,beq_false_of_ne (by omega)⟩
 have pm:=fun st:Hs => part_many (st:=st) lk
 unfold F_is_piece fnF g_is_piece
 simp [t0,l0,b0',w0,str_is,lk,n1,len_t,pm,n2,e1]
theorem tru_l {l:Nat} {ws:List Wv} {st:Hs} (h:lstOf st l = some ws):truW (.ref l) st = .ok (!ws.isEmpty) st:=by
 unfold truW
 simp only [h]
theorem extT_l {st:Hs} {l:Nat} {ws zs:List Wv} (h:st[l]? = some (.lst ws)) (hl:ws.length + zs.length ≤ lim):mExtT (.ref l) (.tup zs) st = .ok .non (st.set l (.lst (ws ++ zs))):=by
 unfold mExtT
 simp only [h]
 rw [if_pos hl]
theorem kids3 (f:Fm):f.kids.length ≤ 3:=by cases f <;> simp [Fm.kids]
theorem kids_ok {f:Fm} (h:f.ok):∀ g ∈ f.kids,g.ok:=by
 cases f with
 | lit x ws => intro g z; cases z
 | pt x l p => intro g z; cases z
 | fd a l p => intro g z; rw [List.mem_singleton.mp z]; exact h.1
 | o1 x a => intro g z; rw [List.mem_singleton.mp z]; exact h.2
 | o2 x a b =>
  intro g z
  simp only [Fm.kids,List.mem_cons,List.not_mem_nil,or_false] at z
  rcases z with rfl | rfl
  ·exact h.2.1
  ·exact h.2.2
 | o3 a b c =>
  intro g z
  simp only [Fm.kids,List.mem_cons,List.not_mem_nil,or_false] at z
  rcases z with rfl | rfl | rfl
  ·exact h.1
  ·exact h.2.1
  ·exact h.2.2
def below (fs:List Fm):List Fm:=fs.flatMap Fm.kids
def D:List Fm → Nat
 | [] => 0
 | f :: r => max f.dp (D r)
theorem D_app:∀ a b:List Fm,D (a ++ b) = max (D a) (D b)
 | [],b => by simp [D]
 | f :: a,b => by
  show max f.dp (D (a ++ b)) = max (max f.dp (D a)) (D b)
  rw [D_app a b]
  omega
theorem dp_kids (f:Fm):f.dp = D f.kids + 1:=by
 cases f <;> simp [Fm.dp,Fm.kids,D]
theorem D_below:∀ {fs:List Fm},fs ≠ [] → D fs = D (below fs) + 1
 | [],h => absurd rfl h
 | [f],_ => by
  have:=dp_kids f
  simp [D,below]
  exact this
 | f :: g :: r,_ => by
  have ih:=D_below (fs:=g :: r) (by simp)
  have:=dp_kids f
  show max f.dp (D (g :: r)) = D (f.kids ++ below (g :: r)) + 1
  rw [D_app,ih]
  omega
theorem sz_kids (f:Fm):f.sz = szs f.kids + 1:=by
 cases f <;> simp [Fm.sz,Fm.kids,szs] <;> omega
theorem szs_below:∀ fs:List Fm,szs fs = szs (below fs) + fs.length
 | [] => rfl
 | f :: r => by
  have ih:=szs_below r
  have:=sz_kids f
  have e1:szs (f :: r) = f.sz + szs r:=by simp [szs]
  have e2:szs (below (f :: r)) = szs f.kids + szs (below r):=by simp [szs,below]
  rw [e1,e2,List.length_cons]
  omega
theorem below_ok {fs:List Fm} (h:∀ f ∈ fs,f.ok):∀ g ∈ below fs,g.ok:=fun g hg => by
 obtain ⟨f,hf,hk⟩:=List.mem_flatMap.mp hg
 exact kids_ok (h f hf) g hk
theorem below_loop {L A:Nat} {all:List Wv} (hne:L ≠ A):∀ (fs:List Fm) (acc:List Wv) (o2:Option Wv) (st:Hs),(∀ f ∈ fs,f.ok) → st[A]? = some (.lst acc) → lstOf st L = some all → acc.length + 3 * fs.length ≤ 1000 →
  ∃ o2' st',forL 2 g_level_below_L1 L all (fs.map Fm.w) [some (.ref L),some (.ref A),o2] st = .nx [some (.ref L),some (.ref A),o2'] st' ∧ Keep A st st' ∧ st'[A]? = some (.lst (acc ++ (below fs).map Fm.w))
 | [],acc,o2,st,_,hA,_,_ => ⟨o2,st,rfl,Keep.refl,by simpa [below] using hA⟩
 | f :: r,acc,o2,st,ho,hA,hL,hl => by
  have hl':acc.length + 3 * (r.length + 1) ≤ 1000:=hl
  have k3:=kids3 f
  obtain ⟨n1,_⟩:=node (ho f List.mem_cons_self)
  have ex:=extT_l (zs:=f.kids.map Fm.w) hA (by rw [List.length_map]; unfold lim; omega)
  have kk:Keep A st (st.set A (.lst (acc ++ f.kids.map Fm.w))):=Keep.set
  have hA2:=set_get (o':=.lst (acc ++ f.kids.map Fm.w)) hA
  have hL2:=kk.lst hL hne
  generalize st.set A (.lst (acc ++ f.kids.map Fm.w)) = s1 at ex kk hA2 hL2
  have e1:g_level_below_L1 ([some (.ref L),some (.ref A),o2].set 2 (some f.w)) st = .nx [some (.ref L),some (.ref A),some f.w] s1:=by
   have km:=fun ga => kMeth_l (mt:=mExtT) (ga:=ga) (ρ:=[some (.ref L),some (.ref A),some f.w]) (lst_get hA)
   unfold g_level_below_L1
   simp [km,n1,ex]
  obtain ⟨o2',s2,e2,k2,h2⟩:=below_loop hne r (acc ++ f.kids.map Fm.w) (some f.w) s1 (fun g hg => ho g (List.mem_cons_of_mem _ hg)) hA2 hL2 (by rw [List.length_append,List.length_map]; omega)
  refine ⟨o2',s2,?_,kk.trans k2,by rw [h2]; simp [below]⟩
  rw [List.map_cons]
  unfold forL
  rw [e1]
  simp only [if_pos hL2]
  exact e2
theorem level_below {fs:List Fm} {L:Nat} {st:Hs} (ho:∀ f ∈ fs,f.ok) (hl:fs.length ≤ 300) (h:st[L]? = some (.lst (fs.map Fm.w))) :
  ∃ st',F_level_below [.ref L] st = .ok (.ref st.length) st' ∧ Gr st st' ∧ st'[st.length]? = some (.lst ((below fs).map Fm.w)):=by
 have hL:L < st.length:=get_lt h
 have h1:lstOf (st ++ [.lst []]) L = some (fs.map Fm.w):=lst_get (push_get h)
 obtain ⟨o2,s1,e1,k1,g1⟩:=below_loop (L:=L) (A:=st.length) (all:=fs.map Fm.w) (by omega) fs [] none (st ++ [.lst []]) ho new_get h1 (by simp; omega)
 have e1':kFor 2 g_level_below_L1 [some (.ref L),some (.ref st.length),none] (.ref L) (st ++ [.lst []]) = .nx [some (.ref L),some (.ref st.length),o2] s1:=by rw [kFor_l h1]; exact e1
 refine ⟨s1,?_,Gr.keepAt (Nat.le_refl _) Gr.push k1,by simpa using g1⟩
 unfold F_level_below fnF g_level_below
 simp [e1']
theorem comp_allT {cs:Caps} {gt:GT} {ge:GE} {ρ:Rho} {k:Nat} {ws:List Wv} {st:Hs} (h0:lstOf st k = some ws) (h1:∀ v ∈ ws,∀ s,gt (some v :: capR cs ρ) s = .ok true s)
  (h2:∀ v ∈ ws,∀ s,∃ s',ge (some v :: capR cs ρ) s = .ok (.bl true) s' ∧ Gr s s') (hl:ws.length < lim):∃ st',compRun cs gt ge ρ (some k,ws) st = .ok (.ref st.length) st' ∧ Gr st st' ∧ lstOf st' st.length = some (List.replicate ws.length (.bl true)):=by
 obtain ⟨st',acc,e,p,g,he,hlen⟩:=compG_inv (w:=(some k,ws)) (gt:=fun v => gt (some v :: capR cs ρ)) (ge:=fun v => ge (some v :: capR cs ρ)) (rr:=st.length) (fun s => Gr st s) (fun u => u = .bl true)
  (fun s acc h => Gr.keepAt (Nat.le_refl _) h Keep.set) (fun s h => h.lst h0) ws (fun v hv s acc hp hg => by
   obtain ⟨s',e',g'⟩:=h2 v hv s
   exact ⟨s,h1 v hv s,hp,hg,_,s',e',rfl,hp.trans g',g'.get hg⟩) [] (st ++ [.lst []]) Gr.push new_get (by simpa using hl) (fun _ z => by cases z)
 refine ⟨st',?_,p,?_⟩
 ·unfold compRun
  dsimp only
  rw [e]
 ·rw [lst_get g]
  congr 1
  have:acc.length = ws.length:=by simpa using hlen
  rw [← this]
  exact List.eq_replicate_iff.mpr ⟨rfl,he⟩
theorem made_loop {F:Wv}:∀ (N:Nat) (fs:List Fm) (p d:Int) (k:Nat) (st:Hs),D fs < N → (∀ f ∈ fs,f.ok) → st[k]? = some (.lst (fs.map Fm.w)) → p + szs fs ≤ 60 → 0 ≤ p → d + D fs ≤ 12 → 0 ≤ d →
  ∃ o1 o2 o3 st',whl (gTru (gVar 1)) g_made_formula_L1 N [some F,some (.ref k),some (.int p),some (.int d)] st = .nx [some F,o1,o2,o3] st' ∧ Gr st st'
 | 0,_,_,_,_,_,h,_,_,_,_,_,_ => by omega
 | N + 1,fs,p,d,k,st,hN,ho,hk,hp,p0,hd,d0 => by
  have tl:=tru_l (lst_get hk)
  have z:=szs_below fs
  by_cases hf:fs = []
  ·subst hf
   refine ⟨some (.ref k),some (.int p),some (.int d),st,?_,Gr.refl⟩
   unfold whl
   simp [tl]
  have db:=D_below hf
  have ne:(!(fs.map Fm.w).isEmpty) = true:=by cases fs with | nil => exact absurd rfl hf | cons _ _ => rfl
  rw [ne] at tl
  have hlen:fs.length ≤ 60:=by omega
  obtain ⟨s1,e1,g1,l1⟩:=comp_allT (cs:=[]) (gt:=g_made_formula_C1t) (ge:=g_made_formula_C1e) (ρ:=[some F,some (.ref k),some (.int (p + fs.length)),some (.int (d + 1))]) (lst_get hk) (fun _ _ _ => rfl) (fun v hv s => by
   obtain ⟨f,hf,rfl⟩:=List.mem_map.mp hv
   obtain ⟨s',e',g'⟩:=is_piece (ho f hf) s
   refine ⟨s',?_,g'⟩
   unfold g_made_formula_C1e
   simp [e']) (by rw [List.length_map]; unfold lim; omega)
  have al:=all_rep l1
  have hk1:=g1.get hk
  obtain ⟨s2,e2,g2,h2⟩:=level_below ho (by omega) hk1
  obtain ⟨o1,o2,o3,s3,e3,g3⟩:=made_loop (F:=F) N (below fs) (p + fs.length) (d + 1) s1.length s2 (by omega) (below_ok ho) h2 (by omega) (by omega) (by omega) (by omega)
  refine ⟨o1,o2,o3,s3,?_,g1.trans (g2.trans g3)⟩
  have ln:oLen [.ref k] st = .ok (.int (fs.length:Nat)) st:=by rw [len_l (lst_get hk),List.length_map]
  have c1:¬ 60 < p + (fs.length:Int):=by omega
  have c2:¬ 12 < d + 1:=by omega
  have a1:gAug (fun i j => i + j) 2 (gCallB oLen (gCons (gVar 1) gNil)) [some F,some (.ref k),some (.int p),some (.int d)] st = .nx [some F,some (.ref k),some (.int (p + fs.length)),some (.int d)] st:=by
   unfold gAug
   simp [ln,kAug]
  have a2:gAug (fun i j => i + j) 3 (gC (.int 1)) [some F,some (.ref k),some (.int (p + fs.length)),some (.int d)] st = .nx [some F,some (.ref k),some (.int (p + fs.length)),some (.int (d + 1))] st:=by
   unfold gAug
   simp [kAug]
  have body:g_made_formula_L1 [some F,some (.ref k),some (.int p),some (.int d)] st = .nx [some F,some (.ref s1.length),some (.int (p + fs.length)),some (.int (d + 1))] s2:=by
   unfold g_made_formula_L1
   simp [a1,a2,c1,c2,seqW_l (lst_get hk),e1,al,e2]
  unfold whl
  simp only [e_tru,e_var,rdV_s,List.getElem?_cons_zero,List.getElem?_cons_succ,bind_ok,tl,thn_ok,if_pos,body]
  exact e3
theorem made {f:Fm} (h:f.ok) (hz:f.sz ≤ 60) (hd:f.dp ≤ 12) (st:Hs):∃ st',F_made_formula [f.w] st = .ok f.w st' ∧ Gr st st':=by
 have hD:D [f] = f.dp:=by simp [D]
 have hS:szs [f] = f.sz:=by simp [szs]
 obtain ⟨o1,o2,o3,s1,e1,g1⟩:=made_loop (F:=f.w) wTurns [f] 0 0 st.length (st ++ [.lst [f.w]]) (by rw [hD]; unfold wTurns; omega) (fun g hg => by rw [List.mem_singleton.mp hg]; exact h) new_get (by rw [hS]; omega) (by decide) (by rw [hD]; omega) (by decide)
 refine ⟨s1,?_,Gr.push.trans g1⟩
 have e1':gWhile wTurns (gTru (gVar 1)) g_made_formula_L1 [some f.w,some (.ref st.length),some (.int 0),some (.int 0)] (st ++ [.lst [f.w]]) = .nx [some f.w,o1,o2,o3] s1:=e1
 unfold F_made_formula fnF g_made_formula
 simp [e1']
def oW:Option (List Int) → Wv
 | none => .non
 | some l => tI l
section
variable {L:LF}
theorem callF {p:Lm} {n i:Nat} {g:GA} {ρ:Rho} {st st1:Hs} {caps ws:List Wv} (h:ρ[i]? = some (some (.fn p caps))) (h1:g ρ st = .ok ws st1) (hn:ws.length = n):gCallF p n L i g ρ st = L caps ws st1:=by
 unfold gCallF
 rw [h]
 dsimp only
 rw [if_pos rfl,h1]
 show (if ws.length = n then L caps ws st1 else .bad) = _
 rw [if_pos hn]
end
theorem w1_no {x:S} (h:x ∈ W1):x ≠ "at" ∧ x ∉ AF:=by
 have:∀ x ∈ W1,x ≠ "at" ∧ x ∉ AF:=by decide +kernel
 exact this x h
theorem w2_no {x:S} (h:x ∈ W2):x ≠ "at" ∧ x ∉ AF:=by
 have:∀ x ∈ W2,x ≠ "at" ∧ x ∉ AF:=by decide +kernel
 exact this x h
theorem aw_af {x:S} (h:x ∈ AW):x ∈ AF:=by
 have:∀ x ∈ AW,x ∈ AF:=by decide +kernel
 exact this x h
instance {a b:Int}:Decidable (PlOk a b):=by unfold PlOk; infer_instance
instance {a b c d:Int}:Decidable (ArOk a b c d):=by unfold ArOk; infer_instance
theorem is_placeD {a b:Int} {ws:List Wv} {st:Hs}:F_is_place [.tup (.int a :: .int b :: ws)] st = .ok (.bl (decide (PlOk a b))) st:=by
 unfold F_is_place fnF g_is_place
 by_cases c1:0 ≤ a
 ·by_cases c2:a < 99
  ·by_cases c3:0 ≤ b
   ·by_cases c4:b < 26
    ·have e:decide (PlOk a b) = true:=decide_eq_true ⟨c1,by omega,c3,by omega⟩
     simp [ix0,ix1,c1,c2,c3,c4,e]
    ·have e:decide (PlOk a b) = false:=decide_eq_false fun h => c4 (by have:=h.2.2.2; omega)
     simp [ix0,ix1,c1,c2,c3,c4,e]
   ·have e:decide (PlOk a b) = false:=decide_eq_false fun h => c3 h.2.2.1
    simp [ix0,ix1,c1,c2,c3,e]
  ·have e:decide (PlOk a b) = false:=decide_eq_false fun h => c2 (by have:=h.2.1; omega)
   simp [ix0,ix1,c1,c2,e]
 ·have e:decide (PlOk a b) = false:=decide_eq_false fun h => c1 h.1
  simp [ix0,ix1,c1,e]
theorem mulA {i j:Int} {st:Hs} (h:(-1000000 ≤ i ∧ i ≤ 1000000) ∨ (-1000000 ≤ j ∧ j ≤ 1000000)):oMulL (.int i) (.int j) st = .ok (.int (i * j)) st:=by
 rcases h with h | h
 ·exact mul_l (by omega) (by omega)
 ·exact mul_r (by omega) (by omega)
theorem sl_lo {a b c d:Wv} {st:Hs}:oSl2 (.tup [a,b,c,d]) none (some 2) st = .ok (.tup [a,b]) st:=sl_t (by show ¬ isWh 4 none (some 2); decide +kernel) rfl
theorem sl_hi {a b c d:Wv} {st:Hs}:oSl2 (.tup [a,b,c,d]) (some 2) none st = .ok (.tup [c,d]) st:=sl_t (by show ¬ isWh 4 (some 2) none; decide +kernel) rfl
def Co (a b c d:Int):Prop:=(a ≤ c ∧ b ≤ d) ∧ PlOk a b ∧ PlOk c d
instance {a b c d:Int}:Decidable (Co a b c d):=by unfold Co; infer_instance
theorem ix4 {a b c d:Wv} {st:Hs}:oIx (.tup [a,b,c,d]) (.int 0) st = .ok a st ∧ oIx (.tup [a,b,c,d]) (.int 1) st = .ok b st ∧ oIx (.tup [a,b,c,d]) (.int 2) st = .ok c st ∧ oIx (.tup [a,b,c,d]) (.int 3) st = .ok d st :=
 ⟨ix_t (L2.atI_nat (j:=0) rfl),ix_t (L2.atI_nat (j:=1) rfl),ix_t (L2.atI_nat (j:=2) rfl),ix_t (L2.atI_nat (j:=3) rfl)⟩
theorem has_corners {a b c d:Int} {st:Hs}:F_has_corners [tI [a,b,c,d]] st = .ok (.bl (decide (Co a b c d))) st:=by
 obtain ⟨i0,i1,i2,i3⟩:=ix4 (a:=.int a) (b:=.int b) (c:=.int c) (d:=.int d) (st:=st)
 unfold F_has_corners fnF g_has_corners tI
 simp only [List.map_cons,List.map_nil]
 by_cases c1:a ≤ c
 ·by_cases c2:b ≤ d
  ·by_cases c3:PlOk a b
   ·have e:decide (Co a b c d) = decide (PlOk c d):=by unfold Co; simp [c1,c2,c3]
    simp [i0,i1,i2,i3,c1,c2,sl_lo,sl_hi,is_placeD,c3,e]
   ·have e:decide (Co a b c d) = false:=decide_eq_false fun h => c3 h.2.1
    simp [i0,i1,i2,i3,c1,c2,sl_lo,sl_hi,is_placeD,c3,e]
  ·have e:decide (Co a b c d) = false:=decide_eq_false fun h => c2 h.1.2
   simp [i0,i1,i2,i3,c1,c2,e]
 ·have e:decide (Co a b c d) = false:=decide_eq_false fun h => c1 h.1.1
  simp [i0,i1,i2,i3,c1,e]
theorem is_areaD {a b c d:Int} {st:Hs}:F_is_area [tI [a,b,c,d]] st = .ok (.bl (decide (ArOk a b c d))) st:=by
 obtain ⟨i0,i1,i2,i3⟩:=ix4 (a:=.int a) (b:=.int b) (c:=.int c) (d:=.int d) (st:=st)
 unfold F_is_area fnF g_is_area
 by_cases h:Co a b c d
 ·have hm:oMulL (.int (c - a + 1)) (.int (d - b + 1)) st = .ok (.int ((c - a + 1) * (d - b + 1))) st:=by
   obtain ⟨⟨h1,h2⟩,h3,h4⟩:=h
   exact mulA (.inl ⟨by omega,by have:=h3.1; have:=h4.2.1; omega⟩)
  have am:F_area_many [tI [a,b,c,d]] st = .ok (.int ((c - a + 1) * (d - b + 1))) st:=by
   unfold F_area_many fnF g_area_many tI
   simp only [List.map_cons,List.map_nil]
   simp [i0,i1,i2,i3,hm]
  have e:decide (ArOk a b c d) = decide ((c - a + 1) * (d - b + 1) ≤ 300):=by
   obtain ⟨⟨h1,h2⟩,h3,h4⟩:=h
   unfold PlOk at h3 h4
   unfold ArOk
   congr 1
   apply propext
   constructor
   ·exact fun z => z.2.2.2.2.2.2
   ·exact fun z => ⟨h3.1,h1,h4.2.1,h3.2.2.1,h2,h4.2.2.2,z⟩
  have hc:=has_corners (a:=a) (b:=b) (c:=c) (d:=d) (st:=st)
  rw [decide_eq_true h] at hc
  simp [hc,am,e]
 ·have hc:=has_corners (a:=a) (b:=b) (c:=c) (d:=d) (st:=st)
  rw [decide_eq_false h] at hc
  have e:decide (ArOk a b c d) = false:=decide_eq_false fun z => h (by
   obtain ⟨z1,z2,z3,z4,z5,z6,_⟩:=z
   exact ⟨⟨z2,z5⟩,⟨z1,by omega,z4,by omega⟩,⟨by omega,z3,by omega,z6⟩⟩)
  simp [hc,e]
theorem glam {FL:FLt} {i:Nat} {g gb:GE} {ρ:Rho} {st st1:Hs} {w wy:Wv} {r:Re Wv} (h1:g ρ st = .ok w st1) (h2:ρ[i]? = some (some wy)) (h3:∀ p,FL p (lamF gb) [w,.fn p [wy]] st1 = r):gLam FL i g gb ρ st = r:=by
 unfold gLam
 rw [h1]
 show (match ρ[i]? with | some (some wy) => anyLm fun p => FL p (lamF gb) [w,.fn p [wy]] st1 | _ => .bad) = r
 rw [h2]
 exact anyLm_eq h3
theorem dat_s {x:S} {n:Nat} {st:Hs}:datum st n (.str x) = some (.str x):=by cases n <;> rfl
theorem dat_i {i:Int} {n:Nat} {st:Hs}:datum st n (.int i) = some (.int i):=by cases n <;> rfl
theorem dat_is:∀ (l:List Int) (n:Nat),∃ ds:List PyData,(∀ st:Hs,mapO (datum st n) (l.map Wv.int) = some ds) ∧ PyData.eqvAll ds ds = true
 | [],n => ⟨[],fun _ => rfl,by simp [PyData.eqvAll]⟩
 | i :: r,n => by
  obtain ⟨ds,e1,e2⟩:=dat_is r n
  refine ⟨.int i :: ds,fun st => ?_,by simp [PyData.eqvAll,eqv_i,e2]⟩
  rw [List.map_cons]
  unfold mapO
  rw [dat_i,e1]
theorem dat_tI (l:List Int) (n:Nat):∃ d:PyData,(∀ st:Hs,datum st (n + 1) (tI l) = some d) ∧ PyData.eqv d d = true:=by
 obtain ⟨ds,e1,e2⟩:=dat_is l n
 refine ⟨.tuple ds,fun st => ?_,by simpa [PyData.eqv] using e2⟩
 show (mapO (datum st n) (l.map Wv.int)).map PyData.tuple = _
 rw [e1]
 rfl
theorem dat_t {x:S} {n:Nat} {ws:List Wv} (h:∀ w ∈ ws,∃ d:PyData,(∀ st:Hs,datum st n w = some d) ∧ PyData.eqv d d = true):∃ d:PyData,(∀ st:Hs,datum st (n + 1) (.tup (.str x :: ws)) = some d) ∧ PyData.eqv d d = true:=by
 have key:∀ ws:List Wv,(∀ w ∈ ws,∃ d:PyData,(∀ st:Hs,datum st n w = some d) ∧ PyData.eqv d d = true) → ∃ ds:List PyData,(∀ st:Hs,mapO (datum st n) ws = some ds) ∧ PyData.eqvAll ds ds = true:=by
  intro ws
  induction ws with
  | nil => exact fun _ => ⟨[],fun _ => rfl,by simp [PyData.eqvAll]⟩
  | cons w r ih =>
   intro h
   obtain ⟨d,d1,d2⟩:=h w List.mem_cons_self
   obtain ⟨ds,e1,e2⟩:=ih fun v hv => h v (List.mem_cons_of_mem _ hv)
   refine ⟨d :: ds,fun st => ?_,by simp [PyData.eqvAll,d2,e2]⟩
   unfold mapO
   rw [d1,e1]
 obtain ⟨ds,e1,e2⟩:=key ws h
 refine ⟨.tuple (.str x :: ds),fun st => ?_,by simp [PyData.eqv,PyData.eqvAll,eqv_s,e2]⟩
 show (mapO (datum st n) (.str x :: ws)).map PyData.tuple = _
 unfold mapO
 rw [dat_s,e1]
 rfl
theorem all1 {P:Wv → Prop} {a:Wv} (h:P a):∀ w ∈ [a],P w:=List.forall_mem_cons.mpr ⟨h,fun _ z => by cases z⟩
theorem all2 {P:Wv → Prop} {a b:Wv} (h:P a) (k:P b):∀ w ∈ [a,b],P w:=List.forall_mem_cons.mpr ⟨h,all1 k⟩
theorem all3 {P:Wv → Prop} {a b c:Wv} (h:P a) (k:P b) (j:P c):∀ w ∈ [a,b,c],P w:=List.forall_mem_cons.mpr ⟨h,all2 k j⟩
theorem dat:∀ (f:Fm) (n:Nat),f.ok → f.dp ≤ n → ∃ d:PyData,(∀ st:Hs,datum st (n + 1) f.w = some d) ∧ PyData.eqv d d = true
 | f,0,_,hd => by cases f <;> simp [Fm.dp] at hd
 | .lit x ws,n + 1,h,_ => by
  refine dat_t (ws:=ws) fun w hw => ?_
  rcases h with ⟨_,i,rfl,_⟩ | ⟨_,s,rfl,_⟩ | ⟨_,rfl⟩
  ·rw [List.mem_singleton.mp hw]; exact ⟨.int i,fun _ => dat_i,eqv_i⟩
  ·rw [List.mem_singleton.mp hw]; exact ⟨.str s,fun _ => dat_s,eqv_s⟩
  ·cases hw
 | .pt x l p,n + 1,_,_ => dat_t (ws:=[tI l,tI p]) (all2 (dat_tI l n) (dat_tI p n))
 | .fd f l p,n + 1,h,hd => dat_t (ws:=[f.w,tI l,tI p]) (all3 (dat f n h.1 (by simp [Fm.dp] at hd; omega)) (dat_tI l n) (dat_tI p n))
 | .o1 x f,n + 1,h,hd => dat_t (ws:=[f.w]) (all1 (dat f n h.2 (by simp [Fm.dp] at hd; omega)))
 | .o2 x f g,n + 1,h,hd => dat_t (ws:=[f.w,g.w]) (all2 (dat f n h.2.1 (by simp [Fm.dp] at hd; omega)) (dat g n h.2.2 (by simp [Fm.dp] at hd; omega)))
 | .o3 f g k,n + 1,h,hd => dat_t (ws:=[f.w,g.w,k.w]) (all3 (dat f n h.1 (by simp [Fm.dp] at hd; omega)) (dat g n h.2.1 (by simp [Fm.dp] at hd; omega)) (dat k n h.2.2 (by simp [Fm.dp] at hd; omega)))
theorem ne_f {f:Fm} (h:f.ok) (hd:f.dp ≤ 8) (st:Hs):oNe f.w f.w st = .ok (.bl false) st:=by
 obtain ⟨d,d1,d2⟩:=dat f 19 h (by omega)
 exact ne_dat (d1 st) (d1 st) d2
structure Sh where
 rows:Bool
 inn:Bool
 at':Int
 many:Int
def Sh.most (s:Sh):Int:=if s.rows = true then 99 else 26
structure Sh.Ok (s:Sh):Prop where
 a0:0 ≤ s.at'
 a1:s.at' < s.most
 m1:1 ≤ s.many
 mm:s.many ≤ 99
 out:s.inn = false → s.at' + s.many ≤ s.most
def Sh.line (s:Sh) (l:Int):Option Int:=if l < s.at' then some l else if s.inn = true then (if l + s.many < s.most then some (l + s.many) else none) else (if l < s.at' + s.many then none else some (l - s.many))
def Sh.taken (s:Sh) (l:Int):Bool:=!s.inn && (decide (s.at' ≤ l) && decide (l < s.at' + s.many))
theorem most_pos (s:Sh):s.most = 99 ∨ s.most = 26:=by unfold Sh.most; cases s.rows <;> simp
def rngI (lo:Int) (n:Nat):List Int:=(List.range n).map fun k:Nat => lo + k
theorem rngI_mem {lo x:Int} {n:Nat}:x ∈ rngI lo n ↔ lo ≤ x ∧ x < lo + n:=by
 unfold rngI
 rw [List.mem_map]
 constructor
 ·rintro ⟨k,hk,rfl⟩
  have:=List.mem_range.mp hk
  omega
 ·intro h
  exact ⟨(x - lo).toNat,List.mem_range.mpr (by omega),by omega⟩
theorem rngI_lt (lo:Int) (n:Nat):(rngI lo n).Pairwise (· < ·):=by
 unfold rngI
 rw [List.pairwise_map]
 exact List.pairwise_lt_range.imp fun h => by omega
theorem rngW_I {lo:Int} {n:Nat}:rngW lo n = (rngI lo n).map Wv.int:=by
 unfold rngW rngI
 rw [List.map_map]
 rfl
theorem line_mono {s:Sh} (o:s.Ok) {l l' x x':Int} (h:l < l') (e:s.line l = some x) (e':s.line l' = some x'):x < x':=by
 have:=o.m1
 unfold Sh.line at e e'
 cases hi:s.inn <;> simp only [hi] at e e' <;> (repeat' split at e) <;> (repeat' split at e') <;> simp_all <;> omega
theorem fm_lt {s:Sh} (o:s.Ok):∀ {ls:List Int},ls.Pairwise (· < ·) → (ls.filterMap s.line).Pairwise (· < ·)
 | [],_ => by simp
 | l :: r,h => by
  rw [List.pairwise_cons] at h
  have ih:=fm_lt o h.2
  cases e:s.line l with
  | none => rw [List.filterMap_cons_none e]; exact ih
  | some x =>
   rw [List.filterMap_cons_some e,List.pairwise_cons]
   refine ⟨fun y hy => ?_,ih⟩
   obtain ⟨l',hl',e'⟩:=List.mem_filterMap.mp hy
   exact line_mono o (h.1 l' hl') e e'
def Sh.left (s:Sh) (lo hi:Int):List Int:=(rngI lo (hi + 1 - lo).toNat).filter fun l => !s.taken l
def Sh.ends (s:Sh) (lo hi:Int):Option (Int × Int):=match s.left lo hi with
 | [] => none
 | h :: r => match s.line h,s.line ((h :: r).getLast (by simp)) with
  | some a,some b => some (a,b)
  | _,_ => none
def Sh.ends' (s:Sh) (lo hi:Int):Option (Int × Int):=if s.inn = true ∧ none ∈ (rngI lo (hi + 1 - lo).toNat).map s.line then none else match (rngI lo (hi + 1 - lo).toNat).filterMap s.line with
 | [] => none
 | h :: r => some (h,(h :: r).getLast (by simp))
theorem left_mem {s:Sh} {lo hi x:Int}:x ∈ s.left lo hi ↔ (lo ≤ x ∧ x ≤ hi) ∧ s.taken x = false:=by
 unfold Sh.left
 rw [List.mem_filter,rngI_mem]
 simp
 omega
theorem left_lt {s:Sh} {lo hi:Int}:(s.left lo hi).Pairwise (· < ·):=(rngI_lt _ _).filter _
theorem taken_line {s:Sh} (o:s.Ok) {l:Int} (h:s.inn = false):s.line l = none ↔ s.taken l = true:=by
 have:=o.m1
 unfold Sh.line Sh.taken
 rw [h]
 simp
 by_cases c:l < s.at'
 ·simp [c]; omega
 ·by_cases d:l < s.at' + s.many
  ·simp [c,d]; omega
  ·simp [c,d]
theorem taken_in {s:Sh} {l:Int} (h:s.inn = true):s.taken l = false:=by unfold Sh.taken; rw [h]; rfl
theorem line_in {s:Sh} {l:Int} (h:s.inn = true):s.line l = if l < s.at' then some l else if l + s.many < s.most then some (l + s.many) else none:=by unfold Sh.line; rw [h]; rfl
theorem line_out {s:Sh} {l:Int} (h:s.inn = false):s.line l = if l < s.at' then some l else if l < s.at' + s.many then none else some (l - s.many):=by unfold Sh.line; rw [h]; rfl
theorem first_last {h:Int} {r:List Int} (p:(h :: r).Pairwise (· < ·)):(∀ x ∈ h :: r,h ≤ x) ∧ ∀ x ∈ h :: r,x ≤ (h :: r).getLast (by simp):=by
 constructor
 ·intro x hx
  rcases List.mem_cons.mp hx with z | z
  ·omega
  ·have:=(List.pairwise_cons.mp p).1 x z; omega
 ·intro x hx
  obtain ⟨t,a,e⟩:∃ t a,h :: r = t ++ [a]:=⟨_,_,(List.dropLast_concat_getLast (l:=h :: r) (by simp)).symm⟩
  have el:(h :: r).getLast (by simp) = a:=by simp [e]
  rw [el]
  rw [e] at hx p
  rcases List.mem_append.mp hx with z | z
  ·have:=(List.pairwise_append.mp p).2.2 x z a (by simp); omega
  ·simp at z; omega
theorem fm_ends {s:Sh} (o:s.Ok) {h:Int} {r:List Int} (pw:(h :: r).Pairwise (· < ·)) (all:∀ l ∈ h :: r,∃ x,s.line l = some x) :
  ∃ xh xg t,s.line h = some xh ∧ s.line ((h :: r).getLast (by simp)) = some xg ∧ (h :: r).filterMap s.line = xh :: t ∧ (xh :: t).getLast (by simp) = xg:=by
 obtain ⟨fl1,fl2⟩:=first_last pw
 have gl:=List.getLast_mem (l:=h :: r) (by simp)
 generalize hg:(h :: r).getLast (by simp) = g at fl2 gl
 obtain ⟨xh,exh⟩:=all h List.mem_cons_self
 obtain ⟨xg,exg⟩:=all g gl
 have pf:=fm_lt o pw
 have ef:=List.filterMap_cons_some (l:=r) exh
 rw [ef] at pf
 obtain ⟨f1,f2⟩:=first_last pf
 have gm:=List.getLast_mem (l:=xh :: r.filterMap s.line) (by simp)
 have xgm:xg ∈ xh :: r.filterMap s.line:=by rw [← ef]; exact List.mem_filterMap.mpr ⟨g,gl,exg⟩
 refine ⟨xh,xg,r.filterMap s.line,exh,exg,ef,?_⟩
 generalize (xh :: r.filterMap s.line).getLast (by simp) = z at f2 gm
 have q1:=f2 xg xgm
 rw [← ef] at gm
 obtain ⟨l,hlm,el⟩:=List.mem_filterMap.mp gm
 have q2:=fl2 l hlm
 have q3:z ≤ xg:=by
  rcases Int.lt_or_eq_of_le q2 with y | y
  ·exact Int.le_of_lt (line_mono o y el exg)
  ·subst y
   rw [exg] at el
   have:=Option.some.inj el
   omega
 omega
theorem ends_same {s:Sh} (o:s.Ok) {lo hi:Int} (hl:lo ≤ hi):s.ends lo hi = s.ends' lo hi:=by
 have ho:=o.m1
 cases hi':s.inn with
 | true =>
  have el:s.left lo hi = rngI lo (hi + 1 - lo).toNat:=by
   unfold Sh.left
   exact List.filter_eq_self.mpr fun l _ => by rw [taken_in hi']; rfl
  unfold Sh.ends Sh.ends'
  rw [el]
  cases er:rngI lo (hi + 1 - lo).toNat with
  | nil =>
   have:lo ∈ rngI lo (hi + 1 - lo).toNat:=rngI_mem.mpr (by omega)
   rw [er] at this
   cases this
  | cons h r =>
   have pw:=rngI_lt lo (hi + 1 - lo).toNat
   rw [er] at pw
   obtain ⟨fl1,fl2⟩:=first_last pw
   have mem:∀ x,x ∈ h :: r ↔ lo ≤ x ∧ x ≤ hi:=fun x => by rw [← er,rngI_mem]; omega
   by_cases hn:none ∈ (h :: r).map s.line
   ·rw [if_pos ⟨hi',hn⟩]
    obtain ⟨l,hlm,ln⟩:=List.mem_map.mp hn
    have nh:s.line ((h :: r).getLast (by simp)) = none:=by
     have q:=fl2 l hlm
     generalize (h :: r).getLast (by simp) = g at q
     rw [line_in hi'] at ln ⊢
     by_cases c:l < s.at'
     ·rw [if_pos c] at ln; cases ln
     ·rw [if_neg c] at ln
      by_cases c2:l + s.many < s.most
      ·rw [if_pos c2] at ln; cases ln
      ·rw [if_neg (by omega),if_neg (by omega)]
    dsimp only
    rw [nh]
    cases s.line h <;> rfl
   ·rw [if_neg (fun z => hn z.2)]
    obtain ⟨xh,xg,t,e1,e2,e3,e4⟩:=fm_ends o pw fun l hlm => by
     cases e:s.line l with
     | none => exact absurd (List.mem_map.mpr ⟨l,hlm,e⟩) hn
     | some x => exact ⟨x,rfl⟩
    dsimp only
    rw [e1,e2,e3]
    dsimp only
    rw [e4]
 | false =>
  unfold Sh.ends Sh.ends'
  rw [if_neg (fun z => by rw [hi'] at z; cases z.1)]
  have fe:(rngI lo (hi + 1 - lo).toNat).filterMap s.line = (s.left lo hi).filterMap s.line:=by
   unfold Sh.left
   rw [List.filterMap_filter]
   congr 1
   funext l
   cases e:s.taken l with
   | true => simp [(taken_line o hi').mpr e]
   | false => simp
  rw [fe]
  cases el:s.left lo hi with
  | nil => rfl
  | cons h r =>
   have pw:(h :: r).Pairwise (· < ·):=by rw [← el]; exact left_lt
   obtain ⟨xh,xg,t,e1,e2,e3,e4⟩:=fm_ends o pw fun l hlm => by
    have q:=left_mem.mp (by rw [el]; exact hlm:l ∈ s.left lo hi)
    cases e:s.line l with
    | none => have:=(taken_line o hi').mp e; rw [q.2] at this; cases this
    | some x => exact ⟨x,rfl⟩
   dsimp only
   rw [e1,e2,e3]
   dsimp only
   rw [e4]
def wayB (r i:Bool):PySem.Str:=match r,i with
 | true,true => "rows in"
 | true,false => "rows out"
 | false,true => "columns in"
 | false,false => "columns out"
def Sh.way (s:Sh):PySem.Str:=wayB s.rows s.inn
theorem q4:∀ r i,(Txt.slice (wayB r i) none (some 4) == ("rows":PySem.Str)) = r:=by decide +kernel
theorem q2:∀ r i,(Txt.slice (wayB r i) (some (-2)) none == ("in":PySem.Str)) = i:=by decide +kernel
theorem q3:∀ r i,(Txt.slice (wayB r i) (some (-3)) none == ("out":PySem.Str)) = !i:=by decide +kernel
def Sh.w (s:Sh):Wv:=.tup [.str s.way,.int s.at',.int s.many]
def ow:Option Int → Wv
 | none => .non
 | some x => .int x
theorem is_in {s:Sh} {st:Hs}:F_is_in [s.w] st = .ok (.bl s.inn) st:=by
 obtain ⟨r,i,a,m⟩:=s
 cases r <;> cases i <;> rfl
theorem is_of_rows {s:Sh} {st:Hs}:F_is_of_rows [s.w] st = .ok (.bl s.rows) st:=by
 obtain ⟨r,i,a,m⟩:=s
 cases r <;> cases i <;> rfl
theorem w0 {s:Sh} {st:Hs}:oIx s.w (.int 0) st = .ok (.str s.way) st:=ix_t rfl
theorem w1 {s:Sh} {st:Hs}:oIx s.w (.int 1) st = .ok (.int s.at') st:=ix_t rfl
theorem w2 {s:Sh} {st:Hs}:oIx s.w (.int 2) st = .ok (.int s.many) st:=ix_t rfl
theorem is_taken {s:Sh} {l:Int} {st:Hs}:F_is_taken [s.w,.int l] st = .ok (.bl (s.taken l)) st:=by
 unfold F_is_taken fnF g_is_taken Sh.taken
 cases h:s.inn with
 | true => simp [is_in,h]
 | false =>
  by_cases c:s.at' ≤ l
  ·simp [is_in,h,w1,w2,c]
  ·simp [is_in,h,w1,w2,c]
theorem moved_line {s:Sh} (o:s.Ok) {l:Int} {st:Hs}:F_moved_line [s.w,.int l] st = .ok (ow (s.line l)) st:=by
 have om:=o.m1
 unfold F_moved_line fnF g_moved_line
 cases h:s.inn with
 | true =>
  rw [line_in h]
  have t:=taken_in (l:=l) h
  by_cases c:l < s.at'
  ·simp [is_taken,t,w1,c,ow]
  ·cases hr:s.rows with
   | true =>
    have hm:s.most = 99:=by unfold Sh.most; rw [hr]; rfl
    rw [hm]
    by_cases d:l + s.many < 99
    ·simp [is_taken,t,w1,w2,c,is_in,h,is_of_rows,hr,d,ow]
    ·simp [is_taken,t,w1,w2,c,is_in,h,is_of_rows,hr,d,ow]
   | false =>
    have hm:s.most = 26:=by unfold Sh.most; rw [hr]; rfl
    rw [hm]
    by_cases d:l + s.many < 26
    ·simp [is_taken,t,w1,w2,c,is_in,h,is_of_rows,hr,d,ow]
    ·simp [is_taken,t,w1,w2,c,is_in,h,is_of_rows,hr,d,ow]
 | false =>
  cases t:s.taken l with
  | true =>
   rw [(taken_line o h).mpr t]
   simp [is_taken,t,ow]
  | false =>
   rw [line_out h]
   have q:l < s.at' ∨ s.at' + s.many ≤ l:=by unfold Sh.taken at t; rw [h] at t; simp at t; omega
   by_cases c:l < s.at'
   ·simp [is_taken,t,w1,c,ow]
   ·have d:¬ l < s.at' + s.many:=by omega
    simp [is_taken,t,w1,w2,c,d,is_in,h,ow]
theorem sl4 {s:Sh} {st:Hs}:oSl2 (.str s.way) none (some 4) st = .ok (.str (Txt.slice s.way none (some 4))) st:=by
 obtain ⟨r,i,a,m⟩:=s
 cases r <;> cases i <;> rfl
theorem e4 {s:Sh} {st:Hs}:oEq (.str (Txt.slice s.way none (some 4))) (.str "rows") st = .ok (.bl s.rows) st:=by
 rw [eq_s]
 congr 2
 exact q4 _ _
theorem sl2 {s:Sh} {st:Hs}:oSl2 (.str s.way) (some (-2)) none st = .ok (.str (Txt.slice s.way (some (-2)) none)) st:=by
 obtain ⟨r,i,a,m⟩:=s
 cases r <;> cases i <;> rfl
theorem e2 {s:Sh} {st:Hs}:oEq (.str (Txt.slice s.way (some (-2)) none)) (.str "in") st = .ok (.bl s.inn) st:=by
 rw [eq_s]
 congr 2
 exact q2 _ _
theorem sl3 {s:Sh} {st:Hs}:oSl2 (.str s.way) (some (-3)) none st = .ok (.str (Txt.slice s.way (some (-3)) none)) st:=by
 obtain ⟨r,i,a,m⟩:=s
 cases r <;> cases i <;> rfl
theorem e3 {s:Sh} {st:Hs}:oEq (.str (Txt.slice s.way (some (-3)) none)) (.str "out") st = .ok (.bl (!s.inn)) st:=by
 rw [eq_s]
 congr 2
 exact q3 _ _
theorem int_b {b:Bool} {st:Hs}:oInt2 [.bl b] st = .ok (.int (if b = true then 1 else 0)) st:=rfl
theorem two_ix {x y:Wv} {b:Bool} {st:Hs}:oIx (.ref st.length) (.int (if b = true then 1 else 0)) (st ++ [.lst [x,y]]) = .ok (if b = true then y else x) (st ++ [.lst [x,y]]):=by
 have l:lstOf (st ++ [.lst [x,y]]) st.length = some [x,y]:=lstOf_new
 cases b with
 | true => exact ix_l l rfl
 | false => exact ix_l l rfl
theorem most {s:Sh} {st:Hs}:∃ st',F__law_most [.str s.way] st = .ok (.int s.most) st' ∧ Gr st st':=by
 refine ⟨st ++ [.lst [.int 26,.int 99]],?_,Gr.push⟩
 have ti:=two_ix (x:=.int 26) (y:=.int 99) (b:=s.rows) (st:=st)
 have hm:(if s.rows = true then Wv.int 99 else .int 26) = .int s.most:=by unfold Sh.most; cases s.rows <;> rfl
 rw [hm] at ti
 unfold F__law_most fnF g__law_most
 simp only [List.map_cons,List.map_nil,List.length_cons,List.length_nil]
 simp [-ite_eq_left_iff,-eq_s,sl4,e4,int_b,ti]
theorem law_line {s:Sh} {l:Int} {st:Hs}:∃ st',F__law_line [s.w,.int l] st = .ok (ow (s.line l)) st' ∧ Gr st st':=by
 unfold Sh.line F__law_line fnF g__law_line
 have sT:∀ st':Hs,gSetT [2,3,4] (gVar 0) [some s.w,some (.int l),none,none,none] st' = .nx [some s.w,some (.int l),some (.str s.way),some (.int s.at'),some (.int s.many)] st':=fun _ => rfl
 by_cases c:l < s.at'
 ·exact ⟨st,by simp [sT,c,ow],Gr.refl⟩
 ·cases h:s.inn with
  | true =>
   obtain ⟨s1,em,g1⟩:=most (s:=s) (st:=st ++ [.lst [.non,.int (l + s.many)]])
   have l1:lstOf s1 st.length = some [.non,.int (l + s.many)]:=g1.lst lstOf_new
   refine ⟨s1,?_,Gr.push.trans g1⟩
   have e2':=e2 (s:=s) (st:=st)
   rw [h] at e2'
   by_cases d:l + s.many < s.most
   ·have ix:=ix_l (i:=1) (v:=.int (l + s.many)) l1 rfl
    have ib:oInt2 [.bl (decide (l + s.many < s.most))] s1 = .ok (.int 1) s1:=by rw [decide_eq_true d]; rfl
    simp [-eq_s,sT,c,sl2,e2',em,int_b,ix,d,ow]
   ·have ix:=ix_l (i:=0) (v:=.non) l1 rfl
    have ib:oInt2 [.bl (decide (l + s.many < s.most))] s1 = .ok (.int 0) s1:=by rw [decide_eq_false d]; rfl
    simp [-eq_s,sT,c,sl2,e2',em,int_b,ix,d,ow]
  | false =>
   have l1:lstOf (st ++ [.lst [.int (l - s.many),.non]]) st.length = some [.int (l - s.many),.non]:=lstOf_new
   refine ⟨st ++ [.lst [.int (l - s.many),.non]],?_,Gr.push⟩
   have e2':=e2 (s:=s) (st:=st)
   rw [h] at e2'
   by_cases d:l < s.at' + s.many
   ·have ix:=ix_l (i:=1) (v:=.non) l1 rfl
    have ib:∀ st:Hs,oInt2 [.bl (decide (l < s.at' + s.many))] st = .ok (.int 1) st:=fun _ => by rw [decide_eq_true d]; rfl
    simp [-eq_s,sT,c,sl2,e2',int_b,ix,d,ow]
   ·have ix:=ix_l (i:=0) (v:=.int (l - s.many)) l1 rfl
    have ib:∀ st:Hs,oInt2 [.bl (decide (l < s.at' + s.many))] st = .ok (.int 0) st:=fun _ => by rw [decide_eq_false d]; rfl
    simp [-eq_s,sT,c,sl2,e2',int_b,ix,d,ow]
def ew:Option (Int × Int) → Wv
 | none => .non
 | some (a,b) => .tup [.int a,.int b]
theorem none_in {a b:Option Int} {st:Hs}:oIn2 .non (.tup [ow a,ow b]) st = .ok (.bl (a.isNone || b.isNone)) st:=by cases a <;> cases b <;> rfl
theorem last_split {h:Int} {r:List Int}:∃ t,h :: r = t ++ [(h :: r).getLast (by simp)]:=⟨_,(List.dropLast_concat_getLast (l:=h :: r) (by simp)).symm⟩
theorem moved_ends {s:Sh} (o:s.Ok) {lo hi:Int} (h0:-1000 ≤ lo) (h1:hi ≤ 1000) (h2:lo ≤ 1000) (h3:-1000 ≤ hi) {st:Hs}:∃ st',F_moved_ends [s.w,.int lo,.int hi] st = .ok (ew (s.ends lo hi)) st' ∧ Gr st st':=by
 have c1:CRng lo:=crng (by omega) (by omega)
 have c2:CRng (hi + 1):=crng (by omega) (by omega)
 have cr:∀ ρ:Rho,ρ[0]? = some (some s.w) → compRun [("shift",0)] g_moved_ends_C1t g_moved_ends_C1e ρ (none,rngW lo (hi + 1 - lo).toNat) st = .ok (.ref st.length) (st ++ [.lst ((s.left lo hi).map Wv.int)]):=by
  intro ρ hρ
  rw [comp_pure (w:=(none,rngW lo (hi + 1 - lo).toNat)) (t:=fun v => match v with | .int l => !s.taken l | _ => false) (f:=id) trivial]
  ·rw [List.map_id,rngW_I,List.filter_map]
   rfl
  ·intro v hv acc
   have hv:v ∈ rngW lo (hi + 1 - lo).toNat:=hv
   obtain ⟨k,rfl,_,_⟩:=rng_mem hv
   unfold g_moved_ends_C1t capR
   simp [hρ,is_taken]
  ·intro v hv _ acc
   rfl
  ·show (rngW lo (hi + 1 - lo).toNat).length < lim
   rw [rngW_len]; unfold lim; omega
 have l1:lstOf (st ++ [.lst ((s.left lo hi).map Wv.int)]) st.length = some ((s.left lo hi).map Wv.int):=lstOf_new
 have g1:Gr st (st ++ [.lst ((s.left lo hi).map Wv.int)]):=Gr.push
 have cr1:=cr [some s.w,some (.int lo),some (.int hi),none,none] rfl
 generalize st ++ [.lst ((s.left lo hi).map Wv.int)] = s1 at l1 g1 cr1
 refine ⟨s1,?_,g1⟩
 have tr:=tru_l l1
 have hends:∀ h r,s.left lo hi = h :: r → ∀ g,(h :: r).getLast (by simp) = g → s.ends lo hi = (match s.line h,s.line g with | some a,some b => some (a,b) | _,_ => none):=by
  intro h r el g hg
  subst hg
  unfold Sh.ends
  split
  ·rename_i e; rw [el] at e; cases e
  ·rename_i h' r' e
   rw [el] at e
   cases e
   rfl
 unfold F_moved_ends fnF g_moved_ends
 cases el:s.left lo hi with
 | nil =>
  rw [el] at tr
  have hn:s.ends lo hi = none:=by
   unfold Sh.ends
   split
   ·rfl
   ·rename_i e; rw [el] at e; cases e
  rw [hn]
  simp [rng2_i c1 c2,cr1,tr,ew]
 | cons h r =>
  rw [el] at tr l1
  have i0:=ix_l (i:=0) (v:=.int h) l1 (by rw [List.map_cons]; exact atI_0)
  obtain ⟨t,et⟩:=last_split (h:=h) (r:=r)
  obtain ⟨g,hg⟩:∃ g,(h :: r).getLast (by simp) = g:=⟨_,rfl⟩
  rw [hg] at et
  rw [hends h r el g hg]
  have i1:=ix_l (i:=-1) (v:=.int g) l1 (by rw [et,List.map_append]; exact atI_last)
  have m0:=moved_line o (l:=h) (st:=s1)
  have m1:=moved_line o (l:=g) (st:=s1)
  have ni:=none_in (a:=s.line h) (b:=s.line g) (st:=s1)
  have tr':truW (.ref st.length) s1 = .ok true s1:=tr
  cases e1:s.line h with
  | none =>
   rw [e1] at m0 ni
   simp [rng2_i c1 c2,cr1,tr',i0,i1,m0,m1,ni,ew]
  | some a =>
   cases e2:s.line g with
   | none =>
    rw [e1,e2] at ni
    rw [e1] at m0
    rw [e2] at m1
    simp [rng2_i c1 c2,cr1,tr',i0,i1,m0,m1,ni,ew]
   | some b =>
    rw [e1,e2] at ni
    rw [e1] at m0
    rw [e2] at m1
    simp [ow] at m0 m1 ni
    simp [rng2_i c1 c2,cr1,tr',i0,i1,m0,m1,ni,ew]
theorem any_none {xs:List (Option Int)} {l:Nat} {st:Hs} (h:lstOf st l = some (xs.map ow)):oIn2 .non (.ref l) st = .ok (.bl (decide (none ∈ xs))) st:=by
 have fl:(xs.map ow).all flatW = true:=by
  rw [List.all_eq_true]
  intro v hv
  obtain ⟨x,_,rfl⟩:=List.mem_map.mp hv
  cases x <;> rfl
 show oIn .non (.ref l) st = _
 unfold oIn seqOf
 simp only [h]
 rw [if_pos ⟨rfl,fl⟩]
 congr 2
 rw [Bool.eq_iff_iff,List.any_eq_true,decide_eq_true_eq]
 constructor
 ·rintro ⟨v,hv,e⟩
  obtain ⟨x,hx,rfl⟩:=List.mem_map.mp hv
  cases x with
  | none => exact hx
  | some i => cases e
 ·intro hn
  exact ⟨.non,List.mem_map.mpr ⟨none,hn,rfl⟩,rfl⟩
theorem eq_empty {ns:List Int} {a b:Nat} {st:Hs} (ha:lstOf st a = some (ns.map Wv.int)) (hb:lstOf st b = some []):oEq (.ref a) (.ref b) st = .ok (.bl ns.isEmpty) st:=by
 have d1:∀ ns:List Int,mapO (datum st 19) (ns.map Wv.int) = some (ns.map PyData.int):=by
  intro ns
  induction ns with
  | nil => rfl
  | cons n r ih =>
   rw [List.map_cons]
   unfold mapO
   rw [ih]
   rfl
 unfold oEq
 rw [dat_l ha,dat_l hb,d1]
 cases ns with
 | nil => rfl
 | cons n r => simp [mapO,PyData.eqv,PyData.eqvAll]
theorem law_ends {s:Sh} {lo hi:Int} (h0:-1000 ≤ lo) (h1:hi ≤ 1000) (h2:lo ≤ 1000) (h3:-1000 ≤ hi) {st:Hs}:∃ st',F__law_ends [s.w,.int lo,.int hi] st = .ok (ew (s.ends' lo hi)) st' ∧ Gr st st':=by
 have c1:CRng lo:=crng (by omega) (by omega)
 have c2:CRng (hi + 1):=crng (by omega) (by omega)
 have hlen:(rngI lo (hi + 1 - lo).toNat).length ≤ 3000:=by unfold rngI; simp; omega
 unfold Sh.ends'
 generalize hR:rngI lo (hi + 1 - lo).toNat = R' at hlen
 obtain ⟨s1,us,e1,g1,n1,hus,hE⟩:=compG_map (w:=(none,rngW lo (hi + 1 - lo).toNat)) (gt:=fun v => g__law_ends_C2t (some v :: capR [("shift",0)] [some s.w,some (.int lo),some (.int hi),none])) (ge:=fun v => g__law_ends_C2e (some v :: capR [("shift",0)] [some s.w,some (.int lo),some (.int hi),none])) (rr:=st.length)
  Wv.int (fun s' => Gr st s') (fun l u => u = ow (s.line l)) (fun s' acc h => Gr.keepAt (Nat.le_refl _) h Keep.set) (fun _ _ => trivial) R' (by
   intro l _ s' acc hg hs
   refine ⟨s',rfl,hg,hs,?_⟩
   obtain ⟨s2,e2,g2⟩:=law_line (s:=s) (l:=l) (st:=s')
   refine ⟨ow (s.line l),s2,?_,rfl,hg.trans g2,g2.get hs⟩
   unfold g__law_ends_C2e capR
   simp [e2]) [] (st ++ [.lst []]) Gr.push new_get (by show 0 + _ < _; unfold lim; omega)
 have hus':us = (R'.map s.line).map ow:=by
  refine List.ext_getElem (by simp [hus]) fun k h h' => ?_
  rw [hE k (by rw [← hus]; exact h) h]
  simp
 subst hus'
 have l1:lstOf s1 st.length = some ((R'.map s.line).map ow):=lst_get (by simpa using n1)
 have cr:compRun [("shift",0)] g__law_ends_C2t g__law_ends_C2e [some s.w,some (.int lo),some (.int hi),none] (none,rngW lo (hi + 1 - lo).toNat) st = .ok (.ref st.length) s1:=by
  unfold compRun
  have e1':compG (ckOf (none,rngW lo (hi + 1 - lo).toNat)) (fun v => g__law_ends_C2t (some v :: capR [("shift",0)] [some s.w,some (.int lo),some (.int hi),none])) (fun v => g__law_ends_C2e (some v :: capR [("shift",0)] [some s.w,some (.int lo),some (.int hi),none])) st.length (rngW lo (hi + 1 - lo).toNat) (st ++ [.lst []]) = some s1:=by
   have er:rngW lo (hi + 1 - lo).toNat = R'.map Wv.int:=by rw [rngW_I,hR]
   rw [er] at e1 ⊢
   exact e1
  dsimp only
  rw [e1']
 have ni:=any_none l1
 -- what is left
 have cr2:∀ ρ,compRun [] g__law_ends_C1t g__law_ends_C1e ρ (some st.length,(R'.map s.line).map ow) s1 = .ok (.ref s1.length) (s1 ++ [.lst ((R'.filterMap s.line).map Wv.int)]):=by
  intro ρ
  rw [comp_pure (w:=(some st.length,(R'.map s.line).map ow)) (t:=fun v => match v with | .non => false | _ => true) (f:=id) l1]
  ·rw [List.map_id]
   congr 4
   show ((R'.map s.line).map ow).filter _ = _
   clear hE hus n1 e1 l1 cr ni hR hlen
   induction R' with
   | nil => rfl
   | cons l r ih =>
    cases e:s.line l with
    | none => simp [e,ow] at ih ⊢; exact ih
    | some x => simp [e,ow] at ih ⊢; exact ih
  ·intro v hv acc
   have hv:v ∈ (R'.map s.line).map ow:=hv
   obtain ⟨x,_,rfl⟩:=List.mem_map.mp hv
   have n0:∀ st:Hs,oIsNot .non .non st = .ok (.bl false) st:=fun _ => rfl
   have n1:∀ (i:Int) (st:Hs),oIsNot (.int i) .non st = .ok (.bl true) st:=fun _ _ => rfl
   unfold g__law_ends_C1t
   cases x <;> simp [ow,n0,n1]
  ·intro v hv _ acc
   rfl
  ·show ((R'.map s.line).map ow).length < lim
   simp; unfold lim; omega
 have l2:lstOf (s1 ++ [.lst ((R'.filterMap s.line).map Wv.int)]) s1.length = some ((R'.filterMap s.line).map Wv.int):=lstOf_new
 have g2:Gr s1 (s1 ++ [.lst ((R'.filterMap s.line).map Wv.int)]):=Gr.push
 have e2':=fun st:Hs => e2 (s:=s) (st:=st)
 have sl2':=fun st:Hs => sl2 (s:=s) (st:=st)
 unfold F__law_ends fnF g__law_ends
 by_cases hb:s.inn = true ∧ none ∈ R'.map s.line
 ·rw [if_pos hb]
  rw [decide_eq_true hb.2] at ni
  refine ⟨s1,?_,g1⟩
  simp [-eq_s,rng2_i c1 c2,cr,w0,sl2',e2',hb.1,ni,ew]
 ·rw [if_neg hb]
  generalize s1 ++ [.lst ((R'.filterMap s.line).map Wv.int)] = s2 at cr2 l2 g2
  have l3:lstOf (s2 ++ [.lst []]) s2.length = some []:=lstOf_new
  have l2':lstOf (s2 ++ [.lst []]) s1.length = some ((R'.filterMap s.line).map Wv.int):=Gr.push.lst l2
  have eqe:=eq_empty l2' l3
  have hcond:∀ ρ:Rho,ρ[0]? = some (some s.w) → ρ[3]? = some (some (.ref st.length)) → gAnd (gTst (gBin oEq (gSlice2 (gBin oIx (gVar 0) (gC (.int 0))) (gPart (gUn opNeg (gC (.int 2)))) gNoPart) (gC (.str "in")))) (gTst (gBin oIn2 (gC .non) (gVar 3))) ρ s1 = .ok false s1:=by
   intro ρ h0 h3
   cases hin:s.inn with
   | false => simp [-eq_s,h0,w0,sl2',e2',hin]
   | true =>
    have hn:¬ none ∈ R'.map s.line:=fun z => hb ⟨hin,z⟩
    rw [decide_eq_false hn] at ni
    simp [-eq_s,h0,h3,w0,sl2',e2',hin,ni]
  have hc:=hcond [some s.w,some (.int lo),some (.int hi),some (.ref st.length)] rfl rfl
  refine ⟨s2 ++ [.lst []],?_,g1.trans (g2.trans Gr.push)⟩
  cases ef:R'.filterMap s.line with
  | nil =>
   rw [ef] at eqe
   simp [-e_and,-List.map_map,rng2_i c1 c2,cr,hc,seqW_l l1,cr2,eqe,ew]
  | cons h r =>
   rw [ef] at eqe l2'
   have i0:=ix_l (i:=0) (v:=.int h) l2' (by rw [List.map_cons]; exact atI_0)
   obtain ⟨t,et⟩:=last_split (h:=h) (r:=r)
   obtain ⟨g,hg⟩:∃ g,(h :: r).getLast (by simp) = g:=⟨_,rfl⟩
   dsimp only
   rw [hg] at et ⊢
   have i1:=ix_l (i:=-1) (v:=.int g) l2' (by rw [et,List.map_append]; exact atI_last)
   simp [-e_and,-List.map_map,rng2_i c1 c2,cr,hc,seqW_l l1,cr2,eqe,i0,i1,ew]
structure Pot (l:Nat) (st:Hs):Prop where
 p:∃ x y:Int,st[l]? = some (.lst [.int x,.int y]) ∧ 0 ≤ y ∧ y < 2147483648
theorem fm_b {x m:Int} (h:0 < m):0 ≤ x.fmod m ∧ x.fmod m < m:=⟨Int.fmod_nonneg_of_pos x h,Int.fmod_lt_of_pos x h⟩
theorem log_s {i:Int} (h1:-1000 ≤ i) (h2:i ≤ 1000):i.natAbs.log2 < 9000:=by
 have:=log_lt (b:=1000) (k:=10) h1 h2 (by decide) (by decide)
 omega
theorem take {l:Nat} {st:Hs} (hp:Pot l st) {m:Int} (h0:1 ≤ m) (h1:m ≤ 1000):∃ v st',F__law_take [.ref l,.int m] st = .ok (.int v) st' ∧ 0 ≤ v ∧ v < m ∧ Pot l st' ∧ Keep l st st':=by
 obtain ⟨x,y,hl,y0,y1⟩:=hp.p
 have hl':=lst_get hl
 have i0:=ix_l (i:=0) (v:=.int x) hl' rfl
 have i1:=ix_l (i:=1) (v:=.int y) hl' rfl
 have hm:m ≠ 0 ∧ m.natAbs.log2 < 9000:=⟨by omega,log_s (by omega) (by omega)⟩
 unfold F__law_take fnF g__law_take
 by_cases hx:0 < x
 ·refine ⟨x.fmod m,st.set l (.lst [.int (x.fdiv m),.int y]),?_,(fm_b (by omega)).1,(fm_b (by omega)).2,⟨_,_,set_get hl,y0,y1⟩,Keep.set⟩
  simp [i0,hx,mod_i hm.1,fdiv_i hm,gSetI,oSet,hl,L2.ixN]
 ·obtain ⟨z,hz⟩:∃ z,(y * 48271 + 11).fmod 2147483647 = z:=⟨_,rfl⟩
  have zb:=fm_b (x:=y * 48271 + 11) (m:=2147483647) (by omega)
  rw [hz] at zb
  have hl2:(st.set l (.lst [.int x,.int z]))[l]? = some (.lst [.int x,.int z]):=set_get hl
  have j1:=ix_l (i:=1) (v:=.int z) (lst_get hl2) rfl
  refine ⟨((z * z).fmod 2147483629).fdiv 8 |>.fmod m,st.set l (.lst [.int x,.int z]),?_,(fm_b (by omega)).1,(fm_b (by omega)).2,⟨_,_,hl2,zb.1,by omega⟩,Keep.set⟩
  have m1:=mul_l (st:=st) (i:=y) (j:=48271) (by omega) (by omega)
  have m2:=mul_l (st:=st.set l (.lst [.int x,.int z])) (i:=z) (j:=z) (by omega) (by omega)
  have a1:=mod_i (st:=st) (i:=y * 48271 + 11) (j:=2147483647) (by decide)
  rw [hz] at a1
  have a2:=mod_i (st:=st.set l (.lst [.int x,.int z])) (i:=z * z) (j:=2147483629) (by decide)
  have a3:=fdiv_i (st:=st.set l (.lst [.int x,.int z])) (i:=(z * z).fmod 2147483629) (j:=8) ⟨by decide,by decide⟩
  have a4:=mod_i (st:=st.set l (.lst [.int x,.int z])) (i:=((z * z).fmod 2147483629).fdiv 8) (j:=m) hm.1
  simp [i0,i1,hx,m1,a1,gSetI,oSet,hl,L2.ixN,j1,m2,a2,a3,a4]
theorem pot {x:Int} {st:Hs}:∃ st',F__law_pot [.int x] st = .ok (.ref st.length) st' ∧ Pot st.length st' ∧ Gr st st':=by
 have b:=fm_b (x:=x) (m:=1000000007) (by omega)
 refine ⟨st ++ [.lst [.int x,.int (x.fmod 1000000007 + 1)]],?_,⟨_,_,new_get,by omega,by omega⟩,Gr.push⟩
 have a1:=mod_i (st:=st) (i:=x) (j:=1000000007) (by decide)
 unfold F__law_pot fnF g__law_pot
 simp [a1]
theorem Pot.gr {l:Nat} {s1 s2:Hs} (h:Pot l s1) (g:Gr s1 s2):Pot l s2:=by
 obtain ⟨x,y,e,q⟩:=h.p
 exact ⟨x,y,g.get e,q⟩
theorem place {l:Nat} {st:Hs} (hp:Pot l st):∃ r c st',F__law_place [.ref l] st = .ok (.tup [.int r,.int c]) st' ∧ (0 ≤ r ∧ r < 99) ∧ (0 ≤ c ∧ c < 26) ∧ Pot l st' ∧ Keep l st st':=by
 obtain ⟨v1,s1,e1,p0,p1,P1,K1⟩:=take hp (m:=12) (by omega) (by omega)
 obtain ⟨v2,s2,e2,_,_,P2,K2⟩:=take P1 (m:=5) (by omega) (by omega)
 obtain ⟨v3,s3,e3,q0,q1,P3,K3⟩:=take P2 (m:=6) (by omega) (by omega)
 obtain ⟨v4,s4,e4,_,_,P4,K4⟩:=take P3 (m:=5) (by omega) (by omega)
 have ib:∀ (b:Bool) (st:Hs),oInt2 [.bl b] st = .ok (.int (if b = true then 1 else 0)) st:=fun _ _ => rfl
 have m1:=mul_l (st:=s2) (i:=87) (j:=if (v2 == 4) = true then 1 else 0) (by omega) (by omega)
 have m2:=mul_l (st:=s4) (i:=20) (j:=if (v4 == 4) = true then 1 else 0) (by omega) (by omega)
 refine ⟨v1 + 87 * (if (v2 == 4) = true then 1 else 0),v3 + 20 * (if (v4 == 4) = true then 1 else 0),s4,?_,?_,?_,P4,K1.trans (K2.trans (K3.trans K4))⟩
 ·have f1:oMulL (.int 87) (.int (if v2 = 4 then 1 else 0)) s2 = .ok (.int (87 * (if v2 = 4 then 1 else 0))) s2:=by simpa using m1
  have f2:oMulL (.int 20) (.int (if v4 = 4 then 1 else 0)) s4 = .ok (.int (20 * (if v4 = 4 then 1 else 0))) s4:=by simpa using m2
  unfold F__law_place fnF g__law_place
  simp [e1,e2,ib,f1,e3,e4,f2]
 ·split <;> omega
 ·split <;> omega
theorem shift {l:Nat} {st:Hs} (hp:Pot l st):∃ (s:Sh) (st':Hs),F__law_shift [.ref l] st = .ok s.w st' ∧ s.Ok ∧ Pot l st' ∧ Keep l st st':=by
 obtain ⟨x,y,hg,_⟩:=hp.p
 obtain ⟨v,s1,e1,v0,v1,P1,K1⟩:=take (hp.gr (Gr.push (o:=.lst [.str "rows in",.str "rows out",.str "columns in",.str "columns out"]))) (m:=4) (by omega) (by omega)
 have hl1:lstOf s1 st.length = some [.str "rows in",.str "rows out",.str "columns in",.str "columns out"]:=K1.lst lstOf_new (by have:=get_lt hg; omega)
 obtain ⟨r,i,hix⟩:∃ r i,oIx (.ref st.length) (.int v) s1 = .ok (.str (wayB r i)) s1:=by
  rcases (by omega:v = 0 ∨ v = 1 ∨ v = 2 ∨ v = 3) with rfl | rfl | rfl | rfl
  ·exact ⟨true,true,ix_l hl1 rfl⟩
  ·exact ⟨true,false,ix_l hl1 rfl⟩
  ·exact ⟨false,true,ix_l hl1 rfl⟩
  ·exact ⟨false,false,ix_l hl1 rfl⟩
 have mM:∀ a m,(Sh.mk r i a m).most = (Sh.mk r i 0 0).most:=fun _ _ => rfl
 obtain ⟨s2,e2,g2⟩:=most (s:=Sh.mk r i 0 0) (st:=s1)
 have mp:=most_pos (Sh.mk r i 0 0)
 generalize hmm:(Sh.mk r i 0 0).most = M at e2 mp mM
 have e2:F__law_most [.str (wayB r i)] s1 = .ok (.int M) s2:=e2
 obtain ⟨a0,s3,e3,a00,a01,P3,K3⟩:=take (P1.gr g2) (m:=12) (by omega) (by omega)
 obtain ⟨b0,s4,e4,_,_,P4,K4⟩:=take P3 (m:=3) (by omega) (by omega)
 -- at
 obtain ⟨a,s5,ea,ha0,ha1,P5,K5⟩:∃ a s5,gIf (gTst (gBin oEq (gCall 2 F__law_take (gCons (gVar 0) (gCons (gC (.int 3)) gNil))) (gC (.int 0)))) (gSet 3 (gCall 2 F__law_take (gCons (gVar 0) (gCons (gVar 2) gNil)))) gNext [some (.ref l),some (.str (wayB r i)),some (.int M),some (.int a0),none] s3 = .nx [some (.ref l),some (.str (wayB r i)),some (.int M),some (.int a),none] s5 ∧ 0 ≤ a ∧ a < M ∧ Pot l s5 ∧ Keep l s3 s5:=by
  by_cases hb:b0 = 0
  ·obtain ⟨a,s5,e5,q0,q1,P5,K5⟩:=take P4 (m:=M) (by omega) (by omega)
   exact ⟨a,s5,by simp [e4,hb,e5],q0,q1,P5,K4.trans K5⟩
  ·exact ⟨a0,s4,by simp [e4,beq_eq_false_iff_ne.mpr hb],a00,by omega,P4,K4⟩
 obtain ⟨m0,s6,e6,m00,m01,P6,K6⟩:=take P5 (m:=5) (by omega) (by omega)
 obtain ⟨b1,s7,e7,_,_,P7,K7⟩:=take P6 (m:=6) (by omega) (by omega)
 obtain ⟨m,s8,em,hm0,hm1,P8,K8⟩:∃ m s8,gIf (gTst (gBin oEq (gCall 2 F__law_take (gCons (gVar 0) (gCons (gC (.int 6)) gNil))) (gC (.int 0)))) (gSet 4 (gBin oAdd (gC (.int 1)) (gCall 2 F__law_take (gCons (gVar 0) (gCons (gVar 2) gNil))))) gNext [some (.ref l),some (.str (wayB r i)),some (.int M),some (.int a),some (.int (1 + m0))] s6 = .nx [some (.ref l),some (.str (wayB r i)),some (.int M),some (.int a),some (.int m)] s8 ∧ 1 ≤ m ∧ m ≤ 99 ∧ Pot l s8 ∧ Keep l s6 s8:=by
  by_cases hb:b1 = 0
  ·obtain ⟨a,s8,e8,q0,q1,P8,K8⟩:=take P7 (m:=M) (by omega) (by omega)
   exact ⟨1 + a,s8,by simp [e7,hb,e8],by omega,by omega,P8,K7.trans K8⟩
  ·exact ⟨1 + m0,s7,by simp [e7,beq_eq_false_iff_ne.mpr hb],by omega,by omega,P7,K7⟩
 have KK:Keep l st s8:=(Keep.push).trans (K1.trans (g2.keep.trans (K3.trans (K5.trans (K6.trans K8)))))
 have sl3':=sl3 (s:=Sh.mk r i 0 0) (st:=s8)
 have e3':=K46.e3 (s:=Sh.mk r i 0 0) (st:=s8)
 have hw:(Sh.mk r i 0 0).way = wayB r i:=rfl
 have hi:(Sh.mk r i 0 0).inn = i:=rfl
 rw [hw] at sl3' e3'
 rw [hi] at e3'
 cases i with
 | true =>
  refine ⟨⟨r,true,a,m⟩,s8,?_,⟨ha0,by rw [mM]; exact ha1,hm0,hm1,fun z => by cases z⟩,P8,KK⟩
  unfold F__law_shift fnF g__law_shift
  simp only [e_seq,ea,em,e_set]
  simp [-eq_s,-e_if,e1,hix,e2,e3,ea,e6,em]
  simp [-eq_s,sl3',e3']
  rfl
 | false =>
  refine ⟨⟨r,false,a,if M - a < m then M - a else m⟩,s8,?_,⟨ha0,by rw [mM]; exact ha1,by dsimp only; split <;> omega,by dsimp only; split <;> omega,fun _ => by rw [mM]; dsimp only; split <;> omega⟩,P8,KK⟩
  unfold F__law_shift fnF g__law_shift
  simp only [e_seq,ea,em,e_set]
  simp [-eq_s,-e_if,e1,hix,e2,e3,ea,e6,em]
  simp [-eq_s,sl3',e3']
  rfl
def allO {α β:Type} (r:α → Option β):List α → Option (List β)
 | [] => some []
 | a :: t => match r a with
  | none => none
  | some b => (allO r t).map (b :: ·)
theorem allO_no {α β:Type} {r:α → Option β} {a:α} {t:List α} (h:r a = none):allO r (a :: t) = none:=by unfold allO; rw [h]
theorem allO_so {α β:Type} {r:α → Option β} {a:α} {b:β} {t:List α} (h:r a = some b):allO r (a :: t) = (allO r t).map (b :: ·):=by rw [allO,h]
def outR (c:S) (st:Hs):Option Wv → Re Wv
 | none => .err c st
 | some v => .ok v st
theorem compO {α ι:Type} {ck:Hs → Prop} {gt:ι → Wv → Hs → Re Bool} {ge:ι → Wv → Hs → Re Wv} {rr:Nat} {c:S} (f:α → Wv) (r:α → Option Wv) (hck:∀ st,ck st) (ht:∀ i v st,gt i v st = .ok true st) :
  ∀ (ws:List α),(∀ a ∈ ws,∀ st,∃ st',Gr st st' ∧ ∀ i,ge i (f a) st = outR c st' (r a)) → ∀ (acc:List Wv) (st:Hs),st[rr]? = some (.lst acc) → acc.length + ws.length < lim →
   ∃ st',(∀ base:Hs,base.length ≤ rr → Gr base st → Gr base st') ∧ (∀ vs,allO r ws = some vs → st'[rr]? = some (.lst (acc ++ vs)) ∧ ∀ i,compG ck (gt i) (ge i) rr (ws.map f) st = some st') ∧
    (allO r ws = none → ∀ i,compG ck (gt i) (ge i) rr (ws.map f) st = none ∧ compZ ck (gt i) (ge i) rr (ws.map f) st = .err c st')
 | [],_,acc,st,hg,_ => ⟨st,fun _ _ h => h,fun vs e => by cases e; exact ⟨by simpa using hg,fun _ => rfl⟩,fun e => by cases e⟩
 | a :: t,h,acc,st,hg,hl => by
  have hl':acc.length + (t.length + 1) < lim:=hl
  obtain ⟨s1,g1,e1⟩:=h a List.mem_cons_self st
  have hg1:=g1.get hg
  cases er:r a with
  | none =>
   have e2:∀ i,ge i (f a) st = .err c s1:=fun i => by rw [e1 i,er]; rfl
   refine ⟨s1,fun base hb k => k.trans g1,fun vs e => (by rw [allO_no er] at e; cases e),fun _ i => ⟨?_,?_⟩⟩
   ·rw [List.map_cons]; unfold compG; rw [ht]; dsimp only; rw [e2 i]
   ·rw [List.map_cons]; unfold compZ; rw [ht]; dsimp only; rw [e2 i]
  | some v =>
   have e2:∀ i,ge i (f a) st = .ok v s1:=fun i => by rw [e1 i,er]; rfl
   obtain ⟨s2,k2,o2,n2⟩:=compO (ck:=ck) (gt:=gt) (ge:=ge) f r hck ht t (fun b hb => h b (List.mem_cons_of_mem _ hb)) (acc ++ [v]) (s1.set rr (.lst (acc ++ [v]))) (set_get hg1) (by simp; omega)
   have sG:∀ i,compG ck (gt i) (ge i) rr ((a :: t).map f) st = compG ck (gt i) (ge i) rr (t.map f) (s1.set rr (.lst (acc ++ [v]))):=fun i => by
    rw [List.map_cons,compG,ht]; dsimp only; rw [e2 i]; dsimp only; rw [app_l hg1 (by omega)]; dsimp only; rw [if_pos (hck _)]
   have sZ:∀ i,compZ ck (gt i) (ge i) rr ((a :: t).map f) st = compZ ck (gt i) (ge i) rr (t.map f) (s1.set rr (.lst (acc ++ [v]))):=fun i => by
    rw [List.map_cons,compZ,ht]; dsimp only; rw [e2 i]; dsimp only; rw [app_l hg1 (by omega)]; dsimp only; rw [if_pos (hck _)]
   refine ⟨s2,fun base hb k => k2 base hb (Gr.setNew hb (k.trans g1)),fun vs e => ?_,fun e i => ?_⟩
   ·rw [allO_so er] at e
    cases et:allO r t with
    | none => rw [et] at e; cases e
    | some us =>
     rw [et] at e
     cases e
     obtain ⟨p1,p2⟩:=o2 us et
     exact ⟨by simpa using p1,fun i => by rw [sG]; exact p2 i⟩
   ·rw [allO_so er] at e
    cases et:allO r t with
    | none =>
     obtain ⟨q1,q2⟩:=n2 et i
     exact ⟨by rw [sG]; exact q1,by rw [sZ]; exact q2⟩
    | some us => rw [et] at e; cases e
section
variable {L:LF} {wy:Wv}
def Rx (L:LF) (wy:Wv) (n:Nat) (f:Fm) (o:Option Fm):Prop:=∀ st:Hs,∃ st',Gr st st' ∧ ∀ p:Lm,R_rebuilt p L n [f.w,.fn p [wy]] st = outR "NoRoom" st' (o.map Fm.w)
def kidO (ks:List (Fm × Option Fm)):Option (List Wv):=allO (fun q => q.2.map Fm.w) ks
theorem kidsO {n:Nat} {ks:List (Fm × Option Fm)} (h:∀ q ∈ ks,Rx L wy n q.1 q.2) (hl:ks.length ≤ 3) (st:Hs):∃ st',Gr st st' ∧ (∀ vs,kidO ks = some vs → st'[st.length]? = some (.lst vs)) ∧
  ∀ (p:Lm) (ρ:Rho),ρ[1]? = some (some (.fn p [wy])) → compRun [("goes",1)] (g_rebuilt_C1t p L (R_rebuilt p L n)) (g_rebuilt_C1e p L (R_rebuilt p L n)) ρ (none,ks.map fun q => q.1.w) st = outR "NoRoom" st' ((kidO ks).map fun _ => .ref st.length):=by
 obtain ⟨st',g2,g1,g0⟩:=compO (ι:=Lm) (ck:=ckOf (none,ks.map fun q => q.1.w)) (gt:=fun p v => g_rebuilt_C1t p L (R_rebuilt p L n) (some v :: [some (.fn p [wy])])) (ge:=fun p v => g_rebuilt_C1e p L (R_rebuilt p L n) (some v :: [some (.fn p [wy])])) (rr:=st.length) (c:="NoRoom") (fun q:Fm × Option Fm => q.1.w) (fun q => q.2.map Fm.w) (fun _ => trivial) (fun _ _ _ => rfl) ks
  (fun q hq s => by
   obtain ⟨s',k,e⟩:=h q hq s
   refine ⟨s',k,fun p => ?_⟩
   unfold g_rebuilt_C1e
   simp [e p]) [] (st ++ [.lst []]) new_get (by simp [lim]; omega)
 refine ⟨st',g2 st (Nat.le_refl _) Gr.push,fun vs e => by simpa using (g1 vs e).1,fun p ρ hρ => ?_⟩
 have ec:capR [("goes",1)] ρ = [some (.fn p [wy])]:=by
  unfold capR
  simp [hρ]
 unfold compRun
 rw [ec]
 cases eo:kidO ks with
 | none =>
  obtain ⟨q1,q2⟩:=g0 eo p
  simp only [q1,q2]
  rfl
 | some vs =>
  have q1:=(g1 vs eo).2 p
  simp only [q1]
  rfl
theorem kidO_len:∀ (ks:List (Fm × Option Fm)) (vs:List Wv),kidO ks = some vs → vs.length = ks.length
 | [],vs,h => by cases h; rfl
 | q :: r,vs,h => by
  unfold kidO at h
  cases e:q.2.map Fm.w with
  | none => rw [allO_no (r:=fun q:Fm × Option Fm => q.2.map Fm.w) (a:=q) e] at h; cases h
  | some v =>
   rw [allO_so (r:=fun q:Fm × Option Fm => q.2.map Fm.w) (a:=q) e] at h
   cases et:allO (fun q:Fm × Option Fm => q.2.map Fm.w) r with
   | none => rw [et] at h; cases h
   | some us =>
    rw [et] at h
    cases h
    rw [List.length_cons,List.length_cons,kidO_len r us et]
theorem nodeN {n:Nat} {x:S} {ks:List (Fm × Option Fm)} {ws tl:List Wv} (hp:∀ st,F_parts_of [.tup (.str x :: ws)] st = .ok (.tup (ks.map fun q => q.1.w)) st) (ht:∀ st,F_tail_of [.tup (.str x :: ws)] st = .ok (.tup tl) st) (hx:x ≠ "at") (ha:x ∉ AF)
  (h:∀ q ∈ ks,Rx L wy n q.1 q.2) (hl:ks.length ≤ 3) (hl2:tl.length ≤ 3) (st:Hs):∃ st',Gr st st' ∧ ∀ p:Lm,R_rebuilt p L (n + 1) [.tup (.str x :: ws),.fn p [wy]] st = outR "NoRoom" st' ((kidO ks).map fun vs => .tup (.str x :: (vs ++ tl))):=by
 obtain ⟨s1,g1,l1,e1⟩:=kidsO h hl st
 refine ⟨s1,g1,fun p => ?_⟩
 have bx:(x == ("at":S)) = false:=beq_false_of_ne hx
 have e2:=e1 p [some (.tup (.str x :: ws)),some (.fn p [wy]),some (.str x),some (.tup tl),none] rfl
 rw [R_rebuilt_succ]
 unfold fnF g_rebuilt
 cases eo:kidO ks with
 | none =>
  rw [eo] at e2
  simp only [outR,Option.map_none] at e2 ⊢
  simp [ix0,ht,bx,has_area,ha,hp,e2]
 | some vs =>
  have hv:=kidO_len ks vs eo
  have c1:=cat (x:=.str x) (xs:=[]) (ys:=vs) (st:=s1) (by simp; omega)
  have c2:=cat (x:=.str x) (xs:=vs) (ys:=tl) (st:=s1) (by omega)
  rw [eo] at e2
  simp only [outR,Option.map_some] at e2 ⊢
  simp [ix0,ht,bx,has_area,ha,hp,e2,tupC (l1 vs eo),c1,c2]
def spotR (x:S) (p':List Int) (o:Option (Option (List Int))) (ks:List (Fm × Option Fm)):Option Wv:=match o with
 | none => none
 | some none => some (.tup [.str "lost"])
 | some (some l') => (kidO ks).map fun vs => .tup (.str x :: (vs ++ [tI l',tI p']))
theorem nodeR {n:Nat} {x:S} {ks:List (Fm × Option Fm)} {ws:List Wv} {l p':List Int} {o:Option (Option (List Int))} (hp:∀ st,F_parts_of [.tup (.str x :: ws)] st = .ok (.tup (ks.map fun q => q.1.w)) st) (ht:∀ st,F_tail_of [.tup (.str x :: ws)] st = .ok (.tup [tI l,tI p']) st) (hx:x = "at" ∨ x ∈ AF)
  (hL:∀ st,∃ st',Gr st st' ∧ L [wy] [.str x,tI l,tI p'] st = outR "NoRoom" st' (o.map oW)) (h:∀ q ∈ ks,Rx L wy n q.1 q.2) (hl:ks.length ≤ 3) (st:Hs) :
  ∃ st',Gr st st' ∧ ∀ p:Lm,R_rebuilt p L (n + 1) [.tup (.str x :: ws),.fn p [wy]] st = outR "NoRoom" st' (spotR x p' o ks):=by
 obtain ⟨s0,g0,e0⟩:=hL st
 have cond:∀ (p:Lm) (st:Hs),gOr (gTst (gBin oEq (gVar 2) (gC (Wv.str "at")))) (gTru (gCall 1 F_has_area (gCons (gVar 2) gNil))) [some (.tup (.str x :: ws)),some (.fn p [wy]),some (.str x),some (.tup [tI l,tI p']),none] st = .ok true st:=fun p st => by
  by_cases c:x = "at"
  ·subst c; simp
  ·have b:(x == ("at":S)) = false:=beq_false_of_ne c
   have ha:x ∈ AF:=hx.resolve_left c
   simp [b,has_area,ha]
 have cf:∀ p:Lm,gCallF p 3 L 1 (gCons (gVar 2) (gCons (gBin oIx (gVar 3) (gC (.int 0))) (gCons (gBin oIx (gVar 3) (gC (.int 1))) gNil))) [some (.tup (.str x :: ws)),some (.fn p [wy]),some (.str x),some (.tup [tI l,tI p']),none] st = outR "NoRoom" s0 (o.map oW):=fun p => by
  rw [callF (n:=3) (caps:=[wy]) (ws:=[.str x,tI l,tI p']) (st1:=st) rfl (by simp [ix0,ix1]) rfl]
  exact e0
 cases o with
 | none =>
  refine ⟨s0,g0,fun p => ?_⟩
  have cf':=cf p
  simp only [outR,Option.map_none] at cf'
  rw [R_rebuilt_succ]
  unfold fnF g_rebuilt
  simp [ix0,ht,-e_or,cond,cf',spotR,outR]
 | some o =>
  cases o with
  | none =>
   refine ⟨s0,g0,fun p => ?_⟩
   have cf':=cf p
   simp only [outR,Option.map_some] at cf'
   have is:oIs (oW none) .non s0 = .ok (.bl true) s0:=rfl
   rw [R_rebuilt_succ]
   unfold fnF g_rebuilt
   simp [ix0,ht,-e_or,cond,cf',is,spotR,outR]
  | some l' =>
   obtain ⟨s1,g1,l1,e1⟩:=kidsO h hl s0
   refine ⟨s1,g0.trans g1,fun p => ?_⟩
   have cf':=cf p
   simp only [outR,Option.map_some] at cf'
   have is:oIs (oW (some l')) .non s0 = .ok (.bl false) s0:=rfl
   have e2:=e1 p [some (.tup (.str x :: ws)),some (.fn p [wy]),some (.str x),some (.tup [tI l',tI p']),some (tI l')] rfl
   have oWs:oW (some l') = tI l':=rfl
   rw [oWs] at cf' is
   rw [R_rebuilt_succ]
   unfold fnF g_rebuilt
   cases eo:kidO ks with
   | none =>
    rw [eo] at e2
    simp only [outR,Option.map_none] at e2
    simp [ix0,ix1,ht,-e_or,cond,cf',is,hp,e2,spotR,eo,outR]
   | some vs =>
    have hv:=kidO_len ks vs eo
    have c1:=cat (x:=.str x) (xs:=[]) (ys:=vs) (st:=s1) (by simp; omega)
    have c2:=cat (x:=.str x) (xs:=vs) (ys:=[tI l',tI p']) (st:=s1) (by simp; omega)
    rw [eo] at e2
    simp only [outR,Option.map_some] at e2
    simp [ix0,ix1,ht,-e_or,cond,cf',is,hp,e2,tupC (l1 vs eo),c1,c2,spotR,eo,outR]
abbrev Gs:=S → List Int → Option (Option (List Int))
def Fm.tr (g:Gs):Fm → Option Fm
 | .lit x ws => some (.lit x ws)
 | .pt x l p => match g x l with
  | none => none
  | some none => some (.lit "lost" [])
  | some (some l') => some (.pt x l' p)
 | .fd a l p => match g "find" l with
  | none => none
  | some none => some (.lit "lost" [])
  | some (some l') => (a.tr g).map fun a' => .fd a' l' p
 | .o1 x a => (a.tr g).map fun a' => .o1 x a'
 | .o2 x a b => match a.tr g,b.tr g with
  | some a',some b' => some (.o2 x a' b')
  | _,_ => none
 | .o3 a b c => match a.tr g,b.tr g,c.tr g with
  | some a',some b',some c' => some (.o3 a' b' c')
  | _,_,_ => none
def Nm (x:S) (l p:List Int):Prop:=(x = "at" ∧ Sh2 l p) ∨ (x ∈ AF ∧ Sh4 l p)
theorem rebuilt {g:Gs} (hL:∀ x l p,Nm x l p → ∀ st,∃ st',Gr st st' ∧ L [wy] [.str x,tI l,tI p] st = outR "NoRoom" st' ((g x l).map oW)) :
  ∀ (f:Fm) (n:Nat),f.ok → f.dp ≤ n → Rx L wy n f (f.tr g)
 | f,0,_,hd => by cases f <;> simp [Fm.dp] at hd
 | .lit x ws,n + 1,h,_ => fun st => by
  obtain ⟨n1,n2⟩:=node (f:=.lit x ws) h
  have hx:x ≠ "at" ∧ x ∉ AF:=by
   rcases h with ⟨rfl,_⟩ | ⟨rfl,_⟩ | ⟨rfl,_⟩ <;> decide +kernel
  have hl:ws.length ≤ 3:=by
   rcases h with ⟨_,i,rfl,_⟩ | ⟨_,i,rfl,_⟩ | ⟨_,rfl⟩ <;> simp
  exact nodeN (ks:=[]) n1 n2 hx.1 hx.2 (fun _ z => by cases z) (Nat.zero_le _) hl st
 | .pt x l p,n + 1,h,_ => fun st => by
  obtain ⟨n1,n2⟩:=node (f:=.pt x l p) h
  have hx:x = "at" ∨ x ∈ AF:=h.imp (fun z => z.1) fun z => aw_af z.1
  have hs:Nm x l p:=h.imp id fun z => ⟨aw_af z.1,z.2⟩
  obtain ⟨s1,g1,e1⟩:=nodeR (n:=n) (x:=x) (ws:=[tI l,tI p]) (ks:=[]) (o:=g x l) n1 n2 hx (hL x l p hs) (fun _ z => by cases z) (Nat.zero_le _) st
  refine ⟨s1,g1,fun q => ?_⟩
  show R_rebuilt q L (n + 1) [.tup (.str x :: [tI l,tI p]),.fn q [wy]] st = _
  rw [e1 q]
  simp only [Fm.tr]
  cases g x l with
  | none => rfl
  | some o => cases o <;> rfl
 | .fd a l p,n + 1,h,hd => fun st => by
  obtain ⟨n1,n2⟩:=node (f:=.fd a l p) h
  have ih:=rebuilt hL a n h.1 (by simp [Fm.dp] at hd; omega)
  have hs:Nm "find" l p:=.inr ⟨by decide +kernel,h.2⟩
  obtain ⟨s1,g1,e1⟩:=nodeR (n:=n) (x:="find") (ws:=[a.w,tI l,tI p]) (ks:=[(a,a.tr g)]) (o:=g "find" l) n1 n2 (.inr (by decide +kernel)) (hL "find" l p hs) (fun q z => by rw [List.mem_singleton.mp z]; exact ih) (by simp) st
  refine ⟨s1,g1,fun q => ?_⟩
  show R_rebuilt q L (n + 1) [.tup (.str "find" :: [a.w,tI l,tI p]),.fn q [wy]] st = _
  rw [e1 q]
  simp only [Fm.tr]
  cases g "find" l with
  | none => rfl
  | some o =>
   cases o with
   | none => rfl
   | some l' => cases e:a.tr g <;> simp [spotR,kidO,allO] <;> rfl
 | .o1 x a,n + 1,h,hd => fun st => by
  obtain ⟨n1,n2⟩:=node (f:=.o1 x a) h
  have ih:=rebuilt hL a n h.2 (by simp [Fm.dp] at hd; omega)
  obtain ⟨s1,g1,e1⟩:=nodeN (ks:=[(a,a.tr g)]) n1 n2 (w1_no h.1).1 (w1_no h.1).2 (fun q z => by rw [List.mem_singleton.mp z]; exact ih) (by simp) (by simp [Fm.tl]) st
  refine ⟨s1,g1,fun q => ?_⟩
  show R_rebuilt q L (n + 1) [.tup (.str x :: [a.w]),.fn q [wy]] st = _
  refine (e1 q).trans ?_
  simp only [Fm.tr]
  cases e:a.tr g <;> simp [kidO,allO] <;> rfl
 | .o2 x a b,n + 1,h,hd => fun st => by
  obtain ⟨n1,n2⟩:=node (f:=.o2 x a b) h
  have i1:=rebuilt hL a n h.2.1 (by simp [Fm.dp] at hd; omega)
  have i2:=rebuilt hL b n h.2.2 (by simp [Fm.dp] at hd; omega)
  obtain ⟨s1,g1,e1⟩:=nodeN (ks:=[(a,a.tr g),(b,b.tr g)]) n1 n2 (w2_no h.1).1 (w2_no h.1).2 (List.forall_mem_cons.mpr ⟨i1,List.forall_mem_cons.mpr ⟨i2,fun _ z => by cases z⟩⟩) (by simp) (by simp [Fm.tl]) st
  refine ⟨s1,g1,fun q => ?_⟩
  refine (e1 q).trans ?_
  simp only [Fm.tr]
  cases e:a.tr g <;> cases e':b.tr g <;> simp [kidO,allO] <;> rfl
 | .o3 a b c,n + 1,h,hd => fun st => by
  obtain ⟨n1,n2⟩:=node (f:=.o3 a b c) h
  have i1:=rebuilt hL a n h.1 (by simp [Fm.dp] at hd; omega)
  have i2:=rebuilt hL b n h.2.1 (by simp [Fm.dp] at hd; omega)
  have i3:=rebuilt hL c n h.2.2 (by simp [Fm.dp] at hd; omega)
  obtain ⟨s1,g1,e1⟩:=nodeN (x:="if") (ks:=[(a,a.tr g),(b,b.tr g),(c,c.tr g)]) n1 n2 (by decide +kernel) (by decide +kernel) (List.forall_mem_cons.mpr ⟨i1,List.forall_mem_cons.mpr ⟨i2,List.forall_mem_cons.mpr ⟨i3,fun _ z => by cases z⟩⟩⟩) (by simp) (by simp [Fm.tl]) st
  refine ⟨s1,g1,fun q => ?_⟩
  refine (e1 q).trans ?_
  simp only [Fm.tr]
  cases e:a.tr g <;> cases e':b.tr g <;> cases e'':c.tr g <;> simp [kidO,allO] <;> rfl
end
theorem is_nn {st:Hs}:oIs .non .non st = .ok (.bl true) st:=rfl
theorem is_tn {xs:List Wv} {st:Hs}:oIs (.tup xs) .non st = .ok (.bl false) st:=rfl
theorem isn_nn {st:Hs}:oIsNot .non .non st = .ok (.bl false) st:=rfl
theorem is_in' {i:Int} {st:Hs}:oIs (.int i) .non st = .ok (.bl false) st:=rfl
def Sh.with (s:Sh) (a b c d:Int):Option (List Int):=if s.rows = true then (s.ends a c).map fun e => [e.1,b,e.2,d] else (s.ends b d).map fun e => [a,e.1,c,e.2]
def Sh.area (s:Sh) (a b c d:Int):Option (List Int):=(s.with a b c d).bind fun l => if (match l with | [a,b,c,d] => decide (ArOk a b c d) | _ => false) = true then some l else none
theorem with_ends {s:Sh} (o:s.Ok) {a b c d:Int} (h:ArOk a b c d) {st:Hs}:∃ st',F_area_with_ends [s.w,tI [a,b,c,d]] st = .ok (oW (s.with a b c d)) st' ∧ Gr st st':=by
 obtain ⟨q1,q2,q3,q4,q5,q6,_⟩:=h
 have i0:∀ st:Hs,oIx (tI [a,b,c,d]) (.int 0) st = .ok (.int a) st:=fun _ => ix4.1
 have i1:∀ st:Hs,oIx (tI [a,b,c,d]) (.int 1) st = .ok (.int b) st:=fun _ => ix4.2.1
 have i2:∀ st:Hs,oIx (tI [a,b,c,d]) (.int 2) st = .ok (.int c) st:=fun _ => ix4.2.2.1
 have i3:∀ st:Hs,oIx (tI [a,b,c,d]) (.int 3) st = .ok (.int d) st:=fun _ => ix4.2.2.2
 unfold Sh.with
 unfold F_area_with_ends fnF g_area_with_ends
 cases hr:s.rows with
 | true =>
  obtain ⟨s1,e1,g1⟩:=moved_ends o (lo:=a) (hi:=c) (st:=st) (by omega) (by omega) (by omega) (by omega)
  refine ⟨s1,?_,g1⟩
  cases ee:s.ends a c with
  | none =>
   rw [ee] at e1
   simp only [ew] at e1
   simp [is_of_rows,hr,i0,i2,e1,is_nn,oW]
  | some p =>
   rw [ee] at e1
   obtain ⟨x,y⟩:=p
   simp only [ew] at e1
   simp [is_of_rows,hr,i0,i1,i2,i3,e1,is_tn,ix0,ix1,oW] <;> rfl
 | false =>
  obtain ⟨s1,e1,g1⟩:=moved_ends o (lo:=b) (hi:=d) (st:=st) (by omega) (by omega) (by omega) (by omega)
  refine ⟨s1,?_,g1⟩
  cases ee:s.ends b d with
  | none =>
   rw [ee] at e1
   simp only [ew] at e1
   simp [is_of_rows,hr,i1,i3,e1,is_nn,oW]
  | some p =>
   rw [ee] at e1
   obtain ⟨x,y⟩:=p
   simp only [ew] at e1
   simp [is_of_rows,hr,i0,i1,i2,i3,e1,is_tn,ix0,ix1,oW] <;> rfl
theorem with4 {s:Sh} {a b c d:Int} {l:List Int} (h:s.with a b c d = some l):∃ x y z t,l = [x,y,z,t]:=by
 unfold Sh.with at h
 cases hr:s.rows with
 | true =>
  rw [hr,if_pos rfl] at h
  cases e:s.ends a c with
  | none => rw [e] at h; cases h
  | some p => rw [e] at h; cases h; exact ⟨_,_,_,_,rfl⟩
 | false =>
  rw [hr,if_neg (by simp)] at h
  cases e:s.ends b d with
  | none => rw [e] at h; cases h
  | some p => rw [e] at h; cases h; exact ⟨_,_,_,_,rfl⟩
theorem moved_area {s:Sh} (o:s.Ok) {a b c d:Int} (h:ArOk a b c d) {st:Hs}:∃ st',F_moved_area [s.w,tI [a,b,c,d]] st = .ok (oW (s.area a b c d)) st' ∧ Gr st st':=by
 obtain ⟨s1,e1,g1⟩:=with_ends o h (st:=st)
 refine ⟨s1,?_,g1⟩
 unfold F_moved_area fnF g_moved_area Sh.area
 cases ee:s.with a b c d with
 | none =>
  rw [ee] at e1
  simp only [oW] at e1
  simp [e1,isn_nn,oW]
 | some l =>
  obtain ⟨x,y,z,t,rfl⟩:=with4 ee
  rw [ee] at e1
  have e2:oW (some [x,y,z,t]) = tI [x,y,z,t]:=rfl
  rw [e2] at e1
  have n1:∀ st:Hs,oIsNot (tI [x,y,z,t]) .non st = .ok (.bl true) st:=fun _ => rfl
  by_cases hA:ArOk x y z t
  ·have ia:=is_areaD (a:=x) (b:=y) (c:=z) (d:=t) (st:=s1)
   rw [decide_eq_true hA] at ia
   simp [e1,n1,ia,hA,e2]
  ·have ia:=is_areaD (a:=x) (b:=y) (c:=z) (d:=t) (st:=s1)
   rw [decide_eq_false hA] at ia
   simp [e1,n1,ia,hA,oW]
def Sh.place (s:Sh) (a b:Int):Option (List Int):=if s.rows = true then (s.line a).map fun r => [r,b] else (s.line b).map fun c => [a,c]
theorem moved_place {s:Sh} (o:s.Ok) {r c:Int} {st:Hs}:F_moved_place [s.w,tI [r,c]] st = .ok (oW (s.place r c)) st:=by
 have i0:∀ st:Hs,oIx (tI [r,c]) (.int 0) st = .ok (.int r) st:=fun _ => ix0
 have i1:∀ st:Hs,oIx (tI [r,c]) (.int 1) st = .ok (.int c) st:=fun _ => ix1
 unfold F_moved_place fnF g_moved_place Sh.place
 cases hr:s.rows with
 | true =>
  have m:=moved_line o (l:=r) (st:=st)
  cases e:s.line r with
  | none => rw [e] at m; simp only [ow] at m; simp [is_of_rows,hr,i0,i1,m,is_nn,oW]
  | some x => rw [e] at m; simp only [ow] at m; simp [is_of_rows,hr,i0,i1,m,is_in',oW] <;> rfl
 | false =>
  have m:=moved_line o (l:=c) (st:=st)
  cases e:s.line c with
  | none => rw [e] at m; simp only [ow] at m; simp [is_of_rows,hr,i0,i1,m,is_nn,oW]
  | some x => rw [e] at m; simp only [ow] at m; simp [is_of_rows,hr,i0,i1,m,is_in',oW] <;> rfl
def outS (s:Sh):Option (List Int) → Option (Option (List Int))
 | some l => some (some l)
 | none => if s.inn = true then none else some none
def gS (s:Sh):Gs:=fun x l => match l with
 | [a,b] => outS s (s.place a b)
 | [a,b,c,d] => if x = "find" ∧ s.rows = false ∧ (s.taken b = true ∨ s.taken d = true) then some none else outS s (s.area a b c d)
 | _ => some none
theorem loses {s:Sh} {a b c d:Int} {st:Hs}:F_loses_end_column [s.w,tI [a,b,c,d]] st = .ok (.bl (decide (s.rows = false ∧ (s.taken b = true ∨ s.taken d = true)))) st:=by
 have i1:∀ st:Hs,oIx (tI [a,b,c,d]) (.int 1) st = .ok (.int b) st:=fun _ => ix4.2.1
 have i3:∀ st:Hs,oIx (tI [a,b,c,d]) (.int 3) st = .ok (.int d) st:=fun _ => ix4.2.2.2
 unfold F_loses_end_column fnF g_loses_end_column
 cases hr:s.rows <;> cases hb:s.taken b <;> cases hd:s.taken d <;> simp [is_of_rows,hr,i1,i3,is_taken,hb,hd]
theorem af0:(("at":S) == ("find":S)) = false:=by decide +kernel
theorem lim1:1 ≤ lim:=by unfold lim; omega
theorem oN {st:Hs}:oIs (oW none) .non st = .ok (.bl true) st:=rfl
theorem oS {l:List Int} {st:Hs}:oIs (oW (some l)) .non st = .ok (.bl false) st:=rfl
theorem turned_spot {s:Sh} (o:s.Ok) {x:S} {l p:List Int} (h:Nm x l p) (st:Hs):∃ st',Gr st st' ∧ F_turned_spot [s.w,.str x,tI l] st = outR "NoRoom" st' ((gS s x l).map oW):=by
 rcases h with ⟨rfl,a,b,q,r,rfl,rfl,_⟩ | ⟨hx,a,b,c,d,q,r,u,t,rfl,rfl,hf,_⟩
 ·refine ⟨st,Gr.refl,?_⟩
  have mp:=moved_place o (r:=a) (c:=b) (st:=st)
  have e:gS s "at" [a,b] = outS s (s.place a b):=rfl
  rw [e]
  unfold F_turned_spot fnF g_turned_spot
  cases ho:s.place a b with
  | none =>
   rw [ho] at mp
   cases hi:s.inn <;> simp [af0,lim1,mp,oN,is_in,hi,outS,outR]
  | some l' =>
   rw [ho] at mp
   simp [af0,mp,oS,outS,outR]
 ·have bx:(x == ("at":S)) = false:=beq_false_of_ne fun z => by subst z; revert hx; decide +kernel
  obtain ⟨s1,ma,g1⟩:=moved_area o (a:=a) (b:=b) (c:=c) (d:=d) hf (st:=st)
  have ls:=loses (s:=s) (a:=a) (b:=b) (c:=c) (d:=d) (st:=st)
  have e:gS s x [a,b,c,d] = if x = "find" ∧ s.rows = false ∧ (s.taken b = true ∨ s.taken d = true) then some none else outS s (s.area a b c d):=rfl
  rw [e]
  by_cases cx:x = "find"
  ·subst cx
   by_cases cl:s.rows = false ∧ (s.taken b = true ∨ s.taken d = true)
   ·rw [if_pos ⟨rfl,cl⟩]
    rw [decide_eq_true cl] at ls
    refine ⟨st,Gr.refl,?_⟩
    unfold F_turned_spot fnF g_turned_spot
    simp [ls,outR,oW]
   ·rw [if_neg (fun z => cl z.2)]
    rw [decide_eq_false cl] at ls
    refine ⟨s1,g1,?_⟩
    unfold F_turned_spot fnF g_turned_spot
    cases ho:s.area a b c d with
    | none =>
     rw [ho] at ma
     cases hi:s.inn <;> simp [lim1,ls,ma,bx,oN,is_in,hi,outS,outR]
    | some l' =>
     rw [ho] at ma
     simp [ls,ma,bx,oS,outS,outR]
  ·rw [if_neg (fun z => cx z.1)]
   have bf:(x == ("find":S)) = false:=beq_false_of_ne cx
   refine ⟨s1,g1,?_⟩
   unfold F_turned_spot fnF g_turned_spot
   cases ho:s.area a b c d with
   | none =>
    rw [ho] at ma
    cases hi:s.inn <;> simp [lim1,bf,ma,bx,oN,is_in,hi,outS,outR]
   | some l' =>
    rw [ho] at ma
    simp [bf,ma,bx,oS,outS,outR]
theorem turned {s:Sh} (o:s.Ok) {f:Fm} (h:f.ok) (hd:f.dp ≤ 8) (st:Hs):∃ st',Gr st st' ∧ F_turned [s.w,f.w] st = outR "NoRoom" st' ((f.tr (gS s)).map Fm.w):=by
 have hL:∀ x l p,Nm x l p → ∀ st,∃ st',Gr st st' ∧ lamF g_turned_M1 [s.w] [.str x,tI l,tI p] st = outR "NoRoom" st' ((gS s x l).map oW):=fun x l p hn st => by
  obtain ⟨s1,k1,e1⟩:=turned_spot o hn st
  refine ⟨s1,k1,?_⟩
  unfold lamF g_turned_M1
  simp [e1]
 obtain ⟨s1,k1,e1⟩:=rebuilt hL f 8 h hd st
 refine ⟨s1,k1,?_⟩
 have gl:=glam (FL:=F_rebuilt) (i:=0) (g:=gVar 1) (gb:=g_turned_M1) (ρ:=[some s.w,some f.w]) (st:=st) rfl rfl e1
 unfold F_turned fnF g_turned
 cases e:f.tr (gS s) with
 | none => rw [e] at gl; simp only [Option.map_none,outR] at gl ⊢; simp [gl]
 | some f' => rw [e] at gl; simp only [Option.map_some,outR] at gl ⊢; simp [gl]
theorem Pot.set {l k:Nat} {st:Hs} {o:Ob} (h:Pot l st) (n:k ≠ l):Pot l (st.set k o):=by
 obtain ⟨x,y,e,q⟩:=h.p
 exact ⟨x,y,by rw [List.getElem?_set_ne n]; exact e,q⟩
theorem Pot.lt {l:Nat} {st:Hs} (h:Pot l st):l < st.length:=by
 obtain ⟨x,y,e,q⟩:=h.p
 exact get_lt e
theorem pick {l:Nat} {st:Hs} {ws:List Wv} {m:Int} (h:Pot l st) (hw:(ws.length:Int) = m) (h0:1 ≤ m) (h1:m ≤ 1000) :
  ∃ d v st',F__law_take [.ref l,.int m] (st ++ [.lst ws]) = .ok (.int d) st' ∧ oIx (.ref st.length) (.int d) st' = .ok v st' ∧ v ∈ ws ∧ Pot l st' ∧ Keep l st st':=by
 have hr:=h.lt
 obtain ⟨d,s2,e2,d0,d1,p2,k2⟩:=take (h.gr (Gr.push (o:=.lst ws))) h0 h1
 obtain ⟨v,e3,e4⟩:=atI_some (ws:=ws) (d:=d) d0 (by omega)
 exact ⟨d,v,s2,e2,ix_l (k2.lst lstOf_new (by omega)) e3,e4,p2,Keep.push.trans k2⟩
theorem area {l:Nat} {st:Hs} (hp:Pot l st):∃ a b c d st',F__law_area [.ref l] st = .ok (tI [a,b,c,d]) st' ∧ ArOk a b c d ∧ Pot l st' ∧ Keep l st st':=by
 obtain ⟨r,c,s1,e1,hr,hc,P1,K1⟩:=place hp
 obtain ⟨v,s2,e2,_,_,P2,K2⟩:=take P1 (m:=8) (by omega) (by omega)
 have sT:∀ ρ3:Option Wv,gSetT [1,2] (gCall 1 F__law_place (gCons (gVar 0) gNil)) [some (.ref l),none,none,ρ3] st = .nx [some (.ref l),some (.int r),some (.int c),ρ3] s1:=by
  intro ρ3
  have:gCall 1 F__law_place (gCons (gVar 0) gNil) [some (.ref l),none,none,ρ3] st = .ok (.tup [.int r,.int c]) s1:=by simp [e1]
  unfold gSetT
  rw [this]
  rfl
 by_cases hv:v = 7
 ·subst hv
  obtain ⟨h,s3,e3,h0,h1,P3,K3⟩:=take P2 (m:=99 - r) (by omega) (by omega)
  have hq:1 ≤ (300:Int).fdiv (1 + h):=by
   rw [Int.fdiv_eq_ediv_of_nonneg _ (by omega)]
   exact (Int.le_ediv_iff_mul_le (by omega)).mpr (by omega)
  have hq2:(300:Int).fdiv (1 + h) * (1 + h) ≤ 300:=by
   rw [Int.fdiv_eq_ediv_of_nonneg _ (by omega)]
   exact Int.ediv_mul_le _ (by omega)
  obtain ⟨w,hw⟩:∃ w,(300:Int).fdiv (1 + h) = w:=⟨_,rfl⟩
  rw [hw] at hq hq2
  have fd:=fdiv_i (st:=s3) (i:=300) (j:=1 + h) ⟨by omega,log_s (by omega) (by omega)⟩
  rw [hw] at fd
  obtain ⟨M,hM⟩:∃ M,(if w < 26 - c then w else 26 - c) = M:=⟨_,rfl⟩
  have hM':1 ≤ M ∧ M ≤ w ∧ M ≤ 26 - c:=by rw [← hM]; split <;> omega
  obtain ⟨k,s4,e4,k0,k1,P4,K4⟩:=take P3 (m:=M) (by omega) (by omega)
  refine ⟨r,c,r + (1 + h) - 1,c + k,s4,?_,⟨hr.1,by omega,by omega,hc.1,by omega,by omega,?_⟩,P4,K1.trans (K2.trans (K3.trans K4))⟩
  ·unfold F__law_area fnF g__law_area
   simp [sT,e2,e3,fd,hM,e4] <;> rfl
  ·have:(r + (1 + h) - 1 - r + 1) * (c + k - c + 1) ≤ (1 + h) * w:=Int.mul_le_mul (by omega) (by omega) (by omega) (by omega)
   have z:(1 + h) * w = w * (1 + h):=Int.mul_comm _ _
   omega
 ·obtain ⟨h,s3,e3,h0,h1,P3,K3⟩:=take P2 (m:=6) (by omega) (by omega)
  obtain ⟨k,s4,e4,k0,k1,P4,K4⟩:=take P3 (m:=4) (by omega) (by omega)
  refine ⟨r,c,if r + h < 98 then r + h else 98,if c + k < 25 then c + k else 25,s4,?_,?_,P4,K1.trans (K2.trans (K3.trans K4))⟩
  ·unfold F__law_area fnF g__law_area
   simp [sT,e2,beq_eq_false_iff_ne.mpr hv,e3,e4] <;> rfl
  ·have q:r ≤ (if r + h < 98 then r + h else 98) ∧ (if r + h < 98 then r + h else 98) < 99 ∧ (if r + h < 98 then r + h else 98) ≤ r + 5:=by split <;> omega
   have q2:c ≤ (if c + k < 25 then c + k else 25) ∧ (if c + k < 25 then c + k else 25) < 26 ∧ (if c + k < 25 then c + k else 25) ≤ c + 3:=by split <;> omega
   generalize (if r + h < 98 then r + h else 98) = x at q
   generalize (if c + k < 25 then c + k else 25) = y at q2
   have:(x - r + 1) * (y - c + 1) ≤ 6 * 4:=Int.mul_le_mul (by omega) (by omega) (by omega) (by omega)
   exact ⟨hr.1,by omega,by omega,hc.1,by omega,by omega,by omega⟩
theorem pins {l:Nat} {st:Hs} (h:Pot l st) {n:Nat} (hn:n ≤ 4):∃ p st',F__law_pins [.ref l,.int n] st = .ok (tI p) st' ∧ p.length = n ∧ (∀ q ∈ p,P01 q) ∧ Pot l st' ∧ Keep l st st':=by
 have hr:=h.lt
 have cn:CRng (n:Int):=crng (by omega) (by omega)
 obtain ⟨st',acc,e,⟨p1,p2⟩,hg,ha,hl⟩:=compG_inv (w:=(none,rngW 0 n)) (gt:=fun v => g__law_pins_C1t (some v :: capR [("pot",0)] [some (.ref l),some (.int (n:Int))])) (ge:=fun v => g__law_pins_C1e (some v :: capR [("pot",0)] [some (.ref l),some (.int (n:Int))])) (rr:=st.length)
  (fun s => Keep l st s ∧ Pot l s) (fun u => ∃ q:Int,u = .int q ∧ P01 q)
  (fun s acc ⟨k,ro⟩ => ⟨⟨by simpa using k.1,fun j hj hne => by rw [List.getElem?_set_ne (by omega)]; exact k.2 j hj hne⟩,ro.set (by omega)⟩) (fun _ _ => trivial) (rngW 0 n)
  (fun v hv s acc ⟨k,ro⟩ hg => by
   obtain ⟨q,s2,e2,q0,q1,ro2,k2⟩:=take (m:=2) ro (by decide) (by decide)
   refine ⟨s,rfl,⟨k,ro⟩,hg,.int q,s2,?_,⟨q,rfl,by unfold P01; omega⟩,⟨k.trans k2,ro2⟩,?_⟩
   ·unfold g__law_pins_C1e
    simp [capR,e2]
   ·rw [k2.2 _ (get_lt hg) (by omega)]; exact hg)
  [] (st ++ [.lst []]) ⟨Keep.push,h.gr Gr.push⟩ new_get (by rw [rngW_len]; simp [lim]; omega) (by simp)
 obtain ⟨p,hp⟩:∃ p:List Int,acc = p.map Wv.int ∧ ∀ q ∈ p,P01 q:=by
  clear e hg hl
  induction acc with
  | nil => exact ⟨[],rfl,by simp⟩
  | cons a t ih =>
   obtain ⟨p,e1,e2⟩:=ih fun u hu => ha u (List.mem_cons_of_mem _ hu)
   obtain ⟨q,e3,e4⟩:=ha a List.mem_cons_self
   exact ⟨q :: p,by rw [e1,e3]; rfl,by simpa using ⟨e4,e2⟩⟩
 obtain ⟨rfl,hp⟩:=hp
 refine ⟨p,st',?_,by simpa [rngW_len] using hl,hp,p2,p1⟩
 have run:compRun [("pot",0)] g__law_pins_C1t g__law_pins_C1e [some (.ref l),some (.int (n:Int))] (none,rngW 0 n) st = .ok (.ref st.length) st':=by
  unfold compRun
  rw [e]
 have tc:oTupC [.ref st.length] st' = .ok (.tup (p.map Wv.int)) st':=tupC hg
 unfold F__law_pins fnF g__law_pins
 have r1:rng1W [.int (n:Int)] st = .ok (none,rngW 0 n) st:=by rw [rng1_i cn]; simp
 simp [r1,run,tc,tI]
theorem pins2 {l:Nat} {st:Hs} (h:Pot l st):∃ q s st',F__law_pins [.ref l,.int 2] st = .ok (tI [q,s]) st' ∧ P01 q ∧ P01 s ∧ Pot l st' ∧ Keep l st st':=by
 obtain ⟨p,st',e,hl,hp,d⟩:=pins h (n:=2) (by decide)
 match p,hl with
 | [q,s],_ => exact ⟨q,s,st',e,hp q (by simp),hp s (by simp),d⟩
theorem pins4 {l:Nat} {st:Hs} (h:Pot l st):∃ q s t u st',F__law_pins [.ref l,.int 4] st = .ok (tI [q,s,t,u]) st' ∧ P01 q ∧ P01 s ∧ P01 t ∧ P01 u ∧ Pot l st' ∧ Keep l st st':=by
 obtain ⟨p,st',e,hl,hp,d⟩:=pins h (n:=4) (by decide)
 match p,hl with
 | [q,s,t,u],_ => exact ⟨q,s,t,u,st',e,hp q (by simp),hp s (by simp),hp t (by simp),hp u (by simp),d⟩
def FOk (k:Nat) (f:Fm):Prop:=f.ok ∧ f.dp ≤ k
theorem le60 {i:Int} (h:i < 1000):i ≤ P60:=by
 have:(1000:Int) ≤ P60:=by decide +kernel
 omega
theorem tx3:∀ x ∈ (["","a1","lost"]:List S),TxOk x:=by unfold TxOk Sg; decide +kernel
theorem kidsF {l n k:Nat} (hk:1 ≤ k) (ih:∀ st,Pot l st → ∃ f st',R__law_formula n [.ref l,.int ((k:Int) - 1)] st = .ok (Fm.w f) st' ∧ FOk k f ∧ Pot l st' ∧ Keep l st st') {m:Nat} (hm:m ≤ 3) {st:Hs} (h:Pot l st) {o2 o3 o4:Option Wv} :
  ∃ (fs:List Fm) (st':Hs),compRun [("pot",0),("deep",1)] (g__law_formula_C1t (R__law_formula n)) (g__law_formula_C1e (R__law_formula n)) [some (.ref l),some (.int (k:Int)),o2,o3,o4] (none,rngW 0 m) st = .ok (.ref st.length) st' ∧ st'[st.length]? = some (.lst (fs.map Fm.w)) ∧ fs.length = m ∧ (∀ f ∈ fs,FOk k f) ∧ Pot l st' ∧ Keep l st st':=by
 have hr:=h.lt
 obtain ⟨st',acc,e,⟨p1,p2⟩,hg,ha,hl⟩:=compG_inv (w:=(none,rngW 0 m)) (gt:=fun v => g__law_formula_C1t (R__law_formula n) (some v :: [some (.ref l),some (.int (k:Int))])) (ge:=fun v => g__law_formula_C1e (R__law_formula n) (some v :: [some (.ref l),some (.int (k:Int))])) (rr:=st.length)
  (fun s => Keep l st s ∧ Pot l s) (fun u => ∃ f:Fm,u = f.w ∧ FOk k f)
  (fun s acc ⟨k,ro⟩ => ⟨⟨by simpa using k.1,fun j hj hne => by rw [List.getElem?_set_ne (by omega)]; exact k.2 j hj hne⟩,ro.set (by omega)⟩) (fun _ _ => trivial) (rngW 0 m)
  (fun v hv s acc ⟨k,ro⟩ hg => by
   obtain ⟨f,s2,e2,q,ro2,k2⟩:=ih s ro
   refine ⟨s,rfl,⟨k,ro⟩,hg,f.w,s2,?_,⟨f,rfl,q⟩,⟨k.trans k2,ro2⟩,?_⟩
   ·unfold g__law_formula_C1e
    simp [e2]
   ·rw [k2.2 _ (get_lt hg) (by omega)]; exact hg)
  [] (st ++ [.lst []]) ⟨Keep.push,h.gr Gr.push⟩ new_get (by rw [rngW_len]; simp [lim]; omega) (by simp)
 obtain ⟨fs,hp⟩:∃ fs:List Fm,acc = fs.map Fm.w ∧ ∀ f ∈ fs,FOk k f:=by
  clear e hg hl
  induction acc with
  | nil => exact ⟨[],rfl,by simp⟩
  | cons a t ih =>
   obtain ⟨p,e1,e2⟩:=ih fun u hu => ha u (List.mem_cons_of_mem _ hu)
   obtain ⟨q,e3,e4⟩:=ha a List.mem_cons_self
   exact ⟨q :: p,by rw [e1,e3]; rfl,by simpa using ⟨e4,e2⟩⟩
 obtain ⟨rfl,hp⟩:=hp
 refine ⟨fs,st',?_,hg,by simpa [rngW_len] using hl,hp,p2,p1⟩
 unfold compRun
 have ec:capR [("pot",0),("deep",1)] [some (.ref l),some (.int (k:Int)),o2,o3,o4] = [some (.ref l),some (.int (k:Int))]:=rfl
 rw [ec]
 simp only [e]
theorem many_word {w:Int} (h0:8 ≤ w) (h1:w < 15):∃ (m:Nat) (x:S),L2.atI [Wv.int 1,.int 2,.int 3,.int 2,.int 2,.int 2,.int 2] (w - 8) = some (.int m) ∧ L2.atI [Wv.str "minus",.str "else",.str "if",.str "rest",.str "+",.str "<",.str "&"] (w - 8) = some (.str x) ∧ ((w = 8 ∧ m = 1 ∧ x = "minus") ∨ (w ≠ 8 ∧ m = 2 ∧ x ∈ W2) ∨ (w ≠ 8 ∧ m = 3 ∧ x = "if")):=by
 rcases (by omega:w = 8 ∨ w = 9 ∨ w = 10 ∨ w = 11 ∨ w = 12 ∨ w = 13 ∨ w = 14) with rfl | rfl | rfl | rfl | rfl | rfl | rfl
 ·exact ⟨1,"minus",rfl,rfl,.inl ⟨rfl,rfl,rfl⟩⟩
 ·exact ⟨2,"else",rfl,rfl,.inr (.inl ⟨by decide,rfl,by decide +kernel⟩)⟩
 ·exact ⟨3,"if",rfl,rfl,.inr (.inr ⟨by decide,rfl,rfl⟩)⟩
 ·exact ⟨2,"rest",rfl,rfl,.inr (.inl ⟨by decide,rfl,by decide +kernel⟩)⟩
 ·exact ⟨2,"+",rfl,rfl,.inr (.inl ⟨by decide,rfl,by decide +kernel⟩)⟩
 ·exact ⟨2,"<",rfl,rfl,.inr (.inl ⟨by decide,rfl,by decide +kernel⟩)⟩
 ·exact ⟨2,"&",rfl,rfl,.inr (.inl ⟨by decide,rfl,by decide +kernel⟩)⟩
theorem lst7 {x0 x1 x2 x3 x4 x5 x6:Wv} {s:Hs}:kLst [x0,x1,x2,x3,x4,x5,x6] s = .ok (.ref s.length) (s ++ [.lst [x0,x1,x2,x3,x4,x5,x6]]):=kLst_d (by simp [lim])
theorem word_kids {l n k:Nat} (hk:1 ≤ k) (ih:∀ st,Pot l st → ∃ f st',R__law_formula n [.ref l,.int ((k:Int) - 1)] st = .ok (Fm.w f) st' ∧ FOk k f ∧ Pot l st' ∧ Keep l st st') {m:Nat} {x:S} {w:Int} (hm:(m = 1 ∧ x ∈ W1) ∨ (m = 2 ∧ x ∈ W2) ∨ (m = 3 ∧ x = "if")) {st:Hs} (h:Pot l st) :
  ∃ f st',gRet (gBin oAdd (gTup (gCons (gVar 3) gNil)) (gCallB oTupC (gCons (gComp [("pot",0),("deep",1)] (giR1 (gCons (gVar 4) gNil)) (g__law_formula_C1t (R__law_formula n)) (g__law_formula_C1e (R__law_formula n))) gNil))) [some (.ref l),some (.int (k:Int)),some (.int w),some (.str x),some (.int (m:Int))] st = .rt (Fm.w f) st' ∧ FOk (k + 1) f ∧ Pot l st' ∧ Keep l st st':=by
 have hm3:m ≤ 3:=by omega
 obtain ⟨fs,s1,e1,g1,hl,hf,P1,K1⟩:=kidsF hk ih hm3 h (o2:=some (.int w)) (o3:=some (.str x)) (o4:=some (.int (m:Int)))
 have cn:CRng (m:Int):=crng (by omega) (by omega)
 have r1:rng1W [.int (m:Int)] st = .ok (none,rngW 0 m) st:=by rw [rng1_i cn]; simp
 have tc:=tupC g1
 have c1:=cat (x:=.str x) (xs:=[]) (ys:=fs.map Fm.w) (st:=s1) (by simp; omega)
 have run:gRet (gBin oAdd (gTup (gCons (gVar 3) gNil)) (gCallB oTupC (gCons (gComp [("pot",0),("deep",1)] (giR1 (gCons (gVar 4) gNil)) (g__law_formula_C1t (R__law_formula n)) (g__law_formula_C1e (R__law_formula n))) gNil))) [some (.ref l),some (.int (k:Int)),some (.int w),some (.str x),some (.int (m:Int))] st = .rt (.tup (.str x :: fs.map Fm.w)) s1:=by
  simp [r1,e1,tc,c1]
 rcases hm with ⟨rfl,hx⟩ | ⟨rfl,hx⟩ | ⟨rfl,rfl⟩
 ·match fs,hl with
  | [a],_ =>
   have qa:=hf a (by simp)
   exact ⟨.o1 x a,s1,run,⟨⟨hx,qa.1⟩,by simp only [Fm.dp]; have:=qa.2; omega⟩,P1,K1⟩
 ·match fs,hl with
  | [a,b],_ =>
   have qa:=hf a (by simp)
   have qb:=hf b (by simp)
   exact ⟨.o2 x a b,s1,run,⟨⟨hx,qa.1,qb.1⟩,by simp only [Fm.dp]; have:=qa.2; have:=qb.2; omega⟩,P1,K1⟩
 ·match fs,hl with
  | [a,b,c],_ =>
   have qa:=hf a (by simp)
   have qb:=hf b (by simp)
   have qc:=hf c (by simp)
   exact ⟨.o3 a b c,s1,run,⟨⟨qa.1,qb.1,qc.1⟩,by simp only [Fm.dp]; have:=qa.2; have:=qb.2; have:=qc.2; omega⟩,P1,K1⟩
theorem formula {l:Nat}:∀ (n:Nat) {st:Hs} {k:Nat},Pot l st → k ≤ n → ∃ f st',R__law_formula (n + 1) [.ref l,.int k] st = .ok (Fm.w f) st' ∧ FOk (k + 1) f ∧ Pot l st' ∧ Keep l st st'
 | n,st,k,h,hk => by
  have p0:=h.gr (Gr.push (o:=.lst [.int 6,.int 15]))
  have hg:∃ (w:Int) (s1:Hs),gCall 2 F__law_take (gCons (gVar 0) (gCons (gBin oIx (gLst (gCons (gC (.int 6)) (gCons (gC (.int 15)) gNil))) (gCallB oInt2 (gCons (gBin oGt (gVar 1) (gC (.int 0))) gNil))) gNil)) [some (.ref l),some (.int (k:Int)),none,none,none] st = .ok (.int w) s1 ∧ 0 ≤ w ∧ w < 15 ∧ (6 ≤ w → 1 ≤ k) ∧ Pot l s1 ∧ Keep l st s1:=by
   by_cases c:0 < k
   ·obtain ⟨w,s1,e1,w0,w1,P1,K1⟩:=take p0 (m:=15) (by decide) (by decide)
    have ib:∀ s:Hs,oInt2 [.bl true] s = .ok (.int 1) s:=fun _ => rfl
    have ix:oIx (.ref st.length) (.int 1) (st ++ [.lst [.int 6,.int 15]]) = .ok (.int 15) (st ++ [.lst [.int 6,.int 15]]):=ix_l lstOf_new rfl
    have c':(0:Int) < k:=by omega
    exact ⟨w,s1,by simp [c',c,ib,ix,e1],w0,w1,fun _ => c,P1,Keep.push.trans K1⟩
   ·obtain ⟨w,s1,e1,w0,w1,P1,K1⟩:=take p0 (m:=6) (by decide) (by decide)
    have ib:∀ s:Hs,oInt2 [.bl false] s = .ok (.int 0) s:=fun _ => rfl
    have ix:oIx (.ref st.length) (.int 0) (st ++ [.lst [.int 6,.int 15]]) = .ok (.int 6) (st ++ [.lst [.int 6,.int 15]]):=ix_l lstOf_new rfl
    have c':k = 0:=by omega
    subst c'
    exact ⟨w,s1,by simp [ib,ix,e1],w0,by omega,fun _ => by omega,P1,Keep.push.trans K1⟩
  obtain ⟨w,s1,e1,w0,w1,wk,P1,K1⟩:=hg
  rw [R__law_formula_succ]
  unfold fnF g__law_formula
  simp only [List.map_cons,List.map_nil,List.length_cons,List.length_nil,List.cons_append,List.nil_append,List.replicate]
  have hd:∀ g:GS,gSeq (gSet 2 (gCall 2 F__law_take (gCons (gVar 0) (gCons (gBin oIx (gLst (gCons (gC (.int 6)) (gCons (gC (.int 15)) gNil))) (gCallB oInt2 (gCons (gBin oGt (gVar 1) (gC (.int 0))) gNil))) gNil)))) g [some (.ref l),some (.int (k:Int)),none,none,none] st = g [some (.ref l),some (.int (k:Int)),some (.int w),none,none] s1:=fun g => by
   rw [e_seq,e_set,e1]
   rfl
  rw [hd]
  by_cases c0:w = 0
  ·subst c0
   obtain ⟨i,s2,e2,i0,i1,P2,K2⟩:=take P1 (m:=1000) (by decide) (by decide)
   exact ⟨.lit "num" [.int i],s2,by simp [e2,Fm.w,Fm.v],⟨.inl ⟨rfl,i,rfl,i0,le60 i1⟩,by simp [Fm.dp]⟩,P2,K1.trans K2⟩
  have b0:(w == 0) = false:=beq_false_of_ne c0
  by_cases c1:w = 1
  ·subst c1
   obtain ⟨d,v,s2,e2,e3,hv,P2,K2⟩:=pick (m:=3) (ws:=[.str "",.str "a1",.str "lost"]) P1 rfl (by decide) (by decide)
   obtain ⟨i,rfl,hi⟩:∃ i:S,v = .str i ∧ TxOk i:=by simp at hv; rcases hv with rfl | rfl | rfl <;> exact ⟨_,rfl,tx3 _ (by decide +kernel)⟩
   exact ⟨.lit "text" [.str i],s2,by simp [e2,e3,Fm.w,Fm.v],⟨.inr (.inl ⟨rfl,i,rfl,hi⟩),by simp [Fm.dp]⟩,P2,K1.trans K2⟩
  have b1:(w == 1) = false:=beq_false_of_ne c1
  by_cases c2:w = 2
  ·subst c2
   exact ⟨.lit "lost" [],s1,by simp [Fm.w,Fm.v],⟨.inr (.inr ⟨rfl,rfl⟩),by simp [Fm.dp]⟩,P1,K1⟩
  have b2:(w == 2) = false:=beq_false_of_ne c2
  by_cases c3:w = 3 ∨ w = 4
  ·obtain ⟨a,b,s2,e2,ha,hb,P2,K2⟩:=place P1
   obtain ⟨q,s,s3,e3,q1,q2,P3,K3⟩:=pins2 P2
   have b3:((w == 3) = true) ∨ ((w == 3) = false ∧ (w == 4) = true):=by
    rcases c3 with rfl | rfl
    ·exact .inl rfl
    ·exact .inr ⟨rfl,rfl⟩
   refine ⟨.pt "at" [a,b] [q,s],s3,?_,⟨.inl ⟨rfl,a,b,q,s,rfl,rfl,⟨by omega,by omega,by omega,by omega⟩,q1,q2⟩,by simp [Fm.dp]⟩,P3,K1.trans (K2.trans K3)⟩
   rcases b3 with b3 | ⟨b3,b4⟩
   ·simp [b0,b1,b2,b3,e2,e3,Fm.w,Fm.v,tI]
   ·simp [b0,b1,b2,b3,b4,e2,e3,Fm.w,Fm.v,tI]
  have b3:(w == 3) = false:=beq_false_of_ne (by omega)
  have b4:(w == 4) = false:=beq_false_of_ne (by omega)
  by_cases c5:w = 5
  ·subst c5
   obtain ⟨d,v,s2,e2,e3,hv,P2,K2⟩:=pick (m:=4) (ws:=[.str "sum",.str "count",.str "least",.str "greatest"]) P1 rfl (by decide) (by decide)
   obtain ⟨x,rfl,hx⟩:∃ x:S,v = .str x ∧ x ∈ AW:=by simp at hv; rcases hv with rfl | rfl | rfl | rfl <;> exact ⟨_,rfl,by decide +kernel⟩
   obtain ⟨a,b,c,d',s3,e4,har,P3,K3⟩:=area P2
   obtain ⟨q,s,t,u,s4,e5,q1,q2,q3,q4,P4,K4⟩:=pins4 P3
   exact ⟨.pt x [a,b,c,d'] [q,s,t,u],s4,by simp [e2,e3,e4,e5,Fm.w,Fm.v],⟨.inr ⟨hx,a,b,c,d',q,s,t,u,rfl,rfl,har,q1,q2,q3,q4⟩,by simp [Fm.dp]⟩,P4,K1.trans (K2.trans (K3.trans K4))⟩
  have b5:(w == 5) = false:=beq_false_of_ne c5
  have hk1:1 ≤ k:=wk (by omega)
  obtain ⟨n',rfl⟩:∃ n',n = n' + 1:=⟨n - 1,by omega⟩
  have ek:((k:Int) - 1) = ((k - 1:Nat):Int):=by omega
  have ih:∀ st,Pot l st → ∃ f st',R__law_formula (n' + 1) [.ref l,.int ((k:Int) - 1)] st = .ok (Fm.w f) st' ∧ FOk k f ∧ Pot l st' ∧ Keep l st st':=fun st h => by
   rw [ek]
   have:=formula n' (k:=k - 1) h (by omega)
   rw [show k - 1 + 1 = k by omega] at this
   exact this
  by_cases c6:w = 6 ∨ w = 7
  ·obtain ⟨a,s2,e2,qa,P2,K2⟩:=ih s1 P1
   obtain ⟨a',b',c',d',s3,e4,har,P3,K3⟩:=area P2
   obtain ⟨q,s,t,u,s4,e5,q1,q2,q3,q4,P4,K4⟩:=pins4 P3
   have b6:((w == 6) = true) ∨ ((w == 6) = false ∧ (w == 7) = true):=by
    rcases c6 with rfl | rfl
    ·exact .inl rfl
    ·exact .inr ⟨rfl,rfl⟩
   refine ⟨.fd a [a',b',c',d'] [q,s,t,u],s4,?_,⟨⟨qa.1,a',b',c',d',q,s,t,u,rfl,rfl,har,q1,q2,q3,q4⟩,by simp only [Fm.dp]; have:=qa.2; omega⟩,P4,K1.trans (K2.trans (K3.trans K4))⟩
   rcases b6 with b6 | ⟨b6,b7⟩
   ·simp [b0,b1,b2,b3,b4,b5,b6,e2,e4,e5] <;> rfl
   ·simp [b0,b1,b2,b3,b4,b5,b6,b7,e2,e4,e5] <;> rfl
  have b6:(w == 6) = false:=beq_false_of_ne (by omega)
  have b7:(w == 7) = false:=beq_false_of_ne (by omega)
  obtain ⟨m,x,a1,a2,hmx⟩:=many_word (w:=w) (by omega) w1
  obtain ⟨s2,hs2⟩:∃ s2,s2 = s1 ++ [Ob.lst [.int 1,.int 2,.int 3,.int 2,.int 2,.int 2,.int 2]]:=⟨_,rfl⟩
  obtain ⟨s3,hs3⟩:∃ s3,s3 = s2 ++ [Ob.lst [.str "minus",.str "else",.str "if",.str "rest",.str "+",.str "<",.str "&"]]:=⟨_,rfl⟩
  have i1:oIx (.ref s1.length) (.int (w - 8)) s2 = .ok (.int (m:Int)) s2:=by rw [hs2]; exact ix_l lstOf_new a1
  have i2:oIx (.ref s2.length) (.int (w - 8)) s3 = .ok (.str x) s3:=by rw [hs3]; exact ix_l lstOf_new a2
  have g13:Gr s1 s3:=by rw [hs3,hs2]; exact Gr.push.trans Gr.push
  have l1:kLst [.int 1,.int 2,.int 3,.int 2,.int 2,.int 2,.int 2] s1 = .ok (.ref s1.length) s2:=by rw [hs2]; exact lst7
  have l2:kLst [.str "minus",.str "else",.str "if",.str "rest",.str "+",.str "<",.str "&"] s2 = .ok (.ref s2.length) s3:=by rw [hs3]; exact lst7
  clear hs2 hs3 a1 a2
  have P3:=P1.gr g13
  have K3:Keep l s1 s3:=g13.keep
  rcases hmx with ⟨rfl,rfl,rfl⟩ | hmx
  ·have i1':oIx (.ref s1.length) (.int 0) s2 = .ok (.int 1) s2:=i1
   have i2':oIx (.ref s2.length) (.int 0) s3 = .ok (.str "minus") s3:=i2
   obtain ⟨d,s4,e4,_,_,P4,K4⟩:=take P3 (m:=2) (by decide) (by decide)
   by_cases cd:d = 1
   ·subst cd
    obtain ⟨f,s5,e5,q,P5,K5⟩:=word_kids hk1 ih (m:=1) (x:="not") (w:=8) (.inl ⟨rfl,by decide +kernel⟩) P4
    refine ⟨f,s5,?_,q,P5,K1.trans (K3.trans (K4.trans K5))⟩
    rw [show (((1:Nat):Int)) = 1 from rfl] at e5
    simp [-e_ret,l1,l2,i1',i2',e4,e5]
   ·have bd:(d == 1) = false:=beq_false_of_ne cd
    obtain ⟨f,s5,e5,q,P5,K5⟩:=word_kids hk1 ih (m:=1) (x:="minus") (w:=8) (.inl ⟨rfl,by decide +kernel⟩) P4
    refine ⟨f,s5,?_,q,P5,K1.trans (K3.trans (K4.trans K5))⟩
    rw [show (((1:Nat):Int)) = 1 from rfl] at e5
    simp [-e_ret,l1,l2,i1',i2',e4,bd,e5]
  ·have c8:w ≠ 8:=hmx.elim (fun z => z.1) fun z => z.1
   have b8:(w == 8) = false:=beq_false_of_ne c8
   obtain ⟨f,s5,e5,q,P5,K5⟩:=word_kids hk1 ih (m:=m) (x:=x) (w:=w) (.inr (hmx.imp (fun z => z.2) fun z => z.2)) P3
   refine ⟨f,s5,?_,q,P5,K1.trans (K3.trans K5)⟩
   simp [-e_ret,b0,b1,b2,b3,b4,b5,b6,b7,b8,l1,l2,i1,i2,e5]
theorem line_b {s:Sh} (o:s.Ok) {l x:Int} (h0:0 ≤ l) (h1:l < s.most) (e:s.line l = some x):0 ≤ x ∧ x < s.most:=by
 have a0:=o.a0
 have m1:=o.m1
 cases hi:s.inn with
 | true =>
  rw [line_in hi] at e
  by_cases c:l < s.at'
  ·rw [if_pos c] at e; have:=Option.some.inj e; omega
  ·rw [if_neg c] at e
   by_cases d:l + s.many < s.most
   ·rw [if_pos d] at e; have:=Option.some.inj e; omega
   ·rw [if_neg d] at e; cases e
 | false =>
  rw [line_out hi] at e
  by_cases c:l < s.at'
  ·rw [if_pos c] at e; have:=Option.some.inj e; omega
  ·rw [if_neg c] at e
   by_cases d:l < s.at' + s.many
   ·rw [if_pos d] at e; cases e
   ·rw [if_neg d] at e; have:=Option.some.inj e; omega
theorem ends_b {s:Sh} (o:s.Ok) {lo hi e0 e1:Int} (h0:0 ≤ lo) (h1:hi < s.most) (he:s.ends lo hi = some (e0,e1)):0 ≤ e0 ∧ e0 ≤ e1 ∧ e1 < s.most:=by
 unfold Sh.ends at he
 cases el:s.left lo hi with
 | nil => rw [el] at he; cases he
 | cons h r =>
  rw [el] at he
  dsimp only at he
  have pw:(h :: r).Pairwise (· < ·):=by rw [← el]; exact left_lt
  obtain ⟨f1,f2⟩:=first_last pw
  have gl:=List.getLast_mem (l:=h :: r) (by simp)
  generalize (h :: r).getLast (by simp) = g at f2 gl he
  have hh:=left_mem.mp (by rw [el]; exact List.mem_cons_self:h ∈ s.left lo hi)
  have hg:=left_mem.mp (by rw [el]; exact gl:g ∈ s.left lo hi)
  have hgl:=f1 g gl
  cases e1':s.line h with
  | none => rw [e1'] at he; cases he
  | some a =>
   cases e2':s.line g with
   | none => rw [e1',e2'] at he; cases he
   | some b =>
    rw [e1',e2'] at he
    cases he
    have b1:=line_b o (by omega) (by omega) e1'
    have b2:=line_b o (by omega) (by omega) e2'
    refine ⟨b1.1,?_,b2.2⟩
    rcases Int.lt_or_eq_of_le hgl with z | z
    ·exact Int.le_of_lt (line_mono o z e1' e2')
    ·subst z; rw [e1'] at e2'; have:=Option.some.inj e2'; omega
theorem most_r {s:Sh} (h:s.rows = true):s.most = 99:=by unfold Sh.most; rw [h]; rfl
theorem most_c {s:Sh} (h:s.rows = false):s.most = 26:=by unfold Sh.most; rw [h]; rfl
theorem area_law {s:Sh} (o:s.Ok) {a b c d:Int} (h:ArOk a b c d) {st:Hs}:∃ st',F__law_area_moved [s.w,tI [a,b,c,d]] st = .ok (oW (s.area a b c d)) st' ∧ Gr st st':=by
 obtain ⟨q1,q2,q3,q4,q5,q6,_⟩:=h
 have i0:∀ st:Hs,oIx (tI [a,b,c,d]) (.int 0) st = .ok (.int a) st:=fun _ => ix4.1
 have i1:∀ st:Hs,oIx (tI [a,b,c,d]) (.int 1) st = .ok (.int b) st:=fun _ => ix4.2.1
 have i2:∀ st:Hs,oIx (tI [a,b,c,d]) (.int 2) st = .ok (.int c) st:=fun _ => ix4.2.2.1
 have i3:∀ st:Hs,oIx (tI [a,b,c,d]) (.int 3) st = .ok (.int d) st:=fun _ => ix4.2.2.2
 have sl4':=fun st:Hs => sl4 (s:=s) (st:=st)
 have e4':=fun st:Hs => e4 (s:=s) (st:=st)
 unfold F__law_area_moved fnF g__law_area_moved
 cases hr:s.rows with
 | true =>
  rw [hr] at e4'
  obtain ⟨s1,e1,g1⟩:=law_ends (s:=s) (lo:=a) (hi:=c) (st:=st) (by omega) (by omega) (by omega) (by omega)
  rw [← ends_same o (by omega)] at e1
  refine ⟨s1,?_,g1⟩
  cases ee:s.ends a c with
  | none =>
   have ea:s.area a b c d = none:=by unfold Sh.area Sh.with; rw [hr,if_pos rfl,ee]; rfl
   rw [ee] at e1
   simp only [ew] at e1
   simp [-eq_s,w0,sl4',e4',i0,i1,i2,i3,e1,is_nn,ea,oW]
  | some p =>
   obtain ⟨x,y⟩:=p
   have f:=ends_b o (by omega) (by rw [most_r hr]; omega) ee
   rw [most_r hr] at f
   rw [ee] at e1
   simp only [ew] at e1
   have m:=fun st:Hs => mul_l (st:=st) (i:=y - x + 1) (j:=d - b + 1) (by omega) (by omega)
   by_cases hp:(y - x + 1) * (d - b + 1) ≤ 300
   ·have hA:ArOk x b y d:=⟨f.1,f.2.1,f.2.2,q4,q5,q6,hp⟩
    have ea:s.area a b c d = some [x,b,y,d]:=by
     unfold Sh.area Sh.with
     rw [hr,if_pos rfl,ee]
     show (if decide (ArOk x b y d) = true then some [x,b,y,d] else none) = _
     rw [if_pos (decide_eq_true hA)]
    have hp':¬ 300 < (y - x + 1) * (d - b + 1):=by omega
    simp [-eq_s,w0,sl4',e4',i0,i1,i2,i3,e1,is_tn,ix0,ix1,m,hp',ea,oW] <;> rfl
   ·have hA:¬ ArOk x b y d:=fun z => hp z.2.2.2.2.2.2
    have ea:s.area a b c d = none:=by
     unfold Sh.area Sh.with
     rw [hr,if_pos rfl,ee]
     show (if decide (ArOk x b y d) = true then some [x,b,y,d] else none) = _
     rw [if_neg (by simpa using hA)]
    have hp':300 < (y - x + 1) * (d - b + 1):=by omega
    simp [-eq_s,w0,sl4',e4',i0,i1,i2,i3,e1,is_tn,ix0,ix1,m,hp',ea,oW]
 | false =>
  rw [hr] at e4'
  obtain ⟨s1,e1,g1⟩:=law_ends (s:=s) (lo:=b) (hi:=d) (st:=st) (by omega) (by omega) (by omega) (by omega)
  rw [← ends_same o (by omega)] at e1
  refine ⟨s1,?_,g1⟩
  cases ee:s.ends b d with
  | none =>
   have ea:s.area a b c d = none:=by unfold Sh.area Sh.with; rw [hr,if_neg (by simp),ee]; rfl
   rw [ee] at e1
   simp only [ew] at e1
   simp [-eq_s,w0,sl4',e4',i0,i1,i2,i3,e1,is_nn,is_tn,ea,oW]
  | some p =>
   obtain ⟨x,y⟩:=p
   have f:=ends_b o (by omega) (by rw [most_c hr]; omega) ee
   rw [most_c hr] at f
   rw [ee] at e1
   simp only [ew] at e1
   have m:=fun st:Hs => mul_l (st:=st) (i:=c - a + 1) (j:=y - x + 1) (by omega) (by omega)
   by_cases hp:(c - a + 1) * (y - x + 1) ≤ 300
   ·have hA:ArOk a x c y:=⟨q1,q2,q3,f.1,f.2.1,f.2.2,hp⟩
    have ea:s.area a b c d = some [a,x,c,y]:=by
     unfold Sh.area Sh.with
     rw [hr,if_neg (by simp),ee]
     show (if decide (ArOk a x c y) = true then some [a,x,c,y] else none) = _
     rw [if_pos (decide_eq_true hA)]
    have hp':¬ 300 < (c - a + 1) * (y - x + 1):=by omega
    simp [-eq_s,w0,sl4',e4',i0,i1,i2,i3,e1,is_tn,ix0,ix1,m,hp',ea,oW] <;> rfl
   ·have hA:¬ ArOk a x c y:=fun z => hp z.2.2.2.2.2.2
    have ea:s.area a b c d = none:=by
     unfold Sh.area Sh.with
     rw [hr,if_neg (by simp),ee]
     show (if decide (ArOk a x c y) = true then some [a,x,c,y] else none) = _
     rw [if_neg (by simpa using hA)]
    have hp':300 < (c - a + 1) * (y - x + 1):=by omega
    simp [-eq_s,w0,sl4',e4',i0,i1,i2,i3,e1,is_tn,ix0,ix1,m,hp',ea,oW]
theorem moved_law {s:Sh} {r c:Int} {st:Hs}:∃ st',F__law_moved [s.w,tI [r,c]] st = .ok (oW (s.place r c)) st' ∧ Gr st st':=by
 have sl4':=fun st:Hs => sl4 (s:=s) (st:=st)
 have e4':=fun st:Hs => e4 (s:=s) (st:=st)
 have sT:gSetT [2,3] (gVar 1) [some s.w,some (tI [r,c]),none,none] st = .nx [some s.w,some (tI [r,c]),some (.int r),some (.int c)] st:=rfl
 unfold F__law_moved fnF g__law_moved Sh.place
 cases hr:s.rows with
 | true =>
  rw [hr] at e4'
  obtain ⟨s1,e1,g1⟩:=law_line (s:=s) (l:=r) (st:=st)
  refine ⟨s1,?_,g1⟩
  cases e:s.line r with
  | none => rw [e] at e1; simp only [ow] at e1; simp [-eq_s,sT,w0,sl4',e4',e1,is_nn,oW]
  | some x => rw [e] at e1; simp only [ow] at e1; simp [-eq_s,sT,w0,sl4',e4',e1,is_in',oW] <;> rfl
 | false =>
  rw [hr] at e4'
  obtain ⟨s1,e1,g1⟩:=law_line (s:=s) (l:=c) (st:=st)
  refine ⟨s1,?_,g1⟩
  cases e:s.line c with
  | none => rw [e] at e1; simp only [ow] at e1; simp [-eq_s,sT,w0,sl4',e4',e1,is_nn,is_in',oW]
  | some x => rw [e] at e1; simp only [ow] at e1; simp [-eq_s,sT,w0,sl4',e4',e1,is_in',oW] <;> rfl
theorem way_out {s:Sh} {st:Hs}:oNe (.str s.way) (.str "columns out") st = .ok (.bl (s.rows || s.inn)) st:=by
 rw [ne_s]
 obtain ⟨r,i,a,m⟩:=s
 cases r <;> cases i <;> rfl
theorem is_ow {o:Option Int} {st:Hs}:oIs (ow o) .non st = .ok (.bl o.isNone) st:=by cases o <;> rfl
theorem side_lost {s:Sh} (o:s.Ok) {a b c d:Int} {st:Hs}:∃ st',F__law_side_lost [s.w,tI [a,b,c,d]] st = .ok (.bl (decide (s.rows = false ∧ (s.taken b = true ∨ s.taken d = true)))) st' ∧ Gr st st':=by
 have i1:∀ st:Hs,oIx (tI [a,b,c,d]) (.int 1) st = .ok (.int b) st:=fun _ => ix4.2.1
 have i3:∀ st:Hs,oIx (tI [a,b,c,d]) (.int 3) st = .ok (.int d) st:=fun _ => ix4.2.2.2
 have wo:=way_out (s:=s) (st:=st)
 unfold F__law_side_lost fnF g__law_side_lost
 cases hr:s.rows with
 | true =>
  rw [hr] at wo
  exact ⟨st,by simp [-ne_s,w0,wo],Gr.refl⟩
 | false =>
  cases hi:s.inn with
  | true =>
   rw [hr,hi] at wo
   exact ⟨st,by simp [-ne_s,w0,wo,taken_in hi],Gr.refl⟩
  | false =>
   rw [hr,hi] at wo
   obtain ⟨s1,e1,g1⟩:=law_line (s:=s) (l:=b) (st:=st)
   obtain ⟨s2,e2,g2⟩:=law_line (s:=s) (l:=d) (st:=s1)
   have t1:=taken_line o (l:=b) hi
   have t2:=taken_line o (l:=d) hi
   have n1:=is_ow (o:=s.line b) (st:=s1)
   have n2:=is_ow (o:=s.line d) (st:=s2)
   cases eb:s.line b with
   | none =>
    rw [eb] at n1
    have tb:=t1.mp eb
    refine ⟨s1,?_,g1⟩
    rw [eb] at e1
    simp at n1
    simp [-ne_s,w0,wo,i1,e1,n1,tb]
   | some x =>
    have tb:s.taken b = false:=by cases q:s.taken b with | false => rfl | true => rw [t1.mpr q] at eb; cases eb
    rw [eb] at n1 e1
    simp at n1
    refine ⟨s2,?_,g1.trans g2⟩
    cases ed:s.line d with
    | none =>
     have td:=t2.mp ed
     rw [ed] at n2 e2
     simp at n2
     simp [-ne_s,w0,wo,i1,i3,e1,n1,e2,n2,tb,td]
    | some y =>
     have td:s.taken d = false:=by cases q:s.taken d with | false => rfl | true => rw [t2.mpr q] at ed; cases ed
     rw [ed] at n2 e2
     simp at n2
     simp [-ne_s,w0,wo,i1,i3,e1,n1,e2,n2,tb,td]
def oF:Option Fm → Wv
 | some f => f.w
 | none => .non
def gn (s:Sh):Option Fm:=if s.inn = true then none else some (.lit "lost" [])
theorem gone {s:Sh} {st:Hs}:∃ st',F__law_gone [s.w] st = .ok (oF (gn s)) st' ∧ Gr st st':=by
 refine ⟨st ++ [.lst [.tup [.str "lost"],.non]],?_,Gr.push⟩
 have ti:=two_ix (x:=.tup [.str "lost"]) (y:=.non) (b:=s.inn) (st:=st)
 have sl2':=fun st:Hs => sl2 (s:=s) (st:=st)
 have e2':=fun st:Hs => e2 (s:=s) (st:=st)
 have hm:(if s.inn = true then Wv.non else .tup [.str "lost"]) = oF (gn s):=by unfold gn; cases s.inn <;> rfl
 rw [hm] at ti
 unfold F__law_gone fnF g__law_gone
 simp [-ite_eq_left_iff,-eq_s,w0,sl2',e2',int_b,ti]
def LW:List S:=["num","text","lost"]
theorem in_l {x:S} {ys:List S} {l:Nat} {st:Hs} (h:lstOf st l = some (ys.map Wv.str)):oIn2 (.str x) (.ref l) st = .ok (.bl (decide (x ∈ ys))) st:=by
 have fl:(ys.map Wv.str).all flatW = true:=by
  rw [List.all_eq_true]
  intro v hv
  obtain ⟨y,_,rfl⟩:=List.mem_map.mp hv
  rfl
 show oIn (.str x) (.ref l) st = _
 unfold oIn seqOf
 simp only [h]
 rw [if_pos ⟨rfl,fl⟩]
 congr 2
 rw [Bool.eq_iff_iff,List.any_eq_true,decide_eq_true_eq]
 constructor
 ·rintro ⟨v,hv,e⟩
  obtain ⟨y,hy,rfl⟩:=List.mem_map.mp hv
  have e':(y == x) = true:=e
  rw [← eq_of_beq e']
  exact hy
 ·intro hx
  exact ⟨.str x,List.mem_map.mpr ⟨x,hx,rfl⟩,(show (x == x) = true by simp)⟩
theorem inLW {x:S} {st:Hs}:oIn2 (.str x) (.ref st.length) (st ++ [.lst [.str "num",.str "text",.str "lost"]]) = .ok (.bl (decide (x ∈ LW))) (st ++ [.lst [.str "num",.str "text",.str "lost"]]):=in_l (ys:=LW) lstOf_new
theorem inAW {x:S} {st:Hs}:oIn2 (.str x) (.ref st.length) (st ++ [.lst [.str "sum",.str "count",.str "least",.str "greatest"]]) = .ok (.bl (decide (x ∈ AW))) (st ++ [.lst [.str "sum",.str "count",.str "least",.str "greatest"]]):=in_l (ys:=AW) lstOf_new
theorem lists {x:S} (st:Hs):∃ s0 s1:Hs,kLst [.str "num",.str "text",.str "lost"] st = .ok (.ref st.length) s0 ∧ oIn2 (.str x) (.ref st.length) s0 = .ok (.bl (decide (x ∈ LW))) s0 ∧ kLst [.str "sum",.str "count",.str "least",.str "greatest"] s0 = .ok (.ref s0.length) s1 ∧ oIn2 (.str x) (.ref s0.length) s1 = .ok (.bl (decide (x ∈ AW))) s1 ∧ Gr st s1 :=
 ⟨_,_,kLst_d (by simp [lim]),inLW,kLst_d (by simp [lim]),inAW,Gr.push.trans Gr.push⟩
theorem ix2 {x y z:Wv} {ws:List Wv} {st:Hs}:oIx (.tup (x :: y :: z :: ws)) (.int 2) st = .ok z st:=ix_t (L2.atI_nat (j:=2) rfl)
theorem ix3 {x y z u:Wv} {ws:List Wv} {st:Hs}:oIx (.tup (x :: y :: z :: u :: ws)) (.int 3) st = .ok u st:=ix_t (L2.atI_nat (j:=3) rfl)
theorem is_oW {o:Option (List Int)} {st:Hs}:oIs (oW o) .non st = .ok (.bl o.isNone) st:=by cases o <;> rfl
theorem is_oF {o:Option Fm} {st:Hs}:oIs (oF o) .non st = .ok (.bl o.isNone) st:=by cases o <;> rfl
section
variable {n:Nat} {s:Sh}
def Lt (n:Nat) (s:Sh) (f:Fm):Prop:=∀ st:Hs,∃ st',Gr st st' ∧ R__law_turned n [s.w,f.w] st = .ok (oF (f.tr (gS s))) st'
theorem lt_lit {x:S} {ws:List Wv} (hx:x ∈ LW) (st:Hs):∃ st',Gr st st' ∧ R__law_turned (n + 1) [s.w,.tup (.str x :: ws)] st = .ok (.tup (.str x :: ws)) st':=by
 refine ⟨st ++ [.lst [.str "num",.str "text",.str "lost"]],Gr.push,?_⟩
 rw [R__law_turned_succ]
 unfold fnF g__law_turned
 simp [ix0,inLW,hx]
theorem spot_F {x:S} {l p:List Int} {o:Option (List Int)} (h:gS s x l = outS s o):oF ((Fm.pt x l p).tr (gS s)) = if o.isNone = true then oF (gn s) else .tup [.str x,oW o,tI p]:=by
 simp only [Fm.tr,h]
 unfold outS gn
 cases o with
 | none => cases s.inn <;> rfl
 | some l' => rfl
theorem lt_at {a b:Int} {p:List Int} (st:Hs):∃ st',Gr st st' ∧ R__law_turned (n + 1) [s.w,(Fm.pt "at" [a,b] p).w] st = .ok (oF ((Fm.pt "at" [a,b] p).tr (gS s))) st':=by
 obtain ⟨s2,e2,g2⟩:=moved_law (s:=s) (r:=a) (c:=b) (st:=st ++ [.lst [.str "num",.str "text",.str "lost"]])
 obtain ⟨s3,e3,g3⟩:=gone (s:=s) (st:=s2)
 have ti:=two_ix (x:=.tup [.str "at",oW (s.place a b),tI p]) (y:=oF (gn s)) (b:=(s.place a b).isNone) (st:=s3)
 rw [spot_F (o:=s.place a b) rfl]
 refine ⟨s3 ++ [.lst [.tup [.str "at",oW (s.place a b),tI p],oF (gn s)]],Gr.push.trans (g2.trans (g3.trans Gr.push)),?_⟩
 have hx:(("at":S) ∈ LW) = False:=by simp only [eq_iff_iff,iff_false]; decide +kernel
 have hw:(Fm.pt "at" [a,b] p).w = .tup [.str "at",tI [a,b],tI p]:=rfl
 rw [hw,R__law_turned_succ]
 unfold fnF g__law_turned
 simp [-ite_eq_left_iff,-Option.isNone_iff_eq_none,ix0,ix1,ix2,inLW,hx,e2,e3,is_oW,int_b,ti]
theorem lt_ar (o:s.Ok) {x:S} {a b c d:Int} {p:List Int} (hx:x ∈ AW) (hA:ArOk a b c d) (st:Hs):∃ st',Gr st st' ∧ R__law_turned (n + 1) [s.w,(Fm.pt x [a,b,c,d] p).w] st = .ok (oF ((Fm.pt x [a,b,c,d] p).tr (gS s))) st':=by
 have all:∀ x ∈ AW,x ∉ LW ∧ x ≠ "at" ∧ x ≠ "find":=by decide +kernel
 obtain ⟨h1,h2,h3⟩:=all x hx
 have b2:(x == ("at":S)) = false:=beq_false_of_ne h2
 obtain ⟨t0,t1,l0,il,l1,ia,gt⟩:=lists (x:=x) st
 obtain ⟨s2,e2,g2⟩:=area_law (s:=s) o hA (st:=t1)
 obtain ⟨s3,e3,g3⟩:=gone (s:=s) (st:=s2)
 have ti:=two_ix (x:=.tup [.str x,oW (s.area a b c d),tI p]) (y:=oF (gn s)) (b:=(s.area a b c d).isNone) (st:=s3)
 have hg:gS s x [a,b,c,d] = outS s (s.area a b c d):=by
  show (if x = "find" ∧ s.rows = false ∧ (s.taken b = true ∨ s.taken d = true) then some none else outS s (s.area a b c d)) = _
  rw [if_neg (fun z => h3 z.1)]
 rw [spot_F (o:=s.area a b c d) hg]
 refine ⟨s3 ++ [.lst [.tup [.str x,oW (s.area a b c d),tI p],oF (gn s)]],gt.trans (g2.trans (g3.trans Gr.push)),?_⟩
 have hw:(Fm.pt x [a,b,c,d] p).w = .tup [.str x,tI [a,b,c,d],tI p]:=rfl
 rw [decide_eq_true hx] at ia
 rw [decide_eq_false h1] at il
 rw [hw,R__law_turned_succ]
 unfold fnF g__law_turned
 simp [-ite_eq_left_iff,-Option.isNone_iff_eq_none,-kLst_3,-kLst_4,l0,l1,ix0,ix1,ix2,il,ia,b2,e2,e3,is_oW,int_b,ti]
theorem lt_fd (o:s.Ok) {f:Fm} {a b c d:Int} {p:List Int} (hA:ArOk a b c d) (ih:Lt n s f) (st:Hs):∃ st',Gr st st' ∧ R__law_turned (n + 1) [s.w,(Fm.fd f [a,b,c,d] p).w] st = .ok (oF ((Fm.fd f [a,b,c,d] p).tr (gS s))) st':=by
 have h1:("find":S) ∉ LW:=by decide +kernel
 have h2:("find":S) ∉ AW:=by decide +kernel
 have b2:(("find":S) == ("at":S)) = false:=by decide +kernel
 obtain ⟨t0,t1,l0,il,l1,ia,gt⟩:=lists (x:="find") st
 obtain ⟨s2,e2,g2⟩:=area_law (s:=s) o hA (st:=t1)
 obtain ⟨s3,g3,e3⟩:=ih s2
 have k3:Gr st s3:=gt.trans (g2.trans g3)
 have hw:(Fm.fd f [a,b,c,d] p).w = .tup [.str "find",f.w,tI [a,b,c,d],tI p]:=rfl
 rw [decide_eq_false h2] at ia
 rw [decide_eq_false h1] at il
 have hgp:(s.rows = false ∧ (s.taken b = true ∨ s.taken d = true)) → gS s "find" [a,b,c,d] = some none:=fun z => if_pos ⟨rfl,z⟩
 have hgn:¬ (s.rows = false ∧ (s.taken b = true ∨ s.taken d = true)) → gS s "find" [a,b,c,d] = outS s (s.area a b c d):=fun z => if_neg fun y => z y.2
 have hin:(s.rows = false ∧ (s.taken b = true ∨ s.taken d = true)) → s.inn = false:=fun cl => by
  cases q:s.inn with
  | false => rfl
  | true => rw [taken_in q,taken_in q] at cl; simp at cl
 cases ea:s.area a b c d with
 | none =>
  rw [ea] at e2
  obtain ⟨s4,e4,g4⟩:=gone (s:=s) (st:=s3)
  have res:(Fm.fd f [a,b,c,d] p).tr (gS s) = gn s:=by
   simp only [Fm.tr]
   unfold gn
   by_cases cl:s.rows = false ∧ (s.taken b = true ∨ s.taken d = true)
   ·rw [hgp cl,hin cl]
    rfl
   ·rw [hgn cl,ea]
    unfold outS
    cases s.inn <;> rfl
  rw [res]
  refine ⟨s4,k3.trans g4,?_⟩
  have is:oIs (oW none) .non s3 = .ok (.bl true) s3:=rfl
  rw [hw,R__law_turned_succ]
  unfold fnF g__law_turned
  simp [-kLst_3,-kLst_4,l0,l1,ix0,ix1,ix2,ix3,il,ia,b2,e2,e3,is,e4]
 | some l' =>
  rw [ea] at e2
  obtain ⟨s4,e4,g4⟩:=side_lost (s:=s) o (a:=a) (b:=b) (c:=c) (d:=d) (st:=s3)
  have is:oIs (oW (some l')) .non s3 = .ok (.bl false) s3:=rfl
  by_cases cl:s.rows = false ∧ (s.taken b = true ∨ s.taken d = true)
  ·rw [decide_eq_true cl] at e4
   obtain ⟨s5,e5,g5⟩:=gone (s:=s) (st:=s4)
   have res:(Fm.fd f [a,b,c,d] p).tr (gS s) = gn s:=by
    simp only [Fm.tr]
    unfold gn
    rw [hgp cl,hin cl]
    rfl
   rw [res]
   refine ⟨s5,k3.trans (g4.trans g5),?_⟩
   rw [hw,R__law_turned_succ]
   unfold fnF g__law_turned
   simp [-kLst_3,-kLst_4,l0,l1,ix0,ix1,ix2,ix3,il,ia,b2,e2,e3,is,e4,e5]
  ·rw [decide_eq_false cl] at e4
   have ti:=two_ix (x:=.tup [.str "find",oF (f.tr (gS s)),oW (some l'),tI p]) (y:=.non) (b:=(f.tr (gS s)).isNone) (st:=s4)
   have res:oF ((Fm.fd f [a,b,c,d] p).tr (gS s)) = if (f.tr (gS s)).isNone = true then .non else .tup [.str "find",oF (f.tr (gS s)),oW (some l'),tI p]:=by
    simp only [Fm.tr]
    rw [hgn cl,ea]
    unfold outS
    cases f.tr (gS s) <;> rfl
   rw [res]
   refine ⟨s4 ++ [.lst [.tup [.str "find",oF (f.tr (gS s)),oW (some l'),tI p],.non]],k3.trans (g4.trans Gr.push),?_⟩
   rw [hw,R__law_turned_succ]
   unfold fnF g__law_turned
   simp [-ite_eq_left_iff,-Option.isNone_iff_eq_none,-kLst_3,-kLst_4,l0,l1,ix0,ix1,ix2,ix3,il,ia,b2,e2,e3,is,e4,is_oF,int_b,ti]
end
theorem allO_all {α β:Type} {h:α → β}:∀ ks:List α,allO (fun q => some (h q)) ks = some (ks.map h)
 | [] => rfl
 | a :: t => by rw [allO_so (r:=fun q => some (h q)) (a:=a) rfl,allO_all t]; rfl
section
variable {n:Nat} {s:Sh}
theorem kidsL {ks:List Fm} (h:∀ f ∈ ks,Lt n s f) (hl:ks.length ≤ 3) (st:Hs) {ρ:Rho} (hρ:ρ[0]? = some (some s.w)):∃ st',Gr st st' ∧ st'[st.length]? = some (.lst (ks.map fun f => oF (f.tr (gS s)))) ∧
  compRun [("shift",0)] (g__law_turned_C1t (R__law_turned n)) (g__law_turned_C1e (R__law_turned n)) ρ (none,ks.map Fm.w) st = .ok (.ref st.length) st':=by
 obtain ⟨st',g2,g1,_⟩:=compO (ι:=Unit) (ck:=ckOf (none,ks.map Fm.w)) (gt:=fun _ v => g__law_turned_C1t (R__law_turned n) (some v :: [some s.w])) (ge:=fun _ v => g__law_turned_C1e (R__law_turned n) (some v :: [some s.w])) (rr:=st.length) (c:="") Fm.w (fun f => some (oF (f.tr (gS s)))) (fun _ => trivial) (fun _ _ _ => rfl) ks
  (fun q hq s' => by
   obtain ⟨s2,k,e⟩:=h q hq s'
   refine ⟨s2,k,fun p => ?_⟩
   unfold g__law_turned_C1e
   simp [e,outR]) [] (st ++ [.lst []]) new_get (by simp [lim]; omega)
 obtain ⟨q1,q2⟩:=g1 _ (allO_all ks)
 refine ⟨st',g2 st (Nat.le_refl _) Gr.push,by simpa using q1,?_⟩
 have ec:capR [("shift",0)] ρ = [some s.w]:=by
  unfold capR
  simp [hρ]
 unfold compRun
 rw [ec]
 have:=q2 ()
 simp only [this]
theorem eqv_nt {ds:List PyData}:PyData.eqv (.tuple ds) .none = false:=by simp [PyData.eqv]
theorem dat_tup {f:Fm} {n:Nat} {st:Hs} {d:PyData} (h:datum st (n + 1) f.w = some d):∃ ds,d = .tuple ds:=by
 have h':(mapO (datum st n) (.str f.v.1 :: f.v.2)).map PyData.tuple = some d:=h
 cases e:mapO (datum st n) (.str f.v.1 :: f.v.2) with
 | none => rw [e] at h'; cases h'
 | some ds => rw [e] at h'; cases h'; exact ⟨ds,rfl⟩
theorem dat_o {st:Hs}:∀ us:List (Option Fm),(∀ f,some f ∈ us → f.ok ∧ f.dp ≤ 8) → ∃ ds,mapO (datum st 19) (us.map oF) = some ds ∧ (ds.any fun z => PyData.eqv z .none) = us.any Option.isNone
 | [],_ => ⟨[],rfl,rfl⟩
 | u :: r,h => by
  obtain ⟨ds,e1,e2⟩:=dat_o r fun f hf => h f (List.mem_cons_of_mem _ hf)
  cases u with
  | none =>
   refine ⟨.none :: ds,?_,?_⟩
   ·rw [List.map_cons]
    unfold mapO
    rw [e1]
    rfl
   ·rw [List.any_cons,List.any_cons,e2]
    have:PyData.eqv .none .none = true:=by simp [PyData.eqv]
    rw [this]
    rfl
  | some f =>
   obtain ⟨h1,h2⟩:=h f List.mem_cons_self
   obtain ⟨d,d1,_⟩:=dat f 18 h1 (by omega)
   obtain ⟨es,rfl⟩:=dat_tup (d1 st)
   refine ⟨.tuple es :: ds,?_,?_⟩
   ·rw [List.map_cons]
    unfold mapO
    rw [e1]
    have q:datum st 19 (oF (some f)) = some (.tuple es):=d1 st
    rw [q]
   ·rw [List.any_cons,List.any_cons,e2,eqv_nt]
    rfl
theorem inD_none {st:Hs} {k:Nat} {us:List (Option Fm)} (h:lstOf st k = some (us.map oF)) (hu:∀ f,some f ∈ us → f.ok ∧ f.dp ≤ 8):oInD false .non (.ref k) st = .ok (.bl (us.any Option.isNone)) st:=by
 obtain ⟨ds,e1,e2⟩:=dat_o (st:=st) us hu
 have d1:datum st 20 (.ref k) = some (.list ds):=by rw [dat_l (n:=19) h,e1]; rfl
 have d2:datum st 20 .non = some .none:=rfl
 unfold oInD
 rw [d1,d2]
 dsimp only
 rw [e2]
 simp
theorem lt_op {x:S} {ks:List Fm} (h1:x ∉ LW) (h2:x ≠ "at") (h3:x ∉ AW) (h4:x ≠ "find") (h:∀ f ∈ ks,Lt n s f) (hl:ks.length ≤ 3) (ho:∀ f ∈ ks,∀ f',f.tr (gS s) = some f' → f'.ok ∧ f'.dp ≤ 8)
  (hs:∀ st,oSl2 (.tup (.str x :: ks.map Fm.w)) (some 1) none st = .ok (.tup (ks.map Fm.w)) st) (st:Hs) :
  ∃ st',Gr st st' ∧ R__law_turned (n + 1) [s.w,.tup (.str x :: ks.map Fm.w)] st = .ok (if ((ks.map fun f => f.tr (gS s)).any Option.isNone) = true then .non else .tup (.str x :: (ks.map fun f => oF (f.tr (gS s))))) st':=by
 have b2:(x == ("at":S)) = false:=beq_false_of_ne h2
 have b4:(x == ("find":S)) = false:=beq_false_of_ne h4
 obtain ⟨t0,t1,l0,il,l1,ia,gt⟩:=lists (x:=x) st
 rw [decide_eq_false h1] at il
 rw [decide_eq_false h3] at ia
 obtain ⟨s2,g2,n2,e2⟩:=kidsL h hl t1 (ρ:=[some s.w,some (.tup (.str x :: ks.map Fm.w)),some (.str x),none,none,none,none]) rfl
 have c1:=cat (x:=.str x) (xs:=[]) (ys:=ks.map fun f => oF (f.tr (gS s))) (st:=s2) (by simp; omega)
 have tc:=tupC n2
 obtain ⟨R,hR⟩:∃ R:Wv,.tup (.str x :: ks.map fun f => oF (f.tr (gS s))) = R:=⟨_,rfl⟩
 have ti:=two_ix (x:=R) (y:=.non) (b:=(ks.map fun f => f.tr (gS s)).any Option.isNone) (st:=s2)
 have n3:lstOf (s2 ++ [.lst [R,.non]]) t1.length = some ((ks.map fun f => f.tr (gS s)).map oF):=Gr.push.lst (lst_get (by rw [List.map_map]; exact n2))
 have nd:=inD_none n3 (fun f' hf => by
  obtain ⟨f,hf1,hf2⟩:=List.mem_map.mp hf
  exact ho f hf1 f' hf2)
 rw [hR]
 have c1':oAdd (.tup [.str x]) (.tup (ks.map fun f => oF (f.tr (gS s)))) s2 = .ok R s2:=by rw [← hR]; exact c1
 refine ⟨s2 ++ [.lst [R,.non]],gt.trans (g2.trans Gr.push),?_⟩
 generalize (ks.map fun f => f.tr (gS s)).any Option.isNone = B at ti nd
 rw [R__law_turned_succ]
 unfold fnF g__law_turned
 simp [-ite_eq_left_iff,-kLst_3,-kLst_4,l0,l1,ix0,il,ia,b2,b4,hs,e2,tc,c1',nd,int_b,ti]
end
theorem Fm.place_ok {s:Sh} (o:s.Ok) {a b:Int} {l:List Int} (h:PlOk a b) (e:s.place a b = some l):∃ x y,l = [x,y] ∧ PlOk x y:=by
 obtain ⟨p1,p2,p3,p4⟩:=h
 unfold Sh.place at e
 cases hr:s.rows with
 | true =>
  rw [hr,if_pos rfl] at e
  cases el:s.line a with
  | none => rw [el] at e; cases e
  | some r =>
   rw [el] at e
   cases e
   have:=line_b o p1 (by rw [most_r hr]; exact p2) el
   rw [most_r hr] at this
   exact ⟨_,_,rfl,this.1,this.2,p3,p4⟩
 | false =>
  rw [hr,if_neg (by simp)] at e
  cases el:s.line b with
  | none => rw [el] at e; cases e
  | some r =>
   rw [el] at e
   cases e
   have:=line_b o p3 (by rw [most_c hr]; exact p4) el
   rw [most_c hr] at this
   exact ⟨_,_,rfl,p1,p2,this.1,this.2⟩
theorem area_ok {s:Sh} {a b c d:Int} {l:List Int} (h:s.area a b c d = some l):∃ x y z t,l = [x,y,z,t] ∧ ArOk x y z t:=by
 unfold Sh.area at h
 cases e:s.with a b c d with
 | none => rw [e] at h; cases h
 | some l' =>
  rw [e] at h
  obtain ⟨x,y,z,t,rfl⟩:=with4 e
  have h':(if decide (ArOk x y z t) = true then some [x,y,z,t] else none) = some l:=h
  by_cases hA:ArOk x y z t
  ·rw [if_pos (decide_eq_true hA)] at h'; cases h'; exact ⟨_,_,_,_,rfl,hA⟩
  ·rw [if_neg (by simpa using hA)] at h'; cases h'
theorem spot_ok {s:Sh} (o:s.Ok) {x:S} {l l' p:List Int} (n:Nm x l p) (e:gS s x l = some (some l')):Nm x l' p:=by
 rcases n with ⟨hx,a,b,q,r,rfl,rfl,h1,h2⟩ | ⟨hx,a,b,c,d,q,r,v,w,rfl,rfl,h1,h2⟩
 ·have e':outS s (s.place a b) = some (some l'):=e
  cases ep:s.place a b with
  | none => rw [ep] at e'; unfold outS at e'; cases hi:s.inn <;> rw [hi] at e' <;> simp at e'
  | some u =>
   rw [ep] at e'
   cases e'
   obtain ⟨x1,y1,rfl,h3⟩:=Fm.place_ok o h1 ep
   exact .inl ⟨hx,x1,y1,q,r,rfl,rfl,h3,h2⟩
 ·have e':(if x = "find" ∧ s.rows = false ∧ (s.taken b = true ∨ s.taken d = true) then some none else outS s (s.area a b c d)) = some (some l'):=e
  by_cases cl:x = "find" ∧ s.rows = false ∧ (s.taken b = true ∨ s.taken d = true)
  ·rw [if_pos cl] at e'; cases e'
  ·rw [if_neg cl] at e'
   cases ep:s.area a b c d with
   | none => rw [ep] at e'; unfold outS at e'; cases hi:s.inn <;> rw [hi] at e' <;> simp at e'
   | some u =>
    rw [ep] at e'
    cases e'
    obtain ⟨x1,y1,z1,t1,rfl,h3⟩:=area_ok ep
    exact .inr ⟨hx,x1,y1,z1,t1,q,r,v,w,rfl,rfl,h3,h2⟩
theorem lost_ok:(Fm.lit "lost" []).ok:=.inr (.inr ⟨rfl,rfl⟩)
theorem tr_ok {s:Sh} (o:s.Ok):∀ f f':Fm,f.ok → f.tr (gS s) = some f' → f'.ok ∧ f'.dp ≤ f.dp
 | .lit x ws,f',h,e => by cases e; exact ⟨h,Nat.le_refl _⟩
 | .pt x l p,f',h,e => by
  have n:Nm x l p:=h.imp id fun z => ⟨aw_af z.1,z.2⟩
  simp only [Fm.tr] at e
  cases eg:gS s x l with
  | none => rw [eg] at e; cases e
  | some u =>
   cases u with
   | none => rw [eg] at e; cases e; exact ⟨lost_ok,Nat.le_refl _⟩
   | some l' =>
    have n':=spot_ok o n eg
    rw [eg] at e
    cases e
    refine ⟨?_,Nat.le_refl _⟩
    rcases h with ⟨hx,hs⟩ | ⟨hx,hs⟩
    ·rcases n' with ⟨_,q⟩ | ⟨q,_⟩
     ·exact .inl ⟨hx,q⟩
     ·subst hx; exact absurd q (by decide +kernel)
    ·rcases n' with ⟨q,_⟩ | ⟨_,q⟩
     ·subst q; exact absurd hx (by decide +kernel)
     ·exact .inr ⟨hx,q⟩
 | .fd a l p,f',h,e => by
  have n:Nm "find" l p:=.inr ⟨by decide +kernel,h.2⟩
  simp only [Fm.tr] at e
  cases eg:gS s "find" l with
  | none => rw [eg] at e; cases e
  | some u =>
   cases u with
   | none => rw [eg] at e; cases e; exact ⟨lost_ok,by simp only [Fm.dp]; omega⟩
   | some l' =>
    have n':=spot_ok o n eg
    rw [eg] at e
    cases ea:a.tr (gS s) with
    | none => rw [ea] at e; cases e
    | some a' =>
     rw [ea] at e
     cases e
     obtain ⟨i1,i2⟩:=tr_ok o a a' h.1 ea
     refine ⟨⟨i1,?_⟩,by simp only [Fm.dp]; omega⟩
     rcases n' with ⟨q,_⟩ | ⟨_,q⟩
     ·exact absurd q (by decide +kernel)
     ·exact q
 | .o1 x a,f',h,e => by
  simp only [Fm.tr] at e
  cases ea:a.tr (gS s) with
  | none => rw [ea] at e; cases e
  | some a' =>
   rw [ea] at e
   cases e
   obtain ⟨i1,i2⟩:=tr_ok o a a' h.2 ea
   exact ⟨⟨h.1,i1⟩,by simp only [Fm.dp]; omega⟩
 | .o2 x a b,f',h,e => by
  simp only [Fm.tr] at e
  cases ea:a.tr (gS s) with
  | none => rw [ea] at e; cases e
  | some a' =>
   cases eb:b.tr (gS s) with
   | none => rw [ea,eb] at e; cases e
   | some b' =>
    rw [ea,eb] at e
    cases e
    obtain ⟨i1,i2⟩:=tr_ok o a a' h.2.1 ea
    obtain ⟨j1,j2⟩:=tr_ok o b b' h.2.2 eb
    exact ⟨⟨h.1,i1,j1⟩,by simp only [Fm.dp]; omega⟩
 | .o3 a b c,f',h,e => by
  simp only [Fm.tr] at e
  cases ea:a.tr (gS s) with
  | none => rw [ea] at e; cases e
  | some a' =>
   cases eb:b.tr (gS s) with
   | none => rw [ea,eb] at e; cases e
   | some b' =>
    cases ec:c.tr (gS s) with
    | none => rw [ea,eb,ec] at e; cases e
    | some c' =>
     rw [ea,eb,ec] at e
     cases e
     obtain ⟨i1,i2⟩:=tr_ok o a a' h.1 ea
     obtain ⟨j1,j2⟩:=tr_ok o b b' h.2.1 eb
     obtain ⟨k1,k2⟩:=tr_ok o c c' h.2.2 ec
     exact ⟨⟨i1,j1,k1⟩,by simp only [Fm.dp]; omega⟩
theorem words:(∀ x ∈ W1,x ∉ LW ∧ x ≠ "at" ∧ x ∉ AW ∧ x ≠ "find") ∧ (∀ x ∈ W2,x ∉ LW ∧ x ≠ "at" ∧ x ∉ AW ∧ x ≠ "find") ∧ (("if":S) ∉ LW ∧ ("if":S) ≠ "at" ∧ ("if":S) ∉ AW ∧ ("if":S) ≠ "find"):=by decide +kernel
theorem law_turned {s:Sh} (o:s.Ok):∀ (f:Fm) (n:Nat),f.ok → f.dp ≤ n → n ≤ 8 → Lt n s f
 | f,0,_,hd,_ => by cases f <;> simp [Fm.dp] at hd
 | .lit x ws,n + 1,h,_,_ => fun st => by
  have hx:x ∈ LW:=by rcases h with ⟨rfl,_⟩ | ⟨rfl,_⟩ | ⟨rfl,_⟩ <;> decide +kernel
  exact lt_lit hx st
 | .pt x l p,n + 1,h,_,_ => fun st => by
  rcases h with ⟨rfl,a,b,q,r,rfl,rfl,_⟩ | ⟨hx,a,b,c,d,q,r,v,w,rfl,rfl,hA,_⟩
  ·exact lt_at st
  ·exact lt_ar o hx hA st
 | .fd a l p,n + 1,h,hd,hn => fun st => by
  have ih:=law_turned o a n h.1 (by simp [Fm.dp] at hd; omega) (by omega)
  obtain ⟨_,a',b,c,d,q,r,v,w,rfl,rfl,hA,_⟩:=h
  exact lt_fd o hA ih st
 | .o1 x a,n + 1,h,hd,hn => fun st => by
  have ha:a.dp ≤ n:=by simp [Fm.dp] at hd; omega
  have i1:=law_turned o a n h.2 ha (by omega)
  obtain ⟨w1,w2,w3,w4⟩:=words.1 x h.1
  obtain ⟨s1,g1,e1⟩:=lt_op (ks:=[a]) w1 w2 w3 w4 (fun f hf => by rw [List.mem_singleton.mp hf]; exact i1) (by simp) (fun f hf f' e => by
   rw [List.mem_singleton.mp hf] at e
   have:=tr_ok o a f' h.2 e
   exact ⟨this.1,by omega⟩) (fun st => sl_t (by show ¬ isWh 2 (some 1) none; decide +kernel) rfl) st
  refine ⟨s1,g1,e1.trans ?_⟩
  simp only [Fm.tr,List.map_cons,List.map_nil]
  cases a.tr (gS s) <;> rfl
 | .o2 x a b,n + 1,h,hd,hn => fun st => by
  have ha:a.dp ≤ n ∧ b.dp ≤ n:=by simp [Fm.dp] at hd; omega
  have i1:=law_turned o a n h.2.1 ha.1 (by omega)
  have i2:=law_turned o b n h.2.2 ha.2 (by omega)
  obtain ⟨w1,w2,w3,w4⟩:=words.2.1 x h.1
  obtain ⟨s1,g1,e1⟩:=lt_op (ks:=[a,b]) w1 w2 w3 w4 (List.forall_mem_cons.mpr ⟨i1,List.forall_mem_cons.mpr ⟨i2,fun _ z => by cases z⟩⟩) (by simp)
   (List.forall_mem_cons.mpr ⟨fun f' e => ⟨(tr_ok o a f' h.2.1 e).1,by have:=(tr_ok o a f' h.2.1 e).2; omega⟩,List.forall_mem_cons.mpr ⟨fun f' e => ⟨(tr_ok o b f' h.2.2 e).1,by have:=(tr_ok o b f' h.2.2 e).2; omega⟩,fun _ z => by cases z⟩⟩) (fun st => sl_t (by show ¬ isWh 3 (some 1) none; decide +kernel) rfl) st
  refine ⟨s1,g1,e1.trans ?_⟩
  simp only [Fm.tr,List.map_cons,List.map_nil]
  cases a.tr (gS s) <;> cases b.tr (gS s) <;> rfl
 | .o3 a b c,n + 1,h,hd,hn => fun st => by
  have ha:a.dp ≤ n ∧ b.dp ≤ n ∧ c.dp ≤ n:=by simp [Fm.dp] at hd; omega
  have i1:=law_turned o a n h.1 ha.1 (by omega)
  have i2:=law_turned o b n h.2.1 ha.2.1 (by omega)
  have i3:=law_turned o c n h.2.2 ha.2.2 (by omega)
  obtain ⟨w1,w2,w3,w4⟩:=words.2.2
  obtain ⟨s1,g1,e1⟩:=lt_op (x:="if") (ks:=[a,b,c]) w1 w2 w3 w4 (List.forall_mem_cons.mpr ⟨i1,List.forall_mem_cons.mpr ⟨i2,List.forall_mem_cons.mpr ⟨i3,fun _ z => by cases z⟩⟩⟩) (by simp)
   (List.forall_mem_cons.mpr ⟨fun f' e => ⟨(tr_ok o a f' h.1 e).1,by have:=(tr_ok o a f' h.1 e).2; omega⟩,List.forall_mem_cons.mpr ⟨fun f' e => ⟨(tr_ok o b f' h.2.1 e).1,by have:=(tr_ok o b f' h.2.1 e).2; omega⟩,List.forall_mem_cons.mpr ⟨fun f' e => ⟨(tr_ok o c f' h.2.2 e).1,by have:=(tr_ok o c f' h.2.2 e).2; omega⟩,fun _ z => by cases z⟩⟩⟩) (fun st => sl_t (by show ¬ isWh 4 (some 1) none; decide +kernel) rfl) st
  refine ⟨s1,g1,e1.trans ?_⟩
  simp only [Fm.tr,List.map_cons,List.map_nil]
  cases a.tr (gS s) <;> cases b.tr (gS s) <;> cases c.tr (gS s) <;> rfl
theorem sz_dp:∀ f:Fm,2 * f.sz + 1 ≤ 3 ^ f.dp
 | .lit _ _ => by simp [Fm.sz,Fm.dp]
 | .pt _ _ _ => by simp [Fm.sz,Fm.dp]
 | .fd a _ _ => by
  have:=sz_dp a
  simp only [Fm.sz,Fm.dp,Nat.pow_succ]
  omega
 | .o1 _ a => by
  have:=sz_dp a
  simp only [Fm.sz,Fm.dp,Nat.pow_succ]
  omega
 | .o2 _ a b => by
  have h1:=sz_dp a
  have h2:=sz_dp b
  have p1:=Nat.pow_le_pow_right (n:=3) (by decide) (Nat.le_max_left a.dp b.dp)
  have p2:=Nat.pow_le_pow_right (n:=3) (by decide) (Nat.le_max_right a.dp b.dp)
  simp only [Fm.sz,Fm.dp,Nat.pow_succ]
  omega
 | .o3 a b c => by
  have h1:=sz_dp a
  have h2:=sz_dp b
  have h3:=sz_dp c
  have p1:=Nat.pow_le_pow_right (n:=3) (by decide) (Nat.le_max_left a.dp (max b.dp c.dp))
  have p2:=Nat.pow_le_pow_right (n:=3) (by decide) (Nat.le_trans (Nat.le_max_left b.dp c.dp) (Nat.le_max_right a.dp (max b.dp c.dp)))
  have p3:=Nat.pow_le_pow_right (n:=3) (by decide) (Nat.le_trans (Nat.le_max_right b.dp c.dp) (Nat.le_max_right a.dp (max b.dp c.dp)))
  simp only [Fm.sz,Fm.dp,Nat.pow_succ]
  omega
theorem sz40 {f:Fm} (h:f.dp ≤ 4):f.sz ≤ 60:=by
 have:=sz_dp f
 have p:=Nat.pow_le_pow_right (n:=3) (by decide) h
 omega
theorem refused {s:Sh} (o:s.Ok) {f:Fm} (h:f.ok) (hd:f.dp ≤ 8) (e:f.tr (gS s) = none) (st:Hs):∃ st',Gr st st' ∧ F__law_refused [s.w,f.w] st = .ok (.bl true) st':=by
 obtain ⟨s1,g1,e1⟩:=turned o h hd st
 rw [e] at e1
 have e1':F_turned [s.w,f.w] st = .err "NoRoom" s1:=e1
 refine ⟨s1,g1,?_⟩
 have a1:oIsA tbl tblT [.exn "NoRoom",.cls "NoRoom"] s1 = .ok (.bl true) s1:=rfl
 have a2:oIsA tbl tblT [.exn "NoRoom",.ty "ValueError"] s1 = .ok (.bl true) s1:=rfl
 have a3:oIsA tbl tblT [.exn "NoRoom",.tup [.cls "BadArea",.cls "BadFormula",.cls "BadPlace"]] s1 = .ok (.bl false) s1:=rfl
 have kt:=kTry_err (cat:=fun y => tblC.lookup (y,("SheetError":PySem.Str))) (i:=3) (gs:=g__law_refused_U1) (c:="NoRoom") (ρ:=[some s.w,some f.w,some .non,none]) (st:=s1) (ρ2:=[some s.w,some f.w,some (.exn "NoRoom"),some (.exn "NoRoom")]) (st2:=s1) (by decide +kernel) (by unfold g__law_refused_U1; simp)
 unfold F__law_refused fnF g__law_refused
 simp [g__law_refused_B1,e1',kt,a1,a2,a3]
theorem inner {l:Nat} {x c k:Wv} {f:Fm} (hf:FOk 4 f) {p5 p6 p7:Option Wv} {st:Hs} (hp:Pot l st):∃ q5 q6 q7 st',g_law_L2 [some x,some c,some (.ref l),some f.w,some k,p5,p6,p7] st = .nx [some x,some c,some (.ref l),some f.w,some k,q5,q6,q7] st' ∧ Pot l st' ∧ Keep l st st':=by
 obtain ⟨s,s1,e1,o,P1,K1⟩:=shift hp
 have fd:f.dp ≤ 8:=by have:=hf.2; omega
 obtain ⟨s2,g2,e2⟩:=law_turned o f 6 hf.1 (by have:=hf.2; omega) (by decide) s1
 have e2':F__law_turned [s.w,f.w] s1 = .ok (oF (f.tr (gS s))) s2:=e2
 unfold g_law_L2
 cases et:f.tr (gS s) with
 | none =>
  rw [et] at e2'
  obtain ⟨s3,g3,e3⟩:=refused o hf.1 fd et s2
  have is:oIs (oF none) .non s2 = .ok (.bl true) s2:=rfl
  exact ⟨some s.w,some (oF none),p7,s3,by simp [e1,e2',is,e3],(P1.gr g2).gr g3,K1.trans (g2.trans g3).keep⟩
 | some f' =>
  rw [et] at e2'
  obtain ⟨h1,h2⟩:=tr_ok o f f' hf.1 et
  obtain ⟨s3,g3,e3⟩:=turned o hf.1 fd s2
  rw [et] at e3
  have e3':F_turned [s.w,f.w] s2 = .ok f'.w s3:=e3
  have h4:f'.dp ≤ 4:=by have:=hf.2; omega
  obtain ⟨s4,e4,g4⟩:=made h1 (sz40 h4) (by omega) s3
  have is:oIs f'.w .non s2 = .ok (.bl false) s2:=rfl
  have it:oIsA tbl tblT [f'.w,.ty "tuple"] s3 = .ok (.bl true) s3:=rfl
  have n1:=ne_f h1 (by omega) s3
  have n2:=ne_f h1 (by omega) s4
  have oo:oF (some f') = f'.w:=rfl
  rw [oo] at e2'
  exact ⟨some s.w,some f'.w,some f'.w,s4,by simp [e1,e2',is,e3',it,n1,e4,n2],((P1.gr g2).gr g3).gr g4,K1.trans (g2.trans (g3.trans g4)).keep⟩
theorem outer {x:Wv} {cell:Int} {p2 p3 p4 p5 p6 p7:Option Wv} (st:Hs):∃ q2 q3 q4 q5 q6 q7 st',g_law_L1 [some x,some (.int cell),p2,p3,p4,p5,p6,p7] st = .nx [some x,some (.int cell),q2,q3,q4,q5,q6,q7] st' ∧ Gr st st':=by
 obtain ⟨s1,e1,P1,g1⟩:=pot (x:=cell) (st:=st)
 obtain ⟨f,s2,e2,hf,P2,K2⟩:=formula (l:=st.length) 5 (k:=3) P1 (by decide)
 have e2':F__law_formula [.ref st.length,.int 3] s1 = .ok f.w s2:=e2
 have key:∀ (ws:List Wv) (p4 p5 p6 p7:Option Wv) (s:Hs),Pot st.length s → ∃ q4 q5 q6 q7 s',forT 4 g_law_L2 ws [some x,some (.int cell),some (.ref st.length),some f.w,p4,p5,p6,p7] s = .nx [some x,some (.int cell),some (.ref st.length),some f.w,q4,q5,q6,q7] s' ∧ Keep st.length s s':=by
  intro ws
  induction ws with
  | nil => exact fun p4 p5 p6 p7 s h => ⟨p4,p5,p6,p7,s,rfl,Keep.refl⟩
  | cons w r ih =>
   intro p4 p5 p6 p7 s h
   obtain ⟨q5,q6,q7,s',e,P,K⟩:=inner (x:=x) (c:=.int cell) (k:=w) hf (p5:=p5) (p6:=p6) (p7:=p7) h
   obtain ⟨r4,r5,r6,r7,s'',e',K'⟩:=ih (some w) q5 q6 q7 s' P
   refine ⟨r4,r5,r6,r7,s'',?_,K.trans K'⟩
   have eb:g_law_L2 ([some x,some (.int cell),some (.ref st.length),some f.w,p4,p5,p6,p7].set 4 (some w)) s = .nx [some x,some (.int cell),some (.ref st.length),some f.w,some w,q5,q6,q7] s':=e
   unfold forT
   rw [eb]
   exact e'
 obtain ⟨q4,q5,q6,q7,s3,e3,K3⟩:=key (rngW 0 3) p4 p5 p6 p7 s2 P2
 refine ⟨some (.ref st.length),some f.w,q4,q5,q6,q7,s3,?_,Gr.keepAt (Nat.le_refl _) g1 (K2.trans K3)⟩
 have c3:CRng 3:=crng (by decide) (by decide)
 have e3':forT 4 g_law_L2 (rngW 0 (3:Int).toNat) [some x,some (.int cell),some (.ref st.length),some f.w,p4,p5,p6,p7] s2 = .nx [some x,some (.int cell),some (.ref st.length),some f.w,q4,q5,q6,q7] s3:=e3
 unfold g_law_L1
 simp [e1,e2',c3,e3]
theorem law_true:∀ ns:List Int,ns.length ≤ 63 → ∃ st,F_law [.ref 0] [.scr ns] = .ok (.bl true) st:=by
 intro ns hn
 have c1:lstOf [Ob.scr ns,Ob.lst [.int 0,.int 1]] 0 = some (ns.map Wv.int):=rfl
 have sl:=sl_l (lo:=none) (hi:=some 12) c1
 obtain ⟨ys,ey,ly⟩:=cutW_map' (f:=Wv.int) (xs:=ns) (lo:=none) (hi:=some 12)
 rw [ey] at sl
 have la:=add_l (st:=[Ob.scr ns,.lst [.int 0,.int 1],.lst (ys.map Wv.int)]) (l:=1) (k:=2) (xs:=[.int 0,.int 1]) (ys:=ys.map Wv.int) rfl rfl (by unfold lim; rw [List.length_map]; simp; omega)
 have l1:lstOf [Ob.scr ns,.lst [.int 0,.int 1],.lst (ys.map Wv.int),.lst ((0 :: 1 :: ys).map Wv.int)] 3 = some ((0 :: 1 :: ys).map Wv.int):=rfl
 obtain ⟨ρ',st',e,⟨p1,p2,p3,p4,p5,p6,p7,rfl⟩,_⟩:=forL_inv (i:=1) (gb:=g_law_L1) (l:=3) (all:=(0 :: 1 :: ys).map Wv.int)
  (fun ρ st' => ∃ p1 p2 p3 p4 p5 p6 p7,ρ = [some (.ref 0),p1,p2,p3,p4,p5,p6,p7]) ((0 :: 1 :: ys).map Wv.int) [some (.ref 0),none,none,none,none,none,none,none] [Ob.scr ns,.lst [.int 0,.int 1],.lst (ys.map Wv.int),.lst ((0 :: 1 :: ys).map Wv.int)] ⟨_,_,_,_,_,_,_,rfl⟩ l1 (fun w hw ρ st hP hl => by
   obtain ⟨p1,p2,p3,p4,p5,p6,p7,rfl⟩:=hP
   obtain ⟨c,_,rfl⟩:=List.mem_map.mp hw
   obtain ⟨q2,q3,q4,q5,q6,q7,st',e,k⟩:=outer (cell:=c) (x:=.ref 0) (p2:=p2) (p3:=p3) (p4:=p4) (p5:=p5) (p6:=p6) (p7:=p7) st
   exact ⟨_,st',e,k.lst hl,_,_,_,_,_,_,_,rfl⟩)
 refine ⟨st',fn_rt (n:=8) (g:=g_law) ?_⟩
 unfold g_law
 have l1':lstOf [Ob.scr ns,.lst [.int 0,.int 1],.lst (ys.map Wv.int),.lst (.int 0 :: .int 1 :: ys.map Wv.int)] 3 = some (.int 0 :: .int 1 :: ys.map Wv.int):=rfl
 simp only [List.map_cons] at e
 simp at sl la
 simp [sl,la,kFor_l l1',e]
end K46
def PySem.W.Fast.tw480908395995352514:Unit:=()
def PySem.W.Fast.tw2934995865135480038:Unit:=()
def PySem.W.Fast.tw5886711198529701726:Unit:=()
def PySem.W.Fast.tw2409406999941942986:Unit:=()
def PySem.W.Fast.tw10200333844617141844:Unit:=()
def PySem.W.Fast.tw6116035648768027941:Unit:=()
def PySem.W.Fast.tw4571695385615674285:Unit:=()
def PySem.W.Fast.tw960607757983134271:Unit:=()
def PySem.W.Fast.tw13384395800429486107:Unit:=()
def PySem.W.Fast.tw17431300467354981789:Unit:=()
def PySem.W.Fast.tw1168032416031357511:Unit:=()
def PySem.W.Fast.tw9522140422459408987:Unit:=()
def PySem.W.Fast.tw16609323621542711157:Unit:=()
def PySem.W.Fast.tw99802175804033639:Unit:=()
def PySem.W.Fast.tw5809275069458934351:Unit:=()
def PySem.W.Fast.tw7725079343649429957:Unit:=()
namespace K46
open PySem PySem.W PyProof.Rows
set_option maxHeartbeats 0 in
open_top head for PySem.Challenge.rw_onelook_k46_formulas_turned
end K46
namespace K46
open PySem J
open L2 (defScope defBody defArgs FnScope CX0 FnOk XK Hp)
theorem all_mk0 {l:PySem.W.OpenLaw} {w:World} {K:PySem.W.Frag} {h:Heap} {mg:Str → Option Value} {fa:Addr} (X:K.In h) (G:h.Ns mainGlobals mg) (hfa:mg "law" = some (.ref fa))
    {f20 f35:Addr} {od20 od35 an20 an35:Option Addr} {sl20 sl35:Array (Option Value)} {oc20 oc35 kV20 kV35 dc20 dc35 pm20 pm35 cd20 ct20 ct35:Value} {tk0_0 tk0_1 tk0_2 tk0_3 tk0_4 tk1_0 tk1_1 tk2_0 tk2_1 tk3 tk4 tk5 tk6 tk7 tk8:Tok} {ca0:Addr} {cd0_:Option Addr} {cn0:Nat} {cs0:Array (Option Value)} {ca1:Addr} {cd1_:Option Addr} {cn1:Nat} {cs1:Array (Option Value)} {ca2:Addr} {cd2_:Option Addr} {cn2:Nat} {cs2:Array (Option Value)} {da0:Addr} {de0:Nat} {dh0_0 dh0_1 dh0_2 dh0_3 dh0_4 dh0_5 dh0_6 dh0_7 dh0_8 dh0_9 dh0_10 dh0_11 dh0_12 dh0_13 dh0_14 dh0_15 dh0_16 dh0_17 dh0_18 dh0_19 dh0_20:Int} {dk0_0 dk0_1 dk0_2 dk0_3 dk0_4 dk0_5 dk0_6 dk0_7 dk0_8 dk0_9 dk0_10 dk0_11 dk0_12 dk0_13 dk0_14 dk0_15 dk0_16 dk0_17 dk0_18 dk0_19 dk0_20 dt0_0 dt0_1 dt0_2 dt0_3 dt0_4 dt0_5 dt0_6 dt0_7 dt0_8 dt0_9 dt0_10 dt0_11 dt0_12 dt0_13 dt0_14 dt0_15 dt0_16 dt0_17 dt0_18 dt0_19 dt0_20:Tok} {X0 X1 X2 X3 X4:Addr} {cC35 LP35:Addr}
    (d1:J.DefAt K "_law_pot" s__law_pot)
    (d2:J.DefAt K "_law_take" s__law_take)
    (d3:J.DefAt K "_law_place" s__law_place)
    (d4:J.DefAt K "_law_pins" s__law_pins)
    (d5:J.DefAt K "_law_area" s__law_area)
    (d6:J.DefAt K "_law_formula" s__law_formula)
    (d7:J.DefAt K "_law_most" s__law_most)
    (d8:J.DefAt K "_law_shift" s__law_shift)
    (d9:J.DefAt K "_law_line" s__law_line)
    (d10:J.DefAt K "_law_moved" s__law_moved)
    (d11:J.DefAt K "_law_ends" s__law_ends)
    (d12:J.DefAt K "_law_area_moved" s__law_area_moved)
    (d13:J.DefAt K "_law_side_lost" s__law_side_lost)
    (d14:J.DefAt K "_law_gone" s__law_gone)
    (d15:J.DefAt K "_law_turned" s__law_turned)
    (d16:J.DefAt K "part_many" s_part_many)
    (d17:J.DefAt K "tail_of" s_tail_of)
    (d18:J.DefAt K "has_area" s_has_area)
    (d19:J.DefAt K "parts_of" s_parts_of)
    (a20:PySem.W.nsIn K mainGlobals "rebuilt" = some (some (.ref f20))) (l20:K.lookup f20 = some ⟨oc20,od20,.func (PySem.W.fnOf "rebuilt" "rebuilt" (defArgs s_rebuilt) (defBody s_rebuilt) (defScope s_rebuilt) .none kV20 dc20 pm20 an20 cd20 ct20),sl20⟩) (c20:PySem.W.codeIn K cd20 "rebuilt" = true) (k20:PySem.W.keepIn K (.ref f20) = true)
    (d21:J.DefAt K "is_of_rows" s_is_of_rows)
    (d22:J.DefAt K "is_in" s_is_in)
    (d23:J.DefAt K "is_taken" s_is_taken)
    (d24:J.DefAt K "loses_end_column" s_loses_end_column)
    (d25:J.DefAt K "moved_line" s_moved_line)
    (d26:J.DefAt K "moved_place" s_moved_place)
    (d27:J.DefAt K "moved_ends" s_moved_ends)
    (d28:J.DefAt K "area_with_ends" s_area_with_ends)
    (d29:J.DefAt K "is_place" s_is_place)
    (d30:J.DefAt K "has_corners" s_has_corners)
    (d31:J.DefAt K "area_many" s_area_many)
    (d32:J.DefAt K "is_area" s_is_area)
    (d33:J.DefAt K "moved_area" s_moved_area)
    (d34:J.DefAt K "turned_spot" s_turned_spot)
    (a35:PySem.W.nsIn K mainGlobals "turned" = some (some (.ref f35))) (l35:K.lookup f35 = some ⟨oc35,od35,.func (PySem.W.fnOf "turned" "turned" (defArgs s_turned) (defBody s_turned) (defScope s_turned) .none kV35 dc35 pm35 an35 (.ref cC35) ct35),sl35⟩) (c35:PySem.W.codeIn K (.ref cC35) "turned" = true) (k35:PySem.W.keepIn K (.ref f35) = true)
    (d36:J.DefAt K "_law_refused" s__law_refused)
    (d37:J.DefAt K "level_below" s_level_below)
    (d38:J.DefAt K "is_whole" s_is_whole)
    (d39:J.DefAt K "is_text_sign" s_is_text_sign)
    (d40:J.DefAt K "has_text_signs" s_has_text_signs)
    (d41:J.DefAt K "is_text" s_is_text)
    (d42:J.DefAt K "is_number_row" s_is_number_row)
    (d43:J.DefAt K "are_pins" s_are_pins)
    (d44:J.DefAt K "is_tail" s_is_tail)
    (d45:J.DefAt K "is_piece" s_is_piece)
    (d46:J.DefAt K "made_formula" s_made_formula)
    (d47:J.DefAt K "law" s_law)
    (z0:PySem.W.nsIn K mainGlobals "int" = some none)
    (z1:PySem.W.nsIn K mainGlobals "tuple" = some none)
    (z2:PySem.W.nsIn K mainGlobals "range" = some none)
    (z3:PySem.W.nsIn K mainGlobals "min" = some none)
    (z4:PySem.W.nsIn K mainGlobals "isinstance" = some none)
    (z5:PySem.W.nsIn K mainGlobals "ValueError" = some none)
    (z6:PySem.W.nsIn K mainGlobals "bool" = some none)
    (z7:PySem.W.nsIn K mainGlobals "all" = some none)
    (z8:PySem.W.nsIn K mainGlobals "ord" = some none)
    (z9:PySem.W.nsIn K mainGlobals "str" = some none)
    (z10:PySem.W.nsIn K mainGlobals "len" = some none)
    (v0:PySem.W.nsIn K mainGlobals "AREA_WORDS" = some (some (.ref ca0))) (w0:K.lookup ca0 = some ⟨.type "tuple",cd0_,.seq #[.str "sum" tk0_0,.str "count" tk0_1,.str "least" tk0_2,.str "greatest" tk0_3,.str "find" tk0_4] cn0,cs0⟩)
    (v1:PySem.W.nsIn K mainGlobals "ROW_WAYS" = some (some (.ref ca1))) (w1:K.lookup ca1 = some ⟨.type "tuple",cd1_,.seq #[.str "rows in" tk1_0,.str "rows out" tk1_1] cn1,cs1⟩)
    (v2:PySem.W.nsIn K mainGlobals "IN_WAYS" = some (some (.ref ca2))) (w2:K.lookup ca2 = some ⟨.type "tuple",cd2_,.seq #[.str "rows in" tk2_0,.str "columns in" tk2_1] cn2,cs2⟩)
    (v3:PySem.W.nsIn K mainGlobals "ROWS" = some (some (.int 99 tk3)))
    (v4:PySem.W.nsIn K mainGlobals "COLUMNS" = some (some (.int 26 tk4)))
    (v5:PySem.W.nsIn K mainGlobals "MOST_PLACES" = some (some (.int 300 tk5)))
    (v6:PySem.W.nsIn K mainGlobals "MOST_SIGNS" = some (some (.int 40 tk6)))
    (v7:PySem.W.nsIn K mainGlobals "MOST_PIECES" = some (some (.int 60 tk7)))
    (v8:PySem.W.nsIn K mainGlobals "MOST_DEEP" = some (some (.int 12 tk8)))
    (dv0:PySem.W.nsIn K mainGlobals "PART_COUNTS" = some (some (.ref da0))) (dw0:K.lookup da0 = some ⟨.type "dict",none,.dict #[⟨dh0_0,.str "num" dk0_0,.int 0 dt0_0⟩,⟨dh0_1,.str "text" dk0_1,.int 0 dt0_1⟩,⟨dh0_2,.str "lost" dk0_2,.int 0 dt0_2⟩,⟨dh0_3,.str "at" dk0_3,.int 0 dt0_3⟩,⟨dh0_4,.str "minus" dk0_4,.int 1 dt0_4⟩,⟨dh0_5,.str "not" dk0_5,.int 1 dt0_5⟩,⟨dh0_6,.str "+" dk0_6,.int 2 dt0_6⟩,⟨dh0_7,.str "-" dk0_7,.int 2 dt0_7⟩,⟨dh0_8,.str "*" dk0_8,.int 2 dt0_8⟩,⟨dh0_9,.str "/" dk0_9,.int 2 dt0_9⟩,⟨dh0_10,.str "&" dk0_10,.int 2 dt0_10⟩,⟨dh0_11,.str "<" dk0_11,.int 2 dt0_11⟩,⟨dh0_12,.str "=" dk0_12,.int 2 dt0_12⟩,⟨dh0_13,.str "rest" dk0_13,.int 2 dt0_13⟩,⟨dh0_14,.str "if" dk0_14,.int 3 dt0_14⟩,⟨dh0_15,.str "else" dk0_15,.int 2 dt0_15⟩,⟨dh0_16,.str "sum" dk0_16,.int 0 dt0_16⟩,⟨dh0_17,.str "count" dk0_17,.int 0 dt0_17⟩,⟨dh0_18,.str "least" dk0_18,.int 0 dt0_18⟩,⟨dh0_19,.str "greatest" dk0_19,.int 0 dt0_19⟩,⟨dh0_20,.str "find" dk0_20,.int 1 dt0_20⟩] de0,#[]⟩) (dm0:(da0 == sysModules) = false) (dx0_0:dh0_0 = hashStr w "num") (dx0_1:dh0_1 = hashStr w "text") (dx0_2:dh0_2 = hashStr w "lost") (dx0_3:dh0_3 = hashStr w "at") (dx0_4:dh0_4 = hashStr w "minus") (dx0_5:dh0_5 = hashStr w "not") (dx0_6:dh0_6 = hashStr w "+") (dx0_7:dh0_7 = hashStr w "-") (dx0_8:dh0_8 = hashStr w "*") (dx0_9:dh0_9 = hashStr w "/") (dx0_10:dh0_10 = hashStr w "&") (dx0_11:dh0_11 = hashStr w "<") (dx0_12:dh0_12 = hashStr w "=") (dx0_13:dh0_13 = hashStr w "rest") (dx0_14:dh0_14 = hashStr w "if") (dx0_15:dh0_15 = hashStr w "else") (dx0_16:dh0_16 = hashStr w "sum") (dx0_17:dh0_17 = hashStr w "count") (dx0_18:dh0_18 = hashStr w "least") (dx0_19:dh0_19 = hashStr w "greatest") (dx0_20:dh0_20 = hashStr w "find")
    (xa0:PySem.W.nsIn K mainGlobals "NoRoom" = some (some (.ref X0))) (xe0:PySem.W.excIn K X0 bmV nwV = true) (xg0:PySem.W.findIn K (.ref X0) "__getattribute__" = some (some (.builtin "BaseException.__getattribute__"))) (xx0:PySem.W.findIn K (.ref X0) "__getattr__" = some none) (xc0:PySem.W.findIn K (.ref X0) "__class__" = some (some (.builtin "object.__class__")))
    (xa1:PySem.W.nsIn K mainGlobals "SheetError" = some (some (.ref X1))) (xe1:PySem.W.excIn K X1 bmV nwV = true)
    (xa2:PySem.W.nsIn K mainGlobals "BadArea" = some (some (.ref X2)))
    (xa3:PySem.W.nsIn K mainGlobals "BadFormula" = some (some (.ref X3))) (xe3:PySem.W.excIn K X3 bmV nwV = true) (xg3:PySem.W.findIn K (.ref X3) "__getattribute__" = some (some (.builtin "BaseException.__getattribute__"))) (xx3:PySem.W.findIn K (.ref X3) "__getattr__" = some none) (xc3:PySem.W.findIn K (.ref X3) "__class__" = some (some (.builtin "object.__class__")))
    (xa4:PySem.W.nsIn K mainGlobals "BadPlace" = some (some (.ref X4)))
    (pk0:PySem.W.kitOne K (.ref X0) (.ref X0) = some true)
    (pk1:PySem.W.kitOne K (.ref X0) (.ref X1) = some true)
    (pk2:PySem.W.kitOne K (.ref X0) (.ref X2) = some false)
    (pk3:PySem.W.kitOne K (.ref X0) (.ref X3) = some false)
    (pk4:PySem.W.kitOne K (.ref X0) (.ref X4) = some false)
    (pk5:PySem.W.kitOne K (.ref X3) (.ref X0) = some false)
    (pk6:PySem.W.kitOne K (.ref X3) (.ref X1) = some true)
    (pk7:PySem.W.kitOne K (.ref X3) (.ref X2) = some false)
    (pk8:PySem.W.kitOne K (.ref X3) (.ref X3) = some true)
    (pk9:PySem.W.kitOne K (.ref X3) (.ref X4) = some false)
    (pm0:PySem.W.mroIn K X0 (.ref X1) = some true)
    (pm1:PySem.W.mroIn K X3 (.ref X1) = some true)
    (pt0:PySem.W.kitOne K (.ref X0) (.type "ValueError") = some true)
    (pt1:PySem.W.kitOne K (.ref X3) (.type "ValueError") = some true)
    (LK35:J.LamK K mg "turned" LP35) :
    ∃ fd:FuncData,(∀ (s:Shared) (u:Value),BindsTo s fd ⟨[u],[]⟩ [("script",u)]) ∧ ∀ base:Heap,J.ModB K mg base → FnOk l.prog w K mg base (CXJ l.prog w) 19 fa fd ["script"] (spW K 1 F_law):=by
  refine J.law_hasM X G hfa d47 (fun _ _ _ _ _ _ s u => .of_eq rfl) (fun f fd Fu base M => ?_)
  have Z0:=PySem.W.mg_none_of X G z0
  have Z1:=PySem.W.mg_none_of X G z1
  have Z2:=PySem.W.mg_none_of X G z2
  have Z3:=PySem.W.mg_none_of X G z3
  have Z4:=PySem.W.mg_none_of X G z4
  have Z5:=PySem.W.mg_none_of X G z5
  have Z6:=PySem.W.mg_none_of X G z6
  have Z7:=PySem.W.mg_none_of X G z7
  have Z8:=PySem.W.mg_none_of X G z8
  have Z9:=PySem.W.mg_none_of X G z9
  have Z10:=PySem.W.mg_none_of X G z10
  have V0:=PySem.W.mg_of X G v0
  have V1:=PySem.W.mg_of X G v1
  have V2:=PySem.W.mg_of X G v2
  have V3:=PySem.W.mg_of X G v3
  have V4:=PySem.W.mg_of X G v4
  have V5:=PySem.W.mg_of X G v5
  have V6:=PySem.W.mg_of X G v6
  have V7:=PySem.W.mg_of X G v7
  have V8:=PySem.W.mg_of X G v8
  have TB:TabOk K tbl tblT tblC:=J.tab_mk ⟨⟨X0,X0,xa0,xa0,⟨xe0,xg0,xx0,xc0⟩,pk0⟩,⟨X0,X1,xa0,xa1,⟨xe0,xg0,xx0,xc0⟩,pk1⟩,⟨X0,X2,xa0,xa2,⟨xe0,xg0,xx0,xc0⟩,pk2⟩,⟨X0,X3,xa0,xa3,⟨xe0,xg0,xx0,xc0⟩,pk3⟩,⟨X0,X4,xa0,xa4,⟨xe0,xg0,xx0,xc0⟩,pk4⟩,⟨X3,X0,xa3,xa0,⟨xe3,xg3,xx3,xc3⟩,pk5⟩,⟨X3,X1,xa3,xa1,⟨xe3,xg3,xx3,xc3⟩,pk6⟩,⟨X3,X2,xa3,xa2,⟨xe3,xg3,xx3,xc3⟩,pk7⟩,⟨X3,X3,xa3,xa3,⟨xe3,xg3,xx3,xc3⟩,pk8⟩,⟨X3,X4,xa3,xa4,⟨xe3,xg3,xx3,xc3⟩,pk9⟩,trivial⟩ ⟨⟨X0,xa0,⟨xe0,xg0,xx0,xc0⟩,pt0⟩,⟨X3,xa3,⟨xe3,xg3,xx3,xc3⟩,pt1⟩,trivial⟩ ⟨⟨X0,X1,xa0,xa1,xe0,xe1,pm0⟩,⟨X3,X1,xa3,xa1,xe3,xe1,pm1⟩,trivial⟩
  have H1:∀ base:Heap,J.ModB K mg base → J.Has l.prog w K mg base 1 "_law_pot" 1 F__law_pot:=fun base M => J.has_def (ps:=["cell"]) X G d1 (J.topOk_mk (c:=c__law_pot) (k:=0) trivial trivial trivial TB trivial trivial trivial) sc__law_pot rfl r__law_pot (fun _ _ _ _ _ _ us hl => J.ln1 us hl fun _ => rfl)
  have H2:∀ base:Heap,J.ModB K mg base → J.Has l.prog w K mg base 1 "_law_take" 2 F__law_take:=fun base M => J.has_def (ps:=["pot","many"]) X G d2 (J.topOk_mk (c:=c__law_take) (k:=0) trivial trivial trivial TB trivial trivial trivial) sc__law_take rfl r__law_take (fun _ _ _ _ _ _ us hl => J.ln2 us hl fun _ _ => rfl)
  have H3:∀ base:Heap,J.ModB K mg base → J.Has l.prog w K mg base 2 "_law_place" 1 F__law_place:=fun base M => J.has_def (ps:=["pot"]) X G d3 (J.topOk_mk (c:=c__law_place) (k:=1) trivial ⟨Z0,trivial⟩ ⟨(H2 base M).mono (by decide),trivial⟩ TB trivial trivial trivial) sc__law_place rfl r__law_place (fun _ _ _ _ _ _ us hl => J.ln1 us hl fun _ => rfl)
  have H4:∀ base:Heap,J.ModB K mg base → J.Has l.prog w K mg base 2 "_law_pins" 2 F__law_pins:=fun base M => J.has_def (ps:=["pot","many"]) X G d4 (J.topOk_mk (c:=c__law_pins) (k:=1) trivial ⟨Z1,Z2,trivial⟩ ⟨(H2 base M).mono (by decide),trivial⟩ TB trivial trivial trivial) sc__law_pins rfl r__law_pins (fun _ _ _ _ _ _ us hl => J.ln2 us hl fun _ _ => rfl)
  have H5:∀ base:Heap,J.ModB K mg base → J.Has l.prog w K mg base 3 "_law_area" 1 F__law_area:=fun base M => J.has_def (ps:=["pot"]) X G d5 (J.topOk_mk (c:=c__law_area) (k:=2) trivial ⟨Z3,trivial⟩ ⟨(H3 base M).mono (by decide),(H2 base M).mono (by decide),trivial⟩ TB trivial trivial trivial) sc__law_area rfl r__law_area (fun _ _ _ _ _ _ us hl => J.ln1 us hl fun _ => rfl)
  have G6:∀ base:Heap,J.ModB K mg base → ∀ n:Nat,J.Has l.prog w K mg base (3 + n) "_law_formula" 2 (R__law_formula n):=fun base M n => by
    induction n with
    | zero => exact J.has_bad (ps:=["pot","deep"]) X G d6 (fun _ _ _ _ _ _ us hl => J.ln2 us hl fun _ _ => rfl)
    | succ n ih => exact J.has_def (ps:=["pot","deep"]) X G d6 (J.topOk_mk (c:=(c__law_formula (R__law_formula n))) (k:=(3 + n)) trivial ⟨Z1,Z0,Z2,trivial⟩ ⟨(H2 base M).mono (by omega),(H3 base M).mono (by omega),(H4 base M).mono (by omega),(H5 base M).mono (by omega),ih,trivial⟩ TB trivial trivial trivial) (sc__law_formula (R__law_formula n)) rfl (r__law_formula (R__law_formula n)) (fun _ _ _ _ _ _ us hl => J.ln2 us hl fun _ _ => rfl)
  have H6:∀ base:Heap,J.ModB K mg base → J.Has l.prog w K mg base 9 "_law_formula" 2 F__law_formula:=fun base M => (G6 base M 6)
  have H7:∀ base:Heap,J.ModB K mg base → J.Has l.prog w K mg base 1 "_law_most" 1 F__law_most:=fun base M => J.has_def (ps:=["way"]) X G d7 (J.topOk_mk (c:=c__law_most) (k:=0) trivial ⟨Z0,trivial⟩ trivial TB trivial trivial trivial) sc__law_most rfl r__law_most (fun _ _ _ _ _ _ us hl => J.ln1 us hl fun _ => rfl)
  have H8:∀ base:Heap,J.ModB K mg base → J.Has l.prog w K mg base 2 "_law_shift" 1 F__law_shift:=fun base M => J.has_def (ps:=["pot"]) X G d8 (J.topOk_mk (c:=c__law_shift) (k:=1) trivial ⟨Z3,trivial⟩ ⟨(H7 base M).mono (by decide),(H2 base M).mono (by decide),trivial⟩ TB trivial trivial trivial) sc__law_shift rfl r__law_shift (fun _ _ _ _ _ _ us hl => J.ln1 us hl fun _ => rfl)
  have H9:∀ base:Heap,J.ModB K mg base → J.Has l.prog w K mg base 2 "_law_line" 2 F__law_line:=fun base M => J.has_def (ps:=["shift","line"]) X G d9 (J.topOk_mk (c:=c__law_line) (k:=1) trivial ⟨Z0,trivial⟩ ⟨(H7 base M).mono (by decide),trivial⟩ TB trivial trivial trivial) sc__law_line rfl r__law_line (fun _ _ _ _ _ _ us hl => J.ln2 us hl fun _ _ => rfl)
  have H10:∀ base:Heap,J.ModB K mg base → J.Has l.prog w K mg base 3 "_law_moved" 2 F__law_moved:=fun base M => J.has_def (ps:=["shift","place"]) X G d10 (J.topOk_mk (c:=c__law_moved) (k:=2) trivial trivial ⟨(H9 base M).mono (by decide),trivial⟩ TB trivial trivial trivial) sc__law_moved rfl r__law_moved (fun _ _ _ _ _ _ us hl => J.ln2 us hl fun _ _ => rfl)
  have H11:∀ base:Heap,J.ModB K mg base → J.Has l.prog w K mg base 3 "_law_ends" 3 F__law_ends:=fun base M => J.has_def (ps:=["shift","low","high"]) X G d11 (J.topOk_mk (c:=c__law_ends) (k:=2) trivial ⟨Z2,trivial⟩ ⟨(H9 base M).mono (by decide),trivial⟩ TB trivial trivial trivial) sc__law_ends rfl r__law_ends (fun _ _ _ _ _ _ us hl => J.ln3 us hl fun _ _ _ => rfl)
  have H12:∀ base:Heap,J.ModB K mg base → J.Has l.prog w K mg base 4 "_law_area_moved" 2 F__law_area_moved:=fun base M => J.has_def (ps:=["shift","area"]) X G d12 (J.topOk_mk (c:=c__law_area_moved) (k:=3) trivial trivial ⟨(H11 base M).mono (by decide),trivial⟩ TB trivial trivial trivial) sc__law_area_moved rfl r__law_area_moved (fun _ _ _ _ _ _ us hl => J.ln2 us hl fun _ _ => rfl)
  have H13:∀ base:Heap,J.ModB K mg base → J.Has l.prog w K mg base 3 "_law_side_lost" 2 F__law_side_lost:=fun base M => J.has_def (ps:=["shift","area"]) X G d13 (J.topOk_mk (c:=c__law_side_lost) (k:=2) trivial trivial ⟨(H9 base M).mono (by decide),trivial⟩ TB trivial trivial trivial) sc__law_side_lost rfl r__law_side_lost (fun _ _ _ _ _ _ us hl => J.ln2 us hl fun _ _ => rfl)
  have H14:∀ base:Heap,J.ModB K mg base → J.Has l.prog w K mg base 1 "_law_gone" 1 F__law_gone:=fun base M => J.has_def (ps:=["shift"]) X G d14 (J.topOk_mk (c:=c__law_gone) (k:=0) trivial ⟨Z0,trivial⟩ trivial TB trivial trivial trivial) sc__law_gone rfl r__law_gone (fun _ _ _ _ _ _ us hl => J.ln1 us hl fun _ => rfl)
  have G15:∀ base:Heap,J.ModB K mg base → ∀ n:Nat,J.Has l.prog w K mg base (4 + n) "_law_turned" 2 (R__law_turned n):=fun base M n => by
    induction n with
    | zero => exact J.has_bad (ps:=["shift","formula"]) X G d15 (fun _ _ _ _ _ _ us hl => J.ln2 us hl fun _ _ => rfl)
    | succ n ih => exact J.has_def (ps:=["shift","formula"]) X G d15 (J.topOk_mk (c:=(c__law_turned (R__law_turned n))) (k:=(4 + n)) trivial ⟨Z0,Z1,trivial⟩ ⟨(H10 base M).mono (by omega),(H12 base M).mono (by omega),ih,(H13 base M).mono (by omega),(H14 base M).mono (by omega),trivial⟩ TB trivial trivial trivial) (sc__law_turned (R__law_turned n)) rfl (r__law_turned (R__law_turned n)) (fun _ _ _ _ _ _ us hl => J.ln2 us hl fun _ _ => rfl)
  have H15:∀ base:Heap,J.ModB K mg base → J.Has l.prog w K mg base 10 "_law_turned" 2 F__law_turned:=fun base M => (G15 base M 6)
  have H16:∀ base:Heap,J.ModB K mg base → J.Has l.prog w K mg base 1 "part_many" 1 F_part_many:=fun base M => J.has_def (ps:=["word"]) X G d16 (J.topOk_mk (c:=c_part_many) (k:=0) trivial trivial trivial TB trivial trivial ⟨⟨_,_,_,PySem.W.mg_of X G dv0,dw0,dm0,⟨⟨dx0_0,⟨_,rfl⟩,⟨_,rfl⟩⟩,⟨dx0_1,⟨_,rfl⟩,⟨_,rfl⟩⟩,⟨dx0_2,⟨_,rfl⟩,⟨_,rfl⟩⟩,⟨dx0_3,⟨_,rfl⟩,⟨_,rfl⟩⟩,⟨dx0_4,⟨_,rfl⟩,⟨_,rfl⟩⟩,⟨dx0_5,⟨_,rfl⟩,⟨_,rfl⟩⟩,⟨dx0_6,⟨_,rfl⟩,⟨_,rfl⟩⟩,⟨dx0_7,⟨_,rfl⟩,⟨_,rfl⟩⟩,⟨dx0_8,⟨_,rfl⟩,⟨_,rfl⟩⟩,⟨dx0_9,⟨_,rfl⟩,⟨_,rfl⟩⟩,⟨dx0_10,⟨_,rfl⟩,⟨_,rfl⟩⟩,⟨dx0_11,⟨_,rfl⟩,⟨_,rfl⟩⟩,⟨dx0_12,⟨_,rfl⟩,⟨_,rfl⟩⟩,⟨dx0_13,⟨_,rfl⟩,⟨_,rfl⟩⟩,⟨dx0_14,⟨_,rfl⟩,⟨_,rfl⟩⟩,⟨dx0_15,⟨_,rfl⟩,⟨_,rfl⟩⟩,⟨dx0_16,⟨_,rfl⟩,⟨_,rfl⟩⟩,⟨dx0_17,⟨_,rfl⟩,⟨_,rfl⟩⟩,⟨dx0_18,⟨_,rfl⟩,⟨_,rfl⟩⟩,⟨dx0_19,⟨_,rfl⟩,⟨_,rfl⟩⟩,⟨dx0_20,⟨_,rfl⟩,⟨_,rfl⟩⟩,trivial⟩,by decide +kernel⟩,trivial⟩) sc_part_many rfl r_part_many (fun _ _ _ _ _ _ us hl => J.ln1 us hl fun _ => rfl)
  have H17:∀ base:Heap,J.ModB K mg base → J.Has l.prog w K mg base 2 "tail_of" 1 F_tail_of:=fun base M => J.has_def (ps:=["formula"]) X G d17 (J.topOk_mk (c:=c_tail_of) (k:=1) trivial trivial ⟨(H16 base M).mono (by decide),trivial⟩ TB trivial trivial trivial) sc_tail_of rfl r_tail_of (fun _ _ _ _ _ _ us hl => J.ln1 us hl fun _ => rfl)
  have H18:∀ base:Heap,J.ModB K mg base → J.Has l.prog w K mg base 1 "has_area" 1 F_has_area:=fun base M => J.has_def (ps:=["word"]) X G d18 (J.topOk_mk (c:=c_has_area) (k:=0) ⟨⟨_,[.str "sum",.str "count",.str "least",.str "greatest",.str "find"],_,_,_,V0,w0,rfl,rfl,(show (5:Nat) ≤ sizeLine by decide),(.cons ⟨_,rfl⟩ (.cons ⟨_,rfl⟩ (.cons ⟨_,rfl⟩ (.cons ⟨_,rfl⟩ (.cons ⟨_,rfl⟩ .nil))))),⟨⟨rfl,by decide +kernel⟩,⟨⟨rfl,by decide +kernel⟩,⟨⟨rfl,by decide +kernel⟩,⟨⟨rfl,by decide +kernel⟩,⟨⟨rfl,by decide +kernel⟩,trivial⟩⟩⟩⟩⟩⟩,trivial⟩ trivial trivial TB trivial trivial trivial) sc_has_area rfl r_has_area (fun _ _ _ _ _ _ us hl => J.ln1 us hl fun _ => rfl)
  have H19:∀ base:Heap,J.ModB K mg base → J.Has l.prog w K mg base 2 "parts_of" 1 F_parts_of:=fun base M => J.has_def (ps:=["formula"]) X G d19 (J.topOk_mk (c:=c_parts_of) (k:=1) trivial trivial ⟨(H16 base M).mono (by decide),trivial⟩ TB trivial trivial trivial) sc_parts_of rfl r_parts_of (fun _ _ _ _ _ _ us hl => J.ln1 us hl fun _ => rfl)
  have G20:∀ base:Heap,J.ModB K mg base → ∀ (p:Lm) (L:LF),J.HasL l.prog w K mg base 8 p 3 L → ∀ n:Nat,J.Has l.prog w K mg base (8 + n) "rebuilt" 2 (R_rebuilt p L n):=fun base M p L HL n => by
    induction n with
    | zero => exact J.has_bad (ps:=["formula","goes"]) X G (J.def_at a20 l20 c20 k20) (fun _ _ _ _ _ _ us hl => J.ln2 us hl fun _ _ => rfl)
    | succ n ih => exact J.has_def (ps:=["formula","goes"]) X G (J.def_at a20 l20 c20 k20) (J.topOk_mk (c:=(c_rebuilt p L (R_rebuilt p L n))) (k:=(8 + n)) trivial ⟨Z1,trivial⟩ ⟨(H17 base M).mono (by omega),(H18 base M).mono (by omega),ih,(H19 base M).mono (by omega),trivial⟩ TB trivial trivial trivial (hx:=J.topX_lam rfl (HL.mono (by omega)) rfl rfl rfl)) (sc_rebuilt p L (R_rebuilt p L n)) rfl (r_rebuilt p L (R_rebuilt p L n)) (fun _ _ _ _ _ _ us hl => J.ln2 us hl fun _ _ => rfl)
  have H21:∀ base:Heap,J.ModB K mg base → J.Has l.prog w K mg base 1 "is_of_rows" 1 F_is_of_rows:=fun base M => J.has_def (ps:=["shift"]) X G d21 (J.topOk_mk (c:=c_is_of_rows) (k:=0) ⟨⟨_,[.str "rows in",.str "rows out"],_,_,_,V1,w1,rfl,rfl,(show (2:Nat) ≤ sizeLine by decide),(.cons ⟨_,rfl⟩ (.cons ⟨_,rfl⟩ .nil)),⟨⟨rfl,by decide +kernel⟩,⟨⟨rfl,by decide +kernel⟩,trivial⟩⟩⟩,trivial⟩ trivial trivial TB trivial trivial trivial) sc_is_of_rows rfl r_is_of_rows (fun _ _ _ _ _ _ us hl => J.ln1 us hl fun _ => rfl)
  have H22:∀ base:Heap,J.ModB K mg base → J.Has l.prog w K mg base 1 "is_in" 1 F_is_in:=fun base M => J.has_def (ps:=["shift"]) X G d22 (J.topOk_mk (c:=c_is_in) (k:=0) ⟨⟨_,[.str "rows in",.str "columns in"],_,_,_,V2,w2,rfl,rfl,(show (2:Nat) ≤ sizeLine by decide),(.cons ⟨_,rfl⟩ (.cons ⟨_,rfl⟩ .nil)),⟨⟨rfl,by decide +kernel⟩,⟨⟨rfl,by decide +kernel⟩,trivial⟩⟩⟩,trivial⟩ trivial trivial TB trivial trivial trivial) sc_is_in rfl r_is_in (fun _ _ _ _ _ _ us hl => J.ln1 us hl fun _ => rfl)
  have H23:∀ base:Heap,J.ModB K mg base → J.Has l.prog w K mg base 2 "is_taken" 2 F_is_taken:=fun base M => J.has_def (ps:=["shift","line"]) X G d23 (J.topOk_mk (c:=c_is_taken) (k:=1) trivial trivial ⟨(H22 base M).mono (by decide),trivial⟩ TB trivial trivial trivial) sc_is_taken rfl r_is_taken (fun _ _ _ _ _ _ us hl => J.ln2 us hl fun _ _ => rfl)
  have H24:∀ base:Heap,J.ModB K mg base → J.Has l.prog w K mg base 3 "loses_end_column" 2 F_loses_end_column:=fun base M => J.has_def (ps:=["shift","area"]) X G d24 (J.topOk_mk (c:=c_loses_end_column) (k:=2) trivial trivial ⟨(H21 base M).mono (by decide),(H23 base M).mono (by decide),trivial⟩ TB trivial trivial trivial) sc_loses_end_column rfl r_loses_end_column (fun _ _ _ _ _ _ us hl => J.ln2 us hl fun _ _ => rfl)
  have H25:∀ base:Heap,J.ModB K mg base → J.Has l.prog w K mg base 3 "moved_line" 2 F_moved_line:=fun base M => J.has_def (ps:=["shift","line"]) X G d25 (J.topOk_mk (c:=c_moved_line) (k:=2) ⟨⟨_,V3⟩,⟨_,V4⟩,trivial⟩ trivial ⟨(H23 base M).mono (by decide),(H22 base M).mono (by decide),(H21 base M).mono (by decide),trivial⟩ TB trivial trivial trivial) sc_moved_line rfl r_moved_line (fun _ _ _ _ _ _ us hl => J.ln2 us hl fun _ _ => rfl)
  have H26:∀ base:Heap,J.ModB K mg base → J.Has l.prog w K mg base 4 "moved_place" 2 F_moved_place:=fun base M => J.has_def (ps:=["shift","place"]) X G d26 (J.topOk_mk (c:=c_moved_place) (k:=3) trivial trivial ⟨(H21 base M).mono (by decide),(H25 base M).mono (by decide),trivial⟩ TB trivial trivial trivial) sc_moved_place rfl r_moved_place (fun _ _ _ _ _ _ us hl => J.ln2 us hl fun _ _ => rfl)
  have H27:∀ base:Heap,J.ModB K mg base → J.Has l.prog w K mg base 4 "moved_ends" 3 F_moved_ends:=fun base M => J.has_def (ps:=["shift","first","last"]) X G d27 (J.topOk_mk (c:=c_moved_ends) (k:=3) trivial ⟨Z2,trivial⟩ ⟨(H25 base M).mono (by decide),(H23 base M).mono (by decide),trivial⟩ TB trivial trivial trivial) sc_moved_ends rfl r_moved_ends (fun _ _ _ _ _ _ us hl => J.ln3 us hl fun _ _ _ => rfl)
  have H28:∀ base:Heap,J.ModB K mg base → J.Has l.prog w K mg base 5 "area_with_ends" 2 F_area_with_ends:=fun base M => J.has_def (ps:=["shift","area"]) X G d28 (J.topOk_mk (c:=c_area_with_ends) (k:=4) trivial trivial ⟨(H21 base M).mono (by decide),(H27 base M).mono (by decide),trivial⟩ TB trivial trivial trivial) sc_area_with_ends rfl r_area_with_ends (fun _ _ _ _ _ _ us hl => J.ln2 us hl fun _ _ => rfl)
  have H29:∀ base:Heap,J.ModB K mg base → J.Has l.prog w K mg base 1 "is_place" 1 F_is_place:=fun base M => J.has_def (ps:=["place"]) X G d29 (J.topOk_mk (c:=c_is_place) (k:=0) ⟨⟨_,V3⟩,⟨_,V4⟩,trivial⟩ trivial trivial TB trivial trivial trivial) sc_is_place rfl r_is_place (fun _ _ _ _ _ _ us hl => J.ln1 us hl fun _ => rfl)
  have H30:∀ base:Heap,J.ModB K mg base → J.Has l.prog w K mg base 2 "has_corners" 1 F_has_corners:=fun base M => J.has_def (ps:=["area"]) X G d30 (J.topOk_mk (c:=c_has_corners) (k:=1) trivial trivial ⟨(H29 base M).mono (by decide),trivial⟩ TB trivial trivial trivial) sc_has_corners rfl r_has_corners (fun _ _ _ _ _ _ us hl => J.ln1 us hl fun _ => rfl)
  have H31:∀ base:Heap,J.ModB K mg base → J.Has l.prog w K mg base 1 "area_many" 1 F_area_many:=fun base M => J.has_def (ps:=["area"]) X G d31 (J.topOk_mk (c:=c_area_many) (k:=0) trivial trivial trivial TB trivial trivial trivial) sc_area_many rfl r_area_many (fun _ _ _ _ _ _ us hl => J.ln1 us hl fun _ => rfl)
  have H32:∀ base:Heap,J.ModB K mg base → J.Has l.prog w K mg base 3 "is_area" 1 F_is_area:=fun base M => J.has_def (ps:=["area"]) X G d32 (J.topOk_mk (c:=c_is_area) (k:=2) ⟨⟨_,V5⟩,trivial⟩ trivial ⟨(H30 base M).mono (by decide),(H31 base M).mono (by decide),trivial⟩ TB trivial trivial trivial) sc_is_area rfl r_is_area (fun _ _ _ _ _ _ us hl => J.ln1 us hl fun _ => rfl)
  have H33:∀ base:Heap,J.ModB K mg base → J.Has l.prog w K mg base 6 "moved_area" 2 F_moved_area:=fun base M => J.has_def (ps:=["shift","area"]) X G d33 (J.topOk_mk (c:=c_moved_area) (k:=5) trivial trivial ⟨(H28 base M).mono (by decide),(H32 base M).mono (by decide),trivial⟩ TB trivial trivial trivial) sc_moved_area rfl r_moved_area (fun _ _ _ _ _ _ us hl => J.ln2 us hl fun _ _ => rfl)
  have H34:∀ base:Heap,J.ModB K mg base → J.Has l.prog w K mg base 7 "turned_spot" 3 F_turned_spot:=fun base M => J.has_def (ps:=["shift","word","spot"]) X G d34 (J.topOk_mk (c:=c_turned_spot) (k:=6) trivial trivial ⟨(H24 base M).mono (by decide),(H26 base M).mono (by decide),(H33 base M).mono (by decide),(H22 base M).mono (by decide),trivial⟩ TB ⟨⟨X0,PySem.W.mg_of X G xa0,⟨xa0,xe0⟩⟩,trivial⟩ trivial trivial) sc_turned_spot rfl r_turned_spot (fun _ _ _ _ _ _ us hl => J.ln3 us hl fun _ _ _ => rfl)
  have H35:∀ base:Heap,J.ModB K mg base → J.Has l.prog w K mg base 17 "turned" 2 F_turned:=fun base M => J.has_def (ps:=["shift","formula"]) X G (J.def_at a35 l35 c35 k35) (J.topOk_mk (c:=c_turned) (k:=16) trivial trivial ⟨(H34 base M).mono (by decide),trivial⟩ TB trivial trivial trivial (hx:=J.topX_mk rfl ⟨⟨⟨_,PySem.W.mg_of X G a20,k20⟩,fun base p L M HL => (G20 base M p L HL 8).mono (by decide)⟩,trivial⟩ ⟨(fun _ _ e base M => by cases e; exact (H34 base M).mono (by decide)),trivial⟩ (fun _ => ⟨_,LK35⟩))) sc_turned rfl r_turned (fun _ _ _ _ _ _ us hl => J.ln2 us hl fun _ _ => rfl) (fun _ => ⟨M,rfl⟩)
  have H36:∀ base:Heap,J.ModB K mg base → J.Has l.prog w K mg base 18 "_law_refused" 2 F__law_refused:=fun base M => J.has_def (ps:=["shift","formula"]) X G d36 (J.topOk_mk (c:=c__law_refused) (k:=17) trivial ⟨Z4,Z5,trivial⟩ ⟨(H35 base M).mono (by decide),trivial⟩ TB ⟨⟨X1,PySem.W.mg_of X G xa1,⟨xa1,xe1⟩⟩,trivial⟩ ⟨⟨X0,PySem.W.mg_of X G xa0,xa0⟩,⟨X2,PySem.W.mg_of X G xa2,xa2⟩,⟨X3,PySem.W.mg_of X G xa3,xa3⟩,⟨X4,PySem.W.mg_of X G xa4,xa4⟩,trivial⟩ trivial) sc__law_refused rfl r__law_refused (fun _ _ _ _ _ _ us hl => J.ln2 us hl fun _ _ => rfl)
  have H37:∀ base:Heap,J.ModB K mg base → J.Has l.prog w K mg base 3 "level_below" 1 F_level_below:=fun base M => J.has_def (ps:=["level"]) X G d37 (J.topOk_mk (c:=c_level_below) (k:=2) trivial trivial ⟨(H19 base M).mono (by decide),trivial⟩ TB trivial trivial trivial) sc_level_below rfl r_level_below (fun _ _ _ _ _ _ us hl => J.ln1 us hl fun _ => rfl)
  have H38:∀ base:Heap,J.ModB K mg base → J.Has l.prog w K mg base 1 "is_whole" 1 F_is_whole:=fun base M => J.has_def (ps:=["thing"]) X G d38 (J.topOk_mk (c:=c_is_whole) (k:=0) trivial ⟨Z4,Z0,Z6,trivial⟩ trivial TB trivial trivial trivial) sc_is_whole rfl r_is_whole (fun _ _ _ _ _ _ us hl => J.ln1 us hl fun _ => rfl)
  have H39:∀ base:Heap,J.ModB K mg base → J.Has l.prog w K mg base 1 "is_text_sign" 1 F_is_text_sign:=fun base M => J.has_def (ps:=["number"]) X G d39 (J.topOk_mk (c:=c_is_text_sign) (k:=0) trivial trivial trivial TB trivial trivial trivial) sc_is_text_sign rfl r_is_text_sign (fun _ _ _ _ _ _ us hl => J.ln1 us hl fun _ => rfl)
  have H40:∀ base:Heap,J.ModB K mg base → J.Has l.prog w K mg base 2 "has_text_signs" 1 F_has_text_signs:=fun base M => J.has_def (ps:=["text"]) X G d40 (J.topOk_mk (c:=c_has_text_signs) (k:=1) trivial ⟨Z7,Z8,trivial⟩ ⟨(H39 base M).mono (by decide),trivial⟩ TB trivial trivial trivial) sc_has_text_signs rfl r_has_text_signs (fun _ _ _ _ _ _ us hl => J.ln1 us hl fun _ => rfl)
  have H41:∀ base:Heap,J.ModB K mg base → J.Has l.prog w K mg base 3 "is_text" 1 F_is_text:=fun base M => J.has_def (ps:=["thing"]) X G d41 (J.topOk_mk (c:=c_is_text) (k:=2) ⟨⟨_,V6⟩,trivial⟩ ⟨Z4,Z9,Z10,trivial⟩ ⟨(H40 base M).mono (by decide),trivial⟩ TB trivial trivial trivial) sc_is_text rfl r_is_text (fun _ _ _ _ _ _ us hl => J.ln1 us hl fun _ => rfl)
  have H42:∀ base:Heap,J.ModB K mg base → J.Has l.prog w K mg base 2 "is_number_row" 2 F_is_number_row:=fun base M => J.has_def (ps:=["thing","many"]) X G d42 (J.topOk_mk (c:=c_is_number_row) (k:=1) trivial ⟨Z4,Z1,Z7,Z10,trivial⟩ ⟨(H38 base M).mono (by decide),trivial⟩ TB trivial trivial trivial) sc_is_number_row rfl r_is_number_row (fun _ _ _ _ _ _ us hl => J.ln2 us hl fun _ _ => rfl)
  have H43:∀ base:Heap,J.ModB K mg base → J.Has l.prog w K mg base 3 "are_pins" 2 F_are_pins:=fun base M => J.has_def (ps:=["thing","many"]) X G d43 (J.topOk_mk (c:=c_are_pins) (k:=2) trivial ⟨Z7,trivial⟩ ⟨(H42 base M).mono (by decide),trivial⟩ TB trivial trivial trivial) sc_are_pins rfl r_are_pins (fun _ _ _ _ _ _ us hl => J.ln2 us hl fun _ _ => rfl)
  have H44:∀ base:Heap,J.ModB K mg base → J.Has l.prog w K mg base 4 "is_tail" 2 F_is_tail:=fun base M => J.has_def (ps:=["word","tail"]) X G d44 (J.topOk_mk (c:=c_is_tail) (k:=3) trivial ⟨Z10,trivial⟩ ⟨(H18 base M).mono (by decide),(H38 base M).mono (by decide),(H41 base M).mono (by decide),(H42 base M).mono (by decide),(H29 base M).mono (by decide),(H43 base M).mono (by decide),(H32 base M).mono (by decide),trivial⟩ TB trivial trivial trivial) sc_is_tail rfl r_is_tail (fun _ _ _ _ _ _ us hl => J.ln2 us hl fun _ _ => rfl)
  have H45:∀ base:Heap,J.ModB K mg base → J.Has l.prog w K mg base 5 "is_piece" 1 F_is_piece:=fun base M => J.has_def (ps:=["thing"]) X G d45 (J.topOk_mk (c:=c_is_piece) (k:=4) trivial ⟨Z4,Z1,Z10,Z9,trivial⟩ ⟨(H44 base M).mono (by decide),(H16 base M).mono (by decide),(H17 base M).mono (by decide),(H19 base M).mono (by decide),trivial⟩ TB trivial trivial ⟨⟨_,_,_,PySem.W.mg_of X G dv0,dw0,dm0,⟨⟨dx0_0,⟨_,rfl⟩,⟨_,rfl⟩⟩,⟨dx0_1,⟨_,rfl⟩,⟨_,rfl⟩⟩,⟨dx0_2,⟨_,rfl⟩,⟨_,rfl⟩⟩,⟨dx0_3,⟨_,rfl⟩,⟨_,rfl⟩⟩,⟨dx0_4,⟨_,rfl⟩,⟨_,rfl⟩⟩,⟨dx0_5,⟨_,rfl⟩,⟨_,rfl⟩⟩,⟨dx0_6,⟨_,rfl⟩,⟨_,rfl⟩⟩,⟨dx0_7,⟨_,rfl⟩,⟨_,rfl⟩⟩,⟨dx0_8,⟨_,rfl⟩,⟨_,rfl⟩⟩,⟨dx0_9,⟨_,rfl⟩,⟨_,rfl⟩⟩,⟨dx0_10,⟨_,rfl⟩,⟨_,rfl⟩⟩,⟨dx0_11,⟨_,rfl⟩,⟨_,rfl⟩⟩,⟨dx0_12,⟨_,rfl⟩,⟨_,rfl⟩⟩,⟨dx0_13,⟨_,rfl⟩,⟨_,rfl⟩⟩,⟨dx0_14,⟨_,rfl⟩,⟨_,rfl⟩⟩,⟨dx0_15,⟨_,rfl⟩,⟨_,rfl⟩⟩,⟨dx0_16,⟨_,rfl⟩,⟨_,rfl⟩⟩,⟨dx0_17,⟨_,rfl⟩,⟨_,rfl⟩⟩,⟨dx0_18,⟨_,rfl⟩,⟨_,rfl⟩⟩,⟨dx0_19,⟨_,rfl⟩,⟨_,rfl⟩⟩,⟨dx0_20,⟨_,rfl⟩,⟨_,rfl⟩⟩,trivial⟩,by decide +kernel⟩,trivial⟩) sc_is_piece rfl r_is_piece (fun _ _ _ _ _ _ us hl => J.ln1 us hl fun _ => rfl)
  have H46:∀ base:Heap,J.ModB K mg base → J.Has l.prog w K mg base 6 "made_formula" 1 F_made_formula:=fun base M => J.has_def (ps:=["formula"]) X G d46 (J.topOk_mk (c:=c_made_formula) (k:=5) ⟨⟨_,V7⟩,⟨_,V8⟩,trivial⟩ ⟨Z10,Z7,trivial⟩ ⟨(H37 base M).mono (by decide),(H45 base M).mono (by decide),trivial⟩ TB ⟨⟨X3,PySem.W.mg_of X G xa3,⟨xa3,xe3⟩⟩,trivial⟩ trivial trivial) sc_made_formula rfl r_made_formula (fun _ _ _ _ _ _ us hl => J.ln1 us hl fun _ => rfl)
  exact J.fn_def Fu (J.topOk_mk (c:=c_law) (k:=18) trivial ⟨Z2,Z4,Z1,trivial⟩ ⟨(H1 base M).mono (by decide),(H6 base M).mono (by decide),(H8 base M).mono (by decide),(H15 base M).mono (by decide),(H35 base M).mono (by decide),(H36 base M).mono (by decide),(H46 base M).mono (by decide),trivial⟩ TB trivial trivial trivial) sc_law rfl r_law
theorem all_mk {l:PySem.W.OpenLaw} {w:World} {K:PySem.W.Frag} {h:Heap} {mg:Str → Option Value} {fa:Addr} (X:K.In h) (G:h.Ns mainGlobals mg) (hfa:mg "law" = some (.ref fa))
    {f20 f35:Addr} {od20 od35 an20 an35:Option Addr} {sl20 sl35:Array (Option Value)} {oc20 oc35 kV20 kV35 dc20 dc35 pm20 pm35 cd20 ct20 ct35:Value} {tk0_0 tk0_1 tk0_2 tk0_3 tk0_4 tk1_0 tk1_1 tk2_0 tk2_1 tk3 tk4 tk5 tk6 tk7 tk8:Tok} {ca0:Addr} {cd0_:Option Addr} {cn0:Nat} {cs0:Array (Option Value)} {ca1:Addr} {cd1_:Option Addr} {cn1:Nat} {cs1:Array (Option Value)} {ca2:Addr} {cd2_:Option Addr} {cn2:Nat} {cs2:Array (Option Value)} {da0:Addr} {de0:Nat} {dh0_0 dh0_1 dh0_2 dh0_3 dh0_4 dh0_5 dh0_6 dh0_7 dh0_8 dh0_9 dh0_10 dh0_11 dh0_12 dh0_13 dh0_14 dh0_15 dh0_16 dh0_17 dh0_18 dh0_19 dh0_20:Int} {dk0_0 dk0_1 dk0_2 dk0_3 dk0_4 dk0_5 dk0_6 dk0_7 dk0_8 dk0_9 dk0_10 dk0_11 dk0_12 dk0_13 dk0_14 dk0_15 dk0_16 dk0_17 dk0_18 dk0_19 dk0_20 dt0_0 dt0_1 dt0_2 dt0_3 dt0_4 dt0_5 dt0_6 dt0_7 dt0_8 dt0_9 dt0_10 dt0_11 dt0_12 dt0_13 dt0_14 dt0_15 dt0_16 dt0_17 dt0_18 dt0_19 dt0_20:Tok} {X0 X1 X2 X3 X4:Addr} {cC35 LP35:Addr} {oD35:Option Addr} {oS35:Array (Option Value)} {oV35:Array Value} {of35:Str} {ot35 og35 ox35:Tok} {ofl35 otx35:Int} {oi35:Bool} {ts:List Addr}
    (d1:J.DefAt K "_law_pot" s__law_pot)
    (d2:J.DefAt K "_law_take" s__law_take)
    (d3:J.DefAt K "_law_place" s__law_place)
    (d4:J.DefAt K "_law_pins" s__law_pins)
    (d5:J.DefAt K "_law_area" s__law_area)
    (d6:J.DefAt K "_law_formula" s__law_formula)
    (d7:J.DefAt K "_law_most" s__law_most)
    (d8:J.DefAt K "_law_shift" s__law_shift)
    (d9:J.DefAt K "_law_line" s__law_line)
    (d10:J.DefAt K "_law_moved" s__law_moved)
    (d11:J.DefAt K "_law_ends" s__law_ends)
    (d12:J.DefAt K "_law_area_moved" s__law_area_moved)
    (d13:J.DefAt K "_law_side_lost" s__law_side_lost)
    (d14:J.DefAt K "_law_gone" s__law_gone)
    (d15:J.DefAt K "_law_turned" s__law_turned)
    (d16:J.DefAt K "part_many" s_part_many)
    (d17:J.DefAt K "tail_of" s_tail_of)
    (d18:J.DefAt K "has_area" s_has_area)
    (d19:J.DefAt K "parts_of" s_parts_of)
    (a20:PySem.W.nsIn K mainGlobals "rebuilt" = some (some (.ref f20))) (l20:K.lookup f20 = some ⟨oc20,od20,.func (PySem.W.fnOf "rebuilt" "rebuilt" (defArgs s_rebuilt) (defBody s_rebuilt) (defScope s_rebuilt) .none kV20 dc20 pm20 an20 cd20 ct20),sl20⟩) (c20:PySem.W.codeIn K cd20 "rebuilt" = true) (k20:PySem.W.keepIn K (.ref f20) = true)
    (d21:J.DefAt K "is_of_rows" s_is_of_rows)
    (d22:J.DefAt K "is_in" s_is_in)
    (d23:J.DefAt K "is_taken" s_is_taken)
    (d24:J.DefAt K "loses_end_column" s_loses_end_column)
    (d25:J.DefAt K "moved_line" s_moved_line)
    (d26:J.DefAt K "moved_place" s_moved_place)
    (d27:J.DefAt K "moved_ends" s_moved_ends)
    (d28:J.DefAt K "area_with_ends" s_area_with_ends)
    (d29:J.DefAt K "is_place" s_is_place)
    (d30:J.DefAt K "has_corners" s_has_corners)
    (d31:J.DefAt K "area_many" s_area_many)
    (d32:J.DefAt K "is_area" s_is_area)
    (d33:J.DefAt K "moved_area" s_moved_area)
    (d34:J.DefAt K "turned_spot" s_turned_spot)
    (a35:PySem.W.nsIn K mainGlobals "turned" = some (some (.ref f35))) (l35:K.lookup f35 = some ⟨oc35,od35,.func (PySem.W.fnOf "turned" "turned" (defArgs s_turned) (defBody s_turned) (defScope s_turned) .none kV35 dc35 pm35 an35 (.ref cC35) ct35),sl35⟩) (c35:PySem.W.codeIn K (.ref cC35) "turned" = true) (k35:PySem.W.keepIn K (.ref f35) = true)
    (d36:J.DefAt K "_law_refused" s__law_refused)
    (d37:J.DefAt K "level_below" s_level_below)
    (d38:J.DefAt K "is_whole" s_is_whole)
    (d39:J.DefAt K "is_text_sign" s_is_text_sign)
    (d40:J.DefAt K "has_text_signs" s_has_text_signs)
    (d41:J.DefAt K "is_text" s_is_text)
    (d42:J.DefAt K "is_number_row" s_is_number_row)
    (d43:J.DefAt K "are_pins" s_are_pins)
    (d44:J.DefAt K "is_tail" s_is_tail)
    (d45:J.DefAt K "is_piece" s_is_piece)
    (d46:J.DefAt K "made_formula" s_made_formula)
    (d47:J.DefAt K "law" s_law)
    (z0:PySem.W.nsIn K mainGlobals "int" = some none)
    (z1:PySem.W.nsIn K mainGlobals "tuple" = some none)
    (z2:PySem.W.nsIn K mainGlobals "range" = some none)
    (z3:PySem.W.nsIn K mainGlobals "min" = some none)
    (z4:PySem.W.nsIn K mainGlobals "isinstance" = some none)
    (z5:PySem.W.nsIn K mainGlobals "ValueError" = some none)
    (z6:PySem.W.nsIn K mainGlobals "bool" = some none)
    (z7:PySem.W.nsIn K mainGlobals "all" = some none)
    (z8:PySem.W.nsIn K mainGlobals "ord" = some none)
    (z9:PySem.W.nsIn K mainGlobals "str" = some none)
    (z10:PySem.W.nsIn K mainGlobals "len" = some none)
    (v0:PySem.W.nsIn K mainGlobals "AREA_WORDS" = some (some (.ref ca0))) (w0:K.lookup ca0 = some ⟨.type "tuple",cd0_,.seq #[.str "sum" tk0_0,.str "count" tk0_1,.str "least" tk0_2,.str "greatest" tk0_3,.str "find" tk0_4] cn0,cs0⟩)
    (v1:PySem.W.nsIn K mainGlobals "ROW_WAYS" = some (some (.ref ca1))) (w1:K.lookup ca1 = some ⟨.type "tuple",cd1_,.seq #[.str "rows in" tk1_0,.str "rows out" tk1_1] cn1,cs1⟩)
    (v2:PySem.W.nsIn K mainGlobals "IN_WAYS" = some (some (.ref ca2))) (w2:K.lookup ca2 = some ⟨.type "tuple",cd2_,.seq #[.str "rows in" tk2_0,.str "columns in" tk2_1] cn2,cs2⟩)
    (v3:PySem.W.nsIn K mainGlobals "ROWS" = some (some (.int 99 tk3)))
    (v4:PySem.W.nsIn K mainGlobals "COLUMNS" = some (some (.int 26 tk4)))
    (v5:PySem.W.nsIn K mainGlobals "MOST_PLACES" = some (some (.int 300 tk5)))
    (v6:PySem.W.nsIn K mainGlobals "MOST_SIGNS" = some (some (.int 40 tk6)))
    (v7:PySem.W.nsIn K mainGlobals "MOST_PIECES" = some (some (.int 60 tk7)))
    (v8:PySem.W.nsIn K mainGlobals "MOST_DEEP" = some (some (.int 12 tk8)))
    (dv0:PySem.W.nsIn K mainGlobals "PART_COUNTS" = some (some (.ref da0))) (dw0:K.lookup da0 = some ⟨.type "dict",none,.dict #[⟨dh0_0,.str "num" dk0_0,.int 0 dt0_0⟩,⟨dh0_1,.str "text" dk0_1,.int 0 dt0_1⟩,⟨dh0_2,.str "lost" dk0_2,.int 0 dt0_2⟩,⟨dh0_3,.str "at" dk0_3,.int 0 dt0_3⟩,⟨dh0_4,.str "minus" dk0_4,.int 1 dt0_4⟩,⟨dh0_5,.str "not" dk0_5,.int 1 dt0_5⟩,⟨dh0_6,.str "+" dk0_6,.int 2 dt0_6⟩,⟨dh0_7,.str "-" dk0_7,.int 2 dt0_7⟩,⟨dh0_8,.str "*" dk0_8,.int 2 dt0_8⟩,⟨dh0_9,.str "/" dk0_9,.int 2 dt0_9⟩,⟨dh0_10,.str "&" dk0_10,.int 2 dt0_10⟩,⟨dh0_11,.str "<" dk0_11,.int 2 dt0_11⟩,⟨dh0_12,.str "=" dk0_12,.int 2 dt0_12⟩,⟨dh0_13,.str "rest" dk0_13,.int 2 dt0_13⟩,⟨dh0_14,.str "if" dk0_14,.int 3 dt0_14⟩,⟨dh0_15,.str "else" dk0_15,.int 2 dt0_15⟩,⟨dh0_16,.str "sum" dk0_16,.int 0 dt0_16⟩,⟨dh0_17,.str "count" dk0_17,.int 0 dt0_17⟩,⟨dh0_18,.str "least" dk0_18,.int 0 dt0_18⟩,⟨dh0_19,.str "greatest" dk0_19,.int 0 dt0_19⟩,⟨dh0_20,.str "find" dk0_20,.int 1 dt0_20⟩] de0,#[]⟩) (dm0:(da0 == sysModules) = false) (dx0_0:dh0_0 = hashStr w "num") (dx0_1:dh0_1 = hashStr w "text") (dx0_2:dh0_2 = hashStr w "lost") (dx0_3:dh0_3 = hashStr w "at") (dx0_4:dh0_4 = hashStr w "minus") (dx0_5:dh0_5 = hashStr w "not") (dx0_6:dh0_6 = hashStr w "+") (dx0_7:dh0_7 = hashStr w "-") (dx0_8:dh0_8 = hashStr w "*") (dx0_9:dh0_9 = hashStr w "/") (dx0_10:dh0_10 = hashStr w "&") (dx0_11:dh0_11 = hashStr w "<") (dx0_12:dh0_12 = hashStr w "=") (dx0_13:dh0_13 = hashStr w "rest") (dx0_14:dh0_14 = hashStr w "if") (dx0_15:dh0_15 = hashStr w "else") (dx0_16:dh0_16 = hashStr w "sum") (dx0_17:dh0_17 = hashStr w "count") (dx0_18:dh0_18 = hashStr w "least") (dx0_19:dh0_19 = hashStr w "greatest") (dx0_20:dh0_20 = hashStr w "find")
    (xa0:PySem.W.nsIn K mainGlobals "NoRoom" = some (some (.ref X0))) (xe0:PySem.W.excIn K X0 bmV nwV = true) (xg0:PySem.W.findIn K (.ref X0) "__getattribute__" = some (some (.builtin "BaseException.__getattribute__"))) (xx0:PySem.W.findIn K (.ref X0) "__getattr__" = some none) (xc0:PySem.W.findIn K (.ref X0) "__class__" = some (some (.builtin "object.__class__")))
    (xa1:PySem.W.nsIn K mainGlobals "SheetError" = some (some (.ref X1))) (xe1:PySem.W.excIn K X1 bmV nwV = true)
    (xa2:PySem.W.nsIn K mainGlobals "BadArea" = some (some (.ref X2)))
    (xa3:PySem.W.nsIn K mainGlobals "BadFormula" = some (some (.ref X3))) (xe3:PySem.W.excIn K X3 bmV nwV = true) (xg3:PySem.W.findIn K (.ref X3) "__getattribute__" = some (some (.builtin "BaseException.__getattribute__"))) (xx3:PySem.W.findIn K (.ref X3) "__getattr__" = some none) (xc3:PySem.W.findIn K (.ref X3) "__class__" = some (some (.builtin "object.__class__")))
    (xa4:PySem.W.nsIn K mainGlobals "BadPlace" = some (some (.ref X4)))
    (pk0:PySem.W.kitOne K (.ref X0) (.ref X0) = some true)
    (pk1:PySem.W.kitOne K (.ref X0) (.ref X1) = some true)
    (pk2:PySem.W.kitOne K (.ref X0) (.ref X2) = some false)
    (pk3:PySem.W.kitOne K (.ref X0) (.ref X3) = some false)
    (pk4:PySem.W.kitOne K (.ref X0) (.ref X4) = some false)
    (pk5:PySem.W.kitOne K (.ref X3) (.ref X0) = some false)
    (pk6:PySem.W.kitOne K (.ref X3) (.ref X1) = some true)
    (pk7:PySem.W.kitOne K (.ref X3) (.ref X2) = some false)
    (pk8:PySem.W.kitOne K (.ref X3) (.ref X3) = some true)
    (pk9:PySem.W.kitOne K (.ref X3) (.ref X4) = some false)
    (pm0:PySem.W.mroIn K X0 (.ref X1) = some true)
    (pm1:PySem.W.mroIn K X3 (.ref X1) = some true)
    (pt0:PySem.W.kitOne K (.ref X0) (.type "ValueError") = some true)
    (pt1:PySem.W.kitOne K (.ref X3) (.type "ValueError") = some true)
    (tl35:K.lookup cC35 = some ⟨.type "code",oD35,.fields oV35,oS35⟩) (tv35:oV35[11]? = some (.ref LP35)) (t435:oV35.getD 11 .none = .ref LP35) (t535:oV35.getD 18 .none = .str of35 ot35) (t635:oV35.getD 7 .none = .int ofl35 og35) (t735:oV35.getD 9 .none = .bool oi35) (t835:oV35.getD 10 .none = .int otx35 ox35) (tn35:cC35 ≠ LP35) (tp35:K.lookup LP35 = none) (tm35:LP35 ∈ ts)
    (ab0:PySem.W.nsIn K mainGlobals "form_of" = some none)
    (ab1:PySem.W.nsIn K mainGlobals "formula_by" = some none) :
    J.TabsK K ts ∧ ∃ fd:FuncData,(∀ (s:Shared) (u:Value),BindsTo s fd ⟨[u],[]⟩ [("script",u)]) ∧ ∀ base:Heap,J.ModB K mg base → FnOk l.prog w K mg base (CXJ l.prog w) 19 fa fd ["script"] (spW K 1 F_law):=by
  have tb35:PySem.W.tabIn K "turned" = some (cC35,LP35):=by
    unfold PySem.W.tabIn
    rw [a35]
    dsimp only
    rw [l35]
    dsimp only
    rw [tl35]
    dsimp only
    rw [tv35]
  have tba0:PySem.W.tabIn K "form_of" = none:=by
    unfold PySem.W.tabIn
    rw [ab0]
  have tba1:PySem.W.tabIn K "formula_by" = none:=by
    unfold PySem.W.tabIn
    rw [ab1]
  have fr35:J.tabFree K "turned" = some LP35:=J.free_of tb35 tp35
  have fra0:J.tabFree K "form_of" = none:=by
    unfold J.tabFree
    rw [tba0]
  have fra1:J.tabFree K "formula_by" = none:=by
    unfold J.tabFree
    rw [tba1]
  have T:J.TabsK K ts:=fun q P hq t => by
    simp only [J.lamDefs,List.mem_cons,List.not_mem_nil,or_false] at hq
    rcases hq with rfl | rfl | rfl
    · rw [fra0] at t; cases t
    · rw [fra1] at t; cases t
    · rw [fr35] at t; cases t; exact ⟨tm35,_,_,_,tl35,rfl,rfl,tv35⟩
  have U35:∀ q,q ∈ J.lamDefs → J.tabFree K q = some LP35 → q = "turned":=fun q hq t => by
    simp only [J.lamDefs,List.mem_cons,List.not_mem_nil,or_false] at hq
    rcases hq with rfl | rfl | rfl
    · rw [fra0] at t; cases t
    · rw [fra1] at t; cases t
    · rfl
  exact ⟨T,all_mk0 X G hfa d1 d2 d3 d4 d5 d6 d7 d8 d9 d10 d11 d12 d13 d14 d15 d16 d17 d18 d19 a20 l20 c20 k20 d21 d22 d23 d24 d25 d26 d27 d28 d29 d30 d31 d32 d33 d34 a35 l35 c35 k35 d36 d37 d38 d39 d40 d41 d42 d43 d44 d45 d46 d47 z0 z1 z2 z3 z4 z5 z6 z7 z8 z9 z10 v0 w0 v1 w1 v2 w2 v3 v4 v5 v6 v7 v8 dv0 dw0 dm0 dx0_0 dx0_1 dx0_2 dx0_3 dx0_4 dx0_5 dx0_6 dx0_7 dx0_8 dx0_9 dx0_10 dx0_11 dx0_12 dx0_13 dx0_14 dx0_15 dx0_16 dx0_17 dx0_18 dx0_19 dx0_20 xa0 xe0 xg0 xx0 xc0 xa1 xe1 xa2 xa3 xe3 xg3 xx3 xc3 xa4 pk0 pk1 pk2 pk3 pk4 pk5 pk6 pk7 pk8 pk9 pm0 pm1 pt0 pt1 (J.lamK_mk (by decide) tb35 tp35 tl35 rfl rfl tv35 t435 t535 t635 t735 t835 tn35 U35)⟩
end K46
open PySem PySem.W PyProof.Rows
set_option maxRecDepth 100000 in
set_option maxHeartbeats 0 in
theorem PySem.Challenge.cw_onelook_k46_formulas_turned_holds : PySem.Challenge.rw_onelook_k46_formulas_turned.Holds := by
  refine K46.head ?_
  k_fill
  refine J.walk_ofT (l:=PySem.Challenge.rw_onelook_k46_formulas_turned) (n:=63) (k:=19) (x:="script") (CX:=fun w => J.CXJ PySem.Challenge.rw_onelook_k46_formulas_turned.prog w) (sp:=fun w => J.spW _ 1 K46.F_law) rfl (by decide) rfl ⟨rfl,by decide,by decide⟩ (fun w h Y => ⟨PySem.W.km_in_of Y,PySem.W.km_tabs_of Y⟩) ?F (fun w H a ns hl hO hS hT => J.law_sp K46.law_true H a ns hl hO hS hT) (fun _ _ _ _ _ z => z.elim fun _ y => y.elim fun _ x => x.2)
  case F =>
    intro w mg fa h KX G hmg
    refine' K46.all_mk KX G hmg ?d1 ?d2 ?d3 ?d4 ?d5 ?d6 ?d7 ?d8 ?d9 ?d10 ?d11 ?d12 ?d13 ?d14 ?d15 ?d16 ?d17 ?d18 ?d19 ?a20 ?l20 ?c20 ?k20 ?d21 ?d22 ?d23 ?d24 ?d25 ?d26 ?d27 ?d28 ?d29 ?d30 ?d31 ?d32 ?d33 ?d34 ?a35 ?l35 ?c35 ?k35 ?d36 ?d37 ?d38 ?d39 ?d40 ?d41 ?d42 ?d43 ?d44 ?d45 ?d46 ?d47 ?z0 ?z1 ?z2 ?z3 ?z4 ?z5 ?z6 ?z7 ?z8 ?z9 ?z10 ?v0 ?w0 ?v1 ?w1 ?v2 ?w2 ?v3 ?v4 ?v5 ?v6 ?v7 ?v8 ?dv0 ?dw0 ?dm0 ?dx0_0 ?dx0_1 ?dx0_2 ?dx0_3 ?dx0_4 ?dx0_5 ?dx0_6 ?dx0_7 ?dx0_8 ?dx0_9 ?dx0_10 ?dx0_11 ?dx0_12 ?dx0_13 ?dx0_14 ?dx0_15 ?dx0_16 ?dx0_17 ?dx0_18 ?dx0_19 ?dx0_20 ?xa0 ?xe0 ?xg0 ?xx0 ?xc0 ?xa1 ?xe1 ?xa2 ?xa3 ?xe3 ?xg3 ?xx3 ?xc3 ?xa4 ?pk0 ?pk1 ?pk2 ?pk3 ?pk4 ?pk5 ?pk6 ?pk7 ?pk8 ?pk9 ?pm0 ?pm1 ?pt0 ?pt1 ?tl35 ?tv35 ?t435 ?t535 ?t635 ?t735 ?t835 ?tn35 ?tp35 ?tm35 ?ab0 ?ab1
    (case d1 => refine' J.def_at ?a ?l ?c ?k; (case a => k_is); (case l => k_is); (case c => k_is); (case k => k_is))
    (case d2 => refine' J.def_at ?a ?l ?c ?k; (case a => k_is); (case l => k_is); (case c => k_is); (case k => k_is))
    (case d3 => refine' J.def_at ?a ?l ?c ?k; (case a => k_is); (case l => k_is); (case c => k_is); (case k => k_is))
    (case d4 => refine' J.def_at ?a ?l ?c ?k; (case a => k_is); (case l => k_is); (case c => k_is); (case k => k_is))
    (case d5 => refine' J.def_at ?a ?l ?c ?k; (case a => k_is); (case l => k_is); (case c => k_is); (case k => k_is))
    (case d6 => refine' J.def_at ?a ?l ?c ?k; (case a => k_is); (case l => k_is); (case c => k_is); (case k => k_is))
    (case d7 => refine' J.def_at ?a ?l ?c ?k; (case a => k_is); (case l => k_is); (case c => k_is); (case k => k_is))
    (case d8 => refine' J.def_at ?a ?l ?c ?k; (case a => k_is); (case l => k_is); (case c => k_is); (case k => k_is))
    (case d9 => refine' J.def_at ?a ?l ?c ?k; (case a => k_is); (case l => k_is); (case c => k_is); (case k => k_is))
    (case d10 => refine' J.def_at ?a ?l ?c ?k; (case a => k_is); (case l => k_is); (case c => k_is); (case k => k_is))
    (case d11 => refine' J.def_at ?a ?l ?c ?k; (case a => k_is); (case l => k_is); (case c => k_is); (case k => k_is))
    (case d12 => refine' J.def_at ?a ?l ?c ?k; (case a => k_is); (case l => k_is); (case c => k_is); (case k => k_is))
    (case d13 => refine' J.def_at ?a ?l ?c ?k; (case a => k_is); (case l => k_is); (case c => k_is); (case k => k_is))
    (case d14 => refine' J.def_at ?a ?l ?c ?k; (case a => k_is); (case l => k_is); (case c => k_is); (case k => k_is))
    (case d15 => refine' J.def_at ?a ?l ?c ?k; (case a => k_is); (case l => k_is); (case c => k_is); (case k => k_is))
    (case d16 => refine' J.def_at ?a ?l ?c ?k; (case a => k_is); (case l => k_is); (case c => k_is); (case k => k_is))
    (case d17 => refine' J.def_at ?a ?l ?c ?k; (case a => k_is); (case l => k_is); (case c => k_is); (case k => k_is))
    (case d18 => refine' J.def_at ?a ?l ?c ?k; (case a => k_is); (case l => k_is); (case c => k_is); (case k => k_is))
    (case d19 => refine' J.def_at ?a ?l ?c ?k; (case a => k_is); (case l => k_is); (case c => k_is); (case k => k_is))
    (case a20 => k_is)
    (case l20 => k_is)
    (case c20 => k_is)
    (case k20 => k_is)
    (case d21 => refine' J.def_at ?a ?l ?c ?k; (case a => k_is); (case l => k_is); (case c => k_is); (case k => k_is))
    (case d22 => refine' J.def_at ?a ?l ?c ?k; (case a => k_is); (case l => k_is); (case c => k_is); (case k => k_is))
    (case d23 => refine' J.def_at ?a ?l ?c ?k; (case a => k_is); (case l => k_is); (case c => k_is); (case k => k_is))
    (case d24 => refine' J.def_at ?a ?l ?c ?k; (case a => k_is); (case l => k_is); (case c => k_is); (case k => k_is))
    (case d25 => refine' J.def_at ?a ?l ?c ?k; (case a => k_is); (case l => k_is); (case c => k_is); (case k => k_is))
    (case d26 => refine' J.def_at ?a ?l ?c ?k; (case a => k_is); (case l => k_is); (case c => k_is); (case k => k_is))
    (case d27 => refine' J.def_at ?a ?l ?c ?k; (case a => k_is); (case l => k_is); (case c => k_is); (case k => k_is))
    (case d28 => refine' J.def_at ?a ?l ?c ?k; (case a => k_is); (case l => k_is); (case c => k_is); (case k => k_is))
    (case d29 => refine' J.def_at ?a ?l ?c ?k; (case a => k_is); (case l => k_is); (case c => k_is); (case k => k_is))
    (case d30 => refine' J.def_at ?a ?l ?c ?k; (case a => k_is); (case l => k_is); (case c => k_is); (case k => k_is))
    (case d31 => refine' J.def_at ?a ?l ?c ?k; (case a => k_is); (case l => k_is); (case c => k_is); (case k => k_is))
    (case d32 => refine' J.def_at ?a ?l ?c ?k; (case a => k_is); (case l => k_is); (case c => k_is); (case k => k_is))
    (case d33 => refine' J.def_at ?a ?l ?c ?k; (case a => k_is); (case l => k_is); (case c => k_is); (case k => k_is))
    (case d34 => refine' J.def_at ?a ?l ?c ?k; (case a => k_is); (case l => k_is); (case c => k_is); (case k => k_is))
    (case a35 => k_is)
    (case l35 => k_is)
    (case c35 => k_is)
    (case k35 => k_is)
    (case d36 => refine' J.def_at ?a ?l ?c ?k; (case a => k_is); (case l => k_is); (case c => k_is); (case k => k_is))
    (case d37 => refine' J.def_at ?a ?l ?c ?k; (case a => k_is); (case l => k_is); (case c => k_is); (case k => k_is))
    (case d38 => refine' J.def_at ?a ?l ?c ?k; (case a => k_is); (case l => k_is); (case c => k_is); (case k => k_is))
    (case d39 => refine' J.def_at ?a ?l ?c ?k; (case a => k_is); (case l => k_is); (case c => k_is); (case k => k_is))
    (case d40 => refine' J.def_at ?a ?l ?c ?k; (case a => k_is); (case l => k_is); (case c => k_is); (case k => k_is))
    (case d41 => refine' J.def_at ?a ?l ?c ?k; (case a => k_is); (case l => k_is); (case c => k_is); (case k => k_is))
    (case d42 => refine' J.def_at ?a ?l ?c ?k; (case a => k_is); (case l => k_is); (case c => k_is); (case k => k_is))
    (case d43 => refine' J.def_at ?a ?l ?c ?k; (case a => k_is); (case l => k_is); (case c => k_is); (case k => k_is))
    (case d44 => refine' J.def_at ?a ?l ?c ?k; (case a => k_is); (case l => k_is); (case c => k_is); (case k => k_is))
    (case d45 => refine' J.def_at ?a ?l ?c ?k; (case a => k_is); (case l => k_is); (case c => k_is); (case k => k_is))
    (case d46 => refine' J.def_at ?a ?l ?c ?k; (case a => k_is); (case l => k_is); (case c => k_is); (case k => k_is))
    (case d47 => refine' J.def_at ?a ?l ?c ?k; (case a => k_is); (case l => k_is); (case c => k_is); (case k => k_is))
    (case z0 => k_is)
    (case z1 => k_is)
    (case z2 => k_is)
    (case z3 => k_is)
    (case z4 => k_is)
    (case z5 => k_is)
    (case z6 => k_is)
    (case z7 => k_is)
    (case z8 => k_is)
    (case z9 => k_is)
    (case z10 => k_is)
    (case v0 => k_is)
    (case w0 => k_is)
    (case v1 => k_is)
    (case w1 => k_is)
    (case v2 => k_is)
    (case w2 => k_is)
    (case v3 => k_is)
    (case v4 => k_is)
    (case v5 => k_is)
    (case v6 => k_is)
    (case v7 => k_is)
    (case v8 => k_is)
    (case dv0 => k_is)
    (case dw0 => k_is)
    (case dm0 => rfl)
    (case dx0_0 => rfl)
    (case dx0_1 => rfl)
    (case dx0_2 => rfl)
    (case dx0_3 => rfl)
    (case dx0_4 => rfl)
    (case dx0_5 => rfl)
    (case dx0_6 => rfl)
    (case dx0_7 => rfl)
    (case dx0_8 => rfl)
    (case dx0_9 => rfl)
    (case dx0_10 => rfl)
    (case dx0_11 => rfl)
    (case dx0_12 => rfl)
    (case dx0_13 => rfl)
    (case dx0_14 => rfl)
    (case dx0_15 => rfl)
    (case dx0_16 => rfl)
    (case dx0_17 => rfl)
    (case dx0_18 => rfl)
    (case dx0_19 => rfl)
    (case dx0_20 => rfl)
    (case xa0 => k_is)
    (case xe0 => k_exc)
    (case xg0 => k_is)
    (case xx0 => k_is)
    (case xc0 => k_is)
    (case xa1 => k_is)
    (case xe1 => k_exc)
    (case xa2 => k_is)
    (case xa3 => k_is)
    (case xe3 => k_exc)
    (case xg3 => k_is)
    (case xx3 => k_is)
    (case xc3 => k_is)
    (case xa4 => k_is)
    (case pk0 => kit_is)
    (case pk1 => kit_is)
    (case pk2 => kit_is)
    (case pk3 => kit_is)
    (case pk4 => kit_is)
    (case pk5 => kit_is)
    (case pk6 => kit_is)
    (case pk7 => kit_is)
    (case pk8 => kit_is)
    (case pk9 => kit_is)
    (case pm0 => k_is)
    (case pm1 => k_is)
    (case pt0 => kit_is)
    (case pt1 => kit_is)
    (case tl35 => k_is)
    (case tv35 => rfl)
    (case t435 => rfl)
    (case t535 => rfl)
    (case t635 => rfl)
    (case t735 => rfl)
    (case t835 => rfl)
    (case tn35 => decide)
    (case tp35 => rfl)
    (case tm35 => decide)
    (case ab0 => k_is)
    (case ab1 => k_is)
