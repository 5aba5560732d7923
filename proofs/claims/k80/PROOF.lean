import PyProof.Rows.All
import Wide.All
import OpenK.AllK
import Wide.FinOn
import Lean
import PyProof.EqAt
import PyProof.EqKinds
import PyProof.TupleCall
import PySem.Challenge.RW_onelook_k80_halves_made
open PySem renaming Addr→UE,Around→UG,FuncData→UH,NameKind→UI,Program→UJ,Shared→UK,Value→UL,World→UM,behindInMarks→UN,binaryOp→UO,bootBuiltins→UP,codeAny→UQ,compPost→UR,compareOp→US,foldedSetIterable→UT,isSubtype_type→UU,mainGlobals→UW,sizeLine→UX,starEach→UY,wpAny→UZ,wpAny_bind→U0,wpAny_dictEntries→U1,wpAny_holding→U2,wpAny_mono→U3,wpAny_newList→U4,wpAny_newObj_type→U5,wpAny_pure→U6,wpAny_truthy_bool→U7
open PyProof.Rows renaming Keyed→U8,SortSt→U9,oneType'→U_,wpS_bind→U',wpS_forRange→Va,wpS_mono→Vb,wpS_pure→Vc
noncomputable section
set_option Elab.async false
set_option linter.all false
set_option maxRecDepth 100000
namespace L2
open PySem PySem.Spec PyProof.Rows
abbrev Key:=Sum Int Str
def ng:Key->UL->Bool
 | .inl k,v=>Value.isInt k v
 | .inr x,v=>Value.isStrOf x v
def MR (w:UM):Key->Int
 | .inl k=>hashInt k
 | .inr x=>hashStr w x
theorem bb:∀{k:Key} {v:UL},ng k v=true->(∃i t,k=Sum.inl i/\v=Value.int i t)\/(∃x t,k=Sum.inr x/\v=Value.str x t)
 | .inl i,v,h=>by
  obtain⟨t,e⟩:=Value.isInt_shape (k:=i) (v:=v) h
  exact .inl ⟨i,t,rfl,e⟩
 | .inr x,v,h=>by
  obtain⟨t,e⟩:=Value.isStrOf_shape (x:=x) (v:=v) h
  exact .inr ⟨x,t,rfl,e⟩
theorem vH (i:Int) (t:Tok):ng (.inl i) (.int i t)=true:=by simp[ng,Value.isInt]
theorem vI (x:Str) (t:Tok):ng (.inr x) (.str x t)=true:=by simp[ng,Value.isStrOf]
theorem ET (a b:Int):decide ((Sum.inl a:Key)=Sum.inl b)=(a == b):=by
 by_cases e:a=b
 ·subst e;simp
 ·have h:¬(Sum.inl a:Key)=Sum.inl b:=fun q=>e (Sum.inl.inj q)
  rw[decide_eq_false h]
  exact(beq_eq_false_iff_ne.mpr e).symm
theorem EU (a b:Str):decide ((Sum.inr a:Key)=Sum.inr b)=decide (a=b):=by
 by_cases e:a=b
 ·subst e;simp
 ·have h:¬(Sum.inr a:Key)=Sum.inr b:=fun q=>e (Sum.inr.inj q)
  rw[decide_eq_false h,decide_eq_false e]
theorem EV (a:Int) (b:Str):decide ((Sum.inl a:Key)=Sum.inr b)=false:=decide_eq_false (fun q=>nomatch q)
theorem EW (a:Str) (b:Int):decide ((Sum.inr a:Key)=Sum.inl b)=false:=decide_eq_false (fun q=>nomatch q)
def aV (prog:UJ) (w:UM):PySem.KeyKind prog w Key where
 is:=ng
 hash:=MR w
 inj:=fun v a b ha hb=>by
  rcases bb ha with ⟨i,t,rfl,rfl⟩ | ⟨x,t,rfl,rfl⟩
  ·rcases bb hb with ⟨j,u,rfl,e⟩ | ⟨y,u,rfl,e⟩
   ·injection e with e1 _;rw[e1]
   ·exact nomatch e
  ·rcases bb hb with ⟨j,u,rfl,e⟩ | ⟨y,u,rfl,e⟩
   ·exact nomatch e
   ·injection e with e1 _;rw[e1]
 byValue:=fun k v h=>by
  rcases bb h with ⟨i,t,rfl,rfl⟩ | ⟨x,t,rfl,rfl⟩<;>rfl
 pyHash:=fun hv h=>by
  rcases bb hv with ⟨i,t,rfl,rfl⟩ | ⟨x,t,rfl,rfl⟩
  ·exact wpAny_pyHash_int h
  ·exact wpAny_pyHash_str h
 eqBool:=fun hu hv h=>by
  rcases bb hu with ⟨i,t,rfl,rfl⟩ | ⟨x,t,rfl,rfl⟩
  ·rcases bb hv with ⟨j,u,rfl,rfl⟩ | ⟨y,u,rfl,rfl⟩
   ·rw[ET] at h;exact wpAny_eqBool_int h
   ·rw[EV] at h;exact SeqAt.EqAt.int_str i t y u _ _ _ _ h
  ·rcases bb hv with ⟨j,u,rfl,rfl⟩ | ⟨y,u,rfl,rfl⟩
   ·rw[EW] at h;exact SeqAt.EqAt.str_int x t j u _ _ _ _ h
   ·rw[EU] at h;exact wpAny_eqBool_str h
 «strs»:=fun k x t v h=>by
  rcases bb h with ⟨i,u,rfl,e⟩ | ⟨y,u,rfl,e⟩
  ·exact nomatch e
  ·injection e with e1 _
   subst e1
   cases v<;>rfl
theorem pS (prog:UJ) (w:UM) (i:Int) (t:Tok):(aV prog w).is (.inl i) (.int i t)=true:=vH i t
theorem pT (prog:UJ) (w:UM) (x:Str) (t:Tok):(aV prog w).is (.inr x) (.str x t)=true:=vI x t
end L2
namespace L2
open PySem PySem.Spec PyProof.Rows
inductive V where
 | aB | bl (b:Bool) | int (i:Int) | str (x:Str) | IW (b:Array UInt8) | pQ (b:UInt64) | ref (a:UE) | ty (n:String)
 deriving DecidableEq
def RelV:V->UL->Prop
 | .aB,u=>u=Value.none
 | .bl b,u=>u=Value.bool b
 | .int i,u=>∃t,u=Value.int i t
 | .str x,u=>∃t,u=Value.str x t
 | .IW b,u=>∃t,u=Value.bytes b t
 | .pQ b,u=>∃t,u=Value.float b t
 | .ref a,u=>u=Value.ref a
 | .ty n,u=>u=Value.type n
abbrev Vals:List V->List UL->Prop:=Paired RelV
theorem Vals.length {xs:List V} {us:List UL} (r:Vals xs us):xs.length=us.length:=Paired.length r
theorem Vals.get:∀{xs:List V} {us:List UL} {i:Nat} {x:V},Vals xs us->xs[i]? =some x->∃u,us[i]? =some u/\RelV x u
 | _,_,_,_,.nil,e=>by simp at e
 | _,_,0,_,.cons r _,e=>by simp at e;subst e;exact⟨_,rfl,r⟩
 | _,_,i+1,x,.cons _ t,e=>by
  obtain⟨u,h1,h2⟩:=Vals.get (i:=i) (x:=x) t (by simpa using e)
  exact⟨u,by simpa using h1,h2⟩
theorem Vals.set {x:V} {u:UL} (r:RelV x u):∀{xs:List V} {us:List UL} (i:Nat),Vals xs us->Vals (xs.set i x) (us.set i u)
 | _,_,_,.nil=> .nil
 | _,_,0,.cons _ t=> .cons r t
 | _,_,i+1,.cons q t=> .cons q (Vals.set r i t)
theorem Vals.append:∀{xs ys:List V} {us ws:List UL},Vals xs us->Vals ys ws->Vals (xs++ys) (us++ws)
 | _,_,_,_,.nil,s=>s
 | _,_,_,_,.cons r t,s=> .cons r (Vals.append t s)
theorem Vals.take:∀{xs:List V} {us:List UL} (n:Nat),Vals xs us->Vals (xs.take n) (us.take n)
 | _,_,0,_=> .nil
 | _,_,_+1,.nil=> .nil
 | _,_,n+1,.cons r t=> .cons r (Vals.take n t)
theorem Vals.drop:∀{xs:List V} {us:List UL} (n:Nat),Vals xs us->Vals (xs.drop n) (us.drop n)
 | _,_,0,r=>r
 | _,_,_+1,.nil=> .nil
 | _,_,n+1,.cons _ t=>Vals.drop n t
def kR:Option V->Option UL->Prop
 | some v,some u=>RelV v u
 | none,none=>True
 | _,_=>False
def KV {κ:Type}:List (κ×V)->List (κ×UL)->Prop:=Paired fun(p:κ×V) (q:κ×UL)=>p.1=q.1/\RelV p.2 q.2
def kV:Key->V
 | .inl i=> .int i
 | .inr x=> .str x
inductive HO where
  | lst (xs:List V)
  | tup (xs:List V)
  | dK (kvs:List (Key×V)) | dT (kvs:List (List Key×V))
  | set (S:Int->Bool) (n:Nat)
  | ins (C dx:UE) (fs:List (Str×V))
  | own (x:UE)
  | xd (fs:List (Str×V))
  | met (f x:UE)
  | LR (lo hi:Int)
  | bV (o:Obj) (u:HO)
  | bw (ps:Array UL)
  | ext (φ:Heap->Prop)
abbrev Hp:=UE->Option HO
def upd (H:Hp) (a:UE) (o:HO):Hp:=fun b=>if b=a then some o else H b
theorem ay {H:Hp} {a:UE} {o:HO}:upd H a o a=some o:=by unfold upd;rw[if_pos rfl]
theorem ao {H:Hp} {a b:UE} {o:HO} (h:b≠a):upd H a o b=H b:=by unfold upd;rw[if_neg h]
theorem DQ {H:Hp} {a b:UE} {o u:HO} (h:H a=some o) (h':H b=some u) (d:o≠u):a≠b:=by
 intro e;subst e;rw[h] at h';exact d (Option.some.inj h')
theorem bf {H:Hp} {a b:UE} {o:HO} (h:H a=some o) (h':H b=none):a≠b:=by
 intro e;subst e;rw[h] at h';cases h'
def vJ (h:Heap) (a:UE):Prop:=∀o,h.get? a=some o->o.dict=none
theorem vJ.new (h:Heap) (us:Array UL):vJ (h.push { cls:=.type "tuple",data:=.seq us }) h.objs.size:=fun o q=>by
 rw[Heap.get?_push_size _ rfl] at q
 cases q
 rfl
section
variable (P:UJ) (w:UM)
def bB (H:Hp) (h:Heap) (a:UE):HO->Prop
 | .lst xs=>xs.length<=UX/\∃(its:List UL) (n:Nat),Vals xs its/\h.get? a=some { cls:=.type "list",data:=.seq its.toArray n }
 | .tup xs=>xs.length<=UX/\∃its:List UL,Vals xs its/\IsTup h a its.toArray/\vJ h a
 | .dK kvs=>kvs.length<=UX/\(a == sysModules)=false/\∃vs,KV kvs vs/\h.DictOf (aV P w) a vs
 | .dT kvs=>kvs.length<=UX/\(a == sysModules)=false/\∃xs:List (List Key×UE×UL),
   Paired (fun(p:List Key×V) (q:List Key×UE×UL)=>p.1=q.1/\H q.2.1=some (.tup (p.1.map kV))/\RelV p.2 q.2.2) kvs xs/\
   ∃o es ep,h.get? a=some o/\o.ExactDict/\o.data= .dict es ep/\es.toList=xs.map (entryOfKey (tupleKind (aV P w)))/\(xs.map (·.1)).Nodup
 | .set S n=>h.SetOf (intKind P w) a S n
 | .ins C dx fs=>H dx=some (.own a)/\fs.length<=1000/\dx≠a/\h.get? a=some (PySem.W.instObj C dx)/\
   ∃mA,h.Ns1 dx mA/\(∀f,kR (fs.lookup f) (mA f))/\PySem.Within mA (fs.map (·.1))
 | .own _=>∃o,h.get? a=some o
 | .xd fs=>∃mA,h.Ns1 a mA/\∀f,kR (fs.lookup f) (mA f)
 | .LR lo hi=>∃t u v,h.get? a=some { cls:=.type "range",data:=.fields #[.int lo t,.int hi u,.int 1 v] }
 | .bV o u=>h.get? a=some o/\bB H h a u
 | .bw ps=>h.get? a=some { cls:=.none,data:=.fields ps }
 | .met f x=>h.get? a=some (PySem.W.methodObj (.ref f) (.ref x))
 | .ext φ=>φ h/\(∃o,h.get? a=some o)/\∀h1 h2:Heap,φ h1->(∀o,h1.get? a=some o->h2.get? a=some o)->φ h2
def f' (H:Hp) (h:Heap):Prop:=∀a o,H a=some o->bB P w H h a o
end
section
variable {P:UJ} {w:UM} {H H':Hp} {h h':Heap} {a:UE} {o:HO}
theorem bB.lt (x:bB P w H h a o):a < h.objs.size:=by
 cases o with
 | lst xs=>obtain⟨_,_,_,_,e⟩:=x;exact Heap.lt_size e
 | tup xs=>obtain⟨_,_,_,p,_⟩:=x;exact p.lt
 | dK kvs=>obtain⟨_,_,_,_,o,_,_,e,_⟩:=x;exact Heap.lt_size e
 | dT kvs=>obtain⟨_,_,_,_,o,_,_,e,_⟩:=x;exact Heap.lt_size e
 | set S n=>obtain⟨o,_,_,_,e,_⟩:=x;exact Heap.lt_size e
 | ins C dx fs=>obtain⟨_,_,_,e,_⟩:=x;exact Heap.lt_size e
 | own y=>obtain⟨_,e⟩:=x;exact Heap.lt_size e
 | xd fs=>obtain⟨_,⟨_,_,_,e,_⟩,_⟩:=x;exact Heap.lt_size e
 | LR lo hi=>obtain⟨_,_,_,e⟩:=x;exact Heap.lt_size e
 | bV ob u=>obtain⟨e,_⟩:=x;exact Heap.lt_size e
 | bw ps=>exact Heap.lt_size (show h.get? a=some _ from x)
 | met f y=>exact Heap.lt_size (show h.get? a=some _ from x)
 | ext φ=>obtain⟨_,⟨_,e⟩,_⟩:=x;exact Heap.lt_size e
theorem Paired.EY {α β:Type} {F G:α->β->Prop}:∀{l₁:List α} {l₂:List β},Paired F l₁ l₂->(∀a b,F a b->G a b)->Paired G l₁ l₂
 | _,_,.nil,_=> .nil
 | _,_,.cons r t,f=> .cons (f _ _ r) (Paired.EY t f)
theorem bB.stay (x:bB P w H h a o) (k:∀b u,(b=a\/H b=some (.own a))->h.get? b=some u->h'.get? b=some u)
  (ho:∀b,H b=some (.own a)->H' b=some (.own a)) (ht:∀b xs,H b=some (.tup xs)->H' b=some (.tup xs)):bB P w H' h' a o:=by
 induction o with
 | lst xs=>obtain⟨z,its,n,r,e⟩:=x;exact⟨z,its,n,r,k _ _ (.inl rfl) e⟩
 | tup xs=>obtain⟨z,us,r,⟨ob,e,c⟩,nd⟩:=x;exact⟨z,us,r,⟨ob,k _ _ (.inl rfl) e,c⟩,fun o q=>by rw[k _ _ (.inl rfl) e] at q;cases q;exact nd _ e⟩
 | dK kvs=>obtain⟨z,y,vs,r,ob,es,ep,e,c⟩:=x;exact⟨z,y,vs,r,ob,es,ep,k _ _ (.inl rfl) e,c⟩
 | dT kvs=>
  obtain⟨z,y,xs,r,ob,es,ep,e,c⟩:=x
  exact⟨z,y,xs,Paired.EY r fun p q z=>⟨z.1,ht _ _ z.2.1,z.2.2⟩,ob,es,ep,k _ _ (.inl rfl) e,c⟩
 | set S n=>obtain⟨ob,es,ep,t,e,c⟩:=x;exact⟨ob,es,ep,t,k _ _ (.inl rfl) e,c⟩
 | ins C dx fs=>
  obtain⟨d,z,ne,e,mA,⟨od,es,ep,e2,c⟩,r⟩:=x
  exact⟨ho _ d,z,ne,k _ _ (.inl rfl) e,mA,⟨od,es,ep,k _ _ (.inr d) e2,c⟩,r⟩
 | own y=>obtain⟨ob,e⟩:=x;exact⟨ob,k _ _ (.inl rfl) e⟩
 | xd fs=>obtain⟨mA,⟨od,es,ep,e,c⟩,r⟩:=x;exact⟨mA,⟨od,es,ep,k _ _ (.inl rfl) e,c⟩,r⟩
 | LR lo hi=>obtain⟨t,u,v,e⟩:=x;exact⟨t,u,v,k _ _ (.inl rfl) e⟩
 | bV ob u ih=>obtain⟨e,q⟩:=x;exact⟨k _ _ (.inl rfl) e,ih q⟩
 | bw ps=>
  have e:h.get? a=some { cls:=.none,data:=.fields ps }:=x
  show h'.get? a=some { cls:=.none,data:=.fields ps }
  exact k a _ (.inl rfl) e
 | met f y=>
  have e:h.get? a=some (PySem.W.methodObj (.ref f) (.ref y)):=x
  show h'.get? a=some (PySem.W.methodObj (.ref f) (.ref y))
  exact k a _ (.inl rfl) e
 | ext φ=>obtain⟨p,⟨o,e⟩,st⟩:=x;exact⟨st _ _ p fun o q=>k _ _ (.inl rfl) q,⟨o,k _ _ (.inl rfl) e⟩,st⟩
theorem f'.lt (x:f' P w H h) (e:H a=some o):a < h.objs.size:=(x a o e).lt
theorem f'.fresh (x:f' P w H h) (e:h.objs.size<=a):H a=none:=by
 cases q:H a with
 | none=>rfl
 | some u=>exact absurd (Nat.lt_of_lt_of_le (x.lt q) e) (Nat.lt_irrefl _)
theorem f'.kept (x:f' P w H h) (k:∀b u,h.get? b=some u->h'.get? b=some u):f' P w H h':=fun a o e=>
 (x a o e).stay (fun b u _ q=>k b u q) (fun _ q=>q) fun _ _ q=>q
theorem f'.laid (x:f' P w H h) (k:∀b u,h.get? b=some u->h'.get? b=some u) (hp:h.objs.size<=a) (new:bB P w (upd H a o) h' a o):f' P w (upd H a o) h':=fun b u e=>by
 have hn:=x.fresh hp
 by_cases hb:b=a
 ·subst hb;rw[ay] at e;cases e;exact new
 ·rw[ao hb] at e
  exact(x b u e).stay (fun c v _ q=>k c v q) (fun c q=>by rw[ao (bf q hn)];exact q) fun c xs q=>by rw[ao (bf q hn)];exact q
end
def Rd (H:Hp) (a:UE) (u:HO):Prop:=H a=some u\/∃o,H a=some (.bV o u)
theorem Rd.ok {P:UJ} {w:UM} {H:Hp} {h:Heap} {a:UE} {u:HO} (r:Rd H a u) (x:f' P w H h):bB P w H h a u:=by
 rcases r with r | ⟨o,r⟩
 ·exact x a u r
 ·obtain⟨_,q⟩:=x a _ r
  exact q
def Ji:Option HO->Prop
 | some (.lst _)=>True
 | some (.dK _)=>True
 | some (.dT _)=>True
 | some (.set _ _)=>True
 | some (.ins _ _ _)=>True
 | some (.ext _)=>True
 | _=>False
section
variable {P:UJ} {w:UM} {H:Hp} {h h':Heap} {x e:UE} {o':HO}
theorem f'.write (ok:f' P w H h) (mu:Ji (H x)) (he:e=x\/H e=some (.own x)) (k:∀b u,b≠e->h.get? b=some u->h'.get? b=some u) (IX:∃u,h'.get? e=some u)
  (new:bB P w (upd H x o') h' x o'):f' P w (upd H x o') h':=fun b u q=>by
 have Jj:∀c y,H c=some (.own y)->c≠x:=fun c y r z=>by subst z;rw[r] at mu;exact mu
 have MS:∀c xs,H c=some (.tup xs)->c≠x:=fun c xs r z=>by subst z;rw[r] at mu;exact mu
 by_cases hb:b=x
 ·subst hb;rw[ay] at q;cases q;exact new
 ·rw[ao hb] at q
  by_cases EZ:b=e
  ·have q':H b=some (.own x):=by
    rcases he with z | z
    ·exact absurd (EZ.trans z) hb
    ·rw[EZ];exact z
   rw[q] at q';cases q'
   obtain⟨v,hv⟩:=IX
   exact⟨v,by rw[EZ];exact hv⟩
  ·refine(ok b u q).stay (fun c v hc r=>k c v ?_ r) (fun c r=>by rw[ao (Jj c b r)];exact r) fun c xs r=>by rw[ao (MS c xs r)];exact r
   rcases hc with rfl | hc
   ·exact EZ
   ·rintro rfl
    rcases he with z | z
    ·exact Jj c b hc z
    ·rw[hc] at z;cases z;exact hb rfl
end
structure Un (fs ex:List UE) (H H':Hp) (h h':Heap):Prop where
 keep:∀b o,h.get? b=some o->H b=none->b∉fs->b∉ex->h'.get? b=some o
 slot:∀b o,h.get? b=some o->H b=none->b∈fs->b∉ex->∃sl,h'.get? b=some { o with slots:=sl }
 free:∀b o,h.get? b=some o->H b=none->b∉ex->H' b=none
 there:∀b o,h.get? b=some o->b∉ex->∃o',h'.get? b=some o'
 tups:∀b xs,H b=some (.tup xs)->H' b=some (.tup xs)
 fD:∀b o u,H b=some (.bV o u)->H' b=some (.bV o u)
 gA:∀b ps,H b=some (.bw ps)->∃more,H' b=some (.bw (ps++more))
section
variable {fs fs' ex ex':List UE} {H H1 H2:Hp} {h h1 h2 h':Heap} {a x e:UE} {o:HO}
theorem Un.any (u:Un fs ex H H1 h h1) {b:UE} {ob:Obj} (q:h.get? b=some ob) (n:H b=none) (hx:b∉ex):∃sl,h1.get? b=some { ob with slots:=sl }:=by
 by_cases hb:b∈fs
 ·exact u.slot b ob q n hb hx
 ·exact⟨ob.slots,u.keep b ob q n hb hx⟩
theorem Un.kept (k:∀b u,h.get? b=some u->h'.get? b=some u):Un fs ex H H h h' :=
 ⟨fun b ob q _ _ _=>k b ob q,fun b ob q _ _ _=>⟨ob.slots,k b ob q⟩,fun _ _ _ n _=>n,fun b ob q _=>⟨ob,k b ob q⟩,fun _ _ q=>q,fun _ _ _ q=>q,fun _ ps q=>⟨#[],by rw[q];simp⟩⟩
theorem Un.refl:Un fs ex H H h h:=Un.kept fun _ _ q=>q
theorem Un.laid (k:∀b u,h.get? b=some u->h'.get? b=some u) (hp:h.objs.size<=a) (hn:H a=none):Un fs ex H (upd H a o) h h' where
 keep:=fun b u q _ _ _=>k b u q
 slot:=fun b u q _ _ _=>⟨u.slots,k b u q⟩
 free:=fun b u q n _=>by rw[ao (Nat.ne_of_lt (Nat.lt_of_lt_of_le (Heap.lt_size q) hp))];exact n
 there:=fun b u q _=>⟨u,k b u q⟩
 tups:=fun b xs q=>by rw[ao (bf q hn)];exact q
 fD:=fun b u xs q=>by rw[ao (bf q hn)];exact q
 gA:=fun b ps q=>⟨#[],by rw[ao (bf q hn),q];simp⟩
theorem Un.write (mu:Ji (H x)) (he:e=x\/H e=some (.own x)) (k:∀b u,b≠e->h.get? b=some u->h'.get? b=some u) (IX:∃u,h'.get? e=some u):Un fs ex H (upd H x o) h h':=by
 have hx:∀b,H b=none->b≠x:=fun b n z=>by subst z;rw[n] at mu;exact mu
 have hb:∀b,H b=none->b≠e:=fun b n z=>by
  subst z
  rcases he with r | r
  ·exact hx b n r
  ·rw[n] at r;cases r
 have hm:∀b u,H b=some u->¬Ji (some u)->b≠x:=fun b u q nm z=>by subst z;rw[q] at mu;exact nm mu
 refine⟨fun b u q n _ _=>k b u (hb b n) q,fun b u q n _ _=>⟨u.slots,k b u (hb b n) q⟩,fun b u q n _=>by rw[ao (hx b n)];exact n,fun b u q _=>?_,
  fun b xs q=>by rw[ao (hm b _ q fun z=>z)];exact q,fun b u xs q=>by rw[ao (hm b _ q fun z=>z)];exact q,fun b ps q=>⟨#[],by rw[ao (hm b _ q fun z=>z),q];simp⟩⟩
 by_cases EZ:b=e
 ·subst EZ;exact IX
 ·exact⟨u,k b u EZ q⟩
end
def LS (h:Heap) (H:Hp):List UE:=(List.range h.objs.size).filter fun a=>(H a).isSome
def oA (h:Heap) (H:Hp):Heap:=PySem.W.hideAll h (LS h H)
theorem vK (h:Heap) (H:Hp):(oA h H).objs.size=h.objs.size:=PySem.W.hideAll_size _ _
theorem xD {h:Heap} {H:Hp} {b:UE} {o:Obj} (e:h.get? b=some o) (n:H b=none):(oA h H).get? b=some o :=
 PySem.W.hideAll_get _ e fun hm=>by
  have q:(H b).isSome=true:=(List.mem_filter.mp hm).2
  rw[n] at q;simp at q
theorem Bs {h:Heap} {H:Hp} {b:UE} {o:Obj} (e:(oA h H).get? b=some o):h.get? b=some o/\H b=none:=by
 have e':h.get? b=some o:=PySem.W.of_hideAll (LS h H) e
 refine⟨e',?_⟩
 cases q:H b with
 | none=>rfl
 | some x=>
  have hm:b∈LS h H:=List.mem_filter.mpr ⟨List.mem_range.mpr (Heap.lt_size e'),by simp[q]⟩
  have z:(oA h H).get? b=none:=PySem.W.hideAll_none (LS h H) hm
  rw[z] at e;cases e
def oB (g h:Heap) (L:UE):List (UE×Obj):=(List.range h.objs.size).filterMap fun a=>if a=L\/(g.get? a).isSome=true then none else(h.get? a).map fun o=>(a,o)
theorem jP {g h:Heap} {L a:UE} {o:Obj} (h1:a≠L) (h2:g.get? a=none) (h3:h.get? a=some o):(a,o)∈oB g h L :=
 List.mem_filterMap.mpr ⟨a,List.mem_range.mpr (Heap.lt_size h3),by simp[h1,h2,h3]⟩
theorem kS {g h:Heap} {L:UE} {p:UE×Obj} (hp:p∈oB g h L):p.1≠L/\g.get? p.1=none/\h.get? p.1=some p.2:=by
 obtain⟨b,_,e⟩:=List.mem_filterMap.mp hp
 split at e
 ·cases e
 ·rename_i hn
  cases q:h.get? b with
  | none=>rw[q] at e;simp at e
  | some u=>
   rw[q] at e
   simp only[Option.map_some,Option.some.injEq] at e
   subst e
   refine⟨fun z=>hn (.inl z),?_,q⟩
   show g.get? b=none
   cases r:g.get? b with
   | none=>rfl
   | some v=>exact(hn (.inr (by simp[r]))).elim
theorem xE {g h:Heap} {L:UE}:News g L h (oB g h L):=fun p hp=>let ⟨a,b,c⟩:=kS hp;⟨c,a,b⟩
end L2
namespace L2
open PySem PySem.Spec PyProof.Rows
structure Mod (K:PySem.W.Frag) (mg:Str->Option UL) (base:Heap):Prop where
 E1:K.In base
 glob:base.Ns UW mg
 blt:∃mb,base.Ns builtinsNs mb/\∀x:Str,x≠"__name__"->mb x=UP x
 nolimit:base.NoLimit
structure Cx where
 prog:UJ
 w:UM
 K:PySem.W.Frag
 mg:Str->Option UL
 base:Heap
 A:UG
 N:List Str
 s₀:UK
 H₀:Hp
 env:Env
 outer:List Env
 stack:List Env
 ex:List UE
 fn:Str->Bool
 calm:Bool
 pn:List (UE×Obj)
 xe:UL->UK->Prop
def frs (l:List Env):List UE:=l.filterMap (·.frame)
abbrev Cx.fs (X:Cx):List UE:=frs X.outer
def MT (sc:Scope) (x:Str):Prop:=sc.names.lookup x=some .local\/sc.names.lookup x=some .cell\/sc.names.lookup x=some .free
def Loc (sc:Scope) (x:Str):Prop:=sc.names.lookup x=some .local\/sc.names.lookup x=some .cell
def Look (env:Env) (h:Heap) (m:Str->Option UL) (x:Str) (u:UL):Prop :=
 (env.kindOf x=some .local/\m x=some u)\/((env.kindOf x=some .cell\/env.kindOf x=some .free)/\∃c,env.cells.lookup x=some c/\h.IsCell c (some u))
structure Cx.Ok (X:Cx):Prop where
 mod:Mod X.K X.mg X.base
 kind:X.env.scope.kind= .function
 glob:X.env.globals=UW
 blt:X.env.builtins=builtinsNs
 above:X.s₀.heap.objs.size<=X.env.locals
 inj:∀x y c,X.env.cells.lookup x=some c->X.env.cells.lookup y=some c->x=y
 has:∀x,(X.env.kindOf x=some .cell\/X.env.kindOf x=some .free)->∃c,X.env.cells.lookup x=some c
 IY:∀x c,X.fn x=true->X.env.cells.lookup x=some c->X.s₀.heap.objs.size<=c
 hd:X.calm=true->X.A.handled=none
 frames:X.A.frames=some X.stack
 stk:X.stack=X.outer\/(X.stack=X.env::X.outer/\X.env.frame=some X.env.locals)
 MU:∀b∈X.ex,b≠X.env.locals/\∀x c,X.env.cells.lookup x=some c->c≠b
 bs:∀b o,X.base.get? b=some o->X.s₀.heap.get? b=some o/\X.H₀ b=none
 Bp:X.base.objs.size<=X.s₀.heap.objs.size
 vL:∀b o,X.base.get? b=some o->b∉X.ex
 xF:∀b∈X.ex,b∉X.fs
 iy:X.s₀.heap.FunFrames X.base X.outer
 Bt:∀b∈X.fs,X.H₀ b=none
structure Inv (X:Cx) (pins:List (UE×Obj)) (σ:List (Option V)) (H:Hp) (s:UK):Prop where
 ok:X.Ok
 os:s.os=X.s₀.os
 bare:AllBare s.gens
 base:Un X.fs X.ex X.H₀ H X.s₀.heap s.heap
 loc:∃m,s.heap.Ns X.env.locals m/\∀(i:Nat) (x:Str) (v:V),X.N[i]? =some x->σ[i]? =some (some v)->MT X.env.scope x->∃u,RelV v u/\Look X.env s.heap m x u
 cell:∀x c,X.env.cells.lookup x=some c->∃v,s.heap.IsCell c v
 free:H X.env.locals=none
 dC:∀x c,X.env.cells.lookup x=some c->H c=none
 pin:∀p∈X.pn++pins,s.heap.get? p.1=some p.2/\H p.1=none/\p.1≠X.env.locals/\p.1∉X.fs/\∀v,p.2.data≠.cell v
 hok:f' X.prog X.w H s.heap
 len:σ.length=X.N.length
section
variable {X:Cx} {pins:List (UE×Obj)} {σ:List (Option V)} {H H':Hp} {s:UK} {h':Heap}
theorem Cx.Ok.MV (ok:X.Ok) {b:UE} {o:Obj} (e:X.base.get? b=some o):b∉X.fs:=fun hb=>by
 have:=(ok.iy.mem hb).1
 rw[e] at this;cases this
theorem Inv.bs (I:Inv X pins σ H s):∀b o,X.base.get? b=some o->s.heap.get? b=some o/\H b=none:=fun b o e=>
 ⟨I.base.keep b o (I.ok.bs b o e).1 (I.ok.bs b o e).2 (I.ok.MV e) (I.ok.vL b o e),I.base.free b o (I.ok.bs b o e).1 (I.ok.bs b o e).2 (I.ok.vL b o e)⟩
theorem Inv.bk (I:Inv X pins σ H s):∀b o,X.base.get? b=some o->s.heap.get? b=some o:=fun b o e=>(I.bs b o e).1
theorem Inv.mod (I:Inv X pins σ H s):Mod X.K X.mg X.base:=I.ok.mod
theorem Inv.uh (I:Inv X pins σ H s):X.K.In s.heap:=I.ok.mod.E1.keeps I.bk
theorem Inv.lt (I:Inv X pins σ H s):X.env.locals < s.heap.objs.size:=let ⟨_,hn,_⟩:=I.loc;hn.lt
theorem Inv.sz (I:Inv X pins σ H s):X.s₀.heap.objs.size<=s.heap.objs.size:=Nat.le_trans I.ok.above (Nat.le_of_lt I.lt)
theorem Inv.MW (I:Inv X pins σ H s) {a:UE} (h:s.heap.objs.size<=a):a∉X.fs:=fun hb=>by
 obtain⟨_,o,ho,_⟩:=I.ok.iy.mem hb
 exact absurd (Nat.lt_of_lt_of_le (Heap.lt_size ho) (Nat.le_trans I.sz h)) (Nat.lt_irrefl _)
theorem Inv.Bu (I:Inv X pins σ H s):∀x c,X.env.cells.lookup x=some c->c≠X.env.locals:=fun x c e z=>by
 obtain⟨v,o,ho,hd⟩:=I.cell x c e
 obtain⟨m,⟨o',es,ep,ho',hd',_⟩,_⟩:=I.loc
 rw[z,ho'] at ho;cases ho;rw[hd'] at hd;cases hd
theorem Inv.iy (I:Inv X pins σ H s):s.heap.FunFrames X.base X.outer:=by
 have all:∀(l:List Env),(∀b∈frs l,b∈X.fs)->X.s₀.heap.FunFrames X.base l->s.heap.FunFrames X.base l:=by
  intro l
  induction l with
  | nil=>intro _ _;trivial
  | cons env r ih=>
   intro hs hl
   obtain⟨hk,⟨L,o,hf,hn,ho,hd⟩,hr⟩:=hl
   have hL:L∈X.fs:=hs L (by unfold frs;rw[List.filterMap_cons,hf];exact List.mem_cons_self)
   obtain⟨sl,e⟩:=I.base.slot L o ho (I.ok.Bt L hL) hL fun z=>I.ok.xF L z hL
   exact⟨hk,⟨L,_,hf,hn,e,hd⟩,ih (fun b hb=>hs b (by unfold frs;rw[List.filterMap_cons,hf];exact List.mem_cons_of_mem _ hb)) hr⟩
 exact all X.outer (fun _ hb=>hb) I.ok.iy
theorem Inv.stack (I:Inv X pins σ H s):s.heap.FunFrames X.base X.stack:=by
 rcases I.ok.stk with e | ⟨e,hf⟩
 ·rw[e];exact I.iy
 ·rw[e]
  obtain⟨m,hn,_⟩:=I.loc
  refine .cons (by rw[I.ok.kind];decide) hf hn ?_ I.iy
  exact Heap.get?_none_of_le (Nat.le_trans I.ok.Bp I.ok.above)
theorem Inv.kT (I:Inv X pins σ H s):∀b∈frs X.stack,b∈X.env.locals::X.fs:=fun b hb=>by
 rcases I.ok.stk with e | ⟨e,hf⟩
 ·rw[e] at hb;exact List.mem_cons_of_mem _ hb
 ·rw[e] at hb
  unfold frs at hb
  rw[List.filterMap_cons,hf] at hb
  exact hb
theorem Inv.iO (I:Inv X pins σ H s):∀b∈frs X.stack,H b=none:=fun b hb=>by
 rcases List.mem_cons.mp (I.kT b hb) with e | hb
 ·rw[e];exact I.free
 ·obtain⟨_,o,ho,_⟩:=I.ok.iy.mem hb
  exact I.base.free b o ho (I.ok.Bt b hb) fun z=>I.ok.xF b z hb
theorem Inv.step {g':Array GenState} {t':Nat} {d':Drawn} {ch:List UE} (I:Inv X pins σ H s)
  (hch:∀b∈ch,(b∈X.ex\/X.s₀.heap.objs.size<=b)/\b≠X.env.locals/\(∀x c,X.env.cells.lookup x=some c->c≠b)/\∀p∈X.pn++pins,p.1≠b)
  (keep:∀b o,b≠X.env.locals->b∉X.fs->b∉ch->s.heap.get? b=some o->H b=none->h'.get? b=some o)
  (slot:∀b o,b≠X.env.locals->b∈X.fs->b∉ch->s.heap.get? b=some o->H b=none->∃sl,h'.get? b=some { o with slots:=sl }) (free:∀b o,b∉ch->s.heap.get? b=some o->H b=none->H' b=none)
  (there:∀b o,b∉ch->s.heap.get? b=some o->∃o',h'.get? b=some o')
  (tups:∀b xs,H b=some (.tup xs)->H' b=some (.tup xs)) (fD:∀b o u,H b=some (.bV o u)->H' b=some (.bV o u)) (gA:∀b ps,H b=some (.bw ps)->∃more,H' b=some (.bw (ps++more)))
  (ns:∀m,s.heap.Ns X.env.locals m->h'.Ns X.env.locals m) (hok:f' X.prog X.w H' h') (hg:AllBare g') :
  Inv X pins σ H' { s with heap:=h',gens:=g',drawn:=d',toks:=t' }:=by
 have Jk:∀b o,X.s₀.heap.get? b=some o->b≠X.env.locals:=fun b o e=>Nat.ne_of_lt (Nat.lt_of_lt_of_le (Heap.lt_size e) I.ok.above)
 have LU:∀b o,X.s₀.heap.get? b=some o->b∉X.ex->b∉ch:=fun b o e hx hb=>by
  rcases(hch b hb).1 with z | z
  ·exact hx z
  ·exact absurd (Nat.lt_of_lt_of_le (Heap.lt_size e) z) (Nat.lt_irrefl _)
 have cellK:∀x c,X.env.cells.lookup x=some c->∀v,s.heap.IsCell c v->h'.IsCell c v:=fun x c e v ⟨o,ho,hd⟩=>by
  have E2:c∉ch:=fun z=>(hch c z).2.2.1 x c e rfl
  by_cases hc:c∈X.fs
  ·obtain⟨sl,q⟩:=slot c o (I.Bu x c e) hc E2 ho (I.dC x c e)
   exact⟨_,q,hd⟩
  ·exact⟨o,keep c o (I.Bu x c e) hc E2 ho (I.dC x c e),hd⟩
 refine⟨I.ok,I.os,hg,⟨fun b o e n hb hx=>?_,fun b o e n hb hx=>?_,fun b o e n hx=>?_,fun b o e hx=>?_,fun b xs e=>tups b xs (I.base.tups b xs e),fun b o xs e=>fD b o xs (I.base.fD b o xs e),fun b ps e=>?_⟩,?_,fun x c e=>?_,?_,fun x c e=>?_,fun p hp=>?_,hok,I.len⟩
 ·exact keep b o (Jk b o e) hb (LU b o e hx) (I.base.keep b o e n hb hx) (I.base.free b o e n hx)
 ·obtain⟨sl,e1⟩:=I.base.slot b o e n hb hx
  obtain⟨Q6,e2⟩:=slot b _ (Jk b o e) hb (LU b o e hx) e1 (I.base.free b o e n hx)
  exact⟨Q6,e2⟩
 ·obtain⟨o',e1⟩:=I.base.there b o e hx
  exact free b o' (LU b o e hx) e1 (I.base.free b o e n hx)
 ·obtain⟨o',e1⟩:=I.base.there b o e hx
  exact there b o' (LU b o e hx) e1
 ·obtain⟨m1,e1⟩:=I.base.gA b ps e
  obtain⟨m2,e2⟩:=gA b _ e1
  exact⟨m1++m2,by rw[e2,Array.append_assoc]⟩
 ·obtain⟨m,hn,hl⟩:=I.loc
  refine⟨m,ns m hn,fun i x v e1 e2 e3=>?_⟩
  obtain⟨u,r,l⟩:=hl i x v e1 e2 e3
  refine⟨u,r,?_⟩
  rcases l with l | ⟨k,c,e,z⟩
  ·exact .inl l
  ·exact .inr ⟨k,c,e,cellK x c e _ z⟩
 ·obtain⟨v,z⟩:=I.cell x c e
  exact⟨v,cellK x c e v z⟩
 ·obtain⟨m,⟨o,_,_,ho,_⟩,_⟩:=I.loc
  exact free _ o (fun z=>(hch _ z).2.1 rfl) ho I.free
 ·obtain⟨v,o,ho,hd⟩:=I.cell x c e
  exact free c o (fun z=>(hch c z).2.2.1 x c e rfl) ho (I.dC x c e)
 ·obtain⟨e,n,ne,nf,d⟩:=I.pin p hp
  have E2:p.1∉ch:=fun z=>(hch p.1 z).2.2.2 p hp rfl
  exact⟨keep p.1 p.2 ne nf E2 e n,free p.1 p.2 E2 e n,ne,nf,d⟩
theorem Inv.un {t':Nat} (I:Inv X pins σ H s) (u:Un X.fs [] H H' s.heap h') (hok:f' X.prog X.w H' h'):Inv X pins σ H' { s with heap:=h',toks:=t' }:=by
 obtain⟨m,⟨o,es,ep,ho,r⟩,_⟩:=id I.loc
 obtain⟨sl,hL⟩:=u.any ho I.free (by simp)
 exact I.step (g':=s.gens) (d':=s.drawn) (ch:=[]) (fun _ z=>nomatch z) (fun b o _ hb _ e n=>u.keep b o e n hb (by simp)) (fun b o _ hb _ e n=>u.slot b o e n hb (by simp)) (fun b o _ e n=>u.free b o e n (by simp)) (fun b o _ e=>u.there b o e (by simp)) u.tups u.fD u.gA (fun m' hm=>by
  obtain⟨o',es',rQ,ho',r'⟩:=hm
  rw[ho] at ho';cases ho'
  exact⟨_,es',rQ,hL,r'⟩) hok I.bare
theorem Inv.call {g':Array GenState} {t':Nat} {d':Drawn} {ch:List UE} (I:Inv X pins σ H s) (u:Un (frs X.stack) ch H H' s.heap h') (hok:f' X.prog X.w H' h') (hg:AllBare g')
  (hch:∀b∈ch,(b∈X.ex\/X.s₀.heap.objs.size<=b)/\b≠X.env.locals/\(∀x c,X.env.cells.lookup x=some c->c≠b)/\∀p∈X.pn++pins,p.1≠b) :
  Inv X pins σ H' { s with heap:=h',gens:=g',drawn:=d',toks:=t' }:=by
 obtain⟨m,⟨o,es,ep,ho,r⟩,_⟩:=id I.loc
 obtain⟨sl,hL⟩:=u.any ho I.free fun z=>(hch _ z).2.1 rfl
 exact I.step (ch:=ch) hch (fun b o hL hb hc e n=>u.keep b o e n (fun z=>(List.mem_cons.mp (I.kT b z)).elim hL hb) hc) (fun b o _ _ hc e n=>u.any e n hc) (fun b o hc e n=>u.free b o e n hc) (fun b o hc e=>u.there b o e hc) u.tups u.fD u.gA (fun m' hm=>by
  obtain⟨o',es',rQ,ho',r'⟩:=hm
  rw[ho] at ho';cases ho'
  exact⟨_,es',rQ,hL,r'⟩) hok hg
theorem Inv.turned {t':Nat} {it:UE} (I:Inv X pins σ H s) (k:∀b o,b≠it->s.heap.get? b=some o->h'.get? b=some o) (hn:H it=none) (hL:it≠X.env.locals)
  (h1:it∈X.ex\/X.s₀.heap.objs.size<=it) (h2:∀x c,X.env.cells.lookup x=some c->c≠it) (h3:∀p∈X.pn++pins,p.1≠it):Inv X pins σ H { s with heap:=h',toks:=t' }:=by
 have PX:∀b u,H b=some u->b≠it:=fun b u e z=>by rw[z,hn] at e;cases e
 refine I.step (g':=s.gens) (d':=s.drawn) (ch:=[it]) (fun b hb=>?_) (fun b o _ _ hc e _=>k b o (fun z=>hc (by simp[z])) e) (fun b o _ _ hc e _=>⟨o.slots,k b o (fun z=>hc (by simp[z])) e⟩) (fun _ _ _ _ n=>n)
  (fun b o hc e=>⟨o,k b o (fun z=>hc (by simp[z])) e⟩) (fun _ _ e=>e) (fun _ _ _ e=>e) (fun b ps e=>⟨#[],by rw[e];simp⟩) (fun m hm=>?_) (fun b u e=>?_) I.bare
 ·have e:b=it:=by simpa using hb
  subst e
  exact⟨h1,hL,h2,h3⟩
 ·obtain⟨o,es,ep,ho,r⟩:=hm
  exact⟨o,es,ep,k _ o (Ne.symm hL) ho,r⟩
 ·refine(I.hok b u e).stay (fun c v hc q=>k c v ?_ q) (fun _ q=>q) fun _ _ q=>q
  rcases hc with z | z
  ·rw[z];exact PX b u e
  ·exact PX c _ z
theorem Inv.tok (I:Inv X pins σ H s) (t:Nat):Inv X pins σ H { s with toks:=t }:=I.un (h':=s.heap) (t':=t) Un.refl I.hok
theorem Inv.kept {t':Nat} (I:Inv X pins σ H s) (k:∀b u,s.heap.get? b=some u->h'.get? b=some u):Inv X pins σ H { s with heap:=h',toks:=t' }:=I.un (Un.kept k) (I.hok.kept k)
theorem Inv.laid {a:UE} {o:HO} {t':Nat} (I:Inv X pins σ H s) (k:∀b u,s.heap.get? b=some u->h'.get? b=some u) (hp:s.heap.objs.size<=a) (new:bB X.prog X.w (upd H a o) h' a o) :
  Inv X pins σ (upd H a o) { s with heap:=h',toks:=t' }:=I.un (Un.laid k hp (I.hok.fresh hp)) (I.hok.laid k hp new)
theorem Inv.write {x e:UE} {o:HO} {t':Nat} (I:Inv X pins σ H s) (mu:Ji (H x)) (he:e=x\/H e=some (.own x)) (k:∀b u,b≠e->s.heap.get? b=some u->h'.get? b=some u) (IX:∃u,h'.get? e=some u)
  (new:bB X.prog X.w (upd H x o) h' x o):Inv X pins σ (upd H x o) { s with heap:=h',toks:=t' }:=I.un (Un.write mu he k IX) (I.hok.write mu he k IX new)
theorem Inv.ui {gB:List (UE×Obj)} (I:Inv X pins σ H s) (h:∀p∈gB,s.heap.get? p.1=some p.2/\H p.1=none/\p.1≠X.env.locals/\p.1∉X.fs/\∀v,p.2.data≠.cell v):Inv X gB σ H s :=
 ⟨I.ok,I.os,I.bare,I.base,I.loc,I.cell,I.free,I.dC,fun p hp=>(List.mem_append.mp hp).elim (fun z=>I.pin p (List.mem_append_left _ z)) (h p),I.hok,I.len⟩
theorem kU {N:List Str} (hN:N.Nodup) {i j:Nat} {x:Str} (a:N[i]? =some x) (b:N[j]? =some x):i=j:=by
 obtain⟨h1,e1⟩:=List.getElem?_eq_some_iff.mp a
 obtain⟨h2,e2⟩:=List.getElem?_eq_some_iff.mp b
 exact(List.getElem_inj hN).mp (e1.trans e2.symm)
theorem nh {M:Model} {A:UG} {E:UL->UK->Prop} {i:Nat} {x:Str} {v:V} {u:UL} {Q:Unit->UK->Prop} (I:Inv X pins σ H s) (hN:X.N.Nodup) (hi:X.N[i]? =some x) (hx:Loc X.env.scope x) (r:RelV v u)
  (h:∀s',Inv X pins (σ.set i (some v)) H s'->(∃a,Heap.SameBut a s.heap s'.heap/\(a=X.env.locals\/X.env.cells.lookup x=some a))->Q () s') (hf:X.fn x=true\/X.env.scope.names.lookup x=some .local:=by first | exact .inl rfl | exact .inr rfl | assumption):UZ M A (storeName X.env x u) Q E s:=by
 obtain⟨m,hn,hl⟩:=id I.loc
 have hcls:(X.env.scope.kind == .class||(X.env.scope.kind == .module&&X.env.locals != X.env.globals))=false:=by rw[I.ok.kind];rfl
 have Jl:i < σ.length:=by rw[I.len];exact(List.getElem?_eq_some_iff.mp hi).1
 have Bu:=I.Bu
 have tracked:∀{a:UE} {h':Heap},(∃o,s.heap.get? a=some o/\H a=none)->Heap.SameBut a s.heap h'->f' X.prog X.w H h':=fun{a h'} ha hs b ob e=>by
  obtain⟨_,_,hfree⟩:=ha
  refine(I.hok b ob e).stay (fun c w' hc q=>(hs.2 c ?_).trans q) (fun _ q=>q) fun _ _ q=>q
  rintro rfl
  rcases hc with rfl | hc
  ·rw[hfree] at e;cases e
  ·rw[hfree] at hc;cases hc
 rcases hx with hk | hk
 ·refine wpAny_storeName_local hk hn (fun h' hn' hs=>?_) hcls
  obtain⟨oL,_,_,PY,_⟩:=id hn
  refine h _ ⟨I.ok,I.os,I.bare,⟨fun b o e n hb hx=>?_,fun b o e n hb hx=>?_,I.base.free,fun b o e hx=>?_,I.base.tups,I.base.fD,I.base.gA⟩,⟨_,hn',fun j y v' e1 e2 e3=>?_⟩,fun y c e=>?_,I.free,I.dC,fun p hp=>?_,tracked ⟨oL,PY,I.free⟩ hs,by simpa using I.len⟩ ⟨_,hs,.inl rfl⟩
  ·exact(hs.2 b (Nat.ne_of_lt (Nat.lt_of_lt_of_le (Heap.lt_size e) I.ok.above))).trans (I.base.keep b o e n hb hx)
  ·obtain⟨sl,e1⟩:=I.base.slot b o e n hb hx
   exact⟨sl,(hs.2 b (Nat.ne_of_lt (Nat.lt_of_lt_of_le (Heap.lt_size e) I.ok.above))).trans e1⟩
  ·obtain⟨o',e1⟩:=I.base.there b o e hx
   exact⟨o',(hs.2 b (Nat.ne_of_lt (Nat.lt_of_lt_of_le (Heap.lt_size e) I.ok.above))).trans e1⟩
  ·by_cases hj:j=i
   ·subst hj
    rw[hi] at e1;cases e1
    rw[List.getElem?_set_self Jl] at e2
    cases e2
    exact⟨u,r,.inl ⟨hk,by simp⟩⟩
   ·rw[List.getElem?_set_ne (Ne.symm hj)] at e2
    obtain⟨u',r',q⟩:=hl j y v' e1 e2 e3
    refine⟨u',r',?_⟩
    rcases q with ⟨k,e⟩ | ⟨k,c,e,z⟩
    ·refine .inl ⟨k,?_⟩
     have:y≠x:=fun e=>hj (kU hN e1 (e ▸ hi))
     simp[this,e]
    ·exact .inr ⟨k,c,e,z.sameBut hs (Bu y c e)⟩
  ·obtain⟨w',z⟩:=I.cell y c e
   exact⟨w',z.sameBut hs (Bu y c e)⟩
  ·obtain⟨e,n,ne,nf,d⟩:=I.pin p hp
   exact⟨(hs.2 p.1 ne).trans e,n,ne,nf,d⟩
 ·have hfn:X.fn x=true:=by
   rcases hf with z | z
   ·exact z
   ·rw[z] at hk;cases hk
  obtain⟨c,hc⟩:=I.ok.has x (.inl hk)
  obtain⟨w',z⟩:=I.cell x c hc
  refine wpAny_storeName_cell I.ok.kind hk hc z (fun h' hc' hs=>?_)
  obtain⟨oc,hoc,MX⟩:=id z
  refine h { s with heap:=h' } ⟨I.ok,I.os,I.bare,⟨fun b o e n hb hx=>?_,fun b o e n hb hx=>?_,I.base.free,fun b o e hx=>?_,I.base.tups,I.base.fD,I.base.gA⟩,⟨m,hn.sameBut hs (Ne.symm (Bu x c hc)),fun j y v' e1 e2 e3=>?_⟩,fun y c' e=>?_,I.free,I.dC,fun p hp=>?_,tracked ⟨oc,hoc,I.dC x c hc⟩ hs,by simpa using I.len⟩ ⟨c,hs,.inr hc⟩
  ·exact(hs.2 b (Nat.ne_of_lt (Nat.lt_of_lt_of_le (Heap.lt_size e) (I.ok.IY x c hfn hc)))).trans (I.base.keep b o e n hb hx)
  ·obtain⟨sl,e1⟩:=I.base.slot b o e n hb hx
   exact⟨sl,(hs.2 b (Nat.ne_of_lt (Nat.lt_of_lt_of_le (Heap.lt_size e) (I.ok.IY x c hfn hc)))).trans e1⟩
  ·obtain⟨o',e1⟩:=I.base.there b o e hx
   exact⟨o',(hs.2 b (Nat.ne_of_lt (Nat.lt_of_lt_of_le (Heap.lt_size e) (I.ok.IY x c hfn hc)))).trans e1⟩
  ·by_cases hj:j=i
   ·subst hj
    rw[hi] at e1;cases e1
    rw[List.getElem?_set_self Jl] at e2
    cases e2
    exact⟨u,r,.inr ⟨.inl hk,c,hc,hc'⟩⟩
   ·rw[List.getElem?_set_ne (Ne.symm hj)] at e2
    obtain⟨u',r',q⟩:=hl j y v' e1 e2 e3
    refine⟨u',r',?_⟩
    rcases q with q | ⟨k,c',e,z'⟩
    ·exact .inl q
    ·refine .inr ⟨k,c',e,z'.sameBut hs ?_⟩
     rintro rfl
     exact hj (kU hN e1 (I.ok.inj _ _ _ e hc ▸ hi))
  ·by_cases hcc:c'=c
   ·subst hcc;exact⟨_,hc'⟩
   ·obtain⟨w2,z2⟩:=I.cell y c' e
    exact⟨w2,z2.sameBut hs hcc⟩
  ·obtain⟨e,n,ne,nf,d⟩:=I.pin p hp
   refine⟨(hs.2 p.1 ?_).trans e,n,ne,nf,d⟩
   intro q
   rw[q,hoc] at e
   have q':oc=p.2:=Option.some.inj e
   exact d w' (by rw[<-q'];exact MX)
theorem iP {M:Model} {A:UG} {E:UL->UK->Prop} {i:Nat} {x:Str} {v:V} {u:UL} {Q:Unit->UK->Prop} (I:Inv X pins σ H s) (hN:X.N.Nodup) (hi:X.N[i]? =some x) (hx:Loc X.env.scope x) (r:RelV v u)
  (h:∀s',Inv X pins (σ.set i (some v)) H s'->Q () s') (hf:X.fn x=true\/X.env.scope.names.lookup x=some .local:=by first | exact .inl rfl | exact .inr rfl | assumption):UZ M A (storeName X.env x u) Q E s :=
 nh I hN hi hx r (fun s' I' _=>h s' I') hf
theorem Inv.DR {s':UK} {ch:List UE} (I:Inv X pins σ H s) (ho:s'.os=s.os) (u:Un (frs X.stack) ch H H' s.heap s'.heap) (hok:f' X.prog X.w H' s'.heap) (hg:AllBare s'.gens)
  (hch:∀b∈ch,(b∈X.ex\/X.s₀.heap.objs.size<=b)/\b≠X.env.locals/\(∀x c,X.env.cells.lookup x=some c->c≠b)/\∀p∈X.pn++pins,p.1≠b):Inv X pins σ H' s':=by
 obtain⟨h',g',d',t',o'⟩:=s'
 have e:o'=s.os:=ho
 subst e
 exact I.call (g':=g') (t':=t') (d':=d') u hok hg hch
end
abbrev XK:=UL->Option UE->Hp->Prop
abbrev St:=List (Option V)
abbrev VK:=V->Hp->Prop
abbrev TE:=St->Hp->VK->Prop
abbrev TT:=St->Hp->(Bool->Hp->Prop)->Prop
abbrev TA:=St->Hp->(List V->Hp->Prop)->Prop
structure Ends where
 nx:St->Hp->Prop
 rt:VK
 bk:St->Hp->Prop:=fun _ _=>False
 ct:St->Hp->Prop:=fun _ _=>False
abbrev TS:=Ends->St->Hp->Prop
def EP (X:Cx) (pins:List (UE×Obj)) (σ:St) (Q:VK) (u:UL) (s':UK):Prop:=∃v H',Inv X pins σ H' s'/\RelV v u/\Q v H'
def TP (X:Cx) (pins:List (UE×Obj)) (σ:St) (Q:Bool->Hp->Prop) (b:Bool) (s':UK):Prop:=∃H',Inv X pins σ H' s'/\Q b H'
def AP (X:Cx) (pins:List (UE×Obj)) (σ:St) (Q:List V->Hp->Prop) (us:List UL) (s':UK):Prop:=∃vs H',Inv X pins σ H' s'/\Vals vs us/\Q vs H'
def SP (X:Cx) (pins:List (UE×Obj)) (D:Ends) (f:Flow) (s':UK):Prop :=
 match f with
 | .next=>∃σ' H',Inv X pins σ' H' s'/\D.nx σ' H'
 | .brk=>∃σ' H',Inv X pins σ' H' s'/\D.bk σ' H'
 | .cont=>∃σ' H',Inv X pins σ' H' s'/\D.ct σ' H'
 | .ret u=>∃v σ' H',Inv X pins σ' H' s'/\RelV v u/\D.rt v H'
def PE (X:Cx) (e:Expr) (t:TE):Prop :=
 ∀(pins:List (UE×Obj)) (s:UK) (σ:St) (H:Hp) (Q:VK),Inv X pins σ H s->t σ H Q->UZ (model X.prog X.w) X.A (eval e X.env) (EP X pins σ Q) X.xe s
def PT (X:Cx) (e:Expr) (t:TT):Prop :=
 ∀(pins:List (UE×Obj)) (s:UK) (σ:St) (H:Hp) (Q:Bool->Hp->Prop),Inv X pins σ H s->t σ H Q->UZ (model X.prog X.w) X.A (isTrue e X.env (eval e X.env)) (TP X pins σ Q) X.xe s
def PW (X:Cx) (e:Expr) (t:TT):Prop :=
 ∀(whole:Sem UL) (pins:List (UE×Obj)) (s:UK) (σ:St) (H:Hp) (Q:Bool->Hp->Prop),Inv X pins σ H s->t σ H Q->UZ (model X.prog X.w) X.A (isTrue e X.env whole) (TP X pins σ Q) X.xe s
def PA (X:Cx) (es:List Expr) (t:TA):Prop :=
 ∀(pos:Pos) (pins:List (UE×Obj)) (s:UK) (σ:St) (H:Hp) (Q:List V->Hp->Prop),Inv X pins σ H s->t σ H Q->UZ (model X.prog X.w) X.A (spliced (backTo pos (UY es X.env))) (AP X pins σ Q) X.xe s
def PS (X:Cx) (st:Stmt) (t:TS):Prop :=
 ∀(pins:List (UE×Obj)) (s:UK) (σ:St) (H:Hp) (D:Ends),Inv X pins σ H s->t D σ H->UZ (model X.prog X.w) X.A (exec st X.env) (SP X pins D) X.xe s
def xy (X:Cx) (st:List Stmt) (t:TS):Prop :=
 ∀(pins:List (UE×Obj)) (s:UK) (σ:St) (H:Hp) (D:Ends),Inv X pins σ H s->t D σ H->UZ (model X.prog X.w) X.A (execs st X.env) (SP X pins D) X.xe s
theorem aM {α:Type} {t:Sem α} {Q Q':α->UK->Prop} {M:Model} {A:UG} {E:UL->UK->Prop} {s:UK} (h:UZ M A t Q E s) (hQ:∀a s,Q a s->Q' a s):UZ M A t Q' E s:=U3 h hQ fun _ _ x=>x
end L2
namespace L2
open PySem PySem.Spec PyProof.Rows
section
variable {X:Cx}
def MY (i:Nat):TE:=fun σ H Q=>∃v,σ[i]? =some (some v)/\Q v H
def tC (v:V):TE:=fun _ H Q=>Q v H
theorem E3 {i:Nat} {x:Str} {pos:Pos} (hN:X.N[i]? =some x) (hv:MT X.env.scope x) (hd:(x == ("__debug__":Str))=false:=by decide) (hcd:(x == ("__classdict__":Str))=false:=by decide):PE X (.Name x pos) (MY i):=by
 intro pins s σ H Q I h
 obtain⟨v,e,h⟩:=h
 obtain⟨m,hn,hl⟩:=I.loc
 obtain⟨u,r,l⟩:=hl i x v hN e hv
 have fin:EP X pins σ Q u s:=⟨v,H,I,r,h⟩
 rcases l with ⟨hk,hm⟩ | ⟨hk,c,hc,hcell⟩
 ·exact wpAny_Name (wpAny_loadName_local I.ok.kind hk hn hm fin) hd
 ·rcases hk with hk | hk
  ·exact wpAny_Name (wpAny_loadName_cell I.ok.kind hk hc hcell fin) hd
  ·exact wpAny_Name (wpAny_loadName_free I.ok.kind hk hc hcell fin hcd) hd
theorem E4 {i j pos}:PE X (.Constant (.int i) j pos) (tC (.int i)):=fun _ _ _ H _ I h=>wpAny_Constant_int ⟨.int i,H,I.tok _,⟨_,rfl⟩,h⟩
theorem Jm {b j pos}:PE X (.Constant (.bool b) j pos) (tC (.bl b)):=fun _ _ _ H _ I h=>Constant_bool ⟨.bl b,H,I,rfl,h⟩
theorem xG {j pos}:PE X (.Constant .none j pos) (tC .aB):=fun _ _ _ H _ I h=>Constant_none ⟨.aB,H,I,rfl,h⟩
theorem E5 {x j pos}:PE X (.Constant (.str x) j pos) (tC (.str x)):=fun _ _ _ H _ I h=>Calls.Constant_str ⟨.str x,H,I.tok _,⟨_,rfl⟩,h⟩
def Gl (X:Cx) (x:Str):Prop:=X.env.kindOf x=some .globalImplicit
theorem iQ {E:UL->UK->Prop} {pins:List (UE×Obj)} {s:UK} {σ:St} {H:Hp} {x:Str} {u:UL} {pos:Pos} {Q:UL->UK->Prop} (I:Inv X pins σ H s) (hg:Gl X x) (hm:X.mg x=some u) (h:Q u s)
  (hd:(x == ("__debug__":Str))=false:=by decide):UZ (model X.prog X.w) X.A (eval (.Name x pos) X.env) Q E s :=
 Calls.Name_function_global I.ok.kind hg (Calls.loadGlobal_global (by rw[I.ok.glob];exact I.mod.glob.keeps I.bk) hm h) hd
theorem iz {E:UL->UK->Prop} {pins:List (UE×Obj)} {s:UK} {σ:St} {H:Hp} {x:Str} {u:UL} {pos:Pos} {Q:UL->UK->Prop} (I:Inv X pins σ H s) (hg:Gl X x) (hm:X.mg x=none) (hv:UP x=some u) (h:Q u s)
  (hn:x≠"__name__":=by decide) (hd:(x == ("__debug__":Str))=false:=by decide):UZ (model X.prog X.w) X.A (eval (.Name x pos) X.env) Q E s:=by
 obtain⟨mb,h1,h2⟩:=I.mod.blt
 exact Calls.Name_function_global I.ok.kind hg (Calls.loadGlobal_builtin (by rw[I.ok.glob];exact I.mod.glob.keeps I.bk) hm (by rw[I.ok.blt];exact h1.keeps I.bk) ((h2 x hn).trans hv) h) hd
theorem eT {x:Str} {v:V} {u:UL} {pos:Pos} (hg:Gl X x) (hm:X.mg x=some u) (r:RelV v u) (hd:(x == ("__debug__":Str))=false:=by decide):PE X (.Name x pos) (tC v) :=
 fun _ _ _ H _ I h=>iQ I hg hm ⟨v,H,I,r,h⟩ hd
theorem Bv {x:Str} {v:V} {u:UL} {pos:Pos} (hg:Gl X x) (hm:X.mg x=none) (hv:UP x=some u) (r:RelV v u) (hn:x≠"__name__":=by decide) (hd:(x == ("__debug__":Str))=false:=by decide):PE X (.Name x pos) (tC v) :=
 fun _ _ _ H _ I h=>iz I hg hm hv ⟨v,H,I,r,h⟩ hn hd
def Q7 (ta tb:TE) (k:Int->Int->Hp->Prop):St->Hp->Prop:=fun σ H=>ta σ H fun x H1=>tb σ H1 fun y H2=>∃i j,x= .int i/\y= .int j/\k i j H2
variable {a b:Expr} {ta tb:TE} {pos:Pos}
def PC (X:Cx) (op:CmpOp) (a b:Expr) (t:TE):Prop :=
 ∀(pins:List (UE×Obj)) (s:UK) (σ:St) (H:Hp) (Q:VK),Inv X pins σ H s->t σ H Q->
  UZ (model X.prog X.w) X.A (eval a X.env) (fun v s₁=>UZ (model X.prog X.w) X.A (eval b X.env) (fun u s₂=>UZ (model X.prog X.w) X.A (US op v u) (EP X pins σ Q) X.xe s₂) X.xe s₁) X.xe s
def vM (p:Int->Int->Bool) (ta tb:TE):TE:=fun σ H Q=>Q7 ta tb (fun i j H2=>Q (.bl (p i j)) H2) σ H
abbrev TV:TE->TE->TE:=vM fun i j=>decide (i < j)
abbrev TX:TE->TE->TE:=vM fun i j=>decide (i<=j)
abbrev TY:TE->TE->TE:=vM fun i j=>decide (j < i)
abbrev TZ:TE->TE->TE:=vM fun i j=>decide (j<=i)
abbrev Q8:TE->TE->TE:=vM fun i j=>decide (i=j)
abbrev Q9:TE->TE->TE:=vM fun i j=> !decide (i=j)
def tB (t:TE):TT:=fun σ H Q=>t σ H fun x H1=>∃c,x= .bl c/\Q c H1
theorem xH {op:CmpOp} {t:TE} (h:PC X op a b t) (h1:UN op b=false:=by first | exact xI _ (by decide) (by decide) | rfl):PE X (.Compare a [op] [b] pos) t:=fun pins s σ H Q I hw=>wpAny_Compare1 (h pins s σ H Q I hw) h1
theorem xJ {op:CmpOp} {t:TE} (h:PC X op a b t) (h1:UN op b=false:=by first | exact xI _ (by decide) (by decide) | rfl):PT X (.Compare a [op] [b] pos) (tB t):=by
 intro pins s σ H Q I hw
 refine wpAny_isTrue_Compare1 (aM (h pins s σ H _ I hw) fun v s1 h1=>aM h1 fun u s2 h2=>aM h2 fun c s3 ⟨x,H1,I1,r1,q1⟩=>?_) h1
 obtain⟨d,rfl,q⟩:=q1
 cases r1
 exact U7 ⟨H1,I1,q⟩
variable {tA LV:TT} {rest:List Expr}
def MZ (t u:TT):TT:=fun σ H Q=>t σ H fun c H1=>if c=true then u σ H1 Q else Q false H1
def Q_ (t u:TT):TT:=fun σ H Q=>t σ H fun c H1=>if c=true then Q true H1 else u σ H1 Q
def M3 (t:TT):TT:=fun σ H Q=>t σ H fun c H1=>Q (!c) H1
theorem Bw (ha:PT X a tA):PW X (.BoolOp .And [a] pos) tA:=by
 intro wh pins s σ H Q I h
 refine isTrue_and (aM (ha pins s σ H Q I h) fun c s1 e=>?_)
 cases c with
 | true=>exact isTrue_and_nil e
 | false=>exact e
theorem E6 (ha:PT X a tA):PW X (.BoolOp .Or [a] pos) tA:=by
 intro wh pins s σ H Q I h
 refine isTrue_or (aM (ha pins s σ H Q I h) fun c s1 e=>?_)
 cases c with
 | false=>exact isTrue_or_nil e
 | true=>exact e
theorem E7 (ha:PT X a tA) (hb:PW X (.BoolOp .And (b::rest) pos) LV):PW X (.BoolOp .And (a::b::rest) pos) (MZ tA LV):=by
 intro wh pins s σ H Q I h
 refine isTrue_and (aM (ha pins s σ H _ I h) fun c s1 ⟨H1,I1,q1⟩=>?_)
 cases c with
 | true=>exact hb wh pins s1 σ H1 Q I1 q1
 | false=>exact⟨H1,I1,q1⟩
theorem Jn (ha:PT X a tA) (hb:PW X (.BoolOp .Or (b::rest) pos) LV):PW X (.BoolOp .Or (a::b::rest) pos) (Q_ tA LV):=by
 intro wh pins s σ H Q I h
 refine isTrue_or (aM (ha pins s σ H _ I h) fun c s1 ⟨H1,I1,q1⟩=>?_)
 cases c with
 | true=>exact⟨H1,I1,q1⟩
 | false=>exact hb wh pins s1 σ H1 Q I1 q1
theorem E8 (ha:PT X a tA):PT X (.UnaryOp .Not a pos) (M3 tA):=by
 intro pins s σ H Q I h
 exact isTrue_not (ha pins s σ H (fun c H1=>Q (!c) H1) I h)
def Jo (ta tb:TE):TE:=fun σ H Q=>ta σ H fun x H1=>∃c,x= .bl c/\if c=true then tb σ H1 Q else Q (.bl false) H1
def M4 (ta tb:TE):TE:=fun σ H Q=>ta σ H fun x H1=>∃c,x= .bl c/\if c=true then Q (.bl true) H1 else tb σ H1 Q
def Jp (ta:TE):TE:=fun σ H Q=>ta σ H fun x H1=>∃c,x= .bl c/\Q (.bl (!c)) H1
theorem E9 {op} {t:TE} (h:PE X a t):PE X (.BoolOp op [a] pos) t:=fun pins s σ H Q I hw=>BoolOp_one (h pins s σ H Q I hw)
theorem E_ (ha:PE X a ta) (hb:PE X (.BoolOp .And (b::rest) pos) tb):PE X (.BoolOp .And (a::b::rest) pos) (Jo ta tb):=by
 intro pins s σ H Q I h
 refine BoolOp_and (aM (ha pins s σ H _ I h) fun v s1 ⟨x,H1,I1,r1,q1⟩=>?_)
 obtain⟨c,rfl,q1⟩:=q1
 cases r1
 refine U7 ?_
 cases c with
 | true=>exact hb pins s1 σ H1 Q I1 q1
 | false=>exact⟨.bl false,H1,I1,rfl,q1⟩
theorem Jq (ha:PE X a ta) (hb:PE X (.BoolOp .Or (b::rest) pos) tb):PE X (.BoolOp .Or (a::b::rest) pos) (M4 ta tb):=by
 intro pins s σ H Q I h
 refine BoolOp_or (aM (ha pins s σ H _ I h) fun v s1 ⟨x,H1,I1,r1,q1⟩=>?_)
 obtain⟨c,rfl,q1⟩:=q1
 cases r1
 refine U7 ?_
 cases c with
 | false=>exact hb pins s1 σ H1 Q I1 q1
 | true=>exact⟨.bl true,H1,I1,rfl,q1⟩
theorem Fb (ha:PE X a ta):PE X (.UnaryOp .Not a pos) (Jp ta):=by
 intro pins s σ H Q I h
 refine UnaryOp_ (aM (ha pins s σ H _ I h) fun v s1 ⟨x,H1,I1,r1,q1⟩=>?_)
 obtain⟨c,rfl,q1⟩:=q1
 cases r1
 exact not_of (U7 ⟨.bl (!c),H1,I1,rfl,q1⟩)
def Ra (t:TT) (ta tb:TE):TE:=fun σ H Q=>t σ H fun c H1=>if c=true then ta σ H1 Q else tb σ H1 Q
theorem xK {c:Expr} (hc:PT X c tA) (ha:PE X a ta) (hb:PE X b tb):PE X (.IfExp c a b pos) (Ra tA ta tb):=by
 intro pins s σ H Q I h
 refine wpAny_IfExp (aM (hc pins s σ H _ I h) fun d s1 ⟨H1,I1,q1⟩=>?_)
 cases d with
 | true=>exact ha pins s1 σ H1 Q I1 q1
 | false=>exact hb pins s1 σ H1 Q I1 q1
end
end L2
namespace L2
open PySem PySem.Spec PyProof.Rows
def gq (K:PySem.W.Frag) (H:Hp) (a:UE) (xs:List V):Prop :=
 Rd H a (.lst xs)\/
  ∃(o:Obj) (its:Array UL) (n:Nat),K.lookup a=some o/\o.cls= .type "list"/\o.dict=none/\o.data= .seq its n/\its.size<=UX/\Vals xs its.toList
def dq (K:PySem.W.Frag) (H:Hp) (a:UE) (xs:List V):Prop :=
 Rd H a (.tup xs)\/
  ∃(o:Obj) (its:Array UL) (n:Nat),K.lookup a=some o/\o.cls= .type "tuple"/\o.data= .seq its n/\its.size<=UX/\Vals xs its.toList
def M5:UL->Option V
 | .none=>some .aB
 | .bool b=>some (.bl b)
 | .int i _=>some (.int i)
 | .str x _=>some (.str x)
 | .bytes b _=>some (.IW b)
 | .float b _=>some (.pQ b)
 | .ref a=>some (.ref a)
 | .type n=>some (.ty n)
 | _=>none
theorem RelV.abs {x:V} {u:UL} (r:RelV x u):M5 u=some x:=by
 cases x with
 | aB=>cases r;rfl
 | bl _=>cases r;rfl
 | int _=>obtain⟨t,rfl⟩:=r;rfl
 | str _=>obtain⟨t,rfl⟩:=r;rfl
 | IW _=>obtain⟨t,rfl⟩:=r;rfl
 | pQ _=>obtain⟨t,rfl⟩:=r;rfl
 | ref _=>cases r;rfl
 | ty _=>cases r;rfl
theorem RelV.inj {x y:V} {u:UL} (r:RelV x u) (q:RelV y u):x=y:=Option.some.inj (r.abs.symm.trans q.abs)
theorem Vals.inj:∀{xs ys:List V} {us:List UL},Vals xs us->Vals ys us->xs=ys
 | _,_,_,.nil,.nil=>rfl
 | _,_,_,.cons r t,.cons r' t'=>by rw[r.inj r',Vals.inj t t']
section
variable {X:Cx} {pins:List (UE×Obj)} {σ:St} {H:Hp} {s:UK} {a:UE} {xs ys:List V}
theorem gq.of {K:PySem.W.Frag} (h:H a=some (.lst xs)):gq K H a xs:=.inl (.inl h)
theorem dq.of {K:PySem.W.Frag} (h:H a=some (.tup xs)):dq K H a xs:=.inl (.inl h)
theorem Inv.list (I:Inv X pins σ H s) (h:gq X.K H a xs):∃its:List UL,Vals xs its/\PlainL s.heap a its.toArray/\xs.length<=UX:=by
 rcases h with h | ⟨o,its,n,hk,hc,hd,hs,hz,r⟩
 ·obtain⟨z,its,n,r,e⟩:=h.ok I.hok
  exact⟨its,r,⟨_,n,e,rfl,rfl,rfl⟩,z⟩
 ·refine⟨its.toList,r,⟨o,n,I.uh a o hk,hc,hd,by simpa using hs⟩,?_⟩
  have e:=r.length
  simp only[Array.length_toList] at e
  omega
theorem Inv.tuple (I:Inv X pins σ H s) (h:dq X.K H a xs):∃its:List UL,Vals xs its/\IsTup s.heap a its.toArray/\xs.length<=UX:=by
 rcases h with h | ⟨o,its,n,hk,hc,hs,hz,r⟩
 ·obtain⟨z,its,r,p,_⟩:=h.ok I.hok
  exact⟨its,r,p,z⟩
 ·refine⟨its.toList,r,⟨o,I.uh a o hk,hc,n,by simpa using hs⟩,?_⟩
  have e:=r.length
  simp only[Array.length_toList] at e
  omega
theorem Inv.pU (I:Inv X pins σ H s) (h:gq X.K H a xs) (h':gq X.K H a ys):xs=ys:=by
 obtain⟨its,r,⟨o,n,e,_,_,d⟩,_⟩:=I.list h
 obtain⟨its',r',⟨o',n',e',_,_,d'⟩,_⟩:=I.list h'
 rw[e] at e';cases e'
 rw[d] at d'
 injection d' with d1 _
 have:its=its':=by simpa using congrArg Array.toList d1
 subst this
 exact r.inj r'
theorem Inv.vN (I:Inv X pins σ H s) (h:dq X.K H a xs) (h':dq X.K H a ys):xs=ys:=by
 obtain⟨its,r,⟨o,e,_,n,d⟩,_⟩:=I.tuple h
 obtain⟨its',r',⟨o',e',_,n',d'⟩,_⟩:=I.tuple h'
 rw[e] at e';cases e'
 rw[d] at d'
 injection d' with d1 _
 have:its=its':=by simpa using congrArg Array.toList d1
 subst this
 exact r.inj r'
end
abbrev Cx.M6 (X:Cx) (E:UL->UK->Prop):Cx:={ X with xe:=E }
abbrev Cx.iM (X:Cx):Cx:=X.M6 fun _ _=>False
section
variable {X:Cx} {pins:List (UE×Obj)} {σ:St} {H:Hp} {s:UK} {E:UL->UK->Prop}
end
section
variable {X:Cx} {st:Stmt} {rest:List Stmt} {t u:TS} {e:Expr} {te:TE} {pos:Pos}
def DS:TS:=fun D σ H=>D.nx σ H
def M7 (t u:TS):TS:=fun D σ H=>t { D with nx:=u D } σ H
theorem Bx:xy X [] DS:=fun _ _ σ H _ I h=>wpAny_execs_nil ⟨σ,H,I,h⟩
theorem xM (h1:PS X st t) (h2:xy X rest u):xy X (st::rest) (M7 t u):=by
 intro pins s σ H D I h
 refine wpAny_execs_cons (aM (h1 pins s σ H { D with nx:=u D } I h) fun f s1 q=>?_)
 cases f with
 | next=>
  obtain⟨σ',H',I',q⟩:=q
  exact h2 pins s1 σ' H' D I' q
 | ret v=>exact q
 | brk=>exact q
 | cont=>exact q
theorem By (h1:PS X st t):xy X [st] t:=by
 intro pins s σ H D I h
 refine wpAny_execs_cons (aM (h1 pins s σ H D I h) fun f s1 q=>?_)
 cases f with
 | next=>exact wpAny_execs_nil q
 | ret v=>exact q
 | brk=>exact q
 | cont=>exact q
theorem Bz:PS X (.Pass pos) DS:=fun _ _ σ H _ I h=>wpAny_Pass ⟨σ,H,I,h⟩
theorem Inv.quiet {pins:List (UE×Obj)} {σ:St} {H:Hp} {s:UK} (I:Inv X pins σ H s):interactive X.env=false:=by simp[interactive,I.ok.kind]
def Jr (te:TE):TS:=fun D σ H=>te σ H fun _ H1=>D.nx σ H1
theorem BA (he:PE X e te) (hs:swapsWith e none pos.line X.env=pure false:=by rfl):PS X (.Expr e pos) (Jr te):=by
 intro pins s σ H D I h
 exact wpAny_Expr_any (aM (he pins s σ H _ I h) fun v s1 ⟨x,H1,I1,r1,q1⟩=>⟨σ,H1,I1,q1⟩) I.quiet hs
def M8 (te:TE):TS:=fun D σ H=>te σ H D.rt
theorem Fc (he:PE X e te):PS X (.Return (some e) pos) (M8 te):=by
 intro pins s σ H D I h
 exact wpAny_Return_some (aM (he pins s σ H _ I h) fun v s1 ⟨x,H1,I1,r1,q1⟩=>⟨x,σ,H1,I1,r1,q1⟩)
def Js:TS:=fun D _ H=>D.rt .aB H
theorem BB:PS X (.Return none pos) Js:=fun _ _ σ H _ I h=>wpAny_Return_none ⟨.aB,σ,H,I,rfl,h⟩
def M9 (c:TT) (t u:TS):TS:=fun D σ H=>c σ H fun b H1=>if b=true then t D σ H1 else u D σ H1
theorem Jt {c:Expr} {a b:List Stmt} {tc:TT} (hc:PT X c tc) (ha:xy X a t) (hb:xy X b u):PS X (.If c a b pos) (M9 tc t u):=by
 intro pins s σ H D I h
 refine wpAny_If (aM (hc pins s σ H _ I h) fun d s1 ⟨H1,I1,q1⟩=>?_)
 cases d with
 | true=>exact ha pins s1 σ H1 D I1 q1
 | false=>exact hb pins s1 σ H1 D I1 q1
def xN:TS:=fun _ _ _=>False
theorem xO:PS X st xN:=fun _ _ _ _ _ _ h=>h.elim
theorem vO {sts:List Stmt}:xy X sts xN:=fun _ _ _ _ _ _ h=>h.elim
end
abbrev TG:=V->St->Hp->(St->Hp->Prop)->Prop
abbrev DT:=List V->St->Hp->(St->Hp->Prop)->Prop
def PG (X:Cx) (target:Expr) (t:TG):Prop :=
 ∀(pins:List (UE×Obj)) (s:UK) (σ:St) (H:Hp) (v:V) (u:UL) (Q:St->Hp->Prop),Inv X pins σ H s->RelV v u->t v σ H Q->
  UZ (model X.prog X.w) X.A (assign target X.env u) (fun _ s'=>∃σ' H',Inv X pins σ' H' s'/\Q σ' H') X.xe s
def Ju (X:Cx) (ts:List Expr) (t:DT):Prop :=
 ∀(pins:List (UE×Obj)) (s:UK) (σ:St) (H:Hp) (vs:List V) (us:List UL) (Q:St->Hp->Prop),Inv X pins σ H s->Vals vs us->t vs σ H Q->
  UZ (model X.prog X.w) X.A (assignInOrder ((assignEach ts X.env).map (·.2)) us) (fun _ s'=>∃σ' H',Inv X pins σ' H' s'/\Q σ' H') X.xe s
abbrev Fd:=V->V->V->Hp->(Hp->Prop)->Prop
def Jv (X:Cx) (t:Fd):Prop :=
 ∀(pins:List (UE×Obj)) (s:UK) (σ:St) (H:Hp) (o i v:V) (ov iv u:UL) (Q:Hp->Prop),Inv X pins σ H s->RelV o ov->RelV i iv->RelV v u->t o i v H Q->
  UZ (model X.prog X.w) X.A (setItem ov iv u) (fun _ s'=>∃H',Inv X pins σ H' s'/\Q H') X.xe s
abbrev T1:=V->V->Hp->VK->Prop
section
variable {X:Cx} {pos:Pos}
def pV (i:Nat):TG:=fun v σ H Q=>Q (σ.set i (some v)) H
theorem iR {i:Nat} {x:Str} (hN:X.N.Nodup) (hi:X.N[i]? =some x) (hx:Loc X.env.scope x) (hf:X.fn x=true\/X.env.scope.names.lookup x=some .local:=by first | exact .inl rfl | exact .inr rfl | assumption):PG X (.Name x pos) (pV i):=by
 intro pins s σ H v u Q I r h
 exact wpAny_assign_Name (iP I hN hi hx r (fun s' I'=>⟨_,H,I',h⟩) hf)
def ai:DT:=fun vs σ H Q=>vs=[]/\Q σ H
def aa (t:TG) (u:DT):DT:=fun vs σ H Q=>∃v r,vs=v::r/\t v σ H fun σ' H'=>u r σ' H' Q
theorem BC:Ju X [] ai:=by
 intro pins s σ H vs us Q I r h
 obtain⟨e,h⟩:=h
 subst e
 cases r
 exact assignInOrder_nil ⟨σ,H,I,h⟩
theorem xP {e:Expr} {es:List Expr} {t:TG} {u:DT} (h1:PG X e t) (h2:Ju X es u)
  (hs:(assignEach (e::es) X.env).map (·.2)=assign e X.env::(assignEach es X.env).map (·.2):=by rfl):Ju X (e::es) (aa t u):=by
 intro pins s σ H vs us Q I r h
 obtain⟨v,vr,e1,h⟩:=h
 subst e1
 cases r with
 | cons r rr=>
  rw[hs]
  refine assignInOrder_cons (aM (h1 pins s σ H _ _ _ I r h) fun _ s1 ⟨σ1,H1,I1,q1⟩=>?_)
  exact h2 pins s1 σ1 H1 _ _ Q I1 rr q1
def dU (K:PySem.W.Frag) (n:Nat) (t:DT):TG:=fun v σ H Q=>∃a xs,v= .ref a/\dq K H a xs/\xs.length=n/\t xs σ H Q
theorem rS {es:List Expr} {k:Nat} {t:DT} {n:Nat} (hc:X.calm=true) (h:Ju X es t)
  (hn:(assignEach es X.env).length=n:=by rfl) (hst:(assignEach es X.env).findIdx? (·.1)=none:=by rfl):PG X (.Tuple es k pos) (dU X.K n t):=by
 intro pins s σ H v u Q I r hw
 obtain⟨a,xs,e1,hq,hl,hw⟩:=hw
 subst e1
 cases r
 obtain⟨its,rv,ht,hz⟩:=I.tuple hq
 refine assign_Tuple_tuple (I.ok.hd hc) ht (by simp[hn,<-hl,rv.length]) hst fun h' hx=>?_
 have I1:Inv X pins σ H { s with heap:=h' }:=I.kept (t':=s.toks) fun b o e=>hx b o (Nat.ne_of_lt (Heap.lt_size e)) e
 exact h pins _ σ H xs _ Q I1 (by simpa using rv) hw
def M_ (to ti:TE) (t:Fd):TG:=fun v σ H Q=>to σ H fun o H1=>ti σ H1 fun i H2=>t o i v H2 fun H3=>Q σ H3
theorem Fe {o i:Expr} {to ti:TE} {t:Fd} (ho:PE X o to) (hi:PE X i ti) (hs:Jv X t)
  (ha:∀v,assign (.Subscript o i pos) X.env v=(do
   let ov <-holding [v] (eval o X.env)
   let iv <-holding [v,ov] (eval i X.env)
   standAt pos
   holding [v,ov,iv] (setItem ov iv v)
   release [v,ov,iv] []):=by intro _;rfl):PG X (.Subscript o i pos) (M_ to ti t):=by
 intro pins s σ H v u Q I r h
 rw[ha]
 refine U0 (U2 (aM (ho pins s σ H _ I h) fun ov s1 ⟨x,H1,I1,r1,q1⟩=>?_))
 refine U0 (U2 (aM (hi pins s1 σ H1 _ I1 q1) fun iv s2 ⟨y,H2,I2,r2,q2⟩=>?_))
 refine U0 (wpAny_standAt (U0 (U2 (aM (hs pins s2 σ H2 x y v ov iv u _ I2 r1 r2 r q2) fun _ s3 ⟨H3,I3,q3⟩=>?_))))
 exact wpAny_release ⟨σ,H3,I3,q3⟩
def Jw (te:TE) (g:TG):TS:=fun D σ H=>te σ H fun x H1=>g x σ H1 D.nx
theorem xQ {tg e:Expr} {te:TE} {g:TG} (he:PE X e te) (hg:PG X tg g) (hs:swapsWithSole [tg] e pos.line X.env=pure false:=by rfl) (hw:swappedStores [tg] e X.env=pure none:=by rfl)
  (h1:(assignEach [tg] X.env).map (·.2)=[assign tg X.env]:=by rfl):PS X (.Assign [tg] e pos) (Jw te g):=by
 intro pins s σ H D I h
 refine wpAny_Assign_stores (aM (he pins s σ H _ I h) fun v s1 ⟨x,H1,I1,r1,q1⟩=>?_) hs hw
 rw[h1]
 exact aM (hg pins s1 σ H1 x v _ I1 r1 q1) fun _ s2 q=>q
theorem Ff {i:Nat} {x:Str} {e:Expr} {te:TE} {pos':Pos} (hN:X.N.Nodup) (hi:X.N[i]? =some x) (hx:Loc X.env.scope x) (he:PE X e te) (hs:swapsWith e (some (.Name x pos')) pos.line X.env=pure false:=by rfl) (hf:X.fn x=true\/X.env.scope.names.lookup x=some .local:=by first | exact .inl rfl | exact .inr rfl | assumption) :
  PS X (.Assign [.Name x pos'] e pos) (Jw te (pV i)):=by
 intro pins s σ H D I h
 refine wpAny_Assign_Name (aM (he pins s σ H _ I h) fun v s1 ⟨y,H1,I1,r1,q1⟩=>?_) hs
 exact iP I1 hN hi hx r1 (fun s2 I2=>⟨_,H1,I2,q1⟩) hf
end
section
variable {X:Cx} {pos:Pos}
def Fg (c:TT) (tb:TS):TS:=fun D σ H=>∃W:Nat->St->Hp->Prop,(∃m,W m σ H)/\∀m σ H,W m σ H->
 c σ H fun b H1=>if b=true then ∃N:St->Hp->Prop,(∀σ' H',N σ' H'->∃m',m' < m/\W m' σ' H')/\tb { D with nx:=N,ct:=N,bk:=D.nx } σ H1 else D.nx σ H1
theorem xR {c:Expr} {body:List Stmt} {tc:TT} {tb:TS} (hp:PassesOwn (model X.prog X.w) X.A X.env X.xe) (hc:PT X c tc) (hb:xy X body tb):PS X (.While c body [] pos) (Fg tc tb):=by
 intro pins s σ H D I h
 obtain⟨W,⟨m0,w0⟩,turn⟩:=h
 refine wpAny_While (codeAny_whileLoop (fun n s'=>∃σ' H',Inv X pins σ' H' s'/\W n σ' H') ?_ m0 ⟨σ,H,I,w0⟩)
 rintro n s1 ⟨σ1,H1,I1,w1⟩
 refine wpAny_passesOwn hp (aM (hc pins s1 σ1 H1 _ I1 (turn n σ1 H1 w1)) fun b s2 ⟨H2,I2,q2⟩=>?_)
 cases b with
 | true=>
  obtain⟨N,hN,q2⟩:=q2
  rw[if_pos rfl]
  refine wpAny_passesOwn hp (aM (hb pins s2 σ1 H2 _ I2 q2) fun f s3 q3=>?_)
  cases f with
  | next=>
   obtain⟨σ3,H3,I3,n3⟩:=q3
   obtain⟨m',hm,w3⟩:=hN σ3 H3 n3
   exact⟨m',hm,σ3,H3,I3,w3⟩
  | cont=>
   obtain⟨σ3,H3,I3,n3⟩:=q3
   obtain⟨m',hm,w3⟩:=hN σ3 H3 n3
   exact⟨m',hm,σ3,H3,I3,w3⟩
  | brk=>exact q3
  | ret v=>exact q3
 | false=>
  rw[if_neg Bool.false_ne_true]
  exact wpAny_execs_nil ⟨σ1,H2,I2,q2⟩
end
structure It where
 go:Nat->Hp->Prop
 pW:Nat->Hp->V->Hp->Prop
 stop:Nat->Hp->Prop
def dG (X:Cx) (pins:List (UE×Obj)) (H:Hp) (b:UE):Prop :=
 H b=none/\b≠X.env.locals/\b∉X.fs/\(b∈X.ex\/X.s₀.heap.objs.size<=b)/\(∀x c,X.env.cells.lookup x=some c->c≠b)/\∀p∈X.pn++pins,p.1≠b
theorem Inv.pX {X:Cx} {pins:List (UE×Obj)} {σ:St} {H H':Hp} {s:UK} {b:UE} (I:Inv X pins σ H s) (hb:s.heap.objs.size<=b) (hn:H' b=none):dG X pins H' b:=by
 refine⟨hn,Nat.ne_of_gt (Nat.lt_of_lt_of_le I.lt hb),I.MW hb,.inr (Nat.le_trans I.sz hb),fun x c e z=>?_,fun p hp z=>?_⟩
 ·obtain⟨v,q⟩:=I.cell x c e
  exact absurd (Nat.lt_of_lt_of_le q.lt (by rw[z];exact hb)) (Nat.lt_irrefl _)
 ·exact absurd (Nat.lt_of_lt_of_le (Heap.lt_size (I.pin p hp).1) (by rw[z];exact hb)) (Nat.lt_irrefl _)
structure Turn (P:UJ) (w:UM) (K:PySem.W.Frag) (tg:Expr) (J:It) (fp:List UE) (it:UE) (tn:Nat->Heap->Prop):Prop where
 mem:it∈fp
 obj:∀i h,tn i h->∀b∈fp,∃o,h.get? b=some o/\∀v,o.data≠.cell v
 keep:∀i h h',tn i h->(∀b∈fp,∀o,h.get? b=some o->h'.get? b=some o)->tn i h'
 item:∀(X:Cx),X.prog=P->X.w=w->X.K=K->X.calm=true->∀(i:Nat) (pins:List (UE×Obj)) (s:UK) (σ:St) (H:Hp) (E:UL->UK->Prop),Inv X pins σ H s->(∀b∈fp,dG X pins H b)->tn i s.heap->J.go i H->
  UZ (model P w) X.A (pyNext (.ref it)) (fun r s1=>∃u,r=some u/\
   UZ (model P w) X.A (letOwnedTupleGo tg (.ref it) u) (fun _ s2=>∃x H',Inv X pins σ H' s2/\RelV x u/\J.pW i H x H'/\tn (i+1) s2.heap/\∀b∈fp,H' b=none) E s1) E s
 done:∀(X:Cx),X.prog=P->X.w=w->X.K=K->X.calm=true->∀(i:Nat) (pins:List (UE×Obj)) (s:UK) (σ:St) (H:Hp) (E:UL->UK->Prop),Inv X pins σ H s->(∀b∈fp,dG X pins H b)->tn i s.heap->J.stop i H->
  UZ (model P w) X.A (pyNext (.ref it)) (fun r s1=>r=none/\Inv X pins σ H s1) E s
 self:∀(A:UG) (i:Nat) (s:UK) (Q:UL->UK->Prop) (E:UL->UK->Prop),tn i s.heap->Q (.ref it) s->UZ (model P w) A (pyIter (.ref it)) Q E s
abbrev TI:=St->Hp->(It->Hp->Prop)->Prop
def M' (X:Cx) (pins:List (UE×Obj)) (σ:St) (tg:Expr) (R:It->Hp->Prop) (itv:UL) (s2:UK):Prop :=
 ∃(it:UE) (fp:List UE) (tn:Nat->Heap->Prop) (J:It) (H':Hp),itv= .ref it/\Inv X pins σ H' s2/\Turn X.prog X.w X.K tg J fp it tn/\tn 0 s2.heap/\(∀b∈fp,dG X pins H' b)/\R J H'
def PI (X:Cx) (tg iter:Expr) (wi:TI):Prop :=
 ∀(pins:List (UE×Obj)) (s:UK) (σ:St) (H:Hp) (R:It->Hp->Prop),Inv X pins σ H s->wi σ H R->
  UZ (model X.prog X.w) X.A (eval iter X.env) (fun v s1=>UZ (model X.prog X.w) X.A (pyIter v) (M' X pins σ tg R) X.xe s1) X.xe s
theorem jQ {M:Model} {A:UG} {E:UL->UK->Prop} {s:UK} {tg:Expr} {it:UE} {u:UL} {o:Obj} {n:String} {vs:Array UL} {Q:Unit->UK->Prop} (ho:s.heap.get? it=some o) (hc:o.cls= .type n) (hd:o.data= .fields vs)
    (hn:["enumerate","zip","dict_itemiterator","dict_reverseitemiterator","odict_iterator","itertools.zip_longest","itertools.pairwise"].contains n=false) (hQ:Q () s):UZ M A (letOwnedTupleGo tg (.ref it) u) Q E s:=by
  unfold letOwnedTupleGo
  cases tg<;>first
    | exact U6 hQ
    | (cases u<;>first
        | exact U6 hQ
        | (refine U0 (wpAny_load ho ?_)
           rw[hc,hd]
           show UZ M A (if(["enumerate","zip","dict_itemiterator","dict_reverseitemiterator","odict_iterator","itertools.zip_longest","itertools.pairwise"].contains n&&vs[0]? == some (rawInt _))=true then _ else _) Q E s
           rw[if_neg (by intro h;rw[hn,Bool.false_and] at h;cases h)]
           exact U6 hQ))
def Na (K:PySem.W.Frag) (a:UE):It :=
 ⟨fun i H=>∃xs x,gq K H a xs/\xs[i]? =some x,fun i H x H'=>H'=H/\∀xs,gq K H a xs->xs[i]? =some x,fun i H=>∃xs,gq K H a xs/\xs.length<=i⟩
def PZ (K:PySem.W.Frag) (a:UE):It :=
 ⟨fun i H=>∃xs x,dq K H a xs/\xs[i]? =some x,fun i H x H'=>H'=H/\∀xs,dq K H a xs->xs[i]? =some x,fun i H=>∃xs,dq K H a xs/\xs.length<=i⟩
def BD (lo:Int) (n:Nat):It:=⟨fun i _=>i < n,fun i H x H'=>H'=H/\x= .int (lo+i),fun i _=>n<=i⟩
theorem ni {P:UJ} {w:UM} {K:PySem.W.Frag} {tg:Expr} (a it:UE):Turn P w K tg (Na K a) [it] it (fun i h=>h.IsListIter it a i) where
 mem:=by simp
 obj:=fun i h st b hb=>by
  have e:b=it:=by simpa using hb
  subst e
  obtain⟨o,e,c,d⟩:=st
  exact⟨o,e,fun v z=>by rw[d] at z;cases z⟩
 keep:=fun i h h' st k=>st.at fun o e=>k it (by simp) o e
 item:=by
  intro X hP hw hK hc i pins s σ H E I hf st hg
  subst hP hw hK
  obtain⟨xs,x,hq,hx⟩:=hg
  obtain⟨its,rv,p,hz⟩:=I.list hq
  obtain⟨u,hu,ru⟩:=rv.get hx
  obtain⟨f0,f1,f2,f3,f4,f5⟩:=hf it (by simp)
  refine wpAny_pyNext_list_item st p.isList (x:=u) (by simpa using hu) fun h' st' sb=>?_
  have I1:Inv X pins σ H { s with heap:=h' }:=I.turned (t':=s.toks) (fun b o hb e=>(sb.2 b hb).trans e) f0 f1 f3 f4 f5
  obtain⟨o,e,c,d⟩:=id st'
  exact⟨u,rfl,jQ (s:={ s with heap:=h' }) e c d (by decide) ⟨x,H,I1,ru,⟨rfl,fun ys hy=>by rw[I.pU hy hq];exact hx⟩,st',fun b hb=>(hf b hb).1⟩⟩
 done:=by
  intro X hP hw hK hc i pins s σ H E I hf st hg
  subst hP hw hK
  obtain⟨xs,hq,hx⟩:=hg
  obtain⟨its,rv,p,hz⟩:=I.list hq
  obtain⟨f0,f1,f2,f3,f4,f5⟩:=hf it (by simp)
  have hl:=rv.length
  exact wpAny_pyNext_list_end (I.ok.hd hc) st p.isList (by simp;omega) fun h' eb=>⟨rfl,I.turned (t':=s.toks) (fun b o hb e=>eb b o hb e) f0 f1 f3 f4 f5⟩
 self:=fun _ _ _ _ _ st h=>wpAny_pyIter_listiter st h
theorem rT {P:UJ} {w:UM} {K:PySem.W.Frag} {tg:Expr} (a it:UE):Turn P w K tg (PZ K a) [it] it (fun i h=>h.IsTupleIter it a i) where
 mem:=by simp
 obj:=fun i h st b hb=>by
  have e:b=it:=by simpa using hb
  subst e
  obtain⟨o,e,c,d⟩:=st
  exact⟨o,e,fun v z=>by rw[d] at z;cases z⟩
 keep:=fun i h h' st k=>st.at fun o e=>k it (by simp) o e
 item:=by
  intro X hP hw hK hc i pins s σ H E I hf st hg
  subst hP hw hK
  obtain⟨xs,x,hq,hx⟩:=hg
  obtain⟨its,rv,p,hz⟩:=I.tuple hq
  obtain⟨u,hu,ru⟩:=rv.get hx
  obtain⟨f0,f1,f2,f3,f4,f5⟩:=hf it (by simp)
  refine wpAny_pyNext_tuple_item st (show s.heap.IsTuple a its.toArray from p) (x:=u) (by simpa using hu) fun h' st' sb=>?_
  have I1:Inv X pins σ H { s with heap:=h' }:=I.turned (t':=s.toks) (fun b o hb e=>(sb.2 b hb).trans e) f0 f1 f3 f4 f5
  obtain⟨o,e,c,d⟩:=id st'
  exact⟨u,rfl,jQ (s:={ s with heap:=h' }) e c d (by decide) ⟨x,H,I1,ru,⟨rfl,fun ys hy=>by rw[I.vN hy hq];exact hx⟩,st',fun b hb=>(hf b hb).1⟩⟩
 done:=by
  intro X hP hw hK hc i pins s σ H E I hf st hg
  subst hP hw hK
  obtain⟨xs,hq,hx⟩:=hg
  obtain⟨its,rv,p,hz⟩:=I.tuple hq
  obtain⟨f0,f1,f2,f3,f4,f5⟩:=hf it (by simp)
  have hl:=rv.length
  exact wpAny_pyNext_tuple_end (I.ok.hd hc) st (show s.heap.IsTuple a its.toArray from p) (by simp;omega) fun h' eb=>⟨rfl,I.turned (t':=s.toks) (fun b o hb e=>eb b o hb e) f0 f1 f3 f4 f5⟩
 self:=fun _ _ _ _ _ st h=>wpAny_pyIter_tupleiter st h
theorem fL {P:UJ} {w:UM} {K:PySem.W.Frag} {tg:Expr} (it:UE) (lo:Int) (n:Nat):Turn P w K tg (BD lo n) [it] it (fun i h=>IsRangeIter h it (lo+(i:Nat) * 1) ((n:Int) - (i:Nat)) 1) where
 mem:=by simp
 obj:=fun i h st b hb=>by
  have e:b=it:=by simpa using hb
  subst e
  exact⟨_,st,fun v z=>by
   have z':Data.fields _=Data.cell v:=z
   cases z'⟩
 keep:=fun i h h' st k=>k it (by simp) _ st
 item:=by
  intro X hP hw hK hc i pins s σ H E I hf st hg
  subst hP hw hK
  obtain⟨f0,f1,f2,f3,f4,f5⟩:=hf it (by simp)
  have W:=Walks.range (prog:=X.prog) (w:=X.w) (I.ok.hd hc) it lo 1 n
  refine W.item i s _ _ hg st fun v h' tk hv st' kk=>?_
  obtain⟨t,rfl⟩:=hv
  have I1:Inv X pins σ H { s with heap:=h',toks:=tk }:=I.turned (fun b o hb e=>kk b o (by simpa using hb) e) f0 f1 f3 f4 f5
  refine⟨_,rfl,jQ (s:={ s with heap:=h',toks:=tk }) (n:="range_iterator") st' rfl rfl (by decide) ⟨.int (lo+i),H,I1,⟨t,?_⟩,⟨rfl,rfl⟩,st',fun b hb=>(hf b hb).1⟩⟩
  rw[Int.mul_one]
 done:=by
  intro X hP hw hK hc i pins s σ H E I hf st hg
  subst hP hw hK
  obtain⟨f0,f1,f2,f3,f4,f5⟩:=hf it (by simp)
  exact wpAny_pyNext_range_end (I.ok.hd hc) st (by have:n<=i:=hg;omega) fun h' eb=>⟨rfl,I.turned (t':=s.toks) (fun b o hb e=>eb b o hb e) f0 f1 f3 f4 f5⟩
 self:=fun _ _ _ _ _ st h=>wpAny_pyIter_rangeiter st h
end L2
namespace L2
open PySem PySem.Spec PyProof.Rows
section
variable {X:Cx} {tg:Expr}
def Jx (K:PySem.W.Frag) (tl:TE):TI:=fun σ H R=>tl σ H fun x H1=>∃a,x= .ref a/\(∃xs,gq K H1 a xs)/\R (Na K a) H1
theorem BE {l:Expr} {tl:TE} (hl:PE X l tl):PI X tg l (Jx X.K tl):=by
 intro pins s σ H R I h
 refine aM (hl pins s σ H _ I h) fun v s1 ⟨x,H1,I1,r1,q1⟩=>?_
 obtain⟨a,e,⟨xs,hq⟩,q⟩:=q1
 subst e
 cases r1
 obtain⟨its,rv,p,hz⟩:=I1.list hq
 refine wpAny_pyIter_list p.isList ?_
 refine⟨s1.heap.objs.size,[s1.heap.objs.size],_,_,H1,rfl,I1.kept (t':=s1.toks) fun b o e=>Heap.get?_push_of_some _ e,ni a _,⟨_,Heap.get?_push_size _ rfl,rfl,rfl⟩,fun b hb=>?_,q⟩
 have e:b=s1.heap.objs.size:=by simpa using hb
 subst e
 exact I1.pX (Nat.le_refl _) (I1.hok.fresh (Nat.le_refl _))
theorem xS {pins:List (UE×Obj)} {σ:St} {H:Hp} {s:UK} {R:It->Hp->Prop} {E:UL->UK->Prop} {lo hi:Int} {t u v:Tok} {tk:Nat} (I:Inv X pins σ H s) (h1:-(2 ^ 62)<=lo) (h2:lo < 2 ^ 62) (h3:-(2 ^ 62)<=hi) (h4:hi < 2 ^ 62)
  (q:R (BD lo (hi - lo).toNat) H):UZ (model X.prog X.w) X.A (pyIter (.ref s.heap.objs.size)) (M' X pins σ tg R) E { s with heap:=s.heap.push { cls:=.type "range",data:=.fields #[.int lo t,.int hi u,.int 1 v] },toks:=tk }:=by
 refine wpAny_pyIter_range (IsRange.new ..) (small_one h1 h2 h3 h4) ?_
 have I1:Inv X pins σ H { s with heap:=s.heap.push { cls:=.type "range",data:=.fields #[.int lo t,.int hi u,.int 1 v] },toks:=tk }:=I.kept fun b o e=>Heap.get?_push_of_some _ e
 refine⟨(s.heap.push { cls:=.type "range",data:=.fields #[.int lo t,.int hi u,.int 1 v] }).objs.size,[(s.heap.push { cls:=.type "range",data:=.fields #[.int lo t,.int hi u,.int 1 v] }).objs.size],_,_,H,rfl,
  I1.kept (t':=tk) fun b o e=>Heap.get?_push_of_some _ e,fL _ lo (hi - lo).toNat,?_,fun b hb=>?_,q⟩
 ·have e1:lo+((0:Nat):Int) * 1=lo:=by simp
  have e2:(((hi - lo).toNat:Nat):Int) - ((0:Nat):Int)=Builtin.Range.rangeSize lo hi 1:=by rw[rangeSize_one];split<;>omega
  show IsRangeIter _ _ (lo+((0:Nat):Int) * 1) ((((hi - lo).toNat:Nat):Int) - ((0:Nat):Int)) 1
  rw[e1,e2]
  exact Heap.get?_push_size _ rfl
 ·have e:b=(s.heap.push { cls:=.type "range",data:=.fields #[.int lo t,.int hi u,.int 1 v] }).objs.size:=by simpa using hb
  subst e
  exact I1.pX (Nat.le_refl _) (I1.hok.fresh (Nat.le_refl _))
def DU (ta:TA):TI:=fun σ H R=>ta σ H fun vs H1=>∃j:Int,vs=[.int j]/\-(2 ^ 62)<=j/\j < 2 ^ 62/\R (BD 0 j.toNat) H1
theorem nj {a:Expr} {ta:TA} {p pos:Pos} (hg:Gl X "range") (hm:X.mg "range"=none) (ha:PA X [a] ta) (hs:UY [a] X.env=[(false,eval a X.env)]:=by rfl):PI X tg (.Call (.Name "range" p) [a] [] pos) (DU ta):=by
 intro pins s σ H R I h
 refine Call_ (iz I hg hm boot_range (PyProof.Rows.callWith_type1 (aM (ha pos pins s σ H _ I h) fun us s1 ⟨vs,H1,I1,r1,q1⟩=>?_) hs rfl))
 obtain⟨j,e,q1,q2,q⟩:=q1
 subst e
 cases r1 with
 | cons r rr=>
  cases rr
  obtain⟨t,rfl⟩:=r
  exact call_range_1 (xS I1 (by omega) (by omega) q1 q2 (by simpa using q))
def Nb (wi:TI) (g:TG) (tb:TS):TS:=fun D σ H=>wi σ H fun J H1=>∃W:Nat->Nat->St->Hp->Prop,(∃m,W 0 m σ H1)/\∀i m σ H,W i m σ H->
 (J.stop i H/\D.nx σ H)\/(J.go i H/\∃N:St->Hp->Prop,(∀σ' H',N σ' H'->∃m',m' < m/\W (i+1) m' σ' H')/\∀x H',J.pW i H x H'->g x σ H' fun σ2 H2=>tb { D with nx:=N,ct:=N,bk:=D.nx } σ2 H2)
def dW (fp:List UE) (h:Heap):List (UE×Obj):=fp.filterMap fun b=>(h.get? b).map fun o=>(b,o)
theorem fM {fp:List UE} {h:Heap} {b:UE} {o:Obj} (hb:b∈fp) (e:h.get? b=some o):(b,o)∈dW fp h:=List.mem_filterMap.mpr ⟨b,hb,by rw[e];rfl⟩
theorem vP {fp:List UE} {h:Heap} {p:UE×Obj} (hp:p∈dW fp h):p.1∈fp/\h.get? p.1=some p.2:=by
 obtain⟨b,hb,e⟩:=List.mem_filterMap.mp hp
 cases q:h.get? b with
 | none=>rw[q] at e;cases e
 | some o=>
  rw[q] at e
  have e':(b,o)=p:=Option.some.inj e
  subst e'
  exact⟨hb,q⟩
theorem Inv.pinned {pins:List (UE×Obj)} {σ:St} {H:Hp} {s:UK} {fp:List UE} (I:Inv X pins σ H s) (hf:∀b∈fp,dG X pins H b) (ho:∀b∈fp,∃o,s.heap.get? b=some o/\∀v,o.data≠.cell v):Inv X (pins++dW fp s.heap) σ H s :=
 I.ui fun p hp=>(List.mem_append.mp hp).elim (fun z=>I.pin p (List.mem_append_right _ z)) fun z=>by
  obtain⟨hb,e⟩:=vP z
  obtain⟨f0,f1,f2,_⟩:=hf p.1 hb
  obtain⟨o,e',d⟩:=ho p.1 hb
  rw[e] at e';cases e'
  exact⟨e,f0,f1,f2,d⟩
theorem Inv.iS {pins pl:List (UE×Obj)} {σ:St} {H:Hp} {s:UK} (I:Inv X (pins++pl) σ H s):Inv X pins σ H s:=I.ui fun p hp=>I.pin p (List.mem_append_right _ (List.mem_append_left _ hp))
theorem jw {iter:Expr} {body:List Stmt} {wi:TI} {g:TG} {tb:TS} {pos:Pos} (hp:PassesOwn (model X.prog X.w) X.A X.env X.xe) (hc:X.calm=true) (hi:PI X tg iter wi) (hg:PG X tg g) (hb:xy X body tb)
  (hs:∀x,UT iter X.env x=pure x:=by intro _;rfl):PS X (.For tg iter body [] pos) (Nb wi g tb):=by
 intro pins s σ H D I h
 refine wpAny_For (aM (hi pins s σ H _ I h) fun v s1 h1=>aM h1 fun itv s2 h2=>?_) hs
 obtain⟨it,fp,tn,J,H2,e,I2,T,st2,f2,W,⟨m0,w0⟩,turn⟩:=h2
 subst e
 -- what stays true of the Fh objects through the loop
 have Fi:∀{H':Hp},(∀b∈fp,H' b=none)->∀b∈fp,dG X pins H' b:=fun hn b hb=>⟨hn b hb,(f2 b hb).2⟩
 refine codeAny_forLoop_any (fun n s'=>∃i σ' H',Inv X pins σ' H' s'/\tn i s'.heap/\(∀b∈fp,H' b=none)/\W i n σ' H') ?_ m0 ⟨0,σ,H2,I2,st2,fun b hb=>(f2 b hb).1,w0⟩
 rintro n s3 ⟨i,σ3,H3,I3,st3,P0,w3⟩
 rcases turn i n σ3 H3 w3 with ⟨stop,qn⟩ | ⟨go,N,hN,step⟩
 ·refine wpAny_passesOwn hp (aM (T.done X rfl rfl rfl hc i pins s3 σ3 H3 X.xe I3 (Fi P0) st3 stop) fun r s4 ⟨hr,I4⟩=>?_)
  subst hr
  exact wpAny_execs_nil ⟨σ3,H3,I4,qn⟩
 ·refine wpAny_passesOwn hp (aM (T.item X rfl rfl rfl hc i pins s3 σ3 H3 X.xe I3 (Fi P0) st3 go) fun r s4 ⟨u,hr,h4⟩=>?_)
  subst hr
  refine wpAny_passesOwn hp (aM h4 fun _ s5 ⟨x,H5,I5,r5,y5,xT,LW⟩=>?_)
  have Rb:=I5.pinned (Fi LW) (T.obj _ _ xT)
  refine wpAny_passesOwn hp (aM (hg _ s5 σ3 H5 x u _ Rb r5 (step x H5 y5)) fun _ s6 ⟨σ6,H6,I6,q6⟩=>?_)
  refine wpAny_passesOwn hp (aM (hb _ s6 σ6 H6 _ I6 q6) fun f s7 q7=>?_)
  have again:∀{σ7:St} {H7:Hp},Inv X (pins++dW fp s5.heap) σ7 H7 s7->N σ7 H7->∃m,m < n/\∃i σ' H',Inv X pins σ' H' s7/\tn i s7.heap/\(∀b∈fp,H' b=none)/\W i m σ' H':=fun{σ7 H7} I7 n7=>by
   obtain⟨m',hm,w7⟩:=hN σ7 H7 n7
   refine⟨m',hm,i+1,σ7,H7,I7.iS,T.keep _ _ _ xT fun b hb o e=>(I7.pin (b,o) (List.mem_append_right _ (List.mem_append_right _ (fM hb e)))).1,fun b hb=>?_,w7⟩
   obtain⟨o,e,d⟩:=T.obj _ _ xT b hb
   exact(I7.pin (b,o) (List.mem_append_right _ (List.mem_append_right _ (fM hb e)))).2.1
  cases f with
  | next=>obtain⟨σ7,H7,I7,n7⟩:=q7;exact again I7 n7
  | cont=>obtain⟨σ7,H7,I7,n7⟩:=q7;exact again I7 n7
  | brk=>obtain⟨σ7,H7,I7,q7⟩:=q7;exact⟨σ7,H7,I7.iS,q7⟩
  | ret v=>obtain⟨x7,σ7,H7,I7,r7,q7⟩:=q7;exact⟨x7,σ7,H7,I7.iS,r7,q7⟩
end
end L2
namespace L2
open PySem PySem.Spec PyProof.Rows
abbrev R2:=V->V->Hp->VK->Prop
def cW (X:Cx) (f:UL->UL->Sem UL) (r:R2):Prop :=
 ∀(pins:List (UE×Obj)) (s:UK) (σ:St) (H:Hp) (x y:V) (v u:UL) (Q:VK),Inv X pins σ H s->RelV x v->RelV y u->r x y H Q->
  UZ (model X.prog X.w) X.A (f v u) (EP X pins σ Q) X.xe s
def Nc (X:Cx) (f:UL->Sem UL) (r:V->Hp->VK->Prop):Prop :=
 ∀(pins:List (UE×Obj)) (s:UK) (σ:St) (H:Hp) (x:V) (v:UL) (Q:VK),Inv X pins σ H s->RelV x v->r x H Q->
  UZ (model X.prog X.w) X.A (f v) (EP X pins σ Q) X.xe s
def bL (X:Cx) (f:UL) (r:List V->Hp->VK->Prop):Prop :=
 ∀(pins:List (UE×Obj)) (s:UK) (σ:St) (H:Hp) (xs:List V) (us:List UL) (Q:VK),Inv X pins σ H s->Vals xs us->r xs H Q->
  UZ (model X.prog X.w) X.A (call f us) (EP X pins σ Q) X.xe s
def Nf (X:Cx) (r:V->Hp->(Bool->Hp->Prop)->Prop):Prop :=
 ∀(pins:List (UE×Obj)) (s:UK) (σ:St) (H:Hp) (x:V) (v:UL) (Q:Bool->Hp->Prop),Inv X pins σ H s->RelV x v->r x H Q->
  UZ (model X.prog X.w) X.A (truthy v) (TP X pins σ Q) X.xe s
def Jy (r:R2) (ta tb:TE):TE:=fun σ H Q=>ta σ H fun x H1=>tb σ H1 fun y H2=>r x y H2 Q
def Rc (r:V->Hp->VK->Prop) (ta:TE):TE:=fun σ H Q=>ta σ H fun x H1=>r x H1 Q
def rI (C:Int->Int->Prop) (g:Int->Int->V):R2:=fun x y H Q=>∃i j,x= .int i/\y= .int j/\C i j/\Q (g i j) H
def DV (g:Int->Int->V):R2:=fun x y H Q=>∃i j,x= .int i/\y= .int j/\Q (g i j) H
def rU (g:Int->V):V->Hp->VK->Prop:=fun x H Q=>∃i,x= .int i/\Q (g i) H
section
variable {X:Cx} {a b c:Expr} {ta tb tc:TE} {pos:Pos}
theorem Fj (ha:PE X a ta) (hb:PE X b tb) {pins:List (UE×Obj)} {s:UK} {σ:St} {H:Hp} {R:V->V->Hp->Prop} (I:Inv X pins σ H s)
  (h:ta σ H fun x H1=>tb σ H1 fun y H2=>R x y H2) {Q:UL->UK->Prop} {f:UL->UL->Sem UL}
  (hf:∀v u s2 x y H2,Inv X pins σ H2 s2->RelV x v->RelV y u->R x y H2->UZ (model X.prog X.w) X.A (f v u) Q X.xe s2) :
  UZ (model X.prog X.w) X.A (eval a X.env) (fun v s₁=>UZ (model X.prog X.w) X.A (eval b X.env) (fun u s₂=>UZ (model X.prog X.w) X.A (f v u) Q X.xe s₂) X.xe s₁) X.xe s:=by
 refine aM (ha pins s σ H _ I h) fun v s1 ⟨x,H1,I1,r1,q1⟩=>?_
 refine aM (hb pins s1 σ H1 _ I1 q1) fun u s2 ⟨y,H2,I2,r2,q2⟩=>?_
 exact hf v u s2 x y H2 I2 r1 r2 q2
theorem Jz {op:Operator} {r:R2} (ho:cW X (UO op) r) (ha:PE X a ta) (hb:PE X b tb):PE X (.BinOp a op b pos) (Jy r ta tb):=by
 intro pins s σ H Q I h
 exact wpAny_BinOp (Fj ha hb I h fun v u s2 x y H2 I2 rx ry q=>ho pins s2 σ H2 x y v u Q I2 rx ry q)
theorem JB {op:UnaryOp} {r:V->Hp->VK->Prop} (ho:Nc X (unaryOp op) r) (ha:PE X a ta):PE X (.UnaryOp op a pos) (Rc r ta):=by
 intro pins s σ H Q I h
 exact UnaryOp_ (aM (ha pins s σ H _ I h) fun v s1 ⟨x,H1,I1,r1,q1⟩=>ho pins s1 σ H1 x v Q I1 r1 q1)
theorem LX {f:UL->UL->Sem UL} {C:Int->Int->Prop} {g:Int->Int->Int}
  (rule:∀(i j:Int) (t u:Tok) (s:UK) (Q:UL->UK->Prop) (E:UL->UK->Prop),C i j->Q (.int (g i j) s.toks) { s with toks:=s.toks+1 }->UZ (model X.prog X.w) X.A (f (.int i t) (.int j u)) Q E s) :
  cW X f (rI C fun i j=> .int (g i j)):=by
 intro pins s σ H x y v u Q I rx ry h
 obtain⟨i,j,rfl,rfl,hc,q⟩:=h
 obtain⟨t,rfl⟩:=rx
 obtain⟨t',rfl⟩:=ry
 exact rule i j t t' s _ _ hc ⟨.int (g i j),H,I.tok _,⟨_,rfl⟩,q⟩
theorem JC {f:UL->UL->Sem UL} {g:Int->Int->Int}
  (rule:∀(i j:Int) (t u:Tok) (s:UK) (Q:UL->UK->Prop) (E:UL->UK->Prop),Q (.int (g i j) s.toks) { s with toks:=s.toks+1 }->UZ (model X.prog X.w) X.A (f (.int i t) (.int j u)) Q E s) :
  cW X f (DV fun i j=> .int (g i j)):=by
 intro pins s σ H x y v u Q I rx ry h
 obtain⟨i,j,rfl,rfl,q⟩:=h
 obtain⟨t,rfl⟩:=rx
 obtain⟨t',rfl⟩:=ry
 exact rule i j t t' s _ _ ⟨.int (g i j),H,I.tok _,⟨_,rfl⟩,q⟩
theorem BF {f:UL->UL->Sem UL} {g:Int->Int->Bool}
  (rule:∀(i j:Int) (t u:Tok) (s:UK) (Q:UL->UK->Prop) (E:UL->UK->Prop),Q (.bool (g i j)) s->UZ (model X.prog X.w) X.A (f (.int i t) (.int j u)) Q E s) :
  cW X f (DV fun i j=> .bl (g i j)):=by
 intro pins s σ H x y v u Q I rx ry h
 obtain⟨i,j,rfl,rfl,q⟩:=h
 obtain⟨t,rfl⟩:=rx
 obtain⟨t',rfl⟩:=ry
 exact rule i j t t' s _ _ ⟨.bl (g i j),H,I,rfl,q⟩
def Ng (i j:Int):Prop:=0<=j/\j<=1000000/\i.natAbs < 2 ^ 64
theorem Fl:cW X (UO .Add) (DV fun i j=> .int (i+j)):=JC fun _ _ _ _ _ _ _ q=>add_int q
theorem Fm:cW X (UO .Sub) (DV fun i j=> .int (i - j)):=JC fun _ _ _ _ _ _ _ q=>sub_int q
theorem Fn:cW X (UO .Pow) (rI Ng fun i j=> .int (i ^ j.toNat)):=LX fun _ _ _ _ _ _ _ hc q=>pow_int_small hc.1 hc.2.1 hc.2.2 q
theorem Rf {f:UL->Sem UL} {g:Int->Int}
  (rule:∀(i:Int) (t:Tok) (s:UK) (Q:UL->UK->Prop) (E:UL->UK->Prop),Q (.int (g i) s.toks) { s with toks:=s.toks+1 }->UZ (model X.prog X.w) X.A (f (.int i t)) Q E s) :
  Nc X f (rU fun i=> .int (g i)):=by
 intro pins s σ H x v Q I rx h
 obtain⟨i,rfl,q⟩:=h
 obtain⟨t,rfl⟩:=rx
 exact rule i t s _ _ ⟨.int (g i),H,I.tok _,⟨_,rfl⟩,q⟩
theorem Fo:Nc X (unaryOp .USub) (rU fun i=> .int (-i)):=Rf fun _ _ _ _ _ q=>neg_int q
end
section
variable {X:Cx} {a b c:Expr} {ta tb tc:TE} {pos:Pos}
theorem oC {pins:List (UE×Obj)} {σ:St} {H:Hp} {s:UK} {Q:VK} {k k':Bool} (I:Inv X pins σ H s) (q:Q (.bl k) H) (e:k=k'):EP X pins σ Q (.bool k') s:=by
 subst e
 exact⟨.bl k,H,I,rfl,q⟩
theorem JD:cW X (US .Lt) (DV fun i j=> .bl (decide (i < j))):=BF fun _ _ _ _ _ _ _ q=>lt_int q
theorem JF:cW X (US .LtE) (DV fun i j=> .bl (decide (i<=j))):=BF fun _ _ _ _ _ _ _ q=>le_int q
theorem JG:cW X (US .Gt) (DV fun i j=> .bl (decide (j < i))):=BF fun _ _ _ _ _ _ _ q=>gt_int q
theorem JH:cW X (US .GtE) (DV fun i j=> .bl (decide (j<=i))):=BF fun _ _ _ _ _ _ _ q=>ge_int q
theorem vQ:cW X (US .Lt) (fun x y H Q=>∃i j,x= .str i/\y= .str j/\Q (.bl (decide (i.cps.toList < j.cps.toList))) H):=by
 intro pins s σ H x y v u Q I rx ry h
 obtain⟨i,j,rfl,rfl,q⟩:=h
 obtain⟨t,rfl⟩:=rx
 obtain⟨t',rfl⟩:=ry
 exact lt_str (oC I q rfl)
theorem vR:cW X (US .In) (fun x y H Q=>∃i j,x= .str i/\y= .str j/\Q (.bl (!(Builtin.Str.occurrences j i 0 j.length 1).isEmpty)) H):=by
 intro pins s σ H x y v u Q I rx ry h
 obtain⟨i,j,rfl,rfl,q⟩:=h
 obtain⟨t,rfl⟩:=rx
 obtain⟨t',rfl⟩:=ry
 exact in_str (oC I q rfl)
theorem Fp:cW X (US .Is) (fun x y H Q=>y= .aB/\Q (.bl (decide (x= .aB))) H):=by
 intro pins s σ H x y v u Q I rx ry h
 obtain⟨rfl,q⟩:=h
 cases ry
 refine is_none_gen (oC I q ?_)
 cases x<;>first
  | (cases rx;rfl)
  | (obtain⟨t,rfl⟩:=rx;rfl)
theorem BG:cW X (US .IsNot) (fun x y H Q=>y= .aB/\Q (.bl (!decide (x= .aB))) H):=by
 intro pins s σ H x y v u Q I rx ry h
 obtain⟨rfl,q⟩:=h
 cases ry
 refine isnot_none_gen (oC I q ?_)
 cases x<;>first
  | (cases rx;rfl)
  | (obtain⟨t,rfl⟩:=rx;rfl)
theorem BH {op:CmpOp} {r:R2} (ho:cW X (US op) r) (ha:PE X a ta) (hb:PE X b tb) (hm:UN op b=false):PE X (.Compare a [op] [b] pos) (Jy r ta tb):=by
 intro pins s σ H Q I h
 exact wpAny_Compare1 (Fj ha hb I h fun v u s2 x y H2 I2 rx ry q=>ho pins s2 σ H2 x y v u Q I2 rx ry q) hm
def DW (t:TE):TT:=fun σ H Q=>t σ H fun x H'=>∃k,x= .bl k/\Q k H'
theorem BI {op:CmpOp} {r:R2} (ho:cW X (US op) r) (ha:PE X a ta) (hb:PE X b tb) (hm:UN op b=false):PT X (.Compare a [op] [b] pos) (DW (Jy r ta tb)):=by
 intro pins s σ H Q I h
 refine wpAny_isTrue_Compare1 (aM (ha pins s σ H _ I h) fun v s1 ⟨x,H1,I1,r1,q1⟩=>aM (hb pins s1 σ H1 _ I1 q1) fun u s2 ⟨y,H2,I2,r2,q2⟩=>
  aM (ho pins s2 σ H2 x y v u _ I2 r1 r2 q2) fun c s3 ⟨z,H3,I3,r3,k,e,q3⟩=>?_) hm
 subst e
 cases r3
 exact U7 ⟨H3,I3,q3⟩
def rV (r r':R2) (ta tb tc:TE):TE:=fun σ H Q=>ta σ H fun x H1=>tb σ H1 fun y H2=>r x y H2 fun z H3=>∃k,z= .bl k/\
 (if k=true then tc σ H3 fun w' H4=>r' y w' H4 Q else Q (.bl false) H3)
theorem xU {op op':CmpOp} {r r':R2} (ho:cW X (US op) r) (ho':cW X (US op') r') (ha:PE X a ta) (hb:PE X b tb) (hc:PE X c tc)
  (hm:lastMarks [op,op'] [b,c]=false:=by with_unfolding_all rfl):PE X (.Compare a [op,op'] [b,c] pos) (rV r r' ta tb tc):=by
 intro pins s σ H Q I h
 refine Compare_chain (aM (ha pins s σ H _ I h) fun v s1 ⟨x,H1,I1,r1,q1⟩=>chain_link (aM (hb pins s1 σ H1 _ I1 q1) fun u s2 ⟨y,H2,I2,r2,q2⟩=>
  aM (ho pins s2 σ H2 x y v u _ I2 r1 r2 q2) fun d s3 ⟨z,H3,I3,r3,k,e,q3⟩=>?_)) hm
 subst e
 cases r3
 refine U7 ?_
 cases k with
 | false=>exact ite_ff ⟨.bl false,H3,I3,rfl,q3⟩
 | true=>exact ite_tt (chain_last (aM (hc pins s3 σ H3 _ I3 q3) fun w' s4 ⟨z',H4,I4,r4,q4⟩=>ho' pins s4 σ H4 y z' u w' Q I4 r2 r4 q4))
theorem xV {op op':CmpOp} {r r':R2} (ho:cW X (US op) r) (ho':cW X (US op') r') (ha:PE X a ta) (hb:PE X b tb) (hc:PE X c tc)
  (hm:lastMarks [op,op'] [b,c]=false:=by with_unfolding_all rfl):PT X (.Compare a [op,op'] [b,c] pos) (DW (rV r r' ta tb tc)):=by
 intro pins s σ H Q I h
 refine isTrue_chain (aM (ha pins s σ H _ I h) fun v s1 ⟨x,H1,I1,r1,q1⟩=>test_link (aM (hb pins s1 σ H1 _ I1 q1) fun u s2 ⟨y,H2,I2,r2,q2⟩=>
  aM (ho pins s2 σ H2 x y v u _ I2 r1 r2 q2) fun d s3 ⟨z,H3,I3,r3,k,e,q3⟩=>?_)) hm
 subst e
 cases r3
 refine U7 ?_
 cases k with
 | false=>
  obtain⟨k',e',q'⟩:=q3
  cases e'
  exact ite_ff ⟨H3,I3,q'⟩
 | true=>
  refine ite_tt (test_last (aM (hc pins s3 σ H3 _ I3 q3) fun w' s4 ⟨z',H4,I4,r4,q4⟩=>aM (ho' pins s4 σ H4 y z' u w' _ I4 r2 r4 q4) fun d' s5 ⟨z2,H5,I5,r5,k2,e2,q5⟩=>?_))
  subst e2
  cases r5
  exact U7 ⟨H5,I5,q5⟩
def JJ (K:PySem.W.Frag) (x:V) (H:Hp) (k:Bool):Prop :=
 match x with
 | .aB=>k=false
 | .bl b=>k=b
 | .int i=>k=(i != 0)
 | .str y=>y.length<=UX/\k=((y.length:Int) != 0)
 | .IW y=>y.size<=UX/\k=((y.size:Int) != 0)
 | .ref p=>(∃xs,gq K H p xs/\k= !xs.isEmpty)\/(∃xs,dq K H p xs/\k= !xs.isEmpty)\/∃kvs,H p=some (.dK kvs)/\k= !kvs.isEmpty
 | _=>False
theorem rW {κ:Type} {kvs:List (κ×V)} {vs:List (κ×UL)} (r:KV kvs vs):(!vs.isEmpty)= !kvs.isEmpty:=by
 cases r<;>rfl
theorem kW {xs:List V} {its:List UL} (r:Vals xs its):(!its.toArray.isEmpty)= !xs.isEmpty:=by
 cases r<;>simp
theorem iA:(UX:Nat) < 2 ^ 63:=by rw[sizeLine_eq];decide
theorem Fq:Nf X (fun x H Q=>∃k,JJ X.K x H k/\Q k H):=by
 intro pins s σ H x v Q I rx h
 obtain⟨k,e,q⟩:=h
 have hl:=iA
 have hs:UX=16777216:=sizeLine_eq
 cases x with
 | aB=>
  cases rx
  have e':k=false:=e
  subst e'
  exact truthy_none ⟨H,I,q⟩
 | bl b=>
  cases rx
  have e':k=b:=e
  subst e'
  exact U7 ⟨H,I,q⟩
 | int i=>
  obtain⟨t,rfl⟩:=rx
  have e':k=(i != 0):=e
  subst e'
  exact PySem.P.truthy_int ⟨H,I,q⟩
 | str y=>
  obtain⟨t,rfl⟩:=rx
  obtain⟨hy,e'⟩:y.length<=UX/\k=((y.length:Int) != 0):=e
  subst e'
  exact PySem.P.truthy_str (by omega) ⟨H,I.tok _,q⟩
 | IW y=>
  obtain⟨t,rfl⟩:=rx
  obtain⟨hy,e'⟩:y.size<=UX/\k=((y.size:Int) != 0):=e
  subst e'
  exact PySem.W.truthy_bytes (by omega) ⟨H,I.tok _,q⟩
 | ref p=>
  cases rx
  have e':(∃xs,gq X.K H p xs/\k= !xs.isEmpty)\/(∃xs,dq X.K H p xs/\k= !xs.isEmpty)\/∃kvs,H p=some (.dK kvs)/\k= !kvs.isEmpty:=e
  rcases e' with ⟨xs,hx,e'⟩ | ⟨xs,hx,e'⟩ | ⟨kvs,hx,e'⟩
  ·subst e'
   obtain⟨its,r,pl,hz⟩:=I.list hx
   have hlen:=r.length
   exact wpAny_truthy_list pl.isList (by simp only[List.size_toArray];omega) ⟨H,I.tok _,by rw[kW r];exact q⟩
  ·subst e'
   obtain⟨its,r,pl,hz⟩:=I.tuple hx
   have hlen:=r.length
   exact truthy_tuple pl (by simp only[List.size_toArray];omega) ⟨H,I.tok _,by rw[kW r];exact q⟩
  ·subst e'
   obtain⟨hz,hS,vs,r,m⟩:kvs.length<=UX/\(p == sysModules)=false/\∃vs,KV kvs vs/\s.heap.DictOf (aV X.prog X.w) p vs:=I.hok p _ hx
   have hlen:kvs.length=vs.length:=Paired.length r
   exact wpAny_truthy_dict hS m (by omega) ⟨H,I.tok _,by rw[rW r];exact q⟩
 | _=>exact(show False from e).elim
theorem xW (ha:PE X a ta) (he:∀whole,isTrue a X.env whole=(do let v <-whole;standAt a.pos;holding [v] (truthy v))) :
  PT X a (fun σ H Q=>ta σ H fun x H'=>∃k,JJ X.K x H' k/\Q k H'):=by
 intro pins s σ H Q I h
 exact isTrue_plain (aM (ha pins s σ H _ I h) fun v s1 ⟨x,H1,I1,r1,q1⟩=>Fq pins s1 σ H1 x v Q I1 r1 q1) (he _)
theorem rX:cW X (UO .Add) (fun x y H Q=>∃i j,x= .str i/\y= .str j/\i.length+j.length<=UX/\Q (.str (i++j)) H):=by
 intro pins s σ H x y v u Q I rx ry h
 obtain⟨i,j,rfl,rfl,hz,q⟩:=h
 obtain⟨t,rfl⟩:=rx
 obtain⟨t',rfl⟩:=ry
 exact add_str (fun t' tk=>⟨.str (i++j),H,I.tok _,⟨_,rfl⟩,q⟩) hz
theorem vals1 {x:V} {us:List UL} (r:Vals [x] us):∃u,us=[u]/\RelV x u:=by
 cases r with
 | cons r1 r2=>cases r2;exact⟨_,rfl,r1⟩
theorem vals2 {x y:V} {us:List UL} (r:Vals [x,y] us):∃u w',us=[u,w']/\RelV x u/\RelV y w':=by
 cases r with
 | cons r1 r2=>
  cases r2 with
  | cons r3 r4=>cases r4;exact⟨_,_,rfl,r1,r3⟩
theorem vS (hc:X.calm=true):bL X (.builtin "max") (fun xs H Q=>∃i j,xs=[.int i,.int j]/\Q (.int (if j > i then j else i)) H):=by
 intro pins s σ H xs us Q I r h
 obtain⟨i,j,rfl,q⟩:=h
 obtain⟨u,w',rfl,⟨t,rfl⟩,⟨t',rfl⟩⟩:=vals2 r
 refine max_two_ints (I.ok.hd hc) fun h' tk k=>⟨_,H,I.kept k,?_,q⟩
 by_cases hj:j > i
 ·rw[if_pos hj,if_pos hj];exact⟨_,rfl⟩
 ·rw[if_neg hj,if_neg hj];exact⟨_,rfl⟩
theorem vT (hc:X.calm=true):bL X (.builtin "min") (fun xs H Q=>∃i j,xs=[.int i,.int j]/\Q (.int (if j < i then j else i)) H):=by
 intro pins s σ H xs us Q I r h
 obtain⟨i,j,rfl,q⟩:=h
 obtain⟨u,w',rfl,⟨t,rfl⟩,⟨t',rfl⟩⟩:=vals2 r
 refine min_two_ints (I.ok.hd hc) fun h' tk k=>⟨_,H,I.kept k,?_,q⟩
 by_cases hj:j < i
 ·rw[if_pos hj,if_pos hj];exact⟨_,rfl⟩
 ·rw[if_neg hj,if_neg hj];exact⟨_,rfl⟩
end
end L2
namespace L2
open PySem PySem.Spec PyProof.Rows
structure Rg (h:Heap) (x dx C:UE) (mA:Str->Option UL):Prop where
 obj:h.get? x=some (PySem.W.instObj C dx)
 ns:h.Ns1 dx mA
 ne:dx≠x
section
variable {prog:UJ} {w:UM} {A:UG} {E:UL->UK->Prop} {s:UK} {K:PySem.W.Frag} {x dx C f:UE} {mA:Str->Option UL} {name:Str} {v:UL}
end
theorem kR.some_of {v:V} {o:Option UL} (r:kR (some v) o):∃u,o=some u/\RelV v u:=by
 cases o with
 | none=>exact(show False from r).elim
 | some u=>exact⟨u,rfl,r⟩
section
variable {P:UJ} {w:UM} {H H':Hp} {h h':Heap} {a C dx:UE} {fs fs':List (Str×V)}
end
structure Rh (K:PySem.W.Frag) (C:UE):Prop where
 pg:PySem.W.plainGet K C Str.empty=true
 hd:PySem.W.hasDictIn K C=true
 po:PySem.W.plainOver K C=true
 sa:PySem.W.findIn K (.ref C) "__setattr__"=some (some (.builtin "object.__setattr__"))
structure T2 (K:PySem.W.Frag) (C:UE) (f:Str) (v:V) (u:UL):Prop where
 at_:PySem.W.findIn K (.ref C) f=some (some u)
 rel:RelV v u
 get:PySem.W.specialIn K u "__get__"=some none
 cp:PySem.W.copiedNames.contains f=false
structure Meth (K:PySem.W.Frag) (C:UE) (m:Str) (f:UE):Prop where
 at_:PySem.W.findIn K (.ref C) m=some (some (.ref f))
 fn:PySem.W.isFn K (.ref f)=true
 kp:PySem.W.keepIn K (.ref f)=true
section
variable {X:Cx} {pins:List (UE×Obj)} {σ:St} {H:Hp} {s:UK} {a C dx:UE} {fs:List (Str×V)} {f:Str} {v:V} {A:UG} {E:UL->UK->Prop}
end
section
variable {X:Cx} {o e value:Expr} {f:Str} {pos pos' tpos:Pos} {ta tv:TE}
end
section
variable {X:Cx} {pins:List (UE×Obj)} {σ:St} {H:Hp} {s:UK} {A:UG} {E:UL->UK->Prop} {Q:UL->UK->Prop} {c:UL} {b:Bool}
inductive kZ (K:PySem.W.Frag) (H:Hp):V->UL->Prop where
 | aB:kZ K H .aB (.type "NoneType")
 | bl (x:Bool):kZ K H (.bl x) (.type "bool")
 | int (i:Int):kZ K H (.int i) (.type "int")
 | str (x:Str):kZ K H (.str x) (.type "str")
 | pQ (x:UInt64):kZ K H (.pQ x) (.type "float")
 | lst {a:UE} {xs:List V} (e:H a=some (.lst xs)):kZ K H (.ref a) (.type "list")
 | bV {a:UE} {o:Obj} {xs:List V} (e:H a=some (.bV o (.lst xs))):kZ K H (.ref a) (.type "list")
 | tup {a:UE} {xs:List V} (e:H a=some (.tup xs)):kZ K H (.ref a) (.type "tuple")
 | dK {a:UE} {kvs:List (Key×V)} (e:H a=some (.dK kvs)):kZ K H (.ref a) (.type "dict")
 | dT {a:UE} {kvs:List (List Key×V)} (e:H a=some (.dT kvs)):kZ K H (.ref a) (.type "dict")
 | ins {a C dx:UE} {fs:List (Str×V)} (e:H a=some (.ins C dx fs)) (cl:Rh K C) (ha:PySem.W.findIn K (.ref C) "__class__"=some (some (.builtin "object.__class__")))
   (hn:PySem.W.specialIn K (.builtin "object.__class__") "__get__"=some (some (.builtin "getset_descriptor.__get__"))) (htk:PySem.W.takesIn K (.builtin "object.__class__")=some true)
   (hm:PySem.W.mroIn K C (.type "object")=some true):kZ K H (.ref a) (.ref C)
end
end L2
namespace L2
open PySem PySem.Spec PyProof.Rows
structure gD (k:Nat) (A:UG):Prop where
 hd:A.handled=none
 dp:A.depth+3 * k+5 < recursionLimit
 un:A.units+16 * k+200 < cLine
theorem gD.mono {j k:Nat} {A:UG} (r:gD k A) (h:j<=k):gD j A:=⟨r.hd,by have:=r.dp;omega,by have:=r.un;omega⟩
theorem gD.deeper {k:Nat} {A:UG} (r:gD (k+1) A) (env:Env):gD k (A.deeper env) :=
 ⟨r.hd,by have:=r.dp;show A.depth+1+3 * k+5 < _;omega,by have:=r.un;show A.units+3+16 * k+200 < _;omega⟩
theorem gD.depth {k:Nat} {A:UG} (r:gD k A):A.depth < recursionLimit:=by have:=r.dp;omega
def JK:TA:=fun _ H Q=>Q [] H
def DX (ta:TE) (tr:TA):TA:=fun σ H Q=>ta σ H fun x H1=>tr σ H1 fun xs H2=>Q (x::xs) H2
section
variable {X:Cx} {e:Expr} {es:List Expr} {te:TE} {t:TA} {pos:Pos}
theorem Fs:PA X [] JK:=fun _ _ _ _ H Q I h=>Calls.spliced_nil ⟨[],H,I,.nil,h⟩
theorem BJ (ha:PE X e te) (hr:PA X es t) (hs:UY (e::es) X.env=(false,eval e X.env)::UY es X.env:=by rfl):PA X (e::es) (DX te t):=by
 intro pos pins s σ H Q I h
 rw[hs]
 show UZ _ _ (spliced ((false,eval e X.env)::backTo pos (UY es X.env))) _ _ s
 refine Calls.spliced_cons (aM (ha pins s σ H _ I h) fun u s1 ⟨x,H1,I1,r1,q1⟩=>?_)
 exact aM (hr pos pins s1 σ H1 _ I1 q1) fun us s2 ⟨xs,H2,I2,r2,q2⟩=>⟨x::xs,H2,I2,.cons r1 r2,q2⟩
def Nh (t:TA):TE:=fun σ H Q=>t σ H fun xs H1=>xs.length<=UX/\∀p,H1 p=none->Q (.ref p) (upd H1 p (.tup xs))
def Ni (t:TA):TE:=fun σ H Q=>t σ H fun xs H1=>xs.length<=UX/\∀p,H1 p=none->Q (.ref p) (upd H1 p (.lst xs))
theorem Ft {x1} (h:PA X es t):PE X (.Tuple es x1 pos) (Nh t):=by
 intro pins s σ H Q I hq
 refine wpAny_Tuple_spliced (aM (h pos pins s σ H _ I hq) fun us s1 ⟨xs,H1,I1,r,z,q⟩=>⟨by rw[<-r.length];exact z,?_⟩)
 have hf:H1 s1.heap.objs.size=none:=I1.hok.fresh (Nat.le_refl _)
 refine⟨.ref s1.heap.objs.size,upd H1 s1.heap.objs.size (.tup xs),I1.laid (t':=s1.toks) (fun b u e=>Heap.get?_push_of_some _ e) (Nat.le_refl _) ?_,rfl,q _ hf⟩
 exact⟨z,us,r,⟨_,Heap.get?_push_size _ rfl,rfl,_,rfl⟩,vJ.new _ _⟩
theorem Fv (h:PA X es t):PE X (.List es pos) (Ni t):=by
 intro pins s σ H Q I hq
 refine wpAny_List_spliced (aM (h pos pins s σ H _ I hq) fun us s1 ⟨xs,H1,I1,r,z,q⟩=>⟨by rw[<-r.length];exact z,?_⟩)
 have hf:H1 s1.heap.objs.size=none:=I1.hok.fresh (Nat.le_refl _)
 refine⟨.ref s1.heap.objs.size,upd H1 s1.heap.objs.size (.lst xs),I1.laid (t':=s1.toks) (fun b u e=>Heap.get?_push_of_some _ e) (Nat.le_refl _) ?_,rfl,q _ hf⟩
 exact⟨z,us,0,r,Heap.get?_push_size _ rfl⟩
end
abbrev Sp:=List V->Hp->VK->XK->Prop
abbrev xA:=List Env->Hp->UK->XK->UL->UK->Prop
structure rY (P:UJ) (w:UM) (K:PySem.W.Frag) (mg:Str->Option UL) (base:Heap) (A:UG) (outer:List Env) (s:UK) (H:Hp):Prop where
 frames:A.frames=some outer
 mod:Mod K mg base
 bs:∀b o,base.get? b=some o->s.heap.get? b=some o/\H b=none
 Bp:base.objs.size<=s.heap.objs.size
 iy:s.heap.FunFrames base outer
 Bt:∀b∈frs outer,H b=none
 hok:f' P w H s.heap
 bare:AllBare s.gens
def CE (outer:List Env) (P:UJ) (w:UM) (H:Hp) (s:UK) (Q:VK) (u:UL) (s':UK):Prop :=
 ∃v H',s'.os=s.os/\AllBare s'.gens/\Un (frs outer) [] H H' s.heap s'.heap/\f' P w H' s'.heap/\RelV v u/\Q v H'
def CR (CX:xA) (outer:List Env) (P:UJ) (w:UM) (H:Hp) (s:UK) (Q:VK) (E:XK) (r:Result) (s':UK):Prop :=
 match r with
 | .ok (.ret u)=>CE outer P w H s Q u s'
 | .ok _=>False
 | .error e=>CX outer H s E e s'
structure FnOk (P:UJ) (w:UM) (K:PySem.W.Frag) (mg:Str->Option UL) (base:Heap) (CX:xA) (k:Nat) (f:UE) (fd:UH) (ps:List Str) (sp:Sp):Prop where
 len:∀vs H Q E,sp vs H Q E->vs.length=ps.length
 run:∀(A:UG) (outer:List Env) (s:UK) (H:Hp) (args:Args) (us:List UL) (vs:List V) (Q:VK) (E:XK),gD k A->rY P w K mg base A outer s H->BindsTo s fd args (ps.zip us)->Vals vs us->sp vs H Q E->
  UQ (model P w) A (.call (.ref f) args) (CR CX outer P w H s Q E) s
theorem FnOk.mono {P:UJ} {w:UM} {K:PySem.W.Frag} {mg:Str->Option UL} {base:Heap} {CX:xA} {j k:Nat} {f:UE} {fd:UH} {ps:List Str} {sp:Sp} (F:FnOk P w K mg base CX j f fd ps sp) (h:j<=k) :
  FnOk P w K mg base CX k f fd ps sp:=⟨F.len,fun A outer s H args us vs Q E hr=>F.run A outer s H args us vs Q E (hr.mono h)⟩
section
variable {X:Cx} {pins:List (UE×Obj)} {σ:St} {H:Hp} {s s':UK}
theorem Inv.JM (I:Inv X pins σ H s):rY X.prog X.w X.K X.mg X.base X.A X.stack s H :=
 ⟨I.ok.frames,I.ok.mod,I.bs,Nat.le_trans I.ok.Bp I.sz,I.stack,I.iO,I.hok,I.bare⟩
theorem Inv.after {Q:VK} {u:UL} (I:Inv X pins σ H s) (h:CE X.stack X.prog X.w H s Q u s'):EP X pins σ Q u s':=by
 obtain⟨v,H',os,bare,un,hok,r,q⟩:=h
 obtain⟨hh,g,d,t,os'⟩:=s'
 obtain rfl:os'=s.os:=os
 exact⟨v,H',I.call (h':=hh) (g':=g) (d':=d) (t':=t) (ch:=[]) un hok bare (fun b z=>absurd z (by simp)),r,q⟩
end
def Binds (K:PySem.W.Frag) (fd:UH) (ps:List Str) (ds:List UL):Prop :=
 ∀(s:UK) (us:List UL),K.In s.heap->(us++ds).length=ps.length->BindsTo s fd ⟨us,[]⟩ (ps.zip (us++ds))
theorem Binds.all {K:PySem.W.Frag} {fd:UH} {ps:List Str} (h:∀us:List UL,us.length=ps.length->bindArgs fd ⟨us,[]⟩=pure (ps.zip us)):Binds K fd ps []:=fun s us _ hl=>by
 rw[List.append_nil] at hl ⊢
 exact .of_eq (h us hl)
section
variable {X:Cx} {CX:xA} {k:Nat} {f C:UE} {fd:UH} {ps:List Str} {sp:Sp} {T3:List V} {ds:List UL} {E:XK} {x m:Str} {p pos apos:Pos} {e o:Expr} {es:List Expr} {ta:TE} {t:TA}
structure Mk (K:PySem.W.Frag) (C f:UE):Prop where
 makes:PySem.W.makesIn K C=true
 init:PySem.W.findIn K (.ref C) "__init__"=some (some (.ref f))
 fn:PySem.W.isFn K (.ref f)=true
 kp:PySem.W.keepIn K (.ref C)=true
end
def PK (X:Cx) (kws:List Keyword) (t:TA):Prop :=
 ∀(pos:Pos) (pins:List (UE×Obj)) (s:UK) (σ:St) (H:Hp) (Q:List V->Hp->Prop),Inv X pins σ H s->t σ H Q->UZ (model X.prog X.w) X.A (evalAll ((backToKw pos (keywordEach kws X.env)).map (·.2))) (AP X pins σ Q) X.xe s
section
variable {X:Cx} {CX:xA} {k:Nat} {f C:UE} {fd:UH} {ps ks:List Str} {sp:Sp} {E:XK} {x m:Str} {p pos apos kpos:Pos} {e o:Expr} {es:List Expr} {kws:List Keyword} {te ta:TE} {t tk:TA} {nm:Option Str}
theorem Fw:PK X [] JK:=fun _ _ _ _ H Q I h=>wpAny_evalAll_nil ⟨[],H,I,.nil,h⟩
theorem BK (ha:PE X e te) (hr:PK X kws t):PK X (⟨nm,e,kpos⟩::kws) (DX te t):=by
 intro pos pins s σ H Q I h
 show UZ _ _ (evalAll ((do let v <-eval e X.env;standAt pos;pure v)::(backToKw pos (keywordEach kws X.env)).map (·.2))) _ _ s
 refine wpAny_evalAll_cons (U0 (aM (ha pins s σ H _ I h) fun u s1 ⟨x,H1,I1,r1,q1⟩=>U0 (wpAny_standAt (U6 ?_))))
 exact aM (hr pos pins s1 σ H1 _ I1 q1) fun us s2 ⟨xs,H2,I2,r2,q2⟩=>⟨x::xs,H2,I2,.cons r1 r2,q2⟩
structure Nj (K:PySem.W.Frag) (fd:UH) (ps ks:List Str) (g:List UL->List UL->List UL) (gV:List V->List V->List V):Prop where
 to:∀(s:UK) (us ws:List UL),K.In s.heap->(g us ws).length=ps.length->BindsTo s fd ⟨us,ks.zip ws⟩ (ps.zip (g us ws))
 rel:∀{vs:List V} {us:List UL} {zs:List V} {ws:List UL},Vals vs us->Vals zs ws->Vals (gV vs zs) (g us ws)
variable {g:List UL->List UL->List UL} {gV:List V->List V->List V}
end
structure FnScope (N P:List Str) (sc:Scope):Prop where
 kind:sc.kind= .function
 co:sc.isCoroutine=false
 gen:sc.isGenerator=false
 nd:N.Nodup
 pre:N.take P.length=P
 par:∀x∈P,sc.names.lookup x=some .local\/sc.names.lookup x=some .cell
 Fx:∀y∈sc.names,y.2≠.free
theorem nk {kindOf:Str->Option UI} {x:Str}:∀{binds:List (Str×UL)} {m:Str->Option UL},(∀v,(x,v)∉binds)->bindL kindOf binds m x=m x
 | [],_,_=>rfl
 | (n,v)::r,m,h=>by
  unfold bindL
  rw[nk fun w hw=>h w (List.mem_cons_of_mem _ hw)]
  split
  ·have:x≠n:=by rintro rfl;exact h v List.mem_cons_self
   simp[this]
  ·rfl
theorem nq {kindOf:Str->Option UI} {x:Str}:∀{binds:List (Str×UL)} {m:Str->Option UL},(∀v,(x,v)∉binds)->bindC kindOf binds m x=m x
 | [],_,_=>rfl
 | (n,v)::r,m,h=>by
  unfold bindC
  rw[nq fun w hw=>h w (List.mem_cons_of_mem _ hw)]
  split
  ·rfl
  ·have:x≠n:=by rintro rfl;exact h v List.mem_cons_self
   simp[this]
theorem nr {kindOf:Str->Option UI} {x:Str} {v:UL}:∀{P:List Str} {vs:List UL} {i:Nat} {m:Str->Option UL},P.Nodup->P[i]? =some x->vs[i]? =some v->kindOf x=some .local->
  bindL kindOf (P.zip vs) m x=some v
 | [],_,_,_,_,h,_,_=>by simp at h
 | _::_,[],_,_,_,_,h,_=>by simp at h
 | p::P,w::vs,0,m,nd,h1,h2,hk=>by
  simp at h1 h2;subst h1;subst h2
  show bindL kindOf ((p,w)::P.zip vs) m p=_
  unfold bindL
  rw[nk fun v hv=>(List.nodup_cons.mp nd).1 (List.of_mem_zip hv).1,if_pos hk]
  simp
 | p::P,w::vs,i+1,m,nd,h1,h2,hk=>by
  show bindL kindOf ((p,w)::P.zip vs) m x=_
  unfold bindL
  exact nr (i:=i) (List.nodup_cons.mp nd).2 (by simpa using h1) (by simpa using h2) hk
theorem nu {kindOf:Str->Option UI} {x:Str} {v:UL}:∀{P:List Str} {vs:List UL} {i:Nat} {m:Str->Option UL},P.Nodup->P[i]? =some x->vs[i]? =some v->kindOf x≠some .local->
  bindC kindOf (P.zip vs) m x=some v
 | [],_,_,_,_,h,_,_=>by simp at h
 | _::_,[],_,_,_,_,h,_=>by simp at h
 | p::P,w::vs,0,m,nd,h1,h2,hk=>by
  simp at h1 h2;subst h1;subst h2
  show bindC kindOf ((p,w)::P.zip vs) m p=_
  unfold bindC
  rw[nq fun v hv=>(List.nodup_cons.mp nd).1 (List.of_mem_zip hv).1,if_neg hk]
  simp
 | p::P,w::vs,i+1,m,nd,h1,h2,hk=>by
  show bindC kindOf ((p,w)::P.zip vs) m x=_
  unfold bindC
  exact nu (i:=i) (List.nodup_cons.mp nd).2 (by simpa using h1) (by simpa using h2) hk
def start (N:List Str) (vs:List V):St:=vs.map some++List.replicate (N.length - vs.length) none
def k8 (CX:xA) (P:UJ) (w:UM) (K:PySem.W.Frag) (mg:Str->Option UL) (base:Heap) (N:List Str) (qual:Str) (scope:Scope) (f:UE) (cd:UL) (A:UG) (outer:List Env) (s:UK) (H:Hp) (E:XK):Cx where
 prog:=P
 w:=w
 K:=K
 mg:=mg
 base:=base
 A:=A.deeper (envOfC qual scope s.heap.objs.size f cd)
 N:=N
 s₀:=s
 H₀:=H
 env:=envOfC qual scope s.heap.objs.size f cd
 outer:=outer
 stack:=envOfC qual scope s.heap.objs.size f cd::outer
 ex:=[]
 calm:=true
 fn:=fun _=>true
 pn:=[]
 xe:=fun e s'=>UZ (model P w) (A.deeper (envOfC qual scope s.heap.objs.size f cd)) (leaving (envOfC qual scope s.heap.objs.size f cd) e) (fun _ s''=>CX outer H s E e s'') (fun e' s''=>CX outer H s E e' s'') s'
theorem pY {sc:Scope} {n:Nat} {x:Str} (h:sc.names.lookup x=some .cell):∃c,(cellsFrom n sc.names []).lookup x=some c:=by
 have q:=PySem.W.cellsFrom_some sc.names n [] (.inl h)
 exact Option.isSome_iff_exists.mp q
theorem nB {CX:xA} {P:UJ} {w:UM} {K:PySem.W.Frag} {mg:Str->Option UL} {base:Heap} {N ps:List Str} {qual:Str} {scope:Scope} {f:UE} {cd:UL} {A:UG} {outer:List Env} {s s1:UK} {H:Hp} {E:XK} {us:List UL} {vs:List V}
  (S:FnScope N ps scope) (hd:A.handled=none) (e0:rY P w K mg base A outer s H) (hl:vs.length=ps.length) (r:Vals vs us)
  (x:InCallC s s.heap.objs.size (bindL (envOfC qual scope s.heap.objs.size f cd).kindOf (ps.zip us) fun _=>none) (cellsFrom (s.heap.objs.size+1) scope.names []) (bindC (envOfC qual scope s.heap.objs.size f cd).kindOf (ps.zip us) fun _=>none) s1) :
  Inv (k8 CX P w K mg base N qual scope f cd A outer s H E) [] (start N vs) H s1:=by
 have hpl:ps.length<=N.length:=by have:=congrArg List.length S.pre;rw[List.length_take] at this;omega
 obtain⟨h1,tk,rfl,hk⟩:=x.done
 have JN:∀b:UE,b∉(k8 CX P w K mg base N qual scope f cd A outer s H E).ex:=fun b z=>absurd (show b∈([]:List UE) from z) (by simp)
 refine⟨⟨e0.mod,S.kind,rfl,rfl,Nat.le_refl _,fun y z c h1 h2=>?_,fun y hy=>?_,fun y c _ h=>?_,fun _=>hd,Around.frames_deeper e0.frames,.inr ⟨rfl,rfl⟩,fun b z=>absurd z (JN b),e0.bs,e0.Bp,fun b _ _=>JN b,fun b z=>absurd z (JN b),e0.iy,e0.Bt⟩,
  rfl,e0.bare,Un.kept hk,⟨_,x.toInCall.ns,fun i y v h1 h2 h3=>?_⟩,fun y c h=>⟨_,x.cell y c h⟩,e0.hok.fresh (Nat.le_refl _),fun y c h=>?_,fun p hp=>absurd (show p∈([]:List (UE×Obj)) from hp) (by simp),e0.hok.kept hk,?_⟩
 ·exact name_of_addr x.apart (PySem.mem_of_lookup h1) (PySem.mem_of_lookup h2)
 ·have hy:scope.names.lookup y=some .cell\/scope.names.lookup y=some .free:=hy
  rcases hy with hy | hy
  ·exact pY hy
  ·exact absurd rfl (S.Fx _ (PySem.mem_of_lookup hy))
 ·exact Nat.le_of_lt (x.above y c (PySem.mem_of_lookup h))
 ·have hi:i < vs.length:=by
   unfold start at h2
   by_cases hi:i < vs.length
   ·exact hi
   ·rw[List.getElem?_append_right (by simpa using hi)] at h2
    rw[List.getElem?_replicate] at h2
    split at h2<;>cases h2
  have ha:vs[i]? =some v:=by
   unfold start at h2
   rw[List.getElem?_append_left (by simpa using hi),List.getElem?_map] at h2
   cases e:vs[i]? with
   | none=>rw[e] at h2;cases h2
   | some a=>rw[e] at h2;cases h2;rfl
  obtain⟨u,hu,rv⟩:=r.get ha
  have hp:ps[i]? =some y:=by
   rw[<-S.pre,List.getElem?_take_of_lt (by omega)];exact h1
  have P1:ps.Nodup:=by rw[<-S.pre];exact S.nd.sublist (List.take_sublist _ _)
  refine⟨u,rv,?_⟩
  rcases S.par y (List.mem_of_getElem? hp) with k | k
  ·exact .inl ⟨k,nr P1 hp hu k⟩
  ·obtain⟨c,e⟩:=pY (n:=s.heap.objs.size+1) k
   refine .inr ⟨.inl k,c,e,?_⟩
   have q:=x.cell y c e
   rw[nu P1 hp hu (by show scope.names.lookup y≠_;rw[k];decide)] at q
   exact q
 ·exact e0.hok.fresh (Nat.le_of_lt (x.above y c (PySem.mem_of_lookup h)))
 ·unfold start
  show _=N.length
  rw[List.length_append,List.length_map,List.length_replicate]
  omega
theorem JP {CX:xA} {P:UJ} {w:UM} {K:PySem.W.Frag} {mg:Str->Option UL} {base:Heap} {k:Nat} {f:UE} {name qual:Str} {params:Arguments} {body:List Stmt} {scope:Scope} {dV kV doc pm cdv ct oc:UL} {an od:Option UE}
  {osl:Array (Option UL)} {N ps:List Str} {sp:Sp} (lk:K.lookup f=some ⟨oc,od,.func (PySem.W.fnOf name qual params body scope dV kV doc pm an cdv ct),osl⟩) (hcd:PySem.W.codeIn K cdv qual=true) (S:FnScope N ps scope)
  (len:∀vs H Q E,sp vs H Q E->vs.length=ps.length)
  (hbody:∀(A:UG) (outer:List Env) (s:UK) (H:Hp) (vs:List V) (Q:VK) (E:XK),gD k (A.deeper (envOfC qual scope s.heap.objs.size f cdv))->sp vs H Q E->
   ∃t,xy (k8 CX P w K mg base N qual scope f cdv A outer s H E) body t/\t { nx:=fun _ H'=>Q .aB H',rt:=Q } (start N vs) H) :
  FnOk P w K mg base CX (k+1) f (PySem.W.fnOf name qual params body scope dV kV doc pm an cdv ct) ps sp:=by
 refine⟨len,fun A outer s H args us vs Q E hr e0 hb r BL=>?_⟩
 have hl:=len _ _ _ _ BL
 have KX:K.In s.heap:=e0.mod.E1.keeps fun b o e=>(e0.bs b o e).1
 have lim:s.heap.NoLimit:=e0.mod.nolimit.keeps fun b o e=>(e0.bs b o e).1
 have hkind:∀y∈ps.zip us,scope.names.lookup y.1=some .local\/(scope.names.lookup y.1=some .cell/\((cellsFrom (s.heap.objs.size+1) scope.names []).lookup y.1).isSome=true):=fun⟨n,v⟩ hy=>by
  rcases S.par n (List.of_mem_zip hy).1 with q | q
  ·exact .inl q
  ·exact .inr ⟨q,PySem.W.cellsFrom_some _ _ _ (.inl q)⟩
 refine codeAny_call_function hr.depth (KX _ _ lk) rfl S.co S.gen rfl (PySem.W.codeRec_of KX hcd) (hb _ _ _ _ ?_)
 refine wpAny_newFunctionEnv_cells S.kind hkind fun env he s1 x=>?_
 subst he
 refine⟨lim.keeps x.toInCall.keep,codeAny_func ?_⟩
 obtain⟨t,ht,hq⟩:=hbody A outer s H vs Q E (hr.deeper _) BL
 have I:Inv (k8 CX P w K mg base N qual scope f cdv A outer s H E) [] (start N vs) H s1:=nB S hr.hd e0 hl r x
 refine U3 (ht [] s1 (start N vs) H _ I hq) (fun fl s' hs=>?_) fun e s' hs=>hs
 have fin:∀{σ':St} {H':Hp} {v:V} {u:UL},Inv (k8 CX P w K mg base N qual scope f cdv A outer s H E) [] σ' H' s'->RelV v u->Q v H'->CE outer P w H s Q u s' :=
  fun{σ' H' v u} J rv q=>⟨v,H',J.os,J.bare,J.base,J.hok,rv,q⟩
 cases fl with
 | ret u=>
  obtain⟨v,σ',H',J,rv,q⟩:=hs
  exact fin J rv q
 | next=>
  obtain⟨σ',H',J,q⟩:=hs
  exact fin (v:=V.aB) (u:=Value.none) J rfl q
 | brk=>
  obtain⟨_,_,_,q⟩:=hs
  exact False.elim q
 | cont=>
  obtain⟨_,_,_,q⟩:=hs
  exact False.elim q
end L2
namespace L2
open PySem PySem.Spec PyProof.Rows
section
variable {X:Cx} {x:Str} {p pos:Pos} {e:Expr} {es:List Expr} {t:TA} {id T:String} {r:List V->Hp->VK->Prop}
def P2 (r:List V->Hp->VK->Prop) (t:TA):TE:=fun σ H Q=>t σ H fun vs H1=>r vs H1 Q
theorem xX (hc:bL X (.builtin id) r) (hg:Gl X x) (hm:X.mg x=none) (hv:UP x=some (.builtin id)) (ha:PA X (e::es) t) (hn:x≠"__name__":=by decide) (hdb:(x == ("__debug__":Str))=false:=by decide)
  (he:UY (e::es) X.env=(false,eval e X.env)::UY es X.env:=by rfl) (hpl:(backTo pos (UY es X.env)).any (·.1)=false:=by rfl):PE X (.Call (.Name x p) (e::es) [] pos) (P2 r t):=by
 intro pins s σ H Q I h
 refine wpAny_Call_Name_kw (iz I hg hm hv ?_ hn hdb)
 exact PyProof.Rows.callWith_builtin1 (aM (ha pos pins s σ H _ I h) fun us s1 ⟨vs,H1,I1,r1,q1⟩=>hc pins s1 σ H1 vs us Q I1 r1 q1) he hpl
theorem vU (hc:bL X (.type T) r) (hg:Gl X x) (hm:X.mg x=none) (hv:UP x=some (.type T)) (ha:PA X (e::es) t) (hn:x≠"__name__":=by decide) (hdb:(x == ("__debug__":Str))=false:=by decide)
  (he:UY (e::es) X.env=(false,eval e X.env)::UY es X.env:=by rfl) (hpl:(backTo pos (UY es X.env)).any (·.1)=false:=by rfl):PE X (.Call (.Name x p) (e::es) [] pos) (P2 r t):=by
 intro pins s σ H Q I h
 refine wpAny_Call_Name_kw (iz I hg hm hv ?_ hn hdb)
 exact PyProof.Rows.callWith_type1 (aM (ha pos pins s σ H _ I h) fun us s1 ⟨vs,H1,I1,r1,q1⟩=>hc pins s1 σ H1 vs us Q I1 r1 q1) he hpl
end
end L2
namespace HT
open PySem PyProof.Rows
def lexLt:List Int->List Int->Bool
 | [],[]=>false
 | [],_::_=>true
 | _::_,[]=>false
 | x::xs,y::ys=>if x=y then lexLt xs ys else decide (x < y)
theorem rZ (x y:Int) (xs ys:List Int):lexLt (x::xs) (y::ys)=if x=y then lexLt xs ys else decide (x < y):=rfl
theorem mH:lexLt [] []=false:=rfl
theorem k_ (y:Int) (ys:List Int):lexLt [] (y::ys)=true:=rfl
theorem lg (x:Int) (xs:List Int):lexLt (x::xs) []=false:=rfl
theorem xY (A:UG) (s:UK) (a:Int) (t:Tok) (c:Int) (u:Tok):∃e,SeqAt.EqAt A s (.int a t) (.int c u) e/\(e=true↔a=c) :=
 ⟨(a == c),SeqAt.EqAt.int_int a t c u,by simp⟩
theorem xZ (A:UG) (s:UK) (a:Int) (t:Tok) (c:Int) (u:Tok) (prog:UJ) (w:UM) (E:UL->UK->Prop) (Q:UL->UK->Prop) (h:Q (.bool (decide (a < c))) s) :
  UZ (model prog w) A (richCompare .Lt (.int a t) (.int c u)) Q E s :=
 (PyProof.Rows.lt_int h:UZ (model prog w) A (US .Lt (.int a t) (.int c u)) Q E s)
section
open PySem.SeqAt
open PySem.AutoSeq1 (wpAny_loadPart')
open PySem.MeetsSeq PySem.MeetsSeq2 PySem.MeetsSeq3
theorem mI (l b:UE) (items items2:Array UL) (n n2:Nat) (dd dd2:Option UE) (sl sl2:Array (Option UL)) (ns ms:List Int) (hi:IntsAre items.toList ns) (hj:IntsAre items2.toList ms) :
  Meets (Builtin.«tuple.__lt__» ⟨[.ref l,.ref b],[]⟩)
   (fun _ R s=>s.heap.get? l=some { cls:=.type "tuple",dict:=dd,data:=.seq items n,slots:=sl }/\s.heap.get? b=some { cls:=.type "tuple",dict:=dd2,data:=.seq items2 n2,slots:=sl2 }/\
    R (.ok (.ret (.bool (lexLt ns ms)))) s) :=
 .of_wp fun prog w A R s h=>by
  obtain⟨hp,g,d,tk,os⟩:=s;obtain⟨hl,hb,h⟩:=h
  have f2:=AutoSeq1.sub_tuple_tuple
  have z1:items.size=ns.length:=by rw[<-hi.length];simp
  have z2:items2.size=ms.length:=by rw[<-hj.length];simp
  wp_walk using wpAny_loadPart' hl,wpAny_loadPart' hb,wpAny_forIn_list _ (fun rest b s'=>b.1=none/\s'=⟨hp,g,d,tk,os⟩/\∃(vs ws:List UL) (ns' ms':List Int),rest=vs.zip ws/\
   IntsAre vs ns'/\IntsAre ws ms'/\ns'.length+items2.size=ms'.length+items.size/\R (.ok (.ret (.bool (lexLt ns' ms')))) ⟨hp,g,d,tk,os⟩) _
  case turn=>
   rintro⟨y,x⟩ rest b s' ⟨hb',rfl,vs,ws,ns',ms',hz,Nk,hwi,hlen,hR⟩
   cases Nk with
   | nil=>rw[List.zip_nil_left] at hz;cases hz
   | cons a t Nl=>
    cases hwi with
    | nil=>rw[List.zip_nil_right] at hz;cases hz
    | cons c u Nm=>
     rw[List.zip_cons_cons] at hz
     injection hz with hyx hrest
     injection hyx with hy hx
     subst hy hx
     rw[rZ] at hR
     simp only[List.length_cons] at hlen
     obtain⟨e,he,hiff⟩:=xY A.in1 ⟨hp,g,d,tk,os⟩ a t c u
     refine U0 (he prog w _ _ ?_)
     cases e with
     | true=>
      rw[if_pos (hiff.mp rfl)] at hR
      wp_walk
      exact⟨rfl,rfl,_,_,_,_,hrest,Nl,Nm,by omega,hR⟩
     | false=>
      rw[if_neg (fun q=>absurd (hiff.mpr q) Bool.false_ne_true)] at hR
      have Ri:=xZ A.in1 ⟨hp,g,d,tk,os⟩ a t c u prog w
      wp_walk using Ri
      exact⟨_,rfl,by simpa using hR⟩
  case fin=>
   rintro⟨b1,b2⟩ s' ⟨hb',rfl,vs,ws,ns',ms',hz,Nk,hwi,hlen,hR⟩
   simp only at hb'
   subst hb'
   have hv:lexLt ns' ms'=decide (items.size < items2.size):=by
    cases Nk with
    | nil=>
     cases hwi with
     | nil=>
      simp only[List.length_nil] at hlen
      rw[mH]
      exact(decide_eq_false (by omega)).symm
     | cons c u hw=>
      simp only[List.length_nil,List.length_cons] at hlen
      rw[k_]
      exact(decide_eq_true (by omega)).symm
    | cons a t hv=>
     cases hwi with
     | nil=>
      simp only[List.length_nil,List.length_cons] at hlen
      rw[lg]
      exact(decide_eq_false (by omega)).symm
     | cons c u hw=>
      rw[List.zip_cons_cons] at hz
      cases hz
   rw[hv] at hR
   wp_walk
   exact⟨_,rfl,by simpa [Builtin.Tuple.tupleCompareSizes] using hR⟩
  case h=>
   exact⟨rfl,rfl,items.toList,items2.toList,ns,ms,rfl,hi,hj,by omega,h⟩
end
section
variable {prog:UJ} {w:UM} {A:UG} {E:UL->UK->Prop} {s:UK}
theorem r6 {l b:UE} {items items2:Array UL} {ns ms:List Int} {Q:UL->UK->Prop} (hl:IsTup s.heap l items) (hb:IsTup s.heap b items2) (hi:IntsAre items.toList ns) (hj:IntsAre items2.toList ms)
  (hu:A.units < cLine) (h:Q (.bool (lexLt ns ms)) s):UZ (model prog w) A (US .Lt (.ref l) (.ref b)) Q E s:=by
 obtain⟨⟨cls,dd,data,sl⟩,ho,hc,n,hd⟩:=id hl
 obtain⟨⟨JQ,dd2,data2,sl2⟩,ho2,hc2,n2,hd2⟩:=id hb
 simp only at hc hd hc2 hd2
 subst hc hd hc2 hd2
 exact richCompare_meets_room (op:=.Lt) ⟨_,ho,rfl⟩ ⟨_,ho2,rfl⟩ PySem.F.slot_tuple_lt PySem.F.entry_tuple_lt (PySem.F.args_tuple_lt_2 _ _) (mI l b items items2 n n2 dd dd2 sl sl2 ns ms hi hj)
  ⟨ho,ho2,show Value.bool (lexLt ns ms)≠Value.notImplemented/\Q (.bool (lexLt ns ms)) s from⟨(fun x=>nomatch x),h⟩⟩ hu
theorem BM {t b:UE} {vs ws:List UL} {Q:UL->UK->Prop} (ht:IsTup s.heap t vs.toArray) (hb:IsTup s.heap b ws.toArray) (hv:vs≠[])
  (h1:ws=[]->Q (.ref t) s) (h2:ws≠[]->Q (.ref s.heap.objs.size) { s with heap:=s.heap.push { cls:=.type "tuple",data:=.seq (vs++ws).toArray } })
  (hsz:vs.length+ws.length<=UX):UZ (model prog w) A (UO .Add (.ref t) (.ref b)) Q E s:=by
 obtain⟨⟨cls,dd,data,sl⟩,ho,hc,n,hd⟩:=id ht
 obtain⟨⟨JQ,dd2,data2,sl2⟩,ho2,hc2,n2,hd2⟩:=id hb
 simp only at hc hd hc2 hd2
 subst hc hd hc2 hd2
 have e:vs.toArray++ws.toArray=(vs++ws).toArray:=by simp
 by_cases hw:ws=[]
 ·exact concat_meets ⟨_,ho,rfl⟩ ⟨_,ho2,rfl⟩ noFill_tuple_add seq_tuple_add PySem.F.slot_tuple_add PySem.F.entry_tuple_add (PySem.F.args_tuple_add_2 _ _)
   (tuple_addW1 t b vs.toArray ws.toArray n n2 dd dd2 sl sl2 (by simpa using hv) (by simp[hw])) ⟨ho,ho2,h1 hw⟩
 ·refine concat_meets ⟨_,ho,rfl⟩ ⟨_,ho2,rfl⟩ noFill_tuple_add seq_tuple_add PySem.F.slot_tuple_add PySem.F.entry_tuple_add (PySem.F.args_tuple_add_2 _ _)
   (tuple_addW2 t b vs.toArray ws.toArray n n2 dd dd2 sl sl2 (by simpa using hv) (by simpa using hw) (by rw[List.size_toArray,List.size_toArray];exact hsz)) ⟨ho,ho2,?_⟩
  rw[e]
  exact h2 hw
def bQ (n d:Nat):Option Int->Nat
 | none=>d
 | some v=>if v < 0 then(v+(n:Int)).toNat else min v.toNat n
theorem BN (n d k:Nat):bQ n d (some (k:Int))=min k n:=by
 show(if(k:Int) < 0 then((k:Int)+(n:Int)).toNat else min (k:Int).toNat n)=min k n
 rw[if_neg (by omega),Int.toNat_natCast]
theorem Fy (n d:Nat) (hd:d<=n) (o:Option Int):bQ n d o<=n:=by
 cases o with
 | none=>exact hd
 | some v=>
  show(if v < 0 then(v+(n:Int)).toNat else min v.toNat n)<=n
  by_cases hv:v < 0
  ·rw[if_pos hv];omega
  ·rw[if_neg hv];exact Nat.min_le_right _ _
theorem uj (v:Int) (n d:Nat):(if v < 0 then max (v+(n:Int)) 0 else min v (n:Int))=((bQ n d (some v):Nat):Int):=by
 show(if v < 0 then max (v+(n:Int)) 0 else min v (n:Int))=(((if v < 0 then(v+(n:Int)).toNat else min v.toNat n):Nat):Int)
 by_cases hv:v < 0
 ·simp only[if_pos hv];omega
 ·simp only[if_neg hv];omega
theorem r9 (lo hi:Option Int) (n:Nat):Builtin.Slice.sliceAdjust lo hi 1 (n:Int)=(((bQ n 0 lo:Nat):Int),((bQ n n hi:Nat):Int)):=by
 have h1:¬((1:Int) < 0):=by omega
 unfold Builtin.Slice.sliceAdjust
 simp only[h1,if_false]
 refine Prod.ext ?_ ?_
 ·cases lo with
  | none=>rfl
  | some v=>exact uj v n 0
 ·cases hi with
  | none=>rfl
  | some v=>exact uj v n n
theorem r_ (i j:Nat):Builtin.Slice.slicePlaces (i:Int) (j:Int) 1=j - i:=by
 unfold Builtin.Slice.slicePlaces
 have h1:(1:Int) > 0:=by omega
 simp only[h1,if_true,Int.ediv_one]
 split<;>omega
theorem lh {v:UL} {o:Option Int} {Q:Option Int->UK->Prop} (p:IsPart v o) (h:Q o s):UZ (model prog w) A (Builtin.Slice.slicePartIndex v) Q E s:=by
 cases p with
 | none=>exact slicePart_none h
 | int i t=>exact slicePart_int h
theorem fF {sl:UE} {vl vu:UL} {lo hi:Option Int} {n:Nat} {Q:Int×Int×Nat->UK->Prop} (hs:s.heap.IsSliceOf sl vl vu .none) (pl:IsPart vl lo) (pu:IsPart vu hi)
  (h:Q (((bQ n 0 lo:Nat):Int),1,bQ n n hi - bQ n 0 lo) s):UZ (model prog w) A (Builtin.Slice.sliceApplied (.ref sl) (pure (n:Int))) Q E s:=by
 obtain⟨os,hos,hcs,hds⟩:=id hs
 unfold Builtin.Slice.sliceApplied Builtin.Slice.sliceFields
 refine U0 (U0 (wpAny_field hos hds (x:=vl) rfl (U0 (wpAny_field hos hds (x:=vu) rfl (U0 (wpAny_field hos hds (x:=.none) rfl (U6 ?_)))))))
 refine U0 (slicePart_none ?_)
 show UZ _ _ (if((1:Int) == 0)=true then _ else _) _ _ s
 rw[if_neg (by decide)]
 refine U0 (lh pl (U0 (lh pu (U0 (U6 ?_)))))
 show UZ _ _ (match Builtin.Slice.sliceAdjust lo hi 1 (n:Int) with | (lo,hi)=>pure (lo,(1:Int),Builtin.Slice.slicePlaces lo hi 1)) _ _ s
 rw[r9 lo hi n]
 show UZ _ _ (pure (((bQ n 0 lo:Nat):Int),(1:Int),Builtin.Slice.slicePlaces ((bQ n 0 lo:Nat):Int) ((bQ n n hi:Nat):Int) 1)) _ _ s
 rw[r_]
 exact U6 h
theorem x8 (xs:Array UL) (i k:Nat):((List.range k).filterMap fun(m:Nat)=>xs[((i:Int)+(m:Int) * 1).toNat]?).toArray=((xs.toList.drop i).take k).toArray:=by
 have e:(fun(m:Nat)=>xs[((i:Int)+(m:Int) * 1).toNat]?)=fun m=>xs[i+m]?:=by
  funext m
  have:((i:Int)+(m:Int) * 1).toNat=i+m:=by omega
  rw[this]
 rw[e]
 have:=pick_run xs i k
 rw[List.filterMap_map] at this
 have e2:((fun x=>xs[x]?) ∘ fun x=>i+x)=fun m=>xs[i+m]?:=rfl
 rw[e2] at this
 rw[this]
theorem iT {t sl:UE} {items:Array UL} {vl vu:UL} {lo hi:Option Int} {Q:UL->UK->Prop} (ht:IsTup s.heap t items) (hs:s.heap.IsSliceOf sl vl vu .none) (pl:IsPart vl lo) (pu:IsPart vu hi)
  (hw:¬(bQ items.size 0 lo=0/\bQ items.size items.size hi=items.size))
  (h:Q (.ref s.heap.objs.size) { s with heap:=s.heap.push { cls:=.type "tuple",data:=.seq ((items.toList.drop (bQ items.size 0 lo)).take (bQ items.size items.size hi - bQ items.size 0 lo)).toArray } })
  (hsz:items.size<=UX):UZ (model prog w) A (getItem (.ref t) (.ref sl)) Q E s:=by
 have uk:sizeOk (.seq ((items.toList.drop (bQ items.size 0 lo)).take (bQ items.size items.size hi - bQ items.size 0 lo)).toArray):=by
  show((items.toList.drop (bQ items.size 0 lo)).take (bQ items.size items.size hi - bQ items.size 0 lo)).toArray.size<=UX
  rw[List.size_toArray,List.length_take,List.length_drop,Array.length_toList]
  omega
 have hj:bQ items.size items.size hi<=items.size:=Fy _ _ (Nat.le_refl _) hi
 obtain⟨os,hos,hcs,hds⟩:=id hs
 have Rj:s.TypeIs (.ref sl) "slice":=⟨os,hos,hcs⟩
 unfold getItem
 try with_reducible refine U2 ?_
 first | refine U0 (U6 ?_) | skip
 refine U0 (wpAny_sequenceKey ht.typeIs (by decide) ?_)
 refine U0 (wpAny_callSpecial?_slot (name:=Str.ofString "__getitem__") ht.typeIs PyProof.Rows.slot_tuple_getitem
  (wpAny_call_entry PyProof.Rows.slot_tuple_getitem ht.typeIs entry_tuple_getitem ?_ (args_tuple_getitem _ _)))
 show UZ _ _ (Builtin.Tuple.tupleItemsOf (.ref t) >>= _) _ _ s
 refine U0 (tupleItemsOf_ ht ?_)
 refine U0 (wpAny_typeOf Rj ?_)
 rw[if_pos (by decide)]
 refine U0 (fF hs pl pu ?_)
 have hno:¬((((bQ items.size 0 lo:Nat):Int) == 0&&(1:Int) == 1&&(bQ items.size items.size hi - bQ items.size 0 lo) == items.size)=true):=by
  intro q
  rw[Bool.and_eq_true,Bool.and_eq_true] at q
  have q1:((bQ items.size 0 lo:Nat):Int)=0:=eq_of_beq q.1.1
  have q2:bQ items.size items.size hi - bQ items.size 0 lo=items.size:=eq_of_beq q.2
  exact hw ⟨by omega,by omega⟩
 show UZ _ _ (if(((bQ items.size 0 lo:Nat):Int) == 0&&(1:Int) == 1&&(bQ items.size items.size hi - bQ items.size 0 lo) == items.size)=true then _ else _) _ _ s
 rw[if_neg hno,x8]
 first
  | exact U0 (m:=Builtin.Tuple.tupleExact _) (U5 (U6 ⟨_,rfl,U6 h⟩) uk)
  | exact U0 (m:=Builtin.Tuple.tupleExact _) (U5 (U0 (U6 (U6 ⟨_,rfl,U6 h⟩))) uk)
  | exact U0 (U0 (m:=Builtin.Tuple.tupleExact _) (U5 (U6 (U6 ⟨_,rfl,U6 h⟩)) uk))
  | exact U0 (U0 (m:=Builtin.Tuple.tupleExact _) (U5 (U6 ⟨_,rfl,U6 h⟩) uk))
end
end HT
namespace L2
open PySem PySem.Spec PyProof.Rows
abbrev TO:=St->Hp->(Option Int->Hp->Prop)->Prop
def PO (X:Cx) (e:Option Expr) (t:TO):Prop :=
 ∀(pins:List (UE×Obj)) (s:UK) (σ:St) (H:Hp) (Q:Option Int->Hp->Prop),Inv X pins σ H s->t σ H Q->
  UZ (model X.prog X.w) X.A (evalPart e X.env) (fun u s'=>∃o H',Inv X pins σ H' s'/\IsPart u o/\Q o H') X.xe s
def BO:TO:=fun _ H Q=>Q none H
def JR (t:TE):TO:=fun σ H Q=>t σ H fun x H1=>∃i,x= .int i/\Q (some i) H1
theorem intsAre_of {ns:List Int}:∀{us:List UL},Vals (ns.map V.int) us->IntsAre us ns:=by
 induction ns with
 | nil=>intro us r;rw[List.map_nil] at r;cases r;exact .nil
 | cons n ns ih=>
  intro us r
  rw[List.map_cons] at r
  cases r with
  | cons r1 r2=>
   obtain⟨t,e⟩:=r1
   subst e
   exact .cons n t (ih r2)
section
variable {X:Cx} {e:Expr} {te:TE} {lo hi:Option Expr} {tl th:TO} {pos p2:Pos}
theorem BP:PO X none BO:=by
 intro pins s σ H Q I h
 rw[evalPart_none]
 exact U6 ⟨none,H,I,.none,h⟩
theorem BQ (h:PE X e te):PO X (some e) (JR te):=by
 intro pins s σ H Q I hw
 rw[evalPart_some]
 refine aM (h pins s σ H _ I hw) fun u s1 ⟨x,H1,I1,r1,q1⟩=>?_
 obtain⟨i,rfl,q⟩:=q1
 obtain⟨t,rfl⟩:=r1
 exact⟨some i,H1,I1,.int i t,q⟩
def Bq (X:Cx) (r:V->Option Int->Option Int->Hp->VK->Prop):Prop :=
 ∀(pins:List (UE×Obj)) (s:UK) (σ:St) (H:Hp) (x:V) (v vl vu:UL) (lo hi:Option Int) (sl:UE) (Q:VK),Inv X pins σ H s->RelV x v->s.heap.IsSliceOf sl vl vu .none->IsPart vl lo->IsPart vu hi->r x lo hi H Q->
  ∃T id,typeLookup (.type T) "__getitem__"=pure (some (.builtin id))/\s.TypeIs v T/\UZ (model X.prog X.w) X.A (getItem v (.ref sl)) (EP X pins σ Q) X.xe s
theorem Bq.or {r r':V->Option Int->Option Int->Hp->VK->Prop} (h:Bq X r) (h':Bq X r'):Bq X (fun x lo hi H Q=>r x lo hi H Q\/r' x lo hi H Q):=by
 intro pins s σ H x v vl vu lo hi sl Q I rx hs pl pu q
 rcases q with q | q
 ·exact h pins s σ H x v vl vu lo hi sl Q I rx hs pl pu q
 ·exact h' pins s σ H x v vl vu lo hi sl Q I rx hs pl pu q
def Rk (r:V->Option Int->Option Int->Hp->VK->Prop) (te:TE) (tl th:TO):TE:=fun σ H Q=>te σ H fun x H1=>tl σ H1 fun l H2=>th σ H2 fun u H3=>r x l u H3 Q
theorem lp {r:V->Option Int->Option Int->Hp->VK->Prop} (hr:Bq X r) (he:PE X e te) (hl:PO X lo tl) (hu:PO X hi th):PE X (.Subscript e (.Slice lo hi none p2) pos) (Rk r te tl th):=by
 intro pins s σ H Q I h
 refine Subscript_ (aM (he pins s σ H _ I h) fun v s1 ⟨x,H1,I1,r1,q1⟩=>?_)
 refine wpAny_Slice (aM (hl pins s1 σ H1 _ I1 q1) fun vl s2 ⟨l,H2,I2,pl,q2⟩=>aM (hu pins s2 σ H2 _ I2 q2) fun vu s3 ⟨u,H3,I3,pu,q3⟩=>?_)
 rw[evalPart_none]
 refine U6 ?_
 have I4:Inv X pins σ H3 { s3 with heap:=s3.heap.push { cls:=.type "slice",data:=.fields #[vl,vu,.none] } }:=I3.kept (t':=s3.toks) fun b ob q=>Heap.get?_push_of_some _ q
 obtain⟨T,id,hT,ht,hg⟩:=hr pins { s3 with heap:=s3.heap.push { cls:=.type "slice",data:=.fields #[vl,vu,.none] } } σ H3 x v vl vu l u s3.heap.objs.size Q I4 r1 (Heap.IsSliceOf.new ..) pl pu q3
 show UZ (model X.prog X.w) X.A (subscriptTail e (.Slice lo hi none p2) v (.ref s3.heap.objs.size)) (EP X pins σ Q) X.xe { s3 with heap:=s3.heap.push { cls:=.type "slice",data:=.fields #[vl,vu,.none] } }
 exact tail_any (ops:=[.ref s3.heap.objs.size,v]) ht hT hg (by with_unfolding_all rfl)
def mJ (xs:List V) (lo hi:Option Int):List V:=(xs.drop (HT.bQ xs.length 0 lo)).take (HT.bQ xs.length xs.length hi - HT.bQ xs.length 0 lo)
theorem jR (xs:List V) (lo hi:Option Int):(mJ xs lo hi).length<=xs.length:=by
 unfold mJ
 rw[List.length_take,List.length_drop]
 omega
def Nn (K:PySem.W.Frag):V->Option Int->Option Int->Hp->VK->Prop:=fun x lo hi H Q=>∃a xs,x= .ref a/\dq K H a xs/\
 ¬(HT.bQ xs.length 0 lo=0/\HT.bQ xs.length xs.length hi=xs.length)/\∀p,H p=none->Q (.ref p) (upd H p (.tup (mJ xs lo hi)))
theorem x9:Bq X (Nn X.K):=by
 intro pins s σ H x v vl vu lo hi sl Q I rx hs pl pu h
 obtain⟨a,xs,rfl,hx,hw,q⟩:=h
 cases rx
 obtain⟨its,r,ht,hz⟩:=I.tuple hx
 have hlen:its.toArray.size=xs.length:=by rw[List.size_toArray];exact r.length.symm
 refine⟨"tuple",_,PyProof.Rows.slot_tuple_getitem.lookup,ht.typeIs,?_⟩
 refine HT.iT ht hs pl pu (by rw[hlen];exact hw) ?_ (by rw[hlen];exact hz)
 rw[hlen]
 refine⟨.ref s.heap.objs.size,_,I.laid (t':=s.toks) (o:=.tup (mJ xs lo hi)) (fun b ob q=>Heap.get?_push_of_some _ q) (Nat.le_refl _) ?_,rfl,q _ (I.hok.fresh (Nat.le_refl _))⟩
 exact⟨Nat.le_trans (jR xs lo hi) hz,_,(r.drop (HT.bQ xs.length 0 lo)).take (HT.bQ xs.length xs.length hi - HT.bQ xs.length 0 lo),IsTup.new _ _,vJ.new _ _⟩
def Np (K:PySem.W.Frag):R2:=fun x y H Q=>∃a b ns ms,x= .ref a/\y= .ref b/\dq K H a (ns.map V.int)/\dq K H b (ms.map V.int)/\Q (.bl (HT.lexLt ns ms)) H
theorem Nq (hu:X.A.units < cLine):cW X (US .Lt) (Np X.K):=by
 intro pins s σ H x y v u Q I rx ry h
 obtain⟨a,b,ns,ms,rfl,rfl,ha,hb,q⟩:=h
 cases rx
 cases ry
 obtain⟨its,r1,p1,_⟩:=I.tuple ha
 obtain⟨its2,r2,p2,_⟩:=I.tuple hb
 have i1:IntsAre its.toArray.toList ns:=intsAre_of r1
 have i2:IntsAre its2.toArray.toList ms:=intsAre_of r2
 exact HT.r6 p1 p2 i1 i2 hu ⟨.bl (HT.lexLt ns ms),H,I,rfl,q⟩
def JU (K:PySem.W.Frag):R2:=fun x y H Q=>∃a b xs ys,x= .ref a/\y= .ref b/\dq K H a xs/\dq K H b ys/\xs≠[]/\xs.length+ys.length<=UX/\
 (ys=[]->Q (.ref a) H)/\(ys≠[]->∀p,H p=none->Q (.ref p) (upd H p (.tup (xs++ys))))
theorem Vals.oD {xs:List V} {us:List UL} (r:Vals xs us):us=[]↔xs=[]:=by
 cases r with
 | nil=>simp
 | cons _ _=>simp
theorem BR:cW X (UO .Add) (JU X.K):=by
 intro pins s σ H x y v u Q I rx ry h
 obtain⟨a,b,xs,ys,rfl,rfl,ha,hb,hx,hz,q1,q2⟩:=h
 cases rx
 cases ry
 obtain⟨its,r1,p1,_⟩:=I.tuple ha
 obtain⟨its2,r2,p2,_⟩:=I.tuple hb
 refine HT.BM p1 p2 (fun z=>hx (r1.oD.mp z)) (fun z=>⟨.ref a,H,I,rfl,q1 (r2.oD.mp z)⟩) (fun z=>?_) (by rw[<-r1.length,<-r2.length];exact hz)
 refine⟨.ref s.heap.objs.size,_,I.laid (t':=s.toks) (o:=.tup (xs++ys)) (fun b ob q=>Heap.get?_push_of_some _ q) (Nat.le_refl _) ?_,rfl,q2 (fun w=>z (r2.oD.mpr w)) _ (I.hok.fresh (Nat.le_refl _))⟩
 exact⟨by rw[List.length_append];exact hz,_,r1.append r2,IsTup.new _ _,vJ.new _ _⟩
end
end L2
namespace L2
open PySem PySem.Spec PyProof.Rows
def vV (n:Nat) (i:Int):Option Nat:=if 0<=i then(if i < n then some i.toNat else none) else if -(n:Int)<=i then some (i+n).toNat else none
def jS {α:Type} (xs:List α) (i:Int):Option α:=(vV xs.length i).bind fun j=>xs[j]?
theorem um {n:Nat} {i:Int} {j:Nat} (h:vV n i=some j):seqIndex? i n=some j/\j < n/\-(n:Int)<=i/\i < n:=by
 unfold vV at h
 by_cases h0:0<=i
 ·rw[if_pos h0] at h
  by_cases h1:i < n
  ·rw[if_pos h1] at h
   have e:i.toNat=j:=Option.some.inj h
   exact⟨by rw[seqIndex_of h0 h1,e],by omega,by omega,h1⟩
  ·rw[if_neg h1] at h;cases h
 ·rw[if_neg h0] at h
  by_cases h1:-(n:Int)<=i
  ·rw[if_pos h1] at h
   have e:(i+n).toNat=j:=Option.some.inj h
   exact⟨by rw[seqIndex_neg (by omega) h1,e],by omega,h1,by omega⟩
  ·rw[if_neg h1] at h;cases h
theorem kG {α:Type} {xs:List α} {i:Int} {v:α} (h:jS xs i=some v):∃j,seqIndex? i xs.length=some j/\xs[j]? =some v/\j < xs.length/\-(xs.length:Int)<=i/\i < xs.length:=by
 unfold jS at h
 cases e:vV xs.length i with
 | none=>rw[e] at h;cases h
 | some j=>
  rw[e] at h
  obtain⟨h1,h2,h3,h4⟩:=um e
  exact⟨j,h1,h,h2,h3,h4⟩
theorem iU {α:Type} {xs:List α} {j:Nat} {v:α} (h:xs[j]? =some v):jS xs (j:Int)=some v:=by
 have hj:j < xs.length:=(List.getElem?_eq_some_iff.mp h).1
 have e:vV xs.length (j:Int)=some j:=by
  unfold vV
  rw[if_pos (by omega),if_pos (by omega)];simp
 unfold jS;rw[e];exact h
def uo (b:Expr):Prop:=∀o i,subscripted b false o i=operate [o,i] (getItem o i)
def BS (X:Cx) (r:R2):Prop :=
 ∀(value slice:Expr) (pins:List (UE×Obj)) (s:UK) (σ:St) (H:Hp) (x y:V) (v u:UL) (Q:VK),Inv X pins σ H s->RelV x v->RelV y u->r x y H Q->
  subscripted slice false v u=operate [v,u] (getItem v u)->UZ (model X.prog X.w) X.A (subscriptTail value slice v u) (EP X pins σ Q) X.xe s
def Nr (X:Cx) (id:String) (r:V->List V->Hp->VK->Prop):Prop :=
 ∀(pins:List (UE×Obj)) (s:UK) (σ:St) (H:Hp) (x:V) (xs:List V) (v:UL) (us:List UL) (Q:VK),Inv X pins σ H s->RelV x v->Vals xs us->r x xs H Q->
  UZ (model X.prog X.w) X.A (call (.builtin id) (v::us)) (EP X pins σ Q) X.xe s
section
variable {X:Cx} {a b:Expr} {ta tb:TE} {pos:Pos}
theorem BS.or {r r':R2} (h:BS X r) (h':BS X r'):BS X (fun x y H Q=>r x y H Q\/r' x y H Q):=by
 intro value slice pins s σ H x y v u Q I rx ry q hs
 rcases q with q | q
 ·exact h value slice pins s σ H x y v u Q I rx ry q hs
 ·exact h' value slice pins s σ H x y v u Q I rx ry q hs
theorem JV {r:R2} (hr:BS X r) (ha:PE X a ta) (hb:PE X b tb) (hs:uo b):PE X (.Subscript a b pos) (Jy r ta tb):=by
 intro pins s σ H Q I h
 exact Subscript_ (Fj ha hb I h fun v u s2 x y H2 I2 rx ry q=>hr a b pins s2 σ H2 x y v u Q I2 rx ry q (hs _ _))
def JX (K:PySem.W.Frag):R2:=fun x y H Q=>∃p xs i v,x= .ref p/\y= .int i/\gq K H p xs/\jS xs i=some v/\Q v H
def JY (K:PySem.W.Frag):R2:=fun x y H Q=>∃p xs i v,x= .ref p/\y= .int i/\dq K H p xs/\jS xs i=some v/\Q v H
def JZ:R2:=fun x y H Q=>∃z i c,x= .str z/\y= .int i/\z.length<=UX/\jS z.cps.toList i=some c/\Q (.str ⟨#[c]⟩) H
theorem BU:BS X (JX X.K):=by
 intro value slice pins s σ H x y v u Q I rx ry h hs
 obtain⟨p,xs,i,z,rfl,rfl,hq,he,q⟩:=h
 cases rx
 obtain⟨t,rfl⟩:=ry
 obtain⟨its,r,pl,hz⟩:=I.list hq
 obtain⟨j,h1,h2,h3,h4,h5⟩:=kG he
 obtain⟨w,ew,rw'⟩:=r.get h2
 have hl:=r.length
 have hn:=iA
 have fin:EP X pins σ Q w s:=⟨z,H,I,rw',q⟩
 by_cases h0:0<=i
 ·have hj:i.toNat=j:=by
   rw[seqIndex_of h0 h5] at h1
   exact Option.some.inj h1
  exact item_listR pl.isList h0 (by omega) (by rw[hj];simpa using ew) fin hs
 ·have hj:(i+(its.toArray.size:Int)).toNat=j:=by
   rw[seqIndex_neg (by omega) h4] at h1
   rw[List.size_toArray,<-hl]
   exact Option.some.inj h1
  exact subscriptTail_builtinR (x:=w) pl.isList.typeIs slot_list_getitem.lookup
   (wpAny_getItem_list_neg (Q:=fun r s'=>r=w/\EP X pins σ Q r s') pl.isList (by omega) (by rw[List.size_toArray]<;>omega) (by omega) (by rw[hj];simpa using ew) ⟨rfl,fin⟩) hs
theorem Fz:BS X (JY X.K):=by
 intro value slice pins s σ H x y v u Q I rx ry h hs
 obtain⟨p,xs,i,z,rfl,rfl,hq,he,q⟩:=h
 cases rx
 obtain⟨t,rfl⟩:=ry
 obtain⟨its,r,pl,hz⟩:=I.tuple hq
 obtain⟨j,h1,h2,h3,h4,h5⟩:=kG he
 obtain⟨w,ew,rw'⟩:=r.get h2
 have hl:=r.length
 have hn:=iA
 have fin:EP X pins σ Q w s:=⟨z,H,I,rw',q⟩
 exact subscriptTail_builtinR (x:=w) pl.typeIs slot_tuple_getitem.lookup
  (getItem_tuple (j:=j) (Q:=fun r s'=>r=w/\EP X pins σ Q r s') pl (by omega) (by omega) (by rw[List.size_toArray,<-hl];exact h1) (by simpa using ew) ⟨rfl,fin⟩) hs
theorem FA:BS X JZ:=by
 intro value slice pins s σ H x y v u Q I rx ry h hs
 obtain⟨z,i,c,rfl,rfl,hz,he,q⟩:=h
 obtain⟨t,rfl⟩:=rx
 obtain⟨t',rfl⟩:=ry
 obtain⟨j,h1,h2,h3,h4,h5⟩:=kG he
 have hl:z.cps.toList.length=z.length:=by simp[Str.length]
 rw[hl] at h1 h4 h5
 have hn:=iA
 exact tail_any (typeIs_str s z t) slot_str_getitem.lookup (getItem_str (c:=c) (by
  have e1:decide (i < -(2 ^ 63:Int))=false:=decide_eq_false (by omega)
  have e2:decide (i >= 2 ^ 63)=false:=decide_eq_false (by omega)
  rw[e1,e2,Bool.or_false]) (by rw[h1];simpa using h2) ⟨.str ⟨#[c]⟩,H,I.tok _,⟨_,rfl⟩,q⟩) hs
def P4 (K:PySem.W.Frag):R2:=fun x y H Q=>JX K x y H Q\/JY K x y H Q\/JZ x y H Q
theorem FC:BS X (P4 X.K):=BU.or (Fz.or FA)
theorem sf (its:List UL) (n j:Nat) (u:UL):Obj.mapSeq (·.setIfInBounds j u) { cls:=.type "list",data:=.seq its.toArray n }={ cls:=.type "list",data:=.seq (its.set j u).toArray n }:=by
 simp[Obj.mapSeq]
theorem Inv.lst {pins:List (UE×Obj)} {σ:St} {H:Hp} {s:UK} {p:UE} {xs:List V} (I:Inv X pins σ H s) (h:H p=some (.lst xs)) :
  ∃(its:List UL) (n:Nat),Vals xs its/\s.heap.get? p=some { cls:=.type "list",data:=.seq its.toArray n }/\xs.length<=UX:=by
 obtain⟨z,its,n,r,e⟩:=I.hok p _ h
 exact⟨its,n,r,e,z⟩
theorem Inv.FD {pins:List (UE×Obj)} {σ:St} {H:Hp} {s:UK} {p:UE} {xs ys:List V} {its its':List UL} {n n':Nat} {f:Obj->Obj} (I:Inv X pins σ H s) (h:H p=some (.lst xs))
  (ho:s.heap.get? p=some { cls:=.type "list",data:=.seq its.toArray n }) (hf:f { cls:=.type "list",data:=.seq its.toArray n }={ cls:=.type "list",data:=.seq its'.toArray n' }) (r:Vals ys its') (hz:ys.length<=UX) (t:Nat) :
  Inv X pins σ (upd H p (.lst ys)) { s with heap:=s.heap.update p f,toks:=t }:=by
 have e:(s.heap.update p f).get? p=some { cls:=.type "list",data:=.seq its'.toArray n' }:=by
  rw[Heap.get?_update_self f ho (by rw[hf]<;>rfl),hf]
 refine I.write (x:=p) (e:=p) (by rw[h];trivial) (.inl rfl) (fun b u hb q=>(Heap.get?_update_other _ _ (Ne.symm hb)).trans q) ⟨_,e⟩ ?_
 exact⟨hz,its',n',r,e⟩
def J0:V->V->V->Hp->(Hp->Prop)->Prop:=fun o i v H Q=>∃p xs k j,o= .ref p/\i= .int k/\H p=some (.lst xs)/\vV xs.length k=some j/\Q (upd H p (.lst (xs.set j v)))
theorem set_list:Jv X J0:=by
 intro pins s σ H o i v ov iv u Q I ro ri rv h
 obtain⟨p,xs,k,j,rfl,rfl,hp,hj,q⟩:=h
 cases ro
 obtain⟨t,rfl⟩:=ri
 obtain⟨its,n,r,ho,hz⟩:=I.lst hp
 obtain⟨h1,h2,h3,h4⟩:=um hj
 have hl:=r.length
 have hn:=iA
 have I':Inv X pins σ (upd H p (.lst (xs.set j v))) { s with heap:=s.heap.update p (Obj.mapSeq (·.setIfInBounds j u)) } :=
  I.FD hp ho (sf its n j u) (r.set rv j) (by rw[List.length_set];exact hz) s.toks
 by_cases h0:0<=k
 ·have hk:k.toNat=j:=by
   rw[seqIndex_of h0 h4] at h1
   exact Option.some.inj h1
  exact PySem.W.ki_setAt ho h0 (by omega) (by rw[List.size_toArray,<-hl];exact h4) (by rw[hk];exact⟨_,I',q⟩)
 ·have hk:(k+(its.toArray.size:Int)).toNat=j:=by
   rw[seqIndex_neg (by omega) h3] at h1
   rw[List.size_toArray,<-hl]
   exact Option.some.inj h1
  exact PySem.W.ki_setBack ho (by omega) (by rw[List.size_toArray,<-hl];exact h3) (by omega) (by rw[hk];exact⟨_,I',q⟩)
theorem oE (lo hi:Option Int) (n:Nat):(sliceBounds lo hi none n).1=((HT.bQ n 0 lo:Nat):Int)/\(sliceBounds lo hi none n).2.1=((HT.bQ n n hi:Nat):Int)/\(sliceBounds lo hi none n).2.2=1:=by
 refine⟨?_,?_,rfl⟩
 ·cases lo with
  | none=>simp[sliceBounds,HT.bQ]
  | some i=>
   simp only[sliceBounds,HT.bQ,Option.getD_none,show(1:Int) > 0 by decide,if_true]
   by_cases h:i < 0
   ·simp only[h,if_true]<;>omega
   ·simp only[h,if_false]<;>omega
 ·cases hi with
  | none=>simp[sliceBounds,HT.bQ]
  | some i=>
   simp only[sliceBounds,HT.bQ,Option.getD_none,show(1:Int) > 0 by decide,if_true]
   by_cases h:i < 0
   ·simp only[h,if_true]<;>omega
   ·simp only[h,if_false]<;>omega
theorem mK (its:List UL) (lo hi:Option Int):slicePick its.toArray lo hi none=((its.drop (HT.bQ its.length 0 lo)).take (HT.bQ its.length its.length hi - HT.bQ its.length 0 lo)).toArray:=by
 obtain⟨h1,h2,h3⟩:=oE lo hi its.toArray.size
 unfold slicePick
 rw[h1,h2,h3]
 simp only[sliceRange_one,pick_run,List.size_toArray]<;>rfl
def Nt (K:PySem.W.Frag):V->Option Int->Option Int->Hp->VK->Prop:=fun x lo hi H Q=>∃a xs,x= .ref a/\gq K H a xs/\∀p,H p=none->Q (.ref p) (upd H p (.lst (mJ xs lo hi)))
theorem BV:Bq X (Nt X.K):=by
 intro pins s σ H x v vl vu lo hi sl Q I rx hs pl pu h
 obtain⟨a,xs,rfl,hx,q⟩:=h
 cases rx
 obtain⟨its,r,ht,hz⟩:=I.list hx
 have hlen:=r.length
 refine⟨"list",_,slot_list_getitem.lookup,ht.isList.typeIs,?_⟩
 refine wpAny_getItem_list_slice ht.isList hs pl pu .none (by simp) ?_ (by rw[List.size_toArray]<;>omega)
 rw[mK,<-hlen]
 refine⟨.ref s.heap.objs.size,_,I.laid (t':=s.toks) (o:=.lst (mJ xs lo hi)) (fun b ob q=>Heap.get?_push_of_some _ q) (Nat.le_refl _) ?_,rfl,q _ (I.hok.fresh (Nat.le_refl _))⟩
 exact⟨Nat.le_trans (jR xs lo hi) hz,_,0,(r.drop (HT.bQ xs.length 0 lo)).take (HT.bQ xs.length xs.length hi - HT.bQ xs.length 0 lo),Heap.get?_push_size _ rfl⟩
def ij:V->Bool
 | .aB=>true
 | .bl _=>true
 | .int _=>true
 | .str _=>true
 | _=>false
def BW:V->V->Bool
 | .aB,.aB=>true
 | .bl a,.bl b=>a == b
 | .bl a,.int b=>(if a then 1 else 0) == b
 | .int a,.bl b=>a == (if b then 1 else 0)
 | .int a,.int b=>a == b
 | .str a,.str b=>a == b
 | _,_=>false
theorem FE {A:UG} {s:UK} {y x:V} {u v:UL} (ry:RelV y u) (rx:RelV x v) (fy:ij y=true) (fx:ij x=true):SeqAt.EqAt A s u v (BW y x):=by
 cases y with
 | aB=>
  cases ry
  cases x with
  | aB=>cases rx;exact SeqAt.EqAt.same _
  | bl b=>cases rx;exact SeqAt.EqAt.none_bool b
  | int b=>obtain⟨t,rfl⟩:=rx;exact SeqAt.EqAt.none_int b t
  | str b=>obtain⟨t,rfl⟩:=rx;exact SeqAt.EqAt.none_str b t
  | _=>exact absurd (show false=true from fx) Bool.false_ne_true
 | bl a=>
  cases ry
  cases x with
  | aB=>cases rx;exact SeqAt.EqAt.bool_none a
  | bl b=>cases rx;exact SeqAt.EqAt.bool_bool a b
  | int b=>obtain⟨t,rfl⟩:=rx;exact SeqAt.EqAt.bool_int a b t
  | str b=>obtain⟨t,rfl⟩:=rx;exact SeqAt.EqAt.bool_str a b t
  | _=>exact absurd (show false=true from fx) Bool.false_ne_true
 | int a=>
  obtain⟨t',rfl⟩:=ry
  cases x with
  | aB=>cases rx;exact SeqAt.EqAt.int_none a t'
  | bl b=>cases rx;exact SeqAt.EqAt.int_bool a t' b
  | int b=>obtain⟨t,rfl⟩:=rx;exact SeqAt.EqAt.int_int a t' b t
  | str b=>obtain⟨t,rfl⟩:=rx;exact SeqAt.EqAt.int_str a t' b t
  | _=>exact absurd (show false=true from fx) Bool.false_ne_true
 | str a=>
  obtain⟨t',rfl⟩:=ry
  cases x with
  | aB=>cases rx;exact SeqAt.EqAt.str_none a t'
  | bl b=>cases rx;exact SeqAt.EqAt.str_bool a t' b
  | int b=>obtain⟨t,rfl⟩:=rx;exact SeqAt.EqAt.str_int a t' b t
  | str b=>obtain⟨t,rfl⟩:=rx;exact SeqAt.EqAt.str_str a t' b t
  | _=>exact absurd (show false=true from fx) Bool.false_ne_true
 | _=>exact absurd (show false=true from fy) Bool.false_ne_true
def sh (x:V) (u:UL):Bool:=match u with
 | .none=>BW .aB x
 | .bool b=>BW (.bl b) x
 | .int i _=>BW (.int i) x
 | .str z _=>BW (.str z) x
 | _=>false
theorem x_ {x y:V} {u:UL} (r:RelV y u) (f:ij y=true):sh x u=BW y x:=by
 cases y with
 | aB=>cases r;rfl
 | bl b=>cases r;rfl
 | int i=>obtain⟨t,rfl⟩:=r;rfl
 | str z=>obtain⟨t,rfl⟩:=r;rfl
 | _=>exact absurd (show false=true from f) Bool.false_ne_true
theorem iV {x:V}:∀{xs:List V} {us:List UL},Vals xs us->xs.all ij=true->us.any (sh x)=xs.any fun y=>BW y x
 | _,_,.nil,_=>rfl
 | y::xs,u::us,.cons r t,f=>by
  rw[List.all_cons,Bool.and_eq_true] at f
  rw[List.any_cons,List.any_cons,x_ r f.1,iV t f.2]
theorem gE {A:UG} {s:UK} {x:V} {v:UL} (rx:RelV x v) (fx:ij x=true):∀{xs:List V} {us:List UL},Vals xs us->xs.all ij=true->∀u∈us,SeqAt.EqAt A s u v (sh x u)
 | _,_,.nil,_=>fun u hu=>by cases hu
 | y::xs,u::us,.cons r t,f=>fun u' hu=>by
  rw[List.all_cons,Bool.and_eq_true] at f
  rcases List.mem_cons.mp hu with rfl | hu
  ·rw[x_ r f.1];exact FE r rx f.1 fx
  ·exact gE rx fx t f.2 u' hu
def LY (x:V) (xs:List V):Bool:=xs.any fun y=>BW y x
def P5 (K:PySem.W.Frag) (neg:Bool):R2:=fun x y H Q=>∃p xs,y= .ref p/\(gq K H p xs\/dq K H p xs)/\ij x=true/\xs.all ij=true/\Q (.bl (if neg then !LY x xs else LY x xs)) H
theorem vW:cW X (US .In) (P5 X.K false):=by
 intro pins s σ H x y v u Q I rx ry h
 obtain⟨p,xs,rfl,hq,fx,fs,q⟩:=h
 cases ry
 rcases hq with hq | hq
 ·obtain⟨its,r,pl,hz⟩:=I.list hq
  refine SeqAt.in_listAt (sh x) pl.isList (fun w hw=>gE rx fx r fs w (by simpa using hw)) ⟨.bl _,H,I,rfl,?_⟩
  rw[show its.toArray.any (sh x)=its.any (sh x) by simp,iV r fs]
  exact q
 ·obtain⟨its,r,pl,hz⟩:=I.tuple hq
  refine SeqAt.in_tupleAt (sh x) pl (fun w hw=>gE rx fx r fs w (by simpa using hw)) ⟨.bl _,H,I,rfl,?_⟩
  rw[show its.toArray.any (sh x)=its.any (sh x) by simp,iV r fs]
  exact q
theorem oF:cW X (US .NotIn) (P5 X.K true):=by
 intro pins s σ H x y v u Q I rx ry h
 obtain⟨p,xs,rfl,hq,fx,fs,q⟩:=h
 cases ry
 rcases hq with hq | hq
 ·obtain⟨its,r,pl,hz⟩:=I.list hq
  refine SeqAt.notIn_listAt (sh x) pl.isList (fun w hw=>gE rx fx r fs w (by simpa using hw)) ⟨.bl _,H,I,rfl,?_⟩
  rw[show its.toArray.any (sh x)=its.any (sh x) by simp,iV r fs]
  exact q
 ·obtain⟨its,r,pl,hz⟩:=I.tuple hq
  refine SeqAt.notIn_tupleAt (sh x) pl (fun w hw=>gE rx fx r fs w (by simpa using hw)) ⟨.bl _,H,I,rfl,?_⟩
  rw[show its.toArray.any (sh x)=its.any (sh x) by simp,iV r fs]
  exact q
theorem oG:cW X (US .NotIn) (fun x y H Q=>∃i j,x= .str i/\y= .str j/\Q (.bl (!(!(Builtin.Str.occurrences j i 0 j.length 1).isEmpty))) H):=by
 intro pins s σ H x y v u Q I rx ry h
 obtain⟨i,j,rfl,rfl,q⟩:=h
 obtain⟨t,rfl⟩:=rx
 obtain⟨t',rfl⟩:=ry
 exact notIn_str ⟨.bl _,H,I,rfl,q⟩
theorem oH:bL X (.builtin "len") (fun xs H Q=>∃p ys,xs=[.ref p]/\(gq X.K H p ys\/dq X.K H p ys)/\Q (.int ys.length) H):=by
 intro pins s σ H xs us Q I r h
 obtain⟨p,ys,rfl,hq,q⟩:=h
 obtain⟨u,rfl,rx⟩:=vals1 r
 cases rx
 have hn:=iA
 rcases hq with hq | hq
 ·obtain⟨its,r',pl,hz⟩:=I.list hq
  have hlen:=r'.length
  exact Calls.call_len_list pl.isList (by simp only[List.size_toArray]<;>omega) ⟨.int ys.length,H,I.tok _,⟨s.toks+1,by rw[List.size_toArray,hlen]⟩,q⟩
 ·obtain⟨its,r',pl,hz⟩:=I.tuple hq
  have hlen:=r'.length
  exact len_tuple pl (by simp only[List.size_toArray]<;>omega) ⟨.int ys.length,H,I.tok _,⟨s.toks+1,by rw[List.size_toArray,hlen]⟩,q⟩
theorem oI:bL X (.builtin "len") (fun xs H Q=>∃z,xs=[.str z]/\z.length<=UX/\Q (.int z.length) H):=by
 intro pins s σ H xs us Q I r h
 obtain⟨z,rfl,hz,q⟩:=h
 obtain⟨u,rfl,t,rfl⟩:=vals1 r
 have hn:=iA
 exact len_str (by omega) ⟨.int z.length,H,I.tok _,⟨_,rfl⟩,q⟩
theorem bL.or {f:UL} {r r':List V->Hp->VK->Prop} (h:bL X f r) (h':bL X f r'):bL X f (fun xs H Q=>r xs H Q\/r' xs H Q):=by
 intro pins s σ H xs us Q I rs q
 rcases q with q | q
 ·exact h pins s σ H xs us Q I rs q
 ·exact h' pins s σ H xs us Q I rs q
theorem oJ:bL X (.type "list") (fun xs H Q=>∃p ys,xs=[.ref p]/\(gq X.K H p ys\/dq X.K H p ys)/\∀l,H l=none->Q (.ref l) (upd H l (.lst ys))):=by
 intro pins s σ H xs us Q I r h
 obtain⟨p,ys,rfl,hq,q⟩:=h
 obtain⟨u,rfl,rx⟩:=vals1 r
 cases rx
 have fin:∀(its:List UL),Vals ys its->ys.length<=UX->∀(h':Heap) (c':Nat),(∀b o',s.heap.get? b=some o'->h'.get? b=some o')->
   h'.get? s.heap.objs.size=some { cls:=.type "list",dict:=none,data:=.seq its.toArray c',slots:=#[] }->EP X pins σ Q (.ref s.heap.objs.size) { s with heap:=h' }:=fun its r' hz h' c' kp e=>
  ⟨.ref s.heap.objs.size,_,I.laid (t':=s.toks) kp (Nat.le_refl _) (show bB X.prog X.w _ h' _ (.lst ys) from⟨hz,its,c',r',e⟩),rfl,q _ (I.hok.fresh (Nat.le_refl _))⟩
 rcases hq with hq | hq
 ·obtain⟨its,r',pl,hz⟩:=I.list hq
  have hlen:=r'.length
  obtain⟨o,ho,hc,n,hd⟩:=pl.isList
  exact call_list_seq p (.inl rfl) ho hc hd (fun h' c' kp e=>fin its r' hz h' c' kp e) (by simp only[List.size_toArray]<;>omega)
 ·obtain⟨its,r',pl,hz⟩:=I.tuple hq
  have hlen:=r'.length
  obtain⟨o,ho,hc,n,hd⟩:=pl
  exact call_list_seq p (.inr rfl) ho hc hd (fun h' c' kp e=>fin its r' hz h' c' kp e) (by simp only[List.size_toArray]<;>omega)
def LZ (K:PySem.W.Frag) (T:String) (x:V) (H:Hp):Prop:=match x with
 | .str _=>T="str"
 | .int _=>T="int"
 | .ref p=>(T="list"/\∃xs,gq K H p xs)\/(T="tuple"/\((∃o,K.lookup p=some o/\o.cls= .type "tuple"/\o.dict=none)\/∃xs,H p=some (.tup xs)))\/
   (T="dict"/\((∃kvs,H p=some (.dK kvs))\/∃kvs,H p=some (.dT kvs)))\/(T="set"/\∃S n,H p=some (.set S n))
 | _=>False
theorem si {pins:List (UE×Obj)} {σ:St} {H:Hp} {s:UK} {T:String} {x:V} {v:UL} (I:Inv X pins σ H s) (r:RelV x v) (ty:LZ X.K T x H) :
  s.TypeIs v T/\∀a,v= .ref a->∃ob,s.heap.get? a=some ob/\ob.dict=none:=by
 cases x with
 | str z=>
  obtain⟨t,rfl⟩:=r
  cases (show T="str" from ty)
  exact⟨typeIs_str s z t,fun _ e=>nomatch e⟩
 | int i=>
  obtain⟨t,rfl⟩:=r
  cases (show T="int" from ty)
  exact⟨typeIs_int s i t,fun _ e=>nomatch e⟩
 | ref p=>
  cases r
  rcases ty with ⟨rfl,xs,hq⟩ | ⟨rfl,⟨o,hk,hc,hd⟩ | ⟨xs,hk⟩⟩ | ⟨rfl,hk⟩ | ⟨rfl,S,n,hk⟩
  ·obtain⟨its,_,pl,_⟩:=I.list hq
   refine⟨pl.isList.typeIs,fun a e=>?_⟩
   cases e
   obtain⟨o,n,e,c,hd,_⟩:=pl
   exact⟨o,e,hd⟩
  ·refine⟨⟨o,I.uh p o hk,hc⟩,fun a e=>?_⟩
   cases e
   exact⟨o,I.uh _ o hk,hd⟩
  ·obtain⟨_,_,_,⟨o,e1,e2,_⟩,nd⟩:=I.hok p _ hk
   refine⟨⟨o,e1,e2⟩,fun a e=>?_⟩
   cases e
   exact⟨o,e1,nd o e1⟩
  ·have z:∃o,s.heap.get? p=some o/\o.ExactDict:=by
    rcases hk with ⟨kvs,hk⟩ | ⟨kvs,hk⟩
    ·obtain⟨_,_,_,_,o,_,_,e,ex,_⟩:=I.hok p _ hk
     exact⟨o,e,ex⟩
    ·obtain⟨_,_,_,_,o,_,_,e,ex,_⟩:=I.hok p _ hk
     exact⟨o,e,ex⟩
   obtain⟨o,e,ex⟩:=z
   refine⟨⟨o,e,ex.1⟩,fun a e2=>?_⟩
   cases e2
   exact⟨o,e,ex.2.1⟩
  ·obtain⟨o,_,_,_,e,ex,_⟩:=I.hok p _ hk
   refine⟨⟨o,e,ex.1⟩,fun a e2=>?_⟩
   cases e2
   exact⟨o,e,ex.2.1⟩
 | _=>exact False.elim ty
def Rl (K:PySem.W.Frag) (T:String) (r:V->List V->Hp->VK->Prop) (to:TE) (t:TA):TE:=fun σ H Q=>to σ H fun x H1=>LZ K T x H1/\t σ H1 fun xs H2=>r x xs H2 Q
variable {o e:Expr} {es:List Expr} {to:TE} {t:TA} {name:Str} {apos cpos:Pos} {T id:String} {r:V->List V->Hp->VK->Prop}
theorem J1 (pa:PlainAttrs T) (slot:Slot T name id) (hty:typeOf (.builtin id)=pure (.type "method_descriptor")) (hm:Nr X id r) (ho:PE X o to) (ha:PA X (e::es) t)
  (hbase:attributeBase o name X.env (eval o X.env)=eval o X.env:=by rfl)
  (hfew:((backTo cpos (UY (e::es) X.env)).all (fun x=> !x.1)&&(backToKw cpos (keywordEach [] X.env)).all (fun x=>x.1.isSome)
   &&decide ((e::es).length+([]:List Keyword).length+(if([]:List Keyword).isEmpty then 0 else 1) < 30))=true:=by rfl)
  (hline:(apos.endLine == cpos.line)=true:=by rfl) (hs:UY (e::es) X.env=(false,eval e X.env)::UY es X.env:=by rfl) (hplain:(backTo cpos (UY es X.env)).any (·.1)=false:=by rfl) :
  PE X (.Call (.Attribute o name apos) (e::es) [] cpos) (Rl X.K T r to t):=by
 intro pins s σ H Q I h
 refine wpAny_Call_method_late hbase hfew hline rfl (aM (ho pins s σ H _ I h) fun v s1 ⟨x,H1,I1,r1,ty,q1⟩=>?_)
 obtain⟨h1,h2⟩:=si I1 r1 ty
 refine⟨T,id,pa,slot,hty,h1,h2,?_⟩
 have hA:=ha cpos pins s1 σ H1 _ I1 q1
 rw[hs] at hA ⊢
 refine Calls.callWith_builtin (by show(false||(backTo cpos (UY es X.env)).any (·.1))=false;rw[hplain]<;>rfl) (Calls.evalArgs_plain ?_)
 exact aM hA fun us s2 ⟨vs,H2,I2,r2,q2⟩=>hm pins s2 σ H2 x vs v us Q I2 r1 r2 q2
/- xs.append(e),list.index on a yc tuple .. are Nr facts of 06m -/
end
end L2
namespace L2
open PySem PySem.Spec PyProof.Rows
def J2 (X:Cx) (id:String) (r:V->List V->Hp->VK->Prop):Prop :=
 ∀(pins:List (UE×Obj)) (s:UK) (σ:St) (H:Hp) (x:V) (xs:List V) (v:UL) (us:List UL) (Q:VK),Inv X pins σ H s->RelV x v->Vals xs us->r x xs H Q->
  UZ (model X.prog X.w) X.A (call (.builtin id) (v::us)) (EP X pins σ Q) X.xe s
theorem Vals.one:∀{x:V} {us:List UL},Vals [x] us->∃u,us=[u]/\RelV x u
 | _,_,.cons r .nil=>⟨_,rfl,r⟩
theorem Vals.zero:∀{us:List UL},Vals [] us->us=[]
 | _,.nil=>rfl
theorem Vals.rep {xs:List V} {us:List UL} (h:Vals xs us):∀k:Nat,Vals (List.replicate k xs).flatten (List.replicate k us).flatten
 | 0=> .nil
 | k+1=>by
  rw[List.replicate_succ,List.replicate_succ,List.flatten_cons,List.flatten_cons]
  exact Vals.append h (Vals.rep h k)
theorem foldl_rep (its:List UL):∀(k:Nat) (acc:List UL),
  List.foldl (fun x1 x2=>x1++x2) acc.toArray (List.replicate k its.toArray)=(acc++(List.replicate k its).flatten).toArray
 | 0,acc=>by simp
 | k+1,acc=>by
  have e:acc.toArray++its.toArray=(acc++its).toArray:=by simp
  have e2:(acc++its)++(List.replicate k its).flatten=acc++(List.replicate (k+1) its).flatten:=by
   rw[List.replicate_succ,List.flatten_cons,List.append_assoc]
  rw[<-e2,<-foldl_rep its k (acc++its),<-e,List.replicate_succ,List.foldl_cons]
section
variable {X:Cx} {pins:List (UE×Obj)} {σ:St} {H:Hp} {s:UK} {l b:UE} {xs ys zs:List V}
theorem Inv.BX {its its':List UL} {n:Nat} {f:Array UL->Array UL} {t':Nat} (I:Inv X pins σ H s) (hH:H l=some (.lst xs))
  (e:s.heap.get? l=some { cls:=.type "list",data:=.seq its.toArray n }) (hf:f its.toArray=its'.toArray) (hv:Vals ys its') (hz:ys.length<=UX) :
  Inv X pins σ (upd H l (.lst ys)) { s with heap:=s.heap.update l (Obj.mapSeq f),toks:=t' }:=by
 have q:=PySem.IsL.update e f
 rw[hf] at q
 refine I.write (x:=l) (e:=l) (by rw[hH];exact trivial) (.inl rfl) (fun b' u hb hu=>(Heap.get?_update_other s.heap (Obj.mapSeq f) (Ne.symm hb)).trans hu) ⟨_,q⟩ ?_
 exact⟨hz,its',_,hv,q⟩
theorem Inv.FF {its:List UL} {t':Nat} (I:Inv X pins σ H s) (hv:Vals ys its) (hz:ys.length<=UX) :
  Inv X pins σ (upd H s.heap.objs.size (.lst ys)) { s with heap:=s.heap.push { cls:=.type "list",data:=.seq its.toArray },toks:=t' } :=
 I.laid (fun _ _ q=>Heap.get?_push_of_some _ q) (Nat.le_refl _) ⟨hz,its,0,hv,Heap.get?_push_size _ rfl⟩
theorem Inv.fresh (I:Inv X pins σ H s):H s.heap.objs.size=none:=I.hok.fresh (Nat.le_refl _)
theorem Inv.vX (I:Inv X pins σ H s) (hH:H l=some (.lst xs)):xs.length<=UX/\∃(its:List UL) (n:Nat),Vals xs its/\xs.length=its.length/\s.heap.get? l=some { cls:=.type "list",data:=.seq its.toArray n }:=by
 obtain⟨z,its,n,r,e⟩:=I.hok l _ hH
 exact⟨z,its,n,r,r.length,e⟩
theorem lq {n:Nat} (h:n<=UX):Builtin.List.listTooLong n=false:=by
 unfold Builtin.List.listTooLong
 exact decide_eq_false (by omega)
end
section
variable {X:Cx}
def BY:V->List V->Hp->VK->Prop:=fun x vs H Q=>∃l xs y,x= .ref l/\vs=[y]/\H l=some (.lst xs)/\xs.length < UX/\Q .aB (upd H l (.lst (xs++[y])))
theorem vY:J2 X "list.append" BY:=by
 intro pins s σ H x vs v us Q I rx rv h
 obtain⟨l,xs,y,rfl,rfl,hH,hz,q⟩:=h
 cases rx
 obtain⟨u,rfl,ru⟩:=rv.one
 obtain⟨z,its,n,r,hl,e⟩:=I.vX hH
 refine call_meets F.slot_list_append ⟨_,e,rfl⟩ F.entry_list_append (F.args_list_append_2 _ _) (PySem.list_append l its.toArray n u (by rw[List.size_toArray];omega)) ⟨e,?_⟩
 refine⟨.aB,_,I.BX (its':=its++[u]) hH e (by simp) (r.append (.cons ru .nil)) ?_,rfl,q⟩
 rw[List.length_append,List.length_singleton]
 omega
def BZ:V->List V->Hp->VK->Prop:=fun x vs H Q=>∃l b xs zs,x= .ref l/\vs=[.ref b]/\H l=some (.lst xs)/\H b=some (.lst zs)/\xs.length+zs.length<=UX/\Q .aB (upd H l (.lst (xs++zs)))
theorem vZ:J2 X "list.extend" BZ:=by
 intro pins s σ H x vs v us Q I rx rv h
 obtain⟨l,b,xs,zs,rfl,rfl,hH,hB,hz,q⟩:=h
 cases rx
 obtain⟨u,rfl,ru⟩:=rv.one
 cases ru
 obtain⟨z,its,n,r,hl,e⟩:=I.vX hH
 obtain⟨z2,its2,n2,r2,hl2,e2⟩:=I.vX hB
 have hsz:its.toArray.size+its2.toArray.size<=UX:=by rw[List.size_toArray,List.size_toArray];omega
 have pZ:¬(!its.toArray.isEmpty&&Builtin.List.listTooLong (its.toArray.size+its2.toArray.size))=true:=by
  rw[lq hsz,Bool.and_false]
  exact Bool.false_ne_true
 refine call_meets F.slot_list_extend ⟨_,e,rfl⟩ F.entry_list_extend (F.args_list_extend_2 _ _)
  (AutoSeq1.list_extend_list_list_0 l its.toArray n b its2.toArray n2 pZ (by rw[List.size_toArray];omega) (by omega)) ⟨e,e2,?_⟩
 refine⟨.aB,_,I.BX (its':=its++its2) hH e (by simp) (r.append r2) ?_,rfl,q⟩
 rw[List.length_append]
 omega
def yd:V->List V->Hp->VK->Prop:=fun x vs H Q=>∃l xs,x= .ref l/\vs=[]/\H l=some (.lst xs)/\Q .aB (upd H l (.lst []))
theorem ye:J2 X "list.clear" yd:=by
 intro pins s σ H x vs v us Q I rx rv h
 obtain⟨l,xs,rfl,rfl,hH,q⟩:=h
 cases rx
 have Nu:=rv.zero
 subst Nu
 obtain⟨z,its,n,r,hl,e⟩:=I.vX hH
 refine call_meets F.slot_list_clear ⟨_,e,rfl⟩ F.entry_list_clear (F.args_list_clear_1 _) (AutoSeq1.list_clear_list_0 l its.toArray n (by rw[List.size_toArray];omega)) ⟨e,?_⟩
 exact⟨.aB,_,I.BX (its':=[]) (ys:=[]) hH e rfl .nil (Nat.zero_le _),rfl,q⟩
def Nv:R2:=fun x y H Q=>∃l k xs,x= .ref l/\y= .int k/\H l=some (.lst xs)/\-(2 ^ 63)<=k/\k < 2 ^ 63/\xs.length * k.toNat<=UX/\
 ∀p,H p=none->Q (.ref p) (upd H p (.lst (List.replicate k.toNat xs).flatten))
theorem len_rep {α:Type} (xs:List α) (k:Nat):(List.replicate k xs).flatten.length=k * xs.length:=by
 induction k with
 | zero=>simp
 | succ k ih=>rw[List.replicate_succ,List.flatten_cons,List.length_append,ih,Nat.succ_mul,Nat.add_comm]
theorem FG:cW X (UO .Mult) Nv:=by
 intro pins s σ H x y v u Q I rx ry h
 obtain⟨l,k,xs,rfl,rfl,hH,h1,h2,hz,q⟩:=h
 cases rx
 obtain⟨t,rfl⟩:=ry
 obtain⟨z,its,n,r,hl,e⟩:=I.vX hH
 have hlen:its.toArray.size * k.toNat<=UX:=by rw[List.size_toArray,<-hl];exact hz
 have hcap:¬its.toArray.size * k.toNat > (2 ^ 63 - 1) / 8:=by
  have:(UX:Nat)<=(2 ^ 63 - 1) / 8:=by decide
  omega
 have hfit:¬(!Builtin.List.listFitsIndex k)=true:=by
  rw[fitsIndex_both h1 h2]
  exact Bool.false_ne_true
 have pZ:¬Builtin.List.listTooLong (its.toArray.size * k.toNat)=true:=by
  rw[lq hlen]
  exact Bool.false_ne_true
 have hnew:List.foldl (fun x1 x2=>x1++x2) #[] (List.replicate (if its.toArray.isEmpty=true then 0 else k.toNat) its.toArray)=(List.replicate k.toNat its).flatten.toArray:=by
  have f0:∀m:Nat,List.foldl (fun x1 x2=>x1++x2) #[] (List.replicate m its.toArray)=(List.replicate m its).flatten.toArray:=fun m=>by
   have:=foldl_rep its m []
   rw[List.nil_append] at this
   exact this
  rw[f0]
  cases its with
  | nil=>simp
  | cons a r'=>rw[if_neg (by simp)]
 refine wpAny_binaryOp_repeat_ref (T:="list") (U:="int") (by decide) ⟨_,e,rfl⟩ (fun s'=>typeIs_int s' k t) noFill_list_mul F.fills_int_mul F.slot_int_rmul repeat_list F.slot_int_index.lookup
  (call_meets F.slot_int_rmul (typeIs_int s k t) F.entry_int_rmul (F.args_int_rmul_2 _ _) (int___rmul___int_list k t l its.toArray n)
   ⟨e,rfl,⟨_,e,rfl⟩,call_meets F.slot_list_mul ⟨_,e,rfl⟩ F.entry_list_mul (F.args_list_mul_2 _ _) (AutoListH.list___mul___list_int_3 l its.toArray n k t hfit hcap pZ) ⟨e,?_⟩⟩)
 rw[hnew]
 exact⟨.ref _,_,I.FF (t':=s.toks) (r.rep k.toNat) (by rw[len_rep,Nat.mul_comm];exact hz),rfl,q _ I.fresh⟩
end
section
variable {prog:UJ} {w:UM} {A:UG} {E:UL->UK->Prop} {s:UK}
set_option maxRecDepth 100000 in
end
section
variable {X:Cx}
end
end L2
namespace Att
open PySem PySem.W PySem.Calls PyProof.Rows
theorem kg {P:Params} {h:Heap}:∀(ns:List Int) (vs:List UL),WellAll P h vs (ns.map WData.int)->IntsAre vs ns:=by
 intro ns
 induction ns with
 | nil=>
  intro vs w
  rw[List.map_nil] at w
  cases w
  exact .nil
 | cons n ns ih=>
  intro vs w
  rw[List.map_cons] at w
  cases w with
  | cons a b=>
   cases a
   exact .cons _ _ (ih _ b)
theorem v5 {l:OpenLaw} {n:Nat} (hn:l.most=some n) {P:Params} {h:Heap} {args:List WData} {vals:List UL}
  (hpre:l.row.toRowW.claim.pre args=true) (hwl:WellAll P h vals args) :
  ∃a vs ns,vals=[Value.ref a]/\args=[WData.list (ns.map WData.int)]/\h.get? a=some { cls:=.type "list",data:=.seq vs.toArray }/\IntsAre vs ns/\ns.length<=n:=by
 have hsh:WShape.hasAll [] args [.list .int]=true:=(pre_splitW hpre).1
 have hc:l.pre.holds [] { args:=args }=true:=(pre_splitW hpre).2
 obtain⟨d,r,rfl,h1,h2⟩:=hasAllW_cons hsh
 obtain rfl:=hasAllW_nil h2
 obtain⟨xs,rfl,h3⟩:=hasW_list h1
 obtain⟨ns,rfl⟩:=items_int h3
 have hlen:ns.length<=n:=by
  unfold OpenLaw.pre at hc
  have h4:(WTm.not (.lt (.lit (.int (n:Int))) (.len (.arg 0)))).holds [] { args:=[.list (ns.map .int)] }=true:=by
   have h4:=(holds_andW hc).1
   rw[hn] at h4
   exact h4
  have h5:=condW_of h4 (w_not (w_lt w_lit (w_len_list (w_arg rfl))))
  rw[List.length_map] at h5
  refine Nat.le_of_not_lt fun q=>?_
  have q':(n:Int) < ((ns.length:Nat):Int):=by omega
  first
   | (rw[decide_eq_true q'] at h5;exact absurd h5 (by decide))
   | (simp at h5;omega)
 cases hwl with
 | cons w1 w2=>
  cases w2
  cases w1 with
  | list ho hall=>exact⟨_,_,ns,rfl,rfl,ho,kg ns _ hall,hlen⟩
theorem v7 (l:OpenLaw) (args:List WData):l.row.toRowW.claim.post args (.bool true) args=true :=
 postW_of (r:=l.row.toRowW) (X:=(true == true))
  (show WShape.has [] (.bool true) .bool=true by first | rfl | decide | simp[WShape.has,WShape.arms,WShape.armsAll])
  (show(WTm.eq .res (.lit (.bool true))).value [] { args:=args,res:=some (.bool true),after:=args }=some (.bool (true == true)) from w_eq_bool (w_res rfl) w_lit) rfl
theorem p5 {l:OpenLaw} {n:Nat} {q:UJ} {loose:List Str} {XP:(Str->Option UL)->Heap->Prop} {YP:UM->Heap->Prop} {d:DefRec}
  (hn:l.most=some n) (hdf:d.params.defaults=[])
  (call:∀(w:UM) (s₀ s₁:UK) (mg mb:Str->Option UL) (fa:UE) (o:Obj) (pm cd doc:UL) (a:UE) (vs:List UL) (ns:List Int),
   Ground q loose [] XP w s₀ mg mb s₁.heap->YP w s₁.heap->
   s₁.heap.get? fa=some o->o.data= .func (docDef d.name d.params d.body d.scope pm cd doc)->s₁.heap.CodeRec cd d.name->mg d.name=some (.ref fa)->
   s₁.heap.get? a=some { cls:=.type "list",data:=.seq vs.toArray }->IntsAre vs ns->ns.length<=n->s₁.gens=#[]->
   UQ (model l.prog w) callerA (.call (.ref fa) ⟨[.ref a],[]⟩) (fun r s'=>r= .ok (.ret (.bool true))/\OldK s₁.heap s'.heap/\s'.os=s₁.os/\AllBare s'.gens) s₁) :
  WalkO q loose XP YP l.row.toRowW d [] (fun f vs=>PySem.call f vs):=by
 intro w s₀ s₁ mg mb G Y fa o pm cd doc dV kV ho hd hcd hD hmg hg args vals as hpre hlay hrd hwl hlo
 obtain rfl:dV= .none:=Dflts.none hD hdf
 obtain rfl:kV= .none:=Dflts.noKw hD
 obtain⟨a,vs,ns,rfl,rfl,hobj,hints,hlen⟩:=v5 hn hpre hwl
 refine enter_call (codeAny_mono (call w s₀ s₁ mg mb fa o pm cd doc a vs ns G Y ho (fd_plain hd) hcd hmg hobj hints hlen hg) fun r s' hq=>?_)
 obtain⟨rfl,h2,h3,h4⟩:=hq
 exact⟨.inl ⟨.bool true,.bool true,[],rfl,fun _=>rfl,.bool true,v7 l _,fun _=>⟨List.Pairwise.nil,fun _ hm=>(nomatch hm)⟩⟩,h2,h3,h4⟩
section
variable {prog:UJ} {w:UM} {A:UG} {E:UL->UK->Prop} {s:UK} {K:Frag}
def oK (h:Heap):Heap:={ h with objs:=#[] }
theorem iB (h:Heap) (b:UE):(oK h).get? b=none:=by
 cases e:(oK h).get? b with
 | none=>rfl
 | some o=>exact absurd (Heap.lt_size e) (Nat.not_lt_zero _)
theorem FH {h:Heap} {L:UE} {m:Str->Option UL} (n:h.Ns L m):Fr (oK h) L h m :=
 ⟨n,fun b o e=>(by rw[iB] at e;cases e),Nat.zero_le _⟩
end
end Att
namespace L2
open PySem PySem.Spec PyProof.Rows
theorem nC:∀{vs:List UL} {ns:List Int},IntsAre vs ns->Vals (ns.map V.int) vs
 | _,_,.nil=> .nil
 | _,_,.cons n t h=> .cons ⟨t,rfl⟩ (nC h)
def B0 (H:Hp):Prop:=∀b,H b=none\/∃o xs,H b=some (.bV o (.lst xs))
theorem yf {P:UJ} {w:UM} {K:PySem.W.Frag} {mg mb:Str->Option UL} {CX:xA} {k:Nat} {fa a:UE} {fd:UH} {x:Str} {sp:Sp} {s₁:UK} {vs:List UL} {ns:List Int}
  (KX:K.In s₁.heap) (hns:s₁.heap.Ns UW mg) (hb:s₁.heap.Ns builtinsNs mb) (Rm:∀x:Str,x≠"__name__"->mb x=UP x) (hlim:s₁.heap.NoLimit) (hg:s₁.gens=#[])
  (ha:s₁.heap.get? a=some { cls:=.type "list",data:=.seq vs.toArray }) (hi:IntsAre vs ns) (hl:ns.length<=UX) (hr:gD k callerA)
  (F:∀base:Heap,K.In base->base.Ns UW mg->FnOk P w K mg base CX k fa fd [x] sp) (hbind:∀(s:UK) (u:UL),BindsTo s fd ⟨[u],[]⟩ [(x,u)])
  (BL:∀H:Hp,B0 H->gq K H a (ns.map V.int)->sp [.ref a] H (fun v _=>v= .bl true) fun _ _ _=>False)
  (Nw:∀H e s',CX [] H s₁ (fun _ _ _=>False) e s'->False) :
  UQ (model P w) callerA (.call (.ref fa) ⟨[.ref a],[]⟩) (fun r s'=>r= .ok (.ret (.bool true))/\OldK s₁.heap s'.heap/\s'.os=s₁.os/\AllBare s'.gens) s₁:=by
 have rv:=nC hi
 have Nx:=hi.length
 -- from an abstract heap in which nothing but the script may be tracked
 have core:∀H:Hp,B0 H->gq K H a (ns.map V.int)->f' P w H s₁.heap->(∀b,H b≠none->b=a)->(H a≠none->K.lookup a=none)->
   UQ (model P w) callerA (.call (.ref fa) ⟨[.ref a],[]⟩) (fun r s'=>r= .ok (.ret (.bool true))/\OldK s₁.heap s'.heap/\s'.os=s₁.os/\AllBare s'.gens) s₁:=by
  intro H hO hS hok hA hK
  have ur:∀{b:UE} {o:Obj},s₁.heap.get? b=some o->H b=none->(oA s₁.heap H).get? b=some o:=fun e n=>xD e n
  have JN:∀{b:UE} {o:Obj} {es:Array DictEntry} {ep:Nat},s₁.heap.get? b=some o->o.data= .dict es ep->H b=none:=fun{b o es ep} e d=>by
   cases q:H b with
   | none=>rfl
   | some u=>
    have e':b=a:=hA b (by rw[q];simp)
    subst e'
    rw[ha] at e;cases e
    have d':Data.seq vs.toArray _=Data.dict es ep:=d
    cases d'
  have L3:∀{b:UE} {m:Str->Option UL},s₁.heap.Ns b m->(oA s₁.heap H).Ns b m:=fun{b m} ⟨o,es,ep,e,d,r⟩=>⟨o,es,ep,ur e (JN e d),d,r⟩
  have P6:K.In (oA s₁.heap H):=fun b o e=>ur (KX b o e) (by
   cases q:H b with
   | none=>rfl
   | some u=>
    have e':b=a:=hA b (by rw[q];simp)
    subst e'
    rw[hK (by rw[q];simp)] at e;cases e)
  have hM:Mod K mg (oA s₁.heap H):=⟨P6,L3 hns,⟨mb,L3 hb,Rm⟩,let ⟨mc,h1,h2⟩:=hlim;⟨mc,L3 h1,h2⟩⟩
  have e0:rY P w K mg (oA s₁.heap H) callerA [] s₁ H:=⟨rfl,hM,fun b o e=>Bs e,Nat.le_of_eq (vK _ _),trivial,fun b hb=>absurd (show b∈([]:List UE) from hb) (by simp),hok,.of_eq hg⟩
  refine codeAny_mono ((F _ P6 (L3 hns)).run callerA [] s₁ H ⟨[.ref a],[]⟩ [.ref a] [.ref a] _ _ hr e0 (hbind s₁ (.ref a)) (.cons rfl .nil) (BL H hO hS)) fun r s' h=>?_
  cases r with
  | error e=>exact(Nw H e s' h).elim
  | ok fl=>
   cases fl with
   | next=>exact False.elim h
   | brk=>exact False.elim h
   | cont=>exact False.elim h
   | ret u=>
    obtain⟨v,H',os,bare,un,Ny,r',q⟩:=h
    have q':v= .bl true:=q
    subst q'
    obtain rfl:u=Value.bool true:=r'
    refine⟨rfl,OldK.of_keep fun b o e=>?_,os,bare⟩
    cases q:H b with
    | none=>exact un.keep b o e q (by intro z;exact absurd (show b∈([]:List UE) from z) (by simp)) (by simp)
    | some u=>
     rcases hO b with z | ⟨ob,xs,z⟩
     ·rw[q] at z;cases z
     ·have z2:=un.fD b ob _ z
      obtain⟨e1,_⟩:=hok b _ z
      obtain⟨e2,_⟩:=Ny b _ z2
      rw[e] at e1;cases e1
      exact e2
 cases hk:K.lookup a with
 | some o=>
  -- the script is one of the yc own objects
  have e:=KX a o hk
  rw[ha] at e
  cases e
  refine core (fun _=>none) (fun _=> .inl rfl) (.inr ⟨_,vs.toArray,_,hk,rfl,rfl,rfl,by rw[List.size_toArray,Nx];exact hl,by simpa using rv⟩) (fun b u z=>by have z':(none:Option HO)=some u:=z;cases z') (fun b z=>absurd rfl z) fun z=>absurd rfl z
 | none=>
  refine core (fun b=>if b=a then some (.bV { cls:=.type "list",data:=.seq vs.toArray } (.lst (ns.map V.int))) else none) (fun b=>?_) (.inl (.inr ⟨{ cls:=.type "list",data:=.seq vs.toArray },if_pos rfl⟩)) (fun b u z=>?_) (fun b z=>?_) fun _=>hk
  ·by_cases hb:b=a
   ·exact .inr ⟨_,_,if_pos hb⟩
   ·exact .inl (if_neg hb)
  ·by_cases hb:b=a
   ·have z':=(if_pos hb).symm.trans z
    cases z'
    subst hb
    exact⟨ha,by rw[List.length_map];exact hl,vs,_,rv,ha⟩
   ·have z':=(if_neg hb).symm.trans z
    cases z'
  ·by_cases hb:b=a
   ·exact hb
   ·exact absurd (if_neg hb) z
end L2
namespace L2
open PySem PySem.Spec PyProof.Rows
abbrev KOf {K:PySem.W.Frag} {h:Heap} (_:K.In h):PySem.W.Frag:=K
theorem walk_of {l:PySem.W.OpenLaw} {n k:Nat} {q:UJ} {loose:List Str} {XP:(Str->Option UL)->Heap->Prop} {YP:UM->Heap->Prop} {d:DefRec} {K:Params->PySem.W.Frag} {CX:UM->xA} {sp:UM->Sp} {x:Str}
  (hn:l.most=some n) (hn2:n<=UX) (hdf:d.params.defaults=[]) (hr:gD k callerA)
  (hY:∀(w:UM) (h:Heap),YP w h->(K w.params).In h)
  (F:∀(w:UM) (mg:Str->Option UL) (fa:UE) (h:Heap),(K w.params).In h->h.Ns UW mg->mg d.name=some (.ref fa)->
   ∃fd:UH,(∀(s:UK) (u:UL),BindsTo s fd ⟨[u],[]⟩ [(x,u)])/\
    ∀base:Heap,(K w.params).In base->base.Ns UW mg->FnOk l.prog w (K w.params) mg base (CX w) k fa fd [x] (sp w))
  (BL:∀(w:UM) (H:Hp) (a:UE) (ns:List Int),ns.length<=n->B0 H->gq (K w.params) H a (ns.map V.int)->sp w [.ref a] H (fun v _=>v= .bl true) fun _ _ _=>False)
  (Nw:∀(w:UM) (H:Hp) (s:UK) (e:UL) (s':UK),CX w [] H s (fun _ _ _=>False) e s'->False) :
  PySem.W.WalkO q loose XP YP l.row.toRowW d [] (fun f vs=>PySem.call f vs):=by
 refine Att.p5 hn hdf fun w s₀ s₁ mg mb fa o pm cd doc a vs ns G Y ho hd hcd hmg hobj hints hlen hg=>?_
 have KX:=hY w _ Y
 obtain⟨fd,hb,hF⟩:=F w mg fa _ KX G.T.g hmg
 exact yf KX G.T.g G.T.b G.T.builtins G.T.nolimit hg hobj hints (Nat.le_trans hlen hn2) hr hF hb (fun H hO hS=>BL w H a ns hlen hO hS) fun H e s'=>Nw w H s₁ e s'
end L2
/- T4 Ro L4 (shape;T5,My.* are P7):
   My.T6: a structure of the addresses Rp your P8 names (classes,IZ);My.Txt K t: a structure (Prop) of the equations over K;
   My.FI:{K} {implicit addresses ..} (e1:nsIn K UW "law"=some (some (.ref f))) (e2:K.lookup f=some ⟨oc,od,.func (fnOf "law" "law" params body scope dV kV doc pm an cdv ct),sl⟩) (e3:codeIn K cdv "law"=true) ..:∃t,My.Txt K t
set_option maxRecDepth 100000 in
set_option maxHeartbeats 0 in
theorem PySem.Challenge.cw_LID_holds:PySem.Challenge.rw_LID.Holds:=by
 w_on;o_law;k_head;(case hw=>w_witness2)
 k_fill
 refine L2.walk_of (l:=PySem.Challenge.rw_LID) (n:=63) (k:=40) (x:="script") (CX:=fun w => ..) (sp:=fun _ => My.sp_law) rfl (by decide) rfl ⟨rfl,by decide,by decide⟩ (fun w h Y => PySem.W.kIn_of Y) ?F ?S ?C
 case F=>
  intro w mg fa h KX G hmg
  have T:∃t,My.Txt (L2.KOf KX) t:=by
   dsimp only[L2.KOf] -- K Rq stand as «<heap const> w.params» for k_is
   refine' My.FI ?e1 ?e2 ?e3 ..
   (case e1=>PySem.W.k_is) -- in the order: a name -> its address -> its object -> its parts
   (case e2=>PySem.W.k_is)
   ..
  obtain⟨t,T⟩:=T
  have e0:=hmg.symm.trans (PySem.W.mg_of KX G T.law)
  cases e0 -- fa is the P9 own address
  exact⟨_,fun s u=> .of_eq rfl,fun base kb nb=>My.FJ T kb nb⟩ -- if «.of_eq rfl» comes T7 early: refine' ⟨_,?b,fun base kb nb=>My.FJ T kb nb⟩;exact fun s u=> .of_eq rfl
 case S=>exact fun w H a ns hl hO hS=> ..
 case C=>exact ..
(the tactic k_is has no namespace: write k_is) -/
namespace L2
open PySem PySem.Spec PyProof.Rows
def defArgs (s:Stmt):Arguments:=match s with
 | .FunctionDef _ a _ _ _ _ _ _ _ _=>a
 | _=>{ posonlyargs:=[],args:=[],vararg:=none,kwonlyargs:=[],kw_defaults:=[],kwarg:=none,defaults:=[] }
def defBody (s:Stmt):List Stmt:=match s with
 | .FunctionDef _ _ b _ _ _ _ _ _ _=>b
 | _=>[]
def defScope (s:Stmt):Scope:=match s with
 | .FunctionDef _ _ _ _ _ _ sc _ _ _=>sc
 | _=>{ kind:=.function,names:=[],isGenerator:=false,isCoroutine:=false }
abbrev CX0:xA:=fun _ _ _ _ _ _=>False
abbrev E0:XK:=fun _ _ _=>False
structure DY (K:PySem.W.Frag) (x qual:Str) (st:Stmt) (f:UE) (fd:UH):Prop where
 ex:∃(oc:UL) (od:Option UE) (kV doc pm:UL) (an:Option UE) (cdv ct:UL) (osl:Array (Option UL)),
  fd=PySem.W.fnOf x qual (defArgs st) (defBody st) (defScope st) .none kV doc pm an cdv ct/\K.lookup f=some ⟨oc,od,.func fd,osl⟩/\PySem.W.codeIn K cdv qual=true
 kp:PySem.W.keepIn K (.ref f)=true
section
variable {P:UJ} {w:UM} {K:PySem.W.Frag} {mg:Str->Option UL} {base:Heap}
theorem DY.binds {x qual:Str} {st:Stmt} {f:UE} {fd:UH} {ps:List Str} (F:DY K x qual st f fd)
  (h:∀(kV doc pm:UL) (an:Option UE) (cdv ct:UL) (us:List UL),us.length=ps.length->bindArgs (PySem.W.fnOf x qual (defArgs st) (defBody st) (defScope st) .none kV doc pm an cdv ct) ⟨us,[]⟩=pure (ps.zip us)):Binds K fd ps []:=by
 obtain⟨oc,od,kV,doc,pm,an,cdv,ct,osl,rfl,lk,hcd⟩:=F.ex
 exact .all (h kV doc pm an cdv ct)
theorem FK {x qual:Str} {st:Stmt} {f:UE} {oc:UL} {od an:Option UE} {osl:Array (Option UL)} {kV doc pm cdv ct:UL} (l:K.lookup f=some ⟨oc,od,.func (PySem.W.fnOf x qual (defArgs st) (defBody st) (defScope st) .none kV doc pm an cdv ct),osl⟩)
  (c:PySem.W.codeIn K cdv qual=true) (k:PySem.W.keepIn K (.ref f)=true):DY K x qual st f (PySem.W.fnOf x qual (defArgs st) (defBody st) (defScope st) .none kV doc pm an cdv ct):=⟨⟨oc,od,kV,doc,pm,an,cdv,ct,osl,rfl,l,c⟩,k⟩
end
section
variable {X:Cx}
end
end L2
namespace L2
open PySem PySem.Spec PyProof.Rows
section
variable {κ : Type} [DecidableEq κ]
def iW (kvs : List (κ×V)) (k : κ) : Option V := (kvs.find? fun kv=>decide (kv.1=k)).map (·.2)
def putK (kvs : List (κ×V)) (k : κ) (v : V) : List (κ×V) :=
 if(kvs.any fun kv=>decide (kv.1=k))=true then kvs.map (fun kv=>if kv.1=k then(kv.1, v) else kv) else kvs++[(k, v)]
def lu (kvs : List (κ×V)) (k : κ) : List (κ×V) := kvs.filter fun kv=>decide (kv.1≠k)
theorem iX {p : κ×V} {r : List (κ×V)} {k : κ} (e : p.1=k) : iW (p::r) k=some p.2 := by simp[iW, List.find?_cons, e]
theorem iY {p : κ×V} {r : List (κ×V)} {k : κ} (e : ¬p.1=k) : iW (p::r) k=iW r k := by simp[iW, List.find?_cons, e]
theorem p6 (k : κ) : ∀kvs : List (κ×V), (kvs.any fun kv=>decide (kv.1=k))=(iW kvs k).isSome
 | []=>rfl
 | p::r=>by
  rw[List.any_cons]
  by_cases e : p.1=k
  ·simp only[iX e, decide_eq_true e, Bool.true_or, Option.isSome_some]
  ·rw[iY e, decide_eq_false e, Bool.false_or];exact p6 k r
theorem jT (kvs : List (κ×V)) (k : κ) (v : V) : (putK kvs k v).length<=kvs.length+1 := by
 unfold putK
 split
 ·rw[List.length_map];omega
 ·rw[List.length_append, List.length_cons, List.length_nil];omega
theorem kR.nD {o : Option V} {u : Option UL} (r : kR o u) : o.isSome=u.isSome := by
 cases o with
 | none=>cases u with
  | none=>rfl
  | some _=>exact(show False from r).elim
 | some _=>cases u with
  | none=>exact(show False from r).elim
  | some _=>rfl
theorem KV.val {kvs : List (κ×V)} {vs : List (κ×UL)} (r : KV kvs vs) (k : κ) : kR (iW kvs k) (valueAt vs k) := by
 unfold KV at r
 induction r with
 | nil=>exact True.intro
 | @cons p q ps qs h t ih=>
  obtain⟨h1, h2⟩ := h
  by_cases e : p.1=k
  ·have e' : q.1=k := h1.symm.trans e
   have b : valueAt (q::qs) k=some q.2 := by simp[valueAt, List.find?_cons, e']
   rw[iX e, b];exact h2
  ·have e' : ¬q.1=k := fun z=>e (h1.trans z)
   have b : valueAt (q::qs) k=valueAt qs k := by simp[valueAt, List.find?_cons, e']
   rw[iY e, b];exact ih
theorem KV.any {kvs : List (κ×V)} {vs : List (κ×UL)} (r : KV kvs vs) (k : κ) : (kvs.any fun kv=>decide (kv.1=k))=vs.any fun kv=>decide (kv.1=k) := by
 unfold KV at r
 induction r with
 | nil=>rfl
 | cons h t ih=>rw[List.any_cons, List.any_cons, ih, h.1]
theorem KV.repl {kvs : List (κ×V)} {vs : List (κ×UL)} (r : KV kvs vs) (k : κ) {y : V} {u : UL} (ry : RelV y u) :
  KV (kvs.map fun kv=>if kv.1=k then(kv.1, y) else kv) (vs.map fun kv=>if kv.1=k then(kv.1, u) else kv) := by
 unfold KV at r ⊢
 induction r with
 | nil=>exact .nil
 | @cons p q ps qs h t ih=>
  rw[List.map_cons, List.map_cons]
  refine .cons ?_ ih
  obtain⟨h1, h2⟩ := h
  by_cases e : p.1=k
  ·rw[if_pos e, if_pos (h1.symm.trans e)];exact⟨h1, ry⟩
  ·rw[if_neg e, if_neg (fun z=>e (h1.trans z))];exact⟨h1, h2⟩
theorem KV.put {kvs : List (κ×V)} {vs : List (κ×UL)} (r : KV kvs vs) (k : κ) {y : V} {u : UL} (ry : RelV y u) : KV (putK kvs k y) (stored vs k u) := by
 unfold putK stored
 rw[r.any k]
 by_cases e : (vs.any fun kv=>decide (kv.1=k))=true
 ·rw[if_pos e, if_pos e];exact r.repl k ry
 ·rw[if_neg e, if_neg e];exact Paired.snoc r ⟨rfl, ry⟩
theorem KV.length {kvs : List (κ×V)} {vs : List (κ×UL)} (r : KV kvs vs) : kvs.length=vs.length := Paired.length r
end
theorem yg {P : UJ} {w : UM} {k : Key} {u : UL} (r : RelV (kV k) u) : (aV P w).is k u=true := by
 cases k with
 | inl i=>obtain⟨t, e⟩ := (show ∃t, u=Value.int i t from r);subst e;exact pS P w i t
 | inr x=>obtain⟨t, e⟩ := (show ∃t, u=Value.str x t from r);subst e;exact pT P w x t
theorem nE {P : UJ} {w : UM} : ∀{ks : List Key} {us : List UL}, Vals (ks.map kV) us->ItemsAre (aV P w) ks us
 | [], _, r=>by rw[List.map_nil] at r;cases r;exact .nil
 | k::ks, _, r=>by
  rw[List.map_cons] at r
  cases r with
  | cons h t=>exact .cons (yg h) (nE t)
abbrev KT (H : Hp) : List (List Key×V)->List (List Key×UE×UL)->Prop := Paired fun p q=>p.1=q.1/\H q.2.1=some (.tup (p.1.map kV))/\RelV p.2 q.2.2
theorem KT.val {H : Hp} {kvs : List (List Key×V)} {xs : List (List Key×UE×UL)} (r : KT H kvs xs) (k : List Key) : kR (iW kvs k) ((atKey xs k).map (·.2)) := by
 induction r with
 | nil=>exact True.intro
 | @cons p q ps qs h t ih=>
  obtain⟨h1, _, h2⟩ := h
  by_cases e : p.1=k
  ·have e' : q.1=k := h1.symm.trans e
   have b : atKey (q::qs) k=some q.2 := by simp[atKey, List.find?_cons, e']
   rw[iX e, b];exact h2
  ·have e' : ¬q.1=k := fun z=>e (h1.trans z)
   have b : atKey (q::qs) k=atKey qs k := by simp[atKey, List.find?_cons, e']
   rw[iY e, b];exact ih
theorem KT.repl {H : Hp} {kvs : List (List Key×V)} {xs : List (List Key×UE×UL)} (r : KT H kvs xs) (k : List Key) {y : V} {u : UL} (ry : RelV y u) :
  KT H (kvs.map fun kv=>if kv.1=k then(kv.1, y) else kv) (xs.map (putAt k u)) := by
 induction r with
 | nil=>exact .nil
 | @cons p q ps qs h t ih=>
  rw[List.map_cons, List.map_cons]
  refine .cons ?_ ih
  obtain⟨h1, h2, h3⟩ := h
  unfold putAt
  by_cases e : p.1=k
  ·rw[if_pos e, if_pos (h1.symm.trans e)];exact⟨h1, h2, ry⟩
  ·rw[if_neg e, if_neg (fun z=>e (h1.trans z))];exact⟨h1, h2, h3⟩
theorem KT.put {H : Hp} {kvs : List (List Key×V)} {xs : List (List Key×UE×UL)} (r : KT H kvs xs) (k : List Key) {b : UE} {y : V} {u : UL} (hb : H b=some (.tup (k.map kV))) (ry : RelV y u) :
  KT H (putK kvs k y) (storedH xs k b u) := by
 have e : (kvs.any fun kv=>decide (kv.1=k))=(atKey xs k).isSome := by
  rw[p6, (r.val k).nD, Option.isSome_map]
 unfold putK storedH
 rw[e]
 by_cases q : (atKey xs k).isSome=true
 ·rw[if_pos q, if_pos q];exact r.repl k ry
 ·rw[if_neg q, if_neg q];exact Paired.snoc r ⟨rfl, hb, ry⟩
theorem KT.keeps {H H' : Hp} {kvs : List (List Key×V)} {xs : List (List Key×UE×UL)} (r : KT H kvs xs) (ht : ∀b ys, H b=some (.tup ys)->H' b=some (.tup ys)) : KT H' kvs xs :=
 Paired.EY r fun _ _ z=>⟨z.1, ht _ _ z.2.1, z.2.2⟩
section
variable {P : UJ} {w : UM} {H : Hp} {h : Heap} {a : UE}
theorem yh {u : HO} (ok : f' P w H h) (e : Rd H a u) : bB P w H h a u := e.ok ok
theorem uu {kvs : List (Key×V)} (ok : f' P w H h) (e : Rd H a (.dK kvs)) : kvs.length<=UX/\(a == sysModules)=false/\∃vs, KV kvs vs/\h.DictOf (aV P w) a vs :=
 show bB P w H h a (.dK kvs) from yh ok e
theorem J3 {kvs : List (Key×V)} (ok : f' P w H h) (e : H a=some (.dK kvs)) : kvs.length<=UX/\(a == sysModules)=false/\∃vs, KV kvs vs/\h.DictOf (aV P w) a vs := uu ok (.inl e)
theorem sj {ks : List Key} (ok : f' P w H h) (e : H a=some (.tup (ks.map kV))) : (tupleKind (aV P w)).is h ks a := by
 obtain⟨_, its, r, ⟨o, h1, h2, n, h3⟩, _⟩ := (show bB P w H h a (.tup (ks.map kV)) from ok a _ e)
 exact⟨o, its.toArray, n, h1, h2, h3, by simpa using nE r⟩
theorem nG {kvs : List (List Key×V)} (ok : f' P w H h) (e : Rd H a (.dT kvs)) : kvs.length<=UX/\(a == sysModules)=false/\
  ∃xs, KT H kvs xs/\h.DictOfH (tupleKind (aV P w)) a xs := by
 obtain⟨z, y, xs, r, o, es, ep, h1, h2, h3, h4, h5⟩ := (show bB P w H h a (.dT kvs) from yh ok e)
 refine⟨z, y, xs, r, o, es, ep, h1, h2, h3, h4, fun x hx=>?_, h5⟩
 have all : ∀{l : List (List Key×V)} {m : List (List Key×UE×UL)}, KT H l m->∀x∈m, (tupleKind (aV P w)).is h x.1 x.2.1 := by
  intro l m q
  induction q with
  | nil=>intro x hx;exact nomatch hx
  | @cons p q ps qs hq t ih=>
   intro x hx
   rcases List.mem_cons.mp hx with e | hx
   ·subst e
    exact sj ok (by rw[<-hq.1];exact hq.2.1)
   ·exact ih x hx
 exact all r x hx
theorem yi {kvs : List (List Key×V)} (ok : f' P w H h) (e : H a=some (.dT kvs)) : kvs.length<=UX/\(a == sysModules)=false/\
  ∃xs, KT H kvs xs/\h.DictOfH (tupleKind (aV P w)) a xs := nG ok (.inl e)
end
def mL (H : Hp) (a : UE) (y : V) (r : Option V) : Prop :=
 (∃kvs k, Rd H a (.dK kvs)/\y=kV k/\r=iW kvs k)\/∃kvs k b, Rd H a (.dT kvs)/\y= .ref b/\H b=some (.tup (k.map kV))/\r=iW kvs k
def oM (H : Hp) (a : UE) (y v : V) (H' : Hp) : Prop :=
 (∃kvs k, H a=some (.dK kvs)/\y=kV k/\kvs.length < UX/\H'=upd H a (.dK (putK kvs k v)))\/
 ∃kvs k b, H a=some (.dT kvs)/\y= .ref b/\H b=some (.tup (k.map kV))/\kvs.length < UX/\H'=upd H a (.dT (putK kvs k v))
theorem mL.k {H : Hp} {a : UE} {kvs : List (Key×V)} {k : Key} (e : H a=some (.dK kvs)) : mL H a (kV k) (iW kvs k) := .inl ⟨kvs, k, .inl e, rfl, rfl⟩
theorem mL.t {H : Hp} {a b : UE} {kvs : List (List Key×V)} {k : List Key} (e : H a=some (.dT kvs)) (eb : H b=some (.tup (k.map kV))) : mL H a (.ref b) (iW kvs k) := .inr ⟨kvs, k, b, .inl e, rfl, eb, rfl⟩
theorem oM.k {H : Hp} {a : UE} {kvs : List (Key×V)} {k : Key} {v : V} (e : H a=some (.dK kvs)) (hl : kvs.length < UX) : oM H a (kV k) v (upd H a (.dK (putK kvs k v))) := .inl ⟨kvs, k, e, rfl, hl, rfl⟩
theorem oM.t {H : Hp} {a b : UE} {kvs : List (List Key×V)} {k : List Key} {v : V} (e : H a=some (.dT kvs)) (eb : H b=some (.tup (k.map kV))) (hl : kvs.length < UX) :
  oM H a (.ref b) v (upd H a (.dT (putK kvs k v))) := .inr ⟨kvs, k, b, e, rfl, eb, hl, rfl⟩
section
variable {X : Cx} {pins : List (UE×Obj)} {σ : St} {H : Hp} {s : UK} {a : UE} {y v : V} {u r : UL} {o : Option V} {A : UG} {E : UL->UK->Prop}
theorem Inv.big (I : Inv X pins σ H s) : sysModules < s.heap.objs.size := by
 have h : UW < s.heap.objs.size := (I.mod.glob.keeps I.bk).lt
 exact Nat.lt_trans (by decide) h
theorem v9 {Q : UL->UK->Prop} (hu : A.units+1 < cLine) (I : Inv X pins σ H s) (g : mL H a y (some v)) (ry : RelV y u) (h : ∀w' s', Inv X pins σ H s'->RelV v w'->Q w' s') :
  UZ (model X.prog X.w) A (getItem (.ref a) u) Q E s := by
 rcases g with ⟨kvs, k, e, ey, l⟩ | ⟨kvs, k, b, e, ey, eb, l⟩
 ·subst ey
  obtain⟨z, hd, vs, rel, dd⟩ := uu I.hok e
  obtain⟨w', hw, rw'⟩ := kR.some_of (v := v) (o := valueAt vs k) (by rw[l];exact rel.val k)
  exact wpAny_getItem_of (yg ry) dd.mapOf hw (h w' _ (I.tok _) rw')
 ·subst ey
  cases (show u=Value.ref b from ry)
  obtain⟨z, hd, xs, rel, dd⟩ := nG I.hok e
  obtain⟨w', hw, rw'⟩ := kR.some_of (v := v) (o := (atKey xs k).map (·.2)) (by rw[l];exact rel.val k)
  obtain⟨p, hp, hp2⟩ := Option.map_eq_some_iff.mp hw
  refine wpAny_getItem_heap (tupleKind_room_in1 hu) (sj I.hok eb) dd hp ?_
  rw[hp2]
  exact h w' _ (I.tok _) rw'
theorem kH {h' : Heap} {t' : Nat} {ob : HO} (I : Inv X pins σ H s) (mu : Ji (H a)) (hs : Heap.SameBut a s.heap h') (he : ∃q, h'.get? a=some q) (new : bB X.prog X.w (upd H a ob) h' a ob) :
  Inv X pins σ (upd H a ob) { s with heap := h', toks := t' } :=
 I.write (x := a) (e := a) mu (.inl rfl) (fun b q hb z=>(hs.2 b hb).trans z) he new
theorem FO {P : UJ} {w : UM} {H' : Hp} {h' : Heap} {kvs : List (Key×V)} {vs : List (Key×UL)} (z : kvs.length<=UX) (hd : (a == sysModules)=false) (rel : KV kvs vs) (dd : h'.DictOf (aV P w) a vs) :
  bB P w H' h' a (.dK kvs) :=⟨z, hd, vs, rel, dd⟩
theorem v_ {H' : Hp} {Q : Unit->UK->Prop} (hu : A.units+1 < cLine) (I : Inv X pins σ H s) (g : oM H a y v H') (ry : RelV y u) (rv : RelV v r) (h : ∀s', Inv X pins σ H' s'->Q () s') :
  UZ (model X.prog X.w) A (setItem (.ref a) u r) Q E s := by
 rcases g with ⟨kvs, k, e, ey, l, eH⟩ | ⟨kvs, k, b, e, ey, eb, l, eH⟩
 ·subst ey eH
  obtain⟨z, hd, vs, rel, dd⟩ := J3 I.hok e
  have hz : vs.length<=UX := by rw[<-rel.length];exact z
  have hl : (putK kvs k v).length<=UX := by have := jT kvs k v;omega
  refine wpAny_setItem_pairs (hsz := hz) (yg ry) dd fun h' DZ hs=>h _ ?_
  have he : ∃q, h'.get? a=some q := let ⟨q, _, _, hq, _⟩ := DZ;⟨q, hq⟩
  exact kH I (by rw[e];exact True.intro) hs he (FO hl hd (rel.put k rv) DZ)
 ·subst ey eH
  cases (show u=Value.ref b from ry)
  obtain⟨z, hd, xs, rel, dd⟩ := yi I.hok e
  have hz : xs.length<=UX := by rw[<-Paired.length rel];exact z
  have hl : (putK kvs k v).length<=UX := by have := jT kvs k v;omega
  refine wpAny_setItem_heap (hsz := hz) (tupleKind_room_in1 hu) (sj I.hok eb) dd fun h' DZ hs=>h _ ?_
  obtain⟨q, es, ep, hq, h2, h3, h4, _, h5⟩ := DZ
  refine kH I (by rw[e];exact True.intro) hs ⟨q, hq⟩ ⟨hl, hd, _, (rel.put k eb rv).keeps fun c ys ec=>?_, q, es, ep, hq, h2, h3, h4, h5⟩
  rw[ao (DQ ec e (fun z=>nomatch z))]
  exact ec
end
section
variable {X : Cx} {pins : List (UE×Obj)} {σ : St} {H : Hp} {s : UK} {a : UE} {kvs : List (Key×V)} {k : Key} {u : UL} {A : UG} {E : UL->UK->Prop}
end
def yj (i : Expr) : Prop := ∀ov iv, subscripted i false ov iv=operate [ov, iv] (getItem ov iv)
theorem uv {prog : UJ} {w : UM} {A : UG} {E : UL->UK->Prop} {s : UK} {env : Env} {value slice : Expr} {pos : Pos} {T id : String} {Q : UL->UK->Prop}
  (hl : typeLookup (.type T) "__getitem__"=pure (some (.builtin id))) (hs : yj slice)
  (h : UZ (model prog w) A (eval value env) (fun o s₁=>UZ (model prog w) A (eval slice env) (fun i s₂=>s₂.TypeIs o T/\UZ (model prog w) A (getItem o i) Q E s₂) E s₁) E s) :
  UZ (model prog w) A (eval (.Subscript value slice pos) env) Q E s := by
 refine Subscript_ (U3 h (fun o s₁ h₁=>U3 h₁ (fun i s₂ h₂=>?_) fun _ _ x=>x) fun _ _ x=>x)
 obtain⟨hT, h₂⟩ := h₂
 unfold subscriptTail
 refine U0 ?_
 rw[getitemInPython_of_ne hT.not_modules]
 refine U0 (wpAny_specialOf hT hl ?_)
 have fin : UZ (model prog w) A (subscripted slice false o i) (fun r s₃=>UZ (model prog w) A (letTemporaryGo value o r >>= fun _=>pure r) Q E s₃) E s₂ := by
  rw[hs o i]
  exact wpAny_operating (U3 h₂ (fun r s₃ h₃=>U0 (wpAny_letTemporaryGo (U6 h₃))) fun _ _ x=>x)
 first
  | exact U6 (U0 fin)
  | exact U0 (U6 (U0 fin))
  | exact U0 fin
theorem p7 {X : Cx} {pins : List (UE×Obj)} {σ : St} {H : Hp} {s : UK} {a : UE} {y : V} {o : Option V} (I : Inv X pins σ H s) (g : mL H a y o) : s.TypeIs (.ref a) "dict" := by
 rcases g with ⟨kvs, k, e, _, _⟩ | ⟨kvs, k, b, e, _, _, _⟩
 ·obtain⟨_, _, vs, _, dd⟩ := uu I.hok e
  exact dd.typeIs
 ·obtain⟨_, _, xs, _, dd⟩ := nG I.hok e
  exact dd.typeIs
def J4 (td ty : TE) : TE := fun σ H Q=>td σ H fun x H1=>ty σ H1 fun y H2=>∃a v, x= .ref a/\mL H2 a y (some v)/\Q v H2
def J5 (td ty tv : TE) : TS := fun D σ H=>tv σ H fun v H1=>td σ H1 fun x H2=>ty σ H2 fun y H3=>∃a H4, x= .ref a/\oM H3 a y v H4/\D.nx σ H4
section
variable {X : Cx} {o i e value : Expr} {pos pos' tpos : Pos} {td ty tv : TE}
theorem B1 (hu : X.A.units+1 < cLine) (ho : PE X o td) (hi : PE X i ty) (hs : yj i) : PE X (.Subscript o i pos) (J4 td ty) := by
 intro pins s σ H Q I h
 refine uv PySem.F.slot_dict_getitem.lookup hs (aM (ho pins s σ H _ I h) fun u s1 ⟨x, H1, I1, rx, q1⟩=>aM (hi pins s1 σ H1 _ I1 q1) fun iv s2 ⟨y, H2, I2, ry, a, v, ex, g, q2⟩=>?_)
 subst ex
 obtain rfl : u=Value.ref a := rx
 exact⟨p7 I2 g, v9 hu I2 g ry fun w' s3 I3 rw'=>⟨v, H2, I3, rw', q2⟩⟩
theorem B2 (hu : X.A.units+1 < cLine) (ho : PE X o td) (hi : PE X i ty) (hv : PE X value tv) (hs : swapsWith value (some (.Subscript o i pos')) pos.line X.env=pure false) :
  PS X (.Assign [.Subscript o i pos'] value pos) (J5 td ty tv) := by
 intro pins s σ H D I h
 refine wpAny_Assign_Subscript (aM (hv pins s σ H _ I h) fun r s1 ⟨v, H1, I1, rv, q1⟩=>aM (ho pins s1 σ H1 _ I1 q1) fun u s2 ⟨x, H2, I2, rx, q2⟩=>aM (hi pins s2 σ H2 _ I2 q2) fun iv s3 ⟨y, H3, I3, ry, a, H4, ex, g, q3⟩=>?_) hs
 subst ex
 obtain rfl : u=Value.ref a := rx
 exact v_ hu I3 g ry rv fun s4 I4=>⟨σ, H4, I4, q3⟩
end
theorem yk {P : UJ} {w : UM} {H : Hp} (h : Heap) (hb : sysModules < h.objs.size) : bB P w H (h.push { cls := .type "dict", data := .dict #[] }) h.objs.size (.dK []) :=
 ⟨Nat.zero_le _, beq_eq_false_iff_ne.mpr (Ne.symm (Nat.ne_of_lt hb)), [], .nil, Heap.DictOf.new h⟩
theorem ym {P : UJ} {w : UM} {H : Hp} (h : Heap) (hb : sysModules < h.objs.size) : bB P w H (h.push { cls := .type "dict", data := .dict #[] }) h.objs.size (.dT []) :=
 ⟨Nat.zero_le _, beq_eq_false_iff_ne.mpr (Ne.symm (Nat.ne_of_lt hb)), [], .nil, _, #[], 0, Heap.get?_push_size _ rfl, ⟨rfl, rfl, rfl⟩, rfl, rfl, List.nodup_nil⟩
def FP : TE := fun _ H Q=>∀p, H p=none->Q (.ref p) (upd H p (.dK []))
def FQ : TE := fun _ H Q=>∀p, H p=none->Q (.ref p) (upd H p (.dT []))
section
variable {X : Cx} {pos : Pos}
theorem yo : PE X (.Dict [] [] pos) FP := fun pins s σ H Q I h=>
 wpAny_Dict_empty ⟨.ref s.heap.objs.size, _, I.laid (a := s.heap.objs.size) (o := .dK []) (t' := s.toks) (fun _ _ q=>Heap.get?_push_of_some _ q) (Nat.le_refl _) (yk s.heap I.big), rfl, h _ (I.hok.fresh (Nat.le_refl _))⟩
theorem yp : PE X (.Dict [] [] pos) FQ := fun pins s σ H Q I h=>
 wpAny_Dict_empty ⟨.ref s.heap.objs.size, _, I.laid (a := s.heap.objs.size) (o := .dT []) (t' := s.toks) (fun _ _ q=>Heap.get?_push_of_some _ q) (Nat.le_refl _) (ym s.heap I.big), rfl, h _ (I.hok.fresh (Nat.le_refl _))⟩
end
abbrev VV : List (V×V)->List (UL×UL)->Prop := Paired fun p q=>RelV p.1 q.1/\RelV p.2 q.2
def FR (kvs more : List (Key×V)) : List (Key×V) := more.foldl (fun acc kv=>putK acc kv.1 kv.2) kvs
structure M1 (X : Cx) (o : Expr) (m : Str) (apos : Pos) (e : Expr) (cpos : Pos) : Prop where
 base : attributeBase o m X.env (eval o X.env)=eval o X.env
 few : ((backTo cpos (UY [e] X.env)).all (fun x=> !x.1)&&(backToKw cpos (keywordEach [] X.env)).all (fun x=>x.1.isSome)
  &&decide (([e] : List Expr).length+([] : List Keyword).length+(if([] : List Keyword).isEmpty then 0 else 1) < 30))=true
 line : (apos.endLine == cpos.line)=true
 trees : backTo cpos (UY [e] X.env)=[(false, eval e X.env)]
structure M2 (X : Cx) (o : Expr) (m : Str) (apos : Pos) (e f : Expr) (cpos : Pos) : Prop where
 base : attributeBase o m X.env (eval o X.env)=eval o X.env
 few : ((backTo cpos (UY [e, f] X.env)).all (fun x=> !x.1)&&(backToKw cpos (keywordEach [] X.env)).all (fun x=>x.1.isSome)
  &&decide (([e, f] : List Expr).length+([] : List Keyword).length+(if([] : List Keyword).isEmpty then 0 else 1) < 30))=true
 line : (apos.endLine == cpos.line)=true
 trees : backTo cpos (UY [e, f] X.env)=[(false, eval e X.env), (false, eval f X.env)]
def Rr (H : Hp) (a : UE) : Prop := (∃kvs, Rd H a (.dK kvs))\/∃kvs, Rd H a (.dT kvs)
theorem FT {X : Cx} {pins : List (UE×Obj)} {σ : St} {H : Hp} {s : UK} {a : UE} (I : Inv X pins σ H s) (d : Rr H a) :
  s.TypeIs (.ref a) "dict"/\(∀b, Value.ref a= .ref b->∃ob, s.heap.get? b=some ob/\ob.dict=none)/\(a == sysModules)=false := by
 rcases d with ⟨kvs, e⟩ | ⟨kvs, e⟩
 ·obtain⟨_, hd, vs, _, dd⟩ := uu I.hok e
  refine⟨dd.typeIs, fun b q=>?_, hd⟩
  cases q
  obtain⟨ob, _, _, h1, h2, _⟩ := dd
  exact⟨ob, h1, h2.2.1⟩
 ·obtain⟨_, hd, xs, _, dd⟩ := nG I.hok e
  refine⟨dd.typeIs, fun b q=>?_, hd⟩
  cases q
  obtain⟨ob, _, _, h1, h2, _⟩ := dd
  exact⟨ob, h1, h2.2.1⟩
section
variable {X : Cx} {pins : List (UE×Obj)} {σ : St} {H : Hp} {s : UK} {a : UE} {y d : V} {u r : UL} {o : Option V} {A : UG} {E : UL->UK->Prop}
end
section
variable {X : Cx} {o e f : Expr} {apos cpos : Pos} {td ty tx : TE}
end
section
variable {X : Cx} {pins : List (UE×Obj)} {σ : St} {H : Hp} {s : UK} {a : UE} {kvs : List (Key×V)} {A : UG} {E : UL->UK->Prop}
end
section
variable {X : Cx} {pins : List (UE×Obj)} {σ : St} {H : Hp} {s : UK} {a : UE} {y : V} {u : UL} {A : UG} {E : UL->UK->Prop}
end
end L2
namespace Att
open PySem PySem.W PySem.Calls PyProof.Rows
end Att
namespace L2
open PySem PySem.Spec PyProof.Rows
section
variable {X : Cx}
end
section
variable {κ : Type} [DecidableEq κ]
theorem wa {p : κ×V} {r : List (κ×V)} {k : κ} (e : p.1=k) : lu (p::r) k=lu r k := by
 unfold lu
 rw[List.filter_cons, if_neg (by simp[e])]
theorem wb {p : κ×V} {r : List (κ×V)} {k : κ} (e : ¬p.1=k) : lu (p::r) k=p::lu r k := by
 unfold lu
 rw[List.filter_cons, if_pos (by simp[e])]
end
end L2
set_option maxHeartbeats 4000000
namespace J
open PySem PySem.Spec PyProof.Rows L2
def L5 (h base:Heap) (e:UE) (cls a0 fl:UL):Prop :=
 ∃ox us T ot ws,h.get? e=some ox/\(ox.cls=cls/\us[2]? =some Value.none)/\ox.data= .fields us/\us[1]? =some (.ref T)/\base.get? T=none/\T≠e/\h.get? T=some ot/\ot.data= .fields ws/\ws[3]? =some fl
abbrev B3 (base:Heap) (l:List Env) (e:UE) (cls a0 fl:UL) (h:Heap):Prop:=base.StaysIn h/\base.get? e=none/\h.FunFrames base l/\L5 h base e cls a0 fl
def yq (base:Heap) (l:List Env) (e:UE) (cls a0:UL) (L:UE) (h:Heap):Prop:=B3 base l e cls a0 (rawInt L) h
def oN (base:Heap) (l:List Env) (e:UE) (cls a0:UL) (h:Heap):Prop:=B3 base l e cls a0 .none h
theorem oN.first {base h:Heap} {l:List Env} {e:UE} {cls a0:UL} (x:oN base l e cls a0 h):∃ox us,h.get? e=some ox/\ox.cls=cls/\ox.data= .fields us/\us[2]? =some Value.none :=
 let ⟨_,_,_,ox,us,_,_,_,g1,g2,g3,_⟩:=x;⟨ox,us,g1,g2.1,g3,g2.2⟩
section
variable {M:Model} {A:UG} {E:UL->UK->Prop} {s:UK} {base:Heap} {env:Env} {outer l:List Env} {L e:UE} {cls a0 nt:UL} {Q:Unit->UK->Prop}
theorem sk {h h1:Heap} {S:List UE} {ox ob:Obj} {us ws:Array UL} (so:Heap.SlotsOnly S h h1) (hS:S=l.filterMap (·.frame)) (fs:h.FunFrames base l) (g1:h.get? e=some ox) (g3:ox.data= .fields us) (st:base.StaysIn h) (ne:base.get? e=none) (sz:1 < us.size) (g2:us[2]? =some Value.none)
  (d:ob.data= .fields ws) (w3:ws[3]? =some nt) (nf:ob.isFreed=false) :
  B3 base l e ox.cls a0 nt ((h1.push ob).update e (Obj.mapFields (·.setIfInBounds 1 (.ref h1.objs.size))))/\h.UpToSlots ((h1.push ob).update e (Obj.mapFields (·.setIfInBounds 1 (.ref h1.objs.size)))):=by
 have nS:e∉S:=fun z=>by
  rw[hS] at z
  obtain⟨_,o2,q2,d2⟩:=fs.mem z
  rw[g1] at q2
  cases q2
  exact d2 us g3
 have q1:h1.get? e=some ox:=(so.2.1 e nS).trans g1
 have lt:e≠h1.objs.size:=Nat.ne_of_lt (Heap.lt_size q1)
 have P_:∀b o,b≠e->h1.get? b=some o->((h1.push ob).update e (Obj.mapFields (·.setIfInBounds 1 (.ref h1.objs.size)))).get? b=some o:=fun b o n q=>(Heap.get?_update_other _ _ (Ne.symm n)).trans (Heap.get?_push_of_some _ q)
 have up:h.UpToSlots ((h1.push ob).update e (Obj.mapFields (·.setIfInBounds 1 (.ref h1.objs.size)))):=fun b o q n=>by
  obtain⟨sl,q2⟩:=so.2.2 b o q
  exact⟨sl,P_ b _ (fun z=>by rw[z,g1] at q;cases q;exact n us g3) q2⟩
 have stay:base.StaysIn h1:=fun b o q=>(so.2.1 b fun z=>by
  rw[hS] at z
  rw[(fs.mem z).1] at q
  cases q).trans (st b o q)
 have fresh:base.get? h1.objs.size=none:=by
  cases z:base.get? h1.objs.size with
  | none=>rfl
  | some o=>exact absurd (Heap.lt_size (stay _ _ z)) (Nat.lt_irrefl _)
 have d1:=Obj.data_mapFields g3 (·.setIfInBounds 1 (Value.ref h1.objs.size))
 refine⟨⟨fun b o q=>P_ b o (fun z=>by rw[z,ne] at q;cases q) (stay b o q),ne,fs.of_keeps fun b o q n=>?_,_,_,h1.objs.size,ob,ws,Heap.get?_update_self _ (Heap.get?_push_of_some _ q1) (Obj.isFreed_of_fields d1),⟨Obj.cls_mapFields _ _,?_⟩,d1,by simp[sz],fresh,Ne.symm lt,?_,d,w3⟩,up⟩
 ·obtain⟨sl,q2⟩:=up b o q n
  exact⟨_,q2,rfl⟩
 ·rw[Array.getElem?_setIfInBounds_ne (by decide)];exact g2
 ·exact(Heap.get?_update_other _ _ lt).trans (Heap.get?_push_size _ nf)
theorem yt {ox:Obj} {us:Array UL} {head:UL} {had:Bool} (hfr:A.frames=some (env::outer)) (fs:s.heap.FunFrames base (env::outer)) (hf:env.frame=some L) (g1:s.heap.get? e=some ox) (st:base.StaysIn s.heap) (ne:base.get? e=none) (g3:ox.data= .fields us) (sz:1 < us.size) (g2:us[2]? =some Value.none)
  (k:∀h',yq base (env::outer) e ox.cls a0 L h'->s.heap.UpToSlots h'->Q () { s with heap:=h' }) :
  UZ M A (do let a <-frameOf env;let pl <-entryPlaceOf L had;let b <-EntryCells.newEntry head a .none (rawInt L) .none pl;setField (.ref e) 1 b) Q E s:=by
 refine U0 (wpAny_frameOf_fun hfr fs hf fun h1 so=>U0 (wpAny_entryPlaceOf fun pl pp=>?_))
 have nS:e∉(env::outer).filterMap (·.frame):=fun z=>by
  obtain⟨_,o2,q2,d2⟩:=fs.mem z
  rw[g1] at q2
  cases q2
  exact d2 us g3
 have q1:h1.get? e=some ox:=(so.2.1 e nS).trans g1
 simp only[EntryCells.newEntry,newFields]
 refine U0 (U5 (wpAny_setField (Heap.get?_push_of_some _ q1) g3 sz ?_) (pp.sizeOk5 _ _ _ _ _))
 obtain⟨m,up⟩:=sk (a0:=a0) (nt:=rawInt L) so rfl fs g1 g3 st ne sz g2 (ob:={ cls:=.type "traceback",dict:=none,data:=.fields ([head,.ref L,.none,rawInt L,.none]++(if pl.isEmpty then List.replicate 6 Value.none else pl)).toArray }) rfl (by first | (simp;done) | (rcases pp with rfl | ⟨_,_,_,_,_,_,_,rfl⟩<;>simp)) rfl
 exact k _ m up
theorem FU (hf:env.frame=some L) (x:L5 s.heap base e cls a0 (rawInt L)) (k:Q () s):UZ M A (noteFrame (.ref e) env) Q E s:=by
 obtain⟨ox,us,T,ot,ws,g1,g2,g3,g4,g5,g6,g7,g8,g9⟩:=x
 unfold noteFrame
 simp only[hf]
 refine U0 (wpAny_field g1 g3 g4 ?_)
 rw[if_pos (by simp)]
 refine U0 (wpAny_field g7 g8 g9 ?_)
 rw[if_pos (by simp)]
 exact U6 k
theorem p8 (x:B3 base l e cls a0 nt s.heap) (k:∀h',oN base l e cls a0 h'->s.heap.UpToSlots h'->Q () { s with heap:=h' }):UZ M A (setFlight (.ref e) none) Q E s:=by
 obtain⟨x1,x2,x3,ox,us,T,ot,ws,g1,g2,g3,g4,g5,g6,g7,g8,g9⟩:=x
 have sz:3 < ws.size:=(Array.getElem?_eq_some_iff.mp g9).1
 unfold setFlight
 refine U0 (wpAny_field g1 g3 g4 ?_)
 rw[if_pos (by simp)]
 refine wpAny_setField g7 g8 sz ?_
 generalize hu:s.heap.update T _=h'
 have ap:∀b,b≠T->h'.get? b=s.heap.get? b:=fun b n=>by rw[<-hu];exact Heap.get?_update_other _ _ (Ne.symm n)
 have pl:∀b o,s.heap.get? b=some o->(∀vs,o.data≠.fields vs)->h'.get? b=some o:=fun b o q n=>(ap b fun z=>by rw[z,g7] at q;cases q;exact n ws g8).trans q
 refine k h' ⟨fun b o q=>(ap b fun z=>by rw[z,g5] at q;cases q).trans (x1 b o q),x2,x3.of_keeps fun b o q n=>⟨o,pl b o q n,rfl⟩,ox,us,T,Obj.mapFields (·.setIfInBounds 3 .none) ot,ws.setIfInBounds 3 .none,(ap e (Ne.symm g6)).trans g1,g2,g3,g4,g5,g6,?_,Obj.data_mapFields g8 _,?_⟩ fun b o q n=>⟨o.slots,pl b o q n⟩
 ·rw[<-hu];exact Heap.get?_update_self _ g7 (Obj.isFreed_of_fields (Obj.data_mapFields g8 _))
 ·simp[sz]
end
end J
namespace J
open PySem PySem.Spec PyProof.Rows L2
structure Lm where
 a:UE
 c:UE
 q:PySem.Str
 xs:List V
inductive Wv where
 | aB
 | bl (b:Bool)
 | int (i:Int)
 | str (x:PySem.Str)
 | tup (ws:List Wv)
 | lx (ws:List Wv)
 | ref (l:Nat)
 | ty (n:String)
 | cls (c:PySem.Str)
 | eR (c:PySem.Str)
 | fn (p:Lm) (ws:List Wv)
inductive Ob where
 | lst (ws:List Wv)
 | ic (ns:List Int)
 | dct (kvs:List (L2.Key×Wv))
 | bM (kvs:List (List L2.Key×Wv))
 | mG (kvs:List (List L2.Key×Wv))
abbrev Hs:=List Ob
abbrev St:=L2.St
abbrev aS:=List (Option Wv)
abbrev Mp:=List UE
def gF (a C:UE):Heap->Prop:=fun h=>∃o,h.get? a=some o/\o.cls= .ref C/\∃vs,o.data= .fields vs
def L6 (a C:UE) (u:Option HO):Prop:=∃o vs,u=some (.bV o (.ext (gF a C)))/\o.data= .fields vs/\vs[2]? =some Value.none
theorem D0 {P:UJ} {w:UM} {H:Hp} {h:Heap} {a C:UE} (ok:f' P w H h) (x:L6 a C (H a)):gF a C h:=let ⟨_,_,e,_⟩:=x;(ok a _ e).2.1
def ClsAt (K:PySem.W.Frag) (c:PySem.Str) (C:UE):Prop:=PySem.W.nsIn K UW c=some (some (.ref C))
def yu (c:UE) (q:PySem.Str):Heap->Prop:=fun h=>h.CodeRec (.ref c) q
def bH:List PySem.Str:=["form_of","formula_by","turned"]
def fN (K:PySem.W.Frag) (q:PySem.Str):Option UE:=match PySem.W.tabIn K q with
 | some (_,P)=>if(K.lookup P).isNone=true then some P else none
 | none=>none
def Nz (q:PySem.Str):PySem.Str:=(q++".<locals>.")++"<lambda>"
def oO (K:PySem.W.Frag) (H:Hp):Prop:=∀q P,q∈bH->fN K q=some P->∃ps,H P=some (.bw ps)/\TriplesOk ps.toList/\∀pos cv,codeAmong pos ps.toList=some cv->∃c,cv= .ref c/\H c=some (.ext (yu c (Nz q)))
theorem oO.keep {K:PySem.W.Frag} {H H':Hp} (t:oO K H) (h1:∀a ps,H a=some (.bw ps)->H' a=some (.bw ps)) (h2:∀a φ,H a=some (.ext φ)->H' a=some (.ext φ)):oO K H':=fun q P hq hP=>by
 obtain⟨ps,e1,e2,e3⟩:=t q P hq hP
 refine⟨ps,h1 _ _ e1,e2,fun pos cv e=>?_⟩
 obtain⟨c,f1,f2⟩:=e3 pos cv e
 exact⟨c,f1,h2 _ _ f2⟩
def NA (K:PySem.W.Frag) (a:UE) (xs:List V):Prop:=∃(o:Obj) (its:Array UL) (n:Nat),K.lookup a=some o/\o.cls= .type "tuple"/\o.data= .seq its n/\its.size<=UX/\Vals xs its.toList
mutual
def ae (K:PySem.W.Frag) (m:Mp) (H:Hp):Wv->V->Prop
 | .aB,v=>v= .aB
 | .bl b,v=>v= .bl b
 | .int i,v=>v= .int i
 | .str x,v=>v= .str x/\PyData.strOk x=true
 | .tup ws,v=>∃a xs,v= .ref a/\H a=some (.tup xs)/\ah K m H ws xs
 | .lx ws,v=>∃a xs,v= .ref a/\NA K a xs/\ah K m H ws xs
 | .ref l,v=>∃a,v= .ref a/\m[l]? =some a
 | .ty n,v=>v= .ty n
 | .cls c,v=>∃C,v= .ref C/\ClsAt K c C
 | .eR c,v=>∃a C,v= .ref a/\ClsAt K c C/\L6 a C (H a)
 | .fn p ws,v=>v= .ref p.a/\H p.c=some (.ext (yu p.c p.q))/\ah K m H ws p.xs
def ah (K:PySem.W.Frag) (m:Mp) (H:Hp):List Wv->List V->Prop
 | [],xs=>xs=[]
 | w::ws,xs=>∃x r,xs=x::r/\ae K m H w x/\ah K m H ws r
end
structure Ext (K:PySem.W.Frag) (m:Mp) (H:Hp) (m':Mp) (H':Hp):Prop where
 pre:∀(l:Nat) (a:UE),m[l]? =some a->m'[l]? =some a
 tup:∀(a:UE) (xs:List V),H a=some (.tup xs)->H' a=some (.tup xs)
 ext:∀(a:UE) (φ:Heap->Prop),H a=some (.ext φ)->H' a=some (.ext φ)
 bV:∀(a:UE) (o:Obj) (u:HO),H a=some (.bV o u)->H' a=some (.bV o u)
section
variable {K:PySem.W.Frag} {m m1 m2:Mp} {H H1 H2:Hp}
theorem Ext.refl:Ext K m H m H:=⟨fun _ _ h=>h,fun _ _ h=>h,fun _ _ h=>h,fun _ _ _ h=>h⟩
theorem Ext.trans (a:Ext K m H m1 H1) (b:Ext K m1 H1 m2 H2):Ext K m H m2 H2 :=
 ⟨fun l x h=>b.pre l x (a.pre l x h),fun x xs h=>b.tup x xs (a.tup x xs h),fun x φ h=>b.ext x φ (a.ext x φ h),fun x o u h=>b.bV x o u (a.bV x o u h)⟩
structure p9 (K:PySem.W.Frag) (m:Mp) (H:Hp) (m':Mp) (H':Hp):Prop where
 pre:∀(l:Nat) (a:UE),m[l]? =some a->m'[l]? =some a
 tup:∀(a:UE) (xs:List V),H a=some (.tup xs)->H' a=some (.tup xs)
 ext:∀(a:UE) (φ:Heap->Prop),H a=some (.ext φ)->H' a=some (.ext φ)
 fx:∀(a:UE) (o:Obj) (φ:Heap->Prop),H a=some (.bV o (.ext φ))->H' a=some (.bV o (.ext φ))
theorem Ext.z (e:Ext K m H m1 H1):p9 K m H m1 H1:=⟨e.pre,e.tup,e.ext,fun a o φ h=>e.bV a o _ h⟩
mutual
theorem ae.cX (e:p9 K m H m1 H1):∀(w:Wv) (v:V),ae K m H w v->ae K m1 H1 w v
 | .aB,v,h=>by unfold ae at h ⊢;exact h
 | .bl b,v,h=>by unfold ae at h ⊢;exact h
 | .int i,v,h=>by unfold ae at h ⊢;exact h
 | .str x,v,h=>by unfold ae at h ⊢;exact h
 | .ty n,v,h=>by unfold ae at h ⊢;exact h
 | .cls c,v,h=>by unfold ae at h ⊢;exact h
 | .eR c,v,h=>by
  unfold ae at h ⊢
  obtain⟨a,C,e1,e2,o,vs,e3,e4⟩:=h
  exact⟨a,C,e1,e2,o,vs,e.fx _ _ _ e3,e4⟩
 | .ref l,v,h=>by
  unfold ae at h ⊢
  obtain⟨a,e1,e2⟩:=h
  exact⟨a,e1,e.pre _ _ e2⟩
 | .tup ws,v,h=>by
  unfold ae at h ⊢
  obtain⟨a,xs,e1,e2,e3⟩:=h
  exact⟨a,xs,e1,e.tup _ _ e2,ah.cX e ws xs e3⟩
 | .lx ws,v,h=>by
  unfold ae at h ⊢
  obtain⟨a,xs,e1,e2,e3⟩:=h
  exact⟨a,xs,e1,e2,ah.cX e ws xs e3⟩
 | .fn p ws,v,h=>by
  unfold ae at h ⊢
  obtain⟨e1,e2,e3⟩:=h
  exact⟨e1,e.ext _ _ e2,ah.cX e ws p.xs e3⟩
theorem ah.cX (e:p9 K m H m1 H1):∀(ws:List Wv) (xs:List V),ah K m H ws xs->ah K m1 H1 ws xs
 | [],xs,h=>by unfold ah at h ⊢;exact h
 | w::ws,xs,h=>by
  unfold ah at h ⊢
  obtain⟨x,r,e1,e2,e3⟩:=h
  exact⟨x,r,e1,ae.cX e w x e2,ah.cX e ws r e3⟩
end
theorem ae.mono (e:Ext K m H m1 H1) (w:Wv) (v:V) (h:ae K m H w v):ae K m1 H1 w v:=ae.cX e.z w v h
theorem ah.mono (e:Ext K m H m1 H1) (ws:List Wv) (xs:List V) (h:ah K m H ws xs):ah K m1 H1 ws xs:=ah.cX e.z ws xs h
theorem ah.nil:ah K m H [] []:=by unfold ah;rfl
theorem ah.cons {w:Wv} {x:V} {ws:List Wv} {xs:List V} (h:ae K m H w x) (t:ah K m H ws xs):ah K m H (w::ws) (x::xs):=by unfold ah;exact⟨x,xs,rfl,h,t⟩
theorem ah.length:∀{ws:List Wv} {xs:List V},ah K m H ws xs->ws.length=xs.length
 | [],xs,h=>by unfold ah at h;subst h;rfl
 | w::ws,xs,h=>by
  unfold ah at h
  obtain⟨x,r,e1,_,e3⟩:=h
  subst e1
  simp[ah.length e3]
theorem ah.get:∀{ws:List Wv} {xs:List V} {i:Nat} {w:Wv},ah K m H ws xs->ws[i]? =some w->∃x,xs[i]? =some x/\ae K m H w x
 | [],_,i,w,_,e=>by simp at e
 | a::ws,xs,0,w,h,e=>by
  unfold ah at h
  obtain⟨x,r,e1,e2,_⟩:=h
  subst e1
  simp at e
  subst e
  exact⟨x,rfl,e2⟩
 | a::ws,xs,i+1,w,h,e=>by
  unfold ah at h
  obtain⟨x,r,e1,_,e3⟩:=h
  subst e1
  obtain⟨y,f1,f2⟩:=ah.get (i:=i) (w:=w) e3 (by simpa using e)
  exact⟨y,by simpa using f1,f2⟩
theorem ah.append:∀{ws zs:List Wv} {xs ys:List V},ah K m H ws xs->ah K m H zs ys->ah K m H (ws++zs) (xs++ys)
 | [],_,xs,_,h,g=>by unfold ah at h;subst h;exact g
 | w::ws,zs,xs,ys,h,g=>by
  unfold ah at h
  obtain⟨x,r,e1,e2,e3⟩:=h
  subst e1
  exact ah.cons e2 (ah.append e3 g)
theorem ah.set:∀{ws:List Wv} {xs:List V} (i:Nat) {w:Wv} {x:V},ah K m H ws xs->ae K m H w x->ah K m H (ws.set i w) (xs.set i x)
 | [],xs,i,w,x,h,_=>by unfold ah at h;subst h;exact ah.nil
 | a::ws,xs,0,w,x,h,g=>by
  unfold ah at h
  obtain⟨y,r,e1,e2,e3⟩:=h
  subst e1
  exact ah.cons g e3
 | a::ws,xs,i+1,w,x,h,g=>by
  unfold ah at h
  obtain⟨y,r,e1,e2,e3⟩:=h
  subst e1
  exact ah.cons e2 (ah.set i e3 g)
theorem ah.drop:∀{ws:List Wv} {xs:List V} (i:Nat),ah K m H ws xs->ah K m H (ws.drop i) (xs.drop i)
 | ws,xs,0,h=>by simpa using h
 | [],xs,i+1,h=>by unfold ah at h;subst h;simpa using ah.nil
 | a::ws,xs,i+1,h=>by
  unfold ah at h
  obtain⟨y,r,e1,e2,e3⟩:=h
  subst e1
  simpa using ah.drop i e3
theorem ah.take:∀{ws:List Wv} {xs:List V} (i:Nat),ah K m H ws xs->ah K m H (ws.take i) (xs.take i)
 | ws,xs,0,h=>by simpa using ah.nil
 | [],xs,i+1,h=>by unfold ah at h;subst h;simpa using ah.nil
 | a::ws,xs,i+1,h=>by
  unfold ah at h
  obtain⟨y,r,e1,e2,e3⟩:=h
  subst e1
  simpa using ah.cons e2 (ah.take i e3)
theorem ah.ints:∀(ns:List Int),ah K m H (ns.map Wv.int) (ns.map V.int)
 | []=>ah.nil
 | n::ns=>ah.cons (by unfold ae;rfl) (ah.ints ns)
end
def p_ (K:PySem.W.Frag) (H:Hp) (a:UE) (ns:List Int):Prop :=
 (∃o,H a=some (.bV o (.lst (ns.map V.int))))\/
  ∃(o:Obj) (its:Array UL) (n:Nat),K.lookup a=some o/\o.cls= .type "list"/\o.dict=none/\o.data= .seq its n/\its.size<=UX/\Vals (ns.map V.int) its.toList
def RelK {κ:Type} (K:PySem.W.Frag) (m:Mp) (H:Hp) (kvs:List (κ×Wv)) (xs:List (κ×V)):Prop:=kvs.map (·.1)=xs.map (·.1)/\ah K m H (kvs.map (·.2)) (xs.map (·.2))
def mM (K:PySem.W.Frag) (m:Mp) (H:Hp) (a:UE):Ob->Prop
 | .lst ws=>∃xs,H a=some (.lst xs)/\ah K m H ws xs
 | .ic ns=>p_ K H a ns
 | .dct kvs=>∃xs,H a=some (.dK xs)/\RelK K m H kvs xs
 | .bM kvs=>∃xs,H a=some (.dT xs)/\RelK K m H kvs xs
 | .mG kvs=>∃o xs,H a=some (.bV o (.dT xs))/\RelK K m H kvs xs
def Ob.mu:Ob->Bool
 | .ic _=>false
 | _=>true
def Ob.wm:Ob->Bool
 | .ic _=>false
 | .mG _=>false
 | _=>true
theorem Ob.J6 {o:Ob} (h:o.wm=true):o.mu=true:=by cases o<;>first | rfl | cases h
structure aK (K:PySem.W.Frag) (m:Mp) (st:Hs) (H:Hp):Prop where
 len:m.length=st.length
 obj:∀(l:Nat) (a:UE) (o:Ob),m[l]? =some a->st[l]? =some o->mM K m H a o
 inj:∀(l l':Nat) (a:UE) (o o':Ob),m[l]? =some a->m[l']? =some a->st[l]? =some o->st[l']? =some o'->o.mu=true->o'.mu=true->l=l'
 tab:oO K H
def af (st:Hs) (l:Nat):Option (List Wv):=match st[l]? with
 | some (.lst ws)=>some ws
 | some (.ic ns)=>some (ns.map Wv.int)
 | _=>none
section
variable {K:PySem.W.Frag} {m:Mp} {H:Hp} {st:Hs}
def Wr (u:Option HO):Prop:=u=none\/(∃ys,u=some (.lst ys))\/(∃ys,u=some (.dK ys))\/∃ys,u=some (.dT ys)
theorem Wr.ne {p a:UE} {u:HO} (hp:Wr (H p)) (e:H a=some u) (n1:∀ys,u≠.lst ys) (n2:∀ys,u≠.dK ys) (n3:∀ys,u≠.dT ys):a≠p:=fun z=>by
 subst z
 rcases hp with q | ⟨ys,q⟩ | ⟨ys,q⟩ | ⟨ys,q⟩
 ·rw[q] at e;cases e
 ·rw[q] at e;cases e;exact n1 ys rfl
 ·rw[q] at e;cases e;exact n2 ys rfl
 ·rw[q] at e;cases e;exact n3 ys rfl
theorem yv {p a:UE} {o:HO} {xs:List V} (hp:Wr (H p)) (h:H a=some (.tup xs)):upd H p o a=some (.tup xs):=by
 rw[ao (hp.ne h (by intro ys z;cases z) (by intro ys z;cases z) (by intro ys z;cases z))];exact h
theorem yw {p a:UE} {o:HO} {ns:List Int} (hp:Wr (H p)) (h:p_ K H a ns):p_ K (upd H p o) a ns:=by
 rcases h with ⟨o',h⟩ | h
 ·exact .inl ⟨o',by rw[ao (hp.ne h (by intro ys z;cases z) (by intro ys z;cases z) (by intro ys z;cases z))];exact h⟩
 ·exact .inr h
theorem Wr.of {u:Option HO} (h:u=none\/∃ys,u=some (.lst ys)):Wr u:=by
 rcases h with q | q
 ·exact .inl q
 ·exact .inr (.inl q)
theorem Ext.gw {p:UE} {o:HO} (hp:Wr (H p)):Ext K m H m (upd H p o):=⟨fun _ _ h=>h,fun _ _ h=>yv hp h,fun a φ h=>by
 rw[ao (hp.ne h (by intro ys z;cases z) (by intro ys z;cases z) (by intro ys z;cases z))]
 exact h,fun a o u h=>by
 rw[ao (hp.ne h (by intro ys z;cases z) (by intro ys z;cases z) (by intro ys z;cases z))]
 exact h⟩
theorem Ext.upd {p:UE} {o:HO} (hp:H p=none\/∃ys,H p=some (.lst ys)):Ext K m H m (upd H p o):=Ext.gw (Wr.of hp)
theorem RelK.mono {κ:Type} {m1:Mp} {H1:Hp} {kvs:List (κ×Wv)} {xs:List (κ×V)} (e:Ext K m H m1 H1) (h:RelK K m H kvs xs):RelK K m1 H1 kvs xs:=⟨h.1,ah.mono e _ _ h.2⟩
theorem mM.keep {m1:Mp} {b p:UE} {u:HO} {o:Ob} (ex:Ext K m H m1 (L2.upd H p u)) (hp:Wr (H p)) (hb:o.mu=true->b≠p) (h:mM K m H b o):mM K m1 (L2.upd H p u) b o:=by
 cases o with
 | lst ws=>
  obtain⟨xs,e1,e2⟩:=h
  exact⟨xs,by rw[ao (hb rfl)];exact e1,ah.mono ex _ _ e2⟩
 | dct kvs=>
  obtain⟨xs,e1,e2⟩:=h
  exact⟨xs,by rw[ao (hb rfl)];exact e1,e2.mono ex⟩
 | bM kvs=>
  obtain⟨xs,e1,e2⟩:=h
  exact⟨xs,by rw[ao (hb rfl)];exact e1,e2.mono ex⟩
 | mG kvs=>
  obtain⟨o,xs,e1,e2⟩:=h
  exact⟨o,xs,by rw[ao (hb rfl)];exact e1,e2.mono ex⟩
 | ic ns=>exact yw hp h
theorem mM.at {b:UE} {o:Ob} (h:mM K m H b o) (hm:o.mu=true):∃u,H b=some u:=by
 cases o with
 | lst ws=>obtain⟨xs,e1,e2⟩:=h;exact⟨_,e1⟩
 | dct kvs=>obtain⟨xs,e1,e2⟩:=h;exact⟨_,e1⟩
 | bM kvs=>obtain⟨xs,e1,e2⟩:=h;exact⟨_,e1⟩
 | mG kvs=>obtain⟨o,xs,e1,e2⟩:=h;exact⟨_,e1⟩
 | ic ns=>simp[Ob.mu] at hm
theorem mM.wr {b:UE} {o:Ob} (h:mM K m H b o) (hm:o.wm=true):Wr (H b):=by
 cases o with
 | lst ws=>obtain⟨xs,e1,e2⟩:=h;exact .inr (.inl ⟨_,e1⟩)
 | dct kvs=>obtain⟨xs,e1,e2⟩:=h;exact .inr (.inr (.inl ⟨_,e1⟩))
 | bM kvs=>obtain⟨xs,e1,e2⟩:=h;exact .inr (.inr (.inr ⟨_,e1⟩))
 | mG kvs=>cases hm
 | ic ns=>cases hm
theorem oO.gw {p:UE} {o:HO} (t:oO K H) (hp:Wr (H p)):oO K (L2.upd H p o):=t.keep
 (fun a ps h=>by rw[ao (hp.ne h (by intro ys z;cases z) (by intro ys z;cases z) (by intro ys z;cases z))];exact h)
 fun a φ h=>by rw[ao (hp.ne h (by intro ys z;cases z) (by intro ys z;cases z) (by intro ys z;cases z))];exact h
theorem Ext.more {p:UE}:Ext K m H (m++[p]) H:=⟨fun l a h=>by
 rw[List.getElem?_append_left]
 ·exact h
 ·exact(List.getElem?_eq_some_iff.mp h).1,fun _ _ h=>h,fun _ _ h=>h,fun _ _ _ h=>h⟩
theorem aK.fresh {p:UE} {o:HO} (S:aK K m st H) (hp:H p=none):aK K m st (upd H p o) :=
 ⟨S.len,fun l a ob h1 h2=>by
  have q:=S.obj l a ob h1 h2
  refine q.keep (Ext.gw (.inl hp)) (.inl hp) fun hm=>?_
  obtain⟨u,e⟩:=q.at hm
  exact bf e hp,S.inj,S.tab.gw (.inl hp)⟩
theorem aK.lB {l:Nat} {a:UE} {ws:List Wv} (S:aK K m st H) (h1:m[l]? =some a) (h2:st[l]? =some (.lst ws)):∃xs,H a=some (.lst xs)/\ah K m H ws xs:=S.obj l a _ h1 h2
theorem aK.read {l:Nat} {a:UE} {ws:List Wv} (S:aK K m st H) (h1:m[l]? =some a) (h2:af st l=some ws):∃xs,gq K H a xs/\ah K m H ws xs:=by
 unfold af at h2
 cases e:st[l]? with
 | none=>rw[e] at h2;cases h2
 | some o=>
  rw[e] at h2
  cases o with
  | lst zs=>
   cases h2
   obtain⟨xs,e1,e2⟩:=S.lB h1 e
   exact⟨xs,gq.of e1,e2⟩
  | dct kvs=>cases h2
  | bM kvs=>cases h2
  | mG kvs=>cases h2
  | ic ns=>
   cases h2
   have q:p_ K H a ns:=S.obj l a _ h1 e
   refine⟨ns.map V.int,?_,ah.ints ns⟩
   rcases q with ⟨o,q⟩ | q
   ·exact .inl (.inr ⟨o,q⟩)
   ·exact .inr q
theorem aK.sr {p:UE} {ob:Ob} {u:HO} (S:aK K m st H) (hp:H p=none) (r:mM K (m++[p]) (L2.upd H p u) p ob):aK K (m++[p]) (st++[ob]) (L2.upd H p u):=by
 have ex:Ext K m H (m++[p]) (L2.upd H p u):=Ext.more.trans (Ext.gw (.inl hp))
 have yx:∀(l:Nat) (o:Ob),m[l]? =some p->st[l]? =some o->o.mu=true->False:=fun l o h1 h2 hm=>by
  obtain⟨v,e⟩:=(S.obj l p o h1 h2).at hm
  rw[hp] at e;cases e
 have old:∀(l:Nat) (a:UE),(m++[p])[l]? =some a->(l < m.length/\m[l]? =some a)\/(l=m.length/\a=p):=fun l a h=>by
  by_cases hl:l < m.length
  ·exact .inl ⟨hl,by rw[List.getElem?_append_left hl] at h;exact h⟩
  ·have h':=h
   rw[List.getElem?_append_right (by omega)] at h'
   have z:=List.getElem?_eq_some_iff.mp h'
   have z1:l - m.length < 1:=by simpa using z.1
   refine .inr ⟨by omega,?_⟩
   have e0:l - m.length=0:=by omega
   rw[e0] at h'
   simpa using h'.symm
 have olds:∀(l:Nat) (o:Ob),l < m.length->(st++[ob])[l]? =some o->st[l]? =some o:=fun l o hl h=>by
  rw[List.getElem?_append_left (by rw[<-S.len];exact hl)] at h
  exact h
 refine⟨by simp[S.len],fun l a o h1 h2=>?_,fun l l' a zs zs' h1 D3 h2 h2' k k'=>?_,S.tab.gw (.inl hp)⟩
 ·rcases old l a h1 with ⟨hl,h1⟩ | ⟨hl,rfl⟩
  ·have q:=S.obj l a o h1 (olds l o hl h2)
   refine q.keep ex (.inl hp) fun hm=>?_
   obtain⟨v,e⟩:=q.at hm
   exact bf e hp
  ·have e:o=ob:=by
    rw[hl,S.len,List.getElem?_append_right (Nat.le_refl _),Nat.sub_self] at h2
    simpa using h2.symm
   subst e
   exact r
 ·rcases old l a h1 with ⟨hl,g1⟩ | ⟨hl,ea⟩
  ·rcases old l' a D3 with ⟨hl',D4⟩ | ⟨hl',ea'⟩
   ·exact S.inj l l' a zs zs' g1 D4 (olds l _ hl h2) (olds l' _ hl' h2') k k'
   ·rw[ea'] at g1
    exact(yx l zs g1 (olds l _ hl h2) k).elim
  ·rcases old l' a D3 with ⟨hl',D4⟩ | ⟨hl',_⟩
   ·rw[ea] at D4
    exact(yx l' zs' D4 (olds l' _ hl' h2') k').elim
   ·omega
theorem aK.alloc {p:UE} {ws:List Wv} {xs:List V} (S:aK K m st H) (hp:H p=none) (r:ah K m H ws xs):aK K (m++[p]) (st++[.lst ws]) (upd H p (.lst xs)) :=
 S.sr hp ⟨xs,ay,ah.mono (Ext.more.trans (Ext.gw (.inl hp))) _ _ r⟩
theorem aK.jx {l:Nat} {a:UE} {o0 ob:Ob} {u:HO} (S:aK K m st H) (h1:m[l]? =some a) (h2:st[l]? =some o0) (hw:o0.wm=true) (r:mM K m (L2.upd H a u) a ob):aK K m (st.set l ob) (L2.upd H a u):=by
 have wr:Wr (H a):=(S.obj l a o0 h1 h2).wr hw
 have hm:=Ob.J6 hw
 have ex:Ext K m H m (L2.upd H a u):=Ext.gw wr
 have hl:l < st.length:=(List.getElem?_eq_some_iff.mp h2).1
 have at':∀(k:Nat) (o:Ob),(st.set l ob)[k]? =some o->(k=l/\o=ob)\/(k≠l/\st[k]? =some o):=fun k o h=>by
  by_cases e:l=k
  ·subst e
   rw[List.getElem?_set_self hl] at h
   exact .inl ⟨rfl,(Option.some.inj h).symm⟩
  ·rw[List.getElem?_set_ne e] at h
   exact .inr ⟨fun z=>e z.symm,h⟩
 refine⟨by simp[S.len],fun k b o g1 g2=>?_,fun k k' b us us' g1 D4 g2 NB q q'=>?_,S.tab.gw wr⟩
 ·rcases at' k o g2 with ⟨rfl,rfl⟩ | ⟨hk,g2⟩
  ·rw[h1] at g1;cases g1
   exact r
  ·have q:=S.obj k b o g1 g2
   refine q.keep ex wr fun ho z=>?_
   subst z
   exact hk (S.inj k l b o o0 g1 h1 g2 h2 ho hm)
 ·have back:∀(k:Nat) (o:Ob),(st.set l ob)[k]? =some o->o.mu=true->∃o',st[k]? =some o'/\o'.mu=true:=fun k o h ho=>by
   rcases at' k _ h with ⟨rfl,_⟩ | ⟨_,h⟩
   ·exact⟨o0,h2,hm⟩
   ·exact⟨o,h,ho⟩
  obtain⟨u1,e1,f1⟩:=back k us g2 q
  obtain⟨u2,e2,f2⟩:=back k' us' NB q'
  exact S.inj k k' b u1 u2 g1 D4 e1 e2 f1 f2
theorem aK.write {l:Nat} {a:UE} {ws zs:List Wv} {xs:List V} (S:aK K m st H) (h1:m[l]? =some a) (h2:st[l]? =some (.lst ws)) (r:ah K m H zs xs):aK K m (st.set l (.lst zs)) (upd H a (.lst xs)) :=
 S.jx h1 h2 rfl ⟨xs,ay,ah.mono (Ext.gw ((S.obj l a _ h1 h2).wr rfl)) _ _ r⟩
end
structure aq (K:PySem.W.Frag) (m:Mp) (H:Hp) (ρ:aS) (σ:St):Prop where
 len:ρ.length=σ.length
 get:∀(i:Nat) (w:Wv),ρ[i]? =some (some w)->∃v,σ[i]? =some (some v)/\ae K m H w v
section
variable {K:PySem.W.Frag} {m m1:Mp} {H H1:Hp} {ρ:aS} {σ:St}
theorem aq.mono (R:aq K m H ρ σ) (e:Ext K m H m1 H1):aq K m1 H1 ρ σ:=⟨R.len,fun i w h=>let ⟨v,h1,h2⟩:=R.get i w h;⟨v,h1,ae.mono e _ _ h2⟩⟩
theorem aq.set (R:aq K m H ρ σ) (i:Nat) {w:Wv} {v:V} (h:ae K m H w v):aq K m H (ρ.set i (some w)) (σ.set i (some v)):=by
 refine⟨by simp[R.len],fun j u e=>?_⟩
 by_cases hj:i=j
 ·subst hj
  have hi:i < ρ.length:=by
   have:=(List.getElem?_eq_some_iff.mp e).1
   simpa using this
  rw[List.getElem?_set_self hi] at e
  have e':w=u:=Option.some.inj (Option.some.inj e)
  subst e'
  exact⟨v,by rw[List.getElem?_set_self (by rw[<-R.len];exact hi)],h⟩
 ·rw[List.getElem?_set_ne hj] at e
  obtain⟨x,h1,h2⟩:=R.get j u e
  exact⟨x,by rw[List.getElem?_set_ne hj];exact h1,h2⟩
end
inductive Re (α:Type) where
 | ok (a:α) (st:Hs)
 | err (c:PySem.Str) (st:Hs)
 | bad
def Re.bind {α β:Type} (r:Re α) (f:α->Hs->Re β):Re β:=match r with
 | .ok a st=>f a st
 | .err c st=> .err c st
 | .bad=> .bad
inductive Rs where
 | nx (ρ:aS) (st:Hs)
 | rt (w:Wv) (st:Hs)
 | bk (ρ:aS) (st:Hs)
 | ct (ρ:aS) (st:Hs)
 | err (c:PySem.Str) (ρ:aS) (st:Hs)
 | bad
def Re.aM {α:Type} (ρ:aS) (r:Re α) (f:α->Hs->Rs):Rs:=match r with
 | .ok a st=>f a st
 | .err c st=> .err c ρ st
 | .bad=> .bad
def Re.iM {α:Type} (r:Re α):Re α:=match r with
 | .ok a st=> .ok a st
 | _=> .bad
abbrev GE:=aS->Hs->Re Wv
abbrev GT:=aS->Hs->Re Bool
abbrev GA:=aS->Hs->Re (List Wv)
abbrev GS:=aS->Hs->Rs
def qa (P:UJ) (w:UM) (outer:List Env) (H:Hp) (s:UK) (H':Hp) (cls:UL) (e:UL) (s':UK):Prop :=
 ∃(a:UE) (a0:UL) (B:Heap),e= .ref a/\s'.os=s.os/\AllBare s'.gens/\Un (frs outer) [] H H' s.heap s'.heap/\f' P w H' B/\oN B outer a cls a0 s'.heap/\
  (∀b o,s.heap.get? b=some o->b∉frs outer->∃o',B.get? b=some o'/\(H b=none->o'=o))
def gG (X:Cx) (pins:List (UE×Obj)) (H:Hp) (s:UK) (H':Hp) (cls:UL) (e:UL) (s':UK):Prop :=
 ∃(a:UE) (a0 nt:UL) (B:Heap) (ch:List UE),e= .ref a/\s'.os=s.os/\AllBare s'.gens/\(∀b∈ch,dG X pins H b)/\Un (frs X.stack) ch H H' s.heap s'.heap/\f' X.prog X.w H' B/\
  (B.StaysIn s'.heap/\B.get? a=none/\s'.heap.FunFrames B X.stack/\L5 s'.heap B a cls a0 nt)/\
  (∀b o,s.heap.get? b=some o->b∉frs X.stack->b∉ch->∃o',B.get? b=some o'/\(H b=none->o'=o))
theorem qa.any {X:Cx} {pins:List (UE×Obj)} {H H':Hp} {s s':UK} {cls e:UL} (f:qa X.prog X.w X.stack H s H' cls e s'):gG X pins H s H' cls e s' :=
 let ⟨a,a0,B,e1,e2,e3,un,hok,fl,qb⟩:=f
 ⟨a,a0,.none,B,[],e1,e2,e3,(fun b z=>by cases z),un,hok,fl,fun b o q hb _=>qb b o q hb⟩
def oP (X:Cx) (σ:St) (H':Hp) (c:PySem.Str) (e:UL) (s':UK):Prop :=
 ∃(C:UE) (pins:List (UE×Obj)) (Hc:Hp) (sc:UK),ClsAt X.K c C/\Inv X pins σ Hc sc/\
  (gG X pins Hc sc H' (.ref C) e s'\/(H'=Hc/\∃a args,e= .ref a/\s'.os=sc.os/\s'.gens=sc.gens/\Heap.MadeExcOf sc.heap s'.heap a (.ref C) args))
def I0 (X:Cx) (σ:St) (m:Mp) (H:Hp) (c:PySem.Str) (st:Hs):Prop :=
 ∀(m':Mp) (H':Hp) (e:UL) (s':UK),Ext X.K m H m' H'->aK X.K m' st H'->oP X σ H' c e s'->X.xe e s'
theorem I0.mono {X:Cx} {σ:St} {m m1:Mp} {H H1:Hp} {c:PySem.Str} {st:Hs} (h:I0 X σ m H c st) (e:Ext X.K m H m1 H1):I0 X σ m1 H1 c st :=
 fun m' H' x s' e' S r=>h m' H' x s' (e.trans e') S r
def ar {α:Type} (X:Cx) (σ:St) (m:Mp) (H:Hp) (r:Re α) (ok:α->Hs->Prop):Prop:=match r with
 | .ok a st=>ok a st
 | .err c st=>I0 X σ m H c st
 | .bad=>False
def lC {α:Type} (r:Re α) (ok:α->Hs->Prop):Prop:=match r with
 | .ok a st=>ok a st
 | _=>False
theorem ar.iM {α:Type} {X:Cx} {σ:St} {m:Mp} {H:Hp} {r:Re α} {ok:α->Hs->Prop} (h:ar X σ m H r.iM ok):lC r ok:=by
 cases r with
 | ok a st=>exact h
 | err c st=>exact h
 | bad=>exact h
theorem ar.bind {α β:Type} {X:Cx} {σ:St} {m:Mp} {H:Hp} {r:Re α} {f:α->Hs->Re β} {ok:β->Hs->Prop} (h:ar X σ m H (r.bind f) ok):ar X σ m H r (fun a st=>ar X σ m H (f a st) ok):=by
 cases r with
 | ok a st=>exact h
 | err c st=>exact h
 | bad=>exact h
theorem ar.imp {α:Type} {X:Cx} {σ:St} {m m1:Mp} {H H1:Hp} {r:Re α} {ok ok':α->Hs->Prop} (h:ar X σ m H r ok) (e:Ext X.K m H m1 H1) (k:∀a st,ok a st->ok' a st):ar X σ m1 H1 r ok':=by
 cases r with
 | ok a st=>exact k a st h
 | err c st=>exact I0.mono (c:=c) (st:=st) h e
 | bad=>exact h
theorem lC.imp {α:Type} {r:Re α} {ok ok':α->Hs->Prop} (h:lC r ok) (k:∀a st,ok a st->ok' a st):lC r ok':=by
 cases r with
 | ok a st=>exact k a st h
 | err c st=>exact h
 | bad=>exact h
def I_ (K:PySem.W.Frag) (m:Mp) (H:Hp) (Q:VK) (w:Wv) (st:Hs):Prop:=∀(v:V) (m':Mp) (H':Hp),Ext K m H m' H'->aK K m' st H'->ae K m' H' w v->Q v H'
def Rt (K:PySem.W.Frag) (m:Mp) (H:Hp) (Q:Bool->Hp->Prop) (b:Bool) (st:Hs):Prop:=∀(m':Mp) (H':Hp),Ext K m H m' H'->aK K m' st H'->Q b H'
def Ru (K:PySem.W.Frag) (m:Mp) (H:Hp) (Q:List V->Hp->Prop) (ws:List Wv) (st:Hs):Prop:=∀(vs:List V) (m':Mp) (H':Hp),Ext K m H m' H'->aK K m' st H'->ah K m' H' ws vs->Q vs H'
abbrev cD (X:Cx) (σ:St) (m:Mp) (H:Hp) (r:Re Wv) (Q:VK):Prop:=ar X σ m H r (I_ X.K m H Q)
abbrev fG (X:Cx) (σ:St) (m:Mp) (H:Hp) (r:Re Bool) (Q:Bool->Hp->Prop):Prop:=ar X σ m H r (Rt X.K m H Q)
abbrev D5 (X:Cx) (σ:St) (m:Mp) (H:Hp) (r:Re (List Wv)) (Q:List V->Hp->Prop):Prop:=ar X σ m H r (Ru X.K m H Q)
theorem cD.shift {X:Cx} {σ:St} {m m1:Mp} {H H1:Hp} {r:Re Wv} {Q:VK} (h:cD X σ m H r Q) (e:Ext X.K m H m1 H1):cD X σ m1 H1 r Q:=h.imp e fun _ _ k v m' H' e'=>k v m' H' (e.trans e')
theorem fG.shift {X:Cx} {σ:St} {m m1:Mp} {H H1:Hp} {r:Re Bool} {Q:Bool->Hp->Prop} (h:fG X σ m H r Q) (e:Ext X.K m H m1 H1):fG X σ m1 H1 r Q:=h.imp e fun _ _ k m' H' e'=>k m' H' (e.trans e')
abbrev bC (K:PySem.W.Frag) (m:Mp) (H:Hp) (r:Re Wv) (Q:VK):Prop:=lC r (I_ K m H Q)
theorem bC.shift {K:PySem.W.Frag} {m m1:Mp} {H H1:Hp} {r:Re Wv} {Q:VK} (h:bC K m H r Q) (e:Ext K m H m1 H1):bC K m1 H1 r Q:=lC.imp h fun _ _ k v m' H' e'=>k v m' H' (e.trans e')
def av (X:Cx) (m:Mp) (H:Hp) (r:Rs) (D:Ends):Prop:=match r with
 | .nx ρ st=>∀(σ:St) (m':Mp) (H':Hp),Ext X.K m H m' H'->aK X.K m' st H'->aq X.K m' H' ρ σ->D.nx σ H'
 | .rt w st=>∀(v:V) (m':Mp) (H':Hp),Ext X.K m H m' H'->aK X.K m' st H'->ae X.K m' H' w v->D.rt v H'
 | .bk ρ st=>∀(σ:St) (m':Mp) (H':Hp),Ext X.K m H m' H'->aK X.K m' st H'->aq X.K m' H' ρ σ->D.bk σ H'
 | .ct ρ st=>∀(σ:St) (m':Mp) (H':Hp),Ext X.K m H m' H'->aK X.K m' st H'->aq X.K m' H' ρ σ->D.ct σ H'
 | .err c ρ st=>∀(σ:St) (m':Mp) (H':Hp) (e:UL) (s':UK),Ext X.K m H m' H'->aK X.K m' st H'->aq X.K m' H' ρ σ->oP X σ H' c e s'->X.xe e s'
 | .bad=>False
theorem av.shift {X:Cx} {m m1:Mp} {H H1:Hp} {r:Rs} {D:Ends} (h:av X m H r D) (e:Ext X.K m H m1 H1):av X m1 H1 r D:=by
 cases r with
 | nx ρ st=>exact fun σ m' H' e'=>h σ m' H' (e.trans e')
 | rt w st=>exact fun v m' H' e'=>h v m' H' (e.trans e')
 | bk ρ st=>exact fun σ m' H' e'=>h σ m' H' (e.trans e')
 | ct ρ st=>exact fun σ m' H' e'=>h σ m' H' (e.trans e')
 | err c ρ st=>exact fun σ m' H' x s' e'=>h σ m' H' x s' (e.trans e')
 | bad=>exact h
theorem av.bo {α:Type} {X:Cx} {m:Mp} {H:Hp} {ρ:aS} {σ:St} {r:Re α} {f:α->Hs->Rs} {D:Ends} (R:aq X.K m H ρ σ) (h:av X m H (r.aM ρ f) D):ar X σ m H r (fun a st=>av X m H (f a st) D):=by
 cases r with
 | ok a st=>exact h
 | err c st=>exact fun m' H' x s' e' S r=>h σ m' H' x s' e' S (R.mono e') r
 | bad=>exact h
def SE (X:Cx) (e:Expr):TE:=fun σ H Q=>∀(pins:List (UE×Obj)) (s:UK),Inv X pins σ H s->UZ (model X.prog X.w) X.A (eval e X.env) (EP X pins σ Q) X.xe s
def ST (X:Cx) (e:Expr):TT:=fun σ H Q=>∀(pins:List (UE×Obj)) (s:UK),Inv X pins σ H s->UZ (model X.prog X.w) X.A (isTrue e X.env (eval e X.env)) (TP X pins σ Q) X.xe s
def SA (X:Cx) (es:List Expr):TA:=fun σ H Q=>∀(pos:Pos) (pins:List (UE×Obj)) (s:UK),Inv X pins σ H s->UZ (model X.prog X.w) X.A (spliced (backTo pos (UY es X.env))) (AP X pins σ Q) X.xe s
def SS (X:Cx) (st:Stmt):TS:=fun D σ H=>∀(pins:List (UE×Obj)) (s:UK),Inv X pins σ H s->UZ (model X.prog X.w) X.A (exec st X.env) (SP X pins D) X.xe s
def J7 (X:Cx) (st:List Stmt):TS:=fun D σ H=>∀(pins:List (UE×Obj)) (s:UK),Inv X pins σ H s->UZ (model X.prog X.w) X.A (execs st X.env) (SP X pins D) X.xe s
section
variable {X:Cx}
theorem az {e:Expr}:PE X e (SE X e):=fun pins s _ _ _ I h=>h pins s I
theorem jU {e:Expr}:PT X e (ST X e):=fun pins s _ _ _ I h=>h pins s I
theorem il {es:List Expr}:PA X es (SA X es):=fun pos pins s _ _ _ I h=>h pos pins s I
theorem D6 {st:Stmt}:PS X st (SS X st):=fun pins s _ _ _ I h=>h pins s I
theorem cj {st:List Stmt}:xy X st (J7 X st):=fun pins s _ _ _ I h=>h pins s I
end
def JE (X:Cx) (e:Expr) (g:GE):Prop:=∀(ρ:aS) (st:Hs) (σ:St) (H:Hp) (m:Mp) (Q:VK),aK X.K m st H->aq X.K m H ρ σ->cD X σ m H (g ρ st) Q->SE X e σ H Q
def JT (X:Cx) (e:Expr) (g:GT):Prop:=∀(ρ:aS) (st:Hs) (σ:St) (H:Hp) (m:Mp) (Q:Bool->Hp->Prop),aK X.K m st H->aq X.K m H ρ σ->fG X σ m H (g ρ st) Q->ST X e σ H Q
def JA (X:Cx) (es:List Expr) (g:GA):Prop:=∀(ρ:aS) (st:Hs) (σ:St) (H:Hp) (m:Mp) (Q:List V->Hp->Prop),aK X.K m st H->aq X.K m H ρ σ->D5 X σ m H (g ρ st) Q->SA X es σ H Q
def JS (X:Cx) (s:Stmt) (g:GS):Prop:=∀(ρ:aS) (st:Hs) (σ:St) (H:Hp) (m:Mp) (D:Ends),aK X.K m st H->aq X.K m H ρ σ->av X m H (g ρ st) D->SS X s D σ H
def ip (X:Cx) (s:List Stmt) (g:GS):Prop:=∀(ρ:aS) (st:Hs) (σ:St) (H:Hp) (m:Mp) (D:Ends),aK X.K m st H->aq X.K m H ρ σ->av X m H (g ρ st) D->J7 X s D σ H
section
variable {X:Cx}
theorem JE.of {e:Expr} {g:GE} {t:TE} (h:PE X e t) (k:∀(ρ:aS) (st:Hs) (σ:St) (H:Hp) (m:Mp) (Q:VK),aK X.K m st H->aq X.K m H ρ σ->cD X σ m H (g ρ st) Q->t σ H Q):JE X e g :=
 fun ρ st σ H m Q S R p pins s I=>h pins s σ H Q I (k ρ st σ H m Q S R p)
theorem JT.of {e:Expr} {g:GT} {t:TT} (h:PT X e t) (k:∀(ρ:aS) (st:Hs) (σ:St) (H:Hp) (m:Mp) (Q:Bool->Hp->Prop),aK X.K m st H->aq X.K m H ρ σ->fG X σ m H (g ρ st) Q->t σ H Q):JT X e g :=
 fun ρ st σ H m Q S R p pins s I=>h pins s σ H Q I (k ρ st σ H m Q S R p)
theorem JA.of {es:List Expr} {g:GA} {t:TA} (h:PA X es t) (k:∀(ρ:aS) (st:Hs) (σ:St) (H:Hp) (m:Mp) (Q:List V->Hp->Prop),aK X.K m st H->aq X.K m H ρ σ->D5 X σ m H (g ρ st) Q->t σ H Q):JA X es g :=
 fun ρ st σ H m Q S R p pos pins s I=>h pos pins s σ H Q I (k ρ st σ H m Q S R p)
theorem JS.of {e:Stmt} {g:GS} {t:TS} (h:PS X e t) (k:∀(ρ:aS) (st:Hs) (σ:St) (H:Hp) (m:Mp) (D:Ends),aK X.K m st H->aq X.K m H ρ σ->av X m H (g ρ st) D->t D σ H):JS X e g :=
 fun ρ st σ H m D S R p pins s I=>h pins s σ H D I (k ρ st σ H m D S R p)
theorem ip.of {e:List Stmt} {g:GS} {t:TS} (h:xy X e t) (k:∀(ρ:aS) (st:Hs) (σ:St) (H:Hp) (m:Mp) (D:Ends),aK X.K m st H->aq X.K m H ρ σ->av X m H (g ρ st) D->t D σ H):ip X e g :=
 fun ρ st σ H m D S R p pins s I=>h pins s σ H D I (k ρ st σ H m D S R p)
theorem JE.go {e:Expr} {g:GE} {ρ:aS} {st:Hs} {σ:St} {H:Hp} {m:Mp} {T:VK} {ok:Wv->Hs->Prop} (h:JE X e g) (S:aK X.K m st H) (R:aq X.K m H ρ σ) (p:ar X σ m H (g ρ st) ok)
  (k:∀(w:Wv) (st1:Hs) (v:V) (m1:Mp) (H1:Hp),ok w st1->Ext X.K m H m1 H1->aK X.K m1 st1 H1->ae X.K m1 H1 w v->T v H1):SE X e σ H T :=
 h ρ st σ H m T S R (p.imp Ext.refl fun w st1 q v m1 H1 e1 s1 r1=>k w st1 v m1 H1 q e1 s1 r1)
theorem JT.go {e:Expr} {g:GT} {ρ:aS} {st:Hs} {σ:St} {H:Hp} {m:Mp} {T:Bool->Hp->Prop} {ok:Bool->Hs->Prop} (h:JT X e g) (S:aK X.K m st H) (R:aq X.K m H ρ σ) (p:ar X σ m H (g ρ st) ok)
  (k:∀(b:Bool) (st1:Hs) (m1:Mp) (H1:Hp),ok b st1->Ext X.K m H m1 H1->aK X.K m1 st1 H1->T b H1):ST X e σ H T :=
 h ρ st σ H m T S R (p.imp Ext.refl fun b st1 q m1 H1 e1 s1=>k b st1 m1 H1 q e1 s1)
theorem JA.go {es:List Expr} {g:GA} {ρ:aS} {st:Hs} {σ:St} {H:Hp} {m:Mp} {T:List V->Hp->Prop} {ok:List Wv->Hs->Prop} (h:JA X es g) (S:aK X.K m st H) (R:aq X.K m H ρ σ) (p:ar X σ m H (g ρ st) ok)
  (k:∀(ws:List Wv) (st1:Hs) (vs:List V) (m1:Mp) (H1:Hp),ok ws st1->Ext X.K m H m1 H1->aK X.K m1 st1 H1->ah X.K m1 H1 ws vs->T vs H1):SA X es σ H T :=
 h ρ st σ H m T S R (p.imp Ext.refl fun w st1 q v m1 H1 e1 s1 r1=>k w st1 v m1 H1 q e1 s1 r1)
end
end J
namespace J
open PySem PySem.Spec PyProof.Rows L2
def lim:Nat:=1000000
theorem cx {n:Nat} (h:n<=lim):n<=UX:=Nat.le_trans h (by unfold lim;rw[sizeLine_eq];decide)
theorem sv {n:Nat} (h:n < lim):n < UX:=Nat.lt_of_lt_of_le h (by unfold lim;rw[sizeLine_eq];decide)
def ag (i:Nat):GE:=fun ρ st=>match ρ[i]? with
 | some (some w)=> .ok w st
 | _=> .bad
def gC (w:Wv):GE:=fun _ st=> .ok w st
section
variable {X:Cx}
theorem sx (i:Nat) {x:Str} {pos:Pos} (hN:X.N[i]? =some x:=by rfl) (hv:MT X.env.scope x:=by first | exact Or.inl rfl | exact Or.inr (Or.inl rfl) | exact Or.inr (Or.inr rfl)) (hd:(x == ("__debug__":Str))=false:=by decide)
  (hcd:(x == ("__classdict__":Str))=false:=by decide):JE X (.Name x pos) (ag i):=JE.of (E3 hN hv hd hcd) fun ρ st σ H m Q S R p=>by
 unfold ag at p
 cases e:ρ[i]? with
 | none=>rw[e] at p;exact False.elim p
 | some o=>
  cases o with
  | none=>rw[e] at p;exact False.elim p
  | some w=>
   rw[e] at p
   obtain⟨v,h1,h2⟩:=R.get i w e
   exact⟨v,h1,p v m H Ext.refl S h2⟩
theorem FV {i:Int} {j pos}:JE X (.Constant (.int i) j pos) (gC (.int i)):=JE.of E4 fun ρ st σ H m Q S R p=>p (.int i) m H Ext.refl S (by unfold ae;rfl)
theorem J8 {b:Bool} {j pos}:JE X (.Constant (.bool b) j pos) (gC (.bl b)):=JE.of Jm fun ρ st σ H m Q S R p=>p (.bl b) m H Ext.refl S (by unfold ae;rfl)
theorem FW {j pos}:JE X (.Constant .none j pos) (gC .aB):=JE.of xG fun ρ st σ H m Q S R p=>p .aB m H Ext.refl S (by unfold ae;rfl)
theorem FX {x:PySem.Str} {j pos} (hx:PyData.strOk x=true:=by decide+kernel):JE X (.Constant (.str x) j pos) (gC (.str x)):=JE.of E5 fun ρ st σ H m Q S R p=>p (.str x) m H Ext.refl S (by unfold ae;exact⟨rfl,hx⟩)
theorem yy {x:Str} {i:Int} {t:Tok} {pos:Pos} (hg:Gl X x) (hm:X.mg x=some (.int i t)) (hd:(x == ("__debug__":Str))=false:=by decide):JE X (.Name x pos) (gC (.int i)) :=
 JE.of (eT (v:=.int i) hg hm ⟨t,rfl⟩ hd) fun ρ st σ H m Q S R p=>p (.int i) m H Ext.refl S (by unfold ae;rfl)
theorem yz {x y:Str} {t:Tok} {pos:Pos} (hg:Gl X x) (hm:X.mg x=some (.str y t)) (hy:PyData.strOk y=true:=by decide+kernel) (hd:(x == ("__debug__":Str))=false:=by decide):JE X (.Name x pos) (gC (.str y)) :=
 JE.of (eT (v:=.str y) hg hm ⟨t,rfl⟩ hd) fun ρ st σ H m Q S R p=>p (.str y) m H Ext.refl S (by unfold ae;exact⟨rfl,hy⟩)
theorem J9 {x:Str} {T:String} {pos:Pos} (hg:Gl X x) (hm:X.mg x=none) (hv:UP x=some (.type T)) (hn:x≠"__name__":=by decide) (hd:(x == ("__debug__":Str))=false:=by decide):JE X (.Name x pos) (gC (.ty T)) :=
 JE.of (Bv (v:=.ty T) hg hm hv rfl hn hd) fun ρ st σ H m Q S R p=>p (.ty T) m H Ext.refl S (by unfold ae;rfl)
abbrev dD:=Wv->Wv->Hs->Re Wv
def aj (op:dD) (ga gb:GE):GE:=fun ρ st=>(ga ρ st).bind fun x st1=>(gb ρ st1).bind fun y st2=>(op x y st2).iM
def uw (X:Cx) (op:dD) (r:R2):Prop:=∀(x y:Wv) (a b:V) (st:Hs) (H:Hp) (m:Mp) (Q:VK),aK X.K m st H->ae X.K m H x a->ae X.K m H y b->bC X.K m H (op x y st) Q->r a b H Q
def gz (X:Cx) (f:UL->UL->Sem UL) (op:dD):Prop:=∃r,cW X f r/\uw X op r
theorem ux {a b:Expr} {ga gb:GE} {op:dD} {r:R2} (h2:uw X op r) (ha:JE X a ga) (hb:JE X b gb) {ρ:aS} {st:Hs} {σ:St} {H:Hp} {m:Mp} {Q:VK} (S:aK X.K m st H) (R:aq X.K m H ρ σ) (p:cD X σ m H (aj op ga gb ρ st) Q) :
  Jy r (SE X a) (SE X b) σ H Q:=by
 refine ha.go S R (ar.bind p) fun x st1 v m1 H1 p1 e1 S1 rx=>?_
 refine hb.go S1 (R.mono e1) ((ar.bind p1).imp e1 fun _ _ q=>q) fun y st2 u m2 H2 p2 e2 S2 ry=>?_
 exact h2 x y v u st2 H2 m2 Q S2 (ae.mono e2 _ _ rx) ry (bC.shift (ar.iM p2) (e1.trans e2))
theorem FY {a b:Expr} {ga gb:GE} {o:Operator} {op:dD} {pos:Pos} (ho:gz X (UO o) op) (ha:JE X a ga) (hb:JE X b gb):JE X (.BinOp a o b pos) (aj op ga gb):=by
 obtain⟨r,h1,h2⟩:=ho
 exact JE.of (Jz h1 az az) fun ρ st σ H m Q S R p=>ux h2 ha hb S R p
theorem lD {a b:Expr} {ga gb:GE} {o:CmpOp} {op:dD} {pos:Pos} (ho:gz X (US o) op) (ha:JE X a ga) (hb:JE X b gb) (hm:UN o b=false):JE X (.Compare a [o] [b] pos) (aj op ga gb):=by
 obtain⟨r,h1,h2⟩:=ho
 exact JE.of (BH h1 az az hm) fun ρ st σ H m Q S R p=>ux h2 ha hb S R p
def D7 (w:Wv) (st:Hs):Re Bool:=match w with
 | .bl b=> .ok b st
 | _=> .bad
def bp (g:GE):GT:=fun ρ st=>(g ρ st).bind D7
theorem iZ {σ:St} {m:Mp} {H:Hp} {r:Re Wv} {Q:Bool->Hp->Prop} (p:fG X σ m H (r.bind D7) Q):cD X σ m H r (fun x H'=>∃k,x= .bl k/\Q k H'):=by
 cases r with
 | ok w st=>
  cases w with
  | bl b=>
   intro v m' H' e S rw'
   unfold ae at rw'
   exact⟨b,rw',p m' H' e S⟩
  | _=>exact False.elim p
 | err c st=>exact p
 | bad=>exact p
theorem lE {a b:Expr} {ga gb:GE} {o:CmpOp} {op:dD} {pos:Pos} (ho:gz X (US o) op) (ha:JE X a ga) (hb:JE X b gb) (hm:UN o b=false):JT X (.Compare a [o] [b] pos) (bp (aj op ga gb)):=by
 obtain⟨r,h1,h2⟩:=ho
 exact JT.of (BI h1 az az hm) fun ρ st σ H m Q S R p=>ux h2 ha hb S R (iZ p)
def iC (op op':dD) (ga gb gc:GE):GE:=fun ρ st=>(ga ρ st).bind fun x st1=>(gb ρ st1).bind fun y st2=>(op x y st2).iM.bind fun z st3=>match z with
 | .bl true=>(gc ρ st3).bind fun u uy=>(op' y u uy).iM
 | .bl false=> .ok (.bl false) st3
 | _=> .bad
theorem D8 {a b c:Expr} {ga gb gc:GE} {op op':dD} {r r':R2} (h2:uw X op r) (h2':uw X op' r') (ha:JE X a ga) (hb:JE X b gb) (hc:JE X c gc) {ρ:aS} {st:Hs} {σ:St} {H:Hp} {m:Mp} {Q:VK}
  (S:aK X.K m st H) (R:aq X.K m H ρ σ) (p:cD X σ m H (iC op op' ga gb gc ρ st) Q):rV r r' (SE X a) (SE X b) (SE X c) σ H Q:=by
 refine ha.go S R (ar.bind p) fun x st1 v m1 H1 p1 e1 S1 rx=>?_
 refine hb.go S1 (R.mono e1) ((ar.bind p1).imp e1 fun _ _ q=>q) fun y st2 u m2 H2 p2 e2 S2 ry=>?_
 refine h2 x y v u st2 H2 m2 _ S2 (ae.mono e2 _ _ rx) ry (lC.imp (ar.iM (ar.bind p2)) fun z st3 p3=>?_)
 intro z' m3 H3 e3 S3 rz
 cases z with
 | bl k=>
  unfold ae at rz
  refine⟨k,rz,?_⟩
  cases k with
  | true=>
   rw[if_pos rfl]
   refine hc.go S3 (R.mono (e1.trans (e2.trans e3))) ((ar.bind p3).imp (e1.trans (e2.trans e3)) fun _ _ q=>q) fun q uy u' m4 H4 p4 e4 S4 rq=>?_
   exact h2' y q u u' uy H4 m4 Q S4 (ae.mono (e3.trans e4) _ _ ry) rq (bC.shift (ar.iM p4) (e1.trans (e2.trans (e3.trans e4))))
  | false=>
   rw[if_neg Bool.false_ne_true]
   exact p3 (.bl false) m3 H3 (e1.trans (e2.trans e3)) S3 (by unfold ae;rfl)
 | _=>exact False.elim p3
theorem yA {a b c:Expr} {ga gb gc:GE} {o o':CmpOp} {op op':dD} {pos:Pos} (ho:gz X (US o) op) (ho':gz X (US o') op') (ha:JE X a ga) (hb:JE X b gb) (hc:JE X c gc)
  (hm:lastMarks [o,o'] [b,c]=false:=by with_unfolding_all rfl):JE X (.Compare a [o,o'] [b,c] pos) (iC op op' ga gb gc):=by
 obtain⟨r,h1,h2⟩:=ho
 obtain⟨r',D3,h2'⟩:=ho'
 exact JE.of (xU h1 D3 az az az hm) fun ρ st σ H m Q S R p=>D8 h2 h2' ha hb hc S R p
theorem yB {a b c:Expr} {ga gb gc:GE} {o o':CmpOp} {op op':dD} {pos:Pos} (ho:gz X (US o) op) (ho':gz X (US o') op') (ha:JE X a ga) (hb:JE X b gb) (hc:JE X c gc)
  (hm:lastMarks [o,o'] [b,c]=false:=by with_unfolding_all rfl):JT X (.Compare a [o,o'] [b,c] pos) (bp (iC op op' ga gb gc)):=by
 obtain⟨r,h1,h2⟩:=ho
 obtain⟨r',D3,h2'⟩:=ho'
 exact JT.of (xV h1 D3 az az az hm) fun ρ st σ H m Q S R p=>D8 h2 h2' ha hb hc S R (iZ p)
def J_ (op:Wv->Hs->Re Wv) (ga:GE):GE:=fun ρ st=>(ga ρ st).bind op
def qc:Wv->Hs->Re Wv
 | .int i,st=> .ok (.int (-i)) st
 | _,_=> .bad
theorem FZ {a:Expr} {ga:GE} {pos:Pos} (ha:JE X a ga):JE X (.UnaryOp .USub a pos) (J_ qc ga):=by
 refine JE.of (JB Fo az) fun ρ st σ H m Q S R p=>?_
 refine ha.go S R (ar.bind p) fun x st1 v m1 H1 p1 e1 S1 rx=>?_
 cases x with
 | int i=>
  unfold ae at rx
  exact⟨i,rx,p1 _ m1 H1 e1 S1 (by unfold ae;rfl)⟩
 | _=>exact False.elim p1
def SW (X:Cx) (e:Expr):TT:=fun σ H Q=>∀(wh:Sem UL) (pins:List (UE×Obj)) (s:UK),Inv X pins σ H s->UZ (model X.prog X.w) X.A (isTrue e X.env wh) (TP X pins σ Q) X.xe s
theorem D9 {e:Expr}:PW X e (SW X e):=fun wh pins s _ _ _ I h=>h wh pins s I
def JW (X:Cx) (e:Expr) (g:GT):Prop:=∀(ρ:aS) (st:Hs) (σ:St) (H:Hp) (m:Mp) (Q:Bool->Hp->Prop),aK X.K m st H->aq X.K m H ρ σ->fG X σ m H (g ρ st) Q->SW X e σ H Q
theorem JW.of {e:Expr} {g:GT} {t:TT} (h:PW X e t) (k:∀(ρ:aS) (st:Hs) (σ:St) (H:Hp) (m:Mp) (Q:Bool->Hp->Prop),aK X.K m st H->aq X.K m H ρ σ->fG X σ m H (g ρ st) Q->t σ H Q):JW X e g :=
 fun ρ st σ H m Q S R p wh pins s I=>h wh pins s σ H Q I (k ρ st σ H m Q S R p)
theorem JW.jt {e:Expr} {g:GT} (h:JW X e g):JT X e g:=fun ρ st σ H m Q S R p pins s I=>h ρ st σ H m Q S R p _ pins s I
def yC (ga gb:GT):GT:=fun ρ st=>(ga ρ st).bind fun b st1=>if b=true then gb ρ st1 else .ok false st1
def F0 (ga gb:GT):GT:=fun ρ st=>(ga ρ st).bind fun b st1=>if b=true then .ok true st1 else gb ρ st1
def qd (ga:GT):GT:=fun ρ st=>(ga ρ st).bind fun b st1=> .ok (!b) st1
theorem B4 {a:Expr} {ga:GT} {pos:Pos} (ha:JT X a ga):JW X (.BoolOp .And [a] pos) ga:=JW.of (Bw jU) fun ρ st σ H m Q S R p=>ha ρ st σ H m Q S R p
theorem F1 {a:Expr} {ga:GT} {pos:Pos} (ha:JT X a ga):JW X (.BoolOp .Or [a] pos) ga:=JW.of (E6 jU) fun ρ st σ H m Q S R p=>ha ρ st σ H m Q S R p
theorem F2 {a b:Expr} {rest:List Expr} {ga gb:GT} {pos:Pos} (ha:JT X a ga) (hb:JW X (.BoolOp .And (b::rest) pos) gb):JW X (.BoolOp .And (a::b::rest) pos) (yC ga gb):=by
 refine JW.of (E7 jU D9) fun ρ st σ H m Q S R p=>?_
 refine ha.go S R (ar.bind p) fun c st1 m1 H1 p1 e1 S1=>?_
 cases c with
 | true=>rw[if_pos rfl] at p1 ⊢;exact hb ρ st1 σ H1 m1 Q S1 (R.mono e1) (fG.shift p1 e1)
 | false=>rw[if_neg Bool.false_ne_true] at p1 ⊢;exact p1 m1 H1 e1 S1
theorem Ka {a b:Expr} {rest:List Expr} {ga gb:GT} {pos:Pos} (ha:JT X a ga) (hb:JW X (.BoolOp .Or (b::rest) pos) gb):JW X (.BoolOp .Or (a::b::rest) pos) (F0 ga gb):=by
 refine JW.of (Jn jU D9) fun ρ st σ H m Q S R p=>?_
 refine ha.go S R (ar.bind p) fun c st1 m1 H1 p1 e1 S1=>?_
 cases c with
 | true=>rw[if_pos rfl] at p1 ⊢;exact p1 m1 H1 e1 S1
 | false=>rw[if_neg Bool.false_ne_true] at p1 ⊢;exact hb ρ st1 σ H1 m1 Q S1 (R.mono e1) (fG.shift p1 e1)
theorem F3 {a:Expr} {ga:GT} {pos:Pos} (ha:JT X a ga):JT X (.UnaryOp .Not a pos) (qd ga):=by
 refine JT.of (E8 jU) fun ρ st σ H m Q S R p=>?_
 exact ha.go S R (ar.bind p) fun c st1 m1 H1 p1 e1 S1=>p1 m1 H1 e1 S1
def jV (ga gb:GE):GE:=fun ρ st=>(ga ρ st).bind fun w st1=>match w with
 | .bl true=>gb ρ st1
 | .bl false=> .ok (.bl false) st1
 | _=> .bad
def Kb (ga gb:GE):GE:=fun ρ st=>(ga ρ st).bind fun w st1=>match w with
 | .bl true=> .ok (.bl true) st1
 | .bl false=>gb ρ st1
 | _=> .bad
def D_ (ga:GE):GE:=fun ρ st=>(ga ρ st).bind fun w st1=>match w with
 | .bl b=> .ok (.bl (!b)) st1
 | _=> .bad
theorem yD {op} {a:Expr} {ga:GE} {pos:Pos} (ha:JE X a ga):JE X (.BoolOp op [a] pos) ga:=JE.of (E9 az) fun ρ st σ H m Q S R p=>ha ρ st σ H m Q S R p
theorem F4 {a b:Expr} {rest:List Expr} {ga gb:GE} {pos:Pos} (ha:JE X a ga) (hb:JE X (.BoolOp .And (b::rest) pos) gb):JE X (.BoolOp .And (a::b::rest) pos) (jV ga gb):=by
 refine JE.of (E_ az az) fun ρ st σ H m Q S R p=>?_
 refine ha.go S R (ar.bind p) fun x st1 v m1 H1 p1 e1 S1 rx=>?_
 cases x with
 | bl c=>
  unfold ae at rx
  refine⟨c,rx,?_⟩
  cases c with
  | true=>rw[if_pos rfl];exact hb ρ st1 σ H1 m1 Q S1 (R.mono e1) (cD.shift p1 e1)
  | false=>rw[if_neg Bool.false_ne_true];exact p1 _ m1 H1 e1 S1 (by unfold ae;rfl)
 | _=>exact False.elim p1
theorem Kc {a b:Expr} {rest:List Expr} {ga gb:GE} {pos:Pos} (ha:JE X a ga) (hb:JE X (.BoolOp .Or (b::rest) pos) gb):JE X (.BoolOp .Or (a::b::rest) pos) (Kb ga gb):=by
 refine JE.of (Jq az az) fun ρ st σ H m Q S R p=>?_
 refine ha.go S R (ar.bind p) fun x st1 v m1 H1 p1 e1 S1 rx=>?_
 cases x with
 | bl c=>
  unfold ae at rx
  refine⟨c,rx,?_⟩
  cases c with
  | true=>rw[if_pos rfl];exact p1 _ m1 H1 e1 S1 (by unfold ae;rfl)
  | false=>rw[if_neg Bool.false_ne_true];exact hb ρ st1 σ H1 m1 Q S1 (R.mono e1) (cD.shift p1 e1)
 | _=>exact False.elim p1
theorem F5 {a:Expr} {ga:GE} {pos:Pos} (ha:JE X a ga):JE X (.UnaryOp .Not a pos) (D_ ga):=by
 refine JE.of (Fb az) fun ρ st σ H m Q S R p=>?_
 refine ha.go S R (ar.bind p) fun x st1 v m1 H1 p1 e1 S1 rx=>?_
 cases x with
 | bl c=>
  unfold ae at rx
  exact⟨c,rx,p1 _ m1 H1 e1 S1 (by unfold ae;rfl)⟩
 | _=>exact False.elim p1
def lF (gt:GT) (ga gb:GE):GE:=fun ρ st=>(gt ρ st).bind fun b st1=>if b=true then ga ρ st1 else gb ρ st1
theorem Kd {c a b:Expr} {gt:GT} {ga gb:GE} {pos:Pos} (hc:JT X c gt) (ha:JE X a ga) (hb:JE X b gb):JE X (.IfExp c a b pos) (lF gt ga gb):=by
 refine JE.of (xK jU az az) fun ρ st σ H m Q S R p=>?_
 refine hc.go S R (ar.bind p) fun k st1 m1 H1 p1 e1 S1=>?_
 cases k with
 | true=>rw[if_pos rfl] at p1 ⊢;exact ha ρ st1 σ H1 m1 Q S1 (R.mono e1) (cD.shift p1 e1)
 | false=>rw[if_neg Bool.false_ne_true] at p1 ⊢;exact hb ρ st1 σ H1 m1 Q S1 (R.mono e1) (cD.shift p1 e1)
def ai:GA:=fun _ st=> .ok [] st
def aa (ga:GE) (gr:GA):GA:=fun ρ st=>(ga ρ st).bind fun x st1=>(gr ρ st1).bind fun xs st2=> .ok (x::xs) st2
theorem yE:JA X [] ai:=JA.of Fs fun ρ st σ H m Q S R p=>p [] m H Ext.refl S ah.nil
theorem uz {e:Expr} {es:List Expr} {ga:GE} {gr:GA} (ha:JE X e ga) (hr:JA X es gr) (hs:UY (e::es) X.env=(false,eval e X.env)::UY es X.env:=by rfl):JA X (e::es) (aa ga gr):=by
 refine JA.of (BJ az il hs) fun ρ st σ H m Q S R p=>?_
 refine ha.go S R (ar.bind p) fun x st1 v m1 H1 p1 e1 S1 rx=>?_
 refine hr.go S1 (R.mono e1) ((ar.bind p1).imp e1 fun _ _ q=>q) fun xs st2 vs m2 H2 p2 e2 S2 rs=>?_
 exact p2 (v::vs) m2 H2 (e1.trans e2) S2 (ah.cons (ae.mono e2 _ _ rx) rs)
def dU (g:GA):GE:=fun ρ st=>(g ρ st).bind fun ws st1=>if ws.length<=lim then .ok (.tup ws) st1 else .bad
def bg (g:GA):GE:=fun ρ st=>(g ρ st).bind fun ws st1=>if ws.length<=lim then .ok (.ref st1.length) (st1++[.lst ws]) else .bad
theorem F6 {es:List Expr} {g:GA} {x1 pos} (h:JA X es g):JE X (.Tuple es x1 pos) (dU g):=by
 refine JE.of (Ft il) fun ρ st σ H m Q S R p=>?_
 refine h.go S R (ar.bind p) fun ws st1 vs m1 H1 p1 e1 S1 rs=>?_
 by_cases hl:ws.length<=lim
 ·rw[if_pos hl] at p1
  refine⟨by rw[<-rs.length];exact cx hl,fun q hq=>?_⟩
  have e2:Ext X.K m1 H1 m1 (upd H1 q (.tup vs)):=Ext.upd (.inl hq)
  exact p1 (.ref q) m1 _ (e1.trans e2) (S1.fresh hq) (by unfold ae;exact⟨q,vs,rfl,ay,ah.mono e2 _ _ rs⟩)
 ·rw[if_neg hl] at p1;exact False.elim p1
theorem aK.newest {K:PySem.W.Frag} {m:Mp} {st:Hs} {H:Hp} (S:aK K m st H) (q:UE) (H':Hp):ae K (m++[q]) H' (.ref st.length) (.ref q):=by
 unfold ae
 refine⟨q,rfl,?_⟩
 rw[<-S.len,List.getElem?_append_right (Nat.le_refl _),Nat.sub_self]
 rfl
theorem dX {m m1:Mp} {H H1:Hp} {st1:Hs} {ws:List Wv} {vs:List V} {Q:VK} (p1:I_ X.K m H Q (.ref st1.length) (st1++[.lst ws])) (e1:Ext X.K m H m1 H1) (S1:aK X.K m1 st1 H1) (rs:ah X.K m1 H1 ws vs) (q:UE) (hq:H1 q=none) :
  Q (.ref q) (upd H1 q (.lst vs)) :=
 p1 (.ref q) (m1++[q]) _ (e1.trans (Ext.more.trans (Ext.upd (.inl hq)))) (S1.alloc hq rs) (S1.newest q _)
theorem F7 {es:List Expr} {g:GA} {pos} (h:JA X es g):JE X (.List es pos) (bg g):=by
 refine JE.of (Fv il) fun ρ st σ H m Q S R p=>?_
 refine h.go S R (ar.bind p) fun ws st1 vs m1 H1 p1 e1 S1 rs=>?_
 by_cases hl:ws.length<=lim
 ·rw[if_pos hl] at p1
  exact⟨by rw[<-rs.length];exact cx hl,fun q hq=>dX p1 e1 S1 rs q hq⟩
 ·rw[if_neg hl] at p1;exact False.elim p1
end
end J
namespace J
open PySem PySem.Spec PyProof.Rows L2
section
variable {X:Cx}
theorem cW.or {f:UL->UL->Sem UL} {r r':R2} (h:cW X f r) (h':cW X f r'):cW X f (fun x y H Q=>r x y H Q\/r' x y H Q):=by
 intro pins s σ H x y v u Q I rx ry q
 rcases q with q | q
 ·exact h pins s σ H x y v u Q I rx ry q
 ·exact h' pins s σ H x y v u Q I rx ry q
theorem yF:cW X (UO .FloorDiv) (rI (fun _ j=>j≠0/\j.natAbs.log2 < 9000) fun i j=> .int (i.fdiv j)):=LX fun i j _ _ _ _ _ hc q=>floordiv_int hc.1 q (.inl (PyProof.noPylong_of_log2 hc.2))
theorem B5:cW X (UO .Mod) (rI (fun _ j=>j≠0) fun i j=> .int (i.fmod j)):=LX fun i j _ _ _ _ _ hc q=>mod_int' hc q
theorem B6:cW X (UO .Mult) (rI (fun i j=>IntMulOk i j) fun i j=> .int (i * j)):=LX fun _ _ _ _ _ _ _ hc q=>mul_int q hc
instance NC {a b:Int}:Decidable (IntMulOk a b):=by unfold IntMulOk;infer_instance
def sA:dD
 | .int i,.int j,st=> .ok (.int (i - j)) st
 | _,_,_=> .bad
def bW:dD
 | .int i,.int j,st=>if j≠0/\j.natAbs.log2 < 9000 then .ok (.int (i.fdiv j)) st else .bad
 | _,_,_=> .bad
def oMod:dD
 | .int i,.int j,st=>if j≠0 then .ok (.int (i.fmod j)) st else .bad
 | _,_,_=> .bad
def wc:dD
 | .int i,.int j,st=>if 0<=j/\j<=1000000/\i.natAbs < 2 ^ 64 then .ok (.int (i ^ j.toNat)) st else .bad
 | _,_,_=> .bad
def Ke:dD
 | .int i,.int j,st=> .ok (.bl (decide (i < j))) st
 | .str i,.str j,st=> .ok (.bl (decide (i.cps.toList < j.cps.toList))) st
 | _,_,_=> .bad
def Kf:dD
 | .int i,.int j,st=> .ok (.bl (decide (i<=j))) st
 | _,_,_=> .bad
def L7:dD
 | .int i,.int j,st=> .ok (.bl (decide (j < i))) st
 | _,_,_=> .bad
def ND:dD
 | .int i,.int j,st=> .ok (.bl (decide (j<=i))) st
 | _,_,_=> .bad
theorem aC {m:Mp} {H:Hp} {i:Int} {a:V} (h:ae X.K m H (.int i) a):a= .int i:=by unfold ae at h;exact h
theorem cZ {m:Mp} {H:Hp} {x:PySem.Str} {a:V} (h:ae X.K m H (.str x) a):a= .str x/\PyData.strOk x=true:=by unfold ae at h;exact h
theorem mkInt {m:Mp} {H:Hp} {i:Int}:ae X.K m H (.int i) (.int i):=by unfold ae;rfl
theorem fe {m:Mp} {H:Hp} {i:Bool}:ae X.K m H (.bl i) (.bl i):=by unfold ae;rfl
theorem nH {m:Mp} {H:Hp}:ae X.K m H .aB .aB:=by unfold ae;rfl
theorem mkStr {m:Mp} {H:Hp} {x:PySem.Str} (h:PyData.strOk x=true):ae X.K m H (.str x) (.str x):=by unfold ae;exact⟨rfl,h⟩
theorem F8:gz X (UO .Sub) sA:=⟨_,Fm,fun x y a b st H m Q S rx ry p=>by
 cases x with
 | int i=>
  cases y with
  | int j=>exact⟨i,j,aC rx,aC ry,p _ m H Ext.refl S mkInt⟩
  | _=>exact False.elim p
 | _=>cases y<;>exact False.elim p⟩
theorem B7:gz X (UO .FloorDiv) bW:=⟨_,yF,fun x y a b st H m Q S rx ry p=>by
 cases x with
 | int i=>
  cases y with
  | int j=>
   dsimp only[bW] at p
   by_cases c:j≠0/\j.natAbs.log2 < 9000
   ·rw[if_pos c] at p;exact⟨i,j,aC rx,aC ry,c,p _ m H Ext.refl S mkInt⟩
   ·rw[if_neg c] at p;exact False.elim p
  | _=>exact False.elim p
 | _=>cases y<;>exact False.elim p⟩
theorem F9:gz X (UO .Mod) oMod:=⟨_,B5,fun x y a b st H m Q S rx ry p=>by
 cases x with
 | int i=>
  cases y with
  | int j=>
   dsimp only[oMod] at p
   by_cases c:j≠0
   ·rw[if_pos c] at p;exact⟨i,j,aC rx,aC ry,c,p _ m H Ext.refl S mkInt⟩
   ·rw[if_neg c] at p;exact False.elim p
  | _=>exact False.elim p
 | _=>cases y<;>exact False.elim p⟩
theorem F_:gz X (UO .Pow) wc:=⟨_,Fn,fun x y a b st H m Q S rx ry p=>by
 cases x with
 | int i=>
  cases y with
  | int j=>
   dsimp only[wc] at p
   by_cases c:0<=j/\j<=1000000/\i.natAbs < 2 ^ 64
   ·rw[if_pos c] at p;exact⟨i,j,aC rx,aC ry,c,p _ m H Ext.refl S mkInt⟩
   ·rw[if_neg c] at p;exact False.elim p
  | _=>exact False.elim p
 | _=>cases y<;>exact False.elim p⟩
theorem Kh:gz X (US .Lt) Ke:=⟨_,cW.or JD vQ,fun x y a b st H m Q S rx ry p=>by
 cases x with
 | int i=>
  cases y with
  | int j=>exact .inl ⟨i,j,aC rx,aC ry,p _ m H Ext.refl S fe⟩
  | _=>exact False.elim p
 | str i=>
  cases y with
  | str j=>exact .inr ⟨i,j,(cZ rx).1,(cZ ry).1,p _ m H Ext.refl S fe⟩
  | _=>exact False.elim p
 | _=>cases y<;>exact False.elim p⟩
theorem Ki:gz X (US .LtE) Kf:=⟨_,JF,fun x y a b st H m Q S rx ry p=>by
 cases x with
 | int i=>
  cases y with
  | int j=>exact⟨i,j,aC rx,aC ry,p _ m H Ext.refl S fe⟩
  | _=>exact False.elim p
 | _=>cases y<;>exact False.elim p⟩
theorem Kj:gz X (US .Gt) L7:=⟨_,JG,fun x y a b st H m Q S rx ry p=>by
 cases x with
 | int i=>
  cases y with
  | int j=>exact⟨i,j,aC rx,aC ry,p _ m H Ext.refl S fe⟩
  | _=>exact False.elim p
 | _=>cases y<;>exact False.elim p⟩
theorem Kk:gz X (US .GtE) ND:=⟨_,JH,fun x y a b st H m Q S rx ry p=>by
 cases x with
 | int i=>
  cases y with
  | int j=>exact⟨i,j,aC rx,aC ry,p _ m H Ext.refl S fe⟩
  | _=>exact False.elim p
 | _=>cases y<;>exact False.elim p⟩
def Ea:dD
 | x,.aB,st=> .ok (.bl (match x with | .aB=>true | _=>false)) st
 | _,_,_=> .bad
def iD:dD
 | x,.aB,st=> .ok (.bl (match x with | .aB=>false | _=>true)) st
 | _,_,_=> .bad
theorem Eb {m:Mp} {H:Hp} {x:Wv} {a:V} (h:ae X.K m H x a):decide (a=V.aB)=(match x with | .aB=>true | _=>false):=by
 cases x with
 | aB=>unfold ae at h;subst h;rfl
 | bl b=>unfold ae at h;subst h;rfl
 | int b=>unfold ae at h;subst h;rfl
 | str b=>unfold ae at h;obtain⟨h,_⟩:=h;subst h;rfl
 | tup b=>unfold ae at h;obtain⟨q,xs,h,_⟩:=h;subst h;rfl
 | lx b=>unfold ae at h;obtain⟨q,xs,h,_⟩:=h;subst h;rfl
 | ref b=>unfold ae at h;obtain⟨q,h,_⟩:=h;subst h;rfl
 | ty b=>unfold ae at h;subst h;rfl
 | cls b=>unfold ae at h;obtain⟨q,h,_⟩:=h;subst h;rfl
 | eR b=>unfold ae at h;obtain⟨q,C,h,_⟩:=h;subst h;rfl
 | fn fp b=>unfold ae at h;obtain⟨h,_⟩:=h;subst h;rfl
theorem Kl:gz X (US .Is) Ea:=⟨_,Fp,fun x y a b st H m Q S rx ry p=>by
 cases y with
 | aB=>
  refine⟨by unfold ae at ry;exact ry,?_⟩
  rw[Eb rx]
  cases x<;>exact p _ m H Ext.refl S fe
 | _=>cases x<;>exact False.elim p⟩
theorem yG:gz X (US .IsNot) iD:=⟨_,BG,fun x y a b st H m Q S rx ry p=>by
 cases y with
 | aB=>
  refine⟨by unfold ae at ry;exact ry,?_⟩
  rw[Eb rx]
  cases x<;>exact p _ m H Ext.refl S fe
 | _=>cases x<;>exact False.elim p⟩
theorem oQ {a b:PySem.Str} (ha:PyData.strOk a=true) (hb:PyData.strOk b=true):PyData.strOk (a++b)=true:=by
 unfold PyData.strOk at *
 show((a.cps++b.cps).all _)=true
 rw[Array.all_append,ha,hb]
 rfl
def Km (K:PySem.W.Frag):R2:=fun x y H Q=>∃l b xs zs,x= .ref l/\y= .ref b/\gq K H l xs/\gq K H b zs/\xs.length+zs.length<=UX/\∀p,H p=none->Q (.ref p) (upd H p (.lst (xs++zs)))
theorem B8:cW X (UO .Add) (Km X.K):=by
 intro pins s σ H x y v u Q I rx ry h
 obtain⟨l,b,xs,zs,rfl,rfl,hH,hB,hz,q⟩:=h
 cases rx
 cases ry
 obtain⟨its,r,pl,hs⟩:=I.list hH
 obtain⟨its2,r2,Rv,hs2⟩:=I.list hB
 have hl:=r.length
 have hl2:=r2.length
 obtain⟨⟨cls,dd,data,sl⟩,ho,hc,n,hd⟩:=id pl.isList
 obtain⟨⟨JQ,dd2,data2,sl2⟩,ho2,hc2,n2,hd2⟩:=id Rv.isList
 simp only at hc hd hc2 hd2
 subst hc hd hc2 hd2
 have e:its.toArray++its2.toArray=(its++its2).toArray:=by simp
 refine PySem.concat_meets ⟨_,ho,rfl⟩ ⟨_,ho2,rfl⟩ PySem.noFill_list_add PySem.seq_list_add PySem.F.slot_list_add PySem.F.entry_list_add (PySem.F.args_list_add_2 _ _) (list_addW l b its.toArray its2.toArray n n2 dd dd2 sl sl2 (by simp;omega)) ⟨ho,ho2,?_⟩
 rw[e]
 exact⟨.ref _,_,I.FF (t':=s.toks) (r.append r2) (by rw[List.length_append];omega),rfl,q _ I.fresh⟩
def Kn (K:PySem.W.Frag):R2:=fun x y H Q=>∃a b ys,x= .ref a/\y= .ref b/\dq K H a []/\dq K H b ys/\Q (.ref b) H
theorem B9:cW X (UO .Add) (Kn X.K):=by
 intro pins s σ H x y v u Q I rx ry h
 obtain⟨a,b,ys,rfl,rfl,ha,hb,q⟩:=h
 cases rx
 cases ry
 obtain⟨its,r1,p1,_⟩:=I.tuple ha
 obtain⟨its2,r2,p2,_⟩:=I.tuple hb
 cases r1
 obtain⟨⟨c1,d1,t1,l1⟩,g1,k1,n1,j1⟩:=id p1
 obtain⟨⟨c2,d2,t2,l2⟩,g2,k2,n2,j2⟩:=id p2
 simp only at k1 j1 k2 j2
 subst k1 j1 k2 j2
 exact PySem.concat_meets ⟨_,g1,rfl⟩ ⟨_,g2,rfl⟩ PySem.noFill_tuple_add PySem.seq_tuple_add PySem.F.slot_tuple_add PySem.F.entry_tuple_add (PySem.F.args_tuple_add_2 _ _) (tuple_addW0 a b #[] its2.toArray n1 n2 d1 d2 l1 l2 (by simp)) ⟨g1,g2,⟨.ref b,H,I,rfl,q⟩⟩
def dt:dD
 | .int i,.int j,st=> .ok (.int (i+j)) st
 | .str i,.str j,st=>if i.length+j.length<=lim then .ok (.str (i++j)) st else .bad
 | .tup i,.tup j,st=>if i.length+j.length<=lim then .ok (.tup (i++j)) st else .bad
 | .ref l,.ref k,st=>match af st l,af st k with
  | some i,some j=>if i.length+j.length<=lim then .ok (.ref st.length) (st++[.lst (i++j)]) else .bad
  | _,_=> .bad
 | _,_,_=> .bad
instance {α:Type} {xs:List α}:Decidable (xs≠[]):=match xs with
 | []=>isFalse (fun h=>h rfl)
 | _::_=>isTrue (fun h=>by cases h)
theorem F':gz X (UO .Add) dt:=⟨_,cW.or Fl (cW.or rX (cW.or BR (cW.or B8 B9))),fun x y a b st H m Q S rx ry p=>by
 cases x with
 | int i=>
  cases y with
  | int j=>exact .inl ⟨i,j,aC rx,aC ry,p _ m H Ext.refl S mkInt⟩
  | _=>exact False.elim p
 | str i=>
  cases y with
  | str j=>
   dsimp only[dt] at p
   by_cases c:i.length+j.length<=lim
   ·rw[if_pos c] at p
    exact .inr (.inl ⟨i,j,(cZ rx).1,(cZ ry).1,cx c,p _ m H Ext.refl S (mkStr (oQ (cZ rx).2 (cZ ry).2))⟩)
   ·rw[if_neg c] at p;exact False.elim p
  | _=>exact False.elim p
 | tup i=>
  cases y with
  | tup j=>
   dsimp only[dt] at p
   by_cases c:i.length+j.length<=lim
   ·rw[if_pos c] at p
    by_cases c0:i=[]
    ·subst c0
     unfold ae at rx ry
     obtain⟨a1,xs,rfl,h1,h2⟩:=rx
     obtain⟨a2,ys,rfl,h3,h4⟩:=ry
     have l1:xs=[]:=List.eq_nil_of_length_eq_zero h2.length.symm
     subst l1
     exact .inr (.inr (.inr (.inr ⟨a1,a2,ys,rfl,rfl,dq.of h1,dq.of h3,p (.ref a2) m H Ext.refl S (by rw[List.nil_append];unfold ae;exact⟨a2,ys,rfl,h3,h4⟩)⟩)))
    unfold ae at rx ry
    obtain⟨a1,xs,rfl,h1,h2⟩:=rx
    obtain⟨a2,ys,rfl,h3,h4⟩:=ry
    have l1:=h2.length
    have l2:=h4.length
    have n1:xs≠[]:=fun z=>by rw[z] at l1;exact c0 (List.eq_nil_of_length_eq_zero l1)
    refine .inr (.inr (.inl ⟨a1,a2,xs,ys,rfl,rfl,dq.of h1,dq.of h3,n1,by rw[<-l1,<-l2];exact cx c,fun z=>?_,fun _ q hq=>?_⟩))
    ·rw[z] at l2
     rw[List.eq_nil_of_length_eq_zero l2,List.append_nil] at p
     exact p (.ref a1) m H Ext.refl S (by unfold ae;exact⟨a1,xs,rfl,h1,h2⟩)
    have e2:Ext X.K m H m (upd H q (.tup (xs++ys))):=Ext.upd (.inl hq)
    exact p (.ref q) m _ e2 (S.fresh hq) (by unfold ae;exact⟨q,xs++ys,rfl,ay,ah.mono e2 _ _ (h2.append h4)⟩)
   ·rw[if_neg c] at p;exact False.elim p
  | _=>exact False.elim p
 | ref l=>
  cases y with
  | ref k=>
   dsimp only[dt] at p
   unfold ae at rx ry
   obtain⟨a1,rfl,h1⟩:=rx
   obtain⟨a2,rfl,h2⟩:=ry
   cases e1:af st l with
   | none=>rw[e1] at p;exact False.elim p
   | some i=>
    cases e2:af st k with
    | none=>rw[e1,e2] at p;exact False.elim p
    | some j=>
     rw[e1,e2] at p
     by_cases c:i.length+j.length<=lim
     ·simp only[if_pos c] at p
      obtain⟨xs,q1,q2⟩:=S.read h1 e1
      obtain⟨ys,q3,q4⟩:=S.read h2 e2
      exact .inr (.inr (.inr (.inl ⟨a1,a2,xs,ys,rfl,rfl,q1,q3,by rw[<-q2.length,<-q4.length];exact cx c,fun q hq=>dX p Ext.refl S (q2.append q4) q hq⟩)))
     ·simp only[if_neg c] at p;exact False.elim p
  | _=>exact False.elim p
 | _=>cases y<;>exact False.elim p⟩
def qe (n:Nat) (x:PySem.Str):PySem.Str:=⟨(List.replicate n x.cps).foldl (· ++·) #[]⟩
end
end J
namespace J
open PySem PySem.Spec PySem.SeqAt PyProof.Rows L2
def gy {α β:Type} (f:α->Option β):List α->Option (List β)
 | []=>some []
 | w::ws=>match f w,gy f ws with
  | some d,some ds=>some (d::ds)
  | _,_=>none
def aG (st:Hs):Nat->Wv->Option PyData
 | 0,w=>match w with
  | .aB=>some .none
  | .bl b=>some (.bool b)
  | .int i=>some (.int i)
  | .str x=>some (.str x)
  | _=>none
 | n+1,w=>match w with
  | .aB=>some .none
  | .bl b=>some (.bool b)
  | .int i=>some (.int i)
  | .str x=>some (.str x)
  | .tup ws=>(gy (aG st n) ws).map .tuple
  | .lx ws=>(gy (aG st n) ws).map .tuple
  | .ref l=>match af st l with
   | some ws=>(gy (aG st n) ws).map .list
   | none=>none
  | .ty _=>none
  | .cls _=>none
  | .eR _=>none
  | .fn _ _=>none
section
variable {X:Cx} {pins:List (UE×Obj)} {σ:St} {H:Hp} {s:UK} {m:Mp} {st:Hs}
def Ec (h:Heap) (n:Nat) (u:UL) (d:PyData):Prop:=∃as,Reads h u d as/\d.canLay0=true/\d.depth<=n
theorem gT {n:Nat} (ih:∀(w:Wv) (a:V) (u:UL) (d:PyData),ae X.K m H w a->RelV a u->aG st n w=some d->Ec s.heap n u d) :
  ∀(ws:List Wv) (xs:List V) (us:List UL) (ds:List PyData),ah X.K m H ws xs->Vals xs us->gy (aG st n) ws=some ds->∃as,ReadsAll s.heap us ds as/\PyData.canLayAll0 ds=true/\PyData.depthAll ds<=n
 | [],xs,us,ds,h,r,e=>by
  unfold ah at h
  subst h
  cases r
  cases e
  exact⟨[],.nil,rfl,Nat.zero_le _⟩
 | w::ws,xs,us,ds,h,r,e=>by
  unfold ah at h
  obtain⟨x,xr,rfl,h1,h2⟩:=h
  cases r with
  | cons r1 r2=>
   unfold gy at e
   cases e1:aG st n w with
   | none=>rw[e1] at e;cases e
   | some d=>
    cases e2:gy (aG st n) ws with
    | none=>rw[e1,e2] at e;cases e
    | some dr=>
     rw[e1,e2] at e
     cases e
     obtain⟨as,q1,q2,q3⟩:=ih w x _ d h1 r1 e1
     obtain⟨bs,p1,p2,p3⟩:=gT ih ws xr _ dr h2 r2 e2
     refine⟨as++bs,.cons q1 p1,?_,?_⟩
     ·show(PyData.canLay0 d&&PyData.canLayAll0 dr)=true
      rw[q2,p2];rfl
     ·show max d.depth (PyData.depthAll dr)<=n
      omega
theorem bX (I:Inv X pins σ H s) (S:aK X.K m st H):∀(n:Nat) (w:Wv) (a:V) (u:UL) (d:PyData),ae X.K m H w a->RelV a u->aG st n w=some d->Ec s.heap n u d:=by
 intro n
 induction n with
 | zero=>
  intro w a u d h r e
  cases w with
  | aB=>unfold ae at h;subst h;cases r;cases e;exact⟨[],.none,rfl,Nat.le_refl _⟩
  | bl b=>unfold ae at h;subst h;cases r;cases e;exact⟨[],.bool b,rfl,Nat.le_refl _⟩
  | int i=>unfold ae at h;subst h;obtain⟨t,rfl⟩:=r;cases e;exact⟨[],.int i t,rfl,Nat.le_refl _⟩
  | str x=>unfold ae at h;obtain⟨rfl,hx⟩:=h;obtain⟨t,rfl⟩:=r;cases e;exact⟨[],.str x t,hx,Nat.le_refl _⟩
  | tup ws=>cases e
  | lx ws=>cases e
  | ref l=>cases e
  | ty t=>cases e
  | cls t=>cases e
  | eR t=>cases e
  | fn fp t=>cases e
 | succ n ih=>
  intro w a u d h r e
  cases w with
  | aB=>unfold ae at h;subst h;cases r;cases e;exact⟨[],.none,rfl,Nat.zero_le _⟩
  | bl b=>unfold ae at h;subst h;cases r;cases e;exact⟨[],.bool b,rfl,Nat.zero_le _⟩
  | int i=>unfold ae at h;subst h;obtain⟨t,rfl⟩:=r;cases e;exact⟨[],.int i t,rfl,Nat.zero_le _⟩
  | str x=>unfold ae at h;obtain⟨rfl,hx⟩:=h;obtain⟨t,rfl⟩:=r;cases e;exact⟨[],.str x t,hx,Nat.zero_le _⟩
  | ty t=>cases e
  | cls t=>cases e
  | eR t=>cases e
  | fn fp t=>cases e
  | tup ws=>
   unfold ae at h
   obtain⟨p,xs,rfl,h1,h2⟩:=h
   cases r
   have e':(gy (aG st n) ws).map PyData.tuple=some d:=e
   cases e2:gy (aG st n) ws with
   | none=>rw[e2] at e';cases e'
   | some ds=>
    rw[e2] at e'
    cases e'
    obtain⟨its,rv,ht,hz⟩:=I.tuple (dq.of h1)
    obtain⟨as,q1,q2,q3⟩:=gT ih ws xs its ds h2 rv e2
    obtain⟨o,ho,hc,k,hd⟩:=ht
    exact⟨as,.tuple ho hc hd (by simpa using q1),q2,Nat.succ_le_succ q3⟩
  | lx ws=>
   unfold ae at h
   obtain⟨p,xs,rfl,h1,h2⟩:=h
   cases r
   have e':(gy (aG st n) ws).map PyData.tuple=some d:=e
   cases e2:gy (aG st n) ws with
   | none=>rw[e2] at e';cases e'
   | some ds=>
    rw[e2] at e'
    cases e'
    obtain⟨its,rv,ht,hz⟩:=I.tuple (.inr h1)
    obtain⟨as,q1,q2,q3⟩:=gT ih ws xs its ds h2 rv e2
    obtain⟨o,ho,hc,k,hd⟩:=ht
    exact⟨as,.tuple ho hc hd (by simpa using q1),q2,Nat.succ_le_succ q3⟩
  | ref l=>
   unfold ae at h
   obtain⟨p,rfl,h1⟩:=h
   cases r
   have e':(match af st l with | some ws=>(gy (aG st n) ws).map PyData.list | none=>none)=some d:=e
   cases e1:af st l with
   | none=>rw[e1] at e';cases e'
   | some ws=>
    rw[e1] at e'
    have e'':(gy (aG st n) ws).map PyData.list=some d:=e'
    cases e2:gy (aG st n) ws with
    | none=>rw[e2] at e'';cases e''
    | some ds=>
     rw[e2] at e''
     cases e''
     obtain⟨xs,hq,h2⟩:=S.read h1 e1
     obtain⟨its,rv,ht,hz⟩:=I.list hq
     obtain⟨as,q1,q2,q3⟩:=gT ih ws xs its ds h2 rv e2
     obtain⟨o,ho,hc,k,hd⟩:=ht.isList
     exact⟨_,.list ho hc hd (by simpa using q1),q2,Nat.succ_le_succ q3⟩
end
def oEq:dD:=fun x y st=>match aG st 20 x,aG st 20 y with
 | some a,some b=> .ok (.bl (PyData.eqv a b)) st
 | _,_=> .bad
def xB:dD:=fun x y st=>match aG st 20 x,aG st 20 y with
 | some a,some b=> .ok (.bl (!PyData.eqv a b)) st
 | _,_=> .bad
section
variable {X:Cx}
def Ko (K:PySem.W.Frag) (neg:Bool):R2:=fun a b H Q=>∃m st x y da db,aK K m st H/\ae K m H x a/\ae K m H y b/\aG st 20 x=some da/\aG st 20 y=some db/\Q (.bl (if neg then !PyData.eqv da db else PyData.eqv da db)) H
theorem gU {n:Nat} {d:PyData} (hn:n<=64) (h:d.canLay0=true) (k:d.depth<=n):shaped d=true:=by
 unfold shaped
 rw[h,decide_eq_true (Nat.le_trans k hn)]
 rfl
theorem Ga (hu:X.A.units+64 < cLine):cW X (US .Eq) (Ko X.K false):=by
 intro pins s σ H a b v u Q I rx ry h
 obtain⟨m,st,x,y,da,db,S,h1,h2,e1,e2,q⟩:=h
 obtain⟨as,q1,q2,q3⟩:=bX I S 20 x a v da h1 rx e1
 obtain⟨bs,p1,p2,p3⟩:=bX I S 20 y b u db h2 ry e2
 exact eq_dataH q1 p1 (gU (by decide) q2 q3) (gU (by decide) p2 p3) hu ⟨.bl _,H,I,rfl,q⟩
theorem Gb (hu:X.A.units+64 < cLine):cW X (US .NotEq) (Ko X.K true):=by
 intro pins s σ H a b v u Q I rx ry h
 obtain⟨m,st,x,y,da,db,S,h1,h2,e1,e2,q⟩:=h
 obtain⟨as,q1,q2,q3⟩:=bX I S 20 x a v da h1 rx e1
 obtain⟨bs,p1,p2,p3⟩:=bX I S 20 y b u db h2 ry e2
 exact ne_dataH q1 p1 (gU (by decide) q2 q3) (gU (by decide) p2 p3) hu ⟨.bl _,H,I,rfl,q⟩
theorem Ed (hu:X.A.units+64 < cLine):gz X (US .Eq) oEq:=⟨_,Ga hu,fun x y a b st H m Q S rx ry p=>by
 unfold oEq at p
 cases e1:aG st 20 x with
 | none=>rw[e1] at p;exact False.elim p
 | some da=>
  cases e2:aG st 20 y with
  | none=>rw[e1,e2] at p;exact False.elim p
  | some db=>
   rw[e1,e2] at p
   exact⟨m,st,x,y,da,db,S,rx,ry,e1,e2,p _ m H Ext.refl S fe⟩⟩
theorem Ee (hu:X.A.units+64 < cLine):gz X (US .NotEq) xB:=⟨_,Gb hu,fun x y a b st H m Q S rx ry p=>by
 unfold xB at p
 cases e1:aG st 20 x with
 | none=>rw[e1] at p;exact False.elim p
 | some da=>
  cases e2:aG st 20 y with
  | none=>rw[e1,e2] at p;exact False.elim p
  | some db=>
   rw[e1,e2] at p
   exact⟨m,st,x,y,da,db,S,rx,ry,e1,e2,p _ m H Ext.refl S fe⟩⟩
def dY:Wv->Bool
 | .aB=>true
 | .bl _=>true
 | .int _=>true
 | .str _=>true
 | _=>false
def Kp:Wv->Wv->Bool
 | .aB,.aB=>true
 | .bl a,.bl b=>a == b
 | .bl a,.int b=>(if a then 1 else 0) == b
 | .int a,.bl b=>a == (if b then 1 else 0)
 | .int a,.int b=>a == b
 | .str a,.str b=>a == b
 | _,_=>false
def fH (st:Hs):Wv->Option (List Wv)
 | .tup ws=>some ws
 | .lx ws=>some ws
 | .ref l=>af st l
 | _=>none
def NF:dD:=fun x y st=>match fH st y with
 | some ws=>if dY x=true/\ws.all dY=true then .ok (.bl (ws.any fun z=>Kp z x)) st else .bad
 | none=> .bad
def sC:dD:=fun x y st=>match fH st y with
 | some ws=>if dY x=true/\ws.all dY=true then .ok (.bl (!(ws.any fun z=>Kp z x))) st else .bad
 | none=> .bad
theorem lG {m:Mp} {H:Hp} {x:Wv} {a:V} (h:ae X.K m H x a) (f:dY x=true):ij a=true:=by
 cases x with
 | aB=>unfold ae at h;subst h;rfl
 | bl b=>unfold ae at h;subst h;rfl
 | int b=>unfold ae at h;subst h;rfl
 | str b=>unfold ae at h;obtain⟨h,_⟩:=h;subst h;rfl
 | _=>cases f
theorem B_ {m:Mp} {H:Hp} {x y:Wv} {a b:V} (h:ae X.K m H x a) (k:ae X.K m H y b) (f:dY x=true) (g:dY y=true):BW a b=Kp x y:=by
 cases x with
 | aB=>
  unfold ae at h;subst h
  cases y with
  | str j=>unfold ae at k;obtain⟨k,_⟩:=k;subst k;rfl
  | tup j=>cases g
  | lx j=>cases g
  | ref j=>cases g
  | ty j=>cases g
  | cls j=>cases g
  | eR j=>cases g
  | fn fp j=>cases g
  | _=>unfold ae at k;subst k;rfl
 | bl i=>
  unfold ae at h;subst h
  cases y with
  | str j=>unfold ae at k;obtain⟨k,_⟩:=k;subst k;rfl
  | tup j=>cases g
  | lx j=>cases g
  | ref j=>cases g
  | ty j=>cases g
  | cls j=>cases g
  | eR j=>cases g
  | fn fp j=>cases g
  | _=>unfold ae at k;subst k;rfl
 | int i=>
  unfold ae at h;subst h
  cases y with
  | str j=>unfold ae at k;obtain⟨k,_⟩:=k;subst k;rfl
  | tup j=>cases g
  | lx j=>cases g
  | ref j=>cases g
  | ty j=>cases g
  | cls j=>cases g
  | eR j=>cases g
  | fn fp j=>cases g
  | _=>unfold ae at k;subst k;rfl
 | str i=>
  unfold ae at h;obtain⟨h,_⟩:=h;subst h
  cases y with
  | str j=>unfold ae at k;obtain⟨k,_⟩:=k;subst k;rfl
  | tup j=>cases g
  | lx j=>cases g
  | ref j=>cases g
  | ty j=>cases g
  | cls j=>cases g
  | eR j=>cases g
  | fn fp j=>cases g
  | _=>unfold ae at k;subst k;rfl
 | _=>cases f
theorem jy {m:Mp} {H:Hp} {x:Wv} {a:V} (h:ae X.K m H x a) (f:dY x=true):∀{ws:List Wv} {xs:List V},ah X.K m H ws xs->ws.all dY=true->xs.all ij=true/\LY a xs=ws.any fun z=>Kp z x
 | [],xs,r,_=>by unfold ah at r;subst r;exact⟨rfl,rfl⟩
 | w::ws,xs,r,g=>by
  unfold ah at r
  obtain⟨y,yr,rfl,r1,r2⟩:=r
  rw[List.all_cons,Bool.and_eq_true] at g
  obtain⟨q1,q2⟩:=jy h f r2 g.2
  constructor
  ·rw[List.all_cons,lG r1 g.1,q1];rfl
  ·unfold LY at q2 ⊢
   rw[List.any_cons,List.any_cons,B_ r1 h g.1 f,q2]
theorem kI {m:Mp} {H:Hp} {st:Hs} {y:Wv} {b:V} {ws:List Wv} (S:aK X.K m st H) (h:ae X.K m H y b) (e:fH st y=some ws):∃p xs,b= .ref p/\(gq X.K H p xs\/dq X.K H p xs)/\ah X.K m H ws xs:=by
 cases y with
 | tup zs=>
  cases e
  unfold ae at h
  obtain⟨p,xs,e1,e2,e3⟩:=h
  exact⟨p,xs,e1,.inr (dq.of e2),e3⟩
 | lx zs=>
  cases e
  unfold ae at h
  obtain⟨p,xs,e1,e2,e3⟩:=h
  exact⟨p,xs,e1,.inr (.inr e2),e3⟩
 | ref l=>
  unfold ae at h
  obtain⟨p,e1,e2⟩:=h
  obtain⟨xs,q1,q2⟩:=S.read e2 e
  exact⟨p,xs,e1,.inl q1,q2⟩
 | _=>cases e
theorem Kq:gz X (US .In) NF:=⟨_,vW,fun x y a b st H m Q S rx ry p=>by
 unfold NF at p
 cases e:fH st y with
 | none=>rw[e] at p;exact False.elim p
 | some ws=>
  rw[e] at p
  by_cases c:dY x=true/\ws.all dY=true
  ·simp only[if_pos c] at p
   obtain⟨q,xs,e1,e2,e3⟩:=kI S ry e
   obtain⟨f1,f2⟩:=jy rx c.1 e3 c.2
   refine⟨q,xs,e1,e2,lG rx c.1,f1,?_⟩
   rw[f2]
   exact p _ m H Ext.refl S fe
  ·simp only[if_neg c] at p;exact False.elim p⟩
theorem yH:gz X (US .NotIn) sC:=⟨_,oF,fun x y a b st H m Q S rx ry p=>by
 unfold sC at p
 cases e:fH st y with
 | none=>rw[e] at p;exact False.elim p
 | some ws=>
  rw[e] at p
  by_cases c:dY x=true/\ws.all dY=true
  ·simp only[if_pos c] at p
   obtain⟨q,xs,e1,e2,e3⟩:=kI S ry e
   obtain⟨f1,f2⟩:=jy rx c.1 e3 c.2
   refine⟨q,xs,e1,e2,lG rx c.1,f1,?_⟩
   rw[f2]
   exact p _ m H Ext.refl S fe
  ·simp only[if_neg c] at p;exact False.elim p⟩
def cE:dD
 | .str z,.int i,st=>if z.length<=lim then(match jS z.cps.toList i with | some c=> .ok (.str ⟨#[c]⟩) st | none=> .bad) else .bad
 | x,.int i,st=>match fH st x with
  | some ws=>(match jS ws i with | some w=> .ok w st | none=> .bad)
  | none=> .bad
 | _,_,_=> .bad
theorem Ca {m:Mp} {H:Hp} {ws:List Wv} {xs:List V} {i:Int} {w:Wv} (r:ah X.K m H ws xs) (h:jS ws i=some w):∃x,jS xs i=some x/\ae X.K m H w x:=by
 unfold jS at h ⊢
 rw[<-r.length]
 cases e:vV ws.length i with
 | none=>rw[e] at h;cases h
 | some j=>rw[e] at h;exact r.get h
theorem Cb {α:Type} {xs:List α} {i:Int} {v:α} (h:jS xs i=some v):v∈xs:=by
 obtain⟨j,_,h2,_⟩:=kG h
 exact List.mem_of_getElem? h2
theorem wd {z:PySem.Str} {c:Nat} (h:PyData.strOk z=true) (hc:c∈z.cps.toList):PyData.strOk ⟨#[c]⟩=true:=by
 unfold PyData.strOk at h ⊢
 rw[Array.all_eq_true_iff_forall_mem] at h
 have q:=h c (by simpa using hc)
 simpa using q
theorem Kr {a b:Expr} {ga gb:GE} {pos:Pos} (ha:JE X a ga) (hb:JE X b gb) (hs:uo b:=by exact fun _ _=>rfl):JE X (.Subscript a b pos) (aj cE ga gb) :=
 JE.of (JV FC az az hs) fun ρ st σ H m Q S R p=>ux (op:=cE) (fun x y a b st H m Q S rx ry p=>by
  have seqs:∀(i:Int),y= .int i->(match fH st x with | some ws=>(match jS ws i with | some w=>Re.ok w st | none=> .bad) | none=> .bad)=cE x y st->P4 X.K a b H Q:=fun i hy hp=>by
   subst hy
   rw[<-hp] at p
   cases e:fH st x with
   | none=>rw[e] at p;exact False.elim p
   | some ws=>
    rw[e] at p
    dsimp only at p
    cases e1:jS ws i with
    | none=>rw[e1] at p;exact False.elim p
    | some w=>
     rw[e1] at p
     obtain⟨q,xs,e2,e3,e4⟩:=kI S rx e
     obtain⟨v,f1,f2⟩:=Ca e4 e1
     rcases e3 with e3 | e3
     ·exact .inl ⟨q,xs,i,v,e2,aC ry,e3,f1,p v m H Ext.refl S f2⟩
     ·exact .inr (.inl ⟨q,xs,i,v,e2,aC ry,e3,f1,p v m H Ext.refl S f2⟩)
  cases y with
  | int i=>
   cases x with
   | str z=>
    dsimp only[cE] at p
    by_cases c:z.length<=lim
    ·simp only[if_pos c] at p
     cases e1:jS z.cps.toList i with
     | none=>rw[e1] at p;exact False.elim p
     | some ch=>
      rw[e1] at p
      exact .inr (.inr ⟨z,i,ch,(cZ rx).1,aC ry,cx c,e1,p _ m H Ext.refl S (mkStr (wd (cZ rx).2 (Cb e1)))⟩)
    ·simp only[if_neg c] at p;exact False.elim p
   | _=>exact seqs i rfl rfl
  | _=>cases x<;>exact False.elim p) ha hb S R p
abbrev GO:=aS->Hs->Re (Option Int)
def SO (X:Cx) (e:Option Expr):TO:=fun σ H Q=>∀(pins:List (UE×Obj)) (s:UK),Inv X pins σ H s->UZ (model X.prog X.w) X.A (evalPart e X.env) (fun u s'=>∃o H',Inv X pins σ H' s'/\IsPart u o/\Q o H') X.xe s
theorem nI {e:Option Expr}:PO X e (SO X e):=fun pins s _ _ _ I h=>h pins s I
def Rw (K:PySem.W.Frag) (m:Mp) (H:Hp) (Q:Option Int->Hp->Prop) (o:Option Int) (st:Hs):Prop:=∀(m':Mp) (H':Hp),Ext K m H m' H'->aK K m' st H'->Q o H'
def JO (X:Cx) (e:Option Expr) (g:GO):Prop:=∀(ρ:aS) (st:Hs) (σ:St) (H:Hp) (m:Mp) (Q:Option Int->Hp->Prop),aK X.K m st H->aq X.K m H ρ σ->ar X σ m H (g ρ st) (Rw X.K m H Q)->SO X e σ H Q
def kJ:GO:=fun _ st=> .ok none st
def nJ (g:GE):GO:=fun ρ st=>(g ρ st).bind fun w st1=>match w with
 | .int i=> .ok (some i) st1
 | _=> .bad
theorem Cc:JO X none kJ:=fun ρ st σ H m Q S R p pins s I=>BP pins s σ H Q I (p m H Ext.refl S)
theorem Cd {e:Expr} {g:GE} (h:JE X e g):JO X (some e) (nJ g):=fun ρ st σ H m Q S R p pins s I=>
 BQ az pins s σ H Q I (h.go S R (ar.bind p) fun w st1 v m1 H1 p1 e1 S1 r1=>by
  cases w with
  | int i=>exact⟨i,aC r1,p1 m1 H1 e1 S1⟩
  | _=>exact False.elim p1)
theorem JO.go {e:Option Expr} {g:GO} {ρ:aS} {st:Hs} {σ:St} {H:Hp} {m:Mp} {T:Option Int->Hp->Prop} {ok:Option Int->Hs->Prop} (h:JO X e g) (S:aK X.K m st H) (R:aq X.K m H ρ σ) (p:ar X σ m H (g ρ st) ok)
  (k:∀(b:Option Int) (st1:Hs) (m1:Mp) (H1:Hp),ok b st1->Ext X.K m H m1 H1->aK X.K m1 st1 H1->T b H1):SO X e σ H T :=
 h ρ st σ H m T S R (p.imp Ext.refl fun b st1 q m1 H1 e1 s1=>k b st1 m1 H1 q e1 s1)
def lH (xs:List Wv) (lo hi:Option Int):List Wv:=(xs.drop (HT.bQ xs.length 0 lo)).take (HT.bQ xs.length xs.length hi - HT.bQ xs.length 0 lo)
def Kt (x:Wv) (lo hi:Option Int) (st:Hs):Re Wv:=match x with
 | .tup ws=>if HT.bQ ws.length 0 lo=0/\HT.bQ ws.length ws.length hi=ws.length then .bad else .ok (.tup (lH ws lo hi)) st
 | .ref l=>match af st l with
  | some ws=> .ok (.ref st.length) (st++[.lst (lH ws lo hi)])
  | none=> .bad
 | _=> .bad
theorem oR {m:Mp} {H:Hp} {ws:List Wv} {xs:List V} {lo hi:Option Int} (r:ah X.K m H ws xs):ah X.K m H (lH ws lo hi) (mJ xs lo hi):=by
 unfold lH mJ
 rw[<-r.length]
 exact(r.drop _).take _
def sD (ga:GE) (gl gh:GO):GE:=fun ρ st=>(ga ρ st).bind fun x st1=>(gl ρ st1).bind fun lo st2=>(gh ρ st2).bind fun hi st3=>Kt x lo hi st3
theorem qf {a:Expr} {lo hi:Option Expr} {ga:GE} {gl gh:GO} {pos p2:Pos} (ha:JE X a ga) (hl:JO X lo gl) (hh:JO X hi gh):JE X (.Subscript a (.Slice lo hi none p2) pos) (sD ga gl gh):=by
 refine JE.of (lp (x9.or BV) az nI nI) fun ρ st σ H m Q S R p=>?_
 refine ha.go S R (ar.bind p) fun x st1 v m1 H1 p1 e1 S1 rx=>?_
 refine hl.go S1 (R.mono e1) ((ar.bind p1).imp e1 fun _ _ q=>q) fun l st2 m2 H2 p2 e2 S2=>?_
 refine hh.go S2 (R.mono (e1.trans e2)) ((ar.bind p2).imp (e1.trans e2) fun _ _ q=>q) fun h st3 m3 H3 p3 e3 S3=>?_
 have we:=e1.trans (e2.trans e3)
 have L8:=ae.mono (e2.trans e3) _ _ rx
 cases x with
 | tup ws=>
  have kh:cD X σ m H (if HT.bQ ws.length 0 l=0/\HT.bQ ws.length ws.length h=ws.length then .bad else .ok (.tup (lH ws l h)) st3) Q:=p3
  by_cases c:HT.bQ ws.length 0 l=0/\HT.bQ ws.length ws.length h=ws.length
  ·rw[if_pos c] at kh;exact False.elim kh
  ·rw[if_neg c] at kh
   unfold ae at L8
   obtain⟨q,xs,rfl,f1,f2⟩:=L8
   refine .inl ⟨q,xs,rfl,dq.of f1,by rw[<-f2.length];exact c,fun r hr=>?_⟩
   have e4:Ext X.K m3 H3 m3 (upd H3 r (.tup (mJ xs l h))):=Ext.upd (.inl hr)
   exact kh (.ref r) m3 _ (we.trans e4) (S3.fresh hr) (by unfold ae;exact⟨r,_,rfl,ay,ah.mono e4 _ _ (oR f2)⟩)
 | ref k=>
  have kh:cD X σ m H (match af st3 k with | some ws=> .ok (.ref st3.length) (st3++[.lst (lH ws l h)]) | none=> .bad) Q:=p3
  unfold ae at L8
  obtain⟨q,rfl,f1⟩:=L8
  cases e:af st3 k with
  | none=>rw[e] at kh;exact False.elim kh
  | some ws=>
   rw[e] at kh
   obtain⟨xs,g1,g2⟩:=S3.read f1 e
   exact .inr ⟨q,xs,rfl,g1,fun r hr=>dX kh we S3 (oR g2) r hr⟩
 | _=>exact False.elim p3
end
end J
namespace J
open PySem PySem.Spec PyProof.Rows L2
section
variable {X:Cx}
def bx (X:Cx) (f:UL) (op:List Wv->Hs->Re Wv):Prop:=∃r,bL X f r/\∀(ws:List Wv) (vs:List V) (st:Hs) (H:Hp) (m:Mp) (Q:VK),aK X.K m st H->ah X.K m H ws vs->bC X.K m H (op ws st) Q->r vs H Q
def au (op:List Wv->Hs->Re Wv) (g:GA):GE:=fun ρ st=>(g ρ st).bind fun ws st1=>(op ws st1).iM
theorem yI {x:Str} {id:String} {p pos:Pos} {e:Expr} {es:List Expr} {g:GA} {op:List Wv->Hs->Re Wv} (hc:bx X (.builtin id) op) (hg:Gl X x) (hm:X.mg x=none) (hv:UP x=some (.builtin id)) (ha:JA X (e::es) g)
  (hn:x≠"__name__":=by decide) (hdb:(x == ("__debug__":Str))=false:=by decide) (he:UY (e::es) X.env=(false,eval e X.env)::UY es X.env:=by rfl) (hpl:(backTo pos (UY es X.env)).any (·.1)=false:=by rfl) :
  JE X (.Call (.Name x p) (e::es) [] pos) (au op g):=by
 obtain⟨r,h1,h2⟩:=hc
 refine JE.of (xX h1 hg hm hv il hn hdb he hpl) fun ρ st σ H m Q S R p=>?_
 exact ha.go S R (ar.bind p) fun ws st1 vs m1 H1 p1 e1 S1 rs=>h2 ws vs st1 H1 m1 Q S1 rs (bC.shift (ar.iM p1) e1)
theorem wg {x:Str} {T:String} {p pos:Pos} {e:Expr} {es:List Expr} {g:GA} {op:List Wv->Hs->Re Wv} (hc:bx X (.type T) op) (hg:Gl X x) (hm:X.mg x=none) (hv:UP x=some (.type T)) (ha:JA X (e::es) g)
  (hn:x≠"__name__":=by decide) (hdb:(x == ("__debug__":Str))=false:=by decide) (he:UY (e::es) X.env=(false,eval e X.env)::UY es X.env:=by rfl) (hpl:(backTo pos (UY es X.env)).any (·.1)=false:=by rfl) :
  JE X (.Call (.Name x p) (e::es) [] pos) (au op g):=by
 obtain⟨r,h1,h2⟩:=hc
 refine JE.of (vU h1 hg hm hv il hn hdb he hpl) fun ρ st σ H m Q S R p=>?_
 exact ha.go S R (ar.bind p) fun ws st1 vs m1 H1 p1 e1 S1 rs=>h2 ws vs st1 H1 m1 Q S1 rs (bC.shift (ar.iM p1) e1)
theorem ie {m:Mp} {H:Hp} {w:Wv} {vs:List V} (r:ah X.K m H [w] vs):∃v,vs=[v]/\ae X.K m H w v:=by
 unfold ah at r
 obtain⟨v,t,rfl,h1,h2⟩:=r
 unfold ah at h2
 subst h2
 exact⟨v,rfl,h1⟩
theorem sE {m:Mp} {H:Hp} {w w':Wv} {vs:List V} (r:ah X.K m H [w,w'] vs):∃v v',vs=[v,v']/\ae X.K m H w v/\ae X.K m H w' v':=by
 unfold ah at r
 obtain⟨v,t,rfl,h1,h2⟩:=r
 obtain⟨v',rfl,h3⟩:=ie h2
 exact⟨v,v',rfl,h1,h3⟩
def ff:List Wv->Hs->Re Wv
 | [.str z],st=>if z.length<=lim then .ok (.int z.length) st else .bad
 | [x],st=>match fH st x with
  | some ws=> .ok (.int ws.length) st
  | none=> .bad
 | _,_=> .bad
theorem yJ:bx X (.builtin "len") ff:=⟨_,oH.or oI,fun ws vs st H m Q S r p=>by
 match ws,r,p with
 | [],r,p=>exact False.elim p
 | x::y::t,r,p=>cases x<;>exact False.elim p
 | [x],r,p=>
  obtain⟨v,rfl,rx⟩:=ie r
  have seqs:(match fH st x with | some ws=>Re.ok (Wv.int ws.length) st | none=> .bad)=ff [x] st->(∃p ys,[v]=[V.ref p]/\(gq X.K H p ys\/dq X.K H p ys)/\Q (.int ys.length) H):=fun hp=>by
   rw[<-hp] at p
   cases e:fH st x with
   | none=>rw[e] at p;exact False.elim p
   | some ws=>
    rw[e] at p
    obtain⟨q,xs,rfl,e2,e3⟩:=kI S rx e
    refine⟨q,xs,rfl,e2,?_⟩
    rw[<-e3.length]
    exact p _ m H Ext.refl S mkInt
  cases x with
  | str z=>
   have p':bC X.K m H (if z.length<=lim then .ok (.int z.length) st else .bad) Q:=p
   by_cases c:z.length<=lim
   ·rw[if_pos c] at p'
    obtain⟨rfl,_⟩:=cZ rx
    exact .inr ⟨z,rfl,cx c,p' _ m H Ext.refl S mkInt⟩
   ·rw[if_neg c] at p';exact False.elim p'
  | _=>exact .inl (seqs rfl)⟩
def NG:List Wv->Hs->Re Wv
 | [.int i],st=> .ok (.int (if i < 0 then -i else i)) st
 | _,_=> .bad
def L9 (st:Hs) (T:String):Wv->Option Bool
 | .aB=>some false
 | .bl _=>some (T == "bool"||T == "int")
 | .int _=>some (T == "int")
 | .str _=>some (T == "str")
 | .tup _=>some (T == "tuple")
 | .lx _=>none
 | .ref l=>(af st l).map fun _=>T == "list"
 | .ty _=>none
 | .cls _=>none
 | .eR _=>none
 | .fn _ _=>none
def yK (T:String):Bool:=T == "int"||T == "str"||T == "bool"||T == "tuple"||T == "list"
def Ku:List Wv->Hs->Re Wv
 | [x,.ty T],st=>if yK T=true then(match L9 st T x with | some b=> .ok (.bl b) st | none=> .bad) else .bad
 | _,_=> .bad
def NH (K:PySem.W.Frag):List V->Hp->VK->Prop:=fun vs H Q=>∃m st x T v b,vs=[v,.ty T]/\aK K m st H/\ae K m H x v/\yK T=true/\L9 st T x=some b/\Q (.bl b) H
theorem yL:bL X (.builtin "isinstance") (NH X.K):=by
 intro pins s σ H xs us Q I r h
 obtain⟨m,st,x,T,v,b,rfl,S,rx,hT,hb,q⟩:=h
 obtain⟨u,u',rfl,r1,r2⟩:=vals2 r
 cases r2
 have fin:∀tk,EP X pins σ Q (.bool b) { s with toks:=tk }:=fun tk=>⟨.bl b,H,I.tok tk,rfl,q⟩
 have yM:EP X pins σ Q (.bool b) s:=⟨.bl b,H,I,rfl,q⟩
 unfold yK at hT
 simp only[Bool.or_eq_true,beq_iff_eq] at hT
 cases x with
 | aB=>
  unfold ae at rx;subst rx;cases r1
  cases hb
  rcases hT with (((rfl | rfl) | rfl) | rfl) | rfl<;>
   exact call_isinstance (isinstance_false_none (by decide) (by kernel_rfl) (by rw[UU];kernel_rfl)) (fin _)
 | bl c=>
  unfold ae at rx;subst rx;cases r1
  rcases hT with (((rfl | rfl) | rfl) | rfl) | rfl<;>cases hb<;>first
   | exact call_isinstance_yes (Tx:="bool") rfl (by kernel_rfl) (by rw[UU];kernel_rfl) yM
   | exact call_isinstance (isinstance_false_bool (by decide) (by kernel_rfl) (by rw[UU];kernel_rfl)) (fin _)
 | int c=>
  unfold ae at rx;subst rx;obtain⟨t,rfl⟩:=r1
  rcases hT with (((rfl | rfl) | rfl) | rfl) | rfl<;>cases hb<;>first
   | exact call_isinstance_yes (Tx:="int") (typeIs_int s c t) (by kernel_rfl) (by rw[UU];kernel_rfl) yM
   | exact call_isinstance (isinstance_false_int (by decide) (by kernel_rfl) (by rw[UU];kernel_rfl)) (fin _)
 | str c=>
  obtain⟨rfl,_⟩:=cZ rx;obtain⟨t,rfl⟩:=r1
  rcases hT with (((rfl | rfl) | rfl) | rfl) | rfl<;>cases hb<;>first
   | exact call_isinstance_yes (Tx:="str") (typeIs_str s c t) (by kernel_rfl) (by rw[UU];kernel_rfl) yM
   | exact call_isinstance (isinstance_false_str (by decide) (by kernel_rfl) (by rw[UU];kernel_rfl)) (fin _)
 | lx ws=>cases hb
 | tup ws=>
  unfold ae at rx;obtain⟨a,xs,rfl,h1,h2⟩:=rx;cases r1
  obtain⟨its,rv,ht,hz⟩:=I.tuple (dq.of h1)
  have hty:=ht.typeIs
  obtain⟨o,ho,hc,k,hd⟩:=ht
  rcases hT with (((rfl | rfl) | rfl) | rfl) | rfl<;>cases hb<;>first
   | exact call_isinstance_yes (Tx:="tuple") hty (by kernel_rfl) (by rw[UU];kernel_rfl) yM
   | exact call_isinstance (isinstance_false_tuple (by decide) (by kernel_rfl) (by rw[UU];kernel_rfl)) ⟨⟨o,ho,hc⟩,fin _⟩
 | ref l=>
  unfold ae at rx;obtain⟨a,rfl,h1⟩:=rx;cases r1
  have hb':(af st l).map (fun _=>T == "list")=some b:=hb
  cases e:af st l with
  | none=>rw[e] at hb';cases hb'
  | some ws=>
   rw[e] at hb'
   obtain⟨xs,hq,h2⟩:=S.read h1 e
   obtain⟨its,rv,ht,hz⟩:=I.list hq
   have hty:=ht.isList.typeIs
   obtain⟨o,ho,hc,k,hd⟩:=ht.isList
   rcases hT with (((rfl | rfl) | rfl) | rfl) | rfl<;>cases hb'<;>first
    | exact call_isinstance_yes (Tx:="list") hty (by kernel_rfl) (by rw[UU];kernel_rfl) yM
    | exact call_isinstance (isinstance_false_list (by decide) (by kernel_rfl) (by rw[UU];kernel_rfl)) ⟨⟨o,ho,hc⟩,fin _⟩
 | ty t=>cases hb
 | cls t=>cases hb
 | eR t=>cases hb
 | fn fp t=>cases hb
theorem Gd:bx X (.builtin "isinstance") Ku:=⟨_,yL,fun ws vs st H m Q S r p=>by
 match ws,r,p with
 | [],r,p=>exact False.elim p
 | [x],r,p=>cases x<;>exact False.elim p
 | x::y::z::t,r,p=>cases y<;>exact False.elim p
 | [x,y],r,p=>
  obtain⟨v,v',rfl,rx,ry⟩:=sE r
  cases y with
  | ty T=>
   unfold ae at ry
   subst ry
   have p':bC X.K m H (if yK T=true then(match L9 st T x with | some b=> .ok (.bl b) st | none=> .bad) else .bad) Q:=p
   by_cases c:yK T=true
   ·rw[if_pos c] at p'
    cases e:L9 st T x with
    | none=>rw[e] at p';exact False.elim p'
    | some b=>rw[e] at p';exact⟨m,st,x,T,v,b,rfl,S,rx,c,e,p' _ m H Ext.refl S fe⟩
   ·rw[if_neg c] at p';exact False.elim p'
  | _=>exact False.elim p⟩
def bI:GS:=fun ρ st=> .nx ρ st
def aD (g h:GS):GS:=fun ρ st=>match g ρ st with
 | .nx ρ' st'=>h ρ' st'
 | r=>r
theorem Ce:ip X [] bI:=ip.of Bx fun ρ st σ H m D S R p=>p σ m H Ext.refl S R
theorem yN {s:Stmt} {rest:List Stmt} {g h:GS} (h1:JS X s g) (h2:ip X rest h):ip X (s::rest) (aD g h) :=
 ip.of (xM D6 cj) fun ρ st σ H m D S R p=>h1 ρ st σ H m _ S R (by
  unfold aD at p
  cases e:g ρ st with
  | nx ρ' st'=>rw[e] at p;exact fun σ' m' H' e' S' R'=>h2 ρ' st' σ' H' m' D S' R' (av.shift p e')
  | rt w st'=>rw[e] at p;exact p
  | bk ρ' st'=>rw[e] at p;exact p
  | ct ρ' st'=>rw[e] at p;exact p
  | err c ρ' st'=>rw[e] at p;exact p
  | bad=>rw[e] at p;exact p)
theorem Cf {s:Stmt} {g:GS} (h1:JS X s g):ip X [s] g:=ip.of (By D6) fun ρ st σ H m D S R p=>h1 ρ st σ H m D S R p
def bK (g:GE):GS:=fun ρ st=>(g ρ st).aM ρ fun w st'=> .rt w st'
theorem Ge {e:Expr} {g:GE} {pos:Pos} (h:JE X e g):JS X (.Return (some e) pos) (bK g) :=
 JS.of (Fc az) fun ρ st σ H m D S R p=>h.go S R (av.bo R p) fun w st1 v m1 H1 q e1 S1 r1=>q v m1 H1 e1 S1 r1
theorem Cg {pos:Pos}:JS X (.Pass pos) bI:=JS.of Bz fun ρ st σ H m D S R p=>p σ m H Ext.refl S R
def gg (g:GE):GS:=fun ρ st=>(g ρ st).aM ρ fun _ st'=> .nx ρ st'
theorem Ci {e:Expr} {g:GE} {pos:Pos} (h:JE X e g) (hs:swapsWith e none pos.line X.env=pure false:=by rfl):JS X (.Expr e pos) (gg g) :=
 JS.of (BA az hs) fun ρ st σ H m D S R p=>h.go S R (av.bo R p) fun w st1 v m1 H1 q e1 S1 r1=>q σ m1 H1 e1 S1 (R.mono e1)
def lI (gt:GT) (ga gb:GS):GS:=fun ρ st=>(gt ρ st).aM ρ fun b st'=>if b=true then ga ρ st' else gb ρ st'
theorem Kv {c:Expr} {a b:List Stmt} {gt:GT} {ga gb:GS} {pos:Pos} (hc:JT X c gt) (ha:ip X a ga) (hb:ip X b gb):JS X (.If c a b pos) (lI gt ga gb) :=
 JS.of (Jt jU cj cj) fun ρ st σ H m D S R p=>hc.go S R (av.bo R p) fun k st1 m1 H1 q e1 S1=>by
  cases k with
  | true=>rw[if_pos rfl] at q ⊢;exact ha ρ st1 σ H1 m1 D S1 (R.mono e1) (av.shift q e1)
  | false=>rw[if_neg Bool.false_ne_true] at q ⊢;exact hb ρ st1 σ H1 m1 D S1 (R.mono e1) (av.shift q e1)
def aI (i:Nat) (g:GE):GS:=fun ρ st=>(g ρ st).aM ρ fun w st'=> .nx (ρ.set i (some w)) st'
theorem sF (i:Nat) {x:Str} {e:Expr} {g:GE} {pos pos':Pos} (hN:X.N.Nodup) (h:JE X e g) (hi:X.N[i]? =some x:=by rfl) (hx:Loc X.env.scope x:=by first | exact Or.inl rfl | exact Or.inr rfl) (hs:swapsWith e (some (.Name x pos')) pos.line X.env=pure false:=by rfl)
  (hf:X.fn x=true\/X.env.scope.names.lookup x=some .local:=by first | exact .inl rfl | exact .inr rfl | assumption):JS X (.Assign [.Name x pos'] e pos) (aI i g) :=
 JS.of (Ff hN hi hx az hs hf) fun ρ st σ H m D S R p=>h.go S R (av.bo R p) fun w st1 v m1 H1 q e1 S1 r1=>q _ m1 H1 e1 S1 ((R.mono e1).set i r1)
def a7:GS:=fun _ _=> .bad
theorem aO {s:Stmt}:JS X s a7:=JS.of xO fun ρ st σ H m D S R p=>p
theorem wj {s:List Stmt}:ip X s a7:=ip.of vO fun ρ st σ H m D S R p=>p
def Kw (o i v:Wv) (ρ:aS) (st:Hs):Rs:=match o,i with
 | .ref l,.int k=>match st[l]? with
  | some (.lst ws)=>(match vV ws.length k with | some j=> .nx ρ (st.set l (.lst (ws.set j v))) | none=> .bad)
  | _=> .bad
 | _,_=> .bad
def uC (ge go gi:GE):GS:=fun ρ st=>(ge ρ st).aM ρ fun v st1=>(go ρ st1).aM ρ fun o st2=>(gi ρ st2).aM ρ fun i st3=>Kw o i v ρ st3
theorem Cj {o i e:Expr} {go gi ge:GE} {pos pos':Pos} (he:JE X e ge) (ho:JE X o go) (hi:JE X i gi) (hs:swapsWithSole [.Subscript o i pos'] e pos.line X.env=pure false:=by rfl) (hw:swappedStores [.Subscript o i pos'] e X.env=pure none:=by rfl)
  (h1:(assignEach [.Subscript o i pos'] X.env).map (·.2)=[assign (.Subscript o i pos') X.env]:=by rfl)
  (ha:∀v,assign (.Subscript o i pos') X.env v=(do
   let ov <-holding [v] (eval o X.env)
   let iv <-holding [v,ov] (eval i X.env)
   standAt pos'
   holding [v,ov,iv] (setItem ov iv v)
   release [v,ov,iv] []):=by intro _;rfl):JS X (.Assign [.Subscript o i pos'] e pos) (uC ge go gi):=by
 refine JS.of (xQ az (Fe az az set_list ha) hs hw h1) fun ρ st σ H m D S R p=>?_
 refine he.go S R (av.bo R p) fun v st1 vv m1 H1 p1 e1 S1 rv=>?_
 refine ho.go S1 (R.mono e1) ((av.bo (m:=m) (H:=H) R p1).imp e1 fun _ _ q=>q) fun o' st2 ov m2 H2 p2 e2 S2 ro=>?_
 refine hi.go S2 (R.mono (e1.trans e2)) ((av.bo (m:=m) (H:=H) R p2).imp (e1.trans e2) fun _ _ q=>q) fun i' st3 iv m3 H3 p3 e3 S3 ri=>?_
 have we:=e1.trans (e2.trans e3)
 cases o' with
 | ref l=>
  cases i' with
  | int k=>
   have kh:av X m H (match st3[l]? with | some (.lst ws)=>(match vV ws.length k with | some j=> .nx ρ (st3.set l (.lst (ws.set j v))) | none=> .bad) | _=> .bad) D:=p3
   have Qa:=ae.mono e3 _ _ ro
   unfold ae at Qa
   obtain⟨a,rfl,f1⟩:=Qa
   cases e:st3[l]? with
   | none=>rw[e] at kh;exact False.elim kh
   | some ob=>
    cases ob with
    | dct kvs=>rw[e] at kh;exact False.elim kh
    | bM kvs=>rw[e] at kh;exact False.elim kh
    | mG kvs=>rw[e] at kh;exact False.elim kh
    | ic ns=>rw[e] at kh;exact False.elim kh
    | lst ws=>
     rw[e] at kh
     cases ej:vV ws.length k with
     | none=>simp only[ej] at kh;exact False.elim kh
     | some j=>
      simp only[ej] at kh
      obtain⟨xs,g1,g2⟩:=S3.lB f1 e
      refine⟨a,xs,k,j,rfl,aC ri,g1,by rw[<-g2.length];exact ej,?_⟩
      have Rx:=ae.mono (e2.trans e3) _ _ rv
      have e4:Ext X.K m3 H3 m3 (upd H3 a (.lst (xs.set j vv))):=Ext.upd (.inr ⟨xs,g1⟩)
      exact kh σ m3 _ (we.trans e4) (S3.write f1 e (g2.set j Rx)) (R.mono (we.trans e4))
  | _=>exact False.elim p3
 | _=>cases i'<;>exact False.elim p3
open Classical in
def forL (i:Nat) (gb:GS) (l:Nat) (all:List Wv):List Wv->aS->Hs->Rs
 | [],ρ,st=> .nx ρ st
 | w::r,ρ,st=>match gb (ρ.set i (some w)) st with
  | .nx ρ' st'=>if af st' l=some all then forL i gb l all r ρ' st' else .bad
  | .ct ρ' st'=>if af st' l=some all then forL i gb l all r ρ' st' else .bad
  | .bk ρ' st'=> .nx ρ' st'
  | .rt w st'=> .rt w st'
  | .err c ρ' st'=> .err c ρ' st'
  | .bad=> .bad
end
end J
namespace J
open PySem PySem.Spec PyProof.Rows L2
def CXJ (P:UJ) (w:UM):xA:=fun outer H s E e s'=>∃H' C,qa P w outer H s H' (.ref C) e s'/\E (.ref C) none H'
section
variable {X:Cx} {pins:List (UE×Obj)} {σ:St} {Hc H':Hp} {sc s':UK} {cls e:UL} {E:UL->UK->Prop} {Q:Unit->UK->Prop}
theorem old_ne (I:Inv X pins σ Hc sc) {b:UE} {o:Obj} (q:X.s₀.heap.get? b=some o):b≠X.env.locals:=fun z=>by
 have h1:=Heap.lt_size q
 have h2:=I.ok.above
 rw[z] at h1
 exact absurd (Nat.lt_of_lt_of_le h1 h2) (Nat.lt_irrefl _)
theorem Ck (I:Inv X pins σ Hc sc) (hst:X.stack=X.env::X.outer) (hf:X.env.frame=some X.env.locals) {b:UE} {o:Obj} (q:X.s₀.heap.get? b=some o) (hb:b∉frs X.outer):b∉frs X.stack:=fun z=>by
 rw[hst] at z
 unfold frs at z
 rw[List.filterMap_cons,hf] at z
 rcases List.mem_cons.mp z with z | z
 ·exact old_ne I q z
 ·exact hb z
theorem yO (hst:X.stack=X.env::X.outer) (hf:X.env.frame=some X.env.locals) {b:UE} (hb:b∈frs X.outer):b∈frs X.stack:=by
 rw[hst]
 unfold frs
 rw[List.filterMap_cons,hf]
 exact List.mem_cons_of_mem _ hb
theorem qg {M:Model} {A:UG} {E:UL->UK->Prop} {s:UK} {base:Heap} {env:Env} {outer:List Env} {L e:UE} {cls a0 nt:UL} {Q:Unit->UK->Prop} (hfr:A.frames=some (env::outer)) (hf:env.frame=some L)
  (x:base.StaysIn s.heap/\base.get? e=none/\s.heap.FunFrames base (env::outer)/\L5 s.heap base e cls a0 nt) (k:∀h',yq base (env::outer) e cls a0 L h'->s.heap.UpToSlots h'->Q () { s with heap:=h' }) :
  UZ M A (noteFrame (.ref e) env) Q E s:=by
 obtain⟨x1,x2,x3,x4⟩:=x
 by_cases z:nt=rawInt L
 ·subst z
  exact FU hf x4 (k s.heap ⟨x1,x2,x3,x4⟩ (Heap.UpToSlots.refl _))
 ·obtain⟨ox,us,T,ot,ws,g1,⟨g2,g3⟩,g4,g5,g6,g7,g8,g9,NI⟩:=x4
  subst g2
  have apart:∀b,b≠T->(s.heap.update T (Obj.mapFields (·.setIfInBounds 3 Value.none))).get? b=s.heap.get? b:=fun b hb=>Heap.get?_update_other _ _ (Ne.symm hb)
  have plain:∀b o,s.heap.get? b=some o->(∀vs,o.data≠.fields vs)->b≠T:=fun b o hb hd q=>by
   subst q
   rw[g8] at hb
   cases hb
   exact hd ws g9
  unfold noteFrame
  simp only[hf]
  refine U0 (wpAny_field g1 g4 g5 ?_)
  rw[if_pos (show(Value.ref T != Value.none)=true from by simp)]
  refine U0 (wpAny_field g8 g9 NI ?_)
  rw[if_neg (show ¬((nt == rawInt L)=true) from by simpa using z)]
  refine U0 (wpAny_setField g8 g9 (Array.getElem?_eq_some_iff.mp NI).1 ?_)
  refine yt (a0:=a0) hfr (x3.of_keeps fun b o hb hd=>⟨o,(apart b (plain b o hb hd)).trans hb,rfl⟩) hf ((apart e (Ne.symm g7)).trans g1) (fun b o hb=>(apart b fun q=>by rw[q,g6] at hb;cases hb).trans (x1 b o hb)) x2 g4 (Array.getElem?_eq_some_iff.mp g5).1 g3 fun h' y y4=>?_
  exact k h' y fun b o hb hd=>y4 b o ((apart b (plain b o hb hd)).trans hb) hd
theorem nK {M:Model} {A:UG} {E:UL->UK->Prop} {s:UK} {base h:Heap} {env:Env} {outer:List Env} {L a:UE} {cls:UL} {args:List UL} {Q:Unit->UK->Prop} (hfr:A.frames=some (env::outer)) (hf:env.frame=some L)
  (st:base.StaysIn h) (fs:h.FunFrames base (env::outer)) (mk:Heap.MadeExcOf h s.heap a cls args) (k:∀h' a0,yq base (env::outer) a cls a0 L h'->s.heap.UpToSlots h'->Q () { s with heap:=h' }) :
  UZ M A (noteFrame (.ref a) env) Q E s:=by
 obtain⟨t,e1,e2,e3⟩:=mk.there
 have fresh:∀b,h.get? b=none->base.get? b=none:=fun b hb=>by
  cases q:base.get? b with
  | none=>rfl
  | some o'=>have z:=st b o' q;rw[hb] at z;cases z
 have fs':=fs.of_keeps (h':=s.heap) fun b o hb _=>⟨o,mk.keeps b o hb,rfl⟩
 unfold noteFrame
 simp only[hf]
 refine U0 (wpAny_field e1 rfl (x:=.none) rfl ?_)
 rw[if_neg (by decide)]
 exact yt hfr fs' hf e1 (fun b o hb=>mk.keeps b o (st b o hb)) (fresh a mk.new) rfl (by simp) (a0:=.ref t) rfl fun h' l1 l4=>k h' (.ref t) l1 l4
theorem yP {ch:List UE} (hx:X.ex=[]) (hst:X.stack=X.env::X.outer) (hf:X.env.frame=some X.env.locals) (I:Inv X pins σ Hc sc) {B h2:Heap} (hch:∀b∈ch,dG X pins Hc b) (un:Un (frs X.stack) ch Hc H' sc.heap s'.heap) (up:s'.heap.UpToSlots h2) (stay:B.StaysIn h2)
  (qb:∀b o,sc.heap.get? b=some o->b∉frs X.stack->b∉ch->∃o',B.get? b=some o'/\(Hc b=none->o'=o)) :
  Un (frs X.outer) [] X.H₀ H' X.s₀.heap h2/\(∀b o,X.s₀.heap.get? b=some o->b∉frs X.outer->∃o',B.get? b=some o'/\(X.H₀ b=none->o'=o)):=by
 have nx:∀b:UE,b∉X.ex:=fun b=>by rw[hx];simp
 have nc:∀b o,X.s₀.heap.get? b=some o->b∉ch:=fun b o q z=>by
  rcases(hch b z).2.2.2.1 with y | y
  ·exact nx b y
  ·exact absurd (Nat.lt_of_lt_of_le (Heap.lt_size q) y) (Nat.lt_irrefl _)
 have Gf:∀b o,X.s₀.heap.get? b=some o->b∉frs X.outer->∃o',B.get? b=some o'/\(X.H₀ b=none->o'=o):=fun b o q hb=>by
  obtain⟨o1,q1⟩:=I.base.there b o q (nx b)
  obtain⟨o2,q2,q3⟩:=qb b o1 q1 (Ck I hst hf q hb) (nc b o q)
  refine⟨o2,q2,fun n=>?_⟩
  have q4:=I.base.keep b o q n hb (nx b)
  rw[q4] at q1
  cases q1
  exact q3 (I.base.free b o q n (nx b))
 have sl:∀b o,X.s₀.heap.get? b=some o->X.H₀ b=none->b∈frs X.outer->∃sl,h2.get? b=some { o with slots:=sl }:=fun b o q n hb=>by
  obtain⟨s1,q1⟩:=I.base.slot b o q n hb (nx b)
  obtain⟨s2,q2⟩:=un.slot b _ q1 (I.base.free b o q n (nx b)) (yO hst hf hb) (nc b o q)
  obtain⟨_,o3,q3,q4⟩:=I.ok.iy.mem hb
  rw[q] at q3
  cases q3
  obtain⟨s3,q5⟩:=up b _ q2 q4
  exact⟨s3,q5⟩
 refine⟨⟨fun b o q n hb _=>?_,fun b o q n hb _=>sl b o q n hb,fun b o q n _=>?_,fun b o q _=>?_,fun b xs h=>un.tups b xs (I.base.tups b xs h),fun b o u h=>un.fD b o u (I.base.fD b o u h),fun b ps h=>?_⟩,Gf⟩
 ·obtain⟨o2,q2,q3⟩:=Gf b o q hb
  rw[q3 n] at q2
  exact stay b o q2
 ·obtain⟨o1,q1⟩:=I.base.there b o q (nx b)
  exact un.free b o1 q1 (I.base.free b o q n (nx b)) (nc b o q)
 ·by_cases hb:b∈frs X.outer
  ·obtain⟨s3,q3⟩:=sl b o q (I.ok.Bt b hb) hb
   exact⟨_,q3⟩
  ·obtain⟨o2,q2,_⟩:=Gf b o q hb
   exact⟨o2,stay b o2 q2⟩
 ·obtain⟨m1,t1⟩:=I.base.gA b ps h
  obtain⟨m2,t2⟩:=un.gA b _ t1
  exact⟨m1++m2,by rw[<-Array.append_assoc];exact t2⟩
theorem jW (hx:X.ex=[]) (hst:X.stack=X.env::X.outer) (hf:X.env.frame=some X.env.locals) (I:Inv X pins σ Hc sc) (F:gG X pins Hc sc H' cls e s')
  (k:∀s2,qa X.prog X.w X.outer X.H₀ X.s₀ H' cls e s2->Q () s2):UZ (model X.prog X.w) X.A (leaving X.env e) Q E s':=by
 obtain⟨a,a0,nt,B,ch,rfl,os,bare,hch,un,hok,fl,qb⟩:=F
 have hfr:X.A.frames=some (X.env::X.outer):=by rw[I.ok.frames,hst]
 rw[hst] at fl
 unfold leaving
 refine U0 (qg hfr hf fl fun h1 hd1 up1=>?_)
 refine p8 hd1 fun h2 rR Kx=>k _ ?_
 obtain⟨k1,k2,⟨_,_,k3⟩,k4⟩:=rR
 obtain⟨u2,c2⟩:=yP hx hst hf I hch un (up1.trans Kx) k1 qb
 exact⟨a,a0,B,rfl,os.trans I.os,bare,u2,hok,⟨k1,k2,k3,k4⟩,c2⟩
theorem qh {P:UJ} {w:UM} {H:Hp} {h:Heap} {l:List UE} (ok:f' P w H h) (fr:∀b∈l,H b=none):f' P w H (PySem.W.hideAll h l):=fun a o q=>
 (ok a o q).stay (fun b u hb r=>PySem.W.hideAll_get _ r fun z=>by
  have n:=fr b z
  rcases hb with hb | hb
  ·rw[hb,q] at n;cases n
  ·rw[hb] at n;cases n) (fun _ r=>r) fun _ _ r=>r
theorem lJ {a C:UE} {args:List UL} (hx:X.ex=[]) (hst:X.stack=X.env::X.outer) (hf:X.env.frame=some X.env.locals) (I:Inv X pins σ Hc sc) (ho:s'.os=sc.os) (Ry:s'.gens=sc.gens)
  (M:Heap.MadeExcOf sc.heap s'.heap a (.ref C) args) (k:∀s2,qa X.prog X.w X.outer X.H₀ X.s₀ Hc (.ref C) (.ref a) s2->Q () s2):UZ (model X.prog X.w) X.A (leaving X.env (.ref a)) Q E s':=by
 have hfr:X.A.frames=some (X.env::X.outer):=by rw[I.ok.frames,hst]
 have fs:sc.heap.FunFrames (PySem.W.hideAll sc.heap (frs X.stack)) (X.env::X.outer):=by
  rw[<-hst]
  exact PySem.W.funFrames_hide I.stack fun env he b hb=>List.mem_filterMap.mpr ⟨env,he,hb⟩
 unfold leaving
 refine U0 (nK (base:=PySem.W.hideAll sc.heap (frs X.stack)) hfr hf (fun b o q=>PySem.W.of_hideAll _ q) fs M fun h1 t hd1 up1=>?_)
 refine p8 hd1 fun h2 rR Kx=>k _ ?_
 have up:=up1.trans Kx
 replace rR:oN (PySem.W.hideAll sc.heap (frs X.stack)) X.outer a (.ref C) t h2:=let ⟨k1,k2,⟨_,_,k3⟩,k4⟩:=rR;⟨k1,k2,k3,k4⟩
 obtain⟨u2,c2⟩:=yP (H':=Hc) (s':=s') (ch:=[]) hx hst hf I (fun b z=>by cases z) (Un.kept M.keeps) up rR.1 fun b o q hb _=>⟨o,PySem.W.hideAll_get _ q hb,fun _=>rfl⟩
 exact⟨a,t,_,rfl,ho.trans I.os,by rw[show({ s' with heap:=h2 }:UK).gens=sc.gens from Ry];exact I.bare,u2,qh I.hok I.iO,rR,c2⟩
end
def Ef (K:PySem.W.Frag) (m:Mp) (H:Hp) (r:Re Wv) (Q:VK) (E:XK):Prop:=match r with
 | .ok w st=>I_ K m H Q w st
 | .err c st=>∀(m':Mp) (H':Hp) (C:UE),Ext K m H m' H'->aK K m' st H'->ClsAt K c C->E (.ref C) none H'
 | .bad=>False
def spW (K:PySem.W.Frag) (n:Nat) (F:List Wv->Hs->Re Wv):Sp:=fun vs H Q E=>∃m st ws,aK K m st H/\ah K m H ws vs/\ws.length=n/\Ef K m H (F ws st) Q E
def aA (n:Nat) (F:List Wv->Hs->Re Wv) (g:GA):GE:=fun ρ st=>(g ρ st).bind fun ws st1=>if ws.length=n then F ws st1 else .bad
section
variable {X:Cx}
theorem Cm {k n:Nat} {f:UE} {fd:UH} {ps:List Str} {F:List Wv->Hs->Re Wv} {x:Str} {p pos:Pos} {e:Expr} {es:List Expr} {g:GA}
  (G:FnOk X.prog X.w X.K X.mg X.base (CXJ X.prog X.w) k f fd ps (spW X.K n F)) (hr:gD k X.A) (hm:X.mg x=some (.ref f)) (hk:PySem.W.keepIn X.K (.ref f)=true) (hb:Binds X.K fd ps []) (ha:JA X (e::es) g) (hg:Gl X x:=by rfl)
  (hdb:(x == ("__debug__":Str))=false:=by decide) (he:UY (e::es) X.env=(false,eval e X.env)::UY es X.env:=by rfl) (hpl:(backTo pos (UY es X.env)).any (·.1)=false:=by rfl) :
  JE X (.Call (.Name x p) (e::es) [] pos) (aA n F g):=by
 intro ρ st σ H m Q S R p pins s I
 have args:=ha.go (T:=fun vs H1=>∃ws st1 m1,cD X σ m H (if ws.length=n then F ws st1 else .bad) Q/\Ext X.K m H m1 H1/\aK X.K m1 st1 H1/\ah X.K m1 H1 ws vs) S R (ar.bind p)
  fun ws st1 vs m1 H1 p1 e1 S1 rs=>⟨ws,st1,m1,p1,e1,S1,rs⟩
 refine wpAny_Call_Name_kw (iQ I hg hm ?_ hdb)
 refine PySem.W.callWith_K (h₀:=X.base) I.ok.mod.E1 hk (aM (args pos pins s I) fun us s1 ⟨vs,H1,I1,r,ws,st1,m1,p1,e1,S1,rs⟩=>⟨I1.uh,?_⟩) he hpl
 by_cases c:ws.length=n
 ·rw[if_pos c] at p1
  let E:XK:=fun cl _ H2=>∃c' st2 m2 C,cl= .ref C/\ClsAt X.K c' C/\F ws st1= .err c' st2/\Ext X.K m1 H1 m2 H2/\aK X.K m2 st2 H2
  have sp:spW X.K n F vs H1 Q E:=by
   refine⟨m1,st1,ws,S1,rs,c,?_⟩
   cases er:F ws st1 with
   | ok w st2=>rw[er] at p1;exact cD.shift (r:=.ok w st2) p1 e1
   | err c' st2=>exact fun m2 H2 C e2 S2 hC=>⟨c',st2,m2,C,rfl,hC,er,e2,S2⟩
   | bad=>rw[er] at p1;exact False.elim p1
  have hl:us.length=ps.length:=by rw[<-r.length];exact G.len _ _ _ _ sp
  have bd:=hb s1 us I1.uh (by rw[List.append_nil];exact hl)
  rw[List.append_nil] at bd
  refine wpAny_call (codeAny_mono (G.run X.A X.stack s1 H1 ⟨us,[]⟩ us vs Q E hr I1.JM bd r sp) fun rr s2 hq=>?_)
  cases rr with
  | error x=>
   obtain⟨H2,C,fl,c',st2,m2,C',ec,hC,er,e2,S2⟩:=hq
   cases ec
   rw[er] at p1
   exact p1 m2 H2 x s2 (e1.trans e2) S2 ⟨C,pins,H1,s1,hC,I1,.inl fl.any⟩
  | ok fw=>
   cases fw with
   | ret u=>exact I1.after hq
   | next=>exact False.elim hq
   | brk=>exact False.elim hq
   | cont=>exact False.elim hq
 ·rw[if_neg c] at p1;exact False.elim p1
end
def dZ (n:Nat) (g:GS):List Wv->Hs->Re Wv:=fun ws st=>match g (ws.map some++List.replicate (n - ws.length) none) st with
 | .nx _ st'=> .ok .aB st'
 | .rt w st'=> .ok w st'
 | .err c _ st'=> .err c st'
 | _=> .bad
theorem qi {K:PySem.W.Frag} {m:Mp} {H:Hp} {N:List Str} {ws:List Wv} {vs:List V} (r:ah K m H ws vs) (h:ws.length<=N.length):aq K m H (ws.map some++List.replicate (N.length - ws.length) none) (L2.start N vs):=by
 have hl:=r.length
 refine⟨by unfold L2.start;simp[hl],fun i w e=>?_⟩
 by_cases hi:i < ws.length
 ·rw[List.getElem?_append_left (by simpa using hi),List.getElem?_map] at e
  cases q:ws[i]? with
  | none=>rw[q] at e;cases e
  | some w'=>
   rw[q] at e
   cases e
   obtain⟨x,h1,h2⟩:=r.get q
   refine⟨x,?_,h2⟩
   unfold L2.start
   rw[List.getElem?_append_left (by simp;omega),List.getElem?_map,h1]
   rfl
 ·rw[List.getElem?_append_right (by simpa using hi),List.getElem?_replicate] at e
  split at e<;>cases e
section
variable {P:UJ} {w:UM} {K:PySem.W.Frag} {mg:Str->Option UL} {base:Heap}
theorem sG {N:List Str} {qual:Str} {scope:Scope} {f:UE} {cdv:UL} {A:UG} {outer:List Env} {s s':UK} {H H':Hp} {E:XK} {σ:St} {c:PySem.Str} {e:UL}
  (r:oP (k8 (CXJ P w) P w K mg base N qual scope f cdv A outer s H E) σ H' c e s') (h:∀C,ClsAt K c C->E (.ref C) none H'):(k8 (CXJ P w) P w K mg base N qual scope f cdv A outer s H E).xe e s':=by
 obtain⟨C,pins,Hc,sc,hC,I,r⟩:=r
 rcases r with fl | ⟨rfl,a,args,rfl,ho,hg,M⟩
 ·exact jW (X:=k8 (CXJ P w) P w K mg base N qual scope f cdv A outer s H E) rfl rfl rfl I fl fun s2 rR=>⟨H',C,rR,h C hC⟩
 ·exact lJ (X:=k8 (CXJ P w) P w K mg base N qual scope f cdv A outer s H E) rfl rfl rfl I ho hg M fun s2 rR=>⟨H',C,rR,h C hC⟩
def yQ (K:PySem.W.Frag) (f:UE) (cdv:UL):Prop:=∃o,K.lookup f=some o/\∃fd,o.data= .func fd/\fd.code=cdv
theorem Eg {x qual:Str} {st:Stmt} {f:UE} {fd:UH} {N ps:List Str} {k:Nat} {g:GS} (F:DY K x qual st f fd) (S:FnScope N ps (defScope st))
  (body:∀(cdv:UL),yQ K f cdv->∀(A:UG) (outer:List Env) (s:UK) (H:Hp) (E:XK),gD k (A.deeper (envOfC qual (defScope st) s.heap.objs.size f cdv))->ip (k8 (CXJ P w) P w K mg base N qual (defScope st) f cdv A outer s H E) (defBody st) g) :
  FnOk P w K mg base (CXJ P w) (k+1) f fd ps (spW K ps.length (dZ N.length g)):=by
 have hpl:ps.length<=N.length:=by have:=congrArg List.length S.pre;rw[List.length_take] at this;omega
 obtain⟨oc,od,kV,doc,pm,an,cdv,ct,osl,rfl,lk,hcd⟩:=F.ex
 refine JP lk hcd S (fun vs H Q E h=>?_) fun A outer s H vs Q E hr h=>?_
 ·obtain⟨m,st',ws,_,r,hl,_⟩:=h
  rw[<-r.length];exact hl
 ·obtain⟨m,st',ws,S',r,hl,p⟩:=h
  refine⟨_,cj,?_⟩
  refine body cdv ⟨_,lk,_,rfl,rfl⟩ A outer s H E hr _ st' _ H m _ S' (qi r (by omega)) ?_
  unfold dZ at p
  cases e:g (ws.map some++List.replicate (N.length - ws.length) none) st' with
  | nx ρ st2=>rw[e] at p;exact fun σ m' H' e' S2 R2=>p _ m' H' e' S2 (by unfold ae;rfl)
  | rt w' st2=>rw[e] at p;exact p
  | bk ρ st2=>rw[e] at p;exact False.elim p
  | ct ρ st2=>rw[e] at p;exact False.elim p
  | err c ρ st2=>rw[e] at p;exact fun σ m' H' x s' e' S2 R2 rz=>sG rz fun C hC=>p m' H' C e' S2 hC
  | bad=>rw[e] at p;exact False.elim p
end
def OnlyT (H:Hp):Prop:=∀b,H b=none\/(∃o xs,H b=some (.bV o (.lst xs)))\/H b=some (.bw #[])
theorem OnlyT.of {H:Hp} (h:B0 H):OnlyT H:=fun b=>by
 rcases h b with q | q
 ·exact .inl q
 ·exact .inr (.inl q)
theorem law_sp {K:PySem.W.Frag} {F:List Wv->Hs->Re Wv} (h:∀ns:List Int,ns.length<=63->∃st,F [.ref 0] [.ic ns]= .ok (.bl true) st) (H:Hp) (a:UE) (ns:List Int) (hl:ns.length<=63) (hO:OnlyT H) (hS:gq K H a (ns.map V.int)) (hT:oO K H) :
  spW K 1 F [.ref a] H (fun v _=>v= .bl true) fun _ _ _=>False:=by
 obtain⟨st,e⟩:=h ns hl
 refine⟨[a],[.ic ns],[.ref 0],⟨rfl,fun l b o h1 h2=>?_,fun l l' b ws T8 _ _ h2 _ k _=>?_,hT⟩,ah.cons (by unfold ae;exact⟨a,rfl,rfl⟩) ah.nil,rfl,?_⟩
 ·cases l with
  | zero=>
   simp at h1 h2
   subst h1 h2
   show p_ K H a ns
   rcases hS with (q | ⟨o',q⟩) | q
   ·rcases hO a with z | ⟨o',xs,z⟩ | z
    ·rw[z] at q;cases q
    ·rw[z] at q;cases q
    ·rw[z] at q;cases q
   ·exact .inl ⟨o',q⟩
   ·exact .inr q
  | succ l=>simp at h1
 ·cases l with
  | zero=>simp at h2;subst h2;simp[Ob.mu] at k
  | succ l=>simp at h2
 ·rw[e]
  intro v m' H' _ _ r
  unfold ae at r
  exact r
end J
namespace J
open PySem PySem.Spec PyProof.Rows L2
def yR (w:Wv) (st:Hs):Re Bool:=match w with
 | .aB=> .ok false st
 | .bl b=> .ok b st
 | .int i=> .ok (i != 0) st
 | .str y=>if y.length<=lim then .ok ((y.length:Int) != 0) st else .bad
 | .tup ws=> .ok (!ws.isEmpty) st
 | .lx _=> .bad
 | .ref l=>match af st l with
  | some ws=> .ok (!ws.isEmpty) st
  | none=> .bad
 | .ty _=> .bad
 | .cls _=> .bad
 | .eR _=> .bad
 | .fn _ _=> .bad
def c9 (g:GE):GT:=fun ρ st=>(g ρ st).bind yR
section
variable {X:Cx}
theorem pR {m:Mp} {H:Hp} {ws:List Wv} {xs:List V} (r:ah X.K m H ws xs):(!ws.isEmpty)= !xs.isEmpty:=by
 have h:=r.length
 cases ws<;>cases xs<;>simp_all
theorem lK {e:Expr} {g:GE} (h:JE X e g) (he:∀whole,isTrue e X.env whole=(do let v <-whole;standAt e.pos;holding [v] (truthy v))):JT X e (c9 g) :=
 JT.of (xW az he) fun ρ st σ H m Q S R p=>h.go S R (ar.bind p) fun w st1 v m1 H1 p1 e1 S1 r1=>by
  cases w with
  | aB=>unfold ae at r1;subst r1;exact⟨false,rfl,p1 m1 H1 e1 S1⟩
  | bl b=>unfold ae at r1;subst r1;exact⟨b,rfl,p1 m1 H1 e1 S1⟩
  | int i=>unfold ae at r1;subst r1;exact⟨_,rfl,p1 m1 H1 e1 S1⟩
  | str y=>
   obtain⟨rfl,_⟩:=cZ r1
   have p2:fG X σ m H (if y.length<=lim then .ok ((y.length:Int) != 0) st1 else .bad) Q:=p1
   by_cases c:y.length<=lim
   ·rw[if_pos c] at p2;exact⟨_,⟨cx c,rfl⟩,p2 m1 H1 e1 S1⟩
   ·rw[if_neg c] at p2;exact False.elim p2
  | lx ws=>exact False.elim p1
  | tup ws=>
   unfold ae at r1
   obtain⟨a,xs,rfl,h1,h2⟩:=r1
   refine⟨!xs.isEmpty,.inr (.inl ⟨xs,dq.of h1,rfl⟩),?_⟩
   rw[<-pR h2]
   exact p1 m1 H1 e1 S1
  | ref l=>
   unfold ae at r1
   obtain⟨a,rfl,h1⟩:=r1
   have p2:fG X σ m H (match af st1 l with | some ws=> .ok (!ws.isEmpty) st1 | none=> .bad) Q:=p1
   cases el:af st1 l with
   | none=>rw[el] at p2;exact False.elim p2
   | some ws=>
    rw[el] at p2
    obtain⟨xs,hq,h2⟩:=S1.read h1 el
    refine⟨!xs.isEmpty,.inl ⟨xs,hq,rfl⟩,?_⟩
    rw[<-pR h2]
    exact p2 m1 H1 e1 S1
  | ty T=>exact False.elim p1
  | cls T=>exact False.elim p1
  | eR T=>exact False.elim p1
  | fn fp T=>exact False.elim p1
theorem qj {p:Nat->Bool} {x:Array Nat} (hx:x.all p=true):∀(n:Nat) (a:Array Nat),a.all p=true->((List.replicate n x).foldl (· ++·) a).all p=true
 | 0,a,h=>h
 | n+1,a,h=>by
  rw[List.replicate_succ,List.foldl_cons]
  refine qj hx n _ ?_
  rw[Array.all_append,h,hx]
  rfl
theorem wk {x:PySem.Str} {n:Nat} (h:PyData.strOk x=true):PyData.strOk (qe n x)=true:=by
 unfold PyData.strOk at h ⊢
 unfold qe
 exact qj h n #[] (by simp)
theorem nL {x:Array Nat}:∀(n:Nat) (a:Array Nat),((List.replicate n x).foldl (· ++·) a).size=a.size+x.size * n
 | 0,a=>by simp
 | n+1,a=>by
  rw[List.replicate_succ,List.foldl_cons,nL n,Array.size_append,Nat.mul_succ]
  omega
theorem yS {x:PySem.Str} {n:Nat}:(qe n x).length=x.length * n:=by
 show((List.replicate n x.cps).foldl (· ++·) #[]).size=x.cps.size * n
 rw[nL]
 simp
def nM (x:PySem.Str) (n:Int):Prop:=1 < n/\n<=100000/\x.length≠0/\x.length * n.toNat<=lim
instance {x n}:Decidable (nM x n):=by unfold nM;infer_instance
theorem Cn:cW X (UO .Mult) (fun x y H Q=>∃z n,x= .str z/\y= .int n/\nM z n/\Q (.str (qe n.toNat z)) H):=by
 intro pins s σ H x y v u Q I rx ry h
 obtain⟨z,n,rfl,rfl,⟨h1,h2,h3,h4⟩,q⟩:=h
 obtain⟨t,rfl⟩:=rx
 obtain⟨t',rfl⟩:=ry
 have n1:¬n < 1:=by omega
 have hlen:z.length<=lim:=by
  refine Nat.le_trans ?_ h4
  exact Nat.le_mul_of_pos_right _ (by omega)
 have hne:(n == 1||z.length == 0)=false:=by
  have e1:(n == 1)=false:=by rw[beq_eq_false_iff_ne];omega
  have e2:(z.length == 0)=false:=by rw[beq_eq_false_iff_ne];exact h3
  rw[e1,e2];rfl
 have hl:PySem.Builtin.Str.tooLong (z.length * n.toNat)=false:=by
  unfold PySem.Builtin.Str.tooLong
  have q:=cx h4
  first
   | exact decide_eq_false (by omega)
   | simp only[decide_eq_false_iff_not];omega
 refine PySem.P.mul_str (by
   have e1:¬n < -(2 ^ 63:Int):=by omega
   have e2:¬n >= 2 ^ 63:=by omega
   rw[decide_eq_false e1,decide_eq_false e2];rfl) (fun _ _=>?_) (fun _ _=>hl) ?_
 ·have e:((2:Int) ^ 63 - 1) / 100000<=(2 ^ 63 - 1) / n:=by
   refine Int.le_ediv_of_mul_le (by omega) ?_
   have:((2:Int) ^ 63 - 1) / 100000 * n<=((2:Int) ^ 63 - 1) / 100000 * 100000:=Int.mul_le_mul_of_nonneg_left h2 (by decide)
   exact Int.le_trans this (by decide)
  have e':(1000000:Int)<=(2 ^ 63 - 1) / 100000:=by decide
  unfold lim at hlen
  omega
 ·rw[if_neg n1,if_neg (by rw[hne];exact Bool.false_ne_true)]
  exact⟨by show(qe n.toNat z).length<=_;rw[yS];exact cx h4,.str (qe n.toNat z),H,I.tok _,⟨_,rfl⟩,q⟩
def Eh:dD
 | .int i,.int j,st=>if IntMulOk i j then .ok (.int (i * j)) st else .bad
 | .str z,.int n,st=>if nM z n then .ok (.str (qe n.toNat z)) st else .bad
 | _,_,_=> .bad
theorem Co:gz X (UO .Mult) Eh:=⟨_,cW.or B6 Cn,fun x y a b st H m Q S rx ry p=>by
 cases x with
 | int i=>
  cases y with
  | int j=>
   cases aC rx;cases aC ry
   have p':bC X.K m H (if IntMulOk i j then .ok (.int (i * j)) st else .bad) Q:=p
   by_cases c:IntMulOk i j
   ·rw[if_pos c] at p';exact .inl ⟨i,j,rfl,rfl,c,p' _ m H Ext.refl S mkInt⟩
   ·rw[if_neg c] at p';exact False.elim p'
  | _=>exact False.elim p
 | str z=>
  cases y with
  | int n=>
   obtain⟨rfl,hz⟩:=cZ rx
   cases aC ry
   have p':bC X.K m H (if nM z n then .ok (.str (qe n.toNat z)) st else .bad) Q:=p
   by_cases c:nM z n
   ·rw[if_pos c] at p';exact .inr ⟨z,n,rfl,rfl,c,p' _ m H Ext.refl S (mkStr (wk hz))⟩
   ·rw[if_neg c] at p';exact False.elim p'
  | _=>exact False.elim p
 | _=>exact False.elim p⟩
def aW:GE:=fun _ _=> .bad
def fI:GT:=fun _ _=> .bad
theorem ax {e:Expr}:JE X e aW:=fun ρ st σ H m Q S R p=>False.elim p
theorem fg {e:Expr}:JT X e fI:=fun ρ st σ H m Q S R p=>False.elim p
end
def iN (P:UJ) (w:UM) (K:PySem.W.Frag) (mg:Str->Option UL) (base:Heap) (k:Nat) (x:Str) (n:Nat) (F:List Wv->Hs->Re Wv):Prop :=
 ∃f fd ps,FnOk P w K mg base (CXJ P w) k f fd ps (spW K n F)/\mg x=some (.ref f)/\PySem.W.keepIn K (.ref f)=true/\Binds K fd ps []
theorem iN.mono {P:UJ} {w:UM} {K:PySem.W.Frag} {mg:Str->Option UL} {base:Heap} {j k:Nat} {x:Str} {n:Nat} {F:List Wv->Hs->Re Wv} (h:iN P w K mg base j x n F) (l:j<=k):iN P w K mg base k x n F:=by
 obtain⟨f,fd,ps,G,r⟩:=h
 exact⟨f,fd,ps,G.mono l,r⟩
def bD (K:PySem.W.Frag) (x:Str) (st:Stmt):Prop:=∃f fd,PySem.W.nsIn K UW x=some (some (.ref f))/\DY K x x st f fd
theorem bh {K:PySem.W.Frag} {x:Str} {st:Stmt} {f:UE} {oc:UL} {od an:Option UE} {osl:Array (Option UL)} {kV doc pm cdv ct:UL} (a:PySem.W.nsIn K UW x=some (some (.ref f)))
  (l:K.lookup f=some ⟨oc,od,.func (PySem.W.fnOf x x (defArgs st) (defBody st) (defScope st) .none kV doc pm an cdv ct),osl⟩) (c:PySem.W.codeIn K cdv x=true) (k:PySem.W.keepIn K (.ref f)=true):bD K x st:=⟨f,_,a,FK l c k⟩
theorem yT:UP "isinstance"=some (.builtin "isinstance"):=by decide+kernel
theorem wo:UP "len"=some (.builtin "len"):=by decide+kernel
theorem yU:UP "int"=some (.type "int"):=by decide+kernel
theorem yV:UP "str"=some (.type "str"):=by decide+kernel
theorem yW:UP "bool"=some (.type "bool"):=by decide+kernel
theorem yX:UP "tuple"=some (.type "tuple"):=by decide+kernel
theorem qk:UP "list"=some (.type "list"):=by decide+kernel
end J
namespace J
open PySem PySem.Spec PyProof.Rows L2
def fh (i:Nat) (gb:GS):List Wv->aS->Hs->Rs
 | [],ρ,st=> .nx ρ st
 | w::r,ρ,st=>match gb (ρ.set i (some w)) st with
  | .nx ρ' st'=>fh i gb r ρ' st'
  | .ct ρ' st'=>fh i gb r ρ' st'
  | .bk ρ' st'=> .nx ρ' st'
  | .rt w st'=> .rt w st'
  | .err c ρ' st'=> .err c ρ' st'
  | .bad=> .bad
section
variable {X:Cx}
theorem gH (i:Nat) {body:List Stmt} {gb:GS} (hb:ip X body gb) {J':It} {ws:List Wv} {m1:Mp} {H1:Hp} {st1:Hs} {ρ:aS} {σ:St} {D:Ends} (S1:aK X.K m1 st1 H1) (R:aq X.K m1 H1 ρ σ) (p1:av X m1 H1 (fh i gb ws ρ st1) D)
  (hgo:∀(k:Nat) (H:Hp) (m':Mp),Ext X.K m1 H1 m' H->k < ws.length->J'.go k H) (hstop:∀(k:Nat) (H:Hp) (m':Mp),Ext X.K m1 H1 m' H->k=ws.length->J'.stop k H)
  (hy:∀(k:Nat) (hk:k < ws.length) (H:Hp) (x:V) (H':Hp) (m':Mp),Ext X.K m1 H1 m' H->J'.pW k H x H'->H'=H/\ae X.K m' H ws[k] x) :
  ∃W:Nat->Nat->St->Hp->Prop,(∃m,W 0 m σ H1)/\∀k n σ H,W k n σ H->
   (J'.stop k H/\D.nx σ H)\/(J'.go k H/\∃N:St->Hp->Prop,(∀σ' H',N σ' H'->∃m',m' < n/\W (k+1) m' σ' H')/\∀x H',J'.pW k H x H'->pV i x σ H' fun σ2 H2=>J7 X body { D with nx:=N,ct:=N,bk:=D.nx } σ2 H2):=by
 let Pv:Nat->St->Hp->Prop:=fun k σ H=>∃ρ st m',Ext X.K m1 H1 m' H/\aK X.K m' st H/\aq X.K m' H ρ σ/\av X m' H (fh i gb (ws.drop k) ρ st) D
 refine⟨fun k n σ H=>n=ws.length - k/\k<=ws.length/\Pv k σ H,⟨ws.length,by simp,Nat.zero_le _,ρ,st1,m1,Ext.refl,S1,R,p1⟩,?_⟩
 rintro k n σ2 H2 ⟨rfl,hk,ρ2,st2,m2,e2,S2,R2,p2⟩
 by_cases hlt:k < ws.length
 ·refine .inr ⟨hgo k H2 m2 e2 hlt,Pv (k+1),fun σ' H' p'=>⟨ws.length - (k+1),by omega,rfl,hlt,p'⟩,fun x H' y=>?_⟩
  obtain⟨ee,jz⟩:=hy k hlt H2 x H' m2 e2 y
  subst ee
  have ed:ws.drop k=ws[k]::ws.drop (k+1):=List.drop_eq_getElem_cons hlt
  rw[ed] at p2
  refine hb _ st2 _ _ m2 _ S2 (R2.set i jz) ?_
  unfold fh at p2
  cases eg:gb (ρ2.set i (some ws[k])) st2 with
  | nx ρ3 st3=>rw[eg] at p2;exact fun σ3 m3 H3 e3 S3 R3=>⟨ρ3,st3,m3,e2.trans e3,S3,R3,av.shift p2 e3⟩
  | ct ρ3 st3=>rw[eg] at p2;exact fun σ3 m3 H3 e3 S3 R3=>⟨ρ3,st3,m3,e2.trans e3,S3,R3,av.shift p2 e3⟩
  | bk ρ3 st3=>rw[eg] at p2;exact p2
  | rt w3 st3=>rw[eg] at p2;exact p2
  | err c3 ρ3 st3=>rw[eg] at p2;exact p2
  | bad=>rw[eg] at p2;exact p2
 ·have e:k=ws.length:=by omega
  subst e
  rw[List.drop_length] at p2
  exact .inl ⟨hstop _ H2 m2 e2 rfl,p2 σ2 m2 H2 Ext.refl S2 R2⟩
def NJ (K:PySem.W.Frag) (tl:TE):TI:=fun σ H R=>tl σ H fun x H1=>∃a,x= .ref a/\(((∃xs,gq K H1 a xs)/\R (Na K a) H1)\/((∃xs,dq K H1 a xs)/\R (PZ K a) H1))
theorem yY {tg l:Expr} {tl:TE} (hl:PE X l tl):PI X tg l (NJ X.K tl):=by
 intro pins s σ H R I h
 refine aM (hl pins s σ H _ I h) fun v s1 ⟨x,H1,I1,r1,q1⟩=>?_
 obtain⟨a,e,q1⟩:=q1
 subst e
 cases r1
 have frs:∀b∈[s1.heap.objs.size],dG X pins H1 b:=fun b hb=>by
  have e:b=s1.heap.objs.size:=by simpa using hb
  subst e
  exact I1.pX (Nat.le_refl _) (I1.hok.fresh (Nat.le_refl _))
 rcases q1 with ⟨⟨xs,hq⟩,q⟩ | ⟨⟨xs,hq⟩,q⟩
 ·obtain⟨its,rv,p,hz⟩:=I1.list hq
  refine wpAny_pyIter_list p.isList ?_
  exact⟨s1.heap.objs.size,[s1.heap.objs.size],_,_,H1,rfl,I1.kept (t':=s1.toks) fun b o e=>Heap.get?_push_of_some _ e,ni a _,⟨_,Heap.get?_push_size _ rfl,rfl,rfl⟩,frs,q⟩
 ·obtain⟨its,rv,p,hz⟩:=I1.tuple hq
  refine wpAny_pyIter_tuple (show s1.heap.IsTuple a its.toArray from p) ?_
  exact⟨s1.heap.objs.size,[s1.heap.objs.size],_,_,H1,rfl,I1.kept (t':=s1.toks) fun b o e=>Heap.get?_push_of_some _ e,rT a _,⟨_,Heap.get?_push_size _ rfl,rfl,rfl⟩,frs,q⟩
def wq (i:Nat) (gi:GE) (gb:GS):GS:=fun ρ st=>(gi ρ st).aM ρ fun w st1=>match w with
 | .ref l=>(match af st1 l with | some ws=>forL i gb l ws ws ρ st1 | none=> .bad)
 | .tup ws=>fh i gb ws ρ st1
 | .lx ws=>fh i gb ws ρ st1
 | _=> .bad
theorem yZ (i:Nat) {x:Str} {iter:Expr} {body:List Stmt} {gi:GE} {gb:GS} {pos pos':Pos} (hN:X.N.Nodup) (hp:PassesOwn (model X.prog X.w) X.A X.env X.xe) (hc:X.calm=true) (hi:JE X iter gi) (hb:ip X body gb)
  (hx:X.N[i]? =some x) (hlo:Loc X.env.scope x) (Ky:X.fn x=true\/X.env.scope.names.lookup x=some .local)
  (hs:∀x,UT iter X.env x=pure x):JS X (.For (.Name x pos') iter body [] pos) (wq i gi gb):=by
 refine JS.of (jw hp hc (yY az) (iR hN hx hlo Ky) cj hs) fun ρ st σ H m D S R p=>?_
 refine hi.go S R (av.bo R p) fun w st1 v m1 H1 p1 e1 S1 rw'=>?_
 cases w with
 | ref l=>
  have p1':av X m H (match af st1 l with | some ws=>forL i gb l ws ws ρ st1 | none=> .bad) D:=p1
  unfold ae at rw'
  obtain⟨a,rfl,hla⟩:=rw'
  cases el:af st1 l with
  | none=>rw[el] at p1';exact False.elim p1'
  | some ws=>
   rw[el] at p1'
   obtain⟨Cp,q0,_⟩:=S1.read hla el
   refine⟨a,rfl,.inl ⟨⟨Cp,q0⟩,?_⟩⟩
   let Pv:Nat->St->Hp->Prop:=fun k σ H=>∃ρ st m',Ext X.K m1 H1 m' H/\aK X.K m' st H/\aq X.K m' H ρ σ/\af st l=some ws/\av X m' H (forL i gb l ws (ws.drop k) ρ st) D
   refine⟨fun k n σ H=>n=ws.length - k/\k<=ws.length/\Pv k σ H,⟨ws.length,by simp,Nat.zero_le _,ρ,st1,m1,Ext.refl,S1,R.mono e1,el,av.shift p1' e1⟩,?_⟩
   rintro k n σ2 H2 ⟨rfl,hk,ρ2,st2,m2,e2,S2,R2,l2,p2⟩
   obtain⟨xs,hq,rws⟩:=S2.read (e2.pre _ _ hla) l2
   have hlen:=rws.length
   by_cases hlt:k < ws.length
   ·have hx':k < xs.length:=by omega
    refine .inr ⟨⟨xs,xs[k],hq,by simp[hx']⟩,Pv (k+1),fun σ' H' p'=>⟨ws.length - (k+1),by omega,rfl,hlt,p'⟩,fun x H' y=>?_⟩
    obtain⟨ee,y⟩:=y
    subst ee
    have ey:=y xs hq
    have ed:ws.drop k=ws[k]::ws.drop (k+1):=List.drop_eq_getElem_cons hlt
    obtain⟨x',ex',jz⟩:=rws.get (i:=k) (w:=ws[k]) (List.getElem?_eq_getElem hlt)
    rw[ey] at ex'
    cases ex'
    rw[ed] at p2
    refine hb _ st2 _ _ m2 _ S2 (R2.set i jz) ?_
    unfold forL at p2
    cases eg:gb (ρ2.set i (some ws[k])) st2 with
    | nx ρ3 st3=>
     rw[eg] at p2
     by_cases c:af st3 l=some ws
     ·simp only[if_pos c] at p2
      exact fun σ3 m3 H3 e3 S3 R3=>⟨ρ3,st3,m3,e2.trans e3,S3,R3,c,av.shift p2 e3⟩
     ·simp only[if_neg c] at p2;exact False.elim p2
    | ct ρ3 st3=>
     rw[eg] at p2
     by_cases c:af st3 l=some ws
     ·simp only[if_pos c] at p2
      exact fun σ3 m3 H3 e3 S3 R3=>⟨ρ3,st3,m3,e2.trans e3,S3,R3,c,av.shift p2 e3⟩
     ·simp only[if_neg c] at p2;exact False.elim p2
    | bk ρ3 st3=>rw[eg] at p2;exact p2
    | rt w3 st3=>rw[eg] at p2;exact p2
    | err c3 ρ3 st3=>rw[eg] at p2;exact p2
    | bad=>rw[eg] at p2;exact p2
   ·have e:k=ws.length:=by omega
    subst e
    rw[List.drop_length] at p2
    exact .inl ⟨⟨xs,hq,by omega⟩,p2 σ2 m2 H2 Ext.refl S2 R2⟩
 | tup ws=>
  unfold ae at rw'
  obtain⟨a,xs,rfl,hq,rws⟩:=rw'
  have hlen:=rws.length
  refine⟨a,rfl,.inr ⟨⟨xs,dq.of hq⟩,?_⟩⟩
  refine gH i hb (ws:=ws) S1 (R.mono e1) (av.shift p1 e1) (fun k H m' e hk=>?_) (fun k H m' e hk=>?_) fun k hk H x H' m' e y=>?_
  ·have hx':k < xs.length:=by omega
   exact⟨xs,xs[k],dq.of (e.tup _ _ hq),by simp[hx']⟩
  ·exact⟨xs,dq.of (e.tup _ _ hq),by omega⟩
  ·obtain⟨ee,y⟩:=y
   refine⟨ee,?_⟩
   obtain⟨x',ex',jz⟩:=(ah.mono e _ _ rws).get (i:=k) (w:=ws[k]) (List.getElem?_eq_getElem hk)
   rw[y xs (dq.of (e.tup _ _ hq))] at ex'
   cases ex'
   exact jz
 | lx ws=>
  unfold ae at rw'
  obtain⟨a,xs,rfl,hq,rws⟩:=rw'
  have hlen:=rws.length
  refine⟨a,rfl,.inr ⟨⟨xs,.inr hq⟩,?_⟩⟩
  refine gH i hb (ws:=ws) S1 (R.mono e1) (av.shift p1 e1) (fun k H m' e hk=>?_) (fun k H m' e hk=>?_) fun k hk H x H' m' e y=>?_
  ·have hx':k < xs.length:=by omega
   exact⟨xs,xs[k],.inr hq,by simp[hx']⟩
  ·exact⟨xs,.inr hq,by omega⟩
  ·obtain⟨ee,y⟩:=y
   refine⟨ee,?_⟩
   obtain⟨x',ex',jz⟩:=(ah.mono e _ _ rws).get (i:=k) (w:=ws[k]) (List.getElem?_eq_getElem hk)
   rw[y xs (.inr hq)] at ex'
   cases ex'
   exact jz
 | _=>exact False.elim p1
def bY (lo:Int) (n:Nat):List Wv:=(List.range n).map fun k:Nat=>Wv.int (lo+k)
theorem wt {lo:Int} {n k:Nat} (h:k < n):(bY lo n)[k]? =some (.int (lo+k)):=by
 unfold bY
 rw[List.getElem?_map,List.getElem?_range h]
 rfl
theorem ql {lo:Int} {n k:Nat} (h:k < (bY lo n).length):(bY lo n)[k]= .int (lo+k):=by
 have q:=wt (lo:=lo) (n:=n) (k:=k) (by unfold bY at h;simpa using h)
 rw[List.getElem?_eq_getElem h] at q
 exact Option.some.inj q
theorem gI {lo:Int} {n:Nat}:(bY lo n).length=n:=by unfold bY;simp
def i6 (i:Int):Prop:=-(2 ^ 62)<=i/\i < 2 ^ 62
instance {i}:Decidable (i6 i):=Classical.propDecidable _
def lL (i:Nat) (ga:GA) (gb:GS):GS:=fun ρ st=>(ga ρ st).aM ρ fun ws st1=>match ws with
 | [.int j]=>if i6 j then fh i gb (bY 0 j.toNat) ρ st1 else .bad
 | _=> .bad
theorem Cq (i:Nat) {body:List Stmt} {gb:GS} (hb:ip X body gb) {lo:Int} {n:Nat} {m1:Mp} {H1:Hp} {st1:Hs} {ρ:aS} {σ:St} {D:Ends} (S1:aK X.K m1 st1 H1) (R:aq X.K m1 H1 ρ σ) (p1:av X m1 H1 (fh i gb (bY lo n) ρ st1) D) :
  ∃W:Nat->Nat->St->Hp->Prop,(∃m,W 0 m σ H1)/\∀k n' σ H,W k n' σ H->
   ((BD lo n).stop k H/\D.nx σ H)\/((BD lo n).go k H/\∃N:St->Hp->Prop,(∀σ' H',N σ' H'->∃m',m' < n'/\W (k+1) m' σ' H')/\∀x H',(BD lo n).pW k H x H'->pV i x σ H' fun σ2 H2=>J7 X body { D with nx:=N,ct:=N,bk:=D.nx } σ2 H2) :=
 gH i hb S1 R p1 (fun k H m' e hk=>by rw[gI] at hk;exact hk) (fun k H m' e hk=>by rw[gI] at hk;exact Nat.le_of_eq hk.symm) fun k hk H x H' m' e y=>by
  obtain⟨y1,y2⟩:=y
  refine⟨y1,?_⟩
  rw[ql,y2]
  exact mkInt
theorem y0 (i:Nat) {x:Str} {a:Expr} {body:List Stmt} {ga:GA} {gb:GS} {pos pos' p q:Pos} (hN:X.N.Nodup) (hp:PassesOwn (model X.prog X.w) X.A X.env X.xe) (hc:X.calm=true) (hg:Gl X "range") (hm:X.mg "range"=none) (ha:JA X [a] ga) (hb:ip X body gb)
  (hx:X.N[i]? =some x) (hlo:Loc X.env.scope x) (Ky:X.fn x=true\/X.env.scope.names.lookup x=some .local) (hst:UY [a] X.env=[(false,eval a X.env)]):JS X (.For (.Name x pos') (.Call (.Name "range" p) [a] [] q) body [] pos) (lL i ga gb):=by
 refine JS.of (jw hp hc (nj hg hm il hst) (iR hN hx hlo Ky) cj (fun _=>rfl)) fun ρ st σ H m D S R p=>?_
 refine ha.go S R (av.bo R p) fun ws st1 vs m1 H1 p1 e1 S1 rs=>?_
 match ws,rs,p1 with
 | [],rs,p1=>exact False.elim p1
 | x::y::t,rs,p1=>cases x<;>exact False.elim p1
 | [x],rs,p1=>
  obtain⟨v,rfl,r1⟩:=ie rs
  cases x with
  | int j=>
   cases aC r1
   have p2:av X m H (if i6 j then fh i gb (bY 0 j.toNat) ρ st1 else .bad) D:=p1
   by_cases c:i6 j
   ·rw[if_pos c] at p2
    exact⟨j,rfl,c.1,c.2,Cq i hb S1 (R.mono e1) (av.shift p2 e1)⟩
   ·rw[if_neg c] at p2;exact False.elim p2
  | _=>exact False.elim p1
theorem Cr {pos:Pos}:JS X (.Return none pos) (bK (gC .aB)):=JS.of BB fun ρ st σ H m D S R p=>p .aB m H Ext.refl S nH
end
end J
namespace J
open PySem PySem.Spec PyProof.Rows L2
abbrev wu:List UL:=[.type "ValueError",.type "Exception",.type "BaseException",.type "object"]
abbrev wx:String:="ValueError.__new__"
structure Cs (K:PySem.W.Frag) (c:PySem.Str) (C:UE):Prop where
 cls:ClsAt K c C
 exc:PySem.W.excIn K C wu wx=true
theorem fO {K:PySem.W.Frag} {h:Heap} {C:UE} (KX:K.In h) (q:PySem.W.excIn K C wu wx=true) :
  ∃(bm:List UL) (N:UE) (nm qn:Str) (bs:List UL) (hd:Bool) (sn:List Str) (sub:List UL) (ab:Bool) (col:Option Bool) (dd:Option UE) (k0 k1 k2 k3 k5:Option UL) (mN:Str->Option UL),
   h.get? C=some (excClassObj nm qn C N bs bm hd sn sub ab col dd k0 k1 k2 k3 k5 wx)/\h.Ns N mN/\mN "__init__"=none/\OwnTail h wu bm/\(∀v r,PySem.W.mroIn K C v=some r->(Value.ref C::bm).contains v=r):=by
 unfold PySem.W.excIn at q
 split at q
 ·rename_i dd cd sl lk
  split at q
  ·rename_i C1 bm k0 k1 k2 k3 n1 k5 em es
   simp only[Bool.and_eq_true,beq_iff_eq,Bool.not_eq_true'] at q
   obtain⟨⟨⟨⟨⟨q1,q2⟩,q3⟩,q4⟩,q5⟩,q6⟩:=q
   subst q1 q2
   obtain⟨nm,bs,mro,N,qn,hd,sn,sub,ab,col,del⟩:=cd
   dsimp only at em q3 q5 q6
   subst em q3
   have Rz:sl=#[k0,k1,k2,k3,some (.builtin wx),k5]:=by
    cases sl with
    | mk l=>exact congrArg Array.mk es
   subst Rz
   refine⟨bm,N,nm,qn,bs,hd,sn,sub,ab,col,dd,k0,k1,k2,k3,k5,_,KX _ _ lk,.of_isNs (PySem.W.isNs_of_in KX q5),PySem.W.nsMap_none_of_in KX q5 q6,PySem.W.tail_of_in KX q4,fun v r e=>?_⟩
   unfold PySem.W.mroIn PySem.W.clsIn at e
   rw[lk] at e
   first
    | exact Option.some.inj e
    | (simp at e;exact e)
  ·cases q
 ·cases q
section
variable {X:Cx}
def oS (c:PySem.Str) (ga:GA):GS:=fun ρ st=>(ga ρ st).aM ρ fun ws st1=>if ws.length<=lim then .err c ρ st1 else .bad
theorem y3 {c:Str} {C:UE} {e:Expr} {es:List Expr} {ga:GA} {np cpos pos:Pos} (hc:X.calm=true) (O:Cs X.K c C) (hg:Gl X c) (hm:X.mg c=some (.ref C)) (ha:JA X (e::es) ga) (hd:(c == ("__debug__":Str))=false)
  (he:UY (e::es) X.env=(false,eval e X.env)::UY es X.env) (hpl:(backTo cpos (UY es X.env)).any (·.1)=false):JS X (.Raise (some (.Call (.Name c np) (e::es) [] cpos)) none pos) (oS c ga):=by
 intro ρ st σ H m D S R p pins s I
 have args:=ha.go (T:=fun vs H1=>∃ws st1 m1,av X m H (if ws.length<=lim then .err c ρ st1 else .bad) D/\Ext X.K m H m1 H1/\aK X.K m1 st1 H1/\ah X.K m1 H1 ws vs) S R (av.bo R p)
  fun ws st1 vs m1 H1 p1 e1 S1 rs=>⟨ws,st1,m1,p1,e1,S1,rs⟩
 obtain⟨bm,N,nm,qn,bs,Ja,sn,sub,ab,col,dd,k0,k1,k2,k3,k5,mN,hC,hN,hni,T,_⟩:=fO I.ok.mod.E1 O.exc
 refine wpAny_Raise_call_subU (C:=C) (nm:=nm) (q:=qn) (N:=N) (bs:=bs) (bm:=bm) (hdct:=Ja) (sn:=sn) (sub:=sub) (ab:=ab) (col:=col) (dd:=dd) (k0:=k0) (k1:=k1) (k2:=k2) (k3:=k3) (k5:=k5) (bmB:=wu)
  F.excBase_ValueError (by decide) F.excBase_ValueError (mN:=mN) (T.hasType F.excBase_ValueError.hasBase) (I.ok.hd hc) ?_ hni (iQ I hg hm ⟨rfl,?_⟩ hd)
 ·rw[he]
  show(false||(backTo cpos (UY es X.env)).any (·.1))=false
  rw[hpl]
  rfl
 ·have go:=args cpos pins s I
  rw[he] at go ⊢
  refine Calls.evalArgs_plain (aM go fun us s1 ⟨vs,H1,I1,r,ws,st1,m1,p1,e1,S1,rs⟩=>?_)
  by_cases cl:ws.length<=lim
  ·rw[if_pos cl] at p1
   refine⟨rfl,by rw[<-r.length,<-rs.length];exact cx cl,I1.bk _ _ hC,hN.keeps I1.bk,T.keeps I1.bk,fun h2 a M=>?_⟩
   exact p1 σ m1 H1 _ _ e1 S1 (R.mono e1) ⟨C,pins,H1,s1,O.cls,I1,.inr ⟨rfl,a,us,rfl,rfl,rfl,M⟩⟩
  ·rw[if_neg cl] at p1;exact False.elim p1
end
end J
namespace J
open PySem PySem.Spec PyProof.Rows L2
structure jA (K:PySem.W.Frag) (C:UE):Prop where
 exc:PySem.W.excIn K C wu wx=true
 ga:PySem.W.findIn K (.ref C) "__getattribute__"=some (some (.builtin "BaseException.__getattribute__"))
 gx:PySem.W.findIn K (.ref C) "__getattr__"=some none
 cl:PySem.W.findIn K (.ref C) "__class__"=some (some (.builtin "object.__class__"))
section
variable {prog:UJ} {w:UM} {A:UG} {E:UL->UK->Prop} {h:Heap} {g:Array GenState} {d:Drawn} {t:Nat} {os:OsState} {a C:UE} {o:Obj} {K:PySem.W.Frag}
theorem Gg {R:Result->UK->Prop} (Y:K.In h) (Z:jA K C) (ha:h.get? a=some o) (hc:o.cls= .ref C) (k:R (.ok (.ret (.ref C))) ⟨h,g,d,t,os⟩) :
  UQ (model prog w) A (.call (.builtin "getset_descriptor.__get__") ⟨[.builtin "object.__class__",.ref a,.ref C],[]⟩) R ⟨h,g,d,t,os⟩:=by
 obtain⟨bm,N,nm,qn,bs,Ja,sn,sub,ab,col,dd,k0,k1,k2,k3,k5,mN,hC,hN,hni,T,_⟩:=fO Y Z.exc
 have ty:(⟨h,g,d,t,os⟩:UK).TypeIs (.builtin "object.__class__") "getset_descriptor":=F.typeOf_object_class
 have own:(Value.ref C::bm).contains (.type (".".intercalate ("object.__class__".cutAt '.').dropLast))=true:=by
  rw[F.owner_object_class,List.contains_cons,T.hasType (X:="object") (b:=true) (by decide)];rfl
 refine codeAny_call_builtin F.slot_gs_get.plain F.entry_gs_get (F.slot_gs_get.check _ _ _ _ _ _ _ _ ty (F.args_gs_get _ _ _) ?_)
 repeat (any_goals (first | assumption | (with_reducible refine wpAny_loadPart_at ha ?_;rw[hc]) | (with_reducible refine wpAny_isSubtype_exc hC ?_;rw[own]) | wp_step))
 refine⟨Code.quiet_builtin _ (by decide+kernel),codeAny_builtin F.entry_object_class ?_⟩
 repeat (any_goals (first | assumption | (with_reducible refine wpAny_loadPart_at ha ?_;rw[hc]) | wp_step))
theorem y6 {tk:Tok} {Q:Fin->UK->Prop} (Y:K.In h) (Z:jA K C) (ha:h.get? a=some o) (hc:o.cls= .ref C) (k:Q (.done (.ret (.ref C))) ⟨h,g,d,t,os⟩) :
  UZ (model prog w) A (Builtin.«object.__getattribute__» ⟨[.ref a,.str "__class__" tk],[]⟩) Q E ⟨h,g,d,t,os⟩:=by
 have ty:(⟨h,g,d,t,os⟩:UK).TypeIs (.builtin "object.__class__") "getset_descriptor":=F.typeOf_object_class
 have t1:=F.typeOf_object_class
 have t2:=F.slot_gs_get.lookup
 have t3:=F.slot_gs_set.lookup
 have L:=PySem.W.looks_findIn (M:=model prog w) Y Z.cl
 repeat (any_goals (first | assumption | (with_reducible refine wpAny_loadPart_at ha ?_;rw[hc]) | with_reducible refine L.at ?_ | wp_step))
 refine Gg Y Z ha hc ?_
 repeat (any_goals (first | assumption | wp_step))
theorem y7 {M:Model} {nv:UL} {Q:Unit->UK->Prop} (Y:K.In h) (Z:jA K C) (ha:h.get? a=some o) (hc:o.cls= .ref C) (k:Q () ⟨h,g,d,t,os⟩) :
  UZ M A (checkBuiltinCall "BaseException.__getattribute__" ⟨[.ref a,nv],[]⟩) Q E ⟨h,g,d,t,os⟩:=by
 obtain⟨bm,N,nm,qn,bs,Ja,sn,sub,ab,col,dd,k0,k1,k2,k3,k5,mN,hC,hN,hni,T,_⟩:=fO Y Z.exc
 have u1:builtinKind "BaseException.__getattribute__"=some .slot:=by decide+kernel
 have u2:splitId "BaseException.__getattribute__"=some ("BaseException","__getattribute__"):=by decide+kernel
 have u3:(Value.ref C::bm).contains (.type "BaseException")=true:=by rw[List.contains_cons,T.hasType (X:="BaseException") (b:=true) (by decide)];rfl
 have u4:=F.args_bexc_ga (.ref a) nv
 simp only[checkBuiltinCall,u1,u2]
 refine U0 ?_
 unfold isInstance
 repeat (first | (with_reducible refine wpAny_loadPart_at ha ?_;rw[hc]) | (with_reducible refine wpAny_isSubtype_exc hC ?_;rw[u3]) | wp_step)
 exact k
theorem Kz {tk:Tok} {Q:UL->UK->Prop} (Y:K.In h) (Z:jA K C) (ha:h.get? a=some o) (hc:o.cls= .ref C) (k:Q (.ref C) ⟨h,g,d,t,os⟩) :
  UZ (model prog w) A (getAttrBy (.ref a) (.str "__class__" tk) false) Q E ⟨h,g,d,t,os⟩:=by
 have v1:=F.excAttr_ValueError.ga.bind (.ref a)
 have v2:(Value.builtin "BaseException.__getattribute__" == Value.builtin "object.__getattribute__")=false:=by decide+kernel
 have v3:(onTheHeap (Value.ref C)&&Value.builtin "BaseException.__getattribute__" == Value.builtin "object.__getattribute__")=false:=by rw[v2];rfl
 have v4:(false&&onTheHeap (Value.builtin "BaseException.__getattribute__"))=false:=rfl
 have L1:=PySem.W.looks_findIn (M:=model prog w) Y Z.ga
 have L2:=PySem.W.looks_findIn (M:=model prog w) Y Z.gx
 repeat (any_goals (first | assumption | (with_reducible refine wpAny_loadPart_at ha ?_;rw[hc]) | with_reducible refine L1.at ?_ | with_reducible refine L2.at ?_ | wp_step))
 refine codeAny_call_builtin F.excAttr_ValueError.ga.plain F.entry_bexc_ga (y7 Y Z ha hc (y6 Y Z ha hc ?_))
 repeat (any_goals (first | assumption | wp_step))
theorem Cu {Q:Option UL->UK->Prop} (Y:K.In h) (Z:jA K C) (ha:h.get? a=some o) (hc:o.cls= .ref C) (k:Q (some (.ref C)) ⟨h,g,d,t+1,os⟩) :
  UZ (model prog w) A (getAttr? (.ref a) "__class__") Q E ⟨h,g,d,t,os⟩:=by
 unfold getAttr? getAttrBy?
 repeat (any_goals (first | assumption | with_reducible apply Kz Y Z ha hc | wp_step))
end
end J
namespace J
open PySem PySem.Spec PyProof.Rows L2
structure NK (X:Cx):Prop where
 st:X.stack=X.env::X.outer
 fr:X.env.frame=some X.env.locals
 ex:X.ex=[]
theorem nN {P:UJ} {w:UM} {H:Hp} {h:Heap} {a:UE} {o:HO} (x:bB P w H h a o):∃u,h.get? a=some u:=by
 cases o with
 | lst xs=>obtain⟨_,_,_,_,e⟩:=x;exact⟨_,e⟩
 | tup xs=>obtain⟨_,_,_,⟨ob,e,_⟩,_⟩:=x;exact⟨_,e⟩
 | dK kvs=>obtain⟨_,_,_,_,ob,_,_,e,_⟩:=x;exact⟨_,e⟩
 | dT kvs=>obtain⟨_,_,_,_,ob,_,_,e,_⟩:=x;exact⟨_,e⟩
 | set S n=>obtain⟨ob,_,_,_,e,_⟩:=x;exact⟨_,e⟩
 | ins C dx fs=>obtain⟨_,_,_,e,_⟩:=x;exact⟨_,e⟩
 | own y=>exact x
 | xd fs=>obtain⟨_,⟨_,_,_,e,_⟩,_⟩:=x;exact⟨_,e⟩
 | LR lo hi=>obtain⟨_,_,_,e⟩:=x;exact⟨_,e⟩
 | bV ob u=>obtain⟨e,_⟩:=x;exact⟨_,e⟩
 | bw ps=>exact⟨_,x⟩
 | met f y=>exact⟨_,x⟩
 | ext φ=>exact x.2.1
def Gh (X:Cx) (a:UE):Prop:=X.s₀.heap.get? a=none/\(∀xs,X.H₀ a≠some (.tup xs))/\(∀o u,X.H₀ a≠some (.bV o u))/\∀ps,X.H₀ a≠some (.bw ps)
def wy (o:Obj):Prop:=∃vs,o.data= .fields vs/\vs[2]? =some Value.none
section
variable {X:Cx} {pins:List (UE×Obj)} {σ:St} {Hc H':Hp} {sc s':UK} {B h2:Heap} {a C:UE} {a0:UL} {ch:List UE}
theorem gW (I:Inv X pins σ Hc sc) (os:s'.os=sc.os) (bare:AllBare s'.gens) (hch:∀b∈ch,dG X pins Hc b) (un:Un (frs X.stack) ch Hc H' sc.heap s'.heap) (hok:f' X.prog X.w H' B) (fl:oN B X.stack a (.ref C) a0 h2) (up:s'.heap.UpToSlots h2)
  (qb:∀b o,sc.heap.get? b=some o->b∉frs X.stack->b∉ch->∃o',B.get? b=some o'/\(Hc b=none->o'=o)) {tk:Nat} :
  (∃o,wy o/\Inv X pins σ (upd H' a (.bV o (.ext (gF a C)))) { s' with heap:=h2,toks:=tk })/\H' a=none/\(X.ex=[]->Gh X a):=by
 have stay:=fl.1
 obtain⟨oe,vs,L_,hcl,hda,RA⟩:=fl.first
 have RB:gF a C h2:=⟨oe,L_,hcl,vs,hda⟩
 have ha:H' a=none:=by
  cases q:H' a with
  | none=>rfl
  | some u=>
   obtain⟨z,e⟩:=nN (hok a u q)
   rw[fl.2.1] at e
   cases e
 have RC:a∉frs X.stack:=fun z=>by
  obtain⟨_,o1,e1,d1⟩:=fl.2.2.1.mem z
  rw[L_] at e1
  cases e1
  exact d1 vs hda
 have E2:∀b∈frs X.stack,b∉ch:=fun b hb z=>by
  rcases List.mem_cons.mp (I.kT b hb) with q | q
  ·exact(hch b z).2.1 q
  ·exact(hch b z).2.2.1 q
 have new:a∉ch->∀o,sc.heap.get? a≠some o:=fun hx o e=>by
  obtain⟨o1,e1,_⟩:=qb a o e RC hx
  rw[fl.2.1] at e1
  cases e1
 have ne:∀b u,H' b=some u->b≠a:=fun b u e=>bf e ha
 have sl:∀b o,sc.heap.get? b=some o->Hc b=none->b∈frs X.stack->∃sl,h2.get? b=some { o with slots:=sl }:=fun b o e n hb=>by
  obtain⟨s1,e1⟩:=un.slot b o e n hb (E2 b hb)
  obtain⟨_,o1,e2,d1⟩:=I.stack.mem hb
  rw[e] at e2
  cases e2
  obtain⟨s2,e3⟩:=up b _ e1 d1
  exact⟨s2,e3⟩
 refine⟨⟨oe,⟨vs,hda,RA⟩,?_⟩,ha,fun hex=>?_⟩
 rotate_left
 ·refine⟨?_,fun xs q=>?_,fun o u q=>?_,fun ps q=>?_⟩
  rotate_left
  ·have z:=un.tups _ _ (I.base.tups _ _ q)
   rw[ha] at z;cases z
  ·have z:=un.fD _ _ _ (I.base.fD _ _ _ q)
   rw[ha] at z;cases z
  ·obtain⟨_,z⟩:=I.base.gA _ _ q
   obtain⟨_,z⟩:=un.gA _ _ z
   rw[ha] at z;cases z
  cases q:X.s₀.heap.get? a with
  | none=>rfl
  | some o0=>
   obtain⟨o1,q1⟩:=I.base.there a o0 q (by rw[hex];simp)
   refine absurd q1 (new (fun z=>?_) o1)
   rcases(hch a z).2.2.2.1 with y | y
   ·rw[hex] at y;cases y
   ·exact absurd (Nat.lt_of_lt_of_le (Heap.lt_size q) y) (Nat.lt_irrefl _)
 refine I.DR (s':={ s' with heap:=h2,toks:=tk }) (ch:=ch) os ?_ ?_ bare (fun b z=>⟨(hch b z).2.2.2.1,(hch b z).2.1,(hch b z).2.2.2.2.1,(hch b z).2.2.2.2.2⟩)
 ·refine⟨fun b o e n hb hx=>?_,fun b o e n hb _=>sl b o e n hb,fun b o e n hx=>?_,fun b o e hx=>?_,fun b xs h=>?_,fun b o u h=>?_,fun b ps h=>?_⟩
  ·obtain⟨o1,e1,e2⟩:=qb b o e hb hx
   rw[e2 n] at e1
   exact stay b o e1
  ·have ba:b≠a:=fun z=>by subst z;exact new hx o e
   rw[ao ba]
   exact un.free b o e n hx
  ·by_cases hb:b∈frs X.stack
   ·obtain⟨s2,e2⟩:=sl b o e (I.iO b hb) hb
    exact⟨_,e2⟩
   ·obtain⟨o1,e1,_⟩:=qb b o e hb hx
    exact⟨o1,stay b o1 e1⟩
  ·have q:=un.tups b xs h
   rw[ao (ne b _ q)]
   exact q
  ·have q:=un.fD b o u h
   rw[ao (ne b _ q)]
   exact q
  ·obtain⟨m1,q⟩:=un.gA b ps h
   refine⟨m1,?_⟩
   rw[ao (ne b _ q)]
   exact q
 ·intro b u e
  by_cases hb:b=a
  ·subst hb
   rw[ay] at e
   cases e
   exact⟨L_,RB,⟨oe,L_⟩,fun h3 h4 p k=>let ⟨o1,q1,q2,q3⟩:=p;⟨o1,k o1 q1,q2,q3⟩⟩
  ·rw[ao hb] at e
   exact(hok b u e).stay (fun c v _ q=>stay c v q) (fun c q=>by rw[ao (ne c _ q)];exact q) fun c xs q=>by rw[ao (ne c _ q)];exact q
end
theorem wz {M:Model} {A:UG} {E:UL->UK->Prop} {s:UK} {K:PySem.W.Frag} {a C D:UE} {o:Obj} {b:Bool} {Q:Bool->UK->Prop} (Y:K.In s.heap) (ZC:PySem.W.excIn K C wu wx=true) (ZD:PySem.W.excIn K D wu wx=true)
  (hm:PySem.W.mroIn K C (.ref D)=some b) (ha:s.heap.get? a=some o) (hc:o.cls= .ref C) (k:Q b s):UZ M A (excMatches (.ref a) (.ref D)) Q E s:=by
 obtain⟨h,g,d,t,os⟩:=s
 obtain⟨bm,N,nm,qn,bs,Ja,sn,sub,ab,col,dd,k0,k1,k2,k3,k5,mN,hC,hN,hni,T,mr⟩:=fO Y ZC
 obtain⟨bm',N',T9,T_,bs',RD,sn',sub',Ua,col',DZ,Ub,Qb,Qc,Uc,Ud,Ue,hD,Ug,RE,T',Uh⟩:=fO Y ZD
 have e1:(Value.ref C::bm).contains (.ref D)=b:=mr _ _ hm
 have e2:(Value.ref D::bm').contains (.type "BaseException")=true:=by rw[List.contains_cons,T'.hasType (X:="BaseException") (b:=true) (by decide)];rfl
 have f:=tc_notTuple
 unfold excMatches
 repeat (first | (with_reducible refine wpAny_loadPart_at ha ?_;rw[hc]) | with_reducible refine wpAny_loadPart_at hD ?_ | (with_reducible refine wpAny_isSubtype_exc hD ?_;rw[e2]) | (with_reducible refine wpAny_isSubtype_exc hC ?_;rw[e1]) | wp_step)
 cases b<;>(wp_walk;exact k)
end J
namespace J
open PySem PySem.Spec PyProof.Rows L2
theorem qm {K:PySem.W.Frag} {a C:UE} (Z:jA K C):PySem.W.KitX K (.ref a) (.ref C) (gF a C) where
 ty:=fun M h _ p=>by
  obtain⟨o,h1,h2,_⟩:=p
  rw[<-h2]
  exact(PySem.W.Looks.ld h1).andThen .now
 it:=fun M h Y _=>by
  obtain⟨bm,N,nm,qn,bs,Ja,sn,sub,ab,col,dd,k0,k1,k2,k3,k5,mN,hC,_⟩:=fO Y Z.exc
  intro A' Q' E' s' k q
  unfold isType loadHead
  exact U0 (wpAny_loadPart (k _ _ hC) (U6 q))
 ne:=fun h tp dd its n sl Y e=>by
  obtain⟨bm,N,nm,qn,bs,Ja,sn,sub,ab,col,DZ,k0,k1,k2,k3,k5,mN,hC,_⟩:=fO Y Z.exc
  refine Bool.eq_false_iff.mpr fun q=>?_
  have z:C=tp:=Value.ref.inj (beq_iff_eq.mp q)
  subst z
  rw[hC] at e
  have z2:Value.type "type"=Value.type "tuple":=congrArg Obj.cls (Option.some.inj e)
  exact absurd z2 (by decide)
 ca:=fun{prog w A E Q s} Y p k=>by
  obtain⟨o,h1,h2,_⟩:=p
  obtain⟨h,g,d,t,os⟩:=s
  exact Cu Y Z h1 h2 k
abbrev Tab:=List ((PySem.Str×PySem.Str)×Bool)
abbrev lM:=List ((PySem.Str×String)×Bool)
structure TabOk (K:PySem.W.Frag) (tb:Tab) (tt:lM) (tc:Tab):Prop where
 own:∀c d b C D,tb.lookup (c,d)=some b->ClsAt K c C->ClsAt K d D->jA K C/\PySem.W.kitOne K (.ref C) (.ref D)=some b
 cat:∀c d b C D,tc.lookup (c,d)=some b->ClsAt K c C->ClsAt K d D->PySem.W.excIn K C wu wx=true/\PySem.W.excIn K D wu wx=true/\PySem.W.mroIn K C (.ref D)=some b
 typ:∀c T b C,tt.lookup (c,T)=some b->ClsAt K c C->jA K C/\PySem.W.kitOne K (.ref C) (.type T)=some b
def jB (tb:Tab) (c:PySem.Str):List Wv->Option Bool
 | []=>some false
 | .cls d::r=>(match tb.lookup (c,d) with
  | some true=>some true
  | some false=>jB tb c r
  | none=>none)
 | _=>none
theorem nO {K:PySem.W.Frag} {m:Mp} {H:Hp} {tb:Tab} {tt:lM} {tc:Tab} (O:TabOk K tb tt tc) {c:PySem.Str} {C:UE} (hC:ClsAt K c C):∀{ds:List Wv} {vs:List V} {its:List UL} {b:Bool},ah K m H ds vs->Vals vs its->jB tb c ds=some b->PySem.W.kitAny K (.ref C) its=some b
 | [],vs,its,b,r,v,e=>by
  unfold ah at r
  subst r
  cases v
  cases e
  rfl
 | w::ds,vs,its,b,r,v,e=>by
  unfold ah at r
  obtain⟨x,t,rfl,r1,r2⟩:=r
  cases v with
  | cons h1 h2=>
   cases w with
   | cls d=>
    unfold ae at r1
    obtain⟨D,rfl,hD⟩:=r1
    cases h1
    unfold jB at e
    unfold PySem.W.kitAny
    cases q:tb.lookup (c,d) with
    | none=>rw[q] at e;cases e
    | some k=>
     rw[q] at e
     obtain⟨_,z3⟩:=O.own c d k C D q hC hD
     rw[z3]
     cases k with
     | true=>cases e;rfl
     | false=>exact nO O hC r2 h2 e
   | _=>cases e
def aX (tb:Tab) (tt:lM):List Wv->Hs->Re Wv
 | [.eR c,.cls d],st=>(match tb.lookup (c,d) with | some b=> .ok (.bl b) st | none=> .bad)
 | [.eR c,.ty T],st=>(match tt.lookup (c,T) with | some b=> .ok (.bl b) st | none=> .bad)
 | [.eR c,.tup (.cls d::ds)],st=>(match jB tb c (.cls d::ds) with | some b=> .ok (.bl b) st | none=> .bad)
 | ws,st=>Ku ws st
section
variable {X:Cx}
theorem y8:bL X (.builtin "isinstance") (fun vs H Q=>∃a C v c b,vs=[.ref a,v]/\L6 a C (H a)/\jA X.K C/\RelV v c/\PySem.W.kitOne X.K (.ref C) c=some b/\Q (.bl b) H):=by
 intro pins s σ H xs us Q I r h
 obtain⟨a,C,v,c,b,rfl,ha,Z,rc,e,q⟩:=h
 obtain⟨u,u',rfl,r1,r2⟩:=vals2 r
 cases r1
 have uc:u'=c:=by
  cases v with
  | int i=>obtain⟨t,rfl⟩:=rc;cases e
  | str i=>obtain⟨t,rfl⟩:=rc;cases e
  | IW i=>obtain⟨t,rfl⟩:=rc;cases e
  | pQ i=>obtain⟨t,rfl⟩:=rc;cases e
  | aB=>cases rc;cases r2;rfl
  | bl i=>cases rc;cases r2;rfl
  | ref i=>cases rc;cases r2;rfl
  | ty i=>cases rc;cases r2;rfl
 subst uc
 exact PySem.W.kia_one (qm Z) I.uh (D0 I.hok ha) e (by intro z;cases z) fun tk=>⟨.bl b,H,I.tok tk,rfl,q⟩
theorem wA:bL X (.builtin "isinstance") (fun vs H Q=>∃a C p xs b,vs=[.ref a,.ref p]/\L6 a C (H a)/\jA X.K C/\dq X.K H p xs/\(∀its,Vals xs its->PySem.W.kitAny X.K (.ref C) its=some b)/\Q (.bl b) H):=by
 intro pins s σ H xs us Q I r h
 obtain⟨a,C,p,ys,b,rfl,ha,Z,hT,e,q⟩:=h
 obtain⟨u,u',rfl,r1,r2⟩:=vals2 r
 cases r1
 cases r2
 obtain⟨its,rv,⟨o,g1,g2,n,g3⟩,z⟩:=I.tuple hT
 obtain⟨oc,od,Ui,osl⟩:=o
 cases g2
 cases g3
 exact PySem.W.kia_tup (qm Z) I.uh (D0 I.hok ha) g1 (e its rv) (by intro z;cases z) fun tk=>⟨.bl b,H,I.tok tk,rfl,q⟩
theorem y9 {tb:Tab} {tt:lM} {tc:Tab} (O:TabOk X.K tb tt tc):bx X (.builtin "isinstance") (aX tb tt):=by
 obtain⟨r,h1,h2⟩:=Gd (X:=X)
 refine⟨_,y8.or (wA.or h1),fun ws vs st H m Q S rs p=>?_⟩
 unfold aX at p
 split at p
 ·rename_i _ c d
  cases e:tb.lookup (c,d) with
  | none=>rw[e] at p;exact False.elim p
  | some b=>
   rw[e] at p
   obtain⟨v,v',rfl,r1,r2⟩:=sE rs
   unfold ae at r1 r2
   obtain⟨a,C,rfl,hC,ha⟩:=r1
   obtain⟨D,rfl,hD⟩:=r2
   obtain⟨z1,z3⟩:=O.own c d b C D e hC hD
   exact .inl ⟨a,C,.ref D,.ref D,b,rfl,ha,z1,rfl,z3,p _ m H Ext.refl S fe⟩
 ·rename_i _ c T
  cases e:tt.lookup (c,T) with
  | none=>rw[e] at p;exact False.elim p
  | some b=>
   rw[e] at p
   obtain⟨v,v',rfl,r1,r2⟩:=sE rs
   unfold ae at r1 r2
   obtain⟨a,C,rfl,hC,ha⟩:=r1
   subst r2
   obtain⟨z1,z3⟩:=O.typ c T b C e hC
   exact .inl ⟨a,C,.ty T,.type T,b,rfl,ha,z1,rfl,z3,p _ m H Ext.refl S fe⟩
 ·rename_i _ c d ds
  cases e:jB tb c (.cls d::ds) with
  | none=>rw[e] at p;exact False.elim p
  | some b=>
   rw[e] at p
   obtain⟨v,v',rfl,r1,r2⟩:=sE rs
   unfold ae at r1
   obtain⟨a,C,rfl,hC,ha⟩:=r1
   have r2':=r2
   unfold ae at r2'
   obtain⟨t,xs,rfl,hT,rx⟩:=r2'
   have Z:jA X.K C:=by
    have jz:=rx
    unfold ah at jz
    obtain⟨x,r,_,rd,_⟩:=jz
    unfold ae at rd
    obtain⟨D,_,hD⟩:=rd
    unfold jB at e
    cases q:tb.lookup (c,d) with
    | none=>rw[q] at e;cases e
    | some k=>exact(O.own c d k C D q hC hD).1
   exact .inr (.inl ⟨a,C,t,xs,b,rfl,ha,Z,dq.of hT,fun its hv=>nO O hC rx hv e,p _ m H Ext.refl S fe⟩)
 ·exact .inr (.inr (h2 ws vs st H m Q S rs p))
end
section
variable {X:Cx} {pins:List (UE×Obj)} {σ:St} {H:Hp} {s:UK}
abbrev Cv (X:Cx) (A':UG) (cm:Bool) (pn:List (UE×Obj)) (E:UL->UK->Prop):Cx:={ X with A:=A',calm:=cm,pn:=pn,xe:=E }
theorem KA {A':UG} {cm:Bool} {pn:List (UE×Obj)} {E:UL->UK->Prop} (ok:X.Ok) (hf:A'.frames=X.A.frames) (hd:cm=true->A'.handled=none):(Cv X A' cm pn E).Ok :=
 ⟨ok.mod,ok.kind,ok.glob,ok.blt,ok.above,ok.inj,ok.has,ok.IY,hd,hf.trans ok.frames,ok.stk,ok.MU,ok.bs,ok.Bp,ok.vL,ok.xF,ok.iy,ok.Bt⟩
theorem y_ {A':UG} {cm:Bool} {E:UL->UK->Prop} (I:Inv X pins σ H s) (hf:A'.frames=X.A.frames) (hd:cm=true->A'.handled=none):Inv (Cv X A' cm (X.pn++pins) E) [] σ H s :=
 ⟨KA I.ok hf hd,I.os,I.bare,I.base,I.loc,I.cell,I.free,I.dC,fun p hp=>I.pin p (by simpa using hp),I.hok,I.len⟩
theorem lN {A':UG} {cm:Bool} {E:UL->UK->Prop} {gB:List (UE×Obj)} (ok:X.Ok) (I:Inv (Cv X A' cm (X.pn++pins) E) gB σ H s):Inv X pins σ H s :=
 ⟨ok,I.os,I.bare,I.base,I.loc,I.cell,I.free,I.dC,fun p hp=>I.pin p (List.mem_append_left _ hp),I.hok,I.len⟩
abbrev KC (X:Cx) (a:UE) (u:HO) (pn:List (UE×Obj)) (E:UL->UK->Prop):Cx:={ X with A:=X.A.mark (some (.ref a)),calm:=false,pn:=pn,xe:=E,H₀:=upd X.H₀ a u }
theorem Gi {a:UE} {o:Obj} {u:HO} {E:UL->UK->Prop} (I:Inv X pins σ H s) (e:H a=some (.bV o u)) (n:X.s₀.heap.get? a=none):Inv (KC X a (.bV o u) (X.pn++pins) E) [] σ H s:=by
 have k:=I.ok
 have ne:∀b o,X.s₀.heap.get? b=some o->b≠a:=fun b o q z=>by rw[z,n] at q;cases q
 have nf:∀b∈X.fs,b≠a:=fun b hb=>let ⟨_,o,q,_⟩:=k.iy.mem hb;ne b o q
 have up:∀b,b≠a->upd X.H₀ a (.bV o u) b=X.H₀ b:=fun b h=>ao h
 have dn:∀{b:UE} {w:Option HO},upd X.H₀ a (.bV o u) b=w->w≠some (.bV o u)->X.H₀ b=w:=fun{b w} q h=>by
  by_cases z:b=a
  ·rw[z,ay] at q;exact absurd q.symm h
  ·rw[up b z] at q;exact q
 have nn:∀{b:UE},upd X.H₀ a (.bV o u) b=none->X.H₀ b=none:=fun q=>dn q (by intro z;cases z)
 refine⟨⟨k.mod,k.kind,k.glob,k.blt,k.above,k.inj,k.has,k.IY,(fun z=>by cases z),k.frames,k.stk,k.MU,fun b ob q=>⟨(k.bs b ob q).1,(up b (ne b ob (k.bs b ob q).1)).trans (k.bs b ob q).2⟩,k.Bp,k.vL,k.xF,k.iy,fun b hb=>(up b (nf b hb)).trans (k.Bt b hb)⟩,I.os,I.bare,?_,I.loc,I.cell,I.free,I.dC,fun p hp=>I.pin p (by simpa using hp),I.hok,I.len⟩
 have g:=I.base
 exact⟨fun b ob q h=>g.keep b ob q (nn h),fun b ob q h=>g.slot b ob q (nn h),fun b ob q h=>g.free b ob q (nn h),g.there,fun b xs q=>g.tups b xs (dn q (by intro z;cases z)),fun b ob v q=>by
  by_cases z:b=a
  ·subst z
   have q':upd X.H₀ b (.bV o u) b=some (.bV ob v):=q
   rw[ay] at q'
   cases q'
   exact e
  ·exact g.fD b ob v ((up b z).symm.trans q),fun b ps q=>g.gA b ps (dn q (by intro z;cases z))⟩
theorem zc {a:UE} {o:Obj} {u:HO} {E:UL->UK->Prop} {gB:List (UE×Obj)} (ok:X.Ok) (n:Gh X a) (I:Inv (KC X a (.bV o u) (X.pn++pins) E) gB σ H s):Inv X pins σ H s:=by
 have ne:∀b o,X.s₀.heap.get? b=some o->b≠a:=fun b o q z=>by rw[z,n.1] at q;cases q
 have up:∀b,b≠a->(KC X a (.bV o u) (X.pn++pins) E).H₀ b=X.H₀ b:=fun b h=>ao h
 have g:=I.base
 exact⟨ok,I.os,I.bare,⟨fun b ob q h=>g.keep b ob q ((up b (ne b ob q)).trans h),fun b ob q h=>g.slot b ob q ((up b (ne b ob q)).trans h),fun b ob q h=>g.free b ob q ((up b (ne b ob q)).trans h),g.there,fun b xs q=>g.tups b xs ((up b fun z=>n.2.1 xs (z ▸ q)).trans q),fun b ob v q=>g.fD b ob v ((up b fun z=>n.2.2.1 ob v (z ▸ q)).trans q),fun b ps q=>g.gA b ps ((up b fun z=>n.2.2.2 ps (z ▸ q)).trans q)⟩,I.loc,I.cell,I.free,I.dC,fun p hp=>I.pin p (List.mem_append_left _ hp),I.hok,I.len⟩
def sH (X:Cx):Prop:=X.A.handled=none\/∃a o u,X.A.handled=some (.ref a)/\wy o/\X.H₀ a=some (.bV o u)
def wB (A:UG) (H:Hp):Prop:=A.handled=none\/∃a o u,A.handled=some (.ref a)/\wy o/\H a=some (.bV o u)
theorem sH.at (h:sH X) (I:Inv X pins σ H s):wB X.A H:=h.imp id fun⟨a,o,u,h1,h2,h3⟩=>⟨a,o,u,h1,h2,I.base.fD _ _ _ h3⟩
theorem KD {A':UG} {cm:Bool} {E:UL->UK->Prop} {D:Ends} {f:Flow} (ok:X.Ok) (h:SP (Cv X A' cm (X.pn++pins) E) [] D f s):SP X pins D f s:=by
 cases f with
 | next=>obtain⟨σ',H',I,q⟩:=h;exact⟨σ',H',lN ok I,q⟩
 | brk=>obtain⟨σ',H',I,q⟩:=h;exact⟨σ',H',lN ok I,q⟩
 | cont=>obtain⟨σ',H',I,q⟩:=h;exact⟨σ',H',lN ok I,q⟩
 | ret u=>obtain⟨v,σ',H',I,r,q⟩:=h;exact⟨v,σ',H',lN ok I,r,q⟩
end
theorem nP {X:Cx} {pins:List (UE×Obj)} {σ:St} {H:Hp} {s:UK} {M:Model} {A:UG} {E:UL->UK->Prop} {i:Nat} {n:Str} {pos:Pos} {Q:Unit->UK->Prop} (I:Inv X pins σ H s) (hN:X.N.Nodup) (hi:X.N[i]? =some n) (hx:X.env.scope.names.lookup n=some .local)
  (k:∀s',Inv X pins (σ.set i none) H s'->Q () s'):UZ M A (do bindName X.env n .none;unbindBehindTheSuite X.env n pos) Q E s:=by
 obtain⟨m,ns,lk⟩:=id I.loc
 have pl:(X.env.scope.kind == .class||(X.env.scope.kind == .module&&X.env.locals != X.env.globals))=false:=by rw[I.ok.kind];rfl
 have up:∀b o,X.s₀.heap.get? b=some o->b≠X.env.locals:=fun b o e=>old_ne I e
 refine wpAny_nameGoes_keeps hx ns pl fun h2 v RF sb=>k _ ?_
 obtain⟨oL,_,_,PY,_⟩:=id ns
 refine⟨I.ok,I.os,I.bare,⟨fun b o e f hb hx=>(sb.2 b (up b o e)).trans (I.base.keep b o e f hb hx),fun b o e f hb hx=>?_,I.base.free,fun b o e hx=>?_,I.base.tups,I.base.fD,I.base.gA⟩,⟨_,RF,fun j y w e1 e2 e3=>?_⟩,fun y c e=>?_,I.free,I.dC,fun p hp=>?_,fun b u e=>?_,by simpa using I.len⟩
 ·obtain⟨sl,e1⟩:=I.base.slot b o e f hb hx
  exact⟨sl,(sb.2 b (up b o e)).trans e1⟩
 ·obtain⟨o1,e1⟩:=I.base.there b o e hx
  exact⟨o1,(sb.2 b (up b o e)).trans e1⟩
 ·have ji:j≠i:=fun z=>by
   subst z
   have:j < σ.length:=by have q:=(List.getElem?_eq_some_iff.mp e2).1;simpa using q
   rw[List.getElem?_set_self this] at e2
   cases e2
  rw[List.getElem?_set_ne (Ne.symm ji)] at e2
  obtain⟨u,r,q⟩:=lk j y w e1 e2 e3
  refine⟨u,r,?_⟩
  rcases q with ⟨q1,q2⟩ | ⟨q1,c,q2,z⟩
  ·have yn:y≠n:=fun z=>ji (kU hN e1 (z ▸ hi))
   exact .inl ⟨q1,by simp[yn,q2]⟩
  ·exact .inr ⟨q1,c,q2,z.sameBut sb (I.Bu y c q2)⟩
 ·obtain⟨w,z⟩:=I.cell y c e
  exact⟨w,z.sameBut sb (I.Bu y c e)⟩
 ·obtain⟨e,f,ne,nf,d⟩:=I.pin p hp
  exact⟨(sb.2 p.1 ne).trans e,f,ne,nf,d⟩
 ·refine(I.hok b u e).stay (fun c w hc q=>(sb.2 c fun z=>?_).trans q) (fun _ q=>q) fun _ _ q=>q
  have fr:=I.free
  rcases hc with hc | hc
  ·rw[<-z,hc,e] at fr;cases fr
  ·rw[<-z,hc] at fr;cases fr
end J
namespace J
open PySem PySem.Spec PyProof.Rows L2
def wC (cat:PySem.Str->Option Bool) (i:Nat) (gb gs:GS):GS:=fun ρ st=>match gb ρ st with
 | .err c ρ' st'=>(match cat c with
  | some true=>(match gs (ρ'.set i (some (.eR c))) st' with
   | .nx ρ2 st2=> .nx (ρ2.set i none) st2
   | .rt w st2=> .rt w st2
   | _=> .bad)
  | _=> .bad)
 | r=>r
theorem aq.unset {K:PySem.W.Frag} {m:Mp} {H:Hp} {ρ:aS} {σ:St} (R:aq K m H ρ σ) (i:Nat):aq K m H (ρ.set i none) (σ.set i none):=by
 refine⟨by simp[R.len],fun j w e=>?_⟩
 have ji:i≠j:=fun z=>by
  subst z
  have:i < ρ.length:=by have q:=(List.getElem?_eq_some_iff.mp e).1;simpa using q
  rw[List.getElem?_set_self this] at e
  cases e
 rw[List.getElem?_set_ne ji] at e ⊢
 exact R.get j w e
section
variable {X:Cx}
theorem wD {M:Model} {A:UG} {E:UL->UK->Prop} {s:UK} {base h:Heap} {env:Env} {outer:List Env} {L a:UE} {cls:UL} {args:List UL} {Q:Unit->UK->Prop} (hfr:A.frames=some (env::outer)) (hf:env.frame=some L)
  (st:base.StaysIn h) (fs:h.FunFrames base (env::outer)) (mk:Heap.MadeExcOf h s.heap a cls args) (k:∀h' a0,oN base (env::outer) a cls a0 h'->s.heap.UpToSlots h'->Q () { s with heap:=h' }) :
  UZ M A (noteFrame (.ref a) env) (fun _ s2=>UZ M A (setFlight (.ref a) none) Q E s2) E s:=by
 exact nK hfr hf st fs mk fun h1 t hd1 up1=>p8 hd1 fun h2 rR Kx=>k h2 t rR (up1.trans Kx)
theorem gG.er {A:UG} {b:Bool} {E:UL->UK->Prop} {pins gB:List (UE×Obj)} {H H':Hp} {s s':UK} {cls e:UL} (f:gG (Cv X A b (X.pn++pins) E) gB H s H' cls e s'):gG X pins H s H' cls e s' :=
 let ⟨a,a0,nt,B,ch,e1,e2,e3,hch,r⟩:=f
 ⟨a,a0,nt,B,ch,e1,e2,e3,fun b hb=>let ⟨h1,h2,h3,h4,h5,h6⟩:=hch b hb;⟨h1,h2,h3,h4,h5,fun p hp=>h6 p (List.mem_append_left _ hp)⟩,r⟩
theorem land {pins:List (UE×Obj)} {σ:St} {Hc H':Hp} {sc s':UK} {C:UE} {e:UL} {E:UL->UK->Prop} {Q:Unit->UK->Prop} (K0:NK X) (I:Inv X pins σ Hc sc)
  (r:gG X pins Hc sc H' (.ref C) e s'\/(H'=Hc/\∃a args,e= .ref a/\s'.os=sc.os/\s'.gens=sc.gens/\Heap.MadeExcOf sc.heap s'.heap a (.ref C) args))
  (k:∀(a:UE) (a0:UL) (B h5:Heap),e= .ref a->oN B X.stack a (.ref C) a0 h5->(∀h6 tk,oN B X.stack a (.ref C) a0 h6->h5.UpToSlots h6->∃o,wy o/\Inv X pins σ (upd H' a (.bV o (.ext (gF a C)))) { s' with heap:=h6,toks:=tk })->H' a=none->Gh X a->Q () { s' with heap:=h5 }) :
  UZ (model X.prog X.w) X.A (noteFrame e X.env) (fun _ s2=>UZ (model X.prog X.w) X.A (setFlight e none) Q E s2) E s':=by
 have hfr:X.A.frames=some (X.env::X.outer):=by rw[I.ok.frames,K0.st]
 rcases r with ⟨a,a0,nt,B,ch,rfl,os,bare,hch,un,hok,fl,qb⟩ | ⟨rfl,a,args,rfl,ho,hg,M⟩
 ·rw[K0.st] at fl
  refine qg hfr K0.fr fl fun h4 RG NL=>?_
  refine p8 RG fun h5 xC Gj=>?_
  rw[<-K0.st] at xC
  exact k a a0 B h5 rfl xC (fun h6 tk KG KH=>(gW I os bare hch un hok KG ((NL.trans Gj).trans KH) qb).1) (gW (tk:=0) I os bare hch un hok xC (NL.trans Gj) qb).2.1 ((gW (tk:=0) I os bare hch un hok xC (NL.trans Gj) qb).2.2 K0.ex)
 ·have fs:sc.heap.FunFrames (PySem.W.hideAll sc.heap (frs X.stack)) (X.env::X.outer):=by
   rw[<-K0.st]
   exact PySem.W.funFrames_hide I.stack fun env he b hb=>List.mem_filterMap.mpr ⟨env,he,hb⟩
  refine wD (base:=PySem.W.hideAll sc.heap (frs X.stack)) hfr K0.fr (fun b o q=>PySem.W.of_hideAll _ q) fs M fun h5 a0 xC Gj=>?_
  rw[<-K0.st] at xC
  have bare:AllBare s'.gens:=by rw[hg];exact I.bare
  have hok:f' X.prog X.w H' (PySem.W.hideAll sc.heap (frs X.stack)):=qh I.hok I.iO
  have qb:∀b o,sc.heap.get? b=some o->b∉frs X.stack->b∉([]:List UE)->∃o',(PySem.W.hideAll sc.heap (frs X.stack)).get? b=some o'/\(H' b=none->o'=o):=fun b o q hb _=>⟨o,PySem.W.hideAll_get _ q hb,fun _=>rfl⟩
  have nil:∀b∈([]:List UE),dG X pins H' b:=fun b z=>by cases z
  exact k a a0 _ h5 rfl xC (fun h6 tk KG KH=>(gW I ho bare nil (Un.kept M.keeps) hok KG (Gj.trans KH) qb).1) (gW (tk:=0) I ho bare nil (Un.kept M.keeps) hok xC Gj qb).2.1 ((gW (tk:=0) I ho bare nil (Un.kept M.keeps) hok xC Gj qb).2.2 K0.ex)
theorem Gk {x n:Str} {D:UE} {i:Nat} {body suite:List Stmt} {b₀:Stmt} {gb gs:GS} {np hp pos:Pos} {tb:Tab} {tt:lM} {tc:Tab} (K0:NK X) (hN:X.N.Nodup) (hi:X.N[i]? =some n) (hx:X.env.scope.names.lookup n=some .local) (hc:X.calm=true) (O:TabOk X.K tb tt tc)
  (hg:Gl X x) (hm:X.mg x=some (.ref D)) (hD:ClsAt X.K x D) (hd:(x == ("__debug__":Str))=false)
  (hb:∀(pn:List (UE×Obj)) (E:UL->UK->Prop),ip (Cv X X.A true pn E) body gb) (hs:∀(a:UE) (o:Obj) (u:HO) (pn:List (UE×Obj)) (E:UL->UK->Prop),wy o->ip (KC X a (.bV o u) pn E) (b₀::suite) gs) :
  JS X (.Try body [.ExceptHandler (some (.Name x np)) (some n) (b₀::suite) hp] [] [] pos) (wC (fun c=>tc.lookup (c,x)) i gb gs):=by
 intro ρ st σ H m D' S R p pins s I
 refine wpAny_Try_except ?_
 let hx':UL->UK->Prop:=fun e s1=>UZ (model X.prog X.w) X.A (noteFrame e X.env) (fun _ s2=>UZ (model X.prog X.w) X.A (setFlight e none) (fun _ s3=>
  UZ (model X.prog X.w) X.A (handleBy e X.env [.ExceptHandler (some (.Name x np)) (some n) (b₀::suite) hp]) (SP X pins D') X.xe s3) X.xe s2) X.xe s1
 have hA:X.A.handled=none:=I.ok.hd hc
 have Ib:Inv (Cv X X.A true (X.pn++pins) hx') [] σ H s:=y_ I rfl fun _=>hA
 have post:av (Cv X X.A true (X.pn++pins) hx') m H (gb ρ st) D':=by
  unfold wC at p
  cases eb:gb ρ st with
  | nx ρ1 st1=>rw[eb] at p;exact p
  | rt w1 st1=>rw[eb] at p;exact p
  | bk ρ1 st1=>rw[eb] at p;exact p
  | ct ρ1 st1=>rw[eb] at p;exact p
  | bad=>rw[eb] at p;exact p
  | err c ρ1 st1=>
   rw[eb] at p
   dsimp only at p
   cases ec:tc.lookup (c,x) with
   | none=>rw[ec] at p;exact False.elim p
   | some bc=>
    cases bc with
    | false=>rw[ec] at p;exact False.elim p
    | true=>
     rw[ec] at p
     dsimp only at p
     intro σ1 m1 H1 e s1 e1 S1 R1 rz
     obtain⟨C,gB,Hc,sc,hC,Ic,rz⟩:=rz
     obtain⟨zC,zD,NM⟩:=O.cat c x true C D ec hC hD
     refine land K0 (lN I.ok Ic) (rz.imp gG.er id) fun a a0 B h5 ea xC inv hn hnew=>?_
     subst ea
     obtain⟨ox,_,I5⟩:=inv h5 s1.toks xC (Heap.UpToSlots.refl _)
     obtain⟨o5,RH,hc5,_⟩:=(I5.hok a _ ay).2.1
     have Im:=y_ (A':=X.A.mark (some (.ref a))) (cm:=false) (E:=fun _ _=>False) I5 rfl (fun z=>by cases z)
     refine wpAny_handleBy_cons (codeAny_handlers_test (iQ Im hg hm ?_ hd)) (by intro q;cases q)
     refine wz (b:=true) Im.uh zC zD NM RH hc5 ?_
     refine codeAny_handlers_suite_as ?_
     refine p8 xC fun h6 KG KH=>?_
     obtain⟨oy,nx,I6⟩:=inv h6 s1.toks KG KH
     have e6:Ext X.K m1 H1 m1 (upd H1 a (.bV oy (.ext (gF a C)))):=Ext.upd (.inl hn)
     have S6:aK X.K m1 st1 (upd H1 a (.bV oy (.ext (gF a C)))):=S1.fresh hn
     have rv:ae X.K m1 (upd H1 a (.bV oy (.ext (gF a C)))) (.eR c) (.ref a):=by unfold ae;obtain⟨vs,d1,d2⟩:=nx;exact⟨a,C,rfl,hC,oy,vs,ay,d1,d2⟩
     refine iP (v:=.ref a) I6 hN hi (.inl hx) rfl (fun s7 I7=>?_) (.inr hx)
     have Ma:=Gi (E:=fun _ _=>False) I7 ay hnew.1
     cases es:gs (ρ1.set i (some (.eR c))) st1 with
     | nx ρ2 st2=>
      rw[es] at p
      let D2:Ends:={ nx:=fun σ' H'=>D'.nx (σ'.set i none) H',rt:=fun _ _=>False,bk:=fun _ _=>False,ct:=fun _ _=>False }
      have go:=hs a oy (.ext (gF a C)) (X.pn++pins) (fun _ _=>False) nx (ρ1.set i (some (.eR c))) st1 (σ1.set i (some (.ref a))) _ m1 D2 S6 ((R1.mono e6).set i rv) (by
       rw[es]
       exact fun σ' m' H' e' S' R'=>p (σ'.set i none) m' H' (e1.trans (e6.trans e')) S' (aq.unset R' i)) [] s7 Ma
      refine U3 go (fun f s8 h8=>?_) fun _ _ z=>z.elim
      cases f with
      | next=>
       obtain⟨σ8,H8,I8,q8⟩:=h8
       exact nP (zc I.ok hnew I8) hN hi hx fun s9 I9=>⟨_,H8,I9,q8⟩
      | brk=>obtain⟨_,_,_,q8⟩:=h8;exact q8.elim
      | cont=>obtain⟨_,_,_,q8⟩:=h8;exact q8.elim
      | ret u=>obtain⟨_,_,_,_,_,q8⟩:=h8;exact q8.elim
     | rt w2 st2=>
      rw[es] at p
      let D2:Ends:={ nx:=fun _ _=>False,rt:=D'.rt,bk:=fun _ _=>False,ct:=fun _ _=>False }
      have go:=hs a oy (.ext (gF a C)) (X.pn++pins) (fun _ _=>False) nx (ρ1.set i (some (.eR c))) st1 (σ1.set i (some (.ref a))) _ m1 D2 S6 ((R1.mono e6).set i rv) (by
       rw[es]
       exact fun v' m' H' e' S' R'=>p v' m' H' (e1.trans (e6.trans e')) S' R') [] s7 Ma
      refine U3 go (fun f s8 h8=>?_) fun _ _ z=>z.elim
      cases f with
      | next=>obtain⟨_,_,_,q8⟩:=h8;exact q8.elim
      | brk=>obtain⟨_,_,_,q8⟩:=h8;exact q8.elim
      | cont=>obtain⟨_,_,_,q8⟩:=h8;exact q8.elim
      | ret u=>
       obtain⟨v8,σ8,H8,I8,r8,q8⟩:=h8
       exact nP (zc I.ok hnew I8) hN hi hx fun s9 I9=>⟨v8,_,H8,I9,r8,q8⟩
     | bk ρ2 st2=>rw[es] at p;exact False.elim p
     | ct ρ2 st2=>rw[es] at p;exact False.elim p
     | err c2 ρ2 st2=>rw[es] at p;exact False.elim p
     | bad=>rw[es] at p;exact False.elim p
 refine U3 (hb (X.pn++pins) hx' ρ st σ H m D' S R post [] s Ib) (fun f s1 h1=>?_) fun e s1 h1=>h1
 have h2:=KD I.ok h1
 cases f with
 | next=>exact wpAny_execs_nil h2
 | brk=>exact h2
 | cont=>exact h2
 | ret u=>exact h2
end
end J
namespace J
open PySem PySem.Spec PyProof.Rows L2
section
variable {X:Cx}
def KI:List Wv->Hs->Re Wv
 | [.int i],st=>if i.natAbs.log2 < 1920 then .ok (.str (toString i:String)) st else .bad
 | _,_=> .bad
def kj (o v:Wv) (st:Hs):Re Wv:=match o with
 | .ref l=>(match st[l]? with
  | some (.lst ws)=>if ws.length < lim then .ok .aB (st.set l (.lst (ws++[v]))) else .bad
  | _=> .bad)
 | _=> .bad
def KJ (o v:Wv) (st:Hs):Re Wv:=match o,v with
 | .ref l,.ref k=>(match st[l]?,st[k]? with
  | some (.lst ws),some (.lst zs)=>if ws.length+zs.length<=lim then .ok .aB (st.set l (.lst (ws++zs))) else .bad
  | _,_=> .bad)
 | _,_=> .bad
def jX (mt:Wv->Wv->Hs->Re Wv) (go ga:GE):GE:=fun ρ st=>(go ρ st).bind fun o st1=>match o with
 | .ref l=>(match af st1 l with
  | some _=>(ga ρ st1).bind fun v st2=>(mt o v st2).iM
  | none=> .bad)
 | _=> .bad
def Mb (X:Cx) (id:String) (mt:Wv->Wv->Hs->Re Wv):Prop:=∃r,Nr X id r/\∀(o w:Wv) (x v:V) (st:Hs) (H:Hp) (m:Mp) (Q:VK),aK X.K m st H->ae X.K m H o x->ae X.K m H w v->bC X.K m H (mt o w st) Q->r x [v] H Q
theorem zd:Mb X "list.append" kj:=⟨_,vY,fun o w x v st H m Q S ro rw' p=>by
 cases o with
 | ref l=>
  unfold ae at ro
  obtain⟨a,rfl,ha⟩:=ro
  have p':bC X.K m H (match st[l]? with | some (.lst ws)=>if ws.length < lim then .ok .aB (st.set l (.lst (ws++[w]))) else .bad | _=> .bad) Q:=p
  cases e:st[l]? with
  | none=>rw[e] at p';exact False.elim p'
  | some ob=>
   cases ob with
   | dct kvs=>rw[e] at p';exact False.elim p'
   | bM kvs=>rw[e] at p';exact False.elim p'
   | mG kvs=>rw[e] at p';exact False.elim p'
   | ic ns=>rw[e] at p';exact False.elim p'
   | lst ws=>
    rw[e] at p'
    dsimp only at p'
    by_cases c:ws.length < lim
    ·rw[if_pos c] at p'
     obtain⟨xs,h1,h2⟩:=S.lB ha e
     have e4:Ext X.K m H m (upd H a (.lst (xs++[v]))):=Ext.upd (.inr ⟨xs,h1⟩)
     exact⟨a,xs,v,rfl,rfl,h1,by rw[<-h2.length];exact sv c,p' _ m _ e4 (S.write ha e (h2.append (ah.cons rw' ah.nil))) nH⟩
    ·rw[if_neg c] at p';exact False.elim p'
 | _=>exact False.elim p⟩
theorem Gm:Mb X "list.extend" KJ:=⟨_,vZ,fun o w x v st H m Q S ro rw' p=>by
 cases o with
 | ref l=>
  cases w with
  | ref k=>
   unfold ae at ro rw'
   obtain⟨a,rfl,ha⟩:=ro
   obtain⟨b,rfl,hb⟩:=rw'
   have p':bC X.K m H (match st[l]?,st[k]? with | some (.lst ws),some (.lst zs)=>if ws.length+zs.length<=lim then .ok .aB (st.set l (.lst (ws++zs))) else .bad | _,_=> .bad) Q:=p
   cases e:st[l]? with
   | none=>rw[e] at p';exact False.elim p'
   | some ob=>
    cases ob with
    | dct kvs=>rw[e] at p';exact False.elim p'
    | bM kvs=>rw[e] at p';exact False.elim p'
    | mG kvs=>rw[e] at p';exact False.elim p'
    | ic ns=>rw[e] at p';exact False.elim p'
    | lst ws=>
     cases e2:st[k]? with
     | none=>rw[e,e2] at p';exact False.elim p'
     | some RI=>
      cases RI with
      | dct kvs=>rw[e,e2] at p';exact False.elim p'
      | bM kvs=>rw[e,e2] at p';exact False.elim p'
      | mG kvs=>rw[e,e2] at p';exact False.elim p'
      | ic ns=>rw[e,e2] at p';exact False.elim p'
      | lst zs=>
       rw[e,e2] at p'
       dsimp only at p'
       by_cases c:ws.length+zs.length<=lim
       ·rw[if_pos c] at p'
        obtain⟨xs,h1,h2⟩:=S.lB ha e
        obtain⟨ys,g1,g2⟩:=S.lB hb e2
        have e4:Ext X.K m H m (upd H a (.lst (xs++ys))):=Ext.upd (.inr ⟨xs,h1⟩)
        exact⟨a,b,xs,ys,rfl,rfl,h1,g1,by rw[<-h2.length,<-g2.length];exact cx c,p' _ m _ e4 (S.write ha e (h2.append g2)) nH⟩
       ·rw[if_neg c] at p';exact False.elim p'
  | _=>exact False.elim p
 | _=>exact False.elim p⟩
theorem uD {x name:Str} {id:String} {e:Expr} {go ga:GE} {p apos cpos:Pos} {mt:Wv->Wv->Hs->Re Wv} (hm:Mb X id mt) (slot:Slot "list" name id) (hty:typeOf (.builtin id)=pure (.type "method_descriptor")) (ho:JE X (.Name x p) go) (ha:JE X e ga)
  (hst:UY [e] X.env=[(false,eval e X.env)]) (hline:(apos.endLine == cpos.line)=true):JE X (.Call (.Attribute (.Name x p) name apos) [e] [] cpos) (jX mt go ga):=by
 obtain⟨r,h1,h2⟩:=hm
 have hfew:((backTo cpos (UY [e] X.env)).all (fun x=> !x.1)&&(backToKw cpos (keywordEach [] X.env)).all (fun x=>x.1.isSome)&&decide ([e].length+([]:List Keyword).length+(if([]:List Keyword).isEmpty then 0 else 1) < 30))=true:=by
  rw[hst];rfl
 refine JE.of (J1 PySem.F.plainAttrs_list slot hty h1 az il rfl hfew hline hst rfl) fun ρ st σ H m Q S R p=>?_
 refine ho.go S R (ar.bind p) fun o st1 v m1 H1 p1 e1 S1 ro=>?_
 cases o with
 | ref l=>
  dsimp only at p1
  cases el:af st1 l with
  | none=>rw[el] at p1;exact False.elim p1
  | some Uj=>
   rw[el] at p1
   dsimp only at p1
   have Qd:=ro
   unfold ae at Qd
   obtain⟨a,rfl,hla⟩:=Qd
   obtain⟨xs,hq,_⟩:=S1.read hla el
   refine⟨.inl ⟨rfl,xs,hq⟩,?_⟩
   refine(uz ha yE hst).go S1 (R.mono e1) (ok:=fun ws st2=>ar X σ m H (match ws with | [w]=>(mt (.ref l) w st2).iM | _=> .bad) (I_ X.K m H Q)) ?_ fun ws st2 vs m2 H2 p2 e2 S2 rs=>?_
   ·have p3:=(ar.bind p1).imp e1 (fun _ _ q=>q)
    show ar X σ m1 H1 ((ga ρ st1).bind fun x st1=>(ai ρ st1).bind fun xs st2=> .ok (x::xs) st2) _
    cases eg:ga ρ st1 with
    | ok w st2=>rw[eg] at p3;exact p3
    | err c st2=>rw[eg] at p3;exact p3
    | bad=>rw[eg] at p3;exact p3
   ·match ws,rs,p2 with
    | [],rs,p2=>exact False.elim p2
    | [w],rs,p2=>
     obtain⟨v2,rfl,RJ⟩:=ie rs
     exact h2 (.ref l) w (.ref a) v2 st2 H2 m2 Q S2 (ae.mono e2 _ _ ro) RJ (bC.shift (ar.iM p2) (e1.trans e2))
    | _::_::_,rs,p2=>exact False.elim p2
 | _=>exact False.elim p1
end
end J
namespace J
open PySem PySem.Spec PyProof.Rows L2
section
variable {X:Cx}
def KL:List Wv->Hs->Re Wv
 | [.str z],st=> .ok (.str z) st
 | ws,st=>KI ws st
def KN:List Wv->Hs->Re Wv
 | [.int i,.int j],st=> .ok (.int (if j > i then j else i)) st
 | _,_=> .bad
def KO:List Wv->Hs->Re Wv
 | [.int i,.int j],st=> .ok (.int (if j < i then j else i)) st
 | _,_=> .bad
theorem Gn (hc:X.calm=true):bx X (.builtin "max") KN:=⟨_,vS hc,fun ws vs st H m Q S rs p=>by
 match ws,rs,p with
 | [],rs,p=>exact False.elim p
 | [x],rs,p=>cases x<;>exact False.elim p
 | x::y::z::t,rs,p=>cases x<;>cases y<;>exact False.elim p
 | [x,y],rs,p=>
  obtain⟨v,v',rfl,r1,r2⟩:=sE rs
  cases x with
  | int i=>
   cases y with
   | int j=>cases aC r1;cases aC r2;exact⟨i,j,rfl,p _ m H Ext.refl S mkInt⟩
   | _=>exact False.elim p
  | _=>cases y<;>exact False.elim p⟩
theorem Gp (hc:X.calm=true):bx X (.builtin "min") KO:=⟨_,vT hc,fun ws vs st H m Q S rs p=>by
 match ws,rs,p with
 | [],rs,p=>exact False.elim p
 | [x],rs,p=>cases x<;>exact False.elim p
 | x::y::z::t,rs,p=>cases x<;>cases y<;>exact False.elim p
 | [x,y],rs,p=>
  obtain⟨v,v',rfl,r1,r2⟩:=sE rs
  cases x with
  | int i=>
   cases y with
   | int j=>cases aC r1;cases aC r2;exact⟨i,j,rfl,p _ m H Ext.refl S mkInt⟩
   | _=>exact False.elim p
  | _=>cases y<;>exact False.elim p⟩
def qo:List Nat->List Wv->aS->Option aS
 | [],[],ρ=>some ρ
 | i::is,w::ws,ρ=>qo is ws (ρ.set i (some w))
 | _,_,_=>none
def Jb (is:List Nat) (w:Wv) (ρ:aS):Option aS:=match w with
 | .tup ws=>qo is ws ρ
 | _=>none
def NN:List Nat->DT
 | []=>L2.ai
 | i::is=>L2.aa (pV i) (NN is)
theorem i7 {m:Mp} {H:Hp} {Q:St->Hp->Prop}:∀{is:List Nat} {ws:List Wv} {xs:List V} {ρ ρ':aS} {σ:St},ah X.K m H ws xs->aq X.K m H ρ σ->qo is ws ρ=some ρ'->(∀σ',aq X.K m H ρ' σ'->Q σ' H)->NN is xs σ H Q
 | [],[],xs,ρ,ρ',σ,r,R,e,k=>by
  unfold ah at r
  subst r
  cases e
  exact⟨rfl,k σ R⟩
 | i::is,w::ws,xs,ρ,ρ',σ,r,R,e,k=>by
  unfold ah at r
  obtain⟨x,rr,rfl,h1,h2⟩:=r
  exact⟨x,rr,rfl,i7 (is:=is) h2 (R.set i h1) e k⟩
 | [],_::_,_,_,_,_,_,_,e,_=>by cases e
 | _::_,[],_,_,_,_,_,_,e,_=>by cases e
theorem i8:∀{is:List Nat} {ws:List Wv} {ρ ρ':aS},qo is ws ρ=some ρ'->ws.length=is.length
 | [],[],_,_,_=>rfl
 | _::is,_::ws,_,_,e=>congrArg (· +1) (i8 (is:=is) (ws:=ws) e)
 | [],_::_,_,_,e=>by cases e
 | _::_,[],_,_,e=>by cases e
inductive Slots (X:Cx):List Expr->List Nat->Prop
 | nil:Slots X [] []
 | cons {x:Str} {p:Pos} {i:Nat} {es:List Expr} {is:List Nat}:X.N[i]? =some x->(Loc X.env.scope x/\(X.fn x=true\/X.env.scope.names.lookup x=some .local))->Slots X es is->Slots X (.Name x p::es) (i::is)
theorem gX (hN:X.N.Nodup):∀{es:List Expr} {is:List Nat},Slots X es is->Ju X es (NN is)
 | _,_,.nil=>BC
 | _,_,.cons h1 h2 r=>xP (iR hN h1 h2.1 h2.2) (gX hN r) rfl
theorem i9:∀{es:List Expr} {is:List Nat},Slots X es is->(assignEach es X.env).length=is.length
 | _,_,.nil=>rfl
 | _,_,.cons _ _ r=>congrArg (· +1) (i9 r)
theorem gY:∀{es:List Expr} {is:List Nat},Slots X es is->(assignEach es X.env).findIdx? (·.1)=none
 | _,_,.nil=>rfl
 | _,_,.cons (x:=x) (p:=p) (es:=es) _ _ r=>by
  have q:=gY r
  show List.findIdx? _ ((false,assign (.Name x p) X.env)::assignEach es X.env)=none
  rw[List.findIdx?_cons]
  simp[q]
def qp (is:List Nat) (g:GE):GS:=fun ρ st=>(g ρ st).aM ρ fun w st'=>match Jb is w ρ with
 | some ρ'=> .nx ρ' st'
 | none=> .bad
theorem Cw {es:List Expr} {is:List Nat} {k:Nat} {e:Expr} {g:GE} {pos pos':Pos} (hN:X.N.Nodup) (hc:X.calm=true) (sl:Slots X es is) (h:JE X e g) (hs:swapsWith e (some (.Tuple es k pos')) pos.line X.env=pure false) (hw:swappedStores [.Tuple es k pos'] e X.env=pure none) :
  JS X (.Assign [.Tuple es k pos'] e pos) (qp is g) :=
 JS.of (xQ az (rS hc (gX hN sl) (i9 sl) (gY sl)) (by unfold swapsWithSole;exact hs) hw rfl) fun ρ st σ H m D S R p=>h.go S R (av.bo R p) fun w st1 v m1 H1 q e1 S1 r1=>by
  cases w with
  | tup ws=>
   have q':av X m H (match qo is ws ρ with | some ρ'=> .nx ρ' st1 | none=> .bad) D:=q
   cases e2:qo is ws ρ with
   | none=>rw[e2] at q';exact False.elim q'
   | some ρ'=>
    rw[e2] at q'
    unfold ae at r1
    obtain⟨a,xs,rfl,f1,f2⟩:=r1
    exact⟨a,xs,rfl,dq.of f1,by rw[<-f2.length];exact i8 e2,i7 f2 (R.mono e1) e2 fun σ' R'=>q' σ' m1 H1 e1 S1 R'⟩
  | _=>exact False.elim q
open Classical in
def jY (is:List Nat) (gb:GS) (l:Nat) (all:List Wv):List Wv->aS->Hs->Rs
 | [],ρ,st=> .nx ρ st
 | w::r,ρ,st=>match Jb is w ρ with
  | none=> .bad
  | some ρ1=>match gb ρ1 st with
   | .nx ρ' st'=>if af st' l=some all then jY is gb l all r ρ' st' else .bad
   | .ct ρ' st'=>if af st' l=some all then jY is gb l all r ρ' st' else .bad
   | .bk ρ' st'=> .nx ρ' st'
   | .rt w st'=> .rt w st'
   | .err c ρ' st'=> .err c ρ' st'
   | .bad=> .bad
def qr (is:List Nat) (gi:GE) (gb:GS):GS:=fun ρ st=>(gi ρ st).aM ρ fun w st1=>match w with
 | .ref l=>(match af st1 l with | some ws=>jY is gb l ws ws ρ st1 | none=> .bad)
 | _=> .bad
theorem Cy {es:List Expr} {is:List Nat} {k:Nat} {iter:Expr} {body:List Stmt} {gi:GE} {gb:GS} {pos pos':Pos} (hN:X.N.Nodup) (hp:PassesOwn (model X.prog X.w) X.A X.env X.xe) (hc:X.calm=true) (sl:Slots X es is) (hi:JE X iter gi) (hb:ip X body gb)
  (hs:∀x,UT iter X.env x=pure x):JS X (.For (.Tuple es k pos') iter body [] pos) (qr is gi gb):=by
 refine JS.of (jw hp hc (BE az) (rS hc (gX hN sl) (i9 sl) (gY sl)) cj hs) fun ρ st σ H m D S R p=>?_
 refine hi.go S R (av.bo R p) fun w st1 v m1 H1 p1 e1 S1 rw'=>?_
 cases w with
 | ref l=>
  have p1':av X m H (match af st1 l with | some ws=>jY is gb l ws ws ρ st1 | none=> .bad) D:=p1
  unfold ae at rw'
  obtain⟨a,rfl,hla⟩:=rw'
  cases el:af st1 l with
  | none=>rw[el] at p1';exact False.elim p1'
  | some ws=>
   rw[el] at p1'
   obtain⟨Cp,q0,_⟩:=S1.read hla el
   refine⟨a,rfl,⟨Cp,q0⟩,?_⟩
   let Pv:Nat->St->Hp->Prop:=fun k σ H=>∃ρ st m',Ext X.K m1 H1 m' H/\aK X.K m' st H/\aq X.K m' H ρ σ/\af st l=some ws/\av X m' H (jY is gb l ws (ws.drop k) ρ st) D
   refine⟨fun k n σ H=>n=ws.length - k/\k<=ws.length/\Pv k σ H,⟨ws.length,by simp,Nat.zero_le _,ρ,st1,m1,Ext.refl,S1,R.mono e1,el,av.shift p1' e1⟩,?_⟩
   rintro k n σ2 H2 ⟨rfl,hk,ρ2,st2,m2,e2,S2,R2,l2,p2⟩
   obtain⟨xs,hq,rws⟩:=S2.read (e2.pre _ _ hla) l2
   have hlen:=rws.length
   by_cases hlt:k < ws.length
   ·have hx':k < xs.length:=by omega
    refine .inr ⟨⟨xs,xs[k],hq,by simp[hx']⟩,Pv (k+1),fun σ' H' p'=>⟨ws.length - (k+1),by omega,rfl,hlt,p'⟩,fun x H' y=>?_⟩
    obtain⟨ee,y⟩:=y
    subst ee
    have ey:=y xs hq
    have ed:ws.drop k=ws[k]::ws.drop (k+1):=List.drop_eq_getElem_cons hlt
    obtain⟨x',ex',jz⟩:=rws.get (i:=k) (w:=ws[k]) (List.getElem?_eq_getElem hlt)
    rw[ey] at ex'
    cases ex'
    rw[ed] at p2
    unfold jY at p2
    cases eb:ws[k] with
    | tup us=>
     rw[eb] at p2 jz
     dsimp only[Jb] at p2
     cases e5:qo is us ρ2 with
     | none=>rw[e5] at p2;exact False.elim p2
     | some ρ5=>
      rw[e5] at p2
      dsimp only at p2
      unfold ae at jz
      obtain⟨b,ys,rfl,f1,f2⟩:=jz
      refine⟨b,ys,rfl,dq.of f1,by rw[<-f2.length];exact i8 e5,i7 f2 R2 e5 fun σ5 R5=>?_⟩
      refine hb _ st2 _ _ m2 _ S2 R5 ?_
      cases eg:gb ρ5 st2 with
      | nx ρ3 st3=>
       rw[eg] at p2
       by_cases c:af st3 l=some ws
       ·simp only[if_pos c] at p2
        exact fun σ3 m3 H3 e3 S3 R3=>⟨ρ3,st3,m3,e2.trans e3,S3,R3,c,av.shift p2 e3⟩
       ·simp only[if_neg c] at p2;exact False.elim p2
      | ct ρ3 st3=>
       rw[eg] at p2
       by_cases c:af st3 l=some ws
       ·simp only[if_pos c] at p2
        exact fun σ3 m3 H3 e3 S3 R3=>⟨ρ3,st3,m3,e2.trans e3,S3,R3,c,av.shift p2 e3⟩
       ·simp only[if_neg c] at p2;exact False.elim p2
      | bk ρ3 st3=>rw[eg] at p2;exact p2
      | rt w3 st3=>rw[eg] at p2;exact p2
      | err c3 ρ3 st3=>rw[eg] at p2;exact p2
      | bad=>rw[eg] at p2;exact p2
    | _=>rw[eb] at p2;exact False.elim p2
   ·have e:k=ws.length:=by omega
    subst e
    rw[List.drop_length] at p2
    exact .inl ⟨⟨xs,hq,by omega⟩,p2 σ2 m2 H2 Ext.refl S2 R2⟩
 | _=>exact False.elim p1
end
end J
namespace J
open PySem PySem.Spec PyProof.Rows L2
def jC (env:Env):List (Str×UI)->List (Str×UE)->List (Str×UE)
 | [],acc=>acc
 | (n,k)::r,acc=>if k= .free then jC env r ((n,(env.cells.lookup n).getD 0)::acc) else jC env r acc
theorem qt (env:Env):∀(names:List (Str×UI)) (acc:List (Str×UE)),(∀y∈names,y.2= .free->∃c,env.cells.lookup y.1=some c)->
  (forIn names acc fun x r=>match x with
   | (name,kind)=>if(kind == NameKind.free)=true then do let c <-cellOf env name;pure (ForInStep.yield ((name,c)::r)) else(pure (ForInStep.yield r):Sem _))=pure (jC env names acc)
 | [],acc,_=>rfl
 | (n,k)::r,acc,h=>by
  have ih:=fun acc=>qt env r acc fun y hy=>h y (List.mem_cons_of_mem _ hy)
  rw[List.forIn_cons]
  by_cases hk:k= .free
  ·subst hk
   obtain⟨c,e⟩:=h (n,.free) List.mem_cons_self rfl
   have e':env.cells.lookup n=some c:=e
   have cc:cellOf env n=pure c:=by unfold cellOf;rw[e']
   simp only[beq_self_eq_true,if_true,cc]
   have q:jC env ((n,.free)::r) acc=jC env r ((n,c)::acc):=by
    show(if NameKind.free= .free then jC env r ((n,(env.cells.lookup n).getD 0)::acc) else _)=_
    rw[if_pos rfl,e']
    rfl
   rw[q,<-ih]
   rfl
  ·have hb:(k == NameKind.free)=false:=by simpa using hk
   simp only[hb,Bool.false_eq_true,if_false]
   have q:jC env ((n,k)::r) acc=jC env r acc:=by
    show(if k= .free then _ else jC env r acc)=_
    rw[if_neg hk]
   rw[q,<-ih]
   rfl
theorem Cz {env:Env} {scope:Scope} (h:∀y∈scope.names,y.2= .free->∃c,env.cells.lookup y.1=some c):closureFor scope env=pure (jC env scope.names []):=by
 have q:=qt env scope.names [] h
 unfold closureFor
 first
  | (rw[<-q];rfl)
  | (simp only[bind_pure];exact q)
theorem oT {env:Env}:∀{names:List (Str×UI)} {acc:List (Str×UE)} {y:Str} {c:UE},(∀y∈names,y.2= .free->∃c,env.cells.lookup y.1=some c)->(∀y c,acc.lookup y=some c->env.cells.lookup y=some c)->(jC env names acc).lookup y=some c->env.cells.lookup y=some c
 | [],acc,y,c,_,ha,e=>ha y c e
 | (n,k)::r,acc,y,c,h,ha,e=>by
  unfold jC at e
  by_cases hk:k= .free
  ·rw[if_pos hk] at e
   subst hk
   obtain⟨c0,e0⟩:=h (n,.free) List.mem_cons_self rfl
   have RK:env.cells.lookup n=some c0:=e0
   refine oT (fun y hy=>h y (List.mem_cons_of_mem _ hy)) (fun y' c' e'=>?_) e
   rw[List.lookup_cons] at e'
   cases q:y' == n with
   | true=>
    rw[q] at e'
    have q':=eq_of_beq q
    subst q'
    rw[RK] at e' ⊢
    exact e'
   | false=>rw[q] at e';exact ha y' c' e'
  ·rw[if_neg hk] at e
   exact oT (fun y hy=>h y (List.mem_cons_of_mem _ hy)) ha e
theorem kK {env:Env} {y:Str}:∀{names:List (Str×UI)} {acc:List (Str×UE)},((∃c,acc.lookup y=some c)\/(y,NameKind.free)∈names)->∃c,(jC env names acc).lookup y=some c
 | [],acc,h=>by
  rcases h with h | h
  ·exact h
  ·cases h
 | (n,k)::r,acc,h=>by
  unfold jC
  by_cases hk:k= .free
  ·rw[if_pos hk]
   refine kK ?_
   rw[List.lookup_cons]
   cases q:y == n with
   | true=>exact .inl ⟨_,rfl⟩
   | false=>
    rcases h with h | h
    ·exact .inl h
    ·rcases List.mem_cons.mp h with h | h
     ·cases h;simp at q
     ·exact .inr h
  ·rw[if_neg hk]
   refine kK ?_
   rcases h with h | h
   ·exact .inl h
   ·rcases List.mem_cons.mp h with h | h
    ·cases h;exact absurd rfl hk
    ·exact .inr h
theorem lookup_mem {α β:Type} [BEq α] [LawfulBEq α] {y:α} {k:β}:∀{names:List (α×β)},names.lookup y=some k->(y,k)∈names
 | [],h=>by cases h
 | (n,j)::r,h=>by
  rw[List.lookup_cons] at h
  cases q:y == n with
  | true=>
   rw[q] at h
   cases h
   have q':=eq_of_beq q
   subst q'
   exact List.mem_cons_self
  | false=>rw[q] at h;exact List.mem_cons_of_mem _ (lookup_mem h)
theorem lO {env:Env}:∀{names:List (Str×UI)} {y:Str},(names.map fun(n,k)=>if(k == NameKind.free&&env.scope.kind == .function&&env.kindOf n == some .cell) then(n,NameKind.cell) else(n,k)).lookup y=
  (names.lookup y).map fun k=>if(k == NameKind.free&&env.scope.kind == .function&&env.kindOf y == some .cell)=true then NameKind.cell else k
 | [],y=>rfl
 | (n,k)::r,y=>by
  have ih:=lO (env:=env) (names:=r) (y:=y)
  show List.lookup y ((if(k == NameKind.free&&env.scope.kind == .function&&env.kindOf n == some .cell)=true then(n,NameKind.cell) else(n,k))::_)=_
  cases q:y == n with
  | true=>
   have q':=eq_of_beq q
   subst q'
   by_cases hc:(k == NameKind.free&&env.scope.kind == .function&&env.kindOf y == some .cell)=true
   ·rw[if_pos hc]
    simp only[List.lookup_cons,beq_self_eq_true,Option.map_some]
    rw[if_pos hc]
   ·rw[if_neg hc]
    simp only[List.lookup_cons,beq_self_eq_true,Option.map_some]
    rw[if_neg hc]
  | false=>
   by_cases hc:(k == NameKind.free&&env.scope.kind == .function&&env.kindOf n == some .cell)=true
   ·rw[if_pos hc];simp only[List.lookup_cons,q];exact ih
   ·rw[if_neg hc];simp only[List.lookup_cons,q];exact ih
open Classical in
def i_ (ck:Hs->Prop) (gt:Wv->Hs->Re Bool) (ge:Wv->Hs->Re Wv) (l:Nat):List Wv->Hs->Option Hs
 | [],st=>some st
 | w::r,st=>match gt w st with
  | .ok false st1=>if ck st1 then i_ ck gt ge l r st1 else none
  | .ok true st1=>(match ge w st1 with
   | .ok v st2=>(match kj (.ref l) v st2 with
    | .ok _ st3=>if ck st3 then i_ ck gt ge l r st3 else none
    | _=>none)
   | _=>none)
  | _=>none
open Classical in
def jZ (ck:Hs->Prop) (gt:Wv->Hs->Re Bool) (ge:Wv->Hs->Re Wv) (l:Nat):List Wv->Hs->Re Unit
 | [],st=> .ok () st
 | w::r,st=>match gt w st with
  | .ok false st1=>if ck st1 then jZ ck gt ge l r st1 else .bad
  | .ok true st1=>(match ge w st1 with
   | .ok v st2=>(match kj (.ref l) v st2 with
    | .ok _ st3=>if ck st3 then jZ ck gt ge l r st3 else .bad
    | _=> .bad)
   | .err c st2=> .err c st2
   | .bad=> .bad)
  | .err c st1=> .err c st1
  | .bad=> .bad
theorem lP {ck:Hs->Prop} {gt:Wv->Hs->Re Bool} {ge:Wv->Hs->Re Wv} {l:Nat} {uE:Hs}:∀(ws:List Wv) (st:Hs),i_ ck gt ge l ws st=some uE->jZ ck gt ge l ws st= .ok () uE
 | [],st,h=>by cases h;rfl
 | w::r,st,h=>by
  unfold i_ at h
  unfold jZ
  cases eg:gt w st with
  | err c st1=>rw[eg] at h;cases h
  | bad=>rw[eg] at h;cases h
  | ok b st1=>
   rw[eg] at h
   cases b with
   | false=>
    dsimp only at h ⊢
    by_cases c:ck st1
    ·rw[if_pos c] at h ⊢;exact lP r st1 h
    ·rw[if_neg c] at h;cases h
   | true=>
    dsimp only at h ⊢
    cases ee:ge w st1 with
    | err c st2=>rw[ee] at h;cases h
    | bad=>rw[ee] at h;cases h
    | ok v st2=>
     rw[ee] at h
     dsimp only at h ⊢
     cases ea:kj (.ref l) v st2 with
     | err c st3=>rw[ea] at h;cases h
     | bad=>rw[ea] at h;cases h
     | ok u st3=>
      rw[ea] at h
      dsimp only at h ⊢
      by_cases c:ck st3
      ·rw[if_pos c] at h ⊢;exact lP r st3 h
      ·rw[if_neg c] at h;cases h
abbrev d_:=List (Str×Nat)
def ja (cs:d_) (ρ:aS):aS:=cs.map fun p=>(ρ[p.2]?).getD none
def oU (cs:d_) (σ:St):St:=cs.map fun p=>(σ[p.2]?).getD none
theorem CA {K:PySem.W.Frag} {m:Mp} {H:Hp} {ρ:aS} {σ:St} (cs:d_) (R:aq K m H ρ σ):aq K m H (ja cs ρ) (oU cs σ):=by
 refine⟨by unfold ja oU;simp,fun i w e=>?_⟩
 unfold ja at e
 rw[List.getElem?_map] at e
 cases q:cs[i]? with
 | none=>rw[q] at e;cases e
 | some p=>
  rw[q] at e
  have e':(ρ[p.2]?).getD none=some w:=by simpa using e
  cases q2:ρ[p.2]? with
  | none=>rw[q2] at e';cases e'
  | some o=>
   rw[q2] at e'
   have e2:o=some w:=e'
   subst e2
   obtain⟨v,h1,h2⟩:=R.get _ _ q2
   refine⟨v,?_,h2⟩
   unfold oU
   rw[List.getElem?_map,q]
   simp[h1]
def dE (X:Cx) (scope:Scope) (x:Str) (cs:d_) (C:UE) (s0:UK) (H0:Hp) (fp:List UE) (pn:List (UE×Obj)) (E:UL->UK->Prop):Cx where
 prog:=X.prog
 w:=X.w
 K:=X.K
 mg:=X.mg
 base:=X.base
 A:=X.A
 N:=x::cs.map (·.1)
 s₀:=s0
 H₀:=H0
 env:=compEnvC scope (jC X.env scope.names []) C X.env
 outer:=X.stack
 stack:=X.stack
 ex:=fp
 fn:=fun _=>false
 calm:=X.calm
 pn:=pn
 xe:=E
structure cz (X:Cx) (scope:Scope) (x:Str) (cs:d_):Prop where
 kind:scope.kind= .function
 look:∀y∈scope.names,scope.names.lookup y.1=some y.2
 cell:∀y∈scope.names,y.2≠.cell
 var:scope.names.lookup x=some .local
 cap:∀y∈scope.names,y.2= .free->X.env.kindOf y.1=some .cell\/X.env.kindOf y.1=some .free
 at_:∀p∈cs,X.N[p.2]? =some p.1/\scope.names.lookup p.1=some .free
 nd:(x::cs.map (·.1)).Nodup
section
variable {X:Cx} {pins:List (UE×Obj)} {σ:St} {H:Hp} {s:UK} {scope:Scope} {x:Str} {cs:d_}
theorem qu (I:Inv X pins σ H s) {b:UE} (f:dG X pins H b):b∉frs X.stack:=fun z=>by
 rcases List.mem_cons.mp (I.kT b z) with q | q
 ·exact f.2.1 q
 ·exact f.2.2.1 q
theorem cz.has (S:cz X scope x cs) (ok:X.Ok):∀y∈scope.names,y.2= .free->∃c,X.env.cells.lookup y.1=some c:=fun y hy e=>ok.has y.1 (S.cap y hy e)
theorem cz.sub (S:cz X scope x cs) (ok:X.Ok) {y:Str} {c:UE} (e:(jC X.env scope.names []).lookup y=some c):X.env.cells.lookup y=some c :=
 oT (S.has ok) (fun _ _ z=>by cases z) e
theorem cz.Gq (S:cz X scope x cs) (ok:X.Ok) {C:UE} {y:Str} (h:(compEnvC scope (jC X.env scope.names []) C X.env).kindOf y=some .cell\/(compEnvC scope (jC X.env scope.names []) C X.env).kindOf y=some .free):scope.names.lookup y=some .free:=by
 have q:(compEnvC scope (jC X.env scope.names []) C X.env).kindOf y=(scope.names.lookup y).map fun k=>if(k == NameKind.free&&X.env.scope.kind == .function&&X.env.kindOf y == some .cell)=true then NameKind.cell else k:=lO
 rw[q] at h
 cases e:scope.names.lookup y with
 | none=>rw[e] at h;simp at h
 | some k=>
  rw[e] at h
  simp only[Option.map_some,Option.some.injEq] at h
  by_cases hk:k= .free
  ·rw[hk]
  ·have hb:(k == NameKind.free)=false:=by simpa using hk
   rw[hb] at h
   simp only[Bool.false_and,Bool.false_eq_true,if_false] at h
   rcases h with h | h
   ·exact absurd h (S.cell (y,k) (lookup_mem e))
   ·exact absurd h hk
theorem cz.ze (S:cz X scope x cs) {C:UE} {y:Str} (e:scope.names.lookup y=some .free):(compEnvC scope (jC X.env scope.names []) C X.env).kindOf y=some .cell\/(compEnvC scope (jC X.env scope.names []) C X.env).kindOf y=some .free:=by
 have q:(compEnvC scope (jC X.env scope.names []) C X.env).kindOf y=(scope.names.lookup y).map fun k=>if(k == NameKind.free&&X.env.scope.kind == .function&&X.env.kindOf y == some .cell)=true then NameKind.cell else k:=lO
 rw[q,e]
 simp only[Option.map_some]
 split
 ·exact .inl rfl
 ·exact .inr rfl
theorem zf {fp:List UE} {h2:Heap} {tk:Nat} {E:UL->UK->Prop} (S:cz X scope x cs) (I:Inv X pins σ H s) (hf:∀b∈fp,dG X pins H b) (hl:∀b∈fp,b < s.heap.objs.size)
  (ns:h2.Ns s.heap.objs.size (fun y=>([]:List (Str×UL)).reverse.lookup y)) (sb:Heap.SameBut s.heap.objs.size (s.heap.push { cls:=.type "dict",data:=.dict #[] }) h2) :
  Inv (dE X scope x cs s.heap.objs.size s H fp (X.pn++pins) E) [] (none::oU cs σ) H { s with heap:=h2,toks:=tk }:=by
 have keep:∀b o,s.heap.get? b=some o->h2.get? b=some o:=fun b o e=>(sb.2 b (Nat.ne_of_lt (Heap.lt_size e))).trans (Heap.get?_push_of_some _ e)
 have sub:∀{y:Str} {c:UE},(jC X.env scope.names []).lookup y=some c->X.env.cells.lookup y=some c:=fun e=>S.sub I.ok e
 have cellK:∀y c,X.env.cells.lookup y=some c->∀v,s.heap.IsCell c v->h2.IsCell c v:=fun y c _ v ⟨o,ho,hd⟩=>⟨o,keep c o ho,hd⟩
 refine⟨⟨I.ok.mod,S.kind,I.ok.glob,I.ok.blt,Nat.le_refl _,(fun y z c e1 e2=>I.ok.inj y z c (sub e1) (sub e2)),fun y h=>kK (.inr (lookup_mem (S.Gq I.ok h))),(fun y c e=>by cases e),I.ok.hd,I.ok.frames,.inl rfl,fun b hb=>⟨Nat.ne_of_lt (hl b hb),fun y c e=>(hf b hb).2.2.2.2.1 y c (sub e)⟩,I.bs,Nat.le_trans I.ok.Bp I.sz,fun b o e hb=>?_,fun b hb=>qu I (hf b hb),I.stack,I.iO⟩,rfl,I.bare,Un.kept keep,⟨_,ns,fun i y v e1 e2 e3=>?_⟩,(fun y c e=>?_),I.fresh,(fun y c e=>I.dC y c (sub e)),fun p hp=>?_,I.hok.kept keep,by unfold dE oU;simp⟩
 ·rcases(hf b hb).2.2.2.1 with z | z
  ·exact I.ok.vL b o e z
  ·exact absurd (Nat.lt_of_lt_of_le (Heap.lt_size e) (Nat.le_trans I.ok.Bp z)) (Nat.lt_irrefl _)
 ·cases i with
  | zero=>cases e2
  | succ i=>
   have CB:(cs.map (·.1))[i]? =some y:=e1
   have zg:(oU cs σ)[i]? =some (some v):=e2
   unfold oU at zg
   rw[List.getElem?_map] at CB zg
   cases q:cs[i]? with
   | none=>rw[q] at CB;cases CB
   | some p=>
    rw[q] at CB zg
    have y1:p.1=y:=by simpa using CB
    have e4:(σ[p.2]?).getD none=some v:=by simpa using zg
    have e5:σ[p.2]? =some (some v):=by
     cases q2:σ[p.2]? with
     | none=>rw[q2] at e4;cases e4
     | some o=>
      rw[q2] at e4
      have:o=some v:=e4
      rw[this]
    have hp:=S.at_ p (List.mem_iff_getElem?.mpr ⟨i,q⟩)
    rw[y1] at hp
    have kd:=S.cap (y,.free) (lookup_mem hp.2) rfl
    obtain⟨m,hn,hl'⟩:=I.loc
    obtain⟨u,r,l⟩:=hl' p.2 y v hp.1 e5 (.inr kd)
    refine⟨u,r,.inr ⟨S.ze hp.2,?_⟩⟩
    rcases l with ⟨l,_⟩ | ⟨_,c,e,z⟩
    ·rcases kd with kd | kd
     ·have NO:X.env.kindOf y=some .cell:=kd
      rw[NO] at l;cases l
     ·have NO:X.env.kindOf y=some .free:=kd
      rw[NO] at l;cases l
    ·obtain⟨c',e'⟩:=kK (env:=X.env) (y:=y) (names:=scope.names) (acc:=[]) (.inr (lookup_mem hp.2))
     have:=sub e'
     rw[e] at this
     cases this
     exact⟨c,e',cellK y c e _ z⟩
 ·obtain⟨v,z⟩:=I.cell y c (sub e)
  exact⟨v,cellK y c (sub e) v z⟩
 ·rw[List.append_nil] at hp
  obtain⟨e,n,ne,nf,d⟩:=I.pin p hp
  refine⟨keep _ _ e,n,Nat.ne_of_lt (Heap.lt_size e),fun z=>?_,d⟩
  rcases List.mem_cons.mp (I.kT p.1 z) with q | q
  ·exact ne q
  ·exact nf q
theorem zh {fp:List UE} {E:UL->UK->Prop} {Hb He:Hp} {sb se:UK} {C:UE} {σ':St} {gB:List (UE×Obj)} (I:Inv X pins σ Hb sb) (hf:∀b∈fp,dG X pins Hb b) (J:Inv (dE X scope x cs C sb Hb fp (X.pn++pins) E) gB σ' He se):Inv X pins σ He se:=by
 have un:Un (frs X.stack) fp Hb He sb.heap se.heap:=J.base
 exact I.DR (ch:=fp) J.os un J.hok J.bare fun b hb=>⟨(hf b hb).2.2.2.1,(hf b hb).2.1,(hf b hb).2.2.2.2.1,fun p hp=>(hf b hb).2.2.2.2.2 p hp⟩
theorem nQ {He:Hp} {se:UK} {C:UE} {h2:Heap} (I:Inv X pins σ He se) (f:dG X pins He C) (same:Heap.SameBut C se.heap h2):Inv X pins σ He { se with heap:=h2 } :=
 I.turned (t':=se.toks) (it:=C) (fun b o hb e=>(same.2 b hb).trans e) f.1 f.2.1 f.2.2.2.1 f.2.2.2.2.1 f.2.2.2.2.2
end
def zi (X:Cx):Prop:=∃(env:Env) (outer:List Env) (L:UE),X.stack=env::outer/\env.frame=some L/\X.env.frame=some L
section
variable {X:Cx} {pins:List (UE×Obj)} {σ:St} {scope:Scope} {x:Str} {cs:d_}
end
structure uF (Y:Cx->Prop) (P:UJ) (w:UM) (K:PySem.W.Frag) (tg:Expr) (J:It) (fp:List UE) (it:UE) (tn:Nat->Heap->Prop):Prop where
 obj:∀i h,tn i h->∀b∈fp,∃o,h.get? b=some o/\∀v,o.data≠.cell v
 keep:∀i h h',tn i h->(∀b∈fp,∀o,h.get? b=some o->h'.get? b=some o)->tn i h'
 item:∀(X:Cx),X.prog=P->X.w=w->X.K=K->Y X->∀(i:Nat) (pins:List (UE×Obj)) (s:UK) (σ:St) (H:Hp) (E:UL->UK->Prop),Inv X pins σ H s->(∀b∈fp,dG X pins H b)->tn i s.heap->J.go i H->UZ (model P w) X.A (pyNext (.ref it)) (fun r s1=>∃u,r=some u/\
  UZ (model P w) X.A (letOwnedTupleGo tg (.ref it) u) (fun _ s2=>∃x H',Inv X pins σ H' s2/\RelV x u/\J.pW i H x H'/\tn (i+1) s2.heap/\∀b∈fp,H' b=none) E s1) E s
 done:∀(X:Cx),X.prog=P->X.w=w->X.K=K->Y X->∀(i:Nat) (pins:List (UE×Obj)) (s:UK) (σ:St) (H:Hp) (E:UL->UK->Prop),Inv X pins σ H s->(∀b∈fp,dG X pins H b)->tn i s.heap->J.stop i H->UZ (model P w) X.A (pyNext (.ref it)) (fun r s1=>r=none/\Inv X pins σ H s1) E s
 self:∀(A:UG) (i:Nat) (s:UK) (Q:UL->UK->Prop) (E:UL->UK->Prop),tn i s.heap->Q (.ref it) s->UZ (model P w) A (pyIter (.ref it)) Q E s
abbrev Calm (X:Cx):Prop:=X.calm=true
theorem _root_.L2.Turn.y {P:UJ} {w:UM} {K:PySem.W.Frag} {tg:Expr} {J:It} {fp:List UE} {it:UE} {tn:Nat->Heap->Prop} (T:Turn P w K tg J fp it tn):uF Calm P w K tg J fp it tn:=⟨T.obj,T.keep,T.item,T.done,T.self⟩
def Jc (Y:Cx->Prop) (X:Cx):Prop:=∀{pins:List (UE×Obj)} {σ:St} {H:Hp} {s:UK} (scope:Scope) (x:Str) (cs:d_) (C:UE) (s0:UK) (fp:List UE) (pn:List (UE×Obj)) (E:UL->UK->Prop),Inv X pins σ H s->Y (dE X scope x cs C s0 H fp pn E)
theorem qv {X:Cx} (hc:X.calm=true):Jc Calm X:=fun _ _ _ _ _ _ _ _ _=>hc
def Ei (X:Cx) (ifs:List Expr) (g:GT):Prop:=∀(ρ:aS) (st:Hs) (σ:St) (H:Hp) (m:Mp) (Q:Bool->Hp->Prop),aK X.K m st H->aq X.K m H ρ σ->fG X σ m H (g ρ st) Q->∀(pins:List (UE×Obj)) (s:UK),Inv X pins σ H s->
 UZ (model X.prog X.w) X.A (forIn ifs true fun c r=>if r=true then do let ok <-isTrue c X.env (eval c X.env);pure (ForInStep.yield ok) else pure (ForInStep.yield r)) (TP X pins σ Q) X.xe s
section
variable {X:Cx}
theorem CC:Ei X [] (fun _ st=> .ok true st):=fun ρ st σ H m Q S R p pins s I=>wpAny_tests_nil ⟨H,I,p m H Ext.refl S⟩
theorem CD {c:Expr} {g:GT} (h:JT X c g):Ei X [c] g:=fun ρ st σ H m Q S R p pins s I=>wpAny_tests_one (h ρ st σ H m Q S R p pins s I)
theorem sI {pins:List (UE×Obj)} {σ:St} {ρ:aS} {scope:Scope} {x:Str} {cs:d_} {px pos:Pos} {elt iter:Expr} {ifs:List Expr} {gt:GT} {ge:GE} {ck:Hs->Prop} {ws:List Wv} {E:UL->UK->Prop}
  {use:Option (UL->Sem Unit)} {Q:UL->UK->Prop} {res:Re Unit}
  {it:UE} {fp:List UE} {tn:Nat->Heap->Prop} {J':It} {H2:Hp} {s2:UK} {m1:Mp} {st1:Hs} {Y:Cx->Prop} (fr:zi X) (S:cz X scope x cs) (hY:Jc Y X) (hH:sH X) (I2:Inv X pins σ H2 s2) (T:uF Y X.prog X.w X.K (.Name x px) J' fp it tn) (t0:tn 0 s2.heap) (f2:∀b∈fp,dG X pins H2 b)
  (S1:aK X.K m1 st1 H2) (R:aq X.K m1 H2 ρ σ) (hck:ck (st1++[.lst []])) (run:jZ ck (fun w=>gt (some w::ja cs ρ)) (fun w=>ge (some w::ja cs ρ)) st1.length ws (st1++[.lst []])=res) (nb:res≠.bad) (hx:∀c RL,res≠.err c RL)
  (hE:∀C s0 H0 pn E,wB X.A H0->JE (dE X scope x cs C s0 H0 fp pn E) elt ge) (hT:∀C s0 H0 pn E,wB X.A H0->Ei (dE X scope x cs C s0 H0 fp pn E) ifs gt)
  (hgo:∀(k:Nat) (H:Hp) (m':Mp) (st:Hs),Ext X.K m1 H2 m' H->aK X.K m' st H->ck st->k < ws.length->J'.go k H) (hstop:∀(k:Nat) (H:Hp) (m':Mp) (st:Hs),Ext X.K m1 H2 m' H->aK X.K m' st H->ck st->k=ws.length->J'.stop k H)
  (hy:∀(k:Nat) (hk:k < ws.length) (H:Hp) (v:V) (H':Hp) (m':Mp) (st:Hs),Ext X.K m1 H2 m' H->aK X.K m' st H->ck st->J'.pW k H v H'->H'=H/\ae X.K m' H ws[k] v)
  (fin:∀(uE:Hs),res= .ok () uE->∀(D C:UE) (mm:Str->Option UL) (m':Mp) (H':Hp) (s':UK),Ext X.K m1 H2 m' H'->aK X.K m' uE H'->m'[st1.length]? =some D->Inv X pins σ H' s'->dG X pins H' C->s'.heap.Ns C mm->(∀y c,X.env.cells.lookup y=some c->c≠C)->UR (model X.prog X.w) X.A X.xe use Q (.ref D) C (.ok .next) s') :
  UZ (model X.prog X.w) X.A (newList []) (fun acc s3=>UZ (model X.prog X.w) X.A (newFunctionEnv scope X.env.globals (jC X.env scope.names []) [] X.env.qual none .none (some X.env)) (fun cenv s4=>
   UQ (model X.prog X.w) X.A (.compStart (.ListComp elt [⟨.Name x px,iter,ifs,0⟩] scope pos) 0 (.ref it) acc { cenv with scope:=relabel scope X.env }) (UR (model X.prog X.w) X.A X.xe use Q acc cenv.locals) s4) E s3) E s2:=by
 refine U4 ?_
 have I3:Inv X pins σ (upd H2 s2.heap.objs.size (.lst [])) { s2 with heap:=s2.heap.push { cls:=.type "list",data:=.seq ([]:List UL).toArray } }:=I2.FF (ys:=[]) (its:=[]) (t':=s2.toks) .nil (Nat.zero_le _)
 have Qe:∀b∈fp,b < s2.heap.objs.size:=fun b hb=>by
  obtain⟨o,e,_⟩:=T.obj _ _ t0 b hb
  exact Heap.lt_size e
 have hD:H2 s2.heap.objs.size=none:=I2.fresh
 have f3:∀b∈fp,dG X pins (upd H2 s2.heap.objs.size (.lst [])) b:=fun b hb=>⟨by rw[ao (Nat.ne_of_lt (Qe b hb))];exact(f2 b hb).1,(f2 b hb).2⟩
 have S3:=S1.alloc (ws:=[]) (xs:=[]) hD ah.nil
 have e3:Ext X.K m1 H2 (m1++[s2.heap.objs.size]) (upd H2 s2.heap.objs.size (.lst [])):=Ext.more.trans (Ext.upd (.inl hD))
 have Mc:(m1++[s2.heap.objs.size])[st1.length]? =some s2.heap.objs.size:=by
  rw[<-S1.len,List.getElem?_append_right (Nat.le_refl _),Nat.sub_self];rfl
 generalize KP:({ s2 with heap:=s2.heap.push { cls:=.type "list",data:=.seq ([]:List UL).toArray } }:UK)=s3 at I3
 have Qf:∀b o,s2.heap.get? b=some o->s3.heap.get? b=some o:=fun b o e=>by rw[<-KP];exact Heap.get?_push_of_some _ e
 have NP:∀b∈fp,b < s3.heap.objs.size:=fun b hb=>by
  obtain⟨o,e,_⟩:=T.obj _ _ t0 b hb
  exact Heap.lt_size (Qf b o e)
 generalize Uk:s2.heap.objs.size=D at *
 generalize Ul:upd H2 D (.lst [])=H3 at *
 generalize Um:m1++[D]=m3 at *
 have R3:aq X.K m3 H3 (ja cs ρ) (oU cs σ):=(CA cs R).mono e3
 generalize hrr:ja cs ρ=ρc at *
 generalize hss:oU cs σ=σc at *
 refine wpAny_newFunctionEnv S.cell (fun _ z=>nomatch z) (fun h4 RM Qg=>?_) S.kind
 have Ic:=fun E=>zf (E:=E) (tk:=s3.toks+([]:List (Str×UL)).length) S I3 f3 NP RM Qg
 have RN:∀b o,s3.heap.get? b=some o->h4.get? b=some o:=fun b o e=>(Qg.2 b (Nat.ne_of_lt (Heap.lt_size e))).trans (Heap.get?_push_of_some _ e)
 have t4:tn 0 h4:=T.keep _ _ _ t0 fun b _ o e=>RN b o (Qf b o e)
 let EX:UL->UK->Prop:=notedBy (model X.prog X.w) X.A (compEnvC scope (jC X.env scope.names []) s3.heap.objs.size X.env) fun e s'=>UR (model X.prog X.w) X.A X.xe use Q (.ref D) s3.heap.objs.size (.error e) s'
 let Xc:=dE X scope x cs s3.heap.objs.size s3 H3 fp (X.pn++pins) EX
 have noted:∀{σ':St} {m:Mp} {H:Hp} {c:Str} {st:Hs},Ext X.K m1 H2 m H->res= .err c st->I0 Xc σ' m H c st:=fun _ er=>(hx _ _ er).elim
 have vis:Xc.env.scope.names.lookup x=some .local:=lookup_relabel_local S.var
 have NQ:∀(H':Hp),(∀b∈fp,H' b=none)->∀b∈fp,dG Xc [] H' b:=fun H' hn b hb=>⟨hn b hb,Nat.ne_of_lt (NP b hb),qu I3 (f3 b hb),.inl hb,fun y c e=>(f3 b hb).2.2.2.2.1 y c (S.sub I3.ok e),fun p hp=>(f2 b hb).2.2.2.2.2 p (by have Qh:p∈(X.pn++pins)++[]:=hp;rw[List.append_nil] at Qh;exact Qh)⟩
 let Pv:Nat->UK->Prop:=fun k s'=>∃z H' st m',Inv Xc [] (z::σc) H' s'/\tn k s'.heap/\(∀b∈fp,H' b=none)/\Ext X.K m3 H3 m' H'/\aK X.K m' st H'/\ck st/\jZ ck (fun w=>gt (some w::ρc)) (fun w=>ge (some w::ρc)) st1.length (ws.drop k) st=res
 have loop:∀s4:UK,Pv 0 s4->UQ (model X.prog X.w) X.A (.compLoop (.ListComp elt [⟨.Name x px,iter,ifs,0⟩] scope pos) 0 (.ref it) (.ref D) (compEnvC scope (jC X.env scope.names []) s3.heap.objs.size X.env)) (UR (model X.prog X.w) X.A X.xe use Q (.ref D) s3.heap.objs.size) s4:=fun s4 p0=>by
  refine codeAny_compLoop_tests (fun n s'=>∃k,n=ws.length - k/\k<=ws.length/\Pv k s') ?_ ws.length ⟨0,by simp,Nat.zero_le _,p0⟩
  rintro n s5 ⟨k,rfl,hk,z5,H5,xT,m5,I5,Qi,LW,e5,S5,c5,cA⟩
  have Jd:=e3.trans e5
  by_cases hlt:k < ws.length
  ·refine aM (T.item Xc rfl rfl rfl (hY _ _ _ _ _ _ _ _ I3) k [] s5 (z5::σc) H5 _ I5 (NQ H5 LW) Qi (hgo k H5 m5 xT Jd S5 c5 hlt)) fun r s6 h6=>?_
   obtain⟨u,rfl,h6⟩:=h6
   show UZ (model X.prog X.w) X.A (pure () >>= fun _=>assign (.Name x px) Xc.env u) _ _ s6
   refine U0 (aM h6 fun _ s7 h7=>?_)
   obtain⟨v,H7,I7,rv,yl,NR,RO⟩:=h7
   obtain⟨rfl,RP⟩:=hy k hlt H5 v H7 m5 xT Jd S5 c5 yl
   have Ma:=I7.pinned (NQ H7 RO) (T.obj _ _ NR)
   refine wpAny_assign_Name (iP (i:=0) Ma S.nd rfl (.inl vis) rv (fun s8 I8=>?_) (.inr vis))
   have Qj:Inv Xc ([]++dW fp s7.heap) (some v::σc) H7 s8:=I8
   have R8:aq X.K m5 H7 (some ws[k]::ρc) (some v::σc):=by
    have R5:=R3.mono e5
    refine⟨by simp[R5.len],fun i w e=>?_⟩
    cases i with
    | zero=>
     cases e
     exact⟨v,rfl,RP⟩
    | succ i=>exact R5.get i w e
   have ed:ws.drop k=ws[k]::ws.drop (k+1):=List.drop_eq_getElem_cons hlt
   rw[ed] at cA
   unfold jZ at cA
   have back:∀{H':Hp} {s':UK} {m':Mp} {st:Hs},Inv Xc ([]++dW fp s7.heap) (some v::σc) H' s'->Ext X.K m3 H3 m' H'->aK X.K m' st H'->ck st->jZ ck (fun w=>gt (some w::ρc)) (fun w=>ge (some w::ρc)) st1.length (ws.drop (k+1)) st=res->∃n',n' < ws.length - k/\∃k',n'=ws.length - k'/\k'<=ws.length/\Pv k' s' :=
    fun{H' s' m' st} I' e' S' c' r'=>⟨ws.length - (k+1),by omega,k+1,rfl,hlt,some v,H',st,m',I'.iS,T.keep _ _ _ NR fun b hb o e=>(I'.pin (b,o) (List.mem_append_right _ (List.mem_append_right _ (fM hb e)))).1,fun b hb=>by
     obtain⟨o,e,_⟩:=T.obj _ _ NR b hb
     exact(I'.pin (b,o) (List.mem_append_right _ (List.mem_append_right _ (fM hb e)))).2.1,e',S',c',r'⟩
   cases eg:gt (some ws[k]::ρc) xT with
   | err c Je=>
    rw[eg] at cA
    refine U3 (hT s3.heap.objs.size s3 H3 (X.pn++pins) EX (hH.at I3) (some ws[k]::ρc) xT (some v::σc) H7 m5 (fun _ _=>False) S5 R8 (by rw[eg];exact noted Jd cA.symm) ([]++dW fp s7.heap) s8 Qj) (fun _ _ h9=>?_) fun _ _ z=>z
    obtain⟨_,_,z⟩:=h9
    exact z.elim
   | bad=>rw[eg] at cA;exact absurd cA.symm nb
   | ok b Je=>
    rw[eg] at cA
    have D7:=hT s3.heap.objs.size s3 H3 (X.pn++pins) EX (hH.at I3) (some ws[k]::ρc) xT (some v::σc) H7 m5 (fun b' H'=>b'=b/\∃m',Ext X.K m5 H7 m' H'/\aK X.K m' Je H') S5 R8 (by rw[eg];exact fun m' H' e' S'=>⟨rfl,m',e',S'⟩) ([]++dW fp s7.heap) s8 Qj
    refine U3 D7 (fun ok s9 h9=>?_) fun _ _ z=>z
    obtain⟨H9,I9,rfl,m9,e9,S9⟩:=h9
    cases ok with
    | false=>
     dsimp only at cA
     by_cases c6:ck Je
     ·rw[if_pos c6] at cA
      rw[if_neg Bool.false_ne_true]
      exact back I9 (e5.trans e9) S9 c6 cA
     ·rw[if_neg c6] at cA;exact absurd cA.symm nb
    | true=>
     dsimp only at cA
     rw[if_pos rfl]
     cases ee:ge (some ws[k]::ρc) Je with
     | err c Md=>
      rw[ee] at cA
      refine U3 (hE s3.heap.objs.size s3 H3 (X.pn++pins) EX (hH.at I3) (some ws[k]::ρc) Je (some v::σc) H9 m9 (fun _ _=>False) S9 (R8.mono e9) (by rw[ee];exact noted (Jd.trans e9) cA.symm) ([]++dW fp s7.heap) s9 I9) (fun _ _ NT=>?_) fun _ _ z=>z
      obtain⟨_,_,_,_,z⟩:=NT
      exact z.elim
     | bad=>rw[ee] at cA;exact absurd cA.symm nb
     | ok w Md=>
      rw[ee] at cA
      dsimp only at cA
      cases ea:kj (.ref st1.length) w Md with
      | err c NU=>rw[ea] at cA;exact absurd cA.symm nb
      | bad=>rw[ea] at cA;exact absurd cA.symm nb
      | ok w2 NU=>
       rw[ea] at cA
       dsimp only at cA
       by_cases c8:ck NU
       ·rw[if_pos c8] at cA
        have el:=hE s3.heap.objs.size s3 H3 (X.pn++pins) EX (hH.at I3) (some ws[k]::ρc) Je (some v::σc) H9 m9 (fun v' H'=>∃m',Ext X.K m9 H9 m' H'/\aK X.K m' Md H'/\ae X.K m' H' w v') S9 (R8.mono e9) (by rw[ee];exact fun v' m' H' e' S' r'=>⟨m',e',S',r'⟩) ([]++dW fp s7.heap) s9 I9
        refine U3 el (fun u2 Gs NT=>?_) fun _ _ z=>z
        obtain⟨v2,Gu,RQ,r2,NV,NW,RS,NX⟩:=NT
        obtain⟨r,h1,h2⟩:=zd (X:=Xc)
        have eA:=(e5.trans e9).trans NW
        have ro:ae X.K NV Gu (.ref st1.length) (.ref D):=by unfold ae;exact⟨D,rfl,eA.pre _ _ Mc⟩
        have rd:=h2 (.ref st1.length) w (.ref D) v2 Md Gu NV (fun _ H'=>∃m',Ext X.K NV Gu m' H'/\aK X.K m' NU H') RS ro NX (by rw[ea];exact fun v' m' H' e' S' r'=>⟨m',e',S'⟩)
        refine U3 (h1 ([]++dW fp s7.heap) Gs (some v::σc) Gu (.ref D) [v2] (.ref D) [u2] _ RQ rfl (.cons r2 .nil) rd) (fun _ Qk h11=>?_) fun _ _ z=>z
        obtain⟨_,Ql,RT,_,Uo,RU,RV⟩:=h11
        exact back RT (eA.trans RU) RV c8 cA
       ·rw[if_neg c8] at cA;exact absurd cA.symm nb
  ·have ek:k=ws.length:=by omega
   subst ek
   refine aM (T.done Xc rfl rfl rfl (hY _ _ _ _ _ _ _ _ I3) _ [] s5 (z5::σc) H5 _ I5 (NQ H5 LW) Qi (hstop _ H5 m5 xT Jd S5 c5 rfl)) fun r s6 h6=>?_
   obtain⟨rfl,I6⟩:=h6
   rw[List.drop_length] at cA
   obtain⟨mm,RW,_⟩:=id I6.loc
   have fC:=I3.pX (H':=H5) (Nat.le_refl _) I6.free
   exact fin xT cA.symm D _ mm m5 H5 _ Jd S5 (e5.pre _ _ Mc) (zh I3 f3 I6) fC RW fC.2.2.2.2.1
 have p0:Pv 0 { s3 with heap:=h4,toks:=s3.toks+([]:List (Str×UL)).length }:=⟨none,H3,st1++[Ob.lst []],m3,hss ▸ Ic EX,t4,fun b hb=>(f3 b hb).1,Ext.refl,S3,hck,by rw[List.drop_zero];exact run⟩
 exact codeAny_compStart_list (loop _ p0) (T.self X.A 0 _ _ _ t4 (loop _ p0))
end
end J
namespace J
open PySem PySem.Spec PyProof.Rows L2
abbrev Wk:=Option Nat×List Wv
def iE (w:Wk) (st:Hs):Prop:=match w.1 with
 | some l=>af st l=some w.2
 | none=>True
structure qw (X:Cx) (w:Wk) (m1:Mp) (H1:Hp) (J':It):Prop where
 go:∀(k:Nat) (H:Hp) (m':Mp) (st:Hs),Ext X.K m1 H1 m' H->aK X.K m' st H->iE w st->k < w.2.length->J'.go k H
 stop:∀(k:Nat) (H:Hp) (m':Mp) (st:Hs),Ext X.K m1 H1 m' H->aK X.K m' st H->iE w st->k=w.2.length->J'.stop k H
 pW:∀(k:Nat) (hk:k < w.2.length) (H:Hp) (v:V) (H':Hp) (m':Mp) (st:Hs),Ext X.K m1 H1 m' H->aK X.K m' st H->iE w st->J'.pW k H v H'->H'=H/\ae X.K m' H w.2[k] v
abbrev GI:=aS->Hs->Re Wk
def NY (Y:Cx->Prop) (X:Cx) (pins:List (UE×Obj)) (σ:St) (tg:Expr) (R:It->Hp->Prop) (itv:UL) (s2:UK):Prop :=
 ∃(it:UE) (fp:List UE) (tn:Nat->Heap->Prop) (J:It) (H':Hp),itv= .ref it/\Inv X pins σ H' s2/\uF Y X.prog X.w X.K tg J fp it tn/\tn 0 s2.heap/\(∀b∈fp,dG X pins H' b)/\R J H'
def NZ (Y:Cx->Prop) (X:Cx) (tg iter:Expr) (wi:TI):Prop:=∀(pins:List (UE×Obj)) (s:UK) (σ:St) (H:Hp) (R:It->Hp->Prop),Inv X pins σ H s->wi σ H R->
 UZ (model X.prog X.w) X.A (eval iter X.env) (fun v s1=>UZ (model X.prog X.w) X.A (pyIter v) (NY Y X pins σ tg R) X.xe s1) X.xe s
theorem _root_.L2.PI.y {X:Cx} {tg iter:Expr} {wi:TI} (h:PI X tg iter wi):NZ Calm X tg iter wi:=fun pins s σ H R I q=>aM (h pins s σ H R I q) fun _ _ h1=>aM h1 fun _ _ h2=>
 let ⟨it,fp,tn,J,H',e,I',T,r⟩:=h2;⟨it,fp,tn,J,H',e,I',T.y,r⟩
def Jf (Y:Cx->Prop) (X:Cx) (tg iter:Expr) (gi:GI):Prop:=∃wi,NZ Y X tg iter wi/\∀(ρ:aS) (st:Hs) (σ:St) (H:Hp) (m:Mp) (R:It->Hp->Prop),aK X.K m st H->aq X.K m H ρ σ->
 ar X σ m H (gi ρ st) (fun w st1=>∀(m1:Mp) (H1:Hp) (J':It),Ext X.K m H m1 H1->aK X.K m1 st1 H1->iE w st1->qw X w m1 H1 J'->R J' H1)->wi σ H R
def JI (X:Cx) (tg iter:Expr) (gi:GI):Prop:=∃wi,PI X tg iter wi/\∀(ρ:aS) (st:Hs) (σ:St) (H:Hp) (m:Mp) (R:It->Hp->Prop),aK X.K m st H->aq X.K m H ρ σ->
 ar X σ m H (gi ρ st) (fun w st1=>∀(m1:Mp) (H1:Hp) (J':It),Ext X.K m H m1 H1->aK X.K m1 st1 H1->iE w st1->qw X w m1 H1 J'->R J' H1)->wi σ H R
theorem JI.y {X:Cx} {tg iter:Expr} {gi:GI} (h:JI X tg iter gi):Jf Calm X tg iter gi:=let ⟨wi,h1,h2⟩:=h;⟨wi,h1.y,h2⟩
def Gv (w:Wv) (st:Hs):Re Wk:=match w with
 | .ref l=>(match af st l with | some ws=> .ok (some l,ws) st | none=> .bad)
 | .tup ws=> .ok (none,ws) st
 | .lx ws=> .ok (none,ws) st
 | _=> .bad
def zj (g:GE):GI:=fun ρ st=>(g ρ st).bind Gv
section
variable {X:Cx}
theorem Gw {tg iter:Expr} {g:GE} (h:JE X iter g):JI X tg iter (zj g):=by
 refine⟨_,yY az,fun ρ st σ H m Q S R p=>?_⟩
 refine h.go S R (ar.bind p) fun w st1 v m1 H1 p1 e1 S1 rw'=>?_
 cases w with
 | ref l=>
  unfold ae at rw'
  obtain⟨a,rfl,hla⟩:=rw'
  unfold Gv at p1
  cases el:af st1 l with
  | none=>simp only[el] at p1;exact False.elim p1
  | some ws=>
   simp only[el] at p1
   obtain⟨Cp,q0,_⟩:=S1.read hla el
   refine⟨a,rfl,.inl ⟨⟨Cp,q0⟩,p1 m1 H1 _ e1 S1 el ⟨fun k H' m' st' e S' c hk=>?_,fun k H' m' st' e S' c hk=>?_,fun k hk H' v sJ m' st' e S' c y=>?_⟩⟩⟩
   ·obtain⟨xs,hq,rws⟩:=S'.read (e.pre _ _ hla) c
    have hx':k < xs.length:=by rw[<-rws.length];exact hk
    exact⟨xs,xs[k],hq,by simp[hx']⟩
   ·obtain⟨xs,hq,rws⟩:=S'.read (e.pre _ _ hla) c
    exact⟨xs,hq,by rw[<-rws.length,hk];exact Nat.le_refl _⟩
   ·obtain⟨xs,hq,rws⟩:=S'.read (e.pre _ _ hla) c
    obtain⟨ee,y⟩:=y
    refine⟨ee,?_⟩
    obtain⟨x',ex',jz⟩:=rws.get (i:=k) (w:=ws[k]) (List.getElem?_eq_getElem hk)
    rw[y xs hq] at ex'
    cases ex'
    exact jz
 | tup ws=>
  unfold ae at rw'
  obtain⟨a,xs,rfl,hq,rws⟩:=rw'
  refine⟨a,rfl,.inr ⟨⟨xs,dq.of hq⟩,p1 m1 H1 _ e1 S1 trivial ⟨fun k H' m' st' e S' c hk=>?_,fun k H' m' st' e S' c hk=>?_,fun k hk H' v sJ m' st' e S' c y=>?_⟩⟩⟩
  ·have hx':k < xs.length:=by rw[<-rws.length];exact hk
   exact⟨xs,xs[k],dq.of (e.tup _ _ hq),by simp[hx']⟩
  ·exact⟨xs,dq.of (e.tup _ _ hq),by rw[<-rws.length,hk];exact Nat.le_refl _⟩
  ·obtain⟨ee,y⟩:=y
   refine⟨ee,?_⟩
   obtain⟨x',ex',jz⟩:=(ah.mono e _ _ rws).get (i:=k) (w:=ws[k]) (List.getElem?_eq_getElem hk)
   rw[y xs (dq.of (e.tup _ _ hq))] at ex'
   cases ex'
   exact jz
 | lx ws=>
  unfold ae at rw'
  obtain⟨a,xs,rfl,hq,rws⟩:=rw'
  refine⟨a,rfl,.inr ⟨⟨xs,.inr hq⟩,p1 m1 H1 _ e1 S1 trivial ⟨fun k H' m' st' e S' c hk=>?_,fun k H' m' st' e S' c hk=>?_,fun k hk H' v sJ m' st' e S' c y=>?_⟩⟩⟩
  ·have hx':k < xs.length:=by rw[<-rws.length];exact hk
   exact⟨xs,xs[k],.inr hq,by simp[hx']⟩
  ·exact⟨xs,.inr hq,by rw[<-rws.length,hk];exact Nat.le_refl _⟩
  ·obtain⟨ee,y⟩:=y
   refine⟨ee,?_⟩
   obtain⟨x',ex',jz⟩:=(ah.mono e _ _ rws).get (i:=k) (w:=ws[k]) (List.getElem?_eq_getElem hk)
   rw[y xs (.inr hq)] at ex'
   cases ex'
   exact jz
 | _=>exact False.elim p1
theorem zk {lo:Int} {n:Nat} {m1:Mp} {H1:Hp}:qw X (none,bY lo n) m1 H1 (BD lo n) where
 go:=fun k H m' st e S c hk=>by
  have:(bY lo n).length=n:=gI
  have hk':k < (bY lo n).length:=hk
  rw[this] at hk';exact hk'
 stop:=fun k H m' st e S c hk=>by
  have:(bY lo n).length=n:=gI
  have hk':k=(bY lo n).length:=hk
  rw[this] at hk';exact Nat.le_of_eq hk'.symm
 pW:=fun k hk H v H' m' st e S c y=>by
  obtain⟨y1,y2⟩:=y
  refine⟨y1,?_⟩
  have q:(bY lo n)[k]'hk= .int (lo+k):=ql hk
  show ae X.K m' H ((bY lo n)[k]'hk) v
  rw[q,y2]
  exact mkInt
def qx (ws:List Wv) (st:Hs):Re Wk:=match ws with
 | [.int j]=>if i6 j then .ok (none,bY 0 j.toNat) st else .bad
 | _=> .bad
def Ej (ws:List Wv) (st:Hs):Re Wk:=match ws with
 | [.int a,.int j]=>if i6 a/\i6 j then .ok (none,bY a (j - a).toNat) st else .bad
 | _=> .bad
def zl (g:GA):GI:=fun ρ st=>(g ρ st).bind qx
def N0 (g:GA):GI:=fun ρ st=>(g ρ st).bind Ej
theorem KQ {tg a:Expr} {ga:GA} {p q:Pos} (hg:Gl X "range") (hm:X.mg "range"=none) (ha:JA X [a] ga) (hst:UY [a] X.env=[(false,eval a X.env)]):JI X tg (.Call (.Name "range" p) [a] [] q) (zl ga):=by
 refine⟨_,nj hg hm il hst,fun ρ st σ H m Q S R p=>?_⟩
 refine ha.go S R (ar.bind p) fun ws st1 vs m1 H1 p1 e1 S1 rs=>?_
 match ws,rs,p1 with
 | [],rs,p1=>exact False.elim p1
 | x::y::t,rs,p1=>cases x<;>exact False.elim p1
 | [x],rs,p1=>
  obtain⟨v,rfl,r1⟩:=ie rs
  cases x with
  | int j=>
   cases aC r1
   unfold qx at p1
   by_cases c:i6 j
   ·simp only[if_pos c] at p1
    exact⟨j,rfl,c.1,c.2,p1 m1 H1 _ e1 S1 trivial zk⟩
   ·simp only[if_neg c] at p1;exact False.elim p1
  | _=>exact False.elim p1
def zm:GI:=fun _ _=> .bad
theorem zo {tg iter:Expr}:PI X tg iter (fun _ _ _=>False):=fun _ _ _ _ _ _ h=>h.elim
theorem zp {tg iter:Expr}:JI X tg iter zm:=⟨_,zo,fun ρ st σ H m Q S R p=>p⟩
def df (cs:d_) (gt:GT) (ge:GE) (ρ:aS) (w:Wk) (st:Hs):Re Wv:=match i_ (iE w) (fun v=>gt (some v::ja cs ρ)) (fun v=>ge (some v::ja cs ρ)) st.length w.2 (st++[.lst []]) with
 | some uE=> .ok (.ref st.length) uE
 | none=> .bad
def iq (cs:d_) (gi:GI) (gt:GT) (ge:GE):GE:=fun ρ st=>(gi ρ st).bind fun w st1=>df cs gt ge ρ w st1
theorem wF {st:Hs} {l:Nat} {ws:List Wv} {more:Hs} (h:af st l=some ws):af (st++more) l=some ws:=by
 unfold af at h ⊢
 cases e:st[l]? with
 | none=>rw[e] at h;cases h
 | some o=>
  have hl:=(List.getElem?_eq_some_iff.mp e).1
  rw[List.getElem?_append_left hl,e]
  rw[e] at h
  exact h
theorem lQ {w:Wk} {st more:Hs} (h:iE w st):iE w (st++more):=by
 obtain⟨o,ws⟩:=w
 cases o with
 | none=>trivial
 | some l=>exact wF h
theorem uG {scope:Scope} {x:Str} {cs:d_} {px pos:Pos} {elt iter:Expr} {ifs:List Expr} {gi:GI} {gt:GT} {ge:GE} {use:Option (UL->Sem Unit)} {Q:UL->UK->Prop} {P:Wv->Hs->Prop}
  {ρ:aS} {st:Hs} {σ:St} {H:Hp} {m:Mp} {pins:List (UE×Obj)} {s:UK} {ps:Pos}
  {Y:Cx->Prop} (fr:zi X) (CS:cz X scope x cs) (hc:Jc Y X) (hH:sH X) (hi:Jf Y X (.Name x px) iter gi) (hE:∀C s0 H0 fp pn E,wB X.A H0->JE (dE X scope x cs C s0 H0 fp pn E) elt ge) (hT:∀C s0 H0 fp pn E,wB X.A H0->Ei (dE X scope x cs C s0 H0 fp pn E) ifs gt) (hs:∀x,UT iter X.env x=pure x)
  (S:aK X.K m st H) (R:aq X.K m H ρ σ) (I:Inv X pins σ H s) (p:ar X σ m H (iq cs gi gt ge ρ st) P)
  (fin:∀(w:Wv) (uE:Hs) (v:V) (D C:UE) (mm:Str->Option UL) (m':Mp) (H':Hp) (s':UK),P w uE->Ext X.K m H m' H'->aK X.K m' uE H'->ae X.K m' H' w v->v= .ref D->Inv X pins σ H' s'->dG X pins H' C->s'.heap.Ns C mm->UR (model X.prog X.w) X.A X.xe use Q (.ref D) C (.ok .next) s') :
  UZ (model X.prog X.w) X.A (comprehension (.ListComp elt [⟨.Name x px,iter,ifs,0⟩] scope pos) scope X.env ps (newList []) false (eval iter X.env) use) Q X.xe s:=by
 obtain⟨wi,N1,hw⟩:=hi
 let R':It->Hp->Prop:=fun J' H1=>∃(w:Wk) (st1:Hs) (m1:Mp),ar X σ m H (df cs gt ge ρ w st1) P/\Ext X.K m H m1 H1/\aK X.K m1 st1 H1/\iE w st1/\qw X w m1 H1 J'
 have hr:=hw ρ st σ H m R' S R ((ar.bind p).imp Ext.refl fun w st1 q m1 H1 J' e1 S1 c1 wG=>⟨w,st1,m1,q,e1,S1,c1,wG⟩)
 refine wpAny_comprehension_free (g:=⟨.Name x px,iter,ifs,0⟩) (gs:=[]) (cl:=jC X.env scope.names []) rfl hs (Cz (CS.has I.ok)) CS.kind (fun y hy e=>by rw[CS.look y hy,e]) (aM (N1 pins s σ H R' I hr) fun v s1 h1=>aM h1 fun itv s2 h2=>?_)
 obtain⟨it,fp,tn,J',H1,rfl,I2,T,t0,f2,w,st1,m1,q,e1,S1,c1,wG⟩:=h2
 unfold df at q
 cases run:i_ (iE w) (fun v=>gt (some v::ja cs ρ)) (fun v=>ge (some v::ja cs ρ)) st1.length w.2 (st1++[.lst []]) with
 | none=>
  rw[run] at q
  exact False.elim q
 | some uE=>
  rw[run] at q
  refine sI (use:=use) (Q:=Q) fr CS hc hH I2 T t0 f2 S1 (R.mono e1) (lQ c1) (lP _ _ run) (by intro z;cases z) (fun c' RX z=>by cases z) (fun C s0 H0 pn E=>hE C s0 H0 fp pn E) (fun C s0 H0 pn E=>hT C s0 H0 fp pn E) wG.go wG.stop wG.pW ?_
  intro RY z D C mm m' H' s' e' S' Mc I' fC ns _
  cases z
  exact fin _ uE (.ref D) D C mm m' H' s' q (e1.trans e') S' (by unfold ae;exact⟨D,rfl,Mc⟩) rfl I' fC ns
theorem oV {scope:Scope} {x:Str} {cs:d_} {px pos:Pos} {elt iter:Expr} {ifs:List Expr} {gi:GI} {gt:GT} {ge:GE}
  {Y:Cx->Prop} (fr:zi X) (CS:cz X scope x cs) (hc:Jc Y X) (hH:sH X) (hi:Jf Y X (.Name x px) iter gi) (hE:∀C s0 H0 fp pn E,wB X.A H0->JE (dE X scope x cs C s0 H0 fp pn E) elt ge) (hT:∀C s0 H0 fp pn E,wB X.A H0->Ei (dE X scope x cs C s0 H0 fp pn E) ifs gt) (hs:∀x,UT iter X.env x=pure x) :
  JE X (.ListComp elt [⟨.Name x px,iter,ifs,0⟩] scope pos) (iq cs gi gt ge):=fun ρ st σ H m Q S R p pins s I=>by
 rw[eval_ListComp]
 refine uG (use:=none) fr CS hc hH hi hE hT hs S R I p ?_
 intro w uE v D C mm m' H' s' q e' S' rw' ev I' fC ns
 exact⟨mm,ns,fun h' same=>⟨.ref D,H',nQ I' fC same,rfl,ev ▸ q v m' H' e' S' rw'⟩⟩
theorem uH (i:Nat) {scope:Scope} {x y:Str} {cs:d_} {px pos spos py:Pos} {elt iter:Expr} {ifs:List Expr} {gi:GI} {gt:GT} {ge:GE} (hN:X.N.Nodup)
  {Y:Cx->Prop} (fr:zi X) (CS:cz X scope x cs) (hc:Jc Y X) (hH:sH X) (hi:Jf Y X (.Name x px) iter gi) (hE:∀C s0 H0 fp pn E,wB X.A H0->JE (dE X scope x cs C s0 H0 fp pn E) elt ge) (hT:∀C s0 H0 fp pn E,wB X.A H0->Ei (dE X scope x cs C s0 H0 fp pn E) ifs gt) (hs:∀x,UT iter X.env x=pure x)
  (hx:X.N[i]? =some y) (hl:Loc X.env.scope y) (hf:X.fn y=true\/X.env.scope.names.lookup y=some .local) :
  JS X (.Assign [.Name y py] (.ListComp elt [⟨.Name x px,iter,ifs,0⟩] scope pos) spos) (aI i (iq cs gi gt ge)):=by
 have sw:∃b,swapsWith (.ListComp elt [⟨.Name x px,iter,ifs,0⟩] scope pos) (some (.Name y py)) spos.line X.env=pure b:=⟨_,rfl⟩
 obtain⟨b,sw⟩:=sw
 cases b with
 | false=>exact sF i hN (oV fr CS hc hH hi hE hT hs) hx hl sw hf
 | true=>
  intro ρ st σ H m D S R p pins s I
  rw[exec_Assign_Name_used _ _ _ _ sw]
  refine U0 (wpAny_standAt (U0 ?_))
  show UZ _ X.A (do let _ <-comprehension (.ListComp elt [⟨.Name x px,iter,ifs,0⟩] scope pos) scope X.env _ (newList []) false (eval iter X.env) (some (assign (.Name y py) X.env))) _ _ s
  refine U0 (U3 (uG (use:=some (assign (.Name y py) X.env)) (Q:=fun _ s'=>SP X pins D .next s') fr CS hc hH hi hE hT hs S R I (av.bo R p) ?_) (fun _ s' hq=>U6 (U6 hq)) fun _ _ e=>e)
  intro w uE v D' C mm m' H' s' q e' S' rw' ev I' fC ns
  refine wpAny_assign_Name (nh (i:=i) I' hN hx hl (show RelV v (.ref D') by rw[ev];rfl) (fun s2 I2 h2=>?_) hf)
  obtain⟨a,sb,ha⟩:=h2
  have hca:C≠a:=by
   rcases ha with z | z
   ·rw[z];exact fC.2.1
   ·exact Ne.symm (fC.2.2.2.2.1 y a z)
  exact⟨mm,ns.sameBut sb hca,fun h' same=>⟨_,_,nQ I2 fC same,q _ m' H' e' S' ((R.mono e').set i rw')⟩⟩
end
end J
namespace J
open PySem PySem.Spec PyProof.Rows L2
section
variable {X:Cx}
def CF (n:Nat) (k:Int):Prop:=-(2 ^ 62)<=k/\k < 2 ^ 62/\n * k.toNat<=lim
instance {n k}:Decidable (CF n k):=Classical.propDecidable _
def lR:dD
 | .ref l,.int n,st=>match st[l]? with
  | some (.lst ws)=>if CF ws.length n then .ok (.ref st.length) (st++[.lst (List.replicate n.toNat ws).flatten]) else .bad
  | _=> .bad
 | x,y,st=>Eh x y st
theorem nR {K:PySem.W.Frag} {m:Mp} {H:Hp} {ws:List Wv} {xs:List V} (r:ah K m H ws xs):∀n:Nat,ah K m H (List.replicate n ws).flatten (List.replicate n xs).flatten
 | 0=>ah.nil
 | n+1=>by
  rw[List.replicate_succ,List.flatten_cons,List.replicate_succ,List.flatten_cons]
  exact r.append (nR r n)
theorem CG:gz X (UO .Mult) lR:=by
 obtain⟨r,h1,h2⟩:=Co (X:=X)
 refine⟨_,cW.or FG h1,fun x y a b st H m Q S rx ry p=>?_⟩
 unfold lR at p
 split at p
 ·rename_i l n
  unfold ae at rx
  obtain⟨a1,rfl,hl⟩:=rx
  cases aC ry
  cases e:st[l]? with
  | none=>rw[e] at p;exact False.elim p
  | some o=>
   cases o with
   | dct kvs=>rw[e] at p;exact False.elim p
   | bM kvs=>rw[e] at p;exact False.elim p
   | mG kvs=>rw[e] at p;exact False.elim p
   | ic ns=>rw[e] at p;exact False.elim p
   | lst ws=>
    rw[e] at p
    dsimp only at p
    by_cases c:CF ws.length n
    ·rw[if_pos c] at p
     obtain⟨xs,q1,q2⟩:=S.lB hl e
     refine .inl ⟨a1,n,xs,rfl,rfl,q1,by have:=c.1;omega,by have:=c.2.1;omega,by rw[<-q2.length];exact cx c.2.2,fun q hq=>?_⟩
     exact dX p Ext.refl S (nR q2 n.toNat) q hq
    ·rw[if_neg c] at p;exact False.elim p
 ·exact .inr (h2 x y a b st H m Q S rx ry p)
def iF:List Wv->Hs->Re Wv
 | [.ref l],st=>match af st l with
  | some ws=> .ok (.ref st.length) (st++[.lst ws])
  | none=> .bad
 | [.tup ws],st=> .ok (.ref st.length) (st++[.lst ws])
 | _,_=> .bad
theorem CH:bx X (.type "list") iF:=⟨_,oJ,fun ws vs st H m Q S rs p=>by
 match ws,rs,p with
 | [],rs,p=>exact False.elim p
 | x::y::t,rs,p=>cases x<;>exact False.elim p
 | [x],rs,p=>
  obtain⟨v,rfl,r1⟩:=ie rs
  cases x with
  | ref l=>
   unfold iF at p
   unfold ae at r1
   obtain⟨a,rfl,hl⟩:=r1
   cases e:af st l with
   | none=>simp only[e] at p;exact False.elim p
   | some ws=>
    simp only[e] at p
    obtain⟨xs,q1,q2⟩:=S.read hl e
    exact⟨a,xs,rfl,.inl q1,fun q hq=>dX p Ext.refl S q2 q hq⟩
  | tup ws=>
   unfold ae at r1
   obtain⟨a,xs,rfl,q1,q2⟩:=r1
   exact⟨a,xs,rfl,.inr (dq.of q1),fun q hq=>dX p Ext.refl S q2 q hq⟩
  | _=>exact False.elim p⟩
end
end J
namespace JL
open PySem PyProof.Rows
def CI:Bool->U8->Array U8->Nat->Nat->Nat->StateT U9 Sem (Option Nat):=sortPriv% PySem.Builtin.gallop
def zq:Array U8->Array U8->StateT U9 Sem (Array U8):=sortPriv% PySem.Builtin.mergeLo
def zr:Array U8->Array U8->StateT U9 Sem (Array U8):=sortPriv% PySem.Builtin.mergeHi
def Ik (p:U8):Prop:=∃n t,p.1=Value.int n t
def kn (p:U8):Int:=numOf p.1
section
variable {prog:UJ} {w:UM} {A:UG} {E:UL->UK->Prop} {s:UK}
theorem qy {st:U9} {x y:U8} {Q:Option Bool->U9->Prop} (hk:kindOf st=U_) (hx:Ik x) (hy:Ik y) (h:Q (some (decide (kn x < kn y))) st):wpS (model prog w) A E s (lt' x y) Q st:=by
 obtain⟨a,t,ea⟩:=hx
 obtain⟨b,u,eb⟩:=hy
 unfold kn at h
 rw[ea,eb] at h
 rw[lt'_eq]
 refine U' (wpS_get ?_)
 rw[hk,keyLt'_oneType,ea,eb]
 refine U' (wpS_lift (wpAny_attempt (oneLt_int ⟨rfl,?_⟩)))
 exact Vc h
theorem aP {st:U9} {a:Array U8} {i:Nat} {p:U8} {Q:U8->U9->Prop} (hp:a[i]? =some p) (h:Q p st):wpS (model prog w) A E s (elem' a i) Q st:=by
 rw[elem'_eq,hp]
 exact Vc h
def gp (left:Bool) (key:U8) (arr:Array U8) (base i:Nat):Bool:=if left then decide (K arr (base+i) < kn key) else !decide (kn key < K arr (base+i))
theorem gZ {st:U9} {left:Bool} {key:U8} {arr:Array U8} {base n i:Nat} {Q:Option Bool->U9->Prop} (hk:kindOf st=U_) (hkey:Ik key)
  (hb:base+n<=arr.size) (ha:∀p∈arr.toList,Ik p) (hi:i < n) (h:Q (some (gp left key arr base i)) st) :
  wpS (model prog w) A E s (do
   let x <-elem' arr (base+i)
   if left=true then lt' x key else do
    let r <-lt' key x
    pure (r.map (!·))) Q st:=by
 have lt:base+i < arr.size:=by omega
 have e:arr[base+i]? =some arr[base+i]:=Array.getElem?_eq_getElem lt
 have ik:Ik arr[base+i]:=ha _ (by simp)
 have ek:K arr (base+i)=kn arr[base+i]:=by unfold K kn;rw[e]
 unfold gp at h
 rw[ek] at h
 refine U' (aP e ?_)
 cases left
 ·rw[if_neg (by decide)] at h ⊢
  exact U' (qy hk hkey ik (Vc h))
 ·rw[if_pos rfl] at h ⊢
  exact qy hk ik hkey h
def uI (left:Bool) (key:U8) (arr:Array U8) (base n:Nat) (l0 h0:Nat):StateT U9 Sem (Option Nat):=do
 let mut lo:=l0
 let mut hi:=h0
 for _ in [0:n] do
  if lo >= hi then break
  let some b <-(do
   let x <-elem' arr (base+(lo+(hi - lo) / 2))
   if left=true then lt' x key else do
    let r <-lt' key x
    pure (r.map (!·)):StateT U9 Sem (Option Bool)) | return none
  if b then lo:=lo+(hi - lo) / 2+1 else hi:=lo+(hi - lo) / 2
 return some hi
theorem qz {st:U9} {left:Bool} {key:U8} {arr:Array U8} {base n l0 h0:Nat} {Q:Option Nat->U9->Prop} (hk:kindOf st=U_) (hkey:Ik key)
  (hb:base+n<=arr.size) (ha:∀p∈arr.toList,Ik p) (dn:∀i j,i<=j->j < n->gp left key arr base j=true->gp left key arr base i=true) (l1:l0<=h0) (h1:h0<=n)
  (hl:∀i,i < l0->gp left key arr base i=true) (hh:∀i,h0<=i->i < n->gp left key arr base i=false)
  (h:∀k,k<=n->(∀i,i < k->gp left key arr base i=true)->(∀i,k<=i->i < n->gp left key arr base i=false)->Q (some k) st):wpS (model prog w) A E s (uI left key arr base n l0 h0) Q st:=by
 unfold uI
 refine U' (Vb (Va (I:=fun x c st'=>st'=st/\∃l r,c=(none,l,r)/\l<=r/\r<=n/\r - l<=n - x/\(∀i,i < l->gp left key arr base i=true)/\(∀i,r<=i->i < n->gp left key arr base i=false))
  (Q:=fun c st'=>st'=st/\∃r,c=(none,r,r)/\r<=n/\(∀i,i < r->gp left key arr base i=true)/\(∀i,r<=i->i < n->gp left key arr base i=false)) ?a ?b ?c) ?d)
 case c=>exact⟨rfl,l0,h0,rfl,l1,h1,by omega,hl,hh⟩
 case b=>
  rintro c st' ⟨rfl,l,r,rfl,g1,g2,g3,g4,g5⟩
  have:l=r:=by omega
  subst this
  exact⟨rfl,l,rfl,g2,g4,g5⟩
 case d=>
  rintro c st' ⟨rfl,r,rfl,g2,g4,g5⟩
  exact Vc (h r g2 g4 g5)
 case a=>
  rintro x c st' _ hx ⟨rfl,l,r,rfl,g1,g2,g3,g4,g5⟩
  dsimp only
  by_cases c:l >= r
  ·rw[if_pos c]
   have:l=r:=by omega
   subst this
   exact Vc ⟨rfl,l,rfl,g2,g4,g5⟩
  ·rw[if_neg c]
   refine U' (gZ hk hkey hb ha (by omega) ?_)
   cases q:gp left key arr base (l+(r - l) / 2)
   ·refine Vc ⟨rfl,l,l+(r - l) / 2,rfl,by omega,by omega,by omega,g4,fun i i1 i2=>?_⟩
    cases q':gp left key arr base i
    ·rfl
    ·rw[dn _ _ i1 i2 q'] at q;cases q
   ·exact Vc ⟨rfl,l+(r - l) / 2+1,r,rfl,by omega,by omega,by omega,fun i i1=>dn _ _ (by omega) (by omega) q,g5⟩
theorem dQ {st:U9} {left:Bool} {key:U8} {arr:Array U8} {base n hint:Nat} {Q:Option Nat->U9->Prop} (hk:kindOf st=U_) (hkey:Ik key)
  (hb:base+n<=arr.size) (ha:∀p∈arr.toList,Ik p) (hh:hint < n) (mono:∀i j,i<=j->j < n->K arr (base+i)<=K arr (base+j))
  (h:∀k,k<=n->(∀i,i < k->gp left key arr base i=true)->(∀i,k<=i->i < n->gp left key arr base i=false)->Q (some k) st):wpS (model prog w) A E s (CI left key arr base n hint) Q st:=by
 have dn:∀i j,i<=j->j < n->gp left key arr base j=true->gp left key arr base i=true:=fun i j h1 h2 h3=>by
  have:=mono i j h1 h2
  unfold gp at h3 ⊢
  cases left
  ·simp at h3 ⊢;omega
  ·simp at h3 ⊢;omega
 have up:∀i j,i<=j->j < n->gp left key arr base i=false->gp left key arr base j=false:=fun i j h1 h2 h3=>by
  cases q:gp left key arr base j
  ·rfl
  ·rw[dn i j h1 h2 q] at h3;cases h3
 refine U' (gZ hk hkey hb ha hh ?_)
 cases q:gp left key arr base hint
 ·refine U' (Vb (Va (I:=fun x c st'=>st'=st/\∃l o,c=(none,l,o)/\l < o/\l<=hint/\x+1<=o/\gp left key arr base (hint - l)=false)
   (Q:=fun c st'=>st'=st/\∃l o,c=(none,l,o)/\l < o/\l<=hint/\gp left key arr base (hint - l)=false/\(hint+1<=o\/gp left key arr base (hint - o)=true)) ?a ?b ?c) ?d)
  case c=>exact⟨rfl,0,1,rfl,by omega,by omega,by omega,q⟩
  case b=>
   rintro c st' ⟨rfl,l,o,rfl,g1,g2,g3,g4⟩
   exact⟨rfl,l,o,rfl,g1,g2,g4,.inl (by omega)⟩
  case d=>
   rintro c st' ⟨rfl,l,o,rfl,g1,g2,g4,g5⟩
   refine(qz (base:=base) (l0:=hint+1 - min o (hint+1)) (h0:=hint - l) hk hkey hb ha dn (by omega) (by omega) (fun i hi=>?_) (fun i i1 i2=>up _ _ i1 i2 g4) h:wpS _ _ _ _ (uI left key arr base n _ _) Q _)
   rcases g5 with g5 | g5
   ·omega
   ·exact dn _ _ (by omega) (by omega) g5
  case a=>
   rintro x c st' _ hx ⟨rfl,l,o,rfl,g1,g2,g3,g4⟩
   dsimp only
   by_cases c:o >= hint+1
   ·rw[if_pos c]
    exact Vc ⟨rfl,l,o,rfl,g1,g2,g4,.inl c⟩
   ·rw[if_neg c]
    refine U' (gZ hk hkey hb ha (by omega) ?_)
    cases q':gp left key arr base (hint - o)
    ·exact Vc ⟨rfl,o,2 * o+1,rfl,by omega,by omega,by omega,q'⟩
    ·exact Vc ⟨rfl,l,o,rfl,g1,g2,g4,.inr q'⟩
 ·refine U' (Vb (Va (I:=fun x c st'=>st'=st/\∃l o,c=(none,l,o)/\l < o/\hint+l < n/\x+1<=o/\gp left key arr base (hint+l)=true)
   (Q:=fun c st'=>st'=st/\∃l o,c=(none,l,o)/\l < o/\hint+l < n/\gp left key arr base (hint+l)=true/\(n - hint<=o\/(hint+o < n/\gp left key arr base (hint+o)=false))) ?a ?b ?c) ?d)
  case c=>exact⟨rfl,0,1,rfl,by omega,by omega,by omega,q⟩
  case b=>
   rintro c st' ⟨rfl,l,o,rfl,g1,g2,g3,g4⟩
   exact⟨rfl,l,o,rfl,g1,g2,g4,.inl (by omega)⟩
  case d=>
   rintro c st' ⟨rfl,l,o,rfl,g1,g2,g4,g5⟩
   refine(qz (base:=base) (l0:=hint+l+1) (h0:=hint+min o (n - hint)) hk hkey hb ha dn (by omega) (by omega) (fun i hi=>dn _ _ (by omega) g2 g4) (fun i i1 i2=>?_) h:wpS _ _ _ _ (uI left key arr base n _ _) Q _)
   rcases g5 with g5 | g5
   ·omega
   ·exact up _ _ (by omega) i2 g5.2
  case a=>
   rintro x c st' _ hx ⟨rfl,l,o,rfl,g1,g2,g3,g4⟩
   dsimp only
   by_cases c:o >= n - hint
   ·rw[if_pos c]
    exact Vc ⟨rfl,l,o,rfl,g1,g2,g4,.inl c⟩
   ·rw[if_neg c]
    refine U' (gZ hk hkey hb ha (by omega) ?_)
    cases q':gp left key arr base (hint+o)
    ·exact Vc ⟨rfl,l,o,rfl,g1,g2,g4,.inr ⟨by omega,q'⟩⟩
    ·exact Vc ⟨rfl,o,2 * o+1,rfl,by omega,by omega,by omega,q'⟩
end
section
variable {α:Type} {f:α->Int} {A B:List α}
structure Mg (f:α->Int) (A B out:List α) (ia ib:Nat):Prop where
 pm:out.Perm (A.take ia++B.take ib)
 so:out.Pairwise (f · <=f ·)
 la:∀p∈out,∀q∈A.drop ia,f p<=f q
 lb:∀p∈out,∀q∈B.drop ib,f p<=f q
theorem Mg.swap {out:List α} {ia ib:Nat} (h:Mg f A B out ia ib):Mg f B A out ib ia:=⟨h.pm.trans List.perm_append_comm,h.so,h.lb,h.la⟩
theorem Mg.oW {out:List α} {ia ib:Nat} (h:Mg f A B out ia ib) (sa:A.Pairwise (f · <=f ·)) (k:Nat) (hk:∀p∈(A.drop ia).take k,∀q∈B.drop ib,f p<=f q):Mg f A B (out++(A.drop ia).take k) (ia+k) ib:=by
 have sd:((A.drop ia).take k++(A.drop ia).drop k).Pairwise (f · <=f ·):=by rw[List.take_append_drop];exact sa.sublist (List.drop_sublist _ _)
 rw[List.pairwise_append] at sd
 have e:A.take (ia+k)=A.take ia++(A.drop ia).take k:=List.take_add
 have mT:∀p∈(A.drop ia).take k,p∈A.drop ia:=fun p hp=>(List.take_sublist _ _).mem hp
 have mD:∀p∈(A.drop ia).drop k,p∈A.drop ia:=fun p hp=>(List.drop_sublist _ _).mem hp
 refine⟨?_,?_,?_,?_⟩
 ·rw[e]
  refine(h.pm.append_right _).trans ?_
  rw[List.append_assoc,List.append_assoc]
  exact List.perm_append_comm.append_left _
 ·rw[List.pairwise_append]
  exact⟨h.so,sd.1,fun p hp q hq=>h.la p hp q (mT q hq)⟩
 ·intro p hp q hq
  rw[<-List.drop_drop] at hq
  rcases List.mem_append.mp hp with z | z
  ·exact h.la p z q (mD q hq)
  ·exact sd.2.2 p z q hq
 ·intro p hp q hq
  rcases List.mem_append.mp hp with z | z
  ·exact h.lb p z q hq
  ·exact hk p z q hq
theorem Mg.zt {out:List α} {ia ib:Nat} (h:Mg f A B out ia ib) (sb:B.Pairwise (f · <=f ·)) (k:Nat) (hk:∀q∈(B.drop ib).take k,∀p∈A.drop ia,f q<=f p):Mg f A B (out++(B.drop ib).take k) ia (ib+k) :=
 (h.swap.oW sb k hk).swap
theorem Mg.nT {out:List α} {ia ib:Nat} {p:α} (h:Mg f A B out ia ib) (sa:A.Pairwise (f · <=f ·)) (e:A[ia]? =some p) (hk:∀q∈B.drop ib,f p<=f q):Mg f A B (out++[p]) (ia+1) ib:=by
 have t1:(A.drop ia).take 1=[p]:=by
  have:=(List.getElem?_eq_some_iff.mp e)
  obtain⟨lt,rfl⟩:=this
  rw[List.drop_eq_getElem_cons lt]
  rfl
 have:=h.oW sa 1 (by rw[t1];intro q hq;rw[List.mem_singleton.mp hq];exact hk)
 rw[t1] at this
 exact this
theorem Mg.qA {out:List α} {ia ib:Nat} {p:α} (h:Mg f A B out ia ib) (sb:B.Pairwise (f · <=f ·)) (e:B[ib]? =some p) (hk:∀q∈A.drop ia,f p<=f q):Mg f A B (out++[p]) ia (ib+1) :=
 (h.swap.nT sb e hk).swap
theorem Mg.fin {out:List α} {ia ib:Nat} (h:Mg f A B out ia ib) (sa:A.Pairwise (f · <=f ·)) (sb:B.Pairwise (f · <=f ·)) (hk:∀p∈A.drop ia,∀q∈B.drop ib,f p<=f q):(out++A.drop ia++B.drop ib).Perm (A++B)/\(out++A.drop ia++B.drop ib).Pairwise (f · <=f ·):=by
 have tA:(A.drop ia).take A.length=A.drop ia:=List.take_of_length_le (by rw[List.length_drop];omega)
 have tB:(B.drop ib).take B.length=B.drop ib:=List.take_of_length_le (by rw[List.length_drop];omega)
 have h1:=h.oW sa A.length (by rw[tA];exact hk)
 have nA:A.drop (ia+A.length)=[]:=List.drop_of_length_le (by omega)
 have h2:=h1.zt sb B.length (by rw[nA];intro _ _ _ z;cases z)
 rw[tA,tB] at h2
 have k1:A.take (ia+A.length)=A:=List.take_of_length_le (by omega)
 have k2:B.take (ib+B.length)=B:=List.take_of_length_le (by omega)
 have pm:=h2.pm
 rw[k1,k2] at pm
 exact⟨pm,h2.so⟩
theorem Mg.Gx {out:List α} {ia ib:Nat} (h:Mg f A B out ia ib) (sa:A.Pairwise (f · <=f ·)) (sb:B.Pairwise (f · <=f ·)) (hk:∀q∈B.drop ib,∀p∈A.drop ia,f q<=f p):(out++B.drop ib++A.drop ia).Perm (A++B)/\(out++B.drop ib++A.drop ia).Pairwise (f · <=f ·):=by
 obtain⟨h1,h2⟩:=h.swap.fin sb sa hk
 exact⟨h1.trans List.perm_append_comm,h2⟩
end
abbrev kL (st:U9) (g:Nat):U9:=SortSt.mk' (kindOf st) (arrOf st) (pendingOf st) g (failedOf st)
def Up (l:List U8):Prop:=l.Pairwise (kn · <=kn ·)
def Fin' (a b:List U8) (r:Array U8):Prop:=r.toList.Perm (a++b)/\Up r.toList
theorem aU {a:Array U8} {i:Nat} {p:U8} (e:a[i]? =some p):K a i=kn p:=by unfold K;rw[e];rfl
theorem at_of {a:Array U8} {i:Nat} (h:i < a.size):∃p,a[i]? =some p/\a.toList[i]? =some p/\p∈a.toList:=⟨a[i],Array.getElem?_eq_getElem h,by simp[h],by simp⟩
theorem bN {a:Array U8} {i:Nat} {p:U8} (h:p∈a.toList.drop i):∃j,i<=j/\j < a.size/\a[j]? =some p:=by
 obtain⟨j,e⟩:=List.getElem?_of_mem h
 rw[List.getElem?_drop] at e
 have lt:=(List.getElem?_eq_some_iff.mp e).1
 exact⟨i+j,by omega,by simpa using lt,by rw[<-Array.getElem?_toList];exact e⟩
theorem oX {a:Array U8} {i k:Nat} {p:U8} (h:p∈(a.toList.drop i).take k):∃j,j < k/\i+j < a.size/\a[i+j]? =some p:=by
 obtain⟨j,e⟩:=List.getElem?_of_mem h
 have lk:j < k:=by
  have:=(List.getElem?_eq_some_iff.mp e).1
  rw[List.length_take] at this
  omega
 rw[List.getElem?_take_of_lt lk,List.getElem?_drop] at e
 have lt:=(List.getElem?_eq_some_iff.mp e).1
 exact⟨j,lk,by simpa using lt,by rw[<-Array.getElem?_toList];exact e⟩
theorem jD {a:Array U8} (h:Up a.toList) {i j:Nat} (hij:i<=j) (hj:j < a.size):K a i<=K a j:=by
 obtain⟨p,e1,e2,_⟩:=at_of (Nat.lt_of_le_of_lt hij hj)
 obtain⟨q,e3,e4,_⟩:=at_of hj
 rw[aU e1,aU e3]
 by_cases c:i=j
 ·subst c
  rw[e1] at e3
  cases e3
  exact Int.le_refl _
 ·have l1:=List.getElem?_eq_some_iff.mp e2
  have l2:=List.getElem?_eq_some_iff.mp e4
  obtain⟨x1,rfl⟩:=l1
  obtain⟨x2,rfl⟩:=l2
  exact List.pairwise_iff_getElem.mp h i j x1 x2 (by omega)
theorem kM {a:Array U8} (i:Nat):(a.extract i a.size).toList=a.toList.drop i:=by
 rw[Array.toList_extract,List.extract_eq_take_drop]
 exact List.take_of_length_le (by rw[List.length_drop];simp)
theorem uJ {a:Array U8} (i k:Nat):(a.extract i (i+k)).toList=(a.toList.drop i).take k:=by
 rw[Array.toList_extract,List.extract_eq_take_drop,Nat.add_sub_cancel_left]
section
variable {prog:UJ} {w:UM} {A:UG} {E:UL->UK->Prop} {s:UK}
structure Lo (a b out:Array U8) (ia ib:Nat):Prop where
 mg:Mg kn a.toList b.toList out.toList ia ib
 ha:ia+1 < a.size
 hb:ib < b.size
structure N2 (a b:Array U8):Prop where
 ka:∀p∈a.toList,Ik p
 kb:∀p∈b.toList,Ik p
 sa:Up a.toList
 sb:Up b.toList
 last:∀j,j < b.size->K b j<=K a (a.size - 1)
theorem jb {a b out:Array U8} {ia ib:Nat} (H:N2 a b) (m:Mg kn a.toList b.toList out.toList ia ib) (h:∀p∈a.toList.drop ia,∀q∈b.toList.drop ib,kn p<=kn q):Fin' a.toList b.toList (out++a.extract ia a.size++b.extract ib b.size):=by
 unfold Fin' Up
 rw[Array.toList_append,Array.toList_append,kM,kM]
 exact m.fin H.sa H.sb h
theorem kN {a b out:Array U8} {ia ib:Nat} (H:N2 a b) (m:Mg kn a.toList b.toList out.toList ia ib) (h:ia+1=a.size):Fin' a.toList b.toList (out++b.extract ib b.size++a.extract ia a.size):=by
 unfold Fin' Up
 rw[Array.toList_append,Array.toList_append,kM,kM]
 refine m.Gx H.sa H.sb fun q hq p hp=>?_
 obtain⟨j,j1,j2,j3⟩:=bN hp
 obtain⟨l,l1,l2,l3⟩:=bN hq
 have:j=a.size - 1:=by omega
 rw[<-aU j3,<-aU l3,this]
 exact H.last l l2
theorem jc {b:Array U8} {ib:Nat} (h:ib=b.size):∀q:U8,q∉b.toList.drop ib:=fun q hq=>by
 obtain⟨l,l1,l2,l3⟩:=bN hq
 omega
abbrev RZ:=Option (Array U8)×Array U8×Nat×Nat×Nat×Nat×Nat
def zu (a b:Array U8) (st:U9) (n:Nat) (r:ForInStep RZ) (st':U9):Prop :=
 (∃g,st'=kL st g)/\match r with
 | .done c=>(∃r t,c=(some r,t)/\Fin' a.toList b.toList r)\/∃out ia ib mg ac bc,c=(none,out,ia,ib,mg,ac,bc)/\n<=ia+ib/\Lo a b out ia ib
 | .yield c=>∃out ia ib mg ac bc,c=(none,out,ia,ib,mg,ac,bc)/\n<=ia+ib/\Lo a b out ia ib
theorem zu.fin {a b:Array U8} {st:U9} {n g:Nat} {r:Array U8} {t:Array U8×Nat×Nat×Nat×Nat×Nat} (h:Fin' a.toList b.toList r):zu a b st n (.done (some r,t)) (kL st g):=⟨⟨g,rfl⟩,.inl ⟨r,t,rfl,h⟩⟩
theorem sL {st:U9} {a b:Array U8} {Q:Array U8->U9->Prop} (H:N2 a b) (na:1<=a.size) (nb:1<=b.size) (hk:kindOf st=U_) (first:∀i,i < a.size->K b 0<=K a i)
  (h:∀r g,Fin' a.toList b.toList r->Q r (kL st g)):wpS (model prog w) A E s (zq a b) Q st:=by
 refine U' (wpS_lift (wpAny_rule ⟨rfl,?_⟩))
 obtain⟨b0,Me,N3,Uq⟩:=at_of (a:=b) (i:=0) (by omega)
 refine U' (aP Me ?_)
 dsimp -zeta only
 extract_lets out ia ib
 have m0:Mg kn a.toList b.toList out.toList 0 1:=by
  have z:Mg kn a.toList b.toList ([]:List U8) 0 0:=⟨by simp,.nil,(fun _ z=>by cases z),(fun _ z=>by cases z)⟩
  refine z.qA H.sb N3 fun q hq=>?_
  obtain⟨l,l1,l2,l3⟩:=bN hq
  rw[<-aU Me,<-aU l3]
  exact first l l2
 clear_value out
 subst ia ib
 by_cases c1:1=b.size
 ·rw[if_pos (by rw[<-c1];rfl)]
  exact Vc (h _ _ (jb H m0 fun _ _ q hq=>(jc c1 q hq).elim))
 rw[if_neg (by simpa using c1)]
 by_cases c2:0+1=a.size
 ·rw[if_pos (by rw[<-c2];rfl)]
  exact Vc (h _ _ (kN H m0 c2))
 rw[if_neg (by simpa using c2)]
 refine U' (wpS_get ?_)
 refine U' (Vb (Va (I:=fun x c st'=>(∃g,st'=kL st g)/\∃out ia ib mg,c=(none,out,ia,ib,mg)/\x+1<=ia+ib/\Lo a b out ia ib)
  (Q:=fun c st'=>(∃g,st'=kL st g)/\∃r t,c=(some r,t)/\Fin' a.toList b.toList r) ?a ?b ?c) ?d)
 case c=>exact⟨⟨_,rfl⟩,out,0,1,_,rfl,by omega,m0,by omega,by omega⟩
 case d=>
  rintro c st' ⟨⟨g,rfl⟩,r,t,rfl,hf⟩
  exact Vc (h _ _ hf)
 case b=>
  rintro c st' ⟨_,out,ia,ib,mg,_,h1,h2,h3,h4⟩
  omega
 case a=>
  rintro x c st' _ hx ⟨⟨g,rfl⟩,out,N4,N5,mg,rfl,h1,L0⟩
  dsimp -zeta only
  refine U' (Vb (Va (I:=fun x c st'=>st'=kL st g/\∃out ia ib ac bc,c=(none,out,ia,ib,ac,bc)/\N4+N5+x<=ia+ib/\Lo a b out ia ib)
   (Q:=fun c st'=>st'=kL st g/\((∃r t,c=(some r,t)/\Fin' a.toList b.toList r)\/∃out ia ib ac bc,c=(none,out,ia,ib,ac,bc)/\N4+N5+1<=ia+ib/\Lo a b out ia ib)) ?e ?f ?g) ?i)
  case g=>exact⟨rfl,out,N4,N5,0,0,rfl,by omega,L0⟩
  case f=>
   rintro c st' ⟨rfl,out,ia,ib,ac,bc,rfl,h1,L⟩
   have:=L.ha
   have:=L.hb
   exact⟨rfl,.inr ⟨out,ia,ib,ac,bc,rfl,by omega,L⟩⟩
  case e=>
   rintro x c st' _ hx ⟨rfl,out,ia,ib,ac,bc,rfl,h1,L⟩
   dsimp only
   obtain⟨p,ep,rQ,mp⟩:=at_of (a:=a) (i:=ia) (by have:=L.ha;omega)
   obtain⟨q,eq,eq',mq⟩:=at_of (a:=b) (i:=ib) L.hb
   refine U' (aP eq (U' (aP ep (U' (qy (x:=q) (y:=p) hk (H.kb _ mq) (H.ka _ mp) ?_)))))
   by_cases lt:kn q < kn p
   ·rw[decide_eq_true lt]
    dsimp only
    rw[if_pos rfl]
    refine U' (aP eq ?_)
    have m':Mg kn a.toList b.toList (out.push q).toList ia (ib+1):=by
     rw[Array.toList_push]
     refine L.mg.qA H.sb eq' fun y hy=>?_
     obtain⟨l,l1,l2,l3⟩:=bN hy
     have:=jD H.sa l1 l2
     rw[aU ep,aU l3] at this
     omega
    by_cases c3:ib+1=b.size
    ·rw[if_pos (by rw[<-c3];simp)]
     exact Vc ⟨rfl,.inl ⟨_,_,rfl,jb H m' fun _ _ y hy=>(jc c3 y hy).elim⟩⟩
    ·rw[if_neg (by simpa using c3)]
     have L':Lo a b (out.push q) ia (ib+1):=⟨m',L.ha,by have:=L.hb;omega⟩
     by_cases c4:bc+1 >= mg
     ·rw[if_pos c4]
      exact Vc ⟨rfl,.inr ⟨_,_,_,_,_,rfl,by omega,L'⟩⟩
     ·rw[if_neg c4]
      exact Vc ⟨rfl,_,_,_,_,_,rfl,by omega,L'⟩
   ·rw[decide_eq_false lt]
    dsimp only
    rw[if_neg (by decide)]
    refine U' (aP ep ?_)
    have m':Mg kn a.toList b.toList (out.push p).toList (ia+1) ib:=by
     rw[Array.toList_push]
     refine L.mg.nT H.sa rQ fun y hy=>?_
     obtain⟨l,l1,l2,l3⟩:=bN hy
     have:=jD H.sb l1 l2
     rw[aU eq,aU l3] at this
     omega
    by_cases c3:ia+1+1=a.size
    ·rw[if_pos (by rw[<-c3];simp)]
     exact Vc ⟨rfl,.inl ⟨_,_,rfl,kN H m' c3⟩⟩
    ·rw[if_neg (by simpa using c3)]
     have L':Lo a b (out.push p) (ia+1) ib:=⟨m',by have:=L.ha;omega,L.hb⟩
     by_cases c4:ac+1 >= mg
     ·rw[if_pos c4]
      exact Vc ⟨rfl,.inr ⟨_,_,_,_,_,rfl,by omega,L'⟩⟩
     ·rw[if_neg c4]
      exact Vc ⟨rfl,_,_,_,_,_,rfl,by omega,L'⟩
  case i=>
   rintro c st' ⟨rfl,⟨r,⟨o,i1,i2,i3,i4⟩,rfl,hf⟩ | ⟨out,sM,sN,ac,bc,rfl,h2,L0⟩⟩
   ·exact Vc ⟨⟨g,rfl⟩,r,_,rfl,hf⟩
   dsimp -zeta only
   refine U' (wpS_lift (wpAny_rule ⟨rfl,?_⟩))
   refine U' (Vb (Va (I:=fun x c st'=>(∃g,st'=kL st g)/\∃out ia ib mg ac bc,c=(none,out,ia,ib,mg,ac,bc)/\sM+sN<=ia+ib/\Lo a b out ia ib)
    (Q:=fun c st'=>(∃g,st'=kL st g)/\((∃r t,c=(some r,t)/\Fin' a.toList b.toList r)\/∃out ia ib mg ac bc,c=(none,out,ia,ib,mg,ac,bc)/\sM+sN<=ia+ib/\Lo a b out ia ib)) ?j ?k ?l) ?m)
   case l=>exact⟨⟨_,rfl⟩,out,sM,sN,_,ac,bc,rfl,by omega,L0⟩
   case k=>
    rintro c st' ⟨hg,out,ia,ib,mg,ac,bc,rfl,h1,L⟩
    exact⟨hg,.inr ⟨out,ia,ib,mg,ac,bc,rfl,by omega,L⟩⟩
   case m=>
    rintro c st' ⟨⟨g,rfl⟩,⟨r,⟨o,i1,i2,i3,i4,i5⟩,rfl,hf⟩ | ⟨out,ia,ib,mg,ac,bc,rfl,h3,L⟩⟩
    ·exact Vc ⟨⟨g,rfl⟩,r,_,rfl,hf⟩
    ·dsimp only
     exact U' (wpS_modify (Vc ⟨⟨_,rfl⟩,_,_,_,_,rfl,by omega,L⟩))
   case j=>
    rintro x c st' _ hx ⟨⟨g,rfl⟩,out,ia,ib,mg,ac,bc,rfl,h1,L⟩
    refine Vb (Q:=zu a b st (sM+sN)) ?_ fun r st' h=>by cases r<;>exact h
    have Ur:=L.ha
    have hib:=L.hb
    obtain⟨q,eq,eq',mq⟩:=at_of (a:=b) (i:=ib) hib
    dsimp -zeta only
    extract_lets z1 z2 z3 z4 z5 z6 z7 z8 z9 Gy Gz GB jp N6
    subst N6 GB Gz Gy z9 z8 z7 z6 z5 z4 z3 z2 z1
    have key:∀m g,wpS (model prog w) A E s (jp () m) (zu a b st (sM+sN)) (kL st g):=by
     intro m g
     dsimp -zeta only[jp]
     refine U' (wpS_modify ?_)
     refine U' (aP eq ?_)
     refine U' (dQ hk (H.kb _ mq) (by omega) H.ka (by omega) (fun i j h1 h2=>jD H.sa (by omega) (by omega)) fun k k1 k2 k3=>?_)
     dsimp -zeta only
     clear jp
     extract_lets ac' jp o1 o2
     subst o2 o1 ac'
     have key:∀out' wH,ia+ib<=wH+ib->Mg kn a.toList b.toList out'.toList wH ib->wH+1 < a.size->(∀p∈a.toList.drop wH,kn q<=kn p)->wpS (model prog w) A E s (jp () out' wH) (zu a b st (sM+sN)) (kL st m):=by
      intro out' wH hs m1 R0 hq
      dsimp -zeta only[jp]
      refine U' (aP eq ?_)
      have m2:Mg kn a.toList b.toList (out'.push q).toList wH (ib+1):=by
       rw[Array.toList_push]
       exact m1.qA H.sb eq' hq
      by_cases c3:ib+1=b.size
      ·rw[if_pos (by rw[<-c3];simp)]
       exact Vc (zu.fin (jb H m2 fun _ _ y hy=>(jc c3 y hy).elim))
      rw[if_neg (by simpa using c3)]
      obtain⟨p,ep,rQ,mp⟩:=at_of (a:=a) (i:=wH) (by omega)
      refine U' (aP ep ?_)
      refine U' (dQ hk (H.ka _ mp) (by omega) H.kb (by omega) (fun i j h1 h2=>jD H.sb (by omega) (by omega)) fun k k1 k2 k3=>?_)
      dsimp -zeta only
      clear jp
      extract_lets N7 R4 jp o1 o2
      subst o2 o1 R4 N7
      have key:∀lS Ek,ib+1<=Ek->Mg kn a.toList b.toList lS.toList wH Ek->Ek < b.size->(∀y∈b.toList.drop Ek,kn p<=kn y)->wpS (model prog w) A E s (jp () lS Ek) (zu a b st (sM+sN)) (kL st m):=by
       intro lS Ek hs' m3 N8 hp
       dsimp -zeta only[jp]
       refine U' (aP ep ?_)
       have m4:Mg kn a.toList b.toList (lS.push p).toList (wH+1) Ek:=by
        rw[Array.toList_push]
        exact m3.nT H.sa rQ hp
       by_cases c4:wH+1+1=a.size
       ·rw[if_pos (by rw[<-c4];simp)]
        exact Vc (zu.fin (kN H m4 c4))
       rw[if_neg (by simpa using c4)]
       have L':Lo a b (lS.push p) (wH+1) Ek:=⟨m4,by omega,N8⟩
       split
       ·exact Vc ⟨⟨m,rfl⟩,.inr ⟨_,_,_,_,_,_,rfl,by omega,L'⟩⟩
       ·exact Vc ⟨⟨m,rfl⟩,_,_,_,_,_,_,rfl,by omega,L'⟩
      by_cases c5:k > 0
      ·rw[if_pos c5]
       have m3:Mg kn a.toList b.toList (out'.push q++b.extract (ib+1) (ib+1+k)).toList wH (ib+1+k):=by
        rw[Array.toList_append,uJ]
        refine m2.zt H.sb k fun y hy x hx=>?_
        obtain⟨j,j1,j2,j3⟩:=oX hy
        obtain⟨l,l1,l2,l3⟩:=bN hx
        have g1:=k2 j j1
        have g2:=jD H.sa l1 l2
        rw[aU ep,aU l3] at g2
        unfold gp at g1
        rw[if_pos rfl,aU j3] at g1
        have:=of_decide_eq_true g1
        omega
       by_cases c6:ib+1+k=b.size
       ·rw[if_pos (by rw[<-c6];simp)]
        exact Vc (zu.fin (jb H m3 fun _ _ y hy=>(jc c6 y hy).elim))
       ·rw[if_neg (by simpa using c6)]
        refine key _ _ (by omega) m3 (by omega) fun y hy=>?_
        obtain⟨l,l1,l2,l3⟩:=bN hy
        have g1:=k3 (l - (ib+1)) (by omega) (by omega)
        unfold gp at g1
        rw[if_pos rfl,show ib+1+(l - (ib+1))=l by omega,aU l3] at g1
        have:=of_decide_eq_false g1
        omega
      ·rw[if_neg c5]
       refine key _ _ (by omega) m2 (by omega) fun y hy=>?_
       obtain⟨l,l1,l2,l3⟩:=bN hy
       have g1:=k3 (l - (ib+1)) (by omega) (by omega)
       unfold gp at g1
       rw[if_pos rfl,show ib+1+(l - (ib+1))=l by omega,aU l3] at g1
       have:=of_decide_eq_false g1
       omega
     have after:∀p∈a.toList.drop (ia+k),kn q<=kn p:=fun p hp=>by
      obtain⟨l,l1,l2,l3⟩:=bN hp
      have g1:=k3 (l - ia) (by omega) (by omega)
      unfold gp at g1
      rw[if_neg (by decide),show ia+(l - ia)=l by omega,aU l3] at g1
      have:kn q < kn p:=by simpa using g1
      omega
     by_cases c5:k > 0
     ·rw[if_pos c5]
      have m3:Mg kn a.toList b.toList (out++a.extract ia (ia+k)).toList (ia+k) ib:=by
       rw[Array.toList_append,uJ]
       refine L.mg.oW H.sa k fun y hy x hx=>?_
       obtain⟨j,j1,j2,j3⟩:=oX hy
       obtain⟨l,l1,l2,l3⟩:=bN hx
       have g1:=k2 j j1
       have g2:=jD H.sb l1 l2
       rw[aU eq,aU l3] at g2
       unfold gp at g1
       rw[if_neg (by decide),aU j3] at g1
       have:¬kn q < kn y:=by simpa using g1
       omega
      by_cases c6:ia+k+1=a.size
      ·rw[if_pos (by rw[<-c6];simp)]
       exact Vc (zu.fin (kN H m3 c6))
      rw[if_neg (by simpa using c6)]
      by_cases c7:ia+k=a.size
      ·rw[if_pos (by rw[<-c7];simp)]
       exact Vc (zu.fin (jb H m3 fun y hy=>(jc c7 y hy).elim))
      ·rw[if_neg (by simpa using c7)]
       exact key _ _ (by omega) m3 (by omega) after
     ·rw[if_neg c5]
      have:k=0:=by omega
      subst this
      exact key _ _ (by omega) L.mg (by omega) after
    split<;>exact key _ _
end
section
variable {α:Type} {f:α->Int} {A B:List α}
structure Mh (f:α->Int) (A B R:List α) (na nb:Nat):Prop where
 pm:R.Perm (A.drop na++B.drop nb)
 so:R.Pairwise (f · <=f ·)
 la:∀q∈A.take na,∀p∈R,f q<=f p
 lb:∀q∈B.take nb,∀p∈R,f q<=f p
theorem Mh.swap {R:List α} {na nb:Nat} (h:Mh f A B R na nb):Mh f B A R nb na:=⟨h.pm.trans List.perm_append_comm,h.so,h.lb,h.la⟩
theorem take_take {i n:Nat} (h:i<=n):A.take n=A.take i++(A.take n).drop i:=by
 have:=List.take_append_drop i (A.take n)
 rw[List.take_take,Nat.min_eq_left h] at this
 exact this.symm
theorem drop_take {i n:Nat} (h:i<=n):A.drop i=(A.take n).drop i++A.drop n:=by
 have h1:=List.take_append_drop n A
 have h2:=congrArg (List.drop i) h1
 rw[List.drop_append] at h2
 rw[<-h2]
 by_cases c:n<=A.length
 ·rw[List.length_take,Nat.min_eq_left c,Nat.sub_eq_zero_of_le h,List.drop_zero]
 ·rw[List.drop_of_length_le (show A.length<=n by omega),List.drop_nil]
theorem Mh.oW {R:List α} {na nb:Nat} (h:Mh f A B R na nb) (sa:A.Pairwise (f · <=f ·)) (k:Nat) (k1:k<=na) (hk:∀p∈(A.take na).drop k,∀q∈B.take nb,f q<=f p):Mh f A B ((A.take na).drop k++R) k nb:=by
 have e:=take_take (A:=A) k1
 have st:(A.take na).Pairwise (f · <=f ·):=sa.sublist (List.take_sublist _ _)
 rw[e,List.pairwise_append] at st
 have mT:∀p∈(A.take na).drop k,p∈A.take na:=fun p hp=>(List.drop_sublist _ _).mem hp
 have mD:∀p∈A.take k,p∈A.take na:=fun p hp=>by rw[e];exact List.mem_append_left _ hp
 refine⟨?_,?_,?_,?_⟩
 ·rw[drop_take (A:=A) k1,List.append_assoc]
  exact h.pm.append_left _
 ·rw[List.pairwise_append]
  exact⟨st.2.1,h.so,fun p hp q hq=>h.la p (mT p hp) q hq⟩
 ·intro q hq p hp
  rcases List.mem_append.mp hp with z | z
  ·exact st.2.2 q hq p z
  ·exact h.la q (mD q hq) p z
 ·intro q hq p hp
  rcases List.mem_append.mp hp with z | z
  ·exact hk p z q hq
  ·exact h.lb q hq p z
theorem Mh.zt {R:List α} {na nb:Nat} (h:Mh f A B R na nb) (sb:B.Pairwise (f · <=f ·)) (k:Nat) (k1:k<=nb) (hk:∀p∈(B.take nb).drop k,∀q∈A.take na,f q<=f p):Mh f A B ((B.take nb).drop k++R) na k :=
 (h.swap.oW sb k k1 hk).swap
theorem zv {n:Nat} {p:α} (e:A[n]? =some p):(A.take (n+1)).drop n=[p]:=by
 obtain⟨lt,rfl⟩:=List.getElem?_eq_some_iff.mp e
 rw[List.take_succ_eq_append_getElem lt,List.drop_append,List.drop_of_length_le (by rw[List.length_take];omega),List.length_take,Nat.min_eq_left (by omega),Nat.sub_self]
 rfl
theorem Mh.nT {R:List α} {na nb:Nat} {p:α} (h:Mh f A B R (na+1) nb) (sa:A.Pairwise (f · <=f ·)) (e:A[na]? =some p) (hk:∀q∈B.take nb,f q<=f p):Mh f A B (p::R) na nb:=by
 have t1:=zv e
 have:=h.oW sa na (by omega) (by rw[t1];intro q hq;rw[List.mem_singleton.mp hq];exact hk)
 rw[t1] at this
 exact this
theorem Mh.qA {R:List α} {na nb:Nat} {p:α} (h:Mh f A B R na (nb+1)) (sb:B.Pairwise (f · <=f ·)) (e:B[nb]? =some p) (hk:∀q∈A.take na,f q<=f p):Mh f A B (p::R) na nb :=
 (h.swap.nT sb e hk).swap
theorem Mh.fin {R:List α} {na nb:Nat} (h:Mh f A B R na nb) (sa:A.Pairwise (f · <=f ·)) (sb:B.Pairwise (f · <=f ·)) (hk:∀p∈B.take nb,∀q∈A.take na,f q<=f p):(A.take na++B.take nb++R).Perm (A++B)/\(A.take na++B.take nb++R).Pairwise (f · <=f ·):=by
 have h1:=h.zt sb 0 (Nat.zero_le _) (by rw[List.drop_zero];exact hk)
 have h2:=h1.oW sa 0 (Nat.zero_le _) (by intro _ _ _ z;cases z)
 have pm:=h2.pm
 have so:=h2.so
 rw[List.drop_zero,List.drop_zero,<-List.append_assoc] at so
 rw[List.drop_zero,List.drop_zero,List.drop_zero,List.drop_zero,<-List.append_assoc] at pm
 exact⟨pm,so⟩
theorem Mh.Gx {R:List α} {na nb:Nat} (h:Mh f A B R na nb) (sa:A.Pairwise (f · <=f ·)) (sb:B.Pairwise (f · <=f ·)) (hk:∀p∈A.take na,∀q∈B.take nb,f q<=f p):(B.take nb++A.take na++R).Perm (A++B)/\(B.take nb++A.take na++R).Pairwise (f · <=f ·):=by
 obtain⟨h1,h2⟩:=h.swap.fin sb sa hk
 exact⟨h1.trans List.perm_append_comm,h2⟩
end
theorem cF {a:Array U8} {n:Nat} {p:U8} (h:p∈a.toList.take n):∃j,j < n/\j < a.size/\a[j]? =some p:=by
 have:=oX (a:=a) (i:=0) (k:=n) (p:=p) h
 obtain⟨j,h1,h2,h3⟩:=this
 rw[Nat.zero_add] at h2 h3
 exact⟨j,h1,h2,h3⟩
theorem mem_mid {a:Array U8} {i n:Nat} {p:U8} (h:p∈(a.toList.take n).drop i):∃j,i<=j/\j < n/\j < a.size/\a[j]? =some p:=by
 obtain⟨j,e⟩:=List.getElem?_of_mem h
 rw[List.getElem?_drop] at e
 have lt:=(List.getElem?_eq_some_iff.mp e).1
 rw[List.length_take] at lt
 rw[List.getElem?_take_of_lt (by omega)] at e
 have:a.toList.length=a.size:=rfl
 exact⟨i+j,by omega,by omega,by omega,by rw[<-Array.getElem?_toList];exact e⟩
theorem g_ {a:Array U8} (n:Nat):(a.extract 0 n).toList=a.toList.take n:=by
 rw[Array.toList_extract,List.extract_eq_take_drop]
 rfl
theorem uK {a:Array U8} (i n:Nat):(a.extract i n).toList=(a.toList.take n).drop i:=by
 rw[Array.toList_extract,List.extract_eq_take_drop,List.drop_take]
structure GC (a b:Array U8):Prop where
 ka:∀p∈a.toList,Ik p
 kb:∀p∈b.toList,Ik p
 sa:Up a.toList
 sb:Up b.toList
 first:∀i,i < a.size->K b 0<=K a i
abbrev ko (a b out:Array U8) (na nb:Nat):Prop:=Mh kn a.toList b.toList out.toList.reverse na nb
theorem jd {a b out:Array U8} {na nb:Nat} (H:GC a b) (m:ko a b out na nb) (h:∀p∈b.toList.take nb,∀q∈a.toList.take na,kn q<=kn p):Fin' a.toList b.toList (a.extract 0 na++b.extract 0 nb++out.reverse):=by
 unfold Fin' Up
 rw[Array.toList_append,Array.toList_append,g_,g_,Array.toList_reverse]
 exact m.fin H.sa H.sb h
theorem je {a b out:Array U8} {na:Nat} (H:GC a b) (m:ko a b out na 1):Fin' a.toList b.toList (b.extract 0 1++a.extract 0 na++out.reverse):=by
 unfold Fin' Up
 rw[Array.toList_append,Array.toList_append,g_,g_,Array.toList_reverse]
 refine m.Gx H.sa H.sb fun p hp q hq=>?_
 obtain⟨j,j1,j2,j3⟩:=cF hp
 obtain⟨l,l1,l2,l3⟩:=cF hq
 have:l=0:=by omega
 rw[<-aU j3,<-aU l3,this]
 exact H.first j j2
theorem lT {a b out:Array U8} {na nb:Nat} {p:U8} (H:GC a b) (m:ko a b out (na+1) nb) (e:a.toList[na]? =some p) (hk:∀q∈b.toList.take nb,kn q<=kn p):ko a b (out.push p) na nb:=by
 unfold ko
 rw[Array.toList_push,List.reverse_append]
 exact m.nT H.sa e hk
theorem qB {a b out:Array U8} {na nb:Nat} {p:U8} (H:GC a b) (m:ko a b out na (nb+1)) (e:b.toList[nb]? =some p) (hk:∀q∈a.toList.take na,kn q<=kn p):ko a b (out.push p) na nb:=by
 unfold ko
 rw[Array.toList_push,List.reverse_append]
 exact m.qA H.sb e hk
theorem CJ {a b out:Array U8} {na nb:Nat} (H:GC a b) (m:ko a b out na nb) (k:Nat) (k1:k<=na) (hk:∀p∈(a.toList.take na).drop k,∀q∈b.toList.take nb,kn q<=kn p):ko a b (out++(a.extract k na).reverse) k nb:=by
 unfold ko
 rw[Array.toList_append,Array.toList_reverse,List.reverse_append,List.reverse_reverse,uK]
 exact m.oW H.sa k k1 hk
theorem CK {a b out:Array U8} {na nb:Nat} (H:GC a b) (m:ko a b out na nb) (k:Nat) (k1:k<=nb) (hk:∀p∈(b.toList.take nb).drop k,∀q∈a.toList.take na,kn q<=kn p):ko a b (out++(b.extract k nb).reverse) na k:=by
 unfold ko
 rw[Array.toList_append,Array.toList_reverse,List.reverse_append,List.reverse_reverse,uK]
 exact m.zt H.sb k k1 hk
structure Hi (a b out:Array U8) (na nb:Nat):Prop where
 mg:ko a b out na nb
 a0:1<=na
 a1:na<=a.size
 b0:2<=nb
 b1:nb<=b.size
section
variable {prog:UJ} {w:UM} {A:UG} {E:UL->UK->Prop} {s:UK}
abbrev R6:=Option (Array U8)×Nat×Nat×Array U8×Nat×Nat×Nat
def zw (a b:Array U8) (st:U9) (n:Nat) (r:ForInStep R6) (st':U9):Prop :=
 (∃g,st'=kL st g)/\match r with
 | .done c=>(∃r t,c=(some r,t)/\Fin' a.toList b.toList r)\/∃na nb out mg ac bc,c=(none,na,nb,out,mg,ac,bc)/\na+nb<=n/\Hi a b out na nb
 | .yield c=>∃na nb out mg ac bc,c=(none,na,nb,out,mg,ac,bc)/\na+nb<=n/\Hi a b out na nb
theorem zw.fin {a b:Array U8} {st:U9} {n g:Nat} {r:Array U8} {t:Nat×Nat×Array U8×Nat×Nat×Nat} (h:Fin' a.toList b.toList r):zw a b st n (.done (some r,t)) (kL st g):=⟨⟨g,rfl⟩,.inl ⟨r,t,rfl,h⟩⟩
theorem jf {b:Array U8}:∀q:U8,q∉b.toList.take 0:=fun q hq=>by cases hq
theorem sO {st:U9} {a b:Array U8} {Q:Array U8->U9->Prop} (H:GC a b) (El:1<=a.size) (Em:1<=b.size) (hk:kindOf st=U_) (last:∀j,j < b.size->K b j<=K a (a.size - 1))
  (h:∀r g,Fin' a.toList b.toList r->Q r (kL st g)):wpS (model prog w) A E s (zr a b) Q st:=by
 refine U' (wpS_lift (wpAny_rule ⟨rfl,?_⟩))
 obtain⟨a0,Qm,N9,Us⟩:=at_of (a:=a) (i:=a.size - 1) (by omega)
 refine U' (aP Qm ?_)
 have m0:ko a b #[a0] (a.size - 1) b.size:=by
  have z:ko a b #[] (a.size - 1+1) b.size:=⟨by
   have l1:a.toList.length=a.size:=rfl
   have l2:b.toList.length=b.size:=rfl
   rw[List.drop_of_length_le (by omega),List.drop_of_length_le (by omega)]
   exact .nil,.nil,(fun _ _ _ z=>by cases z),(fun _ _ _ z=>by cases z)⟩
  refine lT H z N9 fun q hq=>?_
  obtain⟨l,l1,l2,l3⟩:=cF hq
  rw[<-aU Qm,<-aU l3]
  exact last l l2
 dsimp -zeta only
 extract_lets out
 subst out
 by_cases c1:a.size - 1=0
 ·rw[if_pos (by rw[c1];rfl)]
  rw[c1] at m0 ⊢
  exact Vc (h _ _ (jd H m0 fun _ _ q hq=>(jf q hq).elim))
 rw[if_neg (by simpa using c1)]
 by_cases c2:b.size=1
 ·rw[if_pos (by rw[c2];rfl)]
  rw[c2] at m0 ⊢
  exact Vc (h _ _ (je H m0))
 rw[if_neg (by simpa using c2)]
 refine U' (wpS_get ?_)
 refine U' (Vb (Va (I:=fun x c st'=>(∃g,st'=kL st g)/\∃na nb out mg,c=(none,na,nb,out,mg)/\na+nb+x+1<=a.size+b.size/\Hi a b out na nb)
  (Q:=fun c st'=>(∃g,st'=kL st g)/\∃r t,c=(some r,t)/\Fin' a.toList b.toList r) ?a ?b ?c) ?d)
 case c=>exact⟨⟨_,rfl⟩,_,_,_,_,rfl,by omega,m0,by omega,by omega,by omega,by omega⟩
 case d=>
  rintro c st' ⟨⟨g,rfl⟩,r,t,rfl,hf⟩
  exact Vc (h _ _ hf)
 case b=>
  rintro c st' ⟨_,na,nb,out,mg,_,h1,h2,h3,h4⟩
  omega
 case a=>
  rintro x c st' _ hx ⟨⟨g,rfl⟩,N_,Oa,out,mg,rfl,h1,L0⟩
  dsimp -zeta only
  refine U' (Vb (Va (I:=fun x c st'=>st'=kL st g/\∃na nb out ac bc,c=(none,na,nb,out,ac,bc)/\na+nb+x<=N_+Oa/\Hi a b out na nb)
   (Q:=fun c st'=>st'=kL st g/\((∃r t,c=(some r,t)/\Fin' a.toList b.toList r)\/∃na nb out ac bc,c=(none,na,nb,out,ac,bc)/\na+nb+1<=N_+Oa/\Hi a b out na nb)) ?e ?f ?g) ?i)
  case g=>exact⟨rfl,N_,Oa,out,0,0,rfl,by omega,L0⟩
  case f=>
   rintro c st' ⟨rfl,na,nb,out,ac,bc,rfl,h1,L⟩
   have:=L.a0
   have:=L.b0
   exact⟨rfl,.inr ⟨na,nb,out,ac,bc,rfl,by omega,L⟩⟩
  case e=>
   rintro x c st' _ hx ⟨rfl,na,nb,out,ac,bc,rfl,h1,L⟩
   dsimp only
   have l1:=L.a0
   have l2:=L.a1
   have l3:=L.b0
   have l4:=L.b1
   obtain⟨n,rfl⟩:∃n,na=n+1:=⟨na - 1,by omega⟩
   obtain⟨m,rfl⟩:∃m,nb=m+1:=⟨nb - 1,by omega⟩
   rw[Nat.add_sub_cancel,Nat.add_sub_cancel]
   obtain⟨p,ep,rQ,mp⟩:=at_of (a:=a) (i:=n) (by omega)
   obtain⟨q,eq,eq',mq⟩:=at_of (a:=b) (i:=m) (by omega)
   refine U' (aP eq (U' (aP ep (U' (qy (x:=q) (y:=p) hk (H.kb _ mq) (H.ka _ mp) ?_)))))
   by_cases lt:kn q < kn p
   ·rw[decide_eq_true lt]
    dsimp only
    rw[if_pos rfl]
    refine U' (aP ep ?_)
    have m':ko a b (out.push p) n (m+1):=lT H L.mg rQ fun y hy=>by
     obtain⟨l,l1,l2,l3⟩:=cF hy
     have:=jD H.sb (show l<=m by omega) (by omega)
     rw[aU eq,aU l3] at this
     omega
    by_cases c3:n=0
    ·rw[if_pos (by rw[c3];rfl)]
     rw[c3] at m' ⊢
     exact Vc ⟨rfl,.inl ⟨_,_,rfl,jd H m' fun _ _ y hy=>(jf y hy).elim⟩⟩
    ·rw[if_neg (by simpa using c3)]
     have L':Hi a b (out.push p) n (m+1):=⟨m',by omega,by omega,by omega,by omega⟩
     by_cases c4:ac+1 >= mg
     ·rw[if_pos c4]
      exact Vc ⟨rfl,.inr ⟨_,_,_,_,_,rfl,by omega,L'⟩⟩
     ·rw[if_neg c4]
      exact Vc ⟨rfl,_,_,_,_,_,rfl,by omega,L'⟩
   ·rw[decide_eq_false lt]
    dsimp only
    rw[if_neg (by decide)]
    refine U' (aP eq ?_)
    have m':ko a b (out.push q) (n+1) m:=qB H L.mg eq' fun y hy=>by
     obtain⟨l,l1,l2,l3⟩:=cF hy
     have:=jD H.sa (show l<=n by omega) (by omega)
     rw[aU ep,aU l3] at this
     omega
    by_cases c3:m=1
    ·rw[if_pos (by rw[c3];rfl)]
     rw[c3] at m' ⊢
     exact Vc ⟨rfl,.inl ⟨_,_,rfl,je H m'⟩⟩
    ·rw[if_neg (by simpa using c3)]
     have L':Hi a b (out.push q) (n+1) m:=⟨m',by omega,by omega,by omega,by omega⟩
     by_cases c4:bc+1 >= mg
     ·rw[if_pos c4]
      exact Vc ⟨rfl,.inr ⟨_,_,_,_,_,rfl,by omega,L'⟩⟩
     ·rw[if_neg c4]
      exact Vc ⟨rfl,_,_,_,_,_,rfl,by omega,L'⟩
  case i=>
   rintro c st' ⟨rfl,⟨r,⟨o,i1,i2,i3,i4⟩,rfl,hf⟩ | ⟨El,Em,out,ac,bc,rfl,h2,L0⟩⟩
   ·exact Vc ⟨⟨g,rfl⟩,r,_,rfl,hf⟩
   dsimp -zeta only
   refine U' (wpS_lift (wpAny_rule ⟨rfl,?_⟩))
   refine U' (Vb (Va (I:=fun x c st'=>(∃g,st'=kL st g)/\∃na nb out mg ac bc,c=(none,na,nb,out,mg,ac,bc)/\na+nb<=El+Em/\Hi a b out na nb)
    (Q:=fun c st'=>(∃g,st'=kL st g)/\((∃r t,c=(some r,t)/\Fin' a.toList b.toList r)\/∃na nb out mg ac bc,c=(none,na,nb,out,mg,ac,bc)/\na+nb<=El+Em/\Hi a b out na nb)) ?j ?k ?l) ?mm)
   case l=>exact⟨⟨_,rfl⟩,El,Em,out,_,ac,bc,rfl,by omega,L0⟩
   case k=>
    rintro c st' ⟨hg,na,nb,out,mg,ac,bc,rfl,h1,L⟩
    exact⟨hg,.inr ⟨na,nb,out,mg,ac,bc,rfl,by omega,L⟩⟩
   case mm=>
    rintro c st' ⟨⟨g,rfl⟩,⟨r,⟨o,i1,i2,i3,i4,i5⟩,rfl,hf⟩ | ⟨na,nb,out,mg,ac,bc,rfl,h3,L⟩⟩
    ·exact Vc ⟨⟨g,rfl⟩,r,_,rfl,hf⟩
    ·dsimp only
     exact U' (wpS_modify (Vc ⟨⟨_,rfl⟩,_,_,_,_,rfl,by omega,L⟩))
   case j=>
    rintro x c st' _ hx ⟨⟨g,rfl⟩,na,nb,out,mg,ac,bc,rfl,h1,L⟩
    refine Vb (Q:=zw a b st (El+Em)) ?_ fun r st' h=>by cases r<;>exact h
    have l1:=L.a0
    have l2:=L.a1
    have l3:=L.b0
    have l4:=L.b1
    obtain⟨m,rfl⟩:∃m,nb=m+1:=⟨nb - 1,by omega⟩
    obtain⟨q,eq,eq',mq⟩:=at_of (a:=b) (i:=m) (by omega)
    dsimp -zeta only
    extract_lets z1 z2 z3 z4 z5 z6 z7 z8 z9 Gy Gz GB jp N6
    subst N6 GB Gz Gy z9 z8 z7 z6 z5 z4 z3 z2 z1
    have key:∀mg g,wpS (model prog w) A E s (jp () mg) (zw a b st (El+Em)) (kL st g):=by
     intro mg g
     dsimp -zeta only[jp]
     rw[Nat.add_sub_cancel]
     refine U' (wpS_modify ?_)
     refine U' (aP eq ?_)
     refine U' (dQ hk (H.kb _ mq) (by omega) H.ka (by omega) (fun i j h1 h2=>jD H.sa (by omega) (by omega)) fun k k1 k2 k3=>?_)
     have upto:∀p∈a.toList.take k,kn p<=kn q:=fun p hp=>by
      obtain⟨l,l1,l2,l3⟩:=cF hp
      have g1:=k2 l l1
      unfold gp at g1
      rw[if_neg (by decide),Nat.zero_add,aU l3] at g1
      have:¬kn q < kn p:=by simpa using g1
      omega
     dsimp -zeta only
     clear jp
     extract_lets o0 ac' jp o1 o2
     subst o2 o1 ac' o0
     have key:∀out' CL,1<=CL->CL<=na->ko a b out' CL (m+1)->(∀p∈a.toList.take CL,kn p<=kn q)->wpS (model prog w) A E s (jp () CL out') (zw a b st (El+Em)) (kL st mg):=by
      intro out' CL n1 n2 m1 hq
      dsimp -zeta only[jp]
      refine U' (aP eq ?_)
      have m2:ko a b (out'.push q) CL m:=qB H m1 eq' hq
      by_cases c3:m=1
      ·rw[if_pos (by rw[c3];rfl)]
       rw[c3] at m2 ⊢
       exact Vc (zw.fin (je H m2))
      rw[if_neg (by simpa using c3)]
      obtain⟨n,rfl⟩:∃n,CL=n+1:=⟨CL - 1,by omega⟩
      obtain⟨p,ep,rQ,mp⟩:=at_of (a:=a) (i:=n) (by omega)
      rw[Nat.add_sub_cancel]
      refine U' (aP ep ?_)
      refine U' (dQ hk (H.ka _ mp) (by omega) H.kb (by omega) (fun i j h1 h2=>jD H.sb (by omega) (by omega)) fun k k1 k2 k3=>?_)
      have upto:∀y∈b.toList.take k,kn y<=kn p:=fun y hy=>by
       obtain⟨l,l1,l2,l3⟩:=cF hy
       have g1:=k2 l l1
       unfold gp at g1
       rw[if_pos rfl,Nat.zero_add,aU l3] at g1
       have:=of_decide_eq_true g1
       omega
      dsimp -zeta only
      clear jp
      extract_lets o0 N7 n' jp o1 o2
      subst o2 o1 n' N7 o0
      have key:∀lS En,2<=En->En<=m->ko a b lS (n+1) En->(∀y∈b.toList.take En,kn y<=kn p)->wpS (model prog w) A E s (jp () En lS) (zw a b st (El+Em)) (kL st mg):=by
       intro lS En b1 b2 m3 hp
       dsimp -zeta only[jp]
       refine U' (aP ep ?_)
       have m4:ko a b (lS.push p) n En:=lT H m3 rQ hp
       by_cases c4:n=0
       ·rw[if_pos (by rw[c4];rfl)]
        rw[c4] at m4 ⊢
        exact Vc (zw.fin (jd H m4 fun _ _ y hy=>(jf y hy).elim))
       rw[if_neg (by simpa using c4)]
       have L':Hi a b (lS.push p) n En:=⟨m4,by omega,by omega,by omega,by omega⟩
       split
       ·exact Vc ⟨⟨mg,rfl⟩,.inr ⟨_,_,_,_,_,_,rfl,by omega,L'⟩⟩
       ·exact Vc ⟨⟨mg,rfl⟩,_,_,_,_,_,_,rfl,by omega,L'⟩
      by_cases c5:m - k > 0
      ·rw[if_pos c5]
       have m3:ko a b (out'.push q++(b.extract k m).reverse) (n+1) k:=by
        refine CK H m2 k (by omega) fun y hy x hx=>?_
        obtain⟨j,j0,j1,j2,j3⟩:=mem_mid hy
        obtain⟨l,l1,l2,l3⟩:=cF hx
        have g1:=k3 j j0 j1
        have g2:=jD H.sa (show l<=n by omega) (by omega)
        rw[aU ep,aU l3] at g2
        unfold gp at g1
        rw[if_pos rfl,Nat.zero_add,aU j3] at g1
        have:=of_decide_eq_false g1
        omega
       by_cases c6:k=1
       ·rw[if_pos (by rw[c6];rfl)]
        rw[c6] at m3 ⊢
        exact Vc (zw.fin (je H m3))
       rw[if_neg (by simpa using c6)]
       by_cases c7:k=0
       ·rw[if_pos (by rw[c7];rfl)]
        rw[c7] at m3 ⊢
        exact Vc (zw.fin (jd H m3 fun y hy=>(jf y hy).elim))
       ·rw[if_neg (by simpa using c7)]
        exact key _ _ (by omega) (by omega) m3 upto
      ·rw[if_neg c5]
       have:k=m:=by omega
       subst this
       exact key _ _ (by omega) (by omega) m2 upto
     by_cases c5:na - k > 0
     ·rw[if_pos c5]
      have m3:ko a b (out++(a.extract k na).reverse) k (m+1):=by
       refine CJ H L.mg k (by omega) fun y hy x hx=>?_
       obtain⟨j,j0,j1,j2,j3⟩:=mem_mid hy
       obtain⟨l,l1,l2,l3⟩:=cF hx
       have g1:=k3 j j0 j1
       have g2:=jD H.sb (show l<=m by omega) (by omega)
       rw[aU eq,aU l3] at g2
       unfold gp at g1
       rw[if_neg (by decide),Nat.zero_add,aU j3] at g1
       have:kn q < kn y:=by simpa using g1
       omega
      by_cases c6:k=0
      ·rw[if_pos (by rw[c6];rfl)]
       rw[c6] at m3 ⊢
       exact Vc (zw.fin (jd H m3 fun _ _ y hy=>(jf y hy).elim))
      ·rw[if_neg (by simpa using c6)]
       exact key _ _ (by omega) (by omega) m3 upto
     ·rw[if_neg c5]
      have:k=na:=by omega
      subst this
      exact key _ _ (by omega) (by omega) L.mg upto
    split<;>exact key _ _
end
theorem uL (b:Nat):∀(l:List U8) (k:Nat) (xs:Array U8),b+k+l.length<=xs.size->((l.zipIdx k).foldl (fun(a:Array U8) (q:U8×Nat)=>a.setIfInBounds (b+q.2) q.1) xs).toList=xs.toList.take (b+k)++l++xs.toList.drop (b+k+l.length)
 | [],k,xs,h=>by simp
 | p::l,k,xs,h=>by
  rw[List.zipIdx_cons,List.foldl_cons]
  rw[List.length_cons] at h
  have ih:=uL b l (k+1) (xs.setIfInBounds (b+k) p) (by rw[Array.size_setIfInBounds];omega)
  refine ih.trans ?_
  have lt:b+k < xs.toList.length:=by show b+k < xs.size;omega
  have e1:(xs.toList.set (b+k) p).take (b+(k+1))=xs.toList.take (b+k)++[p]:=by
   rw[<-Nat.add_assoc,List.take_succ_eq_append_getElem (by rw[List.length_set];exact lt),List.take_set_of_le (Nat.le_refl _),List.getElem_set_self]
  have e2:(xs.toList.set (b+k) p).drop (b+(k+1)+l.length)=xs.toList.drop (b+(k+1)+l.length):=List.drop_set_of_lt (by omega)
  rw[Array.toList_setIfInBounds,e1,e2,List.length_cons,show b+(k+1)+l.length=b+k+(l.length+1) by omega]
  simp
theorem seg_at {xs:Array U8} {L A R:List U8} (e:xs.toList=L++A++R) {i:Nat} (h:i < A.length):xs[L.length+i]? =A[i]?:=by
 rw[<-Array.getElem?_toList,e,List.append_assoc,List.getElem?_append_right (by omega),List.getElem?_append_left (by omega)]
 congr 1
 omega
theorem zx {xs:Array U8} {L A R:List U8} (e:xs.toList=L++A++R) (u:Up A) {i j:Nat} (h1:i<=j) (h2:j < A.length):K xs (L.length+i)<=K xs (L.length+j):=by
 have q1:=seg_at e (i:=i) (by omega)
 have q2:=seg_at e h2
 rw[List.getElem?_eq_getElem (by omega)] at q1 q2
 rw[aU q1,aU q2]
 by_cases c:i=j
 ·subst c
  exact Int.le_refl _
 ·exact List.pairwise_iff_getElem.mp u i j (by omega) (by omega) (by omega)
theorem uM {xs:Array U8} {L A R:List U8} (e:xs.toList=L++A++R) {i j:Nat} (h1:i<=j) (h2:j<=A.length):(xs.extract (L.length+i) (L.length+j)).toList=(A.take j).drop i:=by
 rw[Array.toList_extract,List.extract_eq_take_drop,e,List.append_assoc,List.drop_append,List.drop_of_length_le (by omega),List.nil_append,Nat.add_sub_cancel_left,show L.length+j - (L.length+i)=j - i by omega,List.drop_take,List.drop_append_of_le_length (by omega),List.take_append_of_le_length (by rw[List.length_drop];omega)]
section
variable {prog:UJ} {w:UM} {A₀:UG} {E:UL->UK->Prop} {s:UK}
theorem CM {σ:Type} {M:Model} {Q:PUnit->σ->Prop} {st x:σ} (h:Q ⟨⟩ x):wpS M A₀ E s (set x:StateT σ Sem PUnit) Q st:=by
 unfold wpS
 rw[StateT.run_set]
 exact U6 ⟨rfl,h⟩
theorem sP {xs:Array U8} {g0 sa na pw sb nb p2:Nat} {pre post:List (Nat×Nat×Nat)} {L A B S:List U8} {Q:Bool->U9->Prop}
  (e:xs.toList=L++A++(B++S)) (hI:∀p∈xs.toList,Ik p) (e1:L.length=sa) (e2:A.length=na) (e3:B.length=nb) (e4:sb=sa+na) (n1:1<=na) (n2:1<=nb) (uA:Up A) (uB:Up B)
  (h:∀C ys g,C.Perm (A++B)->Up C->ys.toList=L++C++S->Q true (SortSt.mk' U_ ys (pre++(sa,na+nb,pw)::post).toArray g none)) :
  wpS (model prog w) A₀ E s (mergeAt' pre.length) Q (SortSt.mk' U_ xs (pre++(sa,na,pw)::(sb,nb,p2)::post).toArray g0 none):=by
 refine U' (wpS_get ?_)
 have g1:(pre++(sa,na,pw)::(sb,nb,p2)::post).toArray[pre.length]? =some (sa,na,pw):=by simp
 have g2:(pre++(sa,na,pw)::(sb,nb,p2)::post).toArray[pre.length+1]? =some (sb,nb,p2):=by simp
 have g3:((pre++(sa,na,pw)::(sb,nb,p2)::post).toArray.setIfInBounds pre.length (sa,na+nb,pw)).eraseIdxIfInBounds (pre.length+1)=(pre++(sa,na+nb,pw)::post).toArray:=by
  apply Array.toList_inj.mp
  rw[Array.toList_eraseIdxIfInBounds,Array.toList_setIfInBounds]
  simp[List.eraseIdx_append_of_length_le]
 dsimp -zeta only
 rw[g1,g2]
 dsimp -zeta only
 refine U' (CM ?_)
 rw[g3]
 clear g1 g2 g3
 subst e1 e2 e3 e4
 obtain⟨b0,rB,eb⟩:∃b0 rB,B=b0::rB:=by cases B with | nil=>simp at n2 | cons x y=>exact⟨x,y,rfl⟩
 have eB:xs.toList=(L++A)++B++S:=by rw[e];simp
 have KR:(L++A).length=L.length+A.length:=List.length_append
 have sz:xs.size=L.length+A.length+(B.length+S.length):=by
  have:=congrArg List.length e
  simpa [Nat.add_assoc,Nat.add_comm,Nat.add_left_comm] using this
 have Me:xs[L.length+A.length]? =some b0:=by
  have:=seg_at eB (i:=0) (by omega)
  rw[KR,eb] at this
  exact this
 have R7:Ik b0:=hI b0 (by rw[e,eb];simp)
 refine U' (aP Me ?_)
 refine U' (dQ rfl R7 (by omega) hI (by omega) (fun i j h1 h2=>zx e uA h1 h2) fun k k1 k2 k3=>?_)
 have lo1:∀p∈A.take k,kn p<=kn b0:=fun p hp=>by
  obtain⟨i,ei⟩:=List.getElem?_of_mem hp
  have li:=(List.getElem?_eq_some_iff.mp ei).1
  rw[List.length_take] at li
  rw[List.getElem?_take_of_lt (by omega)] at ei
  have g1:=k2 i (by omega)
  unfold gp at g1
  rw[if_neg (by decide),aU ((seg_at e (by omega)).trans ei)] at g1
  have:¬kn b0 < kn p:=by simpa using g1
  omega
 have hi1:∀p∈A.drop k,kn b0<=kn p:=fun p hp=>by
  obtain⟨i,ei⟩:=List.getElem?_of_mem hp
  rw[List.getElem?_drop] at ei
  have li:=(List.getElem?_eq_some_iff.mp ei).1
  have g1:=k3 (k+i) (by omega) li
  unfold gp at g1
  rw[if_neg (by decide),aU ((seg_at e li).trans ei)] at g1
  have:kn b0 < kn p:=by simpa using g1
  omega
 have KS:∀q∈B,kn b0<=kn q:=fun q hq=>by
  rw[eb] at hq uB
  rcases List.mem_cons.mp hq with z | z
  ·rw[z];exact Int.le_refl _
  ·exact(List.pairwise_cons.mp uB).1 q z
 dsimp -zeta only
 by_cases c1:A.length - k=0
 ·rw[if_pos (by rw[c1];rfl)]
  have ek:A.take k=A:=List.take_of_length_le (by omega)
  rw[ek] at lo1
  refine Vc (h (A++B) xs g0 (.refl _) ?_ (by rw[e];simp))
  unfold Up
  rw[List.pairwise_append]
  exact⟨uA,uB,fun p hp q hq=>Int.le_trans (lo1 p hp) (KS q hq)⟩
 rw[if_neg (by simpa using c1),show L.length+k+(A.length - k) - 1=L.length+(A.length - 1) by omega]
 obtain⟨a1,Oc⟩:∃a1,A[A.length - 1]? =some a1:=⟨_,List.getElem?_eq_getElem (by omega)⟩
 have KU:=(seg_at e (i:=A.length - 1) (by omega)).trans Oc
 have R_:a1∈A.drop k:=by
  refine List.mem_of_getElem? (i:=A.length - 1 - k) ?_
  rw[List.getElem?_drop,show k+(A.length - 1 - k)=A.length - 1 by omega]
  exact Oc
 have Sa:Ik a1:=hI a1 (by rw[e];exact List.mem_append_left _ (List.mem_append_right _ ((List.drop_sublist _ _).mem R_)))
 refine U' (aP KU ?_)
 refine U' (dQ (base:=L.length+A.length) rfl Sa (by omega) hI (by omega) (fun i j h1 h2=>by rw[<-KR];exact zx eB uB h1 h2) fun m m1 m2 m3=>?_)
 have GD:∀p∈A,kn p<=kn a1:=fun p hp=>by
  obtain⟨i,ei⟩:=List.getElem?_of_mem hp
  have li:=(List.getElem?_eq_some_iff.mp ei).1
  have:=zx e uA (i:=i) (j:=A.length - 1) (by omega) (by omega)
  rw[aU ((seg_at e li).trans ei),aU KU] at this
  exact this
 have lo2:∀q∈B.take m,kn q<=kn a1:=fun p hp=>by
  obtain⟨i,ei⟩:=List.getElem?_of_mem hp
  have li:=(List.getElem?_eq_some_iff.mp ei).1
  rw[List.length_take] at li
  rw[List.getElem?_take_of_lt (by omega)] at ei
  have g1:=m2 i (by omega)
  unfold gp at g1
  rw[if_pos rfl,<-KR,aU ((seg_at eB (by omega)).trans ei)] at g1
  have:=of_decide_eq_true g1
  omega
 have hi2:∀q∈B.drop m,kn a1<=kn q:=fun p hp=>by
  obtain⟨i,ei⟩:=List.getElem?_of_mem hp
  rw[List.getElem?_drop] at ei
  have li:=(List.getElem?_eq_some_iff.mp ei).1
  have g1:=m3 (m+i) (by omega) li
  unfold gp at g1
  rw[if_pos rfl,<-KR,aU ((seg_at eB li).trans ei)] at g1
  have:=of_decide_eq_false g1
  omega
 dsimp -zeta only
 by_cases c2:m=0
 ·rw[if_pos (by rw[c2];rfl)]
  rw[c2,List.drop_zero] at hi2
  refine Vc (h (A++B) xs g0 (.refl _) ?_ (by rw[e];simp))
  unfold Up
  rw[List.pairwise_append]
  exact⟨uA,uB,fun p hp q hq=>Int.le_trans (GD p hp) (hi2 q hq)⟩
 rw[if_neg (by simpa using c2)]
 have ex:(xs.extract (L.length+k) (L.length+A.length)).toList=A.drop k:=by
  rw[uM e (by omega) (Nat.le_refl _),List.take_of_length_le (Nat.le_refl _)]
 have ey:(xs.extract (L.length+A.length) (L.length+A.length+m)).toList=B.take m:=by
  have:=uM eB (i:=0) (j:=m) (by omega) (by omega)
  rw[KR] at this
  exact this
 generalize xs.extract (L.length+k) (L.length+A.length)=X at ex
 generalize xs.extract (L.length+A.length) (L.length+A.length+m)=Y at ey
 extract_lets x y jp
 subst x y
 have key:∀r g,Fin' X.toList Y.toList r->wpS (model prog w) A₀ E s (jp r) Q (SortSt.mk' U_ xs (pre++(L.length,A.length+B.length,pw)::post).toArray g none):=by
  intro r g hr
  dsimp -zeta only[jp]
  refine U' (wpS_modify (U' (wpS_get (Vc ?_))))
  obtain⟨pm,up⟩:=hr
  rw[ex,ey] at pm
  have lr:=pm.length_eq
  rw[List.length_append,List.length_drop,List.length_take,Nat.min_eq_left m1] at lr
  refine h (A.take k++r.toList++B.drop m) _ g ?_ ?_ ?_
  ·refine((pm.append_left (A.take k)).append_right (B.drop m)).trans ?_
   rw[<-List.append_assoc,List.take_append_drop,List.append_assoc,List.take_append_drop]
  ·unfold Up
   rw[List.pairwise_append,List.pairwise_append]
   have Mf:=uA
   have Mi:=uB
   unfold Up at Mf Mi
   rw[<-List.take_append_drop k A,List.pairwise_append] at Mf
   rw[<-List.take_append_drop m B,List.pairwise_append] at Mi
   refine⟨⟨Mf.1,up,fun p hp q hq=>?_⟩,Mi.2.1,fun p hp q hq=>?_⟩
   ·rcases List.mem_append.mp (pm.mem_iff.mp hq) with z | z
    ·exact Mf.2.2 p hp q z
    ·exact Int.le_trans (lo1 p hp) (KS q ((List.take_sublist _ _).mem z))
   ·rcases List.mem_append.mp hp with z | z
    ·exact Int.le_trans (GD p ((List.take_sublist _ _).mem z)) (hi2 q hq)
    ·rcases List.mem_append.mp (pm.mem_iff.mp z) with z | z
     ·exact Int.le_trans (GD p ((List.drop_sublist _ _).mem z)) (hi2 q hq)
     ·exact Mi.2.2 p z q hq
  ·have:=uL (L.length+k) r.toList 0 xs (by omega)
   refine this.trans ?_
   rw[lr,e,Nat.add_zero,show L.length+k+(A.length - k+m)=(L++A).length+m by omega,List.drop_append,List.drop_of_length_le (by omega),List.nil_append,Nat.add_sub_cancel_left,List.drop_append_of_le_length m1,
    List.append_assoc L A,List.take_append,List.take_of_length_le (by omega),Nat.add_sub_cancel_left,List.take_append_of_le_length k1]
   simp
 have sX:X.size=A.length - k:=by rw[<-Array.length_toList,ex,List.length_drop]
 have sY:Y.size=m:=by rw[<-Array.length_toList,ey,List.length_take];omega
 have Sb:∀p∈X.toList,p∈A:=fun p hp=>by rw[ex] at hp;exact(List.drop_sublist _ _).mem hp
 have Sd:∀p∈Y.toList,p∈B:=fun p hp=>by rw[ey] at hp;exact(List.take_sublist _ _).mem hp
 have kX:∀p∈X.toList,Ik p:=fun p hp=>hI p (by rw[e];exact List.mem_append_left _ (List.mem_append_right _ (Sb p hp)))
 have kY:∀p∈Y.toList,Ik p:=fun p hp=>hI p (by rw[e];exact List.mem_append_right _ (List.mem_append_left _ (Sd p hp)))
 have uX:Up X.toList:=by rw[ex];exact uA.sublist (List.drop_sublist _ _)
 have uY:Up Y.toList:=by rw[ey];exact uB.sublist (List.take_sublist _ _)
 have last:∀j,j < Y.size->K Y j<=K X (X.size - 1):=fun j hj=>by
  obtain⟨q,q1,q2,q3⟩:=at_of hj
  have e1:X[X.size - 1]? =some a1:=by
   rw[<-Array.getElem?_toList,ex,List.getElem?_drop,sX,show k+(A.length - k - 1)=A.length - 1 by omega]
   exact Oc
  rw[aU q1,aU e1]
  exact lo2 q (by rw[<-ey];exact q3)
 have first:∀i,i < X.size->K Y 0<=K X i:=fun i hi=>by
  obtain⟨q,q1,q2,q3⟩:=at_of hi
  have e1:Y[0]? =some b0:=by
   rw[<-Array.getElem?_toList,ey,List.getElem?_take_of_lt (by omega),eb]
   rfl
  rw[aU q1,aU e1]
  exact hi1 q (by rw[<-ex];exact q3)
 split
 ·exact U' (sL ⟨kX,kY,uX,uY,last⟩ (by omega) (by omega) rfl first fun r g hr=>key r g hr)
 ·exact U' (sO ⟨kX,kY,uX,uY,first⟩ (by omega) (by omega) rfl last fun r g hr=>key r g hr)
end
def Sm (lo:Nat) (xs ys:Array U8):Prop:=ys.Perm xs/\∀i,i < lo->ys[i]? =xs[i]?
theorem Sm.refl {lo:Nat} {xs:Array U8}:Sm lo xs xs:=⟨.refl _,fun _ _=>rfl⟩
theorem Sm.trans {lo:Nat} {xs ys zs:Array U8} (h1:Sm lo xs ys) (h2:Sm lo ys zs):Sm lo xs zs:=⟨h2.1.trans h1.1,fun i hi=>(h2.2 i hi).trans (h1.2 i hi)⟩
theorem Sm.size {lo:Nat} {xs ys:Array U8} (h:Sm lo xs ys):ys.size=xs.size:=h.1.size_eq
theorem Sm.ik {lo:Nat} {xs ys:Array U8} (h:Sm lo xs ys) (hI:∀p∈xs.toList,Ik p):∀p∈ys.toList,Ik p:=fun p hp=>hI p ((Array.perm_iff_toList_perm.mp h.1).mem_iff.mp hp)
theorem Sm.mirror {lo i j:Nat} {xs:Array U8} (h:lo<=i) (hj:j<=xs.size):Sm lo xs (mirror xs i j ((j - i) / 2)) :=
 ⟨mirror_perm _ _ _ _,fun k hk=>by rw[getElem?_mirror_all hj,if_neg (by omega)]⟩
def nU (xs:Array U8) (lo n:Nat):Prop:=∀i j,i<=j->j < n->K xs (lo+i)<=K xs (lo+j)
def zy (xs:Array U8) (lo n:Nat):Prop:=∀i j,i<=j->j < n->K xs (lo+j)<=K xs (lo+i)
theorem nU.step {xs:Array U8} {lo n:Nat} (h:nU xs lo n) (h1:1<=n) (c:¬K xs (lo+n) < K xs (lo+n - 1)):nU xs lo (n+1):=fun i j hij hj=>by
 by_cases z:j < n
 ·exact h i j hij z
 ·have:j=n:=by omega
  subst this
  by_cases y:i=j
  ·subst y;exact Int.le_refl _
  ·have:=h i (j - 1) (by omega) (by omega)
   rw[show lo+(j - 1)=lo+j - 1 by omega] at this
   omega
theorem zy.step {xs:Array U8} {lo n:Nat} (h:zy xs lo n) (h1:1<=n) (c:K xs (lo+n)<=K xs (lo+n - 1)):zy xs lo (n+1):=fun i j hij hj=>by
 by_cases z:j < n
 ·exact h i j hij z
 ·have:j=n:=by omega
  subst this
  by_cases y:i=j
  ·subst y;exact Int.le_refl _
  ·have:=h i (j - 1) (by omega) (by omega)
   rw[show lo+(j - 1)=lo+j - 1 by omega] at this
   omega
theorem nU.one {xs:Array U8} {lo:Nat}:nU xs lo 1:=fun i j h1 h2=>by
 have:i=j:=by omega
 subst this;exact Int.le_refl _
theorem nU.turn {xs:Array U8} {lo n:Nat} (h:zy xs lo n) (hn:lo+n<=xs.size):nU (mirror xs lo (lo+n) ((lo+n - lo) / 2)) lo n:=fun i j h1 h2=>by
 rw[K_mirror hn,K_mirror hn,if_pos (by omega),if_pos (by omega)]
 have:=h (n - 1 - j) (n - 1 - i) (by omega) (by omega)
 rw[show lo+(lo+n) - 1 - (lo+i)=lo+(n - 1 - i) by omega,show lo+(lo+n) - 1 - (lo+j)=lo+(n - 1 - j) by omega]
 exact this
section
variable {prog:UJ} {w:UM} {A:UG} {E:UL->UK->Prop} {s:UK} {P:Array (Nat×Nat×Nat)} {g:Nat}
theorem qC {xs:Array U8} {i j:Nat} {Q:Option Bool->U9->Prop} (hI:∀p∈xs.toList,Ik p) (hi:i < xs.size) (hj:j < xs.size) (h:Q (some (decide (K xs i < K xs j))) (SortSt.mk' U_ xs P g none)) :
  wpS (model prog w) A E s (ltAt' i j) Q (SortSt.mk' U_ xs P g none):=by
 obtain⟨p,p1,_,p2⟩:=at_of hi
 obtain⟨q,q1,_,q2⟩:=at_of hj
 rw[aU p1,aU q1] at h
 refine U' (wpS_get ?_)
 refine U' (aP p1 (U' (aP q1 ?_)))
 exact qy rfl (hI p p2) (hI q q2) h
theorem oY {xs:Array U8} {i j:Nat} {Q:Unit->U9->Prop} (h:Q () (SortSt.mk' U_ (mirror xs i j ((j - i) / 2)) P g none)):wpS (model prog w) A E s (reverseSlice' i j) Q (SortSt.mk' U_ xs P g none):=by
 rw[reverseSlice'_eq]
 exact wpS_modify h
def KW (lo a m:Nat):StateT U9 Sem AscSt :=
 forIn [a:m] ((none,a):AscSt) fun _ c=>do
  match(<-ltAt' (lo+c.2) (lo+c.2 - 1)) with
  | some b=>if b=true then pure (.done (none,c.2)) else pure (.yield (none,c.2+1))
  | _=>pure (.done (some none,c.2))
theorem uN {xs:Array U8} {lo a m:Nat} {Q:AscSt->U9->Prop} (hI:∀p∈xs.toList,Ik p) (hm:lo+m<=xs.size) (h1:1<=a) (h2:a<=m) (hs:nU xs lo a)
  (h:∀n,a<=n->n<=m->nU xs lo n->(n=m\/K xs (lo+n) < K xs (lo+n - 1))->Q (none,n) (SortSt.mk' U_ xs P g none)):wpS (model prog w) A E s (KW lo a m) Q (SortSt.mk' U_ xs P g none):=by
 unfold KW
 refine Va (I:=fun x c st=>st=SortSt.mk' U_ xs P g none/\c=(none,x)/\nU xs lo x) ?_ ?_ ⟨rfl,rfl,hs⟩
 ·rintro x c st k1 k2 ⟨rfl,rfl,k3⟩
  dsimp only
  refine U' (qC hI (by omega) (by omega) ?_)
  by_cases c:K xs (lo+x) < K xs (lo+x - 1)
  ·rw[decide_eq_true c]
   exact Vc (h x k1 (by omega) k3 (.inr c))
  ·rw[decide_eq_false c]
   exact Vc ⟨rfl,rfl,k3.step (by omega) c⟩
 ·rintro c st ⟨rfl,rfl,k3⟩
  rw[show max a m=m by omega] at k3 ⊢
  exact h m h2 (Nat.le_refl _) k3 (.inl rfl)
theorem qD {xs:Array U8} {lo m:Nat} {Q:Option Nat->U9->Prop} (hI:∀p∈xs.toList,Ik p) (hm:lo+m<=xs.size) (h1:1<=m)
  (h:∀n ys,1<=n->n<=m->Sm lo xs ys->nU ys lo n->Q (some n) (SortSt.mk' U_ ys P g none)):wpS (model prog w) A E s (countRun' lo m) Q (SortSt.mk' U_ xs P g none):=by
 refine U' (uN hI hm (Nat.le_refl _) h1 nU.one fun n n1 n2 as nd=>?_)
 dsimp -zeta only
 extract_lets+onlyGivenNames r' n'
 subst n' r'
 dsimp -zeta only
 by_cases c1:n=m
 ·rw[if_pos (by rw[c1];simp)]
  exact Vc (h n xs n1 n2 .refl as)
 rw[if_neg (by simpa using c1)]
 have lt:=nd.resolve_left c1
 extract_lets+onlyGivenNames n' q' jp
 subst q' n'
 have key:∀ys,Sm lo xs ys->(∀i,K ys i=K xs i)->zy xs lo n->wpS (model prog w) A E s (jp ()) Q (SortSt.mk' U_ ys P g none):=by
  intro ys sm ke dn
  have Se:zy ys lo (n+1):=(show zy ys lo n from fun i j a b=>by rw[ke,ke];exact dn i j a b).step n1 (by rw[ke,ke];omega)
  have ly:=sm.size
  have hI':=sm.ik hI
  dsimp -zeta only[jp]
  refine U' (wpS_lift (wpAny_rule ⟨rfl,?_⟩))
  refine U' (Vb (Va (I:=fun x c st=>∃ys q,st=SortSt.mk' U_ ys P g none/\c=(none,x,q)/\Sm lo xs ys/\zy ys lo x/\q+1<=x/\(∀i,lo+x - (q+1)<=i->i < lo+x->K ys i=K ys (lo+x - 1)))
   (Q:=fun c st=>∃ys x q,st=SortSt.mk' U_ ys P g none/\c=(none,x,q)/\n+1<=x/\x<=m/\Sm lo xs ys/\zy ys lo x/\q+1<=x/\(∀i,lo+x - (q+1)<=i->i < lo+x->K ys i=K ys (lo+x - 1))) ?a ?b ?c) ?d)
  case c=>exact⟨ys,0,rfl,rfl,sm,Se,by omega,fun i a b=>by congr 1;omega⟩
  case b=>
   rintro c st ⟨ys,q,rfl,rfl,k1,k2,k3,k4⟩
   rw[show max (n+1) m=m by omega] at k2 k3 k4 ⊢
   exact⟨ys,m,q,rfl,rfl,by omega,by omega,k1,k2,k3,k4⟩
  case a=>
   rintro x c st x1 x2 ⟨ys,q,rfl,rfl,k1,k2,k3,k4⟩
   have ly:=k1.size
   dsimp only
   refine U' (qC (k1.ik hI) (by omega) (by omega) ?_)
   by_cases c:K ys (lo+x) < K ys (lo+x - 1)
   ·rw[decide_eq_true c]
    dsimp only
    rw[if_pos rfl]
    by_cases c2:q > 0
    ·rw[if_pos c2]
     have GF:=K_mirror_equal (xs:=ys) (i:=lo+x - (q+1)) (j:=lo+x) (by omega) k4
     refine U' (oY (Vc ⟨_,0,rfl,rfl,k1.trans (Sm.mirror (by omega) (by omega)),?_,by omega,fun i a b=>by congr 1;omega⟩))
     refine(show zy _ lo x from fun i j a b=>by rw[GF,GF];exact k2 i j a b).step (by omega) (by rw[GF,GF];omega)
    ·rw[if_neg c2]
     exact Vc ⟨ys,0,rfl,rfl,k1,k2.step (by omega) (by omega),by omega,fun i a b=>by congr 1;omega⟩
   ·rw[decide_eq_false c]
    dsimp only
    rw[if_neg (by decide)]
    refine U' (qC (k1.ik hI) (by omega) (by omega) ?_)
    by_cases c2:K ys (lo+x - 1) < K ys (lo+x)
    ·rw[decide_eq_true c2]
     exact Vc ⟨ys,x,q,rfl,rfl,x1,by omega,k1,k2,k3,k4⟩
    ·rw[decide_eq_false c2]
     have ex:K ys (lo+x)=K ys (lo+x - 1):=by omega
     refine Vc ⟨ys,q+1,rfl,rfl,k1,k2.step (by omega) (by omega),by omega,fun i a b=>?_⟩
     rw[show lo+(x+1) - 1=lo+x by omega]
     by_cases z:i=lo+x
     ·rw[z]
     ·rw[ex];exact k4 i (by omega) (by omega)
  case d=>
   rintro c st ⟨ys,x,q,rfl,rfl,x1,x2,k1,k2,k3,k4⟩
   have ly:=k1.size
   dsimp -zeta only
   clear jp
   extract_lets+onlyGivenNames r' c' n' q'
   subst q' n' c' r'
   dsimp -zeta only
   extract_lets+onlyGivenNames jp
   have key:∀zs,Sm lo xs zs->zy zs lo x->wpS (model prog w) A E s (jp ()) Q (SortSt.mk' U_ zs P g none):=by
    intro zs sm dz
    have lz:=sm.size
    dsimp -zeta only[jp]
    have KY:=sm.trans (Sm.mirror (xs:=zs) (lo:=lo) (i:=lo) (j:=lo+x) (Nat.le_refl _) (by omega))
    have l2:=KY.size
    refine U' (oY (U' (uN (KY.ik hI) (by omega) (by omega) x2 (nU.turn dz (by omega)) fun n n1 n2 as _=>?_)))
    exact Vc (h n _ (by omega) n2 KY as)
   by_cases c2:q > 0
   ·rw[if_pos c2]
    have GF:=K_mirror_equal (xs:=ys) (i:=lo+x - (q+1)) (j:=lo+x) (by omega) k4
    exact U' (oY (key _ (k1.trans (Sm.mirror (by omega) (by omega))) fun i j a b=>by rw[GF,GF];exact k2 i j a b))
   ·rw[if_neg c2]
    exact key _ k1 k2
 by_cases c2:n > 1
 ·rw[if_pos c2]
  refine U' (qC hI (by omega) (by omega) ?_)
  by_cases c3:K xs lo < K xs (lo+n - 1)
  ·rw[decide_eq_true c3]
   exact Vc (h n xs n1 n2 .refl as)
  ·rw[decide_eq_false c3]
   have all:∀k,lo<=k->k < lo+n->K xs k=K xs (lo+n - 1):=fun k q1 q2=>by
    have a1:=as 0 (k - lo) (by omega) (by omega)
    have a2:=as (k - lo) (n - 1) (by omega) (by omega)
    rw[Nat.add_zero,show lo+(k - lo)=k by omega] at a1
    rw[show lo+(k - lo)=k by omega,show lo+(n - 1)=lo+n - 1 by omega] at a2
    omega
   exact U' (oY (key _ (Sm.mirror (Nat.le_refl _) (by omega)) (K_mirror_equal (by omega) all) fun i j a b=>by rw[all _ (by omega) (by omega),all (lo+i) (by omega) (by omega)];exact Int.le_refl _))
 ·rw[if_neg c2]
  have:n=1:=by omega
  subst this
  exact key xs .refl (fun _=>rfl) fun i j a b=>by
   have:i=j:=by omega
   subst this
   exact Int.le_refl _
end
section
variable {prog:UJ} {w:UM} {A:UG} {E:UL->UK->Prop} {s:UK} {P:Array (Nat×Nat×Nat)} {g:Nat}
theorem GG {xs:Array U8} {lo n ok:Nat} {Q:Bool->U9->Prop} (hI:∀p∈xs.toList,Ik p) (hn:lo+n<=xs.size) (hok:ok<=n) (as:nU xs lo ok)
  (h:∀ys,Sm lo xs ys->nU ys lo n->Q true (SortSt.mk' U_ ys P g none)):wpS (model prog w) A E s (binarySort' lo n ok) Q (SortSt.mk' U_ xs P g none):=by
 refine U' (Vb (Va (I:=fun k c st=>∃ys,st=SortSt.mk' U_ ys P g none/\c=(none,())/\Sm lo xs ys/\nU ys lo (min k n))
  (Q:=fun c st=>∃ys,st=SortSt.mk' U_ ys P g none/\c=(none,())/\Sm lo xs ys/\nU ys lo n) ?a ?b ?c) ?d)
 case d=>
  rintro c st ⟨ys,rfl,rfl,k1,k2⟩
  exact Vc (h ys k1 k2)
 case c=>
  refine⟨xs,rfl,rfl,.refl,fun i j hij hj=>?_⟩
  by_cases z:ok=0
  ·have:i=j:=by omega
   subst this;exact Int.le_refl _
  ·exact as i j hij (by omega)
 case b=>
  rintro c st ⟨ys,rfl,rfl,k1,k2⟩
  rw[show min (max (max ok 1) n) n=n by omega] at k2
  exact⟨ys,rfl,rfl,k1,k2⟩
 case a=>
  rintro k c st kk Ut ⟨ys,rfl,rfl,k1,k2⟩
  rw[show min k n=k by omega] at k2
  have ly:=k1.size
  refine U' (Vb (Va (I:=fun x c st=>st=SortSt.mk' U_ ys P g none/\∃l r,c=(none,l,r)/\l<=r/\r<=k/\r - l<=k - x/\(∀i,i < l->K ys (lo+i)<=K ys (lo+k))/\(∀i,r<=i->i < k->K ys (lo+k) < K ys (lo+i)))
   (Q:=fun c st=>st=SortSt.mk' U_ ys P g none/\∃l,c=(none,l,l)/\l<=k/\(∀i,i < l->K ys (lo+i)<=K ys (lo+k))/\(∀i,l<=i->i < k->K ys (lo+k) < K ys (lo+i))) ?e ?f ?g) ?h)
  case g=>exact⟨rfl,0,k,rfl,by omega,by omega,by omega,fun i hi=>by omega,fun i a b=>by omega⟩
  case f=>
   rintro c st ⟨rfl,l,r,rfl,q1,q2,q3,q4,q5⟩
   have:l=r:=by omega
   subst this
   exact⟨rfl,l,rfl,q2,q4,q5⟩
  case e=>
   rintro x c st _ xk ⟨rfl,l,r,rfl,q1,q2,q3,q4,q5⟩
   dsimp only
   by_cases c:l >= r
   ·rw[if_pos c]
    have:l=r:=by omega
    subst this
    exact Vc ⟨rfl,l,rfl,q2,q4,q5⟩
   ·rw[if_neg c]
    refine U' (qC (k1.ik hI) (by omega) (by omega) ?_)
    by_cases c2:K ys (lo+k) < K ys (lo+(l+r) / 2)
    ·rw[decide_eq_true c2]
     refine Vc ⟨rfl,l,(l+r) / 2,rfl,by omega,by omega,by omega,q4,fun i a b=>?_⟩
     exact Int.lt_of_lt_of_le c2 (k2 _ _ a b)
    ·rw[decide_eq_false c2]
     refine Vc ⟨rfl,(l+r) / 2+1,r,rfl,by omega,by omega,by omega,fun i a=>?_,q5⟩
     exact Int.le_trans (k2 i ((l+r) / 2) (by omega) (by omega)) (Int.not_lt.mp c2)
  case h=>
   rintro c st ⟨rfl,l,rfl,q2,q4,q5⟩
   show wpS _ _ _ _ (do moveDown' (lo+k) (lo+l);pure (ForInStep.yield (none,()))) _ _
   rw[moveDown'_eq]
   have bs:lo+k < ys.size:=by omega
   have bd:lo+k - (lo+l)<=lo+k:=by omega
   refine U' (wpS_modify (Vc ⟨_,rfl,rfl,k1.trans ⟨bubble_perm _ _ _,fun i hi=>?_⟩,?_⟩))
   ·rw[getElem?_bubble bs _ bd,if_neg (by omega),if_neg (by omega)]
   ·rw[show min (k+1) n=k+1 by omega]
    intro i j hij hj
    have val:∀i,i<=k->K (bubble ys (lo+k) (lo+k - (lo+l))) (lo+i)=if i=l then K ys (lo+k) else if l < i then K ys (lo+(i - 1)) else K ys (lo+i):=fun i hi=>by
     rw[K_bubble bs bd,show lo+k - (lo+k - (lo+l))=lo+l by omega]
     by_cases c1:i=l
     ·rw[if_pos (by omega),if_pos c1]
     ·rw[if_neg (by omega),if_neg c1]
      by_cases c2:l < i
      ·rw[if_pos (by omega),if_pos c2,show lo+i - 1=lo+(i - 1) by omega]
      ·rw[if_neg (by omega),if_neg c2]
    show K (bubble ys (lo+k) (lo+k - (lo+l))) (lo+i)<=K (bubble ys (lo+k) (lo+k - (lo+l))) (lo+j)
    rw[val i (by omega),val j (by omega)]
    repeat' split
    all_goals first | (exfalso;omega) | exact Int.le_refl _ | exact q4 _ (by omega) | exact Int.le_of_lt (q5 _ (by omega) (by omega)) | exact k2 _ _ (by omega) (by omega)
end
inductive Rn:Nat->List (Nat×Nat×Nat)->List U8->Prop
 | nil {s:Nat}:Rn s [] []
 | cons {s n p:Nat} {P:List (Nat×Nat×Nat)} {A X:List U8}:A.length=n->1<=n->Up A->Rn (s+n) P X->Rn s ((s,n,p)::P) (A++X)
theorem Rn.split:∀{pre r:List (Nat×Nat×Nat)} {s:Nat} {X:List U8},Rn s (pre++r) X->∃X1 X2,X=X1++X2/\Rn s pre X1/\Rn (s+X1.length) r X2
 | [],r,s,X,h=>⟨[],X,rfl,.nil,h⟩
 | a::pre,r,s,X,h=>by
  cases h with
  | cons h1 h2 h3 h4=>
   obtain⟨X1,X2,rfl,k1,k2⟩:=h4.split
   refine⟨_++X1,X2,(List.append_assoc _ _ _).symm,.cons h1 h2 h3 k1,?_⟩
   rw[List.length_append,h1,<-Nat.add_assoc]
   exact k2
theorem Rn.join:∀{pre r:List (Nat×Nat×Nat)} {s:Nat} {X1 X2:List U8},Rn s pre X1->Rn (s+X1.length) r X2->Rn s (pre++r) (X1++X2)
 | [],r,s,X1,X2,h,k=>by cases h;exact k
 | a::pre,r,s,X1,X2,h,k=>by
  cases h with
  | cons h1 h2 h3 h4=>
   rw[List.append_assoc]
   refine .cons h1 h2 h3 (h4.join ?_)
   rw[List.length_append,h1,<-Nat.add_assoc] at k
   exact k
theorem Rn.len:∀{P:List (Nat×Nat×Nat)} {s:Nat} {X:List U8},Rn s P X->P.length<=X.length
 | [],s,X,h=>Nat.zero_le _
 | a::P,s,X,h=>by
  cases h with
  | cons h1 h2 h3 h4=>
   have:=h4.len
   rw[List.length_append,List.length_cons]
   omega
theorem Rn.few {P:List (Nat×Nat×Nat)} {s:Nat} {X:List U8} (h:Rn s P X) (l:P.length<=1):Up X:=by
 cases h with
 | nil=>exact .nil
 | cons h1 h2 h3 h4=>
  cases h4 with
  | nil=>rw[List.append_nil];exact h3
  | cons _ _ _ _=>simp at l
section
variable {prog:UJ} {w:UM} {A₀:UG} {E:UL->UK->Prop} {s:UK}
theorem nV {xs:Array U8} {g0 i:Nat} {P:List (Nat×Nat×Nat)} {X Y:List U8} {Q:Bool->U9->Prop} (hi:i+1 < P.length) (hR:Rn 0 P X) (e:xs.toList=X++Y) (hI:∀p∈xs.toList,Ik p)
  (h:∀P' X' ys g,P'.length+1=P.length->Rn 0 P' X'->X'.Perm X->ys.toList=X'++Y->Q true (SortSt.mk' U_ ys P'.toArray g none)) :
  wpS (model prog w) A₀ E s (mergeAt' i) Q (SortSt.mk' U_ xs P.toArray g0 none):=by
 obtain⟨⟨sa,na,pw⟩,⟨sb,nb,p2⟩,post,eP⟩:∃a b post,P=P.take i++a::b::post:=by
  refine⟨P[i],P[i+1],P.drop (i+2),?_⟩
  rw[<-List.drop_eq_getElem_cons hi,<-List.drop_eq_getElem_cons (by omega),List.take_append_drop]
 have li:(P.take i).length=i:=by rw[List.length_take];omega
 generalize P.take i=pre at eP li
 subst eP li
 obtain⟨X1,X2,rfl,k1,k2⟩:=hR.split
 rw[Nat.zero_add] at k2
 cases k2 with
 | cons a1 a2 a3 a4=>
  cases a4 with
  | cons b1 b2 b3 b4=>
   rename_i A B' X2
   refine sP (L:=X1) (A:=A) (B:=B') (S:=X2++Y) (by rw[e];simp) hI rfl a1 b1 rfl a2 b2 a3 b3 fun C ys g c1 c2 c3=>?_
   refine h _ (X1++(C++X2)) ys g (by simp;omega) (k1.join ?_) ((c1.append_right X2).trans (by rw[List.append_assoc]) |>.append_left X1) (by rw[c3];simp)
   rw[Nat.zero_add]
   refine .cons (by rw[c1.length_eq,List.length_append,a1,b1]) (by omega) c2 ?_
   rw[<-Nat.add_assoc]
   exact b4
end
section
variable {prog:UJ} {w:UM} {A₀:UG} {E:UL->UK->Prop} {s:UK}
theorem Rn.power {pw:Nat}:∀{P:List (Nat×Nat×Nat)} {i s:Nat} {X:List U8},Rn s P X->Rn s (P.modify i fun x=>(x.1,x.2.1,pw)) X
 | [],i,s,X,h=>by rw[List.modify_nil];exact h
 | a::P,0,s,X,h=>by
  cases h with
  | cons h1 h2 h3 h4=>exact .cons h1 h2 h3 h4
 | a::P,i+1,s,X,h=>by
  cases h with
  | cons h1 h2 h3 h4=>exact .cons h1 h2 h3 h4.power
def Wt (xs:Array U8) (lo:Nat) (Z:List U8) (st:U9):Prop:=∃ys P X g,st=SortSt.mk' U_ ys (List.toArray P) g none/\ys.Perm xs/\ys.toList=X++Z/\X.length=lo/\Rn 0 P X
def Od (xs:Array U8) (x:Nat) (r:ForInStep (Option Unit×Nat)) (st:U9):Prop:=match r with
 | .done c=>c=(none,xs.size)/\∃Z,Wt xs xs.size Z st
 | .yield c=>∃lo,c=(none,lo)/\x+1<=lo/\lo<=xs.size/\∃Z,Wt xs lo Z st
def Sf (xs:Array U8) (x:Nat) (r:ForInStep (Option Unit×Unit)) (st:U9):Prop:=match r with
 | .done c=>c=(none,())/\∃ys P X g,st=SortSt.mk' U_ ys (List.toArray P) g none/\ys.Perm xs/\ys.toList=X++[]/\Rn 0 P X/\P.length<=1
 | .yield c=>c=(none,())/\∃ys P X g,st=SortSt.mk' U_ ys (List.toArray P) g none/\ys.Perm xs/\ys.toList=X++[]/\Rn 0 P X/\(P.length<=1\/P.length+(x+1)<=xs.size)
theorem Sm.lists {lo:Nat} {ys zs:Array U8} {X Y:List U8} (sm:Sm lo ys zs) (e:ys.toList=X++Y) (l:X.length=lo):zs.toList=X++zs.toList.drop lo:=by
 have:zs.toList.take lo=X:=by
  have e1:ys.toList.take lo=X:=by rw[e,<-l,List.take_left'];rfl
  rw[<-e1]
  apply List.ext_getElem?
  intro i
  by_cases c:i < lo
  ·rw[List.getElem?_take_of_lt c,List.getElem?_take_of_lt c,Array.getElem?_toList,Array.getElem?_toList]
   exact sm.2 i c
  ·rw[List.getElem?_eq_none (by rw[List.length_take];omega),List.getElem?_eq_none (by rw[List.length_take];omega)]
 exact(List.take_append_drop lo zs.toList).symm.trans (by rw[this])
theorem nU.up {zs:Array U8} {lo n:Nat} (as:nU zs lo n) (h:lo+n<=zs.size):Up ((zs.toList.drop lo).take n):=by
 unfold Up
 rw[List.pairwise_iff_getElem]
 intro i j hi hj hij
 rw[List.length_take,List.length_drop] at hi hj
 have hz:zs.toList.length=zs.size:=rfl
 have:=as i j (by omega) (by omega)
 rw[aU (Array.getElem?_eq_getElem (by omega)),aU (Array.getElem?_eq_getElem (by omega))] at this
 simpa using this
theorem qE {xs:Array U8} {Q:Unit->U9->Prop} (hI:∀p∈xs.toList,Ik p)
  (h:∀ys P g,ys.Perm xs->Up ys.toList->Q () (SortSt.mk' U_ ys P g none)):wpS (model prog w) A₀ E s sortRuns' Q (SortSt.mk' U_ xs #[] 7 none):=by
 have Oe:∀{ys:Array U8},ys.Perm xs->∀p∈ys.toList,Ik p:=fun k p hp=>hI p ((Array.perm_iff_toList_perm.mp k).mem_iff.mp hp)
 refine U' (wpS_get ?_)
 dsimp -zeta only
 extract_lets+onlyGivenNames size zE lo
 have hsize:size=xs.size:=rfl
 clear_value size zE
 subst hsize lo
 refine U' (Vb (Va (I:=fun x c st=>∃lo,c=(none,lo)/\x<=lo/\lo<=xs.size/\∃Z,Wt xs lo Z st)
  (Q:=fun c st=>c=(none,xs.size)/\∃Z,Wt xs xs.size Z st) ?a ?b ?c) ?d)
 case c=>exact⟨0,rfl,Nat.le_refl _,Nat.zero_le _,xs.toList,xs,[],[],7,rfl,.refl _,rfl,rfl,.nil⟩
 case b=>
  rintro c st ⟨lo,rfl,k1,k2,k3⟩
  have:lo=xs.size:=by omega
  subst this
  exact⟨rfl,k3⟩
 case d=>
  rintro c st ⟨rfl,Y,ys,P,X,g,rfl,k1,k2,k3,k4⟩
  have:Y=[]:=by
   have:=congrArg List.length k2
   rw[List.length_append,Array.length_toList,k1.size_eq] at this
   exact List.length_eq_zero_iff.mp (by omega)
  subst this
  have pl:=k4.len
  dsimp only
  refine U' (Vb (Va (I:=fun x c st=>c=(none,())/\∃ys P X g,st=SortSt.mk' U_ ys (List.toArray P) g none/\ys.Perm xs/\ys.toList=X++[]/\Rn 0 P X/\(P.length<=1\/P.length+x<=xs.size))
   (Q:=fun c st=>c=(none,())/\∃ys P X g,st=SortSt.mk' U_ ys (List.toArray P) g none/\ys.Perm xs/\ys.toList=X++[]/\Rn 0 P X/\P.length<=1) ?e ?f ?g) ?h)
  case g=>exact⟨rfl,ys,P,X,g,rfl,k1,k2,k4,.inr (by omega)⟩
  case f=>
   rintro c st ⟨rfl,ys,P,X,g,rfl,k1,k2,k3,k4⟩
   exact⟨rfl,ys,P,X,g,rfl,k1,k2,k3,by omega⟩
  case h=>
   rintro c st ⟨rfl,ys,P,X,g,rfl,k1,k2,k3,k4⟩
   refine Vc (h ys _ g k1 ?_)
   rw[k2,List.append_nil]
   exact k3.few k4
  case e=>
   rintro x c st _ hx ⟨rfl,ys,P,X,g,rfl,k1,k2,k3,k4⟩
   refine U' (wpS_get ?_)
   dsimp only
   by_cases c1:P.toArray.size<=1
   ·rw[if_pos c1]
    exact Vc ⟨rfl,ys,P,X,g,rfl,k1,k2,k3,c1⟩
   rw[if_neg c1]
   have Uu:¬P.length<=1:=c1
   refine Vb (Q:=Sf xs x) ?_ fun r st' h=>by cases r<;>exact h
   have sz:P.toArray.size=P.length:=rfl
   refine U' (nV ?_ k3 k2 (Oe k1) fun P' X' zs g' l1 l2 l3 l4=>?_)
   ·repeat' split
    all_goals omega
   ·rw[if_neg (by decide)]
    refine Vc ⟨rfl,zs,P',X',g',rfl,?_,l4,l2,.inr (by omega)⟩
    refine Array.Perm.trans (Array.perm_iff_toList_perm.mpr ?_) k1
    rw[l4,k2]
    exact l3.append_right _
 case a=>
  rintro x c st _ hx ⟨lo,rfl,k1,k2,Y,ys,P,X,g,rfl,k3,k4,k5,k6⟩
  have hI':=Oe k3
  dsimp -zeta only
  by_cases c1:lo >= xs.size
  ·rw[if_pos c1]
   have:lo=xs.size:=by omega
   subst this
   exact Vc ⟨rfl,Y,ys,P,X,g,rfl,k3,k4,k5,k6⟩
  rw[if_neg c1]
  refine Vb (Q:=Od xs x) ?_ fun r st' h=>by cases r<;>exact h
  have sy:=k3.size_eq
  refine U' (qD hI' (by omega) (by omega) fun n zs n1 n2 sm as=>?_)
  dsimp -zeta only
  extract_lets+onlyGivenNames n' jp
  subst n'
  have key:∀n zs,1<=n->lo+n<=xs.size->Sm lo ys zs->nU zs lo n->wpS (model prog w) A₀ E s (jp () n) (Od xs x) (SortSt.mk' U_ zs P.toArray g none):=by
   intro n zs n1 n2 sm as
   dsimp -zeta only[jp]
   clear jp
   refine U' (wpS_get ?_)
   have sz:=sm.size
   have up:=as.up (by omega)
   have ez:=sm.lists k4 k5
   have lA:((zs.toList.drop lo).take n).length=n:=by
    rw[List.length_take,List.length_drop,Array.length_toList]
    omega
   rw[<-List.take_append_drop n (zs.toList.drop lo)] at ez
   generalize (zs.toList.drop lo).take n=A at ez up lA
   generalize (zs.toList.drop lo).drop n=Z at ez
   extract_lets+onlyGivenNames lo' jp
   subst lo'
   have key:∀us P X g,Array.Perm us xs->us.toList=X++(A++Z)->X.length=lo->Rn 0 P X->wpS (model prog w) A₀ E s (jp ()) (Od xs x) (SortSt.mk' U_ us (List.toArray P) g none):=by
    intro us P X g l1 l2 l3 l4
    dsimp -zeta only[jp]
    refine U' (wpS_modify (Vc ⟨lo+n,rfl,by omega,by omega,Z,us,P++[(lo,n,0)],X++A,g,?_,l1,by rw[l2];simp,by rw[List.length_append];omega,?_⟩))
    ·show SortSt.mk' _ _ (P.toArray.push (lo,n,0)) _ _=_
     rw[List.push_toArray]
    ·refine l4.join ?_
     rw[Nat.zero_add,l3]
     have:=Rn.cons (p:=0) lA n1 up (Rn.nil (s:=lo+n))
     rw[List.append_nil] at this
     exact this
   have z1:Array.Perm zs xs:=sm.1.trans k3
   clear_value jp
   dsimp -zeta only
   split
   ·rename_i s1 Uv _ _
    extract_lets+onlyGivenNames pw
    clear_value pw
    refine U' (Vb (Va (I:=fun x c st=>c=(none,())/\Wt xs lo (A++Z) st) (Q:=fun c st=>c=(none,())/\Wt xs lo (A++Z) st) ?e ?f ?g) ?h)
    case g=>exact⟨rfl,zs,P,X,g,rfl,z1,ez,k5,k6⟩
    case f=>exact fun _ _ z=>z
    case h=>
     rintro c st ⟨rfl,us,P,X,g,rfl,l1,l2,l3,l4⟩
     dsimp only
     refine U' (wpS_modify ?_)
     have:=key us (P.modify (P.length - 1) fun x=>(x.1,x.2.1,pw)) X g l1 l2 l3 l4.power
     rw[<-List.modify_toArray] at this
     exact this
    case e=>
     rintro y c st _ hy ⟨rfl,us,P,X,g,rfl,l1,l2,l3,l4⟩
     refine U' (wpS_get ?_)
     dsimp only
     split
     ·rename_i o1 o2 older oe
      by_cases c2:older<=pw
      ·rw[if_pos c2]
       exact Vc ⟨rfl,us,P,X,g,rfl,l1,l2,l3,l4⟩
      ·rw[if_neg c2]
       have hi:P.toArray.size - 2+1 < P.length:=by
        have sz:P.toArray.size=P.length:=rfl
        by_cases c3:P.toArray.size > 1
        ·omega
        ·rw[if_neg c3] at oe
         cases oe
       refine U' (nV hi l4 l2 (Oe l1) fun P' X' zs g' q1 q2 q3 q4=>?_)
       rw[if_neg (by decide)]
       refine Vc ⟨rfl,zs,P',X',g',rfl,Array.Perm.trans (Array.perm_iff_toList_perm.mpr ?_) l1,q4,by rw[q3.length_eq];exact l3,q2⟩
       rw[q4,l2]
       exact q3.append_right _
     ·exact Vc ⟨rfl,us,P,X,g,rfl,l1,l2,l3,l4⟩
   ·exact key zs P X g z1 ez k5 k6
  by_cases c2:n < zE
  ·rw[if_pos c2]
   have sz:=sm.size
   refine U' (wpS_lift (wpAny_rule ⟨rfl,?_⟩))
   refine U' (GG (sm.ik hI') (by omega) (by omega) as fun us KY Sg=>?_)
   rw[if_neg (by decide)]
   exact key _ us (by omega) (by omega) (sm.trans KY) Sg
  ·rw[if_neg c2]
   exact key n zs n1 (by omega) sm as
end
section
variable {prog:UJ} {w:UM} {A:UG} {E:UL->UK->Prop} {s:UK}
theorem KZ {xs:Array U8} (h:Up xs.toList):SortedTo xs xs.size:=fun _ _ h1 h2=>jD h h1 h2
theorem sQ {a:UE} {vs:List UL} {ns:List Int} {n:Nat} {P:PySem.Fin->UK->Prop} (ho:s.heap.get? a=some (seqObj "list" vs.toArray n)) (hI:IntsAre vs ns) (h2:2<=vs.length) (hz:vs.length<=UX)
  (k:∀(out:Array UL) (ms:List Int),IntsAre out.toList ms->ms.Perm ns->ms.Pairwise (· <=·)->P (.done (.ret .none)) { s with heap:=sortedHeap s.heap a vs out }):UZ (model prog w) A (Builtin.«list.sort» ⟨[.ref a],[]⟩) P E s:=by
 rw[list_sort_plain]
 have lt:a < s.heap.objs.size:=Heap.lt_size ho
 have z:vs.toArray.size=vs.length:=List.size_toArray
 refine U0 (listItems_at ho rfl (U0 (listUpdate_at ho rfl ?_ (by rw[z];exact hz) (Nat.zero_le _))))
 obtain⟨e,o1⟩:∃e,(s.heap.update a (Obj.mapSeq fun _=>#[])).get? a=some (seqObj "list" #[] e):=⟨_,get?_update_seq ho (fun _=>#[])⟩
 refine U0 (seqEpoch_at o1 rfl (U0 (wpAny_newTuple ?_ hz)))
 refine U0 (U4 ?_ (Nat.zero_le _))
 refine U2 ?_
 have o6:(((s.heap.update a (Obj.mapSeq fun _=>#[])).push (seqObj "tuple" vs.toArray 0)).push (seqObj "list" #[] 0)).get? a=some (seqObj "list" #[] e):=by
  rw[Heap.get?_push_ne,Heap.get?_push_ne]
  ·exact o1
  ·rw[Heap.size_update];exact Nat.ne_of_lt lt
  ·rw[size_push',Heap.size_update];exact Nat.ne_of_lt (Nat.lt_succ_of_lt lt)
 show UZ (model prog w) A _ P E { s with heap:=((s.heap.update a (Obj.mapSeq fun _=>#[])).push (seqObj "tuple" vs.toArray 0)).push (seqObj "list" #[] 0) }
 have c2:¬vs.toArray.size < 2:=by omega
 obtain⟨x,y,r,rfl⟩:∃x y r,vs=x::y::r:=by
  match vs,h2 with
  | x::y::r,_=>exact⟨x,y,r,rfl⟩
 rw[if_neg c2,if_neg c2,keyKind_ints hI]
 refine U0 (U6 ?_)
 refine U0 (U3 (qE (xs:=pairsOf (x::y::r)) (Q:=fun _ st=>∃ys Pd g,st=SortSt.mk' U_ ys Pd g none/\ys.Perm (pairsOf (x::y::r))/\Up ys.toList) (fun p hp=>hI.intKeys p hp) fun ys Pd g p u=>⟨ys,Pd,g,rfl,p,u⟩) ?_ fun _ _ e=>e)
 rintro⟨⟨⟩,st⟩ s' ⟨rfl,ys,Pd,g,rfl,pm,up⟩
 obtain⟨ms,q1,q2,q3⟩:=sorted_out hI pm (by rw[<-pm.size_eq];exact KZ up)
 dsimp only
 refine U0 (seqEpoch_at o6 rfl ?_)
 refine U0 (listUpdate_at o6 rfl ?_ (Nat.zero_le _) (by rw[Array.size_map,pm.size_eq,pairsOf_size];omega))
 simp only[bne_self_eq_false,Bool.false_eq_true,if_false]
 exact U6 (k _ ms q1 q2 q3)
theorem qF {l:UE} {vs:List UL} {ns:List Int} {Q:UL->UK->Prop} (hl:s.heap.IsList l vs.toArray) (hI:IntsAre vs ns) (h2:2<=vs.length) (hz:vs.length<=UX)
  (k:∀(out:Array UL) (ms:List Int),IntsAre out.toList ms->ms.Perm ns->ms.Pairwise (· <=·)->Q (.ref (s.heap.objs.size+1)) { s with heap:=sortedAll s.heap vs out }):UZ (model prog w) A (call (.builtin "sorted") [.ref l]) Q E s:=by
 refine Calls.call_function_entry kind_sorted plain_sorted entry_sorted (args_sorted1 _) ?_
 unfold Builtin.«sorted»
 refine U0 (m:=checkCount "sorted" 1 1 _) (U6 (U0 (collect_list hl ?_ hz)))
 refine U0 (U4 ?_ hz)
 have z:((s.heap.push (seqObj "list" #[] 0)).update s.heap.objs.size (Obj.mapSeq (· ++vs.toArray))).objs.size=s.heap.objs.size+1:=by rw[Heap.size_update,size_push']
 have o:(((s.heap.push (seqObj "list" #[] 0)).update s.heap.objs.size (Obj.mapSeq (· ++vs.toArray))).push (seqObj "list" vs.toArray 0)).get? (s.heap.objs.size+1)=some (seqObj "list" vs.toArray 0):=by
  rw[<-z]
  exact Heap.get?_push_size _ rfl
 show UZ _ _ _ _ _ { s with heap:=((s.heap.push (seqObj "list" #[] 0)).update s.heap.objs.size (Obj.mapSeq (· ++vs.toArray))).push (seqObj "list" vs.toArray 0) }
 rw[z]
 refine U0 (U2 (wpAny_call_entry slot_list_sort ⟨_,o,rfl⟩ entry_list_sort (sQ o hI h2 hz fun out ms a1 a2 a3=>⟨_,rfl,?_⟩) (args_list_sort _)))
 exact U6 ⟨_,rfl,k out ms a1 a2 a3⟩
theorem sR {l:UE} {vs:List UL} {ns:List Int} {Q:UL->UK->Prop} (hl:s.heap.IsList l vs.toArray) (hI:IntsAre vs ns) (hz:vs.length<=UX)
  (k:∀(out:Array UL) (ms:List Int),IntsAre out.toList ms->ms.Perm ns->ms.Pairwise (· <=·)->Q (.ref (s.heap.objs.size+1)) { s with heap:=sortedAll s.heap vs out }):UZ (model prog w) A (call (.builtin "sorted") [.ref l]) Q E s:=by
 by_cases c:2<=vs.length
 ·exact qF hl hI c hz k
 ·exact sorted_ints hl hI (by omega) k
end
end JL
namespace J
open PySem PySem.Spec PyProof.Rows L2
section
variable {X:Cx}
def intsOf:List Wv->Option (List Int)
  | []=>some []
  | .int b::r=>(match intsOf r with | some l=>some (b::l) | none=>none)
  | _=>none
theorem cB:∀ns:List Int,intsOf (ns.map Wv.int)=some ns
  | []=>rfl
  | n::r=>by rw[List.map_cons];unfold intsOf;rw[cB r]
theorem cC {K:PySem.W.Frag} {m:Mp} {H:Hp}:∀{ws:List Wv} {xs:List V} {bs:List Int},ah K m H ws xs->intsOf ws=some bs->xs=bs.map V.int
  | [],xs,bs,r,h=>by
    unfold ah at r
    cases h
    exact r
  | w::ws,xs,bs,r,h=>by
    unfold ah at r
    obtain⟨x,t,rfl,r1,r2⟩:=r
    cases w with
    | int b=>
      unfold intsOf at h
      cases e:intsOf ws with
      | none=>rw[e] at h;cases h
      | some l=>
        rw[e] at h
        cases h
        unfold ae at r1
        rw[r1,cC r2 e]
        rfl
    | _=>cases h
theorem eh:∀{ns:List Int} {its:List UL},Vals (ns.map V.int) its->∃xs:List (Int×Tok),its=xs.map (fun p=>Value.int p.1 p.2)/\xs.map (·.1)=ns
  | [],its,r=>by cases r;exact⟨[],rfl,rfl⟩
  | n::ns,its,r=>by
    cases r with
    | cons h t=>
      obtain⟨tk,rfl⟩:=h
      obtain⟨xs,e1,e2⟩:=eh t
      exact⟨(n,tk)::xs,by rw[e1];rfl,by rw[<-e2];rfl⟩
theorem intsAre_of:∀xs:List (Int×Tok),IntsAre (xs.map fun p=>Value.int p.1 p.2) (xs.map (·.1))
  | []=> .nil
  | p::r=> .cons p.1 p.2 (intsAre_of r)
theorem j5:∀{vs:List UL} {ns:List Int},IntsAre vs ns->Vals (ns.map V.int) vs
  | _,_,.nil=> .nil
  | _,_,.cons n t r=> .cons ⟨t,rfl⟩ (j5 r)
theorem fJ (xs:List (Int×Tok)) (i:Nat):numAt xs.toArray i=(xs.map (·.1)).getD i 0:=by
  unfold numAt
  rw[List.getElem?_toArray,List.getD_eq_getElem?_getD,List.getElem?_map]
theorem lU (xs:List (Int×Tok)):∀k,preSum (numAt xs.toArray) k=((xs.map (·.1)).take k).sum
  | 0=>by simp[preSum]
  | k+1=>by
    unfold preSum
    rw[lU xs k,fJ]
    rw[PySem.sum_take_succ]
theorem wI (hc:X.calm=true):bL X (.builtin "sum") (fun xs H Q=>∃(p:UE) (ns:List Int),xs=[.ref p]/\gq X.K H p (ns.map V.int)/\Q (.int ns.sum) H):=by
  intro pins s σ H xs us Q I r h
  obtain⟨p,ns,rfl,hq,q⟩:=h
  obtain⟨u,rfl,rx⟩:=vals1 r
  cases rx
  obtain⟨its,r',pl,hz⟩:=I.list hq
  obtain⟨xs,rfl,rfl⟩:=eh r'
  have hl:=pl.isList
  have e:(xs.map fun p=>Value.int p.1 p.2).toArray=intItems xs.toArray:=by unfold intItems;simp
  rw[e] at hl
  refine sum_intListG (I.ok.hd hc) hl fun h' tk t' hk=>⟨.int _,H,I.kept hk,⟨t',?_⟩,q⟩
  rw[lU,List.take_of_length_le (by simp)]
def sS:List Wv->Hs->Re Wv
  | [.ref l],st=>match af st l with
    | some ws=>(match intsOf ws with | some ns=> .ok (.int ns.sum) st | none=> .bad)
    | none=> .bad
  | _,_=> .bad
theorem GH (hc:X.calm=true):bx X (.builtin "sum") sS:=⟨_,wI hc,fun ws vs st H m Q S rs p=>by
  match ws,rs,p with
  | [],rs,p=>exact False.elim p
  | x::y::t,rs,p=>cases x<;>exact False.elim p
  | [x],rs,p=>
    obtain⟨v,rfl,r1⟩:=ie rs
    cases x with
    | ref l=>
      unfold sS at p
      unfold ae at r1
      obtain⟨a,rfl,hl⟩:=r1
      cases e:af st l with
      | none=>simp only[e] at p;exact False.elim p
      | some ws=>
        simp only[e] at p
        cases e2:intsOf ws with
        | none=>simp only[e2] at p;exact False.elim p
        | some bs=>
          simp only[e2] at p
          obtain⟨xs,q1,q2⟩:=S.read hl e
          have q3:=cC q2 e2
          subst q3
          exact⟨a,bs,rfl,q1,p _ m H Ext.refl S mkInt⟩
    | _=>exact False.elim p⟩
def fA (n:Int) (r:List Int):Int:=r.foldl (fun a b=>if b > a then b else a) n
def fB (n:Int) (r:List Int):Int:=r.foldl (fun a b=>if b < a then b else a) n
theorem lV:∀(r:List Int) (n:Int),fA n r∈n::r/\∀a∈n::r,a<=fA n r
  | [],n=>by simp[fA]
  | b::r,n=>by
    have e:fA n (b::r)=fA (if b > n then b else n) r:=rfl
    obtain⟨h1,h2⟩:=lV r (if b > n then b else n)
    rw[e]
    constructor
    · rcases List.mem_cons.mp h1 with z | z
      · rw[z];split<;>simp
      · simp[z]
    · intro a ha
      have hn:n<=fA (if b > n then b else n) r/\b<=fA (if b > n then b else n) r:=by
        have q:=h2 _ List.mem_cons_self
        revert q
        split<;>intro q<;>constructor<;>omega
      rcases List.mem_cons.mp ha with z | z
      · rw[z];exact hn.1
      · rcases List.mem_cons.mp z with z | z
        · rw[z];exact hn.2
        · exact h2 a (List.mem_cons_of_mem _ z)
theorem lW:∀(r:List Int) (n:Int),fB n r∈n::r/\∀a∈n::r,fB n r<=a
  | [],n=>by simp[fB]
  | b::r,n=>by
    have e:fB n (b::r)=fB (if b < n then b else n) r:=rfl
    obtain⟨h1,h2⟩:=lW r (if b < n then b else n)
    rw[e]
    constructor
    · rcases List.mem_cons.mp h1 with z | z
      · rw[z];split<;>simp
      · simp[z]
    · intro a ha
      have hn:fB (if b < n then b else n) r<=n/\fB (if b < n then b else n) r<=b:=by
        have q:=h2 _ List.mem_cons_self
        revert q
        split<;>intro q<;>constructor<;>omega
      rcases List.mem_cons.mp ha with z | z
      · rw[z];exact hn.1
      · rcases List.mem_cons.mp z with z | z
        · rw[z];exact hn.2
        · exact h2 a (List.mem_cons_of_mem _ z)
theorem uO {n M:Int} {r:List Int} (h:M∈n::r) (k:∀a∈n::r,a<=M):M=fA n r:=by
  obtain⟨h1,h2⟩:=lV r n
  have:=h2 M h
  have:=k _ h1
  omega
theorem uP {n M:Int} {r:List Int} (h:M∈n::r) (k:∀a∈n::r,M<=a):M=fB n r:=by
  obtain⟨h1,h2⟩:=lW r n
  have:=h2 M h
  have:=k _ h1
  omega
theorem hG {l:List Int} {i:Nat} (h:i < l.length):l.getD i 0∈l:=by
  rw[List.getD_eq_getElem?_getD,List.getElem?_eq_getElem h]
  exact List.getElem_mem h
theorem wJ (hc:X.calm=true):bL X (.builtin "max") (fun xs H Q=>∃(p:UE) (n:Int) (ns:List Int),xs=[.ref p]/\gq X.K H p ((n::ns).map V.int)/\Q (.int (fA n ns)) H):=by
  intro pins s σ H xs us Q I r h
  obtain⟨p,n,ns,rfl,hq,q⟩:=h
  obtain⟨u,rfl,rx⟩:=vals1 r
  cases rx
  obtain⟨its,r',pl,hz⟩:=I.list hq
  obtain⟨xs,rfl,e0⟩:=eh r'
  have hl:=pl.isList
  have e:(xs.map fun p=>Value.int p.1 p.2).toArray=intItems xs.toArray:=by unfold intItems;simp
  rw[e] at hl
  have hsz:xs.length=(n::ns).length:=by rw[<-e0];simp
  have hs0:0 < xs.toArray.size:=by simp[hsz]
  refine max_intList (I.ok.hd hc) hl hs0 fun v h' tk hv hk=>?_
  obtain⟨t,rfl⟩:=intItems_at hv
  obtain⟨h1,h2⟩:=PySem.argBest_gt (numAt xs.toArray) (xs.toArray.size - 1)
  refine⟨.int _,H,I.kept hk,⟨t,?_⟩,q⟩
  congr 1
  have hn:=fun i=>fJ xs i
  rw[e0] at hn
  refine uO ?_ fun a ha=>?_
  · rw[hn]
    refine hG ?_
    have:xs.toArray.size=(n::ns).length:=by simp[hsz]
    omega
  · obtain⟨j,hj,rfl⟩:=List.mem_iff_getElem.mp ha
    have q2 := h2 j (by have : xs.toArray.size = (n :: ns).length := by simp [hsz]
                        omega)
    rw[hn j,List.getD_eq_getElem?_getD,List.getElem?_eq_getElem hj] at q2
    exact q2
theorem wK (hc:X.calm=true):bL X (.builtin "min") (fun xs H Q=>∃(p:UE) (n:Int) (ns:List Int),xs=[.ref p]/\gq X.K H p ((n::ns).map V.int)/\Q (.int (fB n ns)) H):=by
  intro pins s σ H xs us Q I r h
  obtain⟨p,n,ns,rfl,hq,q⟩:=h
  obtain⟨u,rfl,rx⟩:=vals1 r
  cases rx
  obtain⟨its,r',pl,hz⟩:=I.list hq
  obtain⟨xs,rfl,e0⟩:=eh r'
  have hl:=pl.isList
  have e:(xs.map fun p=>Value.int p.1 p.2).toArray=intItems xs.toArray:=by unfold intItems;simp
  rw[e] at hl
  have hsz:xs.length=(n::ns).length:=by rw[<-e0];simp
  have hs0:0 < xs.toArray.size:=by simp[hsz]
  refine min_intList (I.ok.hd hc) hl hs0 fun v h' tk hv hk=>?_
  obtain⟨t,rfl⟩:=intItems_at hv
  obtain⟨h1,h2⟩:=PySem.argBest_lt (numAt xs.toArray) (xs.toArray.size - 1)
  refine⟨.int _,H,I.kept hk,⟨t,?_⟩,q⟩
  congr 1
  have hn:=fun i=>fJ xs i
  rw[e0] at hn
  refine uP ?_ fun a ha=>?_
  · rw[hn]
    refine hG ?_
    have:xs.toArray.size=(n::ns).length:=by simp[hsz]
    omega
  · obtain⟨j,hj,rfl⟩:=List.mem_iff_getElem.mp ha
    have q2 := h2 j (by have : xs.toArray.size = (n :: ns).length := by simp [hsz]
                        omega)
    rw[hn j,List.getD_eq_getElem?_getD,List.getElem?_eq_getElem hj] at q2
    exact q2
def j6:List Wv->Hs->Re Wv
  | [.ref l],st=>match af st l with
    | some ws=>(match intsOf ws with | some (n::r)=> .ok (.int (fA n r)) st | _=> .bad)
    | none=> .bad
  | ws,st=>KN ws st
def j7:List Wv->Hs->Re Wv
  | [.ref l],st=>match af st l with
    | some ws=>(match intsOf ws with | some (n::r)=> .ok (.int (fB n r)) st | _=> .bad)
    | none=> .bad
  | ws,st=>KO ws st
theorem bx.or {f:UL} {op op':List Wv->Hs->Re Wv} (g:List Wv->Hs->Re Wv) (h:bx X f op) (h':bx X f op') (k:∀ws st,g ws st=op ws st\/g ws st=op' ws st):bx X f g:=by
  obtain⟨r,h1,h2⟩:=h
  obtain⟨r',D3,h2'⟩:=h'
  refine⟨_,h1.or D3,fun ws vs st H m Q S rs p=>?_⟩
  rcases k ws st with e | e
  · rw[e] at p;exact .inl (h2 ws vs st H m Q S rs p)
  · rw[e] at p;exact .inr (h2' ws vs st H m Q S rs p)
def zF:List Wv->Hs->Re Wv
  | [.ref l],st=>match af st l with
    | some ws=>(match intsOf ws with | some (n::r)=> .ok (.int (fA n r)) st | _=> .bad)
    | none=> .bad
  | _,_=> .bad
def zG:List Wv->Hs->Re Wv
  | [.ref l],st=>match af st l with
    | some ws=>(match intsOf ws with | some (n::r)=> .ok (.int (fB n r)) st | _=> .bad)
    | none=> .bad
  | _,_=> .bad
theorem CN (hc:X.calm=true):bx X (.builtin "max") zF:=⟨_,wJ hc,fun ws vs st H m Q S rs p=>by
  match ws,rs,p with
  | [],rs,p=>exact False.elim p
  | x::y::t,rs,p=>cases x<;>exact False.elim p
  | [x],rs,p=>
    obtain⟨v,rfl,r1⟩:=ie rs
    cases x with
    | ref l=>
      unfold zF at p
      unfold ae at r1
      obtain⟨a,rfl,hl⟩:=r1
      cases e:af st l with
      | none=>simp only[e] at p;exact False.elim p
      | some ws=>
        simp only[e] at p
        cases e2:intsOf ws with
        | none=>simp only[e2] at p;exact False.elim p
        | some bs=>
          cases bs with
          | nil=>simp only[e2] at p;exact False.elim p
          | cons n bs=>
            simp only[e2] at p
            obtain⟨xs,q1,q2⟩:=S.read hl e
            have q3:=cC q2 e2
            subst q3
            exact⟨a,n,bs,rfl,q1,p _ m H Ext.refl S mkInt⟩
    | _=>exact False.elim p⟩
theorem CO (hc:X.calm=true):bx X (.builtin "min") zG:=⟨_,wK hc,fun ws vs st H m Q S rs p=>by
  match ws,rs,p with
  | [],rs,p=>exact False.elim p
  | x::y::t,rs,p=>cases x<;>exact False.elim p
  | [x],rs,p=>
    obtain⟨v,rfl,r1⟩:=ie rs
    cases x with
    | ref l=>
      unfold zG at p
      unfold ae at r1
      obtain⟨a,rfl,hl⟩:=r1
      cases e:af st l with
      | none=>simp only[e] at p;exact False.elim p
      | some ws=>
        simp only[e] at p
        cases e2:intsOf ws with
        | none=>simp only[e2] at p;exact False.elim p
        | some bs=>
          cases bs with
          | nil=>simp only[e2] at p;exact False.elim p
          | cons n bs=>
            simp only[e2] at p
            obtain⟨xs,q1,q2⟩:=S.read hl e
            have q3:=cC q2 e2
            subst q3
            exact⟨a,n,bs,rfl,q1,p _ m H Ext.refl S mkInt⟩
    | _=>exact False.elim p⟩
theorem CP (hc:X.calm=true):bx X (.builtin "max") j6:=bx.or j6 (CN hc) (Gn hc) fun ws st=>by
  unfold j6 zF
  split
  · exact .inl rfl
  · exact .inr rfl
theorem CQ (hc:X.calm=true):bx X (.builtin "min") j7:=bx.or j7 (CO hc) (Gp hc) fun ws st=>by
  unfold j7 zG
  split
  · exact .inl rfl
  · exact .inr rfl
def insI (n:Int):List Int->List Int
  | []=>[n]
  | a::r=>if n<=a then n::a::r else a::insI n r
def eS:List Int->List Int
  | []=>[]
  | a::r=>insI a (eS r)
theorem insI_perm (n:Int):∀l:List Int,(insI n l).Perm (n::l)
  | []=> .refl _
  | a::r=>by
    unfold insI
    split
    · exact .refl _
    · exact((insI_perm n r).cons a).trans (.swap n a r)
theorem dR:∀l:List Int,(eS l).Perm l
  | []=> .nil
  | a::r=>(insI_perm a (eS r)).trans ((dR r).cons a)
theorem qG (n:Int):∀l:List Int,l.Pairwise (· <=·)->(insI n l).Pairwise (· <=·)
  | [],_=>by simp[insI]
  | a::r,h=>by
    unfold insI
    rw[List.pairwise_cons] at h
    split
    · rename_i c
      rw[List.pairwise_cons,List.pairwise_cons]
      refine⟨fun b hb=>?_,h⟩
      rcases List.mem_cons.mp hb with z | z
      · rw[z];exact c
      · have:=h.1 b z;omega
    · rename_i c
      rw[List.pairwise_cons]
      refine⟨fun b hb=>?_,qG n r h.2⟩
      rcases List.mem_cons.mp ((insI_perm n r).mem_iff.mp hb) with z | z
      · rw[z];omega
      · exact h.1 b z
theorem jg:∀l:List Int,(eS l).Pairwise (· <=·)
  | []=> .nil
  | a::r=>qG a _ (jg r)
theorem CT {a b:List Int} (h:a.Perm b) (ha:a.Pairwise (· <=·)) (hb:b.Pairwise (· <=·)):a=b :=
  List.Perm.eq_of_pairwise (fun _ _ _ _ h1 h2=>by omega) ha hb h
theorem wL:bL X (.builtin "sorted") (fun xs H Q=>∃(p:UE) (ns:List Int),xs=[.ref p]/\gq X.K H p (ns.map V.int)/\ns.length<=UX/\∀l,H l=none->Q (.ref l) (upd H l (.lst ((eS ns).map V.int)))):=by
  intro pins s σ H xs us Q I r h
  obtain⟨p,ns,rfl,hq,h64,q⟩:=h
  obtain⟨u,rfl,rx⟩:=vals1 r
  cases rx
  obtain⟨its,r',pl,hz⟩:=I.list hq
  have hlen:=r'.length
  obtain⟨xs,rfl,rfl⟩:=eh r'
  refine JL.sR pl.isList (intsAre_of xs) (by simpa using h64) fun out ns' a1 a2 a3=>?_
  have e:ns'=eS (xs.map (·.1)):=CT (a2.trans (dR _).symm) a3 (jg _)
  subst e
  obtain⟨n,hat⟩:=sortedAll_at s.heap (xs.map fun p=>Value.int p.1 p.2) out
  have hz':((eS (xs.map (·.1))).map V.int).length<=UX:=by
    rw[List.length_map,(dR _).length_eq]
    simpa using hz
  refine⟨.ref (s.heap.objs.size+1),_,I.laid (t':=s.toks) (fun _ _=>sortedAll_old) (Nat.le_succ _) (show bB X.prog X.w _ _ _ (.lst _) from⟨hz',out.toList,n,j5 a1,?_⟩),rfl,q _ (I.hok.fresh (Nat.le_succ _))⟩
  rw[hat]
def sT:List Wv->Hs->Re Wv
  | [.ref l],st=>match af st l with
    | some ws=>(match intsOf ws with | some ns=>if ns.length < 4096 then .ok (.ref st.length) (st++[.lst ((eS ns).map Wv.int)]) else .bad | none=> .bad)
    | none=> .bad
  | _,_=> .bad
theorem GJ:bx X (.builtin "sorted") sT:=⟨_,wL,fun ws vs st H m Q S rs p=>by
  match ws,rs,p with
  | [],rs,p=>exact False.elim p
  | x::y::t,rs,p=>cases x<;>exact False.elim p
  | [x],rs,p=>
    obtain⟨v,rfl,r1⟩:=ie rs
    cases x with
    | ref l=>
      unfold sT at p
      unfold ae at r1
      obtain⟨a,rfl,hl⟩:=r1
      cases e:af st l with
      | none=>simp only[e] at p;exact False.elim p
      | some ws=>
        simp only[e] at p
        cases e2:intsOf ws with
        | none=>simp only[e2] at p;exact False.elim p
        | some bs=>
          simp only[e2] at p
          by_cases c:bs.length < 4096
          · rw[if_pos c] at p
            obtain⟨xs,q1,q2⟩:=S.read hl e
            have q3:=cC q2 e2
            subst q3
            exact⟨a,bs,rfl,q1,Nat.le_trans (Nat.le_of_lt c) (by rw[sizeLine_eq];decide),fun q hq=>dX p Ext.refl S (ah.ints _) q hq⟩
          · rw[if_neg c] at p;exact False.elim p
    | _=>exact False.elim p⟩
end
end J
namespace J
open PySem PySem.Spec PyProof.Rows L2
section
variable {X:Cx}
theorem nW {z:PySem.Str}:PyData.strOk z=true↔∀c∈z.cps.toList,c < 1114112:=by
 unfold PyData.strOk
 rw[Array.all_eq_true_iff_forall_mem]
 constructor
 ·intro h c hc
  simpa using h c (Array.mem_toList_iff.mp hc)
 ·intro h c hc
  simpa using h c (Array.mem_toList_iff.mpr hc)
end
end J
namespace J
open PySem PySem.Spec PyProof.Rows L2
section
variable {X:Cx}
theorem GK:Bq X (fun x lo hi H Q=>∃z,x= .str z/\z.length<=UX/\Q (.str (Txt.slice z lo hi)) H):=by
 intro pins s σ H x v vl vu lo hi sl Q I rx hs pl pu h
 obtain⟨z,rfl,hz,q⟩:=h
 obtain⟨t,rfl⟩:=rx
 have fin:∀t' k,EP X pins σ Q (.str (Txt.slice z lo hi) t') { s with toks:=k }:=fun t' k=>⟨.str _,H,I.tok k,⟨t',rfl⟩,q⟩
 refine⟨"str",_,PySem.F.slot_str_getitem.lookup,typeIs_str _ _ _,?_⟩
 have hl:=Nat.le_trans (Txt.slice_le z lo hi) hz
 cases pl with
 | none=>
  cases pu with
  | none=>exact wpAny_getItem_str_slice (l:=none) (u:=none) (st:=none) hs rfl (post_val_or_str ⟨hl,fin⟩)
  | int j tj=>exact wpAny_getItem_str_slice (l:=none) (u:=some (j,tj)) (st:=none) hs rfl (post_val_or_str ⟨hl,fin⟩)
 | int i ti=>
  cases pu with
  | none=>exact wpAny_getItem_str_slice (l:=some (i,ti)) (u:=none) (st:=none) hs rfl (post_val_or_str ⟨hl,fin⟩)
  | int j tj=>exact wpAny_getItem_str_slice (l:=some (i,ti)) (u:=some (j,tj)) (st:=none) hs rfl (post_val_or_str ⟨hl,fin⟩)
theorem wM {z:PySem.Str} {lo hi:Option Int} {c:Nat} (h:c∈(Txt.slice z lo hi).cps.toList):c∈z.cps.toList:=by
 unfold Txt.slice at h
 split at h
 ·exact h
 ·simp only[List.mem_filterMap] at h
  obtain⟨i,_,e⟩:=h
  rw[Array.getElem?_eq_some_iff] at e
  obtain⟨hi,rfl⟩:=e
  exact Array.mem_toList_iff.mpr (Array.getElem_mem hi)
theorem qH {z:PySem.Str} {lo hi:Option Int} (h:PyData.strOk z=true):PyData.strOk (Txt.slice z lo hi)=true:=by
 rw[nW] at h ⊢
 exact fun c hc=>h c (wM hc)
end
section
open HT
theorem mO {prog:UJ} {w:UM} {A:UG} {E:UL->UK->Prop} {s:UK} {t sl:UE} {us:Array UL} {vl vu:UL} {lo hi:Option Int} {Q:UL->UK->Prop} (ht:IsTup s.heap t us) (hs:s.heap.IsSliceOf sl vl vu .none) (pl:IsPart vl lo) (pu:IsPart vu hi)
  (hw:bQ us.size 0 lo=0/\bQ us.size us.size hi=us.size) (h:Q (.ref t) s):UZ (model prog w) A (getItem (.ref t) (.ref sl)) Q E s:=by
 obtain⟨os,o1,o2,o3⟩:=id hs
 have tys:s.TypeIs (.ref sl) "slice":=⟨os,o1,o2⟩
 unfold getItem;try with_reducible refine U2 ?_
 first | refine U0 (U6 ?_) | skip
 refine U0 (wpAny_sequenceKey ht.typeIs (by decide) ?_);refine U0 (wpAny_callSpecial?_slot (name:=Str.ofString "__getitem__") ht.typeIs PyProof.Rows.slot_tuple_getitem (wpAny_call_entry PyProof.Rows.slot_tuple_getitem ht.typeIs entry_tuple_getitem ?_ (args_tuple_getitem _ _)))
 show UZ _ _ (Builtin.Tuple.tupleItemsOf (.ref t) >>= _) _ _ _;refine U0 (tupleItemsOf_ ht ?_);refine U0 (wpAny_typeOf tys ?_)
 rw[if_pos (by decide)];refine U0 (fF hs pl pu ?_)
 rw[hw.1,hw.2]
 have yes:((((0:Nat):Int)) == 0&&(1:Int) == 1&&(us.size - 0) == us.size)=true:=by simp
 show UZ _ _ (if((((0:Nat):Int)) == 0&&(1:Int) == 1&&(us.size - 0) == us.size)=true then _ else _) _ _ s
 rw[if_pos yes]
 refine U0 (m:=Builtin.Tuple.tupleIsExact _) ?_
 unfold Builtin.Tuple.tupleIsExact
 refine U0 (wpAny_typeOf ht.typeIs (U6 ?_))
 rw[if_pos (by decide)]
 exact U0 (wpAny_rule (U6 ⟨_,rfl,U6 h⟩))
end
section
variable {X:Cx}
def Of (K:PySem.W.Frag):V->Option Int->Option Int->Hp->VK->Prop:=fun x lo hi H Q=>∃a xs,x= .ref a/\dq K H a xs/\(HT.bQ xs.length 0 lo=0/\HT.bQ xs.length xs.length hi=xs.length)/\Q (.ref a) H
theorem zH:Bq X (Of X.K):=by
 intro pins s σ H x v vl vu lo hi sl Q I rx hs pl pu h
 obtain⟨a,xs,rfl,hx,hw,q⟩:=h
 cases rx
 obtain⟨its,r,ht,hz⟩:=I.tuple hx
 have n:its.toArray.size=xs.length:=by rw[List.size_toArray];exact r.length.symm
 exact⟨"tuple",_,PyProof.Rows.slot_tuple_getitem.lookup,ht.typeIs,mO ht hs pl pu (by rw[n];exact hw) ⟨.ref a,H,I,rfl,q⟩⟩
def wN (n:Nat) (lo hi:Option Int):Prop:=HT.bQ n 0 lo=0/\HT.bQ n n hi=n
instance {n:Nat} {lo hi:Option Int}:Decidable (wN n lo hi):=inferInstanceAs (Decidable (HT.bQ n 0 lo=0/\HT.bQ n n hi=n))
def zI (x:Wv) (lo hi:Option Int) (st:Hs):Re Wv:=match x with
 | .str z=>if z.length<=lim then .ok (.str (Txt.slice z lo hi)) st else .bad
 | .tup ws=>if wN ws.length lo hi then .ok (.tup ws) st else Kt (.tup ws) lo hi st
 | x=>Kt x lo hi st
def hJ (ga:GE) (gl gh:GO):GE:=fun ρ st=>(ga ρ st).bind fun x st1=>(gl ρ st1).bind fun lo st2=>(gh ρ st2).bind fun hi st3=>zI x lo hi st3
theorem wO {a:Expr} {lo hi:Option Expr} {ga:GE} {gl gh:GO} {pos p2:Pos} (ha:JE X a ga) (hl:JO X lo gl) (hh:JO X hi gh):JE X (.Subscript a (.Slice lo hi none p2) pos) (hJ ga gl gh):=by
 have hS:JE X (.Subscript a (.Slice lo hi none p2) pos) (fun ρ st=>(ga ρ st).bind fun x st1=>(gl ρ st1).bind fun lo st2=>(gh ρ st2).bind fun hi st3=>match x with | .str z=>if z.length<=lim then .ok (.str (Txt.slice z lo hi)) st3 else .bad | _=> .bad):=by
  refine JE.of (lp GK az nI nI) fun ρ st σ H m Q S R p=>?_
  refine ha.go S R (ar.bind p) fun x st1 v m1 H1 p1 e1 S1 rx=>?_
  refine hl.go S1 (R.mono e1) ((ar.bind p1).imp e1 fun _ _ q=>q) fun l st2 m2 H2 p2 e2 S2=>?_
  refine hh.go S2 (R.mono (e1.trans e2)) ((ar.bind p2).imp (e1.trans e2) fun _ _ q=>q) fun h st3 m3 H3 p3 e3 S3=>?_
  have we:=e1.trans (e2.trans e3)
  cases x with
  | str z=>
   dsimp only at p3
   by_cases c:z.length<=lim
   ·rw[if_pos c] at p3
    unfold ae at rx
    obtain⟨rfl,hz⟩:=rx
    exact⟨z,rfl,cx c,p3 _ m3 H3 we S3 (mkStr (qH hz))⟩
   ·rw[if_neg c] at p3;exact False.elim p3
  | _=>exact False.elim p3
 have hW:JE X (.Subscript a (.Slice lo hi none p2) pos) (fun ρ st=>(ga ρ st).bind fun x st1=>(gl ρ st1).bind fun lo st2=>(gh ρ st2).bind fun hi st3=>match x with | .tup ws=>if wN ws.length lo hi then .ok (.tup ws) st3 else Kt (.tup ws) lo hi st3 | _=> .bad):=by
  refine JE.of (lp (Bq.or zH x9) az nI nI) fun ρ st σ H m Q S R p=>?_
  refine ha.go S R (ar.bind p) fun x st1 v m1 H1 p1 e1 S1 rx=>?_
  refine hl.go S1 (R.mono e1) ((ar.bind p1).imp e1 fun _ _ q=>q) fun l st2 m2 H2 p2 e2 S2=>?_
  refine hh.go S2 (R.mono (e1.trans e2)) ((ar.bind p2).imp (e1.trans e2) fun _ _ q=>q) fun h st3 m3 H3 p3 e3 S3=>?_
  have we:=e1.trans (e2.trans e3)
  cases x with
  | tup ws=>
   dsimp only at p3
   have jz:=ae.mono (e2.trans e3) _ _ rx
   unfold ae at jz
   obtain⟨a',xs,rfl,f1,f2⟩:=jz
   by_cases c:wN ws.length l h
   ·rw[if_pos c] at p3
    unfold wN at c
    rw[f2.length] at c
    exact .inl ⟨a',xs,rfl,dq.of f1,c,p3 _ m3 H3 we S3 (by unfold ae;exact⟨a',xs,rfl,f1,f2⟩)⟩
   ·rw[if_neg c] at p3
    unfold Kt at p3
    dsimp only at p3
    unfold wN at c
    rw[if_neg c] at p3
    rw[f2.length] at c
    refine .inr ⟨a',xs,rfl,dq.of f1,c,fun q hq=>?_⟩
    have eU:Ext X.K m3 H3 m3 (L2.upd H3 q (.tup (mJ xs l h))):=Ext.gw (.inl hq)
    exact p3 (.ref q) m3 _ (we.trans eU) (S3.fresh hq) (by unfold ae;exact⟨q,_,rfl,L2.ay,ah.mono eU _ _ (oR f2)⟩)
  | _=>exact False.elim p3
 intro ρ st σ H m Q S R p
 unfold hJ at p
 cases e1:ga ρ st with
 | bad=>rw[e1] at p;exact False.elim p
 | err c st1=>rw[e1] at p;exact qf ha hl hh ρ st σ H m Q S R (by unfold sD;rw[e1];exact p)
 | ok x st1=>
  rw[e1] at p
  cases x with
  | str z=>exact hS ρ st σ H m Q S R (by dsimp only;rw[e1];exact p)
  | tup ws=>exact hW ρ st σ H m Q S R (by dsimp only;rw[e1];exact p)
  | _=>exact qf ha hl hh ρ st σ H m Q S R (by unfold sD;rw[e1];exact p)
def qI:dD
 | .str i,.str j,st=> .ok (.bl (!(Builtin.Str.occurrences j i 0 j.length 1).isEmpty)) st
 | x,y,st=>NF x y st
def oZ:dD
 | .str i,.str j,st=> .ok (.bl (!(!(Builtin.Str.occurrences j i 0 j.length 1).isEmpty))) st
 | x,y,st=>sC x y st
theorem GL:gz X (US .In) qI:=by
 obtain⟨r,h1,h2⟩:=Kq (X:=X)
 refine⟨_,cW.or vR h1,fun x y a b st H m Q S rx ry p=>?_⟩
 unfold qI at p
 split at p
 ·rename_i i j
  unfold ae at rx ry
  obtain⟨rfl,_⟩:=rx
  obtain⟨rfl,_⟩:=ry
  exact .inl ⟨i,j,rfl,rfl,p _ m H Ext.refl S fe⟩
 ·exact .inr (h2 x y a b st H m Q S rx ry p)
theorem wQ:gz X (US .NotIn) oZ:=by
 obtain⟨r,h1,h2⟩:=yH (X:=X)
 refine⟨_,cW.or oG h1,fun x y a b st H m Q S rx ry p=>?_⟩
 unfold oZ at p
 split at p
 ·rename_i i j
  unfold ae at rx ry
  obtain⟨rfl,_⟩:=rx
  obtain⟨rfl,_⟩:=ry
  exact .inl ⟨i,j,rfl,rfl,p _ m H Ext.refl S fe⟩
 ·exact .inr (h2 x y a b st H m Q S rx ry p)
end
end J
namespace J
open PySem PySem.Spec PyProof.Rows L2 PySem.W
theorem zJ (a v:UL):argsOk "max" ⟨[a],[(Str.ofString "default",v)]⟩:=by unfold argsOk;kernel_rfl
theorem wR {prog:UJ} {w:UM} {A:UG} {R:Result->UK->Prop} {I S:UE} {fp wr:List UE} {n:Nat} {P:Nat->UL->Prop} {St:Nat->Heap->Prop} {d:UL}
  (W:Walks prog w A.in1 I fp wr n P St) (bt:Nat->Nat->Bool) (hcmp:CmpOf prog w A.in1 .Gt P bt) (hSf:S∉fp) :
  ∀(k j:Nat) (s:UK) (cur:List UL) (c:Nat),n - j=k->j<=n->St j s.heap->((j=0/\cur=[])\/∃i vb,j=i+1/\cur=[vb,vb]/\P (argBest bt i) vb)->
  s.heap.get? S=some { cls:=.type "list",dict:=none,data:=.seq cur.toArray c,slots:=#[] }->
  (∀v h' tk,((n=0/\v=d)\/∃i,n=i+1/\P (argBest bt i) v)->(∀b o,b∉wr->b≠S->s.heap.get? b=some o->h'.get? b=some o)->R (.ok (.ret v)) { s with heap:=h',toks:=tk })->
  UQ (model prog w) A (.builtin "max.loop" ⟨[.ref I,.none,.ref S],[(Str.ofString "default",d)]⟩) R s:=by
 have K1:S∉wr:=fun q=>hSf (W.sub _ q)
 have nm:(toString "max"++toString ".loop":String)="max.loop":=by decide
 intro k
 induction k with
 | zero=>
  intro j s cur c hk hj GN hc hS hR
  have ej:j=n:=by omega
  refine codeAny_builtin F.entry_max_loop ?_
  rw[Around.under_plainId F.plain_max_loop]
  show UZ _ A.in1 (seqItems? (.ref S) >>= _) _ _ s;refine U0 (wpAny_seqItems hS rfl ?_)
  show UZ _ A.in1 (tryCatch (pyNext (.ref I)) _ >>= _) _ _ s;refine U0 (wpAny_tryCatch (W.done s _ _ (ej ▸ GN) fun h1 t1 kp=>?_))
  rcases hc with ⟨e0,rfl⟩ | ⟨i,vb,e1,rfl,CU⟩
  ·show UZ _ A.in1 (rule "max.default" >>= _) _ _ _
   exact U0 (wpAny_rule (U6 (hR d h1 t1 (.inl ⟨by omega,rfl⟩) fun b o h2 _ e=>kp b o h2 e)))
  ·have sU:=kp S _ K1 hS
   show UZ _ A.in1 (updateSeq S (fun _=>#[]) >>= _) _ _ _;refine U0 ?_
   refine wpAny_updateSeq sU rfl (U0 (wpAny_letGo (U6 (hR vb _ t1 (.inr ⟨i,by omega,CU⟩) fun b o h2 h3 e=>?_))))
   exact(Heap.get?_update_other _ _ (Ne.symm h3)).trans (kp b o h2 e)
 | succ k ih=>
  intro j s cur c hk hj GN hc hS hR
  have lt:j < n:=by omega
  refine codeAny_builtin F.entry_max_loop ?_
  rw[Around.under_plainId F.plain_max_loop]
  show UZ _ A.in1 (seqItems? (.ref S) >>= _) _ _ s;refine U0 (wpAny_seqItems hS rfl ?_)
  show UZ _ A.in1 (tryCatch (pyNext (.ref I)) _ >>= _) _ _ s;refine U0 (wpAny_tryCatch (W.item j s _ _ lt GN fun v h1 t1 hv st1 kp=>?_))
  have sU:=kp S _ K1 hS
  rcases hc with ⟨e0,rfl⟩ | ⟨i,vb,e1,rfl,CU⟩
  ·subst e0
   show UZ _ A.in1 (updateSeq S (fun _=>#[v,v]) >>= _) _ _ _;refine U0 (wpAny_updateSeq sU rfl ?_)
   rw[nm]
   refine U6 ⟨plainId_quiet F.plain_max_loop _,ih 1 _ [v,v] _ (by omega) lt (W.frame _ _ _ st1 fun b GP o e=>?_) (.inr ⟨0,v,rfl,rfl,hv⟩) (Heap.get?_update_self _ sU rfl) fun v2 h2 t2 hv2 zK=>?_⟩
   ·exact(Heap.get?_update_other _ _ (fun z:S=b=>hSf (z ▸ GP))).trans e
   ·exact hR v2 h2 t2 hv2 fun b o q1 q2 e=>zK b o q1 q2 ((Heap.get?_update_other _ _ (Ne.symm q2)).trans (kp b o q1 e))
  ·subst e1
   show UZ _ A.in1 (tryCatch (holding [v,v] (richCompare .Gt v vb >>= _)) _ >>= _) _ _ _;refine U0 (wpAny_tryCatch (U2 (U0 (hcmp (i+1) (argBest bt i) v vb _ _ _ hv CU ?_))))
   refine U0 (U2 (U7 (U0 (wpAny_letGo (U6 ?_)))))
   cases hb:bt (i+1) (argBest bt i) with
   | true=>
    have ha:argBest bt (i+1)=i+1:=by unfold argBest;rw[hb];rfl
    simp only[if_true];refine U0 (wpAny_updateSeq sU rfl (U0 (wpAny_letGo ?_)))
    rw[nm]
    refine U6 ⟨plainId_quiet F.plain_max_loop _,ih (i+2) _ [v,v] _ (by omega) lt (W.frame _ _ _ st1 fun b GP o e=>?_) (.inr ⟨i+1,v,rfl,rfl,by rw[ha];exact hv⟩) (Heap.get?_update_self _ sU rfl) fun v2 h2 t2 hv2 zK=>?_⟩
    ·exact(Heap.get?_update_other _ _ (fun z:S=b=>hSf (z ▸ GP))).trans e
    ·exact hR v2 h2 t2 hv2 fun b o q1 q2 e=>zK b o q1 q2 ((Heap.get?_update_other _ _ (Ne.symm q2)).trans (kp b o q1 e))
   | false=>
    have ha:argBest bt (i+1)=argBest bt i:=by rw[argBest,hb];rfl
    simp only[Bool.false_eq_true,if_false];refine U0 (wpAny_letGo ?_)
    rw[nm]
    refine U6 ⟨plainId_quiet F.plain_max_loop _,ih (i+2) _ [vb,vb] c (by omega) lt st1 (.inr ⟨i+1,vb,rfl,rfl,by rw[ha];exact CU⟩) sU fun v2 h2 t2 hv2 zK=>?_⟩
    exact hR v2 h2 t2 hv2 fun b o q1 q2 e=>zK b o q1 q2 (kp b o q1 e)
section
variable {X:Cx}
def Og:List Int->Wv
 | []=> .aB
 | n::r=> .int (fA n r)
theorem wU (hc:X.calm=true) {pins:List (UE×Obj)} {s:UK} {σ:L2.St} {H:Hp} {p:UE} {ns:List Int} {Q:VK} (I:L2.Inv X pins σ H s) (hq:gq X.K H p (ns.map V.int)) (q:∀v:V,(ns=[]/\v= .aB)\/(∃n r,ns=n::r/\v= .int (fA n r))->Q v H) :
  UZ (model X.prog X.w) X.A (call (.builtin "max") [.ref p] [(Str.ofString "default",.none)]) (EP X pins σ Q) X.xe s:=by
 obtain⟨its,r',pl,hz⟩:=I.list hq
 obtain⟨xs,rfl,e0⟩:=eh r'
 have hl:=pl.isList
 have e:(xs.map fun p=>Value.int p.1 p.2).toArray=intItems xs.toArray:=by unfold intItems;simp
 rw[e] at hl
 have hlen:xs.length=ns.length:=by rw[<-e0];simp
 have hnum:=fun i=>fJ xs i
 rw[e0] at hnum
 have hh:X.A.handled=none:=I.ok.hd hc
 have nm:(toString "max"++toString ".loop":String)="max.loop":=by decide
 refine kmk_tree F.kind_max F.plain_max F.entry_max (zJ _ _) ?_
 show UZ _ X.A.in1 (Builtin.Builtins.bindParams "max" ["key","default"] 0 ⟨[],[(Str.ofString "default",.none)]⟩ >>= _) _ _ s
 refine U0 (wpAny_of_eq (show Builtin.Builtins.bindParams "max" ["key","default"] 0 ⟨[],[(Str.ofString "default",.none)]⟩=pure [none,some .none] from rfl) (U0 (U6 ?_)))
 refine U0 (iter_intList hl fun s₂ e2 st hfp hlI=>?_)
 subst e2
 refine U0 (U5 ?_)
 rw[nm]
 have W:=Walks.list (prog:=X.prog) (w:=X.w) (A:=X.A.in1) hh _ p hlI (intItems xs.toArray)
 refine U6 ⟨plainId_quiet F.plain_max_loop _,wR W _ (CmpOf.ints_gt (numAt xs.toArray) (fun _ _=>intItems_at)) (fun hm=>Nat.lt_irrefl _ (hfp _ hm)) _ 0 _ [] 0 rfl (Nat.zero_le _) (W.frame _ _ _ st fun b _ o e=>Heap.get?_push_of_some _ e) (.inl ⟨rfl,rfl⟩) (Heap.get?_push_size _ rfl) fun v h' tk hv hk=>?_⟩
 have kp:∀b o,s.heap.get? b=some o->h'.get? b=some o:=fun b o e=>by
  have e3:(s.heap.push { cls:=.type "list_iterator",data:=.fields #[.ref p,.int 0 0] }).get? b=some o:=Heap.get?_push_of_some _ e
  exact hk b o (by intro z;simp at z;subst z;exact Nat.lt_irrefl _ (Heap.lt_size e)) (Nat.ne_of_lt (Heap.lt_size e3)) (Heap.get?_push_of_some _ e3)
 have hsz:(intItems xs.toArray).size=ns.length:=by simp[intItems,hlen]
 rcases hv with ⟨n0,rfl⟩ | ⟨i,n1,hv⟩
 ·exact⟨.aB,H,I.kept kp,rfl,q _ (.inl ⟨List.length_eq_zero_iff.mp (by omega),rfl⟩)⟩
 ·obtain⟨t,rfl⟩:=intItems_at hv
  cases ns with
  | nil=>rw[hsz] at n1;cases n1
  | cons n r=>
   refine⟨.int (fA n r),H,I.kept kp,⟨t,?_⟩,q _ (.inr ⟨n,r,rfl,rfl⟩)⟩
   obtain⟨h1,h2⟩:=PySem.argBest_gt (numAt xs.toArray) i
   congr 1
   have hr:(n::r).length=i+1:=by omega
   refine uO ?_ fun a ha=>?_
   ·rw[hnum]
    exact hG (by omega)
   ·obtain⟨j,hj,rfl⟩:=List.mem_iff_getElem.mp ha
    have q2:=h2 j (by omega)
    rw[hnum j,List.getD_eq_getElem?_getD,List.getElem?_eq_getElem hj] at q2
    exact q2
end
theorem zL (a v:UL):argsOk "min" ⟨[a],[(Str.ofString "default",v)]⟩:=by unfold argsOk;kernel_rfl
theorem wV {prog:UJ} {w:UM} {A:UG} {R:Result->UK->Prop} {I S:UE} {fp wr:List UE} {n:Nat} {P:Nat->UL->Prop} {St:Nat->Heap->Prop} {d:UL}
  (W:Walks prog w A.in1 I fp wr n P St) (bt:Nat->Nat->Bool) (hcmp:CmpOf prog w A.in1 .Lt P bt) (hSf:S∉fp) :
  ∀(k j:Nat) (s:UK) (cur:List UL) (c:Nat),n - j=k->j<=n->St j s.heap->((j=0/\cur=[])\/∃i vb,j=i+1/\cur=[vb,vb]/\P (argBest bt i) vb)->
  s.heap.get? S=some { cls:=.type "list",dict:=none,data:=.seq cur.toArray c,slots:=#[] }->
  (∀v h' tk,((n=0/\v=d)\/∃i,n=i+1/\P (argBest bt i) v)->(∀b o,b∉wr->b≠S->s.heap.get? b=some o->h'.get? b=some o)->R (.ok (.ret v)) { s with heap:=h',toks:=tk })->
  UQ (model prog w) A (.builtin "min.loop" ⟨[.ref I,.none,.ref S],[(Str.ofString "default",d)]⟩) R s:=by
 have K1:S∉wr:=fun q=>hSf (W.sub _ q)
 have nm:(toString "min"++toString ".loop":String)="min.loop":=by decide
 intro k
 induction k with
 | zero=>
  intro j s cur c hk hj GN hc hS hR
  have ej:j=n:=by omega
  refine codeAny_builtin F.entry_min_loop ?_
  rw[Around.under_plainId F.plain_min_loop]
  show UZ _ A.in1 (seqItems? (.ref S) >>= _) _ _ s;refine U0 (wpAny_seqItems hS rfl ?_)
  show UZ _ A.in1 (tryCatch (pyNext (.ref I)) _ >>= _) _ _ s;refine U0 (wpAny_tryCatch (W.done s _ _ (ej ▸ GN) fun h1 t1 kp=>?_))
  rcases hc with ⟨e0,rfl⟩ | ⟨i,vb,e1,rfl,CU⟩
  ·show UZ _ A.in1 (rule "min.default" >>= _) _ _ _
   exact U0 (wpAny_rule (U6 (hR d h1 t1 (.inl ⟨by omega,rfl⟩) fun b o h2 _ e=>kp b o h2 e)))
  ·have sU:=kp S _ K1 hS
   show UZ _ A.in1 (updateSeq S (fun _=>#[]) >>= _) _ _ _;refine U0 ?_
   refine wpAny_updateSeq sU rfl (U0 (wpAny_letGo (U6 (hR vb _ t1 (.inr ⟨i,by omega,CU⟩) fun b o h2 h3 e=>?_))))
   exact(Heap.get?_update_other _ _ (Ne.symm h3)).trans (kp b o h2 e)
 | succ k ih=>
  intro j s cur c hk hj GN hc hS hR
  have lt:j < n:=by omega
  refine codeAny_builtin F.entry_min_loop ?_
  rw[Around.under_plainId F.plain_min_loop]
  show UZ _ A.in1 (seqItems? (.ref S) >>= _) _ _ s;refine U0 (wpAny_seqItems hS rfl ?_)
  show UZ _ A.in1 (tryCatch (pyNext (.ref I)) _ >>= _) _ _ s;refine U0 (wpAny_tryCatch (W.item j s _ _ lt GN fun v h1 t1 hv st1 kp=>?_))
  have sU:=kp S _ K1 hS
  rcases hc with ⟨e0,rfl⟩ | ⟨i,vb,e1,rfl,CU⟩
  ·subst e0
   show UZ _ A.in1 (updateSeq S (fun _=>#[v,v]) >>= _) _ _ _;refine U0 (wpAny_updateSeq sU rfl ?_)
   rw[nm]
   refine U6 ⟨plainId_quiet F.plain_min_loop _,ih 1 _ [v,v] _ (by omega) lt (W.frame _ _ _ st1 fun b GP o e=>?_) (.inr ⟨0,v,rfl,rfl,hv⟩) (Heap.get?_update_self _ sU rfl) fun v2 h2 t2 hv2 zK=>?_⟩
   ·exact(Heap.get?_update_other _ _ (fun z:S=b=>hSf (z ▸ GP))).trans e
   ·exact hR v2 h2 t2 hv2 fun b o q1 q2 e=>zK b o q1 q2 ((Heap.get?_update_other _ _ (Ne.symm q2)).trans (kp b o q1 e))
  ·subst e1
   show UZ _ A.in1 (tryCatch (holding [v,v] (richCompare .Lt v vb >>= _)) _ >>= _) _ _ _;refine U0 (wpAny_tryCatch (U2 (U0 (hcmp (i+1) (argBest bt i) v vb _ _ _ hv CU ?_))))
   refine U0 (U2 (U7 (U0 (wpAny_letGo (U6 ?_)))))
   cases hb:bt (i+1) (argBest bt i) with
   | true=>
    have ha:argBest bt (i+1)=i+1:=by unfold argBest;rw[hb];rfl
    simp only[if_true];refine U0 (wpAny_updateSeq sU rfl (U0 (wpAny_letGo ?_)))
    rw[nm]
    refine U6 ⟨plainId_quiet F.plain_min_loop _,ih (i+2) _ [v,v] _ (by omega) lt (W.frame _ _ _ st1 fun b GP o e=>?_) (.inr ⟨i+1,v,rfl,rfl,by rw[ha];exact hv⟩) (Heap.get?_update_self _ sU rfl) fun v2 h2 t2 hv2 zK=>?_⟩
    ·exact(Heap.get?_update_other _ _ (fun z:S=b=>hSf (z ▸ GP))).trans e
    ·exact hR v2 h2 t2 hv2 fun b o q1 q2 e=>zK b o q1 q2 ((Heap.get?_update_other _ _ (Ne.symm q2)).trans (kp b o q1 e))
   | false=>
    have ha:argBest bt (i+1)=argBest bt i:=by rw[argBest,hb];rfl
    simp only[Bool.false_eq_true,if_false];refine U0 (wpAny_letGo ?_)
    rw[nm]
    refine U6 ⟨plainId_quiet F.plain_min_loop _,ih (i+2) _ [vb,vb] c (by omega) lt st1 (.inr ⟨i+1,vb,rfl,rfl,by rw[ha];exact CU⟩) sU fun v2 h2 t2 hv2 zK=>?_⟩
    exact hR v2 h2 t2 hv2 fun b o q1 q2 e=>zK b o q1 q2 (kp b o q1 e)
section
variable {X:Cx}
def Mj:List Int->Wv
 | []=> .aB
 | n::r=> .int (fB n r)
theorem wW (hc:X.calm=true) {pins:List (UE×Obj)} {s:UK} {σ:L2.St} {H:Hp} {p:UE} {ns:List Int} {Q:VK} (I:L2.Inv X pins σ H s) (hq:gq X.K H p (ns.map V.int)) (q:∀v:V,(ns=[]/\v= .aB)\/(∃n r,ns=n::r/\v= .int (fB n r))->Q v H) :
  UZ (model X.prog X.w) X.A (call (.builtin "min") [.ref p] [(Str.ofString "default",.none)]) (EP X pins σ Q) X.xe s:=by
 obtain⟨its,r',pl,hz⟩:=I.list hq
 obtain⟨xs,rfl,e0⟩:=eh r'
 have hl:=pl.isList
 have e:(xs.map fun p=>Value.int p.1 p.2).toArray=intItems xs.toArray:=by unfold intItems;simp
 rw[e] at hl
 have hlen:xs.length=ns.length:=by rw[<-e0];simp
 have hnum:=fun i=>fJ xs i
 rw[e0] at hnum
 have hh:X.A.handled=none:=I.ok.hd hc
 have nm:(toString "min"++toString ".loop":String)="min.loop":=by decide
 refine kmk_tree F.kind_min F.plain_min F.entry_min (zL _ _) ?_
 show UZ _ X.A.in1 (Builtin.Builtins.bindParams "min" ["key","default"] 0 ⟨[],[(Str.ofString "default",.none)]⟩ >>= _) _ _ s
 refine U0 (wpAny_of_eq (show Builtin.Builtins.bindParams "min" ["key","default"] 0 ⟨[],[(Str.ofString "default",.none)]⟩=pure [none,some .none] from rfl) (U0 (U6 ?_)))
 refine U0 (iter_intList hl fun s₂ e2 st hfp hlI=>?_)
 subst e2
 refine U0 (U5 ?_)
 rw[nm]
 have W:=Walks.list (prog:=X.prog) (w:=X.w) (A:=X.A.in1) hh _ p hlI (intItems xs.toArray)
 refine U6 ⟨plainId_quiet F.plain_min_loop _,wV W _ (CmpOf.ints_lt (numAt xs.toArray) (fun _ _=>intItems_at)) (fun hm=>Nat.lt_irrefl _ (hfp _ hm)) _ 0 _ [] 0 rfl (Nat.zero_le _) (W.frame _ _ _ st fun b _ o e=>Heap.get?_push_of_some _ e) (.inl ⟨rfl,rfl⟩) (Heap.get?_push_size _ rfl) fun v h' tk hv hk=>?_⟩
 have kp:∀b o,s.heap.get? b=some o->h'.get? b=some o:=fun b o e=>by
  have e3:(s.heap.push { cls:=.type "list_iterator",data:=.fields #[.ref p,.int 0 0] }).get? b=some o:=Heap.get?_push_of_some _ e
  exact hk b o (by intro z;simp at z;subst z;exact Nat.lt_irrefl _ (Heap.lt_size e)) (Nat.ne_of_lt (Heap.lt_size e3)) (Heap.get?_push_of_some _ e3)
 have hsz:(intItems xs.toArray).size=ns.length:=by simp[intItems,hlen]
 rcases hv with ⟨n0,rfl⟩ | ⟨i,n1,hv⟩
 ·exact⟨.aB,H,I.kept kp,rfl,q _ (.inl ⟨List.length_eq_zero_iff.mp (by omega),rfl⟩)⟩
 ·obtain⟨t,rfl⟩:=intItems_at hv
  cases ns with
  | nil=>rw[hsz] at n1;cases n1
  | cons n r=>
   refine⟨.int (fB n r),H,I.kept kp,⟨t,?_⟩,q _ (.inr ⟨n,r,rfl,rfl⟩)⟩
   obtain⟨h1,h2⟩:=PySem.argBest_lt (numAt xs.toArray) i
   congr 1
   have hr:(n::r).length=i+1:=by omega
   refine uP ?_ fun a ha=>?_
   ·rw[hnum]
    exact hG (by omega)
   ·obtain⟨j,hj,rfl⟩:=List.mem_iff_getElem.mp ha
    have q2:=h2 j (by omega)
    rw[hnum j,List.getD_eq_getElem?_getD,List.getElem?_eq_getElem hj] at q2
    exact q2
end
section
variable {X:Cx}
def nX:List Wv->Hs->Re Wv
 | [.ref l],st=>match af st l with
  | some ws=>(match intsOf ws with | some ns=> .ok (Og ns) st | none=> .bad)
  | none=> .bad
 | _,_=> .bad
def nY:List Wv->Hs->Re Wv
 | [.ref l],st=>match af st l with
  | some ws=>(match intsOf ws with | some ns=> .ok (Mj ns) st | none=> .bad)
  | none=> .bad
 | _,_=> .bad
def GQ (X:Cx) (id:String) (op:List Wv->Hs->Re Wv):Prop:=∀(ws:List Wv) (vs:List V) (us:List UL) (st:Hs) (H:Hp) (m:Mp) (Q:VK) (pins:List (UE×Obj)) (s:UK) (σ:L2.St),aK X.K m st H->ah X.K m H ws vs->L2.Inv X pins σ H s->Vals vs us->bC X.K m H (op ws st) Q->
 UZ (model X.prog X.w) X.A (call (.builtin id) us [(Str.ofString "default",.none)]) (EP X pins σ Q) X.xe s
theorem GR (hc:X.calm=true):GQ X "max" nX:=by
 intro ws vs us st H m Q pins s σ S rs I rv p
 match ws,rs,p with
 | [],rs,p=>exact False.elim p
 | x::y::t,rs,p=>cases x<;>exact False.elim p
 | [x],rs,p=>
  obtain⟨v,rfl,r1⟩:=ie rs
  cases x with
  | ref l=>
   unfold nX at p
   unfold ae at r1
   obtain⟨a,rfl,hl⟩:=r1
   obtain⟨u,rfl,ru⟩:=vals1 rv
   cases ru
   cases e:af st l with
   | none=>simp only[e] at p;exact False.elim p
   | some ws=>
    simp only[e] at p
    cases e2:intsOf ws with
    | none=>simp only[e2] at p;exact False.elim p
    | some ns=>
     simp only[e2] at p
     obtain⟨xs,q1,q2⟩:=S.read hl e
     have q3:=cC q2 e2
     subst q3
     refine wU hc I q1 fun v hv=>p v m H Ext.refl S ?_
     rcases hv with ⟨rfl,rfl⟩ | ⟨n,r,rfl,rfl⟩
     ·exact nH
     ·exact mkInt
  | _=>exact False.elim p
theorem GU (hc:X.calm=true):GQ X "min" nY:=by
 intro ws vs us st H m Q pins s σ S rs I rv p
 match ws,rs,p with
 | [],rs,p=>exact False.elim p
 | x::y::t,rs,p=>cases x<;>exact False.elim p
 | [x],rs,p=>
  obtain⟨v,rfl,r1⟩:=ie rs
  cases x with
  | ref l=>
   unfold nY at p
   unfold ae at r1
   obtain⟨a,rfl,hl⟩:=r1
   obtain⟨u,rfl,ru⟩:=vals1 rv
   cases ru
   cases e:af st l with
   | none=>simp only[e] at p;exact False.elim p
   | some ws=>
    simp only[e] at p
    cases e2:intsOf ws with
    | none=>simp only[e2] at p;exact False.elim p
    | some ns=>
     simp only[e2] at p
     obtain⟨xs,q1,q2⟩:=S.read hl e
     have q3:=cC q2 e2
     subst q3
     refine wW hc I q1 fun v hv=>p v m H Ext.refl S ?_
     rcases hv with ⟨rfl,rfl⟩ | ⟨n,r,rfl,rfl⟩
     ·exact nH
     ·exact mkInt
  | _=>exact False.elim p
theorem qJ {x:Str} {id:String} {op:List Wv->Hs->Re Wv} {g:GA} {p pos kp cp:Pos} {e:Expr} {kk:Nat} (hc:GQ X id op) (hg:Gl X x) (hm:X.mg x=none) (hv:UP x=some (.builtin id)) (ha:JA X [e] g) (hn:x≠"__name__") (hdb:(x == ("__debug__":Str))=false)
  (he:UY [e] X.env=[(false,eval e X.env)]):JE X (.Call (.Name x p) [e] [⟨some (Str.ofString "default"),.Constant .none kk cp,kp⟩] pos) (au op g):=by
 intro ρ st σ H m Q S R pp pins s I
 have args:=ha.go (T:=fun vs H1=>∃ws st1 m1,ar X σ m H (op ws st1).iM (I_ X.K m H Q)/\Ext X.K m H m1 H1/\aK X.K m1 st1 H1/\ah X.K m1 H1 ws vs) S R (ar.bind pp)
  fun ws st1 vs m1 H1 p1 e1 S1 rs=>⟨ws,st1,m1,p1,e1,S1,rs⟩
 refine wpAny_Call_Name_kw (iz I hg hm hv ?_ hn hdb)
 refine callWith_kw (aM (args pos pins s I) fun us s1 ⟨vs,H1,I1,r,ws,st1,m1,p1,e1,S1,rs⟩=>?_) (by rw[he];rfl) (by rw[he];rfl)
 have kwd:=BK (nm:=some (Str.ofString "default")) (kpos:=kp) (X:=X) (xG (j:=kk) (pos:=cp)) Fw pos pins s1 σ H1 (fun zs H2=>zs=[.aB]/\H2=H1) I1 ⟨rfl,rfl⟩
 refine aM kwd fun zs s2 ⟨ys,H2,I2,rz,ez,eH⟩=>?_
 subst ez
 subst eH
 obtain⟨u,rfl,ru⟩:=vals1 rz
 cases ru
 exact hc ws vs us st1 H2 m1 Q pins s2 σ S1 rs I2 r (bC.shift (ar.iM p1) e1)
end
end J
namespace J
open PySem PySem.Spec PyProof.Rows L2
def K2 (x:Str):It:=⟨fun i _=>i < x.cps.size,fun i H v H'=>H'=H/\∃c,x.cps[i]? =some c/\v= .str ⟨#[c]⟩,fun i _=>x.cps.size<=i⟩
theorem sV {P:UJ} {w:UM} {K:PySem.W.Frag} {tg:Expr} (x:Str) (t:Tok) (it:UE):Turn P w K tg (K2 x) [it] it (fun i h=>h.IsStrIter it "str_ascii_iterator" x t i) where
 mem:=List.mem_singleton.mpr rfl
 obj:=fun i h st b hb=>by
  cases List.mem_singleton.mp hb
  obtain⟨o,e,c,d⟩:=st
  exact⟨o,e,fun v z=>by rw[d] at z;cases z⟩
 keep:=fun i h h' st k=>let ⟨o,e,r⟩:=st;⟨o,k it (List.mem_singleton.mpr rfl) o e,r⟩
 item:=by
  intro X hP hw hK hc i pins s σ H E I hf st hg
  subst hP;subst hw;subst hK
  obtain⟨f0,f1,f2,f3,f4,f5⟩:=hf it (List.mem_singleton.mpr rfl)
  have hi:i < x.cps.size:=hg
  refine wpAny_pyNext_ascii_item st (c:=x.cps[i]) (by simp[hi]) fun h' st' sb=>?_
  have I1:L2.Inv X pins σ H { s with heap:=h',toks:=s.toks+1 }:=I.turned (t':=s.toks+1) (fun b o hb e=>sb.extBut b o hb e) f0 f1 f3 f4 f5
  obtain⟨o,e,c,d⟩:=id st'
  exact⟨_,rfl,jQ (s:={ s with heap:=h',toks:=s.toks+1 }) e c d (by decide) ⟨.str ⟨#[x.cps[i]]⟩,H,I1,⟨_,rfl⟩,⟨rfl,_,by simp[hi],rfl⟩,st',fun b hb=>(hf b hb).1⟩⟩
 done:=by
  intro X hP hw hK hc i pins s σ H E I hf st hg
  subst hP;subst hw;subst hK
  obtain⟨f0,f1,f2,f3,f4,f5⟩:=hf it (List.mem_singleton.mpr rfl)
  have hi:x.cps.size<=i:=hg
  exact wpAny_pyNext_ascii_end (I.ok.hd hc) st (by simp[hi]) fun h' eb=>⟨rfl,I.turned (t':=s.toks) (fun b o hb e=>eb b o hb e) f0 f1 f3 f4 f5⟩
 self:=fun _ _ _ _ _ st h=>wpAny_pyIter_striter_ascii st h
theorem wX {P:UJ} {w:UM} {K:PySem.W.Frag} {tg:Expr} (x:Str) (t:Tok) (it:UE):Turn P w K tg (K2 x) [it] it (fun i h=>h.IsStrIter it "str_iterator" x t i) where
 mem:=List.mem_singleton.mpr rfl
 obj:=fun i h st b hb=>by
  cases List.mem_singleton.mp hb
  obtain⟨o,e,c,d⟩:=st
  exact⟨o,e,fun v z=>by rw[d] at z;cases z⟩
 keep:=fun i h h' st k=>let ⟨o,e,r⟩:=st;⟨o,k it (List.mem_singleton.mpr rfl) o e,r⟩
 item:=by
  intro X hP hw hK hc i pins s σ H E I hf st hg
  subst hP;subst hw;subst hK
  obtain⟨f0,f1,f2,f3,f4,f5⟩:=hf it (List.mem_singleton.mpr rfl)
  have hi:i < x.cps.size:=hg
  refine wpAny_pyNext_wide_item st (c:=x.cps[i]) (by simp[hi]) fun h' st' sb=>?_
  have I1:L2.Inv X pins σ H { s with heap:=h',toks:=s.toks+1 }:=I.turned (t':=s.toks+1) (fun b o hb e=>sb.extBut b o hb e) f0 f1 f3 f4 f5
  obtain⟨o,e,c,d⟩:=id st'
  exact⟨_,rfl,jQ (s:={ s with heap:=h',toks:=s.toks+1 }) e c d (by decide) ⟨.str ⟨#[x.cps[i]]⟩,H,I1,⟨_,rfl⟩,⟨rfl,_,by simp[hi],rfl⟩,st',fun b hb=>(hf b hb).1⟩⟩
 done:=by
  intro X hP hw hK hc i pins s σ H E I hf st hg
  subst hP;subst hw;subst hK
  obtain⟨f0,f1,f2,f3,f4,f5⟩:=hf it (List.mem_singleton.mpr rfl)
  have hi:x.cps.size<=i:=hg
  exact wpAny_pyNext_wide_end (I.ok.hd hc) st (by simp[hi]) fun h' eb=>⟨rfl,I.turned (t':=s.toks) (fun b o hb e=>eb b o hb e) f0 f1 f3 f4 f5⟩
 self:=fun _ _ _ _ _ st h=>wpAny_pyIter_striter_wide st h
section
variable {X:Cx}
theorem GV {tg l:Expr} {tl:TE} (hl:PE X l tl):PI X tg l (fun σ H R=>tl σ H fun v H1=>∃z,v= .str z/\R (K2 z) H1):=by
 intro pins s σ H R I h
 refine aM (hl pins s σ H _ I h) fun v s1 ⟨x,H1,I1,r1,z,e,q⟩=>?_
 subst e
 obtain⟨t,rfl⟩:=r1
 have frs:∀b∈[s1.heap.objs.size],dG X pins H1 b:=fun b hb=>by
  cases List.mem_singleton.mp hb
  exact I1.pX (Nat.le_refl _) (I1.hok.fresh (Nat.le_refl _))
 cases ha:z.cps.all (· < 128)
 ·exact wpAny_pyIter_wide ha ⟨s1.heap.objs.size,[s1.heap.objs.size],_,_,H1,rfl,I1.kept (t':=s1.toks) fun b o e=>Heap.get?_push_of_some _ e,wX z t _,⟨_,Heap.get?_push_size _ rfl,rfl,rfl⟩,frs,q⟩
 ·exact wpAny_pyIter_ascii ha ⟨s1.heap.objs.size,[s1.heap.objs.size],_,_,H1,rfl,I1.kept (t':=s1.toks) fun b o e=>Heap.get?_push_of_some _ e,sV z t _,⟨_,Heap.get?_push_size _ rfl,rfl,rfl⟩,frs,q⟩
def fj (z:PySem.Str):List Wv:=z.cps.toList.map fun c=>Wv.str ⟨#[c]⟩
def qK (w:Wv) (st:Hs):Re Wk:=match w with
 | .str z=> .ok (none,fj z) st
 | w=>Gv w st
def fP (g:GE):GI:=fun ρ st=>(g ρ st).bind qK
theorem GW {z:PySem.Str} {m1:Mp} {H1:Hp} (hz:PyData.strOk z=true):qw X (none,fj z) m1 H1 (K2 z) where
 go:=fun k H m' st _ _ _ hk=>by
  have:k < z.cps.size:=by simpa [fj] using hk
  exact this
 stop:=fun k H m' st _ _ _ hk=>by
  have:k=z.cps.size:=by simpa [fj] using hk
  exact Nat.le_of_eq this.symm
 pW:=fun k hk H v H' m' st _ _ _ y=>by
  obtain⟨rfl,c,hc,rfl⟩:=y
  refine⟨rfl,?_⟩
  have hk':k < z.cps.size:=by simpa [fj] using hk
  have e:∀h:k < (fj z).length,(fj z)[k]'h= .str ⟨#[z.cps[k]]⟩:=by intro h;simp[fj]
  have hc':z.cps[k]=c:=by simpa [hk'] using hc
  show ae X.K m' H' ((fj z)[k]'hk) _
  rw[e hk,hc']
  refine mkStr ?_
  rw[nW] at hz ⊢
  intro d hd
  simp at hd
  rw[hd,<-hc']
  exact hz _ (by simp)
theorem uQ {tg iter:Expr} {g:GE} (h:JE X iter g):JI X tg iter (fP g):=by
 obtain⟨w1,h1,k1⟩:=Gw (tg:=tg) h
 refine⟨fun σ H R=>w1 σ H R\/(SE X iter σ H fun v H1=>∃z,v= .str z/\R (K2 z) H1),fun pins s σ H R I q=>?_,fun ρ st σ H m R S RR p=>?_⟩
 ·rcases q with q | q
  ·exact h1 pins s σ H R I q
  ·exact GV az pins s σ H R I q
 ·unfold fP at p
  cases e:g ρ st with
  | bad=>rw[e] at p;exact False.elim p
  | err c st'=>rw[e] at p;exact .inl (k1 ρ st σ H m R S RR (by unfold zj;rw[e];exact p))
  | ok w st'=>
   rw[e] at p
   cases w with
   | str z=>
    refine .inr ?_
    refine h.go (ok:=fun w st1=>w= .str z/\st1=st') S RR (by rw[e];exact⟨rfl,rfl⟩) fun w st1 v m1 H1 q e1 S1 r1=>?_
    obtain⟨rfl,rfl⟩:=q
    unfold ae at r1
    obtain⟨rfl,hz⟩:=r1
    exact⟨z,rfl,p m1 H1 _ e1 S1 trivial (GW hz)⟩
   | _=>exact .inl (k1 ρ st σ H m R S RR (by unfold zj;rw[e];exact p))
end
end J
namespace J
open PySem PySem.Spec PyProof.Rows L2
section
variable {X:Cx}
end
end J
namespace J
open PySem PySem.Spec PyProof.Rows L2
def keyOf:Wv->Option L2.Key
 | .int i=>some (.inl i)
 | .str x=>some (.inr x)
 | _=>none
theorem jE {K:PySem.W.Frag} {m:Mp} {H:Hp} {w:Wv} {v:V} {k:L2.Key} (r:ae K m H w v) (e:keyOf w=some k):v=kV k:=by
 cases w with
 | int i=>cases e;unfold ae at r;rw[r];rfl
 | str x=>cases e;unfold ae at r;rw[r.1];rfl
 | _=>cases e
def c_ {κ:Type} [DecidableEq κ] (kvs:List (κ×Wv)) (k:κ):Option Wv:=match kvs with
 | []=>none
 | p::r=>if p.1=k then some p.2 else c_ r k
def o9 {κ:Type} [DecidableEq κ] (kvs:List (κ×Wv)) (k:κ) (v:Wv):List (κ×Wv):=if(kvs.any fun kv=>decide (kv.1=k))=true then kvs.map (fun kv=>if kv.1=k then(kv.1,v) else kv) else kvs++[(k,v)]
def GX (kvs more:List (L2.Key×Wv)):List (L2.Key×Wv):=more.foldl (fun acc kv=>o9 acc kv.1 kv.2) kvs
section
variable {K:PySem.W.Frag} {m:Mp} {H:Hp} {κ:Type}
theorem RelK.nil:RelK (κ:=κ) K m H [] []:=⟨rfl,ah.nil⟩
theorem RelK.cons {k:κ} {w:Wv} {v:V} {kvs:List (κ×Wv)} {xs:List (κ×V)} (h:ae K m H w v) (t:RelK K m H kvs xs):RelK K m H ((k,w)::kvs) ((k,v)::xs) :=
 ⟨by simp[t.1],by simpa using ah.cons h t.2⟩
theorem RelK.nil_inv {xs:List (κ×V)} (h:RelK K m H [] xs):xs=[]:=by
 have:=h.1
 cases xs with
 | nil=>rfl
 | cons a b=>simp at this
theorem RelK.cons_inv {p:κ×Wv} {kvs:List (κ×Wv)} {xs:List (κ×V)} (h:RelK K m H (p::kvs) xs):∃v t,xs=(p.1,v)::t/\ae K m H p.2 v/\RelK K m H kvs t:=by
 obtain⟨h1,h2⟩:=h
 cases xs with
 | nil=>simp at h1
 | cons q t=>
  simp at h1 h2
  unfold ah at h2
  obtain⟨x,r,e1,e2,e3⟩:=h2
  cases e1
  exact⟨q.2,t,by rw[h1.1],e2,h1.2,e3⟩
theorem RelK.length {kvs:List (κ×Wv)} {xs:List (κ×V)} (h:RelK K m H kvs xs):kvs.length=xs.length:=by
 have:=congrArg List.length h.1
 simpa using this
variable [DecidableEq κ]
theorem RelK.val:∀{kvs:List (κ×Wv)} {xs:List (κ×V)} (k:κ),RelK K m H kvs xs->(c_ kvs k=none->iW xs k=none)/\∀w,c_ kvs k=some w->∃v,iW xs k=some v/\ae K m H w v
 | [],xs,k,h=>by
  rw[h.nil_inv]
  exact⟨fun _=>rfl,(fun w e=>by cases e)⟩
 | p::r,xs,k,h=>by
  obtain⟨v,t,rfl,h1,h2⟩:=h.cons_inv
  obtain⟨i1,i2⟩:=RelK.val k h2
  unfold c_
  by_cases e:p.1=k
  ·rw[if_pos e,iX (by exact e)]
   exact⟨(fun z=>by cases z),fun w z=>⟨v,rfl,by cases z;exact h1⟩⟩
  ·rw[if_neg e,iY (by exact e)]
   exact⟨i1,i2⟩
theorem RelK.any:∀{kvs:List (κ×Wv)} {xs:List (κ×V)} (k:κ),RelK K m H kvs xs->(kvs.any fun kv=>decide (kv.1=k))=xs.any fun kv=>decide (kv.1=k)
 | [],xs,k,h=>by rw[h.nil_inv];rfl
 | p::r,xs,k,h=>by
  obtain⟨v,t,rfl,h1,h2⟩:=h.cons_inv
  rw[List.any_cons,List.any_cons,RelK.any k h2]
theorem RelK.repl:∀{kvs:List (κ×Wv)} {xs:List (κ×V)} (k:κ) {w:Wv} {v:V},RelK K m H kvs xs->ae K m H w v->RelK K m H (kvs.map fun kv=>if kv.1=k then(kv.1,w) else kv) (xs.map fun kv=>if kv.1=k then(kv.1,v) else kv)
 | [],xs,k,w,v,h,r=>by rw[h.nil_inv];exact RelK.nil
 | p::kvs,xs,k,w,v,h,r=>by
  obtain⟨u,t,rfl,h1,h2⟩:=h.cons_inv
  rw[List.map_cons,List.map_cons]
  by_cases e:p.1=k
  ·rw[if_pos e,if_pos (by exact e)]
   exact RelK.cons r (RelK.repl k h2 r)
  ·rw[if_neg e,if_neg (by exact e)]
   exact RelK.cons h1 (RelK.repl k h2 r)
theorem RelK.snoc:∀{kvs:List (κ×Wv)} {xs:List (κ×V)} (k:κ) {w:Wv} {v:V},RelK K m H kvs xs->ae K m H w v->RelK K m H (kvs++[(k,w)]) (xs++[(k,v)])
 | [],xs,k,w,v,h,r=>by rw[h.nil_inv];exact RelK.cons r RelK.nil
 | p::kvs,xs,k,w,v,h,r=>by
  obtain⟨u,t,rfl,h1,h2⟩:=h.cons_inv
  exact RelK.cons h1 (RelK.snoc k h2 r)
theorem RelK.put {kvs:List (κ×Wv)} {xs:List (κ×V)} (k:κ) {w:Wv} {v:V} (h:RelK K m H kvs xs) (r:ae K m H w v):RelK K m H (o9 kvs k w) (putK xs k v):=by
 unfold o9 putK
 rw[h.any k]
 split
 ·exact h.repl k r
 ·exact h.snoc k r
end
section
variable {K:PySem.W.Frag} {m:Mp} {H:Hp}
theorem RelK.merge:∀{more:List (L2.Key×Wv)} {ms:List (L2.Key×V)} {kvs:List (L2.Key×Wv)} {xs:List (L2.Key×V)},RelK K m H kvs xs->RelK K m H more ms->RelK K m H (GX kvs more) (FR xs ms)
 | [],ms,kvs,xs,h,g=>by rw[g.nil_inv];exact h
 | p::more,ms,kvs,xs,h,g=>by
  obtain⟨u,t,rfl,h1,h2⟩:=g.cons_inv
  have:=RelK.merge (more:=more) (ms:=t) (kvs:=o9 kvs p.1 p.2) (xs:=putK xs p.1 u) (RelK.put p.1 h h1) h2
  exact this
end
section
variable {X:Cx}
inductive Oh (X:Cx) (pos:Pos):List (Option Expr)->List Expr->List (GE×GE)->Prop
 | nil:Oh X pos [] [] []
 | cons {k v:Expr} {ks:List (Option Expr)} {vs:List Expr} {gk gv:GE} {gs:List (GE×GE)}:JE X k gk->JE X v gv->Oh X pos ks vs gs->Oh X pos (some k::ks) (v::vs) ((gk,gv)::gs)
end
def uR:Wv->UL->Prop
 | .int i,u=>∃t,u= .int i t
 | .str x,u=>(∃t,u= .str x t)/\PyData.strOk x=true
 | _,_=>False
abbrev Dc:=List (PySem.Str×Wv)
def o_ (w:UM):Dc->List DictEntry->Prop
 | [],[]=>True
 | (k,v)::r,e::t=>(e.hash=hashStr w k/\(∃tk,e.key= .str k tk)/\uR v e.val)/\o_ w r t
 | _,_=>False
def kq (K:PySem.W.Frag) (w:UM) (mg:Str->Option UL) (x:Str) (kvs:Dc):Prop :=
 ∃(a:UE) (es:Array DictEntry) (ep:Nat),mg x=some (.ref a)/\K.lookup a=some ⟨.type "dict",none,.dict es ep,#[]⟩/\(a == sysModules)=false/\o_ w kvs es.toList/\(kvs.map (·.1)).Nodup
theorem jh {P:UJ} {w:UM}:∀{kvs:Dc} {l:List DictEntry},o_ w kvs l->∃vs:List (PySem.Str×UL),vs.map (·.1)=kvs.map (·.1)/\Pairs (PySem.strKind P w) l vs/\(∀e∈l,∃k,(PySem.strKind P w).is k e.key=true/\e.hash=(PySem.strKind P w).hash k)/\
  ∀k,(kvs.lookup k=none->valueAt vs k=none)/\∀v,kvs.lookup k=some v->∃u,valueAt vs k=some u/\uR v u
 | [],[],_=>⟨[],rfl,.nil,(fun _ z=>by cases z),fun k=>⟨fun _=>rfl,(fun v z=>by cases z)⟩⟩
 | (k,v)::r,e::t,h=>by
  obtain⟨⟨h1,⟨tk,h2⟩,h3⟩,h4⟩:=h
  obtain⟨vs,i1,i2,i3,i4⟩:=jh (P:=P) h4
  have his:(PySem.strKind P w).is k e.key=true:=by rw[h2];exact strKind_is P w k tk
  refine⟨(k,e.val)::vs,by simp[i1],.cons his rfl i2,fun e' he=>?_,fun k'=>?_⟩
  ·rcases List.mem_cons.mp he with z | z
   ·subst z;exact⟨k,his,h1⟩
   ·exact i3 e' z
  ·rw[List.lookup_cons]
   unfold valueAt
   rw[List.find?_cons]
   by_cases ek:k=k'
   ·subst ek
    have b1:(k == k)=true:=by simp
    rw[b1]
    simp only[decide_true,Option.map_some]
    exact⟨(fun z=>by cases z),fun v' z=>⟨e.val,rfl,by cases z;exact h3⟩⟩
   ·have b1:(k' == k)=false:=beq_eq_false_iff_ne.mpr fun z=>ek z.symm
    rw[b1]
    simp only[ek,decide_false]
    exact i4 k'
 | [],_::_,h=>False.elim h
 | _::_,[],h=>False.elim h
theorem pe {P:UJ} {w:UM} {K:PySem.W.Frag} {h:Heap} {a:UE} {es:Array DictEntry} {ep:Nat} {kvs:Dc} (KX:K.In h) (hl:K.lookup a=some ⟨.type "dict",none,.dict es ep,#[]⟩) (he:o_ w kvs es.toList) (nd:(kvs.map (·.1)).Nodup) :
  ∃vs:List (PySem.Str×UL),h.DictOf (PySem.strKind P w) a vs/\∀k,(kvs.lookup k=none->valueAt vs k=none)/\∀v,kvs.lookup k=some v->∃u,valueAt vs k=some u/\uR v u:=by
 obtain⟨vs,i1,i2,i3,i4⟩:=jh (P:=P) he
 exact⟨vs,⟨_,es,ep,KX a _ hl,⟨rfl,rfl,rfl⟩,rfl,fun e hm=>i3 e (by simpa using hm),i2,by rw[i1];exact nd⟩,i4⟩
section
variable {X:Cx}
def jj (neg:Bool) (kvs:Dc) (ga:GE):GE:=fun ρ st=>(ga ρ st).bind fun a st1=>match a with
 | .str k=> .ok (.bl ((kvs.lookup k).isSome != neg)) st1
 | _=> .bad
def Eo (kvs:Dc) (ga:GE):GE:=fun ρ st=>(ga ρ st).bind fun a st1=>match a with
 | .str k=>(match kvs.lookup k with | some w=> .ok w st1 | none=> .bad)
 | _=> .bad
def zM (neg:Bool) (kvs:Dc) (ty:TE):TE:=fun σ H Q=>ty σ H fun y H1=>∃z,y= .str z/\Q (.bl ((kvs.lookup z).isSome != neg)) H1
theorem zN {i:Expr} {ty:TE} {x:Str} {p:Pos} {kvs:Dc} (hi:PE X i ty) (hg:Gl X x) (hd:(x == ("__debug__":Str))=false) (D:kq X.K X.w X.mg x kvs):PC X .In i (.Name x p) (zM false kvs ty):=by
 intro pins s σ H Q I h
 obtain⟨a,es,ep,g1,g2,g3,g4,g5⟩:=D
 refine aM (hi pins s σ H _ I h) fun iv s1 ⟨y,H1,I1,ry,z,ey,q1⟩=>aM (eT (v:=.ref a) hg g1 rfl hd pins s1 σ H1 (fun v H2=>v= .ref a/\H2=H1) I1 ⟨rfl,rfl⟩) fun u s2 ⟨v,H2,I2,rv,ev,eH⟩=>?_
 subst ey ev eH
 obtain rfl:u=Value.ref a:=rv
 obtain⟨t,rfl⟩:=(show ∃t,iv=Value.str z t from ry)
 obtain⟨vs,dd,look⟩:=pe (P:=X.prog) (w:=X.w) I2.uh g2 g4 g5
 refine wpAny_in_of (strKind_is X.prog X.w z t) g3 dd.mapOf ⟨.bl (kvs.lookup z).isSome,_,I2.tok _,?_,by simpa using q1⟩
 obtain⟨l1,l2⟩:=look z
 cases e:kvs.lookup z with
 | none=>rw[l1 e];rfl
 | some w=>obtain⟨u,e1,_⟩:=l2 w e;rw[e1];rfl
theorem nZ {i:Expr} {ty:TE} {x:Str} {p:Pos} {kvs:Dc} (hi:PE X i ty) (hg:Gl X x) (hd:(x == ("__debug__":Str))=false) (D:kq X.K X.w X.mg x kvs):PC X .NotIn i (.Name x p) (zM true kvs ty):=by
 intro pins s σ H Q I h
 obtain⟨a,es,ep,g1,g2,g3,g4,g5⟩:=D
 refine aM (hi pins s σ H _ I h) fun iv s1 ⟨y,H1,I1,ry,z,ey,q1⟩=>aM (eT (v:=.ref a) hg g1 rfl hd pins s1 σ H1 (fun v H2=>v= .ref a/\H2=H1) I1 ⟨rfl,rfl⟩) fun u s2 ⟨v,H2,I2,rv,ev,eH⟩=>?_
 subst ey ev eH
 obtain rfl:u=Value.ref a:=rv
 obtain⟨t,rfl⟩:=(show ∃t,iv=Value.str z t from ry)
 obtain⟨vs,dd,look⟩:=pe (P:=X.prog) (w:=X.w) I2.uh g2 g4 g5
 refine wpAny_notIn_of (strKind_is X.prog X.w z t) g3 dd.mapOf ⟨.bl (!(kvs.lookup z).isSome),_,I2.tok _,?_,by simpa using q1⟩
 obtain⟨l1,l2⟩:=look z
 cases e:kvs.lookup z with
 | none=>rw[l1 e];rfl
 | some w=>obtain⟨u,e1,_⟩:=l2 w e;rw[e1];rfl
theorem hU {a:Expr} {ga:GE} {neg:Bool} {kvs:Dc} (ha:JE X a ga) {ρ:aS} {st:Hs} {σ:St} {H:Hp} {m:Mp} {Q:VK} (S:aK X.K m st H) (R:aq X.K m H ρ σ) (p:cD X σ m H (jj neg kvs ga ρ st) Q):zM neg kvs (SE X a) σ H Q:=by
 refine ha.go S R (ar.bind p) fun w st1 v m1 H1 p1 e1 S1 r1=>?_
 cases w with
 | str k=>
  unfold ae at r1
  exact⟨k,r1.1,p1 _ m1 H1 e1 S1 (by unfold ae;rfl)⟩
 | _=>exact False.elim p1
theorem CV {a:Expr} {ga:GE} {x:Str} {p pos:Pos} {kvs:Dc} (ha:JE X a ga) (hg:Gl X x) (hd:(x == ("__debug__":Str))=false) (D:kq X.K X.w X.mg x kvs):JE X (.Compare a [.In] [.Name x p] pos) (jj false kvs ga) :=
 JE.of (xH (zN az hg hd D) rfl) fun ρ st σ H m Q S R p=>hU ha S R p
theorem sW {a:Expr} {ga:GE} {x:Str} {p pos:Pos} {kvs:Dc} (ha:JE X a ga) (hg:Gl X x) (hd:(x == ("__debug__":Str))=false) (D:kq X.K X.w X.mg x kvs):JE X (.Compare a [.NotIn] [.Name x p] pos) (jj true kvs ga) :=
 JE.of (xH (nZ az hg hd D) rfl) fun ρ st σ H m Q S R p=>hU ha S R p
theorem CW {a:Expr} {ga:GE} {x:Str} {p pos:Pos} {kvs:Dc} (ha:JE X a ga) (hg:Gl X x) (hd:(x == ("__debug__":Str))=false) (D:kq X.K X.w X.mg x kvs):JT X (.Compare a [.In] [.Name x p] pos) (bp (jj false kvs ga)) :=
 JT.of (xJ (zN az hg hd D) rfl) fun ρ st σ H m Q S R p=>hU ha S R (iZ p)
theorem sZ {a:Expr} {ga:GE} {x:Str} {p pos:Pos} {kvs:Dc} (ha:JE X a ga) (hg:Gl X x) (hd:(x == ("__debug__":Str))=false) (D:kq X.K X.w X.mg x kvs):JT X (.Compare a [.NotIn] [.Name x p] pos) (bp (jj true kvs ga)) :=
 JT.of (xJ (nZ az hg hd D) rfl) fun ρ st σ H m Q S R p=>hU ha S R (iZ p)
def K3 (kvs:Dc) (ty:TE):TE:=fun σ H Q=>ty σ H fun y H1=>∃z w v,y= .str z/\kvs.lookup z=some w/\(∀u,uR w u->RelV v u)/\Q v H1
theorem CY {b:Expr} {ty:TE} {x:Str} {p pos:Pos} {kvs:Dc} (hb:PE X b ty) (hs:yj b) (hg:Gl X x) (hd:(x == ("__debug__":Str))=false) (D:kq X.K X.w X.mg x kvs):PE X (.Subscript (.Name x p) b pos) (K3 kvs ty):=by
 intro pins s σ H Q I h
 obtain⟨a,es,ep,g1,g2,g3,g4,g5⟩:=D
 refine uv PySem.F.slot_dict_getitem.lookup hs (aM (eT (v:=.ref a) hg g1 rfl hd pins s σ H (fun v H2=>v= .ref a/\H2=H) I ⟨rfl,rfl⟩) fun u s1 ⟨v,H1,I1,rv,ev,eH⟩=>?_)
 subst ev eH
 obtain rfl:u=Value.ref a:=rv
 refine aM (hb pins s1 σ H1 _ I1 h) fun iv s2 ⟨y,H2,I2,ry,z,w,v,ey,ew,ev,q⟩=>?_
 subst ey
 obtain⟨t,rfl⟩:=(show ∃t,iv=Value.str z t from ry)
 obtain⟨vs,dd,look⟩:=pe (P:=X.prog) (w:=X.w) I2.uh g2 g4 g5
 obtain⟨u,e1,e2⟩:=(look z).2 w ew
 exact⟨dd.typeIs,wpAny_getItem_of (strKind_is X.prog X.w z t) dd.mapOf e1 ⟨v,H2,I2.tok _,ev u e2,q⟩⟩
theorem CZ {b:Expr} {gb:GE} {x:Str} {p pos:Pos} {kvs:Dc} (hb:JE X b gb) (hs:yj b) (hg:Gl X x) (hd:(x == ("__debug__":Str))=false) (D:kq X.K X.w X.mg x kvs):JE X (.Subscript (.Name x p) b pos) (Eo kvs gb) :=
 JE.of (CY az hs hg hd D) fun ρ st σ H m Q S R p=>by
  refine hb.go S R (ar.bind p) fun w st1 v m1 H1 p1 e1 S1 r1=>?_
  cases w with
  | str k=>
   dsimp only at p1
   cases e:kvs.lookup k with
   | none=>rw[e] at p1;exact False.elim p1
   | some u=>
    rw[e] at p1
    unfold ae at r1
    cases u with
    | int i=>exact⟨k,.int i,.int i,r1.1,e,fun u h=>h,p1 _ m1 H1 e1 S1 (by unfold ae;rfl)⟩
    | str y=>
     by_cases hy:PyData.strOk y=true
     ·exact⟨k,.str y,.str y,r1.1,e,fun u h=>h.1,p1 _ m1 H1 e1 S1 (by unfold ae;exact⟨rfl,hy⟩)⟩
     ·obtain⟨a,es,ep,_,_,_,g4,_⟩:=D
      obtain⟨vs,_,_,_,i4⟩:=jh (P:=X.prog) g4
      obtain⟨u,_,e2⟩:=(i4 k).2 _ e
      exact absurd e2.2 hy
    | _=>
     obtain⟨a,es,ep,_,_,_,g4,_⟩:=D
     obtain⟨vs,_,_,_,i4⟩:=jh (P:=X.prog) g4
     obtain⟨u,_,e2⟩:=(i4 k).2 _ e
     exact False.elim e2
  | _=>exact False.elim p1
end
end J
namespace J
open PySem PySem.Spec PyProof.Rows PySem.W L2
section
variable (lt:Nat->Nat->Bool) (N:Nat)
def Kg {α:Type}:KasT α->(α->Prop)->Prop
 | .ret a,Q=>Q a
 | .ask i j k,Q=>(i < N/\j < N)/\Kg (k (lt i j)) Q
end
section
variable {lt:Nat->Nat->Bool} {N:Nat}
theorem Kg.bind {α β:Type} {f:α->KasT β} {Q:β->Prop}:∀{t:KasT α},Kg lt N t (fun a=>Kg lt N (f a) Q)->Kg lt N (t.bind f) Q
 | .ret a,h=>h
 | .ask i j k,h=>⟨h.1,Kg.bind (t:=k (lt i j)) h.2⟩
theorem Kg.imp {α:Type} {Q R:α->Prop} (hq:∀a,Q a->R a):∀{t:KasT α},Kg lt N t Q->Kg lt N t R
 | .ret a,h=>hq a h
 | .ask i j k,h=>⟨h.1,Kg.imp hq (t:=k (lt i j)) h.2⟩
structure Ord (lt:Nat->Nat->Bool):Prop where
 as:∀a b,lt a b=true->lt b a=false
 tr:∀a b c,lt a b=false->lt b c=false->lt a c=false
theorem Ord.Qn (o:Ord lt) (a:Nat):lt a a=false:=by
 cases h:lt a a with
 | false=>rfl
 | true=>have:=o.as a a h;rw[h] at this;cases this
abbrev at_ (p:Array Nat) (i:Nat):Nat:=p.getD i 0
structure Pm (N:Nat) (p:Array Nat):Prop where
 sz:p.size=N
 pm:p.toList.Perm (List.range N)
theorem Pm.bd {p:Array Nat} (h:Pm N p) {i:Nat} (hi:i < N):at_ p i < N:=by
 have e:at_ p i=p[i]'(by rw[h.sz];exact hi):=by simp[at_,Array.getD,h.sz,hi]
 rw[e]
 have:p[i]'(by rw[h.sz];exact hi)∈p.toList:=by simp
 exact List.mem_range.mp (h.pm.mem_iff.mp this)
theorem uS {p q:Array Nat} {i j:Nat} (h:p[i]? =q[j]?):at_ p i=at_ q j:=by
 unfold at_
 rw[Array.getD_eq_getD_getElem?,Array.getD_eq_getD_getElem?,h]
theorem zO {p:Array Nat} (h:Pm N p) {i j:Nat} (hj:j<=N) (k:Nat):at_ (kas_rev p i j) k=if i<=k/\k < j then at_ p (i+j - 1 - k) else at_ p k:=by
 have q:=getElem?_mirror_all (xs:=p) (i:=i) (j:=j) (by rw[h.sz];exact hj) k
 unfold kas_rev
 split
 ·rename_i c;rw[if_pos c] at q;exact uS q
 ·rename_i c;rw[if_neg c] at q;exact uS q
def Up (lt:Nat->Nat->Bool) (p:Array Nat) (k:Nat):Prop:=∀i j,i<=j->j < k->lt (at_ p j) (at_ p i)=false
def Dn (lt:Nat->Nat->Bool) (p:Array Nat) (k:Nat):Prop:=∀i j,i<=j->j < k->lt (at_ p i) (at_ p j)=false
theorem Up.succ (o:Ord lt) {p:Array Nat} {k:Nat} (h:Up lt p k) (hk:1<=k) (e:lt (at_ p k) (at_ p (k - 1))=false):Up lt p (k+1):=by
 intro i j hij hj
 by_cases c:j < k
 ·exact h i j hij c
 ·have:j=k:=by omega
  subst this
  by_cases c2:i=j
  ·subst c2;exact o.Qn _
  ·exact o.tr _ _ _ e (h i (j - 1) (by omega) (by omega))
theorem Dn.succ (o:Ord lt) {p:Array Nat} {k:Nat} (h:Dn lt p k) (hk:1<=k) (e:lt (at_ p (k - 1)) (at_ p k)=false):Dn lt p (k+1):=by
 intro i j hij hj
 by_cases c:j < k
 ·exact h i j hij c
 ·have:j=k:=by omega
  subst this
  by_cases c2:i=j
  ·subst c2;exact o.Qn _
  ·exact o.tr _ _ _ (h i (j - 1) (by omega) (by omega)) e
theorem Dn.up {p:Array Nat} (hp:Pm N p) {n:Nat} (hn:n<=N) (h:Dn lt p n):Up lt (kas_rev p 0 n) n:=by
 intro i j hij hj
 rw[zO hp hn,zO hp hn,if_pos ⟨by omega,hj⟩,if_pos ⟨by omega,by omega⟩]
 exact h _ _ (by omega) (by omega)
end
section
variable {prog:UJ} {w:UM} {A:UG} {E:UL->UK->Prop} {s:UK}
end
section
variable {X:Cx} {pins:List (UE×Obj)} {σ:St} {H:Hp} {s:UK}
end
theorem GY {h h':Heap} {L:UE} {m m':Str->Option UL} (a:h.Ns L m) (b:h.Ns L m') (c:h'.Ns L m):h'.Ns L m':=by
 obtain⟨o,es,ep,e1,e2,_,e4⟩:=a
 obtain⟨o',es',rQ,f1,f2,_,f4⟩:=b
 rw[e1] at f1
 cases f1
 rw[e2] at f2
 cases f2
 have:m=m':=funext fun x=>(e4 x).symm.trans (f4 x)
 rw[<-this]
 exact c
section
variable {X:Cx}
end
section
variable {prog:UJ} {w:UM} {A:UG} {E:UL->UK->Prop} {s:UK}
end
section
variable {X:Cx}
abbrev pw (p:Int×Int):Wv:=.tup [.int p.1,.int p.2]
end
end J
namespace J
open PySem PySem.Spec PyProof.Rows L2
def keysOf:List Wv->Option (List L2.Key)
 | []=>some []
 | w::r=>(match keyOf w,keysOf r with | some k,some l=>some (k::l) | _,_=>none)
def pf:Wv->Option (List L2.Key)
 | .tup ws=>keysOf ws
 | _=>none
theorem lX {K:PySem.W.Frag} {m:Mp} {H:Hp}:∀{ws:List Wv} {xs:List V} {ks:List L2.Key},ah K m H ws xs->keysOf ws=some ks->xs=ks.map kV
 | [],xs,ks,r,e=>by unfold ah at r;subst r;cases e;rfl
 | w::ws,xs,ks,r,e=>by
  unfold ah at r
  obtain⟨x,t,rfl,r1,r2⟩:=r
  unfold keysOf at e
  cases e1:keyOf w with
  | none=>rw[e1] at e;cases e
  | some k=>
   cases e2:keysOf ws with
   | none=>rw[e1,e2] at e;cases e
   | some l=>
    rw[e1,e2] at e
    cases e
    rw[jE r1 e1,lX r2 e2]
    rfl
theorem lY {K:PySem.W.Frag} {m:Mp} {H:Hp} {w:Wv} {v:V} {ks:List L2.Key} (r:ae K m H w v) (e:pf w=some ks):∃b,v= .ref b/\H b=some (.tup (ks.map kV)):=by
 cases w with
 | tup ws=>
  unfold ae at r
  obtain⟨a,xs,rfl,h1,h2⟩:=r
  rw[lX h2 e] at h1
  exact⟨a,rfl,h1⟩
 | _=>cases e
def j8:GE:=fun _ st=> .ok (.ref st.length) (st++[.bM []])
def Ep:GE:=fun _ st=> .ok (.ref st.length) (st++[.dct []])
section
variable {X:Cx}
theorem C0 {pos:Pos}:JE X (.Dict [] [] pos) j8:=JE.of yp fun ρ st σ H m Q S R p=>fun q hq=>
 p (.ref q) (m++[q]) _ (Ext.more.trans (Ext.gw (.inl hq))) (S.sr hq ⟨[],ay,RelK.nil⟩) (S.newest q _)
theorem C2 {pos:Pos}:JE X (.Dict [] [] pos) Ep:=JE.of yo fun ρ st σ H m Q S R p=>fun q hq=>
 p (.ref q) (m++[q]) _ (Ext.more.trans (Ext.gw (.inl hq))) (S.sr hq ⟨[],ay,RelK.nil⟩) (S.newest q _)
def putD (d k v:Wv) (st:Hs):Option Hs:=match d with
 | .ref l=>(match st[l]? with
  | some (.dct kvs)=>(match keyOf k with | some kk=>if kvs.length < lim then some (st.set l (.dct (o9 kvs kk v))) else none | none=>none)
  | some (.bM kvs)=>(match pf k with | some kk=>if kvs.length < lim then some (st.set l (.bM (o9 kvs kk v))) else none | none=>none)
  | _=>none)
 | _=>none
def n4 (gv gd gk:GE):GS:=fun ρ st=>(gv ρ st).aM ρ fun v st1=>(gd ρ st1).aM ρ fun d st2=>(gk ρ st2).aM ρ fun k st3=>match putD d k v st3 with
 | some uy=> .nx ρ uy
 | none=> .bad
theorem C3 {m:Mp} {st st':Hs} {H:Hp} {d k v:Wv} {x y z:V} (S:aK X.K m st H) (rd:ae X.K m H d x) (rk:ae X.K m H k y) (rv:ae X.K m H v z) (e:putD d k v st=some st'):∃a H',x= .ref a/\oM H a y z H'/\Ext X.K m H m H'/\aK X.K m st' H':=by
 unfold putD at e
 cases d with
 | ref l=>
  dsimp only at e
  unfold ae at rd
  obtain⟨a,rfl,ha⟩:=rd
  cases e1:st[l]? with
  | none=>rw[e1] at e;cases e
  | some o=>
   rw[e1] at e
   cases o with
   | dct kvs=>
    dsimp only at e
    cases e2:keyOf k with
    | none=>rw[e2] at e;cases e
    | some kk=>
     rw[e2] at e
     dsimp only at e
     by_cases c:kvs.length < lim
     ·rw[if_pos c] at e
      cases e
      obtain⟨xs,h1,h2⟩:=(show ∃ys,H a=some (.dK ys)/\RelK X.K m H kvs ys from S.obj _ _ _ ha e1)
      have ex:Ext X.K m H m (upd H a (.dK (putK xs kk z))):=Ext.gw (.inr (.inr (.inl ⟨_,h1⟩)))
      refine⟨a,_,rfl,by rw[jE rk e2];exact oM.k h1 (by rw[<-h2.length];exact sv c),ex,?_⟩
      exact S.jx ha e1 rfl ⟨_,ay,(h2.put kk rv).mono ex⟩
     ·rw[if_neg c] at e;cases e
   | bM kvs=>
    dsimp only at e
    cases e2:pf k with
    | none=>rw[e2] at e;cases e
    | some kk=>
     rw[e2] at e
     dsimp only at e
     by_cases c:kvs.length < lim
     ·rw[if_pos c] at e
      cases e
      obtain⟨xs,h1,h2⟩:=(show ∃ys,H a=some (.dT ys)/\RelK X.K m H kvs ys from S.obj _ _ _ ha e1)
      obtain⟨b,rfl,hb⟩:=lY rk e2
      have ex:Ext X.K m H m (upd H a (.dT (putK xs kk z))):=Ext.gw (.inr (.inr (.inr ⟨_,h1⟩)))
      refine⟨a,_,rfl,oM.t h1 hb (by rw[<-h2.length];exact sv c),ex,?_⟩
      exact S.jx ha e1 rfl ⟨_,ay,(h2.put kk rv).mono ex⟩
     ·rw[if_neg c] at e;cases e
   | _=>cases e
 | _=>cases e
theorem C4 {o i e:Expr} {go gi ge:GE} {pos pos':Pos} (hu:X.A.units+1 < cLine) (he:JE X e ge) (ho:JE X o go) (hi:JE X i gi) (hs:swapsWith e (some (.Subscript o i pos')) pos.line X.env=pure false):JS X (.Assign [.Subscript o i pos'] e pos) (n4 ge go gi) :=
 JS.of (B2 hu az az az hs) fun ρ st σ H m D S R p=>by
  refine he.go S R (av.bo R p) fun v st1 vv m1 H1 p1 e1 S1 rv=>?_
  refine ho.go S1 (R.mono e1) ((av.bo (m:=m) (H:=H) R p1).imp e1 fun _ _ q=>q) fun d st2 vd m2 H2 p2 e2 S2 rd=>?_
  refine hi.go S2 (R.mono (e1.trans e2)) ((av.bo (m:=m) (H:=H) R p2).imp (e1.trans e2) fun _ _ q=>q) fun k st3 vk m3 H3 p3 e3 S3 rk=>?_
  have we:=e1.trans (e2.trans e3)
  cases e4:putD d k v st3 with
  | none=>rw[e4] at p3;exact False.elim p3
  | some uy=>
   rw[e4] at p3
   obtain⟨a,H4,f1,f2,f3,f4⟩:=C3 (X:=X) S3 (ae.mono e3 _ _ rd) rk (ae.mono (e2.trans e3) _ _ rv) e4
   exact⟨a,H4,f1,f2,p3 σ m3 H4 (we.trans f3) f4 (R.mono (we.trans f3))⟩
end
end J
namespace J
open PySem PySem.Spec PyProof.Rows PySem.W L2
def lZ (h:Heap) (d:UE) (es:Array DictEntry) (ep:Nat):Prop:=∃o,h.get? d=some o/\o.cls= .type "dict"/\o.data= .dict es ep
section
variable {prog:UJ} {w:UM} {A:UG} {E:UL->UK->Prop} {s:UK} {d it:UE} {es:Array DictEntry} {ep i:Nat}
theorem lZ.ty (x:lZ s.heap d es ep):s.TypeIs (.ref d) "dict":=let ⟨o,h1,h2,_⟩:=x;⟨o,h1,h2⟩
theorem qL {Q:UL->UK->Prop} (lo:(d == sysModules)=false) (x:lZ s.heap d es ep)
  (k:Q (.ref s.heap.objs.size) { s with heap:=s.heap.push { cls:=.type "dict_keyiterator",data:=.fields #[.ref d,.int 0 0,.int es.size 0,.int ep 0] } }):UZ (model prog w) A (pyIter (.ref d)) Q E s:=by
 have ty:=x.ty
 obtain⟨o,g1,g2,g3⟩:=x
 refine wpAny_pyIter_slot ty PySem.F.slot_dict_iter (wpAny_call_entry PySem.F.slot_dict_iter ty PySem.F.entry_dict_iter ?_ (PySem.F.args_dict_iter_1 _))
 unfold Builtin.«dict.__iter__» Builtin.Dict.dictSlotNone
 refine U0 (U0 (wpAny_notOrdered_dict ty (U6 ?_)))
 unfold Builtin.Dict.showsAll
 have nlo:¬(d == sysModules)=true:=by rw[lo];exact Bool.false_ne_true
 refine U0 (show UZ _ _ (pure d) _ _ s from U6 (U0 ?_))
 rw[if_neg nlo]
 exact U6 (U0 (U1 g1 g3 (U0 (wpAny_dictEpoch g1 g3 (U0 (U5 (U6 ⟨_,rfl,"dict_keyiterator",_,⟨_,Heap.get?_push_size _ rfl,rfl⟩,PySem.F.slot_dict_keyiterator_next.lookup,by simpa [rawInt] using k⟩)))))))
theorem qM {Q:Option UL->UK->Prop} (ki:s.heap.IsKeyIter it d i es.size ep) (x:lZ s.heap d es ep) (hi:i < es.size)
  (k:∀h',h'.IsKeyIter it d (i+1) es.size ep->Heap.SameBut it s.heap h'->Q (some es[i].key) { s with heap:=h' }):UZ (model prog w) A (pyNext (.ref it)) Q E s:=by
 have ty:=ki.typeIs
 obtain⟨oi,f1,f2,f3⟩:=id ki
 obtain⟨o,g1,g2,g3⟩:=x
 have own:Builtin.Dict_items.ownsTuple "dict_keyiterator"=false:=by decide
 have nn:¬((Value.ref d == Value.none)=true):=Bool.false_ne_true
 unfold pyNext
 refine U0 (wpAny_attempt (wpAny_callSpecial?_slot (name:=Str.ofString "__next__") ty PySem.F.slot_dict_keyiterator_next (wpAny_call_entry PySem.F.slot_dict_keyiterator_next ty PySem.F.entry_dict_keyiterator_next ?_ (PySem.F.args_dict_keyiterator_next_1 _))))
 refine U0 (U6 (U0 (U0 ?_)))
 first | refine U0 (wpAny_typeNameOfWhole_keyiter ty (U6 (U0 (wpAny_fieldsOf f1 f3 ?_)))) | refine U0 (wpAny_typeNameOf_keyiter ty (U6 (U0 (wpAny_fieldsOf f1 f3 ?_))))
 simp only[own,Bool.false_eq_true,if_false]
 refine(show UZ _ _ (if(Value.ref d == Value.none)=true then _ else _) _ _ s from ?_);rw[if_neg nn]
 refine U0 (U6 (U0 (U1 g1 g3 ?_)))
 rw[if_neg (by simp)]
 refine U0 (U6 (U0 (wpAny_dictEpoch g1 g3 ?_)))
 rw[if_neg (by simp)]
 refine U6 ?_
 have n0:¬((i:Int) < 0):=by omega
 simp only[n0,if_false,Int.toNat_natCast,Array.getElem?_eq_getElem hi]
 refine U0 ?_
 first | refine U0 (wpAny_typeNameOfWhole_keyiter ty (U6 (U0 (wpAny_isOneOf_keyiter ty ?_)))) | refine U0 (wpAny_typeNameOf_keyiter ty (U6 (U0 (wpAny_isOneOf_keyiter ty ?_))))
 refine(show UZ _ _ (setField (.ref it) 1 (rawInt ((i:Int)+1)) >>= _) _ _ s from ?_)
 have K4:(s.heap.update it (Obj.mapFields (·.setIfInBounds 1 (rawInt ((i:Int)+1))))).IsKeyIter it d (i+1) es.size ep:=⟨_,Heap.get?_update_self _ f1 (Obj.isFreed_of_fields (Obj.data_mapFields f3 _)),(Obj.cls_mapFields ..).trans f2,by rw[Obj.data_mapFields f3];simp[rawInt]⟩
 refine U0 (wpAny_setField f1 f3 (by simp) (U0 (U2 (U0 (wpAny_isOneOf_keyiter (s:={ s with heap:=s.heap.update it (Obj.mapFields (·.setIfInBounds 1 (rawInt ((i:Int)+1)))) }) K4.typeIs ?_)))))
 exact(show UZ _ _ (pure es[i].key) _ _ _ from U6 (U6 ⟨_,rfl,U6 (k _ K4 (Heap.SameBut.update ..))⟩))
theorem uT {Q:Option UL->UK->Prop} (hh:A.handled=none) (ki:s.heap.IsKeyIter it d i es.size ep) (x:lZ s.heap d es ep) (hi:es.size<=i) (k:∀h',Heap.ExtBut it s.heap h'->Q none { s with heap:=h' }):UZ (model prog w) A (pyNext (.ref it)) Q E s:=by
 have ty:=ki.typeIs
 obtain⟨oi,f1,f2,f3⟩:=id ki
 obtain⟨o,g1,g2,g3⟩:=x
 have own:Builtin.Dict_items.ownsTuple "dict_keyiterator"=false:=by decide
 have nn:¬((Value.ref d == Value.none)=true):=Bool.false_ne_true
 unfold pyNext
 refine U0 (wpAny_attempt (wpAny_callSpecial?_slot (name:=Str.ofString "__next__") ty PySem.F.slot_dict_keyiterator_next (wpAny_call_entry PySem.F.slot_dict_keyiterator_next ty PySem.F.entry_dict_keyiterator_next ?_ (PySem.F.args_dict_keyiterator_next_1 _))))
 refine U0 (U6 (U0 (U0 ?_)))
 first | refine U0 (wpAny_typeNameOfWhole_keyiter ty (U6 (U0 (wpAny_fieldsOf f1 f3 ?_)))) | refine U0 (wpAny_typeNameOf_keyiter ty (U6 (U0 (wpAny_fieldsOf f1 f3 ?_))))
 simp only[own,Bool.false_eq_true,if_false]
 refine(show UZ _ _ (if(Value.ref d == Value.none)=true then _ else _) _ _ s from ?_);rw[if_neg nn]
 refine U0 (U6 (U0 (U1 g1 g3 ?_)))
 rw[if_neg (by simp)]
 refine U0 (U6 (U0 (wpAny_dictEpoch g1 g3 ?_)))
 rw[if_neg (by simp)]
 refine U6 ?_
 have n0:¬((i:Int) < 0):=by omega
 simp only[n0,if_false,Int.toNat_natCast,Array.getElem?_eq_none hi]
 refine U0 ?_
 first | refine U0 (wpAny_typeNameOfWhole_keyiter ty (U6 ?_)) | refine U0 (wpAny_typeNameOf_keyiter ty (U6 ?_))
 refine(show UZ _ _ (setField (.ref it) 0 .none >>= _) _ _ s from U0 (wpAny_setField f1 f3 (by simp) ?_))
 refine(show UZ _ _ (newExc (.type "StopIteration") [] >>= _) _ _ _ from ?_)
 simp only[newExc,newTuple,raiseNew]
 refine U0 (U0 (U5 (U0 (m:=firstArgMember _ _) (wpAny_of_eq (a:=Value.none) (by first | rfl | (simp only[firstArgMember];rfl)) (U5 ?_ (by size_fits)))) (by size_fits)))
 refine(U0 (wpAny_handled ?_))
 rw[show A.in1.handled=none by exact hh]
 refine(U0 (U6 (wpAny_throw ?_)))
 refine U0 (wpAny_isInstance (b:=true) (T:="StopIteration") ⟨_,Heap.get?_push_size _ rfl,rfl⟩ isSubtype_stop (U6 ?_))
 refine k _ ?_;exact((Heap.SameBut.update ..).extBut.push _).push _
theorem wY (hh:A.handled=none) (I:UE) (hne:d≠I):Walks prog w A I [I,d] [I] es.size (fun i v=>∃h:i < es.size,v=es[i].key) (fun i h=>h.IsKeyIter I d i es.size ep/\lZ h d es ep) where
 sub:=fun b hb=>List.mem_cons.mpr (.inl (List.mem_singleton.mp hb))
 frame:=fun _ _ _ st hk=>⟨st.1.at fun o e=>hk I (by simp) o e,let ⟨o,e1,e2⟩:=st.2;⟨o,hk d (by simp) o e1,e2⟩⟩
 item:=fun i s Q E hi st hQ=>qM st.1 st.2 hi fun h' ki sb=>hQ _ h' s.toks ⟨hi,rfl⟩ ⟨ki,let ⟨o,e1,e2⟩:=st.2;⟨o,sb.extBut d o hne e1,e2⟩⟩ fun b o hb e=>sb.extBut b o (fun z=>hb (by simp[z])) e
 done:=fun s Q E st hQ=>uT hh st.1 st.2 (Nat.le_refl _) fun h' eb=>hQ h' s.toks fun b o hb e=>eb b o (fun z=>hb (by simp[z])) e
 self:=fun _ _ _ _ st k=>wpAny_pyIter_keyiter st.1 k
theorem C5 (lo:(d == sysModules)=false):KdlSrc prog w "dict" d d es.size (fun i v=>∃h:i < es.size,v=es[i].key) (fun h=>lZ h d es ep) where
 type:=fun _ x=>x.ty
 there:=fun _ x=>let ⟨o,e,_⟩:=x;⟨Heap.lt_size e,Heap.lt_size e⟩
 keep:=fun _ _ x hk=>let ⟨o,e,r⟩:=x;⟨o,hk d (.inl rfl) o e,r⟩
 notList:=by decide
 notTuple:=by decide
 hint:=fun _ _ _ _ x hq=>kdl_hint_dict x.ty hq
 iter:=fun _ s hh x=>⟨_,_,(fun _ _ hq=>qL lo x hq),wY hh _ (by obtain⟨o,e,_⟩:=x;exact Nat.ne_of_lt (Heap.lt_size e)),⟨⟨_,Heap.get?_push_size _ rfl,rfl,rfl⟩,let ⟨o,e,r⟩:=x;⟨o,Heap.get?_push_of_some _ e,r⟩⟩⟩
end
abbrev Ml (H:Hp):List V->List (List L2.Key)->Prop:=Paired fun v k=>∃b,v= .ref b/\H b=some (.tup (k.map kV))
theorem uU {H:Hp}:∀{kvs:List (List L2.Key×V)} {xs:List (List L2.Key×UE×UL)},KT H kvs xs->Ml H (xs.map fun x=>V.ref x.2.1) (kvs.map (·.1))
 | _,_,.nil=> .nil
 | _,_,.cons h t=> .cons ⟨_,rfl,h.2.1⟩ (uU t)
theorem n5 {α:Type} (f:α->UE):∀xs:List α,Vals (xs.map fun x=>V.ref (f x)) (xs.map fun x=>Value.ref (f x))
 | []=> .nil
 | x::r=> .cons rfl (n5 f r)
section
variable {X:Cx}
theorem s_:bL X (.type "list") (fun xs H Q=>∃(p:UE) (kvs:List (List L2.Key×V)),xs=[.ref p]/\H p=some (.dT kvs)/\X.A.handled=none/\∀l vs',H l=none->Ml H vs' (kvs.map (·.1))->Q (.ref l) (upd H l (.lst vs'))):=by
 intro pins s σ H xs us Q I r h
 obtain⟨p,kvs,rfl,hp,hh,q⟩:=h
 obtain⟨u,rfl,rx⟩:=vals1 r
 cases rx
 obtain⟨z,lo,ys,kt,o,es,ep,g1,g2,g3,g4,g5,g6⟩:=yi I.hok hp
 have len:es.size=ys.length:=by have:=congrArg List.length g4;simpa using this
 have GZ:kvs.length=ys.length:=kt.length
 obtain⟨m,hn,hl⟩:=id I.loc
 have raw:lZ s.heap p es ep:=⟨o,g1,g2.1,g3⟩
 refine kdl_N (C5 lo) hh (Att.FH hn) (xE (g:=Att.oK s.heap) (h:=s.heap) (L:=X.env.locals)) raw (by rw[len,<-GZ];exact z) fun D c h'' tk vs Qo Oi hD hlen hv=>?_
 have Sh:vs=ys.map fun x=>Value.ref x.2.1:=by
  refine List.ext_getElem? fun j=>?_
  cases e:vs[j]? with
  | none=>
   have hj:vs.length<=j:=by simpa using e
   rw[List.getElem?_eq_none]
   simp
   omega
  | some v=>
   obtain⟨hj,ev⟩:=hv j v e
   have hj':j < ys.length:=by omega
   have q1:es.toList[j]'(by simpa using hj)=entryOfKey (tupleKind (aV X.prog X.w)) ys[j]:=by
    have:es.toList[j]? =(ys.map (entryOfKey (tupleKind (aV X.prog X.w))))[j]?:=by rw[g4]
    rw[List.getElem?_eq_getElem (by simpa using hj),List.getElem?_map,List.getElem?_eq_getElem hj'] at this
    simpa using this
   rw[List.getElem?_map,List.getElem?_eq_getElem hj',ev]
   have q2:es[j]=es.toList[j]'(by simpa using hj):=by simp
   rw[q2,q1]
   rfl
 subst Sh
 have hDL:D≠X.env.locals:=(Oi (D,_) List.mem_cons_self).2.1
 have uV:∀b o,b≠X.env.locals->s.heap.get? b=some o->h''.get? b=some o:=fun b o n e=>(Oi (b,o) (List.mem_cons_of_mem _ (jP n (Att.iB _ _) e))).1
 have Qp:s.heap.get? D=none:=by
  cases e:s.heap.get? D with
  | none=>rfl
  | some o=>exact absurd (hD (D,o) (jP hDL (Att.iB _ _) e)) (Nat.lt_irrefl _)
 have Qq:H D=none:=by
  cases e:H D with
  | none=>rfl
  | some ob=>
   obtain⟨z,e'⟩:=nN (I.hok D ob e)
   rw[Qp] at e'
   cases e'
 have K5:∀b u,H b=some u->b≠D:=fun b u e=>bf e Qq
 have Jk:∀b u,H b=some u->b≠X.env.locals:=fun b u e=>bf e I.free
 have I':Inv X pins σ (upd H D (.lst (ys.map fun x=>V.ref x.2.1))) { s with heap:=h'',toks:=tk }:=by
  refine I.step (g':=s.gens) (d':=s.drawn) (t':=tk) (ch:=[]) (fun _ z=>nomatch z) (fun b o n _ _ e _=>uV b o n e) (fun b o n _ _ e _=>⟨o.slots,uV b o n e⟩) (fun b o _ e n=>?_) (fun b o _ e=>?_) (fun b xs e=>?_) (fun b o u e=>?_) (fun b ps e=>?_) (fun m' hm=>GY hn hm Qo.ns) (fun b ob e=>?_) I.bare
  ·rw[ao (fun z=>by subst z;rw[Qp] at e;cases e)];exact n
  ·by_cases z:b=X.env.locals
   ·subst z
    obtain⟨o',_,_,e',_⟩:=Qo.ns
    exact⟨o',e'⟩
   ·exact⟨o,uV b o z e⟩
  ·rw[ao (K5 _ _ e)];exact e
  ·rw[ao (K5 _ _ e)];exact e
  ·exact⟨#[],by rw[ao (K5 _ _ e),e];simp⟩
  ·by_cases z':b=D
   ·subst z'
    rw[ay] at e
    cases e
    exact⟨by rw[List.length_map,<-GZ];exact z,_,c,n5 (fun x=>x.2.1) ys,(Oi (b,_) List.mem_cons_self).1⟩
   ·rw[ao z'] at e
    refine(I.hok b ob e).stay (fun c v hc q=>uV c v ?_ q) (fun c q=>by rw[ao (K5 _ _ q)];exact q) fun c xs q=>by rw[ao (K5 _ _ q)];exact q
    rcases hc with y | y
    ·rw[y];exact Jk b ob e
    ·exact Jk c _ y
 exact⟨.ref D,_,I',rfl,q D _ Qq (uU kt)⟩
end
def qN:List L2.Key->Option (List Int)
 | []=>some []
 | .inl i::r=>(match qN r with | some l=>some (i::l) | none=>none)
 | _=>none
theorem ph:∀{ks:List L2.Key} {ns:List Int},qN ks=some ns->ks.map kV=ns.map V.int
 | [],ns,e=>by cases e;rfl
 | .inl i::r,ns,e=>by
  unfold qN at e
  cases q:qN r with
  | none=>rw[q] at e;cases e
  | some l=>rw[q] at e;cases e;rw[List.map_cons,List.map_cons,ph q];rfl
 | .inr x::r,ns,e=>by cases e
def et:List (List L2.Key)->Option (List Wv)
 | []=>some []
 | k::r=>(match qN k,et r with | some ns,some l=>some (.tup (ns.map Wv.int)::l) | _,_=>none)
theorem n6 {K:PySem.W.Frag} {m:Mp} {H:Hp}:∀{vs:List V} {ks:List (List L2.Key)} {ws:List Wv},Ml H vs ks->et ks=some ws->ah K m H ws vs
 | _,_,ws,.nil,e=>by cases e;exact ah.nil
 | _,_,ws,.cons (b:=k) (l₂:=ks) h t,e=>by
  obtain⟨b,rfl,hb⟩:=h
  unfold et at e
  cases q1:qN k with
  | none=>rw[q1] at e;cases e
  | some ns=>
   cases q2:et ks with
   | none=>rw[q1,q2] at e;cases e
   | some l=>
    rw[q1,q2] at e
    cases e
    refine ah.cons ?_ (n6 t q2)
    rw[ph q1] at hb
    unfold ae
    exact⟨b,_,rfl,hb,ah.ints ns⟩
def jF:List Wv->Hs->Re Wv
 | [.ref l],st=>match st[l]? with
  | some (.bM kvs)=>(match et (kvs.map (·.1)) with | some ws=> .ok (.ref st.length) (st++[.lst ws]) | none=> .bad)
  | _=>iF [.ref l] st
 | ws,st=>iF ws st
section
variable {X:Cx}
theorem qO (hc:X.calm=true):bL X (.type "list") (fun xs H Q=>∃(p:UE) (kvs:List (List L2.Key×V)),xs=[.ref p]/\H p=some (.dT kvs)/\∀l vs',H l=none->Ml H vs' (kvs.map (·.1))->Q (.ref l) (upd H l (.lst vs'))):=by
 intro pins s σ H xs us Q I r h
 obtain⟨p,kvs,e,hp,q⟩:=h
 exact s_ pins s σ H xs us Q I r ⟨p,kvs,e,hp,I.ok.hd hc,q⟩
theorem zP (hc:X.calm=true):bx X (.type "list") jF:=by
 obtain⟨rr,h1,h2⟩:=CH (X:=X)
 refine⟨_,(qO hc).or h1,fun ws vs st H m Q S rs p=>?_⟩
 have other:bC X.K m H (iF ws st) Q->rr vs H Q:=fun p=>h2 ws vs st H m Q S rs p
 match ws,rs,p,other with
 | [],rs,p,other=>exact .inr (other p)
 | x::y::t,rs,p,other=>exact .inr (other (by cases x<;>exact p))
 | [x],rs,p,other=>
  cases x with
  | ref l=>
   unfold jF at p
   cases e:st[l]? with
   | none=>simp only[e] at p;exact .inr (other p)
   | some o=>
    simp only[e] at p
    cases o with
    | bM kvs=>
     dsimp only at p
     cases e2:et (kvs.map (·.1)) with
     | none=>rw[e2] at p;exact False.elim p
     | some us=>
      rw[e2] at p
      obtain⟨v,rfl,r1⟩:=ie rs
      unfold ae at r1
      obtain⟨a,rfl,ha⟩:=r1
      obtain⟨xs,g1,g2⟩:=(show ∃ys,H a=some (.dT ys)/\RelK X.K m H kvs ys from S.obj _ _ _ ha e)
      refine .inl ⟨a,xs,rfl,g1,fun k vs' hk hy=>?_⟩
      rw[<-g2.1] at hy
      exact p (.ref k) (m++[k]) _ (Ext.more.trans (Ext.upd (.inl hk))) (S.alloc hk (n6 hy e2)) (S.newest k _)
    | _=>exact .inr (other p)
  | _=>exact .inr (other p)
end
end J
namespace J
open PySem L2 PyProof.Rows
section
open PySem.SeqAt PySem.MeetsSeq PySem.MeetsSeq2 PySem.MeetsSeq3
end
variable {X:Cx}
def oLe:dD:=fun x y st=>Kf x y st
theorem G0 (hu:X.A.units+64 < cLine):gz X (US .LtE) oLe:=Ki
def oLt:dD:=fun x y st=>Ke x y st
theorem G5 (hu:X.A.units+64 < cLine):gz X (US .Lt) oLt:=Kh
end J
namespace J
open PySem PySem.Spec PyProof.Rows L2
structure dF (k:Nat) (A:UG):Prop where
 d:A.depth+3 * k+5 < recursionLimit
 u:A.units+16 * k+200 < cLine
theorem dF.of {k:Nat} {A:UG} (r:gD k A):dF k A:=⟨r.dp,r.un⟩
theorem dF.less {j k:Nat} {A:UG} (r:dF k A) (h:j<=k):dF j A:=⟨by have:=r.d;omega,by have:=r.u;omega⟩
theorem dF.down {k:Nat} {A:UG} (r:dF (k+1) A) (env:Env):dF k (A.deeper env) :=
 ⟨by have q:=r.d;show A.depth+1+3 * k+5 < _;omega,by have q:=r.u;show A.units+3+16 * k+200 < _;omega⟩
theorem dF.Si {k:Nat} {A:UG} (r:dF k A):A.units+64 < cLine:=by have:=r.u;omega
structure zQ (P:UJ) (w:UM) (K:PySem.W.Frag) (mg:Str->Option UL) (base:Heap) (k:Nat) (f:UE) (fd:UH) (ps:List Str) (sp:Sp):Prop where
 n:∀vs H Q E,sp vs H Q E->vs.length=ps.length
 go:∀(A:UG) (outer:List Env) (s:UK) (H:Hp) (args:Args) (us:List UL) (vs:List V) (Q:VK) (E:XK),dF k A->wB A H->rY P w K mg base A outer s H->
  BindsTo s fd args (ps.zip us)->Vals vs us->sp vs H Q E->UQ (model P w) A (.call (.ref f) args) (CR (CXJ P w) outer P w H s Q E) s
section
variable {P:UJ} {w:UM} {K:PySem.W.Frag} {mg:Str->Option UL} {base:Heap}
def C6 (P:UJ) (w:UM) (K:PySem.W.Frag) (mg:Str->Option UL) (base:Heap) (N:List Str) (qual:Str) (scope:Scope) (f:UE) (cd:UL) (A:UG) (outer:List Env) (s:UK) (H:Hp) (E:XK):Cx :=
 { k8 (CXJ P w) P w K mg base N qual scope f cd A outer s H E with calm:=false }
theorem G6 {N ps:List Str} {qual:Str} {scope:Scope} {f:UE} {cd:UL} {A:UG} {outer:List Env} {s s1:UK} {H:Hp} {E:XK} {us:List UL} {vs:List V} (S:FnScope N ps scope) (z:rY P w K mg base A outer s H) (ln:vs.length=ps.length) (r:Vals vs us)
  (x:InCallC s s.heap.objs.size (bindL (envOfC qual scope s.heap.objs.size f cd).kindOf (ps.zip us) fun _=>none) (cellsFrom (s.heap.objs.size+1) scope.names []) (bindC (envOfC qual scope s.heap.objs.size f cd).kindOf (ps.zip us) fun _=>none) s1) :
  Inv (C6 P w K mg base N qual scope f cd A outer s H E) [] (start N vs) H s1:=by
 have z':rY P w K mg base { A with handled:=none } outer s H:=⟨z.frames,z.mod,z.bs,z.Bp,z.iy,z.Bt,z.hok,z.bare⟩
 have I:=nB (CX:=CXJ P w) (E:=E) (cd:=cd) (A:={ A with handled:=none }) S rfl z' ln r x
 have o:=I.ok
 exact⟨⟨o.mod,o.kind,o.glob,o.blt,o.above,o.inj,o.has,o.IY,(fun h=>by cases h),o.frames,o.stk,o.MU,o.bs,o.Bp,o.vL,o.xF,o.iy,o.Bt⟩,I.os,I.bare,I.base,I.loc,I.cell,I.free,I.dC,I.pin,I.hok,I.len⟩
theorem K6 {N:List Str} {qual:Str} {scope:Scope} {f:UE} {cdv:UL} {A:UG} {outer:List Env} {s s':UK} {H H':Hp} {E:XK} {σ:St} {c:PySem.Str} {e:UL}
  (r:oP (C6 P w K mg base N qual scope f cdv A outer s H E) σ H' c e s') (h:∀C,ClsAt K c C->E (.ref C) none H'):(C6 P w K mg base N qual scope f cdv A outer s H E).xe e s':=by
 obtain⟨C,pins,Hc,sc,hC,I,r⟩:=r
 rcases r with fl | ⟨rfl,a,args,rfl,ho,hg,M⟩
 ·exact jW (X:=C6 P w K mg base N qual scope f cdv A outer s H E) rfl rfl rfl I fl fun s2 rR=>⟨H',C,rR,h C hC⟩
 ·exact lJ (X:=C6 P w K mg base N qual scope f cdv A outer s H E) rfl rfl rfl I ho hg M fun s2 rR=>⟨H',C,rR,h C hC⟩
theorem Oj {x qual:Str} {st:Stmt} {f:UE} {fd:UH} {N ps:List Str} {k:Nat} {g:GS} (F:DY K x qual st f fd) (S:FnScope N ps (defScope st))
  (body:∀(cdv:UL) (A:UG) (outer:List Env) (s:UK) (H:Hp) (E:XK),dF k (A.deeper (envOfC qual (defScope st) s.heap.objs.size f cdv))->sH (C6 P w K mg base N qual (defScope st) f cdv A outer s H E)->ip (C6 P w K mg base N qual (defScope st) f cdv A outer s H E) (defBody st) g) :
  zQ P w K mg base (k+1) f fd ps (spW K ps.length (dZ N.length g)):=by
 have hpl:ps.length<=N.length:=by have:=congrArg List.length S.pre;rw[List.length_take] at this;omega
 obtain⟨oc,od,kV,doc,pm,an,cdv,ct,osl,rfl,lk,hcd⟩:=F.ex
 have len:∀vs H Q E,spW K ps.length (dZ N.length g) vs H Q E->vs.length=ps.length:=fun vs H Q E h=>by
  obtain⟨m,st',ws,_,r,hl,_⟩:=h
  rw[<-r.length];exact hl
 refine⟨len,fun A outer s H args us vs Q E hr ha z hb r BL=>?_⟩
 have ln:=len _ _ _ _ BL
 have kx:K.In s.heap:=z.mod.E1.keeps fun b o q=>(z.bs b o q).1
 have nl:s.heap.NoLimit:=z.mod.nolimit.keeps fun b o q=>(z.bs b o q).1
 have kinds:∀y∈ps.zip us,(defScope st).names.lookup y.1=some .local\/((defScope st).names.lookup y.1=some .cell/\((cellsFrom (s.heap.objs.size+1) (defScope st).names []).lookup y.1).isSome=true):=fun y hy=>by
  rcases S.par y.1 (List.of_mem_zip hy).1 with t | t
  ·exact .inl t
  ·exact .inr ⟨t,PySem.W.cellsFrom_some _ _ _ (.inl t)⟩
 refine codeAny_call_function (by have:=hr.d;omega) (kx _ _ lk) rfl S.co S.gen rfl (PySem.W.codeRec_of kx hcd) (hb _ _ _ _ ?_)
 refine wpAny_newFunctionEnv_cells S.kind kinds fun env he s1 y=>?_
 subst he
 refine⟨nl.keeps y.toInCall.keep,codeAny_func ?_⟩
 obtain⟨m,st',ws,S',rs,hl,p⟩:=BL
 have I:=G6 (E:=E) (cd:=cdv) S z ln r y
 have go:J7 (C6 P w K mg base N qual (defScope st) f cdv A outer s H E) (defBody st) { nx:=fun _ H'=>Q .aB H',rt:=Q } (start N vs) H:=by
  refine body cdv A outer s H E (hr.down _) ha _ st' _ H m _ S' (qi rs (by omega)) ?_
  unfold dZ at p
  cases e:g (ws.map some++List.replicate (N.length - ws.length) none) st' with
  | nx ρ st2=>rw[e] at p;exact fun σ m' H' e' S2 R2=>p _ m' H' e' S2 (by unfold ae;rfl)
  | rt w' st2=>rw[e] at p;exact p
  | bk ρ st2=>rw[e] at p;exact False.elim p
  | ct ρ st2=>rw[e] at p;exact False.elim p
  | err c ρ st2=>rw[e] at p;exact fun σ m' H' x s' e' S2 R2 rz=>K6 rz fun C hC=>p m' H' C e' S2 hC
  | bad=>rw[e] at p;exact False.elim p
 refine U3 (cj [] s1 (start N vs) H _ I go) (fun fl s' hs=>?_) fun e s' hs=>hs
 cases fl with
 | ret u=>obtain⟨v,σ',H',I',rv,q⟩:=hs;exact⟨v,H',I'.os,I'.bare,I'.base,I'.hok,rv,q⟩
 | next=>obtain⟨σ',H',I',q⟩:=hs;exact⟨.aB,H',I'.os,I'.bare,I'.base,I'.hok,rfl,q⟩
 | brk=>obtain⟨_,_,_,q⟩:=hs;exact False.elim q
 | cont=>obtain⟨_,_,_,q⟩:=hs;exact False.elim q
end
section
variable {X:Cx}
theorem zR {k n:Nat} {f:UE} {fd:UH} {ps:List Str} {F:List Wv->Hs->Re Wv} {x:Str} {p pos:Pos} {e:Expr} {es:List Expr} {g:GA}
  (G:zQ X.prog X.w X.K X.mg X.base k f fd ps (spW X.K n F)) (hr:dF k X.A) (hH:sH X) (hm:X.mg x=some (.ref f)) (hk:PySem.W.keepIn X.K (.ref f)=true) (hb:Binds X.K fd ps []) (ha:JA X (e::es) g) (hg:Gl X x)
  (hdb:(x == ("__debug__":Str))=false) (he:UY (e::es) X.env=(false,eval e X.env)::UY es X.env) (hpl:(backTo pos (UY es X.env)).any (·.1)=false) :
  JE X (.Call (.Name x p) (e::es) [] pos) (aA n F g):=by
 intro ρ st σ H m Q S R p pins s I
 have args:=ha.go (T:=fun vs H1=>∃ws st1 m1,cD X σ m H (if ws.length=n then F ws st1 else .bad) Q/\Ext X.K m H m1 H1/\aK X.K m1 st1 H1/\ah X.K m1 H1 ws vs) S R (ar.bind p)
  fun ws st1 vs m1 H1 p1 e1 S1 rs=>⟨ws,st1,m1,p1,e1,S1,rs⟩
 refine wpAny_Call_Name_kw (iQ I hg hm ?_ hdb)
 refine PySem.W.callWith_K (h₀:=X.base) I.ok.mod.E1 hk (aM (args pos pins s I) fun us s1 ⟨vs,H1,I1,r,ws,st1,m1,p1,e1,S1,rs⟩=>⟨I1.uh,?_⟩) he hpl
 by_cases c:ws.length=n
 ·rw[if_pos c] at p1
  let E:XK:=fun cl _ H2=>∃c' st2 m2 C,cl= .ref C/\ClsAt X.K c' C/\F ws st1= .err c' st2/\Ext X.K m1 H1 m2 H2/\aK X.K m2 st2 H2
  have sp:spW X.K n F vs H1 Q E:=by
   refine⟨m1,st1,ws,S1,rs,c,?_⟩
   cases er:F ws st1 with
   | ok w st2=>rw[er] at p1;exact cD.shift (r:=.ok w st2) p1 e1
   | err c' st2=>exact fun m2 H2 C e2 S2 hC=>⟨c',st2,m2,C,rfl,hC,er,e2,S2⟩
   | bad=>rw[er] at p1;exact False.elim p1
  have hl:us.length=ps.length:=by rw[<-r.length];exact G.n _ _ _ _ sp
  have bd:=hb s1 us I1.uh (by rw[List.append_nil];exact hl)
  rw[List.append_nil] at bd
  refine wpAny_call (codeAny_mono (G.go X.A X.stack s1 H1 ⟨us,[]⟩ us vs Q E hr (hH.at I1) I1.JM bd r sp) fun rr s2 hq=>?_)
  cases rr with
  | error x=>
   obtain⟨H2,C,fl,c',st2,m2,C',ec,hC,er,e2,S2⟩:=hq
   cases ec
   rw[er] at p1
   exact p1 m2 H2 x s2 (e1.trans e2) S2 ⟨C,pins,H1,s1,hC,I1,.inl fl.any⟩
  | ok fw=>
   cases fw with
   | ret u=>exact I1.after hq
   | next=>exact False.elim hq
   | brk=>exact False.elim hq
   | cont=>exact False.elim hq
 ·rw[if_neg c] at p1;exact False.elim p1
end
def qP (P:UJ) (w:UM) (K:PySem.W.Frag) (mg:Str->Option UL) (base:Heap) (k:Nat) (x:Str) (n:Nat) (F:List Wv->Hs->Re Wv):Prop :=
 ∃f fd ps,zQ P w K mg base k f fd ps (spW K n F)/\mg x=some (.ref f)/\PySem.W.keepIn K (.ref f)=true/\Binds K fd ps []
theorem qP.mono {P:UJ} {w:UM} {K:PySem.W.Frag} {mg:Str->Option UL} {base:Heap} {j k:Nat} {x:Str} {n:Nat} {F:List Wv->Hs->Re Wv} (h:qP P w K mg base j x n F) (l:j<=k):qP P w K mg base k x n F:=by
 obtain⟨f,fd,ps,G,r⟩:=h
 exact⟨f,fd,ps,⟨G.n,fun A outer s H args us vs Q E hr=>G.go A outer s H args us vs Q E (hr.less l)⟩,r⟩
end J
namespace J
open PySem PySem.Spec PyProof.Rows L2
section
variable {X:Cx}
end
end J
namespace J
open PySem PySem.Spec PyProof.Rows L2
section
variable {X:Cx}
end
end J
namespace J
open PySem PySem.Spec PyProof.Rows L2
abbrev Qr:=Option (Nat×List Wv)×List Wv
def zS (c:Option (Nat×List Wv)) (st:Hs):Prop:=match c with
 | some (l,ws)=>af st l=some ws
 | none=>True
structure G7 (X:Cx) (w:Qr) (m1:Mp) (H1:Hp) (J':It):Prop where
 go:∀(k:Nat) (H:Hp) (m':Mp) (st:Hs),Ext X.K m1 H1 m' H->aK X.K m' st H->zS w.1 st->k < w.2.length->J'.go k H
 stop:∀(k:Nat) (H:Hp) (m':Mp) (st:Hs),Ext X.K m1 H1 m' H->aK X.K m' st H->zS w.1 st->k=w.2.length->J'.stop k H
 pW:∀(k:Nat) (hk:k < w.2.length) (H:Hp) (v:V) (H':Hp) (m':Mp) (st:Hs),Ext X.K m1 H1 m' H->aK X.K m' st H->zS w.1 st->J'.pW k H v H'->Ext X.K m' H m' H'/\aK X.K m' st H'/\ae X.K m' H' w.2[k] v
abbrev K7:=aS->Hs->Re Qr
def Ol (X:Cx) (tg iter:Expr) (gi:K7):Prop:=∃wi,PI X tg iter wi/\∀(ρ:aS) (st:Hs) (σ:St) (H:Hp) (m:Mp) (R:It->Hp->Prop),aK X.K m st H->aq X.K m H ρ σ->
 ar X σ m H (gi ρ st) (fun w st1=>∀(m1:Mp) (H1:Hp) (J':It),Ext X.K m H m1 H1->aK X.K m1 st1 H1->zS w.1 st1->G7 X w m1 H1 J'->R J' H1)->wi σ H R
section
variable {X:Cx}
theorem G8 {tg iter:Expr} {gi:GI} (h:JI X tg iter gi):Ol X tg iter (fun ρ st=>(gi ρ st).bind fun w st1=> .ok (w.1.map fun l=>(l,w.2),w.2) st1):=by
 obtain⟨wi,hp,hw⟩:=h
 refine⟨wi,hp,fun ρ st σ H m R S r p=>hw ρ st σ H m R S r ((ar.bind p).imp Ext.refl fun w st1 q m1 H1 J' e1 S1 c1 wG=>?_)⟩
 obtain⟨o,ws⟩:=w
 have cc:∀st,zS (o.map fun l=>(l,ws)) st->iE (o,ws) st:=fun st c=>by cases o<;>exact c
 have Sj:iE (o,ws) st1->zS (o.map fun l=>(l,ws)) st1:=fun c=>by cases o<;>exact c
 refine q m1 H1 J' e1 S1 (Sj c1) ⟨fun k H2 m' st2 e S2 c=>wG.go k H2 m' st2 e S2 (cc _ c),fun k H2 m' st2 e S2 c=>wG.stop k H2 m' st2 e S2 (cc _ c),fun k hk H2 v H3 m' st2 e S2 c y=>?_⟩
 obtain⟨rfl,rr⟩:=wG.pW k hk H2 v H3 m' st2 e S2 (cc _ c) y
 exact⟨Ext.refl,S2,rr⟩
end
open Classical in
def qQ (is:List Nat) (gb:GS) (c:Option (Nat×List Wv)):List Wv->aS->Hs->Rs
 | [],ρ,st=> .nx ρ st
 | w::r,ρ,st=>match Jb is w ρ with
  | none=> .bad
  | some ρ1=>match gb ρ1 st with
   | .nx ρ' st'=>if zS c st' then qQ is gb c r ρ' st' else .bad
   | .ct ρ' st'=>if zS c st' then qQ is gb c r ρ' st' else .bad
   | .bk ρ' st'=> .nx ρ' st'
   | .rt w st'=> .rt w st'
   | .err c ρ' st'=> .err c ρ' st'
   | .bad=> .bad
def Er (is:List Nat) (gi:K7) (gb:GS):GS:=fun ρ st=>(gi ρ st).aM ρ fun w st1=>qQ is gb w.1 w.2 ρ st1
section
variable {X:Cx}
theorem C7 {es:List Expr} {is:List Nat} {k:Nat} {iter:Expr} {body:List Stmt} {gi:K7} {gb:GS} {pos pos':Pos} (hN:X.N.Nodup) (hp:PassesOwn (model X.prog X.w) X.A X.env X.xe) (hc:X.calm=true) (sl:Slots X es is) (hi:Ol X (.Tuple es k pos') iter gi) (hb:ip X body gb)
  (hs:∀x,UT iter X.env x=pure x):JS X (.For (.Tuple es k pos') iter body [] pos) (Er is gi gb):=by
 obtain⟨wi,N1,hw⟩:=hi
 refine JS.of (jw hp hc N1 (rS hc (gX hN sl) (i9 sl) (gY sl)) cj hs) fun ρ st σ H m D S R p=>?_
 refine hw ρ st σ H m _ S R ((av.bo R p).imp Ext.refl fun w st1 p1 m1 H1 J' e1 S1 c1 wG=>?_)
 obtain⟨cc,ws⟩:=w
 let Pv:Nat->St->Hp->Prop:=fun k σ H=>∃ρ st m',Ext X.K m1 H1 m' H/\aK X.K m' st H/\aq X.K m' H ρ σ/\zS cc st/\av X m' H (qQ is gb cc (ws.drop k) ρ st) D
 refine⟨fun k n σ H=>n=ws.length - k/\k<=ws.length/\Pv k σ H,⟨ws.length,by simp,Nat.zero_le _,ρ,st1,m1,Ext.refl,S1,R.mono e1,c1,av.shift p1 e1⟩,?_⟩
 rintro k n σ2 H2 ⟨rfl,hk,ρ2,st2,m2,e2,S2,R2,c2,p2⟩
 by_cases hlt:k < ws.length
 ·refine .inr ⟨wG.go k H2 m2 st2 e2 S2 c2 hlt,Pv (k+1),fun σ' H' p'=>⟨ws.length - (k+1),by omega,rfl,hlt,p'⟩,fun x H' y=>?_⟩
  obtain⟨eY,Sk,jz⟩:=wG.pW k hlt H2 x H' m2 st2 e2 S2 c2 y
  have ed:ws.drop k=ws[k]::ws.drop (k+1):=List.drop_eq_getElem_cons hlt
  rw[ed] at p2
  unfold qQ at p2
  replace p2:=av.shift p2 eY
  have Sl:=R2.mono eY
  have zg:=e2.trans eY
  have Om:ae X.K m2 H' ws[k] x:=jz
  cases eb:ws[k] with
  | tup us=>
   rw[eb] at p2 Om
   dsimp only[Jb] at p2
   cases e5:qo is us ρ2 with
   | none=>rw[e5] at p2;exact False.elim p2
   | some ρ5=>
    rw[e5] at p2
    dsimp only at p2
    unfold ae at Om
    obtain⟨b,ys,rfl,f1,f2⟩:=Om
    refine⟨b,ys,rfl,dq.of f1,by rw[<-f2.length];exact i8 e5,i7 f2 Sl e5 fun σ5 R5=>?_⟩
    refine hb _ st2 _ _ m2 _ Sk R5 ?_
    cases eg:gb ρ5 st2 with
    | nx ρ3 st3=>
     rw[eg] at p2
     by_cases c:zS cc st3
     ·simp only[if_pos c] at p2
      exact fun σ3 m3 H3 e3 S3 R3=>⟨ρ3,st3,m3,zg.trans e3,S3,R3,c,av.shift p2 e3⟩
     ·simp only[if_neg c] at p2;exact False.elim p2
    | ct ρ3 st3=>
     rw[eg] at p2
     by_cases c:zS cc st3
     ·simp only[if_pos c] at p2
      exact fun σ3 m3 H3 e3 S3 R3=>⟨ρ3,st3,m3,zg.trans e3,S3,R3,c,av.shift p2 e3⟩
     ·simp only[if_neg c] at p2;exact False.elim p2
    | bk ρ3 st3=>rw[eg] at p2;exact p2
    | rt w3 st3=>rw[eg] at p2;exact p2
    | err c3 ρ3 st3=>rw[eg] at p2;exact p2
    | bad=>rw[eg] at p2;exact p2
  | _=>rw[eb] at p2;exact False.elim p2
 ·have e:k=ws.length:=by omega
  subst e
  rw[List.drop_length] at p2
  exact .inl ⟨wG.stop _ H2 m2 st2 e2 S2 c2 rfl,p2 σ2 m2 H2 Ext.refl S2 R2⟩
end
end J
namespace J
open PySem PySem.Spec PyProof.Rows L2
open Classical in
structure Mm (X:Cx) (scope:Scope) (x:Str) (xr:List Str) (cs:d_):Prop where
 one:cz X scope x cs
 var:∀y∈x::xr,scope.names.lookup y=some .local
 nd:((x::xr)++cs.map (·.1)).Nodup
inductive l8:List Expr->List Str->Prop
 | nil:l8 [] []
 | cons {x:Str} {p:Pos} {es:List Expr} {xs:List Str}:l8 es xs->l8 (.Name x p::es) (x::xs)
section
variable {X:Cx} {pins:List (UE×Obj)} {σ:St} {H:Hp} {s:UK} {scope:Scope} {x:Str} {xr:List Str} {cs:d_}
end
section
variable {prog:UJ} {w:UM} {A:UG} {R:Result->UK->Prop} {s:UK}
end
section
variable {X:Cx}
end
end J
namespace J
open PySem PySem.Spec PyProof.Rows L2
section
variable {X:Cx}
end
section
open PySem.SeqAt PySem.MeetsSeq PySem.MeetsSeq2 PySem.MeetsSeq3
end
section
variable {X:Cx}
end
end J
namespace J
open PySem PySem.Spec PyProof.Rows L2
section
variable {X:Cx}
inductive Oo (X:Cx):List Expr->List GE->Prop
 | nil:Oo X [] []
 | cons {e:Expr} {g:GE} {es:List Expr} {gs:List GE}:JE X e g->Oo X es gs->Oo X (e::es) (g::gs)
end
section
variable {X:Cx}
end
section
variable {X:Cx}
theorem zT:cW X (UO .Mult) (fun x y H Q=>∃z n,x= .str z/\y= .int n/\(n=0\/n=1)/\Q (.str (if n=0 then PySem.Str.empty else z)) H):=by
 intro pins s σ H x y v u Q I rx ry h
 obtain⟨z,n,rfl,rfl,hn,q⟩:=h
 obtain⟨t,rfl⟩:=rx
 obtain⟨t',rfl⟩:=ry
 rcases hn with rfl | rfl
 ·exact PySem.P.mul_str_none (by omega) (by omega) ⟨.str PySem.Str.empty,H,I.tok _,⟨_,rfl⟩,q⟩
 ·refine PySem.P.mul_str (by decide) (fun _ h=>by cases h) (fun _ h=>by cases h) ?_
  rw[if_neg (by omega),if_pos (by rfl)]
  exact⟨.str z,H,I,⟨t,rfl⟩,q⟩
def bE:dD:=fun x y st=>match x,y with
 | .str z,.int n=>if n=0\/n=1 then .ok (.str (if n=0 then PySem.Str.empty else z)) st else lR (.str z) (.int n) st
 | x,y=>lR x y st
theorem zU:gz X (UO .Mult) bE:=by
 obtain⟨r,h1,h2⟩:=CG (X:=X)
 refine⟨_,cW.or zT h1,fun x y a b st H m Q S rx ry p=>?_⟩
 cases x with
 | str z=>
  cases y with
  | int n=>
   have p':bC X.K m H (if n=0\/n=1 then .ok (.str (if n=0 then PySem.Str.empty else z)) st else lR (.str z) (.int n) st) Q:=p
   by_cases c:n=0\/n=1
   ·rw[if_pos c] at p'
    obtain⟨rfl,ok⟩:=cZ rx
    refine .inl ⟨z,n,rfl,aC ry,c,p' _ m H Ext.refl S (mkStr ?_)⟩
    by_cases c0:n=0
    ·rw[if_pos c0];decide+kernel
    ·rw[if_neg c0];exact ok
   ·rw[if_neg c] at p'
    exact .inr (h2 _ _ _ _ st H m Q S rx ry p')
  | _=>exact .inr (h2 _ _ _ _ st H m Q S rx ry p)
 | _=>exact .inr (h2 _ _ _ _ st H m Q S rx ry p)
end
end J
namespace J
open PySem PySem.Spec PyProof.Rows L2
abbrev LF:=List Wv->List Wv->Hs->Re Wv
section
variable {X:Cx} {pins:List (UE×Obj)} {σ:St} {H:Hp} {s:UK}
end
def Sn (K:PySem.W.Frag) (n:Nat) (p:Lm) (L:LF):Sp:=fun vs H Q E=>∃m st ws caps,aK K m st H/\ah K m H ws vs/\ah K m H caps p.xs/\H p.c=some (.ext (yu p.c p.q))/\ws.length=n/\Ef K m H (L caps ws st) Q E
def G9 (P:UJ) (w:UM) (K:PySem.W.Frag) (mg:Str->Option UL) (base:Heap) (k:Nat) (p:Lm) (n:Nat) (L:LF):Prop :=
 ∃fd ps ob,FnOk P w K mg base (CXJ P w) k p.a fd ps (Sn K n p L)/\base.get? p.a=some ob/\ob.data= .func fd/\Binds K fd ps []
open Classical in
section
variable {X:Cx}
end
def freeOf (sc:Scope):List Str:=(sc.names.filter fun p=>decide (p.2= .free)).map (·.1)
structure Qs (sc:Scope) (x1 x2 x3 y:Str):Prop where
 kind:sc.kind= .function
 co:sc.isCoroutine=false
 gen:sc.isGenerator=false
 Oq:∀p∈sc.names,p.2≠.cell
 p1:sc.names.lookup x1=some .local
 p2:sc.names.lookup x2=some .local
 p3:sc.names.lookup x3=some .local
 fr:freeOf sc=[y]
 fy:sc.names.lookup y=some .free
 nd:[x1,x2,x3,y].Nodup
end J
namespace J
open PySem PySem.Spec PyProof.Rows L2
section
variable {P:UJ} {w:UM} {K:PySem.W.Frag} {mg:Str->Option UL} {base:Heap} {p:Lm} {scope:Scope} {x1 x2 x3 y:Str} {cy:UE}
end
end J
namespace J
open PySem PySem.Spec PyProof.Rows L2
structure Es (X:Cx) (q:Str) (P:UE):Prop where
 code:∃c,X.env.code= .ref c/\PySem.W.CodeHd X.base c P
 qual:X.env.qual=q++".<locals>."
 tab:fN X.K q=some P
 mem:q∈bH
 uniq:∀q',q'∈bH->fN X.K q'=some P->q'=q
 bm:∃bm ob,X.mg "__builtins__"=some (.ref bm)/\bm≠builtinsNs/\bm≠UW/\X.base.get? bm=some ob/\ob.cls= .type "module"/\ob.dict=some builtinsNs/\ob.data= .plain
section
variable {X:Cx} {pins:List (UE×Obj)} {σ:St} {H:Hp} {s:UK} {q:Str} {P:UE}
end
end J
namespace J
open PySem PySem.Spec PyProof.Rows L2
abbrev Qt:=Lm->LF->List Wv->Hs->Re Wv
def Ot (mg:Str->Option UL) (base:Heap):Prop:=∃bm ob,mg "__builtins__"=some (.ref bm)/\bm≠builtinsNs/\bm≠UW/\base.get? bm=some ob/\ob.cls= .type "module"/\ob.dict=some builtinsNs/\ob.data= .plain
def zV (K:PySem.W.Frag) (mg:Str->Option UL) (base:Heap):Prop:=Mod K mg base/\Ot mg base
def Qu (P:UJ) (w:UM) (K:PySem.W.Frag) (mg:Str->Option UL) (k j:Nat) (x:Str) (FL:Qt):Prop :=
 (∃f,mg x=some (.ref f)/\PySem.W.keepIn K (.ref f)=true)/\∀(base:Heap) (p:Lm) (L:LF),zV K mg base->G9 P w K mg base (j+1) p 3 L->iN P w K mg base k x 2 (FL p L)
section
variable {X:Cx}
end
end J
namespace J
open PySem PySem.Spec PyProof.Rows L2
section
variable {P:UJ} {w:UM} {A:UG} {E:UL->UK->Prop} {s:UK}
structure Zd (z T O j1 j2 j3 t1 t2 t3:UE):Prop where
 nd:[z,T,O,j1,j2,j3].Nodup
 a1:t1∉[z,O,j1,j2,j3]
 a2:t2∉[z,O,j1,j2,j3]
 a3:t3∉[z,O,j1,j2,j3]
end
end J
namespace J
open PySem PySem.Spec PyProof.Rows L2
abbrev zA (h:Heap) (t1:UE):Heap:=h.push { cls:=.type "tuple_iterator",data:=.fields #[.ref t1,.int 0 0] }
abbrev zB (h:Heap) (t1 t2:UE):Heap:=zA (zA h t1) t2
abbrev zC (h:Heap) (t1 t2 t3:UE):Heap:=zA (zB h t1 t2) t3
abbrev zD (h:Heap) (t1 t2 t3:UE):Heap:=(zC h t1 t2 t3).push { cls:=.type "tuple",data:=.seq #[.ref h.objs.size,.ref (zA h t1).objs.size,.ref (zB h t1 t2).objs.size] }
section
variable {P:UJ} {w:UM} {A:UG} {E:UL->UK->Prop} {s:UK}
end
section
variable {P:UJ} {w:UM} {A:UG} {E:UL->UK->Prop} {s:UK}
end
end J
namespace J
open PySem PySem.Spec PyProof.Rows L2
section
variable {X:Cx}
end
end J
namespace J
open PySem PySem.Spec PyProof.Rows L2
def So (a b c:Int):Prop:=0<=a/\a < 2 ^ 30/\0<=b/\b < 2 ^ 30/\1<=c/\c < 2 ^ 30
instance {a b c}:Decidable (So a b c):=Classical.propDecidable _
section
variable {X:Cx} {tg:Expr}
end
end J
namespace J
open PySem PySem.Spec PyProof.Rows L2
section
variable {X:Cx}
end
end J
namespace J
open PySem PySem.Spec PyProof.Rows L2
def tm (gt:GT) (gb:GS):Nat->aS->Hs->Rs
 | 0,_,_=> .bad
 | n+1,ρ,st=>(gt ρ st).aM ρ fun b st1=>if b=true then(match gb ρ st1 with
   | .nx ρ' st'=>tm gt gb n ρ' st'
   | .ct ρ' st'=>tm gt gb n ρ' st'
   | .bk ρ' st'=> .nx ρ' st'
   | .rt w st'=> .rt w st'
   | .err c ρ' st'=> .err c ρ' st'
   | .bad=> .bad) else .nx ρ st1
def jG (n:Nat) (gt:GT) (gb:GS):GS:=fun ρ st=>tm gt gb n ρ st
section
variable {X:Cx}
theorem zW (n:Nat) {c:Expr} {body:List Stmt} {gt:GT} {gb:GS} {pos:Pos} (hp:PassesOwn (model X.prog X.w) X.A X.env X.xe) (hc:JT X c gt) (hb:ip X body gb):JS X (.While c body [] pos) (jG n gt gb):=by
 refine JS.of (xR hp jU cj) fun ρ st σ H m D S R p=>?_
 refine⟨fun k σ' H'=>∃ρ' st' m',Ext X.K m H m' H'/\aK X.K m' st' H'/\aq X.K m' H' ρ' σ'/\av X m' H' (tm gt gb k ρ' st') D,⟨n,ρ,st,m,Ext.refl,S,R,p⟩,?_⟩
 rintro k σ1 H1 ⟨ρ1,st1,m1,e1,S1,R1,p1⟩
 cases k with
 | zero=>exact False.elim p1
 | succ k=>
  refine hc.go S1 R1 (av.bo R1 p1) fun b st2 m2 H2 p2 e2 S2=>?_
  cases b with
  | false=>
   rw[if_neg Bool.false_ne_true] at p2 ⊢
   exact p2 σ1 m2 H2 e2 S2 (R1.mono e2)
  | true=>
   rw[if_pos rfl] at p2 ⊢
   refine⟨fun σ' H'=>∃ρ' st' m',Ext X.K m H m' H'/\aK X.K m' st' H'/\aq X.K m' H' ρ' σ'/\av X m' H' (tm gt gb k ρ' st') D,fun σ' H' q=>⟨k,Nat.lt_succ_self k,q⟩,?_⟩
   refine hb ρ1 st2 σ1 H2 m2 _ S2 (R1.mono e2) ?_
   have Mn:=e1.trans e2
   cases eg:gb ρ1 st2 with
   | nx ρ3 st3=>rw[eg] at p2;exact fun σ3 m3 H3 e3 S3 R3=>⟨ρ3,st3,m3,Mn.trans e3,S3,R3,av.shift p2 (e2.trans e3)⟩
   | ct ρ3 st3=>rw[eg] at p2;exact fun σ3 m3 H3 e3 S3 R3=>⟨ρ3,st3,m3,Mn.trans e3,S3,R3,av.shift p2 (e2.trans e3)⟩
   | bk ρ3 st3=>rw[eg] at p2;exact fun σ3 m3 H3 e3 S3 R3=>p2 σ3 m3 H3 (e2.trans e3) S3 R3
   | rt w3 st3=>rw[eg] at p2;exact av.shift (r:=.rt w3 st3) p2 e2
   | err c3 ρ3 st3=>rw[eg] at p2;exact fun σ' m' H' x s' e'=>p2 σ' m' H' x s' (e2.trans e')
   | bad=>rw[eg] at p2;exact p2
end
end J
namespace J
open PySem PySem.Spec PyProof.Rows L2
theorem C8 (l:UE) (items:Array UL) (n:Nat) (b:UE) (items2:Array UL) (n2:Nat) (dd:Option UE) (sl:Array (Option UL)) (hs0:¬(!items.isEmpty&&Builtin.List.listTooLong (items.size+items2.size))=true) (hs1:items.size<=UX) (hs2:items.size+items2.size<=UX+1) :
  Meets (Builtin.«list.extend» ⟨[.ref l,.ref b],[]⟩) (fun _ R s=>s.heap.get? l=some { cls:=.type "list",dict:=none,data:=.seq items n,slots:=#[] }/\s.heap.get? b=some ⟨.type "tuple",dd,.seq items2 n2,sl⟩/\R (.ok (.ret Value.none)) { s with heap:=s.heap.update l (Obj.mapSeq fun x=>x++items2),toks:=s.toks }) :=
 .of_wp fun prog w A R s h=>by
  obtain⟨hp,g,d,tk,os⟩:=s;obtain⟨hl,hb,h⟩:=h;have f1:=AutoSeq1.idx_int;have f2:=AutoSeq1.sub_tuple_tuple;have f3:=AutoSeq1.sub_list_list;have f4:=AutoSeq1.sub_tuple_list;have f5:=AutoSeq1.sub_list_tuple;
  have hz':(items++items2).size<=UX+1:=by rw[Array.size_append];exact hs2
  wp_walk using (wpAny_updateSeq hl rfl (hz:=hs1) (_hz':=hz')),wpAny_loadPart' hl,wpAny_loadPart' hb;exact⟨_,rfl,h⟩
def qR (K:PySem.W.Frag):V->List V->Hp->VK->Prop:=fun x vs H Q=>∃l b xs zs,x= .ref l/\vs=[.ref b]/\H l=some (.lst xs)/\dq K H b zs/\xs.length+zs.length<=UX/\Q .aB (upd H l (.lst (xs++zs)))
section
variable {X:Cx}
theorem tq:J2 X "list.extend" (qR X.K):=by
 intro pins s σ H x vs v us Q I rx rv h
 obtain⟨l,b,xs,zs,rfl,rfl,hH,hB,hz,q⟩:=h
 cases rx
 obtain⟨u,rfl,ru⟩:=rv.one
 cases ru
 obtain⟨z,its,n,r,hl,e⟩:=I.vX hH
 obtain⟨its2,r2,⟨o,e2,oc,n2,od⟩,z2⟩:=I.tuple hB
 obtain⟨Uw,dd,od',sl⟩:=o
 dsimp only at oc od
 subst oc od
 have l1:xs.length=its.length:=r.length
 have l2:zs.length=its2.length:=r2.length
 have hsz:its.toArray.size+its2.toArray.size<=UX:=by rw[List.size_toArray,List.size_toArray];omega
 have pZ:¬(!its.toArray.isEmpty&&Builtin.List.listTooLong (its.toArray.size+its2.toArray.size))=true:=by
  rw[lq hsz,Bool.and_false]
  exact Bool.false_ne_true
 refine call_meets F.slot_list_extend ⟨_,e,rfl⟩ F.entry_list_extend (F.args_list_extend_2 _ _)
  (C8 l its.toArray n b its2.toArray n2 dd sl pZ (by rw[List.size_toArray];omega) (by omega)) ⟨e,e2,?_⟩
 refine⟨.aB,_,I.BX (its':=its++its2) hH e (by simp) (r.append r2) ?_,rfl,q⟩
 rw[List.length_append]
 omega
def l9 (o v:Wv) (st:Hs):Re Wv:=match v with
 | .tup zs=>(match o with
  | .ref l=>(match st[l]? with
   | some (.lst ws)=>if ws.length+zs.length<=lim then .ok .aB (st.set l (.lst (ws++zs))) else .bad
   | _=> .bad)
  | _=> .bad)
 | v=>KJ o v st
theorem C9:Mb X "list.extend" l9:=by
 obtain⟨r0,m0,h0⟩:=Gm (X:=X)
 refine⟨fun x vs H Q=>r0 x vs H Q\/qR X.K x vs H Q,?_,fun o w x v st H m Q S ro rw' p=>?_⟩
 ·intro pins s σ H x vs v us Q I rx rv h
  rcases h with h | h
  ·exact m0 pins s σ H x vs v us Q I rx rv h
  ·exact tq pins s σ H x vs v us Q I rx rv h
 ·cases w with
  | tup zs=>
   refine .inr ?_
   cases o with
   | ref l=>
    unfold ae at ro rw'
    obtain⟨a,rfl,ha⟩:=ro
    obtain⟨b,ys,rfl,hb,g2⟩:=rw'
    have p':bC X.K m H (match st[l]? with | some (.lst ws)=>if ws.length+zs.length<=lim then .ok .aB (st.set l (.lst (ws++zs))) else .bad | _=> .bad) Q:=p
    cases e:st[l]? with
    | none=>rw[e] at p';exact False.elim p'
    | some ob=>
     cases ob with
     | dct kvs=>rw[e] at p';exact False.elim p'
     | bM kvs=>rw[e] at p';exact False.elim p'
     | mG kvs=>rw[e] at p';exact False.elim p'
     | ic ns=>rw[e] at p';exact False.elim p'
     | lst ws=>
      rw[e] at p'
      dsimp only at p'
      by_cases c:ws.length+zs.length<=lim
      ·rw[if_pos c] at p'
       obtain⟨xs,h1,h2⟩:=S.lB ha e
       have e4:Ext X.K m H m (upd H a (.lst (xs++ys))):=Ext.upd (.inr ⟨xs,h1⟩)
       exact⟨a,b,xs,ys,rfl,rfl,h1,dq.of hb,by rw[<-h2.length,<-g2.length];exact cx c,p' _ m _ e4 (S.write ha e (h2.append g2)) nH⟩
      ·rw[if_neg c] at p';exact False.elim p'
   | _=>exact False.elim p
  | _=>exact .inl (h0 o _ x v st H m Q S ro rw' p)
end
def qS (neg:Bool):dD:=fun x y st=>match aG st 20 y,aG st 20 x with
 | some (.list ds),some d=> .ok (.bl ((ds.any fun z=>PyData.eqv z d) != neg)) st
 | some (.tuple ds),some d=> .ok (.bl ((ds.any fun z=>PyData.eqv z d) != neg)) st
 | _,_=> .bad
section
variable {X:Cx}
def G_ (K:PySem.W.Frag) (neg:Bool):R2:=fun a b H Q=>∃m st x y d ds c,aK K m st H/\ae K m H x a/\ae K m H y b/\aG st 20 y=some c/\(c= .list ds\/c= .tuple ds)/\aG st 20 x=some d/\Q (.bl ((ds.any fun z=>PyData.eqv z d) != neg)) H
theorem uW {ds:List PyData} {c:PyData} (h:c= .list ds\/c= .tuple ds) (k:c.canLay0=true):PyData.canLayAll0 ds=true:=by
 rcases h with rfl | rfl<;>exact k
theorem Ha (hu:X.A.units+64 < cLine):cW X (US .In) (G_ X.K false):=by
 intro pins s σ H a b v u Q I rx ry h
 obtain⟨m,st,x,y,d,ds,c,S,h1,h2,e1,hc,e2,q⟩:=h
 obtain⟨as,q1,q2,q3⟩:=bX I S 20 x a v d h1 rx e2
 obtain⟨bs,p1,p2,p3⟩:=bX I S 20 y b u c h2 ry e1
 have hd:X.A.units+1+min (PyData.depthAll ds) d.depth < cLine:=by
  have:=Nat.min_le_right (PyData.depthAll ds) d.depth
  omega
 have e:∀t:Bool,(t != false)=t:=by decide
 rw[e] at q
 have ca:=uW hc p2
 rcases hc with rfl | rfl
 ·exact SeqAt.in_list_reads p1 q1 ca q2 hd ⟨.bl _,H,I,rfl,q⟩
 ·exact SeqAt.in_tuple_reads p1 q1 ca q2 hd ⟨.bl _,H,I,rfl,q⟩
theorem wZ (hu:X.A.units+64 < cLine):cW X (US .NotIn) (G_ X.K true):=by
 intro pins s σ H a b v u Q I rx ry h
 obtain⟨m,st,x,y,d,ds,c,S,h1,h2,e1,hc,e2,q⟩:=h
 obtain⟨as,q1,q2,q3⟩:=bX I S 20 x a v d h1 rx e2
 obtain⟨bs,p1,p2,p3⟩:=bX I S 20 y b u c h2 ry e1
 have hd:X.A.units+1+min (PyData.depthAll ds) d.depth < cLine:=by
  have:=Nat.min_le_right (PyData.depthAll ds) d.depth
  omega
 have e:∀t:Bool,(t != true)= !t:=by decide
 rw[e] at q
 have ca:=uW hc p2
 rcases hc with rfl | rfl
 ·exact SeqAt.notIn_list_reads p1 q1 ca q2 hd ⟨.bl _,H,I,rfl,q⟩
 ·exact SeqAt.notIn_tuple_reads p1 q1 ca q2 hd ⟨.bl _,H,I,rfl,q⟩
theorem zX {neg:Bool} {x y:Wv} {a b:V} {st:Hs} {H:Hp} {m:Mp} {Q:VK} (S:aK X.K m st H) (rx:ae X.K m H x a) (ry:ae X.K m H y b) (p:bC X.K m H (qS neg x y st) Q):G_ X.K neg a b H Q:=by
 unfold qS at p
 split at p
 ·rename_i ds d e1 e2
  exact⟨m,st,x,y,d,ds,_,S,rx,ry,e1,.inl rfl,e2,p _ m H Ext.refl S fe⟩
 ·rename_i ds d e1 e2
  exact⟨m,st,x,y,d,ds,_,S,rx,ry,e1,.inr rfl,e2,p _ m H Ext.refl S fe⟩
 ·exact False.elim p
theorem zY (hu:X.A.units+64 < cLine):gz X (US .In) (qS false):=⟨_,Ha hu,fun x y a b st H m Q S rx ry p=>zX S rx ry p⟩
theorem n8 (hu:X.A.units+64 < cLine):gz X (US .NotIn) (qS true):=⟨_,wZ hu,fun x y a b st H m Q S rx ry p=>zX S rx ry p⟩
end
end J
namespace J
open PySem PySem.Spec PyProof.Rows L2
theorem mP:entryFor table "proto.unchain"=some Builtin.«proto.unchain»:=entryFor_of_fast (by kernel_rfl)
section
variable {prog:UJ} {w:UM} {A:UG} {E:UL->UK->Prop} {s:UK}
theorem tw {b:UE} {o:Obj} {vs:Array UL} {e:UL} {Q:UL->UK->Prop} (h1:s.heap.get? b=some o) (h2:o.data= .fields vs) (h3:vs[2]? =some Value.none) (k:Q .none s) :
  UZ (model prog w) A (runValue (.builtin "proto.unchain" ⟨[e,.ref b,.ref b,.bool false],[]⟩)) Q E s:=by
 refine wpAny_runValue (codeAny_builtin mP ?_)
 unfold Builtin.«proto.unchain»
 refine(show UZ _ _ (field (.ref b) 2 >>= _) _ _ s from U0 (wpAny_field h1 h2 h3 ?_))
 rw[if_pos (by rfl)]
 exact U6 k
theorem tD {it b:UE} {o:Obj} {vs:Array UL} {x left step:Int} {Q:Option UL->UK->Prop} (hh:A.handled=some (.ref b)) (h1:s.heap.get? b=some o) (h2:o.data= .fields vs) (h3:vs[2]? =some Value.none) (hit:IsRangeIter s.heap it x left step) (hl:left<=0)
  (k:∀h',Heap.ExtBut it s.heap h'->Q none { s with heap:=h' }):UZ (model prog w) A (pyNext (.ref it)) Q E s:=by
 have ty:s.TypeIs (.ref it) "range_iterator":=⟨_,hit,rfl⟩
 unfold pyNext
 refine U0 (wpAny_attempt (wpAny_callSpecial?_slot (name:=Str.ofString "__next__") ty PySem.F.slot_range_iterator_next (wpAny_call_entry PySem.F.slot_range_iterator_next ty PySem.F.entry_range_iterator_next ?_ (PySem.F.args_range_iterator_next_1 _))))
 refine(show UZ _ _ (field (.ref it) 0 >>= _) _ _ s from U0 (wpAny_field hit rfl (x:=rawInt x) rfl ?_))
 refine(show UZ _ _ (field (.ref it) 1 >>= _) _ _ s from U0 (wpAny_field hit rfl (x:=rawInt left) rfl ?_))
 refine(show UZ _ _ (field (.ref it) 2 >>= _) _ _ s from U0 (wpAny_field hit rfl (x:=rawInt step) rfl ?_))
 refine(show UZ _ _ (if left<=0 then _ else _) _ _ s from ?_)
 rw[if_pos hl]
 refine U0 (wpAny_rule (U0 ?_))
 refine(show UZ _ _ (newExc (.type "StopIteration") [] >>= _) _ _ _ from ?_)
 simp only[newExc,newTuple,raiseNew]
 refine U0 (U0 (U5 (U0 (m:=firstArgMember _ _) (wpAny_of_eq (a:=Value.none) (by first | rfl | (simp only[firstArgMember];rfl)) (U5 ?_ (by size_fits)))) (by size_fits)))
 refine(U0 (wpAny_handled ?_))
 rw[show A.in1.handled=some (.ref b) from hh]
 dsimp only
 have lt:b≠(s.heap.push { cls:=.type "tuple",data:=.seq #[] }).objs.size:=fun z=>by
  have q:=Heap.lt_size (Heap.get?_push_of_some (h:=s.heap) { cls:=.type "tuple",data:=.seq #[] } h1)
  rw[<-z] at q
  exact Nat.lt_irrefl _ q
 rw[if_pos (by simpa using lt)]
 refine U0 (U2 (tw (Heap.get?_push_of_some _ (Heap.get?_push_of_some _ h1)) h2 h3 ?_))
 refine U0 ((show UZ (model prog w) A.in1 (setField (.ref (s.heap.push { cls:=.type "tuple",data:=.seq #[] }).objs.size) 2 (.ref b)) _ _ _ from wpAny_setField (Heap.get?_push_size _ rfl) rfl (by simp[ownMembersOf]) (wpAny_throw ?_)))
 refine U0 (wpAny_isInstance (b:=true) (T:="StopIteration") ⟨_,Heap.get?_update_self _ (Heap.get?_push_size _ rfl) rfl,rfl⟩ isSubtype_stop (U6 ?_))
 refine k _ fun c q hc e=>?_
 have e':((s.heap.push { cls:=.type "tuple",data:=.seq #[] }).push { cls:=Value.type "StopIteration",data:=.fields (#[.ref s.heap.objs.size,.none,.none,.none,.bool false,.none]++ownMembersOf (.type "StopIteration") []) }).get? c=some q:=(((Heap.ExtBut.refl it s.heap).push _).push _) c q hc e
 have ne:c≠(s.heap.push { cls:=.type "tuple",data:=.seq #[] }).objs.size:=fun z=>by
  have q':=Heap.lt_size (Heap.get?_push_of_some (h:=s.heap) { cls:=.type "tuple",data:=.seq #[] } e)
  rw[<-z] at q'
  exact Nat.lt_irrefl _ q'
 exact(Heap.get?_update_other _ _ (Ne.symm ne)).trans e'
end
theorem zZ {X:Cx} (h:sH X):Jc sH X:=fun _ _ _ _ _ _ _ _ I=>h.at I
theorem qT {P:UJ} {w:UM} {K:PySem.W.Frag} {tg:Expr} (it:UE) (lo:Int) (n:Nat):uF sH P w K tg (BD lo n) [it] it (fun i h=>IsRangeIter h it (lo+(i:Nat) * 1) ((n:Int) - (i:Nat)) 1) where
 obj:=(fL (P:=P) (w:=w) (K:=K) (tg:=tg) it lo n).obj
 keep:=(fL (P:=P) (w:=w) (K:=K) (tg:=tg) it lo n).keep
 self:=(fL (P:=P) (w:=w) (K:=K) (tg:=tg) it lo n).self
 item:=by
  intro X hP hw hK hc i pins s σ H E I hf st hg
  subst hP hw hK
  have hg':i < n:=hg
  obtain⟨f0,f1,f2,f3,f4,f5⟩:=hf it (by simp)
  refine wpAny_pyNext_range_item st (by omega) fun h' st' sb=>?_
  have st2:IsRangeIter h' it (lo+((i+1:Nat):Int) * 1) ((n:Int) - ((i+1:Nat):Int)) 1:=by
   have e1:lo+((i+1:Nat):Int) * 1=lo+(i:Int) * 1+1:=by push_cast;omega
   have e2:(n:Int) - ((i+1:Nat):Int)=(n:Int) - (i:Int) - 1:=by push_cast;omega
   rw[e1,e2];exact st'
  have I1:Inv X pins σ H { s with heap:=h',toks:=s.toks+1 }:=I.turned (fun b o hb e=>sb.extBut b o hb e) f0 f1 f3 f4 f5
  exact⟨_,rfl,jQ (s:={ s with heap:=h',toks:=s.toks+1 }) (n:="range_iterator") st2 rfl rfl (by decide) ⟨.int (lo+i),H,I1,⟨s.toks,by rw[Int.mul_one]⟩,⟨rfl,rfl⟩,st2,fun b hb=>(hf b hb).1⟩⟩
 done:=by
  intro X hP hw hK hc i pins s σ H E I hf st hg
  subst hP hw hK
  have hg':n<=i:=hg
  obtain⟨f0,f1,f2,f3,f4,f5⟩:=hf it (by simp)
  rcases hc.at I with h0 | ⟨b,o,u,h1,⟨vs,d1,d2⟩,h3⟩
  ·exact wpAny_pyNext_range_end h0 st (by omega) fun h' eb=>⟨rfl,I.turned (t':=s.toks) (fun b o hb e=>eb b o hb e) f0 f1 f3 f4 f5⟩
  exact tD h1 (I.hok _ _ h3).1 d1 d2 st (by omega) fun h' eb=>⟨rfl,I.turned (t':=s.toks) (fun b o hb e=>eb b o hb e) f0 f1 f3 f4 f5⟩
section
variable {X:Cx} {tg:Expr}
theorem tE {a:Expr} {ta:TA} {p pos:Pos} (hg:Gl X "range") (hm:X.mg "range"=none) (ha:PA X [a] ta) (hs:UY [a] X.env=[(false,eval a X.env)]):NZ sH X tg (.Call (.Name "range" p) [a] [] pos) (DU ta):=by
 intro pins s σ H R I h
 refine Call_ (iz I hg hm boot_range (PyProof.Rows.callWith_type1 (aM (ha pos pins s σ H _ I h) fun us s1 ⟨vs,H1,I1,r1,j,e,q1,q2,q⟩=>?_) hs rfl))
 subst e
 obtain⟨u,rfl,t,rfl⟩:=vals1 r1
 refine call_range_1 (wpAny_pyIter_range (IsRange.new ..) (small_one (by omega) (by omega) q1 q2) ?_)
 generalize hh:s1.heap.push { cls:=.type "range",data:=.fields _ }=h2
 have I2:∀tk,Inv X pins σ H1 { s1 with heap:=h2,toks:=tk }:=fun tk=>I1.kept fun b o e=>by rw[<-hh];exact Heap.get?_push_of_some _ e
 refine⟨h2.objs.size,[h2.objs.size],_,BD 0 j.toNat,H1,rfl,(I2 _).kept (t':=_) fun b o e=>Heap.get?_push_of_some _ e,qT _ 0 j.toNat,?_,fun b hb=>?_,q⟩
 ·have e2:((j.toNat:Nat):Int) - ((0:Nat):Int)=Builtin.Range.rangeSize 0 j 1:=by rw[rangeSize_one];split<;>omega
  refine(show IsRangeIter _ _ ((0:Int)+((0:Nat):Int) * 1) (((j.toNat:Nat):Int) - ((0:Nat):Int)) 1 from ?_)
  rw[e2]
  exact Heap.get?_push_size _ rfl
 ·rw[List.mem_singleton.mp hb]
  exact(I2 s1.toks).pX (Nat.le_refl _) ((I2 s1.toks).hok.fresh (Nat.le_refl _))
theorem Hd {a:Expr} {ga:GA} {p q:Pos} (hg:Gl X "range") (hm:X.mg "range"=none) (ha:JA X [a] ga) (hst:UY [a] X.env=[(false,eval a X.env)]):Jf sH X tg (.Call (.Name "range" p) [a] [] q) (zl ga):=by
 refine⟨_,tE hg hm il hst,fun ρ st σ H m Q S R p=>?_⟩
 refine ha.go S R (ar.bind p) fun ws st1 vs m1 H1 p1 e1 S1 rs=>?_
 match ws,rs,p1 with
 | [],rs,p1=>exact False.elim p1
 | x::y::t,rs,p1=>cases x<;>exact False.elim p1
 | [x],rs,p1=>
  obtain⟨v,rfl,r1⟩:=ie rs
  cases x with
  | int j=>
   cases aC r1
   unfold qx at p1
   by_cases c:i6 j
   ·simp only[if_pos c] at p1
    exact⟨j,rfl,c.1,c.2,p1 m1 H1 _ e1 S1 trivial zk⟩
   ·simp only[if_neg c] at p1;exact False.elim p1
  | _=>exact False.elim p1
end
section
variable {X:Cx} {a b c d:Expr} {pos:Pos}
end
end J
namespace J
open PySem PySem.Spec PyProof.Rows L2
section
variable {X:Cx} {pins:List (UE×Obj)} {σ:St} {E:UL->UK->Prop} {p:UE}
end
section
variable {X:Cx} {pos:Pos}
abbrev uZ (K:PySem.W.Frag) (m:Mp) (H:Hp):List (Wv×Wv)->List (V×V)->Prop:=Paired fun p q=>ae K m H p.1 q.1/\ae K m H p.2 q.2
theorem uZ.mono {K:PySem.W.Frag} {m m1:Mp} {H H1:Hp} (e:Ext K m H m1 H1):∀{a:List (Wv×Wv)} {b:List (V×V)},uZ K m H a b->uZ K m1 H1 a b
 | _,_,.nil=> .nil
 | _,_,.cons h t=> .cons ⟨ae.mono e _ _ h.1,ae.mono e _ _ h.2⟩ (uZ.mono e t)
end
def getD (d k:Wv) (st:Hs):Option Wv:=match d with
 | .ref l=>(match st[l]? with
  | some (.dct kvs)=>(match keyOf k with | some kk=>c_ kvs kk | none=>none)
  | some (.bM kvs)=>(match pf k with | some kk=>c_ kvs kk | none=>none)
  | some (.mG kvs)=>(match pf k with | some kk=>c_ kvs kk | none=>none)
  | _=>none)
 | _=>none
def Mo (d k:Wv) (st:Hs):Re Wv:=match getD d k st with
 | some w=> .ok w st
 | none=> .bad
def qU (gd gk:GE):GE:=fun ρ st=>(gd ρ st).bind fun d st1=>(gk ρ st1).bind fun k st2=>Mo d k st2
section
variable {X:Cx}
theorem C_ {m:Mp} {st:Hs} {H:Hp} {d k w:Wv} {x y:V} (S:aK X.K m st H) (rd:ae X.K m H d x) (rk:ae X.K m H k y) (e:getD d k st=some w):∃a v,x= .ref a/\mL H a y (some v)/\ae X.K m H w v:=by
 unfold getD at e
 cases d with
 | ref l=>
  dsimp only at e
  unfold ae at rd
  obtain⟨a,rfl,ha⟩:=rd
  cases e1:st[l]? with
  | none=>rw[e1] at e;cases e
  | some o=>
   rw[e1] at e
   cases o with
   | dct kvs=>
    dsimp only at e
    cases e2:keyOf k with
    | none=>rw[e2] at e;cases e
    | some kk=>
     rw[e2] at e
     obtain⟨xs,h1,h2⟩:=(show ∃ys,H a=some (.dK ys)/\RelK X.K m H kvs ys from S.obj _ _ _ ha e1)
     obtain⟨u,j1,j2⟩:=(h2.val kk).2 w e
     exact⟨a,u,rfl,by rw[jE rk e2,<-j1];exact mL.k h1,j2⟩
   | bM kvs=>
    dsimp only at e
    cases e2:pf k with
    | none=>rw[e2] at e;cases e
    | some kk=>
     rw[e2] at e
     obtain⟨xs,h1,h2⟩:=(show ∃ys,H a=some (.dT ys)/\RelK X.K m H kvs ys from S.obj _ _ _ ha e1)
     obtain⟨b,rfl,hb⟩:=lY rk e2
     obtain⟨u,j1,j2⟩:=(h2.val kk).2 w e
     exact⟨a,u,rfl,by rw[<-j1];exact mL.t h1 hb,j2⟩
   | mG kvs=>
    dsimp only at e
    cases e2:pf k with
    | none=>rw[e2] at e;cases e
    | some kk=>
     rw[e2] at e
     obtain⟨o,xs,h1,h2⟩:=(show ∃o ys,H a=some (.bV o (.dT ys))/\RelK X.K m H kvs ys from S.obj _ _ _ ha e1)
     obtain⟨b,rfl,hb⟩:=lY rk e2
     obtain⟨u,j1,j2⟩:=(h2.val kk).2 w e
     exact⟨a,u,rfl,by rw[<-j1];exact .inr ⟨xs,kk,b,.inr ⟨o,h1⟩,rfl,hb,rfl⟩,j2⟩
   | _=>cases e
 | _=>cases e
theorem Dd {o i:Expr} {go gi:GE} {pos:Pos} (hu:X.A.units+1 < cLine) (ho:JE X o go) (hi:JE X i gi) (hs:yj i):JE X (.Subscript o i pos) (qU go gi) :=
 JE.of (B1 hu az az hs) fun ρ st σ H m Q S R p=>by
  refine ho.go S R (ar.bind p) fun d st1 v m1 H1 p1 e1 S1 rd=>?_
  refine hi.go S1 (R.mono e1) ((ar.bind p1).imp e1 fun _ _ q=>q) fun k st2 u m2 H2 p2 e2 S2 rk=>?_
  unfold Mo at p2
  cases e:getD d k st2 with
  | none=>rw[e] at p2;exact False.elim p2
  | some w=>
   rw[e] at p2
   obtain⟨a,v',ex,g,rw'⟩:=C_ (X:=X) S2 (ae.mono e2 _ _ rd) rk e
   exact⟨a,v',ex,g,p2 v' m2 H2 (e1.trans e2) S2 rw'⟩
end
end J
namespace J
open PySem PySem.Spec PyProof.Rows L2
section
variable {X:Cx} {pins:List (UE×Obj)} {σ:St} {H:Hp} {s:UK} {a:UE} {xs:List (List L2.Key×V)}
theorem Hf (I:Inv X pins σ H s) (e:H a=some (.dT xs)):∃o,s.heap.get? a=some o/\Inv X pins σ (upd H a (.bV o (.dT xs))) s:=by
 obtain⟨z,lo,ys,kt,o,es,ep,g1,g2,g3,g4,g5⟩:=id (I.hok a _ e)
 refine⟨o,g1,kH (t':=s.toks) (h':=s.heap) I (by rw[e];exact True.intro) (Heap.SameBut.refl _ _) ⟨o,g1⟩ ⟨g1,z,lo,ys,KT.keeps kt fun c zs ec=>?_,o,es,ep,g1,g2,g3,g4,g5⟩⟩
 rw[ao (DQ ec e (fun z=>nomatch z))]
 exact ec
theorem De {o:Obj} (I:Inv X pins σ H s) (e:H a=some (.bV o (.dT xs))) (n:∀o u,X.H₀ a≠some (.bV o u)):Inv X pins σ (upd H a (.dT xs)) s:=by
 have ne:∀{b:UE},H b=none->b≠a:=fun h z=>by rw[z,e] at h;cases h
 have g:=I.base
 have ow:∀c b,H c=some (.own b)->upd H a (.dT xs) c=some (.own b):=fun c b q=>by
  rw[ao (fun z=>by rw[z,e] at q;cases q)];exact q
 have tu:∀c ys,H c=some (.tup ys)->upd H a (.dT xs) c=some (.tup ys):=fun c ys q=>by
  rw[ao (fun z=>by rw[z,e] at q;cases q)];exact q
 refine⟨I.ok,I.os,I.bare,⟨g.keep,g.slot,fun b ob q h hx=>?_,g.there,fun b ys q=>tu b ys (g.tups b ys q),fun b ob u q=>?_,fun b ps q=>?_⟩,I.loc,I.cell,?_,fun y c q=>?_,fun p hp=>?_,fun b u q=>?_,I.len⟩
 ·have h1:=g.free b ob q h hx
  rw[ao (ne h1)];exact h1
 ·rw[ao (fun z=>n ob u (by rw[<-z];exact q))];exact g.fD b ob u q
 ·obtain⟨m,h1⟩:=g.gA b ps q
  exact⟨m,by rw[ao (fun z=>by rw[z,e] at h1;cases h1)];exact h1⟩
 ·rw[ao (ne I.free)];exact I.free
 ·rw[ao (ne (I.dC y c q))];exact I.dC y c q
 ·obtain⟨p1,p2,p3⟩:=I.pin p hp
  exact⟨p1,by rw[ao (ne p2)];exact p2,p3⟩
 ·by_cases hb:b=a
  ·subst hb
   rw[ay] at q
   cases q
   exact bB.stay (I.hok b _ e).2 (fun c v _ q=>q) (fun c q=>ow c _ q) tu
  ·rw[ao hb] at q
   exact(I.hok b u q).stay (fun c v _ q=>q) (fun c q=>ow c _ q) tu
end
section
variable {K:PySem.W.Frag} {m:Mp} {st:Hs} {H:Hp}
theorem RelK.cX {κ:Type} {m1:Mp} {H1:Hp} {kvs:List (κ×Wv)} {xs:List (κ×V)} (e:p9 K m H m1 H1) (h:RelK K m H kvs xs):RelK K m1 H1 kvs xs:=⟨h.1,ah.cX e _ _ h.2⟩
theorem n9 {a:UE} {o:Obj} {xs:List (List L2.Key×V)} (e:H a=some (.bV o (.dT xs))):p9 K m H m (upd H a (.dT xs)) :=
 ⟨fun _ _ h=>h,fun b ys q=>by rw[ao (fun z=>by rw[z,e] at q;cases q)];exact q,fun b φ q=>by rw[ao (fun z=>by rw[z,e] at q;cases q)];exact q,fun b ob φ q=>by rw[ao (fun z=>by rw[z,e] at q;cases q)];exact q⟩
theorem aK.Hg {l:Nat} {a:UE} {o:Obj} {kvs:List (List L2.Key×Wv)} {xs:List (List L2.Key×V)} (S:aK K m st H) (h1:m[l]? =some a) (h2:st[l]? =some (.mG kvs)) (e:H a=some (.bV o (.dT xs))):aK K m (st.set l (.bM kvs)) (upd H a (.dT xs)):=by
 have ez:=n9 (K:=K) (m:=m) e
 have hl:l < st.length:=(List.getElem?_eq_some_iff.mp h2).1
 have at':∀(k:Nat) (ob:Ob),(st.set l (.bM kvs))[k]? =some ob->(k=l/\ob= .bM kvs)\/(k≠l/\st[k]? =some ob):=fun k ob h=>by
  by_cases z:l=k
  ·subst z
   rw[List.getElem?_set_self hl] at h
   exact .inl ⟨rfl,(Option.some.inj h).symm⟩
  ·rw[List.getElem?_set_ne z] at h
   exact .inr ⟨fun z'=>z z'.symm,h⟩
 refine⟨by simp[S.len],fun k b ob g1 g2=>?_,fun k k' b us us' g1 D4 g2 NB q q'=>?_,S.tab.keep (fun c ps q=>?_) ez.ext⟩
 ·rcases at' k ob g2 with ⟨rfl,rfl⟩ | ⟨hk,g2⟩
  ·rw[h1] at g1
   cases g1
   obtain⟨o',xs',r1,r2⟩:=(show ∃o' xs',H a=some (.bV o' (.dT xs'))/\RelK K m H kvs xs' from S.obj _ _ _ h1 h2)
   rw[e] at r1
   cases r1
   exact⟨xs,ay,r2.cX ez⟩
  ·have q:=S.obj k b ob g1 g2
   have nb:ob.mu=true->b≠a:=fun hm z=>hk (S.inj k l b ob _ g1 (z ▸ h1) g2 h2 hm rfl)
   cases ob with
   | lst ws=>obtain⟨ys,e1,e2⟩:=q;exact⟨ys,by rw[ao (nb rfl)];exact e1,ah.cX ez _ _ e2⟩
   | dct ws=>obtain⟨ys,e1,e2⟩:=q;exact⟨ys,by rw[ao (nb rfl)];exact e1,e2.cX ez⟩
   | bM ws=>obtain⟨ys,e1,e2⟩:=q;exact⟨ys,by rw[ao (nb rfl)];exact e1,e2.cX ez⟩
   | mG ws=>obtain⟨o',ys,e1,e2⟩:=q;exact⟨o',ys,by rw[ao (nb rfl)];exact e1,e2.cX ez⟩
   | ic ns=>
    rcases q with ⟨o',q⟩ | q
    ·exact .inl ⟨o',by rw[ao (fun z=>by rw[z,e] at q;cases q)];exact q⟩
    ·exact .inr q
 ·have back:∀(k:Nat) (ob:Ob),(st.set l (.bM kvs))[k]? =some ob->ob.mu=true->∃o',st[k]? =some o'/\o'.mu=true:=fun k ob h ho=>by
   rcases at' k _ h with ⟨rfl,_⟩ | ⟨_,h⟩
   ·exact⟨_,h2,rfl⟩
   ·exact⟨ob,h,ho⟩
  obtain⟨u1,f1,f2⟩:=back k us g2 q
  obtain⟨u2,f3,f4⟩:=back k' us' NB q'
  exact S.inj k k' b u1 u2 g1 D4 f1 f3 f2 f4
 ·rw[ao (fun z=>by rw[z,e] at q;cases q)];exact q
theorem aq.cX {m1:Mp} {H1:Hp} {ρ:aS} {σ:St} (R:aq K m H ρ σ) (e:p9 K m H m1 H1):aq K m1 H1 ρ σ:=⟨R.len,fun i w h=>let ⟨v,h1,h2⟩:=R.get i w h;⟨v,h1,ae.cX e _ _ h2⟩⟩
theorem Ext.Hg {m1:Mp} {H1:Hp} {a:UE} {xs ys:List (List L2.Key×V)} (e:Ext K m H m1 H1) (h:H a=some (.dT xs)):Ext K m H m1 (L2.upd H1 a (.dT ys)) :=
 ⟨e.pre,fun b zs q=>by rw[ao (fun z=>by rw[z,h] at q;cases q)];exact e.tup b zs q,fun b φ q=>by rw[ao (fun z=>by rw[z,h] at q;cases q)];exact e.ext b φ q,fun b o u q=>by rw[ao (fun z=>by rw[z,h] at q;cases q)];exact e.bV b o u q⟩
end
def z_ (l:Nat) (st:Hs):Hs:=match st[l]? with
 | some (.mG kvs)=>st.set l (.bM kvs)
 | _=>st
def u5 (w:Option (Option Wv)) (st:Hs):Option Nat:=match w with
 | some (some (.ref l))=>(match st[l]? with | some (.bM _)=>some l | _=>none)
 | _=>none
def Aa (i:Nat) (g:GS):GS:=fun ρ st=>match u5 ρ[i]? st with
 | some l=>(match g ρ st with | .nx ρ' st'=> .nx ρ' (z_ l st') | r=>r)
 | none=>g ρ st
section
variable {X:Cx}
theorem Ab {ρ:aS} {st:Hs} {σ:St} {H:Hp} {m:Mp} {i l:Nat} (S:aK X.K m st H) (R:aq X.K m H ρ σ) (h:u5 ρ[i]? st=some l):∃a xs,m[l]? =some a/\H a=some (.dT xs):=by
 unfold u5 at h
 split at h
 ·rename_i k e
  obtain⟨v,_,r⟩:=R.get i _ e
  unfold ae at r
  obtain⟨a,rfl,ha⟩:=r
  split at h
  ·rename_i kvs e1
   cases h
   obtain⟨xs,h1,_⟩:=(show ∃ys,H a=some (.dT ys)/\RelK X.K m H kvs ys from S.obj _ _ _ ha e1)
   exact⟨a,xs,ha,h1⟩
  ·cases h
 ·cases h
theorem Ac {pins:List (UE×Obj)} {s0 s':UK} {σ σ':St} {H H':Hp} {m m':Mp} {l:Nat} {a:UE} {xs:List (List L2.Key×V)} {st':Hs} (I:Inv X pins σ H s0) (h0:H a=some (.dT xs)) (ha:m[l]? =some a) (e:Ext X.K m H m' H') (S:aK X.K m' st' H') (I':Inv X pins σ' H' s') :
  ∃sJ,Inv X pins σ' sJ s'/\Ext X.K m H m' sJ/\aK X.K m' (z_ l st') sJ/\p9 X.K m' H' m' sJ:=by
 unfold z_
 have same:∃sJ,Inv X pins σ' sJ s'/\Ext X.K m H m' sJ/\aK X.K m' st' sJ/\p9 X.K m' H' m' sJ:=⟨H',I',e,S,Ext.refl.z⟩
 split
 ·rename_i kvs e1
  obtain⟨o,ys,h1,_⟩:=(show ∃o ys,H' a=some (.bV o (.dT ys))/\RelK X.K m' H' kvs ys from S.obj _ _ _ (e.pre _ _ ha) e1)
  exact⟨_,De I' h1 fun o u q=>(by have z:=I.base.fD _ _ _ q;rw[h0] at z;cases z),e.Hg h0,S.Hg (e.pre _ _ ha) e1 h1,n9 h1⟩
 ·exact same
theorem Df (i:Nat) {Qv:Stmt} {g:GS} (h:JS X Qv g):JS X Qv (Aa i g):=by
 intro ρ st σ H m D S R p
 unfold Aa at p
 cases eo:u5 ρ[i]? st with
 | none=>rw[eo] at p;exact h ρ st σ H m D S R p
 | some l=>
  rw[eo] at p
  dsimp only at p
  cases eg:g ρ st with
  | nx ρ' st'=>
   rw[eg] at p
   intro pins s I
   obtain⟨a,xs,ha,h0⟩:=Ab S R eo
   have go:=h ρ st σ H m { D with nx:=fun σ' H'=>∃m',Ext X.K m H m' H'/\aK X.K m' st' H'/\aq X.K m' H' ρ' σ' } S R (by rw[eg];exact fun σ' m' H' e' S' R'=>⟨m',e',S',R'⟩) pins s I
   refine U3 go (fun f s' q=>?_) fun _ _ z=>z
   cases f with
   | next=>
    obtain⟨σ',H',I',m',e',S',R'⟩:=q
    obtain⟨sJ,I2,e2,S2,z2⟩:=Ac I h0 ha e' S' I'
    exact⟨σ',sJ,I2,p σ' m' sJ e2 S2 (R'.cX z2)⟩
   | brk=>exact q
   | cont=>exact q
   | ret u=>exact q
  | rt w st'=>rw[eg] at p;exact h ρ st σ H m D S R (by rw[eg];exact p)
  | bk ρ' st'=>rw[eg] at p;exact h ρ st σ H m D S R (by rw[eg];exact p)
  | ct ρ' st'=>rw[eg] at p;exact h ρ st σ H m D S R (by rw[eg];exact p)
  | err c ρ' st'=>rw[eg] at p;exact h ρ st σ H m D S R (by rw[eg];exact p)
  | bad=>rw[eg] at p;exact False.elim p
end
def Br (a:UE) (o:Obj) (xs:List (List L2.Key×V)):It :=
 ⟨fun i H=>H a=some (.bV o (.dT xs))/\i < xs.length,fun i H v H'=>H'=H/\∃k b,(xs[i]?).map (·.1)=some k/\v= .ref b/\H b=some (.tup (k.map kV)),fun i H=>H a=some (.bV o (.dT xs))/\xs.length<=i⟩
theorem Ad {H:Hp}:∀{xs:List (List L2.Key×V)} {ys:List (List L2.Key×UE×UL)},KT H xs ys->∀{i:Nat} {y:List L2.Key×UE×UL},ys[i]? =some y->∃x,xs[i]? =some x/\x.1=y.1/\H y.2.1=some (.tup (x.1.map kV))/\RelV x.2 y.2.2
 | _,_,.nil,i,y,h=>by cases h
 | _,_,.cons h t,0,y,e=>by cases e;exact⟨_,rfl,h⟩
 | _,_,.cons h t,i+1,y,e=>Ad t (i:=i) e
theorem pj {P:UJ} {w:UM} {H:Hp} {h:Heap} {a:UE} {o:Obj} {xs:List (List L2.Key×V)} (ok:f' P w H h) (e:H a=some (.bV o (.dT xs))) :
  ∃es ep,(a == sysModules)=false/\o.data= .dict es ep/\lZ h a es ep/\es.size=xs.length/\∀(i:Nat) (hi:i < es.size),∃x b,xs[i]? =some x/\es[i].key= .ref b/\H b=some (.tup (x.1.map kV))/\RelV x.2 es[i].val:=by
 obtain⟨ho,z,lo,ys,kt,o',es,ep,g1,g2,g3,g4,g5⟩:=ok a _ e
 rw[ho] at g1
 cases g1
 have len:es.size=ys.length:=by have:=congrArg List.length g4;simpa using this
 have GZ:xs.length=ys.length:=Paired.length kt
 refine⟨es,ep,lo,g3,⟨o,ho,g2.1,g3⟩,by omega,fun i hi=>?_⟩
 have hi':i < ys.length:=by omega
 have q1:es[i]=entryOfKey (tupleKind (aV P w)) ys[i]:=by
  have:es.toList[i]? =(ys.map (entryOfKey (tupleKind (aV P w))))[i]?:=by rw[g4]
  rw[List.getElem?_eq_getElem (by simpa using hi),List.getElem?_map,List.getElem?_eq_getElem hi'] at this
  simpa using this
 obtain⟨x,e1,e2,e3,e4⟩:=Ad kt (List.getElem?_eq_getElem hi')
 exact⟨x,ys[i].2.1,e1,by rw[q1];rfl,e3,by rw[q1];exact e4⟩
theorem w5 {P:UJ} {w:UM} {K:PySem.W.Frag} {tg:Expr} (a it:UE) (o:Obj) (xs:List (List L2.Key×V)):Turn P w K tg (Br a o xs) [it] it (fun i h=>∃es ep,o.data= .dict es ep/\h.IsKeyIter it a i es.size ep) where
 mem:=by simp
 obj:=fun i h st b hb=>by
  obtain⟨es,ep,_,oi,q1,q2,q3⟩:=st
  have e:b=it:=by simpa using hb
  subst e
  exact⟨oi,q1,fun v z=>by rw[q3] at z;cases z⟩
 keep:=fun i h h' st k=>let ⟨es,ep,hd,ki⟩:=st;⟨es,ep,hd,ki.at fun ob q=>k it (by simp) ob q⟩
 self:=fun _ _ _ _ _ st h=>let ⟨_,_,_,ki⟩:=st;wpAny_pyIter_keyiter ki h
 item:=by
  intro X hP hw hK hc i pins s σ H E I hf st hg
  subst hP hw hK
  obtain⟨es,ep,hd,ki⟩:=st
  obtain⟨he,hi⟩:=hg
  obtain⟨es',rQ,lo,hd',raw,sz,keys⟩:=pj I.hok he
  rw[hd] at hd'
  cases hd'
  obtain⟨f0,f1,f2,f3,f4,f5⟩:=hf it (by simp)
  have hi':i < es.size:=by omega
  refine qM ki raw hi' fun h' K4 sb=>?_
  obtain⟨x,b,e1,e2,e3,_⟩:=keys i hi'
  have I1:Inv X pins σ H { s with heap:=h' }:=I.turned (t':=s.toks) (fun c ob hc e=>sb.extBut c ob hc e) f0 f1 f3 f4 f5
  obtain⟨oi,q1,q2,q3⟩:=id K4
  exact⟨es[i].key,rfl,jQ (s:={ s with heap:=h' }) q1 q2 q3 (by decide) ⟨.ref b,H,I1,e2,⟨rfl,x.1,b,by rw[e1];rfl,rfl,e3⟩,⟨es,ep,hd,K4⟩,fun c hb=>(hf c hb).1⟩⟩
 done:=by
  intro X hP hw hK hc i pins s σ H E I hf st hg
  subst hP hw hK
  obtain⟨es,ep,hd,ki⟩:=st
  obtain⟨he,hi⟩:=hg
  obtain⟨es',rQ,lo,hd',raw,sz,keys⟩:=pj I.hok he
  rw[hd] at hd'
  cases hd'
  obtain⟨f0,f1,f2,f3,f4,f5⟩:=hf it (by simp)
  exact uT (I.ok.hd hc) ki raw (by omega) fun h' eb=>⟨rfl,I.turned (t':=s.toks) (fun b ob hb e=>eb b ob hb e) f0 f1 f3 f4 f5⟩
section
variable {X:Cx} {tg:Expr}
def K8 (te:TE):TI:=fun σ H R=>te σ H fun x H1=>∃a xs,x= .ref a/\((H1 a=some (.dT xs)/\∀o,R (Br a o xs) (upd H1 a (.bV o (.dT xs))))\/∃o,H1 a=some (.bV o (.dT xs))/\R (Br a o xs) H1)
theorem u6 {pins:List (UE×Obj)} {σ:St} {H:Hp} {s:UK} {R:It->Hp->Prop} {E:UL->UK->Prop} {a:UE} {o:Obj} {xs:List (List L2.Key×V)} (I:Inv X pins σ H s) (e:H a=some (.bV o (.dT xs))) (r:R (Br a o xs) H):UZ (model X.prog X.w) X.A (pyIter (.ref a)) (M' X pins σ tg R) E s:=by
 obtain⟨es,ep,lo,hd,raw,sz,keys⟩:=pj I.hok e
 refine qL lo raw ⟨s.heap.objs.size,[s.heap.objs.size],_,Br a o xs,H,rfl,I.kept (t':=s.toks) fun b ob q=>Heap.get?_push_of_some _ q,w5 a _ o xs,⟨es,ep,hd,_,Heap.get?_push_size _ rfl,rfl,rfl⟩,fun b hb=>?_,r⟩
 rw[List.mem_singleton.mp hb]
 exact I.pX (Nat.le_refl _) (I.hok.fresh (Nat.le_refl _))
theorem Dg {e:Expr} {te:TE} (he:PE X e te):PI X tg e (K8 te):=by
 intro pins s σ H R I h
 refine aM (he pins s σ H _ I h) fun v s1 ⟨x,H1,I1,r1,a,xs,ex,q⟩=>?_
 subst ex
 cases r1
 rcases q with ⟨e1,k⟩ | ⟨o,e1,k⟩
 ·obtain⟨o,_,I2⟩:=Hf I1 e1
  exact u6 I2 ay (k o)
 ·exact u6 I1 e1 k
def Et (w:Wv) (st:Hs):Re Wk:=match w with
 | .ref l=>(match st[l]? with
  | some (.bM kvs)=>(match et (kvs.map (·.1)) with | some ws=> .ok (none,ws) (st.set l (.mG kvs)) | none=> .bad)
  | some (.mG kvs)=>(match et (kvs.map (·.1)) with | some ws=> .ok (none,ws) st | none=> .bad)
  | _=> .bad)
 | _=> .bad
def Hh (g:GE):GI:=fun ρ st=>(g ρ st).bind Et
theorem n_:∀{ks:List (List L2.Key)} {ws:List Wv},et ks=some ws->ws.length=ks.length/\∀(i:Nat) (h:i < ws.length),∃k ns,ks[i]? =some k/\qN k=some ns/\ws[i]= .tup (ns.map Wv.int)
 | [],ws,e=>by cases e;exact⟨rfl,fun i h=>by cases h⟩
 | k::ks,ws,e=>by
  unfold et at e
  cases q1:qN k with
  | none=>rw[q1] at e;cases e
  | some ns=>
   cases q2:et ks with
   | none=>rw[q1,q2] at e;cases e
   | some l=>
    rw[q1,q2] at e
    cases e
    obtain⟨h1,h2⟩:=n_ q2
    refine⟨by simp[h1],fun i h=>?_⟩
    cases i with
    | zero=>exact⟨k,ns,rfl,q1,rfl⟩
    | succ i=>exact h2 i (by simpa using h)
theorem qV {m1:Mp} {H1:Hp} {a:UE} {o:Obj} {kvs:List (List L2.Key×Wv)} {xs:List (List L2.Key×V)} {ws:List Wv} (e:H1 a=some (.bV o (.dT xs))) (r:RelK X.K m1 H1 kvs xs) (hk:et (kvs.map (·.1))=some ws) :
  (∀(k:Nat) (H:Hp) (m':Mp),Ext X.K m1 H1 m' H->k < ws.length->(Br a o xs).go k H)/\(∀(k:Nat) (H:Hp) (m':Mp),Ext X.K m1 H1 m' H->k=ws.length->(Br a o xs).stop k H)/\
  ∀(k:Nat) (hk:k < ws.length) (H:Hp) (x:V) (H':Hp) (m':Mp),Ext X.K m1 H1 m' H->(Br a o xs).pW k H x H'->H'=H/\ae X.K m' H ws[k] x:=by
 obtain⟨l1,g1⟩:=n_ hk
 have l2:ws.length=xs.length:=by rw[l1,List.length_map,r.length]
 refine⟨fun k H m' e' h=>⟨e'.bV _ _ _ e,by omega⟩,fun k H m' e' h=>⟨e'.bV _ _ _ e,by omega⟩,fun k h H v H' m' e' y=>?_⟩
 obtain⟨rfl,kk,b,y1,rfl,y2⟩:=y
 refine⟨rfl,?_⟩
 obtain⟨k',ns,f1,f2,f3⟩:=g1 k h
 have e3:(xs[k]?).map (·.1)=some k':=by rw[<-List.getElem?_map,<-r.1];exact f1
 rw[y1] at e3
 cases e3
 rw[f3]
 rw[ph f2] at y2
 unfold ae
 exact⟨b,_,rfl,y2,ah.ints ns⟩
def u7 (i:Nat) (g:GE) (gb:GS):GS:=fun ρ st=>(Hh g ρ st).aM ρ fun w st1=>fh i gb w.2 ρ st1
theorem Dh (i:Nat) {x:Str} {iter:Expr} {body:List Stmt} {g:GE} {gb:GS} {pos pos':Pos} (hN:X.N.Nodup) (hp:PassesOwn (model X.prog X.w) X.A X.env X.xe) (hc:X.calm=true) (h:JE X iter g) (hb:ip X body gb)
  (hx:X.N[i]? =some x) (hlo:Loc X.env.scope x) (Ky:X.fn x=true\/X.env.scope.names.lookup x=some .local) (hs:∀x,UT iter X.env x=pure x):JS X (.For (.Name x pos') iter body [] pos) (u7 i g gb):=by
 refine JS.of (jw hp hc (Dg az) (iR hN hx hlo Ky) cj hs) fun ρ st σ H m D S R p=>?_
 refine h.go S R (ar.bind (av.bo R p)) fun w st1 v m1 H1 p1 e1 S1 rw'=>?_
 unfold Et at p1
 cases w with
 | ref l=>
  unfold ae at rw'
  obtain⟨a,rfl,ha⟩:=rw'
  dsimp only at p1
  cases el:st1[l]? with
  | none=>rw[el] at p1;exact False.elim p1
  | some ob=>
   rw[el] at p1
   cases ob with
   | bM kvs=>
    dsimp only at p1
    cases ek:et (kvs.map (·.1)) with
    | none=>rw[ek] at p1;exact False.elim p1
    | some ws=>
     rw[ek] at p1
     obtain⟨xs,h1,h2⟩:=(show ∃ys,H1 a=some (.dT ys)/\RelK X.K m1 H1 kvs ys from S1.obj _ _ _ ha el)
     refine⟨a,xs,rfl,.inl ⟨h1,fun o=>?_⟩⟩
     have ex:Ext X.K m1 H1 m1 (upd H1 a (.bV o (.dT xs))):=Ext.gw (.inr (.inr (.inr ⟨_,h1⟩)))
     have S2:aK X.K m1 (st1.set l (.mG kvs)) (upd H1 a (.bV o (.dT xs))):=S1.jx ha el rfl ⟨o,xs,ay,h2.mono ex⟩
     obtain⟨g1,g2,g3⟩:=qV (X:=X) (o:=o) ay (h2.mono ex) ek
     exact gH (J':=Br a o xs) i hb S2 (R.mono (e1.trans ex)) (av.shift p1 (e1.trans ex)) g1 g2 g3
   | mG kvs=>
    dsimp only at p1
    cases ek:et (kvs.map (·.1)) with
    | none=>rw[ek] at p1;exact False.elim p1
    | some ws=>
     rw[ek] at p1
     obtain⟨o,xs,h1,h2⟩:=(show ∃o ys,H1 a=some (.bV o (.dT ys))/\RelK X.K m1 H1 kvs ys from S1.obj _ _ _ ha el)
     obtain⟨g1,g2,g3⟩:=qV (X:=X) h1 h2 ek
     exact⟨a,xs,rfl,.inr ⟨o,h1,gH (J':=Br a o xs) i hb S1 (R.mono e1) (av.shift p1 e1) g1 g2 g3⟩⟩
   | _=>exact False.elim p1
 | _=>exact False.elim p1
end
end J
namespace J
open PySem PySem.Spec PyProof.Rows L2
section
variable {prog:UJ} {w:UM} {A:UG} {E:UL->UK->Prop} {s:UK} {d:UE} {es:Array DictEntry} {ep:Nat}
theorem Di {Q:UL->UK->Prop} (lo:(d == sysModules)=false) (x:lZ s.heap d es ep) (hz:es.size<=UX) (h:Q (.int es.size (s.toks+1)) { s with toks:=s.toks+1+1 }):UZ (model prog w) A (call (.builtin "len") [.ref d]) Q E s:=by
 have ty:=x.ty
 obtain⟨o,g1,g2,g3⟩:=x
 refine Calls.call_function_entry kind_len plain_len entry_len (args_len1 _) ?_
 have n0:¬((es.size:Int) < 0):=by omega
 have n1:¬((es.size:Int) >= 2 ^ 63):=by rw[sizeLine_eq] at hz;omega
 have M:MeetsIn prog w (Builtin.«dict.__len__» ⟨[.ref d],[]⟩) (fun _ R s'=>s'=s/\R (.ok (.ret (.int es.size s.toks))) { s with toks:=s.toks+1 }):=.of_wp fun A R s' ⟨e,h⟩=>by
  subst e
  refine(show UZ _ _ (dictSize d >>= _) _ _ s' from ?_)
  unfold dictSize
  refine U0 (U0 (U1 g1 g3 (U6 ?_)))
  exact(show UZ _ _ (Builtin.Dict.pendingCount d >>= _) _ _ s' from U0 (wpAny_pendingCount_other lo (wpAny_ret_mkInt (by rw[Nat.add_zero];exact h))))
 unfold Builtin.«len»
 refine U0 (m:=oneArg "len" _) (U6 (U0 (m:=callSpecial? (.ref d) (Str.ofString "__len__")) (wpAny_callSpecial?_slot (name:=Str.ofString "__len__") ty PySem.F.slot_dict_len
  (call_meetsIn PySem.F.slot_dict_len ty PySem.F.entry_dict_len (PySem.F.args_dict_len_1 _) M ⟨rfl,?_⟩))))
 refine(show UZ _ _ _ _ _ { s with toks:=s.toks+1 } from U0 (U2 (U6 (U0 (wpAny_letGo ?_)))))
 refine(show UZ _ _ (if((es.size:Nat):Int) < 0 then _ else _) _ _ _ from ?_);rw[if_neg n0]
 refine(show UZ _ _ (if((es.size:Nat):Int) >= 2 ^ 63 then _ else _) _ _ _ from ?_);rw[if_neg n1]
 exact U0 (wpAny_mkInt (U6 ⟨_,rfl,h⟩))
end
section
variable {prog:UJ} {w:UM} {K:Type} [DecidableEq K] {knd:HeapKind prog w K} {A:UG} {E:UL->UK->Prop} {s:UK} {d a:UE} {xs:List (K×UE×UL)} {k:K}
end
section
variable {prog:UJ} {w:UM} {A:UG} {E:UL->UK->Prop} {s:UK}
end
section
variable {prog:UJ} {w:UM} {A:UG} {E:UL->UK->Prop} {s:UK} {d it:UE} {i:Nat} {es:Array DictEntry} {ep:Nat} {ok ov:UL}
end
end J
namespace J
open PySem PySem.Spec PyProof.Rows L2
section
variable {X:Cx}
theorem Hj {P:UJ} {w:UM} {H:Hp} {h:Heap} {a:UE} {xs:List (List L2.Key×V)} (ok:f' P w H h) (e:Rd H a (.dT xs)) :
  ∃es ep ys,xs.length<=UX/\(a == sysModules)=false/\lZ h a es ep/\es.size=xs.length/\KT H xs ys/\es.toList=ys.map (entryOfKey (tupleKind (aV P w)))/\(ys.map (·.1)).Nodup:=by
 obtain⟨z,lo,ys,kt,o,es,ep,g1,g2,g3,g4,g5⟩:=(show bB P w H h a (.dT xs) from yh ok e)
 have len:es.size=ys.length:=by have:=congrArg List.length g4;simpa using this
 exact⟨es,ep,ys,z,lo,⟨o,g1,g2.1,g3⟩,by rw[len];exact(Paired.length kt).symm,kt,g4,g5⟩
theorem w9:bL X (.builtin "len") (fun xs H Q=>∃a kvs,xs=[.ref a]/\Rd H a (.dT kvs)/\Q (.int kvs.length) H):=by
 intro pins s σ H xs us Q I rs q
 obtain⟨a,kvs,rfl,e,q⟩:=q
 cases rs with
 | cons r rr=>
  cases rr
  cases r
  obtain⟨es,ep,ys,z,lo,raw,sz,_⟩:=Hj I.hok e
  refine Di lo raw (by rw[sz];exact z) ⟨.int kvs.length,H,I.tok _,⟨_,by rw[sz]⟩,q⟩
def kr:Option Ob->Option (List (List L2.Key×Wv))
 | some (.bM kvs)=>some kvs
 | some (.mG kvs)=>some kvs
 | _=>none
theorem pk {m:Mp} {st:Hs} {H:Hp} {l:Nat} {a:UE} {kvs:List (List L2.Key×Wv)} (S:aK X.K m st H) (ha:m[l]? =some a) (h:kr st[l]? =some kvs):∃xs,Rd H a (.dT xs)/\RelK X.K m H kvs xs:=by
 unfold kr at h
 split at h
 ·rename_i k' e
  cases h
  obtain⟨xs,h1,h2⟩:=(show ∃ys,H a=some (.dT ys)/\RelK X.K m H kvs ys from S.obj _ _ _ ha e)
  exact⟨xs,.inl h1,h2⟩
 ·rename_i k' e
  cases h
  obtain⟨o,xs,h1,h2⟩:=(show ∃o ys,H a=some (.bV o (.dT ys))/\RelK X.K m H kvs ys from S.obj _ _ _ ha e)
  exact⟨xs,.inr ⟨o,h1⟩,h2⟩
 ·cases h
def jk:List Wv->Hs->Re Wv
 | [.ref l],st=>(match kr st[l]? with | some kvs=> .ok (.int kvs.length) st | none=>ff [.ref l] st)
 | ws,st=>ff ws st
theorem Dj:bx X (.builtin "len") jk:=by
 obtain⟨r0,c0,k0⟩:=yJ (X:=X)
 refine⟨_,w9.or c0,fun ws vs st H m Q S r p=>?_⟩
 have old:bC X.K m H (ff ws st) Q->r0 vs H Q:=fun p=>k0 ws vs st H m Q S r p
 unfold jk at p
 split at p
 ·rename_i l
  cases e:kr st[l]? with
  | none=>rw[e] at p;exact .inr (old p)
  | some kvs=>
   rw[e] at p
   obtain⟨v,rfl,rx⟩:=ie r
   unfold ae at rx
   obtain⟨a,rfl,ha⟩:=rx
   obtain⟨xs,h1,h2⟩:=pk (X:=X) S ha e
   refine .inl ⟨a,xs,rfl,h1,?_⟩
   rw[<-h2.length]
   exact p _ m H Ext.refl S mkInt
 ·exact .inr (old p)
def K9 (ns:List Int):Int:=reduceHash (Builtin.Tuple.tupleHashOf (ns.map hashInt))
end
theorem w_ {o:Option V} {u:UL} (r:kR o (some u)):∃v,o=some v/\RelV v u:=by
 cases o with
 | none=>exact(show False from r).elim
 | some v=>exact⟨v,rfl,r⟩
section
variable {X:Cx} {o e f:Expr} {apos cpos:Pos} {td ty tx:TE}
def Ae {κ:Type} [DecidableEq κ] (kvs:List (κ×Wv)) (k:κ):List (κ×Wv):=kvs.filter fun kv=>decide (kv.1≠k)
theorem RelK.drop {κ:Type} [DecidableEq κ] {K:PySem.W.Frag} {m:Mp} {H:Hp} (k:κ):∀{kvs:List (κ×Wv)} {xs:List (κ×V)},RelK K m H kvs xs->RelK K m H (Ae kvs k) (lu xs k)
 | [],xs,h=>by rw[h.nil_inv];exact RelK.nil
 | p::r,xs,h=>by
  obtain⟨v,t,rfl,h1,h2⟩:=h.cons_inv
  by_cases e:p.1=k
  ·rw[wa e]
   unfold Ae
   rw[List.filter_cons,if_neg (by simp[e])]
   exact h2.drop k
  ·rw[wb e]
   unfold Ae
   rw[List.filter_cons,if_pos (by simp[e])]
   exact RelK.cons h1 (h2.drop k)
end
structure M0 (X:Cx) (o:Expr) (m:Str) (apos cpos:Pos):Prop where
 base:attributeBase o m X.env (eval o X.env)=eval o X.env
 line:(apos.endLine == cpos.line)=true
section
variable {X:Cx} {es':List Expr} {kt:Nat} {pt:Pos}
end
end J
namespace J
open PySem PySem.Spec PyProof.Rows L2
def Qw (K:PySem.W.Frag) (a:UE) (n:Nat):It :=
 ⟨fun i H=>∃xs,gq K H a xs/\xs.length=n/\i < n,fun i H x H'=>H'=H/\∀xs,gq K H a xs->xs[n - 1 - i]? =some x,fun i _=>n=i⟩
theorem Af {P:UJ} {w:UM} {K:PySem.W.Frag} {tg:Expr} (a it:UE) (n:Nat):Turn P w K tg (Qw K a n) [it] it (fun i h=>h.IsRevIter it a ((n:Int) - 1 - i)) where
 mem:=by simp
 obj:=fun i h st b hb=>by
  have e:b=it:=by simpa using hb
  subst e
  obtain⟨o,e,c,d⟩:=st
  exact⟨o,e,fun v z=>by rw[d] at z;cases z⟩
 keep:=fun i h h' st k=>st.at fun o e=>k it (by simp) o e
 item:=by
  intro X hP hw hK hc i pins s σ H E I hf st hg
  subst hP hw hK
  obtain⟨xs,hq,hn,hi⟩:=hg
  obtain⟨its,rv,p,hz⟩:=I.list hq
  have hx:xs[n - 1 - i]? =some (xs[n - 1 - i]'(by omega)):=List.getElem?_eq_getElem (by omega)
  obtain⟨u,hu,ru⟩:=rv.get hx
  obtain⟨f0,f1,f2,f3,f4,f5⟩:=hf it (by simp)
  have ei:(n:Int) - 1 - i=((n - 1 - i:Nat):Int):=by omega
  have st2:s.heap.IsRevIter it a ((n - 1 - i:Nat):Int):=by rw[<-ei];exact st
  refine wpAny_pyNext_rev_item st2 p.isList (x:=u) (by simpa using hu) fun h' st' sb=>?_
  have st3:h'.IsRevIter it a ((n:Int) - 1 - ((i+1:Nat):Int)):=by
   have e:(n:Int) - 1 - ((i+1:Nat):Int)=((n - 1 - i:Nat):Int) - 1:=by omega
   rw[e];exact st'
  have I1:Inv X pins σ H { s with heap:=h' }:=I.turned (t':=s.toks) (fun b o hb e=>(sb.2 b hb).trans e) f0 f1 f3 f4 f5
  obtain⟨o,e,c,d⟩:=id st'
  exact⟨u,rfl,jQ (s:={ s with heap:=h' }) e c d (by decide) ⟨_,H,I1,ru,⟨rfl,fun ys hy=>by rw[I.pU hy hq];exact hx⟩,st3,fun b hb=>(hf b hb).1⟩⟩
 done:=by
  intro X hP hw hK hc i pins s σ H E I hf st hg
  subst hP hw hK
  have hg:n=i:=hg
  obtain⟨f0,f1,f2,f3,f4,f5⟩:=hf it (by simp)
  have st2:s.heap.IsRevIter it a (-1):=by
   have e:(n:Int) - 1 - i= -1:=by omega
   rw[<-e];exact st
  exact wpAny_pyNext_rev_end (I.ok.hd hc) st2 fun h' eb=>⟨rfl,I.turned (t':=s.toks) (fun b o hb e=>eb b o hb e) f0 f1 f3 f4 f5⟩
 self:=fun _ _ _ _ _ st h=>wpAny_pyIter_revIter st h
section
variable {X:Cx}
def Ou (K:PySem.W.Frag) (ta:TA):TI:=fun σ H R=>ta σ H fun vs H1=>∃a xs,vs=[.ref a]/\gq K H1 a xs/\R (Qw K a xs.length) H1
theorem boot_reversed:UP "reversed"=some (.type "reversed"):=by decide+kernel
theorem Hk {tg:Expr} {p q:Pos} {l:Expr} {ta:TA} (hg:Gl X "reversed") (hm:X.mg "reversed"=none) (ha:PA X [l] ta) (hst:UY [l] X.env=[(false,eval l X.env)]) :
  PI X tg (.Call (.Name "reversed" p) [l] [] q) (Ou X.K ta):=by
 intro pins s σ H R I h
 refine Call_ (iz I hg hm boot_reversed (PyProof.Rows.callWith_type1 (aM (ha q pins s σ H _ I h) fun us s1 ⟨vs,H1,I1,r1,q1⟩=>?_) hst rfl))
 obtain⟨a,xs,e,hq,k⟩:=q1
 subst e
 cases r1 with
 | cons r rr=>
  cases rr
  cases r
  obtain⟨its,rv,pl,hz⟩:=I1.list hq
  have hl:=rv.length
  refine call_reversed_list pl.isList (wpAny_pyIter_revIter (l:=a) (i:=(xs.length:Int) - 1) ⟨_,Heap.get?_push_size _ rfl,rfl,by simp[revObj,hl]⟩ ?_)
  refine⟨s1.heap.objs.size,[s1.heap.objs.size],_,_,H1,rfl,I1.kept (t':=s1.toks) fun b o q=>Heap.get?_push_of_some _ q,Af a _ xs.length,⟨_,Heap.get?_push_size _ rfl,rfl,by simp[revObj,hl]⟩,fun b hb=>?_,k⟩
  rw[List.mem_singleton.mp hb]
  exact I1.pX (Nat.le_refl _) (I1.hok.fresh (Nat.le_refl _))
def qW (i:Nat) (ga:GA) (gb:GS):GS:=fun ρ st=>(ga ρ st).aM ρ fun ws st1=>match ws with
 | [.ref l]=>(match af st1 l with | some all=>forL i gb l all all.reverse ρ st1 | none=> .bad)
 | _=> .bad
theorem Dk (i:Nat) {x:Str} {l:Expr} {body:List Stmt} {ga:GA} {gb:GS} {pos pos' p q:Pos} (hN:X.N.Nodup) (hp:PassesOwn (model X.prog X.w) X.A X.env X.xe) (hc:X.calm=true) (hg:Gl X "reversed") (hm:X.mg "reversed"=none) (ha:JA X [l] ga) (hst:UY [l] X.env=[(false,eval l X.env)]) (hb:ip X body gb)
  (hx:X.N[i]? =some x) (hlo:Loc X.env.scope x) (hf:X.fn x=true\/X.env.scope.names.lookup x=some .local):JS X (.For (.Name x pos') (.Call (.Name "reversed" p) [l] [] q) body [] pos) (qW i ga gb):=by
 refine JS.of (jw hp hc (Hk hg hm il hst) (iR hN hx hlo hf) cj (fun _=>rfl)) fun ρ st σ H m D S R p=>?_
 refine ha.go S R (av.bo R p) fun ws st1 vs m1 H1 p1 e1 S1 rs=>?_
 match ws,rs,p1 with
 | [],rs,p1=>exact False.elim p1
 | x::y::t,rs,p1=>cases x<;>exact False.elim p1
 | [w],rs,p1=>
  obtain⟨v,rfl,rw'⟩:=ie rs
  cases w with
  | ref l=>
   have p1':av X m H (match af st1 l with | some all=>forL i gb l all all.reverse ρ st1 | none=> .bad) D:=p1
   unfold ae at rw'
   obtain⟨a,rfl,hla⟩:=rw'
   cases el:af st1 l with
   | none=>rw[el] at p1';exact False.elim p1'
   | some ws=>
    rw[el] at p1'
    obtain⟨Cp,q0,r0⟩:=S1.read hla el
    refine⟨a,Cp,rfl,q0,?_⟩
    have len0:ws.length=Cp.length:=r0.length
    have lr:ws.reverse.length=ws.length:=List.length_reverse
    let Pv:Nat->St->Hp->Prop:=fun k σ H=>∃ρ st m',Ext X.K m1 H1 m' H/\aK X.K m' st H/\aq X.K m' H ρ σ/\af st l=some ws/\av X m' H (forL i gb l ws (ws.reverse.drop k) ρ st) D
    refine⟨fun k n σ H=>n=ws.length - k/\k<=ws.length/\Pv k σ H,⟨ws.length,by simp,Nat.zero_le _,ρ,st1,m1,Ext.refl,S1,R.mono e1,el,av.shift p1' e1⟩,?_⟩
    rintro k n σ2 H2 ⟨rfl,hk,ρ2,st2,m2,e2,S2,R2,l2,p2⟩
    obtain⟨xs,hq,rws⟩:=S2.read (e2.pre _ _ hla) l2
    have hlen:=rws.length
    by_cases hlt:k < ws.length
    ·have hlt':k < ws.reverse.length:=by omega
     refine .inr ⟨⟨xs,hq,by omega,by omega⟩,Pv (k+1),fun σ' H' p'=>⟨ws.length - (k+1),by omega,rfl,hlt,p'⟩,fun x H' y=>?_⟩
     obtain⟨ee,y⟩:=y
     subst ee
     have ey:=y xs hq
     have ed:ws.reverse.drop k=ws.reverse[k]::ws.reverse.drop (k+1):=List.drop_eq_getElem_cons hlt'
     have Sq:ws.reverse[k]=ws[ws.length - 1 - k]'(by omega):=by rw[List.getElem_reverse]
     obtain⟨x',ex',jz⟩:=rws.get (i:=ws.length - 1 - k) (w:=ws[ws.length - 1 - k]'(by omega)) (List.getElem?_eq_getElem (by omega))
     rw[<-len0,ex'] at ey
     cases ey
     rw[ed,Sq] at p2
     refine hb _ st2 _ _ m2 _ S2 (R2.set i jz) ?_
     unfold forL at p2
     cases eg:gb (ρ2.set i (some (ws[ws.length - 1 - k]'(by omega)))) st2 with
     | nx ρ3 st3=>
      rw[eg] at p2
      by_cases c:af st3 l=some ws
      ·simp only[if_pos c] at p2
       exact fun σ3 m3 H3 e3 S3 R3=>⟨ρ3,st3,m3,e2.trans e3,S3,R3,c,av.shift p2 e3⟩
      ·simp only[if_neg c] at p2;exact False.elim p2
     | ct ρ3 st3=>
      rw[eg] at p2
      by_cases c:af st3 l=some ws
      ·simp only[if_pos c] at p2
       exact fun σ3 m3 H3 e3 S3 R3=>⟨ρ3,st3,m3,e2.trans e3,S3,R3,c,av.shift p2 e3⟩
      ·simp only[if_neg c] at p2;exact False.elim p2
     | bk ρ3 st3=>rw[eg] at p2;exact p2
     | rt w3 st3=>rw[eg] at p2;exact p2
     | err c3 ρ3 st3=>rw[eg] at p2;exact p2
     | bad=>rw[eg] at p2;exact p2
    ·have e:k=ws.length:=by omega
     subst e
     rw[<-lr,List.drop_length] at p2
     exact .inl ⟨by show Cp.length=ws.length;omega,p2 σ2 m2 H2 Ext.refl S2 R2⟩
  | _=>exact False.elim p1
end
end J
namespace J
open PySem PySem.Spec PyProof.Rows L2
section
variable {prog:UJ} {w:UM} {K:Type} [DecidableEq K] {knd:HeapKind prog w K} {A:UG} {E:UL->UK->Prop} {s:UK} {a b:UE} {xs ys:List (K×UE×UL)}
theorem og {id:String} {f:K->Bool} {Q:Bool->UK->Prop} (hu:knd.room A) (la:(a == sysModules)=false) (lb:(b == sysModules)=false) (hA:s.heap.DictOfH knd a xs) (hB:s.heap.DictOfH knd b ys)
  (hf:∀x∈xs,∀y∈ys,x.1=y.1->∀Q:Bool->UK->Prop,Q (f x.1) s->UZ (model prog w) A (eqBool x.2.2 y.2.2) Q E s)
  (hQ:Q (decide (xs.length=ys.length)&&xs.all fun x=>(atKey ys x.1).isSome&&f x.1) s):UZ (model prog w) A (Builtin.Dict.samePairs id a b) Q E s:=by
 obtain⟨oa,ea,Sr,a1,a2,a3,a4,a5,a6⟩:=hA
 obtain⟨ob,eb,Ux,b1,b2,b3,b4,b5,b6⟩:=hB
 have za:ea.size=xs.length:=size_of_entries a4
 have zb:eb.size=ys.length:=size_of_entries b4
 unfold Builtin.Dict.samePairs Builtin.Dict.showsAll
 rw[if_neg (by rw[la];exact Bool.false_ne_true),if_neg (by rw[lb];exact Bool.false_ne_true)]
 refine U0 (U6 (U0 (U6 (U0 (U1 a1 a3 (U0 (U1 b1 b3 ?_)))))))
 by_cases hl:xs.length=ys.length
 ·rw[if_neg (by rw[za,zb,hl];simp)]
  rw[decide_eq_true hl,Bool.true_and] at hQ
  refine U0 (wpAny_dictEpoch a1 a3 (U0 ?_))
  rw[Std.Legacy.Range.forIn_eq_forIn_range']
  simp only[Std.Legacy.Range.size,Nat.sub_zero,Nat.add_sub_cancel,Nat.div_one]
  generalize hg:(fun x:K×UE×UL=>(atKey ys x.1).isSome&&f x.1)=g at hQ
  refine wpAny_forIn_list _ (fun rest st s'=>s'=s/\st=(none,())/\∃i,rest=List.range' i (xs.length - i)/\i<=xs.length/\xs.all g=(xs.drop i).all g) _ ?_ ?_ _ _ ⟨rfl,rfl,0,by rw[za,Nat.sub_zero],Nat.zero_le _,rfl⟩
  ·rintro x rest st s' ⟨rfl,rfl,i,hr,hi,hall⟩
   have hlt:i < xs.length:=by
    rcases Nat.lt_or_ge i xs.length with h | h
    ·exact h
    ·rw[Nat.sub_eq_zero_of_le h] at hr;simp at hr
   obtain⟨rfl,hrest⟩:x=i/\rest=List.range' (i+1) (xs.length - (i+1)):=by
    have e:xs.length - i=(xs.length - (i+1))+1:=by omega
    rw[e,List.range'_succ] at hr
    injection hr with h1 h2
    exact⟨h1,h2⟩
   rw[List.drop_eq_getElem_cons hlt,List.all_cons] at hall
   have hm:xs[x]∈xs:=List.getElem_mem hlt
   refine U0 (U1 a1 a3 ?_)
   rw[entry_at a4 x,List.getElem?_eq_getElem hlt]
   refine U0 (U2 ?_)
   have next:xs.all g=(xs.drop (x+1)).all g->∀Q':ForInStep (Option Bool×Unit)->UK->Prop,Q' (.yield (none,())) s'->UZ (model prog w) A (do
     let rQ <-dictEpoch a
     if(rQ != Sr)=true then do
       (unsupported (toString id++toString ":changed-during-callback"):Sem PUnit)
       pure (ForInStep.yield (none,()))
      else pure (ForInStep.yield (none,()))) Q' E s':=fun _ Q' q'=>by
    refine U0 (wpAny_dictEpoch a1 a3 ?_)
    rw[if_neg (by simp)]
    exact U6 q'
   refine U0 (wpAny_dictFind_heap (k:=xs[x].1) hu (a5 _ hm) b1 b3 b4 b5 b6 (fun no=>U6 ?_) fun j p hj=>?_)
   ·simp only[Bool.not_false,if_true]
    have gf:g xs[x]=false:=by rw[<-hg];simp only[atKey_none_of_get no];rfl
    rw[gf,Bool.false_and] at hall
    rw[hall] at hQ
    exact U6 (U6 hQ)
   ·refine U0 (U1 b1 b3 ?_)
    rw[entry_at b4 j,hj]
    refine U2 (hf _ hm _ (List.mem_of_getElem? hj) rfl _ ?_)
    have gf:g xs[x]=f xs[x].1:=by rw[<-hg];simp only[atKey_of_get b6 hj];rfl
    cases hv:f xs[x].1 with
    | false=>
     simp only[Bool.not_false,if_true]
     rw[gf,hv,Bool.false_and] at hall
     rw[hall] at hQ
     exact U6 (U6 hQ)
    | true=>
     simp only[Bool.not_true,Bool.false_eq_true,if_false]
     rw[gf,hv,Bool.true_and] at hall
     exact next hall _ ⟨rfl,rfl,x+1,hrest,hlt,hall⟩
  ·rintro st s' ⟨rfl,rfl,i,hr,hi,hall⟩
   have h0:xs.length - i=0:=by
    have:=congrArg List.length hr
    simpa using this.symm
   rw[List.drop_of_length_le (by omega),List.all_nil] at hall
   rw[hall] at hQ
   exact U6 hQ
 ·rw[if_pos (by rw[za,zb];simpa using hl)]
  rw[decide_eq_false hl,Bool.false_and] at hQ
  exact U0 (wpAny_rule (U6 hQ))
end
section
variable {prog:UJ} {w:UM} {K:Type} [DecidableEq K] {knd:HeapKind prog w K} {A:UG} {E:UL->UK->Prop} {s:UK} {a b:UE} {xs ys:List (K×UE×UL)}
theorem Dl {f:K->Bool} {Q:UL->UK->Prop} (hr:A.units < cLine) (hu:knd.room A.in1) (la:(a == sysModules)=false) (lb:(b == sysModules)=false) (hA:s.heap.DictOfH knd a xs) (hB:s.heap.DictOfH knd b ys)
  (hf:∀E:UL->UK->Prop,∀x∈xs,∀y∈ys,x.1=y.1->∀Q:Bool->UK->Prop,Q (f x.1) s->UZ (model prog w) A.in1 (eqBool x.2.2 y.2.2) Q E s)
  (hQ:Q (.bool (decide (xs.length=ys.length)&&xs.all fun x=>(atKey ys x.1).isSome&&f x.1)) s):UZ (model prog w) A (US .Eq (.ref a) (.ref b)) Q E s:=by
 have tA:s.TypeIs (.ref a) "dict":=hA.typeIs
 have tB:s.TypeIs (.ref b) "dict":=hB.typeIs
 refine(show UZ (model prog w) A (richCompare .Eq (.ref a) (.ref b)) Q E s from wpAny_richCompare_same_room tA tB PySem.F.slot_dict_eq (wpAny_call_entry PySem.F.slot_dict_eq tA PySem.F.entry_dict_eq ?_ (PySem.F.args_dict_eq_2 _ _)) hr)
 refine(show UZ _ _ (Builtin.Dict.dictSlotArgs "__eq__" ⟨[.ref a,.ref b],[]⟩ >>= _) _ _ s from U0 ?_)
 unfold Builtin.Dict.dictSlotArgs
 refine U0 (wpAny_notOrdered_dict tA (show UZ _ _ (pure (Value.ref a,Value.ref b)) _ _ s from U6 ?_))
 refine U0 (wpAny_isInstance tB isSubtype_dict_dict ?_)
 simp only[Bool.not_true,Bool.false_eq_true,if_false]
 refine U0 (U6 (U0 (U6 (U0 (og hu la lb hA hB (hf _) ?_)))))
 refine U6 ⟨_,rfl,(fun z=>nomatch z),?_⟩
 rw[show ∀c:Bool,(c == true)=c from by decide]
 exact hQ
theorem slot_dict_ne:Slot "dict" (cmpInfo .NotEq).2.1 "dict.__ne__" :=
 .of (owner:="dict") (n:="__ne__") (by rw[typeLookup_type,builtinLookup_eq_fast];kernel_rfl) (by decide+kernel) (by decide+kernel) (by decide+kernel) (by first | exact .inl (by decide+kernel) | exact .inr (by decide+kernel)) (by rw[UU];kernel_rfl)
theorem entry_dict_ne:entryFor table "dict.__ne__"=some Builtin.«dict.__ne__»:=entryFor_of_tree (by kernel_rfl)
theorem args_dict_ne_2 (a b:UL):argsOk "dict.__ne__" ⟨[a,b],[]⟩:=by
 unfold argsOk;rw[signature?_of (id:="dict.__ne__") (n:=['_','_','e','n','_','_']) (o:=['t','c','i','d']) (by kernel_rfl) PySem.F.owner_dict];kernel_rfl
theorem Dm {f:K->Bool} {Q:UL->UK->Prop} (hr:A.units < cLine) (hu:knd.room A.in1) (la:(a == sysModules)=false) (lb:(b == sysModules)=false) (hA:s.heap.DictOfH knd a xs) (hB:s.heap.DictOfH knd b ys)
  (hf:∀E:UL->UK->Prop,∀x∈xs,∀y∈ys,x.1=y.1->∀Q:Bool->UK->Prop,Q (f x.1) s->UZ (model prog w) A.in1 (eqBool x.2.2 y.2.2) Q E s)
  (hQ:Q (.bool (!(decide (xs.length=ys.length)&&xs.all fun x=>(atKey ys x.1).isSome&&f x.1))) s):UZ (model prog w) A (US .NotEq (.ref a) (.ref b)) Q E s:=by
 have tA:s.TypeIs (.ref a) "dict":=hA.typeIs
 have tB:s.TypeIs (.ref b) "dict":=hB.typeIs
 refine(show UZ (model prog w) A (richCompare .NotEq (.ref a) (.ref b)) Q E s from wpAny_richCompare_same_room tA tB slot_dict_ne (wpAny_call_entry slot_dict_ne tA entry_dict_ne ?_ (args_dict_ne_2 _ _)) hr)
 refine(show UZ _ _ (Builtin.Dict.dictSlotArgs "__ne__" ⟨[.ref a,.ref b],[]⟩ >>= _) _ _ s from U0 ?_)
 unfold Builtin.Dict.dictSlotArgs
 refine U0 (wpAny_notOrdered_dict tA (show UZ _ _ (pure (Value.ref a,Value.ref b)) _ _ s from U6 ?_))
 refine U0 (wpAny_isInstance tB isSubtype_dict_dict ?_)
 simp only[Bool.not_true,Bool.false_eq_true,if_false]
 refine U0 (U6 (U0 (U6 (U0 (og hu la lb hA hB (hf _) ?_)))))
 refine U6 ⟨_,rfl,(fun z=>nomatch z),?_⟩
 rw[show ∀c:Bool,(c == false)= !c from by decide]
 exact hQ
end
abbrev Hl:=List (List L2.Key×Wv)
def jH (st:Hs) (kvs:Hl):Bool:=kvs.all fun kv=>(aG st 20 kv.2).isSome
def Eu (st:Hs) (k1 k2:Hl) (k:List L2.Key):Bool:=match c_ k1 k,c_ k2 k with
 | some v,some w=>(match aG st 20 v,aG st 20 w with | some a,some b=>PyData.eqv a b | _,_=>false)
 | _,_=>false
def j9 (st:Hs) (k1 k2:Hl):Bool:=decide (k1.length=k2.length)&&(k1.map (·.1)).all fun k=>(c_ k2 k).isSome&&Eu st k1 k2 k
def Ov (K:PySem.W.Frag) (neg:Bool):R2:=fun a b H Q=>∃m st p q k1 k2 l1 l2,aK K m st H/\a= .ref p/\b= .ref q/\Rd H p (.dT l1)/\Rd H q (.dT l2)/\RelK K m H k1 l1/\RelK K m H k2 l2/\jH st k1=true/\jH st k2=true/\Q (.bl (if neg then !j9 st k1 k2 else j9 st k1 k2)) H
theorem Ag {H:Hp}:∀{xs:List (List L2.Key×V)} {ys:List (List L2.Key×UE×UL)},KT H xs ys->xs.map (·.1)=ys.map (·.1)
 | _,_,.nil=>rfl
 | _,_,.cons h t=>by rw[List.map_cons,List.map_cons,Ag t,h.1]
theorem qX {κ:Type} [DecidableEq κ] {k:κ} {w:Wv}:∀{kvs:List (κ×Wv)},c_ kvs k=some w->(k,w)∈kvs
 | [],e=>by cases e
 | p::r,e=>by
  unfold c_ at e
  by_cases h:p.1=k
  ·rw[if_pos h] at e
   cases e
   rw[<-h]
   exact List.mem_cons_self
  ·rw[if_neg h] at e
   exact List.mem_cons_of_mem _ (qX e)
section
variable {X:Cx}
theorem u9 {m:Mp} {st:Hs} {H:Hp} {kvs:Hl} {xs:List (List L2.Key×V)} {ys:List (List L2.Key×UE×UL)} {k:List L2.Key} {p:UE×UL} (r:RelK X.K m H kvs xs) (kt:KT H xs ys) (nd:(ys.map (·.1)).Nodup) (hd:jH st kvs=true) (h:(k,p)∈ys) :
  ∃w v d,c_ kvs k=some w/\ae X.K m H w v/\RelV v p.2/\aG st 20 w=some d:=by
 obtain⟨j,hj⟩:=List.mem_iff_getElem?.mp h
 have ak:=atKey_of_get nd hj
 have vl:=kt.val k
 rw[ak] at vl
 obtain⟨v,ev,rv⟩:=w_ vl
 obtain⟨i1,i2⟩:=r.val k
 cases e:c_ kvs k with
 | none=>rw[i1 e] at ev;cases ev
 | some w=>
  obtain⟨u,j1,j2⟩:=i2 w e
  rw[ev] at j1
  cases j1
  obtain⟨d,e2⟩:=Option.isSome_iff_exists.mp (List.all_eq_true.mp hd _ (qX e))
  exact⟨w,v,d,rfl,j2,rv,e2⟩
theorem qY {m:Mp} {st:Hs} {H:Hp} {k1 k2:Hl} {l1 l2:List (List L2.Key×V)} {y1 y2:List (List L2.Key×UE×UL)} (r1:RelK X.K m H k1 l1) (r2:RelK X.K m H k2 l2) (t1:KT H l1 y1) (t2:KT H l2 y2) :
  (decide (y1.length=y2.length)&&y1.all fun x=>(atKey y2 x.1).isSome&&Eu st k1 k2 x.1)=j9 st k1 k2:=by
 have e1:y1.length=k1.length:=by rw[<-Paired.length t1,r1.length]
 have e2:y2.length=k2.length:=by rw[<-Paired.length t2,r2.length]
 have ks:k1.map (·.1)=y1.map (·.1):=by rw[r1.1,Ag t1]
 have at2:∀k,(atKey y2 k).isSome=(c_ k2 k).isSome:=fun k=>by
  have q:=(t2.val k).nD
  rw[Option.isSome_map] at q
  rw[<-q]
  obtain⟨i1,i2⟩:=r2.val k
  cases e:c_ k2 k with
  | none=>rw[i1 e];rfl
  | some w=>obtain⟨u,j1,_⟩:=i2 w e;rw[j1];rfl
 unfold j9
 rw[e1,e2,ks,List.all_map]
 congr 1
 refine List.all_congr rfl fun x=>?_
 show((atKey y2 x.1).isSome&&Eu st k1 k2 x.1)=((c_ k2 x.1).isSome&&Eu st k1 k2 x.1)
 rw[at2]
theorem Ah (neg:Bool) (hu:X.A.units+64 < cLine):cW X (US (if neg then .NotEq else .Eq)) (Ov X.K neg):=by
 intro pins s σ H a b v u Q I rx ry h
 obtain⟨m,st,p,q,k1,k2,l1,l2,S,rfl,rfl,d1,d2,r1,r2,h1,h2,hq⟩:=h
 cases rx
 cases ry
 obtain⟨z1,lo1,y1,t1,D1⟩:=nG I.hok d1
 obtain⟨z2,lo2,y2,t2,D2⟩:=nG I.hok d2
 have n1:(y1.map (·.1)).Nodup:=let ⟨_,_,_,_,_,_,_,_,n⟩:=D1;n
 have n2:(y2.map (·.1)).Nodup:=let ⟨_,_,_,_,_,_,_,_,n⟩:=D2;n
 have hf:∀E:UL->UK->Prop,∀x∈y1,∀y∈y2,x.1=y.1->∀Q:Bool->UK->Prop,Q (Eu st k1 k2 x.1) s->UZ (model X.prog X.w) X.A.in1 (eqBool x.2.2 y.2.2) Q E s:=fun E x hx y hy e Q' q'=>by
  obtain⟨w,v,dw,a1,a2,a3,a4⟩:=u9 (k:=x.1) (p:=x.2) (st:=st) r1 t1 n1 h1 hx
  obtain⟨w',v',Mq,b1,b2,b3,b4⟩:=u9 (k:=y.1) (p:=y.2) (st:=st) r2 t2 n2 h2 hy
  rw[<-e] at b1
  obtain⟨as,q1,q2,q3⟩:=bX I S 20 w v _ dw a2 a3 a4
  obtain⟨bs,p1,p2,p3⟩:=bX I S 20 w' v' _ Mq b2 b3 b4
  have ee:Eu st k1 k2 x.1=PyData.eqv dw Mq:=by unfold Eu;rw[a1,b1];dsimp only;rw[a4,b4]
  rw[ee] at q'
  exact SeqAt.eqBoolOverData X.prog X.w X.A.in1 E s _ _ dw Mq as bs Q' q1 p1 q2 p2 (by
   have:X.A.in1.units=X.A.units+1:=rfl
   have:min dw.depth Mq.depth<=dw.depth:=Nat.min_le_left _ _
   omega) q'
 cases neg with
 | false=>
  refine Dl (by omega) (tupleKind_room_in1 (by omega)) lo1 lo2 D1 D2 hf ?_
  rw[qY r1 r2 t1 t2]
  exact⟨.bl _,H,I,rfl,hq⟩
 | true=>
  refine Dm (by omega) (tupleKind_room_in1 (by omega)) lo1 lo2 D1 D2 hf ?_
  rw[qY r1 r2 t1 t2]
  exact⟨.bl _,H,I,rfl,hq⟩
def l_ (st:Hs):Wv->Option Hl
 | .ref l=>kr st[l]?
 | _=>none
def qZ:dD:=fun x y st=>match l_ st x,l_ st y with
 | some k1,some k2=>if jH st k1=true/\jH st k2=true then .ok (.bl (j9 st k1 k2)) st else .bad
 | _,_=>oEq x y st
def q_:dD:=fun x y st=>match l_ st x,l_ st y with
 | some k1,some k2=>if jH st k1=true/\jH st k2=true then .ok (.bl (!j9 st k1 k2)) st else .bad
 | _,_=>xB x y st
theorem kO {m:Mp} {st:Hs} {H:Hp} {x:Wv} {a:V} {kvs:Hl} (S:aK X.K m st H) (r:ae X.K m H x a) (h:l_ st x=some kvs):∃p l,a= .ref p/\Rd H p (.dT l)/\RelK X.K m H kvs l:=by
 cases x with
 | ref j=>
  unfold ae at r
  obtain⟨p,rfl,hp⟩:=r
  obtain⟨l,h1,h2⟩:=pk (X:=X) S hp h
  exact⟨p,l,rfl,h1,h2⟩
 | _=>cases h
theorem Ai (hu:X.A.units+64 < cLine):gz X (US .Eq) qZ:=by
 obtain⟨r0,c0,k0⟩:=Ed (X:=X) hu
 refine⟨_,cW.or (Ah (X:=X) false hu) c0,fun x y a b st H m Q S rx ry p=>?_⟩
 unfold qZ at p
 cases e1:l_ st x with
 | none=>rw[e1] at p;exact .inr (k0 x y a b st H m Q S rx ry p)
 | some k1=>
  cases e2:l_ st y with
  | none=>rw[e1,e2] at p;exact .inr (k0 x y a b st H m Q S rx ry p)
  | some k2=>
   rw[e1,e2] at p
   dsimp only at p
   by_cases c:jH st k1=true/\jH st k2=true
   ·rw[if_pos c] at p
    obtain⟨p1,l1,rfl,d1,r1⟩:=kO (X:=X) S rx e1
    obtain⟨p2,l2,rfl,d2,r2⟩:=kO (X:=X) S ry e2
    exact .inl ⟨m,st,p1,p2,k1,k2,l1,l2,S,rfl,rfl,d1,d2,r1,r2,c.1,c.2,p _ m H Ext.refl S fe⟩
   ·rw[if_neg c] at p;exact False.elim p
theorem Aj (hu:X.A.units+64 < cLine):gz X (US .NotEq) q_:=by
 obtain⟨r0,c0,k0⟩:=Ee (X:=X) hu
 refine⟨_,cW.or (Ah (X:=X) true hu) c0,fun x y a b st H m Q S rx ry p=>?_⟩
 unfold q_ at p
 cases e1:l_ st x with
 | none=>rw[e1] at p;exact .inr (k0 x y a b st H m Q S rx ry p)
 | some k1=>
  cases e2:l_ st y with
  | none=>rw[e1,e2] at p;exact .inr (k0 x y a b st H m Q S rx ry p)
  | some k2=>
   rw[e1,e2] at p
   dsimp only at p
   by_cases c:jH st k1=true/\jH st k2=true
   ·rw[if_pos c] at p
    obtain⟨p1,l1,rfl,d1,r1⟩:=kO (X:=X) S rx e1
    obtain⟨p2,l2,rfl,d2,r2⟩:=kO (X:=X) S ry e2
    exact .inl ⟨m,st,p1,p2,k1,k2,l1,l2,S,rfl,rfl,d1,d2,r1,r2,c.1,c.2,p _ m H Ext.refl S fe⟩
   ·rw[if_neg c] at p;exact False.elim p
end
end J
namespace J
open PySem PySem.Spec PyProof.Rows L2 PySem.W
section
variable {X:Cx}
end
end J
namespace J
open PySem PySem.Spec PyProof.Rows L2
section
variable {prog:UJ} {w:UM} {K:Type} [DecidableEq K] {knd:HeapKind prog w K} {A:UG} {E:UL->UK->Prop} {s:UK} {d:UE} {xs:List (K×UE×UL)}
theorem tF {Q:UL->UK->Prop} (hm:s.heap.DictOfH knd d xs) (hsz:xs.length<=UX) (k:∀h',h'.DictOfH knd d []->Heap.SameBut d s.heap h'->Q .none { s with heap:=h' }) :
  UZ (model prog w) A (call (.builtin "dict.clear") [.ref d]) Q E s:=by
 have ty:s.TypeIs (.ref d) "dict":=hm.typeIs
 obtain⟨o,es,ep,ho,hc,hd,he,his,hnd⟩:=id hm
 have hes:es.size<=UX:=by have e:=size_of_entries he;omega
 have M:MeetsIn prog w (Builtin.«dict.clear» ⟨[.ref d],[]⟩) (fun _ R s'=>s'=s/\∀h',h'.DictOfH knd d []->Heap.SameBut d s.heap h'->R (.ok (.ret .none)) { s with heap:=h' }):=.of_wp fun A' R s' ⟨e,k⟩=>by
  subst e
  unfold Builtin.«dict.clear»
  refine U0 ?_
  unfold Builtin.Dict.noArgs
  refine U0 (wpAny_notOrdered_dict ty (show UZ _ _ (pure d) _ _ s' from U6 ?_))
  refine U0 (U1 ho hd (U0 ?_))
  unfold bearsInstanceDictMark
  refine U0 (wpAny_load ho (U6 ?_))
  refine U0 (wpAny_updateDictKeys (hz:=hes) ho hd ?_)
  have fin:R (.ok (.ret .none)) { s' with heap:=s'.heap.update d (Obj.mapDictKeys fun _=>#[]) } :=
   k _ ⟨_,_,ep+1,Heap.get?_update_self _ ho (Obj.isFreed_of_dict (Obj.data_mapDictKeys hd _)),hc.mapDictKeys _,Obj.data_mapDictKeys hd _,rfl,(fun _ z=>by cases z),.nil⟩ (Heap.SameBut.update ..)
  split
  ·exact U0 (wpAny_letGo (U6 ⟨_,rfl,fin⟩))
  ·exact U6 ⟨_,rfl,fin⟩
 exact call_meetsIn PySem.F.slot_dict_clear ty PySem.F.entry_dict_clear (PySem.F.args_dict_clear_1 _) M ⟨rfl,k⟩
end
section
variable {X:Cx}
def u_:V->List V->Hp->VK->Prop:=fun x vs H Q=>∃l kvs,x= .ref l/\vs=[]/\H l=some (.dT kvs)/\Q .aB (upd H l (.dT []))
theorem xa:J2 X "dict.clear" u_:=by
 intro pins s σ H x vs v us Q I rx rv h
 obtain⟨l,kvs,rfl,rfl,hH,q⟩:=h
 cases rx
 have Nu:=rv.zero
 subst Nu
 obtain⟨zz,hd,xs,rel,dd⟩:=yi I.hok hH
 refine tF dd (by rw[<-Paired.length rel];exact zz) fun h' DZ hs=>?_
 obtain⟨q',es,ep,hq,h2,h3,h4,_,h5⟩:=DZ
 exact⟨.aB,_,kH (ob:=.dT []) I (by rw[hH];exact True.intro) hs ⟨q',hq⟩ ⟨Nat.zero_le _,hd,[],.nil,q',es,ep,hq,h2,h3,h4,h5⟩,rfl,q⟩
def Ow (to:TE):TE:=fun σ H Q=>to σ H fun x H1=>(LZ X.K "list" x H1/\yd x [] H1 Q)\/(LZ X.K "dict" x H1/\u_ x [] H1 Q)
theorem Hm {o:Expr} {to:TE} {apos cpos:Pos} (ho:PE X o to) (m:M0 X o "clear" apos cpos):PE X (.Call (.Attribute o "clear" apos) [] [] cpos) (Ow (X:=X) to):=by
 intro pins s σ H Q I h
 refine wpAny_Call_method0_late m.base m.line (aM (ho pins s σ H _ I h) fun v s1 ⟨x,H1,I1,r1,z⟩=>?_)
 rcases z with ⟨ty,q1⟩ | ⟨ty,q1⟩
 ·obtain⟨h1,h2⟩:=si I1 r1 ty
  exact⟨"list","list.clear",F.plainAttrs_list,F.slot_list_clear,F.type_list_clear,h1,h2,Calls.callWith_builtin rfl (PySem.evalArgs_none (ye pins s1 σ H1 x [] v [] Q I1 r1 .nil q1))⟩
 ·obtain⟨h1,h2⟩:=si I1 r1 ty
  exact⟨"dict","dict.clear",F.plainAttrs_dict,F.slot_dict_clear,F.type_dict_clear,h1,h2,Calls.callWith_builtin rfl (PySem.evalArgs_none (xa pins s1 σ H1 x [] v [] Q I1 r1 .nil q1))⟩
def Hn (w:Wv) (st:Hs):Re Wv:=match w with
 | .ref l=>(match st[l]? with
  | some (.lst _)=> .ok .aB (st.set l (.lst []))
  | some (.bM _)=> .ok .aB (st.set l (.bM []))
  | _=> .bad)
 | _=> .bad
def xb (g:GE):GE:=fun ρ st=>(g ρ st).bind Hn
theorem Ak {o:Expr} {g:GE} {apos cpos:Pos} (h:JE X o g) (m:M0 X o "clear" apos cpos):JE X (.Call (.Attribute o "clear" apos) [] [] cpos) (xb g) :=
 JE.of (Hm az m) fun ρ st σ H m Q S R p=>by
  refine h.go S R (ar.bind p) fun w st1 v m1 H1 p1 e1 S1 r1=>?_
  cases w with
  | ref l=>
   unfold ae at r1
   obtain⟨a,rfl,ha⟩:=r1
   unfold Hn at p1
   dsimp only at p1
   cases q2:st1[l]? with
   | none=>rw[q2] at p1;exact False.elim p1
   | some ob=>
    rw[q2] at p1
    cases ob with
    | lst ws=>
     obtain⟨xs,y1,y2⟩:=(show ∃ys,H1 a=some (.lst ys)/\ah X.K m1 H1 ws ys from S1.obj _ _ _ ha q2)
     have ex:Ext X.K m1 H1 m1 (upd H1 a (.lst [])):=Ext.gw (.inr (.inl ⟨_,y1⟩))
     exact .inl ⟨.inl ⟨rfl,xs,.inl (.inl y1)⟩,a,xs,rfl,rfl,y1,p1 .aB m1 _ (e1.trans ex) (S1.jx ha q2 rfl ⟨[],ay,ah.nil⟩) (by unfold ae;rfl)⟩
    | bM kvs=>
     obtain⟨xs,y1,y2⟩:=(show ∃ys,H1 a=some (.dT ys)/\RelK X.K m1 H1 kvs ys from S1.obj _ _ _ ha q2)
     have ex:Ext X.K m1 H1 m1 (upd H1 a (.dT [])):=Ext.gw (.inr (.inr (.inr ⟨_,y1⟩)))
     exact .inr ⟨.inr (.inr (.inl ⟨rfl,.inr ⟨xs,y1⟩⟩)),a,xs,rfl,rfl,y1,p1 .aB m1 _ (e1.trans ex) (S1.jx ha q2 rfl ⟨_,ay,RelK.nil⟩) (by unfold ae;rfl)⟩
    | _=>exact False.elim p1
  | _=>exact False.elim p1
def tG (tb:Tab) (tt:lM):List Wv->Hs->Re Wv
 | [.ref l,.ty T],st=>if T="dict"/\(kr st[l]?).isSome=true then .ok (.bl true) st else aX tb tt [.ref l,.ty T] st
 | ws,st=>aX tb tt ws st
theorem Al:bL X (.builtin "isinstance") (fun vs H Q=>∃a kvs,vs=[.ref a,.ty "dict"]/\Rd H a (.dT kvs)/\Q (.bl true) H):=by
 intro pins s σ H xs us Q I r h
 obtain⟨a,kvs,rfl,e,q⟩:=h
 obtain⟨u,u',rfl,r1,r2⟩:=vals2 r
 cases r1
 cases r2
 obtain⟨t1,_,_⟩:=FT I (.inr ⟨kvs,e⟩)
 exact call_isinstance_yes (Tx:="dict") t1 (by kernel_rfl) (by rw[UU];kernel_rfl) ⟨.bl true,H,I,rfl,q⟩
theorem Ho {tb:Tab} {tt:lM} {tc:Tab} (O:TabOk X.K tb tt tc):bx X (.builtin "isinstance") (tG tb tt):=by
 obtain⟨r0,c0,k0⟩:=y9 (X:=X) O
 refine⟨_,Al.or c0,fun ws vs st H m Q S r p=>?_⟩
 have old:bC X.K m H (aX tb tt ws st) Q->r0 vs H Q:=fun p=>k0 ws vs st H m Q S r p
 unfold tG at p
 split at p
 ·rename_i l T
  by_cases c:T="dict"/\(kr st[l]?).isSome=true
  ·rw[if_pos c] at p
   obtain⟨rfl,c2⟩:=c
   obtain⟨kvs,e⟩:=Option.isSome_iff_exists.mp c2
   obtain⟨v,v',rfl,r1,r2⟩:=sE r
   unfold ae at r1 r2
   obtain⟨a,rfl,ha⟩:=r1
   subst r2
   obtain⟨xs,h1,_⟩:=pk (X:=X) S ha e
   exact .inl ⟨a,xs,rfl,h1,p _ m H Ext.refl S (by unfold ae;rfl)⟩
  ·rw[if_neg c] at p
   exact .inr (old p)
 ·exact .inr (old p)
end
end J
namespace J
open PySem PySem.Spec PyProof.Rows L2
structure Ct where
 N:List Str
 names:List (Str×UI)
 consts:List (Str×Wv)
 bl:List Str
 fns:List (Str×Nat×(List Wv->Hs->Re Wv))
 tb:Tab:=[]
 tt:lM:=[]
 clss:List Str:=[]
 tH:List Str:=[]
 tc:Tab:=[]
 xc:List (Str×Dc):=[]
 va:List Str:=[]
 Ss:List Str:=[]
 Ew:List Str:=[]
 tI:List Str:=[]
 loop:Bool:=true
 free:Bool:=true
 top:Bool:=true
 lam:Option (Lm×LF):=none
 Am:List (Str×Qt):=[]
 Ox:List Str:=[]
 lj:Nat:=0
 self:Str:=""
def iG (x:Str):List Str->Option Nat
 | []=>none
 | y::r=>if x=y then some 0 else match iG x r with
  | some i=>some (i+1)
  | none=>none
theorem eC {x:Str}:∀{N:List Str} {i:Nat},iG x N=some i->N[i]? =some x
 | [],i,h=>by cases h
 | y::r,i,h=>by
  unfold iG at h
  by_cases e:x=y
  ·rw[if_pos e] at h;cases h;subst e;rfl
  ·rw[if_neg e] at h
   cases q:iG x r with
   | none=>rw[q] at h;cases h
   | some j=>rw[q] at h;cases h;simpa using eC q
def okN (x:Str):Bool:=!(x == ("__debug__":Str))&& !(x == ("__classdict__":Str))&& !(decide (x="__name__"))
theorem cY {x:Str} (h:okN x=true):(x == ("__debug__":Str))=false:=by unfold okN at h;revert h;cases (x == ("__debug__":Str))<;>simp
theorem An {x:Str} (h:okN x=true):(x == ("__classdict__":Str))=false:=by unfold okN at h;revert h;cases (x == ("__classdict__":Str))<;>simp
theorem ra {x:Str} (h:okN x=true):x≠"__name__":=by
 intro e
 subst e
 unfold okN at h
 simp at h
def rb:List Wv->List V->Prop
 | [],[]=>True
 | .int i::r,.int j::t=>i=j/\rb r t
 | .str x::r,.str y::t=>(x=y/\PyData.strOk x=true)/\rb r t
 | _,_=>False
theorem rb.rel {K:PySem.W.Frag} {m:Mp} {H:Hp}:∀{ws:List Wv} {vs:List V},rb ws vs->ah K m H ws vs
 | [],[],_=>ah.nil
 | .int i::r,.int j::t,h=>by
  obtain⟨rfl,h⟩:=h
  exact ah.cons (by unfold ae;rfl) h.rel
 | .str x::r,.str y::t,h=>by
  obtain⟨⟨rfl,hx⟩,h⟩:=h
  exact ah.cons (by unfold ae;exact⟨rfl,hx⟩) h.rel
 | [],_::_,h=>False.elim h
 | .int i::r,[],h=>False.elim h
 | .str i::r,[],h=>False.elim h
 | .int i::r,.str _::_,h=>False.elim h
 | .str i::r,.int _::_,h=>False.elim h
def Ao (K:PySem.W.Frag) (mg:Str->Option UL) (x:Str):Wv->Prop
 | .int i=>∃t,mg x=some (.int i t)
 | .str y=>(∃t,mg x=some (.str y t))/\PyData.strOk y=true
 | .lx ws=>∃(a:UE) (vs:List V) (o:Obj) (its:Array UL) (n:Nat),mg x=some (.ref a)/\K.lookup a=some o/\o.cls= .type "tuple"/\o.data= .seq its n/\its.size<=UX/\Vals vs its.toList/\rb ws vs
 | _=>False
structure K_ (c:Ct) (k:Nat) (X:Cx):Prop where
 lam:∀p L,c.lam=some (p,L)->G9 X.prog X.w X.K X.mg X.base k p 3 L
 Am:∀x F,c.Am.lookup x=some F->Qu X.prog X.w X.K X.mg k c.lj x F
 Hq:∀x n F,c.fns.lookup x=some (n,F)->c.Ox.contains x=true->∀base,zV X.K X.mg base->iN X.prog X.w X.K X.mg base c.lj x n F
 at':c.top=true->c.self∈bH->∃P,Es X c.self P
structure Good (c:Ct) (k:Nat) (X:Cx):Prop where
 N:X.N=c.N
 sc:X.env.scope.names=c.names
 nd:c.N.Nodup
 un:X.A.units+64 < cLine
 free:c.free=true->gD k X.A/\X.calm=true
 loop:c.loop=true->X.calm=true/\PassesOwn (model X.prog X.w) X.A X.env X.xe
 cst:∀x w,c.consts.lookup x=some w->Ao X.K X.mg x w
 bl:∀x,c.bl.contains x=true->X.mg x=none
 fns:∀x n F,c.fns.lookup x=some (n,F)->iN X.prog X.w X.K X.mg X.base k x n F
 stk:c.top=true->NK X
 fn:c.top=true->∀x,X.fn x=true
 kind:X.env.scope.kind= .function
 tab:TabOk X.K c.tb c.tt c.tc
 cls:∀x,c.clss.contains x=true->∃C,X.mg x=some (.ref C)/\Cs X.K x C
 tH:∀x,c.tH.contains x=true->∃C,X.mg x=some (.ref C)/\ClsAt X.K x C
 xc:∀x kvs,c.xc.lookup x=some kvs->kq X.K X.w X.mg x kvs
 rm:dF k X.A
 tI:∀x n F,c.tI.contains x=true->c.fns.lookup x=some (n,F)->qP X.prog X.w X.K X.mg X.base k x n F
 x:K_ c k X
 fr:zi X
 hd:sH X
theorem vc {k:Nat} {A:UG} (hr:gD k A):A.units+64 < cLine:=by have:=hr.un;omega
def Ct.Ex (c:Ct):Ct:={ c with loop:=false }
def Ct.pq (c:Ct):Ct:={ c with loop:=false,free:=false }
abbrev Ct.un (c:Ct):Ct:=c.pq
theorem Good.body {c:Ct} {k:Nat} {X:Cx} (G:Good c k X) (hf:c.free=true) (pn:List (UE×Obj)) (E:UL->UK->Prop):Good c.Ex k (Cv X X.A true pn E) :=
 ⟨G.N,G.sc,G.nd,G.un,fun _=>⟨(G.free hf).1,rfl⟩,(fun z=>by cases z),G.cst,G.bl,G.fns,fun z=>⟨(G.stk z).st,(G.stk z).fr,(G.stk z).ex⟩,G.fn,G.kind,G.tab,G.cls,G.tH,G.xc,⟨G.rm.d,G.rm.u⟩,G.tI,⟨G.x.lam,G.x.Am,G.x.Hq,fun t m=>(G.x.at' t m).imp fun P L=>⟨L.code,L.qual,L.tab,L.mem,L.uniq,L.bm⟩⟩,G.fr,G.hd⟩
theorem Good.suite {c:Ct} {k:Nat} {X:Cx} (G:Good c k X) {a:UE} {o:Obj} {u:HO} (nx:wy o) (pn:List (UE×Obj)) (E:UL->UK->Prop):Good c.pq k (KC X a (.bV o u) pn E) :=
 ⟨G.N,G.sc,G.nd,G.un,(fun z=>by cases z),(fun z=>by cases z),G.cst,G.bl,G.fns,fun z=>⟨(G.stk z).st,(G.stk z).fr,(G.stk z).ex⟩,G.fn,G.kind,G.tab,G.cls,G.tH,G.xc,⟨G.rm.d,G.rm.u⟩,G.tI,⟨G.x.lam,G.x.Am,G.x.Hq,fun t m=>(G.x.at' t m).imp fun P L=>⟨L.code,L.qual,L.tab,L.mem,L.uniq,L.bm⟩⟩,G.fr,.inr ⟨a,o,u,rfl,nx,ay⟩⟩
theorem Ap:UP "ValueError"=some (.type "ValueError"):=by decide+kernel
theorem Aq:UP "dict"=some (.type "dict"):=by decide+kernel
def Dp (x:Str):Option String :=
 if x="int" then some "int" else if x="str" then some "str" else if x="bool" then some "bool" else if x="tuple" then some "tuple" else if x="list" then some "list" else if x="ValueError" then some "ValueError" else if x="dict" then some "dict" else none
theorem Dq {x:Str} {T:String} (h:Dp x=some T):UP x=some (.type T):=by
 unfold Dp at h
 by_cases e:x="int"
 ·rw[if_pos e] at h;cases h;subst e;exact yU
 rw[if_neg e] at h
 by_cases e:x="str"
 ·rw[if_pos e] at h;cases h;subst e;exact yV
 rw[if_neg e] at h
 by_cases e:x="bool"
 ·rw[if_pos e] at h;cases h;subst e;exact yW
 rw[if_neg e] at h
 by_cases e:x="tuple"
 ·rw[if_pos e] at h;cases h;subst e;exact yX
 rw[if_neg e] at h
 by_cases e:x="list"
 ·rw[if_pos e] at h;cases h;subst e;exact qk
 rw[if_neg e] at h
 by_cases e:x="ValueError"
 ·rw[if_pos e] at h;cases h;subst e;exact Ap
 rw[if_neg e] at h
 by_cases e:x="dict"
 ·rw[if_pos e] at h;cases h;subst e;exact Aq
 rw[if_neg e] at h
 cases h
section
variable {X:Cx}
def K':dD:=fun _ _ _=> .bad
theorem Hr {f:UL->UL->Sem UL}:gz X f K':=⟨fun _ _ _ _=>False,fun _ _ _ _ _ _ _ _ _ _ _ _ h=>h.elim,fun _ _ _ _ _ _ _ _ _ _ _ p=>p⟩
def La:Operator->dD
 | .Add=>dt
 | .Sub=>sA
 | .Mult=>bE
 | .FloorDiv=>bW
 | .Mod=>oMod
 | .Pow=>wc
 | _=>K'
theorem Dr (o:Operator):gz X (UO o) (La o):=by
 cases o<;>first | exact F' | exact F8 | exact zU | exact B7 | exact F9 | exact F_ | exact Hr
def tJ:CmpOp->dD
 | .Eq=>oEq
 | .NotEq=>xB
 | .Lt=>oLt
 | .LtE=>oLe
 | .Gt=>L7
 | .GtE=>ND
 | .Is=>Ea
 | .IsNot=>iD
 | .In=>qI
 | .NotIn=>oZ
theorem hV (hu:X.A.units+64 < cLine) (o:CmpOp):gz X (US o) (tJ o):=by
 cases o<;>first | exact Ed hu | exact Ee hu | exact G5 hu | exact G0 hu | exact Kj | exact Kk | exact Kl | exact yG | exact GL | exact wQ
def Ar (c:Ct) (x:Str):GE:=if okN x=true then
  match c.names.lookup x with
  | some .local=>(match iG x c.N with | some i=>ag i | none=>aW)
  | some .cell=>(match iG x c.N with | some i=>ag i | none=>aW)
  | some .free=>(match iG x c.N with | some i=>ag i | none=>aW)
  | some .globalImplicit=>(match c.consts.lookup x with
   | some w=>gC w
   | none=>if c.clss.contains x=true then gC (.cls x) else if c.tH.contains x=true then gC (.cls x) else if c.bl.contains x=true then(match Dp x with | some T=>gC (.ty T) | none=>aW) else aW)
  | _=>aW
 else aW
theorem As {c:Ct} {k:Nat} (G:Good c k X) (x:Str) (pos:Pos):JE X (.Name x pos) (Ar c x):=by
 unfold Ar
 by_cases hx:okN x=true
 ·rw[if_pos hx]
  cases e:c.names.lookup x with
  | none=>exact ax
  | some kd=>
   have el:X.env.scope.names.lookup x=some kd:=by rw[G.sc];exact e
   cases kd with
   | «local»=>
    dsimp only
    cases e2:iG x c.N with
    | none=>exact ax
    | some i=>exact sx i (by rw[G.N];exact eC e2) (Or.inl el) (cY hx) (An hx)
   | cell=>
    dsimp only
    cases e2:iG x c.N with
    | none=>exact ax
    | some i=>exact sx i (by rw[G.N];exact eC e2) (Or.inr (Or.inl el)) (cY hx) (An hx)
   | free=>
    dsimp only
    cases e2:iG x c.N with
    | none=>exact ax
    | some i=>exact sx i (by rw[G.N];exact eC e2) (Or.inr (Or.inr el)) (cY hx) (An hx)
   | globalImplicit=>
    dsimp only
    have hg:Gl X x:=el
    cases e2:c.consts.lookup x with
    | some w=>
     have q:=G.cst x w e2
     cases w with
     | int i=>obtain⟨t,q⟩:=q;exact yy hg q (cY hx)
     | str y=>obtain⟨⟨t,q⟩,z⟩:=q;exact yz hg q z (cY hx)
     | lx ws=>
      obtain⟨a,vs,o,its,n,q1,q2,q3,q4,q5,q6,q7⟩:=q
      exact JE.of (eT (v:=.ref a) hg q1 rfl (cY hx)) fun ρ st σ H m Q S R p=>p (.ref a) m H Ext.refl S (by unfold ae;exact⟨a,vs,rfl,⟨o,its,n,q2,q3,q4,q5,q6⟩,q7.rel⟩)
     | _=>exact False.elim q
    | none=>
     dsimp only
     by_cases e5:c.clss.contains x=true
     ·rw[if_pos e5]
      obtain⟨C,q1,q2⟩:=G.cls x e5
      exact JE.of (eT (v:=.ref C) hg q1 rfl (cY hx)) fun ρ st σ H m Q S R p=>p (.ref C) m H Ext.refl S (by unfold ae;exact⟨C,rfl,q2.cls⟩)
     rw[if_neg e5]
     by_cases e6:c.tH.contains x=true
     ·rw[if_pos e6]
      obtain⟨C,q1,q2⟩:=G.tH x e6
      exact JE.of (eT (v:=.ref C) hg q1 rfl (cY hx)) fun ρ st σ H m Q S R p=>p (.ref C) m H Ext.refl S (by unfold ae;exact⟨C,rfl,q2⟩)
     rw[if_neg e6]
     by_cases e3:c.bl.contains x=true
     ·rw[if_pos e3]
      cases e4:Dp x with
      | none=>exact ax
      | some T=>exact J9 hg (G.bl x e3) (Dq e4) (ra hx) (cY hx)
     ·rw[if_neg e3];exact ax
   | _=>exact ax
 ·rw[if_neg hx];exact ax
def Au:Const->GE
 | .none=>gC .aB
 | .bool b=>gC (.bl b)
 | .int i=>gC (.int i)
 | .str x=>if PyData.strOk x=true then gC (.str x) else aW
 | _=>aW
theorem xf (k:Const) (j:Nat) (pos:Pos):JE X (.Constant k j pos) (Au k):=by
 cases k with
 | none=>exact FW
 | bool b=>exact J8
 | int i=>exact FV
 | str x=>
  show JE X _ (if PyData.strOk x=true then gC (.str x) else aW)
  by_cases h:PyData.strOk x=true
  ·rw[if_pos h];exact FX h
  ·rw[if_neg h];exact ax
 | _=>exact ax
def plain:Expr->Bool
 | .Starred .. =>false
 | _=>true
theorem aL {e:Expr} {es:List Expr} {env:Env} (h:plain e=true):UY (e::es) env=(false,eval e env)::UY es env:=by
 cases e<;>first | rfl | cases h
theorem dS {pos:Pos} {env:Env}:∀{es:List Expr},es.all plain=true->(backTo pos (UY es env)).any (·.1)=false
 | [],_=>rfl
 | e::es,h=>by
  rw[List.all_cons,Bool.and_eq_true] at h
  rw[aL h.1]
  have q:=dS (pos:=pos) (env:=env) h.2
  unfold backTo at q ⊢
  rw[List.map_cons,List.any_cons,q]
  rfl
def gj (f:Expr->GE):List Expr->GA
 | []=>ai
 | e::es=>aa (f e) (gj f es)
theorem cG {f:Expr->GE} (h:∀e,JE X e (f e)):∀es:List Expr,es.all plain=true->JA X es (gj f es)
 | [],_=>yE
 | e::es,g=>by
  rw[List.all_cons,Bool.and_eq_true] at g
  exact uz (h e) (cG h es g.2) (aL g.1)
def Mr (c:Ct) (x:Str):Option (UL×(List Wv->Hs->Re Wv)) :=
 if x="len" then some (.builtin "len",if c.va.isEmpty=true then ff else jk) else if x="isinstance" then some (.builtin "isinstance",if c.bl.contains "dict"=true then tG c.tb c.tt else aX c.tb c.tt) else if x="list"/\c.free=true then some (.type "list",jF) else if x="max"/\c.free=true then some (.builtin "max",j6) else if x="min"/\c.free=true then some (.builtin "min",j7) else if x="sum"/\c.free=true then some (.builtin "sum",sS) else if x="sorted" then some (.builtin "sorted",sT) else none
theorem oh:UP "max"=some (.builtin "max"):=by decide+kernel
theorem oj:UP "min"=some (.builtin "min"):=by decide+kernel
theorem xg:UP "sum"=some (.builtin "sum"):=by decide+kernel
theorem xh:UP "sorted"=some (.builtin "sorted"):=by decide+kernel
theorem Ht {c:Ct} (O:TabOk X.K c.tb c.tt c.tc):bx X (.builtin "isinstance") (if c.bl.contains "dict"=true then tG c.tb c.tt else aX c.tb c.tt):=by
 by_cases e2:c.bl.contains "dict"=true
 ·rw[if_pos e2];exact Ho O
 ·rw[if_neg e2];exact y9 O
theorem Hu (c:Ct):bx X (.builtin "len") (if c.va.isEmpty=true then ff else jk):=by
 by_cases e2:c.va.isEmpty=true
 ·rw[if_pos e2];exact yJ
 ·rw[if_neg e2];exact Dj
theorem Hv {c:Ct} {x:Str} {v:UL} {op:List Wv->Hs->Re Wv} (O:TabOk X.K c.tb c.tt c.tc) (hc:c.free=true->X.calm=true) (h:Mr c x=some (v,op)):UP x=some v/\bx X v op/\((∃id,v= .builtin id)\/∃T,v= .type T):=by
 unfold Mr at h
 by_cases e:x="len"
 ·rw[if_pos e] at h;cases h;subst e;exact⟨wo,Hu c,.inl ⟨_,rfl⟩⟩
 rw[if_neg e] at h
 by_cases e:x="isinstance"
 ·rw[if_pos e] at h;cases h;subst e;exact⟨yT,Ht O,.inl ⟨_,rfl⟩⟩
 rw[if_neg e] at h
 by_cases e:x="list"/\c.free=true
 ·rw[if_pos e] at h;cases h;obtain⟨rfl,e2⟩:=e;exact⟨qk,zP (hc e2),.inr ⟨_,rfl⟩⟩
 rw[if_neg e] at h
 by_cases e:x="max"/\c.free=true
 ·rw[if_pos e] at h;cases h;obtain⟨rfl,e2⟩:=e;exact⟨oh,CP (hc e2),.inl ⟨_,rfl⟩⟩
 rw[if_neg e] at h
 by_cases e:x="min"/\c.free=true
 ·rw[if_pos e] at h;cases h;obtain⟨rfl,e2⟩:=e;exact⟨oj,CQ (hc e2),.inl ⟨_,rfl⟩⟩
 rw[if_neg e] at h
 by_cases e:x="sum"/\c.free=true
 ·rw[if_pos e] at h;cases h;obtain⟨rfl,e2⟩:=e;exact⟨xg,GH (hc e2),.inl ⟨_,rfl⟩⟩
 rw[if_neg e] at h
 by_cases e:x="sorted"
 ·rw[if_pos e] at h;cases h;subst e;exact⟨xh,GJ,.inl ⟨_,rfl⟩⟩
 rw[if_neg e] at h
 cases h
def tK (c:Ct) (fE:Expr->GE) (x:Str) (es:List Expr):GE:=if okN x=true/\es.all plain=true/\c.names.lookup x=some .globalImplicit then
   (match c.fns.lookup x with
   | some (n,F)=>if c.free=true then aA n F (gj fE es) else if c.tI.contains x=true then aA n F (gj fE es) else aW
   | none=>if c.bl.contains x=true then(match Mr c x with | some (_,op)=>au op (gj fE es) | none=>aW) else aW)
  else aW
def Av (fE:Expr->GE) (o:Expr) (name:Str) (e:Expr) (apos cpos:Pos):GE:=if plain e=true/\(apos.endLine == cpos.line)=true then
   (if name="append" then jX kj (fE o) (fE e) else if name="extend" then jX l9 (fE o) (fE e) else aW)
  else aW
def tL (c:Ct) (fE:Expr->GE) (x:Str) (e:Expr) (k:Str):GE:=if okN x=true/\plain e=true/\c.names.lookup x=some .globalImplicit/\c.fns.lookup x=none/\c.bl.contains x=true/\c.free=true/\k=Str.ofString "default" then
   (if x="max" then au nX (gj fE [e]) else if x="min" then au nY (gj fE [e]) else aW)
  else aW
theorem xi {c:Ct} {k:Nat} (G:Good c k X) {fE:Expr->GE} (h:∀e,JE X e (fE e)) (x:Str) (e:Expr) (nm:Str) (kk:Nat) (p pos kp cp:Pos):JE X (.Call (.Name x p) [e] [⟨some nm,.Constant .none kk cp,kp⟩] pos) (tL c fE x e nm):=by
 unfold tL
 by_cases g:okN x=true/\plain e=true/\c.names.lookup x=some .globalImplicit/\c.fns.lookup x=none/\c.bl.contains x=true/\c.free=true/\nm=Str.ofString "default"
 ·rw[if_pos g]
  obtain⟨g1,g2,g3,g4,g5,g6,rfl⟩:=g
  have hg:Gl X x:=by
   show X.env.scope.names.lookup x=_
   rw[G.sc];exact g3
  by_cases n1:x="max"
  ·rw[if_pos n1];subst n1
   exact qJ (GR (G.free g6).2) hg (G.bl _ g5) oh (cG h [e] (by simp[g2])) (ra g1) (cY g1) (aL g2)
  rw[if_neg n1]
  by_cases n1:x="min"
  ·rw[if_pos n1];subst n1
   exact qJ (GU (G.free g6).2) hg (G.bl _ g5) oj (cG h [e] (by simp[g2])) (ra g1) (cY g1) (aL g2)
  rw[if_neg n1];exact ax
 ·rw[if_neg g];exact ax
def ku (c:Ct) (x:Str):Option Dc:=if okN x=true/\c.names.lookup x=some .globalImplicit then c.xc.lookup x else none
theorem jl {c:Ct} {k:Nat} (G:Good c k X) {x:Str} {kvs:Dc} (h:ku c x=some kvs):Gl X x/\(x == ("__debug__":Str))=false/\kq X.K X.w X.mg x kvs:=by
 unfold ku at h
 by_cases g:okN x=true/\c.names.lookup x=some .globalImplicit
 ·rw[if_pos g] at h
  refine⟨?_,cY g.1,G.xc x kvs h⟩
  show X.env.scope.names.lookup x=_
  rw[G.sc];exact g.2
 ·rw[if_neg g] at h;cases h
def Aw (c:Ct) (fE:Expr->GE) (cpos:Pos):Expr->List Expr->List Keyword->GE
 | .Name x _,e::es,[]=>tK c fE x (e::es)
 | .Name x _,[e],[⟨some nm,.Constant .none _ _,_⟩]=>tL c fE x e nm
 | .Attribute (.Name x p) name apos,[e],[]=>if name="append"\/name="extend" then Av fE (.Name x p) name e apos cpos else aW
 | .Attribute (.Name x p) name apos,[],[]=>if name="clear"/\(apos.endLine == cpos.line)=true then xb (fE (.Name x p)) else aW
 | .Attribute (.Subscript a b p) name apos,[],[]=>if name="clear"/\(apos.endLine == cpos.line)=true then xb (fE (.Subscript a b p)) else aW
 | _,_,_=>aW
theorem xj {c:Ct} {k:Nat} (G:Good c k X) {fE:Expr->GE} (h:∀e,JE X e (fE e)) (x:Str) (e:Expr) (es:List Expr) (p pos:Pos):JE X (.Call (.Name x p) (e::es) [] pos) (tK c fE x (e::es)):=by
 unfold tK
 by_cases g:okN x=true/\(e::es).all plain=true/\c.names.lookup x=some .globalImplicit
 ·rw[if_pos g]
  obtain⟨g1,g2,g3⟩:=g
  have hg:Gl X x:=by
   show X.env.scope.names.lookup x=_
   rw[G.sc];exact g3
  have gp:plain e=true/\es.all plain=true:=by rw[List.all_cons,Bool.and_eq_true] at g2;exact g2
  have ha:=cG h (e::es) g2
  cases e1:c.fns.lookup x with
  | some nF=>
   obtain⟨n,F⟩:=nF
   dsimp only
   by_cases cf:c.free=true
   ·rw[if_pos cf]
    obtain⟨a,fd,ps,G1,G2,G3,G4⟩:=G.fns x n F e1
    exact Cm G1 (G.free cf).1 G2 G3 G4 ha hg (cY g1) (aL gp.1) (dS gp.2)
   ·rw[if_neg cf]
    by_cases cu:c.tI.contains x=true
    ·rw[if_pos cu]
     obtain⟨a,fd,ps,G1,G2,G3,G4⟩:=G.tI x n F cu e1
     exact zR G1 G.rm G.hd G2 G3 G4 ha hg (cY g1) (aL gp.1) (dS gp.2)
    ·rw[if_neg cu];exact ax
  | none=>
   dsimp only
   by_cases e3:c.bl.contains x=true
   ·rw[if_pos e3]
    cases e4:Mr c x with
    | none=>exact ax
    | some io=>
     obtain⟨v,op⟩:=io
     obtain⟨b1,b2,b3⟩:=Hv (X:=X) G.tab (fun z=>(G.free z).2) e4
     rcases b3 with ⟨id,rfl⟩ | ⟨T,rfl⟩
     ·exact yI b2 hg (G.bl x e3) b1 ha (ra g1) (cY g1) (aL gp.1) (dS gp.2)
     ·exact wg b2 hg (G.bl x e3) b1 ha (ra g1) (cY g1) (aL gp.1) (dS gp.2)
   ·rw[if_neg e3]
    exact ax
 ·rw[if_neg g];exact ax
theorem Ax {fE:Expr->GE} (h:∀e,JE X e (fE e)) (x name:Str) (e:Expr) (p apos cpos:Pos):JE X (.Call (.Attribute (.Name x p) name apos) [e] [] cpos) (Av fE (.Name x p) name e apos cpos):=by
 unfold Av
 by_cases g:plain e=true/\(apos.endLine == cpos.line)=true
 ·rw[if_pos g]
  by_cases n1:name="append"
  ·rw[if_pos n1]
   subst n1
   exact uD zd PySem.F.slot_list_append PySem.F.type_list_append (h _) (h e) (aL g.1) g.2
  rw[if_neg n1]
  by_cases n2:name="extend"
  ·rw[if_pos n2]
   subst n2
   exact uD C9 PySem.F.slot_list_extend PySem.F.type_list_extend (h _) (h e) (aL g.1) g.2
  rw[if_neg n2]
  exact ax
 ·rw[if_neg g];exact ax
theorem Ay {c:Ct} {k:Nat} (G:Good c k X) {fE:Expr->GE} (h:∀e,JE X e (fE e)) (f:Expr) (as:List Expr) (ks:List Keyword) (pos:Pos):JE X (.Call f as ks pos) (Aw c fE pos f as ks):=by
 unfold Aw
 split
 ·exact xj G h _ _ _ _ _
 ·exact xi G h _ _ _ _ _ _ _ _
 ·rename_i x p name apos e
  by_cases g:name="append"\/name="extend"
  ·rw[if_pos g];exact Ax h _ _ _ _ _ _
  ·rw[if_neg g]
   exact ax
 ·rename_i x p name apos
  by_cases g:name="clear"/\(apos.endLine == pos.line)=true
  ·rw[if_pos g];obtain⟨rfl,g2⟩:=g;exact Ak (h _) ⟨rfl,g2⟩
  ·rw[if_neg g];exact ax
 ·rename_i a b p name apos
  by_cases g:name="clear"/\(apos.endLine == pos.line)=true
  ·rw[if_pos g];obtain⟨rfl,g2⟩:=g;exact Ak (h _) ⟨rfl,g2⟩
  ·rw[if_neg g];exact ax
 ·exact ax
def xl:Expr->Bool
 | .Slice .. =>true
 | _=>false
def Az (f:Expr->GE):Option Expr->GO
 | none=>kJ
 | some e=>nJ (f e)
theorem ve {f:Expr->GE} (h:∀e,JE X e (f e)) (o:Option Expr):JO X o (Az f o):=by
 cases o with
 | none=>exact Cc
 | some e=>exact Cd (h e)
def Ds (f:Expr->GE) (a:Expr):Expr->GE
 | .Slice lo hi none _=>hJ (f a) (Az f lo) (Az f hi)
 | .Slice .. =>aW
 | b=>aj cE (f a) (f b)
theorem AA {f:Expr->GE} (h:∀e,JE X e (f e)) (a b:Expr) (pos:Pos):JE X (.Subscript a b pos) (Ds f a b):=by
 unfold Ds
 split
 ·exact wO (h a) (ve h _) (ve h _)
 ·exact ax
 ·rename_i n1 n2
  refine Kr (h a) (h b) ?_
  intro o i
  cases b<;>first | rfl | (rename_i lo hi st p;exact(n2 _ _ _ _ rfl).elim)
def AB (f:Expr->GE) (a:Expr):List CmpOp->List Expr->GE
 | [o],[b]=>if UN o b=false then aj (tJ o) (f a) (f b) else aW
 | [o,o'],[b,b']=>if lastMarks [o,o'] [b,b']=false then iC (tJ o) (tJ o') (f a) (f b) (f b') else aW
 | _,_=>aW
theorem tM (hu:X.A.units+64 < cLine) {f:Expr->GE} (h:∀e,JE X e (f e)) (a:Expr) (os:List CmpOp) (bs:List Expr) (pos:Pos):JE X (.Compare a os bs pos) (AB f a os bs):=by
 unfold AB
 split
 ·rename_i o b
  by_cases g:UN o b=false
  ·rw[if_pos g];exact lD (hV hu o) (h a) (h b) g
  ·rw[if_neg g];exact ax
 ·rename_i o o' b b'
  by_cases g:lastMarks [o,o'] [b,b']=false
  ·rw[if_pos g];exact yA (hV hu o) (hV hu o') (h a) (h b) (h b') g
  ·rw[if_neg g];exact ax
 ·exact ax
def AD (f:Expr->GE) (a:Expr):List CmpOp->List Expr->GT
 | [o],[b]=>if UN o b=false then bp (aj (tJ o) (f a) (f b)) else fI
 | [o,o'],[b,b']=>if lastMarks [o,o'] [b,b']=false then bp (iC (tJ o) (tJ o') (f a) (f b) (f b')) else fI
 | _,_=>fI
theorem pv (hu:X.A.units+64 < cLine) {f:Expr->GE} (h:∀e,JE X e (f e)) (a:Expr) (os:List CmpOp) (bs:List Expr) (pos:Pos):JT X (.Compare a os bs pos) (AD f a os bs):=by
 unfold AD
 split
 ·rename_i o b
  by_cases g:UN o b=false
  ·rw[if_pos g];exact lE (hV hu o) (h a) (h b) g
  ·rw[if_neg g];exact fg
 ·rename_i o o' b b'
  by_cases g:lastMarks [o,o'] [b,b']=false
  ·rw[if_pos g];exact yB (hV hu o) (hV hu o') (h a) (h b) (h b') g
  ·rw[if_neg g];exact fg
 ·exact fg
def Dt (c:Ct):Expr->Bool
 | .Name x _=>c.va.contains x
 | _=>false
def Du (c:Ct) (f:Expr->GE) (a:Expr):List CmpOp->List Expr->GE
 | [.In],[.Name x p]=>(match ku c x with | some kvs=>jj false kvs (f a) | none=>if c.Ew.contains x=true then(if UN .In (.Name x p)=false then aj (qS false) (f a) (f (.Name x p)) else aW) else AB f a [.In] [.Name x p])
 | [.NotIn],[.Name x p]=>(match ku c x with | some kvs=>jj true kvs (f a) | none=>if c.Ew.contains x=true then(if UN .NotIn (.Name x p)=false then aj (qS true) (f a) (f (.Name x p)) else aW) else AB f a [.NotIn] [.Name x p])
 | os,bs=>AB f a os bs
theorem vf {c:Ct} {k:Nat} (G:Good c k X) {f:Expr->GE} (h:∀e,JE X e (f e)) (a:Expr) (os:List CmpOp) (bs:List Expr) (pos:Pos):JE X (.Compare a os bs pos) (Du c f a os bs):=by
 unfold Du
 split
 ·rename_i x p
  cases e:ku c x with
  | none=>
   dsimp only
   by_cases gd:c.Ew.contains x=true
   ·rw[if_pos gd]
    by_cases gm:UN .In (.Name x p)=false
    ·rw[if_pos gm];exact lD (zY G.un) (h a) (h _) gm
    ·rw[if_neg gm];exact ax
   ·rw[if_neg gd];exact tM G.un h a _ _ pos
  | some kvs=>obtain⟨g1,g2,g3⟩:=jl G e;exact CV (h a) g1 g2 g3
 ·rename_i x p
  cases e:ku c x with
  | none=>
   dsimp only
   by_cases gd:c.Ew.contains x=true
   ·rw[if_pos gd]
    by_cases gm:UN .NotIn (.Name x p)=false
    ·rw[if_pos gm];exact lD (n8 G.un) (h a) (h _) gm
    ·rw[if_neg gm];exact ax
   ·rw[if_neg gd];exact tM G.un h a _ _ pos
  | some kvs=>obtain⟨g1,g2,g3⟩:=jl G e;exact sW (h a) g1 g2 g3
 ·exact tM G.un h a _ _ pos
def vg (c:Ct) (f:Expr->GE) (a:Expr):List CmpOp->List Expr->GT
 | [.In],[.Name x p]=>(match ku c x with | some kvs=>bp (jj false kvs (f a)) | none=>if c.Ew.contains x=true then(if UN .In (.Name x p)=false then bp (aj (qS false) (f a) (f (.Name x p))) else fI) else AD f a [.In] [.Name x p])
 | [.NotIn],[.Name x p]=>(match ku c x with | some kvs=>bp (jj true kvs (f a)) | none=>if c.Ew.contains x=true then(if UN .NotIn (.Name x p)=false then bp (aj (qS true) (f a) (f (.Name x p))) else fI) else AD f a [.NotIn] [.Name x p])
 | os,bs=>AD f a os bs
theorem rf {c:Ct} {k:Nat} (G:Good c k X) {f:Expr->GE} (h:∀e,JE X e (f e)) (a:Expr) (os:List CmpOp) (bs:List Expr) (pos:Pos):JT X (.Compare a os bs pos) (vg c f a os bs):=by
 unfold vg
 split
 ·rename_i x p
  cases e:ku c x with
  | none=>
   dsimp only
   by_cases gd:c.Ew.contains x=true
   ·rw[if_pos gd]
    by_cases gm:UN .In (.Name x p)=false
    ·rw[if_pos gm];exact lE (zY G.un) (h a) (h _) gm
    ·rw[if_neg gm];exact fg
   ·rw[if_neg gd];exact pv G.un h a _ _ pos
  | some kvs=>obtain⟨g1,g2,g3⟩:=jl G e;exact CW (h a) g1 g2 g3
 ·rename_i x p
  cases e:ku c x with
  | none=>
   dsimp only
   by_cases gd:c.Ew.contains x=true
   ·rw[if_pos gd]
    by_cases gm:UN .NotIn (.Name x p)=false
    ·rw[if_pos gm];exact lE (n8 G.un) (h a) (h _) gm
    ·rw[if_neg gm];exact fg
   ·rw[if_neg gd];exact pv G.un h a _ _ pos
  | some kvs=>obtain⟨g1,g2,g3⟩:=jl G e;exact sZ (h a) g1 g2 g3
 ·exact pv G.un h a _ _ pos
def Dv (c:Ct):Expr->Bool
 | .Subscript (.Name x _) (.Constant (.int 0) _ _) _=>c.va.contains (x++"[]")
 | .Subscript (.Call (.Name x _) _ _ _) (.Constant (.int 0) _ _) _=>c.va.contains (x++"()[]")
 | .Call (.Name x _) _ _ _=>c.va.contains (x++"()")
 | e=>Dt c e
def Hw (c:Ct) (f:Expr->GE) (a:Expr) (os:List CmpOp) (bs:List Expr):GE:=if Dv c a=true then(match os,bs with
 | [.Eq],[b]=>if UN .Eq b=false then aj qZ (f a) (f b) else aW
 | [.NotEq],[b]=>if UN .NotEq b=false then aj q_ (f a) (f b) else aW
 | os,bs=>Du c f a os bs) else Du c f a os bs
theorem Dw {c:Ct} {k:Nat} (G:Good c k X) {f:Expr->GE} (h:∀e,JE X e (f e)) (a:Expr) (os:List CmpOp) (bs:List Expr) (pos:Pos):JE X (.Compare a os bs pos) (Hw c f a os bs):=by
 unfold Hw
 by_cases g:Dv c a=true
 ·rw[if_pos g]
  split
  ·rename_i b
   by_cases gm:UN .Eq b=false
   ·rw[if_pos gm];exact lD (Ai G.un) (h a) (h b) gm
   ·rw[if_neg gm];exact ax
  ·rename_i b
   by_cases gm:UN .NotEq b=false
   ·rw[if_pos gm];exact lD (Aj G.un) (h a) (h b) gm
   ·rw[if_neg gm];exact ax
  ·exact vf G h a _ _ pos
 ·rw[if_neg g];exact vf G h a os bs pos
def AE (c:Ct) (f:Expr->GE) (a:Expr) (os:List CmpOp) (bs:List Expr):GT:=if Dv c a=true then(match os,bs with
 | [.Eq],[b]=>if UN .Eq b=false then bp (aj qZ (f a) (f b)) else fI
 | [.NotEq],[b]=>if UN .NotEq b=false then bp (aj q_ (f a) (f b)) else fI
 | os,bs=>vg c f a os bs) else vg c f a os bs
theorem AF {c:Ct} {k:Nat} (G:Good c k X) {f:Expr->GE} (h:∀e,JE X e (f e)) (a:Expr) (os:List CmpOp) (bs:List Expr) (pos:Pos):JT X (.Compare a os bs pos) (AE c f a os bs):=by
 unfold AE
 by_cases g:Dv c a=true
 ·rw[if_pos g]
  split
  ·rename_i b
   by_cases gm:UN .Eq b=false
   ·rw[if_pos gm];exact lE (Ai G.un) (h a) (h b) gm
   ·rw[if_neg gm];exact fg
  ·rename_i b
   by_cases gm:UN .NotEq b=false
   ·rw[if_pos gm];exact lE (Aj G.un) (h a) (h b) gm
   ·rw[if_neg gm];exact fg
  ·exact rf G h a _ _ pos
 ·rw[if_neg g];exact rf G h a os bs pos
def Dx (c:Ct):Expr->Bool
 | .Name x _=>c.va.contains x||c.Ss.contains x
 | _=>false
def Hx (c:Ct) (f:Expr->GE):Expr->Expr->GE
 | .Name x p,b=>(match ku c x with | some kvs=>if xl b=false then Eo kvs (f b) else aW | none=>if Dx c (.Name x p)=true/\xl b=false then qU (f (.Name x p)) (f b) else Ds f (.Name x p) b)
 | a,b=>Ds f a b
theorem Dy {c:Ct} {k:Nat} (G:Good c k X) {f:Expr->GE} (h:∀e,JE X e (f e)) (a b:Expr) (pos:Pos):JE X (.Subscript a b pos) (Hx c f a b):=by
 unfold Hx
 split
 ·rename_i x p
  cases e:ku c x with
  | none=>
   dsimp only
   by_cases g:Dx c (.Name x p)=true/\xl b=false
   ·rw[if_pos g]
    refine Dd (by have:=G.un;omega) (h _) (h b) ?_
    intro o i
    cases b<;>first | rfl | cases g.2
   ·rw[if_neg g];exact AA h _ b pos
  | some kvs=>
   dsimp only
   by_cases g:xl b=false
   ·rw[if_pos g]
    obtain⟨g1,g2,g3⟩:=jl G e
    refine CZ (h b) ?_ g1 g2 g3
    intro o i
    cases b<;>first | rfl | cases g
   ·rw[if_neg g];exact ax
 ·exact AA h _ b pos
def pairsOf (f:Expr->GE):List (Option Expr)->List Expr->Option (List (GE×GE))
 | [],[]=>some []
 | some k::ks,v::vs=>(match pairsOf f ks vs with | some r=>some ((f k,f v)::r) | none=>none)
 | _,_=>none
def Lb:List (Option Expr)->Bool
 | some (.Tuple ..)::_=>true
 | _=>false
def Lc (c:Ct):List (Option Expr)->Bool
 | some (.Name x _)::_=>c.va.contains x
 | _=>false
def AG (b:Bool) (f:Expr->GE) (ks:List (Option Expr)) (vs:List Expr):GE:=if(!ks.isEmpty&&decide (ks.length<=15))=true then(match pairsOf f ks vs with | some gs=>if b=true then aW else aW | none=>aW) else aW
theorem vh (hu:X.A.units+1 < cLine) (b:Bool) {f:Expr->GE} (h:∀e,JE X e (f e)) (ks:List (Option Expr)) (vs:List Expr) (pos:Pos):JE X (.Dict ks vs pos) (AG b f ks vs):=by
 unfold AG
 by_cases g:(!ks.isEmpty&&decide (ks.length<=15))=true
 ·rw[if_pos g]
  simp only[Bool.and_eq_true,decide_eq_true_eq] at g
  cases e:pairsOf f ks vs with
  | none=>exact ax
  | some gs=>
   dsimp only
   by_cases t:b=true
   ·rw[if_pos t];exact ax
   ·rw[if_neg t];exact ax
 ·rw[if_neg g];exact ax
def Hy (f:Expr->GE):List Expr->GE
 | []=>aW
 | [a]=>f a
 | a::b::r=>jV (f a) (Hy f (b::r))
def Oy (f:Expr->GE):List Expr->GE
 | []=>aW
 | [a]=>f a
 | a::b::r=>Kb (f a) (Oy f (b::r))
theorem vi {f:Expr->GE} (h:∀e,JE X e (f e)) (pos:Pos):∀es,JE X (.BoolOp .And es pos) (Hy f es)
 | []=>ax
 | [a]=>yD (h a)
 | a::b::r=>F4 (h a) (vi h pos (b::r))
theorem AH {f:Expr->GE} (h:∀e,JE X e (f e)) (pos:Pos):∀es,JE X (.BoolOp .Or es pos) (Oy f es)
 | []=>ax
 | [a]=>yD (h a)
 | a::b::r=>Kc (h a) (AH h pos (b::r))
def Hz (f:Expr->GT):List Expr->GT
 | []=>fI
 | [a]=>f a
 | a::b::r=>yC (f a) (Hz f (b::r))
def Oz (f:Expr->GT):List Expr->GT
 | []=>fI
 | [a]=>f a
 | a::b::r=>F0 (f a) (Oz f (b::r))
theorem AI {e:Expr}:JW X e fI:=fun ρ st σ H m Q S R p=>False.elim p
theorem vj {f:Expr->GT} (h:∀e,JT X e (f e)) (pos:Pos):∀es,JW X (.BoolOp .And es pos) (Hz f es)
 | []=>AI
 | [a]=>B4 (h a)
 | a::b::r=>F2 (h a) (vj h pos (b::r))
theorem AJ {f:Expr->GT} (h:∀e,JT X e (f e)) (pos:Pos):∀es,JW X (.BoolOp .Or es pos) (Oz f es)
 | []=>AI
 | [a]=>F1 (h a)
 | a::b::r=>Ka (h a) (AJ h pos (b::r))
def Su (f:Expr->GE):UnaryOp->Expr->GE
 | .USub,a=>J_ qc (f a)
 | .Not,a=>D_ (f a)
 | _,_=>aW
def xm (f:Expr->GE) (g:GA->GE) (es:List Expr):GE:=if es.all plain=true then g (gj f es) else aW
def isSet:Expr->Bool
 | .Set .. =>true
 | _=>false
theorem eV {e:Expr} {env:Env} (h:isSet e=false) (x:UL):UT e env x=pure x:=by
 cases e<;>first | rfl | cases h
def fQ (c:Ct) (x:Str):Bool:=decide (x="range")&&decide (c.names.lookup x=some .globalImplicit)&&c.bl.contains x&&(match c.fns.lookup x with | some _=>false | none=>true)
theorem ma {c:Ct} {k:Nat} (G:Good c k X) (y:Str) (hy:fQ c y=true):y="range"/\Gl X y/\X.mg y=none:=by
 unfold fQ at hy
 simp only[Bool.and_eq_true,decide_eq_true_eq] at hy
 refine⟨hy.1.1.1,?_,G.bl y hy.1.2⟩
 show X.env.scope.names.lookup y=_
 rw[G.sc];exact hy.1.1.2
def om (c:Ct) (f:Expr->GE):Expr->GI
 | .Call (.Name x p) [a] [] q=>if fQ c x=true then(if plain a=true then zl (gj f [a]) else zm) else fP (f (.Call (.Name x p) [a] [] q))
 | e=>if isSet e=false then fP (f e) else zm
theorem pz {c:Ct} {k:Nat} (G:Good c k X) {f:Expr->GE} (h:∀e,JE X e (f e)) (tg e:Expr):JI X tg e (om c f e):=by
 unfold om
 split
 ·rename_i y p a q
  by_cases g:fQ c y=true
  ·rw[if_pos g]
   obtain⟨rfl,g2,g3⟩:=ma G y g
   by_cases ga:plain a=true
   ·rw[if_pos ga]
    exact KQ g2 g3 (cG h [a] (by simp[ga])) (aL ga)
   ·rw[if_neg ga];exact zp
  ·rw[if_neg g];exact uQ (h _)
 ·by_cases g:isSet e=false
  ·rw[if_pos g];exact uQ (h _)
  ·rw[if_neg g];exact zp
def Dz (c:Ct):Expr->Bool
 | .Call (.Name x _) [a] [] _=>fQ c x&&plain a
 | _=>false
theorem rh {c:Ct} {k:Nat} (G:Good c k X) {f:Expr->GE} (h:∀e,JE X e (f e)) (tg e:Expr) (g:Dz c e=true):Jf sH X tg e (om c f e):=by
 unfold Dz at g
 split at g
 ·rename_i y p a q
  simp only[Bool.and_eq_true] at g
  obtain⟨rfl,g2,g3⟩:=ma G y g.1
  unfold om
  dsimp only
  rw[if_pos g.1,if_pos g.2]
  exact Hd g2 g3 (cG h [a] (by simp[g.2])) (aL g.2)
 ·cases g
def OA (c:Ct) (x:Str):Bool:=decide (x="enumerate")&&decide (c.names.lookup x=some .globalImplicit)&&c.bl.contains x&&(match c.fns.lookup x with | some _=>false | none=>true)
def OB (gi:GI):K7:=fun ρ st=>(gi ρ st).bind fun w st1=> .ok (w.1.map fun l=>(l,w.2),w.2) st1
def tN (c:Ct) (f:Expr->GE):Expr->K7
 | e=>OB (om c f e)
theorem AK {c:Ct} {k:Nat} (G:Good c k X) {f:Expr->GE} (h:∀e,JE X e (f e)) (es:List Expr) (kt:Nat) (pt:Pos) (e:Expr):Ol X (.Tuple es kt pt) e (tN c f e):=by
 unfold tN
 exact G8 (pz G h _ _)
def Ey (c:Ct):Expr->Bool
 | .Call (.Name x _) [_] [] _=>OA c x
 | _=>false
def j_ (c:Ct):List (Str×UI)->Option d_
 | []=>some []
 | (n,.free)::r=>if c.names.lookup n=some .cell\/c.names.lookup n=some .free then(match iG n c.N,j_ c r with | some i,some l=>some ((n,i)::l) | _,_=>none) else none
 | _::r=>j_ c r
theorem me {c:Ct}:∀{ns:List (Str×UI)} {cs:d_},j_ c ns=some cs->(∀y∈ns,y.2= .free->c.names.lookup y.1=some .cell\/c.names.lookup y.1=some .free)/\∀p∈cs,(p.1,NameKind.free)∈ns/\c.N[p.2]? =some p.1
 | [],cs,h=>by cases h;exact⟨(fun _ z=>by cases z),(fun _ z=>by cases z)⟩
 | (n,k)::r,cs,h=>by
  unfold j_ at h
  split at h
  ·cases ‹_::_=[]›
  ·rename_i n' r' he
   cases he
   by_cases g:c.names.lookup n=some .cell\/c.names.lookup n=some .free
   ·rw[if_pos g] at h
    cases e1:iG n c.N with
    | none=>rw[e1] at h;cases h
    | some i=>
     cases e2:j_ c r with
     | none=>rw[e1,e2] at h;cases h
     | some l=>
      rw[e1,e2] at h
      cases h
      obtain⟨q1,q2⟩:=me e2
      refine⟨fun y hy e=>?_,fun p hp=>?_⟩
      ·rcases List.mem_cons.mp hy with z | z
       ·subst z;exact g
       ·exact q1 y z e
      ·rcases List.mem_cons.mp hp with z | z
       ·subst z;exact⟨List.mem_cons_self,eC e1⟩
       ·exact⟨List.mem_cons_of_mem _ (q2 p z).1,(q2 p z).2⟩
   ·rw[if_neg g] at h;cases h
  ·rename_i kk r' hk he
   cases he
   obtain⟨q1,q2⟩:=me h
   refine⟨fun y hy e=>?_,fun p hp=>⟨List.mem_cons_of_mem _ (q2 p hp).1,(q2 p hp).2⟩⟩
   rcases List.mem_cons.mp hy with z | z
   ·subst z
    have e':k= .free:=e
    subst e'
    exact(hk n rfl).elim
   ·exact q1 y z e
def tO (c:Ct) (ns:List (Str×UI)):List (Str×UI):=ns.map fun(n,k)=>if(k == .free&&c.names.lookup n == some .cell) then(n,.cell) else(n,k)
def Ld:ScopeKind->Bool
 | .function=>true
 | _=>false
def hX (scope:Scope) (x:Str):Bool:=Ld scope.kind&&scope.names.all (fun y=>decide (scope.names.lookup y.1=some y.2))&&scope.names.all (fun y=>decide (y.2≠.cell))&&decide (scope.names.lookup x=some .local)
def Ct.block (c:Ct) (scope:Scope) (x:Str) (cs:d_):Ct:={ c with N:=x::cs.map (·.1),names:=tO c scope.names,loop:=false,top:=false }
def Ez (c:Ct):Expr->Option Nat
 | .Name x _=>iG x c.N
 | _=>none
def rj (c:Ct) (sub:Ct->(Expr->GE)×(Expr->GT)) (f:Expr->GE) (elt:Expr) (x:Str) (iter:Expr) (HA:Ct->GT) (scope:Scope):GE :=
 if hX scope x=true/\(c.free=true\/Dz c iter=true)/\isSet iter=false then(match j_ c scope.names with
  | some cs=>if(x::cs.map (·.1)).Nodup then iq cs (om c f iter) (HA (c.block scope x cs)) ((sub (c.block scope x cs)).1 elt) else aW
  | none=>aW) else aW
def Ms (c:Ct) (sub:Ct->(Expr->GE)×(Expr->GT)) (f:Expr->GE) (elt:Expr) (scope:Scope):List Comprehension->GE
 | [⟨.Name x _,iter,[],0⟩]=>rj c sub f elt x iter (fun _=>fun _ st=> .ok true st) scope
 | [⟨.Name x _,iter,[q],0⟩]=>rj c sub f elt x iter (fun c'=>(sub c').2 q) scope
 | _=>aW
theorem mf {c:Ct} {k:Nat} (G:Good c k X) {scope:Scope} {x:Str} {cs:d_} (hs:hX scope x=true) (nd:(x::cs.map (·.1)).Nodup) (C:UE) (s0:UK) (H0:Hp) (fp:List UE) (pn:List (UE×Obj)) (E:UL->UK->Prop) (hA:wB X.A H0) :
  Good (c.block scope x cs) k (dE X scope x cs C s0 H0 fp pn E):=by
 unfold hX at hs
 simp only[Bool.and_eq_true,decide_eq_true_eq] at hs
 have hk:scope.kind= .function:=by
  have:=hs.1.1.1
  revert this
  cases scope.kind<;>intro z<;>first | rfl | cases z
 refine⟨rfl,?_,nd,G.un,G.free,(fun z=>by cases z),G.cst,G.bl,G.fns,(fun z=>by cases z),(fun z=>by cases z),hk,G.tab,G.cls,G.tH,G.xc,⟨G.rm.d,G.rm.u⟩,G.tI,⟨G.x.lam,G.x.Am,G.x.Hq,(fun z=>by cases z)⟩,G.fr,hA⟩
 show(relabel scope X.env).names=tO c scope.names
 unfold relabel tO Env.kindOf
 rw[G.kind,G.sc]
 simp
theorem AL {c:Ct} {k:Nat} (G:Good c k X) {scope:Scope} {x:Str} {cs:d_} (hs:hX scope x=true) (hcs:j_ c scope.names=some cs) (nd:(x::cs.map (·.1)).Nodup):cz X scope x cs:=by
 unfold hX at hs
 simp only[Bool.and_eq_true,decide_eq_true_eq,List.all_eq_true] at hs
 obtain⟨⟨⟨h1,h2⟩,h3⟩,h4⟩:=hs
 have hk:scope.kind= .function:=by
  revert h1
  cases scope.kind<;>intro z<;>first | rfl | cases z
 obtain⟨q1,q2⟩:=me hcs
 refine⟨hk,h2,h3,h4,fun y hy e=>?_,fun p hp=>⟨by rw[G.N];exact(q2 p hp).2,h2 _ (q2 p hp).1⟩,nd⟩
 show X.env.scope.names.lookup y.1=_\/X.env.scope.names.lookup y.1=_
 rw[G.sc];exact q1 y hy e
def HB (X:Cx) (e:Expr) (g:GE):Prop:=∀(i:Nat) (y:Str) (py spos:Pos),X.N.Nodup->X.N[i]? =some y->Loc X.env.scope y->(X.fn y=true\/X.env.scope.names.lookup y=some .local)->JS X (.Assign [.Name y py] e spos) (aI i g)
theorem xn {i:Nat} {s:Stmt}:JS X s (aI i aW):=fun ρ st σ H m D S R p=>False.elim p
theorem eW {e:Expr}:HB X e aW:=fun i y py spos _ _ _ _=>xn
theorem vm {c:Ct} {k:Nat} (G:Good c k X) {sub:Ct->(Expr->GE)×(Expr->GT)} (hb:∀c X,Good c k X->(∀e,JE X e ((sub c).1 e))/\∀e,JT X e ((sub c).2 e)) {f:Expr->GE} (h:∀e,JE X e (f e)) (elt:Expr) (scope:Scope) (gens:List Comprehension) (pos:Pos) :
  JE X (.ListComp elt gens scope pos) (Ms c sub f elt scope gens)/\HB X (.ListComp elt gens scope pos) (Ms c sub f elt scope gens):=by
 have core:∀(x:Str) (px:Pos) (iter:Expr) (ifs:List Expr) (HA:Ct->GT),(∀c X,Good c k X->Ei X ifs (HA c))->
   JE X (.ListComp elt [⟨.Name x px,iter,ifs,0⟩] scope pos) (rj c sub f elt x iter HA scope)/\HB X (.ListComp elt [⟨.Name x px,iter,ifs,0⟩] scope pos) (rj c sub f elt x iter HA scope):=by
  intro x px iter ifs HA hg
  unfold rj
  by_cases g:hX scope x=true/\(c.free=true\/Dz c iter=true)/\isSet iter=false
  ·rw[if_pos g]
   obtain⟨g1,g2,g3⟩:=g
   cases ec:j_ c scope.names with
   | none=>exact⟨ax,eW⟩
   | some cs=>
    dsimp only
    by_cases nd:(x::cs.map (·.1)).Nodup
    ·rw[if_pos nd]
     have CS:=AL G g1 ec nd
     have hE:∀C s0 H0 fp pn E,wB X.A H0->JE (dE X scope x cs C s0 H0 fp pn E) elt ((sub (c.block scope x cs)).1 elt):=fun C s0 H0 fp pn E z=>(hb _ _ (mf G g1 nd C s0 H0 fp pn E z)).1 elt
     have hT:∀C s0 H0 fp pn E,wB X.A H0->Ei (dE X scope x cs C s0 H0 fp pn E) ifs (HA (c.block scope x cs)):=fun C s0 H0 fp pn E z=>hg _ _ (mf G g1 nd C s0 H0 fp pn E z)
     rcases g2 with g2 | g2
     ·exact⟨oV G.fr CS (qv (G.free g2).2) G.hd (pz G h _ iter).y hE hT (eV g3),fun i y py spos hN hi hl hf=>uH i hN G.fr CS (qv (G.free g2).2) G.hd (pz G h _ iter).y hE hT (eV g3) hi hl hf⟩
     ·exact⟨oV G.fr CS (zZ G.hd) G.hd (rh G h _ iter g2) hE hT (eV g3),fun i y py spos hN hi hl hf=>uH i hN G.fr CS (zZ G.hd) G.hd (rh G h _ iter g2) hE hT (eV g3) hi hl hf⟩
    ·rw[if_neg nd];exact⟨ax,eW⟩
  ·rw[if_neg g];exact⟨ax,eW⟩
 unfold Ms
 split
 ·exact core _ _ _ _ _ fun _ _ _=>CC
 ·exact core _ _ _ _ _ fun c X G'=>CD ((hb c X G').2 _)
 ·exact⟨ax,eW⟩
def AM (c:Ct) (sub:Ct->(Expr->GE)×(Expr->GT)) (f:Expr->GE) (t:Expr->GT):Expr->GE
 | .Name x _=>Ar c x
 | .Constant k _ _=>Au k
 | .BinOp a o b _=>aj (La o) (f a) (f b)
 | .UnaryOp o a _=>Su f o a
 | .BoolOp .And es _=>Hy f es
 | .BoolOp .Or es _=>Oy f es
 | .Compare a os bs _=>Hw c f a os bs
 | .IfExp q a b _=>lF (t q) (f a) (f b)
 | .Tuple es _ _=>xm f dU es
 | .List es _=>xm f bg es
 | .Subscript a b _=>Hx c f a b
 | .Dict [] [] _=>Ep
 | .Dict ks vs _=>AG (Lb ks||Lc c ks) f ks vs
 | .Call g as ks p=>Aw c f p g as ks
 | .ListComp elt gens scope _=>Ms c sub f elt scope gens
 | _=>aW
def stepT (c:Ct) (f:Expr->GE) (t:Expr->GT):Expr->GT
 | .UnaryOp .Not a _=>qd (t a)
 | .BoolOp .And es _=>Hz t es
 | .BoolOp .Or es _=>Oz t es
 | .Compare a os bs _=>AE c f a os bs
 | .Name x p=>c9 (f (.Name x p))
 | .Call g as ks p=>c9 (f (.Call g as ks p))
 | .Subscript a b p=>c9 (f (.Subscript a b p))
 | .Constant k j p=>c9 (f (.Constant k j p))
 | .BinOp a o b p=>c9 (f (.BinOp a o b p))
 | _=>fI
theorem rl {c:Ct} {k:Nat} (G:Good c k X) {sub:Ct->(Expr->GE)×(Expr->GT)} (hb:∀k c X,Good c k X->(∀e,JE X e ((sub c).1 e))/\∀e,JT X e ((sub c).2 e)) {f:Expr->GE} {t:Expr->GT} (h:∀e,JE X e (f e)) (ht:∀e,JT X e (t e)) (e:Expr):JE X e (AM c sub f t e):=by
 have hu:X.A.units+64 < cLine:=G.un
 cases e with
 | Name x p=>exact As G x p
 | Constant v j p=>exact xf v j p
 | BinOp a o b p=>exact FY (Dr o) (h a) (h b)
 | UnaryOp o a p=>
  cases o with
  | USub=>exact FZ (h a)
  | Not=>exact F5 (h a)
  | _=>exact ax
 | BoolOp o es p=>
  cases o with
  | And=>exact vi h p es
  | Or=>exact AH h p es
 | Compare a os bs p=>exact Dw G h a os bs p
 | IfExp q a b p=>exact Kd (ht q) (h a) (h b)
 | Tuple es j p=>
  show JE X _ (xm f dU es)
  unfold xm
  by_cases g:es.all plain=true
  ·rw[if_pos g];exact F6 (cG h es g)
  ·rw[if_neg g];exact ax
 | List es p=>
  show JE X _ (xm f bg es)
  unfold xm
  by_cases g:es.all plain=true
  ·rw[if_pos g];exact F7 (cG h es g)
  ·rw[if_neg g];exact ax
 | Subscript a b p=>exact Dy G h a b p
 | Dict ks vs p=>
  cases ks with
  | cons k ks=>exact vh (by have:=G.un;omega) _ h (k::ks) vs p
  | nil=>
   cases vs with
   | nil=>exact C2
   | cons v vs=>exact vh (by have:=G.un;omega) (Lb []||Lc c []) h [] (v::vs) p
 | Call g as ks p=>exact Ay G h g as ks p
 | ListComp elt gens scope p=>exact(vm G (hb k) h elt scope gens p).1
 | _=>exact ax
def rn:Expr->Bool
 | .ListComp .. =>true
 | .SetComp .. =>true
 | .DictComp .. =>true
 | .Set .. =>true
 | _=>false
theorem jm {e:Expr} {t:Option Expr} {n:Nat} {env:Env} (h:rn e=false):swapsWith e t n env=pure false:=by
 cases e<;>first | rfl | cases h
theorem AN {c:Ct} {k:Nat} (G:Good c k X) {sub:Ct->(Expr->GE)×(Expr->GT)} (hb:∀k c X,Good c k X->(∀e,JE X e ((sub c).1 e))/\∀e,JT X e ((sub c).2 e)) {f:Expr->GE} {t:Expr->GT} (h:∀e,JE X e (f e)) (ht:∀e,JT X e (t e)) (e:Expr):HB X e (AM c sub f t e):=by
 by_cases g:rn e=false
 ·exact fun i y py spos hN hi hl hf=>sF i hN (rl G hb h ht e) hi hl (jm g) hf
 ·cases e with
  | ListComp elt gens scope p=>exact(vm G (hb k) h elt scope gens p).2
  | SetComp=>exact eW
  | DictComp=>exact eW
  | Set=>exact eW
  | _=>exact absurd rfl g
theorem AO {c:Ct} {k:Nat} (G:Good c k X) {f:Expr->GE} {t:Expr->GT} (h:∀e,JE X e (f e)) (ht:∀e,JT X e (t e)) (e:Expr):JT X e (stepT c f t e):=by
 have hu:X.A.units+64 < cLine:=G.un
 cases e with
 | UnaryOp o a p=>
  cases o with
  | Not=>exact F3 (ht a)
  | _=>exact fg
 | BoolOp o es p=>
  cases o with
  | And=>exact(vj ht p es).jt
  | Or=>exact(AJ ht p es).jt
 | Compare a os bs p=>exact AF G h a os bs p
 | Name x p=>exact lK (h _) (fun _=>rfl)
 | Call g as ks p=>exact lK (h _) (fun _=>rfl)
 | Subscript a b p=>exact lK (h _) (fun _=>rfl)
 | Constant v j p=>exact lK (h _) (fun _=>rfl)
 | BinOp a o b p=>exact lK (h _) (fun _=>rfl)
 | _=>exact fg
end
def ir:Nat->Ct->(Expr->GE)×(Expr->GT)
 | 0,_=>(fun _=>aW,fun _=>fI)
 | n+1,c=>(AM c (ir n) (ir n c).1 (ir n c).2,stepT c (ir n c).1 (ir n c).2)
section
variable {X:Cx}
theorem bZ:∀(n:Nat) (k:Nat) (c:Ct) (X:Cx),Good c k X->(∀e,JE X e ((ir n c).1 e))/\∀e,JT X e ((ir n c).2 e)
 | 0,_,_,_,_=>⟨fun _=>ax,fun _=>fg⟩
 | n+1,k,c,X,G=>⟨fun e=>rl G (fun k c X G=>bZ n k c X G) (bZ n k c X G).1 (bZ n k c X G).2 e,fun e=>AO G (bZ n k c X G).1 (bZ n k c X G).2 e⟩
theorem AQ {k:Nat}:∀(n:Nat) (c:Ct) (X:Cx),Good c k X->∀e,HB X e ((ir n c).1 e)
 | 0,_,_,_,_=>eW
 | n+1,c,X,G,e=>AN G (fun k c X G=>bZ n k c X G) (bZ n k c X G).1 (bZ n k c X G).2 e
def slot (c:Ct) (x:Str):Option Nat:=if c.names.lookup x=some .local\/(c.names.lookup x=some .cell/\c.top=true) then iG x c.N else none
def vn (c:Ct) (x:Str):Option Nat:=if c.names.lookup x=some .local then iG x c.N else none
theorem AR {c:Ct} {k:Nat} (G:Good c k X) {x:Str} {i:Nat} (h:vn c x=some i):X.N[i]? =some x/\X.env.scope.names.lookup x=some .local:=by
 unfold vn at h
 by_cases e:c.names.lookup x=some .local
 ·rw[if_pos e] at h
  exact⟨by rw[G.N];exact eC h,by rw[G.sc];exact e⟩
 ·rw[if_neg e] at h;cases h
theorem kP {c:Ct} {k:Nat} (G:Good c k X) {x:Str} {i:Nat} (h:slot c x=some i):X.N[i]? =some x/\(Loc X.env.scope x/\(X.fn x=true\/X.env.scope.names.lookup x=some .local)):=by
 unfold slot at h
 by_cases e:c.names.lookup x=some .local\/(c.names.lookup x=some .cell/\c.top=true)
 ·rw[if_pos e] at h
  refine⟨by rw[G.N];exact eC h,?_⟩
  rcases e with e | ⟨e,e2⟩
  ·have q:X.env.scope.names.lookup x=some .local:=by rw[G.sc];exact e
   exact⟨.inl q,.inr q⟩
  ·have q:X.env.scope.names.lookup x=some .cell:=by rw[G.sc];exact e
   exact⟨.inr q,.inl (G.fn e2 x)⟩
 ·rw[if_neg e] at h;cases h
def slots (c:Ct):List Expr->Option (List Nat)
 | []=>some []
 | .Name x _::es=>(match slot c x,slots c es with | some i,some is=>some (i::is) | _,_=>none)
 | _=>none
theorem jn {c:Ct} {k:Nat} (G:Good c k X):∀{es:List Expr} {is:List Nat},slots c es=some is->Slots X es is
 | [],is,h=>by cases h;exact .nil
 | e::es,is,h=>by
  cases e with
  | Name x p=>
   have h:(match slot c x,slots c es with | some i,some is=>some (i::is) | _,_=>none)=some is:=h
   cases e1:slot c x with
   | none=>rw[e1] at h;cases h
   | some i=>
    cases e2:slots c es with
    | none=>rw[e1,e2] at h;cases h
    | some js=>
     rw[e1,e2] at h
     cases h
     obtain⟨q1,q2⟩:=kP G e1
     exact .cons q1 q2 (jn G e2)
  | _=>cases h
def Le:Expr->Bool
 | .Tuple .. =>true
 | _=>false
def DA (es:List Expr) (v:Expr):Bool:=!Le v||decide (4<=es.length)
def HC:Expr->Bool
 | .Dict [] [] _=>true
 | _=>false
theorem xo {es:List Expr} {k:Nat} {p:Pos} {v:Expr} (h:DA es v=true):swappedStores [.Tuple es k p] v X.env=pure none:=by
 cases v with
 | Tuple vs k2 p2=>
  have h4:4<=es.length:=by simpa [DA,Le] using h
  unfold swappedStores
  have:(!(es.length == 2||es.length == 3)||vs.length != es.length||X.env.blockKind != .function)=true:=by
   have h2:(es.length == 2)=false:=by simp;omega
   have h3:(es.length == 3)=false:=by simp;omega
   rw[h2,h3];rfl
  dsimp only
  rw[if_pos this]
 | _=>rfl
def HD (c:Ct) (f:Expr->GE) (v:Expr):List Expr->GS
 | [.Name x _]=>(match slot c x with | some i=>if HC v=true/\c.va.contains x=true then aI i j8 else aI i (f v) | none=>a7)
 | [.Subscript o i _]=>if rn v=false/\xl i=false then(if Dx c o=true then n4 (f v) (f o) (f i) else uC (f v) (f o) (f i)) else a7
 | [.Tuple es _ _]=>if rn v=false/\DA es v=true/\c.free=true then(match slots c es with | some is=>qp is (f v) | none=>a7) else a7
 | _=>a7
theorem HE {c:Ct} {k:Nat} (G:Good c k X) {f:Expr->GE} (h:∀e,JE X e (f e)) (ha:∀e,HB X e (f e)) (v:Expr) (ts:List Expr) (pos:Pos):JS X (.Assign ts v pos) (HD c f v ts):=by
 unfold HD
 split
 ·rename_i x p
  cases e:slot c x with
  | none=>exact aO
  | some i=>
   obtain⟨e1,e2⟩:=kP G e
   dsimp only
   by_cases g:HC v=true/\c.va.contains x=true
   ·rw[if_pos g]
    have gv:=g.1
    unfold HC at gv
    split at gv
    ·exact sF i (by rw[G.N];exact G.nd) C0 e1 e2.1 rfl e2.2
    ·cases gv
   ·rw[if_neg g];exact ha v i x _ _ (by rw[G.N];exact G.nd) e1 e2.1 e2.2
 ·rename_i o i p
  by_cases g:rn v=false/\xl i=false
  ·rw[if_pos g]
   have g2:=g.2
   by_cases gd:Dx c o=true
   ·rw[if_pos gd];exact C4 (by have:=G.un;omega) (h v) (h o) (h i) (jm g.1)
   rw[if_neg gd]
   refine Cj (h v) (h o) (h i) (by unfold swapsWithSole;exact jm g.1) ?_ rfl ?_
   ·cases v<;>rfl
   ·intro _
    cases i<;>first | rfl | cases g2
  ·rw[if_neg g];exact aO
 ·rename_i es kk p
  by_cases g:rn v=false/\DA es v=true/\c.free=true
  ·rw[if_pos g]
   cases e1:slots c es with
   | none=>exact aO
   | some is=>
    have g2:=g.2.1
    refine Cw (by rw[G.N];exact G.nd) (G.free g.2.2).2 (jn G e1) (h v) (jm g.1) ?_
    exact xo g2
  ·rw[if_neg g];exact aO
 ·exact aO
def HF (c:Ct) (f:Expr->GE) (i:Nat) (gb:GS):Expr->GS
 | .Call (.Name x p) [a] [] q=>if fQ c x=true then(if plain a=true then lL i (gj f [a]) gb else a7) else wq i (f (.Call (.Name x p) [a] [] q)) gb
 | e=>if isSet e=false then wq i (f e) gb else a7
theorem HG {c:Ct} {k:Nat} (G:Good c k X) (hl:c.loop=true) {f:Expr->GE} (h:∀e,JE X e (f e)) {x:Str} {i:Nat} (hx:slot c x=some i) {body:List Stmt} {gb:GS} (hb:ip X body gb) (e:Expr) (pos pos':Pos):JS X (.For (.Name x pos') e body [] pos) (HF c f i gb e):=by
 have nd:X.N.Nodup:=by rw[G.N];exact G.nd
 obtain⟨e1,e2⟩:=kP G hx
 have rg:=ma G
 unfold HF
 split
 ·rename_i y p a q
  by_cases g:fQ c y=true
  ·rw[if_pos g]
   obtain⟨rfl,g2,g3⟩:=rg y g
   by_cases ga:plain a=true
   ·rw[if_pos ga]
    exact y0 i nd (G.loop hl).2 (G.loop hl).1 g2 g3 (cG h [a] (by simp[ga])) hb e1 e2.1 e2.2 (aL ga)
   ·rw[if_neg ga];exact aO
  ·rw[if_neg g];exact yZ i nd (G.loop hl).2 (G.loop hl).1 (h _) hb e1 e2.1 e2.2 (eV rfl)
 ·by_cases g:isSet e=false
  ·rw[if_pos g];exact yZ i nd (G.loop hl).2 (G.loop hl).1 (h _) hb e1 e2.1 e2.2 (eV g)
  ·rw[if_neg g];exact aO
def EA (c:Ct) (x:Str):Bool:=decide (x="reversed")&&decide (c.names.lookup x=some .globalImplicit)&&c.bl.contains x
def HH (c:Ct):Expr->Bool
 | .Call (.Name x _) [a] [] _=>EA c x&&plain a
 | _=>false
def OC (f:Expr->GE) (i:Nat) (gb:GS):Expr->GS
 | .Call _ [a] _ _=>qW i (gj f [a]) gb
 | _=>a7
def Lf (c:Ct) (f:Expr->GE) (i:Nat) (gb:GS) (e:Expr):GS:=match Ez c e with
 | some j=>Aa j (u7 i (f e) gb)
 | none=>u7 i (f e) gb
def HJ (c:Ct) (f:Expr->GE) (i:Nat) (gb:GS) (e:Expr):GS:=if HH c e=true then OC f i gb e else if Dt c e=true then Lf c f i gb e else HF c f i gb e
theorem DB {c:Ct} {k:Nat} (G:Good c k X) (hl:c.loop=true) {f:Expr->GE} (h:∀e,JE X e (f e)) {x:Str} {i:Nat} (hx:slot c x=some i) {body:List Stmt} {gb:GS} (hb:ip X body gb) (e:Expr) (pos pos':Pos):JS X (.For (.Name x pos') e body [] pos) (HJ c f i gb e):=by
 have nd:X.N.Nodup:=by rw[G.N];exact G.nd
 obtain⟨e1,e2⟩:=kP G hx
 unfold HJ
 by_cases g:HH c e=true
 ·rw[if_pos g]
  unfold HH at g
  split at g
  ·rename_i y p a q
   unfold EA at g
   simp only[Bool.and_eq_true,decide_eq_true_eq] at g
   obtain⟨⟨⟨rfl,g2⟩,g3⟩,g4⟩:=g
   exact Dk i nd (G.loop hl).2 (G.loop hl).1 (by show X.env.scope.names.lookup _=_;rw[G.sc];exact g2) (G.bl _ g3) (cG h [a] (by simp[g4])) (aL g4) hb e1 e2.1 e2.2
  ·cases g
 ·rw[if_neg g]
  by_cases g2:Dt c e=true
  ·rw[if_pos g2]
   have go:JS X (.For (.Name x pos') e body [] pos) (u7 i (f e) gb):=by
    refine Dh i nd (G.loop hl).2 (G.loop hl).1 (h e) hb e1 e2.1 e2.2 ?_
    unfold Dt at g2
    split at g2
    ·exact fun _=>rfl
    ·cases g2
   unfold Lf
   cases Ez c e with
   | none=>exact go
   | some j=>exact Df j go
  ·rw[if_neg g2];exact HG G hl h hx hb e pos pos'
def tP (c:Ct) (f:Expr->GE):Expr->GS
 | .Call (.Name x _) (e::es) [] _=>if okN x=true/\(e::es).all plain=true/\c.names.lookup x=some .globalImplicit/\c.clss.contains x=true/\c.free=true then oS x (gj f (e::es)) else a7
 | _=>a7
theorem AS {c:Ct} {k:Nat} (G:Good c k X) {f:Expr->GE} (h:∀e,JE X e (f e)) (e:Expr) (pos:Pos):JS X (.Raise (some e) none pos) (tP c f e):=by
 unfold tP
 split
 ·rename_i x p e es q
  by_cases g:okN x=true/\(e::es).all plain=true/\c.names.lookup x=some .globalImplicit/\c.clss.contains x=true/\c.free=true
  ·rw[if_pos g]
   obtain⟨g1,g2,g3,g4,g5⟩:=g
   have hg:Gl X x:=by
    show X.env.scope.names.lookup x=_
    rw[G.sc];exact g3
   have gp:plain e=true/\es.all plain=true:=by rw[List.all_cons,Bool.and_eq_true] at g2;exact g2
   obtain⟨C,q1,q2⟩:=G.cls x g4
   exact y3 (G.free g5).2 q2 hg q1 (cG h (e::es) g2) (cY g1) (aL gp.1) (dS gp.2)
  ·rw[if_neg g];exact aO
 ·exact aO
def HK (c:Ct) (b:Ct->List Stmt->GS) (body:List Stmt):List ExceptHandler->GS
 | [.ExceptHandler (some (.Name x _)) (some n) (b0::suite) _]=>if okN x=true/\c.names.lookup x=some .globalImplicit/\c.clss.contains x=true/\c.free=true/\c.top=true then
   (match vn c n with
   | some i=>wC (fun y=>c.tc.lookup (y,x)) i (b c.Ex body) (b c.pq (b0::suite))
   | none=>a7) else a7
 | _=>a7
theorem HL {c:Ct} {k:Nat} (G:Good c k X) {b:Ct->List Stmt->GS} (hb:∀c X,Good c k X->∀s,ip X s (b c s)) (body:List Stmt) (hs:List ExceptHandler) (pos:Pos):JS X (.Try body hs [] [] pos) (HK c b body hs):=by
 unfold HK
 split
 ·rename_i x p n b0 suite q
  by_cases g:okN x=true/\c.names.lookup x=some .globalImplicit/\c.clss.contains x=true/\c.free=true/\c.top=true
  ·rw[if_pos g]
   obtain⟨g1,g3,g4,g5,g6⟩:=g
   have hg:Gl X x:=by
    show X.env.scope.names.lookup x=_
    rw[G.sc];exact g3
   obtain⟨D,q1,q2⟩:=G.cls x g4
   cases e1:vn c n with
   | none=>exact aO
   | some i=>
    obtain⟨e2,e3⟩:=AR G e1
    exact Gk (G.stk g6) (by rw[G.N];exact G.nd) e2 e3 (G.free g5).2 G.tab hg q1 q2.cls (cY g1) (fun pn E=>hb _ _ (G.body g5 pn E) _) fun a o u pn E nx=>hb _ _ (G.suite nx pn E) _
  ·rw[if_neg g];exact aO
 ·exact aO
def jI:Nat:=100000
def AU (c:Ct) (f:Expr->GE) (t:Expr->GT) (b:Ct->List Stmt->GS):Stmt->GS
 | .Return (some e) _=>bK (f e)
 | .Return none _=>bK (gC .aB)
 | .Expr e _=>if rn e=false then gg (f e) else a7
 | .If q x y _=>lI (t q) (b c x) (b c y)
 | .Assign ts v _=>HD c f v ts
 | .For (.Name x _) e body [] _=>if c.loop=true then(match slot c x with | some i=>HJ c f i (b c body) e | none=>a7) else a7
 | .For (.Tuple es _ _) e body [] _=>if c.loop=true/\isSet e=false then(match slots c es with | some is=>(if Ey c e=true then Er is (tN c f e) (b c body) else qr is (f e) (b c body)) | none=>a7) else a7
 | .While q body [] _=>if c.loop=true then jG jI (t q) (b c body) else a7
 | .Raise (some e) none _=>tP c f e
 | .Try body hs [] [] _=>HK c b body hs
 | .Pass _=>bI
 | _=>a7
theorem AV {c:Ct} {k:Nat} (G:Good c k X) {f:Expr->GE} {t:Expr->GT} {b:Ct->List Stmt->GS} (h:∀e,JE X e (f e)) (ha:∀e,HB X e (f e)) (ht:∀e,JT X e (t e)) (hb:∀c X,Good c k X->∀s,ip X s (b c s)) (s:Stmt):JS X s (AU c f t b s):=by
 unfold AU
 split
 ·exact Ge (h _)
 ·exact Cr
 ·rename_i e p
  by_cases g:rn e=false
  ·rw[if_pos g];exact Ci (h _) (jm g)
  ·rw[if_neg g];exact aO
 ·exact Kv (ht _) (hb c X G _) (hb c X G _)
 ·exact HE G h ha _ _ _
 ·rename_i x p e body q
  by_cases g:c.loop=true
  ·rw[if_pos g]
   cases e1:slot c x with
   | none=>exact aO
   | some i=>exact DB G g h e1 (hb c X G body) e _ _
  ·rw[if_neg g];exact aO
 ·rename_i es kk p e body q
  by_cases g:c.loop=true/\isSet e=false
  ·rw[if_pos g]
   cases e1:slots c es with
   | none=>exact aO
   | some is=>
    dsimp only
    by_cases ge:Ey c e=true
    ·rw[if_pos ge];exact C7 (by rw[G.N];exact G.nd) (G.loop g.1).2 (G.loop g.1).1 (jn G e1) (AK G h es kk p e) (hb c X G body) (eV g.2)
    ·rw[if_neg ge]
     exact Cy (by rw[G.N];exact G.nd) (G.loop g.1).2 (G.loop g.1).1 (jn G e1) (h e) (hb c X G body) (eV g.2)
  ·rw[if_neg g];exact aO
 ·rename_i q body p
  by_cases g:c.loop=true
  ·rw[if_pos g];exact zW jI (G.loop g).2 (ht _) (hb c X G body)
  ·rw[if_neg g];exact aO
 ·exact AS G h _ _
 ·exact HL G hb _ _ _
 ·exact Cg
 ·exact aO
end
def tQ (f:Stmt->GS):List Stmt->GS
 | []=>bI
 | [s]=>f s
 | s::s'::r=>aD (f s) (tQ f (s'::r))
theorem rp {X:Cx} {f:Stmt->GS} (h:∀s,JS X s (f s)):∀ss,ip X ss (tQ f ss)
 | []=>Ce
 | [s]=>Cf (h s)
 | s::s'::r=>yN (h s) (rp h (s'::r))
def bq:Nat->Ct->List Stmt->GS
 | 0,_=>fun _=>a7
 | n+1,c=>tQ (AU c (ir 40 c).1 (ir 40 c).2 (bq n))
theorem jo {k:Nat}:∀(n:Nat) (c:Ct) (X:Cx),Good c k X->∀ss:List Stmt,ip X ss (bq n c ss)
 | 0,_,_,_,_=>wj
 | n+1,c,X,G,ss=>rp (fun s=>AV G (bZ 40 k c X G).1 (AQ 40 c X G) (bZ 40 k c X G).2 (jo n) s) ss
structure DC (K:PySem.W.Frag) (mg:Str->Option UL) (q:Str) (P:UE):Prop where
 tab:fN K q=some P
 code:∃c o vs file tf flags tg OD text tt,PySem.W.tabIn K q=some (c,P)/\K.lookup c=some o/\o.cls= .type "code"/\o.data= .fields vs/\vs[11]? =some (.ref P)/\vs.getD 11 .none= .ref P/\vs.getD 18 .none= .str file tf/\
  vs.getD 7 .none= .int flags tg/\vs.getD 9 .none= .bool OD/\vs.getD 10 .none= .int text tt/\c≠P
 mem:q∈bH
 uniq:∀q',q'∈bH->fN K q'=some P->q'=q
theorem DC.at' {X:Cx} {q:Str} {P f:UE} {cdv:UL} (h:DC X.K X.mg q P) (M:zV X.K X.mg X.base) (hn:PySem.W.nsIn X.K UW q=some (some (.ref f))) (hc:yQ X.K f cdv) (e1:X.env.code=cdv) (e2:X.env.qual=q++".<locals>."):Es X q P:=by
 obtain⟨c,o,vs,file,tf,flags,tg,OD,text,tt,t,l,r⟩:=h.code
 refine⟨⟨c,?_,o,vs,file,tf,flags,tg,OD,text,tt,M.1.E1 _ _ l,r⟩,e2,h.tab,h.mem,h.uniq,M.2⟩
 ·obtain⟨of,lf,fd,d,cd⟩:=hc
  rw[e1,<-cd]
  unfold PySem.W.tabIn at t
  rw[hn] at t
  dsimp only at t
  rw[lf] at t
  obtain⟨oc,od,da,sl⟩:=of
  dsimp only at d
  subst d
  dsimp only at t
  cases q1:fd.code with
  | ref c2=>
   rw[q1] at t
   dsimp only at t
   split at t
   ·split at t
    ·cases t;rfl
    ·cases t
   ·cases t
  | _=>rw[q1] at t;cases t
structure AW (c:Ct) (k:Nat) (P:UJ) (w:UM) (K:PySem.W.Frag) (mg:Str->Option UL) (base:Heap):Prop where
 lam:∀p L,c.lam=some (p,L)->G9 P w K mg base k p 3 L
 Am:∀x F,c.Am.lookup x=some F->Qu P w K mg k c.lj x F
 Hq:∀x n F,c.fns.lookup x=some (n,F)->c.Ox.contains x=true->∀base,zV K mg base->iN P w K mg base c.lj x n F
 at':c.self∈bH->∃P,DC K mg c.self P
theorem AW.no {c:Ct} {k:Nat} {P:UJ} {w:UM} {K:PySem.W.Frag} {mg:Str->Option UL} {base:Heap} (h1:c.lam=none) (h2:c.Am=[]) (h3:c.Ox=[]) (h4:c.self=""):AW c k P w K mg base :=
 ⟨(fun p L e=>by rw[h1] at e;cases e),(fun x F e=>by rw[h2] at e;cases e),(fun x n F _ e=>by rw[h3] at e;cases e),(fun e=>by rw[h4] at e;exact absurd e (by decide))⟩
structure vo (c:Ct) (k:Nat) (P:UJ) (w:UM) (K:PySem.W.Frag) (mg:Str->Option UL) (base:Heap):Prop where
 cst:∀x w,c.consts.lookup x=some w->Ao K mg x w
 bl:∀x,c.bl.contains x=true->mg x=none
 fns:∀x n F,c.fns.lookup x=some (n,F)->iN P w K mg base k x n F
 tab:TabOk K c.tb c.tt c.tc
 cls:∀x,c.clss.contains x=true->∃C,mg x=some (.ref C)/\Cs K x C
 tH:∀x,c.tH.contains x=true->∃C,mg x=some (.ref C)/\ClsAt K x C
 xc:∀x kvs,c.xc.lookup x=some kvs->kq K w mg x kvs
 tI:∀x n F,c.tI.contains x=true->c.fns.lookup x=some (n,F)->qP P w K mg base k x n F
 x:AW c k P w K mg base
theorem aT {P:UJ} {w:UM} {K:PySem.W.Frag} {mg:Str->Option UL} {base:Heap} {h:Heap} {k:Nat} {c:Ct} {x:Str} {st:Stmt} {ps:List Str} {g:GS} (KX:K.In h) (NS:h.Ns UW mg) (D:bD K x st) (T:vo c k P w K mg base)
  (S:FnScope c.N ps (defScope st)) (hn:(defScope st).names=c.names) (hg:bq 30 c (defBody st)=g)
  (hb:∀(kV doc pm:UL) (an:Option UE) (cdv ct:UL) (us:List UL),us.length=ps.length->bindArgs (PySem.W.fnOf x x (defArgs st) (defBody st) (defScope st) .none kV doc pm an cdv ct) ⟨us,[]⟩=pure (ps.zip us)) (hM:c.self∈bH->zV K mg base/\c.self=x:=by exact fun z=>absurd (show("":Str)∈bH from z) (by decide)) :
  iN P w K mg base (k+1) x ps.length (dZ c.N.length g):=by
 obtain⟨f,fd,a,F⟩:=D
 refine⟨f,fd,ps,?_,PySem.W.mg_of KX NS a,F.kp,F.binds hb⟩
 subst hg
 refine Eg F S fun cdv OE A outer s H E hr=>?_
 refine jo (k:=k) 30 c _ ⟨rfl,hn,S.nd,vc hr,fun _=>⟨hr,rfl⟩,fun _=>⟨rfl,PassesOwn.leaving⟩,T.cst,T.bl,T.fns,fun _=>⟨rfl,rfl,rfl⟩,fun _ _=>rfl,S.kind,T.tab,T.cls,T.tH,T.xc,dF.of hr,T.tI,⟨T.x.lam,T.x.Am,T.x.Hq,fun _ z=>?_⟩,⟨_,_,_,rfl,rfl,rfl⟩,.inl hr.hd⟩ _
 obtain⟨P',L⟩:=T.x.at' z
 obtain⟨M,e⟩:=hM z
 exact⟨P',DC.at' L M (by rw[e];exact a) OE rfl (by rw[e];rfl)⟩
theorem AX {P:UJ} {w:UM} {K:PySem.W.Frag} {mg:Str->Option UL} {base:Heap} {h:Heap} {k:Nat} {c:Ct} {x:Str} {st:Stmt} {ps:List Str} {g:GS} (KX:K.In h) (NS:h.Ns UW mg) (D:bD K x st) (T:vo c k P w K mg base)
  (S:FnScope c.N ps (defScope st)) (hn:(defScope st).names=c.names) (hg:bq 30 c.un (defBody st)=g)
  (hb:∀(kV doc pm:UL) (an:Option UE) (cdv ct:UL) (us:List UL),us.length=ps.length->bindArgs (PySem.W.fnOf x x (defArgs st) (defBody st) (defScope st) .none kV doc pm an cdv ct) ⟨us,[]⟩=pure (ps.zip us)) (hs:c.self∉bH:=by exact(show("":Str)∉bH by decide)) :
  qP P w K mg base (k+1) x ps.length (dZ c.N.length g):=by
 obtain⟨f,fd,a,F⟩:=D
 refine⟨f,fd,ps,?_,PySem.W.mg_of KX NS a,F.kp,F.binds hb⟩
 subst hg
 refine Oj F S fun cdv A outer s H E hr hz=>?_
 exact jo (k:=k) 30 c.un (C6 P w K mg base c.N x (defScope st) f cdv A outer s H E) ⟨rfl,hn,S.nd,hr.Si,(fun z=>by cases z),(fun z=>by cases z),T.cst,T.bl,T.fns,fun _=>⟨rfl,rfl,rfl⟩,fun _ _=>rfl,S.kind,T.tab,T.cls,T.tH,T.xc,hr,T.tI,⟨T.x.lam,T.x.Am,T.x.Hq,fun _ z=>absurd z hs⟩,⟨_,_,_,rfl,rfl,rfl⟩,hz⟩ _
theorem DD {P:UJ} {w:UM} {K:PySem.W.Frag} {mg:Str->Option UL} {h:Heap} {k:Nat} {F:List Wv->Hs->Re Wv} {fa:UE} {st:Stmt} (KX:K.In h) (NS:h.Ns UW mg) (hmg:mg "law"=some (.ref fa)) (D:bD K "law" st)
  (hp:∀(kV doc pm:UL) (an:Option UE) (cdv ct:UL) (s:UK) (u:UL),BindsTo s (PySem.W.fnOf "law" "law" (defArgs st) (defBody st) (defScope st) .none kV doc pm an cdv ct) ⟨[u],[]⟩ [("script",u)])
  (FN:∀(f:UE) (fd:UH),DY K "law" "law" st f fd->∀base:Heap,K.In base->base.Ns UW mg->FnOk P w K mg base (CXJ P w) k f fd ["script"] (spW K 1 F)) :
  ∃fd:UH,(∀(s:UK) (u:UL),BindsTo s fd ⟨[u],[]⟩ [("script",u)])/\∀base:Heap,K.In base->base.Ns UW mg->FnOk P w K mg base (CXJ P w) k fa fd ["script"] (spW K 1 F):=by
 obtain⟨f,fd,a,Fu⟩:=D
 have e:=hmg.symm.trans (PySem.W.mg_of KX NS a)
 cases e
 refine⟨fd,fun s u=>?_,FN fa fd Fu⟩
 obtain⟨oc,od,kV,doc,pm,an,cdv,ct,osl,rfl,lk,hcd⟩:=Fu.ex
 exact hp kV doc pm an cdv ct s u
theorem HM {P:UJ} {w:UM} {K:PySem.W.Frag} {mg:Str->Option UL} {base:Heap} {k:Nat} {c:Ct} {x:Str} {st:Stmt} {ps:List Str} {g:GS} {f:UE} {fd:UH} (F:DY K x x st f fd) (T:vo c k P w K mg base)
  (S:FnScope c.N ps (defScope st)) (hn:(defScope st).names=c.names) (hg:bq 30 c (defBody st)=g) (hs:c.self∉bH:=by exact(show("":Str)∉bH by decide)):FnOk P w K mg base (CXJ P w) (k+1) f fd ps (spW K ps.length (dZ c.N.length g)):=by
 subst hg
 refine Eg F S fun cdv _ A outer s H E hr=>?_
 exact jo (k:=k) 30 c _ ⟨rfl,hn,S.nd,vc hr,fun _=>⟨hr,rfl⟩,fun _=>⟨rfl,PassesOwn.leaving⟩,T.cst,T.bl,T.fns,fun _=>⟨rfl,rfl,rfl⟩,fun _ _=>rfl,S.kind,T.tab,T.cls,T.tH,T.xc,dF.of hr,T.tI,⟨T.x.lam,T.x.Am,T.x.Hq,fun _ z=>absurd z hs⟩,⟨_,_,_,rfl,rfl,rfl⟩,.inl hr.hd⟩ _
end J
namespace J
open PySem PySem.Spec PyProof.Rows L2
def AllP {α:Type} (P:α->Prop):List α->Prop
 | []=>True
 | a::l=>P a/\AllP P l
theorem AllP.look {κ β:Type} [BEq κ] [LawfulBEq κ] {P:κ×β->Prop}:∀{l:List (κ×β)} {x:κ} {b:β},AllP P l->l.lookup x=some b->P (x,b)
 | [],_,_,_,h=>by cases h
 | (y,c)::l,x,b,a,h=>by
  rw[List.lookup_cons] at h
  cases e:x == y with
  | true=>
   rw[e] at h
   cases h
   have e':=eq_of_beq e
   subst e'
   exact a.1
  | false=>rw[e] at h;exact AllP.look a.2 h
theorem AllP.mem {P:Str->Prop}:∀{l:List Str} {x:Str},AllP P l->l.contains x=true->P x
 | [],_,_,h=>by cases h
 | y::l,x,a,h=>by
  rw[List.contains_cons,Bool.or_eq_true] at h
  rcases h with e | h
  ·have e':=eq_of_beq e
   subst e'
   exact a.1
  ·exact AllP.mem a.2 h
theorem jq {K:PySem.W.Frag} {c:PySem.Str} {C D:UE} (h:ClsAt K c C) (k:ClsAt K c D):C=D:=by
 unfold ClsAt at h k
 rw[h] at k
 cases k
 rfl
theorem HN {K:PySem.W.Frag} {tb:Tab} {tt:lM} {tc:Tab} (h:AllP (fun p=>∃C D,ClsAt K p.1.1 C/\ClsAt K p.1.2 D/\jA K C/\PySem.W.kitOne K (.ref C) (.ref D)=some p.2) tb)
  (g:AllP (fun p=>∃C,ClsAt K p.1.1 C/\jA K C/\PySem.W.kitOne K (.ref C) (.type p.1.2)=some p.2) tt)
  (f:AllP (fun p=>∃C D,ClsAt K p.1.1 C/\ClsAt K p.1.2 D/\PySem.W.excIn K C wu wx=true/\PySem.W.excIn K D wu wx=true/\PySem.W.mroIn K C (.ref D)=some p.2) tc):TabOk K tb tt tc :=
 ⟨fun c d b C D e hC hD=>by
  obtain⟨C',D',q1,q2,r⟩:=AllP.look h e
  cases jq hC q1
  cases jq hD q2
  exact r,fun c d b C D e hC hD=>by
  obtain⟨C',D',q1,q2,r⟩:=AllP.look f e
  cases jq hC q1
  cases jq hD q2
  exact r,fun c T b C e hC=>by
  obtain⟨C',q1,r⟩:=AllP.look g e
  cases jq hC q1
  exact r⟩
theorem aE {c:Ct} {k:Nat} {P:UJ} {w:UM} {K:PySem.W.Frag} {mg:Str->Option UL} {base:Heap} (hc:AllP (fun p=>Ao K mg p.1 p.2) c.consts) (hb:AllP (fun x=>mg x=none) c.bl) (hf:AllP (fun p=>iN P w K mg base k p.1 p.2.1 p.2.2) c.fns)
  (ht:TabOk K c.tb c.tt c.tc) (hk:AllP (fun x=>∃C,mg x=some (.ref C)/\Cs K x C) c.clss) (hn:AllP (fun x=>∃C,mg x=some (.ref C)/\ClsAt K x C) c.tH) (hd:AllP (fun p=>kq K w mg p.1 p.2) c.xc)
  (hu:AllP (fun x=>∀n F,c.fns.lookup x=some (n,F)->qP P w K mg base k x n F) c.tI:=by exact trivial) (hx:AW c k P w K mg base:=by exact AW.no rfl rfl rfl rfl):vo c k P w K mg base :=
 ⟨fun _ _ h=>hc.look h,fun _ h=>hb.mem h,fun x n F h=>hf.look (b:=(n,F)) h,ht,fun _ h=>hk.mem h,fun _ h=>hn.mem h,fun x kvs h=>hd.look (b:=kvs) h,fun x n F h k=>hu.mem h n F k,hx⟩
end J
namespace J
open PySem PySem.Spec PyProof.Rows L2
end J
namespace J
open PySem PySem.Spec PyProof.Rows L2
def Rs.sq (r:Rs) (h:GS):Rs:=match r with
 | .nx ρ st=>h ρ st
 | r=>r
section
variable {α β:Type} {ρ ρ':aS} {st:Hs} {h g Uy Uz:GS} {ga gb gc:GE} {gt gu:GT} {w:Wv} {c:PySem.Str} {f:α->Hs->Re β} {k:α->Hs->Rs} {a:α} {i:Nat}
@[simp] theorem br:(Rs.nx ρ st).sq h=h ρ st:=rfl
@[simp] theorem Qx:(Rs.rt w st).sq h= .rt w st:=rfl
@[simp] theorem Qy:(Rs.bk ρ st).sq h= .bk ρ st:=rfl
@[simp] theorem Qz:(Rs.ct ρ st).sq h= .ct ρ st:=rfl
@[simp] theorem OF:(Rs.err c ρ st).sq h= .err c ρ st:=rfl
@[simp] theorem OG:Rs.bad.sq h= .bad:=rfl
@[simp] theorem pA:(Re.ok a st).bind f=f a st:=rfl
@[simp] theorem Lg:(Re.err c st).bind f= .err c st:=rfl
@[simp] theorem Lh:(Re.bad:Re α).bind f= .bad:=rfl
@[simp] theorem HP:(Re.ok a st).aM ρ k=k a st:=rfl
@[simp] theorem Mt:(Re.err c st:Re α).aM ρ k= .err c ρ st:=rfl
@[simp] theorem OH:(Re.ok a st).iM= .ok a st:=rfl
@[simp] theorem Mu:(Re.bad:Re α).iM= .bad:=rfl
@[simp] theorem Mv:(Re.bad:Re α).aM ρ k= .bad:=rfl
@[simp] theorem EB:aD g h ρ st=(g ρ st).sq h:=by unfold aD Rs.sq;cases g ρ st<;>rfl
@[simp] theorem e_next:bI ρ st= .nx ρ st:=rfl
@[simp] theorem EC:bK ga ρ st=(ga ρ st).aM ρ fun w st'=> .rt w st':=rfl
@[simp] theorem e_expr:gg ga ρ st=(ga ρ st).aM ρ fun _ st'=> .nx ρ st':=rfl
@[simp] theorem QA:aI i ga ρ st=(ga ρ st).aM ρ fun w st'=> .nx (ρ.set i (some w)) st':=rfl
def OI (ga gb:GS) (ρ:aS):Bool->Hs->Rs:=fun b st'=>if b=true then ga ρ st' else gb ρ st'
@[simp] theorem Li:OI g h ρ true st=g ρ st:=rfl
@[simp] theorem QB:OI g h ρ false st=h ρ st:=rfl
@[simp] theorem OJ:lI gt g h ρ st=(gt ρ st).aM ρ (OI g h ρ):=rfl
def QC (o:Option (Option Wv)) (st:Hs):Re Wv:=match o with
 | some (some w)=> .ok w st
 | _=> .bad
@[simp] theorem QD:QC (some (some w)) st= .ok w st:=rfl
@[simp] theorem Lj:ag i ρ st=QC ρ[i]? st:=rfl
@[simp] theorem e_c:gC w ρ st= .ok w st:=rfl
def kB (op:dD) (gb:GE) (ρ:aS):Wv->Hs->Re Wv:=fun x st1=>(gb ρ st1).bind fun y st2=>(op x y st2).iM
@[simp] theorem Sv {op:dD} {x:Wv}:kB op gb ρ x st=(gb ρ st).bind fun y st2=>(op x y st2).iM:=rfl
@[simp] theorem QE {op:dD}:aj op ga gb ρ st=(ga ρ st).bind (kB op gb ρ):=rfl
@[simp] theorem QF:bp ga ρ st=(ga ρ st).bind D7:=rfl
@[simp] theorem QG {b:Bool}:D7 (.bl b) st= .ok b st:=rfl
@[simp] theorem QH:c9 ga ρ st=(ga ρ st).bind yR:=rfl
@[simp] theorem OK {b:Bool}:yR (.bl b) st= .ok b st:=rfl
@[simp] theorem QI:qd gt ρ st=(gt ρ st).bind fun b st1=> .ok (!b) st1:=rfl
def HQ (gb:GT) (ρ:aS):Bool->Hs->Re Bool:=fun b st1=>if b=true then gb ρ st1 else .ok false st1
@[simp] theorem OL:HQ gu ρ true st=gu ρ st:=rfl
@[simp] theorem OM:HQ gu ρ false st= .ok false st:=rfl
@[simp] theorem QJ:yC gt gu ρ st=(gt ρ st).bind (HQ gu ρ):=rfl
def ON (gb:GT) (ρ:aS):Bool->Hs->Re Bool:=fun b st1=>if b=true then .ok true st1 else gb ρ st1
@[simp] theorem QK:ON gu ρ true st= .ok true st:=rfl
@[simp] theorem QL:ON gu ρ false st=gu ρ st:=rfl
@[simp] theorem Sw:F0 gt gu ρ st=(gt ρ st).bind (ON gu ρ):=rfl
def AY (gb:GE) (ρ:aS):Wv->Hs->Re Wv:=fun w st1=>match w with
 | .bl true=>gb ρ st1
 | .bl false=> .ok (.bl false) st1
 | _=> .bad
@[simp] theorem pB:AY gb ρ (.bl true) st=gb ρ st:=rfl
@[simp] theorem Mw:AY gb ρ (.bl false) st= .ok (.bl false) st:=rfl
@[simp] theorem tR:jV ga gb ρ st=(ga ρ st).bind (AY gb ρ):=rfl
def Lk:Wv->Hs->Re Wv:=fun w st1=>match w with
 | .bl b=> .ok (.bl (!b)) st1
 | _=> .bad
@[simp] theorem Mx {b:Bool}:Lk (.bl b) st= .ok (.bl (!b)) st:=rfl
def HR (ga gb:GE) (ρ:aS):Bool->Hs->Re Wv:=fun b st1=>if b=true then ga ρ st1 else gb ρ st1
@[simp] theorem OO:HR ga gb ρ true st=ga ρ st:=rfl
@[simp] theorem OP:HR ga gb ρ false st=gb ρ st:=rfl
@[simp] theorem QM:lF gt ga gb ρ st=(gt ρ st).bind (HR ga gb ρ):=rfl
@[simp] theorem Ll:ai ρ st= .ok [] st:=rfl
def ED (gr:GA) (ρ:aS):Wv->Hs->Re (List Wv):=fun x st1=>(gr ρ st1).bind fun xs st2=> .ok (x::xs) st2
@[simp] theorem Mz {gr:GA} {x:Wv}:ED gr ρ x st=(gr ρ st).bind fun xs st2=> .ok (x::xs) st2:=rfl
@[simp] theorem HS {gr:GA}:aa ga gr ρ st=(ga ρ st).bind (ED gr ρ):=rfl
def DE:List Wv->Hs->Re Wv:=fun ws st1=>if ws.length<=lim then .ok (.tup ws) st1 else .bad
theorem AZ {ws:List Wv} (hl:ws.length<=lim):DE ws st= .ok (.tup ws) st:=if_pos hl
@[simp] theorem Ln {gr:GA}:dU gr ρ st=(gr ρ st).bind DE:=rfl
def ig:List Wv->Hs->Re Wv:=fun ws st1=>if ws.length<=lim then .ok (.ref st1.length) (st1++[.lst ws]) else .bad
theorem eD {ws:List Wv} (hl:ws.length<=lim):ig ws st= .ok (.ref st.length) (st++[.lst ws]):=if_pos hl
@[simp] theorem QN {gr:GA}:bg gr ρ st=(gr ρ st).bind ig:=rfl
section
variable {x x0 x1 x2 x3 x4 x5 x6 x7:Wv}
@[simp] theorem OQ:DE [x0,x1] st= .ok (.tup [x0,x1]) st:=AZ (by simp[lim])
@[simp] theorem OR:DE [x0,x1,x2,x3,x4] st= .ok (.tup [x0,x1,x2,x3,x4]) st:=AZ (by simp[lim])
@[simp] theorem HU:ig [] st= .ok (.ref st.length) (st++[.lst []]):=eD (by simp[lim])
@[simp] theorem tS:ig [x0] st= .ok (.ref st.length) (st++[.lst [x0]]):=eD (by simp[lim])
@[simp] theorem tT:ig [x0,x1] st= .ok (.ref st.length) (st++[.lst [x0,x1]]):=eD (by simp[lim])
@[simp] theorem OS:ig [x0,x1,x2,x3] st= .ok (.ref st.length) (st++[.lst [x0,x1,x2,x3]]):=eD (by simp[lim])
@[simp] theorem OT:ig [x0,x1,x2,x3,x4] st= .ok (.ref st.length) (st++[.lst [x0,x1,x2,x3,x4]]):=eD (by simp[lim])
end
def oo (n:Nat) (F:List Wv->Hs->Re Wv):List Wv->Hs->Re Wv:=fun ws st1=>if ws.length=n then F ws st1 else .bad
section
variable {F:List Wv->Hs->Re Wv} {x0 x1 x2 x3:Wv} {gr:GA}
@[simp] theorem MA:oo 1 F [x0] st=F [x0] st:=rfl
@[simp] theorem MB:oo 2 F [x0,x1] st=F [x0,x1] st:=rfl
@[simp] theorem MC:oo 3 F [x0,x1,x2] st=F [x0,x1,x2] st:=rfl
@[simp] theorem MD:oo 4 F [x0,x1,x2,x3] st=F [x0,x1,x2,x3] st:=rfl
@[simp] theorem HV {n:Nat}:aA n F gr ρ st=(gr ρ st).bind (oo n F):=rfl
@[simp] theorem DF {op:List Wv->Hs->Re Wv}:au op gr ρ st=(gr ρ st).bind fun ws st1=>(op ws st1).iM:=rfl
end
@[simp] theorem Sx {op:Wv->Hs->Re Wv}:J_ op ga ρ st=(ga ρ st).bind op:=rfl
@[simp] theorem QO {i:Int}:qc (.int i) st= .ok (.int (-i)) st:=rfl
@[simp] theorem QP {i j:Int}:dt (.int i) (.int j) st= .ok (.int (i+j)) st:=rfl
@[simp] theorem QQ {i j:Int}:sA (.int i) (.int j) st= .ok (.int (i - j)) st:=rfl
@[simp] theorem Sy {i j:Int}:oLt (.int i) (.int j) st= .ok (.bl (decide (i < j))) st:=rfl
@[simp] theorem Sz {i j:Int}:oLe (.int i) (.int j) st= .ok (.bl (decide (i<=j))) st:=rfl
@[simp] theorem SD {i j:Int}:L7 (.int i) (.int j) st= .ok (.bl (decide (j < i))) st:=rfl
@[simp] theorem SF {i j:Int}:ND (.int i) (.int j) st= .ok (.bl (decide (j<=i))) st:=rfl
@[simp] theorem SG {i j:Int}:oEq (.int i) (.int j) st= .ok (.bl (i == j)) st:=rfl
@[simp] theorem SH {i j:Int}:xB (.int i) (.int j) st= .ok (.bl (!(i == j))) st:=rfl
@[simp] theorem SI {i j:PySem.Str}:oEq (.str i) (.str j) st= .ok (.bl (i == j)) st:=rfl
@[simp] theorem SJ {i j:PySem.Str}:xB (.str i) (.str j) st= .ok (.bl (!(i == j))) st:=rfl
@[simp] theorem SK {i j:Bool}:oEq (.bl i) (.bl j) st= .ok (.bl (i == j)) st:=by cases i<;>cases j<;>rfl
@[simp] theorem SM {i j:Bool}:xB (.bl i) (.bl j) st= .ok (.bl (!(i == j))) st:=by cases i<;>cases j<;>rfl
theorem jJ {i j:Int} (h:j≠0/\j.natAbs.log2 < 9000):bW (.int i) (.int j) st= .ok (.int (i.fdiv j)) st:=by show(if _ then _ else _)=_;rw[if_pos h]
theorem j' {i j:Int} (h:j≠0):oMod (.int i) (.int j) st= .ok (.int (i.fmod j)) st:=by show(if _ then _ else _)=_;rw[if_pos h]
theorem EE {i j:Int} (h:IntMulOk i j):bE (.int i) (.int j) st= .ok (.int (i * j)) st:=by show(if _ then _ else _)=_;rw[if_pos h]
theorem vp {i j:Int} (h1:-(2 ^ 64) < i) (h2:i < 2 ^ 64):bE (.int i) (.int j) st= .ok (.int (i * j)) st:=EE (IntMulOk.of_left (intBits_le_64 h1 h2))
theorem mul_r {i j:Int} (h1:-(2 ^ 64) < j) (h2:j < 2 ^ 64):bE (.int i) (.int j) st= .ok (.int (i * j)) st:=EE (IntMulOk.of_right (intBits_le_64 h1 h2))
theorem Lp {i j:Int} (h:0<=j/\j<=1000000/\i.natAbs < 2 ^ 64):wc (.int i) (.int j) st= .ok (.int (i ^ j.toNat)) st:=by show(if _ then _ else _)=_;rw[if_pos h]
theorem kA {l:Nat} {i:Int} {ws:List Wv} {v:Wv} (h:af st l=some ws) (h2:jS ws i=some v):cE (.ref l) (.int i) st= .ok v st:=by
 show(match af st l with | some ws=>(match jS ws i with | some w=>Re.ok w st | none=> .bad) | none=> .bad)=_
 rw[h]
 dsimp only
 rw[h2]
theorem add_l {l k:Nat} {xs ys:List Wv} (h1:af st l=some xs) (h2:af st k=some ys) (hl:xs.length+ys.length<=lim):dt (.ref l) (.ref k) st= .ok (.ref st.length) (st++[.lst (xs++ys)]):=by
 show(match af st l,af st k with | some i,some j=>if i.length+j.length<=lim then Re.ok (Wv.ref st.length) (st++[Ob.lst (i++j)]) else .bad | _,_=> .bad)=_
 rw[h1,h2]
 exact if_pos hl
theorem tU {i:Int} {ws:List Wv} {v:Wv} (h2:jS ws i=some v):cE (.tup ws) (.int i) st= .ok v st:=by
 show(match jS ws i with | some w=>Re.ok w st | none=> .bad)=_
 rw[h2]
end
theorem mh {n:Nat} {g:GS} {ws:List Wv} {st st':Hs} {w:Wv} (h:g (ws.map some++List.replicate (n - ws.length) none) st= .rt w st'):dZ n g ws st= .ok w st':=by unfold dZ;rw[h]
theorem A0 {n:Nat} {g:GS} {ws:List Wv} {st st':Hs} {ρ:aS} {c:PySem.Str} (h:g (ws.map some++List.replicate (n - ws.length) none) st= .err c ρ st'):dZ n g ws st= .err c st':=by unfold dZ;rw[h]
section
variable {ρ:aS} {st:Hs} {ga gb gc:GE} {gl gh:GO}
def QR (gl gh:GO) (ρ:aS):Wv->Hs->Re Wv:=fun x st1=>(gl ρ st1).bind fun lo st2=>(gh ρ st2).bind fun hi st3=>zI x lo hi st3
@[simp] theorem ME:hJ ga gl gh ρ st=(ga ρ st).bind (QR gl gh ρ):=rfl
@[simp] theorem QS {x:Wv}:QR gl gh ρ x st=(gl ρ st).bind fun lo st2=>(gh ρ st2).bind fun hi st3=>zI x lo hi st3:=rfl
@[simp] theorem Lq:kJ ρ st= .ok none st:=rfl
def EF:Wv->Hs->Re (Option Int):=fun w st1=>match w with
 | .int i=> .ok (some i) st1
 | _=> .bad
@[simp] theorem OU:nJ ga ρ st=(ga ρ st).bind EF:=rfl
@[simp] theorem MF {i:Int}:EF (.int i) st= .ok (some i) st:=rfl
theorem OV {l:Nat} {ws:List Wv} {lo hi:Option Int} (h:af st l=some ws):zI (.ref l) lo hi st= .ok (.ref st.length) (st++[.lst (lH ws lo hi)]):=by
 show(match af st l with | some ws=>Re.ok (Wv.ref st.length) (st++[Ob.lst (lH ws lo hi)]) | none=> .bad)=_
 rw[h]
theorem kc {l:Nat} {ws:List Wv} (h:af st l=some ws):ff [.ref l] st= .ok (.int ws.length) st:=by
 show(match af st l with | some ws=>Re.ok (Wv.int ws.length) st | none=> .bad)=_
 rw[h]
def A3 (op':dD) (gc:GE) (y:Wv) (ρ:aS):Wv->Hs->Re Wv:=fun z st3=>match z with
 | .bl true=>(gc ρ st3).bind fun u uy=>(op' y u uy).iM
 | .bl false=> .ok (.bl false) st3
 | _=> .bad
@[simp] theorem OW {op':dD} {y:Wv}:A3 op' gc y ρ (.bl true) st=(gc ρ st).bind fun u uy=>(op' y u uy).iM:=rfl
@[simp] theorem OX {op':dD} {y:Wv}:A3 op' gc y ρ (.bl false) st= .ok (.bl false) st:=rfl
@[simp] theorem MG {op op':dD}:iC op op' ga gb gc ρ st=(ga ρ st).bind fun x st1=>(gb ρ st1).bind fun y st2=>(op x y st2).iM.bind (A3 op' gc y ρ):=rfl
def Lr (op' xp:dD) (gc gd:GE) (y:Wv) (ρ:aS):Wv->Hs->Re Wv:=fun z st3=>match z with
 | .bl true=>(gc ρ st3).bind fun u uy=>(op' y u uy).iM.bind (A3 xp gd u ρ)
 | .bl false=> .ok (.bl false) st3
 | _=> .bad
@[simp] theorem OY {op' xp:dD} {gd:GE} {y:Wv}:Lr op' xp gc gd y ρ (.bl true) st=(gc ρ st).bind fun u uy=>(op' y u uy).iM.bind (A3 xp gd u ρ):=rfl
@[simp] theorem OZ {op' xp:dD} {gd:GE} {y:Wv}:Lr op' xp gc gd y ρ (.bl false) st= .ok (.bl false) st:=rfl
def xq (cat:PySem.Str->Option Bool) (i:Nat) (gs:GS) (r:Rs):Rs:=match r with
 | .err c ρ' st'=>(match cat c with
  | some true=>(match gs (ρ'.set i (some (.eR c))) st' with
   | .nx ρ2 st2=> .nx (ρ2.set i none) st2
   | .rt w st2=> .rt w st2
   | _=> .bad)
  | _=> .bad)
 | r=>r
@[simp] theorem QT {cat:PySem.Str->Option Bool} {i:Nat} {g gs:GS}:wC cat i g gs ρ st=xq cat i gs (g ρ st):=by
 unfold wC xq
 cases g ρ st<;>rfl
@[simp] theorem MH {cat:PySem.Str->Option Bool} {i:Nat} {gs:GS}:xq cat i gs (.nx ρ st)= .nx ρ st:=rfl
@[simp] theorem MI {cat:PySem.Str->Option Bool} {i:Nat} {gs:GS} {w:Wv}:xq cat i gs (.rt w st)= .rt w st:=rfl
def EG (cat:PySem.Str->Option Bool) (gs:GS) (r:Rs):Rs:=match r with
 | .err c ρ' st'=>(match cat c with
  | some true=>(match gs ρ' st' with
   | .nx ρ2 st2=> .nx ρ2 st2
   | .rt w st2=> .rt w st2
   | _=> .bad)
  | _=> .bad)
 | r=>r
@[simp] theorem Ls {cat:PySem.Str->Option Bool} {gs:GS}:EG cat gs (.nx ρ st)= .nx ρ st:=rfl
@[simp] theorem Lu {cat:PySem.Str->Option Bool} {gs:GS} {w:Wv}:EG cat gs (.rt w st)= .rt w st:=rfl
theorem A4 {cat:PySem.Str->Option Bool} {i:Nat} {gs:GS} {c:PySem.Str} {ρ2:aS} {st2:Hs} (h:cat c=some true) (k:gs (ρ.set i (some (.eR c))) st= .nx ρ2 st2):xq cat i gs (.err c ρ st)= .nx (ρ2.set i none) st2:=by
 unfold xq
 simp only[h,k]
end
theorem aw {st:Hs} {ws:List Wv}:af (st++[.lst ws]) st.length=some ws:=by unfold af;simp
theorem jK {st:Hs} {o:Ob} {l:Nat} {ws:List Wv} (h:af st l=some ws):af (st++[o]) l=some ws:=by
 have hl:l < st.length:=by
  unfold af at h
  cases e:st[l]? with
  | none=>rw[e] at h;cases h
  | some o=>exact(List.getElem?_eq_some_iff.mp e).1
 unfold af at h ⊢
 rw[List.getElem?_append_left hl]
 exact h
theorem b_ {st:Hs} {l:Nat} {ws:List Wv} (h:af st l=some ws):l < st.length:=by
 unfold af at h
 cases e:st[l]? with
 | none=>rw[e] at h;cases h
 | some o=>exact(List.getElem?_eq_some_iff.mp e).1
def a8 (l:Nat) (st st':Hs):Prop:=st.length<=st'.length/\∀k,k < st.length->k≠l->st'[k]? =st[k]?
theorem a8.refl {l:Nat} {st:Hs}:a8 l st st:=⟨Nat.le_refl _,fun _ _ _=>rfl⟩
theorem a8.trans {l:Nat} {a b c:Hs} (h:a8 l a b) (k:a8 l b c):a8 l a c:=⟨Nat.le_trans h.1 k.1,fun j h1 h2=>(k.2 j (Nat.lt_of_lt_of_le h1 h.1) h2).trans (h.2 j h1 h2)⟩
theorem a8.push {l:Nat} {st:Hs} {o:Ob}:a8 l st (st++[o]):=⟨by simp,fun k h _=>List.getElem?_append_left h⟩
theorem a8.set {l:Nat} {st:Hs} {o:Ob}:a8 l st (st.set l o):=⟨by simp,fun k _ h=>List.getElem?_set_ne (fun z=>h z.symm)⟩
theorem a8.lst {l:Nat} {st st':Hs} (k:a8 l st st') {j:Nat} {ws:List Wv} (h:af st j=some ws) (hj:j≠l):af st' j=some ws:=by
 unfold af at h ⊢
 rw[k.2 j (b_ (st:=st) (ws:=ws) (by unfold af;exact h)) hj]
 exact h
@[simp] theorem MJ {i:Nat} {ga:GA} {gb:GS} {ρ:aS} {st:Hs}:lL i ga gb ρ st=(ga ρ st).aM ρ fun ws st1=>match ws with
 | [.int j]=>if i6 j then fh i gb (bY 0 j.toNat) ρ st1 else .bad
 | _=> .bad:=rfl
@[simp] theorem MK {c:PySem.Str} {ga:GA} {ρ:aS} {st:Hs}:oS c ga ρ st=(ga ρ st).aM ρ fun ws st1=>if ws.length<=lim then .err c ρ st1 else .bad:=rfl
def EH (mt:Wv->Wv->Hs->Re Wv) (ga:GE) (ρ:aS):Wv->Hs->Re Wv:=fun o st1=>match o with
 | .ref l=>(match af st1 l with
  | some _=>(ga ρ st1).bind fun v st2=>(mt o v st2).iM
  | none=> .bad)
 | _=> .bad
@[simp] theorem O0 {mt:Wv->Wv->Hs->Re Wv} {go ga:GE} {ρ:aS} {st:Hs}:jX mt go ga ρ st=(go ρ st).bind (EH mt ga ρ):=rfl
theorem kQ {mt:Wv->Wv->Hs->Re Wv} {ga:GE} {ρ:aS} {st:Hs} {l:Nat} {ws:List Wv} (h:af st l=some ws):EH mt ga ρ (.ref l) st=(ga ρ st).bind fun v st2=>(mt (.ref l) v st2).iM:=by
 show(match af st l with | some _=>(ga ρ st).bind fun v st2=>(mt (.ref l) v st2).iM | none=> .bad)=_
 rw[h]
theorem A5 {st:Hs} {l:Nat} {v:Wv} {ws:List Wv} (h:st[l]? =some (.lst ws)) (hl:ws.length < lim):kj (.ref l) v st= .ok .aB (st.set l (.lst (ws++[v]))):=by
 show(match st[l]? with | some (.lst ws)=>if ws.length < lim then Re.ok Wv.aB (st.set l (.lst (ws++[v]))) else .bad | _=> .bad)=_
 rw[h]
 exact if_pos hl
def kFor (i:Nat) (gb:GS) (ρ:aS):Wv->Hs->Rs:=fun w st1=>match w with
 | .ref l=>(match af st1 l with | some ws=>forL i gb l ws ws ρ st1 | none=> .bad)
 | .tup ws=>fh i gb ws ρ st1
 | .lx ws=>fh i gb ws ρ st1
 | _=> .bad
@[simp] theorem QU {i:Nat} {ga:GE} {gb:GS} {ρ:aS} {st:Hs}:wq i ga gb ρ st=(ga ρ st).aM ρ (kFor i gb ρ):=rfl
theorem tV {i:Nat} {gb:GS} {ρ:aS} {st:Hs} {l:Nat} {ws:List Wv} (h:af st l=some ws):kFor i gb ρ (.ref l) st=forL i gb l ws ws ρ st:=by
 show(match af st l with | some ws=>forL i gb l ws ws ρ st | none=> .bad)=_
 rw[h]
@[simp] theorem O1 {i:Nat} {gb:GS} {ρ:aS} {st:Hs} {ws:List Wv}:kFor i gb ρ (.tup ws) st=fh i gb ws ρ st:=rfl
theorem rA {i:Nat} {gb:GS} (P:aS->Hs->Prop):∀(ws:List Wv) (ρ:aS) (st:Hs),P ρ st->
  (∀w∈ws,∀ρ st,P ρ st->∃ρ' st',gb (ρ.set i (some w)) st= .nx ρ' st'/\P ρ' st')->∃ρ' st',fh i gb ws ρ st= .nx ρ' st'/\P ρ' st'
 | [],ρ,st,h,_=>⟨ρ,st,rfl,h⟩
 | w::r,ρ,st,h,step=>by
  obtain⟨ρ1,st1,e1,p1⟩:=step w List.mem_cons_self ρ st h
  obtain⟨ρ2,st2,e2,p2⟩:=rA P r ρ1 st1 p1 fun w hw=>step w (List.mem_cons_of_mem _ hw)
  refine⟨ρ2,st2,?_,p2⟩
  unfold fh
  rw[e1]
  exact e2
@[simp] theorem O2 {i:Int} {st:Hs}:KL [.int i] st=KI [.int i] st:=rfl
@[simp] theorem O3 {cs:d_} {gi:GI} {gt:GT} {ge:GE} {ρ:aS} {st:Hs}:iq cs gi gt ge ρ st=(gi ρ st).bind (df cs gt ge ρ):=rfl
@[simp] theorem ML {g:GE} {ρ:aS} {st:Hs}:fP g ρ st=(g ρ st).bind qK:=rfl
@[simp] theorem O4 {g:GA} {ρ:aS} {st:Hs}:zl g ρ st=(g ρ st).bind qx:=rfl
@[simp] theorem O5 {g:GA} {ρ:aS} {st:Hs}:N0 g ρ st=(g ρ st).bind Ej:=rfl
theorem HW {j:Int} {st:Hs} (h:i6 j):qx [.int j] st= .ok (none,bY 0 j.toNat) st:=if_pos h
theorem gJ {l:Nat} {st:Hs} {ws:List Wv} (h:af st l=some ws):qK (.ref l) st= .ok (some l,ws) st:=by
 show(match af st l with | some ws=>Re.ok (some l,ws) st | none=> .bad)=_
 rw[h]
@[simp] theorem O6 {st:Hs} {z:PySem.Str}:qK (.str z) st= .ok (none,fj z) st:=rfl
@[simp] theorem O7 {st:Hs} {ws:List Wv}:qK (.tup ws) st= .ok (none,ws) st:=rfl
theorem DG {st:Hs} {acc:List Wv} {v:Wv} (h:acc.length < lim):kj (.ref st.length) v (st++[.lst acc])= .ok .aB (st++[.lst (acc++[v])]):=by
 rw[A5 (ws:=acc) (by simp) h]
 congr 1
 simp
theorem iH {w:Wk} {gt:Wv->Hs->Re Bool} {ge:Wv->Hs->Re Wv} {st:Hs} {t:Wv->Bool} {f:Wv->Wv} (ck:iE w st):∀(ws acc:List Wv),(∀v∈ws,∀acc,gt v (st++[.lst acc])= .ok (t v) (st++[.lst acc]))->
  (∀v∈ws,t v=true->∀acc,ge v (st++[.lst acc])= .ok (f v) (st++[.lst acc]))->acc.length+ws.length < lim->i_ (iE w) gt ge st.length ws (st++[.lst acc])=some (st++[.lst (acc++(ws.filter t).map f)])
 | [],acc,_,_,_=>by simp[i_]
 | v::r,acc,h1,h2,hl=>by
  have hl':acc.length+(r.length+1) < lim:=hl
  unfold i_
  rw[h1 v List.mem_cons_self acc]
  cases e:t v with
  | false=>
   dsimp only
   rw[if_pos (lQ ck),iH ck r acc (fun v hv=>h1 v (List.mem_cons_of_mem _ hv)) (fun v hv=>h2 v (List.mem_cons_of_mem _ hv)) (by omega),List.filter_cons_of_neg (by simp[e])]
  | true=>
   dsimp only
   rw[h2 v List.mem_cons_self e acc]
   dsimp only
   rw[DG (by omega)]
   dsimp only
   rw[if_pos (lQ ck),iH ck r (acc++[f v]) (fun v hv=>h1 v (List.mem_cons_of_mem _ hv)) (fun v hv=>h2 v (List.mem_cons_of_mem _ hv)) (by simp;omega),List.filter_cons_of_pos e]
   simp
theorem hZ {cs:d_} {gt:GT} {ge:GE} {ρ:aS} {w:Wk} {st:Hs} {t:Wv->Bool} {f:Wv->Wv} (ck:iE w st) (h1:∀v∈w.2,∀acc,gt (some v::ja cs ρ) (st++[.lst acc])= .ok (t v) (st++[.lst acc]))
  (h2:∀v∈w.2,t v=true->∀acc,ge (some v::ja cs ρ) (st++[.lst acc])= .ok (f v) (st++[.lst acc])) (hl:w.2.length < lim):df cs gt ge ρ w st= .ok (.ref st.length) (st++[.lst ((w.2.filter t).map f)]):=by
 unfold df
 rw[iH ck w.2 [] h1 h2 (by simpa using hl)]
 simp
end J
namespace J
open PySem PySem.Spec PyProof.Rows L2
theorem A6 {α:Type} {ws:List α} {d:Int} (h0:0<=d) (h1:d < ws.length):∃v,L2.jS ws d=some v/\v∈ws:=by
 have hk:d.toNat < ws.length:=by omega
 have ek:d=((d.toNat:Nat):Int):=by omega
 refine⟨ws[d.toNat],?_,List.getElem_mem hk⟩
 have q:=L2.iU (List.getElem?_eq_getElem hk)
 rw[<-ek] at q
 exact q
theorem eX {st:Hs} {l:Nat} {o o':Ob} (h:st[l]? =some o):(st.set l o')[l]? =some o':=List.getElem?_set_self (List.getElem?_eq_some_iff.mp h).1
theorem gK {st:Hs} {l:Nat} {o o':Ob} (h:st[l]? =some o):(st++[o'])[l]? =some o:=by rw[List.getElem?_append_left (List.getElem?_eq_some_iff.mp h).1];exact h
theorem cq {st:Hs} {l:Nat} {ws:List Wv} (h:st[l]? =some (.lst ws)):af st l=some ws:=by unfold af;rw[h]
theorem iI {st:Hs} {l:Nat} {o:Ob} (h:st[l]? =some o):l < st.length:=(List.getElem?_eq_some_iff.mp h).1
theorem cH {st:Hs} {o:Ob}:(st++[o])[st.length]? =some o:=by simp
@[simp] theorem QV {i:Int} {st:Hs}:NG [.int i] st= .ok (.int (if i < 0 then -i else i)) st:=rfl
@[simp] theorem A7 {l:Nat} {st:Hs} {ns:List Int} (h:af st l=some (ns.map Wv.int)):sS [.ref l] st= .ok (.int ns.sum) st:=by
 show(match af st l with | some ws=>(match intsOf ws with | some ns=>Re.ok (Wv.int ns.sum) st | none=> .bad) | none=> .bad)=_
 rw[h]
 dsimp only
 rw[cB]
theorem vq {lo:Int} {n:Nat} {w:Wv} (h:w∈bY lo n):∃k:Int,w= .int k/\lo<=k/\k < lo+n:=by
 unfold bY at h
 obtain⟨k,hk,rfl⟩:=List.mem_map.mp h
 have:=List.mem_range.mp hk
 exact⟨lo+k,rfl,by omega,by omega⟩
theorem HX {i:Int} (h1:-1000000<=i) (h2:i<=1000000):i6 i:=⟨by omega,by omega⟩
@[simp] theorem MM {F:List Wv->Hs->Re Wv} {st:Hs}:oo 0 F [] st=F [] st:=rfl
def Gr (st st':Hs):Prop:=st.length<=st'.length/\∀k,k < st.length->st'[k]? =st[k]?
theorem Gr.refl {st:Hs}:Gr st st:=⟨Nat.le_refl _,fun _ _=>rfl⟩
theorem Gr.trans {a b c:Hs} (h:Gr a b) (k:Gr b c):Gr a c:=⟨Nat.le_trans h.1 k.1,fun j h1=>(k.2 j (Nat.lt_of_lt_of_le h1 h.1)).trans (h.2 j h1)⟩
theorem Gr.push {st:Hs} {o:Ob}:Gr st (st++[o]):=⟨by simp,fun k h=>List.getElem?_append_left h⟩
theorem Gr.lst {st st':Hs} (k:Gr st st') {j:Nat} {ws:List Wv} (h:af st j=some ws):af st' j=some ws:=by
 unfold af at h ⊢
 rw[k.2 j (b_ (st:=st) (ws:=ws) (by unfold af;exact h))]
 exact h
theorem Gr.get {st st':Hs} (k:Gr st st') {j:Nat} {o:Ob} (h:st[j]? =some o):st'[j]? =some o:=by rw[k.2 j (iI h)];exact h
theorem Gr.keep {st st':Hs} {l:Nat} (k:Gr st st'):a8 l st st':=⟨k.1,fun j h _=>k.2 j h⟩
theorem Gr.jL {st s1 s2:Hs} {l:Nat} (h:st.length<=l) (g:Gr st s1) (k:a8 l s1 s2):Gr st s2:=⟨Nat.le_trans g.1 k.1,fun j h1=>(k.2 j (Nat.lt_of_lt_of_le h1 g.1) (by omega)).trans (g.2 j h1)⟩
theorem rC {α:Type} (f:α->Wv) {i:Nat} {gb:GS} {l:Nat} {all:List Wv} (full:List α) (P:List α->aS->Hs->Prop)
  (step:∀a pre post ρ st,full=pre++a::post->P pre ρ st->af st l=some all->∃ρ' st',gb (ρ.set i (some (f a))) st= .nx ρ' st'/\af st' l=some all/\P (pre++[a]) ρ' st') :
  ∀(post pre:List α) (ρ:aS) (st:Hs),full=pre++post->P pre ρ st->af st l=some all->∃ρ' st',forL i gb l all (post.map f) ρ st= .nx ρ' st'/\P full ρ' st'/\af st' l=some all
 | [],pre,ρ,st,hf,h,hl=>⟨ρ,st,rfl,by rw[hf];simpa using h,hl⟩
 | a::r,pre,ρ,st,hf,h,hl=>by
  obtain⟨ρ1,st1,e1,l1,p1⟩:=step a pre r ρ st hf h hl
  obtain⟨ρ2,st2,e2,p2,l2⟩:=rC f full P step r (pre++[a]) ρ1 st1 (by rw[hf];simp) p1 l1
  refine⟨ρ2,st2,?_,p2,l2⟩
  rw[List.map_cons]
  unfold forL
  rw[e1]
  simp only[if_pos l1]
  exact e2
theorem rD {α:Type} (f:α->Wv) {i:Nat} {gb:GS} (full:List α) (P:List α->aS->Hs->Prop)
  (step:∀a pre post ρ st,full=pre++a::post->P pre ρ st->∃ρ' st',gb (ρ.set i (some (f a))) st= .nx ρ' st'/\P (pre++[a]) ρ' st') :
  ∀(post pre:List α) (ρ:aS) (st:Hs),full=pre++post->P pre ρ st->∃ρ' st',fh i gb (post.map f) ρ st= .nx ρ' st'/\P full ρ' st'
 | [],pre,ρ,st,hf,h=>⟨ρ,st,rfl,by rw[hf];simpa using h⟩
 | a::r,pre,ρ,st,hf,h=>by
  obtain⟨ρ1,st1,e1,p1⟩:=step a pre r ρ st hf h
  obtain⟨ρ2,st2,e2,p2⟩:=rD f full P step r (pre++[a]) ρ1 st1 (by rw[hf];simp) p1
  refine⟨ρ2,st2,?_,p2⟩
  rw[List.map_cons]
  unfold fh
  rw[e1]
  exact e2
theorem Lv {i:Int}:PyData.eqv (.int i) (.int i)=true:=by simp[PyData.eqv]
theorem Lw {x:PySem.Str}:PyData.eqv (.str x) (.str x)=true:=by simp[PyData.eqv]
theorem HY {x y:PySem.Str}:PyData.eqv (.tuple [.str x,.str y]) (.tuple [.str x,.str y])=true:=by simp[PyData.eqv,PyData.eqvAll]
theorem HZ {st:Hs} {x y:Wv} {d:PyData} (h1:aG st 20 x=some d) (h2:aG st 20 y=some d) (h:PyData.eqv d d=true):xB x y st= .ok (.bl false) st:=by
 unfold xB
 rw[h1,h2]
 show Re.ok (Wv.bl (!PyData.eqv d d)) st=_
 rw[h]
 rfl
theorem H_ {st:Hs} {x y:Wv} {d:PyData} (h1:aG st 20 x=some d) (h2:aG st 20 y=some d) (h:PyData.eqv d d=true):oEq x y st= .ok (.bl true) st:=by
 unfold oEq
 rw[h1,h2]
 show Re.ok (Wv.bl (PyData.eqv d d)) st=_
 rw[h]
theorem vt {st:Hs} {n l:Nat} {ws:List Wv} (h:af st l=some ws):aG st (n+1) (.ref l)=(gy (aG st n) ws).map PyData.list:=by
 show(match af st l with | some ws=>(gy (aG st n) ws).map PyData.list | none=>none)=_
 rw[h]
theorem Lx {l:Nat} {st:Hs} {ns:List Int} (h:af st l=some (ns.map Wv.int)) (hn:ns.length < 4096):sT [.ref l] st= .ok (.ref st.length) (st++[.lst ((eS ns).map Wv.int)]):=by
 unfold sT
 simp only[h,cB]
 rw[if_pos hn]
theorem EI {l:Nat} {st:Hs} {n:Int} {ns:List Int} (h:af st l=some ((n::ns).map Wv.int)):j6 [.ref l] st= .ok (.int (fA n ns)) st:=by
 unfold j6
 simp only[h,cB]
theorem EJ {l:Nat} {st:Hs} {n:Int} {ns:List Int} (h:af st l=some ((n::ns).map Wv.int)):j7 [.ref l] st= .ok (.int (fB n ns)) st:=by
 unfold j7
 simp only[h,cB]
@[simp] theorem QW {i j:Int} {st:Hs}:j6 [.int i,.int j] st= .ok (.int (if j > i then j else i)) st:=rfl
@[simp] theorem QX {i j:Int} {st:Hs}:j7 [.int i,.int j] st= .ok (.int (if j < i then j else i)) st:=rfl
theorem A8 {a b:List Int} (h:a.Perm b):a.sum=b.sum:=by
 induction h with
 | nil=>rfl
 | cons x _ ih=>simp[ih]
 | swap x y l=>simp only[List.sum_cons];omega
 | trans _ _ h1 h2=>exact h1.trans h2
theorem A9 {n:Int} {r:List Int} {a:Int} {t:List Int} (h:eS (n::r)=a::t):a=fB n r:=by
 have hp:=dR (n::r)
 have hs:=jg (n::r)
 rw[h] at hp hs
 rw[List.pairwise_cons] at hs
 refine uP (hp.mem_iff.mp List.mem_cons_self) fun b hb=>?_
 rcases List.mem_cons.mp (hp.mem_iff.mpr hb) with z | z
 ·omega
 ·exact hs.1 b z
theorem A_ {n:Int} {r:List Int} {a:Int} {t:List Int} (h:eS (n::r)=t++[a]):a=fA n r:=by
 have hp:=dR (n::r)
 have hs:=jg (n::r)
 rw[h] at hp hs
 rw[List.pairwise_append] at hs
 refine uO (hp.mem_iff.mp (by simp)) fun b hb=>?_
 rcases List.mem_append.mp (hp.mem_iff.mpr hb) with z | z
 ·exact hs.2.2 b z a (by simp)
 ·simp at z;omega
theorem Ba {α:Type} {a:α} {r:List α}:L2.jS (a::r) 0=some a:=L2.iU (j:=0) rfl
theorem Bb {α:Type} {t:List α} {a:α}:L2.jS (t++[a]) (-1)=some a:=by
 unfold L2.jS L2.vV
 simp
 rw[if_pos (by omega)]
 have e:(-1+((t.length:Int)+1)).toNat=t.length:=by omega
 simp[e]
end J
namespace J
open PySem L2
theorem tb_none {K:PySem.W.Frag} {H:Hp} (h1:PySem.W.nsIn K UW "form_of"=some none) (h2:PySem.W.nsIn K UW "formula_by"=some none) (h3:PySem.W.nsIn K UW "turned"=some none):oO K H:=fun q P hq e=>by
 have no:∀q,PySem.W.nsIn K UW q=some none->fN K q=none:=fun q h=>by
  unfold fN PySem.W.tabIn
  rw[h]
 simp only[bH,List.mem_cons,List.not_mem_nil,or_false] at hq
 rcases hq with rfl | rfl | rfl
 ·rw[no _ h1] at e;cases e
 ·rw[no _ h2] at e;cases e
 ·rw[no _ h3] at e;cases e
theorem vw {fd:UH} {ps:List Str} (us:List UL) (hl:us.length=1) (h:∀a0:UL,bindArgs fd { pos:=[a0] }=pure (ps.zip [a0])):bindArgs fd { pos:=us }=pure (ps.zip us):=match us,hl with | [a0],_=>h a0
theorem ln2 {fd:UH} {ps:List Str} (us:List UL) (hl:us.length=2) (h:∀a0 a1:UL,bindArgs fd { pos:=[a0,a1] }=pure (ps.zip [a0,a1])):bindArgs fd { pos:=us }=pure (ps.zip us):=match us,hl with | [a0,a1],_=>h a0 a1
theorem SN {fd:UH} {ps:List Str} (us:List UL) (hl:us.length=3) (h:∀a0 a1 a2:UL,bindArgs fd { pos:=[a0,a1,a2] }=pure (ps.zip [a0,a1,a2])):bindArgs fd { pos:=us }=pure (ps.zip us):=match us,hl with | [a0,a1,a2],_=>h a0 a1 a2
end J
namespace K80
open PySem J
open L2 (defScope defBody defArgs FnScope CX0 FnOk XK Hp)
def top (i:Nat):Stmt:=PySem.Challenge.pw_onelook_k80_halves_made.main.body.getD i (.Pass ⟨0,0,0,0⟩)
def bw:Tab:=[(("BadCount","BadCount"),true),(("BadCount","BadPlace"),false),(("BadCount","BadArea"),false),(("BadCount","BadText"),false),(("BadCount","BadFormula"),false),(("BadCount","BadContent"),false),(("BadCount","Full"),false),(("BadCount","NoCell"),false),(("BadCount","NotWaiting"),false),(("BadCount","NoRoom"),false),(("BadCount","BadTable"),false),(("BadCount","NoTable"),false),(("BadCount","NoColumn"),false),(("BadCount","NoDeed"),false),(("BadCount","Clash"),false),(("BadCount","SheetError"),true)]
def aF:lM:=[(("BadCount","ValueError"),true)]
def du:Tab:=[(("BadCount","SheetError"),true)]
abbrev cI:Stmt:=top 32
def eE:GS:=(aD (lI (bp (aj oLt (ag 1) (au ff (aa (ag 0) ai)))) (bK (aj cE (ag 0) (ag 1))) bI)
  (bK (gC (.int 0))))
def aQ:List Wv->Hs->Re Wv:=dZ 2 eE
def eF:Ct where
  N:=["script","k"]
  names:=(defScope cI).names
  consts:=[]
  bl:=["len"]
  fns:=[]
  tb:=bw
  tt:=aF
  tc:=du
theorem mi:bq 30 (eF) (defBody cI)=eE:=by kernel_rfl
theorem kC:FnScope (eF).N ["script","k"] (defScope cI):=⟨rfl,rfl,rfl,by decide+kernel,rfl,by decide+kernel,by decide+kernel⟩
abbrev dH:Stmt:=top 34
def fR:GS:=(aD (aI 2 (aj oMod (aj cE (ag 0) (gC (.int 0))) (ag 1)))
  (aD (uC (aj bW (aj cE (ag 0) (gC (.int 0))) (ag 1)) (ag 0) (gC (.int 0)))
  (bK (ag 2))))
def aR:List Wv->Hs->Re Wv:=dZ 3 fR
def fS:Ct where
  N:=["row","many","digit"]
  names:=(defScope dH).names
  consts:=[]
  bl:=[]
  fns:=[]
  tb:=bw
  tt:=aF
  tc:=du
theorem pC:bq 30 (fS) (defBody dH)=fR:=by kernel_rfl
theorem mQ:FnScope (fS).N ["row","many"] (defScope dH):=⟨rfl,rfl,rfl,by decide+kernel,rfl,by decide+kernel,by decide+kernel⟩
abbrev dI:Stmt:=top 35
def fT:GS:=(aD (aI 1 (aA 2 aR (aa (ag 0) (aa (gC (.int 12)) ai))))
  (aD (lI (bp (aj oLt (ag 1) (gC (.int 5)))) (bK (aj sA (aA 2 aR (aa (ag 0) (aa (gC (.int 15)) ai))) (gC (.int 5)))) bI)
  (aD (lI (bp (aj oLt (ag 1) (gC (.int 7)))) (bK (aj bE (aj cE (bg (aa (gC (.int 1)) (aa (J_ qc (gC (.int 1))) ai))) (aA 2 aR (aa (ag 0) (aa (gC (.int 2)) ai)))) (aj sA (aj wc (gC (.int 10)) (gC (.int 60))) (aA 2 aR (aa (ag 0) (aa (gC (.int 3)) ai)))))) bI)
  (aD (lI (bp (aj oLt (ag 1) (gC (.int 9)))) (bK (aj cE (bg (aa (gC (.str "")) (aa (gC (.str "a")) (aa (gC (.str "b7")) (aa (gC (.str "7")) ai))))) (aA 2 aR (aa (ag 0) (aa (gC (.int 4)) ai))))) bI)
  (aD (lI (bp (aj oLt (ag 1) (gC (.int 11)))) (bK (gC .aB)) bI)
  (bK (dU (aa (gC (.str "fault")) (aa (aj cE (bg (aa (gC (.str "kind")) (aa (gC (.str "great")) (aa (gC (.str "nought")) (aa (gC (.str "none")) (aa (gC (.str "lost")) ai)))))) (aA 2 aR (aa (ag 0) (aa (gC (.int 5)) ai)))) ai)))))))))
def cJ:List Wv->Hs->Re Wv:=dZ 2 fT
def fU:Ct where
  N:=["row","way"]
  names:=(defScope dI).names
  consts:=[]
  bl:=[]
  fns:=[("_law_digit",2,aR)]
  tb:=bw
  tt:=aF
  tc:=du
theorem pD:bq 30 (fU) (defBody dI)=fT:=by kernel_rfl
theorem mR:FnScope (fU).N ["row"] (defScope dI):=⟨rfl,rfl,rfl,by decide+kernel,rfl,by decide+kernel,by decide+kernel⟩
abbrev dJ:Stmt:=top 33
def fV:GS:=(aD (aI 2 (aj oMod (aj bE (aj dt (aj dt (aj oMod (ag 0) (gC (.int 1000000007))) (aj bE (gC (.int 7919)) (ag 1))) (gC (.int 1))) (gC (.int 48271))) (gC (.int 2147483647))))
  (bK (aj oMod (aj bE (aj oMod (aj bE (ag 2) (ag 2)) (gC (.int 2147483629))) (gC (.int 69621))) (gC (.int 2147483647)))))
def cK:List Wv->Hs->Re Wv:=dZ 3 fV
def fW:Ct where
  N:=["cell","k","stir"]
  names:=(defScope dJ).names
  consts:=[]
  bl:=[]
  fns:=[]
  tb:=bw
  tt:=aF
  tc:=du
theorem pE:bq 30 (fW) (defBody dJ)=fV:=by kernel_rfl
theorem mS:FnScope (fW).N ["cell","k"] (defScope dJ):=⟨rfl,rfl,rfl,by decide+kernel,rfl,by decide+kernel,by decide+kernel⟩
abbrev dg:Stmt:=top 36
def bR:GS:=(aI 3 (aj dt (aj bE (ag 3) (gC (.int 2147483647))) (aA 2 cK (aa (aj dt (ag 2) (au sS (aa (ag 0) ai))) (aa (aj dt (aj bE (gC (.int 5)) (ag 1)) (ag 4)) ai)))))
def fk:GS:=(aD (aI 2 (aA 2 aQ (aa (ag 0) (aa (ag 1) ai))))
  (aD (lI (yC (bp (aj oEq (aj oMod (aA 2 aQ (aa (ag 0) (aa (gC (.int 0)) ai))) (gC (.int 2))) (gC (.int 1)))) (bp (aj oLt (ag 1) (au ff (aa (ag 0) ai))))) (bK (bg (aa (ag 2) ai))) bI)
  (aD (aI 3 (gC (.int 0)))
  (aD (lL 4 (aa (gC (.int 3)) ai) bR)
  (bK (bg (aa (aj bW (ag 3) (gC (.int 8))) ai)))))))
def cb:List Wv->Hs->Re Wv:=dZ 5 fk
def fm:Ct where
  N:=["script","k","cell","found","j"]
  names:=(defScope dg).names
  consts:=[]
  bl:=["range","len","sum"]
  fns:=[("_law_cell_at",2,aQ),("_law_mixed",2,cK)]
  tb:=bw
  tt:=aF
  tc:=du
theorem mU:bq 30 (fm) (defBody dg)=fk:=by kernel_rfl
theorem mj:FnScope (fm).N ["script","k"] (defScope dg):=⟨rfl,rfl,rfl,by decide+kernel,rfl,by decide+kernel,by decide+kernel⟩
abbrev dh:Stmt:=top 37
def bS:GS:=(aD (aI 5 (aA 1 cJ (aa (aA 2 cb (aa (ag 0) (aa (aj dt (ag 4) (gC (.int 1))) ai))) ai)))
  (aD (lI (yC (qd (c9 (ag 2))) (c9 (au (aX bw aF) (aa (ag 5) (aa (gC (.ty "tuple")) ai))))) (aI 5 (ag 4)) bI)
  (gg (jX kj (ag 3) (ag 5)))))
def fo:GS:=(aD (aI 3 (bg ai))
  (aD (lL 4 (aa (ag 1) ai) bS)
  (bK (ag 3))))
def bj:List Wv->Hs->Re Wv:=dZ 6 fo
def fq:Ct where
  N:=["script","many","faults","found","k","worth"]
  names:=(defScope dh).names
  consts:=[]
  bl:=["range","isinstance","tuple"]
  fns:=[("_law_worth",1,cJ),("_law_row_of",2,cb)]
  tb:=bw
  tt:=aF
  tc:=du
theorem mV:bq 30 (fq) (defBody dh)=fo:=by kernel_rfl
theorem ml:FnScope (fq).N ["script","many","faults"] (defScope dh):=⟨rfl,rfl,rfl,by decide+kernel,rfl,by decide+kernel,by decide+kernel⟩
abbrev dM:Stmt:=top 39
def aJ:GS:=(aD (qp [3,4] (aj cE (ag 1) (ag 2)))
  (aD (aI 2 (aj dt (ag 2) (gC (.int 1))))
  (lI (bp (aj L7 (aj sA (ag 4) (ag 3)) (gC (.int 1)))) (aD (aI 5 (aj bW (aj dt (ag 3) (ag 4)) (gC (.int 2))))
    (aI 1 (aj dt (ag 1) (bg (aa (dU (aa (ag 3) (aa (ag 5) ai))) (aa (dU (aa (ag 5) (aa (ag 4) ai))) ai)))))) bI)))
def dN:GS:=(aD (aI 1 (bg (aa (dU (aa (gC (.int 0)) (aa (ag 0) ai))) ai)))
  (aD (aI 2 (gC (.int 0)))
  (aD (jG jI (bp (aj oLt (ag 2) (au ff (aa (ag 1) ai)))) aJ)
  (bK (ag 1)))))
def cL:List Wv->Hs->Re Wv:=dZ 6 dN
def fX:Ct where
  N:=["many","found","at","low","high","middle"]
  names:=(defScope dM).names
  consts:=[]
  bl:=["len"]
  fns:=[]
  tb:=bw
  tt:=aF
  tc:=du
theorem pF:bq 30 (fX) (defBody dM)=dN:=by kernel_rfl
theorem mW:FnScope (fX).N ["many"] (defScope dM):=⟨rfl,rfl,rfl,by decide+kernel,rfl,by decide+kernel,by decide+kernel⟩
abbrev dO:Stmt:=top 25
def cM:GS:=(lI (qd (bp (iC oLe oLe (gC (.int 1)) (ag 0) (gC (.int 99))))) (oS "BadCount" (aa (gC (.str "not 1 to 99 worths")) ai)) bI)
def bA:List Wv->Hs->Re Wv:=dZ 1 cM
def fY:Ct where
  N:=["many"]
  names:=(defScope dO).names
  consts:=[("MOST_WORTHS",(.int 99))]
  bl:=[]
  fns:=[]
  tb:=bw
  tt:=aF
  tc:=du
  clss:=["BadCount"]
theorem pG:bq 30 (fY) (defBody dO)=cM:=by kernel_rfl
theorem mX:FnScope (fY).N ["many"] (defScope dO):=⟨rfl,rfl,rfl,by decide+kernel,rfl,by decide+kernel,by decide+kernel⟩
abbrev eZ:Stmt:=top 26
def gL:GS:=(bK (aj oEq (aj sA (aj cE (ag 0) (gC (.int 1))) (aj cE (ag 0) (gC (.int 0)))) (gC (.int 1))))
def bz:List Wv->Hs->Re Wv:=dZ 1 gL
def gM:Ct where
  N:=["node"]
  names:=(defScope eZ).names
  consts:=[]
  bl:=[]
  fns:=[]
  tb:=bw
  tt:=aF
  tc:=du
theorem rE:bq 30 (gM) (defBody eZ)=gL:=by kernel_rfl
theorem pH:FnScope (gM).N ["node"] (defScope eZ):=⟨rfl,rfl,rfl,by decide+kernel,rfl,by decide+kernel,by decide+kernel⟩
abbrev e_:Stmt:=top 27
def gN:GS:=(aD (aI 1 (aj bW (aj dt (aj cE (ag 0) (gC (.int 0))) (aj cE (ag 0) (gC (.int 1)))) (gC (.int 2))))
  (bK (bg (aa (dU (aa (aj cE (ag 0) (gC (.int 0))) (aa (ag 1) ai))) (aa (dU (aa (ag 1) (aa (aj cE (ag 0) (gC (.int 1))) ai))) ai)))))
def bO:List Wv->Hs->Re Wv:=dZ 2 gN
def gO:Ct where
  N:=["node","middle"]
  names:=(defScope e_).names
  consts:=[]
  bl:=[]
  fns:=[]
  tb:=bw
  tt:=aF
  tc:=du
theorem rF:bq 30 (gO) (defBody e_)=gN:=by kernel_rfl
theorem pI:FnScope (gO).N ["node"] (defScope e_):=⟨rfl,rfl,rfl,by decide+kernel,rfl,by decide+kernel,by decide+kernel⟩
abbrev di:Stmt:=top 30
def aY:GS:=(lI (qd (c9 (aA 1 bz (aa (ag 2) ai)))) (gg (jX l9 (ag 1) (aA 1 bO (aa (ag 2) ai)))) bI)
def ft:GS:=(aD (aI 1 (bg ai))
  (aD (wq 2 (ag 0) aY)
  (bK (ag 1))))
def cg:List Wv->Hs->Re Wv:=dZ 3 ft
def fu:Ct where
  N:=["level","below","node"]
  names:=(defScope di).names
  consts:=[]
  bl:=[]
  fns:=[("is_single",1,bz),("halves_of",1,bO)]
  tb:=bw
  tt:=aF
  tc:=du
theorem mY:bq 30 (fu) (defBody di)=ft:=by kernel_rfl
theorem mn:FnScope (fu).N ["level"] (defScope di):=⟨rfl,rfl,rfl,by decide+kernel,rfl,by decide+kernel,by decide+kernel⟩
abbrev dj:Stmt:=top 29
def bu:GS:=(aD (gg (jX l9 (ag 1) (ag 2)))
  (aI 2 (aA 1 cg (aa (ag 2) ai))))
def dk:GS:=(aD (aI 1 (bg ai))
  (aD (aI 2 (bg (aa (ag 0) ai)))
  (aD (jG jI (c9 (ag 2)) bu)
  (bK (ag 1)))))
def bF:List Wv->Hs->Re Wv:=dZ 3 dk
def fv:Ct where
  N:=["whole","nodes","level"]
  names:=(defScope dj).names
  consts:=[]
  bl:=[]
  fns:=[("level_under",1,cg)]
  tb:=bw
  tt:=aF
  tc:=du
theorem mZ:bq 30 (fv) (defBody dj)=dk:=by kernel_rfl
theorem mv:FnScope (fv).N ["whole"] (defScope dj):=⟨rfl,rfl,rfl,by decide+kernel,rfl,by decide+kernel,by decide+kernel⟩
abbrev fZ:Stmt:=top 19
def mw:GS:=(bK (jV (au (aX bw aF) (aa (ag 0) (aa (gC (.ty "tuple")) ai))) (aj oEq (hJ (ag 0) kJ (nJ (gC (.int 1)))) (dU (aa (gC (.str "fault")) ai)))))
def f6:List Wv->Hs->Re Wv:=dZ 1 mw
def iJ:Ct where
  N:=["worth"]
  names:=(defScope fZ).names
  consts:=[]
  bl:=["isinstance","tuple"]
  fns:=[]
  tb:=bw
  tt:=aF
  tc:=du
theorem tW:bq 30 (iJ) (defBody fZ)=mw:=by kernel_rfl
theorem rG:FnScope (iJ).N ["worth"] (defScope fZ):=⟨rfl,rfl,rfl,by decide+kernel,rfl,by decide+kernel,by decide+kernel⟩
abbrev f7:Stmt:=top 22
def eG:GT:=(c9 (aA 1 f6 (aa (ag 0) ai)))
def gP:GE:=(ag 0)
def eI:GT:=(c9 (au (aX bw aF) (aa (ag 0) (aa (gC (.ty "int")) ai))))
def gQ:GE:=(ag 0)
def iK:GS:=(aD (aI 1 (iq [] (fP (ag 0)) eI gQ))
  (aD (aI 2 (iq [] (fP (ag 0)) eG gP))
  (aD (aI 3 (lF (c9 (ag 1)) (au j7 (aa (ag 1) ai)) (gC .aB)))
  (aD (aI 4 (lF (c9 (ag 1)) (au j6 (aa (ag 1) ai)) (gC .aB)))
  (bK (dU (aa (au sS (aa (ag 1) ai)) (aa (au ff (aa (ag 1) ai)) (aa (ag 3) (aa (ag 4) (aa (lF (c9 (ag 2)) (aj cE (ag 2) (gC (.int 0))) (gC .aB)) ai)))))))))))
def dc:List Wv->Hs->Re Wv:=dZ 5 iK
def iL:Ct where
  N:=["worths","numbers","faults","least","greatest"]
  names:=(defScope f7).names
  consts:=[]
  bl:=["min","max","sum","len","isinstance","int"]
  fns:=[("is_fault",1,f6)]
  tb:=bw
  tt:=aF
  tc:=du
theorem tX:bq 30 (iL) (defBody f7)=iK:=by kernel_rfl
theorem rH:FnScope (iL).N ["worths"] (defScope f7):=⟨rfl,rfl,rfl,by decide+kernel,rfl,by decide+kernel,by decide+kernel⟩
abbrev cN:Stmt:=top 23
def eJ:GT:=(bp (aj iD (ag 0) (gC .aB)))
def eK:GE:=(ag 0)
def eL:GT:=(bp (aj iD (ag 0) (gC .aB)))
def eM:GE:=(ag 0)
def eN:GS:=(aD (aI 2 (au nY (aa (iq [] (fP (dU (aa (aj cE (ag 0) (gC (.int 2))) (aa (aj cE (ag 1) (gC (.int 2))) ai)))) eL eM) ai)))
  (aD (aI 3 (au nX (aa (iq [] (fP (dU (aa (aj cE (ag 0) (gC (.int 3))) (aa (aj cE (ag 1) (gC (.int 3))) ai)))) eJ eK) ai)))
  (aD (aI 4 (lF (bp (aj Ea (aj cE (ag 0) (gC (.int 4))) (gC .aB))) (aj cE (ag 1) (gC (.int 4))) (aj cE (ag 0) (gC (.int 4)))))
  (bK (dU (aa (aj dt (aj cE (ag 0) (gC (.int 0))) (aj cE (ag 1) (gC (.int 0)))) (aa (aj dt (aj cE (ag 0) (gC (.int 1))) (aj cE (ag 1) (gC (.int 1)))) (aa (ag 2) (aa (ag 3) (aa (ag 4) ai))))))))))
def bP:List Wv->Hs->Re Wv:=dZ 5 eN
def eO:Ct where
  N:=["one","other","least","greatest","first_fault"]
  names:=(defScope cN).names
  consts:=[]
  bl:=["min","max"]
  fns:=[]
  tb:=bw
  tt:=aF
  tc:=du
theorem mx:bq 30 (eO) (defBody cN)=eN:=by kernel_rfl
theorem kD:FnScope (eO).N ["one","other"] (defScope cN):=⟨rfl,rfl,rfl,by decide+kernel,rfl,by decide+kernel,by decide+kernel⟩
abbrev cw:Stmt:=top 28
def dy:GS:=(aD (aI 2 (aA 1 bO (aa (ag 1) ai)))
  (bK (aA 2 bP (aa (qU (ag 0) (aj cE (ag 2) (gC (.int 0)))) (aa (qU (ag 0) (aj cE (ag 2) (gC (.int 1)))) ai)))))
def a9:List Wv->Hs->Re Wv:=dZ 3 dy
def dA:Ct where
  N:=["halves","node","parts"]
  names:=(defScope cw).names
  consts:=[]
  bl:=[]
  fns:=[("halves_of",1,bO),("put_together",2,bP)]
  tb:=bw
  tt:=aF
  tc:=du
  va:=["halves"]
theorem kE:bq 30 (dA) (defBody cw)=dy:=by kernel_rfl
theorem jM:FnScope (dA).N ["halves","node"] (defScope cw):=⟨rfl,rfl,rfl,by decide+kernel,rfl,by decide+kernel,by decide+kernel⟩
abbrev dm:Stmt:=top 24
def aZ:GS:=(n4 (lF (c9 (aA 1 bz (aa (ag 2) ai))) (aA 1 dc (aa (bg (aa (aj cE (ag 0) (aj cE (ag 2) (gC (.int 0)))) ai)) ai)) (aA 2 a9 (aa (ag 1) (aa (ag 2) ai)))) (ag 1) (ag 2))
def bG:GS:=(aD (gg (aA 1 bA (aa (au jk (aa (ag 0) ai)) ai)))
  (aD (aI 1 j8)
  (aD (qW 2 (aa (aA 1 bF (aa (dU (aa (gC (.int 0)) (aa (au jk (aa (ag 0) ai)) ai))) ai)) ai) aZ)
  (bK (ag 1)))))
def aN:List Wv->Hs->Re Wv:=dZ 3 bG
def fz:Ct where
  N:=["worths","halves","node"]
  names:=(defScope dm).names
  consts:=[]
  bl:=["reversed","len"]
  fns:=[("check_many",1,bA),("nodes_under",1,bF),("is_single",1,bz),("tally_of",1,dc),("joined_halves",2,a9)]
  tb:=bw
  tt:=aF
  tc:=du
  va:=["halves"]
theorem m6:bq 30 (fz) (defBody dm)=bG:=by kernel_rfl
theorem my:FnScope (fz).N ["worths"] (defScope dm):=⟨rfl,rfl,rfl,by decide+kernel,rfl,by decide+kernel,by decide+kernel⟩
abbrev dP:Stmt:=top 38
def a_:GS:=(lI (c9 (au (aX bw aF) (aa (ag 3) (aa (gC (.ty "tuple")) ai)))) (lI (bp (aj Ea (ag 2) (gC .aB))) (aI 2 (ag 3)) bI) (lI (c9 (au (aX bw aF) (aa (ag 3) (aa (gC (.ty "int")) ai)))) (gg (jX kj (ag 1) (ag 3))) bI))
def f9:GS:=(aD (aI 1 (bg ai))
  (aD (aI 2 (gC .aB))
  (aD (wq 3 (ag 0) a_)
  (aD (lI (bp (aj oEq (au ff (aa (ag 1) ai)) (gC (.int 0)))) (bK (dU (aa (gC (.int 0)) (aa (gC (.int 0)) (aa (gC .aB) (aa (gC .aB) (aa (ag 2) ai))))))) bI)
  (aD (aI 1 (au sT (aa (ag 1) ai)))
  (bK (dU (aa (au sS (aa (ag 1) ai)) (aa (au ff (aa (ag 1) ai)) (aa (aj cE (ag 1) (gC (.int 0))) (aa (aj cE (ag 1) (J_ qc (gC (.int 1)))) (aa (ag 2) ai))))))))))))
def bT:List Wv->Hs->Re Wv:=dZ 4 f9
def f_:Ct where
  N:=["worths","numbers","first","worth"]
  names:=(defScope dP).names
  consts:=[]
  bl:=["sorted","isinstance","tuple","len","sum","int"]
  fns:=[]
  tb:=bw
  tt:=aF
  tc:=du
theorem pJ:bq 30 (f_) (defBody dP)=f9:=by kernel_rfl
theorem m7:FnScope (f_).N ["worths"] (defScope dP):=⟨rfl,rfl,rfl,by decide+kernel,rfl,by decide+kernel,by decide+kernel⟩
abbrev cO:Stmt:=top 40
def bU:GT:=(c9 (aj cE (ag 1) (ag 0)))
def de:GE:=(ag 0)
def cP:GS:=(aD (aI 1 (bg (aa (au (aX bw aF) (aa (ag 0) (aa (gC (.cls "BadPlace")) ai))) (aa (au (aX bw aF) (aa (ag 0) (aa (gC (.cls "BadArea")) ai))) (aa (au (aX bw aF) (aa (ag 0) (aa (gC (.cls "BadText")) ai))) (aa (au (aX bw aF) (aa (ag 0) (aa (gC (.cls "BadFormula")) ai))) ai))))))
  (aD (aI 2 (bg (aa (au (aX bw aF) (aa (ag 0) (aa (gC (.cls "BadContent")) ai))) (aa (au (aX bw aF) (aa (ag 0) (aa (gC (.cls "Full")) ai))) (aa (au (aX bw aF) (aa (ag 0) (aa (gC (.cls "NoCell")) ai))) (aa (au (aX bw aF) (aa (ag 0) (aa (gC (.cls "NotWaiting")) ai))) ai))))))
  (aD (aI 3 (bg (aa (au (aX bw aF) (aa (ag 0) (aa (gC (.cls "BadCount")) ai))) (aa (au (aX bw aF) (aa (ag 0) (aa (gC (.cls "NoRoom")) ai))) (aa (au (aX bw aF) (aa (ag 0) (aa (gC (.cls "BadTable")) ai))) (aa (au (aX bw aF) (aa (ag 0) (aa (gC (.cls "NoTable")) ai))) ai))))))
  (aD (aI 4 (bg (aa (au (aX bw aF) (aa (ag 0) (aa (gC (.cls "NoColumn")) ai))) (aa (au (aX bw aF) (aa (ag 0) (aa (gC (.cls "NoDeed")) ai))) (aa (au (aX bw aF) (aa (ag 0) (aa (gC (.cls "Clash")) ai))) (aa (au (aX bw aF) (aa (ag 0) (aa (gC (.ty "ValueError")) ai))) ai))))))
  (aD (aI 5 (aj dt (aj dt (aj dt (ag 1) (ag 2)) (ag 3)) (ag 4)))
  (bK (iq [("heard",5)] (zl (aa (gC (.int 16)) ai)) bU de)))))))
def cQ:List Wv->Hs->Re Wv:=dZ 6 cP
def cR:Ct where
  N:=["e","one","two","three","four","heard"]
  names:=(defScope cO).names
  consts:=[]
  bl:=["isinstance","ValueError","range"]
  fns:=[]
  tb:=bw
  tt:=aF
  tc:=du
  tH:=["BadPlace","BadArea","BadText","BadFormula","BadContent","Full","NoCell","NotWaiting","BadCount","NoRoom","BadTable","NoTable","NoColumn","NoDeed","Clash"]
theorem pK:bq 30 (cR) (defBody cO)=cP:=by kernel_rfl
theorem m8:bq 30 (cR).un (defBody cO)=cP:=by kernel_rfl
theorem iu:FnScope (cR).N ["e"] (defScope cO):=⟨rfl,rfl,rfl,by decide+kernel,rfl,by decide+kernel,by decide+kernel⟩
abbrev cS:Stmt:=top 41
def cT:GS:=(gg (aA 1 aN (aa (ag 0) ai)))
def bJ:GS:=(aI 1 (aA 1 cQ (aa (ag 2) ai)))
def cU:GS:=(aD (aI 1 (bg ai))
  (aD (wC (fun y=>du.lookup (y,("SheetError":PySem.Str))) 2 cT bJ)
  (bK (ag 1))))
def aH:List Wv->Hs->Re Wv:=dZ 3 cU
def eQ:Ct where
  N:=["worths","heard","e"]
  names:=(defScope cS).names
  consts:=[]
  bl:=[]
  fns:=[("made_halves",1,aN),("_law_kinds",1,cQ)]
  tb:=bw
  tt:=aF
  tc:=du
  clss:=["SheetError"]
  tI:=["_law_kinds"]
theorem mz:bq 30 (eQ) (defBody cS)=cU:=by kernel_rfl
theorem kF:FnScope (eQ).N ["worths"] (defScope cS):=⟨rfl,rfl,rfl,by decide+kernel,rfl,by decide+kernel,by decide+kernel⟩
abbrev vx:Stmt:=top 42
def gR:GS:=(n4 (aA 1 bT (aa (hJ (ag 3) (nJ (ag 6)) (nJ (ag 7))) ai)) (ag 5) (dU (aa (ag 6) (aa (ag 7) ai))))
def oq:GS:=(aD (aI 1 (aA 2 aQ (aa (ag 0) (aa (gC (.int 0)) ai))))
  (aD (aI 2 (aj oMod (aj bW (ag 1) (gC (.int 4))) (gC (.int 101))))
  (aD (aI 3 (aA 3 bj (aa (ag 0) (aa (ag 2) (aa (aj oEq (aj oMod (aj bW (ag 1) (gC (.int 2))) (gC (.int 2))) (gC (.int 0))) ai)))))
  (aD (lI (bp (aj qI (ag 2) (bg (aa (gC (.int 0)) (aa (gC (.int 100)) ai))))) (bK (jV (aj oEq (aA 1 aH (aa (ag 3) ai)) (bg (aa (gC (.int 8)) (aa (gC (.int 15)) ai)))) (aj oEq (aA 1 aH (aa (aj bE (bg (aa (gC .aB) ai)) (aj dt (gC (.int 100)) (aj oMod (aj bW (ag 1) (gC (.int 404))) (gC (.int 90))))) ai)) (bg (aa (gC (.int 8)) (aa (gC (.int 15)) ai)))))) bI)
  (aD (aI 4 (au jF (aa (ag 3) ai)))
  (aD (aI 5 j8)
  (aD (qr [6,7] (aA 1 cL (aa (ag 2) ai)) gR)
  (aD (aI 8 (aA 1 aN (aa (ag 3) ai)))
  (aD (lI (F0 (qd (c9 (au (tG bw aF) (aa (ag 8) (aa (gC (.ty "dict")) ai))))) (F0 (bp (aj q_ (ag 8) (ag 5))) (bp (aj xB (ag 3) (ag 4))))) (bK (gC (.bl false))) bI)
  (aD (gg (xb (ag 8)))
  (bK (jV (aj qZ (aA 1 aN (aa (ag 3) ai)) (ag 5)) (jV (aj oEq (aA 1 aH (aa (bg ai) ai)) (bg (aa (gC (.int 8)) (aa (gC (.int 15)) ai)))) (aj oEq (aA 1 aH (aa (aj bE (bg (aa (gC (.int 1)) ai)) (gC (.int 100))) ai)) (bg (aa (gC (.int 8)) (aa (gC (.int 15)) ai)))))))))))))))))
def F_law:List Wv->Hs->Re Wv:=dZ 9 oq
def Bc:Ct where
  N:=["script","head","many","worths","kept","due","low","high","found"]
  names:=(defScope vx).names
  consts:=[]
  bl:=["list","isinstance","dict"]
  fns:=[("_law_cell_at",2,aQ),("_law_worths",3,bj),("_law_nodes",1,cL),("made_halves",1,aN),("_law_tally",1,bT),("_law_refusal",1,aH)]
  tb:=bw
  tt:=aF
  tc:=du
  va:=["found","due","made_halves()"]
theorem Ly:bq 30 (Bc) (defBody vx)=oq:=by kernel_rfl
theorem Ia:FnScope (Bc).N ["script"] (defScope vx):=⟨rfl,rfl,rfl,by decide+kernel,rfl,by decide+kernel,by decide+kernel⟩
end K80
namespace K80
open PySem J
inductive Wo where
 | aB
 | int (i:Int)
 | txt (x:PySem.Str)
 | pQ (x:PySem.Str)
def Wo.w:Wo->Wv
 | .aB=> .aB
 | .int i=> .int i
 | .txt x=> .str x
 | .pQ x=> .tup [.str "fault",.str x]
def Wo.f:Wo->Bool
 | .pQ _=>true
 | _=>false
def Wo.n:Wo->Bool
 | .int _=>true
 | _=>false
theorem SQ (a:Wo) (st:Hs):f6 [a.w] st= .ok (.bl a.f) st:=by cases a<;>rfl
def nums:List Wo->List Int
 | []=>[]
 | .int i::r=>i::nums r
 | _::r=>nums r
def dB:List Wo->List PySem.Str
 | []=>[]
 | .pQ x::r=>x::dB r
 | _::r=>dB r
theorem cV:∀(a b:List Wo),nums (a++b)=nums a++nums b
 | [],b=>rfl
 | x::r,b=>by cases x<;>simp[nums,cV r b]
theorem fK:∀(a b:List Wo),dB (a++b)=dB a++dB b
 | [],b=>rfl
 | x::r,b=>by cases x<;>simp[dB,fK r b]
theorem mB:∀a:List Wo,(nums a).length<=a.length
 | []=>Nat.le_refl _
 | x::r=>by
  have:=mB r
  cases x<;>simp[nums]<;>omega
theorem rJ:∀a:List Wo,(a.map Wo.w).filter (fun v=>match v with | .int _=>true | _=>false)=(nums a).map Wv.int
 | []=>rfl
 | x::r=>by
  have:=rJ r
  cases x<;>simp[nums,Wo.w,this]
theorem rK:∀a:List Wo,(a.map Wo.w).filter (fun v=>match v with | .tup _=>true | _=>false)=(dB a).map fun x=>Wv.tup [.str "fault",.str x]
 | []=>rfl
 | x::r=>by
  have:=rK r
  cases x<;>simp[dB,Wo.w,this]
def MN:Int:=10 ^ (60:Int).toNat
theorem SR {st:Hs}:wc (.int 10) (.int 60) st= .ok (.int MN) st:=Lp (by decide)
def first (ws:List Wo):Wv:=match dB ws with
 | []=> .aB
 | x::_=> .tup [.str "fault",.str x]
def iw (ws:List Wo):List Wv:=match nums ws with
 | []=>[.int 0,.int 0,.aB,.aB,first ws]
 | n::r=>[.int (n::r).sum,.int (n::r).length,.int (fB n r),.int (fA n r),first ws]
theorem Jg {a b c d e:Wv} {st:Hs}:cE (.tup [a,b,c,d,e]) (.int 0) st= .ok a st/\cE (.tup [a,b,c,d,e]) (.int 1) st= .ok b st/\cE (.tup [a,b,c,d,e]) (.int 2) st= .ok c st/\cE (.tup [a,b,c,d,e]) (.int 3) st= .ok d st/\cE (.tup [a,b,c,d,e]) (.int 4) st= .ok e st:=⟨tU rfl,tU rfl,tU rfl,tU rfl,tU rfl⟩
theorem QY (a:Wo) (st:Hs):aX bw aF [a.w,.ty "int"] st= .ok (.bl a.n) st:=by cases a<;>rfl
theorem QZ (a:Wo) (st:Hs):aX bw aF [a.w,.ty "tuple"] st= .ok (.bl a.f) st:=by cases a<;>rfl
theorem digit {st:Hs} {l:Nat} {n many:Int} (h:st[l]? =some (.lst [.int n])) (hm:many≠0/\many.natAbs.log2 < 9000) :
  aR [.ref l,.int many] st= .ok (.int (n.fmod many)) (st.set l (.lst [.int (n.fdiv many)])):=by
 have hl:af st l=some [.int n]:=by unfold af;rw[h]
 have h0:L2.jS [Wv.int n] 0=some (.int n):=rfl
 unfold aR dZ fR
 simp[kA hl h0,j' hm.1,jJ hm,uC,Kw,h,L2.vV]
theorem pick {st:Hs} {l:Nat} {n many:Int} {ws:List Wv} (h:st[l]? =some (.lst [.int n])) (hm:many≠0/\many.natAbs.log2 < 9000) (hp:0 < many) (hw:(ws.length:Int)=many) :
  ∃v st',v∈ws/\aR [.ref l,.int many] (st++[.lst ws])= .ok (.int (n.fmod many)) st'/\cE (.ref st.length) (.int (n.fmod many)) st'= .ok v st'/\a8 l st st'/\st'[l]? =some (.lst [.int (n.fdiv many)]):=by
 have hl:l < st.length:=(List.getElem?_eq_some_iff.mp h).1
 obtain⟨v,e1,e2⟩:=A6 (ws:=ws) (d:=n.fmod many) (Int.fmod_nonneg_of_pos _ hp) (by rw[hw];exact Int.fmod_lt_of_pos _ hp)
 refine⟨v,_,e2,digit (gK h) hm,kA (ws:=ws) ?_ e1,a8.push.trans a8.set,eX (gK h)⟩
 have k:a8 l (st++[Ob.lst ws]) ((st++[Ob.lst ws]).set l (.lst [.int (n.fdiv many)])):=a8.set
 exact k.lst aw (by omega)
theorem worth {st:Hs} {l:Nat} {n:Int} (h:st[l]? =some (.lst [.int n])):∃(a:Wo) (st':Hs),cJ [.ref l] st= .ok a.w st'/\a8 l st st':=by
 have d5:=digit (many:=12) h (by decide)
 have h1:=eX (o':=.lst [.int (n.fdiv 12)]) h
 have k1:a8 l st (st.set l (.lst [.int (n.fdiv 12)])):=a8.set
 generalize st.set l (.lst [.int (n.fdiv 12)])=st1 at d5 h1 k1
 generalize n.fdiv 12=n1 at h1
 generalize hw:n.fmod 12=way at d5
 unfold cJ dZ fT
 by_cases w0:way < 5
 ·have d:=digit (many:=15) h1 (by decide)
  exact⟨.int (n1.fmod 15 - 5),st1.set l (.lst [.int (n1.fdiv 15)]),by simp[d5,w0,d,Wo.w],k1.trans a8.set⟩
 by_cases w1:way < 7
 ·obtain⟨v,st2,hv,e1,e2,k2,h2⟩:=pick (many:=2) (ws:=[.int 1,.int (-1)]) h1 (by decide) (by decide) rfl
  obtain⟨x,rfl,SU,SV⟩:∃x:Int,v= .int x/\-(2 ^ 64) < x/\x < 2 ^ 64:=by
   simp at hv
   rcases hv with rfl | rfl
   ·exact⟨1,rfl,by decide,by decide⟩
   ·exact⟨-1,rfl,by decide,by decide⟩
  have d:=digit (many:=3) h2 (by decide)
  have m:bE (.int x) (.int (MN - (n1.fdiv 2).fmod 3)) (st2.set l (.lst [.int ((n1.fdiv 2).fdiv 3)]))= .ok (.int (x * (MN - (n1.fdiv 2).fmod 3))) (st2.set l (.lst [.int ((n1.fdiv 2).fdiv 3)])):=vp SU SV
  exact⟨.int (x * (MN - (n1.fdiv 2).fmod 3)),_,by simp[d5,w0,w1,e1,e2,SR,d,m,Wo.w];rfl,k1.trans (k2.trans a8.set)⟩
 by_cases w2:way < 9
 ·obtain⟨v,st2,hv,e1,e2,k2,h2⟩:=pick (many:=4) (ws:=[.str "",.str "a",.str "b7",.str "7"]) h1 (by decide) (by decide) rfl
  obtain⟨x,rfl⟩:∃x,v= .str x:=by simp at hv;rcases hv with rfl | rfl | rfl | rfl<;>exact⟨_,rfl⟩
  exact⟨.txt x,st2,by simp[d5,w0,w1,w2,e1,e2,Wo.w],k1.trans k2⟩
 by_cases w3:way < 11
 ·exact⟨.aB,st1,by simp[d5,w0,w1,w2,w3,Wo.w],k1⟩
 ·obtain⟨v,st2,hv,e1,e2,k2,h2⟩:=pick (many:=5) (ws:=[.str "kind",.str "great",.str "nought",.str "none",.str "lost"]) h1 (by decide) (by decide) rfl
  obtain⟨x,rfl⟩:∃x,v= .str x:=by simp at hv;rcases hv with rfl | rfl | rfl | rfl | rfl<;>exact⟨_,rfl⟩
  exact⟨.pQ x,st2,by simp[d5,w0,w1,w2,w3,e1,e2,Wo.w],k1.trans k2⟩
theorem mixed {st:Hs} {c k:Int} (h0:0<=k) (h1:k < 1000000):∃v:Int,0<=v/\cK [.int c,.int k] st= .ok (.int v) st:=by
 have q1:=Int.fmod_nonneg_of_pos c (b:=1000000007) (by decide)
 have q2:=Int.fmod_lt_of_pos c (b:=1000000007) (by decide)
 have z1:bE (.int 7919) (.int k) st= .ok (.int (7919 * k)) st:=vp (by decide) (by decide)
 have z2:∀i:Int,bE (.int i) (.int 48271) st= .ok (.int (i * 48271)) st:=fun i=>mul_r (by decide) (by decide)
 have z3:∀i:Int,bE (.int i) (.int 69621) st= .ok (.int (i * 69621)) st:=fun i=>mul_r (by decide) (by decide)
 generalize hs:((c.fmod 1000000007+7919 * k+1) * 48271).fmod 2147483647=s
 have s0:0<=s:=by rw[<-hs];exact Int.fmod_nonneg_of_pos _ (by decide)
 have s1:s < 2147483647:=by rw[<-hs];exact Int.fmod_lt_of_pos _ (by decide)
 have z4:bE (.int s) (.int s) st= .ok (.int (s * s)) st:=vp (by omega) (by omega)
 refine⟨((s * s).fmod 2147483629 * 69621).fmod 2147483647,Int.fmod_nonneg_of_pos _ (by decide),?_⟩
 unfold cK dZ fV
 simp[z1,z2,z3,z4,hs,j']
theorem pL {st:Hs} {l:Nat} {ns:List Int} (h:af st l=some (ns.map Wv.int)) {k:Int} (h0:0<=k):∃v:Int,aQ [.ref l,.int k] st= .ok (.int v) st:=by
 have ln:=kc h
 rw[List.length_map] at ln
 unfold aQ dZ eE
 by_cases c:k < ns.length
 ·have hk:k.toNat < ns.length:=by omega
  have ek:k=((k.toNat:Nat):Int):=by omega
  have a:L2.jS (ns.map Wv.int) k=some (.int ns[k.toNat]):=by
   have q:=L2.iU (xs:=ns.map Wv.int) (j:=k.toNat) (v:=.int ns[k.toNat]) (by simp[hk])
   rw[<-ek] at q
   exact q
  exact⟨ns[k.toNat],by simp[ln,c,kA h a]⟩
 ·exact⟨0,by simp[ln,c]⟩
theorem Ie {st:Hs} {l:Nat} {ns:List Int} (h:af st l=some (ns.map Wv.int)) {k:Int} (h0:0<=k) (h1:k < 1000):∃n:Int,cb [.ref l,.int k] st= .ok (.ref st.length) (st++[.lst [.int n]]):=by
 obtain⟨v,ev⟩:=pL h h0
 obtain⟨v0,O8⟩:=pL h (k:=0) (Int.le_refl _)
 have ln:=kc h
 rw[List.length_map] at ln
 have sm:=A7 h
 have loop:∀g:Int,∃(o4:Option Wv) (g':Int),fh 4 bR (bY 0 3) [some (.ref l),some (.int k),some (.int v),some (.int g),none] st= .nx [some (.ref l),some (.int k),some (.int v),some (.int g'),o4] st:=by
  intro g
  obtain⟨ρ,st',e,q⟩:=rA (i:=4) (gb:=bR) (fun ρ st'=>∃(o4:Option Wv) (g:Int),ρ=[some (.ref l),some (.int k),some (.int v),some (.int g),o4]/\st'=st) (bY 0 3) [some (.ref l),some (.int k),some (.int v),some (.int g),none] st ⟨none,g,rfl,rfl⟩ (by
   rintro w hw _ st ⟨o4,g,rfl,rfl⟩
   obtain⟨j,rfl,j0,j1⟩:=vq hw
   obtain⟨u,_,eu⟩:=mixed (st:=st) (c:=v+ns.sum) (k:=5 * k+j) (by omega) (by omega)
   have z1:bE (.int 5) (.int k) st= .ok (.int (5 * k)) st:=vp (by decide) (by decide)
   have z3:bE (.int g) (.int 2147483647) st= .ok (.int (g * 2147483647)) st:=mul_r (by decide) (by decide)
   refine⟨_,_,?_,⟨some (.int j),g * 2147483647+u,rfl,rfl⟩⟩
   unfold bR
   simp[sm,z1,z3,eu])
  obtain⟨o4,g',rfl,rfl⟩:=q
  exact⟨o4,g',e⟩
 have f8:∀i:Int,bW (.int i) (.int 8) st= .ok (.int (i.fdiv 8)) st:=fun i=>jJ (by decide)
 obtain⟨o4,g',e⟩:=loop 0
 have c3:i6 3:=HX (by decide) (by decide)
 unfold cb dZ fk
 by_cases b:v0.fmod 2=1
 ·by_cases c:k < ns.length
  ·exact⟨v,by simp[ev,O8,j',b,ln,c]⟩
  ·exact⟨g'.fdiv 8,by simp[ev,O8,j',b,ln,c,c3,e,f8]⟩
 ·have b':(v0.fmod 2 == 1)=false:=beq_false_of_ne b
  exact⟨g'.fdiv 8,by simp[ev,O8,j',b',c3,e,f8]⟩
theorem Ig {st:Hs} {l:Nat} {ns:List Int} (h:af st l=some (ns.map Wv.int)) {m:Nat} (hm:m<=100) {b:Bool}:∃(ws:List Wo) (st':Hs),bj [.ref l,.int m,.bl b] st= .ok (.ref st.length) st'/\Gr st st'/\st'[st.length]? =some (.lst (ws.map Wo.w))/\ws.length=m:=by
 have hlt:=b_ h
 have cm:i6 m:=HX (by omega) (by omega)
 obtain⟨ρ',st',e,⟨ws,o4,o5,rfl,hw,hg,hn⟩⟩:=rD (fun k:Nat=>Wv.int (0+(k:Int))) (i:=4) (gb:=bS) (List.range m)
  (fun pre ρ s=>∃(ws:List Wo) (o4 o5:Option Wv),ρ=[some (.ref l),some (.int m),some (.bl b),some (.ref st.length),o4,o5]/\ws.length=pre.length/\Gr st s/\s[st.length]? =some (.lst (ws.map Wo.w)))
  (by
   rintro k pre post _ s hf ⟨ws,o4,o5,rfl,hw,hg,hn⟩
   have hpl:pre.length < 100/\k < m:=by
    have h1:=congrArg List.length hf
    have h2:k∈List.range m:=by rw[hf];simp
    simp at h1 h2
    omega
   have hs:=hg.lst h
   obtain⟨n,e1⟩:=Ie hs (k:=0+(k:Int)+1) (by omega) (by omega)
   rw[Int.zero_add] at e1
   obtain⟨a,s2,e2,k2⟩:=worth (st:=s++[.lst [.int n]]) (l:=s.length) (n:=n) cH
   have g2:Gr s s2:=Gr.jL (Nat.le_refl _) Gr.push k2
   have hn2:=g2.get hn
   have t:=QZ a s2
   obtain⟨a',ha'⟩:∃a':Wo,a'.w=(if(!b&&a.f)=true then .int (0+(k:Int)) else a.w):=by
    split
    ·exact⟨.int _,rfl⟩
    ·exact⟨a,rfl⟩
   have ap:=A5 (v:=a'.w) hn2 (by rw[List.length_map];unfold lim;omega)
   have mm:=kQ (mt:=kj) (ga:=ag 5) (ρ:=[some (.ref l),some (.int m),some (.bl b),some (.ref st.length),some (.int (0+(k:Int))),some a'.w]) (cq hn2)
   refine⟨[some (.ref l),some (.int m),some (.bl b),some (.ref st.length),some (.int (0+(k:Int))),some a'.w],s2.set st.length (.lst (ws.map Wo.w++[a'.w])),?_,ws++[a'],_,_,rfl,by simp[hw],?_,?_⟩
   ·unfold bS
    cases b with
    | true=>
     simp at ha'
     simp[ha'] at ap mm
     simp[e1,e2,t,mm,ap,ha']
    | false=>
     cases hf:a.f with
     | true=>
      simp[hf] at ha'
      simp[ha'] at ap mm
      simp[e1,e2,t,mm,ap,ha',hf]
     | false=>
      simp[hf] at ha'
      simp[ha'] at ap mm
      simp[e1,e2,t,mm,ap,ha',hf]
   ·exact Gr.jL (Nat.le_refl _) (hg.trans g2) a8.set
   ·rw[eX hn2];simp) (List.range m) [] [some (.ref l),some (.int m),some (.bl b),some (.ref st.length),none,none] (st++[.lst []]) rfl ⟨[],none,none,rfl,rfl,Gr.push,cH⟩
 refine⟨ws,st',?_,hg,hn,by simpa using hw⟩
 have e':fh 4 bS (bY 0 m) [some (.ref l),some (.int m),some (.bl b),some (.ref st.length),none,none] (st++[.lst []])= .nx [some (.ref l),some (.int m),some (.bl b),some (.ref st.length),o4,o5] st':=e
 unfold bj dZ fo
 simp[cm,e']
theorem vy {l:Nat} {ws:List Wv} {st:Hs} (h:af st l=some ws):yR (.ref l) st= .ok (!ws.isEmpty) st:=by
 unfold yR
 simp only[h]
theorem Bd {ws:List Wo} {l:Nat} {st:Hs} (h:af st l=some (ws.map Wo.w)) (hl:ws.length < 100):∃st',dc [.ref l] st= .ok (.tup (iw ws)) st'/\Gr st st':=by
 have c1:∀st:Hs,af st l=some (ws.map Wo.w)->∀ρ,df [] eG gP ρ (some l,ws.map Wo.w) st= .ok (.ref st.length) (st++[.lst ((dB ws).map fun x=>Wv.tup [.str "fault",.str x])]):=by
  intro st h ρ
  rw[hZ (w:=(some l,ws.map Wo.w)) (t:=fun v=>match v with | .tup _=>true | _=>false) (f:=id) h]
  ·rw[List.map_id,rK]
  ·intro v hv acc
   obtain⟨a,_,rfl⟩:=List.mem_map.mp hv
   unfold eG
   simp[SQ]
   cases a<;>rfl
  ·intro v hv _ acc
   rfl
  ·simp;unfold lim;omega
 have c2:∀st:Hs,af st l=some (ws.map Wo.w)->∀ρ,df [] eI gQ ρ (some l,ws.map Wo.w) st= .ok (.ref st.length) (st++[.lst ((nums ws).map Wv.int)]):=by
  intro st h ρ
  rw[hZ (w:=(some l,ws.map Wo.w)) (t:=fun v=>match v with | .int _=>true | _=>false) (f:=id) h]
  ·rw[List.map_id,rJ]
  ·intro v hv acc
   obtain⟨a,_,rfl⟩:=List.mem_map.mp hv
   unfold eI
   simp[QY]
   cases a<;>rfl
  ·intro v hv _ acc
   rfl
  ·simp;unfold lim;omega
 have Lz:=c2 _ h
 have l1:=aw (st:=st) (ws:=(nums ws).map Wv.int)
 have g1:Gr st (st++[.lst ((nums ws).map Wv.int)]):=Gr.push
 generalize st++[.lst ((nums ws).map Wv.int)]=s1 at Lz l1 g1
 have h1:=g1.lst h
 have LA:=c1 _ h1
 have l2:=aw (st:=s1) (ws:=(dB ws).map fun x=>Wv.tup [.str "fault",.str x])
 have g2:Gr s1 (s1++[.lst ((dB ws).map fun x=>Wv.tup [.str "fault",.str x])]):=Gr.push
 generalize s1++[.lst ((dB ws).map fun x=>Wv.tup [.str "fault",.str x])]=s2 at LA l2 g2
 have l3:=g2.lst l1
 refine⟨s2,?_,g1.trans g2⟩
 have t1:=vy l3
 have t2:=vy l2
 have sm:=A7 l3
 have ln:=kc l3
 rw[List.length_map] at ln
 have fi:∃fw:Wv,fw=first ws/\(lF (c9 (ag 2)) (aj cE (ag 2) (gC (.int 0))) (gC .aB))=(lF (c9 (ag 2)) (aj cE (ag 2) (gC (.int 0))) (gC .aB)):=⟨_,rfl,rfl⟩
 unfold dc dZ iK iw first
 cases en:nums ws with
 | nil=>
  rw[en] at t1 sm ln
  cases ef:dB ws with
  | nil=>
   rw[ef] at t2
   simp[gJ h,Lz,gJ h1,LA,t1,t2,sm,ln]
  | cons x r=>
   rw[ef] at t2 l2
   have i:=kA (i:=0) (v:=.tup [.str "fault",.str x]) l2 (by rw[List.map_cons];exact Ba)
   simp[gJ h,Lz,gJ h1,LA,t1,t2,sm,ln,i]
 | cons n r=>
  rw[en] at t1 sm ln l3
  cases ef:dB ws with
  | nil=>
   rw[ef] at t2
   simp[gJ h,Lz,gJ h1,LA,t1,t2,sm,ln,EJ l3,EI l3]
  | cons x r'=>
   rw[ef] at t2 l2
   have i:=kA (i:=0) (v:=.tup [.str "fault",.str x]) l2 (by rw[List.map_cons];exact Ba)
   simp[gJ h,Lz,gJ h1,LA,t1,t2,sm,ln,i,EJ l3,EI l3]
theorem Ih {n m:Int} {r t:List Int}:fB n (r++m::t)=fB (fB n r) [fB m t]:=by
 obtain⟨a1,a2⟩:=lW r n
 obtain⟨b1,b2⟩:=lW t m
 obtain⟨c1,c2⟩:=lW [fB m t] (fB n r)
 refine(uP ?_ fun a ha=>?_).symm
 ·simp only[List.mem_cons,List.not_mem_nil,or_false] at c1
  rcases c1 with e | e
  ·rw[e];rcases List.mem_cons.mp a1 with z | z
   ·rw[z];simp
   ·simp[z]
  ·rw[e];rcases List.mem_cons.mp b1 with z | z
   ·rw[z];simp
   ·simp[z]
 ·have h1:=c2 (fB n r) (by simp)
  have h2:=c2 (fB m t) (by simp)
  rcases List.mem_cons.mp ha with z | z
  ·have:=a2 a (by simp[z]);omega
  ·rcases List.mem_append.mp z with z | z
   ·have:=a2 a (by simp[z]);omega
   ·have:=b2 a z;omega
theorem Ii {n m:Int} {r t:List Int}:fA n (r++m::t)=fA (fA n r) [fA m t]:=by
 obtain⟨a1,a2⟩:=lV r n
 obtain⟨b1,b2⟩:=lV t m
 obtain⟨c1,c2⟩:=lV [fA m t] (fA n r)
 refine(uO ?_ fun a ha=>?_).symm
 ·simp only[List.mem_cons,List.not_mem_nil,or_false] at c1
  rcases c1 with e | e
  ·rw[e];rcases List.mem_cons.mp a1 with z | z
   ·rw[z];simp
   ·simp[z]
  ·rw[e];rcases List.mem_cons.mp b1 with z | z
   ·rw[z];simp
   ·simp[z]
 ·have h1:=c2 (fA n r) (by simp)
  have h2:=c2 (fA m t) (by simp)
  rcases List.mem_cons.mp ha with z | z
  ·have:=a2 a (by simp[z]);omega
  ·rcases List.mem_append.mp z with z | z
   ·have:=a2 a (by simp[z]);omega
   ·have:=b2 a z;omega
def opt (f:Int->List Int->Int):List Int->Wv
 | []=> .aB
 | n::r=> .int (f n r)
theorem Be (ws:List Wo):iw ws=[.int (nums ws).sum,.int (nums ws).length,opt fB (nums ws),opt fA (nums ws),first ws]:=by
 unfold iw opt
 cases nums ws<;>rfl
theorem xt (a b:List Wo):first (a++b)=(match first a with | .aB=>first b | f=>f):=by
 unfold first
 rw[fK]
 cases dB a<;>rfl
def Bf:Option Int->Wv
 | none=> .aB
 | some i=> .int i
def gn:List (Option Int)->List Int
 | []=>[]
 | none::r=>gn r
 | some i::r=>i::gn r
theorem DH (f:Int->List Int->Int) (ns:List Int):∃o:Option Int,opt f ns=Bf o/\(o=none↔ns=[]):=by
 cases ns with
 | nil=>exact⟨none,rfl,by simp⟩
 | cons n r=>exact⟨some (f n r),rfl,by simp⟩
theorem Ij {l:Nat} {st:Hs} {ns:List Int} (h:af st l=some (ns.map Wv.int)):nY [.ref l] st= .ok (Mj ns) st:=by
 unfold nY
 simp only[h,cB]
theorem Il {l:Nat} {st:Hs} {ns:List Int} (h:af st l=some (ns.map Wv.int)):nX [.ref l] st= .ok (Og ns) st:=by
 unfold nX
 simp only[h,cB]
theorem ou {gt:GT} {ge:GE} (hgt:gt=bp (aj iD (ag 0) (gC .aB))) (hge:ge=ag 0) {ρ:aS} {a b:Option Int} {st:Hs}:df [] gt ge ρ (none,[Bf a,Bf b]) st= .ok (.ref st.length) (st++[.lst ((gn [a,b]).map Wv.int)]):=by
 subst hgt
 subst hge
 have n0:∀st:Hs,iD .aB .aB st= .ok (.bl false) st:=fun _=>rfl
 have n1:∀(i:Int) (st:Hs),iD (.int i) .aB st= .ok (.bl true) st:=fun _ _=>rfl
 rw[hZ (w:=(none,[Bf a,Bf b])) (t:=fun v=>match v with | .int _=>true | _=>false) (f:=id) trivial]
 ·rw[List.map_id]
  cases a<;>cases b<;>rfl
 ·intro v hv acc
  simp at hv
  rcases hv with rfl | rfl
  ·cases a<;>simp[Bf,n0,n1]
  ·cases b<;>simp[Bf,n0,n1]
 ·intro v hv _ acc
  rfl
 ·show 2 < lim;decide
theorem put {a b:List Wo} {st:Hs}:∃st',bP [.tup (iw a),.tup (iw b)] st= .ok (.tup (iw (a++b))) st'/\Gr st st':=by
 obtain⟨oa,ea,za⟩:=DH fB (nums a)
 obtain⟨ob,eb,zb⟩:=DH fB (nums b)
 obtain⟨pa,fa,ya⟩:=DH fA (nums a)
 obtain⟨pb,fb,yb⟩:=DH fA (nums b)
 have k1:=ou (gt:=eL) (ge:=eM) rfl rfl (ρ:=[some (.tup (iw a)),some (.tup (iw b)),none,none,none]) (a:=oa) (b:=ob) (st:=st)
 have l1:=aw (st:=st) (ws:=(gn [oa,ob]).map Wv.int)
 have g1:Gr st (st++[.lst ((gn [oa,ob]).map Wv.int)]):=Gr.push
 generalize st++[.lst ((gn [oa,ob]).map Wv.int)]=s1 at k1 l1 g1
 have m1:=Ij l1
 have k2:=ou (gt:=eJ) (ge:=eK) rfl rfl (ρ:=[some (.tup (iw a)),some (.tup (iw b)),some (Mj (gn [oa,ob])),none,none]) (a:=pa) (b:=pb) (st:=s1)
 have l2:=aw (st:=s1) (ws:=(gn [pa,pb]).map Wv.int)
 have g2:Gr s1 (s1++[.lst ((gn [pa,pb]).map Wv.int)]):=Gr.push
 generalize s1++[.lst ((gn [pa,pb]).map Wv.int)]=s2 at k2 l2 g2
 have m2:=Il l2
 refine⟨s2,?_,g1.trans g2⟩
 have e1:Mj (gn [oa,ob])=opt fB (nums (a++b)):=by
  rw[cV]
  cases na:nums a with
  | nil=>
   have O9:oa=none:=za.mpr na
   subst O9
   rw[List.nil_append]
   cases nb:nums b with
   | nil=>have Io:ob=none:=zb.mpr nb;subst Io;rfl
   | cons m t=>
    rw[nb] at eb
    cases ob with
    | none=>exact absurd (zb.mp rfl) (by rw[nb];simp)
    | some i=>exact eb.symm
  | cons n r=>
   rw[na] at ea
   cases oa with
   | none=>exact absurd (za.mp rfl) (by rw[na];simp)
   | some i=>
    have hi:fB n r=i:=by simpa [opt,Bf] using ea
    cases nb:nums b with
    | nil=>have Io:ob=none:=zb.mpr nb;subst Io;rw[List.append_nil];exact ea.symm
    | cons m t=>
     rw[nb] at eb
     cases ob with
     | none=>exact absurd (zb.mp rfl) (by rw[nb];simp)
     | some j=>
      have hj:fB m t=j:=by simpa [opt,Bf] using eb
      show Wv.int (fB i [j])= .int (fB n (r++m::t))
      rw[Ih,hi,hj]
 have e2:Og (gn [pa,pb])=opt fA (nums (a++b)):=by
  rw[cV]
  cases na:nums a with
  | nil=>
   have O9:pa=none:=ya.mpr na
   subst O9
   rw[List.nil_append]
   cases nb:nums b with
   | nil=>have Io:pb=none:=yb.mpr nb;subst Io;rfl
   | cons m t=>
    rw[nb] at fb
    cases pb with
    | none=>exact absurd (yb.mp rfl) (by rw[nb];simp)
    | some i=>exact fb.symm
  | cons n r=>
   rw[na] at fa
   cases pa with
   | none=>exact absurd (ya.mp rfl) (by rw[na];simp)
   | some i=>
    have hi:fA n r=i:=by simpa [opt,Bf] using fa
    cases nb:nums b with
    | nil=>have Io:pb=none:=yb.mpr nb;subst Io;rw[List.append_nil];exact fa.symm
    | cons m t=>
     rw[nb] at fb
     cases pb with
     | none=>exact absurd (yb.mp rfl) (by rw[nb];simp)
     | some j=>
      have hj:fA m t=j:=by simpa [opt,Bf] using fb
      show Wv.int (fA i [j])= .int (fA n (r++m::t))
      rw[Ii,hi,hj]
 have fc:first a= .aB\/∃x,first a= .tup x:=by
  unfold first
  cases dB a with
  | nil=>exact .inl rfl
  | cons x r=>exact .inr ⟨_,rfl⟩
 have sm:(nums (a++b)).sum=(nums a).sum+(nums b).sum:=by rw[cV];simp
 have ll:((nums (a++b)).length:Int)=(nums a).length+(nums b).length:=by rw[cV];simp
 obtain⟨i0,i1,i2,i3,i4⟩:=Jg (a:=.int (nums a).sum) (b:=.int (nums a).length) (c:=opt fB (nums a)) (d:=opt fA (nums a)) (e:=first a) (st:=st)
 obtain⟨j0,j1,j2,j3,j4⟩:=Jg (a:=.int (nums b).sum) (b:=.int (nums b).length) (c:=opt fB (nums b)) (d:=opt fA (nums b)) (e:=first b) (st:=st)
 obtain⟨SX,SY,LB,MO,S0⟩:=Jg (a:=.int (nums a).sum) (b:=.int (nums a).length) (c:=opt fB (nums a)) (d:=opt fA (nums a)) (e:=first a) (st:=s1)
 obtain⟨S7,S8,S_,MP,Td⟩:=Jg (a:=.int (nums b).sum) (b:=.int (nums b).length) (c:=opt fB (nums b)) (d:=opt fA (nums b)) (e:=first b) (st:=s1)
 obtain⟨u0,u1,u2,u3,u4⟩:=Jg (a:=.int (nums a).sum) (b:=.int (nums a).length) (c:=opt fB (nums a)) (d:=opt fA (nums a)) (e:=first a) (st:=s2)
 obtain⟨v0,v1,v2,v3,v4⟩:=Jg (a:=.int (nums b).sum) (b:=.int (nums b).length) (c:=opt fB (nums b)) (d:=opt fA (nums b)) (e:=first b) (st:=s2)
 rw[<-Be] at i0 i1 i2 i3 i4 j0 j1 j2 j3 j4 SX SY LB MO S0 S7 S8 S_ MP Td u0 u1 u2 u3 u4 v0 v1 v2 v3 v4
 rw[ea] at i2
 rw[eb] at j2
 rw[fa] at MO
 rw[fb] at MP
 rw[e1] at m1 k2
 rw[e2] at m2
 rw[Be (a++b),sm,ll,xt]
 unfold bP dZ eN
 rcases fc with f0 | ⟨x,f0⟩
 ·have n0:Ea .aB .aB s2= .ok (.bl true) s2:=rfl
  rw[f0] at u4
  simp[i2,j2,k1,m1,MO,MP,k2,m2,u4,n0,v4,u0,v0,u1,v1,f0]
 ·have n0:Ea (.tup x) .aB s2= .ok (.bl false) s2:=rfl
  rw[f0] at u4
  simp[i2,j2,k1,m1,MO,MP,k2,m2,u4,n0,u0,v0,u1,v1,f0]
theorem vz (ws:List Wo):∃d:PyData,(∀st:Hs,aG st 20 (.tup (iw ws))=some d)/\PyData.eqv d d=true:=by
 unfold iw first
 cases nums ws with
 | nil=>cases dB ws with
  | nil=>exact⟨.tuple [.int 0,.int 0,.none,.none,.none],fun _=>rfl,by decide+kernel⟩
  | cons x r=>exact⟨.tuple [.int 0,.int 0,.none,.none,.tuple [.str "fault",.str x]],fun _=>rfl,by simp[PyData.eqv,PyData.eqvAll]⟩
 | cons n r=>cases dB ws with
  | nil=>exact⟨.tuple [.int (n::r).sum,.int (n::r).length,.int (fB n r),.int (fA n r),.none],fun _=>rfl,by simp[PyData.eqv,PyData.eqvAll]⟩
  | cons x r'=>exact⟨.tuple [.int (n::r).sum,.int (n::r).length,.int (fB n r),.int (fA n r),.tuple [.str "fault",.str x]],fun _=>rfl,by simp[PyData.eqv,PyData.eqvAll]⟩
theorem Bg {n d:Nat} {i:Int} (h0:0<=i) (h1:i<=n):HT.bQ n d (some i)=i.toNat:=by
 have e:i=((i.toNat:Nat):Int):=by omega
 rw[e,HT.BN]
 have:i.toNat<=n:=by omega
 simp
 omega
theorem DI {α:Type} {f:α->Wv} {xs:List α} {i j:Int} (h0:0<=i) (h1:i<=xs.length) (k0:0<=j) (k1:j<=xs.length):lH (xs.map f) (some i) (some j)=((xs.drop i.toNat).take (j.toNat - i.toNat)).map f:=by
 unfold lH
 rw[List.length_map,Bg h0 h1,Bg k0 k1,<-List.map_drop,<-List.map_take]
theorem Ip {l:Nat} {st:Hs} {ns:List Int} (h:af st l=some (ns.map Wv.int)) (hn:ns.length < 4096):sT [.ref l] st= .ok (.ref st.length) (st++[.lst ((eS ns).map Wv.int)]):=Lx h hn
theorem LC {ws:List Wo} {l:Nat} {st:Hs} (h:af st l=some (ws.map Wo.w)) (hl:ws.length < 100):∃st',bT [.ref l] st= .ok (.tup (iw ws)) st'/\Gr st st':=by
 have hlt:=b_ h
 obtain⟨ρ',st',e,⟨⟨o3,rfl⟩,hg,hn⟩,hl'⟩:=rC Wo.w (i:=3) (gb:=a_) (l:=l) (all:=ws.map Wo.w) ws
  (fun pre ρ s=>(∃o3,ρ=[some (.ref l),some (.ref st.length),some (first pre),o3])/\Gr st s/\s[st.length]? =some (.lst ((nums pre).map Wv.int))) (by
   rintro a pre post _ s hf ⟨⟨o3,rfl⟩,hg,hn⟩ hs
   have t1:=QZ a s
   have t2:=QY a s
   have hpl:pre.length < 100:=by have:=congrArg List.length hf;simp at this;omega
   cases a with
   | pQ x=>
    have fp:first (pre++[Wo.pQ x])=(match dB pre with | []=>(Wo.pQ x).w | y::_=> .tup [.str "fault",.str y]):=by
     unfold first
     rw[fK]
     cases dB pre<;>rfl
    have np:nums (pre++[Wo.pQ x])=nums pre:=by rw[cV];simp[nums]
    refine⟨[some (.ref l),some (.ref st.length),some (first (pre++[Wo.pQ x])),some (Wo.pQ x).w],s,?_,hs,⟨_,rfl⟩,hg,by rw[np];exact hn⟩
    rw[fp]
    unfold a_ first
    cases ef:dB pre with
    | nil=>
     have i:Ea .aB .aB s= .ok (.bl true) s:=rfl
     simp[t1,i,Wo.f]
    | cons y r=>
     have i:Ea (.tup [.str "fault",.str y]) .aB s= .ok (.bl false) s:=rfl
     simp[t1,i,Wo.f]
   | int j=>
    have hlen:((nums pre).map Wv.int).length < lim:=by
     have:=mB pre
     rw[List.length_map];unfold lim;omega
    have fp:first (pre++[Wo.int j])=first pre:=by unfold first;rw[fK];simp[dB]
    have ap:=A5 (v:=.int j) hn hlen
    have mm:=kQ (mt:=kj) (ga:=ag 3) (ρ:=[some (.ref l),some (.ref st.length),some (first pre),some (.int j)]) (cq hn)
    refine⟨[some (.ref l),some (.ref st.length),some (first (pre++[Wo.int j])),some (.int j)],s.set st.length (.lst ((nums pre).map Wv.int++[.int j])),?_,?_,⟨_,rfl⟩,?_,?_⟩
    ·rw[fp]
     unfold a_
     simp[Wo.w] at t1 t2
     simp[t1,t2,Wo.f,Wo.n,Wo.w,mm,ap]
    ·exact(a8.set (l:=st.length) (st:=s)).lst hs (by omega)
    ·exact Gr.jL (Nat.le_refl _) hg a8.set
    ·rw[cV]
     rw[eX hn]
     simp[nums]
   | aB=>
    have fp:first (pre++[Wo.aB])=first pre:=by unfold first;rw[fK];simp[dB]
    refine⟨[some (.ref l),some (.ref st.length),some (first (pre++[Wo.aB])),some Wo.aB.w],s,?_,hs,⟨_,rfl⟩,hg,?_⟩
    ·rw[fp]
     unfold a_
     simp[t1,t2,Wo.f,Wo.n]
    ·rw[cV];simpa [nums] using hn
   | txt x=>
    have fp:first (pre++[Wo.txt x])=first pre:=by unfold first;rw[fK];simp[dB]
    refine⟨[some (.ref l),some (.ref st.length),some (first (pre++[Wo.txt x])),some (Wo.txt x).w],s,?_,hs,⟨_,rfl⟩,hg,?_⟩
    ·rw[fp]
     unfold a_
     simp[t1,t2,Wo.f,Wo.n]
    ·rw[cV];simpa [nums] using hn) ws [] [some (.ref l),some (.ref st.length),some .aB,none] (st++[.lst []]) rfl
  ⟨⟨none,rfl⟩,Gr.push,cH⟩ (Gr.push.lst h)
 have ln:=kc (cq hn)
 rw[List.length_map] at ln
 unfold bT dZ f9 iw
 cases en:nums ws with
 | nil=>
  rw[en] at ln
  refine⟨st',?_,hg⟩
  simp[tV (Gr.push.lst h),e,ln]
 | cons n r=>
  rw[en] at hn
  rw[en] at ln
  have l2:=cq hn
  have hr:(n::r).length < 4096:=by have:=mB ws;rw[en] at this;omega
  have so:=Ip l2 hr
  have hp:=dR (n::r)
  have l3:=aw (st:=st') (ws:=(eS (n::r)).map Wv.int)
  have sm:=A7 l3
  have ln2:=kc l3
  rw[List.length_map,hp.length_eq] at ln2
  rw[A8 hp] at sm
  have i0:∃a t,eS (n::r)=a::t:=by
   cases es:eS (n::r) with
   | nil=>rw[es] at hp;have:=hp.length_eq;simp at this
   | cons a t=>exact⟨a,t,rfl⟩
  obtain⟨a,t,ea⟩:=i0
  have ha:=A9 ea
  have x0:cE (.ref st'.length) (.int 0) (st'++[.lst ((eS (n::r)).map Wv.int)])= .ok (.int (fB n r)) (st'++[.lst ((eS (n::r)).map Wv.int)]):=kA l3 (by rw[ea,List.map_cons,ha];exact Ba)
  obtain⟨t2,b,eb⟩:∃t b,eS (n::r)=t++[b]:=⟨_,_,(List.dropLast_concat_getLast (l:=eS (n::r)) (by rw[ea];simp)).symm⟩
  have hb:=A_ eb
  have x1:cE (.ref st'.length) (.int (-1)) (st'++[.lst ((eS (n::r)).map Wv.int)])= .ok (.int (fA n r)) (st'++[.lst ((eS (n::r)).map Wv.int)]):=kA l3 (by rw[eb,List.map_append,hb];exact Bb)
  have nz:((r.length:Int)+1 == 0)=false:=beq_false_of_ne (by omega)
  refine⟨_,?_,hg.trans (Gr.push (o:=.lst ((eS (n::r)).map Wv.int)))⟩
  simp only[List.length_cons] at ln ln2
  simp[tV (Gr.push.lst h),e,ln,nz,so,sm,ln2,x0,x1]
abbrev Nd:=Int×Int
def pw (p:Nd):Wv:=.tup [.int p.1,.int p.2]
def kk (p:Nd):List L2.Key:=[.inl p.1,.inl p.2]
def md (a b:Int):Int:=(a+b) / 2
theorem Te (x:Int):x.fdiv 2=x / 2:=Int.fdiv_eq_ediv_of_nonneg x (by decide)
theorem tY {p q:Nd} (h:kk p=kk q):p=q:=by
 unfold kk at h
 injection h with h1 h2
 injection h2 with h2
 injection h1 with h1
 injection h2 with h2
 exact Prod.ext h1 h2
def kids (p:Nd):List Nd:=if 1 < p.2 - p.1 then[(p.1,md p.1 p.2),(md p.1 p.2,p.2)] else[]
def nd:Nat->List Nd->List Nd
 | 0,_=>[]
 | n+1,l=>l++nd n (l.flatMap kids)
def it:Nat->List Nd->List Nd
 | 0,l=>l
 | n+1,l=>it n (l.flatMap kids)
abbrev nodes (m:Int):List Nd:=nd 8 [(0,m)]
def uq {α:Type} (f:α->Nat):List α->Nat->Bool
 | [],_=>true
 | x::r,acc=> !(acc.testBit (f x))&&uq f r (acc||| 2 ^ f x)
theorem EK {α:Type} {f:α->Nat}:∀{l:List α} {acc:Nat},uq f l acc=true->(l.map f).Nodup/\∀x∈l,acc.testBit (f x)=false
 | [],_,_=>⟨List.nodup_nil,fun x hx=>by cases hx⟩
 | x::r,acc,h=>by
  unfold uq at h
  rw[Bool.and_eq_true] at h
  obtain⟨h1,h2⟩:=EK h.2
  have no:∀y∈r,acc.testBit (f y)=false/\f x≠f y:=fun y hy=>by
   have q:=h2 y hy
   rw[Nat.testBit_or,Nat.testBit_two_pow,Bool.or_eq_false_iff] at q
   exact⟨q.1,of_decide_eq_false q.2⟩
  refine⟨?_,fun y hy=>?_⟩
  ·rw[List.map_cons,List.nodup_cons]
   refine⟨fun z=>?_,h1⟩
   obtain⟨y,hy,e⟩:=List.mem_map.mp z
   exact(no y hy).2 e.symm
  ·rcases List.mem_cons.mp hy with rfl | hy
   ·simpa using h.1
   ·exact(no y hy).1
def hs (p:Nd):Int:=K9 [p.1,p.2]
def hm (p:Nd):Nat:=(hs p % 30009).toNat
def Jh (m:Int):Bool:=uq hm (nodes m) 0&&(it 8 [(0,m)]).isEmpty&&decide ((nodes m).length<=200)&&(nodes m).all fun p=>decide (0<=p.1)&&decide (p.1 < p.2)&&decide (p.2<=m)
theorem DJ:((List.range 99).all fun k=>Jh ((k:Int)+1))=true:=by decide+kernel
theorem pM {m:Int} (h1:1<=m) (h2:m<=99):Jh m=true:=by
 obtain⟨k,hk⟩:=Int.eq_ofNat_of_zero_le (show 0<=m - 1 by omega)
 have e:m=(k:Int)+1:=by omega
 rw[e]
 exact List.all_eq_true.mp DJ k (List.mem_range.mpr (by omega))
theorem tZ {m:Int} (h1:1<=m) (h2:m<=99):((nodes m).map hs).Nodup:=by
 have c:=pM h1 h2
 unfold Jh at c
 simp only[Bool.and_eq_true] at c
 have n:=(EK c.1.1.1).1
 have e:(nodes m).map hm=((nodes m).map hs).map fun h=>(h % 30009).toNat:=by rw[List.map_map];rfl
 rw[e] at n
 exact List.Pairwise.of_map _ (fun a b ne e=>ne (by rw[e])) n
theorem gS {m:Int} (h1:1<=m) (h2:m<=99):(nodes m).Nodup:=List.Pairwise.of_map _ (fun a b ne e=>ne (by rw[e])) (tZ h1 h2)
theorem jN {m:Int} (h1:1<=m) (h2:m<=99):it 8 [(0,m)]=[]:=by
 have c:=pM h1 h2
 unfold Jh at c
 simp only[Bool.and_eq_true] at c
 exact List.isEmpty_iff.mp c.1.1.2
theorem h_ {m:Int} (h1:1<=m) (h2:m<=99):(nodes m).length<=200:=by
 have c:=pM h1 h2
 unfold Jh at c
 simp only[Bool.and_eq_true] at c
 exact of_decide_eq_true c.1.2
theorem rL {m:Int} (h1:1<=m) (h2:m<=99) {p:Nd} (h:p∈nodes m):0<=p.1/\p.1 < p.2/\p.2<=m:=by
 have c:=pM h1 h2
 unfold Jh at c
 simp only[Bool.and_eq_true] at c
 have q:=List.all_eq_true.mp c.2 p h
 simp only[Bool.and_eq_true,decide_eq_true_eq] at q
 exact⟨q.1.1,q.1.2,q.2⟩
def Cl:List Nd->List Nd->Prop
 | _,[]=>True
 | d,p::r=>(∀q∈kids p,q∈d)/\p∉d/\Cl (d++[p]) r
theorem Cl.app:∀{d xs ys:List Nd},Cl d xs->Cl (d++xs) ys->Cl d (xs++ys)
 | d,[],ys,_,h=>by rw[List.append_nil] at h;exact h
 | d,p::r,ys,h,k=>⟨h.1,h.2.1,Cl.app h.2.2 (by rw[List.append_assoc];exact k)⟩
theorem vA:∀{d ps:List Nd},(∀p∈ps,∀q∈kids p,q∈d)->ps.Nodup->(∀p∈ps,p∉d)->Cl d ps
 | d,[],_,_,_=>trivial
 | d,p::r,h,n,k=>by
  rw[List.nodup_cons] at n
  refine⟨h p List.mem_cons_self,k p List.mem_cons_self,vA (fun x hx q hq=>List.mem_append_left _ (h x (List.mem_cons_of_mem _ hx) q hq)) n.2 fun x hx z=>?_⟩
  rcases List.mem_append.mp z with z | z
  ·exact k x (List.mem_cons_of_mem _ hx) z
  ·rw[List.mem_singleton.mp z] at hx;exact n.1 hx
theorem EL:∀(n:Nat) {l:List Nd},it n l=[]->(nd n l).Nodup->Cl [] (nd n l).reverse
 | 0,l,_,_=>trivial
 | n+1,l,h,hn=>by
  unfold nd at hn ⊢
  rw[List.nodup_append] at hn
  rw[List.reverse_append]
  refine(EL n h hn.2.1).app (vA (fun p hp q hq=>?_) ((List.reverse_perm l).nodup_iff.mpr hn.1) fun p hp z=>?_)
  ·rw[List.nil_append,List.mem_reverse]
   have hq':q∈l.flatMap kids:=List.mem_flatMap.mpr ⟨p,List.mem_reverse.mp hp,hq⟩
   cases n with
   | zero=>have h0:l.flatMap kids=[]:=h;rw[h0] at hq';cases hq'
   | succ n=>unfold nd;exact List.mem_append_left _ hq'
  ·rw[List.nil_append,List.mem_reverse] at z
   exact hn.2.2 p (List.mem_reverse.mp hp) p z rfl
theorem O_ {p:Nd} {st:Hs}:cE (pw p) (.int 0) st= .ok (.int p.1) st:=tU rfl
theorem Q0 {p:Nd} {st:Hs}:cE (pw p) (.int 1) st= .ok (.int p.2) st:=tU rfl
theorem Q1 {x:Int} {st:Hs}:bW (.int x) (.int 2) st= .ok (.int (x / 2)) st:=by rw[jJ ⟨by decide,by decide⟩,Te]
theorem oz {p:Nd} {st:Hs}:bO [pw p] st= .ok (.ref st.length) (st++[.lst [pw (p.1,md p.1 p.2),pw (md p.1 p.2,p.2)]]):=by
 have k2:ig [pw (p.1,md p.1 p.2),pw (md p.1 p.2,p.2)] st= .ok (.ref st.length) (st++[.lst [pw (p.1,md p.1 p.2),pw (md p.1 p.2,p.2)]]):=eD (by show 2<=lim;unfold lim;omega)
 have Qc:ig [.tup [.int p.1,.int ((p.1+p.2) / 2)],.tup [.int ((p.1+p.2) / 2),.int p.2]] st= .ok (.ref st.length) (st++[.lst [pw (p.1,md p.1 p.2),pw (md p.1 p.2,p.2)]]):=k2
 unfold bO dZ gN
 simp[O_,Q0,Q1,Qc]
def sg (p:Nd):Bool:=p.2 - p.1 == 1
theorem single {p:Nd} {st:Hs}:bz [pw p] st= .ok (.bl (sg p)) st:=by
 unfold bz dZ gL sg
 simp[O_,Q0]
theorem EM {st:Hs} {l k:Nat} {ws zs:List Wv} (h:st[l]? =some (.lst ws)) (h2:st[k]? =some (.lst zs)) (hl:ws.length+zs.length<=lim):l9 (.ref l) (.ref k) st= .ok .aB (st.set l (.lst (ws++zs))):=by
 show(match st[l]?,st[k]? with | some (.lst ws),some (.lst zs)=>if ws.length+zs.length<=lim then Re.ok Wv.aB (st.set l (.lst (ws++zs))) else .bad | _,_=> .bad)=_
 rw[h,h2]
 dsimp only
 rw[if_pos hl]
theorem Bh {p:Nd} (h:sg p=true):kids p=[]:=by
 unfold sg at h
 have:=eq_of_beq h
 unfold kids
 rw[if_neg (by omega)]
theorem rM {p:Nd} (hp:p.1 < p.2) (h:sg p=false):kids p=[(p.1,md p.1 p.2),(md p.1 p.2,p.2)]:=by
 unfold sg at h
 have:=ne_of_beq_false h
 unfold kids
 rw[if_pos (by omega)]
theorem vB {p q:Nd} (hp:p.1 < p.2) (h:q∈kids p):q.1 < q.2/\p.1<=q.1/\q.2<=p.2:=by
 unfold kids at h
 by_cases c:1 < p.2 - p.1
 ·rw[if_pos c] at h
  have a:p.1 < md p.1 p.2/\md p.1 p.2 < p.2:=by unfold md;omega
  rcases List.mem_cons.mp h with rfl | h
  ·exact⟨a.1,Int.le_refl _,by show md p.1 p.2<=p.2;omega⟩
  ·rw[List.mem_singleton.mp h]
   exact⟨a.2,by show p.1<=md p.1 p.2;omega,Int.le_refl _⟩
 ·rw[if_neg c] at h;cases h
theorem mC {L A:Nat} {all:List Wv} (hne:L≠A):∀(ps acc:List Nd) (o2:Option Wv) (st:Hs),(∀p∈ps,p.1 < p.2)->st[A]? =some (.lst (acc.map pw))->af st L=some all->acc.length+2 * ps.length<=1000->
  ∃Iq st',forL 2 aY L all (ps.map pw) [some (.ref L),some (.ref A),o2] st= .nx [some (.ref L),some (.ref A),Iq] st'/\a8 A st st'/\st'[A]? =some (.lst ((acc++ps.flatMap kids).map pw))
 | [],acc,o2,st,_,hA,_,_=>⟨o2,st,rfl,a8.refl,by simpa using hA⟩
 | p::r,acc,o2,st,hp,hA,hL,hl=>by
  have hl':acc.length+2 * (r.length+1)<=1000:=hl
  have hw:=hp p List.mem_cons_self
  have key:∃s1,aY ([some (.ref L),some (.ref A),o2].set 2 (some (pw p))) st= .nx [some (.ref L),some (.ref A),some (pw p)] s1/\a8 A st s1/\s1[A]? =some (.lst ((acc++kids p).map pw)):=by
   cases c:sg p with
   | true=>
    refine⟨st,?_,a8.refl,by rw[Bh c,List.append_nil];exact hA⟩
    unfold aY
    simp[single,c]
   | false=>
    have hk:=rM hw c
    have hh:=oz (p:=p) (st:=st)
    have ht:(st++[.lst [pw (p.1,md p.1 p.2),pw (md p.1 p.2,p.2)]])[st.length]? =some (.lst [pw (p.1,md p.1 p.2),pw (md p.1 p.2,p.2)]):=cH
    have Ir:(st++[.lst [pw (p.1,md p.1 p.2),pw (md p.1 p.2,p.2)]])[A]? =some (.lst (acc.map pw)):=gK hA
    have g1:Gr st (st++[.lst [pw (p.1,md p.1 p.2),pw (md p.1 p.2,p.2)]]):=Gr.push
    generalize st++[.lst [pw (p.1,md p.1 p.2),pw (md p.1 p.2,p.2)]]=s0 at hh ht Ir g1
    have ex:=EM Ir ht (by rw[List.length_map];show acc.length+2<=lim;unfold lim;omega)
    have km:=fun ga=>kQ (mt:=l9) (ga:=ga) (ρ:=[some (.ref L),some (.ref A),some (pw p)]) (cq hA)
    refine⟨s0.set A (.lst (acc.map pw++[pw (p.1,md p.1 p.2),pw (md p.1 p.2,p.2)])),?_,g1.keep.trans a8.set,?_⟩
    ·unfold aY
     simp[single,c,km,hh,ex]
    ·rw[eX Ir,hk,List.map_append]
     rfl
  obtain⟨s1,e1,k1,h1⟩:=key
  have kl:(kids p).length<=2:=by unfold kids;split<;>simp
  obtain⟨Iq,s2,e2,k2,h2⟩:=mC hne r (acc++kids p) (some (pw p)) s1 (fun q hq=>hp q (List.mem_cons_of_mem _ hq)) h1 (k1.lst hL hne) (by rw[List.length_append];omega)
  refine⟨Iq,s2,?_,k1.trans k2,by rw[h2,List.flatMap_cons,List.append_assoc]⟩
  rw[List.map_cons,forL,e1]
  simp only[if_pos (k1.lst hL hne)]
  exact e2
theorem below {L:Nat} {ps:List Nd} {st:Hs} (hp:∀p∈ps,p.1 < p.2) (hl:ps.length<=300) (h:af st L=some (ps.map pw)):∃st',cg [.ref L] st= .ok (.ref st.length) st'/\Gr st st'/\st'[st.length]? =some (.lst ((ps.flatMap kids).map pw)):=by
 have lt:=b_ h
 have h1:af (st++[.lst []]) L=some (ps.map pw):=jK h
 obtain⟨o2,s1,e1,k1,g1⟩:=mC (L:=L) (A:=st.length) (all:=ps.map pw) (by omega) ps [] none (st++[.lst []]) hp cH h1 (by show 0+2 * ps.length<=1000;omega)
 have CB:kFor 2 aY [some (.ref L),some (.ref st.length),none] (.ref L) (st++[.lst []])= .nx [some (.ref L),some (.ref st.length),o2] s1:=by rw[tV h1];exact e1
 refine⟨s1,?_,Gr.jL (Nat.le_refl _) Gr.push k1,by simpa using g1⟩
 unfold cg dZ ft
 simp[CB]
theorem EN {gt:GT} {gb:GS} {n:Nat} {ρ ρ':aS} {st st1 st':Hs} (h:gt ρ st= .ok true st1) (k:gb ρ st1= .nx ρ' st'):tm gt gb (n+1) ρ st=tm gt gb n ρ' st':=by
 rw[tm,h]
 simp[k]
theorem EO {gt:GT} {gb:GS} {n:Nat} {ρ:aS} {st st1:Hs} (h:gt ρ st= .ok false st1):tm gt gb (n+1) ρ st= .nx ρ st1:=by
 rw[tm,h]
 simp
theorem br {a b:GS} {ρ ρ':aS} {st st':Hs} (h:a ρ st= .nx ρ' st'):aD a b ρ st=b ρ' st':=by rw[EB,h];rfl
theorem Bi:∀n:Nat,nd n []=[]
 | 0=>rfl
 | n+1=>by unfold nd;rw[List.nil_append];exact Bi n
theorem vC {w:Wv} {A:Nat}:∀(n N:Nat) (l acc:List Nd) (B:Nat) (st:Hs),n < N->it n l=[]->(∀p∈l,p.1 < p.2)->st[A]? =some (.lst (acc.map pw))->st[B]? =some (.lst (l.map pw))->A≠B->acc.length+(nd n l).length<=300->
  ∃B' st',tm (c9 (ag 2)) bu N [some w,some (.ref A),some (.ref B)] st= .nx [some w,some (.ref A),some (.ref B')] st'/\a8 A st st'/\st'[A]? =some (.lst ((acc++nd n l).map pw))
 | n,0,_,_,_,_,h,_,_,_,_,_,_=>by omega
 | n,N+1,[],acc,B,st,_,_,_,hA,hB,_,_=>by
  have tl:=vy (cq hB)
  exact⟨B,st,EO (by simp[tl]),a8.refl,by rw[Bi,List.append_nil];exact hA⟩
 | 0,N+1,p::r,_,_,_,_,h,_,_,_,_,_=>by cases h
 | n+1,N+1,p::r,acc,B,st,hN,hi,hp,hA,hB,hne,hl=>by
  have tl:=vy (cq hB)
  have hnd:nd (n+1) (p::r)=(p::r)++nd n ((p::r).flatMap kids):=rfl
  rw[hnd,List.length_append] at hl
  have ex:=EM hA hB (by rw[List.length_map,List.length_map];unfold lim;omega)
  have Ir:=eX (o':=.lst (acc.map pw++(p::r).map pw)) hA
  have Q2:(st.set A (.lst (acc.map pw++(p::r).map pw)))[B]? =some (.lst ((p::r).map pw)):=by rw[List.getElem?_set_ne hne];exact hB
  have k1:a8 A st (st.set A (.lst (acc.map pw++(p::r).map pw))):=a8.set
  generalize st.set A (.lst (acc.map pw++(p::r).map pw))=s1 at ex Ir Q2 k1
  obtain⟨s2,e2,g2,h2⟩:=below (L:=B) hp (by omega) (cq Q2)
  have km:=fun ga=>kQ (mt:=l9) (ga:=ga) (ρ:=[some w,some (.ref A),some (.ref B)]) (cq hA)
  have bd:bu [some w,some (.ref A),some (.ref B)] st= .nx [some w,some (.ref A),some (.ref s1.length)] s2:=by
   unfold bu
   simp[km,ex,e2]
  have lt:=iI Ir
  obtain⟨B',s3,e3,k3,h3⟩:=vC (w:=w) n N ((p::r).flatMap kids) (acc++(p::r)) s1.length s2 (by omega) hi (fun q hq=>by
   obtain⟨x,hx,hq⟩:=List.mem_flatMap.mp hq
   exact(vB (hp x hx) hq).1) (by rw[List.map_append];exact g2.get Ir) h2 (by omega) (by rw[List.length_append];omega)
  refine⟨B',s3,?_,k1.trans (g2.keep.trans k3),?_⟩
  ·rw[EN (by simp[tl]) bd]
   exact e3
  ·rw[h3,hnd,List.append_assoc]
theorem rN {m:Int} {st:Hs} (h1:1<=m) (h2:m<=99):∃st',bF [pw (0,m)] st= .ok (.ref st.length) st'/\Gr st st'/\st'[st.length]? =some (.lst ((nodes m).map pw)):=by
 have q1:(st++[.lst []]++[.lst [pw (0,m)]])[st.length]? =some (.lst (([]:List Nd).map pw)):=gK cH
 have q2:(st++[.lst []]++[.lst [pw (0,m)]])[(st++[Ob.lst []]).length]? =some (.lst ([((0,m):Nd)].map pw)):=cH
 obtain⟨B,s1,e1,k1,g1⟩:=vC (w:=pw (0,m)) 8 100000 [(0,m)] [] (st++[Ob.lst []]).length _ (by decide) (jN h1 h2) (fun p hp=>by rw[List.mem_singleton.mp hp];show(0:Int) < m;omega) q1 q2 (by rw[List.length_append];simp) (by
  have q:(nd 8 [(0,m)]).length<=200:=h_ h1 h2
  show 0+(nd 8 [(0,m)]).length<=300
  omega)
 have CB:jG jI (c9 (ag 2)) bu [some (pw (0,m)),some (.ref st.length),some (.ref (st++[Ob.lst []]).length)] (st++[.lst []]++[.lst [pw (0,m)]])= .nx [some (pw (0,m)),some (.ref st.length),some (.ref B)] s1:=e1
 refine⟨s1,?_,Gr.jL (Nat.le_refl _) (Gr.push.trans Gr.push) k1,by simpa using g1⟩
 have a1:aI 1 (bg ai) [some (pw (0,m)),none,none] st= .nx [some (pw (0,m)),some (.ref st.length),none] (st++[.lst []]):=by simp[lim]
 have a2:aI 2 (bg (aa (ag 0) ai)) [some (pw (0,m)),some (.ref st.length),none] (st++[.lst []])= .nx [some (pw (0,m)),some (.ref st.length),some (.ref (st++[Ob.lst []]).length)] (st++[.lst []]++[.lst [pw (0,m)]]):=by
  have k:ig [pw (0,m)] (st++[.lst []])= .ok (.ref (st++[Ob.lst []]).length) (st++[.lst []]++[.lst [pw (0,m)]]):=eD (by show 1<=lim;unfold lim;omega)
  generalize st++[Ob.lst []]=s0 at k
  simp[k]
 refine mh (n:=3) (g:=dk) ?_
 unfold dk
 refine(br a1).trans ((br a2).trans ((br CB).trans ?_))
 simp
abbrev Ks:=List (List L2.Key×Wv)
def sl (ws:List Wo) (p:Nd):List Wo:=(ws.take p.2.toNat).drop p.1.toNat
theorem Iu {ws:List Wo} {a b c:Int} (h0:0<=a) (h1:a<=b) (h2:b<=c) (h3:c<=ws.length):sl ws (a,b)++sl ws (b,c)=sl ws (a,c):=by
 unfold sl
 dsimp only
 have e:ws.take c.toNat=ws.take b.toNat++(ws.take c.toNat).drop b.toNat:=by
  have q:=List.take_append_drop b.toNat (ws.take c.toNat)
  rw[List.take_take,Nat.min_eq_left (by omega)] at q
  exact q.symm
 have l:a.toNat<=(ws.take b.toNat).length:=by rw[List.length_take];omega
 conv=>rhs;rw[e,List.drop_append_of_le_length l]
theorem Iv {ws:List Wo} {p:Nd} {a:Wo} (h0:0<=p.1) (h1:sg p=true) (h2:ws[p.1.toNat]? =some a):sl ws p=[a]:=by
 unfold sg at h1
 have e:=eq_of_beq h1
 obtain⟨hl,ha⟩:=List.getElem?_eq_some_iff.mp h2
 unfold sl
 rw[show p.2.toNat=p.1.toNat+1 by omega,List.take_succ_eq_append_getElem hl,List.drop_append_of_le_length (by rw[List.length_take];omega),List.drop_of_length_le (by rw[List.length_take];omega),List.nil_append,ha]
theorem DK {ws:List Wo} {p:Nd} (h0:0<=p.1) (h1:p.1 < p.2) (h2:p.2<=ws.length):sl ws (p.1,md p.1 p.2)++sl ws (md p.1 p.2,p.2)=sl ws p:=Iu h0 (by unfold md;omega) (by unfold md;omega) h2
theorem vD {κ:Type} [DecidableEq κ] {kvs:List (κ×Wv)} {k:κ} {v:Wv} (h:k∉kvs.map (·.1)):o9 kvs k v=kvs++[(k,v)]:=by
 unfold o9
 rw[if_neg]
 intro q
 obtain⟨p,hp,e⟩:=List.any_eq_true.mp q
 exact h (List.mem_map.mpr ⟨p,hp,of_decide_eq_true e⟩)
def ent (ws:List Wo) (p:Nd):List L2.Key×Wv:=(kk p,.tup (iw (sl ws p)))
theorem jr {ws:List Wo} {q:Nd}:∀{ps:List Nd},q∈ps->c_ (ps.map (ent ws)) (kk q)=some (.tup (iw (sl ws q)))
 | p::r,h=>by
  rw[List.map_cons]
  unfold c_
  by_cases e:p=q
  ·rw[if_pos (by rw[e];rfl),e];rfl
  ·rw[if_neg (show ¬(ent ws p).1=kk q from fun z=>e (tY z))]
   rcases List.mem_cons.mp h with z | z
   ·exact absurd z.symm e
   ·exact jr z
theorem Bj {d:Nat} {kvs:Ks} {p:Nd} {v:Wv} {st:Hs} (h:st[d]? =some (.bM kvs)) (hl:kvs.length < 1000):putD (.ref d) (pw p) v st=some (st.set d (.bM (o9 kvs (kk p) v))):=by
 have hk:pf (pw p)=some (kk p):=rfl
 unfold putD
 dsimp only
 rw[h]
 dsimp only
 rw[hk]
 dsimp only
 rw[if_pos (by unfold lim;omega)]
theorem ER {d:Nat} {kvs:Ks} {p:Nd} {v:Wv} {st:Hs} (h:st[d]? =some (.bM kvs)) (hv:c_ kvs (kk p)=some v):Mo (.ref d) (pw p) st= .ok v st:=by
 have hk:pf (pw p)=some (kk p):=rfl
 unfold Mo getD
 dsimp only
 rw[h]
 dsimp only
 rw[hk]
 dsimp only
 rw[hv]
theorem joined {d:Nat} {kvs:Ks} {a b c:List Wo} {p:Nd} {st:Hs} (h:st[d]? =some (.bM kvs)) (h1:c_ kvs (kk (p.1,md p.1 p.2))=some (.tup (iw a))) (h2:c_ kvs (kk (md p.1 p.2,p.2))=some (.tup (iw b))) (e:a++b=c):∃st',a9 [.ref d,pw p] st= .ok (.tup (iw c)) st'/\Gr st st':=by
 have hh:=oz (p:=p) (st:=st)
 have l1:af (st++[.lst [pw (p.1,md p.1 p.2),pw (md p.1 p.2,p.2)]]) st.length=some [pw (p.1,md p.1 p.2),pw (md p.1 p.2,p.2)]:=aw
 have hd:(st++[.lst [pw (p.1,md p.1 p.2),pw (md p.1 p.2,p.2)]])[d]? =some (.bM kvs):=gK h
 have g1:Gr st (st++[.lst [pw (p.1,md p.1 p.2),pw (md p.1 p.2,p.2)]]):=Gr.push
 generalize st++[.lst [pw (p.1,md p.1 p.2),pw (md p.1 p.2,p.2)]]=s0 at hh l1 hd g1
 have i0:cE (.ref st.length) (.int 0) s0= .ok (pw (p.1,md p.1 p.2)) s0:=kA l1 rfl
 have i1:cE (.ref st.length) (.int 1) s0= .ok (pw (md p.1 p.2,p.2)) s0:=kA l1 rfl
 have d0:=ER hd h1
 have d1:=ER hd h2
 obtain⟨s1,e1,g2⟩:=put (a:=a) (b:=b) (st:=s0)
 rw[e] at e1
 refine⟨s1,?_,g1.trans g2⟩
 unfold a9 dZ dy
 simp[hh,qU,i0,i1,d0,d1,e1]
theorem ju {ws:List Wo} {ps:List Nd}:(ps.map (ent ws)).map (·.1)=ps.map kk:=by rw[List.map_map];rfl
theorem Bk {p:Nd} {ps:List Nd} (h:kk p∈ps.map kk):p∈ps:=by
 obtain⟨q,hq,e⟩:=List.mem_map.mp h
 rw[<-tY e]
 exact hq
theorem DL {W d:Nat} {ws:List Wo} {kvs:Ks} {p:Nd} {st:Hs} (hW:af st W=some (ws.map Wo.w)) (h:st[d]? =some (.bM kvs)) (h0:0<=p.1) (h1:p.1 < p.2) (h2:p.2<=ws.length) (hk:∀q∈kids p,c_ kvs (kk q)=some (.tup (iw (sl ws q)))) :
  ∃st',(lF (c9 (aA 1 bz (aa (ag 2) ai))) (aA 1 dc (aa (bg (aa (aj cE (ag 0) (aj cE (ag 2) (gC (.int 0)))) ai)) ai)) (aA 2 a9 (aa (ag 1) (aa (ag 2) ai)))) [some (.ref W),some (.ref d),some (pw p)] st= .ok (.tup (iw (sl ws p))) st'/\Gr st st':=by
 cases c:sg p with
 | true=>
  have lt:p.1.toNat < ws.length:=by omega
  have ga:ws[p.1.toNat]? =some ws[p.1.toNat]:=List.getElem?_eq_getElem lt
  have es:=Iv h0 c ga
  have ix:cE (.ref W) (.int p.1) st= .ok ws[p.1.toNat].w st:=by
   refine kA hW ?_
   have q:=L2.iU (xs:=ws.map Wo.w) (j:=p.1.toNat) (v:=ws[p.1.toNat].w) (by rw[List.getElem?_map,ga];rfl)
   rw[show((p.1.toNat:Nat):Int)=p.1 by omega] at q
   exact q
  have k1:ig [ws[p.1.toNat].w] st= .ok (.ref st.length) (st++[.lst [ws[p.1.toNat].w]]):=eD (by show 1<=lim;unfold lim;omega)
  have l1:af (st++[.lst [ws[p.1.toNat].w]]) st.length=some ([ws[p.1.toNat]].map Wo.w):=aw
  have g1:Gr st (st++[.lst [ws[p.1.toNat].w]]):=Gr.push
  generalize st++[.lst [ws[p.1.toNat].w]]=s0 at k1 l1 g1
  obtain⟨s1,e1,g2⟩:=Bd l1 (by show 1 < 100;decide)
  rw[<-es] at e1
  exact⟨s1,by simp[single,c,O_,ix,k1,e1],g1.trans g2⟩
 | false=>
  have e:=rM h1 c
  obtain⟨s1,e1,g1⟩:=joined (p:=p) h (hk _ (by rw[e];simp)) (hk _ (by rw[e];simp)) (DK h0 h1 h2)
  exact⟨s1,by simp[single,c,e1],g1⟩
theorem rO {W L d:Nat} {ws:List Wo} {all:List Wv} (hL:L≠d) (hW:W≠d):∀(ps done:List Nd) (o2:Option Wv) (st:Hs),Cl done ps->(∀p∈ps,0<=p.1/\p.1 < p.2/\p.2<=ws.length)->st[d]? =some (.bM (done.map (ent ws)))->af st W=some (ws.map Wo.w)->af st L=some all->done.length+ps.length<=300->
  ∃Iq st',forL 2 aZ L all (ps.map pw) [some (.ref W),some (.ref d),o2] st= .nx [some (.ref W),some (.ref d),Iq] st'/\a8 d st st'/\st'[d]? =some (.bM ((done++ps).map (ent ws)))
 | [],done,o2,st,_,_,h,_,_,_=>⟨o2,st,rfl,a8.refl,by rw[List.append_nil];exact h⟩
 | p::r,done,o2,st,hc,hp,h,hw,hl,hn=>by
  have hn':done.length+(r.length+1)<=300:=hn
  obtain⟨p0,p1,p2⟩:=hp p List.mem_cons_self
  obtain⟨s1,e1,g1⟩:=DL hw h p0 p1 p2 fun q hq=>jr (hc.1 q hq)
  have pd:=Bj (p:=p) (v:=.tup (iw (sl ws p))) (g1.get h) (by rw[List.length_map];omega)
  rw[vD (by rw[ju];exact fun z=>hc.2.1 (Bk z))] at pd
  have e:done.map (ent ws)++[(kk p,.tup (iw (sl ws p)))]=(done++[p]).map (ent ws):=by rw[List.map_append];rfl
  rw[e] at pd
  have h1:=eX (o':=.bM ((done++[p]).map (ent ws))) (g1.get h)
  have k1:a8 d st (s1.set d (.bM ((done++[p]).map (ent ws)))):=g1.keep.trans a8.set
  generalize s1.set d (.bM ((done++[p]).map (ent ws)))=s2 at pd h1 k1
  have bd:aZ ([some (.ref W),some (.ref d),o2].set 2 (some (pw p))) st= .nx [some (.ref W),some (.ref d),some (pw p)] s2:=by
   show aZ [some (.ref W),some (.ref d),some (pw p)] st=_
   unfold aZ n4
   rw[e1]
   simp[pd]
  obtain⟨Iq,s3,e3,k3,h3⟩:=rO hL hW r (done++[p]) (some (pw p)) s2 hc.2.2 (fun q hq=>hp q (List.mem_cons_of_mem _ hq)) h1 (k1.lst hw hW) (k1.lst hl hL) (by rw[List.length_append];show done.length+1+r.length<=300;omega)
  refine⟨Iq,s3,?_,k1.trans k3,by rw[h3,List.append_assoc];rfl⟩
  rw[List.map_cons,forL,bd]
  simp only[if_pos (k1.lst hl hL)]
  exact e3
theorem Bl {l:Nat} {ws:List Wv} {st:Hs} (h:af st l=some ws):jk [.ref l] st= .ok (.int ws.length) st:=by
 have e:kr st[l]? =none:=by
  unfold af at h
  cases q:st[l]? with
  | none=>rfl
  | some o=>
   rw[q] at h
   cases o<;>first | rfl | cases h
 show(match kr st[l]? with | some kvs=>Re.ok (Wv.int kvs.length) st | none=>ff [.ref l] st)=_
 rw[e]
 exact kc h
theorem xu {m:Int} {st:Hs} (h1:1<=m) (h2:m<=99):bA [.int m] st= .ok .aB st:=by
 unfold bA dZ cM
 simp[h1,h2]
def HI (ws:List Wo) (kvs:Ks):Prop:=kvs.map (·.1)=(nodes ws.length).reverse.map kk/\∀q∈nodes ws.length,c_ kvs (kk q)=some (.tup (iw (sl ws q)))
theorem kf {W:Nat} {ws:List Wo} {st:Hs} (hW:af st W=some (ws.map Wo.w)) (h1:1<=ws.length) (h2:ws.length<=99):∃kvs st',aN [.ref W] st= .ok (.ref st.length) st'/\Gr st st'/\st'[st.length]? =some (.bM kvs)/\HI ws kvs:=by
 have m1:(1:Int)<=(ws.length:Int):=by omega
 have m2:(ws.length:Int)<=99:=by omega
 have lt:=b_ hW
 have ln:=fun(s:Hs) (h:af s W=some (ws.map Wo.w))=>by have q:=Bl h;rw[List.length_map] at q;exact q
 have O':af (st++[.bM []]) W=some (ws.map Wo.w):=jK hW
 have hd1:(st++[.bM []])[st.length]? =some (.bM []):=cH
 have g1:Gr st (st++[.bM []]):=Gr.push
 have e1:aI 1 j8 [some (.ref W),none,none] st= .nx [some (.ref W),some (.ref st.length),none] (st++[.bM []]):=by simp[j8]
 generalize st++[.bM []]=s1 at O' hd1 g1 e1
 obtain⟨s2,e2,g2,q2⟩:=rN (st:=s1) m1 m2
 have Tf:=iI hd1
 obtain⟨o2,s3,e3,k3,q3⟩:=rO (W:=W) (L:=s1.length) (d:=st.length) (ws:=ws) (all:=(nodes ws.length).map pw) (by omega) (by omega) (nodes ws.length).reverse [] none s2 (EL 8 (jN m1 m2) (gS m1 m2)) (fun p hp=>rL m1 m2 (List.mem_reverse.mp hp)) (g2.get hd1) (g2.lst O') (cq q2) (by rw[List.length_reverse];have:=h_ m1 m2;show 0+(nodes ws.length).length<=300;omega)
 refine⟨(nodes ws.length).reverse.map (ent ws),s3,?_,?_,q3,ju,fun q hq=>jr (List.mem_reverse.mpr hq)⟩
 ·have e0:gg (aA 1 bA (aa (au jk (aa (ag 0) ai)) ai)) [some (.ref W),none,none] st= .nx [some (.ref W),none,none] st:=by simp[ln st hW,xu m1 m2]
  have e4:qW 2 (aa (aA 1 bF (aa (dU (aa (gC (.int 0)) (aa (au jk (aa (ag 0) ai)) ai))) ai)) ai) aZ [some (.ref W),some (.ref st.length),none] s1= .nx [some (.ref W),some (.ref st.length),o2] s3:=by
   have zg:bF [.tup [.int 0,.int (ws.length:Nat)]] s1= .ok (.ref s1.length) s2:=e2
   unfold qW
   simp only[HS,Ll,HV,Ln,e_c,DF,Lj]
   simp[ln s1 O',zg,cq q2,<-List.map_reverse,e3]
  refine mh (n:=3) (g:=bG) ?_
  unfold bG
  refine(br e0).trans ((br e1).trans ((br e4).trans ?_))
  simp
 ·exact Gr.jL (Nat.le_refl _) (g1.trans g2) k3
theorem vE {ws:List Wo}:∀{ps:List Nd} {kvs:Ks},ps.Nodup->kvs.map (·.1)=ps.map kk->(∀q∈ps,c_ kvs (kk q)=some (.tup (iw (sl ws q))))->kvs=ps.map (ent ws)
 | [],kvs,_,h,_=>by simpa using h
 | p::r,[],_,h,_=>by cases h
 | p::r,kv::rest,n,h,hv=>by
  rw[List.map_cons,List.map_cons] at h
  injection h with h1 h2
  rw[List.nodup_cons] at n
  have v0:=hv p List.mem_cons_self
  unfold c_ at v0
  rw[if_pos h1] at v0
  injection v0 with v0
  have ih:=vE (ws:=ws) n.2 h2 fun q hq=>by
   have v:=hv q (List.mem_cons_of_mem _ hq)
   unfold c_ at v
   rw[if_neg (fun z=>n.1 (by rw[tY (h1.symm.trans z)];exact hq))] at v
   exact v
  rw[List.map_cons,<-ih]
  congr 1
  exact Prod.ext h1 v0
theorem LD {ws:List Wo} {kvs:Ks} (h:HI ws kvs) (m1:1<=ws.length) (m2:ws.length<=99):kvs=(nodes ws.length).reverse.map (ent ws) :=
 vE ((List.reverse_perm _).nodup_iff.mpr (gS (by omega) (by omega))) h.1 fun q hq=>h.2 q (List.mem_reverse.mp hq)
theorem jv {ws:List Wo} {ps:List Nd} {st:Hs}:jH st (ps.map (ent ws))=true:=by
 unfold jH
 rw[List.all_eq_true]
 intro kv hkv
 obtain⟨p,_,rfl⟩:=List.mem_map.mp hkv
 obtain⟨d,h1,_⟩:=vz (sl ws p)
 show(aG st 20 (.tup (iw (sl ws p)))).isSome=true
 rw[h1]
 rfl
theorem pR {c d:PySem.Str} {b:Bool} {st:Hs} (h:bw.lookup (c,d)=some b):aX bw aF [.eR c,.cls d] st= .ok (.bl b) st:=by
 show(match bw.lookup (c,d) with | some b=>Re.ok (Wv.bl b) st | none=> .bad)=_
 rw[h]
theorem Tg {st:Hs}:aX bw aF [.eR "BadCount",.ty "ValueError"] st= .ok (.bl true) st:=by
 show(match aF.lookup (("BadCount":PySem.Str),("ValueError":String)) with | some b=>Re.ok (Wv.bl b) st | none=> .bad)=_
 rw[show aF.lookup (("BadCount":PySem.Str),("ValueError":String))=some true by decide+kernel]
def hb:List Bool:=[false,false,false,false,false,false,false,false,true,false,false,false,false,false,false,true]
def hv:Wv->Bool
 | .int i=>hb.getD i.toNat false
 | _=>false
theorem Iw:((bY 0 (16:Int).toNat).filter hv).map id=[.int 8,.int 15]:=by
 rw[List.map_id]
 rfl
theorem kinds {st:Hs}:∃(l:Nat) (st':Hs),cQ [.eR "BadCount"] st= .ok (.ref l) st'/\af st' l=some [.int 8,.int 15]/\Gr st st':=by
 have t0:∀st:Hs,aX bw aF [.eR "BadCount",.cls "BadPlace"] st= .ok (.bl false) st:=fun _=>pR (by decide+kernel)
 have t1:∀st:Hs,aX bw aF [.eR "BadCount",.cls "BadArea"] st= .ok (.bl false) st:=fun _=>pR (by decide+kernel)
 have t2:∀st:Hs,aX bw aF [.eR "BadCount",.cls "BadText"] st= .ok (.bl false) st:=fun _=>pR (by decide+kernel)
 have t3:∀st:Hs,aX bw aF [.eR "BadCount",.cls "BadFormula"] st= .ok (.bl false) st:=fun _=>pR (by decide+kernel)
 have t4:∀st:Hs,aX bw aF [.eR "BadCount",.cls "BadContent"] st= .ok (.bl false) st:=fun _=>pR (by decide+kernel)
 have t5:∀st:Hs,aX bw aF [.eR "BadCount",.cls "Full"] st= .ok (.bl false) st:=fun _=>pR (by decide+kernel)
 have t6:∀st:Hs,aX bw aF [.eR "BadCount",.cls "NoCell"] st= .ok (.bl false) st:=fun _=>pR (by decide+kernel)
 have t7:∀st:Hs,aX bw aF [.eR "BadCount",.cls "NotWaiting"] st= .ok (.bl false) st:=fun _=>pR (by decide+kernel)
 have t8:∀st:Hs,aX bw aF [.eR "BadCount",.cls "BadCount"] st= .ok (.bl true) st:=fun _=>pR (by decide+kernel)
 have t9:∀st:Hs,aX bw aF [.eR "BadCount",.cls "NoRoom"] st= .ok (.bl false) st:=fun _=>pR (by decide+kernel)
 have Th:∀st:Hs,aX bw aF [.eR "BadCount",.cls "BadTable"] st= .ok (.bl false) st:=fun _=>pR (by decide+kernel)
 have Ti:∀st:Hs,aX bw aF [.eR "BadCount",.cls "NoTable"] st= .ok (.bl false) st:=fun _=>pR (by decide+kernel)
 have Tj:∀st:Hs,aX bw aF [.eR "BadCount",.cls "NoColumn"] st= .ok (.bl false) st:=fun _=>pR (by decide+kernel)
 have Tn:∀st:Hs,aX bw aF [.eR "BadCount",.cls "NoDeed"] st= .ok (.bl false) st:=fun _=>pR (by decide+kernel)
 have To:∀st:Hs,aX bw aF [.eR "BadCount",.cls "Clash"] st= .ok (.bl false) st:=fun _=>pR (by decide+kernel)
 obtain⟨x,hx⟩:∃x:List Wv,[Wv.bl false,.bl false,.bl false,.bl false]=x:=⟨_,rfl⟩
 obtain⟨y,hy⟩:∃y:List Wv,[Wv.bl true,.bl false,.bl false,.bl false]=y:=⟨_,rfl⟩
 obtain⟨z,hz⟩:∃z:List Wv,[Wv.bl false,.bl false,.bl false,.bl true]=z:=⟨_,rfl⟩
 have nx:x.length=4:=by rw[<-hx];rfl
 have ny:y.length=4:=by rw[<-hy];rfl
 have nz:z.length=4:=by rw[<-hz];rfl
 have kx:∀st:Hs,ig x st= .ok (.ref st.length) (st++[.lst x]):=fun st=>eD (by rw[nx];unfold lim;omega)
 have ky:∀st:Hs,ig y st= .ok (.ref st.length) (st++[.lst y]):=fun st=>eD (by rw[ny];unfold lim;omega)
 have kz:∀st:Hs,ig z st= .ok (.ref st.length) (st++[.lst z]):=fun st=>eD (by rw[nz];unfold lim;omega)
 obtain⟨s1,hs1⟩:∃s1,st++[Ob.lst x]=s1:=⟨_,rfl⟩
 obtain⟨s2,hs2⟩:∃s2,s1++[Ob.lst x]=s2:=⟨_,rfl⟩
 obtain⟨s3,KP⟩:∃s3,s2++[Ob.lst y]=s3:=⟨_,rfl⟩
 obtain⟨s4,Pa⟩:∃s4,s3++[Ob.lst z]=s4:=⟨_,rfl⟩
 have g1:Gr st s1:=by rw[<-hs1];exact Gr.push
 have g2:Gr s1 s2:=by rw[<-hs2];exact Gr.push
 have g3:Gr s2 s3:=by rw[<-KP];exact Gr.push
 have g4:Gr s3 s4:=by rw[<-Pa];exact Gr.push
 have l1:af s4 st.length=some x:=(g2.trans (g3.trans g4)).lst (by rw[<-hs1];exact aw)
 have l2:af s4 s1.length=some x:=(g3.trans g4).lst (by rw[<-hs2];exact aw)
 have l3:af s4 s2.length=some y:=g4.lst (by rw[<-KP];exact aw)
 have l4:af s4 s3.length=some z:=by rw[<-Pa];exact aw
 have a1:=add_l l1 l2 (by unfold lim;omega)
 obtain⟨s5,Pb⟩:∃s5,s4++[Ob.lst (x++x)]=s5:=⟨_,rfl⟩
 rw[Pb] at a1
 have g5:Gr s4 s5:=by rw[<-Pb];exact Gr.push
 have l5:af s5 s4.length=some (x++x):=by rw[<-Pb];exact aw
 have a2:=add_l l5 (g5.lst l3) (by rw[List.length_append];unfold lim;omega)
 obtain⟨s6,Pc⟩:∃s6,s5++[Ob.lst (x++x++y)]=s6:=⟨_,rfl⟩
 rw[Pc] at a2
 have g6:Gr s5 s6:=by rw[<-Pc];exact Gr.push
 have l6:af s6 s5.length=some (x++x++y):=by rw[<-Pc];exact aw
 have a3:=add_l l6 ((g5.trans g6).lst l4) (by rw[List.length_append,List.length_append];unfold lim;omega)
 obtain⟨s7,Pe⟩:∃s7,s6++[Ob.lst (x++x++y++z)]=s7:=⟨_,rfl⟩
 rw[Pe] at a3
 have g7:Gr s6 s7:=by rw[<-Pe];exact Gr.push
 have l7:af s7 s6.length=some (hb.map Wv.bl):=by rw[<-Pe,aw,<-hx,<-hy,<-hz];rfl
 have cp:=hZ (cs:=[("heard",5)]) (gt:=bU) (ge:=de) (ρ:=[some (.eR "BadCount"),some (.ref st.length),some (.ref s1.length),some (.ref s2.length),some (.ref s3.length),some (.ref s6.length)]) (w:=(none,bY 0 (16:Int).toNat)) (st:=s7) (t:=hv) (f:=id) trivial
  (fun v hv' acc=>by
   obtain⟨i,rfl,i0,i1⟩:=vq hv'
   have i2:i < 16:=by have:((16:Int).toNat:Int)=16:=rfl;omega
   have e:cE (.ref s6.length) (.int i) (s7++[.lst acc])= .ok (.bl (hb.getD i.toNat false)) (s7++[.lst acc]):=by
    refine kA (jK l7) ?_
    have:i=0\/i=1\/i=2\/i=3\/i=4\/i=5\/i=6\/i=7\/i=8\/i=9\/i=10\/i=11\/i=12\/i=13\/i=14\/i=15:=by omega
    rcases this with rfl | rfl | rfl | rfl | rfl | rfl | rfl | rfl | rfl | rfl | rfl | rfl | rfl | rfl | rfl | rfl<;>rfl
   unfold bU
   simp[ja,e,hv])
  (fun v hv' _ acc=>rfl) (by show(bY 0 (16:Int).toNat).length < lim;rw[gI];unfold lim;omega)
 rw[show((none,bY 0 (16:Int).toNat):Wk).2=bY 0 (16:Int).toNat from rfl,Iw] at cp
 have Tp:df [("heard",5)] bU de [some (.eR "BadCount"),some (.ref st.length),some (.ref s1.length),some (.ref s2.length),some (.ref s3.length),some (.ref s6.length)] (none,bY 0 16) s7= .ok (.ref s7.length) (s7++[.lst [.int 8,.int 15]]):=cp
 have r1:=HW (j:=16) (st:=s7) (HX (by omega) (by omega))
 refine⟨s7.length,s7++[.lst [.int 8,.int 15]],?_,aw,g1.trans (g2.trans (g3.trans (g4.trans (g5.trans (g6.trans (g7.trans Gr.push))))))⟩
 refine mh (n:=6) (g:=cP) ?_
 unfold cP
 simp[-List.append_assoc,-List.length_append,t0,t1,t2,t3,t4,t5,t6,t7,t8,t9,Th,Ti,Tj,Tn,To,Tg,hx,hy,hz,kx,ky,kz,hs1,hs2,KP,Pa,a1,a2,a3,r1,Tp]
theorem LG (st:Hs) (n:Nat) (a:Wo):∃d,aG st (n+1) a.w=some d/\PyData.eqv d d=true:=by
 cases a with
 | aB=>exact⟨.none,rfl,rfl⟩
 | int i=>exact⟨.int i,rfl,Lv⟩
 | txt x=>exact⟨.str x,rfl,Lw⟩
 | pQ x=>exact⟨.tuple [.str "fault",.str x],by cases n<;>rfl,HY⟩
theorem Bm (st:Hs) (n:Nat):∀ws:List Wo,∃ds,gy (aG st (n+1)) (ws.map Wo.w)=some ds/\PyData.eqvAll ds ds=true
 | []=>⟨[],rfl,rfl⟩
 | a::r=>by
  obtain⟨d,h1,h2⟩:=LG st n a
  obtain⟨ds,k1,k2⟩:=Bm st n r
  refine⟨d::ds,?_,?_⟩
  ·rw[List.map_cons]
   unfold gy
   rw[h1,k1]
  ·simp[PyData.eqvAll,h2,k2]
theorem LH {ws:List Wo} {a b:Nat} {st:Hs} (h1:af st a=some (ws.map Wo.w)) (h2:af st b=some (ws.map Wo.w)):xB (.ref a) (.ref b) st= .ok (.bl false) st:=by
 obtain⟨ds,k1,k2⟩:=Bm st 18 ws
 refine HZ (d:=.list ds) ?_ ?_ ?_
 ·rw[vt h1,k1];rfl
 ·rw[vt h2,k1];rfl
 ·simpa [PyData.eqv] using k2
theorem DM {l:Nat} {ws:List Wv} {st:Hs} (h:af st l=some ws):jF [.ref l] st= .ok (.ref st.length) (st++[.lst ws]):=by
 have e:iF [.ref l] st= .ok (.ref st.length) (st++[.lst ws]):=by
  show(match af st l with | some ws=>Re.ok (Wv.ref st.length) (st++[Ob.lst ws]) | none=> .bad)=_
  rw[h]
 show(match st[l]? with | some (.bM kvs)=>(match et (List.map (fun x:List L2.Key×Wv=>x.1) kvs) with | some ws=>Re.ok (Wv.ref st.length) (st++[Ob.lst ws]) | none=> .bad) | _=>iF [.ref l] st)=_
 cases q:st[l]? with
 | none=>exact e
 | some o=>
  cases o with
  | bM kvs=>
   unfold af at h
   rw[q] at h
   cases h
  | _=>exact e
theorem LI {ps qs:List Nd} {p:Nd} {A:Nat} {st:Hs} (h:af st A=some ((ps++p::qs).map pw)):cE (.ref A) (.int (ps.length:Nat)) st= .ok (pw p) st:=by
 refine kA h ?_
 have e:((ps++p::qs).map pw)[ps.length]? =some (pw p):=by rw[List.getElem?_map,List.getElem?_append_right (Nat.le_refl _),Nat.sub_self];rfl
 exact L2.iU e
abbrev vF (m:Int) (A n:Nat) (a b c:Option Wv):aS:=[some (.int m),some (.ref A),some (.int (n:Nat)),a,b,c]
theorem xv {m:Int} {A:Nat} {ps qs:List Nd} {p:Nd} {a b c:Option Wv} {st:Hs} (h:af st A=some ((ps++p::qs).map pw)) (hl:(ps++p::qs).length<=1000) (hp:p.1 < p.2) :
  ∃A' a' b' c' st',aJ (vF m A ps.length a b c) st= .nx (vF m A' (ps.length+1) a' b' c') st'/\Gr st st'/\af st' A'=some ((ps++p::qs++kids p).map pw):=by
 have ix:=LI h
 have b1:qp [3,4] (aj cE (ag 1) (ag 2)) (vF m A ps.length a b c) st= .nx (vF m A ps.length (some (.int p.1)) (some (.int p.2)) c) st:=by
  unfold qp
  simp[ix]
  rfl
 have b2:aI 2 (aj dt (ag 2) (gC (.int 1))) (vF m A ps.length (some (.int p.1)) (some (.int p.2)) c) st= .nx (vF m A (ps.length+1) (some (.int p.1)) (some (.int p.2)) c) st:=by simp
 by_cases w:1 < p.2 - p.1
 ·have kd:kids p=[(p.1,md p.1 p.2),(md p.1 p.2,p.2)]:=by unfold kids;rw[if_pos w]
  have dv:bW (.int (p.1+p.2)) (.int 2) st= .ok (.int (md p.1 p.2)) st:=Q1
  have kl:=tT (x0:=pw (p.1,md p.1 p.2)) (x1:=pw (md p.1 p.2,p.2)) (st:=st)
  have l1:af (st++[.lst [pw (p.1,md p.1 p.2),pw (md p.1 p.2,p.2)]]) st.length=some ((kids p).map pw):=by rw[kd];exact aw
  have g1:Gr st (st++[.lst [pw (p.1,md p.1 p.2),pw (md p.1 p.2,p.2)]]):=Gr.push
  generalize st++[.lst [pw (p.1,md p.1 p.2),pw (md p.1 p.2,p.2)]]=s1 at kl l1 g1
  have ad:=add_l (g1.lst h) l1 (by rw[List.length_map,List.length_map,kd];show(ps++p::qs).length+2<=lim;unfold lim;omega)
  rw[<-List.map_append] at ad
  have l2:=aw (st:=s1) (ws:=(ps++p::qs++kids p).map pw)
  have g2:Gr s1 (s1++[.lst ((ps++p::qs++kids p).map pw)]):=Gr.push
  generalize s1++[.lst ((ps++p::qs++kids p).map pw)]=s2 at ad l2 g2
  have Tq:ig [.tup [.int p.1,.int (md p.1 p.2)],.tup [.int (md p.1 p.2),.int p.2]] st= .ok (.ref st.length) s1:=kl
  refine⟨s1.length,some (.int p.1),some (.int p.2),some (.int (md p.1 p.2)),s2,?_,g1.trans g2,l2⟩
  unfold aJ
  refine(br b1).trans ((br b2).trans ?_)
  simp[w,dv,Tq,ad]
 ·have kd:kids p=[]:=by unfold kids;rw[if_neg w]
  refine⟨A,some (.int p.1),some (.int p.2),c,st,?_,Gr.refl,by rw[kd,List.append_nil];exact h⟩
  unfold aJ
  refine(br b1).trans ((br b2).trans ?_)
  simp[w]
theorem mE {m:Int}:∀(l ps acc:List Nd) (N A:Nat) (a b c:Option Wv) (st:Hs),af st A=some ((ps++l++acc).map pw)->(ps++l++acc).length+2 * l.length<=1000->(∀p∈l,p.1 < p.2)->
  ∃A' a' b' c' st',tm (bp (aj oLt (ag 2) (au ff (aa (ag 1) ai)))) aJ (N+l.length) (vF m A ps.length a b c) st=tm (bp (aj oLt (ag 2) (au ff (aa (ag 1) ai)))) aJ N (vF m A' (ps.length+l.length) a' b' c') st'/\Gr st st'/\af st' A'=some ((ps++l++(acc++l.flatMap kids)).map pw)
 | [],ps,acc,N,A,a,b,c,st,h,_,_=>⟨A,a,b,c,st,rfl,Gr.refl,by rw[h];simp⟩
 | p::r,ps,acc,N,A,a,b,c,st,h,hl,hp=>by
  have e0:ps++(p::r)++acc=ps++p::(r++acc):=by simp
  have n0:(ps++(p::r)++acc).length=ps.length+(r.length+1)+acc.length:=by simp;omega
  have n1:(p::r).length=r.length+1:=rfl
  have ln:=kc h
  rw[List.length_map,n0] at ln
  have hk:(kids p).length<=2:=by unfold kids;split<;>simp
  obtain⟨A1,a1,b1,c1,s1,t1,g1,l1⟩:=xv (m:=m) (a:=a) (b:=b) (c:=c) (by rw[e0] at h;exact h) (by rw[<-e0];omega) (hp p List.mem_cons_self)
  have e1:ps++p::(r++acc)++kids p=(ps++[p])++r++(acc++kids p):=by simp
  rw[e1] at l1
  have n2:((ps++[p])++r++(acc++kids p)).length=ps.length+1+r.length+(acc.length+(kids p).length):=by simp;omega
  obtain⟨A2,a2,b2,c2,s2,t2,g2,l2⟩:=mE (m:=m) r (ps++[p]) (acc++kids p) N A1 a1 b1 c1 s1 l1 (by omega) fun q hq=>hp q (List.mem_cons_of_mem _ hq)
  have n3:(ps++[p]).length=ps.length+1:=by simp
  rw[n3] at t2
  refine⟨A2,a2,b2,c2,s2,?_,g1.trans g2,?_⟩
  ·have D7:(bp (aj oLt (ag 2) (au ff (aa (ag 1) ai)))) (vF m A ps.length a b c) st= .ok true st:=by
    have lt:((ps.length:Nat):Int) < ((ps.length+(r.length+1)+acc.length:Nat):Int):=by omega
    simp[ln,lt]
    omega
   rw[n1,<-Nat.add_assoc,EN D7 t1,t2,show ps.length+(r.length+1)=ps.length+1+r.length by omega]
  ·rw[l2,List.flatMap_cons]
   simp
theorem t_ {m:Int} {ps:List Nd} {N A:Nat} {a b c:Option Wv} {st:Hs} (h:af st A=some (ps.map pw)):tm (bp (aj oLt (ag 2) (au ff (aa (ag 1) ai)))) aJ (N+1) (vF m A ps.length a b c) st= .nx (vF m A ps.length a b c) st:=by
 have ln:=kc h
 rw[List.length_map] at ln
 exact EO (by simp[ln])
theorem mF {m:Int}:∀(n:Nat) (l ps:List Nd) (N A:Nat) (a b c:Option Wv) (st:Hs),it n l=[]->af st A=some ((ps++l).map pw)->ps.length+(nd n l).length<=250->(nd n l).length < N->(∀p∈l,p.1 < p.2)->
  ∃A' k a' b' c' st',tm (bp (aj oLt (ag 2) (au ff (aa (ag 1) ai)))) aJ N (vF m A ps.length a b c) st= .nx (vF m A' k a' b' c') st'/\Gr st st'/\af st' A'=some ((ps++nd n l).map pw)
 | 0,l,ps,N,A,a,b,c,st,hi,h,_,hN,_=>by
  have:l=[]:=hi
  subst this
  rw[List.append_nil] at h
  obtain⟨N',rfl⟩:∃N',N=N'+1:=⟨N - 1,by omega⟩
  exact⟨A,ps.length,a,b,c,st,t_ h,Gr.refl,by rw[h];simp[nd]⟩
 | n+1,l,ps,N,A,a,b,c,st,hi,h,hl,hN,hp=>by
  have hnd:nd (n+1) l=l++nd n (l.flatMap kids):=rfl
  have n1:(nd (n+1) l).length=l.length+(nd n (l.flatMap kids)).length:=by rw[hnd,List.length_append]
  obtain⟨N',rfl⟩:∃N',N=N'+l.length:=⟨N - l.length,by omega⟩
  obtain⟨A1,a1,b1,c1,s1,t1,g1,l1⟩:=mE (m:=m) l ps [] N' A a b c st (by rw[List.append_nil];exact h) (by rw[List.append_nil,List.length_append];omega) hp
  rw[List.nil_append] at l1
  obtain⟨A2,k,a2,b2,c2,s2,t2,g2,l2⟩:=mF (m:=m) n (l.flatMap kids) (ps++l) N' A1 a1 b1 c1 s1 hi l1 (by rw[List.length_append];omega) (by omega) fun q hq=>by
   obtain⟨x,hx,hq⟩:=List.mem_flatMap.mp hq
   exact(vB (hp x hx) hq).1
  rw[List.length_append] at t2
  exact⟨A2,k,a2,b2,c2,s2,t1.trans t2,g1.trans g2,by rw[l2,hnd,List.append_assoc]⟩
theorem xw {m:Int} {st:Hs} (h1:1<=m) (h2:m<=99):∃A st',cL [.int m] st= .ok (.ref A) st'/\Gr st st'/\af st' A=some ((nodes m).map pw):=by
 have k1:=tS (x0:=pw (0,m)) (st:=st)
 have l1:af (st++[.lst [pw (0,m)]]) st.length=some (([]++[((0,m):Nd)]).map pw):=aw
 have g1:Gr st (st++[.lst [pw (0,m)]]):=Gr.push
 generalize st++[.lst [pw (0,m)]]=s1 at k1 l1 g1
 have q:(nd 8 [(0,m)]).length<=200:=h_ h1 h2
 obtain⟨A,k,a,b,c,s2,t,g2,l2⟩:=mF (m:=m) 8 [(0,m)] [] 100000 st.length none none none s1 (jN h1 h2) l1 (by show 0+(nd 8 [(0,m)]).length<=250;omega) (by omega) fun p hp=>by rw[List.mem_singleton.mp hp];show(0:Int) < m;omega
 have Qb:ig [.tup [.int 0,.int m]] st= .ok (.ref st.length) s1:=k1
 have t':jG jI (bp (aj oLt (ag 2) (au ff (aa (ag 1) ai)))) aJ [some (.int m),some (.ref st.length),some (.int 0),none,none,none] s1= .nx (vF m A k a b c) s2:=t
 have b1:aI 1 (bg (aa (dU (aa (gC (.int 0)) (aa (ag 0) ai))) ai)) [some (.int m),none,none,none,none,none] st= .nx [some (.int m),some (.ref st.length),none,none,none,none] s1:=by simp[Qb]
 have b2:aI 2 (gC (.int 0)) [some (.int m),some (.ref st.length),none,none,none,none] s1= .nx [some (.int m),some (.ref st.length),some (.int 0),none,none,none] s1:=by simp
 refine⟨A,s2,?_,g1.trans g2,l2⟩
 refine mh (n:=6) (g:=dN) ?_
 unfold dN
 refine(br b1).trans ((br b2).trans ((br t').trans ?_))
 simp
theorem Iy {ws:List Wo} {p:Nd} (h0:0<=p.1) (h1:p.1 < p.2) (h2:p.2<=ws.length):lH (ws.map Wo.w) (some p.1) (some p.2)=(sl ws p).map Wo.w:=by
 rw[DI h0 (by omega) (by omega) h2]
 unfold sl
 rw[List.drop_take]
theorem Iz {ws:List Wo} {p:Nd} (h:ws.length < 100):(sl ws p).length < 100:=by
 unfold sl
 rw[List.length_drop,List.length_take]
 omega
theorem DN {W d:Nat} {ws:List Wo} {done:List Nd} {p:Nd} {st:Hs} (hW:af st W=some (ws.map Wo.w)) (h:st[d]? =some (.bM (done.map (ent ws)))) (hlen:ws.length<=99) (hd:done.length<=300) (h0:0<=p.1) (h1:p.1 < p.2) (h2:p.2<=ws.length) (hn:p∉done) :
  ∃(l:Nat) (s1 s2 s3:Hs),zI (.ref W) (some p.1) (some p.2) st= .ok (.ref l) s1/\bT [.ref l] s1= .ok (.tup (iw (sl ws p))) s2/\putD (.ref d) (pw p) (.tup (iw (sl ws p))) s2=some s3/\a8 d st s3/\s3[d]? =some (.bM ((done++[p]).map (ent ws))):=by
 have s:=OV (lo:=some p.1) (hi:=some p.2) hW
 rw[Iy h0 h1 h2] at s
 have l1:=aw (st:=st) (ws:=(sl ws p).map Wo.w)
 have g1:Gr st (st++[.lst ((sl ws p).map Wo.w)]):=Gr.push
 generalize st++[.lst ((sl ws p).map Wo.w)]=s1 at s l1 g1
 obtain⟨s2,e2,g2⟩:=LC l1 (Iz (by omega))
 have hd2:=(g1.trans g2).get h
 have pd:=Bj (p:=p) (v:=.tup (iw (sl ws p))) hd2 (by rw[List.length_map];omega)
 rw[vD (by rw[ju];exact fun z=>hn (Bk z))] at pd
 have e:done.map (ent ws)++[(kk p,.tup (iw (sl ws p)))]=(done++[p]).map (ent ws):=by rw[List.map_append];rfl
 rw[e] at pd
 exact⟨st.length,s1,s2,_,s,e2,pd,(g1.trans g2).keep.trans a8.set,eX hd2⟩
theorem ua {ws:List Wo} {ps qs:List Nd} {st:Hs} (hl:ps.length=qs.length) (hm:∀p∈ps,p∈qs):j9 st (ps.map (ent ws)) (qs.map (ent ws))=true:=by
 unfold j9
 rw[decide_eq_true (by rw[List.length_map,List.length_map,hl]),Bool.true_and,List.all_eq_true,ju]
 intro k hk
 obtain⟨p,hp,rfl⟩:=List.mem_map.mp hk
 have v:=jr (ws:=ws) hp
 have v2:=jr (ws:=ws) (hm p hp)
 obtain⟨d,h1,h2⟩:=vz (sl ws p)
 unfold Eu
 rw[v,v2]
 dsimp only
 rw[h1]
 simpa using h2
theorem Bn {ws:List Wo} {k1:Ks} {a b:Nat} {st:Hs} (ha:st[a]? =some (.bM k1)) (hb:st[b]? =some (.bM ((nodes ws.length).map (ent ws)))) (h1:HI ws k1) (m1:1<=ws.length) (m2:ws.length<=99):qZ (.ref a) (.ref b) st= .ok (.bl true) st/\q_ (.ref a) (.ref b) st= .ok (.bl false) st:=by
 have e1:=LD h1 m1 m2
 subst e1
 have da:l_ st (.ref a)=some ((nodes ws.length).reverse.map (ent ws)):=by show kr st[a]? =_;rw[ha];rfl
 have db:l_ st (.ref b)=some ((nodes ws.length).map (ent ws)):=by show kr st[b]? =_;rw[hb];rfl
 have sm:=ua (ws:=ws) (ps:=(nodes ws.length).reverse) (qs:=nodes ws.length) (st:=st) (List.length_reverse) fun p hp=>List.mem_reverse.mp hp
 unfold qZ q_
 rw[da,db]
 dsimp only
 rw[if_pos ⟨jv,jv⟩,if_pos ⟨jv,jv⟩,sm]
 exact⟨rfl,rfl⟩
theorem Bo {m:Int} {st:Hs} (h:¬(1<=m/\m<=99)):bA [.int m] st= .err "BadCount" st:=by
 refine A0 (n:=1) (g:=cM) (ρ:=[some (.int m)]) ?_
 unfold cM
 by_cases h1:1<=m
 ·have h2:¬m<=99:=fun z=>h ⟨h1,z⟩
  simp[h1,h2,lim]
 ·simp[h1,lim]
theorem DO {W:Nat} {ws:List Wv} {st:Hs} (hW:af st W=some ws) (h:¬(1<=ws.length/\ws.length<=99)):aN [.ref W] st= .err "BadCount" st:=by
 have ln:=Bl hW
 have cn:=Bo (m:=(ws.length:Nat)) (st:=st) (by omega)
 refine A0 (n:=3) (g:=bG) (ρ:=[some (.ref W),none,none]) ?_
 unfold bG
 simp[ln,cn]
theorem refusal {W:Nat} {ws:List Wv} {st:Hs} (hW:af st W=some ws) (h:¬(1<=ws.length/\ws.length<=99)):∃(l:Nat) (st':Hs),aH [.ref W] st= .ok (.ref l) st'/\af st' l=some [.int 8,.int 15]/\Gr st st':=by
 obtain⟨s1,hs1⟩:∃s1,st++[Ob.lst []]=s1:=⟨_,rfl⟩
 have g1:Gr st s1:=by rw[<-hs1];exact Gr.push
 have cn:=DO (g1.lst hW) h
 obtain⟨l,s2,e2,l2,g2⟩:=kinds (st:=s1)
 have tc:du.lookup (("BadCount":PySem.Str),("SheetError":PySem.Str))=some true:=by decide+kernel
 have bd:cT [some (.ref W),some (.ref st.length),none] s1= .err "BadCount" [some (.ref W),some (.ref st.length),none] s1:=by
  unfold cT
  simp[cn]
 have su:bJ [some (.ref W),some (.ref st.length),some (.eR "BadCount")] s1= .nx [some (.ref W),some (.ref l),some (.eR "BadCount")] s2:=by
  unfold bJ
  simp[e2]
 have tr:=A4 (cat:=fun y=>du.lookup (y,("SheetError":PySem.Str))) (i:=2) (gs:=bJ) (ρ:=[some (.ref W),some (.ref st.length),none]) (st:=s1) tc su
 refine⟨l,s2,?_,l2,g1.trans g2⟩
 refine mh (n:=3) (g:=cU) ?_
 unfold cU
 simp[hs1,bd,tr]
theorem IA {l l':Nat} {st:Hs} (h:af st l=some [.int 8,.int 15]) (h':af st l'=some [.int 8,.int 15]):oEq (.ref l) (.ref l') st= .ok (.bl true) st :=
 H_ (by rw[vt h];rfl) (by rw[vt h'];rfl) (by simp[PyData.eqv,PyData.eqvAll])
theorem asked {ga:GE} {ρ:aS} {W:Nat} {ws:List Wv} {st s0:Hs} (ea:ga ρ st= .ok (.ref W) s0) (hW:af s0 W=some ws) (h:¬(1<=ws.length/\ws.length<=99)):∃st',aj oEq (aA 1 aH (aa ga ai)) (bg (aa (gC (.int 8)) (aa (gC (.int 15)) ai))) ρ st= .ok (.bl true) st'/\Gr s0 st':=by
 obtain⟨l,s1,e1,l1,g1⟩:=refusal hW h
 have k2:=tT (x0:=.int 8) (x1:=.int 15) (st:=s1)
 have eq:=IA (st:=s1++[.lst [.int 8,.int 15]]) (Gr.push.lst l1) aw
 refine⟨s1++[.lst [.int 8,.int 15]],?_,g1.trans Gr.push⟩
 simp[ea,e1,eq]
theorem IB {m:Int} {l:Nat} {st:Hs} (h:af st l=some [.int 0,.int 100]):qI (.int m) (.ref l) st= .ok (.bl ((0:Int) == m||((100:Int) == m||false))) st:=by
 have e:fH st (.ref l)=some [.int 0,.int 100]:=h
 show(match fH st (.ref l) with | some ws=>if dY (.int m)=true/\ws.all dY=true then Re.ok (Wv.bl (ws.any fun z=>Kp z (.int m))) st else .bad | none=> .bad)=_
 rw[e]
 dsimp only
 rw[if_pos ⟨rfl,rfl⟩]
 rfl
theorem vG {l:Nat} {v:Wv} {k:Int} {st:Hs} (h:st[l]? =some (.lst [v])) (k0:0<=k) (k1:k < 1000):bE (.ref l) (.int k) st= .ok (.ref st.length) (st++[.lst (List.replicate k.toNat v)]):=by
 show(match st[l]? with | some (.lst ws)=>if CF ws.length k then Re.ok (Wv.ref st.length) (st++[Ob.lst (List.replicate k.toNat ws).flatten]) else .bad | _=> .bad)=_
 rw[h]
 dsimp only
 rw[if_pos ⟨by omega,by omega,by show 1 * k.toNat<=lim;unfold lim;omega⟩]
 congr 3
 rw[Ob.lst.injEq]
 generalize k.toNat=n
 induction n with
 | zero=>rfl
 | succ n ih=>rw[List.replicate_succ,List.flatten_cons,ih];rfl
abbrev R9 (v m:Option Wv) (W K d:Nat) (o6 o7 o8:Option Wv):aS:=[some (.ref 0),v,m,some (.ref W),some (.ref K),some (.ref d),o6,o7,o8]
theorem rP {W K L d:Nat} {ws:List Wo} {all:List Wv} {v m:Option Wv} (hL:L≠d) (hW:W≠d) (hlen:ws.length<=99):∀(ps done:List Nd) (o6 o7:Option Wv) (st:Hs),(done++ps).Nodup->(done++ps).length<=300->(∀p∈ps,0<=p.1/\p.1 < p.2/\p.2<=ws.length)->st[d]? =some (.bM (done.map (ent ws)))->af st W=some (ws.map Wo.w)->af st L=some all->
  ∃Pf Pg st',jY [6,7] gR L all (ps.map pw) (R9 v m W K d o6 o7 none) st= .nx (R9 v m W K d Pf Pg none) st'/\a8 d st st'/\st'[d]? =some (.bM ((done++ps).map (ent ws)))
 | [],done,o6,o7,st,_,_,_,h,_,_=>⟨o6,o7,st,rfl,a8.refl,by rw[List.append_nil];exact h⟩
 | p::r,done,o6,o7,st,nd,hn,hp,h,hw,hl=>by
  obtain⟨p0,p1,p2⟩:=hp p List.mem_cons_self
  have Tr:((done++[p])++r).Nodup:=by simpa using nd
  have hn':((done++[p])++r).length<=300:=by simpa using hn
  have np:p∉done:=fun z=>by
   rw[List.nodup_append] at nd
   exact nd.2.2 p z p List.mem_cons_self rfl
  have hd:done.length<=300:=by rw[List.length_append] at hn;omega
  obtain⟨l,s1,s2,s3,a1,a2,a3,k,q⟩:=DN hw h hlen hd p0 p1 p2 np
  have bd:gR (R9 v m W K d (some (.int p.1)) (some (.int p.2)) none) st= .nx (R9 v m W K d (some (.int p.1)) (some (.int p.2)) none) s3:=by
   unfold gR n4
   have Ts:putD (.ref d) (.tup [.int p.1,.int p.2]) (.tup (iw (sl ws p))) s2=some s3:=a3
   simp[a1,a2,Ts]
  obtain⟨Pf,Pg,s4,e4,k4,q4⟩:=rP (v:=v) (m:=m) hL hW hlen r (done++[p]) (some (.int p.1)) (some (.int p.2)) s3 Tr hn' (fun q hq=>hp q (List.mem_cons_of_mem _ hq)) q (k.lst hw hW) (k.lst hl hL)
  refine⟨Pf,Pg,s4,?_,k.trans k4,by rw[q4];simp⟩
  rw[List.map_cons,jY]
  rw[show Jb [6,7] (pw p) (R9 v m W K d o6 o7 none)=some (R9 v m W K d (some (.int p.1)) (some (.int p.2)) none) from rfl]
  dsimp only
  rw[bd]
  simp only[if_pos (k.lst hl hL)]
  exact e4
theorem LJ {tb:Tab} {tt:lM} {d:Nat} {kvs:Ks} {st:Hs} (h:st[d]? =some (.bM kvs)):tG tb tt [.ref d,.ty "dict"] st= .ok (.bl true) st:=by
 show(if "dict"="dict"/\(kr st[d]?).isSome=true then Re.ok (Wv.bl true) st else aX tb tt [.ref d,.ty "dict"] st)=_
 rw[h,if_pos ⟨rfl,rfl⟩]
theorem LK {d:Nat} {kvs:Ks} {st:Hs} (h:st[d]? =some (.bM kvs)):Hn (.ref d) st= .ok .aB (st.set d (.bM [])):=by
 show(match st[d]? with | some (.lst _)=>Re.ok Wv.aB (st.set d (.lst [])) | some (.bM _)=> .ok .aB (st.set d (.bM [])) | _=> .bad)=_
 rw[h]
theorem IC {t:GT} {g r:GS} {ρ:aS} {st s2 s':Hs} {w:Wv} (h:t ρ st= .ok true s2) (k:g ρ s2= .rt w s'):aD (lI t g bI) r ρ st= .rt w s':=by
 rw[EB,OJ,h,HP,Li,k]
 rfl
theorem ES {t:GT} {g:GS} {ρ:aS} {st st':Hs} (h:t ρ st= .ok false st'):lI t g bI ρ st= .nx ρ st':=by simp[h]
theorem law_true:∀ns:List Int,ns.length<=63->∃st,F_law [.ref 0] [.ic ns]= .ok (.bl true) st:=by
 intro ns hn
 have l0:af [Ob.ic ns] 0=some (ns.map Wv.int):=rfl
 obtain⟨v,e1⟩:=pL l0 (k:=0) (Int.le_refl _)
 have d4:bW (.int v) (.int 4) [Ob.ic ns]= .ok (.int (v.fdiv 4)) [Ob.ic ns]:=jJ ⟨by decide,by decide⟩
 have d2:bW (.int v) (.int 2) [Ob.ic ns]= .ok (.int (v.fdiv 2)) [Ob.ic ns]:=jJ ⟨by decide,by decide⟩
 have Ph:oMod (.int (v.fdiv 4)) (.int 101) [Ob.ic ns]= .ok (.int ((v.fdiv 4).fmod 101)) [Ob.ic ns]:=j' (by decide)
 have m2:oMod (.int (v.fdiv 2)) (.int 2) [Ob.ic ns]= .ok (.int ((v.fdiv 2).fmod 2)) [Ob.ic ns]:=j' (by decide)
 have f0:=Int.fmod_nonneg_of_pos (v.fdiv 4) (b:=101) (by decide)
 have f1:=Int.fmod_lt_of_pos (v.fdiv 4) (b:=101) (by decide)
 obtain⟨m,hm⟩:=Int.eq_ofNat_of_zero_le f0
 obtain⟨ws,s1,e2,g1,q1,hl⟩:=Ig (b:=(v.fdiv 2).fmod 2 == 0) l0 (m:=m) (by omega)
 subst hl
 have zg:bj [.ref 0,.int (ws.length:Nat),.bl ((v.fdiv 2).fmod 2 == 0)] [Ob.ic ns]= .ok (.ref 1) s1:=e2
 have Q3:s1[1]? =some (.lst (ws.map Wo.w)):=q1
 have Tf:=iI Q3
 have hm':(v.fdiv 4).fmod 101=(ws.length:Int):=hm
 have b1:aI 1 (aA 2 aQ (aa (ag 0) (aa (gC (.int 0)) ai))) [some (.ref 0),none,none,none,none,none,none,none,none] [Ob.ic ns]= .nx [some (.ref 0),some (.int v),none,none,none,none,none,none,none] [Ob.ic ns]:=by simp[e1]
 have b2:aI 2 (aj oMod (aj bW (ag 1) (gC (.int 4))) (gC (.int 101))) [some (.ref 0),some (.int v),none,none,none,none,none,none,none] [Ob.ic ns]= .nx [some (.ref 0),some (.int v),some (.int (ws.length:Nat)),none,none,none,none,none,none] [Ob.ic ns]:=by simp[d4,Ph,hm']
 have b3:aI 3 (aA 3 bj (aa (ag 0) (aa (ag 2) (aa (aj oEq (aj oMod (aj bW (ag 1) (gC (.int 2))) (gC (.int 2))) (gC (.int 0))) ai)))) [some (.ref 0),some (.int v),some (.int (ws.length:Nat)),none,none,none,none,none,none] [Ob.ic ns]= .nx [some (.ref 0),some (.int v),some (.int (ws.length:Nat)),some (.ref 1),none,none,none,none,none] s1:=by simp[d2,m2,zg]
 have k2:=tT (x0:=.int 0) (x1:=.int 100) (st:=s1)
 have l2:=aw (st:=s1) (ws:=[.int 0,.int 100])
 have g2:Gr s1 (s1++[.lst [.int 0,.int 100]]):=Gr.push
 generalize s1++[.lst [.int 0,.int 100]]=s2 at k2 l2 g2
 have i2:=IB (m:=(ws.length:Nat)) l2
 have w2:=g2.lst (cq Q3)
 by_cases c:ws.length=0\/ws.length=100
 ·have LB:qI (.int (ws.length:Nat)) (.ref s1.length) s2= .ok (.bl true) s2:=by
   rw[i2]
   rcases c with c | c<;>rw[c]<;>rfl
  obtain⟨s3,e3,g3⟩:=asked (ga:=ag 3) (ρ:=[some (.ref 0),some (.int v),some (.int (ws.length:Nat)),some (.ref 1),none,none,none,none,none]) (st:=s2) (s0:=s2) rfl w2 (by rw[List.length_map];omega)
  have LL:bW (.int v) (.int 404) (s3++[.lst [.aB]])= .ok (.int (v.fdiv 404)) (s3++[.lst [.aB]]):=jJ ⟨by decide,by decide⟩
  have Pj:oMod (.int (v.fdiv 404)) (.int 90) (s3++[.lst [.aB]])= .ok (.int ((v.fdiv 404).fmod 90)) (s3++[.lst [.aB]]):=j' (by decide)
  have h0:=Int.fmod_nonneg_of_pos (v.fdiv 404) (b:=90) (by decide)
  have h1:=Int.fmod_lt_of_pos (v.fdiv 404) (b:=90) (by decide)
  generalize (v.fdiv 404).fmod 90=j at Pj h0 h1
  have q3:(s3++[.lst [.aB]])[s3.length]? =some (.lst [.aB]):=cH
  have mr:=vG (k:=100+j) q3 (by omega) (by omega)
  have k3:=tS (x0:=.aB) (st:=s3)
  generalize s3++[.lst [.aB]]=s4 at LL Pj q3 mr k3
  have lr:=aw (st:=s4) (ws:=List.replicate (100+j).toNat .aB)
  obtain⟨s5,e5,g5⟩:=asked (ga:=aj bE (bg (aa (gC .aB) ai)) (aj dt (gC (.int 100)) (aj oMod (aj bW (ag 1) (gC (.int 404))) (gC (.int 90))))) (ρ:=[some (.ref 0),some (.int v),some (.int (ws.length:Nat)),some (.ref 1),none,none,none,none,none]) (st:=s3) (by simp[k3,LL,Pj,mr]) lr (by rw[List.length_replicate];omega)
  refine⟨s5,mh (n:=9) (g:=oq) ?_⟩
  unfold oq
  refine(br b1).trans ((br b2).trans ((br b3).trans ?_))
  refine IC (s2:=s2) (by simp[k2,LB]) ?_
  rw[EC,tR,e3,pA,pB,e5]
  rfl
 ·have n1:1<=ws.length:=by omega
  have n2:ws.length<=99:=by omega
  have LB:qI (.int (ws.length:Nat)) (.ref s1.length) s2= .ok (.bl false) s2:=by
   rw[i2,beq_false_of_ne (show(0:Int)≠((ws.length:Nat):Int) by omega),beq_false_of_ne (show(100:Int)≠((ws.length:Nat):Int) by omega)]
   rfl
  have e4:=DM w2
  have l4:=aw (st:=s2) (ws:=ws.map Wo.w)
  have g4:Gr s2 (s2++[.lst (ws.map Wo.w)]):=Gr.push
  generalize s2++[.lst (ws.map Wo.w)]=s3 at e4 l4 g4
  have w3:=g4.lst w2
  have q5:(s3++[.bM []])[s3.length]? =some (.bM (([]:List Nd).map (ent ws))):=cH
  have g5:Gr s3 (s3++[.bM []]):=Gr.push
  have b5:aI 5 j8 [some (.ref 0),some (.int v),some (.int (ws.length:Nat)),some (.ref 1),some (.ref s2.length),none,none,none,none] s3= .nx (R9 (some (.int v)) (some (.int (ws.length:Nat))) 1 s2.length s3.length none none none) (s3++[.bM []]):=by simp[j8]
  generalize s3++[.bM []]=s4 at q5 g5 b5
  have w4:=g5.lst w3
  have Qe:=b_ w2
  have NP:=b_ w3
  obtain⟨L,s5,e6,g6,l6⟩:=xw (m:=(ws.length:Nat)) (st:=s4) (by omega) (by omega)
  have Pk:=g6.get q5
  have UA:=iI Pk
  have hL:L≠s3.length:=fun z=>by
   rw[z] at l6
   unfold af at l6
   rw[Pk] at l6
   cases l6
  obtain⟨o6,o7,s6,e7,k7,q7⟩:=rP (W:=1) (K:=s2.length) (L:=L) (d:=s3.length) (ws:=ws) (all:=(nodes ws.length).map pw) (v:=some (.int v)) (m:=some (.int (ws.length:Nat))) hL (by omega) n2 (nodes ws.length) [] none none s5 (by rw[List.nil_append];exact gS (by omega) (by omega)) (by
   have:=h_ (m:=(ws.length:Nat)) (by omega) (by omega)
   rw[List.nil_append]
   omega) (fun p hp=>rL (by omega) (by omega) hp) Pk (g6.lst w4) l6
  rw[List.nil_append] at q7
  have w6:=k7.lst (g6.lst w4) (by omega)
  have Tt:=k7.lst ((g5.trans g6).lst l4) (by have:=b_ l4;omega)
  obtain⟨kvs,s7,e8,g8,q8,hi⟩:=kf (W:=1) w6 n1 n2
  have Pl:=g8.get q7
  have ib:=LJ (tb:=bw) (tt:=aF) q8
  have Tu:=Bn q8 Pl hi n1 n2
  have nw:=LH (g8.lst w6) (g8.lst Tt)
  have cl:=LK q8
  have UB:=iI q7
  have k9:a8 s6.length s7 (s7.set s6.length (.bM [])):=a8.set
  generalize s7.set s6.length (.bM [])=s8 at cl k9
  have w8:=k9.lst (g8.lst w6) (by have:=b_ w6;omega)
  have Tv:s8[s3.length]? =some (.bM ((nodes ws.length).map (ent ws))):=by rw[k9.2 _ (iI Pl) (by omega)];exact Pl
  obtain⟨UC,s9,e9,g9,q9,hi2⟩:=kf (W:=1) w8 n1 n2
  have Tw:=(Bn q9 (g9.get Tv) hi2 n1 n2).1
  have kn:=HU (st:=s9)
  obtain⟨Gs,NW,NI⟩:=asked (ga:=bg ai) (ρ:=R9 (some (.int v)) (some (.int (ws.length:Nat))) 1 s2.length s3.length o6 o7 (some (.ref s6.length))) (st:=s9) (s0:=s9++[.lst []]) (by simp) (aw (ws:=[])) (by show ¬(1<=0/\0<=99);omega)
  have k1:=tS (x0:=.int 1) (st:=Gs)
  have qq:(Gs++[.lst [.int 1]])[Gs.length]? =some (.lst [.int 1]):=cH
  have mr:=vG (k:=100) qq (by omega) (by omega)
  generalize Gs++[.lst [.int 1]]=Qk at k1 qq mr
  obtain⟨s12,Mn,UD⟩:=asked (ga:=aj bE (bg (aa (gC (.int 1)) ai)) (gC (.int 100))) (ρ:=R9 (some (.int v)) (some (.int (ws.length:Nat))) 1 s2.length s3.length o6 o7 (some (.ref s6.length))) (st:=Gs) (by simp[k1,mr]) (aw (st:=Qk) (ws:=List.replicate 100 (.int 1))) (by rw[List.length_replicate];omega)
  have b4:lI (bp (aj qI (ag 2) (bg (aa (gC (.int 0)) (aa (gC (.int 100)) ai))))) (bK (jV (aj oEq (aA 1 aH (aa (ag 3) ai)) (bg (aa (gC (.int 8)) (aa (gC (.int 15)) ai)))) (aj oEq (aA 1 aH (aa (aj bE (bg (aa (gC .aB) ai)) (aj dt (gC (.int 100)) (aj oMod (aj bW (ag 1) (gC (.int 404))) (gC (.int 90))))) ai)) (bg (aa (gC (.int 8)) (aa (gC (.int 15)) ai)))))) bI [some (.ref 0),some (.int v),some (.int (ws.length:Nat)),some (.ref 1),none,none,none,none,none] s1= .nx [some (.ref 0),some (.int v),some (.int (ws.length:Nat)),some (.ref 1),none,none,none,none,none] s2:=ES (by simp[k2,LB])
  have Tz:aI 4 (au jF (aa (ag 3) ai)) [some (.ref 0),some (.int v),some (.int (ws.length:Nat)),some (.ref 1),none,none,none,none,none] s2= .nx [some (.ref 0),some (.int v),some (.int (ws.length:Nat)),some (.ref 1),some (.ref s2.length),none,none,none,none] s3:=by simp[e4]
  have b6:qr [6,7] (aA 1 cL (aa (ag 2) ai)) gR (R9 (some (.int v)) (some (.int (ws.length:Nat))) 1 s2.length s3.length none none none) s4= .nx (R9 (some (.int v)) (some (.int (ws.length:Nat))) 1 s2.length s3.length o6 o7 none) s6:=by
   unfold qr
   simp[e6,l6,e7]
  have b7:aI 8 (aA 1 aN (aa (ag 3) ai)) (R9 (some (.int v)) (some (.int (ws.length:Nat))) 1 s2.length s3.length o6 o7 none) s6= .nx (R9 (some (.int v)) (some (.int (ws.length:Nat))) 1 s2.length s3.length o6 o7 (some (.ref s6.length))) s7:=by simp[e8]
  have b8:lI (F0 (qd (c9 (au (tG bw aF) (aa (ag 8) (aa (gC (.ty "dict")) ai))))) (F0 (bp (aj q_ (ag 8) (ag 5))) (bp (aj xB (ag 3) (ag 4))))) (bK (gC (.bl false))) bI (R9 (some (.int v)) (some (.int (ws.length:Nat))) 1 s2.length s3.length o6 o7 (some (.ref s6.length))) s7= .nx (R9 (some (.int v)) (some (.int (ws.length:Nat))) 1 s2.length s3.length o6 o7 (some (.ref s6.length))) s7:=ES (by simp[ib,Tu.2,nw])
  have b9:gg (xb (ag 8)) (R9 (some (.int v)) (some (.int (ws.length:Nat))) 1 s2.length s3.length o6 o7 (some (.ref s6.length))) s7= .nx (R9 (some (.int v)) (some (.int (ws.length:Nat))) 1 s2.length s3.length o6 o7 (some (.ref s6.length))) s8:=by
   unfold xb
   simp[cl]
  have r1:aj qZ (aA 1 aN (aa (ag 3) ai)) (ag 5) (R9 (some (.int v)) (some (.int (ws.length:Nat))) 1 s2.length s3.length o6 o7 (some (.ref s6.length))) s8= .ok (.bl true) s9:=by simp[e9,Tw]
  refine⟨s12,mh (n:=9) (g:=oq) ?_⟩
  unfold oq
  refine(br b1).trans ((br b2).trans ((br b3).trans ((br b4).trans ((br Tz).trans ((br b5).trans ((br b6).trans ((br b7).trans ((br b8).trans ((br b9).trans ?_)))))))))
  rw[EC,tR,r1,pA,pB,tR,NW,pA,pB,Mn]
  rfl
end K80
namespace PySem.W.Fast
def tw2615836885534121635:Unit:=()
def tw8400631422898394987:Unit:=()
def tw9696394088786554582:Unit:=()
def tw13249486047737847820:Unit:=()
def tw14921193552538995484:Unit:=()
def tw13912742067979064529:Unit:=()
def tw6710827553876763610:Unit:=()
def tw3215447759665564271:Unit:=()
def tw3010622005206207772:Unit:=()
def tw11041232231888441145:Unit:=()
def tw9662460949689226328:Unit:=()
def tw14964146848029662161:Unit:=()
def tw1408567421501433318:Unit:=()
def tw17256550457348938131:Unit:=()
def tw15439238119890892848:Unit:=()
def tw16248910253980371887:Unit:=()
def tw2171075114710896326:Unit:=()
def tw7392046474689968622:Unit:=()
def tw1941639268368878680:Unit:=()
def tw180955922150294010:Unit:=()
def tw7852374357782574226:Unit:=()
def tw5621638217053368378:Unit:=()
def tw13016459658154873311:Unit:=()
def tw10932323647048531011:Unit:=()
def tw6215992419626634508:Unit:=()
def tw8405326864764542230:Unit:=()
def tw4402787249351505937:Unit:=()
def tw2852665736334426568:Unit:=()
def tw10880628685564809193:Unit:=()
def tw7212304548395373866:Unit:=()
def tw507608713718532550:Unit:=()
def tw15042295597410585007:Unit:=()
def tw5356455526540581053:Unit:=()
def tw5471095290009959910:Unit:=()
def tw4419094062755691332:Unit:=()
def tw3084052787534028577:Unit:=()
def tw7558579191668146766:Unit:=()
def tw4867748518378343326:Unit:=()
def tw11093884194856230090:Unit:=()
def tw15511074719225904669:Unit:=()
def tw3785985695268336172:Unit:=()
def tw9281307168373458146:Unit:=()
def tw12180226923013798359:Unit:=()
def tw4188575666124479414:Unit:=()
def tw12319144546744448047:Unit:=()
def tw7836953870304160583:Unit:=()
def tw5684564453140712345:Unit:=()
def tw15750113550685246439:Unit:=()
def tw2261314501144512626:Unit:=()
def tw17967044887596760745:Unit:=()
def tw8750668652177939575:Unit:=()
def tw13244578085360601688:Unit:=()
def tw9724330055086094308:Unit:=()
def tw2300280261393259759:Unit:=()
def tw11458563868016338413:Unit:=()
def tw6996948280276431274:Unit:=()
def tw10225672982607124172:Unit:=()
def tw7617379103370397879:Unit:=()
def tw1067399667836835402:Unit:=()
def tw6506150567427918959:Unit:=()
def tw13420702144707317348:Unit:=()
def tw14172655951263118152:Unit:=()
def tw14838247526523114328:Unit:=()
def tw122464168979510167:Unit:=()
def tw17063733985674583061:Unit:=()
def tw9639161563982598050:Unit:=()
def tw3052099560415380597:Unit:=()
def tw2909301295933276573:Unit:=()
def tw14406742207985061066:Unit:=()
def tw8169698940283888962:Unit:=()
def tw9727207439684240242:Unit:=()
def tw13711232372937298342:Unit:=()
def tw13843203568243321618:Unit:=()
def tw2462711093923599727:Unit:=()
def tw10315165667759429087:Unit:=()
def tw7794186627352722706:Unit:=()
def tw17494735736474372087:Unit:=()
def tw14009116337275854264:Unit:=()
def tw7624339728680263076:Unit:=()
def tw4903996617683831175:Unit:=()
def tw16002807255115436427:Unit:=()
def tw4451398102273225300:Unit:=()
def tw10760467748659981127:Unit:=()
def tw1049770098813479106:Unit:=()
def tw13523679148069641910:Unit:=()
def tw9485870427580085849:Unit:=()
def tw7429213808700321684:Unit:=()
def tw7254279304149824331:Unit:=()
def tw7909750672947581472:Unit:=()
def tw4935439553188087711:Unit:=()
def tw6294900211847295393:Unit:=()
def tw3460186817947785531:Unit:=()
def tw16915986383261721405:Unit:=()
def tw4531693616575975112:Unit:=()
def tw7456995369617864761:Unit:=()
def tw6178289103709008076:Unit:=()
def tw6653316989145445905:Unit:=()
def tw18392674746299680981:Unit:=()
def tw18143204079229561801:Unit:=()
def tw7282031612564297427:Unit:=()
def tw15250992093182426826:Unit:=()
def tw7727026833014068273:Unit:=()
def tw7237571272652145539:Unit:=()
def tw15514542969946470792:Unit:=()
def tw855521690275871244:Unit:=()
def tw5096297174825011560:Unit:=()
def tw15250347156116530483:Unit:=()
def tw6159834489595913571:Unit:=()
def tw7607205820248693830:Unit:=()
def tw13650332832685773968:Unit:=()
def tw1572080819798954019:Unit:=()
def tw9385082585976234390:Unit:=()
def tw15822998499970071257:Unit:=()
def tw9144043910141034597:Unit:=()
def tw9512153675705006436:Unit:=()
def tw16815810535535589860:Unit:=()
def tw8142232718092636833:Unit:=()
def tw14403169381498932634:Unit:=()
def tw14823251154448839221:Unit:=()
def tw18249131005990493017:Unit:=()
def tw18082736366554129874:Unit:=()
def tw342386911703254545:Unit:=()
def tw9755140961750780802:Unit:=()
def tw11662534512872976963:Unit:=()
def tw3614446157007966951:Unit:=()
def tw11115790160149328195:Unit:=()
def tw17550417712498184005:Unit:=()
def tw43096794872958221:Unit:=()
def tw9944506224664160772:Unit:=()
def tw17690136101245471116:Unit:=()
def tw6560024903082862660:Unit:=()
def tw13729518439600576961:Unit:=()
def tw14144075017488845438:Unit:=()
def tw9218756929783968791:Unit:=()
def tw10001191391344775322:Unit:=()
def tw11747630871065624251:Unit:=()
def tw10888056815960329389:Unit:=()
def tw16712581268469090457:Unit:=()
def tw15968545855009484968:Unit:=()
def tw11078775350157763472:Unit:=()
def tw15491294120713095521:Unit:=()
def tw13327574577319796383:Unit:=()
def tw13528960445624184121:Unit:=()
def tw11437863177977939965:Unit:=()
def tw16420145403641227936:Unit:=()
def tw16029432594455545495:Unit:=()
def tw5773736134987491200:Unit:=()
def tw15095483449562403758:Unit:=()
def tw16888023728413285104:Unit:=()
def tw8543983082199276579:Unit:=()
def tw14893440600009982677:Unit:=()
def tw13826527656353929213:Unit:=()
def tw10717329482940286954:Unit:=()
def tw118321086434031818:Unit:=()
def tw7967262780526557188:Unit:=()
def tw3520736911918071166:Unit:=()
def tw11702325148182509781:Unit:=()
def tw4731963108003137196:Unit:=()
def tw6193115518574685557:Unit:=()
def tw15680517652704289572:Unit:=()
def tw9370365646494288531:Unit:=()
def tw2346408242055542031:Unit:=()
def tw8569554518574328687:Unit:=()
def tw14862666814166271944:Unit:=()
def tw11575546851602709446:Unit:=()
def tw10311423633272193661:Unit:=()
def tw14103712068867990925:Unit:=()
def tw17375550681026627694:Unit:=()
def tw7588544789569948134:Unit:=()
def tw9044860116956078422:Unit:=()
def tw11856373075160348552:Unit:=()
def tw9768952696258701967:Unit:=()
def tw12644194987296903904:Unit:=()
def tw10519336070839967260:Unit:=()
def tw14234672447452968902:Unit:=()
def tw1763030225285820540:Unit:=()
def tw13687872932845093348:Unit:=()
def tw13203819693497706306:Unit:=()
def tw7772346717608940591:Unit:=()
def tw14147738015368432841:Unit:=()
def tw1615732689925330307:Unit:=()
def tw1574247744553998735:Unit:=()
def tw12297204252002824152:Unit:=()
def tw7178923225885597796:Unit:=()
def tw16926073376124111791:Unit:=()
def tw15152891043590985052:Unit:=()
def tw1863683316150229488:Unit:=()
def tw7750567271193713856:Unit:=()
def tw15572559636618873103:Unit:=()
def tw16826712026798770700:Unit:=()
def tw3923175641825887133:Unit:=()
def tw16554989498769809664:Unit:=()
def tw14086882928111870310:Unit:=()
def tw14071304200234491502:Unit:=()
def tw5360697163649770010:Unit:=()
def tw4459108501445093136:Unit:=()
def tw15108584126862828118:Unit:=()
def tw11922838355566082941:Unit:=()
def tw14069677180304479254:Unit:=()
def tw15120087920952431597:Unit:=()
def tw13742639535733716783:Unit:=()
def tw7222072471665654597:Unit:=()
def tw18312040408233574985:Unit:=()
def tw4561730963181016950:Unit:=()
def tw16246751164416911914:Unit:=()
def tw10256389737455169955:Unit:=()
def tw15875782664811345513:Unit:=()
def tw8944466962129081150:Unit:=()
def tw9844194509213352777:Unit:=()
def tw17297678847681549:Unit:=()
def tw13089643418568067299:Unit:=()
def tw12241354924535923790:Unit:=()
def tw17789507897356616538:Unit:=()
def tw14963643193678350580:Unit:=()
def tw11438494428250422267:Unit:=()
def tw7454898091344820113:Unit:=()
def tw1923881796551208694:Unit:=()
def tw884000180005805423:Unit:=()
def tw14362004800339189989:Unit:=()
def tw8861830637094266161:Unit:=()
def tw16563009014494444936:Unit:=()
def tw12323544569942277648:Unit:=()
def tw8549571965330435358:Unit:=()
def tw3523924195796515296:Unit:=()
def tw218165488732863221:Unit:=()
def tw2270923609664339210:Unit:=()
def tw6141084014570379043:Unit:=()
def tw3812010408122609132:Unit:=()
def tw5102247644877773204:Unit:=()
def tw8791421812458519250:Unit:=()
def tw5326991983682240966:Unit:=()
def tw15603981315957573239:Unit:=()
def tw7719087778425444495:Unit:=()
def tw3730756338737669519:Unit:=()
def tw15435483163249826133:Unit:=()
def tw9707882503267573073:Unit:=()
def tw8392386643328120209:Unit:=()
def tw14152841731866505583:Unit:=()
def tw3459031315899394363:Unit:=()
def tw1027409543567192641:Unit:=()
def tw12590811399712251066:Unit:=()
def tw231018089594525892:Unit:=()
def tw3667802794327043398:Unit:=()
def tw6908116829581581678:Unit:=()
def tw5636283815886955982:Unit:=()
def tw12810127490325285033:Unit:=()
def tw6242041642605217566:Unit:=()
def tw17336136554709782761:Unit:=()
def tw12105391729350501765:Unit:=()
def tw7487858829523442654:Unit:=()
def tw14891170192091225544:Unit:=()
def tw15132490745393038215:Unit:=()
def tw4644448249577906428:Unit:=()
def tw8322249969175140586:Unit:=()
def tw3728794575737820195:Unit:=()
def tw12109222410091816973:Unit:=()
def tw4799508294832480942:Unit:=()
def tw14814646219924291876:Unit:=()
def tw14562077106196738595:Unit:=()
def tw10769404325779976301:Unit:=()
def tw5962157614408700635:Unit:=()
def tw589953598470176826:Unit:=()
def tw13175607079423091578:Unit:=()
def tw11772055286492737343:Unit:=()
def tw7683183417262979910:Unit:=()
def tw14895920398103965725:Unit:=()
def tw2582682052355045908:Unit:=()
def tw6236888543345748073:Unit:=()
def tw18139984339226891766:Unit:=()
def tw4958331897669638206:Unit:=()
def tw5167573536297057699:Unit:=()
def tw12994294242073722621:Unit:=()
def tw15207145733565043134:Unit:=()
def tw17033719870528525950:Unit:=()
def tw3470238248568857129:Unit:=()
def tw10981194531173087724:Unit:=()
def tw9860804844886073141:Unit:=()
def tw10699665600753447949:Unit:=()
def tw8045321455279463223:Unit:=()
def tw15282758414486987743:Unit:=()
def tw8129245711463422262:Unit:=()
def tw3197557348173045167:Unit:=()
def tw4977415453240434364:Unit:=()
def tw7318843144076585982:Unit:=()
def tw17271837500217016851:Unit:=()
def tw11247396570010206033:Unit:=()
def tw2609725721629974702:Unit:=()
def tw4226532219053842178:Unit:=()
def tw15502643043366945500:Unit:=()
def tw6276094409931922105:Unit:=()
def tw9142298551499027199:Unit:=()
def tw16543405783247390084:Unit:=()
def tw12180070638582161735:Unit:=()
def tw4018359295266752049:Unit:=()
def tw80603693236441606:Unit:=()
def tw17356222742795548870:Unit:=()
def tw3724234575260008215:Unit:=()
def tw6205104639854516686:Unit:=()
def tw3375945978951911808:Unit:=()
def tw15936691746167142787:Unit:=()
def tw5639533843131337757:Unit:=()
def tw17228696937596451488:Unit:=()
def tw13680881934229328678:Unit:=()
def tw14168278786019383387:Unit:=()
def tw492934791058014629:Unit:=()
def tw2287934921976906577:Unit:=()
def tw14521229973725896802:Unit:=()
def tw13428986707669197106:Unit:=()
def tw1933261218965270239:Unit:=()
def tw254699021870752243:Unit:=()
def tw3860324088020680283:Unit:=()
def tw3796266566554628537:Unit:=()
def tw18057027596617144740:Unit:=()
def tw13224019135090510889:Unit:=()
def tw9788183483987492978:Unit:=()
def tw6278995206499582123:Unit:=()
def tw9120334754690935520:Unit:=()
def tw2438562689207023022:Unit:=()
def tw14762242683811179939:Unit:=()
def tw7640839912692057217:Unit:=()
def tw14062271563091817577:Unit:=()
def tw7764542280475002763:Unit:=()
def tw17120075704118217310:Unit:=()
def tw5602115006182387002:Unit:=()
def tw2222231266117371880:Unit:=()
def tw6031707972682266008:Unit:=()
def tw9460983106774651485:Unit:=()
def tw17215495738780132455:Unit:=()
def tw17558189894236381945:Unit:=()
def tw12313343262337148355:Unit:=()
def tw12806086329362232794:Unit:=()
def tw10968103511372349991:Unit:=()
def tw7599237770163203407:Unit:=()
def tw8023914363623492096:Unit:=()
def tw4495769468930010788:Unit:=()
def tw11471324606995083189:Unit:=()
def tw311353833342117208:Unit:=()
def tw14369099338790853607:Unit:=()
def tw13543300120820814833:Unit:=()
def tw4516224644008943951:Unit:=()
def tw3233129224696470887:Unit:=()
def tw4043454250931188186:Unit:=()
def tw12313429240647755286:Unit:=()
def tw8585341974519521122:Unit:=()
def tw14420185845556870927:Unit:=()
def tw6217118548499967207:Unit:=()
def tw9822691008347479767:Unit:=()
def tw14669596528946014463:Unit:=()
def tw12863122991519693128:Unit:=()
def tw16997915419750286300:Unit:=()
def tw6235297278975787343:Unit:=()
def tw12548296913396652994:Unit:=()
def tw6444736058624743501:Unit:=()
def tw6916287277969412017:Unit:=()
def tw6325756947341494394:Unit:=()
def tw2273813164909870098:Unit:=()
def tw292337338969138136:Unit:=()
def tw10039771082392528824:Unit:=()
def tw14714857468558104248:Unit:=()
def tw1530145423879860585:Unit:=()
def tw14135586798662135183:Unit:=()
def tw17838295027047475347:Unit:=()
def tw14896990015426364619:Unit:=()
def tw18337056247522560271:Unit:=()
def tw6957485772765780726:Unit:=()
def tw2827452062106727275:Unit:=()
def tw12971398249813494621:Unit:=()
def tw4683011970358025306:Unit:=()
def tw3123196881518376220:Unit:=()
def tw1203281190963189660:Unit:=()
def tw15103117109193052776:Unit:=()
def tw11711268753004057182:Unit:=()
def tw757982043538504958:Unit:=()
def tw13641990497727581784:Unit:=()
def tw12860568690543379321:Unit:=()
def tw11591933728923187165:Unit:=()
def tw190068098243579391:Unit:=()
def tw4956594189165315928:Unit:=()
def tw2135935853361581620:Unit:=()
def tw15442509125677620128:Unit:=()
def tw1323423789844860548:Unit:=()
def tw2437784475512066595:Unit:=()
def tw4917254639907537562:Unit:=()
def tw4415417678694527448:Unit:=()
def tw17467098888472768511:Unit:=()
def tw3683124084183911574:Unit:=()
def tw12322378724869503994:Unit:=()
def tw17732742124688897707:Unit:=()
def tw12832538241209423313:Unit:=()
def tw6982891924955577554:Unit:=()
def tw3080468757018761471:Unit:=()
def tw1861162348855379588:Unit:=()
def tw6365405157183894553:Unit:=()
def tw11072008331745626476:Unit:=()
def tw9502918905306808705:Unit:=()
def tw18220182506430263589:Unit:=()
def tw16142912131403430186:Unit:=()
def tw16796360947301966506:Unit:=()
def tw15769997917882921930:Unit:=()
def tw5624047414995549714:Unit:=()
def tw17100316378861620274:Unit:=()
def tw16697968398006902495:Unit:=()
def tw12275718641239028550:Unit:=()
def tw8496951516281341797:Unit:=()
def tw6406768893436090895:Unit:=()
def tw3700117038533537111:Unit:=()
def tw5855536442024577780:Unit:=()
def tw8206274362834273515:Unit:=()
def tw1063686875783835265:Unit:=()
def tw11962119488041458560:Unit:=()
def tw12093977811886143818:Unit:=()
def tw14785393149325047392:Unit:=()
def tw2475471892696821551:Unit:=()
def tw13488564459374709441:Unit:=()
def tw17270641019549100820:Unit:=()
def tw2814482649245677670:Unit:=()
def tw13093178153940506039:Unit:=()
def tw11995359686948014974:Unit:=()
def tw15149557401765163661:Unit:=()
def tw8310528388216866394:Unit:=()
def tw10729043979658560606:Unit:=()
def tw7613211256553577434:Unit:=()
def tw15146326120808678698:Unit:=()
def tw7275386295299328584:Unit:=()
def tw4686000158317793564:Unit:=()
def tw3092474283568120374:Unit:=()
def tw13391411520916807368:Unit:=()
def tw15060075529981815786:Unit:=()
def tw458200646131908756:Unit:=()
def tw14261214630001316247:Unit:=()
def tw11377831946766535642:Unit:=()
def tw13628655617682549718:Unit:=()
def tw2520341437718020165:Unit:=()
def tw16874200413271378164:Unit:=()
def tw17721894327258617311:Unit:=()
def tw10735212687961591802:Unit:=()
def tw15325873576838456423:Unit:=()
def tw4870800023027306206:Unit:=()
def tw11998155770700240302:Unit:=()
def tw17520723592346306370:Unit:=()
def tw2594800673032182972:Unit:=()
def tw4714648434163115028:Unit:=()
def tw14771039775701671611:Unit:=()
def tw15605482720557875066:Unit:=()
def tw819798160451177390:Unit:=()
def tw738829965073426081:Unit:=()
def tw15310995035645659449:Unit:=()
def tw15615550407909755843:Unit:=()
def tw670387267433026343:Unit:=()
def tw13946556858925129026:Unit:=()
def tw7288927740061312959:Unit:=()
def tw14435288005393781239:Unit:=()
def tw3387592190952712724:Unit:=()
def tw10589371938042621168:Unit:=()
def tw3193221047954629256:Unit:=()
def tw10387737812146723185:Unit:=()
def tw4721718460400667070:Unit:=()
def tw5282506638837500096:Unit:=()
def tw12270666224413920539:Unit:=()
def tw12157252072406806753:Unit:=()
def tw11864351216751571912:Unit:=()
def tw11492969759255179982:Unit:=()
def tw7302983253605667641:Unit:=()
def tw2140444902536518795:Unit:=()
def tw1190934260371359945:Unit:=()
def tw5500830558084893463:Unit:=()
def tw5052006136864532210:Unit:=()
def tw17138106036447698787:Unit:=()
def tw8742939969114198855:Unit:=()
def tw6260857372727844989:Unit:=()
def tw15866840379442525390:Unit:=()
def tw1070512253403570713:Unit:=()
def tw13500471492448791849:Unit:=()
def tw7166288443579784984:Unit:=()
def tw13913431251146815545:Unit:=()
def tw16598551268223166085:Unit:=()
def tw3630557149694381027:Unit:=()
def tw7175315200664462524:Unit:=()
def tw18134313708092941248:Unit:=()
def tw7404182448657241826:Unit:=()
def tw8487943895615566813:Unit:=()
def tw5071724197709939111:Unit:=()
def tw6635709121765334650:Unit:=()
def tw18425728970652137463:Unit:=()
def tw17056546477649826041:Unit:=()
def tw9599399684801242042:Unit:=()
def tw6544160723232215896:Unit:=()
def tw17386901660132713024:Unit:=()
def tw3752717429143991081:Unit:=()
def tw16258798261214352379:Unit:=()
def tw13393623598783201855:Unit:=()
def tw13518430712726319278:Unit:=()
def tw6681565864011860812:Unit:=()
def tw6163901779410146492:Unit:=()
def tw13947604117063457830:Unit:=()
def tw10106331545388532367:Unit:=()
def tw14083614204774974573:Unit:=()
def tw17862906734392214456:Unit:=()
def tw9463305439669164487:Unit:=()
def tw617241917671461289:Unit:=()
def tw156861467462088083:Unit:=()
def tw890248800318394164:Unit:=()
def tw12830635210334027130:Unit:=()
def tw825354872221169833:Unit:=()
def tw13642535654054793398:Unit:=()
def tw6453079445446372219:Unit:=()
def tw18007047961374661209:Unit:=()
def tw12460061485807221300:Unit:=()
def tw14841577675622714466:Unit:=()
def tw4888622911731094163:Unit:=()
def tw14347776784381631758:Unit:=()
def tw16436869299230605319:Unit:=()
def tw12827314376420196815:Unit:=()
def tw2033515316103591657:Unit:=()
def tw5658363875696299126:Unit:=()
def tw11484220294083231158:Unit:=()
def tw15331622051385885572:Unit:=()
def tw13657349737409228334:Unit:=()
def tw6895505026217761975:Unit:=()
def tw11140598674074899817:Unit:=()
def tw13171021193392158731:Unit:=()
def tw17123209183229012519:Unit:=()
def tw3828578476371254574:Unit:=()
def tw16175240469332894602:Unit:=()
def tw1588907777317920483:Unit:=()
def tw8666863511240941449:Unit:=()
def tw11900957635189372815:Unit:=()
def tw12936937644395971210:Unit:=()
def tw615727285909499566:Unit:=()
def tw41783159445027255:Unit:=()
def tw10499185854809080592:Unit:=()
def tw13746336538224032693:Unit:=()
def tw11610921624626938229:Unit:=()
def tw13787799027845932662:Unit:=()
def tw8685988282058208208:Unit:=()
def tw910249305575773259:Unit:=()
def tw1600200974771181516:Unit:=()
def tw5328072192907050390:Unit:=()
def tw10679071373354549475:Unit:=()
def tw10171035227623333699:Unit:=()
def tw16561087969562592571:Unit:=()
def tw15772567208602289608:Unit:=()
def tw1969195593614384110:Unit:=()
end PySem.W.Fast
namespace K80
open PySem PySem.W PyProof.Rows
set_option maxHeartbeats 0 in
open_top head for PySem.Challenge.rw_onelook_k80_halves_made
end K80
namespace K80
open PySem J
open L2 (defScope defBody defArgs FnScope CX0 FnOk XK Hp)
theorem all_mk {l:PySem.W.OpenLaw} {w:World} {K:PySem.W.Frag} {h:Heap} {mg:Str → Option Value} {fa:Addr} (X:K.In h) (G:h.Ns mainGlobals mg) (hfa:mg "law" = some (.ref fa))
        {tk0:Tok} {X0 X1 X2 X3 X4 X5 X6 X7 X8 X9 LM LN LO LP LQ ID:UE}
    (d1:J.bD K "_law_cell_at" cI)
    (d2:J.bD K "_law_digit" dH)
    (d3:J.bD K "_law_worth" dI)
    (d4:J.bD K "_law_mixed" dJ)
    (d5:J.bD K "_law_row_of" dg)
    (d6:J.bD K "_law_worths" dh)
    (d7:J.bD K "_law_nodes" dM)
    (d8:J.bD K "check_many" dO)
    (d9:J.bD K "is_single" eZ)
    (Pn:J.bD K "halves_of" e_)
    (Po:J.bD K "level_under" di)
    (Pp:J.bD K "nodes_under" dj)
    (Pq:J.bD K "is_fault" fZ)
    (Pr:J.bD K "tally_of" f7)
    (Pt:J.bD K "put_together" cN)
    (Pu:J.bD K "joined_halves" cw)
    (Pw:J.bD K "made_halves" dm)
    (Px:J.bD K "_law_tally" dP)
    (MQ:J.bD K "_law_kinds" cO)
    (Py:J.bD K "_law_refusal" cS)
    (Pz:J.bD K "law" vx)
    (z0:PySem.W.nsIn K UW "len"=some none)
    (z1:PySem.W.nsIn K UW "range"=some none)
    (z2:PySem.W.nsIn K UW "sum"=some none)
    (z3:PySem.W.nsIn K UW "isinstance"=some none)
    (z4:PySem.W.nsIn K UW "tuple"=some none)
    (z5:PySem.W.nsIn K UW "min"=some none)
    (z6:PySem.W.nsIn K UW "max"=some none)
    (z7:PySem.W.nsIn K UW "int"=some none)
    (z8:PySem.W.nsIn K UW "reversed"=some none)
    (z9:PySem.W.nsIn K UW "sorted"=some none)
    (Gy:PySem.W.nsIn K UW "ValueError"=some none)
    (Gz:PySem.W.nsIn K UW "list"=some none)
    (GB:PySem.W.nsIn K UW "dict"=some none)
    (v0:PySem.W.nsIn K UW "MOST_WORTHS"=some (some (.int 99 tk0)))
    (jO:PySem.W.nsIn K UW "BadCount"=some (some (.ref X0))) (m_:PySem.W.excIn K X0 wu wx=true) (pN:PySem.W.findIn K (.ref X0) "__getattribute__"=some (some (.builtin "BaseException.__getattribute__"))) (pO:PySem.W.findIn K (.ref X0) "__getattr__"=some none) (pP:PySem.W.findIn K (.ref X0) "__class__"=some (some (.builtin "object.__class__")))
    (IE:PySem.W.nsIn K UW "BadPlace"=some (some (.ref X1)))
    (IF:PySem.W.nsIn K UW "BadArea"=some (some (.ref X2)))
    (IG:PySem.W.nsIn K UW "BadText"=some (some (.ref X3)))
    (IH:PySem.W.nsIn K UW "BadFormula"=some (some (.ref X4)))
    (II:PySem.W.nsIn K UW "BadContent"=some (some (.ref X5)))
    (IJ:PySem.W.nsIn K UW "Full"=some (some (.ref X6)))
    (IK:PySem.W.nsIn K UW "NoCell"=some (some (.ref X7)))
    (IL:PySem.W.nsIn K UW "NotWaiting"=some (some (.ref X8)))
    (IM:PySem.W.nsIn K UW "NoRoom"=some (some (.ref X9)))
    (ub:PySem.W.nsIn K UW "BadTable"=some (some (.ref LM)))
    (ud:PySem.W.nsIn K UW "NoTable"=some (some (.ref LN)))
    (ue:PySem.W.nsIn K UW "NoColumn"=some (some (.ref LO)))
    (uf:PySem.W.nsIn K UW "NoDeed"=some (some (.ref LP)))
    (ug:PySem.W.nsIn K UW "Clash"=some (some (.ref LQ)))
    (xx:PySem.W.nsIn K UW "SheetError"=some (some (.ref ID))) (DP:PySem.W.excIn K ID wu wx=true)
    (PB:PySem.W.kitOne K (.ref X0) (.ref X0)=some true)
    (PD:PySem.W.kitOne K (.ref X0) (.ref X1)=some false)
    (PF:PySem.W.kitOne K (.ref X0) (.ref X2)=some false)
    (PH:PySem.W.kitOne K (.ref X0) (.ref X3)=some false)
    (PJ:PySem.W.kitOne K (.ref X0) (.ref X4)=some false)
    (PL:PySem.W.kitOne K (.ref X0) (.ref X5)=some false)
    (PM:PySem.W.kitOne K (.ref X0) (.ref X6)=some false)
    (PN:PySem.W.kitOne K (.ref X0) (.ref X7)=some false)
    (PQ:PySem.W.kitOne K (.ref X0) (.ref X8)=some false)
    (PR:PySem.W.kitOne K (.ref X0) (.ref X9)=some false)
    (IP:PySem.W.kitOne K (.ref X0) (.ref LM)=some false)
    (IQ:PySem.W.kitOne K (.ref X0) (.ref LN)=some false)
    (IS:PySem.W.kitOne K (.ref X0) (.ref LO)=some false)
    (IT:PySem.W.kitOne K (.ref X0) (.ref LP)=some false)
    (IU:PySem.W.kitOne K (.ref X0) (.ref LQ)=some false)
    (IV:PySem.W.kitOne K (.ref X0) (.ref ID)=some true)
    (PU:PySem.W.mroIn K X0 (.ref ID)=some true)
    (PV:PySem.W.kitOne K (.ref X0) (.type "ValueError")=some true)
     :
    ∃fd:UH,(∀(s:UK) (u:UL),BindsTo s fd ⟨[u],[]⟩ [("script",u)])/\∀base:Heap,K.In base->base.Ns UW mg->FnOk l.prog w K mg base (CXJ l.prog w) 6 fa fd ["script"] (spW K 1 F_law):=by
  refine J.DD X G hfa Pz (fun _ _ _ _ _ _ s u=> .of_eq rfl) (fun f fd Fu base kb nb=>?_)
  have Z0:=PySem.W.mg_none_of kb nb z0
  have Z1:=PySem.W.mg_none_of kb nb z1
  have Z2:=PySem.W.mg_none_of kb nb z2
  have Z3:=PySem.W.mg_none_of kb nb z3
  have Z4:=PySem.W.mg_none_of kb nb z4
  have Z5:=PySem.W.mg_none_of kb nb z5
  have Z6:=PySem.W.mg_none_of kb nb z6
  have Z7:=PySem.W.mg_none_of kb nb z7
  have Z8:=PySem.W.mg_none_of kb nb z8
  have Z9:=PySem.W.mg_none_of kb nb z9
  have Q4:=PySem.W.mg_none_of kb nb Gy
  have TC:=PySem.W.mg_none_of kb nb Gz
  have TF:=PySem.W.mg_none_of kb nb GB
  have V0:=PySem.W.mg_of kb nb v0
  have TB:TabOk K bw aF du:=J.HN ⟨⟨X0,X0,jO,jO,⟨m_,pN,pO,pP⟩,PB⟩,⟨X0,X1,jO,IE,⟨m_,pN,pO,pP⟩,PD⟩,⟨X0,X2,jO,IF,⟨m_,pN,pO,pP⟩,PF⟩,⟨X0,X3,jO,IG,⟨m_,pN,pO,pP⟩,PH⟩,⟨X0,X4,jO,IH,⟨m_,pN,pO,pP⟩,PJ⟩,⟨X0,X5,jO,II,⟨m_,pN,pO,pP⟩,PL⟩,⟨X0,X6,jO,IJ,⟨m_,pN,pO,pP⟩,PM⟩,⟨X0,X7,jO,IK,⟨m_,pN,pO,pP⟩,PN⟩,⟨X0,X8,jO,IL,⟨m_,pN,pO,pP⟩,PQ⟩,⟨X0,X9,jO,IM,⟨m_,pN,pO,pP⟩,PR⟩,⟨X0,LM,jO,ub,⟨m_,pN,pO,pP⟩,IP⟩,⟨X0,LN,jO,ud,⟨m_,pN,pO,pP⟩,IQ⟩,⟨X0,LO,jO,ue,⟨m_,pN,pO,pP⟩,IS⟩,⟨X0,LP,jO,uf,⟨m_,pN,pO,pP⟩,IT⟩,⟨X0,LQ,jO,ug,⟨m_,pN,pO,pP⟩,IU⟩,⟨X0,ID,jO,xx,⟨m_,pN,pO,pP⟩,IV⟩,trivial⟩ ⟨⟨X0,jO,⟨m_,pN,pO,pP⟩,PV⟩,trivial⟩ ⟨⟨X0,ID,jO,xx,m_,DP,PU⟩,trivial⟩
  have H1:J.iN l.prog w K mg base 1 "_law_cell_at" 2 aQ:=J.aT (ps:=["script","k"]) kb nb d1 (J.aE (c:=eF) (k:=0) trivial ⟨Z0,trivial⟩ trivial TB trivial trivial trivial) kC rfl mi (fun _ _ _ _ _ _ us hl=>J.ln2 us hl fun _ _=>rfl)
  have H2:J.iN l.prog w K mg base 1 "_law_digit" 2 aR:=J.aT (ps:=["row","many"]) kb nb d2 (J.aE (c:=fS) (k:=0) trivial trivial trivial TB trivial trivial trivial) mQ rfl pC (fun _ _ _ _ _ _ us hl=>J.ln2 us hl fun _ _=>rfl)
  have H3:J.iN l.prog w K mg base 2 "_law_worth" 1 cJ:=J.aT (ps:=["row"]) kb nb d3 (J.aE (c:=fU) (k:=1) trivial trivial ⟨H2.mono (by decide),trivial⟩ TB trivial trivial trivial) mR rfl pD (fun _ _ _ _ _ _ us hl=>J.vw us hl fun _=>rfl)
  have H4:J.iN l.prog w K mg base 1 "_law_mixed" 2 cK:=J.aT (ps:=["cell","k"]) kb nb d4 (J.aE (c:=fW) (k:=0) trivial trivial trivial TB trivial trivial trivial) mS rfl pE (fun _ _ _ _ _ _ us hl=>J.ln2 us hl fun _ _=>rfl)
  have H5:J.iN l.prog w K mg base 2 "_law_row_of" 2 cb:=J.aT (ps:=["script","k"]) kb nb d5 (J.aE (c:=fm) (k:=1) trivial ⟨Z1,Z0,Z2,trivial⟩ ⟨H1.mono (by decide),H4.mono (by decide),trivial⟩ TB trivial trivial trivial) mj rfl mU (fun _ _ _ _ _ _ us hl=>J.ln2 us hl fun _ _=>rfl)
  have H6:J.iN l.prog w K mg base 3 "_law_worths" 3 bj:=J.aT (ps:=["script","many","faults"]) kb nb d6 (J.aE (c:=fq) (k:=2) trivial ⟨Z1,Z3,Z4,trivial⟩ ⟨H3.mono (by decide),H5.mono (by decide),trivial⟩ TB trivial trivial trivial) ml rfl mV (fun _ _ _ _ _ _ us hl=>J.SN us hl fun _ _ _=>rfl)
  have H7:J.iN l.prog w K mg base 1 "_law_nodes" 1 cL:=J.aT (ps:=["many"]) kb nb d7 (J.aE (c:=fX) (k:=0) trivial ⟨Z0,trivial⟩ trivial TB trivial trivial trivial) mW rfl pF (fun _ _ _ _ _ _ us hl=>J.vw us hl fun _=>rfl)
  have H8:J.iN l.prog w K mg base 1 "check_many" 1 bA:=J.aT (ps:=["many"]) kb nb d8 (J.aE (c:=fY) (k:=0) ⟨⟨_,V0⟩,trivial⟩ trivial trivial TB ⟨⟨X0,PySem.W.mg_of kb nb jO,⟨jO,m_⟩⟩,trivial⟩ trivial trivial) mX rfl pG (fun _ _ _ _ _ _ us hl=>J.vw us hl fun _=>rfl)
  have H9:J.iN l.prog w K mg base 1 "is_single" 1 bz:=J.aT (ps:=["node"]) kb nb d9 (J.aE (c:=gM) (k:=0) trivial trivial trivial TB trivial trivial trivial) pH rfl rE (fun _ _ _ _ _ _ us hl=>J.vw us hl fun _=>rfl)
  have Gu:J.iN l.prog w K mg base 1 "halves_of" 1 bO:=J.aT (ps:=["node"]) kb nb Pn (J.aE (c:=gO) (k:=0) trivial trivial trivial TB trivial trivial trivial) pI rfl rF (fun _ _ _ _ _ _ us hl=>J.vw us hl fun _=>rfl)
  have Ql:J.iN l.prog w K mg base 2 "level_under" 1 cg:=J.aT (ps:=["level"]) kb nb Po (J.aE (c:=fu) (k:=1) trivial trivial ⟨H9.mono (by decide),Gu.mono (by decide),trivial⟩ TB trivial trivial trivial) mn rfl mY (fun _ _ _ _ _ _ us hl=>J.vw us hl fun _=>rfl)
  have TH:J.iN l.prog w K mg base 3 "nodes_under" 1 bF:=J.aT (ps:=["whole"]) kb nb Pp (J.aE (c:=fv) (k:=2) trivial trivial ⟨Ql.mono (by decide),trivial⟩ TB trivial trivial trivial) mv rfl mZ (fun _ _ _ _ _ _ us hl=>J.vw us hl fun _=>rfl)
  have TJ:J.iN l.prog w K mg base 1 "is_fault" 1 f6:=J.aT (ps:=["worth"]) kb nb Pq (J.aE (c:=iJ) (k:=0) trivial ⟨Z3,Z4,trivial⟩ trivial TB trivial trivial trivial) rG rfl tW (fun _ _ _ _ _ _ us hl=>J.vw us hl fun _=>rfl)
  have TK:J.iN l.prog w K mg base 2 "tally_of" 1 dc:=J.aT (ps:=["worths"]) kb nb Pr (J.aE (c:=iL) (k:=1) trivial ⟨Z5,Z6,Z2,Z0,Z3,Z7,trivial⟩ ⟨TJ.mono (by decide),trivial⟩ TB trivial trivial trivial) rH rfl tX (fun _ _ _ _ _ _ us hl=>J.vw us hl fun _=>rfl)
  have TL:J.iN l.prog w K mg base 1 "put_together" 2 bP:=J.aT (ps:=["one","other"]) kb nb Pt (J.aE (c:=eO) (k:=0) trivial ⟨Z5,Z6,trivial⟩ trivial TB trivial trivial trivial) kD rfl mx (fun _ _ _ _ _ _ us hl=>J.ln2 us hl fun _ _=>rfl)
  have TM:J.iN l.prog w K mg base 2 "joined_halves" 2 a9:=J.aT (ps:=["halves","node"]) kb nb Pu (J.aE (c:=dA) (k:=1) trivial trivial ⟨Gu.mono (by decide),TL.mono (by decide),trivial⟩ TB trivial trivial trivial) jM rfl kE (fun _ _ _ _ _ _ us hl=>J.ln2 us hl fun _ _=>rfl)
  have Q5:J.iN l.prog w K mg base 4 "made_halves" 1 aN:=J.aT (ps:=["worths"]) kb nb Pw (J.aE (c:=fz) (k:=3) trivial ⟨Z8,Z0,trivial⟩ ⟨H8.mono (by decide),TH.mono (by decide),H9.mono (by decide),TK.mono (by decide),TM.mono (by decide),trivial⟩ TB trivial trivial trivial) my rfl m6 (fun _ _ _ _ _ _ us hl=>J.vw us hl fun _=>rfl)
  have TN:J.iN l.prog w K mg base 1 "_law_tally" 1 bT:=J.aT (ps:=["worths"]) kb nb Px (J.aE (c:=f_) (k:=0) trivial ⟨Z9,Z3,Z4,Z0,Z2,Z7,trivial⟩ trivial TB trivial trivial trivial) m7 rfl pJ (fun _ _ _ _ _ _ us hl=>J.vw us hl fun _=>rfl)
  have TQ:J.iN l.prog w K mg base 1 "_law_kinds" 1 cQ:=J.aT (ps:=["e"]) kb nb MQ (J.aE (c:=cR) (k:=0) trivial ⟨Z3,Q4,Z1,trivial⟩ trivial TB trivial ⟨⟨X1,PySem.W.mg_of kb nb IE,IE⟩,⟨X2,PySem.W.mg_of kb nb IF,IF⟩,⟨X3,PySem.W.mg_of kb nb IG,IG⟩,⟨X4,PySem.W.mg_of kb nb IH,IH⟩,⟨X5,PySem.W.mg_of kb nb II,II⟩,⟨X6,PySem.W.mg_of kb nb IJ,IJ⟩,⟨X7,PySem.W.mg_of kb nb IK,IK⟩,⟨X8,PySem.W.mg_of kb nb IL,IL⟩,⟨X0,PySem.W.mg_of kb nb jO,jO⟩,⟨X9,PySem.W.mg_of kb nb IM,IM⟩,⟨LM,PySem.W.mg_of kb nb ub,ub⟩,⟨LN,PySem.W.mg_of kb nb ud,ud⟩,⟨LO,PySem.W.mg_of kb nb ue,ue⟩,⟨LP,PySem.W.mg_of kb nb uf,uf⟩,⟨LQ,PySem.W.mg_of kb nb ug,ug⟩,trivial⟩ trivial) iu rfl pK (fun _ _ _ _ _ _ us hl=>J.vw us hl fun _=>rfl)
  have TR:J.qP l.prog w K mg base 1 "_law_kinds" 1 cQ:=J.AX (ps:=["e"]) kb nb MQ (J.aE (c:=cR) (k:=0) trivial ⟨Z3,Q4,Z1,trivial⟩ trivial TB trivial ⟨⟨X1,PySem.W.mg_of kb nb IE,IE⟩,⟨X2,PySem.W.mg_of kb nb IF,IF⟩,⟨X3,PySem.W.mg_of kb nb IG,IG⟩,⟨X4,PySem.W.mg_of kb nb IH,IH⟩,⟨X5,PySem.W.mg_of kb nb II,II⟩,⟨X6,PySem.W.mg_of kb nb IJ,IJ⟩,⟨X7,PySem.W.mg_of kb nb IK,IK⟩,⟨X8,PySem.W.mg_of kb nb IL,IL⟩,⟨X0,PySem.W.mg_of kb nb jO,jO⟩,⟨X9,PySem.W.mg_of kb nb IM,IM⟩,⟨LM,PySem.W.mg_of kb nb ub,ub⟩,⟨LN,PySem.W.mg_of kb nb ud,ud⟩,⟨LO,PySem.W.mg_of kb nb ue,ue⟩,⟨LP,PySem.W.mg_of kb nb uf,uf⟩,⟨LQ,PySem.W.mg_of kb nb ug,ug⟩,trivial⟩ trivial) iu rfl m8 (fun _ _ _ _ _ _ us hl=>J.vw us hl fun _=>rfl)
  have TU:J.iN l.prog w K mg base 5 "_law_refusal" 1 aH:=J.aT (ps:=["worths"]) kb nb Py (J.aE (c:=eQ) (k:=4) trivial trivial ⟨Q5.mono (by decide),TQ.mono (by decide),trivial⟩ TB ⟨⟨ID,PySem.W.mg_of kb nb xx,⟨xx,DP⟩⟩,trivial⟩ trivial trivial ⟨(fun _ _ h=>by cases h;exact TR.mono (by decide)),trivial⟩) kF rfl mz (fun _ _ _ _ _ _ us hl=>J.vw us hl fun _=>rfl)
  exact J.HM Fu (J.aE (c:=Bc) (k:=5) trivial ⟨TC,Z3,TF,trivial⟩ ⟨H1.mono (by decide),H6.mono (by decide),H7.mono (by decide),Q5.mono (by decide),TN.mono (by decide),TU.mono (by decide),trivial⟩ TB trivial trivial trivial) Ia rfl Ly
end K80
open PySem PySem.W PyProof.Rows
set_option maxRecDepth 100000 in
set_option maxHeartbeats 0 in
theorem PySem.Challenge.cw_onelook_k80_halves_made_holds : PySem.Challenge.rw_onelook_k80_halves_made.Holds := by
  refine K80.head ?_
  k_fill
  refine L2.walk_of (l:=PySem.Challenge.rw_onelook_k80_halves_made) (n:=63) (k:=6) (x:="script") (CX:=fun w => J.CXJ PySem.Challenge.rw_onelook_k80_halves_made.prog w) (sp:=fun w => J.spW _ 1 K80.F_law) rfl (by decide) rfl ⟨rfl,by decide,by decide⟩ (fun w h Y => PySem.W.kIn_of Y) ?F (fun w H a ns hl hO hS => J.law_sp K80.law_true H a ns hl (J.OnlyT.of hO) hS (J.tb_none ?Ta ?Tb ?Tc)) (fun _ _ _ _ _ z => z.elim fun _ y => y.elim fun _ x => x.2)
  case F=>
    intro w mg fa h KX G hmg
    refine' K80.all_mk KX G hmg ?d1 ?d2 ?d3 ?d4 ?d5 ?d6 ?d7 ?d8 ?d9 ?Pn ?Po ?Pp ?Pq ?Pr ?Pt ?Pu ?Pw ?Px ?MQ ?Py ?Pz ?z0 ?z1 ?z2 ?z3 ?z4 ?z5 ?z6 ?z7 ?z8 ?z9 ?Gy ?Gz ?GB ?v0 ?jO ?m_ ?pN ?pO ?pP ?IE ?IF ?IG ?IH ?II ?IJ ?IK ?IL ?IM ?ub ?ud ?ue ?uf ?ug ?xx ?DP ?PB ?PD ?PF ?PH ?PJ ?PL ?PM ?PN ?PQ ?PR ?IP ?IQ ?IS ?IT ?IU ?IV ?PU ?PV
    (case d1=>refine' J.bh ?a ?l ?c ?k;(case a=>k_is);(case l=>k_is);(case c=>k_is);(case k=>k_is))
    (case d2=>refine' J.bh ?a ?l ?c ?k;(case a=>k_is);(case l=>k_is);(case c=>k_is);(case k=>k_is))
    (case d3=>refine' J.bh ?a ?l ?c ?k;(case a=>k_is);(case l=>k_is);(case c=>k_is);(case k=>k_is))
    (case d4=>refine' J.bh ?a ?l ?c ?k;(case a=>k_is);(case l=>k_is);(case c=>k_is);(case k=>k_is))
    (case d5=>refine' J.bh ?a ?l ?c ?k;(case a=>k_is);(case l=>k_is);(case c=>k_is);(case k=>k_is))
    (case d6=>refine' J.bh ?a ?l ?c ?k;(case a=>k_is);(case l=>k_is);(case c=>k_is);(case k=>k_is))
    (case d7=>refine' J.bh ?a ?l ?c ?k;(case a=>k_is);(case l=>k_is);(case c=>k_is);(case k=>k_is))
    (case d8=>refine' J.bh ?a ?l ?c ?k;(case a=>k_is);(case l=>k_is);(case c=>k_is);(case k=>k_is))
    (case d9=>refine' J.bh ?a ?l ?c ?k;(case a=>k_is);(case l=>k_is);(case c=>k_is);(case k=>k_is))
    (case Pn=>refine' J.bh ?a ?l ?c ?k;(case a=>k_is);(case l=>k_is);(case c=>k_is);(case k=>k_is))
    (case Po=>refine' J.bh ?a ?l ?c ?k;(case a=>k_is);(case l=>k_is);(case c=>k_is);(case k=>k_is))
    (case Pp=>refine' J.bh ?a ?l ?c ?k;(case a=>k_is);(case l=>k_is);(case c=>k_is);(case k=>k_is))
    (case Pq=>refine' J.bh ?a ?l ?c ?k;(case a=>k_is);(case l=>k_is);(case c=>k_is);(case k=>k_is))
    (case Pr=>refine' J.bh ?a ?l ?c ?k;(case a=>k_is);(case l=>k_is);(case c=>k_is);(case k=>k_is))
    (case Pt=>refine' J.bh ?a ?l ?c ?k;(case a=>k_is);(case l=>k_is);(case c=>k_is);(case k=>k_is))
    (case Pu=>refine' J.bh ?a ?l ?c ?k;(case a=>k_is);(case l=>k_is);(case c=>k_is);(case k=>k_is))
    (case Pw=>refine' J.bh ?a ?l ?c ?k;(case a=>k_is);(case l=>k_is);(case c=>k_is);(case k=>k_is))
    (case Px=>refine' J.bh ?a ?l ?c ?k;(case a=>k_is);(case l=>k_is);(case c=>k_is);(case k=>k_is))
    (case MQ=>refine' J.bh ?a ?l ?c ?k;(case a=>k_is);(case l=>k_is);(case c=>k_is);(case k=>k_is))
    (case Py=>refine' J.bh ?a ?l ?c ?k;(case a=>k_is);(case l=>k_is);(case c=>k_is);(case k=>k_is))
    (case Pz=>refine' J.bh ?a ?l ?c ?k;(case a=>k_is);(case l=>k_is);(case c=>k_is);(case k=>k_is))
    (case z0=>k_is)
    (case z1=>k_is)
    (case z2=>k_is)
    (case z3=>k_is)
    (case z4=>k_is)
    (case z5=>k_is)
    (case z6=>k_is)
    (case z7=>k_is)
    (case z8=>k_is)
    (case z9=>k_is)
    (case Gy=>k_is)
    (case Gz=>k_is)
    (case GB=>k_is)
    (case v0=>k_is)
    (case jO=>k_is)
    (case m_=>k_exc)
    (case pN=>k_is)
    (case pO=>k_is)
    (case pP=>k_is)
    (case IE=>k_is)
    (case IF=>k_is)
    (case IG=>k_is)
    (case IH=>k_is)
    (case II=>k_is)
    (case IJ=>k_is)
    (case IK=>k_is)
    (case IL=>k_is)
    (case IM=>k_is)
    (case ub=>k_is)
    (case ud=>k_is)
    (case ue=>k_is)
    (case uf=>k_is)
    (case ug=>k_is)
    (case xx=>k_is)
    (case DP=>k_exc)
    (case PB=>kit_is)
    (case PD=>kit_is)
    (case PF=>kit_is)
    (case PH=>kit_is)
    (case PJ=>kit_is)
    (case PL=>kit_is)
    (case PM=>kit_is)
    (case PN=>kit_is)
    (case PQ=>kit_is)
    (case PR=>kit_is)
    (case IP=>kit_is)
    (case IQ=>kit_is)
    (case IS=>kit_is)
    (case IT=>kit_is)
    (case IU=>kit_is)
    (case IV=>kit_is)
    (case PU=>k_is)
    (case PV=>kit_is)
  (case Ta=>k_is)
  (case Tb=>k_is)
  (case Tc=>k_is)
