import PyProof.Rows.All
import Wide.All
import OpenK.AllK
import Wide.FinOn
import Lean
import PyProof.EqAt
import PyProof.EqKinds
import PyProof.TupleCall
import PySem.Challenge.RW_onelook_k82_stretches_told
open PySem renaming Addr→WN,Around→WO,FuncData→WQ,NameKind→WR,Program→WS,Shared→WT,Value→WU,World→WV,behindInMarks→WW,binaryOp→WX,bootBuiltins→WY,codeAny→WZ,compPost→W0,compareOp→W2,foldedSetIterable→W3,isSubtype_type→W4,mainGlobals→W5,sizeLine→W6,starEach→W7,wpAny→W8,wpAny_bind→W9,wpAny_dictEntries→W_,wpAny_holding→W',wpAny_mono→Xa,wpAny_newList→Xb,wpAny_newObj_type→Xd,wpAny_pure→Xe,wpAny_truthy_bool→Xf
open PyProof.Rows renaming Keyed→Xg,SortSt→Xh,oneType'→Xi,wpS_bind→Xj,wpS_forRange→Xk,wpS_mono→Xl,wpS_pure→Xm
noncomputable section
set_option Elab.async false
set_option linter.all false
set_option maxRecDepth 100000
namespace L2
open PySem PySem.Spec PyProof.Rows
abbrev Key:=Sum Int Str
def oY:Key->WU->Bool
 | .inl k,v=>Value.isInt k v
 | .inr x,v=>Value.isStrOf x v
def OJ(w:WV):Key->Int
 | .inl k=>hashInt k
 | .inr x=>hashStr w x
theorem bq:∀{k:Key}{v:WU},oY k v=true->(∃i t,k=Sum.inl i/\v=Value.int i t)\/(∃x t,k=Sum.inr x/\v=Value.str x t)
 | .inl i,v,h=>by
  obtain⟨t,e⟩:=Value.isInt_shape (k:=i) (v:=v) h
  exact .inl ⟨i,t,rfl,e⟩
 | .inr x,v,h=>by
  obtain⟨t,e⟩:=Value.isStrOf_shape (x:=x) (v:=v) h
  exact .inr ⟨x,t,rfl,e⟩
theorem xH(i:Int)(t:Tok):oY (.inl i) (.int i t)=true:=by simp[oY,Value.isInt]
theorem xI(x:Str)(t:Tok):oY (.inr x) (.str x t)=true:=by simp[oY,Value.isStrOf]
theorem G0(a b:Int):decide ((Sum.inl a:Key)=Sum.inl b)=(a == b):=by
 by_cases e:a=b
 ·subst e;simp
 ·have h:¬(Sum.inl a:Key)=Sum.inl b:=λq=>e (Sum.inl.inj q)
  rw[decide_eq_false h]
  exact(beq_eq_false_iff_ne.mpr e).symm
theorem G5(a b:Str):decide ((Sum.inr a:Key)=Sum.inr b)=decide (a=b):=by
 by_cases e:a=b
 ·subst e;simp
 ·have h:¬(Sum.inr a:Key)=Sum.inr b:=λq=>e (Sum.inr.inj q)
  rw[decide_eq_false h,decide_eq_false e]
theorem G6(a:Int)(b:Str):decide ((Sum.inl a:Key)=Sum.inr b)=false:=decide_eq_false (λq=>nomatch q)
theorem G7(a:Str)(b:Int):decide ((Sum.inr a:Key)=Sum.inl b)=false:=decide_eq_false (λq=>nomatch q)
def aM(prog:WS)(w:WV):PySem.KeyKind prog w Key where
 is:=oY
 hash:=OJ w
 inj:=λv a b ha hb=>by
  rcases bq ha with ⟨i,t,rfl,rfl⟩ | ⟨x,t,rfl,rfl⟩
  ·rcases bq hb with ⟨j,u,rfl,e⟩ | ⟨y,u,rfl,e⟩
   ·injection e with e1 _;rw[e1]
   ·exact nomatch e
  ·rcases bq hb with ⟨j,u,rfl,e⟩ | ⟨y,u,rfl,e⟩
   ·exact nomatch e
   ·injection e with e1 _;rw[e1]
 byValue:=λk v h=>by
  rcases bq h with ⟨i,t,rfl,rfl⟩ | ⟨x,t,rfl,rfl⟩<;>rfl
 pyHash:=λhv h=>by
  rcases bq hv with ⟨i,t,rfl,rfl⟩ | ⟨x,t,rfl,rfl⟩
  ·exact wpAny_pyHash_int h
  ·exact wpAny_pyHash_str h
 eqBool:=λhu hv h=>by
  rcases bq hu with ⟨i,t,rfl,rfl⟩ | ⟨x,t,rfl,rfl⟩
  ·rcases bq hv with ⟨j,u,rfl,rfl⟩ | ⟨y,u,rfl,rfl⟩
   ·rw[G0] at h;exact wpAny_eqBool_int h
   ·rw[G6] at h;exact SeqAt.EqAt.int_str i t y u _ _ _ _ h
  ·rcases bq hv with ⟨j,u,rfl,rfl⟩ | ⟨y,u,rfl,rfl⟩
   ·rw[G7] at h;exact SeqAt.EqAt.str_int x t j u _ _ _ _ h
   ·rw[G5] at h;exact wpAny_eqBool_str h
 «strs»:=λk x t v h=>by
  rcases bq h with ⟨i,u,rfl,e⟩ | ⟨y,u,rfl,e⟩
  ·exact nomatch e
  ·injection e with e1 _
   subst e1
   cases v<;>rfl
theorem rM(prog:WS)(w:WV)(i:Int)(t:Tok):(aM prog w).is (.inl i) (.int i t)=true:=xH i t
theorem rN(prog:WS)(w:WV)(x:Str)(t:Tok):(aM prog w).is (.inr x) (.str x t)=true:=xI x t
end L2
namespace L2
open PySem PySem.Spec PyProof.Rows
inductive V where
 | aE | bl (b:Bool) | int (i:Int) | str (x:Str) | K5 (b:Array UInt8) | rO (b:UInt64) | ref (a:WN) | ty (n:String)
 deriving DecidableEq
def RelV:V->WU->Prop
 | .aE,u=>u=Value.none
 | .bl b,u=>u=Value.bool b
 | .int i,u=>∃t,u=Value.int i t
 | .str x,u=>∃t,u=Value.str x t
 | .K5 b,u=>∃t,u=Value.bytes b t
 | .rO b,u=>∃t,u=Value.float b t
 | .ref a,u=>u=Value.ref a
 | .ty n,u=>u=Value.type n
abbrev Vals:List V->List WU->Prop:=Paired RelV
theorem Vals.length{xs:List V}{us:List WU}(r:Vals xs us):xs.length=us.length:=Paired.length r
theorem Vals.get:∀{xs:List V}{us:List WU}{i:Nat}{x:V},Vals xs us->xs[i]? =some x->∃u,us[i]? =some u/\RelV x u
 | _,_,_,_,.nil,e=>by simp at e
 | _,_,0,_,.cons r _,e=>by simp at e;subst e;exact⟨_,rfl,r⟩
 | _,_,i+1,x,.cons _ t,e=>by
  obtain⟨u,h1,h2⟩:=Vals.get (i:=i) (x:=x) t (by simpa using e)
  exact⟨u,by simpa using h1,h2⟩
theorem Vals.set{x:V}{u:WU}(r:RelV x u):∀{xs:List V}{us:List WU}(i:Nat),Vals xs us->Vals (xs.set i x) (us.set i u)
 | _,_,_,.nil=> .nil
 | _,_,0,.cons _ t=> .cons r t
 | _,_,i+1,.cons q t=> .cons q (Vals.set r i t)
theorem Vals.append:∀{xs ys:List V}{us ws:List WU},Vals xs us->Vals ys ws->Vals (xs++ys) (us++ws)
 | _,_,_,_,.nil,s=>s
 | _,_,_,_,.cons r t,s=> .cons r (Vals.append t s)
theorem Vals.take:∀{xs:List V}{us:List WU}(n:Nat),Vals xs us->Vals (xs.take n) (us.take n)
 | _,_,0,_=> .nil
 | _,_,_+1,.nil=> .nil
 | _,_,n+1,.cons r t=> .cons r (Vals.take n t)
theorem Vals.drop:∀{xs:List V}{us:List WU}(n:Nat),Vals xs us->Vals (xs.drop n) (us.drop n)
 | _,_,0,r=>r
 | _,_,_+1,.nil=> .nil
 | _,_,n+1,.cons _ t=>Vals.drop n t
def ml:Option V->Option WU->Prop
 | some v,some u=>RelV v u
 | none,none=>True
 | _,_=>False
def KV{κ:Type}:List (κ×V)->List (κ×WU)->Prop:=Paired λ(p:κ×V)(q:κ×WU)=>p.1=q.1/\RelV p.2 q.2
def kV:Key->V
 | .inl i=> .int i
 | .inr x=> .str x
inductive HO where
  | lst (xs:List V)
  | tup (xs:List V)
  | dK (kvs:List (Key×V)) | dT (kvs:List (List Key×V))
  | set (S:Int->Bool) (n:Nat)
  | ins (C dx:WN) (fs:List (Str×V))
  | own (x:WN)
  | xd (fs:List (Str×V))
  | met (f x:WN)
  | NI (lo hi:Int)
  | bR (o:Obj) (u:HO)
  | br (ps:Array WU)
  | ext (φ:Heap->Prop)
abbrev Hp:=WN->Option HO
def upd(H:Hp)(a:WN)(o:HO):Hp:=λb=>if b=a then some o else H b
theorem aC{H:Hp}{a:WN}{o:HO}:upd H a o a=some o:=by unfold upd;rw[if_pos rfl]
theorem au{H:Hp}{a b:WN}{o:HO}(h:b≠a):upd H a o b=H b:=by unfold upd;rw[if_neg h]
theorem FY{H:Hp}{a b:WN}{o u:HO}(h:H a=some o)(h':H b=some u)(d:o≠u):a≠b:=by
 intro e;subst e;rw[h] at h';exact d (Option.some.inj h')
theorem bE{H:Hp}{a b:WN}{o:HO}(h:H a=some o)(h':H b=none):a≠b:=by
 intro e;subst e;rw[h] at h';cases h'
def xJ(h:Heap)(a:WN):Prop:=∀o,h.get? a=some o->o.dict=none
theorem xJ.new(h:Heap)(us:Array WU):xJ (h.push { cls:=.type "tuple",data:=.seq us }) h.objs.size:=λo q=>by
 rw[Heap.get?_push_size _ rfl] at q
 cases q
 rfl
section
variable (P:WS) (w:WV)
def bL(H:Hp)(h:Heap)(a:WN):HO->Prop
 | .lst xs=>xs.length<=W6/\∃(its:List WU)(n:Nat),Vals xs its/\h.get? a=some { cls:=.type "list",data:=.seq its.toArray n }
 | .tup xs=>xs.length<=W6/\∃its:List WU,Vals xs its/\IsTup h a its.toArray/\xJ h a
 | .dK kvs=>kvs.length<=W6/\(a == sysModules)=false/\∃vs,KV kvs vs/\h.DictOf (aM P w) a vs
 | .dT kvs=>kvs.length<=W6/\(a == sysModules)=false/\∃xs:List (List Key×WN×WU),
   Paired (λ(p:List Key×V)(q:List Key×WN×WU)=>p.1=q.1/\H q.2.1=some (.tup (p.1.map kV))/\RelV p.2 q.2.2) kvs xs/\
   ∃o es ep,h.get? a=some o/\o.ExactDict/\o.data= .dict es ep/\es.toList=xs.map (entryOfKey (tupleKind (aM P w)))/\(xs.map (·.1)).Nodup
 | .set S n=>h.SetOf (intKind P w) a S n
 | .ins C dx fs=>H dx=some (.own a)/\fs.length<=1000/\dx≠a/\h.get? a=some (PySem.W.instObj C dx)/\
   ∃mA,h.Ns1 dx mA/\(∀f,ml (fs.lookup f) (mA f))/\PySem.Within mA (fs.map (·.1))
 | .own _=>∃o,h.get? a=some o
 | .xd fs=>∃mA,h.Ns1 a mA/\∀f,ml (fs.lookup f) (mA f)
 | .NI lo hi=>∃t u v,h.get? a=some { cls:=.type "range",data:=.fields #[.int lo t,.int hi u,.int 1 v] }
 | .bR o u=>h.get? a=some o/\bL H h a u
 | .br ps=>h.get? a=some { cls:=.none,data:=.fields ps }
 | .met f x=>h.get? a=some (PySem.W.methodObj (.ref f) (.ref x))
 | .ext φ=>φ h/\(∃o,h.get? a=some o)/\∀h1 h2:Heap,φ h1->(∀o,h1.get? a=some o->h2.get? a=some o)->φ h2
def gX(H:Hp)(h:Heap):Prop:=∀a o,H a=some o->bL P w H h a o
end
section
variable {P:WS} {w:WV} {H H':Hp} {h h':Heap} {a:WN} {o:HO}
theorem bL.lt(x:bL P w H h a o):a < h.objs.size:=by
 cases o with
 | lst xs=>obtain⟨_,_,_,_,e⟩:=x;exact Heap.lt_size e
 | tup xs=>obtain⟨_,_,_,p,_⟩:=x;exact p.lt
 | dK kvs=>obtain⟨_,_,_,_,o,_,_,e,_⟩:=x;exact Heap.lt_size e
 | dT kvs=>obtain⟨_,_,_,_,o,_,_,e,_⟩:=x;exact Heap.lt_size e
 | set S n=>obtain⟨o,_,_,_,e,_⟩:=x;exact Heap.lt_size e
 | ins C dx fs=>obtain⟨_,_,_,e,_⟩:=x;exact Heap.lt_size e
 | own y=>obtain⟨_,e⟩:=x;exact Heap.lt_size e
 | xd fs=>obtain⟨_,⟨_,_,_,e,_⟩,_⟩:=x;exact Heap.lt_size e
 | NI lo hi=>obtain⟨_,_,_,e⟩:=x;exact Heap.lt_size e
 | bR ob u=>obtain⟨e,_⟩:=x;exact Heap.lt_size e
 | br ps=>exact Heap.lt_size (show h.get? a=some _ from x)
 | met f y=>exact Heap.lt_size (show h.get? a=some _ from x)
 | ext φ=>obtain⟨_,⟨_,e⟩,_⟩:=x;exact Heap.lt_size e
theorem Paired.G8{α β:Type}{F G:α->β->Prop}:∀{l₁:List α}{l₂:List β},Paired F l₁ l₂->(∀a b,F a b->G a b)->Paired G l₁ l₂
 | _,_,.nil,_=> .nil
 | _,_,.cons r t,f=> .cons (f _ _ r) (Paired.G8 t f)
theorem bL.stay(x:bL P w H h a o)(k:∀b u,(b=a\/H b=some (.own a))->h.get? b=some u->h'.get? b=some u)
  (ho:∀b,H b=some (.own a)->H' b=some (.own a))(ht:∀b xs,H b=some (.tup xs)->H' b=some (.tup xs)):bL P w H' h' a o:=by
 induction o with
 | lst xs=>obtain⟨z,its,n,r,e⟩:=x;exact⟨z,its,n,r,k _ _ (.inl rfl) e⟩
 | tup xs=>obtain⟨z,us,r,⟨ob,e,c⟩,nd⟩:=x;exact⟨z,us,r,⟨ob,k _ _ (.inl rfl) e,c⟩,λo q=>by rw[k _ _ (.inl rfl) e] at q;cases q;exact nd _ e⟩
 | dK kvs=>obtain⟨z,y,vs,r,ob,es,ep,e,c⟩:=x;exact⟨z,y,vs,r,ob,es,ep,k _ _ (.inl rfl) e,c⟩
 | dT kvs=>
  obtain⟨z,y,xs,r,ob,es,ep,e,c⟩:=x
  exact⟨z,y,xs,Paired.G8 r λp q z=>⟨z.1,ht _ _ z.2.1,z.2.2⟩,ob,es,ep,k _ _ (.inl rfl) e,c⟩
 | set S n=>obtain⟨ob,es,ep,t,e,c⟩:=x;exact⟨ob,es,ep,t,k _ _ (.inl rfl) e,c⟩
 | ins C dx fs=>
  obtain⟨d,z,ne,e,mA,⟨od,es,ep,e2,c⟩,r⟩:=x
  exact⟨ho _ d,z,ne,k _ _ (.inl rfl) e,mA,⟨od,es,ep,k _ _ (.inr d) e2,c⟩,r⟩
 | own y=>obtain⟨ob,e⟩:=x;exact⟨ob,k _ _ (.inl rfl) e⟩
 | xd fs=>obtain⟨mA,⟨od,es,ep,e,c⟩,r⟩:=x;exact⟨mA,⟨od,es,ep,k _ _ (.inl rfl) e,c⟩,r⟩
 | NI lo hi=>obtain⟨t,u,v,e⟩:=x;exact⟨t,u,v,k _ _ (.inl rfl) e⟩
 | bR ob u ih=>obtain⟨e,q⟩:=x;exact⟨k _ _ (.inl rfl) e,ih q⟩
 | br ps=>
  have e:h.get? a=some { cls:=.none,data:=.fields ps }:=x
  show h'.get? a=some { cls:=.none,data:=.fields ps }
  exact k a _ (.inl rfl) e
 | met f y=>
  have e:h.get? a=some (PySem.W.methodObj (.ref f) (.ref y)):=x
  show h'.get? a=some (PySem.W.methodObj (.ref f) (.ref y))
  exact k a _ (.inl rfl) e
 | ext φ=>obtain⟨p,⟨o,e⟩,st⟩:=x;exact⟨st _ _ p λo q=>k _ _ (.inl rfl) q,⟨o,k _ _ (.inl rfl) e⟩,st⟩
theorem gX.lt(x:gX P w H h)(e:H a=some o):a < h.objs.size:=(x a o e).lt
theorem gX.fresh(x:gX P w H h)(e:h.objs.size<=a):H a=none:=by
 cases q:H a with
 | none=>rfl
 | some u=>exact absurd (Nat.lt_of_lt_of_le (x.lt q) e) (Nat.lt_irrefl _)
theorem gX.kept(x:gX P w H h)(k:∀b u,h.get? b=some u->h'.get? b=some u):gX P w H h':=λa o e=>
 (x a o e).stay (λb u _ q=>k b u q) (λ_ q=>q) λ_ _ q=>q
theorem gX.laid(x:gX P w H h)(k:∀b u,h.get? b=some u->h'.get? b=some u)(hp:h.objs.size<=a)(new:bL P w (upd H a o) h' a o):gX P w (upd H a o) h':=λb u e=>by
 have hn:=x.fresh hp
 by_cases hb:b=a
 ·subst hb;rw[aC] at e;cases e;exact new
 ·rw[au hb] at e
  exact(x b u e).stay (λc v _ q=>k c v q) (λc q=>by rw[au (bE q hn)];exact q) λc xs q=>by rw[au (bE q hn)];exact q
end
def Rd(H:Hp)(a:WN)(u:HO):Prop:=H a=some u\/∃o,H a=some (.bR o u)
theorem Rd.ok{P:WS}{w:WV}{H:Hp}{h:Heap}{a:WN}{u:HO}(r:Rd H a u)(x:gX P w H h):bL P w H h a u:=by
 rcases r with r | ⟨o,r⟩
 ·exact x a u r
 ·obtain⟨_,q⟩:=x a _ r
  exact q
def Lh:Option HO->Prop
 | some (.lst _)=>True
 | some (.dK _)=>True
 | some (.dT _)=>True
 | some (.set _ _)=>True
 | some (.ins _ _ _)=>True
 | some (.ext _)=>True
 | _=>False
section
variable {P:WS} {w:WV} {H:Hp} {h h':Heap} {x e:WN} {o':HO}
theorem gX.write(ok:gX P w H h)(mu:Lh (H x))(he:e=x\/H e=some (.own x))(k:∀b u,b≠e->h.get? b=some u->h'.get? b=some u)(K6:∃u,h'.get? e=some u)
  (new:bL P w (upd H x o') h' x o'):gX P w (upd H x o') h':=λb u q=>by
 have Li:∀c y,H c=some (.own y)->c≠x:=λc y r z=>by subst z;rw[r] at mu;exact mu
 have OK:∀c xs,H c=some (.tup xs)->c≠x:=λc xs r z=>by subst z;rw[r] at mu;exact mu
 by_cases hb:b=x
 ·subst hb;rw[aC] at q;cases q;exact new
 ·rw[au hb] at q
  by_cases G9:b=e
  ·have q':H b=some (.own x):=by
    rcases he with z | z
    ·exact absurd (G9.trans z) hb
    ·rw[G9];exact z
   rw[q] at q';cases q'
   obtain⟨v,hv⟩:=K6
   exact⟨v,by rw[G9];exact hv⟩
  ·refine(ok b u q).stay (λc v hc r=>k c v ?_ r) (λc r=>by rw[au (Li c b r)];exact r) λc xs r=>by rw[au (OK c xs r)];exact r
   rcases hc with rfl | hc
   ·exact G9
   ·rintro rfl
    rcases he with z | z
    ·exact Li c b hc z
    ·rw[hc] at z;cases z;exact hb rfl
end
structure Un(fs ex:List WN)(H H':Hp)(h h':Heap):Prop where
 keep:∀b o,h.get? b=some o->H b=none->b∉fs->b∉ex->h'.get? b=some o
 slot:∀b o,h.get? b=some o->H b=none->b∈fs->b∉ex->∃sl,h'.get? b=some { o with slots:=sl }
 free:∀b o,h.get? b=some o->H b=none->b∉ex->H' b=none
 there:∀b o,h.get? b=some o->b∉ex->∃o',h'.get? b=some o'
 tups:∀b xs,H b=some (.tup xs)->H' b=some (.tup xs)
 fT:∀b o u,H b=some (.bR o u)->H' b=some (.bR o u)
 hJ:∀b ps,H b=some (.br ps)->∃more,H' b=some (.br (ps++more))
section
variable {fs fs' ex ex':List WN} {H H1 H2:Hp} {h h1 h2 h':Heap} {a x e:WN} {o:HO}
theorem Un.any(u:Un fs ex H H1 h h1){b:WN}{ob:Obj}(q:h.get? b=some ob)(n:H b=none)(hx:b∉ex):∃sl,h1.get? b=some { ob with slots:=sl }:=by
 by_cases hb:b∈fs
 ·exact u.slot b ob q n hb hx
 ·exact⟨ob.slots,u.keep b ob q n hb hx⟩
theorem Un.kept(k:∀b u,h.get? b=some u->h'.get? b=some u):Un fs ex H H h h' :=
 ⟨λb ob q _ _ _=>k b ob q,λb ob q _ _ _=>⟨ob.slots,k b ob q⟩,λ_ _ _ n _=>n,λb ob q _=>⟨ob,k b ob q⟩,λ_ _ q=>q,λ_ _ _ q=>q,λ_ ps q=>⟨#[],by rw[q];simp⟩⟩
theorem Un.refl:Un fs ex H H h h:=Un.kept λ_ _ q=>q
theorem Un.laid(k:∀b u,h.get? b=some u->h'.get? b=some u)(hp:h.objs.size<=a)(hn:H a=none):Un fs ex H (upd H a o) h h' where
 keep:=λb u q _ _ _=>k b u q
 slot:=λb u q _ _ _=>⟨u.slots,k b u q⟩
 free:=λb u q n _=>by rw[au (Nat.ne_of_lt (Nat.lt_of_lt_of_le (Heap.lt_size q) hp))];exact n
 there:=λb u q _=>⟨u,k b u q⟩
 tups:=λb xs q=>by rw[au (bE q hn)];exact q
 fT:=λb u xs q=>by rw[au (bE q hn)];exact q
 hJ:=λb ps q=>⟨#[],by rw[au (bE q hn),q];simp⟩
theorem Un.write(mu:Lh (H x))(he:e=x\/H e=some (.own x))(k:∀b u,b≠e->h.get? b=some u->h'.get? b=some u)(K6:∃u,h'.get? e=some u):Un fs ex H (upd H x o) h h':=by
 have hx:∀b,H b=none->b≠x:=λb n z=>by subst z;rw[n] at mu;exact mu
 have hb:∀b,H b=none->b≠e:=λb n z=>by
  subst z
  rcases he with r | r
  ·exact hx b n r
  ·rw[n] at r;cases r
 have hm:∀b u,H b=some u->¬Lh (some u)->b≠x:=λb u q nm z=>by subst z;rw[q] at mu;exact nm mu
 refine⟨λb u q n _ _=>k b u (hb b n) q,λb u q n _ _=>⟨u.slots,k b u (hb b n) q⟩,λb u q n _=>by rw[au (hx b n)];exact n,λb u q _=>?_,
  λb xs q=>by rw[au (hm b _ q λz=>z)];exact q,λb u xs q=>by rw[au (hm b _ q λz=>z)];exact q,λb ps q=>⟨#[],by rw[au (hm b _ q λz=>z),q];simp⟩⟩
 by_cases G9:b=e
 ·subst G9;exact K6
 ·exact⟨u,k b u G9 q⟩
end
def NJ(h:Heap)(H:Hp):List WN:=(List.range h.objs.size).filter λa=>(H a).isSome
def qi(h:Heap)(H:Hp):Heap:=PySem.W.hideAll h (NJ h H)
theorem xK(h:Heap)(H:Hp):(qi h H).objs.size=h.objs.size:=PySem.W.hideAll_size _ _
theorem zz{h:Heap}{H:Hp}{b:WN}{o:Obj}(e:h.get? b=some o)(n:H b=none):(qi h H).get? b=some o :=
 PySem.W.hideAll_get _ e λhm=>by
  have q:(H b).isSome=true:=(List.mem_filter.mp hm).2
  rw[n] at q;simp at q
theorem Di{h:Heap}{H:Hp}{b:WN}{o:Obj}(e:(qi h H).get? b=some o):h.get? b=some o/\H b=none:=by
 have e':h.get? b=some o:=PySem.W.of_hideAll (NJ h H) e
 refine⟨e',?_⟩
 cases q:H b with
 | none=>rfl
 | some x=>
  have hm:b∈NJ h H:=List.mem_filter.mpr ⟨List.mem_range.mpr (Heap.lt_size e'),by simp[q]⟩
  have z:(qi h H).get? b=none:=PySem.W.hideAll_none (NJ h H) hm
  rw[z] at e;cases e
end L2
namespace L2
open PySem PySem.Spec PyProof.Rows
structure Mod(K:PySem.W.Frag)(mg:Str->Option WU)(base:Heap):Prop where
 G_:K.In base
 glob:base.Ns W5 mg
 blt:∃mb,base.Ns builtinsNs mb/\∀x:Str,x≠"__name__"->mb x=WY x
 nolimit:base.NoLimit
structure Cx where
 prog:WS
 w:WV
 K:PySem.W.Frag
 mg:Str->Option WU
 base:Heap
 A:WO
 N:List Str
 s₀:WT
 H₀:Hp
 env:Env
 outer:List Env
 stack:List Env
 ex:List WN
 fn:Str->Bool
 calm:Bool
 pn:List (WN×Obj)
 xe:WU->WT->Prop
def frs(l:List Env):List WN:=l.filterMap (·.frame)
abbrev Cx.fs(X:Cx):List WN:=frs X.outer
def OL(sc:Scope)(x:Str):Prop:=sc.names.lookup x=some .local\/sc.names.lookup x=some .cell\/sc.names.lookup x=some .free
def Loc(sc:Scope)(x:Str):Prop:=sc.names.lookup x=some .local\/sc.names.lookup x=some .cell
def Look(env:Env)(h:Heap)(m:Str->Option WU)(x:Str)(u:WU):Prop :=
 (env.kindOf x=some .local/\m x=some u)\/((env.kindOf x=some .cell\/env.kindOf x=some .free)/\∃c,env.cells.lookup x=some c/\h.IsCell c (some u))
structure Cx.Ok(X:Cx):Prop where
 mod:Mod X.K X.mg X.base
 kind:X.env.scope.kind= .function
 glob:X.env.globals=W5
 blt:X.env.builtins=builtinsNs
 above:X.s₀.heap.objs.size<=X.env.locals
 inj:∀x y c,X.env.cells.lookup x=some c->X.env.cells.lookup y=some c->x=y
 has:∀x,(X.env.kindOf x=some .cell\/X.env.kindOf x=some .free)->∃c,X.env.cells.lookup x=some c
 K7:∀x c,X.fn x=true->X.env.cells.lookup x=some c->X.s₀.heap.objs.size<=c
 hd:X.calm=true->X.A.handled=none
 frames:X.A.frames=some X.stack
 stk:X.stack=X.outer\/(X.stack=X.env::X.outer/\X.env.frame=some X.env.locals)
 OM:∀b∈X.ex,b≠X.env.locals/\∀x c,X.env.cells.lookup x=some c->c≠b
 bs:∀b o,X.base.get? b=some o->X.s₀.heap.get? b=some o/\X.H₀ b=none
 De:X.base.objs.size<=X.s₀.heap.objs.size
 xM:∀b o,X.base.get? b=some o->b∉X.ex
 zE:∀b∈X.ex,b∉X.fs
 jb:X.s₀.heap.FunFrames X.base X.outer
 Dj:∀b∈X.fs,X.H₀ b=none
structure Inv(X:Cx)(pins:List (WN×Obj))(σ:List (Option V))(H:Hp)(s:WT):Prop where
 ok:X.Ok
 os:s.os=X.s₀.os
 bare:AllBare s.gens
 base:Un X.fs X.ex X.H₀ H X.s₀.heap s.heap
 loc:∃m,s.heap.Ns X.env.locals m/\∀(i:Nat)(x:Str)(v:V),X.N[i]? =some x->σ[i]? =some (some v)->OL X.env.scope x->∃u,RelV v u/\Look X.env s.heap m x u
 cell:∀x c,X.env.cells.lookup x=some c->∃v,s.heap.IsCell c v
 free:H X.env.locals=none
 dR:∀x c,X.env.cells.lookup x=some c->H c=none
 pin:∀p∈X.pn++pins,s.heap.get? p.1=some p.2/\H p.1=none/\p.1≠X.env.locals/\p.1∉X.fs/\∀v,p.2.data≠.cell v
 hok:gX X.prog X.w H s.heap
 len:σ.length=X.N.length
section
variable {X:Cx} {pins:List (WN×Obj)} {σ:List (Option V)} {H H':Hp} {s:WT} {h':Heap}
theorem Cx.Ok.ON(ok:X.Ok){b:WN}{o:Obj}(e:X.base.get? b=some o):b∉X.fs:=λhb=>by
 have:=(ok.jb.mem hb).1
 rw[e] at this;cases this
theorem Inv.bs(I:Inv X pins σ H s):∀b o,X.base.get? b=some o->s.heap.get? b=some o/\H b=none:=λb o e=>
 ⟨I.base.keep b o (I.ok.bs b o e).1 (I.ok.bs b o e).2 (I.ok.ON e) (I.ok.xM b o e),I.base.free b o (I.ok.bs b o e).1 (I.ok.bs b o e).2 (I.ok.xM b o e)⟩
theorem Inv.bk(I:Inv X pins σ H s):∀b o,X.base.get? b=some o->s.heap.get? b=some o:=λb o e=>(I.bs b o e).1
theorem Inv.mod(I:Inv X pins σ H s):Mod X.K X.mg X.base:=I.ok.mod
theorem Inv.wa(I:Inv X pins σ H s):X.K.In s.heap:=I.ok.mod.G_.keeps I.bk
theorem Inv.lt(I:Inv X pins σ H s):X.env.locals < s.heap.objs.size:=let ⟨_,hn,_⟩:=I.loc;hn.lt
theorem Inv.sz(I:Inv X pins σ H s):X.s₀.heap.objs.size<=s.heap.objs.size:=Nat.le_trans I.ok.above (Nat.le_of_lt I.lt)
theorem Inv.OO(I:Inv X pins σ H s){a:WN}(h:s.heap.objs.size<=a):a∉X.fs:=λhb=>by
 obtain⟨_,o,ho,_⟩:=I.ok.jb.mem hb
 exact absurd (Nat.lt_of_lt_of_le (Heap.lt_size ho) (Nat.le_trans I.sz h)) (Nat.lt_irrefl _)
theorem Inv.Dk(I:Inv X pins σ H s):∀x c,X.env.cells.lookup x=some c->c≠X.env.locals:=λx c e z=>by
 obtain⟨v,o,ho,hd⟩:=I.cell x c e
 obtain⟨m,⟨o',es,ep,ho',hd',_⟩,_⟩:=I.loc
 rw[z,ho'] at ho;cases ho;rw[hd'] at hd;cases hd
theorem Inv.jb(I:Inv X pins σ H s):s.heap.FunFrames X.base X.outer:=by
 have all:∀(l:List Env),(∀b∈frs l,b∈X.fs)->X.s₀.heap.FunFrames X.base l->s.heap.FunFrames X.base l:=by
  intro l
  induction l with
  | nil=>intro _ _;trivial
  | cons env r ih=>
   intro hs hl
   obtain⟨hk,⟨L,o,hf,hn,ho,hd⟩,hr⟩:=hl
   have hL:L∈X.fs:=hs L (by unfold frs;rw[List.filterMap_cons,hf];exact List.mem_cons_self)
   obtain⟨sl,e⟩:=I.base.slot L o ho (I.ok.Dj L hL) hL λz=>I.ok.zE L z hL
   exact⟨hk,⟨L,_,hf,hn,e,hd⟩,ih (λb hb=>hs b (by unfold frs;rw[List.filterMap_cons,hf];exact List.mem_cons_of_mem _ hb)) hr⟩
 exact all X.outer (λ_ hb=>hb) I.ok.jb
theorem Inv.stack(I:Inv X pins σ H s):s.heap.FunFrames X.base X.stack:=by
 rcases I.ok.stk with e | ⟨e,hf⟩
 ·rw[e];exact I.jb
 ·rw[e]
  obtain⟨m,hn,_⟩:=I.loc
  refine .cons (by rw[I.ok.kind];decide) hf hn ?_ I.jb
  exact Heap.get?_none_of_le (Nat.le_trans I.ok.De I.ok.above)
theorem Inv.mn(I:Inv X pins σ H s):∀b∈frs X.stack,b∈X.env.locals::X.fs:=λb hb=>by
 rcases I.ok.stk with e | ⟨e,hf⟩
 ·rw[e] at hb;exact List.mem_cons_of_mem _ hb
 ·rw[e] at hb
  unfold frs at hb
  rw[List.filterMap_cons,hf] at hb
  exact hb
theorem Inv.jw(I:Inv X pins σ H s):∀b∈frs X.stack,H b=none:=λb hb=>by
 rcases List.mem_cons.mp (I.mn b hb) with e | hb
 ·rw[e];exact I.free
 ·obtain⟨_,o,ho,_⟩:=I.ok.jb.mem hb
  exact I.base.free b o ho (I.ok.Dj b hb) λz=>I.ok.zE b z hb
theorem Inv.step{g':Array GenState}{t':Nat}{d':Drawn}{ch:List WN}(I:Inv X pins σ H s)
  (hch:∀b∈ch,(b∈X.ex\/X.s₀.heap.objs.size<=b)/\b≠X.env.locals/\(∀x c,X.env.cells.lookup x=some c->c≠b)/\∀p∈X.pn++pins,p.1≠b)
  (keep:∀b o,b≠X.env.locals->b∉X.fs->b∉ch->s.heap.get? b=some o->H b=none->h'.get? b=some o)
  (slot:∀b o,b≠X.env.locals->b∈X.fs->b∉ch->s.heap.get? b=some o->H b=none->∃sl,h'.get? b=some { o with slots:=sl })(free:∀b o,b∉ch->s.heap.get? b=some o->H b=none->H' b=none)
  (there:∀b o,b∉ch->s.heap.get? b=some o->∃o',h'.get? b=some o')
  (tups:∀b xs,H b=some (.tup xs)->H' b=some (.tup xs))(fT:∀b o u,H b=some (.bR o u)->H' b=some (.bR o u))(hJ:∀b ps,H b=some (.br ps)->∃more,H' b=some (.br (ps++more)))
  (ns:∀m,s.heap.Ns X.env.locals m->h'.Ns X.env.locals m)(hok:gX X.prog X.w H' h')(hg:AllBare g') :
  Inv X pins σ H' { s with heap:=h',gens:=g',drawn:=d',toks:=t' }:=by
 have RO:∀b o,X.s₀.heap.get? b=some o->b≠X.env.locals:=λb o e=>Nat.ne_of_lt (Nat.lt_of_lt_of_le (Heap.lt_size e) I.ok.above)
 have NK:∀b o,X.s₀.heap.get? b=some o->b∉X.ex->b∉ch:=λb o e hx hb=>by
  rcases(hch b hb).1 with z | z
  ·exact hx z
  ·exact absurd (Nat.lt_of_lt_of_le (Heap.lt_size e) z) (Nat.lt_irrefl _)
 have cellK:∀x c,X.env.cells.lookup x=some c->∀v,s.heap.IsCell c v->h'.IsCell c v:=λx c e v ⟨o,ho,hd⟩=>by
  have Ha:c∉ch:=λz=>(hch c z).2.2.1 x c e rfl
  by_cases hc:c∈X.fs
  ·obtain⟨sl,q⟩:=slot c o (I.Dk x c e) hc Ha ho (I.dR x c e)
   exact⟨_,q,hd⟩
  ·exact⟨o,keep c o (I.Dk x c e) hc Ha ho (I.dR x c e),hd⟩
 refine⟨I.ok,I.os,hg,⟨λb o e n hb hx=>?_,λb o e n hb hx=>?_,λb o e n hx=>?_,λb o e hx=>?_,λb xs e=>tups b xs (I.base.tups b xs e),λb o xs e=>fT b o xs (I.base.fT b o xs e),λb ps e=>?_⟩,?_,λx c e=>?_,?_,λx c e=>?_,λp hp=>?_,hok,I.len⟩
 ·exact keep b o (RO b o e) hb (NK b o e hx) (I.base.keep b o e n hb hx) (I.base.free b o e n hx)
 ·obtain⟨sl,e1⟩:=I.base.slot b o e n hb hx
  obtain⟨TJ,e2⟩:=slot b _ (RO b o e) hb (NK b o e hx) e1 (I.base.free b o e n hx)
  exact⟨TJ,e2⟩
 ·obtain⟨o',e1⟩:=I.base.there b o e hx
  exact free b o' (NK b o e hx) e1 (I.base.free b o e n hx)
 ·obtain⟨o',e1⟩:=I.base.there b o e hx
  exact there b o' (NK b o e hx) e1
 ·obtain⟨m1,e1⟩:=I.base.hJ b ps e
  obtain⟨m2,e2⟩:=hJ b _ e1
  exact⟨m1++m2,by rw[e2,Array.append_assoc]⟩
 ·obtain⟨m,hn,hl⟩:=I.loc
  refine⟨m,ns m hn,λi x v e1 e2 e3=>?_⟩
  obtain⟨u,r,l⟩:=hl i x v e1 e2 e3
  refine⟨u,r,?_⟩
  rcases l with l | ⟨k,c,e,z⟩
  ·exact .inl l
  ·exact .inr ⟨k,c,e,cellK x c e _ z⟩
 ·obtain⟨v,z⟩:=I.cell x c e
  exact⟨v,cellK x c e v z⟩
 ·obtain⟨m,⟨o,_,_,ho,_⟩,_⟩:=I.loc
  exact free _ o (λz=>(hch _ z).2.1 rfl) ho I.free
 ·obtain⟨v,o,ho,hd⟩:=I.cell x c e
  exact free c o (λz=>(hch c z).2.2.1 x c e rfl) ho (I.dR x c e)
 ·obtain⟨e,n,ne,nf,d⟩:=I.pin p hp
  have Ha:p.1∉ch:=λz=>(hch p.1 z).2.2.2 p hp rfl
  exact⟨keep p.1 p.2 ne nf Ha e n,free p.1 p.2 Ha e n,ne,nf,d⟩
theorem Inv.un{t':Nat}(I:Inv X pins σ H s)(u:Un X.fs [] H H' s.heap h')(hok:gX X.prog X.w H' h'):Inv X pins σ H' { s with heap:=h',toks:=t' }:=by
 obtain⟨m,⟨o,es,ep,ho,r⟩,_⟩:=id I.loc
 obtain⟨sl,hL⟩:=u.any ho I.free (by simp)
 exact I.step (g':=s.gens) (d':=s.drawn) (ch:=[]) (λ_ z=>nomatch z) (λb o _ hb _ e n=>u.keep b o e n hb (by simp)) (λb o _ hb _ e n=>u.slot b o e n hb (by simp)) (λb o _ e n=>u.free b o e n (by simp)) (λb o _ e=>u.there b o e (by simp)) u.tups u.fT u.hJ (λm' hm=>by
  obtain⟨o',es',rP,ho',r'⟩:=hm
  rw[ho] at ho';cases ho'
  exact⟨_,es',rP,hL,r'⟩) hok I.bare
theorem Inv.call{g':Array GenState}{t':Nat}{d':Drawn}{ch:List WN}(I:Inv X pins σ H s)(u:Un (frs X.stack) ch H H' s.heap h')(hok:gX X.prog X.w H' h')(hg:AllBare g')
  (hch:∀b∈ch,(b∈X.ex\/X.s₀.heap.objs.size<=b)/\b≠X.env.locals/\(∀x c,X.env.cells.lookup x=some c->c≠b)/\∀p∈X.pn++pins,p.1≠b) :
  Inv X pins σ H' { s with heap:=h',gens:=g',drawn:=d',toks:=t' }:=by
 obtain⟨m,⟨o,es,ep,ho,r⟩,_⟩:=id I.loc
 obtain⟨sl,hL⟩:=u.any ho I.free λz=>(hch _ z).2.1 rfl
 exact I.step (ch:=ch) hch (λb o hL hb hc e n=>u.keep b o e n (λz=>(List.mem_cons.mp (I.mn b z)).elim hL hb) hc) (λb o _ _ hc e n=>u.any e n hc) (λb o hc e n=>u.free b o e n hc) (λb o hc e=>u.there b o e hc) u.tups u.fT u.hJ (λm' hm=>by
  obtain⟨o',es',rP,ho',r'⟩:=hm
  rw[ho] at ho';cases ho'
  exact⟨_,es',rP,hL,r'⟩) hok hg
theorem Inv.turned{t':Nat}{it:WN}(I:Inv X pins σ H s)(k:∀b o,b≠it->s.heap.get? b=some o->h'.get? b=some o)(hn:H it=none)(hL:it≠X.env.locals)
  (h1:it∈X.ex\/X.s₀.heap.objs.size<=it)(h2:∀x c,X.env.cells.lookup x=some c->c≠it)(h3:∀p∈X.pn++pins,p.1≠it):Inv X pins σ H { s with heap:=h',toks:=t' }:=by
 have RP:∀b u,H b=some u->b≠it:=λb u e z=>by rw[z,hn] at e;cases e
 refine I.step (g':=s.gens) (d':=s.drawn) (ch:=[it]) (λb hb=>?_) (λb o _ _ hc e _=>k b o (λz=>hc (by simp[z])) e) (λb o _ _ hc e _=>⟨o.slots,k b o (λz=>hc (by simp[z])) e⟩) (λ_ _ _ _ n=>n)
  (λb o hc e=>⟨o,k b o (λz=>hc (by simp[z])) e⟩) (λ_ _ e=>e) (λ_ _ _ e=>e) (λb ps e=>⟨#[],by rw[e];simp⟩) (λm hm=>?_) (λb u e=>?_) I.bare
 ·have e:b=it:=by simpa using hb
  subst e
  exact⟨h1,hL,h2,h3⟩
 ·obtain⟨o,es,ep,ho,r⟩:=hm
  exact⟨o,es,ep,k _ o (Ne.symm hL) ho,r⟩
 ·refine(I.hok b u e).stay (λc v hc q=>k c v ?_ q) (λ_ q=>q) λ_ _ q=>q
  rcases hc with z | z
  ·rw[z];exact RP b u e
  ·exact RP c _ z
theorem Inv.tok(I:Inv X pins σ H s)(t:Nat):Inv X pins σ H { s with toks:=t }:=I.un (h':=s.heap) (t':=t) Un.refl I.hok
theorem Inv.kept{t':Nat}(I:Inv X pins σ H s)(k:∀b u,s.heap.get? b=some u->h'.get? b=some u):Inv X pins σ H { s with heap:=h',toks:=t' }:=I.un (Un.kept k) (I.hok.kept k)
theorem Inv.laid{a:WN}{o:HO}{t':Nat}(I:Inv X pins σ H s)(k:∀b u,s.heap.get? b=some u->h'.get? b=some u)(hp:s.heap.objs.size<=a)(new:bL X.prog X.w (upd H a o) h' a o) :
  Inv X pins σ (upd H a o) { s with heap:=h',toks:=t' }:=I.un (Un.laid k hp (I.hok.fresh hp)) (I.hok.laid k hp new)
theorem Inv.write{x e:WN}{o:HO}{t':Nat}(I:Inv X pins σ H s)(mu:Lh (H x))(he:e=x\/H e=some (.own x))(k:∀b u,b≠e->s.heap.get? b=some u->h'.get? b=some u)(K6:∃u,h'.get? e=some u)
  (new:bL X.prog X.w (upd H x o) h' x o):Inv X pins σ (upd H x o) { s with heap:=h',toks:=t' }:=I.un (Un.write mu he k K6) (I.hok.write mu he k K6 new)
theorem Inv.wb{hU:List (WN×Obj)}(I:Inv X pins σ H s)(h:∀p∈hU,s.heap.get? p.1=some p.2/\H p.1=none/\p.1≠X.env.locals/\p.1∉X.fs/\∀v,p.2.data≠.cell v):Inv X hU σ H s :=
 ⟨I.ok,I.os,I.bare,I.base,I.loc,I.cell,I.free,I.dR,λp hp=>(List.mem_append.mp hp).elim (λz=>I.pin p (List.mem_append_left _ z)) (h p),I.hok,I.len⟩
theorem mv{N:List Str}(hN:N.Nodup){i j:Nat}{x:Str}(a:N[i]? =some x)(b:N[j]? =some x):i=j:=by
 obtain⟨h1,e1⟩:=List.getElem?_eq_some_iff.mp a
 obtain⟨h2,e2⟩:=List.getElem?_eq_some_iff.mp b
 exact(List.getElem_inj hN).mp (e1.trans e2.symm)
theorem oZ{M:Model}{A:WO}{E:WU->WT->Prop}{i:Nat}{x:Str}{v:V}{u:WU}{Q:Unit->WT->Prop}(I:Inv X pins σ H s)(hN:X.N.Nodup)(hi:X.N[i]? =some x)(hx:Loc X.env.scope x)(r:RelV v u)
  (h:∀s',Inv X pins (σ.set i (some v)) H s'->(∃a,Heap.SameBut a s.heap s'.heap/\(a=X.env.locals\/X.env.cells.lookup x=some a))->Q () s')(hf:X.fn x=true\/X.env.scope.names.lookup x=some .local:=by first | exact .inl rfl | exact .inr rfl | assumption):W8 M A (storeName X.env x u) Q E s:=by
 obtain⟨m,hn,hl⟩:=id I.loc
 have hcls:(X.env.scope.kind == .class||(X.env.scope.kind == .module&&X.env.locals != X.env.globals))=false:=by rw[I.ok.kind];rfl
 have Lj:i < σ.length:=by rw[I.len];exact(List.getElem?_eq_some_iff.mp hi).1
 have Dk:=I.Dk
 have tracked:∀{a:WN}{h':Heap},(∃o,s.heap.get? a=some o/\H a=none)->Heap.SameBut a s.heap h'->gX X.prog X.w H h':=λ{a h'} ha hs b ob e=>by
  obtain⟨_,_,hfree⟩:=ha
  refine(I.hok b ob e).stay (λc w' hc q=>(hs.2 c ?_).trans q) (λ_ q=>q) λ_ _ q=>q
  rintro rfl
  rcases hc with rfl | hc
  ·rw[hfree] at e;cases e
  ·rw[hfree] at hc;cases hc
 rcases hx with hk | hk
 ·refine wpAny_storeName_local hk hn (λh' hn' hs=>?_) hcls
  obtain⟨oL,_,_,RQ,_⟩:=id hn
  refine h _ ⟨I.ok,I.os,I.bare,⟨λb o e n hb hx=>?_,λb o e n hb hx=>?_,I.base.free,λb o e hx=>?_,I.base.tups,I.base.fT,I.base.hJ⟩,⟨_,hn',λj y v' e1 e2 e3=>?_⟩,λy c e=>?_,I.free,I.dR,λp hp=>?_,tracked ⟨oL,RQ,I.free⟩ hs,by simpa using I.len⟩ ⟨_,hs,.inl rfl⟩
  ·exact(hs.2 b (Nat.ne_of_lt (Nat.lt_of_lt_of_le (Heap.lt_size e) I.ok.above))).trans (I.base.keep b o e n hb hx)
  ·obtain⟨sl,e1⟩:=I.base.slot b o e n hb hx
   exact⟨sl,(hs.2 b (Nat.ne_of_lt (Nat.lt_of_lt_of_le (Heap.lt_size e) I.ok.above))).trans e1⟩
  ·obtain⟨o',e1⟩:=I.base.there b o e hx
   exact⟨o',(hs.2 b (Nat.ne_of_lt (Nat.lt_of_lt_of_le (Heap.lt_size e) I.ok.above))).trans e1⟩
  ·by_cases hj:j=i
   ·subst hj
    rw[hi] at e1;cases e1
    rw[List.getElem?_set_self Lj] at e2
    cases e2
    exact⟨u,r,.inl ⟨hk,by simp⟩⟩
   ·rw[List.getElem?_set_ne (Ne.symm hj)] at e2
    obtain⟨u',r',q⟩:=hl j y v' e1 e2 e3
    refine⟨u',r',?_⟩
    rcases q with ⟨k,e⟩ | ⟨k,c,e,z⟩
    ·refine .inl ⟨k,?_⟩
     have:y≠x:=λe=>hj (mv hN e1 (e ▸ hi))
     simp[this,e]
    ·exact .inr ⟨k,c,e,z.sameBut hs (Dk y c e)⟩
  ·obtain⟨w',z⟩:=I.cell y c e
   exact⟨w',z.sameBut hs (Dk y c e)⟩
  ·obtain⟨e,n,ne,nf,d⟩:=I.pin p hp
   exact⟨(hs.2 p.1 ne).trans e,n,ne,nf,d⟩
 ·have hfn:X.fn x=true:=by
   rcases hf with z | z
   ·exact z
   ·rw[z] at hk;cases hk
  obtain⟨c,hc⟩:=I.ok.has x (.inl hk)
  obtain⟨w',z⟩:=I.cell x c hc
  refine wpAny_storeName_cell I.ok.kind hk hc z (λh' hc' hs=>?_)
  obtain⟨oc,hoc,OP⟩:=id z
  refine h { s with heap:=h' } ⟨I.ok,I.os,I.bare,⟨λb o e n hb hx=>?_,λb o e n hb hx=>?_,I.base.free,λb o e hx=>?_,I.base.tups,I.base.fT,I.base.hJ⟩,⟨m,hn.sameBut hs (Ne.symm (Dk x c hc)),λj y v' e1 e2 e3=>?_⟩,λy c' e=>?_,I.free,I.dR,λp hp=>?_,tracked ⟨oc,hoc,I.dR x c hc⟩ hs,by simpa using I.len⟩ ⟨c,hs,.inr hc⟩
  ·exact(hs.2 b (Nat.ne_of_lt (Nat.lt_of_lt_of_le (Heap.lt_size e) (I.ok.K7 x c hfn hc)))).trans (I.base.keep b o e n hb hx)
  ·obtain⟨sl,e1⟩:=I.base.slot b o e n hb hx
   exact⟨sl,(hs.2 b (Nat.ne_of_lt (Nat.lt_of_lt_of_le (Heap.lt_size e) (I.ok.K7 x c hfn hc)))).trans e1⟩
  ·obtain⟨o',e1⟩:=I.base.there b o e hx
   exact⟨o',(hs.2 b (Nat.ne_of_lt (Nat.lt_of_lt_of_le (Heap.lt_size e) (I.ok.K7 x c hfn hc)))).trans e1⟩
  ·by_cases hj:j=i
   ·subst hj
    rw[hi] at e1;cases e1
    rw[List.getElem?_set_self Lj] at e2
    cases e2
    exact⟨u,r,.inr ⟨.inl hk,c,hc,hc'⟩⟩
   ·rw[List.getElem?_set_ne (Ne.symm hj)] at e2
    obtain⟨u',r',q⟩:=hl j y v' e1 e2 e3
    refine⟨u',r',?_⟩
    rcases q with q | ⟨k,c',e,z'⟩
    ·exact .inl q
    ·refine .inr ⟨k,c',e,z'.sameBut hs ?_⟩
     rintro rfl
     exact hj (mv hN e1 (I.ok.inj _ _ _ e hc ▸ hi))
  ·by_cases hcc:c'=c
   ·subst hcc;exact⟨_,hc'⟩
   ·obtain⟨w2,z2⟩:=I.cell y c' e
    exact⟨w2,z2.sameBut hs hcc⟩
  ·obtain⟨e,n,ne,nf,d⟩:=I.pin p hp
   refine⟨(hs.2 p.1 ?_).trans e,n,ne,nf,d⟩
   intro q
   rw[q,hoc] at e
   have q':oc=p.2:=Option.some.inj e
   exact d w' (by rw[<-q'];exact OP)
theorem jx{M:Model}{A:WO}{E:WU->WT->Prop}{i:Nat}{x:Str}{v:V}{u:WU}{Q:Unit->WT->Prop}(I:Inv X pins σ H s)(hN:X.N.Nodup)(hi:X.N[i]? =some x)(hx:Loc X.env.scope x)(r:RelV v u)
  (h:∀s',Inv X pins (σ.set i (some v)) H s'->Q () s')(hf:X.fn x=true\/X.env.scope.names.lookup x=some .local:=by first | exact .inl rfl | exact .inr rfl | assumption):W8 M A (storeName X.env x u) Q E s :=
 oZ I hN hi hx r (λs' I' _=>h s' I') hf
theorem Inv.FZ{s':WT}{ch:List WN}(I:Inv X pins σ H s)(ho:s'.os=s.os)(u:Un (frs X.stack) ch H H' s.heap s'.heap)(hok:gX X.prog X.w H' s'.heap)(hg:AllBare s'.gens)
  (hch:∀b∈ch,(b∈X.ex\/X.s₀.heap.objs.size<=b)/\b≠X.env.locals/\(∀x c,X.env.cells.lookup x=some c->c≠b)/\∀p∈X.pn++pins,p.1≠b):Inv X pins σ H' s':=by
 obtain⟨h',g',d',t',o'⟩:=s'
 have e:o'=s.os:=ho
 subst e
 exact I.call (g':=g') (t':=t') (d':=d') u hok hg hch
end
abbrev XK:=WU->Option WN->Hp->Prop
abbrev St:=List (Option V)
abbrev VK:=V->Hp->Prop
abbrev TE:=St->Hp->VK->Prop
abbrev TT:=St->Hp->(Bool->Hp->Prop)->Prop
abbrev TA:=St->Hp->(List V->Hp->Prop)->Prop
structure Ends where
 nx:St->Hp->Prop
 rt:VK
 bk:St->Hp->Prop:=λ_ _=>False
 ct:St->Hp->Prop:=λ_ _=>False
abbrev TS:=Ends->St->Hp->Prop
def EP(X:Cx)(pins:List (WN×Obj))(σ:St)(Q:VK)(u:WU)(s':WT):Prop:=∃v H',Inv X pins σ H' s'/\RelV v u/\Q v H'
def TP(X:Cx)(pins:List (WN×Obj))(σ:St)(Q:Bool->Hp->Prop)(b:Bool)(s':WT):Prop:=∃H',Inv X pins σ H' s'/\Q b H'
def AP(X:Cx)(pins:List (WN×Obj))(σ:St)(Q:List V->Hp->Prop)(us:List WU)(s':WT):Prop:=∃vs H',Inv X pins σ H' s'/\Vals vs us/\Q vs H'
def SP(X:Cx)(pins:List (WN×Obj))(D:Ends)(f:Flow)(s':WT):Prop :=
 match f with
 | .next=>∃σ' H',Inv X pins σ' H' s'/\D.nx σ' H'
 | .brk=>∃σ' H',Inv X pins σ' H' s'/\D.bk σ' H'
 | .cont=>∃σ' H',Inv X pins σ' H' s'/\D.ct σ' H'
 | .ret u=>∃v σ' H',Inv X pins σ' H' s'/\RelV v u/\D.rt v H'
def PE(X:Cx)(e:Expr)(t:TE):Prop :=
 ∀(pins:List (WN×Obj))(s:WT)(σ:St)(H:Hp)(Q:VK),Inv X pins σ H s->t σ H Q->W8 (model X.prog X.w) X.A (eval e X.env) (EP X pins σ Q) X.xe s
def PT(X:Cx)(e:Expr)(t:TT):Prop :=
 ∀(pins:List (WN×Obj))(s:WT)(σ:St)(H:Hp)(Q:Bool->Hp->Prop),Inv X pins σ H s->t σ H Q->W8 (model X.prog X.w) X.A (isTrue e X.env (eval e X.env)) (TP X pins σ Q) X.xe s
def PW(X:Cx)(e:Expr)(t:TT):Prop :=
 ∀(whole:Sem WU)(pins:List (WN×Obj))(s:WT)(σ:St)(H:Hp)(Q:Bool->Hp->Prop),Inv X pins σ H s->t σ H Q->W8 (model X.prog X.w) X.A (isTrue e X.env whole) (TP X pins σ Q) X.xe s
def PA(X:Cx)(es:List Expr)(t:TA):Prop :=
 ∀(pos:Pos)(pins:List (WN×Obj))(s:WT)(σ:St)(H:Hp)(Q:List V->Hp->Prop),Inv X pins σ H s->t σ H Q->W8 (model X.prog X.w) X.A (spliced (backTo pos (W7 es X.env))) (AP X pins σ Q) X.xe s
def PS(X:Cx)(st:Stmt)(t:TS):Prop :=
 ∀(pins:List (WN×Obj))(s:WT)(σ:St)(H:Hp)(D:Ends),Inv X pins σ H s->t D σ H->W8 (model X.prog X.w) X.A (exec st X.env) (SP X pins D) X.xe s
def zv(X:Cx)(st:List Stmt)(t:TS):Prop :=
 ∀(pins:List (WN×Obj))(s:WT)(σ:St)(H:Hp)(D:Ends),Inv X pins σ H s->t D σ H->W8 (model X.prog X.w) X.A (execs st X.env) (SP X pins D) X.xe s
theorem aI{α:Type}{t:Sem α}{Q Q':α->WT->Prop}{M:Model}{A:WO}{E:WU->WT->Prop}{s:WT}(h:W8 M A t Q E s)(hQ:∀a s,Q a s->Q' a s):W8 M A t Q' E s:=Xa h hQ λ_ _ x=>x
end L2
namespace L2
open PySem PySem.Spec PyProof.Rows
section
variable {X:Cx}
def OQ(i:Nat):TE:=λσ H Q=>∃v,σ[i]? =some (some v)/\Q v H
def tC(v:V):TE:=λ_ H Q=>Q v H
theorem Hd{i:Nat}{x:Str}{pos:Pos}(hN:X.N[i]? =some x)(hv:OL X.env.scope x)(hd:(x == ("__debug__":Str))=false:=by decide)(hcd:(x == ("__classdict__":Str))=false:=by decide):PE X (.Name x pos) (OQ i):=by
 intro pins s σ H Q I h
 obtain⟨v,e,h⟩:=h
 obtain⟨m,hn,hl⟩:=I.loc
 obtain⟨u,r,l⟩:=hl i x v hN e hv
 have fin:EP X pins σ Q u s:=⟨v,H,I,r,h⟩
 rcases l with ⟨hk,hm⟩ | ⟨hk,c,hc,hcell⟩
 ·exact wpAny_Name (wpAny_loadName_local I.ok.kind hk hn hm fin) hd
 ·rcases hk with hk | hk
  ·exact wpAny_Name (wpAny_loadName_cell I.ok.kind hk hc hcell fin) hd
  ·exact wpAny_Name (wpAny_loadName_free I.ok.kind hk hc hcell fin hcd) hd
theorem zF{i j pos}:PE X (.Constant (.int i) j pos) (tC (.int i)):=λ_ _ _ H _ I h=>wpAny_Constant_int ⟨.int i,H,I.tok _,⟨_,rfl⟩,h⟩
theorem Lk{b j pos}:PE X (.Constant (.bool b) j pos) (tC (.bl b)):=λ_ _ _ H _ I h=>Constant_bool ⟨.bl b,H,I,rfl,h⟩
theorem zG{j pos}:PE X (.Constant .none j pos) (tC .aE):=λ_ _ _ H _ I h=>Constant_none ⟨.aE,H,I,rfl,h⟩
theorem Hf{x j pos}:PE X (.Constant (.str x) j pos) (tC (.str x)):=λ_ _ _ H _ I h=>Calls.Constant_str ⟨.str x,H,I.tok _,⟨_,rfl⟩,h⟩
def Gl(X:Cx)(x:Str):Prop:=X.env.kindOf x=some .globalImplicit
theorem jy{E:WU->WT->Prop}{pins:List (WN×Obj)}{s:WT}{σ:St}{H:Hp}{x:Str}{u:WU}{pos:Pos}{Q:WU->WT->Prop}(I:Inv X pins σ H s)(hg:Gl X x)(hm:X.mg x=some u)(h:Q u s)
  (hd:(x == ("__debug__":Str))=false:=by decide):W8 (model X.prog X.w) X.A (eval (.Name x pos) X.env) Q E s :=
 Calls.Name_function_global I.ok.kind hg (Calls.loadGlobal_global (by rw[I.ok.glob];exact I.mod.glob.keeps I.bk) hm h) hd
theorem hV{E:WU->WT->Prop}{pins:List (WN×Obj)}{s:WT}{σ:St}{H:Hp}{x:Str}{u:WU}{pos:Pos}{Q:WU->WT->Prop}(I:Inv X pins σ H s)(hg:Gl X x)(hm:X.mg x=none)(hv:WY x=some u)(h:Q u s)
  (hn:x≠"__name__":=by decide)(hd:(x == ("__debug__":Str))=false:=by decide):W8 (model X.prog X.w) X.A (eval (.Name x pos) X.env) Q E s:=by
 obtain⟨mb,h1,h2⟩:=I.mod.blt
 exact Calls.Name_function_global I.ok.kind hg (Calls.loadGlobal_builtin (by rw[I.ok.glob];exact I.mod.glob.keeps I.bk) hm (by rw[I.ok.blt];exact h1.keeps I.bk) ((h2 x hn).trans hv) h) hd
theorem fq{x:Str}{v:V}{u:WU}{pos:Pos}(hg:Gl X x)(hm:X.mg x=some u)(r:RelV v u)(hd:(x == ("__debug__":Str))=false:=by decide):PE X (.Name x pos) (tC v) :=
 λ_ _ _ H _ I h=>jy I hg hm ⟨v,H,I,r,h⟩ hd
theorem Dl{x:Str}{v:V}{u:WU}{pos:Pos}(hg:Gl X x)(hm:X.mg x=none)(hv:WY x=some u)(r:RelV v u)(hn:x≠"__name__":=by decide)(hd:(x == ("__debug__":Str))=false:=by decide):PE X (.Name x pos) (tC v) :=
 λ_ _ _ H _ I h=>hV I hg hm hv ⟨v,H,I,r,h⟩ hn hd
def TK(ta tb:TE)(k:Int->Int->Hp->Prop):St->Hp->Prop:=λσ H=>ta σ H λx H1=>tb σ H1 λy H2=>∃i j,x= .int i/\y= .int j/\k i j H2
variable {a b:Expr} {ta tb:TE} {pos:Pos}
def PC(X:Cx)(op:CmpOp)(a b:Expr)(t:TE):Prop :=
 ∀(pins:List (WN×Obj))(s:WT)(σ:St)(H:Hp)(Q:VK),Inv X pins σ H s->t σ H Q->
  W8 (model X.prog X.w) X.A (eval a X.env) (λv s₁=>W8 (model X.prog X.w) X.A (eval b X.env) (λu s₂=>W8 (model X.prog X.w) X.A (W2 op v u) (EP X pins σ Q) X.xe s₂) X.xe s₁) X.xe s
def xN(p:Int->Int->Bool)(ta tb:TE):TE:=λσ H Q=>TK ta tb (λi j H2=>Q (.bl (p i j)) H2) σ H
abbrev VZ:TE->TE->TE:=xN λi j=>decide (i < j)
abbrev V1:TE->TE->TE:=xN λi j=>decide (i<=j)
abbrev V2:TE->TE->TE:=xN λi j=>decide (j < i)
abbrev V3:TE->TE->TE:=xN λi j=>decide (j<=i)
abbrev TL:TE->TE->TE:=xN λi j=>decide (i=j)
abbrev TM:TE->TE->TE:=xN λi j=> !decide (i=j)
def tB(t:TE):TT:=λσ H Q=>t σ H λx H1=>∃c,x= .bl c/\Q c H1
theorem zH{op:CmpOp}{t:TE}(h:PC X op a b t)(h1:WW op b=false:=by first | exact zI _ (by decide) (by decide) | rfl):PE X (.Compare a [op] [b] pos) t:=λpins s σ H Q I hw=>wpAny_Compare1 (h pins s σ H Q I hw) h1
theorem zJ{op:CmpOp}{t:TE}(h:PC X op a b t)(h1:WW op b=false:=by first | exact zI _ (by decide) (by decide) | rfl):PT X (.Compare a [op] [b] pos) (tB t):=by
 intro pins s σ H Q I hw
 refine wpAny_isTrue_Compare1 (aI (h pins s σ H _ I hw) λv s1 h1=>aI h1 λu s2 h2=>aI h2 λc s3 ⟨x,H1,I1,r1,q1⟩=>?_) h1
 obtain⟨d,rfl,q⟩:=q1
 cases r1
 exact Xf ⟨H1,I1,q⟩
variable {tA NL:TT} {rest:List Expr}
def OR(t u:TT):TT:=λσ H Q=>t σ H λc H1=>if c=true then u σ H1 Q else Q false H1
def TN(t u:TT):TT:=λσ H Q=>t σ H λc H1=>if c=true then Q true H1 else u σ H1 Q
def OS(t:TT):TT:=λσ H Q=>t σ H λc H1=>Q (!c) H1
theorem Dm(ha:PT X a tA):PW X (.BoolOp .And [a] pos) tA:=by
 intro wh pins s σ H Q I h
 refine isTrue_and (aI (ha pins s σ H Q I h) λc s1 e=>?_)
 cases c with
 | true=>exact isTrue_and_nil e
 | false=>exact e
theorem Hg(ha:PT X a tA):PW X (.BoolOp .Or [a] pos) tA:=by
 intro wh pins s σ H Q I h
 refine isTrue_or (aI (ha pins s σ H Q I h) λc s1 e=>?_)
 cases c with
 | false=>exact isTrue_or_nil e
 | true=>exact e
theorem Hh(ha:PT X a tA)(hb:PW X (.BoolOp .And (b::rest) pos) NL):PW X (.BoolOp .And (a::b::rest) pos) (OR tA NL):=by
 intro wh pins s σ H Q I h
 refine isTrue_and (aI (ha pins s σ H _ I h) λc s1 ⟨H1,I1,q1⟩=>?_)
 cases c with
 | true=>exact hb wh pins s1 σ H1 Q I1 q1
 | false=>exact⟨H1,I1,q1⟩
theorem Ll(ha:PT X a tA)(hb:PW X (.BoolOp .Or (b::rest) pos) NL):PW X (.BoolOp .Or (a::b::rest) pos) (TN tA NL):=by
 intro wh pins s σ H Q I h
 refine isTrue_or (aI (ha pins s σ H _ I h) λc s1 ⟨H1,I1,q1⟩=>?_)
 cases c with
 | true=>exact⟨H1,I1,q1⟩
 | false=>exact hb wh pins s1 σ H1 Q I1 q1
theorem Hj(ha:PT X a tA):PT X (.UnaryOp .Not a pos) (OS tA):=by
 intro pins s σ H Q I h
 exact isTrue_not (ha pins s σ H (λc H1=>Q (!c) H1) I h)
def Ln(ta tb:TE):TE:=λσ H Q=>ta σ H λx H1=>∃c,x= .bl c/\if c=true then tb σ H1 Q else Q (.bl false) H1
def OT(ta tb:TE):TE:=λσ H Q=>ta σ H λx H1=>∃c,x= .bl c/\if c=true then Q (.bl true) H1 else tb σ H1 Q
def Lp(ta:TE):TE:=λσ H Q=>ta σ H λx H1=>∃c,x= .bl c/\Q (.bl (!c)) H1
theorem Hk{op}{t:TE}(h:PE X a t):PE X (.BoolOp op [a] pos) t:=λpins s σ H Q I hw=>BoolOp_one (h pins s σ H Q I hw)
theorem Hl(ha:PE X a ta)(hb:PE X (.BoolOp .And (b::rest) pos) tb):PE X (.BoolOp .And (a::b::rest) pos) (Ln ta tb):=by
 intro pins s σ H Q I h
 refine BoolOp_and (aI (ha pins s σ H _ I h) λv s1 ⟨x,H1,I1,r1,q1⟩=>?_)
 obtain⟨c,rfl,q1⟩:=q1
 cases r1
 refine Xf ?_
 cases c with
 | true=>exact hb pins s1 σ H1 Q I1 q1
 | false=>exact⟨.bl false,H1,I1,rfl,q1⟩
theorem Lq(ha:PE X a ta)(hb:PE X (.BoolOp .Or (b::rest) pos) tb):PE X (.BoolOp .Or (a::b::rest) pos) (OT ta tb):=by
 intro pins s σ H Q I h
 refine BoolOp_or (aI (ha pins s σ H _ I h) λv s1 ⟨x,H1,I1,r1,q1⟩=>?_)
 obtain⟨c,rfl,q1⟩:=q1
 cases r1
 refine Xf ?_
 cases c with
 | false=>exact hb pins s1 σ H1 Q I1 q1
 | true=>exact⟨.bl true,H1,I1,rfl,q1⟩
theorem Hm(ha:PE X a ta):PE X (.UnaryOp .Not a pos) (Lp ta):=by
 intro pins s σ H Q I h
 refine UnaryOp_ (aI (ha pins s σ H _ I h) λv s1 ⟨x,H1,I1,r1,q1⟩=>?_)
 obtain⟨c,rfl,q1⟩:=q1
 cases r1
 exact not_of (Xf ⟨.bl (!c),H1,I1,rfl,q1⟩)
def TQ(t:TT)(ta tb:TE):TE:=λσ H Q=>t σ H λc H1=>if c=true then ta σ H1 Q else tb σ H1 Q
theorem zK{c:Expr}(hc:PT X c tA)(ha:PE X a ta)(hb:PE X b tb):PE X (.IfExp c a b pos) (TQ tA ta tb):=by
 intro pins s σ H Q I h
 refine wpAny_IfExp (aI (hc pins s σ H _ I h) λd s1 ⟨H1,I1,q1⟩=>?_)
 cases d with
 | true=>exact ha pins s1 σ H1 Q I1 q1
 | false=>exact hb pins s1 σ H1 Q I1 q1
end
end L2
namespace L2
open PySem PySem.Spec PyProof.Rows
def gZ(K:PySem.W.Frag)(H:Hp)(a:WN)(xs:List V):Prop :=
 Rd H a (.lst xs)\/
  ∃(o:Obj)(its:Array WU)(n:Nat),K.lookup a=some o/\o.cls= .type "list"/\o.dict=none/\o.data= .seq its n/\its.size<=W6/\Vals xs its.toList
def dS(K:PySem.W.Frag)(H:Hp)(a:WN)(xs:List V):Prop :=
 Rd H a (.tup xs)\/
  ∃(o:Obj)(its:Array WU)(n:Nat),K.lookup a=some o/\o.cls= .type "tuple"/\o.data= .seq its n/\its.size<=W6/\Vals xs its.toList
def OU:WU->Option V
 | .none=>some .aE
 | .bool b=>some (.bl b)
 | .int i _=>some (.int i)
 | .str x _=>some (.str x)
 | .bytes b _=>some (.K5 b)
 | .float b _=>some (.rO b)
 | .ref a=>some (.ref a)
 | .type n=>some (.ty n)
 | _=>none
theorem RelV.abs{x:V}{u:WU}(r:RelV x u):OU u=some x:=by
 cases x with
 | aE=>cases r;rfl
 | bl _=>cases r;rfl
 | int _=>obtain⟨t,rfl⟩:=r;rfl
 | str _=>obtain⟨t,rfl⟩:=r;rfl
 | K5 _=>obtain⟨t,rfl⟩:=r;rfl
 | rO _=>obtain⟨t,rfl⟩:=r;rfl
 | ref _=>cases r;rfl
 | ty _=>cases r;rfl
theorem RelV.inj{x y:V}{u:WU}(r:RelV x u)(q:RelV y u):x=y:=Option.some.inj (r.abs.symm.trans q.abs)
theorem Vals.inj:∀{xs ys:List V}{us:List WU},Vals xs us->Vals ys us->xs=ys
 | _,_,_,.nil,.nil=>rfl
 | _,_,_,.cons r t,.cons r' t'=>by rw[r.inj r',Vals.inj t t']
section
variable {X:Cx} {pins:List (WN×Obj)} {σ:St} {H:Hp} {s:WT} {a:WN} {xs ys:List V}
theorem gZ.of{K:PySem.W.Frag}(h:H a=some (.lst xs)):gZ K H a xs:=.inl (.inl h)
theorem dS.of{K:PySem.W.Frag}(h:H a=some (.tup xs)):dS K H a xs:=.inl (.inl h)
theorem Inv.list(I:Inv X pins σ H s)(h:gZ X.K H a xs):∃its:List WU,Vals xs its/\PlainL s.heap a its.toArray/\xs.length<=W6:=by
 rcases h with h | ⟨o,its,n,hk,hc,hd,hs,hz,r⟩
 ·obtain⟨z,its,n,r,e⟩:=h.ok I.hok
  exact⟨its,r,⟨_,n,e,rfl,rfl,rfl⟩,z⟩
 ·refine⟨its.toList,r,⟨o,n,I.wa a o hk,hc,hd,by simpa using hs⟩,?_⟩
  have e:=r.length
  simp only[Array.length_toList] at e
  omega
theorem Inv.tuple(I:Inv X pins σ H s)(h:dS X.K H a xs):∃its:List WU,Vals xs its/\IsTup s.heap a its.toArray/\xs.length<=W6:=by
 rcases h with h | ⟨o,its,n,hk,hc,hs,hz,r⟩
 ·obtain⟨z,its,r,p,_⟩:=h.ok I.hok
  exact⟨its,r,p,z⟩
 ·refine⟨its.toList,r,⟨o,I.wa a o hk,hc,n,by simpa using hs⟩,?_⟩
  have e:=r.length
  simp only[Array.length_toList] at e
  omega
theorem Inv.rQ(I:Inv X pins σ H s)(h:gZ X.K H a xs)(h':gZ X.K H a ys):xs=ys:=by
 obtain⟨its,r,⟨o,n,e,_,_,d⟩,_⟩:=I.list h
 obtain⟨its',r',⟨o',n',e',_,_,d'⟩,_⟩:=I.list h'
 rw[e] at e';cases e'
 rw[d] at d'
 injection d' with d1 _
 have:its=its':=by simpa using congrArg Array.toList d1
 subst this
 exact r.inj r'
theorem Inv.xO(I:Inv X pins σ H s)(h:dS X.K H a xs)(h':dS X.K H a ys):xs=ys:=by
 obtain⟨its,r,⟨o,e,_,n,d⟩,_⟩:=I.tuple h
 obtain⟨its',r',⟨o',e',_,n',d'⟩,_⟩:=I.tuple h'
 rw[e] at e';cases e'
 rw[d] at d'
 injection d' with d1 _
 have:its=its':=by simpa using congrArg Array.toList d1
 subst this
 exact r.inj r'
end
abbrev Cx.OV(X:Cx)(E:WU->WT->Prop):Cx:={ X with xe:=E }
abbrev Cx.gw(X:Cx):Cx:=X.OV λ_ _=>False
section
variable {X:Cx} {pins:List (WN×Obj)} {σ:St} {H:Hp} {s:WT} {E:WU->WT->Prop}
end
section
variable {X:Cx} {st:Stmt} {rest:List Stmt} {t u:TS} {e:Expr} {te:TE} {pos:Pos}
def F0:TS:=λD σ H=>D.nx σ H
def OW(t u:TS):TS:=λD σ H=>t { D with nx:=u D } σ H
theorem Dp:zv X [] F0:=λ_ _ σ H _ I h=>wpAny_execs_nil ⟨σ,H,I,h⟩
theorem zL(h1:PS X st t)(h2:zv X rest u):zv X (st::rest) (OW t u):=by
 intro pins s σ H D I h
 refine wpAny_execs_cons (aI (h1 pins s σ H { D with nx:=u D } I h) λf s1 q=>?_)
 cases f with
 | next=>
  obtain⟨σ',H',I',q⟩:=q
  exact h2 pins s1 σ' H' D I' q
 | ret v=>exact q
 | brk=>exact q
 | cont=>exact q
theorem Dq(h1:PS X st t):zv X [st] t:=by
 intro pins s σ H D I h
 refine wpAny_execs_cons (aI (h1 pins s σ H D I h) λf s1 q=>?_)
 cases f with
 | next=>exact wpAny_execs_nil q
 | ret v=>exact q
 | brk=>exact q
 | cont=>exact q
theorem Dr:PS X (.Pass pos) F0:=λ_ _ σ H _ I h=>wpAny_Pass ⟨σ,H,I,h⟩
theorem Inv.quiet{pins:List (WN×Obj)}{σ:St}{H:Hp}{s:WT}(I:Inv X pins σ H s):interactive X.env=false:=by simp[interactive,I.ok.kind]
def Lr(te:TE):TS:=λD σ H=>te σ H λ_ H1=>D.nx σ H1
theorem Ds(he:PE X e te)(hs:swapsWith e none pos.line X.env=pure false:=by rfl):PS X (.Expr e pos) (Lr te):=by
 intro pins s σ H D I h
 exact wpAny_Expr_any (aI (he pins s σ H _ I h) λv s1 ⟨x,H1,I1,r1,q1⟩=>⟨σ,H1,I1,q1⟩) I.quiet hs
def OX(te:TE):TS:=λD σ H=>te σ H D.rt
theorem Hn(he:PE X e te):PS X (.Return (some e) pos) (OX te):=by
 intro pins s σ H D I h
 exact wpAny_Return_some (aI (he pins s σ H _ I h) λv s1 ⟨x,H1,I1,r1,q1⟩=>⟨x,σ,H1,I1,r1,q1⟩)
def Ls:TS:=λD _ H=>D.rt .aE H
theorem Dt:PS X (.Return none pos) Ls:=λ_ _ σ H _ I h=>wpAny_Return_none ⟨.aE,σ,H,I,rfl,h⟩
def OY(c:TT)(t u:TS):TS:=λD σ H=>c σ H λb H1=>if b=true then t D σ H1 else u D σ H1
theorem Lu{c:Expr}{a b:List Stmt}{tc:TT}(hc:PT X c tc)(ha:zv X a t)(hb:zv X b u):PS X (.If c a b pos) (OY tc t u):=by
 intro pins s σ H D I h
 refine wpAny_If (aI (hc pins s σ H _ I h) λd s1 ⟨H1,I1,q1⟩=>?_)
 cases d with
 | true=>exact ha pins s1 σ H1 D I1 q1
 | false=>exact hb pins s1 σ H1 D I1 q1
def zM:TS:=λ_ _ _=>False
theorem zN:PS X st zM:=λ_ _ _ _ _ _ h=>h.elim
theorem xP{sts:List Stmt}:zv X sts zM:=λ_ _ _ _ _ _ h=>h.elim
end
abbrev TG:=V->St->Hp->(St->Hp->Prop)->Prop
abbrev F1:=List V->St->Hp->(St->Hp->Prop)->Prop
def PG(X:Cx)(target:Expr)(t:TG):Prop :=
 ∀(pins:List (WN×Obj))(s:WT)(σ:St)(H:Hp)(v:V)(u:WU)(Q:St->Hp->Prop),Inv X pins σ H s->RelV v u->t v σ H Q->
  W8 (model X.prog X.w) X.A (assign target X.env u) (λ_ s'=>∃σ' H',Inv X pins σ' H' s'/\Q σ' H') X.xe s
def Lv(X:Cx)(ts:List Expr)(t:F1):Prop :=
 ∀(pins:List (WN×Obj))(s:WT)(σ:St)(H:Hp)(vs:List V)(us:List WU)(Q:St->Hp->Prop),Inv X pins σ H s->Vals vs us->t vs σ H Q->
  W8 (model X.prog X.w) X.A (assignInOrder ((assignEach ts X.env).map (·.2)) us) (λ_ s'=>∃σ' H',Inv X pins σ' H' s'/\Q σ' H') X.xe s
abbrev Ho:=V->V->V->Hp->(Hp->Prop)->Prop
def Lw(X:Cx)(t:Ho):Prop :=
 ∀(pins:List (WN×Obj))(s:WT)(σ:St)(H:Hp)(o i v:V)(ov iv u:WU)(Q:Hp->Prop),Inv X pins σ H s->RelV o ov->RelV i iv->RelV v u->t o i v H Q->
  W8 (model X.prog X.w) X.A (setItem ov iv u) (λ_ s'=>∃H',Inv X pins σ H' s'/\Q H') X.xe s
abbrev V4:=V->V->Hp->VK->Prop
section
variable {X:Cx} {pos:Pos}
def rR(i:Nat):TG:=λv σ H Q=>Q (σ.set i (some v)) H
theorem jz{i:Nat}{x:Str}(hN:X.N.Nodup)(hi:X.N[i]? =some x)(hx:Loc X.env.scope x)(hf:X.fn x=true\/X.env.scope.names.lookup x=some .local:=by first | exact .inl rfl | exact .inr rfl | assumption):PG X (.Name x pos) (rR i):=by
 intro pins s σ H v u Q I r h
 exact wpAny_assign_Name (jx I hN hi hx r (λs' I'=>⟨_,H,I',h⟩) hf)
def ai:F1:=λvs σ H Q=>vs=[]/\Q σ H
def aa(t:TG)(u:F1):F1:=λvs σ H Q=>∃v r,vs=v::r/\t v σ H λσ' H'=>u r σ' H' Q
theorem Du:Lv X [] ai:=by
 intro pins s σ H vs us Q I r h
 obtain⟨e,h⟩:=h
 subst e
 cases r
 exact assignInOrder_nil ⟨σ,H,I,h⟩
theorem zO{e:Expr}{es:List Expr}{t:TG}{u:F1}(h1:PG X e t)(h2:Lv X es u)
  (hs:(assignEach (e::es) X.env).map (·.2)=assign e X.env::(assignEach es X.env).map (·.2):=by rfl):Lv X (e::es) (aa t u):=by
 intro pins s σ H vs us Q I r h
 obtain⟨v,vr,e1,h⟩:=h
 subst e1
 cases r with
 | cons r rr=>
  rw[hs]
  refine assignInOrder_cons (aI (h1 pins s σ H _ _ _ I r h) λ_ s1 ⟨σ1,H1,I1,q1⟩=>?_)
  exact h2 pins s1 σ1 H1 _ _ Q I1 rr q1
def di(K:PySem.W.Frag)(n:Nat)(t:F1):TG:=λv σ H Q=>∃a xs,v= .ref a/\dS K H a xs/\xs.length=n/\t xs σ H Q
theorem zP{es:List Expr}{k:Nat}{t:F1}{n:Nat}(hc:X.calm=true)(h:Lv X es t)
  (hn:(assignEach es X.env).length=n:=by rfl)(hst:(assignEach es X.env).findIdx? (·.1)=none:=by rfl):PG X (.Tuple es k pos) (di X.K n t):=by
 intro pins s σ H v u Q I r hw
 obtain⟨a,xs,e1,hq,hl,hw⟩:=hw
 subst e1
 cases r
 obtain⟨its,rv,ht,hz⟩:=I.tuple hq
 refine assign_Tuple_tuple (I.ok.hd hc) ht (by simp[hn,<-hl,rv.length]) hst λh' hx=>?_
 have I1:Inv X pins σ H { s with heap:=h' }:=I.kept (t':=s.toks) λb o e=>hx b o (Nat.ne_of_lt (Heap.lt_size e)) e
 exact h pins _ σ H xs _ Q I1 (by simpa using rv) hw
def OZ(to ti:TE)(t:Ho):TG:=λv σ H Q=>to σ H λo H1=>ti σ H1 λi H2=>t o i v H2 λH3=>Q σ H3
theorem Hq{o i:Expr}{to ti:TE}{t:Ho}(ho:PE X o to)(hi:PE X i ti)(hs:Lw X t)
  (ha:∀v,assign (.Subscript o i pos) X.env v=(do
   let ov <-holding [v] (eval o X.env)
   let iv <-holding [v,ov] (eval i X.env)
   standAt pos
   holding [v,ov,iv] (setItem ov iv v)
   release [v,ov,iv] []):=by intro _;rfl):PG X (.Subscript o i pos) (OZ to ti t):=by
 intro pins s σ H v u Q I r h
 rw[ha]
 refine W9 (W' (aI (ho pins s σ H _ I h) λov s1 ⟨x,H1,I1,r1,q1⟩=>?_))
 refine W9 (W' (aI (hi pins s1 σ H1 _ I1 q1) λiv s2 ⟨y,H2,I2,r2,q2⟩=>?_))
 refine W9 (wpAny_standAt (W9 (W' (aI (hs pins s2 σ H2 x y v ov iv u _ I2 r1 r2 r q2) λ_ s3 ⟨H3,I3,q3⟩=>?_))))
 exact wpAny_release ⟨σ,H3,I3,q3⟩
def Lx(te:TE)(g:TG):TS:=λD σ H=>te σ H λx H1=>g x σ H1 D.nx
theorem Hr{tg e:Expr}{te:TE}{g:TG}(he:PE X e te)(hg:PG X tg g)(hs:swapsWithSole [tg] e pos.line X.env=pure false:=by rfl)(hw:swappedStores [tg] e X.env=pure none:=by rfl)
  (h1:(assignEach [tg] X.env).map (·.2)=[assign tg X.env]:=by rfl):PS X (.Assign [tg] e pos) (Lx te g):=by
 intro pins s σ H D I h
 refine wpAny_Assign_stores (aI (he pins s σ H _ I h) λv s1 ⟨x,H1,I1,r1,q1⟩=>?_) hs hw
 rw[h1]
 exact aI (hg pins s1 σ H1 x v _ I1 r1 q1) λ_ s2 q=>q
theorem Ht{i:Nat}{x:Str}{e:Expr}{te:TE}{pos':Pos}(hN:X.N.Nodup)(hi:X.N[i]? =some x)(hx:Loc X.env.scope x)(he:PE X e te)(hs:swapsWith e (some (.Name x pos')) pos.line X.env=pure false:=by rfl)(hf:X.fn x=true\/X.env.scope.names.lookup x=some .local:=by first | exact .inl rfl | exact .inr rfl | assumption) :
  PS X (.Assign [.Name x pos'] e pos) (Lx te (rR i)):=by
 intro pins s σ H D I h
 refine wpAny_Assign_Name (aI (he pins s σ H _ I h) λv s1 ⟨y,H1,I1,r1,q1⟩=>?_) hs
 exact jx I1 hN hi hx r1 (λs2 I2=>⟨_,H1,I2,q1⟩) hf
end
section
variable {X:Cx} {pos:Pos}
def Hu(c:TT)(tb:TS):TS:=λD σ H=>∃W:Nat->St->Hp->Prop,(∃m,W m σ H)/\∀m σ H,W m σ H->
 c σ H λb H1=>if b=true then ∃N:St->Hp->Prop,(∀σ' H',N σ' H'->∃m',m' < m/\W m' σ' H')/\tb { D with nx:=N,ct:=N,bk:=D.nx } σ H1 else D.nx σ H1
theorem zQ{c:Expr}{body:List Stmt}{tc:TT}{tb:TS}(hp:PassesOwn (model X.prog X.w) X.A X.env X.xe)(hc:PT X c tc)(hb:zv X body tb):PS X (.While c body [] pos) (Hu tc tb):=by
 intro pins s σ H D I h
 obtain⟨W,⟨m0,w0⟩,turn⟩:=h
 refine wpAny_While (codeAny_whileLoop (λn s'=>∃σ' H',Inv X pins σ' H' s'/\W n σ' H') ?_ m0 ⟨σ,H,I,w0⟩)
 rintro n s1 ⟨σ1,H1,I1,w1⟩
 refine wpAny_passesOwn hp (aI (hc pins s1 σ1 H1 _ I1 (turn n σ1 H1 w1)) λb s2 ⟨H2,I2,q2⟩=>?_)
 cases b with
 | true=>
  obtain⟨N,hN,q2⟩:=q2
  rw[if_pos rfl]
  refine wpAny_passesOwn hp (aI (hb pins s2 σ1 H2 _ I2 q2) λf s3 q3=>?_)
  cases f with
  | next=>
   obtain⟨σ3,H3,I3,n3⟩:=q3
   obtain⟨m',hm,w3⟩:=hN σ3 H3 n3
   exact⟨m',hm,σ3,H3,I3,w3⟩
  | cont=>
   obtain⟨σ3,H3,I3,n3⟩:=q3
   obtain⟨m',hm,w3⟩:=hN σ3 H3 n3
   exact⟨m',hm,σ3,H3,I3,w3⟩
  | brk=>exact q3
  | ret v=>exact q3
 | false=>
  rw[if_neg Bool.false_ne_true]
  exact wpAny_execs_nil ⟨σ1,H2,I2,q2⟩
end
structure It where
 go:Nat->Hp->Prop
 rS:Nat->Hp->V->Hp->Prop
 stop:Nat->Hp->Prop
def dX(X:Cx)(pins:List (WN×Obj))(H:Hp)(b:WN):Prop :=
 H b=none/\b≠X.env.locals/\b∉X.fs/\(b∈X.ex\/X.s₀.heap.objs.size<=b)/\(∀x c,X.env.cells.lookup x=some c->c≠b)/\∀p∈X.pn++pins,p.1≠b
theorem Inv.rT{X:Cx}{pins:List (WN×Obj)}{σ:St}{H H':Hp}{s:WT}{b:WN}(I:Inv X pins σ H s)(hb:s.heap.objs.size<=b)(hn:H' b=none):dX X pins H' b:=by
 refine⟨hn,Nat.ne_of_gt (Nat.lt_of_lt_of_le I.lt hb),I.OO hb,.inr (Nat.le_trans I.sz hb),λx c e z=>?_,λp hp z=>?_⟩
 ·obtain⟨v,q⟩:=I.cell x c e
  exact absurd (Nat.lt_of_lt_of_le q.lt (by rw[z];exact hb)) (Nat.lt_irrefl _)
 ·exact absurd (Nat.lt_of_lt_of_le (Heap.lt_size (I.pin p hp).1) (by rw[z];exact hb)) (Nat.lt_irrefl _)
structure Turn(P:WS)(w:WV)(K:PySem.W.Frag)(tg:Expr)(J:It)(fp:List WN)(it:WN)(tn:Nat->Heap->Prop):Prop where
 mem:it∈fp
 obj:∀i h,tn i h->∀b∈fp,∃o,h.get? b=some o/\∀v,o.data≠.cell v
 keep:∀i h h',tn i h->(∀b∈fp,∀o,h.get? b=some o->h'.get? b=some o)->tn i h'
 item:∀(X:Cx),X.prog=P->X.w=w->X.K=K->X.calm=true->∀(i:Nat)(pins:List (WN×Obj))(s:WT)(σ:St)(H:Hp)(E:WU->WT->Prop),Inv X pins σ H s->(∀b∈fp,dX X pins H b)->tn i s.heap->J.go i H->
  W8 (model P w) X.A (pyNext (.ref it)) (λr s1=>∃u,r=some u/\
   W8 (model P w) X.A (letOwnedTupleGo tg (.ref it) u) (λ_ s2=>∃x H',Inv X pins σ H' s2/\RelV x u/\J.rS i H x H'/\tn (i+1) s2.heap/\∀b∈fp,H' b=none) E s1) E s
 done:∀(X:Cx),X.prog=P->X.w=w->X.K=K->X.calm=true->∀(i:Nat)(pins:List (WN×Obj))(s:WT)(σ:St)(H:Hp)(E:WU->WT->Prop),Inv X pins σ H s->(∀b∈fp,dX X pins H b)->tn i s.heap->J.stop i H->
  W8 (model P w) X.A (pyNext (.ref it)) (λr s1=>r=none/\Inv X pins σ H s1) E s
 self:∀(A:WO)(i:Nat)(s:WT)(Q:WU->WT->Prop)(E:WU->WT->Prop),tn i s.heap->Q (.ref it) s->W8 (model P w) A (pyIter (.ref it)) Q E s
abbrev TI:=St->Hp->(It->Hp->Prop)->Prop
def O0(X:Cx)(pins:List (WN×Obj))(σ:St)(tg:Expr)(R:It->Hp->Prop)(itv:WU)(s2:WT):Prop :=
 ∃(it:WN)(fp:List WN)(tn:Nat->Heap->Prop)(J:It)(H':Hp),itv= .ref it/\Inv X pins σ H' s2/\Turn X.prog X.w X.K tg J fp it tn/\tn 0 s2.heap/\(∀b∈fp,dX X pins H' b)/\R J H'
def PI(X:Cx)(tg iter:Expr)(wi:TI):Prop :=
 ∀(pins:List (WN×Obj))(s:WT)(σ:St)(H:Hp)(R:It->Hp->Prop),Inv X pins σ H s->wi σ H R->
  W8 (model X.prog X.w) X.A (eval iter X.env) (λv s1=>W8 (model X.prog X.w) X.A (pyIter v) (O0 X pins σ tg R) X.xe s1) X.xe s
theorem kS{M:Model}{A:WO}{E:WU->WT->Prop}{s:WT}{tg:Expr}{it:WN}{u:WU}{o:Obj}{n:String}{vs:Array WU}{Q:Unit->WT->Prop}(ho:s.heap.get? it=some o)(hc:o.cls= .type n)(hd:o.data= .fields vs)
    (hn:["enumerate","zip","dict_itemiterator","dict_reverseitemiterator","odict_iterator","itertools.zip_longest","itertools.pairwise"].contains n=false)(hQ:Q () s):W8 M A (letOwnedTupleGo tg (.ref it) u) Q E s:=by
  unfold letOwnedTupleGo
  cases tg<;>first
    | exact Xe hQ
    | (cases u<;>first
        | exact Xe hQ
        | (refine W9 (wpAny_load ho ?_)
           rw[hc,hd]
           show W8 M A (if(["enumerate","zip","dict_itemiterator","dict_reverseitemiterator","odict_iterator","itertools.zip_longest","itertools.pairwise"].contains n&&vs[0]? == some (rawInt _))=true then _ else _) Q E s
           rw[if_neg (by intro h;rw[hn,Bool.false_and] at h;cases h)]
           exact Xe hQ))
def O1(K:PySem.W.Frag)(a:WN):It :=
 ⟨λi H=>∃xs x,gZ K H a xs/\xs[i]? =some x,λi H x H'=>H'=H/\∀xs,gZ K H a xs->xs[i]? =some x,λi H=>∃xs,gZ K H a xs/\xs.length<=i⟩
def RS(K:PySem.W.Frag)(a:WN):It :=
 ⟨λi H=>∃xs x,dS K H a xs/\xs[i]? =some x,λi H x H'=>H'=H/\∀xs,dS K H a xs->xs[i]? =some x,λi H=>∃xs,dS K H a xs/\xs.length<=i⟩
def Dv(lo:Int)(n:Nat):It:=⟨λi _=>i < n,λi H x H'=>H'=H/\x= .int (lo+i),λi _=>n<=i⟩
theorem o_{P:WS}{w:WV}{K:PySem.W.Frag}{tg:Expr}(a it:WN):Turn P w K tg (O1 K a) [it] it (λi h=>h.IsListIter it a i) where
 mem:=by simp
 obj:=λi h st b hb=>by
  have e:b=it:=by simpa using hb
  subst e
  obtain⟨o,e,c,d⟩:=st
  exact⟨o,e,λv z=>by rw[d] at z;cases z⟩
 keep:=λi h h' st k=>st.at λo e=>k it (by simp) o e
 item:=by
  intro X hP hw hK hc i pins s σ H E I hf st hg
  subst hP hw hK
  obtain⟨xs,x,hq,hx⟩:=hg
  obtain⟨its,rv,p,hz⟩:=I.list hq
  obtain⟨u,hu,ru⟩:=rv.get hx
  obtain⟨f0,f1,f2,f3,f4,f5⟩:=hf it (by simp)
  refine wpAny_pyNext_list_item st p.isList (x:=u) (by simpa using hu) λh' st' sb=>?_
  have I1:Inv X pins σ H { s with heap:=h' }:=I.turned (t':=s.toks) (λb o hb e=>(sb.2 b hb).trans e) f0 f1 f3 f4 f5
  obtain⟨o,e,c,d⟩:=id st'
  exact⟨u,rfl,kS (s:={ s with heap:=h' }) e c d (by decide) ⟨x,H,I1,ru,⟨rfl,λys hy=>by rw[I.rQ hy hq];exact hx⟩,st',λb hb=>(hf b hb).1⟩⟩
 done:=by
  intro X hP hw hK hc i pins s σ H E I hf st hg
  subst hP hw hK
  obtain⟨xs,hq,hx⟩:=hg
  obtain⟨its,rv,p,hz⟩:=I.list hq
  obtain⟨f0,f1,f2,f3,f4,f5⟩:=hf it (by simp)
  have hl:=rv.length
  exact wpAny_pyNext_list_end (I.ok.hd hc) st p.isList (by simp;omega) λh' eb=>⟨rfl,I.turned (t':=s.toks) (λb o hb e=>eb b o hb e) f0 f1 f3 f4 f5⟩
 self:=λ_ _ _ _ _ st h=>wpAny_pyIter_listiter st h
theorem uD{P:WS}{w:WV}{K:PySem.W.Frag}{tg:Expr}(a it:WN):Turn P w K tg (RS K a) [it] it (λi h=>h.IsTupleIter it a i) where
 mem:=by simp
 obj:=λi h st b hb=>by
  have e:b=it:=by simpa using hb
  subst e
  obtain⟨o,e,c,d⟩:=st
  exact⟨o,e,λv z=>by rw[d] at z;cases z⟩
 keep:=λi h h' st k=>st.at λo e=>k it (by simp) o e
 item:=by
  intro X hP hw hK hc i pins s σ H E I hf st hg
  subst hP hw hK
  obtain⟨xs,x,hq,hx⟩:=hg
  obtain⟨its,rv,p,hz⟩:=I.tuple hq
  obtain⟨u,hu,ru⟩:=rv.get hx
  obtain⟨f0,f1,f2,f3,f4,f5⟩:=hf it (by simp)
  refine wpAny_pyNext_tuple_item st (show s.heap.IsTuple a its.toArray from p) (x:=u) (by simpa using hu) λh' st' sb=>?_
  have I1:Inv X pins σ H { s with heap:=h' }:=I.turned (t':=s.toks) (λb o hb e=>(sb.2 b hb).trans e) f0 f1 f3 f4 f5
  obtain⟨o,e,c,d⟩:=id st'
  exact⟨u,rfl,kS (s:={ s with heap:=h' }) e c d (by decide) ⟨x,H,I1,ru,⟨rfl,λys hy=>by rw[I.xO hy hq];exact hx⟩,st',λb hb=>(hf b hb).1⟩⟩
 done:=by
  intro X hP hw hK hc i pins s σ H E I hf st hg
  subst hP hw hK
  obtain⟨xs,hq,hx⟩:=hg
  obtain⟨its,rv,p,hz⟩:=I.tuple hq
  obtain⟨f0,f1,f2,f3,f4,f5⟩:=hf it (by simp)
  have hl:=rv.length
  exact wpAny_pyNext_tuple_end (I.ok.hd hc) st (show s.heap.IsTuple a its.toArray from p) (by simp;omega) λh' eb=>⟨rfl,I.turned (t':=s.toks) (λb o hb e=>eb b o hb e) f0 f1 f3 f4 f5⟩
 self:=λ_ _ _ _ _ st h=>wpAny_pyIter_tupleiter st h
theorem gy{P:WS}{w:WV}{K:PySem.W.Frag}{tg:Expr}(it:WN)(lo:Int)(n:Nat):Turn P w K tg (Dv lo n) [it] it (λi h=>IsRangeIter h it (lo+(i:Nat) * 1) ((n:Int) - (i:Nat)) 1) where
 mem:=by simp
 obj:=λi h st b hb=>by
  have e:b=it:=by simpa using hb
  subst e
  exact⟨_,st,λv z=>by
   have z':Data.fields _=Data.cell v:=z
   cases z'⟩
 keep:=λi h h' st k=>k it (by simp) _ st
 item:=by
  intro X hP hw hK hc i pins s σ H E I hf st hg
  subst hP hw hK
  obtain⟨f0,f1,f2,f3,f4,f5⟩:=hf it (by simp)
  have W:=Walks.range (prog:=X.prog) (w:=X.w) (I.ok.hd hc) it lo 1 n
  refine W.item i s _ _ hg st λv h' tk hv st' kk=>?_
  obtain⟨t,rfl⟩:=hv
  have I1:Inv X pins σ H { s with heap:=h',toks:=tk }:=I.turned (λb o hb e=>kk b o (by simpa using hb) e) f0 f1 f3 f4 f5
  refine⟨_,rfl,kS (s:={ s with heap:=h',toks:=tk }) (n:="range_iterator") st' rfl rfl (by decide) ⟨.int (lo+i),H,I1,⟨t,?_⟩,⟨rfl,rfl⟩,st',λb hb=>(hf b hb).1⟩⟩
  rw[Int.mul_one]
 done:=by
  intro X hP hw hK hc i pins s σ H E I hf st hg
  subst hP hw hK
  obtain⟨f0,f1,f2,f3,f4,f5⟩:=hf it (by simp)
  exact wpAny_pyNext_range_end (I.ok.hd hc) st (by have:n<=i:=hg;omega) λh' eb=>⟨rfl,I.turned (t':=s.toks) (λb o hb e=>eb b o hb e) f0 f1 f3 f4 f5⟩
 self:=λ_ _ _ _ _ st h=>wpAny_pyIter_rangeiter st h
end L2
namespace L2
open PySem PySem.Spec PyProof.Rows
section
variable {X:Cx} {tg:Expr}
def Ly(K:PySem.W.Frag)(tl:TE):TI:=λσ H R=>tl σ H λx H1=>∃a,x= .ref a/\(∃xs,gZ K H1 a xs)/\R (O1 K a) H1
theorem Dw{l:Expr}{tl:TE}(hl:PE X l tl):PI X tg l (Ly X.K tl):=by
 intro pins s σ H R I h
 refine aI (hl pins s σ H _ I h) λv s1 ⟨x,H1,I1,r1,q1⟩=>?_
 obtain⟨a,e,⟨xs,hq⟩,q⟩:=q1
 subst e
 cases r1
 obtain⟨its,rv,p,hz⟩:=I1.list hq
 refine wpAny_pyIter_list p.isList ?_
 refine⟨s1.heap.objs.size,[s1.heap.objs.size],_,_,H1,rfl,I1.kept (t':=s1.toks) λb o e=>Heap.get?_push_of_some _ e,o_ a _,⟨_,Heap.get?_push_size _ rfl,rfl,rfl⟩,λb hb=>?_,q⟩
 have e:b=s1.heap.objs.size:=by simpa using hb
 subst e
 exact I1.rT (Nat.le_refl _) (I1.hok.fresh (Nat.le_refl _))
theorem zR{pins:List (WN×Obj)}{σ:St}{H:Hp}{s:WT}{R:It->Hp->Prop}{E:WU->WT->Prop}{lo hi:Int}{t u v:Tok}{tk:Nat}(I:Inv X pins σ H s)(h1:-(2 ^ 62)<=lo)(h2:lo < 2 ^ 62)(h3:-(2 ^ 62)<=hi)(h4:hi < 2 ^ 62)
  (q:R (Dv lo (hi - lo).toNat) H):W8 (model X.prog X.w) X.A (pyIter (.ref s.heap.objs.size)) (O0 X pins σ tg R) E { s with heap:=s.heap.push { cls:=.type "range",data:=.fields #[.int lo t,.int hi u,.int 1 v] },toks:=tk }:=by
 refine wpAny_pyIter_range (IsRange.new ..) (small_one h1 h2 h3 h4) ?_
 have I1:Inv X pins σ H { s with heap:=s.heap.push { cls:=.type "range",data:=.fields #[.int lo t,.int hi u,.int 1 v] },toks:=tk }:=I.kept λb o e=>Heap.get?_push_of_some _ e
 refine⟨(s.heap.push { cls:=.type "range",data:=.fields #[.int lo t,.int hi u,.int 1 v] }).objs.size,[(s.heap.push { cls:=.type "range",data:=.fields #[.int lo t,.int hi u,.int 1 v] }).objs.size],_,_,H,rfl,
  I1.kept (t':=tk) λb o e=>Heap.get?_push_of_some _ e,gy _ lo (hi - lo).toNat,?_,λb hb=>?_,q⟩
 ·have e1:lo+((0:Nat):Int) * 1=lo:=by simp
  have e2:(((hi - lo).toNat:Nat):Int) - ((0:Nat):Int)=Builtin.Range.rangeSize lo hi 1:=by rw[rangeSize_one];split<;>omega
  show IsRangeIter _ _ (lo+((0:Nat):Int) * 1) ((((hi - lo).toNat:Nat):Int) - ((0:Nat):Int)) 1
  rw[e1,e2]
  exact Heap.get?_push_size _ rfl
 ·have e:b=(s.heap.push { cls:=.type "range",data:=.fields #[.int lo t,.int hi u,.int 1 v] }).objs.size:=by simpa using hb
  subst e
  exact I1.rT (Nat.le_refl _) (I1.hok.fresh (Nat.le_refl _))
def F2(ta:TA):TI:=λσ H R=>ta σ H λvs H1=>∃j:Int,vs=[.int j]/\-(2 ^ 62)<=j/\j < 2 ^ 62/\R (Dv 0 j.toNat) H1
theorem pe{a:Expr}{ta:TA}{p pos:Pos}(hg:Gl X "range")(hm:X.mg "range"=none)(ha:PA X [a] ta)(hs:W7 [a] X.env=[(false,eval a X.env)]:=by rfl):PI X tg (.Call (.Name "range" p) [a] [] pos) (F2 ta):=by
 intro pins s σ H R I h
 refine Call_ (hV I hg hm boot_range (PyProof.Rows.callWith_type1 (aI (ha pos pins s σ H _ I h) λus s1 ⟨vs,H1,I1,r1,q1⟩=>?_) hs rfl))
 obtain⟨j,e,q1,q2,q⟩:=q1
 subst e
 cases r1 with
 | cons r rr=>
  cases rr
  obtain⟨t,rfl⟩:=r
  exact call_range_1 (zR I1 (by omega) (by omega) q1 q2 (by simpa using q))
def O2(wi:TI)(g:TG)(tb:TS):TS:=λD σ H=>wi σ H λJ H1=>∃W:Nat->Nat->St->Hp->Prop,(∃m,W 0 m σ H1)/\∀i m σ H,W i m σ H->
 (J.stop i H/\D.nx σ H)\/(J.go i H/\∃N:St->Hp->Prop,(∀σ' H',N σ' H'->∃m',m' < m/\W (i+1) m' σ' H')/\∀x H',J.rS i H x H'->g x σ H' λσ2 H2=>tb { D with nx:=N,ct:=N,bk:=D.nx } σ2 H2)
def eK(fp:List WN)(h:Heap):List (WN×Obj):=fp.filterMap λb=>(h.get? b).map λo=>(b,o)
theorem gz{fp:List WN}{h:Heap}{b:WN}{o:Obj}(hb:b∈fp)(e:h.get? b=some o):(b,o)∈eK fp h:=List.mem_filterMap.mpr ⟨b,hb,by rw[e];rfl⟩
theorem xQ{fp:List WN}{h:Heap}{p:WN×Obj}(hp:p∈eK fp h):p.1∈fp/\h.get? p.1=some p.2:=by
 obtain⟨b,hb,e⟩:=List.mem_filterMap.mp hp
 cases q:h.get? b with
 | none=>rw[q] at e;cases e
 | some o=>
  rw[q] at e
  have e':(b,o)=p:=Option.some.inj e
  subst e'
  exact⟨hb,q⟩
theorem Inv.pinned{pins:List (WN×Obj)}{σ:St}{H:Hp}{s:WT}{fp:List WN}(I:Inv X pins σ H s)(hf:∀b∈fp,dX X pins H b)(ho:∀b∈fp,∃o,s.heap.get? b=some o/\∀v,o.data≠.cell v):Inv X (pins++eK fp s.heap) σ H s :=
 I.wb λp hp=>(List.mem_append.mp hp).elim (λz=>I.pin p (List.mem_append_right _ z)) λz=>by
  obtain⟨hb,e⟩:=xQ z
  obtain⟨f0,f1,f2,_⟩:=hf p.1 hb
  obtain⟨o,e',d⟩:=ho p.1 hb
  rw[e] at e';cases e'
  exact⟨e,f0,f1,f2,d⟩
theorem Inv.jA{pins pl:List (WN×Obj)}{σ:St}{H:Hp}{s:WT}(I:Inv X (pins++pl) σ H s):Inv X pins σ H s:=I.wb λp hp=>I.pin p (List.mem_append_right _ (List.mem_append_left _ hp))
theorem j7{iter:Expr}{body:List Stmt}{wi:TI}{g:TG}{tb:TS}{pos:Pos}(hp:PassesOwn (model X.prog X.w) X.A X.env X.xe)(hc:X.calm=true)(hi:PI X tg iter wi)(hg:PG X tg g)(hb:zv X body tb)
  (hs:∀x,W3 iter X.env x=pure x:=by intro _;rfl):PS X (.For tg iter body [] pos) (O2 wi g tb):=by
 intro pins s σ H D I h
 refine wpAny_For (aI (hi pins s σ H _ I h) λv s1 h1=>aI h1 λitv s2 h2=>?_) hs
 obtain⟨it,fp,tn,J,H2,e,I2,T,st2,f2,W,⟨m0,w0⟩,turn⟩:=h2
 subst e
 -- what stays true of the Hv objects through the loop
 have Hw:∀{H':Hp},(∀b∈fp,H' b=none)->∀b∈fp,dX X pins H' b:=λhn b hb=>⟨hn b hb,(f2 b hb).2⟩
 refine codeAny_forLoop_any (λn s'=>∃i σ' H',Inv X pins σ' H' s'/\tn i s'.heap/\(∀b∈fp,H' b=none)/\W i n σ' H') ?_ m0 ⟨0,σ,H2,I2,st2,λb hb=>(f2 b hb).1,w0⟩
 rintro n s3 ⟨i,σ3,H3,I3,st3,RT,w3⟩
 rcases turn i n σ3 H3 w3 with ⟨stop,qn⟩ | ⟨go,N,hN,step⟩
 ·refine wpAny_passesOwn hp (aI (T.done X rfl rfl rfl hc i pins s3 σ3 H3 X.xe I3 (Hw RT) st3 stop) λr s4 ⟨hr,I4⟩=>?_)
  subst hr
  exact wpAny_execs_nil ⟨σ3,H3,I4,qn⟩
 ·refine wpAny_passesOwn hp (aI (T.item X rfl rfl rfl hc i pins s3 σ3 H3 X.xe I3 (Hw RT) st3 go) λr s4 ⟨u,hr,h4⟩=>?_)
  subst hr
  refine wpAny_passesOwn hp (aI h4 λ_ s5 ⟨x,H5,I5,r5,y5,uE,NM⟩=>?_)
  have TR:=I5.pinned (Hw NM) (T.obj _ _ uE)
  refine wpAny_passesOwn hp (aI (hg _ s5 σ3 H5 x u _ TR r5 (step x H5 y5)) λ_ s6 ⟨σ6,H6,I6,q6⟩=>?_)
  refine wpAny_passesOwn hp (aI (hb _ s6 σ6 H6 _ I6 q6) λf s7 q7=>?_)
  have again:∀{σ7:St}{H7:Hp},Inv X (pins++eK fp s5.heap) σ7 H7 s7->N σ7 H7->∃m,m < n/\∃i σ' H',Inv X pins σ' H' s7/\tn i s7.heap/\(∀b∈fp,H' b=none)/\W i m σ' H':=λ{σ7 H7} I7 n7=>by
   obtain⟨m',hm,w7⟩:=hN σ7 H7 n7
   refine⟨m',hm,i+1,σ7,H7,I7.jA,T.keep _ _ _ uE λb hb o e=>(I7.pin (b,o) (List.mem_append_right _ (List.mem_append_right _ (gz hb e)))).1,λb hb=>?_,w7⟩
   obtain⟨o,e,d⟩:=T.obj _ _ uE b hb
   exact(I7.pin (b,o) (List.mem_append_right _ (List.mem_append_right _ (gz hb e)))).2.1
  cases f with
  | next=>obtain⟨σ7,H7,I7,n7⟩:=q7;exact again I7 n7
  | cont=>obtain⟨σ7,H7,I7,n7⟩:=q7;exact again I7 n7
  | brk=>obtain⟨σ7,H7,I7,q7⟩:=q7;exact⟨σ7,H7,I7.jA,q7⟩
  | ret v=>obtain⟨x7,σ7,H7,I7,r7,q7⟩:=q7;exact⟨x7,σ7,H7,I7.jA,r7,q7⟩
end
end L2
namespace L2
open PySem PySem.Spec PyProof.Rows
abbrev R2:=V->V->Hp->VK->Prop
def cH(X:Cx)(f:WU->WU->Sem WU)(r:R2):Prop :=
 ∀(pins:List (WN×Obj))(s:WT)(σ:St)(H:Hp)(x y:V)(v u:WU)(Q:VK),Inv X pins σ H s->RelV x v->RelV y u->r x y H Q->
  W8 (model X.prog X.w) X.A (f v u) (EP X pins σ Q) X.xe s
def O3(X:Cx)(f:WU->Sem WU)(r:V->Hp->VK->Prop):Prop :=
 ∀(pins:List (WN×Obj))(s:WT)(σ:St)(H:Hp)(x:V)(v:WU)(Q:VK),Inv X pins σ H s->RelV x v->r x H Q->
  W8 (model X.prog X.w) X.A (f v) (EP X pins σ Q) X.xe s
def b_(X:Cx)(f:WU)(r:List V->Hp->VK->Prop):Prop :=
 ∀(pins:List (WN×Obj))(s:WT)(σ:St)(H:Hp)(xs:List V)(us:List WU)(Q:VK),Inv X pins σ H s->Vals xs us->r xs H Q->
  W8 (model X.prog X.w) X.A (call f us) (EP X pins σ Q) X.xe s
def O4(X:Cx)(r:V->Hp->(Bool->Hp->Prop)->Prop):Prop :=
 ∀(pins:List (WN×Obj))(s:WT)(σ:St)(H:Hp)(x:V)(v:WU)(Q:Bool->Hp->Prop),Inv X pins σ H s->RelV x v->r x H Q->
  W8 (model X.prog X.w) X.A (truthy v) (TP X pins σ Q) X.xe s
def Lz(r:R2)(ta tb:TE):TE:=λσ H Q=>ta σ H λx H1=>tb σ H1 λy H2=>r x y H2 Q
def TU(r:V->Hp->VK->Prop)(ta:TE):TE:=λσ H Q=>ta σ H λx H1=>r x H1 Q
def rI(C:Int->Int->Prop)(g:Int->Int->V):R2:=λx y H Q=>∃i j,x= .int i/\y= .int j/\C i j/\Q (g i j) H
def F3(g:Int->Int->V):R2:=λx y H Q=>∃i j,x= .int i/\y= .int j/\Q (g i j) H
def rU(g:Int->V):V->Hp->VK->Prop:=λx H Q=>∃i,x= .int i/\Q (g i) H
section
variable {X:Cx} {a b c:Expr} {ta tb tc:TE} {pos:Pos}
theorem Hx(ha:PE X a ta)(hb:PE X b tb){pins:List (WN×Obj)}{s:WT}{σ:St}{H:Hp}{R:V->V->Hp->Prop}(I:Inv X pins σ H s)
  (h:ta σ H λx H1=>tb σ H1 λy H2=>R x y H2){Q:WU->WT->Prop}{f:WU->WU->Sem WU}
  (hf:∀v u s2 x y H2,Inv X pins σ H2 s2->RelV x v->RelV y u->R x y H2->W8 (model X.prog X.w) X.A (f v u) Q X.xe s2) :
  W8 (model X.prog X.w) X.A (eval a X.env) (λv s₁=>W8 (model X.prog X.w) X.A (eval b X.env) (λu s₂=>W8 (model X.prog X.w) X.A (f v u) Q X.xe s₂) X.xe s₁) X.xe s:=by
 refine aI (ha pins s σ H _ I h) λv s1 ⟨x,H1,I1,r1,q1⟩=>?_
 refine aI (hb pins s1 σ H1 _ I1 q1) λu s2 ⟨y,H2,I2,r2,q2⟩=>?_
 exact hf v u s2 x y H2 I2 r1 r2 q2
theorem LA{op:Operator}{r:R2}(ho:cH X (WX op) r)(ha:PE X a ta)(hb:PE X b tb):PE X (.BinOp a op b pos) (Lz r ta tb):=by
 intro pins s σ H Q I h
 exact wpAny_BinOp (Hx ha hb I h λv u s2 x y H2 I2 rx ry q=>ho pins s2 σ H2 x y v u Q I2 rx ry q)
theorem LB{op:UnaryOp}{r:V->Hp->VK->Prop}(ho:O3 X (unaryOp op) r)(ha:PE X a ta):PE X (.UnaryOp op a pos) (TU r ta):=by
 intro pins s σ H Q I h
 exact UnaryOp_ (aI (ha pins s σ H _ I h) λv s1 ⟨x,H1,I1,r1,q1⟩=>ho pins s1 σ H1 x v Q I1 r1 q1)
theorem NN{f:WU->WU->Sem WU}{C:Int->Int->Prop}{g:Int->Int->Int}
  (rule:∀(i j:Int)(t u:Tok)(s:WT)(Q:WU->WT->Prop)(E:WU->WT->Prop),C i j->Q (.int (g i j) s.toks) { s with toks:=s.toks+1 }->W8 (model X.prog X.w) X.A (f (.int i t) (.int j u)) Q E s) :
  cH X f (rI C λi j=> .int (g i j)):=by
 intro pins s σ H x y v u Q I rx ry h
 obtain⟨i,j,rfl,rfl,hc,q⟩:=h
 obtain⟨t,rfl⟩:=rx
 obtain⟨t',rfl⟩:=ry
 exact rule i j t t' s _ _ hc ⟨.int (g i j),H,I.tok _,⟨_,rfl⟩,q⟩
theorem LC{f:WU->WU->Sem WU}{g:Int->Int->Int}
  (rule:∀(i j:Int)(t u:Tok)(s:WT)(Q:WU->WT->Prop)(E:WU->WT->Prop),Q (.int (g i j) s.toks) { s with toks:=s.toks+1 }->W8 (model X.prog X.w) X.A (f (.int i t) (.int j u)) Q E s) :
  cH X f (F3 λi j=> .int (g i j)):=by
 intro pins s σ H x y v u Q I rx ry h
 obtain⟨i,j,rfl,rfl,q⟩:=h
 obtain⟨t,rfl⟩:=rx
 obtain⟨t',rfl⟩:=ry
 exact rule i j t t' s _ _ ⟨.int (g i j),H,I.tok _,⟨_,rfl⟩,q⟩
theorem Dx{f:WU->WU->Sem WU}{g:Int->Int->Bool}
  (rule:∀(i j:Int)(t u:Tok)(s:WT)(Q:WU->WT->Prop)(E:WU->WT->Prop),Q (.bool (g i j)) s->W8 (model X.prog X.w) X.A (f (.int i t) (.int j u)) Q E s) :
  cH X f (F3 λi j=> .bl (g i j)):=by
 intro pins s σ H x y v u Q I rx ry h
 obtain⟨i,j,rfl,rfl,q⟩:=h
 obtain⟨t,rfl⟩:=rx
 obtain⟨t',rfl⟩:=ry
 exact rule i j t t' s _ _ ⟨.bl (g i j),H,I,rfl,q⟩
def O5(i j:Int):Prop:=0<=j/\j<=1000000/\i.natAbs < 2 ^ 64
theorem Hy:cH X (WX .Add) (F3 λi j=> .int (i+j)):=LC λ_ _ _ _ _ _ _ q=>add_int q
theorem Hz:cH X (WX .Sub) (F3 λi j=> .int (i - j)):=LC λ_ _ _ _ _ _ _ q=>sub_int q
theorem HA:cH X (WX .Pow) (rI O5 λi j=> .int (i ^ j.toNat)):=NN λ_ _ _ _ _ _ _ hc q=>pow_int_small hc.1 hc.2.1 hc.2.2 q
theorem TV{f:WU->Sem WU}{g:Int->Int}
  (rule:∀(i:Int)(t:Tok)(s:WT)(Q:WU->WT->Prop)(E:WU->WT->Prop),Q (.int (g i) s.toks) { s with toks:=s.toks+1 }->W8 (model X.prog X.w) X.A (f (.int i t)) Q E s) :
  O3 X f (rU λi=> .int (g i)):=by
 intro pins s σ H x v Q I rx h
 obtain⟨i,rfl,q⟩:=h
 obtain⟨t,rfl⟩:=rx
 exact rule i t s _ _ ⟨.int (g i),H,I.tok _,⟨_,rfl⟩,q⟩
theorem HB:O3 X (unaryOp .USub) (rU λi=> .int (-i)):=TV λ_ _ _ _ _ q=>neg_int q
end
section
variable {X:Cx} {a b c:Expr} {ta tb tc:TE} {pos:Pos}
theorem qj{pins:List (WN×Obj)}{σ:St}{H:Hp}{s:WT}{Q:VK}{k k':Bool}(I:Inv X pins σ H s)(q:Q (.bl k) H)(e:k=k'):EP X pins σ Q (.bool k') s:=by
 subst e
 exact⟨.bl k,H,I,rfl,q⟩
theorem LD:cH X (W2 .Lt) (F3 λi j=> .bl (decide (i < j))):=Dx λ_ _ _ _ _ _ _ q=>lt_int q
theorem LG:cH X (W2 .LtE) (F3 λi j=> .bl (decide (i<=j))):=Dx λ_ _ _ _ _ _ _ q=>le_int q
theorem LH:cH X (W2 .Gt) (F3 λi j=> .bl (decide (j < i))):=Dx λ_ _ _ _ _ _ _ q=>gt_int q
theorem LI:cH X (W2 .GtE) (F3 λi j=> .bl (decide (j<=i))):=Dx λ_ _ _ _ _ _ _ q=>ge_int q
theorem xR:cH X (W2 .Lt) (λx y H Q=>∃i j,x= .str i/\y= .str j/\Q (.bl (decide (i.cps.toList < j.cps.toList))) H):=by
 intro pins s σ H x y v u Q I rx ry h
 obtain⟨i,j,rfl,rfl,q⟩:=h
 obtain⟨t,rfl⟩:=rx
 obtain⟨t',rfl⟩:=ry
 exact lt_str (qj I q rfl)
theorem xS:cH X (W2 .In) (λx y H Q=>∃i j,x= .str i/\y= .str j/\Q (.bl (!(Builtin.Str.occurrences j i 0 j.length 1).isEmpty)) H):=by
 intro pins s σ H x y v u Q I rx ry h
 obtain⟨i,j,rfl,rfl,q⟩:=h
 obtain⟨t,rfl⟩:=rx
 obtain⟨t',rfl⟩:=ry
 exact in_str (qj I q rfl)
theorem HC:cH X (W2 .Is) (λx y H Q=>y= .aE/\Q (.bl (decide (x= .aE))) H):=by
 intro pins s σ H x y v u Q I rx ry h
 obtain⟨rfl,q⟩:=h
 cases ry
 refine is_none_gen (qj I q ?_)
 cases x<;>first
  | (cases rx;rfl)
  | (obtain⟨t,rfl⟩:=rx;rfl)
theorem Dy:cH X (W2 .IsNot) (λx y H Q=>y= .aE/\Q (.bl (!decide (x= .aE))) H):=by
 intro pins s σ H x y v u Q I rx ry h
 obtain⟨rfl,q⟩:=h
 cases ry
 refine isnot_none_gen (qj I q ?_)
 cases x<;>first
  | (cases rx;rfl)
  | (obtain⟨t,rfl⟩:=rx;rfl)
theorem Dz{op:CmpOp}{r:R2}(ho:cH X (W2 op) r)(ha:PE X a ta)(hb:PE X b tb)(hm:WW op b=false):PE X (.Compare a [op] [b] pos) (Lz r ta tb):=by
 intro pins s σ H Q I h
 exact wpAny_Compare1 (Hx ha hb I h λv u s2 x y H2 I2 rx ry q=>ho pins s2 σ H2 x y v u Q I2 rx ry q) hm
def zS(t:TE):TT:=λσ H Q=>t σ H λx H'=>∃k,x= .bl k/\Q k H'
theorem DA{op:CmpOp}{r:R2}(ho:cH X (W2 op) r)(ha:PE X a ta)(hb:PE X b tb)(hm:WW op b=false):PT X (.Compare a [op] [b] pos) (zS (Lz r ta tb)):=by
 intro pins s σ H Q I h
 refine wpAny_isTrue_Compare1 (aI (ha pins s σ H _ I h) λv s1 ⟨x,H1,I1,r1,q1⟩=>aI (hb pins s1 σ H1 _ I1 q1) λu s2 ⟨y,H2,I2,r2,q2⟩=>
  aI (ho pins s2 σ H2 x y v u _ I2 r1 r2 q2) λc s3 ⟨z,H3,I3,r3,k,e,q3⟩=>?_) hm
 subst e
 cases r3
 exact Xf ⟨H3,I3,q3⟩
def uF(r r':R2)(ta tb tc:TE):TE:=λσ H Q=>ta σ H λx H1=>tb σ H1 λy H2=>r x y H2 λz H3=>∃k,z= .bl k/\
 (if k=true then tc σ H3 λw' H4=>r' y w' H4 Q else Q (.bl false) H3)
theorem zT{op op':CmpOp}{r r':R2}(ho:cH X (W2 op) r)(ho':cH X (W2 op') r')(ha:PE X a ta)(hb:PE X b tb)(hc:PE X c tc)
  (hm:lastMarks [op,op'] [b,c]=false:=by with_unfolding_all rfl):PE X (.Compare a [op,op'] [b,c] pos) (uF r r' ta tb tc):=by
 intro pins s σ H Q I h
 refine Compare_chain (aI (ha pins s σ H _ I h) λv s1 ⟨x,H1,I1,r1,q1⟩=>chain_link (aI (hb pins s1 σ H1 _ I1 q1) λu s2 ⟨y,H2,I2,r2,q2⟩=>
  aI (ho pins s2 σ H2 x y v u _ I2 r1 r2 q2) λd s3 ⟨z,H3,I3,r3,k,e,q3⟩=>?_)) hm
 subst e
 cases r3
 refine Xf ?_
 cases k with
 | false=>exact ite_ff ⟨.bl false,H3,I3,rfl,q3⟩
 | true=>exact ite_tt (chain_last (aI (hc pins s3 σ H3 _ I3 q3) λw' s4 ⟨z',H4,I4,r4,q4⟩=>ho' pins s4 σ H4 y z' u w' Q I4 r2 r4 q4))
theorem zU{op op':CmpOp}{r r':R2}(ho:cH X (W2 op) r)(ho':cH X (W2 op') r')(ha:PE X a ta)(hb:PE X b tb)(hc:PE X c tc)
  (hm:lastMarks [op,op'] [b,c]=false:=by with_unfolding_all rfl):PT X (.Compare a [op,op'] [b,c] pos) (zS (uF r r' ta tb tc)):=by
 intro pins s σ H Q I h
 refine isTrue_chain (aI (ha pins s σ H _ I h) λv s1 ⟨x,H1,I1,r1,q1⟩=>test_link (aI (hb pins s1 σ H1 _ I1 q1) λu s2 ⟨y,H2,I2,r2,q2⟩=>
  aI (ho pins s2 σ H2 x y v u _ I2 r1 r2 q2) λd s3 ⟨z,H3,I3,r3,k,e,q3⟩=>?_)) hm
 subst e
 cases r3
 refine Xf ?_
 cases k with
 | false=>
  obtain⟨k',e',q'⟩:=q3
  cases e'
  exact ite_ff ⟨H3,I3,q'⟩
 | true=>
  refine ite_tt (test_last (aI (hc pins s3 σ H3 _ I3 q3) λw' s4 ⟨z',H4,I4,r4,q4⟩=>aI (ho' pins s4 σ H4 y z' u w' _ I4 r2 r4 q4) λd' s5 ⟨z2,H5,I5,r5,k2,e2,q5⟩=>?_))
  subst e2
  cases r5
  exact Xf ⟨H5,I5,q5⟩
def LJ(K:PySem.W.Frag)(x:V)(H:Hp)(k:Bool):Prop :=
 match x with
 | .aE=>k=false
 | .bl b=>k=b
 | .int i=>k=(i != 0)
 | .str y=>y.length<=W6/\k=((y.length:Int) != 0)
 | .K5 y=>y.size<=W6/\k=((y.size:Int) != 0)
 | .ref p=>(∃xs,gZ K H p xs/\k= !xs.isEmpty)\/(∃xs,dS K H p xs/\k= !xs.isEmpty)\/∃kvs,H p=some (.dK kvs)/\k= !kvs.isEmpty
 | _=>False
theorem uG{κ:Type}{kvs:List (κ×V)}{vs:List (κ×WU)}(r:KV kvs vs):(!vs.isEmpty)= !kvs.isEmpty:=by
 cases r<;>rfl
theorem mw{xs:List V}{its:List WU}(r:Vals xs its):(!its.toArray.isEmpty)= !xs.isEmpty:=by
 cases r<;>simp
theorem jc:(W6:Nat) < 2 ^ 63:=by rw[sizeLine_eq];decide
theorem HD:O4 X (λx H Q=>∃k,LJ X.K x H k/\Q k H):=by
 intro pins s σ H x v Q I rx h
 obtain⟨k,e,q⟩:=h
 have hl:=jc
 have hs:W6=16777216:=sizeLine_eq
 cases x with
 | aE=>
  cases rx
  have e':k=false:=e
  subst e'
  exact truthy_none ⟨H,I,q⟩
 | bl b=>
  cases rx
  have e':k=b:=e
  subst e'
  exact Xf ⟨H,I,q⟩
 | int i=>
  obtain⟨t,rfl⟩:=rx
  have e':k=(i != 0):=e
  subst e'
  exact PySem.P.truthy_int ⟨H,I,q⟩
 | str y=>
  obtain⟨t,rfl⟩:=rx
  obtain⟨hy,e'⟩:y.length<=W6/\k=((y.length:Int) != 0):=e
  subst e'
  exact PySem.P.truthy_str (by omega) ⟨H,I.tok _,q⟩
 | K5 y=>
  obtain⟨t,rfl⟩:=rx
  obtain⟨hy,e'⟩:y.size<=W6/\k=((y.size:Int) != 0):=e
  subst e'
  exact PySem.W.truthy_bytes (by omega) ⟨H,I.tok _,q⟩
 | ref p=>
  cases rx
  have e':(∃xs,gZ X.K H p xs/\k= !xs.isEmpty)\/(∃xs,dS X.K H p xs/\k= !xs.isEmpty)\/∃kvs,H p=some (.dK kvs)/\k= !kvs.isEmpty:=e
  rcases e' with ⟨xs,hx,e'⟩ | ⟨xs,hx,e'⟩ | ⟨kvs,hx,e'⟩
  ·subst e'
   obtain⟨its,r,pl,hz⟩:=I.list hx
   have hlen:=r.length
   exact wpAny_truthy_list pl.isList (by simp only[List.size_toArray];omega) ⟨H,I.tok _,by rw[mw r];exact q⟩
  ·subst e'
   obtain⟨its,r,pl,hz⟩:=I.tuple hx
   have hlen:=r.length
   exact truthy_tuple pl (by simp only[List.size_toArray];omega) ⟨H,I.tok _,by rw[mw r];exact q⟩
  ·subst e'
   obtain⟨hz,hS,vs,r,m⟩:kvs.length<=W6/\(p == sysModules)=false/\∃vs,KV kvs vs/\s.heap.DictOf (aM X.prog X.w) p vs:=I.hok p _ hx
   have hlen:kvs.length=vs.length:=Paired.length r
   exact wpAny_truthy_dict hS m (by omega) ⟨H,I.tok _,by rw[uG r];exact q⟩
 | _=>exact(show False from e).elim
theorem zV(ha:PE X a ta)(he:∀whole,isTrue a X.env whole=(do let v <-whole;standAt a.pos;holding [v] (truthy v))) :
  PT X a (λσ H Q=>ta σ H λx H'=>∃k,LJ X.K x H' k/\Q k H'):=by
 intro pins s σ H Q I h
 exact isTrue_plain (aI (ha pins s σ H _ I h) λv s1 ⟨x,H1,I1,r1,q1⟩=>HD pins s1 σ H1 x v Q I1 r1 q1) (he _)
theorem uH:cH X (WX .Add) (λx y H Q=>∃i j,x= .str i/\y= .str j/\i.length+j.length<=W6/\Q (.str (i++j)) H):=by
 intro pins s σ H x y v u Q I rx ry h
 obtain⟨i,j,rfl,rfl,hz,q⟩:=h
 obtain⟨t,rfl⟩:=rx
 obtain⟨t',rfl⟩:=ry
 exact add_str (λt' tk=>⟨.str (i++j),H,I.tok _,⟨_,rfl⟩,q⟩) hz
theorem vals1{x:V}{us:List WU}(r:Vals [x] us):∃u,us=[u]/\RelV x u:=by
 cases r with
 | cons r1 r2=>cases r2;exact⟨_,rfl,r1⟩
theorem vals2{x y:V}{us:List WU}(r:Vals [x,y] us):∃u w',us=[u,w']/\RelV x u/\RelV y w':=by
 cases r with
 | cons r1 r2=>
  cases r2 with
  | cons r3 r4=>cases r4;exact⟨_,_,rfl,r1,r3⟩
theorem zW:b_ X (.builtin "abs") (λxs H Q=>∃i,xs=[.int i]/\Q (.int (if i < 0 then -i else i)) H):=by
 intro pins s σ H xs us Q I r h
 obtain⟨i,rfl,q⟩:=h
 obtain⟨u,rfl,t,rfl⟩:=vals1 r
 exact call_abs_int λu tk=>⟨.int (if i < 0 then -i else i),H,I.tok _,⟨_,rfl⟩,q⟩
theorem xT(hc:X.calm=true):b_ X (.builtin "max") (λxs H Q=>∃i j,xs=[.int i,.int j]/\Q (.int (if j > i then j else i)) H):=by
 intro pins s σ H xs us Q I r h
 obtain⟨i,j,rfl,q⟩:=h
 obtain⟨u,w',rfl,⟨t,rfl⟩,⟨t',rfl⟩⟩:=vals2 r
 refine max_two_ints (I.ok.hd hc) λh' tk k=>⟨_,H,I.kept k,?_,q⟩
 by_cases hj:j > i
 ·rw[if_pos hj,if_pos hj];exact⟨_,rfl⟩
 ·rw[if_neg hj,if_neg hj];exact⟨_,rfl⟩
theorem xU(hc:X.calm=true):b_ X (.builtin "min") (λxs H Q=>∃i j,xs=[.int i,.int j]/\Q (.int (if j < i then j else i)) H):=by
 intro pins s σ H xs us Q I r h
 obtain⟨i,j,rfl,q⟩:=h
 obtain⟨u,w',rfl,⟨t,rfl⟩,⟨t',rfl⟩⟩:=vals2 r
 refine min_two_ints (I.ok.hd hc) λh' tk k=>⟨_,H,I.kept k,?_,q⟩
 by_cases hj:j < i
 ·rw[if_pos hj,if_pos hj];exact⟨_,rfl⟩
 ·rw[if_neg hj,if_neg hj];exact⟨_,rfl⟩
end
end L2
namespace L2
open PySem PySem.Spec PyProof.Rows
structure TX(h:Heap)(x dx C:WN)(mA:Str->Option WU):Prop where
 obj:h.get? x=some (PySem.W.instObj C dx)
 ns:h.Ns1 dx mA
 ne:dx≠x
section
variable {prog:WS} {w:WV} {A:WO} {E:WU->WT->Prop} {s:WT} {K:PySem.W.Frag} {x dx C f:WN} {mA:Str->Option WU} {name:Str} {v:WU}
end
theorem ml.some_of{v:V}{o:Option WU}(r:ml (some v) o):∃u,o=some u/\RelV v u:=by
 cases o with
 | none=>exact(show False from r).elim
 | some u=>exact⟨u,rfl,r⟩
section
variable {P:WS} {w:WV} {H H':Hp} {h h':Heap} {a C dx:WN} {fs fs':List (Str×V)}
end
structure TY(K:PySem.W.Frag)(C:WN):Prop where
 pg:PySem.W.plainGet K C Str.empty=true
 hd:PySem.W.hasDictIn K C=true
 po:PySem.W.plainOver K C=true
 sa:PySem.W.findIn K (.ref C) "__setattr__"=some (some (.builtin "object.__setattr__"))
structure V5(K:PySem.W.Frag)(C:WN)(f:Str)(v:V)(u:WU):Prop where
 at_:PySem.W.findIn K (.ref C) f=some (some u)
 rel:RelV v u
 get:PySem.W.specialIn K u "__get__"=some none
 cp:PySem.W.copiedNames.contains f=false
structure Meth(K:PySem.W.Frag)(C:WN)(m:Str)(f:WN):Prop where
 at_:PySem.W.findIn K (.ref C) m=some (some (.ref f))
 fn:PySem.W.isFn K (.ref f)=true
 kp:PySem.W.keepIn K (.ref f)=true
section
variable {X:Cx} {pins:List (WN×Obj)} {σ:St} {H:Hp} {s:WT} {a C dx:WN} {fs:List (Str×V)} {f:Str} {v:V} {A:WO} {E:WU->WT->Prop}
end
section
variable {X:Cx} {o e value:Expr} {f:Str} {pos pos' tpos:Pos} {ta tv:TE}
end
section
variable {X:Cx} {pins:List (WN×Obj)} {σ:St} {H:Hp} {s:WT} {A:WO} {E:WU->WT->Prop} {Q:WU->WT->Prop} {c:WU} {b:Bool}
inductive my(K:PySem.W.Frag)(H:Hp):V->WU->Prop where
 | aE:my K H .aE (.type "NoneType")
 | bl (x:Bool):my K H (.bl x) (.type "bool")
 | int (i:Int):my K H (.int i) (.type "int")
 | str (x:Str):my K H (.str x) (.type "str")
 | rO (x:UInt64):my K H (.rO x) (.type "float")
 | lst {a:WN} {xs:List V} (e:H a=some (.lst xs)):my K H (.ref a) (.type "list")
 | bR {a:WN} {o:Obj} {xs:List V} (e:H a=some (.bR o (.lst xs))):my K H (.ref a) (.type "list")
 | tup {a:WN} {xs:List V} (e:H a=some (.tup xs)):my K H (.ref a) (.type "tuple")
 | dK {a:WN} {kvs:List (Key×V)} (e:H a=some (.dK kvs)):my K H (.ref a) (.type "dict")
 | dT {a:WN} {kvs:List (List Key×V)} (e:H a=some (.dT kvs)):my K H (.ref a) (.type "dict")
 | ins {a C dx:WN} {fs:List (Str×V)} (e:H a=some (.ins C dx fs)) (cl:TY K C) (ha:PySem.W.findIn K (.ref C) "__class__"=some (some (.builtin "object.__class__")))
   (hn:PySem.W.specialIn K (.builtin "object.__class__") "__get__"=some (some (.builtin "getset_descriptor.__get__"))) (htk:PySem.W.takesIn K (.builtin "object.__class__")=some true)
   (hm:PySem.W.mroIn K C (.type "object")=some true):my K H (.ref a) (.ref C)
end
end L2
namespace L2
open PySem PySem.Spec PyProof.Rows
structure hX(k:Nat)(A:WO):Prop where
 hd:A.handled=none
 dp:A.depth+3 * k+5 < recursionLimit
 un:A.units+16 * k+200 < cLine
theorem hX.mono{j k:Nat}{A:WO}(r:hX k A)(h:j<=k):hX j A:=⟨r.hd,by have:=r.dp;omega,by have:=r.un;omega⟩
theorem hX.deeper{k:Nat}{A:WO}(r:hX (k+1) A)(env:Env):hX k (A.deeper env) :=
 ⟨r.hd,by have:=r.dp;show A.depth+1+3 * k+5 < _;omega,by have:=r.un;show A.units+3+16 * k+200 < _;omega⟩
theorem hX.depth{k:Nat}{A:WO}(r:hX k A):A.depth < recursionLimit:=by have:=r.dp;omega
def LK:TA:=λ_ H Q=>Q [] H
def F4(ta:TE)(tr:TA):TA:=λσ H Q=>ta σ H λx H1=>tr σ H1 λxs H2=>Q (x::xs) H2
section
variable {X:Cx} {e:Expr} {es:List Expr} {te:TE} {t:TA} {pos:Pos}
theorem HE:PA X [] LK:=λ_ _ _ _ H Q I h=>Calls.spliced_nil ⟨[],H,I,.nil,h⟩
theorem DB(ha:PE X e te)(hr:PA X es t)(hs:W7 (e::es) X.env=(false,eval e X.env)::W7 es X.env:=by rfl):PA X (e::es) (F4 te t):=by
 intro pos pins s σ H Q I h
 rw[hs]
 show W8 _ _ (spliced ((false,eval e X.env)::backTo pos (W7 es X.env))) _ _ s
 refine Calls.spliced_cons (aI (ha pins s σ H _ I h) λu s1 ⟨x,H1,I1,r1,q1⟩=>?_)
 exact aI (hr pos pins s1 σ H1 _ I1 q1) λus s2 ⟨xs,H2,I2,r2,q2⟩=>⟨x::xs,H2,I2,.cons r1 r2,q2⟩
def O6(t:TA):TE:=λσ H Q=>t σ H λxs H1=>xs.length<=W6/\∀p,H1 p=none->Q (.ref p) (upd H1 p (.tup xs))
def O7(t:TA):TE:=λσ H Q=>t σ H λxs H1=>xs.length<=W6/\∀p,H1 p=none->Q (.ref p) (upd H1 p (.lst xs))
theorem HF{x1}(h:PA X es t):PE X (.Tuple es x1 pos) (O6 t):=by
 intro pins s σ H Q I hq
 refine wpAny_Tuple_spliced (aI (h pos pins s σ H _ I hq) λus s1 ⟨xs,H1,I1,r,z,q⟩=>⟨by rw[<-r.length];exact z,?_⟩)
 have hf:H1 s1.heap.objs.size=none:=I1.hok.fresh (Nat.le_refl _)
 refine⟨.ref s1.heap.objs.size,upd H1 s1.heap.objs.size (.tup xs),I1.laid (t':=s1.toks) (λb u e=>Heap.get?_push_of_some _ e) (Nat.le_refl _) ?_,rfl,q _ hf⟩
 exact⟨z,us,r,⟨_,Heap.get?_push_size _ rfl,rfl,_,rfl⟩,xJ.new _ _⟩
theorem HG(h:PA X es t):PE X (.List es pos) (O7 t):=by
 intro pins s σ H Q I hq
 refine wpAny_List_spliced (aI (h pos pins s σ H _ I hq) λus s1 ⟨xs,H1,I1,r,z,q⟩=>⟨by rw[<-r.length];exact z,?_⟩)
 have hf:H1 s1.heap.objs.size=none:=I1.hok.fresh (Nat.le_refl _)
 refine⟨.ref s1.heap.objs.size,upd H1 s1.heap.objs.size (.lst xs),I1.laid (t':=s1.toks) (λb u e=>Heap.get?_push_of_some _ e) (Nat.le_refl _) ?_,rfl,q _ hf⟩
 exact⟨z,us,0,r,Heap.get?_push_size _ rfl⟩
end
abbrev Sp:=List V->Hp->VK->XK->Prop
abbrev zw:=List Env->Hp->WT->XK->WU->WT->Prop
structure uI(P:WS)(w:WV)(K:PySem.W.Frag)(mg:Str->Option WU)(base:Heap)(A:WO)(outer:List Env)(s:WT)(H:Hp):Prop where
 frames:A.frames=some outer
 mod:Mod K mg base
 bs:∀b o,base.get? b=some o->s.heap.get? b=some o/\H b=none
 De:base.objs.size<=s.heap.objs.size
 jb:s.heap.FunFrames base outer
 Dj:∀b∈frs outer,H b=none
 hok:gX P w H s.heap
 bare:AllBare s.gens
def CE(outer:List Env)(P:WS)(w:WV)(H:Hp)(s:WT)(Q:VK)(u:WU)(s':WT):Prop :=
 ∃v H',s'.os=s.os/\AllBare s'.gens/\Un (frs outer) [] H H' s.heap s'.heap/\gX P w H' s'.heap/\RelV v u/\Q v H'
def CR(CX:zw)(outer:List Env)(P:WS)(w:WV)(H:Hp)(s:WT)(Q:VK)(E:XK)(r:Result)(s':WT):Prop :=
 match r with
 | .ok (.ret u)=>CE outer P w H s Q u s'
 | .ok _=>False
 | .error e=>CX outer H s E e s'
structure FnOk(P:WS)(w:WV)(K:PySem.W.Frag)(mg:Str->Option WU)(base:Heap)(CX:zw)(k:Nat)(f:WN)(fd:WQ)(ps:List Str)(sp:Sp):Prop where
 len:∀vs H Q E,sp vs H Q E->vs.length=ps.length
 run:∀(A:WO)(outer:List Env)(s:WT)(H:Hp)(args:Args)(us:List WU)(vs:List V)(Q:VK)(E:XK),hX k A->uI P w K mg base A outer s H->BindsTo s fd args (ps.zip us)->Vals vs us->sp vs H Q E->
  WZ (model P w) A (.call (.ref f) args) (CR CX outer P w H s Q E) s
theorem FnOk.mono{P:WS}{w:WV}{K:PySem.W.Frag}{mg:Str->Option WU}{base:Heap}{CX:zw}{j k:Nat}{f:WN}{fd:WQ}{ps:List Str}{sp:Sp}(F:FnOk P w K mg base CX j f fd ps sp)(h:j<=k) :
  FnOk P w K mg base CX k f fd ps sp:=⟨F.len,λA outer s H args us vs Q E hr=>F.run A outer s H args us vs Q E (hr.mono h)⟩
section
variable {X:Cx} {pins:List (WN×Obj)} {σ:St} {H:Hp} {s s':WT}
theorem Inv.LL(I:Inv X pins σ H s):uI X.prog X.w X.K X.mg X.base X.A X.stack s H :=
 ⟨I.ok.frames,I.ok.mod,I.bs,Nat.le_trans I.ok.De I.sz,I.stack,I.jw,I.hok,I.bare⟩
theorem Inv.after{Q:VK}{u:WU}(I:Inv X pins σ H s)(h:CE X.stack X.prog X.w H s Q u s'):EP X pins σ Q u s':=by
 obtain⟨v,H',os,bare,un,hok,r,q⟩:=h
 obtain⟨hh,g,d,t,os'⟩:=s'
 obtain rfl:os'=s.os:=os
 exact⟨v,H',I.call (h':=hh) (g':=g) (d':=d) (t':=t) (ch:=[]) un hok bare (λb z=>absurd z (by simp)),r,q⟩
end
def Binds(K:PySem.W.Frag)(fd:WQ)(ps:List Str)(ds:List WU):Prop :=
 ∀(s:WT)(us:List WU),K.In s.heap->(us++ds).length=ps.length->BindsTo s fd ⟨us,[]⟩ (ps.zip (us++ds))
theorem Binds.all{K:PySem.W.Frag}{fd:WQ}{ps:List Str}(h:∀us:List WU,us.length=ps.length->bindArgs fd ⟨us,[]⟩=pure (ps.zip us)):Binds K fd ps []:=λs us _ hl=>by
 rw[List.append_nil] at hl ⊢
 exact .of_eq (h us hl)
section
variable {X:Cx} {CX:zw} {k:Nat} {f C:WN} {fd:WQ} {ps:List Str} {sp:Sp} {V6:List V} {ds:List WU} {E:XK} {x m:Str} {p pos apos:Pos} {e o:Expr} {es:List Expr} {ta:TE} {t:TA}
structure Mk(K:PySem.W.Frag)(C f:WN):Prop where
 makes:PySem.W.makesIn K C=true
 init:PySem.W.findIn K (.ref C) "__init__"=some (some (.ref f))
 fn:PySem.W.isFn K (.ref f)=true
 kp:PySem.W.keepIn K (.ref C)=true
end
def PK(X:Cx)(kws:List Keyword)(t:TA):Prop :=
 ∀(pos:Pos)(pins:List (WN×Obj))(s:WT)(σ:St)(H:Hp)(Q:List V->Hp->Prop),Inv X pins σ H s->t σ H Q->W8 (model X.prog X.w) X.A (evalAll ((backToKw pos (keywordEach kws X.env)).map (·.2))) (AP X pins σ Q) X.xe s
section
variable {X:Cx} {CX:zw} {k:Nat} {f C:WN} {fd:WQ} {ps ks:List Str} {sp:Sp} {E:XK} {x m:Str} {p pos apos kpos:Pos} {e o:Expr} {es:List Expr} {kws:List Keyword} {te ta:TE} {t tk:TA} {nm:Option Str}
theorem zX:PK X [] LK:=λ_ _ _ _ H Q I h=>wpAny_evalAll_nil ⟨[],H,I,.nil,h⟩
theorem wc(ha:PE X e te)(hr:PK X kws t):PK X (⟨nm,e,kpos⟩::kws) (F4 te t):=by
 intro pos pins s σ H Q I h
 show W8 _ _ (evalAll ((do let v <-eval e X.env;standAt pos;pure v)::(backToKw pos (keywordEach kws X.env)).map (·.2))) _ _ s
 refine wpAny_evalAll_cons (W9 (aI (ha pins s σ H _ I h) λu s1 ⟨x,H1,I1,r1,q1⟩=>W9 (wpAny_standAt (Xe ?_))))
 exact aI (hr pos pins s1 σ H1 _ I1 q1) λus s2 ⟨xs,H2,I2,r2,q2⟩=>⟨x::xs,H2,I2,.cons r1 r2,q2⟩
structure O8(K:PySem.W.Frag)(fd:WQ)(ps ks:List Str)(g:List WU->List WU->List WU)(gV:List V->List V->List V):Prop where
 to:∀(s:WT)(us ws:List WU),K.In s.heap->(g us ws).length=ps.length->BindsTo s fd ⟨us,ks.zip ws⟩ (ps.zip (g us ws))
 rel:∀{vs:List V}{us:List WU}{zs:List V}{ws:List WU},Vals vs us->Vals zs ws->Vals (gV vs zs) (g us ws)
variable {g:List WU->List WU->List WU} {gV:List V->List V->List V}
end
structure FnScope(N P:List Str)(sc:Scope):Prop where
 kind:sc.kind= .function
 co:sc.isCoroutine=false
 gen:sc.isGenerator=false
 nd:N.Nodup
 pre:N.take P.length=P
 par:∀x∈P,sc.names.lookup x=some .local\/sc.names.lookup x=some .cell
 HH:∀y∈sc.names,y.2≠.free
theorem pf{kindOf:Str->Option WR}{x:Str}:∀{binds:List (Str×WU)}{m:Str->Option WU},(∀v,(x,v)∉binds)->bindL kindOf binds m x=m x
 | [],_,_=>rfl
 | (n,v)::r,m,h=>by
  unfold bindL
  rw[pf λw hw=>h w (List.mem_cons_of_mem _ hw)]
  split
  ·have:x≠n:=by rintro rfl;exact h v List.mem_cons_self
   simp[this]
  ·rfl
theorem ph{kindOf:Str->Option WR}{x:Str}:∀{binds:List (Str×WU)}{m:Str->Option WU},(∀v,(x,v)∉binds)->bindC kindOf binds m x=m x
 | [],_,_=>rfl
 | (n,v)::r,m,h=>by
  unfold bindC
  rw[ph λw hw=>h w (List.mem_cons_of_mem _ hw)]
  split
  ·rfl
  ·have:x≠n:=by rintro rfl;exact h v List.mem_cons_self
   simp[this]
theorem pj{kindOf:Str->Option WR}{x:Str}{v:WU}:∀{P:List Str}{vs:List WU}{i:Nat}{m:Str->Option WU},P.Nodup->P[i]? =some x->vs[i]? =some v->kindOf x=some .local->
  bindL kindOf (P.zip vs) m x=some v
 | [],_,_,_,_,h,_,_=>by simp at h
 | _::_,[],_,_,_,_,h,_=>by simp at h
 | p::P,w::vs,0,m,nd,h1,h2,hk=>by
  simp at h1 h2;subst h1;subst h2
  show bindL kindOf ((p,w)::P.zip vs) m p=_
  unfold bindL
  rw[pf λv hv=>(List.nodup_cons.mp nd).1 (List.of_mem_zip hv).1,if_pos hk]
  simp
 | p::P,w::vs,i+1,m,nd,h1,h2,hk=>by
  show bindL kindOf ((p,w)::P.zip vs) m x=_
  unfold bindL
  exact pj (i:=i) (List.nodup_cons.mp nd).2 (by simpa using h1) (by simpa using h2) hk
theorem pk{kindOf:Str->Option WR}{x:Str}{v:WU}:∀{P:List Str}{vs:List WU}{i:Nat}{m:Str->Option WU},P.Nodup->P[i]? =some x->vs[i]? =some v->kindOf x≠some .local->
  bindC kindOf (P.zip vs) m x=some v
 | [],_,_,_,_,h,_,_=>by simp at h
 | _::_,[],_,_,_,_,h,_=>by simp at h
 | p::P,w::vs,0,m,nd,h1,h2,hk=>by
  simp at h1 h2;subst h1;subst h2
  show bindC kindOf ((p,w)::P.zip vs) m p=_
  unfold bindC
  rw[ph λv hv=>(List.nodup_cons.mp nd).1 (List.of_mem_zip hv).1,if_neg hk]
  simp
 | p::P,w::vs,i+1,m,nd,h1,h2,hk=>by
  show bindC kindOf ((p,w)::P.zip vs) m x=_
  unfold bindC
  exact pk (i:=i) (List.nodup_cons.mp nd).2 (by simpa using h1) (by simpa using h2) hk
def start(N:List Str)(vs:List V):St:=vs.map some++List.replicate (N.length - vs.length) none
def mz(CX:zw)(P:WS)(w:WV)(K:PySem.W.Frag)(mg:Str->Option WU)(base:Heap)(N:List Str)(qual:Str)(scope:Scope)(f:WN)(cd:WU)(A:WO)(outer:List Env)(s:WT)(H:Hp)(E:XK):Cx where
 prog:=P
 w:=w
 K:=K
 mg:=mg
 base:=base
 A:=A.deeper (envOfC qual scope s.heap.objs.size f cd)
 N:=N
 s₀:=s
 H₀:=H
 env:=envOfC qual scope s.heap.objs.size f cd
 outer:=outer
 stack:=envOfC qual scope s.heap.objs.size f cd::outer
 ex:=[]
 calm:=true
 fn:=λ_=>true
 pn:=[]
 xe:=λe s'=>W8 (model P w) (A.deeper (envOfC qual scope s.heap.objs.size f cd)) (leaving (envOfC qual scope s.heap.objs.size f cd) e) (λ_ s''=>CX outer H s E e s'') (λe' s''=>CX outer H s E e' s'') s'
theorem rV{sc:Scope}{n:Nat}{x:Str}(h:sc.names.lookup x=some .cell):∃c,(cellsFrom n sc.names []).lookup x=some c:=by
 have q:=PySem.W.cellsFrom_some sc.names n [] (.inl h)
 exact Option.isSome_iff_exists.mp q
theorem pq{CX:zw}{P:WS}{w:WV}{K:PySem.W.Frag}{mg:Str->Option WU}{base:Heap}{N ps:List Str}{qual:Str}{scope:Scope}{f:WN}{cd:WU}{A:WO}{outer:List Env}{s s1:WT}{H:Hp}{E:XK}{us:List WU}{vs:List V}
  (S:FnScope N ps scope)(hd:A.handled=none)(e0:uI P w K mg base A outer s H)(hl:vs.length=ps.length)(r:Vals vs us)
  (x:InCallC s s.heap.objs.size (bindL (envOfC qual scope s.heap.objs.size f cd).kindOf (ps.zip us) λ_=>none) (cellsFrom (s.heap.objs.size+1) scope.names []) (bindC (envOfC qual scope s.heap.objs.size f cd).kindOf (ps.zip us) λ_=>none) s1) :
  Inv (mz CX P w K mg base N qual scope f cd A outer s H E) [] (start N vs) H s1:=by
 have hpl:ps.length<=N.length:=by have:=congrArg List.length S.pre;rw[List.length_take] at this;omega
 obtain⟨h1,tk,rfl,hk⟩:=x.done
 have LM:∀b:WN,b∉(mz CX P w K mg base N qual scope f cd A outer s H E).ex:=λb z=>absurd (show b∈([]:List WN) from z) (by simp)
 refine⟨⟨e0.mod,S.kind,rfl,rfl,Nat.le_refl _,λy z c h1 h2=>?_,λy hy=>?_,λy c _ h=>?_,λ_=>hd,Around.frames_deeper e0.frames,.inr ⟨rfl,rfl⟩,λb z=>absurd z (LM b),e0.bs,e0.De,λb _ _=>LM b,λb z=>absurd z (LM b),e0.jb,e0.Dj⟩,
  rfl,e0.bare,Un.kept hk,⟨_,x.toInCall.ns,λi y v h1 h2 h3=>?_⟩,λy c h=>⟨_,x.cell y c h⟩,e0.hok.fresh (Nat.le_refl _),λy c h=>?_,λp hp=>absurd (show p∈([]:List (WN×Obj)) from hp) (by simp),e0.hok.kept hk,?_⟩
 ·exact name_of_addr x.apart (PySem.mem_of_lookup h1) (PySem.mem_of_lookup h2)
 ·have hy:scope.names.lookup y=some .cell\/scope.names.lookup y=some .free:=hy
  rcases hy with hy | hy
  ·exact rV hy
  ·exact absurd rfl (S.HH _ (PySem.mem_of_lookup hy))
 ·exact Nat.le_of_lt (x.above y c (PySem.mem_of_lookup h))
 ·have hi:i < vs.length:=by
   unfold start at h2
   by_cases hi:i < vs.length
   ·exact hi
   ·rw[List.getElem?_append_right (by simpa using hi)] at h2
    rw[List.getElem?_replicate] at h2
    split at h2<;>cases h2
  have ha:vs[i]? =some v:=by
   unfold start at h2
   rw[List.getElem?_append_left (by simpa using hi),List.getElem?_map] at h2
   cases e:vs[i]? with
   | none=>rw[e] at h2;cases h2
   | some a=>rw[e] at h2;cases h2;rfl
  obtain⟨u,hu,rv⟩:=r.get ha
  have hp:ps[i]? =some y:=by
   rw[<-S.pre,List.getElem?_take_of_lt (by omega)];exact h1
  have RU:ps.Nodup:=by rw[<-S.pre];exact S.nd.sublist (List.take_sublist _ _)
  refine⟨u,rv,?_⟩
  rcases S.par y (List.mem_of_getElem? hp) with k | k
  ·exact .inl ⟨k,pj RU hp hu k⟩
  ·obtain⟨c,e⟩:=rV (n:=s.heap.objs.size+1) k
   refine .inr ⟨.inl k,c,e,?_⟩
   have q:=x.cell y c e
   rw[pk RU hp hu (by show scope.names.lookup y≠_;rw[k];decide)] at q
   exact q
 ·exact e0.hok.fresh (Nat.le_of_lt (x.above y c (PySem.mem_of_lookup h)))
 ·unfold start
  show _=N.length
  rw[List.length_append,List.length_map,List.length_replicate]
  omega
theorem LN{CX:zw}{P:WS}{w:WV}{K:PySem.W.Frag}{mg:Str->Option WU}{base:Heap}{k:Nat}{f:WN}{name qual:Str}{params:Arguments}{body:List Stmt}{scope:Scope}{dV kV doc pm cdv ct oc:WU}{an od:Option WN}
  {osl:Array (Option WU)}{N ps:List Str}{sp:Sp}(lk:K.lookup f=some ⟨oc,od,.func (PySem.W.fnOf name qual params body scope dV kV doc pm an cdv ct),osl⟩)(hcd:PySem.W.codeIn K cdv qual=true)(S:FnScope N ps scope)
  (len:∀vs H Q E,sp vs H Q E->vs.length=ps.length)
  (hbody:∀(A:WO)(outer:List Env)(s:WT)(H:Hp)(vs:List V)(Q:VK)(E:XK),hX k (A.deeper (envOfC qual scope s.heap.objs.size f cdv))->sp vs H Q E->
   ∃t,zv (mz CX P w K mg base N qual scope f cdv A outer s H E) body t/\t { nx:=λ_ H'=>Q .aE H',rt:=Q } (start N vs) H) :
  FnOk P w K mg base CX (k+1) f (PySem.W.fnOf name qual params body scope dV kV doc pm an cdv ct) ps sp:=by
 refine⟨len,λA outer s H args us vs Q E hr e0 hb r DC=>?_⟩
 have hl:=len _ _ _ _ DC
 have KX:K.In s.heap:=e0.mod.G_.keeps λb o e=>(e0.bs b o e).1
 have lim:s.heap.NoLimit:=e0.mod.nolimit.keeps λb o e=>(e0.bs b o e).1
 have hkind:∀y∈ps.zip us,scope.names.lookup y.1=some .local\/(scope.names.lookup y.1=some .cell/\((cellsFrom (s.heap.objs.size+1) scope.names []).lookup y.1).isSome=true):=λ⟨n,v⟩ hy=>by
  rcases S.par n (List.of_mem_zip hy).1 with q | q
  ·exact .inl q
  ·exact .inr ⟨q,PySem.W.cellsFrom_some _ _ _ (.inl q)⟩
 refine codeAny_call_function hr.depth (KX _ _ lk) rfl S.co S.gen rfl (PySem.W.codeRec_of KX hcd) (hb _ _ _ _ ?_)
 refine wpAny_newFunctionEnv_cells S.kind hkind λenv he s1 x=>?_
 subst he
 refine⟨lim.keeps x.toInCall.keep,codeAny_func ?_⟩
 obtain⟨t,ht,hq⟩:=hbody A outer s H vs Q E (hr.deeper _) DC
 have I:Inv (mz CX P w K mg base N qual scope f cdv A outer s H E) [] (start N vs) H s1:=pq S hr.hd e0 hl r x
 refine Xa (ht [] s1 (start N vs) H _ I hq) (λfl s' hs=>?_) λe s' hs=>hs
 have fin:∀{σ':St}{H':Hp}{v:V}{u:WU},Inv (mz CX P w K mg base N qual scope f cdv A outer s H E) [] σ' H' s'->RelV v u->Q v H'->CE outer P w H s Q u s' :=
  λ{σ' H' v u} J rv q=>⟨v,H',J.os,J.bare,J.base,J.hok,rv,q⟩
 cases fl with
 | ret u=>
  obtain⟨v,σ',H',J,rv,q⟩:=hs
  exact fin J rv q
 | next=>
  obtain⟨σ',H',J,q⟩:=hs
  exact fin (v:=V.aE) (u:=Value.none) J rfl q
 | brk=>
  obtain⟨_,_,_,q⟩:=hs
  exact False.elim q
 | cont=>
  obtain⟨_,_,_,q⟩:=hs
  exact False.elim q
end L2
namespace L2
open PySem PySem.Spec PyProof.Rows
section
variable {X:Cx} {x:Str} {p pos:Pos} {e:Expr} {es:List Expr} {t:TA} {id T:String} {r:List V->Hp->VK->Prop}
def RV(r:List V->Hp->VK->Prop)(t:TA):TE:=λσ H Q=>t σ H λvs H1=>r vs H1 Q
theorem zY(hc:b_ X (.builtin id) r)(hg:Gl X x)(hm:X.mg x=none)(hv:WY x=some (.builtin id))(ha:PA X (e::es) t)(hn:x≠"__name__":=by decide)(hdb:(x == ("__debug__":Str))=false:=by decide)
  (he:W7 (e::es) X.env=(false,eval e X.env)::W7 es X.env:=by rfl)(hpl:(backTo pos (W7 es X.env)).any (·.1)=false:=by rfl):PE X (.Call (.Name x p) (e::es) [] pos) (RV r t):=by
 intro pins s σ H Q I h
 refine wpAny_Call_Name_kw (hV I hg hm hv ?_ hn hdb)
 exact PyProof.Rows.callWith_builtin1 (aI (ha pos pins s σ H _ I h) λus s1 ⟨vs,H1,I1,r1,q1⟩=>hc pins s1 σ H1 vs us Q I1 r1 q1) he hpl
theorem xV(hc:b_ X (.type T) r)(hg:Gl X x)(hm:X.mg x=none)(hv:WY x=some (.type T))(ha:PA X (e::es) t)(hn:x≠"__name__":=by decide)(hdb:(x == ("__debug__":Str))=false:=by decide)
  (he:W7 (e::es) X.env=(false,eval e X.env)::W7 es X.env:=by rfl)(hpl:(backTo pos (W7 es X.env)).any (·.1)=false:=by rfl):PE X (.Call (.Name x p) (e::es) [] pos) (RV r t):=by
 intro pins s σ H Q I h
 refine wpAny_Call_Name_kw (hV I hg hm hv ?_ hn hdb)
 exact PyProof.Rows.callWith_type1 (aI (ha pos pins s σ H _ I h) λus s1 ⟨vs,H1,I1,r1,q1⟩=>hc pins s1 σ H1 vs us Q I1 r1 q1) he hpl
end
end L2
namespace HT
open PySem PyProof.Rows
def lexLt:List Int->List Int->Bool
 | [],[]=>false
 | [],_::_=>true
 | _::_,[]=>false
 | x::xs,y::ys=>if x=y then lexLt xs ys else decide (x < y)
theorem uJ(x y:Int)(xs ys:List Int):lexLt (x::xs) (y::ys)=if x=y then lexLt xs ys else decide (x < y):=rfl
theorem oD:lexLt [] []=false:=rfl
theorem mB(y:Int)(ys:List Int):lexLt [] (y::ys)=true:=rfl
theorem mC(x:Int)(xs:List Int):lexLt (x::xs) []=false:=rfl
theorem zZ(A:WO)(s:WT)(a:Int)(t:Tok)(c:Int)(u:Tok):∃e,SeqAt.EqAt A s (.int a t) (.int c u) e/\(e=true↔a=c) :=
 ⟨(a == c),SeqAt.EqAt.int_int a t c u,by simp⟩
theorem z_(A:WO)(s:WT)(a:Int)(t:Tok)(c:Int)(u:Tok)(prog:WS)(w:WV)(E:WU->WT->Prop)(Q:WU->WT->Prop)(h:Q (.bool (decide (a < c))) s) :
  W8 (model prog w) A (richCompare .Lt (.int a t) (.int c u)) Q E s :=
 (PyProof.Rows.lt_int h:W8 (model prog w) A (W2 .Lt (.int a t) (.int c u)) Q E s)
section
open PySem.SeqAt
open PySem.AutoSeq1 (wpAny_loadPart')
open PySem.MeetsSeq PySem.MeetsSeq2 PySem.MeetsSeq3
theorem oE(l b:WN)(items items2:Array WU)(n n2:Nat)(dd dd2:Option WN)(sl sl2:Array (Option WU))(ns ms:List Int)(hi:IntsAre items.toList ns)(hj:IntsAre items2.toList ms) :
  Meets (Builtin.«tuple.__lt__» ⟨[.ref l,.ref b],[]⟩)
   (λ_ R s=>s.heap.get? l=some { cls:=.type "tuple",dict:=dd,data:=.seq items n,slots:=sl }/\s.heap.get? b=some { cls:=.type "tuple",dict:=dd2,data:=.seq items2 n2,slots:=sl2 }/\
    R (.ok (.ret (.bool (lexLt ns ms)))) s) :=
 .of_wp λprog w A R s h=>by
  obtain⟨hp,g,d,tk,os⟩:=s;obtain⟨hl,hb,h⟩:=h
  have f2:=AutoSeq1.sub_tuple_tuple
  have z1:items.size=ns.length:=by rw[<-hi.length];simp
  have z2:items2.size=ms.length:=by rw[<-hj.length];simp
  wp_walk using wpAny_loadPart' hl,wpAny_loadPart' hb,wpAny_forIn_list _ (λrest b s'=>b.1=none/\s'=⟨hp,g,d,tk,os⟩/\∃(vs ws:List WU)(ns' ms':List Int),rest=vs.zip ws/\
   IntsAre vs ns'/\IntsAre ws ms'/\ns'.length+items2.size=ms'.length+items.size/\R (.ok (.ret (.bool (lexLt ns' ms')))) ⟨hp,g,d,tk,os⟩) _
  case turn=>
   rintro⟨y,x⟩ rest b s' ⟨hb',rfl,vs,ws,ns',ms',hz,O9,hwi,hlen,hR⟩
   cases O9 with
   | nil=>rw[List.zip_nil_left] at hz;cases hz
   | cons a t O_=>
    cases hwi with
    | nil=>rw[List.zip_nil_right] at hz;cases hz
    | cons c u O'=>
     rw[List.zip_cons_cons] at hz
     injection hz with hyx hrest
     injection hyx with hy hx
     subst hy hx
     rw[uJ] at hR
     simp only[List.length_cons] at hlen
     obtain⟨e,he,hiff⟩:=zZ A.in1 ⟨hp,g,d,tk,os⟩ a t c u
     refine W9 (he prog w _ _ ?_)
     cases e with
     | true=>
      rw[if_pos (hiff.mp rfl)] at hR
      wp_walk
      exact⟨rfl,rfl,_,_,_,_,hrest,O_,O',by omega,hR⟩
     | false=>
      rw[if_neg (λq=>absurd (hiff.mpr q) Bool.false_ne_true)] at hR
      have TZ:=z_ A.in1 ⟨hp,g,d,tk,os⟩ a t c u prog w
      wp_walk using TZ
      exact⟨_,rfl,by simpa using hR⟩
  case fin=>
   rintro⟨b1,b2⟩ s' ⟨hb',rfl,vs,ws,ns',ms',hz,O9,hwi,hlen,hR⟩
   simp only at hb'
   subst hb'
   have hv:lexLt ns' ms'=decide (items.size < items2.size):=by
    cases O9 with
    | nil=>
     cases hwi with
     | nil=>
      simp only[List.length_nil] at hlen
      rw[oD]
      exact(decide_eq_false (by omega)).symm
     | cons c u hw=>
      simp only[List.length_nil,List.length_cons] at hlen
      rw[mB]
      exact(decide_eq_true (by omega)).symm
    | cons a t hv=>
     cases hwi with
     | nil=>
      simp only[List.length_nil,List.length_cons] at hlen
      rw[mC]
      exact(decide_eq_false (by omega)).symm
     | cons c u hw=>
      rw[List.zip_cons_cons] at hz
      cases hz
   rw[hv] at hR
   wp_walk
   exact⟨_,rfl,by simpa [Builtin.Tuple.tupleCompareSizes] using hR⟩
  case h=>
   exact⟨rfl,rfl,items.toList,items2.toList,ns,ms,rfl,hi,hj,by omega,h⟩
end
section
variable {prog:WS} {w:WV} {A:WO} {E:WU->WT->Prop} {s:WT}
theorem uK{l b:WN}{items items2:Array WU}{ns ms:List Int}{Q:WU->WT->Prop}(hl:IsTup s.heap l items)(hb:IsTup s.heap b items2)(hi:IntsAre items.toList ns)(hj:IntsAre items2.toList ms)
  (hu:A.units < cLine)(h:Q (.bool (lexLt ns ms)) s):W8 (model prog w) A (W2 .Lt (.ref l) (.ref b)) Q E s:=by
 obtain⟨⟨cls,dd,data,sl⟩,ho,hc,n,hd⟩:=id hl
 obtain⟨⟨LO,dd2,data2,sl2⟩,ho2,hc2,n2,hd2⟩:=id hb
 simp only at hc hd hc2 hd2
 subst hc hd hc2 hd2
 exact richCompare_meets_room (op:=.Lt) ⟨_,ho,rfl⟩ ⟨_,ho2,rfl⟩ PySem.F.slot_tuple_lt PySem.F.entry_tuple_lt (PySem.F.args_tuple_lt_2 _ _) (oE l b items items2 n n2 dd dd2 sl sl2 ns ms hi hj)
  ⟨ho,ho2,show Value.bool (lexLt ns ms)≠Value.notImplemented/\Q (.bool (lexLt ns ms)) s from⟨(λx=>nomatch x),h⟩⟩ hu
theorem DD{t b:WN}{vs ws:List WU}{Q:WU->WT->Prop}(ht:IsTup s.heap t vs.toArray)(hb:IsTup s.heap b ws.toArray)(hv:vs≠[])
  (h1:ws=[]->Q (.ref t) s)(h2:ws≠[]->Q (.ref s.heap.objs.size) { s with heap:=s.heap.push { cls:=.type "tuple",data:=.seq (vs++ws).toArray } })
  (hsz:vs.length+ws.length<=W6):W8 (model prog w) A (WX .Add (.ref t) (.ref b)) Q E s:=by
 obtain⟨⟨cls,dd,data,sl⟩,ho,hc,n,hd⟩:=id ht
 obtain⟨⟨LO,dd2,data2,sl2⟩,ho2,hc2,n2,hd2⟩:=id hb
 simp only at hc hd hc2 hd2
 subst hc hd hc2 hd2
 have e:vs.toArray++ws.toArray=(vs++ws).toArray:=by simp
 by_cases hw:ws=[]
 ·exact concat_meets ⟨_,ho,rfl⟩ ⟨_,ho2,rfl⟩ noFill_tuple_add seq_tuple_add PySem.F.slot_tuple_add PySem.F.entry_tuple_add (PySem.F.args_tuple_add_2 _ _)
   (tuple_addW1 t b vs.toArray ws.toArray n n2 dd dd2 sl sl2 (by simpa using hv) (by simp[hw])) ⟨ho,ho2,h1 hw⟩
 ·refine concat_meets ⟨_,ho,rfl⟩ ⟨_,ho2,rfl⟩ noFill_tuple_add seq_tuple_add PySem.F.slot_tuple_add PySem.F.entry_tuple_add (PySem.F.args_tuple_add_2 _ _)
   (tuple_addW2 t b vs.toArray ws.toArray n n2 dd dd2 sl sl2 (by simpa using hv) (by simpa using hw) (by rw[List.size_toArray,List.size_toArray];exact hsz)) ⟨ho,ho2,?_⟩
  rw[e]
  exact h2 hw
def bW(n d:Nat):Option Int->Nat
 | none=>d
 | some v=>if v < 0 then(v+(n:Int)).toNat else min v.toNat n
theorem DE(n d k:Nat):bW n d (some (k:Int))=min k n:=by
 show(if(k:Int) < 0 then((k:Int)+(n:Int)).toNat else min (k:Int).toNat n)=min k n
 rw[if_neg (by omega),Int.toNat_natCast]
theorem HJ(n d:Nat)(hd:d<=n)(o:Option Int):bW n d o<=n:=by
 cases o with
 | none=>exact hd
 | some v=>
  show(if v < 0 then(v+(n:Int)).toNat else min v.toNat n)<=n
  by_cases hv:v < 0
  ·rw[if_pos hv];omega
  ·rw[if_neg hv];exact Nat.min_le_right _ _
theorem we(v:Int)(n d:Nat):(if v < 0 then max (v+(n:Int)) 0 else min v (n:Int))=((bW n d (some v):Nat):Int):=by
 show(if v < 0 then max (v+(n:Int)) 0 else min v (n:Int))=(((if v < 0 then(v+(n:Int)).toNat else min v.toNat n):Nat):Int)
 by_cases hv:v < 0
 ·simp only[if_pos hv];omega
 ·simp only[if_neg hv];omega
theorem uL(lo hi:Option Int)(n:Nat):Builtin.Slice.sliceAdjust lo hi 1 (n:Int)=(((bW n 0 lo:Nat):Int),((bW n n hi:Nat):Int)):=by
 have h1:¬((1:Int) < 0):=by omega
 unfold Builtin.Slice.sliceAdjust
 simp only[h1,if_false]
 refine Prod.ext ?_ ?_
 ·cases lo with
  | none=>rfl
  | some v=>exact we v n 0
 ·cases hi with
  | none=>rfl
  | some v=>exact we v n n
theorem uM(i j:Nat):Builtin.Slice.slicePlaces (i:Int) (j:Int) 1=j - i:=by
 unfold Builtin.Slice.slicePlaces
 have h1:(1:Int) > 0:=by omega
 simp only[h1,if_true,Int.ediv_one]
 split<;>omega
theorem mE{v:WU}{o:Option Int}{Q:Option Int->WT->Prop}(p:IsPart v o)(h:Q o s):W8 (model prog w) A (Builtin.Slice.slicePartIndex v) Q E s:=by
 cases p with
 | none=>exact slicePart_none h
 | int i t=>exact slicePart_int h
theorem fU{sl:WN}{vl vu:WU}{lo hi:Option Int}{n:Nat}{Q:Int×Int×Nat->WT->Prop}(hs:s.heap.IsSliceOf sl vl vu .none)(pl:IsPart vl lo)(pu:IsPart vu hi)
  (h:Q (((bW n 0 lo:Nat):Int),1,bW n n hi - bW n 0 lo) s):W8 (model prog w) A (Builtin.Slice.sliceApplied (.ref sl) (pure (n:Int))) Q E s:=by
 obtain⟨os,hos,hcs,hds⟩:=id hs
 unfold Builtin.Slice.sliceApplied Builtin.Slice.sliceFields
 refine W9 (W9 (wpAny_field hos hds (x:=vl) rfl (W9 (wpAny_field hos hds (x:=vu) rfl (W9 (wpAny_field hos hds (x:=.none) rfl (Xe ?_)))))))
 refine W9 (slicePart_none ?_)
 show W8 _ _ (if((1:Int) == 0)=true then _ else _) _ _ s
 rw[if_neg (by decide)]
 refine W9 (mE pl (W9 (mE pu (W9 (Xe ?_)))))
 show W8 _ _ (match Builtin.Slice.sliceAdjust lo hi 1 (n:Int) with | (lo,hi)=>pure (lo,(1:Int),Builtin.Slice.slicePlaces lo hi 1)) _ _ s
 rw[uL lo hi n]
 show W8 _ _ (pure (((bW n 0 lo:Nat):Int),(1:Int),Builtin.Slice.slicePlaces ((bW n 0 lo:Nat):Int) ((bW n n hi:Nat):Int) 1)) _ _ s
 rw[uM]
 exact Xe h
theorem Aa(xs:Array WU)(i k:Nat):((List.range k).filterMap λ(m:Nat)=>xs[((i:Int)+(m:Int) * 1).toNat]?).toArray=((xs.toList.drop i).take k).toArray:=by
 have e:(λ(m:Nat)=>xs[((i:Int)+(m:Int) * 1).toNat]?)=λm=>xs[i+m]?:=by
  funext m
  have:((i:Int)+(m:Int) * 1).toNat=i+m:=by omega
  rw[this]
 rw[e]
 have:=pick_run xs i k
 rw[List.filterMap_map] at this
 have e2:((λx=>xs[x]?) ∘ λx=>i+x)=λm=>xs[i+m]?:=rfl
 rw[e2] at this
 rw[this]
theorem jB{t sl:WN}{items:Array WU}{vl vu:WU}{lo hi:Option Int}{Q:WU->WT->Prop}(ht:IsTup s.heap t items)(hs:s.heap.IsSliceOf sl vl vu .none)(pl:IsPart vl lo)(pu:IsPart vu hi)
  (hw:¬(bW items.size 0 lo=0/\bW items.size items.size hi=items.size))
  (h:Q (.ref s.heap.objs.size) { s with heap:=s.heap.push { cls:=.type "tuple",data:=.seq ((items.toList.drop (bW items.size 0 lo)).take (bW items.size items.size hi - bW items.size 0 lo)).toArray } })
  (hsz:items.size<=W6):W8 (model prog w) A (getItem (.ref t) (.ref sl)) Q E s:=by
 have wg:sizeOk (.seq ((items.toList.drop (bW items.size 0 lo)).take (bW items.size items.size hi - bW items.size 0 lo)).toArray):=by
  show((items.toList.drop (bW items.size 0 lo)).take (bW items.size items.size hi - bW items.size 0 lo)).toArray.size<=W6
  rw[List.size_toArray,List.length_take,List.length_drop,Array.length_toList]
  omega
 have hj:bW items.size items.size hi<=items.size:=HJ _ _ (Nat.le_refl _) hi
 obtain⟨os,hos,hcs,hds⟩:=id hs
 have T1:s.TypeIs (.ref sl) "slice":=⟨os,hos,hcs⟩
 unfold getItem
 try with_reducible refine W' ?_
 first | refine W9 (Xe ?_) | skip
 refine W9 (wpAny_sequenceKey ht.typeIs (by decide) ?_)
 refine W9 (wpAny_callSpecial?_slot (name:=Str.ofString "__getitem__") ht.typeIs PyProof.Rows.slot_tuple_getitem
  (wpAny_call_entry PyProof.Rows.slot_tuple_getitem ht.typeIs entry_tuple_getitem ?_ (args_tuple_getitem _ _)))
 show W8 _ _ (Builtin.Tuple.tupleItemsOf (.ref t) >>= _) _ _ s
 refine W9 (tupleItemsOf_ ht ?_)
 refine W9 (wpAny_typeOf T1 ?_)
 rw[if_pos (by decide)]
 refine W9 (fU hs pl pu ?_)
 have hno:¬((((bW items.size 0 lo:Nat):Int) == 0&&(1:Int) == 1&&(bW items.size items.size hi - bW items.size 0 lo) == items.size)=true):=by
  intro q
  rw[Bool.and_eq_true,Bool.and_eq_true] at q
  have q1:((bW items.size 0 lo:Nat):Int)=0:=eq_of_beq q.1.1
  have q2:bW items.size items.size hi - bW items.size 0 lo=items.size:=eq_of_beq q.2
  exact hw ⟨by omega,by omega⟩
 show W8 _ _ (if(((bW items.size 0 lo:Nat):Int) == 0&&(1:Int) == 1&&(bW items.size items.size hi - bW items.size 0 lo) == items.size)=true then _ else _) _ _ s
 rw[if_neg hno,Aa]
 first
  | exact W9 (m:=Builtin.Tuple.tupleExact _) (Xd (Xe ⟨_,rfl,Xe h⟩) wg)
  | exact W9 (m:=Builtin.Tuple.tupleExact _) (Xd (W9 (Xe (Xe ⟨_,rfl,Xe h⟩))) wg)
  | exact W9 (W9 (m:=Builtin.Tuple.tupleExact _) (Xd (Xe (Xe ⟨_,rfl,Xe h⟩)) wg))
  | exact W9 (W9 (m:=Builtin.Tuple.tupleExact _) (Xd (Xe ⟨_,rfl,Xe h⟩) wg))
end
end HT
namespace L2
open PySem PySem.Spec PyProof.Rows
abbrev TO:=St->Hp->(Option Int->Hp->Prop)->Prop
def PO(X:Cx)(e:Option Expr)(t:TO):Prop :=
 ∀(pins:List (WN×Obj))(s:WT)(σ:St)(H:Hp)(Q:Option Int->Hp->Prop),Inv X pins σ H s->t σ H Q->
  W8 (model X.prog X.w) X.A (evalPart e X.env) (λu s'=>∃o H',Inv X pins σ H' s'/\IsPart u o/\Q o H') X.xe s
def DF:TO:=λ_ H Q=>Q none H
def LP(t:TE):TO:=λσ H Q=>t σ H λx H1=>∃i,x= .int i/\Q (some i) H1
theorem intsAre_of{ns:List Int}:∀{us:List WU},Vals (ns.map V.int) us->IntsAre us ns:=by
 induction ns with
 | nil=>intro us r;rw[List.map_nil] at r;cases r;exact .nil
 | cons n ns ih=>
  intro us r
  rw[List.map_cons] at r
  cases r with
  | cons r1 r2=>
   obtain⟨t,e⟩:=r1
   subst e
   exact .cons n t (ih r2)
section
variable {X:Cx} {e:Expr} {te:TE} {lo hi:Option Expr} {tl th:TO} {pos p2:Pos}
theorem DG:PO X none DF:=by
 intro pins s σ H Q I h
 rw[evalPart_none]
 exact Xe ⟨none,H,I,.none,h⟩
theorem DH(h:PE X e te):PO X (some e) (LP te):=by
 intro pins s σ H Q I hw
 rw[evalPart_some]
 refine aI (h pins s σ H _ I hw) λu s1 ⟨x,H1,I1,r1,q1⟩=>?_
 obtain⟨i,rfl,q⟩:=q1
 obtain⟨t,rfl⟩:=r1
 exact⟨some i,H1,I1,.int i t,q⟩
def Df(X:Cx)(r:V->Option Int->Option Int->Hp->VK->Prop):Prop :=
 ∀(pins:List (WN×Obj))(s:WT)(σ:St)(H:Hp)(x:V)(v vl vu:WU)(lo hi:Option Int)(sl:WN)(Q:VK),Inv X pins σ H s->RelV x v->s.heap.IsSliceOf sl vl vu .none->IsPart vl lo->IsPart vu hi->r x lo hi H Q->
  ∃T id,typeLookup (.type T) "__getitem__"=pure (some (.builtin id))/\s.TypeIs v T/\W8 (model X.prog X.w) X.A (getItem v (.ref sl)) (EP X pins σ Q) X.xe s
theorem Df.or{r r':V->Option Int->Option Int->Hp->VK->Prop}(h:Df X r)(h':Df X r'):Df X (λx lo hi H Q=>r x lo hi H Q\/r' x lo hi H Q):=by
 intro pins s σ H x v vl vu lo hi sl Q I rx hs pl pu q
 rcases q with q | q
 ·exact h pins s σ H x v vl vu lo hi sl Q I rx hs pl pu q
 ·exact h' pins s σ H x v vl vu lo hi sl Q I rx hs pl pu q
def T2(r:V->Option Int->Option Int->Hp->VK->Prop)(te:TE)(tl th:TO):TE:=λσ H Q=>te σ H λx H1=>tl σ H1 λl H2=>th σ H2 λu H3=>r x l u H3 Q
theorem mF{r:V->Option Int->Option Int->Hp->VK->Prop}(hr:Df X r)(he:PE X e te)(hl:PO X lo tl)(hu:PO X hi th):PE X (.Subscript e (.Slice lo hi none p2) pos) (T2 r te tl th):=by
 intro pins s σ H Q I h
 refine Subscript_ (aI (he pins s σ H _ I h) λv s1 ⟨x,H1,I1,r1,q1⟩=>?_)
 refine wpAny_Slice (aI (hl pins s1 σ H1 _ I1 q1) λvl s2 ⟨l,H2,I2,pl,q2⟩=>aI (hu pins s2 σ H2 _ I2 q2) λvu s3 ⟨u,H3,I3,pu,q3⟩=>?_)
 rw[evalPart_none]
 refine Xe ?_
 have I4:Inv X pins σ H3 { s3 with heap:=s3.heap.push { cls:=.type "slice",data:=.fields #[vl,vu,.none] } }:=I3.kept (t':=s3.toks) λb ob q=>Heap.get?_push_of_some _ q
 obtain⟨T,id,hT,ht,hg⟩:=hr pins { s3 with heap:=s3.heap.push { cls:=.type "slice",data:=.fields #[vl,vu,.none] } } σ H3 x v vl vu l u s3.heap.objs.size Q I4 r1 (Heap.IsSliceOf.new ..) pl pu q3
 show W8 (model X.prog X.w) X.A (subscriptTail e (.Slice lo hi none p2) v (.ref s3.heap.objs.size)) (EP X pins σ Q) X.xe { s3 with heap:=s3.heap.push { cls:=.type "slice",data:=.fields #[vl,vu,.none] } }
 exact tail_any (ops:=[.ref s3.heap.objs.size,v]) ht hT hg (by with_unfolding_all rfl)
def oF(xs:List V)(lo hi:Option Int):List V:=(xs.drop (HT.bW xs.length 0 lo)).take (HT.bW xs.length xs.length hi - HT.bW xs.length 0 lo)
theorem kT(xs:List V)(lo hi:Option Int):(oF xs lo hi).length<=xs.length:=by
 unfold oF
 rw[List.length_take,List.length_drop]
 omega
def Pa(K:PySem.W.Frag):V->Option Int->Option Int->Hp->VK->Prop:=λx lo hi H Q=>∃a xs,x= .ref a/\dS K H a xs/\
 ¬(HT.bW xs.length 0 lo=0/\HT.bW xs.length xs.length hi=xs.length)/\∀p,H p=none->Q (.ref p) (upd H p (.tup (oF xs lo hi)))
theorem Ab:Df X (Pa X.K):=by
 intro pins s σ H x v vl vu lo hi sl Q I rx hs pl pu h
 obtain⟨a,xs,rfl,hx,hw,q⟩:=h
 cases rx
 obtain⟨its,r,ht,hz⟩:=I.tuple hx
 have hlen:its.toArray.size=xs.length:=by rw[List.size_toArray];exact r.length.symm
 refine⟨"tuple",_,PyProof.Rows.slot_tuple_getitem.lookup,ht.typeIs,?_⟩
 refine HT.jB ht hs pl pu (by rw[hlen];exact hw) ?_ (by rw[hlen];exact hz)
 rw[hlen]
 refine⟨.ref s.heap.objs.size,_,I.laid (t':=s.toks) (o:=.tup (oF xs lo hi)) (λb ob q=>Heap.get?_push_of_some _ q) (Nat.le_refl _) ?_,rfl,q _ (I.hok.fresh (Nat.le_refl _))⟩
 exact⟨Nat.le_trans (kT xs lo hi) hz,_,(r.drop (HT.bW xs.length 0 lo)).take (HT.bW xs.length xs.length hi - HT.bW xs.length 0 lo),IsTup.new _ _,xJ.new _ _⟩
def Pb(K:PySem.W.Frag):R2:=λx y H Q=>∃a b ns ms,x= .ref a/\y= .ref b/\dS K H a (ns.map V.int)/\dS K H b (ms.map V.int)/\Q (.bl (HT.lexLt ns ms)) H
theorem Pc(hu:X.A.units < cLine):cH X (W2 .Lt) (Pb X.K):=by
 intro pins s σ H x y v u Q I rx ry h
 obtain⟨a,b,ns,ms,rfl,rfl,ha,hb,q⟩:=h
 cases rx
 cases ry
 obtain⟨its,r1,p1,_⟩:=I.tuple ha
 obtain⟨its2,r2,p2,_⟩:=I.tuple hb
 have i1:IntsAre its.toArray.toList ns:=intsAre_of r1
 have i2:IntsAre its2.toArray.toList ms:=intsAre_of r2
 exact HT.uK p1 p2 i1 i2 hu ⟨.bl (HT.lexLt ns ms),H,I,rfl,q⟩
def LQ(K:PySem.W.Frag):R2:=λx y H Q=>∃a b xs ys,x= .ref a/\y= .ref b/\dS K H a xs/\dS K H b ys/\xs≠[]/\xs.length+ys.length<=W6/\
 (ys=[]->Q (.ref a) H)/\(ys≠[]->∀p,H p=none->Q (.ref p) (upd H p (.tup (xs++ys))))
theorem Vals.qk{xs:List V}{us:List WU}(r:Vals xs us):us=[]↔xs=[]:=by
 cases r with
 | nil=>simp
 | cons _ _=>simp
theorem DI:cH X (WX .Add) (LQ X.K):=by
 intro pins s σ H x y v u Q I rx ry h
 obtain⟨a,b,xs,ys,rfl,rfl,ha,hb,hx,hz,q1,q2⟩:=h
 cases rx
 cases ry
 obtain⟨its,r1,p1,_⟩:=I.tuple ha
 obtain⟨its2,r2,p2,_⟩:=I.tuple hb
 refine HT.DD p1 p2 (λz=>hx (r1.qk.mp z)) (λz=>⟨.ref a,H,I,rfl,q1 (r2.qk.mp z)⟩) (λz=>?_) (by rw[<-r1.length,<-r2.length];exact hz)
 refine⟨.ref s.heap.objs.size,_,I.laid (t':=s.toks) (o:=.tup (xs++ys)) (λb ob q=>Heap.get?_push_of_some _ q) (Nat.le_refl _) ?_,rfl,q2 (λw=>z (r2.qk.mpr w)) _ (I.hok.fresh (Nat.le_refl _))⟩
 exact⟨by rw[List.length_append];exact hz,_,r1.append r2,IsTup.new _ _,xJ.new _ _⟩
end
end L2
namespace L2
open PySem PySem.Spec PyProof.Rows
def xW(n:Nat)(i:Int):Option Nat:=if 0<=i then(if i < n then some i.toNat else none) else if -(n:Int)<=i then some (i+n).toNat else none
def kU{α:Type}(xs:List α)(i:Int):Option α:=(xW xs.length i).bind λj=>xs[j]?
theorem wj{n:Nat}{i:Int}{j:Nat}(h:xW n i=some j):seqIndex? i n=some j/\j < n/\-(n:Int)<=i/\i < n:=by
 unfold xW at h
 by_cases h0:0<=i
 ·rw[if_pos h0] at h
  by_cases h1:i < n
  ·rw[if_pos h1] at h
   have e:i.toNat=j:=Option.some.inj h
   exact⟨by rw[seqIndex_of h0 h1,e],by omega,by omega,h1⟩
  ·rw[if_neg h1] at h;cases h
 ·rw[if_neg h0] at h
  by_cases h1:-(n:Int)<=i
  ·rw[if_pos h1] at h
   have e:(i+n).toNat=j:=Option.some.inj h
   exact⟨by rw[seqIndex_neg (by omega) h1,e],by omega,h1,by omega⟩
  ·rw[if_neg h1] at h;cases h
theorem lR{α:Type}{xs:List α}{i:Int}{v:α}(h:kU xs i=some v):∃j,seqIndex? i xs.length=some j/\xs[j]? =some v/\j < xs.length/\-(xs.length:Int)<=i/\i < xs.length:=by
 unfold kU at h
 cases e:xW xs.length i with
 | none=>rw[e] at h;cases h
 | some j=>
  rw[e] at h
  obtain⟨h1,h2,h3,h4⟩:=wj e
  exact⟨j,h1,h,h2,h3,h4⟩
theorem lS{α:Type}{xs:List α}{j:Nat}{v:α}(h:xs[j]? =some v):kU xs (j:Int)=some v:=by
 have hj:j < xs.length:=(List.getElem?_eq_some_iff.mp h).1
 have e:xW xs.length (j:Int)=some j:=by
  unfold xW
  rw[if_pos (by omega),if_pos (by omega)];simp
 unfold kU;rw[e];exact h
def wk(b:Expr):Prop:=∀o i,subscripted b false o i=operate [o,i] (getItem o i)
def DJ(X:Cx)(r:R2):Prop :=
 ∀(value slice:Expr)(pins:List (WN×Obj))(s:WT)(σ:St)(H:Hp)(x y:V)(v u:WU)(Q:VK),Inv X pins σ H s->RelV x v->RelV y u->r x y H Q->
  subscripted slice false v u=operate [v,u] (getItem v u)->W8 (model X.prog X.w) X.A (subscriptTail value slice v u) (EP X pins σ Q) X.xe s
def Pe(X:Cx)(id:String)(r:V->List V->Hp->VK->Prop):Prop :=
 ∀(pins:List (WN×Obj))(s:WT)(σ:St)(H:Hp)(x:V)(xs:List V)(v:WU)(us:List WU)(Q:VK),Inv X pins σ H s->RelV x v->Vals xs us->r x xs H Q->
  W8 (model X.prog X.w) X.A (call (.builtin id) (v::us)) (EP X pins σ Q) X.xe s
section
variable {X:Cx} {a b:Expr} {ta tb:TE} {pos:Pos}
theorem DJ.or{r r':R2}(h:DJ X r)(h':DJ X r'):DJ X (λx y H Q=>r x y H Q\/r' x y H Q):=by
 intro value slice pins s σ H x y v u Q I rx ry q hs
 rcases q with q | q
 ·exact h value slice pins s σ H x y v u Q I rx ry q hs
 ·exact h' value slice pins s σ H x y v u Q I rx ry q hs
theorem LR{r:R2}(hr:DJ X r)(ha:PE X a ta)(hb:PE X b tb)(hs:wk b):PE X (.Subscript a b pos) (Lz r ta tb):=by
 intro pins s σ H Q I h
 exact Subscript_ (Hx ha hb I h λv u s2 x y H2 I2 rx ry q=>hr a b pins s2 σ H2 x y v u Q I2 rx ry q (hs _ _))
def LS(K:PySem.W.Frag):R2:=λx y H Q=>∃p xs i v,x= .ref p/\y= .int i/\gZ K H p xs/\kU xs i=some v/\Q v H
def LU(K:PySem.W.Frag):R2:=λx y H Q=>∃p xs i v,x= .ref p/\y= .int i/\dS K H p xs/\kU xs i=some v/\Q v H
def LV:R2:=λx y H Q=>∃z i c,x= .str z/\y= .int i/\z.length<=W6/\kU z.cps.toList i=some c/\Q (.str ⟨#[c]⟩) H
theorem DK:DJ X (LS X.K):=by
 intro value slice pins s σ H x y v u Q I rx ry h hs
 obtain⟨p,xs,i,z,rfl,rfl,hq,he,q⟩:=h
 cases rx
 obtain⟨t,rfl⟩:=ry
 obtain⟨its,r,pl,hz⟩:=I.list hq
 obtain⟨j,h1,h2,h3,h4,h5⟩:=lR he
 obtain⟨w,ew,rw'⟩:=r.get h2
 have hl:=r.length
 have hn:=jc
 have fin:EP X pins σ Q w s:=⟨z,H,I,rw',q⟩
 by_cases h0:0<=i
 ·have hj:i.toNat=j:=by
   rw[seqIndex_of h0 h5] at h1
   exact Option.some.inj h1
  exact item_listR pl.isList h0 (by omega) (by rw[hj];simpa using ew) fin hs
 ·have hj:(i+(its.toArray.size:Int)).toNat=j:=by
   rw[seqIndex_neg (by omega) h4] at h1
   rw[List.size_toArray,<-hl]
   exact Option.some.inj h1
  exact subscriptTail_builtinR (x:=w) pl.isList.typeIs slot_list_getitem.lookup
   (wpAny_getItem_list_neg (Q:=λr s'=>r=w/\EP X pins σ Q r s') pl.isList (by omega) (by rw[List.size_toArray]<;>omega) (by omega) (by rw[hj];simpa using ew) ⟨rfl,fin⟩) hs
theorem HK:DJ X (LU X.K):=by
 intro value slice pins s σ H x y v u Q I rx ry h hs
 obtain⟨p,xs,i,z,rfl,rfl,hq,he,q⟩:=h
 cases rx
 obtain⟨t,rfl⟩:=ry
 obtain⟨its,r,pl,hz⟩:=I.tuple hq
 obtain⟨j,h1,h2,h3,h4,h5⟩:=lR he
 obtain⟨w,ew,rw'⟩:=r.get h2
 have hl:=r.length
 have hn:=jc
 have fin:EP X pins σ Q w s:=⟨z,H,I,rw',q⟩
 exact subscriptTail_builtinR (x:=w) pl.typeIs slot_tuple_getitem.lookup
  (getItem_tuple (j:=j) (Q:=λr s'=>r=w/\EP X pins σ Q r s') pl (by omega) (by omega) (by rw[List.size_toArray,<-hl];exact h1) (by simpa using ew) ⟨rfl,fin⟩) hs
theorem HL:DJ X LV:=by
 intro value slice pins s σ H x y v u Q I rx ry h hs
 obtain⟨z,i,c,rfl,rfl,hz,he,q⟩:=h
 obtain⟨t,rfl⟩:=rx
 obtain⟨t',rfl⟩:=ry
 obtain⟨j,h1,h2,h3,h4,h5⟩:=lR he
 have hl:z.cps.toList.length=z.length:=by simp[Str.length]
 rw[hl] at h1 h4 h5
 have hn:=jc
 exact tail_any (typeIs_str s z t) slot_str_getitem.lookup (getItem_str (c:=c) (by
  have e1:decide (i < -(2 ^ 63:Int))=false:=decide_eq_false (by omega)
  have e2:decide (i >= 2 ^ 63)=false:=decide_eq_false (by omega)
  rw[e1,e2,Bool.or_false]) (by rw[h1];simpa using h2) ⟨.str ⟨#[c]⟩,H,I.tok _,⟨_,rfl⟩,q⟩) hs
def RW(K:PySem.W.Frag):R2:=λx y H Q=>LS K x y H Q\/LU K x y H Q\/LV x y H Q
theorem HM:DJ X (RW X.K):=DK.or (HK.or HL)
theorem uN(its:List WU)(n j:Nat)(u:WU):Obj.mapSeq (·.setIfInBounds j u) { cls:=.type "list",data:=.seq its.toArray n }={ cls:=.type "list",data:=.seq (its.set j u).toArray n }:=by
 simp[Obj.mapSeq]
theorem Inv.lst{pins:List (WN×Obj)}{σ:St}{H:Hp}{s:WT}{p:WN}{xs:List V}(I:Inv X pins σ H s)(h:H p=some (.lst xs)) :
  ∃(its:List WU)(n:Nat),Vals xs its/\s.heap.get? p=some { cls:=.type "list",data:=.seq its.toArray n }/\xs.length<=W6:=by
 obtain⟨z,its,n,r,e⟩:=I.hok p _ h
 exact⟨its,n,r,e,z⟩
theorem Inv.HN{pins:List (WN×Obj)}{σ:St}{H:Hp}{s:WT}{p:WN}{xs ys:List V}{its its':List WU}{n n':Nat}{f:Obj->Obj}(I:Inv X pins σ H s)(h:H p=some (.lst xs))
  (ho:s.heap.get? p=some { cls:=.type "list",data:=.seq its.toArray n })(hf:f { cls:=.type "list",data:=.seq its.toArray n }={ cls:=.type "list",data:=.seq its'.toArray n' })(r:Vals ys its')(hz:ys.length<=W6)(t:Nat) :
  Inv X pins σ (upd H p (.lst ys)) { s with heap:=s.heap.update p f,toks:=t }:=by
 have e:(s.heap.update p f).get? p=some { cls:=.type "list",data:=.seq its'.toArray n' }:=by
  rw[Heap.get?_update_self f ho (by rw[hf]<;>rfl),hf]
 refine I.write (x:=p) (e:=p) (by rw[h];trivial) (.inl rfl) (λb u hb q=>(Heap.get?_update_other _ _ (Ne.symm hb)).trans q) ⟨_,e⟩ ?_
 exact⟨hz,its',n',r,e⟩
def LW:V->V->V->Hp->(Hp->Prop)->Prop:=λo i v H Q=>∃p xs k j,o= .ref p/\i= .int k/\H p=some (.lst xs)/\xW xs.length k=some j/\Q (upd H p (.lst (xs.set j v)))
theorem set_list:Lw X LW:=by
 intro pins s σ H o i v ov iv u Q I ro ri rv h
 obtain⟨p,xs,k,j,rfl,rfl,hp,hj,q⟩:=h
 cases ro
 obtain⟨t,rfl⟩:=ri
 obtain⟨its,n,r,ho,hz⟩:=I.lst hp
 obtain⟨h1,h2,h3,h4⟩:=wj hj
 have hl:=r.length
 have hn:=jc
 have I':Inv X pins σ (upd H p (.lst (xs.set j v))) { s with heap:=s.heap.update p (Obj.mapSeq (·.setIfInBounds j u)) } :=
  I.HN hp ho (uN its n j u) (r.set rv j) (by rw[List.length_set];exact hz) s.toks
 by_cases h0:0<=k
 ·have hk:k.toNat=j:=by
   rw[seqIndex_of h0 h4] at h1
   exact Option.some.inj h1
  exact PySem.W.ki_setAt ho h0 (by omega) (by rw[List.size_toArray,<-hl];exact h4) (by rw[hk];exact⟨_,I',q⟩)
 ·have hk:(k+(its.toArray.size:Int)).toNat=j:=by
   rw[seqIndex_neg (by omega) h3] at h1
   rw[List.size_toArray,<-hl]
   exact Option.some.inj h1
  exact PySem.W.ki_setBack ho (by omega) (by rw[List.size_toArray,<-hl];exact h3) (by omega) (by rw[hk];exact⟨_,I',q⟩)
theorem ql(lo hi:Option Int)(n:Nat):(sliceBounds lo hi none n).1=((HT.bW n 0 lo:Nat):Int)/\(sliceBounds lo hi none n).2.1=((HT.bW n n hi:Nat):Int)/\(sliceBounds lo hi none n).2.2=1:=by
 refine⟨?_,?_,rfl⟩
 ·cases lo with
  | none=>simp[sliceBounds,HT.bW]
  | some i=>
   simp only[sliceBounds,HT.bW,Option.getD_none,show(1:Int) > 0 by decide,if_true]
   by_cases h:i < 0
   ·simp only[h,if_true]<;>omega
   ·simp only[h,if_false]<;>omega
 ·cases hi with
  | none=>simp[sliceBounds,HT.bW]
  | some i=>
   simp only[sliceBounds,HT.bW,Option.getD_none,show(1:Int) > 0 by decide,if_true]
   by_cases h:i < 0
   ·simp only[h,if_true]<;>omega
   ·simp only[h,if_false]<;>omega
theorem oG(its:List WU)(lo hi:Option Int):slicePick its.toArray lo hi none=((its.drop (HT.bW its.length 0 lo)).take (HT.bW its.length its.length hi - HT.bW its.length 0 lo)).toArray:=by
 obtain⟨h1,h2,h3⟩:=ql lo hi its.toArray.size
 unfold slicePick
 rw[h1,h2,h3]
 simp only[sliceRange_one,pick_run,List.size_toArray]<;>rfl
def Pf(K:PySem.W.Frag):V->Option Int->Option Int->Hp->VK->Prop:=λx lo hi H Q=>∃a xs,x= .ref a/\gZ K H a xs/\∀p,H p=none->Q (.ref p) (upd H p (.lst (oF xs lo hi)))
theorem DL:Df X (Pf X.K):=by
 intro pins s σ H x v vl vu lo hi sl Q I rx hs pl pu h
 obtain⟨a,xs,rfl,hx,q⟩:=h
 cases rx
 obtain⟨its,r,ht,hz⟩:=I.list hx
 have hlen:=r.length
 refine⟨"list",_,slot_list_getitem.lookup,ht.isList.typeIs,?_⟩
 refine wpAny_getItem_list_slice ht.isList hs pl pu .none (by simp) ?_ (by rw[List.size_toArray]<;>omega)
 rw[oG,<-hlen]
 refine⟨.ref s.heap.objs.size,_,I.laid (t':=s.toks) (o:=.lst (oF xs lo hi)) (λb ob q=>Heap.get?_push_of_some _ q) (Nat.le_refl _) ?_,rfl,q _ (I.hok.fresh (Nat.le_refl _))⟩
 exact⟨Nat.le_trans (kT xs lo hi) hz,_,0,(r.drop (HT.bW xs.length 0 lo)).take (HT.bW xs.length xs.length hi - HT.bW xs.length 0 lo),Heap.get?_push_size _ rfl⟩
def iY:V->Bool
 | .aE=>true
 | .bl _=>true
 | .int _=>true
 | .str _=>true
 | _=>false
def DM:V->V->Bool
 | .aE,.aE=>true
 | .bl a,.bl b=>a == b
 | .bl a,.int b=>(if a then 1 else 0) == b
 | .int a,.bl b=>a == (if b then 1 else 0)
 | .int a,.int b=>a == b
 | .str a,.str b=>a == b
 | _,_=>false
theorem HP{A:WO}{s:WT}{y x:V}{u v:WU}(ry:RelV y u)(rx:RelV x v)(fy:iY y=true)(fx:iY x=true):SeqAt.EqAt A s u v (DM y x):=by
 cases y with
 | aE=>
  cases ry
  cases x with
  | aE=>cases rx;exact SeqAt.EqAt.same _
  | bl b=>cases rx;exact SeqAt.EqAt.none_bool b
  | int b=>obtain⟨t,rfl⟩:=rx;exact SeqAt.EqAt.none_int b t
  | str b=>obtain⟨t,rfl⟩:=rx;exact SeqAt.EqAt.none_str b t
  | _=>exact absurd (show false=true from fx) Bool.false_ne_true
 | bl a=>
  cases ry
  cases x with
  | aE=>cases rx;exact SeqAt.EqAt.bool_none a
  | bl b=>cases rx;exact SeqAt.EqAt.bool_bool a b
  | int b=>obtain⟨t,rfl⟩:=rx;exact SeqAt.EqAt.bool_int a b t
  | str b=>obtain⟨t,rfl⟩:=rx;exact SeqAt.EqAt.bool_str a b t
  | _=>exact absurd (show false=true from fx) Bool.false_ne_true
 | int a=>
  obtain⟨t',rfl⟩:=ry
  cases x with
  | aE=>cases rx;exact SeqAt.EqAt.int_none a t'
  | bl b=>cases rx;exact SeqAt.EqAt.int_bool a t' b
  | int b=>obtain⟨t,rfl⟩:=rx;exact SeqAt.EqAt.int_int a t' b t
  | str b=>obtain⟨t,rfl⟩:=rx;exact SeqAt.EqAt.int_str a t' b t
  | _=>exact absurd (show false=true from fx) Bool.false_ne_true
 | str a=>
  obtain⟨t',rfl⟩:=ry
  cases x with
  | aE=>cases rx;exact SeqAt.EqAt.str_none a t'
  | bl b=>cases rx;exact SeqAt.EqAt.str_bool a t' b
  | int b=>obtain⟨t,rfl⟩:=rx;exact SeqAt.EqAt.str_int a t' b t
  | str b=>obtain⟨t,rfl⟩:=rx;exact SeqAt.EqAt.str_str a t' b t
  | _=>exact absurd (show false=true from fx) Bool.false_ne_true
 | _=>exact absurd (show false=true from fy) Bool.false_ne_true
def uO(x:V)(u:WU):Bool:=match u with
 | .none=>DM .aE x
 | .bool b=>DM (.bl b) x
 | .int i _=>DM (.int i) x
 | .str z _=>DM (.str z) x
 | _=>false
theorem Ac{x y:V}{u:WU}(r:RelV y u)(f:iY y=true):uO x u=DM y x:=by
 cases y with
 | aE=>cases r;rfl
 | bl b=>cases r;rfl
 | int i=>obtain⟨t,rfl⟩:=r;rfl
 | str z=>obtain⟨t,rfl⟩:=r;rfl
 | _=>exact absurd (show false=true from f) Bool.false_ne_true
theorem jC{x:V}:∀{xs:List V}{us:List WU},Vals xs us->xs.all iY=true->us.any (uO x)=xs.any λy=>DM y x
 | _,_,.nil,_=>rfl
 | y::xs,u::us,.cons r t,f=>by
  rw[List.all_cons,Bool.and_eq_true] at f
  rw[List.any_cons,List.any_cons,Ac r f.1,jC t f.2]
theorem hZ{A:WO}{s:WT}{x:V}{v:WU}(rx:RelV x v)(fx:iY x=true):∀{xs:List V}{us:List WU},Vals xs us->xs.all iY=true->∀u∈us,SeqAt.EqAt A s u v (uO x u)
 | _,_,.nil,_=>λu hu=>by cases hu
 | y::xs,u::us,.cons r t,f=>λu' hu=>by
  rw[List.all_cons,Bool.and_eq_true] at f
  rcases List.mem_cons.mp hu with rfl | hu
  ·rw[Ac r f.1];exact HP r rx f.1 fx
  ·exact hZ rx fx t f.2 u' hu
def NO(x:V)(xs:List V):Bool:=xs.any λy=>DM y x
def RX(K:PySem.W.Frag)(neg:Bool):R2:=λx y H Q=>∃p xs,y= .ref p/\(gZ K H p xs\/dS K H p xs)/\iY x=true/\xs.all iY=true/\Q (.bl (if neg then !NO x xs else NO x xs)) H
theorem xX:cH X (W2 .In) (RX X.K false):=by
 intro pins s σ H x y v u Q I rx ry h
 obtain⟨p,xs,rfl,hq,fx,fs,q⟩:=h
 cases ry
 rcases hq with hq | hq
 ·obtain⟨its,r,pl,hz⟩:=I.list hq
  refine SeqAt.in_listAt (uO x) pl.isList (λw hw=>hZ rx fx r fs w (by simpa using hw)) ⟨.bl _,H,I,rfl,?_⟩
  rw[show its.toArray.any (uO x)=its.any (uO x) by simp,jC r fs]
  exact q
 ·obtain⟨its,r,pl,hz⟩:=I.tuple hq
  refine SeqAt.in_tupleAt (uO x) pl (λw hw=>hZ rx fx r fs w (by simpa using hw)) ⟨.bl _,H,I,rfl,?_⟩
  rw[show its.toArray.any (uO x)=its.any (uO x) by simp,jC r fs]
  exact q
theorem qm:cH X (W2 .NotIn) (RX X.K true):=by
 intro pins s σ H x y v u Q I rx ry h
 obtain⟨p,xs,rfl,hq,fx,fs,q⟩:=h
 cases ry
 rcases hq with hq | hq
 ·obtain⟨its,r,pl,hz⟩:=I.list hq
  refine SeqAt.notIn_listAt (uO x) pl.isList (λw hw=>hZ rx fx r fs w (by simpa using hw)) ⟨.bl _,H,I,rfl,?_⟩
  rw[show its.toArray.any (uO x)=its.any (uO x) by simp,jC r fs]
  exact q
 ·obtain⟨its,r,pl,hz⟩:=I.tuple hq
  refine SeqAt.notIn_tupleAt (uO x) pl (λw hw=>hZ rx fx r fs w (by simpa using hw)) ⟨.bl _,H,I,rfl,?_⟩
  rw[show its.toArray.any (uO x)=its.any (uO x) by simp,jC r fs]
  exact q
theorem qo:cH X (W2 .NotIn) (λx y H Q=>∃i j,x= .str i/\y= .str j/\Q (.bl (!(!(Builtin.Str.occurrences j i 0 j.length 1).isEmpty))) H):=by
 intro pins s σ H x y v u Q I rx ry h
 obtain⟨i,j,rfl,rfl,q⟩:=h
 obtain⟨t,rfl⟩:=rx
 obtain⟨t',rfl⟩:=ry
 exact notIn_str ⟨.bl _,H,I,rfl,q⟩
theorem qp:b_ X (.builtin "len") (λxs H Q=>∃p ys,xs=[.ref p]/\(gZ X.K H p ys\/dS X.K H p ys)/\Q (.int ys.length) H):=by
 intro pins s σ H xs us Q I r h
 obtain⟨p,ys,rfl,hq,q⟩:=h
 obtain⟨u,rfl,rx⟩:=vals1 r
 cases rx
 have hn:=jc
 rcases hq with hq | hq
 ·obtain⟨its,r',pl,hz⟩:=I.list hq
  have hlen:=r'.length
  exact Calls.call_len_list pl.isList (by simp only[List.size_toArray]<;>omega) ⟨.int ys.length,H,I.tok _,⟨s.toks+1,by rw[List.size_toArray,hlen]⟩,q⟩
 ·obtain⟨its,r',pl,hz⟩:=I.tuple hq
  have hlen:=r'.length
  exact len_tuple pl (by simp only[List.size_toArray]<;>omega) ⟨.int ys.length,H,I.tok _,⟨s.toks+1,by rw[List.size_toArray,hlen]⟩,q⟩
theorem qq:b_ X (.builtin "len") (λxs H Q=>∃z,xs=[.str z]/\z.length<=W6/\Q (.int z.length) H):=by
 intro pins s σ H xs us Q I r h
 obtain⟨z,rfl,hz,q⟩:=h
 obtain⟨u,rfl,t,rfl⟩:=vals1 r
 have hn:=jc
 exact len_str (by omega) ⟨.int z.length,H,I.tok _,⟨_,rfl⟩,q⟩
theorem b_.or{f:WU}{r r':List V->Hp->VK->Prop}(h:b_ X f r)(h':b_ X f r'):b_ X f (λxs H Q=>r xs H Q\/r' xs H Q):=by
 intro pins s σ H xs us Q I rs q
 rcases q with q | q
 ·exact h pins s σ H xs us Q I rs q
 ·exact h' pins s σ H xs us Q I rs q
def RY(K:PySem.W.Frag)(T:String)(x:V)(H:Hp):Prop:=match x with
 | .str _=>T="str"
 | .int _=>T="int"
 | .ref p=>(T="list"/\∃xs,gZ K H p xs)\/(T="tuple"/\((∃o,K.lookup p=some o/\o.cls= .type "tuple"/\o.dict=none)\/∃xs,H p=some (.tup xs)))\/
   (T="dict"/\((∃kvs,H p=some (.dK kvs))\/∃kvs,H p=some (.dT kvs)))\/(T="set"/\∃S n,H p=some (.set S n))
 | _=>False
theorem HQ{pins:List (WN×Obj)}{σ:St}{H:Hp}{s:WT}{T:String}{x:V}{v:WU}(I:Inv X pins σ H s)(r:RelV x v)(ty:RY X.K T x H) :
  s.TypeIs v T/\∀a,v= .ref a->∃ob,s.heap.get? a=some ob/\ob.dict=none:=by
 cases x with
 | str z=>
  obtain⟨t,rfl⟩:=r
  cases (show T="str" from ty)
  exact⟨typeIs_str s z t,λ_ e=>nomatch e⟩
 | int i=>
  obtain⟨t,rfl⟩:=r
  cases (show T="int" from ty)
  exact⟨typeIs_int s i t,λ_ e=>nomatch e⟩
 | ref p=>
  cases r
  rcases ty with ⟨rfl,xs,hq⟩ | ⟨rfl,⟨o,hk,hc,hd⟩ | ⟨xs,hk⟩⟩ | ⟨rfl,hk⟩ | ⟨rfl,S,n,hk⟩
  ·obtain⟨its,_,pl,_⟩:=I.list hq
   refine⟨pl.isList.typeIs,λa e=>?_⟩
   cases e
   obtain⟨o,n,e,c,hd,_⟩:=pl
   exact⟨o,e,hd⟩
  ·refine⟨⟨o,I.wa p o hk,hc⟩,λa e=>?_⟩
   cases e
   exact⟨o,I.wa _ o hk,hd⟩
  ·obtain⟨_,_,_,⟨o,e1,e2,_⟩,nd⟩:=I.hok p _ hk
   refine⟨⟨o,e1,e2⟩,λa e=>?_⟩
   cases e
   exact⟨o,e1,nd o e1⟩
  ·have z:∃o,s.heap.get? p=some o/\o.ExactDict:=by
    rcases hk with ⟨kvs,hk⟩ | ⟨kvs,hk⟩
    ·obtain⟨_,_,_,_,o,_,_,e,ex,_⟩:=I.hok p _ hk
     exact⟨o,e,ex⟩
    ·obtain⟨_,_,_,_,o,_,_,e,ex,_⟩:=I.hok p _ hk
     exact⟨o,e,ex⟩
   obtain⟨o,e,ex⟩:=z
   refine⟨⟨o,e,ex.1⟩,λa e2=>?_⟩
   cases e2
   exact⟨o,e,ex.2.1⟩
  ·obtain⟨o,_,_,_,e,ex,_⟩:=I.hok p _ hk
   refine⟨⟨o,e,ex.1⟩,λa e2=>?_⟩
   cases e2
   exact⟨o,e,ex.2.1⟩
 | _=>exact False.elim ty
def T3(K:PySem.W.Frag)(T:String)(r:V->List V->Hp->VK->Prop)(to:TE)(t:TA):TE:=λσ H Q=>to σ H λx H1=>RY K T x H1/\t σ H1 λxs H2=>r x xs H2 Q
variable {o e:Expr} {es:List Expr} {to:TE} {t:TA} {name:Str} {apos cpos:Pos} {T id:String} {r:V->List V->Hp->VK->Prop}
theorem LX(pa:PlainAttrs T)(slot:Slot T name id)(hty:typeOf (.builtin id)=pure (.type "method_descriptor"))(hm:Pe X id r)(ho:PE X o to)(ha:PA X (e::es) t)
  (hbase:attributeBase o name X.env (eval o X.env)=eval o X.env:=by rfl)
  (hfew:((backTo cpos (W7 (e::es) X.env)).all (λx=> !x.1)&&(backToKw cpos (keywordEach [] X.env)).all (λx=>x.1.isSome)
   &&decide ((e::es).length+([]:List Keyword).length+(if([]:List Keyword).isEmpty then 0 else 1) < 30))=true:=by rfl)
  (hline:(apos.endLine == cpos.line)=true:=by rfl)(hs:W7 (e::es) X.env=(false,eval e X.env)::W7 es X.env:=by rfl)(hplain:(backTo cpos (W7 es X.env)).any (·.1)=false:=by rfl) :
  PE X (.Call (.Attribute o name apos) (e::es) [] cpos) (T3 X.K T r to t):=by
 intro pins s σ H Q I h
 refine wpAny_Call_method_late hbase hfew hline rfl (aI (ho pins s σ H _ I h) λv s1 ⟨x,H1,I1,r1,ty,q1⟩=>?_)
 obtain⟨h1,h2⟩:=HQ I1 r1 ty
 refine⟨T,id,pa,slot,hty,h1,h2,?_⟩
 have hA:=ha cpos pins s1 σ H1 _ I1 q1
 rw[hs] at hA ⊢
 refine Calls.callWith_builtin (by show(false||(backTo cpos (W7 es X.env)).any (·.1))=false;rw[hplain]<;>rfl) (Calls.evalArgs_plain ?_)
 exact aI hA λus s2 ⟨vs,H2,I2,r2,q2⟩=>hm pins s2 σ H2 x vs v us Q I2 r1 r2 q2
/- xs.append(e),list.index on a Ad tuple .. are Pe facts of 06m -/
end
end L2
namespace L2
open PySem PySem.Spec PyProof.Rows
def Pg(X:Cx)(id:String)(r:V->List V->Hp->VK->Prop):Prop :=
 ∀(pins:List (WN×Obj))(s:WT)(σ:St)(H:Hp)(x:V)(xs:List V)(v:WU)(us:List WU)(Q:VK),Inv X pins σ H s->RelV x v->Vals xs us->r x xs H Q->
  W8 (model X.prog X.w) X.A (call (.builtin id) (v::us)) (EP X pins σ Q) X.xe s
theorem Vals.one:∀{x:V}{us:List WU},Vals [x] us->∃u,us=[u]/\RelV x u
 | _,_,.cons r .nil=>⟨_,rfl,r⟩
theorem Vals.rep{xs:List V}{us:List WU}(h:Vals xs us):∀k:Nat,Vals (List.replicate k xs).flatten (List.replicate k us).flatten
 | 0=> .nil
 | k+1=>by
  rw[List.replicate_succ,List.replicate_succ,List.flatten_cons,List.flatten_cons]
  exact Vals.append h (Vals.rep h k)
theorem foldl_rep(its:List WU):∀(k:Nat)(acc:List WU),
  List.foldl (λx1 x2=>x1++x2) acc.toArray (List.replicate k its.toArray)=(acc++(List.replicate k its).flatten).toArray
 | 0,acc=>by simp
 | k+1,acc=>by
  have e:acc.toArray++its.toArray=(acc++its).toArray:=by simp
  have e2:(acc++its)++(List.replicate k its).flatten=acc++(List.replicate (k+1) its).flatten:=by
   rw[List.replicate_succ,List.flatten_cons,List.append_assoc]
  rw[<-e2,<-foldl_rep its k (acc++its),<-e,List.replicate_succ,List.foldl_cons]
section
variable {X:Cx} {pins:List (WN×Obj)} {σ:St} {H:Hp} {s:WT} {l b:WN} {xs ys zs:List V}
theorem Inv.HR{its its':List WU}{n:Nat}{f:Array WU->Array WU}{t':Nat}(I:Inv X pins σ H s)(hH:H l=some (.lst xs))
  (e:s.heap.get? l=some { cls:=.type "list",data:=.seq its.toArray n })(hf:f its.toArray=its'.toArray)(hv:Vals ys its')(hz:ys.length<=W6) :
  Inv X pins σ (upd H l (.lst ys)) { s with heap:=s.heap.update l (Obj.mapSeq f),toks:=t' }:=by
 have q:=PySem.IsL.update e f
 rw[hf] at q
 refine I.write (x:=l) (e:=l) (by rw[hH];exact trivial) (.inl rfl) (λb' u hb hu=>(Heap.get?_update_other s.heap (Obj.mapSeq f) (Ne.symm hb)).trans hu) ⟨_,q⟩ ?_
 exact⟨hz,its',_,hv,q⟩
theorem Inv.HS{its:List WU}{t':Nat}(I:Inv X pins σ H s)(hv:Vals ys its)(hz:ys.length<=W6) :
  Inv X pins σ (upd H s.heap.objs.size (.lst ys)) { s with heap:=s.heap.push { cls:=.type "list",data:=.seq its.toArray },toks:=t' } :=
 I.laid (λ_ _ q=>Heap.get?_push_of_some _ q) (Nat.le_refl _) ⟨hz,its,0,hv,Heap.get?_push_size _ rfl⟩
theorem Inv.fresh(I:Inv X pins σ H s):H s.heap.objs.size=none:=I.hok.fresh (Nat.le_refl _)
theorem Inv.Ae(I:Inv X pins σ H s)(hH:H l=some (.lst xs)):xs.length<=W6/\∃(its:List WU)(n:Nat),Vals xs its/\xs.length=its.length/\s.heap.get? l=some { cls:=.type "list",data:=.seq its.toArray n }:=by
 obtain⟨z,its,n,r,e⟩:=I.hok l _ hH
 exact⟨z,its,n,r,r.length,e⟩
theorem mG{n:Nat}(h:n<=W6):Builtin.List.listTooLong n=false:=by
 unfold Builtin.List.listTooLong
 exact decide_eq_false (by omega)
end
section
variable {X:Cx}
def DN:V->List V->Hp->VK->Prop:=λx vs H Q=>∃l xs y,x= .ref l/\vs=[y]/\H l=some (.lst xs)/\xs.length < W6/\Q .aE (upd H l (.lst (xs++[y])))
theorem xY:Pg X "list.append" DN:=by
 intro pins s σ H x vs v us Q I rx rv h
 obtain⟨l,xs,y,rfl,rfl,hH,hz,q⟩:=h
 cases rx
 obtain⟨u,rfl,ru⟩:=rv.one
 obtain⟨z,its,n,r,hl,e⟩:=I.Ae hH
 refine call_meets F.slot_list_append ⟨_,e,rfl⟩ F.entry_list_append (F.args_list_append_2 _ _) (PySem.list_append l its.toArray n u (by rw[List.size_toArray];omega)) ⟨e,?_⟩
 refine⟨.aE,_,I.HR (its':=its++[u]) hH e (by simp) (r.append (.cons ru .nil)) ?_,rfl,q⟩
 rw[List.length_append,List.length_singleton]
 omega
def DO:V->List V->Hp->VK->Prop:=λx vs H Q=>∃l b xs zs,x= .ref l/\vs=[.ref b]/\H l=some (.lst xs)/\H b=some (.lst zs)/\xs.length+zs.length<=W6/\Q .aE (upd H l (.lst (xs++zs)))
theorem xZ:Pg X "list.extend" DO:=by
 intro pins s σ H x vs v us Q I rx rv h
 obtain⟨l,b,xs,zs,rfl,rfl,hH,hB,hz,q⟩:=h
 cases rx
 obtain⟨u,rfl,ru⟩:=rv.one
 cases ru
 obtain⟨z,its,n,r,hl,e⟩:=I.Ae hH
 obtain⟨z2,its2,n2,r2,hl2,e2⟩:=I.Ae hB
 have hsz:its.toArray.size+its2.toArray.size<=W6:=by rw[List.size_toArray,List.size_toArray];omega
 have rW:¬(!its.toArray.isEmpty&&Builtin.List.listTooLong (its.toArray.size+its2.toArray.size))=true:=by
  rw[mG hsz,Bool.and_false]
  exact Bool.false_ne_true
 refine call_meets F.slot_list_extend ⟨_,e,rfl⟩ F.entry_list_extend (F.args_list_extend_2 _ _)
  (AutoSeq1.list_extend_list_list_0 l its.toArray n b its2.toArray n2 rW (by rw[List.size_toArray];omega) (by omega)) ⟨e,e2,?_⟩
 refine⟨.aE,_,I.HR (its':=its++its2) hH e (by simp) (r.append r2) ?_,rfl,q⟩
 rw[List.length_append]
 omega
def Ph:R2:=λx y H Q=>∃l k xs,x= .ref l/\y= .int k/\H l=some (.lst xs)/\-(2 ^ 63)<=k/\k < 2 ^ 63/\xs.length * k.toNat<=W6/\
 ∀p,H p=none->Q (.ref p) (upd H p (.lst (List.replicate k.toNat xs).flatten))
theorem len_rep{α:Type}(xs:List α)(k:Nat):(List.replicate k xs).flatten.length=k * xs.length:=by
 induction k with
 | zero=>simp
 | succ k ih=>rw[List.replicate_succ,List.flatten_cons,List.length_append,ih,Nat.succ_mul,Nat.add_comm]
theorem HU:cH X (WX .Mult) Ph:=by
 intro pins s σ H x y v u Q I rx ry h
 obtain⟨l,k,xs,rfl,rfl,hH,h1,h2,hz,q⟩:=h
 cases rx
 obtain⟨t,rfl⟩:=ry
 obtain⟨z,its,n,r,hl,e⟩:=I.Ae hH
 have hlen:its.toArray.size * k.toNat<=W6:=by rw[List.size_toArray,<-hl];exact hz
 have hcap:¬its.toArray.size * k.toNat > (2 ^ 63 - 1) / 8:=by
  have:(W6:Nat)<=(2 ^ 63 - 1) / 8:=by decide
  omega
 have hfit:¬(!Builtin.List.listFitsIndex k)=true:=by
  rw[fitsIndex_both h1 h2]
  exact Bool.false_ne_true
 have rW:¬Builtin.List.listTooLong (its.toArray.size * k.toNat)=true:=by
  rw[mG hlen]
  exact Bool.false_ne_true
 have hnew:List.foldl (λx1 x2=>x1++x2) #[] (List.replicate (if its.toArray.isEmpty=true then 0 else k.toNat) its.toArray)=(List.replicate k.toNat its).flatten.toArray:=by
  have f0:∀m:Nat,List.foldl (λx1 x2=>x1++x2) #[] (List.replicate m its.toArray)=(List.replicate m its).flatten.toArray:=λm=>by
   have:=foldl_rep its m []
   rw[List.nil_append] at this
   exact this
  rw[f0]
  cases its with
  | nil=>simp
  | cons a r'=>rw[if_neg (by simp)]
 refine wpAny_binaryOp_repeat_ref (T:="list") (U:="int") (by decide) ⟨_,e,rfl⟩ (λs'=>typeIs_int s' k t) noFill_list_mul F.fills_int_mul F.slot_int_rmul repeat_list F.slot_int_index.lookup
  (call_meets F.slot_int_rmul (typeIs_int s k t) F.entry_int_rmul (F.args_int_rmul_2 _ _) (int___rmul___int_list k t l its.toArray n)
   ⟨e,rfl,⟨_,e,rfl⟩,call_meets F.slot_list_mul ⟨_,e,rfl⟩ F.entry_list_mul (F.args_list_mul_2 _ _) (AutoListH.list___mul___list_int_3 l its.toArray n k t hfit hcap rW) ⟨e,?_⟩⟩)
 rw[hnew]
 exact⟨.ref _,_,I.HS (t':=s.toks) (r.rep k.toNat) (by rw[len_rep,Nat.mul_comm];exact hz),rfl,q _ I.fresh⟩
end
section
variable {prog:WS} {w:WV} {A:WO} {E:WU->WT->Prop} {s:WT}
set_option maxRecDepth 100000 in
end
section
variable {X:Cx}
end
end L2
namespace Att
open PySem PySem.W PySem.Calls PyProof.Rows
theorem lE{P:Params}{h:Heap}:∀(ns:List Int)(vs:List WU),WellAll P h vs (ns.map WData.int)->IntsAre vs ns:=by
 intro ns
 induction ns with
 | nil=>
  intro vs w
  rw[List.map_nil] at w
  cases w
  exact .nil
 | cons n ns ih=>
  intro vs w
  rw[List.map_cons] at w
  cases w with
  | cons a b=>
   cases a
   exact .cons _ _ (ih _ b)
theorem x8{l:OpenLaw}{n:Nat}(hn:l.most=some n){P:Params}{h:Heap}{args:List WData}{vals:List WU}
  (hpre:l.row.toRowW.claim.pre args=true)(hwl:WellAll P h vals args) :
  ∃a vs ns,vals=[Value.ref a]/\args=[WData.list (ns.map WData.int)]/\h.get? a=some { cls:=.type "list",data:=.seq vs.toArray }/\IntsAre vs ns/\ns.length<=n:=by
 have hsh:WShape.hasAll [] args [.list .int]=true:=(pre_splitW hpre).1
 have hc:l.pre.holds [] { args:=args }=true:=(pre_splitW hpre).2
 obtain⟨d,r,rfl,h1,h2⟩:=hasAllW_cons hsh
 obtain rfl:=hasAllW_nil h2
 obtain⟨xs,rfl,h3⟩:=hasW_list h1
 obtain⟨ns,rfl⟩:=items_int h3
 have hlen:ns.length<=n:=by
  unfold OpenLaw.pre at hc
  have h4:(WTm.not (.lt (.lit (.int (n:Int))) (.len (.arg 0)))).holds [] { args:=[.list (ns.map .int)] }=true:=by
   have h4:=(holds_andW hc).1
   rw[hn] at h4
   exact h4
  have h5:=condW_of h4 (w_not (w_lt w_lit (w_len_list (w_arg rfl))))
  rw[List.length_map] at h5
  refine Nat.le_of_not_lt λq=>?_
  have q':(n:Int) < ((ns.length:Nat):Int):=by omega
  first
   | (rw[decide_eq_true q'] at h5;exact absurd h5 (by decide))
   | (simp at h5;omega)
 cases hwl with
 | cons w1 w2=>
  cases w2
  cases w1 with
  | list ho hall=>exact⟨_,_,ns,rfl,rfl,ho,lE ns _ hall,hlen⟩
theorem x9(l:OpenLaw)(args:List WData):l.row.toRowW.claim.post args (.bool true) args=true :=
 postW_of (r:=l.row.toRowW) (X:=(true == true))
  (show WShape.has [] (.bool true) .bool=true by first | rfl | decide | simp[WShape.has,WShape.arms,WShape.armsAll])
  (show(WTm.eq .res (.lit (.bool true))).value [] { args:=args,res:=some (.bool true),after:=args }=some (.bool (true == true)) from w_eq_bool (w_res rfl) w_lit) rfl
theorem rX{l:OpenLaw}{n:Nat}{q:WS}{loose:List Str}{XP:(Str->Option WU)->Heap->Prop}{YP:WV->Heap->Prop}{d:DefRec}
  (hn:l.most=some n)(hdf:d.params.defaults=[])
  (call:∀(w:WV)(s₀ s₁:WT)(mg mb:Str->Option WU)(fa:WN)(o:Obj)(pm cd doc:WU)(a:WN)(vs:List WU)(ns:List Int),
   Ground q loose [] XP w s₀ mg mb s₁.heap->YP w s₁.heap->
   s₁.heap.get? fa=some o->o.data= .func (docDef d.name d.params d.body d.scope pm cd doc)->s₁.heap.CodeRec cd d.name->mg d.name=some (.ref fa)->
   s₁.heap.get? a=some { cls:=.type "list",data:=.seq vs.toArray }->IntsAre vs ns->ns.length<=n->s₁.gens=#[]->
   WZ (model l.prog w) callerA (.call (.ref fa) ⟨[.ref a],[]⟩) (λr s'=>r= .ok (.ret (.bool true))/\OldK s₁.heap s'.heap/\s'.os=s₁.os/\AllBare s'.gens) s₁) :
  WalkO q loose XP YP l.row.toRowW d [] (λf vs=>PySem.call f vs):=by
 intro w s₀ s₁ mg mb G Y fa o pm cd doc dV kV ho hd hcd hD hmg hg args vals as hpre hlay hrd hwl hlo
 obtain rfl:dV= .none:=Dflts.none hD hdf
 obtain rfl:kV= .none:=Dflts.noKw hD
 obtain⟨a,vs,ns,rfl,rfl,hobj,hints,hlen⟩:=x8 hn hpre hwl
 refine enter_call (codeAny_mono (call w s₀ s₁ mg mb fa o pm cd doc a vs ns G Y ho (fd_plain hd) hcd hmg hobj hints hlen hg) λr s' hq=>?_)
 obtain⟨rfl,h2,h3,h4⟩:=hq
 exact⟨.inl ⟨.bool true,.bool true,[],rfl,λ_=>rfl,.bool true,x9 l _,λ_=>⟨List.Pairwise.nil,λ_ hm=>(nomatch hm)⟩⟩,h2,h3,h4⟩
section
variable {prog:WS} {w:WV} {A:WO} {E:WU->WT->Prop} {s:WT} {K:Frag}
end
end Att
namespace L2
open PySem PySem.Spec PyProof.Rows
theorem pv:∀{vs:List WU}{ns:List Int},IntsAre vs ns->Vals (ns.map V.int) vs
 | _,_,.nil=> .nil
 | _,_,.cons n t h=> .cons ⟨t,rfl⟩ (pv h)
def DP(H:Hp):Prop:=∀b,H b=none\/∃o xs,H b=some (.bR o (.lst xs))
theorem Af{P:WS}{w:WV}{K:PySem.W.Frag}{mg mb:Str->Option WU}{CX:zw}{k:Nat}{fa a:WN}{fd:WQ}{x:Str}{sp:Sp}{s₁:WT}{vs:List WU}{ns:List Int}
  (KX:K.In s₁.heap)(hns:s₁.heap.Ns W5 mg)(hb:s₁.heap.Ns builtinsNs mb)(T4:∀x:Str,x≠"__name__"->mb x=WY x)(hlim:s₁.heap.NoLimit)(hg:s₁.gens=#[])
  (ha:s₁.heap.get? a=some { cls:=.type "list",data:=.seq vs.toArray })(hi:IntsAre vs ns)(hl:ns.length<=W6)(hr:hX k callerA)
  (F:∀base:Heap,K.In base->base.Ns W5 mg->FnOk P w K mg base CX k fa fd [x] sp)(hbind:∀(s:WT)(u:WU),BindsTo s fd ⟨[u],[]⟩ [(x,u)])
  (DC:∀H:Hp,DP H->gZ K H a (ns.map V.int)->sp [.ref a] H (λv _=>v= .bl true) λ_ _ _=>False)
  (Pj:∀H e s',CX [] H s₁ (λ_ _ _=>False) e s'->False) :
  WZ (model P w) callerA (.call (.ref fa) ⟨[.ref a],[]⟩) (λr s'=>r= .ok (.ret (.bool true))/\OldK s₁.heap s'.heap/\s'.os=s₁.os/\AllBare s'.gens) s₁:=by
 have rv:=pv hi
 have Pk:=hi.length
 -- from an abstract heap in which nothing but the script may be tracked
 have core:∀H:Hp,DP H->gZ K H a (ns.map V.int)->gX P w H s₁.heap->(∀b,H b≠none->b=a)->(H a≠none->K.lookup a=none)->
   WZ (model P w) callerA (.call (.ref fa) ⟨[.ref a],[]⟩) (λr s'=>r= .ok (.ret (.bool true))/\OldK s₁.heap s'.heap/\s'.os=s₁.os/\AllBare s'.gens) s₁:=by
  intro H hO hS hok hA hK
  have wo:∀{b:WN}{o:Obj},s₁.heap.get? b=some o->H b=none->(qi s₁.heap H).get? b=some o:=λe n=>zz e n
  have LM:∀{b:WN}{o:Obj}{es:Array DictEntry}{ep:Nat},s₁.heap.get? b=some o->o.data= .dict es ep->H b=none:=λ{b o es ep} e d=>by
   cases q:H b with
   | none=>rfl
   | some u=>
    have e':b=a:=hA b (by rw[q];simp)
    subst e'
    rw[ha] at e;cases e
    have d':Data.seq vs.toArray _=Data.dict es ep:=d
    cases d'
  have NP:∀{b:WN}{m:Str->Option WU},s₁.heap.Ns b m->(qi s₁.heap H).Ns b m:=λ{b m} ⟨o,es,ep,e,d,r⟩=>⟨o,es,ep,wo e (LM e d),d,r⟩
  have RZ:K.In (qi s₁.heap H):=λb o e=>wo (KX b o e) (by
   cases q:H b with
   | none=>rfl
   | some u=>
    have e':b=a:=hA b (by rw[q];simp)
    subst e'
    rw[hK (by rw[q];simp)] at e;cases e)
  have hM:Mod K mg (qi s₁.heap H):=⟨RZ,NP hns,⟨mb,NP hb,T4⟩,let ⟨mc,h1,h2⟩:=hlim;⟨mc,NP h1,h2⟩⟩
  have e0:uI P w K mg (qi s₁.heap H) callerA [] s₁ H:=⟨rfl,hM,λb o e=>Di e,Nat.le_of_eq (xK _ _),trivial,λb hb=>absurd (show b∈([]:List WN) from hb) (by simp),hok,.of_eq hg⟩
  refine codeAny_mono ((F _ RZ (NP hns)).run callerA [] s₁ H ⟨[.ref a],[]⟩ [.ref a] [.ref a] _ _ hr e0 (hbind s₁ (.ref a)) (.cons rfl .nil) (DC H hO hS)) λr s' h=>?_
  cases r with
  | error e=>exact(Pj H e s' h).elim
  | ok fl=>
   cases fl with
   | next=>exact False.elim h
   | brk=>exact False.elim h
   | cont=>exact False.elim h
   | ret u=>
    obtain⟨v,H',os,bare,un,Pl,r',q⟩:=h
    have q':v= .bl true:=q
    subst q'
    obtain rfl:u=Value.bool true:=r'
    refine⟨rfl,OldK.of_keep λb o e=>?_,os,bare⟩
    cases q:H b with
    | none=>exact un.keep b o e q (by intro z;exact absurd (show b∈([]:List WN) from z) (by simp)) (by simp)
    | some u=>
     rcases hO b with z | ⟨ob,xs,z⟩
     ·rw[q] at z;cases z
     ·have z2:=un.fT b ob _ z
      obtain⟨e1,_⟩:=hok b _ z
      obtain⟨e2,_⟩:=Pl b _ z2
      rw[e] at e1;cases e1
      exact e2
 cases hk:K.lookup a with
 | some o=>
  -- the script is one of the Ad own objects
  have e:=KX a o hk
  rw[ha] at e
  cases e
  refine core (λ_=>none) (λ_=> .inl rfl) (.inr ⟨_,vs.toArray,_,hk,rfl,rfl,rfl,by rw[List.size_toArray,Pk];exact hl,by simpa using rv⟩) (λb u z=>by have z':(none:Option HO)=some u:=z;cases z') (λb z=>absurd rfl z) λz=>absurd rfl z
 | none=>
  refine core (λb=>if b=a then some (.bR { cls:=.type "list",data:=.seq vs.toArray } (.lst (ns.map V.int))) else none) (λb=>?_) (.inl (.inr ⟨{ cls:=.type "list",data:=.seq vs.toArray },if_pos rfl⟩)) (λb u z=>?_) (λb z=>?_) λ_=>hk
  ·by_cases hb:b=a
   ·exact .inr ⟨_,_,if_pos hb⟩
   ·exact .inl (if_neg hb)
  ·by_cases hb:b=a
   ·have z':=(if_pos hb).symm.trans z
    cases z'
    subst hb
    exact⟨ha,by rw[List.length_map];exact hl,vs,_,rv,ha⟩
   ·have z':=(if_neg hb).symm.trans z
    cases z'
  ·by_cases hb:b=a
   ·exact hb
   ·exact absurd (if_neg hb) z
end L2
namespace L2
open PySem PySem.Spec PyProof.Rows
abbrev KOf{K:PySem.W.Frag}{h:Heap}(_:K.In h):PySem.W.Frag:=K
theorem walk_of{l:PySem.W.OpenLaw}{n k:Nat}{q:WS}{loose:List Str}{XP:(Str->Option WU)->Heap->Prop}{YP:WV->Heap->Prop}{d:DefRec}{K:Params->PySem.W.Frag}{CX:WV->zw}{sp:WV->Sp}{x:Str}
  (hn:l.most=some n)(hn2:n<=W6)(hdf:d.params.defaults=[])(hr:hX k callerA)
  (hY:∀(w:WV)(h:Heap),YP w h->(K w.params).In h)
  (F:∀(w:WV)(mg:Str->Option WU)(fa:WN)(h:Heap),(K w.params).In h->h.Ns W5 mg->mg d.name=some (.ref fa)->
   ∃fd:WQ,(∀(s:WT)(u:WU),BindsTo s fd ⟨[u],[]⟩ [(x,u)])/\
    ∀base:Heap,(K w.params).In base->base.Ns W5 mg->FnOk l.prog w (K w.params) mg base (CX w) k fa fd [x] (sp w))
  (DC:∀(w:WV)(H:Hp)(a:WN)(ns:List Int),ns.length<=n->DP H->gZ (K w.params) H a (ns.map V.int)->sp w [.ref a] H (λv _=>v= .bl true) λ_ _ _=>False)
  (Pj:∀(w:WV)(H:Hp)(s:WT)(e:WU)(s':WT),CX w [] H s (λ_ _ _=>False) e s'->False) :
  PySem.W.WalkO q loose XP YP l.row.toRowW d [] (λf vs=>PySem.call f vs):=by
 refine Att.rX hn hdf λw s₀ s₁ mg mb fa o pm cd doc a vs ns G Y ho hd hcd hmg hobj hints hlen hg=>?_
 have KX:=hY w _ Y
 obtain⟨fd,hb,hF⟩:=F w mg fa _ KX G.T.g hmg
 exact Af KX G.T.g G.T.b G.T.builtins G.T.nolimit hg hobj hints (Nat.le_trans hlen hn2) hr hF hb (λH hO hS=>DC w H a ns hlen hO hS) λH e s'=>Pj w H s₁ e s'
end L2
/- V7 T5 NQ (shape;V8,My.* are R0):
   My.V9: a structure of the addresses T6 your R4 names (classes,K8);My.Txt K t: a structure (Prop) of the equations over K;
   My.HV:{K} {implicit addresses ..} (e1:nsIn K W5 "law"=some (some (.ref f))) (e2:K.lookup f=some ⟨oc,od,.func (fnOf "law" "law" params body scope dV kV doc pm an cdv ct),sl⟩) (e3:codeIn K cdv "law"=true) ..:∃t,My.Txt K t
set_option maxRecDepth 100000 in
set_option maxHeartbeats 0 in
theorem PySem.Challenge.cw_LID_holds:PySem.Challenge.rw_LID.Holds:=by
 w_on;o_law;k_head;(case hw=>w_witness2)
 k_fill
 refine L2.walk_of (l:=PySem.Challenge.rw_LID) (n:=63) (k:=40) (x:="script") (CX:=fun w => ..) (sp:=fun _ => My.sp_law) rfl (by decide) rfl ⟨rfl,by decide,by decide⟩ (fun w h Y => PySem.W.kIn_of Y) ?F ?S ?C
 case F=>
  intro w mg fa h KX G hmg
  have T:∃t,My.Txt (L2.KOf KX) t:=by
   dsimp only[L2.KOf] -- K T7 stand as «<heap const> w.params» for k_is
   refine' My.HV ?e1 ?e2 ?e3 ..
   (case e1=>PySem.W.k_is) -- in the order: a name -> its address -> its object -> its parts
   (case e2=>PySem.W.k_is)
   ..
  obtain⟨t,T⟩:=T
  have e0:=hmg.symm.trans (PySem.W.mg_of KX G T.law)
  cases e0 -- fa is the R6 own address
  exact⟨_,λs u=> .of_eq rfl,λbase kb nb=>My.HW T kb nb⟩ -- if «.of_eq rfl» comes V_ early: refine' ⟨_,?b,λbase kb nb=>My.HW T kb nb⟩;exact λs u=> .of_eq rfl
 case S=>exact λw H a ns hl hO hS=> ..
 case C=>exact ..
(the tactic k_is has no namespace: write k_is) -/
namespace L2
open PySem PySem.Spec PyProof.Rows
def defArgs(s:Stmt):Arguments:=match s with
 | .FunctionDef _ a _ _ _ _ _ _ _ _=>a
 | _=>{ posonlyargs:=[],args:=[],vararg:=none,kwonlyargs:=[],kw_defaults:=[],kwarg:=none,defaults:=[] }
def defBody(s:Stmt):List Stmt:=match s with
 | .FunctionDef _ _ b _ _ _ _ _ _ _=>b
 | _=>[]
def defScope(s:Stmt):Scope:=match s with
 | .FunctionDef _ _ _ _ _ _ sc _ _ _=>sc
 | _=>{ kind:=.function,names:=[],isGenerator:=false,isCoroutine:=false }
abbrev CX0:zw:=λ_ _ _ _ _ _=>False
abbrev E0:XK:=λ_ _ _=>False
structure F5(K:PySem.W.Frag)(x qual:Str)(st:Stmt)(f:WN)(fd:WQ):Prop where
 ex:∃(oc:WU)(od:Option WN)(kV doc pm:WU)(an:Option WN)(cdv ct:WU)(osl:Array (Option WU)),
  fd=PySem.W.fnOf x qual (defArgs st) (defBody st) (defScope st) .none kV doc pm an cdv ct/\K.lookup f=some ⟨oc,od,.func fd,osl⟩/\PySem.W.codeIn K cdv qual=true
 kp:PySem.W.keepIn K (.ref f)=true
section
variable {P:WS} {w:WV} {K:PySem.W.Frag} {mg:Str->Option WU} {base:Heap}
theorem F5.binds{x qual:Str}{st:Stmt}{f:WN}{fd:WQ}{ps:List Str}(F:F5 K x qual st f fd)
  (h:∀(kV doc pm:WU)(an:Option WN)(cdv ct:WU)(us:List WU),us.length=ps.length->bindArgs (PySem.W.fnOf x qual (defArgs st) (defBody st) (defScope st) .none kV doc pm an cdv ct) ⟨us,[]⟩=pure (ps.zip us)):Binds K fd ps []:=by
 obtain⟨oc,od,kV,doc,pm,an,cdv,ct,osl,rfl,lk,hcd⟩:=F.ex
 exact .all (h kV doc pm an cdv ct)
theorem HX{x qual:Str}{st:Stmt}{f:WN}{oc:WU}{od an:Option WN}{osl:Array (Option WU)}{kV doc pm cdv ct:WU}(l:K.lookup f=some ⟨oc,od,.func (PySem.W.fnOf x qual (defArgs st) (defBody st) (defScope st) .none kV doc pm an cdv ct),osl⟩)
  (c:PySem.W.codeIn K cdv qual=true)(k:PySem.W.keepIn K (.ref f)=true):F5 K x qual st f (PySem.W.fnOf x qual (defArgs st) (defBody st) (defScope st) .none kV doc pm an cdv ct):=⟨⟨oc,od,kV,doc,pm,an,cdv,ct,osl,rfl,l,c⟩,k⟩
end
section
variable {X:Cx}
end
end L2
namespace L2
open PySem PySem.Spec PyProof.Rows
section
variable {κ : Type} [DecidableEq κ]
def jD(kvs : List (κ×V))(k : κ) : Option V := (kvs.find? λkv=>decide (kv.1=k)).map (·.2)
def putK(kvs : List (κ×V))(k : κ)(v : V) : List (κ×V) :=
 if(kvs.any λkv=>decide (kv.1=k))=true then kvs.map (λkv=>if kv.1=k then(kv.1, v) else kv) else kvs++[(k, v)]
def mH(kvs : List (κ×V))(k : κ) : List (κ×V) := kvs.filter λkv=>decide (kv.1≠k)
theorem jE{p : κ×V}{r : List (κ×V)}{k : κ}(e : p.1=k) : jD (p::r) k=some p.2 := by simp[jD, List.find?_cons, e]
theorem jF{p : κ×V}{r : List (κ×V)}{k : κ}(e : ¬p.1=k) : jD (p::r) k=jD r k := by simp[jD, List.find?_cons, e]
theorem rY(k : κ) : ∀kvs : List (κ×V), (kvs.any λkv=>decide (kv.1=k))=(jD kvs k).isSome
 | []=>rfl
 | p::r=>by
  rw[List.any_cons]
  by_cases e : p.1=k
  ·simp only[jE e, decide_eq_true e, Bool.true_or, Option.isSome_some]
  ·rw[jF e, decide_eq_false e, Bool.false_or];exact rY k r
theorem kW(kvs : List (κ×V))(k : κ)(v : V) : (putK kvs k v).length<=kvs.length+1 := by
 unfold putK
 split
 ·rw[List.length_map];omega
 ·rw[List.length_append, List.length_cons, List.length_nil];omega
theorem ml.pz{o : Option V}{u : Option WU}(r : ml o u) : o.isSome=u.isSome := by
 cases o with
 | none=>cases u with
  | none=>rfl
  | some _=>exact(show False from r).elim
 | some _=>cases u with
  | none=>exact(show False from r).elim
  | some _=>rfl
theorem KV.val{kvs : List (κ×V)}{vs : List (κ×WU)}(r : KV kvs vs)(k : κ) : ml (jD kvs k) (valueAt vs k) := by
 unfold KV at r
 induction r with
 | nil=>exact True.intro
 | @cons p q ps qs h t ih=>
  obtain⟨h1, h2⟩ := h
  by_cases e : p.1=k
  ·have e' : q.1=k := h1.symm.trans e
   have b : valueAt (q::qs) k=some q.2 := by simp[valueAt, List.find?_cons, e']
   rw[jE e, b];exact h2
  ·have e' : ¬q.1=k := λz=>e (h1.trans z)
   have b : valueAt (q::qs) k=valueAt qs k := by simp[valueAt, List.find?_cons, e']
   rw[jF e, b];exact ih
theorem KV.any{kvs : List (κ×V)}{vs : List (κ×WU)}(r : KV kvs vs)(k : κ) : (kvs.any λkv=>decide (kv.1=k))=vs.any λkv=>decide (kv.1=k) := by
 unfold KV at r
 induction r with
 | nil=>rfl
 | cons h t ih=>rw[List.any_cons, List.any_cons, ih, h.1]
theorem KV.repl{kvs : List (κ×V)}{vs : List (κ×WU)}(r : KV kvs vs)(k : κ){y : V}{u : WU}(ry : RelV y u) :
  KV (kvs.map λkv=>if kv.1=k then(kv.1, y) else kv) (vs.map λkv=>if kv.1=k then(kv.1, u) else kv) := by
 unfold KV at r ⊢
 induction r with
 | nil=>exact .nil
 | @cons p q ps qs h t ih=>
  rw[List.map_cons, List.map_cons]
  refine .cons ?_ ih
  obtain⟨h1, h2⟩ := h
  by_cases e : p.1=k
  ·rw[if_pos e, if_pos (h1.symm.trans e)];exact⟨h1, ry⟩
  ·rw[if_neg e, if_neg (λz=>e (h1.trans z))];exact⟨h1, h2⟩
theorem KV.put{kvs : List (κ×V)}{vs : List (κ×WU)}(r : KV kvs vs)(k : κ){y : V}{u : WU}(ry : RelV y u) : KV (putK kvs k y) (stored vs k u) := by
 unfold putK stored
 rw[r.any k]
 by_cases e : (vs.any λkv=>decide (kv.1=k))=true
 ·rw[if_pos e, if_pos e];exact r.repl k ry
 ·rw[if_neg e, if_neg e];exact Paired.snoc r ⟨rfl, ry⟩
theorem KV.length{kvs : List (κ×V)}{vs : List (κ×WU)}(r : KV kvs vs) : kvs.length=vs.length := Paired.length r
end
theorem Ag{P : WS}{w : WV}{k : Key}{u : WU}(r : RelV (kV k) u) : (aM P w).is k u=true := by
 cases k with
 | inl i=>obtain⟨t, e⟩ := (show ∃t, u=Value.int i t from r);subst e;exact rM P w i t
 | inr x=>obtain⟨t, e⟩ := (show ∃t, u=Value.str x t from r);subst e;exact rN P w x t
theorem pA{P : WS}{w : WV} : ∀{ks : List Key}{us : List WU}, Vals (ks.map kV) us->ItemsAre (aM P w) ks us
 | [], _, r=>by rw[List.map_nil] at r;cases r;exact .nil
 | k::ks, _, r=>by
  rw[List.map_cons] at r
  cases r with
  | cons h t=>exact .cons (Ag h) (pA t)
abbrev KT(H : Hp) : List (List Key×V)->List (List Key×WN×WU)->Prop := Paired λp q=>p.1=q.1/\H q.2.1=some (.tup (p.1.map kV))/\RelV p.2 q.2.2
theorem KT.val{H : Hp}{kvs : List (List Key×V)}{xs : List (List Key×WN×WU)}(r : KT H kvs xs)(k : List Key) : ml (jD kvs k) ((atKey xs k).map (·.2)) := by
 induction r with
 | nil=>exact True.intro
 | @cons p q ps qs h t ih=>
  obtain⟨h1, _, h2⟩ := h
  by_cases e : p.1=k
  ·have e' : q.1=k := h1.symm.trans e
   have b : atKey (q::qs) k=some q.2 := by simp[atKey, List.find?_cons, e']
   rw[jE e, b];exact h2
  ·have e' : ¬q.1=k := λz=>e (h1.trans z)
   have b : atKey (q::qs) k=atKey qs k := by simp[atKey, List.find?_cons, e']
   rw[jF e, b];exact ih
theorem KT.repl{H : Hp}{kvs : List (List Key×V)}{xs : List (List Key×WN×WU)}(r : KT H kvs xs)(k : List Key){y : V}{u : WU}(ry : RelV y u) :
  KT H (kvs.map λkv=>if kv.1=k then(kv.1, y) else kv) (xs.map (putAt k u)) := by
 induction r with
 | nil=>exact .nil
 | @cons p q ps qs h t ih=>
  rw[List.map_cons, List.map_cons]
  refine .cons ?_ ih
  obtain⟨h1, h2, h3⟩ := h
  unfold putAt
  by_cases e : p.1=k
  ·rw[if_pos e, if_pos (h1.symm.trans e)];exact⟨h1, h2, ry⟩
  ·rw[if_neg e, if_neg (λz=>e (h1.trans z))];exact⟨h1, h2, h3⟩
theorem KT.put{H : Hp}{kvs : List (List Key×V)}{xs : List (List Key×WN×WU)}(r : KT H kvs xs)(k : List Key){b : WN}{y : V}{u : WU}(hb : H b=some (.tup (k.map kV)))(ry : RelV y u) :
  KT H (putK kvs k y) (storedH xs k b u) := by
 have e : (kvs.any λkv=>decide (kv.1=k))=(atKey xs k).isSome := by
  rw[rY, (r.val k).pz, Option.isSome_map]
 unfold putK storedH
 rw[e]
 by_cases q : (atKey xs k).isSome=true
 ·rw[if_pos q, if_pos q];exact r.repl k ry
 ·rw[if_neg q, if_neg q];exact Paired.snoc r ⟨rfl, hb, ry⟩
theorem KT.keeps{H H' : Hp}{kvs : List (List Key×V)}{xs : List (List Key×WN×WU)}(r : KT H kvs xs)(ht : ∀b ys, H b=some (.tup ys)->H' b=some (.tup ys)) : KT H' kvs xs :=
 Paired.G8 r λ_ _ z=>⟨z.1, ht _ _ z.2.1, z.2.2⟩
section
variable {P : WS} {w : WV} {H : Hp} {h : Heap} {a : WN}
theorem Ah{u : HO}(ok : gX P w H h)(e : Rd H a u) : bL P w H h a u := e.ok ok
theorem wq{kvs : List (Key×V)}(ok : gX P w H h)(e : Rd H a (.dK kvs)) : kvs.length<=W6/\(a == sysModules)=false/\∃vs, KV kvs vs/\h.DictOf (aM P w) a vs :=
 show bL P w H h a (.dK kvs) from Ah ok e
theorem LY{kvs : List (Key×V)}(ok : gX P w H h)(e : H a=some (.dK kvs)) : kvs.length<=W6/\(a == sysModules)=false/\∃vs, KV kvs vs/\h.DictOf (aM P w) a vs := wq ok (.inl e)
theorem qr{ks : List Key}(ok : gX P w H h)(e : H a=some (.tup (ks.map kV))) : (tupleKind (aM P w)).is h ks a := by
 obtain⟨_, its, r, ⟨o, h1, h2, n, h3⟩, _⟩ := (show bL P w H h a (.tup (ks.map kV)) from ok a _ e)
 exact⟨o, its.toArray, n, h1, h2, h3, by simpa using pA r⟩
theorem pB{kvs : List (List Key×V)}(ok : gX P w H h)(e : Rd H a (.dT kvs)) : kvs.length<=W6/\(a == sysModules)=false/\
  ∃xs, KT H kvs xs/\h.DictOfH (tupleKind (aM P w)) a xs := by
 obtain⟨z, y, xs, r, o, es, ep, h1, h2, h3, h4, h5⟩ := (show bL P w H h a (.dT kvs) from Ah ok e)
 refine⟨z, y, xs, r, o, es, ep, h1, h2, h3, h4, λx hx=>?_, h5⟩
 have all : ∀{l : List (List Key×V)}{m : List (List Key×WN×WU)}, KT H l m->∀x∈m, (tupleKind (aM P w)).is h x.1 x.2.1 := by
  intro l m q
  induction q with
  | nil=>intro x hx;exact nomatch hx
  | @cons p q ps qs hq t ih=>
   intro x hx
   rcases List.mem_cons.mp hx with e | hx
   ·subst e
    exact qr ok (by rw[<-hq.1];exact hq.2.1)
   ·exact ih x hx
 exact all r x hx
theorem LZ{kvs : List (List Key×V)}(ok : gX P w H h)(e : H a=some (.dT kvs)) : kvs.length<=W6/\(a == sysModules)=false/\
  ∃xs, KT H kvs xs/\h.DictOfH (tupleKind (aM P w)) a xs := pB ok (.inl e)
end
def oH(H : Hp)(a : WN)(y : V)(r : Option V) : Prop :=
 (∃kvs k, Rd H a (.dK kvs)/\y=kV k/\r=jD kvs k)\/∃kvs k b, Rd H a (.dT kvs)/\y= .ref b/\H b=some (.tup (k.map kV))/\r=jD kvs k
def qt(H : Hp)(a : WN)(y v : V)(H' : Hp) : Prop :=
 (∃kvs k, H a=some (.dK kvs)/\y=kV k/\kvs.length < W6/\H'=upd H a (.dK (putK kvs k v)))\/
 ∃kvs k b, H a=some (.dT kvs)/\y= .ref b/\H b=some (.tup (k.map kV))/\kvs.length < W6/\H'=upd H a (.dT (putK kvs k v))
theorem oH.k{H : Hp}{a : WN}{kvs : List (Key×V)}{k : Key}(e : H a=some (.dK kvs)) : oH H a (kV k) (jD kvs k) := .inl ⟨kvs, k, .inl e, rfl, rfl⟩
theorem oH.t{H : Hp}{a b : WN}{kvs : List (List Key×V)}{k : List Key}(e : H a=some (.dT kvs))(eb : H b=some (.tup (k.map kV))) : oH H a (.ref b) (jD kvs k) := .inr ⟨kvs, k, b, .inl e, rfl, eb, rfl⟩
theorem qt.k{H : Hp}{a : WN}{kvs : List (Key×V)}{k : Key}{v : V}(e : H a=some (.dK kvs))(hl : kvs.length < W6) : qt H a (kV k) v (upd H a (.dK (putK kvs k v))) := .inl ⟨kvs, k, e, rfl, hl, rfl⟩
theorem qt.t{H : Hp}{a b : WN}{kvs : List (List Key×V)}{k : List Key}{v : V}(e : H a=some (.dT kvs))(eb : H b=some (.tup (k.map kV)))(hl : kvs.length < W6) :
  qt H a (.ref b) v (upd H a (.dT (putK kvs k v))) := .inr ⟨kvs, k, b, e, rfl, eb, hl, rfl⟩
section
variable {X : Cx} {pins : List (WN×Obj)} {σ : St} {H : Hp} {s : WT} {a : WN} {y v : V} {u r : WU} {o : Option V} {A : WO} {E : WU->WT->Prop}
theorem Inv.big(I : Inv X pins σ H s) : sysModules < s.heap.objs.size := by
 have h : W5 < s.heap.objs.size := (I.mod.glob.keeps I.bk).lt
 exact Nat.lt_trans (by decide) h
theorem x_{Q : WU->WT->Prop}(hu : A.units+1 < cLine)(I : Inv X pins σ H s)(g : oH H a y (some v))(ry : RelV y u)(h : ∀w' s', Inv X pins σ H s'->RelV v w'->Q w' s') :
  W8 (model X.prog X.w) A (getItem (.ref a) u) Q E s := by
 rcases g with ⟨kvs, k, e, ey, l⟩ | ⟨kvs, k, b, e, ey, eb, l⟩
 ·subst ey
  obtain⟨z, hd, vs, rel, dd⟩ := wq I.hok e
  obtain⟨w', hw, rw'⟩ := ml.some_of (v := v) (o := valueAt vs k) (by rw[l];exact rel.val k)
  exact wpAny_getItem_of (Ag ry) dd.mapOf hw (h w' _ (I.tok _) rw')
 ·subst ey
  cases (show u=Value.ref b from ry)
  obtain⟨z, hd, xs, rel, dd⟩ := pB I.hok e
  obtain⟨w', hw, rw'⟩ := ml.some_of (v := v) (o := (atKey xs k).map (·.2)) (by rw[l];exact rel.val k)
  obtain⟨p, hp, hp2⟩ := Option.map_eq_some_iff.mp hw
  refine wpAny_getItem_heap (tupleKind_room_in1 hu) (qr I.hok eb) dd hp ?_
  rw[hp2]
  exact h w' _ (I.tok _) rw'
theorem qu{h' : Heap}{t' : Nat}{ob : HO}(I : Inv X pins σ H s)(mu : Lh (H a))(hs : Heap.SameBut a s.heap h')(he : ∃q, h'.get? a=some q)(new : bL X.prog X.w (upd H a ob) h' a ob) :
  Inv X pins σ (upd H a ob) { s with heap := h', toks := t' } :=
 I.write (x := a) (e := a) mu (.inl rfl) (λb q hb z=>(hs.2 b hb).trans z) he new
theorem HY{P : WS}{w : WV}{H' : Hp}{h' : Heap}{kvs : List (Key×V)}{vs : List (Key×WU)}(z : kvs.length<=W6)(hd : (a == sysModules)=false)(rel : KV kvs vs)(dd : h'.DictOf (aM P w) a vs) :
  bL P w H' h' a (.dK kvs) :=⟨z, hd, vs, rel, dd⟩
theorem yc{H' : Hp}{Q : Unit->WT->Prop}(hu : A.units+1 < cLine)(I : Inv X pins σ H s)(g : qt H a y v H')(ry : RelV y u)(rv : RelV v r)(h : ∀s', Inv X pins σ H' s'->Q () s') :
  W8 (model X.prog X.w) A (setItem (.ref a) u r) Q E s := by
 rcases g with ⟨kvs, k, e, ey, l, eH⟩ | ⟨kvs, k, b, e, ey, eb, l, eH⟩
 ·subst ey eH
  obtain⟨z, hd, vs, rel, dd⟩ := LY I.hok e
  have hz : vs.length<=W6 := by rw[<-rel.length];exact z
  have hl : (putK kvs k v).length<=W6 := by have := kW kvs k v;omega
  refine wpAny_setItem_pairs (hsz := hz) (Ag ry) dd λh' K9 hs=>h _ ?_
  have he : ∃q, h'.get? a=some q := let ⟨q, _, _, hq, _⟩ := K9;⟨q, hq⟩
  exact qu I (by rw[e];exact True.intro) hs he (HY hl hd (rel.put k rv) K9)
 ·subst ey eH
  cases (show u=Value.ref b from ry)
  obtain⟨z, hd, xs, rel, dd⟩ := LZ I.hok e
  have hz : xs.length<=W6 := by rw[<-Paired.length rel];exact z
  have hl : (putK kvs k v).length<=W6 := by have := kW kvs k v;omega
  refine wpAny_setItem_heap (hsz := hz) (tupleKind_room_in1 hu) (qr I.hok eb) dd λh' K9 hs=>h _ ?_
  obtain⟨q, es, ep, hq, h2, h3, h4, _, h5⟩ := K9
  refine qu I (by rw[e];exact True.intro) hs ⟨q, hq⟩ ⟨hl, hd, _, (rel.put k eb rv).keeps λc ys ec=>?_, q, es, ep, hq, h2, h3, h4, h5⟩
  rw[au (FY ec e (λz=>nomatch z))]
  exact ec
end
section
variable {X : Cx} {pins : List (WN×Obj)} {σ : St} {H : Hp} {s : WT} {a : WN} {kvs : List (Key×V)} {k : Key} {u : WU} {A : WO} {E : WU->WT->Prop}
end
def Ai(i : Expr) : Prop := ∀ov iv, subscripted i false ov iv=operate [ov, iv] (getItem ov iv)
theorem wt{prog : WS}{w : WV}{A : WO}{E : WU->WT->Prop}{s : WT}{env : Env}{value slice : Expr}{pos : Pos}{T id : String}{Q : WU->WT->Prop}
  (hl : typeLookup (.type T) "__getitem__"=pure (some (.builtin id)))(hs : Ai slice)
  (h : W8 (model prog w) A (eval value env) (λo s₁=>W8 (model prog w) A (eval slice env) (λi s₂=>s₂.TypeIs o T/\W8 (model prog w) A (getItem o i) Q E s₂) E s₁) E s) :
  W8 (model prog w) A (eval (.Subscript value slice pos) env) Q E s := by
 refine Subscript_ (Xa h (λo s₁ h₁=>Xa h₁ (λi s₂ h₂=>?_) λ_ _ x=>x) λ_ _ x=>x)
 obtain⟨hT, h₂⟩ := h₂
 unfold subscriptTail
 refine W9 ?_
 rw[getitemInPython_of_ne hT.not_modules]
 refine W9 (wpAny_specialOf hT hl ?_)
 have fin : W8 (model prog w) A (subscripted slice false o i) (λr s₃=>W8 (model prog w) A (letTemporaryGo value o r >>= λ_=>pure r) Q E s₃) E s₂ := by
  rw[hs o i]
  exact wpAny_operating (Xa h₂ (λr s₃ h₃=>W9 (wpAny_letTemporaryGo (Xe h₃))) λ_ _ x=>x)
 first
  | exact Xe (W9 fin)
  | exact W9 (Xe (W9 fin))
  | exact W9 fin
theorem rZ{X : Cx}{pins : List (WN×Obj)}{σ : St}{H : Hp}{s : WT}{a : WN}{y : V}{o : Option V}(I : Inv X pins σ H s)(g : oH H a y o) : s.TypeIs (.ref a) "dict" := by
 rcases g with ⟨kvs, k, e, _, _⟩ | ⟨kvs, k, b, e, _, _, _⟩
 ·obtain⟨_, _, vs, _, dd⟩ := wq I.hok e
  exact dd.typeIs
 ·obtain⟨_, _, xs, _, dd⟩ := pB I.hok e
  exact dd.typeIs
def L3(td ty : TE) : TE := λσ H Q=>td σ H λx H1=>ty σ H1 λy H2=>∃a v, x= .ref a/\oH H2 a y (some v)/\Q v H2
def L4(td ty tv : TE) : TS := λD σ H=>tv σ H λv H1=>td σ H1 λx H2=>ty σ H2 λy H3=>∃a H4, x= .ref a/\qt H3 a y v H4/\D.nx σ H4
section
variable {X : Cx} {o i e value : Expr} {pos pos' tpos : Pos} {td ty tv : TE}
theorem DQ(hu : X.A.units+1 < cLine)(ho : PE X o td)(hi : PE X i ty)(hs : Ai i) : PE X (.Subscript o i pos) (L3 td ty) := by
 intro pins s σ H Q I h
 refine wt PySem.F.slot_dict_getitem.lookup hs (aI (ho pins s σ H _ I h) λu s1 ⟨x, H1, I1, rx, q1⟩=>aI (hi pins s1 σ H1 _ I1 q1) λiv s2 ⟨y, H2, I2, ry, a, v, ex, g, q2⟩=>?_)
 subst ex
 obtain rfl : u=Value.ref a := rx
 exact⟨rZ I2 g, x_ hu I2 g ry λw' s3 I3 rw'=>⟨v, H2, I3, rw', q2⟩⟩
theorem DR(hu : X.A.units+1 < cLine)(ho : PE X o td)(hi : PE X i ty)(hv : PE X value tv)(hs : swapsWith value (some (.Subscript o i pos')) pos.line X.env=pure false) :
  PS X (.Assign [.Subscript o i pos'] value pos) (L4 td ty tv) := by
 intro pins s σ H D I h
 refine wpAny_Assign_Subscript (aI (hv pins s σ H _ I h) λr s1 ⟨v, H1, I1, rv, q1⟩=>aI (ho pins s1 σ H1 _ I1 q1) λu s2 ⟨x, H2, I2, rx, q2⟩=>aI (hi pins s2 σ H2 _ I2 q2) λiv s3 ⟨y, H3, I3, ry, a, H4, ex, g, q3⟩=>?_) hs
 subst ex
 obtain rfl : u=Value.ref a := rx
 exact yc hu I3 g ry rv λs4 I4=>⟨σ, H4, I4, q3⟩
end
theorem Aj{P : WS}{w : WV}{H : Hp}(h : Heap)(hb : sysModules < h.objs.size) : bL P w H (h.push { cls := .type "dict", data := .dict #[] }) h.objs.size (.dK []) :=
 ⟨Nat.zero_le _, beq_eq_false_iff_ne.mpr (Ne.symm (Nat.ne_of_lt hb)), [], .nil, Heap.DictOf.new h⟩
theorem Ak{P : WS}{w : WV}{H : Hp}(h : Heap)(hb : sysModules < h.objs.size) : bL P w H (h.push { cls := .type "dict", data := .dict #[] }) h.objs.size (.dT []) :=
 ⟨Nat.zero_le _, beq_eq_false_iff_ne.mpr (Ne.symm (Nat.ne_of_lt hb)), [], .nil, _, #[], 0, Heap.get?_push_size _ rfl, ⟨rfl, rfl, rfl⟩, rfl, rfl, List.nodup_nil⟩
def HZ : TE := λ_ H Q=>∀p, H p=none->Q (.ref p) (upd H p (.dK []))
def H_ : TE := λ_ H Q=>∀p, H p=none->Q (.ref p) (upd H p (.dT []))
section
variable {X : Cx} {pos : Pos}
theorem Al : PE X (.Dict [] [] pos) HZ := λpins s σ H Q I h=>
 wpAny_Dict_empty ⟨.ref s.heap.objs.size, _, I.laid (a := s.heap.objs.size) (o := .dK []) (t' := s.toks) (λ_ _ q=>Heap.get?_push_of_some _ q) (Nat.le_refl _) (Aj s.heap I.big), rfl, h _ (I.hok.fresh (Nat.le_refl _))⟩
theorem Am : PE X (.Dict [] [] pos) H_ := λpins s σ H Q I h=>
 wpAny_Dict_empty ⟨.ref s.heap.objs.size, _, I.laid (a := s.heap.objs.size) (o := .dT []) (t' := s.toks) (λ_ _ q=>Heap.get?_push_of_some _ q) (Nat.le_refl _) (Ak s.heap I.big), rfl, h _ (I.hok.fresh (Nat.le_refl _))⟩
end
abbrev VV : List (V×V)->List (WU×WU)->Prop := Paired λp q=>RelV p.1 q.1/\RelV p.2 q.2
def Ia(kvs more : List (Key×V)) : List (Key×V) := more.foldl (λacc kv=>putK acc kv.1 kv.2) kvs
structure M1(X : Cx)(o : Expr)(m : Str)(apos : Pos)(e : Expr)(cpos : Pos) : Prop where
 base : attributeBase o m X.env (eval o X.env)=eval o X.env
 few : ((backTo cpos (W7 [e] X.env)).all (λx=> !x.1)&&(backToKw cpos (keywordEach [] X.env)).all (λx=>x.1.isSome)
  &&decide (([e] : List Expr).length+([] : List Keyword).length+(if([] : List Keyword).isEmpty then 0 else 1) < 30))=true
 line : (apos.endLine == cpos.line)=true
 trees : backTo cpos (W7 [e] X.env)=[(false, eval e X.env)]
structure M2(X : Cx)(o : Expr)(m : Str)(apos : Pos)(e f : Expr)(cpos : Pos) : Prop where
 base : attributeBase o m X.env (eval o X.env)=eval o X.env
 few : ((backTo cpos (W7 [e, f] X.env)).all (λx=> !x.1)&&(backToKw cpos (keywordEach [] X.env)).all (λx=>x.1.isSome)
  &&decide (([e, f] : List Expr).length+([] : List Keyword).length+(if([] : List Keyword).isEmpty then 0 else 1) < 30))=true
 line : (apos.endLine == cpos.line)=true
 trees : backTo cpos (W7 [e, f] X.env)=[(false, eval e X.env), (false, eval f X.env)]
def T8(H : Hp)(a : WN) : Prop := (∃kvs, Rd H a (.dK kvs))\/∃kvs, Rd H a (.dT kvs)
theorem Ie{X : Cx}{pins : List (WN×Obj)}{σ : St}{H : Hp}{s : WT}{a : WN}(I : Inv X pins σ H s)(d : T8 H a) :
  s.TypeIs (.ref a) "dict"/\(∀b, Value.ref a= .ref b->∃ob, s.heap.get? b=some ob/\ob.dict=none)/\(a == sysModules)=false := by
 rcases d with ⟨kvs, e⟩ | ⟨kvs, e⟩
 ·obtain⟨_, hd, vs, _, dd⟩ := wq I.hok e
  refine⟨dd.typeIs, λb q=>?_, hd⟩
  cases q
  obtain⟨ob, _, _, h1, h2, _⟩ := dd
  exact⟨ob, h1, h2.2.1⟩
 ·obtain⟨_, hd, xs, _, dd⟩ := pB I.hok e
  refine⟨dd.typeIs, λb q=>?_, hd⟩
  cases q
  obtain⟨ob, _, _, h1, h2, _⟩ := dd
  exact⟨ob, h1, h2.2.1⟩
section
variable {X : Cx} {pins : List (WN×Obj)} {σ : St} {H : Hp} {s : WT} {a : WN} {y d : V} {u r : WU} {o : Option V} {A : WO} {E : WU->WT->Prop}
end
section
variable {X : Cx} {o e f : Expr} {apos cpos : Pos} {td ty tx : TE}
end
section
variable {X : Cx} {pins : List (WN×Obj)} {σ : St} {H : Hp} {s : WT} {a : WN} {kvs : List (Key×V)} {A : WO} {E : WU->WT->Prop}
end
section
variable {X : Cx} {pins : List (WN×Obj)} {σ : St} {H : Hp} {s : WT} {a : WN} {y : V} {u : WU} {A : WO} {E : WU->WT->Prop}
end
end L2
namespace Att
open PySem PySem.W PySem.Calls PyProof.Rows
end Att
namespace L2
open PySem PySem.Spec PyProof.Rows
section
variable {X : Cx}
end
section
variable {κ : Type} [DecidableEq κ]
theorem yd{p : κ×V}{r : List (κ×V)}{k : κ}(e : p.1=k) : mH (p::r) k=mH r k := by
 unfold mH
 rw[List.filter_cons, if_neg (by simp[e])]
theorem ye{p : κ×V}{r : List (κ×V)}{k : κ}(e : ¬p.1=k) : mH (p::r) k=p::mH r k := by
 unfold mH
 rw[List.filter_cons, if_pos (by simp[e])]
end
end L2
set_option maxHeartbeats 4000000
namespace J
open PySem PySem.Spec PyProof.Rows L2
def NR(h base:Heap)(e:WN)(cls a0 fl:WU):Prop :=
 ∃ox us T ot ws,h.get? e=some ox/\(ox.cls=cls/\us[2]? =some Value.none)/\ox.data= .fields us/\us[1]? =some (.ref T)/\base.get? T=none/\T≠e/\h.get? T=some ot/\ot.data= .fields ws/\ws[3]? =some fl
abbrev DS(base:Heap)(l:List Env)(e:WN)(cls a0 fl:WU)(h:Heap):Prop:=base.StaysIn h/\base.get? e=none/\h.FunFrames base l/\NR h base e cls a0 fl
def An(base:Heap)(l:List Env)(e:WN)(cls a0:WU)(L:WN)(h:Heap):Prop:=DS base l e cls a0 (rawInt L) h
def qv(base:Heap)(l:List Env)(e:WN)(cls a0:WU)(h:Heap):Prop:=DS base l e cls a0 .none h
theorem qv.first{base h:Heap}{l:List Env}{e:WN}{cls a0:WU}(x:qv base l e cls a0 h):∃ox us,h.get? e=some ox/\ox.cls=cls/\ox.data= .fields us/\us[2]? =some Value.none :=
 let ⟨_,_,_,ox,us,_,_,_,g1,g2,g3,_⟩:=x;⟨ox,us,g1,g2.1,g3,g2.2⟩
section
variable {M:Model} {A:WO} {E:WU->WT->Prop} {s:WT} {base:Heap} {env:Env} {outer l:List Env} {L e:WN} {cls a0 nt:WU} {Q:Unit->WT->Prop}
theorem uP{h h1:Heap}{S:List WN}{ox ob:Obj}{us ws:Array WU}(so:Heap.SlotsOnly S h h1)(hS:S=l.filterMap (·.frame))(fs:h.FunFrames base l)(g1:h.get? e=some ox)(g3:ox.data= .fields us)(st:base.StaysIn h)(ne:base.get? e=none)(sz:1 < us.size)(g2:us[2]? =some Value.none)
  (d:ob.data= .fields ws)(w3:ws[3]? =some nt)(nf:ob.isFreed=false) :
  DS base l e ox.cls a0 nt ((h1.push ob).update e (Obj.mapFields (·.setIfInBounds 1 (.ref h1.objs.size))))/\h.UpToSlots ((h1.push ob).update e (Obj.mapFields (·.setIfInBounds 1 (.ref h1.objs.size)))):=by
 have nS:e∉S:=λz=>by
  rw[hS] at z
  obtain⟨_,o2,q2,d2⟩:=fs.mem z
  rw[g1] at q2
  cases q2
  exact d2 us g3
 have q1:h1.get? e=some ox:=(so.2.1 e nS).trans g1
 have lt:e≠h1.objs.size:=Nat.ne_of_lt (Heap.lt_size q1)
 have R7:∀b o,b≠e->h1.get? b=some o->((h1.push ob).update e (Obj.mapFields (·.setIfInBounds 1 (.ref h1.objs.size)))).get? b=some o:=λb o n q=>(Heap.get?_update_other _ _ (Ne.symm n)).trans (Heap.get?_push_of_some _ q)
 have up:h.UpToSlots ((h1.push ob).update e (Obj.mapFields (·.setIfInBounds 1 (.ref h1.objs.size)))):=λb o q n=>by
  obtain⟨sl,q2⟩:=so.2.2 b o q
  exact⟨sl,R7 b _ (λz=>by rw[z,g1] at q;cases q;exact n us g3) q2⟩
 have stay:base.StaysIn h1:=λb o q=>(so.2.1 b λz=>by
  rw[hS] at z
  rw[(fs.mem z).1] at q
  cases q).trans (st b o q)
 have fresh:base.get? h1.objs.size=none:=by
  cases z:base.get? h1.objs.size with
  | none=>rfl
  | some o=>exact absurd (Heap.lt_size (stay _ _ z)) (Nat.lt_irrefl _)
 have d1:=Obj.data_mapFields g3 (·.setIfInBounds 1 (Value.ref h1.objs.size))
 refine⟨⟨λb o q=>R7 b o (λz=>by rw[z,ne] at q;cases q) (stay b o q),ne,fs.of_keeps λb o q n=>?_,_,_,h1.objs.size,ob,ws,Heap.get?_update_self _ (Heap.get?_push_of_some _ q1) (Obj.isFreed_of_fields d1),⟨Obj.cls_mapFields _ _,?_⟩,d1,by simp[sz],fresh,Ne.symm lt,?_,d,w3⟩,up⟩
 ·obtain⟨sl,q2⟩:=up b o q n
  exact⟨_,q2,rfl⟩
 ·rw[Array.getElem?_setIfInBounds_ne (by decide)];exact g2
 ·exact(Heap.get?_update_other _ _ lt).trans (Heap.get?_push_size _ nf)
theorem Ao{ox:Obj}{us:Array WU}{head:WU}{had:Bool}(hfr:A.frames=some (env::outer))(fs:s.heap.FunFrames base (env::outer))(hf:env.frame=some L)(g1:s.heap.get? e=some ox)(st:base.StaysIn s.heap)(ne:base.get? e=none)(g3:ox.data= .fields us)(sz:1 < us.size)(g2:us[2]? =some Value.none)
  (k:∀h',An base (env::outer) e ox.cls a0 L h'->s.heap.UpToSlots h'->Q () { s with heap:=h' }) :
  W8 M A (do let a <-frameOf env;let pl <-entryPlaceOf L had;let b <-EntryCells.newEntry head a .none (rawInt L) .none pl;setField (.ref e) 1 b) Q E s:=by
 refine W9 (wpAny_frameOf_fun hfr fs hf λh1 so=>W9 (wpAny_entryPlaceOf λpl pp=>?_))
 have nS:e∉(env::outer).filterMap (·.frame):=λz=>by
  obtain⟨_,o2,q2,d2⟩:=fs.mem z
  rw[g1] at q2
  cases q2
  exact d2 us g3
 have q1:h1.get? e=some ox:=(so.2.1 e nS).trans g1
 simp only[EntryCells.newEntry,newFields]
 refine W9 (Xd (wpAny_setField (Heap.get?_push_of_some _ q1) g3 sz ?_) (pp.sizeOk5 _ _ _ _ _))
 obtain⟨m,up⟩:=uP (a0:=a0) (nt:=rawInt L) so rfl fs g1 g3 st ne sz g2 (ob:={ cls:=.type "traceback",dict:=none,data:=.fields ([head,.ref L,.none,rawInt L,.none]++(if pl.isEmpty then List.replicate 6 Value.none else pl)).toArray }) rfl (by first | (simp;done) | (rcases pp with rfl | ⟨_,_,_,_,_,_,_,rfl⟩<;>simp)) rfl
 exact k _ m up
theorem Ig(hf:env.frame=some L)(x:NR s.heap base e cls a0 (rawInt L))(k:Q () s):W8 M A (noteFrame (.ref e) env) Q E s:=by
 obtain⟨ox,us,T,ot,ws,g1,g2,g3,g4,g5,g6,g7,g8,g9⟩:=x
 unfold noteFrame
 simp only[hf]
 refine W9 (wpAny_field g1 g3 g4 ?_)
 rw[if_pos (by simp)]
 refine W9 (wpAny_field g7 g8 g9 ?_)
 rw[if_pos (by simp)]
 exact Xe k
theorem r9(x:DS base l e cls a0 nt s.heap)(k:∀h',qv base l e cls a0 h'->s.heap.UpToSlots h'->Q () { s with heap:=h' }):W8 M A (setFlight (.ref e) none) Q E s:=by
 obtain⟨x1,x2,x3,ox,us,T,ot,ws,g1,g2,g3,g4,g5,g6,g7,g8,g9⟩:=x
 have sz:3 < ws.size:=(Array.getElem?_eq_some_iff.mp g9).1
 unfold setFlight
 refine W9 (wpAny_field g1 g3 g4 ?_)
 rw[if_pos (by simp)]
 refine wpAny_setField g7 g8 sz ?_
 generalize hu:s.heap.update T _=h'
 have ap:∀b,b≠T->h'.get? b=s.heap.get? b:=λb n=>by rw[<-hu];exact Heap.get?_update_other _ _ (Ne.symm n)
 have pl:∀b o,s.heap.get? b=some o->(∀vs,o.data≠.fields vs)->h'.get? b=some o:=λb o q n=>(ap b λz=>by rw[z,g7] at q;cases q;exact n ws g8).trans q
 refine k h' ⟨λb o q=>(ap b λz=>by rw[z,g5] at q;cases q).trans (x1 b o q),x2,x3.of_keeps λb o q n=>⟨o,pl b o q n,rfl⟩,ox,us,T,Obj.mapFields (·.setIfInBounds 3 .none) ot,ws.setIfInBounds 3 .none,(ap e (Ne.symm g6)).trans g1,g2,g3,g4,g5,g6,?_,Obj.data_mapFields g8 _,?_⟩ λb o q n=>⟨o.slots,pl b o q n⟩
 ·rw[<-hu];exact Heap.get?_update_self _ g7 (Obj.isFreed_of_fields (Obj.data_mapFields g8 _))
 ·simp[sz]
end
end J
namespace J
open PySem PySem.Spec PyProof.Rows L2
structure Lm where
 a:WN
 c:WN
 q:PySem.Str
 xs:List V
inductive Wv where
 | aE
 | bl (b:Bool)
 | int (i:Int)
 | str (x:PySem.Str)
 | tup (ws:List Wv)
 | mI (ws:List Wv)
 | ref (l:Nat)
 | ty (n:String)
 | cls (c:PySem.Str)
 | fk (c:PySem.Str)
 | fn (p:Lm) (ws:List Wv)
inductive Ob where
 | lst (ws:List Wv)
 | j6 (ns:List Int)
 | dct (kvs:List (L2.Key×Wv))
 | cB (kvs:List (List L2.Key×Wv))
 | jv (kvs:List (List L2.Key×Wv))
abbrev Hs:=List Ob
abbrev St:=L2.St
abbrev aT:=List (Option Wv)
abbrev Mp:=List WN
def h_(a C:WN):Heap->Prop:=λh=>∃o,h.get? a=some o/\o.cls= .ref C/\∃vs,o.data= .fields vs
def NT(a C:WN)(u:Option HO):Prop:=∃o vs,u=some (.bR o (.ext (h_ a C)))/\o.data= .fields vs/\vs[2]? =some Value.none
theorem F6{P:WS}{w:WV}{H:Hp}{h:Heap}{a C:WN}(ok:gX P w H h)(x:NT a C (H a)):h_ a C h:=let ⟨_,_,e,_⟩:=x;(ok a _ e).2.1
def ClsAt(K:PySem.W.Frag)(c:PySem.Str)(C:WN):Prop:=PySem.W.nsIn K W5 c=some (some (.ref C))
def Ap(c:WN)(q:PySem.Str):Heap->Prop:=λh=>h.CodeRec (.ref c) q
def bM:List PySem.Str:=["form_of","formula_by","turned"]
def gA(K:PySem.W.Frag)(q:PySem.Str):Option WN:=match PySem.W.tabIn K q with
 | some (_,P)=>if(K.lookup P).isNone=true then some P else none
 | none=>none
def Pn(q:PySem.Str):PySem.Str:=(q++".<locals>.")++"<lambda>"
def qw(K:PySem.W.Frag)(H:Hp):Prop:=∀q P,q∈bM->gA K q=some P->∃ps,H P=some (.br ps)/\TriplesOk ps.toList/\∀pos cv,codeAmong pos ps.toList=some cv->∃c,cv= .ref c/\H c=some (.ext (Ap c (Pn q)))
theorem qw.keep{K:PySem.W.Frag}{H H':Hp}(t:qw K H)(h1:∀a ps,H a=some (.br ps)->H' a=some (.br ps))(h2:∀a φ,H a=some (.ext φ)->H' a=some (.ext φ)):qw K H':=λq P hq hP=>by
 obtain⟨ps,e1,e2,e3⟩:=t q P hq hP
 refine⟨ps,h1 _ _ e1,e2,λpos cv e=>?_⟩
 obtain⟨c,f1,f2⟩:=e3 pos cv e
 exact⟨c,f1,h2 _ _ f2⟩
def Po(K:PySem.W.Frag)(a:WN)(xs:List V):Prop:=∃(o:Obj)(its:Array WU)(n:Nat),K.lookup a=some o/\o.cls= .type "tuple"/\o.data= .seq its n/\its.size<=W6/\Vals xs its.toList
mutual
def af(K:PySem.W.Frag)(m:Mp)(H:Hp):Wv->V->Prop
 | .aE,v=>v= .aE
 | .bl b,v=>v= .bl b
 | .int i,v=>v= .int i
 | .str x,v=>v= .str x/\PyData.strOk x=true
 | .tup ws,v=>∃a xs,v= .ref a/\H a=some (.tup xs)/\ah K m H ws xs
 | .mI ws,v=>∃a xs,v= .ref a/\Po K a xs/\ah K m H ws xs
 | .ref l,v=>∃a,v= .ref a/\m[l]? =some a
 | .ty n,v=>v= .ty n
 | .cls c,v=>∃C,v= .ref C/\ClsAt K c C
 | .fk c,v=>∃a C,v= .ref a/\ClsAt K c C/\NT a C (H a)
 | .fn p ws,v=>v= .ref p.a/\H p.c=some (.ext (Ap p.c p.q))/\ah K m H ws p.xs
def ah(K:PySem.W.Frag)(m:Mp)(H:Hp):List Wv->List V->Prop
 | [],xs=>xs=[]
 | w::ws,xs=>∃x r,xs=x::r/\af K m H w x/\ah K m H ws r
end
structure Ext(K:PySem.W.Frag)(m:Mp)(H:Hp)(m':Mp)(H':Hp):Prop where
 pre:∀(l:Nat)(a:WN),m[l]? =some a->m'[l]? =some a
 tup:∀(a:WN)(xs:List V),H a=some (.tup xs)->H' a=some (.tup xs)
 ext:∀(a:WN)(φ:Heap->Prop),H a=some (.ext φ)->H' a=some (.ext φ)
 bR:∀(a:WN)(o:Obj)(u:HO),H a=some (.bR o u)->H' a=some (.bR o u)
section
variable {K:PySem.W.Frag} {m m1 m2:Mp} {H H1 H2:Hp}
theorem Ext.refl:Ext K m H m H:=⟨λ_ _ h=>h,λ_ _ h=>h,λ_ _ h=>h,λ_ _ _ h=>h⟩
theorem Ext.trans(a:Ext K m H m1 H1)(b:Ext K m1 H1 m2 H2):Ext K m H m2 H2 :=
 ⟨λl x h=>b.pre l x (a.pre l x h),λx xs h=>b.tup x xs (a.tup x xs h),λx φ h=>b.ext x φ (a.ext x φ h),λx o u h=>b.bR x o u (a.bR x o u h)⟩
structure r_(K:PySem.W.Frag)(m:Mp)(H:Hp)(m':Mp)(H':Hp):Prop where
 pre:∀(l:Nat)(a:WN),m[l]? =some a->m'[l]? =some a
 tup:∀(a:WN)(xs:List V),H a=some (.tup xs)->H' a=some (.tup xs)
 ext:∀(a:WN)(φ:Heap->Prop),H a=some (.ext φ)->H' a=some (.ext φ)
 fx:∀(a:WN)(o:Obj)(φ:Heap->Prop),H a=some (.bR o (.ext φ))->H' a=some (.bR o (.ext φ))
theorem Ext.z(e:Ext K m H m1 H1):r_ K m H m1 H1:=⟨e.pre,e.tup,e.ext,λa o φ h=>e.bR a o _ h⟩
mutual
theorem af.cQ(e:r_ K m H m1 H1):∀(w:Wv)(v:V),af K m H w v->af K m1 H1 w v
 | .aE,v,h=>by unfold af at h ⊢;exact h
 | .bl b,v,h=>by unfold af at h ⊢;exact h
 | .int i,v,h=>by unfold af at h ⊢;exact h
 | .str x,v,h=>by unfold af at h ⊢;exact h
 | .ty n,v,h=>by unfold af at h ⊢;exact h
 | .cls c,v,h=>by unfold af at h ⊢;exact h
 | .fk c,v,h=>by
  unfold af at h ⊢
  obtain⟨a,C,e1,e2,o,vs,e3,e4⟩:=h
  exact⟨a,C,e1,e2,o,vs,e.fx _ _ _ e3,e4⟩
 | .ref l,v,h=>by
  unfold af at h ⊢
  obtain⟨a,e1,e2⟩:=h
  exact⟨a,e1,e.pre _ _ e2⟩
 | .tup ws,v,h=>by
  unfold af at h ⊢
  obtain⟨a,xs,e1,e2,e3⟩:=h
  exact⟨a,xs,e1,e.tup _ _ e2,ah.cQ e ws xs e3⟩
 | .mI ws,v,h=>by
  unfold af at h ⊢
  obtain⟨a,xs,e1,e2,e3⟩:=h
  exact⟨a,xs,e1,e2,ah.cQ e ws xs e3⟩
 | .fn p ws,v,h=>by
  unfold af at h ⊢
  obtain⟨e1,e2,e3⟩:=h
  exact⟨e1,e.ext _ _ e2,ah.cQ e ws p.xs e3⟩
theorem ah.cQ(e:r_ K m H m1 H1):∀(ws:List Wv)(xs:List V),ah K m H ws xs->ah K m1 H1 ws xs
 | [],xs,h=>by unfold ah at h ⊢;exact h
 | w::ws,xs,h=>by
  unfold ah at h ⊢
  obtain⟨x,r,e1,e2,e3⟩:=h
  exact⟨x,r,e1,af.cQ e w x e2,ah.cQ e ws r e3⟩
end
theorem af.mono(e:Ext K m H m1 H1)(w:Wv)(v:V)(h:af K m H w v):af K m1 H1 w v:=af.cQ e.z w v h
theorem ah.mono(e:Ext K m H m1 H1)(ws:List Wv)(xs:List V)(h:ah K m H ws xs):ah K m1 H1 ws xs:=ah.cQ e.z ws xs h
theorem ah.nil:ah K m H [] []:=by unfold ah;rfl
theorem ah.cons{w:Wv}{x:V}{ws:List Wv}{xs:List V}(h:af K m H w x)(t:ah K m H ws xs):ah K m H (w::ws) (x::xs):=by unfold ah;exact⟨x,xs,rfl,h,t⟩
theorem ah.length:∀{ws:List Wv}{xs:List V},ah K m H ws xs->ws.length=xs.length
 | [],xs,h=>by unfold ah at h;subst h;rfl
 | w::ws,xs,h=>by
  unfold ah at h
  obtain⟨x,r,e1,_,e3⟩:=h
  subst e1
  simp[ah.length e3]
theorem ah.get:∀{ws:List Wv}{xs:List V}{i:Nat}{w:Wv},ah K m H ws xs->ws[i]? =some w->∃x,xs[i]? =some x/\af K m H w x
 | [],_,i,w,_,e=>by simp at e
 | a::ws,xs,0,w,h,e=>by
  unfold ah at h
  obtain⟨x,r,e1,e2,_⟩:=h
  subst e1
  simp at e
  subst e
  exact⟨x,rfl,e2⟩
 | a::ws,xs,i+1,w,h,e=>by
  unfold ah at h
  obtain⟨x,r,e1,_,e3⟩:=h
  subst e1
  obtain⟨y,f1,f2⟩:=ah.get (i:=i) (w:=w) e3 (by simpa using e)
  exact⟨y,by simpa using f1,f2⟩
theorem ah.append:∀{ws zs:List Wv}{xs ys:List V},ah K m H ws xs->ah K m H zs ys->ah K m H (ws++zs) (xs++ys)
 | [],_,xs,_,h,g=>by unfold ah at h;subst h;exact g
 | w::ws,zs,xs,ys,h,g=>by
  unfold ah at h
  obtain⟨x,r,e1,e2,e3⟩:=h
  subst e1
  exact ah.cons e2 (ah.append e3 g)
theorem ah.set:∀{ws:List Wv}{xs:List V}(i:Nat){w:Wv}{x:V},ah K m H ws xs->af K m H w x->ah K m H (ws.set i w) (xs.set i x)
 | [],xs,i,w,x,h,_=>by unfold ah at h;subst h;exact ah.nil
 | a::ws,xs,0,w,x,h,g=>by
  unfold ah at h
  obtain⟨y,r,e1,e2,e3⟩:=h
  subst e1
  exact ah.cons g e3
 | a::ws,xs,i+1,w,x,h,g=>by
  unfold ah at h
  obtain⟨y,r,e1,e2,e3⟩:=h
  subst e1
  exact ah.cons e2 (ah.set i e3 g)
theorem ah.drop:∀{ws:List Wv}{xs:List V}(i:Nat),ah K m H ws xs->ah K m H (ws.drop i) (xs.drop i)
 | ws,xs,0,h=>by simpa using h
 | [],xs,i+1,h=>by unfold ah at h;subst h;simpa using ah.nil
 | a::ws,xs,i+1,h=>by
  unfold ah at h
  obtain⟨y,r,e1,e2,e3⟩:=h
  subst e1
  simpa using ah.drop i e3
theorem ah.take:∀{ws:List Wv}{xs:List V}(i:Nat),ah K m H ws xs->ah K m H (ws.take i) (xs.take i)
 | ws,xs,0,h=>by simpa using ah.nil
 | [],xs,i+1,h=>by unfold ah at h;subst h;simpa using ah.nil
 | a::ws,xs,i+1,h=>by
  unfold ah at h
  obtain⟨y,r,e1,e2,e3⟩:=h
  subst e1
  simpa using ah.cons e2 (ah.take i e3)
theorem ah.ints:∀(ns:List Int),ah K m H (ns.map Wv.int) (ns.map V.int)
 | []=>ah.nil
 | n::ns=>ah.cons (by unfold af;rfl) (ah.ints ns)
end
def sf(K:PySem.W.Frag)(H:Hp)(a:WN)(ns:List Int):Prop :=
 (∃o,H a=some (.bR o (.lst (ns.map V.int))))\/
  ∃(o:Obj)(its:Array WU)(n:Nat),K.lookup a=some o/\o.cls= .type "list"/\o.dict=none/\o.data= .seq its n/\its.size<=W6/\Vals (ns.map V.int) its.toList
def RelK{κ:Type}(K:PySem.W.Frag)(m:Mp)(H:Hp)(kvs:List (κ×Wv))(xs:List (κ×V)):Prop:=kvs.map (·.1)=xs.map (·.1)/\ah K m H (kvs.map (·.2)) (xs.map (·.2))
def oI(K:PySem.W.Frag)(m:Mp)(H:Hp)(a:WN):Ob->Prop
 | .lst ws=>∃xs,H a=some (.lst xs)/\ah K m H ws xs
 | .j6 ns=>sf K H a ns
 | .dct kvs=>∃xs,H a=some (.dK xs)/\RelK K m H kvs xs
 | .cB kvs=>∃xs,H a=some (.dT xs)/\RelK K m H kvs xs
 | .jv kvs=>∃o xs,H a=some (.bR o (.dT xs))/\RelK K m H kvs xs
def Ob.mu:Ob->Bool
 | .j6 _=>false
 | _=>true
def Ob.wm:Ob->Bool
 | .j6 _=>false
 | .jv _=>false
 | _=>true
theorem Ob.L5{o:Ob}(h:o.wm=true):o.mu=true:=by cases o<;>first | rfl | cases h
structure aK(K:PySem.W.Frag)(m:Mp)(st:Hs)(H:Hp):Prop where
 len:m.length=st.length
 obj:∀(l:Nat)(a:WN)(o:Ob),m[l]? =some a->st[l]? =some o->oI K m H a o
 inj:∀(l l':Nat)(a:WN)(o o':Ob),m[l]? =some a->m[l']? =some a->st[l]? =some o->st[l']? =some o'->o.mu=true->o'.mu=true->l=l'
 tab:qw K H
def ag(st:Hs)(l:Nat):Option (List Wv):=match st[l]? with
 | some (.lst ws)=>some ws
 | some (.j6 ns)=>some (ns.map Wv.int)
 | _=>none
section
variable {K:PySem.W.Frag} {m:Mp} {H:Hp} {st:Hs}
def Wr(u:Option HO):Prop:=u=none\/(∃ys,u=some (.lst ys))\/(∃ys,u=some (.dK ys))\/∃ys,u=some (.dT ys)
theorem Wr.ne{p a:WN}{u:HO}(hp:Wr (H p))(e:H a=some u)(n1:∀ys,u≠.lst ys)(n2:∀ys,u≠.dK ys)(n3:∀ys,u≠.dT ys):a≠p:=λz=>by
 subst z
 rcases hp with q | ⟨ys,q⟩ | ⟨ys,q⟩ | ⟨ys,q⟩
 ·rw[q] at e;cases e
 ·rw[q] at e;cases e;exact n1 ys rfl
 ·rw[q] at e;cases e;exact n2 ys rfl
 ·rw[q] at e;cases e;exact n3 ys rfl
theorem Aq{p a:WN}{o:HO}{xs:List V}(hp:Wr (H p))(h:H a=some (.tup xs)):upd H p o a=some (.tup xs):=by
 rw[au (hp.ne h (by intro ys z;cases z) (by intro ys z;cases z) (by intro ys z;cases z))];exact h
theorem Ar{p a:WN}{o:HO}{ns:List Int}(hp:Wr (H p))(h:sf K H a ns):sf K (upd H p o) a ns:=by
 rcases h with ⟨o',h⟩ | h
 ·exact .inl ⟨o',by rw[au (hp.ne h (by intro ys z;cases z) (by intro ys z;cases z) (by intro ys z;cases z))];exact h⟩
 ·exact .inr h
theorem Wr.of{u:Option HO}(h:u=none\/∃ys,u=some (.lst ys)):Wr u:=by
 rcases h with q | q
 ·exact .inl q
 ·exact .inr (.inl q)
theorem Ext.g_{p:WN}{o:HO}(hp:Wr (H p)):Ext K m H m (upd H p o):=⟨λ_ _ h=>h,λ_ _ h=>Aq hp h,λa φ h=>by
 rw[au (hp.ne h (by intro ys z;cases z) (by intro ys z;cases z) (by intro ys z;cases z))]
 exact h,λa o u h=>by
 rw[au (hp.ne h (by intro ys z;cases z) (by intro ys z;cases z) (by intro ys z;cases z))]
 exact h⟩
theorem Ext.upd{p:WN}{o:HO}(hp:H p=none\/∃ys,H p=some (.lst ys)):Ext K m H m (upd H p o):=Ext.g_ (Wr.of hp)
theorem RelK.mono{κ:Type}{m1:Mp}{H1:Hp}{kvs:List (κ×Wv)}{xs:List (κ×V)}(e:Ext K m H m1 H1)(h:RelK K m H kvs xs):RelK K m1 H1 kvs xs:=⟨h.1,ah.mono e _ _ h.2⟩
theorem oI.keep{m1:Mp}{b p:WN}{u:HO}{o:Ob}(ex:Ext K m H m1 (L2.upd H p u))(hp:Wr (H p))(hb:o.mu=true->b≠p)(h:oI K m H b o):oI K m1 (L2.upd H p u) b o:=by
 cases o with
 | lst ws=>
  obtain⟨xs,e1,e2⟩:=h
  exact⟨xs,by rw[au (hb rfl)];exact e1,ah.mono ex _ _ e2⟩
 | dct kvs=>
  obtain⟨xs,e1,e2⟩:=h
  exact⟨xs,by rw[au (hb rfl)];exact e1,e2.mono ex⟩
 | cB kvs=>
  obtain⟨xs,e1,e2⟩:=h
  exact⟨xs,by rw[au (hb rfl)];exact e1,e2.mono ex⟩
 | jv kvs=>
  obtain⟨o,xs,e1,e2⟩:=h
  exact⟨o,xs,by rw[au (hb rfl)];exact e1,e2.mono ex⟩
 | j6 ns=>exact Ar hp h
theorem oI.at{b:WN}{o:Ob}(h:oI K m H b o)(hm:o.mu=true):∃u,H b=some u:=by
 cases o with
 | lst ws=>obtain⟨xs,e1,e2⟩:=h;exact⟨_,e1⟩
 | dct kvs=>obtain⟨xs,e1,e2⟩:=h;exact⟨_,e1⟩
 | cB kvs=>obtain⟨xs,e1,e2⟩:=h;exact⟨_,e1⟩
 | jv kvs=>obtain⟨o,xs,e1,e2⟩:=h;exact⟨_,e1⟩
 | j6 ns=>simp[Ob.mu] at hm
theorem oI.wr{b:WN}{o:Ob}(h:oI K m H b o)(hm:o.wm=true):Wr (H b):=by
 cases o with
 | lst ws=>obtain⟨xs,e1,e2⟩:=h;exact .inr (.inl ⟨_,e1⟩)
 | dct kvs=>obtain⟨xs,e1,e2⟩:=h;exact .inr (.inr (.inl ⟨_,e1⟩))
 | cB kvs=>obtain⟨xs,e1,e2⟩:=h;exact .inr (.inr (.inr ⟨_,e1⟩))
 | jv kvs=>cases hm
 | j6 ns=>cases hm
theorem qw.g_{p:WN}{o:HO}(t:qw K H)(hp:Wr (H p)):qw K (L2.upd H p o):=t.keep
 (λa ps h=>by rw[au (hp.ne h (by intro ys z;cases z) (by intro ys z;cases z) (by intro ys z;cases z))];exact h)
 λa φ h=>by rw[au (hp.ne h (by intro ys z;cases z) (by intro ys z;cases z) (by intro ys z;cases z))];exact h
theorem Ext.more{p:WN}:Ext K m H (m++[p]) H:=⟨λl a h=>by
 rw[List.getElem?_append_left]
 ·exact h
 ·exact(List.getElem?_eq_some_iff.mp h).1,λ_ _ h=>h,λ_ _ h=>h,λ_ _ _ h=>h⟩
theorem aK.fresh{p:WN}{o:HO}(S:aK K m st H)(hp:H p=none):aK K m st (upd H p o) :=
 ⟨S.len,λl a ob h1 h2=>by
  have q:=S.obj l a ob h1 h2
  refine q.keep (Ext.g_ (.inl hp)) (.inl hp) λhm=>?_
  obtain⟨u,e⟩:=q.at hm
  exact bE e hp,S.inj,S.tab.g_ (.inl hp)⟩
theorem aK.mJ{l:Nat}{a:WN}{ws:List Wv}(S:aK K m st H)(h1:m[l]? =some a)(h2:st[l]? =some (.lst ws)):∃xs,H a=some (.lst xs)/\ah K m H ws xs:=S.obj l a _ h1 h2
theorem aK.read{l:Nat}{a:WN}{ws:List Wv}(S:aK K m st H)(h1:m[l]? =some a)(h2:ag st l=some ws):∃xs,gZ K H a xs/\ah K m H ws xs:=by
 unfold ag at h2
 cases e:st[l]? with
 | none=>rw[e] at h2;cases h2
 | some o=>
  rw[e] at h2
  cases o with
  | lst zs=>
   cases h2
   obtain⟨xs,e1,e2⟩:=S.mJ h1 e
   exact⟨xs,gZ.of e1,e2⟩
  | dct kvs=>cases h2
  | cB kvs=>cases h2
  | jv kvs=>cases h2
  | j6 ns=>
   cases h2
   have q:sf K H a ns:=S.obj l a _ h1 e
   refine⟨ns.map V.int,?_,ah.ints ns⟩
   rcases q with ⟨o,q⟩ | q
   ·exact .inl (.inr ⟨o,q⟩)
   ·exact .inr q
theorem aK.qx{p:WN}{ob:Ob}{u:HO}(S:aK K m st H)(hp:H p=none)(r:oI K (m++[p]) (L2.upd H p u) p ob):aK K (m++[p]) (st++[ob]) (L2.upd H p u):=by
 have ex:Ext K m H (m++[p]) (L2.upd H p u):=Ext.more.trans (Ext.g_ (.inl hp))
 have As:∀(l:Nat)(o:Ob),m[l]? =some p->st[l]? =some o->o.mu=true->False:=λl o h1 h2 hm=>by
  obtain⟨v,e⟩:=(S.obj l p o h1 h2).at hm
  rw[hp] at e;cases e
 have old:∀(l:Nat)(a:WN),(m++[p])[l]? =some a->(l < m.length/\m[l]? =some a)\/(l=m.length/\a=p):=λl a h=>by
  by_cases hl:l < m.length
  ·exact .inl ⟨hl,by rw[List.getElem?_append_left hl] at h;exact h⟩
  ·have h':=h
   rw[List.getElem?_append_right (by omega)] at h'
   have z:=List.getElem?_eq_some_iff.mp h'
   have z1:l - m.length < 1:=by simpa using z.1
   refine .inr ⟨by omega,?_⟩
   have e0:l - m.length=0:=by omega
   rw[e0] at h'
   simpa using h'.symm
 have olds:∀(l:Nat)(o:Ob),l < m.length->(st++[ob])[l]? =some o->st[l]? =some o:=λl o hl h=>by
  rw[List.getElem?_append_left (by rw[<-S.len];exact hl)] at h
  exact h
 refine⟨by simp[S.len],λl a o h1 h2=>?_,λl l' a zs zs' h1 zx h2 h2' k k'=>?_,S.tab.g_ (.inl hp)⟩
 ·rcases old l a h1 with ⟨hl,h1⟩ | ⟨hl,rfl⟩
  ·have q:=S.obj l a o h1 (olds l o hl h2)
   refine q.keep ex (.inl hp) λhm=>?_
   obtain⟨v,e⟩:=q.at hm
   exact bE e hp
  ·have e:o=ob:=by
    rw[hl,S.len,List.getElem?_append_right (Nat.le_refl _),Nat.sub_self] at h2
    simpa using h2.symm
   subst e
   exact r
 ·rcases old l a h1 with ⟨hl,g1⟩ | ⟨hl,ea⟩
  ·rcases old l' a zx with ⟨hl',F7⟩ | ⟨hl',ea'⟩
   ·exact S.inj l l' a zs zs' g1 F7 (olds l _ hl h2) (olds l' _ hl' h2') k k'
   ·rw[ea'] at g1
    exact(As l zs g1 (olds l _ hl h2) k).elim
  ·rcases old l' a zx with ⟨hl',F7⟩ | ⟨hl',_⟩
   ·rw[ea] at F7
    exact(As l' zs' F7 (olds l' _ hl' h2') k').elim
   ·omega
theorem aK.alloc{p:WN}{ws:List Wv}{xs:List V}(S:aK K m st H)(hp:H p=none)(r:ah K m H ws xs):aK K (m++[p]) (st++[.lst ws]) (upd H p (.lst xs)) :=
 S.qx hp ⟨xs,aC,ah.mono (Ext.more.trans (Ext.g_ (.inl hp))) _ _ r⟩
theorem aK.mK{l:Nat}{a:WN}{o0 ob:Ob}{u:HO}(S:aK K m st H)(h1:m[l]? =some a)(h2:st[l]? =some o0)(hw:o0.wm=true)(r:oI K m (L2.upd H a u) a ob):aK K m (st.set l ob) (L2.upd H a u):=by
 have wr:Wr (H a):=(S.obj l a o0 h1 h2).wr hw
 have hm:=Ob.L5 hw
 have ex:Ext K m H m (L2.upd H a u):=Ext.g_ wr
 have hl:l < st.length:=(List.getElem?_eq_some_iff.mp h2).1
 have at':∀(k:Nat)(o:Ob),(st.set l ob)[k]? =some o->(k=l/\o=ob)\/(k≠l/\st[k]? =some o):=λk o h=>by
  by_cases e:l=k
  ·subst e
   rw[List.getElem?_set_self hl] at h
   exact .inl ⟨rfl,(Option.some.inj h).symm⟩
  ·rw[List.getElem?_set_ne e] at h
   exact .inr ⟨λz=>e z.symm,h⟩
 refine⟨by simp[S.len],λk b o g1 g2=>?_,λk k' b us us' g1 F7 g2 Pp q q'=>?_,S.tab.g_ wr⟩
 ·rcases at' k o g2 with ⟨rfl,rfl⟩ | ⟨hk,g2⟩
  ·rw[h1] at g1;cases g1
   exact r
  ·have q:=S.obj k b o g1 g2
   refine q.keep ex wr λho z=>?_
   subst z
   exact hk (S.inj k l b o o0 g1 h1 g2 h2 ho hm)
 ·have back:∀(k:Nat)(o:Ob),(st.set l ob)[k]? =some o->o.mu=true->∃o',st[k]? =some o'/\o'.mu=true:=λk o h ho=>by
   rcases at' k _ h with ⟨rfl,_⟩ | ⟨_,h⟩
   ·exact⟨o0,h2,hm⟩
   ·exact⟨o,h,ho⟩
  obtain⟨u1,e1,f1⟩:=back k us g2 q
  obtain⟨u2,e2,f2⟩:=back k' us' Pp q'
  exact S.inj k k' b u1 u2 g1 F7 e1 e2 f1 f2
theorem aK.write{l:Nat}{a:WN}{ws zs:List Wv}{xs:List V}(S:aK K m st H)(h1:m[l]? =some a)(h2:st[l]? =some (.lst ws))(r:ah K m H zs xs):aK K m (st.set l (.lst zs)) (upd H a (.lst xs)) :=
 S.mK h1 h2 rfl ⟨xs,aC,ah.mono (Ext.g_ ((S.obj l a _ h1 h2).wr rfl)) _ _ r⟩
end
structure aq(K:PySem.W.Frag)(m:Mp)(H:Hp)(ρ:aT)(σ:St):Prop where
 len:ρ.length=σ.length
 get:∀(i:Nat)(w:Wv),ρ[i]? =some (some w)->∃v,σ[i]? =some (some v)/\af K m H w v
section
variable {K:PySem.W.Frag} {m m1:Mp} {H H1:Hp} {ρ:aT} {σ:St}
theorem aq.mono(R:aq K m H ρ σ)(e:Ext K m H m1 H1):aq K m1 H1 ρ σ:=⟨R.len,λi w h=>let ⟨v,h1,h2⟩:=R.get i w h;⟨v,h1,af.mono e _ _ h2⟩⟩
theorem aq.set(R:aq K m H ρ σ)(i:Nat){w:Wv}{v:V}(h:af K m H w v):aq K m H (ρ.set i (some w)) (σ.set i (some v)):=by
 refine⟨by simp[R.len],λj u e=>?_⟩
 by_cases hj:i=j
 ·subst hj
  have hi:i < ρ.length:=by
   have:=(List.getElem?_eq_some_iff.mp e).1
   simpa using this
  rw[List.getElem?_set_self hi] at e
  have e':w=u:=Option.some.inj (Option.some.inj e)
  subst e'
  exact⟨v,by rw[List.getElem?_set_self (by rw[<-R.len];exact hi)],h⟩
 ·rw[List.getElem?_set_ne hj] at e
  obtain⟨x,h1,h2⟩:=R.get j u e
  exact⟨x,by rw[List.getElem?_set_ne hj];exact h1,h2⟩
end
inductive Re(α:Type) where
 | ok (a:α) (st:Hs)
 | err (c:PySem.Str) (st:Hs)
 | bad
def Re.bind{α β:Type}(r:Re α)(f:α->Hs->Re β):Re β:=match r with
 | .ok a st=>f a st
 | .err c st=> .err c st
 | .bad=> .bad
inductive Rs where
 | nx (ρ:aT) (st:Hs)
 | rt (w:Wv) (st:Hs)
 | bk (ρ:aT) (st:Hs)
 | ct (ρ:aT) (st:Hs)
 | err (c:PySem.Str) (ρ:aT) (st:Hs)
 | bad
def Re.aI{α:Type}(ρ:aT)(r:Re α)(f:α->Hs->Rs):Rs:=match r with
 | .ok a st=>f a st
 | .err c st=> .err c ρ st
 | .bad=> .bad
def Re.gw{α:Type}(r:Re α):Re α:=match r with
 | .ok a st=> .ok a st
 | _=> .bad
abbrev GE:=aT->Hs->Re Wv
abbrev GT:=aT->Hs->Re Bool
abbrev GA:=aT->Hs->Re (List Wv)
abbrev GS:=aT->Hs->Rs
def sh(P:WS)(w:WV)(outer:List Env)(H:Hp)(s:WT)(H':Hp)(cls:WU)(e:WU)(s':WT):Prop :=
 ∃(a:WN)(a0:WU)(B:Heap),e= .ref a/\s'.os=s.os/\AllBare s'.gens/\Un (frs outer) [] H H' s.heap s'.heap/\gX P w H' B/\qv B outer a cls a0 s'.heap/\
  (∀b o,s.heap.get? b=some o->b∉frs outer->∃o',B.get? b=some o'/\(H b=none->o'=o))
def ic(X:Cx)(pins:List (WN×Obj))(H:Hp)(s:WT)(H':Hp)(cls:WU)(e:WU)(s':WT):Prop :=
 ∃(a:WN)(a0 nt:WU)(B:Heap)(ch:List WN),e= .ref a/\s'.os=s.os/\AllBare s'.gens/\(∀b∈ch,dX X pins H b)/\Un (frs X.stack) ch H H' s.heap s'.heap/\gX X.prog X.w H' B/\
  (B.StaysIn s'.heap/\B.get? a=none/\s'.heap.FunFrames B X.stack/\NR s'.heap B a cls a0 nt)/\
  (∀b o,s.heap.get? b=some o->b∉frs X.stack->b∉ch->∃o',B.get? b=some o'/\(H b=none->o'=o))
theorem sh.any{X:Cx}{pins:List (WN×Obj)}{H H':Hp}{s s':WT}{cls e:WU}(f:sh X.prog X.w X.stack H s H' cls e s'):ic X pins H s H' cls e s' :=
 let ⟨a,a0,B,e1,e2,e3,un,hok,fl,iZ⟩:=f
 ⟨a,a0,.none,B,[],e1,e2,e3,(λb z=>by cases z),un,hok,fl,λb o q hb _=>iZ b o q hb⟩
def qy(X:Cx)(σ:St)(H':Hp)(c:PySem.Str)(e:WU)(s':WT):Prop :=
 ∃(C:WN)(pins:List (WN×Obj))(Hc:Hp)(sc:WT),ClsAt X.K c C/\Inv X pins σ Hc sc/\
  (ic X pins Hc sc H' (.ref C) e s'\/(H'=Hc/\∃a args,e= .ref a/\s'.os=sc.os/\s'.gens=sc.gens/\Heap.MadeExcOf sc.heap s'.heap a (.ref C) args))
def K_(X:Cx)(σ:St)(m:Mp)(H:Hp)(c:PySem.Str)(st:Hs):Prop :=
 ∀(m':Mp)(H':Hp)(e:WU)(s':WT),Ext X.K m H m' H'->aK X.K m' st H'->qy X σ H' c e s'->X.xe e s'
theorem K_.mono{X:Cx}{σ:St}{m m1:Mp}{H H1:Hp}{c:PySem.Str}{st:Hs}(h:K_ X σ m H c st)(e:Ext X.K m H m1 H1):K_ X σ m1 H1 c st :=
 λm' H' x s' e' S r=>h m' H' x s' (e.trans e') S r
def ao{α:Type}(X:Cx)(σ:St)(m:Mp)(H:Hp)(r:Re α)(ok:α->Hs->Prop):Prop:=match r with
 | .ok a st=>ok a st
 | .err c st=>K_ X σ m H c st
 | .bad=>False
def jG{α:Type}(r:Re α)(ok:α->Hs->Prop):Prop:=match r with
 | .ok a st=>ok a st
 | _=>False
theorem ao.gw{α:Type}{X:Cx}{σ:St}{m:Mp}{H:Hp}{r:Re α}{ok:α->Hs->Prop}(h:ao X σ m H r.gw ok):jG r ok:=by
 cases r with
 | ok a st=>exact h
 | err c st=>exact h
 | bad=>exact h
theorem ao.bind{α β:Type}{X:Cx}{σ:St}{m:Mp}{H:Hp}{r:Re α}{f:α->Hs->Re β}{ok:β->Hs->Prop}(h:ao X σ m H (r.bind f) ok):ao X σ m H r (λa st=>ao X σ m H (f a st) ok):=by
 cases r with
 | ok a st=>exact h
 | err c st=>exact h
 | bad=>exact h
theorem ao.imp{α:Type}{X:Cx}{σ:St}{m m1:Mp}{H H1:Hp}{r:Re α}{ok ok':α->Hs->Prop}(h:ao X σ m H r ok)(e:Ext X.K m H m1 H1)(k:∀a st,ok a st->ok' a st):ao X σ m1 H1 r ok':=by
 cases r with
 | ok a st=>exact k a st h
 | err c st=>exact K_.mono (c:=c) (st:=st) h e
 | bad=>exact h
theorem jG.imp{α:Type}{r:Re α}{ok ok':α->Hs->Prop}(h:jG r ok)(k:∀a st,ok a st->ok' a st):jG r ok':=by
 cases r with
 | ok a st=>exact k a st h
 | err c st=>exact h
 | bad=>exact h
def Ih(K:PySem.W.Frag)(m:Mp)(H:Hp)(Q:VK)(w:Wv)(st:Hs):Prop:=∀(v:V)(m':Mp)(H':Hp),Ext K m H m' H'->aK K m' st H'->af K m' H' w v->Q v H'
def T9(K:PySem.W.Frag)(m:Mp)(H:Hp)(Q:Bool->Hp->Prop)(b:Bool)(st:Hs):Prop:=∀(m':Mp)(H':Hp),Ext K m H m' H'->aK K m' st H'->Q b H'
def T_(K:PySem.W.Frag)(m:Mp)(H:Hp)(Q:List V->Hp->Prop)(ws:List Wv)(st:Hs):Prop:=∀(vs:List V)(m':Mp)(H':Hp),Ext K m H m' H'->aK K m' st H'->ah K m' H' ws vs->Q vs H'
abbrev cN(X:Cx)(σ:St)(m:Mp)(H:Hp)(r:Re Wv)(Q:VK):Prop:=ao X σ m H r (Ih X.K m H Q)
abbrev fV(X:Cx)(σ:St)(m:Mp)(H:Hp)(r:Re Bool)(Q:Bool->Hp->Prop):Prop:=ao X σ m H r (T9 X.K m H Q)
abbrev F8(X:Cx)(σ:St)(m:Mp)(H:Hp)(r:Re (List Wv))(Q:List V->Hp->Prop):Prop:=ao X σ m H r (T_ X.K m H Q)
theorem cN.shift{X:Cx}{σ:St}{m m1:Mp}{H H1:Hp}{r:Re Wv}{Q:VK}(h:cN X σ m H r Q)(e:Ext X.K m H m1 H1):cN X σ m1 H1 r Q:=h.imp e λ_ _ k v m' H' e'=>k v m' H' (e.trans e')
theorem fV.shift{X:Cx}{σ:St}{m m1:Mp}{H H1:Hp}{r:Re Bool}{Q:Bool->Hp->Prop}(h:fV X σ m H r Q)(e:Ext X.K m H m1 H1):fV X σ m1 H1 r Q:=h.imp e λ_ _ k m' H' e'=>k m' H' (e.trans e')
abbrev bB(K:PySem.W.Frag)(m:Mp)(H:Hp)(r:Re Wv)(Q:VK):Prop:=jG r (Ih K m H Q)
theorem bB.shift{K:PySem.W.Frag}{m m1:Mp}{H H1:Hp}{r:Re Wv}{Q:VK}(h:bB K m H r Q)(e:Ext K m H m1 H1):bB K m1 H1 r Q:=jG.imp h λ_ _ k v m' H' e'=>k v m' H' (e.trans e')
def av(X:Cx)(m:Mp)(H:Hp)(r:Rs)(D:Ends):Prop:=match r with
 | .nx ρ st=>∀(σ:St)(m':Mp)(H':Hp),Ext X.K m H m' H'->aK X.K m' st H'->aq X.K m' H' ρ σ->D.nx σ H'
 | .rt w st=>∀(v:V)(m':Mp)(H':Hp),Ext X.K m H m' H'->aK X.K m' st H'->af X.K m' H' w v->D.rt v H'
 | .bk ρ st=>∀(σ:St)(m':Mp)(H':Hp),Ext X.K m H m' H'->aK X.K m' st H'->aq X.K m' H' ρ σ->D.bk σ H'
 | .ct ρ st=>∀(σ:St)(m':Mp)(H':Hp),Ext X.K m H m' H'->aK X.K m' st H'->aq X.K m' H' ρ σ->D.ct σ H'
 | .err c ρ st=>∀(σ:St)(m':Mp)(H':Hp)(e:WU)(s':WT),Ext X.K m H m' H'->aK X.K m' st H'->aq X.K m' H' ρ σ->qy X σ H' c e s'->X.xe e s'
 | .bad=>False
theorem av.shift{X:Cx}{m m1:Mp}{H H1:Hp}{r:Rs}{D:Ends}(h:av X m H r D)(e:Ext X.K m H m1 H1):av X m1 H1 r D:=by
 cases r with
 | nx ρ st=>exact λσ m' H' e'=>h σ m' H' (e.trans e')
 | rt w st=>exact λv m' H' e'=>h v m' H' (e.trans e')
 | bk ρ st=>exact λσ m' H' e'=>h σ m' H' (e.trans e')
 | ct ρ st=>exact λσ m' H' e'=>h σ m' H' (e.trans e')
 | err c ρ st=>exact λσ m' H' x s' e'=>h σ m' H' x s' (e.trans e')
 | bad=>exact h
theorem av.bF{α:Type}{X:Cx}{m:Mp}{H:Hp}{ρ:aT}{σ:St}{r:Re α}{f:α->Hs->Rs}{D:Ends}(R:aq X.K m H ρ σ)(h:av X m H (r.aI ρ f) D):ao X σ m H r (λa st=>av X m H (f a st) D):=by
 cases r with
 | ok a st=>exact h
 | err c st=>exact λm' H' x s' e' S r=>h σ m' H' x s' e' S (R.mono e') r
 | bad=>exact h
def SE(X:Cx)(e:Expr):TE:=λσ H Q=>∀(pins:List (WN×Obj))(s:WT),Inv X pins σ H s->W8 (model X.prog X.w) X.A (eval e X.env) (EP X pins σ Q) X.xe s
def ST(X:Cx)(e:Expr):TT:=λσ H Q=>∀(pins:List (WN×Obj))(s:WT),Inv X pins σ H s->W8 (model X.prog X.w) X.A (isTrue e X.env (eval e X.env)) (TP X pins σ Q) X.xe s
def SA(X:Cx)(es:List Expr):TA:=λσ H Q=>∀(pos:Pos)(pins:List (WN×Obj))(s:WT),Inv X pins σ H s->W8 (model X.prog X.w) X.A (spliced (backTo pos (W7 es X.env))) (AP X pins σ Q) X.xe s
def SS(X:Cx)(st:Stmt):TS:=λD σ H=>∀(pins:List (WN×Obj))(s:WT),Inv X pins σ H s->W8 (model X.prog X.w) X.A (exec st X.env) (SP X pins D) X.xe s
def L6(X:Cx)(st:List Stmt):TS:=λD σ H=>∀(pins:List (WN×Obj))(s:WT),Inv X pins σ H s->W8 (model X.prog X.w) X.A (execs st X.env) (SP X pins D) X.xe s
section
variable {X:Cx}
theorem aB{e:Expr}:PE X e (SE X e):=λpins s _ _ _ I h=>h pins s I
theorem kZ{e:Expr}:PT X e (ST X e):=λpins s _ _ _ I h=>h pins s I
theorem i6{es:List Expr}:PA X es (SA X es):=λpos pins s _ _ _ I h=>h pos pins s I
theorem F9{st:Stmt}:PS X st (SS X st):=λpins s _ _ _ I h=>h pins s I
theorem cC{st:List Stmt}:zv X st (L6 X st):=λpins s _ _ _ I h=>h pins s I
end
def JE(X:Cx)(e:Expr)(g:GE):Prop:=∀(ρ:aT)(st:Hs)(σ:St)(H:Hp)(m:Mp)(Q:VK),aK X.K m st H->aq X.K m H ρ σ->cN X σ m H (g ρ st) Q->SE X e σ H Q
def JT(X:Cx)(e:Expr)(g:GT):Prop:=∀(ρ:aT)(st:Hs)(σ:St)(H:Hp)(m:Mp)(Q:Bool->Hp->Prop),aK X.K m st H->aq X.K m H ρ σ->fV X σ m H (g ρ st) Q->ST X e σ H Q
def JA(X:Cx)(es:List Expr)(g:GA):Prop:=∀(ρ:aT)(st:Hs)(σ:St)(H:Hp)(m:Mp)(Q:List V->Hp->Prop),aK X.K m st H->aq X.K m H ρ σ->F8 X σ m H (g ρ st) Q->SA X es σ H Q
def JS(X:Cx)(s:Stmt)(g:GS):Prop:=∀(ρ:aT)(st:Hs)(σ:St)(H:Hp)(m:Mp)(D:Ends),aK X.K m st H->aq X.K m H ρ σ->av X m H (g ρ st) D->SS X s D σ H
def i7(X:Cx)(s:List Stmt)(g:GS):Prop:=∀(ρ:aT)(st:Hs)(σ:St)(H:Hp)(m:Mp)(D:Ends),aK X.K m st H->aq X.K m H ρ σ->av X m H (g ρ st) D->L6 X s D σ H
section
variable {X:Cx}
theorem JE.of{e:Expr}{g:GE}{t:TE}(h:PE X e t)(k:∀(ρ:aT)(st:Hs)(σ:St)(H:Hp)(m:Mp)(Q:VK),aK X.K m st H->aq X.K m H ρ σ->cN X σ m H (g ρ st) Q->t σ H Q):JE X e g :=
 λρ st σ H m Q S R p pins s I=>h pins s σ H Q I (k ρ st σ H m Q S R p)
theorem JT.of{e:Expr}{g:GT}{t:TT}(h:PT X e t)(k:∀(ρ:aT)(st:Hs)(σ:St)(H:Hp)(m:Mp)(Q:Bool->Hp->Prop),aK X.K m st H->aq X.K m H ρ σ->fV X σ m H (g ρ st) Q->t σ H Q):JT X e g :=
 λρ st σ H m Q S R p pins s I=>h pins s σ H Q I (k ρ st σ H m Q S R p)
theorem JA.of{es:List Expr}{g:GA}{t:TA}(h:PA X es t)(k:∀(ρ:aT)(st:Hs)(σ:St)(H:Hp)(m:Mp)(Q:List V->Hp->Prop),aK X.K m st H->aq X.K m H ρ σ->F8 X σ m H (g ρ st) Q->t σ H Q):JA X es g :=
 λρ st σ H m Q S R p pos pins s I=>h pos pins s σ H Q I (k ρ st σ H m Q S R p)
theorem JS.of{e:Stmt}{g:GS}{t:TS}(h:PS X e t)(k:∀(ρ:aT)(st:Hs)(σ:St)(H:Hp)(m:Mp)(D:Ends),aK X.K m st H->aq X.K m H ρ σ->av X m H (g ρ st) D->t D σ H):JS X e g :=
 λρ st σ H m D S R p pins s I=>h pins s σ H D I (k ρ st σ H m D S R p)
theorem i7.of{e:List Stmt}{g:GS}{t:TS}(h:zv X e t)(k:∀(ρ:aT)(st:Hs)(σ:St)(H:Hp)(m:Mp)(D:Ends),aK X.K m st H->aq X.K m H ρ σ->av X m H (g ρ st) D->t D σ H):i7 X e g :=
 λρ st σ H m D S R p pins s I=>h pins s σ H D I (k ρ st σ H m D S R p)
theorem JE.go{e:Expr}{g:GE}{ρ:aT}{st:Hs}{σ:St}{H:Hp}{m:Mp}{T:VK}{ok:Wv->Hs->Prop}(h:JE X e g)(S:aK X.K m st H)(R:aq X.K m H ρ σ)(p:ao X σ m H (g ρ st) ok)
  (k:∀(w:Wv)(st1:Hs)(v:V)(m1:Mp)(H1:Hp),ok w st1->Ext X.K m H m1 H1->aK X.K m1 st1 H1->af X.K m1 H1 w v->T v H1):SE X e σ H T :=
 h ρ st σ H m T S R (p.imp Ext.refl λw st1 q v m1 H1 e1 s1 r1=>k w st1 v m1 H1 q e1 s1 r1)
theorem JT.go{e:Expr}{g:GT}{ρ:aT}{st:Hs}{σ:St}{H:Hp}{m:Mp}{T:Bool->Hp->Prop}{ok:Bool->Hs->Prop}(h:JT X e g)(S:aK X.K m st H)(R:aq X.K m H ρ σ)(p:ao X σ m H (g ρ st) ok)
  (k:∀(b:Bool)(st1:Hs)(m1:Mp)(H1:Hp),ok b st1->Ext X.K m H m1 H1->aK X.K m1 st1 H1->T b H1):ST X e σ H T :=
 h ρ st σ H m T S R (p.imp Ext.refl λb st1 q m1 H1 e1 s1=>k b st1 m1 H1 q e1 s1)
theorem JA.go{es:List Expr}{g:GA}{ρ:aT}{st:Hs}{σ:St}{H:Hp}{m:Mp}{T:List V->Hp->Prop}{ok:List Wv->Hs->Prop}(h:JA X es g)(S:aK X.K m st H)(R:aq X.K m H ρ σ)(p:ao X σ m H (g ρ st) ok)
  (k:∀(ws:List Wv)(st1:Hs)(vs:List V)(m1:Mp)(H1:Hp),ok ws st1->Ext X.K m H m1 H1->aK X.K m1 st1 H1->ah X.K m1 H1 ws vs->T vs H1):SA X es σ H T :=
 h ρ st σ H m T S R (p.imp Ext.refl λw st1 q v m1 H1 e1 s1 r1=>k w st1 v m1 H1 q e1 s1 r1)
end
end J
namespace J
open PySem PySem.Spec PyProof.Rows L2
def lim:Nat:=1000000
theorem cI{n:Nat}(h:n<=lim):n<=W6:=Nat.le_trans h (by unfold lim;rw[sizeLine_eq];decide)
theorem uQ{n:Nat}(h:n < lim):n < W6:=Nat.lt_of_lt_of_le h (by unfold lim;rw[sizeLine_eq];decide)
def ae(i:Nat):GE:=λρ st=>match ρ[i]? with
 | some (some w)=> .ok w st
 | _=> .bad
def gC(w:Wv):GE:=λ_ st=> .ok w st
section
variable {X:Cx}
theorem uR(i:Nat){x:Str}{pos:Pos}(hN:X.N[i]? =some x:=by rfl)(hv:OL X.env.scope x:=by first | exact Or.inl rfl | exact Or.inr (Or.inl rfl) | exact Or.inr (Or.inr rfl))(hd:(x == ("__debug__":Str))=false:=by decide)
  (hcd:(x == ("__classdict__":Str))=false:=by decide):JE X (.Name x pos) (ae i):=JE.of (Hd hN hv hd hcd) λρ st σ H m Q S R p=>by
 unfold ae at p
 cases e:ρ[i]? with
 | none=>rw[e] at p;exact False.elim p
 | some o=>
  cases o with
  | none=>rw[e] at p;exact False.elim p
  | some w=>
   rw[e] at p
   obtain⟨v,h1,h2⟩:=R.get i w e
   exact⟨v,h1,p v m H Ext.refl S h2⟩
theorem Ii{i:Int}{j pos}:JE X (.Constant (.int i) j pos) (gC (.int i)):=JE.of zF λρ st σ H m Q S R p=>p (.int i) m H Ext.refl S (by unfold af;rfl)
theorem L7{b:Bool}{j pos}:JE X (.Constant (.bool b) j pos) (gC (.bl b)):=JE.of Lk λρ st σ H m Q S R p=>p (.bl b) m H Ext.refl S (by unfold af;rfl)
theorem Ij{j pos}:JE X (.Constant .none j pos) (gC .aE):=JE.of zG λρ st σ H m Q S R p=>p .aE m H Ext.refl S (by unfold af;rfl)
theorem Il{x:PySem.Str}{j pos}(hx:PyData.strOk x=true:=by decide+kernel):JE X (.Constant (.str x) j pos) (gC (.str x)):=JE.of Hf λρ st σ H m Q S R p=>p (.str x) m H Ext.refl S (by unfold af;exact⟨rfl,hx⟩)
theorem Au{x:Str}{i:Int}{t:Tok}{pos:Pos}(hg:Gl X x)(hm:X.mg x=some (.int i t))(hd:(x == ("__debug__":Str))=false:=by decide):JE X (.Name x pos) (gC (.int i)) :=
 JE.of (fq (v:=.int i) hg hm ⟨t,rfl⟩ hd) λρ st σ H m Q S R p=>p (.int i) m H Ext.refl S (by unfold af;rfl)
theorem Av{x y:Str}{t:Tok}{pos:Pos}(hg:Gl X x)(hm:X.mg x=some (.str y t))(hy:PyData.strOk y=true:=by decide+kernel)(hd:(x == ("__debug__":Str))=false:=by decide):JE X (.Name x pos) (gC (.str y)) :=
 JE.of (fq (v:=.str y) hg hm ⟨t,rfl⟩ hd) λρ st σ H m Q S R p=>p (.str y) m H Ext.refl S (by unfold af;exact⟨rfl,hy⟩)
theorem L8{x:Str}{T:String}{pos:Pos}(hg:Gl X x)(hm:X.mg x=none)(hv:WY x=some (.type T))(hn:x≠"__name__":=by decide)(hd:(x == ("__debug__":Str))=false:=by decide):JE X (.Name x pos) (gC (.ty T)) :=
 JE.of (Dl (v:=.ty T) hg hm hv rfl hn hd) λρ st σ H m Q S R p=>p (.ty T) m H Ext.refl S (by unfold af;rfl)
abbrev dj:=Wv->Wv->Hs->Re Wv
def aj(op:dj)(ga gb:GE):GE:=λρ st=>(ga ρ st).bind λx st1=>(gb ρ st1).bind λy st2=>(op x y st2).gw
def mL(X:Cx)(op:dj)(r:R2):Prop:=∀(x y:Wv)(a b:V)(st:Hs)(H:Hp)(m:Mp)(Q:VK),aK X.K m st H->af X.K m H x a->af X.K m H y b->bB X.K m H (op x y st) Q->r a b H Q
def fR(X:Cx)(f:WU->WU->Sem WU)(op:dj):Prop:=∃r,cH X f r/\mL X op r
theorem wu{a b:Expr}{ga gb:GE}{op:dj}{r:R2}(h2:mL X op r)(ha:JE X a ga)(hb:JE X b gb){ρ:aT}{st:Hs}{σ:St}{H:Hp}{m:Mp}{Q:VK}(S:aK X.K m st H)(R:aq X.K m H ρ σ)(p:cN X σ m H (aj op ga gb ρ st) Q) :
  Lz r (SE X a) (SE X b) σ H Q:=by
 refine ha.go S R (ao.bind p) λx st1 v m1 H1 p1 e1 S1 rx=>?_
 refine hb.go S1 (R.mono e1) ((ao.bind p1).imp e1 λ_ _ q=>q) λy st2 u m2 H2 p2 e2 S2 ry=>?_
 exact h2 x y v u st2 H2 m2 Q S2 (af.mono e2 _ _ rx) ry (bB.shift (ao.gw p2) (e1.trans e2))
theorem Io{a b:Expr}{ga gb:GE}{o:Operator}{op:dj}{pos:Pos}(ho:fR X (WX o) op)(ha:JE X a ga)(hb:JE X b gb):JE X (.BinOp a o b pos) (aj op ga gb):=by
 obtain⟨r,h1,h2⟩:=ho
 exact JE.of (LA h1 aB aB) λρ st σ H m Q S R p=>wu h2 ha hb S R p
theorem mM{a b:Expr}{ga gb:GE}{o:CmpOp}{op:dj}{pos:Pos}(ho:fR X (W2 o) op)(ha:JE X a ga)(hb:JE X b gb)(hm:WW o b=false):JE X (.Compare a [o] [b] pos) (aj op ga gb):=by
 obtain⟨r,h1,h2⟩:=ho
 exact JE.of (Dz h1 aB aB hm) λρ st σ H m Q S R p=>wu h2 ha hb S R p
def K'(w:Wv)(st:Hs):Re Bool:=match w with
 | .bl b=> .ok b st
 | _=> .bad
def bg(g:GE):GT:=λρ st=>(g ρ st).bind K'
theorem ie{σ:St}{m:Mp}{H:Hp}{r:Re Wv}{Q:Bool->Hp->Prop}(p:fV X σ m H (r.bind K') Q):cN X σ m H r (λx H'=>∃k,x= .bl k/\Q k H'):=by
 cases r with
 | ok w st=>
  cases w with
  | bl b=>
   intro v m' H' e S rw'
   unfold af at rw'
   exact⟨b,rw',p m' H' e S⟩
  | _=>exact False.elim p
 | err c st=>exact p
 | bad=>exact p
theorem mO{a b:Expr}{ga gb:GE}{o:CmpOp}{op:dj}{pos:Pos}(ho:fR X (W2 o) op)(ha:JE X a ga)(hb:JE X b gb)(hm:WW o b=false):JT X (.Compare a [o] [b] pos) (bg (aj op ga gb)):=by
 obtain⟨r,h1,h2⟩:=ho
 exact JT.of (DA h1 aB aB hm) λρ st σ H m Q S R p=>wu h2 ha hb S R (ie p)
def jd(op op':dj)(ga gb gc:GE):GE:=λρ st=>(ga ρ st).bind λx st1=>(gb ρ st1).bind λy st2=>(op x y st2).gw.bind λz st3=>match z with
 | .bl true=>(gc ρ st3).bind λu rJ=>(op' y u rJ).gw
 | .bl false=> .ok (.bl false) st3
 | _=> .bad
theorem F_{a b c:Expr}{ga gb gc:GE}{op op':dj}{r r':R2}(h2:mL X op r)(h2':mL X op' r')(ha:JE X a ga)(hb:JE X b gb)(hc:JE X c gc){ρ:aT}{st:Hs}{σ:St}{H:Hp}{m:Mp}{Q:VK}
  (S:aK X.K m st H)(R:aq X.K m H ρ σ)(p:cN X σ m H (jd op op' ga gb gc ρ st) Q):uF r r' (SE X a) (SE X b) (SE X c) σ H Q:=by
 refine ha.go S R (ao.bind p) λx st1 v m1 H1 p1 e1 S1 rx=>?_
 refine hb.go S1 (R.mono e1) ((ao.bind p1).imp e1 λ_ _ q=>q) λy st2 u m2 H2 p2 e2 S2 ry=>?_
 refine h2 x y v u st2 H2 m2 _ S2 (af.mono e2 _ _ rx) ry (jG.imp (ao.gw (ao.bind p2)) λz st3 p3=>?_)
 intro z' m3 H3 e3 S3 rz
 cases z with
 | bl k=>
  unfold af at rz
  refine⟨k,rz,?_⟩
  cases k with
  | true=>
   rw[if_pos rfl]
   refine hc.go S3 (R.mono (e1.trans (e2.trans e3))) ((ao.bind p3).imp (e1.trans (e2.trans e3)) λ_ _ q=>q) λq rJ u' m4 H4 p4 e4 S4 rq=>?_
   exact h2' y q u u' rJ H4 m4 Q S4 (af.mono (e3.trans e4) _ _ ry) rq (bB.shift (ao.gw p4) (e1.trans (e2.trans (e3.trans e4))))
  | false=>
   rw[if_neg Bool.false_ne_true]
   exact p3 (.bl false) m3 H3 (e1.trans (e2.trans e3)) S3 (by unfold af;rfl)
 | _=>exact False.elim p3
theorem Aw{a b c:Expr}{ga gb gc:GE}{o o':CmpOp}{op op':dj}{pos:Pos}(ho:fR X (W2 o) op)(ho':fR X (W2 o') op')(ha:JE X a ga)(hb:JE X b gb)(hc:JE X c gc)
  (hm:lastMarks [o,o'] [b,c]=false:=by with_unfolding_all rfl):JE X (.Compare a [o,o'] [b,c] pos) (jd op op' ga gb gc):=by
 obtain⟨r,h1,h2⟩:=ho
 obtain⟨r',zx,h2'⟩:=ho'
 exact JE.of (zT h1 zx aB aB aB hm) λρ st σ H m Q S R p=>F_ h2 h2' ha hb hc S R p
theorem Ax{a b c:Expr}{ga gb gc:GE}{o o':CmpOp}{op op':dj}{pos:Pos}(ho:fR X (W2 o) op)(ho':fR X (W2 o') op')(ha:JE X a ga)(hb:JE X b gb)(hc:JE X c gc)
  (hm:lastMarks [o,o'] [b,c]=false:=by with_unfolding_all rfl):JT X (.Compare a [o,o'] [b,c] pos) (bg (jd op op' ga gb gc)):=by
 obtain⟨r,h1,h2⟩:=ho
 obtain⟨r',zx,h2'⟩:=ho'
 exact JT.of (zU h1 zx aB aB aB hm) λρ st σ H m Q S R p=>F_ h2 h2' ha hb hc S R (ie p)
def Ip(op:Wv->Hs->Re Wv)(ga:GE):GE:=λρ st=>(ga ρ st).bind op
def mP:Wv->Hs->Re Wv
 | .int i,st=> .ok (.int (-i)) st
 | _,_=> .bad
theorem Iq{a:Expr}{ga:GE}{pos:Pos}(ha:JE X a ga):JE X (.UnaryOp .USub a pos) (Ip mP ga):=by
 refine JE.of (LB HB aB) λρ st σ H m Q S R p=>?_
 refine ha.go S R (ao.bind p) λx st1 v m1 H1 p1 e1 S1 rx=>?_
 cases x with
 | int i=>
  unfold af at rx
  exact⟨i,rx,p1 _ m1 H1 e1 S1 (by unfold af;rfl)⟩
 | _=>exact False.elim p1
def SW(X:Cx)(e:Expr):TT:=λσ H Q=>∀(wh:Sem WU)(pins:List (WN×Obj))(s:WT),Inv X pins σ H s->W8 (model X.prog X.w) X.A (isTrue e X.env wh) (TP X pins σ Q) X.xe s
theorem F'{e:Expr}:PW X e (SW X e):=λwh pins s _ _ _ I h=>h wh pins s I
def JW(X:Cx)(e:Expr)(g:GT):Prop:=∀(ρ:aT)(st:Hs)(σ:St)(H:Hp)(m:Mp)(Q:Bool->Hp->Prop),aK X.K m st H->aq X.K m H ρ σ->fV X σ m H (g ρ st) Q->SW X e σ H Q
theorem JW.of{e:Expr}{g:GT}{t:TT}(h:PW X e t)(k:∀(ρ:aT)(st:Hs)(σ:St)(H:Hp)(m:Mp)(Q:Bool->Hp->Prop),aK X.K m st H->aq X.K m H ρ σ->fV X σ m H (g ρ st) Q->t σ H Q):JW X e g :=
 λρ st σ H m Q S R p wh pins s I=>h wh pins s σ H Q I (k ρ st σ H m Q S R p)
theorem JW.jt{e:Expr}{g:GT}(h:JW X e g):JT X e g:=λρ st σ H m Q S R p pins s I=>h ρ st σ H m Q S R p _ pins s I
def yf(ga gb:GT):GT:=λρ st=>(ga ρ st).bind λb st1=>if b=true then gb ρ st1 else .ok false st1
def L9(ga gb:GT):GT:=λρ st=>(ga ρ st).bind λb st1=>if b=true then .ok true st1 else gb ρ st1
def qz(ga:GT):GT:=λρ st=>(ga ρ st).bind λb st1=> .ok (!b) st1
theorem DT{a:Expr}{ga:GT}{pos:Pos}(ha:JT X a ga):JW X (.BoolOp .And [a] pos) ga:=JW.of (Dm kZ) λρ st σ H m Q S R p=>ha ρ st σ H m Q S R p
theorem Ir{a:Expr}{ga:GT}{pos:Pos}(ha:JT X a ga):JW X (.BoolOp .Or [a] pos) ga:=JW.of (Hg kZ) λρ st σ H m Q S R p=>ha ρ st σ H m Q S R p
theorem Iu{a b:Expr}{rest:List Expr}{ga gb:GT}{pos:Pos}(ha:JT X a ga)(hb:JW X (.BoolOp .And (b::rest) pos) gb):JW X (.BoolOp .And (a::b::rest) pos) (yf ga gb):=by
 refine JW.of (Hh kZ F') λρ st σ H m Q S R p=>?_
 refine ha.go S R (ao.bind p) λc st1 m1 H1 p1 e1 S1=>?_
 cases c with
 | true=>rw[if_pos rfl] at p1 ⊢;exact hb ρ st1 σ H1 m1 Q S1 (R.mono e1) (fV.shift p1 e1)
 | false=>rw[if_neg Bool.false_ne_true] at p1 ⊢;exact p1 m1 H1 e1 S1
theorem L_{a b:Expr}{rest:List Expr}{ga gb:GT}{pos:Pos}(ha:JT X a ga)(hb:JW X (.BoolOp .Or (b::rest) pos) gb):JW X (.BoolOp .Or (a::b::rest) pos) (L9 ga gb):=by
 refine JW.of (Ll kZ F') λρ st σ H m Q S R p=>?_
 refine ha.go S R (ao.bind p) λc st1 m1 H1 p1 e1 S1=>?_
 cases c with
 | true=>rw[if_pos rfl] at p1 ⊢;exact p1 m1 H1 e1 S1
 | false=>rw[if_neg Bool.false_ne_true] at p1 ⊢;exact hb ρ st1 σ H1 m1 Q S1 (R.mono e1) (fV.shift p1 e1)
theorem Iv{a:Expr}{ga:GT}{pos:Pos}(ha:JT X a ga):JT X (.UnaryOp .Not a pos) (qz ga):=by
 refine JT.of (Hj kZ) λρ st σ H m Q S R p=>?_
 exact ha.go S R (ao.bind p) λc st1 m1 H1 p1 e1 S1=>p1 m1 H1 e1 S1
def wx(ga gb:GE):GE:=λρ st=>(ga ρ st).bind λw st1=>match w with
 | .bl true=>gb ρ st1
 | .bl false=> .ok (.bl false) st1
 | _=> .bad
def Ma(ga gb:GE):GE:=λρ st=>(ga ρ st).bind λw st1=>match w with
 | .bl true=> .ok (.bl true) st1
 | .bl false=>gb ρ st1
 | _=> .bad
def Ga(ga:GE):GE:=λρ st=>(ga ρ st).bind λw st1=>match w with
 | .bl b=> .ok (.bl (!b)) st1
 | _=> .bad
theorem Ay{op}{a:Expr}{ga:GE}{pos:Pos}(ha:JE X a ga):JE X (.BoolOp op [a] pos) ga:=JE.of (Hk aB) λρ st σ H m Q S R p=>ha ρ st σ H m Q S R p
theorem Iw{a b:Expr}{rest:List Expr}{ga gb:GE}{pos:Pos}(ha:JE X a ga)(hb:JE X (.BoolOp .And (b::rest) pos) gb):JE X (.BoolOp .And (a::b::rest) pos) (wx ga gb):=by
 refine JE.of (Hl aB aB) λρ st σ H m Q S R p=>?_
 refine ha.go S R (ao.bind p) λx st1 v m1 H1 p1 e1 S1 rx=>?_
 cases x with
 | bl c=>
  unfold af at rx
  refine⟨c,rx,?_⟩
  cases c with
  | true=>rw[if_pos rfl];exact hb ρ st1 σ H1 m1 Q S1 (R.mono e1) (cN.shift p1 e1)
  | false=>rw[if_neg Bool.false_ne_true];exact p1 _ m1 H1 e1 S1 (by unfold af;rfl)
 | _=>exact False.elim p1
theorem Mb{a b:Expr}{rest:List Expr}{ga gb:GE}{pos:Pos}(ha:JE X a ga)(hb:JE X (.BoolOp .Or (b::rest) pos) gb):JE X (.BoolOp .Or (a::b::rest) pos) (Ma ga gb):=by
 refine JE.of (Lq aB aB) λρ st σ H m Q S R p=>?_
 refine ha.go S R (ao.bind p) λx st1 v m1 H1 p1 e1 S1 rx=>?_
 cases x with
 | bl c=>
  unfold af at rx
  refine⟨c,rx,?_⟩
  cases c with
  | true=>rw[if_pos rfl];exact p1 _ m1 H1 e1 S1 (by unfold af;rfl)
  | false=>rw[if_neg Bool.false_ne_true];exact hb ρ st1 σ H1 m1 Q S1 (R.mono e1) (cN.shift p1 e1)
 | _=>exact False.elim p1
theorem Iy{a:Expr}{ga:GE}{pos:Pos}(ha:JE X a ga):JE X (.UnaryOp .Not a pos) (Ga ga):=by
 refine JE.of (Hm aB) λρ st σ H m Q S R p=>?_
 refine ha.go S R (ao.bind p) λx st1 v m1 H1 p1 e1 S1 rx=>?_
 cases x with
 | bl c=>
  unfold af at rx
  exact⟨c,rx,p1 _ m1 H1 e1 S1 (by unfold af;rfl)⟩
 | _=>exact False.elim p1
def je(gt:GT)(ga gb:GE):GE:=λρ st=>(gt ρ st).bind λb st1=>if b=true then ga ρ st1 else gb ρ st1
theorem Mc{c a b:Expr}{gt:GT}{ga gb:GE}{pos:Pos}(hc:JT X c gt)(ha:JE X a ga)(hb:JE X b gb):JE X (.IfExp c a b pos) (je gt ga gb):=by
 refine JE.of (zK kZ aB aB) λρ st σ H m Q S R p=>?_
 refine hc.go S R (ao.bind p) λk st1 m1 H1 p1 e1 S1=>?_
 cases k with
 | true=>rw[if_pos rfl] at p1 ⊢;exact ha ρ st1 σ H1 m1 Q S1 (R.mono e1) (cN.shift p1 e1)
 | false=>rw[if_neg Bool.false_ne_true] at p1 ⊢;exact hb ρ st1 σ H1 m1 Q S1 (R.mono e1) (cN.shift p1 e1)
def ai:GA:=λ_ st=> .ok [] st
def aa(ga:GE)(gr:GA):GA:=λρ st=>(ga ρ st).bind λx st1=>(gr ρ st1).bind λxs st2=> .ok (x::xs) st2
theorem Az:JA X [] ai:=JA.of HE λρ st σ H m Q S R p=>p [] m H Ext.refl S ah.nil
theorem wy{e:Expr}{es:List Expr}{ga:GE}{gr:GA}(ha:JE X e ga)(hr:JA X es gr)(hs:W7 (e::es) X.env=(false,eval e X.env)::W7 es X.env:=by rfl):JA X (e::es) (aa ga gr):=by
 refine JA.of (DB aB i6 hs) λρ st σ H m Q S R p=>?_
 refine ha.go S R (ao.bind p) λx st1 v m1 H1 p1 e1 S1 rx=>?_
 refine hr.go S1 (R.mono e1) ((ao.bind p1).imp e1 λ_ _ q=>q) λxs st2 vs m2 H2 p2 e2 S2 rs=>?_
 exact p2 (v::vs) m2 H2 (e1.trans e2) S2 (ah.cons (af.mono e2 _ _ rx) rs)
def di(g:GA):GE:=λρ st=>(g ρ st).bind λws st1=>if ws.length<=lim then .ok (.tup ws) st1 else .bad
def cO(g:GA):GE:=λρ st=>(g ρ st).bind λws st1=>if ws.length<=lim then .ok (.ref st1.length) (st1++[.lst ws]) else .bad
theorem Iz{es:List Expr}{g:GA}{x1 pos}(h:JA X es g):JE X (.Tuple es x1 pos) (di g):=by
 refine JE.of (HF i6) λρ st σ H m Q S R p=>?_
 refine h.go S R (ao.bind p) λws st1 vs m1 H1 p1 e1 S1 rs=>?_
 by_cases hl:ws.length<=lim
 ·rw[if_pos hl] at p1
  refine⟨by rw[<-rs.length];exact cI hl,λq hq=>?_⟩
  have e2:Ext X.K m1 H1 m1 (upd H1 q (.tup vs)):=Ext.upd (.inl hq)
  exact p1 (.ref q) m1 _ (e1.trans e2) (S1.fresh hq) (by unfold af;exact⟨q,vs,rfl,aC,ah.mono e2 _ _ rs⟩)
 ·rw[if_neg hl] at p1;exact False.elim p1
theorem aK.newest{K:PySem.W.Frag}{m:Mp}{st:Hs}{H:Hp}(S:aK K m st H)(q:WN)(H':Hp):af K (m++[q]) H' (.ref st.length) (.ref q):=by
 unfold af
 refine⟨q,rfl,?_⟩
 rw[<-S.len,List.getElem?_append_right (Nat.le_refl _),Nat.sub_self]
 rfl
theorem ig{m m1:Mp}{H H1:Hp}{st1:Hs}{ws:List Wv}{vs:List V}{Q:VK}(p1:Ih X.K m H Q (.ref st1.length) (st1++[.lst ws]))(e1:Ext X.K m H m1 H1)(S1:aK X.K m1 st1 H1)(rs:ah X.K m1 H1 ws vs)(q:WN)(hq:H1 q=none) :
  Q (.ref q) (upd H1 q (.lst vs)) :=
 p1 (.ref q) (m1++[q]) _ (e1.trans (Ext.more.trans (Ext.upd (.inl hq)))) (S1.alloc hq rs) (S1.newest q _)
theorem IA{es:List Expr}{g:GA}{pos}(h:JA X es g):JE X (.List es pos) (cO g):=by
 refine JE.of (HG i6) λρ st σ H m Q S R p=>?_
 refine h.go S R (ao.bind p) λws st1 vs m1 H1 p1 e1 S1 rs=>?_
 by_cases hl:ws.length<=lim
 ·rw[if_pos hl] at p1
  exact⟨by rw[<-rs.length];exact cI hl,λq hq=>ig p1 e1 S1 rs q hq⟩
 ·rw[if_neg hl] at p1;exact False.elim p1
end
end J
namespace J
open PySem PySem.Spec PyProof.Rows L2
section
variable {X:Cx}
theorem cH.or{f:WU->WU->Sem WU}{r r':R2}(h:cH X f r)(h':cH X f r'):cH X f (λx y H Q=>r x y H Q\/r' x y H Q):=by
 intro pins s σ H x y v u Q I rx ry q
 rcases q with q | q
 ·exact h pins s σ H x y v u Q I rx ry q
 ·exact h' pins s σ H x y v u Q I rx ry q
theorem AA:cH X (WX .FloorDiv) (rI (λ_ j=>j≠0/\j.natAbs.log2 < 9000) λi j=> .int (i.fdiv j)):=NN λi j _ _ _ _ _ hc q=>floordiv_int hc.1 q (.inl (PyProof.noPylong_of_log2 hc.2))
theorem DU:cH X (WX .Mod) (rI (λ_ j=>j≠0) λi j=> .int (i.fmod j)):=NN λi j _ _ _ _ _ hc q=>mod_int' hc q
theorem DV:cH X (WX .Mult) (rI (λi j=>IntMulOk i j) λi j=> .int (i * j)):=NN λ_ _ _ _ _ _ _ hc q=>mul_int q hc
instance Pq{a b:Int}:Decidable (IntMulOk a b):=by unfold IntMulOk;infer_instance
def qA:dj
 | .int i,.int j,st=> .ok (.int (i - j)) st
 | _,_,_=> .bad
def fW:dj
 | .int i,.int j,st=>if j≠0/\j.natAbs.log2 < 9000 then .ok (.int (i.fdiv j)) st else .bad
 | _,_,_=> .bad
def oMod:dj
 | .int i,.int j,st=>if j≠0 then .ok (.int (i.fmod j)) st else .bad
 | _,_,_=> .bad
def qB:dj
 | .int i,.int j,st=>if 0<=j/\j<=1000000/\i.natAbs < 2 ^ 64 then .ok (.int (i ^ j.toNat)) st else .bad
 | _,_,_=> .bad
def Md:dj
 | .int i,.int j,st=> .ok (.bl (decide (i < j))) st
 | .str i,.str j,st=> .ok (.bl (decide (i.cps.toList < j.cps.toList))) st
 | _,_,_=> .bad
def Me:dj
 | .int i,.int j,st=> .ok (.bl (decide (i<=j))) st
 | _,_,_=> .bad
def NU:dj
 | .int i,.int j,st=> .ok (.bl (decide (j < i))) st
 | _,_,_=> .bad
def Pr:dj
 | .int i,.int j,st=> .ok (.bl (decide (j<=i))) st
 | _,_,_=> .bad
theorem aF{m:Mp}{H:Hp}{i:Int}{a:V}(h:af X.K m H (.int i) a):a= .int i:=by unfold af at h;exact h
theorem dk{m:Mp}{H:Hp}{x:PySem.Str}{a:V}(h:af X.K m H (.str x) a):a= .str x/\PyData.strOk x=true:=by unfold af at h;exact h
theorem mkInt{m:Mp}{H:Hp}{i:Int}:af X.K m H (.int i) (.int i):=by unfold af;rfl
theorem fG{m:Mp}{H:Hp}{i:Bool}:af X.K m H (.bl i) (.bl i):=by unfold af;rfl
theorem pC{m:Mp}{H:Hp}:af X.K m H .aE .aE:=by unfold af;rfl
theorem mkStr{m:Mp}{H:Hp}{x:PySem.Str}(h:PyData.strOk x=true):af X.K m H (.str x) (.str x):=by unfold af;exact⟨rfl,h⟩
theorem IB:fR X (WX .Sub) qA:=⟨_,Hz,λx y a b st H m Q S rx ry p=>by
 cases x with
 | int i=>
  cases y with
  | int j=>exact⟨i,j,aF rx,aF ry,p _ m H Ext.refl S mkInt⟩
  | _=>exact False.elim p
 | _=>cases y<;>exact False.elim p⟩
theorem DW:fR X (WX .FloorDiv) fW:=⟨_,AA,λx y a b st H m Q S rx ry p=>by
 cases x with
 | int i=>
  cases y with
  | int j=>
   dsimp only[fW] at p
   by_cases c:j≠0/\j.natAbs.log2 < 9000
   ·rw[if_pos c] at p;exact⟨i,j,aF rx,aF ry,c,p _ m H Ext.refl S mkInt⟩
   ·rw[if_neg c] at p;exact False.elim p
  | _=>exact False.elim p
 | _=>cases y<;>exact False.elim p⟩
theorem IC:fR X (WX .Mod) oMod:=⟨_,DU,λx y a b st H m Q S rx ry p=>by
 cases x with
 | int i=>
  cases y with
  | int j=>
   dsimp only[oMod] at p
   by_cases c:j≠0
   ·rw[if_pos c] at p;exact⟨i,j,aF rx,aF ry,c,p _ m H Ext.refl S mkInt⟩
   ·rw[if_neg c] at p;exact False.elim p
  | _=>exact False.elim p
 | _=>cases y<;>exact False.elim p⟩
theorem ID:fR X (WX .Pow) qB:=⟨_,HA,λx y a b st H m Q S rx ry p=>by
 cases x with
 | int i=>
  cases y with
  | int j=>
   dsimp only[qB] at p
   by_cases c:0<=j/\j<=1000000/\i.natAbs < 2 ^ 64
   ·rw[if_pos c] at p;exact⟨i,j,aF rx,aF ry,c,p _ m H Ext.refl S mkInt⟩
   ·rw[if_neg c] at p;exact False.elim p
  | _=>exact False.elim p
 | _=>cases y<;>exact False.elim p⟩
theorem Mf:fR X (W2 .Lt) Md:=⟨_,cH.or LD xR,λx y a b st H m Q S rx ry p=>by
 cases x with
 | int i=>
  cases y with
  | int j=>exact .inl ⟨i,j,aF rx,aF ry,p _ m H Ext.refl S fG⟩
  | _=>exact False.elim p
 | str i=>
  cases y with
  | str j=>exact .inr ⟨i,j,(dk rx).1,(dk ry).1,p _ m H Ext.refl S fG⟩
  | _=>exact False.elim p
 | _=>cases y<;>exact False.elim p⟩
theorem Mi:fR X (W2 .LtE) Me:=⟨_,LG,λx y a b st H m Q S rx ry p=>by
 cases x with
 | int i=>
  cases y with
  | int j=>exact⟨i,j,aF rx,aF ry,p _ m H Ext.refl S fG⟩
  | _=>exact False.elim p
 | _=>cases y<;>exact False.elim p⟩
theorem Mj:fR X (W2 .Gt) NU:=⟨_,LH,λx y a b st H m Q S rx ry p=>by
 cases x with
 | int i=>
  cases y with
  | int j=>exact⟨i,j,aF rx,aF ry,p _ m H Ext.refl S fG⟩
  | _=>exact False.elim p
 | _=>cases y<;>exact False.elim p⟩
theorem Ml:fR X (W2 .GtE) Pr:=⟨_,LI,λx y a b st H m Q S rx ry p=>by
 cases x with
 | int i=>
  cases y with
  | int j=>exact⟨i,j,aF rx,aF ry,p _ m H Ext.refl S fG⟩
  | _=>exact False.elim p
 | _=>cases y<;>exact False.elim p⟩
def AB:dj
 | x,.aE,st=> .ok (.bl (match x with | .aE=>true | _=>false)) st
 | _,_,_=> .bad
def eL:dj
 | x,.aE,st=> .ok (.bl (match x with | .aE=>false | _=>true)) st
 | _,_,_=> .bad
theorem Gb{m:Mp}{H:Hp}{x:Wv}{a:V}(h:af X.K m H x a):decide (a=V.aE)=(match x with | .aE=>true | _=>false):=by
 cases x with
 | aE=>unfold af at h;subst h;rfl
 | bl b=>unfold af at h;subst h;rfl
 | int b=>unfold af at h;subst h;rfl
 | str b=>unfold af at h;obtain⟨h,_⟩:=h;subst h;rfl
 | tup b=>unfold af at h;obtain⟨q,xs,h,_⟩:=h;subst h;rfl
 | mI b=>unfold af at h;obtain⟨q,xs,h,_⟩:=h;subst h;rfl
 | ref b=>unfold af at h;obtain⟨q,h,_⟩:=h;subst h;rfl
 | ty b=>unfold af at h;subst h;rfl
 | cls b=>unfold af at h;obtain⟨q,h,_⟩:=h;subst h;rfl
 | fk b=>unfold af at h;obtain⟨q,C,h,_⟩:=h;subst h;rfl
 | fn fp b=>unfold af at h;obtain⟨h,_⟩:=h;subst h;rfl
theorem Mm:fR X (W2 .Is) AB:=⟨_,HC,λx y a b st H m Q S rx ry p=>by
 cases y with
 | aE=>
  refine⟨by unfold af at ry;exact ry,?_⟩
  rw[Gb rx]
  cases x<;>exact p _ m H Ext.refl S fG
 | _=>cases x<;>exact False.elim p⟩
theorem AD:fR X (W2 .IsNot) eL:=⟨_,Dy,λx y a b st H m Q S rx ry p=>by
 cases y with
 | aE=>
  refine⟨by unfold af at ry;exact ry,?_⟩
  rw[Gb rx]
  cases x<;>exact p _ m H Ext.refl S fG
 | _=>cases x<;>exact False.elim p⟩
theorem qC{a b:PySem.Str}(ha:PyData.strOk a=true)(hb:PyData.strOk b=true):PyData.strOk (a++b)=true:=by
 unfold PyData.strOk at *
 show((a.cps++b.cps).all _)=true
 rw[Array.all_append,ha,hb]
 rfl
def Mn(K:PySem.W.Frag):R2:=λx y H Q=>∃l b xs zs,x= .ref l/\y= .ref b/\gZ K H l xs/\gZ K H b zs/\xs.length+zs.length<=W6/\∀p,H p=none->Q (.ref p) (upd H p (.lst (xs++zs)))
theorem DX:cH X (WX .Add) (Mn X.K):=by
 intro pins s σ H x y v u Q I rx ry h
 obtain⟨l,b,xs,zs,rfl,rfl,hH,hB,hz,q⟩:=h
 cases rx
 cases ry
 obtain⟨its,r,pl,hs⟩:=I.list hH
 obtain⟨its2,r2,Ua,hs2⟩:=I.list hB
 have hl:=r.length
 have hl2:=r2.length
 obtain⟨⟨cls,dd,data,sl⟩,ho,hc,n,hd⟩:=id pl.isList
 obtain⟨⟨LO,dd2,data2,sl2⟩,ho2,hc2,n2,hd2⟩:=id Ua.isList
 simp only at hc hd hc2 hd2
 subst hc hd hc2 hd2
 have e:its.toArray++its2.toArray=(its++its2).toArray:=by simp
 refine PySem.concat_meets ⟨_,ho,rfl⟩ ⟨_,ho2,rfl⟩ PySem.noFill_list_add PySem.seq_list_add PySem.F.slot_list_add PySem.F.entry_list_add (PySem.F.args_list_add_2 _ _) (list_addW l b its.toArray its2.toArray n n2 dd dd2 sl sl2 (by simp;omega)) ⟨ho,ho2,?_⟩
 rw[e]
 exact⟨.ref _,_,I.HS (t':=s.toks) (r.append r2) (by rw[List.length_append];omega),rfl,q _ I.fresh⟩
def Mo(K:PySem.W.Frag):R2:=λx y H Q=>∃a b ys,x= .ref a/\y= .ref b/\dS K H a []/\dS K H b ys/\Q (.ref b) H
theorem DY:cH X (WX .Add) (Mo X.K):=by
 intro pins s σ H x y v u Q I rx ry h
 obtain⟨a,b,ys,rfl,rfl,ha,hb,q⟩:=h
 cases rx
 cases ry
 obtain⟨its,r1,p1,_⟩:=I.tuple ha
 obtain⟨its2,r2,p2,_⟩:=I.tuple hb
 cases r1
 obtain⟨⟨c1,d1,t1,l1⟩,g1,k1,n1,j1⟩:=id p1
 obtain⟨⟨c2,d2,t2,l2⟩,g2,k2,n2,j2⟩:=id p2
 simp only at k1 j1 k2 j2
 subst k1 j1 k2 j2
 exact PySem.concat_meets ⟨_,g1,rfl⟩ ⟨_,g2,rfl⟩ PySem.noFill_tuple_add PySem.seq_tuple_add PySem.F.slot_tuple_add PySem.F.entry_tuple_add (PySem.F.args_tuple_add_2 _ _) (tuple_addW0 a b #[] its2.toArray n1 n2 d1 d2 l1 l2 (by simp)) ⟨g1,g2,⟨.ref b,H,I,rfl,q⟩⟩
def cP:dj
 | .int i,.int j,st=> .ok (.int (i+j)) st
 | .str i,.str j,st=>if i.length+j.length<=lim then .ok (.str (i++j)) st else .bad
 | .tup i,.tup j,st=>if i.length+j.length<=lim then .ok (.tup (i++j)) st else .bad
 | .ref l,.ref k,st=>match ag st l,ag st k with
  | some i,some j=>if i.length+j.length<=lim then .ok (.ref st.length) (st++[.lst (i++j)]) else .bad
  | _,_=> .bad
 | _,_,_=> .bad
instance {α:Type}{xs:List α}:Decidable (xs≠[]):=match xs with
 | []=>isFalse (λh=>h rfl)
 | _::_=>isTrue (λh=>by cases h)
theorem IE:fR X (WX .Add) cP:=⟨_,cH.or Hy (cH.or uH (cH.or DI (cH.or DX DY))),λx y a b st H m Q S rx ry p=>by
 cases x with
 | int i=>
  cases y with
  | int j=>exact .inl ⟨i,j,aF rx,aF ry,p _ m H Ext.refl S mkInt⟩
  | _=>exact False.elim p
 | str i=>
  cases y with
  | str j=>
   dsimp only[cP] at p
   by_cases c:i.length+j.length<=lim
   ·rw[if_pos c] at p
    exact .inr (.inl ⟨i,j,(dk rx).1,(dk ry).1,cI c,p _ m H Ext.refl S (mkStr (qC (dk rx).2 (dk ry).2))⟩)
   ·rw[if_neg c] at p;exact False.elim p
  | _=>exact False.elim p
 | tup i=>
  cases y with
  | tup j=>
   dsimp only[cP] at p
   by_cases c:i.length+j.length<=lim
   ·rw[if_pos c] at p
    by_cases c0:i=[]
    ·subst c0
     unfold af at rx ry
     obtain⟨a1,xs,rfl,h1,h2⟩:=rx
     obtain⟨a2,ys,rfl,h3,h4⟩:=ry
     have l1:xs=[]:=List.eq_nil_of_length_eq_zero h2.length.symm
     subst l1
     exact .inr (.inr (.inr (.inr ⟨a1,a2,ys,rfl,rfl,dS.of h1,dS.of h3,p (.ref a2) m H Ext.refl S (by rw[List.nil_append];unfold af;exact⟨a2,ys,rfl,h3,h4⟩)⟩)))
    unfold af at rx ry
    obtain⟨a1,xs,rfl,h1,h2⟩:=rx
    obtain⟨a2,ys,rfl,h3,h4⟩:=ry
    have l1:=h2.length
    have l2:=h4.length
    have n1:xs≠[]:=λz=>by rw[z] at l1;exact c0 (List.eq_nil_of_length_eq_zero l1)
    refine .inr (.inr (.inl ⟨a1,a2,xs,ys,rfl,rfl,dS.of h1,dS.of h3,n1,by rw[<-l1,<-l2];exact cI c,λz=>?_,λ_ q hq=>?_⟩))
    ·rw[z] at l2
     rw[List.eq_nil_of_length_eq_zero l2,List.append_nil] at p
     exact p (.ref a1) m H Ext.refl S (by unfold af;exact⟨a1,xs,rfl,h1,h2⟩)
    have e2:Ext X.K m H m (upd H q (.tup (xs++ys))):=Ext.upd (.inl hq)
    exact p (.ref q) m _ e2 (S.fresh hq) (by unfold af;exact⟨q,xs++ys,rfl,aC,ah.mono e2 _ _ (h2.append h4)⟩)
   ·rw[if_neg c] at p;exact False.elim p
  | _=>exact False.elim p
 | ref l=>
  cases y with
  | ref k=>
   dsimp only[cP] at p
   unfold af at rx ry
   obtain⟨a1,rfl,h1⟩:=rx
   obtain⟨a2,rfl,h2⟩:=ry
   cases e1:ag st l with
   | none=>rw[e1] at p;exact False.elim p
   | some i=>
    cases e2:ag st k with
    | none=>rw[e1,e2] at p;exact False.elim p
    | some j=>
     rw[e1,e2] at p
     by_cases c:i.length+j.length<=lim
     ·simp only[if_pos c] at p
      obtain⟨xs,q1,q2⟩:=S.read h1 e1
      obtain⟨ys,q3,q4⟩:=S.read h2 e2
      exact .inr (.inr (.inr (.inl ⟨a1,a2,xs,ys,rfl,rfl,q1,q3,by rw[<-q2.length,<-q4.length];exact cI c,λq hq=>ig p Ext.refl S (q2.append q4) q hq⟩)))
     ·simp only[if_neg c] at p;exact False.elim p
  | _=>exact False.elim p
 | _=>cases y<;>exact False.elim p⟩
def si(n:Nat)(x:PySem.Str):PySem.Str:=⟨(List.replicate n x.cps).foldl (· ++·) #[]⟩
end
end J
namespace J
open PySem PySem.Spec PySem.SeqAt PyProof.Rows L2
def iV{α β:Type}(f:α->Option β):List α->Option (List β)
 | []=>some []
 | w::ws=>match f w,iV f ws with
  | some d,some ds=>some (d::ds)
  | _,_=>none
def aL(st:Hs):Nat->Wv->Option PyData
 | 0,w=>match w with
  | .aE=>some .none
  | .bl b=>some (.bool b)
  | .int i=>some (.int i)
  | .str x=>some (.str x)
  | _=>none
 | n+1,w=>match w with
  | .aE=>some .none
  | .bl b=>some (.bool b)
  | .int i=>some (.int i)
  | .str x=>some (.str x)
  | .tup ws=>(iV (aL st n) ws).map .tuple
  | .mI ws=>(iV (aL st n) ws).map .tuple
  | .ref l=>match ag st l with
   | some ws=>(iV (aL st n) ws).map .list
   | none=>none
  | .ty _=>none
  | .cls _=>none
  | .fk _=>none
  | .fn _ _=>none
section
variable {X:Cx} {pins:List (WN×Obj)} {σ:St} {H:Hp} {s:WT} {m:Mp} {st:Hs}
def Gd(h:Heap)(n:Nat)(u:WU)(d:PyData):Prop:=∃as,Reads h u d as/\d.canLay0=true/\d.depth<=n
theorem iJ{n:Nat}(ih:∀(w:Wv)(a:V)(u:WU)(d:PyData),af X.K m H w a->RelV a u->aL st n w=some d->Gd s.heap n u d) :
  ∀(ws:List Wv)(xs:List V)(us:List WU)(ds:List PyData),ah X.K m H ws xs->Vals xs us->iV (aL st n) ws=some ds->∃as,ReadsAll s.heap us ds as/\PyData.canLayAll0 ds=true/\PyData.depthAll ds<=n
 | [],xs,us,ds,h,r,e=>by
  unfold ah at h
  subst h
  cases r
  cases e
  exact⟨[],.nil,rfl,Nat.zero_le _⟩
 | w::ws,xs,us,ds,h,r,e=>by
  unfold ah at h
  obtain⟨x,xr,rfl,h1,h2⟩:=h
  cases r with
  | cons r1 r2=>
   unfold iV at e
   cases e1:aL st n w with
   | none=>rw[e1] at e;cases e
   | some d=>
    cases e2:iV (aL st n) ws with
    | none=>rw[e1,e2] at e;cases e
    | some dr=>
     rw[e1,e2] at e
     cases e
     obtain⟨as,q1,q2,q3⟩:=ih w x _ d h1 r1 e1
     obtain⟨bs,p1,p2,p3⟩:=iJ ih ws xr _ dr h2 r2 e2
     refine⟨as++bs,.cons q1 p1,?_,?_⟩
     ·show(PyData.canLay0 d&&PyData.canLayAll0 dr)=true
      rw[q2,p2];rfl
     ·show max d.depth (PyData.depthAll dr)<=n
      omega
theorem cj(I:Inv X pins σ H s)(S:aK X.K m st H):∀(n:Nat)(w:Wv)(a:V)(u:WU)(d:PyData),af X.K m H w a->RelV a u->aL st n w=some d->Gd s.heap n u d:=by
 intro n
 induction n with
 | zero=>
  intro w a u d h r e
  cases w with
  | aE=>unfold af at h;subst h;cases r;cases e;exact⟨[],.none,rfl,Nat.le_refl _⟩
  | bl b=>unfold af at h;subst h;cases r;cases e;exact⟨[],.bool b,rfl,Nat.le_refl _⟩
  | int i=>unfold af at h;subst h;obtain⟨t,rfl⟩:=r;cases e;exact⟨[],.int i t,rfl,Nat.le_refl _⟩
  | str x=>unfold af at h;obtain⟨rfl,hx⟩:=h;obtain⟨t,rfl⟩:=r;cases e;exact⟨[],.str x t,hx,Nat.le_refl _⟩
  | tup ws=>cases e
  | mI ws=>cases e
  | ref l=>cases e
  | ty t=>cases e
  | cls t=>cases e
  | fk t=>cases e
  | fn fp t=>cases e
 | succ n ih=>
  intro w a u d h r e
  cases w with
  | aE=>unfold af at h;subst h;cases r;cases e;exact⟨[],.none,rfl,Nat.zero_le _⟩
  | bl b=>unfold af at h;subst h;cases r;cases e;exact⟨[],.bool b,rfl,Nat.zero_le _⟩
  | int i=>unfold af at h;subst h;obtain⟨t,rfl⟩:=r;cases e;exact⟨[],.int i t,rfl,Nat.zero_le _⟩
  | str x=>unfold af at h;obtain⟨rfl,hx⟩:=h;obtain⟨t,rfl⟩:=r;cases e;exact⟨[],.str x t,hx,Nat.zero_le _⟩
  | ty t=>cases e
  | cls t=>cases e
  | fk t=>cases e
  | fn fp t=>cases e
  | tup ws=>
   unfold af at h
   obtain⟨p,xs,rfl,h1,h2⟩:=h
   cases r
   have e':(iV (aL st n) ws).map PyData.tuple=some d:=e
   cases e2:iV (aL st n) ws with
   | none=>rw[e2] at e';cases e'
   | some ds=>
    rw[e2] at e'
    cases e'
    obtain⟨its,rv,ht,hz⟩:=I.tuple (dS.of h1)
    obtain⟨as,q1,q2,q3⟩:=iJ ih ws xs its ds h2 rv e2
    obtain⟨o,ho,hc,k,hd⟩:=ht
    exact⟨as,.tuple ho hc hd (by simpa using q1),q2,Nat.succ_le_succ q3⟩
  | mI ws=>
   unfold af at h
   obtain⟨p,xs,rfl,h1,h2⟩:=h
   cases r
   have e':(iV (aL st n) ws).map PyData.tuple=some d:=e
   cases e2:iV (aL st n) ws with
   | none=>rw[e2] at e';cases e'
   | some ds=>
    rw[e2] at e'
    cases e'
    obtain⟨its,rv,ht,hz⟩:=I.tuple (.inr h1)
    obtain⟨as,q1,q2,q3⟩:=iJ ih ws xs its ds h2 rv e2
    obtain⟨o,ho,hc,k,hd⟩:=ht
    exact⟨as,.tuple ho hc hd (by simpa using q1),q2,Nat.succ_le_succ q3⟩
  | ref l=>
   unfold af at h
   obtain⟨p,rfl,h1⟩:=h
   cases r
   have e':(match ag st l with | some ws=>(iV (aL st n) ws).map PyData.list | none=>none)=some d:=e
   cases e1:ag st l with
   | none=>rw[e1] at e';cases e'
   | some ws=>
    rw[e1] at e'
    have e'':(iV (aL st n) ws).map PyData.list=some d:=e'
    cases e2:iV (aL st n) ws with
    | none=>rw[e2] at e'';cases e''
    | some ds=>
     rw[e2] at e''
     cases e''
     obtain⟨xs,hq,h2⟩:=S.read h1 e1
     obtain⟨its,rv,ht,hz⟩:=I.list hq
     obtain⟨as,q1,q2,q3⟩:=iJ ih ws xs its ds h2 rv e2
     obtain⟨o,ho,hc,k,hd⟩:=ht.isList
     exact⟨_,.list ho hc hd (by simpa using q1),q2,Nat.succ_le_succ q3⟩
end
def oEq:dj:=λx y st=>match aL st 20 x,aL st 20 y with
 | some a,some b=> .ok (.bl (PyData.eqv a b)) st
 | _,_=> .bad
def sj:dj:=λx y st=>match aL st 20 x,aL st 20 y with
 | some a,some b=> .ok (.bl (!PyData.eqv a b)) st
 | _,_=> .bad
section
variable {X:Cx}
def Mq(K:PySem.W.Frag)(neg:Bool):R2:=λa b H Q=>∃m st x y da db,aK K m st H/\af K m H x a/\af K m H y b/\aL st 20 x=some da/\aL st 20 y=some db/\Q (.bl (if neg then !PyData.eqv da db else PyData.eqv da db)) H
theorem iK{n:Nat}{d:PyData}(hn:n<=64)(h:d.canLay0=true)(k:d.depth<=n):shaped d=true:=by
 unfold shaped
 rw[h,decide_eq_true (Nat.le_trans k hn)]
 rfl
theorem IF(hu:X.A.units+64 < cLine):cH X (W2 .Eq) (Mq X.K false):=by
 intro pins s σ H a b v u Q I rx ry h
 obtain⟨m,st,x,y,da,db,S,h1,h2,e1,e2,q⟩:=h
 obtain⟨as,q1,q2,q3⟩:=cj I S 20 x a v da h1 rx e1
 obtain⟨bs,p1,p2,p3⟩:=cj I S 20 y b u db h2 ry e2
 exact eq_dataH q1 p1 (iK (by decide) q2 q3) (iK (by decide) p2 p3) hu ⟨.bl _,H,I,rfl,q⟩
theorem IG(hu:X.A.units+64 < cLine):cH X (W2 .NotEq) (Mq X.K true):=by
 intro pins s σ H a b v u Q I rx ry h
 obtain⟨m,st,x,y,da,db,S,h1,h2,e1,e2,q⟩:=h
 obtain⟨as,q1,q2,q3⟩:=cj I S 20 x a v da h1 rx e1
 obtain⟨bs,p1,p2,p3⟩:=cj I S 20 y b u db h2 ry e2
 exact ne_dataH q1 p1 (iK (by decide) q2 q3) (iK (by decide) p2 p3) hu ⟨.bl _,H,I,rfl,q⟩
theorem Ge(hu:X.A.units+64 < cLine):fR X (W2 .Eq) oEq:=⟨_,IF hu,λx y a b st H m Q S rx ry p=>by
 unfold oEq at p
 cases e1:aL st 20 x with
 | none=>rw[e1] at p;exact False.elim p
 | some da=>
  cases e2:aL st 20 y with
  | none=>rw[e1,e2] at p;exact False.elim p
  | some db=>
   rw[e1,e2] at p
   exact⟨m,st,x,y,da,db,S,rx,ry,e1,e2,p _ m H Ext.refl S fG⟩⟩
theorem Gf(hu:X.A.units+64 < cLine):fR X (W2 .NotEq) sj:=⟨_,IG hu,λx y a b st H m Q S rx ry p=>by
 unfold sj at p
 cases e1:aL st 20 x with
 | none=>rw[e1] at p;exact False.elim p
 | some da=>
  cases e2:aL st 20 y with
  | none=>rw[e1,e2] at p;exact False.elim p
  | some db=>
   rw[e1,e2] at p
   exact⟨m,st,x,y,da,db,S,rx,ry,e1,e2,p _ m H Ext.refl S fG⟩⟩
def fX:Wv->Bool
 | .aE=>true
 | .bl _=>true
 | .int _=>true
 | .str _=>true
 | _=>false
def NV:Wv->Wv->Bool
 | .aE,.aE=>true
 | .bl a,.bl b=>a == b
 | .bl a,.int b=>(if a then 1 else 0) == b
 | .int a,.bl b=>a == (if b then 1 else 0)
 | .int a,.int b=>a == b
 | .str a,.str b=>a == b
 | _,_=>false
def ij(st:Hs):Wv->Option (List Wv)
 | .tup ws=>some ws
 | .mI ws=>some ws
 | .ref l=>ag st l
 | _=>none
def Pt:dj:=λx y st=>match ij st y with
 | some ws=>if fX x=true/\ws.all fX=true then .ok (.bl (ws.any λz=>NV z x)) st else .bad
 | none=> .bad
def uS:dj:=λx y st=>match ij st y with
 | some ws=>if fX x=true/\ws.all fX=true then .ok (.bl (!(ws.any λz=>NV z x))) st else .bad
 | none=> .bad
theorem mQ{m:Mp}{H:Hp}{x:Wv}{a:V}(h:af X.K m H x a)(f:fX x=true):iY a=true:=by
 cases x with
 | aE=>unfold af at h;subst h;rfl
 | bl b=>unfold af at h;subst h;rfl
 | int b=>unfold af at h;subst h;rfl
 | str b=>unfold af at h;obtain⟨h,_⟩:=h;subst h;rfl
 | _=>cases f
theorem DZ{m:Mp}{H:Hp}{x y:Wv}{a b:V}(h:af X.K m H x a)(k:af X.K m H y b)(f:fX x=true)(g:fX y=true):DM a b=NV x y:=by
 cases x with
 | aE=>
  unfold af at h;subst h
  cases y with
  | str j=>unfold af at k;obtain⟨k,_⟩:=k;subst k;rfl
  | tup j=>cases g
  | mI j=>cases g
  | ref j=>cases g
  | ty j=>cases g
  | cls j=>cases g
  | fk j=>cases g
  | fn fp j=>cases g
  | _=>unfold af at k;subst k;rfl
 | bl i=>
  unfold af at h;subst h
  cases y with
  | str j=>unfold af at k;obtain⟨k,_⟩:=k;subst k;rfl
  | tup j=>cases g
  | mI j=>cases g
  | ref j=>cases g
  | ty j=>cases g
  | cls j=>cases g
  | fk j=>cases g
  | fn fp j=>cases g
  | _=>unfold af at k;subst k;rfl
 | int i=>
  unfold af at h;subst h
  cases y with
  | str j=>unfold af at k;obtain⟨k,_⟩:=k;subst k;rfl
  | tup j=>cases g
  | mI j=>cases g
  | ref j=>cases g
  | ty j=>cases g
  | cls j=>cases g
  | fk j=>cases g
  | fn fp j=>cases g
  | _=>unfold af at k;subst k;rfl
 | str i=>
  unfold af at h;obtain⟨h,_⟩:=h;subst h
  cases y with
  | str j=>unfold af at k;obtain⟨k,_⟩:=k;subst k;rfl
  | tup j=>cases g
  | mI j=>cases g
  | ref j=>cases g
  | ty j=>cases g
  | cls j=>cases g
  | fk j=>cases g
  | fn fp j=>cases g
  | _=>unfold af at k;subst k;rfl
 | _=>cases f
theorem j8{m:Mp}{H:Hp}{x:Wv}{a:V}(h:af X.K m H x a)(f:fX x=true):∀{ws:List Wv}{xs:List V},ah X.K m H ws xs->ws.all fX=true->xs.all iY=true/\NO a xs=ws.any λz=>NV z x
 | [],xs,r,_=>by unfold ah at r;subst r;exact⟨rfl,rfl⟩
 | w::ws,xs,r,g=>by
  unfold ah at r
  obtain⟨y,yr,rfl,r1,r2⟩:=r
  rw[List.all_cons,Bool.and_eq_true] at g
  obtain⟨q1,q2⟩:=j8 h f r2 g.2
  constructor
  ·rw[List.all_cons,mQ r1 g.1,q1];rfl
  ·unfold NO at q2 ⊢
   rw[List.any_cons,List.any_cons,DZ r1 h g.1 f,q2]
theorem lT{m:Mp}{H:Hp}{st:Hs}{y:Wv}{b:V}{ws:List Wv}(S:aK X.K m st H)(h:af X.K m H y b)(e:ij st y=some ws):∃p xs,b= .ref p/\(gZ X.K H p xs\/dS X.K H p xs)/\ah X.K m H ws xs:=by
 cases y with
 | tup zs=>
  cases e
  unfold af at h
  obtain⟨p,xs,e1,e2,e3⟩:=h
  exact⟨p,xs,e1,.inr (dS.of e2),e3⟩
 | mI zs=>
  cases e
  unfold af at h
  obtain⟨p,xs,e1,e2,e3⟩:=h
  exact⟨p,xs,e1,.inr (.inr e2),e3⟩
 | ref l=>
  unfold af at h
  obtain⟨p,e1,e2⟩:=h
  obtain⟨xs,q1,q2⟩:=S.read e2 e
  exact⟨p,xs,e1,.inl q1,q2⟩
 | _=>cases e
theorem Mr:fR X (W2 .In) Pt:=⟨_,xX,λx y a b st H m Q S rx ry p=>by
 unfold Pt at p
 cases e:ij st y with
 | none=>rw[e] at p;exact False.elim p
 | some ws=>
  rw[e] at p
  by_cases c:fX x=true/\ws.all fX=true
  ·simp only[if_pos c] at p
   obtain⟨q,xs,e1,e2,e3⟩:=lT S ry e
   obtain⟨f1,f2⟩:=j8 rx c.1 e3 c.2
   refine⟨q,xs,e1,e2,mQ rx c.1,f1,?_⟩
   rw[f2]
   exact p _ m H Ext.refl S fG
  ·simp only[if_neg c] at p;exact False.elim p⟩
theorem AE:fR X (W2 .NotIn) uS:=⟨_,qm,λx y a b st H m Q S rx ry p=>by
 unfold uS at p
 cases e:ij st y with
 | none=>rw[e] at p;exact False.elim p
 | some ws=>
  rw[e] at p
  by_cases c:fX x=true/\ws.all fX=true
  ·simp only[if_pos c] at p
   obtain⟨q,xs,e1,e2,e3⟩:=lT S ry e
   obtain⟨f1,f2⟩:=j8 rx c.1 e3 c.2
   refine⟨q,xs,e1,e2,mQ rx c.1,f1,?_⟩
   rw[f2]
   exact p _ m H Ext.refl S fG
  ·simp only[if_neg c] at p;exact False.elim p⟩
def bN:dj
 | .str z,.int i,st=>if z.length<=lim then(match kU z.cps.toList i with | some c=> .ok (.str ⟨#[c]⟩) st | none=> .bad) else .bad
 | x,.int i,st=>match ij st x with
  | some ws=>(match kU ws i with | some w=> .ok w st | none=> .bad)
  | none=> .bad
 | _,_,_=> .bad
theorem D0{m:Mp}{H:Hp}{ws:List Wv}{xs:List V}{i:Int}{w:Wv}(r:ah X.K m H ws xs)(h:kU ws i=some w):∃x,kU xs i=some x/\af X.K m H w x:=by
 unfold kU at h ⊢
 rw[<-r.length]
 cases e:xW ws.length i with
 | none=>rw[e] at h;cases h
 | some j=>rw[e] at h;exact r.get h
theorem D3{α:Type}{xs:List α}{i:Int}{v:α}(h:kU xs i=some v):v∈xs:=by
 obtain⟨j,_,h2,_⟩:=lR h
 exact List.mem_of_getElem? h2
theorem yg{z:PySem.Str}{c:Nat}(h:PyData.strOk z=true)(hc:c∈z.cps.toList):PyData.strOk ⟨#[c]⟩=true:=by
 unfold PyData.strOk at h ⊢
 rw[Array.all_eq_true_iff_forall_mem] at h
 have q:=h c (by simpa using hc)
 simpa using q
theorem Ms{a b:Expr}{ga gb:GE}{pos:Pos}(ha:JE X a ga)(hb:JE X b gb)(hs:wk b:=by exact λ_ _=>rfl):JE X (.Subscript a b pos) (aj bN ga gb) :=
 JE.of (LR HM aB aB hs) λρ st σ H m Q S R p=>wu (op:=bN) (λx y a b st H m Q S rx ry p=>by
  have seqs:∀(i:Int),y= .int i->(match ij st x with | some ws=>(match kU ws i with | some w=>Re.ok w st | none=> .bad) | none=> .bad)=bN x y st->RW X.K a b H Q:=λi hy hp=>by
   subst hy
   rw[<-hp] at p
   cases e:ij st x with
   | none=>rw[e] at p;exact False.elim p
   | some ws=>
    rw[e] at p
    dsimp only at p
    cases e1:kU ws i with
    | none=>rw[e1] at p;exact False.elim p
    | some w=>
     rw[e1] at p
     obtain⟨q,xs,e2,e3,e4⟩:=lT S rx e
     obtain⟨v,f1,f2⟩:=D0 e4 e1
     rcases e3 with e3 | e3
     ·exact .inl ⟨q,xs,i,v,e2,aF ry,e3,f1,p v m H Ext.refl S f2⟩
     ·exact .inr (.inl ⟨q,xs,i,v,e2,aF ry,e3,f1,p v m H Ext.refl S f2⟩)
  cases y with
  | int i=>
   cases x with
   | str z=>
    dsimp only[bN] at p
    by_cases c:z.length<=lim
    ·simp only[if_pos c] at p
     cases e1:kU z.cps.toList i with
     | none=>rw[e1] at p;exact False.elim p
     | some ch=>
      rw[e1] at p
      exact .inr (.inr ⟨z,i,ch,(dk rx).1,aF ry,cI c,e1,p _ m H Ext.refl S (mkStr (yg (dk rx).2 (D3 e1)))⟩)
    ·simp only[if_neg c] at p;exact False.elim p
   | _=>exact seqs i rfl rfl
  | _=>cases x<;>exact False.elim p) ha hb S R p
abbrev GO:=aT->Hs->Re (Option Int)
def SO(X:Cx)(e:Option Expr):TO:=λσ H Q=>∀(pins:List (WN×Obj))(s:WT),Inv X pins σ H s->W8 (model X.prog X.w) X.A (evalPart e X.env) (λu s'=>∃o H',Inv X pins σ H' s'/\IsPart u o/\Q o H') X.xe s
theorem pD{e:Option Expr}:PO X e (SO X e):=λpins s _ _ _ I h=>h pins s I
def Ub(K:PySem.W.Frag)(m:Mp)(H:Hp)(Q:Option Int->Hp->Prop)(o:Option Int)(st:Hs):Prop:=∀(m':Mp)(H':Hp),Ext K m H m' H'->aK K m' st H'->Q o H'
def JO(X:Cx)(e:Option Expr)(g:GO):Prop:=∀(ρ:aT)(st:Hs)(σ:St)(H:Hp)(m:Mp)(Q:Option Int->Hp->Prop),aK X.K m st H->aq X.K m H ρ σ->ao X σ m H (g ρ st) (Ub X.K m H Q)->SO X e σ H Q
def lU:GO:=λ_ st=> .ok none st
def pE(g:GE):GO:=λρ st=>(g ρ st).bind λw st1=>match w with
 | .int i=> .ok (some i) st1
 | _=> .bad
theorem D4:JO X none lU:=λρ st σ H m Q S R p pins s I=>DG pins s σ H Q I (p m H Ext.refl S)
theorem D5{e:Expr}{g:GE}(h:JE X e g):JO X (some e) (pE g):=λρ st σ H m Q S R p pins s I=>
 DH aB pins s σ H Q I (h.go S R (ao.bind p) λw st1 v m1 H1 p1 e1 S1 r1=>by
  cases w with
  | int i=>exact⟨i,aF r1,p1 m1 H1 e1 S1⟩
  | _=>exact False.elim p1)
theorem JO.go{e:Option Expr}{g:GO}{ρ:aT}{st:Hs}{σ:St}{H:Hp}{m:Mp}{T:Option Int->Hp->Prop}{ok:Option Int->Hs->Prop}(h:JO X e g)(S:aK X.K m st H)(R:aq X.K m H ρ σ)(p:ao X σ m H (g ρ st) ok)
  (k:∀(b:Option Int)(st1:Hs)(m1:Mp)(H1:Hp),ok b st1->Ext X.K m H m1 H1->aK X.K m1 st1 H1->T b H1):SO X e σ H T :=
 h ρ st σ H m T S R (p.imp Ext.refl λb st1 q m1 H1 e1 s1=>k b st1 m1 H1 q e1 s1)
def mR(xs:List Wv)(lo hi:Option Int):List Wv:=(xs.drop (HT.bW xs.length 0 lo)).take (HT.bW xs.length xs.length hi - HT.bW xs.length 0 lo)
def Mt(x:Wv)(lo hi:Option Int)(st:Hs):Re Wv:=match x with
 | .tup ws=>if HT.bW ws.length 0 lo=0/\HT.bW ws.length ws.length hi=ws.length then .bad else .ok (.tup (mR ws lo hi)) st
 | .ref l=>match ag st l with
  | some ws=> .ok (.ref st.length) (st++[.lst (mR ws lo hi)])
  | none=> .bad
 | _=> .bad
theorem qD{m:Mp}{H:Hp}{ws:List Wv}{xs:List V}{lo hi:Option Int}(r:ah X.K m H ws xs):ah X.K m H (mR ws lo hi) (oF xs lo hi):=by
 unfold mR oF
 rw[<-r.length]
 exact(r.drop _).take _
def uT(ga:GE)(gl gh:GO):GE:=λρ st=>(ga ρ st).bind λx st1=>(gl ρ st1).bind λlo st2=>(gh ρ st2).bind λhi st3=>Mt x lo hi st3
theorem sk{a:Expr}{lo hi:Option Expr}{ga:GE}{gl gh:GO}{pos p2:Pos}(ha:JE X a ga)(hl:JO X lo gl)(hh:JO X hi gh):JE X (.Subscript a (.Slice lo hi none p2) pos) (uT ga gl gh):=by
 refine JE.of (mF (Ab.or DL) aB pD pD) λρ st σ H m Q S R p=>?_
 refine ha.go S R (ao.bind p) λx st1 v m1 H1 p1 e1 S1 rx=>?_
 refine hl.go S1 (R.mono e1) ((ao.bind p1).imp e1 λ_ _ q=>q) λl st2 m2 H2 p2 e2 S2=>?_
 refine hh.go S2 (R.mono (e1.trans e2)) ((ao.bind p2).imp (e1.trans e2) λ_ _ q=>q) λh st3 m3 H3 p3 e3 S3=>?_
 have yh:=e1.trans (e2.trans e3)
 have NW:=af.mono (e2.trans e3) _ _ rx
 cases x with
 | tup ws=>
  have lF:cN X σ m H (if HT.bW ws.length 0 l=0/\HT.bW ws.length ws.length h=ws.length then .bad else .ok (.tup (mR ws l h)) st3) Q:=p3
  by_cases c:HT.bW ws.length 0 l=0/\HT.bW ws.length ws.length h=ws.length
  ·rw[if_pos c] at lF;exact False.elim lF
  ·rw[if_neg c] at lF
   unfold af at NW
   obtain⟨q,xs,rfl,f1,f2⟩:=NW
   refine .inl ⟨q,xs,rfl,dS.of f1,by rw[<-f2.length];exact c,λr hr=>?_⟩
   have e4:Ext X.K m3 H3 m3 (upd H3 r (.tup (oF xs l h))):=Ext.upd (.inl hr)
   exact lF (.ref r) m3 _ (yh.trans e4) (S3.fresh hr) (by unfold af;exact⟨r,_,rfl,aC,ah.mono e4 _ _ (qD f2)⟩)
 | ref k=>
  have lF:cN X σ m H (match ag st3 k with | some ws=> .ok (.ref st3.length) (st3++[.lst (mR ws l h)]) | none=> .bad) Q:=p3
  unfold af at NW
  obtain⟨q,rfl,f1⟩:=NW
  cases e:ag st3 k with
  | none=>rw[e] at lF;exact False.elim lF
  | some ws=>
   rw[e] at lF
   obtain⟨xs,g1,g2⟩:=S3.read f1 e
   exact .inr ⟨q,xs,rfl,g1,λr hr=>ig lF yh S3 (qD g2) r hr⟩
 | _=>exact False.elim p3
end
end J
namespace J
open PySem PySem.Spec PyProof.Rows L2
section
variable {X:Cx}
def bC(X:Cx)(f:WU)(op:List Wv->Hs->Re Wv):Prop:=∃r,b_ X f r/\∀(ws:List Wv)(vs:List V)(st:Hs)(H:Hp)(m:Mp)(Q:VK),aK X.K m st H->ah X.K m H ws vs->bB X.K m H (op ws st) Q->r vs H Q
def ar(op:List Wv->Hs->Re Wv)(g:GA):GE:=λρ st=>(g ρ st).bind λws st1=>(op ws st1).gw
theorem AF{x:Str}{id:String}{p pos:Pos}{e:Expr}{es:List Expr}{g:GA}{op:List Wv->Hs->Re Wv}(hc:bC X (.builtin id) op)(hg:Gl X x)(hm:X.mg x=none)(hv:WY x=some (.builtin id))(ha:JA X (e::es) g)
  (hn:x≠"__name__":=by decide)(hdb:(x == ("__debug__":Str))=false:=by decide)(he:W7 (e::es) X.env=(false,eval e X.env)::W7 es X.env:=by rfl)(hpl:(backTo pos (W7 es X.env)).any (·.1)=false:=by rfl) :
  JE X (.Call (.Name x p) (e::es) [] pos) (ar op g):=by
 obtain⟨r,h1,h2⟩:=hc
 refine JE.of (zY h1 hg hm hv i6 hn hdb he hpl) λρ st σ H m Q S R p=>?_
 exact ha.go S R (ao.bind p) λws st1 vs m1 H1 p1 e1 S1 rs=>h2 ws vs st1 H1 m1 Q S1 rs (bB.shift (ao.gw p1) e1)
theorem yi{x:Str}{T:String}{p pos:Pos}{e:Expr}{es:List Expr}{g:GA}{op:List Wv->Hs->Re Wv}(hc:bC X (.type T) op)(hg:Gl X x)(hm:X.mg x=none)(hv:WY x=some (.type T))(ha:JA X (e::es) g)
  (hn:x≠"__name__":=by decide)(hdb:(x == ("__debug__":Str))=false:=by decide)(he:W7 (e::es) X.env=(false,eval e X.env)::W7 es X.env:=by rfl)(hpl:(backTo pos (W7 es X.env)).any (·.1)=false:=by rfl) :
  JE X (.Call (.Name x p) (e::es) [] pos) (ar op g):=by
 obtain⟨r,h1,h2⟩:=hc
 refine JE.of (xV h1 hg hm hv i6 hn hdb he hpl) λρ st σ H m Q S R p=>?_
 exact ha.go S R (ao.bind p) λws st1 vs m1 H1 p1 e1 S1 rs=>h2 ws vs st1 H1 m1 Q S1 rs (bB.shift (ao.gw p1) e1)
theorem il{m:Mp}{H:Hp}{w:Wv}{vs:List V}(r:ah X.K m H [w] vs):∃v,vs=[v]/\af X.K m H w v:=by
 unfold ah at r
 obtain⟨v,t,rfl,h1,h2⟩:=r
 unfold ah at h2
 subst h2
 exact⟨v,rfl,h1⟩
theorem uU{m:Mp}{H:Hp}{w w':Wv}{vs:List V}(r:ah X.K m H [w,w'] vs):∃v v',vs=[v,v']/\af X.K m H w v/\af X.K m H w' v':=by
 unfold ah at r
 obtain⟨v,t,rfl,h1,h2⟩:=r
 obtain⟨v',rfl,h3⟩:=il h2
 exact⟨v,v',rfl,h1,h3⟩
def iW:List Wv->Hs->Re Wv
 | [.str z],st=>if z.length<=lim then .ok (.int z.length) st else .bad
 | [x],st=>match ij st x with
  | some ws=> .ok (.int ws.length) st
  | none=> .bad
 | _,_=> .bad
theorem AG:bC X (.builtin "len") iW:=⟨_,qp.or qq,λws vs st H m Q S r p=>by
 match ws,r,p with
 | [],r,p=>exact False.elim p
 | x::y::t,r,p=>cases x<;>exact False.elim p
 | [x],r,p=>
  obtain⟨v,rfl,rx⟩:=il r
  have seqs:(match ij st x with | some ws=>Re.ok (Wv.int ws.length) st | none=> .bad)=iW [x] st->(∃p ys,[v]=[V.ref p]/\(gZ X.K H p ys\/dS X.K H p ys)/\Q (.int ys.length) H):=λhp=>by
   rw[<-hp] at p
   cases e:ij st x with
   | none=>rw[e] at p;exact False.elim p
   | some ws=>
    rw[e] at p
    obtain⟨q,xs,rfl,e2,e3⟩:=lT S rx e
    refine⟨q,xs,rfl,e2,?_⟩
    rw[<-e3.length]
    exact p _ m H Ext.refl S mkInt
  cases x with
  | str z=>
   have p':bB X.K m H (if z.length<=lim then .ok (.int z.length) st else .bad) Q:=p
   by_cases c:z.length<=lim
   ·rw[if_pos c] at p'
    obtain⟨rfl,_⟩:=dk rx
    exact .inr ⟨z,rfl,cI c,p' _ m H Ext.refl S mkInt⟩
   ·rw[if_neg c] at p';exact False.elim p'
  | _=>exact .inl (seqs rfl)⟩
def D6:List Wv->Hs->Re Wv
 | [.int i],st=> .ok (.int (if i < 0 then -i else i)) st
 | _,_=> .bad
theorem IH:bC X (.builtin "abs") D6:=⟨_,zW,λws vs st H m Q S r p=>by
 match ws,r,p with
 | [],r,p=>exact False.elim p
 | x::y::t,r,p=>cases x<;>exact False.elim p
 | [x],r,p=>
  obtain⟨v,rfl,rx⟩:=il r
  cases x with
  | int i=>cases aF rx;exact⟨i,rfl,p _ m H Ext.refl S mkInt⟩
  | _=>exact False.elim p⟩
def NX(st:Hs)(T:String):Wv->Option Bool
 | .aE=>some false
 | .bl _=>some (T == "bool"||T == "int")
 | .int _=>some (T == "int")
 | .str _=>some (T == "str")
 | .tup _=>some (T == "tuple")
 | .mI _=>none
 | .ref l=>(ag st l).map λ_=>T == "list"
 | .ty _=>none
 | .cls _=>none
 | .fk _=>none
 | .fn _ _=>none
def AH(T:String):Bool:=T == "int"||T == "str"||T == "bool"||T == "tuple"||T == "list"
def Mu:List Wv->Hs->Re Wv
 | [x,.ty T],st=>if AH T=true then(match NX st T x with | some b=> .ok (.bl b) st | none=> .bad) else .bad
 | _,_=> .bad
def Pu(K:PySem.W.Frag):List V->Hp->VK->Prop:=λvs H Q=>∃m st x T v b,vs=[v,.ty T]/\aK K m st H/\af K m H x v/\AH T=true/\NX st T x=some b/\Q (.bl b) H
theorem AI:b_ X (.builtin "isinstance") (Pu X.K):=by
 intro pins s σ H xs us Q I r h
 obtain⟨m,st,x,T,v,b,rfl,S,rx,hT,hb,q⟩:=h
 obtain⟨u,u',rfl,r1,r2⟩:=vals2 r
 cases r2
 have fin:∀tk,EP X pins σ Q (.bool b) { s with toks:=tk }:=λtk=>⟨.bl b,H,I.tok tk,rfl,q⟩
 have AJ:EP X pins σ Q (.bool b) s:=⟨.bl b,H,I,rfl,q⟩
 unfold AH at hT
 simp only[Bool.or_eq_true,beq_iff_eq] at hT
 cases x with
 | aE=>
  unfold af at rx;subst rx;cases r1
  cases hb
  rcases hT with (((rfl | rfl) | rfl) | rfl) | rfl<;>
   exact call_isinstance (isinstance_false_none (by decide) (by kernel_rfl) (by rw[W4];kernel_rfl)) (fin _)
 | bl c=>
  unfold af at rx;subst rx;cases r1
  rcases hT with (((rfl | rfl) | rfl) | rfl) | rfl<;>cases hb<;>first
   | exact call_isinstance_yes (Tx:="bool") rfl (by kernel_rfl) (by rw[W4];kernel_rfl) AJ
   | exact call_isinstance (isinstance_false_bool (by decide) (by kernel_rfl) (by rw[W4];kernel_rfl)) (fin _)
 | int c=>
  unfold af at rx;subst rx;obtain⟨t,rfl⟩:=r1
  rcases hT with (((rfl | rfl) | rfl) | rfl) | rfl<;>cases hb<;>first
   | exact call_isinstance_yes (Tx:="int") (typeIs_int s c t) (by kernel_rfl) (by rw[W4];kernel_rfl) AJ
   | exact call_isinstance (isinstance_false_int (by decide) (by kernel_rfl) (by rw[W4];kernel_rfl)) (fin _)
 | str c=>
  obtain⟨rfl,_⟩:=dk rx;obtain⟨t,rfl⟩:=r1
  rcases hT with (((rfl | rfl) | rfl) | rfl) | rfl<;>cases hb<;>first
   | exact call_isinstance_yes (Tx:="str") (typeIs_str s c t) (by kernel_rfl) (by rw[W4];kernel_rfl) AJ
   | exact call_isinstance (isinstance_false_str (by decide) (by kernel_rfl) (by rw[W4];kernel_rfl)) (fin _)
 | mI ws=>cases hb
 | tup ws=>
  unfold af at rx;obtain⟨a,xs,rfl,h1,h2⟩:=rx;cases r1
  obtain⟨its,rv,ht,hz⟩:=I.tuple (dS.of h1)
  have hty:=ht.typeIs
  obtain⟨o,ho,hc,k,hd⟩:=ht
  rcases hT with (((rfl | rfl) | rfl) | rfl) | rfl<;>cases hb<;>first
   | exact call_isinstance_yes (Tx:="tuple") hty (by kernel_rfl) (by rw[W4];kernel_rfl) AJ
   | exact call_isinstance (isinstance_false_tuple (by decide) (by kernel_rfl) (by rw[W4];kernel_rfl)) ⟨⟨o,ho,hc⟩,fin _⟩
 | ref l=>
  unfold af at rx;obtain⟨a,rfl,h1⟩:=rx;cases r1
  have hb':(ag st l).map (λ_=>T == "list")=some b:=hb
  cases e:ag st l with
  | none=>rw[e] at hb';cases hb'
  | some ws=>
   rw[e] at hb'
   obtain⟨xs,hq,h2⟩:=S.read h1 e
   obtain⟨its,rv,ht,hz⟩:=I.list hq
   have hty:=ht.isList.typeIs
   obtain⟨o,ho,hc,k,hd⟩:=ht.isList
   rcases hT with (((rfl | rfl) | rfl) | rfl) | rfl<;>cases hb'<;>first
    | exact call_isinstance_yes (Tx:="list") hty (by kernel_rfl) (by rw[W4];kernel_rfl) AJ
    | exact call_isinstance (isinstance_false_list (by decide) (by kernel_rfl) (by rw[W4];kernel_rfl)) ⟨⟨o,ho,hc⟩,fin _⟩
 | ty t=>cases hb
 | cls t=>cases hb
 | fk t=>cases hb
 | fn fp t=>cases hb
theorem II:bC X (.builtin "isinstance") Mu:=⟨_,AI,λws vs st H m Q S r p=>by
 match ws,r,p with
 | [],r,p=>exact False.elim p
 | [x],r,p=>cases x<;>exact False.elim p
 | x::y::z::t,r,p=>cases y<;>exact False.elim p
 | [x,y],r,p=>
  obtain⟨v,v',rfl,rx,ry⟩:=uU r
  cases y with
  | ty T=>
   unfold af at ry
   subst ry
   have p':bB X.K m H (if AH T=true then(match NX st T x with | some b=> .ok (.bl b) st | none=> .bad) else .bad) Q:=p
   by_cases c:AH T=true
   ·rw[if_pos c] at p'
    cases e:NX st T x with
    | none=>rw[e] at p';exact False.elim p'
    | some b=>rw[e] at p';exact⟨m,st,x,T,v,b,rfl,S,rx,c,e,p' _ m H Ext.refl S fG⟩
   ·rw[if_neg c] at p';exact False.elim p'
  | _=>exact False.elim p⟩
def a8:GS:=λρ st=> .nx ρ st
def ay(g h:GS):GS:=λρ st=>match g ρ st with
 | .nx ρ' st'=>h ρ' st'
 | r=>r
theorem D7:i7 X [] a8:=i7.of Dp λρ st σ H m D S R p=>p σ m H Ext.refl S R
theorem AK{s:Stmt}{rest:List Stmt}{g h:GS}(h1:JS X s g)(h2:i7 X rest h):i7 X (s::rest) (ay g h) :=
 i7.of (zL F9 cC) λρ st σ H m D S R p=>h1 ρ st σ H m _ S R (by
  unfold ay at p
  cases e:g ρ st with
  | nx ρ' st'=>rw[e] at p;exact λσ' m' H' e' S' R'=>h2 ρ' st' σ' H' m' D S' R' (av.shift p e')
  | rt w st'=>rw[e] at p;exact p
  | bk ρ' st'=>rw[e] at p;exact p
  | ct ρ' st'=>rw[e] at p;exact p
  | err c ρ' st'=>rw[e] at p;exact p
  | bad=>rw[e] at p;exact p)
theorem D8{s:Stmt}{g:GS}(h1:JS X s g):i7 X [s] g:=i7.of (Dq F9) λρ st σ H m D S R p=>h1 ρ st σ H m D S R p
def aY(g:GE):GS:=λρ st=>(g ρ st).aI ρ λw st'=> .rt w st'
theorem IJ{e:Expr}{g:GE}{pos:Pos}(h:JE X e g):JS X (.Return (some e) pos) (aY g) :=
 JS.of (Hn aB) λρ st σ H m D S R p=>h.go S R (av.bF R p) λw st1 v m1 H1 q e1 S1 r1=>q v m1 H1 e1 S1 r1
theorem D9{pos:Pos}:JS X (.Pass pos) a8:=JS.of Dr λρ st σ H m D S R p=>p σ m H Ext.refl S R
def ip(g:GE):GS:=λρ st=>(g ρ st).aI ρ λ_ st'=> .nx ρ st'
theorem D_{e:Expr}{g:GE}{pos:Pos}(h:JE X e g)(hs:swapsWith e none pos.line X.env=pure false:=by rfl):JS X (.Expr e pos) (ip g) :=
 JS.of (Ds aB hs) λρ st σ H m D S R p=>h.go S R (av.bF R p) λw st1 v m1 H1 q e1 S1 r1=>q σ m1 H1 e1 S1 (R.mono e1)
def i8(gt:GT)(ga gb:GS):GS:=λρ st=>(gt ρ st).aI ρ λb st'=>if b=true then ga ρ st' else gb ρ st'
theorem Mv{c:Expr}{a b:List Stmt}{gt:GT}{ga gb:GS}{pos:Pos}(hc:JT X c gt)(ha:i7 X a ga)(hb:i7 X b gb):JS X (.If c a b pos) (i8 gt ga gb) :=
 JS.of (Lu kZ cC cC) λρ st σ H m D S R p=>hc.go S R (av.bF R p) λk st1 m1 H1 q e1 S1=>by
  cases k with
  | true=>rw[if_pos rfl] at q ⊢;exact ha ρ st1 σ H1 m1 D S1 (R.mono e1) (av.shift q e1)
  | false=>rw[if_neg Bool.false_ne_true] at q ⊢;exact hb ρ st1 σ H1 m1 D S1 (R.mono e1) (av.shift q e1)
def aH(i:Nat)(g:GE):GS:=λρ st=>(g ρ st).aI ρ λw st'=> .nx (ρ.set i (some w)) st'
theorem uV(i:Nat){x:Str}{e:Expr}{g:GE}{pos pos':Pos}(hN:X.N.Nodup)(h:JE X e g)(hi:X.N[i]? =some x:=by rfl)(hx:Loc X.env.scope x:=by first | exact Or.inl rfl | exact Or.inr rfl)(hs:swapsWith e (some (.Name x pos')) pos.line X.env=pure false:=by rfl)
  (hf:X.fn x=true\/X.env.scope.names.lookup x=some .local:=by first | exact .inl rfl | exact .inr rfl | assumption):JS X (.Assign [.Name x pos'] e pos) (aH i g) :=
 JS.of (Ht hN hi hx aB hs hf) λρ st σ H m D S R p=>h.go S R (av.bF R p) λw st1 v m1 H1 q e1 S1 r1=>q _ m1 H1 e1 S1 ((R.mono e1).set i r1)
def bx:GS:=λ_ _=> .bad
theorem aV{s:Stmt}:JS X s bx:=JS.of zN λρ st σ H m D S R p=>p
theorem yj{s:List Stmt}:i7 X s bx:=i7.of xP λρ st σ H m D S R p=>p
def Mw(o i v:Wv)(ρ:aT)(st:Hs):Rs:=match o,i with
 | .ref l,.int k=>match st[l]? with
  | some (.lst ws)=>(match xW ws.length k with | some j=> .nx ρ (st.set l (.lst (ws.set j v))) | none=> .bad)
  | _=> .bad
 | _,_=> .bad
def wz(ge go gi:GE):GS:=λρ st=>(ge ρ st).aI ρ λv st1=>(go ρ st1).aI ρ λo st2=>(gi ρ st2).aI ρ λi st3=>Mw o i v ρ st3
theorem Ea{o i e:Expr}{go gi ge:GE}{pos pos':Pos}(he:JE X e ge)(ho:JE X o go)(hi:JE X i gi)(hs:swapsWithSole [.Subscript o i pos'] e pos.line X.env=pure false:=by rfl)(hw:swappedStores [.Subscript o i pos'] e X.env=pure none:=by rfl)
  (h1:(assignEach [.Subscript o i pos'] X.env).map (·.2)=[assign (.Subscript o i pos') X.env]:=by rfl)
  (ha:∀v,assign (.Subscript o i pos') X.env v=(do
   let ov <-holding [v] (eval o X.env)
   let iv <-holding [v,ov] (eval i X.env)
   standAt pos'
   holding [v,ov,iv] (setItem ov iv v)
   release [v,ov,iv] []):=by intro _;rfl):JS X (.Assign [.Subscript o i pos'] e pos) (wz ge go gi):=by
 refine JS.of (Hr aB (Hq aB aB set_list ha) hs hw h1) λρ st σ H m D S R p=>?_
 refine he.go S R (av.bF R p) λv st1 vv m1 H1 p1 e1 S1 rv=>?_
 refine ho.go S1 (R.mono e1) ((av.bF (m:=m) (H:=H) R p1).imp e1 λ_ _ q=>q) λo' st2 ov m2 H2 p2 e2 S2 ro=>?_
 refine hi.go S2 (R.mono (e1.trans e2)) ((av.bF (m:=m) (H:=H) R p2).imp (e1.trans e2) λ_ _ q=>q) λi' st3 iv m3 H3 p3 e3 S3 ri=>?_
 have yh:=e1.trans (e2.trans e3)
 cases o' with
 | ref l=>
  cases i' with
  | int k=>
   have lF:av X m H (match st3[l]? with | some (.lst ws)=>(match xW ws.length k with | some j=> .nx ρ (st3.set l (.lst (ws.set j v))) | none=> .bad) | _=> .bad) D:=p3
   have R9:=af.mono e3 _ _ ro
   unfold af at R9
   obtain⟨a,rfl,f1⟩:=R9
   cases e:st3[l]? with
   | none=>rw[e] at lF;exact False.elim lF
   | some ob=>
    cases ob with
    | dct kvs=>rw[e] at lF;exact False.elim lF
    | cB kvs=>rw[e] at lF;exact False.elim lF
    | jv kvs=>rw[e] at lF;exact False.elim lF
    | j6 ns=>rw[e] at lF;exact False.elim lF
    | lst ws=>
     rw[e] at lF
     cases ej:xW ws.length k with
     | none=>simp only[ej] at lF;exact False.elim lF
     | some j=>
      simp only[ej] at lF
      obtain⟨xs,g1,g2⟩:=S3.mJ f1 e
      refine⟨a,xs,k,j,rfl,aF ri,g1,by rw[<-g2.length];exact ej,?_⟩
      have Uc:=af.mono (e2.trans e3) _ _ rv
      have e4:Ext X.K m3 H3 m3 (upd H3 a (.lst (xs.set j vv))):=Ext.upd (.inr ⟨xs,g1⟩)
      exact lF σ m3 _ (yh.trans e4) (S3.write f1 e (g2.set j Uc)) (R.mono (yh.trans e4))
  | _=>exact False.elim p3
 | _=>cases i'<;>exact False.elim p3
open Classical in
def forL(i:Nat)(gb:GS)(l:Nat)(all:List Wv):List Wv->aT->Hs->Rs
 | [],ρ,st=> .nx ρ st
 | w::r,ρ,st=>match gb (ρ.set i (some w)) st with
  | .nx ρ' st'=>if ag st' l=some all then forL i gb l all r ρ' st' else .bad
  | .ct ρ' st'=>if ag st' l=some all then forL i gb l all r ρ' st' else .bad
  | .bk ρ' st'=> .nx ρ' st'
  | .rt w st'=> .rt w st'
  | .err c ρ' st'=> .err c ρ' st'
  | .bad=> .bad
end
end J
namespace J
open PySem PySem.Spec PyProof.Rows L2
def CXJ(P:WS)(w:WV):zw:=λouter H s E e s'=>∃H' C,sh P w outer H s H' (.ref C) e s'/\E (.ref C) none H'
section
variable {X:Cx} {pins:List (WN×Obj)} {σ:St} {Hc H':Hp} {sc s':WT} {cls e:WU} {E:WU->WT->Prop} {Q:Unit->WT->Prop}
theorem old_ne(I:Inv X pins σ Hc sc){b:WN}{o:Obj}(q:X.s₀.heap.get? b=some o):b≠X.env.locals:=λz=>by
 have h1:=Heap.lt_size q
 have h2:=I.ok.above
 rw[z] at h1
 exact absurd (Nat.lt_of_lt_of_le h1 h2) (Nat.lt_irrefl _)
theorem Eb(I:Inv X pins σ Hc sc)(hst:X.stack=X.env::X.outer)(hf:X.env.frame=some X.env.locals){b:WN}{o:Obj}(q:X.s₀.heap.get? b=some o)(hb:b∉frs X.outer):b∉frs X.stack:=λz=>by
 rw[hst] at z
 unfold frs at z
 rw[List.filterMap_cons,hf] at z
 rcases List.mem_cons.mp z with z | z
 ·exact old_ne I q z
 ·exact hb z
theorem AL(hst:X.stack=X.env::X.outer)(hf:X.env.frame=some X.env.locals){b:WN}(hb:b∈frs X.outer):b∈frs X.stack:=by
 rw[hst]
 unfold frs
 rw[List.filterMap_cons,hf]
 exact List.mem_cons_of_mem _ hb
theorem sr{M:Model}{A:WO}{E:WU->WT->Prop}{s:WT}{base:Heap}{env:Env}{outer:List Env}{L e:WN}{cls a0 nt:WU}{Q:Unit->WT->Prop}(hfr:A.frames=some (env::outer))(hf:env.frame=some L)
  (x:base.StaysIn s.heap/\base.get? e=none/\s.heap.FunFrames base (env::outer)/\NR s.heap base e cls a0 nt)(k:∀h',An base (env::outer) e cls a0 L h'->s.heap.UpToSlots h'->Q () { s with heap:=h' }) :
  W8 M A (noteFrame (.ref e) env) Q E s:=by
 obtain⟨x1,x2,x3,x4⟩:=x
 by_cases z:nt=rawInt L
 ·subst z
  exact Ig hf x4 (k s.heap ⟨x1,x2,x3,x4⟩ (Heap.UpToSlots.refl _))
 ·obtain⟨ox,us,T,ot,ws,g1,⟨g2,g3⟩,g4,g5,g6,g7,g8,g9,R_⟩:=x4
  subst g2
  have apart:∀b,b≠T->(s.heap.update T (Obj.mapFields (·.setIfInBounds 3 Value.none))).get? b=s.heap.get? b:=λb hb=>Heap.get?_update_other _ _ (Ne.symm hb)
  have plain:∀b o,s.heap.get? b=some o->(∀vs,o.data≠.fields vs)->b≠T:=λb o hb hd q=>by
   subst q
   rw[g8] at hb
   cases hb
   exact hd ws g9
  unfold noteFrame
  simp only[hf]
  refine W9 (wpAny_field g1 g4 g5 ?_)
  rw[if_pos (show(Value.ref T != Value.none)=true from by simp)]
  refine W9 (wpAny_field g8 g9 R_ ?_)
  rw[if_neg (show ¬((nt == rawInt L)=true) from by simpa using z)]
  refine W9 (wpAny_setField g8 g9 (Array.getElem?_eq_some_iff.mp R_).1 ?_)
  refine Ao (a0:=a0) hfr (x3.of_keeps λb o hb hd=>⟨o,(apart b (plain b o hb hd)).trans hb,rfl⟩) hf ((apart e (Ne.symm g7)).trans g1) (λb o hb=>(apart b λq=>by rw[q,g6] at hb;cases hb).trans (x1 b o hb)) x2 g4 (Array.getElem?_eq_some_iff.mp g5).1 g3 λh' y y4=>?_
  exact k h' y λb o hb hd=>y4 b o ((apart b (plain b o hb hd)).trans hb) hd
theorem pF{M:Model}{A:WO}{E:WU->WT->Prop}{s:WT}{base h:Heap}{env:Env}{outer:List Env}{L a:WN}{cls:WU}{args:List WU}{Q:Unit->WT->Prop}(hfr:A.frames=some (env::outer))(hf:env.frame=some L)
  (st:base.StaysIn h)(fs:h.FunFrames base (env::outer))(mk:Heap.MadeExcOf h s.heap a cls args)(k:∀h' a0,An base (env::outer) a cls a0 L h'->s.heap.UpToSlots h'->Q () { s with heap:=h' }) :
  W8 M A (noteFrame (.ref a) env) Q E s:=by
 obtain⟨t,e1,e2,e3⟩:=mk.there
 have fresh:∀b,h.get? b=none->base.get? b=none:=λb hb=>by
  cases q:base.get? b with
  | none=>rfl
  | some o'=>have z:=st b o' q;rw[hb] at z;cases z
 have fs':=fs.of_keeps (h':=s.heap) λb o hb _=>⟨o,mk.keeps b o hb,rfl⟩
 unfold noteFrame
 simp only[hf]
 refine W9 (wpAny_field e1 rfl (x:=.none) rfl ?_)
 rw[if_neg (by decide)]
 exact Ao hfr fs' hf e1 (λb o hb=>mk.keeps b o (st b o hb)) (fresh a mk.new) rfl (by simp) (a0:=.ref t) rfl λh' l1 l4=>k h' (.ref t) l1 l4
theorem AM{ch:List WN}(hx:X.ex=[])(hst:X.stack=X.env::X.outer)(hf:X.env.frame=some X.env.locals)(I:Inv X pins σ Hc sc){B h2:Heap}(hch:∀b∈ch,dX X pins Hc b)(un:Un (frs X.stack) ch Hc H' sc.heap s'.heap)(up:s'.heap.UpToSlots h2)(stay:B.StaysIn h2)
  (iZ:∀b o,sc.heap.get? b=some o->b∉frs X.stack->b∉ch->∃o',B.get? b=some o'/\(Hc b=none->o'=o)) :
  Un (frs X.outer) [] X.H₀ H' X.s₀.heap h2/\(∀b o,X.s₀.heap.get? b=some o->b∉frs X.outer->∃o',B.get? b=some o'/\(X.H₀ b=none->o'=o)):=by
 have nx:∀b:WN,b∉X.ex:=λb=>by rw[hx];simp
 have nc:∀b o,X.s₀.heap.get? b=some o->b∉ch:=λb o q z=>by
  rcases(hch b z).2.2.2.1 with y | y
  ·exact nx b y
  ·exact absurd (Nat.lt_of_lt_of_le (Heap.lt_size q) y) (Nat.lt_irrefl _)
 have IK:∀b o,X.s₀.heap.get? b=some o->b∉frs X.outer->∃o',B.get? b=some o'/\(X.H₀ b=none->o'=o):=λb o q hb=>by
  obtain⟨o1,q1⟩:=I.base.there b o q (nx b)
  obtain⟨o2,q2,q3⟩:=iZ b o1 q1 (Eb I hst hf q hb) (nc b o q)
  refine⟨o2,q2,λn=>?_⟩
  have q4:=I.base.keep b o q n hb (nx b)
  rw[q4] at q1
  cases q1
  exact q3 (I.base.free b o q n (nx b))
 have sl:∀b o,X.s₀.heap.get? b=some o->X.H₀ b=none->b∈frs X.outer->∃sl,h2.get? b=some { o with slots:=sl }:=λb o q n hb=>by
  obtain⟨s1,q1⟩:=I.base.slot b o q n hb (nx b)
  obtain⟨s2,q2⟩:=un.slot b _ q1 (I.base.free b o q n (nx b)) (AL hst hf hb) (nc b o q)
  obtain⟨_,o3,q3,q4⟩:=I.ok.jb.mem hb
  rw[q] at q3
  cases q3
  obtain⟨s3,q5⟩:=up b _ q2 q4
  exact⟨s3,q5⟩
 refine⟨⟨λb o q n hb _=>?_,λb o q n hb _=>sl b o q n hb,λb o q n _=>?_,λb o q _=>?_,λb xs h=>un.tups b xs (I.base.tups b xs h),λb o u h=>un.fT b o u (I.base.fT b o u h),λb ps h=>?_⟩,IK⟩
 ·obtain⟨o2,q2,q3⟩:=IK b o q hb
  rw[q3 n] at q2
  exact stay b o q2
 ·obtain⟨o1,q1⟩:=I.base.there b o q (nx b)
  exact un.free b o1 q1 (I.base.free b o q n (nx b)) (nc b o q)
 ·by_cases hb:b∈frs X.outer
  ·obtain⟨s3,q3⟩:=sl b o q (I.ok.Dj b hb) hb
   exact⟨_,q3⟩
  ·obtain⟨o2,q2,_⟩:=IK b o q hb
   exact⟨o2,stay b o2 q2⟩
 ·obtain⟨m1,t1⟩:=I.base.hJ b ps h
  obtain⟨m2,t2⟩:=un.hJ b _ t1
  exact⟨m1++m2,by rw[<-Array.append_assoc];exact t2⟩
theorem k8(hx:X.ex=[])(hst:X.stack=X.env::X.outer)(hf:X.env.frame=some X.env.locals)(I:Inv X pins σ Hc sc)(F:ic X pins Hc sc H' cls e s')
  (k:∀s2,sh X.prog X.w X.outer X.H₀ X.s₀ H' cls e s2->Q () s2):W8 (model X.prog X.w) X.A (leaving X.env e) Q E s':=by
 obtain⟨a,a0,nt,B,ch,rfl,os,bare,hch,un,hok,fl,iZ⟩:=F
 have hfr:X.A.frames=some (X.env::X.outer):=by rw[I.ok.frames,hst]
 rw[hst] at fl
 unfold leaving
 refine W9 (sr hfr hf fl λh1 hd1 up1=>?_)
 refine r9 hd1 λh2 uz Mx=>k _ ?_
 obtain⟨k1,k2,⟨_,_,k3⟩,k4⟩:=uz
 obtain⟨u2,c2⟩:=AM hx hst hf I hch un (up1.trans Mx) k1 iZ
 exact⟨a,a0,B,rfl,os.trans I.os,bare,u2,hok,⟨k1,k2,k3,k4⟩,c2⟩
theorem sv{P:WS}{w:WV}{H:Hp}{h:Heap}{l:List WN}(ok:gX P w H h)(fr:∀b∈l,H b=none):gX P w H (PySem.W.hideAll h l):=λa o q=>
 (ok a o q).stay (λb u hb r=>PySem.W.hideAll_get _ r λz=>by
  have n:=fr b z
  rcases hb with hb | hb
  ·rw[hb,q] at n;cases n
  ·rw[hb] at n;cases n) (λ_ r=>r) λ_ _ r=>r
theorem mS{a C:WN}{args:List WU}(hx:X.ex=[])(hst:X.stack=X.env::X.outer)(hf:X.env.frame=some X.env.locals)(I:Inv X pins σ Hc sc)(ho:s'.os=sc.os)(Ud:s'.gens=sc.gens)
  (M:Heap.MadeExcOf sc.heap s'.heap a (.ref C) args)(k:∀s2,sh X.prog X.w X.outer X.H₀ X.s₀ Hc (.ref C) (.ref a) s2->Q () s2):W8 (model X.prog X.w) X.A (leaving X.env (.ref a)) Q E s':=by
 have hfr:X.A.frames=some (X.env::X.outer):=by rw[I.ok.frames,hst]
 have fs:sc.heap.FunFrames (PySem.W.hideAll sc.heap (frs X.stack)) (X.env::X.outer):=by
  rw[<-hst]
  exact PySem.W.funFrames_hide I.stack λenv he b hb=>List.mem_filterMap.mpr ⟨env,he,hb⟩
 unfold leaving
 refine W9 (pF (base:=PySem.W.hideAll sc.heap (frs X.stack)) hfr hf (λb o q=>PySem.W.of_hideAll _ q) fs M λh1 t hd1 up1=>?_)
 refine r9 hd1 λh2 uz Mx=>k _ ?_
 have up:=up1.trans Mx
 replace uz:qv (PySem.W.hideAll sc.heap (frs X.stack)) X.outer a (.ref C) t h2:=let ⟨k1,k2,⟨_,_,k3⟩,k4⟩:=uz;⟨k1,k2,k3,k4⟩
 obtain⟨u2,c2⟩:=AM (H':=Hc) (s':=s') (ch:=[]) hx hst hf I (λb z=>by cases z) (Un.kept M.keeps) up uz.1 λb o q hb _=>⟨o,PySem.W.hideAll_get _ q hb,λ_=>rfl⟩
 exact⟨a,t,_,rfl,ho.trans I.os,by rw[show({ s' with heap:=h2 }:WT).gens=sc.gens from Ud];exact I.bare,u2,sv I.hok I.jw,uz,c2⟩
end
def Gg(K:PySem.W.Frag)(m:Mp)(H:Hp)(r:Re Wv)(Q:VK)(E:XK):Prop:=match r with
 | .ok w st=>Ih K m H Q w st
 | .err c st=>∀(m':Mp)(H':Hp)(C:WN),Ext K m H m' H'->aK K m' st H'->ClsAt K c C->E (.ref C) none H'
 | .bad=>False
def spW(K:PySem.W.Frag)(n:Nat)(F:List Wv->Hs->Re Wv):Sp:=λvs H Q E=>∃m st ws,aK K m st H/\ah K m H ws vs/\ws.length=n/\Gg K m H (F ws st) Q E
def ax(n:Nat)(F:List Wv->Hs->Re Wv)(g:GA):GE:=λρ st=>(g ρ st).bind λws st1=>if ws.length=n then F ws st1 else .bad
section
variable {X:Cx}
theorem Ec{k n:Nat}{f:WN}{fd:WQ}{ps:List Str}{F:List Wv->Hs->Re Wv}{x:Str}{p pos:Pos}{e:Expr}{es:List Expr}{g:GA}
  (G:FnOk X.prog X.w X.K X.mg X.base (CXJ X.prog X.w) k f fd ps (spW X.K n F))(hr:hX k X.A)(hm:X.mg x=some (.ref f))(hk:PySem.W.keepIn X.K (.ref f)=true)(hb:Binds X.K fd ps [])(ha:JA X (e::es) g)(hg:Gl X x:=by rfl)
  (hdb:(x == ("__debug__":Str))=false:=by decide)(he:W7 (e::es) X.env=(false,eval e X.env)::W7 es X.env:=by rfl)(hpl:(backTo pos (W7 es X.env)).any (·.1)=false:=by rfl) :
  JE X (.Call (.Name x p) (e::es) [] pos) (ax n F g):=by
 intro ρ st σ H m Q S R p pins s I
 have args:=ha.go (T:=λvs H1=>∃ws st1 m1,cN X σ m H (if ws.length=n then F ws st1 else .bad) Q/\Ext X.K m H m1 H1/\aK X.K m1 st1 H1/\ah X.K m1 H1 ws vs) S R (ao.bind p)
  λws st1 vs m1 H1 p1 e1 S1 rs=>⟨ws,st1,m1,p1,e1,S1,rs⟩
 refine wpAny_Call_Name_kw (jy I hg hm ?_ hdb)
 refine PySem.W.callWith_K (h₀:=X.base) I.ok.mod.G_ hk (aI (args pos pins s I) λus s1 ⟨vs,H1,I1,r,ws,st1,m1,p1,e1,S1,rs⟩=>⟨I1.wa,?_⟩) he hpl
 by_cases c:ws.length=n
 ·rw[if_pos c] at p1
  let E:XK:=λcl _ H2=>∃c' st2 m2 C,cl= .ref C/\ClsAt X.K c' C/\F ws st1= .err c' st2/\Ext X.K m1 H1 m2 H2/\aK X.K m2 st2 H2
  have sp:spW X.K n F vs H1 Q E:=by
   refine⟨m1,st1,ws,S1,rs,c,?_⟩
   cases er:F ws st1 with
   | ok w st2=>rw[er] at p1;exact cN.shift (r:=.ok w st2) p1 e1
   | err c' st2=>exact λm2 H2 C e2 S2 hC=>⟨c',st2,m2,C,rfl,hC,er,e2,S2⟩
   | bad=>rw[er] at p1;exact False.elim p1
  have hl:us.length=ps.length:=by rw[<-r.length];exact G.len _ _ _ _ sp
  have bd:=hb s1 us I1.wa (by rw[List.append_nil];exact hl)
  rw[List.append_nil] at bd
  refine wpAny_call (codeAny_mono (G.run X.A X.stack s1 H1 ⟨us,[]⟩ us vs Q E hr I1.LL bd r sp) λrr s2 hq=>?_)
  cases rr with
  | error x=>
   obtain⟨H2,C,fl,c',st2,m2,C',ec,hC,er,e2,S2⟩:=hq
   cases ec
   rw[er] at p1
   exact p1 m2 H2 x s2 (e1.trans e2) S2 ⟨C,pins,H1,s1,hC,I1,.inl fl.any⟩
  | ok fw=>
   cases fw with
   | ret u=>exact I1.after hq
   | next=>exact False.elim hq
   | brk=>exact False.elim hq
   | cont=>exact False.elim hq
 ·rw[if_neg c] at p1;exact False.elim p1
end
def cq(n:Nat)(g:GS):List Wv->Hs->Re Wv:=λws st=>match g (ws.map some++List.replicate (n - ws.length) none) st with
 | .nx _ st'=> .ok .aE st'
 | .rt w st'=> .ok w st'
 | .err c _ st'=> .err c st'
 | _=> .bad
theorem sx{K:PySem.W.Frag}{m:Mp}{H:Hp}{N:List Str}{ws:List Wv}{vs:List V}(r:ah K m H ws vs)(h:ws.length<=N.length):aq K m H (ws.map some++List.replicate (N.length - ws.length) none) (L2.start N vs):=by
 have hl:=r.length
 refine⟨by unfold L2.start;simp[hl],λi w e=>?_⟩
 by_cases hi:i < ws.length
 ·rw[List.getElem?_append_left (by simpa using hi),List.getElem?_map] at e
  cases q:ws[i]? with
  | none=>rw[q] at e;cases e
  | some w'=>
   rw[q] at e
   cases e
   obtain⟨x,h1,h2⟩:=r.get q
   refine⟨x,?_,h2⟩
   unfold L2.start
   rw[List.getElem?_append_left (by simp;omega),List.getElem?_map,h1]
   rfl
 ·rw[List.getElem?_append_right (by simpa using hi),List.getElem?_replicate] at e
  split at e<;>cases e
section
variable {P:WS} {w:WV} {K:PySem.W.Frag} {mg:Str->Option WU} {base:Heap}
theorem uW{N:List Str}{qual:Str}{scope:Scope}{f:WN}{cdv:WU}{A:WO}{outer:List Env}{s s':WT}{H H':Hp}{E:XK}{σ:St}{c:PySem.Str}{e:WU}
  (r:qy (mz (CXJ P w) P w K mg base N qual scope f cdv A outer s H E) σ H' c e s')(h:∀C,ClsAt K c C->E (.ref C) none H'):(mz (CXJ P w) P w K mg base N qual scope f cdv A outer s H E).xe e s':=by
 obtain⟨C,pins,Hc,sc,hC,I,r⟩:=r
 rcases r with fl | ⟨rfl,a,args,rfl,ho,hg,M⟩
 ·exact k8 (X:=mz (CXJ P w) P w K mg base N qual scope f cdv A outer s H E) rfl rfl rfl I fl λs2 uz=>⟨H',C,uz,h C hC⟩
 ·exact mS (X:=mz (CXJ P w) P w K mg base N qual scope f cdv A outer s H E) rfl rfl rfl I ho hg M λs2 uz=>⟨H',C,uz,h C hC⟩
def AN(K:PySem.W.Frag)(f:WN)(cdv:WU):Prop:=∃o,K.lookup f=some o/\∃fd,o.data= .func fd/\fd.code=cdv
theorem Gh{x qual:Str}{st:Stmt}{f:WN}{fd:WQ}{N ps:List Str}{k:Nat}{g:GS}(F:F5 K x qual st f fd)(S:FnScope N ps (defScope st))
  (body:∀(cdv:WU),AN K f cdv->∀(A:WO)(outer:List Env)(s:WT)(H:Hp)(E:XK),hX k (A.deeper (envOfC qual (defScope st) s.heap.objs.size f cdv))->i7 (mz (CXJ P w) P w K mg base N qual (defScope st) f cdv A outer s H E) (defBody st) g) :
  FnOk P w K mg base (CXJ P w) (k+1) f fd ps (spW K ps.length (cq N.length g)):=by
 have hpl:ps.length<=N.length:=by have:=congrArg List.length S.pre;rw[List.length_take] at this;omega
 obtain⟨oc,od,kV,doc,pm,an,cdv,ct,osl,rfl,lk,hcd⟩:=F.ex
 refine LN lk hcd S (λvs H Q E h=>?_) λA outer s H vs Q E hr h=>?_
 ·obtain⟨m,st',ws,_,r,hl,_⟩:=h
  rw[<-r.length];exact hl
 ·obtain⟨m,st',ws,S',r,hl,p⟩:=h
  refine⟨_,cC,?_⟩
  refine body cdv ⟨_,lk,_,rfl,rfl⟩ A outer s H E hr _ st' _ H m _ S' (sx r (by omega)) ?_
  unfold cq at p
  cases e:g (ws.map some++List.replicate (N.length - ws.length) none) st' with
  | nx ρ st2=>rw[e] at p;exact λσ m' H' e' S2 R2=>p _ m' H' e' S2 (by unfold af;rfl)
  | rt w' st2=>rw[e] at p;exact p
  | bk ρ st2=>rw[e] at p;exact False.elim p
  | ct ρ st2=>rw[e] at p;exact False.elim p
  | err c ρ st2=>rw[e] at p;exact λσ m' H' x s' e' S2 R2 rz=>uW rz λC hC=>p m' H' C e' S2 hC
  | bad=>rw[e] at p;exact False.elim p
end
def OnlyT(H:Hp):Prop:=∀b,H b=none\/(∃o xs,H b=some (.bR o (.lst xs)))\/H b=some (.br #[])
theorem OnlyT.of{H:Hp}(h:DP H):OnlyT H:=λb=>by
 rcases h b with q | q
 ·exact .inl q
 ·exact .inr (.inl q)
theorem law_sp{K:PySem.W.Frag}{F:List Wv->Hs->Re Wv}(h:∀ns:List Int,ns.length<=63->∃st,F [.ref 0] [.j6 ns]= .ok (.bl true) st)(H:Hp)(a:WN)(ns:List Int)(hl:ns.length<=63)(hO:OnlyT H)(hS:gZ K H a (ns.map V.int))(hT:qw K H) :
  spW K 1 F [.ref a] H (λv _=>v= .bl true) λ_ _ _=>False:=by
 obtain⟨st,e⟩:=h ns hl
 refine⟨[a],[.j6 ns],[.ref 0],⟨rfl,λl b o h1 h2=>?_,λl l' b ws V' _ _ h2 _ k _=>?_,hT⟩,ah.cons (by unfold af;exact⟨a,rfl,rfl⟩) ah.nil,rfl,?_⟩
 ·cases l with
  | zero=>
   simp at h1 h2
   subst h1 h2
   show sf K H a ns
   rcases hS with (q | ⟨o',q⟩) | q
   ·rcases hO a with z | ⟨o',xs,z⟩ | z
    ·rw[z] at q;cases q
    ·rw[z] at q;cases q
    ·rw[z] at q;cases q
   ·exact .inl ⟨o',q⟩
   ·exact .inr q
  | succ l=>simp at h1
 ·cases l with
  | zero=>simp at h2;subst h2;simp[Ob.mu] at k
  | succ l=>simp at h2
 ·rw[e]
  intro v m' H' _ _ r
  unfold af at r
  exact r
end J
namespace J
open PySem PySem.Spec PyProof.Rows L2
def mU(w:Wv)(st:Hs):Re Bool:=match w with
 | .aE=> .ok false st
 | .bl b=> .ok b st
 | .int i=> .ok (i != 0) st
 | .str y=>if y.length<=lim then .ok ((y.length:Int) != 0) st else .bad
 | .tup ws=> .ok (!ws.isEmpty) st
 | .mI _=> .bad
 | .ref l=>match ag st l with
  | some ws=> .ok (!ws.isEmpty) st
  | none=> .bad
 | .ty _=> .bad
 | .cls _=> .bad
 | .fk _=> .bad
 | .fn _ _=> .bad
def cJ(g:GE):GT:=λρ st=>(g ρ st).bind mU
section
variable {X:Cx}
theorem rK{m:Mp}{H:Hp}{ws:List Wv}{xs:List V}(r:ah X.K m H ws xs):(!ws.isEmpty)= !xs.isEmpty:=by
 have h:=r.length
 cases ws<;>cases xs<;>simp_all
theorem mV{e:Expr}{g:GE}(h:JE X e g)(he:∀whole,isTrue e X.env whole=(do let v <-whole;standAt e.pos;holding [v] (truthy v))):JT X e (cJ g) :=
 JT.of (zV aB he) λρ st σ H m Q S R p=>h.go S R (ao.bind p) λw st1 v m1 H1 p1 e1 S1 r1=>by
  cases w with
  | aE=>unfold af at r1;subst r1;exact⟨false,rfl,p1 m1 H1 e1 S1⟩
  | bl b=>unfold af at r1;subst r1;exact⟨b,rfl,p1 m1 H1 e1 S1⟩
  | int i=>unfold af at r1;subst r1;exact⟨_,rfl,p1 m1 H1 e1 S1⟩
  | str y=>
   obtain⟨rfl,_⟩:=dk r1
   have p2:fV X σ m H (if y.length<=lim then .ok ((y.length:Int) != 0) st1 else .bad) Q:=p1
   by_cases c:y.length<=lim
   ·rw[if_pos c] at p2;exact⟨_,⟨cI c,rfl⟩,p2 m1 H1 e1 S1⟩
   ·rw[if_neg c] at p2;exact False.elim p2
  | mI ws=>exact False.elim p1
  | tup ws=>
   unfold af at r1
   obtain⟨a,xs,rfl,h1,h2⟩:=r1
   refine⟨!xs.isEmpty,.inr (.inl ⟨xs,dS.of h1,rfl⟩),?_⟩
   rw[<-rK h2]
   exact p1 m1 H1 e1 S1
  | ref l=>
   unfold af at r1
   obtain⟨a,rfl,h1⟩:=r1
   have p2:fV X σ m H (match ag st1 l with | some ws=> .ok (!ws.isEmpty) st1 | none=> .bad) Q:=p1
   cases el:ag st1 l with
   | none=>rw[el] at p2;exact False.elim p2
   | some ws=>
    rw[el] at p2
    obtain⟨xs,hq,h2⟩:=S1.read h1 el
    refine⟨!xs.isEmpty,.inl ⟨xs,hq,rfl⟩,?_⟩
    rw[<-rK h2]
    exact p2 m1 H1 e1 S1
  | ty T=>exact False.elim p1
  | cls T=>exact False.elim p1
  | fk T=>exact False.elim p1
  | fn fp T=>exact False.elim p1
theorem sA{p:Nat->Bool}{x:Array Nat}(hx:x.all p=true):∀(n:Nat)(a:Array Nat),a.all p=true->((List.replicate n x).foldl (· ++·) a).all p=true
 | 0,a,h=>h
 | n+1,a,h=>by
  rw[List.replicate_succ,List.foldl_cons]
  refine sA hx n _ ?_
  rw[Array.all_append,h,hx]
  rfl
theorem yk{x:PySem.Str}{n:Nat}(h:PyData.strOk x=true):PyData.strOk (si n x)=true:=by
 unfold PyData.strOk at h ⊢
 unfold si
 exact sA h n #[] (by simp)
theorem pG{x:Array Nat}:∀(n:Nat)(a:Array Nat),((List.replicate n x).foldl (· ++·) a).size=a.size+x.size * n
 | 0,a=>by simp
 | n+1,a=>by
  rw[List.replicate_succ,List.foldl_cons,pG n,Array.size_append,Nat.mul_succ]
  omega
theorem AO{x:PySem.Str}{n:Nat}:(si n x).length=x.length * n:=by
 show((List.replicate n x.cps).foldl (· ++·) #[]).size=x.cps.size * n
 rw[pG]
 simp
def pH(x:PySem.Str)(n:Int):Prop:=1 < n/\n<=100000/\x.length≠0/\x.length * n.toNat<=lim
instance {x n}:Decidable (pH x n):=by unfold pH;infer_instance
theorem Ed:cH X (WX .Mult) (λx y H Q=>∃z n,x= .str z/\y= .int n/\pH z n/\Q (.str (si n.toNat z)) H):=by
 intro pins s σ H x y v u Q I rx ry h
 obtain⟨z,n,rfl,rfl,⟨h1,h2,h3,h4⟩,q⟩:=h
 obtain⟨t,rfl⟩:=rx
 obtain⟨t',rfl⟩:=ry
 have n1:¬n < 1:=by omega
 have hlen:z.length<=lim:=by
  refine Nat.le_trans ?_ h4
  exact Nat.le_mul_of_pos_right _ (by omega)
 have hne:(n == 1||z.length == 0)=false:=by
  have e1:(n == 1)=false:=by rw[beq_eq_false_iff_ne];omega
  have e2:(z.length == 0)=false:=by rw[beq_eq_false_iff_ne];exact h3
  rw[e1,e2];rfl
 have hl:PySem.Builtin.Str.tooLong (z.length * n.toNat)=false:=by
  unfold PySem.Builtin.Str.tooLong
  have q:=cI h4
  first
   | exact decide_eq_false (by omega)
   | simp only[decide_eq_false_iff_not];omega
 refine PySem.P.mul_str (by
   have e1:¬n < -(2 ^ 63:Int):=by omega
   have e2:¬n >= 2 ^ 63:=by omega
   rw[decide_eq_false e1,decide_eq_false e2];rfl) (λ_ _=>?_) (λ_ _=>hl) ?_
 ·have e:((2:Int) ^ 63 - 1) / 100000<=(2 ^ 63 - 1) / n:=by
   refine Int.le_ediv_of_mul_le (by omega) ?_
   have:((2:Int) ^ 63 - 1) / 100000 * n<=((2:Int) ^ 63 - 1) / 100000 * 100000:=Int.mul_le_mul_of_nonneg_left h2 (by decide)
   exact Int.le_trans this (by decide)
  have e':(1000000:Int)<=(2 ^ 63 - 1) / 100000:=by decide
  unfold lim at hlen
  omega
 ·rw[if_neg n1,if_neg (by rw[hne];exact Bool.false_ne_true)]
  exact⟨by show(si n.toNat z).length<=_;rw[AO];exact cI h4,.str (si n.toNat z),H,I.tok _,⟨_,rfl⟩,q⟩
def Gi:dj
 | .int i,.int j,st=>if IntMulOk i j then .ok (.int (i * j)) st else .bad
 | .str z,.int n,st=>if pH z n then .ok (.str (si n.toNat z)) st else .bad
 | _,_,_=> .bad
theorem Ee:fR X (WX .Mult) Gi:=⟨_,cH.or DV Ed,λx y a b st H m Q S rx ry p=>by
 cases x with
 | int i=>
  cases y with
  | int j=>
   cases aF rx;cases aF ry
   have p':bB X.K m H (if IntMulOk i j then .ok (.int (i * j)) st else .bad) Q:=p
   by_cases c:IntMulOk i j
   ·rw[if_pos c] at p';exact .inl ⟨i,j,rfl,rfl,c,p' _ m H Ext.refl S mkInt⟩
   ·rw[if_neg c] at p';exact False.elim p'
  | _=>exact False.elim p
 | str z=>
  cases y with
  | int n=>
   obtain⟨rfl,hz⟩:=dk rx
   cases aF ry
   have p':bB X.K m H (if pH z n then .ok (.str (si n.toNat z)) st else .bad) Q:=p
   by_cases c:pH z n
   ·rw[if_pos c] at p';exact .inr ⟨z,n,rfl,rfl,c,p' _ m H Ext.refl S (mkStr (yk hz))⟩
   ·rw[if_neg c] at p';exact False.elim p'
  | _=>exact False.elim p
 | _=>exact False.elim p⟩
def a9:GE:=λ_ _=> .bad
def ft:GT:=λ_ _=> .bad
theorem az{e:Expr}:JE X e a9:=λρ st σ H m Q S R p=>False.elim p
theorem eM{e:Expr}:JT X e ft:=λρ st σ H m Q S R p=>False.elim p
end
def gq(P:WS)(w:WV)(K:PySem.W.Frag)(mg:Str->Option WU)(base:Heap)(k:Nat)(x:Str)(n:Nat)(F:List Wv->Hs->Re Wv):Prop :=
 ∃f fd ps,FnOk P w K mg base (CXJ P w) k f fd ps (spW K n F)/\mg x=some (.ref f)/\PySem.W.keepIn K (.ref f)=true/\Binds K fd ps []
theorem gq.mono{P:WS}{w:WV}{K:PySem.W.Frag}{mg:Str->Option WU}{base:Heap}{j k:Nat}{x:Str}{n:Nat}{F:List Wv->Hs->Re Wv}(h:gq P w K mg base j x n F)(l:j<=k):gq P w K mg base k x n F:=by
 obtain⟨f,fd,ps,G,r⟩:=h
 exact⟨f,fd,ps,G.mono l,r⟩
def aZ(K:PySem.W.Frag)(x:Str)(st:Stmt):Prop:=∃f fd,PySem.W.nsIn K W5 x=some (some (.ref f))/\F5 K x x st f fd
theorem aN{K:PySem.W.Frag}{x:Str}{st:Stmt}{f:WN}{oc:WU}{od an:Option WN}{osl:Array (Option WU)}{kV doc pm cdv ct:WU}(a:PySem.W.nsIn K W5 x=some (some (.ref f)))
  (l:K.lookup f=some ⟨oc,od,.func (PySem.W.fnOf x x (defArgs st) (defBody st) (defScope st) .none kV doc pm an cdv ct),osl⟩)(c:PySem.W.codeIn K cdv x=true)(k:PySem.W.keepIn K (.ref f)=true):aZ K x st:=⟨f,_,a,HX l c k⟩
theorem AQ:WY "isinstance"=some (.builtin "isinstance"):=by decide+kernel
theorem ym:WY "abs"=some (.builtin "abs"):=by decide+kernel
theorem yo:WY "len"=some (.builtin "len"):=by decide+kernel
theorem AR:WY "int"=some (.type "int"):=by decide+kernel
theorem AS:WY "str"=some (.type "str"):=by decide+kernel
theorem AU:WY "bool"=some (.type "bool"):=by decide+kernel
theorem AV:WY "tuple"=some (.type "tuple"):=by decide+kernel
theorem AW:WY "list"=some (.type "list"):=by decide+kernel
end J
namespace J
open PySem PySem.Spec PyProof.Rows L2
def eN(i:Nat)(gb:GS):List Wv->aT->Hs->Rs
 | [],ρ,st=> .nx ρ st
 | w::r,ρ,st=>match gb (ρ.set i (some w)) st with
  | .nx ρ' st'=>eN i gb r ρ' st'
  | .ct ρ' st'=>eN i gb r ρ' st'
  | .bk ρ' st'=> .nx ρ' st'
  | .rt w st'=> .rt w st'
  | .err c ρ' st'=> .err c ρ' st'
  | .bad=> .bad
section
variable {X:Cx}
theorem iq(i:Nat){body:List Stmt}{gb:GS}(hb:i7 X body gb){J':It}{ws:List Wv}{m1:Mp}{H1:Hp}{st1:Hs}{ρ:aT}{σ:St}{D:Ends}(S1:aK X.K m1 st1 H1)(R:aq X.K m1 H1 ρ σ)(p1:av X m1 H1 (eN i gb ws ρ st1) D)
  (hgo:∀(k:Nat)(H:Hp)(m':Mp),Ext X.K m1 H1 m' H->k < ws.length->J'.go k H)(hstop:∀(k:Nat)(H:Hp)(m':Mp),Ext X.K m1 H1 m' H->k=ws.length->J'.stop k H)
  (hy:∀(k:Nat)(hk:k < ws.length)(H:Hp)(x:V)(H':Hp)(m':Mp),Ext X.K m1 H1 m' H->J'.rS k H x H'->H'=H/\af X.K m' H ws[k] x) :
  ∃W:Nat->Nat->St->Hp->Prop,(∃m,W 0 m σ H1)/\∀k n σ H,W k n σ H->
   (J'.stop k H/\D.nx σ H)\/(J'.go k H/\∃N:St->Hp->Prop,(∀σ' H',N σ' H'->∃m',m' < n/\W (k+1) m' σ' H')/\∀x H',J'.rS k H x H'->rR i x σ H' λσ2 H2=>L6 X body { D with nx:=N,ct:=N,bk:=D.nx } σ2 H2):=by
 let Pv:Nat->St->Hp->Prop:=λk σ H=>∃ρ st m',Ext X.K m1 H1 m' H/\aK X.K m' st H/\aq X.K m' H ρ σ/\av X m' H (eN i gb (ws.drop k) ρ st) D
 refine⟨λk n σ H=>n=ws.length - k/\k<=ws.length/\Pv k σ H,⟨ws.length,by simp,Nat.zero_le _,ρ,st1,m1,Ext.refl,S1,R,p1⟩,?_⟩
 rintro k n σ2 H2 ⟨rfl,hk,ρ2,st2,m2,e2,S2,R2,p2⟩
 by_cases hlt:k < ws.length
 ·refine .inr ⟨hgo k H2 m2 e2 hlt,Pv (k+1),λσ' H' p'=>⟨ws.length - (k+1),by omega,rfl,hlt,p'⟩,λx H' y=>?_⟩
  obtain⟨ee,j9⟩:=hy k hlt H2 x H' m2 e2 y
  subst ee
  have ed:ws.drop k=ws[k]::ws.drop (k+1):=List.drop_eq_getElem_cons hlt
  rw[ed] at p2
  refine hb _ st2 _ _ m2 _ S2 (R2.set i j9) ?_
  unfold eN at p2
  cases eg:gb (ρ2.set i (some ws[k])) st2 with
  | nx ρ3 st3=>rw[eg] at p2;exact λσ3 m3 H3 e3 S3 R3=>⟨ρ3,st3,m3,e2.trans e3,S3,R3,av.shift p2 e3⟩
  | ct ρ3 st3=>rw[eg] at p2;exact λσ3 m3 H3 e3 S3 R3=>⟨ρ3,st3,m3,e2.trans e3,S3,R3,av.shift p2 e3⟩
  | bk ρ3 st3=>rw[eg] at p2;exact p2
  | rt w3 st3=>rw[eg] at p2;exact p2
  | err c3 ρ3 st3=>rw[eg] at p2;exact p2
  | bad=>rw[eg] at p2;exact p2
 ·have e:k=ws.length:=by omega
  subst e
  rw[List.drop_length] at p2
  exact .inl ⟨hstop _ H2 m2 e2 rfl,p2 σ2 m2 H2 Ext.refl S2 R2⟩
def Pw(K:PySem.W.Frag)(tl:TE):TI:=λσ H R=>tl σ H λx H1=>∃a,x= .ref a/\(((∃xs,gZ K H1 a xs)/\R (O1 K a) H1)\/((∃xs,dS K H1 a xs)/\R (RS K a) H1))
theorem AX{tg l:Expr}{tl:TE}(hl:PE X l tl):PI X tg l (Pw X.K tl):=by
 intro pins s σ H R I h
 refine aI (hl pins s σ H _ I h) λv s1 ⟨x,H1,I1,r1,q1⟩=>?_
 obtain⟨a,e,q1⟩:=q1
 subst e
 cases r1
 have frs:∀b∈[s1.heap.objs.size],dX X pins H1 b:=λb hb=>by
  have e:b=s1.heap.objs.size:=by simpa using hb
  subst e
  exact I1.rT (Nat.le_refl _) (I1.hok.fresh (Nat.le_refl _))
 rcases q1 with ⟨⟨xs,hq⟩,q⟩ | ⟨⟨xs,hq⟩,q⟩
 ·obtain⟨its,rv,p,hz⟩:=I1.list hq
  refine wpAny_pyIter_list p.isList ?_
  exact⟨s1.heap.objs.size,[s1.heap.objs.size],_,_,H1,rfl,I1.kept (t':=s1.toks) λb o e=>Heap.get?_push_of_some _ e,o_ a _,⟨_,Heap.get?_push_size _ rfl,rfl,rfl⟩,frs,q⟩
 ·obtain⟨its,rv,p,hz⟩:=I1.tuple hq
  refine wpAny_pyIter_tuple (show s1.heap.IsTuple a its.toArray from p) ?_
  exact⟨s1.heap.objs.size,[s1.heap.objs.size],_,_,H1,rfl,I1.kept (t':=s1.toks) λb o e=>Heap.get?_push_of_some _ e,uD a _,⟨_,Heap.get?_push_size _ rfl,rfl,rfl⟩,frs,q⟩
def uZ(i:Nat)(gi:GE)(gb:GS):GS:=λρ st=>(gi ρ st).aI ρ λw st1=>match w with
 | .ref l=>(match ag st1 l with | some ws=>forL i gb l ws ws ρ st1 | none=> .bad)
 | .tup ws=>eN i gb ws ρ st1
 | .mI ws=>eN i gb ws ρ st1
 | _=> .bad
theorem AY(i:Nat){x:Str}{iter:Expr}{body:List Stmt}{gi:GE}{gb:GS}{pos pos':Pos}(hN:X.N.Nodup)(hp:PassesOwn (model X.prog X.w) X.A X.env X.xe)(hc:X.calm=true)(hi:JE X iter gi)(hb:i7 X body gb)
  (hx:X.N[i]? =some x)(hlo:Loc X.env.scope x)(Mz:X.fn x=true\/X.env.scope.names.lookup x=some .local)
  (hs:∀x,W3 iter X.env x=pure x):JS X (.For (.Name x pos') iter body [] pos) (uZ i gi gb):=by
 refine JS.of (j7 hp hc (AX aB) (jz hN hx hlo Mz) cC hs) λρ st σ H m D S R p=>?_
 refine hi.go S R (av.bF R p) λw st1 v m1 H1 p1 e1 S1 rw'=>?_
 cases w with
 | ref l=>
  have p1':av X m H (match ag st1 l with | some ws=>forL i gb l ws ws ρ st1 | none=> .bad) D:=p1
  unfold af at rw'
  obtain⟨a,rfl,hla⟩:=rw'
  cases el:ag st1 l with
  | none=>rw[el] at p1';exact False.elim p1'
  | some ws=>
   rw[el] at p1'
   obtain⟨Ef,q0,_⟩:=S1.read hla el
   refine⟨a,rfl,.inl ⟨⟨Ef,q0⟩,?_⟩⟩
   let Pv:Nat->St->Hp->Prop:=λk σ H=>∃ρ st m',Ext X.K m1 H1 m' H/\aK X.K m' st H/\aq X.K m' H ρ σ/\ag st l=some ws/\av X m' H (forL i gb l ws (ws.drop k) ρ st) D
   refine⟨λk n σ H=>n=ws.length - k/\k<=ws.length/\Pv k σ H,⟨ws.length,by simp,Nat.zero_le _,ρ,st1,m1,Ext.refl,S1,R.mono e1,el,av.shift p1' e1⟩,?_⟩
   rintro k n σ2 H2 ⟨rfl,hk,ρ2,st2,m2,e2,S2,R2,l2,p2⟩
   obtain⟨xs,hq,rws⟩:=S2.read (e2.pre _ _ hla) l2
   have hlen:=rws.length
   by_cases hlt:k < ws.length
   ·have hx':k < xs.length:=by omega
    refine .inr ⟨⟨xs,xs[k],hq,by simp[hx']⟩,Pv (k+1),λσ' H' p'=>⟨ws.length - (k+1),by omega,rfl,hlt,p'⟩,λx H' y=>?_⟩
    obtain⟨ee,y⟩:=y
    subst ee
    have ey:=y xs hq
    have ed:ws.drop k=ws[k]::ws.drop (k+1):=List.drop_eq_getElem_cons hlt
    obtain⟨x',ex',j9⟩:=rws.get (i:=k) (w:=ws[k]) (List.getElem?_eq_getElem hlt)
    rw[ey] at ex'
    cases ex'
    rw[ed] at p2
    refine hb _ st2 _ _ m2 _ S2 (R2.set i j9) ?_
    unfold forL at p2
    cases eg:gb (ρ2.set i (some ws[k])) st2 with
    | nx ρ3 st3=>
     rw[eg] at p2
     by_cases c:ag st3 l=some ws
     ·simp only[if_pos c] at p2
      exact λσ3 m3 H3 e3 S3 R3=>⟨ρ3,st3,m3,e2.trans e3,S3,R3,c,av.shift p2 e3⟩
     ·simp only[if_neg c] at p2;exact False.elim p2
    | ct ρ3 st3=>
     rw[eg] at p2
     by_cases c:ag st3 l=some ws
     ·simp only[if_pos c] at p2
      exact λσ3 m3 H3 e3 S3 R3=>⟨ρ3,st3,m3,e2.trans e3,S3,R3,c,av.shift p2 e3⟩
     ·simp only[if_neg c] at p2;exact False.elim p2
    | bk ρ3 st3=>rw[eg] at p2;exact p2
    | rt w3 st3=>rw[eg] at p2;exact p2
    | err c3 ρ3 st3=>rw[eg] at p2;exact p2
    | bad=>rw[eg] at p2;exact p2
   ·have e:k=ws.length:=by omega
    subst e
    rw[List.drop_length] at p2
    exact .inl ⟨⟨xs,hq,by omega⟩,p2 σ2 m2 H2 Ext.refl S2 R2⟩
 | tup ws=>
  unfold af at rw'
  obtain⟨a,xs,rfl,hq,rws⟩:=rw'
  have hlen:=rws.length
  refine⟨a,rfl,.inr ⟨⟨xs,dS.of hq⟩,?_⟩⟩
  refine iq i hb (ws:=ws) S1 (R.mono e1) (av.shift p1 e1) (λk H m' e hk=>?_) (λk H m' e hk=>?_) λk hk H x H' m' e y=>?_
  ·have hx':k < xs.length:=by omega
   exact⟨xs,xs[k],dS.of (e.tup _ _ hq),by simp[hx']⟩
  ·exact⟨xs,dS.of (e.tup _ _ hq),by omega⟩
  ·obtain⟨ee,y⟩:=y
   refine⟨ee,?_⟩
   obtain⟨x',ex',j9⟩:=(ah.mono e _ _ rws).get (i:=k) (w:=ws[k]) (List.getElem?_eq_getElem hk)
   rw[y xs (dS.of (e.tup _ _ hq))] at ex'
   cases ex'
   exact j9
 | mI ws=>
  unfold af at rw'
  obtain⟨a,xs,rfl,hq,rws⟩:=rw'
  have hlen:=rws.length
  refine⟨a,rfl,.inr ⟨⟨xs,.inr hq⟩,?_⟩⟩
  refine iq i hb (ws:=ws) S1 (R.mono e1) (av.shift p1 e1) (λk H m' e hk=>?_) (λk H m' e hk=>?_) λk hk H x H' m' e y=>?_
  ·have hx':k < xs.length:=by omega
   exact⟨xs,xs[k],.inr hq,by simp[hx']⟩
  ·exact⟨xs,.inr hq,by omega⟩
  ·obtain⟨ee,y⟩:=y
   refine⟨ee,?_⟩
   obtain⟨x',ex',j9⟩:=(ah.mono e _ _ rws).get (i:=k) (w:=ws[k]) (List.getElem?_eq_getElem hk)
   rw[y xs (.inr hq)] at ex'
   cases ex'
   exact j9
 | _=>exact False.elim p1
def cb(lo:Int)(n:Nat):List Wv:=(List.range n).map λk:Nat=>Wv.int (lo+k)
theorem pI{lo:Int}{n k:Nat}(h:k < n):(cb lo n)[k]? =some (.int (lo+k)):=by
 unfold cb
 rw[List.getElem?_map,List.getElem?_range h]
 rfl
theorem sC{lo:Int}{n k:Nat}(h:k < (cb lo n).length):(cb lo n)[k]= .int (lo+k):=by
 have q:=pI (lo:=lo) (n:=n) (k:=k) (by unfold cb at h;simpa using h)
 rw[List.getElem?_eq_getElem h] at q
 exact Option.some.inj q
theorem fY{lo:Int}{n:Nat}:(cb lo n).length=n:=by unfold cb;simp
def jf(i:Int):Prop:=-(2 ^ 62)<=i/\i < 2 ^ 62
instance {i}:Decidable (jf i):=Classical.propDecidable _
def j_(i:Nat)(ga:GA)(gb:GS):GS:=λρ st=>(ga ρ st).aI ρ λws st1=>match ws with
 | [.int j]=>if jf j then eN i gb (cb 0 j.toNat) ρ st1 else .bad
 | _=> .bad
theorem Eg(i:Nat){body:List Stmt}{gb:GS}(hb:i7 X body gb){lo:Int}{n:Nat}{m1:Mp}{H1:Hp}{st1:Hs}{ρ:aT}{σ:St}{D:Ends}(S1:aK X.K m1 st1 H1)(R:aq X.K m1 H1 ρ σ)(p1:av X m1 H1 (eN i gb (cb lo n) ρ st1) D) :
  ∃W:Nat->Nat->St->Hp->Prop,(∃m,W 0 m σ H1)/\∀k n' σ H,W k n' σ H->
   ((Dv lo n).stop k H/\D.nx σ H)\/((Dv lo n).go k H/\∃N:St->Hp->Prop,(∀σ' H',N σ' H'->∃m',m' < n'/\W (k+1) m' σ' H')/\∀x H',(Dv lo n).rS k H x H'->rR i x σ H' λσ2 H2=>L6 X body { D with nx:=N,ct:=N,bk:=D.nx } σ2 H2) :=
 iq i hb S1 R p1 (λk H m' e hk=>by rw[fY] at hk;exact hk) (λk H m' e hk=>by rw[fY] at hk;exact Nat.le_of_eq hk.symm) λk hk H x H' m' e y=>by
  obtain⟨y1,y2⟩:=y
  refine⟨y1,?_⟩
  rw[sC,y2]
  exact mkInt
theorem AZ(i:Nat){x:Str}{a:Expr}{body:List Stmt}{ga:GA}{gb:GS}{pos pos' p q:Pos}(hN:X.N.Nodup)(hp:PassesOwn (model X.prog X.w) X.A X.env X.xe)(hc:X.calm=true)(hg:Gl X "range")(hm:X.mg "range"=none)(ha:JA X [a] ga)(hb:i7 X body gb)
  (hx:X.N[i]? =some x)(hlo:Loc X.env.scope x)(Mz:X.fn x=true\/X.env.scope.names.lookup x=some .local)(hst:W7 [a] X.env=[(false,eval a X.env)]):JS X (.For (.Name x pos') (.Call (.Name "range" p) [a] [] q) body [] pos) (j_ i ga gb):=by
 refine JS.of (j7 hp hc (pe hg hm i6 hst) (jz hN hx hlo Mz) cC (λ_=>rfl)) λρ st σ H m D S R p=>?_
 refine ha.go S R (av.bF R p) λws st1 vs m1 H1 p1 e1 S1 rs=>?_
 match ws,rs,p1 with
 | [],rs,p1=>exact False.elim p1
 | x::y::t,rs,p1=>cases x<;>exact False.elim p1
 | [x],rs,p1=>
  obtain⟨v,rfl,r1⟩:=il rs
  cases x with
  | int j=>
   cases aF r1
   have p2:av X m H (if jf j then eN i gb (cb 0 j.toNat) ρ st1 else .bad) D:=p1
   by_cases c:jf j
   ·rw[if_pos c] at p2
    exact⟨j,rfl,c.1,c.2,Eg i hb S1 (R.mono e1) (av.shift p2 e1)⟩
   ·rw[if_neg c] at p2;exact False.elim p2
  | _=>exact False.elim p1
theorem Eh{pos:Pos}:JS X (.Return none pos) (aY (gC .aE)):=JS.of Dt λρ st σ H m D S R p=>p .aE m H Ext.refl S pC
end
end J
namespace J
open PySem PySem.Spec PyProof.Rows L2
abbrev yp:List WU:=[.type "ValueError",.type "Exception",.type "BaseException",.type "object"]
abbrev yq:String:="ValueError.__new__"
structure Ei(K:PySem.W.Frag)(c:PySem.Str)(C:WN):Prop where
 cls:ClsAt K c C
 exc:PySem.W.excIn K C yp yq=true
theorem gB{K:PySem.W.Frag}{h:Heap}{C:WN}(KX:K.In h)(q:PySem.W.excIn K C yp yq=true) :
  ∃(bm:List WU)(N:WN)(nm qn:Str)(bs:List WU)(hd:Bool)(sn:List Str)(sub:List WU)(ab:Bool)(col:Option Bool)(dd:Option WN)(k0 k1 k2 k3 k5:Option WU)(mN:Str->Option WU),
   h.get? C=some (excClassObj nm qn C N bs bm hd sn sub ab col dd k0 k1 k2 k3 k5 yq)/\h.Ns N mN/\mN "__init__"=none/\OwnTail h yp bm/\(∀v r,PySem.W.mroIn K C v=some r->(Value.ref C::bm).contains v=r):=by
 unfold PySem.W.excIn at q
 split at q
 ·rename_i dd cd sl lk
  split at q
  ·rename_i C1 bm k0 k1 k2 k3 n1 k5 em es
   simp only[Bool.and_eq_true,beq_iff_eq,Bool.not_eq_true'] at q
   obtain⟨⟨⟨⟨⟨q1,q2⟩,q3⟩,q4⟩,q5⟩,q6⟩:=q
   subst q1 q2
   obtain⟨nm,bs,mro,N,qn,hd,sn,sub,ab,col,del⟩:=cd
   dsimp only at em q3 q5 q6
   subst em q3
   have Ue:sl=#[k0,k1,k2,k3,some (.builtin yq),k5]:=by
    cases sl with
    | mk l=>exact congrArg Array.mk es
   subst Ue
   refine⟨bm,N,nm,qn,bs,hd,sn,sub,ab,col,dd,k0,k1,k2,k3,k5,_,KX _ _ lk,.of_isNs (PySem.W.isNs_of_in KX q5),PySem.W.nsMap_none_of_in KX q5 q6,PySem.W.tail_of_in KX q4,λv r e=>?_⟩
   unfold PySem.W.mroIn PySem.W.clsIn at e
   rw[lk] at e
   first
    | exact Option.some.inj e
    | (simp at e;exact e)
  ·cases q
 ·cases q
section
variable {X:Cx}
def mW(c:PySem.Str)(ga:GA):GS:=λρ st=>(ga ρ st).aI ρ λws st1=>if ws.length<=lim then .err c ρ st1 else .bad
theorem A0{c:Str}{C:WN}{e:Expr}{es:List Expr}{ga:GA}{np cpos pos:Pos}(hc:X.calm=true)(O:Ei X.K c C)(hg:Gl X c)(hm:X.mg c=some (.ref C))(ha:JA X (e::es) ga)(hd:(c == ("__debug__":Str))=false)
  (he:W7 (e::es) X.env=(false,eval e X.env)::W7 es X.env)(hpl:(backTo cpos (W7 es X.env)).any (·.1)=false):JS X (.Raise (some (.Call (.Name c np) (e::es) [] cpos)) none pos) (mW c ga):=by
 intro ρ st σ H m D S R p pins s I
 have args:=ha.go (T:=λvs H1=>∃ws st1 m1,av X m H (if ws.length<=lim then .err c ρ st1 else .bad) D/\Ext X.K m H m1 H1/\aK X.K m1 st1 H1/\ah X.K m1 H1 ws vs) S R (av.bF R p)
  λws st1 vs m1 H1 p1 e1 S1 rs=>⟨ws,st1,m1,p1,e1,S1,rs⟩
 obtain⟨bm,N,nm,qn,bs,La,sn,sub,ab,col,dd,k0,k1,k2,k3,k5,mN,hC,hN,hni,T,_⟩:=gB I.ok.mod.G_ O.exc
 refine wpAny_Raise_call_subU (C:=C) (nm:=nm) (q:=qn) (N:=N) (bs:=bs) (bm:=bm) (hdct:=La) (sn:=sn) (sub:=sub) (ab:=ab) (col:=col) (dd:=dd) (k0:=k0) (k1:=k1) (k2:=k2) (k3:=k3) (k5:=k5) (bmB:=yp)
  F.excBase_ValueError (by decide) F.excBase_ValueError (mN:=mN) (T.hasType F.excBase_ValueError.hasBase) (I.ok.hd hc) ?_ hni (jy I hg hm ⟨rfl,?_⟩ hd)
 ·rw[he]
  show(false||(backTo cpos (W7 es X.env)).any (·.1))=false
  rw[hpl]
  rfl
 ·have go:=args cpos pins s I
  rw[he] at go ⊢
  refine Calls.evalArgs_plain (aI go λus s1 ⟨vs,H1,I1,r,ws,st1,m1,p1,e1,S1,rs⟩=>?_)
  by_cases cl:ws.length<=lim
  ·rw[if_pos cl] at p1
   refine⟨rfl,by rw[<-r.length,<-rs.length];exact cI cl,I1.bk _ _ hC,hN.keeps I1.bk,T.keeps I1.bk,λh2 a M=>?_⟩
   exact p1 σ m1 H1 _ _ e1 S1 (R.mono e1) ⟨C,pins,H1,s1,O.cls,I1,.inr ⟨rfl,a,us,rfl,rfl,rfl,M⟩⟩
  ·rw[if_neg cl] at p1;exact False.elim p1
end
end J
namespace J
open PySem PySem.Spec PyProof.Rows L2
structure j'(K:PySem.W.Frag)(C:WN):Prop where
 exc:PySem.W.excIn K C yp yq=true
 ga:PySem.W.findIn K (.ref C) "__getattribute__"=some (some (.builtin "BaseException.__getattribute__"))
 gx:PySem.W.findIn K (.ref C) "__getattr__"=some none
 cl:PySem.W.findIn K (.ref C) "__class__"=some (some (.builtin "object.__class__"))
section
variable {prog:WS} {w:WV} {A:WO} {E:WU->WT->Prop} {h:Heap} {g:Array GenState} {d:Drawn} {t:Nat} {os:OsState} {a C:WN} {o:Obj} {K:PySem.W.Frag}
theorem IL{R:Result->WT->Prop}(Y:K.In h)(Z:j' K C)(ha:h.get? a=some o)(hc:o.cls= .ref C)(k:R (.ok (.ret (.ref C))) ⟨h,g,d,t,os⟩) :
  WZ (model prog w) A (.call (.builtin "getset_descriptor.__get__") ⟨[.builtin "object.__class__",.ref a,.ref C],[]⟩) R ⟨h,g,d,t,os⟩:=by
 obtain⟨bm,N,nm,qn,bs,La,sn,sub,ab,col,dd,k0,k1,k2,k3,k5,mN,hC,hN,hni,T,_⟩:=gB Y Z.exc
 have ty:(⟨h,g,d,t,os⟩:WT).TypeIs (.builtin "object.__class__") "getset_descriptor":=F.typeOf_object_class
 have own:(Value.ref C::bm).contains (.type (".".intercalate ("object.__class__".cutAt '.').dropLast))=true:=by
  rw[F.owner_object_class,List.contains_cons,T.hasType (X:="object") (b:=true) (by decide)];rfl
 refine codeAny_call_builtin F.slot_gs_get.plain F.entry_gs_get (F.slot_gs_get.check _ _ _ _ _ _ _ _ ty (F.args_gs_get _ _ _) ?_)
 repeat (any_goals (first | assumption | (with_reducible refine wpAny_loadPart_at ha ?_;rw[hc]) | (with_reducible refine wpAny_isSubtype_exc hC ?_;rw[own]) | wp_step))
 refine⟨Code.quiet_builtin _ (by decide+kernel),codeAny_builtin F.entry_object_class ?_⟩
 repeat (any_goals (first | assumption | (with_reducible refine wpAny_loadPart_at ha ?_;rw[hc]) | wp_step))
theorem A1{tk:Tok}{Q:Fin->WT->Prop}(Y:K.In h)(Z:j' K C)(ha:h.get? a=some o)(hc:o.cls= .ref C)(k:Q (.done (.ret (.ref C))) ⟨h,g,d,t,os⟩) :
  W8 (model prog w) A (Builtin.«object.__getattribute__» ⟨[.ref a,.str "__class__" tk],[]⟩) Q E ⟨h,g,d,t,os⟩:=by
 have ty:(⟨h,g,d,t,os⟩:WT).TypeIs (.builtin "object.__class__") "getset_descriptor":=F.typeOf_object_class
 have t1:=F.typeOf_object_class
 have t2:=F.slot_gs_get.lookup
 have t3:=F.slot_gs_set.lookup
 have L:=PySem.W.looks_findIn (M:=model prog w) Y Z.cl
 repeat (any_goals (first | assumption | (with_reducible refine wpAny_loadPart_at ha ?_;rw[hc]) | with_reducible refine L.at ?_ | wp_step))
 refine IL Y Z ha hc ?_
 repeat (any_goals (first | assumption | wp_step))
theorem A2{M:Model}{nv:WU}{Q:Unit->WT->Prop}(Y:K.In h)(Z:j' K C)(ha:h.get? a=some o)(hc:o.cls= .ref C)(k:Q () ⟨h,g,d,t,os⟩) :
  W8 M A (checkBuiltinCall "BaseException.__getattribute__" ⟨[.ref a,nv],[]⟩) Q E ⟨h,g,d,t,os⟩:=by
 obtain⟨bm,N,nm,qn,bs,La,sn,sub,ab,col,dd,k0,k1,k2,k3,k5,mN,hC,hN,hni,T,_⟩:=gB Y Z.exc
 have u1:builtinKind "BaseException.__getattribute__"=some .slot:=by decide+kernel
 have u2:splitId "BaseException.__getattribute__"=some ("BaseException","__getattribute__"):=by decide+kernel
 have u3:(Value.ref C::bm).contains (.type "BaseException")=true:=by rw[List.contains_cons,T.hasType (X:="BaseException") (b:=true) (by decide)];rfl
 have u4:=F.args_bexc_ga (.ref a) nv
 simp only[checkBuiltinCall,u1,u2]
 refine W9 ?_
 unfold isInstance
 repeat (first | (with_reducible refine wpAny_loadPart_at ha ?_;rw[hc]) | (with_reducible refine wpAny_isSubtype_exc hC ?_;rw[u3]) | wp_step)
 exact k
theorem MA{tk:Tok}{Q:WU->WT->Prop}(Y:K.In h)(Z:j' K C)(ha:h.get? a=some o)(hc:o.cls= .ref C)(k:Q (.ref C) ⟨h,g,d,t,os⟩) :
  W8 (model prog w) A (getAttrBy (.ref a) (.str "__class__" tk) false) Q E ⟨h,g,d,t,os⟩:=by
 have v1:=F.excAttr_ValueError.ga.bind (.ref a)
 have v2:(Value.builtin "BaseException.__getattribute__" == Value.builtin "object.__getattribute__")=false:=by decide+kernel
 have v3:(onTheHeap (Value.ref C)&&Value.builtin "BaseException.__getattribute__" == Value.builtin "object.__getattribute__")=false:=by rw[v2];rfl
 have v4:(false&&onTheHeap (Value.builtin "BaseException.__getattribute__"))=false:=rfl
 have L1:=PySem.W.looks_findIn (M:=model prog w) Y Z.ga
 have L2:=PySem.W.looks_findIn (M:=model prog w) Y Z.gx
 repeat (any_goals (first | assumption | (with_reducible refine wpAny_loadPart_at ha ?_;rw[hc]) | with_reducible refine L1.at ?_ | with_reducible refine L2.at ?_ | wp_step))
 refine codeAny_call_builtin F.excAttr_ValueError.ga.plain F.entry_bexc_ga (A2 Y Z ha hc (A1 Y Z ha hc ?_))
 repeat (any_goals (first | assumption | wp_step))
theorem Ej{Q:Option WU->WT->Prop}(Y:K.In h)(Z:j' K C)(ha:h.get? a=some o)(hc:o.cls= .ref C)(k:Q (some (.ref C)) ⟨h,g,d,t+1,os⟩) :
  W8 (model prog w) A (getAttr? (.ref a) "__class__") Q E ⟨h,g,d,t,os⟩:=by
 unfold getAttr? getAttrBy?
 repeat (any_goals (first | assumption | with_reducible apply MA Y Z ha hc | wp_step))
end
end J
namespace J
open PySem PySem.Spec PyProof.Rows L2
structure Px(X:Cx):Prop where
 st:X.stack=X.env::X.outer
 fr:X.env.frame=some X.env.locals
 ex:X.ex=[]
theorem yt{P:WS}{w:WV}{H:Hp}{h:Heap}{a:WN}{o:HO}(x:bL P w H h a o):∃u,h.get? a=some u:=by
 cases o with
 | lst xs=>obtain⟨_,_,_,_,e⟩:=x;exact⟨_,e⟩
 | tup xs=>obtain⟨_,_,_,⟨ob,e,_⟩,_⟩:=x;exact⟨_,e⟩
 | dK kvs=>obtain⟨_,_,_,_,ob,_,_,e,_⟩:=x;exact⟨_,e⟩
 | dT kvs=>obtain⟨_,_,_,_,ob,_,_,e,_⟩:=x;exact⟨_,e⟩
 | set S n=>obtain⟨ob,_,_,_,e,_⟩:=x;exact⟨_,e⟩
 | ins C dx fs=>obtain⟨_,_,_,e,_⟩:=x;exact⟨_,e⟩
 | own y=>exact x
 | xd fs=>obtain⟨_,⟨_,_,_,e,_⟩,_⟩:=x;exact⟨_,e⟩
 | NI lo hi=>obtain⟨_,_,_,e⟩:=x;exact⟨_,e⟩
 | bR ob u=>obtain⟨e,_⟩:=x;exact⟨_,e⟩
 | br ps=>exact⟨_,x⟩
 | met f y=>exact⟨_,x⟩
 | ext φ=>exact x.2.1
def IM(X:Cx)(a:WN):Prop:=X.s₀.heap.get? a=none/\(∀xs,X.H₀ a≠some (.tup xs))/\(∀o u,X.H₀ a≠some (.bR o u))/\∀ps,X.H₀ a≠some (.br ps)
def yu(o:Obj):Prop:=∃vs,o.data= .fields vs/\vs[2]? =some Value.none
section
variable {X:Cx} {pins:List (WN×Obj)} {σ:St} {Hc H':Hp} {sc s':WT} {B h2:Heap} {a C:WN} {a0:WU} {ch:List WN}
theorem iL(I:Inv X pins σ Hc sc)(os:s'.os=sc.os)(bare:AllBare s'.gens)(hch:∀b∈ch,dX X pins Hc b)(un:Un (frs X.stack) ch Hc H' sc.heap s'.heap)(hok:gX X.prog X.w H' B)(fl:qv B X.stack a (.ref C) a0 h2)(up:s'.heap.UpToSlots h2)
  (iZ:∀b o,sc.heap.get? b=some o->b∉frs X.stack->b∉ch->∃o',B.get? b=some o'/\(Hc b=none->o'=o)){tk:Nat} :
  (∃o,yu o/\Inv X pins σ (upd H' a (.bR o (.ext (h_ a C)))) { s' with heap:=h2,toks:=tk })/\H' a=none/\(X.ex=[]->IM X a):=by
 have stay:=fl.1
 obtain⟨oe,vs,NY,hcl,hda,Ug⟩:=fl.first
 have Uh:h_ a C h2:=⟨oe,NY,hcl,vs,hda⟩
 have ha:H' a=none:=by
  cases q:H' a with
  | none=>rfl
  | some u=>
   obtain⟨z,e⟩:=yt (hok a u q)
   rw[fl.2.1] at e
   cases e
 have Ui:a∉frs X.stack:=λz=>by
  obtain⟨_,o1,e1,d1⟩:=fl.2.2.1.mem z
  rw[NY] at e1
  cases e1
  exact d1 vs hda
 have Ha:∀b∈frs X.stack,b∉ch:=λb hb z=>by
  rcases List.mem_cons.mp (I.mn b hb) with q | q
  ·exact(hch b z).2.1 q
  ·exact(hch b z).2.2.1 q
 have new:a∉ch->∀o,sc.heap.get? a≠some o:=λhx o e=>by
  obtain⟨o1,e1,_⟩:=iZ a o e Ui hx
  rw[fl.2.1] at e1
  cases e1
 have ne:∀b u,H' b=some u->b≠a:=λb u e=>bE e ha
 have sl:∀b o,sc.heap.get? b=some o->Hc b=none->b∈frs X.stack->∃sl,h2.get? b=some { o with slots:=sl }:=λb o e n hb=>by
  obtain⟨s1,e1⟩:=un.slot b o e n hb (Ha b hb)
  obtain⟨_,o1,e2,d1⟩:=I.stack.mem hb
  rw[e] at e2
  cases e2
  obtain⟨s2,e3⟩:=up b _ e1 d1
  exact⟨s2,e3⟩
 refine⟨⟨oe,⟨vs,hda,Ug⟩,?_⟩,ha,λhex=>?_⟩
 rotate_left
 ·refine⟨?_,λxs q=>?_,λo u q=>?_,λps q=>?_⟩
  rotate_left
  ·have z:=un.tups _ _ (I.base.tups _ _ q)
   rw[ha] at z;cases z
  ·have z:=un.fT _ _ _ (I.base.fT _ _ _ q)
   rw[ha] at z;cases z
  ·obtain⟨_,z⟩:=I.base.hJ _ _ q
   obtain⟨_,z⟩:=un.hJ _ _ z
   rw[ha] at z;cases z
  cases q:X.s₀.heap.get? a with
  | none=>rfl
  | some o0=>
   obtain⟨o1,q1⟩:=I.base.there a o0 q (by rw[hex];simp)
   refine absurd q1 (new (λz=>?_) o1)
   rcases(hch a z).2.2.2.1 with y | y
   ·rw[hex] at y;cases y
   ·exact absurd (Nat.lt_of_lt_of_le (Heap.lt_size q) y) (Nat.lt_irrefl _)
 refine I.FZ (s':={ s' with heap:=h2,toks:=tk }) (ch:=ch) os ?_ ?_ bare (λb z=>⟨(hch b z).2.2.2.1,(hch b z).2.1,(hch b z).2.2.2.2.1,(hch b z).2.2.2.2.2⟩)
 ·refine⟨λb o e n hb hx=>?_,λb o e n hb _=>sl b o e n hb,λb o e n hx=>?_,λb o e hx=>?_,λb xs h=>?_,λb o u h=>?_,λb ps h=>?_⟩
  ·obtain⟨o1,e1,e2⟩:=iZ b o e hb hx
   rw[e2 n] at e1
   exact stay b o e1
  ·have ba:b≠a:=λz=>by subst z;exact new hx o e
   rw[au ba]
   exact un.free b o e n hx
  ·by_cases hb:b∈frs X.stack
   ·obtain⟨s2,e2⟩:=sl b o e (I.jw b hb) hb
    exact⟨_,e2⟩
   ·obtain⟨o1,e1,_⟩:=iZ b o e hb hx
    exact⟨o1,stay b o1 e1⟩
  ·have q:=un.tups b xs h
   rw[au (ne b _ q)]
   exact q
  ·have q:=un.fT b o u h
   rw[au (ne b _ q)]
   exact q
  ·obtain⟨m1,q⟩:=un.hJ b ps h
   refine⟨m1,?_⟩
   rw[au (ne b _ q)]
   exact q
 ·intro b u e
  by_cases hb:b=a
  ·subst hb
   rw[aC] at e
   cases e
   exact⟨NY,Uh,⟨oe,NY⟩,λh3 h4 p k=>let ⟨o1,q1,q2,q3⟩:=p;⟨o1,k o1 q1,q2,q3⟩⟩
  ·rw[au hb] at e
   exact(hok b u e).stay (λc v _ q=>stay c v q) (λc q=>by rw[au (ne c _ q)];exact q) λc xs q=>by rw[au (ne c _ q)];exact q
end
theorem yv{M:Model}{A:WO}{E:WU->WT->Prop}{s:WT}{K:PySem.W.Frag}{a C D:WN}{o:Obj}{b:Bool}{Q:Bool->WT->Prop}(Y:K.In s.heap)(ZC:PySem.W.excIn K C yp yq=true)(ZD:PySem.W.excIn K D yp yq=true)
  (hm:PySem.W.mroIn K C (.ref D)=some b)(ha:s.heap.get? a=some o)(hc:o.cls= .ref C)(k:Q b s):W8 M A (excMatches (.ref a) (.ref D)) Q E s:=by
 obtain⟨h,g,d,t,os⟩:=s
 obtain⟨bm,N,nm,qn,bs,La,sn,sub,ab,col,dd,k0,k1,k2,k3,k5,mN,hC,hN,hni,T,mr⟩:=gB Y ZC
 obtain⟨bm',N',Wa,Wb,bs',Uj,sn',sub',Wc,col',K9,Wd,We,Sa,Wf,Wg,Wh,hD,Wi,Uk,T',Wj⟩:=gB Y ZD
 have e1:(Value.ref C::bm).contains (.ref D)=b:=mr _ _ hm
 have e2:(Value.ref D::bm').contains (.type "BaseException")=true:=by rw[List.contains_cons,T'.hasType (X:="BaseException") (b:=true) (by decide)];rfl
 have f:=tc_notTuple
 unfold excMatches
 repeat (first | (with_reducible refine wpAny_loadPart_at ha ?_;rw[hc]) | with_reducible refine wpAny_loadPart_at hD ?_ | (with_reducible refine wpAny_isSubtype_exc hD ?_;rw[e2]) | (with_reducible refine wpAny_isSubtype_exc hC ?_;rw[e1]) | wp_step)
 cases b<;>(wp_walk;exact k)
end J
namespace J
open PySem PySem.Spec PyProof.Rows L2
theorem sD{K:PySem.W.Frag}{a C:WN}(Z:j' K C):PySem.W.KitX K (.ref a) (.ref C) (h_ a C) where
 ty:=λM h _ p=>by
  obtain⟨o,h1,h2,_⟩:=p
  rw[<-h2]
  exact(PySem.W.Looks.ld h1).andThen .now
 it:=λM h Y _=>by
  obtain⟨bm,N,nm,qn,bs,La,sn,sub,ab,col,dd,k0,k1,k2,k3,k5,mN,hC,_⟩:=gB Y Z.exc
  intro A' Q' E' s' k q
  unfold isType loadHead
  exact W9 (wpAny_loadPart (k _ _ hC) (Xe q))
 ne:=λh tp dd its n sl Y e=>by
  obtain⟨bm,N,nm,qn,bs,La,sn,sub,ab,col,K9,k0,k1,k2,k3,k5,mN,hC,_⟩:=gB Y Z.exc
  refine Bool.eq_false_iff.mpr λq=>?_
  have z:C=tp:=Value.ref.inj (beq_iff_eq.mp q)
  subst z
  rw[hC] at e
  have z2:Value.type "type"=Value.type "tuple":=congrArg Obj.cls (Option.some.inj e)
  exact absurd z2 (by decide)
 ca:=λ{prog w A E Q s} Y p k=>by
  obtain⟨o,h1,h2,_⟩:=p
  obtain⟨h,g,d,t,os⟩:=s
  exact Ej Y Z h1 h2 k
abbrev Tab:=List ((PySem.Str×PySem.Str)×Bool)
abbrev oJ:=List ((PySem.Str×String)×Bool)
structure TabOk(K:PySem.W.Frag)(tb:Tab)(tt:oJ)(tc:Tab):Prop where
 own:∀c d b C D,tb.lookup (c,d)=some b->ClsAt K c C->ClsAt K d D->j' K C/\PySem.W.kitOne K (.ref C) (.ref D)=some b
 cat:∀c d b C D,tc.lookup (c,d)=some b->ClsAt K c C->ClsAt K d D->PySem.W.excIn K C yp yq=true/\PySem.W.excIn K D yp yq=true/\PySem.W.mroIn K C (.ref D)=some b
 typ:∀c T b C,tt.lookup (c,T)=some b->ClsAt K c C->j' K C/\PySem.W.kitOne K (.ref C) (.type T)=some b
def kc(tb:Tab)(c:PySem.Str):List Wv->Option Bool
 | []=>some false
 | .cls d::r=>(match tb.lookup (c,d) with
  | some true=>some true
  | some false=>kc tb c r
  | none=>none)
 | _=>none
theorem pJ{K:PySem.W.Frag}{m:Mp}{H:Hp}{tb:Tab}{tt:oJ}{tc:Tab}(O:TabOk K tb tt tc){c:PySem.Str}{C:WN}(hC:ClsAt K c C):∀{ds:List Wv}{vs:List V}{its:List WU}{b:Bool},ah K m H ds vs->Vals vs its->kc tb c ds=some b->PySem.W.kitAny K (.ref C) its=some b
 | [],vs,its,b,r,v,e=>by
  unfold ah at r
  subst r
  cases v
  cases e
  rfl
 | w::ds,vs,its,b,r,v,e=>by
  unfold ah at r
  obtain⟨x,t,rfl,r1,r2⟩:=r
  cases v with
  | cons h1 h2=>
   cases w with
   | cls d=>
    unfold af at r1
    obtain⟨D,rfl,hD⟩:=r1
    cases h1
    unfold kc at e
    unfold PySem.W.kitAny
    cases q:tb.lookup (c,d) with
    | none=>rw[q] at e;cases e
    | some k=>
     rw[q] at e
     obtain⟨_,z3⟩:=O.own c d k C D q hC hD
     rw[z3]
     cases k with
     | true=>cases e;rfl
     | false=>exact pJ O hC r2 h2 e
   | _=>cases e
def a_(tb:Tab)(tt:oJ):List Wv->Hs->Re Wv
 | [.fk c,.cls d],st=>(match tb.lookup (c,d) with | some b=> .ok (.bl b) st | none=> .bad)
 | [.fk c,.ty T],st=>(match tt.lookup (c,T) with | some b=> .ok (.bl b) st | none=> .bad)
 | [.fk c,.tup (.cls d::ds)],st=>(match kc tb c (.cls d::ds) with | some b=> .ok (.bl b) st | none=> .bad)
 | ws,st=>Mu ws st
section
variable {X:Cx}
theorem A3:b_ X (.builtin "isinstance") (λvs H Q=>∃a C v c b,vs=[.ref a,v]/\NT a C (H a)/\j' X.K C/\RelV v c/\PySem.W.kitOne X.K (.ref C) c=some b/\Q (.bl b) H):=by
 intro pins s σ H xs us Q I r h
 obtain⟨a,C,v,c,b,rfl,ha,Z,rc,e,q⟩:=h
 obtain⟨u,u',rfl,r1,r2⟩:=vals2 r
 cases r1
 have uc:u'=c:=by
  cases v with
  | int i=>obtain⟨t,rfl⟩:=rc;cases e
  | str i=>obtain⟨t,rfl⟩:=rc;cases e
  | K5 i=>obtain⟨t,rfl⟩:=rc;cases e
  | rO i=>obtain⟨t,rfl⟩:=rc;cases e
  | aE=>cases rc;cases r2;rfl
  | bl i=>cases rc;cases r2;rfl
  | ref i=>cases rc;cases r2;rfl
  | ty i=>cases rc;cases r2;rfl
 subst uc
 exact PySem.W.kia_one (sD Z) I.wa (F6 I.hok ha) e (by intro z;cases z) λtk=>⟨.bl b,H,I.tok tk,rfl,q⟩
theorem yw:b_ X (.builtin "isinstance") (λvs H Q=>∃a C p xs b,vs=[.ref a,.ref p]/\NT a C (H a)/\j' X.K C/\dS X.K H p xs/\(∀its,Vals xs its->PySem.W.kitAny X.K (.ref C) its=some b)/\Q (.bl b) H):=by
 intro pins s σ H xs us Q I r h
 obtain⟨a,C,p,ys,b,rfl,ha,Z,hT,e,q⟩:=h
 obtain⟨u,u',rfl,r1,r2⟩:=vals2 r
 cases r1
 cases r2
 obtain⟨its,rv,⟨o,g1,g2,n,g3⟩,z⟩:=I.tuple hT
 obtain⟨oc,od,Wl,osl⟩:=o
 cases g2
 cases g3
 exact PySem.W.kia_tup (sD Z) I.wa (F6 I.hok ha) g1 (e its rv) (by intro z;cases z) λtk=>⟨.bl b,H,I.tok tk,rfl,q⟩
theorem A4{tb:Tab}{tt:oJ}{tc:Tab}(O:TabOk X.K tb tt tc):bC X (.builtin "isinstance") (a_ tb tt):=by
 obtain⟨r,h1,h2⟩:=II (X:=X)
 refine⟨_,A3.or (yw.or h1),λws vs st H m Q S rs p=>?_⟩
 unfold a_ at p
 split at p
 ·rename_i _ c d
  cases e:tb.lookup (c,d) with
  | none=>rw[e] at p;exact False.elim p
  | some b=>
   rw[e] at p
   obtain⟨v,v',rfl,r1,r2⟩:=uU rs
   unfold af at r1 r2
   obtain⟨a,C,rfl,hC,ha⟩:=r1
   obtain⟨D,rfl,hD⟩:=r2
   obtain⟨z1,z3⟩:=O.own c d b C D e hC hD
   exact .inl ⟨a,C,.ref D,.ref D,b,rfl,ha,z1,rfl,z3,p _ m H Ext.refl S fG⟩
 ·rename_i _ c T
  cases e:tt.lookup (c,T) with
  | none=>rw[e] at p;exact False.elim p
  | some b=>
   rw[e] at p
   obtain⟨v,v',rfl,r1,r2⟩:=uU rs
   unfold af at r1 r2
   obtain⟨a,C,rfl,hC,ha⟩:=r1
   subst r2
   obtain⟨z1,z3⟩:=O.typ c T b C e hC
   exact .inl ⟨a,C,.ty T,.type T,b,rfl,ha,z1,rfl,z3,p _ m H Ext.refl S fG⟩
 ·rename_i _ c d ds
  cases e:kc tb c (.cls d::ds) with
  | none=>rw[e] at p;exact False.elim p
  | some b=>
   rw[e] at p
   obtain⟨v,v',rfl,r1,r2⟩:=uU rs
   unfold af at r1
   obtain⟨a,C,rfl,hC,ha⟩:=r1
   have r2':=r2
   unfold af at r2'
   obtain⟨t,xs,rfl,hT,rx⟩:=r2'
   have Z:j' X.K C:=by
    have j9:=rx
    unfold ah at j9
    obtain⟨x,r,_,rd,_⟩:=j9
    unfold af at rd
    obtain⟨D,_,hD⟩:=rd
    unfold kc at e
    cases q:tb.lookup (c,d) with
    | none=>rw[q] at e;cases e
    | some k=>exact(O.own c d k C D q hC hD).1
   exact .inr (.inl ⟨a,C,t,xs,b,rfl,ha,Z,dS.of hT,λits hv=>pJ O hC rx hv e,p _ m H Ext.refl S fG⟩)
 ·exact .inr (.inr (h2 ws vs st H m Q S rs p))
end
section
variable {X:Cx} {pins:List (WN×Obj)} {σ:St} {H:Hp} {s:WT}
abbrev Ek(X:Cx)(A':WO)(cm:Bool)(pn:List (WN×Obj))(E:WU->WT->Prop):Cx:={ X with A:=A',calm:=cm,pn:=pn,xe:=E }
theorem MB{A':WO}{cm:Bool}{pn:List (WN×Obj)}{E:WU->WT->Prop}(ok:X.Ok)(hf:A'.frames=X.A.frames)(hd:cm=true->A'.handled=none):(Ek X A' cm pn E).Ok :=
 ⟨ok.mod,ok.kind,ok.glob,ok.blt,ok.above,ok.inj,ok.has,ok.K7,hd,hf.trans ok.frames,ok.stk,ok.OM,ok.bs,ok.De,ok.xM,ok.zE,ok.jb,ok.Dj⟩
theorem A5{A':WO}{cm:Bool}{E:WU->WT->Prop}(I:Inv X pins σ H s)(hf:A'.frames=X.A.frames)(hd:cm=true->A'.handled=none):Inv (Ek X A' cm (X.pn++pins) E) [] σ H s :=
 ⟨MB I.ok hf hd,I.os,I.bare,I.base,I.loc,I.cell,I.free,I.dR,λp hp=>I.pin p (by simpa using hp),I.hok,I.len⟩
theorem mX{A':WO}{cm:Bool}{E:WU->WT->Prop}{hU:List (WN×Obj)}(ok:X.Ok)(I:Inv (Ek X A' cm (X.pn++pins) E) hU σ H s):Inv X pins σ H s :=
 ⟨ok,I.os,I.bare,I.base,I.loc,I.cell,I.free,I.dR,λp hp=>I.pin p (List.mem_append_left _ hp),I.hok,I.len⟩
abbrev MC(X:Cx)(a:WN)(u:HO)(pn:List (WN×Obj))(E:WU->WT->Prop):Cx:={ X with A:=X.A.mark (some (.ref a)),calm:=false,pn:=pn,xe:=E,H₀:=upd X.H₀ a u }
theorem IP{a:WN}{o:Obj}{u:HO}{E:WU->WT->Prop}(I:Inv X pins σ H s)(e:H a=some (.bR o u))(n:X.s₀.heap.get? a=none):Inv (MC X a (.bR o u) (X.pn++pins) E) [] σ H s:=by
 have k:=I.ok
 have ne:∀b o,X.s₀.heap.get? b=some o->b≠a:=λb o q z=>by rw[z,n] at q;cases q
 have nf:∀b∈X.fs,b≠a:=λb hb=>let ⟨_,o,q,_⟩:=k.jb.mem hb;ne b o q
 have up:∀b,b≠a->upd X.H₀ a (.bR o u) b=X.H₀ b:=λb h=>au h
 have dn:∀{b:WN}{w:Option HO},upd X.H₀ a (.bR o u) b=w->w≠some (.bR o u)->X.H₀ b=w:=λ{b w} q h=>by
  by_cases z:b=a
  ·rw[z,aC] at q;exact absurd q.symm h
  ·rw[up b z] at q;exact q
 have nn:∀{b:WN},upd X.H₀ a (.bR o u) b=none->X.H₀ b=none:=λq=>dn q (by intro z;cases z)
 refine⟨⟨k.mod,k.kind,k.glob,k.blt,k.above,k.inj,k.has,k.K7,(λz=>by cases z),k.frames,k.stk,k.OM,λb ob q=>⟨(k.bs b ob q).1,(up b (ne b ob (k.bs b ob q).1)).trans (k.bs b ob q).2⟩,k.De,k.xM,k.zE,k.jb,λb hb=>(up b (nf b hb)).trans (k.Dj b hb)⟩,I.os,I.bare,?_,I.loc,I.cell,I.free,I.dR,λp hp=>I.pin p (by simpa using hp),I.hok,I.len⟩
 have g:=I.base
 exact⟨λb ob q h=>g.keep b ob q (nn h),λb ob q h=>g.slot b ob q (nn h),λb ob q h=>g.free b ob q (nn h),g.there,λb xs q=>g.tups b xs (dn q (by intro z;cases z)),λb ob v q=>by
  by_cases z:b=a
  ·subst z
   have q':upd X.H₀ b (.bR o u) b=some (.bR ob v):=q
   rw[aC] at q'
   cases q'
   exact e
  ·exact g.fT b ob v ((up b z).symm.trans q),λb ps q=>g.hJ b ps (dn q (by intro z;cases z))⟩
theorem A6{a:WN}{o:Obj}{u:HO}{E:WU->WT->Prop}{hU:List (WN×Obj)}(ok:X.Ok)(n:IM X a)(I:Inv (MC X a (.bR o u) (X.pn++pins) E) hU σ H s):Inv X pins σ H s:=by
 have ne:∀b o,X.s₀.heap.get? b=some o->b≠a:=λb o q z=>by rw[z,n.1] at q;cases q
 have up:∀b,b≠a->(MC X a (.bR o u) (X.pn++pins) E).H₀ b=X.H₀ b:=λb h=>au h
 have g:=I.base
 exact⟨ok,I.os,I.bare,⟨λb ob q h=>g.keep b ob q ((up b (ne b ob q)).trans h),λb ob q h=>g.slot b ob q ((up b (ne b ob q)).trans h),λb ob q h=>g.free b ob q ((up b (ne b ob q)).trans h),g.there,λb xs q=>g.tups b xs ((up b λz=>n.2.1 xs (z ▸ q)).trans q),λb ob v q=>g.fT b ob v ((up b λz=>n.2.2.1 ob v (z ▸ q)).trans q),λb ps q=>g.hJ b ps ((up b λz=>n.2.2.2 ps (z ▸ q)).trans q)⟩,I.loc,I.cell,I.free,I.dR,λp hp=>I.pin p (List.mem_append_left _ hp),I.hok,I.len⟩
def u5(X:Cx):Prop:=X.A.handled=none\/∃a o u,X.A.handled=some (.ref a)/\yu o/\X.H₀ a=some (.bR o u)
def yx(A:WO)(H:Hp):Prop:=A.handled=none\/∃a o u,A.handled=some (.ref a)/\yu o/\H a=some (.bR o u)
theorem u5.at(h:u5 X)(I:Inv X pins σ H s):yx X.A H:=h.imp id λ⟨a,o,u,h1,h2,h3⟩=>⟨a,o,u,h1,h2,I.base.fT _ _ _ h3⟩
theorem MD{A':WO}{cm:Bool}{E:WU->WT->Prop}{D:Ends}{f:Flow}(ok:X.Ok)(h:SP (Ek X A' cm (X.pn++pins) E) [] D f s):SP X pins D f s:=by
 cases f with
 | next=>obtain⟨σ',H',I,q⟩:=h;exact⟨σ',H',mX ok I,q⟩
 | brk=>obtain⟨σ',H',I,q⟩:=h;exact⟨σ',H',mX ok I,q⟩
 | cont=>obtain⟨σ',H',I,q⟩:=h;exact⟨σ',H',mX ok I,q⟩
 | ret u=>obtain⟨v,σ',H',I,r,q⟩:=h;exact⟨v,σ',H',mX ok I,r,q⟩
end
theorem pK{X:Cx}{pins:List (WN×Obj)}{σ:St}{H:Hp}{s:WT}{M:Model}{A:WO}{E:WU->WT->Prop}{i:Nat}{n:Str}{pos:Pos}{Q:Unit->WT->Prop}(I:Inv X pins σ H s)(hN:X.N.Nodup)(hi:X.N[i]? =some n)(hx:X.env.scope.names.lookup n=some .local)
  (k:∀s',Inv X pins (σ.set i none) H s'->Q () s'):W8 M A (do bindName X.env n .none;unbindBehindTheSuite X.env n pos) Q E s:=by
 obtain⟨m,ns,lk⟩:=id I.loc
 have pl:(X.env.scope.kind == .class||(X.env.scope.kind == .module&&X.env.locals != X.env.globals))=false:=by rw[I.ok.kind];rfl
 have up:∀b o,X.s₀.heap.get? b=some o->b≠X.env.locals:=λb o e=>old_ne I e
 refine wpAny_nameGoes_keeps hx ns pl λh2 v Ul sb=>k _ ?_
 obtain⟨oL,_,_,RQ,_⟩:=id ns
 refine⟨I.ok,I.os,I.bare,⟨λb o e f hb hx=>(sb.2 b (up b o e)).trans (I.base.keep b o e f hb hx),λb o e f hb hx=>?_,I.base.free,λb o e hx=>?_,I.base.tups,I.base.fT,I.base.hJ⟩,⟨_,Ul,λj y w e1 e2 e3=>?_⟩,λy c e=>?_,I.free,I.dR,λp hp=>?_,λb u e=>?_,by simpa using I.len⟩
 ·obtain⟨sl,e1⟩:=I.base.slot b o e f hb hx
  exact⟨sl,(sb.2 b (up b o e)).trans e1⟩
 ·obtain⟨o1,e1⟩:=I.base.there b o e hx
  exact⟨o1,(sb.2 b (up b o e)).trans e1⟩
 ·have ji:j≠i:=λz=>by
   subst z
   have:j < σ.length:=by have q:=(List.getElem?_eq_some_iff.mp e2).1;simpa using q
   rw[List.getElem?_set_self this] at e2
   cases e2
  rw[List.getElem?_set_ne (Ne.symm ji)] at e2
  obtain⟨u,r,q⟩:=lk j y w e1 e2 e3
  refine⟨u,r,?_⟩
  rcases q with ⟨q1,q2⟩ | ⟨q1,c,q2,z⟩
  ·have yn:y≠n:=λz=>ji (mv hN e1 (z ▸ hi))
   exact .inl ⟨q1,by simp[yn,q2]⟩
  ·exact .inr ⟨q1,c,q2,z.sameBut sb (I.Dk y c q2)⟩
 ·obtain⟨w,z⟩:=I.cell y c e
  exact⟨w,z.sameBut sb (I.Dk y c e)⟩
 ·obtain⟨e,f,ne,nf,d⟩:=I.pin p hp
  exact⟨(sb.2 p.1 ne).trans e,f,ne,nf,d⟩
 ·refine(I.hok b u e).stay (λc w hc q=>(sb.2 c λz=>?_).trans q) (λ_ q=>q) λ_ _ q=>q
  have fr:=I.free
  rcases hc with hc | hc
  ·rw[<-z,hc,e] at fr;cases fr
  ·rw[<-z,hc] at fr;cases fr
end J
namespace J
open PySem PySem.Spec PyProof.Rows L2
def yy(cat:PySem.Str->Option Bool)(i:Nat)(gb gs:GS):GS:=λρ st=>match gb ρ st with
 | .err c ρ' st'=>(match cat c with
  | some true=>(match gs (ρ'.set i (some (.fk c))) st' with
   | .nx ρ2 st2=> .nx (ρ2.set i none) st2
   | .rt w st2=> .rt w st2
   | _=> .bad)
  | _=> .bad)
 | r=>r
theorem aq.unset{K:PySem.W.Frag}{m:Mp}{H:Hp}{ρ:aT}{σ:St}(R:aq K m H ρ σ)(i:Nat):aq K m H (ρ.set i none) (σ.set i none):=by
 refine⟨by simp[R.len],λj w e=>?_⟩
 have ji:i≠j:=λz=>by
  subst z
  have:i < ρ.length:=by have q:=(List.getElem?_eq_some_iff.mp e).1;simpa using q
  rw[List.getElem?_set_self this] at e
  cases e
 rw[List.getElem?_set_ne ji] at e ⊢
 exact R.get j w e
section
variable {X:Cx}
theorem yz{M:Model}{A:WO}{E:WU->WT->Prop}{s:WT}{base h:Heap}{env:Env}{outer:List Env}{L a:WN}{cls:WU}{args:List WU}{Q:Unit->WT->Prop}(hfr:A.frames=some (env::outer))(hf:env.frame=some L)
  (st:base.StaysIn h)(fs:h.FunFrames base (env::outer))(mk:Heap.MadeExcOf h s.heap a cls args)(k:∀h' a0,qv base (env::outer) a cls a0 h'->s.heap.UpToSlots h'->Q () { s with heap:=h' }) :
  W8 M A (noteFrame (.ref a) env) (λ_ s2=>W8 M A (setFlight (.ref a) none) Q E s2) E s:=by
 exact pF hfr hf st fs mk λh1 t hd1 up1=>r9 hd1 λh2 uz Mx=>k h2 t uz (up1.trans Mx)
theorem ic.er{A:WO}{b:Bool}{E:WU->WT->Prop}{pins hU:List (WN×Obj)}{H H':Hp}{s s':WT}{cls e:WU}(f:ic (Ek X A b (X.pn++pins) E) hU H s H' cls e s'):ic X pins H s H' cls e s' :=
 let ⟨a,a0,nt,B,ch,e1,e2,e3,hch,r⟩:=f
 ⟨a,a0,nt,B,ch,e1,e2,e3,λb hb=>let ⟨h1,h2,h3,h4,h5,h6⟩:=hch b hb;⟨h1,h2,h3,h4,h5,λp hp=>h6 p (List.mem_append_left _ hp)⟩,r⟩
theorem land{pins:List (WN×Obj)}{σ:St}{Hc H':Hp}{sc s':WT}{C:WN}{e:WU}{E:WU->WT->Prop}{Q:Unit->WT->Prop}(K0:Px X)(I:Inv X pins σ Hc sc)
  (r:ic X pins Hc sc H' (.ref C) e s'\/(H'=Hc/\∃a args,e= .ref a/\s'.os=sc.os/\s'.gens=sc.gens/\Heap.MadeExcOf sc.heap s'.heap a (.ref C) args))
  (k:∀(a:WN)(a0:WU)(B h5:Heap),e= .ref a->qv B X.stack a (.ref C) a0 h5->(∀h6 tk,qv B X.stack a (.ref C) a0 h6->h5.UpToSlots h6->∃o,yu o/\Inv X pins σ (upd H' a (.bR o (.ext (h_ a C)))) { s' with heap:=h6,toks:=tk })->H' a=none->IM X a->Q () { s' with heap:=h5 }) :
  W8 (model X.prog X.w) X.A (noteFrame e X.env) (λ_ s2=>W8 (model X.prog X.w) X.A (setFlight e none) Q E s2) E s':=by
 have hfr:X.A.frames=some (X.env::X.outer):=by rw[I.ok.frames,K0.st]
 rcases r with ⟨a,a0,nt,B,ch,rfl,os,bare,hch,un,hok,fl,iZ⟩ | ⟨rfl,a,args,rfl,ho,hg,M⟩
 ·rw[K0.st] at fl
  refine sr hfr K0.fr fl λh4 Um Py=>?_
  refine r9 Um λh5 zy IQ=>?_
  rw[<-K0.st] at zy
  exact k a a0 B h5 rfl zy (λh6 tk ME MF=>(iL I os bare hch un hok ME ((Py.trans IQ).trans MF) iZ).1) (iL (tk:=0) I os bare hch un hok zy (Py.trans IQ) iZ).2.1 ((iL (tk:=0) I os bare hch un hok zy (Py.trans IQ) iZ).2.2 K0.ex)
 ·have fs:sc.heap.FunFrames (PySem.W.hideAll sc.heap (frs X.stack)) (X.env::X.outer):=by
   rw[<-K0.st]
   exact PySem.W.funFrames_hide I.stack λenv he b hb=>List.mem_filterMap.mpr ⟨env,he,hb⟩
  refine yz (base:=PySem.W.hideAll sc.heap (frs X.stack)) hfr K0.fr (λb o q=>PySem.W.of_hideAll _ q) fs M λh5 a0 zy IQ=>?_
  rw[<-K0.st] at zy
  have bare:AllBare s'.gens:=by rw[hg];exact I.bare
  have hok:gX X.prog X.w H' (PySem.W.hideAll sc.heap (frs X.stack)):=sv I.hok I.jw
  have iZ:∀b o,sc.heap.get? b=some o->b∉frs X.stack->b∉([]:List WN)->∃o',(PySem.W.hideAll sc.heap (frs X.stack)).get? b=some o'/\(H' b=none->o'=o):=λb o q hb _=>⟨o,PySem.W.hideAll_get _ q hb,λ_=>rfl⟩
  have nil:∀b∈([]:List WN),dX X pins H' b:=λb z=>by cases z
  exact k a a0 _ h5 rfl zy (λh6 tk ME MF=>(iL I ho bare nil (Un.kept M.keeps) hok ME (IQ.trans MF) iZ).1) (iL (tk:=0) I ho bare nil (Un.kept M.keeps) hok zy IQ iZ).2.1 ((iL (tk:=0) I ho bare nil (Un.kept M.keeps) hok zy IQ iZ).2.2 K0.ex)
theorem IS{x n:Str}{D:WN}{i:Nat}{body suite:List Stmt}{b₀:Stmt}{gb gs:GS}{np hp pos:Pos}{tb:Tab}{tt:oJ}{tc:Tab}(K0:Px X)(hN:X.N.Nodup)(hi:X.N[i]? =some n)(hx:X.env.scope.names.lookup n=some .local)(hc:X.calm=true)(O:TabOk X.K tb tt tc)
  (hg:Gl X x)(hm:X.mg x=some (.ref D))(hD:ClsAt X.K x D)(hd:(x == ("__debug__":Str))=false)
  (hb:∀(pn:List (WN×Obj))(E:WU->WT->Prop),i7 (Ek X X.A true pn E) body gb)(hs:∀(a:WN)(o:Obj)(u:HO)(pn:List (WN×Obj))(E:WU->WT->Prop),yu o->i7 (MC X a (.bR o u) pn E) (b₀::suite) gs) :
  JS X (.Try body [.ExceptHandler (some (.Name x np)) (some n) (b₀::suite) hp] [] [] pos) (yy (λc=>tc.lookup (c,x)) i gb gs):=by
 intro ρ st σ H m D' S R p pins s I
 refine wpAny_Try_except ?_
 let hx':WU->WT->Prop:=λe s1=>W8 (model X.prog X.w) X.A (noteFrame e X.env) (λ_ s2=>W8 (model X.prog X.w) X.A (setFlight e none) (λ_ s3=>
  W8 (model X.prog X.w) X.A (handleBy e X.env [.ExceptHandler (some (.Name x np)) (some n) (b₀::suite) hp]) (SP X pins D') X.xe s3) X.xe s2) X.xe s1
 have hA:X.A.handled=none:=I.ok.hd hc
 have Ib:Inv (Ek X X.A true (X.pn++pins) hx') [] σ H s:=A5 I rfl λ_=>hA
 have post:av (Ek X X.A true (X.pn++pins) hx') m H (gb ρ st) D':=by
  unfold yy at p
  cases eb:gb ρ st with
  | nx ρ1 st1=>rw[eb] at p;exact p
  | rt w1 st1=>rw[eb] at p;exact p
  | bk ρ1 st1=>rw[eb] at p;exact p
  | ct ρ1 st1=>rw[eb] at p;exact p
  | bad=>rw[eb] at p;exact p
  | err c ρ1 st1=>
   rw[eb] at p
   dsimp only at p
   cases ec:tc.lookup (c,x) with
   | none=>rw[ec] at p;exact False.elim p
   | some bc=>
    cases bc with
    | false=>rw[ec] at p;exact False.elim p
    | true=>
     rw[ec] at p
     dsimp only at p
     intro σ1 m1 H1 e s1 e1 S1 R1 rz
     obtain⟨C,hU,Hc,sc,hC,Ic,rz⟩:=rz
     obtain⟨zC,zD,Pz⟩:=O.cat c x true C D ec hC hD
     refine land K0 (mX I.ok Ic) (rz.imp ic.er id) λa a0 B h5 ea zy inv hn hnew=>?_
     subst ea
     obtain⟨ox,_,I5⟩:=inv h5 s1.toks zy (Heap.UpToSlots.refl _)
     obtain⟨o5,Uo,hc5,_⟩:=(I5.hok a _ aC).2.1
     have Im:=A5 (A':=X.A.mark (some (.ref a))) (cm:=false) (E:=λ_ _=>False) I5 rfl (λz=>by cases z)
     refine wpAny_handleBy_cons (codeAny_handlers_test (jy Im hg hm ?_ hd)) (by intro q;cases q)
     refine yv (b:=true) Im.wa zC zD Pz Uo hc5 ?_
     refine codeAny_handlers_suite_as ?_
     refine r9 zy λh6 ME MF=>?_
     obtain⟨oy,nx,I6⟩:=inv h6 s1.toks ME MF
     have e6:Ext X.K m1 H1 m1 (upd H1 a (.bR oy (.ext (h_ a C)))):=Ext.upd (.inl hn)
     have S6:aK X.K m1 st1 (upd H1 a (.bR oy (.ext (h_ a C)))):=S1.fresh hn
     have rv:af X.K m1 (upd H1 a (.bR oy (.ext (h_ a C)))) (.fk c) (.ref a):=by unfold af;obtain⟨vs,d1,d2⟩:=nx;exact⟨a,C,rfl,hC,oy,vs,aC,d1,d2⟩
     refine jx (v:=.ref a) I6 hN hi (.inl hx) rfl (λs7 I7=>?_) (.inr hx)
     have NZ:=IP (E:=λ_ _=>False) I7 aC hnew.1
     cases es:gs (ρ1.set i (some (.fk c))) st1 with
     | nx ρ2 st2=>
      rw[es] at p
      let D2:Ends:={ nx:=λσ' H'=>D'.nx (σ'.set i none) H',rt:=λ_ _=>False,bk:=λ_ _=>False,ct:=λ_ _=>False }
      have go:=hs a oy (.ext (h_ a C)) (X.pn++pins) (λ_ _=>False) nx (ρ1.set i (some (.fk c))) st1 (σ1.set i (some (.ref a))) _ m1 D2 S6 ((R1.mono e6).set i rv) (by
       rw[es]
       exact λσ' m' H' e' S' R'=>p (σ'.set i none) m' H' (e1.trans (e6.trans e')) S' (aq.unset R' i)) [] s7 NZ
      refine Xa go (λf s8 h8=>?_) λ_ _ z=>z.elim
      cases f with
      | next=>
       obtain⟨σ8,H8,I8,q8⟩:=h8
       exact pK (A6 I.ok hnew I8) hN hi hx λs9 I9=>⟨_,H8,I9,q8⟩
      | brk=>obtain⟨_,_,_,q8⟩:=h8;exact q8.elim
      | cont=>obtain⟨_,_,_,q8⟩:=h8;exact q8.elim
      | ret u=>obtain⟨_,_,_,_,_,q8⟩:=h8;exact q8.elim
     | rt w2 st2=>
      rw[es] at p
      let D2:Ends:={ nx:=λ_ _=>False,rt:=D'.rt,bk:=λ_ _=>False,ct:=λ_ _=>False }
      have go:=hs a oy (.ext (h_ a C)) (X.pn++pins) (λ_ _=>False) nx (ρ1.set i (some (.fk c))) st1 (σ1.set i (some (.ref a))) _ m1 D2 S6 ((R1.mono e6).set i rv) (by
       rw[es]
       exact λv' m' H' e' S' R'=>p v' m' H' (e1.trans (e6.trans e')) S' R') [] s7 NZ
      refine Xa go (λf s8 h8=>?_) λ_ _ z=>z.elim
      cases f with
      | next=>obtain⟨_,_,_,q8⟩:=h8;exact q8.elim
      | brk=>obtain⟨_,_,_,q8⟩:=h8;exact q8.elim
      | cont=>obtain⟨_,_,_,q8⟩:=h8;exact q8.elim
      | ret u=>
       obtain⟨v8,σ8,H8,I8,r8,q8⟩:=h8
       exact pK (A6 I.ok hnew I8) hN hi hx λs9 I9=>⟨v8,_,H8,I9,r8,q8⟩
     | bk ρ2 st2=>rw[es] at p;exact False.elim p
     | ct ρ2 st2=>rw[es] at p;exact False.elim p
     | err c2 ρ2 st2=>rw[es] at p;exact False.elim p
     | bad=>rw[es] at p;exact False.elim p
 refine Xa (hb (X.pn++pins) hx' ρ st σ H m D' S R post [] s Ib) (λf s1 h1=>?_) λe s1 h1=>h1
 have h2:=MD I.ok h1
 cases f with
 | next=>exact wpAny_execs_nil h2
 | brk=>exact h2
 | cont=>exact h2
 | ret u=>exact h2
end
end J
namespace J
open PySem PySem.Spec PyProof.Rows L2
section
variable {X:Cx}
def MG:List Wv->Hs->Re Wv
 | [.int i],st=>if i.natAbs.log2 < 1920 then .ok (.str (toString i:String)) st else .bad
 | _,_=> .bad
def lG(o v:Wv)(st:Hs):Re Wv:=match o with
 | .ref l=>(match st[l]? with
  | some (.lst ws)=>if ws.length < lim then .ok .aE (st.set l (.lst (ws++[v]))) else .bad
  | _=> .bad)
 | _=> .bad
def MH(o v:Wv)(st:Hs):Re Wv:=match o,v with
 | .ref l,.ref k=>(match st[l]?,st[k]? with
  | some (.lst ws),some (.lst zs)=>if ws.length+zs.length<=lim then .ok .aE (st.set l (.lst (ws++zs))) else .bad
  | _,_=> .bad)
 | _,_=> .bad
def k9(mt:Wv->Wv->Hs->Re Wv)(go ga:GE):GE:=λρ st=>(go ρ st).bind λo st1=>match o with
 | .ref l=>(match ag st1 l with
  | some _=>(ga ρ st1).bind λv st2=>(mt o v st2).gw
  | none=> .bad)
 | _=> .bad
def N0(X:Cx)(id:String)(mt:Wv->Wv->Hs->Re Wv):Prop:=∃r,Pe X id r/\∀(o w:Wv)(x v:V)(st:Hs)(H:Hp)(m:Mp)(Q:VK),aK X.K m st H->af X.K m H o x->af X.K m H w v->bB X.K m H (mt o w st) Q->r x [v] H Q
theorem A7:N0 X "list.append" lG:=⟨_,xY,λo w x v st H m Q S ro rw' p=>by
 cases o with
 | ref l=>
  unfold af at ro
  obtain⟨a,rfl,ha⟩:=ro
  have p':bB X.K m H (match st[l]? with | some (.lst ws)=>if ws.length < lim then .ok .aE (st.set l (.lst (ws++[w]))) else .bad | _=> .bad) Q:=p
  cases e:st[l]? with
  | none=>rw[e] at p';exact False.elim p'
  | some ob=>
   cases ob with
   | dct kvs=>rw[e] at p';exact False.elim p'
   | cB kvs=>rw[e] at p';exact False.elim p'
   | jv kvs=>rw[e] at p';exact False.elim p'
   | j6 ns=>rw[e] at p';exact False.elim p'
   | lst ws=>
    rw[e] at p'
    dsimp only at p'
    by_cases c:ws.length < lim
    ·rw[if_pos c] at p'
     obtain⟨xs,h1,h2⟩:=S.mJ ha e
     have e4:Ext X.K m H m (upd H a (.lst (xs++[v]))):=Ext.upd (.inr ⟨xs,h1⟩)
     exact⟨a,xs,v,rfl,rfl,h1,by rw[<-h2.length];exact uQ c,p' _ m _ e4 (S.write ha e (h2.append (ah.cons rw' ah.nil))) pC⟩
    ·rw[if_neg c] at p';exact False.elim p'
 | _=>exact False.elim p⟩
theorem IT:N0 X "list.extend" MH:=⟨_,xZ,λo w x v st H m Q S ro rw' p=>by
 cases o with
 | ref l=>
  cases w with
  | ref k=>
   unfold af at ro rw'
   obtain⟨a,rfl,ha⟩:=ro
   obtain⟨b,rfl,hb⟩:=rw'
   have p':bB X.K m H (match st[l]?,st[k]? with | some (.lst ws),some (.lst zs)=>if ws.length+zs.length<=lim then .ok .aE (st.set l (.lst (ws++zs))) else .bad | _,_=> .bad) Q:=p
   cases e:st[l]? with
   | none=>rw[e] at p';exact False.elim p'
   | some ob=>
    cases ob with
    | dct kvs=>rw[e] at p';exact False.elim p'
    | cB kvs=>rw[e] at p';exact False.elim p'
    | jv kvs=>rw[e] at p';exact False.elim p'
    | j6 ns=>rw[e] at p';exact False.elim p'
    | lst ws=>
     cases e2:st[k]? with
     | none=>rw[e,e2] at p';exact False.elim p'
     | some Uq=>
      cases Uq with
      | dct kvs=>rw[e,e2] at p';exact False.elim p'
      | cB kvs=>rw[e,e2] at p';exact False.elim p'
      | jv kvs=>rw[e,e2] at p';exact False.elim p'
      | j6 ns=>rw[e,e2] at p';exact False.elim p'
      | lst zs=>
       rw[e,e2] at p'
       dsimp only at p'
       by_cases c:ws.length+zs.length<=lim
       ·rw[if_pos c] at p'
        obtain⟨xs,h1,h2⟩:=S.mJ ha e
        obtain⟨ys,g1,g2⟩:=S.mJ hb e2
        have e4:Ext X.K m H m (upd H a (.lst (xs++ys))):=Ext.upd (.inr ⟨xs,h1⟩)
        exact⟨a,b,xs,ys,rfl,rfl,h1,g1,by rw[<-h2.length,<-g2.length];exact cI c,p' _ m _ e4 (S.write ha e (h2.append g2)) pC⟩
       ·rw[if_neg c] at p';exact False.elim p'
  | _=>exact False.elim p
 | _=>exact False.elim p⟩
theorem wA{x name:Str}{id:String}{e:Expr}{go ga:GE}{p apos cpos:Pos}{mt:Wv->Wv->Hs->Re Wv}(hm:N0 X id mt)(slot:Slot "list" name id)(hty:typeOf (.builtin id)=pure (.type "method_descriptor"))(ho:JE X (.Name x p) go)(ha:JE X e ga)
  (hst:W7 [e] X.env=[(false,eval e X.env)])(hline:(apos.endLine == cpos.line)=true):JE X (.Call (.Attribute (.Name x p) name apos) [e] [] cpos) (k9 mt go ga):=by
 obtain⟨r,h1,h2⟩:=hm
 have hfew:((backTo cpos (W7 [e] X.env)).all (λx=> !x.1)&&(backToKw cpos (keywordEach [] X.env)).all (λx=>x.1.isSome)&&decide ([e].length+([]:List Keyword).length+(if([]:List Keyword).isEmpty then 0 else 1) < 30))=true:=by
  rw[hst];rfl
 refine JE.of (LX PySem.F.plainAttrs_list slot hty h1 aB i6 rfl hfew hline hst rfl) λρ st σ H m Q S R p=>?_
 refine ho.go S R (ao.bind p) λo st1 v m1 H1 p1 e1 S1 ro=>?_
 cases o with
 | ref l=>
  dsimp only at p1
  cases el:ag st1 l with
  | none=>rw[el] at p1;exact False.elim p1
  | some Wm=>
   rw[el] at p1
   dsimp only at p1
   have Sb:=ro
   unfold af at Sb
   obtain⟨a,rfl,hla⟩:=Sb
   obtain⟨xs,hq,_⟩:=S1.read hla el
   refine⟨.inl ⟨rfl,xs,hq⟩,?_⟩
   refine(wy ha Az hst).go S1 (R.mono e1) (ok:=λws st2=>ao X σ m H (match ws with | [w]=>(mt (.ref l) w st2).gw | _=> .bad) (Ih X.K m H Q)) ?_ λws st2 vs m2 H2 p2 e2 S2 rs=>?_
   ·have p3:=(ao.bind p1).imp e1 (λ_ _ q=>q)
    show ao X σ m1 H1 ((ga ρ st1).bind λx st1=>(ai ρ st1).bind λxs st2=> .ok (x::xs) st2) _
    cases eg:ga ρ st1 with
    | ok w st2=>rw[eg] at p3;exact p3
    | err c st2=>rw[eg] at p3;exact p3
    | bad=>rw[eg] at p3;exact p3
   ·match ws,rs,p2 with
    | [],rs,p2=>exact False.elim p2
    | [w],rs,p2=>
     obtain⟨v2,rfl,Ur⟩:=il rs
     exact h2 (.ref l) w (.ref a) v2 st2 H2 m2 Q S2 (af.mono e2 _ _ ro) Ur (bB.shift (ao.gw p2) (e1.trans e2))
    | _::_::_,rs,p2=>exact False.elim p2
 | _=>exact False.elim p1
end
end J
namespace J
open PySem PySem.Spec PyProof.Rows L2
section
variable {X:Cx}
def MI:List Wv->Hs->Re Wv
 | [.str z],st=> .ok (.str z) st
 | ws,st=>MG ws st
def MJ:List Wv->Hs->Re Wv
 | [.int i,.int j],st=> .ok (.int (if j > i then j else i)) st
 | _,_=> .bad
def MK:List Wv->Hs->Re Wv
 | [.int i,.int j],st=> .ok (.int (if j < i then j else i)) st
 | _,_=> .bad
theorem IU(hc:X.calm=true):bC X (.builtin "max") MJ:=⟨_,xT hc,λws vs st H m Q S rs p=>by
 match ws,rs,p with
 | [],rs,p=>exact False.elim p
 | [x],rs,p=>cases x<;>exact False.elim p
 | x::y::z::t,rs,p=>cases x<;>cases y<;>exact False.elim p
 | [x,y],rs,p=>
  obtain⟨v,v',rfl,r1,r2⟩:=uU rs
  cases x with
  | int i=>
   cases y with
   | int j=>cases aF r1;cases aF r2;exact⟨i,j,rfl,p _ m H Ext.refl S mkInt⟩
   | _=>exact False.elim p
  | _=>cases y<;>exact False.elim p⟩
theorem IV(hc:X.calm=true):bC X (.builtin "min") MK:=⟨_,xU hc,λws vs st H m Q S rs p=>by
 match ws,rs,p with
 | [],rs,p=>exact False.elim p
 | [x],rs,p=>cases x<;>exact False.elim p
 | x::y::z::t,rs,p=>cases x<;>cases y<;>exact False.elim p
 | [x,y],rs,p=>
  obtain⟨v,v',rfl,r1,r2⟩:=uU rs
  cases x with
  | int i=>
   cases y with
   | int j=>cases aF r1;cases aF r2;exact⟨i,j,rfl,p _ m H Ext.refl S mkInt⟩
   | _=>exact False.elim p
  | _=>cases y<;>exact False.elim p⟩
def yA:List Nat->List Wv->aT->Option aT
 | [],[],ρ=>some ρ
 | i::is,w::ws,ρ=>yA is ws (ρ.set i (some w))
 | _,_,_=>none
def ML(is:List Nat)(w:Wv)(ρ:aT):Option aT:=match w with
 | .tup ws=>yA is ws ρ
 | _=>none
def PB:List Nat->F1
 | []=>L2.ai
 | i::is=>L2.aa (rR i) (PB is)
theorem mY{m:Mp}{H:Hp}{Q:St->Hp->Prop}:∀{is:List Nat}{ws:List Wv}{xs:List V}{ρ ρ':aT}{σ:St},ah X.K m H ws xs->aq X.K m H ρ σ->yA is ws ρ=some ρ'->(∀σ',aq X.K m H ρ' σ'->Q σ' H)->PB is xs σ H Q
 | [],[],xs,ρ,ρ',σ,r,R,e,k=>by
  unfold ah at r
  subst r
  cases e
  exact⟨rfl,k σ R⟩
 | i::is,w::ws,xs,ρ,ρ',σ,r,R,e,k=>by
  unfold ah at r
  obtain⟨x,rr,rfl,h1,h2⟩:=r
  exact⟨x,rr,rfl,mY (is:=is) h2 (R.set i h1) e k⟩
 | [],_::_,_,_,_,_,_,_,e,_=>by cases e
 | _::_,[],_,_,_,_,_,_,e,_=>by cases e
theorem mZ:∀{is:List Nat}{ws:List Wv}{ρ ρ':aT},yA is ws ρ=some ρ'->ws.length=is.length
 | [],[],_,_,_=>rfl
 | _::is,_::ws,_,_,e=>congrArg (· +1) (mZ (is:=is) (ws:=ws) e)
 | [],_::_,_,_,e=>by cases e
 | _::_,[],_,_,e=>by cases e
inductive Slots(X:Cx):List Expr->List Nat->Prop
 | nil:Slots X [] []
 | cons {x:Str} {p:Pos} {i:Nat} {es:List Expr} {is:List Nat}:X.N[i]? =some x->(Loc X.env.scope x/\(X.fn x=true\/X.env.scope.names.lookup x=some .local))->Slots X es is->Slots X (.Name x p::es) (i::is)
theorem kf(hN:X.N.Nodup):∀{es:List Expr}{is:List Nat},Slots X es is->Lv X es (PB is)
 | _,_,.nil=>Du
 | _,_,.cons h1 h2 r=>zO (jz hN h1 h2.1 h2.2) (kf hN r) rfl
theorem m7:∀{es:List Expr}{is:List Nat},Slots X es is->(assignEach es X.env).length=is.length
 | _,_,.nil=>rfl
 | _,_,.cons _ _ r=>congrArg (· +1) (m7 r)
theorem kg:∀{es:List Expr}{is:List Nat},Slots X es is->(assignEach es X.env).findIdx? (·.1)=none
 | _,_,.nil=>rfl
 | _,_,.cons (x:=x) (p:=p) (es:=es) _ _ r=>by
  have q:=kg r
  show List.findIdx? _ ((false,assign (.Name x p) X.env)::assignEach es X.env)=none
  rw[List.findIdx?_cons]
  simp[q]
open Classical in
def k_(is:List Nat)(gb:GS)(l:Nat)(all:List Wv):List Wv->aT->Hs->Rs
 | [],ρ,st=> .nx ρ st
 | w::r,ρ,st=>match ML is w ρ with
  | none=> .bad
  | some ρ1=>match gb ρ1 st with
   | .nx ρ' st'=>if ag st' l=some all then k_ is gb l all r ρ' st' else .bad
   | .ct ρ' st'=>if ag st' l=some all then k_ is gb l all r ρ' st' else .bad
   | .bk ρ' st'=> .nx ρ' st'
   | .rt w st'=> .rt w st'
   | .err c ρ' st'=> .err c ρ' st'
   | .bad=> .bad
def wB(is:List Nat)(gi:GE)(gb:GS):GS:=λρ st=>(gi ρ st).aI ρ λw st1=>match w with
 | .ref l=>(match ag st1 l with | some ws=>k_ is gb l ws ws ρ st1 | none=> .bad)
 | _=> .bad
theorem El{es:List Expr}{is:List Nat}{k:Nat}{iter:Expr}{body:List Stmt}{gi:GE}{gb:GS}{pos pos':Pos}(hN:X.N.Nodup)(hp:PassesOwn (model X.prog X.w) X.A X.env X.xe)(hc:X.calm=true)(sl:Slots X es is)(hi:JE X iter gi)(hb:i7 X body gb)
  (hs:∀x,W3 iter X.env x=pure x):JS X (.For (.Tuple es k pos') iter body [] pos) (wB is gi gb):=by
 refine JS.of (j7 hp hc (Dw aB) (zP hc (kf hN sl) (m7 sl) (kg sl)) cC hs) λρ st σ H m D S R p=>?_
 refine hi.go S R (av.bF R p) λw st1 v m1 H1 p1 e1 S1 rw'=>?_
 cases w with
 | ref l=>
  have p1':av X m H (match ag st1 l with | some ws=>k_ is gb l ws ws ρ st1 | none=> .bad) D:=p1
  unfold af at rw'
  obtain⟨a,rfl,hla⟩:=rw'
  cases el:ag st1 l with
  | none=>rw[el] at p1';exact False.elim p1'
  | some ws=>
   rw[el] at p1'
   obtain⟨Ef,q0,_⟩:=S1.read hla el
   refine⟨a,rfl,⟨Ef,q0⟩,?_⟩
   let Pv:Nat->St->Hp->Prop:=λk σ H=>∃ρ st m',Ext X.K m1 H1 m' H/\aK X.K m' st H/\aq X.K m' H ρ σ/\ag st l=some ws/\av X m' H (k_ is gb l ws (ws.drop k) ρ st) D
   refine⟨λk n σ H=>n=ws.length - k/\k<=ws.length/\Pv k σ H,⟨ws.length,by simp,Nat.zero_le _,ρ,st1,m1,Ext.refl,S1,R.mono e1,el,av.shift p1' e1⟩,?_⟩
   rintro k n σ2 H2 ⟨rfl,hk,ρ2,st2,m2,e2,S2,R2,l2,p2⟩
   obtain⟨xs,hq,rws⟩:=S2.read (e2.pre _ _ hla) l2
   have hlen:=rws.length
   by_cases hlt:k < ws.length
   ·have hx':k < xs.length:=by omega
    refine .inr ⟨⟨xs,xs[k],hq,by simp[hx']⟩,Pv (k+1),λσ' H' p'=>⟨ws.length - (k+1),by omega,rfl,hlt,p'⟩,λx H' y=>?_⟩
    obtain⟨ee,y⟩:=y
    subst ee
    have ey:=y xs hq
    have ed:ws.drop k=ws[k]::ws.drop (k+1):=List.drop_eq_getElem_cons hlt
    obtain⟨x',ex',j9⟩:=rws.get (i:=k) (w:=ws[k]) (List.getElem?_eq_getElem hlt)
    rw[ey] at ex'
    cases ex'
    rw[ed] at p2
    unfold k_ at p2
    cases eb:ws[k] with
    | tup us=>
     rw[eb] at p2 j9
     dsimp only[ML] at p2
     cases e5:yA is us ρ2 with
     | none=>rw[e5] at p2;exact False.elim p2
     | some ρ5=>
      rw[e5] at p2
      dsimp only at p2
      unfold af at j9
      obtain⟨b,ys,rfl,f1,f2⟩:=j9
      refine⟨b,ys,rfl,dS.of f1,by rw[<-f2.length];exact mZ e5,mY f2 R2 e5 λσ5 R5=>?_⟩
      refine hb _ st2 _ _ m2 _ S2 R5 ?_
      cases eg:gb ρ5 st2 with
      | nx ρ3 st3=>
       rw[eg] at p2
       by_cases c:ag st3 l=some ws
       ·simp only[if_pos c] at p2
        exact λσ3 m3 H3 e3 S3 R3=>⟨ρ3,st3,m3,e2.trans e3,S3,R3,c,av.shift p2 e3⟩
       ·simp only[if_neg c] at p2;exact False.elim p2
      | ct ρ3 st3=>
       rw[eg] at p2
       by_cases c:ag st3 l=some ws
       ·simp only[if_pos c] at p2
        exact λσ3 m3 H3 e3 S3 R3=>⟨ρ3,st3,m3,e2.trans e3,S3,R3,c,av.shift p2 e3⟩
       ·simp only[if_neg c] at p2;exact False.elim p2
      | bk ρ3 st3=>rw[eg] at p2;exact p2
      | rt w3 st3=>rw[eg] at p2;exact p2
      | err c3 ρ3 st3=>rw[eg] at p2;exact p2
      | bad=>rw[eg] at p2;exact p2
    | _=>rw[eb] at p2;exact False.elim p2
   ·have e:k=ws.length:=by omega
    subst e
    rw[List.drop_length] at p2
    exact .inl ⟨⟨xs,hq,by omega⟩,p2 σ2 m2 H2 Ext.refl S2 R2⟩
 | _=>exact False.elim p1
end
end J
namespace J
open PySem PySem.Spec PyProof.Rows L2
def kh(env:Env):List (Str×WR)->List (Str×WN)->List (Str×WN)
 | [],acc=>acc
 | (n,k)::r,acc=>if k= .free then kh env r ((n,(env.cells.lookup n).getD 0)::acc) else kh env r acc
theorem sE(env:Env):∀(names:List (Str×WR))(acc:List (Str×WN)),(∀y∈names,y.2= .free->∃c,env.cells.lookup y.1=some c)->
  (forIn names acc λx r=>match x with
   | (name,kind)=>if(kind == NameKind.free)=true then do let c <-cellOf env name;pure (ForInStep.yield ((name,c)::r)) else(pure (ForInStep.yield r):Sem _))=pure (kh env names acc)
 | [],acc,_=>rfl
 | (n,k)::r,acc,h=>by
  have ih:=λacc=>sE env r acc λy hy=>h y (List.mem_cons_of_mem _ hy)
  rw[List.forIn_cons]
  by_cases hk:k= .free
  ·subst hk
   obtain⟨c,e⟩:=h (n,.free) List.mem_cons_self rfl
   have e':env.cells.lookup n=some c:=e
   have cc:cellOf env n=pure c:=by unfold cellOf;rw[e']
   simp only[beq_self_eq_true,if_true,cc]
   have q:kh env ((n,.free)::r) acc=kh env r ((n,c)::acc):=by
    show(if NameKind.free= .free then kh env r ((n,(env.cells.lookup n).getD 0)::acc) else _)=_
    rw[if_pos rfl,e']
    rfl
   rw[q,<-ih]
   rfl
  ·have hb:(k == NameKind.free)=false:=by simpa using hk
   simp only[hb,Bool.false_eq_true,if_false]
   have q:kh env ((n,k)::r) acc=kh env r acc:=by
    show(if k= .free then _ else kh env r acc)=_
    rw[if_neg hk]
   rw[q,<-ih]
   rfl
theorem Em{env:Env}{scope:Scope}(h:∀y∈scope.names,y.2= .free->∃c,env.cells.lookup y.1=some c):closureFor scope env=pure (kh env scope.names []):=by
 have q:=sE env scope.names [] h
 unfold closureFor
 first
  | (rw[<-q];rfl)
  | (simp only[bind_pure];exact q)
theorem qE{env:Env}:∀{names:List (Str×WR)}{acc:List (Str×WN)}{y:Str}{c:WN},(∀y∈names,y.2= .free->∃c,env.cells.lookup y.1=some c)->(∀y c,acc.lookup y=some c->env.cells.lookup y=some c)->(kh env names acc).lookup y=some c->env.cells.lookup y=some c
 | [],acc,y,c,_,ha,e=>ha y c e
 | (n,k)::r,acc,y,c,h,ha,e=>by
  unfold kh at e
  by_cases hk:k= .free
  ·rw[if_pos hk] at e
   subst hk
   obtain⟨c0,e0⟩:=h (n,.free) List.mem_cons_self rfl
   have Us:env.cells.lookup n=some c0:=e0
   refine qE (λy hy=>h y (List.mem_cons_of_mem _ hy)) (λy' c' e'=>?_) e
   rw[List.lookup_cons] at e'
   cases q:y' == n with
   | true=>
    rw[q] at e'
    have q':=eq_of_beq q
    subst q'
    rw[Us] at e' ⊢
    exact e'
   | false=>rw[q] at e';exact ha y' c' e'
  ·rw[if_neg hk] at e
   exact qE (λy hy=>h y (List.mem_cons_of_mem _ hy)) ha e
theorem lV{env:Env}{y:Str}:∀{names:List (Str×WR)}{acc:List (Str×WN)},((∃c,acc.lookup y=some c)\/(y,NameKind.free)∈names)->∃c,(kh env names acc).lookup y=some c
 | [],acc,h=>by
  rcases h with h | h
  ·exact h
  ·cases h
 | (n,k)::r,acc,h=>by
  unfold kh
  by_cases hk:k= .free
  ·rw[if_pos hk]
   refine lV ?_
   rw[List.lookup_cons]
   cases q:y == n with
   | true=>exact .inl ⟨_,rfl⟩
   | false=>
    rcases h with h | h
    ·exact .inl h
    ·rcases List.mem_cons.mp h with h | h
     ·cases h;simp at q
     ·exact .inr h
  ·rw[if_neg hk]
   refine lV ?_
   rcases h with h | h
   ·exact .inl h
   ·rcases List.mem_cons.mp h with h | h
    ·cases h;exact absurd rfl hk
    ·exact .inr h
theorem lookup_mem{α β:Type}[BEq α][LawfulBEq α]{y:α}{k:β}:∀{names:List (α×β)},names.lookup y=some k->(y,k)∈names
 | [],h=>by cases h
 | (n,j)::r,h=>by
  rw[List.lookup_cons] at h
  cases q:y == n with
  | true=>
   rw[q] at h
   cases h
   have q':=eq_of_beq q
   subst q'
   exact List.mem_cons_self
  | false=>rw[q] at h;exact List.mem_cons_of_mem _ (lookup_mem h)
theorem m8{env:Env}:∀{names:List (Str×WR)}{y:Str},(names.map λ(n,k)=>if(k == NameKind.free&&env.scope.kind == .function&&env.kindOf n == some .cell) then(n,NameKind.cell) else(n,k)).lookup y=
  (names.lookup y).map λk=>if(k == NameKind.free&&env.scope.kind == .function&&env.kindOf y == some .cell)=true then NameKind.cell else k
 | [],y=>rfl
 | (n,k)::r,y=>by
  have ih:=m8 (env:=env) (names:=r) (y:=y)
  show List.lookup y ((if(k == NameKind.free&&env.scope.kind == .function&&env.kindOf n == some .cell)=true then(n,NameKind.cell) else(n,k))::_)=_
  cases q:y == n with
  | true=>
   have q':=eq_of_beq q
   subst q'
   by_cases hc:(k == NameKind.free&&env.scope.kind == .function&&env.kindOf y == some .cell)=true
   ·rw[if_pos hc]
    simp only[List.lookup_cons,beq_self_eq_true,Option.map_some]
    rw[if_pos hc]
   ·rw[if_neg hc]
    simp only[List.lookup_cons,beq_self_eq_true,Option.map_some]
    rw[if_neg hc]
  | false=>
   by_cases hc:(k == NameKind.free&&env.scope.kind == .function&&env.kindOf n == some .cell)=true
   ·rw[if_pos hc];simp only[List.lookup_cons,q];exact ih
   ·rw[if_neg hc];simp only[List.lookup_cons,q];exact ih
open Classical in
def jH(ck:Hs->Prop)(gt:Wv->Hs->Re Bool)(ge:Wv->Hs->Re Wv)(l:Nat):List Wv->Hs->Option Hs
 | [],st=>some st
 | w::r,st=>match gt w st with
  | .ok false st1=>if ck st1 then jH ck gt ge l r st1 else none
  | .ok true st1=>(match ge w st1 with
   | .ok v st2=>(match lG (.ref l) v st2 with
    | .ok _ st3=>if ck st3 then jH ck gt ge l r st3 else none
    | _=>none)
   | _=>none)
  | _=>none
open Classical in
def lg(ck:Hs->Prop)(gt:Wv->Hs->Re Bool)(ge:Wv->Hs->Re Wv)(l:Nat):List Wv->Hs->Re Unit
 | [],st=> .ok () st
 | w::r,st=>match gt w st with
  | .ok false st1=>if ck st1 then lg ck gt ge l r st1 else .bad
  | .ok true st1=>(match ge w st1 with
   | .ok v st2=>(match lG (.ref l) v st2 with
    | .ok _ st3=>if ck st3 then lg ck gt ge l r st3 else .bad
    | _=> .bad)
   | .err c st2=> .err c st2
   | .bad=> .bad)
  | .err c st1=> .err c st1
  | .bad=> .bad
theorem m_{ck:Hs->Prop}{gt:Wv->Hs->Re Bool}{ge:Wv->Hs->Re Wv}{l:Nat}{wC:Hs}:∀(ws:List Wv)(st:Hs),jH ck gt ge l ws st=some wC->lg ck gt ge l ws st= .ok () wC
 | [],st,h=>by cases h;rfl
 | w::r,st,h=>by
  unfold jH at h
  unfold lg
  cases eg:gt w st with
  | err c st1=>rw[eg] at h;cases h
  | bad=>rw[eg] at h;cases h
  | ok b st1=>
   rw[eg] at h
   cases b with
   | false=>
    dsimp only at h ⊢
    by_cases c:ck st1
    ·rw[if_pos c] at h ⊢;exact m_ r st1 h
    ·rw[if_neg c] at h;cases h
   | true=>
    dsimp only at h ⊢
    cases ee:ge w st1 with
    | err c st2=>rw[ee] at h;cases h
    | bad=>rw[ee] at h;cases h
    | ok v st2=>
     rw[ee] at h
     dsimp only at h ⊢
     cases ea:lG (.ref l) v st2 with
     | err c st3=>rw[ea] at h;cases h
     | bad=>rw[ea] at h;cases h
     | ok u st3=>
      rw[ea] at h
      dsimp only at h ⊢
      by_cases c:ck st3
      ·rw[if_pos c] at h ⊢;exact m_ r st3 h
      ·rw[if_neg c] at h;cases h
abbrev eO:=List (Str×Nat)
def jg(cs:eO)(ρ:aT):aT:=cs.map λp=>(ρ[p.2]?).getD none
def qF(cs:eO)(σ:St):St:=cs.map λp=>(σ[p.2]?).getD none
theorem En{K:PySem.W.Frag}{m:Mp}{H:Hp}{ρ:aT}{σ:St}(cs:eO)(R:aq K m H ρ σ):aq K m H (jg cs ρ) (qF cs σ):=by
 refine⟨by unfold jg qF;simp,λi w e=>?_⟩
 unfold jg at e
 rw[List.getElem?_map] at e
 cases q:cs[i]? with
 | none=>rw[q] at e;cases e
 | some p=>
  rw[q] at e
  have e':(ρ[p.2]?).getD none=some w:=by simpa using e
  cases q2:ρ[p.2]? with
  | none=>rw[q2] at e';cases e'
  | some o=>
   rw[q2] at e'
   have e2:o=some w:=e'
   subst e2
   obtain⟨v,h1,h2⟩:=R.get _ _ q2
   refine⟨v,?_,h2⟩
   unfold qF
   rw[List.getElem?_map,q]
   simp[h1]
def dU(X:Cx)(scope:Scope)(x:Str)(cs:eO)(C:WN)(s0:WT)(H0:Hp)(fp:List WN)(pn:List (WN×Obj))(E:WU->WT->Prop):Cx where
 prog:=X.prog
 w:=X.w
 K:=X.K
 mg:=X.mg
 base:=X.base
 A:=X.A
 N:=x::cs.map (·.1)
 s₀:=s0
 H₀:=H0
 env:=compEnvC scope (kh X.env scope.names []) C X.env
 outer:=X.stack
 stack:=X.stack
 ex:=fp
 fn:=λ_=>false
 calm:=X.calm
 pn:=pn
 xe:=E
structure cK(X:Cx)(scope:Scope)(x:Str)(cs:eO):Prop where
 kind:scope.kind= .function
 look:∀y∈scope.names,scope.names.lookup y.1=some y.2
 cell:∀y∈scope.names,y.2≠.cell
 var:scope.names.lookup x=some .local
 cap:∀y∈scope.names,y.2= .free->X.env.kindOf y.1=some .cell\/X.env.kindOf y.1=some .free
 at_:∀p∈cs,X.N[p.2]? =some p.1/\scope.names.lookup p.1=some .free
 nd:(x::cs.map (·.1)).Nodup
section
variable {X:Cx} {pins:List (WN×Obj)} {σ:St} {H:Hp} {s:WT} {scope:Scope} {x:Str} {cs:eO}
theorem sF(I:Inv X pins σ H s){b:WN}(f:dX X pins H b):b∉frs X.stack:=λz=>by
 rcases List.mem_cons.mp (I.mn b z) with q | q
 ·exact f.2.1 q
 ·exact f.2.2.1 q
theorem cK.has(S:cK X scope x cs)(ok:X.Ok):∀y∈scope.names,y.2= .free->∃c,X.env.cells.lookup y.1=some c:=λy hy e=>ok.has y.1 (S.cap y hy e)
theorem cK.sub(S:cK X scope x cs)(ok:X.Ok){y:Str}{c:WN}(e:(kh X.env scope.names []).lookup y=some c):X.env.cells.lookup y=some c :=
 qE (S.has ok) (λ_ _ z=>by cases z) e
theorem cK.IW(S:cK X scope x cs)(ok:X.Ok){C:WN}{y:Str}(h:(compEnvC scope (kh X.env scope.names []) C X.env).kindOf y=some .cell\/(compEnvC scope (kh X.env scope.names []) C X.env).kindOf y=some .free):scope.names.lookup y=some .free:=by
 have q:(compEnvC scope (kh X.env scope.names []) C X.env).kindOf y=(scope.names.lookup y).map λk=>if(k == NameKind.free&&X.env.scope.kind == .function&&X.env.kindOf y == some .cell)=true then NameKind.cell else k:=m8
 rw[q] at h
 cases e:scope.names.lookup y with
 | none=>rw[e] at h;simp at h
 | some k=>
  rw[e] at h
  simp only[Option.map_some,Option.some.injEq] at h
  by_cases hk:k= .free
  ·rw[hk]
  ·have hb:(k == NameKind.free)=false:=by simpa using hk
   rw[hb] at h
   simp only[Bool.false_and,Bool.false_eq_true,if_false] at h
   rcases h with h | h
   ·exact absurd h (S.cell (y,k) (lookup_mem e))
   ·exact absurd h hk
theorem cK.A8(S:cK X scope x cs){C:WN}{y:Str}(e:scope.names.lookup y=some .free):(compEnvC scope (kh X.env scope.names []) C X.env).kindOf y=some .cell\/(compEnvC scope (kh X.env scope.names []) C X.env).kindOf y=some .free:=by
 have q:(compEnvC scope (kh X.env scope.names []) C X.env).kindOf y=(scope.names.lookup y).map λk=>if(k == NameKind.free&&X.env.scope.kind == .function&&X.env.kindOf y == some .cell)=true then NameKind.cell else k:=m8
 rw[q,e]
 simp only[Option.map_some]
 split
 ·exact .inl rfl
 ·exact .inr rfl
theorem A9{fp:List WN}{h2:Heap}{tk:Nat}{E:WU->WT->Prop}(S:cK X scope x cs)(I:Inv X pins σ H s)(hf:∀b∈fp,dX X pins H b)(hl:∀b∈fp,b < s.heap.objs.size)
  (ns:h2.Ns s.heap.objs.size (λy=>([]:List (Str×WU)).reverse.lookup y))(sb:Heap.SameBut s.heap.objs.size (s.heap.push { cls:=.type "dict",data:=.dict #[] }) h2) :
  Inv (dU X scope x cs s.heap.objs.size s H fp (X.pn++pins) E) [] (none::qF cs σ) H { s with heap:=h2,toks:=tk }:=by
 have keep:∀b o,s.heap.get? b=some o->h2.get? b=some o:=λb o e=>(sb.2 b (Nat.ne_of_lt (Heap.lt_size e))).trans (Heap.get?_push_of_some _ e)
 have sub:∀{y:Str}{c:WN},(kh X.env scope.names []).lookup y=some c->X.env.cells.lookup y=some c:=λe=>S.sub I.ok e
 have cellK:∀y c,X.env.cells.lookup y=some c->∀v,s.heap.IsCell c v->h2.IsCell c v:=λy c _ v ⟨o,ho,hd⟩=>⟨o,keep c o ho,hd⟩
 refine⟨⟨I.ok.mod,S.kind,I.ok.glob,I.ok.blt,Nat.le_refl _,(λy z c e1 e2=>I.ok.inj y z c (sub e1) (sub e2)),λy h=>lV (.inr (lookup_mem (S.IW I.ok h))),(λy c e=>by cases e),I.ok.hd,I.ok.frames,.inl rfl,λb hb=>⟨Nat.ne_of_lt (hl b hb),λy c e=>(hf b hb).2.2.2.2.1 y c (sub e)⟩,I.bs,Nat.le_trans I.ok.De I.sz,λb o e hb=>?_,λb hb=>sF I (hf b hb),I.stack,I.jw⟩,rfl,I.bare,Un.kept keep,⟨_,ns,λi y v e1 e2 e3=>?_⟩,(λy c e=>?_),I.fresh,(λy c e=>I.dR y c (sub e)),λp hp=>?_,I.hok.kept keep,by unfold dU qF;simp⟩
 ·rcases(hf b hb).2.2.2.1 with z | z
  ·exact I.ok.xM b o e z
  ·exact absurd (Nat.lt_of_lt_of_le (Heap.lt_size e) (Nat.le_trans I.ok.De z)) (Nat.lt_irrefl _)
 ·cases i with
  | zero=>cases e2
  | succ i=>
   have Eo:(cs.map (·.1))[i]? =some y:=e1
   have A_:(qF cs σ)[i]? =some (some v):=e2
   unfold qF at A_
   rw[List.getElem?_map] at Eo A_
   cases q:cs[i]? with
   | none=>rw[q] at Eo;cases Eo
   | some p=>
    rw[q] at Eo A_
    have y1:p.1=y:=by simpa using Eo
    have e4:(σ[p.2]?).getD none=some v:=by simpa using A_
    have e5:σ[p.2]? =some (some v):=by
     cases q2:σ[p.2]? with
     | none=>rw[q2] at e4;cases e4
     | some o=>
      rw[q2] at e4
      have:o=some v:=e4
      rw[this]
    have hp:=S.at_ p (List.mem_iff_getElem?.mpr ⟨i,q⟩)
    rw[y1] at hp
    have kd:=S.cap (y,.free) (lookup_mem hp.2) rfl
    obtain⟨m,hn,hl'⟩:=I.loc
    obtain⟨u,r,l⟩:=hl' p.2 y v hp.1 e5 (.inr kd)
    refine⟨u,r,.inr ⟨S.A8 hp.2,?_⟩⟩
    rcases l with ⟨l,_⟩ | ⟨_,c,e,z⟩
    ·rcases kd with kd | kd
     ·have PD:X.env.kindOf y=some .cell:=kd
      rw[PD] at l;cases l
     ·have PD:X.env.kindOf y=some .free:=kd
      rw[PD] at l;cases l
    ·obtain⟨c',e'⟩:=lV (env:=X.env) (y:=y) (names:=scope.names) (acc:=[]) (.inr (lookup_mem hp.2))
     have:=sub e'
     rw[e] at this
     cases this
     exact⟨c,e',cellK y c e _ z⟩
 ·obtain⟨v,z⟩:=I.cell y c (sub e)
  exact⟨v,cellK y c (sub e) v z⟩
 ·rw[List.append_nil] at hp
  obtain⟨e,n,ne,nf,d⟩:=I.pin p hp
  refine⟨keep _ _ e,n,Nat.ne_of_lt (Heap.lt_size e),λz=>?_,d⟩
  rcases List.mem_cons.mp (I.mn p.1 z) with q | q
  ·exact ne q
  ·exact nf q
theorem Ba{fp:List WN}{E:WU->WT->Prop}{Hb He:Hp}{sb se:WT}{C:WN}{σ':St}{hU:List (WN×Obj)}(I:Inv X pins σ Hb sb)(hf:∀b∈fp,dX X pins Hb b)(J:Inv (dU X scope x cs C sb Hb fp (X.pn++pins) E) hU σ' He se):Inv X pins σ He se:=by
 have un:Un (frs X.stack) fp Hb He sb.heap se.heap:=J.base
 exact I.FZ (ch:=fp) J.os un J.hok J.bare λb hb=>⟨(hf b hb).2.2.2.1,(hf b hb).2.1,(hf b hb).2.2.2.2.1,λp hp=>(hf b hb).2.2.2.2.2 p hp⟩
theorem pL{He:Hp}{se:WT}{C:WN}{h2:Heap}(I:Inv X pins σ He se)(f:dX X pins He C)(same:Heap.SameBut C se.heap h2):Inv X pins σ He { se with heap:=h2 } :=
 I.turned (t':=se.toks) (it:=C) (λb o hb e=>(same.2 b hb).trans e) f.1 f.2.1 f.2.2.2.1 f.2.2.2.2.1 f.2.2.2.2.2
end
def Bb(X:Cx):Prop:=∃(env:Env)(outer:List Env)(L:WN),X.stack=env::outer/\env.frame=some L/\X.env.frame=some L
section
variable {X:Cx} {pins:List (WN×Obj)} {σ:St} {scope:Scope} {x:Str} {cs:eO}
end
structure wD(Y:Cx->Prop)(P:WS)(w:WV)(K:PySem.W.Frag)(tg:Expr)(J:It)(fp:List WN)(it:WN)(tn:Nat->Heap->Prop):Prop where
 obj:∀i h,tn i h->∀b∈fp,∃o,h.get? b=some o/\∀v,o.data≠.cell v
 keep:∀i h h',tn i h->(∀b∈fp,∀o,h.get? b=some o->h'.get? b=some o)->tn i h'
 item:∀(X:Cx),X.prog=P->X.w=w->X.K=K->Y X->∀(i:Nat)(pins:List (WN×Obj))(s:WT)(σ:St)(H:Hp)(E:WU->WT->Prop),Inv X pins σ H s->(∀b∈fp,dX X pins H b)->tn i s.heap->J.go i H->W8 (model P w) X.A (pyNext (.ref it)) (λr s1=>∃u,r=some u/\
  W8 (model P w) X.A (letOwnedTupleGo tg (.ref it) u) (λ_ s2=>∃x H',Inv X pins σ H' s2/\RelV x u/\J.rS i H x H'/\tn (i+1) s2.heap/\∀b∈fp,H' b=none) E s1) E s
 done:∀(X:Cx),X.prog=P->X.w=w->X.K=K->Y X->∀(i:Nat)(pins:List (WN×Obj))(s:WT)(σ:St)(H:Hp)(E:WU->WT->Prop),Inv X pins σ H s->(∀b∈fp,dX X pins H b)->tn i s.heap->J.stop i H->W8 (model P w) X.A (pyNext (.ref it)) (λr s1=>r=none/\Inv X pins σ H s1) E s
 self:∀(A:WO)(i:Nat)(s:WT)(Q:WU->WT->Prop)(E:WU->WT->Prop),tn i s.heap->Q (.ref it) s->W8 (model P w) A (pyIter (.ref it)) Q E s
abbrev Calm(X:Cx):Prop:=X.calm=true
theorem _root_.L2.Turn.y{P:WS}{w:WV}{K:PySem.W.Frag}{tg:Expr}{J:It}{fp:List WN}{it:WN}{tn:Nat->Heap->Prop}(T:Turn P w K tg J fp it tn):wD Calm P w K tg J fp it tn:=⟨T.obj,T.keep,T.item,T.done,T.self⟩
def Lb(Y:Cx->Prop)(X:Cx):Prop:=∀{pins:List (WN×Obj)}{σ:St}{H:Hp}{s:WT}(scope:Scope)(x:Str)(cs:eO)(C:WN)(s0:WT)(fp:List WN)(pn:List (WN×Obj))(E:WU->WT->Prop),Inv X pins σ H s->Y (dU X scope x cs C s0 H fp pn E)
theorem sG{X:Cx}(hc:X.calm=true):Lb Calm X:=λ_ _ _ _ _ _ _ _ _=>hc
def Gj(X:Cx)(ifs:List Expr)(g:GT):Prop:=∀(ρ:aT)(st:Hs)(σ:St)(H:Hp)(m:Mp)(Q:Bool->Hp->Prop),aK X.K m st H->aq X.K m H ρ σ->fV X σ m H (g ρ st) Q->∀(pins:List (WN×Obj))(s:WT),Inv X pins σ H s->
 W8 (model X.prog X.w) X.A (forIn ifs true λc r=>if r=true then do let ok <-isTrue c X.env (eval c X.env);pure (ForInStep.yield ok) else pure (ForInStep.yield r)) (TP X pins σ Q) X.xe s
section
variable {X:Cx}
theorem Ep:Gj X [] (λ_ st=> .ok true st):=λρ st σ H m Q S R p pins s I=>wpAny_tests_nil ⟨H,I,p m H Ext.refl S⟩
theorem Er{c:Expr}{g:GT}(h:JT X c g):Gj X [c] g:=λρ st σ H m Q S R p pins s I=>wpAny_tests_one (h ρ st σ H m Q S R p pins s I)
theorem u6{pins:List (WN×Obj)}{σ:St}{ρ:aT}{scope:Scope}{x:Str}{cs:eO}{px pos:Pos}{elt iter:Expr}{ifs:List Expr}{gt:GT}{ge:GE}{ck:Hs->Prop}{ws:List Wv}{E:WU->WT->Prop}
  {use:Option (WU->Sem Unit)}{Q:WU->WT->Prop}{res:Re Unit}
  {it:WN}{fp:List WN}{tn:Nat->Heap->Prop}{J':It}{H2:Hp}{s2:WT}{m1:Mp}{st1:Hs}{Y:Cx->Prop}(fr:Bb X)(S:cK X scope x cs)(hY:Lb Y X)(hH:u5 X)(I2:Inv X pins σ H2 s2)(T:wD Y X.prog X.w X.K (.Name x px) J' fp it tn)(t0:tn 0 s2.heap)(f2:∀b∈fp,dX X pins H2 b)
  (S1:aK X.K m1 st1 H2)(R:aq X.K m1 H2 ρ σ)(hck:ck (st1++[.lst []]))(run:lg ck (λw=>gt (some w::jg cs ρ)) (λw=>ge (some w::jg cs ρ)) st1.length ws (st1++[.lst []])=res)(nb:res≠.bad)(hx:∀c Ut,res≠.err c Ut)
  (hE:∀C s0 H0 pn E,yx X.A H0->JE (dU X scope x cs C s0 H0 fp pn E) elt ge)(hT:∀C s0 H0 pn E,yx X.A H0->Gj (dU X scope x cs C s0 H0 fp pn E) ifs gt)
  (hgo:∀(k:Nat)(H:Hp)(m':Mp)(st:Hs),Ext X.K m1 H2 m' H->aK X.K m' st H->ck st->k < ws.length->J'.go k H)(hstop:∀(k:Nat)(H:Hp)(m':Mp)(st:Hs),Ext X.K m1 H2 m' H->aK X.K m' st H->ck st->k=ws.length->J'.stop k H)
  (hy:∀(k:Nat)(hk:k < ws.length)(H:Hp)(v:V)(H':Hp)(m':Mp)(st:Hs),Ext X.K m1 H2 m' H->aK X.K m' st H->ck st->J'.rS k H v H'->H'=H/\af X.K m' H ws[k] v)
  (fin:∀(wC:Hs),res= .ok () wC->∀(D C:WN)(mm:Str->Option WU)(m':Mp)(H':Hp)(s':WT),Ext X.K m1 H2 m' H'->aK X.K m' wC H'->m'[st1.length]? =some D->Inv X pins σ H' s'->dX X pins H' C->s'.heap.Ns C mm->(∀y c,X.env.cells.lookup y=some c->c≠C)->W0 (model X.prog X.w) X.A X.xe use Q (.ref D) C (.ok .next) s') :
  W8 (model X.prog X.w) X.A (newList []) (λacc s3=>W8 (model X.prog X.w) X.A (newFunctionEnv scope X.env.globals (kh X.env scope.names []) [] X.env.qual none .none (some X.env)) (λcenv s4=>
   WZ (model X.prog X.w) X.A (.compStart (.ListComp elt [⟨.Name x px,iter,ifs,0⟩] scope pos) 0 (.ref it) acc { cenv with scope:=relabel scope X.env }) (W0 (model X.prog X.w) X.A X.xe use Q acc cenv.locals) s4) E s3) E s2:=by
 refine Xb ?_
 have I3:Inv X pins σ (upd H2 s2.heap.objs.size (.lst [])) { s2 with heap:=s2.heap.push { cls:=.type "list",data:=.seq ([]:List WU).toArray } }:=I2.HS (ys:=[]) (its:=[]) (t':=s2.toks) .nil (Nat.zero_le _)
 have Uu:∀b∈fp,b < s2.heap.objs.size:=λb hb=>by
  obtain⟨o,e,_⟩:=T.obj _ _ t0 b hb
  exact Heap.lt_size e
 have hD:H2 s2.heap.objs.size=none:=I2.fresh
 have f3:∀b∈fp,dX X pins (upd H2 s2.heap.objs.size (.lst [])) b:=λb hb=>⟨by rw[au (Nat.ne_of_lt (Uu b hb))];exact(f2 b hb).1,(f2 b hb).2⟩
 have S3:=S1.alloc (ws:=[]) (xs:=[]) hD ah.nil
 have e3:Ext X.K m1 H2 (m1++[s2.heap.objs.size]) (upd H2 s2.heap.objs.size (.lst [])):=Ext.more.trans (Ext.upd (.inl hD))
 have N1:(m1++[s2.heap.objs.size])[st1.length]? =some s2.heap.objs.size:=by
  rw[<-S1.len,List.getElem?_append_right (Nat.le_refl _),Nat.sub_self];rfl
 generalize MM:({ s2 with heap:=s2.heap.push { cls:=.type "list",data:=.seq ([]:List WU).toArray } }:WT)=s3 at I3
 have Sd:∀b o,s2.heap.get? b=some o->s3.heap.get? b=some o:=λb o e=>by rw[<-MM];exact Heap.get?_push_of_some _ e
 have Se:∀b∈fp,b < s3.heap.objs.size:=λb hb=>by
  obtain⟨o,e,_⟩:=T.obj _ _ t0 b hb
  exact Heap.lt_size (Sd b o e)
 generalize Wn:s2.heap.objs.size=D at *
 generalize Wq:upd H2 D (.lst [])=H3 at *
 generalize Ws:m1++[D]=m3 at *
 have R3:aq X.K m3 H3 (jg cs ρ) (qF cs σ):=(En cs R).mono e3
 generalize hrr:jg cs ρ=ρc at *
 generalize hss:qF cs σ=σc at *
 refine wpAny_newFunctionEnv S.cell (λ_ z=>nomatch z) (λh4 Uv Sf=>?_) S.kind
 have Ic:=λE=>A9 (E:=E) (tk:=s3.toks+([]:List (Str×WU)).length) S I3 f3 Se Uv Sf
 have Uw:∀b o,s3.heap.get? b=some o->h4.get? b=some o:=λb o e=>(Sf.2 b (Nat.ne_of_lt (Heap.lt_size e))).trans (Heap.get?_push_of_some _ e)
 have t4:tn 0 h4:=T.keep _ _ _ t0 λb _ o e=>Uw b o (Sd b o e)
 let EX:WU->WT->Prop:=notedBy (model X.prog X.w) X.A (compEnvC scope (kh X.env scope.names []) s3.heap.objs.size X.env) λe s'=>W0 (model X.prog X.w) X.A X.xe use Q (.ref D) s3.heap.objs.size (.error e) s'
 let Xc:=dU X scope x cs s3.heap.objs.size s3 H3 fp (X.pn++pins) EX
 have noted:∀{σ':St}{m:Mp}{H:Hp}{c:Str}{st:Hs},Ext X.K m1 H2 m H->res= .err c st->K_ Xc σ' m H c st:=λ_ er=>(hx _ _ er).elim
 have vis:Xc.env.scope.names.lookup x=some .local:=lookup_relabel_local S.var
 have PF:∀(H':Hp),(∀b∈fp,H' b=none)->∀b∈fp,dX Xc [] H' b:=λH' hn b hb=>⟨hn b hb,Nat.ne_of_lt (Se b hb),sF I3 (f3 b hb),.inl hb,λy c e=>(f3 b hb).2.2.2.2.1 y c (S.sub I3.ok e),λp hp=>(f2 b hb).2.2.2.2.2 p (by have Sg:p∈(X.pn++pins)++[]:=hp;rw[List.append_nil] at Sg;exact Sg)⟩
 let Pv:Nat->WT->Prop:=λk s'=>∃z H' st m',Inv Xc [] (z::σc) H' s'/\tn k s'.heap/\(∀b∈fp,H' b=none)/\Ext X.K m3 H3 m' H'/\aK X.K m' st H'/\ck st/\lg ck (λw=>gt (some w::ρc)) (λw=>ge (some w::ρc)) st1.length (ws.drop k) st=res
 have loop:∀s4:WT,Pv 0 s4->WZ (model X.prog X.w) X.A (.compLoop (.ListComp elt [⟨.Name x px,iter,ifs,0⟩] scope pos) 0 (.ref it) (.ref D) (compEnvC scope (kh X.env scope.names []) s3.heap.objs.size X.env)) (W0 (model X.prog X.w) X.A X.xe use Q (.ref D) s3.heap.objs.size) s4:=λs4 p0=>by
  refine codeAny_compLoop_tests (λn s'=>∃k,n=ws.length - k/\k<=ws.length/\Pv k s') ?_ ws.length ⟨0,by simp,Nat.zero_le _,p0⟩
  rintro n s5 ⟨k,rfl,hk,z5,H5,uE,m5,I5,Sh,NM,e5,S5,c5,cL⟩
  have Lc:=e3.trans e5
  by_cases hlt:k < ws.length
  ·refine aI (T.item Xc rfl rfl rfl (hY _ _ _ _ _ _ _ _ I3) k [] s5 (z5::σc) H5 _ I5 (PF H5 NM) Sh (hgo k H5 m5 uE Lc S5 c5 hlt)) λr s6 h6=>?_
   obtain⟨u,rfl,h6⟩:=h6
   show W8 (model X.prog X.w) X.A (pure () >>= λ_=>assign (.Name x px) Xc.env u) _ _ s6
   refine W9 (aI h6 λ_ s7 h7=>?_)
   obtain⟨v,H7,I7,rv,yl,PH,Ux⟩:=h7
   obtain⟨rfl,Uy⟩:=hy k hlt H5 v H7 m5 uE Lc S5 c5 yl
   have NZ:=I7.pinned (PF H7 Ux) (T.obj _ _ PH)
   refine wpAny_assign_Name (jx (i:=0) NZ S.nd rfl (.inl vis) rv (λs8 I8=>?_) (.inr vis))
   have Si:Inv Xc ([]++eK fp s7.heap) (some v::σc) H7 s8:=I8
   have R8:aq X.K m5 H7 (some ws[k]::ρc) (some v::σc):=by
    have R5:=R3.mono e5
    refine⟨by simp[R5.len],λi w e=>?_⟩
    cases i with
    | zero=>
     cases e
     exact⟨v,rfl,Uy⟩
    | succ i=>exact R5.get i w e
   have ed:ws.drop k=ws[k]::ws.drop (k+1):=List.drop_eq_getElem_cons hlt
   rw[ed] at cL
   unfold lg at cL
   have back:∀{H':Hp}{s':WT}{m':Mp}{st:Hs},Inv Xc ([]++eK fp s7.heap) (some v::σc) H' s'->Ext X.K m3 H3 m' H'->aK X.K m' st H'->ck st->lg ck (λw=>gt (some w::ρc)) (λw=>ge (some w::ρc)) st1.length (ws.drop (k+1)) st=res->∃n',n' < ws.length - k/\∃k',n'=ws.length - k'/\k'<=ws.length/\Pv k' s' :=
    λ{H' s' m' st} I' e' S' c' r'=>⟨ws.length - (k+1),by omega,k+1,rfl,hlt,some v,H',st,m',I'.jA,T.keep _ _ _ PH λb hb o e=>(I'.pin (b,o) (List.mem_append_right _ (List.mem_append_right _ (gz hb e)))).1,λb hb=>by
     obtain⟨o,e,_⟩:=T.obj _ _ PH b hb
     exact(I'.pin (b,o) (List.mem_append_right _ (List.mem_append_right _ (gz hb e)))).2.1,e',S',c',r'⟩
   cases eg:gt (some ws[k]::ρc) uE with
   | err c Dg=>
    rw[eg] at cL
    refine Xa (hT s3.heap.objs.size s3 H3 (X.pn++pins) EX (hH.at I3) (some ws[k]::ρc) uE (some v::σc) H7 m5 (λ_ _=>False) S5 R8 (by rw[eg];exact noted Lc cL.symm) ([]++eK fp s7.heap) s8 Si) (λ_ _ h9=>?_) λ_ _ z=>z
    obtain⟨_,_,z⟩:=h9
    exact z.elim
   | bad=>rw[eg] at cL;exact absurd cL.symm nb
   | ok b Dg=>
    rw[eg] at cL
    have K':=hT s3.heap.objs.size s3 H3 (X.pn++pins) EX (hH.at I3) (some ws[k]::ρc) uE (some v::σc) H7 m5 (λb' H'=>b'=b/\∃m',Ext X.K m5 H7 m' H'/\aK X.K m' Dg H') S5 R8 (by rw[eg];exact λm' H' e' S'=>⟨rfl,m',e',S'⟩) ([]++eK fp s7.heap) s8 Si
    refine Xa K' (λok s9 h9=>?_) λ_ _ z=>z
    obtain⟨H9,I9,rfl,m9,e9,S9⟩:=h9
    cases ok with
    | false=>
     dsimp only at cL
     by_cases c6:ck Dg
     ·rw[if_pos c6] at cL
      rw[if_neg Bool.false_ne_true]
      exact back I9 (e5.trans e9) S9 c6 cL
     ·rw[if_neg c6] at cL;exact absurd cL.symm nb
    | true=>
     dsimp only at cL
     rw[if_pos rfl]
     cases ee:ge (some ws[k]::ρc) Dg with
     | err c N2=>
      rw[ee] at cL
      refine Xa (hE s3.heap.objs.size s3 H3 (X.pn++pins) EX (hH.at I3) (some ws[k]::ρc) Dg (some v::σc) H9 m9 (λ_ _=>False) S9 (R8.mono e9) (by rw[ee];exact noted (Lc.trans e9) cL.symm) ([]++eK fp s7.heap) s9 I9) (λ_ _ PJ=>?_) λ_ _ z=>z
      obtain⟨_,_,_,_,z⟩:=PJ
      exact z.elim
     | bad=>rw[ee] at cL;exact absurd cL.symm nb
     | ok w N2=>
      rw[ee] at cL
      dsimp only at cL
      cases ea:lG (.ref st1.length) w N2 with
      | err c PL=>rw[ea] at cL;exact absurd cL.symm nb
      | bad=>rw[ea] at cL;exact absurd cL.symm nb
      | ok w2 PL=>
       rw[ea] at cL
       dsimp only at cL
       by_cases c8:ck PL
       ·rw[if_pos c8] at cL
        have el:=hE s3.heap.objs.size s3 H3 (X.pn++pins) EX (hH.at I3) (some ws[k]::ρc) Dg (some v::σc) H9 m9 (λv' H'=>∃m',Ext X.K m9 H9 m' H'/\aK X.K m' N2 H'/\af X.K m' H' w v') S9 (R8.mono e9) (by rw[ee];exact λv' m' H' e' S' r'=>⟨m',e',S',r'⟩) ([]++eK fp s7.heap) s9 I9
        refine Xa el (λu2 Uz PJ=>?_) λ_ _ z=>z
        obtain⟨v2,Ld,UA,r2,PM,UB,UC,PN⟩:=PJ
        obtain⟨r,h1,h2⟩:=A7 (X:=Xc)
        have eA:=(e5.trans e9).trans UB
        have ro:af X.K PM Ld (.ref st1.length) (.ref D):=by unfold af;exact⟨D,rfl,eA.pre _ _ N1⟩
        have rd:=h2 (.ref st1.length) w (.ref D) v2 N2 Ld PM (λ_ H'=>∃m',Ext X.K PM Ld m' H'/\aK X.K m' PL H') UC ro PN (by rw[ea];exact λv' m' H' e' S' r'=>⟨m',e',S'⟩)
        refine Xa (h1 ([]++eK fp s7.heap) Uz (some v::σc) Ld (.ref D) [v2] (.ref D) [u2] _ UA rfl (.cons r2 .nil) rd) (λ_ Wu h11=>?_) λ_ _ z=>z
        obtain⟨_,Sj,UD,_,Ww,UE,UG⟩:=h11
        exact back UD (eA.trans UE) UG c8 cL
       ·rw[if_neg c8] at cL;exact absurd cL.symm nb
  ·have ek:k=ws.length:=by omega
   subst ek
   refine aI (T.done Xc rfl rfl rfl (hY _ _ _ _ _ _ _ _ I3) _ [] s5 (z5::σc) H5 _ I5 (PF H5 NM) Sh (hstop _ H5 m5 uE Lc S5 c5 rfl)) λr s6 h6=>?_
   obtain⟨rfl,I6⟩:=h6
   rw[List.drop_length] at cL
   obtain⟨mm,UH,_⟩:=id I6.loc
   have fC:=I3.rT (H':=H5) (Nat.le_refl _) I6.free
   exact fin uE cL.symm D _ mm m5 H5 _ Lc S5 (e5.pre _ _ N1) (Ba I3 f3 I6) fC UH fC.2.2.2.2.1
 have p0:Pv 0 { s3 with heap:=h4,toks:=s3.toks+([]:List (Str×WU)).length }:=⟨none,H3,st1++[Ob.lst []],m3,hss ▸ Ic EX,t4,λb hb=>(f3 b hb).1,Ext.refl,S3,hck,by rw[List.drop_zero];exact run⟩
 exact codeAny_compStart_list (loop _ p0) (T.self X.A 0 _ _ _ t4 (loop _ p0))
end
end J
namespace J
open PySem PySem.Spec PyProof.Rows L2
abbrev Wk:=Option Nat×List Wv
def jh(w:Wk)(st:Hs):Prop:=match w.1 with
 | some l=>ag st l=some w.2
 | none=>True
structure pM(X:Cx)(w:Wk)(m1:Mp)(H1:Hp)(J':It):Prop where
 go:∀(k:Nat)(H:Hp)(m':Mp)(st:Hs),Ext X.K m1 H1 m' H->aK X.K m' st H->jh w st->k < w.2.length->J'.go k H
 stop:∀(k:Nat)(H:Hp)(m':Mp)(st:Hs),Ext X.K m1 H1 m' H->aK X.K m' st H->jh w st->k=w.2.length->J'.stop k H
 rS:∀(k:Nat)(hk:k < w.2.length)(H:Hp)(v:V)(H':Hp)(m':Mp)(st:Hs),Ext X.K m1 H1 m' H->aK X.K m' st H->jh w st->J'.rS k H v H'->H'=H/\af X.K m' H w.2[k] v
abbrev GI:=aT->Hs->Re Wk
def PQ(Y:Cx->Prop)(X:Cx)(pins:List (WN×Obj))(σ:St)(tg:Expr)(R:It->Hp->Prop)(itv:WU)(s2:WT):Prop :=
 ∃(it:WN)(fp:List WN)(tn:Nat->Heap->Prop)(J:It)(H':Hp),itv= .ref it/\Inv X pins σ H' s2/\wD Y X.prog X.w X.K tg J fp it tn/\tn 0 s2.heap/\(∀b∈fp,dX X pins H' b)/\R J H'
def PR(Y:Cx->Prop)(X:Cx)(tg iter:Expr)(wi:TI):Prop:=∀(pins:List (WN×Obj))(s:WT)(σ:St)(H:Hp)(R:It->Hp->Prop),Inv X pins σ H s->wi σ H R->
 W8 (model X.prog X.w) X.A (eval iter X.env) (λv s1=>W8 (model X.prog X.w) X.A (pyIter v) (PQ Y X pins σ tg R) X.xe s1) X.xe s
theorem _root_.L2.PI.y{X:Cx}{tg iter:Expr}{wi:TI}(h:PI X tg iter wi):PR Calm X tg iter wi:=λpins s σ H R I q=>aI (h pins s σ H R I q) λ_ _ h1=>aI h1 λ_ _ h2=>
 let ⟨it,fp,tn,J,H',e,I',T,r⟩:=h2;⟨it,fp,tn,J,H',e,I',T.y,r⟩
def Le(Y:Cx->Prop)(X:Cx)(tg iter:Expr)(gi:GI):Prop:=∃wi,PR Y X tg iter wi/\∀(ρ:aT)(st:Hs)(σ:St)(H:Hp)(m:Mp)(R:It->Hp->Prop),aK X.K m st H->aq X.K m H ρ σ->
 ao X σ m H (gi ρ st) (λw st1=>∀(m1:Mp)(H1:Hp)(J':It),Ext X.K m H m1 H1->aK X.K m1 st1 H1->jh w st1->pM X w m1 H1 J'->R J' H1)->wi σ H R
def JI(X:Cx)(tg iter:Expr)(gi:GI):Prop:=∃wi,PI X tg iter wi/\∀(ρ:aT)(st:Hs)(σ:St)(H:Hp)(m:Mp)(R:It->Hp->Prop),aK X.K m st H->aq X.K m H ρ σ->
 ao X σ m H (gi ρ st) (λw st1=>∀(m1:Mp)(H1:Hp)(J':It),Ext X.K m H m1 H1->aK X.K m1 st1 H1->jh w st1->pM X w m1 H1 J'->R J' H1)->wi σ H R
theorem JI.y{X:Cx}{tg iter:Expr}{gi:GI}(h:JI X tg iter gi):Le Calm X tg iter gi:=let ⟨wi,h1,h2⟩:=h;⟨wi,h1.y,h2⟩
def IX(w:Wv)(st:Hs):Re Wk:=match w with
 | .ref l=>(match ag st l with | some ws=> .ok (some l,ws) st | none=> .bad)
 | .tup ws=> .ok (none,ws) st
 | .mI ws=> .ok (none,ws) st
 | _=> .bad
def Bc(g:GE):GI:=λρ st=>(g ρ st).bind IX
section
variable {X:Cx}
theorem IY{tg iter:Expr}{g:GE}(h:JE X iter g):JI X tg iter (Bc g):=by
 refine⟨_,AX aB,λρ st σ H m Q S R p=>?_⟩
 refine h.go S R (ao.bind p) λw st1 v m1 H1 p1 e1 S1 rw'=>?_
 cases w with
 | ref l=>
  unfold af at rw'
  obtain⟨a,rfl,hla⟩:=rw'
  unfold IX at p1
  cases el:ag st1 l with
  | none=>simp only[el] at p1;exact False.elim p1
  | some ws=>
   simp only[el] at p1
   obtain⟨Ef,q0,_⟩:=S1.read hla el
   refine⟨a,rfl,.inl ⟨⟨Ef,q0⟩,p1 m1 H1 _ e1 S1 el ⟨λk H' m' st' e S' c hk=>?_,λk H' m' st' e S' c hk=>?_,λk hk H' v rL m' st' e S' c y=>?_⟩⟩⟩
   ·obtain⟨xs,hq,rws⟩:=S'.read (e.pre _ _ hla) c
    have hx':k < xs.length:=by rw[<-rws.length];exact hk
    exact⟨xs,xs[k],hq,by simp[hx']⟩
   ·obtain⟨xs,hq,rws⟩:=S'.read (e.pre _ _ hla) c
    exact⟨xs,hq,by rw[<-rws.length,hk];exact Nat.le_refl _⟩
   ·obtain⟨xs,hq,rws⟩:=S'.read (e.pre _ _ hla) c
    obtain⟨ee,y⟩:=y
    refine⟨ee,?_⟩
    obtain⟨x',ex',j9⟩:=rws.get (i:=k) (w:=ws[k]) (List.getElem?_eq_getElem hk)
    rw[y xs hq] at ex'
    cases ex'
    exact j9
 | tup ws=>
  unfold af at rw'
  obtain⟨a,xs,rfl,hq,rws⟩:=rw'
  refine⟨a,rfl,.inr ⟨⟨xs,dS.of hq⟩,p1 m1 H1 _ e1 S1 trivial ⟨λk H' m' st' e S' c hk=>?_,λk H' m' st' e S' c hk=>?_,λk hk H' v rL m' st' e S' c y=>?_⟩⟩⟩
  ·have hx':k < xs.length:=by rw[<-rws.length];exact hk
   exact⟨xs,xs[k],dS.of (e.tup _ _ hq),by simp[hx']⟩
  ·exact⟨xs,dS.of (e.tup _ _ hq),by rw[<-rws.length,hk];exact Nat.le_refl _⟩
  ·obtain⟨ee,y⟩:=y
   refine⟨ee,?_⟩
   obtain⟨x',ex',j9⟩:=(ah.mono e _ _ rws).get (i:=k) (w:=ws[k]) (List.getElem?_eq_getElem hk)
   rw[y xs (dS.of (e.tup _ _ hq))] at ex'
   cases ex'
   exact j9
 | mI ws=>
  unfold af at rw'
  obtain⟨a,xs,rfl,hq,rws⟩:=rw'
  refine⟨a,rfl,.inr ⟨⟨xs,.inr hq⟩,p1 m1 H1 _ e1 S1 trivial ⟨λk H' m' st' e S' c hk=>?_,λk H' m' st' e S' c hk=>?_,λk hk H' v rL m' st' e S' c y=>?_⟩⟩⟩
  ·have hx':k < xs.length:=by rw[<-rws.length];exact hk
   exact⟨xs,xs[k],.inr hq,by simp[hx']⟩
  ·exact⟨xs,.inr hq,by rw[<-rws.length,hk];exact Nat.le_refl _⟩
  ·obtain⟨ee,y⟩:=y
   refine⟨ee,?_⟩
   obtain⟨x',ex',j9⟩:=(ah.mono e _ _ rws).get (i:=k) (w:=ws[k]) (List.getElem?_eq_getElem hk)
   rw[y xs (.inr hq)] at ex'
   cases ex'
   exact j9
 | _=>exact False.elim p1
theorem Bd{lo:Int}{n:Nat}{m1:Mp}{H1:Hp}:pM X (none,cb lo n) m1 H1 (Dv lo n) where
 go:=λk H m' st e S c hk=>by
  have:(cb lo n).length=n:=fY
  have hk':k < (cb lo n).length:=hk
  rw[this] at hk';exact hk'
 stop:=λk H m' st e S c hk=>by
  have:(cb lo n).length=n:=fY
  have hk':k=(cb lo n).length:=hk
  rw[this] at hk';exact Nat.le_of_eq hk'.symm
 rS:=λk hk H v H' m' st e S c y=>by
  obtain⟨y1,y2⟩:=y
  refine⟨y1,?_⟩
  have q:(cb lo n)[k]'hk= .int (lo+k):=sC hk
  show af X.K m' H ((cb lo n)[k]'hk) v
  rw[q,y2]
  exact mkInt
def sH(ws:List Wv)(st:Hs):Re Wk:=match ws with
 | [.int j]=>if jf j then .ok (none,cb 0 j.toNat) st else .bad
 | _=> .bad
def Gk(ws:List Wv)(st:Hs):Re Wk:=match ws with
 | [.int a,.int j]=>if jf a/\jf j then .ok (none,cb a (j - a).toNat) st else .bad
 | _=> .bad
def Be(g:GA):GI:=λρ st=>(g ρ st).bind sH
def PU(g:GA):GI:=λρ st=>(g ρ st).bind Gk
theorem MN{tg a:Expr}{ga:GA}{p q:Pos}(hg:Gl X "range")(hm:X.mg "range"=none)(ha:JA X [a] ga)(hst:W7 [a] X.env=[(false,eval a X.env)]):JI X tg (.Call (.Name "range" p) [a] [] q) (Be ga):=by
 refine⟨_,pe hg hm i6 hst,λρ st σ H m Q S R p=>?_⟩
 refine ha.go S R (ao.bind p) λws st1 vs m1 H1 p1 e1 S1 rs=>?_
 match ws,rs,p1 with
 | [],rs,p1=>exact False.elim p1
 | x::y::t,rs,p1=>cases x<;>exact False.elim p1
 | [x],rs,p1=>
  obtain⟨v,rfl,r1⟩:=il rs
  cases x with
  | int j=>
   cases aF r1
   unfold sH at p1
   by_cases c:jf j
   ·simp only[if_pos c] at p1
    exact⟨j,rfl,c.1,c.2,p1 m1 H1 _ e1 S1 trivial Bd⟩
   ·simp only[if_neg c] at p1;exact False.elim p1
  | _=>exact False.elim p1
def Bf:GI:=λ_ _=> .bad
theorem Bg{tg iter:Expr}:PI X tg iter (λ_ _ _=>False):=λ_ _ _ _ _ _ h=>h.elim
theorem Bh{tg iter:Expr}:JI X tg iter Bf:=⟨_,Bg,λρ st σ H m Q S R p=>p⟩
def bX(cs:eO)(gt:GT)(ge:GE)(ρ:aT)(w:Wk)(st:Hs):Re Wv:=match jH (jh w) (λv=>gt (some v::jg cs ρ)) (λv=>ge (some v::jg cs ρ)) st.length w.2 (st++[.lst []]) with
 | some wC=> .ok (.ref st.length) wC
 | none=> .bad
def fu(cs:eO)(gi:GI)(gt:GT)(ge:GE):GE:=λρ st=>(gi ρ st).bind λw st1=>bX cs gt ge ρ w st1
theorem yB{st:Hs}{l:Nat}{ws:List Wv}{more:Hs}(h:ag st l=some ws):ag (st++more) l=some ws:=by
 unfold ag at h ⊢
 cases e:st[l]? with
 | none=>rw[e] at h;cases h
 | some o=>
  have hl:=(List.getElem?_eq_some_iff.mp e).1
  rw[List.getElem?_append_left hl,e]
  rw[e] at h
  exact h
theorem ng{w:Wk}{st more:Hs}(h:jh w st):jh w (st++more):=by
 obtain⟨o,ws⟩:=w
 cases o with
 | none=>trivial
 | some l=>exact yB h
theorem wF{scope:Scope}{x:Str}{cs:eO}{px pos:Pos}{elt iter:Expr}{ifs:List Expr}{gi:GI}{gt:GT}{ge:GE}{use:Option (WU->Sem Unit)}{Q:WU->WT->Prop}{P:Wv->Hs->Prop}
  {ρ:aT}{st:Hs}{σ:St}{H:Hp}{m:Mp}{pins:List (WN×Obj)}{s:WT}{ps:Pos}
  {Y:Cx->Prop}(fr:Bb X)(CS:cK X scope x cs)(hc:Lb Y X)(hH:u5 X)(hi:Le Y X (.Name x px) iter gi)(hE:∀C s0 H0 fp pn E,yx X.A H0->JE (dU X scope x cs C s0 H0 fp pn E) elt ge)(hT:∀C s0 H0 fp pn E,yx X.A H0->Gj (dU X scope x cs C s0 H0 fp pn E) ifs gt)(hs:∀x,W3 iter X.env x=pure x)
  (S:aK X.K m st H)(R:aq X.K m H ρ σ)(I:Inv X pins σ H s)(p:ao X σ m H (fu cs gi gt ge ρ st) P)
  (fin:∀(w:Wv)(wC:Hs)(v:V)(D C:WN)(mm:Str->Option WU)(m':Mp)(H':Hp)(s':WT),P w wC->Ext X.K m H m' H'->aK X.K m' wC H'->af X.K m' H' w v->v= .ref D->Inv X pins σ H' s'->dX X pins H' C->s'.heap.Ns C mm->W0 (model X.prog X.w) X.A X.xe use Q (.ref D) C (.ok .next) s') :
  W8 (model X.prog X.w) X.A (comprehension (.ListComp elt [⟨.Name x px,iter,ifs,0⟩] scope pos) scope X.env ps (newList []) false (eval iter X.env) use) Q X.xe s:=by
 obtain⟨wi,PV,hw⟩:=hi
 let R':It->Hp->Prop:=λJ' H1=>∃(w:Wk)(st1:Hs)(m1:Mp),ao X σ m H (bX cs gt ge ρ w st1) P/\Ext X.K m H m1 H1/\aK X.K m1 st1 H1/\jh w st1/\pM X w m1 H1 J'
 have hr:=hw ρ st σ H m R' S R ((ao.bind p).imp Ext.refl λw st1 q m1 H1 J' e1 S1 c1 yC=>⟨w,st1,m1,q,e1,S1,c1,yC⟩)
 refine wpAny_comprehension_free (g:=⟨.Name x px,iter,ifs,0⟩) (gs:=[]) (cl:=kh X.env scope.names []) rfl hs (Em (CS.has I.ok)) CS.kind (λy hy e=>by rw[CS.look y hy,e]) (aI (PV pins s σ H R' I hr) λv s1 h1=>aI h1 λitv s2 h2=>?_)
 obtain⟨it,fp,tn,J',H1,rfl,I2,T,t0,f2,w,st1,m1,q,e1,S1,c1,yC⟩:=h2
 unfold bX at q
 cases run:jH (jh w) (λv=>gt (some v::jg cs ρ)) (λv=>ge (some v::jg cs ρ)) st1.length w.2 (st1++[.lst []]) with
 | none=>
  rw[run] at q
  exact False.elim q
 | some wC=>
  rw[run] at q
  refine u6 (use:=use) (Q:=Q) fr CS hc hH I2 T t0 f2 S1 (R.mono e1) (ng c1) (m_ _ _ run) (by intro z;cases z) (λc' UI z=>by cases z) (λC s0 H0 pn E=>hE C s0 H0 fp pn E) (λC s0 H0 pn E=>hT C s0 H0 fp pn E) yC.go yC.stop yC.rS ?_
  intro UJ z D C mm m' H' s' e' S' N1 I' fC ns _
  cases z
  exact fin _ wC (.ref D) D C mm m' H' s' q (e1.trans e') S' (by unfold af;exact⟨D,rfl,N1⟩) rfl I' fC ns
theorem qG{scope:Scope}{x:Str}{cs:eO}{px pos:Pos}{elt iter:Expr}{ifs:List Expr}{gi:GI}{gt:GT}{ge:GE}
  {Y:Cx->Prop}(fr:Bb X)(CS:cK X scope x cs)(hc:Lb Y X)(hH:u5 X)(hi:Le Y X (.Name x px) iter gi)(hE:∀C s0 H0 fp pn E,yx X.A H0->JE (dU X scope x cs C s0 H0 fp pn E) elt ge)(hT:∀C s0 H0 fp pn E,yx X.A H0->Gj (dU X scope x cs C s0 H0 fp pn E) ifs gt)(hs:∀x,W3 iter X.env x=pure x) :
  JE X (.ListComp elt [⟨.Name x px,iter,ifs,0⟩] scope pos) (fu cs gi gt ge):=λρ st σ H m Q S R p pins s I=>by
 rw[eval_ListComp]
 refine wF (use:=none) fr CS hc hH hi hE hT hs S R I p ?_
 intro w wC v D C mm m' H' s' q e' S' rw' ev I' fC ns
 exact⟨mm,ns,λh' same=>⟨.ref D,H',pL I' fC same,rfl,ev ▸ q v m' H' e' S' rw'⟩⟩
theorem wG(i:Nat){scope:Scope}{x y:Str}{cs:eO}{px pos spos py:Pos}{elt iter:Expr}{ifs:List Expr}{gi:GI}{gt:GT}{ge:GE}(hN:X.N.Nodup)
  {Y:Cx->Prop}(fr:Bb X)(CS:cK X scope x cs)(hc:Lb Y X)(hH:u5 X)(hi:Le Y X (.Name x px) iter gi)(hE:∀C s0 H0 fp pn E,yx X.A H0->JE (dU X scope x cs C s0 H0 fp pn E) elt ge)(hT:∀C s0 H0 fp pn E,yx X.A H0->Gj (dU X scope x cs C s0 H0 fp pn E) ifs gt)(hs:∀x,W3 iter X.env x=pure x)
  (hx:X.N[i]? =some y)(hl:Loc X.env.scope y)(hf:X.fn y=true\/X.env.scope.names.lookup y=some .local) :
  JS X (.Assign [.Name y py] (.ListComp elt [⟨.Name x px,iter,ifs,0⟩] scope pos) spos) (aH i (fu cs gi gt ge)):=by
 have sw:∃b,swapsWith (.ListComp elt [⟨.Name x px,iter,ifs,0⟩] scope pos) (some (.Name y py)) spos.line X.env=pure b:=⟨_,rfl⟩
 obtain⟨b,sw⟩:=sw
 cases b with
 | false=>exact uV i hN (qG fr CS hc hH hi hE hT hs) hx hl sw hf
 | true=>
  intro ρ st σ H m D S R p pins s I
  rw[exec_Assign_Name_used _ _ _ _ sw]
  refine W9 (wpAny_standAt (W9 ?_))
  show W8 _ X.A (do let _ <-comprehension (.ListComp elt [⟨.Name x px,iter,ifs,0⟩] scope pos) scope X.env _ (newList []) false (eval iter X.env) (some (assign (.Name y py) X.env))) _ _ s
  refine W9 (Xa (wF (use:=some (assign (.Name y py) X.env)) (Q:=λ_ s'=>SP X pins D .next s') fr CS hc hH hi hE hT hs S R I (av.bF R p) ?_) (λ_ s' hq=>Xe (Xe hq)) λ_ _ e=>e)
  intro w wC v D' C mm m' H' s' q e' S' rw' ev I' fC ns
  refine wpAny_assign_Name (oZ (i:=i) I' hN hx hl (show RelV v (.ref D') by rw[ev];rfl) (λs2 I2 h2=>?_) hf)
  obtain⟨a,sb,ha⟩:=h2
  have hca:C≠a:=by
   rcases ha with z | z
   ·rw[z];exact fC.2.1
   ·exact Ne.symm (fC.2.2.2.2.1 y a z)
  exact⟨mm,ns.sameBut sb hca,λh' same=>⟨_,_,pL I2 fC same,q _ m' H' e' S' ((R.mono e').set i rw')⟩⟩
end
end J
namespace J
open PySem PySem.Spec PyProof.Rows L2
section
variable {X:Cx}
def IZ(n:Nat)(k:Int):Prop:=-(2 ^ 62)<=k/\k < 2 ^ 62/\n * k.toNat<=lim
instance {n k}:Decidable (IZ n k):=Classical.propDecidable _
def nh:dj
 | .ref l,.int n,st=>match st[l]? with
  | some (.lst ws)=>if IZ ws.length n then .ok (.ref st.length) (st++[.lst (List.replicate n.toNat ws).flatten]) else .bad
  | _=> .bad
 | x,y,st=>Gi x y st
theorem pN{K:PySem.W.Frag}{m:Mp}{H:Hp}{ws:List Wv}{xs:List V}(r:ah K m H ws xs):∀n:Nat,ah K m H (List.replicate n ws).flatten (List.replicate n xs).flatten
 | 0=>ah.nil
 | n+1=>by
  rw[List.replicate_succ,List.flatten_cons,List.replicate_succ,List.flatten_cons]
  exact r.append (pN r n)
theorem Es:fR X (WX .Mult) nh:=by
 obtain⟨r,h1,h2⟩:=Ee (X:=X)
 refine⟨_,cH.or HU h1,λx y a b st H m Q S rx ry p=>?_⟩
 unfold nh at p
 split at p
 ·rename_i l n
  unfold af at rx
  obtain⟨a1,rfl,hl⟩:=rx
  cases aF ry
  cases e:st[l]? with
  | none=>rw[e] at p;exact False.elim p
  | some o=>
   cases o with
   | dct kvs=>rw[e] at p;exact False.elim p
   | cB kvs=>rw[e] at p;exact False.elim p
   | jv kvs=>rw[e] at p;exact False.elim p
   | j6 ns=>rw[e] at p;exact False.elim p
   | lst ws=>
    rw[e] at p
    dsimp only at p
    by_cases c:IZ ws.length n
    ·rw[if_pos c] at p
     obtain⟨xs,q1,q2⟩:=S.mJ hl e
     refine .inl ⟨a1,n,xs,rfl,rfl,q1,by have:=c.1;omega,by have:=c.2.1;omega,by rw[<-q2.length];exact cI c.2.2,λq hq=>?_⟩
     exact ig p Ext.refl S (pN q2 n.toNat) q hq
    ·rw[if_neg c] at p;exact False.elim p
 ·exact .inr (h2 x y a b st H m Q S rx ry p)
end
end J
namespace JL
open PySem PyProof.Rows
def Et:Bool->Xg->Array Xg->Nat->Nat->Nat->StateT Xh Sem (Option Nat):=sortPriv% PySem.Builtin.gallop
def Bi:Array Xg->Array Xg->StateT Xh Sem (Array Xg):=sortPriv% PySem.Builtin.mergeLo
def Bj:Array Xg->Array Xg->StateT Xh Sem (Array Xg):=sortPriv% PySem.Builtin.mergeHi
def Ik(p:Xg):Prop:=∃n t,p.1=Value.int n t
def kn(p:Xg):Int:=numOf p.1
section
variable {prog:WS} {w:WV} {A:WO} {E:WU->WT->Prop} {s:WT}
theorem sI{st:Xh}{x y:Xg}{Q:Option Bool->Xh->Prop}(hk:kindOf st=Xi)(hx:Ik x)(hy:Ik y)(h:Q (some (decide (kn x < kn y))) st):wpS (model prog w) A E s (lt' x y) Q st:=by
 obtain⟨a,t,ea⟩:=hx
 obtain⟨b,u,eb⟩:=hy
 unfold kn at h
 rw[ea,eb] at h
 rw[lt'_eq]
 refine Xj (wpS_get ?_)
 rw[hk,keyLt'_oneType,ea,eb]
 refine Xj (wpS_lift (wpAny_attempt (oneLt_int ⟨rfl,?_⟩)))
 exact Xm h
theorem aO{st:Xh}{a:Array Xg}{i:Nat}{p:Xg}{Q:Xg->Xh->Prop}(hp:a[i]? =some p)(h:Q p st):wpS (model prog w) A E s (elem' a i) Q st:=by
 rw[elem'_eq,hp]
 exact Xm h
def gp(left:Bool)(key:Xg)(arr:Array Xg)(base i:Nat):Bool:=if left then decide (K arr (base+i) < kn key) else !decide (kn key < K arr (base+i))
theorem iM{st:Xh}{left:Bool}{key:Xg}{arr:Array Xg}{base n i:Nat}{Q:Option Bool->Xh->Prop}(hk:kindOf st=Xi)(hkey:Ik key)
  (hb:base+n<=arr.size)(ha:∀p∈arr.toList,Ik p)(hi:i < n)(h:Q (some (gp left key arr base i)) st) :
  wpS (model prog w) A E s (do
   let x <-elem' arr (base+i)
   if left=true then lt' x key else do
    let r <-lt' key x
    pure (r.map (!·))) Q st:=by
 have lt:base+i < arr.size:=by omega
 have e:arr[base+i]? =some arr[base+i]:=Array.getElem?_eq_getElem lt
 have ik:Ik arr[base+i]:=ha _ (by simp)
 have ek:K arr (base+i)=kn arr[base+i]:=by unfold K kn;rw[e]
 unfold gp at h
 rw[ek] at h
 refine Xj (aO e ?_)
 cases left
 ·rw[if_neg (by decide)] at h ⊢
  exact Xj (sI hk hkey ik (Xm h))
 ·rw[if_pos rfl] at h ⊢
  exact sI hk ik hkey h
def wH(left:Bool)(key:Xg)(arr:Array Xg)(base n:Nat)(l0 h0:Nat):StateT Xh Sem (Option Nat):=do
 let mut lo:=l0
 let mut hi:=h0
 for _ in [0:n] do
  if lo >= hi then break
  let some b <-(do
   let x <-elem' arr (base+(lo+(hi - lo) / 2))
   if left=true then lt' x key else do
    let r <-lt' key x
    pure (r.map (!·)):StateT Xh Sem (Option Bool)) | return none
  if b then lo:=lo+(hi - lo) / 2+1 else hi:=lo+(hi - lo) / 2
 return some hi
theorem sJ{st:Xh}{left:Bool}{key:Xg}{arr:Array Xg}{base n l0 h0:Nat}{Q:Option Nat->Xh->Prop}(hk:kindOf st=Xi)(hkey:Ik key)
  (hb:base+n<=arr.size)(ha:∀p∈arr.toList,Ik p)(dn:∀i j,i<=j->j < n->gp left key arr base j=true->gp left key arr base i=true)(l1:l0<=h0)(h1:h0<=n)
  (hl:∀i,i < l0->gp left key arr base i=true)(hh:∀i,h0<=i->i < n->gp left key arr base i=false)
  (h:∀k,k<=n->(∀i,i < k->gp left key arr base i=true)->(∀i,k<=i->i < n->gp left key arr base i=false)->Q (some k) st):wpS (model prog w) A E s (wH left key arr base n l0 h0) Q st:=by
 unfold wH
 refine Xj (Xl (Xk (I:=λx c st'=>st'=st/\∃l r,c=(none,l,r)/\l<=r/\r<=n/\r - l<=n - x/\(∀i,i < l->gp left key arr base i=true)/\(∀i,r<=i->i < n->gp left key arr base i=false))
  (Q:=λc st'=>st'=st/\∃r,c=(none,r,r)/\r<=n/\(∀i,i < r->gp left key arr base i=true)/\(∀i,r<=i->i < n->gp left key arr base i=false)) ?a ?b ?c) ?d)
 case c=>exact⟨rfl,l0,h0,rfl,l1,h1,by omega,hl,hh⟩
 case b=>
  rintro c st' ⟨rfl,l,r,rfl,g1,g2,g3,g4,g5⟩
  have:l=r:=by omega
  subst this
  exact⟨rfl,l,rfl,g2,g4,g5⟩
 case d=>
  rintro c st' ⟨rfl,r,rfl,g2,g4,g5⟩
  exact Xm (h r g2 g4 g5)
 case a=>
  rintro x c st' _ hx ⟨rfl,l,r,rfl,g1,g2,g3,g4,g5⟩
  dsimp only
  by_cases c:l >= r
  ·rw[if_pos c]
   have:l=r:=by omega
   subst this
   exact Xm ⟨rfl,l,rfl,g2,g4,g5⟩
  ·rw[if_neg c]
   refine Xj (iM hk hkey hb ha (by omega) ?_)
   cases q:gp left key arr base (l+(r - l) / 2)
   ·refine Xm ⟨rfl,l,l+(r - l) / 2,rfl,by omega,by omega,by omega,g4,λi i1 i2=>?_⟩
    cases q':gp left key arr base i
    ·rfl
    ·rw[dn _ _ i1 i2 q'] at q;cases q
   ·exact Xm ⟨rfl,l+(r - l) / 2+1,r,rfl,by omega,by omega,by omega,λi i1=>dn _ _ (by omega) (by omega) q,g5⟩
theorem eF{st:Xh}{left:Bool}{key:Xg}{arr:Array Xg}{base n hint:Nat}{Q:Option Nat->Xh->Prop}(hk:kindOf st=Xi)(hkey:Ik key)
  (hb:base+n<=arr.size)(ha:∀p∈arr.toList,Ik p)(hh:hint < n)(mono:∀i j,i<=j->j < n->K arr (base+i)<=K arr (base+j))
  (h:∀k,k<=n->(∀i,i < k->gp left key arr base i=true)->(∀i,k<=i->i < n->gp left key arr base i=false)->Q (some k) st):wpS (model prog w) A E s (Et left key arr base n hint) Q st:=by
 have dn:∀i j,i<=j->j < n->gp left key arr base j=true->gp left key arr base i=true:=λi j h1 h2 h3=>by
  have:=mono i j h1 h2
  unfold gp at h3 ⊢
  cases left
  ·simp at h3 ⊢;omega
  ·simp at h3 ⊢;omega
 have up:∀i j,i<=j->j < n->gp left key arr base i=false->gp left key arr base j=false:=λi j h1 h2 h3=>by
  cases q:gp left key arr base j
  ·rfl
  ·rw[dn i j h1 h2 q] at h3;cases h3
 refine Xj (iM hk hkey hb ha hh ?_)
 cases q:gp left key arr base hint
 ·refine Xj (Xl (Xk (I:=λx c st'=>st'=st/\∃l o,c=(none,l,o)/\l < o/\l<=hint/\x+1<=o/\gp left key arr base (hint - l)=false)
   (Q:=λc st'=>st'=st/\∃l o,c=(none,l,o)/\l < o/\l<=hint/\gp left key arr base (hint - l)=false/\(hint+1<=o\/gp left key arr base (hint - o)=true)) ?a ?b ?c) ?d)
  case c=>exact⟨rfl,0,1,rfl,by omega,by omega,by omega,q⟩
  case b=>
   rintro c st' ⟨rfl,l,o,rfl,g1,g2,g3,g4⟩
   exact⟨rfl,l,o,rfl,g1,g2,g4,.inl (by omega)⟩
  case d=>
   rintro c st' ⟨rfl,l,o,rfl,g1,g2,g4,g5⟩
   refine(sJ (base:=base) (l0:=hint+1 - min o (hint+1)) (h0:=hint - l) hk hkey hb ha dn (by omega) (by omega) (λi hi=>?_) (λi i1 i2=>up _ _ i1 i2 g4) h:wpS _ _ _ _ (wH left key arr base n _ _) Q _)
   rcases g5 with g5 | g5
   ·omega
   ·exact dn _ _ (by omega) (by omega) g5
  case a=>
   rintro x c st' _ hx ⟨rfl,l,o,rfl,g1,g2,g3,g4⟩
   dsimp only
   by_cases c:o >= hint+1
   ·rw[if_pos c]
    exact Xm ⟨rfl,l,o,rfl,g1,g2,g4,.inl c⟩
   ·rw[if_neg c]
    refine Xj (iM hk hkey hb ha (by omega) ?_)
    cases q':gp left key arr base (hint - o)
    ·exact Xm ⟨rfl,o,2 * o+1,rfl,by omega,by omega,by omega,q'⟩
    ·exact Xm ⟨rfl,l,o,rfl,g1,g2,g4,.inr q'⟩
 ·refine Xj (Xl (Xk (I:=λx c st'=>st'=st/\∃l o,c=(none,l,o)/\l < o/\hint+l < n/\x+1<=o/\gp left key arr base (hint+l)=true)
   (Q:=λc st'=>st'=st/\∃l o,c=(none,l,o)/\l < o/\hint+l < n/\gp left key arr base (hint+l)=true/\(n - hint<=o\/(hint+o < n/\gp left key arr base (hint+o)=false))) ?a ?b ?c) ?d)
  case c=>exact⟨rfl,0,1,rfl,by omega,by omega,by omega,q⟩
  case b=>
   rintro c st' ⟨rfl,l,o,rfl,g1,g2,g3,g4⟩
   exact⟨rfl,l,o,rfl,g1,g2,g4,.inl (by omega)⟩
  case d=>
   rintro c st' ⟨rfl,l,o,rfl,g1,g2,g4,g5⟩
   refine(sJ (base:=base) (l0:=hint+l+1) (h0:=hint+min o (n - hint)) hk hkey hb ha dn (by omega) (by omega) (λi hi=>dn _ _ (by omega) g2 g4) (λi i1 i2=>?_) h:wpS _ _ _ _ (wH left key arr base n _ _) Q _)
   rcases g5 with g5 | g5
   ·omega
   ·exact up _ _ (by omega) i2 g5.2
  case a=>
   rintro x c st' _ hx ⟨rfl,l,o,rfl,g1,g2,g3,g4⟩
   dsimp only
   by_cases c:o >= n - hint
   ·rw[if_pos c]
    exact Xm ⟨rfl,l,o,rfl,g1,g2,g4,.inl c⟩
   ·rw[if_neg c]
    refine Xj (iM hk hkey hb ha (by omega) ?_)
    cases q':gp left key arr base (hint+o)
    ·exact Xm ⟨rfl,l,o,rfl,g1,g2,g4,.inr ⟨by omega,q'⟩⟩
    ·exact Xm ⟨rfl,o,2 * o+1,rfl,by omega,by omega,by omega,q'⟩
end
section
variable {α:Type} {f:α->Int} {A B:List α}
structure Mg(f:α->Int)(A B out:List α)(ia ib:Nat):Prop where
 pm:out.Perm (A.take ia++B.take ib)
 so:out.Pairwise (f · <=f ·)
 la:∀p∈out,∀q∈A.drop ia,f p<=f q
 lb:∀p∈out,∀q∈B.drop ib,f p<=f q
theorem Mg.swap{out:List α}{ia ib:Nat}(h:Mg f A B out ia ib):Mg f B A out ib ia:=⟨h.pm.trans List.perm_append_comm,h.so,h.lb,h.la⟩
theorem Mg.qH{out:List α}{ia ib:Nat}(h:Mg f A B out ia ib)(sa:A.Pairwise (f · <=f ·))(k:Nat)(hk:∀p∈(A.drop ia).take k,∀q∈B.drop ib,f p<=f q):Mg f A B (out++(A.drop ia).take k) (ia+k) ib:=by
 have sd:((A.drop ia).take k++(A.drop ia).drop k).Pairwise (f · <=f ·):=by rw[List.take_append_drop];exact sa.sublist (List.drop_sublist _ _)
 rw[List.pairwise_append] at sd
 have e:A.take (ia+k)=A.take ia++(A.drop ia).take k:=List.take_add
 have mT:∀p∈(A.drop ia).take k,p∈A.drop ia:=λp hp=>(List.take_sublist _ _).mem hp
 have mD:∀p∈(A.drop ia).drop k,p∈A.drop ia:=λp hp=>(List.drop_sublist _ _).mem hp
 refine⟨?_,?_,?_,?_⟩
 ·rw[e]
  refine(h.pm.append_right _).trans ?_
  rw[List.append_assoc,List.append_assoc]
  exact List.perm_append_comm.append_left _
 ·rw[List.pairwise_append]
  exact⟨h.so,sd.1,λp hp q hq=>h.la p hp q (mT q hq)⟩
 ·intro p hp q hq
  rw[<-List.drop_drop] at hq
  rcases List.mem_append.mp hp with z | z
  ·exact h.la p z q (mD q hq)
  ·exact sd.2.2 p z q hq
 ·intro p hp q hq
  rcases List.mem_append.mp hp with z | z
  ·exact h.lb p z q hq
  ·exact hk p z q hq
theorem Mg.Bk{out:List α}{ia ib:Nat}(h:Mg f A B out ia ib)(sb:B.Pairwise (f · <=f ·))(k:Nat)(hk:∀q∈(B.drop ib).take k,∀p∈A.drop ia,f q<=f p):Mg f A B (out++(B.drop ib).take k) ia (ib+k) :=
 (h.swap.qH sb k hk).swap
theorem Mg.pO{out:List α}{ia ib:Nat}{p:α}(h:Mg f A B out ia ib)(sa:A.Pairwise (f · <=f ·))(e:A[ia]? =some p)(hk:∀q∈B.drop ib,f p<=f q):Mg f A B (out++[p]) (ia+1) ib:=by
 have t1:(A.drop ia).take 1=[p]:=by
  have:=(List.getElem?_eq_some_iff.mp e)
  obtain⟨lt,rfl⟩:=this
  rw[List.drop_eq_getElem_cons lt]
  rfl
 have:=h.qH sa 1 (by rw[t1];intro q hq;rw[List.mem_singleton.mp hq];exact hk)
 rw[t1] at this
 exact this
theorem Mg.sL{out:List α}{ia ib:Nat}{p:α}(h:Mg f A B out ia ib)(sb:B.Pairwise (f · <=f ·))(e:B[ib]? =some p)(hk:∀q∈A.drop ia,f p<=f q):Mg f A B (out++[p]) ia (ib+1) :=
 (h.swap.pO sb e hk).swap
theorem Mg.fin{out:List α}{ia ib:Nat}(h:Mg f A B out ia ib)(sa:A.Pairwise (f · <=f ·))(sb:B.Pairwise (f · <=f ·))(hk:∀p∈A.drop ia,∀q∈B.drop ib,f p<=f q):(out++A.drop ia++B.drop ib).Perm (A++B)/\(out++A.drop ia++B.drop ib).Pairwise (f · <=f ·):=by
 have tA:(A.drop ia).take A.length=A.drop ia:=List.take_of_length_le (by rw[List.length_drop];omega)
 have tB:(B.drop ib).take B.length=B.drop ib:=List.take_of_length_le (by rw[List.length_drop];omega)
 have h1:=h.qH sa A.length (by rw[tA];exact hk)
 have nA:A.drop (ia+A.length)=[]:=List.drop_of_length_le (by omega)
 have h2:=h1.Bk sb B.length (by rw[nA];intro _ _ _ z;cases z)
 rw[tA,tB] at h2
 have k1:A.take (ia+A.length)=A:=List.take_of_length_le (by omega)
 have k2:B.take (ib+B.length)=B:=List.take_of_length_le (by omega)
 have pm:=h2.pm
 rw[k1,k2] at pm
 exact⟨pm,h2.so⟩
theorem Mg.I0{out:List α}{ia ib:Nat}(h:Mg f A B out ia ib)(sa:A.Pairwise (f · <=f ·))(sb:B.Pairwise (f · <=f ·))(hk:∀q∈B.drop ib,∀p∈A.drop ia,f q<=f p):(out++B.drop ib++A.drop ia).Perm (A++B)/\(out++B.drop ib++A.drop ia).Pairwise (f · <=f ·):=by
 obtain⟨h1,h2⟩:=h.swap.fin sb sa hk
 exact⟨h1.trans List.perm_append_comm,h2⟩
end
abbrev lW(st:Xh)(g:Nat):Xh:=SortSt.mk' (kindOf st) (arrOf st) (pendingOf st) g (failedOf st)
def Up(l:List Xg):Prop:=l.Pairwise (kn · <=kn ·)
def Fin'(a b:List Xg)(r:Array Xg):Prop:=r.toList.Perm (a++b)/\Up r.toList
theorem a7{a:Array Xg}{i:Nat}{p:Xg}(e:a[i]? =some p):K a i=kn p:=by unfold K;rw[e];rfl
theorem at_of{a:Array Xg}{i:Nat}(h:i < a.size):∃p,a[i]? =some p/\a.toList[i]? =some p/\p∈a.toList:=⟨a[i],Array.getElem?_eq_getElem h,by simp[h],by simp⟩
theorem bS{a:Array Xg}{i:Nat}{p:Xg}(h:p∈a.toList.drop i):∃j,i<=j/\j < a.size/\a[j]? =some p:=by
 obtain⟨j,e⟩:=List.getElem?_of_mem h
 rw[List.getElem?_drop] at e
 have lt:=(List.getElem?_eq_some_iff.mp e).1
 exact⟨i+j,by omega,by simpa using lt,by rw[<-Array.getElem?_toList];exact e⟩
theorem qI{a:Array Xg}{i k:Nat}{p:Xg}(h:p∈(a.toList.drop i).take k):∃j,j < k/\i+j < a.size/\a[i+j]? =some p:=by
 obtain⟨j,e⟩:=List.getElem?_of_mem h
 have lk:j < k:=by
  have:=(List.getElem?_eq_some_iff.mp e).1
  rw[List.length_take] at this
  omega
 rw[List.getElem?_take_of_lt lk,List.getElem?_drop] at e
 have lt:=(List.getElem?_eq_some_iff.mp e).1
 exact⟨j,lk,by simpa using lt,by rw[<-Array.getElem?_toList];exact e⟩
theorem kj{a:Array Xg}(h:Up a.toList){i j:Nat}(hij:i<=j)(hj:j < a.size):K a i<=K a j:=by
 obtain⟨p,e1,e2,_⟩:=at_of (Nat.lt_of_le_of_lt hij hj)
 obtain⟨q,e3,e4,_⟩:=at_of hj
 rw[a7 e1,a7 e3]
 by_cases c:i=j
 ·subst c
  rw[e1] at e3
  cases e3
  exact Int.le_refl _
 ·have l1:=List.getElem?_eq_some_iff.mp e2
  have l2:=List.getElem?_eq_some_iff.mp e4
  obtain⟨x1,rfl⟩:=l1
  obtain⟨x2,rfl⟩:=l2
  exact List.pairwise_iff_getElem.mp h i j x1 x2 (by omega)
theorem lX{a:Array Xg}(i:Nat):(a.extract i a.size).toList=a.toList.drop i:=by
 rw[Array.toList_extract,List.extract_eq_take_drop]
 exact List.take_of_length_le (by rw[List.length_drop];simp)
theorem wI{a:Array Xg}(i k:Nat):(a.extract i (i+k)).toList=(a.toList.drop i).take k:=by
 rw[Array.toList_extract,List.extract_eq_take_drop,Nat.add_sub_cancel_left]
section
variable {prog:WS} {w:WV} {A:WO} {E:WU->WT->Prop} {s:WT}
structure Lo(a b out:Array Xg)(ia ib:Nat):Prop where
 mg:Mg kn a.toList b.toList out.toList ia ib
 ha:ia+1 < a.size
 hb:ib < b.size
structure PX(a b:Array Xg):Prop where
 ka:∀p∈a.toList,Ik p
 kb:∀p∈b.toList,Ik p
 sa:Up a.toList
 sb:Up b.toList
 last:∀j,j < b.size->K b j<=K a (a.size - 1)
theorem jI{a b out:Array Xg}{ia ib:Nat}(H:PX a b)(m:Mg kn a.toList b.toList out.toList ia ib)(h:∀p∈a.toList.drop ia,∀q∈b.toList.drop ib,kn p<=kn q):Fin' a.toList b.toList (out++a.extract ia a.size++b.extract ib b.size):=by
 unfold Fin' Up
 rw[Array.toList_append,Array.toList_append,lX,lX]
 exact m.fin H.sa H.sb h
theorem lY{a b out:Array Xg}{ia ib:Nat}(H:PX a b)(m:Mg kn a.toList b.toList out.toList ia ib)(h:ia+1=a.size):Fin' a.toList b.toList (out++b.extract ib b.size++a.extract ia a.size):=by
 unfold Fin' Up
 rw[Array.toList_append,Array.toList_append,lX,lX]
 refine m.I0 H.sa H.sb λq hq p hp=>?_
 obtain⟨j,j1,j2,j3⟩:=bS hp
 obtain⟨l,l1,l2,l3⟩:=bS hq
 have:j=a.size - 1:=by omega
 rw[<-a7 j3,<-a7 l3,this]
 exact H.last l l2
theorem jJ{b:Array Xg}{ib:Nat}(h:ib=b.size):∀q:Xg,q∉b.toList.drop ib:=λq hq=>by
 obtain⟨l,l1,l2,l3⟩:=bS hq
 omega
abbrev UK:=Option (Array Xg)×Array Xg×Nat×Nat×Nat×Nat×Nat
def Bl(a b:Array Xg)(st:Xh)(n:Nat)(r:ForInStep UK)(st':Xh):Prop :=
 (∃g,st'=lW st g)/\match r with
 | .done c=>(∃r t,c=(some r,t)/\Fin' a.toList b.toList r)\/∃out ia ib mg ac bc,c=(none,out,ia,ib,mg,ac,bc)/\n<=ia+ib/\Lo a b out ia ib
 | .yield c=>∃out ia ib mg ac bc,c=(none,out,ia,ib,mg,ac,bc)/\n<=ia+ib/\Lo a b out ia ib
theorem Bl.fin{a b:Array Xg}{st:Xh}{n g:Nat}{r:Array Xg}{t:Array Xg×Nat×Nat×Nat×Nat×Nat}(h:Fin' a.toList b.toList r):Bl a b st n (.done (some r,t)) (lW st g):=⟨⟨g,rfl⟩,.inl ⟨r,t,rfl,h⟩⟩
theorem u7{st:Xh}{a b:Array Xg}{Q:Array Xg->Xh->Prop}(H:PX a b)(na:1<=a.size)(nb:1<=b.size)(hk:kindOf st=Xi)(first:∀i,i < a.size->K b 0<=K a i)
  (h:∀r g,Fin' a.toList b.toList r->Q r (lW st g)):wpS (model prog w) A E s (Bi a b) Q st:=by
 refine Xj (wpS_lift (wpAny_rule ⟨rfl,?_⟩))
 obtain⟨b0,N3,PY,Wx⟩:=at_of (a:=b) (i:=0) (by omega)
 refine Xj (aO N3 ?_)
 dsimp -zeta only
 extract_lets out ia ib
 have m0:Mg kn a.toList b.toList out.toList 0 1:=by
  have z:Mg kn a.toList b.toList ([]:List Xg) 0 0:=⟨by simp,.nil,(λ_ z=>by cases z),(λ_ z=>by cases z)⟩
  refine z.sL H.sb PY λq hq=>?_
  obtain⟨l,l1,l2,l3⟩:=bS hq
  rw[<-a7 N3,<-a7 l3]
  exact first l l2
 clear_value out
 subst ia ib
 by_cases c1:1=b.size
 ·rw[if_pos (by rw[<-c1];rfl)]
  exact Xm (h _ _ (jI H m0 λ_ _ q hq=>(jJ c1 q hq).elim))
 rw[if_neg (by simpa using c1)]
 by_cases c2:0+1=a.size
 ·rw[if_pos (by rw[<-c2];rfl)]
  exact Xm (h _ _ (lY H m0 c2))
 rw[if_neg (by simpa using c2)]
 refine Xj (wpS_get ?_)
 refine Xj (Xl (Xk (I:=λx c st'=>(∃g,st'=lW st g)/\∃out ia ib mg,c=(none,out,ia,ib,mg)/\x+1<=ia+ib/\Lo a b out ia ib)
  (Q:=λc st'=>(∃g,st'=lW st g)/\∃r t,c=(some r,t)/\Fin' a.toList b.toList r) ?a ?b ?c) ?d)
 case c=>exact⟨⟨_,rfl⟩,out,0,1,_,rfl,by omega,m0,by omega,by omega⟩
 case d=>
  rintro c st' ⟨⟨g,rfl⟩,r,t,rfl,hf⟩
  exact Xm (h _ _ hf)
 case b=>
  rintro c st' ⟨_,out,ia,ib,mg,_,h1,h2,h3,h4⟩
  omega
 case a=>
  rintro x c st' _ hx ⟨⟨g,rfl⟩,out,PZ,P0,mg,rfl,h1,L0⟩
  dsimp -zeta only
  refine Xj (Xl (Xk (I:=λx c st'=>st'=lW st g/\∃out ia ib ac bc,c=(none,out,ia,ib,ac,bc)/\PZ+P0+x<=ia+ib/\Lo a b out ia ib)
   (Q:=λc st'=>st'=lW st g/\((∃r t,c=(some r,t)/\Fin' a.toList b.toList r)\/∃out ia ib ac bc,c=(none,out,ia,ib,ac,bc)/\PZ+P0+1<=ia+ib/\Lo a b out ia ib)) ?e ?f ?g) ?i)
  case g=>exact⟨rfl,out,PZ,P0,0,0,rfl,by omega,L0⟩
  case f=>
   rintro c st' ⟨rfl,out,ia,ib,ac,bc,rfl,h1,L⟩
   have:=L.ha
   have:=L.hb
   exact⟨rfl,.inr ⟨out,ia,ib,ac,bc,rfl,by omega,L⟩⟩
  case e=>
   rintro x c st' _ hx ⟨rfl,out,ia,ib,ac,bc,rfl,h1,L⟩
   dsimp only
   obtain⟨p,ep,rP,mp⟩:=at_of (a:=a) (i:=ia) (by have:=L.ha;omega)
   obtain⟨q,eq,eq',mq⟩:=at_of (a:=b) (i:=ib) L.hb
   refine Xj (aO eq (Xj (aO ep (Xj (sI (x:=q) (y:=p) hk (H.kb _ mq) (H.ka _ mp) ?_)))))
   by_cases lt:kn q < kn p
   ·rw[decide_eq_true lt]
    dsimp only
    rw[if_pos rfl]
    refine Xj (aO eq ?_)
    have m':Mg kn a.toList b.toList (out.push q).toList ia (ib+1):=by
     rw[Array.toList_push]
     refine L.mg.sL H.sb eq' λy hy=>?_
     obtain⟨l,l1,l2,l3⟩:=bS hy
     have:=kj H.sa l1 l2
     rw[a7 ep,a7 l3] at this
     omega
    by_cases c3:ib+1=b.size
    ·rw[if_pos (by rw[<-c3];simp)]
     exact Xm ⟨rfl,.inl ⟨_,_,rfl,jI H m' λ_ _ y hy=>(jJ c3 y hy).elim⟩⟩
    ·rw[if_neg (by simpa using c3)]
     have L':Lo a b (out.push q) ia (ib+1):=⟨m',L.ha,by have:=L.hb;omega⟩
     by_cases c4:bc+1 >= mg
     ·rw[if_pos c4]
      exact Xm ⟨rfl,.inr ⟨_,_,_,_,_,rfl,by omega,L'⟩⟩
     ·rw[if_neg c4]
      exact Xm ⟨rfl,_,_,_,_,_,rfl,by omega,L'⟩
   ·rw[decide_eq_false lt]
    dsimp only
    rw[if_neg (by decide)]
    refine Xj (aO ep ?_)
    have m':Mg kn a.toList b.toList (out.push p).toList (ia+1) ib:=by
     rw[Array.toList_push]
     refine L.mg.pO H.sa rP λy hy=>?_
     obtain⟨l,l1,l2,l3⟩:=bS hy
     have:=kj H.sb l1 l2
     rw[a7 eq,a7 l3] at this
     omega
    by_cases c3:ia+1+1=a.size
    ·rw[if_pos (by rw[<-c3];simp)]
     exact Xm ⟨rfl,.inl ⟨_,_,rfl,lY H m' c3⟩⟩
    ·rw[if_neg (by simpa using c3)]
     have L':Lo a b (out.push p) (ia+1) ib:=⟨m',by have:=L.ha;omega,L.hb⟩
     by_cases c4:ac+1 >= mg
     ·rw[if_pos c4]
      exact Xm ⟨rfl,.inr ⟨_,_,_,_,_,rfl,by omega,L'⟩⟩
     ·rw[if_neg c4]
      exact Xm ⟨rfl,_,_,_,_,_,rfl,by omega,L'⟩
  case i=>
   rintro c st' ⟨rfl,⟨r,⟨o,i1,i2,i3,i4⟩,rfl,hf⟩ | ⟨out,u9,u_,ac,bc,rfl,h2,L0⟩⟩
   ·exact Xm ⟨⟨g,rfl⟩,r,_,rfl,hf⟩
   dsimp -zeta only
   refine Xj (wpS_lift (wpAny_rule ⟨rfl,?_⟩))
   refine Xj (Xl (Xk (I:=λx c st'=>(∃g,st'=lW st g)/\∃out ia ib mg ac bc,c=(none,out,ia,ib,mg,ac,bc)/\u9+u_<=ia+ib/\Lo a b out ia ib)
    (Q:=λc st'=>(∃g,st'=lW st g)/\((∃r t,c=(some r,t)/\Fin' a.toList b.toList r)\/∃out ia ib mg ac bc,c=(none,out,ia,ib,mg,ac,bc)/\u9+u_<=ia+ib/\Lo a b out ia ib)) ?j ?k ?l) ?m)
   case l=>exact⟨⟨_,rfl⟩,out,u9,u_,_,ac,bc,rfl,by omega,L0⟩
   case k=>
    rintro c st' ⟨hg,out,ia,ib,mg,ac,bc,rfl,h1,L⟩
    exact⟨hg,.inr ⟨out,ia,ib,mg,ac,bc,rfl,by omega,L⟩⟩
   case m=>
    rintro c st' ⟨⟨g,rfl⟩,⟨r,⟨o,i1,i2,i3,i4,i5⟩,rfl,hf⟩ | ⟨out,ia,ib,mg,ac,bc,rfl,h3,L⟩⟩
    ·exact Xm ⟨⟨g,rfl⟩,r,_,rfl,hf⟩
    ·dsimp only
     exact Xj (wpS_modify (Xm ⟨⟨_,rfl⟩,_,_,_,_,rfl,by omega,L⟩))
   case j=>
    rintro x c st' _ hx ⟨⟨g,rfl⟩,out,ia,ib,mg,ac,bc,rfl,h1,L⟩
    refine Xl (Q:=Bl a b st (u9+u_)) ?_ λr st' h=>by cases r<;>exact h
    have Wy:=L.ha
    have hib:=L.hb
    obtain⟨q,eq,eq',mq⟩:=at_of (a:=b) (i:=ib) hib
    dsimp -zeta only
    extract_lets z1 z2 z3 z4 z5 z6 z7 z8 z9 I_ Ja Jb jp P1
    subst P1 Jb Ja I_ z9 z8 z7 z6 z5 z4 z3 z2 z1
    have key:∀m g,wpS (model prog w) A E s (jp () m) (Bl a b st (u9+u_)) (lW st g):=by
     intro m g
     dsimp -zeta only[jp]
     refine Xj (wpS_modify ?_)
     refine Xj (aO eq ?_)
     refine Xj (eF hk (H.kb _ mq) (by omega) H.ka (by omega) (λi j h1 h2=>kj H.sa (by omega) (by omega)) λk k1 k2 k3=>?_)
     dsimp -zeta only
     clear jp
     extract_lets ac' jp o1 o2
     subst o2 o1 ac'
     have key:∀out' yD,ia+ib<=yD+ib->Mg kn a.toList b.toList out'.toList yD ib->yD+1 < a.size->(∀p∈a.toList.drop yD,kn q<=kn p)->wpS (model prog w) A E s (jp () out' yD) (Bl a b st (u9+u_)) (lW st m):=by
      intro out' yD hs m1 UL hq
      dsimp -zeta only[jp]
      refine Xj (aO eq ?_)
      have m2:Mg kn a.toList b.toList (out'.push q).toList yD (ib+1):=by
       rw[Array.toList_push]
       exact m1.sL H.sb eq' hq
      by_cases c3:ib+1=b.size
      ·rw[if_pos (by rw[<-c3];simp)]
       exact Xm (Bl.fin (jI H m2 λ_ _ y hy=>(jJ c3 y hy).elim))
      rw[if_neg (by simpa using c3)]
      obtain⟨p,ep,rP,mp⟩:=at_of (a:=a) (i:=yD) (by omega)
      refine Xj (aO ep ?_)
      refine Xj (eF hk (H.ka _ mp) (by omega) H.kb (by omega) (λi j h1 h2=>kj H.sb (by omega) (by omega)) λk k1 k2 k3=>?_)
      dsimp -zeta only
      clear jp
      extract_lets P2 UM jp o1 o2
      subst o2 o1 UM P2
      have key:∀ni Gm,ib+1<=Gm->Mg kn a.toList b.toList ni.toList yD Gm->Gm < b.size->(∀y∈b.toList.drop Gm,kn p<=kn y)->wpS (model prog w) A E s (jp () ni Gm) (Bl a b st (u9+u_)) (lW st m):=by
       intro ni Gm hs' m3 P4 hp
       dsimp -zeta only[jp]
       refine Xj (aO ep ?_)
       have m4:Mg kn a.toList b.toList (ni.push p).toList (yD+1) Gm:=by
        rw[Array.toList_push]
        exact m3.pO H.sa rP hp
       by_cases c4:yD+1+1=a.size
       ·rw[if_pos (by rw[<-c4];simp)]
        exact Xm (Bl.fin (lY H m4 c4))
       rw[if_neg (by simpa using c4)]
       have L':Lo a b (ni.push p) (yD+1) Gm:=⟨m4,by omega,P4⟩
       split
       ·exact Xm ⟨⟨m,rfl⟩,.inr ⟨_,_,_,_,_,_,rfl,by omega,L'⟩⟩
       ·exact Xm ⟨⟨m,rfl⟩,_,_,_,_,_,_,rfl,by omega,L'⟩
      by_cases c5:k > 0
      ·rw[if_pos c5]
       have m3:Mg kn a.toList b.toList (out'.push q++b.extract (ib+1) (ib+1+k)).toList yD (ib+1+k):=by
        rw[Array.toList_append,wI]
        refine m2.Bk H.sb k λy hy x hx=>?_
        obtain⟨j,j1,j2,j3⟩:=qI hy
        obtain⟨l,l1,l2,l3⟩:=bS hx
        have g1:=k2 j j1
        have g2:=kj H.sa l1 l2
        rw[a7 ep,a7 l3] at g2
        unfold gp at g1
        rw[if_pos rfl,a7 j3] at g1
        have:=of_decide_eq_true g1
        omega
       by_cases c6:ib+1+k=b.size
       ·rw[if_pos (by rw[<-c6];simp)]
        exact Xm (Bl.fin (jI H m3 λ_ _ y hy=>(jJ c6 y hy).elim))
       ·rw[if_neg (by simpa using c6)]
        refine key _ _ (by omega) m3 (by omega) λy hy=>?_
        obtain⟨l,l1,l2,l3⟩:=bS hy
        have g1:=k3 (l - (ib+1)) (by omega) (by omega)
        unfold gp at g1
        rw[if_pos rfl,show ib+1+(l - (ib+1))=l by omega,a7 l3] at g1
        have:=of_decide_eq_false g1
        omega
      ·rw[if_neg c5]
       refine key _ _ (by omega) m2 (by omega) λy hy=>?_
       obtain⟨l,l1,l2,l3⟩:=bS hy
       have g1:=k3 (l - (ib+1)) (by omega) (by omega)
       unfold gp at g1
       rw[if_pos rfl,show ib+1+(l - (ib+1))=l by omega,a7 l3] at g1
       have:=of_decide_eq_false g1
       omega
     have after:∀p∈a.toList.drop (ia+k),kn q<=kn p:=λp hp=>by
      obtain⟨l,l1,l2,l3⟩:=bS hp
      have g1:=k3 (l - ia) (by omega) (by omega)
      unfold gp at g1
      rw[if_neg (by decide),show ia+(l - ia)=l by omega,a7 l3] at g1
      have:kn q < kn p:=by simpa using g1
      omega
     by_cases c5:k > 0
     ·rw[if_pos c5]
      have m3:Mg kn a.toList b.toList (out++a.extract ia (ia+k)).toList (ia+k) ib:=by
       rw[Array.toList_append,wI]
       refine L.mg.qH H.sa k λy hy x hx=>?_
       obtain⟨j,j1,j2,j3⟩:=qI hy
       obtain⟨l,l1,l2,l3⟩:=bS hx
       have g1:=k2 j j1
       have g2:=kj H.sb l1 l2
       rw[a7 eq,a7 l3] at g2
       unfold gp at g1
       rw[if_neg (by decide),a7 j3] at g1
       have:¬kn q < kn y:=by simpa using g1
       omega
      by_cases c6:ia+k+1=a.size
      ·rw[if_pos (by rw[<-c6];simp)]
       exact Xm (Bl.fin (lY H m3 c6))
      rw[if_neg (by simpa using c6)]
      by_cases c7:ia+k=a.size
      ·rw[if_pos (by rw[<-c7];simp)]
       exact Xm (Bl.fin (jI H m3 λy hy=>(jJ c7 y hy).elim))
      ·rw[if_neg (by simpa using c7)]
       exact key _ _ (by omega) m3 (by omega) after
     ·rw[if_neg c5]
      have:k=0:=by omega
      subst this
      exact key _ _ (by omega) L.mg (by omega) after
    split<;>exact key _ _
end
section
variable {α:Type} {f:α->Int} {A B:List α}
structure Mh(f:α->Int)(A B R:List α)(na nb:Nat):Prop where
 pm:R.Perm (A.drop na++B.drop nb)
 so:R.Pairwise (f · <=f ·)
 la:∀q∈A.take na,∀p∈R,f q<=f p
 lb:∀q∈B.take nb,∀p∈R,f q<=f p
theorem Mh.swap{R:List α}{na nb:Nat}(h:Mh f A B R na nb):Mh f B A R nb na:=⟨h.pm.trans List.perm_append_comm,h.so,h.lb,h.la⟩
theorem take_take{i n:Nat}(h:i<=n):A.take n=A.take i++(A.take n).drop i:=by
 have:=List.take_append_drop i (A.take n)
 rw[List.take_take,Nat.min_eq_left h] at this
 exact this.symm
theorem drop_take{i n:Nat}(h:i<=n):A.drop i=(A.take n).drop i++A.drop n:=by
 have h1:=List.take_append_drop n A
 have h2:=congrArg (List.drop i) h1
 rw[List.drop_append] at h2
 rw[<-h2]
 by_cases c:n<=A.length
 ·rw[List.length_take,Nat.min_eq_left c,Nat.sub_eq_zero_of_le h,List.drop_zero]
 ·rw[List.drop_of_length_le (show A.length<=n by omega),List.drop_nil]
theorem Mh.qH{R:List α}{na nb:Nat}(h:Mh f A B R na nb)(sa:A.Pairwise (f · <=f ·))(k:Nat)(k1:k<=na)(hk:∀p∈(A.take na).drop k,∀q∈B.take nb,f q<=f p):Mh f A B ((A.take na).drop k++R) k nb:=by
 have e:=take_take (A:=A) k1
 have st:(A.take na).Pairwise (f · <=f ·):=sa.sublist (List.take_sublist _ _)
 rw[e,List.pairwise_append] at st
 have mT:∀p∈(A.take na).drop k,p∈A.take na:=λp hp=>(List.drop_sublist _ _).mem hp
 have mD:∀p∈A.take k,p∈A.take na:=λp hp=>by rw[e];exact List.mem_append_left _ hp
 refine⟨?_,?_,?_,?_⟩
 ·rw[drop_take (A:=A) k1,List.append_assoc]
  exact h.pm.append_left _
 ·rw[List.pairwise_append]
  exact⟨st.2.1,h.so,λp hp q hq=>h.la p (mT p hp) q hq⟩
 ·intro q hq p hp
  rcases List.mem_append.mp hp with z | z
  ·exact st.2.2 q hq p z
  ·exact h.la q (mD q hq) p z
 ·intro q hq p hp
  rcases List.mem_append.mp hp with z | z
  ·exact hk p z q hq
  ·exact h.lb q hq p z
theorem Mh.Bk{R:List α}{na nb:Nat}(h:Mh f A B R na nb)(sb:B.Pairwise (f · <=f ·))(k:Nat)(k1:k<=nb)(hk:∀p∈(B.take nb).drop k,∀q∈A.take na,f q<=f p):Mh f A B ((B.take nb).drop k++R) na k :=
 (h.swap.qH sb k k1 hk).swap
theorem Bm{n:Nat}{p:α}(e:A[n]? =some p):(A.take (n+1)).drop n=[p]:=by
 obtain⟨lt,rfl⟩:=List.getElem?_eq_some_iff.mp e
 rw[List.take_succ_eq_append_getElem lt,List.drop_append,List.drop_of_length_le (by rw[List.length_take];omega),List.length_take,Nat.min_eq_left (by omega),Nat.sub_self]
 rfl
theorem Mh.pO{R:List α}{na nb:Nat}{p:α}(h:Mh f A B R (na+1) nb)(sa:A.Pairwise (f · <=f ·))(e:A[na]? =some p)(hk:∀q∈B.take nb,f q<=f p):Mh f A B (p::R) na nb:=by
 have t1:=Bm e
 have:=h.qH sa na (by omega) (by rw[t1];intro q hq;rw[List.mem_singleton.mp hq];exact hk)
 rw[t1] at this
 exact this
theorem Mh.sL{R:List α}{na nb:Nat}{p:α}(h:Mh f A B R na (nb+1))(sb:B.Pairwise (f · <=f ·))(e:B[nb]? =some p)(hk:∀q∈A.take na,f q<=f p):Mh f A B (p::R) na nb :=
 (h.swap.pO sb e hk).swap
theorem Mh.fin{R:List α}{na nb:Nat}(h:Mh f A B R na nb)(sa:A.Pairwise (f · <=f ·))(sb:B.Pairwise (f · <=f ·))(hk:∀p∈B.take nb,∀q∈A.take na,f q<=f p):(A.take na++B.take nb++R).Perm (A++B)/\(A.take na++B.take nb++R).Pairwise (f · <=f ·):=by
 have h1:=h.Bk sb 0 (Nat.zero_le _) (by rw[List.drop_zero];exact hk)
 have h2:=h1.qH sa 0 (Nat.zero_le _) (by intro _ _ _ z;cases z)
 have pm:=h2.pm
 have so:=h2.so
 rw[List.drop_zero,List.drop_zero,<-List.append_assoc] at so
 rw[List.drop_zero,List.drop_zero,List.drop_zero,List.drop_zero,<-List.append_assoc] at pm
 exact⟨pm,so⟩
theorem Mh.I0{R:List α}{na nb:Nat}(h:Mh f A B R na nb)(sa:A.Pairwise (f · <=f ·))(sb:B.Pairwise (f · <=f ·))(hk:∀p∈A.take na,∀q∈B.take nb,f q<=f p):(B.take nb++A.take na++R).Perm (A++B)/\(B.take nb++A.take na++R).Pairwise (f · <=f ·):=by
 obtain⟨h1,h2⟩:=h.swap.fin sb sa hk
 exact⟨h1.trans List.perm_append_comm,h2⟩
end
theorem cR{a:Array Xg}{n:Nat}{p:Xg}(h:p∈a.toList.take n):∃j,j < n/\j < a.size/\a[j]? =some p:=by
 have:=qI (a:=a) (i:=0) (k:=n) (p:=p) h
 obtain⟨j,h1,h2,h3⟩:=this
 rw[Nat.zero_add] at h2 h3
 exact⟨j,h1,h2,h3⟩
theorem mem_mid{a:Array Xg}{i n:Nat}{p:Xg}(h:p∈(a.toList.take n).drop i):∃j,i<=j/\j < n/\j < a.size/\a[j]? =some p:=by
 obtain⟨j,e⟩:=List.getElem?_of_mem h
 rw[List.getElem?_drop] at e
 have lt:=(List.getElem?_eq_some_iff.mp e).1
 rw[List.length_take] at lt
 rw[List.getElem?_take_of_lt (by omega)] at e
 have:a.toList.length=a.size:=rfl
 exact⟨i+j,by omega,by omega,by omega,by rw[<-Array.getElem?_toList];exact e⟩
theorem iN{a:Array Xg}(n:Nat):(a.extract 0 n).toList=a.toList.take n:=by
 rw[Array.toList_extract,List.extract_eq_take_drop]
 rfl
theorem wJ{a:Array Xg}(i n:Nat):(a.extract i n).toList=(a.toList.take n).drop i:=by
 rw[Array.toList_extract,List.extract_eq_take_drop,List.drop_take]
structure Jc(a b:Array Xg):Prop where
 ka:∀p∈a.toList,Ik p
 kb:∀p∈b.toList,Ik p
 sa:Up a.toList
 sb:Up b.toList
 first:∀i,i < a.size->K b 0<=K a i
abbrev lH(a b out:Array Xg)(na nb:Nat):Prop:=Mh kn a.toList b.toList out.toList.reverse na nb
theorem jK{a b out:Array Xg}{na nb:Nat}(H:Jc a b)(m:lH a b out na nb)(h:∀p∈b.toList.take nb,∀q∈a.toList.take na,kn q<=kn p):Fin' a.toList b.toList (a.extract 0 na++b.extract 0 nb++out.reverse):=by
 unfold Fin' Up
 rw[Array.toList_append,Array.toList_append,iN,iN,Array.toList_reverse]
 exact m.fin H.sa H.sb h
theorem jL{a b out:Array Xg}{na:Nat}(H:Jc a b)(m:lH a b out na 1):Fin' a.toList b.toList (b.extract 0 1++a.extract 0 na++out.reverse):=by
 unfold Fin' Up
 rw[Array.toList_append,Array.toList_append,iN,iN,Array.toList_reverse]
 refine m.I0 H.sa H.sb λp hp q hq=>?_
 obtain⟨j,j1,j2,j3⟩:=cR hp
 obtain⟨l,l1,l2,l3⟩:=cR hq
 have:l=0:=by omega
 rw[<-a7 j3,<-a7 l3,this]
 exact H.first j j2
theorem nj{a b out:Array Xg}{na nb:Nat}{p:Xg}(H:Jc a b)(m:lH a b out (na+1) nb)(e:a.toList[na]? =some p)(hk:∀q∈b.toList.take nb,kn q<=kn p):lH a b (out.push p) na nb:=by
 unfold lH
 rw[Array.toList_push,List.reverse_append]
 exact m.pO H.sa e hk
theorem sM{a b out:Array Xg}{na nb:Nat}{p:Xg}(H:Jc a b)(m:lH a b out na (nb+1))(e:b.toList[nb]? =some p)(hk:∀q∈a.toList.take na,kn q<=kn p):lH a b (out.push p) na nb:=by
 unfold lH
 rw[Array.toList_push,List.reverse_append]
 exact m.sL H.sb e hk
theorem Eu{a b out:Array Xg}{na nb:Nat}(H:Jc a b)(m:lH a b out na nb)(k:Nat)(k1:k<=na)(hk:∀p∈(a.toList.take na).drop k,∀q∈b.toList.take nb,kn q<=kn p):lH a b (out++(a.extract k na).reverse) k nb:=by
 unfold lH
 rw[Array.toList_append,Array.toList_reverse,List.reverse_append,List.reverse_reverse,wJ]
 exact m.qH H.sa k k1 hk
theorem Ew{a b out:Array Xg}{na nb:Nat}(H:Jc a b)(m:lH a b out na nb)(k:Nat)(k1:k<=nb)(hk:∀p∈(b.toList.take nb).drop k,∀q∈a.toList.take na,kn q<=kn p):lH a b (out++(b.extract k nb).reverse) na k:=by
 unfold lH
 rw[Array.toList_append,Array.toList_reverse,List.reverse_append,List.reverse_reverse,wJ]
 exact m.Bk H.sb k k1 hk
structure Hi(a b out:Array Xg)(na nb:Nat):Prop where
 mg:lH a b out na nb
 a0:1<=na
 a1:na<=a.size
 b0:2<=nb
 b1:nb<=b.size
section
variable {prog:WS} {w:WV} {A:WO} {E:WU->WT->Prop} {s:WT}
abbrev UN:=Option (Array Xg)×Nat×Nat×Array Xg×Nat×Nat×Nat
def Bn(a b:Array Xg)(st:Xh)(n:Nat)(r:ForInStep UN)(st':Xh):Prop :=
 (∃g,st'=lW st g)/\match r with
 | .done c=>(∃r t,c=(some r,t)/\Fin' a.toList b.toList r)\/∃na nb out mg ac bc,c=(none,na,nb,out,mg,ac,bc)/\na+nb<=n/\Hi a b out na nb
 | .yield c=>∃na nb out mg ac bc,c=(none,na,nb,out,mg,ac,bc)/\na+nb<=n/\Hi a b out na nb
theorem Bn.fin{a b:Array Xg}{st:Xh}{n g:Nat}{r:Array Xg}{t:Nat×Nat×Array Xg×Nat×Nat×Nat}(h:Fin' a.toList b.toList r):Bn a b st n (.done (some r,t)) (lW st g):=⟨⟨g,rfl⟩,.inl ⟨r,t,rfl,h⟩⟩
theorem jM{b:Array Xg}:∀q:Xg,q∉b.toList.take 0:=λq hq=>by cases hq
theorem va{st:Xh}{a b:Array Xg}{Q:Array Xg->Xh->Prop}(H:Jc a b)(Gn:1<=a.size)(Gp:1<=b.size)(hk:kindOf st=Xi)(last:∀j,j < b.size->K b j<=K a (a.size - 1))
  (h:∀r g,Fin' a.toList b.toList r->Q r (lW st g)):wpS (model prog w) A E s (Bj a b) Q st:=by
 refine Xj (wpS_lift (wpAny_rule ⟨rfl,?_⟩))
 obtain⟨a0,Sk,P5,Wz⟩:=at_of (a:=a) (i:=a.size - 1) (by omega)
 refine Xj (aO Sk ?_)
 have m0:lH a b #[a0] (a.size - 1) b.size:=by
  have z:lH a b #[] (a.size - 1+1) b.size:=⟨by
   have l1:a.toList.length=a.size:=rfl
   have l2:b.toList.length=b.size:=rfl
   rw[List.drop_of_length_le (by omega),List.drop_of_length_le (by omega)]
   exact .nil,.nil,(λ_ _ _ z=>by cases z),(λ_ _ _ z=>by cases z)⟩
  refine nj H z P5 λq hq=>?_
  obtain⟨l,l1,l2,l3⟩:=cR hq
  rw[<-a7 Sk,<-a7 l3]
  exact last l l2
 dsimp -zeta only
 extract_lets out
 subst out
 by_cases c1:a.size - 1=0
 ·rw[if_pos (by rw[c1];rfl)]
  rw[c1] at m0 ⊢
  exact Xm (h _ _ (jK H m0 λ_ _ q hq=>(jM q hq).elim))
 rw[if_neg (by simpa using c1)]
 by_cases c2:b.size=1
 ·rw[if_pos (by rw[c2];rfl)]
  rw[c2] at m0 ⊢
  exact Xm (h _ _ (jL H m0))
 rw[if_neg (by simpa using c2)]
 refine Xj (wpS_get ?_)
 refine Xj (Xl (Xk (I:=λx c st'=>(∃g,st'=lW st g)/\∃na nb out mg,c=(none,na,nb,out,mg)/\na+nb+x+1<=a.size+b.size/\Hi a b out na nb)
  (Q:=λc st'=>(∃g,st'=lW st g)/\∃r t,c=(some r,t)/\Fin' a.toList b.toList r) ?a ?b ?c) ?d)
 case c=>exact⟨⟨_,rfl⟩,_,_,_,_,rfl,by omega,m0,by omega,by omega,by omega,by omega⟩
 case d=>
  rintro c st' ⟨⟨g,rfl⟩,r,t,rfl,hf⟩
  exact Xm (h _ _ hf)
 case b=>
  rintro c st' ⟨_,na,nb,out,mg,_,h1,h2,h3,h4⟩
  omega
 case a=>
  rintro x c st' _ hx ⟨⟨g,rfl⟩,P6,P7,out,mg,rfl,h1,L0⟩
  dsimp -zeta only
  refine Xj (Xl (Xk (I:=λx c st'=>st'=lW st g/\∃na nb out ac bc,c=(none,na,nb,out,ac,bc)/\na+nb+x<=P6+P7/\Hi a b out na nb)
   (Q:=λc st'=>st'=lW st g/\((∃r t,c=(some r,t)/\Fin' a.toList b.toList r)\/∃na nb out ac bc,c=(none,na,nb,out,ac,bc)/\na+nb+1<=P6+P7/\Hi a b out na nb)) ?e ?f ?g) ?i)
  case g=>exact⟨rfl,P6,P7,out,0,0,rfl,by omega,L0⟩
  case f=>
   rintro c st' ⟨rfl,na,nb,out,ac,bc,rfl,h1,L⟩
   have:=L.a0
   have:=L.b0
   exact⟨rfl,.inr ⟨na,nb,out,ac,bc,rfl,by omega,L⟩⟩
  case e=>
   rintro x c st' _ hx ⟨rfl,na,nb,out,ac,bc,rfl,h1,L⟩
   dsimp only
   have l1:=L.a0
   have l2:=L.a1
   have l3:=L.b0
   have l4:=L.b1
   obtain⟨n,rfl⟩:∃n,na=n+1:=⟨na - 1,by omega⟩
   obtain⟨m,rfl⟩:∃m,nb=m+1:=⟨nb - 1,by omega⟩
   rw[Nat.add_sub_cancel,Nat.add_sub_cancel]
   obtain⟨p,ep,rP,mp⟩:=at_of (a:=a) (i:=n) (by omega)
   obtain⟨q,eq,eq',mq⟩:=at_of (a:=b) (i:=m) (by omega)
   refine Xj (aO eq (Xj (aO ep (Xj (sI (x:=q) (y:=p) hk (H.kb _ mq) (H.ka _ mp) ?_)))))
   by_cases lt:kn q < kn p
   ·rw[decide_eq_true lt]
    dsimp only
    rw[if_pos rfl]
    refine Xj (aO ep ?_)
    have m':lH a b (out.push p) n (m+1):=nj H L.mg rP λy hy=>by
     obtain⟨l,l1,l2,l3⟩:=cR hy
     have:=kj H.sb (show l<=m by omega) (by omega)
     rw[a7 eq,a7 l3] at this
     omega
    by_cases c3:n=0
    ·rw[if_pos (by rw[c3];rfl)]
     rw[c3] at m' ⊢
     exact Xm ⟨rfl,.inl ⟨_,_,rfl,jK H m' λ_ _ y hy=>(jM y hy).elim⟩⟩
    ·rw[if_neg (by simpa using c3)]
     have L':Hi a b (out.push p) n (m+1):=⟨m',by omega,by omega,by omega,by omega⟩
     by_cases c4:ac+1 >= mg
     ·rw[if_pos c4]
      exact Xm ⟨rfl,.inr ⟨_,_,_,_,_,rfl,by omega,L'⟩⟩
     ·rw[if_neg c4]
      exact Xm ⟨rfl,_,_,_,_,_,rfl,by omega,L'⟩
   ·rw[decide_eq_false lt]
    dsimp only
    rw[if_neg (by decide)]
    refine Xj (aO eq ?_)
    have m':lH a b (out.push q) (n+1) m:=sM H L.mg eq' λy hy=>by
     obtain⟨l,l1,l2,l3⟩:=cR hy
     have:=kj H.sa (show l<=n by omega) (by omega)
     rw[a7 ep,a7 l3] at this
     omega
    by_cases c3:m=1
    ·rw[if_pos (by rw[c3];rfl)]
     rw[c3] at m' ⊢
     exact Xm ⟨rfl,.inl ⟨_,_,rfl,jL H m'⟩⟩
    ·rw[if_neg (by simpa using c3)]
     have L':Hi a b (out.push q) (n+1) m:=⟨m',by omega,by omega,by omega,by omega⟩
     by_cases c4:bc+1 >= mg
     ·rw[if_pos c4]
      exact Xm ⟨rfl,.inr ⟨_,_,_,_,_,rfl,by omega,L'⟩⟩
     ·rw[if_neg c4]
      exact Xm ⟨rfl,_,_,_,_,_,rfl,by omega,L'⟩
  case i=>
   rintro c st' ⟨rfl,⟨r,⟨o,i1,i2,i3,i4⟩,rfl,hf⟩ | ⟨Gn,Gp,out,ac,bc,rfl,h2,L0⟩⟩
   ·exact Xm ⟨⟨g,rfl⟩,r,_,rfl,hf⟩
   dsimp -zeta only
   refine Xj (wpS_lift (wpAny_rule ⟨rfl,?_⟩))
   refine Xj (Xl (Xk (I:=λx c st'=>(∃g,st'=lW st g)/\∃na nb out mg ac bc,c=(none,na,nb,out,mg,ac,bc)/\na+nb<=Gn+Gp/\Hi a b out na nb)
    (Q:=λc st'=>(∃g,st'=lW st g)/\((∃r t,c=(some r,t)/\Fin' a.toList b.toList r)\/∃na nb out mg ac bc,c=(none,na,nb,out,mg,ac,bc)/\na+nb<=Gn+Gp/\Hi a b out na nb)) ?j ?k ?l) ?mm)
   case l=>exact⟨⟨_,rfl⟩,Gn,Gp,out,_,ac,bc,rfl,by omega,L0⟩
   case k=>
    rintro c st' ⟨hg,na,nb,out,mg,ac,bc,rfl,h1,L⟩
    exact⟨hg,.inr ⟨na,nb,out,mg,ac,bc,rfl,by omega,L⟩⟩
   case mm=>
    rintro c st' ⟨⟨g,rfl⟩,⟨r,⟨o,i1,i2,i3,i4,i5⟩,rfl,hf⟩ | ⟨na,nb,out,mg,ac,bc,rfl,h3,L⟩⟩
    ·exact Xm ⟨⟨g,rfl⟩,r,_,rfl,hf⟩
    ·dsimp only
     exact Xj (wpS_modify (Xm ⟨⟨_,rfl⟩,_,_,_,_,rfl,by omega,L⟩))
   case j=>
    rintro x c st' _ hx ⟨⟨g,rfl⟩,na,nb,out,mg,ac,bc,rfl,h1,L⟩
    refine Xl (Q:=Bn a b st (Gn+Gp)) ?_ λr st' h=>by cases r<;>exact h
    have l1:=L.a0
    have l2:=L.a1
    have l3:=L.b0
    have l4:=L.b1
    obtain⟨m,rfl⟩:∃m,nb=m+1:=⟨nb - 1,by omega⟩
    obtain⟨q,eq,eq',mq⟩:=at_of (a:=b) (i:=m) (by omega)
    dsimp -zeta only
    extract_lets z1 z2 z3 z4 z5 z6 z7 z8 z9 I_ Ja Jb jp P1
    subst P1 Jb Ja I_ z9 z8 z7 z6 z5 z4 z3 z2 z1
    have key:∀mg g,wpS (model prog w) A E s (jp () mg) (Bn a b st (Gn+Gp)) (lW st g):=by
     intro mg g
     dsimp -zeta only[jp]
     rw[Nat.add_sub_cancel]
     refine Xj (wpS_modify ?_)
     refine Xj (aO eq ?_)
     refine Xj (eF hk (H.kb _ mq) (by omega) H.ka (by omega) (λi j h1 h2=>kj H.sa (by omega) (by omega)) λk k1 k2 k3=>?_)
     have upto:∀p∈a.toList.take k,kn p<=kn q:=λp hp=>by
      obtain⟨l,l1,l2,l3⟩:=cR hp
      have g1:=k2 l l1
      unfold gp at g1
      rw[if_neg (by decide),Nat.zero_add,a7 l3] at g1
      have:¬kn q < kn p:=by simpa using g1
      omega
     dsimp -zeta only
     clear jp
     extract_lets o0 ac' jp o1 o2
     subst o2 o1 ac' o0
     have key:∀out' Ex,1<=Ex->Ex<=na->lH a b out' Ex (m+1)->(∀p∈a.toList.take Ex,kn p<=kn q)->wpS (model prog w) A E s (jp () Ex out') (Bn a b st (Gn+Gp)) (lW st mg):=by
      intro out' Ex n1 n2 m1 hq
      dsimp -zeta only[jp]
      refine Xj (aO eq ?_)
      have m2:lH a b (out'.push q) Ex m:=sM H m1 eq' hq
      by_cases c3:m=1
      ·rw[if_pos (by rw[c3];rfl)]
       rw[c3] at m2 ⊢
       exact Xm (Bn.fin (jL H m2))
      rw[if_neg (by simpa using c3)]
      obtain⟨n,rfl⟩:∃n,Ex=n+1:=⟨Ex - 1,by omega⟩
      obtain⟨p,ep,rP,mp⟩:=at_of (a:=a) (i:=n) (by omega)
      rw[Nat.add_sub_cancel]
      refine Xj (aO ep ?_)
      refine Xj (eF hk (H.ka _ mp) (by omega) H.kb (by omega) (λi j h1 h2=>kj H.sb (by omega) (by omega)) λk k1 k2 k3=>?_)
      have upto:∀y∈b.toList.take k,kn y<=kn p:=λy hy=>by
       obtain⟨l,l1,l2,l3⟩:=cR hy
       have g1:=k2 l l1
       unfold gp at g1
       rw[if_pos rfl,Nat.zero_add,a7 l3] at g1
       have:=of_decide_eq_true g1
       omega
      dsimp -zeta only
      clear jp
      extract_lets o0 P2 n' jp o1 o2
      subst o2 o1 n' P2 o0
      have key:∀ni Gq,2<=Gq->Gq<=m->lH a b ni (n+1) Gq->(∀y∈b.toList.take Gq,kn y<=kn p)->wpS (model prog w) A E s (jp () Gq ni) (Bn a b st (Gn+Gp)) (lW st mg):=by
       intro ni Gq b1 b2 m3 hp
       dsimp -zeta only[jp]
       refine Xj (aO ep ?_)
       have m4:lH a b (ni.push p) n Gq:=nj H m3 rP hp
       by_cases c4:n=0
       ·rw[if_pos (by rw[c4];rfl)]
        rw[c4] at m4 ⊢
        exact Xm (Bn.fin (jK H m4 λ_ _ y hy=>(jM y hy).elim))
       rw[if_neg (by simpa using c4)]
       have L':Hi a b (ni.push p) n Gq:=⟨m4,by omega,by omega,by omega,by omega⟩
       split
       ·exact Xm ⟨⟨mg,rfl⟩,.inr ⟨_,_,_,_,_,_,rfl,by omega,L'⟩⟩
       ·exact Xm ⟨⟨mg,rfl⟩,_,_,_,_,_,_,rfl,by omega,L'⟩
      by_cases c5:m - k > 0
      ·rw[if_pos c5]
       have m3:lH a b (out'.push q++(b.extract k m).reverse) (n+1) k:=by
        refine Ew H m2 k (by omega) λy hy x hx=>?_
        obtain⟨j,j0,j1,j2,j3⟩:=mem_mid hy
        obtain⟨l,l1,l2,l3⟩:=cR hx
        have g1:=k3 j j0 j1
        have g2:=kj H.sa (show l<=n by omega) (by omega)
        rw[a7 ep,a7 l3] at g2
        unfold gp at g1
        rw[if_pos rfl,Nat.zero_add,a7 j3] at g1
        have:=of_decide_eq_false g1
        omega
       by_cases c6:k=1
       ·rw[if_pos (by rw[c6];rfl)]
        rw[c6] at m3 ⊢
        exact Xm (Bn.fin (jL H m3))
       rw[if_neg (by simpa using c6)]
       by_cases c7:k=0
       ·rw[if_pos (by rw[c7];rfl)]
        rw[c7] at m3 ⊢
        exact Xm (Bn.fin (jK H m3 λy hy=>(jM y hy).elim))
       ·rw[if_neg (by simpa using c7)]
        exact key _ _ (by omega) (by omega) m3 upto
      ·rw[if_neg c5]
       have:k=m:=by omega
       subst this
       exact key _ _ (by omega) (by omega) m2 upto
     by_cases c5:na - k > 0
     ·rw[if_pos c5]
      have m3:lH a b (out++(a.extract k na).reverse) k (m+1):=by
       refine Eu H L.mg k (by omega) λy hy x hx=>?_
       obtain⟨j,j0,j1,j2,j3⟩:=mem_mid hy
       obtain⟨l,l1,l2,l3⟩:=cR hx
       have g1:=k3 j j0 j1
       have g2:=kj H.sb (show l<=m by omega) (by omega)
       rw[a7 eq,a7 l3] at g2
       unfold gp at g1
       rw[if_neg (by decide),Nat.zero_add,a7 j3] at g1
       have:kn q < kn y:=by simpa using g1
       omega
      by_cases c6:k=0
      ·rw[if_pos (by rw[c6];rfl)]
       rw[c6] at m3 ⊢
       exact Xm (Bn.fin (jK H m3 λ_ _ y hy=>(jM y hy).elim))
      ·rw[if_neg (by simpa using c6)]
       exact key _ _ (by omega) (by omega) m3 upto
     ·rw[if_neg c5]
      have:k=na:=by omega
      subst this
      exact key _ _ (by omega) (by omega) L.mg upto
    split<;>exact key _ _
end
theorem wK(b:Nat):∀(l:List Xg)(k:Nat)(xs:Array Xg),b+k+l.length<=xs.size->((l.zipIdx k).foldl (λ(a:Array Xg)(q:Xg×Nat)=>a.setIfInBounds (b+q.2) q.1) xs).toList=xs.toList.take (b+k)++l++xs.toList.drop (b+k+l.length)
 | [],k,xs,h=>by simp
 | p::l,k,xs,h=>by
  rw[List.zipIdx_cons,List.foldl_cons]
  rw[List.length_cons] at h
  have ih:=wK b l (k+1) (xs.setIfInBounds (b+k) p) (by rw[Array.size_setIfInBounds];omega)
  refine ih.trans ?_
  have lt:b+k < xs.toList.length:=by show b+k < xs.size;omega
  have e1:(xs.toList.set (b+k) p).take (b+(k+1))=xs.toList.take (b+k)++[p]:=by
   rw[<-Nat.add_assoc,List.take_succ_eq_append_getElem (by rw[List.length_set];exact lt),List.take_set_of_le (Nat.le_refl _),List.getElem_set_self]
  have e2:(xs.toList.set (b+k) p).drop (b+(k+1)+l.length)=xs.toList.drop (b+(k+1)+l.length):=List.drop_set_of_lt (by omega)
  rw[Array.toList_setIfInBounds,e1,e2,List.length_cons,show b+(k+1)+l.length=b+k+(l.length+1) by omega]
  simp
theorem seg_at{xs:Array Xg}{L A R:List Xg}(e:xs.toList=L++A++R){i:Nat}(h:i < A.length):xs[L.length+i]? =A[i]?:=by
 rw[<-Array.getElem?_toList,e,List.append_assoc,List.getElem?_append_right (by omega),List.getElem?_append_left (by omega)]
 congr 1
 omega
theorem Bo{xs:Array Xg}{L A R:List Xg}(e:xs.toList=L++A++R)(u:Up A){i j:Nat}(h1:i<=j)(h2:j < A.length):K xs (L.length+i)<=K xs (L.length+j):=by
 have q1:=seg_at e (i:=i) (by omega)
 have q2:=seg_at e h2
 rw[List.getElem?_eq_getElem (by omega)] at q1 q2
 rw[a7 q1,a7 q2]
 by_cases c:i=j
 ·subst c
  exact Int.le_refl _
 ·exact List.pairwise_iff_getElem.mp u i j (by omega) (by omega) (by omega)
theorem wL{xs:Array Xg}{L A R:List Xg}(e:xs.toList=L++A++R){i j:Nat}(h1:i<=j)(h2:j<=A.length):(xs.extract (L.length+i) (L.length+j)).toList=(A.take j).drop i:=by
 rw[Array.toList_extract,List.extract_eq_take_drop,e,List.append_assoc,List.drop_append,List.drop_of_length_le (by omega),List.nil_append,Nat.add_sub_cancel_left,show L.length+j - (L.length+i)=j - i by omega,List.drop_take,List.drop_append_of_le_length (by omega),List.take_append_of_le_length (by rw[List.length_drop];omega)]
section
variable {prog:WS} {w:WV} {A₀:WO} {E:WU->WT->Prop} {s:WT}
theorem Ey{σ:Type}{M:Model}{Q:PUnit->σ->Prop}{st x:σ}(h:Q ⟨⟩ x):wpS M A₀ E s (set x:StateT σ Sem PUnit) Q st:=by
 unfold wpS
 rw[StateT.run_set]
 exact Xe ⟨rfl,h⟩
theorem vc{xs:Array Xg}{g0 sa na pw sb nb p2:Nat}{pre post:List (Nat×Nat×Nat)}{L A B S:List Xg}{Q:Bool->Xh->Prop}
  (e:xs.toList=L++A++(B++S))(hI:∀p∈xs.toList,Ik p)(e1:L.length=sa)(e2:A.length=na)(e3:B.length=nb)(e4:sb=sa+na)(n1:1<=na)(n2:1<=nb)(uA:Up A)(uB:Up B)
  (h:∀C ys g,C.Perm (A++B)->Up C->ys.toList=L++C++S->Q true (SortSt.mk' Xi ys (pre++(sa,na+nb,pw)::post).toArray g none)) :
  wpS (model prog w) A₀ E s (mergeAt' pre.length) Q (SortSt.mk' Xi xs (pre++(sa,na,pw)::(sb,nb,p2)::post).toArray g0 none):=by
 refine Xj (wpS_get ?_)
 have g1:(pre++(sa,na,pw)::(sb,nb,p2)::post).toArray[pre.length]? =some (sa,na,pw):=by simp
 have g2:(pre++(sa,na,pw)::(sb,nb,p2)::post).toArray[pre.length+1]? =some (sb,nb,p2):=by simp
 have g3:((pre++(sa,na,pw)::(sb,nb,p2)::post).toArray.setIfInBounds pre.length (sa,na+nb,pw)).eraseIdxIfInBounds (pre.length+1)=(pre++(sa,na+nb,pw)::post).toArray:=by
  apply Array.toList_inj.mp
  rw[Array.toList_eraseIdxIfInBounds,Array.toList_setIfInBounds]
  simp[List.eraseIdx_append_of_length_le]
 dsimp -zeta only
 rw[g1,g2]
 dsimp -zeta only
 refine Xj (Ey ?_)
 rw[g3]
 clear g1 g2 g3
 subst e1 e2 e3 e4
 obtain⟨b0,rB,eb⟩:∃b0 rB,B=b0::rB:=by cases B with | nil=>simp at n2 | cons x y=>exact⟨x,y,rfl⟩
 have eB:xs.toList=(L++A)++B++S:=by rw[e];simp
 have MO:(L++A).length=L.length+A.length:=List.length_append
 have sz:xs.size=L.length+A.length+(B.length+S.length):=by
  have:=congrArg List.length e
  simpa [Nat.add_assoc,Nat.add_comm,Nat.add_left_comm] using this
 have N3:xs[L.length+A.length]? =some b0:=by
  have:=seg_at eB (i:=0) (by omega)
  rw[MO,eb] at this
  exact this
 have UO:Ik b0:=hI b0 (by rw[e,eb];simp)
 refine Xj (aO N3 ?_)
 refine Xj (eF rfl UO (by omega) hI (by omega) (λi j h1 h2=>Bo e uA h1 h2) λk k1 k2 k3=>?_)
 have lo1:∀p∈A.take k,kn p<=kn b0:=λp hp=>by
  obtain⟨i,ei⟩:=List.getElem?_of_mem hp
  have li:=(List.getElem?_eq_some_iff.mp ei).1
  rw[List.length_take] at li
  rw[List.getElem?_take_of_lt (by omega)] at ei
  have g1:=k2 i (by omega)
  unfold gp at g1
  rw[if_neg (by decide),a7 ((seg_at e (by omega)).trans ei)] at g1
  have:¬kn b0 < kn p:=by simpa using g1
  omega
 have hi1:∀p∈A.drop k,kn b0<=kn p:=λp hp=>by
  obtain⟨i,ei⟩:=List.getElem?_of_mem hp
  rw[List.getElem?_drop] at ei
  have li:=(List.getElem?_eq_some_iff.mp ei).1
  have g1:=k3 (k+i) (by omega) li
  unfold gp at g1
  rw[if_neg (by decide),a7 ((seg_at e li).trans ei)] at g1
  have:kn b0 < kn p:=by simpa using g1
  omega
 have MP:∀q∈B,kn b0<=kn q:=λq hq=>by
  rw[eb] at hq uB
  rcases List.mem_cons.mp hq with z | z
  ·rw[z];exact Int.le_refl _
  ·exact(List.pairwise_cons.mp uB).1 q z
 dsimp -zeta only
 by_cases c1:A.length - k=0
 ·rw[if_pos (by rw[c1];rfl)]
  have ek:A.take k=A:=List.take_of_length_le (by omega)
  rw[ek] at lo1
  refine Xm (h (A++B) xs g0 (.refl _) ?_ (by rw[e];simp))
  unfold Up
  rw[List.pairwise_append]
  exact⟨uA,uB,λp hp q hq=>Int.le_trans (lo1 p hp) (MP q hq)⟩
 rw[if_neg (by simpa using c1),show L.length+k+(A.length - k) - 1=L.length+(A.length - 1) by omega]
 obtain⟨a1,P8⟩:∃a1,A[A.length - 1]? =some a1:=⟨_,List.getElem?_eq_getElem (by omega)⟩
 have MQ:=(seg_at e (i:=A.length - 1) (by omega)).trans P8
 have UP:a1∈A.drop k:=by
  refine List.mem_of_getElem? (i:=A.length - 1 - k) ?_
  rw[List.getElem?_drop,show k+(A.length - 1 - k)=A.length - 1 by omega]
  exact P8
 have UQ:Ik a1:=hI a1 (by rw[e];exact List.mem_append_left _ (List.mem_append_right _ ((List.drop_sublist _ _).mem UP)))
 refine Xj (aO MQ ?_)
 refine Xj (eF (base:=L.length+A.length) rfl UQ (by omega) hI (by omega) (λi j h1 h2=>by rw[<-MO];exact Bo eB uB h1 h2) λm m1 m2 m3=>?_)
 have Jd:∀p∈A,kn p<=kn a1:=λp hp=>by
  obtain⟨i,ei⟩:=List.getElem?_of_mem hp
  have li:=(List.getElem?_eq_some_iff.mp ei).1
  have:=Bo e uA (i:=i) (j:=A.length - 1) (by omega) (by omega)
  rw[a7 ((seg_at e li).trans ei),a7 MQ] at this
  exact this
 have lo2:∀q∈B.take m,kn q<=kn a1:=λp hp=>by
  obtain⟨i,ei⟩:=List.getElem?_of_mem hp
  have li:=(List.getElem?_eq_some_iff.mp ei).1
  rw[List.length_take] at li
  rw[List.getElem?_take_of_lt (by omega)] at ei
  have g1:=m2 i (by omega)
  unfold gp at g1
  rw[if_pos rfl,<-MO,a7 ((seg_at eB (by omega)).trans ei)] at g1
  have:=of_decide_eq_true g1
  omega
 have hi2:∀q∈B.drop m,kn a1<=kn q:=λp hp=>by
  obtain⟨i,ei⟩:=List.getElem?_of_mem hp
  rw[List.getElem?_drop] at ei
  have li:=(List.getElem?_eq_some_iff.mp ei).1
  have g1:=m3 (m+i) (by omega) li
  unfold gp at g1
  rw[if_pos rfl,<-MO,a7 ((seg_at eB li).trans ei)] at g1
  have:=of_decide_eq_false g1
  omega
 dsimp -zeta only
 by_cases c2:m=0
 ·rw[if_pos (by rw[c2];rfl)]
  rw[c2,List.drop_zero] at hi2
  refine Xm (h (A++B) xs g0 (.refl _) ?_ (by rw[e];simp))
  unfold Up
  rw[List.pairwise_append]
  exact⟨uA,uB,λp hp q hq=>Int.le_trans (Jd p hp) (hi2 q hq)⟩
 rw[if_neg (by simpa using c2)]
 have ex:(xs.extract (L.length+k) (L.length+A.length)).toList=A.drop k:=by
  rw[wL e (by omega) (Nat.le_refl _),List.take_of_length_le (Nat.le_refl _)]
 have ey:(xs.extract (L.length+A.length) (L.length+A.length+m)).toList=B.take m:=by
  have:=wL eB (i:=0) (j:=m) (by omega) (by omega)
  rw[MO] at this
  exact this
 generalize xs.extract (L.length+k) (L.length+A.length)=X at ex
 generalize xs.extract (L.length+A.length) (L.length+A.length+m)=Y at ey
 extract_lets x y jp
 subst x y
 have key:∀r g,Fin' X.toList Y.toList r->wpS (model prog w) A₀ E s (jp r) Q (SortSt.mk' Xi xs (pre++(L.length,A.length+B.length,pw)::post).toArray g none):=by
  intro r g hr
  dsimp -zeta only[jp]
  refine Xj (wpS_modify (Xj (wpS_get (Xm ?_))))
  obtain⟨pm,up⟩:=hr
  rw[ex,ey] at pm
  have lr:=pm.length_eq
  rw[List.length_append,List.length_drop,List.length_take,Nat.min_eq_left m1] at lr
  refine h (A.take k++r.toList++B.drop m) _ g ?_ ?_ ?_
  ·refine((pm.append_left (A.take k)).append_right (B.drop m)).trans ?_
   rw[<-List.append_assoc,List.take_append_drop,List.append_assoc,List.take_append_drop]
  ·unfold Up
   rw[List.pairwise_append,List.pairwise_append]
   have N4:=uA
   have N5:=uB
   unfold Up at N4 N5
   rw[<-List.take_append_drop k A,List.pairwise_append] at N4
   rw[<-List.take_append_drop m B,List.pairwise_append] at N5
   refine⟨⟨N4.1,up,λp hp q hq=>?_⟩,N5.2.1,λp hp q hq=>?_⟩
   ·rcases List.mem_append.mp (pm.mem_iff.mp hq) with z | z
    ·exact N4.2.2 p hp q z
    ·exact Int.le_trans (lo1 p hp) (MP q ((List.take_sublist _ _).mem z))
   ·rcases List.mem_append.mp hp with z | z
    ·exact Int.le_trans (Jd p ((List.take_sublist _ _).mem z)) (hi2 q hq)
    ·rcases List.mem_append.mp (pm.mem_iff.mp z) with z | z
     ·exact Int.le_trans (Jd p ((List.drop_sublist _ _).mem z)) (hi2 q hq)
     ·exact N5.2.2 p z q hq
  ·have:=wK (L.length+k) r.toList 0 xs (by omega)
   refine this.trans ?_
   rw[lr,e,Nat.add_zero,show L.length+k+(A.length - k+m)=(L++A).length+m by omega,List.drop_append,List.drop_of_length_le (by omega),List.nil_append,Nat.add_sub_cancel_left,List.drop_append_of_le_length m1,
    List.append_assoc L A,List.take_append,List.take_of_length_le (by omega),Nat.add_sub_cancel_left,List.take_append_of_le_length k1]
   simp
 have sX:X.size=A.length - k:=by rw[<-Array.length_toList,ex,List.length_drop]
 have sY:Y.size=m:=by rw[<-Array.length_toList,ey,List.length_take];omega
 have UR:∀p∈X.toList,p∈A:=λp hp=>by rw[ex] at hp;exact(List.drop_sublist _ _).mem hp
 have US:∀p∈Y.toList,p∈B:=λp hp=>by rw[ey] at hp;exact(List.take_sublist _ _).mem hp
 have kX:∀p∈X.toList,Ik p:=λp hp=>hI p (by rw[e];exact List.mem_append_left _ (List.mem_append_right _ (UR p hp)))
 have kY:∀p∈Y.toList,Ik p:=λp hp=>hI p (by rw[e];exact List.mem_append_right _ (List.mem_append_left _ (US p hp)))
 have uX:Up X.toList:=by rw[ex];exact uA.sublist (List.drop_sublist _ _)
 have uY:Up Y.toList:=by rw[ey];exact uB.sublist (List.take_sublist _ _)
 have last:∀j,j < Y.size->K Y j<=K X (X.size - 1):=λj hj=>by
  obtain⟨q,q1,q2,q3⟩:=at_of hj
  have e1:X[X.size - 1]? =some a1:=by
   rw[<-Array.getElem?_toList,ex,List.getElem?_drop,sX,show k+(A.length - k - 1)=A.length - 1 by omega]
   exact P8
  rw[a7 q1,a7 e1]
  exact lo2 q (by rw[<-ey];exact q3)
 have first:∀i,i < X.size->K Y 0<=K X i:=λi hi=>by
  obtain⟨q,q1,q2,q3⟩:=at_of hi
  have e1:Y[0]? =some b0:=by
   rw[<-Array.getElem?_toList,ey,List.getElem?_take_of_lt (by omega),eb]
   rfl
  rw[a7 q1,a7 e1]
  exact hi1 q (by rw[<-ex];exact q3)
 split
 ·exact Xj (u7 ⟨kX,kY,uX,uY,last⟩ (by omega) (by omega) rfl first λr g hr=>key r g hr)
 ·exact Xj (va ⟨kX,kY,uX,uY,first⟩ (by omega) (by omega) rfl last λr g hr=>key r g hr)
end
def Sm(lo:Nat)(xs ys:Array Xg):Prop:=ys.Perm xs/\∀i,i < lo->ys[i]? =xs[i]?
theorem Sm.refl{lo:Nat}{xs:Array Xg}:Sm lo xs xs:=⟨.refl _,λ_ _=>rfl⟩
theorem Sm.trans{lo:Nat}{xs ys zs:Array Xg}(h1:Sm lo xs ys)(h2:Sm lo ys zs):Sm lo xs zs:=⟨h2.1.trans h1.1,λi hi=>(h2.2 i hi).trans (h1.2 i hi)⟩
theorem Sm.size{lo:Nat}{xs ys:Array Xg}(h:Sm lo xs ys):ys.size=xs.size:=h.1.size_eq
theorem Sm.ik{lo:Nat}{xs ys:Array Xg}(h:Sm lo xs ys)(hI:∀p∈xs.toList,Ik p):∀p∈ys.toList,Ik p:=λp hp=>hI p ((Array.perm_iff_toList_perm.mp h.1).mem_iff.mp hp)
theorem Sm.mirror{lo i j:Nat}{xs:Array Xg}(h:lo<=i)(hj:j<=xs.size):Sm lo xs (mirror xs i j ((j - i) / 2)) :=
 ⟨mirror_perm _ _ _ _,λk hk=>by rw[getElem?_mirror_all hj,if_neg (by omega)]⟩
def pP(xs:Array Xg)(lo n:Nat):Prop:=∀i j,i<=j->j < n->K xs (lo+i)<=K xs (lo+j)
def Bp(xs:Array Xg)(lo n:Nat):Prop:=∀i j,i<=j->j < n->K xs (lo+j)<=K xs (lo+i)
theorem pP.step{xs:Array Xg}{lo n:Nat}(h:pP xs lo n)(h1:1<=n)(c:¬K xs (lo+n) < K xs (lo+n - 1)):pP xs lo (n+1):=λi j hij hj=>by
 by_cases z:j < n
 ·exact h i j hij z
 ·have:j=n:=by omega
  subst this
  by_cases y:i=j
  ·subst y;exact Int.le_refl _
  ·have:=h i (j - 1) (by omega) (by omega)
   rw[show lo+(j - 1)=lo+j - 1 by omega] at this
   omega
theorem Bp.step{xs:Array Xg}{lo n:Nat}(h:Bp xs lo n)(h1:1<=n)(c:K xs (lo+n)<=K xs (lo+n - 1)):Bp xs lo (n+1):=λi j hij hj=>by
 by_cases z:j < n
 ·exact h i j hij z
 ·have:j=n:=by omega
  subst this
  by_cases y:i=j
  ·subst y;exact Int.le_refl _
  ·have:=h i (j - 1) (by omega) (by omega)
   rw[show lo+(j - 1)=lo+j - 1 by omega] at this
   omega
theorem pP.one{xs:Array Xg}{lo:Nat}:pP xs lo 1:=λi j h1 h2=>by
 have:i=j:=by omega
 subst this;exact Int.le_refl _
theorem pP.turn{xs:Array Xg}{lo n:Nat}(h:Bp xs lo n)(hn:lo+n<=xs.size):pP (mirror xs lo (lo+n) ((lo+n - lo) / 2)) lo n:=λi j h1 h2=>by
 rw[K_mirror hn,K_mirror hn,if_pos (by omega),if_pos (by omega)]
 have:=h (n - 1 - j) (n - 1 - i) (by omega) (by omega)
 rw[show lo+(lo+n) - 1 - (lo+i)=lo+(n - 1 - i) by omega,show lo+(lo+n) - 1 - (lo+j)=lo+(n - 1 - j) by omega]
 exact this
section
variable {prog:WS} {w:WV} {A:WO} {E:WU->WT->Prop} {s:WT} {P:Array (Nat×Nat×Nat)} {g:Nat}
theorem sN{xs:Array Xg}{i j:Nat}{Q:Option Bool->Xh->Prop}(hI:∀p∈xs.toList,Ik p)(hi:i < xs.size)(hj:j < xs.size)(h:Q (some (decide (K xs i < K xs j))) (SortSt.mk' Xi xs P g none)) :
  wpS (model prog w) A E s (ltAt' i j) Q (SortSt.mk' Xi xs P g none):=by
 obtain⟨p,p1,_,p2⟩:=at_of hi
 obtain⟨q,q1,_,q2⟩:=at_of hj
 rw[a7 p1,a7 q1] at h
 refine Xj (wpS_get ?_)
 refine Xj (aO p1 (Xj (aO q1 ?_)))
 exact sI rfl (hI p p2) (hI q q2) h
theorem qJ{xs:Array Xg}{i j:Nat}{Q:Unit->Xh->Prop}(h:Q () (SortSt.mk' Xi (mirror xs i j ((j - i) / 2)) P g none)):wpS (model prog w) A E s (reverseSlice' i j) Q (SortSt.mk' Xi xs P g none):=by
 rw[reverseSlice'_eq]
 exact wpS_modify h
def MR(lo a m:Nat):StateT Xh Sem AscSt :=
 forIn [a:m] ((none,a):AscSt) λ_ c=>do
  match(<-ltAt' (lo+c.2) (lo+c.2 - 1)) with
  | some b=>if b=true then pure (.done (none,c.2)) else pure (.yield (none,c.2+1))
  | _=>pure (.done (some none,c.2))
theorem wM{xs:Array Xg}{lo a m:Nat}{Q:AscSt->Xh->Prop}(hI:∀p∈xs.toList,Ik p)(hm:lo+m<=xs.size)(h1:1<=a)(h2:a<=m)(hs:pP xs lo a)
  (h:∀n,a<=n->n<=m->pP xs lo n->(n=m\/K xs (lo+n) < K xs (lo+n - 1))->Q (none,n) (SortSt.mk' Xi xs P g none)):wpS (model prog w) A E s (MR lo a m) Q (SortSt.mk' Xi xs P g none):=by
 unfold MR
 refine Xk (I:=λx c st=>st=SortSt.mk' Xi xs P g none/\c=(none,x)/\pP xs lo x) ?_ ?_ ⟨rfl,rfl,hs⟩
 ·rintro x c st k1 k2 ⟨rfl,rfl,k3⟩
  dsimp only
  refine Xj (sN hI (by omega) (by omega) ?_)
  by_cases c:K xs (lo+x) < K xs (lo+x - 1)
  ·rw[decide_eq_true c]
   exact Xm (h x k1 (by omega) k3 (.inr c))
  ·rw[decide_eq_false c]
   exact Xm ⟨rfl,rfl,k3.step (by omega) c⟩
 ·rintro c st ⟨rfl,rfl,k3⟩
  rw[show max a m=m by omega] at k3 ⊢
  exact h m h2 (Nat.le_refl _) k3 (.inl rfl)
theorem sO{xs:Array Xg}{lo m:Nat}{Q:Option Nat->Xh->Prop}(hI:∀p∈xs.toList,Ik p)(hm:lo+m<=xs.size)(h1:1<=m)
  (h:∀n ys,1<=n->n<=m->Sm lo xs ys->pP ys lo n->Q (some n) (SortSt.mk' Xi ys P g none)):wpS (model prog w) A E s (countRun' lo m) Q (SortSt.mk' Xi xs P g none):=by
 refine Xj (wM hI hm (Nat.le_refl _) h1 pP.one λn n1 n2 as nd=>?_)
 dsimp -zeta only
 extract_lets+onlyGivenNames r' n'
 subst n' r'
 dsimp -zeta only
 by_cases c1:n=m
 ·rw[if_pos (by rw[c1];simp)]
  exact Xm (h n xs n1 n2 .refl as)
 rw[if_neg (by simpa using c1)]
 have lt:=nd.resolve_left c1
 extract_lets+onlyGivenNames n' q' jp
 subst q' n'
 have key:∀ys,Sm lo xs ys->(∀i,K ys i=K xs i)->Bp xs lo n->wpS (model prog w) A E s (jp ()) Q (SortSt.mk' Xi ys P g none):=by
  intro ys sm ke dn
  have UT:Bp ys lo (n+1):=(show Bp ys lo n from λi j a b=>by rw[ke,ke];exact dn i j a b).step n1 (by rw[ke,ke];omega)
  have ly:=sm.size
  have hI':=sm.ik hI
  dsimp -zeta only[jp]
  refine Xj (wpS_lift (wpAny_rule ⟨rfl,?_⟩))
  refine Xj (Xl (Xk (I:=λx c st=>∃ys q,st=SortSt.mk' Xi ys P g none/\c=(none,x,q)/\Sm lo xs ys/\Bp ys lo x/\q+1<=x/\(∀i,lo+x - (q+1)<=i->i < lo+x->K ys i=K ys (lo+x - 1)))
   (Q:=λc st=>∃ys x q,st=SortSt.mk' Xi ys P g none/\c=(none,x,q)/\n+1<=x/\x<=m/\Sm lo xs ys/\Bp ys lo x/\q+1<=x/\(∀i,lo+x - (q+1)<=i->i < lo+x->K ys i=K ys (lo+x - 1))) ?a ?b ?c) ?d)
  case c=>exact⟨ys,0,rfl,rfl,sm,UT,by omega,λi a b=>by congr 1;omega⟩
  case b=>
   rintro c st ⟨ys,q,rfl,rfl,k1,k2,k3,k4⟩
   rw[show max (n+1) m=m by omega] at k2 k3 k4 ⊢
   exact⟨ys,m,q,rfl,rfl,by omega,by omega,k1,k2,k3,k4⟩
  case a=>
   rintro x c st x1 x2 ⟨ys,q,rfl,rfl,k1,k2,k3,k4⟩
   have ly:=k1.size
   dsimp only
   refine Xj (sN (k1.ik hI) (by omega) (by omega) ?_)
   by_cases c:K ys (lo+x) < K ys (lo+x - 1)
   ·rw[decide_eq_true c]
    dsimp only
    rw[if_pos rfl]
    by_cases c2:q > 0
    ·rw[if_pos c2]
     have Je:=K_mirror_equal (xs:=ys) (i:=lo+x - (q+1)) (j:=lo+x) (by omega) k4
     refine Xj (qJ (Xm ⟨_,0,rfl,rfl,k1.trans (Sm.mirror (by omega) (by omega)),?_,by omega,λi a b=>by congr 1;omega⟩))
     refine(show Bp _ lo x from λi j a b=>by rw[Je,Je];exact k2 i j a b).step (by omega) (by rw[Je,Je];omega)
    ·rw[if_neg c2]
     exact Xm ⟨ys,0,rfl,rfl,k1,k2.step (by omega) (by omega),by omega,λi a b=>by congr 1;omega⟩
   ·rw[decide_eq_false c]
    dsimp only
    rw[if_neg (by decide)]
    refine Xj (sN (k1.ik hI) (by omega) (by omega) ?_)
    by_cases c2:K ys (lo+x - 1) < K ys (lo+x)
    ·rw[decide_eq_true c2]
     exact Xm ⟨ys,x,q,rfl,rfl,x1,by omega,k1,k2,k3,k4⟩
    ·rw[decide_eq_false c2]
     have ex:K ys (lo+x)=K ys (lo+x - 1):=by omega
     refine Xm ⟨ys,q+1,rfl,rfl,k1,k2.step (by omega) (by omega),by omega,λi a b=>?_⟩
     rw[show lo+(x+1) - 1=lo+x by omega]
     by_cases z:i=lo+x
     ·rw[z]
     ·rw[ex];exact k4 i (by omega) (by omega)
  case d=>
   rintro c st ⟨ys,x,q,rfl,rfl,x1,x2,k1,k2,k3,k4⟩
   have ly:=k1.size
   dsimp -zeta only
   clear jp
   extract_lets+onlyGivenNames r' c' n' q'
   subst q' n' c' r'
   dsimp -zeta only
   extract_lets+onlyGivenNames jp
   have key:∀zs,Sm lo xs zs->Bp zs lo x->wpS (model prog w) A E s (jp ()) Q (SortSt.mk' Xi zs P g none):=by
    intro zs sm dz
    have lz:=sm.size
    dsimp -zeta only[jp]
    have MS:=sm.trans (Sm.mirror (xs:=zs) (lo:=lo) (i:=lo) (j:=lo+x) (Nat.le_refl _) (by omega))
    have l2:=MS.size
    refine Xj (qJ (Xj (wM (MS.ik hI) (by omega) (by omega) x2 (pP.turn dz (by omega)) λn n1 n2 as _=>?_)))
    exact Xm (h n _ (by omega) n2 MS as)
   by_cases c2:q > 0
   ·rw[if_pos c2]
    have Je:=K_mirror_equal (xs:=ys) (i:=lo+x - (q+1)) (j:=lo+x) (by omega) k4
    exact Xj (qJ (key _ (k1.trans (Sm.mirror (by omega) (by omega))) λi j a b=>by rw[Je,Je];exact k2 i j a b))
   ·rw[if_neg c2]
    exact key _ k1 k2
 by_cases c2:n > 1
 ·rw[if_pos c2]
  refine Xj (sN hI (by omega) (by omega) ?_)
  by_cases c3:K xs lo < K xs (lo+n - 1)
  ·rw[decide_eq_true c3]
   exact Xm (h n xs n1 n2 .refl as)
  ·rw[decide_eq_false c3]
   have all:∀k,lo<=k->k < lo+n->K xs k=K xs (lo+n - 1):=λk q1 q2=>by
    have a1:=as 0 (k - lo) (by omega) (by omega)
    have a2:=as (k - lo) (n - 1) (by omega) (by omega)
    rw[Nat.add_zero,show lo+(k - lo)=k by omega] at a1
    rw[show lo+(k - lo)=k by omega,show lo+(n - 1)=lo+n - 1 by omega] at a2
    omega
   exact Xj (qJ (key _ (Sm.mirror (Nat.le_refl _) (by omega)) (K_mirror_equal (by omega) all) λi j a b=>by rw[all _ (by omega) (by omega),all (lo+i) (by omega) (by omega)];exact Int.le_refl _))
 ·rw[if_neg c2]
  have:n=1:=by omega
  subst this
  exact key xs .refl (λ_=>rfl) λi j a b=>by
   have:i=j:=by omega
   subst this
   exact Int.le_refl _
end
section
variable {prog:WS} {w:WV} {A:WO} {E:WU->WT->Prop} {s:WT} {P:Array (Nat×Nat×Nat)} {g:Nat}
theorem Jf{xs:Array Xg}{lo n ok:Nat}{Q:Bool->Xh->Prop}(hI:∀p∈xs.toList,Ik p)(hn:lo+n<=xs.size)(hok:ok<=n)(as:pP xs lo ok)
  (h:∀ys,Sm lo xs ys->pP ys lo n->Q true (SortSt.mk' Xi ys P g none)):wpS (model prog w) A E s (binarySort' lo n ok) Q (SortSt.mk' Xi xs P g none):=by
 refine Xj (Xl (Xk (I:=λk c st=>∃ys,st=SortSt.mk' Xi ys P g none/\c=(none,())/\Sm lo xs ys/\pP ys lo (min k n))
  (Q:=λc st=>∃ys,st=SortSt.mk' Xi ys P g none/\c=(none,())/\Sm lo xs ys/\pP ys lo n) ?a ?b ?c) ?d)
 case d=>
  rintro c st ⟨ys,rfl,rfl,k1,k2⟩
  exact Xm (h ys k1 k2)
 case c=>
  refine⟨xs,rfl,rfl,.refl,λi j hij hj=>?_⟩
  by_cases z:ok=0
  ·have:i=j:=by omega
   subst this;exact Int.le_refl _
  ·exact as i j hij (by omega)
 case b=>
  rintro c st ⟨ys,rfl,rfl,k1,k2⟩
  rw[show min (max (max ok 1) n) n=n by omega] at k2
  exact⟨ys,rfl,rfl,k1,k2⟩
 case a=>
  rintro k c st kk WA ⟨ys,rfl,rfl,k1,k2⟩
  rw[show min k n=k by omega] at k2
  have ly:=k1.size
  refine Xj (Xl (Xk (I:=λx c st=>st=SortSt.mk' Xi ys P g none/\∃l r,c=(none,l,r)/\l<=r/\r<=k/\r - l<=k - x/\(∀i,i < l->K ys (lo+i)<=K ys (lo+k))/\(∀i,r<=i->i < k->K ys (lo+k) < K ys (lo+i)))
   (Q:=λc st=>st=SortSt.mk' Xi ys P g none/\∃l,c=(none,l,l)/\l<=k/\(∀i,i < l->K ys (lo+i)<=K ys (lo+k))/\(∀i,l<=i->i < k->K ys (lo+k) < K ys (lo+i))) ?e ?f ?g) ?h)
  case g=>exact⟨rfl,0,k,rfl,by omega,by omega,by omega,λi hi=>by omega,λi a b=>by omega⟩
  case f=>
   rintro c st ⟨rfl,l,r,rfl,q1,q2,q3,q4,q5⟩
   have:l=r:=by omega
   subst this
   exact⟨rfl,l,rfl,q2,q4,q5⟩
  case e=>
   rintro x c st _ xk ⟨rfl,l,r,rfl,q1,q2,q3,q4,q5⟩
   dsimp only
   by_cases c:l >= r
   ·rw[if_pos c]
    have:l=r:=by omega
    subst this
    exact Xm ⟨rfl,l,rfl,q2,q4,q5⟩
   ·rw[if_neg c]
    refine Xj (sN (k1.ik hI) (by omega) (by omega) ?_)
    by_cases c2:K ys (lo+k) < K ys (lo+(l+r) / 2)
    ·rw[decide_eq_true c2]
     refine Xm ⟨rfl,l,(l+r) / 2,rfl,by omega,by omega,by omega,q4,λi a b=>?_⟩
     exact Int.lt_of_lt_of_le c2 (k2 _ _ a b)
    ·rw[decide_eq_false c2]
     refine Xm ⟨rfl,(l+r) / 2+1,r,rfl,by omega,by omega,by omega,λi a=>?_,q5⟩
     exact Int.le_trans (k2 i ((l+r) / 2) (by omega) (by omega)) (Int.not_lt.mp c2)
  case h=>
   rintro c st ⟨rfl,l,rfl,q2,q4,q5⟩
   show wpS _ _ _ _ (do moveDown' (lo+k) (lo+l);pure (ForInStep.yield (none,()))) _ _
   rw[moveDown'_eq]
   have bs:lo+k < ys.size:=by omega
   have bd:lo+k - (lo+l)<=lo+k:=by omega
   refine Xj (wpS_modify (Xm ⟨_,rfl,rfl,k1.trans ⟨bubble_perm _ _ _,λi hi=>?_⟩,?_⟩))
   ·rw[getElem?_bubble bs _ bd,if_neg (by omega),if_neg (by omega)]
   ·rw[show min (k+1) n=k+1 by omega]
    intro i j hij hj
    have val:∀i,i<=k->K (bubble ys (lo+k) (lo+k - (lo+l))) (lo+i)=if i=l then K ys (lo+k) else if l < i then K ys (lo+(i - 1)) else K ys (lo+i):=λi hi=>by
     rw[K_bubble bs bd,show lo+k - (lo+k - (lo+l))=lo+l by omega]
     by_cases c1:i=l
     ·rw[if_pos (by omega),if_pos c1]
     ·rw[if_neg (by omega),if_neg c1]
      by_cases c2:l < i
      ·rw[if_pos (by omega),if_pos c2,show lo+i - 1=lo+(i - 1) by omega]
      ·rw[if_neg (by omega),if_neg c2]
    show K (bubble ys (lo+k) (lo+k - (lo+l))) (lo+i)<=K (bubble ys (lo+k) (lo+k - (lo+l))) (lo+j)
    rw[val i (by omega),val j (by omega)]
    repeat' split
    all_goals first | (exfalso;omega) | exact Int.le_refl _ | exact q4 _ (by omega) | exact Int.le_of_lt (q5 _ (by omega) (by omega)) | exact k2 _ _ (by omega) (by omega)
end
inductive Rn:Nat->List (Nat×Nat×Nat)->List Xg->Prop
 | nil {s:Nat}:Rn s [] []
 | cons {s n p:Nat} {P:List (Nat×Nat×Nat)} {A X:List Xg}:A.length=n->1<=n->Up A->Rn (s+n) P X->Rn s ((s,n,p)::P) (A++X)
theorem Rn.split:∀{pre r:List (Nat×Nat×Nat)}{s:Nat}{X:List Xg},Rn s (pre++r) X->∃X1 X2,X=X1++X2/\Rn s pre X1/\Rn (s+X1.length) r X2
 | [],r,s,X,h=>⟨[],X,rfl,.nil,h⟩
 | a::pre,r,s,X,h=>by
  cases h with
  | cons h1 h2 h3 h4=>
   obtain⟨X1,X2,rfl,k1,k2⟩:=h4.split
   refine⟨_++X1,X2,(List.append_assoc _ _ _).symm,.cons h1 h2 h3 k1,?_⟩
   rw[List.length_append,h1,<-Nat.add_assoc]
   exact k2
theorem Rn.join:∀{pre r:List (Nat×Nat×Nat)}{s:Nat}{X1 X2:List Xg},Rn s pre X1->Rn (s+X1.length) r X2->Rn s (pre++r) (X1++X2)
 | [],r,s,X1,X2,h,k=>by cases h;exact k
 | a::pre,r,s,X1,X2,h,k=>by
  cases h with
  | cons h1 h2 h3 h4=>
   rw[List.append_assoc]
   refine .cons h1 h2 h3 (h4.join ?_)
   rw[List.length_append,h1,<-Nat.add_assoc] at k
   exact k
theorem Rn.len:∀{P:List (Nat×Nat×Nat)}{s:Nat}{X:List Xg},Rn s P X->P.length<=X.length
 | [],s,X,h=>Nat.zero_le _
 | a::P,s,X,h=>by
  cases h with
  | cons h1 h2 h3 h4=>
   have:=h4.len
   rw[List.length_append,List.length_cons]
   omega
theorem Rn.few{P:List (Nat×Nat×Nat)}{s:Nat}{X:List Xg}(h:Rn s P X)(l:P.length<=1):Up X:=by
 cases h with
 | nil=>exact .nil
 | cons h1 h2 h3 h4=>
  cases h4 with
  | nil=>rw[List.append_nil];exact h3
  | cons _ _ _ _=>simp at l
section
variable {prog:WS} {w:WV} {A₀:WO} {E:WU->WT->Prop} {s:WT}
theorem pQ{xs:Array Xg}{g0 i:Nat}{P:List (Nat×Nat×Nat)}{X Y:List Xg}{Q:Bool->Xh->Prop}(hi:i+1 < P.length)(hR:Rn 0 P X)(e:xs.toList=X++Y)(hI:∀p∈xs.toList,Ik p)
  (h:∀P' X' ys g,P'.length+1=P.length->Rn 0 P' X'->X'.Perm X->ys.toList=X'++Y->Q true (SortSt.mk' Xi ys P'.toArray g none)) :
  wpS (model prog w) A₀ E s (mergeAt' i) Q (SortSt.mk' Xi xs P.toArray g0 none):=by
 obtain⟨⟨sa,na,pw⟩,⟨sb,nb,p2⟩,post,eP⟩:∃a b post,P=P.take i++a::b::post:=by
  refine⟨P[i],P[i+1],P.drop (i+2),?_⟩
  rw[<-List.drop_eq_getElem_cons hi,<-List.drop_eq_getElem_cons (by omega),List.take_append_drop]
 have li:(P.take i).length=i:=by rw[List.length_take];omega
 generalize P.take i=pre at eP li
 subst eP li
 obtain⟨X1,X2,rfl,k1,k2⟩:=hR.split
 rw[Nat.zero_add] at k2
 cases k2 with
 | cons a1 a2 a3 a4=>
  cases a4 with
  | cons b1 b2 b3 b4=>
   rename_i A B' X2
   refine vc (L:=X1) (A:=A) (B:=B') (S:=X2++Y) (by rw[e];simp) hI rfl a1 b1 rfl a2 b2 a3 b3 λC ys g c1 c2 c3=>?_
   refine h _ (X1++(C++X2)) ys g (by simp;omega) (k1.join ?_) ((c1.append_right X2).trans (by rw[List.append_assoc]) |>.append_left X1) (by rw[c3];simp)
   rw[Nat.zero_add]
   refine .cons (by rw[c1.length_eq,List.length_append,a1,b1]) (by omega) c2 ?_
   rw[<-Nat.add_assoc]
   exact b4
end
section
variable {prog:WS} {w:WV} {A₀:WO} {E:WU->WT->Prop} {s:WT}
theorem Rn.power{pw:Nat}:∀{P:List (Nat×Nat×Nat)}{i s:Nat}{X:List Xg},Rn s P X->Rn s (P.modify i λx=>(x.1,x.2.1,pw)) X
 | [],i,s,X,h=>by rw[List.modify_nil];exact h
 | a::P,0,s,X,h=>by
  cases h with
  | cons h1 h2 h3 h4=>exact .cons h1 h2 h3 h4
 | a::P,i+1,s,X,h=>by
  cases h with
  | cons h1 h2 h3 h4=>exact .cons h1 h2 h3 h4.power
def Wt(xs:Array Xg)(lo:Nat)(Z:List Xg)(st:Xh):Prop:=∃ys P X g,st=SortSt.mk' Xi ys (List.toArray P) g none/\ys.Perm xs/\ys.toList=X++Z/\X.length=lo/\Rn 0 P X
def P9(xs:Array Xg)(x:Nat)(r:ForInStep (Option Unit×Nat))(st:Xh):Prop:=match r with
 | .done c=>c=(none,xs.size)/\∃Z,Wt xs xs.size Z st
 | .yield c=>∃lo,c=(none,lo)/\x+1<=lo/\lo<=xs.size/\∃Z,Wt xs lo Z st
def UU(xs:Array Xg)(x:Nat)(r:ForInStep (Option Unit×Unit))(st:Xh):Prop:=match r with
 | .done c=>c=(none,())/\∃ys P X g,st=SortSt.mk' Xi ys (List.toArray P) g none/\ys.Perm xs/\ys.toList=X++[]/\Rn 0 P X/\P.length<=1
 | .yield c=>c=(none,())/\∃ys P X g,st=SortSt.mk' Xi ys (List.toArray P) g none/\ys.Perm xs/\ys.toList=X++[]/\Rn 0 P X/\(P.length<=1\/P.length+(x+1)<=xs.size)
theorem Sm.lists{lo:Nat}{ys zs:Array Xg}{X Y:List Xg}(sm:Sm lo ys zs)(e:ys.toList=X++Y)(l:X.length=lo):zs.toList=X++zs.toList.drop lo:=by
 have:zs.toList.take lo=X:=by
  have e1:ys.toList.take lo=X:=by rw[e,<-l,List.take_left'];rfl
  rw[<-e1]
  apply List.ext_getElem?
  intro i
  by_cases c:i < lo
  ·rw[List.getElem?_take_of_lt c,List.getElem?_take_of_lt c,Array.getElem?_toList,Array.getElem?_toList]
   exact sm.2 i c
  ·rw[List.getElem?_eq_none (by rw[List.length_take];omega),List.getElem?_eq_none (by rw[List.length_take];omega)]
 exact(List.take_append_drop lo zs.toList).symm.trans (by rw[this])
theorem pP.up{zs:Array Xg}{lo n:Nat}(as:pP zs lo n)(h:lo+n<=zs.size):Up ((zs.toList.drop lo).take n):=by
 unfold Up
 rw[List.pairwise_iff_getElem]
 intro i j hi hj hij
 rw[List.length_take,List.length_drop] at hi hj
 have hz:zs.toList.length=zs.size:=rfl
 have:=as i j (by omega) (by omega)
 rw[a7 (Array.getElem?_eq_getElem (by omega)),a7 (Array.getElem?_eq_getElem (by omega))] at this
 simpa using this
theorem sP{xs:Array Xg}{Q:Unit->Xh->Prop}(hI:∀p∈xs.toList,Ik p)
  (h:∀ys P g,ys.Perm xs->Up ys.toList->Q () (SortSt.mk' Xi ys P g none)):wpS (model prog w) A₀ E s sortRuns' Q (SortSt.mk' Xi xs #[] 7 none):=by
 have P_:∀{ys:Array Xg},ys.Perm xs->∀p∈ys.toList,Ik p:=λk p hp=>hI p ((Array.perm_iff_toList_perm.mp k).mem_iff.mp hp)
 refine Xj (wpS_get ?_)
 dsimp -zeta only
 extract_lets+onlyGivenNames size Bq lo
 have hsize:size=xs.size:=rfl
 clear_value size Bq
 subst hsize lo
 refine Xj (Xl (Xk (I:=λx c st=>∃lo,c=(none,lo)/\x<=lo/\lo<=xs.size/\∃Z,Wt xs lo Z st)
  (Q:=λc st=>c=(none,xs.size)/\∃Z,Wt xs xs.size Z st) ?a ?b ?c) ?d)
 case c=>exact⟨0,rfl,Nat.le_refl _,Nat.zero_le _,xs.toList,xs,[],[],7,rfl,.refl _,rfl,rfl,.nil⟩
 case b=>
  rintro c st ⟨lo,rfl,k1,k2,k3⟩
  have:lo=xs.size:=by omega
  subst this
  exact⟨rfl,k3⟩
 case d=>
  rintro c st ⟨rfl,Y,ys,P,X,g,rfl,k1,k2,k3,k4⟩
  have:Y=[]:=by
   have:=congrArg List.length k2
   rw[List.length_append,Array.length_toList,k1.size_eq] at this
   exact List.length_eq_zero_iff.mp (by omega)
  subst this
  have pl:=k4.len
  dsimp only
  refine Xj (Xl (Xk (I:=λx c st=>c=(none,())/\∃ys P X g,st=SortSt.mk' Xi ys (List.toArray P) g none/\ys.Perm xs/\ys.toList=X++[]/\Rn 0 P X/\(P.length<=1\/P.length+x<=xs.size))
   (Q:=λc st=>c=(none,())/\∃ys P X g,st=SortSt.mk' Xi ys (List.toArray P) g none/\ys.Perm xs/\ys.toList=X++[]/\Rn 0 P X/\P.length<=1) ?e ?f ?g) ?h)
  case g=>exact⟨rfl,ys,P,X,g,rfl,k1,k2,k4,.inr (by omega)⟩
  case f=>
   rintro c st ⟨rfl,ys,P,X,g,rfl,k1,k2,k3,k4⟩
   exact⟨rfl,ys,P,X,g,rfl,k1,k2,k3,by omega⟩
  case h=>
   rintro c st ⟨rfl,ys,P,X,g,rfl,k1,k2,k3,k4⟩
   refine Xm (h ys _ g k1 ?_)
   rw[k2,List.append_nil]
   exact k3.few k4
  case e=>
   rintro x c st _ hx ⟨rfl,ys,P,X,g,rfl,k1,k2,k3,k4⟩
   refine Xj (wpS_get ?_)
   dsimp only
   by_cases c1:P.toArray.size<=1
   ·rw[if_pos c1]
    exact Xm ⟨rfl,ys,P,X,g,rfl,k1,k2,k3,c1⟩
   rw[if_neg c1]
   have WB:¬P.length<=1:=c1
   refine Xl (Q:=UU xs x) ?_ λr st' h=>by cases r<;>exact h
   have sz:P.toArray.size=P.length:=rfl
   refine Xj (pQ ?_ k3 k2 (P_ k1) λP' X' zs g' l1 l2 l3 l4=>?_)
   ·repeat' split
    all_goals omega
   ·rw[if_neg (by decide)]
    refine Xm ⟨rfl,zs,P',X',g',rfl,?_,l4,l2,.inr (by omega)⟩
    refine Array.Perm.trans (Array.perm_iff_toList_perm.mpr ?_) k1
    rw[l4,k2]
    exact l3.append_right _
 case a=>
  rintro x c st _ hx ⟨lo,rfl,k1,k2,Y,ys,P,X,g,rfl,k3,k4,k5,k6⟩
  have hI':=P_ k3
  dsimp -zeta only
  by_cases c1:lo >= xs.size
  ·rw[if_pos c1]
   have:lo=xs.size:=by omega
   subst this
   exact Xm ⟨rfl,Y,ys,P,X,g,rfl,k3,k4,k5,k6⟩
  rw[if_neg c1]
  refine Xl (Q:=P9 xs x) ?_ λr st' h=>by cases r<;>exact h
  have sy:=k3.size_eq
  refine Xj (sO hI' (by omega) (by omega) λn zs n1 n2 sm as=>?_)
  dsimp -zeta only
  extract_lets+onlyGivenNames n' jp
  subst n'
  have key:∀n zs,1<=n->lo+n<=xs.size->Sm lo ys zs->pP zs lo n->wpS (model prog w) A₀ E s (jp () n) (P9 xs x) (SortSt.mk' Xi zs P.toArray g none):=by
   intro n zs n1 n2 sm as
   dsimp -zeta only[jp]
   clear jp
   refine Xj (wpS_get ?_)
   have sz:=sm.size
   have up:=as.up (by omega)
   have ez:=sm.lists k4 k5
   have lA:((zs.toList.drop lo).take n).length=n:=by
    rw[List.length_take,List.length_drop,Array.length_toList]
    omega
   rw[<-List.take_append_drop n (zs.toList.drop lo)] at ez
   generalize (zs.toList.drop lo).take n=A at ez up lA
   generalize (zs.toList.drop lo).drop n=Z at ez
   extract_lets+onlyGivenNames lo' jp
   subst lo'
   have key:∀us P X g,Array.Perm us xs->us.toList=X++(A++Z)->X.length=lo->Rn 0 P X->wpS (model prog w) A₀ E s (jp ()) (P9 xs x) (SortSt.mk' Xi us (List.toArray P) g none):=by
    intro us P X g l1 l2 l3 l4
    dsimp -zeta only[jp]
    refine Xj (wpS_modify (Xm ⟨lo+n,rfl,by omega,by omega,Z,us,P++[(lo,n,0)],X++A,g,?_,l1,by rw[l2];simp,by rw[List.length_append];omega,?_⟩))
    ·show SortSt.mk' _ _ (P.toArray.push (lo,n,0)) _ _=_
     rw[List.push_toArray]
    ·refine l4.join ?_
     rw[Nat.zero_add,l3]
     have:=Rn.cons (p:=0) lA n1 up (Rn.nil (s:=lo+n))
     rw[List.append_nil] at this
     exact this
   have z1:Array.Perm zs xs:=sm.1.trans k3
   clear_value jp
   dsimp -zeta only
   split
   ·rename_i s1 WC _ _
    extract_lets+onlyGivenNames pw
    clear_value pw
    refine Xj (Xl (Xk (I:=λx c st=>c=(none,())/\Wt xs lo (A++Z) st) (Q:=λc st=>c=(none,())/\Wt xs lo (A++Z) st) ?e ?f ?g) ?h)
    case g=>exact⟨rfl,zs,P,X,g,rfl,z1,ez,k5,k6⟩
    case f=>exact λ_ _ z=>z
    case h=>
     rintro c st ⟨rfl,us,P,X,g,rfl,l1,l2,l3,l4⟩
     dsimp only
     refine Xj (wpS_modify ?_)
     have:=key us (P.modify (P.length - 1) λx=>(x.1,x.2.1,pw)) X g l1 l2 l3 l4.power
     rw[<-List.modify_toArray] at this
     exact this
    case e=>
     rintro y c st _ hy ⟨rfl,us,P,X,g,rfl,l1,l2,l3,l4⟩
     refine Xj (wpS_get ?_)
     dsimp only
     split
     ·rename_i o1 o2 older oe
      by_cases c2:older<=pw
      ·rw[if_pos c2]
       exact Xm ⟨rfl,us,P,X,g,rfl,l1,l2,l3,l4⟩
      ·rw[if_neg c2]
       have hi:P.toArray.size - 2+1 < P.length:=by
        have sz:P.toArray.size=P.length:=rfl
        by_cases c3:P.toArray.size > 1
        ·omega
        ·rw[if_neg c3] at oe
         cases oe
       refine Xj (pQ hi l4 l2 (P_ l1) λP' X' zs g' q1 q2 q3 q4=>?_)
       rw[if_neg (by decide)]
       refine Xm ⟨rfl,zs,P',X',g',rfl,Array.Perm.trans (Array.perm_iff_toList_perm.mpr ?_) l1,q4,by rw[q3.length_eq];exact l3,q2⟩
       rw[q4,l2]
       exact q3.append_right _
     ·exact Xm ⟨rfl,us,P,X,g,rfl,l1,l2,l3,l4⟩
   ·exact key zs P X g z1 ez k5 k6
  by_cases c2:n < Bq
  ·rw[if_pos c2]
   have sz:=sm.size
   refine Xj (wpS_lift (wpAny_rule ⟨rfl,?_⟩))
   refine Xj (Jf (sm.ik hI') (by omega) (by omega) as λus MS UW=>?_)
   rw[if_neg (by decide)]
   exact key _ us (by omega) (by omega) (sm.trans MS) UW
  ·rw[if_neg c2]
   exact key n zs n1 (by omega) sm as
end
section
variable {prog:WS} {w:WV} {A:WO} {E:WU->WT->Prop} {s:WT}
theorem MT{xs:Array Xg}(h:Up xs.toList):SortedTo xs xs.size:=λ_ _ h1 h2=>kj h h1 h2
theorem ve{a:WN}{vs:List WU}{ns:List Int}{n:Nat}{P:PySem.Fin->WT->Prop}(ho:s.heap.get? a=some (seqObj "list" vs.toArray n))(hI:IntsAre vs ns)(h2:2<=vs.length)(hz:vs.length<=W6)
  (k:∀(out:Array WU)(ms:List Int),IntsAre out.toList ms->ms.Perm ns->ms.Pairwise (· <=·)->P (.done (.ret .none)) { s with heap:=sortedHeap s.heap a vs out }):W8 (model prog w) A (Builtin.«list.sort» ⟨[.ref a],[]⟩) P E s:=by
 rw[list_sort_plain]
 have lt:a < s.heap.objs.size:=Heap.lt_size ho
 have z:vs.toArray.size=vs.length:=List.size_toArray
 refine W9 (listItems_at ho rfl (W9 (listUpdate_at ho rfl ?_ (by rw[z];exact hz) (Nat.zero_le _))))
 obtain⟨e,o1⟩:∃e,(s.heap.update a (Obj.mapSeq λ_=>#[])).get? a=some (seqObj "list" #[] e):=⟨_,get?_update_seq ho (λ_=>#[])⟩
 refine W9 (seqEpoch_at o1 rfl (W9 (wpAny_newTuple ?_ hz)))
 refine W9 (Xb ?_ (Nat.zero_le _))
 refine W' ?_
 have o6:(((s.heap.update a (Obj.mapSeq λ_=>#[])).push (seqObj "tuple" vs.toArray 0)).push (seqObj "list" #[] 0)).get? a=some (seqObj "list" #[] e):=by
  rw[Heap.get?_push_ne,Heap.get?_push_ne]
  ·exact o1
  ·rw[Heap.size_update];exact Nat.ne_of_lt lt
  ·rw[size_push',Heap.size_update];exact Nat.ne_of_lt (Nat.lt_succ_of_lt lt)
 show W8 (model prog w) A _ P E { s with heap:=((s.heap.update a (Obj.mapSeq λ_=>#[])).push (seqObj "tuple" vs.toArray 0)).push (seqObj "list" #[] 0) }
 have c2:¬vs.toArray.size < 2:=by omega
 obtain⟨x,y,r,rfl⟩:∃x y r,vs=x::y::r:=by
  match vs,h2 with
  | x::y::r,_=>exact⟨x,y,r,rfl⟩
 rw[if_neg c2,if_neg c2,keyKind_ints hI]
 refine W9 (Xe ?_)
 refine W9 (Xa (sP (xs:=pairsOf (x::y::r)) (Q:=λ_ st=>∃ys Pd g,st=SortSt.mk' Xi ys Pd g none/\ys.Perm (pairsOf (x::y::r))/\Up ys.toList) (λp hp=>hI.intKeys p hp) λys Pd g p u=>⟨ys,Pd,g,rfl,p,u⟩) ?_ λ_ _ e=>e)
 rintro⟨⟨⟩,st⟩ s' ⟨rfl,ys,Pd,g,rfl,pm,up⟩
 obtain⟨ms,q1,q2,q3⟩:=sorted_out hI pm (by rw[<-pm.size_eq];exact MT up)
 dsimp only
 refine W9 (seqEpoch_at o6 rfl ?_)
 refine W9 (listUpdate_at o6 rfl ?_ (Nat.zero_le _) (by rw[Array.size_map,pm.size_eq,pairsOf_size];omega))
 simp only[bne_self_eq_false,Bool.false_eq_true,if_false]
 exact Xe (k _ ms q1 q2 q3)
theorem sQ{l:WN}{vs:List WU}{ns:List Int}{Q:WU->WT->Prop}(hl:s.heap.IsList l vs.toArray)(hI:IntsAre vs ns)(h2:2<=vs.length)(hz:vs.length<=W6)
  (k:∀(out:Array WU)(ms:List Int),IntsAre out.toList ms->ms.Perm ns->ms.Pairwise (· <=·)->Q (.ref (s.heap.objs.size+1)) { s with heap:=sortedAll s.heap vs out }):W8 (model prog w) A (call (.builtin "sorted") [.ref l]) Q E s:=by
 refine Calls.call_function_entry kind_sorted plain_sorted entry_sorted (args_sorted1 _) ?_
 unfold Builtin.«sorted»
 refine W9 (m:=checkCount "sorted" 1 1 _) (Xe (W9 (collect_list hl ?_ hz)))
 refine W9 (Xb ?_ hz)
 have z:((s.heap.push (seqObj "list" #[] 0)).update s.heap.objs.size (Obj.mapSeq (· ++vs.toArray))).objs.size=s.heap.objs.size+1:=by rw[Heap.size_update,size_push']
 have o:(((s.heap.push (seqObj "list" #[] 0)).update s.heap.objs.size (Obj.mapSeq (· ++vs.toArray))).push (seqObj "list" vs.toArray 0)).get? (s.heap.objs.size+1)=some (seqObj "list" vs.toArray 0):=by
  rw[<-z]
  exact Heap.get?_push_size _ rfl
 show W8 _ _ _ _ _ { s with heap:=((s.heap.push (seqObj "list" #[] 0)).update s.heap.objs.size (Obj.mapSeq (· ++vs.toArray))).push (seqObj "list" vs.toArray 0) }
 rw[z]
 refine W9 (W' (wpAny_call_entry slot_list_sort ⟨_,o,rfl⟩ entry_list_sort (ve o hI h2 hz λout ms a1 a2 a3=>⟨_,rfl,?_⟩) (args_list_sort _)))
 exact Xe ⟨_,rfl,k out ms a1 a2 a3⟩
theorem vf{l:WN}{vs:List WU}{ns:List Int}{Q:WU->WT->Prop}(hl:s.heap.IsList l vs.toArray)(hI:IntsAre vs ns)(hz:vs.length<=W6)
  (k:∀(out:Array WU)(ms:List Int),IntsAre out.toList ms->ms.Perm ns->ms.Pairwise (· <=·)->Q (.ref (s.heap.objs.size+1)) { s with heap:=sortedAll s.heap vs out }):W8 (model prog w) A (call (.builtin "sorted") [.ref l]) Q E s:=by
 by_cases c:2<=vs.length
 ·exact sQ hl hI c hz k
 ·exact sorted_ints hl hI (by omega) k
end
end JL
namespace J
open PySem PySem.Spec PyProof.Rows L2
section
variable {X:Cx}
def intsOf:List Wv->Option (List Int)
  | []=>some []
  | .int b::r=>(match intsOf r with | some l=>some (b::l) | none=>none)
  | _=>none
theorem bT:∀ns:List Int,intsOf (ns.map Wv.int)=some ns
  | []=>rfl
  | n::r=>by rw[List.map_cons];unfold intsOf;rw[bT r]
theorem bU{K:PySem.W.Frag}{m:Mp}{H:Hp}:∀{ws:List Wv}{xs:List V}{bs:List Int},ah K m H ws xs->intsOf ws=some bs->xs=bs.map V.int
  | [],xs,bs,r,h=>by
    unfold ah at r
    cases h
    exact r
  | w::ws,xs,bs,r,h=>by
    unfold ah at r
    obtain⟨x,t,rfl,r1,r2⟩:=r
    cases w with
    | int b=>
      unfold intsOf at h
      cases e:intsOf ws with
      | none=>rw[e] at h;cases h
      | some l=>
        rw[e] at h
        cases h
        unfold af at r1
        rw[r1,bU r2 e]
        rfl
    | _=>cases h
theorem dN:∀{ns:List Int}{its:List WU},Vals (ns.map V.int) its->∃xs:List (Int×Tok),its=xs.map (λp=>Value.int p.1 p.2)/\xs.map (·.1)=ns
  | [],its,r=>by cases r;exact⟨[],rfl,rfl⟩
  | n::ns,its,r=>by
    cases r with
    | cons h t=>
      obtain⟨tk,rfl⟩:=h
      obtain⟨xs,e1,e2⟩:=dN t
      exact⟨(n,tk)::xs,by rw[e1];rfl,by rw[<-e2];rfl⟩
theorem intsAre_of:∀xs:List (Int×Tok),IntsAre (xs.map λp=>Value.int p.1 p.2) (xs.map (·.1))
  | []=> .nil
  | p::r=> .cons p.1 p.2 (intsAre_of r)
theorem lh:∀{vs:List WU}{ns:List Int},IntsAre vs ns->Vals (ns.map V.int) vs
  | _,_,.nil=> .nil
  | _,_,.cons n t r=> .cons ⟨t,rfl⟩ (lh r)
theorem eG(xs:List (Int×Tok))(i:Nat):numAt xs.toArray i=(xs.map (·.1)).getD i 0:=by
  unfold numAt
  rw[List.getElem?_toArray,List.getD_eq_getElem?_getD,List.getElem?_map]
theorem nk(xs:List (Int×Tok)):∀k,preSum (numAt xs.toArray) k=((xs.map (·.1)).take k).sum
  | 0=>by simp[preSum]
  | k+1=>by
    unfold preSum
    rw[nk xs k,eG]
    rw[PySem.sum_take_succ]
theorem yE(hc:X.calm=true):b_ X (.builtin "sum") (λxs H Q=>∃(p:WN)(ns:List Int),xs=[.ref p]/\gZ X.K H p (ns.map V.int)/\Q (.int ns.sum) H):=by
  intro pins s σ H xs us Q I r h
  obtain⟨p,ns,rfl,hq,q⟩:=h
  obtain⟨u,rfl,rx⟩:=vals1 r
  cases rx
  obtain⟨its,r',pl,hz⟩:=I.list hq
  obtain⟨xs,rfl,rfl⟩:=dN r'
  have hl:=pl.isList
  have e:(xs.map λp=>Value.int p.1 p.2).toArray=intItems xs.toArray:=by unfold intItems;simp
  rw[e] at hl
  refine sum_intListG (I.ok.hd hc) hl λh' tk t' hk=>⟨.int _,H,I.kept hk,⟨t',?_⟩,q⟩
  rw[nk,List.take_of_length_le (by simp)]
def ko:List Wv->Hs->Re Wv
  | [.ref l],st=>match ag st l with
    | some ws=>(match intsOf ws with | some ns=> .ok (.int ns.sum) st | none=> .bad)
    | none=> .bad
  | _,_=> .bad
theorem Jg(hc:X.calm=true):bC X (.builtin "sum") ko:=⟨_,yE hc,λws vs st H m Q S rs p=>by
  match ws,rs,p with
  | [],rs,p=>exact False.elim p
  | x::y::t,rs,p=>cases x<;>exact False.elim p
  | [x],rs,p=>
    obtain⟨v,rfl,r1⟩:=il rs
    cases x with
    | ref l=>
      unfold ko at p
      unfold af at r1
      obtain⟨a,rfl,hl⟩:=r1
      cases e:ag st l with
      | none=>simp only[e] at p;exact False.elim p
      | some ws=>
        simp only[e] at p
        cases e2:intsOf ws with
        | none=>simp only[e2] at p;exact False.elim p
        | some bs=>
          simp only[e2] at p
          obtain⟨xs,q1,q2⟩:=S.read hl e
          have q3:=bU q2 e2
          subst q3
          exact⟨a,bs,rfl,q1,p _ m H Ext.refl S mkInt⟩
    | _=>exact False.elim p⟩
def fm(n:Int)(r:List Int):Int:=r.foldl (λa b=>if b > a then b else a) n
def fH(n:Int)(r:List Int):Int:=r.foldl (λa b=>if b < a then b else a) n
theorem nr:∀(r:List Int)(n:Int),fm n r∈n::r/\∀a∈n::r,a<=fm n r
  | [],n=>by simp[fm]
  | b::r,n=>by
    have e:fm n (b::r)=fm (if b > n then b else n) r:=rfl
    obtain⟨h1,h2⟩:=nr r (if b > n then b else n)
    rw[e]
    constructor
    · rcases List.mem_cons.mp h1 with z | z
      · rw[z];split<;>simp
      · simp[z]
    · intro a ha
      have hn:n<=fm (if b > n then b else n) r/\b<=fm (if b > n then b else n) r:=by
        have q:=h2 _ List.mem_cons_self
        revert q
        split<;>intro q<;>constructor<;>omega
      rcases List.mem_cons.mp ha with z | z
      · rw[z];exact hn.1
      · rcases List.mem_cons.mp z with z | z
        · rw[z];exact hn.2
        · exact h2 a (List.mem_cons_of_mem _ z)
theorem nu:∀(r:List Int)(n:Int),fH n r∈n::r/\∀a∈n::r,fH n r<=a
  | [],n=>by simp[fH]
  | b::r,n=>by
    have e:fH n (b::r)=fH (if b < n then b else n) r:=rfl
    obtain⟨h1,h2⟩:=nu r (if b < n then b else n)
    rw[e]
    constructor
    · rcases List.mem_cons.mp h1 with z | z
      · rw[z];split<;>simp
      · simp[z]
    · intro a ha
      have hn:fH (if b < n then b else n) r<=n/\fH (if b < n then b else n) r<=b:=by
        have q:=h2 _ List.mem_cons_self
        revert q
        split<;>intro q<;>constructor<;>omega
      rcases List.mem_cons.mp ha with z | z
      · rw[z];exact hn.1
      · rcases List.mem_cons.mp z with z | z
        · rw[z];exact hn.2
        · exact h2 a (List.mem_cons_of_mem _ z)
theorem pR{n M:Int}{r:List Int}(h:M∈n::r)(k:∀a∈n::r,a<=M):M=fm n r:=by
  obtain⟨h1,h2⟩:=nr r n
  have:=h2 M h
  have:=k _ h1
  omega
theorem wN{n M:Int}{r:List Int}(h:M∈n::r)(k:∀a∈n::r,M<=a):M=fH n r:=by
  obtain⟨h1,h2⟩:=nu r n
  have:=h2 M h
  have:=k _ h1
  omega
theorem fZ{l:List Int}{i:Nat}(h:i < l.length):l.getD i 0∈l:=by
  rw[List.getD_eq_getElem?_getD,List.getElem?_eq_getElem h]
  exact List.getElem_mem h
theorem yF(hc:X.calm=true):b_ X (.builtin "max") (λxs H Q=>∃(p:WN)(n:Int)(ns:List Int),xs=[.ref p]/\gZ X.K H p ((n::ns).map V.int)/\Q (.int (fm n ns)) H):=by
  intro pins s σ H xs us Q I r h
  obtain⟨p,n,ns,rfl,hq,q⟩:=h
  obtain⟨u,rfl,rx⟩:=vals1 r
  cases rx
  obtain⟨its,r',pl,hz⟩:=I.list hq
  obtain⟨xs,rfl,e0⟩:=dN r'
  have hl:=pl.isList
  have e:(xs.map λp=>Value.int p.1 p.2).toArray=intItems xs.toArray:=by unfold intItems;simp
  rw[e] at hl
  have hsz:xs.length=(n::ns).length:=by rw[<-e0];simp
  have hs0:0 < xs.toArray.size:=by simp[hsz]
  refine max_intList (I.ok.hd hc) hl hs0 λv h' tk hv hk=>?_
  obtain⟨t,rfl⟩:=intItems_at hv
  obtain⟨h1,h2⟩:=PySem.argBest_gt (numAt xs.toArray) (xs.toArray.size - 1)
  refine⟨.int _,H,I.kept hk,⟨t,?_⟩,q⟩
  congr 1
  have hn:=λi=>eG xs i
  rw[e0] at hn
  refine pR ?_ λa ha=>?_
  · rw[hn]
    refine fZ ?_
    have:xs.toArray.size=(n::ns).length:=by simp[hsz]
    omega
  · obtain⟨j,hj,rfl⟩:=List.mem_iff_getElem.mp ha
    have q2 := h2 j (by have : xs.toArray.size = (n :: ns).length := by simp [hsz]
                        omega)
    rw[hn j,List.getD_eq_getElem?_getD,List.getElem?_eq_getElem hj] at q2
    exact q2
theorem yG(hc:X.calm=true):b_ X (.builtin "min") (λxs H Q=>∃(p:WN)(n:Int)(ns:List Int),xs=[.ref p]/\gZ X.K H p ((n::ns).map V.int)/\Q (.int (fH n ns)) H):=by
  intro pins s σ H xs us Q I r h
  obtain⟨p,n,ns,rfl,hq,q⟩:=h
  obtain⟨u,rfl,rx⟩:=vals1 r
  cases rx
  obtain⟨its,r',pl,hz⟩:=I.list hq
  obtain⟨xs,rfl,e0⟩:=dN r'
  have hl:=pl.isList
  have e:(xs.map λp=>Value.int p.1 p.2).toArray=intItems xs.toArray:=by unfold intItems;simp
  rw[e] at hl
  have hsz:xs.length=(n::ns).length:=by rw[<-e0];simp
  have hs0:0 < xs.toArray.size:=by simp[hsz]
  refine min_intList (I.ok.hd hc) hl hs0 λv h' tk hv hk=>?_
  obtain⟨t,rfl⟩:=intItems_at hv
  obtain⟨h1,h2⟩:=PySem.argBest_lt (numAt xs.toArray) (xs.toArray.size - 1)
  refine⟨.int _,H,I.kept hk,⟨t,?_⟩,q⟩
  congr 1
  have hn:=λi=>eG xs i
  rw[e0] at hn
  refine wN ?_ λa ha=>?_
  · rw[hn]
    refine fZ ?_
    have:xs.toArray.size=(n::ns).length:=by simp[hsz]
    omega
  · obtain⟨j,hj,rfl⟩:=List.mem_iff_getElem.mp ha
    have q2 := h2 j (by have : xs.toArray.size = (n :: ns).length := by simp [hsz]
                        omega)
    rw[hn j,List.getD_eq_getElem?_getD,List.getElem?_eq_getElem hj] at q2
    exact q2
def jN:List Wv->Hs->Re Wv
  | [.ref l],st=>match ag st l with
    | some ws=>(match intsOf ws with | some (n::r)=> .ok (.int (fm n r)) st | _=> .bad)
    | none=> .bad
  | ws,st=>MJ ws st
def jO:List Wv->Hs->Re Wv
  | [.ref l],st=>match ag st l with
    | some ws=>(match intsOf ws with | some (n::r)=> .ok (.int (fH n r)) st | _=> .bad)
    | none=> .bad
  | ws,st=>MK ws st
theorem bC.or{f:WU}{op op':List Wv->Hs->Re Wv}(g:List Wv->Hs->Re Wv)(h:bC X f op)(h':bC X f op')(k:∀ws st,g ws st=op ws st\/g ws st=op' ws st):bC X f g:=by
  obtain⟨r,h1,h2⟩:=h
  obtain⟨r',zx,h2'⟩:=h'
  refine⟨_,h1.or zx,λws vs st H m Q S rs p=>?_⟩
  rcases k ws st with e | e
  · rw[e] at p;exact .inl (h2 ws vs st H m Q S rs p)
  · rw[e] at p;exact .inr (h2' ws vs st H m Q S rs p)
def Br:List Wv->Hs->Re Wv
  | [.ref l],st=>match ag st l with
    | some ws=>(match intsOf ws with | some (n::r)=> .ok (.int (fm n r)) st | _=> .bad)
    | none=> .bad
  | _,_=> .bad
def Bs:List Wv->Hs->Re Wv
  | [.ref l],st=>match ag st l with
    | some ws=>(match intsOf ws with | some (n::r)=> .ok (.int (fH n r)) st | _=> .bad)
    | none=> .bad
  | _,_=> .bad
theorem Ez(hc:X.calm=true):bC X (.builtin "max") Br:=⟨_,yF hc,λws vs st H m Q S rs p=>by
  match ws,rs,p with
  | [],rs,p=>exact False.elim p
  | x::y::t,rs,p=>cases x<;>exact False.elim p
  | [x],rs,p=>
    obtain⟨v,rfl,r1⟩:=il rs
    cases x with
    | ref l=>
      unfold Br at p
      unfold af at r1
      obtain⟨a,rfl,hl⟩:=r1
      cases e:ag st l with
      | none=>simp only[e] at p;exact False.elim p
      | some ws=>
        simp only[e] at p
        cases e2:intsOf ws with
        | none=>simp only[e2] at p;exact False.elim p
        | some bs=>
          cases bs with
          | nil=>simp only[e2] at p;exact False.elim p
          | cons n bs=>
            simp only[e2] at p
            obtain⟨xs,q1,q2⟩:=S.read hl e
            have q3:=bU q2 e2
            subst q3
            exact⟨a,n,bs,rfl,q1,p _ m H Ext.refl S mkInt⟩
    | _=>exact False.elim p⟩
theorem EA(hc:X.calm=true):bC X (.builtin "min") Bs:=⟨_,yG hc,λws vs st H m Q S rs p=>by
  match ws,rs,p with
  | [],rs,p=>exact False.elim p
  | x::y::t,rs,p=>cases x<;>exact False.elim p
  | [x],rs,p=>
    obtain⟨v,rfl,r1⟩:=il rs
    cases x with
    | ref l=>
      unfold Bs at p
      unfold af at r1
      obtain⟨a,rfl,hl⟩:=r1
      cases e:ag st l with
      | none=>simp only[e] at p;exact False.elim p
      | some ws=>
        simp only[e] at p
        cases e2:intsOf ws with
        | none=>simp only[e2] at p;exact False.elim p
        | some bs=>
          cases bs with
          | nil=>simp only[e2] at p;exact False.elim p
          | cons n bs=>
            simp only[e2] at p
            obtain⟨xs,q1,q2⟩:=S.read hl e
            have q3:=bU q2 e2
            subst q3
            exact⟨a,n,bs,rfl,q1,p _ m H Ext.refl S mkInt⟩
    | _=>exact False.elim p⟩
theorem EB(hc:X.calm=true):bC X (.builtin "max") jN:=bC.or jN (Ez hc) (IU hc) λws st=>by
  unfold jN Br
  split
  · exact .inl rfl
  · exact .inr rfl
theorem EC(hc:X.calm=true):bC X (.builtin "min") jO:=bC.or jO (EA hc) (IV hc) λws st=>by
  unfold jO Bs
  split
  · exact .inl rfl
  · exact .inr rfl
def insI(n:Int):List Int->List Int
  | []=>[n]
  | a::r=>if n<=a then n::a::r else a::insI n r
def fo:List Int->List Int
  | []=>[]
  | a::r=>insI a (fo r)
theorem insI_perm(n:Int):∀l:List Int,(insI n l).Perm (n::l)
  | []=> .refl _
  | a::r=>by
    unfold insI
    split
    · exact .refl _
    · exact((insI_perm n r).cons a).trans (.swap n a r)
theorem eI:∀l:List Int,(fo l).Perm l
  | []=> .nil
  | a::r=>(insI_perm a (fo r)).trans ((eI r).cons a)
theorem sR(n:Int):∀l:List Int,l.Pairwise (· <=·)->(insI n l).Pairwise (· <=·)
  | [],_=>by simp[insI]
  | a::r,h=>by
    unfold insI
    rw[List.pairwise_cons] at h
    split
    · rename_i c
      rw[List.pairwise_cons,List.pairwise_cons]
      refine⟨λb hb=>?_,h⟩
      rcases List.mem_cons.mp hb with z | z
      · rw[z];exact c
      · have:=h.1 b z;omega
    · rename_i c
      rw[List.pairwise_cons]
      refine⟨λb hb=>?_,sR n r h.2⟩
      rcases List.mem_cons.mp ((insI_perm n r).mem_iff.mp hb) with z | z
      · rw[z];omega
      · exact h.1 b z
theorem jP:∀l:List Int,(fo l).Pairwise (· <=·)
  | []=> .nil
  | a::r=>sR a _ (jP r)
theorem ED{a b:List Int}(h:a.Perm b)(ha:a.Pairwise (· <=·))(hb:b.Pairwise (· <=·)):a=b :=
  List.Perm.eq_of_pairwise (λ_ _ _ _ h1 h2=>by omega) ha hb h
theorem yH:b_ X (.builtin "sorted") (λxs H Q=>∃(p:WN)(ns:List Int),xs=[.ref p]/\gZ X.K H p (ns.map V.int)/\ns.length<=W6/\∀l,H l=none->Q (.ref l) (upd H l (.lst ((fo ns).map V.int)))):=by
  intro pins s σ H xs us Q I r h
  obtain⟨p,ns,rfl,hq,h64,q⟩:=h
  obtain⟨u,rfl,rx⟩:=vals1 r
  cases rx
  obtain⟨its,r',pl,hz⟩:=I.list hq
  have hlen:=r'.length
  obtain⟨xs,rfl,rfl⟩:=dN r'
  refine JL.vf pl.isList (intsAre_of xs) (by simpa using h64) λout ns' a1 a2 a3=>?_
  have e:ns'=fo (xs.map (·.1)):=ED (a2.trans (eI _).symm) a3 (jP _)
  subst e
  obtain⟨n,hat⟩:=sortedAll_at s.heap (xs.map λp=>Value.int p.1 p.2) out
  have hz':((fo (xs.map (·.1))).map V.int).length<=W6:=by
    rw[List.length_map,(eI _).length_eq]
    simpa using hz
  refine⟨.ref (s.heap.objs.size+1),_,I.laid (t':=s.toks) (λ_ _=>sortedAll_old) (Nat.le_succ _) (show bL X.prog X.w _ _ _ (.lst _) from⟨hz',out.toList,n,lh a1,?_⟩),rfl,q _ (I.hok.fresh (Nat.le_succ _))⟩
  rw[hat]
def vg:List Wv->Hs->Re Wv
  | [.ref l],st=>match ag st l with
    | some ws=>(match intsOf ws with | some ns=>if ns.length < 4096 then .ok (.ref st.length) (st++[.lst ((fo ns).map Wv.int)]) else .bad | none=> .bad)
    | none=> .bad
  | _,_=> .bad
theorem Jh:bC X (.builtin "sorted") vg:=⟨_,yH,λws vs st H m Q S rs p=>by
  match ws,rs,p with
  | [],rs,p=>exact False.elim p
  | x::y::t,rs,p=>cases x<;>exact False.elim p
  | [x],rs,p=>
    obtain⟨v,rfl,r1⟩:=il rs
    cases x with
    | ref l=>
      unfold vg at p
      unfold af at r1
      obtain⟨a,rfl,hl⟩:=r1
      cases e:ag st l with
      | none=>simp only[e] at p;exact False.elim p
      | some ws=>
        simp only[e] at p
        cases e2:intsOf ws with
        | none=>simp only[e2] at p;exact False.elim p
        | some bs=>
          simp only[e2] at p
          by_cases c:bs.length < 4096
          · rw[if_pos c] at p
            obtain⟨xs,q1,q2⟩:=S.read hl e
            have q3:=bU q2 e2
            subst q3
            exact⟨a,bs,rfl,q1,Nat.le_trans (Nat.le_of_lt c) (by rw[sizeLine_eq];decide),λq hq=>ig p Ext.refl S (ah.ints _) q hq⟩
          · rw[if_neg c] at p;exact False.elim p
    | _=>exact False.elim p⟩
end
end J
namespace J
open PySem PySem.Spec PyProof.Rows L2
section
variable {X:Cx}
theorem pS{z:PySem.Str}:PyData.strOk z=true↔∀c∈z.cps.toList,c < 1114112:=by
 unfold PyData.strOk
 rw[Array.all_eq_true_iff_forall_mem]
 constructor
 ·intro h c hc
  simpa using h c (Array.mem_toList_iff.mp hc)
 ·intro h c hc
  simpa using h c (Array.mem_toList_iff.mpr hc)
end
end J
namespace J
open PySem PySem.Spec PyProof.Rows L2
section
variable {X:Cx}
theorem Ji:Df X (λx lo hi H Q=>∃z,x= .str z/\z.length<=W6/\Q (.str (Txt.slice z lo hi)) H):=by
 intro pins s σ H x v vl vu lo hi sl Q I rx hs pl pu h
 obtain⟨z,rfl,hz,q⟩:=h
 obtain⟨t,rfl⟩:=rx
 have fin:∀t' k,EP X pins σ Q (.str (Txt.slice z lo hi) t') { s with toks:=k }:=λt' k=>⟨.str _,H,I.tok k,⟨t',rfl⟩,q⟩
 refine⟨"str",_,PySem.F.slot_str_getitem.lookup,typeIs_str _ _ _,?_⟩
 have hl:=Nat.le_trans (Txt.slice_le z lo hi) hz
 cases pl with
 | none=>
  cases pu with
  | none=>exact wpAny_getItem_str_slice (l:=none) (u:=none) (st:=none) hs rfl (post_val_or_str ⟨hl,fin⟩)
  | int j tj=>exact wpAny_getItem_str_slice (l:=none) (u:=some (j,tj)) (st:=none) hs rfl (post_val_or_str ⟨hl,fin⟩)
 | int i ti=>
  cases pu with
  | none=>exact wpAny_getItem_str_slice (l:=some (i,ti)) (u:=none) (st:=none) hs rfl (post_val_or_str ⟨hl,fin⟩)
  | int j tj=>exact wpAny_getItem_str_slice (l:=some (i,ti)) (u:=some (j,tj)) (st:=none) hs rfl (post_val_or_str ⟨hl,fin⟩)
theorem yI{z:PySem.Str}{lo hi:Option Int}{c:Nat}(h:c∈(Txt.slice z lo hi).cps.toList):c∈z.cps.toList:=by
 unfold Txt.slice at h
 split at h
 ·exact h
 ·simp only[List.mem_filterMap] at h
  obtain⟨i,_,e⟩:=h
  rw[Array.getElem?_eq_some_iff] at e
  obtain⟨hi,rfl⟩:=e
  exact Array.mem_toList_iff.mpr (Array.getElem_mem hi)
theorem sS{z:PySem.Str}{lo hi:Option Int}(h:PyData.strOk z=true):PyData.strOk (Txt.slice z lo hi)=true:=by
 rw[pS] at h ⊢
 exact λc hc=>h c (yI hc)
end
section
open HT
theorem oK{prog:WS}{w:WV}{A:WO}{E:WU->WT->Prop}{s:WT}{t sl:WN}{us:Array WU}{vl vu:WU}{lo hi:Option Int}{Q:WU->WT->Prop}(ht:IsTup s.heap t us)(hs:s.heap.IsSliceOf sl vl vu .none)(pl:IsPart vl lo)(pu:IsPart vu hi)
  (hw:bW us.size 0 lo=0/\bW us.size us.size hi=us.size)(h:Q (.ref t) s):W8 (model prog w) A (getItem (.ref t) (.ref sl)) Q E s:=by
 obtain⟨os,o1,o2,o3⟩:=id hs
 have tys:s.TypeIs (.ref sl) "slice":=⟨os,o1,o2⟩
 unfold getItem;try with_reducible refine W' ?_
 first | refine W9 (Xe ?_) | skip
 refine W9 (wpAny_sequenceKey ht.typeIs (by decide) ?_);refine W9 (wpAny_callSpecial?_slot (name:=Str.ofString "__getitem__") ht.typeIs PyProof.Rows.slot_tuple_getitem (wpAny_call_entry PyProof.Rows.slot_tuple_getitem ht.typeIs entry_tuple_getitem ?_ (args_tuple_getitem _ _)))
 show W8 _ _ (Builtin.Tuple.tupleItemsOf (.ref t) >>= _) _ _ _;refine W9 (tupleItemsOf_ ht ?_);refine W9 (wpAny_typeOf tys ?_)
 rw[if_pos (by decide)];refine W9 (fU hs pl pu ?_)
 rw[hw.1,hw.2]
 have yes:((((0:Nat):Int)) == 0&&(1:Int) == 1&&(us.size - 0) == us.size)=true:=by simp
 show W8 _ _ (if((((0:Nat):Int)) == 0&&(1:Int) == 1&&(us.size - 0) == us.size)=true then _ else _) _ _ s
 rw[if_pos yes]
 refine W9 (m:=Builtin.Tuple.tupleIsExact _) ?_
 unfold Builtin.Tuple.tupleIsExact
 refine W9 (wpAny_typeOf ht.typeIs (Xe ?_))
 rw[if_pos (by decide)]
 exact W9 (wpAny_rule (Xe ⟨_,rfl,Xe h⟩))
end
section
variable {X:Cx}
def Qa(K:PySem.W.Frag):V->Option Int->Option Int->Hp->VK->Prop:=λx lo hi H Q=>∃a xs,x= .ref a/\dS K H a xs/\(HT.bW xs.length 0 lo=0/\HT.bW xs.length xs.length hi=xs.length)/\Q (.ref a) H
theorem Bt:Df X (Qa X.K):=by
 intro pins s σ H x v vl vu lo hi sl Q I rx hs pl pu h
 obtain⟨a,xs,rfl,hx,hw,q⟩:=h
 cases rx
 obtain⟨its,r,ht,hz⟩:=I.tuple hx
 have n:its.toArray.size=xs.length:=by rw[List.size_toArray];exact r.length.symm
 exact⟨"tuple",_,PyProof.Rows.slot_tuple_getitem.lookup,ht.typeIs,oK ht hs pl pu (by rw[n];exact hw) ⟨.ref a,H,I,rfl,q⟩⟩
def yJ(n:Nat)(lo hi:Option Int):Prop:=HT.bW n 0 lo=0/\HT.bW n n hi=n
instance {n:Nat}{lo hi:Option Int}:Decidable (yJ n lo hi):=inferInstanceAs (Decidable (HT.bW n 0 lo=0/\HT.bW n n hi=n))
def EE(x:Wv)(lo hi:Option Int)(st:Hs):Re Wv:=match x with
 | .str z=>if z.length<=lim then .ok (.str (Txt.slice z lo hi)) st else .bad
 | .tup ws=>if yJ ws.length lo hi then .ok (.tup ws) st else Mt (.tup ws) lo hi st
 | x=>Mt x lo hi st
def iO(ga:GE)(gl gh:GO):GE:=λρ st=>(ga ρ st).bind λx st1=>(gl ρ st1).bind λlo st2=>(gh ρ st2).bind λhi st3=>EE x lo hi st3
theorem yK{a:Expr}{lo hi:Option Expr}{ga:GE}{gl gh:GO}{pos p2:Pos}(ha:JE X a ga)(hl:JO X lo gl)(hh:JO X hi gh):JE X (.Subscript a (.Slice lo hi none p2) pos) (iO ga gl gh):=by
 have hS:JE X (.Subscript a (.Slice lo hi none p2) pos) (λρ st=>(ga ρ st).bind λx st1=>(gl ρ st1).bind λlo st2=>(gh ρ st2).bind λhi st3=>match x with | .str z=>if z.length<=lim then .ok (.str (Txt.slice z lo hi)) st3 else .bad | _=> .bad):=by
  refine JE.of (mF Ji aB pD pD) λρ st σ H m Q S R p=>?_
  refine ha.go S R (ao.bind p) λx st1 v m1 H1 p1 e1 S1 rx=>?_
  refine hl.go S1 (R.mono e1) ((ao.bind p1).imp e1 λ_ _ q=>q) λl st2 m2 H2 p2 e2 S2=>?_
  refine hh.go S2 (R.mono (e1.trans e2)) ((ao.bind p2).imp (e1.trans e2) λ_ _ q=>q) λh st3 m3 H3 p3 e3 S3=>?_
  have yh:=e1.trans (e2.trans e3)
  cases x with
  | str z=>
   dsimp only at p3
   by_cases c:z.length<=lim
   ·rw[if_pos c] at p3
    unfold af at rx
    obtain⟨rfl,hz⟩:=rx
    exact⟨z,rfl,cI c,p3 _ m3 H3 yh S3 (mkStr (sS hz))⟩
   ·rw[if_neg c] at p3;exact False.elim p3
  | _=>exact False.elim p3
 have hW:JE X (.Subscript a (.Slice lo hi none p2) pos) (λρ st=>(ga ρ st).bind λx st1=>(gl ρ st1).bind λlo st2=>(gh ρ st2).bind λhi st3=>match x with | .tup ws=>if yJ ws.length lo hi then .ok (.tup ws) st3 else Mt (.tup ws) lo hi st3 | _=> .bad):=by
  refine JE.of (mF (Df.or Bt Ab) aB pD pD) λρ st σ H m Q S R p=>?_
  refine ha.go S R (ao.bind p) λx st1 v m1 H1 p1 e1 S1 rx=>?_
  refine hl.go S1 (R.mono e1) ((ao.bind p1).imp e1 λ_ _ q=>q) λl st2 m2 H2 p2 e2 S2=>?_
  refine hh.go S2 (R.mono (e1.trans e2)) ((ao.bind p2).imp (e1.trans e2) λ_ _ q=>q) λh st3 m3 H3 p3 e3 S3=>?_
  have yh:=e1.trans (e2.trans e3)
  cases x with
  | tup ws=>
   dsimp only at p3
   have j9:=af.mono (e2.trans e3) _ _ rx
   unfold af at j9
   obtain⟨a',xs,rfl,f1,f2⟩:=j9
   by_cases c:yJ ws.length l h
   ·rw[if_pos c] at p3
    unfold yJ at c
    rw[f2.length] at c
    exact .inl ⟨a',xs,rfl,dS.of f1,c,p3 _ m3 H3 yh S3 (by unfold af;exact⟨a',xs,rfl,f1,f2⟩)⟩
   ·rw[if_neg c] at p3
    unfold Mt at p3
    dsimp only at p3
    unfold yJ at c
    rw[if_neg c] at p3
    rw[f2.length] at c
    refine .inr ⟨a',xs,rfl,dS.of f1,c,λq hq=>?_⟩
    have eU:Ext X.K m3 H3 m3 (L2.upd H3 q (.tup (oF xs l h))):=Ext.g_ (.inl hq)
    exact p3 (.ref q) m3 _ (yh.trans eU) (S3.fresh hq) (by unfold af;exact⟨q,_,rfl,L2.aC,ah.mono eU _ _ (qD f2)⟩)
  | _=>exact False.elim p3
 intro ρ st σ H m Q S R p
 unfold iO at p
 cases e1:ga ρ st with
 | bad=>rw[e1] at p;exact False.elim p
 | err c st1=>rw[e1] at p;exact sk ha hl hh ρ st σ H m Q S R (by unfold uT;rw[e1];exact p)
 | ok x st1=>
  rw[e1] at p
  cases x with
  | str z=>exact hS ρ st σ H m Q S R (by dsimp only;rw[e1];exact p)
  | tup ws=>exact hW ρ st σ H m Q S R (by dsimp only;rw[e1];exact p)
  | _=>exact sk ha hl hh ρ st σ H m Q S R (by unfold uT;rw[e1];exact p)
def Jj:dj
 | .str i,.str j,st=> .ok (.bl (!(Builtin.Str.occurrences j i 0 j.length 1).isEmpty)) st
 | x,y,st=>Pt x y st
def qK:dj
 | .str i,.str j,st=> .ok (.bl (!(!(Builtin.Str.occurrences j i 0 j.length 1).isEmpty))) st
 | x,y,st=>uS x y st
theorem Jk:fR X (W2 .In) Jj:=by
 obtain⟨r,h1,h2⟩:=Mr (X:=X)
 refine⟨_,cH.or xS h1,λx y a b st H m Q S rx ry p=>?_⟩
 unfold Jj at p
 split at p
 ·rename_i i j
  unfold af at rx ry
  obtain⟨rfl,_⟩:=rx
  obtain⟨rfl,_⟩:=ry
  exact .inl ⟨i,j,rfl,rfl,p _ m H Ext.refl S fG⟩
 ·exact .inr (h2 x y a b st H m Q S rx ry p)
theorem yL:fR X (W2 .NotIn) qK:=by
 obtain⟨r,h1,h2⟩:=AE (X:=X)
 refine⟨_,cH.or qo h1,λx y a b st H m Q S rx ry p=>?_⟩
 unfold qK at p
 split at p
 ·rename_i i j
  unfold af at rx ry
  obtain⟨rfl,_⟩:=rx
  obtain⟨rfl,_⟩:=ry
  exact .inl ⟨i,j,rfl,rfl,p _ m H Ext.refl S fG⟩
 ·exact .inr (h2 x y a b st H m Q S rx ry p)
end
end J
namespace J
open PySem PySem.Spec PyProof.Rows L2 PySem.W
theorem sT(a v:WU):argsOk "max" ⟨[a],[(Str.ofString "default",v)]⟩:=by unfold argsOk;kernel_rfl
theorem pT{prog:WS}{w:WV}{A:WO}{R:Result->WT->Prop}{I S:WN}{fp wr:List WN}{n:Nat}{P:Nat->WU->Prop}{St:Nat->Heap->Prop}{d:WU}
  (W:Walks prog w A.in1 I fp wr n P St)(bt:Nat->Nat->Bool)(hcmp:CmpOf prog w A.in1 .Gt P bt)(hSf:S∉fp) :
  ∀(k j:Nat)(s:WT)(cur:List WU)(c:Nat),n - j=k->j<=n->St j s.heap->((j=0/\cur=[])\/∃i vb,j=i+1/\cur=[vb,vb]/\P (argBest bt i) vb)->
  s.heap.get? S=some { cls:=.type "list",dict:=none,data:=.seq cur.toArray c,slots:=#[] }->
  (∀v h' tk,((n=0/\v=d)\/∃i,n=i+1/\P (argBest bt i) v)->(∀b o,b∉wr->b≠S->s.heap.get? b=some o->h'.get? b=some o)->R (.ok (.ret v)) { s with heap:=h',toks:=tk })->
  WZ (model prog w) A (.builtin "max.loop" ⟨[.ref I,.none,.ref S],[(Str.ofString "default",d)]⟩) R s:=by
 have MU:S∉wr:=λq=>hSf (W.sub _ q)
 have nm:(toString "max"++toString ".loop":String)="max.loop":=by decide
 intro k
 induction k with
 | zero=>
  intro j s cur c hk hj Jl hc hS hR
  have ej:j=n:=by omega
  refine codeAny_builtin F.entry_max_loop ?_
  rw[Around.under_plainId F.plain_max_loop]
  show W8 _ A.in1 (seqItems? (.ref S) >>= _) _ _ s;refine W9 (wpAny_seqItems hS rfl ?_)
  show W8 _ A.in1 (tryCatch (pyNext (.ref I)) _ >>= _) _ _ s;refine W9 (wpAny_tryCatch (W.done s _ _ (ej ▸ Jl) λh1 t1 kp=>?_))
  rcases hc with ⟨e0,rfl⟩ | ⟨i,vb,e1,rfl,EF⟩
  ·show W8 _ A.in1 (rule "max.default" >>= _) _ _ _
   exact W9 (wpAny_rule (Xe (hR d h1 t1 (.inl ⟨by omega,rfl⟩) λb o h2 _ e=>kp b o h2 e)))
  ·have vh:=kp S _ MU hS
   show W8 _ A.in1 (updateSeq S (λ_=>#[]) >>= _) _ _ _;refine W9 ?_
   refine wpAny_updateSeq vh rfl (W9 (wpAny_letGo (Xe (hR vb _ t1 (.inr ⟨i,by omega,EF⟩) λb o h2 h3 e=>?_))))
   exact(Heap.get?_update_other _ _ (Ne.symm h3)).trans (kp b o h2 e)
 | succ k ih=>
  intro j s cur c hk hj Jl hc hS hR
  have lt:j < n:=by omega
  refine codeAny_builtin F.entry_max_loop ?_
  rw[Around.under_plainId F.plain_max_loop]
  show W8 _ A.in1 (seqItems? (.ref S) >>= _) _ _ s;refine W9 (wpAny_seqItems hS rfl ?_)
  show W8 _ A.in1 (tryCatch (pyNext (.ref I)) _ >>= _) _ _ s;refine W9 (wpAny_tryCatch (W.item j s _ _ lt Jl λv h1 t1 hv st1 kp=>?_))
  have vh:=kp S _ MU hS
  rcases hc with ⟨e0,rfl⟩ | ⟨i,vb,e1,rfl,EF⟩
  ·subst e0
   show W8 _ A.in1 (updateSeq S (λ_=>#[v,v]) >>= _) _ _ _;refine W9 (wpAny_updateSeq vh rfl ?_)
   rw[nm]
   refine Xe ⟨plainId_quiet F.plain_max_loop _,ih 1 _ [v,v] _ (by omega) lt (W.frame _ _ _ st1 λb Jm o e=>?_) (.inr ⟨0,v,rfl,rfl,hv⟩) (Heap.get?_update_self _ vh rfl) λv2 h2 t2 hv2 Bu=>?_⟩
   ·exact(Heap.get?_update_other _ _ (λz:S=b=>hSf (z ▸ Jm))).trans e
   ·exact hR v2 h2 t2 hv2 λb o q1 q2 e=>Bu b o q1 q2 ((Heap.get?_update_other _ _ (Ne.symm q2)).trans (kp b o q1 e))
  ·subst e1
   show W8 _ A.in1 (tryCatch (holding [v,v] (richCompare .Gt v vb >>= _)) _ >>= _) _ _ _;refine W9 (wpAny_tryCatch (W' (W9 (hcmp (i+1) (argBest bt i) v vb _ _ _ hv EF ?_))))
   refine W9 (W' (Xf (W9 (wpAny_letGo (Xe ?_)))))
   cases hb:bt (i+1) (argBest bt i) with
   | true=>
    have ha:argBest bt (i+1)=i+1:=by unfold argBest;rw[hb];rfl
    simp only[if_true];refine W9 (wpAny_updateSeq vh rfl (W9 (wpAny_letGo ?_)))
    rw[nm]
    refine Xe ⟨plainId_quiet F.plain_max_loop _,ih (i+2) _ [v,v] _ (by omega) lt (W.frame _ _ _ st1 λb Jm o e=>?_) (.inr ⟨i+1,v,rfl,rfl,by rw[ha];exact hv⟩) (Heap.get?_update_self _ vh rfl) λv2 h2 t2 hv2 Bu=>?_⟩
    ·exact(Heap.get?_update_other _ _ (λz:S=b=>hSf (z ▸ Jm))).trans e
    ·exact hR v2 h2 t2 hv2 λb o q1 q2 e=>Bu b o q1 q2 ((Heap.get?_update_other _ _ (Ne.symm q2)).trans (kp b o q1 e))
   | false=>
    have ha:argBest bt (i+1)=argBest bt i:=by rw[argBest,hb];rfl
    simp only[Bool.false_eq_true,if_false];refine W9 (wpAny_letGo ?_)
    rw[nm]
    refine Xe ⟨plainId_quiet F.plain_max_loop _,ih (i+2) _ [vb,vb] c (by omega) lt st1 (.inr ⟨i+1,vb,rfl,rfl,by rw[ha];exact EF⟩) vh λv2 h2 t2 hv2 Bu=>?_⟩
    exact hR v2 h2 t2 hv2 λb o q1 q2 e=>Bu b o q1 q2 (kp b o q1 e)
section
variable {X:Cx}
def Qb:List Int->Wv
 | []=> .aE
 | n::r=> .int (fm n r)
theorem yM(hc:X.calm=true){pins:List (WN×Obj)}{s:WT}{σ:L2.St}{H:Hp}{p:WN}{ns:List Int}{Q:VK}(I:L2.Inv X pins σ H s)(hq:gZ X.K H p (ns.map V.int))(q:∀v:V,(ns=[]/\v= .aE)\/(∃n r,ns=n::r/\v= .int (fm n r))->Q v H) :
  W8 (model X.prog X.w) X.A (call (.builtin "max") [.ref p] [(Str.ofString "default",.none)]) (EP X pins σ Q) X.xe s:=by
 obtain⟨its,r',pl,hz⟩:=I.list hq
 obtain⟨xs,rfl,e0⟩:=dN r'
 have hl:=pl.isList
 have e:(xs.map λp=>Value.int p.1 p.2).toArray=intItems xs.toArray:=by unfold intItems;simp
 rw[e] at hl
 have hlen:xs.length=ns.length:=by rw[<-e0];simp
 have hnum:=λi=>eG xs i
 rw[e0] at hnum
 have hh:X.A.handled=none:=I.ok.hd hc
 have nm:(toString "max"++toString ".loop":String)="max.loop":=by decide
 refine kmk_tree F.kind_max F.plain_max F.entry_max (sT _ _) ?_
 show W8 _ X.A.in1 (Builtin.Builtins.bindParams "max" ["key","default"] 0 ⟨[],[(Str.ofString "default",.none)]⟩ >>= _) _ _ s
 refine W9 (wpAny_of_eq (show Builtin.Builtins.bindParams "max" ["key","default"] 0 ⟨[],[(Str.ofString "default",.none)]⟩=pure [none,some .none] from rfl) (W9 (Xe ?_)))
 refine W9 (iter_intList hl λs₂ e2 st hfp hlI=>?_)
 subst e2
 refine W9 (Xd ?_)
 rw[nm]
 have W:=Walks.list (prog:=X.prog) (w:=X.w) (A:=X.A.in1) hh _ p hlI (intItems xs.toArray)
 refine Xe ⟨plainId_quiet F.plain_max_loop _,pT W _ (CmpOf.ints_gt (numAt xs.toArray) (λ_ _=>intItems_at)) (λhm=>Nat.lt_irrefl _ (hfp _ hm)) _ 0 _ [] 0 rfl (Nat.zero_le _) (W.frame _ _ _ st λb _ o e=>Heap.get?_push_of_some _ e) (.inl ⟨rfl,rfl⟩) (Heap.get?_push_size _ rfl) λv h' tk hv hk=>?_⟩
 have kp:∀b o,s.heap.get? b=some o->h'.get? b=some o:=λb o e=>by
  have e3:(s.heap.push { cls:=.type "list_iterator",data:=.fields #[.ref p,.int 0 0] }).get? b=some o:=Heap.get?_push_of_some _ e
  exact hk b o (by intro z;simp at z;subst z;exact Nat.lt_irrefl _ (Heap.lt_size e)) (Nat.ne_of_lt (Heap.lt_size e3)) (Heap.get?_push_of_some _ e3)
 have hsz:(intItems xs.toArray).size=ns.length:=by simp[intItems,hlen]
 rcases hv with ⟨n0,rfl⟩ | ⟨i,n1,hv⟩
 ·exact⟨.aE,H,I.kept kp,rfl,q _ (.inl ⟨List.length_eq_zero_iff.mp (by omega),rfl⟩)⟩
 ·obtain⟨t,rfl⟩:=intItems_at hv
  cases ns with
  | nil=>rw[hsz] at n1;cases n1
  | cons n r=>
   refine⟨.int (fm n r),H,I.kept kp,⟨t,?_⟩,q _ (.inr ⟨n,r,rfl,rfl⟩)⟩
   obtain⟨h1,h2⟩:=PySem.argBest_gt (numAt xs.toArray) i
   congr 1
   have hr:(n::r).length=i+1:=by omega
   refine pR ?_ λa ha=>?_
   ·rw[hnum]
    exact fZ (by omega)
   ·obtain⟨j,hj,rfl⟩:=List.mem_iff_getElem.mp ha
    have q2:=h2 j (by omega)
    rw[hnum j,List.getD_eq_getElem?_getD,List.getElem?_eq_getElem hj] at q2
    exact q2
end
theorem Bv(a v:WU):argsOk "min" ⟨[a],[(Str.ofString "default",v)]⟩:=by unfold argsOk;kernel_rfl
theorem yN{prog:WS}{w:WV}{A:WO}{R:Result->WT->Prop}{I S:WN}{fp wr:List WN}{n:Nat}{P:Nat->WU->Prop}{St:Nat->Heap->Prop}{d:WU}
  (W:Walks prog w A.in1 I fp wr n P St)(bt:Nat->Nat->Bool)(hcmp:CmpOf prog w A.in1 .Lt P bt)(hSf:S∉fp) :
  ∀(k j:Nat)(s:WT)(cur:List WU)(c:Nat),n - j=k->j<=n->St j s.heap->((j=0/\cur=[])\/∃i vb,j=i+1/\cur=[vb,vb]/\P (argBest bt i) vb)->
  s.heap.get? S=some { cls:=.type "list",dict:=none,data:=.seq cur.toArray c,slots:=#[] }->
  (∀v h' tk,((n=0/\v=d)\/∃i,n=i+1/\P (argBest bt i) v)->(∀b o,b∉wr->b≠S->s.heap.get? b=some o->h'.get? b=some o)->R (.ok (.ret v)) { s with heap:=h',toks:=tk })->
  WZ (model prog w) A (.builtin "min.loop" ⟨[.ref I,.none,.ref S],[(Str.ofString "default",d)]⟩) R s:=by
 have MU:S∉wr:=λq=>hSf (W.sub _ q)
 have nm:(toString "min"++toString ".loop":String)="min.loop":=by decide
 intro k
 induction k with
 | zero=>
  intro j s cur c hk hj Jl hc hS hR
  have ej:j=n:=by omega
  refine codeAny_builtin F.entry_min_loop ?_
  rw[Around.under_plainId F.plain_min_loop]
  show W8 _ A.in1 (seqItems? (.ref S) >>= _) _ _ s;refine W9 (wpAny_seqItems hS rfl ?_)
  show W8 _ A.in1 (tryCatch (pyNext (.ref I)) _ >>= _) _ _ s;refine W9 (wpAny_tryCatch (W.done s _ _ (ej ▸ Jl) λh1 t1 kp=>?_))
  rcases hc with ⟨e0,rfl⟩ | ⟨i,vb,e1,rfl,EF⟩
  ·show W8 _ A.in1 (rule "min.default" >>= _) _ _ _
   exact W9 (wpAny_rule (Xe (hR d h1 t1 (.inl ⟨by omega,rfl⟩) λb o h2 _ e=>kp b o h2 e)))
  ·have vh:=kp S _ MU hS
   show W8 _ A.in1 (updateSeq S (λ_=>#[]) >>= _) _ _ _;refine W9 ?_
   refine wpAny_updateSeq vh rfl (W9 (wpAny_letGo (Xe (hR vb _ t1 (.inr ⟨i,by omega,EF⟩) λb o h2 h3 e=>?_))))
   exact(Heap.get?_update_other _ _ (Ne.symm h3)).trans (kp b o h2 e)
 | succ k ih=>
  intro j s cur c hk hj Jl hc hS hR
  have lt:j < n:=by omega
  refine codeAny_builtin F.entry_min_loop ?_
  rw[Around.under_plainId F.plain_min_loop]
  show W8 _ A.in1 (seqItems? (.ref S) >>= _) _ _ s;refine W9 (wpAny_seqItems hS rfl ?_)
  show W8 _ A.in1 (tryCatch (pyNext (.ref I)) _ >>= _) _ _ s;refine W9 (wpAny_tryCatch (W.item j s _ _ lt Jl λv h1 t1 hv st1 kp=>?_))
  have vh:=kp S _ MU hS
  rcases hc with ⟨e0,rfl⟩ | ⟨i,vb,e1,rfl,EF⟩
  ·subst e0
   show W8 _ A.in1 (updateSeq S (λ_=>#[v,v]) >>= _) _ _ _;refine W9 (wpAny_updateSeq vh rfl ?_)
   rw[nm]
   refine Xe ⟨plainId_quiet F.plain_min_loop _,ih 1 _ [v,v] _ (by omega) lt (W.frame _ _ _ st1 λb Jm o e=>?_) (.inr ⟨0,v,rfl,rfl,hv⟩) (Heap.get?_update_self _ vh rfl) λv2 h2 t2 hv2 Bu=>?_⟩
   ·exact(Heap.get?_update_other _ _ (λz:S=b=>hSf (z ▸ Jm))).trans e
   ·exact hR v2 h2 t2 hv2 λb o q1 q2 e=>Bu b o q1 q2 ((Heap.get?_update_other _ _ (Ne.symm q2)).trans (kp b o q1 e))
  ·subst e1
   show W8 _ A.in1 (tryCatch (holding [v,v] (richCompare .Lt v vb >>= _)) _ >>= _) _ _ _;refine W9 (wpAny_tryCatch (W' (W9 (hcmp (i+1) (argBest bt i) v vb _ _ _ hv EF ?_))))
   refine W9 (W' (Xf (W9 (wpAny_letGo (Xe ?_)))))
   cases hb:bt (i+1) (argBest bt i) with
   | true=>
    have ha:argBest bt (i+1)=i+1:=by unfold argBest;rw[hb];rfl
    simp only[if_true];refine W9 (wpAny_updateSeq vh rfl (W9 (wpAny_letGo ?_)))
    rw[nm]
    refine Xe ⟨plainId_quiet F.plain_min_loop _,ih (i+2) _ [v,v] _ (by omega) lt (W.frame _ _ _ st1 λb Jm o e=>?_) (.inr ⟨i+1,v,rfl,rfl,by rw[ha];exact hv⟩) (Heap.get?_update_self _ vh rfl) λv2 h2 t2 hv2 Bu=>?_⟩
    ·exact(Heap.get?_update_other _ _ (λz:S=b=>hSf (z ▸ Jm))).trans e
    ·exact hR v2 h2 t2 hv2 λb o q1 q2 e=>Bu b o q1 q2 ((Heap.get?_update_other _ _ (Ne.symm q2)).trans (kp b o q1 e))
   | false=>
    have ha:argBest bt (i+1)=argBest bt i:=by rw[argBest,hb];rfl
    simp only[Bool.false_eq_true,if_false];refine W9 (wpAny_letGo ?_)
    rw[nm]
    refine Xe ⟨plainId_quiet F.plain_min_loop _,ih (i+2) _ [vb,vb] c (by omega) lt st1 (.inr ⟨i+1,vb,rfl,rfl,by rw[ha];exact EF⟩) vh λv2 h2 t2 hv2 Bu=>?_⟩
    exact hR v2 h2 t2 hv2 λb o q1 q2 e=>Bu b o q1 q2 (kp b o q1 e)
section
variable {X:Cx}
def N6:List Int->Wv
 | []=> .aE
 | n::r=> .int (fH n r)
theorem yO(hc:X.calm=true){pins:List (WN×Obj)}{s:WT}{σ:L2.St}{H:Hp}{p:WN}{ns:List Int}{Q:VK}(I:L2.Inv X pins σ H s)(hq:gZ X.K H p (ns.map V.int))(q:∀v:V,(ns=[]/\v= .aE)\/(∃n r,ns=n::r/\v= .int (fH n r))->Q v H) :
  W8 (model X.prog X.w) X.A (call (.builtin "min") [.ref p] [(Str.ofString "default",.none)]) (EP X pins σ Q) X.xe s:=by
 obtain⟨its,r',pl,hz⟩:=I.list hq
 obtain⟨xs,rfl,e0⟩:=dN r'
 have hl:=pl.isList
 have e:(xs.map λp=>Value.int p.1 p.2).toArray=intItems xs.toArray:=by unfold intItems;simp
 rw[e] at hl
 have hlen:xs.length=ns.length:=by rw[<-e0];simp
 have hnum:=λi=>eG xs i
 rw[e0] at hnum
 have hh:X.A.handled=none:=I.ok.hd hc
 have nm:(toString "min"++toString ".loop":String)="min.loop":=by decide
 refine kmk_tree F.kind_min F.plain_min F.entry_min (Bv _ _) ?_
 show W8 _ X.A.in1 (Builtin.Builtins.bindParams "min" ["key","default"] 0 ⟨[],[(Str.ofString "default",.none)]⟩ >>= _) _ _ s
 refine W9 (wpAny_of_eq (show Builtin.Builtins.bindParams "min" ["key","default"] 0 ⟨[],[(Str.ofString "default",.none)]⟩=pure [none,some .none] from rfl) (W9 (Xe ?_)))
 refine W9 (iter_intList hl λs₂ e2 st hfp hlI=>?_)
 subst e2
 refine W9 (Xd ?_)
 rw[nm]
 have W:=Walks.list (prog:=X.prog) (w:=X.w) (A:=X.A.in1) hh _ p hlI (intItems xs.toArray)
 refine Xe ⟨plainId_quiet F.plain_min_loop _,yN W _ (CmpOf.ints_lt (numAt xs.toArray) (λ_ _=>intItems_at)) (λhm=>Nat.lt_irrefl _ (hfp _ hm)) _ 0 _ [] 0 rfl (Nat.zero_le _) (W.frame _ _ _ st λb _ o e=>Heap.get?_push_of_some _ e) (.inl ⟨rfl,rfl⟩) (Heap.get?_push_size _ rfl) λv h' tk hv hk=>?_⟩
 have kp:∀b o,s.heap.get? b=some o->h'.get? b=some o:=λb o e=>by
  have e3:(s.heap.push { cls:=.type "list_iterator",data:=.fields #[.ref p,.int 0 0] }).get? b=some o:=Heap.get?_push_of_some _ e
  exact hk b o (by intro z;simp at z;subst z;exact Nat.lt_irrefl _ (Heap.lt_size e)) (Nat.ne_of_lt (Heap.lt_size e3)) (Heap.get?_push_of_some _ e3)
 have hsz:(intItems xs.toArray).size=ns.length:=by simp[intItems,hlen]
 rcases hv with ⟨n0,rfl⟩ | ⟨i,n1,hv⟩
 ·exact⟨.aE,H,I.kept kp,rfl,q _ (.inl ⟨List.length_eq_zero_iff.mp (by omega),rfl⟩)⟩
 ·obtain⟨t,rfl⟩:=intItems_at hv
  cases ns with
  | nil=>rw[hsz] at n1;cases n1
  | cons n r=>
   refine⟨.int (fH n r),H,I.kept kp,⟨t,?_⟩,q _ (.inr ⟨n,r,rfl,rfl⟩)⟩
   obtain⟨h1,h2⟩:=PySem.argBest_lt (numAt xs.toArray) i
   congr 1
   have hr:(n::r).length=i+1:=by omega
   refine wN ?_ λa ha=>?_
   ·rw[hnum]
    exact fZ (by omega)
   ·obtain⟨j,hj,rfl⟩:=List.mem_iff_getElem.mp ha
    have q2:=h2 j (by omega)
    rw[hnum j,List.getD_eq_getElem?_getD,List.getElem?_eq_getElem hj] at q2
    exact q2
end
section
variable {X:Cx}
def pU:List Wv->Hs->Re Wv
 | [.ref l],st=>match ag st l with
  | some ws=>(match intsOf ws with | some ns=> .ok (Qb ns) st | none=> .bad)
  | none=> .bad
 | _,_=> .bad
def pV:List Wv->Hs->Re Wv
 | [.ref l],st=>match ag st l with
  | some ws=>(match intsOf ws with | some ns=> .ok (N6 ns) st | none=> .bad)
  | none=> .bad
 | _,_=> .bad
def Jn(X:Cx)(id:String)(op:List Wv->Hs->Re Wv):Prop:=∀(ws:List Wv)(vs:List V)(us:List WU)(st:Hs)(H:Hp)(m:Mp)(Q:VK)(pins:List (WN×Obj))(s:WT)(σ:L2.St),aK X.K m st H->ah X.K m H ws vs->L2.Inv X pins σ H s->Vals vs us->bB X.K m H (op ws st) Q->
 W8 (model X.prog X.w) X.A (call (.builtin id) us [(Str.ofString "default",.none)]) (EP X pins σ Q) X.xe s
theorem Jo(hc:X.calm=true):Jn X "max" pU:=by
 intro ws vs us st H m Q pins s σ S rs I rv p
 match ws,rs,p with
 | [],rs,p=>exact False.elim p
 | x::y::t,rs,p=>cases x<;>exact False.elim p
 | [x],rs,p=>
  obtain⟨v,rfl,r1⟩:=il rs
  cases x with
  | ref l=>
   unfold pU at p
   unfold af at r1
   obtain⟨a,rfl,hl⟩:=r1
   obtain⟨u,rfl,ru⟩:=vals1 rv
   cases ru
   cases e:ag st l with
   | none=>simp only[e] at p;exact False.elim p
   | some ws=>
    simp only[e] at p
    cases e2:intsOf ws with
    | none=>simp only[e2] at p;exact False.elim p
    | some ns=>
     simp only[e2] at p
     obtain⟨xs,q1,q2⟩:=S.read hl e
     have q3:=bU q2 e2
     subst q3
     refine yM hc I q1 λv hv=>p v m H Ext.refl S ?_
     rcases hv with ⟨rfl,rfl⟩ | ⟨n,r,rfl,rfl⟩
     ·exact pC
     ·exact mkInt
  | _=>exact False.elim p
theorem Jp(hc:X.calm=true):Jn X "min" pV:=by
 intro ws vs us st H m Q pins s σ S rs I rv p
 match ws,rs,p with
 | [],rs,p=>exact False.elim p
 | x::y::t,rs,p=>cases x<;>exact False.elim p
 | [x],rs,p=>
  obtain⟨v,rfl,r1⟩:=il rs
  cases x with
  | ref l=>
   unfold pV at p
   unfold af at r1
   obtain⟨a,rfl,hl⟩:=r1
   obtain⟨u,rfl,ru⟩:=vals1 rv
   cases ru
   cases e:ag st l with
   | none=>simp only[e] at p;exact False.elim p
   | some ws=>
    simp only[e] at p
    cases e2:intsOf ws with
    | none=>simp only[e2] at p;exact False.elim p
    | some ns=>
     simp only[e2] at p
     obtain⟨xs,q1,q2⟩:=S.read hl e
     have q3:=bU q2 e2
     subst q3
     refine yO hc I q1 λv hv=>p v m H Ext.refl S ?_
     rcases hv with ⟨rfl,rfl⟩ | ⟨n,r,rfl,rfl⟩
     ·exact pC
     ·exact mkInt
  | _=>exact False.elim p
theorem sU{x:Str}{id:String}{op:List Wv->Hs->Re Wv}{g:GA}{p pos kp cp:Pos}{e:Expr}{kk:Nat}(hc:Jn X id op)(hg:Gl X x)(hm:X.mg x=none)(hv:WY x=some (.builtin id))(ha:JA X [e] g)(hn:x≠"__name__")(hdb:(x == ("__debug__":Str))=false)
  (he:W7 [e] X.env=[(false,eval e X.env)]):JE X (.Call (.Name x p) [e] [⟨some (Str.ofString "default"),.Constant .none kk cp,kp⟩] pos) (ar op g):=by
 intro ρ st σ H m Q S R pp pins s I
 have args:=ha.go (T:=λvs H1=>∃ws st1 m1,ao X σ m H (op ws st1).gw (Ih X.K m H Q)/\Ext X.K m H m1 H1/\aK X.K m1 st1 H1/\ah X.K m1 H1 ws vs) S R (ao.bind pp)
  λws st1 vs m1 H1 p1 e1 S1 rs=>⟨ws,st1,m1,p1,e1,S1,rs⟩
 refine wpAny_Call_Name_kw (hV I hg hm hv ?_ hn hdb)
 refine callWith_kw (aI (args pos pins s I) λus s1 ⟨vs,H1,I1,r,ws,st1,m1,p1,e1,S1,rs⟩=>?_) (by rw[he];rfl) (by rw[he];rfl)
 have kwd:=wc (nm:=some (Str.ofString "default")) (kpos:=kp) (X:=X) (zG (j:=kk) (pos:=cp)) zX pos pins s1 σ H1 (λzs H2=>zs=[.aE]/\H2=H1) I1 ⟨rfl,rfl⟩
 refine aI kwd λzs s2 ⟨ys,H2,I2,rz,ez,eH⟩=>?_
 subst ez
 subst eH
 obtain⟨u,rfl,ru⟩:=vals1 rz
 cases ru
 exact hc ws vs us st1 H2 m1 Q pins s2 σ S1 rs I2 r (bB.shift (ao.gw p1) e1)
end
end J
namespace J
open PySem PySem.Spec PyProof.Rows L2
def MV(x:Str):It:=⟨λi _=>i < x.cps.size,λi H v H'=>H'=H/\∃c,x.cps[i]? =some c/\v= .str ⟨#[c]⟩,λi _=>x.cps.size<=i⟩
theorem vi{P:WS}{w:WV}{K:PySem.W.Frag}{tg:Expr}(x:Str)(t:Tok)(it:WN):Turn P w K tg (MV x) [it] it (λi h=>h.IsStrIter it "str_ascii_iterator" x t i) where
 mem:=List.mem_singleton.mpr rfl
 obj:=λi h st b hb=>by
  cases List.mem_singleton.mp hb
  obtain⟨o,e,c,d⟩:=st
  exact⟨o,e,λv z=>by rw[d] at z;cases z⟩
 keep:=λi h h' st k=>let ⟨o,e,r⟩:=st;⟨o,k it (List.mem_singleton.mpr rfl) o e,r⟩
 item:=by
  intro X hP hw hK hc i pins s σ H E I hf st hg
  subst hP;subst hw;subst hK
  obtain⟨f0,f1,f2,f3,f4,f5⟩:=hf it (List.mem_singleton.mpr rfl)
  have hi:i < x.cps.size:=hg
  refine wpAny_pyNext_ascii_item st (c:=x.cps[i]) (by simp[hi]) λh' st' sb=>?_
  have I1:L2.Inv X pins σ H { s with heap:=h',toks:=s.toks+1 }:=I.turned (t':=s.toks+1) (λb o hb e=>sb.extBut b o hb e) f0 f1 f3 f4 f5
  obtain⟨o,e,c,d⟩:=id st'
  exact⟨_,rfl,kS (s:={ s with heap:=h',toks:=s.toks+1 }) e c d (by decide) ⟨.str ⟨#[x.cps[i]]⟩,H,I1,⟨_,rfl⟩,⟨rfl,_,by simp[hi],rfl⟩,st',λb hb=>(hf b hb).1⟩⟩
 done:=by
  intro X hP hw hK hc i pins s σ H E I hf st hg
  subst hP;subst hw;subst hK
  obtain⟨f0,f1,f2,f3,f4,f5⟩:=hf it (List.mem_singleton.mpr rfl)
  have hi:x.cps.size<=i:=hg
  exact wpAny_pyNext_ascii_end (I.ok.hd hc) st (by simp[hi]) λh' eb=>⟨rfl,I.turned (t':=s.toks) (λb o hb e=>eb b o hb e) f0 f1 f3 f4 f5⟩
 self:=λ_ _ _ _ _ st h=>wpAny_pyIter_striter_ascii st h
theorem yP{P:WS}{w:WV}{K:PySem.W.Frag}{tg:Expr}(x:Str)(t:Tok)(it:WN):Turn P w K tg (MV x) [it] it (λi h=>h.IsStrIter it "str_iterator" x t i) where
 mem:=List.mem_singleton.mpr rfl
 obj:=λi h st b hb=>by
  cases List.mem_singleton.mp hb
  obtain⟨o,e,c,d⟩:=st
  exact⟨o,e,λv z=>by rw[d] at z;cases z⟩
 keep:=λi h h' st k=>let ⟨o,e,r⟩:=st;⟨o,k it (List.mem_singleton.mpr rfl) o e,r⟩
 item:=by
  intro X hP hw hK hc i pins s σ H E I hf st hg
  subst hP;subst hw;subst hK
  obtain⟨f0,f1,f2,f3,f4,f5⟩:=hf it (List.mem_singleton.mpr rfl)
  have hi:i < x.cps.size:=hg
  refine wpAny_pyNext_wide_item st (c:=x.cps[i]) (by simp[hi]) λh' st' sb=>?_
  have I1:L2.Inv X pins σ H { s with heap:=h',toks:=s.toks+1 }:=I.turned (t':=s.toks+1) (λb o hb e=>sb.extBut b o hb e) f0 f1 f3 f4 f5
  obtain⟨o,e,c,d⟩:=id st'
  exact⟨_,rfl,kS (s:={ s with heap:=h',toks:=s.toks+1 }) e c d (by decide) ⟨.str ⟨#[x.cps[i]]⟩,H,I1,⟨_,rfl⟩,⟨rfl,_,by simp[hi],rfl⟩,st',λb hb=>(hf b hb).1⟩⟩
 done:=by
  intro X hP hw hK hc i pins s σ H E I hf st hg
  subst hP;subst hw;subst hK
  obtain⟨f0,f1,f2,f3,f4,f5⟩:=hf it (List.mem_singleton.mpr rfl)
  have hi:x.cps.size<=i:=hg
  exact wpAny_pyNext_wide_end (I.ok.hd hc) st (by simp[hi]) λh' eb=>⟨rfl,I.turned (t':=s.toks) (λb o hb e=>eb b o hb e) f0 f1 f3 f4 f5⟩
 self:=λ_ _ _ _ _ st h=>wpAny_pyIter_striter_wide st h
section
variable {X:Cx}
theorem Jq{tg l:Expr}{tl:TE}(hl:PE X l tl):PI X tg l (λσ H R=>tl σ H λv H1=>∃z,v= .str z/\R (MV z) H1):=by
 intro pins s σ H R I h
 refine aI (hl pins s σ H _ I h) λv s1 ⟨x,H1,I1,r1,z,e,q⟩=>?_
 subst e
 obtain⟨t,rfl⟩:=r1
 have frs:∀b∈[s1.heap.objs.size],dX X pins H1 b:=λb hb=>by
  cases List.mem_singleton.mp hb
  exact I1.rT (Nat.le_refl _) (I1.hok.fresh (Nat.le_refl _))
 cases ha:z.cps.all (· < 128)
 ·exact wpAny_pyIter_wide ha ⟨s1.heap.objs.size,[s1.heap.objs.size],_,_,H1,rfl,I1.kept (t':=s1.toks) λb o e=>Heap.get?_push_of_some _ e,yP z t _,⟨_,Heap.get?_push_size _ rfl,rfl,rfl⟩,frs,q⟩
 ·exact wpAny_pyIter_ascii ha ⟨s1.heap.objs.size,[s1.heap.objs.size],_,_,H1,rfl,I1.kept (t':=s1.toks) λb o e=>Heap.get?_push_of_some _ e,vi z t _,⟨_,Heap.get?_push_size _ rfl,rfl,rfl⟩,frs,q⟩
def fI(z:PySem.Str):List Wv:=z.cps.toList.map λc=>Wv.str ⟨#[c]⟩
def sV(w:Wv)(st:Hs):Re Wk:=match w with
 | .str z=> .ok (none,fI z) st
 | w=>IX w st
def eQ(g:GE):GI:=λρ st=>(g ρ st).bind sV
theorem Jr{z:PySem.Str}{m1:Mp}{H1:Hp}(hz:PyData.strOk z=true):pM X (none,fI z) m1 H1 (MV z) where
 go:=λk H m' st _ _ _ hk=>by
  have:k < z.cps.size:=by simpa [fI] using hk
  exact this
 stop:=λk H m' st _ _ _ hk=>by
  have:k=z.cps.size:=by simpa [fI] using hk
  exact Nat.le_of_eq this.symm
 rS:=λk hk H v H' m' st _ _ _ y=>by
  obtain⟨rfl,c,hc,rfl⟩:=y
  refine⟨rfl,?_⟩
  have hk':k < z.cps.size:=by simpa [fI] using hk
  have e:∀h:k < (fI z).length,(fI z)[k]'h= .str ⟨#[z.cps[k]]⟩:=by intro h;simp[fI]
  have hc':z.cps[k]=c:=by simpa [hk'] using hc
  show af X.K m' H' ((fI z)[k]'hk) _
  rw[e hk,hc']
  refine mkStr ?_
  rw[pS] at hz ⊢
  intro d hd
  simp at hd
  rw[hd,<-hc']
  exact hz _ (by simp)
theorem wO{tg iter:Expr}{g:GE}(h:JE X iter g):JI X tg iter (eQ g):=by
 obtain⟨w1,h1,k1⟩:=IY (tg:=tg) h
 refine⟨λσ H R=>w1 σ H R\/(SE X iter σ H λv H1=>∃z,v= .str z/\R (MV z) H1),λpins s σ H R I q=>?_,λρ st σ H m R S RR p=>?_⟩
 ·rcases q with q | q
  ·exact h1 pins s σ H R I q
  ·exact Jq aB pins s σ H R I q
 ·unfold eQ at p
  cases e:g ρ st with
  | bad=>rw[e] at p;exact False.elim p
  | err c st'=>rw[e] at p;exact .inl (k1 ρ st σ H m R S RR (by unfold Bc;rw[e];exact p))
  | ok w st'=>
   rw[e] at p
   cases w with
   | str z=>
    refine .inr ?_
    refine h.go (ok:=λw st1=>w= .str z/\st1=st') S RR (by rw[e];exact⟨rfl,rfl⟩) λw st1 v m1 H1 q e1 S1 r1=>?_
    obtain⟨rfl,rfl⟩:=q
    unfold af at r1
    obtain⟨rfl,hz⟩:=r1
    exact⟨z,rfl,p m1 H1 _ e1 S1 trivial (Jr hz)⟩
   | _=>exact .inl (k1 ρ st σ H m R S RR (by unfold Bc;rw[e];exact p))
end
end J
namespace J
open PySem PySem.Spec PyProof.Rows L2
section
variable {X:Cx}
end
end J
namespace J
open PySem PySem.Spec PyProof.Rows L2
def keyOf:Wv->Option L2.Key
 | .int i=>some (.inl i)
 | .str x=>some (.inr x)
 | _=>none
theorem kq{K:PySem.W.Frag}{m:Mp}{H:Hp}{w:Wv}{v:V}{k:L2.Key}(r:af K m H w v)(e:keyOf w=some k):v=kV k:=by
 cases w with
 | int i=>cases e;unfold af at r;rw[r];rfl
 | str x=>cases e;unfold af at r;rw[r.1];rfl
 | _=>cases e
def dm{κ:Type}[DecidableEq κ](kvs:List (κ×Wv))(k:κ):Option Wv:=match kvs with
 | []=>none
 | p::r=>if p.1=k then some p.2 else dm r k
def qL{κ:Type}[DecidableEq κ](kvs:List (κ×Wv))(k:κ)(v:Wv):List (κ×Wv):=if(kvs.any λkv=>decide (kv.1=k))=true then kvs.map (λkv=>if kv.1=k then(kv.1,v) else kv) else kvs++[(k,v)]
def Js(kvs more:List (L2.Key×Wv)):List (L2.Key×Wv):=more.foldl (λacc kv=>qL acc kv.1 kv.2) kvs
section
variable {K:PySem.W.Frag} {m:Mp} {H:Hp} {κ:Type}
theorem RelK.nil:RelK (κ:=κ) K m H [] []:=⟨rfl,ah.nil⟩
theorem RelK.cons{k:κ}{w:Wv}{v:V}{kvs:List (κ×Wv)}{xs:List (κ×V)}(h:af K m H w v)(t:RelK K m H kvs xs):RelK K m H ((k,w)::kvs) ((k,v)::xs) :=
 ⟨by simp[t.1],by simpa using ah.cons h t.2⟩
theorem RelK.nil_inv{xs:List (κ×V)}(h:RelK K m H [] xs):xs=[]:=by
 have:=h.1
 cases xs with
 | nil=>rfl
 | cons a b=>simp at this
theorem RelK.cons_inv{p:κ×Wv}{kvs:List (κ×Wv)}{xs:List (κ×V)}(h:RelK K m H (p::kvs) xs):∃v t,xs=(p.1,v)::t/\af K m H p.2 v/\RelK K m H kvs t:=by
 obtain⟨h1,h2⟩:=h
 cases xs with
 | nil=>simp at h1
 | cons q t=>
  simp at h1 h2
  unfold ah at h2
  obtain⟨x,r,e1,e2,e3⟩:=h2
  cases e1
  exact⟨q.2,t,by rw[h1.1],e2,h1.2,e3⟩
theorem RelK.length{kvs:List (κ×Wv)}{xs:List (κ×V)}(h:RelK K m H kvs xs):kvs.length=xs.length:=by
 have:=congrArg List.length h.1
 simpa using this
variable [DecidableEq κ]
theorem RelK.val:∀{kvs:List (κ×Wv)}{xs:List (κ×V)}(k:κ),RelK K m H kvs xs->(dm kvs k=none->jD xs k=none)/\∀w,dm kvs k=some w->∃v,jD xs k=some v/\af K m H w v
 | [],xs,k,h=>by
  rw[h.nil_inv]
  exact⟨λ_=>rfl,(λw e=>by cases e)⟩
 | p::r,xs,k,h=>by
  obtain⟨v,t,rfl,h1,h2⟩:=h.cons_inv
  obtain⟨i1,i2⟩:=RelK.val k h2
  unfold dm
  by_cases e:p.1=k
  ·rw[if_pos e,jE (by exact e)]
   exact⟨(λz=>by cases z),λw z=>⟨v,rfl,by cases z;exact h1⟩⟩
  ·rw[if_neg e,jF (by exact e)]
   exact⟨i1,i2⟩
theorem RelK.any:∀{kvs:List (κ×Wv)}{xs:List (κ×V)}(k:κ),RelK K m H kvs xs->(kvs.any λkv=>decide (kv.1=k))=xs.any λkv=>decide (kv.1=k)
 | [],xs,k,h=>by rw[h.nil_inv];rfl
 | p::r,xs,k,h=>by
  obtain⟨v,t,rfl,h1,h2⟩:=h.cons_inv
  rw[List.any_cons,List.any_cons,RelK.any k h2]
theorem RelK.repl:∀{kvs:List (κ×Wv)}{xs:List (κ×V)}(k:κ){w:Wv}{v:V},RelK K m H kvs xs->af K m H w v->RelK K m H (kvs.map λkv=>if kv.1=k then(kv.1,w) else kv) (xs.map λkv=>if kv.1=k then(kv.1,v) else kv)
 | [],xs,k,w,v,h,r=>by rw[h.nil_inv];exact RelK.nil
 | p::kvs,xs,k,w,v,h,r=>by
  obtain⟨u,t,rfl,h1,h2⟩:=h.cons_inv
  rw[List.map_cons,List.map_cons]
  by_cases e:p.1=k
  ·rw[if_pos e,if_pos (by exact e)]
   exact RelK.cons r (RelK.repl k h2 r)
  ·rw[if_neg e,if_neg (by exact e)]
   exact RelK.cons h1 (RelK.repl k h2 r)
theorem RelK.snoc:∀{kvs:List (κ×Wv)}{xs:List (κ×V)}(k:κ){w:Wv}{v:V},RelK K m H kvs xs->af K m H w v->RelK K m H (kvs++[(k,w)]) (xs++[(k,v)])
 | [],xs,k,w,v,h,r=>by rw[h.nil_inv];exact RelK.cons r RelK.nil
 | p::kvs,xs,k,w,v,h,r=>by
  obtain⟨u,t,rfl,h1,h2⟩:=h.cons_inv
  exact RelK.cons h1 (RelK.snoc k h2 r)
theorem RelK.put{kvs:List (κ×Wv)}{xs:List (κ×V)}(k:κ){w:Wv}{v:V}(h:RelK K m H kvs xs)(r:af K m H w v):RelK K m H (qL kvs k w) (putK xs k v):=by
 unfold qL putK
 rw[h.any k]
 split
 ·exact h.repl k r
 ·exact h.snoc k r
end
section
variable {K:PySem.W.Frag} {m:Mp} {H:Hp}
theorem RelK.merge:∀{more:List (L2.Key×Wv)}{ms:List (L2.Key×V)}{kvs:List (L2.Key×Wv)}{xs:List (L2.Key×V)},RelK K m H kvs xs->RelK K m H more ms->RelK K m H (Js kvs more) (Ia xs ms)
 | [],ms,kvs,xs,h,g=>by rw[g.nil_inv];exact h
 | p::more,ms,kvs,xs,h,g=>by
  obtain⟨u,t,rfl,h1,h2⟩:=g.cons_inv
  have:=RelK.merge (more:=more) (ms:=t) (kvs:=qL kvs p.1 p.2) (xs:=putK xs p.1 u) (RelK.put p.1 h h1) h2
  exact this
end
section
variable {X:Cx}
inductive Qc(X:Cx)(pos:Pos):List (Option Expr)->List Expr->List (GE×GE)->Prop
 | nil:Qc X pos [] [] []
 | cons {k v:Expr} {ks:List (Option Expr)} {vs:List Expr} {gk gv:GE} {gs:List (GE×GE)}:JE X k gk->JE X v gv->Qc X pos ks vs gs->Qc X pos (some k::ks) (v::vs) ((gk,gv)::gs)
end
def wQ:Wv->WU->Prop
 | .int i,u=>∃t,u= .int i t
 | .str x,u=>(∃t,u= .str x t)/\PyData.strOk x=true
 | _,_=>False
abbrev Dc:=List (PySem.Str×Wv)
def qM(w:WV):Dc->List DictEntry->Prop
 | [],[]=>True
 | (k,v)::r,e::t=>(e.hash=hashStr w k/\(∃tk,e.key= .str k tk)/\wQ v e.val)/\qM w r t
 | _,_=>False
def lI(K:PySem.W.Frag)(w:WV)(mg:Str->Option WU)(x:Str)(kvs:Dc):Prop :=
 ∃(a:WN)(es:Array DictEntry)(ep:Nat),mg x=some (.ref a)/\K.lookup a=some ⟨.type "dict",none,.dict es ep,#[]⟩/\(a == sysModules)=false/\qM w kvs es.toList/\(kvs.map (·.1)).Nodup
theorem jQ{P:WS}{w:WV}:∀{kvs:Dc}{l:List DictEntry},qM w kvs l->∃vs:List (PySem.Str×WU),vs.map (·.1)=kvs.map (·.1)/\Pairs (PySem.strKind P w) l vs/\(∀e∈l,∃k,(PySem.strKind P w).is k e.key=true/\e.hash=(PySem.strKind P w).hash k)/\
  ∀k,(kvs.lookup k=none->valueAt vs k=none)/\∀v,kvs.lookup k=some v->∃u,valueAt vs k=some u/\wQ v u
 | [],[],_=>⟨[],rfl,.nil,(λ_ z=>by cases z),λk=>⟨λ_=>rfl,(λv z=>by cases z)⟩⟩
 | (k,v)::r,e::t,h=>by
  obtain⟨⟨h1,⟨tk,h2⟩,h3⟩,h4⟩:=h
  obtain⟨vs,i1,i2,i3,i4⟩:=jQ (P:=P) h4
  have his:(PySem.strKind P w).is k e.key=true:=by rw[h2];exact strKind_is P w k tk
  refine⟨(k,e.val)::vs,by simp[i1],.cons his rfl i2,λe' he=>?_,λk'=>?_⟩
  ·rcases List.mem_cons.mp he with z | z
   ·subst z;exact⟨k,his,h1⟩
   ·exact i3 e' z
  ·rw[List.lookup_cons]
   unfold valueAt
   rw[List.find?_cons]
   by_cases ek:k=k'
   ·subst ek
    have b1:(k == k)=true:=by simp
    rw[b1]
    simp only[decide_true,Option.map_some]
    exact⟨(λz=>by cases z),λv' z=>⟨e.val,rfl,by cases z;exact h3⟩⟩
   ·have b1:(k' == k)=false:=beq_eq_false_iff_ne.mpr λz=>ek z.symm
    rw[b1]
    simp only[ek,decide_false]
    exact i4 k'
 | [],_::_,h=>False.elim h
 | _::_,[],h=>False.elim h
theorem qN{P:WS}{w:WV}{K:PySem.W.Frag}{h:Heap}{a:WN}{es:Array DictEntry}{ep:Nat}{kvs:Dc}(KX:K.In h)(hl:K.lookup a=some ⟨.type "dict",none,.dict es ep,#[]⟩)(he:qM w kvs es.toList)(nd:(kvs.map (·.1)).Nodup) :
  ∃vs:List (PySem.Str×WU),h.DictOf (PySem.strKind P w) a vs/\∀k,(kvs.lookup k=none->valueAt vs k=none)/\∀v,kvs.lookup k=some v->∃u,valueAt vs k=some u/\wQ v u:=by
 obtain⟨vs,i1,i2,i3,i4⟩:=jQ (P:=P) he
 exact⟨vs,⟨_,es,ep,KX a _ hl,⟨rfl,rfl,rfl⟩,rfl,λe hm=>i3 e (by simpa using hm),i2,by rw[i1];exact nd⟩,i4⟩
section
variable {X:Cx}
def jR(neg:Bool)(kvs:Dc)(ga:GE):GE:=λρ st=>(ga ρ st).bind λa st1=>match a with
 | .str k=> .ok (.bl ((kvs.lookup k).isSome != neg)) st1
 | _=> .bad
def Gs(kvs:Dc)(ga:GE):GE:=λρ st=>(ga ρ st).bind λa st1=>match a with
 | .str k=>(match kvs.lookup k with | some w=> .ok w st1 | none=> .bad)
 | _=> .bad
def Bw(neg:Bool)(kvs:Dc)(ty:TE):TE:=λσ H Q=>ty σ H λy H1=>∃z,y= .str z/\Q (.bl ((kvs.lookup z).isSome != neg)) H1
theorem Bx{i:Expr}{ty:TE}{x:Str}{p:Pos}{kvs:Dc}(hi:PE X i ty)(hg:Gl X x)(hd:(x == ("__debug__":Str))=false)(D:lI X.K X.w X.mg x kvs):PC X .In i (.Name x p) (Bw false kvs ty):=by
 intro pins s σ H Q I h
 obtain⟨a,es,ep,g1,g2,g3,g4,g5⟩:=D
 refine aI (hi pins s σ H _ I h) λiv s1 ⟨y,H1,I1,ry,z,ey,q1⟩=>aI (fq (v:=.ref a) hg g1 rfl hd pins s1 σ H1 (λv H2=>v= .ref a/\H2=H1) I1 ⟨rfl,rfl⟩) λu s2 ⟨v,H2,I2,rv,ev,eH⟩=>?_
 subst ey ev eH
 obtain rfl:u=Value.ref a:=rv
 obtain⟨t,rfl⟩:=(show ∃t,iv=Value.str z t from ry)
 obtain⟨vs,dd,look⟩:=qN (P:=X.prog) (w:=X.w) I2.wa g2 g4 g5
 refine wpAny_in_of (strKind_is X.prog X.w z t) g3 dd.mapOf ⟨.bl (kvs.lookup z).isSome,_,I2.tok _,?_,by simpa using q1⟩
 obtain⟨l1,l2⟩:=look z
 cases e:kvs.lookup z with
 | none=>rw[l1 e];rfl
 | some w=>obtain⟨u,e1,_⟩:=l2 w e;rw[e1];rfl
theorem pW{i:Expr}{ty:TE}{x:Str}{p:Pos}{kvs:Dc}(hi:PE X i ty)(hg:Gl X x)(hd:(x == ("__debug__":Str))=false)(D:lI X.K X.w X.mg x kvs):PC X .NotIn i (.Name x p) (Bw true kvs ty):=by
 intro pins s σ H Q I h
 obtain⟨a,es,ep,g1,g2,g3,g4,g5⟩:=D
 refine aI (hi pins s σ H _ I h) λiv s1 ⟨y,H1,I1,ry,z,ey,q1⟩=>aI (fq (v:=.ref a) hg g1 rfl hd pins s1 σ H1 (λv H2=>v= .ref a/\H2=H1) I1 ⟨rfl,rfl⟩) λu s2 ⟨v,H2,I2,rv,ev,eH⟩=>?_
 subst ey ev eH
 obtain rfl:u=Value.ref a:=rv
 obtain⟨t,rfl⟩:=(show ∃t,iv=Value.str z t from ry)
 obtain⟨vs,dd,look⟩:=qN (P:=X.prog) (w:=X.w) I2.wa g2 g4 g5
 refine wpAny_notIn_of (strKind_is X.prog X.w z t) g3 dd.mapOf ⟨.bl (!(kvs.lookup z).isSome),_,I2.tok _,?_,by simpa using q1⟩
 obtain⟨l1,l2⟩:=look z
 cases e:kvs.lookup z with
 | none=>rw[l1 e];rfl
 | some w=>obtain⟨u,e1,_⟩:=l2 w e;rw[e1];rfl
theorem iP{a:Expr}{ga:GE}{neg:Bool}{kvs:Dc}(ha:JE X a ga){ρ:aT}{st:Hs}{σ:St}{H:Hp}{m:Mp}{Q:VK}(S:aK X.K m st H)(R:aq X.K m H ρ σ)(p:cN X σ m H (jR neg kvs ga ρ st) Q):Bw neg kvs (SE X a) σ H Q:=by
 refine ha.go S R (ao.bind p) λw st1 v m1 H1 p1 e1 S1 r1=>?_
 cases w with
 | str k=>
  unfold af at r1
  exact⟨k,r1.1,p1 _ m1 H1 e1 S1 (by unfold af;rfl)⟩
 | _=>exact False.elim p1
theorem EG{a:Expr}{ga:GE}{x:Str}{p pos:Pos}{kvs:Dc}(ha:JE X a ga)(hg:Gl X x)(hd:(x == ("__debug__":Str))=false)(D:lI X.K X.w X.mg x kvs):JE X (.Compare a [.In] [.Name x p] pos) (jR false kvs ga) :=
 JE.of (zH (Bx aB hg hd D) rfl) λρ st σ H m Q S R p=>iP ha S R p
theorem vj{a:Expr}{ga:GE}{x:Str}{p pos:Pos}{kvs:Dc}(ha:JE X a ga)(hg:Gl X x)(hd:(x == ("__debug__":Str))=false)(D:lI X.K X.w X.mg x kvs):JE X (.Compare a [.NotIn] [.Name x p] pos) (jR true kvs ga) :=
 JE.of (zH (pW aB hg hd D) rfl) λρ st σ H m Q S R p=>iP ha S R p
theorem EH{a:Expr}{ga:GE}{x:Str}{p pos:Pos}{kvs:Dc}(ha:JE X a ga)(hg:Gl X x)(hd:(x == ("__debug__":Str))=false)(D:lI X.K X.w X.mg x kvs):JT X (.Compare a [.In] [.Name x p] pos) (bg (jR false kvs ga)) :=
 JT.of (zJ (Bx aB hg hd D) rfl) λρ st σ H m Q S R p=>iP ha S R (ie p)
theorem vm{a:Expr}{ga:GE}{x:Str}{p pos:Pos}{kvs:Dc}(ha:JE X a ga)(hg:Gl X x)(hd:(x == ("__debug__":Str))=false)(D:lI X.K X.w X.mg x kvs):JT X (.Compare a [.NotIn] [.Name x p] pos) (bg (jR true kvs ga)) :=
 JT.of (zJ (pW aB hg hd D) rfl) λρ st σ H m Q S R p=>iP ha S R (ie p)
def MW(kvs:Dc)(ty:TE):TE:=λσ H Q=>ty σ H λy H1=>∃z w v,y= .str z/\kvs.lookup z=some w/\(∀u,wQ w u->RelV v u)/\Q v H1
theorem EI{b:Expr}{ty:TE}{x:Str}{p pos:Pos}{kvs:Dc}(hb:PE X b ty)(hs:Ai b)(hg:Gl X x)(hd:(x == ("__debug__":Str))=false)(D:lI X.K X.w X.mg x kvs):PE X (.Subscript (.Name x p) b pos) (MW kvs ty):=by
 intro pins s σ H Q I h
 obtain⟨a,es,ep,g1,g2,g3,g4,g5⟩:=D
 refine wt PySem.F.slot_dict_getitem.lookup hs (aI (fq (v:=.ref a) hg g1 rfl hd pins s σ H (λv H2=>v= .ref a/\H2=H) I ⟨rfl,rfl⟩) λu s1 ⟨v,H1,I1,rv,ev,eH⟩=>?_)
 subst ev eH
 obtain rfl:u=Value.ref a:=rv
 refine aI (hb pins s1 σ H1 _ I1 h) λiv s2 ⟨y,H2,I2,ry,z,w,v,ey,ew,ev,q⟩=>?_
 subst ey
 obtain⟨t,rfl⟩:=(show ∃t,iv=Value.str z t from ry)
 obtain⟨vs,dd,look⟩:=qN (P:=X.prog) (w:=X.w) I2.wa g2 g4 g5
 obtain⟨u,e1,e2⟩:=(look z).2 w ew
 exact⟨dd.typeIs,wpAny_getItem_of (strKind_is X.prog X.w z t) dd.mapOf e1 ⟨v,H2,I2.tok _,ev u e2,q⟩⟩
theorem EJ{b:Expr}{gb:GE}{x:Str}{p pos:Pos}{kvs:Dc}(hb:JE X b gb)(hs:Ai b)(hg:Gl X x)(hd:(x == ("__debug__":Str))=false)(D:lI X.K X.w X.mg x kvs):JE X (.Subscript (.Name x p) b pos) (Gs kvs gb) :=
 JE.of (EI aB hs hg hd D) λρ st σ H m Q S R p=>by
  refine hb.go S R (ao.bind p) λw st1 v m1 H1 p1 e1 S1 r1=>?_
  cases w with
  | str k=>
   dsimp only at p1
   cases e:kvs.lookup k with
   | none=>rw[e] at p1;exact False.elim p1
   | some u=>
    rw[e] at p1
    unfold af at r1
    cases u with
    | int i=>exact⟨k,.int i,.int i,r1.1,e,λu h=>h,p1 _ m1 H1 e1 S1 (by unfold af;rfl)⟩
    | str y=>
     by_cases hy:PyData.strOk y=true
     ·exact⟨k,.str y,.str y,r1.1,e,λu h=>h.1,p1 _ m1 H1 e1 S1 (by unfold af;exact⟨rfl,hy⟩)⟩
     ·obtain⟨a,es,ep,_,_,_,g4,_⟩:=D
      obtain⟨vs,_,_,_,i4⟩:=jQ (P:=X.prog) g4
      obtain⟨u,_,e2⟩:=(i4 k).2 _ e
      exact absurd e2.2 hy
    | _=>
     obtain⟨a,es,ep,_,_,_,g4,_⟩:=D
     obtain⟨vs,_,_,_,i4⟩:=jQ (P:=X.prog) g4
     obtain⟨u,_,e2⟩:=(i4 k).2 _ e
     exact False.elim e2
  | _=>exact False.elim p1
end
end J
namespace J
open PySem PySem.Spec PyProof.Rows PySem.W L2
section
variable (lt:Nat->Nat->Bool) (N:Nat)
def Kg{α:Type}:KasT α->(α->Prop)->Prop
 | .ret a,Q=>Q a
 | .ask i j k,Q=>(i < N/\j < N)/\Kg (k (lt i j)) Q
end
section
variable {lt:Nat->Nat->Bool} {N:Nat}
theorem Kg.bind{α β:Type}{f:α->KasT β}{Q:β->Prop}:∀{t:KasT α},Kg lt N t (λa=>Kg lt N (f a) Q)->Kg lt N (t.bind f) Q
 | .ret a,h=>h
 | .ask i j k,h=>⟨h.1,Kg.bind (t:=k (lt i j)) h.2⟩
theorem Kg.imp{α:Type}{Q R:α->Prop}(hq:∀a,Q a->R a):∀{t:KasT α},Kg lt N t Q->Kg lt N t R
 | .ret a,h=>hq a h
 | .ask i j k,h=>⟨h.1,Kg.imp hq (t:=k (lt i j)) h.2⟩
structure Ord(lt:Nat->Nat->Bool):Prop where
 as:∀a b,lt a b=true->lt b a=false
 tr:∀a b c,lt a b=false->lt b c=false->lt a c=false
theorem Ord.Sl(o:Ord lt)(a:Nat):lt a a=false:=by
 cases h:lt a a with
 | false=>rfl
 | true=>have:=o.as a a h;rw[h] at this;cases this
abbrev at_(p:Array Nat)(i:Nat):Nat:=p.getD i 0
structure Pm(N:Nat)(p:Array Nat):Prop where
 sz:p.size=N
 pm:p.toList.Perm (List.range N)
theorem Pm.bd{p:Array Nat}(h:Pm N p){i:Nat}(hi:i < N):at_ p i < N:=by
 have e:at_ p i=p[i]'(by rw[h.sz];exact hi):=by simp[at_,Array.getD,h.sz,hi]
 rw[e]
 have:p[i]'(by rw[h.sz];exact hi)∈p.toList:=by simp
 exact List.mem_range.mp (h.pm.mem_iff.mp this)
theorem wR{p q:Array Nat}{i j:Nat}(h:p[i]? =q[j]?):at_ p i=at_ q j:=by
 unfold at_
 rw[Array.getD_eq_getD_getElem?,Array.getD_eq_getD_getElem?,h]
theorem By{p:Array Nat}(h:Pm N p){i j:Nat}(hj:j<=N)(k:Nat):at_ (kas_rev p i j) k=if i<=k/\k < j then at_ p (i+j - 1 - k) else at_ p k:=by
 have q:=getElem?_mirror_all (xs:=p) (i:=i) (j:=j) (by rw[h.sz];exact hj) k
 unfold kas_rev
 split
 ·rename_i c;rw[if_pos c] at q;exact wR q
 ·rename_i c;rw[if_neg c] at q;exact wR q
def Up(lt:Nat->Nat->Bool)(p:Array Nat)(k:Nat):Prop:=∀i j,i<=j->j < k->lt (at_ p j) (at_ p i)=false
def Dn(lt:Nat->Nat->Bool)(p:Array Nat)(k:Nat):Prop:=∀i j,i<=j->j < k->lt (at_ p i) (at_ p j)=false
theorem Up.succ(o:Ord lt){p:Array Nat}{k:Nat}(h:Up lt p k)(hk:1<=k)(e:lt (at_ p k) (at_ p (k - 1))=false):Up lt p (k+1):=by
 intro i j hij hj
 by_cases c:j < k
 ·exact h i j hij c
 ·have:j=k:=by omega
  subst this
  by_cases c2:i=j
  ·subst c2;exact o.Sl _
  ·exact o.tr _ _ _ e (h i (j - 1) (by omega) (by omega))
theorem Dn.succ(o:Ord lt){p:Array Nat}{k:Nat}(h:Dn lt p k)(hk:1<=k)(e:lt (at_ p (k - 1)) (at_ p k)=false):Dn lt p (k+1):=by
 intro i j hij hj
 by_cases c:j < k
 ·exact h i j hij c
 ·have:j=k:=by omega
  subst this
  by_cases c2:i=j
  ·subst c2;exact o.Sl _
  ·exact o.tr _ _ _ (h i (j - 1) (by omega) (by omega)) e
theorem Dn.up{p:Array Nat}(hp:Pm N p){n:Nat}(hn:n<=N)(h:Dn lt p n):Up lt (kas_rev p 0 n) n:=by
 intro i j hij hj
 rw[By hp hn,By hp hn,if_pos ⟨by omega,hj⟩,if_pos ⟨by omega,by omega⟩]
 exact h _ _ (by omega) (by omega)
end
section
variable {prog:WS} {w:WV} {A:WO} {E:WU->WT->Prop} {s:WT}
end
section
variable {X:Cx} {pins:List (WN×Obj)} {σ:St} {H:Hp} {s:WT}
end
section
variable {X:Cx}
end
section
variable {prog:WS} {w:WV} {A:WO} {E:WU->WT->Prop} {s:WT}
end
section
variable {X:Cx}
abbrev pw(p:Int×Int):Wv:=.tup [.int p.1,.int p.2]
end
end J
namespace J
open PySem PySem.Spec PyProof.Rows L2
def keysOf:List Wv->Option (List L2.Key)
 | []=>some []
 | w::r=>(match keyOf w,keysOf r with | some k,some l=>some (k::l) | _,_=>none)
def qO:Wv->Option (List L2.Key)
 | .tup ws=>keysOf ws
 | _=>none
theorem nB{K:PySem.W.Frag}{m:Mp}{H:Hp}:∀{ws:List Wv}{xs:List V}{ks:List L2.Key},ah K m H ws xs->keysOf ws=some ks->xs=ks.map kV
 | [],xs,ks,r,e=>by unfold ah at r;subst r;cases e;rfl
 | w::ws,xs,ks,r,e=>by
  unfold ah at r
  obtain⟨x,t,rfl,r1,r2⟩:=r
  unfold keysOf at e
  cases e1:keyOf w with
  | none=>rw[e1] at e;cases e
  | some k=>
   cases e2:keysOf ws with
   | none=>rw[e1,e2] at e;cases e
   | some l=>
    rw[e1,e2] at e
    cases e
    rw[kq r1 e1,nB r2 e2]
    rfl
theorem nC{K:PySem.W.Frag}{m:Mp}{H:Hp}{w:Wv}{v:V}{ks:List L2.Key}(r:af K m H w v)(e:qO w=some ks):∃b,v= .ref b/\H b=some (.tup (ks.map kV)):=by
 cases w with
 | tup ws=>
  unfold af at r
  obtain⟨a,xs,rfl,h1,h2⟩:=r
  rw[nB h2 e] at h1
  exact⟨a,rfl,h1⟩
 | _=>cases e
def sW:GE:=λ_ st=> .ok (.ref st.length) (st++[.cB []])
def Gu:GE:=λ_ st=> .ok (.ref st.length) (st++[.dct []])
section
variable {X:Cx}
theorem EK{pos:Pos}:JE X (.Dict [] [] pos) sW:=JE.of Am λρ st σ H m Q S R p=>λq hq=>
 p (.ref q) (m++[q]) _ (Ext.more.trans (Ext.g_ (.inl hq))) (S.qx hq ⟨[],aC,RelK.nil⟩) (S.newest q _)
theorem EL{pos:Pos}:JE X (.Dict [] [] pos) Gu:=JE.of Al λρ st σ H m Q S R p=>λq hq=>
 p (.ref q) (m++[q]) _ (Ext.more.trans (Ext.g_ (.inl hq))) (S.qx hq ⟨[],aC,RelK.nil⟩) (S.newest q _)
def putD(d k v:Wv)(st:Hs):Option Hs:=match d with
 | .ref l=>(match st[l]? with
  | some (.dct kvs)=>(match keyOf k with | some kk=>if kvs.length < lim then some (st.set l (.dct (qL kvs kk v))) else none | none=>none)
  | some (.cB kvs)=>(match qO k with | some kk=>if kvs.length < lim then some (st.set l (.cB (qL kvs kk v))) else none | none=>none)
  | _=>none)
 | _=>none
def wU(gv gd gk:GE):GS:=λρ st=>(gv ρ st).aI ρ λv st1=>(gd ρ st1).aI ρ λd st2=>(gk ρ st2).aI ρ λk st3=>match putD d k v st3 with
 | some rJ=> .nx ρ rJ
 | none=> .bad
theorem EM{m:Mp}{st st':Hs}{H:Hp}{d k v:Wv}{x y z:V}(S:aK X.K m st H)(rd:af X.K m H d x)(rk:af X.K m H k y)(rv:af X.K m H v z)(e:putD d k v st=some st'):∃a H',x= .ref a/\qt H a y z H'/\Ext X.K m H m H'/\aK X.K m st' H':=by
 unfold putD at e
 cases d with
 | ref l=>
  dsimp only at e
  unfold af at rd
  obtain⟨a,rfl,ha⟩:=rd
  cases e1:st[l]? with
  | none=>rw[e1] at e;cases e
  | some o=>
   rw[e1] at e
   cases o with
   | dct kvs=>
    dsimp only at e
    cases e2:keyOf k with
    | none=>rw[e2] at e;cases e
    | some kk=>
     rw[e2] at e
     dsimp only at e
     by_cases c:kvs.length < lim
     ·rw[if_pos c] at e
      cases e
      obtain⟨xs,h1,h2⟩:=(show ∃ys,H a=some (.dK ys)/\RelK X.K m H kvs ys from S.obj _ _ _ ha e1)
      have ex:Ext X.K m H m (upd H a (.dK (putK xs kk z))):=Ext.g_ (.inr (.inr (.inl ⟨_,h1⟩)))
      refine⟨a,_,rfl,by rw[kq rk e2];exact qt.k h1 (by rw[<-h2.length];exact uQ c),ex,?_⟩
      exact S.mK ha e1 rfl ⟨_,aC,(h2.put kk rv).mono ex⟩
     ·rw[if_neg c] at e;cases e
   | cB kvs=>
    dsimp only at e
    cases e2:qO k with
    | none=>rw[e2] at e;cases e
    | some kk=>
     rw[e2] at e
     dsimp only at e
     by_cases c:kvs.length < lim
     ·rw[if_pos c] at e
      cases e
      obtain⟨xs,h1,h2⟩:=(show ∃ys,H a=some (.dT ys)/\RelK X.K m H kvs ys from S.obj _ _ _ ha e1)
      obtain⟨b,rfl,hb⟩:=nC rk e2
      have ex:Ext X.K m H m (upd H a (.dT (putK xs kk z))):=Ext.g_ (.inr (.inr (.inr ⟨_,h1⟩)))
      refine⟨a,_,rfl,qt.t h1 hb (by rw[<-h2.length];exact uQ c),ex,?_⟩
      exact S.mK ha e1 rfl ⟨_,aC,(h2.put kk rv).mono ex⟩
     ·rw[if_neg c] at e;cases e
   | _=>cases e
 | _=>cases e
theorem EN{o i e:Expr}{go gi ge:GE}{pos pos':Pos}(hu:X.A.units+1 < cLine)(he:JE X e ge)(ho:JE X o go)(hi:JE X i gi)(hs:swapsWith e (some (.Subscript o i pos')) pos.line X.env=pure false):JS X (.Assign [.Subscript o i pos'] e pos) (wU ge go gi) :=
 JS.of (DR hu aB aB aB hs) λρ st σ H m D S R p=>by
  refine he.go S R (av.bF R p) λv st1 vv m1 H1 p1 e1 S1 rv=>?_
  refine ho.go S1 (R.mono e1) ((av.bF (m:=m) (H:=H) R p1).imp e1 λ_ _ q=>q) λd st2 vd m2 H2 p2 e2 S2 rd=>?_
  refine hi.go S2 (R.mono (e1.trans e2)) ((av.bF (m:=m) (H:=H) R p2).imp (e1.trans e2) λ_ _ q=>q) λk st3 vk m3 H3 p3 e3 S3 rk=>?_
  have yh:=e1.trans (e2.trans e3)
  cases e4:putD d k v st3 with
  | none=>rw[e4] at p3;exact False.elim p3
  | some rJ=>
   rw[e4] at p3
   obtain⟨a,H4,f1,f2,f3,f4⟩:=EM (X:=X) S3 (af.mono e3 _ _ rd) rk (af.mono (e2.trans e3) _ _ rv) e4
   exact⟨a,H4,f1,f2,p3 σ m3 H4 (yh.trans f3) f4 (R.mono (yh.trans f3))⟩
end
end J
namespace J
open PySem PySem.Spec PyProof.Rows PySem.W L2
def qP(h:Heap)(d:WN)(es:Array DictEntry)(ep:Nat):Prop:=∃o,h.get? d=some o/\o.cls= .type "dict"/\o.data= .dict es ep
section
variable {prog:WS} {w:WV} {A:WO} {E:WU->WT->Prop} {s:WT} {d it:WN} {es:Array DictEntry} {ep i:Nat}
theorem qP.ty(x:qP s.heap d es ep):s.TypeIs (.ref d) "dict":=let ⟨o,h1,h2,_⟩:=x;⟨o,h1,h2⟩
theorem Bz{Q:WU->WT->Prop}(lo:(d == sysModules)=false)(x:qP s.heap d es ep)
  (k:Q (.ref s.heap.objs.size) { s with heap:=s.heap.push { cls:=.type "dict_keyiterator",data:=.fields #[.ref d,.int 0 0,.int es.size 0,.int ep 0] } }):W8 (model prog w) A (pyIter (.ref d)) Q E s:=by
 have ty:=x.ty
 obtain⟨o,g1,g2,g3⟩:=x
 refine wpAny_pyIter_slot ty PySem.F.slot_dict_iter (wpAny_call_entry PySem.F.slot_dict_iter ty PySem.F.entry_dict_iter ?_ (PySem.F.args_dict_iter_1 _))
 unfold Builtin.«dict.__iter__» Builtin.Dict.dictSlotNone
 refine W9 (W9 (wpAny_notOrdered_dict ty (Xe ?_)))
 unfold Builtin.Dict.showsAll
 have nlo:¬(d == sysModules)=true:=by rw[lo];exact Bool.false_ne_true
 refine W9 (show W8 _ _ (pure d) _ _ s from Xe (W9 ?_))
 rw[if_neg nlo]
 exact Xe (W9 (W_ g1 g3 (W9 (wpAny_dictEpoch g1 g3 (W9 (Xd (Xe ⟨_,rfl,"dict_keyiterator",_,⟨_,Heap.get?_push_size _ rfl,rfl⟩,PySem.F.slot_dict_keyiterator_next.lookup,by simpa [rawInt] using k⟩)))))))
theorem BA{Q:Option WU->WT->Prop}(ki:s.heap.IsKeyIter it d i es.size ep)(x:qP s.heap d es ep)(hi:i < es.size)
  (k:∀h',h'.IsKeyIter it d (i+1) es.size ep->Heap.SameBut it s.heap h'->Q (some es[i].key) { s with heap:=h' }):W8 (model prog w) A (pyNext (.ref it)) Q E s:=by
 have ty:=ki.typeIs
 obtain⟨oi,f1,f2,f3⟩:=id ki
 obtain⟨o,g1,g2,g3⟩:=x
 have own:Builtin.Dict_items.ownsTuple "dict_keyiterator"=false:=by decide
 have nn:¬((Value.ref d == Value.none)=true):=Bool.false_ne_true
 unfold pyNext
 refine W9 (wpAny_attempt (wpAny_callSpecial?_slot (name:=Str.ofString "__next__") ty PySem.F.slot_dict_keyiterator_next (wpAny_call_entry PySem.F.slot_dict_keyiterator_next ty PySem.F.entry_dict_keyiterator_next ?_ (PySem.F.args_dict_keyiterator_next_1 _))))
 refine W9 (Xe (W9 (W9 ?_)))
 first | refine W9 (wpAny_typeNameOfWhole_keyiter ty (Xe (W9 (wpAny_fieldsOf f1 f3 ?_)))) | refine W9 (wpAny_typeNameOf_keyiter ty (Xe (W9 (wpAny_fieldsOf f1 f3 ?_))))
 simp only[own,Bool.false_eq_true,if_false]
 refine(show W8 _ _ (if(Value.ref d == Value.none)=true then _ else _) _ _ s from ?_);rw[if_neg nn]
 refine W9 (Xe (W9 (W_ g1 g3 ?_)))
 rw[if_neg (by simp)]
 refine W9 (Xe (W9 (wpAny_dictEpoch g1 g3 ?_)))
 rw[if_neg (by simp)]
 refine Xe ?_
 have n0:¬((i:Int) < 0):=by omega
 simp only[n0,if_false,Int.toNat_natCast,Array.getElem?_eq_getElem hi]
 refine W9 ?_
 first | refine W9 (wpAny_typeNameOfWhole_keyiter ty (Xe (W9 (wpAny_isOneOf_keyiter ty ?_)))) | refine W9 (wpAny_typeNameOf_keyiter ty (Xe (W9 (wpAny_isOneOf_keyiter ty ?_))))
 refine(show W8 _ _ (setField (.ref it) 1 (rawInt ((i:Int)+1)) >>= _) _ _ s from ?_)
 have MX:(s.heap.update it (Obj.mapFields (·.setIfInBounds 1 (rawInt ((i:Int)+1))))).IsKeyIter it d (i+1) es.size ep:=⟨_,Heap.get?_update_self _ f1 (Obj.isFreed_of_fields (Obj.data_mapFields f3 _)),(Obj.cls_mapFields ..).trans f2,by rw[Obj.data_mapFields f3];simp[rawInt]⟩
 refine W9 (wpAny_setField f1 f3 (by simp) (W9 (W' (W9 (wpAny_isOneOf_keyiter (s:={ s with heap:=s.heap.update it (Obj.mapFields (·.setIfInBounds 1 (rawInt ((i:Int)+1)))) }) MX.typeIs ?_)))))
 exact(show W8 _ _ (pure es[i].key) _ _ _ from Xe (Xe ⟨_,rfl,Xe (k _ MX (Heap.SameBut.update ..))⟩))
theorem EO{Q:Option WU->WT->Prop}(hh:A.handled=none)(ki:s.heap.IsKeyIter it d i es.size ep)(x:qP s.heap d es ep)(hi:es.size<=i)(k:∀h',Heap.ExtBut it s.heap h'->Q none { s with heap:=h' }):W8 (model prog w) A (pyNext (.ref it)) Q E s:=by
 have ty:=ki.typeIs
 obtain⟨oi,f1,f2,f3⟩:=id ki
 obtain⟨o,g1,g2,g3⟩:=x
 have own:Builtin.Dict_items.ownsTuple "dict_keyiterator"=false:=by decide
 have nn:¬((Value.ref d == Value.none)=true):=Bool.false_ne_true
 unfold pyNext
 refine W9 (wpAny_attempt (wpAny_callSpecial?_slot (name:=Str.ofString "__next__") ty PySem.F.slot_dict_keyiterator_next (wpAny_call_entry PySem.F.slot_dict_keyiterator_next ty PySem.F.entry_dict_keyiterator_next ?_ (PySem.F.args_dict_keyiterator_next_1 _))))
 refine W9 (Xe (W9 (W9 ?_)))
 first | refine W9 (wpAny_typeNameOfWhole_keyiter ty (Xe (W9 (wpAny_fieldsOf f1 f3 ?_)))) | refine W9 (wpAny_typeNameOf_keyiter ty (Xe (W9 (wpAny_fieldsOf f1 f3 ?_))))
 simp only[own,Bool.false_eq_true,if_false]
 refine(show W8 _ _ (if(Value.ref d == Value.none)=true then _ else _) _ _ s from ?_);rw[if_neg nn]
 refine W9 (Xe (W9 (W_ g1 g3 ?_)))
 rw[if_neg (by simp)]
 refine W9 (Xe (W9 (wpAny_dictEpoch g1 g3 ?_)))
 rw[if_neg (by simp)]
 refine Xe ?_
 have n0:¬((i:Int) < 0):=by omega
 simp only[n0,if_false,Int.toNat_natCast,Array.getElem?_eq_none hi]
 refine W9 ?_
 first | refine W9 (wpAny_typeNameOfWhole_keyiter ty (Xe ?_)) | refine W9 (wpAny_typeNameOf_keyiter ty (Xe ?_))
 refine(show W8 _ _ (setField (.ref it) 0 .none >>= _) _ _ s from W9 (wpAny_setField f1 f3 (by simp) ?_))
 refine(show W8 _ _ (newExc (.type "StopIteration") [] >>= _) _ _ _ from ?_)
 simp only[newExc,newTuple,raiseNew]
 refine W9 (W9 (Xd (W9 (m:=firstArgMember _ _) (wpAny_of_eq (a:=Value.none) (by first | rfl | (simp only[firstArgMember];rfl)) (Xd ?_ (by size_fits)))) (by size_fits)))
 refine(W9 (wpAny_handled ?_))
 rw[show A.in1.handled=none by exact hh]
 refine(W9 (Xe (wpAny_throw ?_)))
 refine W9 (wpAny_isInstance (b:=true) (T:="StopIteration") ⟨_,Heap.get?_push_size _ rfl,rfl⟩ isSubtype_stop (Xe ?_))
 refine k _ ?_;exact((Heap.SameBut.update ..).extBut.push _).push _
end
section
variable {X:Cx}
end
def kr:List L2.Key->Option (List Int)
 | []=>some []
 | .inl i::r=>(match kr r with | some l=>some (i::l) | none=>none)
 | _=>none
theorem wV:∀{ks:List L2.Key}{ns:List Int},kr ks=some ns->ks.map kV=ns.map V.int
 | [],ns,e=>by cases e;rfl
 | .inl i::r,ns,e=>by
  unfold kr at e
  cases q:kr r with
  | none=>rw[q] at e;cases e
  | some l=>rw[q] at e;cases e;rw[List.map_cons,List.map_cons,wV q];rfl
 | .inr x::r,ns,e=>by cases e
def fv:List (List L2.Key)->Option (List Wv)
 | []=>some []
 | k::r=>(match kr k,fv r with | some ns,some l=>some (.tup (ns.map Wv.int)::l) | _,_=>none)
section
variable {X:Cx}
end
end J
namespace J
open PySem L2 PyProof.Rows
section
open PySem.SeqAt PySem.MeetsSeq PySem.MeetsSeq2 PySem.MeetsSeq3
end
variable {X:Cx}
def oLe:dj:=λx y st=>Me x y st
theorem Jt(hu:X.A.units+64 < cLine):fR X (W2 .LtE) oLe:=Mi
def oLt:dj:=λx y st=>Md x y st
theorem Ju(hu:X.A.units+64 < cLine):fR X (W2 .Lt) oLt:=Mf
end J
namespace J
open PySem PySem.Spec PyProof.Rows L2
structure dW(k:Nat)(A:WO):Prop where
 d:A.depth+3 * k+5 < recursionLimit
 u:A.units+16 * k+200 < cLine
theorem dW.of{k:Nat}{A:WO}(r:hX k A):dW k A:=⟨r.dp,r.un⟩
theorem dW.less{j k:Nat}{A:WO}(r:dW k A)(h:j<=k):dW j A:=⟨by have:=r.d;omega,by have:=r.u;omega⟩
theorem dW.down{k:Nat}{A:WO}(r:dW (k+1) A)(env:Env):dW k (A.deeper env) :=
 ⟨by have q:=r.d;show A.depth+1+3 * k+5 < _;omega,by have q:=r.u;show A.units+3+16 * k+200 < _;omega⟩
theorem dW.UX{k:Nat}{A:WO}(r:dW k A):A.units+64 < cLine:=by have:=r.u;omega
structure BB(P:WS)(w:WV)(K:PySem.W.Frag)(mg:Str->Option WU)(base:Heap)(k:Nat)(f:WN)(fd:WQ)(ps:List Str)(sp:Sp):Prop where
 n:∀vs H Q E,sp vs H Q E->vs.length=ps.length
 go:∀(A:WO)(outer:List Env)(s:WT)(H:Hp)(args:Args)(us:List WU)(vs:List V)(Q:VK)(E:XK),dW k A->yx A H->uI P w K mg base A outer s H->
  BindsTo s fd args (ps.zip us)->Vals vs us->sp vs H Q E->WZ (model P w) A (.call (.ref f) args) (CR (CXJ P w) outer P w H s Q E) s
section
variable {P:WS} {w:WV} {K:PySem.W.Frag} {mg:Str->Option WU} {base:Heap}
def ER(P:WS)(w:WV)(K:PySem.W.Frag)(mg:Str->Option WU)(base:Heap)(N:List Str)(qual:Str)(scope:Scope)(f:WN)(cd:WU)(A:WO)(outer:List Env)(s:WT)(H:Hp)(E:XK):Cx :=
 { mz (CXJ P w) P w K mg base N qual scope f cd A outer s H E with calm:=false }
theorem Jv{N ps:List Str}{qual:Str}{scope:Scope}{f:WN}{cd:WU}{A:WO}{outer:List Env}{s s1:WT}{H:Hp}{E:XK}{us:List WU}{vs:List V}(S:FnScope N ps scope)(z:uI P w K mg base A outer s H)(ln:vs.length=ps.length)(r:Vals vs us)
  (x:InCallC s s.heap.objs.size (bindL (envOfC qual scope s.heap.objs.size f cd).kindOf (ps.zip us) λ_=>none) (cellsFrom (s.heap.objs.size+1) scope.names []) (bindC (envOfC qual scope s.heap.objs.size f cd).kindOf (ps.zip us) λ_=>none) s1) :
  Inv (ER P w K mg base N qual scope f cd A outer s H E) [] (start N vs) H s1:=by
 have z':uI P w K mg base { A with handled:=none } outer s H:=⟨z.frames,z.mod,z.bs,z.De,z.jb,z.Dj,z.hok,z.bare⟩
 have I:=pq (CX:=CXJ P w) (E:=E) (cd:=cd) (A:={ A with handled:=none }) S rfl z' ln r x
 have o:=I.ok
 exact⟨⟨o.mod,o.kind,o.glob,o.blt,o.above,o.inj,o.has,o.K7,(λh=>by cases h),o.frames,o.stk,o.OM,o.bs,o.De,o.xM,o.zE,o.jb,o.Dj⟩,I.os,I.bare,I.base,I.loc,I.cell,I.free,I.dR,I.pin,I.hok,I.len⟩
theorem MY{N:List Str}{qual:Str}{scope:Scope}{f:WN}{cdv:WU}{A:WO}{outer:List Env}{s s':WT}{H H':Hp}{E:XK}{σ:St}{c:PySem.Str}{e:WU}
  (r:qy (ER P w K mg base N qual scope f cdv A outer s H E) σ H' c e s')(h:∀C,ClsAt K c C->E (.ref C) none H'):(ER P w K mg base N qual scope f cdv A outer s H E).xe e s':=by
 obtain⟨C,pins,Hc,sc,hC,I,r⟩:=r
 rcases r with fl | ⟨rfl,a,args,rfl,ho,hg,M⟩
 ·exact k8 (X:=ER P w K mg base N qual scope f cdv A outer s H E) rfl rfl rfl I fl λs2 uz=>⟨H',C,uz,h C hC⟩
 ·exact mS (X:=ER P w K mg base N qual scope f cdv A outer s H E) rfl rfl rfl I ho hg M λs2 uz=>⟨H',C,uz,h C hC⟩
theorem Qd{x qual:Str}{st:Stmt}{f:WN}{fd:WQ}{N ps:List Str}{k:Nat}{g:GS}(F:F5 K x qual st f fd)(S:FnScope N ps (defScope st))
  (body:∀(cdv:WU)(A:WO)(outer:List Env)(s:WT)(H:Hp)(E:XK),dW k (A.deeper (envOfC qual (defScope st) s.heap.objs.size f cdv))->u5 (ER P w K mg base N qual (defScope st) f cdv A outer s H E)->i7 (ER P w K mg base N qual (defScope st) f cdv A outer s H E) (defBody st) g) :
  BB P w K mg base (k+1) f fd ps (spW K ps.length (cq N.length g)):=by
 have hpl:ps.length<=N.length:=by have:=congrArg List.length S.pre;rw[List.length_take] at this;omega
 obtain⟨oc,od,kV,doc,pm,an,cdv,ct,osl,rfl,lk,hcd⟩:=F.ex
 have len:∀vs H Q E,spW K ps.length (cq N.length g) vs H Q E->vs.length=ps.length:=λvs H Q E h=>by
  obtain⟨m,st',ws,_,r,hl,_⟩:=h
  rw[<-r.length];exact hl
 refine⟨len,λA outer s H args us vs Q E hr ha z hb r DC=>?_⟩
 have ln:=len _ _ _ _ DC
 have kx:K.In s.heap:=z.mod.G_.keeps λb o q=>(z.bs b o q).1
 have nl:s.heap.NoLimit:=z.mod.nolimit.keeps λb o q=>(z.bs b o q).1
 have kinds:∀y∈ps.zip us,(defScope st).names.lookup y.1=some .local\/((defScope st).names.lookup y.1=some .cell/\((cellsFrom (s.heap.objs.size+1) (defScope st).names []).lookup y.1).isSome=true):=λy hy=>by
  rcases S.par y.1 (List.of_mem_zip hy).1 with t | t
  ·exact .inl t
  ·exact .inr ⟨t,PySem.W.cellsFrom_some _ _ _ (.inl t)⟩
 refine codeAny_call_function (by have:=hr.d;omega) (kx _ _ lk) rfl S.co S.gen rfl (PySem.W.codeRec_of kx hcd) (hb _ _ _ _ ?_)
 refine wpAny_newFunctionEnv_cells S.kind kinds λenv he s1 y=>?_
 subst he
 refine⟨nl.keeps y.toInCall.keep,codeAny_func ?_⟩
 obtain⟨m,st',ws,S',rs,hl,p⟩:=DC
 have I:=Jv (E:=E) (cd:=cdv) S z ln r y
 have go:L6 (ER P w K mg base N qual (defScope st) f cdv A outer s H E) (defBody st) { nx:=λ_ H'=>Q .aE H',rt:=Q } (start N vs) H:=by
  refine body cdv A outer s H E (hr.down _) ha _ st' _ H m _ S' (sx rs (by omega)) ?_
  unfold cq at p
  cases e:g (ws.map some++List.replicate (N.length - ws.length) none) st' with
  | nx ρ st2=>rw[e] at p;exact λσ m' H' e' S2 R2=>p _ m' H' e' S2 (by unfold af;rfl)
  | rt w' st2=>rw[e] at p;exact p
  | bk ρ st2=>rw[e] at p;exact False.elim p
  | ct ρ st2=>rw[e] at p;exact False.elim p
  | err c ρ st2=>rw[e] at p;exact λσ m' H' x s' e' S2 R2 rz=>MY rz λC hC=>p m' H' C e' S2 hC
  | bad=>rw[e] at p;exact False.elim p
 refine Xa (cC [] s1 (start N vs) H _ I go) (λfl s' hs=>?_) λe s' hs=>hs
 cases fl with
 | ret u=>obtain⟨v,σ',H',I',rv,q⟩:=hs;exact⟨v,H',I'.os,I'.bare,I'.base,I'.hok,rv,q⟩
 | next=>obtain⟨σ',H',I',q⟩:=hs;exact⟨.aE,H',I'.os,I'.bare,I'.base,I'.hok,rfl,q⟩
 | brk=>obtain⟨_,_,_,q⟩:=hs;exact False.elim q
 | cont=>obtain⟨_,_,_,q⟩:=hs;exact False.elim q
end
section
variable {X:Cx}
theorem BC{k n:Nat}{f:WN}{fd:WQ}{ps:List Str}{F:List Wv->Hs->Re Wv}{x:Str}{p pos:Pos}{e:Expr}{es:List Expr}{g:GA}
  (G:BB X.prog X.w X.K X.mg X.base k f fd ps (spW X.K n F))(hr:dW k X.A)(hH:u5 X)(hm:X.mg x=some (.ref f))(hk:PySem.W.keepIn X.K (.ref f)=true)(hb:Binds X.K fd ps [])(ha:JA X (e::es) g)(hg:Gl X x)
  (hdb:(x == ("__debug__":Str))=false)(he:W7 (e::es) X.env=(false,eval e X.env)::W7 es X.env)(hpl:(backTo pos (W7 es X.env)).any (·.1)=false) :
  JE X (.Call (.Name x p) (e::es) [] pos) (ax n F g):=by
 intro ρ st σ H m Q S R p pins s I
 have args:=ha.go (T:=λvs H1=>∃ws st1 m1,cN X σ m H (if ws.length=n then F ws st1 else .bad) Q/\Ext X.K m H m1 H1/\aK X.K m1 st1 H1/\ah X.K m1 H1 ws vs) S R (ao.bind p)
  λws st1 vs m1 H1 p1 e1 S1 rs=>⟨ws,st1,m1,p1,e1,S1,rs⟩
 refine wpAny_Call_Name_kw (jy I hg hm ?_ hdb)
 refine PySem.W.callWith_K (h₀:=X.base) I.ok.mod.G_ hk (aI (args pos pins s I) λus s1 ⟨vs,H1,I1,r,ws,st1,m1,p1,e1,S1,rs⟩=>⟨I1.wa,?_⟩) he hpl
 by_cases c:ws.length=n
 ·rw[if_pos c] at p1
  let E:XK:=λcl _ H2=>∃c' st2 m2 C,cl= .ref C/\ClsAt X.K c' C/\F ws st1= .err c' st2/\Ext X.K m1 H1 m2 H2/\aK X.K m2 st2 H2
  have sp:spW X.K n F vs H1 Q E:=by
   refine⟨m1,st1,ws,S1,rs,c,?_⟩
   cases er:F ws st1 with
   | ok w st2=>rw[er] at p1;exact cN.shift (r:=.ok w st2) p1 e1
   | err c' st2=>exact λm2 H2 C e2 S2 hC=>⟨c',st2,m2,C,rfl,hC,er,e2,S2⟩
   | bad=>rw[er] at p1;exact False.elim p1
  have hl:us.length=ps.length:=by rw[<-r.length];exact G.n _ _ _ _ sp
  have bd:=hb s1 us I1.wa (by rw[List.append_nil];exact hl)
  rw[List.append_nil] at bd
  refine wpAny_call (codeAny_mono (G.go X.A X.stack s1 H1 ⟨us,[]⟩ us vs Q E hr (hH.at I1) I1.LL bd r sp) λrr s2 hq=>?_)
  cases rr with
  | error x=>
   obtain⟨H2,C,fl,c',st2,m2,C',ec,hC,er,e2,S2⟩:=hq
   cases ec
   rw[er] at p1
   exact p1 m2 H2 x s2 (e1.trans e2) S2 ⟨C,pins,H1,s1,hC,I1,.inl fl.any⟩
  | ok fw=>
   cases fw with
   | ret u=>exact I1.after hq
   | next=>exact False.elim hq
   | brk=>exact False.elim hq
   | cont=>exact False.elim hq
 ·rw[if_neg c] at p1;exact False.elim p1
end
def sZ(P:WS)(w:WV)(K:PySem.W.Frag)(mg:Str->Option WU)(base:Heap)(k:Nat)(x:Str)(n:Nat)(F:List Wv->Hs->Re Wv):Prop :=
 ∃f fd ps,BB P w K mg base k f fd ps (spW K n F)/\mg x=some (.ref f)/\PySem.W.keepIn K (.ref f)=true/\Binds K fd ps []
theorem sZ.mono{P:WS}{w:WV}{K:PySem.W.Frag}{mg:Str->Option WU}{base:Heap}{j k:Nat}{x:Str}{n:Nat}{F:List Wv->Hs->Re Wv}(h:sZ P w K mg base j x n F)(l:j<=k):sZ P w K mg base k x n F:=by
 obtain⟨f,fd,ps,G,r⟩:=h
 exact⟨f,fd,ps,⟨G.n,λA outer s H args us vs Q E hr=>G.go A outer s H args us vs Q E (hr.less l)⟩,r⟩
end J
namespace J
open PySem PySem.Spec PyProof.Rows L2
section
variable {X:Cx}
end
end J
namespace J
open PySem PySem.Spec PyProof.Rows L2
section
variable {X:Cx}
end
end J
namespace J
open PySem PySem.Spec PyProof.Rows L2
abbrev Sn:=Option (Nat×List Wv)×List Wv
def BD(c:Option (Nat×List Wv))(st:Hs):Prop:=match c with
 | some (l,ws)=>ag st l=some ws
 | none=>True
structure Jw(X:Cx)(w:Sn)(m1:Mp)(H1:Hp)(J':It):Prop where
 go:∀(k:Nat)(H:Hp)(m':Mp)(st:Hs),Ext X.K m1 H1 m' H->aK X.K m' st H->BD w.1 st->k < w.2.length->J'.go k H
 stop:∀(k:Nat)(H:Hp)(m':Mp)(st:Hs),Ext X.K m1 H1 m' H->aK X.K m' st H->BD w.1 st->k=w.2.length->J'.stop k H
 rS:∀(k:Nat)(hk:k < w.2.length)(H:Hp)(v:V)(H':Hp)(m':Mp)(st:Hs),Ext X.K m1 H1 m' H->aK X.K m' st H->BD w.1 st->J'.rS k H v H'->Ext X.K m' H m' H'/\aK X.K m' st H'/\af X.K m' H' w.2[k] v
abbrev MZ:=aT->Hs->Re Sn
def Qe(X:Cx)(tg iter:Expr)(gi:MZ):Prop:=∃wi,PI X tg iter wi/\∀(ρ:aT)(st:Hs)(σ:St)(H:Hp)(m:Mp)(R:It->Hp->Prop),aK X.K m st H->aq X.K m H ρ σ->
 ao X σ m H (gi ρ st) (λw st1=>∀(m1:Mp)(H1:Hp)(J':It),Ext X.K m H m1 H1->aK X.K m1 st1 H1->BD w.1 st1->Jw X w m1 H1 J'->R J' H1)->wi σ H R
section
variable {X:Cx}
theorem Jx{tg iter:Expr}{gi:GI}(h:JI X tg iter gi):Qe X tg iter (λρ st=>(gi ρ st).bind λw st1=> .ok (w.1.map λl=>(l,w.2),w.2) st1):=by
 obtain⟨wi,hp,hw⟩:=h
 refine⟨wi,hp,λρ st σ H m R S r p=>hw ρ st σ H m R S r ((ao.bind p).imp Ext.refl λw st1 q m1 H1 J' e1 S1 c1 yC=>?_)⟩
 obtain⟨o,ws⟩:=w
 have cc:∀st,BD (o.map λl=>(l,ws)) st->jh (o,ws) st:=λst c=>by cases o<;>exact c
 have UY:jh (o,ws) st1->BD (o.map λl=>(l,ws)) st1:=λc=>by cases o<;>exact c
 refine q m1 H1 J' e1 S1 (UY c1) ⟨λk H2 m' st2 e S2 c=>yC.go k H2 m' st2 e S2 (cc _ c),λk H2 m' st2 e S2 c=>yC.stop k H2 m' st2 e S2 (cc _ c),λk hk H2 v H3 m' st2 e S2 c y=>?_⟩
 obtain⟨rfl,rr⟩:=yC.rS k hk H2 v H3 m' st2 e S2 (cc _ c) y
 exact⟨Ext.refl,S2,rr⟩
end
open Classical in
def s_(is:List Nat)(gb:GS)(c:Option (Nat×List Wv)):List Wv->aT->Hs->Rs
 | [],ρ,st=> .nx ρ st
 | w::r,ρ,st=>match ML is w ρ with
  | none=> .bad
  | some ρ1=>match gb ρ1 st with
   | .nx ρ' st'=>if BD c st' then s_ is gb c r ρ' st' else .bad
   | .ct ρ' st'=>if BD c st' then s_ is gb c r ρ' st' else .bad
   | .bk ρ' st'=> .nx ρ' st'
   | .rt w st'=> .rt w st'
   | .err c ρ' st'=> .err c ρ' st'
   | .bad=> .bad
def Gv(is:List Nat)(gi:MZ)(gb:GS):GS:=λρ st=>(gi ρ st).aI ρ λw st1=>s_ is gb w.1 w.2 ρ st1
section
variable {X:Cx}
theorem ES{es:List Expr}{is:List Nat}{k:Nat}{iter:Expr}{body:List Stmt}{gi:MZ}{gb:GS}{pos pos':Pos}(hN:X.N.Nodup)(hp:PassesOwn (model X.prog X.w) X.A X.env X.xe)(hc:X.calm=true)(sl:Slots X es is)(hi:Qe X (.Tuple es k pos') iter gi)(hb:i7 X body gb)
  (hs:∀x,W3 iter X.env x=pure x):JS X (.For (.Tuple es k pos') iter body [] pos) (Gv is gi gb):=by
 obtain⟨wi,PV,hw⟩:=hi
 refine JS.of (j7 hp hc PV (zP hc (kf hN sl) (m7 sl) (kg sl)) cC hs) λρ st σ H m D S R p=>?_
 refine hw ρ st σ H m _ S R ((av.bF R p).imp Ext.refl λw st1 p1 m1 H1 J' e1 S1 c1 yC=>?_)
 obtain⟨cc,ws⟩:=w
 let Pv:Nat->St->Hp->Prop:=λk σ H=>∃ρ st m',Ext X.K m1 H1 m' H/\aK X.K m' st H/\aq X.K m' H ρ σ/\BD cc st/\av X m' H (s_ is gb cc (ws.drop k) ρ st) D
 refine⟨λk n σ H=>n=ws.length - k/\k<=ws.length/\Pv k σ H,⟨ws.length,by simp,Nat.zero_le _,ρ,st1,m1,Ext.refl,S1,R.mono e1,c1,av.shift p1 e1⟩,?_⟩
 rintro k n σ2 H2 ⟨rfl,hk,ρ2,st2,m2,e2,S2,R2,c2,p2⟩
 by_cases hlt:k < ws.length
 ·refine .inr ⟨yC.go k H2 m2 st2 e2 S2 c2 hlt,Pv (k+1),λσ' H' p'=>⟨ws.length - (k+1),by omega,rfl,hlt,p'⟩,λx H' y=>?_⟩
  obtain⟨eY,UZ,j9⟩:=yC.rS k hlt H2 x H' m2 st2 e2 S2 c2 y
  have ed:ws.drop k=ws[k]::ws.drop (k+1):=List.drop_eq_getElem_cons hlt
  rw[ed] at p2
  unfold s_ at p2
  replace p2:=av.shift p2 eY
  have U0:=R2.mono eY
  have A_:=e2.trans eY
  have Qf:af X.K m2 H' ws[k] x:=j9
  cases eb:ws[k] with
  | tup us=>
   rw[eb] at p2 Qf
   dsimp only[ML] at p2
   cases e5:yA is us ρ2 with
   | none=>rw[e5] at p2;exact False.elim p2
   | some ρ5=>
    rw[e5] at p2
    dsimp only at p2
    unfold af at Qf
    obtain⟨b,ys,rfl,f1,f2⟩:=Qf
    refine⟨b,ys,rfl,dS.of f1,by rw[<-f2.length];exact mZ e5,mY f2 U0 e5 λσ5 R5=>?_⟩
    refine hb _ st2 _ _ m2 _ UZ R5 ?_
    cases eg:gb ρ5 st2 with
    | nx ρ3 st3=>
     rw[eg] at p2
     by_cases c:BD cc st3
     ·simp only[if_pos c] at p2
      exact λσ3 m3 H3 e3 S3 R3=>⟨ρ3,st3,m3,A_.trans e3,S3,R3,c,av.shift p2 e3⟩
     ·simp only[if_neg c] at p2;exact False.elim p2
    | ct ρ3 st3=>
     rw[eg] at p2
     by_cases c:BD cc st3
     ·simp only[if_pos c] at p2
      exact λσ3 m3 H3 e3 S3 R3=>⟨ρ3,st3,m3,A_.trans e3,S3,R3,c,av.shift p2 e3⟩
     ·simp only[if_neg c] at p2;exact False.elim p2
    | bk ρ3 st3=>rw[eg] at p2;exact p2
    | rt w3 st3=>rw[eg] at p2;exact p2
    | err c3 ρ3 st3=>rw[eg] at p2;exact p2
    | bad=>rw[eg] at p2;exact p2
  | _=>rw[eb] at p2;exact False.elim p2
 ·have e:k=ws.length:=by omega
  subst e
  rw[List.drop_length] at p2
  exact .inl ⟨yC.stop _ H2 m2 st2 e2 S2 c2 rfl,p2 σ2 m2 H2 Ext.refl S2 R2⟩
end
end J
namespace J
open PySem PySem.Spec PyProof.Rows L2
open Classical in
structure N7(X:Cx)(scope:Scope)(x:Str)(xr:List Str)(cs:eO):Prop where
 one:cK X scope x cs
 var:∀y∈x::xr,scope.names.lookup y=some .local
 nd:((x::xr)++cs.map (·.1)).Nodup
inductive nD:List Expr->List Str->Prop
 | nil:nD [] []
 | cons {x:Str} {p:Pos} {es:List Expr} {xs:List Str}:nD es xs->nD (.Name x p::es) (x::xs)
section
variable {X:Cx} {pins:List (WN×Obj)} {σ:St} {H:Hp} {s:WT} {scope:Scope} {x:Str} {xr:List Str} {cs:eO}
end
section
variable {prog:WS} {w:WV} {A:WO} {R:Result->WT->Prop} {s:WT}
end
section
variable {X:Cx}
end
end J
namespace J
open PySem PySem.Spec PyProof.Rows L2
section
variable {X:Cx}
end
section
open PySem.SeqAt PySem.MeetsSeq PySem.MeetsSeq2 PySem.MeetsSeq3
end
section
variable {X:Cx}
end
end J
namespace J
open PySem PySem.Spec PyProof.Rows L2
section
variable {X:Cx}
inductive Qg(X:Cx):List Expr->List GE->Prop
 | nil:Qg X [] []
 | cons {e:Expr} {g:GE} {es:List Expr} {gs:List GE}:JE X e g->Qg X es gs->Qg X (e::es) (g::gs)
end
section
variable {X:Cx}
end
def M3:List Wv->Hs->Re Wv:=λ_ _=> .bad
theorem ET{P:WS}{w:WV}{K:PySem.W.Frag}{mg:Str->Option WU}{base:Heap}{h:Heap}{k:Nat}{x:Str}{st:Stmt}{ps:List Str}(KX:K.In h)(NS:h.Ns W5 mg)(D:aZ K x st)
  (hb:∀(kV doc pm:WU)(an:Option WN)(cdv ct:WU)(us:List WU),us.length=ps.length->bindArgs (PySem.W.fnOf x x (defArgs st) (defBody st) (defScope st) .none kV doc pm an cdv ct) ⟨us,[]⟩=pure (ps.zip us)) :
  gq P w K mg base k x ps.length M3:=by
 obtain⟨f,fd,a,F⟩:=D
 exact⟨f,fd,ps,⟨λvs H Q E ⟨_,_,_,_,_,_,p⟩=>False.elim p,λA outer s H args us vs Q E hr e0 hb r ⟨_,_,_,_,_,_,p⟩=>False.elim p⟩,PySem.W.mg_of KX NS a,F.kp,F.binds hb⟩
section
variable {X:Cx}
theorem BE:cH X (WX .Mult) (λx y H Q=>∃z n,x= .str z/\y= .int n/\(n=0\/n=1)/\Q (.str (if n=0 then PySem.Str.empty else z)) H):=by
 intro pins s σ H x y v u Q I rx ry h
 obtain⟨z,n,rfl,rfl,hn,q⟩:=h
 obtain⟨t,rfl⟩:=rx
 obtain⟨t',rfl⟩:=ry
 rcases hn with rfl | rfl
 ·exact PySem.P.mul_str_none (by omega) (by omega) ⟨.str PySem.Str.empty,H,I.tok _,⟨_,rfl⟩,q⟩
 ·refine PySem.P.mul_str (by decide) (λ_ h=>by cases h) (λ_ h=>by cases h) ?_
  rw[if_neg (by omega),if_pos (by rfl)]
  exact⟨.str z,H,I,⟨t,rfl⟩,q⟩
def bO:dj:=λx y st=>match x,y with
 | .str z,.int n=>if n=0\/n=1 then .ok (.str (if n=0 then PySem.Str.empty else z)) st else nh (.str z) (.int n) st
 | x,y=>nh x y st
theorem BF:fR X (WX .Mult) bO:=by
 obtain⟨r,h1,h2⟩:=Es (X:=X)
 refine⟨_,cH.or BE h1,λx y a b st H m Q S rx ry p=>?_⟩
 cases x with
 | str z=>
  cases y with
  | int n=>
   have p':bB X.K m H (if n=0\/n=1 then .ok (.str (if n=0 then PySem.Str.empty else z)) st else nh (.str z) (.int n) st) Q:=p
   by_cases c:n=0\/n=1
   ·rw[if_pos c] at p'
    obtain⟨rfl,ok⟩:=dk rx
    refine .inl ⟨z,n,rfl,aF ry,c,p' _ m H Ext.refl S (mkStr ?_)⟩
    by_cases c0:n=0
    ·rw[if_pos c0];decide+kernel
    ·rw[if_neg c0];exact ok
   ·rw[if_neg c] at p'
    exact .inr (h2 _ _ _ _ st H m Q S rx ry p')
  | _=>exact .inr (h2 _ _ _ _ st H m Q S rx ry p)
 | _=>exact .inr (h2 _ _ _ _ st H m Q S rx ry p)
end
end J
namespace J
open PySem PySem.Spec PyProof.Rows L2
abbrev LF:=List Wv->List Wv->Hs->Re Wv
section
variable {X:Cx} {pins:List (WN×Obj)} {σ:St} {H:Hp} {s:WT}
end
def U1(K:PySem.W.Frag)(n:Nat)(p:Lm)(L:LF):Sp:=λvs H Q E=>∃m st ws caps,aK K m st H/\ah K m H ws vs/\ah K m H caps p.xs/\H p.c=some (.ext (Ap p.c p.q))/\ws.length=n/\Gg K m H (L caps ws st) Q E
def Jy(P:WS)(w:WV)(K:PySem.W.Frag)(mg:Str->Option WU)(base:Heap)(k:Nat)(p:Lm)(n:Nat)(L:LF):Prop :=
 ∃fd ps ob,FnOk P w K mg base (CXJ P w) k p.a fd ps (U1 K n p L)/\base.get? p.a=some ob/\ob.data= .func fd/\Binds K fd ps []
open Classical in
section
variable {X:Cx}
end
def freeOf(sc:Scope):List Str:=(sc.names.filter λp=>decide (p.2= .free)).map (·.1)
structure So(sc:Scope)(x1 x2 x3 y:Str):Prop where
 kind:sc.kind= .function
 co:sc.isCoroutine=false
 gen:sc.isGenerator=false
 Qh:∀p∈sc.names,p.2≠.cell
 p1:sc.names.lookup x1=some .local
 p2:sc.names.lookup x2=some .local
 p3:sc.names.lookup x3=some .local
 fr:freeOf sc=[y]
 fy:sc.names.lookup y=some .free
 nd:[x1,x2,x3,y].Nodup
end J
namespace J
open PySem PySem.Spec PyProof.Rows L2
section
variable {P:WS} {w:WV} {K:PySem.W.Frag} {mg:Str->Option WU} {base:Heap} {p:Lm} {scope:Scope} {x1 x2 x3 y:Str} {cy:WN}
end
end J
namespace J
open PySem PySem.Spec PyProof.Rows L2
structure Gw(X:Cx)(q:Str)(P:WN):Prop where
 code:∃c,X.env.code= .ref c/\PySem.W.CodeHd X.base c P
 qual:X.env.qual=q++".<locals>."
 tab:gA X.K q=some P
 mem:q∈bM
 uniq:∀q',q'∈bM->gA X.K q'=some P->q'=q
 bm:∃bm ob,X.mg "__builtins__"=some (.ref bm)/\bm≠builtinsNs/\bm≠W5/\X.base.get? bm=some ob/\ob.cls= .type "module"/\ob.dict=some builtinsNs/\ob.data= .plain
section
variable {X:Cx} {pins:List (WN×Obj)} {σ:St} {H:Hp} {s:WT} {q:Str} {P:WN}
end
end J
namespace J
open PySem PySem.Spec PyProof.Rows L2
abbrev Sq:=Lm->LF->List Wv->Hs->Re Wv
def Qi(mg:Str->Option WU)(base:Heap):Prop:=∃bm ob,mg "__builtins__"=some (.ref bm)/\bm≠builtinsNs/\bm≠W5/\base.get? bm=some ob/\ob.cls= .type "module"/\ob.dict=some builtinsNs/\ob.data= .plain
def BG(K:PySem.W.Frag)(mg:Str->Option WU)(base:Heap):Prop:=Mod K mg base/\Qi mg base
def Sr(P:WS)(w:WV)(K:PySem.W.Frag)(mg:Str->Option WU)(k j:Nat)(x:Str)(FL:Sq):Prop :=
 (∃f,mg x=some (.ref f)/\PySem.W.keepIn K (.ref f)=true)/\∀(base:Heap)(p:Lm)(L:LF),BG K mg base->Jy P w K mg base (j+1) p 3 L->gq P w K mg base k x 2 (FL p L)
section
variable {X:Cx}
end
end J
namespace J
open PySem PySem.Spec PyProof.Rows L2
section
variable {P:WS} {w:WV} {A:WO} {E:WU->WT->Prop} {s:WT}
structure Zd(z T O j1 j2 j3 t1 t2 t3:WN):Prop where
 nd:[z,T,O,j1,j2,j3].Nodup
 a1:t1∉[z,O,j1,j2,j3]
 a2:t2∉[z,O,j1,j2,j3]
 a3:t3∉[z,O,j1,j2,j3]
end
end J
namespace J
open PySem PySem.Spec PyProof.Rows L2
abbrev zA(h:Heap)(t1:WN):Heap:=h.push { cls:=.type "tuple_iterator",data:=.fields #[.ref t1,.int 0 0] }
abbrev zB(h:Heap)(t1 t2:WN):Heap:=zA (zA h t1) t2
abbrev zC(h:Heap)(t1 t2 t3:WN):Heap:=zA (zB h t1 t2) t3
abbrev zD(h:Heap)(t1 t2 t3:WN):Heap:=(zC h t1 t2 t3).push { cls:=.type "tuple",data:=.seq #[.ref h.objs.size,.ref (zA h t1).objs.size,.ref (zB h t1 t2).objs.size] }
section
variable {P:WS} {w:WV} {A:WO} {E:WU->WT->Prop} {s:WT}
end
section
variable {P:WS} {w:WV} {A:WO} {E:WU->WT->Prop} {s:WT}
end
end J
namespace J
open PySem PySem.Spec PyProof.Rows L2
section
variable {X:Cx}
end
end J
namespace J
open PySem PySem.Spec PyProof.Rows L2
def U2(a b c:Int):Prop:=0<=a/\a < 2 ^ 30/\0<=b/\b < 2 ^ 30/\1<=c/\c < 2 ^ 30
instance {a b c}:Decidable (U2 a b c):=Classical.propDecidable _
section
variable {X:Cx} {tg:Expr}
end
end J
namespace J
open PySem PySem.Spec PyProof.Rows L2
section
variable {X:Cx}
end
end J
namespace J
open PySem PySem.Spec PyProof.Rows L2
def BH(gt:GT)(gb:GS):Nat->aT->Hs->Rs
 | 0,_,_=> .bad
 | n+1,ρ,st=>(gt ρ st).aI ρ λb st1=>if b=true then(match gb ρ st1 with
   | .nx ρ' st'=>BH gt gb n ρ' st'
   | .ct ρ' st'=>BH gt gb n ρ' st'
   | .bk ρ' st'=> .nx ρ' st'
   | .rt w st'=> .rt w st'
   | .err c ρ' st'=> .err c ρ' st'
   | .bad=> .bad) else .nx ρ st1
def qQ(n:Nat)(gt:GT)(gb:GS):GS:=λρ st=>BH gt gb n ρ st
section
variable {X:Cx}
theorem BI(n:Nat){c:Expr}{body:List Stmt}{gt:GT}{gb:GS}{pos:Pos}(hp:PassesOwn (model X.prog X.w) X.A X.env X.xe)(hc:JT X c gt)(hb:i7 X body gb):JS X (.While c body [] pos) (qQ n gt gb):=by
 refine JS.of (zQ hp kZ cC) λρ st σ H m D S R p=>?_
 refine⟨λk σ' H'=>∃ρ' st' m',Ext X.K m H m' H'/\aK X.K m' st' H'/\aq X.K m' H' ρ' σ'/\av X m' H' (BH gt gb k ρ' st') D,⟨n,ρ,st,m,Ext.refl,S,R,p⟩,?_⟩
 rintro k σ1 H1 ⟨ρ1,st1,m1,e1,S1,R1,p1⟩
 cases k with
 | zero=>exact False.elim p1
 | succ k=>
  refine hc.go S1 R1 (av.bF R1 p1) λb st2 m2 H2 p2 e2 S2=>?_
  cases b with
  | false=>
   rw[if_neg Bool.false_ne_true] at p2 ⊢
   exact p2 σ1 m2 H2 e2 S2 (R1.mono e2)
  | true=>
   rw[if_pos rfl] at p2 ⊢
   refine⟨λσ' H'=>∃ρ' st' m',Ext X.K m H m' H'/\aK X.K m' st' H'/\aq X.K m' H' ρ' σ'/\av X m' H' (BH gt gb k ρ' st') D,λσ' H' q=>⟨k,Nat.lt_succ_self k,q⟩,?_⟩
   refine hb ρ1 st2 σ1 H2 m2 _ S2 (R1.mono e2) ?_
   have Ss:=e1.trans e2
   cases eg:gb ρ1 st2 with
   | nx ρ3 st3=>rw[eg] at p2;exact λσ3 m3 H3 e3 S3 R3=>⟨ρ3,st3,m3,Ss.trans e3,S3,R3,av.shift p2 (e2.trans e3)⟩
   | ct ρ3 st3=>rw[eg] at p2;exact λσ3 m3 H3 e3 S3 R3=>⟨ρ3,st3,m3,Ss.trans e3,S3,R3,av.shift p2 (e2.trans e3)⟩
   | bk ρ3 st3=>rw[eg] at p2;exact λσ3 m3 H3 e3 S3 R3=>p2 σ3 m3 H3 (e2.trans e3) S3 R3
   | rt w3 st3=>rw[eg] at p2;exact av.shift (r:=.rt w3 st3) p2 e2
   | err c3 ρ3 st3=>rw[eg] at p2;exact λσ' m' H' x s' e'=>p2 σ' m' H' x s' (e2.trans e')
   | bad=>rw[eg] at p2;exact p2
end
end J
namespace J
open PySem PySem.Spec PyProof.Rows L2
theorem EU(l:WN)(items:Array WU)(n:Nat)(b:WN)(items2:Array WU)(n2:Nat)(dd:Option WN)(sl:Array (Option WU))(hs0:¬(!items.isEmpty&&Builtin.List.listTooLong (items.size+items2.size))=true)(hs1:items.size<=W6)(hs2:items.size+items2.size<=W6+1) :
  Meets (Builtin.«list.extend» ⟨[.ref l,.ref b],[]⟩) (λ_ R s=>s.heap.get? l=some { cls:=.type "list",dict:=none,data:=.seq items n,slots:=#[] }/\s.heap.get? b=some ⟨.type "tuple",dd,.seq items2 n2,sl⟩/\R (.ok (.ret Value.none)) { s with heap:=s.heap.update l (Obj.mapSeq λx=>x++items2),toks:=s.toks }) :=
 .of_wp λprog w A R s h=>by
  obtain⟨hp,g,d,tk,os⟩:=s;obtain⟨hl,hb,h⟩:=h;have f1:=AutoSeq1.idx_int;have f2:=AutoSeq1.sub_tuple_tuple;have f3:=AutoSeq1.sub_list_list;have f4:=AutoSeq1.sub_tuple_list;have f5:=AutoSeq1.sub_list_tuple;
  have hz':(items++items2).size<=W6+1:=by rw[Array.size_append];exact hs2
  wp_walk using (wpAny_updateSeq hl rfl (hz:=hs1) (_hz':=hz')),wpAny_loadPart' hl,wpAny_loadPart' hb;exact⟨_,rfl,h⟩
def tm(K:PySem.W.Frag):V->List V->Hp->VK->Prop:=λx vs H Q=>∃l b xs zs,x= .ref l/\vs=[.ref b]/\H l=some (.lst xs)/\dS K H b zs/\xs.length+zs.length<=W6/\Q .aE (upd H l (.lst (xs++zs)))
section
variable {X:Cx}
theorem vn:Pg X "list.extend" (tm X.K):=by
 intro pins s σ H x vs v us Q I rx rv h
 obtain⟨l,b,xs,zs,rfl,rfl,hH,hB,hz,q⟩:=h
 cases rx
 obtain⟨u,rfl,ru⟩:=rv.one
 cases ru
 obtain⟨z,its,n,r,hl,e⟩:=I.Ae hH
 obtain⟨its2,r2,⟨o,e2,oc,n2,od⟩,z2⟩:=I.tuple hB
 obtain⟨WD,dd,od',sl⟩:=o
 dsimp only at oc od
 subst oc od
 have l1:xs.length=its.length:=r.length
 have l2:zs.length=its2.length:=r2.length
 have hsz:its.toArray.size+its2.toArray.size<=W6:=by rw[List.size_toArray,List.size_toArray];omega
 have rW:¬(!its.toArray.isEmpty&&Builtin.List.listTooLong (its.toArray.size+its2.toArray.size))=true:=by
  rw[mG hsz,Bool.and_false]
  exact Bool.false_ne_true
 refine call_meets F.slot_list_extend ⟨_,e,rfl⟩ F.entry_list_extend (F.args_list_extend_2 _ _)
  (EU l its.toArray n b its2.toArray n2 dd sl rW (by rw[List.size_toArray];omega) (by omega)) ⟨e,e2,?_⟩
 refine⟨.aE,_,I.HR (its':=its++its2) hH e (by simp) (r.append r2) ?_,rfl,q⟩
 rw[List.length_append]
 omega
def nE(o v:Wv)(st:Hs):Re Wv:=match v with
 | .tup zs=>(match o with
  | .ref l=>(match st[l]? with
   | some (.lst ws)=>if ws.length+zs.length<=lim then .ok .aE (st.set l (.lst (ws++zs))) else .bad
   | _=> .bad)
  | _=> .bad)
 | v=>MH o v st
theorem EV:N0 X "list.extend" nE:=by
 obtain⟨r0,m0,h0⟩:=IT (X:=X)
 refine⟨λx vs H Q=>r0 x vs H Q\/tm X.K x vs H Q,?_,λo w x v st H m Q S ro rw' p=>?_⟩
 ·intro pins s σ H x vs v us Q I rx rv h
  rcases h with h | h
  ·exact m0 pins s σ H x vs v us Q I rx rv h
  ·exact vn pins s σ H x vs v us Q I rx rv h
 ·cases w with
  | tup zs=>
   refine .inr ?_
   cases o with
   | ref l=>
    unfold af at ro rw'
    obtain⟨a,rfl,ha⟩:=ro
    obtain⟨b,ys,rfl,hb,g2⟩:=rw'
    have p':bB X.K m H (match st[l]? with | some (.lst ws)=>if ws.length+zs.length<=lim then .ok .aE (st.set l (.lst (ws++zs))) else .bad | _=> .bad) Q:=p
    cases e:st[l]? with
    | none=>rw[e] at p';exact False.elim p'
    | some ob=>
     cases ob with
     | dct kvs=>rw[e] at p';exact False.elim p'
     | cB kvs=>rw[e] at p';exact False.elim p'
     | jv kvs=>rw[e] at p';exact False.elim p'
     | j6 ns=>rw[e] at p';exact False.elim p'
     | lst ws=>
      rw[e] at p'
      dsimp only at p'
      by_cases c:ws.length+zs.length<=lim
      ·rw[if_pos c] at p'
       obtain⟨xs,h1,h2⟩:=S.mJ ha e
       have e4:Ext X.K m H m (upd H a (.lst (xs++ys))):=Ext.upd (.inr ⟨xs,h1⟩)
       exact⟨a,b,xs,ys,rfl,rfl,h1,dS.of hb,by rw[<-h2.length,<-g2.length];exact cI c,p' _ m _ e4 (S.write ha e (h2.append g2)) pC⟩
      ·rw[if_neg c] at p';exact False.elim p'
   | _=>exact False.elim p
  | _=>exact .inl (h0 o _ x v st H m Q S ro rw' p)
end
def tq(neg:Bool):dj:=λx y st=>match aL st 20 y,aL st 20 x with
 | some (.list ds),some d=> .ok (.bl ((ds.any λz=>PyData.eqv z d) != neg)) st
 | some (.tuple ds),some d=> .ok (.bl ((ds.any λz=>PyData.eqv z d) != neg)) st
 | _,_=> .bad
section
variable {X:Cx}
def Jz(K:PySem.W.Frag)(neg:Bool):R2:=λa b H Q=>∃m st x y d ds c,aK K m st H/\af K m H x a/\af K m H y b/\aL st 20 y=some c/\(c= .list ds\/c= .tuple ds)/\aL st 20 x=some d/\Q (.bl ((ds.any λz=>PyData.eqv z d) != neg)) H
theorem wW{ds:List PyData}{c:PyData}(h:c= .list ds\/c= .tuple ds)(k:c.canLay0=true):PyData.canLayAll0 ds=true:=by
 rcases h with rfl | rfl<;>exact k
theorem JB(hu:X.A.units+64 < cLine):cH X (W2 .In) (Jz X.K false):=by
 intro pins s σ H a b v u Q I rx ry h
 obtain⟨m,st,x,y,d,ds,c,S,h1,h2,e1,hc,e2,q⟩:=h
 obtain⟨as,q1,q2,q3⟩:=cj I S 20 x a v d h1 rx e2
 obtain⟨bs,p1,p2,p3⟩:=cj I S 20 y b u c h2 ry e1
 have hd:X.A.units+1+min (PyData.depthAll ds) d.depth < cLine:=by
  have:=Nat.min_le_right (PyData.depthAll ds) d.depth
  omega
 have e:∀t:Bool,(t != false)=t:=by decide
 rw[e] at q
 have ca:=wW hc p2
 rcases hc with rfl | rfl
 ·exact SeqAt.in_list_reads p1 q1 ca q2 hd ⟨.bl _,H,I,rfl,q⟩
 ·exact SeqAt.in_tuple_reads p1 q1 ca q2 hd ⟨.bl _,H,I,rfl,q⟩
theorem yQ(hu:X.A.units+64 < cLine):cH X (W2 .NotIn) (Jz X.K true):=by
 intro pins s σ H a b v u Q I rx ry h
 obtain⟨m,st,x,y,d,ds,c,S,h1,h2,e1,hc,e2,q⟩:=h
 obtain⟨as,q1,q2,q3⟩:=cj I S 20 x a v d h1 rx e2
 obtain⟨bs,p1,p2,p3⟩:=cj I S 20 y b u c h2 ry e1
 have hd:X.A.units+1+min (PyData.depthAll ds) d.depth < cLine:=by
  have:=Nat.min_le_right (PyData.depthAll ds) d.depth
  omega
 have e:∀t:Bool,(t != true)= !t:=by decide
 rw[e] at q
 have ca:=wW hc p2
 rcases hc with rfl | rfl
 ·exact SeqAt.notIn_list_reads p1 q1 ca q2 hd ⟨.bl _,H,I,rfl,q⟩
 ·exact SeqAt.notIn_tuple_reads p1 q1 ca q2 hd ⟨.bl _,H,I,rfl,q⟩
theorem BJ{neg:Bool}{x y:Wv}{a b:V}{st:Hs}{H:Hp}{m:Mp}{Q:VK}(S:aK X.K m st H)(rx:af X.K m H x a)(ry:af X.K m H y b)(p:bB X.K m H (tq neg x y st) Q):Jz X.K neg a b H Q:=by
 unfold tq at p
 split at p
 ·rename_i ds d e1 e2
  exact⟨m,st,x,y,d,ds,_,S,rx,ry,e1,.inl rfl,e2,p _ m H Ext.refl S fG⟩
 ·rename_i ds d e1 e2
  exact⟨m,st,x,y,d,ds,_,S,rx,ry,e1,.inr rfl,e2,p _ m H Ext.refl S fG⟩
 ·exact False.elim p
theorem BK(hu:X.A.units+64 < cLine):fR X (W2 .In) (tq false):=⟨_,JB hu,λx y a b st H m Q S rx ry p=>BJ S rx ry p⟩
theorem pX(hu:X.A.units+64 < cLine):fR X (W2 .NotIn) (tq true):=⟨_,yQ hu,λx y a b st H m Q S rx ry p=>BJ S rx ry p⟩
end
end J
namespace J
open PySem PySem.Spec PyProof.Rows L2
theorem oM:entryFor table "proto.unchain"=some Builtin.«proto.unchain»:=entryFor_of_fast (by kernel_rfl)
section
variable {prog:WS} {w:WV} {A:WO} {E:WU->WT->Prop} {s:WT}
theorem vo{b:WN}{o:Obj}{vs:Array WU}{e:WU}{Q:WU->WT->Prop}(h1:s.heap.get? b=some o)(h2:o.data= .fields vs)(h3:vs[2]? =some Value.none)(k:Q .none s) :
  W8 (model prog w) A (runValue (.builtin "proto.unchain" ⟨[e,.ref b,.ref b,.bool false],[]⟩)) Q E s:=by
 refine wpAny_runValue (codeAny_builtin oM ?_)
 unfold Builtin.«proto.unchain»
 refine(show W8 _ _ (field (.ref b) 2 >>= _) _ _ s from W9 (wpAny_field h1 h2 h3 ?_))
 rw[if_pos (by rfl)]
 exact Xe k
theorem vp{it b:WN}{o:Obj}{vs:Array WU}{x left step:Int}{Q:Option WU->WT->Prop}(hh:A.handled=some (.ref b))(h1:s.heap.get? b=some o)(h2:o.data= .fields vs)(h3:vs[2]? =some Value.none)(hit:IsRangeIter s.heap it x left step)(hl:left<=0)
  (k:∀h',Heap.ExtBut it s.heap h'->Q none { s with heap:=h' }):W8 (model prog w) A (pyNext (.ref it)) Q E s:=by
 have ty:s.TypeIs (.ref it) "range_iterator":=⟨_,hit,rfl⟩
 unfold pyNext
 refine W9 (wpAny_attempt (wpAny_callSpecial?_slot (name:=Str.ofString "__next__") ty PySem.F.slot_range_iterator_next (wpAny_call_entry PySem.F.slot_range_iterator_next ty PySem.F.entry_range_iterator_next ?_ (PySem.F.args_range_iterator_next_1 _))))
 refine(show W8 _ _ (field (.ref it) 0 >>= _) _ _ s from W9 (wpAny_field hit rfl (x:=rawInt x) rfl ?_))
 refine(show W8 _ _ (field (.ref it) 1 >>= _) _ _ s from W9 (wpAny_field hit rfl (x:=rawInt left) rfl ?_))
 refine(show W8 _ _ (field (.ref it) 2 >>= _) _ _ s from W9 (wpAny_field hit rfl (x:=rawInt step) rfl ?_))
 refine(show W8 _ _ (if left<=0 then _ else _) _ _ s from ?_)
 rw[if_pos hl]
 refine W9 (wpAny_rule (W9 ?_))
 refine(show W8 _ _ (newExc (.type "StopIteration") [] >>= _) _ _ _ from ?_)
 simp only[newExc,newTuple,raiseNew]
 refine W9 (W9 (Xd (W9 (m:=firstArgMember _ _) (wpAny_of_eq (a:=Value.none) (by first | rfl | (simp only[firstArgMember];rfl)) (Xd ?_ (by size_fits)))) (by size_fits)))
 refine(W9 (wpAny_handled ?_))
 rw[show A.in1.handled=some (.ref b) from hh]
 dsimp only
 have lt:b≠(s.heap.push { cls:=.type "tuple",data:=.seq #[] }).objs.size:=λz=>by
  have q:=Heap.lt_size (Heap.get?_push_of_some (h:=s.heap) { cls:=.type "tuple",data:=.seq #[] } h1)
  rw[<-z] at q
  exact Nat.lt_irrefl _ q
 rw[if_pos (by simpa using lt)]
 refine W9 (W' (vo (Heap.get?_push_of_some _ (Heap.get?_push_of_some _ h1)) h2 h3 ?_))
 refine W9 ((show W8 (model prog w) A.in1 (setField (.ref (s.heap.push { cls:=.type "tuple",data:=.seq #[] }).objs.size) 2 (.ref b)) _ _ _ from wpAny_setField (Heap.get?_push_size _ rfl) rfl (by simp[ownMembersOf]) (wpAny_throw ?_)))
 refine W9 (wpAny_isInstance (b:=true) (T:="StopIteration") ⟨_,Heap.get?_update_self _ (Heap.get?_push_size _ rfl) rfl,rfl⟩ isSubtype_stop (Xe ?_))
 refine k _ λc q hc e=>?_
 have e':((s.heap.push { cls:=.type "tuple",data:=.seq #[] }).push { cls:=Value.type "StopIteration",data:=.fields (#[.ref s.heap.objs.size,.none,.none,.none,.bool false,.none]++ownMembersOf (.type "StopIteration") []) }).get? c=some q:=(((Heap.ExtBut.refl it s.heap).push _).push _) c q hc e
 have ne:c≠(s.heap.push { cls:=.type "tuple",data:=.seq #[] }).objs.size:=λz=>by
  have q':=Heap.lt_size (Heap.get?_push_of_some (h:=s.heap) { cls:=.type "tuple",data:=.seq #[] } e)
  rw[<-z] at q'
  exact Nat.lt_irrefl _ q'
 exact(Heap.get?_update_other _ _ (Ne.symm ne)).trans e'
end
theorem BL{X:Cx}(h:u5 X):Lb u5 X:=λ_ _ _ _ _ _ _ _ I=>h.at I
theorem tw{P:WS}{w:WV}{K:PySem.W.Frag}{tg:Expr}(it:WN)(lo:Int)(n:Nat):wD u5 P w K tg (Dv lo n) [it] it (λi h=>IsRangeIter h it (lo+(i:Nat) * 1) ((n:Int) - (i:Nat)) 1) where
 obj:=(gy (P:=P) (w:=w) (K:=K) (tg:=tg) it lo n).obj
 keep:=(gy (P:=P) (w:=w) (K:=K) (tg:=tg) it lo n).keep
 self:=(gy (P:=P) (w:=w) (K:=K) (tg:=tg) it lo n).self
 item:=by
  intro X hP hw hK hc i pins s σ H E I hf st hg
  subst hP hw hK
  have hg':i < n:=hg
  obtain⟨f0,f1,f2,f3,f4,f5⟩:=hf it (by simp)
  refine wpAny_pyNext_range_item st (by omega) λh' st' sb=>?_
  have st2:IsRangeIter h' it (lo+((i+1:Nat):Int) * 1) ((n:Int) - ((i+1:Nat):Int)) 1:=by
   have e1:lo+((i+1:Nat):Int) * 1=lo+(i:Int) * 1+1:=by push_cast;omega
   have e2:(n:Int) - ((i+1:Nat):Int)=(n:Int) - (i:Int) - 1:=by push_cast;omega
   rw[e1,e2];exact st'
  have I1:Inv X pins σ H { s with heap:=h',toks:=s.toks+1 }:=I.turned (λb o hb e=>sb.extBut b o hb e) f0 f1 f3 f4 f5
  exact⟨_,rfl,kS (s:={ s with heap:=h',toks:=s.toks+1 }) (n:="range_iterator") st2 rfl rfl (by decide) ⟨.int (lo+i),H,I1,⟨s.toks,by rw[Int.mul_one]⟩,⟨rfl,rfl⟩,st2,λb hb=>(hf b hb).1⟩⟩
 done:=by
  intro X hP hw hK hc i pins s σ H E I hf st hg
  subst hP hw hK
  have hg':n<=i:=hg
  obtain⟨f0,f1,f2,f3,f4,f5⟩:=hf it (by simp)
  rcases hc.at I with h0 | ⟨b,o,u,h1,⟨vs,d1,d2⟩,h3⟩
  ·exact wpAny_pyNext_range_end h0 st (by omega) λh' eb=>⟨rfl,I.turned (t':=s.toks) (λb o hb e=>eb b o hb e) f0 f1 f3 f4 f5⟩
  exact vp h1 (I.hok _ _ h3).1 d1 d2 st (by omega) λh' eb=>⟨rfl,I.turned (t':=s.toks) (λb o hb e=>eb b o hb e) f0 f1 f3 f4 f5⟩
section
variable {X:Cx} {tg:Expr}
theorem vq{a:Expr}{ta:TA}{p pos:Pos}(hg:Gl X "range")(hm:X.mg "range"=none)(ha:PA X [a] ta)(hs:W7 [a] X.env=[(false,eval a X.env)]):PR u5 X tg (.Call (.Name "range" p) [a] [] pos) (F2 ta):=by
 intro pins s σ H R I h
 refine Call_ (hV I hg hm boot_range (PyProof.Rows.callWith_type1 (aI (ha pos pins s σ H _ I h) λus s1 ⟨vs,H1,I1,r1,j,e,q1,q2,q⟩=>?_) hs rfl))
 subst e
 obtain⟨u,rfl,t,rfl⟩:=vals1 r1
 refine call_range_1 (wpAny_pyIter_range (IsRange.new ..) (small_one (by omega) (by omega) q1 q2) ?_)
 generalize hh:s1.heap.push { cls:=.type "range",data:=.fields _ }=h2
 have I2:∀tk,Inv X pins σ H1 { s1 with heap:=h2,toks:=tk }:=λtk=>I1.kept λb o e=>by rw[<-hh];exact Heap.get?_push_of_some _ e
 refine⟨h2.objs.size,[h2.objs.size],_,Dv 0 j.toNat,H1,rfl,(I2 _).kept (t':=_) λb o e=>Heap.get?_push_of_some _ e,tw _ 0 j.toNat,?_,λb hb=>?_,q⟩
 ·have e2:((j.toNat:Nat):Int) - ((0:Nat):Int)=Builtin.Range.rangeSize 0 j 1:=by rw[rangeSize_one];split<;>omega
  refine(show IsRangeIter _ _ ((0:Int)+((0:Nat):Int) * 1) (((j.toNat:Nat):Int) - ((0:Nat):Int)) 1 from ?_)
  rw[e2]
  exact Heap.get?_push_size _ rfl
 ·rw[List.mem_singleton.mp hb]
  exact(I2 s1.toks).rT (Nat.le_refl _) ((I2 s1.toks).hok.fresh (Nat.le_refl _))
theorem JC{a:Expr}{ga:GA}{p q:Pos}(hg:Gl X "range")(hm:X.mg "range"=none)(ha:JA X [a] ga)(hst:W7 [a] X.env=[(false,eval a X.env)]):Le u5 X tg (.Call (.Name "range" p) [a] [] q) (Be ga):=by
 refine⟨_,vq hg hm i6 hst,λρ st σ H m Q S R p=>?_⟩
 refine ha.go S R (ao.bind p) λws st1 vs m1 H1 p1 e1 S1 rs=>?_
 match ws,rs,p1 with
 | [],rs,p1=>exact False.elim p1
 | x::y::t,rs,p1=>cases x<;>exact False.elim p1
 | [x],rs,p1=>
  obtain⟨v,rfl,r1⟩:=il rs
  cases x with
  | int j=>
   cases aF r1
   unfold sH at p1
   by_cases c:jf j
   ·simp only[if_pos c] at p1
    exact⟨j,rfl,c.1,c.2,p1 m1 H1 _ e1 S1 trivial Bd⟩
   ·simp only[if_neg c] at p1;exact False.elim p1
  | _=>exact False.elim p1
end
section
variable {X:Cx} {a b c d:Expr} {pos:Pos}
def qR(r r' r'':R2)(ta tb tc td:TE):TE:=λσ H Q=>ta σ H λx H1=>tb σ H1 λy H2=>r x y H2 λz H3=>∃k,z= .bl k/\(if k=true then tc σ H3 λu H4=>r' y u H4 λz' H5=>∃k',z'= .bl k'/\(if k'=true then td σ H5 λq H6=>r'' u q H6 Q else Q (.bl false) H5) else Q (.bl false) H3)
theorem yR{o o' ku:CmpOp}{r r' r'':R2}{ta tb tc td:TE}(ho:cH X (W2 o) r)(ho':cH X (W2 o') r')(vt:cH X (W2 ku) r'')(ha:PE X a ta)(hb:PE X b tb)(hc:PE X c tc)(hd:PE X d td)(hm:lastMarks [o,o',ku] [b,c,d]=false):PE X (.Compare a [o,o',ku] [b,c,d] pos) (qR r r' r'' ta tb tc td):=by
 intro pins s σ H Q I h
 refine Compare_chain (aI (ha pins s σ H _ I h) λv s1 ⟨x,H1,I1,r1,q1⟩=>chain_link (aI (hb pins s1 σ H1 _ I1 q1) λu s2 ⟨y,H2,I2,r2,q2⟩=>aI (ho pins s2 σ H2 x y v u _ I2 r1 r2 q2) λ_ s3 ⟨z,H3,I3,r3,k,e,q3⟩=>?_)) hm
 subst e
 cases r3
 refine Xf ?_
 cases k with
 | false=>exact ite_ff ⟨.bl false,H3,I3,rfl,q3⟩
 | true=>
  refine ite_tt (chain_link (aI (hc pins s3 σ H3 _ I3 q3) λu' s4 ⟨y',H4,I4,r4,q4⟩=>aI (ho' pins s4 σ H4 y y' u u' _ I4 r2 r4 q4) λ_ s5 ⟨z',H5,I5,r5,k',e',q5⟩=>?_))
  subst e'
  cases r5
  refine Xf ?_
  cases k' with
  | false=>exact ite_ff ⟨.bl false,H5,I5,rfl,q5⟩
  | true=>exact ite_tt (chain_last (aI (hd pins s5 σ H5 _ I5 q5) λQj s6 ⟨Qk,H6,I6,r6,q6⟩=>vt pins s6 σ H6 y' Qk u' Qj Q I6 r4 r6 q6))
theorem yS{o o' ku:CmpOp}{r r' r'':R2}{ta tb tc td:TE}(ho:cH X (W2 o) r)(ho':cH X (W2 o') r')(vt:cH X (W2 ku) r'')(ha:PE X a ta)(hb:PE X b tb)(hc:PE X c tc)(hd:PE X d td)(hm:lastMarks [o,o',ku] [b,c,d]=false):PT X (.Compare a [o,o',ku] [b,c,d] pos) (zS (qR r r' r'' ta tb tc td)):=by
 intro pins s σ H Q I h
 refine isTrue_chain (aI (ha pins s σ H _ I h) λv s1 ⟨x,H1,I1,r1,q1⟩=>test_link (aI (hb pins s1 σ H1 _ I1 q1) λu s2 ⟨y,H2,I2,r2,q2⟩=>aI (ho pins s2 σ H2 x y v u _ I2 r1 r2 q2) λ_ s3 ⟨z,H3,I3,r3,k,e,q3⟩=>?_)) hm
 subst e
 cases r3
 refine Xf ?_
 cases k with
 | false=>
  obtain⟨_,e',q'⟩:=q3
  cases e'
  exact ite_ff ⟨H3,I3,q'⟩
 | true=>
  refine ite_tt (test_link (aI (hc pins s3 σ H3 _ I3 q3) λu' s4 ⟨y',H4,I4,r4,q4⟩=>aI (ho' pins s4 σ H4 y y' u u' _ I4 r2 r4 q4) λ_ s5 ⟨z',H5,I5,r5,k',e',q5⟩=>?_))
  subst e'
  cases r5
  refine Xf ?_
  cases k' with
  | false=>
   obtain⟨_,e',q'⟩:=q5
   cases e'
   exact ite_ff ⟨H5,I5,q'⟩
  | true=>
   refine ite_tt (test_last (aI (hd pins s5 σ H5 _ I5 q5) λQj s6 ⟨Qk,H6,I6,r6,q6⟩=>aI (vt pins s6 σ H6 y' Qk u' Qj _ I6 r4 r6 q6) λ_ s7 ⟨WE,H7,I7,r7,k'',e'',q7⟩=>?_))
   subst e''
   cases r7
   exact Xf ⟨H7,I7,q7⟩
def gD(op op' f6:dj)(ga gb gc gd:GE):GE:=λρ st=>(ga ρ st).bind λx st1=>(gb ρ st1).bind λy st2=>(op x y st2).gw.bind λz st3=>match z with
 | .bl true=>(gc ρ st3).bind λu rJ=>(op' y u rJ).gw.bind λz' uE=>(match z' with
  | .bl true=>(gd ρ uE).bind λq Dg=>(f6 u q Dg).gw
  | .bl false=> .ok (.bl false) uE
  | _=> .bad)
 | .bl false=> .ok (.bl false) st3
 | _=> .bad
theorem BM{ga gb gc gd:GE}{op op' f6:dj}{r r' r'':R2}(h2:mL X op r)(h2':mL X op' r')(BN:mL X f6 r'')(ha:JE X a ga)(hb:JE X b gb)(hc:JE X c gc)(hd:JE X d gd){ρ:aT}{st:Hs}{σ:St}{H:Hp}{m:Mp}{Q:VK}
  (S:aK X.K m st H)(R:aq X.K m H ρ σ)(p:cN X σ m H (gD op op' f6 ga gb gc gd ρ st) Q):qR r r' r'' (SE X a) (SE X b) (SE X c) (SE X d) σ H Q:=by
 refine ha.go S R (ao.bind p) λx st1 v m1 H1 p1 e1 S1 rx=>?_
 refine hb.go S1 (R.mono e1) ((ao.bind p1).imp e1 λ_ _ q=>q) λy st2 u m2 H2 p2 e2 S2 ry=>?_
 refine h2 x y v u st2 H2 m2 _ S2 (af.mono e2 _ _ rx) ry (jG.imp (ao.gw (ao.bind p2)) λz st3 p3=>?_)
 intro z' m3 H3 e3 S3 rz
 have N8:=e1.trans (e2.trans e3)
 cases z with
 | bl k=>
  unfold af at rz
  refine⟨k,rz,?_⟩
  cases k with
  | true=>
   rw[if_pos rfl]
   refine hc.go S3 (R.mono N8) ((ao.bind p3).imp N8 λ_ _ q=>q) λq rJ u' m4 H4 p4 e4 S4 rq=>?_
   refine h2' y q u u' rJ H4 m4 _ S4 (af.mono (e3.trans e4) _ _ ry) rq (jG.imp (ao.gw (ao.bind p4)) λz2 uE p5=>?_)
   intro WG m5 H5 e5 S5 Su
   have N9:=N8.trans (e4.trans e5)
   cases z2 with
   | bl k2=>
    unfold af at Su
    refine⟨k2,Su,?_⟩
    cases k2 with
    | true=>
     rw[if_pos rfl]
     refine hd.go S5 (R.mono N9) ((ao.bind p5).imp N9 λ_ _ q=>q) λq2 Dg u2 m6 H6 p6 e6 S6 U3=>?_
     exact BN q q2 u' u2 Dg H6 m6 Q S6 (af.mono (e5.trans e6) _ _ rq) U3 (bB.shift (ao.gw p6) (N9.trans e6))
    | false=>
     rw[if_neg Bool.false_ne_true]
     exact p5 (.bl false) m5 H5 N9 S5 (by unfold af;rfl)
   | _=>exact False.elim p5
  | false=>
   rw[if_neg Bool.false_ne_true]
   exact p3 (.bl false) m3 H3 N8 S3 (by unfold af;rfl)
 | _=>exact False.elim p3
theorem yT{ga gb gc gd:GE}{o o' ku:CmpOp}{op op' f6:dj}(ho:fR X (W2 o) op)(ho':fR X (W2 o') op')(vt:fR X (W2 ku) f6)(ha:JE X a ga)(hb:JE X b gb)(hc:JE X c gc)(hd:JE X d gd)(hm:lastMarks [o,o',ku] [b,c,d]=false):JE X (.Compare a [o,o',ku] [b,c,d] pos) (gD op op' f6 ga gb gc gd):=by
 obtain⟨r,h1,h2⟩:=ho
 obtain⟨r',zx,h2'⟩:=ho'
 obtain⟨r'',JD,BN⟩:=vt
 exact JE.of (yR h1 zx JD aB aB aB aB hm) λρ st σ H m Q S R p=>BM h2 h2' BN ha hb hc hd S R p
theorem yU{ga gb gc gd:GE}{o o' ku:CmpOp}{op op' f6:dj}(ho:fR X (W2 o) op)(ho':fR X (W2 o') op')(vt:fR X (W2 ku) f6)(ha:JE X a ga)(hb:JE X b gb)(hc:JE X c gc)(hd:JE X d gd)(hm:lastMarks [o,o',ku] [b,c,d]=false):JT X (.Compare a [o,o',ku] [b,c,d] pos) (bg (gD op op' f6 ga gb gc gd)):=by
 obtain⟨r,h1,h2⟩:=ho
 obtain⟨r',zx,h2'⟩:=ho'
 obtain⟨r'',JD,BN⟩:=vt
 exact JT.of (yS h1 zx JD aB aB aB aB hm) λρ st σ H m Q S R p=>BM h2 h2' BN ha hb hc hd S R (ie p)
end
end J
namespace J
open PySem PySem.Spec PyProof.Rows L2
section
variable {X:Cx} {pins:List (WN×Obj)} {σ:St} {E:WU->WT->Prop} {p:WN}
end
section
variable {X:Cx} {pos:Pos}
abbrev wX(K:PySem.W.Frag)(m:Mp)(H:Hp):List (Wv×Wv)->List (V×V)->Prop:=Paired λp q=>af K m H p.1 q.1/\af K m H p.2 q.2
theorem wX.mono{K:PySem.W.Frag}{m m1:Mp}{H H1:Hp}(e:Ext K m H m1 H1):∀{a:List (Wv×Wv)}{b:List (V×V)},wX K m H a b->wX K m1 H1 a b
 | _,_,.nil=> .nil
 | _,_,.cons h t=> .cons ⟨af.mono e _ _ h.1,af.mono e _ _ h.2⟩ (wX.mono e t)
end
def getD(d k:Wv)(st:Hs):Option Wv:=match d with
 | .ref l=>(match st[l]? with
  | some (.dct kvs)=>(match keyOf k with | some kk=>dm kvs kk | none=>none)
  | some (.cB kvs)=>(match qO k with | some kk=>dm kvs kk | none=>none)
  | some (.jv kvs)=>(match qO k with | some kk=>dm kvs kk | none=>none)
  | _=>none)
 | _=>none
def N_(d k:Wv)(st:Hs):Re Wv:=match getD d k st with
 | some w=> .ok w st
 | none=> .bad
def nG(gd gk:GE):GE:=λρ st=>(gd ρ st).bind λd st1=>(gk ρ st1).bind λk st2=>N_ d k st2
section
variable {X:Cx}
theorem EW{m:Mp}{st:Hs}{H:Hp}{d k w:Wv}{x y:V}(S:aK X.K m st H)(rd:af X.K m H d x)(rk:af X.K m H k y)(e:getD d k st=some w):∃a v,x= .ref a/\oH H a y (some v)/\af X.K m H w v:=by
 unfold getD at e
 cases d with
 | ref l=>
  dsimp only at e
  unfold af at rd
  obtain⟨a,rfl,ha⟩:=rd
  cases e1:st[l]? with
  | none=>rw[e1] at e;cases e
  | some o=>
   rw[e1] at e
   cases o with
   | dct kvs=>
    dsimp only at e
    cases e2:keyOf k with
    | none=>rw[e2] at e;cases e
    | some kk=>
     rw[e2] at e
     obtain⟨xs,h1,h2⟩:=(show ∃ys,H a=some (.dK ys)/\RelK X.K m H kvs ys from S.obj _ _ _ ha e1)
     obtain⟨u,j1,j2⟩:=(h2.val kk).2 w e
     exact⟨a,u,rfl,by rw[kq rk e2,<-j1];exact oH.k h1,j2⟩
   | cB kvs=>
    dsimp only at e
    cases e2:qO k with
    | none=>rw[e2] at e;cases e
    | some kk=>
     rw[e2] at e
     obtain⟨xs,h1,h2⟩:=(show ∃ys,H a=some (.dT ys)/\RelK X.K m H kvs ys from S.obj _ _ _ ha e1)
     obtain⟨b,rfl,hb⟩:=nC rk e2
     obtain⟨u,j1,j2⟩:=(h2.val kk).2 w e
     exact⟨a,u,rfl,by rw[<-j1];exact oH.t h1 hb,j2⟩
   | jv kvs=>
    dsimp only at e
    cases e2:qO k with
    | none=>rw[e2] at e;cases e
    | some kk=>
     rw[e2] at e
     obtain⟨o,xs,h1,h2⟩:=(show ∃o ys,H a=some (.bR o (.dT ys))/\RelK X.K m H kvs ys from S.obj _ _ _ ha e1)
     obtain⟨b,rfl,hb⟩:=nC rk e2
     obtain⟨u,j1,j2⟩:=(h2.val kk).2 w e
     exact⟨a,u,rfl,by rw[<-j1];exact .inr ⟨xs,kk,b,.inr ⟨o,h1⟩,rfl,hb,rfl⟩,j2⟩
   | _=>cases e
 | _=>cases e
theorem EY{o i:Expr}{go gi:GE}{pos:Pos}(hu:X.A.units+1 < cLine)(ho:JE X o go)(hi:JE X i gi)(hs:Ai i):JE X (.Subscript o i pos) (nG go gi) :=
 JE.of (DQ hu aB aB hs) λρ st σ H m Q S R p=>by
  refine ho.go S R (ao.bind p) λd st1 v m1 H1 p1 e1 S1 rd=>?_
  refine hi.go S1 (R.mono e1) ((ao.bind p1).imp e1 λ_ _ q=>q) λk st2 u m2 H2 p2 e2 S2 rk=>?_
  unfold N_ at p2
  cases e:getD d k st2 with
  | none=>rw[e] at p2;exact False.elim p2
  | some w=>
   rw[e] at p2
   obtain⟨a,v',ex,g,rw'⟩:=EW (X:=X) S2 (af.mono e2 _ _ rd) rk e
   exact⟨a,v',ex,g,p2 v' m2 H2 (e1.trans e2) S2 rw'⟩
end
end J
namespace J
open PySem PySem.Spec PyProof.Rows L2
section
variable {X:Cx} {pins:List (WN×Obj)} {σ:St} {H:Hp} {s:WT} {a:WN} {xs:List (List L2.Key×V)}
theorem JF(I:Inv X pins σ H s)(e:H a=some (.dT xs)):∃o,s.heap.get? a=some o/\Inv X pins σ (upd H a (.bR o (.dT xs))) s:=by
 obtain⟨z,lo,ys,kt,o,es,ep,g1,g2,g3,g4,g5⟩:=id (I.hok a _ e)
 refine⟨o,g1,qu (t':=s.toks) (h':=s.heap) I (by rw[e];exact True.intro) (Heap.SameBut.refl _ _) ⟨o,g1⟩ ⟨g1,z,lo,ys,KT.keeps kt λc zs ec=>?_,o,es,ep,g1,g2,g3,g4,g5⟩⟩
 rw[au (FY ec e (λz=>nomatch z))]
 exact ec
theorem EZ{o:Obj}(I:Inv X pins σ H s)(e:H a=some (.bR o (.dT xs)))(n:∀o u,X.H₀ a≠some (.bR o u)):Inv X pins σ (upd H a (.dT xs)) s:=by
 have ne:∀{b:WN},H b=none->b≠a:=λh z=>by rw[z,e] at h;cases h
 have g:=I.base
 have ow:∀c b,H c=some (.own b)->upd H a (.dT xs) c=some (.own b):=λc b q=>by
  rw[au (λz=>by rw[z,e] at q;cases q)];exact q
 have tu:∀c ys,H c=some (.tup ys)->upd H a (.dT xs) c=some (.tup ys):=λc ys q=>by
  rw[au (λz=>by rw[z,e] at q;cases q)];exact q
 refine⟨I.ok,I.os,I.bare,⟨g.keep,g.slot,λb ob q h hx=>?_,g.there,λb ys q=>tu b ys (g.tups b ys q),λb ob u q=>?_,λb ps q=>?_⟩,I.loc,I.cell,?_,λy c q=>?_,λp hp=>?_,λb u q=>?_,I.len⟩
 ·have h1:=g.free b ob q h hx
  rw[au (ne h1)];exact h1
 ·rw[au (λz=>n ob u (by rw[<-z];exact q))];exact g.fT b ob u q
 ·obtain⟨m,h1⟩:=g.hJ b ps q
  exact⟨m,by rw[au (λz=>by rw[z,e] at h1;cases h1)];exact h1⟩
 ·rw[au (ne I.free)];exact I.free
 ·rw[au (ne (I.dR y c q))];exact I.dR y c q
 ·obtain⟨p1,p2,p3⟩:=I.pin p hp
  exact⟨p1,by rw[au (ne p2)];exact p2,p3⟩
 ·by_cases hb:b=a
  ·subst hb
   rw[aC] at q
   cases q
   exact bL.stay (I.hok b _ e).2 (λc v _ q=>q) (λc q=>ow c _ q) tu
  ·rw[au hb] at q
   exact(I.hok b u q).stay (λc v _ q=>q) (λc q=>ow c _ q) tu
end
section
variable {K:PySem.W.Frag} {m:Mp} {st:Hs} {H:Hp}
theorem RelK.cQ{κ:Type}{m1:Mp}{H1:Hp}{kvs:List (κ×Wv)}{xs:List (κ×V)}(e:r_ K m H m1 H1)(h:RelK K m H kvs xs):RelK K m1 H1 kvs xs:=⟨h.1,ah.cQ e _ _ h.2⟩
theorem pY{a:WN}{o:Obj}{xs:List (List L2.Key×V)}(e:H a=some (.bR o (.dT xs))):r_ K m H m (upd H a (.dT xs)) :=
 ⟨λ_ _ h=>h,λb ys q=>by rw[au (λz=>by rw[z,e] at q;cases q)];exact q,λb φ q=>by rw[au (λz=>by rw[z,e] at q;cases q)];exact q,λb ob φ q=>by rw[au (λz=>by rw[z,e] at q;cases q)];exact q⟩
theorem aK.JG{l:Nat}{a:WN}{o:Obj}{kvs:List (List L2.Key×Wv)}{xs:List (List L2.Key×V)}(S:aK K m st H)(h1:m[l]? =some a)(h2:st[l]? =some (.jv kvs))(e:H a=some (.bR o (.dT xs))):aK K m (st.set l (.cB kvs)) (upd H a (.dT xs)):=by
 have ez:=pY (K:=K) (m:=m) e
 have hl:l < st.length:=(List.getElem?_eq_some_iff.mp h2).1
 have at':∀(k:Nat)(ob:Ob),(st.set l (.cB kvs))[k]? =some ob->(k=l/\ob= .cB kvs)\/(k≠l/\st[k]? =some ob):=λk ob h=>by
  by_cases z:l=k
  ·subst z
   rw[List.getElem?_set_self hl] at h
   exact .inl ⟨rfl,(Option.some.inj h).symm⟩
  ·rw[List.getElem?_set_ne z] at h
   exact .inr ⟨λz'=>z z'.symm,h⟩
 refine⟨by simp[S.len],λk b ob g1 g2=>?_,λk k' b us us' g1 F7 g2 Pp q q'=>?_,S.tab.keep (λc ps q=>?_) ez.ext⟩
 ·rcases at' k ob g2 with ⟨rfl,rfl⟩ | ⟨hk,g2⟩
  ·rw[h1] at g1
   cases g1
   obtain⟨o',xs',r1,r2⟩:=(show ∃o' xs',H a=some (.bR o' (.dT xs'))/\RelK K m H kvs xs' from S.obj _ _ _ h1 h2)
   rw[e] at r1
   cases r1
   exact⟨xs,aC,r2.cQ ez⟩
  ·have q:=S.obj k b ob g1 g2
   have nb:ob.mu=true->b≠a:=λhm z=>hk (S.inj k l b ob _ g1 (z ▸ h1) g2 h2 hm rfl)
   cases ob with
   | lst ws=>obtain⟨ys,e1,e2⟩:=q;exact⟨ys,by rw[au (nb rfl)];exact e1,ah.cQ ez _ _ e2⟩
   | dct ws=>obtain⟨ys,e1,e2⟩:=q;exact⟨ys,by rw[au (nb rfl)];exact e1,e2.cQ ez⟩
   | cB ws=>obtain⟨ys,e1,e2⟩:=q;exact⟨ys,by rw[au (nb rfl)];exact e1,e2.cQ ez⟩
   | jv ws=>obtain⟨o',ys,e1,e2⟩:=q;exact⟨o',ys,by rw[au (nb rfl)];exact e1,e2.cQ ez⟩
   | j6 ns=>
    rcases q with ⟨o',q⟩ | q
    ·exact .inl ⟨o',by rw[au (λz=>by rw[z,e] at q;cases q)];exact q⟩
    ·exact .inr q
 ·have back:∀(k:Nat)(ob:Ob),(st.set l (.cB kvs))[k]? =some ob->ob.mu=true->∃o',st[k]? =some o'/\o'.mu=true:=λk ob h ho=>by
   rcases at' k _ h with ⟨rfl,_⟩ | ⟨_,h⟩
   ·exact⟨_,h2,rfl⟩
   ·exact⟨ob,h,ho⟩
  obtain⟨u1,f1,f2⟩:=back k us g2 q
  obtain⟨u2,f3,f4⟩:=back k' us' Pp q'
  exact S.inj k k' b u1 u2 g1 F7 f1 f3 f2 f4
 ·rw[au (λz=>by rw[z,e] at q;cases q)];exact q
theorem aq.cQ{m1:Mp}{H1:Hp}{ρ:aT}{σ:St}(R:aq K m H ρ σ)(e:r_ K m H m1 H1):aq K m1 H1 ρ σ:=⟨R.len,λi w h=>let ⟨v,h1,h2⟩:=R.get i w h;⟨v,h1,af.cQ e _ _ h2⟩⟩
theorem Ext.JG{m1:Mp}{H1:Hp}{a:WN}{xs ys:List (List L2.Key×V)}(e:Ext K m H m1 H1)(h:H a=some (.dT xs)):Ext K m H m1 (L2.upd H1 a (.dT ys)) :=
 ⟨e.pre,λb zs q=>by rw[au (λz=>by rw[z,h] at q;cases q)];exact e.tup b zs q,λb φ q=>by rw[au (λz=>by rw[z,h] at q;cases q)];exact e.ext b φ q,λb o u q=>by rw[au (λz=>by rw[z,h] at q;cases q)];exact e.bR b o u q⟩
end
def lp(l:Nat)(st:Hs):Hs:=match st[l]? with
 | some (.jv kvs)=>st.set l (.cB kvs)
 | _=>st
def lq(w:Option (Option Wv))(st:Hs):Option Nat:=match w with
 | some (some (.ref l))=>(match st[l]? with | some (.cB _)=>some l | _=>none)
 | _=>none
def pZ(i:Nat)(g:GS):GS:=λρ st=>match lq ρ[i]? st with
 | some l=>(match g ρ st with | .nx ρ' st'=> .nx ρ' (lp l st') | r=>r)
 | none=>g ρ st
def gE(i:Nat)(g:GE):GE:=λρ st=>match lq ρ[i]? st with
 | some l=>(match g ρ st with | .ok w st'=> .ok w (lp l st') | r=>r)
 | none=>g ρ st
section
variable {X:Cx}
theorem tD{ρ:aT}{st:Hs}{σ:St}{H:Hp}{m:Mp}{i l:Nat}(S:aK X.K m st H)(R:aq X.K m H ρ σ)(h:lq ρ[i]? st=some l):∃a xs,m[l]? =some a/\H a=some (.dT xs):=by
 unfold lq at h
 split at h
 ·rename_i k e
  obtain⟨v,_,r⟩:=R.get i _ e
  unfold af at r
  obtain⟨a,rfl,ha⟩:=r
  split at h
  ·rename_i kvs e1
   cases h
   obtain⟨xs,h1,_⟩:=(show ∃ys,H a=some (.dT ys)/\RelK X.K m H kvs ys from S.obj _ _ _ ha e1)
   exact⟨a,xs,ha,h1⟩
  ·cases h
 ·cases h
theorem tE{pins:List (WN×Obj)}{s0 s':WT}{σ σ':St}{H H':Hp}{m m':Mp}{l:Nat}{a:WN}{xs:List (List L2.Key×V)}{st':Hs}(I:Inv X pins σ H s0)(h0:H a=some (.dT xs))(ha:m[l]? =some a)(e:Ext X.K m H m' H')(S:aK X.K m' st' H')(I':Inv X pins σ' H' s') :
  ∃rL,Inv X pins σ' rL s'/\Ext X.K m H m' rL/\aK X.K m' (lp l st') rL/\r_ X.K m' H' m' rL:=by
 unfold lp
 have same:∃rL,Inv X pins σ' rL s'/\Ext X.K m H m' rL/\aK X.K m' st' rL/\r_ X.K m' H' m' rL:=⟨H',I',e,S,Ext.refl.z⟩
 split
 ·rename_i kvs e1
  obtain⟨o,ys,h1,_⟩:=(show ∃o ys,H' a=some (.bR o (.dT ys))/\RelK X.K m' H' kvs ys from S.obj _ _ _ (e.pre _ _ ha) e1)
  exact⟨_,EZ I' h1 λo u q=>(by have z:=I.base.fT _ _ _ q;rw[h0] at z;cases z),e.JG h0,S.JG (e.pre _ _ ha) e1 h1,pY h1⟩
 ·exact same
theorem wY(i:Nat){Sv:Stmt}{g:GS}(h:JS X Sv g):JS X Sv (pZ i g):=by
 intro ρ st σ H m D S R p
 unfold pZ at p
 cases eo:lq ρ[i]? st with
 | none=>rw[eo] at p;exact h ρ st σ H m D S R p
 | some l=>
  rw[eo] at p
  dsimp only at p
  cases eg:g ρ st with
  | nx ρ' st'=>
   rw[eg] at p
   intro pins s I
   obtain⟨a,xs,ha,h0⟩:=tD S R eo
   have go:=h ρ st σ H m { D with nx:=λσ' H'=>∃m',Ext X.K m H m' H'/\aK X.K m' st' H'/\aq X.K m' H' ρ' σ' } S R (by rw[eg];exact λσ' m' H' e' S' R'=>⟨m',e',S',R'⟩) pins s I
   refine Xa go (λf s' q=>?_) λ_ _ z=>z
   cases f with
   | next=>
    obtain⟨σ',H',I',m',e',S',R'⟩:=q
    obtain⟨rL,I2,e2,S2,z2⟩:=tE I h0 ha e' S' I'
    exact⟨σ',rL,I2,p σ' m' rL e2 S2 (R'.cQ z2)⟩
   | brk=>exact q
   | cont=>exact q
   | ret u=>exact q
  | rt w st'=>rw[eg] at p;exact h ρ st σ H m D S R (by rw[eg];exact p)
  | bk ρ' st'=>rw[eg] at p;exact h ρ st σ H m D S R (by rw[eg];exact p)
  | ct ρ' st'=>rw[eg] at p;exact h ρ st σ H m D S R (by rw[eg];exact p)
  | err c ρ' st'=>rw[eg] at p;exact h ρ st σ H m D S R (by rw[eg];exact p)
  | bad=>rw[eg] at p;exact False.elim p
theorem E1(i:Nat){e:Expr}{g:GE}(h:JE X e g):JE X e (gE i g):=by
 intro ρ st σ H m Q S R p
 unfold gE at p
 cases eo:lq ρ[i]? st with
 | none=>rw[eo] at p;exact h ρ st σ H m Q S R p
 | some l=>
  rw[eo] at p
  dsimp only at p
  cases eg:g ρ st with
  | ok w st'=>
   rw[eg] at p
   intro pins s I
   obtain⟨a,xs,ha,h0⟩:=tD S R eo
   have go:=h ρ st σ H m (λv H'=>∃m',Ext X.K m H m' H'/\aK X.K m' st' H'/\af X.K m' H' w v) S R (by rw[eg];exact λv m' H' e' S' r'=>⟨m',e',S',r'⟩) pins s I
   refine Xa go (λu s' q=>?_) λ_ _ z=>z
   obtain⟨v,H',I',rv,m',e',S',r'⟩:=q
   obtain⟨rL,I2,e2,S2,z2⟩:=tE I h0 ha e' S' I'
   exact⟨v,rL,I2,rv,p v m' rL e2 S2 (af.cQ z2 _ _ r')⟩
  | err c st'=>rw[eg] at p;exact h ρ st σ H m Q S R (by rw[eg];exact p)
  | bad=>rw[eg] at p;exact False.elim p
end
def BO(a:WN)(o:Obj)(xs:List (List L2.Key×V)):It :=
 ⟨λi H=>H a=some (.bR o (.dT xs))/\i < xs.length,λi H v H'=>H'=H/\∃k b,(xs[i]?).map (·.1)=some k/\v= .ref b/\H b=some (.tup (k.map kV)),λi H=>H a=some (.bR o (.dT xs))/\xs.length<=i⟩
theorem vw{H:Hp}:∀{xs:List (List L2.Key×V)}{ys:List (List L2.Key×WN×WU)},KT H xs ys->∀{i:Nat}{y:List L2.Key×WN×WU},ys[i]? =some y->∃x,xs[i]? =some x/\x.1=y.1/\H y.2.1=some (.tup (x.1.map kV))/\RelV x.2 y.2.2
 | _,_,.nil,i,y,h=>by cases h
 | _,_,.cons h t,0,y,e=>by cases e;exact⟨_,rfl,h⟩
 | _,_,.cons h t,i+1,y,e=>vw t (i:=i) e
theorem qS{P:WS}{w:WV}{H:Hp}{h:Heap}{a:WN}{o:Obj}{xs:List (List L2.Key×V)}(ok:gX P w H h)(e:H a=some (.bR o (.dT xs))) :
  ∃es ep,(a == sysModules)=false/\o.data= .dict es ep/\qP h a es ep/\es.size=xs.length/\∀(i:Nat)(hi:i < es.size),∃x b,xs[i]? =some x/\es[i].key= .ref b/\H b=some (.tup (x.1.map kV))/\RelV x.2 es[i].val:=by
 obtain⟨ho,z,lo,ys,kt,o',es,ep,g1,g2,g3,g4,g5⟩:=ok a _ e
 rw[ho] at g1
 cases g1
 have len:es.size=ys.length:=by have:=congrArg List.length g4;simpa using this
 have U4:xs.length=ys.length:=Paired.length kt
 refine⟨es,ep,lo,g3,⟨o,ho,g2.1,g3⟩,by omega,λi hi=>?_⟩
 have hi':i < ys.length:=by omega
 have q1:es[i]=entryOfKey (tupleKind (aM P w)) ys[i]:=by
  have:es.toList[i]? =(ys.map (entryOfKey (tupleKind (aM P w))))[i]?:=by rw[g4]
  rw[List.getElem?_eq_getElem (by simpa using hi),List.getElem?_map,List.getElem?_eq_getElem hi'] at this
  simpa using this
 obtain⟨x,e1,e2,e3,e4⟩:=vw kt (List.getElem?_eq_getElem hi')
 exact⟨x,ys[i].2.1,e1,by rw[q1];rfl,e3,by rw[q1];exact e4⟩
theorem yV{P:WS}{w:WV}{K:PySem.W.Frag}{tg:Expr}(a it:WN)(o:Obj)(xs:List (List L2.Key×V)):Turn P w K tg (BO a o xs) [it] it (λi h=>∃es ep,o.data= .dict es ep/\h.IsKeyIter it a i es.size ep) where
 mem:=by simp
 obj:=λi h st b hb=>by
  obtain⟨es,ep,_,oi,q1,q2,q3⟩:=st
  have e:b=it:=by simpa using hb
  subst e
  exact⟨oi,q1,λv z=>by rw[q3] at z;cases z⟩
 keep:=λi h h' st k=>let ⟨es,ep,hd,ki⟩:=st;⟨es,ep,hd,ki.at λob q=>k it (by simp) ob q⟩
 self:=λ_ _ _ _ _ st h=>let ⟨_,_,_,ki⟩:=st;wpAny_pyIter_keyiter ki h
 item:=by
  intro X hP hw hK hc i pins s σ H E I hf st hg
  subst hP hw hK
  obtain⟨es,ep,hd,ki⟩:=st
  obtain⟨he,hi⟩:=hg
  obtain⟨es',rP,lo,hd',raw,sz,keys⟩:=qS I.hok he
  rw[hd] at hd'
  cases hd'
  obtain⟨f0,f1,f2,f3,f4,f5⟩:=hf it (by simp)
  have hi':i < es.size:=by omega
  refine BA ki raw hi' λh' MX sb=>?_
  obtain⟨x,b,e1,e2,e3,_⟩:=keys i hi'
  have I1:Inv X pins σ H { s with heap:=h' }:=I.turned (t':=s.toks) (λc ob hc e=>sb.extBut c ob hc e) f0 f1 f3 f4 f5
  obtain⟨oi,q1,q2,q3⟩:=id MX
  exact⟨es[i].key,rfl,kS (s:={ s with heap:=h' }) q1 q2 q3 (by decide) ⟨.ref b,H,I1,e2,⟨rfl,x.1,b,by rw[e1];rfl,rfl,e3⟩,⟨es,ep,hd,MX⟩,λc hb=>(hf c hb).1⟩⟩
 done:=by
  intro X hP hw hK hc i pins s σ H E I hf st hg
  subst hP hw hK
  obtain⟨es,ep,hd,ki⟩:=st
  obtain⟨he,hi⟩:=hg
  obtain⟨es',rP,lo,hd',raw,sz,keys⟩:=qS I.hok he
  rw[hd] at hd'
  cases hd'
  obtain⟨f0,f1,f2,f3,f4,f5⟩:=hf it (by simp)
  exact EO (I.ok.hd hc) ki raw (by omega) λh' eb=>⟨rfl,I.turned (t':=s.toks) (λb ob hb e=>eb b ob hb e) f0 f1 f3 f4 f5⟩
section
variable {X:Cx} {tg:Expr}
def M4(te:TE):TI:=λσ H R=>te σ H λx H1=>∃a xs,x= .ref a/\((H1 a=some (.dT xs)/\∀o,R (BO a o xs) (upd H1 a (.bR o (.dT xs))))\/∃o,H1 a=some (.bR o (.dT xs))/\R (BO a o xs) H1)
theorem wZ{pins:List (WN×Obj)}{σ:St}{H:Hp}{s:WT}{R:It->Hp->Prop}{E:WU->WT->Prop}{a:WN}{o:Obj}{xs:List (List L2.Key×V)}(I:Inv X pins σ H s)(e:H a=some (.bR o (.dT xs)))(r:R (BO a o xs) H):W8 (model X.prog X.w) X.A (pyIter (.ref a)) (O0 X pins σ tg R) E s:=by
 obtain⟨es,ep,lo,hd,raw,sz,keys⟩:=qS I.hok e
 refine Bz lo raw ⟨s.heap.objs.size,[s.heap.objs.size],_,BO a o xs,H,rfl,I.kept (t':=s.toks) λb ob q=>Heap.get?_push_of_some _ q,yV a _ o xs,⟨es,ep,hd,_,Heap.get?_push_size _ rfl,rfl,rfl⟩,λb hb=>?_,r⟩
 rw[List.mem_singleton.mp hb]
 exact I.rT (Nat.le_refl _) (I.hok.fresh (Nat.le_refl _))
theorem w4{e:Expr}{te:TE}(he:PE X e te):PI X tg e (M4 te):=by
 intro pins s σ H R I h
 refine aI (he pins s σ H _ I h) λv s1 ⟨x,H1,I1,r1,a,xs,ex,q⟩=>?_
 subst ex
 cases r1
 rcases q with ⟨e1,k⟩ | ⟨o,e1,k⟩
 ·obtain⟨o,_,I2⟩:=JF I1 e1
  exact wZ I2 aC (k o)
 ·exact wZ I1 e1 k
def tF(w:Wv)(st:Hs):Re Wk:=match w with
 | .ref l=>(match st[l]? with
  | some (.cB kvs)=>(match fv (kvs.map (·.1)) with | some ws=> .ok (none,ws) (st.set l (.jv kvs)) | none=> .bad)
  | some (.jv kvs)=>(match fv (kvs.map (·.1)) with | some ws=> .ok (none,ws) st | none=> .bad)
  | _=> .bad)
 | _=> .bad
def jj(g:GE):GI:=λρ st=>(g ρ st).bind tF
theorem p_:∀{ks:List (List L2.Key)}{ws:List Wv},fv ks=some ws->ws.length=ks.length/\∀(i:Nat)(h:i < ws.length),∃k ns,ks[i]? =some k/\kr k=some ns/\ws[i]= .tup (ns.map Wv.int)
 | [],ws,e=>by cases e;exact⟨rfl,λi h=>by cases h⟩
 | k::ks,ws,e=>by
  unfold fv at e
  cases q1:kr k with
  | none=>rw[q1] at e;cases e
  | some ns=>
   cases q2:fv ks with
   | none=>rw[q1,q2] at e;cases e
   | some l=>
    rw[q1,q2] at e
    cases e
    obtain⟨h1,h2⟩:=p_ q2
    refine⟨by simp[h1],λi h=>?_⟩
    cases i with
    | zero=>exact⟨k,ns,rfl,q1,rfl⟩
    | succ i=>exact h2 i (by simpa using h)
theorem nH{m1:Mp}{H1:Hp}{a:WN}{o:Obj}{kvs:List (List L2.Key×Wv)}{xs:List (List L2.Key×V)}{ws:List Wv}(e:H1 a=some (.bR o (.dT xs)))(r:RelK X.K m1 H1 kvs xs)(hk:fv (kvs.map (·.1))=some ws) :
  (∀(k:Nat)(H:Hp)(m':Mp),Ext X.K m1 H1 m' H->k < ws.length->(BO a o xs).go k H)/\(∀(k:Nat)(H:Hp)(m':Mp),Ext X.K m1 H1 m' H->k=ws.length->(BO a o xs).stop k H)/\
  ∀(k:Nat)(hk:k < ws.length)(H:Hp)(x:V)(H':Hp)(m':Mp),Ext X.K m1 H1 m' H->(BO a o xs).rS k H x H'->H'=H/\af X.K m' H ws[k] x:=by
 obtain⟨l1,g1⟩:=p_ hk
 have l2:ws.length=xs.length:=by rw[l1,List.length_map,r.length]
 refine⟨λk H m' e' h=>⟨e'.bR _ _ _ e,by omega⟩,λk H m' e' h=>⟨e'.bR _ _ _ e,by omega⟩,λk h H v H' m' e' y=>?_⟩
 obtain⟨rfl,kk,b,y1,rfl,y2⟩:=y
 refine⟨rfl,?_⟩
 obtain⟨k',ns,f1,f2,f3⟩:=g1 k h
 have e3:(xs[k]?).map (·.1)=some k':=by rw[<-List.getElem?_map,<-r.1];exact f1
 rw[y1] at e3
 cases e3
 rw[f3]
 rw[wV f2] at y2
 unfold af
 exact⟨b,_,rfl,y2,ah.ints ns⟩
theorem w5{m1:Mp}{H1:Hp}{a:WN}{o:Obj}{kvs:List (List L2.Key×Wv)}{xs:List (List L2.Key×V)}{ws:List Wv}(e:H1 a=some (.bR o (.dT xs)))(r:RelK X.K m1 H1 kvs xs)(hk:fv (kvs.map (·.1))=some ws):pM X (none,ws) m1 H1 (BO a o xs) :=
 let ⟨g1,g2,g3⟩:=nH e r hk
 ⟨λk H m' _ e' _ _ h=>g1 k H m' e' h,λk H m' _ e' _ _ h=>g2 k H m' e' h,λk h H v H' m' _ e' _ _ y=>g3 k h H v H' m' e' y⟩
theorem E2{e:Expr}{g:GE}(h:JE X e g):JI X tg e (jj g):=by
 refine⟨_,w4 aB,λρ st σ H m Q S R p=>?_⟩
 refine h.go S R (ao.bind p) λw st1 v m1 H1 p1 e1 S1 rw'=>?_
 unfold tF at p1
 cases w with
 | ref l=>
  unfold af at rw'
  obtain⟨a,rfl,ha⟩:=rw'
  dsimp only at p1
  cases el:st1[l]? with
  | none=>rw[el] at p1;exact False.elim p1
  | some ob=>
   rw[el] at p1
   cases ob with
   | cB kvs=>
    dsimp only at p1
    cases ek:fv (kvs.map (·.1)) with
    | none=>rw[ek] at p1;exact False.elim p1
    | some ws=>
     rw[ek] at p1
     obtain⟨xs,h1,h2⟩:=(show ∃ys,H1 a=some (.dT ys)/\RelK X.K m1 H1 kvs ys from S1.obj _ _ _ ha el)
     refine⟨a,xs,rfl,.inl ⟨h1,λo=>?_⟩⟩
     have ex:Ext X.K m1 H1 m1 (upd H1 a (.bR o (.dT xs))):=Ext.g_ (.inr (.inr (.inr ⟨_,h1⟩)))
     have S2:aK X.K m1 (st1.set l (.jv kvs)) (upd H1 a (.bR o (.dT xs))):=S1.mK ha el rfl ⟨o,xs,aC,h2.mono ex⟩
     exact p1 m1 _ _ (e1.trans ex) S2 trivial (w5 aC (h2.mono ex) ek)
   | jv kvs=>
    dsimp only at p1
    cases ek:fv (kvs.map (·.1)) with
    | none=>rw[ek] at p1;exact False.elim p1
    | some ws=>
     rw[ek] at p1
     obtain⟨o,xs,h1,h2⟩:=(show ∃o ys,H1 a=some (.bR o (.dT ys))/\RelK X.K m1 H1 kvs ys from S1.obj _ _ _ ha el)
     exact⟨a,xs,rfl,.inr ⟨o,h1,p1 m1 _ _ e1 S1 trivial (w5 h1 h2 ek)⟩⟩
   | _=>exact False.elim p1
 | _=>exact False.elim p1
def w6(i:Nat)(g:GE)(gb:GS):GS:=λρ st=>(jj g ρ st).aI ρ λw st1=>eN i gb w.2 ρ st1
theorem E3(i:Nat){x:Str}{iter:Expr}{body:List Stmt}{g:GE}{gb:GS}{pos pos':Pos}(hN:X.N.Nodup)(hp:PassesOwn (model X.prog X.w) X.A X.env X.xe)(hc:X.calm=true)(h:JE X iter g)(hb:i7 X body gb)
  (hx:X.N[i]? =some x)(hlo:Loc X.env.scope x)(Mz:X.fn x=true\/X.env.scope.names.lookup x=some .local)(hs:∀x,W3 iter X.env x=pure x):JS X (.For (.Name x pos') iter body [] pos) (w6 i g gb):=by
 refine JS.of (j7 hp hc (w4 aB) (jz hN hx hlo Mz) cC hs) λρ st σ H m D S R p=>?_
 refine h.go S R (ao.bind (av.bF R p)) λw st1 v m1 H1 p1 e1 S1 rw'=>?_
 unfold tF at p1
 cases w with
 | ref l=>
  unfold af at rw'
  obtain⟨a,rfl,ha⟩:=rw'
  dsimp only at p1
  cases el:st1[l]? with
  | none=>rw[el] at p1;exact False.elim p1
  | some ob=>
   rw[el] at p1
   cases ob with
   | cB kvs=>
    dsimp only at p1
    cases ek:fv (kvs.map (·.1)) with
    | none=>rw[ek] at p1;exact False.elim p1
    | some ws=>
     rw[ek] at p1
     obtain⟨xs,h1,h2⟩:=(show ∃ys,H1 a=some (.dT ys)/\RelK X.K m1 H1 kvs ys from S1.obj _ _ _ ha el)
     refine⟨a,xs,rfl,.inl ⟨h1,λo=>?_⟩⟩
     have ex:Ext X.K m1 H1 m1 (upd H1 a (.bR o (.dT xs))):=Ext.g_ (.inr (.inr (.inr ⟨_,h1⟩)))
     have S2:aK X.K m1 (st1.set l (.jv kvs)) (upd H1 a (.bR o (.dT xs))):=S1.mK ha el rfl ⟨o,xs,aC,h2.mono ex⟩
     obtain⟨g1,g2,g3⟩:=nH (X:=X) (o:=o) aC (h2.mono ex) ek
     exact iq (J':=BO a o xs) i hb S2 (R.mono (e1.trans ex)) (av.shift p1 (e1.trans ex)) g1 g2 g3
   | jv kvs=>
    dsimp only at p1
    cases ek:fv (kvs.map (·.1)) with
    | none=>rw[ek] at p1;exact False.elim p1
    | some ws=>
     rw[ek] at p1
     obtain⟨o,xs,h1,h2⟩:=(show ∃o ys,H1 a=some (.bR o (.dT ys))/\RelK X.K m1 H1 kvs ys from S1.obj _ _ _ ha el)
     obtain⟨g1,g2,g3⟩:=nH (X:=X) h1 h2 ek
     exact⟨a,xs,rfl,.inr ⟨o,h1,iq (J':=BO a o xs) i hb S1 (R.mono e1) (av.shift p1 e1) g1 g2 g3⟩⟩
   | _=>exact False.elim p1
 | _=>exact False.elim p1
end
end J
namespace J
open PySem PySem.Spec PyProof.Rows L2
section
variable {prog:WS} {w:WV} {A:WO} {E:WU->WT->Prop} {s:WT} {d:WN} {es:Array DictEntry} {ep:Nat}
theorem E4{Q:WU->WT->Prop}(lo:(d == sysModules)=false)(x:qP s.heap d es ep)(hz:es.size<=W6)(h:Q (.int es.size (s.toks+1)) { s with toks:=s.toks+1+1 }):W8 (model prog w) A (call (.builtin "len") [.ref d]) Q E s:=by
 have ty:=x.ty
 obtain⟨o,g1,g2,g3⟩:=x
 refine Calls.call_function_entry kind_len plain_len entry_len (args_len1 _) ?_
 have n0:¬((es.size:Int) < 0):=by omega
 have n1:¬((es.size:Int) >= 2 ^ 63):=by rw[sizeLine_eq] at hz;omega
 have M:MeetsIn prog w (Builtin.«dict.__len__» ⟨[.ref d],[]⟩) (λ_ R s'=>s'=s/\R (.ok (.ret (.int es.size s.toks))) { s with toks:=s.toks+1 }):=.of_wp λA R s' ⟨e,h⟩=>by
  subst e
  refine(show W8 _ _ (dictSize d >>= _) _ _ s' from ?_)
  unfold dictSize
  refine W9 (W9 (W_ g1 g3 (Xe ?_)))
  exact(show W8 _ _ (Builtin.Dict.pendingCount d >>= _) _ _ s' from W9 (wpAny_pendingCount_other lo (wpAny_ret_mkInt (by rw[Nat.add_zero];exact h))))
 unfold Builtin.«len»
 refine W9 (m:=oneArg "len" _) (Xe (W9 (m:=callSpecial? (.ref d) (Str.ofString "__len__")) (wpAny_callSpecial?_slot (name:=Str.ofString "__len__") ty PySem.F.slot_dict_len
  (call_meetsIn PySem.F.slot_dict_len ty PySem.F.entry_dict_len (PySem.F.args_dict_len_1 _) M ⟨rfl,?_⟩))))
 refine(show W8 _ _ _ _ _ { s with toks:=s.toks+1 } from W9 (W' (Xe (W9 (wpAny_letGo ?_)))))
 refine(show W8 _ _ (if((es.size:Nat):Int) < 0 then _ else _) _ _ _ from ?_);rw[if_neg n0]
 refine(show W8 _ _ (if((es.size:Nat):Int) >= 2 ^ 63 then _ else _) _ _ _ from ?_);rw[if_neg n1]
 exact W9 (wpAny_mkInt (Xe ⟨_,rfl,h⟩))
end
section
variable {prog:WS} {w:WV} {K:Type} [DecidableEq K] {knd:HeapKind prog w K} {A:WO} {E:WU->WT->Prop} {s:WT} {d a:WN} {xs:List (K×WN×WU)} {k:K}
end
section
variable {prog:WS} {w:WV} {A:WO} {E:WU->WT->Prop} {s:WT}
theorem w8{b:DictEntry->PUnit->Sem (ForInStep PUnit)}{Q:PUnit->WT->Prop}:∀{l:List DictEntry},(∀e∈l,∀Q':ForInStep PUnit->WT->Prop,Q' (.yield PUnit.unit) s->W8 (model prog w) A (b e PUnit.unit) Q' E s)->Q PUnit.unit s->W8 (model prog w) A (forIn l PUnit.unit b) Q E s
 | [],_,q=>by rw[List.forIn_nil];exact Xe q
 | e::r,h,q=>by
  rw[List.forIn_cons]
  exact W9 (h e (.head _) _ (w8 (λe' he'=>h e' (.tail _ he')) q))
theorem BP{es:List DictEntry}(n:(es.map (·.hash)).Nodup)(c:Int):(es.filter λe=>e.hash == c).length<=1:=by
 induction es with
 | nil=>simp
 | cons e r ih=>
  have n:=List.nodup_cons.mp (show(e.hash::r.map (·.hash)).Nodup from n)
  rw[List.filter_cons]
  by_cases h:(e.hash == c)=true
  ·rw[if_pos h]
   have:(r.filter λe=>e.hash == c)=[]:=List.filter_eq_nil_iff.mpr λy hy q=>n.1 (List.mem_map.mpr ⟨y,hy,by rw[eq_of_beq q,eq_of_beq h]⟩)
   rw[this]
   exact Nat.le_refl 1
  ·rw[if_neg h];exact ih n.2
theorem lJ:typeLookup (.type "tuple") "__eq__"=pure (some (.builtin "tuple.__eq__")):=PySem.F.slot_tuple_eq.lookup
theorem BQ{o:WN}{es:Array DictEntry}{ep:Nat}{Q:WU->WT->Prop}(lo:(o == sysModules)=false)(x:qP s.heap o es ep)(hz:es.size<=W6)(he:es.size≠0)(hn:(es.toList.map (·.hash)).Nodup)(ht:∀e∈es,∃b,e.key= .ref b/\s.TypeIs (.ref b) "tuple")
  (h:∀h',(∃q,h'.get? s.heap.objs.size=some q/\q.cls= .type "dict"/\q.dict=none/\q.slots=#[]/\∃e',q.data= .dict es e')->Heap.SameBut s.heap.objs.size (s.heap.push { cls:=.type "dict",data:=.dict #[] }) h'->Q (.ref s.heap.objs.size) { s with heap:=h' }) :
  W8 (model prog w) A (call (.type "dict") [.ref o]) Q E s:=by
 refine callType_codes (Q₁:=λobj s₁=>obj= .ref s.heap.objs.size/\s₁={ s with heap:=s.heap.push { cls:=.type "dict",data:=.dict #[] } }) F.kt_called_dict (F.kt_typeCall_dict_1 _) F.entry_dict_init (kt_code_dict_new _ ⟨rfl,rfl⟩) ?_
 rintro obj s₁ ⟨rfl,rfl⟩
 obtain⟨q,g1,g2,g3⟩:=x
 have hne:s.heap.objs.size≠o:=λe=>absurd (Heap.lt_size g1) (by rw[e];exact Nat.lt_irrefl _)
 have n1:(s.heap.push { cls:=.type "dict",data:=.dict #[] }).get? s.heap.objs.size=some { cls:=.type "dict",data:=.dict #[] }:=Heap.get?_push_size _ rfl
 have o1:(s.heap.push { cls:=.type "dict",data:=.dict #[] }).get? o=some q:=Heap.get?_push_of_some _ g1
 have tn:Shared.TypeIs { s with heap:=s.heap.push { cls:=.type "dict",data:=.dict #[] } } (.ref s.heap.objs.size) "dict":=⟨_,n1,rfl⟩
 have to:Shared.TypeIs { s with heap:=s.heap.push { cls:=.type "dict",data:=.dict #[] } } (.ref o) "dict":=⟨_,o1,g2⟩
 refine⟨tn,F.args_dict_init_2 _ _,?_⟩
 unfold Builtin.«dict.__init__»
 refine W9 ?_
 unfold Builtin.Dict.selfAndRest
 refine W9 (wpAny_notOrdered_dict tn (show W8 _ _ (pure (s.heap.objs.size,[Value.ref o])) _ _ _ from Xe ?_))
 refine(show W8 _ _ (Builtin.Dict.updateFrom "dict.__init__" s.heap.objs.size (.ref o) [] .none) _ _ _ from ?_)
 unfold Builtin.Dict.updateFrom
 refine W9 (wpAny_typeOf to ?_)
 rw[if_neg (by decide)]
 refine W9 ?_
 unfold Builtin.Dict.merge
 refine W9 ?_
 unfold Builtin.Dict.readDirectly
 refine W9 (wpAny_isInstance to isSubtype_dict_dict ?_)
 simp only[Bool.not_true,Bool.false_eq_true,if_false]
 refine W9 (wpAny_specialOf to F.slot_dict_iter.lookup (Xe ?_))
 simp only[beq_self_eq_true,if_true]
 refine W9 (Xe ?_)
 unfold Builtin.Dict.mergeDict
 rw[if_neg (by simpa using hne)]
 unfold Builtin.Dict.showsAll
 rw[if_neg (by rw[lo];exact Bool.false_ne_true)]
 refine W9 (Xe (W9 (W_ o1 g3 ?_)))
 have few:(decide (es.size<=8)&&es.all λe=>(keyPart e.key).isSome)=false:=by
  rw[Bool.and_eq_false_iff]
  refine .inr ?_
  rw[<-Bool.not_eq_true,Array.all_eq_true]
  intro al
  have:=al 0 (by omega)
  obtain⟨b,e1,_⟩:=ht es[0] (by simp)
  rw[e1] at this
  cases this
 simp only[few,Bool.not_false,if_true]
 refine W9 (W_ n1 rfl ?_)
 simp only[show(#[]:Array DictEntry).isEmpty=true from rfl,if_true]
 refine W9 ?_
 unfold Builtin.Dict.entriesForEmpty
 refine W9 (W_ o1 g3 ?_)
 rw[<-Array.forIn_toList]
 refine W9 (w8 (λe hm Q' q'=>?_) (Xe ?_))
 ·obtain⟨b,e1,e2⟩:=ht e (Array.mem_toList_iff.mp hm)
  rw[e1]
  obtain⟨ob,f1,f2⟩:=e2
  have tb:Shared.TypeIs { s with heap:=s.heap.push { cls:=.type "dict",data:=.dict #[] } } (.ref b) "tuple":=⟨_,Heap.get?_push_of_some _ f1,f2⟩
  unfold Builtin.Dict.quietEq
  refine W9 (W9 (wpAny_specialOf tb lJ (Xe ?_)))
  have nq:(some (Value.builtin "tuple.__eq__") == some (Value.builtin "object.__eq__"))=false:=by decide
  have sz:¬(es.filter (λx=>x.hash == e.hash)).size > 1:=by
   have q1:=BP hn e.hash
   have q2:(es.filter (λx=>x.hash == e.hash)).size=(es.toList.filter (λx=>x.hash == e.hash)).length:=by rw[<-Array.length_toList,Array.toList_filter]
   rw[q2]
   omega
  simp only[nq,Bool.not_false,if_true,if_neg sz]
  exact Xe q'
 ·have ne:es.isEmpty=false:=by simpa [Array.isEmpty] using he
  simp only[ne,Bool.not_false,if_true]
  refine W9 (wpAny_updateDictKeysTo (hz':=by show es.size<=W6+1;omega) n1 rfl (Xe ?_))
  refine(show W8 _ _ (Builtin.Dict.addKeywords s.heap.objs.size [] >>= _) _ _ _ from W9 (Xe (Xe ⟨rfl,h _ ?_ (Heap.SameBut.update ..)⟩)))
  exact⟨_,Heap.get?_update_self _ n1 (Obj.isFreed_of_dict (Obj.data_mapDictKeys rfl _)),rfl,rfl,rfl,_,rfl⟩
end
section
variable {prog:WS} {w:WV} {A:WO} {E:WU->WT->Prop} {s:WT} {d it:WN} {i:Nat} {es:Array DictEntry} {ep:Nat} {ok ov:WU}
end
end J
namespace J
open PySem PySem.Spec PyProof.Rows L2
section
variable {X:Cx}
theorem BR{P:WS}{w:WV}{H:Hp}{h:Heap}{a:WN}{xs:List (List L2.Key×V)}(ok:gX P w H h)(e:Rd H a (.dT xs)) :
  ∃es ep ys,xs.length<=W6/\(a == sysModules)=false/\qP h a es ep/\es.size=xs.length/\KT H xs ys/\es.toList=ys.map (entryOfKey (tupleKind (aM P w)))/\(ys.map (·.1)).Nodup:=by
 obtain⟨z,lo,ys,kt,o,es,ep,g1,g2,g3,g4,g5⟩:=(show bL P w H h a (.dT xs) from Ah ok e)
 have len:es.size=ys.length:=by have:=congrArg List.length g4;simpa using this
 exact⟨es,ep,ys,z,lo,⟨o,g1,g2.1,g3⟩,by rw[len];exact(Paired.length kt).symm,kt,g4,g5⟩
theorem yW:b_ X (.builtin "len") (λxs H Q=>∃a kvs,xs=[.ref a]/\Rd H a (.dT kvs)/\Q (.int kvs.length) H):=by
 intro pins s σ H xs us Q I rs q
 obtain⟨a,kvs,rfl,e,q⟩:=q
 cases rs with
 | cons r rr=>
  cases rr
  cases r
  obtain⟨es,ep,ys,z,lo,raw,sz,_⟩:=BR I.hok e
  refine E4 lo raw (by rw[sz];exact z) ⟨.int kvs.length,H,I.tok _,⟨_,by rw[sz]⟩,q⟩
def kA:Option Ob->Option (List (List L2.Key×Wv))
 | some (.cB kvs)=>some kvs
 | some (.jv kvs)=>some kvs
 | _=>none
theorem lZ{m:Mp}{st:Hs}{H:Hp}{l:Nat}{a:WN}{kvs:List (List L2.Key×Wv)}(S:aK X.K m st H)(ha:m[l]? =some a)(h:kA st[l]? =some kvs):∃xs,Rd H a (.dT xs)/\RelK X.K m H kvs xs:=by
 unfold kA at h
 split at h
 ·rename_i k' e
  cases h
  obtain⟨xs,h1,h2⟩:=(show ∃ys,H a=some (.dT ys)/\RelK X.K m H kvs ys from S.obj _ _ _ ha e)
  exact⟨xs,.inl h1,h2⟩
 ·rename_i k' e
  cases h
  obtain⟨o,xs,h1,h2⟩:=(show ∃o ys,H a=some (.bR o (.dT ys))/\RelK X.K m H kvs ys from S.obj _ _ _ ha e)
  exact⟨xs,.inr ⟨o,h1⟩,h2⟩
 ·cases h
def jS:List Wv->Hs->Re Wv
 | [.ref l],st=>(match kA st[l]? with | some kvs=> .ok (.int kvs.length) st | none=>iW [.ref l] st)
 | ws,st=>iW ws st
theorem E5:bC X (.builtin "len") jS:=by
 obtain⟨r0,c0,k0⟩:=AG (X:=X)
 refine⟨_,yW.or c0,λws vs st H m Q S r p=>?_⟩
 have old:bB X.K m H (iW ws st) Q->r0 vs H Q:=λp=>k0 ws vs st H m Q S r p
 unfold jS at p
 split at p
 ·rename_i l
  cases e:kA st[l]? with
  | none=>rw[e] at p;exact .inr (old p)
  | some kvs=>
   rw[e] at p
   obtain⟨v,rfl,rx⟩:=il r
   unfold af at rx
   obtain⟨a,rfl,ha⟩:=rx
   obtain⟨xs,h1,h2⟩:=lZ (X:=X) S ha e
   refine .inl ⟨a,xs,rfl,h1,?_⟩
   rw[<-h2.length]
   exact p _ m H Ext.refl S mkInt
 ·exact .inr (old p)
def w9(ns:List Int):Int:=reduceHash (Builtin.Tuple.tupleHashOf (ns.map hashInt))
def lu:List (List L2.Key)->Option (List (List Int))
 | []=>some []
 | k::r=>(match kr k,lu r with | some ns,some l=>some (ns::l) | _,_=>none)
theorem tG:∀{ks:List L2.Key}{ns:List Int},kr ks=some ns->ks=ns.map Sum.inl
 | [],ns,e=>by cases e;rfl
 | .inl i::r,ns,e=>by
  unfold kr at e
  cases q:kr r with
  | none=>rw[q] at e;cases e
  | some l=>rw[q] at e;cases e;rw[List.map_cons,<-tG q]
theorem BS{P:WS}{w:WV}{ks:List L2.Key}{ns:List Int}(h:kr ks=some ns):(tupleKind (aM P w)).hash ks=w9 ns:=by
 rw[tG h]
 show reduceHash (Builtin.Tuple.tupleHashOf ((ns.map Sum.inl).map (aM P w).hash))=_
 rw[List.map_map]
 rfl
theorem nI{P:WS}{w:WV}:∀{Sw:List (List L2.Key)}{nss:List (List Int)},lu Sw=some nss->Sw.map (tupleKind (aM P w)).hash=nss.map w9
 | [],nss,e=>by cases e;rfl
 | k::r,nss,e=>by
  unfold lu at e
  cases q1:kr k with
  | none=>rw[q1] at e;cases e
  | some ns=>
   cases q2:lu r with
   | none=>rw[q1,q2] at e;cases e
   | some l=>rw[q1,q2] at e;cases e;rw[List.map_cons,List.map_cons,BS q1,nI q2]
def ir(ks:List (List L2.Key)):Bool:=match lu ks with
 | some nss=>decide ((nss.map w9).Nodup)
 | none=>false
theorem vx:b_ X (.type "dict") (λxs H Q=>∃a kvs,xs=[.ref a]/\Rd H a (.dT kvs)/\kvs≠[]/\((kvs.map (·.1)).map (tupleKind (aM X.prog X.w)).hash).Nodup/\∀p,H p=none->Q (.ref p) (upd H p (.dT kvs))):=by
 intro pins s σ H xs us Q I rs q
 obtain⟨a,kvs,rfl,e,ne,hn,q⟩:=q
 cases rs with
 | cons r rr=>
  cases rr
  cases r
  obtain⟨es,ep,ys,z,lo,raw,sz,kt,g4,g5⟩:=BR I.hok e
  have keys:kvs.map (·.1)=ys.map (·.1):=by
   clear q hn ne g5 g4 e sz z
   induction kt with
   | nil=>rfl
   | cons h t ih=>rw[List.map_cons,List.map_cons,ih,h.1]
  have hs:es.toList.map (·.hash)=(kvs.map (·.1)).map (tupleKind (aM X.prog X.w)).hash:=by
   rw[g4,keys,List.map_map,List.map_map]
   rfl
  have ht:∀e∈es,∃b,e.key= .ref b/\s.TypeIs (.ref b) "tuple":=λe' he=>by
   have:e'∈ys.map (entryOfKey (tupleKind (aM X.prog X.w))):=by rw[<-g4];exact Array.mem_toList_iff.mpr he
   obtain⟨y,hy,rfl⟩:=List.mem_map.mp this
   obtain⟨j,hj⟩:=List.mem_iff_getElem?.mp hy
   obtain⟨x,_,_,hx,_⟩:=vw kt hj
   have kk:=qr (P:=X.prog) (w:=X.w) I.hok hx
   obtain⟨ob,its,n,f1,f2,_⟩:=kk
   exact⟨y.2.1,rfl,ob,f1,f2⟩
  have l0:es.size≠0:=by rw[sz];exact λz0=>ne (List.length_eq_zero_iff.mp z0)
  refine BQ lo raw (by rw[sz];exact z) l0 (by rw[hs];exact hn) ht λh' nw sb=>?_
  obtain⟨o',f1,f2,f3,f4,rP,f5⟩:=nw
  have fr:H s.heap.objs.size=none:=I.hok.fresh (Nat.le_refl _)
  refine⟨.ref s.heap.objs.size,_,I.laid (a:=s.heap.objs.size) (o:=.dT kvs) (t':=s.toks) (λb ob hq=>(sb.2 b (Nat.ne_of_lt (Heap.lt_size hq))).trans (Heap.get?_push_of_some _ hq)) (Nat.le_refl _) ?_,rfl,q _ fr⟩
  refine⟨z,beq_eq_false_iff_ne.mpr (Ne.symm (Nat.ne_of_lt I.big)),ys,kt.keeps λc zs ec=>?_,o',es,rP,f1,⟨f2,f3,f4⟩,f5,g4,g5⟩
  rw[au (bE ec fr)]
  exact ec
def qa:List Wv->Hs->Re Wv
 | [.ref l],st=>(match kA st[l]? with | some kvs=>if kvs.isEmpty=false/\ir (kvs.map (·.1))=true then .ok (.ref st.length) (st++[.cB kvs]) else .bad | none=> .bad)
 | _,_=> .bad
theorem E6:bC X (.type "dict") qa:=⟨_,vx,λws vs st H m Q S r p=>by
 unfold qa at p
 split at p
 ·rename_i l
  cases e:kA st[l]? with
  | none=>rw[e] at p;exact False.elim p
  | some kvs=>
   rw[e] at p
   dsimp only at p
   by_cases c:kvs.isEmpty=false/\ir (kvs.map (·.1))=true
   ·rw[if_pos c] at p
    obtain⟨v,rfl,rx⟩:=il r
    unfold af at rx
    obtain⟨a,rfl,ha⟩:=rx
    obtain⟨xs,h1,h2⟩:=lZ (X:=X) S ha e
    have ne:xs≠[]:=λz=>by
     have:=h2.length
     rw[z] at this
     have c1:=c.1
     rw[List.length_eq_zero_iff.mp this] at c1
     cases c1
    refine⟨a,xs,rfl,h1,ne,?_,λq hq=>?_⟩
    ·have c2:=c.2
     unfold ir at c2
     rw[<-h2.1]
     cases ek:lu (kvs.map (·.1)) with
     | none=>rw[ek] at c2;cases c2
     | some nss=>rw[ek] at c2;rw[nI ek];exact of_decide_eq_true c2
    ·have ex:Ext X.K m H (m++[q]) (upd H q (.dT xs)):=Ext.more.trans (Ext.g_ (.inl hq))
     exact p (.ref q) (m++[q]) _ ex (S.qx hq ⟨xs,aC,h2.mono ex⟩) (by unfold af;exact⟨q,rfl,by rw[<-S.len,List.getElem?_append_right (Nat.le_refl _),Nat.sub_self];rfl⟩)
   ·rw[if_neg c] at p;exact False.elim p
 ·exact False.elim p⟩
end
theorem yX{o:Option V}{u:WU}(r:ml o (some u)):∃v,o=some v/\RelV v u:=by
 cases o with
 | none=>exact(show False from r).elim
 | some v=>exact⟨v,rfl,r⟩
section
variable {X:Cx} {o e f:Expr} {apos cpos:Pos} {td ty tx:TE}
def BU{κ:Type}[DecidableEq κ](kvs:List (κ×Wv))(k:κ):List (κ×Wv):=kvs.filter λkv=>decide (kv.1≠k)
theorem RelK.drop{κ:Type}[DecidableEq κ]{K:PySem.W.Frag}{m:Mp}{H:Hp}(k:κ):∀{kvs:List (κ×Wv)}{xs:List (κ×V)},RelK K m H kvs xs->RelK K m H (BU kvs k) (mH xs k)
 | [],xs,h=>by rw[h.nil_inv];exact RelK.nil
 | p::r,xs,h=>by
  obtain⟨v,t,rfl,h1,h2⟩:=h.cons_inv
  by_cases e:p.1=k
  ·rw[yd e]
   unfold BU
   rw[List.filter_cons,if_neg (by simp[e])]
   exact h2.drop k
  ·rw[ye e]
   unfold BU
   rw[List.filter_cons,if_pos (by simp[e])]
   exact RelK.cons h1 (h2.drop k)
end
structure M0(X:Cx)(o:Expr)(m:Str)(apos cpos:Pos):Prop where
 base:attributeBase o m X.env (eval o X.env)=eval o X.env
 line:(apos.endLine == cpos.line)=true
section
variable {X:Cx} {es':List Expr} {kt:Nat} {pt:Pos}
end
end J
namespace J
open PySem PySem.Spec PyProof.Rows L2
def Sx(K:PySem.W.Frag)(a:WN)(n:Nat):It :=
 ⟨λi H=>∃xs,gZ K H a xs/\xs.length=n/\i < n,λi H x H'=>H'=H/\∀xs,gZ K H a xs->xs[n - 1 - i]? =some x,λi _=>n=i⟩
theorem BV{P:WS}{w:WV}{K:PySem.W.Frag}{tg:Expr}(a it:WN)(n:Nat):Turn P w K tg (Sx K a n) [it] it (λi h=>h.IsRevIter it a ((n:Int) - 1 - i)) where
 mem:=by simp
 obj:=λi h st b hb=>by
  have e:b=it:=by simpa using hb
  subst e
  obtain⟨o,e,c,d⟩:=st
  exact⟨o,e,λv z=>by rw[d] at z;cases z⟩
 keep:=λi h h' st k=>st.at λo e=>k it (by simp) o e
 item:=by
  intro X hP hw hK hc i pins s σ H E I hf st hg
  subst hP hw hK
  obtain⟨xs,hq,hn,hi⟩:=hg
  obtain⟨its,rv,p,hz⟩:=I.list hq
  have hx:xs[n - 1 - i]? =some (xs[n - 1 - i]'(by omega)):=List.getElem?_eq_getElem (by omega)
  obtain⟨u,hu,ru⟩:=rv.get hx
  obtain⟨f0,f1,f2,f3,f4,f5⟩:=hf it (by simp)
  have ei:(n:Int) - 1 - i=((n - 1 - i:Nat):Int):=by omega
  have st2:s.heap.IsRevIter it a ((n - 1 - i:Nat):Int):=by rw[<-ei];exact st
  refine wpAny_pyNext_rev_item st2 p.isList (x:=u) (by simpa using hu) λh' st' sb=>?_
  have st3:h'.IsRevIter it a ((n:Int) - 1 - ((i+1:Nat):Int)):=by
   have e:(n:Int) - 1 - ((i+1:Nat):Int)=((n - 1 - i:Nat):Int) - 1:=by omega
   rw[e];exact st'
  have I1:Inv X pins σ H { s with heap:=h' }:=I.turned (t':=s.toks) (λb o hb e=>(sb.2 b hb).trans e) f0 f1 f3 f4 f5
  obtain⟨o,e,c,d⟩:=id st'
  exact⟨u,rfl,kS (s:={ s with heap:=h' }) e c d (by decide) ⟨_,H,I1,ru,⟨rfl,λys hy=>by rw[I.rQ hy hq];exact hx⟩,st3,λb hb=>(hf b hb).1⟩⟩
 done:=by
  intro X hP hw hK hc i pins s σ H E I hf st hg
  subst hP hw hK
  have hg:n=i:=hg
  obtain⟨f0,f1,f2,f3,f4,f5⟩:=hf it (by simp)
  have st2:s.heap.IsRevIter it a (-1):=by
   have e:(n:Int) - 1 - i= -1:=by omega
   rw[<-e];exact st
  exact wpAny_pyNext_rev_end (I.ok.hd hc) st2 λh' eb=>⟨rfl,I.turned (t':=s.toks) (λb o hb e=>eb b o hb e) f0 f1 f3 f4 f5⟩
 self:=λ_ _ _ _ _ st h=>wpAny_pyIter_revIter st h
section
variable {X:Cx}
def Ql(K:PySem.W.Frag)(ta:TA):TI:=λσ H R=>ta σ H λvs H1=>∃a xs,vs=[.ref a]/\gZ K H1 a xs/\R (Sx K a xs.length) H1
theorem boot_reversed:WY "reversed"=some (.type "reversed"):=by decide+kernel
theorem JH{tg:Expr}{p q:Pos}{l:Expr}{ta:TA}(hg:Gl X "reversed")(hm:X.mg "reversed"=none)(ha:PA X [l] ta)(hst:W7 [l] X.env=[(false,eval l X.env)]) :
  PI X tg (.Call (.Name "reversed" p) [l] [] q) (Ql X.K ta):=by
 intro pins s σ H R I h
 refine Call_ (hV I hg hm boot_reversed (PyProof.Rows.callWith_type1 (aI (ha q pins s σ H _ I h) λus s1 ⟨vs,H1,I1,r1,q1⟩=>?_) hst rfl))
 obtain⟨a,xs,e,hq,k⟩:=q1
 subst e
 cases r1 with
 | cons r rr=>
  cases rr
  cases r
  obtain⟨its,rv,pl,hz⟩:=I1.list hq
  have hl:=rv.length
  refine call_reversed_list pl.isList (wpAny_pyIter_revIter (l:=a) (i:=(xs.length:Int) - 1) ⟨_,Heap.get?_push_size _ rfl,rfl,by simp[revObj,hl]⟩ ?_)
  refine⟨s1.heap.objs.size,[s1.heap.objs.size],_,_,H1,rfl,I1.kept (t':=s1.toks) λb o q=>Heap.get?_push_of_some _ q,BV a _ xs.length,⟨_,Heap.get?_push_size _ rfl,rfl,by simp[revObj,hl]⟩,λb hb=>?_,k⟩
  rw[List.mem_singleton.mp hb]
  exact I1.rT (Nat.le_refl _) (I1.hok.fresh (Nat.le_refl _))
def tH(i:Nat)(ga:GA)(gb:GS):GS:=λρ st=>(ga ρ st).aI ρ λws st1=>match ws with
 | [.ref l]=>(match ag st1 l with | some all=>forL i gb l all all.reverse ρ st1 | none=> .bad)
 | _=> .bad
theorem E7(i:Nat){x:Str}{l:Expr}{body:List Stmt}{ga:GA}{gb:GS}{pos pos' p q:Pos}(hN:X.N.Nodup)(hp:PassesOwn (model X.prog X.w) X.A X.env X.xe)(hc:X.calm=true)(hg:Gl X "reversed")(hm:X.mg "reversed"=none)(ha:JA X [l] ga)(hst:W7 [l] X.env=[(false,eval l X.env)])(hb:i7 X body gb)
  (hx:X.N[i]? =some x)(hlo:Loc X.env.scope x)(hf:X.fn x=true\/X.env.scope.names.lookup x=some .local):JS X (.For (.Name x pos') (.Call (.Name "reversed" p) [l] [] q) body [] pos) (tH i ga gb):=by
 refine JS.of (j7 hp hc (JH hg hm i6 hst) (jz hN hx hlo hf) cC (λ_=>rfl)) λρ st σ H m D S R p=>?_
 refine ha.go S R (av.bF R p) λws st1 vs m1 H1 p1 e1 S1 rs=>?_
 match ws,rs,p1 with
 | [],rs,p1=>exact False.elim p1
 | x::y::t,rs,p1=>cases x<;>exact False.elim p1
 | [w],rs,p1=>
  obtain⟨v,rfl,rw'⟩:=il rs
  cases w with
  | ref l=>
   have p1':av X m H (match ag st1 l with | some all=>forL i gb l all all.reverse ρ st1 | none=> .bad) D:=p1
   unfold af at rw'
   obtain⟨a,rfl,hla⟩:=rw'
   cases el:ag st1 l with
   | none=>rw[el] at p1';exact False.elim p1'
   | some ws=>
    rw[el] at p1'
    obtain⟨Ef,q0,r0⟩:=S1.read hla el
    refine⟨a,Ef,rfl,q0,?_⟩
    have len0:ws.length=Ef.length:=r0.length
    have lr:ws.reverse.length=ws.length:=List.length_reverse
    let Pv:Nat->St->Hp->Prop:=λk σ H=>∃ρ st m',Ext X.K m1 H1 m' H/\aK X.K m' st H/\aq X.K m' H ρ σ/\ag st l=some ws/\av X m' H (forL i gb l ws (ws.reverse.drop k) ρ st) D
    refine⟨λk n σ H=>n=ws.length - k/\k<=ws.length/\Pv k σ H,⟨ws.length,by simp,Nat.zero_le _,ρ,st1,m1,Ext.refl,S1,R.mono e1,el,av.shift p1' e1⟩,?_⟩
    rintro k n σ2 H2 ⟨rfl,hk,ρ2,st2,m2,e2,S2,R2,l2,p2⟩
    obtain⟨xs,hq,rws⟩:=S2.read (e2.pre _ _ hla) l2
    have hlen:=rws.length
    by_cases hlt:k < ws.length
    ·have hlt':k < ws.reverse.length:=by omega
     refine .inr ⟨⟨xs,hq,by omega,by omega⟩,Pv (k+1),λσ' H' p'=>⟨ws.length - (k+1),by omega,rfl,hlt,p'⟩,λx H' y=>?_⟩
     obtain⟨ee,y⟩:=y
     subst ee
     have ey:=y xs hq
     have ed:ws.reverse.drop k=ws.reverse[k]::ws.reverse.drop (k+1):=List.drop_eq_getElem_cons hlt'
     have U5:ws.reverse[k]=ws[ws.length - 1 - k]'(by omega):=by rw[List.getElem_reverse]
     obtain⟨x',ex',j9⟩:=rws.get (i:=ws.length - 1 - k) (w:=ws[ws.length - 1 - k]'(by omega)) (List.getElem?_eq_getElem (by omega))
     rw[<-len0,ex'] at ey
     cases ey
     rw[ed,U5] at p2
     refine hb _ st2 _ _ m2 _ S2 (R2.set i j9) ?_
     unfold forL at p2
     cases eg:gb (ρ2.set i (some (ws[ws.length - 1 - k]'(by omega)))) st2 with
     | nx ρ3 st3=>
      rw[eg] at p2
      by_cases c:ag st3 l=some ws
      ·simp only[if_pos c] at p2
       exact λσ3 m3 H3 e3 S3 R3=>⟨ρ3,st3,m3,e2.trans e3,S3,R3,c,av.shift p2 e3⟩
      ·simp only[if_neg c] at p2;exact False.elim p2
     | ct ρ3 st3=>
      rw[eg] at p2
      by_cases c:ag st3 l=some ws
      ·simp only[if_pos c] at p2
       exact λσ3 m3 H3 e3 S3 R3=>⟨ρ3,st3,m3,e2.trans e3,S3,R3,c,av.shift p2 e3⟩
      ·simp only[if_neg c] at p2;exact False.elim p2
     | bk ρ3 st3=>rw[eg] at p2;exact p2
     | rt w3 st3=>rw[eg] at p2;exact p2
     | err c3 ρ3 st3=>rw[eg] at p2;exact p2
     | bad=>rw[eg] at p2;exact p2
    ·have e:k=ws.length:=by omega
     subst e
     rw[<-lr,List.drop_length] at p2
     exact .inl ⟨by show Ef.length=ws.length;omega,p2 σ2 m2 H2 Ext.refl S2 R2⟩
  | _=>exact False.elim p1
end
end J
namespace J
open PySem PySem.Spec PyProof.Rows L2
section
variable {prog:WS} {w:WV} {K:Type} [DecidableEq K] {knd:HeapKind prog w K} {A:WO} {E:WU->WT->Prop} {s:WT} {a b:WN} {xs ys:List (K×WN×WU)}
theorem qb{id:String}{f:K->Bool}{Q:Bool->WT->Prop}(hu:knd.room A)(la:(a == sysModules)=false)(lb:(b == sysModules)=false)(hA:s.heap.DictOfH knd a xs)(hB:s.heap.DictOfH knd b ys)
  (hf:∀x∈xs,∀y∈ys,x.1=y.1->∀Q:Bool->WT->Prop,Q (f x.1) s->W8 (model prog w) A (eqBool x.2.2 y.2.2) Q E s)
  (hQ:Q (decide (xs.length=ys.length)&&xs.all λx=>(atKey ys x.1).isSome&&f x.1) s):W8 (model prog w) A (Builtin.Dict.samePairs id a b) Q E s:=by
 obtain⟨oa,ea,U6,a1,a2,a3,a4,a5,a6⟩:=hA
 obtain⟨ob,eb,WH,b1,b2,b3,b4,b5,b6⟩:=hB
 have za:ea.size=xs.length:=size_of_entries a4
 have zb:eb.size=ys.length:=size_of_entries b4
 unfold Builtin.Dict.samePairs Builtin.Dict.showsAll
 rw[if_neg (by rw[la];exact Bool.false_ne_true),if_neg (by rw[lb];exact Bool.false_ne_true)]
 refine W9 (Xe (W9 (Xe (W9 (W_ a1 a3 (W9 (W_ b1 b3 ?_)))))))
 by_cases hl:xs.length=ys.length
 ·rw[if_neg (by rw[za,zb,hl];simp)]
  rw[decide_eq_true hl,Bool.true_and] at hQ
  refine W9 (wpAny_dictEpoch a1 a3 (W9 ?_))
  rw[Std.Legacy.Range.forIn_eq_forIn_range']
  simp only[Std.Legacy.Range.size,Nat.sub_zero,Nat.add_sub_cancel,Nat.div_one]
  generalize hg:(λx:K×WN×WU=>(atKey ys x.1).isSome&&f x.1)=g at hQ
  refine wpAny_forIn_list _ (λrest st s'=>s'=s/\st=(none,())/\∃i,rest=List.range' i (xs.length - i)/\i<=xs.length/\xs.all g=(xs.drop i).all g) _ ?_ ?_ _ _ ⟨rfl,rfl,0,by rw[za,Nat.sub_zero],Nat.zero_le _,rfl⟩
  ·rintro x rest st s' ⟨rfl,rfl,i,hr,hi,hall⟩
   have hlt:i < xs.length:=by
    rcases Nat.lt_or_ge i xs.length with h | h
    ·exact h
    ·rw[Nat.sub_eq_zero_of_le h] at hr;simp at hr
   obtain⟨rfl,hrest⟩:x=i/\rest=List.range' (i+1) (xs.length - (i+1)):=by
    have e:xs.length - i=(xs.length - (i+1))+1:=by omega
    rw[e,List.range'_succ] at hr
    injection hr with h1 h2
    exact⟨h1,h2⟩
   rw[List.drop_eq_getElem_cons hlt,List.all_cons] at hall
   have hm:xs[x]∈xs:=List.getElem_mem hlt
   refine W9 (W_ a1 a3 ?_)
   rw[entry_at a4 x,List.getElem?_eq_getElem hlt]
   refine W9 (W' ?_)
   have next:xs.all g=(xs.drop (x+1)).all g->∀Q':ForInStep (Option Bool×Unit)->WT->Prop,Q' (.yield (none,())) s'->W8 (model prog w) A (do
     let rP <-dictEpoch a
     if(rP != U6)=true then do
       (unsupported (toString id++toString ":changed-during-callback"):Sem PUnit)
       pure (ForInStep.yield (none,()))
      else pure (ForInStep.yield (none,()))) Q' E s':=λ_ Q' q'=>by
    refine W9 (wpAny_dictEpoch a1 a3 ?_)
    rw[if_neg (by simp)]
    exact Xe q'
   refine W9 (wpAny_dictFind_heap (k:=xs[x].1) hu (a5 _ hm) b1 b3 b4 b5 b6 (λno=>Xe ?_) λj p hj=>?_)
   ·simp only[Bool.not_false,if_true]
    have gf:g xs[x]=false:=by rw[<-hg];simp only[atKey_none_of_get no];rfl
    rw[gf,Bool.false_and] at hall
    rw[hall] at hQ
    exact Xe (Xe hQ)
   ·refine W9 (W_ b1 b3 ?_)
    rw[entry_at b4 j,hj]
    refine W' (hf _ hm _ (List.mem_of_getElem? hj) rfl _ ?_)
    have gf:g xs[x]=f xs[x].1:=by rw[<-hg];simp only[atKey_of_get b6 hj];rfl
    cases hv:f xs[x].1 with
    | false=>
     simp only[Bool.not_false,if_true]
     rw[gf,hv,Bool.false_and] at hall
     rw[hall] at hQ
     exact Xe (Xe hQ)
    | true=>
     simp only[Bool.not_true,Bool.false_eq_true,if_false]
     rw[gf,hv,Bool.true_and] at hall
     exact next hall _ ⟨rfl,rfl,x+1,hrest,hlt,hall⟩
  ·rintro st s' ⟨rfl,rfl,i,hr,hi,hall⟩
   have h0:xs.length - i=0:=by
    have:=congrArg List.length hr
    simpa using this.symm
   rw[List.drop_of_length_le (by omega),List.all_nil] at hall
   rw[hall] at hQ
   exact Xe hQ
 ·rw[if_pos (by rw[za,zb];simpa using hl)]
  rw[decide_eq_false hl,Bool.false_and] at hQ
  exact W9 (wpAny_rule (Xe hQ))
end
section
variable {prog:WS} {w:WV} {K:Type} [DecidableEq K] {knd:HeapKind prog w K} {A:WO} {E:WU->WT->Prop} {s:WT} {a b:WN} {xs ys:List (K×WN×WU)}
theorem E8{f:K->Bool}{Q:WU->WT->Prop}(hr:A.units < cLine)(hu:knd.room A.in1)(la:(a == sysModules)=false)(lb:(b == sysModules)=false)(hA:s.heap.DictOfH knd a xs)(hB:s.heap.DictOfH knd b ys)
  (hf:∀E:WU->WT->Prop,∀x∈xs,∀y∈ys,x.1=y.1->∀Q:Bool->WT->Prop,Q (f x.1) s->W8 (model prog w) A.in1 (eqBool x.2.2 y.2.2) Q E s)
  (hQ:Q (.bool (decide (xs.length=ys.length)&&xs.all λx=>(atKey ys x.1).isSome&&f x.1)) s):W8 (model prog w) A (W2 .Eq (.ref a) (.ref b)) Q E s:=by
 have tA:s.TypeIs (.ref a) "dict":=hA.typeIs
 have tB:s.TypeIs (.ref b) "dict":=hB.typeIs
 refine(show W8 (model prog w) A (richCompare .Eq (.ref a) (.ref b)) Q E s from wpAny_richCompare_same_room tA tB PySem.F.slot_dict_eq (wpAny_call_entry PySem.F.slot_dict_eq tA PySem.F.entry_dict_eq ?_ (PySem.F.args_dict_eq_2 _ _)) hr)
 refine(show W8 _ _ (Builtin.Dict.dictSlotArgs "__eq__" ⟨[.ref a,.ref b],[]⟩ >>= _) _ _ s from W9 ?_)
 unfold Builtin.Dict.dictSlotArgs
 refine W9 (wpAny_notOrdered_dict tA (show W8 _ _ (pure (Value.ref a,Value.ref b)) _ _ s from Xe ?_))
 refine W9 (wpAny_isInstance tB isSubtype_dict_dict ?_)
 simp only[Bool.not_true,Bool.false_eq_true,if_false]
 refine W9 (Xe (W9 (Xe (W9 (qb hu la lb hA hB (hf _) ?_)))))
 refine Xe ⟨_,rfl,(λz=>nomatch z),?_⟩
 rw[show ∀c:Bool,(c == true)=c from by decide]
 exact hQ
theorem slot_dict_ne:Slot "dict" (cmpInfo .NotEq).2.1 "dict.__ne__" :=
 .of (owner:="dict") (n:="__ne__") (by rw[typeLookup_type,builtinLookup_eq_fast];kernel_rfl) (by decide+kernel) (by decide+kernel) (by decide+kernel) (by first | exact .inl (by decide+kernel) | exact .inr (by decide+kernel)) (by rw[W4];kernel_rfl)
theorem entry_dict_ne:entryFor table "dict.__ne__"=some Builtin.«dict.__ne__»:=entryFor_of_tree (by kernel_rfl)
theorem args_dict_ne_2(a b:WU):argsOk "dict.__ne__" ⟨[a,b],[]⟩:=by
 unfold argsOk;rw[signature?_of (id:="dict.__ne__") (n:=['_','_','e','n','_','_']) (o:=['t','c','i','d']) (by kernel_rfl) PySem.F.owner_dict];kernel_rfl
theorem E9{f:K->Bool}{Q:WU->WT->Prop}(hr:A.units < cLine)(hu:knd.room A.in1)(la:(a == sysModules)=false)(lb:(b == sysModules)=false)(hA:s.heap.DictOfH knd a xs)(hB:s.heap.DictOfH knd b ys)
  (hf:∀E:WU->WT->Prop,∀x∈xs,∀y∈ys,x.1=y.1->∀Q:Bool->WT->Prop,Q (f x.1) s->W8 (model prog w) A.in1 (eqBool x.2.2 y.2.2) Q E s)
  (hQ:Q (.bool (!(decide (xs.length=ys.length)&&xs.all λx=>(atKey ys x.1).isSome&&f x.1))) s):W8 (model prog w) A (W2 .NotEq (.ref a) (.ref b)) Q E s:=by
 have tA:s.TypeIs (.ref a) "dict":=hA.typeIs
 have tB:s.TypeIs (.ref b) "dict":=hB.typeIs
 refine(show W8 (model prog w) A (richCompare .NotEq (.ref a) (.ref b)) Q E s from wpAny_richCompare_same_room tA tB slot_dict_ne (wpAny_call_entry slot_dict_ne tA entry_dict_ne ?_ (args_dict_ne_2 _ _)) hr)
 refine(show W8 _ _ (Builtin.Dict.dictSlotArgs "__ne__" ⟨[.ref a,.ref b],[]⟩ >>= _) _ _ s from W9 ?_)
 unfold Builtin.Dict.dictSlotArgs
 refine W9 (wpAny_notOrdered_dict tA (show W8 _ _ (pure (Value.ref a,Value.ref b)) _ _ s from Xe ?_))
 refine W9 (wpAny_isInstance tB isSubtype_dict_dict ?_)
 simp only[Bool.not_true,Bool.false_eq_true,if_false]
 refine W9 (Xe (W9 (Xe (W9 (qb hu la lb hA hB (hf _) ?_)))))
 refine Xe ⟨_,rfl,(λz=>nomatch z),?_⟩
 rw[show ∀c:Bool,(c == false)= !c from by decide]
 exact hQ
end
abbrev JJ:=List (List L2.Key×Wv)
def kC(st:Hs)(kvs:JJ):Bool:=kvs.all λkv=>(aL st 20 kv.2).isSome
def Gx(st:Hs)(k1 k2:JJ)(k:List L2.Key):Bool:=match dm k1 k,dm k2 k with
 | some v,some w=>(match aL st 20 v,aL st 20 w with | some a,some b=>PyData.eqv a b | _,_=>false)
 | _,_=>false
def lx(st:Hs)(k1 k2:JJ):Bool:=decide (k1.length=k2.length)&&(k1.map (·.1)).all λk=>(dm k2 k).isSome&&Gx st k1 k2 k
def Qm(K:PySem.W.Frag)(neg:Bool):R2:=λa b H Q=>∃m st p q k1 k2 l1 l2,aK K m st H/\a= .ref p/\b= .ref q/\Rd H p (.dT l1)/\Rd H q (.dT l2)/\RelK K m H k1 l1/\RelK K m H k2 l2/\kC st k1=true/\kC st k2=true/\Q (.bl (if neg then !lx st k1 k2 else lx st k1 k2)) H
theorem BW{H:Hp}:∀{xs:List (List L2.Key×V)}{ys:List (List L2.Key×WN×WU)},KT H xs ys->xs.map (·.1)=ys.map (·.1)
 | _,_,.nil=>rfl
 | _,_,.cons h t=>by rw[List.map_cons,List.map_cons,BW t,h.1]
theorem tI{κ:Type}[DecidableEq κ]{k:κ}{w:Wv}:∀{kvs:List (κ×Wv)},dm kvs k=some w->(k,w)∈kvs
 | [],e=>by cases e
 | p::r,e=>by
  unfold dm at e
  by_cases h:p.1=k
  ·rw[if_pos h] at e
   cases e
   rw[<-h]
   exact List.mem_cons_self
  ·rw[if_neg h] at e
   exact List.mem_cons_of_mem _ (tI e)
section
variable {X:Cx}
theorem w_{m:Mp}{st:Hs}{H:Hp}{kvs:JJ}{xs:List (List L2.Key×V)}{ys:List (List L2.Key×WN×WU)}{k:List L2.Key}{p:WN×WU}(r:RelK X.K m H kvs xs)(kt:KT H xs ys)(nd:(ys.map (·.1)).Nodup)(hd:kC st kvs=true)(h:(k,p)∈ys) :
  ∃w v d,dm kvs k=some w/\af X.K m H w v/\RelV v p.2/\aL st 20 w=some d:=by
 obtain⟨j,hj⟩:=List.mem_iff_getElem?.mp h
 have ak:=atKey_of_get nd hj
 have vl:=kt.val k
 rw[ak] at vl
 obtain⟨v,ev,rv⟩:=yX vl
 obtain⟨i1,i2⟩:=r.val k
 cases e:dm kvs k with
 | none=>rw[i1 e] at ev;cases ev
 | some w=>
  obtain⟨u,j1,j2⟩:=i2 w e
  rw[ev] at j1
  cases j1
  obtain⟨d,e2⟩:=Option.isSome_iff_exists.mp (List.all_eq_true.mp hd _ (tI e))
  exact⟨w,v,d,rfl,j2,rv,e2⟩
theorem tJ{m:Mp}{st:Hs}{H:Hp}{k1 k2:JJ}{l1 l2:List (List L2.Key×V)}{y1 y2:List (List L2.Key×WN×WU)}(r1:RelK X.K m H k1 l1)(r2:RelK X.K m H k2 l2)(t1:KT H l1 y1)(t2:KT H l2 y2) :
  (decide (y1.length=y2.length)&&y1.all λx=>(atKey y2 x.1).isSome&&Gx st k1 k2 x.1)=lx st k1 k2:=by
 have e1:y1.length=k1.length:=by rw[<-Paired.length t1,r1.length]
 have e2:y2.length=k2.length:=by rw[<-Paired.length t2,r2.length]
 have ks:k1.map (·.1)=y1.map (·.1):=by rw[r1.1,BW t1]
 have at2:∀k,(atKey y2 k).isSome=(dm k2 k).isSome:=λk=>by
  have q:=(t2.val k).pz
  rw[Option.isSome_map] at q
  rw[<-q]
  obtain⟨i1,i2⟩:=r2.val k
  cases e:dm k2 k with
  | none=>rw[i1 e];rfl
  | some w=>obtain⟨u,j1,_⟩:=i2 w e;rw[j1];rfl
 unfold lx
 rw[e1,e2,ks,List.all_map]
 congr 1
 refine List.all_congr rfl λx=>?_
 show((atKey y2 x.1).isSome&&Gx st k1 k2 x.1)=((dm k2 x.1).isSome&&Gx st k1 k2 x.1)
 rw[at2]
theorem BX(neg:Bool)(hu:X.A.units+64 < cLine):cH X (W2 (if neg then .NotEq else .Eq)) (Qm X.K neg):=by
 intro pins s σ H a b v u Q I rx ry h
 obtain⟨m,st,p,q,k1,k2,l1,l2,S,rfl,rfl,d1,d2,r1,r2,h1,h2,hq⟩:=h
 cases rx
 cases ry
 obtain⟨z1,lo1,y1,t1,D1⟩:=pB I.hok d1
 obtain⟨z2,lo2,y2,t2,D2⟩:=pB I.hok d2
 have n1:(y1.map (·.1)).Nodup:=let ⟨_,_,_,_,_,_,_,_,n⟩:=D1;n
 have n2:(y2.map (·.1)).Nodup:=let ⟨_,_,_,_,_,_,_,_,n⟩:=D2;n
 have hf:∀E:WU->WT->Prop,∀x∈y1,∀y∈y2,x.1=y.1->∀Q:Bool->WT->Prop,Q (Gx st k1 k2 x.1) s->W8 (model X.prog X.w) X.A.in1 (eqBool x.2.2 y.2.2) Q E s:=λE x hx y hy e Q' q'=>by
  obtain⟨w,v,dw,a1,a2,a3,a4⟩:=w_ (k:=x.1) (p:=x.2) (st:=st) r1 t1 n1 h1 hx
  obtain⟨w',v',Oa,b1,b2,b3,b4⟩:=w_ (k:=y.1) (p:=y.2) (st:=st) r2 t2 n2 h2 hy
  rw[<-e] at b1
  obtain⟨as,q1,q2,q3⟩:=cj I S 20 w v _ dw a2 a3 a4
  obtain⟨bs,p1,p2,p3⟩:=cj I S 20 w' v' _ Oa b2 b3 b4
  have ee:Gx st k1 k2 x.1=PyData.eqv dw Oa:=by unfold Gx;rw[a1,b1];dsimp only;rw[a4,b4]
  rw[ee] at q'
  exact SeqAt.eqBoolOverData X.prog X.w X.A.in1 E s _ _ dw Oa as bs Q' q1 p1 q2 p2 (by
   have:X.A.in1.units=X.A.units+1:=rfl
   have:min dw.depth Oa.depth<=dw.depth:=Nat.min_le_left _ _
   omega) q'
 cases neg with
 | false=>
  refine E8 (by omega) (tupleKind_room_in1 (by omega)) lo1 lo2 D1 D2 hf ?_
  rw[tJ r1 r2 t1 t2]
  exact⟨.bl _,H,I,rfl,hq⟩
 | true=>
  refine E9 (by omega) (tupleKind_room_in1 (by omega)) lo1 lo2 D1 D2 hf ?_
  rw[tJ r1 r2 t1 t2]
  exact⟨.bl _,H,I,rfl,hq⟩
def nJ(st:Hs):Wv->Option JJ
 | .ref l=>kA st[l]?
 | _=>none
def vy:dj:=λx y st=>match nJ st x,nJ st y with
 | some k1,some k2=>if kC st k1=true/\kC st k2=true then .ok (.bl (lx st k1 k2)) st else .bad
 | _,_=>oEq x y st
def yY:dj:=λx y st=>match nJ st x,nJ st y with
 | some k1,some k2=>if kC st k1=true/\kC st k2=true then .ok (.bl (!lx st k1 k2)) st else .bad
 | _,_=>sj x y st
theorem l8{m:Mp}{st:Hs}{H:Hp}{x:Wv}{a:V}{kvs:JJ}(S:aK X.K m st H)(r:af X.K m H x a)(h:nJ st x=some kvs):∃p l,a= .ref p/\Rd H p (.dT l)/\RelK X.K m H kvs l:=by
 cases x with
 | ref j=>
  unfold af at r
  obtain⟨p,rfl,hp⟩:=r
  obtain⟨l,h1,h2⟩:=lZ (X:=X) S hp h
  exact⟨p,l,rfl,h1,h2⟩
 | _=>cases h
theorem BY(hu:X.A.units+64 < cLine):fR X (W2 .Eq) vy:=by
 obtain⟨r0,c0,k0⟩:=Ge (X:=X) hu
 refine⟨_,cH.or (BX (X:=X) false hu) c0,λx y a b st H m Q S rx ry p=>?_⟩
 unfold vy at p
 cases e1:nJ st x with
 | none=>rw[e1] at p;exact .inr (k0 x y a b st H m Q S rx ry p)
 | some k1=>
  cases e2:nJ st y with
  | none=>rw[e1,e2] at p;exact .inr (k0 x y a b st H m Q S rx ry p)
  | some k2=>
   rw[e1,e2] at p
   dsimp only at p
   by_cases c:kC st k1=true/\kC st k2=true
   ·rw[if_pos c] at p
    obtain⟨p1,l1,rfl,d1,r1⟩:=l8 (X:=X) S rx e1
    obtain⟨p2,l2,rfl,d2,r2⟩:=l8 (X:=X) S ry e2
    exact .inl ⟨m,st,p1,p2,k1,k2,l1,l2,S,rfl,rfl,d1,d2,r1,r2,c.1,c.2,p _ m H Ext.refl S fG⟩
   ·rw[if_neg c] at p;exact False.elim p
theorem BZ(hu:X.A.units+64 < cLine):fR X (W2 .NotEq) yY:=by
 obtain⟨r0,c0,k0⟩:=Gf (X:=X) hu
 refine⟨_,cH.or (BX (X:=X) true hu) c0,λx y a b st H m Q S rx ry p=>?_⟩
 unfold yY at p
 cases e1:nJ st x with
 | none=>rw[e1] at p;exact .inr (k0 x y a b st H m Q S rx ry p)
 | some k1=>
  cases e2:nJ st y with
  | none=>rw[e1,e2] at p;exact .inr (k0 x y a b st H m Q S rx ry p)
  | some k2=>
   rw[e1,e2] at p
   dsimp only at p
   by_cases c:kC st k1=true/\kC st k2=true
   ·rw[if_pos c] at p
    obtain⟨p1,l1,rfl,d1,r1⟩:=l8 (X:=X) S rx e1
    obtain⟨p2,l2,rfl,d2,r2⟩:=l8 (X:=X) S ry e2
    exact .inl ⟨m,st,p1,p2,k1,k2,l1,l2,S,rfl,rfl,d1,d2,r1,r2,c.1,c.2,p _ m H Ext.refl S fG⟩
   ·rw[if_neg c] at p;exact False.elim p
end
end J
namespace J
open PySem PySem.Spec PyProof.Rows L2 PySem.W
section
variable {X:Cx}
theorem yZ(hc:X.calm=true){pins:List (WN×Obj)}{s:WT}{σ:L2.St}{H:Hp}{p:WN}{ns:List Int}{Q:VK}{dn:Int}{dv:WU}(rd:RelV (.int dn) dv)(I:L2.Inv X pins σ H s)(hq:gZ X.K H p (ns.map V.int))(q:∀v:V,(ns=[]/\v= .int dn)\/(∃n r,ns=n::r/\v= .int (fm n r))->Q v H) :
  W8 (model X.prog X.w) X.A (call (.builtin "max") [.ref p] [(Str.ofString "default",dv)]) (EP X pins σ Q) X.xe s:=by
 obtain⟨its,r',pl,hz⟩:=I.list hq
 obtain⟨xs,rfl,e0⟩:=dN r'
 have hl:=pl.isList
 have e:(xs.map λp=>Value.int p.1 p.2).toArray=intItems xs.toArray:=by unfold intItems;simp
 rw[e] at hl
 have hlen:xs.length=ns.length:=by rw[<-e0];simp
 have hnum:=λi=>eG xs i
 rw[e0] at hnum
 have hh:X.A.handled=none:=I.ok.hd hc
 have nm:(toString "max"++toString ".loop":String)="max.loop":=by decide
 refine kmk_tree F.kind_max F.plain_max F.entry_max (sT _ _) ?_
 show W8 _ X.A.in1 (Builtin.Builtins.bindParams "max" ["key","default"] 0 ⟨[],[(Str.ofString "default",dv)]⟩ >>= _) _ _ s
 refine W9 (wpAny_of_eq (show Builtin.Builtins.bindParams "max" ["key","default"] 0 ⟨[],[(Str.ofString "default",dv)]⟩=pure [none,some dv] from rfl) (W9 (Xe ?_)))
 refine W9 (iter_intList hl λs₂ e2 st hfp hlI=>?_)
 subst e2
 refine W9 (Xd ?_)
 rw[nm]
 have W:=Walks.list (prog:=X.prog) (w:=X.w) (A:=X.A.in1) hh _ p hlI (intItems xs.toArray)
 refine Xe ⟨plainId_quiet F.plain_max_loop _,pT W _ (CmpOf.ints_gt (numAt xs.toArray) (λ_ _=>intItems_at)) (λhm=>Nat.lt_irrefl _ (hfp _ hm)) _ 0 _ [] 0 rfl (Nat.zero_le _) (W.frame _ _ _ st λb _ o e=>Heap.get?_push_of_some _ e) (.inl ⟨rfl,rfl⟩) (Heap.get?_push_size _ rfl) λv h' tk hv hk=>?_⟩
 have kp:∀b o,s.heap.get? b=some o->h'.get? b=some o:=λb o e=>by
  have e3:(s.heap.push { cls:=.type "list_iterator",data:=.fields #[.ref p,.int 0 0] }).get? b=some o:=Heap.get?_push_of_some _ e
  exact hk b o (by intro z;simp at z;subst z;exact Nat.lt_irrefl _ (Heap.lt_size e)) (Nat.ne_of_lt (Heap.lt_size e3)) (Heap.get?_push_of_some _ e3)
 have hsz:(intItems xs.toArray).size=ns.length:=by simp[intItems,hlen]
 rcases hv with ⟨n0,rfl⟩ | ⟨i,n1,hv⟩
 ·exact⟨.int dn,H,I.kept kp,rd,q _ (.inl ⟨List.length_eq_zero_iff.mp (by omega),rfl⟩)⟩
 ·obtain⟨t,rfl⟩:=intItems_at hv
  cases ns with
  | nil=>rw[hsz] at n1;cases n1
  | cons n r=>
   refine⟨.int (fm n r),H,I.kept kp,⟨t,?_⟩,q _ (.inr ⟨n,r,rfl,rfl⟩)⟩
   obtain⟨h1,h2⟩:=PySem.argBest_gt (numAt xs.toArray) i
   congr 1
   have hr:(n::r).length=i+1:=by omega
   refine pR ?_ λa ha=>?_
   ·rw[hnum]
    exact fZ (by omega)
   ·obtain⟨j,hj,rfl⟩:=List.mem_iff_getElem.mp ha
    have q2:=h2 j (by omega)
    rw[hnum j,List.getD_eq_getElem?_getD,List.getElem?_eq_getElem hj] at q2
    exact q2
def Qn(dn:Int):List Int->Int
 | []=>dn
 | n::r=>fm n r
def qc(dn:Int):List Wv->Hs->Re Wv
 | [.ref l],st=>match ag st l with
  | some ws=>(match intsOf ws with | some ns=> .ok (.int (Qn dn ns)) st | none=> .bad)
  | none=> .bad
 | _,_=> .bad
theorem E_{dn:Int}{g:GA}{p pos kp cp:Pos}{e:Expr}{kk:Nat}(hc:X.calm=true)(hg:Gl X "max")(hm:X.mg "max"=none)(ha:JA X [e] g)(hv:WY "max"=some (.builtin "max"))
  (he:W7 [e] X.env=[(false,eval e X.env)]):JE X (.Call (.Name "max" p) [e] [⟨some (Str.ofString "default"),.Constant (.int dn) kk cp,kp⟩] pos) (ar (qc dn) g):=by
 intro ρ st σ H m Q S R pp pins s I
 have args:=ha.go (T:=λvs H1=>∃ws st1 m1,ao X σ m H (qc dn ws st1).gw (Ih X.K m H Q)/\Ext X.K m H m1 H1/\aK X.K m1 st1 H1/\ah X.K m1 H1 ws vs) S R (ao.bind pp)
  λws st1 vs m1 H1 p1 e1 S1 rs=>⟨ws,st1,m1,p1,e1,S1,rs⟩
 refine wpAny_Call_Name_kw (hV I hg hm hv ?_ (by decide) (by decide))
 refine callWith_kw (aI (args pos pins s I) λus s1 ⟨vs,H1,I1,r,ws,st1,m1,p1,e1,S1,rs⟩=>?_) (by rw[he];rfl) (by rw[he];rfl)
 have kwd:=wc (nm:=some (Str.ofString "default")) (kpos:=kp) (X:=X) (zF (i:=dn) (j:=kk) (pos:=cp)) zX pos pins s1 σ H1 (λzs H2=>zs=[.int dn]/\H2=H1) I1 ⟨rfl,rfl⟩
 refine aI kwd λzs s2 ⟨ys,H2,I2,rz,ez,eH⟩=>?_
 subst ez
 subst eH
 obtain⟨u,rfl,ru⟩:=vals1 rz
 have p2:=bB.shift (ao.gw p1) e1
 match ws,rs,p2 with
 | [],rs,p=>exact False.elim p
 | x::y::t,rs,p=>cases x<;>exact False.elim p
 | [x],rs,p=>
  obtain⟨v,rfl,r1⟩:=il rs
  cases x with
  | ref l=>
   unfold qc at p
   unfold af at r1
   obtain⟨a,rfl,hl⟩:=r1
   obtain⟨u',rfl,U7⟩:=vals1 r
   cases U7
   cases e:ag st1 l with
   | none=>simp only[e] at p;exact False.elim p
   | some ws=>
    simp only[e] at p
    cases e2:intsOf ws with
    | none=>simp only[e2] at p;exact False.elim p
    | some ns=>
     simp only[e2] at p
     obtain⟨xs,q1,q2⟩:=S1.read hl e
     have q3:=bU q2 e2
     subst q3
     refine yZ hc ru I2 q1 λv hv=>p v m1 H2 Ext.refl S1 ?_
     rcases hv with ⟨rfl,rfl⟩ | ⟨n,r,rfl,rfl⟩
     ·exact mkInt
     ·exact mkInt
  | _=>exact False.elim p
end
end J
namespace J
open PySem PySem.Spec PyProof.Rows L2
section
variable {prog:WS} {w:WV} {K:Type} [DecidableEq K] {knd:HeapKind prog w K} {A:WO} {E:WU->WT->Prop} {s:WT} {d:WN} {xs:List (K×WN×WU)}
end
section
variable {X:Cx}
def y0(tb:Tab)(tt:oJ):List Wv->Hs->Re Wv
 | [.ref l,.ty T],st=>if T="dict"/\(kA st[l]?).isSome=true then .ok (.bl true) st else a_ tb tt [.ref l,.ty T] st
 | ws,st=>a_ tb tt ws st
theorem B0:b_ X (.builtin "isinstance") (λvs H Q=>∃a kvs,vs=[.ref a,.ty "dict"]/\Rd H a (.dT kvs)/\Q (.bl true) H):=by
 intro pins s σ H xs us Q I r h
 obtain⟨a,kvs,rfl,e,q⟩:=h
 obtain⟨u,u',rfl,r1,r2⟩:=vals2 r
 cases r1
 cases r2
 obtain⟨t1,_,_⟩:=Ie I (.inr ⟨kvs,e⟩)
 exact call_isinstance_yes (Tx:="dict") t1 (by kernel_rfl) (by rw[W4];kernel_rfl) ⟨.bl true,H,I,rfl,q⟩
theorem JK{tb:Tab}{tt:oJ}{tc:Tab}(O:TabOk X.K tb tt tc):bC X (.builtin "isinstance") (y0 tb tt):=by
 obtain⟨r0,c0,k0⟩:=A4 (X:=X) O
 refine⟨_,B0.or c0,λws vs st H m Q S r p=>?_⟩
 have old:bB X.K m H (a_ tb tt ws st) Q->r0 vs H Q:=λp=>k0 ws vs st H m Q S r p
 unfold y0 at p
 split at p
 ·rename_i l T
  by_cases c:T="dict"/\(kA st[l]?).isSome=true
  ·rw[if_pos c] at p
   obtain⟨rfl,c2⟩:=c
   obtain⟨kvs,e⟩:=Option.isSome_iff_exists.mp c2
   obtain⟨v,v',rfl,r1,r2⟩:=uU r
   unfold af at r1 r2
   obtain⟨a,rfl,ha⟩:=r1
   subst r2
   obtain⟨xs,h1,_⟩:=lZ (X:=X) S ha e
   exact .inl ⟨a,xs,rfl,h1,p _ m H Ext.refl S (by unfold af;rfl)⟩
  ·rw[if_neg c] at p
   exact .inr (old p)
 ·exact .inr (old p)
end
end J
namespace J
open PySem PySem.Spec PyProof.Rows L2
structure Ct where
 N:List Str
 names:List (Str×WR)
 consts:List (Str×Wv)
 bl:List Str
 fns:List (Str×Nat×(List Wv->Hs->Re Wv))
 tb:Tab:=[]
 tt:oJ:=[]
 clss:List Str:=[]
 vz:List Str:=[]
 tc:Tab:=[]
 y3:List (Str×Dc):=[]
 tK:List Str:=[]
 U8:List Str:=[]
 Gy:List Str:=[]
 vA:List Str:=[]
 loop:Bool:=true
 free:Bool:=true
 top:Bool:=true
 lam:Option (Lm×LF):=none
 B1:List (Str×Sq):=[]
 Qo:List Str:=[]
 lj:Nat:=0
 self:Str:=""
def jk(x:Str):List Str->Option Nat
 | []=>none
 | y::r=>if x=y then some 0 else match jk x r with
  | some i=>some (i+1)
  | none=>none
theorem eR{x:Str}:∀{N:List Str}{i:Nat},jk x N=some i->N[i]? =some x
 | [],i,h=>by cases h
 | y::r,i,h=>by
  unfold jk at h
  by_cases e:x=y
  ·rw[if_pos e] at h;cases h;subst e;rfl
  ·rw[if_neg e] at h
   cases q:jk x r with
   | none=>rw[q] at h;cases h
   | some j=>rw[q] at h;cases h;simpa using eR q
def okN(x:Str):Bool:=!(x == ("__debug__":Str))&& !(x == ("__classdict__":Str))&& !(decide (x="__name__"))
theorem dh{x:Str}(h:okN x=true):(x == ("__debug__":Str))=false:=by unfold okN at h;revert h;cases (x == ("__debug__":Str))<;>simp
theorem B2{x:Str}(h:okN x=true):(x == ("__classdict__":Str))=false:=by unfold okN at h;revert h;cases (x == ("__classdict__":Str))<;>simp
theorem tL{x:Str}(h:okN x=true):x≠"__name__":=by
 intro e
 subst e
 unfold okN at h
 simp at h
def tM:List Wv->List V->Prop
 | [],[]=>True
 | .int i::r,.int j::t=>i=j/\tM r t
 | .str x::r,.str y::t=>(x=y/\PyData.strOk x=true)/\tM r t
 | _,_=>False
theorem tM.rel{K:PySem.W.Frag}{m:Mp}{H:Hp}:∀{ws:List Wv}{vs:List V},tM ws vs->ah K m H ws vs
 | [],[],_=>ah.nil
 | .int i::r,.int j::t,h=>by
  obtain⟨rfl,h⟩:=h
  exact ah.cons (by unfold af;rfl) h.rel
 | .str x::r,.str y::t,h=>by
  obtain⟨⟨rfl,hx⟩,h⟩:=h
  exact ah.cons (by unfold af;exact⟨rfl,hx⟩) h.rel
 | [],_::_,h=>False.elim h
 | .int i::r,[],h=>False.elim h
 | .str i::r,[],h=>False.elim h
 | .int i::r,.str _::_,h=>False.elim h
 | .str i::r,.int _::_,h=>False.elim h
def B3(K:PySem.W.Frag)(mg:Str->Option WU)(x:Str):Wv->Prop
 | .int i=>∃t,mg x=some (.int i t)
 | .str y=>(∃t,mg x=some (.str y t))/\PyData.strOk y=true
 | .mI ws=>∃(a:WN)(vs:List V)(o:Obj)(its:Array WU)(n:Nat),mg x=some (.ref a)/\K.lookup a=some o/\o.cls= .type "tuple"/\o.data= .seq its n/\its.size<=W6/\Vals vs its.toList/\tM ws vs
 | _=>False
structure M5(c:Ct)(k:Nat)(X:Cx):Prop where
 lam:∀p L,c.lam=some (p,L)->Jy X.prog X.w X.K X.mg X.base k p 3 L
 B1:∀x F,c.B1.lookup x=some F->Sr X.prog X.w X.K X.mg k c.lj x F
 JM:∀x n F,c.fns.lookup x=some (n,F)->c.Qo.contains x=true->∀base,BG X.K X.mg base->gq X.prog X.w X.K X.mg base c.lj x n F
 at':c.top=true->c.self∈bM->∃P,Gw X c.self P
structure Good(c:Ct)(k:Nat)(X:Cx):Prop where
 N:X.N=c.N
 sc:X.env.scope.names=c.names
 nd:c.N.Nodup
 un:X.A.units+64 < cLine
 free:c.free=true->hX k X.A/\X.calm=true
 loop:c.loop=true->X.calm=true/\PassesOwn (model X.prog X.w) X.A X.env X.xe
 cst:∀x w,c.consts.lookup x=some w->B3 X.K X.mg x w
 bl:∀x,c.bl.contains x=true->X.mg x=none
 fns:∀x n F,c.fns.lookup x=some (n,F)->gq X.prog X.w X.K X.mg X.base k x n F
 stk:c.top=true->Px X
 fn:c.top=true->∀x,X.fn x=true
 kind:X.env.scope.kind= .function
 tab:TabOk X.K c.tb c.tt c.tc
 cls:∀x,c.clss.contains x=true->∃C,X.mg x=some (.ref C)/\Ei X.K x C
 vz:∀x,c.vz.contains x=true->∃C,X.mg x=some (.ref C)/\ClsAt X.K x C
 y3:∀x kvs,c.y3.lookup x=some kvs->lI X.K X.w X.mg x kvs
 rm:dW k X.A
 vA:∀x n F,c.vA.contains x=true->c.fns.lookup x=some (n,F)->sZ X.prog X.w X.K X.mg X.base k x n F
 x:M5 c k X
 fr:Bb X
 hd:u5 X
theorem xa{k:Nat}{A:WO}(hr:hX k A):A.units+64 < cLine:=by have:=hr.un;omega
def Ct.Gz(c:Ct):Ct:={ c with loop:=false }
def Ct.qT(c:Ct):Ct:={ c with loop:=false,free:=false }
abbrev Ct.un(c:Ct):Ct:=c.qT
theorem Good.body{c:Ct}{k:Nat}{X:Cx}(G:Good c k X)(hf:c.free=true)(pn:List (WN×Obj))(E:WU->WT->Prop):Good c.Gz k (Ek X X.A true pn E) :=
 ⟨G.N,G.sc,G.nd,G.un,λ_=>⟨(G.free hf).1,rfl⟩,(λz=>by cases z),G.cst,G.bl,G.fns,λz=>⟨(G.stk z).st,(G.stk z).fr,(G.stk z).ex⟩,G.fn,G.kind,G.tab,G.cls,G.vz,G.y3,⟨G.rm.d,G.rm.u⟩,G.vA,⟨G.x.lam,G.x.B1,G.x.JM,λt m=>(G.x.at' t m).imp λP L=>⟨L.code,L.qual,L.tab,L.mem,L.uniq,L.bm⟩⟩,G.fr,G.hd⟩
theorem Good.suite{c:Ct}{k:Nat}{X:Cx}(G:Good c k X){a:WN}{o:Obj}{u:HO}(nx:yu o)(pn:List (WN×Obj))(E:WU->WT->Prop):Good c.qT k (MC X a (.bR o u) pn E) :=
 ⟨G.N,G.sc,G.nd,G.un,(λz=>by cases z),(λz=>by cases z),G.cst,G.bl,G.fns,λz=>⟨(G.stk z).st,(G.stk z).fr,(G.stk z).ex⟩,G.fn,G.kind,G.tab,G.cls,G.vz,G.y3,⟨G.rm.d,G.rm.u⟩,G.vA,⟨G.x.lam,G.x.B1,G.x.JM,λt m=>(G.x.at' t m).imp λP L=>⟨L.code,L.qual,L.tab,L.mem,L.uniq,L.bm⟩⟩,G.fr,.inr ⟨a,o,u,rfl,nx,aC⟩⟩
theorem B4:WY "ValueError"=some (.type "ValueError"):=by decide+kernel
theorem tN:WY "dict"=some (.type "dict"):=by decide+kernel
def Fb(x:Str):Option String :=
 if x="int" then some "int" else if x="str" then some "str" else if x="bool" then some "bool" else if x="tuple" then some "tuple" else if x="list" then some "list" else if x="ValueError" then some "ValueError" else if x="dict" then some "dict" else none
theorem Fc{x:Str}{T:String}(h:Fb x=some T):WY x=some (.type T):=by
 unfold Fb at h
 by_cases e:x="int"
 ·rw[if_pos e] at h;cases h;subst e;exact AR
 rw[if_neg e] at h
 by_cases e:x="str"
 ·rw[if_pos e] at h;cases h;subst e;exact AS
 rw[if_neg e] at h
 by_cases e:x="bool"
 ·rw[if_pos e] at h;cases h;subst e;exact AU
 rw[if_neg e] at h
 by_cases e:x="tuple"
 ·rw[if_pos e] at h;cases h;subst e;exact AV
 rw[if_neg e] at h
 by_cases e:x="list"
 ·rw[if_pos e] at h;cases h;subst e;exact AW
 rw[if_neg e] at h
 by_cases e:x="ValueError"
 ·rw[if_pos e] at h;cases h;subst e;exact B4
 rw[if_neg e] at h
 by_cases e:x="dict"
 ·rw[if_pos e] at h;cases h;subst e;exact tN
 rw[if_neg e] at h
 cases h
section
variable {X:Cx}
def M6:dj:=λ_ _ _=> .bad
theorem JN{f:WU->WU->Sem WU}:fR X f M6:=⟨λ_ _ _ _=>False,λ_ _ _ _ _ _ _ _ _ _ _ _ h=>h.elim,λ_ _ _ _ _ _ _ _ _ _ _ p=>p⟩
def M7:Operator->dj
 | .Add=>cP
 | .Sub=>qA
 | .Mult=>bO
 | .FloorDiv=>fW
 | .Mod=>oMod
 | .Pow=>qB
 | _=>M6
theorem Fd(o:Operator):fR X (WX o) (M7 o):=by
 cases o<;>first | exact IE | exact IB | exact BF | exact DW | exact IC | exact ID | exact JN
def kD:CmpOp->dj
 | .Eq=>oEq
 | .NotEq=>sj
 | .Lt=>oLt
 | .LtE=>oLe
 | .Gt=>NU
 | .GtE=>Pr
 | .Is=>AB
 | .IsNot=>eL
 | .In=>Jj
 | .NotIn=>qK
theorem cD(hu:X.A.units+64 < cLine)(o:CmpOp):fR X (W2 o) (kD o):=by
 cases o<;>first | exact Ge hu | exact Gf hu | exact Ju hu | exact Jt hu | exact Mj | exact Ml | exact Mm | exact AD | exact Jk | exact yL
def B5(c:Ct)(x:Str):GE:=if okN x=true then
  match c.names.lookup x with
  | some .local=>(match jk x c.N with | some i=>ae i | none=>a9)
  | some .cell=>(match jk x c.N with | some i=>ae i | none=>a9)
  | some .free=>(match jk x c.N with | some i=>ae i | none=>a9)
  | some .globalImplicit=>(match c.consts.lookup x with
   | some w=>gC w
   | none=>if c.clss.contains x=true then gC (.cls x) else if c.vz.contains x=true then gC (.cls x) else if c.bl.contains x=true then(match Fb x with | some T=>gC (.ty T) | none=>a9) else a9)
  | _=>a9
 else a9
theorem B6{c:Ct}{k:Nat}(G:Good c k X)(x:Str)(pos:Pos):JE X (.Name x pos) (B5 c x):=by
 unfold B5
 by_cases hx:okN x=true
 ·rw[if_pos hx]
  cases e:c.names.lookup x with
  | none=>exact az
  | some kd=>
   have el:X.env.scope.names.lookup x=some kd:=by rw[G.sc];exact e
   cases kd with
   | «local»=>
    dsimp only
    cases e2:jk x c.N with
    | none=>exact az
    | some i=>exact uR i (by rw[G.N];exact eR e2) (Or.inl el) (dh hx) (B2 hx)
   | cell=>
    dsimp only
    cases e2:jk x c.N with
    | none=>exact az
    | some i=>exact uR i (by rw[G.N];exact eR e2) (Or.inr (Or.inl el)) (dh hx) (B2 hx)
   | free=>
    dsimp only
    cases e2:jk x c.N with
    | none=>exact az
    | some i=>exact uR i (by rw[G.N];exact eR e2) (Or.inr (Or.inr el)) (dh hx) (B2 hx)
   | globalImplicit=>
    dsimp only
    have hg:Gl X x:=el
    cases e2:c.consts.lookup x with
    | some w=>
     have q:=G.cst x w e2
     cases w with
     | int i=>obtain⟨t,q⟩:=q;exact Au hg q (dh hx)
     | str y=>obtain⟨⟨t,q⟩,z⟩:=q;exact Av hg q z (dh hx)
     | mI ws=>
      obtain⟨a,vs,o,its,n,q1,q2,q3,q4,q5,q6,q7⟩:=q
      exact JE.of (fq (v:=.ref a) hg q1 rfl (dh hx)) λρ st σ H m Q S R p=>p (.ref a) m H Ext.refl S (by unfold af;exact⟨a,vs,rfl,⟨o,its,n,q2,q3,q4,q5,q6⟩,q7.rel⟩)
     | _=>exact False.elim q
    | none=>
     dsimp only
     by_cases e5:c.clss.contains x=true
     ·rw[if_pos e5]
      obtain⟨C,q1,q2⟩:=G.cls x e5
      exact JE.of (fq (v:=.ref C) hg q1 rfl (dh hx)) λρ st σ H m Q S R p=>p (.ref C) m H Ext.refl S (by unfold af;exact⟨C,rfl,q2.cls⟩)
     rw[if_neg e5]
     by_cases e6:c.vz.contains x=true
     ·rw[if_pos e6]
      obtain⟨C,q1,q2⟩:=G.vz x e6
      exact JE.of (fq (v:=.ref C) hg q1 rfl (dh hx)) λρ st σ H m Q S R p=>p (.ref C) m H Ext.refl S (by unfold af;exact⟨C,rfl,q2⟩)
     rw[if_neg e6]
     by_cases e3:c.bl.contains x=true
     ·rw[if_pos e3]
      cases e4:Fb x with
      | none=>exact az
      | some T=>exact L8 hg (G.bl x e3) (Fc e4) (tL hx) (dh hx)
     ·rw[if_neg e3];exact az
   | _=>exact az
 ·rw[if_neg hx];exact az
def B7:Const->GE
 | .none=>gC .aE
 | .bool b=>gC (.bl b)
 | .int i=>gC (.int i)
 | .str x=>if PyData.strOk x=true then gC (.str x) else a9
 | _=>a9
theorem y6(k:Const)(j:Nat)(pos:Pos):JE X (.Constant k j pos) (B7 k):=by
 cases k with
 | none=>exact Ij
 | bool b=>exact L7
 | int i=>exact Ii
 | str x=>
  show JE X _ (if PyData.strOk x=true then gC (.str x) else a9)
  by_cases h:PyData.strOk x=true
  ·rw[if_pos h];exact Il h
  ·rw[if_neg h];exact az
 | _=>exact az
def plain:Expr->Bool
 | .Starred .. =>false
 | _=>true
theorem aJ{e:Expr}{es:List Expr}{env:Env}(h:plain e=true):W7 (e::es) env=(false,eval e env)::W7 es env:=by
 cases e<;>first | rfl | cases h
theorem eJ{pos:Pos}{env:Env}:∀{es:List Expr},es.all plain=true->(backTo pos (W7 es env)).any (·.1)=false
 | [],_=>rfl
 | e::es,h=>by
  rw[List.all_cons,Bool.and_eq_true] at h
  rw[aJ h.1]
  have q:=eJ (pos:=pos) (env:=env) h.2
  unfold backTo at q ⊢
  rw[List.map_cons,List.any_cons,q]
  rfl
def f7(f:Expr->GE):List Expr->GA
 | []=>ai
 | e::es=>aa (f e) (f7 f es)
theorem cE{f:Expr->GE}(h:∀e,JE X e (f e)):∀es:List Expr,es.all plain=true->JA X es (f7 f es)
 | [],_=>Az
 | e::es,g=>by
  rw[List.all_cons,Bool.and_eq_true] at g
  exact wy (h e) (cE h es g.2) (aJ g.1)
def Oc(c:Ct)(x:Str):Option (WU×(List Wv->Hs->Re Wv)) :=
 if x="len" then some (.builtin "len",if c.tK.isEmpty=true then iW else jS) else if x="abs" then some (.builtin "abs",D6) else if x="isinstance" then some (.builtin "isinstance",if c.bl.contains "dict"=true then y0 c.tb c.tt else a_ c.tb c.tt) else if x="max"/\c.free=true then some (.builtin "max",jN) else if x="min"/\c.free=true then some (.builtin "min",jO) else if x="sum"/\c.free=true then some (.builtin "sum",ko) else if x="sorted" then some (.builtin "sorted",vg) else if x="dict" then some (.type "dict",qa) else none
theorem kE:WY "max"=some (.builtin "max"):=by decide+kernel
theorem qd:WY "min"=some (.builtin "min"):=by decide+kernel
theorem y7:WY "sum"=some (.builtin "sum"):=by decide+kernel
theorem y8:WY "sorted"=some (.builtin "sorted"):=by decide+kernel
theorem JP{c:Ct}(O:TabOk X.K c.tb c.tt c.tc):bC X (.builtin "isinstance") (if c.bl.contains "dict"=true then y0 c.tb c.tt else a_ c.tb c.tt):=by
 by_cases e2:c.bl.contains "dict"=true
 ·rw[if_pos e2];exact JK O
 ·rw[if_neg e2];exact A4 O
theorem JQ(c:Ct):bC X (.builtin "len") (if c.tK.isEmpty=true then iW else jS):=by
 by_cases e2:c.tK.isEmpty=true
 ·rw[if_pos e2];exact AG
 ·rw[if_neg e2];exact E5
theorem JR{c:Ct}{x:Str}{v:WU}{op:List Wv->Hs->Re Wv}(O:TabOk X.K c.tb c.tt c.tc)(hc:c.free=true->X.calm=true)(h:Oc c x=some (v,op)):WY x=some v/\bC X v op/\((∃id,v= .builtin id)\/∃T,v= .type T):=by
 unfold Oc at h
 by_cases e:x="len"
 ·rw[if_pos e] at h;cases h;subst e;exact⟨yo,JQ c,.inl ⟨_,rfl⟩⟩
 rw[if_neg e] at h
 by_cases e:x="abs"
 ·rw[if_pos e] at h;cases h;subst e;exact⟨ym,IH,.inl ⟨_,rfl⟩⟩
 rw[if_neg e] at h
 by_cases e:x="isinstance"
 ·rw[if_pos e] at h;cases h;subst e;exact⟨AQ,JP O,.inl ⟨_,rfl⟩⟩
 rw[if_neg e] at h
 by_cases e:x="max"/\c.free=true
 ·rw[if_pos e] at h;cases h;obtain⟨rfl,e2⟩:=e;exact⟨kE,EB (hc e2),.inl ⟨_,rfl⟩⟩
 rw[if_neg e] at h
 by_cases e:x="min"/\c.free=true
 ·rw[if_pos e] at h;cases h;obtain⟨rfl,e2⟩:=e;exact⟨qd,EC (hc e2),.inl ⟨_,rfl⟩⟩
 rw[if_neg e] at h
 by_cases e:x="sum"/\c.free=true
 ·rw[if_pos e] at h;cases h;obtain⟨rfl,e2⟩:=e;exact⟨y7,Jg (hc e2),.inl ⟨_,rfl⟩⟩
 rw[if_neg e] at h
 by_cases e:x="sorted"
 ·rw[if_pos e] at h;cases h;subst e;exact⟨y8,Jh,.inl ⟨_,rfl⟩⟩
 rw[if_neg e] at h
 by_cases e:x="dict"
 ·rw[if_pos e] at h;cases h;subst e;exact⟨tN,E6,.inr ⟨_,rfl⟩⟩
 rw[if_neg e] at h
 cases h
def vB(c:Ct)(fE:Expr->GE)(x:Str)(es:List Expr):GE:=if okN x=true/\es.all plain=true/\c.names.lookup x=some .globalImplicit then
   (match c.fns.lookup x with
   | some (n,F)=>if c.free=true then ax n F (f7 fE es) else if c.vA.contains x=true then ax n F (f7 fE es) else a9
   | none=>if c.bl.contains x=true then(match Oc c x with | some (_,op)=>ar op (f7 fE es) | none=>a9) else a9)
  else a9
def B8(fE:Expr->GE)(o:Expr)(name:Str)(e:Expr)(apos cpos:Pos):GE:=if plain e=true/\(apos.endLine == cpos.line)=true then
   (if name="append" then k9 lG (fE o) (fE e) else if name="extend" then k9 nE (fE o) (fE e) else a9)
  else a9
def vC(c:Ct)(fE:Expr->GE)(x:Str)(e:Expr)(k:Str):GE:=if okN x=true/\plain e=true/\c.names.lookup x=some .globalImplicit/\c.fns.lookup x=none/\c.bl.contains x=true/\c.free=true/\k=Str.ofString "default" then
   (if x="max" then ar pU (f7 fE [e]) else if x="min" then ar pV (f7 fE [e]) else a9)
  else a9
theorem y9{c:Ct}{k:Nat}(G:Good c k X){fE:Expr->GE}(h:∀e,JE X e (fE e))(x:Str)(e:Expr)(nm:Str)(kk:Nat)(p pos kp cp:Pos):JE X (.Call (.Name x p) [e] [⟨some nm,.Constant .none kk cp,kp⟩] pos) (vC c fE x e nm):=by
 unfold vC
 by_cases g:okN x=true/\plain e=true/\c.names.lookup x=some .globalImplicit/\c.fns.lookup x=none/\c.bl.contains x=true/\c.free=true/\nm=Str.ofString "default"
 ·rw[if_pos g]
  obtain⟨g1,g2,g3,g4,g5,g6,rfl⟩:=g
  have hg:Gl X x:=by
   show X.env.scope.names.lookup x=_
   rw[G.sc];exact g3
  by_cases n1:x="max"
  ·rw[if_pos n1];subst n1
   exact sU (Jo (G.free g6).2) hg (G.bl _ g5) kE (cE h [e] (by simp[g2])) (tL g1) (dh g1) (aJ g2)
  rw[if_neg n1]
  by_cases n1:x="min"
  ·rw[if_pos n1];subst n1
   exact sU (Jp (G.free g6).2) hg (G.bl _ g5) qd (cE h [e] (by simp[g2])) (tL g1) (dh g1) (aJ g2)
  rw[if_neg n1];exact az
 ·rw[if_neg g];exact az
def lK(c:Ct)(x:Str):Option Dc:=if okN x=true/\c.names.lookup x=some .globalImplicit then c.y3.lookup x else none
theorem jT{c:Ct}{k:Nat}(G:Good c k X){x:Str}{kvs:Dc}(h:lK c x=some kvs):Gl X x/\(x == ("__debug__":Str))=false/\lI X.K X.w X.mg x kvs:=by
 unfold lK at h
 by_cases g:okN x=true/\c.names.lookup x=some .globalImplicit
 ·rw[if_pos g] at h
  refine⟨?_,dh g.1,G.y3 x kvs h⟩
  show X.env.scope.names.lookup x=_
  rw[G.sc];exact g.2
 ·rw[if_neg g] at h;cases h
def B9(c:Ct)(fE:Expr->GE)(x:Str)(e:Expr)(k:Str)(n:Int):GE:=if x="max"/\plain e=true/\c.names.lookup x=some .globalImplicit/\c.bl.contains x=true/\c.free=true/\k=Str.ofString "default" then ar (qc n) (f7 fE [e]) else a9
theorem B_{c:Ct}{k:Nat}(G:Good c k X){fE:Expr->GE}(h:∀e,JE X e (fE e))(x:Str)(e:Expr)(nm:Str)(n:Int)(kk:Nat)(p pos kp cp:Pos):JE X (.Call (.Name x p) [e] [⟨some nm,.Constant (.int n) kk cp,kp⟩] pos) (B9 c fE x e nm n):=by
 unfold B9
 by_cases g:x="max"/\plain e=true/\c.names.lookup x=some .globalImplicit/\c.bl.contains x=true/\c.free=true/\nm=Str.ofString "default"
 ·rw[if_pos g]
  obtain⟨rfl,g2,g3,g5,g6,rfl⟩:=g
  exact E_ (G.free g6).2 (by show X.env.scope.names.lookup _=_;rw[G.sc];exact g3) (G.bl _ g5) (cE h [e] (by simp[g2])) kE (aJ g2)
 ·rw[if_neg g];exact az
def Ca(c:Ct)(fE:Expr->GE)(cpos:Pos):Expr->List Expr->List Keyword->GE
 | .Name x _,e::es,[]=>vB c fE x (e::es)
 | .Name x _,[e],[⟨some nm,.Constant .none _ _,_⟩]=>vC c fE x e nm
 | .Name x _,[e],[⟨some nm,.Constant (.int n) _ _,_⟩]=>B9 c fE x e nm n
 | .Attribute (.Name x p) name apos,[e],[]=>if name="append"\/name="extend" then B8 fE (.Name x p) name e apos cpos else a9
 | _,_,_=>a9
theorem y_{c:Ct}{k:Nat}(G:Good c k X){fE:Expr->GE}(h:∀e,JE X e (fE e))(x:Str)(e:Expr)(es:List Expr)(p pos:Pos):JE X (.Call (.Name x p) (e::es) [] pos) (vB c fE x (e::es)):=by
 unfold vB
 by_cases g:okN x=true/\(e::es).all plain=true/\c.names.lookup x=some .globalImplicit
 ·rw[if_pos g]
  obtain⟨g1,g2,g3⟩:=g
  have hg:Gl X x:=by
   show X.env.scope.names.lookup x=_
   rw[G.sc];exact g3
  have gp:plain e=true/\es.all plain=true:=by rw[List.all_cons,Bool.and_eq_true] at g2;exact g2
  have ha:=cE h (e::es) g2
  cases e1:c.fns.lookup x with
  | some nF=>
   obtain⟨n,F⟩:=nF
   dsimp only
   by_cases cf:c.free=true
   ·rw[if_pos cf]
    obtain⟨a,fd,ps,G1,G2,G3,G4⟩:=G.fns x n F e1
    exact Ec G1 (G.free cf).1 G2 G3 G4 ha hg (dh g1) (aJ gp.1) (eJ gp.2)
   ·rw[if_neg cf]
    by_cases cu:c.vA.contains x=true
    ·rw[if_pos cu]
     obtain⟨a,fd,ps,G1,G2,G3,G4⟩:=G.vA x n F cu e1
     exact BC G1 G.rm G.hd G2 G3 G4 ha hg (dh g1) (aJ gp.1) (eJ gp.2)
    ·rw[if_neg cu];exact az
  | none=>
   dsimp only
   by_cases e3:c.bl.contains x=true
   ·rw[if_pos e3]
    cases e4:Oc c x with
    | none=>exact az
    | some io=>
     obtain⟨v,op⟩:=io
     obtain⟨b1,b2,b3⟩:=JR (X:=X) G.tab (λz=>(G.free z).2) e4
     rcases b3 with ⟨id,rfl⟩ | ⟨T,rfl⟩
     ·exact AF b2 hg (G.bl x e3) b1 ha (tL g1) (dh g1) (aJ gp.1) (eJ gp.2)
     ·exact yi b2 hg (G.bl x e3) b1 ha (tL g1) (dh g1) (aJ gp.1) (eJ gp.2)
   ·rw[if_neg e3]
    exact az
 ·rw[if_neg g];exact az
theorem Cb{fE:Expr->GE}(h:∀e,JE X e (fE e))(x name:Str)(e:Expr)(p apos cpos:Pos):JE X (.Call (.Attribute (.Name x p) name apos) [e] [] cpos) (B8 fE (.Name x p) name e apos cpos):=by
 unfold B8
 by_cases g:plain e=true/\(apos.endLine == cpos.line)=true
 ·rw[if_pos g]
  by_cases n1:name="append"
  ·rw[if_pos n1]
   subst n1
   exact wA A7 PySem.F.slot_list_append PySem.F.type_list_append (h _) (h e) (aJ g.1) g.2
  rw[if_neg n1]
  by_cases n2:name="extend"
  ·rw[if_pos n2]
   subst n2
   exact wA EV PySem.F.slot_list_extend PySem.F.type_list_extend (h _) (h e) (aJ g.1) g.2
  rw[if_neg n2]
  exact az
 ·rw[if_neg g];exact az
theorem Cc{c:Ct}{k:Nat}(G:Good c k X){fE:Expr->GE}(h:∀e,JE X e (fE e))(f:Expr)(as:List Expr)(ks:List Keyword)(pos:Pos):JE X (.Call f as ks pos) (Ca c fE pos f as ks):=by
 unfold Ca
 split
 ·exact y_ G h _ _ _ _ _
 ·exact y9 G h _ _ _ _ _ _ _ _
 ·exact B_ G h _ _ _ _ _ _ _ _ _
 ·rename_i x p name apos e
  by_cases g:name="append"\/name="extend"
  ·rw[if_pos g];exact Cb h _ _ _ _ _ _
  ·rw[if_neg g]
   exact az
 ·exact az
def zc:Expr->Bool
 | .Slice .. =>true
 | _=>false
def Cd(f:Expr->GE):Option Expr->GO
 | none=>lU
 | some e=>pE (f e)
theorem xb{f:Expr->GE}(h:∀e,JE X e (f e))(o:Option Expr):JO X o (Cd f o):=by
 cases o with
 | none=>exact D4
 | some e=>exact D5 (h e)
def Fe(f:Expr->GE)(a:Expr):Expr->GE
 | .Slice lo hi none _=>iO (f a) (Cd f lo) (Cd f hi)
 | .Slice .. =>a9
 | b=>aj bN (f a) (f b)
theorem Ce{f:Expr->GE}(h:∀e,JE X e (f e))(a b:Expr)(pos:Pos):JE X (.Subscript a b pos) (Fe f a b):=by
 unfold Fe
 split
 ·exact yK (h a) (xb h _) (xb h _)
 ·exact az
 ·rename_i n1 n2
  refine Ms (h a) (h b) ?_
  intro o i
  cases b<;>first | rfl | (rename_i lo hi st p;exact(n2 _ _ _ _ rfl).elim)
def Cf(f:Expr->GE)(a:Expr):List CmpOp->List Expr->GE
 | [o],[b]=>if WW o b=false then aj (kD o) (f a) (f b) else a9
 | [o,o'],[b,b']=>if lastMarks [o,o'] [b,b']=false then jd (kD o) (kD o') (f a) (f b) (f b') else a9
 | [o,o',ku],[b,b',b'']=>if lastMarks [o,o',ku] [b,b',b'']=false then gD (kD o) (kD o') (kD ku) (f a) (f b) (f b') (f b'') else a9
 | _,_=>a9
theorem vD(hu:X.A.units+64 < cLine){f:Expr->GE}(h:∀e,JE X e (f e))(a:Expr)(os:List CmpOp)(bs:List Expr)(pos:Pos):JE X (.Compare a os bs pos) (Cf f a os bs):=by
 unfold Cf
 split
 ·rename_i o b
  by_cases g:WW o b=false
  ·rw[if_pos g];exact mM (cD hu o) (h a) (h b) g
  ·rw[if_neg g];exact az
 ·rename_i o o' b b'
  by_cases g:lastMarks [o,o'] [b,b']=false
  ·rw[if_pos g];exact Aw (cD hu o) (cD hu o') (h a) (h b) (h b') g
  ·rw[if_neg g];exact az
 ·rename_i o o' ku b b' b''
  by_cases g:lastMarks [o,o',ku] [b,b',b'']=false
  ·rw[if_pos g];exact yT (cD hu o) (cD hu o') (cD hu ku) (h a) (h b) (h b') (h b'') g
  ·rw[if_neg g];exact az
 ·exact az
def Cg(f:Expr->GE)(a:Expr):List CmpOp->List Expr->GT
 | [o],[b]=>if WW o b=false then bg (aj (kD o) (f a) (f b)) else ft
 | [o,o'],[b,b']=>if lastMarks [o,o'] [b,b']=false then bg (jd (kD o) (kD o') (f a) (f b) (f b')) else ft
 | [o,o',ku],[b,b',b'']=>if lastMarks [o,o',ku] [b,b',b'']=false then bg (gD (kD o) (kD o') (kD ku) (f a) (f b) (f b') (f b'')) else ft
 | _,_=>ft
theorem qU(hu:X.A.units+64 < cLine){f:Expr->GE}(h:∀e,JE X e (f e))(a:Expr)(os:List CmpOp)(bs:List Expr)(pos:Pos):JT X (.Compare a os bs pos) (Cg f a os bs):=by
 unfold Cg
 split
 ·rename_i o b
  by_cases g:WW o b=false
  ·rw[if_pos g];exact mO (cD hu o) (h a) (h b) g
  ·rw[if_neg g];exact eM
 ·rename_i o o' b b'
  by_cases g:lastMarks [o,o'] [b,b']=false
  ·rw[if_pos g];exact Ax (cD hu o) (cD hu o') (h a) (h b) (h b') g
  ·rw[if_neg g];exact eM
 ·rename_i o o' ku b b' b''
  by_cases g:lastMarks [o,o',ku] [b,b',b'']=false
  ·rw[if_pos g];exact yU (cD hu o) (cD hu o') (cD hu ku) (h a) (h b) (h b') (h b'') g
  ·rw[if_neg g];exact eM
 ·exact eM
def tO(c:Ct):Expr->Bool
 | .Name x _=>c.tK.contains x
 | _=>false
def Ff(c:Ct)(f:Expr->GE)(a:Expr):List CmpOp->List Expr->GE
 | [.In],[.Name x p]=>(match lK c x with | some kvs=>jR false kvs (f a) | none=>if c.Gy.contains x=true then(if WW .In (.Name x p)=false then aj (tq false) (f a) (f (.Name x p)) else a9) else Cf f a [.In] [.Name x p])
 | [.NotIn],[.Name x p]=>(match lK c x with | some kvs=>jR true kvs (f a) | none=>if c.Gy.contains x=true then(if WW .NotIn (.Name x p)=false then aj (tq true) (f a) (f (.Name x p)) else a9) else Cf f a [.NotIn] [.Name x p])
 | os,bs=>Cf f a os bs
theorem xc{c:Ct}{k:Nat}(G:Good c k X){f:Expr->GE}(h:∀e,JE X e (f e))(a:Expr)(os:List CmpOp)(bs:List Expr)(pos:Pos):JE X (.Compare a os bs pos) (Ff c f a os bs):=by
 unfold Ff
 split
 ·rename_i x p
  cases e:lK c x with
  | none=>
   dsimp only
   by_cases gd:c.Gy.contains x=true
   ·rw[if_pos gd]
    by_cases gm:WW .In (.Name x p)=false
    ·rw[if_pos gm];exact mM (BK G.un) (h a) (h _) gm
    ·rw[if_neg gm];exact az
   ·rw[if_neg gd];exact vD G.un h a _ _ pos
  | some kvs=>obtain⟨g1,g2,g3⟩:=jT G e;exact EG (h a) g1 g2 g3
 ·rename_i x p
  cases e:lK c x with
  | none=>
   dsimp only
   by_cases gd:c.Gy.contains x=true
   ·rw[if_pos gd]
    by_cases gm:WW .NotIn (.Name x p)=false
    ·rw[if_pos gm];exact mM (pX G.un) (h a) (h _) gm
    ·rw[if_neg gm];exact az
   ·rw[if_neg gd];exact vD G.un h a _ _ pos
  | some kvs=>obtain⟨g1,g2,g3⟩:=jT G e;exact vj (h a) g1 g2 g3
 ·exact vD G.un h a _ _ pos
def xf(c:Ct)(f:Expr->GE)(a:Expr):List CmpOp->List Expr->GT
 | [.In],[.Name x p]=>(match lK c x with | some kvs=>bg (jR false kvs (f a)) | none=>if c.Gy.contains x=true then(if WW .In (.Name x p)=false then bg (aj (tq false) (f a) (f (.Name x p))) else ft) else Cg f a [.In] [.Name x p])
 | [.NotIn],[.Name x p]=>(match lK c x with | some kvs=>bg (jR true kvs (f a)) | none=>if c.Gy.contains x=true then(if WW .NotIn (.Name x p)=false then bg (aj (tq true) (f a) (f (.Name x p))) else ft) else Cg f a [.NotIn] [.Name x p])
 | os,bs=>Cg f a os bs
theorem tP{c:Ct}{k:Nat}(G:Good c k X){f:Expr->GE}(h:∀e,JE X e (f e))(a:Expr)(os:List CmpOp)(bs:List Expr)(pos:Pos):JT X (.Compare a os bs pos) (xf c f a os bs):=by
 unfold xf
 split
 ·rename_i x p
  cases e:lK c x with
  | none=>
   dsimp only
   by_cases gd:c.Gy.contains x=true
   ·rw[if_pos gd]
    by_cases gm:WW .In (.Name x p)=false
    ·rw[if_pos gm];exact mO (BK G.un) (h a) (h _) gm
    ·rw[if_neg gm];exact eM
   ·rw[if_neg gd];exact qU G.un h a _ _ pos
  | some kvs=>obtain⟨g1,g2,g3⟩:=jT G e;exact EH (h a) g1 g2 g3
 ·rename_i x p
  cases e:lK c x with
  | none=>
   dsimp only
   by_cases gd:c.Gy.contains x=true
   ·rw[if_pos gd]
    by_cases gm:WW .NotIn (.Name x p)=false
    ·rw[if_pos gm];exact mO (pX G.un) (h a) (h _) gm
    ·rw[if_neg gm];exact eM
   ·rw[if_neg gd];exact qU G.un h a _ _ pos
  | some kvs=>obtain⟨g1,g2,g3⟩:=jT G e;exact vm (h a) g1 g2 g3
 ·exact qU G.un h a _ _ pos
def Fg(c:Ct):Expr->Bool
 | .Subscript (.Name x _) (.Constant (.int 0) _ _) _=>c.tK.contains (x++"[]")
 | .Subscript (.Call (.Name x _) _ _ _) (.Constant (.int 0) _ _) _=>c.tK.contains (x++"()[]")
 | .Call (.Name x _) _ _ _=>c.tK.contains (x++"()")
 | e=>tO c e
def JU(c:Ct)(f:Expr->GE)(a:Expr)(os:List CmpOp)(bs:List Expr):GE:=if Fg c a=true then(match os,bs with
 | [.Eq],[b]=>if WW .Eq b=false then aj vy (f a) (f b) else a9
 | [.NotEq],[b]=>if WW .NotEq b=false then aj yY (f a) (f b) else a9
 | os,bs=>Ff c f a os bs) else Ff c f a os bs
theorem Fh{c:Ct}{k:Nat}(G:Good c k X){f:Expr->GE}(h:∀e,JE X e (f e))(a:Expr)(os:List CmpOp)(bs:List Expr)(pos:Pos):JE X (.Compare a os bs pos) (JU c f a os bs):=by
 unfold JU
 by_cases g:Fg c a=true
 ·rw[if_pos g]
  split
  ·rename_i b
   by_cases gm:WW .Eq b=false
   ·rw[if_pos gm];exact mM (BY G.un) (h a) (h b) gm
   ·rw[if_neg gm];exact az
  ·rename_i b
   by_cases gm:WW .NotEq b=false
   ·rw[if_pos gm];exact mM (BZ G.un) (h a) (h b) gm
   ·rw[if_neg gm];exact az
  ·exact xc G h a _ _ pos
 ·rw[if_neg g];exact xc G h a os bs pos
def Ci(c:Ct)(f:Expr->GE)(a:Expr)(os:List CmpOp)(bs:List Expr):GT:=if Fg c a=true then(match os,bs with
 | [.Eq],[b]=>if WW .Eq b=false then bg (aj vy (f a) (f b)) else ft
 | [.NotEq],[b]=>if WW .NotEq b=false then bg (aj yY (f a) (f b)) else ft
 | os,bs=>xf c f a os bs) else xf c f a os bs
theorem Cj{c:Ct}{k:Nat}(G:Good c k X){f:Expr->GE}(h:∀e,JE X e (f e))(a:Expr)(os:List CmpOp)(bs:List Expr)(pos:Pos):JT X (.Compare a os bs pos) (Ci c f a os bs):=by
 unfold Ci
 by_cases g:Fg c a=true
 ·rw[if_pos g]
  split
  ·rename_i b
   by_cases gm:WW .Eq b=false
   ·rw[if_pos gm];exact mO (BY G.un) (h a) (h b) gm
   ·rw[if_neg gm];exact eM
  ·rename_i b
   by_cases gm:WW .NotEq b=false
   ·rw[if_pos gm];exact mO (BZ G.un) (h a) (h b) gm
   ·rw[if_neg gm];exact eM
  ·exact tP G h a _ _ pos
 ·rw[if_neg g];exact tP G h a os bs pos
def Fi(c:Ct):Expr->Bool
 | .Name x _=>c.tK.contains x||c.U8.contains x
 | _=>false
def JV(c:Ct)(f:Expr->GE):Expr->Expr->GE
 | .Name x p,b=>(match lK c x with | some kvs=>if zc b=false then Gs kvs (f b) else a9 | none=>if Fi c (.Name x p)=true/\zc b=false then nG (f (.Name x p)) (f b) else Fe f (.Name x p) b)
 | a,b=>Fe f a b
theorem Fj{c:Ct}{k:Nat}(G:Good c k X){f:Expr->GE}(h:∀e,JE X e (f e))(a b:Expr)(pos:Pos):JE X (.Subscript a b pos) (JV c f a b):=by
 unfold JV
 split
 ·rename_i x p
  cases e:lK c x with
  | none=>
   dsimp only
   by_cases g:Fi c (.Name x p)=true/\zc b=false
   ·rw[if_pos g]
    refine EY (by have:=G.un;omega) (h _) (h b) ?_
    intro o i
    cases b<;>first | rfl | cases g.2
   ·rw[if_neg g];exact Ce h _ b pos
  | some kvs=>
   dsimp only
   by_cases g:zc b=false
   ·rw[if_pos g]
    obtain⟨g1,g2,g3⟩:=jT G e
    refine EJ (h b) ?_ g1 g2 g3
    intro o i
    cases b<;>first | rfl | cases g
   ·rw[if_neg g];exact az
 ·exact Ce h _ b pos
def pairsOf(f:Expr->GE):List (Option Expr)->List Expr->Option (List (GE×GE))
 | [],[]=>some []
 | some k::ks,v::vs=>(match pairsOf f ks vs with | some r=>some ((f k,f v)::r) | none=>none)
 | _,_=>none
def M8:List (Option Expr)->Bool
 | some (.Tuple ..)::_=>true
 | _=>false
def M9(c:Ct):List (Option Expr)->Bool
 | some (.Name x _)::_=>c.tK.contains x
 | _=>false
def Ck(b:Bool)(f:Expr->GE)(ks:List (Option Expr))(vs:List Expr):GE:=if(!ks.isEmpty&&decide (ks.length<=15))=true then(match pairsOf f ks vs with | some gs=>if b=true then a9 else a9 | none=>a9) else a9
theorem xg(hu:X.A.units+1 < cLine)(b:Bool){f:Expr->GE}(h:∀e,JE X e (f e))(ks:List (Option Expr))(vs:List Expr)(pos:Pos):JE X (.Dict ks vs pos) (Ck b f ks vs):=by
 unfold Ck
 by_cases g:(!ks.isEmpty&&decide (ks.length<=15))=true
 ·rw[if_pos g]
  simp only[Bool.and_eq_true,decide_eq_true_eq] at g
  cases e:pairsOf f ks vs with
  | none=>exact az
  | some gs=>
   dsimp only
   by_cases t:b=true
   ·rw[if_pos t];exact az
   ·rw[if_neg t];exact az
 ·rw[if_neg g];exact az
def JX(f:Expr->GE):List Expr->GE
 | []=>a9
 | [a]=>f a
 | a::b::r=>wx (f a) (JX f (b::r))
def Qp(f:Expr->GE):List Expr->GE
 | []=>a9
 | [a]=>f a
 | a::b::r=>Ma (f a) (Qp f (b::r))
theorem xh{f:Expr->GE}(h:∀e,JE X e (f e))(pos:Pos):∀es,JE X (.BoolOp .And es pos) (JX f es)
 | []=>az
 | [a]=>Ay (h a)
 | a::b::r=>Iw (h a) (xh h pos (b::r))
theorem Cm{f:Expr->GE}(h:∀e,JE X e (f e))(pos:Pos):∀es,JE X (.BoolOp .Or es pos) (Qp f es)
 | []=>az
 | [a]=>Ay (h a)
 | a::b::r=>Mb (h a) (Cm h pos (b::r))
def JY(f:Expr->GT):List Expr->GT
 | []=>ft
 | [a]=>f a
 | a::b::r=>yf (f a) (JY f (b::r))
def Qq(f:Expr->GT):List Expr->GT
 | []=>ft
 | [a]=>f a
 | a::b::r=>L9 (f a) (Qq f (b::r))
theorem Cn{e:Expr}:JW X e ft:=λρ st σ H m Q S R p=>False.elim p
theorem xi{f:Expr->GT}(h:∀e,JT X e (f e))(pos:Pos):∀es,JW X (.BoolOp .And es pos) (JY f es)
 | []=>Cn
 | [a]=>DT (h a)
 | a::b::r=>Iu (h a) (xi h pos (b::r))
theorem Co{f:Expr->GT}(h:∀e,JT X e (f e))(pos:Pos):∀es,JW X (.BoolOp .Or es pos) (Qq f es)
 | []=>Cn
 | [a]=>Ir (h a)
 | a::b::r=>L_ (h a) (Co h pos (b::r))
def U9(f:Expr->GE):UnaryOp->Expr->GE
 | .USub,a=>Ip mP (f a)
 | .Not,a=>Ga (f a)
 | _,_=>a9
def zd(f:Expr->GE)(g:GA->GE)(es:List Expr):GE:=if es.all plain=true then g (f7 f es) else a9
def isSet:Expr->Bool
 | .Set .. =>true
 | _=>false
theorem fA{e:Expr}{env:Env}(h:isSet e=false)(x:WU):W3 e env x=pure x:=by
 cases e<;>first | rfl | cases h
def gF(c:Ct)(x:Str):Bool:=decide (x="range")&&decide (c.names.lookup x=some .globalImplicit)&&c.bl.contains x&&(match c.fns.lookup x with | some _=>false | none=>true)
theorem nK{c:Ct}{k:Nat}(G:Good c k X)(y:Str)(hy:gF c y=true):y="range"/\Gl X y/\X.mg y=none:=by
 unfold gF at hy
 simp only[Bool.and_eq_true,decide_eq_true_eq] at hy
 refine⟨hy.1.1.1,?_,G.bl y hy.1.2⟩
 show X.env.scope.names.lookup y=_
 rw[G.sc];exact hy.1.1.2
def nL(c:Ct)(f:Expr->GE):Expr->GI
 | .Call (.Name x p) [a] [] q=>if gF c x=true then(if plain a=true then Be (f7 f [a]) else Bf) else eQ (f (.Call (.Name x p) [a] [] q))
 | e=>if isSet e=false then eQ (f e) else Bf
theorem xj{c:Ct}{k:Nat}(G:Good c k X){f:Expr->GE}(h:∀e,JE X e (f e))(tg e:Expr):JI X tg e (nL c f e):=by
 unfold nL
 split
 ·rename_i y p a q
  by_cases g:gF c y=true
  ·rw[if_pos g]
   obtain⟨rfl,g2,g3⟩:=nK G y g
   by_cases ga:plain a=true
   ·rw[if_pos ga]
    exact MN g2 g3 (cE h [a] (by simp[ga])) (aJ ga)
   ·rw[if_neg ga];exact Bh
  ·rw[if_neg g];exact wO (h _)
 ·by_cases g:isSet e=false
  ·rw[if_pos g];exact wO (h _)
  ·rw[if_neg g];exact Bh
def ze(c:Ct):Expr->Bool
 | .Call (.Name x _) [a] [] _=>gF c x&&plain a
 | _=>false
theorem tQ{c:Ct}{k:Nat}(G:Good c k X){f:Expr->GE}(h:∀e,JE X e (f e))(tg e:Expr)(g:ze c e=true):Le u5 X tg e (nL c f e):=by
 unfold ze at g
 split at g
 ·rename_i y p a q
  simp only[Bool.and_eq_true] at g
  obtain⟨rfl,g2,g3⟩:=nK G y g.1
  unfold nL
  dsimp only
  rw[if_pos g.1,if_pos g.2]
  exact JC g2 g3 (cE h [a] (by simp[g.2])) (aJ g.2)
 ·cases g
def Qr(c:Ct)(x:Str):Bool:=decide (x="enumerate")&&decide (c.names.lookup x=some .globalImplicit)&&c.bl.contains x&&(match c.fns.lookup x with | some _=>false | none=>true)
def Qs(gi:GI):MZ:=λρ st=>(gi ρ st).bind λw st1=> .ok (w.1.map λl=>(l,w.2),w.2) st1
def vE(c:Ct)(f:Expr->GE):Expr->MZ
 | e=>Qs (nL c f e)
theorem Cp{c:Ct}{k:Nat}(G:Good c k X){f:Expr->GE}(h:∀e,JE X e (f e))(es:List Expr)(kt:Nat)(pt:Pos)(e:Expr):Qe X (.Tuple es kt pt) e (vE c f e):=by
 unfold vE
 exact Jx (xj G h _ _)
def GB(c:Ct):Expr->Bool
 | .Call (.Name x _) [_] [] _=>Qr c x
 | _=>false
def lB(c:Ct):List (Str×WR)->Option eO
 | []=>some []
 | (n,.free)::r=>if c.names.lookup n=some .cell\/c.names.lookup n=some .free then(match jk n c.N,lB c r with | some i,some l=>some ((n,i)::l) | _,_=>none) else none
 | _::r=>lB c r
theorem nM{c:Ct}:∀{ns:List (Str×WR)}{cs:eO},lB c ns=some cs->(∀y∈ns,y.2= .free->c.names.lookup y.1=some .cell\/c.names.lookup y.1=some .free)/\∀p∈cs,(p.1,NameKind.free)∈ns/\c.N[p.2]? =some p.1
 | [],cs,h=>by cases h;exact⟨(λ_ z=>by cases z),(λ_ z=>by cases z)⟩
 | (n,k)::r,cs,h=>by
  unfold lB at h
  split at h
  ·cases ‹_::_=[]›
  ·rename_i n' r' he
   cases he
   by_cases g:c.names.lookup n=some .cell\/c.names.lookup n=some .free
   ·rw[if_pos g] at h
    cases e1:jk n c.N with
    | none=>rw[e1] at h;cases h
    | some i=>
     cases e2:lB c r with
     | none=>rw[e1,e2] at h;cases h
     | some l=>
      rw[e1,e2] at h
      cases h
      obtain⟨q1,q2⟩:=nM e2
      refine⟨λy hy e=>?_,λp hp=>?_⟩
      ·rcases List.mem_cons.mp hy with z | z
       ·subst z;exact g
       ·exact q1 y z e
      ·rcases List.mem_cons.mp hp with z | z
       ·subst z;exact⟨List.mem_cons_self,eR e1⟩
       ·exact⟨List.mem_cons_of_mem _ (q2 p z).1,(q2 p z).2⟩
   ·rw[if_neg g] at h;cases h
  ·rename_i kk r' hk he
   cases he
   obtain⟨q1,q2⟩:=nM h
   refine⟨λy hy e=>?_,λp hp=>⟨List.mem_cons_of_mem _ (q2 p hp).1,(q2 p hp).2⟩⟩
   rcases List.mem_cons.mp hy with z | z
   ·subst z
    have e':k= .free:=e
    subst e'
    exact(hk n rfl).elim
   ·exact q1 y z e
def vF(c:Ct)(ns:List (Str×WR)):List (Str×WR):=ns.map λ(n,k)=>if(k == .free&&c.names.lookup n == some .cell) then(n,.cell) else(n,k)
def M_:ScopeKind->Bool
 | .function=>true
 | _=>false
def iQ(scope:Scope)(x:Str):Bool:=M_ scope.kind&&scope.names.all (λy=>decide (scope.names.lookup y.1=some y.2))&&scope.names.all (λy=>decide (y.2≠.cell))&&decide (scope.names.lookup x=some .local)
def Ct.block(c:Ct)(scope:Scope)(x:Str)(cs:eO):Ct:={ c with N:=x::cs.map (·.1),names:=vF c scope.names,loop:=false,top:=false }
def tR(c:Ct)(f:Expr->GE)(e:Expr):GI:=if tO c e=true then jj (f e) else nL c f e
theorem tS{c:Ct}{k:Nat}(G:Good c k X){f:Expr->GE}(h:∀e,JE X e (f e))(tg e:Expr):JI X tg e (tR c f e):=by
 unfold tR
 by_cases g:tO c e=true
 ·rw[if_pos g];exact E2 (h e)
 ·rw[if_neg g];exact xj G h tg e
theorem Cq{c:Ct}{f:Expr->GE}{e:Expr}(g:ze c e=true):tR c f e=nL c f e:=by
 unfold tR
 rw[if_neg]
 unfold ze at g
 split at g
 ·exact Bool.false_ne_true
 ·cases g
def xl(c:Ct):Expr->Option Nat
 | .Name x _=>jk x c.N
 | _=>none
def xm(c:Ct)(e:Expr)(g:GE):GE:=if tO c e=true then(match xl c e with | some j=>gE j g | none=>g) else g
def tT(c:Ct)(sub:Ct->(Expr->GE)×(Expr->GT))(f:Expr->GE)(elt:Expr)(x:Str)(iter:Expr)(JZ:Ct->GT)(scope:Scope):GE :=
 if iQ scope x=true/\(c.free=true\/ze c iter=true)/\isSet iter=false then(match lB c scope.names with
  | some cs=>if(x::cs.map (·.1)).Nodup then xm c iter (fu cs (tR c f iter) (JZ (c.block scope x cs)) ((sub (c.block scope x cs)).1 elt)) else a9
  | none=>a9) else a9
def Od(c:Ct)(sub:Ct->(Expr->GE)×(Expr->GT))(f:Expr->GE)(elt:Expr)(scope:Scope):List Comprehension->GE
 | [⟨.Name x _,iter,[],0⟩]=>tT c sub f elt x iter (λ_=>λ_ st=> .ok true st) scope
 | [⟨.Name x _,iter,[q],0⟩]=>tT c sub f elt x iter (λc'=>(sub c').2 q) scope
 | _=>a9
theorem nN{c:Ct}{k:Nat}(G:Good c k X){scope:Scope}{x:Str}{cs:eO}(hs:iQ scope x=true)(nd:(x::cs.map (·.1)).Nodup)(C:WN)(s0:WT)(H0:Hp)(fp:List WN)(pn:List (WN×Obj))(E:WU->WT->Prop)(hA:yx X.A H0) :
  Good (c.block scope x cs) k (dU X scope x cs C s0 H0 fp pn E):=by
 unfold iQ at hs
 simp only[Bool.and_eq_true,decide_eq_true_eq] at hs
 have hk:scope.kind= .function:=by
  have:=hs.1.1.1
  revert this
  cases scope.kind<;>intro z<;>first | rfl | cases z
 refine⟨rfl,?_,nd,G.un,G.free,(λz=>by cases z),G.cst,G.bl,G.fns,(λz=>by cases z),(λz=>by cases z),hk,G.tab,G.cls,G.vz,G.y3,⟨G.rm.d,G.rm.u⟩,G.vA,⟨G.x.lam,G.x.B1,G.x.JM,(λz=>by cases z)⟩,G.fr,hA⟩
 show(relabel scope X.env).names=vF c scope.names
 unfold relabel vF Env.kindOf
 rw[G.kind,G.sc]
 simp
theorem Cr{c:Ct}{k:Nat}(G:Good c k X){scope:Scope}{x:Str}{cs:eO}(hs:iQ scope x=true)(hcs:lB c scope.names=some cs)(nd:(x::cs.map (·.1)).Nodup):cK X scope x cs:=by
 unfold iQ at hs
 simp only[Bool.and_eq_true,decide_eq_true_eq,List.all_eq_true] at hs
 obtain⟨⟨⟨h1,h2⟩,h3⟩,h4⟩:=hs
 have hk:scope.kind= .function:=by
  revert h1
  cases scope.kind<;>intro z<;>first | rfl | cases z
 obtain⟨q1,q2⟩:=nM hcs
 refine⟨hk,h2,h3,h4,λy hy e=>?_,λp hp=>⟨by rw[G.N];exact(q2 p hp).2,h2 _ (q2 p hp).1⟩,nd⟩
 show X.env.scope.names.lookup y.1=_\/X.env.scope.names.lookup y.1=_
 rw[G.sc];exact q1 y hy e
def Fl(X:Cx)(e:Expr)(g:GE):Prop:=∀(i:Nat)(y:Str)(py spos:Pos),X.N.Nodup->X.N[i]? =some y->Loc X.env.scope y->(X.fn y=true\/X.env.scope.names.lookup y=some .local)->JS X (.Assign [.Name y py] e spos) (aH i g)
theorem zf{i:Nat}{s:Stmt}:JS X s (aH i a9):=λρ st σ H m D S R p=>False.elim p
theorem fB{e:Expr}:Fl X e a9:=λi y py spos _ _ _ _=>zf
theorem Cs{i j:Nat}{g:GE}:aH i (gE j g)=pZ j (aH i g):=by
 funext ρ st
 show(gE j g ρ st).aI ρ (λw st'=> .nx (ρ.set i (some w)) st')=pZ j (aH i g) ρ st
 unfold pZ gE
 cases lq ρ[j]? st with
 | none=>rfl
 | some l=>
  show((match g ρ st with | .ok w st'=>Re.ok w (lp l st') | r=>r).aI ρ λw st'=> .nx (ρ.set i (some w)) st')=(match(g ρ st).aI ρ (λw st'=> .nx (ρ.set i (some w)) st') with | .nx ρ' st'=> .nx ρ' (lp l st') | r=>r)
  cases g ρ st<;>rfl
theorem Cu{c:Ct}{it e:Expr}{g:GE}(h:JE X e g/\Fl X e g):JE X e (xm c it g)/\Fl X e (xm c it g):=by
 unfold xm
 by_cases q:tO c it=true
 ·rw[if_pos q]
  cases xl c it with
  | none=>exact h
  | some j=>exact⟨E1 j h.1,λi y py spos hN hi hl hf=>by rw[Cs];exact wY j (h.2 i y py spos hN hi hl hf)⟩
 ·rw[if_neg q];exact h
theorem xn{c:Ct}{k:Nat}(G:Good c k X){sub:Ct->(Expr->GE)×(Expr->GT)}(hb:∀c X,Good c k X->(∀e,JE X e ((sub c).1 e))/\∀e,JT X e ((sub c).2 e)){f:Expr->GE}(h:∀e,JE X e (f e))(elt:Expr)(scope:Scope)(gens:List Comprehension)(pos:Pos) :
  JE X (.ListComp elt gens scope pos) (Od c sub f elt scope gens)/\Fl X (.ListComp elt gens scope pos) (Od c sub f elt scope gens):=by
 have core:∀(x:Str)(px:Pos)(iter:Expr)(ifs:List Expr)(JZ:Ct->GT),(∀c X,Good c k X->Gj X ifs (JZ c))->
   JE X (.ListComp elt [⟨.Name x px,iter,ifs,0⟩] scope pos) (tT c sub f elt x iter JZ scope)/\Fl X (.ListComp elt [⟨.Name x px,iter,ifs,0⟩] scope pos) (tT c sub f elt x iter JZ scope):=by
  intro x px iter ifs JZ hg
  unfold tT
  by_cases g:iQ scope x=true/\(c.free=true\/ze c iter=true)/\isSet iter=false
  ·rw[if_pos g]
   obtain⟨g1,g2,g3⟩:=g
   cases ec:lB c scope.names with
   | none=>exact⟨az,fB⟩
   | some cs=>
    dsimp only
    by_cases nd:(x::cs.map (·.1)).Nodup
    ·rw[if_pos nd]
     have CS:=Cr G g1 ec nd
     have hE:∀C s0 H0 fp pn E,yx X.A H0->JE (dU X scope x cs C s0 H0 fp pn E) elt ((sub (c.block scope x cs)).1 elt):=λC s0 H0 fp pn E z=>(hb _ _ (nN G g1 nd C s0 H0 fp pn E z)).1 elt
     have hT:∀C s0 H0 fp pn E,yx X.A H0->Gj (dU X scope x cs C s0 H0 fp pn E) ifs (JZ (c.block scope x cs)):=λC s0 H0 fp pn E z=>hg _ _ (nN G g1 nd C s0 H0 fp pn E z)
     refine Cu ?_
     rcases g2 with g2 | g2
     ·exact⟨qG G.fr CS (sG (G.free g2).2) G.hd (tS G h _ iter).y hE hT (fA g3),λi y py spos hN hi hl hf=>wG i hN G.fr CS (sG (G.free g2).2) G.hd (tS G h _ iter).y hE hT (fA g3) hi hl hf⟩
     ·rw[Cq g2]
      exact⟨qG G.fr CS (BL G.hd) G.hd (tQ G h _ iter g2) hE hT (fA g3),λi y py spos hN hi hl hf=>wG i hN G.fr CS (BL G.hd) G.hd (tQ G h _ iter g2) hE hT (fA g3) hi hl hf⟩
    ·rw[if_neg nd];exact⟨az,fB⟩
  ·rw[if_neg g];exact⟨az,fB⟩
 unfold Od
 split
 ·exact core _ _ _ _ _ λ_ _ _=>Ep
 ·exact core _ _ _ _ _ λc X G'=>Er ((hb c X G').2 _)
 ·exact⟨az,fB⟩
def Cv(c:Ct)(sub:Ct->(Expr->GE)×(Expr->GT))(f:Expr->GE)(t:Expr->GT):Expr->GE
 | .Name x _=>B5 c x
 | .Constant k _ _=>B7 k
 | .BinOp a o b _=>aj (M7 o) (f a) (f b)
 | .UnaryOp o a _=>U9 f o a
 | .BoolOp .And es _=>JX f es
 | .BoolOp .Or es _=>Qp f es
 | .Compare a os bs _=>JU c f a os bs
 | .IfExp q a b _=>je (t q) (f a) (f b)
 | .Tuple es _ _=>zd f di es
 | .List es _=>zd f cO es
 | .Subscript a b _=>JV c f a b
 | .Dict [] [] _=>Gu
 | .Dict ks vs _=>Ck (M8 ks||M9 c ks) f ks vs
 | .Call g as ks p=>Ca c f p g as ks
 | .ListComp elt gens scope _=>Od c sub f elt scope gens
 | _=>a9
def stepT(c:Ct)(f:Expr->GE)(t:Expr->GT):Expr->GT
 | .UnaryOp .Not a _=>qz (t a)
 | .BoolOp .And es _=>JY t es
 | .BoolOp .Or es _=>Qq t es
 | .Compare a os bs _=>Ci c f a os bs
 | .Name x p=>cJ (f (.Name x p))
 | .Call g as ks p=>cJ (f (.Call g as ks p))
 | .Subscript a b p=>cJ (f (.Subscript a b p))
 | .Constant k j p=>cJ (f (.Constant k j p))
 | .BinOp a o b p=>cJ (f (.BinOp a o b p))
 | _=>ft
theorem tU{c:Ct}{k:Nat}(G:Good c k X){sub:Ct->(Expr->GE)×(Expr->GT)}(hb:∀k c X,Good c k X->(∀e,JE X e ((sub c).1 e))/\∀e,JT X e ((sub c).2 e)){f:Expr->GE}{t:Expr->GT}(h:∀e,JE X e (f e))(ht:∀e,JT X e (t e))(e:Expr):JE X e (Cv c sub f t e):=by
 have hu:X.A.units+64 < cLine:=G.un
 cases e with
 | Name x p=>exact B6 G x p
 | Constant v j p=>exact y6 v j p
 | BinOp a o b p=>exact Io (Fd o) (h a) (h b)
 | UnaryOp o a p=>
  cases o with
  | USub=>exact Iq (h a)
  | Not=>exact Iy (h a)
  | _=>exact az
 | BoolOp o es p=>
  cases o with
  | And=>exact xh h p es
  | Or=>exact Cm h p es
 | Compare a os bs p=>exact Fh G h a os bs p
 | IfExp q a b p=>exact Mc (ht q) (h a) (h b)
 | Tuple es j p=>
  show JE X _ (zd f di es)
  unfold zd
  by_cases g:es.all plain=true
  ·rw[if_pos g];exact Iz (cE h es g)
  ·rw[if_neg g];exact az
 | List es p=>
  show JE X _ (zd f cO es)
  unfold zd
  by_cases g:es.all plain=true
  ·rw[if_pos g];exact IA (cE h es g)
  ·rw[if_neg g];exact az
 | Subscript a b p=>exact Fj G h a b p
 | Dict ks vs p=>
  cases ks with
  | cons k ks=>exact xg (by have:=G.un;omega) _ h (k::ks) vs p
  | nil=>
   cases vs with
   | nil=>exact EL
   | cons v vs=>exact xg (by have:=G.un;omega) (M8 []||M9 c []) h [] (v::vs) p
 | Call g as ks p=>exact Cc G h g as ks p
 | ListComp elt gens scope p=>exact(xn G (hb k) h elt scope gens p).1
 | _=>exact az
def zg:Expr->Bool
 | .ListComp .. =>true
 | .SetComp .. =>true
 | .DictComp .. =>true
 | .Set .. =>true
 | _=>false
theorem l9{e:Expr}{t:Option Expr}{n:Nat}{env:Env}(h:zg e=false):swapsWith e t n env=pure false:=by
 cases e<;>first | rfl | cases h
theorem Cw{c:Ct}{k:Nat}(G:Good c k X){sub:Ct->(Expr->GE)×(Expr->GT)}(hb:∀k c X,Good c k X->(∀e,JE X e ((sub c).1 e))/\∀e,JT X e ((sub c).2 e)){f:Expr->GE}{t:Expr->GT}(h:∀e,JE X e (f e))(ht:∀e,JT X e (t e))(e:Expr):Fl X e (Cv c sub f t e):=by
 by_cases g:zg e=false
 ·exact λi y py spos hN hi hl hf=>uV i hN (tU G hb h ht e) hi hl (l9 g) hf
 ·cases e with
  | ListComp elt gens scope p=>exact(xn G (hb k) h elt scope gens p).2
  | SetComp=>exact fB
  | DictComp=>exact fB
  | Set=>exact fB
  | _=>exact absurd rfl g
theorem Cy{c:Ct}{k:Nat}(G:Good c k X){f:Expr->GE}{t:Expr->GT}(h:∀e,JE X e (f e))(ht:∀e,JT X e (t e))(e:Expr):JT X e (stepT c f t e):=by
 have hu:X.A.units+64 < cLine:=G.un
 cases e with
 | UnaryOp o a p=>
  cases o with
  | Not=>exact Iv (ht a)
  | _=>exact eM
 | BoolOp o es p=>
  cases o with
  | And=>exact(xi ht p es).jt
  | Or=>exact(Co ht p es).jt
 | Compare a os bs p=>exact Cj G h a os bs p
 | Name x p=>exact mV (h _) (λ_=>rfl)
 | Call g as ks p=>exact mV (h _) (λ_=>rfl)
 | Subscript a b p=>exact mV (h _) (λ_=>rfl)
 | Constant v j p=>exact mV (h _) (λ_=>rfl)
 | BinOp a o b p=>exact mV (h _) (λ_=>rfl)
 | _=>exact eM
end
def i9:Nat->Ct->(Expr->GE)×(Expr->GT)
 | 0,_=>(λ_=>a9,λ_=>ft)
 | n+1,c=>(Cv c (i9 n) (i9 n c).1 (i9 n c).2,stepT c (i9 n c).1 (i9 n c).2)
section
variable {X:Cx}
theorem cw:∀(n:Nat)(k:Nat)(c:Ct)(X:Cx),Good c k X->(∀e,JE X e ((i9 n c).1 e))/\∀e,JT X e ((i9 n c).2 e)
 | 0,_,_,_,_=>⟨λ_=>az,λ_=>eM⟩
 | n+1,k,c,X,G=>⟨λe=>tU G (λk c X G=>cw n k c X G) (cw n k c X G).1 (cw n k c X G).2 e,λe=>Cy G (cw n k c X G).1 (cw n k c X G).2 e⟩
theorem Cz{k:Nat}:∀(n:Nat)(c:Ct)(X:Cx),Good c k X->∀e,Fl X e ((i9 n c).1 e)
 | 0,_,_,_,_=>fB
 | n+1,c,X,G,e=>Cw G (λk c X G=>cw n k c X G) (cw n k c X G).1 (cw n k c X G).2 e
def slot(c:Ct)(x:Str):Option Nat:=if c.names.lookup x=some .local\/(c.names.lookup x=some .cell/\c.top=true) then jk x c.N else none
def xo(c:Ct)(x:Str):Option Nat:=if c.names.lookup x=some .local then jk x c.N else none
theorem CA{c:Ct}{k:Nat}(G:Good c k X){x:Str}{i:Nat}(h:xo c x=some i):X.N[i]? =some x/\X.env.scope.names.lookup x=some .local:=by
 unfold xo at h
 by_cases e:c.names.lookup x=some .local
 ·rw[if_pos e] at h
  exact⟨by rw[G.N];exact eR h,by rw[G.sc];exact e⟩
 ·rw[if_neg e] at h;cases h
theorem l_{c:Ct}{k:Nat}(G:Good c k X){x:Str}{i:Nat}(h:slot c x=some i):X.N[i]? =some x/\(Loc X.env.scope x/\(X.fn x=true\/X.env.scope.names.lookup x=some .local)):=by
 unfold slot at h
 by_cases e:c.names.lookup x=some .local\/(c.names.lookup x=some .cell/\c.top=true)
 ·rw[if_pos e] at h
  refine⟨by rw[G.N];exact eR h,?_⟩
  rcases e with e | ⟨e,e2⟩
  ·have q:X.env.scope.names.lookup x=some .local:=by rw[G.sc];exact e
   exact⟨.inl q,.inr q⟩
  ·have q:X.env.scope.names.lookup x=some .cell:=by rw[G.sc];exact e
   exact⟨.inr q,.inl (G.fn e2 x)⟩
 ·rw[if_neg e] at h;cases h
def slots(c:Ct):List Expr->Option (List Nat)
 | []=>some []
 | .Name x _::es=>(match slot c x,slots c es with | some i,some is=>some (i::is) | _,_=>none)
 | _=>none
theorem nO{c:Ct}{k:Nat}(G:Good c k X):∀{es:List Expr}{is:List Nat},slots c es=some is->Slots X es is
 | [],is,h=>by cases h;exact .nil
 | e::es,is,h=>by
  cases e with
  | Name x p=>
   have h:(match slot c x,slots c es with | some i,some is=>some (i::is) | _,_=>none)=some is:=h
   cases e1:slot c x with
   | none=>rw[e1] at h;cases h
   | some i=>
    cases e2:slots c es with
    | none=>rw[e1,e2] at h;cases h
    | some js=>
     rw[e1,e2] at h
     cases h
     obtain⟨q1,q2⟩:=l_ G e1
     exact .cons q1 q2 (nO G e2)
  | _=>cases h
def J0:Expr->Bool
 | .Dict [] [] _=>true
 | _=>false
def J1(c:Ct)(f:Expr->GE)(v:Expr):List Expr->GS
 | [.Name x _]=>(match slot c x with | some i=>if J0 v=true/\c.tK.contains x=true then aH i sW else aH i (f v) | none=>bx)
 | [.Subscript o i _]=>if zg v=false/\zc i=false then(if Fi c o=true then wU (f v) (f o) (f i) else wz (f v) (f o) (f i)) else bx
 | _=>bx
theorem J2{c:Ct}{k:Nat}(G:Good c k X){f:Expr->GE}(h:∀e,JE X e (f e))(ha:∀e,Fl X e (f e))(v:Expr)(ts:List Expr)(pos:Pos):JS X (.Assign ts v pos) (J1 c f v ts):=by
 unfold J1
 split
 ·rename_i x p
  cases e:slot c x with
  | none=>exact aV
  | some i=>
   obtain⟨e1,e2⟩:=l_ G e
   dsimp only
   by_cases g:J0 v=true/\c.tK.contains x=true
   ·rw[if_pos g]
    have gv:=g.1
    unfold J0 at gv
    split at gv
    ·exact uV i (by rw[G.N];exact G.nd) EK e1 e2.1 rfl e2.2
    ·cases gv
   ·rw[if_neg g];exact ha v i x _ _ (by rw[G.N];exact G.nd) e1 e2.1 e2.2
 ·rename_i o i p
  by_cases g:zg v=false/\zc i=false
  ·rw[if_pos g]
   have g2:=g.2
   by_cases gd:Fi c o=true
   ·rw[if_pos gd];exact EN (by have:=G.un;omega) (h v) (h o) (h i) (l9 g.1)
   rw[if_neg gd]
   refine Ea (h v) (h o) (h i) (by unfold swapsWithSole;exact l9 g.1) ?_ rfl ?_
   ·cases v<;>rfl
   ·intro _
    cases i<;>first | rfl | cases g2
  ·rw[if_neg g];exact aV
 ·exact aV
def J3(c:Ct)(f:Expr->GE)(i:Nat)(gb:GS):Expr->GS
 | .Call (.Name x p) [a] [] q=>if gF c x=true then(if plain a=true then j_ i (f7 f [a]) gb else bx) else uZ i (f (.Call (.Name x p) [a] [] q)) gb
 | e=>if isSet e=false then uZ i (f e) gb else bx
theorem J4{c:Ct}{k:Nat}(G:Good c k X)(hl:c.loop=true){f:Expr->GE}(h:∀e,JE X e (f e)){x:Str}{i:Nat}(hx:slot c x=some i){body:List Stmt}{gb:GS}(hb:i7 X body gb)(e:Expr)(pos pos':Pos):JS X (.For (.Name x pos') e body [] pos) (J3 c f i gb e):=by
 have nd:X.N.Nodup:=by rw[G.N];exact G.nd
 obtain⟨e1,e2⟩:=l_ G hx
 have rg:=nK G
 unfold J3
 split
 ·rename_i y p a q
  by_cases g:gF c y=true
  ·rw[if_pos g]
   obtain⟨rfl,g2,g3⟩:=rg y g
   by_cases ga:plain a=true
   ·rw[if_pos ga]
    exact AZ i nd (G.loop hl).2 (G.loop hl).1 g2 g3 (cE h [a] (by simp[ga])) hb e1 e2.1 e2.2 (aJ ga)
   ·rw[if_neg ga];exact aV
  ·rw[if_neg g];exact AY i nd (G.loop hl).2 (G.loop hl).1 (h _) hb e1 e2.1 e2.2 (fA rfl)
 ·by_cases g:isSet e=false
  ·rw[if_pos g];exact AY i nd (G.loop hl).2 (G.loop hl).1 (h _) hb e1 e2.1 e2.2 (fA g)
  ·rw[if_neg g];exact aV
def GC(c:Ct)(x:Str):Bool:=decide (x="reversed")&&decide (c.names.lookup x=some .globalImplicit)&&c.bl.contains x
def J5(c:Ct):Expr->Bool
 | .Call (.Name x _) [a] [] _=>GC c x&&plain a
 | _=>false
def Qt(f:Expr->GE)(i:Nat)(gb:GS):Expr->GS
 | .Call _ [a] _ _=>tH i (f7 f [a]) gb
 | _=>bx
def M'(c:Ct)(f:Expr->GE)(i:Nat)(gb:GS)(e:Expr):GS:=match xl c e with
 | some j=>pZ j (w6 i (f e) gb)
 | none=>w6 i (f e) gb
def J6(c:Ct)(f:Expr->GE)(i:Nat)(gb:GS)(e:Expr):GS:=if J5 c e=true then Qt f i gb e else if tO c e=true then M' c f i gb e else J3 c f i gb e
theorem Fm{c:Ct}{k:Nat}(G:Good c k X)(hl:c.loop=true){f:Expr->GE}(h:∀e,JE X e (f e)){x:Str}{i:Nat}(hx:slot c x=some i){body:List Stmt}{gb:GS}(hb:i7 X body gb)(e:Expr)(pos pos':Pos):JS X (.For (.Name x pos') e body [] pos) (J6 c f i gb e):=by
 have nd:X.N.Nodup:=by rw[G.N];exact G.nd
 obtain⟨e1,e2⟩:=l_ G hx
 unfold J6
 by_cases g:J5 c e=true
 ·rw[if_pos g]
  unfold J5 at g
  split at g
  ·rename_i y p a q
   unfold GC at g
   simp only[Bool.and_eq_true,decide_eq_true_eq] at g
   obtain⟨⟨⟨rfl,g2⟩,g3⟩,g4⟩:=g
   exact E7 i nd (G.loop hl).2 (G.loop hl).1 (by show X.env.scope.names.lookup _=_;rw[G.sc];exact g2) (G.bl _ g3) (cE h [a] (by simp[g4])) (aJ g4) hb e1 e2.1 e2.2
  ·cases g
 ·rw[if_neg g]
  by_cases g2:tO c e=true
  ·rw[if_pos g2]
   have go:JS X (.For (.Name x pos') e body [] pos) (w6 i (f e) gb):=by
    refine E3 i nd (G.loop hl).2 (G.loop hl).1 (h e) hb e1 e2.1 e2.2 ?_
    unfold tO at g2
    split at g2
    ·exact λ_=>rfl
    ·cases g2
   unfold M'
   cases xl c e with
   | none=>exact go
   | some j=>exact wY j go
  ·rw[if_neg g2];exact J4 G hl h hx hb e pos pos'
def vG(c:Ct)(f:Expr->GE):Expr->GS
 | .Call (.Name x _) (e::es) [] _=>if okN x=true/\(e::es).all plain=true/\c.names.lookup x=some .globalImplicit/\c.clss.contains x=true/\c.free=true then mW x (f7 f (e::es)) else bx
 | _=>bx
theorem CB{c:Ct}{k:Nat}(G:Good c k X){f:Expr->GE}(h:∀e,JE X e (f e))(e:Expr)(pos:Pos):JS X (.Raise (some e) none pos) (vG c f e):=by
 unfold vG
 split
 ·rename_i x p e es q
  by_cases g:okN x=true/\(e::es).all plain=true/\c.names.lookup x=some .globalImplicit/\c.clss.contains x=true/\c.free=true
  ·rw[if_pos g]
   obtain⟨g1,g2,g3,g4,g5⟩:=g
   have hg:Gl X x:=by
    show X.env.scope.names.lookup x=_
    rw[G.sc];exact g3
   have gp:plain e=true/\es.all plain=true:=by rw[List.all_cons,Bool.and_eq_true] at g2;exact g2
   obtain⟨C,q1,q2⟩:=G.cls x g4
   exact A0 (G.free g5).2 q2 hg q1 (cE h (e::es) g2) (dh g1) (aJ gp.1) (eJ gp.2)
  ·rw[if_neg g];exact aV
 ·exact aV
def J7(c:Ct)(b:Ct->List Stmt->GS)(body:List Stmt):List ExceptHandler->GS
 | [.ExceptHandler (some (.Name x _)) (some n) (b0::suite) _]=>if okN x=true/\c.names.lookup x=some .globalImplicit/\c.clss.contains x=true/\c.free=true/\c.top=true then
   (match xo c n with
   | some i=>yy (λy=>c.tc.lookup (y,x)) i (b c.Gz body) (b c.qT (b0::suite))
   | none=>bx) else bx
 | _=>bx
theorem J8{c:Ct}{k:Nat}(G:Good c k X){b:Ct->List Stmt->GS}(hb:∀c X,Good c k X->∀s,i7 X s (b c s))(body:List Stmt)(hs:List ExceptHandler)(pos:Pos):JS X (.Try body hs [] [] pos) (J7 c b body hs):=by
 unfold J7
 split
 ·rename_i x p n b0 suite q
  by_cases g:okN x=true/\c.names.lookup x=some .globalImplicit/\c.clss.contains x=true/\c.free=true/\c.top=true
  ·rw[if_pos g]
   obtain⟨g1,g3,g4,g5,g6⟩:=g
   have hg:Gl X x:=by
    show X.env.scope.names.lookup x=_
    rw[G.sc];exact g3
   obtain⟨D,q1,q2⟩:=G.cls x g4
   cases e1:xo c n with
   | none=>exact aV
   | some i=>
    obtain⟨e2,e3⟩:=CA G e1
    exact IS (G.stk g6) (by rw[G.N];exact G.nd) e2 e3 (G.free g5).2 G.tab hg q1 q2.cls (dh g1) (λpn E=>hb _ _ (G.body g5 pn E) _) λa o u pn E nx=>hb _ _ (G.suite nx pn E) _
  ·rw[if_neg g];exact aV
 ·exact aV
def qV:Nat:=100000
def CC(c:Ct)(f:Expr->GE)(t:Expr->GT)(b:Ct->List Stmt->GS):Stmt->GS
 | .Return (some e) _=>aY (f e)
 | .Return none _=>aY (gC .aE)
 | .Expr e _=>if zg e=false then ip (f e) else bx
 | .If q x y _=>i8 (t q) (b c x) (b c y)
 | .Assign ts v _=>J1 c f v ts
 | .For (.Name x _) e body [] _=>if c.loop=true then(match slot c x with | some i=>J6 c f i (b c body) e | none=>bx) else bx
 | .For (.Tuple es _ _) e body [] _=>if c.loop=true/\isSet e=false then(match slots c es with | some is=>(if GB c e=true then Gv is (vE c f e) (b c body) else wB is (f e) (b c body)) | none=>bx) else bx
 | .While q body [] _=>if c.loop=true then qQ qV (t q) (b c body) else bx
 | .Raise (some e) none _=>vG c f e
 | .Try body hs [] [] _=>J7 c b body hs
 | .Pass _=>a8
 | _=>bx
theorem CD{c:Ct}{k:Nat}(G:Good c k X){f:Expr->GE}{t:Expr->GT}{b:Ct->List Stmt->GS}(h:∀e,JE X e (f e))(ha:∀e,Fl X e (f e))(ht:∀e,JT X e (t e))(hb:∀c X,Good c k X->∀s,i7 X s (b c s))(s:Stmt):JS X s (CC c f t b s):=by
 unfold CC
 split
 ·exact IJ (h _)
 ·exact Eh
 ·rename_i e p
  by_cases g:zg e=false
  ·rw[if_pos g];exact D_ (h _) (l9 g)
  ·rw[if_neg g];exact aV
 ·exact Mv (ht _) (hb c X G _) (hb c X G _)
 ·exact J2 G h ha _ _ _
 ·rename_i x p e body q
  by_cases g:c.loop=true
  ·rw[if_pos g]
   cases e1:slot c x with
   | none=>exact aV
   | some i=>exact Fm G g h e1 (hb c X G body) e _ _
  ·rw[if_neg g];exact aV
 ·rename_i es kk p e body q
  by_cases g:c.loop=true/\isSet e=false
  ·rw[if_pos g]
   cases e1:slots c es with
   | none=>exact aV
   | some is=>
    dsimp only
    by_cases ge:GB c e=true
    ·rw[if_pos ge];exact ES (by rw[G.N];exact G.nd) (G.loop g.1).2 (G.loop g.1).1 (nO G e1) (Cp G h es kk p e) (hb c X G body) (fA g.2)
    ·rw[if_neg ge]
     exact El (by rw[G.N];exact G.nd) (G.loop g.1).2 (G.loop g.1).1 (nO G e1) (h e) (hb c X G body) (fA g.2)
  ·rw[if_neg g];exact aV
 ·rename_i q body p
  by_cases g:c.loop=true
  ·rw[if_pos g];exact BI qV (G.loop g).2 (ht _) (hb c X G body)
  ·rw[if_neg g];exact aV
 ·exact CB G h _ _
 ·exact J8 G hb _ _ _
 ·exact D9
 ·exact aV
end
def vH(f:Stmt->GS):List Stmt->GS
 | []=>a8
 | [s]=>f s
 | s::s'::r=>ay (f s) (vH f (s'::r))
theorem tV{X:Cx}{f:Stmt->GS}(h:∀s,JS X s (f s)):∀ss,i7 X ss (vH f ss)
 | []=>D7
 | [s]=>D8 (h s)
 | s::s'::r=>AK (h s) (tV h (s'::r))
def aW:Nat->Ct->List Stmt->GS
 | 0,_=>λ_=>bx
 | n+1,c=>vH (CC c (i9 40 c).1 (i9 40 c).2 (aW n))
theorem jU{k:Nat}:∀(n:Nat)(c:Ct)(X:Cx),Good c k X->∀ss:List Stmt,i7 X ss (aW n c ss)
 | 0,_,_,_,_=>yj
 | n+1,c,X,G,ss=>tV (λs=>CD G (cw 40 k c X G).1 (Cz 40 c X G) (cw 40 k c X G).2 (jU n) s) ss
structure Fn(K:PySem.W.Frag)(mg:Str->Option WU)(q:Str)(P:WN):Prop where
 tab:gA K q=some P
 code:∃c o vs file tf flags tg Qu text tt,PySem.W.tabIn K q=some (c,P)/\K.lookup c=some o/\o.cls= .type "code"/\o.data= .fields vs/\vs[11]? =some (.ref P)/\vs.getD 11 .none= .ref P/\vs.getD 18 .none= .str file tf/\
  vs.getD 7 .none= .int flags tg/\vs.getD 9 .none= .bool Qu/\vs.getD 10 .none= .int text tt/\c≠P
 mem:q∈bM
 uniq:∀q',q'∈bM->gA K q'=some P->q'=q
theorem Fn.at'{X:Cx}{q:Str}{P f:WN}{cdv:WU}(h:Fn X.K X.mg q P)(M:BG X.K X.mg X.base)(hn:PySem.W.nsIn X.K W5 q=some (some (.ref f)))(hc:AN X.K f cdv)(e1:X.env.code=cdv)(e2:X.env.qual=q++".<locals>."):Gw X q P:=by
 obtain⟨c,o,vs,file,tf,flags,tg,Qu,text,tt,t,l,r⟩:=h.code
 refine⟨⟨c,?_,o,vs,file,tf,flags,tg,Qu,text,tt,M.1.G_ _ _ l,r⟩,e2,h.tab,h.mem,h.uniq,M.2⟩
 ·obtain⟨of,lf,fd,d,cd⟩:=hc
  rw[e1,<-cd]
  unfold PySem.W.tabIn at t
  rw[hn] at t
  dsimp only at t
  rw[lf] at t
  obtain⟨oc,od,da,sl⟩:=of
  dsimp only at d
  subst d
  dsimp only at t
  cases q1:fd.code with
  | ref c2=>
   rw[q1] at t
   dsimp only at t
   split at t
   ·split at t
    ·cases t;rfl
    ·cases t
   ·cases t
  | _=>rw[q1] at t;cases t
structure CF(c:Ct)(k:Nat)(P:WS)(w:WV)(K:PySem.W.Frag)(mg:Str->Option WU)(base:Heap):Prop where
 lam:∀p L,c.lam=some (p,L)->Jy P w K mg base k p 3 L
 B1:∀x F,c.B1.lookup x=some F->Sr P w K mg k c.lj x F
 JM:∀x n F,c.fns.lookup x=some (n,F)->c.Qo.contains x=true->∀base,BG K mg base->gq P w K mg base c.lj x n F
 at':c.self∈bM->∃P,Fn K mg c.self P
theorem CF.no{c:Ct}{k:Nat}{P:WS}{w:WV}{K:PySem.W.Frag}{mg:Str->Option WU}{base:Heap}(h1:c.lam=none)(h2:c.B1=[])(h3:c.Qo=[])(h4:c.self=""):CF c k P w K mg base :=
 ⟨(λp L e=>by rw[h1] at e;cases e),(λx F e=>by rw[h2] at e;cases e),(λx n F _ e=>by rw[h3] at e;cases e),(λe=>by rw[h4] at e;exact absurd e (by decide))⟩
structure xp(c:Ct)(k:Nat)(P:WS)(w:WV)(K:PySem.W.Frag)(mg:Str->Option WU)(base:Heap):Prop where
 cst:∀x w,c.consts.lookup x=some w->B3 K mg x w
 bl:∀x,c.bl.contains x=true->mg x=none
 fns:∀x n F,c.fns.lookup x=some (n,F)->gq P w K mg base k x n F
 tab:TabOk K c.tb c.tt c.tc
 cls:∀x,c.clss.contains x=true->∃C,mg x=some (.ref C)/\Ei K x C
 vz:∀x,c.vz.contains x=true->∃C,mg x=some (.ref C)/\ClsAt K x C
 y3:∀x kvs,c.y3.lookup x=some kvs->lI K w mg x kvs
 vA:∀x n F,c.vA.contains x=true->c.fns.lookup x=some (n,F)->sZ P w K mg base k x n F
 x:CF c k P w K mg base
theorem aG{P:WS}{w:WV}{K:PySem.W.Frag}{mg:Str->Option WU}{base:Heap}{h:Heap}{k:Nat}{c:Ct}{x:Str}{st:Stmt}{ps:List Str}{g:GS}(KX:K.In h)(NS:h.Ns W5 mg)(D:aZ K x st)(T:xp c k P w K mg base)
  (S:FnScope c.N ps (defScope st))(hn:(defScope st).names=c.names)(hg:aW 30 c (defBody st)=g)
  (hb:∀(kV doc pm:WU)(an:Option WN)(cdv ct:WU)(us:List WU),us.length=ps.length->bindArgs (PySem.W.fnOf x x (defArgs st) (defBody st) (defScope st) .none kV doc pm an cdv ct) ⟨us,[]⟩=pure (ps.zip us))(hM:c.self∈bM->BG K mg base/\c.self=x:=by exact λz=>absurd (show("":Str)∈bM from z) (by decide)) :
  gq P w K mg base (k+1) x ps.length (cq c.N.length g):=by
 obtain⟨f,fd,a,F⟩:=D
 refine⟨f,fd,ps,?_,PySem.W.mg_of KX NS a,F.kp,F.binds hb⟩
 subst hg
 refine Gh F S λcdv Qv A outer s H E hr=>?_
 refine jU (k:=k) 30 c _ ⟨rfl,hn,S.nd,xa hr,λ_=>⟨hr,rfl⟩,λ_=>⟨rfl,PassesOwn.leaving⟩,T.cst,T.bl,T.fns,λ_=>⟨rfl,rfl,rfl⟩,λ_ _=>rfl,S.kind,T.tab,T.cls,T.vz,T.y3,dW.of hr,T.vA,⟨T.x.lam,T.x.B1,T.x.JM,λ_ z=>?_⟩,⟨_,_,_,rfl,rfl,rfl⟩,.inl hr.hd⟩ _
 obtain⟨P',L⟩:=T.x.at' z
 obtain⟨M,e⟩:=hM z
 exact⟨P',Fn.at' L M (by rw[e];exact a) Qv rfl (by rw[e];rfl)⟩
theorem CG{P:WS}{w:WV}{K:PySem.W.Frag}{mg:Str->Option WU}{base:Heap}{h:Heap}{k:Nat}{c:Ct}{x:Str}{st:Stmt}{ps:List Str}{g:GS}(KX:K.In h)(NS:h.Ns W5 mg)(D:aZ K x st)(T:xp c k P w K mg base)
  (S:FnScope c.N ps (defScope st))(hn:(defScope st).names=c.names)(hg:aW 30 c.un (defBody st)=g)
  (hb:∀(kV doc pm:WU)(an:Option WN)(cdv ct:WU)(us:List WU),us.length=ps.length->bindArgs (PySem.W.fnOf x x (defArgs st) (defBody st) (defScope st) .none kV doc pm an cdv ct) ⟨us,[]⟩=pure (ps.zip us))(hs:c.self∉bM:=by exact(show("":Str)∉bM by decide)) :
  sZ P w K mg base (k+1) x ps.length (cq c.N.length g):=by
 obtain⟨f,fd,a,F⟩:=D
 refine⟨f,fd,ps,?_,PySem.W.mg_of KX NS a,F.kp,F.binds hb⟩
 subst hg
 refine Qd F S λcdv A outer s H E hr hz=>?_
 exact jU (k:=k) 30 c.un (ER P w K mg base c.N x (defScope st) f cdv A outer s H E) ⟨rfl,hn,S.nd,hr.UX,(λz=>by cases z),(λz=>by cases z),T.cst,T.bl,T.fns,λ_=>⟨rfl,rfl,rfl⟩,λ_ _=>rfl,S.kind,T.tab,T.cls,T.vz,T.y3,hr,T.vA,⟨T.x.lam,T.x.B1,T.x.JM,λ_ z=>absurd z hs⟩,⟨_,_,_,rfl,rfl,rfl⟩,hz⟩ _
theorem Fo{P:WS}{w:WV}{K:PySem.W.Frag}{mg:Str->Option WU}{h:Heap}{k:Nat}{F:List Wv->Hs->Re Wv}{fa:WN}{st:Stmt}(KX:K.In h)(NS:h.Ns W5 mg)(hmg:mg "law"=some (.ref fa))(D:aZ K "law" st)
  (hp:∀(kV doc pm:WU)(an:Option WN)(cdv ct:WU)(s:WT)(u:WU),BindsTo s (PySem.W.fnOf "law" "law" (defArgs st) (defBody st) (defScope st) .none kV doc pm an cdv ct) ⟨[u],[]⟩ [("script",u)])
  (FN:∀(f:WN)(fd:WQ),F5 K "law" "law" st f fd->∀base:Heap,K.In base->base.Ns W5 mg->FnOk P w K mg base (CXJ P w) k f fd ["script"] (spW K 1 F)) :
  ∃fd:WQ,(∀(s:WT)(u:WU),BindsTo s fd ⟨[u],[]⟩ [("script",u)])/\∀base:Heap,K.In base->base.Ns W5 mg->FnOk P w K mg base (CXJ P w) k fa fd ["script"] (spW K 1 F):=by
 obtain⟨f,fd,a,Fu⟩:=D
 have e:=hmg.symm.trans (PySem.W.mg_of KX NS a)
 cases e
 refine⟨fd,λs u=>?_,FN fa fd Fu⟩
 obtain⟨oc,od,kV,doc,pm,an,cdv,ct,osl,rfl,lk,hcd⟩:=Fu.ex
 exact hp kV doc pm an cdv ct s u
theorem J9{P:WS}{w:WV}{K:PySem.W.Frag}{mg:Str->Option WU}{base:Heap}{k:Nat}{c:Ct}{x:Str}{st:Stmt}{ps:List Str}{g:GS}{f:WN}{fd:WQ}(F:F5 K x x st f fd)(T:xp c k P w K mg base)
  (S:FnScope c.N ps (defScope st))(hn:(defScope st).names=c.names)(hg:aW 30 c (defBody st)=g)(hs:c.self∉bM:=by exact(show("":Str)∉bM by decide)):FnOk P w K mg base (CXJ P w) (k+1) f fd ps (spW K ps.length (cq c.N.length g)):=by
 subst hg
 refine Gh F S λcdv _ A outer s H E hr=>?_
 exact jU (k:=k) 30 c _ ⟨rfl,hn,S.nd,xa hr,λ_=>⟨hr,rfl⟩,λ_=>⟨rfl,PassesOwn.leaving⟩,T.cst,T.bl,T.fns,λ_=>⟨rfl,rfl,rfl⟩,λ_ _=>rfl,S.kind,T.tab,T.cls,T.vz,T.y3,dW.of hr,T.vA,⟨T.x.lam,T.x.B1,T.x.JM,λ_ z=>absurd z hs⟩,⟨_,_,_,rfl,rfl,rfl⟩,.inl hr.hd⟩ _
end J
namespace J
open PySem PySem.Spec PyProof.Rows L2
def AllP{α:Type}(P:α->Prop):List α->Prop
 | []=>True
 | a::l=>P a/\AllP P l
theorem AllP.look{κ β:Type}[BEq κ][LawfulBEq κ]{P:κ×β->Prop}:∀{l:List (κ×β)}{x:κ}{b:β},AllP P l->l.lookup x=some b->P (x,b)
 | [],_,_,_,h=>by cases h
 | (y,c)::l,x,b,a,h=>by
  rw[List.lookup_cons] at h
  cases e:x == y with
  | true=>
   rw[e] at h
   cases h
   have e':=eq_of_beq e
   subst e'
   exact a.1
  | false=>rw[e] at h;exact AllP.look a.2 h
theorem AllP.mem{P:Str->Prop}:∀{l:List Str}{x:Str},AllP P l->l.contains x=true->P x
 | [],_,_,h=>by cases h
 | y::l,x,a,h=>by
  rw[List.contains_cons,Bool.or_eq_true] at h
  rcases h with e | h
  ·have e':=eq_of_beq e
   subst e'
   exact a.1
  ·exact AllP.mem a.2 h
theorem jV{K:PySem.W.Frag}{c:PySem.Str}{C D:WN}(h:ClsAt K c C)(k:ClsAt K c D):C=D:=by
 unfold ClsAt at h k
 rw[h] at k
 cases k
 rfl
theorem J_{K:PySem.W.Frag}{tb:Tab}{tt:oJ}{tc:Tab}(h:AllP (λp=>∃C D,ClsAt K p.1.1 C/\ClsAt K p.1.2 D/\j' K C/\PySem.W.kitOne K (.ref C) (.ref D)=some p.2) tb)
  (g:AllP (λp=>∃C,ClsAt K p.1.1 C/\j' K C/\PySem.W.kitOne K (.ref C) (.type p.1.2)=some p.2) tt)
  (f:AllP (λp=>∃C D,ClsAt K p.1.1 C/\ClsAt K p.1.2 D/\PySem.W.excIn K C yp yq=true/\PySem.W.excIn K D yp yq=true/\PySem.W.mroIn K C (.ref D)=some p.2) tc):TabOk K tb tt tc :=
 ⟨λc d b C D e hC hD=>by
  obtain⟨C',D',q1,q2,r⟩:=AllP.look h e
  cases jV hC q1
  cases jV hD q2
  exact r,λc d b C D e hC hD=>by
  obtain⟨C',D',q1,q2,r⟩:=AllP.look f e
  cases jV hC q1
  cases jV hD q2
  exact r,λc T b C e hC=>by
  obtain⟨C',q1,r⟩:=AllP.look g e
  cases jV hC q1
  exact r⟩
theorem aA{c:Ct}{k:Nat}{P:WS}{w:WV}{K:PySem.W.Frag}{mg:Str->Option WU}{base:Heap}(hc:AllP (λp=>B3 K mg p.1 p.2) c.consts)(hb:AllP (λx=>mg x=none) c.bl)(hf:AllP (λp=>gq P w K mg base k p.1 p.2.1 p.2.2) c.fns)
  (ht:TabOk K c.tb c.tt c.tc)(hk:AllP (λx=>∃C,mg x=some (.ref C)/\Ei K x C) c.clss)(hn:AllP (λx=>∃C,mg x=some (.ref C)/\ClsAt K x C) c.vz)(hd:AllP (λp=>lI K w mg p.1 p.2) c.y3)
  (hu:AllP (λx=>∀n F,c.fns.lookup x=some (n,F)->sZ P w K mg base k x n F) c.vA:=by exact trivial)(hx:CF c k P w K mg base:=by exact CF.no rfl rfl rfl rfl):xp c k P w K mg base :=
 ⟨λ_ _ h=>hc.look h,λ_ h=>hb.mem h,λx n F h=>hf.look (b:=(n,F)) h,ht,λ_ h=>hk.mem h,λ_ h=>hn.mem h,λx kvs h=>hd.look (b:=kvs) h,λx n F h k=>hu.mem h n F k,hx⟩
end J
namespace J
open PySem PySem.Spec PyProof.Rows L2
end J
namespace J
open PySem PySem.Spec PyProof.Rows L2
def Rs.sq(r:Rs)(h:GS):Rs:=match r with
 | .nx ρ st=>h ρ st
 | r=>r
section
variable {α β:Type} {ρ ρ':aT} {st:Hs} {h g WI WJ:GS} {ga gb gc:GE} {gt gu:GT} {w:Wv} {c:PySem.Str} {f:α->Hs->Re β} {k:α->Hs->Rs} {a:α} {i:Nat}
@[simp] theorem nP:(Rs.nx ρ st).sq h=h ρ st:=rfl
@[simp] theorem Sy:(Rs.rt w st).sq h= .rt w st:=rfl
@[simp] theorem Sz:(Rs.bk ρ st).sq h= .bk ρ st:=rfl
@[simp] theorem SD:(Rs.ct ρ st).sq h= .ct ρ st:=rfl
@[simp] theorem Qw:(Rs.err c ρ st).sq h= .err c ρ st:=rfl
@[simp] theorem Qx:Rs.bad.sq h= .bad:=rfl
@[simp] theorem Oe:(Re.ok a st).bind f=f a st:=rfl
@[simp] theorem Na:(Re.err c st).bind f= .err c st:=rfl
@[simp] theorem Nb:(Re.bad:Re α).bind f= .bad:=rfl
@[simp] theorem Qy:(Re.ok a st).aI ρ k=k a st:=rfl
@[simp] theorem Of:(Re.err c st:Re α).aI ρ k= .err c ρ st:=rfl
@[simp] theorem Qz:(Re.ok a st).gw= .ok a st:=rfl
@[simp] theorem Og:(Re.bad:Re α).gw= .bad:=rfl
@[simp] theorem Oh:(Re.bad:Re α).aI ρ k= .bad:=rfl
@[simp] theorem Nc:ay g h ρ st=(g ρ st).sq h:=by unfold ay Rs.sq;cases g ρ st<;>rfl
@[simp] theorem e_next:a8 ρ st= .nx ρ st:=rfl
@[simp] theorem SF:aY ga ρ st=(ga ρ st).aI ρ λw st'=> .rt w st':=rfl
@[simp] theorem e_expr:ip ga ρ st=(ga ρ st).aI ρ λ_ st'=> .nx ρ st':=rfl
@[simp] theorem SG:aH i ga ρ st=(ga ρ st).aI ρ λw st'=> .nx (ρ.set i (some w)) st':=rfl
def QA(ga gb:GS)(ρ:aT):Bool->Hs->Rs:=λb st'=>if b=true then ga ρ st' else gb ρ st'
@[simp] theorem SH:QA g h ρ true st=g ρ st:=rfl
@[simp] theorem SI:QA g h ρ false st=h ρ st:=rfl
@[simp] theorem U_:i8 gt g h ρ st=(gt ρ st).aI ρ (QA g h ρ):=rfl
def SJ(o:Option (Option Wv))(st:Hs):Re Wv:=match o with
 | some (some w)=> .ok w st
 | _=> .bad
@[simp] theorem SK:SJ (some (some w)) st= .ok w st:=rfl
@[simp] theorem Nf:ae i ρ st=SJ ρ[i]? st:=rfl
@[simp] theorem e_c:gC w ρ st= .ok w st:=rfl
def kB(op:dj)(gb:GE)(ρ:aT):Wv->Hs->Re Wv:=λx st1=>(gb ρ st1).bind λy st2=>(op x y st2).gw
@[simp] theorem U'{op:dj}{x:Wv}:kB op gb ρ x st=(gb ρ st).bind λy st2=>(op x y st2).gw:=rfl
@[simp] theorem SM{op:dj}:aj op ga gb ρ st=(ga ρ st).bind (kB op gb ρ):=rfl
@[simp] theorem SN:bg ga ρ st=(ga ρ st).bind K':=rfl
@[simp] theorem SQ{b:Bool}:K' (.bl b) st= .ok b st:=rfl
@[simp] theorem SR:cJ ga ρ st=(ga ρ st).bind mU:=rfl
@[simp] theorem QB{b:Bool}:mU (.bl b) st= .ok b st:=rfl
@[simp] theorem SU:qz gt ρ st=(gt ρ st).bind λb st1=> .ok (!b) st1:=rfl
def Ka(gb:GT)(ρ:aT):Bool->Hs->Re Bool:=λb st1=>if b=true then gb ρ st1 else .ok false st1
@[simp] theorem QC:Ka gu ρ true st=gu ρ st:=rfl
@[simp] theorem QD:Ka gu ρ false st= .ok false st:=rfl
@[simp] theorem SV:yf gt gu ρ st=(gt ρ st).bind (Ka gu ρ):=rfl
def QE(gb:GT)(ρ:aT):Bool->Hs->Re Bool:=λb st1=>if b=true then .ok true st1 else gb ρ st1
@[simp] theorem SX:QE gu ρ true st= .ok true st:=rfl
@[simp] theorem SY:QE gu ρ false st=gu ρ st:=rfl
@[simp] theorem Va:L9 gt gu ρ st=(gt ρ st).bind (QE gu ρ):=rfl
def CH(gb:GE)(ρ:aT):Wv->Hs->Re Wv:=λw st1=>match w with
 | .bl true=>gb ρ st1
 | .bl false=> .ok (.bl false) st1
 | _=> .bad
@[simp] theorem Oi:CH gb ρ (.bl true) st=gb ρ st:=rfl
@[simp] theorem Oj:CH gb ρ (.bl false) st= .ok (.bl false) st:=rfl
@[simp] theorem QF:wx ga gb ρ st=(ga ρ st).bind (CH gb ρ):=rfl
def Ng:Wv->Hs->Re Wv:=λw st1=>match w with
 | .bl b=> .ok (.bl (!b)) st1
 | _=> .bad
@[simp] theorem Ol{b:Bool}:Ng (.bl b) st= .ok (.bl (!b)) st:=rfl
def Kb(ga gb:GE)(ρ:aT):Bool->Hs->Re Wv:=λb st1=>if b=true then ga ρ st1 else gb ρ st1
@[simp] theorem QG:Kb ga gb ρ true st=ga ρ st:=rfl
@[simp] theorem QH:Kb ga gb ρ false st=gb ρ st:=rfl
@[simp] theorem S0:je gt ga gb ρ st=(gt ρ st).bind (Kb ga gb ρ):=rfl
@[simp] theorem Nh:ai ρ st= .ok [] st:=rfl
def GD(gr:GA)(ρ:aT):Wv->Hs->Re (List Wv):=λx st1=>(gr ρ st1).bind λxs st2=> .ok (x::xs) st2
@[simp] theorem Om{gr:GA}{x:Wv}:GD gr ρ x st=(gr ρ st).bind λxs st2=> .ok (x::xs) st2:=rfl
@[simp] theorem Kc{gr:GA}:aa ga gr ρ st=(ga ρ st).bind (GD gr ρ):=rfl
def Fp:List Wv->Hs->Re Wv:=λws st1=>if ws.length<=lim then .ok (.tup ws) st1 else .bad
theorem CI{ws:List Wv}(hl:ws.length<=lim):Fp ws st= .ok (.tup ws) st:=if_pos hl
@[simp] theorem Ni{gr:GA}:di gr ρ st=(gr ρ st).bind Fp:=rfl
def iu:List Wv->Hs->Re Wv:=λws st1=>if ws.length<=lim then .ok (.ref st1.length) (st1++[.lst ws]) else .bad
theorem cS{ws:List Wv}(hl:ws.length<=lim):iu ws st= .ok (.ref st.length) (st++[.lst ws]):=if_pos hl
@[simp] theorem S7{gr:GA}:cO gr ρ st=(gr ρ st).bind iu:=rfl
section
variable {x x0 x1 x2 x3 x4 x5 x6 x7:Wv}
@[simp] theorem QI:Fp [x0,x1] st= .ok (.tup [x0,x1]) st:=CI (by simp[lim])
@[simp] theorem QJ:Fp [x0,x1,x2,x3,x4] st= .ok (.tup [x0,x1,x2,x3,x4]) st:=CI (by simp[lim])
@[simp] theorem QK:iu [] st= .ok (.ref st.length) (st++[.lst []]):=cS (by simp[lim])
@[simp] theorem QL:iu [x0] st= .ok (.ref st.length) (st++[.lst [x0]]):=cS (by simp[lim])
@[simp] theorem Kd:iu [x0,x1] st= .ok (.ref st.length) (st++[.lst [x0,x1]]):=cS (by simp[lim])
@[simp] theorem Ke:iu [x0,x1,x2,x3] st= .ok (.ref st.length) (st++[.lst [x0,x1,x2,x3]]):=cS (by simp[lim])
@[simp] theorem QM:iu [x0,x1,x2,x3,x4] st= .ok (.ref st.length) (st++[.lst [x0,x1,x2,x3,x4]]):=cS (by simp[lim])
end
def qe(n:Nat)(F:List Wv->Hs->Re Wv):List Wv->Hs->Re Wv:=λws st1=>if ws.length=n then F ws st1 else .bad
section
variable {F:List Wv->Hs->Re Wv} {x0 x1 x2 x3:Wv} {gr:GA}
@[simp] theorem Oo:qe 1 F [x0] st=F [x0] st:=rfl
@[simp] theorem Oq:qe 2 F [x0,x1] st=F [x0,x1] st:=rfl
@[simp] theorem Ot:qe 3 F [x0,x1,x2] st=F [x0,x1,x2] st:=rfl
@[simp] theorem Ou:qe 4 F [x0,x1,x2,x3] st=F [x0,x1,x2,x3] st:=rfl
@[simp] theorem Kf{n:Nat}:ax n F gr ρ st=(gr ρ st).bind (qe n F):=rfl
@[simp] theorem Fq{op:List Wv->Hs->Re Wv}:ar op gr ρ st=(gr ρ st).bind λws st1=>(op ws st1).gw:=rfl
end
@[simp] theorem Vb{op:Wv->Hs->Re Wv}:Ip op ga ρ st=(ga ρ st).bind op:=rfl
@[simp] theorem S8{i:Int}:mP (.int i) st= .ok (.int (-i)) st:=rfl
@[simp] theorem S_{i j:Int}:cP (.int i) (.int j) st= .ok (.int (i+j)) st:=rfl
@[simp] theorem Td{i j:Int}:qA (.int i) (.int j) st= .ok (.int (i - j)) st:=rfl
@[simp] theorem Vc{i j:Int}:oLt (.int i) (.int j) st= .ok (.bl (decide (i < j))) st:=rfl
@[simp] theorem Vd{i j:Int}:oLe (.int i) (.int j) st= .ok (.bl (decide (i<=j))) st:=rfl
@[simp] theorem Ve{i j:Int}:NU (.int i) (.int j) st= .ok (.bl (decide (j < i))) st:=rfl
@[simp] theorem Vf{i j:Int}:Pr (.int i) (.int j) st= .ok (.bl (decide (j<=i))) st:=rfl
@[simp] theorem Vg{i j:Int}:oEq (.int i) (.int j) st= .ok (.bl (i == j)) st:=rfl
@[simp] theorem Vh{i j:Int}:sj (.int i) (.int j) st= .ok (.bl (!(i == j))) st:=rfl
@[simp] theorem Vi{i j:PySem.Str}:oEq (.str i) (.str j) st= .ok (.bl (i == j)) st:=rfl
@[simp] theorem Vj{i j:PySem.Str}:sj (.str i) (.str j) st= .ok (.bl (!(i == j))) st:=rfl
@[simp] theorem Vk{i j:Bool}:oEq (.bl i) (.bl j) st= .ok (.bl (i == j)) st:=by cases i<;>cases j<;>rfl
@[simp] theorem Vl{i j:Bool}:sj (.bl i) (.bl j) st= .ok (.bl (!(i == j))) st:=by cases i<;>cases j<;>rfl
theorem nQ{i j:Int}(h:j≠0/\j.natAbs.log2 < 9000):fW (.int i) (.int j) st= .ok (.int (i.fdiv j)) st:=by show(if _ then _ else _)=_;rw[if_pos h]
theorem iw{i j:Int}(h:j≠0):oMod (.int i) (.int j) st= .ok (.int (i.fmod j)) st:=by show(if _ then _ else _)=_;rw[if_pos h]
theorem GF{i j:Int}(h:IntMulOk i j):bO (.int i) (.int j) st= .ok (.int (i * j)) st:=by show(if _ then _ else _)=_;rw[if_pos h]
theorem tW{i j:Int}(h1:-(2 ^ 64) < i)(h2:i < 2 ^ 64):bO (.int i) (.int j) st= .ok (.int (i * j)) st:=GF (IntMulOk.of_left (intBits_le_64 h1 h2))
theorem mul_r{i j:Int}(h1:-(2 ^ 64) < j)(h2:j < 2 ^ 64):bO (.int i) (.int j) st= .ok (.int (i * j)) st:=GF (IntMulOk.of_right (intBits_le_64 h1 h2))
theorem GG{i j:Int}(h:0<=j/\j<=1000000/\i.natAbs < 2 ^ 64):qB (.int i) (.int j) st= .ok (.int (i ^ j.toNat)) st:=by show(if _ then _ else _)=_;rw[if_pos h]
theorem hG{l:Nat}{i:Int}{ws:List Wv}{v:Wv}(h:ag st l=some ws)(h2:kU ws i=some v):bN (.ref l) (.int i) st= .ok v st:=by
 show(match ag st l with | some ws=>(match kU ws i with | some w=>Re.ok w st | none=> .bad) | none=> .bad)=_
 rw[h]
 dsimp only
 rw[h2]
theorem add_l{l k:Nat}{xs ys:List Wv}(h1:ag st l=some xs)(h2:ag st k=some ys)(hl:xs.length+ys.length<=lim):cP (.ref l) (.ref k) st= .ok (.ref st.length) (st++[.lst (xs++ys)]):=by
 show(match ag st l,ag st k with | some i,some j=>if i.length+j.length<=lim then Re.ok (Wv.ref st.length) (st++[Ob.lst (i++j)]) else .bad | _,_=> .bad)=_
 rw[h1,h2]
 exact if_pos hl
theorem vI{i:Int}{ws:List Wv}{v:Wv}(h2:kU ws i=some v):bN (.tup ws) (.int i) st= .ok v st:=by
 show(match kU ws i with | some w=>Re.ok w st | none=> .bad)=_
 rw[h2]
end
theorem jW{n:Nat}{g:GS}{ws:List Wv}{st st':Hs}{w:Wv}(h:g (ws.map some++List.replicate (n - ws.length) none) st= .rt w st'):cq n g ws st= .ok w st':=by unfold cq;rw[h]
theorem CJ{n:Nat}{g:GS}{ws:List Wv}{st st':Hs}{ρ:aT}{c:PySem.Str}(h:g (ws.map some++List.replicate (n - ws.length) none) st= .err c ρ st'):cq n g ws st= .err c st':=by unfold cq;rw[h]
section
variable {ρ:aT} {st:Hs} {ga gb gc:GE} {gl gh:GO}
def Te(gl gh:GO)(ρ:aT):Wv->Hs->Re Wv:=λx st1=>(gl ρ st1).bind λlo st2=>(gh ρ st2).bind λhi st3=>EE x lo hi st3
@[simp] theorem Ov:iO ga gl gh ρ st=(ga ρ st).bind (Te gl gh ρ):=rfl
@[simp] theorem Tf{x:Wv}:Te gl gh ρ x st=(gl ρ st).bind λlo st2=>(gh ρ st2).bind λhi st3=>EE x lo hi st3:=rfl
@[simp] theorem Nj:lU ρ st= .ok none st:=rfl
def GH:Wv->Hs->Re (Option Int):=λw st1=>match w with
 | .int i=> .ok (some i) st1
 | _=> .bad
@[simp] theorem QN:pE ga ρ st=(ga ρ st).bind GH:=rfl
@[simp] theorem Ow{i:Int}:GH (.int i) st= .ok (some i) st:=rfl
theorem QO{l:Nat}{ws:List Wv}{lo hi:Option Int}(h:ag st l=some ws):EE (.ref l) lo hi st= .ok (.ref st.length) (st++[.lst (mR ws lo hi)]):=by
 show(match ag st l with | some ws=>Re.ok (Wv.ref st.length) (st++[Ob.lst (mR ws lo hi)]) | none=> .bad)=_
 rw[h]
theorem nR{l:Nat}{ws:List Wv}(h:ag st l=some ws):iW [.ref l] st= .ok (.int ws.length) st:=by
 show(match ag st l with | some ws=>Re.ok (Wv.int ws.length) st | none=> .bad)=_
 rw[h]
def CK(op':dj)(gc:GE)(y:Wv)(ρ:aT):Wv->Hs->Re Wv:=λz st3=>match z with
 | .bl true=>(gc ρ st3).bind λu rJ=>(op' y u rJ).gw
 | .bl false=> .ok (.bl false) st3
 | _=> .bad
@[simp] theorem QP{op':dj}{y:Wv}:CK op' gc y ρ (.bl true) st=(gc ρ st).bind λu rJ=>(op' y u rJ).gw:=rfl
@[simp] theorem QQ{op':dj}{y:Wv}:CK op' gc y ρ (.bl false) st= .ok (.bl false) st:=rfl
@[simp] theorem Ox{op op':dj}:jd op op' ga gb gc ρ st=(ga ρ st).bind λx st1=>(gb ρ st1).bind λy st2=>(op x y st2).gw.bind (CK op' gc y ρ):=rfl
def Kh(op' f6:dj)(gc gd:GE)(y:Wv)(ρ:aT):Wv->Hs->Re Wv:=λz st3=>match z with
 | .bl true=>(gc ρ st3).bind λu rJ=>(op' y u rJ).gw.bind (CK f6 gd u ρ)
 | .bl false=> .ok (.bl false) st3
 | _=> .bad
@[simp] theorem QR{op' f6:dj}{gd:GE}{y:Wv}:Kh op' f6 gc gd y ρ (.bl true) st=(gc ρ st).bind λu rJ=>(op' y u rJ).gw.bind (CK f6 gd u ρ):=rfl
@[simp] theorem QS{op' f6:dj}{gd:GE}{y:Wv}:Kh op' f6 gc gd y ρ (.bl false) st= .ok (.bl false) st:=rfl
@[simp] theorem Nk{op op' f6:dj}{gd:GE}:gD op op' f6 ga gb gc gd ρ st=(ga ρ st).bind λx st1=>(gb ρ st1).bind λy st2=>(op x y st2).gw.bind (Kh op' f6 gc gd y ρ):=rfl
def zh(cat:PySem.Str->Option Bool)(i:Nat)(gs:GS)(r:Rs):Rs:=match r with
 | .err c ρ' st'=>(match cat c with
  | some true=>(match gs (ρ'.set i (some (.fk c))) st' with
   | .nx ρ2 st2=> .nx (ρ2.set i none) st2
   | .rt w st2=> .rt w st2
   | _=> .bad)
  | _=> .bad)
 | r=>r
@[simp] theorem Tg{cat:PySem.Str->Option Bool}{i:Nat}{g gs:GS}:yy cat i g gs ρ st=zh cat i gs (g ρ st):=by
 unfold yy zh
 cases g ρ st<;>rfl
@[simp] theorem Oy{cat:PySem.Str->Option Bool}{i:Nat}{gs:GS}:zh cat i gs (.nx ρ st)= .nx ρ st:=rfl
@[simp] theorem Oz{cat:PySem.Str->Option Bool}{i:Nat}{gs:GS}{w:Wv}:zh cat i gs (.rt w st)= .rt w st:=rfl
def GJ(cat:PySem.Str->Option Bool)(gs:GS)(r:Rs):Rs:=match r with
 | .err c ρ' st'=>(match cat c with
  | some true=>(match gs ρ' st' with
   | .nx ρ2 st2=> .nx ρ2 st2
   | .rt w st2=> .rt w st2
   | _=> .bad)
  | _=> .bad)
 | r=>r
@[simp] theorem Nl{cat:PySem.Str->Option Bool}{gs:GS}:GJ cat gs (.nx ρ st)= .nx ρ st:=rfl
@[simp] theorem Nm{cat:PySem.Str->Option Bool}{gs:GS}{w:Wv}:GJ cat gs (.rt w st)= .rt w st:=rfl
theorem CL{cat:PySem.Str->Option Bool}{i:Nat}{gs:GS}{c:PySem.Str}{ρ2:aT}{st2:Hs}(h:cat c=some true)(k:gs (ρ.set i (some (.fk c))) st= .nx ρ2 st2):zh cat i gs (.err c ρ st)= .nx (ρ2.set i none) st2:=by
 unfold zh
 simp only[h,k]
end
theorem aw{st:Hs}{ws:List Wv}:ag (st++[.lst ws]) st.length=some ws:=by unfold ag;simp
theorem kF{st:Hs}{o:Ob}{l:Nat}{ws:List Wv}(h:ag st l=some ws):ag (st++[o]) l=some ws:=by
 have hl:l < st.length:=by
  unfold ag at h
  cases e:st[l]? with
  | none=>rw[e] at h;cases h
  | some o=>exact(List.getElem?_eq_some_iff.mp e).1
 unfold ag at h ⊢
 rw[List.getElem?_append_left hl]
 exact h
theorem f9{st:Hs}{l:Nat}{ws:List Wv}(h:ag st l=some ws):l < st.length:=by
 unfold ag at h
 cases e:st[l]? with
 | none=>rw[e] at h;cases h
 | some o=>exact(List.getElem?_eq_some_iff.mp e).1
def bA(l:Nat)(st st':Hs):Prop:=st.length<=st'.length/\∀k,k < st.length->k≠l->st'[k]? =st[k]?
theorem bA.refl{l:Nat}{st:Hs}:bA l st st:=⟨Nat.le_refl _,λ_ _ _=>rfl⟩
theorem bA.trans{l:Nat}{a b c:Hs}(h:bA l a b)(k:bA l b c):bA l a c:=⟨Nat.le_trans h.1 k.1,λj h1 h2=>(k.2 j (Nat.lt_of_lt_of_le h1 h.1) h2).trans (h.2 j h1 h2)⟩
theorem bA.push{l:Nat}{st:Hs}{o:Ob}:bA l st (st++[o]):=⟨by simp,λk h _=>List.getElem?_append_left h⟩
theorem bA.set{l:Nat}{st:Hs}{o:Ob}:bA l st (st.set l o):=⟨by simp,λk _ h=>List.getElem?_set_ne (λz=>h z.symm)⟩
theorem bA.lst{l:Nat}{st st':Hs}(k:bA l st st'){j:Nat}{ws:List Wv}(h:ag st j=some ws)(hj:j≠l):ag st' j=some ws:=by
 unfold ag at h ⊢
 rw[k.2 j (f9 (st:=st) (ws:=ws) (by unfold ag;exact h)) hj]
 exact h
@[simp] theorem OA{i:Nat}{ga:GA}{gb:GS}{ρ:aT}{st:Hs}:j_ i ga gb ρ st=(ga ρ st).aI ρ λws st1=>match ws with
 | [.int j]=>if jf j then eN i gb (cb 0 j.toNat) ρ st1 else .bad
 | _=> .bad:=rfl
@[simp] theorem OB{c:PySem.Str}{ga:GA}{ρ:aT}{st:Hs}:mW c ga ρ st=(ga ρ st).aI ρ λws st1=>if ws.length<=lim then .err c ρ st1 else .bad:=rfl
def GK(mt:Wv->Wv->Hs->Re Wv)(ga:GE)(ρ:aT):Wv->Hs->Re Wv:=λo st1=>match o with
 | .ref l=>(match ag st1 l with
  | some _=>(ga ρ st1).bind λv st2=>(mt o v st2).gw
  | none=> .bad)
 | _=> .bad
@[simp] theorem QT{mt:Wv->Wv->Hs->Re Wv}{go ga:GE}{ρ:aT}{st:Hs}:k9 mt go ga ρ st=(go ρ st).bind (GK mt ga ρ):=rfl
theorem ma{mt:Wv->Wv->Hs->Re Wv}{ga:GE}{ρ:aT}{st:Hs}{l:Nat}{ws:List Wv}(h:ag st l=some ws):GK mt ga ρ (.ref l) st=(ga ρ st).bind λv st2=>(mt (.ref l) v st2).gw:=by
 show(match ag st l with | some _=>(ga ρ st).bind λv st2=>(mt (.ref l) v st2).gw | none=> .bad)=_
 rw[h]
theorem CM{st:Hs}{l:Nat}{v:Wv}{ws:List Wv}(h:st[l]? =some (.lst ws))(hl:ws.length < lim):lG (.ref l) v st= .ok .aE (st.set l (.lst (ws++[v]))):=by
 show(match st[l]? with | some (.lst ws)=>if ws.length < lim then Re.ok Wv.aE (st.set l (.lst (ws++[v]))) else .bad | _=> .bad)=_
 rw[h]
 exact if_pos hl
def kFor(i:Nat)(gb:GS)(ρ:aT):Wv->Hs->Rs:=λw st1=>match w with
 | .ref l=>(match ag st1 l with | some ws=>forL i gb l ws ws ρ st1 | none=> .bad)
 | .tup ws=>eN i gb ws ρ st1
 | .mI ws=>eN i gb ws ρ st1
 | _=> .bad
@[simp] theorem Th{i:Nat}{ga:GE}{gb:GS}{ρ:aT}{st:Hs}:uZ i ga gb ρ st=(ga ρ st).aI ρ (kFor i gb ρ):=rfl
theorem qW{i:Nat}{gb:GS}{ρ:aT}{st:Hs}{l:Nat}{ws:List Wv}(h:ag st l=some ws):kFor i gb ρ (.ref l) st=forL i gb l ws ws ρ st:=by
 show(match ag st l with | some ws=>forL i gb l ws ws ρ st | none=> .bad)=_
 rw[h]
@[simp] theorem QU{i:Nat}{gb:GS}{ρ:aT}{st:Hs}{ws:List Wv}:kFor i gb ρ (.tup ws) st=eN i gb ws ρ st:=rfl
theorem xq{i:Nat}{gb:GS}(P:Nat->aT->Hs->Prop):∀(ws:List Wv)(k:Nat)(ρ:aT)(st:Hs),P k ρ st->
  (∀(j:Nat)(w:Wv),ws[j]? =some w->∀ρ st,P (k+j) ρ st->∃ρ' st',gb (ρ.set i (some w)) st= .nx ρ' st'/\P (k+j+1) ρ' st')->∃ρ' st',eN i gb ws ρ st= .nx ρ' st'/\P (k+ws.length) ρ' st'
 | [],k,ρ,st,h,_=>⟨ρ,st,rfl,h⟩
 | w::r,k,ρ,st,h,step=>by
  obtain⟨ρ1,st1,e1,p1⟩:=step 0 w rfl ρ st h
  obtain⟨ρ2,st2,e2,p2⟩:=xq P r (k+1) ρ1 st1 p1 λj w hw ρ st hp=>by
   have e:k+(j+1)=k+1+j:=by omega
   have q:=step (j+1) w hw ρ st (by rw[e];exact hp)
   rw[e] at q
   exact q
  refine⟨ρ2,st2,?_,?_⟩
  ·unfold eN
   rw[e1]
   exact e2
  ·have e:k+(w::r).length=k+1+r.length:=by simp;omega
   rw[e]
   exact p2
theorem tX{i:Nat}{gb:GS}(P:aT->Hs->Prop):∀(ws:List Wv)(ρ:aT)(st:Hs),P ρ st->
  (∀w∈ws,∀ρ st,P ρ st->∃ρ' st',gb (ρ.set i (some w)) st= .nx ρ' st'/\P ρ' st')->∃ρ' st',eN i gb ws ρ st= .nx ρ' st'/\P ρ' st'
 | [],ρ,st,h,_=>⟨ρ,st,rfl,h⟩
 | w::r,ρ,st,h,step=>by
  obtain⟨ρ1,st1,e1,p1⟩:=step w List.mem_cons_self ρ st h
  obtain⟨ρ2,st2,e2,p2⟩:=tX P r ρ1 st1 p1 λw hw=>step w (List.mem_cons_of_mem _ hw)
  refine⟨ρ2,st2,?_,p2⟩
  unfold eN
  rw[e1]
  exact e2
@[simp] theorem QV{i:Int}{st:Hs}:MI [.int i] st=MG [.int i] st:=rfl
@[simp] theorem CN{cs:eO}{gi:GI}{gt:GT}{ge:GE}{ρ:aT}{st:Hs}:fu cs gi gt ge ρ st=(gi ρ st).bind (bX cs gt ge ρ):=rfl
@[simp] theorem OC{g:GE}{ρ:aT}{st:Hs}:eQ g ρ st=(g ρ st).bind sV:=rfl
@[simp] theorem QW{g:GA}{ρ:aT}{st:Hs}:Be g ρ st=(g ρ st).bind sH:=rfl
@[simp] theorem QX{g:GA}{ρ:aT}{st:Hs}:PU g ρ st=(g ρ st).bind Gk:=rfl
theorem Ki{j:Int}{st:Hs}(h:jf j):sH [.int j] st= .ok (none,cb 0 j.toNat) st:=if_pos h
theorem dq{l:Nat}{st:Hs}{ws:List Wv}(h:ag st l=some ws):sV (.ref l) st= .ok (some l,ws) st:=by
 show(match ag st l with | some ws=>Re.ok (some l,ws) st | none=> .bad)=_
 rw[h]
@[simp] theorem QY{st:Hs}{z:PySem.Str}:sV (.str z) st= .ok (none,fI z) st:=rfl
@[simp] theorem QZ{st:Hs}{ws:List Wv}:sV (.tup ws) st= .ok (none,ws) st:=rfl
theorem Fs{st:Hs}{acc:List Wv}{v:Wv}(h:acc.length < lim):lG (.ref st.length) v (st++[.lst acc])= .ok .aE (st++[.lst (acc++[v])]):=by
 rw[CM (ws:=acc) (by simp) h]
 congr 1
 simp
theorem jl{w:Wk}{gt:Wv->Hs->Re Bool}{ge:Wv->Hs->Re Wv}{st:Hs}{t:Wv->Bool}{f:Wv->Wv}(ck:jh w st):∀(ws acc:List Wv),(∀v∈ws,∀acc,gt v (st++[.lst acc])= .ok (t v) (st++[.lst acc]))->
  (∀v∈ws,t v=true->∀acc,ge v (st++[.lst acc])= .ok (f v) (st++[.lst acc]))->acc.length+ws.length < lim->jH (jh w) gt ge st.length ws (st++[.lst acc])=some (st++[.lst (acc++(ws.filter t).map f)])
 | [],acc,_,_,_=>by simp[jH]
 | v::r,acc,h1,h2,hl=>by
  have hl':acc.length+(r.length+1) < lim:=hl
  unfold jH
  rw[h1 v List.mem_cons_self acc]
  cases e:t v with
  | false=>
   dsimp only
   rw[if_pos (ng ck),jl ck r acc (λv hv=>h1 v (List.mem_cons_of_mem _ hv)) (λv hv=>h2 v (List.mem_cons_of_mem _ hv)) (by omega),List.filter_cons_of_neg (by simp[e])]
  | true=>
   dsimp only
   rw[h2 v List.mem_cons_self e acc]
   dsimp only
   rw[Fs (by omega)]
   dsimp only
   rw[if_pos (ng ck),jl ck r (acc++[f v]) (λv hv=>h1 v (List.mem_cons_of_mem _ hv)) (λv hv=>h2 v (List.mem_cons_of_mem _ hv)) (by simp;omega),List.filter_cons_of_pos e]
   simp
theorem dt{cs:eO}{gt:GT}{ge:GE}{ρ:aT}{w:Wk}{st:Hs}{t:Wv->Bool}{f:Wv->Wv}(ck:jh w st)(h1:∀v∈w.2,∀acc,gt (some v::jg cs ρ) (st++[.lst acc])= .ok (t v) (st++[.lst acc]))
  (h2:∀v∈w.2,t v=true->∀acc,ge (some v::jg cs ρ) (st++[.lst acc])= .ok (f v) (st++[.lst acc]))(hl:w.2.length < lim):bX cs gt ge ρ w st= .ok (.ref st.length) (st++[.lst ((w.2.filter t).map f)]):=by
 unfold bX
 rw[jl ck w.2 [] h1 h2 (by simpa using hl)]
 simp
end J
namespace J
open PySem PySem.Spec PyProof.Rows L2
theorem CO{α:Type}{ws:List α}{d:Int}(h0:0<=d)(h1:d < ws.length):∃v,L2.kU ws d=some v/\v∈ws:=by
 have hk:d.toNat < ws.length:=by omega
 have ek:d=((d.toNat:Nat):Int):=by omega
 refine⟨ws[d.toNat],?_,List.getElem_mem hk⟩
 have q:=L2.lS (List.getElem?_eq_getElem hk)
 rw[<-ek] at q
 exact q
theorem dY{st:Hs}{l:Nat}{o o':Ob}(h:st[l]? =some o):(st.set l o')[l]? =some o':=List.getElem?_set_self (List.getElem?_eq_some_iff.mp h).1
theorem f_{st:Hs}{l:Nat}{o o':Ob}(h:st[l]? =some o):(st++[o'])[l]? =some o:=by rw[List.getElem?_append_left (List.getElem?_eq_some_iff.mp h).1];exact h
theorem bY{st:Hs}{l:Nat}{ws:List Wv}(h:st[l]? =some (.lst ws)):ag st l=some ws:=by unfold ag;rw[h]
theorem qX{st:Hs}{l:Nat}{o:Ob}(h:st[l]? =some o):l < st.length:=(List.getElem?_eq_some_iff.mp h).1
theorem dZ{st:Hs}{o:Ob}:(st++[o])[st.length]? =some o:=by simp
@[simp] theorem Ti{i:Int}{st:Hs}:D6 [.int i] st= .ok (.int (if i < 0 then -i else i)) st:=rfl
@[simp] theorem qf{l:Nat}{st:Hs}{ns:List Int}(h:ag st l=some (ns.map Wv.int)):ko [.ref l] st= .ok (.int ns.sum) st:=by
 show(match ag st l with | some ws=>(match intsOf ws with | some ns=>Re.ok (Wv.int ns.sum) st | none=> .bad) | none=> .bad)=_
 rw[h]
 dsimp only
 rw[bT]
theorem xt{lo:Int}{n:Nat}{w:Wv}(h:w∈cb lo n):∃k:Int,w= .int k/\lo<=k/\k < lo+n:=by
 unfold cb at h
 obtain⟨k,hk,rfl⟩:=List.mem_map.mp h
 have:=List.mem_range.mp hk
 exact⟨lo+k,rfl,by omega,by omega⟩
theorem Ft{i:Int}(h1:-1000000<=i)(h2:i<=1000000):jf i:=⟨by omega,by omega⟩
@[simp] theorem OD{F:List Wv->Hs->Re Wv}{st:Hs}:qe 0 F [] st=F [] st:=rfl
def Gr(st st':Hs):Prop:=st.length<=st'.length/\∀k,k < st.length->st'[k]? =st[k]?
theorem Gr.refl{st:Hs}:Gr st st:=⟨Nat.le_refl _,λ_ _=>rfl⟩
theorem Gr.trans{a b c:Hs}(h:Gr a b)(k:Gr b c):Gr a c:=⟨Nat.le_trans h.1 k.1,λj h1=>(k.2 j (Nat.lt_of_lt_of_le h1 h.1)).trans (h.2 j h1)⟩
theorem Gr.push{st:Hs}{o:Ob}:Gr st (st++[o]):=⟨by simp,λk h=>List.getElem?_append_left h⟩
theorem Gr.lst{st st':Hs}(k:Gr st st'){j:Nat}{ws:List Wv}(h:ag st j=some ws):ag st' j=some ws:=by
 unfold ag at h ⊢
 rw[k.2 j (f9 (st:=st) (ws:=ws) (by unfold ag;exact h))]
 exact h
theorem Gr.get{st st':Hs}(k:Gr st st'){j:Nat}{o:Ob}(h:st[j]? =some o):st'[j]? =some o:=by rw[k.2 j (qX h)];exact h
theorem Gr.keep{st st':Hs}{l:Nat}(k:Gr st st'):bA l st st':=⟨k.1,λj h _=>k.2 j h⟩
theorem Gr.kG{st s1 s2:Hs}{l:Nat}(h:st.length<=l)(g:Gr st s1)(k:bA l s1 s2):Gr st s2:=⟨Nat.le_trans g.1 k.1,λj h1=>(k.2 j (Nat.lt_of_lt_of_le h1 g.1) (by omega)).trans (g.2 j h1)⟩
theorem tY{α:Type}(f:α->Wv){i:Nat}{gb:GS}{l:Nat}{all:List Wv}(full:List α)(P:List α->aT->Hs->Prop)
  (step:∀a pre post ρ st,full=pre++a::post->P pre ρ st->ag st l=some all->∃ρ' st',gb (ρ.set i (some (f a))) st= .nx ρ' st'/\ag st' l=some all/\P (pre++[a]) ρ' st') :
  ∀(post pre:List α)(ρ:aT)(st:Hs),full=pre++post->P pre ρ st->ag st l=some all->∃ρ' st',forL i gb l all (post.map f) ρ st= .nx ρ' st'/\P full ρ' st'/\ag st' l=some all
 | [],pre,ρ,st,hf,h,hl=>⟨ρ,st,rfl,by rw[hf];simpa using h,hl⟩
 | a::r,pre,ρ,st,hf,h,hl=>by
  obtain⟨ρ1,st1,e1,l1,p1⟩:=step a pre r ρ st hf h hl
  obtain⟨ρ2,st2,e2,p2,l2⟩:=tY f full P step r (pre++[a]) ρ1 st1 (by rw[hf];simp) p1 l1
  refine⟨ρ2,st2,?_,p2,l2⟩
  rw[List.map_cons]
  unfold forL
  rw[e1]
  simp only[if_pos l1]
  exact e2
theorem tZ{α:Type}(f:α->Wv){i:Nat}{gb:GS}(full:List α)(P:List α->aT->Hs->Prop)
  (step:∀a pre post ρ st,full=pre++a::post->P pre ρ st->∃ρ' st',gb (ρ.set i (some (f a))) st= .nx ρ' st'/\P (pre++[a]) ρ' st') :
  ∀(post pre:List α)(ρ:aT)(st:Hs),full=pre++post->P pre ρ st->∃ρ' st',eN i gb (post.map f) ρ st= .nx ρ' st'/\P full ρ' st'
 | [],pre,ρ,st,hf,h=>⟨ρ,st,rfl,by rw[hf];simpa using h⟩
 | a::r,pre,ρ,st,hf,h=>by
  obtain⟨ρ1,st1,e1,p1⟩:=step a pre r ρ st hf h
  obtain⟨ρ2,st2,e2,p2⟩:=tZ f full P step r (pre++[a]) ρ1 st1 (by rw[hf];simp) p1
  refine⟨ρ2,st2,?_,p2⟩
  rw[List.map_cons]
  unfold eN
  rw[e1]
  exact e2
theorem Nn{i:Int}:PyData.eqv (.int i) (.int i)=true:=by simp[PyData.eqv]
theorem Kj{x y:PySem.Str}:PyData.eqv (.tuple [.str x,.str y]) (.tuple [.str x,.str y])=true:=by simp[PyData.eqv,PyData.eqvAll]
theorem qY{st:Hs}{x y:Wv}{d:PyData}(h1:aL st 20 x=some d)(h2:aL st 20 y=some d)(h:PyData.eqv d d=true):sj x y st= .ok (.bl false) st:=by
 unfold sj
 rw[h1,h2]
 show Re.ok (Wv.bl (!PyData.eqv d d)) st=_
 rw[h]
 rfl
theorem GL{st:Hs}{n l:Nat}{ws:List Wv}(h:ag st l=some ws):aL st (n+1) (.ref l)=(iV (aL st n) ws).map PyData.list:=by
 show(match ag st l with | some ws=>(iV (aL st n) ws).map PyData.list | none=>none)=_
 rw[h]
theorem Np{i:Int}{st:Hs}:sj (.int i) (.int i) st= .ok (.bl false) st:=qY rfl rfl Nn
theorem Nq{x y:PySem.Str}{st:Hs}:sj (.tup [.str x,.str y]) (.tup [.str x,.str y]) st= .ok (.bl false) st:=qY rfl rfl Kj
theorem Nr{l:Nat}{st:Hs}{ns:List Int}(h:ag st l=some (ns.map Wv.int))(hn:ns.length < 4096):vg [.ref l] st= .ok (.ref st.length) (st++[.lst ((fo ns).map Wv.int)]):=by
 unfold vg
 simp only[h,bT]
 rw[if_pos hn]
theorem CP{l:Nat}{st:Hs}{n:Int}{ns:List Int}(h:ag st l=some ((n::ns).map Wv.int)):jN [.ref l] st= .ok (.int (fm n ns)) st:=by
 unfold jN
 simp only[h,bT]
theorem CQ{l:Nat}{st:Hs}{n:Int}{ns:List Int}(h:ag st l=some ((n::ns).map Wv.int)):jO [.ref l] st= .ok (.int (fH n ns)) st:=by
 unfold jO
 simp only[h,bT]
@[simp] theorem Tj{i j:Int}{st:Hs}:jN [.int i,.int j] st= .ok (.int (if j > i then j else i)) st:=rfl
@[simp] theorem Tn{i j:Int}{st:Hs}:jO [.int i,.int j] st= .ok (.int (if j < i then j else i)) st:=rfl
theorem CT{a b:List Int}(h:a.Perm b):a.sum=b.sum:=by
 induction h with
 | nil=>rfl
 | cons x _ ih=>simp[ih]
 | swap x y l=>simp only[List.sum_cons];omega
 | trans _ _ h1 h2=>exact h1.trans h2
theorem CU{n:Int}{r:List Int}{a:Int}{t:List Int}(h:fo (n::r)=a::t):a=fH n r:=by
 have hp:=eI (n::r)
 have hs:=jP (n::r)
 rw[h] at hp hs
 rw[List.pairwise_cons] at hs
 refine wN (hp.mem_iff.mp List.mem_cons_self) λb hb=>?_
 rcases List.mem_cons.mp (hp.mem_iff.mpr hb) with z | z
 ·omega
 ·exact hs.1 b z
theorem CV{n:Int}{r:List Int}{a:Int}{t:List Int}(h:fo (n::r)=t++[a]):a=fm n r:=by
 have hp:=eI (n::r)
 have hs:=jP (n::r)
 rw[h] at hp hs
 rw[List.pairwise_append] at hs
 refine pR (hp.mem_iff.mp (by simp)) λb hb=>?_
 rcases List.mem_append.mp (hp.mem_iff.mpr hb) with z | z
 ·exact hs.2.2 b z a (by simp)
 ·simp at z;omega
theorem xu{α:Type}{a:α}{r:List α}:L2.kU (a::r) 0=some a:=L2.lS (j:=0) rfl
theorem CW{α:Type}{t:List α}{a:α}:L2.kU (t++[a]) (-1)=some a:=by
 unfold L2.kU L2.xW
 simp
 rw[if_pos (by omega)]
 have e:(-1+((t.length:Int)+1)).toNat=t.length:=by omega
 simp[e]
end J
namespace J
open PySem L2
theorem tb_none{K:PySem.W.Frag}{H:Hp}(h1:PySem.W.nsIn K W5 "form_of"=some none)(h2:PySem.W.nsIn K W5 "formula_by"=some none)(h3:PySem.W.nsIn K W5 "turned"=some none):qw K H:=λq P hq e=>by
 have no:∀q,PySem.W.nsIn K W5 q=some none->gA K q=none:=λq h=>by
  unfold gA PySem.W.tabIn
  rw[h]
 simp only[bM,List.mem_cons,List.not_mem_nil,or_false] at hq
 rcases hq with rfl | rfl | rfl
 ·rw[no _ h1] at e;cases e
 ·rw[no _ h2] at e;cases e
 ·rw[no _ h3] at e;cases e
theorem uC{fd:WQ}{ps:List Str}(us:List WU)(hl:us.length=1)(h:∀a0:WU,bindArgs fd { pos:=[a0] }=pure (ps.zip [a0])):bindArgs fd { pos:=us }=pure (ps.zip us):=match us,hl with | [a0],_=>h a0
theorem ln2{fd:WQ}{ps:List Str}(us:List WU)(hl:us.length=2)(h:∀a0 a1:WU,bindArgs fd { pos:=[a0,a1] }=pure (ps.zip [a0,a1])):bindArgs fd { pos:=us }=pure (ps.zip us):=match us,hl with | [a0,a1],_=>h a0 a1
theorem Lf{fd:WQ}{ps:List Str}(us:List WU)(hl:us.length=3)(h:∀a0 a1 a2:WU,bindArgs fd { pos:=[a0,a1,a2] }=pure (ps.zip [a0,a1,a2])):bindArgs fd { pos:=us }=pure (ps.zip us):=match us,hl with | [a0,a1,a2],_=>h a0 a1 a2
end J
namespace K82
open PySem J
open L2 (defScope defBody defArgs FnScope CX0 FnOk XK Hp)
def top (i:Nat):Stmt:=PySem.Challenge.pw_onelook_k82_stretches_told.main.body.getD i (.Pass ⟨0,0,0,0⟩)
def br:Tab:=[(("BadCount","BadCount"),true),(("BadCount","BadPlace"),false),(("BadCount","BadArea"),false),(("BadCount","BadText"),false),(("BadCount","BadFormula"),false),(("BadCount","BadContent"),false),(("BadCount","Full"),false),(("BadCount","NoCell"),false),(("BadCount","NotWaiting"),false),(("BadCount","NoRoom"),false),(("BadCount","BadTable"),false),(("BadCount","NoTable"),false),(("BadCount","NoColumn"),false),(("BadCount","NoDeed"),false),(("BadCount","Clash"),false),(("BadCount","SheetError"),true)]
def aD:oJ:=[(("BadCount","ValueError"),true)]
def cg:Tab:=[(("BadCount","SheetError"),true)]
abbrev cT:Stmt:=top 41
def eS:GS:=(ay (i8 (bg (aj oLt (ae 1) (ar iW (aa (ae 0) ai)))) (aY (aj bN (ae 0) (ae 1))) a8)
  (aY (gC (.int 0))))
def aX:List Wv->Hs->Re Wv:=cq 2 eS
def eT:Ct where
  N:=["script","k"]
  names:=(defScope cT).names
  consts:=[]
  bl:=["len"]
  fns:=[]
  tb:=br
  tt:=aD
  tc:=cg
theorem nT:aW 30 (eT) (defBody cT)=eS:=by kernel_rfl
theorem lL:FnScope (eT).N ["script","k"] (defScope cT):=⟨rfl,rfl,rfl,by decide+kernel,rfl,by decide+kernel,by decide+kernel⟩
abbrev d_:Stmt:=top 43
def gG:GS:=(ay (aH 2 (aj oMod (aj bN (ae 0) (gC (.int 0))) (ae 1)))
  (ay (wz (aj fW (aj bN (ae 0) (gC (.int 0))) (ae 1)) (ae 0) (gC (.int 0)))
  (aY (ae 2))))
def aP:List Wv->Hs->Re Wv:=cq 3 gG
def gH:Ct where
  N:=["row","many","digit"]
  names:=(defScope d_).names
  consts:=[]
  bl:=[]
  fns:=[]
  tb:=br
  tt:=aD
  tc:=cg
theorem qZ:aW 30 (gH) (defBody d_)=gG:=by kernel_rfl
theorem oN:FnScope (gH).N ["row","many"] (defScope d_):=⟨rfl,rfl,rfl,by decide+kernel,rfl,by decide+kernel,by decide+kernel⟩
abbrev eh:Stmt:=top 44
def gI:GS:=(ay (aH 1 (ax 2 aP (aa (ae 0) (aa (gC (.int 12)) ai))))
  (ay (i8 (bg (aj oLt (ae 1) (gC (.int 5)))) (aY (aj qA (ax 2 aP (aa (ae 0) (aa (gC (.int 15)) ai))) (gC (.int 5)))) a8)
  (ay (i8 (bg (aj oLt (ae 1) (gC (.int 7)))) (aY (aj bO (aj bN (cO (aa (gC (.int 1)) (aa (Ip mP (gC (.int 1))) ai))) (ax 2 aP (aa (ae 0) (aa (gC (.int 2)) ai)))) (aj qA (aj qB (gC (.int 10)) (gC (.int 60))) (ax 2 aP (aa (ae 0) (aa (gC (.int 3)) ai)))))) a8)
  (ay (i8 (bg (aj oLt (ae 1) (gC (.int 9)))) (aY (aj bN (cO (aa (gC (.str "")) (aa (gC (.str "a")) (aa (gC (.str "b7")) (aa (gC (.str "7")) ai))))) (ax 2 aP (aa (ae 0) (aa (gC (.int 4)) ai))))) a8)
  (ay (i8 (bg (aj oLt (ae 1) (gC (.int 11)))) (aY (gC .aE)) a8)
  (aY (di (aa (gC (.str "fault")) (aa (aj bN (cO (aa (gC (.str "kind")) (aa (gC (.str "great")) (aa (gC (.str "nought")) (aa (gC (.str "none")) (aa (gC (.str "lost")) ai)))))) (ax 2 aP (aa (ae 0) (aa (gC (.int 5)) ai)))) ai)))))))))
def cU:List Wv->Hs->Re Wv:=cq 2 gI
def gJ:Ct where
  N:=["row","way"]
  names:=(defScope eh).names
  consts:=[]
  bl:=[]
  fns:=[("_law_digit",2,aP)]
  tb:=br
  tt:=aD
  tc:=cg
theorem q9:aW 30 (gJ) (defBody eh)=gI:=by kernel_rfl
theorem oO:FnScope (gJ).N ["row"] (defScope eh):=⟨rfl,rfl,rfl,by decide+kernel,rfl,by decide+kernel,by decide+kernel⟩
abbrev eC:Stmt:=top 42
def gK:GS:=(ay (aH 2 (aj oMod (aj bO (aj cP (aj cP (aj oMod (ae 0) (gC (.int 1000000007))) (aj bO (gC (.int 7919)) (ae 1))) (gC (.int 1))) (gC (.int 48271))) (gC (.int 2147483647))))
  (aY (aj oMod (aj bO (aj oMod (aj bO (ae 2) (ae 2)) (gC (.int 2147483629))) (gC (.int 69621))) (gC (.int 2147483647)))))
def aU:List Wv->Hs->Re Wv:=cq 3 gK
def gL:Ct where
  N:=["cell","k","stir"]
  names:=(defScope eC).names
  consts:=[]
  bl:=[]
  fns:=[]
  tb:=br
  tt:=aD
  tc:=cg
theorem q_:aW 30 (gL) (defBody eC)=gK:=by kernel_rfl
theorem oP:FnScope (gL).N ["cell","k"] (defScope eC):=⟨rfl,rfl,rfl,by decide+kernel,rfl,by decide+kernel,by decide+kernel⟩
abbrev dB:Stmt:=top 45
def bZ:GS:=(aH 3 (aj cP (aj bO (ae 3) (gC (.int 2147483647))) (ax 2 aU (aa (aj cP (ae 2) (ar ko (aa (ae 0) ai))) (aa (aj cP (aj bO (gC (.int 5)) (ae 1)) (ae 4)) ai)))))
def fJ:GS:=(ay (aH 2 (ax 2 aX (aa (ae 0) (aa (ae 1) ai))))
  (ay (i8 (yf (bg (aj oEq (aj oMod (ax 2 aX (aa (ae 0) (aa (gC (.int 0)) ai))) (gC (.int 2))) (gC (.int 1)))) (bg (aj oLt (ae 1) (ar iW (aa (ae 0) ai))))) (aY (cO (aa (ae 2) ai))) a8)
  (ay (aH 3 (gC (.int 0)))
  (ay (j_ 4 (aa (gC (.int 3)) ai) bZ)
  (aY (cO (aa (aj fW (ae 3) (gC (.int 8))) ai)))))))
def cx:List Wv->Hs->Re Wv:=cq 5 fJ
def fK:Ct where
  N:=["script","k","cell","found","j"]
  names:=(defScope dB).names
  consts:=[]
  bl:=["range","len","sum"]
  fns:=[("_law_cell_at",2,aX),("_law_mixed",2,aU)]
  tb:=br
  tt:=aD
  tc:=cg
theorem oQ:aW 30 (fK) (defBody dB)=fJ:=by kernel_rfl
theorem nU:FnScope (fK).N ["script","k"] (defScope dB):=⟨rfl,rfl,rfl,by decide+kernel,rfl,by decide+kernel,by decide+kernel⟩
abbrev dC:Stmt:=top 46
def b7:GS:=(ay (aH 5 (ax 1 cU (aa (ax 2 cx (aa (ae 0) (aa (aj cP (ae 4) (gC (.int 1))) ai))) ai)))
  (ay (i8 (yf (qz (cJ (ae 2))) (cJ (ar (a_ br aD) (aa (ae 5) (aa (gC (.ty "tuple")) ai))))) (aH 5 (ae 4)) a8)
  (ip (k9 lG (ae 3) (ae 5)))))
def fL:GS:=(ay (aH 3 (cO ai))
  (ay (j_ 4 (aa (ae 1) ai) b7)
  (aY (ae 3))))
def bI:List Wv->Hs->Re Wv:=cq 6 fL
def fM:Ct where
  N:=["script","many","faults","found","k","worth"]
  names:=(defScope dC).names
  consts:=[]
  bl:=["range","isinstance","tuple"]
  fns:=[("_law_worth",1,cU),("_law_row_of",2,cx)]
  tb:=br
  tt:=aD
  tc:=cg
theorem oR:aW 30 (fM) (defBody dC)=fL:=by kernel_rfl
theorem nV:FnScope (fM).N ["script","many","faults"] (defScope dC):=⟨rfl,rfl,rfl,by decide+kernel,rfl,by decide+kernel,by decide+kernel⟩
abbrev eD:Stmt:=top 30
def gM:GS:=(i8 (qz (bg (jd oLe oLe (gC (.int 1)) (ae 0) (gC (.int 99))))) (mW "BadCount" (aa (gC (.str "not 1 to 99 worths")) ai)) a8)
def bu:List Wv->Hs->Re Wv:=cq 1 gM
def gN:Ct where
  N:=["many"]
  names:=(defScope eD).names
  consts:=[("MOST_WORTHS",(.int 99))]
  bl:=[]
  fns:=[]
  tb:=br
  tt:=aD
  tc:=cg
  clss:=["BadCount"]
theorem ra:aW 30 (gN) (defBody eD)=gM:=by kernel_rfl
theorem oS:FnScope (gN).N ["many"] (defScope eD):=⟨rfl,rfl,rfl,by decide+kernel,rfl,by decide+kernel,by decide+kernel⟩
abbrev fD:Stmt:=top 31
def iy:GS:=(aY (aj oEq (aj qA (aj bN (ae 0) (gC (.int 1))) (aj bN (ae 0) (gC (.int 0)))) (gC (.int 1))))
def bD:List Wv->Hs->Re Wv:=cq 1 iy
def iz:Ct where
  N:=["node"]
  names:=(defScope fD).names
  consts:=[]
  bl:=[]
  fns:=[]
  tb:=br
  tt:=aD
  tc:=cg
theorem t_:aW 30 (iz) (defBody fD)=iy:=by kernel_rfl
theorem rb:FnScope (iz).N ["node"] (defScope fD):=⟨rfl,rfl,rfl,by decide+kernel,rfl,by decide+kernel,by decide+kernel⟩
abbrev fF:Stmt:=top 32
def iA:GS:=(ay (aH 1 (aj fW (aj cP (aj bN (ae 0) (gC (.int 0))) (aj bN (ae 0) (gC (.int 1)))) (gC (.int 2))))
  (aY (cO (aa (di (aa (aj bN (ae 0) (gC (.int 0))) (aa (ae 1) ai))) (aa (di (aa (ae 1) (aa (aj bN (ae 0) (gC (.int 1))) ai))) ai)))))
def bw:List Wv->Hs->Re Wv:=cq 2 iA
def iB:Ct where
  N:=["node","middle"]
  names:=(defScope fF).names
  consts:=[]
  bl:=[]
  fns:=[]
  tb:=br
  tt:=aD
  tc:=cg
theorem ua:aW 30 (iB) (defBody fF)=iA:=by kernel_rfl
theorem rf:FnScope (iB).N ["node"] (defScope fF):=⟨rfl,rfl,rfl,by decide+kernel,rfl,by decide+kernel,by decide+kernel⟩
abbrev dD:Stmt:=top 35
def bb:GS:=(i8 (qz (cJ (ax 1 bD (aa (ae 2) ai)))) (ip (k9 nE (ae 1) (ax 1 bw (aa (ae 2) ai)))) a8)
def fN:GS:=(ay (aH 1 (cO ai))
  (ay (uZ 2 (ae 0) bb)
  (aY (ae 1))))
def cz:List Wv->Hs->Re Wv:=cq 3 fN
def fO:Ct where
  N:=["level","below","node"]
  names:=(defScope dD).names
  consts:=[]
  bl:=[]
  fns:=[("is_single",1,bD),("halves_of",1,bw)]
  tb:=br
  tt:=aD
  tc:=cg
theorem oT:aW 30 (fO) (defBody dD)=fN:=by kernel_rfl
theorem nW:FnScope (fO).N ["level"] (defScope dD):=⟨rfl,rfl,rfl,by decide+kernel,rfl,by decide+kernel,by decide+kernel⟩
abbrev dE:Stmt:=top 34
def bz:GS:=(ay (ip (k9 nE (ae 1) (ae 2)))
  (aH 2 (ax 1 cz (aa (ae 2) ai))))
def dF:GS:=(ay (aH 1 (cO ai))
  (ay (aH 2 (cO (aa (ae 0) ai)))
  (ay (qQ qV (cJ (ae 2)) bz)
  (aY (ae 1)))))
def bJ:List Wv->Hs->Re Wv:=cq 3 dF
def fP:Ct where
  N:=["whole","nodes","level"]
  names:=(defScope dE).names
  consts:=[]
  bl:=[]
  fns:=[("level_under",1,cz)]
  tb:=br
  tt:=aD
  tc:=cg
theorem oU:aW 30 (fP) (defBody dE)=dF:=by kernel_rfl
theorem nX:FnScope (fP).N ["whole"] (defScope dE):=⟨rfl,rfl,rfl,by decide+kernel,rfl,by decide+kernel,by decide+kernel⟩
abbrev gO:Stmt:=top 20
def nY:GS:=(aY (wx (ar (a_ br aD) (aa (ae 0) (aa (gC (.ty "tuple")) ai))) (aj oEq (iO (ae 0) lU (pE (gC (.int 1)))) (di (aa (gC (.str "fault")) ai)))))
def du:List Wv->Hs->Re Wv:=cq 1 nY
def jm:Ct where
  N:=["worth"]
  names:=(defScope gO).names
  consts:=[]
  bl:=["isinstance","tuple"]
  fns:=[]
  tb:=br
  tt:=aD
  tc:=cg
theorem vJ:aW 30 (jm) (defBody gO)=nY:=by kernel_rfl
theorem ub:FnScope (jm).N ["worth"] (defScope gO):=⟨rfl,rfl,rfl,by decide+kernel,rfl,by decide+kernel,by decide+kernel⟩
abbrev gP:Stmt:=top 26
def eV:GT:=(cJ (ax 1 du (aa (ae 0) ai)))
def iC:GE:=(ae 0)
def eW:GT:=(cJ (ar (a_ br aD) (aa (ae 0) (aa (gC (.ty "int")) ai))))
def iD:GE:=(ae 0)
def jn:GS:=(ay (aH 1 (fu [] (eQ (ae 0)) eW iD))
  (ay (aH 2 (fu [] (eQ (ae 0)) eV iC))
  (ay (aH 3 (je (cJ (ae 1)) (ar jO (aa (ae 1) ai)) (gC .aE)))
  (ay (aH 4 (je (cJ (ae 1)) (ar jN (aa (ae 1) ai)) (gC .aE)))
  (aY (di (aa (ar ko (aa (ae 1) ai)) (aa (ar iW (aa (ae 1) ai)) (aa (ae 3) (aa (ae 4) (aa (je (cJ (ae 2)) (aj bN (ae 2) (gC (.int 0))) (gC .aE)) ai)))))))))))
def bV:List Wv->Hs->Re Wv:=cq 5 jn
def jo:Ct where
  N:=["worths","numbers","faults","least","greatest"]
  names:=(defScope gP).names
  consts:=[]
  bl:=["min","max","sum","len","isinstance","int"]
  fns:=[("is_fault",1,du)]
  tb:=br
  tt:=aD
  tc:=cg
theorem vK:aW 30 (jo) (defBody gP)=jn:=by kernel_rfl
theorem ud:FnScope (jo).N ["worths"] (defScope gP):=⟨rfl,rfl,rfl,by decide+kernel,rfl,by decide+kernel,by decide+kernel⟩
abbrev cV:Stmt:=top 27
def eX:GT:=(bg (aj eL (ae 0) (gC .aE)))
def eZ:GE:=(ae 0)
def e7:GT:=(bg (aj eL (ae 0) (gC .aE)))
def e8:GE:=(ae 0)
def e_:GS:=(ay (aH 2 (ar pV (aa (fu [] (eQ (di (aa (aj bN (ae 0) (gC (.int 2))) (aa (aj bN (ae 1) (gC (.int 2))) ai)))) e7 e8) ai)))
  (ay (aH 3 (ar pU (aa (fu [] (eQ (di (aa (aj bN (ae 0) (gC (.int 3))) (aa (aj bN (ae 1) (gC (.int 3))) ai)))) eX eZ) ai)))
  (ay (aH 4 (je (bg (aj AB (aj bN (ae 0) (gC (.int 4))) (gC .aE))) (aj bN (ae 1) (gC (.int 4))) (aj bN (ae 0) (gC (.int 4)))))
  (aY (di (aa (aj cP (aj bN (ae 0) (gC (.int 0))) (aj bN (ae 1) (gC (.int 0)))) (aa (aj cP (aj bN (ae 0) (gC (.int 1))) (aj bN (ae 1) (gC (.int 1)))) (aa (ae 2) (aa (ae 3) (aa (ae 4) ai))))))))))
def bh:List Wv->Hs->Re Wv:=cq 5 e_
def fe:Ct where
  N:=["one","other","least","greatest","first_fault"]
  names:=(defScope cV).names
  consts:=[]
  bl:=["min","max"]
  fns:=[]
  tb:=br
  tt:=aD
  tc:=cg
theorem nZ:aW 30 (fe) (defBody cV)=e_:=by kernel_rfl
theorem lM:FnScope (fe).N ["one","other"] (defScope cV):=⟨rfl,rfl,rfl,by decide+kernel,rfl,by decide+kernel,by decide+kernel⟩
abbrev cF:Stmt:=top 33
def dO:GS:=(ay (aH 2 (ax 1 bw (aa (ae 1) ai)))
  (aY (ax 2 bh (aa (nG (ae 0) (aj bN (ae 2) (gC (.int 0)))) (aa (nG (ae 0) (aj bN (ae 2) (gC (.int 1)))) ai)))))
def bo:List Wv->Hs->Re Wv:=cq 3 dO
def dP:Ct where
  N:=["halves","node","parts"]
  names:=(defScope cF).names
  consts:=[]
  bl:=[]
  fns:=[("halves_of",1,bw),("put_together",2,bh)]
  tb:=br
  tt:=aD
  tc:=cg
  tK:=["halves"]
theorem lN:aW 30 (dP) (defBody cF)=dO:=by kernel_rfl
theorem kH:FnScope (dP).N ["halves","node"] (defScope cF):=⟨rfl,rfl,rfl,by decide+kernel,rfl,by decide+kernel,by decide+kernel⟩
abbrev dG:Stmt:=top 29
def bf:GS:=(wU (je (cJ (ax 1 bD (aa (ae 2) ai))) (ax 1 bV (aa (cO (aa (aj bN (ae 0) (aj bN (ae 2) (gC (.int 0)))) ai)) ai)) (ax 2 bo (aa (ae 1) (aa (ae 2) ai)))) (ae 1) (ae 2))
def dH:GS:=(ay (ip (ax 1 bu (aa (ar jS (aa (ae 0) ai)) ai)))
  (ay (aH 1 sW)
  (ay (tH 2 (aa (ax 1 bJ (aa (di (aa (gC (.int 0)) (aa (ar jS (aa (ae 0) ai)) ai))) ai)) ai) bf)
  (aY (ae 1)))))
def dI:List Wv->Hs->Re Wv:=cq 3 dH
def fQ:Ct where
  N:=["worths","halves","node"]
  names:=(defScope dG).names
  consts:=[]
  bl:=["reversed","len"]
  fns:=[("check_many",1,bu),("nodes_under",1,bJ),("is_single",1,bD),("tally_of",1,bV),("joined_halves",2,bo)]
  tb:=br
  tt:=aD
  tc:=cg
  tK:=["halves"]
theorem oV:aW 30 (fQ) (defBody dG)=dH:=by kernel_rfl
theorem n4:FnScope (fQ).N ["worths"] (defScope dG):=⟨rfl,rfl,rfl,by decide+kernel,rfl,by decide+kernel,by decide+kernel⟩
abbrev gQ:Stmt:=top 37
def bG(aR:List Wv->Hs->Re Wv):GS:=(ay (i8 (L9 (bg (aj oLe (ae 2) (aj bN (ae 0) (gC (.int 0))))) (bg (aj oLe (aj bN (ae 0) (gC (.int 1))) (ae 1)))) (aY (cO ai)) a8)
  (ay (i8 (yf (bg (aj oLe (ae 1) (aj bN (ae 0) (gC (.int 0))))) (bg (aj oLe (aj bN (ae 0) (gC (.int 1))) (ae 2)))) (aY (cO (aa (ae 0) ai))) a8)
  (ay (aH 3 (ax 1 bw (aa (ae 0) ai)))
  (aY (aj cP (ax 3 aR (aa (aj bN (ae 3) (gC (.int 0))) (aa (ae 1) (aa (ae 2) ai)))) (ax 3 aR (aa (aj bN (ae 3) (gC (.int 1))) (aa (ae 1) (aa (ae 2) ai)))))))))
def n5(aR:List Wv->Hs->Re Wv):Ct where
  N:=["node","low","high","parts"]
  names:=(defScope gQ).names
  consts:=[]
  bl:=[]
  fns:=[("halves_of",1,bw),("covering",3,aR)]
  tb:=br
  tt:=aD
  tc:=cg
theorem vL(aR:List Wv->Hs->Re Wv):aW 30 (n5 aR) (defBody gQ)=bG aR:=by kernel_rfl
theorem ue(aR:List Wv->Hs->Re Wv):FnScope ["node","low","high","parts"] ["node","low","high"] (defScope gQ):=⟨rfl,rfl,rfl,by decide+kernel,rfl,by decide+kernel,by decide+kernel⟩
def lC:Nat->(List Wv->Hs->Re Wv)
  | 0=>M3
  | n+1=>cq 4 (bG ((lC n)))
def bj(n:Nat):List Wv->Hs->Re Wv:=(lC n)
theorem lO(n:Nat):bj (n+1)=cq 4 (bG (bj n)):=rfl
def aR:List Wv->Hs->Re Wv:=bj 9
abbrev me:Stmt:=top 36
def iR:GS:=(ay (ip (ax 1 bu (aa (ae 0) ai)))
  (ay (i8 (qz (bg (gD oLe oLt oLe (gC (.int 0)) (ae 1) (ae 2) (ae 0)))) (mW "BadCount" (aa (gC (.str "no stretch of the worths")) ai)) a8)
  (aY (ax 3 aR (aa (di (aa (gC (.int 0)) (aa (ae 0) ai))) (aa (ae 1) (aa (ae 2) ai)))))))
def jX:List Wv->Hs->Re Wv:=cq 3 iR
def rh:Ct where
  N:=["many","low","high"]
  names:=(defScope me).names
  consts:=[]
  bl:=[]
  fns:=[("check_many",1,bu),("covering",3,aR)]
  tb:=br
  tt:=aD
  tc:=cg
  clss:=["BadCount"]
theorem Fv:aW 30 (rh) (defBody me)=iR:=by kernel_rfl
theorem CY:FnScope (rh).N ["many","low","high"] (defScope me):=⟨rfl,rfl,rfl,by decide+kernel,rfl,by decide+kernel,by decide+kernel⟩
abbrev iS:Stmt:=top 38
def dJ:GT:=(λ_ st=> .ok true st)
def cA:GE:=(aj bN (ae 0) (gC (.int 1)))
def kI:GS:=(aY (ar (qc 0) (aa (gE 0 (fu [] (jj (ae 0)) dJ cA)) ai)))
def f':List Wv->Hs->Re Wv:=cq 1 kI
def kJ:Ct where
  N:=["halves"]
  names:=(defScope iS).names
  consts:=[]
  bl:=["max"]
  fns:=[]
  tb:=br
  tt:=aD
  tc:=cg
  tK:=["halves"]
theorem zi:aW 30 (kJ) (defBody iS)=kI:=by kernel_rfl
theorem vM:FnScope (kJ).N ["halves"] (defScope iS):=⟨rfl,rfl,rfl,by decide+kernel,rfl,by decide+kernel,by decide+kernel⟩
abbrev cG:Stmt:=top 39
def aS:GS:=(aH 3 (ax 2 bh (aa (ae 3) (aa (nG (ae 0) (ae 4)) ai))))
def bH:GS:=(ay (aH 3 (ax 1 bV (aa (cO ai) ai)))
  (ay (uZ 4 (ax 3 jX (aa (ax 1 f' (aa (ae 0) ai)) (aa (ae 1) (aa (ae 2) ai)))) aS)
  (aY (ae 3))))
def aQ:List Wv->Hs->Re Wv:=cq 5 bH
def dQ:Ct where
  N:=["halves","low","high","tally","node"]
  names:=(defScope cG).names
  consts:=[]
  bl:=[]
  fns:=[("tally_of",1,bV),("cover",3,jX),("many_in",1,f'),("put_together",2,bh)]
  tb:=br
  tt:=aD
  tc:=cg
  tK:=["halves"]
theorem lP:aW 30 (dQ) (defBody cG)=bH:=by kernel_rfl
theorem kK:FnScope (dQ).N ["halves","low","high"] (defScope cG):=⟨rfl,rfl,rfl,by decide+kernel,rfl,by decide+kernel,by decide+kernel⟩
abbrev gR:Stmt:=top 21
def jq:GS:=(aY (aj NU (ar D6 (aa (ae 0) ai)) (aj qB (gC (.int 10)) (gC (.int 60)))))
def ff:List Wv->Hs->Re Wv:=cq 1 jq
def jr:Ct where
  N:=["number"]
  names:=(defScope gR).names
  consts:=[]
  bl:=["abs"]
  fns:=[]
  tb:=br
  tt:=aD
  tc:=cg
theorem vN:aW 30 (jr) (defBody gR)=jq:=by kernel_rfl
theorem uf:FnScope (jr).N ["number"] (defScope gR):=⟨rfl,rfl,rfl,by decide+kernel,rfl,by decide+kernel,by decide+kernel⟩
abbrev mh:Stmt:=top 19
def xv:GS:=(aY (di (aa (gC (.str "fault")) (aa (ae 0) ai))))
def dM:List Wv->Hs->Re Wv:=cq 1 xv
def rj:Ct where
  N:=["word"]
  names:=(defScope mh).names
  consts:=[]
  bl:=[]
  fns:=[]
  tb:=br
  tt:=aD
  tc:=cg
theorem Fw:aW 30 (rj) (defBody mh)=xv:=by kernel_rfl
theorem CZ:FnScope (rj).N ["word"] (defScope mh):=⟨rfl,rfl,rfl,by decide+kernel,rfl,by decide+kernel,by decide+kernel⟩
abbrev iT:Stmt:=top 22
def kL:GS:=(aY (je (cJ (ax 1 ff (aa (ae 0) ai))) (ax 1 dM (aa (gC (.str "great")) ai)) (ae 0)))
def b8:List Wv->Hs->Re Wv:=cq 1 kL
def kM:Ct where
  N:=["number"]
  names:=(defScope iT).names
  consts:=[]
  bl:=[]
  fns:=[("is_great",1,ff),("fault",1,dM)]
  tb:=br
  tt:=aD
  tc:=cg
theorem zj:aW 30 (kM) (defBody iT)=kL:=by kernel_rfl
theorem vO:FnScope (kM).N ["number"] (defScope iT):=⟨rfl,rfl,rfl,by decide+kernel,rfl,by decide+kernel,by decide+kernel⟩
abbrev iU:Stmt:=top 28
def gg:GS:=(ay (i8 (bg (aj eL (aj bN (ae 1) (gC (.int 4))) (gC .aE))) (aY (aj bN (ae 1) (gC (.int 4)))) a8)
  (ay (i8 (bg (aj oEq (ae 0) (gC (.str "sum")))) (aY (ax 1 b8 (aa (aj bN (ae 1) (gC (.int 0))) ai))) a8)
  (ay (i8 (bg (aj oEq (ae 0) (gC (.str "count")))) (aY (aj bN (ae 1) (gC (.int 1)))) a8)
  (ay (aH 2 (je (bg (aj oEq (ae 0) (gC (.str "least")))) (aj bN (ae 1) (gC (.int 2))) (aj bN (ae 1) (gC (.int 3)))))
  (aY (je (bg (aj AB (ae 2) (gC .aE))) (ax 1 dM (aa (gC (.str "none")) ai)) (ax 1 b8 (aa (ae 2) ai))))))))
def bK:List Wv->Hs->Re Wv:=cq 3 gg
def kN:Ct where
  N:=["word","tally","number"]
  names:=(defScope iU).names
  consts:=[]
  bl:=[]
  fns:=[("bounded",1,b8),("fault",1,dM)]
  tb:=br
  tt:=aD
  tc:=cg
theorem zk:aW 30 (kN) (defBody iU)=gg:=by kernel_rfl
theorem vP:FnScope (kN).N ["word","tally"] (defScope iU):=⟨rfl,rfl,rfl,by decide+kernel,rfl,by decide+kernel,by decide+kernel⟩
abbrev gS:Stmt:=top 23
def fg:GT:=(cJ (ar (a_ br aD) (aa (ae 0) (aa (gC (.ty "int")) ai))))
def iE:GE:=(ae 0)
def fh:GT:=(cJ (ax 1 du (aa (ae 0) ai)))
def iF:GE:=(ae 0)
def gT:GS:=(ay (aH 2 (fu [] (eQ (ae 1)) fh iF))
  (ay (i8 (cJ (ae 2)) (aY (aj bN (ae 2) (gC (.int 0)))) a8)
  (ay (aH 3 (fu [] (eQ (ae 1)) fg iE))
  (ay (i8 (bg (aj oEq (ae 0) (gC (.str "sum")))) (aY (ax 1 b8 (aa (ar ko (aa (ae 3) ai)) ai))) a8)
  (ay (i8 (bg (aj oEq (ae 0) (gC (.str "count")))) (aY (ar iW (aa (ae 3) ai))) a8)
  (ay (i8 (qz (cJ (ae 3))) (aY (ax 1 dM (aa (gC (.str "none")) ai))) a8)
  (aY (ax 1 b8 (aa (je (bg (aj oEq (ae 0) (gC (.str "least")))) (ar jO (aa (ae 3) ai)) (ar jN (aa (ae 3) ai))) ai)))))))))
def dy:List Wv->Hs->Re Wv:=cq 4 gT
def ju:Ct where
  N:=["word","worths","faults","numbers"]
  names:=(defScope gS).names
  consts:=[]
  bl:=["len","isinstance","int","sum","min","max"]
  fns:=[("bounded",1,b8),("fault",1,dM),("is_fault",1,du)]
  tb:=br
  tt:=aD
  tc:=cg
theorem vQ:aW 30 (ju) (defBody gS)=gT:=by kernel_rfl
theorem ug:FnScope (ju).N ["word","worths"] (defScope gS):=⟨rfl,rfl,rfl,by decide+kernel,rfl,by decide+kernel,by decide+kernel⟩
abbrev cW:Stmt:=top 48
def b9:GT:=(cJ (aj bN (ae 1) (ae 0)))
def dA:GE:=(ae 0)
def cX:GS:=(ay (aH 1 (cO (aa (ar (a_ br aD) (aa (ae 0) (aa (gC (.cls "BadPlace")) ai))) (aa (ar (a_ br aD) (aa (ae 0) (aa (gC (.cls "BadArea")) ai))) (aa (ar (a_ br aD) (aa (ae 0) (aa (gC (.cls "BadText")) ai))) (aa (ar (a_ br aD) (aa (ae 0) (aa (gC (.cls "BadFormula")) ai))) ai))))))
  (ay (aH 2 (cO (aa (ar (a_ br aD) (aa (ae 0) (aa (gC (.cls "BadContent")) ai))) (aa (ar (a_ br aD) (aa (ae 0) (aa (gC (.cls "Full")) ai))) (aa (ar (a_ br aD) (aa (ae 0) (aa (gC (.cls "NoCell")) ai))) (aa (ar (a_ br aD) (aa (ae 0) (aa (gC (.cls "NotWaiting")) ai))) ai))))))
  (ay (aH 3 (cO (aa (ar (a_ br aD) (aa (ae 0) (aa (gC (.cls "BadCount")) ai))) (aa (ar (a_ br aD) (aa (ae 0) (aa (gC (.cls "NoRoom")) ai))) (aa (ar (a_ br aD) (aa (ae 0) (aa (gC (.cls "BadTable")) ai))) (aa (ar (a_ br aD) (aa (ae 0) (aa (gC (.cls "NoTable")) ai))) ai))))))
  (ay (aH 4 (cO (aa (ar (a_ br aD) (aa (ae 0) (aa (gC (.cls "NoColumn")) ai))) (aa (ar (a_ br aD) (aa (ae 0) (aa (gC (.cls "NoDeed")) ai))) (aa (ar (a_ br aD) (aa (ae 0) (aa (gC (.cls "Clash")) ai))) (aa (ar (a_ br aD) (aa (ae 0) (aa (gC (.ty "ValueError")) ai))) ai))))))
  (ay (aH 5 (aj cP (aj cP (aj cP (ae 1) (ae 2)) (ae 3)) (ae 4)))
  (aY (fu [("heard",5)] (Be (aa (gC (.int 16)) ai)) b9 dA)))))))
def cY:List Wv->Hs->Re Wv:=cq 6 cX
def cZ:Ct where
  N:=["e","one","two","three","four","heard"]
  names:=(defScope cW).names
  consts:=[]
  bl:=["isinstance","ValueError","range"]
  fns:=[]
  tb:=br
  tt:=aD
  tc:=cg
  vz:=["BadPlace","BadArea","BadText","BadFormula","BadContent","Full","NoCell","NotWaiting","BadCount","NoRoom","BadTable","NoTable","NoColumn","NoDeed","Clash"]
theorem rl:aW 30 (cZ) (defBody cW)=cX:=by kernel_rfl
theorem oW:aW 30 (cZ).un (defBody cW)=cX:=by kernel_rfl
theorem i_:FnScope (cZ).N ["e"] (defScope cW):=⟨rfl,rfl,rfl,by decide+kernel,rfl,by decide+kernel,by decide+kernel⟩
abbrev c9:Stmt:=top 49
def c_:GS:=(ip (ax 3 aQ (aa (ae 0) (aa (ae 1) (aa (ae 2) ai)))))
def bP:GS:=(aH 3 (ax 1 cY (aa (ae 4) ai)))
def dc:GS:=(ay (aH 3 (cO ai))
  (ay (yy (λy=>cg.lookup (y,("SheetError":PySem.Str))) 4 c_ bP)
  (aY (ae 3))))
def de:List Wv->Hs->Re Wv:=cq 5 dc
def fj:Ct where
  N:=["halves","low","high","heard","e"]
  names:=(defScope c9).names
  consts:=[]
  bl:=[]
  fns:=[("stretch_tally",3,aQ),("_law_kinds",1,cY)]
  tb:=br
  tt:=aD
  tc:=cg
  clss:=["SheetError"]
  tK:=["halves"]
  vA:=["_law_kinds"]
theorem n6:aW 30 (fj) (defBody c9)=dc:=by kernel_rfl
theorem lQ:FnScope (fj).N ["halves","low","high"] (defScope c9):=⟨rfl,rfl,rfl,by decide+kernel,rfl,by decide+kernel,by decide+kernel⟩
abbrev eE:Stmt:=top 47
def bp:GS:=(i8 (cJ (ar (a_ br aD) (aa (ae 3) (aa (gC (.ty "tuple")) ai)))) (i8 (bg (aj AB (ae 2) (gC .aE))) (aH 2 (ae 3)) a8) (i8 (cJ (ar (a_ br aD) (aa (ae 3) (aa (gC (.ty "int")) ai)))) (ip (k9 lG (ae 1) (ae 3))) a8))
def gU:GS:=(ay (aH 1 (cO ai))
  (ay (aH 2 (gC .aE))
  (ay (uZ 3 (ae 0) bp)
  (ay (i8 (bg (aj oEq (ar iW (aa (ae 1) ai)) (gC (.int 0)))) (aY (di (aa (gC (.int 0)) (aa (gC (.int 0)) (aa (gC .aE) (aa (gC .aE) (aa (ae 2) ai))))))) a8)
  (ay (aH 1 (ar vg (aa (ae 1) ai)))
  (aY (di (aa (ar ko (aa (ae 1) ai)) (aa (ar iW (aa (ae 1) ai)) (aa (aj bN (ae 1) (gC (.int 0))) (aa (aj bN (ae 1) (Ip mP (gC (.int 1)))) (aa (ae 2) ai))))))))))))
def df:List Wv->Hs->Re Wv:=cq 4 gU
def gW:Ct where
  N:=["worths","numbers","first","worth"]
  names:=(defScope eE).names
  consts:=[]
  bl:=["sorted","isinstance","tuple","len","sum","int"]
  fns:=[]
  tb:=br
  tt:=aD
  tc:=cg
theorem rn:aW 30 (gW) (defBody eE)=gU:=by kernel_rfl
theorem oX:FnScope (gW).N ["worths"] (defScope eE):=⟨rfl,rfl,rfl,by decide+kernel,rfl,by decide+kernel,by decide+kernel⟩
abbrev xw:Stmt:=top 50
def n8:GS:=(i8 (bg (aj sj (ax 3 de (aa (ae 4) (aa (ae 7) (aa (ae 8) ai)))) (cO (aa (gC (.int 8)) (aa (gC (.int 15)) ai))))) (aY (gC (.bl false))) a8)
def n9:GS:=(ay (aH 7 (aj oMod (ax 2 aU (aa (ar ko (aa (ae 0) ai)) (aa (aj bO (gC (.int 2)) (ae 6)) ai))) (ae 2)))
  (ay (aH 8 (aj cP (aj cP (ae 7) (gC (.int 1))) (aj oMod (ax 2 aU (aa (ar ko (aa (ae 0) ai)) (aa (aj cP (aj bO (gC (.int 2)) (ae 6)) (gC (.int 1))) ai))) (aj qA (ae 2) (ae 7)))))
  (ay (i8 (bg (aj oEq (ae 6) (gC (.int 30)))) (ay (aH 7 (gC (.int 0)))
    (aH 8 (ae 2))) a8)
  (ay (aH 9 (ax 3 aQ (aa (ae 4) (aa (ae 7) (aa (ae 8) ai)))))
  (ay (aH 10 (iO (ae 3) (pE (ae 7)) (pE (ae 8))))
  (ay (i8 (L9 (qz (cJ (ar (y0 br aD) (aa (ae 9) (aa (gC (.ty "tuple")) ai))))) (bg (aj sj (ae 9) (ax 1 df (aa (ae 10) ai))))) (aY (gC (.bl false))) a8)
  (ay (aH 11 (aj bN (cO (aa (gC (.str "sum")) (aa (gC (.str "count")) (aa (gC (.str "least")) (aa (gC (.str "greatest")) ai))))) (aj oMod (ae 6) (gC (.int 4)))))
  (i8 (bg (aj sj (ax 2 bK (aa (ae 11) (aa (ae 9) ai))) (ax 2 dy (aa (ae 11) (aa (ae 10) ai))))) (aY (gC (.bl false))) a8))))))))
def xx:GS:=(ay (aH 1 (ax 2 aX (aa (ae 0) (aa (gC (.int 0)) ai))))
  (ay (aH 2 (aj cP (gC (.int 1)) (aj oMod (aj fW (ae 1) (gC (.int 4))) (gC (.int 99)))))
  (ay (aH 3 (ax 3 bI (aa (ae 0) (aa (ae 2) (aa (aj oEq (aj oMod (aj fW (ae 1) (gC (.int 2))) (gC (.int 2))) (gC (.int 0))) ai)))))
  (ay (aH 4 (ax 1 dI (aa (ae 3) ai)))
  (ay (aH 5 (ar qa (aa (ae 4) ai)))
  (ay (j_ 6 (aa (gC (.int 31)) ai) n9)
  (ay (aH 12 (aj oMod (ar ko (aa (ae 0) ai)) (aj qB (gC (.int 10)) (gC (.int 30)))))
  (ay (wB [7,8] (cO (aa (di (aa (gC (.int 0)) (aa (gC (.int 0)) ai))) (aa (di (aa (ae 2) (aa (ae 2) ai))) (aa (di (aa (gC (.int 1)) (aa (gC (.int 0)) ai))) (aa (di (aa (Ip mP (gC (.int 1))) (aa (gC (.int 1)) ai))) (aa (di (aa (gC (.int 0)) (aa (aj cP (ae 2) (gC (.int 1))) ai))) (aa (di (aa (aj qA (Ip mP (gC (.int 1))) (ae 12)) (aa (gC (.int 1)) ai))) (aa (di (aa (gC (.int 0)) (aa (aj cP (aj cP (ae 2) (gC (.int 1))) (ae 12)) ai))) ai)))))))) n8)
  (aY (aj vy (ae 4) (ae 5)))))))))))
def F_law:List Wv->Hs->Re Wv:=cq 13 xx
def C0:Ct where
  N:=["script","head","many","worths","halves","kept","k","low","high","found","some","word","far"]
  names:=(defScope xw).names
  consts:=[]
  bl:=["dict","range","sum","isinstance","tuple"]
  fns:=[("_law_cell_at",2,aX),("_law_worths",3,bI),("made_halves",1,dI),("stretch_tally",3,aQ),("_law_mixed",2,aU),("told_by",2,bK),("gathered",2,dy),("_law_refusal",3,de),("_law_tally",1,df)]
  tb:=br
  tt:=aD
  tc:=cg
  tK:=["halves","kept"]
theorem Nt:aW 30 (C0) (defBody xw)=xx:=by kernel_rfl
theorem Kk:FnScope (C0).N ["script"] (defScope xw):=⟨rfl,rfl,rfl,by decide+kernel,rfl,by decide+kernel,by decide+kernel⟩
end K82
namespace K82
open PySem J
inductive Wo where
 | aE
 | int (i:Int)
 | txt (x:PySem.Str)
 | rO (x:PySem.Str)
def Wo.w:Wo->Wv
 | .aE=> .aE
 | .int i=> .int i
 | .txt x=> .str x
 | .rO x=> .tup [.str "fault",.str x]
def Wo.f:Wo->Bool
 | .rO _=>true
 | _=>false
def Wo.n:Wo->Bool
 | .int _=>true
 | _=>false
theorem To(a:Wo)(st:Hs):du [a.w] st= .ok (.bl a.f) st:=by cases a<;>rfl
def nums:List Wo->List Int
 | []=>[]
 | .int i::r=>i::nums r
 | _::r=>nums r
def bQ:List Wo->List PySem.Str
 | []=>[]
 | .rO x::r=>x::bQ r
 | _::r=>bQ r
theorem dg:∀(a b:List Wo),nums (a++b)=nums a++nums b
 | [],b=>rfl
 | x::r,b=>by cases x<;>simp[nums,dg r b]
theorem gj:∀(a b:List Wo),bQ (a++b)=bQ a++bQ b
 | [],b=>rfl
 | x::r,b=>by cases x<;>simp[bQ,gj r b]
theorem n_:∀a:List Wo,(nums a).length<=a.length
 | []=>Nat.le_refl _
 | x::r=>by
  have:=n_ r
  cases x<;>simp[nums]<;>omega
theorem og:∀a:List Wo,(a.map Wo.w).filter (λv=>match v with | .int _=>true | _=>false)=(nums a).map Wv.int
 | []=>rfl
 | x::r=>by
  have:=og r
  cases x<;>simp[nums,Wo.w,this]
theorem oh:∀a:List Wo,(a.map Wo.w).filter (λv=>match v with | .tup _=>true | _=>false)=(bQ a).map λx=>Wv.tup [.str "fault",.str x]
 | []=>rfl
 | x::r=>by
  have:=oh r
  cases x<;>simp[bQ,Wo.w,this]
def GN:Int:=10 ^ (60:Int).toNat
theorem Tp{st:Hs}:qB (.int 10) (.int 60) st= .ok (.int GN) st:=GG (by decide)
def bnd(i:Int):Wv:=if GN < (if i < 0 then -i else i) then .tup [.str "fault",.str "great"] else .int i
theorem bounded{i:Int}{st:Hs}:b8 [.int i] st= .ok (bnd i) st:=by
 have g:ff [.int i] st= .ok (.bl (decide (GN < (if i < 0 then -i else i)))) st:=by
  unfold ff cq jq
  simp[Tp]
 have f:dM [.str "great"] st= .ok (.tup [.str "fault",.str "great"]) st:=rfl
 unfold b8 cq kL bnd
 by_cases c:GN < (if i < 0 then -i else i)
 ·simp[g,f,c]
 ·simp[g,f,c]
def first(ws:List Wo):Wv:=match bQ ws with
 | []=> .aE
 | x::_=> .tup [.str "fault",.str x]
def fS(ws:List Wo):List Wv:=match nums ws with
 | []=>[.int 0,.int 0,.aE,.aE,first ws]
 | n::r=>[.int (n::r).sum,.int (n::r).length,.int (fH n r),.int (fm n r),first ws]
inductive iX where
 | sum | count | least | iG
def iX.s:iX->PySem.Str
 | .sum=>"sum"
 | .count=>"count"
 | .least=>"least"
 | .iG=>"greatest"
def due(wd:iX)(ws:List Wo):Wv:=match bQ ws with
 | x::_=> .tup [.str "fault",.str x]
 | []=>match wd with
  | .sum=>bnd (nums ws).sum
  | .count=> .int (nums ws).length
  | .least=>(match nums ws with | []=> .tup [.str "fault",.str "none"] | n::r=>bnd (fH n r))
  | .iG=>(match nums ws with | []=> .tup [.str "fault",.str "none"] | n::r=>bnd (fm n r))
theorem Fx:(("sum":PySem.Str) == "sum")=true:=rfl
theorem Fy:(("count":PySem.Str) == "sum")=false:=rfl
theorem Fz:(("least":PySem.Str) == "sum")=false:=rfl
theorem FA:(("greatest":PySem.Str) == "sum")=false:=rfl
theorem FC:(("count":PySem.Str) == "count")=true:=rfl
theorem FD:(("least":PySem.Str) == "count")=false:=rfl
theorem FE:(("greatest":PySem.Str) == "count")=false:=rfl
theorem FF:(("least":PySem.Str) == "least")=true:=rfl
theorem FG:(("greatest":PySem.Str) == "least")=false:=rfl
theorem FH{a b c d e:Wv}{st:Hs}:bN (.tup [a,b,c,d,e]) (.int 0) st= .ok a st/\bN (.tup [a,b,c,d,e]) (.int 1) st= .ok b st/\bN (.tup [a,b,c,d,e]) (.int 2) st= .ok c st/\bN (.tup [a,b,c,d,e]) (.int 3) st= .ok d st/\bN (.tup [a,b,c,d,e]) (.int 4) st= .ok e st:=⟨vI rfl,vI rfl,vI rfl,vI rfl,vI rfl⟩
theorem uh{wd:iX}{a b c d:Wv}{x:List Wv}{st:Hs}:bK [.str wd.s,.tup [a,b,c,d,.tup x]] st= .ok (.tup x) st:=by
 obtain⟨i0,i1,i2,i3,i4⟩:=FH (a:=a) (b:=b) (c:=c) (d:=d) (e:=.tup x) (st:=st)
 have n:eL (.tup x) .aE st= .ok (.bl true) st:=rfl
 unfold bK cq gg
 simp[i4,n]
def tb(wd:iX)(s c:Int)(a b:Wv):Wv:=match wd with
 | .sum=>bnd s
 | .count=> .int c
 | .least=>(match a with | .int i=>bnd i | _=> .tup [.str "fault",.str "none"])
 | .iG=>(match b with | .int i=>bnd i | _=> .tup [.str "fault",.str "none"])
theorem zl{wd:iX}{s c:Int}{st:Hs}:bK [.str wd.s,.tup [.int s,.int c,.aE,.aE,.aE]] st= .ok (tb wd s c .aE .aE) st:=by
 obtain⟨i0,i1,i2,i3,i4⟩:=FH (a:=.int s) (b:=.int c) (c:=.aE) (d:=.aE) (e:=.aE) (st:=st)
 have n:eL .aE .aE st= .ok (.bl false) st:=rfl
 have n2:AB .aE .aE st= .ok (.bl true) st:=rfl
 have f:dM [.str "none"] st= .ok (.tup [.str "fault",.str "none"]) st:=rfl
 unfold bK cq gg
 cases wd<;>simp[i0,i1,i2,i3,i4,n,n2,f,iX.s,Fx,Fy,Fz,FA,FC,FD,FE,FF,FG,bounded,tb]
theorem zm{wd:iX}{s c a b:Int}{st:Hs}:bK [.str wd.s,.tup [.int s,.int c,.int a,.int b,.aE]] st= .ok (tb wd s c (.int a) (.int b)) st:=by
 obtain⟨i0,i1,i2,i3,i4⟩:=FH (a:=.int s) (b:=.int c) (c:=.int a) (d:=.int b) (e:=.aE) (st:=st)
 have n:eL .aE .aE st= .ok (.bl false) st:=rfl
 have n1:∀i:Int,AB (.int i) .aE st= .ok (.bl false) st:=λ_=>rfl
 unfold bK cq gg
 cases wd<;>simp[i0,i1,i2,i3,i4,n,n1,iX.s,Fx,Fy,Fz,FA,FC,FD,FE,FF,FG,bounded,tb]
theorem told{wd:iX}{ws:List Wo}{st:Hs}:bK [.str wd.s,.tup (fS ws)] st= .ok (due wd ws) st:=by
 unfold fS due first
 cases e1:nums ws with
 | nil=>
  cases e2:bQ ws with
  | nil=>dsimp only;rw[zl];cases wd<;>rfl
  | cons x r=>exact uh
 | cons n r=>
  cases e2:bQ ws with
  | nil=>dsimp only;rw[zm];cases wd<;>rfl
  | cons x r=>exact uh
theorem Q0(a:Wo)(st:Hs):a_ br aD [a.w,.ty "int"] st= .ok (.bl a.n) st:=by cases a<;>rfl
theorem Tq(a:Wo)(st:Hs):a_ br aD [a.w,.ty "tuple"] st= .ok (.bl a.f) st:=by cases a<;>rfl
theorem gather{wd:iX}{ws:List Wo}{l:Nat}{st:Hs}(h:ag st l=some (ws.map Wo.w))(hl:ws.length < 100):∃st',dy [.str wd.s,.ref l] st= .ok (due wd ws) st'/\Gr st st':=by
 have c1:∀st:Hs,ag st l=some (ws.map Wo.w)->∀ρ,bX [] fh iF ρ (some l,ws.map Wo.w) st= .ok (.ref st.length) (st++[.lst ((bQ ws).map λx=>Wv.tup [.str "fault",.str x])]):=by
  intro st h ρ
  rw[dt (w:=(some l,ws.map Wo.w)) (t:=λv=>match v with | .tup _=>true | _=>false) (f:=id) h]
  ·rw[List.map_id,oh]
  ·intro v hv acc
   obtain⟨a,_,rfl⟩:=List.mem_map.mp hv
   unfold fh
   simp[To]
   cases a<;>rfl
  ·intro v hv _ acc
   rfl
  ·simp;unfold lim;omega
 have c2:∀st:Hs,ag st l=some (ws.map Wo.w)->∀ρ,bX [] fg iE ρ (some l,ws.map Wo.w) st= .ok (.ref st.length) (st++[.lst ((nums ws).map Wv.int)]):=by
  intro st h ρ
  rw[dt (w:=(some l,ws.map Wo.w)) (t:=λv=>match v with | .int _=>true | _=>false) (f:=id) h]
  ·rw[List.map_id,og]
  ·intro v hv acc
   obtain⟨a,_,rfl⟩:=List.mem_map.mp hv
   unfold fg
   simp[Q0]
   cases a<;>rfl
  ·intro v hv _ acc
   rfl
  ·simp;unfold lim;omega
 have l1:=aw (st:=st) (ws:=(bQ ws).map λx=>Wv.tup [.str "fault",.str x])
 cases e2:bQ ws with
 | cons x r=>
  have q:due wd ws= .tup [.str "fault",.str x]:=by unfold due;rw[e2]
  rw[e2] at l1
  refine⟨st++[.lst ((bQ ws).map λx=>Wv.tup [.str "fault",.str x])],?_,Gr.push⟩
  rw[q]
  have i:=hG (st:=st++[.lst ((bQ ws).map λx=>Wv.tup [.str "fault",.str x])]) (l:=st.length) (i:=0) (ws:=(x::r).map λx=>Wv.tup [.str "fault",.str x]) (v:=.tup [.str "fault",.str x]) (by rw[e2];exact l1) (by rw[List.map_cons];exact xu)
  have tr:mU (.ref st.length) (st++[.lst ((bQ ws).map λx=>Wv.tup [.str "fault",.str x])])= .ok true (st++[.lst ((bQ ws).map λx=>Wv.tup [.str "fault",.str x])]):=by
   unfold mU
   simp only[e2,l1]
   rfl
  unfold dy cq gT
  simp[dq h,c1 _ h,tr,i]
 | nil=>
  rw[e2] at l1
  have h2:ag (st++[.lst []]) l=some (ws.map Wo.w):=Gr.push.lst h
  have l3:=aw (st:=st++[.lst []]) (ws:=(nums ws).map Wv.int)
  have C2:=c1 _ h
  rw[e2] at C2
  simp only[List.map_nil] at C2
  have Dh:=c2 _ h2
  have tr:mU (.ref st.length) (st++[.lst []])= .ok false (st++[.lst []]):=by
   unfold mU
   simp only[show ag (st++[.lst []]) st.length=some [] from l1]
   rfl
  refine⟨st++[.lst []]++[.lst ((nums ws).map Wv.int)],?_,Gr.push.trans Gr.push⟩
  generalize st++[.lst []]=s1 at tr h2 l3 Dh C2
  generalize hs2:s1++[.lst ((nums ws).map Wv.int)]=s2 at l3 Dh
  have f:dM [.str "none"] s2= .ok (.tup [.str "fault",.str "none"]) s2:=rfl
  have sm:=qf l3
  have ln:iW [.ref s1.length] s2= .ok (.int (nums ws).length) s2:=by
   have:=nR l3
   rwa [List.length_map] at this
  have OE:mU (.ref s1.length) s2= .ok (!((nums ws).map Wv.int).isEmpty) s2:=by
   unfold mU
   simp only[l3]
  unfold due
  rw[e2]
  unfold dy cq gT
  cases en:nums ws with
  | nil=>
   rw[en] at sm ln OE
   cases wd<;>simp[dq h,C2,tr,dq h2,Dh,sm,ln,OE,f,iX.s,Fx,Fy,Fz,FA,FC,FD,FE,FF,FG,bounded]
  | cons n r=>
   rw[en] at sm ln OE l3
   cases wd<;>simp[dq h,C2,tr,dq h2,Dh,sm,ln,OE,f,iX.s,Fx,Fy,Fz,FA,FC,FD,FE,FF,FG,bounded,CP l3,CQ l3]
theorem digit{st:Hs}{l:Nat}{n many:Int}(h:st[l]? =some (.lst [.int n]))(hm:many≠0/\many.natAbs.log2 < 9000) :
  aP [.ref l,.int many] st= .ok (.int (n.fmod many)) (st.set l (.lst [.int (n.fdiv many)])):=by
 have hl:ag st l=some [.int n]:=by unfold ag;rw[h]
 have h0:L2.kU [Wv.int n] 0=some (.int n):=rfl
 unfold aP cq gG
 simp[hG hl h0,iw hm.1,nQ hm,wz,Mw,h,L2.xW]
theorem pick{st:Hs}{l:Nat}{n many:Int}{ws:List Wv}(h:st[l]? =some (.lst [.int n]))(hm:many≠0/\many.natAbs.log2 < 9000)(hp:0 < many)(hw:(ws.length:Int)=many) :
  ∃v st',v∈ws/\aP [.ref l,.int many] (st++[.lst ws])= .ok (.int (n.fmod many)) st'/\bN (.ref st.length) (.int (n.fmod many)) st'= .ok v st'/\bA l st st'/\st'[l]? =some (.lst [.int (n.fdiv many)]):=by
 have hl:l < st.length:=(List.getElem?_eq_some_iff.mp h).1
 obtain⟨v,e1,e2⟩:=CO (ws:=ws) (d:=n.fmod many) (Int.fmod_nonneg_of_pos _ hp) (by rw[hw];exact Int.fmod_lt_of_pos _ hp)
 refine⟨v,_,e2,digit (f_ h) hm,hG (ws:=ws) ?_ e1,bA.push.trans bA.set,dY (f_ h)⟩
 have k:bA l (st++[Ob.lst ws]) ((st++[Ob.lst ws]).set l (.lst [.int (n.fdiv many)])):=bA.set
 exact k.lst aw (by omega)
theorem worth{st:Hs}{l:Nat}{n:Int}(h:st[l]? =some (.lst [.int n])):∃(a:Wo)(st':Hs),cU [.ref l] st= .ok a.w st'/\bA l st st':=by
 have d5:=digit (many:=12) h (by decide)
 have h1:=dY (o':=.lst [.int (n.fdiv 12)]) h
 have k1:bA l st (st.set l (.lst [.int (n.fdiv 12)])):=bA.set
 generalize st.set l (.lst [.int (n.fdiv 12)])=st1 at d5 h1 k1
 generalize n.fdiv 12=n1 at h1
 generalize hw:n.fmod 12=way at d5
 unfold cU cq gI
 by_cases w0:way < 5
 ·have d:=digit (many:=15) h1 (by decide)
  exact⟨.int (n1.fmod 15 - 5),st1.set l (.lst [.int (n1.fdiv 15)]),by simp[d5,w0,d,Wo.w],k1.trans bA.set⟩
 by_cases w1:way < 7
 ·obtain⟨v,st2,hv,e1,e2,k2,h2⟩:=pick (many:=2) (ws:=[.int 1,.int (-1)]) h1 (by decide) (by decide) rfl
  obtain⟨x,rfl,Vm,Vn⟩:∃x:Int,v= .int x/\-(2 ^ 64) < x/\x < 2 ^ 64:=by
   simp at hv
   rcases hv with rfl | rfl
   ·exact⟨1,rfl,by decide,by decide⟩
   ·exact⟨-1,rfl,by decide,by decide⟩
  have d:=digit (many:=3) h2 (by decide)
  have m:bO (.int x) (.int (GN - (n1.fdiv 2).fmod 3)) (st2.set l (.lst [.int ((n1.fdiv 2).fdiv 3)]))= .ok (.int (x * (GN - (n1.fdiv 2).fmod 3))) (st2.set l (.lst [.int ((n1.fdiv 2).fdiv 3)])):=tW Vm Vn
  exact⟨.int (x * (GN - (n1.fdiv 2).fmod 3)),_,by simp[d5,w0,w1,e1,e2,Tp,d,m,Wo.w];rfl,k1.trans (k2.trans bA.set)⟩
 by_cases w2:way < 9
 ·obtain⟨v,st2,hv,e1,e2,k2,h2⟩:=pick (many:=4) (ws:=[.str "",.str "a",.str "b7",.str "7"]) h1 (by decide) (by decide) rfl
  obtain⟨x,rfl⟩:∃x,v= .str x:=by simp at hv;rcases hv with rfl | rfl | rfl | rfl<;>exact⟨_,rfl⟩
  exact⟨.txt x,st2,by simp[d5,w0,w1,w2,e1,e2,Wo.w],k1.trans k2⟩
 by_cases w3:way < 11
 ·exact⟨.aE,st1,by simp[d5,w0,w1,w2,w3,Wo.w],k1⟩
 ·obtain⟨v,st2,hv,e1,e2,k2,h2⟩:=pick (many:=5) (ws:=[.str "kind",.str "great",.str "nought",.str "none",.str "lost"]) h1 (by decide) (by decide) rfl
  obtain⟨x,rfl⟩:∃x,v= .str x:=by simp at hv;rcases hv with rfl | rfl | rfl | rfl | rfl<;>exact⟨_,rfl⟩
  exact⟨.rO x,st2,by simp[d5,w0,w1,w2,w3,e1,e2,Wo.w],k1.trans k2⟩
theorem mixed{st:Hs}{c k:Int}(h0:0<=k)(h1:k < 1000000):∃v:Int,0<=v/\aU [.int c,.int k] st= .ok (.int v) st:=by
 have q1:=Int.fmod_nonneg_of_pos c (b:=1000000007) (by decide)
 have q2:=Int.fmod_lt_of_pos c (b:=1000000007) (by decide)
 have z1:bO (.int 7919) (.int k) st= .ok (.int (7919 * k)) st:=tW (by decide) (by decide)
 have z2:∀i:Int,bO (.int i) (.int 48271) st= .ok (.int (i * 48271)) st:=λi=>mul_r (by decide) (by decide)
 have z3:∀i:Int,bO (.int i) (.int 69621) st= .ok (.int (i * 69621)) st:=λi=>mul_r (by decide) (by decide)
 generalize hs:((c.fmod 1000000007+7919 * k+1) * 48271).fmod 2147483647=s
 have s0:0<=s:=by rw[<-hs];exact Int.fmod_nonneg_of_pos _ (by decide)
 have s1:s < 2147483647:=by rw[<-hs];exact Int.fmod_lt_of_pos _ (by decide)
 have z4:bO (.int s) (.int s) st= .ok (.int (s * s)) st:=tW (by omega) (by omega)
 refine⟨((s * s).fmod 2147483629 * 69621).fmod 2147483647,Int.fmod_nonneg_of_pos _ (by decide),?_⟩
 unfold aU cq gK
 simp[z1,z2,z3,z4,hs,iw]
theorem rp{st:Hs}{l:Nat}{ns:List Int}(h:ag st l=some (ns.map Wv.int)){k:Int}(h0:0<=k):∃v:Int,aX [.ref l,.int k] st= .ok (.int v) st:=by
 have ln:=nR h
 rw[List.length_map] at ln
 unfold aX cq eS
 by_cases c:k < ns.length
 ·have hk:k.toNat < ns.length:=by omega
  have ek:k=((k.toNat:Nat):Int):=by omega
  have a:L2.kU (ns.map Wv.int) k=some (.int ns[k.toNat]):=by
   have q:=L2.lS (xs:=ns.map Wv.int) (j:=k.toNat) (v:=.int ns[k.toNat]) (by simp[hk])
   rw[<-ek] at q
   exact q
  exact⟨ns[k.toNat],by simp[ln,c,hG h a]⟩
 ·exact⟨0,by simp[ln,c]⟩
theorem Kl{st:Hs}{l:Nat}{ns:List Int}(h:ag st l=some (ns.map Wv.int)){k:Int}(h0:0<=k)(h1:k < 1000):∃n:Int,cx [.ref l,.int k] st= .ok (.ref st.length) (st++[.lst [.int n]]):=by
 obtain⟨v,ev⟩:=rp h h0
 obtain⟨v0,Q1⟩:=rp h (k:=0) (Int.le_refl _)
 have ln:=nR h
 rw[List.length_map] at ln
 have sm:=qf h
 have loop:∀g:Int,∃(o4:Option Wv)(g':Int),eN 4 bZ (cb 0 3) [some (.ref l),some (.int k),some (.int v),some (.int g),none] st= .nx [some (.ref l),some (.int k),some (.int v),some (.int g'),o4] st:=by
  intro g
  obtain⟨ρ,st',e,q⟩:=tX (i:=4) (gb:=bZ) (λρ st'=>∃(o4:Option Wv)(g:Int),ρ=[some (.ref l),some (.int k),some (.int v),some (.int g),o4]/\st'=st) (cb 0 3) [some (.ref l),some (.int k),some (.int v),some (.int g),none] st ⟨none,g,rfl,rfl⟩ (by
   rintro w hw _ st ⟨o4,g,rfl,rfl⟩
   obtain⟨j,rfl,j0,j1⟩:=xt hw
   obtain⟨u,_,eu⟩:=mixed (st:=st) (c:=v+ns.sum) (k:=5 * k+j) (by omega) (by omega)
   have z1:bO (.int 5) (.int k) st= .ok (.int (5 * k)) st:=tW (by decide) (by decide)
   have z3:bO (.int g) (.int 2147483647) st= .ok (.int (g * 2147483647)) st:=mul_r (by decide) (by decide)
   refine⟨_,_,?_,⟨some (.int j),g * 2147483647+u,rfl,rfl⟩⟩
   unfold bZ
   simp[sm,z1,z3,eu])
  obtain⟨o4,g',rfl,rfl⟩:=q
  exact⟨o4,g',e⟩
 have f8:∀i:Int,fW (.int i) (.int 8) st= .ok (.int (i.fdiv 8)) st:=λi=>nQ (by decide)
 obtain⟨o4,g',e⟩:=loop 0
 have c3:jf 3:=Ft (by decide) (by decide)
 unfold cx cq fJ
 by_cases b:v0.fmod 2=1
 ·by_cases c:k < ns.length
  ·exact⟨v,by simp[ev,Q1,iw,b,ln,c]⟩
  ·exact⟨g'.fdiv 8,by simp[ev,Q1,iw,b,ln,c,c3,e,f8]⟩
 ·have b':(v0.fmod 2 == 1)=false:=beq_false_of_ne b
  exact⟨g'.fdiv 8,by simp[ev,Q1,iw,b',c3,e,f8]⟩
theorem Km{st:Hs}{l:Nat}{ns:List Int}(h:ag st l=some (ns.map Wv.int)){m:Nat}(hm:m<=99){b:Bool}:∃(ws:List Wo)(st':Hs),bI [.ref l,.int m,.bl b] st= .ok (.ref st.length) st'/\Gr st st'/\st'[st.length]? =some (.lst (ws.map Wo.w))/\ws.length=m:=by
 have hlt:=f9 h
 have cm:jf m:=Ft (by omega) (by omega)
 obtain⟨ρ',st',e,⟨ws,o4,o5,rfl,hw,hg,hn⟩⟩:=tZ (λk:Nat=>Wv.int (0+(k:Int))) (i:=4) (gb:=b7) (List.range m)
  (λpre ρ s=>∃(ws:List Wo)(o4 o5:Option Wv),ρ=[some (.ref l),some (.int m),some (.bl b),some (.ref st.length),o4,o5]/\ws.length=pre.length/\Gr st s/\s[st.length]? =some (.lst (ws.map Wo.w)))
  (by
   rintro k pre post _ s hf ⟨ws,o4,o5,rfl,hw,hg,hn⟩
   have hpl:pre.length < 99/\k < m:=by
    have h1:=congrArg List.length hf
    have h2:k∈List.range m:=by rw[hf];simp
    simp at h1 h2
    omega
   have hs:=hg.lst h
   obtain⟨n,e1⟩:=Kl hs (k:=0+(k:Int)+1) (by omega) (by omega)
   rw[Int.zero_add] at e1
   obtain⟨a,s2,e2,k2⟩:=worth (st:=s++[.lst [.int n]]) (l:=s.length) (n:=n) dZ
   have g2:Gr s s2:=Gr.kG (Nat.le_refl _) Gr.push k2
   have hn2:=g2.get hn
   have t:=Tq a s2
   obtain⟨a',ha'⟩:∃a':Wo,a'.w=(if(!b&&a.f)=true then .int (0+(k:Int)) else a.w):=by
    split
    ·exact⟨.int _,rfl⟩
    ·exact⟨a,rfl⟩
   have ap:=CM (v:=a'.w) hn2 (by rw[List.length_map];unfold lim;omega)
   have mm:=ma (mt:=lG) (ga:=ae 5) (ρ:=[some (.ref l),some (.int m),some (.bl b),some (.ref st.length),some (.int (0+(k:Int))),some a'.w]) (bY hn2)
   refine⟨[some (.ref l),some (.int m),some (.bl b),some (.ref st.length),some (.int (0+(k:Int))),some a'.w],s2.set st.length (.lst (ws.map Wo.w++[a'.w])),?_,ws++[a'],_,_,rfl,by simp[hw],?_,?_⟩
   ·unfold b7
    cases b with
    | true=>
     simp at ha'
     simp[ha'] at ap mm
     simp[e1,e2,t,mm,ap,ha']
    | false=>
     cases hf:a.f with
     | true=>
      simp[hf] at ha'
      simp[ha'] at ap mm
      simp[e1,e2,t,mm,ap,ha',hf]
     | false=>
      simp[hf] at ha'
      simp[ha'] at ap mm
      simp[e1,e2,t,mm,ap,ha',hf]
   ·exact Gr.kG (Nat.le_refl _) (hg.trans g2) bA.set
   ·rw[dY hn2];simp) (List.range m) [] [some (.ref l),some (.int m),some (.bl b),some (.ref st.length),none,none] (st++[.lst []]) rfl ⟨[],none,none,rfl,rfl,Gr.push,dZ⟩
 refine⟨ws,st',?_,hg,hn,by simpa using hw⟩
 have e':eN 4 b7 (cb 0 m) [some (.ref l),some (.int m),some (.bl b),some (.ref st.length),none,none] (st++[.lst []])= .nx [some (.ref l),some (.int m),some (.bl b),some (.ref st.length),o4,o5] st':=e
 unfold bI cq fL
 simp[cm,e']
theorem zo(wd:iX)(ws:List Wo):(∃i,due wd ws= .int i)\/∃x,due wd ws= .tup [.str "fault",.str x]:=by
 have hb:∀i,(∃j,bnd i= .int j)\/∃x,bnd i= .tup [.str "fault",.str x]:=by
  intro i
  unfold bnd
  by_cases c:GN < (if i < 0 then -i else i)
  ·rw[if_pos c];exact .inr ⟨_,rfl⟩
  ·rw[if_neg c];exact .inl ⟨_,rfl⟩
 unfold due
 cases bQ ws with
 | cons x r=>exact .inr ⟨_,rfl⟩
 | nil=>
  cases wd with
  | sum=>exact hb _
  | count=>exact .inl ⟨_,rfl⟩
  | least=>cases nums ws with
   | nil=>exact .inr ⟨_,rfl⟩
   | cons n r=>exact hb _
  | iG=>cases nums ws with
   | nil=>exact .inr ⟨_,rfl⟩
   | cons n r=>exact hb _
theorem Kn{wd:iX}{ws:List Wo}{st:Hs}:sj (due wd ws) (due wd ws) st= .ok (.bl false) st:=by
 rcases zo wd ws with ⟨i,e⟩ | ⟨x,e⟩<;>rw[e]
 ·exact Np
 ·exact Nq
theorem xy{l:Nat}{ws:List Wv}{st:Hs}(h:ag st l=some ws):mU (.ref l) st= .ok (!ws.isEmpty) st:=by
 unfold mU
 simp only[h]
theorem oj{ws:List Wo}{l:Nat}{st:Hs}(h:ag st l=some (ws.map Wo.w))(hl:ws.length < 100):∃st',bV [.ref l] st= .ok (.tup (fS ws)) st'/\Gr st st':=by
 have c1:∀st:Hs,ag st l=some (ws.map Wo.w)->∀ρ,bX [] eV iC ρ (some l,ws.map Wo.w) st= .ok (.ref st.length) (st++[.lst ((bQ ws).map λx=>Wv.tup [.str "fault",.str x])]):=by
  intro st h ρ
  rw[dt (w:=(some l,ws.map Wo.w)) (t:=λv=>match v with | .tup _=>true | _=>false) (f:=id) h]
  ·rw[List.map_id,oh]
  ·intro v hv acc
   obtain⟨a,_,rfl⟩:=List.mem_map.mp hv
   unfold eV
   simp[To]
   cases a<;>rfl
  ·intro v hv _ acc
   rfl
  ·simp;unfold lim;omega
 have c2:∀st:Hs,ag st l=some (ws.map Wo.w)->∀ρ,bX [] eW iD ρ (some l,ws.map Wo.w) st= .ok (.ref st.length) (st++[.lst ((nums ws).map Wv.int)]):=by
  intro st h ρ
  rw[dt (w:=(some l,ws.map Wo.w)) (t:=λv=>match v with | .int _=>true | _=>false) (f:=id) h]
  ·rw[List.map_id,og]
  ·intro v hv acc
   obtain⟨a,_,rfl⟩:=List.mem_map.mp hv
   unfold eW
   simp[Q0]
   cases a<;>rfl
  ·intro v hv _ acc
   rfl
  ·simp;unfold lim;omega
 have Dh:=c2 _ h
 have l1:=aw (st:=st) (ws:=(nums ws).map Wv.int)
 have g1:Gr st (st++[.lst ((nums ws).map Wv.int)]):=Gr.push
 generalize st++[.lst ((nums ws).map Wv.int)]=s1 at Dh l1 g1
 have h1:=g1.lst h
 have C2:=c1 _ h1
 have l2:=aw (st:=s1) (ws:=(bQ ws).map λx=>Wv.tup [.str "fault",.str x])
 have g2:Gr s1 (s1++[.lst ((bQ ws).map λx=>Wv.tup [.str "fault",.str x])]):=Gr.push
 generalize s1++[.lst ((bQ ws).map λx=>Wv.tup [.str "fault",.str x])]=s2 at C2 l2 g2
 have l3:=g2.lst l1
 refine⟨s2,?_,g1.trans g2⟩
 have t1:=xy l3
 have t2:=xy l2
 have sm:=qf l3
 have ln:=nR l3
 rw[List.length_map] at ln
 have fi:∃fw:Wv,fw=first ws/\(je (cJ (ae 2)) (aj bN (ae 2) (gC (.int 0))) (gC .aE))=(je (cJ (ae 2)) (aj bN (ae 2) (gC (.int 0))) (gC .aE)):=⟨_,rfl,rfl⟩
 unfold bV cq jn fS first
 cases en:nums ws with
 | nil=>
  rw[en] at t1 sm ln
  cases ef:bQ ws with
  | nil=>
   rw[ef] at t2
   simp[dq h,Dh,dq h1,C2,t1,t2,sm,ln]
  | cons x r=>
   rw[ef] at t2 l2
   have i:=hG (i:=0) (v:=.tup [.str "fault",.str x]) l2 (by rw[List.map_cons];exact xu)
   simp[dq h,Dh,dq h1,C2,t1,t2,sm,ln,i]
 | cons n r=>
  rw[en] at t1 sm ln l3
  cases ef:bQ ws with
  | nil=>
   rw[ef] at t2
   simp[dq h,Dh,dq h1,C2,t1,t2,sm,ln,CQ l3,CP l3]
  | cons x r'=>
   rw[ef] at t2 l2
   have i:=hG (i:=0) (v:=.tup [.str "fault",.str x]) l2 (by rw[List.map_cons];exact xu)
   simp[dq h,Dh,dq h1,C2,t1,t2,sm,ln,i,CQ l3,CP l3]
theorem Ko{n m:Int}{r t:List Int}:fH n (r++m::t)=fH (fH n r) [fH m t]:=by
 obtain⟨a1,a2⟩:=nu r n
 obtain⟨b1,b2⟩:=nu t m
 obtain⟨c1,c2⟩:=nu [fH m t] (fH n r)
 refine(wN ?_ λa ha=>?_).symm
 ·simp only[List.mem_cons,List.not_mem_nil,or_false] at c1
  rcases c1 with e | e
  ·rw[e];rcases List.mem_cons.mp a1 with z | z
   ·rw[z];simp
   ·simp[z]
  ·rw[e];rcases List.mem_cons.mp b1 with z | z
   ·rw[z];simp
   ·simp[z]
 ·have h1:=c2 (fH n r) (by simp)
  have h2:=c2 (fH m t) (by simp)
  rcases List.mem_cons.mp ha with z | z
  ·have:=a2 a (by simp[z]);omega
  ·rcases List.mem_append.mp z with z | z
   ·have:=a2 a (by simp[z]);omega
   ·have:=b2 a z;omega
theorem Kp{n m:Int}{r t:List Int}:fm n (r++m::t)=fm (fm n r) [fm m t]:=by
 obtain⟨a1,a2⟩:=nr r n
 obtain⟨b1,b2⟩:=nr t m
 obtain⟨c1,c2⟩:=nr [fm m t] (fm n r)
 refine(pR ?_ λa ha=>?_).symm
 ·simp only[List.mem_cons,List.not_mem_nil,or_false] at c1
  rcases c1 with e | e
  ·rw[e];rcases List.mem_cons.mp a1 with z | z
   ·rw[z];simp
   ·simp[z]
  ·rw[e];rcases List.mem_cons.mp b1 with z | z
   ·rw[z];simp
   ·simp[z]
 ·have h1:=c2 (fm n r) (by simp)
  have h2:=c2 (fm m t) (by simp)
  rcases List.mem_cons.mp ha with z | z
  ·have:=a2 a (by simp[z]);omega
  ·rcases List.mem_append.mp z with z | z
   ·have:=a2 a (by simp[z]);omega
   ·have:=b2 a z;omega
def opt(f:Int->List Int->Int):List Int->Wv
 | []=> .aE
 | n::r=> .int (f n r)
theorem C3(ws:List Wo):fS ws=[.int (nums ws).sum,.int (nums ws).length,opt fH (nums ws),opt fm (nums ws),first ws]:=by
 unfold fS opt
 cases nums ws<;>rfl
theorem zp(a b:List Wo):first (a++b)=(match first a with | .aE=>first b | f=>f):=by
 unfold first
 rw[gj]
 cases bQ a<;>rfl
def C4:Option Int->Wv
 | none=> .aE
 | some i=> .int i
def gY:List (Option Int)->List Int
 | []=>[]
 | none::r=>gY r
 | some i::r=>i::gY r
theorem FI(f:Int->List Int->Int)(ns:List Int):∃o:Option Int,opt f ns=C4 o/\(o=none↔ns=[]):=by
 cases ns with
 | nil=>exact⟨none,rfl,by simp⟩
 | cons n r=>exact⟨some (f n r),rfl,by simp⟩
theorem Kq{l:Nat}{st:Hs}{ns:List Int}(h:ag st l=some (ns.map Wv.int)):pV [.ref l] st= .ok (N6 ns) st:=by
 unfold pV
 simp only[h,bT]
theorem Kr{l:Nat}{st:Hs}{ns:List Int}(h:ag st l=some (ns.map Wv.int)):pU [.ref l] st= .ok (Qb ns) st:=by
 unfold pU
 simp only[h,bT]
theorem qg{gt:GT}{ge:GE}(hgt:gt=bg (aj eL (ae 0) (gC .aE)))(hge:ge=ae 0){ρ:aT}{a b:Option Int}{st:Hs}:bX [] gt ge ρ (none,[C4 a,C4 b]) st= .ok (.ref st.length) (st++[.lst ((gY [a,b]).map Wv.int)]):=by
 subst hgt
 subst hge
 have n0:∀st:Hs,eL .aE .aE st= .ok (.bl false) st:=λ_=>rfl
 have n1:∀(i:Int)(st:Hs),eL (.int i) .aE st= .ok (.bl true) st:=λ_ _=>rfl
 rw[dt (w:=(none,[C4 a,C4 b])) (t:=λv=>match v with | .int _=>true | _=>false) (f:=id) trivial]
 ·rw[List.map_id]
  cases a<;>cases b<;>rfl
 ·intro v hv acc
  simp at hv
  rcases hv with rfl | rfl
  ·cases a<;>simp[C4,n0,n1]
  ·cases b<;>simp[C4,n0,n1]
 ·intro v hv _ acc
  rfl
 ·show 2 < lim;decide
theorem put{a b:List Wo}{st:Hs}:∃st',bh [.tup (fS a),.tup (fS b)] st= .ok (.tup (fS (a++b))) st'/\Gr st st':=by
 obtain⟨oa,ea,za⟩:=FI fH (nums a)
 obtain⟨ob,eb,zb⟩:=FI fH (nums b)
 obtain⟨pa,fa,ya⟩:=FI fm (nums a)
 obtain⟨pb,fb,yb⟩:=FI fm (nums b)
 have k1:=qg (gt:=e7) (ge:=e8) rfl rfl (ρ:=[some (.tup (fS a)),some (.tup (fS b)),none,none,none]) (a:=oa) (b:=ob) (st:=st)
 have l1:=aw (st:=st) (ws:=(gY [oa,ob]).map Wv.int)
 have g1:Gr st (st++[.lst ((gY [oa,ob]).map Wv.int)]):=Gr.push
 generalize st++[.lst ((gY [oa,ob]).map Wv.int)]=s1 at k1 l1 g1
 have m1:=Kq l1
 have k2:=qg (gt:=eX) (ge:=eZ) rfl rfl (ρ:=[some (.tup (fS a)),some (.tup (fS b)),some (N6 (gY [oa,ob])),none,none]) (a:=pa) (b:=pb) (st:=s1)
 have l2:=aw (st:=s1) (ws:=(gY [pa,pb]).map Wv.int)
 have g2:Gr s1 (s1++[.lst ((gY [pa,pb]).map Wv.int)]):=Gr.push
 generalize s1++[.lst ((gY [pa,pb]).map Wv.int)]=s2 at k2 l2 g2
 have m2:=Kr l2
 refine⟨s2,?_,g1.trans g2⟩
 have e1:N6 (gY [oa,ob])=opt fH (nums (a++b)):=by
  rw[dg]
  cases na:nums a with
  | nil=>
   have Q2:oa=none:=za.mpr na
   subst Q2
   rw[List.nil_append]
   cases nb:nums b with
   | nil=>have Kt:ob=none:=zb.mpr nb;subst Kt;rfl
   | cons m t=>
    rw[nb] at eb
    cases ob with
    | none=>exact absurd (zb.mp rfl) (by rw[nb];simp)
    | some i=>exact eb.symm
  | cons n r=>
   rw[na] at ea
   cases oa with
   | none=>exact absurd (za.mp rfl) (by rw[na];simp)
   | some i=>
    have hi:fH n r=i:=by simpa [opt,C4] using ea
    cases nb:nums b with
    | nil=>have Kt:ob=none:=zb.mpr nb;subst Kt;rw[List.append_nil];exact ea.symm
    | cons m t=>
     rw[nb] at eb
     cases ob with
     | none=>exact absurd (zb.mp rfl) (by rw[nb];simp)
     | some j=>
      have hj:fH m t=j:=by simpa [opt,C4] using eb
      show Wv.int (fH i [j])= .int (fH n (r++m::t))
      rw[Ko,hi,hj]
 have e2:Qb (gY [pa,pb])=opt fm (nums (a++b)):=by
  rw[dg]
  cases na:nums a with
  | nil=>
   have Q2:pa=none:=ya.mpr na
   subst Q2
   rw[List.nil_append]
   cases nb:nums b with
   | nil=>have Kt:pb=none:=yb.mpr nb;subst Kt;rfl
   | cons m t=>
    rw[nb] at fb
    cases pb with
    | none=>exact absurd (yb.mp rfl) (by rw[nb];simp)
    | some i=>exact fb.symm
  | cons n r=>
   rw[na] at fa
   cases pa with
   | none=>exact absurd (ya.mp rfl) (by rw[na];simp)
   | some i=>
    have hi:fm n r=i:=by simpa [opt,C4] using fa
    cases nb:nums b with
    | nil=>have Kt:pb=none:=yb.mpr nb;subst Kt;rw[List.append_nil];exact fa.symm
    | cons m t=>
     rw[nb] at fb
     cases pb with
     | none=>exact absurd (yb.mp rfl) (by rw[nb];simp)
     | some j=>
      have hj:fm m t=j:=by simpa [opt,C4] using fb
      show Wv.int (fm i [j])= .int (fm n (r++m::t))
      rw[Kp,hi,hj]
 have fc:first a= .aE\/∃x,first a= .tup x:=by
  unfold first
  cases bQ a with
  | nil=>exact .inl rfl
  | cons x r=>exact .inr ⟨_,rfl⟩
 have sm:(nums (a++b)).sum=(nums a).sum+(nums b).sum:=by rw[dg];simp
 have ll:((nums (a++b)).length:Int)=(nums a).length+(nums b).length:=by rw[dg];simp
 obtain⟨i0,i1,i2,i3,i4⟩:=FH (a:=.int (nums a).sum) (b:=.int (nums a).length) (c:=opt fH (nums a)) (d:=opt fm (nums a)) (e:=first a) (st:=st)
 obtain⟨j0,j1,j2,j3,j4⟩:=FH (a:=.int (nums b).sum) (b:=.int (nums b).length) (c:=opt fH (nums b)) (d:=opt fm (nums b)) (e:=first b) (st:=st)
 obtain⟨Vo,Vp,Vq,OF,Vr⟩:=FH (a:=.int (nums a).sum) (b:=.int (nums a).length) (c:=opt fH (nums a)) (d:=opt fm (nums a)) (e:=first a) (st:=s1)
 obtain⟨Vs,Vt,Vu,OG,Vv⟩:=FH (a:=.int (nums b).sum) (b:=.int (nums b).length) (c:=opt fH (nums b)) (d:=opt fm (nums b)) (e:=first b) (st:=s1)
 obtain⟨u0,u1,u2,u3,u4⟩:=FH (a:=.int (nums a).sum) (b:=.int (nums a).length) (c:=opt fH (nums a)) (d:=opt fm (nums a)) (e:=first a) (st:=s2)
 obtain⟨v0,v1,v2,v3,v4⟩:=FH (a:=.int (nums b).sum) (b:=.int (nums b).length) (c:=opt fH (nums b)) (d:=opt fm (nums b)) (e:=first b) (st:=s2)
 rw[<-C3] at i0 i1 i2 i3 i4 j0 j1 j2 j3 j4 Vo Vp Vq OF Vr Vs Vt Vu OG Vv u0 u1 u2 u3 u4 v0 v1 v2 v3 v4
 rw[ea] at i2
 rw[eb] at j2
 rw[fa] at OF
 rw[fb] at OG
 rw[e1] at m1 k2
 rw[e2] at m2
 rw[C3 (a++b),sm,ll,zp]
 unfold bh cq e_
 rcases fc with f0 | ⟨x,f0⟩
 ·have n0:AB .aE .aE s2= .ok (.bl true) s2:=rfl
  rw[f0] at u4
  simp[i2,j2,k1,m1,OF,OG,k2,m2,u4,n0,v4,u0,v0,u1,v1,f0]
 ·have n0:AB (.tup x) .aE s2= .ok (.bl false) s2:=rfl
  rw[f0] at u4
  simp[i2,j2,k1,m1,OF,OG,k2,m2,u4,n0,u0,v0,u1,v1,f0]
theorem rA(ws:List Wo):∃d:PyData,(∀st:Hs,aL st 20 (.tup (fS ws))=some d)/\PyData.eqv d d=true:=by
 unfold fS first
 cases nums ws with
 | nil=>cases bQ ws with
  | nil=>exact⟨.tuple [.int 0,.int 0,.none,.none,.none],λ_=>rfl,by decide+kernel⟩
  | cons x r=>exact⟨.tuple [.int 0,.int 0,.none,.none,.tuple [.str "fault",.str x]],λ_=>rfl,by simp[PyData.eqv,PyData.eqvAll]⟩
 | cons n r=>cases bQ ws with
  | nil=>exact⟨.tuple [.int (n::r).sum,.int (n::r).length,.int (fH n r),.int (fm n r),.none],λ_=>rfl,by simp[PyData.eqv,PyData.eqvAll]⟩
  | cons x r'=>exact⟨.tuple [.int (n::r).sum,.int (n::r).length,.int (fH n r),.int (fm n r),.tuple [.str "fault",.str x]],λ_=>rfl,by simp[PyData.eqv,PyData.eqvAll]⟩
theorem Ku{ws:List Wo}{st:Hs}:sj (.tup (fS ws)) (.tup (fS ws)) st= .ok (.bl false) st:=by
 obtain⟨d,h1,h2⟩:=rA ws
 exact qY (h1 st) (h1 st) h2
theorem C5{n d:Nat}{i:Int}(h0:0<=i)(h1:i<=n):HT.bW n d (some i)=i.toNat:=by
 have e:i=((i.toNat:Nat):Int):=by omega
 rw[e,HT.DE]
 have:i.toNat<=n:=by omega
 simp
 omega
theorem FJ{α:Type}{f:α->Wv}{xs:List α}{i j:Int}(h0:0<=i)(h1:i<=xs.length)(k0:0<=j)(k1:j<=xs.length):mR (xs.map f) (some i) (some j)=((xs.drop i.toNat).take (j.toNat - i.toNat)).map f:=by
 unfold mR
 rw[List.length_map,C5 h0 h1,C5 k0 k1,<-List.map_drop,<-List.map_take]
theorem Kv{l:Nat}{st:Hs}{ns:List Int}(h:ag st l=some (ns.map Wv.int))(hn:ns.length < 4096):vg [.ref l] st= .ok (.ref st.length) (st++[.lst ((fo ns).map Wv.int)]):=Nr h hn
theorem Nu{ws:List Wo}{l:Nat}{st:Hs}(h:ag st l=some (ws.map Wo.w))(hl:ws.length < 100):∃st',df [.ref l] st= .ok (.tup (fS ws)) st'/\Gr st st':=by
 have hlt:=f9 h
 obtain⟨ρ',st',e,⟨⟨o3,rfl⟩,hg,hn⟩,hl'⟩:=tY Wo.w (i:=3) (gb:=bp) (l:=l) (all:=ws.map Wo.w) ws
  (λpre ρ s=>(∃o3,ρ=[some (.ref l),some (.ref st.length),some (first pre),o3])/\Gr st s/\s[st.length]? =some (.lst ((nums pre).map Wv.int))) (by
   rintro a pre post _ s hf ⟨⟨o3,rfl⟩,hg,hn⟩ hs
   have t1:=Tq a s
   have t2:=Q0 a s
   have hpl:pre.length < 100:=by have:=congrArg List.length hf;simp at this;omega
   cases a with
   | rO x=>
    have fp:first (pre++[Wo.rO x])=(match bQ pre with | []=>(Wo.rO x).w | y::_=> .tup [.str "fault",.str y]):=by
     unfold first
     rw[gj]
     cases bQ pre<;>rfl
    have np:nums (pre++[Wo.rO x])=nums pre:=by rw[dg];simp[nums]
    refine⟨[some (.ref l),some (.ref st.length),some (first (pre++[Wo.rO x])),some (Wo.rO x).w],s,?_,hs,⟨_,rfl⟩,hg,by rw[np];exact hn⟩
    rw[fp]
    unfold bp first
    cases ef:bQ pre with
    | nil=>
     have i:AB .aE .aE s= .ok (.bl true) s:=rfl
     simp[t1,i,Wo.f]
    | cons y r=>
     have i:AB (.tup [.str "fault",.str y]) .aE s= .ok (.bl false) s:=rfl
     simp[t1,i,Wo.f]
   | int j=>
    have hlen:((nums pre).map Wv.int).length < lim:=by
     have:=n_ pre
     rw[List.length_map];unfold lim;omega
    have fp:first (pre++[Wo.int j])=first pre:=by unfold first;rw[gj];simp[bQ]
    have ap:=CM (v:=.int j) hn hlen
    have mm:=ma (mt:=lG) (ga:=ae 3) (ρ:=[some (.ref l),some (.ref st.length),some (first pre),some (.int j)]) (bY hn)
    refine⟨[some (.ref l),some (.ref st.length),some (first (pre++[Wo.int j])),some (.int j)],s.set st.length (.lst ((nums pre).map Wv.int++[.int j])),?_,?_,⟨_,rfl⟩,?_,?_⟩
    ·rw[fp]
     unfold bp
     simp[Wo.w] at t1 t2
     simp[t1,t2,Wo.f,Wo.n,Wo.w,mm,ap]
    ·exact(bA.set (l:=st.length) (st:=s)).lst hs (by omega)
    ·exact Gr.kG (Nat.le_refl _) hg bA.set
    ·rw[dg]
     rw[dY hn]
     simp[nums]
   | aE=>
    have fp:first (pre++[Wo.aE])=first pre:=by unfold first;rw[gj];simp[bQ]
    refine⟨[some (.ref l),some (.ref st.length),some (first (pre++[Wo.aE])),some Wo.aE.w],s,?_,hs,⟨_,rfl⟩,hg,?_⟩
    ·rw[fp]
     unfold bp
     simp[t1,t2,Wo.f,Wo.n]
    ·rw[dg];simpa [nums] using hn
   | txt x=>
    have fp:first (pre++[Wo.txt x])=first pre:=by unfold first;rw[gj];simp[bQ]
    refine⟨[some (.ref l),some (.ref st.length),some (first (pre++[Wo.txt x])),some (Wo.txt x).w],s,?_,hs,⟨_,rfl⟩,hg,?_⟩
    ·rw[fp]
     unfold bp
     simp[t1,t2,Wo.f,Wo.n]
    ·rw[dg];simpa [nums] using hn) ws [] [some (.ref l),some (.ref st.length),some .aE,none] (st++[.lst []]) rfl
  ⟨⟨none,rfl⟩,Gr.push,dZ⟩ (Gr.push.lst h)
 have ln:=nR (bY hn)
 rw[List.length_map] at ln
 unfold df cq gU fS
 cases en:nums ws with
 | nil=>
  rw[en] at ln
  refine⟨st',?_,hg⟩
  simp[qW (Gr.push.lst h),e,ln]
 | cons n r=>
  rw[en] at hn
  rw[en] at ln
  have l2:=bY hn
  have hr:(n::r).length < 4096:=by have:=n_ ws;rw[en] at this;omega
  have so:=Kv l2 hr
  have hp:=eI (n::r)
  have l3:=aw (st:=st') (ws:=(fo (n::r)).map Wv.int)
  have sm:=qf l3
  have ln2:=nR l3
  rw[List.length_map,hp.length_eq] at ln2
  rw[CT hp] at sm
  have i0:∃a t,fo (n::r)=a::t:=by
   cases es:fo (n::r) with
   | nil=>rw[es] at hp;have:=hp.length_eq;simp at this
   | cons a t=>exact⟨a,t,rfl⟩
  obtain⟨a,t,ea⟩:=i0
  have ha:=CU ea
  have x0:bN (.ref st'.length) (.int 0) (st'++[.lst ((fo (n::r)).map Wv.int)])= .ok (.int (fH n r)) (st'++[.lst ((fo (n::r)).map Wv.int)]):=hG l3 (by rw[ea,List.map_cons,ha];exact xu)
  obtain⟨t2,b,eb⟩:∃t b,fo (n::r)=t++[b]:=⟨_,_,(List.dropLast_concat_getLast (l:=fo (n::r)) (by rw[ea];simp)).symm⟩
  have hb:=CV eb
  have x1:bN (.ref st'.length) (.int (-1)) (st'++[.lst ((fo (n::r)).map Wv.int)])= .ok (.int (fm n r)) (st'++[.lst ((fo (n::r)).map Wv.int)]):=hG l3 (by rw[eb,List.map_append,hb];exact CW)
  have nz:((r.length:Int)+1 == 0)=false:=beq_false_of_ne (by omega)
  refine⟨_,?_,hg.trans (Gr.push (o:=.lst ((fo (n::r)).map Wv.int)))⟩
  simp only[List.length_cons] at ln ln2
  simp[qW (Gr.push.lst h),e,ln,nz,so,sm,ln2,x0,x1]
abbrev Nd:=Int×Int
def pw(p:Nd):Wv:=.tup [.int p.1,.int p.2]
def kk(p:Nd):List L2.Key:=[.inl p.1,.inl p.2]
def md(a b:Int):Int:=(a+b) / 2
theorem Vw(x:Int):x.fdiv 2=x / 2:=Int.fdiv_eq_ediv_of_nonneg x (by decide)
theorem vR{p q:Nd}(h:kk p=kk q):p=q:=by
 unfold kk at h
 injection h with h1 h2
 injection h2 with h2
 injection h1 with h1
 injection h2 with h2
 exact Prod.ext h1 h2
def kids(p:Nd):List Nd:=if 1 < p.2 - p.1 then[(p.1,md p.1 p.2),(md p.1 p.2,p.2)] else[]
def nd:Nat->List Nd->List Nd
 | 0,_=>[]
 | n+1,l=>l++nd n (l.flatMap kids)
def it:Nat->List Nd->List Nd
 | 0,l=>l
 | n+1,l=>it n (l.flatMap kids)
abbrev nodes(m:Int):List Nd:=nd 8 [(0,m)]
def uq{α:Type}(f:α->Nat):List α->Nat->Bool
 | [],_=>true
 | x::r,acc=> !(acc.testBit (f x))&&uq f r (acc||| 2 ^ f x)
theorem GP{α:Type}{f:α->Nat}:∀{l:List α}{acc:Nat},uq f l acc=true->(l.map f).Nodup/\∀x∈l,acc.testBit (f x)=false
 | [],_,_=>⟨List.nodup_nil,λx hx=>by cases hx⟩
 | x::r,acc,h=>by
  unfold uq at h
  rw[Bool.and_eq_true] at h
  obtain⟨h1,h2⟩:=GP h.2
  have no:∀y∈r,acc.testBit (f y)=false/\f x≠f y:=λy hy=>by
   have q:=h2 y hy
   rw[Nat.testBit_or,Nat.testBit_two_pow,Bool.or_eq_false_iff] at q
   exact⟨q.1,of_decide_eq_false q.2⟩
  refine⟨?_,λy hy=>?_⟩
  ·rw[List.map_cons,List.nodup_cons]
   refine⟨λz=>?_,h1⟩
   obtain⟨y,hy,e⟩:=List.mem_map.mp z
   exact(no y hy).2 e.symm
  ·rcases List.mem_cons.mp hy with rfl | hy
   ·simpa using h.1
   ·exact(no y hy).1
def hs(p:Nd):Int:=w9 [p.1,p.2]
def hm(p:Nd):Nat:=(hs p % 30009).toNat
def Lg(m:Int):Bool:=uq hm (nodes m) 0&&(it 8 [(0,m)]).isEmpty&&decide ((nodes m).length<=200)&&(nodes m).all λp=>decide (0<=p.1)&&decide (p.1 < p.2)&&decide (p.2<=m)
theorem FK:((List.range 99).all λk=>Lg ((k:Int)+1))=true:=by decide+kernel
theorem rC{m:Int}(h1:1<=m)(h2:m<=99):Lg m=true:=by
 obtain⟨k,hk⟩:=Int.eq_ofNat_of_zero_le (show 0<=m - 1 by omega)
 have e:m=(k:Int)+1:=by omega
 rw[e]
 exact List.all_eq_true.mp FK k (List.mem_range.mpr (by omega))
theorem oo{m:Int}(h1:1<=m)(h2:m<=99):((nodes m).map hs).Nodup:=by
 have c:=rC h1 h2
 unfold Lg at c
 simp only[Bool.and_eq_true] at c
 have n:=(GP c.1.1.1).1
 have e:(nodes m).map hm=((nodes m).map hs).map λh=>(h % 30009).toNat:=by rw[List.map_map];rfl
 rw[e] at n
 exact List.Pairwise.of_map _ (λa b ne e=>ne (by rw[e])) n
theorem lD{m:Int}(h1:1<=m)(h2:m<=99):(nodes m).Nodup:=List.Pairwise.of_map _ (λa b ne e=>ne (by rw[e])) (oo h1 h2)
theorem kO{m:Int}(h1:1<=m)(h2:m<=99):it 8 [(0,m)]=[]:=by
 have c:=rC h1 h2
 unfold Lg at c
 simp only[Bool.and_eq_true] at c
 exact List.isEmpty_iff.mp c.1.1.2
theorem kP{m:Int}(h1:1<=m)(h2:m<=99):(nodes m).length<=200:=by
 have c:=rC h1 h2
 unfold Lg at c
 simp only[Bool.and_eq_true] at c
 exact of_decide_eq_true c.1.2
theorem ui{m:Int}(h1:1<=m)(h2:m<=99){p:Nd}(h:p∈nodes m):0<=p.1/\p.1 < p.2/\p.2<=m:=by
 have c:=rC h1 h2
 unfold Lg at c
 simp only[Bool.and_eq_true] at c
 have q:=List.all_eq_true.mp c.2 p h
 simp only[Bool.and_eq_true,decide_eq_true_eq] at q
 exact⟨q.1.1,q.1.2,q.2⟩
theorem xA:∀(n:Nat){l:List Nd}{p q:Nd},it n l=[]->p∈nd n l->q∈kids p->q∈nd n l
 | 0,l,p,q,h,hp,hq=>by cases hp
 | n+1,l,p,q,h,hp,hq=>by
  unfold nd at hp ⊢
  rcases List.mem_append.mp hp with z | z
  ·have hq':q∈l.flatMap kids:=List.mem_flatMap.mpr ⟨p,z,hq⟩
   refine List.mem_append_right _ ?_
   cases n with
   | zero=>have h0:l.flatMap kids=[]:=h;rw[h0] at hq';cases hq'
   | succ n=>unfold nd;exact List.mem_append_left _ hq'
  ·exact List.mem_append_right _ (xA n h z hq)
theorem xB{m:Int}(h1:1<=m)(h2:m<=99){p q:Nd}(hp:p∈nodes m)(hq:q∈kids p):q∈nodes m:=xA 8 (kO h1 h2) hp hq
theorem oq{m:Int}:(0,m)∈nodes m:=List.mem_append_left _ (List.mem_singleton.mpr rfl)
def Cl:List Nd->List Nd->Prop
 | _,[]=>True
 | d,p::r=>(∀q∈kids p,q∈d)/\p∉d/\Cl (d++[p]) r
theorem Cl.app:∀{d xs ys:List Nd},Cl d xs->Cl (d++xs) ys->Cl d (xs++ys)
 | d,[],ys,_,h=>by rw[List.append_nil] at h;exact h
 | d,p::r,ys,h,k=>⟨h.1,h.2.1,Cl.app h.2.2 (by rw[List.append_assoc];exact k)⟩
theorem xC:∀{d ps:List Nd},(∀p∈ps,∀q∈kids p,q∈d)->ps.Nodup->(∀p∈ps,p∉d)->Cl d ps
 | d,[],_,_,_=>trivial
 | d,p::r,h,n,k=>by
  rw[List.nodup_cons] at n
  refine⟨h p List.mem_cons_self,k p List.mem_cons_self,xC (λx hx q hq=>List.mem_append_left _ (h x (List.mem_cons_of_mem _ hx) q hq)) n.2 λx hx z=>?_⟩
  rcases List.mem_append.mp z with z | z
  ·exact k x (List.mem_cons_of_mem _ hx) z
  ·rw[List.mem_singleton.mp z] at hx;exact n.1 hx
theorem GQ:∀(n:Nat){l:List Nd},it n l=[]->(nd n l).Nodup->Cl [] (nd n l).reverse
 | 0,l,_,_=>trivial
 | n+1,l,h,hn=>by
  unfold nd at hn ⊢
  rw[List.nodup_append] at hn
  rw[List.reverse_append]
  refine(GQ n h hn.2.1).app (xC (λp hp q hq=>?_) ((List.reverse_perm l).nodup_iff.mpr hn.1) λp hp z=>?_)
  ·rw[List.nil_append,List.mem_reverse]
   have hq':q∈l.flatMap kids:=List.mem_flatMap.mpr ⟨p,List.mem_reverse.mp hp,hq⟩
   cases n with
   | zero=>have h0:l.flatMap kids=[]:=h;rw[h0] at hq';cases hq'
   | succ n=>unfold nd;exact List.mem_append_left _ hq'
  ·rw[List.nil_append,List.mem_reverse] at z
   exact hn.2.2 p (List.mem_reverse.mp hp) p z rfl
theorem GR{p:Nd}{st:Hs}:bN (pw p) (.int 0) st= .ok (.int p.1) st:=vI rfl
theorem GU{p:Nd}{st:Hs}:bN (pw p) (.int 1) st= .ok (.int p.2) st:=vI rfl
theorem Vx{x:Int}{st:Hs}:fW (.int x) (.int 2) st= .ok (.int (x / 2)) st:=by rw[nQ ⟨by decide,by decide⟩,Vw]
theorem kQ{p:Nd}{st:Hs}:bw [pw p] st= .ok (.ref st.length) (st++[.lst [pw (p.1,md p.1 p.2),pw (md p.1 p.2,p.2)]]):=by
 have k2:iu [pw (p.1,md p.1 p.2),pw (md p.1 p.2,p.2)] st= .ok (.ref st.length) (st++[.lst [pw (p.1,md p.1 p.2),pw (md p.1 p.2,p.2)]]):=cS (by show 2<=lim;unfold lim;omega)
 have Sa:iu [.tup [.int p.1,.int ((p.1+p.2) / 2)],.tup [.int ((p.1+p.2) / 2),.int p.2]] st= .ok (.ref st.length) (st++[.lst [pw (p.1,md p.1 p.2),pw (md p.1 p.2,p.2)]]):=k2
 unfold bw cq iA
 simp[GR,GU,Vx,Sa]
def sg(p:Nd):Bool:=p.2 - p.1 == 1
theorem single{p:Nd}{st:Hs}:bD [pw p] st= .ok (.bl (sg p)) st:=by
 unfold bD cq iy sg
 simp[GR,GU]
theorem GV{st:Hs}{l k:Nat}{ws zs:List Wv}(h:st[l]? =some (.lst ws))(h2:st[k]? =some (.lst zs))(hl:ws.length+zs.length<=lim):nE (.ref l) (.ref k) st= .ok .aE (st.set l (.lst (ws++zs))):=by
 show(match st[l]?,st[k]? with | some (.lst ws),some (.lst zs)=>if ws.length+zs.length<=lim then Re.ok Wv.aE (st.set l (.lst (ws++zs))) else .bad | _,_=> .bad)=_
 rw[h,h2]
 dsimp only
 rw[if_pos hl]
theorem C6{p:Nd}(h:sg p=true):kids p=[]:=by
 unfold sg at h
 have:=eq_of_beq h
 unfold kids
 rw[if_neg (by omega)]
theorem uj{p:Nd}(hp:p.1 < p.2)(h:sg p=false):kids p=[(p.1,md p.1 p.2),(md p.1 p.2,p.2)]:=by
 unfold sg at h
 have:=ne_of_beq_false h
 unfold kids
 rw[if_pos (by omega)]
theorem FO{p q:Nd}(hp:p.1 < p.2)(h:q∈kids p):q.1 < q.2/\p.1<=q.1/\q.2<=p.2:=by
 unfold kids at h
 by_cases c:1 < p.2 - p.1
 ·rw[if_pos c] at h
  have a:p.1 < md p.1 p.2/\md p.1 p.2 < p.2:=by unfold md;omega
  rcases List.mem_cons.mp h with rfl | h
  ·exact⟨a.1,Int.le_refl _,by show md p.1 p.2<=p.2;omega⟩
  ·rw[List.mem_singleton.mp h]
   exact⟨a.2,by show p.1<=md p.1 p.2;omega,Int.le_refl _⟩
 ·rw[if_neg c] at h;cases h
theorem ou{L A:Nat}{all:List Wv}(hne:L≠A):∀(ps acc:List Nd)(o2:Option Wv)(st:Hs),(∀p∈ps,p.1 < p.2)->st[A]? =some (.lst (acc.map pw))->ag st L=some all->acc.length+2 * ps.length<=1000->
  ∃Kw st',forL 2 bb L all (ps.map pw) [some (.ref L),some (.ref A),o2] st= .nx [some (.ref L),some (.ref A),Kw] st'/\bA A st st'/\st'[A]? =some (.lst ((acc++ps.flatMap kids).map pw))
 | [],acc,o2,st,_,hA,_,_=>⟨o2,st,rfl,bA.refl,by simpa using hA⟩
 | p::r,acc,o2,st,hp,hA,hL,hl=>by
  have hl':acc.length+2 * (r.length+1)<=1000:=hl
  have hw:=hp p List.mem_cons_self
  have key:∃s1,bb ([some (.ref L),some (.ref A),o2].set 2 (some (pw p))) st= .nx [some (.ref L),some (.ref A),some (pw p)] s1/\bA A st s1/\s1[A]? =some (.lst ((acc++kids p).map pw)):=by
   cases c:sg p with
   | true=>
    refine⟨st,?_,bA.refl,by rw[C6 c,List.append_nil];exact hA⟩
    unfold bb
    simp[single,c]
   | false=>
    have hk:=uj hw c
    have hh:=kQ (p:=p) (st:=st)
    have ht:(st++[.lst [pw (p.1,md p.1 p.2),pw (md p.1 p.2,p.2)]])[st.length]? =some (.lst [pw (p.1,md p.1 p.2),pw (md p.1 p.2,p.2)]):=dZ
    have Kx:(st++[.lst [pw (p.1,md p.1 p.2),pw (md p.1 p.2,p.2)]])[A]? =some (.lst (acc.map pw)):=f_ hA
    have g1:Gr st (st++[.lst [pw (p.1,md p.1 p.2),pw (md p.1 p.2,p.2)]]):=Gr.push
    generalize st++[.lst [pw (p.1,md p.1 p.2),pw (md p.1 p.2,p.2)]]=s0 at hh ht Kx g1
    have ex:=GV Kx ht (by rw[List.length_map];show acc.length+2<=lim;unfold lim;omega)
    have km:=λga=>ma (mt:=nE) (ga:=ga) (ρ:=[some (.ref L),some (.ref A),some (pw p)]) (bY hA)
    refine⟨s0.set A (.lst (acc.map pw++[pw (p.1,md p.1 p.2),pw (md p.1 p.2,p.2)])),?_,g1.keep.trans bA.set,?_⟩
    ·unfold bb
     simp[single,c,km,hh,ex]
    ·rw[dY Kx,hk,List.map_append]
     rfl
  obtain⟨s1,e1,k1,h1⟩:=key
  have kl:(kids p).length<=2:=by unfold kids;split<;>simp
  obtain⟨Kw,s2,e2,k2,h2⟩:=ou hne r (acc++kids p) (some (pw p)) s1 (λq hq=>hp q (List.mem_cons_of_mem _ hq)) h1 (k1.lst hL hne) (by rw[List.length_append];omega)
  refine⟨Kw,s2,?_,k1.trans k2,by rw[h2,List.flatMap_cons,List.append_assoc]⟩
  rw[List.map_cons,forL,e1]
  simp only[if_pos (k1.lst hL hne)]
  exact e2
theorem below{L:Nat}{ps:List Nd}{st:Hs}(hp:∀p∈ps,p.1 < p.2)(hl:ps.length<=300)(h:ag st L=some (ps.map pw)):∃st',cz [.ref L] st= .ok (.ref st.length) st'/\Gr st st'/\st'[st.length]? =some (.lst ((ps.flatMap kids).map pw)):=by
 have lt:=f9 h
 have h1:ag (st++[.lst []]) L=some (ps.map pw):=kF h
 obtain⟨o2,s1,e1,k1,g1⟩:=ou (L:=L) (A:=st.length) (all:=ps.map pw) (by omega) ps [] none (st++[.lst []]) hp dZ h1 (by show 0+2 * ps.length<=1000;omega)
 have Eo:kFor 2 bb [some (.ref L),some (.ref st.length),none] (.ref L) (st++[.lst []])= .nx [some (.ref L),some (.ref st.length),o2] s1:=by rw[qW h1];exact e1
 refine⟨s1,?_,Gr.kG (Nat.le_refl _) Gr.push k1,by simpa using g1⟩
 unfold cz cq fN
 simp[Eo]
theorem Nv{gt:GT}{gb:GS}{n:Nat}{ρ ρ':aT}{st st1 st':Hs}(h:gt ρ st= .ok true st1)(k:gb ρ st1= .nx ρ' st'):BH gt gb (n+1) ρ st=BH gt gb n ρ' st':=by
 rw[BH,h]
 simp[k]
theorem Nw{gt:GT}{gb:GS}{n:Nat}{ρ:aT}{st st1:Hs}(h:gt ρ st= .ok false st1):BH gt gb (n+1) ρ st= .nx ρ st1:=by
 rw[BH,h]
 simp
theorem nP{a b:GS}{ρ ρ':aT}{st st':Hs}(h:a ρ st= .nx ρ' st'):ay a b ρ st=b ρ' st':=by rw[Nc,h];rfl
theorem C7:∀n:Nat,nd n []=[]
 | 0=>rfl
 | n+1=>by unfold nd;rw[List.nil_append];exact C7 n
theorem xD{w:Wv}{A:Nat}:∀(n N:Nat)(l acc:List Nd)(B:Nat)(st:Hs),n < N->it n l=[]->(∀p∈l,p.1 < p.2)->st[A]? =some (.lst (acc.map pw))->st[B]? =some (.lst (l.map pw))->A≠B->acc.length+(nd n l).length<=300->
  ∃B' st',BH (cJ (ae 2)) bz N [some w,some (.ref A),some (.ref B)] st= .nx [some w,some (.ref A),some (.ref B')] st'/\bA A st st'/\st'[A]? =some (.lst ((acc++nd n l).map pw))
 | n,0,_,_,_,_,h,_,_,_,_,_,_=>by omega
 | n,N+1,[],acc,B,st,_,_,_,hA,hB,_,_=>by
  have tl:=xy (bY hB)
  exact⟨B,st,Nw (by simp[tl]),bA.refl,by rw[C7,List.append_nil];exact hA⟩
 | 0,N+1,p::r,_,_,_,_,h,_,_,_,_,_=>by cases h
 | n+1,N+1,p::r,acc,B,st,hN,hi,hp,hA,hB,hne,hl=>by
  have tl:=xy (bY hB)
  have hnd:nd (n+1) (p::r)=(p::r)++nd n ((p::r).flatMap kids):=rfl
  rw[hnd,List.length_append] at hl
  have ex:=GV hA hB (by rw[List.length_map,List.length_map];unfold lim;omega)
  have Kx:=dY (o':=.lst (acc.map pw++(p::r).map pw)) hA
  have Tr:(st.set A (.lst (acc.map pw++(p::r).map pw)))[B]? =some (.lst ((p::r).map pw)):=by rw[List.getElem?_set_ne hne];exact hB
  have k1:bA A st (st.set A (.lst (acc.map pw++(p::r).map pw))):=bA.set
  generalize st.set A (.lst (acc.map pw++(p::r).map pw))=s1 at ex Kx Tr k1
  obtain⟨s2,e2,g2,h2⟩:=below (L:=B) hp (by omega) (bY Tr)
  have km:=λga=>ma (mt:=nE) (ga:=ga) (ρ:=[some w,some (.ref A),some (.ref B)]) (bY hA)
  have bd:bz [some w,some (.ref A),some (.ref B)] st= .nx [some w,some (.ref A),some (.ref s1.length)] s2:=by
   unfold bz
   simp[km,ex,e2]
  have lt:=qX Kx
  obtain⟨B',s3,e3,k3,h3⟩:=xD (w:=w) n N ((p::r).flatMap kids) (acc++(p::r)) s1.length s2 (by omega) hi (λq hq=>by
   obtain⟨x,hx,hq⟩:=List.mem_flatMap.mp hq
   exact(FO (hp x hx) hq).1) (by rw[List.map_append];exact g2.get Kx) h2 (by omega) (by rw[List.length_append];omega)
  refine⟨B',s3,?_,k1.trans (g2.keep.trans k3),?_⟩
  ·rw[Nv (by simp[tl]) bd]
   exact e3
  ·rw[h3,hnd,List.append_assoc]
theorem uk{m:Int}{st:Hs}(h1:1<=m)(h2:m<=99):∃st',bJ [pw (0,m)] st= .ok (.ref st.length) st'/\Gr st st'/\st'[st.length]? =some (.lst ((nodes m).map pw)):=by
 have q1:(st++[.lst []]++[.lst [pw (0,m)]])[st.length]? =some (.lst (([]:List Nd).map pw)):=f_ dZ
 have q2:(st++[.lst []]++[.lst [pw (0,m)]])[(st++[Ob.lst []]).length]? =some (.lst ([((0,m):Nd)].map pw)):=dZ
 obtain⟨B,s1,e1,k1,g1⟩:=xD (w:=pw (0,m)) 8 100000 [(0,m)] [] (st++[Ob.lst []]).length _ (by decide) (kO h1 h2) (λp hp=>by rw[List.mem_singleton.mp hp];show(0:Int) < m;omega) q1 q2 (by rw[List.length_append];simp) (by
  have q:(nd 8 [(0,m)]).length<=200:=kP h1 h2
  show 0+(nd 8 [(0,m)]).length<=300
  omega)
 have Eo:qQ qV (cJ (ae 2)) bz [some (pw (0,m)),some (.ref st.length),some (.ref (st++[Ob.lst []]).length)] (st++[.lst []]++[.lst [pw (0,m)]])= .nx [some (pw (0,m)),some (.ref st.length),some (.ref B)] s1:=e1
 refine⟨s1,?_,Gr.kG (Nat.le_refl _) (Gr.push.trans Gr.push) k1,by simpa using g1⟩
 have a1:aH 1 (cO ai) [some (pw (0,m)),none,none] st= .nx [some (pw (0,m)),some (.ref st.length),none] (st++[.lst []]):=by simp[lim]
 have a2:aH 2 (cO (aa (ae 0) ai)) [some (pw (0,m)),some (.ref st.length),none] (st++[.lst []])= .nx [some (pw (0,m)),some (.ref st.length),some (.ref (st++[Ob.lst []]).length)] (st++[.lst []]++[.lst [pw (0,m)]]):=by
  have k:iu [pw (0,m)] (st++[.lst []])= .ok (.ref (st++[Ob.lst []]).length) (st++[.lst []]++[.lst [pw (0,m)]]):=cS (by show 1<=lim;unfold lim;omega)
  generalize st++[Ob.lst []]=s0 at k
  simp[k]
 refine jW (n:=3) (g:=dF) ?_
 unfold dF
 refine(nP a1).trans ((nP a2).trans ((nP Eo).trans ?_))
 simp
abbrev Ks:=List (List L2.Key×Wv)
def sl(ws:List Wo)(p:Nd):List Wo:=(ws.take p.2.toNat).drop p.1.toNat
theorem C8{ws:List Wo}{a b c:Int}(h0:0<=a)(h1:a<=b)(h2:b<=c)(h3:c<=ws.length):sl ws (a,b)++sl ws (b,c)=sl ws (a,c):=by
 unfold sl
 dsimp only
 have e:ws.take c.toNat=ws.take b.toNat++(ws.take c.toNat).drop b.toNat:=by
  have q:=List.take_append_drop b.toNat (ws.take c.toNat)
  rw[List.take_take,Nat.min_eq_left (by omega)] at q
  exact q.symm
 have l:a.toNat<=(ws.take b.toNat).length:=by rw[List.length_take];omega
 conv=>rhs;rw[e,List.drop_append_of_le_length l]
theorem Ky{ws:List Wo}{p:Nd}{a:Wo}(h0:0<=p.1)(h1:sg p=true)(h2:ws[p.1.toNat]? =some a):sl ws p=[a]:=by
 unfold sg at h1
 have e:=eq_of_beq h1
 obtain⟨hl,ha⟩:=List.getElem?_eq_some_iff.mp h2
 unfold sl
 rw[show p.2.toNat=p.1.toNat+1 by omega,List.take_succ_eq_append_getElem hl,List.drop_append_of_le_length (by rw[List.length_take];omega),List.drop_of_length_le (by rw[List.length_take];omega),List.nil_append,ha]
theorem FP{ws:List Wo}{p:Nd}(h0:0<=p.1)(h1:p.1 < p.2)(h2:p.2<=ws.length):sl ws (p.1,md p.1 p.2)++sl ws (md p.1 p.2,p.2)=sl ws p:=C8 h0 (by unfold md;omega) (by unfold md;omega) h2
theorem FQ{κ:Type}[DecidableEq κ]{kvs:List (κ×Wv)}{k:κ}{v:Wv}(h:k∉kvs.map (·.1)):qL kvs k v=kvs++[(k,v)]:=by
 unfold qL
 rw[if_neg]
 intro q
 obtain⟨p,hp,e⟩:=List.any_eq_true.mp q
 exact h (List.mem_map.mpr ⟨p,hp,of_decide_eq_true e⟩)
def ent(ws:List Wo)(p:Nd):List L2.Key×Wv:=(kk p,.tup (fS (sl ws p)))
theorem mi{ws:List Wo}{q:Nd}:∀{ps:List Nd},q∈ps->dm (ps.map (ent ws)) (kk q)=some (.tup (fS (sl ws q)))
 | p::r,h=>by
  rw[List.map_cons]
  unfold dm
  by_cases e:p=q
  ·rw[if_pos (by rw[e];rfl),e];rfl
  ·rw[if_neg (show ¬(ent ws p).1=kk q from λz=>e (vR z))]
   rcases List.mem_cons.mp h with z | z
   ·exact absurd z.symm e
   ·exact mi z
theorem Kz{d:Nat}{kvs:Ks}{p:Nd}{v:Wv}{st:Hs}(h:st[d]? =some (.cB kvs))(hl:kvs.length < 1000):putD (.ref d) (pw p) v st=some (st.set d (.cB (qL kvs (kk p) v))):=by
 have hk:qO (pw p)=some (kk p):=rfl
 unfold putD
 dsimp only
 rw[h]
 dsimp only
 rw[hk]
 dsimp only
 rw[if_pos (by unfold lim;omega)]
theorem C9{d:Nat}{kvs:Ks}{p:Nd}{v:Wv}{st:Hs}(h:st[d]? =some (.cB kvs))(hv:dm kvs (kk p)=some v):N_ (.ref d) (pw p) st= .ok v st:=by
 have hk:qO (pw p)=some (kk p):=rfl
 unfold N_ getD
 dsimp only
 rw[h]
 dsimp only
 rw[hk]
 dsimp only
 rw[hv]
theorem joined{d:Nat}{kvs:Ks}{a b c:List Wo}{p:Nd}{st:Hs}(h:st[d]? =some (.cB kvs))(h1:dm kvs (kk (p.1,md p.1 p.2))=some (.tup (fS a)))(h2:dm kvs (kk (md p.1 p.2,p.2))=some (.tup (fS b)))(e:a++b=c):∃st',bo [.ref d,pw p] st= .ok (.tup (fS c)) st'/\Gr st st':=by
 have hh:=kQ (p:=p) (st:=st)
 have l1:ag (st++[.lst [pw (p.1,md p.1 p.2),pw (md p.1 p.2,p.2)]]) st.length=some [pw (p.1,md p.1 p.2),pw (md p.1 p.2,p.2)]:=aw
 have hd:(st++[.lst [pw (p.1,md p.1 p.2),pw (md p.1 p.2,p.2)]])[d]? =some (.cB kvs):=f_ h
 have g1:Gr st (st++[.lst [pw (p.1,md p.1 p.2),pw (md p.1 p.2,p.2)]]):=Gr.push
 generalize st++[.lst [pw (p.1,md p.1 p.2),pw (md p.1 p.2,p.2)]]=s0 at hh l1 hd g1
 have i0:bN (.ref st.length) (.int 0) s0= .ok (pw (p.1,md p.1 p.2)) s0:=hG l1 rfl
 have i1:bN (.ref st.length) (.int 1) s0= .ok (pw (md p.1 p.2,p.2)) s0:=hG l1 rfl
 have d0:=C9 hd h1
 have d1:=C9 hd h2
 obtain⟨s1,e1,g2⟩:=put (a:=a) (b:=b) (st:=s0)
 rw[e] at e1
 refine⟨s1,?_,g1.trans g2⟩
 unfold bo cq dO
 simp[hh,nG,i0,i1,d0,d1,e1]
theorem oz{ws:List Wo}{ps:List Nd}:(ps.map (ent ws)).map (·.1)=ps.map kk:=by rw[List.map_map];rfl
theorem KA{p:Nd}{ps:List Nd}(h:kk p∈ps.map kk):p∈ps:=by
 obtain⟨q,hq,e⟩:=List.mem_map.mp h
 rw[<-vR e]
 exact hq
theorem FR{W d:Nat}{ws:List Wo}{kvs:Ks}{p:Nd}{st:Hs}(hW:ag st W=some (ws.map Wo.w))(h:st[d]? =some (.cB kvs))(h0:0<=p.1)(h1:p.1 < p.2)(h2:p.2<=ws.length)(hk:∀q∈kids p,dm kvs (kk q)=some (.tup (fS (sl ws q)))) :
  ∃st',(je (cJ (ax 1 bD (aa (ae 2) ai))) (ax 1 bV (aa (cO (aa (aj bN (ae 0) (aj bN (ae 2) (gC (.int 0)))) ai)) ai)) (ax 2 bo (aa (ae 1) (aa (ae 2) ai)))) [some (.ref W),some (.ref d),some (pw p)] st= .ok (.tup (fS (sl ws p))) st'/\Gr st st':=by
 cases c:sg p with
 | true=>
  have lt:p.1.toNat < ws.length:=by omega
  have ga:ws[p.1.toNat]? =some ws[p.1.toNat]:=List.getElem?_eq_getElem lt
  have es:=Ky h0 c ga
  have ix:bN (.ref W) (.int p.1) st= .ok ws[p.1.toNat].w st:=by
   refine hG hW ?_
   have q:=L2.lS (xs:=ws.map Wo.w) (j:=p.1.toNat) (v:=ws[p.1.toNat].w) (by rw[List.getElem?_map,ga];rfl)
   rw[show((p.1.toNat:Nat):Int)=p.1 by omega] at q
   exact q
  have k1:iu [ws[p.1.toNat].w] st= .ok (.ref st.length) (st++[.lst [ws[p.1.toNat].w]]):=cS (by show 1<=lim;unfold lim;omega)
  have l1:ag (st++[.lst [ws[p.1.toNat].w]]) st.length=some ([ws[p.1.toNat]].map Wo.w):=aw
  have g1:Gr st (st++[.lst [ws[p.1.toNat].w]]):=Gr.push
  generalize st++[.lst [ws[p.1.toNat].w]]=s0 at k1 l1 g1
  obtain⟨s1,e1,g2⟩:=oj l1 (by show 1 < 100;decide)
  rw[<-es] at e1
  exact⟨s1,by simp[single,c,GR,ix,k1,e1],g1.trans g2⟩
 | false=>
  have e:=uj h1 c
  obtain⟨s1,e1,g1⟩:=joined (p:=p) h (hk _ (by rw[e];simp)) (hk _ (by rw[e];simp)) (FP h0 h1 h2)
  exact⟨s1,by simp[single,c,e1],g1⟩
theorem um{W L d:Nat}{ws:List Wo}{all:List Wv}(hL:L≠d)(hW:W≠d):∀(ps done:List Nd)(o2:Option Wv)(st:Hs),Cl done ps->(∀p∈ps,0<=p.1/\p.1 < p.2/\p.2<=ws.length)->st[d]? =some (.cB (done.map (ent ws)))->ag st W=some (ws.map Wo.w)->ag st L=some all->done.length+ps.length<=300->
  ∃Kw st',forL 2 bf L all (ps.map pw) [some (.ref W),some (.ref d),o2] st= .nx [some (.ref W),some (.ref d),Kw] st'/\bA d st st'/\st'[d]? =some (.cB ((done++ps).map (ent ws)))
 | [],done,o2,st,_,_,h,_,_,_=>⟨o2,st,rfl,bA.refl,by rw[List.append_nil];exact h⟩
 | p::r,done,o2,st,hc,hp,h,hw,hl,hn=>by
  have hn':done.length+(r.length+1)<=300:=hn
  obtain⟨p0,p1,p2⟩:=hp p List.mem_cons_self
  obtain⟨s1,e1,g1⟩:=FR hw h p0 p1 p2 λq hq=>mi (hc.1 q hq)
  have pd:=Kz (p:=p) (v:=.tup (fS (sl ws p))) (g1.get h) (by rw[List.length_map];omega)
  rw[FQ (by rw[oz];exact λz=>hc.2.1 (KA z))] at pd
  have e:done.map (ent ws)++[(kk p,.tup (fS (sl ws p)))]=(done++[p]).map (ent ws):=by rw[List.map_append];rfl
  rw[e] at pd
  have h1:=dY (o':=.cB ((done++[p]).map (ent ws))) (g1.get h)
  have k1:bA d st (s1.set d (.cB ((done++[p]).map (ent ws)))):=g1.keep.trans bA.set
  generalize s1.set d (.cB ((done++[p]).map (ent ws)))=s2 at pd h1 k1
  have bd:bf ([some (.ref W),some (.ref d),o2].set 2 (some (pw p))) st= .nx [some (.ref W),some (.ref d),some (pw p)] s2:=by
   show bf [some (.ref W),some (.ref d),some (pw p)] st=_
   unfold bf wU
   rw[e1]
   simp[pd]
  obtain⟨Kw,s3,e3,k3,h3⟩:=um hL hW r (done++[p]) (some (pw p)) s2 hc.2.2 (λq hq=>hp q (List.mem_cons_of_mem _ hq)) h1 (k1.lst hw hW) (k1.lst hl hL) (by rw[List.length_append];show done.length+1+r.length<=300;omega)
  refine⟨Kw,s3,?_,k1.trans k3,by rw[h3,List.append_assoc];rfl⟩
  rw[List.map_cons,forL,bd]
  simp only[if_pos (k1.lst hl hL)]
  exact e3
theorem KC{l:Nat}{ws:List Wv}{st:Hs}(h:ag st l=some ws):jS [.ref l] st= .ok (.int ws.length) st:=by
 have e:kA st[l]? =none:=by
  unfold ag at h
  cases q:st[l]? with
  | none=>rfl
  | some o=>
   rw[q] at h
   cases o<;>first | rfl | cases h
 show(match kA st[l]? with | some kvs=>Re.ok (Wv.int kvs.length) st | none=>iW [.ref l] st)=_
 rw[e]
 exact nR h
theorem gn{m:Int}{st:Hs}(h1:1<=m)(h2:m<=99):bu [.int m] st= .ok .aE st:=by
 unfold bu cq gM
 simp[h1,h2]
def HI(ws:List Wo)(kvs:Ks):Prop:=kvs.map (·.1)=(nodes ws.length).reverse.map kk/\∀q∈nodes ws.length,dm kvs (kk q)=some (.tup (fS (sl ws q)))
theorem uo{W:Nat}{ws:List Wo}{st:Hs}(hW:ag st W=some (ws.map Wo.w))(h1:1<=ws.length)(h2:ws.length<=99):∃kvs st',dI [.ref W] st= .ok (.ref st.length) st'/\Gr st st'/\st'[st.length]? =some (.cB kvs)/\HI ws kvs:=by
 have m1:(1:Int)<=(ws.length:Int):=by omega
 have m2:(ws.length:Int)<=99:=by omega
 have lt:=f9 hW
 have ln:=λ(s:Hs)(h:ag s W=some (ws.map Wo.w))=>by have q:=KC h;rw[List.length_map] at q;exact q
 have Q3:ag (st++[.cB []]) W=some (ws.map Wo.w):=kF hW
 have hd1:(st++[.cB []])[st.length]? =some (.cB []):=dZ
 have g1:Gr st (st++[.cB []]):=Gr.push
 have e1:aH 1 sW [some (.ref W),none,none] st= .nx [some (.ref W),some (.ref st.length),none] (st++[.cB []]):=by simp[sW]
 generalize st++[.cB []]=s1 at Q3 hd1 g1 e1
 obtain⟨s2,e2,g2,q2⟩:=uk (st:=s1) m1 m2
 have WK:=qX hd1
 obtain⟨o2,s3,e3,k3,q3⟩:=um (W:=W) (L:=s1.length) (d:=st.length) (ws:=ws) (all:=(nodes ws.length).map pw) (by omega) (by omega) (nodes ws.length).reverse [] none s2 (GQ 8 (kO m1 m2) (lD m1 m2)) (λp hp=>ui m1 m2 (List.mem_reverse.mp hp)) (g2.get hd1) (g2.lst Q3) (bY q2) (by rw[List.length_reverse];have:=kP m1 m2;show 0+(nodes ws.length).length<=300;omega)
 refine⟨(nodes ws.length).reverse.map (ent ws),s3,?_,?_,q3,oz,λq hq=>mi (List.mem_reverse.mpr hq)⟩
 ·have e0:ip (ax 1 bu (aa (ar jS (aa (ae 0) ai)) ai)) [some (.ref W),none,none] st= .nx [some (.ref W),none,none] st:=by simp[ln st hW,gn m1 m2]
  have e4:tH 2 (aa (ax 1 bJ (aa (di (aa (gC (.int 0)) (aa (ar jS (aa (ae 0) ai)) ai))) ai)) ai) bf [some (.ref W),some (.ref st.length),none] s1= .nx [some (.ref W),some (.ref st.length),o2] s3:=by
   have A_:bJ [.tup [.int 0,.int (ws.length:Nat)]] s1= .ok (.ref s1.length) s2:=e2
   unfold tH
   simp only[Kc,Nh,Kf,Ni,e_c,Fq,Nf]
   simp[ln s1 Q3,A_,bY q2,<-List.map_reverse,e3]
  refine jW (n:=3) (g:=dH) ?_
  unfold dH
  refine(nP e0).trans ((nP e1).trans ((nP e4).trans ?_))
  simp
 ·exact Gr.kG (Nat.le_refl _) (g1.trans g2) k3
theorem ur:∀ps:List Nd,fv (ps.map kk)=some (ps.map pw)
 | []=>rfl
 | p::r=>by
  rw[List.map_cons]
  unfold fv
  rw[ur r]
  rfl
theorem FT{d:Nat}{kvs:Ks}{ps:List Nd}{st:Hs}(h:st[d]? =some (.cB kvs))(hk:kvs.map (·.1)=ps.map kk):tF (.ref d) st= .ok (none,ps.map pw) (st.set d (.jv kvs)):=by
 unfold tF
 dsimp only
 rw[h]
 dsimp only
 rw[hk,ur]
theorem C_{d:Nat}{o o':Ob}{x:Hs}{st:Hs}(h:st[d]? =some o):(st.set d o'++x).set d o=st++x:=by
 have lt:=qX h
 rw[List.set_append_left _ _ (by simpa using lt),List.set_set]
 congr 1
 exact List.ext_getElem? λj=>by
  by_cases e:d=j
  ·subst e;rw[dY h,h]
  ·rw[List.getElem?_set_ne e]
def snd:Wv->Wv
 | .tup [_,b]=>b
 | _=> .aE
theorem xE{d:Nat}{ws:List Wo}{kvs:Ks}{st:Hs}(h:st[d]? =some (.cB kvs))(hi:HI ws kvs)(h1:1<=ws.length)(h2:ws.length<=99):∃st',f' [.ref d] st= .ok (.int (ws.length:Nat)) st'/\Gr st st':=by
 have m1:(1:Int)<=(ws.length:Int):=by omega
 have m2:(ws.length:Int)<=99:=by omega
 have kw:=FT h hi.1
 have gk:jj (ae 0) [some (.ref d)] st= .ok (none,(nodes ws.length).reverse.map pw) (st.set d (.jv kvs)):=by
  unfold jj
  simp[kw]
 have nl:=kP m1 m2
 have cp:=dt (cs:=[]) (gt:=dJ) (ge:=cA) (ρ:=[some (.ref d)]) (w:=(none,(nodes ws.length).reverse.map pw)) (st:=st.set d (.jv kvs)) (t:=λ_=>true) (f:=snd) trivial (λ_ _ _=>rfl) (λv hv _ acc=>by
  obtain⟨p,_,rfl⟩:=List.mem_map.mp hv
  unfold cA
  simp[jg,GU]
  rfl) (by rw[List.length_map,List.length_reverse];unfold lim;omega)
 have ev:(((none,(nodes ws.length).reverse.map pw):Wk).2.filter λ_=>true).map snd=((nodes ws.length).reverse.map (·.2)).map Wv.int:=by
  rw[List.filter_eq_self.mpr (λ_ _=>rfl),List.map_map,List.map_map]
  rfl
 rw[ev] at cp
 have th:gE 0 (fu [] (jj (ae 0)) dJ cA) [some (.ref d)] st= .ok (.ref st.length) (st++[.lst (((nodes ws.length).reverse.map (·.2)).map Wv.int)]):=by
  have o1:lq ([some (Wv.ref d)]:aT)[0]? st=some d:=by
   show(match st[d]? with | some (.cB _)=>some d | _=>none)=_
   rw[h]
  unfold gE
  rw[o1]
  dsimp only
  rw[CN,gk]
  show(match bX [] dJ cA [some (.ref d)] (none,(nodes ws.length).reverse.map pw) (st.set d (.jv kvs)) with | .ok w st'=>Re.ok w (lp d st') | r=>r)=_
  rw[cp]
  dsimp only
  have fz:(st.set d (.jv kvs)++[.lst (((nodes ws.length).reverse.map (·.2)).map Wv.int)])[d]? =some (.jv kvs):=f_ (dY h)
  unfold lp
  rw[fz]
  dsimp only
  rw[C_ h,List.length_set]
 have l1:ag (st++[.lst (((nodes ws.length).reverse.map (·.2)).map Wv.int)]) st.length=some (((nodes ws.length).reverse.map (·.2)).map Wv.int):=aw
 have g1:Gr st (st++[.lst (((nodes ws.length).reverse.map (·.2)).map Wv.int)]):=Gr.push
 generalize st++[.lst (((nodes ws.length).reverse.map (·.2)).map Wv.int)]=s1 at th l1 g1
 have mx:Qn 0 ((nodes ws.length).reverse.map (·.2))=(ws.length:Int):=by
  have hm:(ws.length:Int)∈(nodes ws.length).reverse.map (·.2):=List.mem_map.mpr ⟨(0,(ws.length:Int)),List.mem_reverse.mpr oq,rfl⟩
  have hle:∀a∈(nodes ws.length).reverse.map (·.2),a<=(ws.length:Int):=λa ha=>by
   obtain⟨p,hp,rfl⟩:=List.mem_map.mp ha
   exact(ui m1 m2 (List.mem_reverse.mp hp)).2.2
  cases e:(nodes ws.length).reverse.map (·.2) with
  | nil=>rw[e] at hm;cases hm
  | cons n r=>
   rw[e] at hm hle
   exact(pR hm hle).symm
 have om:qc 0 [.ref st.length] s1= .ok (.int (ws.length:Nat)) s1:=by
  show(match ag s1 st.length with | some ws=>(match intsOf ws with | some ns=>Re.ok (Wv.int (Qn 0 ns)) s1 | none=> .bad) | none=> .bad)=_
  rw[l1]
  dsimp only
  rw[bT]
  dsimp only
  rw[mx]
 refine⟨s1,?_,g1⟩
 unfold f' cq kI
 simp[-CN,th,om]
theorem Nx{a b:Int}{n:Nat}(h:b - a<=2 ^ (n+1)):md a b - a<=2 ^ n/\b - md a b<=2 ^ n:=by
 have e:(2:Int) ^ (n+1)=2 ^ n * 2:=Int.pow_succ ..
 unfold md
 omega
theorem uu:∀ps:List Nd,lu (ps.map kk)=some (ps.map λp=>[p.1,p.2])
 | []=>rfl
 | p::r=>by
  rw[List.map_cons]
  unfold lu
  rw[uu r]
  rfl
theorem FU{m:Int}(h1:1<=m)(h2:m<=99):ir ((nodes m).reverse.map kk)=true:=by
 unfold ir
 rw[uu]
 refine decide_eq_true ?_
 rw[List.map_map]
 exact((List.reverse_perm (nodes m)).map hs).nodup_iff.mpr (oo h1 h2)
theorem FV{d:Nat}{kvs:Ks}{st:Hs}(hd:st[d]? =some (.cB kvs))(ne:kvs≠[])(hk:ir (kvs.map (·.1))=true):qa [.ref d] st= .ok (.ref st.length) (st++[.cB kvs]):=by
 unfold qa
 dsimp only
 rw[hd]
 show(if kvs.isEmpty=false/\ir (kvs.map (·.1))=true then Re.ok (Wv.ref st.length) (st++[.cB kvs]) else .bad)=_
 rw[if_pos ⟨by cases kvs with | nil=>exact absurd rfl ne | cons _ _=>rfl,hk⟩]
theorem Ny{ws:List Wo}{kvs:Ks}(hi:HI ws kvs):kvs≠[]:=λz=>by
 have:=hi.1
 rw[z] at this
 have q:((0:Int),(ws.length:Int))∈nodes ws.length:=oq
 have:(nodes ws.length).reverse=[]:=by simpa using this.symm
 rw[List.reverse_eq_nil_iff.mp this] at q
 cases q
theorem uv{a b:Int}(h:1 < b - a):a < md a b/\md a b < b:=by unfold md;omega
def cd(lo hi:Int):Nat->Int->Int->Int->List (Nd×Int)
 | 0,_,_,_=>[]
 | n+1,d,a,b=>if hi<=a\/b<=lo then[] else if lo<=a/\b<=hi then[((a,b),d)] else cd lo hi n (d+1) a (md a b)++cd lo hi n (d+1) (md a b) b
def iZ(lo hi:Int)(n:Nat)(a b:Int):List Nd:=(cd lo hi n 0 a b).map (·.1)
section
variable {lo hi:Int}
theorem cM{n:Nat}{d a b:Int}(h:hi<=a\/b<=lo):cd lo hi n d a b=[]:=by
 cases n with
 | zero=>rfl
 | succ n=>unfold cd;rw[if_pos h]
theorem ja{n:Nat}{d a b:Int}(h:¬(hi<=a\/b<=lo))(k:lo<=a/\b<=hi):cd lo hi (n+1) d a b=[((a,b),d)]:=by unfold cd;rw[if_neg h,if_pos k]
theorem iH{n:Nat}{d a b:Int}(h:¬(hi<=a\/b<=lo))(k:¬(lo<=a/\b<=hi)):cd lo hi (n+1) d a b=cd lo hi n (d+1) a (md a b)++cd lo hi n (d+1) (md a b) b:=by rw[cd,if_neg h,if_neg k]
theorem rD:∀(n:Nat)(d e a b:Int),(cd lo hi n d a b).map (·.1)=(cd lo hi n e a b).map (·.1)
 | 0,_,_,_,_=>rfl
 | n+1,d,e,a,b=>by
  by_cases h:hi<=a\/b<=lo
  ·rw[cM h,cM h]
  ·by_cases k:lo<=a/\b<=hi
   ·rw[ja h k,ja h k];rfl
   ·rw[iH h k,iH h k,List.map_append,List.map_append,rD n (d+1) (e+1) a,rD n (d+1) (e+1) (md a b)]
theorem wide{a b:Int}(h:¬(hi<=a\/b<=lo))(k:¬(lo<=a/\b<=hi)):1 < b - a:=by omega
theorem mj{n:Nat}{a b:Int}(h:hi<=a\/b<=lo):iZ lo hi n a b=[]:=by unfold iZ;rw[cM h];rfl
theorem vS{n:Nat}{a b:Int}(h:¬(hi<=a\/b<=lo))(k:lo<=a/\b<=hi):iZ lo hi (n+1) a b=[(a,b)]:=by unfold iZ;rw[ja h k];rfl
theorem rE{n:Nat}{a b:Int}(h:¬(hi<=a\/b<=lo))(k:¬(lo<=a/\b<=hi)):iZ lo hi (n+1) a b=iZ lo hi n a (md a b)++iZ lo hi n (md a b) b:=by
 unfold iZ;rw[iH h k,List.map_append,rD n (0+1) 0 a,rD n (0+1) 0 (md a b)]
def Ch(s:Int):List Nd->Int->Prop
 | [],e=>s=e
 | x::r,e=>x.1=s/\x.1 < x.2/\Ch x.2 r e
theorem Ch.app{s m e:Int}:∀{l r:List Nd},Ch s l m->Ch m r e->Ch s (l++r) e
 | [],_,h,k=>by cases h;exact k
 | x::l,r,h,k=>⟨h.1,h.2.1,Ch.app h.2.2 k⟩
theorem oA(hl:lo < hi):∀(n:Nat){a b:Int},a < b->b - a<=2 ^ n->¬(hi<=a\/b<=lo)->Ch (max a lo) (iZ lo hi (n+1) a b) (min b hi)
 | n,a,b,h1,h2,h3=>by
  by_cases k:lo<=a/\b<=hi
  ·rw[vS h3 k]
   exact⟨by show a=_;omega,h1,by show b=_;omega⟩
  ·have w:=wide h3 k
   obtain⟨m1,m2⟩:=uv w
   cases n with
   | zero=>exfalso;have:(2:Int) ^ 0=1:=rfl;omega
   | succ n=>
    obtain⟨w1,w2⟩:=Nx h2
    rw[rE h3 k]
    by_cases c1:hi<=md a b
    ·rw[mj (a:=md a b) (.inl c1),List.append_nil]
     have:=oA hl n (a:=a) (b:=md a b) m1 w1 (by omega)
     rw[show min (md a b) hi=min b hi by omega] at this
     exact this
    ·by_cases c2:md a b<=lo
     ·rw[mj (b:=md a b) (.inr c2),List.nil_append]
      have:=oA hl n (a:=md a b) (b:=b) m2 w2 (by omega)
      rw[show max (md a b) lo=max a lo by omega] at this
      exact this
     ·have t1:=oA hl n (a:=a) (b:=md a b) m1 w1 (by omega)
      have t2:=oA hl n (a:=md a b) (b:=b) m2 w2 (by omega)
      rw[show min (md a b) hi=md a b by omega] at t1
      rw[show max (md a b) lo=md a b by omega] at t2
      exact t1.app t2
def deps(l:List (Nd×Int)):List Int:=l.map (·.2)
theorem iI{x y:List (Nd×Int)}:deps (x++y)=deps x++deps y:=List.map_append
theorem xF:∀(n:Nat)(d a b:Int),∀x∈deps (cd lo hi n d a b),d<=x
 | 0,_,_,_,x,h=>by cases h
 | n+1,d,a,b,x,h=>by
  by_cases h1:hi<=a\/b<=lo
  ·rw[cM h1] at h;cases h
  ·by_cases k:lo<=a/\b<=hi
   ·rw[ja h1 k] at h
    rw[List.mem_singleton.mp h];exact Int.le_refl _
   ·rw[iH h1 k,iI] at h
    rcases List.mem_append.mp h with z | z
    ·have:=xF n _ _ _ x z;omega
    ·have:=xF n _ _ _ x z;omega
theorem GW{n:Nat}{d a b:Int}(k:¬(lo<=a/\b<=hi)):∀x∈deps (cd lo hi n d a b),d < x:=λx h=>by
 cases n with
 | zero=>cases h
 | succ n=>
  by_cases h1:hi<=a\/b<=lo
  ·rw[cM h1] at h;cases h
  ·rw[iH h1 k,iI] at h
   rcases List.mem_append.mp h with z | z
   ·have:=xF n _ _ _ x z;omega
   ·have:=xF n _ _ _ x z;omega
theorem uw{l:List Int}{d j:Int}(h:∀x∈l,d < x)(k:j<=d):l.count j=0:=List.count_eq_zero.mpr λz=>by have:=h j z;omega
theorem jY{n:Nat}{d a b j:Int}(k:lo<=a/\b<=hi):(deps (cd lo hi n d a b)).count j<=(if j=d then 1 else 0):=by
 cases n with
 | zero=>exact Nat.zero_le _
 | succ n=>
  by_cases h1:hi<=a\/b<=lo
  ·rw[cM h1];exact Nat.zero_le _
  ·rw[ja h1 k]
   show[d].count j<=_
   rw[List.count_singleton]
   by_cases e:j=d
   ·rw[if_pos e];split<;>omega
   ·rw[if_neg e,if_neg (by simpa using Ne.symm e)];omega
theorem vT:∀(n:Nat)(d a b j:Int),lo<=a->a<=b->(deps (cd lo hi n d a b)).count j<=1/\(cd lo hi n d a b).length<=n
 | 0,_,_,_,_,_,_=>⟨Nat.zero_le _,Nat.zero_le _⟩
 | n+1,d,a,b,j,h,hab=>by
  by_cases h1:hi<=a\/b<=lo
  ·rw[cM h1];exact⟨Nat.zero_le _,Nat.zero_le _⟩
  ·by_cases k:lo<=a/\b<=hi
   ·have e:=jY (n:=n+1) (d:=d) (j:=j) k
    rw[ja h1 k] at e ⊢
    refine⟨Nat.le_trans e (by split<;>omega),by simp⟩
   ·obtain⟨m1,m2⟩:=uv (wide h1 k)
    rw[iH h1 k,iI,List.count_append,List.length_append]
    by_cases c:hi<=md a b
    ·rw[cM (a:=md a b) (.inl c)]
     have:=vT n (d+1) a (md a b) j h (by omega)
     simp[deps] at this ⊢
     omega
    ·have e1:=jY (lo:=lo) (hi:=hi) (n:=n) (d:=d+1) (a:=a) (b:=md a b) (j:=j) ⟨h,by omega⟩
     have l1:(cd lo hi n (d+1) a (md a b)).length<=1:=by
      cases n with
      | zero=>exact Nat.zero_le _
      | succ n=>
       by_cases o:hi<=a\/md a b<=lo
       ·rw[cM o];exact Nat.zero_le _
       ·rw[ja o ⟨h,by omega⟩];exact Nat.le_refl _
     have t:=vT n (d+1) (md a b) b j (by omega) (by omega)
     have g:=GW (lo:=lo) (hi:=hi) (n:=n) (d:=d+1) (a:=md a b) (b:=b) (by omega)
     refine⟨?_,by omega⟩
     by_cases e:j=d+1
     ·rw[uw g (by omega)]
      rw[if_pos e] at e1
      omega
     ·rw[if_neg e] at e1
      omega
theorem vU:∀(n:Nat)(d a b j:Int),b<=hi->a<=b->(deps (cd lo hi n d a b)).count j<=1/\(cd lo hi n d a b).length<=n
 | 0,_,_,_,_,_,_=>⟨Nat.zero_le _,Nat.zero_le _⟩
 | n+1,d,a,b,j,h,hab=>by
  by_cases h1:hi<=a\/b<=lo
  ·rw[cM h1];exact⟨Nat.zero_le _,Nat.zero_le _⟩
  ·by_cases k:lo<=a/\b<=hi
   ·have e:=jY (n:=n+1) (d:=d) (j:=j) k
    rw[ja h1 k] at e ⊢
    refine⟨Nat.le_trans e (by split<;>omega),by simp⟩
   ·obtain⟨m1,m2⟩:=uv (wide h1 k)
    rw[iH h1 k,iI,List.count_append,List.length_append]
    by_cases c:md a b<=lo
    ·rw[cM (b:=md a b) (.inr c)]
     have:=vU n (d+1) (md a b) b j h (by omega)
     simp[deps] at this ⊢
     omega
    ·have e1:=jY (lo:=lo) (hi:=hi) (n:=n) (d:=d+1) (a:=md a b) (b:=b) (j:=j) ⟨by omega,h⟩
     have l1:(cd lo hi n (d+1) (md a b) b).length<=1:=by
      cases n with
      | zero=>exact Nat.zero_le _
      | succ n=>
       by_cases o:hi<=md a b\/b<=lo
       ·rw[cM o];exact Nat.zero_le _
       ·rw[ja o ⟨by omega,h⟩];exact Nat.le_refl _
     have t:=vU n (d+1) a (md a b) j (by omega) (by omega)
     have g:=GW (lo:=lo) (hi:=hi) (n:=n) (d:=d+1) (a:=a) (b:=md a b) (by omega)
     refine⟨?_,by omega⟩
     by_cases e:j=d+1
     ·rw[uw g (by omega)]
      rw[if_pos e] at e1
      omega
     ·rw[if_neg e] at e1
      omega
theorem vV:∀(n:Nat)(d a b j:Int),a<=b->(deps (cd lo hi n d a b)).count j<=2/\(cd lo hi n d a b).length<=2 * n
 | 0,_,_,_,_,_=>⟨Nat.zero_le _,Nat.zero_le _⟩
 | n+1,d,a,b,j,hab=>by
  by_cases h1:hi<=a\/b<=lo
  ·rw[cM h1];exact⟨Nat.zero_le _,Nat.zero_le _⟩
  ·by_cases k:lo<=a/\b<=hi
   ·have e:=jY (n:=n+1) (d:=d) (j:=j) k
    rw[ja h1 k] at e ⊢
    refine⟨Nat.le_trans e (by split<;>omega),by simp;omega⟩
   ·obtain⟨m1,m2⟩:=uv (wide h1 k)
    rw[iH h1 k,iI,List.count_append,List.length_append]
    by_cases c:hi<=md a b
    ·rw[cM (a:=md a b) (.inl c)]
     have:=vV n (d+1) a (md a b) j (by omega)
     simp[deps] at this ⊢
     omega
    ·by_cases c2:md a b<=lo
     ·rw[cM (b:=md a b) (.inr c2)]
      have:=vV n (d+1) (md a b) b j (by omega)
      simp[deps] at this ⊢
      omega
     ·have t1:=vU (lo:=lo) (hi:=hi) n (d+1) a (md a b) j (by omega) (by omega)
      have t2:=vT (lo:=lo) (hi:=hi) n (d+1) (md a b) b j (by omega) (by omega)
      omega
end
theorem ux{lo hi:Int}{n:Nat}{a b:Int}(h:a<=b):(iZ lo hi n a b).length<=2 * n:=by unfold iZ;rw[List.length_map];exact(vV n 0 a b 0 h).2
theorem oB{lo hi:Int}(hl:lo < hi):∀(n:Nat){a b:Int}(st:Hs),n<=20->a < b->b - a<=2 ^ n->∃L st',bj (n+1) [pw (a,b),.int lo,.int hi] st= .ok (.ref L) st'/\ag st' L=some ((iZ lo hi (n+1) a b).map pw)/\Gr st st'/\st.length<=L
 | n,a,b,st,hn,h1,h2=>by
  rw[lO]
  by_cases o:hi<=a\/b<=lo
  ·refine⟨st.length,st++[.lst []],jW (n:=4) (g:=bG (bj n)) ?_,by rw[mj o];exact aw,Gr.push,Nat.le_refl _⟩
   unfold bG
   by_cases o1:hi<=a
   ·simp[GR,GU,o1]
   ·simp[GR,GU,o1,o.resolve_left o1]
  ·have o1:¬hi<=a:=λz=>o (.inl z)
   have o2:¬b<=lo:=λz=>o (.inr z)
   by_cases k:lo<=a/\b<=hi
   ·refine⟨st.length,st++[.lst [pw (a,b)]],jW (n:=4) (g:=bG (bj n)) ?_,by rw[vS o k];exact aw,Gr.push,Nat.le_refl _⟩
    unfold bG
    simp[GR,GU,o1,o2,k.1,k.2]
   ·have w:=wide o k
    obtain⟨m1,m2⟩:=uv w
    cases n with
    | zero=>exfalso;have:(2:Int) ^ 0=1:=rfl;omega
    | succ n=>
     obtain⟨w1,w2⟩:=Nx h2
     have hh:=kQ (p:=(a,b)) (st:=st)
     have l0:ag (st++[.lst [pw (a,md a b),pw (md a b,b)]]) st.length=some [pw (a,md a b),pw (md a b,b)]:=aw
     have g0:Gr st (st++[.lst [pw (a,md a b),pw (md a b,b)]]):=Gr.push
     dsimp only at hh
     generalize st++[.lst [pw (a,md a b),pw (md a b,b)]]=s0 at hh l0 g0
     obtain⟨L1,s1,e1,l1,g1,_⟩:=oB hl n (a:=a) (b:=md a b) s0 (by omega) m1 w1
     obtain⟨L2,s2,e2,l2,g2,_⟩:=oB hl n (a:=md a b) (b:=b) s1 (by omega) m2 w2
     have ad:=add_l (g2.lst l1) l2 (by
      rw[List.length_map,List.length_map]
      have c1:=ux (lo:=lo) (hi:=hi) (n:=n+1) (Int.le_of_lt m1)
      have c2:=ux (lo:=lo) (hi:=hi) (n:=n+1) (Int.le_of_lt m2)
      unfold lim
      omega)
     have x0:bN (.ref st.length) (.int 0) s0= .ok (pw (a,md a b)) s0:=hG l0 rfl
     have x1:bN (.ref st.length) (.int 1) s1= .ok (pw (md a b,b)) s1:=hG (g1.lst l0) rfl
     refine⟨s2.length,_,jW (n:=4) (g:=bG (bj (n+1))) ?_,by rw[rE o k,List.map_append];exact aw,g0.trans (g1.trans (g2.trans Gr.push)),Nat.le_trans g0.1 (Nat.le_trans g1.1 g2.1)⟩
     unfold bG
     by_cases k1:lo<=a
     ·have k2:¬b<=hi:=λz=>k ⟨k1,z⟩
      simp[GR,GU,o1,o2,k1,k2,hh,x0,x1,e1,e2,ad]
     ·simp[GR,GU,o1,o2,k1,hh,x0,x1,e1,e2,ad]
abbrev cv(m lo hi:Int):List Nd:=iZ lo hi 9 0 m
theorem cover{m lo hi:Int}{st:Hs}(h1:1<=m)(h2:m<=99)(h3:0<=lo)(h4:lo < hi)(h5:hi<=m):∃L st',jX [.int m,.int lo,.int hi] st= .ok (.ref L) st'/\ag st' L=some ((cv m lo hi).map pw)/\Gr st st'/\st.length<=L:=by
 obtain⟨L,s,e,l,g⟩:=oB h4 8 (a:=0) (b:=m) st (by omega) (by omega) (by have:(2:Int) ^ 8=256:=rfl;omega)
 refine⟨L,s,?_,l,g⟩
 have e':aR [.tup [.int 0,.int m],.int lo,.int hi] st= .ok (.ref L) s:=e
 refine jW (n:=3) (g:=iR) ?_
 unfold iR
 simp[gn h1 h2,h3,h4,h5,e']
theorem kR{m lo hi:Int}(h1:1<=m)(h2:m<=99):∀(n:Nat){a b:Int},(a,b)∈nodes m->∀q∈iZ lo hi n a b,q∈nodes m
 | 0,a,b,_,q,hq=>by cases hq
 | n+1,a,b,h,q,hq=>by
  by_cases o:hi<=a\/b<=lo
  ·rw[mj o] at hq;cases hq
  ·by_cases k:lo<=a/\b<=hi
   ·rw[vS o k] at hq
    rw[List.mem_singleton.mp hq]
    exact h
   ·rw[rE o k] at hq
    have w:=wide o k
    have ek:kids (a,b)=[(a,md a b),(md a b,b)]:=by unfold kids;rw[if_pos w]
    rcases List.mem_append.mp hq with z | z
    ·exact kR h1 h2 n (xB h1 h2 h (by rw[ek];simp)) q z
    ·exact kR h1 h2 n (xB h1 h2 h (by rw[ek];simp)) q z
theorem GX{ws:List Wo}:∀{l:List Nd}{s e:Int},Ch s l e->0<=s->e<=ws.length->s<=e/\l.flatMap (sl ws)=sl ws (s,e)
 | [],s,e,h,_,_=>by
  have h:s=e:=h
  subst h
  refine⟨Int.le_refl _,?_⟩
  unfold sl
  dsimp only
  rw[List.drop_of_length_le (by rw[List.length_take];omega)]
  rfl
 | p::r,s,e,h,h0,h1=>by
  obtain⟨rfl,hp,hr⟩:=h
  obtain⟨le,ih⟩:=GX hr (by omega) h1
  refine⟨by omega,?_⟩
  rw[List.flatMap_cons,ih]
  exact C8 h0 (Int.le_of_lt hp) le h1
theorem Nz{ws:List Wo}{lo hi:Int}(m2:ws.length<=99)(h0:0<=lo)(h1:lo < hi)(h2:hi<=ws.length):(cv ws.length lo hi).flatMap (sl ws)=sl ws (lo,hi):=by
 have c:=oA h1 8 (a:=0) (b:=(ws.length:Int)) (by omega) (by have:(2:Int) ^ 8=256:=rfl;omega) (by omega)
 rw[show max 0 lo=lo by omega,show min (ws.length:Int) hi=hi by omega] at c
 exact(GX c h0 h2).2
theorem uy{L d:Nat}{ws:List Wo}{kvs:Ks}{all:List Wv}{a b:Option Wv}(m1:1<=ws.length)(m2:ws.length<=99)(hi:HI ws kvs):∀(ps:List Nd)(pre:List Wo)(o4:Option Wv)(st:Hs),(∀p∈ps,p∈nodes ws.length)->st[d]? =some (.cB kvs)->ag st L=some all->
  ∃Q4 st',forL 4 aS L all (ps.map pw) [some (.ref d),a,b,some (.tup (fS pre)),o4] st= .nx [some (.ref d),a,b,some (.tup (fS (pre++ps.flatMap (sl ws)))),Q4] st'/\Gr st st'
 | [],pre,o4,st,_,_,_=>⟨o4,st,by rw[List.flatMap_nil,List.append_nil];rfl,Gr.refl⟩
 | p::r,pre,o4,st,hp,h,hl=>by
  have dx:=C9 h (hi.2 p (hp p List.mem_cons_self))
  obtain⟨s1,e1,g1⟩:=put (a:=pre) (b:=sl ws p) (st:=st)
  obtain⟨Q4,s2,e2,g2⟩:=uy (a:=a) (b:=b) m1 m2 hi r (pre++sl ws p) (some (pw p)) s1 (λq hq=>hp q (List.mem_cons_of_mem _ hq)) (g1.get h) (g1.lst hl)
  refine⟨Q4,s2,?_,g1.trans g2⟩
  have bd:aS ([some (.ref d),a,b,some (.tup (fS pre)),o4].set 4 (some (pw p))) st= .nx [some (.ref d),a,b,some (.tup (fS (pre++sl ws p))),some (pw p)] s1:=by
   show aS [some (.ref d),a,b,some (.tup (fS pre)),some (pw p)] st=_
   unfold aS
   simp[nG,dx,e1]
  rw[List.map_cons,forL,bd]
  simp only[if_pos (g1.lst hl)]
  rw[e2,List.flatMap_cons,List.append_assoc]
theorem FW{d:Nat}{ws:List Wo}{kvs:Ks}{lo hi:Int}{st:Hs}(h:st[d]? =some (.cB kvs))(hi':HI ws kvs)(m1:1<=ws.length)(m2:ws.length<=99)(h0:0<=lo)(h1:lo < hi)(h2:hi<=ws.length):∃st',aQ [.ref d,.int lo,.int hi] st= .ok (.tup (fS (sl ws (lo,hi)))) st'/\Gr st st':=by
 have i1:(1:Int)<=(ws.length:Int):=by omega
 have i2:(ws.length:Int)<=99:=by omega
 have k0:iu [] st= .ok (.ref st.length) (st++[.lst []]):=cS (by show 0<=lim;unfold lim;omega)
 have l0:ag (st++[.lst []]) st.length=some (([]:List Wo).map Wo.w):=aw
 have g0:Gr st (st++[.lst []]):=Gr.push
 generalize st++[.lst []]=s0 at k0 l0 g0
 obtain⟨s1,e1,g1⟩:=oj l0 (by decide)
 obtain⟨s2,e2,g2⟩:=xE ((g0.trans g1).get h) hi' m1 m2
 obtain⟨L,s3,e3,l3,g3,_⟩:=cover (st:=s2) i1 i2 h0 h1 h2
 have NA:=g0.trans (g1.trans (g2.trans g3))
 obtain⟨o4,s4,e4,g4⟩:=uy (L:=L) (a:=some (.int lo)) (b:=some (.int hi)) m1 m2 hi' (cv ws.length lo hi) [] none s3 (λp hp=>kR i1 i2 9 oq p hp) (NA.get h) l3
 rw[List.nil_append,Nz m2 h0 h1 h2] at e4
 refine⟨s4,?_,NA.trans g4⟩
 have Vy:kFor 4 aS [some (.ref d),some (.int lo),some (.int hi),some (.tup (fS [])),none] (.ref L) s3= .nx [some (.ref d),some (.int lo),some (.int hi),some (.tup (fS (sl ws (lo,hi)))),o4] s4:=by rw[qW l3];exact e4
 unfold aQ cq bH
 simp[k0,e1,e2,e3,Vy]
theorem xG{ws:List Wo}:∀{ps:List Nd}{kvs:Ks},ps.Nodup->kvs.map (·.1)=ps.map kk->(∀q∈ps,dm kvs (kk q)=some (.tup (fS (sl ws q))))->kvs=ps.map (ent ws)
 | [],kvs,_,h,_=>by simpa using h
 | p::r,[],_,h,_=>by cases h
 | p::r,kv::rest,n,h,hv=>by
  rw[List.map_cons,List.map_cons] at h
  injection h with h1 h2
  rw[List.nodup_cons] at n
  have v0:=hv p List.mem_cons_self
  unfold dm at v0
  rw[if_pos h1] at v0
  injection v0 with v0
  have ih:=xG (ws:=ws) n.2 h2 λq hq=>by
   have v:=hv q (List.mem_cons_of_mem _ hq)
   unfold dm at v
   rw[if_neg (λz=>n.1 (by rw[vR (h1.symm.trans z)];exact hq))] at v
   exact v
  rw[List.map_cons,<-ih]
  congr 1
  exact Prod.ext h1 v0
theorem GY{ws:List Wo}{kvs:Ks}(h:HI ws kvs)(m1:1<=ws.length)(m2:ws.length<=99):kvs=(nodes ws.length).reverse.map (ent ws) :=
 xG ((List.reverse_perm _).nodup_iff.mpr (lD (by omega) (by omega))) h.1 λq hq=>h.2 q (List.mem_reverse.mp hq)
theorem jZ{ws:List Wo}{ps:List Nd}{st:Hs}:kC st (ps.map (ent ws))=true:=by
 unfold kC
 rw[List.all_eq_true]
 intro kv hkv
 obtain⟨p,_,rfl⟩:=List.mem_map.mp hkv
 obtain⟨d,h1,_⟩:=rA (sl ws p)
 show(aL st 20 (.tup (fS (sl ws p)))).isSome=true
 rw[h1]
 rfl
theorem zq{ws:List Wo}{ps:List Nd}{st:Hs}:lx st (ps.map (ent ws)) (ps.map (ent ws))=true:=by
 unfold lx
 rw[decide_eq_true rfl,Bool.true_and,List.all_eq_true,oz]
 intro k hk
 obtain⟨p,hp,rfl⟩:=List.mem_map.mp hk
 have v:=mi (ws:=ws) hp
 obtain⟨d,h1,h2⟩:=rA (sl ws p)
 unfold Gx
 rw[v]
 dsimp only
 rw[h1]
 simpa using h2
theorem zr{ws:List Wo}{k1 k2:Ks}{a b:Nat}{st:Hs}(ha:st[a]? =some (.cB k1))(hb:st[b]? =some (.cB k2))(h1:HI ws k1)(h2:HI ws k2)(m1:1<=ws.length)(m2:ws.length<=99):vy (.ref a) (.ref b) st= .ok (.bl true) st/\yY (.ref a) (.ref b) st= .ok (.bl false) st:=by
 have e1:=GY h1 m1 m2
 have e2:=GY h2 m1 m2
 subst e1 e2
 have da:nJ st (.ref a)=some ((nodes ws.length).reverse.map (ent ws)):=by show kA st[a]? =_;rw[ha];rfl
 have db:nJ st (.ref b)=some ((nodes ws.length).reverse.map (ent ws)):=by show kA st[b]? =_;rw[hb];rfl
 unfold vy yY
 rw[da,db]
 dsimp only
 rw[if_pos ⟨jZ,jZ⟩,if_pos ⟨jZ,jZ⟩,zq]
 exact⟨rfl,rfl⟩
theorem rK{c d:PySem.Str}{b:Bool}{st:Hs}(h:br.lookup (c,d)=some b):a_ br aD [.fk c,.cls d] st= .ok (.bl b) st:=by
 show(match br.lookup (c,d) with | some b=>Re.ok (Wv.bl b) st | none=> .bad)=_
 rw[h]
theorem Vz{st:Hs}:a_ br aD [.fk "BadCount",.ty "ValueError"] st= .ok (.bl true) st:=by
 show(match aD.lookup (("BadCount":PySem.Str),("ValueError":String)) with | some b=>Re.ok (Wv.bl b) st | none=> .bad)=_
 rw[show aD.lookup (("BadCount":PySem.Str),("ValueError":String))=some true by decide+kernel]
def hb:List Bool:=[false,false,false,false,false,false,false,false,true,false,false,false,false,false,false,true]
def hv:Wv->Bool
 | .int i=>hb.getD i.toNat false
 | _=>false
theorem KD:((cb 0 (16:Int).toNat).filter hv).map id=[.int 8,.int 15]:=by
 rw[List.map_id]
 rfl
theorem kinds{st:Hs}:∃(l:Nat)(st':Hs),cY [.fk "BadCount"] st= .ok (.ref l) st'/\ag st' l=some [.int 8,.int 15]/\Gr st st':=by
 have t0:∀st:Hs,a_ br aD [.fk "BadCount",.cls "BadPlace"] st= .ok (.bl false) st:=λ_=>rK (by decide+kernel)
 have t1:∀st:Hs,a_ br aD [.fk "BadCount",.cls "BadArea"] st= .ok (.bl false) st:=λ_=>rK (by decide+kernel)
 have t2:∀st:Hs,a_ br aD [.fk "BadCount",.cls "BadText"] st= .ok (.bl false) st:=λ_=>rK (by decide+kernel)
 have t3:∀st:Hs,a_ br aD [.fk "BadCount",.cls "BadFormula"] st= .ok (.bl false) st:=λ_=>rK (by decide+kernel)
 have t4:∀st:Hs,a_ br aD [.fk "BadCount",.cls "BadContent"] st= .ok (.bl false) st:=λ_=>rK (by decide+kernel)
 have t5:∀st:Hs,a_ br aD [.fk "BadCount",.cls "Full"] st= .ok (.bl false) st:=λ_=>rK (by decide+kernel)
 have t6:∀st:Hs,a_ br aD [.fk "BadCount",.cls "NoCell"] st= .ok (.bl false) st:=λ_=>rK (by decide+kernel)
 have t7:∀st:Hs,a_ br aD [.fk "BadCount",.cls "NotWaiting"] st= .ok (.bl false) st:=λ_=>rK (by decide+kernel)
 have t8:∀st:Hs,a_ br aD [.fk "BadCount",.cls "BadCount"] st= .ok (.bl true) st:=λ_=>rK (by decide+kernel)
 have t9:∀st:Hs,a_ br aD [.fk "BadCount",.cls "NoRoom"] st= .ok (.bl false) st:=λ_=>rK (by decide+kernel)
 have VA:∀st:Hs,a_ br aD [.fk "BadCount",.cls "BadTable"] st= .ok (.bl false) st:=λ_=>rK (by decide+kernel)
 have VB:∀st:Hs,a_ br aD [.fk "BadCount",.cls "NoTable"] st= .ok (.bl false) st:=λ_=>rK (by decide+kernel)
 have VC:∀st:Hs,a_ br aD [.fk "BadCount",.cls "NoColumn"] st= .ok (.bl false) st:=λ_=>rK (by decide+kernel)
 have VD:∀st:Hs,a_ br aD [.fk "BadCount",.cls "NoDeed"] st= .ok (.bl false) st:=λ_=>rK (by decide+kernel)
 have VE:∀st:Hs,a_ br aD [.fk "BadCount",.cls "Clash"] st= .ok (.bl false) st:=λ_=>rK (by decide+kernel)
 obtain⟨x,hx⟩:∃x:List Wv,[Wv.bl false,.bl false,.bl false,.bl false]=x:=⟨_,rfl⟩
 obtain⟨y,hy⟩:∃y:List Wv,[Wv.bl true,.bl false,.bl false,.bl false]=y:=⟨_,rfl⟩
 obtain⟨z,hz⟩:∃z:List Wv,[Wv.bl false,.bl false,.bl false,.bl true]=z:=⟨_,rfl⟩
 have nx:x.length=4:=by rw[<-hx];rfl
 have ny:y.length=4:=by rw[<-hy];rfl
 have nz:z.length=4:=by rw[<-hz];rfl
 have kx:∀st:Hs,iu x st= .ok (.ref st.length) (st++[.lst x]):=λst=>cS (by rw[nx];unfold lim;omega)
 have ky:∀st:Hs,iu y st= .ok (.ref st.length) (st++[.lst y]):=λst=>cS (by rw[ny];unfold lim;omega)
 have kz:∀st:Hs,iu z st= .ok (.ref st.length) (st++[.lst z]):=λst=>cS (by rw[nz];unfold lim;omega)
 obtain⟨s1,hs1⟩:∃s1,st++[Ob.lst x]=s1:=⟨_,rfl⟩
 obtain⟨s2,hs2⟩:∃s2,s1++[Ob.lst x]=s2:=⟨_,rfl⟩
 obtain⟨s3,MM⟩:∃s3,s2++[Ob.lst y]=s3:=⟨_,rfl⟩
 obtain⟨s4,Q5⟩:∃s4,s3++[Ob.lst z]=s4:=⟨_,rfl⟩
 have g1:Gr st s1:=by rw[<-hs1];exact Gr.push
 have g2:Gr s1 s2:=by rw[<-hs2];exact Gr.push
 have g3:Gr s2 s3:=by rw[<-MM];exact Gr.push
 have g4:Gr s3 s4:=by rw[<-Q5];exact Gr.push
 have l1:ag s4 st.length=some x:=(g2.trans (g3.trans g4)).lst (by rw[<-hs1];exact aw)
 have l2:ag s4 s1.length=some x:=(g3.trans g4).lst (by rw[<-hs2];exact aw)
 have l3:ag s4 s2.length=some y:=g4.lst (by rw[<-MM];exact aw)
 have l4:ag s4 s3.length=some z:=by rw[<-Q5];exact aw
 have a1:=add_l l1 l2 (by unfold lim;omega)
 obtain⟨s5,Q6⟩:∃s5,s4++[Ob.lst (x++x)]=s5:=⟨_,rfl⟩
 rw[Q6] at a1
 have g5:Gr s4 s5:=by rw[<-Q6];exact Gr.push
 have l5:ag s5 s4.length=some (x++x):=by rw[<-Q6];exact aw
 have a2:=add_l l5 (g5.lst l3) (by rw[List.length_append];unfold lim;omega)
 obtain⟨s6,Q7⟩:∃s6,s5++[Ob.lst (x++x++y)]=s6:=⟨_,rfl⟩
 rw[Q7] at a2
 have g6:Gr s5 s6:=by rw[<-Q7];exact Gr.push
 have l6:ag s6 s5.length=some (x++x++y):=by rw[<-Q7];exact aw
 have a3:=add_l l6 ((g5.trans g6).lst l4) (by rw[List.length_append,List.length_append];unfold lim;omega)
 obtain⟨s7,Q8⟩:∃s7,s6++[Ob.lst (x++x++y++z)]=s7:=⟨_,rfl⟩
 rw[Q8] at a3
 have g7:Gr s6 s7:=by rw[<-Q8];exact Gr.push
 have l7:ag s7 s6.length=some (hb.map Wv.bl):=by rw[<-Q8,aw,<-hx,<-hy,<-hz];rfl
 have cp:=dt (cs:=[("heard",5)]) (gt:=b9) (ge:=dA) (ρ:=[some (.fk "BadCount"),some (.ref st.length),some (.ref s1.length),some (.ref s2.length),some (.ref s3.length),some (.ref s6.length)]) (w:=(none,cb 0 (16:Int).toNat)) (st:=s7) (t:=hv) (f:=id) trivial
  (λv hv' acc=>by
   obtain⟨i,rfl,i0,i1⟩:=xt hv'
   have i2:i < 16:=by have:((16:Int).toNat:Int)=16:=rfl;omega
   have e:bN (.ref s6.length) (.int i) (s7++[.lst acc])= .ok (.bl (hb.getD i.toNat false)) (s7++[.lst acc]):=by
    refine hG (kF l7) ?_
    have:i=0\/i=1\/i=2\/i=3\/i=4\/i=5\/i=6\/i=7\/i=8\/i=9\/i=10\/i=11\/i=12\/i=13\/i=14\/i=15:=by omega
    rcases this with rfl | rfl | rfl | rfl | rfl | rfl | rfl | rfl | rfl | rfl | rfl | rfl | rfl | rfl | rfl | rfl<;>rfl
   unfold b9
   simp[jg,e,hv])
  (λv hv' _ acc=>rfl) (by show(cb 0 (16:Int).toNat).length < lim;rw[fY];unfold lim;omega)
 rw[show((none,cb 0 (16:Int).toNat):Wk).2=cb 0 (16:Int).toNat from rfl,KD] at cp
 have VF:bX [("heard",5)] b9 dA [some (.fk "BadCount"),some (.ref st.length),some (.ref s1.length),some (.ref s2.length),some (.ref s3.length),some (.ref s6.length)] (none,cb 0 16) s7= .ok (.ref s7.length) (s7++[.lst [.int 8,.int 15]]):=cp
 have r1:=Ki (j:=16) (st:=s7) (Ft (by omega) (by omega))
 refine⟨s7.length,s7++[.lst [.int 8,.int 15]],?_,aw,g1.trans (g2.trans (g3.trans (g4.trans (g5.trans (g6.trans (g7.trans Gr.push))))))⟩
 refine jW (n:=6) (g:=cX) ?_
 unfold cX
 simp[-List.append_assoc,-List.length_append,t0,t1,t2,t3,t4,t5,t6,t7,t8,t9,VA,VB,VC,VD,VE,Vz,hx,hy,hz,kx,ky,kz,hs1,hs2,MM,Q5,a1,a2,a3,r1,VF]
theorem qh{is:List Nat}{gb:GS}{l:Nat}{all:List Wv}(P:aT->Hs->Prop):∀(ws:List Wv)(ρ:aT)(st:Hs),P ρ st->ag st l=some all->
  (∀w∈ws,∀ρ st,P ρ st->ag st l=some all->∃ρ1 ρ' st',ML is w ρ=some ρ1/\gb ρ1 st= .nx ρ' st'/\ag st' l=some all/\P ρ' st')->
  ∃ρ' st',k_ is gb l all ws ρ st= .nx ρ' st'/\P ρ' st'
 | [],ρ,st,h,hl,_=>⟨ρ,st,rfl,h⟩
 | w::r,ρ,st,h,hl,step=>by
  obtain⟨ρ0,ρ1,st1,e0,e1,l1,p1⟩:=step w List.mem_cons_self ρ st h hl
  obtain⟨ρ2,st2,e2,p2⟩:=qh P r ρ1 st1 p1 l1 λw hw=>step w (List.mem_cons_of_mem _ hw)
  refine⟨ρ2,st2,?_,p2⟩
  unfold k_
  rw[e0]
  dsimp only
  rw[e1]
  simp only[if_pos l1]
  exact e2
theorem KG{l l':Nat}{st:Hs}(h:ag st l=some [.int 8,.int 15])(h':ag st l'=some [.int 8,.int 15]):sj (.ref l) (.ref l') st= .ok (.bl false) st :=
 qY (by rw[GL h];rfl) (by rw[GL h'];rfl) (by simp[PyData.eqv,PyData.eqvAll])
theorem Dd{m lo hi:Int}{st:Hs}(k1:1<=m)(k2:m<=99)(h:¬(0<=lo/\lo < hi/\hi<=m)):jX [.int m,.int lo,.int hi] st= .err "BadCount" st:=by
 refine CJ (n:=3) (g:=iR) (ρ:=[some (.int m),some (.int lo),some (.int hi)]) ?_
 unfold iR
 by_cases c1:0<=lo
 ·by_cases c2:lo < hi
  ·have c3:¬hi<=m:=λz=>h ⟨c1,c2,z⟩
   simp[gn k1 k2,c1,c2,c3,lim]
  ·simp[gn k1 k2,c1,c2,lim]
 ·simp[gn k1 k2,c1,lim]
theorem vW{d:Nat}{ws:List Wo}{kvs:Ks}{lo hi:Int}{st:Hs}(h:st[d]? =some (.cB kvs))(hi':HI ws kvs)(m1:1<=ws.length)(m2:ws.length<=99)(hn:¬(0<=lo/\lo < hi/\hi<=ws.length)):∃st',aQ [.ref d,.int lo,.int hi] st= .err "BadCount" st'/\Gr st st':=by
 have k0:iu [] st= .ok (.ref st.length) (st++[.lst []]):=cS (by show 0<=lim;unfold lim;omega)
 have l0:ag (st++[.lst []]) st.length=some (([]:List Wo).map Wo.w):=aw
 have g0:Gr st (st++[.lst []]):=Gr.push
 generalize st++[.lst []]=s0 at k0 l0 g0
 obtain⟨s1,e1,g1⟩:=oj l0 (by decide)
 obtain⟨s2,e2,g2⟩:=xE ((g0.trans g1).get h) hi' m1 m2
 have cn:=Dd (st:=s2) (m:=ws.length) (by omega) (by omega) hn
 refine⟨s2,?_,g0.trans (g1.trans g2)⟩
 refine CJ (n:=5) (g:=bH) (ρ:=[some (.ref d),some (.int lo),some (.int hi),some (.tup (fS [])),none]) ?_
 unfold bH
 simp[k0,e1,e2,cn]
theorem refusal{d:Nat}{ws:List Wo}{kvs:Ks}{lo hi:Int}{st:Hs}(h:st[d]? =some (.cB kvs))(hi':HI ws kvs)(m1:1<=ws.length)(m2:ws.length<=99)(hn:¬(0<=lo/\lo < hi/\hi<=ws.length)):∃(l:Nat)(st':Hs),de [.ref d,.int lo,.int hi] st= .ok (.ref l) st'/\ag st' l=some [.int 8,.int 15]/\Gr st st':=by
 obtain⟨s1,hs1⟩:∃s1,st++[Ob.lst []]=s1:=⟨_,rfl⟩
 have g1:Gr st s1:=by rw[<-hs1];exact Gr.push
 obtain⟨s0,cn,g0⟩:=vW (g1.get h) hi' m1 m2 hn
 obtain⟨l,s2,e2,l2,g2⟩:=kinds (st:=s0)
 have tc:cg.lookup (("BadCount":PySem.Str),("SheetError":PySem.Str))=some true:=by decide+kernel
 have bd:c_ [some (.ref d),some (.int lo),some (.int hi),some (.ref st.length),none] s1= .err "BadCount" [some (.ref d),some (.int lo),some (.int hi),some (.ref st.length),none] s0:=by
  unfold c_
  simp[cn]
 have su:bP [some (.ref d),some (.int lo),some (.int hi),some (.ref st.length),some (.fk "BadCount")] s0= .nx [some (.ref d),some (.int lo),some (.int hi),some (.ref l),some (.fk "BadCount")] s2:=by
  unfold bP
  simp[e2]
 have tr:=CL (cat:=λy=>cg.lookup (y,("SheetError":PySem.Str))) (i:=4) (gs:=bP) (ρ:=[some (.ref d),some (.int lo),some (.int hi),some (.ref st.length),none]) (st:=s0) tc su
 refine⟨l,s2,?_,l2,g1.trans (g0.trans g2)⟩
 refine jW (n:=5) (g:=dc) ?_
 unfold dc
 simp[hs1,bd,tr]
abbrev Rh(m W d e:Nat)(hd o6 o7 o8 o9 vX vY KH:Option Wv):aT:=[some (.ref 0),hd,some (.int (m:Nat)),some (.ref W),some (.ref d),some (.ref e),o6,o7,o8,o9,vX,vY,KH]
theorem zt{k:Nat}{st:Hs}:∃(wd:iX),oMod (.int (k:Nat)) (.int 4) (st++[.lst [.str "sum",.str "count",.str "least",.str "greatest"]])= .ok (.int ((k:Int).fmod 4)) (st++[.lst [.str "sum",.str "count",.str "least",.str "greatest"]])/\bN (.ref st.length) (.int ((k:Int).fmod 4)) (st++[.lst [.str "sum",.str "count",.str "least",.str "greatest"]])= .ok (.str wd.s) (st++[.lst [.str "sum",.str "count",.str "least",.str "greatest"]]):=by
 have d0:=Int.fmod_nonneg_of_pos (k:Int) (b:=4) (by decide)
 have d1:=Int.fmod_lt_of_pos (k:Int) (b:=4) (by decide)
 have mo:oMod (.int (k:Nat)) (.int 4) (st++[.lst [.str "sum",.str "count",.str "least",.str "greatest"]])= .ok (.int ((k:Int).fmod 4)) (st++[.lst [.str "sum",.str "count",.str "least",.str "greatest"]]):=iw (by decide)
 generalize (k:Int).fmod 4=d at d0 d1 mo
 have l:=aw (st:=st) (ws:=[.str "sum",.str "count",.str "least",.str "greatest"])
 have:d=0\/d=1\/d=2\/d=3:=by omega
 rcases this with rfl | rfl | rfl | rfl
 ·exact⟨.sum,mo,hG l rfl⟩
 ·exact⟨.count,mo,hG l rfl⟩
 ·exact⟨.least,mo,hG l rfl⟩
 ·exact⟨.iG,mo,hG l rfl⟩
theorem NB{t:GT}{g:GS}{ρ:aT}{st st':Hs}(h:t ρ st= .ok false st'):i8 t g a8 ρ st= .nx ρ st':=by simp[h]
theorem Q9{a b c r:GS}{ρ ρ':aT}{st st':Hs}(h:ay a (ay b c) ρ st= .nx ρ' st'):ay a (ay b (ay c r)) ρ st=r ρ' st':=by
 unfold ay at h ⊢
 cases ea:a ρ st with
 | nx ρ1 s1=>
  rw[ea] at h
  dsimp only at h ⊢
  cases eb:b ρ1 s1 with
  | nx ρ2 s2=>
   rw[eb] at h
   dsimp only at h ⊢
   rw[h]
  | _=>rw[eb] at h;cases h
 | _=>rw[ea] at h;cases h
theorem turn{ns:List Int}{W d e k:Nat}{ws:List Wo}{kvs:Ks}{hd o7 o8 o9 vX vY KH:Option Wv}{st:Hs}(hk:k < 31)(l0:ag st 0=some (ns.map Wv.int))(hW:ag st W=some (ws.map Wo.w))(hd':st[d]? =some (.cB kvs))(hi':HI ws kvs)(m1:1<=ws.length)(m2:ws.length<=99) :
  ∃(p7 p8 p9 Q_ Ra:Option Wv)(st':Hs),n9 (Rh ws.length W d e hd (some (.int (k:Nat))) o7 o8 o9 vX vY KH) st= .nx (Rh ws.length W d e hd (some (.int (k:Nat))) p7 p8 p9 Q_ Ra KH) st'/\Gr st st':=by
 have sm:=qf l0
 obtain⟨v1,p1,x1⟩:=mixed (st:=st) (c:=ns.sum) (k:=2 * (k:Int)) (by omega) (by omega)
 obtain⟨v2,p2,x2⟩:=mixed (st:=st) (c:=ns.sum) (k:=2 * (k:Int)+1) (by omega) (by omega)
 have mu:bO (.int 2) (.int (k:Nat)) st= .ok (.int (2 * (k:Int))) st:=tW (by decide) (by decide)
 have Rb:oMod (.int v1) (.int (ws.length:Nat)) st= .ok (.int (v1.fmod (ws.length:Int))) st:=iw (by omega)
 have q1:=Int.fmod_nonneg_of_pos v1 (b:=(ws.length:Int)) (by omega)
 have q2:=Int.fmod_lt_of_pos v1 (b:=(ws.length:Int)) (by omega)
 generalize v1.fmod (ws.length:Int)=KI at Rb q1 q2
 have Rc:oMod (.int v2) (.int ((ws.length:Int) - KI)) st= .ok (.int (v2.fmod ((ws.length:Int) - KI))) st:=iw (by omega)
 have q3:=Int.fmod_nonneg_of_pos v2 (b:=(ws.length:Int) - KI) (by omega)
 have q4:=Int.fmod_lt_of_pos v2 (b:=(ws.length:Int) - KI) (by omega)
 generalize v2.fmod ((ws.length:Int) - KI)=w0 at Rc q3 q4
 obtain⟨lo,hi,h0,h1,h2,bounds⟩:∃lo hi:Int,0<=lo/\lo < hi/\hi<=ws.length/\ay (aH 7 (aj oMod (ax 2 aU (aa (ar ko (aa (ae 0) ai)) (aa (aj bO (gC (.int 2)) (ae 6)) ai))) (ae 2))) (ay (aH 8 (aj cP (aj cP (ae 7) (gC (.int 1))) (aj oMod (ax 2 aU (aa (ar ko (aa (ae 0) ai)) (aa (aj cP (aj bO (gC (.int 2)) (ae 6)) (gC (.int 1))) ai))) (aj qA (ae 2) (ae 7))))) (i8 (bg (aj oEq (ae 6) (gC (.int 30)))) (ay (aH 7 (gC (.int 0))) (aH 8 (ae 2))) a8)) (Rh ws.length W d e hd (some (.int (k:Nat))) o7 o8 o9 vX vY KH) st= .nx (Rh ws.length W d e hd (some (.int (k:Nat))) (some (.int lo)) (some (.int hi)) o9 vX vY KH) st:=by
  by_cases c:(k:Int)=30
  ·refine⟨0,ws.length,by omega,by omega,by omega,?_⟩
   have c':((k:Int) == 30)=true:=by rw[c];rfl
   simp[sm,mu,x1,x2,Rb,Rc,c']
  ·refine⟨KI,KI+1+w0,by omega,by omega,by omega,?_⟩
   have c':((k:Int) == 30)=false:=beq_false_of_ne c
   simp[sm,mu,x1,x2,Rb,Rc,c']
 obtain⟨s1,e1,g1⟩:=FW hd' hi' m1 m2 h0 h1 h2
 have Rf:=QO (lo:=some lo) (hi:=some hi) (g1.lst hW)
 have ec:mR (ws.map Wo.w) (some lo) (some hi)=(sl ws (lo,hi)).map Wo.w:=by
  rw[FJ h0 (by omega) (by omega) h2]
  unfold sl
  rw[List.drop_take]
 rw[ec] at Rf
 have l2:=aw (st:=s1) (ws:=(sl ws (lo,hi)).map Wo.w)
 have g2:Gr s1 (s1++[.lst ((sl ws (lo,hi)).map Wo.w)]):=Gr.push
 generalize s1++[.lst ((sl ws (lo,hi)).map Wo.w)]=s2 at Rf l2 g2
 have Ts:(sl ws (lo,hi)).length < 100:=by
  unfold sl
  rw[List.length_drop,List.length_take]
  omega
 obtain⟨s3,e3,g3⟩:=Nu l2 Ts
 have tn:=Ku (ws:=sl ws (lo,hi)) (st:=s3)
 have it:y0 br aD [.tup (fS (sl ws (lo,hi))),.ty "tuple"] s2= .ok (.bl true) s2:=rfl
 obtain⟨wd,w1,w2⟩:=zt (k:=k) (st:=s3)
 have k3:=Ke (x0:=.str "sum") (x1:=.str "count") (x2:=.str "least") (x3:=.str "greatest") (st:=s3)
 have g4:Gr s3 (s3++[.lst [.str "sum",.str "count",.str "least",.str "greatest"]]):=Gr.push
 generalize s3++[.lst [.str "sum",.str "count",.str "least",.str "greatest"]]=s4 at w1 w2 k3 g4
 have td:=told (wd:=wd) (ws:=sl ws (lo,hi)) (st:=s4)
 obtain⟨s5,e5,g5⟩:=gather (wd:=wd) ((g3.trans g4).lst l2) Ts
 have dn:=Kn (wd:=wd) (ws:=sl ws (lo,hi)) (st:=s5)
 refine⟨some (.int lo),some (.int hi),some (.tup (fS (sl ws (lo,hi)))),some (.ref s1.length),some (.str wd.s),s5,?_,g1.trans (g2.trans (g3.trans (g4.trans g5)))⟩
 refine(Q9 bounds).trans ?_
 simp[e1,Rf,it,e3,tn,k3,w1,w2,td,e5,dn]
theorem law_true:∀ns:List Int,ns.length<=63->∃st,F_law [.ref 0] [.j6 ns]= .ok (.bl true) st:=by
 intro ns hn
 have l0:ag [Ob.j6 ns] 0=some (ns.map Wv.int):=rfl
 obtain⟨v,e1⟩:=rp l0 (k:=0) (Int.le_refl _)
 have d4:fW (.int v) (.int 4) [Ob.j6 ns]= .ok (.int (v.fdiv 4)) [Ob.j6 ns]:=nQ ⟨by decide,by decide⟩
 have d2:fW (.int v) (.int 2) [Ob.j6 ns]= .ok (.int (v.fdiv 2)) [Ob.j6 ns]:=nQ ⟨by decide,by decide⟩
 have VG:oMod (.int (v.fdiv 4)) (.int 99) [Ob.j6 ns]= .ok (.int ((v.fdiv 4).fmod 99)) [Ob.j6 ns]:=iw (by decide)
 have m2:oMod (.int (v.fdiv 2)) (.int 2) [Ob.j6 ns]= .ok (.int ((v.fdiv 2).fmod 2)) [Ob.j6 ns]:=iw (by decide)
 have f0:=Int.fmod_nonneg_of_pos (v.fdiv 4) (b:=99) (by decide)
 have f1:=Int.fmod_lt_of_pos (v.fdiv 4) (b:=99) (by decide)
 obtain⟨m,hm⟩:=Int.eq_ofNat_of_zero_le (show 0<=1+(v.fdiv 4).fmod 99 by omega)
 obtain⟨ws,s1,e2,g1,q1,hl⟩:=Km (b:=(v.fdiv 2).fmod 2 == 0) l0 (m:=m) (by omega)
 subst hl
 have A_:bI [.ref 0,.int (ws.length:Nat),.bl ((v.fdiv 2).fmod 2 == 0)] [Ob.j6 ns]= .ok (.ref 1) s1:=e2
 have Tt:s1[1]? =some (.lst (ws.map Wo.w)):=q1
 have n1:1<=ws.length:=by omega
 have n2:ws.length<=99:=by omega
 obtain⟨kvs,s2,e3,g2,q2,hi⟩:=uo (W:=1) (bY Tt) n1 n2
 have hk:ir (kvs.map (·.1))=true:=by rw[hi.1];exact FU (by omega) (by omega)
 have e4:=FV q2 (Ny hi) hk
 have g3:Gr s2 (s2++[.cB kvs]):=Gr.push
 have q3:(s2++[.cB kvs])[s2.length]? =some (.cB kvs):=dZ
 generalize s2++[.cB kvs]=s3 at e4 g3 q3
 have NA:=g1.trans (g2.trans g3)
 have cn:jf (31:Int):=Ft (by omega) (by omega)
 obtain⟨ρ4,s4,e5,o6,o7,o8,o9,vX,vY,rfl,g4⟩:=xq (i:=6) (gb:=n9) (λ_ ρ st=>∃o6 o7 o8 o9 vX vY,ρ=Rh ws.length 1 s1.length s2.length (some (.int v)) o6 o7 o8 o9 vX vY none/\Gr s3 st) (cb 0 31) 0
  (Rh ws.length 1 s1.length s2.length (some (.int v)) none none none none none none none) s3 ⟨_,_,_,_,_,_,rfl,Gr.refl⟩ λj w hw ρ st hP=>by
   obtain⟨o6,o7,o8,o9,vX,vY,rfl,g⟩:=hP
   have hj:=(List.getElem?_eq_some_iff.mp hw).1
   rw[fY] at hj
   rw[pI hj] at hw
   cases hw
   rw[Int.zero_add]
   obtain⟨p7,p8,p9,Q_,Ra,st',et,g'⟩:=turn (k:=j) (W:=1) (d:=s1.length) (e:=s2.length) (hd:=some (.int v)) (o7:=o7) (o8:=o8) (o9:=o9) (vX:=vX) (vY:=vY) (KH:=none) hj ((NA.trans g).lst l0) (((g2.trans g3).trans g).lst (bY Tt)) ((g3.trans g).get q2) hi n1 n2
   exact⟨_,st',et,_,p7,p8,p9,Q_,Ra,rfl,g.trans g'⟩
 have sm:=qf ((NA.trans g4).lst l0)
 have Tu:qB (.int 10) (.int 30) s4= .ok (.int (10 ^ (30:Int).toNat)) s4:=GG (by decide)
 have mf:oMod (.int ns.sum) (.int (10 ^ (30:Int).toNat)) s4= .ok (.int (ns.sum.fmod (10 ^ (30:Int).toNat))) s4:=iw (by decide)
 have f3:=Int.fmod_nonneg_of_pos ns.sum (b:=10 ^ (30:Int).toNat) (by decide)
 generalize ns.sum.fmod (10 ^ (30:Int).toNat)=GZ at mf f3
 generalize (10:Int) ^ (30:Int).toNat=WL at Tu mf
 obtain⟨ps,hps⟩:∃ps:List Nd,ps=[(0,0),((ws.length:Int),(ws.length:Int)),(1,0),(-1,1),(0,(ws.length:Int)+1),(-1 - GZ,1),(0,(ws.length:Int)+1+GZ)]:=⟨_,rfl⟩
 have bad:∀p∈ps,¬(0<=p.1/\p.1 < p.2/\p.2<=(ws.length:Int)):=λp hp=>by
  rw[hps] at hp
  simp only[List.mem_cons,List.not_mem_nil,or_false] at hp
  rcases hp with rfl | rfl | rfl | rfl | rfl | rfl | rfl<;>dsimp only<;>omega
 have k7:=cS (ws:=ps.map pw) (st:=s4) (by rw[List.length_map,hps];show 7<=lim;unfold lim;omega)
 have l5:=aw (st:=s4) (ws:=ps.map pw)
 have g5:Gr s4 (s4++[.lst (ps.map pw)]):=Gr.push
 generalize s4++[.lst (ps.map pw)]=s5 at k7 l5 g5
 obtain⟨ρ6,s6,e6,⟨p7,p8,rfl⟩,g6⟩:=qh (is:=[7,8]) (gb:=n8) (l:=s4.length) (all:=ps.map pw) (λρ st=>(∃p7 p8,ρ=Rh ws.length 1 s1.length s2.length (some (.int v)) o6 p7 p8 o9 vX vY (some (.int GZ)))/\Gr s5 st) (ps.map pw) (Rh ws.length 1 s1.length s2.length (some (.int v)) o6 o7 o8 o9 vX vY (some (.int GZ))) s5 ⟨⟨_,_,rfl⟩,Gr.refl⟩ l5
  λw hw ρ s hP hl=>by
   obtain⟨⟨p7,p8,rfl⟩,g⟩:=hP
   obtain⟨p,hp,rfl⟩:=List.mem_map.mp hw
   obtain⟨l,t1,r1,r2,r3⟩:=refusal (lo:=p.1) (hi:=p.2) ((g3.trans (g4.trans (g5.trans g))).get q2) hi n1 n2 (bad p hp)
   have WM:=Kd (x0:=.int 8) (x1:=.int 15) (st:=t1)
   have ne:=KG (st:=t1++[.lst [.int 8,.int 15]]) (Gr.push.lst r2) aw
   have gt:Gr s (t1++[.lst [.int 8,.int 15]]):=r3.trans Gr.push
   refine⟨Rh ws.length 1 s1.length s2.length (some (.int v)) o6 (some (.int p.1)) (some (.int p.2)) o9 vX vY (some (.int GZ)),Rh ws.length 1 s1.length s2.length (some (.int v)) o6 (some (.int p.1)) (some (.int p.2)) o9 vX vY (some (.int GZ)),t1++[.lst [.int 8,.int 15]],rfl,?_,gt.lst hl,⟨_,_,rfl⟩,g.trans gt⟩
   unfold n8
   refine NB ?_
   simp[r1,ne]
 have gx:=g4.trans (g5.trans g6)
 have eq:=(zr ((g3.trans gx).get q2) (gx.get q3) hi hi n1 n2).1
 refine⟨s6,jW (n:=13) (g:=xx) ?_⟩
 have hm':1+(v.fdiv 4).fmod 99=(ws.length:Int):=hm
 have VH:iu [.tup [.int 0,.int 0],.tup [.int (ws.length:Nat),.int (ws.length:Nat)],.tup [.int 1,.int 0],.tup [.int (-1),.int 1],.tup [.int 0,.int ((ws.length:Int)+1)],.tup [.int (-1 - GZ),.int 1],.tup [.int 0,.int ((ws.length:Int)+1+GZ)]] s4= .ok (.ref s4.length) s5:=by
  rw[hps] at k7
  exact k7
 unfold xx
 unfold Rh at e5 e6
 simp[e1,d4,VG,hm',d2,m2,A_,e3,e4,cn,e5,sm,Tu,mf,wB,VH,l5,e6,eq]
end K82
namespace PySem.W.Fast
def tw17222428345127184684:=()
def tw15160402225629660004:=()
def tw2763418659314757113:=()
def tw18048797751068703427:=()
def tw8611824808039174291:=()
def tw5510021457009605726:=()
def tw13140285295790173261:=()
def tw6988826010306817976:=()
def tw7886392232295142035:=()
def tw16620111845739069462:=()
def tw15989533238057744847:=()
def tw6002079144849695582:=()
def tw13844615851185936969:=()
def tw3465869509272693087:=()
def tw6967607666469213943:=()
def tw281825498650795832:=()
def tw8755988949369787615:=()
def tw8722973950428856929:=()
def tw7767262838629663183:=()
def tw6607315183371698093:=()
def tw7713751110231894261:=()
def tw14075388325151505142:=()
def tw1196652358811408168:=()
def tw797236508393601282:=()
def tw11037237072185552465:=()
def tw13964445859857939298:=()
def tw1268340395238427158:=()
def tw10738439356705353890:=()
def tw2400292329571641079:=()
def tw2678513342583497071:=()
def tw5545641533008896643:=()
def tw8296842414692134839:=()
def tw6076587994027548803:=()
def tw735958987454707593:=()
def tw16837219955914789487:=()
def tw173039596636430453:=()
def tw7214229471061271488:=()
def tw15935446638768614809:=()
def tw14715778511442575204:=()
def tw11397156148574534828:=()
def tw18185680994778357023:=()
def tw14953627106300982707:=()
def tw14038897127753700868:=()
def tw13609319214593571965:=()
def tw8341590139739913502:=()
def tw1906282679398836883:=()
def tw521917813538532660:=()
def tw7303355994892260187:=()
def tw10241932662466260979:=()
def tw9379551192975836617:=()
def tw13978533523361658085:=()
def tw2995977460954008831:=()
def tw61241259420351338:=()
def tw18104499486207679417:=()
def tw5836480769147950516:=()
def tw12527261190992718263:=()
def tw2137257619521292111:=()
def tw16524708117094833403:=()
def tw3372420572088412898:=()
def tw375324140949189827:=()
def tw14479781348218435720:=()
def tw11095561102726356526:=()
def tw13959094933255522112:=()
def tw15362652013776390463:=()
def tw14483046941286621803:=()
def tw16792119090462125357:=()
def tw5738179455987902949:=()
def tw7530411940403009361:=()
def tw12147644009666894100:=()
def tw3222846233233585469:=()
def tw13408736713580876618:=()
def tw6155054526313649825:=()
def tw3264929210734960045:=()
def tw12011371166415465752:=()
def tw4230927445234369613:=()
def tw2624956437001546033:=()
def tw648121473675820827:=()
def tw6112991591723672285:=()
def tw166270784641182647:=()
def tw4255141434722097565:=()
def tw4202202384788080236:=()
def tw8718202782228894840:=()
def tw15081139794878750435:=()
def tw16636636860287226672:=()
def tw13126770887159549137:=()
def tw9597721792187632928:=()
def tw12432571065864240891:=()
def tw14281582704990290148:=()
def tw7588138149746843456:=()
def tw1438521440258959175:=()
def tw5428005650679568662:=()
def tw15165023239305046757:=()
def tw15285369907940840779:=()
def tw13919924977363618642:=()
def tw9937344915680532816:=()
def tw3859564489363613968:=()
def tw8522706741751764501:=()
def tw1360173089059666259:=()
def tw11335445920773265816:=()
def tw7165572598592946493:=()
def tw1234425749643318404:=()
def tw9318256210095256581:=()
def tw14990152895908528153:=()
def tw920498949802011443:=()
def tw8579698947311352264:=()
def tw1576688014996256638:=()
def tw7157026932668071964:=()
def tw5651814578702685601:=()
def tw11214328694914016010:=()
def tw8688764377956116190:=()
def tw2741240943095904139:=()
def tw4739434961172753422:=()
def tw14271656380298039381:=()
def tw2867560506547014377:=()
def tw8228449400416991383:=()
def tw2567936523401144166:=()
def tw7681438195227961527:=()
def tw10981266093983090992:=()
def tw7739732050431551546:=()
def tw5918905199510302953:=()
def tw8186298213709640454:=()
def tw11202686827843222528:=()
def tw636693104700521324:=()
def tw12510298059606752179:=()
def tw13541976011597085456:=()
def tw17223762509586238998:=()
def tw10458817167382875878:=()
def tw13375866749096400940:=()
def tw1236897239374138096:=()
def tw12019279065012152885:=()
def tw3659744010946269258:=()
def tw6904199804716002086:=()
def tw9657047449666936082:=()
def tw1763187999053490135:=()
def tw3892397704144303895:=()
def tw2970617925397455384:=()
def tw2296036211743689068:=()
def tw4778416692709643892:=()
def tw5971857464474020569:=()
def tw11235450635441675005:=()
def tw12111386323008931204:=()
def tw1130999376717921109:=()
def tw6794356969666235199:=()
def tw2925085983592683346:=()
def tw11187547128921200417:=()
def tw17591157169918545096:=()
def tw8234121172532044246:=()
def tw1027882153337856920:=()
def tw9288508722780612413:=()
def tw1696285670411852498:=()
def tw7016764587327314597:=()
def tw7138334039428903788:=()
def tw7140853674289143468:=()
def tw15477558127075761543:=()
def tw15896009365035935686:=()
def tw10242666216987022662:=()
def tw704481322329890074:=()
def tw8998029097580040579:=()
def tw10329710176846971672:=()
def tw16777615758553672039:=()
def tw12700799522319100427:=()
def tw691850918413447595:=()
def tw7698142043212325506:=()
def tw8326231292634138995:=()
def tw12621695411599843028:=()
def tw10751286013813730893:=()
def tw14659772464831419705:=()
def tw16097006671236696692:=()
def tw12142098932927144793:=()
def tw1708006476072483624:=()
def tw6004134104400044216:=()
def tw6597983750404721293:=()
def tw8789734586967866782:=()
def tw11180417775090311416:=()
def tw10473867576849992683:=()
def tw4193449170244727207:=()
def tw14230187967213473179:=()
def tw10985287008798064497:=()
def tw3837419828007859007:=()
def tw16046767790197555497:=()
def tw1528098606801587484:=()
def tw17139135019659297714:=()
def tw15710425026174202094:=()
def tw13185691071784118086:=()
def tw14094668359966746857:=()
def tw17377737991476386215:=()
def tw4293459689289768402:=()
def tw3690356457465252043:=()
def tw3952934634464836220:=()
def tw8460029287204098841:=()
def tw1314908945075796175:=()
def tw4276460077249898403:=()
def tw18129551594993550720:=()
def tw2031663015655065158:=()
def tw8909472153997537505:=()
def tw1564206277212747390:=()
def tw1626051988289381571:=()
def tw13546761534688025919:=()
def tw14328154963214573941:=()
def tw9888223748419512754:=()
def tw9832600273634549359:=()
def tw4838374541212654653:=()
def tw10032716951991123765:=()
def tw16418958298028093657:=()
def tw2678695598723775386:=()
def tw48756079242619603:=()
def tw17117394447786434584:=()
def tw697647314616465904:=()
def tw15540978751485657824:=()
def tw16483498980265381760:=()
def tw6948605455676026778:=()
def tw4959217133849279394:=()
def tw2909619889048178424:=()
def tw11799648698743632440:=()
def tw5566021209837515825:=()
def tw1782736750131881961:=()
def tw824282931774286529:=()
def tw8148125614121674414:=()
def tw10974151507439790369:=()
def tw6126414346061906161:=()
def tw9606396851942167528:=()
def tw5366719810080748176:=()
def tw4208862293523934924:=()
def tw12202236836007823556:=()
def tw8782989231842332193:=()
def tw9799878745441870337:=()
def tw17461704301271332598:=()
def tw2149943019147634572:=()
def tw3135849530269515022:=()
def tw11435948817079333965:=()
def tw5228656609618586248:=()
def tw796990449224957328:=()
def tw6219987894863604155:=()
end PySem.W.Fast
namespace K82
open PySem PySem.W PyProof.Rows
set_option maxHeartbeats 0 in
open_top head for PySem.Challenge.rw_onelook_k82_stretches_told
end K82
namespace K82
open PySem J
open L2 (defScope defBody defArgs FnScope CX0 FnOk XK Hp)
theorem all_mk {l:PySem.W.OpenLaw} {w:World} {K:PySem.W.Frag} {h:Heap} {mg:Str → Option Value} {fa:Addr} (X:K.In h) (G:h.Ns mainGlobals mg) (hfa:mg "law" = some (.ref fa))
        {tk0:Tok} {X0 X1 X2 X3 X4 X5 X6 X7 X8 X9 NC ND NF NG NH KJ:WN}
    (d1:J.aZ K "_law_cell_at" cT)
    (d2:J.aZ K "_law_digit" d_)
    (d3:J.aZ K "_law_worth" eh)
    (d4:J.aZ K "_law_mixed" eC)
    (d5:J.aZ K "_law_row_of" dB)
    (d6:J.aZ K "_law_worths" dC)
    (d7:J.aZ K "check_many" eD)
    (d8:J.aZ K "is_single" fD)
    (d9:J.aZ K "halves_of" fF)
    (Rg:J.aZ K "level_under" dD)
    (Ri:J.aZ K "nodes_under" dE)
    (Rj:J.aZ K "is_fault" gO)
    (Rk:J.aZ K "tally_of" gP)
    (Rl:J.aZ K "put_together" cV)
    (Rm:J.aZ K "joined_halves" cF)
    (Ro:J.aZ K "made_halves" dG)
    (OH:J.aZ K "covering" gQ)
    (Rp:J.aZ K "cover" me)
    (Rq:J.aZ K "many_in" iS)
    (Rr:J.aZ K "stretch_tally" cG)
    (Rt:J.aZ K "is_great" gR)
    (Ru:J.aZ K "fault" mh)
    (Rv:J.aZ K "bounded" iT)
    (Rw:J.aZ K "told_by" iU)
    (Rx:J.aZ K "gathered" gS)
    (OI:J.aZ K "_law_kinds" cW)
    (Ry:J.aZ K "_law_refusal" c9)
    (Rz:J.aZ K "_law_tally" eE)
    (RA:J.aZ K "law" xw)
    (z0:PySem.W.nsIn K W5 "len"=some none)
    (z1:PySem.W.nsIn K W5 "range"=some none)
    (z2:PySem.W.nsIn K W5 "sum"=some none)
    (z3:PySem.W.nsIn K W5 "isinstance"=some none)
    (z4:PySem.W.nsIn K W5 "tuple"=some none)
    (z5:PySem.W.nsIn K W5 "min"=some none)
    (z6:PySem.W.nsIn K W5 "max"=some none)
    (z7:PySem.W.nsIn K W5 "int"=some none)
    (z8:PySem.W.nsIn K W5 "reversed"=some none)
    (z9:PySem.W.nsIn K W5 "abs"=some none)
    (I_:PySem.W.nsIn K W5 "ValueError"=some none)
    (Ja:PySem.W.nsIn K W5 "sorted"=some none)
    (Jb:PySem.W.nsIn K W5 "dict"=some none)
    (v0:PySem.W.nsIn K W5 "MOST_WORTHS"=some (some (.int 99 tk0)))
    (j5:PySem.W.nsIn K W5 "BadCount"=some (some (.ref X0))) (oC:PySem.W.excIn K X0 yp yq=true) (rF:PySem.W.findIn K (.ref X0) "__getattribute__"=some (some (.builtin "BaseException.__getattribute__"))) (rG:PySem.W.findIn K (.ref X0) "__getattr__"=some none) (rH:PySem.W.findIn K (.ref X0) "__class__"=some (some (.builtin "object.__class__")))
    (KL:PySem.W.nsIn K W5 "BadPlace"=some (some (.ref X1)))
    (KN:PySem.W.nsIn K W5 "BadArea"=some (some (.ref X2)))
    (KO:PySem.W.nsIn K W5 "BadText"=some (some (.ref X3)))
    (KP:PySem.W.nsIn K W5 "BadFormula"=some (some (.ref X4)))
    (KQ:PySem.W.nsIn K W5 "BadContent"=some (some (.ref X5)))
    (KR:PySem.W.nsIn K W5 "Full"=some (some (.ref X6)))
    (KS:PySem.W.nsIn K W5 "NoCell"=some (some (.ref X7)))
    (KU:PySem.W.nsIn K W5 "NotWaiting"=some (some (.ref X8)))
    (KW:PySem.W.nsIn K W5 "NoRoom"=some (some (.ref X9)))
    (vZ:PySem.W.nsIn K W5 "BadTable"=some (some (.ref NC)))
    (v5:PySem.W.nsIn K W5 "NoTable"=some (some (.ref ND)))
    (v7:PySem.W.nsIn K W5 "NoColumn"=some (some (.ref NF)))
    (v9:PySem.W.nsIn K W5 "NoDeed"=some (some (.ref NG)))
    (v_:PySem.W.nsIn K W5 "Clash"=some (some (.ref NH)))
    (zu:PySem.W.nsIn K W5 "SheetError"=some (some (.ref KJ))) (FX:PySem.W.excIn K KJ yp yq=true)
    (RB:PySem.W.kitOne K (.ref X0) (.ref X0)=some true)
    (RC:PySem.W.kitOne K (.ref X0) (.ref X1)=some false)
    (RD:PySem.W.kitOne K (.ref X0) (.ref X2)=some false)
    (RE:PySem.W.kitOne K (.ref X0) (.ref X3)=some false)
    (RF:PySem.W.kitOne K (.ref X0) (.ref X4)=some false)
    (RG:PySem.W.kitOne K (.ref X0) (.ref X5)=some false)
    (RH:PySem.W.kitOne K (.ref X0) (.ref X6)=some false)
    (RI:PySem.W.kitOne K (.ref X0) (.ref X7)=some false)
    (RJ:PySem.W.kitOne K (.ref X0) (.ref X8)=some false)
    (RK:PySem.W.kitOne K (.ref X0) (.ref X9)=some false)
    (KY:PySem.W.kitOne K (.ref X0) (.ref NC)=some false)
    (KZ:PySem.W.kitOne K (.ref X0) (.ref ND)=some false)
    (K1:PySem.W.kitOne K (.ref X0) (.ref NF)=some false)
    (K2:PySem.W.kitOne K (.ref X0) (.ref NG)=some false)
    (K3:PySem.W.kitOne K (.ref X0) (.ref NH)=some false)
    (K4:PySem.W.kitOne K (.ref X0) (.ref KJ)=some true)
    (RL:PySem.W.mroIn K X0 (.ref KJ)=some true)
    (RM:PySem.W.kitOne K (.ref X0) (.type "ValueError")=some true)
     :
    ∃fd:WQ,(∀(s:WT)(u:WU),BindsTo s fd ⟨[u],[]⟩ [("script",u)])/\∀base:Heap,K.In base->base.Ns W5 mg->FnOk l.prog w K mg base (CXJ l.prog w) 14 fa fd ["script"] (spW K 1 F_law):=by
  refine J.Fo X G hfa RA (λ_ _ _ _ _ _ s u=> .of_eq rfl) (λf fd Fu base kb nb=>?_)
  have Z0:=PySem.W.mg_none_of kb nb z0
  have Z1:=PySem.W.mg_none_of kb nb z1
  have Z2:=PySem.W.mg_none_of kb nb z2
  have Z3:=PySem.W.mg_none_of kb nb z3
  have Z4:=PySem.W.mg_none_of kb nb z4
  have Z5:=PySem.W.mg_none_of kb nb z5
  have Z6:=PySem.W.mg_none_of kb nb z6
  have Z7:=PySem.W.mg_none_of kb nb z7
  have Z8:=PySem.W.mg_none_of kb nb z8
  have Z9:=PySem.W.mg_none_of kb nb z9
  have Tv:=PySem.W.mg_none_of kb nb I_
  have VI:=PySem.W.mg_none_of kb nb Ja
  have VJ:=PySem.W.mg_none_of kb nb Jb
  have V0:=PySem.W.mg_of kb nb v0
  have TB:TabOk K br aD cg:=J.J_ ⟨⟨X0,X0,j5,j5,⟨oC,rF,rG,rH⟩,RB⟩,⟨X0,X1,j5,KL,⟨oC,rF,rG,rH⟩,RC⟩,⟨X0,X2,j5,KN,⟨oC,rF,rG,rH⟩,RD⟩,⟨X0,X3,j5,KO,⟨oC,rF,rG,rH⟩,RE⟩,⟨X0,X4,j5,KP,⟨oC,rF,rG,rH⟩,RF⟩,⟨X0,X5,j5,KQ,⟨oC,rF,rG,rH⟩,RG⟩,⟨X0,X6,j5,KR,⟨oC,rF,rG,rH⟩,RH⟩,⟨X0,X7,j5,KS,⟨oC,rF,rG,rH⟩,RI⟩,⟨X0,X8,j5,KU,⟨oC,rF,rG,rH⟩,RJ⟩,⟨X0,X9,j5,KW,⟨oC,rF,rG,rH⟩,RK⟩,⟨X0,NC,j5,vZ,⟨oC,rF,rG,rH⟩,KY⟩,⟨X0,ND,j5,v5,⟨oC,rF,rG,rH⟩,KZ⟩,⟨X0,NF,j5,v7,⟨oC,rF,rG,rH⟩,K1⟩,⟨X0,NG,j5,v9,⟨oC,rF,rG,rH⟩,K2⟩,⟨X0,NH,j5,v_,⟨oC,rF,rG,rH⟩,K3⟩,⟨X0,KJ,j5,zu,⟨oC,rF,rG,rH⟩,K4⟩,trivial⟩ ⟨⟨X0,j5,⟨oC,rF,rG,rH⟩,RM⟩,trivial⟩ ⟨⟨X0,KJ,j5,zu,oC,FX,RL⟩,trivial⟩
  have H1:J.gq l.prog w K mg base 1 "_law_cell_at" 2 aX:=J.aG (ps:=["script","k"]) kb nb d1 (J.aA (c:=eT) (k:=0) trivial ⟨Z0,trivial⟩ trivial TB trivial trivial trivial) lL rfl nT (λ_ _ _ _ _ _ us hl=>J.ln2 us hl λ_ _=>rfl)
  have H2:J.gq l.prog w K mg base 1 "_law_digit" 2 aP:=J.aG (ps:=["row","many"]) kb nb d2 (J.aA (c:=gH) (k:=0) trivial trivial trivial TB trivial trivial trivial) oN rfl qZ (λ_ _ _ _ _ _ us hl=>J.ln2 us hl λ_ _=>rfl)
  have H3:J.gq l.prog w K mg base 2 "_law_worth" 1 cU:=J.aG (ps:=["row"]) kb nb d3 (J.aA (c:=gJ) (k:=1) trivial trivial ⟨H2.mono (by decide),trivial⟩ TB trivial trivial trivial) oO rfl q9 (λ_ _ _ _ _ _ us hl=>J.uC us hl λ_=>rfl)
  have H4:J.gq l.prog w K mg base 1 "_law_mixed" 2 aU:=J.aG (ps:=["cell","k"]) kb nb d4 (J.aA (c:=gL) (k:=0) trivial trivial trivial TB trivial trivial trivial) oP rfl q_ (λ_ _ _ _ _ _ us hl=>J.ln2 us hl λ_ _=>rfl)
  have H5:J.gq l.prog w K mg base 2 "_law_row_of" 2 cx:=J.aG (ps:=["script","k"]) kb nb d5 (J.aA (c:=fK) (k:=1) trivial ⟨Z1,Z0,Z2,trivial⟩ ⟨H1.mono (by decide),H4.mono (by decide),trivial⟩ TB trivial trivial trivial) nU rfl oQ (λ_ _ _ _ _ _ us hl=>J.ln2 us hl λ_ _=>rfl)
  have H6:J.gq l.prog w K mg base 3 "_law_worths" 3 bI:=J.aG (ps:=["script","many","faults"]) kb nb d6 (J.aA (c:=fM) (k:=2) trivial ⟨Z1,Z3,Z4,trivial⟩ ⟨H3.mono (by decide),H5.mono (by decide),trivial⟩ TB trivial trivial trivial) nV rfl oR (λ_ _ _ _ _ _ us hl=>J.Lf us hl λ_ _ _=>rfl)
  have H7:J.gq l.prog w K mg base 1 "check_many" 1 bu:=J.aG (ps:=["many"]) kb nb d7 (J.aA (c:=gN) (k:=0) ⟨⟨_,V0⟩,trivial⟩ trivial trivial TB ⟨⟨X0,PySem.W.mg_of kb nb j5,⟨j5,oC⟩⟩,trivial⟩ trivial trivial) oS rfl ra (λ_ _ _ _ _ _ us hl=>J.uC us hl λ_=>rfl)
  have H8:J.gq l.prog w K mg base 1 "is_single" 1 bD:=J.aG (ps:=["node"]) kb nb d8 (J.aA (c:=iz) (k:=0) trivial trivial trivial TB trivial trivial trivial) rb rfl t_ (λ_ _ _ _ _ _ us hl=>J.uC us hl λ_=>rfl)
  have H9:J.gq l.prog w K mg base 1 "halves_of" 1 bw:=J.aG (ps:=["node"]) kb nb d9 (J.aA (c:=iB) (k:=0) trivial trivial trivial TB trivial trivial trivial) rf rfl ua (λ_ _ _ _ _ _ us hl=>J.uC us hl λ_=>rfl)
  have Ld:J.gq l.prog w K mg base 2 "level_under" 1 cz:=J.aG (ps:=["level"]) kb nb Rg (J.aA (c:=fO) (k:=1) trivial trivial ⟨H8.mono (by decide),H9.mono (by decide),trivial⟩ TB trivial trivial trivial) nW rfl oT (λ_ _ _ _ _ _ us hl=>J.uC us hl λ_=>rfl)
  have Sj:J.gq l.prog w K mg base 3 "nodes_under" 1 bJ:=J.aG (ps:=["whole"]) kb nb Ri (J.aA (c:=fP) (k:=2) trivial trivial ⟨Ld.mono (by decide),trivial⟩ TB trivial trivial trivial) nX rfl oU (λ_ _ _ _ _ _ us hl=>J.uC us hl λ_=>rfl)
  have Tw:J.gq l.prog w K mg base 1 "is_fault" 1 du:=J.aG (ps:=["worth"]) kb nb Rj (J.aA (c:=jm) (k:=0) trivial ⟨Z3,Z4,trivial⟩ trivial TB trivial trivial trivial) ub rfl vJ (λ_ _ _ _ _ _ us hl=>J.uC us hl λ_=>rfl)
  have Tz:J.gq l.prog w K mg base 2 "tally_of" 1 bV:=J.aG (ps:=["worths"]) kb nb Rk (J.aA (c:=jo) (k:=1) trivial ⟨Z5,Z6,Z2,Z0,Z3,Z7,trivial⟩ ⟨Tw.mono (by decide),trivial⟩ TB trivial trivial trivial) ud rfl vK (λ_ _ _ _ _ _ us hl=>J.uC us hl λ_=>rfl)
  have TC:J.gq l.prog w K mg base 1 "put_together" 2 bh:=J.aG (ps:=["one","other"]) kb nb Rl (J.aA (c:=fe) (k:=0) trivial ⟨Z5,Z6,trivial⟩ trivial TB trivial trivial trivial) lM rfl nZ (λ_ _ _ _ _ _ us hl=>J.ln2 us hl λ_ _=>rfl)
  have VL:J.gq l.prog w K mg base 2 "joined_halves" 2 bo:=J.aG (ps:=["halves","node"]) kb nb Rm (J.aA (c:=dP) (k:=1) trivial trivial ⟨H9.mono (by decide),TC.mono (by decide),trivial⟩ TB trivial trivial trivial) kH rfl lN (λ_ _ _ _ _ _ us hl=>J.ln2 us hl λ_ _=>rfl)
  have VM:J.gq l.prog w K mg base 4 "made_halves" 1 dI:=J.aG (ps:=["worths"]) kb nb Ro (J.aA (c:=fQ) (k:=3) trivial ⟨Z8,Z0,trivial⟩ ⟨H7.mono (by decide),Sj.mono (by decide),H8.mono (by decide),Tz.mono (by decide),VL.mono (by decide),trivial⟩ TB trivial trivial trivial) n4 rfl oV (λ_ _ _ _ _ _ us hl=>J.uC us hl λ_=>rfl)
  have VN:∀n:Nat,J.gq l.prog w K mg base (1+n) "covering" 3 (bj n):=λn=>by
    induction n with
    | zero=>exact J.ET (ps:=["node","low","high"]) kb nb OH (λ_ _ _ _ _ _ us hl=>J.Lf us hl λ_ _ _=>rfl)
    | succ n ih=>exact J.aG (ps:=["node","low","high"]) kb nb OH (J.aA (c:=(n5 (bj n))) (k:=(1+n)) trivial trivial ⟨H9.mono (by omega),ih,trivial⟩ TB trivial trivial trivial) (ue (bj n)) rfl (vL (bj n)) (λ_ _ _ _ _ _ us hl=>J.Lf us hl λ_ _ _=>rfl)
  have VO:J.gq l.prog w K mg base 10 "covering" 3 aR:=(VN 9)
  have VP:J.gq l.prog w K mg base 11 "cover" 3 jX:=J.aG (ps:=["many","low","high"]) kb nb Rp (J.aA (c:=rh) (k:=10) trivial trivial ⟨H7.mono (by decide),VO.mono (by decide),trivial⟩ TB ⟨⟨X0,PySem.W.mg_of kb nb j5,⟨j5,oC⟩⟩,trivial⟩ trivial trivial) CY rfl Fv (λ_ _ _ _ _ _ us hl=>J.Lf us hl λ_ _ _=>rfl)
  have VQ:J.gq l.prog w K mg base 1 "many_in" 1 f':=J.aG (ps:=["halves"]) kb nb Rq (J.aA (c:=kJ) (k:=0) trivial ⟨Z6,trivial⟩ trivial TB trivial trivial trivial) vM rfl zi (λ_ _ _ _ _ _ us hl=>J.uC us hl λ_=>rfl)
  have TF:J.gq l.prog w K mg base 12 "stretch_tally" 3 aQ:=J.aG (ps:=["halves","low","high"]) kb nb Rr (J.aA (c:=dQ) (k:=11) trivial trivial ⟨Tz.mono (by decide),VP.mono (by decide),VQ.mono (by decide),TC.mono (by decide),trivial⟩ TB trivial trivial trivial) kK rfl lP (λ_ _ _ _ _ _ us hl=>J.Lf us hl λ_ _ _=>rfl)
  have VR:J.gq l.prog w K mg base 1 "is_great" 1 ff:=J.aG (ps:=["number"]) kb nb Rt (J.aA (c:=jr) (k:=0) trivial ⟨Z9,trivial⟩ trivial TB trivial trivial trivial) uf rfl vN (λ_ _ _ _ _ _ us hl=>J.uC us hl λ_=>rfl)
  have RN:J.gq l.prog w K mg base 1 "fault" 1 dM:=J.aG (ps:=["word"]) kb nb Ru (J.aA (c:=rj) (k:=0) trivial trivial trivial TB trivial trivial trivial) CZ rfl Fw (λ_ _ _ _ _ _ us hl=>J.uC us hl λ_=>rfl)
  have TH:J.gq l.prog w K mg base 2 "bounded" 1 b8:=J.aG (ps:=["number"]) kb nb Rv (J.aA (c:=kM) (k:=1) trivial trivial ⟨VR.mono (by decide),RN.mono (by decide),trivial⟩ TB trivial trivial trivial) vO rfl zj (λ_ _ _ _ _ _ us hl=>J.uC us hl λ_=>rfl)
  have VS:J.gq l.prog w K mg base 3 "told_by" 2 bK:=J.aG (ps:=["word","tally"]) kb nb Rw (J.aA (c:=kN) (k:=2) trivial trivial ⟨TH.mono (by decide),RN.mono (by decide),trivial⟩ TB trivial trivial trivial) vP rfl zk (λ_ _ _ _ _ _ us hl=>J.ln2 us hl λ_ _=>rfl)
  have VT:J.gq l.prog w K mg base 3 "gathered" 2 dy:=J.aG (ps:=["word","worths"]) kb nb Rx (J.aA (c:=ju) (k:=2) trivial ⟨Z0,Z3,Z7,Z2,Z5,Z6,trivial⟩ ⟨TH.mono (by decide),RN.mono (by decide),Tw.mono (by decide),trivial⟩ TB trivial trivial trivial) ug rfl vQ (λ_ _ _ _ _ _ us hl=>J.ln2 us hl λ_ _=>rfl)
  have VU:J.gq l.prog w K mg base 1 "_law_kinds" 1 cY:=J.aG (ps:=["e"]) kb nb OI (J.aA (c:=cZ) (k:=0) trivial ⟨Z3,Tv,Z1,trivial⟩ trivial TB trivial ⟨⟨X1,PySem.W.mg_of kb nb KL,KL⟩,⟨X2,PySem.W.mg_of kb nb KN,KN⟩,⟨X3,PySem.W.mg_of kb nb KO,KO⟩,⟨X4,PySem.W.mg_of kb nb KP,KP⟩,⟨X5,PySem.W.mg_of kb nb KQ,KQ⟩,⟨X6,PySem.W.mg_of kb nb KR,KR⟩,⟨X7,PySem.W.mg_of kb nb KS,KS⟩,⟨X8,PySem.W.mg_of kb nb KU,KU⟩,⟨X0,PySem.W.mg_of kb nb j5,j5⟩,⟨X9,PySem.W.mg_of kb nb KW,KW⟩,⟨NC,PySem.W.mg_of kb nb vZ,vZ⟩,⟨ND,PySem.W.mg_of kb nb v5,v5⟩,⟨NF,PySem.W.mg_of kb nb v7,v7⟩,⟨NG,PySem.W.mg_of kb nb v9,v9⟩,⟨NH,PySem.W.mg_of kb nb v_,v_⟩,trivial⟩ trivial) i_ rfl rl (λ_ _ _ _ _ _ us hl=>J.uC us hl λ_=>rfl)
  have VW:J.sZ l.prog w K mg base 1 "_law_kinds" 1 cY:=J.CG (ps:=["e"]) kb nb OI (J.aA (c:=cZ) (k:=0) trivial ⟨Z3,Tv,Z1,trivial⟩ trivial TB trivial ⟨⟨X1,PySem.W.mg_of kb nb KL,KL⟩,⟨X2,PySem.W.mg_of kb nb KN,KN⟩,⟨X3,PySem.W.mg_of kb nb KO,KO⟩,⟨X4,PySem.W.mg_of kb nb KP,KP⟩,⟨X5,PySem.W.mg_of kb nb KQ,KQ⟩,⟨X6,PySem.W.mg_of kb nb KR,KR⟩,⟨X7,PySem.W.mg_of kb nb KS,KS⟩,⟨X8,PySem.W.mg_of kb nb KU,KU⟩,⟨X0,PySem.W.mg_of kb nb j5,j5⟩,⟨X9,PySem.W.mg_of kb nb KW,KW⟩,⟨NC,PySem.W.mg_of kb nb vZ,vZ⟩,⟨ND,PySem.W.mg_of kb nb v5,v5⟩,⟨NF,PySem.W.mg_of kb nb v7,v7⟩,⟨NG,PySem.W.mg_of kb nb v9,v9⟩,⟨NH,PySem.W.mg_of kb nb v_,v_⟩,trivial⟩ trivial) i_ rfl oW (λ_ _ _ _ _ _ us hl=>J.uC us hl λ_=>rfl)
  have VX:J.gq l.prog w K mg base 13 "_law_refusal" 3 de:=J.aG (ps:=["halves","low","high"]) kb nb Ry (J.aA (c:=fj) (k:=12) trivial trivial ⟨TF.mono (by decide),VU.mono (by decide),trivial⟩ TB ⟨⟨KJ,PySem.W.mg_of kb nb zu,⟨zu,FX⟩⟩,trivial⟩ trivial trivial ⟨(λ_ _ h=>by cases h;exact VW.mono (by decide)),trivial⟩) lQ rfl n6 (λ_ _ _ _ _ _ us hl=>J.Lf us hl λ_ _ _=>rfl)
  have VY:J.gq l.prog w K mg base 1 "_law_tally" 1 df:=J.aG (ps:=["worths"]) kb nb Rz (J.aA (c:=gW) (k:=0) trivial ⟨VI,Z3,Z4,Z0,Z2,Z7,trivial⟩ trivial TB trivial trivial trivial) oX rfl rn (λ_ _ _ _ _ _ us hl=>J.uC us hl λ_=>rfl)
  exact J.J9 Fu (J.aA (c:=C0) (k:=13) trivial ⟨VJ,Z1,Z2,Z3,Z4,trivial⟩ ⟨H1.mono (by decide),H6.mono (by decide),VM.mono (by decide),TF.mono (by decide),H4.mono (by decide),VS.mono (by decide),VT.mono (by decide),VX.mono (by decide),VY.mono (by decide),trivial⟩ TB trivial trivial trivial) Kk rfl Nt
end K82
open PySem PySem.W PyProof.Rows
set_option maxRecDepth 100000 in
set_option maxHeartbeats 0 in
theorem PySem.Challenge.cw_onelook_k82_stretches_told_holds : PySem.Challenge.rw_onelook_k82_stretches_told.Holds := by
  refine K82.head ?_
  k_fill
  refine L2.walk_of (l:=PySem.Challenge.rw_onelook_k82_stretches_told) (n:=63) (k:=14) (x:="script") (CX:=fun w => J.CXJ PySem.Challenge.rw_onelook_k82_stretches_told.prog w) (sp:=fun w => J.spW _ 1 K82.F_law) rfl (by decide) rfl ⟨rfl,by decide,by decide⟩ (fun w h Y => PySem.W.kIn_of Y) ?F (fun w H a ns hl hO hS => J.law_sp K82.law_true H a ns hl (J.OnlyT.of hO) hS (J.tb_none ?Ta ?Tb ?Tc)) (fun _ _ _ _ _ z => z.elim fun _ y => y.elim fun _ x => x.2)
  case F=>
    intro w mg fa h KX G hmg
    refine' K82.all_mk KX G hmg ?d1 ?d2 ?d3 ?d4 ?d5 ?d6 ?d7 ?d8 ?d9 ?Rg ?Ri ?Rj ?Rk ?Rl ?Rm ?Ro ?OH ?Rp ?Rq ?Rr ?Rt ?Ru ?Rv ?Rw ?Rx ?OI ?Ry ?Rz ?RA ?z0 ?z1 ?z2 ?z3 ?z4 ?z5 ?z6 ?z7 ?z8 ?z9 ?I_ ?Ja ?Jb ?v0 ?j5 ?oC ?rF ?rG ?rH ?KL ?KN ?KO ?KP ?KQ ?KR ?KS ?KU ?KW ?vZ ?v5 ?v7 ?v9 ?v_ ?zu ?FX ?RB ?RC ?RD ?RE ?RF ?RG ?RH ?RI ?RJ ?RK ?KY ?KZ ?K1 ?K2 ?K3 ?K4 ?RL ?RM
    (case d1=>refine' J.aN ?a ?l ?c ?k;(case a=>k_is);(case l=>k_is);(case c=>k_is);(case k=>k_is))
    (case d2=>refine' J.aN ?a ?l ?c ?k;(case a=>k_is);(case l=>k_is);(case c=>k_is);(case k=>k_is))
    (case d3=>refine' J.aN ?a ?l ?c ?k;(case a=>k_is);(case l=>k_is);(case c=>k_is);(case k=>k_is))
    (case d4=>refine' J.aN ?a ?l ?c ?k;(case a=>k_is);(case l=>k_is);(case c=>k_is);(case k=>k_is))
    (case d5=>refine' J.aN ?a ?l ?c ?k;(case a=>k_is);(case l=>k_is);(case c=>k_is);(case k=>k_is))
    (case d6=>refine' J.aN ?a ?l ?c ?k;(case a=>k_is);(case l=>k_is);(case c=>k_is);(case k=>k_is))
    (case d7=>refine' J.aN ?a ?l ?c ?k;(case a=>k_is);(case l=>k_is);(case c=>k_is);(case k=>k_is))
    (case d8=>refine' J.aN ?a ?l ?c ?k;(case a=>k_is);(case l=>k_is);(case c=>k_is);(case k=>k_is))
    (case d9=>refine' J.aN ?a ?l ?c ?k;(case a=>k_is);(case l=>k_is);(case c=>k_is);(case k=>k_is))
    (case Rg=>refine' J.aN ?a ?l ?c ?k;(case a=>k_is);(case l=>k_is);(case c=>k_is);(case k=>k_is))
    (case Ri=>refine' J.aN ?a ?l ?c ?k;(case a=>k_is);(case l=>k_is);(case c=>k_is);(case k=>k_is))
    (case Rj=>refine' J.aN ?a ?l ?c ?k;(case a=>k_is);(case l=>k_is);(case c=>k_is);(case k=>k_is))
    (case Rk=>refine' J.aN ?a ?l ?c ?k;(case a=>k_is);(case l=>k_is);(case c=>k_is);(case k=>k_is))
    (case Rl=>refine' J.aN ?a ?l ?c ?k;(case a=>k_is);(case l=>k_is);(case c=>k_is);(case k=>k_is))
    (case Rm=>refine' J.aN ?a ?l ?c ?k;(case a=>k_is);(case l=>k_is);(case c=>k_is);(case k=>k_is))
    (case Ro=>refine' J.aN ?a ?l ?c ?k;(case a=>k_is);(case l=>k_is);(case c=>k_is);(case k=>k_is))
    (case OH=>refine' J.aN ?a ?l ?c ?k;(case a=>k_is);(case l=>k_is);(case c=>k_is);(case k=>k_is))
    (case Rp=>refine' J.aN ?a ?l ?c ?k;(case a=>k_is);(case l=>k_is);(case c=>k_is);(case k=>k_is))
    (case Rq=>refine' J.aN ?a ?l ?c ?k;(case a=>k_is);(case l=>k_is);(case c=>k_is);(case k=>k_is))
    (case Rr=>refine' J.aN ?a ?l ?c ?k;(case a=>k_is);(case l=>k_is);(case c=>k_is);(case k=>k_is))
    (case Rt=>refine' J.aN ?a ?l ?c ?k;(case a=>k_is);(case l=>k_is);(case c=>k_is);(case k=>k_is))
    (case Ru=>refine' J.aN ?a ?l ?c ?k;(case a=>k_is);(case l=>k_is);(case c=>k_is);(case k=>k_is))
    (case Rv=>refine' J.aN ?a ?l ?c ?k;(case a=>k_is);(case l=>k_is);(case c=>k_is);(case k=>k_is))
    (case Rw=>refine' J.aN ?a ?l ?c ?k;(case a=>k_is);(case l=>k_is);(case c=>k_is);(case k=>k_is))
    (case Rx=>refine' J.aN ?a ?l ?c ?k;(case a=>k_is);(case l=>k_is);(case c=>k_is);(case k=>k_is))
    (case OI=>refine' J.aN ?a ?l ?c ?k;(case a=>k_is);(case l=>k_is);(case c=>k_is);(case k=>k_is))
    (case Ry=>refine' J.aN ?a ?l ?c ?k;(case a=>k_is);(case l=>k_is);(case c=>k_is);(case k=>k_is))
    (case Rz=>refine' J.aN ?a ?l ?c ?k;(case a=>k_is);(case l=>k_is);(case c=>k_is);(case k=>k_is))
    (case RA=>refine' J.aN ?a ?l ?c ?k;(case a=>k_is);(case l=>k_is);(case c=>k_is);(case k=>k_is))
    (case z0=>k_is)
    (case z1=>k_is)
    (case z2=>k_is)
    (case z3=>k_is)
    (case z4=>k_is)
    (case z5=>k_is)
    (case z6=>k_is)
    (case z7=>k_is)
    (case z8=>k_is)
    (case z9=>k_is)
    (case I_=>k_is)
    (case Ja=>k_is)
    (case Jb=>k_is)
    (case v0=>k_is)
    (case j5=>k_is)
    (case oC=>k_exc)
    (case rF=>k_is)
    (case rG=>k_is)
    (case rH=>k_is)
    (case KL=>k_is)
    (case KN=>k_is)
    (case KO=>k_is)
    (case KP=>k_is)
    (case KQ=>k_is)
    (case KR=>k_is)
    (case KS=>k_is)
    (case KU=>k_is)
    (case KW=>k_is)
    (case vZ=>k_is)
    (case v5=>k_is)
    (case v7=>k_is)
    (case v9=>k_is)
    (case v_=>k_is)
    (case zu=>k_is)
    (case FX=>k_exc)
    (case RB=>kit_is)
    (case RC=>kit_is)
    (case RD=>kit_is)
    (case RE=>kit_is)
    (case RF=>kit_is)
    (case RG=>kit_is)
    (case RH=>kit_is)
    (case RI=>kit_is)
    (case RJ=>kit_is)
    (case RK=>kit_is)
    (case KY=>kit_is)
    (case KZ=>kit_is)
    (case K1=>kit_is)
    (case K2=>kit_is)
    (case K3=>kit_is)
    (case K4=>kit_is)
    (case RL=>k_is)
    (case RM=>kit_is)
  (case Ta=>k_is)
  (case Tb=>k_is)
  (case Tc=>k_is)
