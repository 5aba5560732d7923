import PyProof.Rows.All
import Wide.All
import OpenK.AllK
import Wide.FinOn
import Lean
import PyProof.EqAt
import PyProof.EqKinds
import PyProof.TupleCall
import PySem.Challenge.RW_onelook_k83_worths_put_in
open PySem renaming Addr→WN,Around→WO,FuncData→WQ,NameKind→WR,Program→WS,Shared→WT,Value→WU,World→WV,behindInMarks→WW,binaryOp→WX,bootBuiltins→WY,codeAny→WZ,compPost→W0,compareOp→W2,foldedSetIterable→W3,isSubtype_type→W4,mainGlobals→W5,sizeLine→W6,starEach→W7,wpAny→W8,wpAny_bind→W9,wpAny_dictEntries→W_,wpAny_holding→W',wpAny_mono→Xa,wpAny_newList→Xb,wpAny_newObj_type→Xd,wpAny_pure→Xe,wpAny_truthy_bool→Xf
open PyProof.Rows renaming Keyed→Xg,SortSt→Xh,oneType'→Xi,wpS_bind→Xj,wpS_forRange→Xk,wpS_mono→Xl,wpS_pure→Xm
noncomputable section
set_option Elab.async false
set_option linter.all false
set_option maxRecDepth 100000
namespace L2
open PySem PySem.Spec PyProof.Rows
abbrev Key:=Sum Int Str
def oX:Key->WU->Bool
 | .inl k,v=>Value.isInt k v
 | .inr x,v=>Value.isStrOf x v
def Od(w:WV):Key->Int
 | .inl k=>hashInt k
 | .inr x=>hashStr w x
theorem bu:∀{k:Key}{v:WU},oX k v=true->(∃i t,k=Sum.inl i/\v=Value.int i t)\/(∃x t,k=Sum.inr x/\v=Value.str x t)
 | .inl i,v,h=>by
  obtain⟨t,e⟩:=Value.isInt_shape (k:=i) (v:=v) h
  exact .inl ⟨i,t,rfl,e⟩
 | .inr x,v,h=>by
  obtain⟨t,e⟩:=Value.isStrOf_shape (x:=x) (v:=v) h
  exact .inr ⟨x,t,rfl,e⟩
theorem xD(i:Int)(t:Tok):oX (.inl i) (.int i t)=true:=by simp[oX,Value.isInt]
theorem xE(x:Str)(t:Tok):oX (.inr x) (.str x t)=true:=by simp[oX,Value.isStrOf]
theorem GG(a b:Int):decide ((Sum.inl a:Key)=Sum.inl b)=(a == b):=by
 by_cases e:a=b
 ·subst e;simp
 ·have h:¬(Sum.inl a:Key)=Sum.inl b:=λq=>e (Sum.inl.inj q)
  rw[decide_eq_false h]
  exact(beq_eq_false_iff_ne.mpr e).symm
theorem GH(a b:Str):decide ((Sum.inr a:Key)=Sum.inr b)=decide (a=b):=by
 by_cases e:a=b
 ·subst e;simp
 ·have h:¬(Sum.inr a:Key)=Sum.inr b:=λq=>e (Sum.inr.inj q)
  rw[decide_eq_false h,decide_eq_false e]
theorem GJ(a:Int)(b:Str):decide ((Sum.inl a:Key)=Sum.inr b)=false:=decide_eq_false (λq=>nomatch q)
theorem GK(a:Str)(b:Int):decide ((Sum.inr a:Key)=Sum.inl b)=false:=decide_eq_false (λq=>nomatch q)
def aN(prog:WS)(w:WV):PySem.KeyKind prog w Key where
 is:=oX
 hash:=Od w
 inj:=λv a b ha hb=>by
  rcases bu ha with ⟨i,t,rfl,rfl⟩ | ⟨x,t,rfl,rfl⟩
  ·rcases bu hb with ⟨j,u,rfl,e⟩ | ⟨y,u,rfl,e⟩
   ·injection e with e1 _;rw[e1]
   ·exact nomatch e
  ·rcases bu hb with ⟨j,u,rfl,e⟩ | ⟨y,u,rfl,e⟩
   ·exact nomatch e
   ·injection e with e1 _;rw[e1]
 byValue:=λk v h=>by
  rcases bu h with ⟨i,t,rfl,rfl⟩ | ⟨x,t,rfl,rfl⟩<;>rfl
 pyHash:=λhv h=>by
  rcases bu hv with ⟨i,t,rfl,rfl⟩ | ⟨x,t,rfl,rfl⟩
  ·exact wpAny_pyHash_int h
  ·exact wpAny_pyHash_str h
 eqBool:=λhu hv h=>by
  rcases bu hu with ⟨i,t,rfl,rfl⟩ | ⟨x,t,rfl,rfl⟩
  ·rcases bu hv with ⟨j,u,rfl,rfl⟩ | ⟨y,u,rfl,rfl⟩
   ·rw[GG] at h;exact wpAny_eqBool_int h
   ·rw[GJ] at h;exact SeqAt.EqAt.int_str i t y u _ _ _ _ h
  ·rcases bu hv with ⟨j,u,rfl,rfl⟩ | ⟨y,u,rfl,rfl⟩
   ·rw[GK] at h;exact SeqAt.EqAt.str_int x t j u _ _ _ _ h
   ·rw[GH] at h;exact wpAny_eqBool_str h
 «strs»:=λk x t v h=>by
  rcases bu h with ⟨i,u,rfl,e⟩ | ⟨y,u,rfl,e⟩
  ·exact nomatch e
  ·injection e with e1 _
   subst e1
   cases v<;>rfl
theorem rD(prog:WS)(w:WV)(i:Int)(t:Tok):(aN prog w).is (.inl i) (.int i t)=true:=xD i t
theorem rE(prog:WS)(w:WV)(x:Str)(t:Tok):(aN prog w).is (.inr x) (.str x t)=true:=xE x t
end L2
namespace L2
open PySem PySem.Spec PyProof.Rows
inductive V where
 | aF | bl (b:Bool) | int (i:Int) | str (x:Str) | Kx (b:Array UInt8) | rF (b:UInt64) | ref (a:WN) | ty (n:String)
 deriving DecidableEq
def RelV:V->WU->Prop
 | .aF,u=>u=Value.none
 | .bl b,u=>u=Value.bool b
 | .int i,u=>∃t,u=Value.int i t
 | .str x,u=>∃t,u=Value.str x t
 | .Kx b,u=>∃t,u=Value.bytes b t
 | .rF b,u=>∃t,u=Value.float b t
 | .ref a,u=>u=Value.ref a
 | .ty n,u=>u=Value.type n
abbrev Vals:List V->List WU->Prop:=Paired RelV
theorem Vals.length{xs:List V}{us:List WU}(r:Vals xs us):xs.length=us.length:=Paired.length r
theorem Vals.get:∀{xs:List V}{us:List WU}{i:Nat}{x:V},Vals xs us->xs[i]? =some x->∃u,us[i]? =some u/\RelV x u
 | _,_,_,_,.nil,e=>by simp at e
 | _,_,0,_,.cons r _,e=>by simp at e;subst e;exact⟨_,rfl,r⟩
 | _,_,i+1,x,.cons _ t,e=>by
  obtain⟨u,h1,h2⟩:=Vals.get (i:=i) (x:=x) t (by simpa using e)
  exact⟨u,by simpa using h1,h2⟩
theorem Vals.set{x:V}{u:WU}(r:RelV x u):∀{xs:List V}{us:List WU}(i:Nat),Vals xs us->Vals (xs.set i x) (us.set i u)
 | _,_,_,.nil=> .nil
 | _,_,0,.cons _ t=> .cons r t
 | _,_,i+1,.cons q t=> .cons q (Vals.set r i t)
theorem Vals.append:∀{xs ys:List V}{us ws:List WU},Vals xs us->Vals ys ws->Vals (xs++ys) (us++ws)
 | _,_,_,_,.nil,s=>s
 | _,_,_,_,.cons r t,s=> .cons r (Vals.append t s)
theorem Vals.take:∀{xs:List V}{us:List WU}(n:Nat),Vals xs us->Vals (xs.take n) (us.take n)
 | _,_,0,_=> .nil
 | _,_,_+1,.nil=> .nil
 | _,_,n+1,.cons r t=> .cons r (Vals.take n t)
theorem Vals.drop:∀{xs:List V}{us:List WU}(n:Nat),Vals xs us->Vals (xs.drop n) (us.drop n)
 | _,_,0,r=>r
 | _,_,_+1,.nil=> .nil
 | _,_,n+1,.cons _ t=>Vals.drop n t
def mC:Option V->Option WU->Prop
 | some v,some u=>RelV v u
 | none,none=>True
 | _,_=>False
def KV{κ:Type}:List (κ×V)->List (κ×WU)->Prop:=Paired λ(p:κ×V)(q:κ×WU)=>p.1=q.1/\RelV p.2 q.2
def kV:Key->V
 | .inl i=> .int i
 | .inr x=> .str x
inductive HO where
  | lst (xs:List V)
  | tup (xs:List V)
  | dK (kvs:List (Key×V)) | dT (kvs:List (List Key×V))
  | set (S:Int->Bool) (n:Nat)
  | ins (C dx:WN) (fs:List (Str×V))
  | own (x:WN)
  | xd (fs:List (Str×V))
  | met (f x:WN)
  | Ni (lo hi:Int)
  | bU (o:Obj) (u:HO)
  | cJ (ps:Array WU)
  | ext (φ:Heap->Prop)
abbrev Hp:=WN->Option HO
def upd(H:Hp)(a:WN)(o:HO):Hp:=λb=>if b=a then some o else H b
theorem az{H:Hp}{a:WN}{o:HO}:upd H a o a=some o:=by unfold upd;rw[if_pos rfl]
theorem av{H:Hp}{a b:WN}{o:HO}(h:b≠a):upd H a o b=H b:=by unfold upd;rw[if_neg h]
theorem FD{H:Hp}{a b:WN}{o u:HO}(h:H a=some o)(h':H b=some u)(d:o≠u):a≠b:=by
 intro e;subst e;rw[h] at h';exact d (Option.some.inj h')
theorem bF{H:Hp}{a b:WN}{o:HO}(h:H a=some o)(h':H b=none):a≠b:=by
 intro e;subst e;rw[h] at h';cases h'
def xF(h:Heap)(a:WN):Prop:=∀o,h.get? a=some o->o.dict=none
theorem xF.new(h:Heap)(us:Array WU):xF (h.push { cls:=.type "tuple",data:=.seq us }) h.objs.size:=λo q=>by
 rw[Heap.get?_push_size _ rfl] at q
 cases q
 rfl
section
variable (P:WS) (w:WV)
def bN(H:Hp)(h:Heap)(a:WN):HO->Prop
 | .lst xs=>xs.length<=W6/\∃(its:List WU)(n:Nat),Vals xs its/\h.get? a=some { cls:=.type "list",data:=.seq its.toArray n }
 | .tup xs=>xs.length<=W6/\∃its:List WU,Vals xs its/\IsTup h a its.toArray/\xF h a
 | .dK kvs=>kvs.length<=W6/\(a == sysModules)=false/\∃vs,KV kvs vs/\h.DictOf (aN P w) a vs
 | .dT kvs=>kvs.length<=W6/\(a == sysModules)=false/\∃xs:List (List Key×WN×WU),
   Paired (λ(p:List Key×V)(q:List Key×WN×WU)=>p.1=q.1/\H q.2.1=some (.tup (p.1.map kV))/\RelV p.2 q.2.2) kvs xs/\
   ∃o es ep,h.get? a=some o/\o.ExactDict/\o.data= .dict es ep/\es.toList=xs.map (entryOfKey (tupleKind (aN P w)))/\(xs.map (·.1)).Nodup
 | .set S n=>h.SetOf (intKind P w) a S n
 | .ins C dx fs=>H dx=some (.own a)/\fs.length<=1000/\dx≠a/\h.get? a=some (PySem.W.instObj C dx)/\
   ∃mA,h.Ns1 dx mA/\(∀f,mC (fs.lookup f) (mA f))/\PySem.Within mA (fs.map (·.1))
 | .own _=>∃o,h.get? a=some o
 | .xd fs=>∃mA,h.Ns1 a mA/\∀f,mC (fs.lookup f) (mA f)
 | .Ni lo hi=>∃t u v,h.get? a=some { cls:=.type "range",data:=.fields #[.int lo t,.int hi u,.int 1 v] }
 | .bU o u=>h.get? a=some o/\bN H h a u
 | .cJ ps=>h.get? a=some { cls:=.none,data:=.fields ps }
 | .met f x=>h.get? a=some (PySem.W.methodObj (.ref f) (.ref x))
 | .ext φ=>φ h/\(∃o,h.get? a=some o)/\∀h1 h2:Heap,φ h1->(∀o,h1.get? a=some o->h2.get? a=some o)->φ h2
def ic(H:Hp)(h:Heap):Prop:=∀a o,H a=some o->bN P w H h a o
end
section
variable {P:WS} {w:WV} {H H':Hp} {h h':Heap} {a:WN} {o:HO}
theorem bN.lt(x:bN P w H h a o):a < h.objs.size:=by
 cases o with
 | lst xs=>obtain⟨_,_,_,_,e⟩:=x;exact Heap.lt_size e
 | tup xs=>obtain⟨_,_,_,p,_⟩:=x;exact p.lt
 | dK kvs=>obtain⟨_,_,_,_,o,_,_,e,_⟩:=x;exact Heap.lt_size e
 | dT kvs=>obtain⟨_,_,_,_,o,_,_,e,_⟩:=x;exact Heap.lt_size e
 | set S n=>obtain⟨o,_,_,_,e,_⟩:=x;exact Heap.lt_size e
 | ins C dx fs=>obtain⟨_,_,_,e,_⟩:=x;exact Heap.lt_size e
 | own y=>obtain⟨_,e⟩:=x;exact Heap.lt_size e
 | xd fs=>obtain⟨_,⟨_,_,_,e,_⟩,_⟩:=x;exact Heap.lt_size e
 | Ni lo hi=>obtain⟨_,_,_,e⟩:=x;exact Heap.lt_size e
 | bU ob u=>obtain⟨e,_⟩:=x;exact Heap.lt_size e
 | cJ ps=>exact Heap.lt_size (show h.get? a=some _ from x)
 | met f y=>exact Heap.lt_size (show h.get? a=some _ from x)
 | ext φ=>obtain⟨_,⟨_,e⟩,_⟩:=x;exact Heap.lt_size e
theorem Paired.GL{α β:Type}{F G:α->β->Prop}:∀{l₁:List α}{l₂:List β},Paired F l₁ l₂->(∀a b,F a b->G a b)->Paired G l₁ l₂
 | _,_,.nil,_=> .nil
 | _,_,.cons r t,f=> .cons (f _ _ r) (Paired.GL t f)
theorem bN.stay(x:bN P w H h a o)(k:∀b u,(b=a\/H b=some (.own a))->h.get? b=some u->h'.get? b=some u)
  (ho:∀b,H b=some (.own a)->H' b=some (.own a))(ht:∀b xs,H b=some (.tup xs)->H' b=some (.tup xs)):bN P w H' h' a o:=by
 induction o with
 | lst xs=>obtain⟨z,its,n,r,e⟩:=x;exact⟨z,its,n,r,k _ _ (.inl rfl) e⟩
 | tup xs=>obtain⟨z,us,r,⟨ob,e,c⟩,nd⟩:=x;exact⟨z,us,r,⟨ob,k _ _ (.inl rfl) e,c⟩,λo q=>by rw[k _ _ (.inl rfl) e] at q;cases q;exact nd _ e⟩
 | dK kvs=>obtain⟨z,y,vs,r,ob,es,ep,e,c⟩:=x;exact⟨z,y,vs,r,ob,es,ep,k _ _ (.inl rfl) e,c⟩
 | dT kvs=>
  obtain⟨z,y,xs,r,ob,es,ep,e,c⟩:=x
  exact⟨z,y,xs,Paired.GL r λp q z=>⟨z.1,ht _ _ z.2.1,z.2.2⟩,ob,es,ep,k _ _ (.inl rfl) e,c⟩
 | set S n=>obtain⟨ob,es,ep,t,e,c⟩:=x;exact⟨ob,es,ep,t,k _ _ (.inl rfl) e,c⟩
 | ins C dx fs=>
  obtain⟨d,z,ne,e,mA,⟨od,es,ep,e2,c⟩,r⟩:=x
  exact⟨ho _ d,z,ne,k _ _ (.inl rfl) e,mA,⟨od,es,ep,k _ _ (.inr d) e2,c⟩,r⟩
 | own y=>obtain⟨ob,e⟩:=x;exact⟨ob,k _ _ (.inl rfl) e⟩
 | xd fs=>obtain⟨mA,⟨od,es,ep,e,c⟩,r⟩:=x;exact⟨mA,⟨od,es,ep,k _ _ (.inl rfl) e,c⟩,r⟩
 | Ni lo hi=>obtain⟨t,u,v,e⟩:=x;exact⟨t,u,v,k _ _ (.inl rfl) e⟩
 | bU ob u ih=>obtain⟨e,q⟩:=x;exact⟨k _ _ (.inl rfl) e,ih q⟩
 | cJ ps=>
  have e:h.get? a=some { cls:=.none,data:=.fields ps }:=x
  show h'.get? a=some { cls:=.none,data:=.fields ps }
  exact k a _ (.inl rfl) e
 | met f y=>
  have e:h.get? a=some (PySem.W.methodObj (.ref f) (.ref y)):=x
  show h'.get? a=some (PySem.W.methodObj (.ref f) (.ref y))
  exact k a _ (.inl rfl) e
 | ext φ=>obtain⟨p,⟨o,e⟩,st⟩:=x;exact⟨st _ _ p λo q=>k _ _ (.inl rfl) q,⟨o,k _ _ (.inl rfl) e⟩,st⟩
theorem ic.lt(x:ic P w H h)(e:H a=some o):a < h.objs.size:=(x a o e).lt
theorem ic.fresh(x:ic P w H h)(e:h.objs.size<=a):H a=none:=by
 cases q:H a with
 | none=>rfl
 | some u=>exact absurd (Nat.lt_of_lt_of_le (x.lt q) e) (Nat.lt_irrefl _)
theorem ic.kept(x:ic P w H h)(k:∀b u,h.get? b=some u->h'.get? b=some u):ic P w H h':=λa o e=>
 (x a o e).stay (λb u _ q=>k b u q) (λ_ q=>q) λ_ _ q=>q
theorem ic.laid(x:ic P w H h)(k:∀b u,h.get? b=some u->h'.get? b=some u)(hp:h.objs.size<=a)(new:bN P w (upd H a o) h' a o):ic P w (upd H a o) h':=λb u e=>by
 have hn:=x.fresh hp
 by_cases hb:b=a
 ·subst hb;rw[az] at e;cases e;exact new
 ·rw[av hb] at e
  exact(x b u e).stay (λc v _ q=>k c v q) (λc q=>by rw[av (bF q hn)];exact q) λc xs q=>by rw[av (bF q hn)];exact q
end
def Rd(H:Hp)(a:WN)(u:HO):Prop:=H a=some u\/∃o,H a=some (.bU o u)
theorem Rd.ok{P:WS}{w:WV}{H:Hp}{h:Heap}{a:WN}{u:HO}(r:Rd H a u)(x:ic P w H h):bN P w H h a u:=by
 rcases r with r | ⟨o,r⟩
 ·exact x a u r
 ·obtain⟨_,q⟩:=x a _ r
  exact q
def KR:Option HO->Prop
 | some (.lst _)=>True
 | some (.dK _)=>True
 | some (.dT _)=>True
 | some (.set _ _)=>True
 | some (.ins _ _ _)=>True
 | some (.ext _)=>True
 | _=>False
section
variable {P:WS} {w:WV} {H:Hp} {h h':Heap} {x e:WN} {o':HO}
theorem ic.write(ok:ic P w H h)(mu:KR (H x))(he:e=x\/H e=some (.own x))(k:∀b u,b≠e->h.get? b=some u->h'.get? b=some u)(Ky:∃u,h'.get? e=some u)
  (new:bN P w (upd H x o') h' x o'):ic P w (upd H x o') h':=λb u q=>by
 have KS:∀c y,H c=some (.own y)->c≠x:=λc y r z=>by subst z;rw[r] at mu;exact mu
 have Oe:∀c xs,H c=some (.tup xs)->c≠x:=λc xs r z=>by subst z;rw[r] at mu;exact mu
 by_cases hb:b=x
 ·subst hb;rw[az] at q;cases q;exact new
 ·rw[av hb] at q
  by_cases GN:b=e
  ·have q':H b=some (.own x):=by
    rcases he with z | z
    ·exact absurd (GN.trans z) hb
    ·rw[GN];exact z
   rw[q] at q';cases q'
   obtain⟨v,hv⟩:=Ky
   exact⟨v,by rw[GN];exact hv⟩
  ·refine(ok b u q).stay (λc v hc r=>k c v ?_ r) (λc r=>by rw[av (KS c b r)];exact r) λc xs r=>by rw[av (Oe c xs r)];exact r
   rcases hc with rfl | hc
   ·exact GN
   ·rintro rfl
    rcases he with z | z
    ·exact KS c b hc z
    ·rw[hc] at z;cases z;exact hb rfl
end
structure Un(fs ex:List WN)(H H':Hp)(h h':Heap):Prop where
 keep:∀b o,h.get? b=some o->H b=none->b∉fs->b∉ex->h'.get? b=some o
 slot:∀b o,h.get? b=some o->H b=none->b∈fs->b∉ex->∃sl,h'.get? b=some { o with slots:=sl }
 free:∀b o,h.get? b=some o->H b=none->b∉ex->H' b=none
 there:∀b o,h.get? b=some o->b∉ex->∃o',h'.get? b=some o'
 tups:∀b xs,H b=some (.tup xs)->H' b=some (.tup xs)
 f6:∀b o u,H b=some (.bU o u)->H' b=some (.bU o u)
 ir:∀b ps,H b=some (.cJ ps)->∃more,H' b=some (.cJ (ps++more))
section
variable {fs fs' ex ex':List WN} {H H1 H2:Hp} {h h1 h2 h':Heap} {a x e:WN} {o:HO}
theorem Un.any(u:Un fs ex H H1 h h1){b:WN}{ob:Obj}(q:h.get? b=some ob)(n:H b=none)(hx:b∉ex):∃sl,h1.get? b=some { ob with slots:=sl }:=by
 by_cases hb:b∈fs
 ·exact u.slot b ob q n hb hx
 ·exact⟨ob.slots,u.keep b ob q n hb hx⟩
theorem Un.kept(k:∀b u,h.get? b=some u->h'.get? b=some u):Un fs ex H H h h' :=
 ⟨λb ob q _ _ _=>k b ob q,λb ob q _ _ _=>⟨ob.slots,k b ob q⟩,λ_ _ _ n _=>n,λb ob q _=>⟨ob,k b ob q⟩,λ_ _ q=>q,λ_ _ _ q=>q,λ_ ps q=>⟨#[],by rw[q];simp⟩⟩
theorem Un.refl:Un fs ex H H h h:=Un.kept λ_ _ q=>q
theorem Un.laid(k:∀b u,h.get? b=some u->h'.get? b=some u)(hp:h.objs.size<=a)(hn:H a=none):Un fs ex H (upd H a o) h h' where
 keep:=λb u q _ _ _=>k b u q
 slot:=λb u q _ _ _=>⟨u.slots,k b u q⟩
 free:=λb u q n _=>by rw[av (Nat.ne_of_lt (Nat.lt_of_lt_of_le (Heap.lt_size q) hp))];exact n
 there:=λb u q _=>⟨u,k b u q⟩
 tups:=λb xs q=>by rw[av (bF q hn)];exact q
 f6:=λb u xs q=>by rw[av (bF q hn)];exact q
 ir:=λb ps q=>⟨#[],by rw[av (bF q hn),q];simp⟩
theorem Un.write(mu:KR (H x))(he:e=x\/H e=some (.own x))(k:∀b u,b≠e->h.get? b=some u->h'.get? b=some u)(Ky:∃u,h'.get? e=some u):Un fs ex H (upd H x o) h h':=by
 have hx:∀b,H b=none->b≠x:=λb n z=>by subst z;rw[n] at mu;exact mu
 have hb:∀b,H b=none->b≠e:=λb n z=>by
  subst z
  rcases he with r | r
  ·exact hx b n r
  ·rw[n] at r;cases r
 have hm:∀b u,H b=some u->¬KR (some u)->b≠x:=λb u q nm z=>by subst z;rw[q] at mu;exact nm mu
 refine⟨λb u q n _ _=>k b u (hb b n) q,λb u q n _ _=>⟨u.slots,k b u (hb b n) q⟩,λb u q n _=>by rw[av (hx b n)];exact n,λb u q _=>?_,
  λb xs q=>by rw[av (hm b _ q λz=>z)];exact q,λb u xs q=>by rw[av (hm b _ q λz=>z)];exact q,λb ps q=>⟨#[],by rw[av (hm b _ q λz=>z),q];simp⟩⟩
 by_cases GN:b=e
 ·subst GN;exact Ky
 ·exact⟨u,k b u GN q⟩
end
def Nj(h:Heap)(H:Hp):List WN:=(List.range h.objs.size).filter λa=>(H a).isSome
def qd(h:Heap)(H:Hp):Heap:=PySem.W.hideAll h (Nj h H)
theorem xG(h:Heap)(H:Hp):(qd h H).objs.size=h.objs.size:=PySem.W.hideAll_size _ _
theorem zr{h:Heap}{H:Hp}{b:WN}{o:Obj}(e:h.get? b=some o)(n:H b=none):(qd h H).get? b=some o :=
 PySem.W.hideAll_get _ e λhm=>by
  have q:(H b).isSome=true:=(List.mem_filter.mp hm).2
  rw[n] at q;simp at q
theorem C3{h:Heap}{H:Hp}{b:WN}{o:Obj}(e:(qd h H).get? b=some o):h.get? b=some o/\H b=none:=by
 have e':h.get? b=some o:=PySem.W.of_hideAll (Nj h H) e
 refine⟨e',?_⟩
 cases q:H b with
 | none=>rfl
 | some x=>
  have hm:b∈Nj h H:=List.mem_filter.mpr ⟨List.mem_range.mpr (Heap.lt_size e'),by simp[q]⟩
  have z:(qd h H).get? b=none:=PySem.W.hideAll_none (Nj h H) hm
  rw[z] at e;cases e
end L2
namespace L2
open PySem PySem.Spec PyProof.Rows
structure Mod(K:PySem.W.Frag)(mg:Str->Option WU)(base:Heap):Prop where
 GP:K.In base
 glob:base.Ns W5 mg
 blt:∃mb,base.Ns builtinsNs mb/\∀x:Str,x≠"__name__"->mb x=WY x
 nolimit:base.NoLimit
structure Cx where
 prog:WS
 w:WV
 K:PySem.W.Frag
 mg:Str->Option WU
 base:Heap
 A:WO
 N:List Str
 s₀:WT
 H₀:Hp
 env:Env
 outer:List Env
 stack:List Env
 ex:List WN
 fn:Str->Bool
 calm:Bool
 pn:List (WN×Obj)
 xe:WU->WT->Prop
def frs(l:List Env):List WN:=l.filterMap (·.frame)
abbrev Cx.fs(X:Cx):List WN:=frs X.outer
def Of(sc:Scope)(x:Str):Prop:=sc.names.lookup x=some .local\/sc.names.lookup x=some .cell\/sc.names.lookup x=some .free
def Loc(sc:Scope)(x:Str):Prop:=sc.names.lookup x=some .local\/sc.names.lookup x=some .cell
def Look(env:Env)(h:Heap)(m:Str->Option WU)(x:Str)(u:WU):Prop :=
 (env.kindOf x=some .local/\m x=some u)\/((env.kindOf x=some .cell\/env.kindOf x=some .free)/\∃c,env.cells.lookup x=some c/\h.IsCell c (some u))
structure Cx.Ok(X:Cx):Prop where
 mod:Mod X.K X.mg X.base
 kind:X.env.scope.kind= .function
 glob:X.env.globals=W5
 blt:X.env.builtins=builtinsNs
 above:X.s₀.heap.objs.size<=X.env.locals
 inj:∀x y c,X.env.cells.lookup x=some c->X.env.cells.lookup y=some c->x=y
 has:∀x,(X.env.kindOf x=some .cell\/X.env.kindOf x=some .free)->∃c,X.env.cells.lookup x=some c
 Kz:∀x c,X.fn x=true->X.env.cells.lookup x=some c->X.s₀.heap.objs.size<=c
 hd:X.calm=true->X.A.handled=none
 frames:X.A.frames=some X.stack
 stk:X.stack=X.outer\/(X.stack=X.env::X.outer/\X.env.frame=some X.env.locals)
 Og:∀b∈X.ex,b≠X.env.locals/\∀x c,X.env.cells.lookup x=some c->c≠b
 bs:∀b o,X.base.get? b=some o->X.s₀.heap.get? b=some o/\X.H₀ b=none
 C0:X.base.objs.size<=X.s₀.heap.objs.size
 xH:∀b o,X.base.get? b=some o->b∉X.ex
 zt:∀b∈X.ex,b∉X.fs
 jr:X.s₀.heap.FunFrames X.base X.outer
 C4:∀b∈X.fs,X.H₀ b=none
structure Inv(X:Cx)(pins:List (WN×Obj))(σ:List (Option V))(H:Hp)(s:WT):Prop where
 ok:X.Ok
 os:s.os=X.s₀.os
 bare:AllBare s.gens
 base:Un X.fs X.ex X.H₀ H X.s₀.heap s.heap
 loc:∃m,s.heap.Ns X.env.locals m/\∀(i:Nat)(x:Str)(v:V),X.N[i]? =some x->σ[i]? =some (some v)->Of X.env.scope x->∃u,RelV v u/\Look X.env s.heap m x u
 cell:∀x c,X.env.cells.lookup x=some c->∃v,s.heap.IsCell c v
 free:H X.env.locals=none
 d_:∀x c,X.env.cells.lookup x=some c->H c=none
 pin:∀p∈X.pn++pins,s.heap.get? p.1=some p.2/\H p.1=none/\p.1≠X.env.locals/\p.1∉X.fs/\∀v,p.2.data≠.cell v
 hok:ic X.prog X.w H s.heap
 len:σ.length=X.N.length
section
variable {X:Cx} {pins:List (WN×Obj)} {σ:List (Option V)} {H H':Hp} {s:WT} {h':Heap}
theorem Cx.Ok.Oh(ok:X.Ok){b:WN}{o:Obj}(e:X.base.get? b=some o):b∉X.fs:=λhb=>by
 have:=(ok.jr.mem hb).1
 rw[e] at this;cases this
theorem Inv.bs(I:Inv X pins σ H s):∀b o,X.base.get? b=some o->s.heap.get? b=some o/\H b=none:=λb o e=>
 ⟨I.base.keep b o (I.ok.bs b o e).1 (I.ok.bs b o e).2 (I.ok.Oh e) (I.ok.xH b o e),I.base.free b o (I.ok.bs b o e).1 (I.ok.bs b o e).2 (I.ok.xH b o e)⟩
theorem Inv.bk(I:Inv X pins σ H s):∀b o,X.base.get? b=some o->s.heap.get? b=some o:=λb o e=>(I.bs b o e).1
theorem Inv.mod(I:Inv X pins σ H s):Mod X.K X.mg X.base:=I.ok.mod
theorem Inv.zj(I:Inv X pins σ H s):X.K.In s.heap:=I.ok.mod.GP.keeps I.bk
theorem Inv.lt(I:Inv X pins σ H s):X.env.locals < s.heap.objs.size:=let ⟨_,hn,_⟩:=I.loc;hn.lt
theorem Inv.sz(I:Inv X pins σ H s):X.s₀.heap.objs.size<=s.heap.objs.size:=Nat.le_trans I.ok.above (Nat.le_of_lt I.lt)
theorem Inv.Oi(I:Inv X pins σ H s){a:WN}(h:s.heap.objs.size<=a):a∉X.fs:=λhb=>by
 obtain⟨_,o,ho,_⟩:=I.ok.jr.mem hb
 exact absurd (Nat.lt_of_lt_of_le (Heap.lt_size ho) (Nat.le_trans I.sz h)) (Nat.lt_irrefl _)
theorem Inv.C5(I:Inv X pins σ H s):∀x c,X.env.cells.lookup x=some c->c≠X.env.locals:=λx c e z=>by
 obtain⟨v,o,ho,hd⟩:=I.cell x c e
 obtain⟨m,⟨o',es,ep,ho',hd',_⟩,_⟩:=I.loc
 rw[z,ho'] at ho;cases ho;rw[hd'] at hd;cases hd
theorem Inv.jr(I:Inv X pins σ H s):s.heap.FunFrames X.base X.outer:=by
 have all:∀(l:List Env),(∀b∈frs l,b∈X.fs)->X.s₀.heap.FunFrames X.base l->s.heap.FunFrames X.base l:=by
  intro l
  induction l with
  | nil=>intro _ _;trivial
  | cons env r ih=>
   intro hs hl
   obtain⟨hk,⟨L,o,hf,hn,ho,hd⟩,hr⟩:=hl
   have hL:L∈X.fs:=hs L (by unfold frs;rw[List.filterMap_cons,hf];exact List.mem_cons_self)
   obtain⟨sl,e⟩:=I.base.slot L o ho (I.ok.C4 L hL) hL λz=>I.ok.zt L z hL
   exact⟨hk,⟨L,_,hf,hn,e,hd⟩,ih (λb hb=>hs b (by unfold frs;rw[List.filterMap_cons,hf];exact List.mem_cons_of_mem _ hb)) hr⟩
 exact all X.outer (λ_ hb=>hb) I.ok.jr
theorem Inv.stack(I:Inv X pins σ H s):s.heap.FunFrames X.base X.stack:=by
 rcases I.ok.stk with e | ⟨e,hf⟩
 ·rw[e];exact I.jr
 ·rw[e]
  obtain⟨m,hn,_⟩:=I.loc
  refine .cons (by rw[I.ok.kind];decide) hf hn ?_ I.jr
  exact Heap.get?_none_of_le (Nat.le_trans I.ok.C0 I.ok.above)
theorem Inv.mE(I:Inv X pins σ H s):∀b∈frs X.stack,b∈X.env.locals::X.fs:=λb hb=>by
 rcases I.ok.stk with e | ⟨e,hf⟩
 ·rw[e] at hb;exact List.mem_cons_of_mem _ hb
 ·rw[e] at hb
  unfold frs at hb
  rw[List.filterMap_cons,hf] at hb
  exact hb
theorem Inv.jM(I:Inv X pins σ H s):∀b∈frs X.stack,H b=none:=λb hb=>by
 rcases List.mem_cons.mp (I.mE b hb) with e | hb
 ·rw[e];exact I.free
 ·obtain⟨_,o,ho,_⟩:=I.ok.jr.mem hb
  exact I.base.free b o ho (I.ok.C4 b hb) λz=>I.ok.zt b z hb
theorem Inv.step{g':Array GenState}{t':Nat}{d':Drawn}{ch:List WN}(I:Inv X pins σ H s)
  (hch:∀b∈ch,(b∈X.ex\/X.s₀.heap.objs.size<=b)/\b≠X.env.locals/\(∀x c,X.env.cells.lookup x=some c->c≠b)/\∀p∈X.pn++pins,p.1≠b)
  (keep:∀b o,b≠X.env.locals->b∉X.fs->b∉ch->s.heap.get? b=some o->H b=none->h'.get? b=some o)
  (slot:∀b o,b≠X.env.locals->b∈X.fs->b∉ch->s.heap.get? b=some o->H b=none->∃sl,h'.get? b=some { o with slots:=sl })(free:∀b o,b∉ch->s.heap.get? b=some o->H b=none->H' b=none)
  (there:∀b o,b∉ch->s.heap.get? b=some o->∃o',h'.get? b=some o')
  (tups:∀b xs,H b=some (.tup xs)->H' b=some (.tup xs))(f6:∀b o u,H b=some (.bU o u)->H' b=some (.bU o u))(ir:∀b ps,H b=some (.cJ ps)->∃more,H' b=some (.cJ (ps++more)))
  (ns:∀m,s.heap.Ns X.env.locals m->h'.Ns X.env.locals m)(hok:ic X.prog X.w H' h')(hg:AllBare g') :
  Inv X pins σ H' { s with heap:=h',gens:=g',drawn:=d',toks:=t' }:=by
 have Ro:∀b o,X.s₀.heap.get? b=some o->b≠X.env.locals:=λb o e=>Nat.ne_of_lt (Nat.lt_of_lt_of_le (Heap.lt_size e) I.ok.above)
 have Nk:∀b o,X.s₀.heap.get? b=some o->b∉X.ex->b∉ch:=λb o e hx hb=>by
  rcases(hch b hb).1 with z | z
  ·exact hx z
  ·exact absurd (Nat.lt_of_lt_of_le (Heap.lt_size e) z) (Nat.lt_irrefl _)
 have cellK:∀x c,X.env.cells.lookup x=some c->∀v,s.heap.IsCell c v->h'.IsCell c v:=λx c e v ⟨o,ho,hd⟩=>by
  have GQ:c∉ch:=λz=>(hch c z).2.2.1 x c e rfl
  by_cases hc:c∈X.fs
  ·obtain⟨sl,q⟩:=slot c o (I.C5 x c e) hc GQ ho (I.d_ x c e)
   exact⟨_,q,hd⟩
  ·exact⟨o,keep c o (I.C5 x c e) hc GQ ho (I.d_ x c e),hd⟩
 refine⟨I.ok,I.os,hg,⟨λb o e n hb hx=>?_,λb o e n hb hx=>?_,λb o e n hx=>?_,λb o e hx=>?_,λb xs e=>tups b xs (I.base.tups b xs e),λb o xs e=>f6 b o xs (I.base.f6 b o xs e),λb ps e=>?_⟩,?_,λx c e=>?_,?_,λx c e=>?_,λp hp=>?_,hok,I.len⟩
 ·exact keep b o (Ro b o e) hb (Nk b o e hx) (I.base.keep b o e n hb hx) (I.base.free b o e n hx)
 ·obtain⟨sl,e1⟩:=I.base.slot b o e n hb hx
  obtain⟨Oj,e2⟩:=slot b _ (Ro b o e) hb (Nk b o e hx) e1 (I.base.free b o e n hx)
  exact⟨Oj,e2⟩
 ·obtain⟨o',e1⟩:=I.base.there b o e hx
  exact free b o' (Nk b o e hx) e1 (I.base.free b o e n hx)
 ·obtain⟨o',e1⟩:=I.base.there b o e hx
  exact there b o' (Nk b o e hx) e1
 ·obtain⟨m1,e1⟩:=I.base.ir b ps e
  obtain⟨m2,e2⟩:=ir b _ e1
  exact⟨m1++m2,by rw[e2,Array.append_assoc]⟩
 ·obtain⟨m,hn,hl⟩:=I.loc
  refine⟨m,ns m hn,λi x v e1 e2 e3=>?_⟩
  obtain⟨u,r,l⟩:=hl i x v e1 e2 e3
  refine⟨u,r,?_⟩
  rcases l with l | ⟨k,c,e,z⟩
  ·exact .inl l
  ·exact .inr ⟨k,c,e,cellK x c e _ z⟩
 ·obtain⟨v,z⟩:=I.cell x c e
  exact⟨v,cellK x c e v z⟩
 ·obtain⟨m,⟨o,_,_,ho,_⟩,_⟩:=I.loc
  exact free _ o (λz=>(hch _ z).2.1 rfl) ho I.free
 ·obtain⟨v,o,ho,hd⟩:=I.cell x c e
  exact free c o (λz=>(hch c z).2.2.1 x c e rfl) ho (I.d_ x c e)
 ·obtain⟨e,n,ne,nf,d⟩:=I.pin p hp
  have GQ:p.1∉ch:=λz=>(hch p.1 z).2.2.2 p hp rfl
  exact⟨keep p.1 p.2 ne nf GQ e n,free p.1 p.2 GQ e n,ne,nf,d⟩
theorem Inv.un{t':Nat}(I:Inv X pins σ H s)(u:Un X.fs [] H H' s.heap h')(hok:ic X.prog X.w H' h'):Inv X pins σ H' { s with heap:=h',toks:=t' }:=by
 obtain⟨m,⟨o,es,ep,ho,r⟩,_⟩:=id I.loc
 obtain⟨sl,hL⟩:=u.any ho I.free (by simp)
 exact I.step (g':=s.gens) (d':=s.drawn) (ch:=[]) (λ_ z=>nomatch z) (λb o _ hb _ e n=>u.keep b o e n hb (by simp)) (λb o _ hb _ e n=>u.slot b o e n hb (by simp)) (λb o _ e n=>u.free b o e n (by simp)) (λb o _ e=>u.there b o e (by simp)) u.tups u.f6 u.ir (λm' hm=>by
  obtain⟨o',es',rG,ho',r'⟩:=hm
  rw[ho] at ho';cases ho'
  exact⟨_,es',rG,hL,r'⟩) hok I.bare
theorem Inv.call{g':Array GenState}{t':Nat}{d':Drawn}{ch:List WN}(I:Inv X pins σ H s)(u:Un (frs X.stack) ch H H' s.heap h')(hok:ic X.prog X.w H' h')(hg:AllBare g')
  (hch:∀b∈ch,(b∈X.ex\/X.s₀.heap.objs.size<=b)/\b≠X.env.locals/\(∀x c,X.env.cells.lookup x=some c->c≠b)/\∀p∈X.pn++pins,p.1≠b) :
  Inv X pins σ H' { s with heap:=h',gens:=g',drawn:=d',toks:=t' }:=by
 obtain⟨m,⟨o,es,ep,ho,r⟩,_⟩:=id I.loc
 obtain⟨sl,hL⟩:=u.any ho I.free λz=>(hch _ z).2.1 rfl
 exact I.step (ch:=ch) hch (λb o hL hb hc e n=>u.keep b o e n (λz=>(List.mem_cons.mp (I.mE b z)).elim hL hb) hc) (λb o _ _ hc e n=>u.any e n hc) (λb o hc e n=>u.free b o e n hc) (λb o hc e=>u.there b o e hc) u.tups u.f6 u.ir (λm' hm=>by
  obtain⟨o',es',rG,ho',r'⟩:=hm
  rw[ho] at ho';cases ho'
  exact⟨_,es',rG,hL,r'⟩) hok hg
theorem Inv.turned{t':Nat}{it:WN}(I:Inv X pins σ H s)(k:∀b o,b≠it->s.heap.get? b=some o->h'.get? b=some o)(hn:H it=none)(hL:it≠X.env.locals)
  (h1:it∈X.ex\/X.s₀.heap.objs.size<=it)(h2:∀x c,X.env.cells.lookup x=some c->c≠it)(h3:∀p∈X.pn++pins,p.1≠it):Inv X pins σ H { s with heap:=h',toks:=t' }:=by
 have Rp:∀b u,H b=some u->b≠it:=λb u e z=>by rw[z,hn] at e;cases e
 refine I.step (g':=s.gens) (d':=s.drawn) (ch:=[it]) (λb hb=>?_) (λb o _ _ hc e _=>k b o (λz=>hc (by simp[z])) e) (λb o _ _ hc e _=>⟨o.slots,k b o (λz=>hc (by simp[z])) e⟩) (λ_ _ _ _ n=>n)
  (λb o hc e=>⟨o,k b o (λz=>hc (by simp[z])) e⟩) (λ_ _ e=>e) (λ_ _ _ e=>e) (λb ps e=>⟨#[],by rw[e];simp⟩) (λm hm=>?_) (λb u e=>?_) I.bare
 ·have e:b=it:=by simpa using hb
  subst e
  exact⟨h1,hL,h2,h3⟩
 ·obtain⟨o,es,ep,ho,r⟩:=hm
  exact⟨o,es,ep,k _ o (Ne.symm hL) ho,r⟩
 ·refine(I.hok b u e).stay (λc v hc q=>k c v ?_ q) (λ_ q=>q) λ_ _ q=>q
  rcases hc with z | z
  ·rw[z];exact Rp b u e
  ·exact Rp c _ z
theorem Inv.tok(I:Inv X pins σ H s)(t:Nat):Inv X pins σ H { s with toks:=t }:=I.un (h':=s.heap) (t':=t) Un.refl I.hok
theorem Inv.kept{t':Nat}(I:Inv X pins σ H s)(k:∀b u,s.heap.get? b=some u->h'.get? b=some u):Inv X pins σ H { s with heap:=h',toks:=t' }:=I.un (Un.kept k) (I.hok.kept k)
theorem Inv.laid{a:WN}{o:HO}{t':Nat}(I:Inv X pins σ H s)(k:∀b u,s.heap.get? b=some u->h'.get? b=some u)(hp:s.heap.objs.size<=a)(new:bN X.prog X.w (upd H a o) h' a o) :
  Inv X pins σ (upd H a o) { s with heap:=h',toks:=t' }:=I.un (Un.laid k hp (I.hok.fresh hp)) (I.hok.laid k hp new)
theorem Inv.write{x e:WN}{o:HO}{t':Nat}(I:Inv X pins σ H s)(mu:KR (H x))(he:e=x\/H e=some (.own x))(k:∀b u,b≠e->s.heap.get? b=some u->h'.get? b=some u)(Ky:∃u,h'.get? e=some u)
  (new:bN X.prog X.w (upd H x o) h' x o):Inv X pins σ (upd H x o) { s with heap:=h',toks:=t' }:=I.un (Un.write mu he k Ky) (I.hok.write mu he k Ky new)
theorem Inv.vY{iu:List (WN×Obj)}(I:Inv X pins σ H s)(h:∀p∈iu,s.heap.get? p.1=some p.2/\H p.1=none/\p.1≠X.env.locals/\p.1∉X.fs/\∀v,p.2.data≠.cell v):Inv X iu σ H s :=
 ⟨I.ok,I.os,I.bare,I.base,I.loc,I.cell,I.free,I.d_,λp hp=>(List.mem_append.mp hp).elim (λz=>I.pin p (List.mem_append_left _ z)) (h p),I.hok,I.len⟩
theorem mF{N:List Str}(hN:N.Nodup){i j:Nat}{x:Str}(a:N[i]? =some x)(b:N[j]? =some x):i=j:=by
 obtain⟨h1,e1⟩:=List.getElem?_eq_some_iff.mp a
 obtain⟨h2,e2⟩:=List.getElem?_eq_some_iff.mp b
 exact(List.getElem_inj hN).mp (e1.trans e2.symm)
theorem oY{M:Model}{A:WO}{E:WU->WT->Prop}{i:Nat}{x:Str}{v:V}{u:WU}{Q:Unit->WT->Prop}(I:Inv X pins σ H s)(hN:X.N.Nodup)(hi:X.N[i]? =some x)(hx:Loc X.env.scope x)(r:RelV v u)
  (h:∀s',Inv X pins (σ.set i (some v)) H s'->(∃a,Heap.SameBut a s.heap s'.heap/\(a=X.env.locals\/X.env.cells.lookup x=some a))->Q () s')(hf:X.fn x=true\/X.env.scope.names.lookup x=some .local:=by first | exact .inl rfl | exact .inr rfl | assumption):W8 M A (storeName X.env x u) Q E s:=by
 obtain⟨m,hn,hl⟩:=id I.loc
 have hcls:(X.env.scope.kind == .class||(X.env.scope.kind == .module&&X.env.locals != X.env.globals))=false:=by rw[I.ok.kind];rfl
 have KU:i < σ.length:=by rw[I.len];exact(List.getElem?_eq_some_iff.mp hi).1
 have C5:=I.C5
 have tracked:∀{a:WN}{h':Heap},(∃o,s.heap.get? a=some o/\H a=none)->Heap.SameBut a s.heap h'->ic X.prog X.w H h':=λ{a h'} ha hs b ob e=>by
  obtain⟨_,_,hfree⟩:=ha
  refine(I.hok b ob e).stay (λc w' hc q=>(hs.2 c ?_).trans q) (λ_ q=>q) λ_ _ q=>q
  rintro rfl
  rcases hc with rfl | hc
  ·rw[hfree] at e;cases e
  ·rw[hfree] at hc;cases hc
 rcases hx with hk | hk
 ·refine wpAny_storeName_local hk hn (λh' hn' hs=>?_) hcls
  obtain⟨oL,_,_,Rq,_⟩:=id hn
  refine h _ ⟨I.ok,I.os,I.bare,⟨λb o e n hb hx=>?_,λb o e n hb hx=>?_,I.base.free,λb o e hx=>?_,I.base.tups,I.base.f6,I.base.ir⟩,⟨_,hn',λj y v' e1 e2 e3=>?_⟩,λy c e=>?_,I.free,I.d_,λp hp=>?_,tracked ⟨oL,Rq,I.free⟩ hs,by simpa using I.len⟩ ⟨_,hs,.inl rfl⟩
  ·exact(hs.2 b (Nat.ne_of_lt (Nat.lt_of_lt_of_le (Heap.lt_size e) I.ok.above))).trans (I.base.keep b o e n hb hx)
  ·obtain⟨sl,e1⟩:=I.base.slot b o e n hb hx
   exact⟨sl,(hs.2 b (Nat.ne_of_lt (Nat.lt_of_lt_of_le (Heap.lt_size e) I.ok.above))).trans e1⟩
  ·obtain⟨o',e1⟩:=I.base.there b o e hx
   exact⟨o',(hs.2 b (Nat.ne_of_lt (Nat.lt_of_lt_of_le (Heap.lt_size e) I.ok.above))).trans e1⟩
  ·by_cases hj:j=i
   ·subst hj
    rw[hi] at e1;cases e1
    rw[List.getElem?_set_self KU] at e2
    cases e2
    exact⟨u,r,.inl ⟨hk,by simp⟩⟩
   ·rw[List.getElem?_set_ne (Ne.symm hj)] at e2
    obtain⟨u',r',q⟩:=hl j y v' e1 e2 e3
    refine⟨u',r',?_⟩
    rcases q with ⟨k,e⟩ | ⟨k,c,e,z⟩
    ·refine .inl ⟨k,?_⟩
     have:y≠x:=λe=>hj (mF hN e1 (e ▸ hi))
     simp[this,e]
    ·exact .inr ⟨k,c,e,z.sameBut hs (C5 y c e)⟩
  ·obtain⟨w',z⟩:=I.cell y c e
   exact⟨w',z.sameBut hs (C5 y c e)⟩
  ·obtain⟨e,n,ne,nf,d⟩:=I.pin p hp
   exact⟨(hs.2 p.1 ne).trans e,n,ne,nf,d⟩
 ·have hfn:X.fn x=true:=by
   rcases hf with z | z
   ·exact z
   ·rw[z] at hk;cases hk
  obtain⟨c,hc⟩:=I.ok.has x (.inl hk)
  obtain⟨w',z⟩:=I.cell x c hc
  refine wpAny_storeName_cell I.ok.kind hk hc z (λh' hc' hs=>?_)
  obtain⟨oc,hoc,Ol⟩:=id z
  refine h { s with heap:=h' } ⟨I.ok,I.os,I.bare,⟨λb o e n hb hx=>?_,λb o e n hb hx=>?_,I.base.free,λb o e hx=>?_,I.base.tups,I.base.f6,I.base.ir⟩,⟨m,hn.sameBut hs (Ne.symm (C5 x c hc)),λj y v' e1 e2 e3=>?_⟩,λy c' e=>?_,I.free,I.d_,λp hp=>?_,tracked ⟨oc,hoc,I.d_ x c hc⟩ hs,by simpa using I.len⟩ ⟨c,hs,.inr hc⟩
  ·exact(hs.2 b (Nat.ne_of_lt (Nat.lt_of_lt_of_le (Heap.lt_size e) (I.ok.Kz x c hfn hc)))).trans (I.base.keep b o e n hb hx)
  ·obtain⟨sl,e1⟩:=I.base.slot b o e n hb hx
   exact⟨sl,(hs.2 b (Nat.ne_of_lt (Nat.lt_of_lt_of_le (Heap.lt_size e) (I.ok.Kz x c hfn hc)))).trans e1⟩
  ·obtain⟨o',e1⟩:=I.base.there b o e hx
   exact⟨o',(hs.2 b (Nat.ne_of_lt (Nat.lt_of_lt_of_le (Heap.lt_size e) (I.ok.Kz x c hfn hc)))).trans e1⟩
  ·by_cases hj:j=i
   ·subst hj
    rw[hi] at e1;cases e1
    rw[List.getElem?_set_self KU] at e2
    cases e2
    exact⟨u,r,.inr ⟨.inl hk,c,hc,hc'⟩⟩
   ·rw[List.getElem?_set_ne (Ne.symm hj)] at e2
    obtain⟨u',r',q⟩:=hl j y v' e1 e2 e3
    refine⟨u',r',?_⟩
    rcases q with q | ⟨k,c',e,z'⟩
    ·exact .inl q
    ·refine .inr ⟨k,c',e,z'.sameBut hs ?_⟩
     rintro rfl
     exact hj (mF hN e1 (I.ok.inj _ _ _ e hc ▸ hi))
  ·by_cases hcc:c'=c
   ·subst hcc;exact⟨_,hc'⟩
   ·obtain⟨w2,z2⟩:=I.cell y c' e
    exact⟨w2,z2.sameBut hs hcc⟩
  ·obtain⟨e,n,ne,nf,d⟩:=I.pin p hp
   refine⟨(hs.2 p.1 ?_).trans e,n,ne,nf,d⟩
   intro q
   rw[q,hoc] at e
   have q':oc=p.2:=Option.some.inj e
   exact d w' (by rw[<-q'];exact Ol)
theorem jN{M:Model}{A:WO}{E:WU->WT->Prop}{i:Nat}{x:Str}{v:V}{u:WU}{Q:Unit->WT->Prop}(I:Inv X pins σ H s)(hN:X.N.Nodup)(hi:X.N[i]? =some x)(hx:Loc X.env.scope x)(r:RelV v u)
  (h:∀s',Inv X pins (σ.set i (some v)) H s'->Q () s')(hf:X.fn x=true\/X.env.scope.names.lookup x=some .local:=by first | exact .inl rfl | exact .inr rfl | assumption):W8 M A (storeName X.env x u) Q E s :=
 oY I hN hi hx r (λs' I' _=>h s' I') hf
theorem Inv.FE{s':WT}{ch:List WN}(I:Inv X pins σ H s)(ho:s'.os=s.os)(u:Un (frs X.stack) ch H H' s.heap s'.heap)(hok:ic X.prog X.w H' s'.heap)(hg:AllBare s'.gens)
  (hch:∀b∈ch,(b∈X.ex\/X.s₀.heap.objs.size<=b)/\b≠X.env.locals/\(∀x c,X.env.cells.lookup x=some c->c≠b)/\∀p∈X.pn++pins,p.1≠b):Inv X pins σ H' s':=by
 obtain⟨h',g',d',t',o'⟩:=s'
 have e:o'=s.os:=ho
 subst e
 exact I.call (g':=g') (t':=t') (d':=d') u hok hg hch
end
abbrev XK:=WU->Option WN->Hp->Prop
abbrev St:=List (Option V)
abbrev VK:=V->Hp->Prop
abbrev TE:=St->Hp->VK->Prop
abbrev TT:=St->Hp->(Bool->Hp->Prop)->Prop
abbrev TA:=St->Hp->(List V->Hp->Prop)->Prop
structure Ends where
 nx:St->Hp->Prop
 rt:VK
 bk:St->Hp->Prop:=λ_ _=>False
 ct:St->Hp->Prop:=λ_ _=>False
abbrev TS:=Ends->St->Hp->Prop
def EP(X:Cx)(pins:List (WN×Obj))(σ:St)(Q:VK)(u:WU)(s':WT):Prop:=∃v H',Inv X pins σ H' s'/\RelV v u/\Q v H'
def TP(X:Cx)(pins:List (WN×Obj))(σ:St)(Q:Bool->Hp->Prop)(b:Bool)(s':WT):Prop:=∃H',Inv X pins σ H' s'/\Q b H'
def AP(X:Cx)(pins:List (WN×Obj))(σ:St)(Q:List V->Hp->Prop)(us:List WU)(s':WT):Prop:=∃vs H',Inv X pins σ H' s'/\Vals vs us/\Q vs H'
def SP(X:Cx)(pins:List (WN×Obj))(D:Ends)(f:Flow)(s':WT):Prop :=
 match f with
 | .next=>∃σ' H',Inv X pins σ' H' s'/\D.nx σ' H'
 | .brk=>∃σ' H',Inv X pins σ' H' s'/\D.bk σ' H'
 | .cont=>∃σ' H',Inv X pins σ' H' s'/\D.ct σ' H'
 | .ret u=>∃v σ' H',Inv X pins σ' H' s'/\RelV v u/\D.rt v H'
def PE(X:Cx)(e:Expr)(t:TE):Prop :=
 ∀(pins:List (WN×Obj))(s:WT)(σ:St)(H:Hp)(Q:VK),Inv X pins σ H s->t σ H Q->W8 (model X.prog X.w) X.A (eval e X.env) (EP X pins σ Q) X.xe s
def PT(X:Cx)(e:Expr)(t:TT):Prop :=
 ∀(pins:List (WN×Obj))(s:WT)(σ:St)(H:Hp)(Q:Bool->Hp->Prop),Inv X pins σ H s->t σ H Q->W8 (model X.prog X.w) X.A (isTrue e X.env (eval e X.env)) (TP X pins σ Q) X.xe s
def PW(X:Cx)(e:Expr)(t:TT):Prop :=
 ∀(whole:Sem WU)(pins:List (WN×Obj))(s:WT)(σ:St)(H:Hp)(Q:Bool->Hp->Prop),Inv X pins σ H s->t σ H Q->W8 (model X.prog X.w) X.A (isTrue e X.env whole) (TP X pins σ Q) X.xe s
def PA(X:Cx)(es:List Expr)(t:TA):Prop :=
 ∀(pos:Pos)(pins:List (WN×Obj))(s:WT)(σ:St)(H:Hp)(Q:List V->Hp->Prop),Inv X pins σ H s->t σ H Q->W8 (model X.prog X.w) X.A (spliced (backTo pos (W7 es X.env))) (AP X pins σ Q) X.xe s
def PS(X:Cx)(st:Stmt)(t:TS):Prop :=
 ∀(pins:List (WN×Obj))(s:WT)(σ:St)(H:Hp)(D:Ends),Inv X pins σ H s->t D σ H->W8 (model X.prog X.w) X.A (exec st X.env) (SP X pins D) X.xe s
def zk(X:Cx)(st:List Stmt)(t:TS):Prop :=
 ∀(pins:List (WN×Obj))(s:WT)(σ:St)(H:Hp)(D:Ends),Inv X pins σ H s->t D σ H->W8 (model X.prog X.w) X.A (execs st X.env) (SP X pins D) X.xe s
theorem aM{α:Type}{t:Sem α}{Q Q':α->WT->Prop}{M:Model}{A:WO}{E:WU->WT->Prop}{s:WT}(h:W8 M A t Q E s)(hQ:∀a s,Q a s->Q' a s):W8 M A t Q' E s:=Xa h hQ λ_ _ x=>x
end L2
namespace L2
open PySem PySem.Spec PyProof.Rows
section
variable {X:Cx}
def Om(i:Nat):TE:=λσ H Q=>∃v,σ[i]? =some (some v)/\Q v H
def tC(v:V):TE:=λ_ H Q=>Q v H
theorem GR{i:Nat}{x:Str}{pos:Pos}(hN:X.N[i]? =some x)(hv:Of X.env.scope x)(hd:(x == ("__debug__":Str))=false:=by decide)(hcd:(x == ("__classdict__":Str))=false:=by decide):PE X (.Name x pos) (Om i):=by
 intro pins s σ H Q I h
 obtain⟨v,e,h⟩:=h
 obtain⟨m,hn,hl⟩:=I.loc
 obtain⟨u,r,l⟩:=hl i x v hN e hv
 have fin:EP X pins σ Q u s:=⟨v,H,I,r,h⟩
 rcases l with ⟨hk,hm⟩ | ⟨hk,c,hc,hcell⟩
 ·exact wpAny_Name (wpAny_loadName_local I.ok.kind hk hn hm fin) hd
 ·rcases hk with hk | hk
  ·exact wpAny_Name (wpAny_loadName_cell I.ok.kind hk hc hcell fin) hd
  ·exact wpAny_Name (wpAny_loadName_free I.ok.kind hk hc hcell fin hcd) hd
theorem zu{i j pos}:PE X (.Constant (.int i) j pos) (tC (.int i)):=λ_ _ _ H _ I h=>wpAny_Constant_int ⟨.int i,H,I.tok _,⟨_,rfl⟩,h⟩
theorem KW{b j pos}:PE X (.Constant (.bool b) j pos) (tC (.bl b)):=λ_ _ _ H _ I h=>Constant_bool ⟨.bl b,H,I,rfl,h⟩
theorem zv{j pos}:PE X (.Constant .none j pos) (tC .aF):=λ_ _ _ H _ I h=>Constant_none ⟨.aF,H,I,rfl,h⟩
theorem GU{x j pos}:PE X (.Constant (.str x) j pos) (tC (.str x)):=λ_ _ _ H _ I h=>Calls.Constant_str ⟨.str x,H,I.tok _,⟨_,rfl⟩,h⟩
def Gl(X:Cx)(x:Str):Prop:=X.env.kindOf x=some .globalImplicit
theorem jO{E:WU->WT->Prop}{pins:List (WN×Obj)}{s:WT}{σ:St}{H:Hp}{x:Str}{u:WU}{pos:Pos}{Q:WU->WT->Prop}(I:Inv X pins σ H s)(hg:Gl X x)(hm:X.mg x=some u)(h:Q u s)
  (hd:(x == ("__debug__":Str))=false:=by decide):W8 (model X.prog X.w) X.A (eval (.Name x pos) X.env) Q E s :=
 Calls.Name_function_global I.ok.kind hg (Calls.loadGlobal_global (by rw[I.ok.glob];exact I.mod.glob.keeps I.bk) hm h) hd
theorem iw{E:WU->WT->Prop}{pins:List (WN×Obj)}{s:WT}{σ:St}{H:Hp}{x:Str}{u:WU}{pos:Pos}{Q:WU->WT->Prop}(I:Inv X pins σ H s)(hg:Gl X x)(hm:X.mg x=none)(hv:WY x=some u)(h:Q u s)
  (hn:x≠"__name__":=by decide)(hd:(x == ("__debug__":Str))=false:=by decide):W8 (model X.prog X.w) X.A (eval (.Name x pos) X.env) Q E s:=by
 obtain⟨mb,h1,h2⟩:=I.mod.blt
 exact Calls.Name_function_global I.ok.kind hg (Calls.loadGlobal_builtin (by rw[I.ok.glob];exact I.mod.glob.keeps I.bk) hm (by rw[I.ok.blt];exact h1.keeps I.bk) ((h2 x hn).trans hv) h) hd
theorem iS{x:Str}{v:V}{u:WU}{pos:Pos}(hg:Gl X x)(hm:X.mg x=some u)(r:RelV v u)(hd:(x == ("__debug__":Str))=false:=by decide):PE X (.Name x pos) (tC v) :=
 λ_ _ _ H _ I h=>jO I hg hm ⟨v,H,I,r,h⟩ hd
theorem C6{x:Str}{v:V}{u:WU}{pos:Pos}(hg:Gl X x)(hm:X.mg x=none)(hv:WY x=some u)(r:RelV v u)(hn:x≠"__name__":=by decide)(hd:(x == ("__debug__":Str))=false:=by decide):PE X (.Name x pos) (tC v) :=
 λ_ _ _ H _ I h=>iw I hg hm hv ⟨v,H,I,r,h⟩ hn hd
def Te(ta tb:TE)(k:Int->Int->Hp->Prop):St->Hp->Prop:=λσ H=>ta σ H λx H1=>tb σ H1 λy H2=>∃i j,x= .int i/\y= .int j/\k i j H2
variable {a b:Expr} {ta tb:TE} {pos:Pos}
def xI(p:Int->Int->Bool)(ta tb:TE):TE:=λσ H Q=>Te ta tb (λi j H2=>Q (.bl (p i j)) H2) σ H
abbrev VT:TE->TE->TE:=xI λi j=>decide (i < j)
abbrev VU:TE->TE->TE:=xI λi j=>decide (i<=j)
abbrev VW:TE->TE->TE:=xI λi j=>decide (j < i)
abbrev VX:TE->TE->TE:=xI λi j=>decide (j<=i)
abbrev Tf:TE->TE->TE:=xI λi j=>decide (i=j)
abbrev Tg:TE->TE->TE:=xI λi j=> !decide (i=j)
variable {tA Nl:TT} {rest:List Expr}
def Oo(t u:TT):TT:=λσ H Q=>t σ H λc H1=>if c=true then u σ H1 Q else Q false H1
def Th(t u:TT):TT:=λσ H Q=>t σ H λc H1=>if c=true then Q true H1 else u σ H1 Q
def Oq(t:TT):TT:=λσ H Q=>t σ H λc H1=>Q (!c) H1
theorem C7(ha:PT X a tA):PW X (.BoolOp .And [a] pos) tA:=by
 intro wh pins s σ H Q I h
 refine isTrue_and (aM (ha pins s σ H Q I h) λc s1 e=>?_)
 cases c with
 | true=>exact isTrue_and_nil e
 | false=>exact e
theorem GV(ha:PT X a tA):PW X (.BoolOp .Or [a] pos) tA:=by
 intro wh pins s σ H Q I h
 refine isTrue_or (aM (ha pins s σ H Q I h) λc s1 e=>?_)
 cases c with
 | false=>exact isTrue_or_nil e
 | true=>exact e
theorem GW(ha:PT X a tA)(hb:PW X (.BoolOp .And (b::rest) pos) Nl):PW X (.BoolOp .And (a::b::rest) pos) (Oo tA Nl):=by
 intro wh pins s σ H Q I h
 refine isTrue_and (aM (ha pins s σ H _ I h) λc s1 ⟨H1,I1,q1⟩=>?_)
 cases c with
 | true=>exact hb wh pins s1 σ H1 Q I1 q1
 | false=>exact⟨H1,I1,q1⟩
theorem KY(ha:PT X a tA)(hb:PW X (.BoolOp .Or (b::rest) pos) Nl):PW X (.BoolOp .Or (a::b::rest) pos) (Th tA Nl):=by
 intro wh pins s σ H Q I h
 refine isTrue_or (aM (ha pins s σ H _ I h) λc s1 ⟨H1,I1,q1⟩=>?_)
 cases c with
 | true=>exact⟨H1,I1,q1⟩
 | false=>exact hb wh pins s1 σ H1 Q I1 q1
theorem GX(ha:PT X a tA):PT X (.UnaryOp .Not a pos) (Oq tA):=by
 intro pins s σ H Q I h
 exact isTrue_not (ha pins s σ H (λc H1=>Q (!c) H1) I h)
def KZ(ta tb:TE):TE:=λσ H Q=>ta σ H λx H1=>∃c,x= .bl c/\if c=true then tb σ H1 Q else Q (.bl false) H1
def Ot(ta tb:TE):TE:=λσ H Q=>ta σ H λx H1=>∃c,x= .bl c/\if c=true then Q (.bl true) H1 else tb σ H1 Q
def K1(ta:TE):TE:=λσ H Q=>ta σ H λx H1=>∃c,x= .bl c/\Q (.bl (!c)) H1
theorem GY{op}{t:TE}(h:PE X a t):PE X (.BoolOp op [a] pos) t:=λpins s σ H Q I hw=>BoolOp_one (h pins s σ H Q I hw)
theorem GZ(ha:PE X a ta)(hb:PE X (.BoolOp .And (b::rest) pos) tb):PE X (.BoolOp .And (a::b::rest) pos) (KZ ta tb):=by
 intro pins s σ H Q I h
 refine BoolOp_and (aM (ha pins s σ H _ I h) λv s1 ⟨x,H1,I1,r1,q1⟩=>?_)
 obtain⟨c,rfl,q1⟩:=q1
 cases r1
 refine Xf ?_
 cases c with
 | true=>exact hb pins s1 σ H1 Q I1 q1
 | false=>exact⟨.bl false,H1,I1,rfl,q1⟩
theorem K2(ha:PE X a ta)(hb:PE X (.BoolOp .Or (b::rest) pos) tb):PE X (.BoolOp .Or (a::b::rest) pos) (Ot ta tb):=by
 intro pins s σ H Q I h
 refine BoolOp_or (aM (ha pins s σ H _ I h) λv s1 ⟨x,H1,I1,r1,q1⟩=>?_)
 obtain⟨c,rfl,q1⟩:=q1
 cases r1
 refine Xf ?_
 cases c with
 | false=>exact hb pins s1 σ H1 Q I1 q1
 | true=>exact⟨.bl true,H1,I1,rfl,q1⟩
theorem G0(ha:PE X a ta):PE X (.UnaryOp .Not a pos) (K1 ta):=by
 intro pins s σ H Q I h
 refine UnaryOp_ (aM (ha pins s σ H _ I h) λv s1 ⟨x,H1,I1,r1,q1⟩=>?_)
 obtain⟨c,rfl,q1⟩:=q1
 cases r1
 exact not_of (Xf ⟨.bl (!c),H1,I1,rfl,q1⟩)
def Ti(t:TT)(ta tb:TE):TE:=λσ H Q=>t σ H λc H1=>if c=true then ta σ H1 Q else tb σ H1 Q
theorem zw{c:Expr}(hc:PT X c tA)(ha:PE X a ta)(hb:PE X b tb):PE X (.IfExp c a b pos) (Ti tA ta tb):=by
 intro pins s σ H Q I h
 refine wpAny_IfExp (aM (hc pins s σ H _ I h) λd s1 ⟨H1,I1,q1⟩=>?_)
 cases d with
 | true=>exact ha pins s1 σ H1 Q I1 q1
 | false=>exact hb pins s1 σ H1 Q I1 q1
end
end L2
namespace L2
open PySem PySem.Spec PyProof.Rows
def ij(K:PySem.W.Frag)(H:Hp)(a:WN)(xs:List V):Prop :=
 Rd H a (.lst xs)\/
  ∃(o:Obj)(its:Array WU)(n:Nat),K.lookup a=some o/\o.cls= .type "list"/\o.dict=none/\o.data= .seq its n/\its.size<=W6/\Vals xs its.toList
def dU(K:PySem.W.Frag)(H:Hp)(a:WN)(xs:List V):Prop :=
 Rd H a (.tup xs)\/
  ∃(o:Obj)(its:Array WU)(n:Nat),K.lookup a=some o/\o.cls= .type "tuple"/\o.data= .seq its n/\its.size<=W6/\Vals xs its.toList
def Ou:WU->Option V
 | .none=>some .aF
 | .bool b=>some (.bl b)
 | .int i _=>some (.int i)
 | .str x _=>some (.str x)
 | .bytes b _=>some (.Kx b)
 | .float b _=>some (.rF b)
 | .ref a=>some (.ref a)
 | .type n=>some (.ty n)
 | _=>none
theorem RelV.abs{x:V}{u:WU}(r:RelV x u):Ou u=some x:=by
 cases x with
 | aF=>cases r;rfl
 | bl _=>cases r;rfl
 | int _=>obtain⟨t,rfl⟩:=r;rfl
 | str _=>obtain⟨t,rfl⟩:=r;rfl
 | Kx _=>obtain⟨t,rfl⟩:=r;rfl
 | rF _=>obtain⟨t,rfl⟩:=r;rfl
 | ref _=>cases r;rfl
 | ty _=>cases r;rfl
theorem RelV.inj{x y:V}{u:WU}(r:RelV x u)(q:RelV y u):x=y:=Option.some.inj (r.abs.symm.trans q.abs)
theorem Vals.inj:∀{xs ys:List V}{us:List WU},Vals xs us->Vals ys us->xs=ys
 | _,_,_,.nil,.nil=>rfl
 | _,_,_,.cons r t,.cons r' t'=>by rw[r.inj r',Vals.inj t t']
section
variable {X:Cx} {pins:List (WN×Obj)} {σ:St} {H:Hp} {s:WT} {a:WN} {xs ys:List V}
theorem ij.of{K:PySem.W.Frag}(h:H a=some (.lst xs)):ij K H a xs:=.inl (.inl h)
theorem dU.of{K:PySem.W.Frag}(h:H a=some (.tup xs)):dU K H a xs:=.inl (.inl h)
theorem Inv.list(I:Inv X pins σ H s)(h:ij X.K H a xs):∃its:List WU,Vals xs its/\PlainL s.heap a its.toArray/\xs.length<=W6:=by
 rcases h with h | ⟨o,its,n,hk,hc,hd,hs,hz,r⟩
 ·obtain⟨z,its,n,r,e⟩:=h.ok I.hok
  exact⟨its,r,⟨_,n,e,rfl,rfl,rfl⟩,z⟩
 ·refine⟨its.toList,r,⟨o,n,I.zj a o hk,hc,hd,by simpa using hs⟩,?_⟩
  have e:=r.length
  simp only[Array.length_toList] at e
  omega
theorem Inv.tuple(I:Inv X pins σ H s)(h:dU X.K H a xs):∃its:List WU,Vals xs its/\IsTup s.heap a its.toArray/\xs.length<=W6:=by
 rcases h with h | ⟨o,its,n,hk,hc,hs,hz,r⟩
 ·obtain⟨z,its,r,p,_⟩:=h.ok I.hok
  exact⟨its,r,p,z⟩
 ·refine⟨its.toList,r,⟨o,I.zj a o hk,hc,n,by simpa using hs⟩,?_⟩
  have e:=r.length
  simp only[Array.length_toList] at e
  omega
theorem Inv.rH(I:Inv X pins σ H s)(h:ij X.K H a xs)(h':ij X.K H a ys):xs=ys:=by
 obtain⟨its,r,⟨o,n,e,_,_,d⟩,_⟩:=I.list h
 obtain⟨its',r',⟨o',n',e',_,_,d'⟩,_⟩:=I.list h'
 rw[e] at e';cases e'
 rw[d] at d'
 injection d' with d1 _
 have:its=its':=by simpa using congrArg Array.toList d1
 subst this
 exact r.inj r'
theorem Inv.xJ(I:Inv X pins σ H s)(h:dU X.K H a xs)(h':dU X.K H a ys):xs=ys:=by
 obtain⟨its,r,⟨o,e,_,n,d⟩,_⟩:=I.tuple h
 obtain⟨its',r',⟨o',e',_,n',d'⟩,_⟩:=I.tuple h'
 rw[e] at e';cases e'
 rw[d] at d'
 injection d' with d1 _
 have:its=its':=by simpa using congrArg Array.toList d1
 subst this
 exact r.inj r'
end
abbrev Cx.Ov(X:Cx)(E:WU->WT->Prop):Cx:={ X with xe:=E }
abbrev Cx.jh(X:Cx):Cx:=X.Ov λ_ _=>False
section
variable {X:Cx} {pins:List (WN×Obj)} {σ:St} {H:Hp} {s:WT} {E:WU->WT->Prop}
end
section
variable {X:Cx} {st:Stmt} {rest:List Stmt} {t u:TS} {e:Expr} {te:TE} {pos:Pos}
def FF:TS:=λD σ H=>D.nx σ H
def Ow(t u:TS):TS:=λD σ H=>t { D with nx:=u D } σ H
theorem C9:zk X [] FF:=λ_ _ σ H _ I h=>wpAny_execs_nil ⟨σ,H,I,h⟩
theorem zx(h1:PS X st t)(h2:zk X rest u):zk X (st::rest) (Ow t u):=by
 intro pins s σ H D I h
 refine wpAny_execs_cons (aM (h1 pins s σ H { D with nx:=u D } I h) λf s1 q=>?_)
 cases f with
 | next=>
  obtain⟨σ',H',I',q⟩:=q
  exact h2 pins s1 σ' H' D I' q
 | ret v=>exact q
 | brk=>exact q
 | cont=>exact q
theorem C_(h1:PS X st t):zk X [st] t:=by
 intro pins s σ H D I h
 refine wpAny_execs_cons (aM (h1 pins s σ H D I h) λf s1 q=>?_)
 cases f with
 | next=>exact wpAny_execs_nil q
 | ret v=>exact q
 | brk=>exact q
 | cont=>exact q
theorem Dd:PS X (.Pass pos) FF:=λ_ _ σ H _ I h=>wpAny_Pass ⟨σ,H,I,h⟩
theorem Inv.quiet{pins:List (WN×Obj)}{σ:St}{H:Hp}{s:WT}(I:Inv X pins σ H s):interactive X.env=false:=by simp[interactive,I.ok.kind]
def K3(te:TE):TS:=λD σ H=>te σ H λ_ H1=>D.nx σ H1
theorem De(he:PE X e te)(hs:swapsWith e none pos.line X.env=pure false:=by rfl):PS X (.Expr e pos) (K3 te):=by
 intro pins s σ H D I h
 exact wpAny_Expr_any (aM (he pins s σ H _ I h) λv s1 ⟨x,H1,I1,r1,q1⟩=>⟨σ,H1,I1,q1⟩) I.quiet hs
def Ox(te:TE):TS:=λD σ H=>te σ H D.rt
theorem G5(he:PE X e te):PS X (.Return (some e) pos) (Ox te):=by
 intro pins s σ H D I h
 exact wpAny_Return_some (aM (he pins s σ H _ I h) λv s1 ⟨x,H1,I1,r1,q1⟩=>⟨x,σ,H1,I1,r1,q1⟩)
def K4:TS:=λD _ H=>D.rt .aF H
theorem Df:PS X (.Return none pos) K4:=λ_ _ σ H _ I h=>wpAny_Return_none ⟨.aF,σ,H,I,rfl,h⟩
def Oy(c:TT)(t u:TS):TS:=λD σ H=>c σ H λb H1=>if b=true then t D σ H1 else u D σ H1
theorem K5{c:Expr}{a b:List Stmt}{tc:TT}(hc:PT X c tc)(ha:zk X a t)(hb:zk X b u):PS X (.If c a b pos) (Oy tc t u):=by
 intro pins s σ H D I h
 refine wpAny_If (aM (hc pins s σ H _ I h) λd s1 ⟨H1,I1,q1⟩=>?_)
 cases d with
 | true=>exact ha pins s1 σ H1 D I1 q1
 | false=>exact hb pins s1 σ H1 D I1 q1
def zy:TS:=λ_ _ _=>False
theorem zE:PS X st zy:=λ_ _ _ _ _ _ h=>h.elim
theorem xK{sts:List Stmt}:zk X sts zy:=λ_ _ _ _ _ _ h=>h.elim
end
abbrev TG:=V->St->Hp->(St->Hp->Prop)->Prop
abbrev FG:=List V->St->Hp->(St->Hp->Prop)->Prop
def PG(X:Cx)(target:Expr)(t:TG):Prop :=
 ∀(pins:List (WN×Obj))(s:WT)(σ:St)(H:Hp)(v:V)(u:WU)(Q:St->Hp->Prop),Inv X pins σ H s->RelV v u->t v σ H Q->
  W8 (model X.prog X.w) X.A (assign target X.env u) (λ_ s'=>∃σ' H',Inv X pins σ' H' s'/\Q σ' H') X.xe s
def K6(X:Cx)(ts:List Expr)(t:FG):Prop :=
 ∀(pins:List (WN×Obj))(s:WT)(σ:St)(H:Hp)(vs:List V)(us:List WU)(Q:St->Hp->Prop),Inv X pins σ H s->Vals vs us->t vs σ H Q->
  W8 (model X.prog X.w) X.A (assignInOrder ((assignEach ts X.env).map (·.2)) us) (λ_ s'=>∃σ' H',Inv X pins σ' H' s'/\Q σ' H') X.xe s
abbrev G6:=V->V->V->Hp->(Hp->Prop)->Prop
def K7(X:Cx)(t:G6):Prop :=
 ∀(pins:List (WN×Obj))(s:WT)(σ:St)(H:Hp)(o i v:V)(ov iv u:WU)(Q:Hp->Prop),Inv X pins σ H s->RelV o ov->RelV i iv->RelV v u->t o i v H Q->
  W8 (model X.prog X.w) X.A (setItem ov iv u) (λ_ s'=>∃H',Inv X pins σ H' s'/\Q H') X.xe s
abbrev VY:=V->V->Hp->VK->Prop
section
variable {X:Cx} {pos:Pos}
def rJ(i:Nat):TG:=λv σ H Q=>Q (σ.set i (some v)) H
theorem jP{i:Nat}{x:Str}(hN:X.N.Nodup)(hi:X.N[i]? =some x)(hx:Loc X.env.scope x)(hf:X.fn x=true\/X.env.scope.names.lookup x=some .local:=by first | exact .inl rfl | exact .inr rfl | assumption):PG X (.Name x pos) (rJ i):=by
 intro pins s σ H v u Q I r h
 exact wpAny_assign_Name (jN I hN hi hx r (λs' I'=>⟨_,H,I',h⟩) hf)
def ai:FG:=λvs σ H Q=>vs=[]/\Q σ H
def aa(t:TG)(u:FG):FG:=λvs σ H Q=>∃v r,vs=v::r/\t v σ H λσ' H'=>u r σ' H' Q
theorem Dg:K6 X [] ai:=by
 intro pins s σ H vs us Q I r h
 obtain⟨e,h⟩:=h
 subst e
 cases r
 exact assignInOrder_nil ⟨σ,H,I,h⟩
theorem zF{e:Expr}{es:List Expr}{t:TG}{u:FG}(h1:PG X e t)(h2:K6 X es u)
  (hs:(assignEach (e::es) X.env).map (·.2)=assign e X.env::(assignEach es X.env).map (·.2):=by rfl):K6 X (e::es) (aa t u):=by
 intro pins s σ H vs us Q I r h
 obtain⟨v,vr,e1,h⟩:=h
 subst e1
 cases r with
 | cons r rr=>
  rw[hs]
  refine assignInOrder_cons (aM (h1 pins s σ H _ _ _ I r h) λ_ s1 ⟨σ1,H1,I1,q1⟩=>?_)
  exact h2 pins s1 σ1 H1 _ _ Q I1 rr q1
def dN(K:PySem.W.Frag)(n:Nat)(t:FG):TG:=λv σ H Q=>∃a xs,v= .ref a/\dU K H a xs/\xs.length=n/\t xs σ H Q
theorem uv{es:List Expr}{k:Nat}{t:FG}{n:Nat}(hc:X.calm=true)(h:K6 X es t)
  (hn:(assignEach es X.env).length=n:=by rfl)(hst:(assignEach es X.env).findIdx? (·.1)=none:=by rfl):PG X (.Tuple es k pos) (dN X.K n t):=by
 intro pins s σ H v u Q I r hw
 obtain⟨a,xs,e1,hq,hl,hw⟩:=hw
 subst e1
 cases r
 obtain⟨its,rv,ht,hz⟩:=I.tuple hq
 refine assign_Tuple_tuple (I.ok.hd hc) ht (by simp[hn,<-hl,rv.length]) hst λh' hx=>?_
 have I1:Inv X pins σ H { s with heap:=h' }:=I.kept (t':=s.toks) λb o e=>hx b o (Nat.ne_of_lt (Heap.lt_size e)) e
 exact h pins _ σ H xs _ Q I1 (by simpa using rv) hw
def Oz(to ti:TE)(t:G6):TG:=λv σ H Q=>to σ H λo H1=>ti σ H1 λi H2=>t o i v H2 λH3=>Q σ H3
theorem G7{o i:Expr}{to ti:TE}{t:G6}(ho:PE X o to)(hi:PE X i ti)(hs:K7 X t)
  (ha:∀v,assign (.Subscript o i pos) X.env v=(do
   let ov <-holding [v] (eval o X.env)
   let iv <-holding [v,ov] (eval i X.env)
   standAt pos
   holding [v,ov,iv] (setItem ov iv v)
   release [v,ov,iv] []):=by intro _;rfl):PG X (.Subscript o i pos) (Oz to ti t):=by
 intro pins s σ H v u Q I r h
 rw[ha]
 refine W9 (W' (aM (ho pins s σ H _ I h) λov s1 ⟨x,H1,I1,r1,q1⟩=>?_))
 refine W9 (W' (aM (hi pins s1 σ H1 _ I1 q1) λiv s2 ⟨y,H2,I2,r2,q2⟩=>?_))
 refine W9 (wpAny_standAt (W9 (W' (aM (hs pins s2 σ H2 x y v ov iv u _ I2 r1 r2 r q2) λ_ s3 ⟨H3,I3,q3⟩=>?_))))
 exact wpAny_release ⟨σ,H3,I3,q3⟩
def K8(te:TE)(g:TG):TS:=λD σ H=>te σ H λx H1=>g x σ H1 D.nx
theorem zG{tg e:Expr}{te:TE}{g:TG}(he:PE X e te)(hg:PG X tg g)(hs:swapsWithSole [tg] e pos.line X.env=pure false:=by rfl)(hw:swappedStores [tg] e X.env=pure none:=by rfl)
  (h1:(assignEach [tg] X.env).map (·.2)=[assign tg X.env]:=by rfl):PS X (.Assign [tg] e pos) (K8 te g):=by
 intro pins s σ H D I h
 refine wpAny_Assign_stores (aM (he pins s σ H _ I h) λv s1 ⟨x,H1,I1,r1,q1⟩=>?_) hs hw
 rw[h1]
 exact aM (hg pins s1 σ H1 x v _ I1 r1 q1) λ_ s2 q=>q
theorem G8{i:Nat}{x:Str}{e:Expr}{te:TE}{pos':Pos}(hN:X.N.Nodup)(hi:X.N[i]? =some x)(hx:Loc X.env.scope x)(he:PE X e te)(hs:swapsWith e (some (.Name x pos')) pos.line X.env=pure false:=by rfl)(hf:X.fn x=true\/X.env.scope.names.lookup x=some .local:=by first | exact .inl rfl | exact .inr rfl | assumption) :
  PS X (.Assign [.Name x pos'] e pos) (K8 te (rJ i)):=by
 intro pins s σ H D I h
 refine wpAny_Assign_Name (aM (he pins s σ H _ I h) λv s1 ⟨y,H1,I1,r1,q1⟩=>?_) hs
 exact jN I1 hN hi hx r1 (λs2 I2=>⟨_,H1,I2,q1⟩) hf
end
section
variable {X:Cx} {pos:Pos}
def G9(c:TT)(tb:TS):TS:=λD σ H=>∃W:Nat->St->Hp->Prop,(∃m,W m σ H)/\∀m σ H,W m σ H->
 c σ H λb H1=>if b=true then ∃N:St->Hp->Prop,(∀σ' H',N σ' H'->∃m',m' < m/\W m' σ' H')/\tb { D with nx:=N,ct:=N,bk:=D.nx } σ H1 else D.nx σ H1
theorem zH{c:Expr}{body:List Stmt}{tc:TT}{tb:TS}(hp:PassesOwn (model X.prog X.w) X.A X.env X.xe)(hc:PT X c tc)(hb:zk X body tb):PS X (.While c body [] pos) (G9 tc tb):=by
 intro pins s σ H D I h
 obtain⟨W,⟨m0,w0⟩,turn⟩:=h
 refine wpAny_While (codeAny_whileLoop (λn s'=>∃σ' H',Inv X pins σ' H' s'/\W n σ' H') ?_ m0 ⟨σ,H,I,w0⟩)
 rintro n s1 ⟨σ1,H1,I1,w1⟩
 refine wpAny_passesOwn hp (aM (hc pins s1 σ1 H1 _ I1 (turn n σ1 H1 w1)) λb s2 ⟨H2,I2,q2⟩=>?_)
 cases b with
 | true=>
  obtain⟨N,hN,q2⟩:=q2
  rw[if_pos rfl]
  refine wpAny_passesOwn hp (aM (hb pins s2 σ1 H2 _ I2 q2) λf s3 q3=>?_)
  cases f with
  | next=>
   obtain⟨σ3,H3,I3,n3⟩:=q3
   obtain⟨m',hm,w3⟩:=hN σ3 H3 n3
   exact⟨m',hm,σ3,H3,I3,w3⟩
  | cont=>
   obtain⟨σ3,H3,I3,n3⟩:=q3
   obtain⟨m',hm,w3⟩:=hN σ3 H3 n3
   exact⟨m',hm,σ3,H3,I3,w3⟩
  | brk=>exact q3
  | ret v=>exact q3
 | false=>
  rw[if_neg Bool.false_ne_true]
  exact wpAny_execs_nil ⟨σ1,H2,I2,q2⟩
end
structure It where
 go:Nat->Hp->Prop
 rK:Nat->Hp->V->Hp->Prop
 stop:Nat->Hp->Prop
def eD(X:Cx)(pins:List (WN×Obj))(H:Hp)(b:WN):Prop :=
 H b=none/\b≠X.env.locals/\b∉X.fs/\(b∈X.ex\/X.s₀.heap.objs.size<=b)/\(∀x c,X.env.cells.lookup x=some c->c≠b)/\∀p∈X.pn++pins,p.1≠b
theorem Inv.rL{X:Cx}{pins:List (WN×Obj)}{σ:St}{H H':Hp}{s:WT}{b:WN}(I:Inv X pins σ H s)(hb:s.heap.objs.size<=b)(hn:H' b=none):eD X pins H' b:=by
 refine⟨hn,Nat.ne_of_gt (Nat.lt_of_lt_of_le I.lt hb),I.Oi hb,.inr (Nat.le_trans I.sz hb),λx c e z=>?_,λp hp z=>?_⟩
 ·obtain⟨v,q⟩:=I.cell x c e
  exact absurd (Nat.lt_of_lt_of_le q.lt (by rw[z];exact hb)) (Nat.lt_irrefl _)
 ·exact absurd (Nat.lt_of_lt_of_le (Heap.lt_size (I.pin p hp).1) (by rw[z];exact hb)) (Nat.lt_irrefl _)
structure Turn(P:WS)(w:WV)(K:PySem.W.Frag)(tg:Expr)(J:It)(fp:List WN)(it:WN)(tn:Nat->Heap->Prop):Prop where
 mem:it∈fp
 obj:∀i h,tn i h->∀b∈fp,∃o,h.get? b=some o/\∀v,o.data≠.cell v
 keep:∀i h h',tn i h->(∀b∈fp,∀o,h.get? b=some o->h'.get? b=some o)->tn i h'
 item:∀(X:Cx),X.prog=P->X.w=w->X.K=K->X.calm=true->∀(i:Nat)(pins:List (WN×Obj))(s:WT)(σ:St)(H:Hp)(E:WU->WT->Prop),Inv X pins σ H s->(∀b∈fp,eD X pins H b)->tn i s.heap->J.go i H->
  W8 (model P w) X.A (pyNext (.ref it)) (λr s1=>∃u,r=some u/\
   W8 (model P w) X.A (letOwnedTupleGo tg (.ref it) u) (λ_ s2=>∃x H',Inv X pins σ H' s2/\RelV x u/\J.rK i H x H'/\tn (i+1) s2.heap/\∀b∈fp,H' b=none) E s1) E s
 done:∀(X:Cx),X.prog=P->X.w=w->X.K=K->X.calm=true->∀(i:Nat)(pins:List (WN×Obj))(s:WT)(σ:St)(H:Hp)(E:WU->WT->Prop),Inv X pins σ H s->(∀b∈fp,eD X pins H b)->tn i s.heap->J.stop i H->
  W8 (model P w) X.A (pyNext (.ref it)) (λr s1=>r=none/\Inv X pins σ H s1) E s
 self:∀(A:WO)(i:Nat)(s:WT)(Q:WU->WT->Prop)(E:WU->WT->Prop),tn i s.heap->Q (.ref it) s->W8 (model P w) A (pyIter (.ref it)) Q E s
abbrev TI:=St->Hp->(It->Hp->Prop)->Prop
def OA(X:Cx)(pins:List (WN×Obj))(σ:St)(tg:Expr)(R:It->Hp->Prop)(itv:WU)(s2:WT):Prop :=
 ∃(it:WN)(fp:List WN)(tn:Nat->Heap->Prop)(J:It)(H':Hp),itv= .ref it/\Inv X pins σ H' s2/\Turn X.prog X.w X.K tg J fp it tn/\tn 0 s2.heap/\(∀b∈fp,eD X pins H' b)/\R J H'
def PI(X:Cx)(tg iter:Expr)(wi:TI):Prop :=
 ∀(pins:List (WN×Obj))(s:WT)(σ:St)(H:Hp)(R:It->Hp->Prop),Inv X pins σ H s->wi σ H R->
  W8 (model X.prog X.w) X.A (eval iter X.env) (λv s1=>W8 (model X.prog X.w) X.A (pyIter v) (OA X pins σ tg R) X.xe s1) X.xe s
theorem lq{M:Model}{A:WO}{E:WU->WT->Prop}{s:WT}{tg:Expr}{it:WN}{u:WU}{o:Obj}{n:String}{vs:Array WU}{Q:Unit->WT->Prop}(ho:s.heap.get? it=some o)(hc:o.cls= .type n)(hd:o.data= .fields vs)
    (hn:["enumerate","zip","dict_itemiterator","dict_reverseitemiterator","odict_iterator","itertools.zip_longest","itertools.pairwise"].contains n=false)(hQ:Q () s):W8 M A (letOwnedTupleGo tg (.ref it) u) Q E s:=by
  unfold letOwnedTupleGo
  cases tg<;>first
    | exact Xe hQ
    | (cases u<;>first
        | exact Xe hQ
        | (refine W9 (wpAny_load ho ?_)
           rw[hc,hd]
           show W8 M A (if(["enumerate","zip","dict_itemiterator","dict_reverseitemiterator","odict_iterator","itertools.zip_longest","itertools.pairwise"].contains n&&vs[0]? == some (rawInt _))=true then _ else _) Q E s
           rw[if_neg (by intro h;rw[hn,Bool.false_and] at h;cases h)]
           exact Xe hQ))
def OB(K:PySem.W.Frag)(a:WN):It :=
 ⟨λi H=>∃xs x,ij K H a xs/\xs[i]? =some x,λi H x H'=>H'=H/\∀xs,ij K H a xs->xs[i]? =some x,λi H=>∃xs,ij K H a xs/\xs.length<=i⟩
def Rr(K:PySem.W.Frag)(a:WN):It :=
 ⟨λi H=>∃xs x,dU K H a xs/\xs[i]? =some x,λi H x H'=>H'=H/\∀xs,dU K H a xs->xs[i]? =some x,λi H=>∃xs,dU K H a xs/\xs.length<=i⟩
def Dh(lo:Int)(n:Nat):It:=⟨λi _=>i < n,λi H x H'=>H'=H/\x= .int (lo+i),λi _=>n<=i⟩
theorem oZ{P:WS}{w:WV}{K:PySem.W.Frag}{tg:Expr}(a it:WN):Turn P w K tg (OB K a) [it] it (λi h=>h.IsListIter it a i) where
 mem:=by simp
 obj:=λi h st b hb=>by
  have e:b=it:=by simpa using hb
  subst e
  obtain⟨o,e,c,d⟩:=st
  exact⟨o,e,λv z=>by rw[d] at z;cases z⟩
 keep:=λi h h' st k=>st.at λo e=>k it (by simp) o e
 item:=by
  intro X hP hw hK hc i pins s σ H E I hf st hg
  subst hP hw hK
  obtain⟨xs,x,hq,hx⟩:=hg
  obtain⟨its,rv,p,hz⟩:=I.list hq
  obtain⟨u,hu,ru⟩:=rv.get hx
  obtain⟨f0,f1,f2,f3,f4,f5⟩:=hf it (by simp)
  refine wpAny_pyNext_list_item st p.isList (x:=u) (by simpa using hu) λh' st' sb=>?_
  have I1:Inv X pins σ H { s with heap:=h' }:=I.turned (t':=s.toks) (λb o hb e=>(sb.2 b hb).trans e) f0 f1 f3 f4 f5
  obtain⟨o,e,c,d⟩:=id st'
  exact⟨u,rfl,lq (s:={ s with heap:=h' }) e c d (by decide) ⟨x,H,I1,ru,⟨rfl,λys hy=>by rw[I.rH hy hq];exact hx⟩,st',λb hb=>(hf b hb).1⟩⟩
 done:=by
  intro X hP hw hK hc i pins s σ H E I hf st hg
  subst hP hw hK
  obtain⟨xs,hq,hx⟩:=hg
  obtain⟨its,rv,p,hz⟩:=I.list hq
  obtain⟨f0,f1,f2,f3,f4,f5⟩:=hf it (by simp)
  have hl:=rv.length
  exact wpAny_pyNext_list_end (I.ok.hd hc) st p.isList (by simp;omega) λh' eb=>⟨rfl,I.turned (t':=s.toks) (λb o hb e=>eb b o hb e) f0 f1 f3 f4 f5⟩
 self:=λ_ _ _ _ _ st h=>wpAny_pyIter_listiter st h
theorem uw{P:WS}{w:WV}{K:PySem.W.Frag}{tg:Expr}(a it:WN):Turn P w K tg (Rr K a) [it] it (λi h=>h.IsTupleIter it a i) where
 mem:=by simp
 obj:=λi h st b hb=>by
  have e:b=it:=by simpa using hb
  subst e
  obtain⟨o,e,c,d⟩:=st
  exact⟨o,e,λv z=>by rw[d] at z;cases z⟩
 keep:=λi h h' st k=>st.at λo e=>k it (by simp) o e
 item:=by
  intro X hP hw hK hc i pins s σ H E I hf st hg
  subst hP hw hK
  obtain⟨xs,x,hq,hx⟩:=hg
  obtain⟨its,rv,p,hz⟩:=I.tuple hq
  obtain⟨u,hu,ru⟩:=rv.get hx
  obtain⟨f0,f1,f2,f3,f4,f5⟩:=hf it (by simp)
  refine wpAny_pyNext_tuple_item st (show s.heap.IsTuple a its.toArray from p) (x:=u) (by simpa using hu) λh' st' sb=>?_
  have I1:Inv X pins σ H { s with heap:=h' }:=I.turned (t':=s.toks) (λb o hb e=>(sb.2 b hb).trans e) f0 f1 f3 f4 f5
  obtain⟨o,e,c,d⟩:=id st'
  exact⟨u,rfl,lq (s:={ s with heap:=h' }) e c d (by decide) ⟨x,H,I1,ru,⟨rfl,λys hy=>by rw[I.xJ hy hq];exact hx⟩,st',λb hb=>(hf b hb).1⟩⟩
 done:=by
  intro X hP hw hK hc i pins s σ H E I hf st hg
  subst hP hw hK
  obtain⟨xs,hq,hx⟩:=hg
  obtain⟨its,rv,p,hz⟩:=I.tuple hq
  obtain⟨f0,f1,f2,f3,f4,f5⟩:=hf it (by simp)
  have hl:=rv.length
  exact wpAny_pyNext_tuple_end (I.ok.hd hc) st (show s.heap.IsTuple a its.toArray from p) (by simp;omega) λh' eb=>⟨rfl,I.turned (t':=s.toks) (λb o hb e=>eb b o hb e) f0 f1 f3 f4 f5⟩
 self:=λ_ _ _ _ _ st h=>wpAny_pyIter_tupleiter st h
theorem gB{P:WS}{w:WV}{K:PySem.W.Frag}{tg:Expr}(it:WN)(lo:Int)(n:Nat):Turn P w K tg (Dh lo n) [it] it (λi h=>IsRangeIter h it (lo+(i:Nat) * 1) ((n:Int) - (i:Nat)) 1) where
 mem:=by simp
 obj:=λi h st b hb=>by
  have e:b=it:=by simpa using hb
  subst e
  exact⟨_,st,λv z=>by
   have z':Data.fields _=Data.cell v:=z
   cases z'⟩
 keep:=λi h h' st k=>k it (by simp) _ st
 item:=by
  intro X hP hw hK hc i pins s σ H E I hf st hg
  subst hP hw hK
  obtain⟨f0,f1,f2,f3,f4,f5⟩:=hf it (by simp)
  have W:=Walks.range (prog:=X.prog) (w:=X.w) (I.ok.hd hc) it lo 1 n
  refine W.item i s _ _ hg st λv h' tk hv st' kk=>?_
  obtain⟨t,rfl⟩:=hv
  have I1:Inv X pins σ H { s with heap:=h',toks:=tk }:=I.turned (λb o hb e=>kk b o (by simpa using hb) e) f0 f1 f3 f4 f5
  refine⟨_,rfl,lq (s:={ s with heap:=h',toks:=tk }) (n:="range_iterator") st' rfl rfl (by decide) ⟨.int (lo+i),H,I1,⟨t,?_⟩,⟨rfl,rfl⟩,st',λb hb=>(hf b hb).1⟩⟩
  rw[Int.mul_one]
 done:=by
  intro X hP hw hK hc i pins s σ H E I hf st hg
  subst hP hw hK
  obtain⟨f0,f1,f2,f3,f4,f5⟩:=hf it (by simp)
  exact wpAny_pyNext_range_end (I.ok.hd hc) st (by have:n<=i:=hg;omega) λh' eb=>⟨rfl,I.turned (t':=s.toks) (λb o hb e=>eb b o hb e) f0 f1 f3 f4 f5⟩
 self:=λ_ _ _ _ _ st h=>wpAny_pyIter_rangeiter st h
end L2
namespace L2
open PySem PySem.Spec PyProof.Rows
section
variable {X:Cx} {tg:Expr}
def K9(K:PySem.W.Frag)(tl:TE):TI:=λσ H R=>tl σ H λx H1=>∃a,x= .ref a/\(∃xs,ij K H1 a xs)/\R (OB K a) H1
theorem Di{l:Expr}{tl:TE}(hl:PE X l tl):PI X tg l (K9 X.K tl):=by
 intro pins s σ H R I h
 refine aM (hl pins s σ H _ I h) λv s1 ⟨x,H1,I1,r1,q1⟩=>?_
 obtain⟨a,e,⟨xs,hq⟩,q⟩:=q1
 subst e
 cases r1
 obtain⟨its,rv,p,hz⟩:=I1.list hq
 refine wpAny_pyIter_list p.isList ?_
 refine⟨s1.heap.objs.size,[s1.heap.objs.size],_,_,H1,rfl,I1.kept (t':=s1.toks) λb o e=>Heap.get?_push_of_some _ e,oZ a _,⟨_,Heap.get?_push_size _ rfl,rfl,rfl⟩,λb hb=>?_,q⟩
 have e:b=s1.heap.objs.size:=by simpa using hb
 subst e
 exact I1.rL (Nat.le_refl _) (I1.hok.fresh (Nat.le_refl _))
theorem zI{pins:List (WN×Obj)}{σ:St}{H:Hp}{s:WT}{R:It->Hp->Prop}{E:WU->WT->Prop}{lo hi:Int}{t u v:Tok}{tk:Nat}(I:Inv X pins σ H s)(h1:-(2 ^ 62)<=lo)(h2:lo < 2 ^ 62)(h3:-(2 ^ 62)<=hi)(h4:hi < 2 ^ 62)
  (q:R (Dh lo (hi - lo).toNat) H):W8 (model X.prog X.w) X.A (pyIter (.ref s.heap.objs.size)) (OA X pins σ tg R) E { s with heap:=s.heap.push { cls:=.type "range",data:=.fields #[.int lo t,.int hi u,.int 1 v] },toks:=tk }:=by
 refine wpAny_pyIter_range (IsRange.new ..) (small_one h1 h2 h3 h4) ?_
 have I1:Inv X pins σ H { s with heap:=s.heap.push { cls:=.type "range",data:=.fields #[.int lo t,.int hi u,.int 1 v] },toks:=tk }:=I.kept λb o e=>Heap.get?_push_of_some _ e
 refine⟨(s.heap.push { cls:=.type "range",data:=.fields #[.int lo t,.int hi u,.int 1 v] }).objs.size,[(s.heap.push { cls:=.type "range",data:=.fields #[.int lo t,.int hi u,.int 1 v] }).objs.size],_,_,H,rfl,
  I1.kept (t':=tk) λb o e=>Heap.get?_push_of_some _ e,gB _ lo (hi - lo).toNat,?_,λb hb=>?_,q⟩
 ·have e1:lo+((0:Nat):Int) * 1=lo:=by simp
  have e2:(((hi - lo).toNat:Nat):Int) - ((0:Nat):Int)=Builtin.Range.rangeSize lo hi 1:=by rw[rangeSize_one];split<;>omega
  show IsRangeIter _ _ (lo+((0:Nat):Int) * 1) ((((hi - lo).toNat:Nat):Int) - ((0:Nat):Int)) 1
  rw[e1,e2]
  exact Heap.get?_push_size _ rfl
 ·have e:b=(s.heap.push { cls:=.type "range",data:=.fields #[.int lo t,.int hi u,.int 1 v] }).objs.size:=by simpa using hb
  subst e
  exact I1.rL (Nat.le_refl _) (I1.hok.fresh (Nat.le_refl _))
def FH(ta:TA):TI:=λσ H R=>ta σ H λvs H1=>∃j:Int,vs=[.int j]/\-(2 ^ 62)<=j/\j < 2 ^ 62/\R (Dh 0 j.toNat) H1
theorem o_{a:Expr}{ta:TA}{p pos:Pos}(hg:Gl X "range")(hm:X.mg "range"=none)(ha:PA X [a] ta)(hs:W7 [a] X.env=[(false,eval a X.env)]:=by rfl):PI X tg (.Call (.Name "range" p) [a] [] pos) (FH ta):=by
 intro pins s σ H R I h
 refine Call_ (iw I hg hm boot_range (PyProof.Rows.callWith_type1 (aM (ha pos pins s σ H _ I h) λus s1 ⟨vs,H1,I1,r1,q1⟩=>?_) hs rfl))
 obtain⟨j,e,q1,q2,q⟩:=q1
 subst e
 cases r1 with
 | cons r rr=>
  cases rr
  obtain⟨t,rfl⟩:=r
  exact call_range_1 (zI I1 (by omega) (by omega) q1 q2 (by simpa using q))
def OC(wi:TI)(g:TG)(tb:TS):TS:=λD σ H=>wi σ H λJ H1=>∃W:Nat->Nat->St->Hp->Prop,(∃m,W 0 m σ H1)/\∀i m σ H,W i m σ H->
 (J.stop i H/\D.nx σ H)\/(J.go i H/\∃N:St->Hp->Prop,(∀σ' H',N σ' H'->∃m',m' < m/\W (i+1) m' σ' H')/\∀x H',J.rK i H x H'->g x σ H' λσ2 H2=>tb { D with nx:=N,ct:=N,bk:=D.nx } σ2 H2)
def eW(fp:List WN)(h:Heap):List (WN×Obj):=fp.filterMap λb=>(h.get? b).map λo=>(b,o)
theorem gD{fp:List WN}{h:Heap}{b:WN}{o:Obj}(hb:b∈fp)(e:h.get? b=some o):(b,o)∈eW fp h:=List.mem_filterMap.mpr ⟨b,hb,by rw[e];rfl⟩
theorem xM{fp:List WN}{h:Heap}{p:WN×Obj}(hp:p∈eW fp h):p.1∈fp/\h.get? p.1=some p.2:=by
 obtain⟨b,hb,e⟩:=List.mem_filterMap.mp hp
 cases q:h.get? b with
 | none=>rw[q] at e;cases e
 | some o=>
  rw[q] at e
  have e':(b,o)=p:=Option.some.inj e
  subst e'
  exact⟨hb,q⟩
theorem Inv.pinned{pins:List (WN×Obj)}{σ:St}{H:Hp}{s:WT}{fp:List WN}(I:Inv X pins σ H s)(hf:∀b∈fp,eD X pins H b)(ho:∀b∈fp,∃o,s.heap.get? b=some o/\∀v,o.data≠.cell v):Inv X (pins++eW fp s.heap) σ H s :=
 I.vY λp hp=>(List.mem_append.mp hp).elim (λz=>I.pin p (List.mem_append_right _ z)) λz=>by
  obtain⟨hb,e⟩:=xM z
  obtain⟨f0,f1,f2,_⟩:=hf p.1 hb
  obtain⟨o,e',d⟩:=ho p.1 hb
  rw[e] at e';cases e'
  exact⟨e,f0,f1,f2,d⟩
theorem Inv.jQ{pins pl:List (WN×Obj)}{σ:St}{H:Hp}{s:WT}(I:Inv X (pins++pl) σ H s):Inv X pins σ H s:=I.vY λp hp=>I.pin p (List.mem_append_right _ (List.mem_append_left _ hp))
theorem kH{iter:Expr}{body:List Stmt}{wi:TI}{g:TG}{tb:TS}{pos:Pos}(hp:PassesOwn (model X.prog X.w) X.A X.env X.xe)(hc:X.calm=true)(hi:PI X tg iter wi)(hg:PG X tg g)(hb:zk X body tb)
  (hs:∀x,W3 iter X.env x=pure x:=by intro _;rfl):PS X (.For tg iter body [] pos) (OC wi g tb):=by
 intro pins s σ H D I h
 refine wpAny_For (aM (hi pins s σ H _ I h) λv s1 h1=>aM h1 λitv s2 h2=>?_) hs
 obtain⟨it,fp,tn,J,H2,e,I2,T,st2,f2,W,⟨m0,w0⟩,turn⟩:=h2
 subst e
 -- what stays true of the G_ objects through the loop
 have Ha:∀{H':Hp},(∀b∈fp,H' b=none)->∀b∈fp,eD X pins H' b:=λhn b hb=>⟨hn b hb,(f2 b hb).2⟩
 refine codeAny_forLoop_any (λn s'=>∃i σ' H',Inv X pins σ' H' s'/\tn i s'.heap/\(∀b∈fp,H' b=none)/\W i n σ' H') ?_ m0 ⟨0,σ,H2,I2,st2,λb hb=>(f2 b hb).1,w0⟩
 rintro n s3 ⟨i,σ3,H3,I3,st3,Rt,w3⟩
 rcases turn i n σ3 H3 w3 with ⟨stop,qn⟩ | ⟨go,N,hN,step⟩
 ·refine wpAny_passesOwn hp (aM (T.done X rfl rfl rfl hc i pins s3 σ3 H3 X.xe I3 (Ha Rt) st3 stop) λr s4 ⟨hr,I4⟩=>?_)
  subst hr
  exact wpAny_execs_nil ⟨σ3,H3,I4,qn⟩
 ·refine wpAny_passesOwn hp (aM (T.item X rfl rfl rfl hc i pins s3 σ3 H3 X.xe I3 (Ha Rt) st3 go) λr s4 ⟨u,hr,h4⟩=>?_)
  subst hr
  refine wpAny_passesOwn hp (aM h4 λ_ s5 ⟨x,H5,I5,r5,y5,zJ,Nm⟩=>?_)
  have Tj:=I5.pinned (Ha Nm) (T.obj _ _ zJ)
  refine wpAny_passesOwn hp (aM (hg _ s5 σ3 H5 x u _ Tj r5 (step x H5 y5)) λ_ s6 ⟨σ6,H6,I6,q6⟩=>?_)
  refine wpAny_passesOwn hp (aM (hb _ s6 σ6 H6 _ I6 q6) λf s7 q7=>?_)
  have again:∀{σ7:St}{H7:Hp},Inv X (pins++eW fp s5.heap) σ7 H7 s7->N σ7 H7->∃m,m < n/\∃i σ' H',Inv X pins σ' H' s7/\tn i s7.heap/\(∀b∈fp,H' b=none)/\W i m σ' H':=λ{σ7 H7} I7 n7=>by
   obtain⟨m',hm,w7⟩:=hN σ7 H7 n7
   refine⟨m',hm,i+1,σ7,H7,I7.jQ,T.keep _ _ _ zJ λb hb o e=>(I7.pin (b,o) (List.mem_append_right _ (List.mem_append_right _ (gD hb e)))).1,λb hb=>?_,w7⟩
   obtain⟨o,e,d⟩:=T.obj _ _ zJ b hb
   exact(I7.pin (b,o) (List.mem_append_right _ (List.mem_append_right _ (gD hb e)))).2.1
  cases f with
  | next=>obtain⟨σ7,H7,I7,n7⟩:=q7;exact again I7 n7
  | cont=>obtain⟨σ7,H7,I7,n7⟩:=q7;exact again I7 n7
  | brk=>obtain⟨σ7,H7,I7,q7⟩:=q7;exact⟨σ7,H7,I7.jQ,q7⟩
  | ret v=>obtain⟨x7,σ7,H7,I7,r7,q7⟩:=q7;exact⟨x7,σ7,H7,I7.jQ,r7,q7⟩
end
end L2
namespace L2
open PySem PySem.Spec PyProof.Rows
abbrev R2:=V->V->Hp->VK->Prop
def dm(X:Cx)(f:WU->WU->Sem WU)(r:R2):Prop :=
 ∀(pins:List (WN×Obj))(s:WT)(σ:St)(H:Hp)(x y:V)(v u:WU)(Q:VK),Inv X pins σ H s->RelV x v->RelV y u->r x y H Q->
  W8 (model X.prog X.w) X.A (f v u) (EP X pins σ Q) X.xe s
def OD(X:Cx)(f:WU->Sem WU)(r:V->Hp->VK->Prop):Prop :=
 ∀(pins:List (WN×Obj))(s:WT)(σ:St)(H:Hp)(x:V)(v:WU)(Q:VK),Inv X pins σ H s->RelV x v->r x H Q->
  W8 (model X.prog X.w) X.A (f v) (EP X pins σ Q) X.xe s
def cC(X:Cx)(f:WU)(r:List V->Hp->VK->Prop):Prop :=
 ∀(pins:List (WN×Obj))(s:WT)(σ:St)(H:Hp)(xs:List V)(us:List WU)(Q:VK),Inv X pins σ H s->Vals xs us->r xs H Q->
  W8 (model X.prog X.w) X.A (call f us) (EP X pins σ Q) X.xe s
def OE(X:Cx)(r:V->Hp->(Bool->Hp->Prop)->Prop):Prop :=
 ∀(pins:List (WN×Obj))(s:WT)(σ:St)(H:Hp)(x:V)(v:WU)(Q:Bool->Hp->Prop),Inv X pins σ H s->RelV x v->r x H Q->
  W8 (model X.prog X.w) X.A (truthy v) (TP X pins σ Q) X.xe s
def K_(r:R2)(ta tb:TE):TE:=λσ H Q=>ta σ H λx H1=>tb σ H1 λy H2=>r x y H2 Q
def Tn(r:V->Hp->VK->Prop)(ta:TE):TE:=λσ H Q=>ta σ H λx H1=>r x H1 Q
def rI(C:Int->Int->Prop)(g:Int->Int->V):R2:=λx y H Q=>∃i j,x= .int i/\y= .int j/\C i j/\Q (g i j) H
def FI(g:Int->Int->V):R2:=λx y H Q=>∃i j,x= .int i/\y= .int j/\Q (g i j) H
def rU(g:Int->V):V->Hp->VK->Prop:=λx H Q=>∃i,x= .int i/\Q (g i) H
section
variable {X:Cx} {a b c:Expr} {ta tb tc:TE} {pos:Pos}
theorem Hd(ha:PE X a ta)(hb:PE X b tb){pins:List (WN×Obj)}{s:WT}{σ:St}{H:Hp}{R:V->V->Hp->Prop}(I:Inv X pins σ H s)
  (h:ta σ H λx H1=>tb σ H1 λy H2=>R x y H2){Q:WU->WT->Prop}{f:WU->WU->Sem WU}
  (hf:∀v u s2 x y H2,Inv X pins σ H2 s2->RelV x v->RelV y u->R x y H2->W8 (model X.prog X.w) X.A (f v u) Q X.xe s2) :
  W8 (model X.prog X.w) X.A (eval a X.env) (λv s₁=>W8 (model X.prog X.w) X.A (eval b X.env) (λu s₂=>W8 (model X.prog X.w) X.A (f v u) Q X.xe s₂) X.xe s₁) X.xe s:=by
 refine aM (ha pins s σ H _ I h) λv s1 ⟨x,H1,I1,r1,q1⟩=>?_
 refine aM (hb pins s1 σ H1 _ I1 q1) λu s2 ⟨y,H2,I2,r2,q2⟩=>?_
 exact hf v u s2 x y H2 I2 r1 r2 q2
theorem K'{op:Operator}{r:R2}(ho:dm X (WX op) r)(ha:PE X a ta)(hb:PE X b tb):PE X (.BinOp a op b pos) (K_ r ta tb):=by
 intro pins s σ H Q I h
 exact wpAny_BinOp (Hd ha hb I h λv u s2 x y H2 I2 rx ry q=>ho pins s2 σ H2 x y v u Q I2 rx ry q)
theorem La{op:UnaryOp}{r:V->Hp->VK->Prop}(ho:OD X (unaryOp op) r)(ha:PE X a ta):PE X (.UnaryOp op a pos) (Tn r ta):=by
 intro pins s σ H Q I h
 exact UnaryOp_ (aM (ha pins s σ H _ I h) λv s1 ⟨x,H1,I1,r1,q1⟩=>ho pins s1 σ H1 x v Q I1 r1 q1)
theorem Nn{f:WU->WU->Sem WU}{C:Int->Int->Prop}{g:Int->Int->Int}
  (rule:∀(i j:Int)(t u:Tok)(s:WT)(Q:WU->WT->Prop)(E:WU->WT->Prop),C i j->Q (.int (g i j) s.toks) { s with toks:=s.toks+1 }->W8 (model X.prog X.w) X.A (f (.int i t) (.int j u)) Q E s) :
  dm X f (rI C λi j=> .int (g i j)):=by
 intro pins s σ H x y v u Q I rx ry h
 obtain⟨i,j,rfl,rfl,hc,q⟩:=h
 obtain⟨t,rfl⟩:=rx
 obtain⟨t',rfl⟩:=ry
 exact rule i j t t' s _ _ hc ⟨.int (g i j),H,I.tok _,⟨_,rfl⟩,q⟩
theorem Lb{f:WU->WU->Sem WU}{g:Int->Int->Int}
  (rule:∀(i j:Int)(t u:Tok)(s:WT)(Q:WU->WT->Prop)(E:WU->WT->Prop),Q (.int (g i j) s.toks) { s with toks:=s.toks+1 }->W8 (model X.prog X.w) X.A (f (.int i t) (.int j u)) Q E s) :
  dm X f (FI λi j=> .int (g i j)):=by
 intro pins s σ H x y v u Q I rx ry h
 obtain⟨i,j,rfl,rfl,q⟩:=h
 obtain⟨t,rfl⟩:=rx
 obtain⟨t',rfl⟩:=ry
 exact rule i j t t' s _ _ ⟨.int (g i j),H,I.tok _,⟨_,rfl⟩,q⟩
theorem Dj{f:WU->WU->Sem WU}{g:Int->Int->Bool}
  (rule:∀(i j:Int)(t u:Tok)(s:WT)(Q:WU->WT->Prop)(E:WU->WT->Prop),Q (.bool (g i j)) s->W8 (model X.prog X.w) X.A (f (.int i t) (.int j u)) Q E s) :
  dm X f (FI λi j=> .bl (g i j)):=by
 intro pins s σ H x y v u Q I rx ry h
 obtain⟨i,j,rfl,rfl,q⟩:=h
 obtain⟨t,rfl⟩:=rx
 obtain⟨t',rfl⟩:=ry
 exact rule i j t t' s _ _ ⟨.bl (g i j),H,I,rfl,q⟩
def OF(i j:Int):Prop:=0<=j/\j<=1000000/\i.natAbs < 2 ^ 64
theorem Hf:dm X (WX .Add) (FI λi j=> .int (i+j)):=Lb λ_ _ _ _ _ _ _ q=>add_int q
theorem Hg:dm X (WX .Sub) (FI λi j=> .int (i - j)):=Lb λ_ _ _ _ _ _ _ q=>sub_int q
theorem Hh:dm X (WX .Pow) (rI OF λi j=> .int (i ^ j.toNat)):=Nn λ_ _ _ _ _ _ _ hc q=>pow_int_small hc.1 hc.2.1 hc.2.2 q
theorem To{f:WU->Sem WU}{g:Int->Int}
  (rule:∀(i:Int)(t:Tok)(s:WT)(Q:WU->WT->Prop)(E:WU->WT->Prop),Q (.int (g i) s.toks) { s with toks:=s.toks+1 }->W8 (model X.prog X.w) X.A (f (.int i t)) Q E s) :
  OD X f (rU λi=> .int (g i)):=by
 intro pins s σ H x v Q I rx h
 obtain⟨i,rfl,q⟩:=h
 obtain⟨t,rfl⟩:=rx
 exact rule i t s _ _ ⟨.int (g i),H,I.tok _,⟨_,rfl⟩,q⟩
theorem Hj:OD X (unaryOp .USub) (rU λi=> .int (-i)):=To λ_ _ _ _ _ q=>neg_int q
end
section
variable {X:Cx} {a b c:Expr} {ta tb tc:TE} {pos:Pos}
theorem qe{pins:List (WN×Obj)}{σ:St}{H:Hp}{s:WT}{Q:VK}{k k':Bool}(I:Inv X pins σ H s)(q:Q (.bl k) H)(e:k=k'):EP X pins σ Q (.bool k') s:=by
 subst e
 exact⟨.bl k,H,I,rfl,q⟩
theorem Lc:dm X (W2 .Lt) (FI λi j=> .bl (decide (i < j))):=Dj λ_ _ _ _ _ _ _ q=>lt_int q
theorem Ld:dm X (W2 .LtE) (FI λi j=> .bl (decide (i<=j))):=Dj λ_ _ _ _ _ _ _ q=>le_int q
theorem Le:dm X (W2 .Gt) (FI λi j=> .bl (decide (j < i))):=Dj λ_ _ _ _ _ _ _ q=>gt_int q
theorem Lf:dm X (W2 .GtE) (FI λi j=> .bl (decide (j<=i))):=Dj λ_ _ _ _ _ _ _ q=>ge_int q
theorem xN:dm X (W2 .Lt) (λx y H Q=>∃i j,x= .str i/\y= .str j/\Q (.bl (decide (i.cps.toList < j.cps.toList))) H):=by
 intro pins s σ H x y v u Q I rx ry h
 obtain⟨i,j,rfl,rfl,q⟩:=h
 obtain⟨t,rfl⟩:=rx
 obtain⟨t',rfl⟩:=ry
 exact lt_str (qe I q rfl)
theorem xO:dm X (W2 .In) (λx y H Q=>∃i j,x= .str i/\y= .str j/\Q (.bl (!(Builtin.Str.occurrences j i 0 j.length 1).isEmpty)) H):=by
 intro pins s σ H x y v u Q I rx ry h
 obtain⟨i,j,rfl,rfl,q⟩:=h
 obtain⟨t,rfl⟩:=rx
 obtain⟨t',rfl⟩:=ry
 exact in_str (qe I q rfl)
theorem Hk:dm X (W2 .Is) (λx y H Q=>y= .aF/\Q (.bl (decide (x= .aF))) H):=by
 intro pins s σ H x y v u Q I rx ry h
 obtain⟨rfl,q⟩:=h
 cases ry
 refine is_none_gen (qe I q ?_)
 cases x<;>first
  | (cases rx;rfl)
  | (obtain⟨t,rfl⟩:=rx;rfl)
theorem Dk:dm X (W2 .IsNot) (λx y H Q=>y= .aF/\Q (.bl (!decide (x= .aF))) H):=by
 intro pins s σ H x y v u Q I rx ry h
 obtain⟨rfl,q⟩:=h
 cases ry
 refine isnot_none_gen (qe I q ?_)
 cases x<;>first
  | (cases rx;rfl)
  | (obtain⟨t,rfl⟩:=rx;rfl)
theorem Dl{op:CmpOp}{r:R2}(ho:dm X (W2 op) r)(ha:PE X a ta)(hb:PE X b tb)(hm:WW op b=false):PE X (.Compare a [op] [b] pos) (K_ r ta tb):=by
 intro pins s σ H Q I h
 exact wpAny_Compare1 (Hd ha hb I h λv u s2 x y H2 I2 rx ry q=>ho pins s2 σ H2 x y v u Q I2 rx ry q) hm
def FJ(t:TE):TT:=λσ H Q=>t σ H λx H'=>∃k,x= .bl k/\Q k H'
theorem Dm{op:CmpOp}{r:R2}(ho:dm X (W2 op) r)(ha:PE X a ta)(hb:PE X b tb)(hm:WW op b=false):PT X (.Compare a [op] [b] pos) (FJ (K_ r ta tb)):=by
 intro pins s σ H Q I h
 refine wpAny_isTrue_Compare1 (aM (ha pins s σ H _ I h) λv s1 ⟨x,H1,I1,r1,q1⟩=>aM (hb pins s1 σ H1 _ I1 q1) λu s2 ⟨y,H2,I2,r2,q2⟩=>
  aM (ho pins s2 σ H2 x y v u _ I2 r1 r2 q2) λc s3 ⟨z,H3,I3,r3,k,e,q3⟩=>?_) hm
 subst e
 cases r3
 exact Xf ⟨H3,I3,q3⟩
def ux(r r':R2)(ta tb tc:TE):TE:=λσ H Q=>ta σ H λx H1=>tb σ H1 λy H2=>r x y H2 λz H3=>∃k,z= .bl k/\
 (if k=true then tc σ H3 λw' H4=>r' y w' H4 Q else Q (.bl false) H3)
theorem zK{op op':CmpOp}{r r':R2}(ho:dm X (W2 op) r)(ho':dm X (W2 op') r')(ha:PE X a ta)(hb:PE X b tb)(hc:PE X c tc)
  (hm:lastMarks [op,op'] [b,c]=false:=by with_unfolding_all rfl):PE X (.Compare a [op,op'] [b,c] pos) (ux r r' ta tb tc):=by
 intro pins s σ H Q I h
 refine Compare_chain (aM (ha pins s σ H _ I h) λv s1 ⟨x,H1,I1,r1,q1⟩=>chain_link (aM (hb pins s1 σ H1 _ I1 q1) λu s2 ⟨y,H2,I2,r2,q2⟩=>
  aM (ho pins s2 σ H2 x y v u _ I2 r1 r2 q2) λd s3 ⟨z,H3,I3,r3,k,e,q3⟩=>?_)) hm
 subst e
 cases r3
 refine Xf ?_
 cases k with
 | false=>exact ite_ff ⟨.bl false,H3,I3,rfl,q3⟩
 | true=>exact ite_tt (chain_last (aM (hc pins s3 σ H3 _ I3 q3) λw' s4 ⟨z',H4,I4,r4,q4⟩=>ho' pins s4 σ H4 y z' u w' Q I4 r2 r4 q4))
theorem zL{op op':CmpOp}{r r':R2}(ho:dm X (W2 op) r)(ho':dm X (W2 op') r')(ha:PE X a ta)(hb:PE X b tb)(hc:PE X c tc)
  (hm:lastMarks [op,op'] [b,c]=false:=by with_unfolding_all rfl):PT X (.Compare a [op,op'] [b,c] pos) (FJ (ux r r' ta tb tc)):=by
 intro pins s σ H Q I h
 refine isTrue_chain (aM (ha pins s σ H _ I h) λv s1 ⟨x,H1,I1,r1,q1⟩=>test_link (aM (hb pins s1 σ H1 _ I1 q1) λu s2 ⟨y,H2,I2,r2,q2⟩=>
  aM (ho pins s2 σ H2 x y v u _ I2 r1 r2 q2) λd s3 ⟨z,H3,I3,r3,k,e,q3⟩=>?_)) hm
 subst e
 cases r3
 refine Xf ?_
 cases k with
 | false=>
  obtain⟨k',e',q'⟩:=q3
  cases e'
  exact ite_ff ⟨H3,I3,q'⟩
 | true=>
  refine ite_tt (test_last (aM (hc pins s3 σ H3 _ I3 q3) λw' s4 ⟨z',H4,I4,r4,q4⟩=>aM (ho' pins s4 σ H4 y z' u w' _ I4 r2 r4 q4) λd' s5 ⟨z2,H5,I5,r5,k2,e2,q5⟩=>?_))
  subst e2
  cases r5
  exact Xf ⟨H5,I5,q5⟩
def Lg(K:PySem.W.Frag)(x:V)(H:Hp)(k:Bool):Prop :=
 match x with
 | .aF=>k=false
 | .bl b=>k=b
 | .int i=>k=(i != 0)
 | .str y=>y.length<=W6/\k=((y.length:Int) != 0)
 | .Kx y=>y.size<=W6/\k=((y.size:Int) != 0)
 | .ref p=>(∃xs,ij K H p xs/\k= !xs.isEmpty)\/(∃xs,dU K H p xs/\k= !xs.isEmpty)\/∃kvs,H p=some (.dK kvs)/\k= !kvs.isEmpty
 | _=>False
theorem uy{κ:Type}{kvs:List (κ×V)}{vs:List (κ×WU)}(r:KV kvs vs):(!vs.isEmpty)= !kvs.isEmpty:=by
 cases r<;>rfl
theorem mG{xs:List V}{its:List WU}(r:Vals xs its):(!its.toArray.isEmpty)= !xs.isEmpty:=by
 cases r<;>simp
theorem ju:(W6:Nat) < 2 ^ 63:=by rw[sizeLine_eq];decide
theorem Hl:OE X (λx H Q=>∃k,Lg X.K x H k/\Q k H):=by
 intro pins s σ H x v Q I rx h
 obtain⟨k,e,q⟩:=h
 have hl:=ju
 have hs:W6=16777216:=sizeLine_eq
 cases x with
 | aF=>
  cases rx
  have e':k=false:=e
  subst e'
  exact truthy_none ⟨H,I,q⟩
 | bl b=>
  cases rx
  have e':k=b:=e
  subst e'
  exact Xf ⟨H,I,q⟩
 | int i=>
  obtain⟨t,rfl⟩:=rx
  have e':k=(i != 0):=e
  subst e'
  exact PySem.P.truthy_int ⟨H,I,q⟩
 | str y=>
  obtain⟨t,rfl⟩:=rx
  obtain⟨hy,e'⟩:y.length<=W6/\k=((y.length:Int) != 0):=e
  subst e'
  exact PySem.P.truthy_str (by omega) ⟨H,I.tok _,q⟩
 | Kx y=>
  obtain⟨t,rfl⟩:=rx
  obtain⟨hy,e'⟩:y.size<=W6/\k=((y.size:Int) != 0):=e
  subst e'
  exact PySem.W.truthy_bytes (by omega) ⟨H,I.tok _,q⟩
 | ref p=>
  cases rx
  have e':(∃xs,ij X.K H p xs/\k= !xs.isEmpty)\/(∃xs,dU X.K H p xs/\k= !xs.isEmpty)\/∃kvs,H p=some (.dK kvs)/\k= !kvs.isEmpty:=e
  rcases e' with ⟨xs,hx,e'⟩ | ⟨xs,hx,e'⟩ | ⟨kvs,hx,e'⟩
  ·subst e'
   obtain⟨its,r,pl,hz⟩:=I.list hx
   have hlen:=r.length
   exact wpAny_truthy_list pl.isList (by simp only[List.size_toArray];omega) ⟨H,I.tok _,by rw[mG r];exact q⟩
  ·subst e'
   obtain⟨its,r,pl,hz⟩:=I.tuple hx
   have hlen:=r.length
   exact truthy_tuple pl (by simp only[List.size_toArray];omega) ⟨H,I.tok _,by rw[mG r];exact q⟩
  ·subst e'
   obtain⟨hz,hS,vs,r,m⟩:kvs.length<=W6/\(p == sysModules)=false/\∃vs,KV kvs vs/\s.heap.DictOf (aN X.prog X.w) p vs:=I.hok p _ hx
   have hlen:kvs.length=vs.length:=Paired.length r
   exact wpAny_truthy_dict hS m (by omega) ⟨H,I.tok _,by rw[uy r];exact q⟩
 | _=>exact(show False from e).elim
theorem zM(ha:PE X a ta)(he:∀whole,isTrue a X.env whole=(do let v <-whole;standAt a.pos;holding [v] (truthy v))) :
  PT X a (λσ H Q=>ta σ H λx H'=>∃k,Lg X.K x H' k/\Q k H'):=by
 intro pins s σ H Q I h
 exact isTrue_plain (aM (ha pins s σ H _ I h) λv s1 ⟨x,H1,I1,r1,q1⟩=>Hl pins s1 σ H1 x v Q I1 r1 q1) (he _)
theorem uz:dm X (WX .Add) (λx y H Q=>∃i j,x= .str i/\y= .str j/\i.length+j.length<=W6/\Q (.str (i++j)) H):=by
 intro pins s σ H x y v u Q I rx ry h
 obtain⟨i,j,rfl,rfl,hz,q⟩:=h
 obtain⟨t,rfl⟩:=rx
 obtain⟨t',rfl⟩:=ry
 exact add_str (λt' tk=>⟨.str (i++j),H,I.tok _,⟨_,rfl⟩,q⟩) hz
theorem vals1{x:V}{us:List WU}(r:Vals [x] us):∃u,us=[u]/\RelV x u:=by
 cases r with
 | cons r1 r2=>cases r2;exact⟨_,rfl,r1⟩
theorem vals2{x y:V}{us:List WU}(r:Vals [x,y] us):∃u w',us=[u,w']/\RelV x u/\RelV y w':=by
 cases r with
 | cons r1 r2=>
  cases r2 with
  | cons r3 r4=>cases r4;exact⟨_,_,rfl,r1,r3⟩
theorem xP(hc:X.calm=true):cC X (.builtin "max") (λxs H Q=>∃i j,xs=[.int i,.int j]/\Q (.int (if j > i then j else i)) H):=by
 intro pins s σ H xs us Q I r h
 obtain⟨i,j,rfl,q⟩:=h
 obtain⟨u,w',rfl,⟨t,rfl⟩,⟨t',rfl⟩⟩:=vals2 r
 refine max_two_ints (I.ok.hd hc) λh' tk k=>⟨_,H,I.kept k,?_,q⟩
 by_cases hj:j > i
 ·rw[if_pos hj,if_pos hj];exact⟨_,rfl⟩
 ·rw[if_neg hj,if_neg hj];exact⟨_,rfl⟩
theorem xQ(hc:X.calm=true):cC X (.builtin "min") (λxs H Q=>∃i j,xs=[.int i,.int j]/\Q (.int (if j < i then j else i)) H):=by
 intro pins s σ H xs us Q I r h
 obtain⟨i,j,rfl,q⟩:=h
 obtain⟨u,w',rfl,⟨t,rfl⟩,⟨t',rfl⟩⟩:=vals2 r
 refine min_two_ints (I.ok.hd hc) λh' tk k=>⟨_,H,I.kept k,?_,q⟩
 by_cases hj:j < i
 ·rw[if_pos hj,if_pos hj];exact⟨_,rfl⟩
 ·rw[if_neg hj,if_neg hj];exact⟨_,rfl⟩
end
end L2
namespace L2
open PySem PySem.Spec PyProof.Rows
structure Tp(h:Heap)(x dx C:WN)(mA:Str->Option WU):Prop where
 obj:h.get? x=some (PySem.W.instObj C dx)
 ns:h.Ns1 dx mA
 ne:dx≠x
section
variable {prog:WS} {w:WV} {A:WO} {E:WU->WT->Prop} {s:WT} {K:PySem.W.Frag} {x dx C f:WN} {mA:Str->Option WU} {name:Str} {v:WU}
end
theorem mC.some_of{v:V}{o:Option WU}(r:mC (some v) o):∃u,o=some u/\RelV v u:=by
 cases o with
 | none=>exact(show False from r).elim
 | some u=>exact⟨u,rfl,r⟩
section
variable {P:WS} {w:WV} {H H':Hp} {h h':Heap} {a C dx:WN} {fs fs':List (Str×V)}
end
structure Tq(K:PySem.W.Frag)(C:WN):Prop where
 pg:PySem.W.plainGet K C Str.empty=true
 hd:PySem.W.hasDictIn K C=true
 po:PySem.W.plainOver K C=true
 sa:PySem.W.findIn K (.ref C) "__setattr__"=some (some (.builtin "object.__setattr__"))
structure VZ(K:PySem.W.Frag)(C:WN)(f:Str)(v:V)(u:WU):Prop where
 at_:PySem.W.findIn K (.ref C) f=some (some u)
 rel:RelV v u
 get:PySem.W.specialIn K u "__get__"=some none
 cp:PySem.W.copiedNames.contains f=false
structure Meth(K:PySem.W.Frag)(C:WN)(m:Str)(f:WN):Prop where
 at_:PySem.W.findIn K (.ref C) m=some (some (.ref f))
 fn:PySem.W.isFn K (.ref f)=true
 kp:PySem.W.keepIn K (.ref f)=true
section
variable {X:Cx} {pins:List (WN×Obj)} {σ:St} {H:Hp} {s:WT} {a C dx:WN} {fs:List (Str×V)} {f:Str} {v:V} {A:WO} {E:WU->WT->Prop}
end
section
variable {X:Cx} {o e value:Expr} {f:Str} {pos pos' tpos:Pos} {ta tv:TE}
end
section
variable {X:Cx} {pins:List (WN×Obj)} {σ:St} {H:Hp} {s:WT} {A:WO} {E:WU->WT->Prop} {Q:WU->WT->Prop} {c:WU} {b:Bool}
inductive mH(K:PySem.W.Frag)(H:Hp):V->WU->Prop where
 | aF:mH K H .aF (.type "NoneType")
 | bl (x:Bool):mH K H (.bl x) (.type "bool")
 | int (i:Int):mH K H (.int i) (.type "int")
 | str (x:Str):mH K H (.str x) (.type "str")
 | rF (x:UInt64):mH K H (.rF x) (.type "float")
 | lst {a:WN} {xs:List V} (e:H a=some (.lst xs)):mH K H (.ref a) (.type "list")
 | bU {a:WN} {o:Obj} {xs:List V} (e:H a=some (.bU o (.lst xs))):mH K H (.ref a) (.type "list")
 | tup {a:WN} {xs:List V} (e:H a=some (.tup xs)):mH K H (.ref a) (.type "tuple")
 | dK {a:WN} {kvs:List (Key×V)} (e:H a=some (.dK kvs)):mH K H (.ref a) (.type "dict")
 | dT {a:WN} {kvs:List (List Key×V)} (e:H a=some (.dT kvs)):mH K H (.ref a) (.type "dict")
 | ins {a C dx:WN} {fs:List (Str×V)} (e:H a=some (.ins C dx fs)) (cl:Tq K C) (ha:PySem.W.findIn K (.ref C) "__class__"=some (some (.builtin "object.__class__")))
   (hn:PySem.W.specialIn K (.builtin "object.__class__") "__get__"=some (some (.builtin "getset_descriptor.__get__"))) (htk:PySem.W.takesIn K (.builtin "object.__class__")=some true)
   (hm:PySem.W.mroIn K C (.type "object")=some true):mH K H (.ref a) (.ref C)
end
end L2
namespace L2
open PySem PySem.Spec PyProof.Rows
structure iy(k:Nat)(A:WO):Prop where
 hd:A.handled=none
 dp:A.depth+3 * k+5 < recursionLimit
 un:A.units+16 * k+200 < cLine
theorem iy.mono{j k:Nat}{A:WO}(r:iy k A)(h:j<=k):iy j A:=⟨r.hd,by have:=r.dp;omega,by have:=r.un;omega⟩
theorem iy.deeper{k:Nat}{A:WO}(r:iy (k+1) A)(env:Env):iy k (A.deeper env) :=
 ⟨r.hd,by have:=r.dp;show A.depth+1+3 * k+5 < _;omega,by have:=r.un;show A.units+3+16 * k+200 < _;omega⟩
theorem iy.depth{k:Nat}{A:WO}(r:iy k A):A.depth < recursionLimit:=by have:=r.dp;omega
def Lh:TA:=λ_ H Q=>Q [] H
def FK(ta:TE)(tr:TA):TA:=λσ H Q=>ta σ H λx H1=>tr σ H1 λxs H2=>Q (x::xs) H2
section
variable {X:Cx} {e:Expr} {es:List Expr} {te:TE} {t:TA} {pos:Pos}
theorem Hm:PA X [] Lh:=λ_ _ _ _ H Q I h=>Calls.spliced_nil ⟨[],H,I,.nil,h⟩
theorem Dp(ha:PE X e te)(hr:PA X es t)(hs:W7 (e::es) X.env=(false,eval e X.env)::W7 es X.env:=by rfl):PA X (e::es) (FK te t):=by
 intro pos pins s σ H Q I h
 rw[hs]
 show W8 _ _ (spliced ((false,eval e X.env)::backTo pos (W7 es X.env))) _ _ s
 refine Calls.spliced_cons (aM (ha pins s σ H _ I h) λu s1 ⟨x,H1,I1,r1,q1⟩=>?_)
 exact aM (hr pos pins s1 σ H1 _ I1 q1) λus s2 ⟨xs,H2,I2,r2,q2⟩=>⟨x::xs,H2,I2,.cons r1 r2,q2⟩
def OG(t:TA):TE:=λσ H Q=>t σ H λxs H1=>xs.length<=W6/\∀p,H1 p=none->Q (.ref p) (upd H1 p (.tup xs))
def OH(t:TA):TE:=λσ H Q=>t σ H λxs H1=>xs.length<=W6/\∀p,H1 p=none->Q (.ref p) (upd H1 p (.lst xs))
theorem Hn{x1}(h:PA X es t):PE X (.Tuple es x1 pos) (OG t):=by
 intro pins s σ H Q I hq
 refine wpAny_Tuple_spliced (aM (h pos pins s σ H _ I hq) λus s1 ⟨xs,H1,I1,r,z,q⟩=>⟨by rw[<-r.length];exact z,?_⟩)
 have hf:H1 s1.heap.objs.size=none:=I1.hok.fresh (Nat.le_refl _)
 refine⟨.ref s1.heap.objs.size,upd H1 s1.heap.objs.size (.tup xs),I1.laid (t':=s1.toks) (λb u e=>Heap.get?_push_of_some _ e) (Nat.le_refl _) ?_,rfl,q _ hf⟩
 exact⟨z,us,r,⟨_,Heap.get?_push_size _ rfl,rfl,_,rfl⟩,xF.new _ _⟩
theorem Ho(h:PA X es t):PE X (.List es pos) (OH t):=by
 intro pins s σ H Q I hq
 refine wpAny_List_spliced (aM (h pos pins s σ H _ I hq) λus s1 ⟨xs,H1,I1,r,z,q⟩=>⟨by rw[<-r.length];exact z,?_⟩)
 have hf:H1 s1.heap.objs.size=none:=I1.hok.fresh (Nat.le_refl _)
 refine⟨.ref s1.heap.objs.size,upd H1 s1.heap.objs.size (.lst xs),I1.laid (t':=s1.toks) (λb u e=>Heap.get?_push_of_some _ e) (Nat.le_refl _) ?_,rfl,q _ hf⟩
 exact⟨z,us,0,r,Heap.get?_push_size _ rfl⟩
end
abbrev Sp:=List V->Hp->VK->XK->Prop
abbrev zl:=List Env->Hp->WT->XK->WU->WT->Prop
structure uC(P:WS)(w:WV)(K:PySem.W.Frag)(mg:Str->Option WU)(base:Heap)(A:WO)(outer:List Env)(s:WT)(H:Hp):Prop where
 frames:A.frames=some outer
 mod:Mod K mg base
 bs:∀b o,base.get? b=some o->s.heap.get? b=some o/\H b=none
 C0:base.objs.size<=s.heap.objs.size
 jr:s.heap.FunFrames base outer
 C4:∀b∈frs outer,H b=none
 hok:ic P w H s.heap
 bare:AllBare s.gens
def CE(outer:List Env)(P:WS)(w:WV)(H:Hp)(s:WT)(Q:VK)(u:WU)(s':WT):Prop :=
 ∃v H',s'.os=s.os/\AllBare s'.gens/\Un (frs outer) [] H H' s.heap s'.heap/\ic P w H' s'.heap/\RelV v u/\Q v H'
def CR(CX:zl)(outer:List Env)(P:WS)(w:WV)(H:Hp)(s:WT)(Q:VK)(E:XK)(r:Result)(s':WT):Prop :=
 match r with
 | .ok (.ret u)=>CE outer P w H s Q u s'
 | .ok _=>False
 | .error e=>CX outer H s E e s'
structure FnOk(P:WS)(w:WV)(K:PySem.W.Frag)(mg:Str->Option WU)(base:Heap)(CX:zl)(k:Nat)(f:WN)(fd:WQ)(ps:List Str)(sp:Sp):Prop where
 len:∀vs H Q E,sp vs H Q E->vs.length=ps.length
 run:∀(A:WO)(outer:List Env)(s:WT)(H:Hp)(args:Args)(us:List WU)(vs:List V)(Q:VK)(E:XK),iy k A->uC P w K mg base A outer s H->BindsTo s fd args (ps.zip us)->Vals vs us->sp vs H Q E->
  WZ (model P w) A (.call (.ref f) args) (CR CX outer P w H s Q E) s
theorem FnOk.mono{P:WS}{w:WV}{K:PySem.W.Frag}{mg:Str->Option WU}{base:Heap}{CX:zl}{j k:Nat}{f:WN}{fd:WQ}{ps:List Str}{sp:Sp}(F:FnOk P w K mg base CX j f fd ps sp)(h:j<=k) :
  FnOk P w K mg base CX k f fd ps sp:=⟨F.len,λA outer s H args us vs Q E hr=>F.run A outer s H args us vs Q E (hr.mono h)⟩
section
variable {X:Cx} {pins:List (WN×Obj)} {σ:St} {H:Hp} {s s':WT}
theorem Inv.Li(I:Inv X pins σ H s):uC X.prog X.w X.K X.mg X.base X.A X.stack s H :=
 ⟨I.ok.frames,I.ok.mod,I.bs,Nat.le_trans I.ok.C0 I.sz,I.stack,I.jM,I.hok,I.bare⟩
theorem Inv.after{Q:VK}{u:WU}(I:Inv X pins σ H s)(h:CE X.stack X.prog X.w H s Q u s'):EP X pins σ Q u s':=by
 obtain⟨v,H',os,bare,un,hok,r,q⟩:=h
 obtain⟨hh,g,d,t,os'⟩:=s'
 obtain rfl:os'=s.os:=os
 exact⟨v,H',I.call (h':=hh) (g':=g) (d':=d) (t':=t) (ch:=[]) un hok bare (λb z=>absurd z (by simp)),r,q⟩
end
def Binds(K:PySem.W.Frag)(fd:WQ)(ps:List Str)(ds:List WU):Prop :=
 ∀(s:WT)(us:List WU),K.In s.heap->(us++ds).length=ps.length->BindsTo s fd ⟨us,[]⟩ (ps.zip (us++ds))
theorem Binds.all{K:PySem.W.Frag}{fd:WQ}{ps:List Str}(h:∀us:List WU,us.length=ps.length->bindArgs fd ⟨us,[]⟩=pure (ps.zip us)):Binds K fd ps []:=λs us _ hl=>by
 rw[List.append_nil] at hl ⊢
 exact .of_eq (h us hl)
section
variable {X:Cx} {CX:zl} {k:Nat} {f C:WN} {fd:WQ} {ps:List Str} {sp:Sp} {V1:List V} {ds:List WU} {E:XK} {x m:Str} {p pos apos:Pos} {e o:Expr} {es:List Expr} {ta:TE} {t:TA}
structure Mk(K:PySem.W.Frag)(C f:WN):Prop where
 makes:PySem.W.makesIn K C=true
 init:PySem.W.findIn K (.ref C) "__init__"=some (some (.ref f))
 fn:PySem.W.isFn K (.ref f)=true
 kp:PySem.W.keepIn K (.ref C)=true
end
def PK(X:Cx)(kws:List Keyword)(t:TA):Prop :=
 ∀(pos:Pos)(pins:List (WN×Obj))(s:WT)(σ:St)(H:Hp)(Q:List V->Hp->Prop),Inv X pins σ H s->t σ H Q->W8 (model X.prog X.w) X.A (evalAll ((backToKw pos (keywordEach kws X.env)).map (·.2))) (AP X pins σ Q) X.xe s
section
variable {X:Cx} {CX:zl} {k:Nat} {f C:WN} {fd:WQ} {ps ks:List Str} {sp:Sp} {E:XK} {x m:Str} {p pos apos kpos:Pos} {e o:Expr} {es:List Expr} {kws:List Keyword} {te ta:TE} {t tk:TA} {nm:Option Str}
theorem zN:PK X [] Lh:=λ_ _ _ _ H Q I h=>wpAny_evalAll_nil ⟨[],H,I,.nil,h⟩
theorem vZ(ha:PE X e te)(hr:PK X kws t):PK X (⟨nm,e,kpos⟩::kws) (FK te t):=by
 intro pos pins s σ H Q I h
 show W8 _ _ (evalAll ((do let v <-eval e X.env;standAt pos;pure v)::(backToKw pos (keywordEach kws X.env)).map (·.2))) _ _ s
 refine wpAny_evalAll_cons (W9 (aM (ha pins s σ H _ I h) λu s1 ⟨x,H1,I1,r1,q1⟩=>W9 (wpAny_standAt (Xe ?_))))
 exact aM (hr pos pins s1 σ H1 _ I1 q1) λus s2 ⟨xs,H2,I2,r2,q2⟩=>⟨x::xs,H2,I2,.cons r1 r2,q2⟩
structure OI(K:PySem.W.Frag)(fd:WQ)(ps ks:List Str)(g:List WU->List WU->List WU)(gV:List V->List V->List V):Prop where
 to:∀(s:WT)(us ws:List WU),K.In s.heap->(g us ws).length=ps.length->BindsTo s fd ⟨us,ks.zip ws⟩ (ps.zip (g us ws))
 rel:∀{vs:List V}{us:List WU}{zs:List V}{ws:List WU},Vals vs us->Vals zs ws->Vals (gV vs zs) (g us ws)
variable {g:List WU->List WU->List WU} {gV:List V->List V->List V}
end
structure FnScope(N P:List Str)(sc:Scope):Prop where
 kind:sc.kind= .function
 co:sc.isCoroutine=false
 gen:sc.isGenerator=false
 nd:N.Nodup
 pre:N.take P.length=P
 par:∀x∈P,sc.names.lookup x=some .local\/sc.names.lookup x=some .cell
 Hq:∀y∈sc.names,y.2≠.free
theorem pe{kindOf:Str->Option WR}{x:Str}:∀{binds:List (Str×WU)}{m:Str->Option WU},(∀v,(x,v)∉binds)->bindL kindOf binds m x=m x
 | [],_,_=>rfl
 | (n,v)::r,m,h=>by
  unfold bindL
  rw[pe λw hw=>h w (List.mem_cons_of_mem _ hw)]
  split
  ·have:x≠n:=by rintro rfl;exact h v List.mem_cons_self
   simp[this]
  ·rfl
theorem pf{kindOf:Str->Option WR}{x:Str}:∀{binds:List (Str×WU)}{m:Str->Option WU},(∀v,(x,v)∉binds)->bindC kindOf binds m x=m x
 | [],_,_=>rfl
 | (n,v)::r,m,h=>by
  unfold bindC
  rw[pf λw hw=>h w (List.mem_cons_of_mem _ hw)]
  split
  ·rfl
  ·have:x≠n:=by rintro rfl;exact h v List.mem_cons_self
   simp[this]
theorem ph{kindOf:Str->Option WR}{x:Str}{v:WU}:∀{P:List Str}{vs:List WU}{i:Nat}{m:Str->Option WU},P.Nodup->P[i]? =some x->vs[i]? =some v->kindOf x=some .local->
  bindL kindOf (P.zip vs) m x=some v
 | [],_,_,_,_,h,_,_=>by simp at h
 | _::_,[],_,_,_,_,h,_=>by simp at h
 | p::P,w::vs,0,m,nd,h1,h2,hk=>by
  simp at h1 h2;subst h1;subst h2
  show bindL kindOf ((p,w)::P.zip vs) m p=_
  unfold bindL
  rw[pe λv hv=>(List.nodup_cons.mp nd).1 (List.of_mem_zip hv).1,if_pos hk]
  simp
 | p::P,w::vs,i+1,m,nd,h1,h2,hk=>by
  show bindL kindOf ((p,w)::P.zip vs) m x=_
  unfold bindL
  exact ph (i:=i) (List.nodup_cons.mp nd).2 (by simpa using h1) (by simpa using h2) hk
theorem pj{kindOf:Str->Option WR}{x:Str}{v:WU}:∀{P:List Str}{vs:List WU}{i:Nat}{m:Str->Option WU},P.Nodup->P[i]? =some x->vs[i]? =some v->kindOf x≠some .local->
  bindC kindOf (P.zip vs) m x=some v
 | [],_,_,_,_,h,_,_=>by simp at h
 | _::_,[],_,_,_,_,h,_=>by simp at h
 | p::P,w::vs,0,m,nd,h1,h2,hk=>by
  simp at h1 h2;subst h1;subst h2
  show bindC kindOf ((p,w)::P.zip vs) m p=_
  unfold bindC
  rw[pf λv hv=>(List.nodup_cons.mp nd).1 (List.of_mem_zip hv).1,if_neg hk]
  simp
 | p::P,w::vs,i+1,m,nd,h1,h2,hk=>by
  show bindC kindOf ((p,w)::P.zip vs) m x=_
  unfold bindC
  exact pj (i:=i) (List.nodup_cons.mp nd).2 (by simpa using h1) (by simpa using h2) hk
def start(N:List Str)(vs:List V):St:=vs.map some++List.replicate (N.length - vs.length) none
def mI(CX:zl)(P:WS)(w:WV)(K:PySem.W.Frag)(mg:Str->Option WU)(base:Heap)(N:List Str)(qual:Str)(scope:Scope)(f:WN)(cd:WU)(A:WO)(outer:List Env)(s:WT)(H:Hp)(E:XK):Cx where
 prog:=P
 w:=w
 K:=K
 mg:=mg
 base:=base
 A:=A.deeper (envOfC qual scope s.heap.objs.size f cd)
 N:=N
 s₀:=s
 H₀:=H
 env:=envOfC qual scope s.heap.objs.size f cd
 outer:=outer
 stack:=envOfC qual scope s.heap.objs.size f cd::outer
 ex:=[]
 calm:=true
 fn:=λ_=>true
 pn:=[]
 xe:=λe s'=>W8 (model P w) (A.deeper (envOfC qual scope s.heap.objs.size f cd)) (leaving (envOfC qual scope s.heap.objs.size f cd) e) (λ_ s''=>CX outer H s E e s'') (λe' s''=>CX outer H s E e' s'') s'
theorem rM{sc:Scope}{n:Nat}{x:Str}(h:sc.names.lookup x=some .cell):∃c,(cellsFrom n sc.names []).lookup x=some c:=by
 have q:=PySem.W.cellsFrom_some sc.names n [] (.inl h)
 exact Option.isSome_iff_exists.mp q
theorem pk{CX:zl}{P:WS}{w:WV}{K:PySem.W.Frag}{mg:Str->Option WU}{base:Heap}{N ps:List Str}{qual:Str}{scope:Scope}{f:WN}{cd:WU}{A:WO}{outer:List Env}{s s1:WT}{H:Hp}{E:XK}{us:List WU}{vs:List V}
  (S:FnScope N ps scope)(hd:A.handled=none)(e0:uC P w K mg base A outer s H)(hl:vs.length=ps.length)(r:Vals vs us)
  (x:InCallC s s.heap.objs.size (bindL (envOfC qual scope s.heap.objs.size f cd).kindOf (ps.zip us) λ_=>none) (cellsFrom (s.heap.objs.size+1) scope.names []) (bindC (envOfC qual scope s.heap.objs.size f cd).kindOf (ps.zip us) λ_=>none) s1) :
  Inv (mI CX P w K mg base N qual scope f cd A outer s H E) [] (start N vs) H s1:=by
 have hpl:ps.length<=N.length:=by have:=congrArg List.length S.pre;rw[List.length_take] at this;omega
 obtain⟨h1,tk,rfl,hk⟩:=x.done
 have Lj:∀b:WN,b∉(mI CX P w K mg base N qual scope f cd A outer s H E).ex:=λb z=>absurd (show b∈([]:List WN) from z) (by simp)
 refine⟨⟨e0.mod,S.kind,rfl,rfl,Nat.le_refl _,λy z c h1 h2=>?_,λy hy=>?_,λy c _ h=>?_,λ_=>hd,Around.frames_deeper e0.frames,.inr ⟨rfl,rfl⟩,λb z=>absurd z (Lj b),e0.bs,e0.C0,λb _ _=>Lj b,λb z=>absurd z (Lj b),e0.jr,e0.C4⟩,
  rfl,e0.bare,Un.kept hk,⟨_,x.toInCall.ns,λi y v h1 h2 h3=>?_⟩,λy c h=>⟨_,x.cell y c h⟩,e0.hok.fresh (Nat.le_refl _),λy c h=>?_,λp hp=>absurd (show p∈([]:List (WN×Obj)) from hp) (by simp),e0.hok.kept hk,?_⟩
 ·exact name_of_addr x.apart (PySem.mem_of_lookup h1) (PySem.mem_of_lookup h2)
 ·have hy:scope.names.lookup y=some .cell\/scope.names.lookup y=some .free:=hy
  rcases hy with hy | hy
  ·exact rM hy
  ·exact absurd rfl (S.Hq _ (PySem.mem_of_lookup hy))
 ·exact Nat.le_of_lt (x.above y c (PySem.mem_of_lookup h))
 ·have hi:i < vs.length:=by
   unfold start at h2
   by_cases hi:i < vs.length
   ·exact hi
   ·rw[List.getElem?_append_right (by simpa using hi)] at h2
    rw[List.getElem?_replicate] at h2
    split at h2<;>cases h2
  have ha:vs[i]? =some v:=by
   unfold start at h2
   rw[List.getElem?_append_left (by simpa using hi),List.getElem?_map] at h2
   cases e:vs[i]? with
   | none=>rw[e] at h2;cases h2
   | some a=>rw[e] at h2;cases h2;rfl
  obtain⟨u,hu,rv⟩:=r.get ha
  have hp:ps[i]? =some y:=by
   rw[<-S.pre,List.getElem?_take_of_lt (by omega)];exact h1
  have Ru:ps.Nodup:=by rw[<-S.pre];exact S.nd.sublist (List.take_sublist _ _)
  refine⟨u,rv,?_⟩
  rcases S.par y (List.mem_of_getElem? hp) with k | k
  ·exact .inl ⟨k,ph Ru hp hu k⟩
  ·obtain⟨c,e⟩:=rM (n:=s.heap.objs.size+1) k
   refine .inr ⟨.inl k,c,e,?_⟩
   have q:=x.cell y c e
   rw[pj Ru hp hu (by show scope.names.lookup y≠_;rw[k];decide)] at q
   exact q
 ·exact e0.hok.fresh (Nat.le_of_lt (x.above y c (PySem.mem_of_lookup h)))
 ·unfold start
  show _=N.length
  rw[List.length_append,List.length_map,List.length_replicate]
  omega
theorem Lk{CX:zl}{P:WS}{w:WV}{K:PySem.W.Frag}{mg:Str->Option WU}{base:Heap}{k:Nat}{f:WN}{name qual:Str}{params:Arguments}{body:List Stmt}{scope:Scope}{dV kV doc pm cdv ct oc:WU}{an od:Option WN}
  {osl:Array (Option WU)}{N ps:List Str}{sp:Sp}(lk:K.lookup f=some ⟨oc,od,.func (PySem.W.fnOf name qual params body scope dV kV doc pm an cdv ct),osl⟩)(hcd:PySem.W.codeIn K cdv qual=true)(S:FnScope N ps scope)
  (len:∀vs H Q E,sp vs H Q E->vs.length=ps.length)
  (hbody:∀(A:WO)(outer:List Env)(s:WT)(H:Hp)(vs:List V)(Q:VK)(E:XK),iy k (A.deeper (envOfC qual scope s.heap.objs.size f cdv))->sp vs H Q E->
   ∃t,zk (mI CX P w K mg base N qual scope f cdv A outer s H E) body t/\t { nx:=λ_ H'=>Q .aF H',rt:=Q } (start N vs) H) :
  FnOk P w K mg base CX (k+1) f (PySem.W.fnOf name qual params body scope dV kV doc pm an cdv ct) ps sp:=by
 refine⟨len,λA outer s H args us vs Q E hr e0 hb r Dq=>?_⟩
 have hl:=len _ _ _ _ Dq
 have KX:K.In s.heap:=e0.mod.GP.keeps λb o e=>(e0.bs b o e).1
 have lim:s.heap.NoLimit:=e0.mod.nolimit.keeps λb o e=>(e0.bs b o e).1
 have hkind:∀y∈ps.zip us,scope.names.lookup y.1=some .local\/(scope.names.lookup y.1=some .cell/\((cellsFrom (s.heap.objs.size+1) scope.names []).lookup y.1).isSome=true):=λ⟨n,v⟩ hy=>by
  rcases S.par n (List.of_mem_zip hy).1 with q | q
  ·exact .inl q
  ·exact .inr ⟨q,PySem.W.cellsFrom_some _ _ _ (.inl q)⟩
 refine codeAny_call_function hr.depth (KX _ _ lk) rfl S.co S.gen rfl (PySem.W.codeRec_of KX hcd) (hb _ _ _ _ ?_)
 refine wpAny_newFunctionEnv_cells S.kind hkind λenv he s1 x=>?_
 subst he
 refine⟨lim.keeps x.toInCall.keep,codeAny_func ?_⟩
 obtain⟨t,ht,hq⟩:=hbody A outer s H vs Q E (hr.deeper _) Dq
 have I:Inv (mI CX P w K mg base N qual scope f cdv A outer s H E) [] (start N vs) H s1:=pk S hr.hd e0 hl r x
 refine Xa (ht [] s1 (start N vs) H _ I hq) (λfl s' hs=>?_) λe s' hs=>hs
 have fin:∀{σ':St}{H':Hp}{v:V}{u:WU},Inv (mI CX P w K mg base N qual scope f cdv A outer s H E) [] σ' H' s'->RelV v u->Q v H'->CE outer P w H s Q u s' :=
  λ{σ' H' v u} J rv q=>⟨v,H',J.os,J.bare,J.base,J.hok,rv,q⟩
 cases fl with
 | ret u=>
  obtain⟨v,σ',H',J,rv,q⟩:=hs
  exact fin J rv q
 | next=>
  obtain⟨σ',H',J,q⟩:=hs
  exact fin (v:=V.aF) (u:=Value.none) J rfl q
 | brk=>
  obtain⟨_,_,_,q⟩:=hs
  exact False.elim q
 | cont=>
  obtain⟨_,_,_,q⟩:=hs
  exact False.elim q
end L2
namespace L2
open PySem PySem.Spec PyProof.Rows
section
variable {X:Cx} {x:Str} {p pos:Pos} {e:Expr} {es:List Expr} {t:TA} {id T:String} {r:List V->Hp->VK->Prop}
def Rv(r:List V->Hp->VK->Prop)(t:TA):TE:=λσ H Q=>t σ H λvs H1=>r vs H1 Q
theorem zO(hc:cC X (.builtin id) r)(hg:Gl X x)(hm:X.mg x=none)(hv:WY x=some (.builtin id))(ha:PA X (e::es) t)(hn:x≠"__name__":=by decide)(hdb:(x == ("__debug__":Str))=false:=by decide)
  (he:W7 (e::es) X.env=(false,eval e X.env)::W7 es X.env:=by rfl)(hpl:(backTo pos (W7 es X.env)).any (·.1)=false:=by rfl):PE X (.Call (.Name x p) (e::es) [] pos) (Rv r t):=by
 intro pins s σ H Q I h
 refine wpAny_Call_Name_kw (iw I hg hm hv ?_ hn hdb)
 exact PyProof.Rows.callWith_builtin1 (aM (ha pos pins s σ H _ I h) λus s1 ⟨vs,H1,I1,r1,q1⟩=>hc pins s1 σ H1 vs us Q I1 r1 q1) he hpl
theorem xR(hc:cC X (.type T) r)(hg:Gl X x)(hm:X.mg x=none)(hv:WY x=some (.type T))(ha:PA X (e::es) t)(hn:x≠"__name__":=by decide)(hdb:(x == ("__debug__":Str))=false:=by decide)
  (he:W7 (e::es) X.env=(false,eval e X.env)::W7 es X.env:=by rfl)(hpl:(backTo pos (W7 es X.env)).any (·.1)=false:=by rfl):PE X (.Call (.Name x p) (e::es) [] pos) (Rv r t):=by
 intro pins s σ H Q I h
 refine wpAny_Call_Name_kw (iw I hg hm hv ?_ hn hdb)
 exact PyProof.Rows.callWith_type1 (aM (ha pos pins s σ H _ I h) λus s1 ⟨vs,H1,I1,r1,q1⟩=>hc pins s1 σ H1 vs us Q I1 r1 q1) he hpl
end
end L2
namespace HT
open PySem PyProof.Rows
def lexLt:List Int->List Int->Bool
 | [],[]=>false
 | [],_::_=>true
 | _::_,[]=>false
 | x::xs,y::ys=>if x=y then lexLt xs ys else decide (x < y)
theorem uD(x y:Int)(xs ys:List Int):lexLt (x::xs) (y::ys)=if x=y then lexLt xs ys else decide (x < y):=rfl
theorem ou:lexLt [] []=false:=rfl
theorem mJ(y:Int)(ys:List Int):lexLt [] (y::ys)=true:=rfl
theorem mK(x:Int)(xs:List Int):lexLt (x::xs) []=false:=rfl
theorem zP(A:WO)(s:WT)(a:Int)(t:Tok)(c:Int)(u:Tok):∃e,SeqAt.EqAt A s (.int a t) (.int c u) e/\(e=true↔a=c) :=
 ⟨(a == c),SeqAt.EqAt.int_int a t c u,by simp⟩
theorem zQ(A:WO)(s:WT)(a:Int)(t:Tok)(c:Int)(u:Tok)(prog:WS)(w:WV)(E:WU->WT->Prop)(Q:WU->WT->Prop)(h:Q (.bool (decide (a < c))) s) :
  W8 (model prog w) A (richCompare .Lt (.int a t) (.int c u)) Q E s :=
 (PyProof.Rows.lt_int h:W8 (model prog w) A (W2 .Lt (.int a t) (.int c u)) Q E s)
section
open PySem.SeqAt
open PySem.AutoSeq1 (wpAny_loadPart')
open PySem.MeetsSeq PySem.MeetsSeq2 PySem.MeetsSeq3
theorem oz(l b:WN)(items items2:Array WU)(n n2:Nat)(dd dd2:Option WN)(sl sl2:Array (Option WU))(ns ms:List Int)(hi:IntsAre items.toList ns)(hj:IntsAre items2.toList ms) :
  Meets (Builtin.«tuple.__lt__» ⟨[.ref l,.ref b],[]⟩)
   (λ_ R s=>s.heap.get? l=some { cls:=.type "tuple",dict:=dd,data:=.seq items n,slots:=sl }/\s.heap.get? b=some { cls:=.type "tuple",dict:=dd2,data:=.seq items2 n2,slots:=sl2 }/\
    R (.ok (.ret (.bool (lexLt ns ms)))) s) :=
 .of_wp λprog w A R s h=>by
  obtain⟨hp,g,d,tk,os⟩:=s;obtain⟨hl,hb,h⟩:=h
  have f2:=AutoSeq1.sub_tuple_tuple
  have z1:items.size=ns.length:=by rw[<-hi.length];simp
  have z2:items2.size=ms.length:=by rw[<-hj.length];simp
  wp_walk using wpAny_loadPart' hl,wpAny_loadPart' hb,wpAny_forIn_list _ (λrest b s'=>b.1=none/\s'=⟨hp,g,d,tk,os⟩/\∃(vs ws:List WU)(ns' ms':List Int),rest=vs.zip ws/\
   IntsAre vs ns'/\IntsAre ws ms'/\ns'.length+items2.size=ms'.length+items.size/\R (.ok (.ret (.bool (lexLt ns' ms')))) ⟨hp,g,d,tk,os⟩) _
  case turn=>
   rintro⟨y,x⟩ rest b s' ⟨hb',rfl,vs,ws,ns',ms',hz,OJ,hwi,hlen,hR⟩
   cases OJ with
   | nil=>rw[List.zip_nil_left] at hz;cases hz
   | cons a t OK=>
    cases hwi with
    | nil=>rw[List.zip_nil_right] at hz;cases hz
    | cons c u OL=>
     rw[List.zip_cons_cons] at hz
     injection hz with hyx hrest
     injection hyx with hy hx
     subst hy hx
     rw[uD] at hR
     simp only[List.length_cons] at hlen
     obtain⟨e,he,hiff⟩:=zP A.in1 ⟨hp,g,d,tk,os⟩ a t c u
     refine W9 (he prog w _ _ ?_)
     cases e with
     | true=>
      rw[if_pos (hiff.mp rfl)] at hR
      wp_walk
      exact⟨rfl,rfl,_,_,_,_,hrest,OK,OL,by omega,hR⟩
     | false=>
      rw[if_neg (λq=>absurd (hiff.mpr q) Bool.false_ne_true)] at hR
      have Tr:=zQ A.in1 ⟨hp,g,d,tk,os⟩ a t c u prog w
      wp_walk using Tr
      exact⟨_,rfl,by simpa using hR⟩
  case fin=>
   rintro⟨b1,b2⟩ s' ⟨hb',rfl,vs,ws,ns',ms',hz,OJ,hwi,hlen,hR⟩
   simp only at hb'
   subst hb'
   have hv:lexLt ns' ms'=decide (items.size < items2.size):=by
    cases OJ with
    | nil=>
     cases hwi with
     | nil=>
      simp only[List.length_nil] at hlen
      rw[ou]
      exact(decide_eq_false (by omega)).symm
     | cons c u hw=>
      simp only[List.length_nil,List.length_cons] at hlen
      rw[mJ]
      exact(decide_eq_true (by omega)).symm
    | cons a t hv=>
     cases hwi with
     | nil=>
      simp only[List.length_nil,List.length_cons] at hlen
      rw[mK]
      exact(decide_eq_false (by omega)).symm
     | cons c u hw=>
      rw[List.zip_cons_cons] at hz
      cases hz
   rw[hv] at hR
   wp_walk
   exact⟨_,rfl,by simpa [Builtin.Tuple.tupleCompareSizes] using hR⟩
  case h=>
   exact⟨rfl,rfl,items.toList,items2.toList,ns,ms,rfl,hi,hj,by omega,h⟩
end
section
variable {prog:WS} {w:WV} {A:WO} {E:WU->WT->Prop} {s:WT}
theorem uE{l b:WN}{items items2:Array WU}{ns ms:List Int}{Q:WU->WT->Prop}(hl:IsTup s.heap l items)(hb:IsTup s.heap b items2)(hi:IntsAre items.toList ns)(hj:IntsAre items2.toList ms)
  (hu:A.units < cLine)(h:Q (.bool (lexLt ns ms)) s):W8 (model prog w) A (W2 .Lt (.ref l) (.ref b)) Q E s:=by
 obtain⟨⟨cls,dd,data,sl⟩,ho,hc,n,hd⟩:=id hl
 obtain⟨⟨Ll,dd2,data2,sl2⟩,ho2,hc2,n2,hd2⟩:=id hb
 simp only at hc hd hc2 hd2
 subst hc hd hc2 hd2
 exact richCompare_meets_room (op:=.Lt) ⟨_,ho,rfl⟩ ⟨_,ho2,rfl⟩ PySem.F.slot_tuple_lt PySem.F.entry_tuple_lt (PySem.F.args_tuple_lt_2 _ _) (oz l b items items2 n n2 dd dd2 sl sl2 ns ms hi hj)
  ⟨ho,ho2,show Value.bool (lexLt ns ms)≠Value.notImplemented/\Q (.bool (lexLt ns ms)) s from⟨(λx=>nomatch x),h⟩⟩ hu
theorem Dr{t b:WN}{vs ws:List WU}{Q:WU->WT->Prop}(ht:IsTup s.heap t vs.toArray)(hb:IsTup s.heap b ws.toArray)(hv:vs≠[])
  (h1:ws=[]->Q (.ref t) s)(h2:ws≠[]->Q (.ref s.heap.objs.size) { s with heap:=s.heap.push { cls:=.type "tuple",data:=.seq (vs++ws).toArray } })
  (hsz:vs.length+ws.length<=W6):W8 (model prog w) A (WX .Add (.ref t) (.ref b)) Q E s:=by
 obtain⟨⟨cls,dd,data,sl⟩,ho,hc,n,hd⟩:=id ht
 obtain⟨⟨Ll,dd2,data2,sl2⟩,ho2,hc2,n2,hd2⟩:=id hb
 simp only at hc hd hc2 hd2
 subst hc hd hc2 hd2
 have e:vs.toArray++ws.toArray=(vs++ws).toArray:=by simp
 by_cases hw:ws=[]
 ·exact concat_meets ⟨_,ho,rfl⟩ ⟨_,ho2,rfl⟩ noFill_tuple_add seq_tuple_add PySem.F.slot_tuple_add PySem.F.entry_tuple_add (PySem.F.args_tuple_add_2 _ _)
   (tuple_addW1 t b vs.toArray ws.toArray n n2 dd dd2 sl sl2 (by simpa using hv) (by simp[hw])) ⟨ho,ho2,h1 hw⟩
 ·refine concat_meets ⟨_,ho,rfl⟩ ⟨_,ho2,rfl⟩ noFill_tuple_add seq_tuple_add PySem.F.slot_tuple_add PySem.F.entry_tuple_add (PySem.F.args_tuple_add_2 _ _)
   (tuple_addW2 t b vs.toArray ws.toArray n n2 dd dd2 sl sl2 (by simpa using hv) (by simpa using hw) (by rw[List.size_toArray,List.size_toArray];exact hsz)) ⟨ho,ho2,?_⟩
  rw[e]
  exact h2 hw
def bV(n d:Nat):Option Int->Nat
 | none=>d
 | some v=>if v < 0 then(v+(n:Int)).toNat else min v.toNat n
theorem rN(n d:Nat):bV n d none=d:=rfl
theorem Ds(n d k:Nat):bV n d (some (k:Int))=min k n:=by
 show(if(k:Int) < 0 then((k:Int)+(n:Int)).toNat else min (k:Int).toNat n)=min k n
 rw[if_neg (by omega),Int.toNat_natCast]
theorem Hr(n d:Nat)(hd:d<=n)(o:Option Int):bV n d o<=n:=by
 cases o with
 | none=>exact hd
 | some v=>
  show(if v < 0 then(v+(n:Int)).toNat else min v.toNat n)<=n
  by_cases hv:v < 0
  ·rw[if_pos hv];omega
  ·rw[if_neg hv];exact Nat.min_le_right _ _
theorem v5(v:Int)(n d:Nat):(if v < 0 then max (v+(n:Int)) 0 else min v (n:Int))=((bV n d (some v):Nat):Int):=by
 show(if v < 0 then max (v+(n:Int)) 0 else min v (n:Int))=(((if v < 0 then(v+(n:Int)).toNat else min v.toNat n):Nat):Int)
 by_cases hv:v < 0
 ·simp only[if_pos hv];omega
 ·simp only[if_neg hv];omega
theorem uF(lo hi:Option Int)(n:Nat):Builtin.Slice.sliceAdjust lo hi 1 (n:Int)=(((bV n 0 lo:Nat):Int),((bV n n hi:Nat):Int)):=by
 have h1:¬((1:Int) < 0):=by omega
 unfold Builtin.Slice.sliceAdjust
 simp only[h1,if_false]
 refine Prod.ext ?_ ?_
 ·cases lo with
  | none=>rfl
  | some v=>exact v5 v n 0
 ·cases hi with
  | none=>rfl
  | some v=>exact v5 v n n
theorem uG(i j:Nat):Builtin.Slice.slicePlaces (i:Int) (j:Int) 1=j - i:=by
 unfold Builtin.Slice.slicePlaces
 have h1:(1:Int) > 0:=by omega
 simp only[h1,if_true,Int.ediv_one]
 split<;>omega
theorem mL{v:WU}{o:Option Int}{Q:Option Int->WT->Prop}(p:IsPart v o)(h:Q o s):W8 (model prog w) A (Builtin.Slice.slicePartIndex v) Q E s:=by
 cases p with
 | none=>exact slicePart_none h
 | int i t=>exact slicePart_int h
theorem f7{sl:WN}{vl vu:WU}{lo hi:Option Int}{n:Nat}{Q:Int×Int×Nat->WT->Prop}(hs:s.heap.IsSliceOf sl vl vu .none)(pl:IsPart vl lo)(pu:IsPart vu hi)
  (h:Q (((bV n 0 lo:Nat):Int),1,bV n n hi - bV n 0 lo) s):W8 (model prog w) A (Builtin.Slice.sliceApplied (.ref sl) (pure (n:Int))) Q E s:=by
 obtain⟨os,hos,hcs,hds⟩:=id hs
 unfold Builtin.Slice.sliceApplied Builtin.Slice.sliceFields
 refine W9 (W9 (wpAny_field hos hds (x:=vl) rfl (W9 (wpAny_field hos hds (x:=vu) rfl (W9 (wpAny_field hos hds (x:=.none) rfl (Xe ?_)))))))
 refine W9 (slicePart_none ?_)
 show W8 _ _ (if((1:Int) == 0)=true then _ else _) _ _ s
 rw[if_neg (by decide)]
 refine W9 (mL pl (W9 (mL pu (W9 (Xe ?_)))))
 show W8 _ _ (match Builtin.Slice.sliceAdjust lo hi 1 (n:Int) with | (lo,hi)=>pure (lo,(1:Int),Builtin.Slice.slicePlaces lo hi 1)) _ _ s
 rw[uF lo hi n]
 show W8 _ _ (pure (((bV n 0 lo:Nat):Int),(1:Int),Builtin.Slice.slicePlaces ((bV n 0 lo:Nat):Int) ((bV n n hi:Nat):Int) 1)) _ _ s
 rw[uG]
 exact Xe h
theorem zR(xs:Array WU)(i k:Nat):((List.range k).filterMap λ(m:Nat)=>xs[((i:Int)+(m:Int) * 1).toNat]?).toArray=((xs.toList.drop i).take k).toArray:=by
 have e:(λ(m:Nat)=>xs[((i:Int)+(m:Int) * 1).toNat]?)=λm=>xs[i+m]?:=by
  funext m
  have:((i:Int)+(m:Int) * 1).toNat=i+m:=by omega
  rw[this]
 rw[e]
 have:=pick_run xs i k
 rw[List.filterMap_map] at this
 have e2:((λx=>xs[x]?) ∘ λx=>i+x)=λm=>xs[i+m]?:=rfl
 rw[e2] at this
 rw[this]
theorem jR{t sl:WN}{items:Array WU}{vl vu:WU}{lo hi:Option Int}{Q:WU->WT->Prop}(ht:IsTup s.heap t items)(hs:s.heap.IsSliceOf sl vl vu .none)(pl:IsPart vl lo)(pu:IsPart vu hi)
  (hw:¬(bV items.size 0 lo=0/\bV items.size items.size hi=items.size))
  (h:Q (.ref s.heap.objs.size) { s with heap:=s.heap.push { cls:=.type "tuple",data:=.seq ((items.toList.drop (bV items.size 0 lo)).take (bV items.size items.size hi - bV items.size 0 lo)).toArray } })
  (hsz:items.size<=W6):W8 (model prog w) A (getItem (.ref t) (.ref sl)) Q E s:=by
 have v7:sizeOk (.seq ((items.toList.drop (bV items.size 0 lo)).take (bV items.size items.size hi - bV items.size 0 lo)).toArray):=by
  show((items.toList.drop (bV items.size 0 lo)).take (bV items.size items.size hi - bV items.size 0 lo)).toArray.size<=W6
  rw[List.size_toArray,List.length_take,List.length_drop,Array.length_toList]
  omega
 have hj:bV items.size items.size hi<=items.size:=Hr _ _ (Nat.le_refl _) hi
 obtain⟨os,hos,hcs,hds⟩:=id hs
 have Ts:s.TypeIs (.ref sl) "slice":=⟨os,hos,hcs⟩
 unfold getItem
 try with_reducible refine W' ?_
 first | refine W9 (Xe ?_) | skip
 refine W9 (wpAny_sequenceKey ht.typeIs (by decide) ?_)
 refine W9 (wpAny_callSpecial?_slot (name:=Str.ofString "__getitem__") ht.typeIs PyProof.Rows.slot_tuple_getitem
  (wpAny_call_entry PyProof.Rows.slot_tuple_getitem ht.typeIs entry_tuple_getitem ?_ (args_tuple_getitem _ _)))
 show W8 _ _ (Builtin.Tuple.tupleItemsOf (.ref t) >>= _) _ _ s
 refine W9 (tupleItemsOf_ ht ?_)
 refine W9 (wpAny_typeOf Ts ?_)
 rw[if_pos (by decide)]
 refine W9 (f7 hs pl pu ?_)
 have hno:¬((((bV items.size 0 lo:Nat):Int) == 0&&(1:Int) == 1&&(bV items.size items.size hi - bV items.size 0 lo) == items.size)=true):=by
  intro q
  rw[Bool.and_eq_true,Bool.and_eq_true] at q
  have q1:((bV items.size 0 lo:Nat):Int)=0:=eq_of_beq q.1.1
  have q2:bV items.size items.size hi - bV items.size 0 lo=items.size:=eq_of_beq q.2
  exact hw ⟨by omega,by omega⟩
 show W8 _ _ (if(((bV items.size 0 lo:Nat):Int) == 0&&(1:Int) == 1&&(bV items.size items.size hi - bV items.size 0 lo) == items.size)=true then _ else _) _ _ s
 rw[if_neg hno,zR]
 first
  | exact W9 (m:=Builtin.Tuple.tupleExact _) (Xd (Xe ⟨_,rfl,Xe h⟩) v7)
  | exact W9 (m:=Builtin.Tuple.tupleExact _) (Xd (W9 (Xe (Xe ⟨_,rfl,Xe h⟩))) v7)
  | exact W9 (W9 (m:=Builtin.Tuple.tupleExact _) (Xd (Xe (Xe ⟨_,rfl,Xe h⟩)) v7))
  | exact W9 (W9 (m:=Builtin.Tuple.tupleExact _) (Xd (Xe ⟨_,rfl,Xe h⟩) v7))
end
end HT
namespace L2
open PySem PySem.Spec PyProof.Rows
abbrev TO:=St->Hp->(Option Int->Hp->Prop)->Prop
def PO(X:Cx)(e:Option Expr)(t:TO):Prop :=
 ∀(pins:List (WN×Obj))(s:WT)(σ:St)(H:Hp)(Q:Option Int->Hp->Prop),Inv X pins σ H s->t σ H Q->
  W8 (model X.prog X.w) X.A (evalPart e X.env) (λu s'=>∃o H',Inv X pins σ H' s'/\IsPart u o/\Q o H') X.xe s
def Dt:TO:=λ_ H Q=>Q none H
def Ln(t:TE):TO:=λσ H Q=>t σ H λx H1=>∃i,x= .int i/\Q (some i) H1
theorem intsAre_of{ns:List Int}:∀{us:List WU},Vals (ns.map V.int) us->IntsAre us ns:=by
 induction ns with
 | nil=>intro us r;rw[List.map_nil] at r;cases r;exact .nil
 | cons n ns ih=>
  intro us r
  rw[List.map_cons] at r
  cases r with
  | cons r1 r2=>
   obtain⟨t,e⟩:=r1
   subst e
   exact .cons n t (ih r2)
section
variable {X:Cx} {e:Expr} {te:TE} {lo hi:Option Expr} {tl th:TO} {pos p2:Pos}
theorem Du:PO X none Dt:=by
 intro pins s σ H Q I h
 rw[evalPart_none]
 exact Xe ⟨none,H,I,.none,h⟩
theorem Dv(h:PE X e te):PO X (some e) (Ln te):=by
 intro pins s σ H Q I hw
 rw[evalPart_some]
 refine aM (h pins s σ H _ I hw) λu s1 ⟨x,H1,I1,r1,q1⟩=>?_
 obtain⟨i,rfl,q⟩:=q1
 obtain⟨t,rfl⟩:=r1
 exact⟨some i,H1,I1,.int i t,q⟩
def C2(X:Cx)(r:V->Option Int->Option Int->Hp->VK->Prop):Prop :=
 ∀(pins:List (WN×Obj))(s:WT)(σ:St)(H:Hp)(x:V)(v vl vu:WU)(lo hi:Option Int)(sl:WN)(Q:VK),Inv X pins σ H s->RelV x v->s.heap.IsSliceOf sl vl vu .none->IsPart vl lo->IsPart vu hi->r x lo hi H Q->
  ∃T id,typeLookup (.type T) "__getitem__"=pure (some (.builtin id))/\s.TypeIs v T/\W8 (model X.prog X.w) X.A (getItem v (.ref sl)) (EP X pins σ Q) X.xe s
theorem C2.or{r r':V->Option Int->Option Int->Hp->VK->Prop}(h:C2 X r)(h':C2 X r'):C2 X (λx lo hi H Q=>r x lo hi H Q\/r' x lo hi H Q):=by
 intro pins s σ H x v vl vu lo hi sl Q I rx hs pl pu q
 rcases q with q | q
 ·exact h pins s σ H x v vl vu lo hi sl Q I rx hs pl pu q
 ·exact h' pins s σ H x v vl vu lo hi sl Q I rx hs pl pu q
def Tt(r:V->Option Int->Option Int->Hp->VK->Prop)(te:TE)(tl th:TO):TE:=λσ H Q=>te σ H λx H1=>tl σ H1 λl H2=>th σ H2 λu H3=>r x l u H3 Q
theorem mM{r:V->Option Int->Option Int->Hp->VK->Prop}(hr:C2 X r)(he:PE X e te)(hl:PO X lo tl)(hu:PO X hi th):PE X (.Subscript e (.Slice lo hi none p2) pos) (Tt r te tl th):=by
 intro pins s σ H Q I h
 refine Subscript_ (aM (he pins s σ H _ I h) λv s1 ⟨x,H1,I1,r1,q1⟩=>?_)
 refine wpAny_Slice (aM (hl pins s1 σ H1 _ I1 q1) λvl s2 ⟨l,H2,I2,pl,q2⟩=>aM (hu pins s2 σ H2 _ I2 q2) λvu s3 ⟨u,H3,I3,pu,q3⟩=>?_)
 rw[evalPart_none]
 refine Xe ?_
 have I4:Inv X pins σ H3 { s3 with heap:=s3.heap.push { cls:=.type "slice",data:=.fields #[vl,vu,.none] } }:=I3.kept (t':=s3.toks) λb ob q=>Heap.get?_push_of_some _ q
 obtain⟨T,id,hT,ht,hg⟩:=hr pins { s3 with heap:=s3.heap.push { cls:=.type "slice",data:=.fields #[vl,vu,.none] } } σ H3 x v vl vu l u s3.heap.objs.size Q I4 r1 (Heap.IsSliceOf.new ..) pl pu q3
 show W8 (model X.prog X.w) X.A (subscriptTail e (.Slice lo hi none p2) v (.ref s3.heap.objs.size)) (EP X pins σ Q) X.xe { s3 with heap:=s3.heap.push { cls:=.type "slice",data:=.fields #[vl,vu,.none] } }
 exact tail_any (ops:=[.ref s3.heap.objs.size,v]) ht hT hg (by with_unfolding_all rfl)
def oA(xs:List V)(lo hi:Option Int):List V:=(xs.drop (HT.bV xs.length 0 lo)).take (HT.bV xs.length xs.length hi - HT.bV xs.length 0 lo)
theorem lu(xs:List V)(lo hi:Option Int):(oA xs lo hi).length<=xs.length:=by
 unfold oA
 rw[List.length_take,List.length_drop]
 omega
def OM(K:PySem.W.Frag):V->Option Int->Option Int->Hp->VK->Prop:=λx lo hi H Q=>∃a xs,x= .ref a/\dU K H a xs/\
 ¬(HT.bV xs.length 0 lo=0/\HT.bV xs.length xs.length hi=xs.length)/\∀p,H p=none->Q (.ref p) (upd H p (.tup (oA xs lo hi)))
theorem zS:C2 X (OM X.K):=by
 intro pins s σ H x v vl vu lo hi sl Q I rx hs pl pu h
 obtain⟨a,xs,rfl,hx,hw,q⟩:=h
 cases rx
 obtain⟨its,r,ht,hz⟩:=I.tuple hx
 have hlen:its.toArray.size=xs.length:=by rw[List.size_toArray];exact r.length.symm
 refine⟨"tuple",_,PyProof.Rows.slot_tuple_getitem.lookup,ht.typeIs,?_⟩
 refine HT.jR ht hs pl pu (by rw[hlen];exact hw) ?_ (by rw[hlen];exact hz)
 rw[hlen]
 refine⟨.ref s.heap.objs.size,_,I.laid (t':=s.toks) (o:=.tup (oA xs lo hi)) (λb ob q=>Heap.get?_push_of_some _ q) (Nat.le_refl _) ?_,rfl,q _ (I.hok.fresh (Nat.le_refl _))⟩
 exact⟨Nat.le_trans (lu xs lo hi) hz,_,(r.drop (HT.bV xs.length 0 lo)).take (HT.bV xs.length xs.length hi - HT.bV xs.length 0 lo),IsTup.new _ _,xF.new _ _⟩
def ON(K:PySem.W.Frag):R2:=λx y H Q=>∃a b ns ms,x= .ref a/\y= .ref b/\dU K H a (ns.map V.int)/\dU K H b (ms.map V.int)/\Q (.bl (HT.lexLt ns ms)) H
theorem OO(hu:X.A.units < cLine):dm X (W2 .Lt) (ON X.K):=by
 intro pins s σ H x y v u Q I rx ry h
 obtain⟨a,b,ns,ms,rfl,rfl,ha,hb,q⟩:=h
 cases rx
 cases ry
 obtain⟨its,r1,p1,_⟩:=I.tuple ha
 obtain⟨its2,r2,p2,_⟩:=I.tuple hb
 have i1:IntsAre its.toArray.toList ns:=intsAre_of r1
 have i2:IntsAre its2.toArray.toList ms:=intsAre_of r2
 exact HT.uE p1 p2 i1 i2 hu ⟨.bl (HT.lexLt ns ms),H,I,rfl,q⟩
def Lp(K:PySem.W.Frag):R2:=λx y H Q=>∃a b xs ys,x= .ref a/\y= .ref b/\dU K H a xs/\dU K H b ys/\xs≠[]/\xs.length+ys.length<=W6/\
 (ys=[]->Q (.ref a) H)/\(ys≠[]->∀p,H p=none->Q (.ref p) (upd H p (.tup (xs++ys))))
theorem Vals.qf{xs:List V}{us:List WU}(r:Vals xs us):us=[]↔xs=[]:=by
 cases r with
 | nil=>simp
 | cons _ _=>simp
theorem Dw:dm X (WX .Add) (Lp X.K):=by
 intro pins s σ H x y v u Q I rx ry h
 obtain⟨a,b,xs,ys,rfl,rfl,ha,hb,hx,hz,q1,q2⟩:=h
 cases rx
 cases ry
 obtain⟨its,r1,p1,_⟩:=I.tuple ha
 obtain⟨its2,r2,p2,_⟩:=I.tuple hb
 refine HT.Dr p1 p2 (λz=>hx (r1.qf.mp z)) (λz=>⟨.ref a,H,I,rfl,q1 (r2.qf.mp z)⟩) (λz=>?_) (by rw[<-r1.length,<-r2.length];exact hz)
 refine⟨.ref s.heap.objs.size,_,I.laid (t':=s.toks) (o:=.tup (xs++ys)) (λb ob q=>Heap.get?_push_of_some _ q) (Nat.le_refl _) ?_,rfl,q2 (λw=>z (r2.qf.mpr w)) _ (I.hok.fresh (Nat.le_refl _))⟩
 exact⟨by rw[List.length_append];exact hz,_,r1.append r2,IsTup.new _ _,xF.new _ _⟩
end
end L2
namespace L2
open PySem PySem.Spec PyProof.Rows
def v9(n:Nat)(i:Int):Option Nat:=if 0<=i then(if i < n then some i.toNat else none) else if -(n:Int)<=i then some (i+n).toNat else none
def kI{α:Type}(xs:List α)(i:Int):Option α:=(v9 xs.length i).bind λj=>xs[j]?
theorem v_{n:Nat}{i:Int}{j:Nat}(h:v9 n i=some j):seqIndex? i n=some j/\j < n/\-(n:Int)<=i/\i < n:=by
 unfold v9 at h
 by_cases h0:0<=i
 ·rw[if_pos h0] at h
  by_cases h1:i < n
  ·rw[if_pos h1] at h
   have e:i.toNat=j:=Option.some.inj h
   exact⟨by rw[seqIndex_of h0 h1,e],by omega,by omega,h1⟩
  ·rw[if_neg h1] at h;cases h
 ·rw[if_neg h0] at h
  by_cases h1:-(n:Int)<=i
  ·rw[if_pos h1] at h
   have e:(i+n).toNat=j:=Option.some.inj h
   exact⟨by rw[seqIndex_neg (by omega) h1,e],by omega,h1,by omega⟩
  ·rw[if_neg h1] at h;cases h
theorem ma{α:Type}{xs:List α}{i:Int}{v:α}(h:kI xs i=some v):∃j,seqIndex? i xs.length=some j/\xs[j]? =some v/\j < xs.length/\-(xs.length:Int)<=i/\i < xs.length:=by
 unfold kI at h
 cases e:v9 xs.length i with
 | none=>rw[e] at h;cases h
 | some j=>
  rw[e] at h
  obtain⟨h1,h2,h3,h4⟩:=v_ e
  exact⟨j,h1,h,h2,h3,h4⟩
theorem gE{α:Type}{xs:List α}{j:Nat}{v:α}(h:xs[j]? =some v):kI xs (j:Int)=some v:=by
 have hj:j < xs.length:=(List.getElem?_eq_some_iff.mp h).1
 have e:v9 xs.length (j:Int)=some j:=by
  unfold v9
  rw[if_pos (by omega),if_pos (by omega)];simp
 unfold kI;rw[e];exact h
def wa(b:Expr):Prop:=∀o i,subscripted b false o i=operate [o,i] (getItem o i)
def Dx(X:Cx)(r:R2):Prop :=
 ∀(value slice:Expr)(pins:List (WN×Obj))(s:WT)(σ:St)(H:Hp)(x y:V)(v u:WU)(Q:VK),Inv X pins σ H s->RelV x v->RelV y u->r x y H Q->
  subscripted slice false v u=operate [v,u] (getItem v u)->W8 (model X.prog X.w) X.A (subscriptTail value slice v u) (EP X pins σ Q) X.xe s
def OP(X:Cx)(id:String)(r:V->List V->Hp->VK->Prop):Prop :=
 ∀(pins:List (WN×Obj))(s:WT)(σ:St)(H:Hp)(x:V)(xs:List V)(v:WU)(us:List WU)(Q:VK),Inv X pins σ H s->RelV x v->Vals xs us->r x xs H Q->
  W8 (model X.prog X.w) X.A (call (.builtin id) (v::us)) (EP X pins σ Q) X.xe s
section
variable {X:Cx} {a b:Expr} {ta tb:TE} {pos:Pos}
theorem Dx.or{r r':R2}(h:Dx X r)(h':Dx X r'):Dx X (λx y H Q=>r x y H Q\/r' x y H Q):=by
 intro value slice pins s σ H x y v u Q I rx ry q hs
 rcases q with q | q
 ·exact h value slice pins s σ H x y v u Q I rx ry q hs
 ·exact h' value slice pins s σ H x y v u Q I rx ry q hs
theorem Lq{r:R2}(hr:Dx X r)(ha:PE X a ta)(hb:PE X b tb)(hs:wa b):PE X (.Subscript a b pos) (K_ r ta tb):=by
 intro pins s σ H Q I h
 exact Subscript_ (Hd ha hb I h λv u s2 x y H2 I2 rx ry q=>hr a b pins s2 σ H2 x y v u Q I2 rx ry q (hs _ _))
def Lr(K:PySem.W.Frag):R2:=λx y H Q=>∃p xs i v,x= .ref p/\y= .int i/\ij K H p xs/\kI xs i=some v/\Q v H
def Ls(K:PySem.W.Frag):R2:=λx y H Q=>∃p xs i v,x= .ref p/\y= .int i/\dU K H p xs/\kI xs i=some v/\Q v H
def Lu:R2:=λx y H Q=>∃z i c,x= .str z/\y= .int i/\z.length<=W6/\kI z.cps.toList i=some c/\Q (.str ⟨#[c]⟩) H
theorem Dy:Dx X (Lr X.K):=by
 intro value slice pins s σ H x y v u Q I rx ry h hs
 obtain⟨p,xs,i,z,rfl,rfl,hq,he,q⟩:=h
 cases rx
 obtain⟨t,rfl⟩:=ry
 obtain⟨its,r,pl,hz⟩:=I.list hq
 obtain⟨j,h1,h2,h3,h4,h5⟩:=ma he
 obtain⟨w,ew,rw'⟩:=r.get h2
 have hl:=r.length
 have hn:=ju
 have fin:EP X pins σ Q w s:=⟨z,H,I,rw',q⟩
 by_cases h0:0<=i
 ·have hj:i.toNat=j:=by
   rw[seqIndex_of h0 h5] at h1
   exact Option.some.inj h1
  exact item_listR pl.isList h0 (by omega) (by rw[hj];simpa using ew) fin hs
 ·have hj:(i+(its.toArray.size:Int)).toNat=j:=by
   rw[seqIndex_neg (by omega) h4] at h1
   rw[List.size_toArray,<-hl]
   exact Option.some.inj h1
  exact subscriptTail_builtinR (x:=w) pl.isList.typeIs slot_list_getitem.lookup
   (wpAny_getItem_list_neg (Q:=λr s'=>r=w/\EP X pins σ Q r s') pl.isList (by omega) (by rw[List.size_toArray]<;>omega) (by omega) (by rw[hj];simpa using ew) ⟨rfl,fin⟩) hs
theorem Ht:Dx X (Ls X.K):=by
 intro value slice pins s σ H x y v u Q I rx ry h hs
 obtain⟨p,xs,i,z,rfl,rfl,hq,he,q⟩:=h
 cases rx
 obtain⟨t,rfl⟩:=ry
 obtain⟨its,r,pl,hz⟩:=I.tuple hq
 obtain⟨j,h1,h2,h3,h4,h5⟩:=ma he
 obtain⟨w,ew,rw'⟩:=r.get h2
 have hl:=r.length
 have hn:=ju
 have fin:EP X pins σ Q w s:=⟨z,H,I,rw',q⟩
 exact subscriptTail_builtinR (x:=w) pl.typeIs slot_tuple_getitem.lookup
  (getItem_tuple (j:=j) (Q:=λr s'=>r=w/\EP X pins σ Q r s') pl (by omega) (by omega) (by rw[List.size_toArray,<-hl];exact h1) (by simpa using ew) ⟨rfl,fin⟩) hs
theorem Hu:Dx X Lu:=by
 intro value slice pins s σ H x y v u Q I rx ry h hs
 obtain⟨z,i,c,rfl,rfl,hz,he,q⟩:=h
 obtain⟨t,rfl⟩:=rx
 obtain⟨t',rfl⟩:=ry
 obtain⟨j,h1,h2,h3,h4,h5⟩:=ma he
 have hl:z.cps.toList.length=z.length:=by simp[Str.length]
 rw[hl] at h1 h4 h5
 have hn:=ju
 exact tail_any (typeIs_str s z t) slot_str_getitem.lookup (getItem_str (c:=c) (by
  have e1:decide (i < -(2 ^ 63:Int))=false:=decide_eq_false (by omega)
  have e2:decide (i >= 2 ^ 63)=false:=decide_eq_false (by omega)
  rw[e1,e2,Bool.or_false]) (by rw[h1];simpa using h2) ⟨.str ⟨#[c]⟩,H,I.tok _,⟨_,rfl⟩,q⟩) hs
def Rw(K:PySem.W.Frag):R2:=λx y H Q=>Lr K x y H Q\/Ls K x y H Q\/Lu x y H Q
theorem Hv:Dx X (Rw X.K):=Dy.or (Ht.or Hu)
theorem uH(its:List WU)(n j:Nat)(u:WU):Obj.mapSeq (·.setIfInBounds j u) { cls:=.type "list",data:=.seq its.toArray n }={ cls:=.type "list",data:=.seq (its.set j u).toArray n }:=by
 simp[Obj.mapSeq]
theorem Inv.lst{pins:List (WN×Obj)}{σ:St}{H:Hp}{s:WT}{p:WN}{xs:List V}(I:Inv X pins σ H s)(h:H p=some (.lst xs)) :
  ∃(its:List WU)(n:Nat),Vals xs its/\s.heap.get? p=some { cls:=.type "list",data:=.seq its.toArray n }/\xs.length<=W6:=by
 obtain⟨z,its,n,r,e⟩:=I.hok p _ h
 exact⟨its,n,r,e,z⟩
theorem Inv.Hw{pins:List (WN×Obj)}{σ:St}{H:Hp}{s:WT}{p:WN}{xs ys:List V}{its its':List WU}{n n':Nat}{f:Obj->Obj}(I:Inv X pins σ H s)(h:H p=some (.lst xs))
  (ho:s.heap.get? p=some { cls:=.type "list",data:=.seq its.toArray n })(hf:f { cls:=.type "list",data:=.seq its.toArray n }={ cls:=.type "list",data:=.seq its'.toArray n' })(r:Vals ys its')(hz:ys.length<=W6)(t:Nat) :
  Inv X pins σ (upd H p (.lst ys)) { s with heap:=s.heap.update p f,toks:=t }:=by
 have e:(s.heap.update p f).get? p=some { cls:=.type "list",data:=.seq its'.toArray n' }:=by
  rw[Heap.get?_update_self f ho (by rw[hf]<;>rfl),hf]
 refine I.write (x:=p) (e:=p) (by rw[h];trivial) (.inl rfl) (λb u hb q=>(Heap.get?_update_other _ _ (Ne.symm hb)).trans q) ⟨_,e⟩ ?_
 exact⟨hz,its',n',r,e⟩
def Lv:V->V->V->Hp->(Hp->Prop)->Prop:=λo i v H Q=>∃p xs k j,o= .ref p/\i= .int k/\H p=some (.lst xs)/\v9 xs.length k=some j/\Q (upd H p (.lst (xs.set j v)))
theorem set_list:K7 X Lv:=by
 intro pins s σ H o i v ov iv u Q I ro ri rv h
 obtain⟨p,xs,k,j,rfl,rfl,hp,hj,q⟩:=h
 cases ro
 obtain⟨t,rfl⟩:=ri
 obtain⟨its,n,r,ho,hz⟩:=I.lst hp
 obtain⟨h1,h2,h3,h4⟩:=v_ hj
 have hl:=r.length
 have hn:=ju
 have I':Inv X pins σ (upd H p (.lst (xs.set j v))) { s with heap:=s.heap.update p (Obj.mapSeq (·.setIfInBounds j u)) } :=
  I.Hw hp ho (uH its n j u) (r.set rv j) (by rw[List.length_set];exact hz) s.toks
 by_cases h0:0<=k
 ·have hk:k.toNat=j:=by
   rw[seqIndex_of h0 h4] at h1
   exact Option.some.inj h1
  exact PySem.W.ki_setAt ho h0 (by omega) (by rw[List.size_toArray,<-hl];exact h4) (by rw[hk];exact⟨_,I',q⟩)
 ·have hk:(k+(its.toArray.size:Int)).toNat=j:=by
   rw[seqIndex_neg (by omega) h3] at h1
   rw[List.size_toArray,<-hl]
   exact Option.some.inj h1
  exact PySem.W.ki_setBack ho (by omega) (by rw[List.size_toArray,<-hl];exact h3) (by omega) (by rw[hk];exact⟨_,I',q⟩)
theorem qg(lo hi:Option Int)(n:Nat):(sliceBounds lo hi none n).1=((HT.bV n 0 lo:Nat):Int)/\(sliceBounds lo hi none n).2.1=((HT.bV n n hi:Nat):Int)/\(sliceBounds lo hi none n).2.2=1:=by
 refine⟨?_,?_,rfl⟩
 ·cases lo with
  | none=>simp[sliceBounds,HT.bV]
  | some i=>
   simp only[sliceBounds,HT.bV,Option.getD_none,show(1:Int) > 0 by decide,if_true]
   by_cases h:i < 0
   ·simp only[h,if_true]<;>omega
   ·simp only[h,if_false]<;>omega
 ·cases hi with
  | none=>simp[sliceBounds,HT.bV]
  | some i=>
   simp only[sliceBounds,HT.bV,Option.getD_none,show(1:Int) > 0 by decide,if_true]
   by_cases h:i < 0
   ·simp only[h,if_true]<;>omega
   ·simp only[h,if_false]<;>omega
theorem oB(its:List WU)(lo hi:Option Int):slicePick its.toArray lo hi none=((its.drop (HT.bV its.length 0 lo)).take (HT.bV its.length its.length hi - HT.bV its.length 0 lo)).toArray:=by
 obtain⟨h1,h2,h3⟩:=qg lo hi its.toArray.size
 unfold slicePick
 rw[h1,h2,h3]
 simp only[sliceRange_one,pick_run,List.size_toArray]<;>rfl
def OQ(K:PySem.W.Frag):V->Option Int->Option Int->Hp->VK->Prop:=λx lo hi H Q=>∃a xs,x= .ref a/\ij K H a xs/\∀p,H p=none->Q (.ref p) (upd H p (.lst (oA xs lo hi)))
theorem Dz:C2 X (OQ X.K):=by
 intro pins s σ H x v vl vu lo hi sl Q I rx hs pl pu h
 obtain⟨a,xs,rfl,hx,q⟩:=h
 cases rx
 obtain⟨its,r,ht,hz⟩:=I.list hx
 have hlen:=r.length
 refine⟨"list",_,slot_list_getitem.lookup,ht.isList.typeIs,?_⟩
 refine wpAny_getItem_list_slice ht.isList hs pl pu .none (by simp) ?_ (by rw[List.size_toArray]<;>omega)
 rw[oB,<-hlen]
 refine⟨.ref s.heap.objs.size,_,I.laid (t':=s.toks) (o:=.lst (oA xs lo hi)) (λb ob q=>Heap.get?_push_of_some _ q) (Nat.le_refl _) ?_,rfl,q _ (I.hok.fresh (Nat.le_refl _))⟩
 exact⟨Nat.le_trans (lu xs lo hi) hz,_,0,(r.drop (HT.bV xs.length 0 lo)).take (HT.bV xs.length xs.length hi - HT.bV xs.length 0 lo),Heap.get?_push_size _ rfl⟩
def jj:V->Bool
 | .aF=>true
 | .bl _=>true
 | .int _=>true
 | .str _=>true
 | _=>false
def DA:V->V->Bool
 | .aF,.aF=>true
 | .bl a,.bl b=>a == b
 | .bl a,.int b=>(if a then 1 else 0) == b
 | .int a,.bl b=>a == (if b then 1 else 0)
 | .int a,.int b=>a == b
 | .str a,.str b=>a == b
 | _,_=>false
theorem Hx{A:WO}{s:WT}{y x:V}{u v:WU}(ry:RelV y u)(rx:RelV x v)(fy:jj y=true)(fx:jj x=true):SeqAt.EqAt A s u v (DA y x):=by
 cases y with
 | aF=>
  cases ry
  cases x with
  | aF=>cases rx;exact SeqAt.EqAt.same _
  | bl b=>cases rx;exact SeqAt.EqAt.none_bool b
  | int b=>obtain⟨t,rfl⟩:=rx;exact SeqAt.EqAt.none_int b t
  | str b=>obtain⟨t,rfl⟩:=rx;exact SeqAt.EqAt.none_str b t
  | _=>exact absurd (show false=true from fx) Bool.false_ne_true
 | bl a=>
  cases ry
  cases x with
  | aF=>cases rx;exact SeqAt.EqAt.bool_none a
  | bl b=>cases rx;exact SeqAt.EqAt.bool_bool a b
  | int b=>obtain⟨t,rfl⟩:=rx;exact SeqAt.EqAt.bool_int a b t
  | str b=>obtain⟨t,rfl⟩:=rx;exact SeqAt.EqAt.bool_str a b t
  | _=>exact absurd (show false=true from fx) Bool.false_ne_true
 | int a=>
  obtain⟨t',rfl⟩:=ry
  cases x with
  | aF=>cases rx;exact SeqAt.EqAt.int_none a t'
  | bl b=>cases rx;exact SeqAt.EqAt.int_bool a t' b
  | int b=>obtain⟨t,rfl⟩:=rx;exact SeqAt.EqAt.int_int a t' b t
  | str b=>obtain⟨t,rfl⟩:=rx;exact SeqAt.EqAt.int_str a t' b t
  | _=>exact absurd (show false=true from fx) Bool.false_ne_true
 | str a=>
  obtain⟨t',rfl⟩:=ry
  cases x with
  | aF=>cases rx;exact SeqAt.EqAt.str_none a t'
  | bl b=>cases rx;exact SeqAt.EqAt.str_bool a t' b
  | int b=>obtain⟨t,rfl⟩:=rx;exact SeqAt.EqAt.str_int a t' b t
  | str b=>obtain⟨t,rfl⟩:=rx;exact SeqAt.EqAt.str_str a t' b t
  | _=>exact absurd (show false=true from fx) Bool.false_ne_true
 | _=>exact absurd (show false=true from fy) Bool.false_ne_true
def uI(x:V)(u:WU):Bool:=match u with
 | .none=>DA .aF x
 | .bool b=>DA (.bl b) x
 | .int i _=>DA (.int i) x
 | .str z _=>DA (.str z) x
 | _=>false
theorem zT{x y:V}{u:WU}(r:RelV y u)(f:jj y=true):uI x u=DA y x:=by
 cases y with
 | aF=>cases r;rfl
 | bl b=>cases r;rfl
 | int i=>obtain⟨t,rfl⟩:=r;rfl
 | str z=>obtain⟨t,rfl⟩:=r;rfl
 | _=>exact absurd (show false=true from f) Bool.false_ne_true
theorem jS{x:V}:∀{xs:List V}{us:List WU},Vals xs us->xs.all jj=true->us.any (uI x)=xs.any λy=>DA y x
 | _,_,.nil,_=>rfl
 | y::xs,u::us,.cons r t,f=>by
  rw[List.all_cons,Bool.and_eq_true] at f
  rw[List.any_cons,List.any_cons,zT r f.1,jS t f.2]
theorem iz{A:WO}{s:WT}{x:V}{v:WU}(rx:RelV x v)(fx:jj x=true):∀{xs:List V}{us:List WU},Vals xs us->xs.all jj=true->∀u∈us,SeqAt.EqAt A s u v (uI x u)
 | _,_,.nil,_=>λu hu=>by cases hu
 | y::xs,u::us,.cons r t,f=>λu' hu=>by
  rw[List.all_cons,Bool.and_eq_true] at f
  rcases List.mem_cons.mp hu with rfl | hu
  ·rw[zT r f.1];exact Hx r rx f.1 fx
  ·exact iz rx fx t f.2 u' hu
def Np(x:V)(xs:List V):Bool:=xs.any λy=>DA y x
def Rx(K:PySem.W.Frag)(neg:Bool):R2:=λx y H Q=>∃p xs,y= .ref p/\(ij K H p xs\/dU K H p xs)/\jj x=true/\xs.all jj=true/\Q (.bl (if neg then !Np x xs else Np x xs)) H
theorem xS:dm X (W2 .In) (Rx X.K false):=by
 intro pins s σ H x y v u Q I rx ry h
 obtain⟨p,xs,rfl,hq,fx,fs,q⟩:=h
 cases ry
 rcases hq with hq | hq
 ·obtain⟨its,r,pl,hz⟩:=I.list hq
  refine SeqAt.in_listAt (uI x) pl.isList (λw hw=>iz rx fx r fs w (by simpa using hw)) ⟨.bl _,H,I,rfl,?_⟩
  rw[show its.toArray.any (uI x)=its.any (uI x) by simp,jS r fs]
  exact q
 ·obtain⟨its,r,pl,hz⟩:=I.tuple hq
  refine SeqAt.in_tupleAt (uI x) pl (λw hw=>iz rx fx r fs w (by simpa using hw)) ⟨.bl _,H,I,rfl,?_⟩
  rw[show its.toArray.any (uI x)=its.any (uI x) by simp,jS r fs]
  exact q
theorem qh:dm X (W2 .NotIn) (Rx X.K true):=by
 intro pins s σ H x y v u Q I rx ry h
 obtain⟨p,xs,rfl,hq,fx,fs,q⟩:=h
 cases ry
 rcases hq with hq | hq
 ·obtain⟨its,r,pl,hz⟩:=I.list hq
  refine SeqAt.notIn_listAt (uI x) pl.isList (λw hw=>iz rx fx r fs w (by simpa using hw)) ⟨.bl _,H,I,rfl,?_⟩
  rw[show its.toArray.any (uI x)=its.any (uI x) by simp,jS r fs]
  exact q
 ·obtain⟨its,r,pl,hz⟩:=I.tuple hq
  refine SeqAt.notIn_tupleAt (uI x) pl (λw hw=>iz rx fx r fs w (by simpa using hw)) ⟨.bl _,H,I,rfl,?_⟩
  rw[show its.toArray.any (uI x)=its.any (uI x) by simp,jS r fs]
  exact q
theorem qi:dm X (W2 .NotIn) (λx y H Q=>∃i j,x= .str i/\y= .str j/\Q (.bl (!(!(Builtin.Str.occurrences j i 0 j.length 1).isEmpty))) H):=by
 intro pins s σ H x y v u Q I rx ry h
 obtain⟨i,j,rfl,rfl,q⟩:=h
 obtain⟨t,rfl⟩:=rx
 obtain⟨t',rfl⟩:=ry
 exact notIn_str ⟨.bl _,H,I,rfl,q⟩
theorem qj:cC X (.builtin "len") (λxs H Q=>∃p ys,xs=[.ref p]/\(ij X.K H p ys\/dU X.K H p ys)/\Q (.int ys.length) H):=by
 intro pins s σ H xs us Q I r h
 obtain⟨p,ys,rfl,hq,q⟩:=h
 obtain⟨u,rfl,rx⟩:=vals1 r
 cases rx
 have hn:=ju
 rcases hq with hq | hq
 ·obtain⟨its,r',pl,hz⟩:=I.list hq
  have hlen:=r'.length
  exact Calls.call_len_list pl.isList (by simp only[List.size_toArray]<;>omega) ⟨.int ys.length,H,I.tok _,⟨s.toks+1,by rw[List.size_toArray,hlen]⟩,q⟩
 ·obtain⟨its,r',pl,hz⟩:=I.tuple hq
  have hlen:=r'.length
  exact len_tuple pl (by simp only[List.size_toArray]<;>omega) ⟨.int ys.length,H,I.tok _,⟨s.toks+1,by rw[List.size_toArray,hlen]⟩,q⟩
theorem qk:cC X (.builtin "len") (λxs H Q=>∃z,xs=[.str z]/\z.length<=W6/\Q (.int z.length) H):=by
 intro pins s σ H xs us Q I r h
 obtain⟨z,rfl,hz,q⟩:=h
 obtain⟨u,rfl,t,rfl⟩:=vals1 r
 have hn:=ju
 exact len_str (by omega) ⟨.int z.length,H,I.tok _,⟨_,rfl⟩,q⟩
theorem cC.or{f:WU}{r r':List V->Hp->VK->Prop}(h:cC X f r)(h':cC X f r'):cC X f (λxs H Q=>r xs H Q\/r' xs H Q):=by
 intro pins s σ H xs us Q I rs q
 rcases q with q | q
 ·exact h pins s σ H xs us Q I rs q
 ·exact h' pins s σ H xs us Q I rs q
def Nq(K:PySem.W.Frag)(T:String)(x:V)(H:Hp):Prop:=match x with
 | .str _=>T="str"
 | .int _=>T="int"
 | .ref p=>(T="list"/\∃xs,ij K H p xs)\/(T="tuple"/\((∃o,K.lookup p=some o/\o.cls= .type "tuple"/\o.dict=none)\/∃xs,H p=some (.tup xs)))\/
   (T="dict"/\((∃kvs,H p=some (.dK kvs))\/∃kvs,H p=some (.dT kvs)))\/(T="set"/\∃S n,H p=some (.set S n))
 | _=>False
theorem uJ{pins:List (WN×Obj)}{σ:St}{H:Hp}{s:WT}{T:String}{x:V}{v:WU}(I:Inv X pins σ H s)(r:RelV x v)(ty:Nq X.K T x H) :
  s.TypeIs v T/\∀a,v= .ref a->∃ob,s.heap.get? a=some ob/\ob.dict=none:=by
 cases x with
 | str z=>
  obtain⟨t,rfl⟩:=r
  cases (show T="str" from ty)
  exact⟨typeIs_str s z t,λ_ e=>nomatch e⟩
 | int i=>
  obtain⟨t,rfl⟩:=r
  cases (show T="int" from ty)
  exact⟨typeIs_int s i t,λ_ e=>nomatch e⟩
 | ref p=>
  cases r
  rcases ty with ⟨rfl,xs,hq⟩ | ⟨rfl,⟨o,hk,hc,hd⟩ | ⟨xs,hk⟩⟩ | ⟨rfl,hk⟩ | ⟨rfl,S,n,hk⟩
  ·obtain⟨its,_,pl,_⟩:=I.list hq
   refine⟨pl.isList.typeIs,λa e=>?_⟩
   cases e
   obtain⟨o,n,e,c,hd,_⟩:=pl
   exact⟨o,e,hd⟩
  ·refine⟨⟨o,I.zj p o hk,hc⟩,λa e=>?_⟩
   cases e
   exact⟨o,I.zj _ o hk,hd⟩
  ·obtain⟨_,_,_,⟨o,e1,e2,_⟩,nd⟩:=I.hok p _ hk
   refine⟨⟨o,e1,e2⟩,λa e=>?_⟩
   cases e
   exact⟨o,e1,nd o e1⟩
  ·have z:∃o,s.heap.get? p=some o/\o.ExactDict:=by
    rcases hk with ⟨kvs,hk⟩ | ⟨kvs,hk⟩
    ·obtain⟨_,_,_,_,o,_,_,e,ex,_⟩:=I.hok p _ hk
     exact⟨o,e,ex⟩
    ·obtain⟨_,_,_,_,o,_,_,e,ex,_⟩:=I.hok p _ hk
     exact⟨o,e,ex⟩
   obtain⟨o,e,ex⟩:=z
   refine⟨⟨o,e,ex.1⟩,λa e2=>?_⟩
   cases e2
   exact⟨o,e,ex.2.1⟩
  ·obtain⟨o,_,_,_,e,ex,_⟩:=I.hok p _ hk
   refine⟨⟨o,e,ex.1⟩,λa e2=>?_⟩
   cases e2
   exact⟨o,e,ex.2.1⟩
 | _=>exact False.elim ty
def Tu(K:PySem.W.Frag)(T:String)(r:V->List V->Hp->VK->Prop)(to:TE)(t:TA):TE:=λσ H Q=>to σ H λx H1=>Nq K T x H1/\t σ H1 λxs H2=>r x xs H2 Q
variable {o e:Expr} {es:List Expr} {to:TE} {t:TA} {name:Str} {apos cpos:Pos} {T id:String} {r:V->List V->Hp->VK->Prop}
theorem Lw(pa:PlainAttrs T)(slot:Slot T name id)(hty:typeOf (.builtin id)=pure (.type "method_descriptor"))(hm:OP X id r)(ho:PE X o to)(ha:PA X (e::es) t)
  (hbase:attributeBase o name X.env (eval o X.env)=eval o X.env:=by rfl)
  (hfew:((backTo cpos (W7 (e::es) X.env)).all (λx=> !x.1)&&(backToKw cpos (keywordEach [] X.env)).all (λx=>x.1.isSome)
   &&decide ((e::es).length+([]:List Keyword).length+(if([]:List Keyword).isEmpty then 0 else 1) < 30))=true:=by rfl)
  (hline:(apos.endLine == cpos.line)=true:=by rfl)(hs:W7 (e::es) X.env=(false,eval e X.env)::W7 es X.env:=by rfl)(hplain:(backTo cpos (W7 es X.env)).any (·.1)=false:=by rfl) :
  PE X (.Call (.Attribute o name apos) (e::es) [] cpos) (Tu X.K T r to t):=by
 intro pins s σ H Q I h
 refine wpAny_Call_method_late hbase hfew hline rfl (aM (ho pins s σ H _ I h) λv s1 ⟨x,H1,I1,r1,ty,q1⟩=>?_)
 obtain⟨h1,h2⟩:=uJ I1 r1 ty
 refine⟨T,id,pa,slot,hty,h1,h2,?_⟩
 have hA:=ha cpos pins s1 σ H1 _ I1 q1
 rw[hs] at hA ⊢
 refine Calls.callWith_builtin (by show(false||(backTo cpos (W7 es X.env)).any (·.1))=false;rw[hplain]<;>rfl) (Calls.evalArgs_plain ?_)
 exact aM hA λus s2 ⟨vs,H2,I2,r2,q2⟩=>hm pins s2 σ H2 x vs v us Q I2 r1 r2 q2
/- xs.append(e),list.index on a zU tuple .. are OP facts of 06m -/
end
end L2
namespace L2
open PySem PySem.Spec PyProof.Rows
def Lx(X:Cx)(id:String)(r:V->List V->Hp->VK->Prop):Prop :=
 ∀(pins:List (WN×Obj))(s:WT)(σ:St)(H:Hp)(x:V)(xs:List V)(v:WU)(us:List WU)(Q:VK),Inv X pins σ H s->RelV x v->Vals xs us->r x xs H Q->
  W8 (model X.prog X.w) X.A (call (.builtin id) (v::us)) (EP X pins σ Q) X.xe s
theorem Vals.one:∀{x:V}{us:List WU},Vals [x] us->∃u,us=[u]/\RelV x u
 | _,_,.cons r .nil=>⟨_,rfl,r⟩
theorem Vals.zero:∀{us:List WU},Vals [] us->us=[]
 | _,.nil=>rfl
theorem Vals.rep{xs:List V}{us:List WU}(h:Vals xs us):∀k:Nat,Vals (List.replicate k xs).flatten (List.replicate k us).flatten
 | 0=> .nil
 | k+1=>by
  rw[List.replicate_succ,List.replicate_succ,List.flatten_cons,List.flatten_cons]
  exact Vals.append h (Vals.rep h k)
theorem foldl_rep(its:List WU):∀(k:Nat)(acc:List WU),
  List.foldl (λx1 x2=>x1++x2) acc.toArray (List.replicate k its.toArray)=(acc++(List.replicate k its).flatten).toArray
 | 0,acc=>by simp
 | k+1,acc=>by
  have e:acc.toArray++its.toArray=(acc++its).toArray:=by simp
  have e2:(acc++its)++(List.replicate k its).flatten=acc++(List.replicate (k+1) its).flatten:=by
   rw[List.replicate_succ,List.flatten_cons,List.append_assoc]
  rw[<-e2,<-foldl_rep its k (acc++its),<-e,List.replicate_succ,List.foldl_cons]
section
variable {X:Cx} {pins:List (WN×Obj)} {σ:St} {H:Hp} {s:WT} {l b:WN} {xs ys zs:List V}
theorem Inv.DB{its its':List WU}{n:Nat}{f:Array WU->Array WU}{t':Nat}(I:Inv X pins σ H s)(hH:H l=some (.lst xs))
  (e:s.heap.get? l=some { cls:=.type "list",data:=.seq its.toArray n })(hf:f its.toArray=its'.toArray)(hv:Vals ys its')(hz:ys.length<=W6) :
  Inv X pins σ (upd H l (.lst ys)) { s with heap:=s.heap.update l (Obj.mapSeq f),toks:=t' }:=by
 have q:=PySem.IsL.update e f
 rw[hf] at q
 refine I.write (x:=l) (e:=l) (by rw[hH];exact trivial) (.inl rfl) (λb' u hb hu=>(Heap.get?_update_other s.heap (Obj.mapSeq f) (Ne.symm hb)).trans hu) ⟨_,q⟩ ?_
 exact⟨hz,its',_,hv,q⟩
theorem Inv.Hy{its:List WU}{t':Nat}(I:Inv X pins σ H s)(hv:Vals ys its)(hz:ys.length<=W6) :
  Inv X pins σ (upd H s.heap.objs.size (.lst ys)) { s with heap:=s.heap.push { cls:=.type "list",data:=.seq its.toArray },toks:=t' } :=
 I.laid (λ_ _ q=>Heap.get?_push_of_some _ q) (Nat.le_refl _) ⟨hz,its,0,hv,Heap.get?_push_size _ rfl⟩
theorem Inv.fresh(I:Inv X pins σ H s):H s.heap.objs.size=none:=I.hok.fresh (Nat.le_refl _)
theorem Inv.xT(I:Inv X pins σ H s)(hH:H l=some (.lst xs)):xs.length<=W6/\∃(its:List WU)(n:Nat),Vals xs its/\xs.length=its.length/\s.heap.get? l=some { cls:=.type "list",data:=.seq its.toArray n }:=by
 obtain⟨z,its,n,r,e⟩:=I.hok l _ hH
 exact⟨z,its,n,r,r.length,e⟩
theorem mO{n:Nat}(h:n<=W6):Builtin.List.listTooLong n=false:=by
 unfold Builtin.List.listTooLong
 exact decide_eq_false (by omega)
end
section
variable {X:Cx}
def DC:V->List V->Hp->VK->Prop:=λx vs H Q=>∃l xs y,x= .ref l/\vs=[y]/\H l=some (.lst xs)/\xs.length < W6/\Q .aF (upd H l (.lst (xs++[y])))
theorem xU:Lx X "list.append" DC:=by
 intro pins s σ H x vs v us Q I rx rv h
 obtain⟨l,xs,y,rfl,rfl,hH,hz,q⟩:=h
 cases rx
 obtain⟨u,rfl,ru⟩:=rv.one
 obtain⟨z,its,n,r,hl,e⟩:=I.xT hH
 refine call_meets F.slot_list_append ⟨_,e,rfl⟩ F.entry_list_append (F.args_list_append_2 _ _) (PySem.list_append l its.toArray n u (by rw[List.size_toArray];omega)) ⟨e,?_⟩
 refine⟨.aF,_,I.DB (its':=its++[u]) hH e (by simp) (r.append (.cons ru .nil)) ?_,rfl,q⟩
 rw[List.length_append,List.length_singleton]
 omega
def DD:V->List V->Hp->VK->Prop:=λx vs H Q=>∃l b xs zs,x= .ref l/\vs=[.ref b]/\H l=some (.lst xs)/\H b=some (.lst zs)/\xs.length+zs.length<=W6/\Q .aF (upd H l (.lst (xs++zs)))
theorem xV:Lx X "list.extend" DD:=by
 intro pins s σ H x vs v us Q I rx rv h
 obtain⟨l,b,xs,zs,rfl,rfl,hH,hB,hz,q⟩:=h
 cases rx
 obtain⟨u,rfl,ru⟩:=rv.one
 cases ru
 obtain⟨z,its,n,r,hl,e⟩:=I.xT hH
 obtain⟨z2,its2,n2,r2,hl2,e2⟩:=I.xT hB
 have hsz:its.toArray.size+its2.toArray.size<=W6:=by rw[List.size_toArray,List.size_toArray];omega
 have rO:¬(!its.toArray.isEmpty&&Builtin.List.listTooLong (its.toArray.size+its2.toArray.size))=true:=by
  rw[mO hsz,Bool.and_false]
  exact Bool.false_ne_true
 refine call_meets F.slot_list_extend ⟨_,e,rfl⟩ F.entry_list_extend (F.args_list_extend_2 _ _)
  (AutoSeq1.list_extend_list_list_0 l its.toArray n b its2.toArray n2 rO (by rw[List.size_toArray];omega) (by omega)) ⟨e,e2,?_⟩
 refine⟨.aF,_,I.DB (its':=its++its2) hH e (by simp) (r.append r2) ?_,rfl,q⟩
 rw[List.length_append]
 omega
def zV:V->List V->Hp->VK->Prop:=λx vs H Q=>∃l xs,x= .ref l/\vs=[]/\H l=some (.lst xs)/\Q .aF (upd H l (.lst []))
theorem zW:Lx X "list.clear" zV:=by
 intro pins s σ H x vs v us Q I rx rv h
 obtain⟨l,xs,rfl,rfl,hH,q⟩:=h
 cases rx
 have OR:=rv.zero
 subst OR
 obtain⟨z,its,n,r,hl,e⟩:=I.xT hH
 refine call_meets F.slot_list_clear ⟨_,e,rfl⟩ F.entry_list_clear (F.args_list_clear_1 _) (AutoSeq1.list_clear_list_0 l its.toArray n (by rw[List.size_toArray];omega)) ⟨e,?_⟩
 exact⟨.aF,_,I.DB (its':=[]) (ys:=[]) hH e rfl .nil (Nat.zero_le _),rfl,q⟩
def OS:R2:=λx y H Q=>∃l k xs,x= .ref l/\y= .int k/\H l=some (.lst xs)/\-(2 ^ 63)<=k/\k < 2 ^ 63/\xs.length * k.toNat<=W6/\
 ∀p,H p=none->Q (.ref p) (upd H p (.lst (List.replicate k.toNat xs).flatten))
theorem len_rep{α:Type}(xs:List α)(k:Nat):(List.replicate k xs).flatten.length=k * xs.length:=by
 induction k with
 | zero=>simp
 | succ k ih=>rw[List.replicate_succ,List.flatten_cons,List.length_append,ih,Nat.succ_mul,Nat.add_comm]
theorem Hz:dm X (WX .Mult) OS:=by
 intro pins s σ H x y v u Q I rx ry h
 obtain⟨l,k,xs,rfl,rfl,hH,h1,h2,hz,q⟩:=h
 cases rx
 obtain⟨t,rfl⟩:=ry
 obtain⟨z,its,n,r,hl,e⟩:=I.xT hH
 have hlen:its.toArray.size * k.toNat<=W6:=by rw[List.size_toArray,<-hl];exact hz
 have hcap:¬its.toArray.size * k.toNat > (2 ^ 63 - 1) / 8:=by
  have:(W6:Nat)<=(2 ^ 63 - 1) / 8:=by decide
  omega
 have hfit:¬(!Builtin.List.listFitsIndex k)=true:=by
  rw[fitsIndex_both h1 h2]
  exact Bool.false_ne_true
 have rO:¬Builtin.List.listTooLong (its.toArray.size * k.toNat)=true:=by
  rw[mO hlen]
  exact Bool.false_ne_true
 have hnew:List.foldl (λx1 x2=>x1++x2) #[] (List.replicate (if its.toArray.isEmpty=true then 0 else k.toNat) its.toArray)=(List.replicate k.toNat its).flatten.toArray:=by
  have f0:∀m:Nat,List.foldl (λx1 x2=>x1++x2) #[] (List.replicate m its.toArray)=(List.replicate m its).flatten.toArray:=λm=>by
   have:=foldl_rep its m []
   rw[List.nil_append] at this
   exact this
  rw[f0]
  cases its with
  | nil=>simp
  | cons a r'=>rw[if_neg (by simp)]
 refine wpAny_binaryOp_repeat_ref (T:="list") (U:="int") (by decide) ⟨_,e,rfl⟩ (λs'=>typeIs_int s' k t) noFill_list_mul F.fills_int_mul F.slot_int_rmul repeat_list F.slot_int_index.lookup
  (call_meets F.slot_int_rmul (typeIs_int s k t) F.entry_int_rmul (F.args_int_rmul_2 _ _) (int___rmul___int_list k t l its.toArray n)
   ⟨e,rfl,⟨_,e,rfl⟩,call_meets F.slot_list_mul ⟨_,e,rfl⟩ F.entry_list_mul (F.args_list_mul_2 _ _) (AutoListH.list___mul___list_int_3 l its.toArray n k t hfit hcap rO) ⟨e,?_⟩⟩)
 rw[hnew]
 exact⟨.ref _,_,I.Hy (t':=s.toks) (r.rep k.toNat) (by rw[len_rep,Nat.mul_comm];exact hz),rfl,q _ I.fresh⟩
end
section
variable {prog:WS} {w:WV} {A:WO} {E:WU->WT->Prop} {s:WT}
set_option maxRecDepth 100000 in
end
section
variable {X:Cx}
end
end L2
namespace Att
open PySem PySem.W PySem.Calls PyProof.Rows
theorem lT{P:Params}{h:Heap}:∀(ns:List Int)(vs:List WU),WellAll P h vs (ns.map WData.int)->IntsAre vs ns:=by
 intro ns
 induction ns with
 | nil=>
  intro vs w
  rw[List.map_nil] at w
  cases w
  exact .nil
 | cons n ns ih=>
  intro vs w
  rw[List.map_cons] at w
  cases w with
  | cons a b=>
   cases a
   exact .cons _ _ (ih _ b)
theorem xW{l:OpenLaw}{n:Nat}(hn:l.most=some n){P:Params}{h:Heap}{args:List WData}{vals:List WU}
  (hpre:l.row.toRowW.claim.pre args=true)(hwl:WellAll P h vals args) :
  ∃a vs ns,vals=[Value.ref a]/\args=[WData.list (ns.map WData.int)]/\h.get? a=some { cls:=.type "list",data:=.seq vs.toArray }/\IntsAre vs ns/\ns.length<=n:=by
 have hsh:WShape.hasAll [] args [.list .int]=true:=(pre_splitW hpre).1
 have hc:l.pre.holds [] { args:=args }=true:=(pre_splitW hpre).2
 obtain⟨d,r,rfl,h1,h2⟩:=hasAllW_cons hsh
 obtain rfl:=hasAllW_nil h2
 obtain⟨xs,rfl,h3⟩:=hasW_list h1
 obtain⟨ns,rfl⟩:=items_int h3
 have hlen:ns.length<=n:=by
  unfold OpenLaw.pre at hc
  have h4:(WTm.not (.lt (.lit (.int (n:Int))) (.len (.arg 0)))).holds [] { args:=[.list (ns.map .int)] }=true:=by
   have h4:=(holds_andW hc).1
   rw[hn] at h4
   exact h4
  have h5:=condW_of h4 (w_not (w_lt w_lit (w_len_list (w_arg rfl))))
  rw[List.length_map] at h5
  refine Nat.le_of_not_lt λq=>?_
  have q':(n:Int) < ((ns.length:Nat):Int):=by omega
  first
   | (rw[decide_eq_true q'] at h5;exact absurd h5 (by decide))
   | (simp at h5;omega)
 cases hwl with
 | cons w1 w2=>
  cases w2
  cases w1 with
  | list ho hall=>exact⟨_,_,ns,rfl,rfl,ho,lT ns _ hall,hlen⟩
theorem xX(l:OpenLaw)(args:List WData):l.row.toRowW.claim.post args (.bool true) args=true :=
 postW_of (r:=l.row.toRowW) (X:=(true == true))
  (show WShape.has [] (.bool true) .bool=true by first | rfl | decide | simp[WShape.has,WShape.arms,WShape.armsAll])
  (show(WTm.eq .res (.lit (.bool true))).value [] { args:=args,res:=some (.bool true),after:=args }=some (.bool (true == true)) from w_eq_bool (w_res rfl) w_lit) rfl
theorem rP{l:OpenLaw}{n:Nat}{q:WS}{loose:List Str}{XP:(Str->Option WU)->Heap->Prop}{YP:WV->Heap->Prop}{d:DefRec}
  (hn:l.most=some n)(hdf:d.params.defaults=[])
  (call:∀(w:WV)(s₀ s₁:WT)(mg mb:Str->Option WU)(fa:WN)(o:Obj)(pm cd doc:WU)(a:WN)(vs:List WU)(ns:List Int),
   Ground q loose [] XP w s₀ mg mb s₁.heap->YP w s₁.heap->
   s₁.heap.get? fa=some o->o.data= .func (docDef d.name d.params d.body d.scope pm cd doc)->s₁.heap.CodeRec cd d.name->mg d.name=some (.ref fa)->
   s₁.heap.get? a=some { cls:=.type "list",data:=.seq vs.toArray }->IntsAre vs ns->ns.length<=n->s₁.gens=#[]->
   WZ (model l.prog w) callerA (.call (.ref fa) ⟨[.ref a],[]⟩) (λr s'=>r= .ok (.ret (.bool true))/\OldK s₁.heap s'.heap/\s'.os=s₁.os/\AllBare s'.gens) s₁) :
  WalkO q loose XP YP l.row.toRowW d [] (λf vs=>PySem.call f vs):=by
 intro w s₀ s₁ mg mb G Y fa o pm cd doc dV kV ho hd hcd hD hmg hg args vals as hpre hlay hrd hwl hlo
 obtain rfl:dV= .none:=Dflts.none hD hdf
 obtain rfl:kV= .none:=Dflts.noKw hD
 obtain⟨a,vs,ns,rfl,rfl,hobj,hints,hlen⟩:=xW hn hpre hwl
 refine enter_call (codeAny_mono (call w s₀ s₁ mg mb fa o pm cd doc a vs ns G Y ho (fd_plain hd) hcd hmg hobj hints hlen hg) λr s' hq=>?_)
 obtain⟨rfl,h2,h3,h4⟩:=hq
 exact⟨.inl ⟨.bool true,.bool true,[],rfl,λ_=>rfl,.bool true,xX l _,λ_=>⟨List.Pairwise.nil,λ_ hm=>(nomatch hm)⟩⟩,h2,h3,h4⟩
section
variable {prog:WS} {w:WV} {A:WO} {E:WU->WT->Prop} {s:WT} {K:Frag}
end
end Att
namespace L2
open PySem PySem.Spec PyProof.Rows
theorem pq:∀{vs:List WU}{ns:List Int},IntsAre vs ns->Vals (ns.map V.int) vs
 | _,_,.nil=> .nil
 | _,_,.cons n t h=> .cons ⟨t,rfl⟩ (pq h)
def DE(H:Hp):Prop:=∀b,H b=none\/∃o xs,H b=some (.bU o (.lst xs))
theorem zX{P:WS}{w:WV}{K:PySem.W.Frag}{mg mb:Str->Option WU}{CX:zl}{k:Nat}{fa a:WN}{fd:WQ}{x:Str}{sp:Sp}{s₁:WT}{vs:List WU}{ns:List Int}
  (KX:K.In s₁.heap)(hns:s₁.heap.Ns W5 mg)(hb:s₁.heap.Ns builtinsNs mb)(Tv:∀x:Str,x≠"__name__"->mb x=WY x)(hlim:s₁.heap.NoLimit)(hg:s₁.gens=#[])
  (ha:s₁.heap.get? a=some { cls:=.type "list",data:=.seq vs.toArray })(hi:IntsAre vs ns)(hl:ns.length<=W6)(hr:iy k callerA)
  (F:∀base:Heap,K.In base->base.Ns W5 mg->FnOk P w K mg base CX k fa fd [x] sp)(hbind:∀(s:WT)(u:WU),BindsTo s fd ⟨[u],[]⟩ [(x,u)])
  (Dq:∀H:Hp,DE H->ij K H a (ns.map V.int)->sp [.ref a] H (λv _=>v= .bl true) λ_ _ _=>False)
  (OT:∀H e s',CX [] H s₁ (λ_ _ _=>False) e s'->False) :
  WZ (model P w) callerA (.call (.ref fa) ⟨[.ref a],[]⟩) (λr s'=>r= .ok (.ret (.bool true))/\OldK s₁.heap s'.heap/\s'.os=s₁.os/\AllBare s'.gens) s₁:=by
 have rv:=pq hi
 have OU:=hi.length
 -- from an abstract heap in which nothing but the script may be tracked
 have core:∀H:Hp,DE H->ij K H a (ns.map V.int)->ic P w H s₁.heap->(∀b,H b≠none->b=a)->(H a≠none->K.lookup a=none)->
   WZ (model P w) callerA (.call (.ref fa) ⟨[.ref a],[]⟩) (λr s'=>r= .ok (.ret (.bool true))/\OldK s₁.heap s'.heap/\s'.os=s₁.os/\AllBare s'.gens) s₁:=by
  intro H hO hS hok hA hK
  have wb:∀{b:WN}{o:Obj},s₁.heap.get? b=some o->H b=none->(qd s₁.heap H).get? b=some o:=λe n=>zr e n
  have Lj:∀{b:WN}{o:Obj}{es:Array DictEntry}{ep:Nat},s₁.heap.get? b=some o->o.data= .dict es ep->H b=none:=λ{b o es ep} e d=>by
   cases q:H b with
   | none=>rfl
   | some u=>
    have e':b=a:=hA b (by rw[q];simp)
    subst e'
    rw[ha] at e;cases e
    have d':Data.seq vs.toArray _=Data.dict es ep:=d
    cases d'
  have Nr:∀{b:WN}{m:Str->Option WU},s₁.heap.Ns b m->(qd s₁.heap H).Ns b m:=λ{b m} ⟨o,es,ep,e,d,r⟩=>⟨o,es,ep,wb e (Lj e d),d,r⟩
  have Ry:K.In (qd s₁.heap H):=λb o e=>wb (KX b o e) (by
   cases q:H b with
   | none=>rfl
   | some u=>
    have e':b=a:=hA b (by rw[q];simp)
    subst e'
    rw[hK (by rw[q];simp)] at e;cases e)
  have hM:Mod K mg (qd s₁.heap H):=⟨Ry,Nr hns,⟨mb,Nr hb,Tv⟩,let ⟨mc,h1,h2⟩:=hlim;⟨mc,Nr h1,h2⟩⟩
  have e0:uC P w K mg (qd s₁.heap H) callerA [] s₁ H:=⟨rfl,hM,λb o e=>C3 e,Nat.le_of_eq (xG _ _),trivial,λb hb=>absurd (show b∈([]:List WN) from hb) (by simp),hok,.of_eq hg⟩
  refine codeAny_mono ((F _ Ry (Nr hns)).run callerA [] s₁ H ⟨[.ref a],[]⟩ [.ref a] [.ref a] _ _ hr e0 (hbind s₁ (.ref a)) (.cons rfl .nil) (Dq H hO hS)) λr s' h=>?_
  cases r with
  | error e=>exact(OT H e s' h).elim
  | ok fl=>
   cases fl with
   | next=>exact False.elim h
   | brk=>exact False.elim h
   | cont=>exact False.elim h
   | ret u=>
    obtain⟨v,H',os,bare,un,OV,r',q⟩:=h
    have q':v= .bl true:=q
    subst q'
    obtain rfl:u=Value.bool true:=r'
    refine⟨rfl,OldK.of_keep λb o e=>?_,os,bare⟩
    cases q:H b with
    | none=>exact un.keep b o e q (by intro z;exact absurd (show b∈([]:List WN) from z) (by simp)) (by simp)
    | some u=>
     rcases hO b with z | ⟨ob,xs,z⟩
     ·rw[q] at z;cases z
     ·have z2:=un.f6 b ob _ z
      obtain⟨e1,_⟩:=hok b _ z
      obtain⟨e2,_⟩:=OV b _ z2
      rw[e] at e1;cases e1
      exact e2
 cases hk:K.lookup a with
 | some o=>
  -- the script is one of the zU own objects
  have e:=KX a o hk
  rw[ha] at e
  cases e
  refine core (λ_=>none) (λ_=> .inl rfl) (.inr ⟨_,vs.toArray,_,hk,rfl,rfl,rfl,by rw[List.size_toArray,OU];exact hl,by simpa using rv⟩) (λb u z=>by have z':(none:Option HO)=some u:=z;cases z') (λb z=>absurd rfl z) λz=>absurd rfl z
 | none=>
  refine core (λb=>if b=a then some (.bU { cls:=.type "list",data:=.seq vs.toArray } (.lst (ns.map V.int))) else none) (λb=>?_) (.inl (.inr ⟨{ cls:=.type "list",data:=.seq vs.toArray },if_pos rfl⟩)) (λb u z=>?_) (λb z=>?_) λ_=>hk
  ·by_cases hb:b=a
   ·exact .inr ⟨_,_,if_pos hb⟩
   ·exact .inl (if_neg hb)
  ·by_cases hb:b=a
   ·have z':=(if_pos hb).symm.trans z
    cases z'
    subst hb
    exact⟨ha,by rw[List.length_map];exact hl,vs,_,rv,ha⟩
   ·have z':=(if_neg hb).symm.trans z
    cases z'
  ·by_cases hb:b=a
   ·exact hb
   ·exact absurd (if_neg hb) z
end L2
namespace L2
open PySem PySem.Spec PyProof.Rows
abbrev KOf{K:PySem.W.Frag}{h:Heap}(_:K.In h):PySem.W.Frag:=K
theorem walk_of{l:PySem.W.OpenLaw}{n k:Nat}{q:WS}{loose:List Str}{XP:(Str->Option WU)->Heap->Prop}{YP:WV->Heap->Prop}{d:DefRec}{K:Params->PySem.W.Frag}{CX:WV->zl}{sp:WV->Sp}{x:Str}
  (hn:l.most=some n)(hn2:n<=W6)(hdf:d.params.defaults=[])(hr:iy k callerA)
  (hY:∀(w:WV)(h:Heap),YP w h->(K w.params).In h)
  (F:∀(w:WV)(mg:Str->Option WU)(fa:WN)(h:Heap),(K w.params).In h->h.Ns W5 mg->mg d.name=some (.ref fa)->
   ∃fd:WQ,(∀(s:WT)(u:WU),BindsTo s fd ⟨[u],[]⟩ [(x,u)])/\
    ∀base:Heap,(K w.params).In base->base.Ns W5 mg->FnOk l.prog w (K w.params) mg base (CX w) k fa fd [x] (sp w))
  (Dq:∀(w:WV)(H:Hp)(a:WN)(ns:List Int),ns.length<=n->DE H->ij (K w.params) H a (ns.map V.int)->sp w [.ref a] H (λv _=>v= .bl true) λ_ _ _=>False)
  (OT:∀(w:WV)(H:Hp)(s:WT)(e:WU)(s':WT),CX w [] H s (λ_ _ _=>False) e s'->False) :
  PySem.W.WalkO q loose XP YP l.row.toRowW d [] (λf vs=>PySem.call f vs):=by
 refine Att.rP hn hdf λw s₀ s₁ mg mb fa o pm cd doc a vs ns G Y ho hd hcd hmg hobj hints hlen hg=>?_
 have KX:=hY w _ Y
 obtain⟨fd,hb,hF⟩:=F w mg fa _ KX G.T.g hmg
 exact zX KX G.T.g G.T.b G.T.builtins G.T.nolimit hg hobj hints (Nat.le_trans hlen hn2) hr hF hb (λH hO hS=>Dq w H a ns hlen hO hS) λH e s'=>OT w H s₁ e s'
end L2
/- V2 Tw Nt (shape;V3,My.* are Rz):
   My.V4: a structure of the addresses Tz your RA names (classes,KA);My.Txt K t: a structure (Prop) of the equations over K;
   My.HA:{K} {implicit addresses ..} (e1:nsIn K W5 "law"=some (some (.ref f))) (e2:K.lookup f=some ⟨oc,od,.func (fnOf "law" "law" params body scope dV kV doc pm an cdv ct),sl⟩) (e3:codeIn K cdv "law"=true) ..:∃t,My.Txt K t
set_option maxRecDepth 100000 in
set_option maxHeartbeats 0 in
theorem PySem.Challenge.cw_LID_holds:PySem.Challenge.rw_LID.Holds:=by
 w_on;o_law;k_head;(case hw=>w_witness2)
 k_fill
 refine L2.walk_of (l:=PySem.Challenge.rw_LID) (n:=63) (k:=40) (x:="script") (CX:=fun w => ..) (sp:=fun _ => My.sp_law) rfl (by decide) rfl ⟨rfl,by decide,by decide⟩ (fun w h Y => PySem.W.kIn_of Y) ?F ?S ?C
 case F=>
  intro w mg fa h KX G hmg
  have T:∃t,My.Txt (L2.KOf KX) t:=by
   dsimp only[L2.KOf] -- K TC stand as «<heap const> w.params» for k_is
   refine' My.HA ?e1 ?e2 ?e3 ..
   (case e1=>PySem.W.k_is) -- in the order: a name -> its address -> its object -> its parts
   (case e2=>PySem.W.k_is)
   ..
  obtain⟨t,T⟩:=T
  have e0:=hmg.symm.trans (PySem.W.mg_of KX G T.law)
  cases e0 -- fa is the RB own address
  exact⟨_,λs u=> .of_eq rfl,λbase kb nb=>My.HB T kb nb⟩ -- if «.of_eq rfl» comes V5 early: refine' ⟨_,?b,λbase kb nb=>My.HB T kb nb⟩;exact λs u=> .of_eq rfl
 case S=>exact λw H a ns hl hO hS=> ..
 case C=>exact ..
(the tactic k_is has no namespace: write k_is) -/
namespace L2
open PySem PySem.Spec PyProof.Rows
def defArgs(s:Stmt):Arguments:=match s with
 | .FunctionDef _ a _ _ _ _ _ _ _ _=>a
 | _=>{ posonlyargs:=[],args:=[],vararg:=none,kwonlyargs:=[],kw_defaults:=[],kwarg:=none,defaults:=[] }
def defBody(s:Stmt):List Stmt:=match s with
 | .FunctionDef _ _ b _ _ _ _ _ _ _=>b
 | _=>[]
def defScope(s:Stmt):Scope:=match s with
 | .FunctionDef _ _ _ _ _ _ sc _ _ _=>sc
 | _=>{ kind:=.function,names:=[],isGenerator:=false,isCoroutine:=false }
abbrev CX0:zl:=λ_ _ _ _ _ _=>False
abbrev E0:XK:=λ_ _ _=>False
structure FO(K:PySem.W.Frag)(x qual:Str)(st:Stmt)(f:WN)(fd:WQ):Prop where
 ex:∃(oc:WU)(od:Option WN)(kV doc pm:WU)(an:Option WN)(cdv ct:WU)(osl:Array (Option WU)),
  fd=PySem.W.fnOf x qual (defArgs st) (defBody st) (defScope st) .none kV doc pm an cdv ct/\K.lookup f=some ⟨oc,od,.func fd,osl⟩/\PySem.W.codeIn K cdv qual=true
 kp:PySem.W.keepIn K (.ref f)=true
section
variable {P:WS} {w:WV} {K:PySem.W.Frag} {mg:Str->Option WU} {base:Heap}
theorem FO.binds{x qual:Str}{st:Stmt}{f:WN}{fd:WQ}{ps:List Str}(F:FO K x qual st f fd)
  (h:∀(kV doc pm:WU)(an:Option WN)(cdv ct:WU)(us:List WU),us.length=ps.length->bindArgs (PySem.W.fnOf x qual (defArgs st) (defBody st) (defScope st) .none kV doc pm an cdv ct) ⟨us,[]⟩=pure (ps.zip us)):Binds K fd ps []:=by
 obtain⟨oc,od,kV,doc,pm,an,cdv,ct,osl,rfl,lk,hcd⟩:=F.ex
 exact .all (h kV doc pm an cdv ct)
theorem HC{x qual:Str}{st:Stmt}{f:WN}{oc:WU}{od an:Option WN}{osl:Array (Option WU)}{kV doc pm cdv ct:WU}(l:K.lookup f=some ⟨oc,od,.func (PySem.W.fnOf x qual (defArgs st) (defBody st) (defScope st) .none kV doc pm an cdv ct),osl⟩)
  (c:PySem.W.codeIn K cdv qual=true)(k:PySem.W.keepIn K (.ref f)=true):FO K x qual st f (PySem.W.fnOf x qual (defArgs st) (defBody st) (defScope st) .none kV doc pm an cdv ct):=⟨⟨oc,od,kV,doc,pm,an,cdv,ct,osl,rfl,l,c⟩,k⟩
end
section
variable {X:Cx}
end
end L2
namespace L2
open PySem PySem.Spec PyProof.Rows
section
variable {κ : Type} [DecidableEq κ]
def jT(kvs : List (κ×V))(k : κ) : Option V := (kvs.find? λkv=>decide (kv.1=k)).map (·.2)
def putK(kvs : List (κ×V))(k : κ)(v : V) : List (κ×V) :=
 if(kvs.any λkv=>decide (kv.1=k))=true then kvs.map (λkv=>if kv.1=k then(kv.1, v) else kv) else kvs++[(k, v)]
def mP(kvs : List (κ×V))(k : κ) : List (κ×V) := kvs.filter λkv=>decide (kv.1≠k)
theorem jU{p : κ×V}{r : List (κ×V)}{k : κ}(e : p.1=k) : jT (p::r) k=some p.2 := by simp[jT, List.find?_cons, e]
theorem jV{p : κ×V}{r : List (κ×V)}{k : κ}(e : ¬p.1=k) : jT (p::r) k=jT r k := by simp[jT, List.find?_cons, e]
theorem rQ(k : κ) : ∀kvs : List (κ×V), (kvs.any λkv=>decide (kv.1=k))=(jT kvs k).isSome
 | []=>rfl
 | p::r=>by
  rw[List.any_cons]
  by_cases e : p.1=k
  ·simp only[jU e, decide_eq_true e, Bool.true_or, Option.isSome_some]
  ·rw[jV e, decide_eq_false e, Bool.false_or];exact rQ k r
theorem lx(kvs : List (κ×V))(k : κ)(v : V) : (putK kvs k v).length<=kvs.length+1 := by
 unfold putK
 split
 ·rw[List.length_map];omega
 ·rw[List.length_append, List.length_cons, List.length_nil];omega
theorem mC.pv{o : Option V}{u : Option WU}(r : mC o u) : o.isSome=u.isSome := by
 cases o with
 | none=>cases u with
  | none=>rfl
  | some _=>exact(show False from r).elim
 | some _=>cases u with
  | none=>exact(show False from r).elim
  | some _=>rfl
theorem KV.val{kvs : List (κ×V)}{vs : List (κ×WU)}(r : KV kvs vs)(k : κ) : mC (jT kvs k) (valueAt vs k) := by
 unfold KV at r
 induction r with
 | nil=>exact True.intro
 | @cons p q ps qs h t ih=>
  obtain⟨h1, h2⟩ := h
  by_cases e : p.1=k
  ·have e' : q.1=k := h1.symm.trans e
   have b : valueAt (q::qs) k=some q.2 := by simp[valueAt, List.find?_cons, e']
   rw[jU e, b];exact h2
  ·have e' : ¬q.1=k := λz=>e (h1.trans z)
   have b : valueAt (q::qs) k=valueAt qs k := by simp[valueAt, List.find?_cons, e']
   rw[jV e, b];exact ih
theorem KV.any{kvs : List (κ×V)}{vs : List (κ×WU)}(r : KV kvs vs)(k : κ) : (kvs.any λkv=>decide (kv.1=k))=vs.any λkv=>decide (kv.1=k) := by
 unfold KV at r
 induction r with
 | nil=>rfl
 | cons h t ih=>rw[List.any_cons, List.any_cons, ih, h.1]
theorem KV.repl{kvs : List (κ×V)}{vs : List (κ×WU)}(r : KV kvs vs)(k : κ){y : V}{u : WU}(ry : RelV y u) :
  KV (kvs.map λkv=>if kv.1=k then(kv.1, y) else kv) (vs.map λkv=>if kv.1=k then(kv.1, u) else kv) := by
 unfold KV at r ⊢
 induction r with
 | nil=>exact .nil
 | @cons p q ps qs h t ih=>
  rw[List.map_cons, List.map_cons]
  refine .cons ?_ ih
  obtain⟨h1, h2⟩ := h
  by_cases e : p.1=k
  ·rw[if_pos e, if_pos (h1.symm.trans e)];exact⟨h1, ry⟩
  ·rw[if_neg e, if_neg (λz=>e (h1.trans z))];exact⟨h1, h2⟩
theorem KV.put{kvs : List (κ×V)}{vs : List (κ×WU)}(r : KV kvs vs)(k : κ){y : V}{u : WU}(ry : RelV y u) : KV (putK kvs k y) (stored vs k u) := by
 unfold putK stored
 rw[r.any k]
 by_cases e : (vs.any λkv=>decide (kv.1=k))=true
 ·rw[if_pos e, if_pos e];exact r.repl k ry
 ·rw[if_neg e, if_neg e];exact Paired.snoc r ⟨rfl, ry⟩
theorem KV.length{kvs : List (κ×V)}{vs : List (κ×WU)}(r : KV kvs vs) : kvs.length=vs.length := Paired.length r
end
theorem zY{P : WS}{w : WV}{k : Key}{u : WU}(r : RelV (kV k) u) : (aN P w).is k u=true := by
 cases k with
 | inl i=>obtain⟨t, e⟩ := (show ∃t, u=Value.int i t from r);subst e;exact rD P w i t
 | inr x=>obtain⟨t, e⟩ := (show ∃t, u=Value.str x t from r);subst e;exact rE P w x t
theorem pz{P : WS}{w : WV} : ∀{ks : List Key}{us : List WU}, Vals (ks.map kV) us->ItemsAre (aN P w) ks us
 | [], _, r=>by rw[List.map_nil] at r;cases r;exact .nil
 | k::ks, _, r=>by
  rw[List.map_cons] at r
  cases r with
  | cons h t=>exact .cons (zY h) (pz t)
abbrev KT(H : Hp) : List (List Key×V)->List (List Key×WN×WU)->Prop := Paired λp q=>p.1=q.1/\H q.2.1=some (.tup (p.1.map kV))/\RelV p.2 q.2.2
theorem KT.val{H : Hp}{kvs : List (List Key×V)}{xs : List (List Key×WN×WU)}(r : KT H kvs xs)(k : List Key) : mC (jT kvs k) ((atKey xs k).map (·.2)) := by
 induction r with
 | nil=>exact True.intro
 | @cons p q ps qs h t ih=>
  obtain⟨h1, _, h2⟩ := h
  by_cases e : p.1=k
  ·have e' : q.1=k := h1.symm.trans e
   have b : atKey (q::qs) k=some q.2 := by simp[atKey, List.find?_cons, e']
   rw[jU e, b];exact h2
  ·have e' : ¬q.1=k := λz=>e (h1.trans z)
   have b : atKey (q::qs) k=atKey qs k := by simp[atKey, List.find?_cons, e']
   rw[jV e, b];exact ih
theorem KT.repl{H : Hp}{kvs : List (List Key×V)}{xs : List (List Key×WN×WU)}(r : KT H kvs xs)(k : List Key){y : V}{u : WU}(ry : RelV y u) :
  KT H (kvs.map λkv=>if kv.1=k then(kv.1, y) else kv) (xs.map (putAt k u)) := by
 induction r with
 | nil=>exact .nil
 | @cons p q ps qs h t ih=>
  rw[List.map_cons, List.map_cons]
  refine .cons ?_ ih
  obtain⟨h1, h2, h3⟩ := h
  unfold putAt
  by_cases e : p.1=k
  ·rw[if_pos e, if_pos (h1.symm.trans e)];exact⟨h1, h2, ry⟩
  ·rw[if_neg e, if_neg (λz=>e (h1.trans z))];exact⟨h1, h2, h3⟩
theorem KT.put{H : Hp}{kvs : List (List Key×V)}{xs : List (List Key×WN×WU)}(r : KT H kvs xs)(k : List Key){b : WN}{y : V}{u : WU}(hb : H b=some (.tup (k.map kV)))(ry : RelV y u) :
  KT H (putK kvs k y) (storedH xs k b u) := by
 have e : (kvs.any λkv=>decide (kv.1=k))=(atKey xs k).isSome := by
  rw[rQ, (r.val k).pv, Option.isSome_map]
 unfold putK storedH
 rw[e]
 by_cases q : (atKey xs k).isSome=true
 ·rw[if_pos q, if_pos q];exact r.repl k ry
 ·rw[if_neg q, if_neg q];exact Paired.snoc r ⟨rfl, hb, ry⟩
theorem KT.keeps{H H' : Hp}{kvs : List (List Key×V)}{xs : List (List Key×WN×WU)}(r : KT H kvs xs)(ht : ∀b ys, H b=some (.tup ys)->H' b=some (.tup ys)) : KT H' kvs xs :=
 Paired.GL r λ_ _ z=>⟨z.1, ht _ _ z.2.1, z.2.2⟩
section
variable {P : WS} {w : WV} {H : Hp} {h : Heap} {a : WN}
theorem zZ{u : HO}(ok : ic P w H h)(e : Rd H a u) : bN P w H h a u := e.ok ok
theorem wc{kvs : List (Key×V)}(ok : ic P w H h)(e : Rd H a (.dK kvs)) : kvs.length<=W6/\(a == sysModules)=false/\∃vs, KV kvs vs/\h.DictOf (aN P w) a vs :=
 show bN P w H h a (.dK kvs) from zZ ok e
theorem Ly{kvs : List (Key×V)}(ok : ic P w H h)(e : H a=some (.dK kvs)) : kvs.length<=W6/\(a == sysModules)=false/\∃vs, KV kvs vs/\h.DictOf (aN P w) a vs := wc ok (.inl e)
theorem ql{ks : List Key}(ok : ic P w H h)(e : H a=some (.tup (ks.map kV))) : (tupleKind (aN P w)).is h ks a := by
 obtain⟨_, its, r, ⟨o, h1, h2, n, h3⟩, _⟩ := (show bN P w H h a (.tup (ks.map kV)) from ok a _ e)
 exact⟨o, its.toArray, n, h1, h2, h3, by simpa using pz r⟩
theorem pA{kvs : List (List Key×V)}(ok : ic P w H h)(e : Rd H a (.dT kvs)) : kvs.length<=W6/\(a == sysModules)=false/\
  ∃xs, KT H kvs xs/\h.DictOfH (tupleKind (aN P w)) a xs := by
 obtain⟨z, y, xs, r, o, es, ep, h1, h2, h3, h4, h5⟩ := (show bN P w H h a (.dT kvs) from zZ ok e)
 refine⟨z, y, xs, r, o, es, ep, h1, h2, h3, h4, λx hx=>?_, h5⟩
 have all : ∀{l : List (List Key×V)}{m : List (List Key×WN×WU)}, KT H l m->∀x∈m, (tupleKind (aN P w)).is h x.1 x.2.1 := by
  intro l m q
  induction q with
  | nil=>intro x hx;exact nomatch hx
  | @cons p q ps qs hq t ih=>
   intro x hx
   rcases List.mem_cons.mp hx with e | hx
   ·subst e
    exact ql ok (by rw[<-hq.1];exact hq.2.1)
   ·exact ih x hx
 exact all r x hx
theorem FP{kvs : List (List Key×V)}(ok : ic P w H h)(e : H a=some (.dT kvs)) : kvs.length<=W6/\(a == sysModules)=false/\
  ∃xs, KT H kvs xs/\h.DictOfH (tupleKind (aN P w)) a xs := pA ok (.inl e)
end
def oC(H : Hp)(a : WN)(y : V)(r : Option V) : Prop :=
 (∃kvs k, Rd H a (.dK kvs)/\y=kV k/\r=jT kvs k)\/∃kvs k b, Rd H a (.dT kvs)/\y= .ref b/\H b=some (.tup (k.map kV))/\r=jT kvs k
def qm(H : Hp)(a : WN)(y v : V)(H' : Hp) : Prop :=
 (∃kvs k, H a=some (.dK kvs)/\y=kV k/\kvs.length < W6/\H'=upd H a (.dK (putK kvs k v)))\/
 ∃kvs k b, H a=some (.dT kvs)/\y= .ref b/\H b=some (.tup (k.map kV))/\kvs.length < W6/\H'=upd H a (.dT (putK kvs k v))
theorem oC.k{H : Hp}{a : WN}{kvs : List (Key×V)}{k : Key}(e : H a=some (.dK kvs)) : oC H a (kV k) (jT kvs k) := .inl ⟨kvs, k, .inl e, rfl, rfl⟩
theorem oC.t{H : Hp}{a b : WN}{kvs : List (List Key×V)}{k : List Key}(e : H a=some (.dT kvs))(eb : H b=some (.tup (k.map kV))) : oC H a (.ref b) (jT kvs k) := .inr ⟨kvs, k, b, .inl e, rfl, eb, rfl⟩
theorem qm.k{H : Hp}{a : WN}{kvs : List (Key×V)}{k : Key}{v : V}(e : H a=some (.dK kvs))(hl : kvs.length < W6) : qm H a (kV k) v (upd H a (.dK (putK kvs k v))) := .inl ⟨kvs, k, e, rfl, hl, rfl⟩
theorem qm.t{H : Hp}{a b : WN}{kvs : List (List Key×V)}{k : List Key}{v : V}(e : H a=some (.dT kvs))(eb : H b=some (.tup (k.map kV)))(hl : kvs.length < W6) :
  qm H a (.ref b) v (upd H a (.dT (putK kvs k v))) := .inr ⟨kvs, k, b, e, rfl, eb, hl, rfl⟩
section
variable {X : Cx} {pins : List (WN×Obj)} {σ : St} {H : Hp} {s : WT} {a : WN} {y v : V} {u r : WU} {o : Option V} {A : WO} {E : WU->WT->Prop}
theorem Inv.big(I : Inv X pins σ H s) : sysModules < s.heap.objs.size := by
 have h : W5 < s.heap.objs.size := (I.mod.glob.keeps I.bk).lt
 exact Nat.lt_trans (by decide) h
theorem xY{Q : WU->WT->Prop}(hu : A.units+1 < cLine)(I : Inv X pins σ H s)(g : oC H a y (some v))(ry : RelV y u)(h : ∀w' s', Inv X pins σ H s'->RelV v w'->Q w' s') :
  W8 (model X.prog X.w) A (getItem (.ref a) u) Q E s := by
 rcases g with ⟨kvs, k, e, ey, l⟩ | ⟨kvs, k, b, e, ey, eb, l⟩
 ·subst ey
  obtain⟨z, hd, vs, rel, dd⟩ := wc I.hok e
  obtain⟨w', hw, rw'⟩ := mC.some_of (v := v) (o := valueAt vs k) (by rw[l];exact rel.val k)
  exact wpAny_getItem_of (zY ry) dd.mapOf hw (h w' _ (I.tok _) rw')
 ·subst ey
  cases (show u=Value.ref b from ry)
  obtain⟨z, hd, xs, rel, dd⟩ := pA I.hok e
  obtain⟨w', hw, rw'⟩ := mC.some_of (v := v) (o := (atKey xs k).map (·.2)) (by rw[l];exact rel.val k)
  obtain⟨p, hp, hp2⟩ := Option.map_eq_some_iff.mp hw
  refine wpAny_getItem_heap (tupleKind_room_in1 hu) (ql I.hok eb) dd hp ?_
  rw[hp2]
  exact h w' _ (I.tok _) rw'
theorem me{h' : Heap}{t' : Nat}{ob : HO}(I : Inv X pins σ H s)(mu : KR (H a))(hs : Heap.SameBut a s.heap h')(he : ∃q, h'.get? a=some q)(new : bN X.prog X.w (upd H a ob) h' a ob) :
  Inv X pins σ (upd H a ob) { s with heap := h', toks := t' } :=
 I.write (x := a) (e := a) mu (.inl rfl) (λb q hb z=>(hs.2 b hb).trans z) he new
theorem HD{P : WS}{w : WV}{H' : Hp}{h' : Heap}{kvs : List (Key×V)}{vs : List (Key×WU)}(z : kvs.length<=W6)(hd : (a == sysModules)=false)(rel : KV kvs vs)(dd : h'.DictOf (aN P w) a vs) :
  bN P w H' h' a (.dK kvs) :=⟨z, hd, vs, rel, dd⟩
theorem xZ{H' : Hp}{Q : Unit->WT->Prop}(hu : A.units+1 < cLine)(I : Inv X pins σ H s)(g : qm H a y v H')(ry : RelV y u)(rv : RelV v r)(h : ∀s', Inv X pins σ H' s'->Q () s') :
  W8 (model X.prog X.w) A (setItem (.ref a) u r) Q E s := by
 rcases g with ⟨kvs, k, e, ey, l, eH⟩ | ⟨kvs, k, b, e, ey, eb, l, eH⟩
 ·subst ey eH
  obtain⟨z, hd, vs, rel, dd⟩ := Ly I.hok e
  have hz : vs.length<=W6 := by rw[<-rel.length];exact z
  have hl : (putK kvs k v).length<=W6 := by have := lx kvs k v;omega
  refine wpAny_setItem_pairs (hsz := hz) (zY ry) dd λh' FQ hs=>h _ ?_
  have he : ∃q, h'.get? a=some q := let ⟨q, _, _, hq, _⟩ := FQ;⟨q, hq⟩
  exact me I (by rw[e];exact True.intro) hs he (HD hl hd (rel.put k rv) FQ)
 ·subst ey eH
  cases (show u=Value.ref b from ry)
  obtain⟨z, hd, xs, rel, dd⟩ := FP I.hok e
  have hz : xs.length<=W6 := by rw[<-Paired.length rel];exact z
  have hl : (putK kvs k v).length<=W6 := by have := lx kvs k v;omega
  refine wpAny_setItem_heap (hsz := hz) (tupleKind_room_in1 hu) (ql I.hok eb) dd λh' FQ hs=>h _ ?_
  obtain⟨q, es, ep, hq, h2, h3, h4, _, h5⟩ := FQ
  refine me I (by rw[e];exact True.intro) hs ⟨q, hq⟩ ⟨hl, hd, _, (rel.put k eb rv).keeps λc ys ec=>?_, q, es, ep, hq, h2, h3, h4, h5⟩
  rw[av (FD ec e (λz=>nomatch z))]
  exact ec
end
section
variable {X : Cx} {pins : List (WN×Obj)} {σ : St} {H : Hp} {s : WT} {a : WN} {kvs : List (Key×V)} {k : Key} {u : WU} {A : WO} {E : WU->WT->Prop}
end
def z_(i : Expr) : Prop := ∀ov iv, subscripted i false ov iv=operate [ov, iv] (getItem ov iv)
theorem we{prog : WS}{w : WV}{A : WO}{E : WU->WT->Prop}{s : WT}{env : Env}{value slice : Expr}{pos : Pos}{T id : String}{Q : WU->WT->Prop}
  (hl : typeLookup (.type T) "__getitem__"=pure (some (.builtin id)))(hs : z_ slice)
  (h : W8 (model prog w) A (eval value env) (λo s₁=>W8 (model prog w) A (eval slice env) (λi s₂=>s₂.TypeIs o T/\W8 (model prog w) A (getItem o i) Q E s₂) E s₁) E s) :
  W8 (model prog w) A (eval (.Subscript value slice pos) env) Q E s := by
 refine Subscript_ (Xa h (λo s₁ h₁=>Xa h₁ (λi s₂ h₂=>?_) λ_ _ x=>x) λ_ _ x=>x)
 obtain⟨hT, h₂⟩ := h₂
 unfold subscriptTail
 refine W9 ?_
 rw[getitemInPython_of_ne hT.not_modules]
 refine W9 (wpAny_specialOf hT hl ?_)
 have fin : W8 (model prog w) A (subscripted slice false o i) (λr s₃=>W8 (model prog w) A (letTemporaryGo value o r >>= λ_=>pure r) Q E s₃) E s₂ := by
  rw[hs o i]
  exact wpAny_operating (Xa h₂ (λr s₃ h₃=>W9 (wpAny_letTemporaryGo (Xe h₃))) λ_ _ x=>x)
 first
  | exact Xe (W9 fin)
  | exact W9 (Xe (W9 fin))
  | exact W9 fin
theorem rR{X : Cx}{pins : List (WN×Obj)}{σ : St}{H : Hp}{s : WT}{a : WN}{y : V}{o : Option V}(I : Inv X pins σ H s)(g : oC H a y o) : s.TypeIs (.ref a) "dict" := by
 rcases g with ⟨kvs, k, e, _, _⟩ | ⟨kvs, k, b, e, _, _, _⟩
 ·obtain⟨_, _, vs, _, dd⟩ := wc I.hok e
  exact dd.typeIs
 ·obtain⟨_, _, xs, _, dd⟩ := pA I.hok e
  exact dd.typeIs
def Lz(td ty : TE) : TE := λσ H Q=>td σ H λx H1=>ty σ H1 λy H2=>∃a v, x= .ref a/\oC H2 a y (some v)/\Q v H2
def LA(td ty tv : TE) : TS := λD σ H=>tv σ H λv H1=>td σ H1 λx H2=>ty σ H2 λy H3=>∃a H4, x= .ref a/\qm H3 a y v H4/\D.nx σ H4
section
variable {X : Cx} {o i e value : Expr} {pos pos' tpos : Pos} {td ty tv : TE}
theorem DF(hu : X.A.units+1 < cLine)(ho : PE X o td)(hi : PE X i ty)(hs : z_ i) : PE X (.Subscript o i pos) (Lz td ty) := by
 intro pins s σ H Q I h
 refine we PySem.F.slot_dict_getitem.lookup hs (aM (ho pins s σ H _ I h) λu s1 ⟨x, H1, I1, rx, q1⟩=>aM (hi pins s1 σ H1 _ I1 q1) λiv s2 ⟨y, H2, I2, ry, a, v, ex, g, q2⟩=>?_)
 subst ex
 obtain rfl : u=Value.ref a := rx
 exact⟨rR I2 g, xY hu I2 g ry λw' s3 I3 rw'=>⟨v, H2, I3, rw', q2⟩⟩
theorem DG(hu : X.A.units+1 < cLine)(ho : PE X o td)(hi : PE X i ty)(hv : PE X value tv)(hs : swapsWith value (some (.Subscript o i pos')) pos.line X.env=pure false) :
  PS X (.Assign [.Subscript o i pos'] value pos) (LA td ty tv) := by
 intro pins s σ H D I h
 refine wpAny_Assign_Subscript (aM (hv pins s σ H _ I h) λr s1 ⟨v, H1, I1, rv, q1⟩=>aM (ho pins s1 σ H1 _ I1 q1) λu s2 ⟨x, H2, I2, rx, q2⟩=>aM (hi pins s2 σ H2 _ I2 q2) λiv s3 ⟨y, H3, I3, ry, a, H4, ex, g, q3⟩=>?_) hs
 subst ex
 obtain rfl : u=Value.ref a := rx
 exact xZ hu I3 g ry rv λs4 I4=>⟨σ, H4, I4, q3⟩
end
theorem Aa{P : WS}{w : WV}{H : Hp}(h : Heap)(hb : sysModules < h.objs.size) : bN P w H (h.push { cls := .type "dict", data := .dict #[] }) h.objs.size (.dK []) :=
 ⟨Nat.zero_le _, beq_eq_false_iff_ne.mpr (Ne.symm (Nat.ne_of_lt hb)), [], .nil, Heap.DictOf.new h⟩
theorem Ab{P : WS}{w : WV}{H : Hp}(h : Heap)(hb : sysModules < h.objs.size) : bN P w H (h.push { cls := .type "dict", data := .dict #[] }) h.objs.size (.dT []) :=
 ⟨Nat.zero_le _, beq_eq_false_iff_ne.mpr (Ne.symm (Nat.ne_of_lt hb)), [], .nil, _, #[], 0, Heap.get?_push_size _ rfl, ⟨rfl, rfl, rfl⟩, rfl, rfl, List.nodup_nil⟩
def HE : TE := λ_ H Q=>∀p, H p=none->Q (.ref p) (upd H p (.dK []))
def HF : TE := λ_ H Q=>∀p, H p=none->Q (.ref p) (upd H p (.dT []))
section
variable {X : Cx} {pos : Pos}
theorem Ac : PE X (.Dict [] [] pos) HE := λpins s σ H Q I h=>
 wpAny_Dict_empty ⟨.ref s.heap.objs.size, _, I.laid (a := s.heap.objs.size) (o := .dK []) (t' := s.toks) (λ_ _ q=>Heap.get?_push_of_some _ q) (Nat.le_refl _) (Aa s.heap I.big), rfl, h _ (I.hok.fresh (Nat.le_refl _))⟩
theorem Ad : PE X (.Dict [] [] pos) HF := λpins s σ H Q I h=>
 wpAny_Dict_empty ⟨.ref s.heap.objs.size, _, I.laid (a := s.heap.objs.size) (o := .dT []) (t' := s.toks) (λ_ _ q=>Heap.get?_push_of_some _ q) (Nat.le_refl _) (Ab s.heap I.big), rfl, h _ (I.hok.fresh (Nat.le_refl _))⟩
end
abbrev VV : List (V×V)->List (WU×WU)->Prop := Paired λp q=>RelV p.1 q.1/\RelV p.2 q.2
def HG(kvs more : List (Key×V)) : List (Key×V) := more.foldl (λacc kv=>putK acc kv.1 kv.2) kvs
structure M1(X : Cx)(o : Expr)(m : Str)(apos : Pos)(e : Expr)(cpos : Pos) : Prop where
 base : attributeBase o m X.env (eval o X.env)=eval o X.env
 few : ((backTo cpos (W7 [e] X.env)).all (λx=> !x.1)&&(backToKw cpos (keywordEach [] X.env)).all (λx=>x.1.isSome)
  &&decide (([e] : List Expr).length+([] : List Keyword).length+(if([] : List Keyword).isEmpty then 0 else 1) < 30))=true
 line : (apos.endLine == cpos.line)=true
 trees : backTo cpos (W7 [e] X.env)=[(false, eval e X.env)]
structure M2(X : Cx)(o : Expr)(m : Str)(apos : Pos)(e f : Expr)(cpos : Pos) : Prop where
 base : attributeBase o m X.env (eval o X.env)=eval o X.env
 few : ((backTo cpos (W7 [e, f] X.env)).all (λx=> !x.1)&&(backToKw cpos (keywordEach [] X.env)).all (λx=>x.1.isSome)
  &&decide (([e, f] : List Expr).length+([] : List Keyword).length+(if([] : List Keyword).isEmpty then 0 else 1) < 30))=true
 line : (apos.endLine == cpos.line)=true
 trees : backTo cpos (W7 [e, f] X.env)=[(false, eval e X.env), (false, eval f X.env)]
def TF(H : Hp)(a : WN) : Prop := (∃kvs, Rd H a (.dK kvs))\/∃kvs, Rd H a (.dT kvs)
theorem HH{X : Cx}{pins : List (WN×Obj)}{σ : St}{H : Hp}{s : WT}{a : WN}(I : Inv X pins σ H s)(d : TF H a) :
  s.TypeIs (.ref a) "dict"/\(∀b, Value.ref a= .ref b->∃ob, s.heap.get? b=some ob/\ob.dict=none)/\(a == sysModules)=false := by
 rcases d with ⟨kvs, e⟩ | ⟨kvs, e⟩
 ·obtain⟨_, hd, vs, _, dd⟩ := wc I.hok e
  refine⟨dd.typeIs, λb q=>?_, hd⟩
  cases q
  obtain⟨ob, _, _, h1, h2, _⟩ := dd
  exact⟨ob, h1, h2.2.1⟩
 ·obtain⟨_, hd, xs, _, dd⟩ := pA I.hok e
  refine⟨dd.typeIs, λb q=>?_, hd⟩
  cases q
  obtain⟨ob, _, _, h1, h2, _⟩ := dd
  exact⟨ob, h1, h2.2.1⟩
section
variable {X : Cx} {pins : List (WN×Obj)} {σ : St} {H : Hp} {s : WT} {a : WN} {y d : V} {u r : WU} {o : Option V} {A : WO} {E : WU->WT->Prop}
end
section
variable {X : Cx} {o e f : Expr} {apos cpos : Pos} {td ty tx : TE}
end
section
variable {X : Cx} {pins : List (WN×Obj)} {σ : St} {H : Hp} {s : WT} {a : WN} {kvs : List (Key×V)} {A : WO} {E : WU->WT->Prop}
end
section
variable {X : Cx} {pins : List (WN×Obj)} {σ : St} {H : Hp} {s : WT} {a : WN} {y : V} {u : WU} {A : WO} {E : WU->WT->Prop}
end
end L2
namespace Att
open PySem PySem.W PySem.Calls PyProof.Rows
end Att
namespace L2
open PySem PySem.Spec PyProof.Rows
section
variable {X : Cx}
end
section
variable {κ : Type} [DecidableEq κ]
theorem x8{p : κ×V}{r : List (κ×V)}{k : κ}(e : p.1=k) : mP (p::r) k=mP r k := by
 unfold mP
 rw[List.filter_cons, if_neg (by simp[e])]
theorem x9{p : κ×V}{r : List (κ×V)}{k : κ}(e : ¬p.1=k) : mP (p::r) k=p::mP r k := by
 unfold mP
 rw[List.filter_cons, if_pos (by simp[e])]
end
end L2
set_option maxHeartbeats 4000000
namespace J
open PySem PySem.Spec PyProof.Rows L2
def Nu(h base:Heap)(e:WN)(cls a0 fl:WU):Prop :=
 ∃ox us T ot ws,h.get? e=some ox/\(ox.cls=cls/\us[2]? =some Value.none)/\ox.data= .fields us/\us[1]? =some (.ref T)/\base.get? T=none/\T≠e/\h.get? T=some ot/\ot.data= .fields ws/\ws[3]? =some fl
abbrev DH(base:Heap)(l:List Env)(e:WN)(cls a0 fl:WU)(h:Heap):Prop:=base.StaysIn h/\base.get? e=none/\h.FunFrames base l/\Nu h base e cls a0 fl
def Ae(base:Heap)(l:List Env)(e:WN)(cls a0:WU)(L:WN)(h:Heap):Prop:=DH base l e cls a0 (rawInt L) h
def qo(base:Heap)(l:List Env)(e:WN)(cls a0:WU)(h:Heap):Prop:=DH base l e cls a0 .none h
theorem qo.first{base h:Heap}{l:List Env}{e:WN}{cls a0:WU}(x:qo base l e cls a0 h):∃ox us,h.get? e=some ox/\ox.cls=cls/\ox.data= .fields us/\us[2]? =some Value.none :=
 let ⟨_,_,_,ox,us,_,_,_,g1,g2,g3,_⟩:=x;⟨ox,us,g1,g2.1,g3,g2.2⟩
section
variable {M:Model} {A:WO} {E:WU->WT->Prop} {s:WT} {base:Heap} {env:Env} {outer l:List Env} {L e:WN} {cls a0 nt:WU} {Q:Unit->WT->Prop}
theorem uK{h h1:Heap}{S:List WN}{ox ob:Obj}{us ws:Array WU}(so:Heap.SlotsOnly S h h1)(hS:S=l.filterMap (·.frame))(fs:h.FunFrames base l)(g1:h.get? e=some ox)(g3:ox.data= .fields us)(st:base.StaysIn h)(ne:base.get? e=none)(sz:1 < us.size)(g2:us[2]? =some Value.none)
  (d:ob.data= .fields ws)(w3:ws[3]? =some nt)(nf:ob.isFreed=false) :
  DH base l e ox.cls a0 nt ((h1.push ob).update e (Obj.mapFields (·.setIfInBounds 1 (.ref h1.objs.size))))/\h.UpToSlots ((h1.push ob).update e (Obj.mapFields (·.setIfInBounds 1 (.ref h1.objs.size)))):=by
 have nS:e∉S:=λz=>by
  rw[hS] at z
  obtain⟨_,o2,q2,d2⟩:=fs.mem z
  rw[g1] at q2
  cases q2
  exact d2 us g3
 have q1:h1.get? e=some ox:=(so.2.1 e nS).trans g1
 have lt:e≠h1.objs.size:=Nat.ne_of_lt (Heap.lt_size q1)
 have RC:∀b o,b≠e->h1.get? b=some o->((h1.push ob).update e (Obj.mapFields (·.setIfInBounds 1 (.ref h1.objs.size)))).get? b=some o:=λb o n q=>(Heap.get?_update_other _ _ (Ne.symm n)).trans (Heap.get?_push_of_some _ q)
 have up:h.UpToSlots ((h1.push ob).update e (Obj.mapFields (·.setIfInBounds 1 (.ref h1.objs.size)))):=λb o q n=>by
  obtain⟨sl,q2⟩:=so.2.2 b o q
  exact⟨sl,RC b _ (λz=>by rw[z,g1] at q;cases q;exact n us g3) q2⟩
 have stay:base.StaysIn h1:=λb o q=>(so.2.1 b λz=>by
  rw[hS] at z
  rw[(fs.mem z).1] at q
  cases q).trans (st b o q)
 have fresh:base.get? h1.objs.size=none:=by
  cases z:base.get? h1.objs.size with
  | none=>rfl
  | some o=>exact absurd (Heap.lt_size (stay _ _ z)) (Nat.lt_irrefl _)
 have d1:=Obj.data_mapFields g3 (·.setIfInBounds 1 (Value.ref h1.objs.size))
 refine⟨⟨λb o q=>RC b o (λz=>by rw[z,ne] at q;cases q) (stay b o q),ne,fs.of_keeps λb o q n=>?_,_,_,h1.objs.size,ob,ws,Heap.get?_update_self _ (Heap.get?_push_of_some _ q1) (Obj.isFreed_of_fields d1),⟨Obj.cls_mapFields _ _,?_⟩,d1,by simp[sz],fresh,Ne.symm lt,?_,d,w3⟩,up⟩
 ·obtain⟨sl,q2⟩:=up b o q n
  exact⟨_,q2,rfl⟩
 ·rw[Array.getElem?_setIfInBounds_ne (by decide)];exact g2
 ·exact(Heap.get?_update_other _ _ lt).trans (Heap.get?_push_size _ nf)
theorem Af{ox:Obj}{us:Array WU}{head:WU}{had:Bool}(hfr:A.frames=some (env::outer))(fs:s.heap.FunFrames base (env::outer))(hf:env.frame=some L)(g1:s.heap.get? e=some ox)(st:base.StaysIn s.heap)(ne:base.get? e=none)(g3:ox.data= .fields us)(sz:1 < us.size)(g2:us[2]? =some Value.none)
  (k:∀h',Ae base (env::outer) e ox.cls a0 L h'->s.heap.UpToSlots h'->Q () { s with heap:=h' }) :
  W8 M A (do let a <-frameOf env;let pl <-entryPlaceOf L had;let b <-EntryCells.newEntry head a .none (rawInt L) .none pl;setField (.ref e) 1 b) Q E s:=by
 refine W9 (wpAny_frameOf_fun hfr fs hf λh1 so=>W9 (wpAny_entryPlaceOf λpl pp=>?_))
 have nS:e∉(env::outer).filterMap (·.frame):=λz=>by
  obtain⟨_,o2,q2,d2⟩:=fs.mem z
  rw[g1] at q2
  cases q2
  exact d2 us g3
 have q1:h1.get? e=some ox:=(so.2.1 e nS).trans g1
 simp only[EntryCells.newEntry,newFields]
 refine W9 (Xd (wpAny_setField (Heap.get?_push_of_some _ q1) g3 sz ?_) (pp.sizeOk5 _ _ _ _ _))
 obtain⟨m,up⟩:=uK (a0:=a0) (nt:=rawInt L) so rfl fs g1 g3 st ne sz g2 (ob:={ cls:=.type "traceback",dict:=none,data:=.fields ([head,.ref L,.none,rawInt L,.none]++(if pl.isEmpty then List.replicate 6 Value.none else pl)).toArray }) rfl (by first | (simp;done) | (rcases pp with rfl | ⟨_,_,_,_,_,_,_,rfl⟩<;>simp)) rfl
 exact k _ m up
theorem HJ(hf:env.frame=some L)(x:Nu s.heap base e cls a0 (rawInt L))(k:Q () s):W8 M A (noteFrame (.ref e) env) Q E s:=by
 obtain⟨ox,us,T,ot,ws,g1,g2,g3,g4,g5,g6,g7,g8,g9⟩:=x
 unfold noteFrame
 simp only[hf]
 refine W9 (wpAny_field g1 g3 g4 ?_)
 rw[if_pos (by simp)]
 refine W9 (wpAny_field g7 g8 g9 ?_)
 rw[if_pos (by simp)]
 exact Xe k
theorem rS(x:DH base l e cls a0 nt s.heap)(k:∀h',qo base l e cls a0 h'->s.heap.UpToSlots h'->Q () { s with heap:=h' }):W8 M A (setFlight (.ref e) none) Q E s:=by
 obtain⟨x1,x2,x3,ox,us,T,ot,ws,g1,g2,g3,g4,g5,g6,g7,g8,g9⟩:=x
 have sz:3 < ws.size:=(Array.getElem?_eq_some_iff.mp g9).1
 unfold setFlight
 refine W9 (wpAny_field g1 g3 g4 ?_)
 rw[if_pos (by simp)]
 refine wpAny_setField g7 g8 sz ?_
 generalize hu:s.heap.update T _=h'
 have ap:∀b,b≠T->h'.get? b=s.heap.get? b:=λb n=>by rw[<-hu];exact Heap.get?_update_other _ _ (Ne.symm n)
 have pl:∀b o,s.heap.get? b=some o->(∀vs,o.data≠.fields vs)->h'.get? b=some o:=λb o q n=>(ap b λz=>by rw[z,g7] at q;cases q;exact n ws g8).trans q
 refine k h' ⟨λb o q=>(ap b λz=>by rw[z,g5] at q;cases q).trans (x1 b o q),x2,x3.of_keeps λb o q n=>⟨o,pl b o q n,rfl⟩,ox,us,T,Obj.mapFields (·.setIfInBounds 3 .none) ot,ws.setIfInBounds 3 .none,(ap e (Ne.symm g6)).trans g1,g2,g3,g4,g5,g6,?_,Obj.data_mapFields g8 _,?_⟩ λb o q n=>⟨o.slots,pl b o q n⟩
 ·rw[<-hu];exact Heap.get?_update_self _ g7 (Obj.isFreed_of_fields (Obj.data_mapFields g8 _))
 ·simp[sz]
end
end J
namespace J
open PySem PySem.Spec PyProof.Rows L2
structure Lm where
 a:WN
 c:WN
 q:PySem.Str
 xs:List V
inductive Wv where
 | aF
 | bl (b:Bool)
 | int (i:Int)
 | str (x:PySem.Str)
 | tup (ws:List Wv)
 | mQ (ws:List Wv)
 | ref (l:Nat)
 | ty (n:String)
 | cls (c:PySem.Str)
 | fA (c:PySem.Str)
 | fn (p:Lm) (ws:List Wv)
inductive Ob where
 | lst (ws:List Wv)
 | jW (ns:List Int)
 | dct (kvs:List (L2.Key×Wv))
 | bh (kvs:List (List L2.Key×Wv))
 | jL (kvs:List (List L2.Key×Wv))
abbrev Hs:=List Ob
abbrev St:=L2.St
abbrev aT:=List (Option Wv)
abbrev Mp:=List WN
def iA(a C:WN):Heap->Prop:=λh=>∃o,h.get? a=some o/\o.cls= .ref C/\∃vs,o.data= .fields vs
def Nv(a C:WN)(u:Option HO):Prop:=∃o vs,u=some (.bU o (.ext (iA a C)))/\o.data= .fields vs/\vs[2]? =some Value.none
theorem FR{P:WS}{w:WV}{H:Hp}{h:Heap}{a C:WN}(ok:ic P w H h)(x:Nv a C (H a)):iA a C h:=let ⟨_,_,e,_⟩:=x;(ok a _ e).2.1
def ClsAt(K:PySem.W.Frag)(c:PySem.Str)(C:WN):Prop:=PySem.W.nsIn K W5 c=some (some (.ref C))
def Ag(c:WN)(q:PySem.Str):Heap->Prop:=λh=>h.CodeRec (.ref c) q
def bO:List PySem.Str:=["form_of","formula_by","turned"]
def gF(K:PySem.W.Frag)(q:PySem.Str):Option WN:=match PySem.W.tabIn K q with
 | some (_,P)=>if(K.lookup P).isNone=true then some P else none
 | none=>none
def OW(q:PySem.Str):PySem.Str:=(q++".<locals>.")++"<lambda>"
def qp(K:PySem.W.Frag)(H:Hp):Prop:=∀q P,q∈bO->gF K q=some P->∃ps,H P=some (.cJ ps)/\TriplesOk ps.toList/\∀pos cv,codeAmong pos ps.toList=some cv->∃c,cv= .ref c/\H c=some (.ext (Ag c (OW q)))
theorem qp.keep{K:PySem.W.Frag}{H H':Hp}(t:qp K H)(h1:∀a ps,H a=some (.cJ ps)->H' a=some (.cJ ps))(h2:∀a φ,H a=some (.ext φ)->H' a=some (.ext φ)):qp K H':=λq P hq hP=>by
 obtain⟨ps,e1,e2,e3⟩:=t q P hq hP
 refine⟨ps,h1 _ _ e1,e2,λpos cv e=>?_⟩
 obtain⟨c,f1,f2⟩:=e3 pos cv e
 exact⟨c,f1,h2 _ _ f2⟩
def OX(K:PySem.W.Frag)(a:WN)(xs:List V):Prop:=∃(o:Obj)(its:Array WU)(n:Nat),K.lookup a=some o/\o.cls= .type "tuple"/\o.data= .seq its n/\its.size<=W6/\Vals xs its.toList
mutual
def ag(K:PySem.W.Frag)(m:Mp)(H:Hp):Wv->V->Prop
 | .aF,v=>v= .aF
 | .bl b,v=>v= .bl b
 | .int i,v=>v= .int i
 | .str x,v=>v= .str x/\PyData.strOk x=true
 | .tup ws,v=>∃a xs,v= .ref a/\H a=some (.tup xs)/\ah K m H ws xs
 | .mQ ws,v=>∃a xs,v= .ref a/\OX K a xs/\ah K m H ws xs
 | .ref l,v=>∃a,v= .ref a/\m[l]? =some a
 | .ty n,v=>v= .ty n
 | .cls c,v=>∃C,v= .ref C/\ClsAt K c C
 | .fA c,v=>∃a C,v= .ref a/\ClsAt K c C/\Nv a C (H a)
 | .fn p ws,v=>v= .ref p.a/\H p.c=some (.ext (Ag p.c p.q))/\ah K m H ws p.xs
def ah(K:PySem.W.Frag)(m:Mp)(H:Hp):List Wv->List V->Prop
 | [],xs=>xs=[]
 | w::ws,xs=>∃x r,xs=x::r/\ag K m H w x/\ah K m H ws r
end
structure Ext(K:PySem.W.Frag)(m:Mp)(H:Hp)(m':Mp)(H':Hp):Prop where
 pre:∀(l:Nat)(a:WN),m[l]? =some a->m'[l]? =some a
 tup:∀(a:WN)(xs:List V),H a=some (.tup xs)->H' a=some (.tup xs)
 ext:∀(a:WN)(φ:Heap->Prop),H a=some (.ext φ)->H' a=some (.ext φ)
 bU:∀(a:WN)(o:Obj)(u:HO),H a=some (.bU o u)->H' a=some (.bU o u)
section
variable {K:PySem.W.Frag} {m m1 m2:Mp} {H H1 H2:Hp}
theorem Ext.refl:Ext K m H m H:=⟨λ_ _ h=>h,λ_ _ h=>h,λ_ _ h=>h,λ_ _ _ h=>h⟩
theorem Ext.trans(a:Ext K m H m1 H1)(b:Ext K m1 H1 m2 H2):Ext K m H m2 H2 :=
 ⟨λl x h=>b.pre l x (a.pre l x h),λx xs h=>b.tup x xs (a.tup x xs h),λx φ h=>b.ext x φ (a.ext x φ h),λx o u h=>b.bU x o u (a.bU x o u h)⟩
structure rT(K:PySem.W.Frag)(m:Mp)(H:Hp)(m':Mp)(H':Hp):Prop where
 pre:∀(l:Nat)(a:WN),m[l]? =some a->m'[l]? =some a
 tup:∀(a:WN)(xs:List V),H a=some (.tup xs)->H' a=some (.tup xs)
 ext:∀(a:WN)(φ:Heap->Prop),H a=some (.ext φ)->H' a=some (.ext φ)
 fx:∀(a:WN)(o:Obj)(φ:Heap->Prop),H a=some (.bU o (.ext φ))->H' a=some (.bU o (.ext φ))
theorem Ext.z(e:Ext K m H m1 H1):rT K m H m1 H1:=⟨e.pre,e.tup,e.ext,λa o φ h=>e.bU a o _ h⟩
mutual
theorem ag.cS(e:rT K m H m1 H1):∀(w:Wv)(v:V),ag K m H w v->ag K m1 H1 w v
 | .aF,v,h=>by unfold ag at h ⊢;exact h
 | .bl b,v,h=>by unfold ag at h ⊢;exact h
 | .int i,v,h=>by unfold ag at h ⊢;exact h
 | .str x,v,h=>by unfold ag at h ⊢;exact h
 | .ty n,v,h=>by unfold ag at h ⊢;exact h
 | .cls c,v,h=>by unfold ag at h ⊢;exact h
 | .fA c,v,h=>by
  unfold ag at h ⊢
  obtain⟨a,C,e1,e2,o,vs,e3,e4⟩:=h
  exact⟨a,C,e1,e2,o,vs,e.fx _ _ _ e3,e4⟩
 | .ref l,v,h=>by
  unfold ag at h ⊢
  obtain⟨a,e1,e2⟩:=h
  exact⟨a,e1,e.pre _ _ e2⟩
 | .tup ws,v,h=>by
  unfold ag at h ⊢
  obtain⟨a,xs,e1,e2,e3⟩:=h
  exact⟨a,xs,e1,e.tup _ _ e2,ah.cS e ws xs e3⟩
 | .mQ ws,v,h=>by
  unfold ag at h ⊢
  obtain⟨a,xs,e1,e2,e3⟩:=h
  exact⟨a,xs,e1,e2,ah.cS e ws xs e3⟩
 | .fn p ws,v,h=>by
  unfold ag at h ⊢
  obtain⟨e1,e2,e3⟩:=h
  exact⟨e1,e.ext _ _ e2,ah.cS e ws p.xs e3⟩
theorem ah.cS(e:rT K m H m1 H1):∀(ws:List Wv)(xs:List V),ah K m H ws xs->ah K m1 H1 ws xs
 | [],xs,h=>by unfold ah at h ⊢;exact h
 | w::ws,xs,h=>by
  unfold ah at h ⊢
  obtain⟨x,r,e1,e2,e3⟩:=h
  exact⟨x,r,e1,ag.cS e w x e2,ah.cS e ws r e3⟩
end
theorem ag.mono(e:Ext K m H m1 H1)(w:Wv)(v:V)(h:ag K m H w v):ag K m1 H1 w v:=ag.cS e.z w v h
theorem ah.mono(e:Ext K m H m1 H1)(ws:List Wv)(xs:List V)(h:ah K m H ws xs):ah K m1 H1 ws xs:=ah.cS e.z ws xs h
theorem ah.nil:ah K m H [] []:=by unfold ah;rfl
theorem ah.cons{w:Wv}{x:V}{ws:List Wv}{xs:List V}(h:ag K m H w x)(t:ah K m H ws xs):ah K m H (w::ws) (x::xs):=by unfold ah;exact⟨x,xs,rfl,h,t⟩
theorem ah.length:∀{ws:List Wv}{xs:List V},ah K m H ws xs->ws.length=xs.length
 | [],xs,h=>by unfold ah at h;subst h;rfl
 | w::ws,xs,h=>by
  unfold ah at h
  obtain⟨x,r,e1,_,e3⟩:=h
  subst e1
  simp[ah.length e3]
theorem ah.get:∀{ws:List Wv}{xs:List V}{i:Nat}{w:Wv},ah K m H ws xs->ws[i]? =some w->∃x,xs[i]? =some x/\ag K m H w x
 | [],_,i,w,_,e=>by simp at e
 | a::ws,xs,0,w,h,e=>by
  unfold ah at h
  obtain⟨x,r,e1,e2,_⟩:=h
  subst e1
  simp at e
  subst e
  exact⟨x,rfl,e2⟩
 | a::ws,xs,i+1,w,h,e=>by
  unfold ah at h
  obtain⟨x,r,e1,_,e3⟩:=h
  subst e1
  obtain⟨y,f1,f2⟩:=ah.get (i:=i) (w:=w) e3 (by simpa using e)
  exact⟨y,by simpa using f1,f2⟩
theorem ah.append:∀{ws zs:List Wv}{xs ys:List V},ah K m H ws xs->ah K m H zs ys->ah K m H (ws++zs) (xs++ys)
 | [],_,xs,_,h,g=>by unfold ah at h;subst h;exact g
 | w::ws,zs,xs,ys,h,g=>by
  unfold ah at h
  obtain⟨x,r,e1,e2,e3⟩:=h
  subst e1
  exact ah.cons e2 (ah.append e3 g)
theorem ah.set:∀{ws:List Wv}{xs:List V}(i:Nat){w:Wv}{x:V},ah K m H ws xs->ag K m H w x->ah K m H (ws.set i w) (xs.set i x)
 | [],xs,i,w,x,h,_=>by unfold ah at h;subst h;exact ah.nil
 | a::ws,xs,0,w,x,h,g=>by
  unfold ah at h
  obtain⟨y,r,e1,e2,e3⟩:=h
  subst e1
  exact ah.cons g e3
 | a::ws,xs,i+1,w,x,h,g=>by
  unfold ah at h
  obtain⟨y,r,e1,e2,e3⟩:=h
  subst e1
  exact ah.cons e2 (ah.set i e3 g)
theorem ah.drop:∀{ws:List Wv}{xs:List V}(i:Nat),ah K m H ws xs->ah K m H (ws.drop i) (xs.drop i)
 | ws,xs,0,h=>by simpa using h
 | [],xs,i+1,h=>by unfold ah at h;subst h;simpa using ah.nil
 | a::ws,xs,i+1,h=>by
  unfold ah at h
  obtain⟨y,r,e1,e2,e3⟩:=h
  subst e1
  simpa using ah.drop i e3
theorem ah.take:∀{ws:List Wv}{xs:List V}(i:Nat),ah K m H ws xs->ah K m H (ws.take i) (xs.take i)
 | ws,xs,0,h=>by simpa using ah.nil
 | [],xs,i+1,h=>by unfold ah at h;subst h;simpa using ah.nil
 | a::ws,xs,i+1,h=>by
  unfold ah at h
  obtain⟨y,r,e1,e2,e3⟩:=h
  subst e1
  simpa using ah.cons e2 (ah.take i e3)
theorem ah.ints:∀(ns:List Int),ah K m H (ns.map Wv.int) (ns.map V.int)
 | []=>ah.nil
 | n::ns=>ah.cons (by unfold ag;rfl) (ah.ints ns)
end
def rV(K:PySem.W.Frag)(H:Hp)(a:WN)(ns:List Int):Prop :=
 (∃o,H a=some (.bU o (.lst (ns.map V.int))))\/
  ∃(o:Obj)(its:Array WU)(n:Nat),K.lookup a=some o/\o.cls= .type "list"/\o.dict=none/\o.data= .seq its n/\its.size<=W6/\Vals (ns.map V.int) its.toList
def RelK{κ:Type}(K:PySem.W.Frag)(m:Mp)(H:Hp)(kvs:List (κ×Wv))(xs:List (κ×V)):Prop:=kvs.map (·.1)=xs.map (·.1)/\ah K m H (kvs.map (·.2)) (xs.map (·.2))
def oD(K:PySem.W.Frag)(m:Mp)(H:Hp)(a:WN):Ob->Prop
 | .lst ws=>∃xs,H a=some (.lst xs)/\ah K m H ws xs
 | .jW ns=>rV K H a ns
 | .dct kvs=>∃xs,H a=some (.dK xs)/\RelK K m H kvs xs
 | .bh kvs=>∃xs,H a=some (.dT xs)/\RelK K m H kvs xs
 | .jL kvs=>∃o xs,H a=some (.bU o (.dT xs))/\RelK K m H kvs xs
def Ob.mu:Ob->Bool
 | .jW _=>false
 | _=>true
def Ob.wm:Ob->Bool
 | .jW _=>false
 | .jL _=>false
 | _=>true
theorem Ob.LB{o:Ob}(h:o.wm=true):o.mu=true:=by cases o<;>first | rfl | cases h
structure aL(K:PySem.W.Frag)(m:Mp)(st:Hs)(H:Hp):Prop where
 len:m.length=st.length
 obj:∀(l:Nat)(a:WN)(o:Ob),m[l]? =some a->st[l]? =some o->oD K m H a o
 inj:∀(l l':Nat)(a:WN)(o o':Ob),m[l]? =some a->m[l']? =some a->st[l]? =some o->st[l']? =some o'->o.mu=true->o'.mu=true->l=l'
 tab:qp K H
def af(st:Hs)(l:Nat):Option (List Wv):=match st[l]? with
 | some (.lst ws)=>some ws
 | some (.jW ns)=>some (ns.map Wv.int)
 | _=>none
section
variable {K:PySem.W.Frag} {m:Mp} {H:Hp} {st:Hs}
def Wr(u:Option HO):Prop:=u=none\/(∃ys,u=some (.lst ys))\/(∃ys,u=some (.dK ys))\/∃ys,u=some (.dT ys)
theorem Wr.ne{p a:WN}{u:HO}(hp:Wr (H p))(e:H a=some u)(n1:∀ys,u≠.lst ys)(n2:∀ys,u≠.dK ys)(n3:∀ys,u≠.dT ys):a≠p:=λz=>by
 subst z
 rcases hp with q | ⟨ys,q⟩ | ⟨ys,q⟩ | ⟨ys,q⟩
 ·rw[q] at e;cases e
 ·rw[q] at e;cases e;exact n1 ys rfl
 ·rw[q] at e;cases e;exact n2 ys rfl
 ·rw[q] at e;cases e;exact n3 ys rfl
theorem Ah{p a:WN}{o:HO}{xs:List V}(hp:Wr (H p))(h:H a=some (.tup xs)):upd H p o a=some (.tup xs):=by
 rw[av (hp.ne h (by intro ys z;cases z) (by intro ys z;cases z) (by intro ys z;cases z))];exact h
theorem Ai{p a:WN}{o:HO}{ns:List Int}(hp:Wr (H p))(h:rV K H a ns):rV K (upd H p o) a ns:=by
 rcases h with ⟨o',h⟩ | h
 ·exact .inl ⟨o',by rw[av (hp.ne h (by intro ys z;cases z) (by intro ys z;cases z) (by intro ys z;cases z))];exact h⟩
 ·exact .inr h
theorem Wr.of{u:Option HO}(h:u=none\/∃ys,u=some (.lst ys)):Wr u:=by
 rcases h with q | q
 ·exact .inl q
 ·exact .inr (.inl q)
theorem Ext.f9{p:WN}{o:HO}(hp:Wr (H p)):Ext K m H m (upd H p o):=⟨λ_ _ h=>h,λ_ _ h=>Ah hp h,λa φ h=>by
 rw[av (hp.ne h (by intro ys z;cases z) (by intro ys z;cases z) (by intro ys z;cases z))]
 exact h,λa o u h=>by
 rw[av (hp.ne h (by intro ys z;cases z) (by intro ys z;cases z) (by intro ys z;cases z))]
 exact h⟩
theorem Ext.upd{p:WN}{o:HO}(hp:H p=none\/∃ys,H p=some (.lst ys)):Ext K m H m (upd H p o):=Ext.f9 (Wr.of hp)
theorem RelK.mono{κ:Type}{m1:Mp}{H1:Hp}{kvs:List (κ×Wv)}{xs:List (κ×V)}(e:Ext K m H m1 H1)(h:RelK K m H kvs xs):RelK K m1 H1 kvs xs:=⟨h.1,ah.mono e _ _ h.2⟩
theorem oD.keep{m1:Mp}{b p:WN}{u:HO}{o:Ob}(ex:Ext K m H m1 (L2.upd H p u))(hp:Wr (H p))(hb:o.mu=true->b≠p)(h:oD K m H b o):oD K m1 (L2.upd H p u) b o:=by
 cases o with
 | lst ws=>
  obtain⟨xs,e1,e2⟩:=h
  exact⟨xs,by rw[av (hb rfl)];exact e1,ah.mono ex _ _ e2⟩
 | dct kvs=>
  obtain⟨xs,e1,e2⟩:=h
  exact⟨xs,by rw[av (hb rfl)];exact e1,e2.mono ex⟩
 | bh kvs=>
  obtain⟨xs,e1,e2⟩:=h
  exact⟨xs,by rw[av (hb rfl)];exact e1,e2.mono ex⟩
 | jL kvs=>
  obtain⟨o,xs,e1,e2⟩:=h
  exact⟨o,xs,by rw[av (hb rfl)];exact e1,e2.mono ex⟩
 | jW ns=>exact Ai hp h
theorem oD.at{b:WN}{o:Ob}(h:oD K m H b o)(hm:o.mu=true):∃u,H b=some u:=by
 cases o with
 | lst ws=>obtain⟨xs,e1,e2⟩:=h;exact⟨_,e1⟩
 | dct kvs=>obtain⟨xs,e1,e2⟩:=h;exact⟨_,e1⟩
 | bh kvs=>obtain⟨xs,e1,e2⟩:=h;exact⟨_,e1⟩
 | jL kvs=>obtain⟨o,xs,e1,e2⟩:=h;exact⟨_,e1⟩
 | jW ns=>simp[Ob.mu] at hm
theorem oD.wr{b:WN}{o:Ob}(h:oD K m H b o)(hm:o.wm=true):Wr (H b):=by
 cases o with
 | lst ws=>obtain⟨xs,e1,e2⟩:=h;exact .inr (.inl ⟨_,e1⟩)
 | dct kvs=>obtain⟨xs,e1,e2⟩:=h;exact .inr (.inr (.inl ⟨_,e1⟩))
 | bh kvs=>obtain⟨xs,e1,e2⟩:=h;exact .inr (.inr (.inr ⟨_,e1⟩))
 | jL kvs=>cases hm
 | jW ns=>cases hm
theorem qp.f9{p:WN}{o:HO}(t:qp K H)(hp:Wr (H p)):qp K (L2.upd H p o):=t.keep
 (λa ps h=>by rw[av (hp.ne h (by intro ys z;cases z) (by intro ys z;cases z) (by intro ys z;cases z))];exact h)
 λa φ h=>by rw[av (hp.ne h (by intro ys z;cases z) (by intro ys z;cases z) (by intro ys z;cases z))];exact h
theorem Ext.more{p:WN}:Ext K m H (m++[p]) H:=⟨λl a h=>by
 rw[List.getElem?_append_left]
 ·exact h
 ·exact(List.getElem?_eq_some_iff.mp h).1,λ_ _ h=>h,λ_ _ h=>h,λ_ _ _ h=>h⟩
theorem aL.fresh{p:WN}{o:HO}(S:aL K m st H)(hp:H p=none):aL K m st (upd H p o) :=
 ⟨S.len,λl a ob h1 h2=>by
  have q:=S.obj l a ob h1 h2
  refine q.keep (Ext.f9 (.inl hp)) (.inl hp) λhm=>?_
  obtain⟨u,e⟩:=q.at hm
  exact bF e hp,S.inj,S.tab.f9 (.inl hp)⟩
theorem aL.mR{l:Nat}{a:WN}{ws:List Wv}(S:aL K m st H)(h1:m[l]? =some a)(h2:st[l]? =some (.lst ws)):∃xs,H a=some (.lst xs)/\ah K m H ws xs:=S.obj l a _ h1 h2
theorem aL.read{l:Nat}{a:WN}{ws:List Wv}(S:aL K m st H)(h1:m[l]? =some a)(h2:af st l=some ws):∃xs,ij K H a xs/\ah K m H ws xs:=by
 unfold af at h2
 cases e:st[l]? with
 | none=>rw[e] at h2;cases h2
 | some o=>
  rw[e] at h2
  cases o with
  | lst zs=>
   cases h2
   obtain⟨xs,e1,e2⟩:=S.mR h1 e
   exact⟨xs,ij.of e1,e2⟩
  | dct kvs=>cases h2
  | bh kvs=>cases h2
  | jL kvs=>cases h2
  | jW ns=>
   cases h2
   have q:rV K H a ns:=S.obj l a _ h1 e
   refine⟨ns.map V.int,?_,ah.ints ns⟩
   rcases q with ⟨o,q⟩ | q
   ·exact .inl (.inr ⟨o,q⟩)
   ·exact .inr q
theorem aL.qq{p:WN}{ob:Ob}{u:HO}(S:aL K m st H)(hp:H p=none)(r:oD K (m++[p]) (L2.upd H p u) p ob):aL K (m++[p]) (st++[ob]) (L2.upd H p u):=by
 have ex:Ext K m H (m++[p]) (L2.upd H p u):=Ext.more.trans (Ext.f9 (.inl hp))
 have Aj:∀(l:Nat)(o:Ob),m[l]? =some p->st[l]? =some o->o.mu=true->False:=λl o h1 h2 hm=>by
  obtain⟨v,e⟩:=(S.obj l p o h1 h2).at hm
  rw[hp] at e;cases e
 have old:∀(l:Nat)(a:WN),(m++[p])[l]? =some a->(l < m.length/\m[l]? =some a)\/(l=m.length/\a=p):=λl a h=>by
  by_cases hl:l < m.length
  ·exact .inl ⟨hl,by rw[List.getElem?_append_left hl] at h;exact h⟩
  ·have h':=h
   rw[List.getElem?_append_right (by omega)] at h'
   have z:=List.getElem?_eq_some_iff.mp h'
   have z1:l - m.length < 1:=by simpa using z.1
   refine .inr ⟨by omega,?_⟩
   have e0:l - m.length=0:=by omega
   rw[e0] at h'
   simpa using h'.symm
 have olds:∀(l:Nat)(o:Ob),l < m.length->(st++[ob])[l]? =some o->st[l]? =some o:=λl o hl h=>by
  rw[List.getElem?_append_left (by rw[<-S.len];exact hl)] at h
  exact h
 refine⟨by simp[S.len],λl a o h1 h2=>?_,λl l' a zs zs' h1 FT h2 h2' k k'=>?_,S.tab.f9 (.inl hp)⟩
 ·rcases old l a h1 with ⟨hl,h1⟩ | ⟨hl,rfl⟩
  ·have q:=S.obj l a o h1 (olds l o hl h2)
   refine q.keep ex (.inl hp) λhm=>?_
   obtain⟨v,e⟩:=q.at hm
   exact bF e hp
  ·have e:o=ob:=by
    rw[hl,S.len,List.getElem?_append_right (Nat.le_refl _),Nat.sub_self] at h2
    simpa using h2.symm
   subst e
   exact r
 ·rcases old l a h1 with ⟨hl,g1⟩ | ⟨hl,ea⟩
  ·rcases old l' a FT with ⟨hl',FU⟩ | ⟨hl',ea'⟩
   ·exact S.inj l l' a zs zs' g1 FU (olds l _ hl h2) (olds l' _ hl' h2') k k'
   ·rw[ea'] at g1
    exact(Aj l zs g1 (olds l _ hl h2) k).elim
  ·rcases old l' a FT with ⟨hl',FU⟩ | ⟨hl',_⟩
   ·rw[ea] at FU
    exact(Aj l' zs' FU (olds l' _ hl' h2') k').elim
   ·omega
theorem aL.alloc{p:WN}{ws:List Wv}{xs:List V}(S:aL K m st H)(hp:H p=none)(r:ah K m H ws xs):aL K (m++[p]) (st++[.lst ws]) (upd H p (.lst xs)) :=
 S.qq hp ⟨xs,az,ah.mono (Ext.more.trans (Ext.f9 (.inl hp))) _ _ r⟩
theorem aL.jv{l:Nat}{a:WN}{o0 ob:Ob}{u:HO}(S:aL K m st H)(h1:m[l]? =some a)(h2:st[l]? =some o0)(hw:o0.wm=true)(r:oD K m (L2.upd H a u) a ob):aL K m (st.set l ob) (L2.upd H a u):=by
 have wr:Wr (H a):=(S.obj l a o0 h1 h2).wr hw
 have hm:=Ob.LB hw
 have ex:Ext K m H m (L2.upd H a u):=Ext.f9 wr
 have hl:l < st.length:=(List.getElem?_eq_some_iff.mp h2).1
 have at':∀(k:Nat)(o:Ob),(st.set l ob)[k]? =some o->(k=l/\o=ob)\/(k≠l/\st[k]? =some o):=λk o h=>by
  by_cases e:l=k
  ·subst e
   rw[List.getElem?_set_self hl] at h
   exact .inl ⟨rfl,(Option.some.inj h).symm⟩
  ·rw[List.getElem?_set_ne e] at h
   exact .inr ⟨λz=>e z.symm,h⟩
 refine⟨by simp[S.len],λk b o g1 g2=>?_,λk k' b us us' g1 FU g2 OY q q'=>?_,S.tab.f9 wr⟩
 ·rcases at' k o g2 with ⟨rfl,rfl⟩ | ⟨hk,g2⟩
  ·rw[h1] at g1;cases g1
   exact r
  ·have q:=S.obj k b o g1 g2
   refine q.keep ex wr λho z=>?_
   subst z
   exact hk (S.inj k l b o o0 g1 h1 g2 h2 ho hm)
 ·have back:∀(k:Nat)(o:Ob),(st.set l ob)[k]? =some o->o.mu=true->∃o',st[k]? =some o'/\o'.mu=true:=λk o h ho=>by
   rcases at' k _ h with ⟨rfl,_⟩ | ⟨_,h⟩
   ·exact⟨o0,h2,hm⟩
   ·exact⟨o,h,ho⟩
  obtain⟨u1,e1,f1⟩:=back k us g2 q
  obtain⟨u2,e2,f2⟩:=back k' us' OY q'
  exact S.inj k k' b u1 u2 g1 FU e1 e2 f1 f2
theorem aL.write{l:Nat}{a:WN}{ws zs:List Wv}{xs:List V}(S:aL K m st H)(h1:m[l]? =some a)(h2:st[l]? =some (.lst ws))(r:ah K m H zs xs):aL K m (st.set l (.lst zs)) (upd H a (.lst xs)) :=
 S.jv h1 h2 rfl ⟨xs,az,ah.mono (Ext.f9 ((S.obj l a _ h1 h2).wr rfl)) _ _ r⟩
end
structure ar(K:PySem.W.Frag)(m:Mp)(H:Hp)(ρ:aT)(σ:St):Prop where
 len:ρ.length=σ.length
 get:∀(i:Nat)(w:Wv),ρ[i]? =some (some w)->∃v,σ[i]? =some (some v)/\ag K m H w v
section
variable {K:PySem.W.Frag} {m m1:Mp} {H H1:Hp} {ρ:aT} {σ:St}
theorem ar.mono(R:ar K m H ρ σ)(e:Ext K m H m1 H1):ar K m1 H1 ρ σ:=⟨R.len,λi w h=>let ⟨v,h1,h2⟩:=R.get i w h;⟨v,h1,ag.mono e _ _ h2⟩⟩
theorem ar.set(R:ar K m H ρ σ)(i:Nat){w:Wv}{v:V}(h:ag K m H w v):ar K m H (ρ.set i (some w)) (σ.set i (some v)):=by
 refine⟨by simp[R.len],λj u e=>?_⟩
 by_cases hj:i=j
 ·subst hj
  have hi:i < ρ.length:=by
   have:=(List.getElem?_eq_some_iff.mp e).1
   simpa using this
  rw[List.getElem?_set_self hi] at e
  have e':w=u:=Option.some.inj (Option.some.inj e)
  subst e'
  exact⟨v,by rw[List.getElem?_set_self (by rw[<-R.len];exact hi)],h⟩
 ·rw[List.getElem?_set_ne hj] at e
  obtain⟨x,h1,h2⟩:=R.get j u e
  exact⟨x,by rw[List.getElem?_set_ne hj];exact h1,h2⟩
end
inductive Re(α:Type) where
 | ok (a:α) (st:Hs)
 | err (c:PySem.Str) (st:Hs)
 | bad
def Re.bind{α β:Type}(r:Re α)(f:α->Hs->Re β):Re β:=match r with
 | .ok a st=>f a st
 | .err c st=> .err c st
 | .bad=> .bad
inductive Rs where
 | nx (ρ:aT) (st:Hs)
 | rt (w:Wv) (st:Hs)
 | bk (ρ:aT) (st:Hs)
 | ct (ρ:aT) (st:Hs)
 | err (c:PySem.Str) (ρ:aT) (st:Hs)
 | bad
def Re.aM{α:Type}(ρ:aT)(r:Re α)(f:α->Hs->Rs):Rs:=match r with
 | .ok a st=>f a st
 | .err c st=> .err c ρ st
 | .bad=> .bad
def Re.jh{α:Type}(r:Re α):Re α:=match r with
 | .ok a st=> .ok a st
 | _=> .bad
abbrev GE:=aT->Hs->Re Wv
abbrev GT:=aT->Hs->Re Bool
abbrev GA:=aT->Hs->Re (List Wv)
abbrev GS:=aT->Hs->Rs
def rW(P:WS)(w:WV)(outer:List Env)(H:Hp)(s:WT)(H':Hp)(cls:WU)(e:WU)(s':WT):Prop :=
 ∃(a:WN)(a0:WU)(B:Heap),e= .ref a/\s'.os=s.os/\AllBare s'.gens/\Un (frs outer) [] H H' s.heap s'.heap/\ic P w H' B/\qo B outer a cls a0 s'.heap/\
  (∀b o,s.heap.get? b=some o->b∉frs outer->∃o',B.get? b=some o'/\(H b=none->o'=o))
def iB(X:Cx)(pins:List (WN×Obj))(H:Hp)(s:WT)(H':Hp)(cls:WU)(e:WU)(s':WT):Prop :=
 ∃(a:WN)(a0 nt:WU)(B:Heap)(ch:List WN),e= .ref a/\s'.os=s.os/\AllBare s'.gens/\(∀b∈ch,eD X pins H b)/\Un (frs X.stack) ch H H' s.heap s'.heap/\ic X.prog X.w H' B/\
  (B.StaysIn s'.heap/\B.get? a=none/\s'.heap.FunFrames B X.stack/\Nu s'.heap B a cls a0 nt)/\
  (∀b o,s.heap.get? b=some o->b∉frs X.stack->b∉ch->∃o',B.get? b=some o'/\(H b=none->o'=o))
theorem rW.any{X:Cx}{pins:List (WN×Obj)}{H H':Hp}{s s':WT}{cls e:WU}(f:rW X.prog X.w X.stack H s H' cls e s'):iB X pins H s H' cls e s' :=
 let ⟨a,a0,B,e1,e2,e3,un,hok,fl,rX⟩:=f
 ⟨a,a0,.none,B,[],e1,e2,e3,(λb z=>by cases z),un,hok,fl,λb o q hb _=>rX b o q hb⟩
def qr(X:Cx)(σ:St)(H':Hp)(c:PySem.Str)(e:WU)(s':WT):Prop :=
 ∃(C:WN)(pins:List (WN×Obj))(Hc:Hp)(sc:WT),ClsAt X.K c C/\Inv X pins σ Hc sc/\
  (iB X pins Hc sc H' (.ref C) e s'\/(H'=Hc/\∃a args,e= .ref a/\s'.os=sc.os/\s'.gens=sc.gens/\Heap.MadeExcOf sc.heap s'.heap a (.ref C) args))
def KC(X:Cx)(σ:St)(m:Mp)(H:Hp)(c:PySem.Str)(st:Hs):Prop :=
 ∀(m':Mp)(H':Hp)(e:WU)(s':WT),Ext X.K m H m' H'->aL X.K m' st H'->qr X σ H' c e s'->X.xe e s'
theorem KC.mono{X:Cx}{σ:St}{m m1:Mp}{H H1:Hp}{c:PySem.Str}{st:Hs}(h:KC X σ m H c st)(e:Ext X.K m H m1 H1):KC X σ m1 H1 c st :=
 λm' H' x s' e' S r=>h m' H' x s' (e.trans e') S r
def aq{α:Type}(X:Cx)(σ:St)(m:Mp)(H:Hp)(r:Re α)(ok:α->Hs->Prop):Prop:=match r with
 | .ok a st=>ok a st
 | .err c st=>KC X σ m H c st
 | .bad=>False
def mS{α:Type}(r:Re α)(ok:α->Hs->Prop):Prop:=match r with
 | .ok a st=>ok a st
 | _=>False
theorem aq.jh{α:Type}{X:Cx}{σ:St}{m:Mp}{H:Hp}{r:Re α}{ok:α->Hs->Prop}(h:aq X σ m H r.jh ok):mS r ok:=by
 cases r with
 | ok a st=>exact h
 | err c st=>exact h
 | bad=>exact h
theorem aq.bind{α β:Type}{X:Cx}{σ:St}{m:Mp}{H:Hp}{r:Re α}{f:α->Hs->Re β}{ok:β->Hs->Prop}(h:aq X σ m H (r.bind f) ok):aq X σ m H r (λa st=>aq X σ m H (f a st) ok):=by
 cases r with
 | ok a st=>exact h
 | err c st=>exact h
 | bad=>exact h
theorem aq.imp{α:Type}{X:Cx}{σ:St}{m m1:Mp}{H H1:Hp}{r:Re α}{ok ok':α->Hs->Prop}(h:aq X σ m H r ok)(e:Ext X.K m H m1 H1)(k:∀a st,ok a st->ok' a st):aq X σ m1 H1 r ok':=by
 cases r with
 | ok a st=>exact k a st h
 | err c st=>exact KC.mono (c:=c) (st:=st) h e
 | bad=>exact h
theorem mS.imp{α:Type}{r:Re α}{ok ok':α->Hs->Prop}(h:mS r ok)(k:∀a st,ok a st->ok' a st):mS r ok':=by
 cases r with
 | ok a st=>exact k a st h
 | err c st=>exact h
 | bad=>exact h
def HK(K:PySem.W.Frag)(m:Mp)(H:Hp)(Q:VK)(w:Wv)(st:Hs):Prop:=∀(v:V)(m':Mp)(H':Hp),Ext K m H m' H'->aL K m' st H'->ag K m' H' w v->Q v H'
def TH(K:PySem.W.Frag)(m:Mp)(H:Hp)(Q:Bool->Hp->Prop)(b:Bool)(st:Hs):Prop:=∀(m':Mp)(H':Hp),Ext K m H m' H'->aL K m' st H'->Q b H'
def TJ(K:PySem.W.Frag)(m:Mp)(H:Hp)(Q:List V->Hp->Prop)(ws:List Wv)(st:Hs):Prop:=∀(vs:List V)(m':Mp)(H':Hp),Ext K m H m' H'->aL K m' st H'->ah K m' H' ws vs->Q vs H'
abbrev dj(X:Cx)(σ:St)(m:Mp)(H:Hp)(r:Re Wv)(Q:VK):Prop:=aq X σ m H r (HK X.K m H Q)
abbrev f_(X:Cx)(σ:St)(m:Mp)(H:Hp)(r:Re Bool)(Q:Bool->Hp->Prop):Prop:=aq X σ m H r (TH X.K m H Q)
abbrev FV(X:Cx)(σ:St)(m:Mp)(H:Hp)(r:Re (List Wv))(Q:List V->Hp->Prop):Prop:=aq X σ m H r (TJ X.K m H Q)
theorem dj.shift{X:Cx}{σ:St}{m m1:Mp}{H H1:Hp}{r:Re Wv}{Q:VK}(h:dj X σ m H r Q)(e:Ext X.K m H m1 H1):dj X σ m1 H1 r Q:=h.imp e λ_ _ k v m' H' e'=>k v m' H' (e.trans e')
theorem f_.shift{X:Cx}{σ:St}{m m1:Mp}{H H1:Hp}{r:Re Bool}{Q:Bool->Hp->Prop}(h:f_ X σ m H r Q)(e:Ext X.K m H m1 H1):f_ X σ m1 H1 r Q:=h.imp e λ_ _ k m' H' e'=>k m' H' (e.trans e')
abbrev bP(K:PySem.W.Frag)(m:Mp)(H:Hp)(r:Re Wv)(Q:VK):Prop:=mS r (HK K m H Q)
theorem bP.shift{K:PySem.W.Frag}{m m1:Mp}{H H1:Hp}{r:Re Wv}{Q:VK}(h:bP K m H r Q)(e:Ext K m H m1 H1):bP K m1 H1 r Q:=mS.imp h λ_ _ k v m' H' e'=>k v m' H' (e.trans e')
def aw(X:Cx)(m:Mp)(H:Hp)(r:Rs)(D:Ends):Prop:=match r with
 | .nx ρ st=>∀(σ:St)(m':Mp)(H':Hp),Ext X.K m H m' H'->aL X.K m' st H'->ar X.K m' H' ρ σ->D.nx σ H'
 | .rt w st=>∀(v:V)(m':Mp)(H':Hp),Ext X.K m H m' H'->aL X.K m' st H'->ag X.K m' H' w v->D.rt v H'
 | .bk ρ st=>∀(σ:St)(m':Mp)(H':Hp),Ext X.K m H m' H'->aL X.K m' st H'->ar X.K m' H' ρ σ->D.bk σ H'
 | .ct ρ st=>∀(σ:St)(m':Mp)(H':Hp),Ext X.K m H m' H'->aL X.K m' st H'->ar X.K m' H' ρ σ->D.ct σ H'
 | .err c ρ st=>∀(σ:St)(m':Mp)(H':Hp)(e:WU)(s':WT),Ext X.K m H m' H'->aL X.K m' st H'->ar X.K m' H' ρ σ->qr X σ H' c e s'->X.xe e s'
 | .bad=>False
theorem aw.shift{X:Cx}{m m1:Mp}{H H1:Hp}{r:Rs}{D:Ends}(h:aw X m H r D)(e:Ext X.K m H m1 H1):aw X m1 H1 r D:=by
 cases r with
 | nx ρ st=>exact λσ m' H' e'=>h σ m' H' (e.trans e')
 | rt w st=>exact λv m' H' e'=>h v m' H' (e.trans e')
 | bk ρ st=>exact λσ m' H' e'=>h σ m' H' (e.trans e')
 | ct ρ st=>exact λσ m' H' e'=>h σ m' H' (e.trans e')
 | err c ρ st=>exact λσ m' H' x s' e'=>h σ m' H' x s' (e.trans e')
 | bad=>exact h
theorem aw.bB{α:Type}{X:Cx}{m:Mp}{H:Hp}{ρ:aT}{σ:St}{r:Re α}{f:α->Hs->Rs}{D:Ends}(R:ar X.K m H ρ σ)(h:aw X m H (r.aM ρ f) D):aq X σ m H r (λa st=>aw X m H (f a st) D):=by
 cases r with
 | ok a st=>exact h
 | err c st=>exact λm' H' x s' e' S r=>h σ m' H' x s' e' S (R.mono e') r
 | bad=>exact h
def SE(X:Cx)(e:Expr):TE:=λσ H Q=>∀(pins:List (WN×Obj))(s:WT),Inv X pins σ H s->W8 (model X.prog X.w) X.A (eval e X.env) (EP X pins σ Q) X.xe s
def ST(X:Cx)(e:Expr):TT:=λσ H Q=>∀(pins:List (WN×Obj))(s:WT),Inv X pins σ H s->W8 (model X.prog X.w) X.A (isTrue e X.env (eval e X.env)) (TP X pins σ Q) X.xe s
def SA(X:Cx)(es:List Expr):TA:=λσ H Q=>∀(pos:Pos)(pins:List (WN×Obj))(s:WT),Inv X pins σ H s->W8 (model X.prog X.w) X.A (spliced (backTo pos (W7 es X.env))) (AP X pins σ Q) X.xe s
def SS(X:Cx)(st:Stmt):TS:=λD σ H=>∀(pins:List (WN×Obj))(s:WT),Inv X pins σ H s->W8 (model X.prog X.w) X.A (exec st X.env) (SP X pins D) X.xe s
def LC(X:Cx)(st:List Stmt):TS:=λD σ H=>∀(pins:List (WN×Obj))(s:WT),Inv X pins σ H s->W8 (model X.prog X.w) X.A (execs st X.env) (SP X pins D) X.xe s
section
variable {X:Cx}
theorem aD{e:Expr}:PE X e (SE X e):=λpins s _ _ _ I h=>h pins s I
theorem lB{e:Expr}:PT X e (ST X e):=λpins s _ _ _ I h=>h pins s I
theorem jk{es:List Expr}:PA X es (SA X es):=λpos pins s _ _ _ I h=>h pos pins s I
theorem FW{st:Stmt}:PS X st (SS X st):=λpins s _ _ _ I h=>h pins s I
theorem cK{st:List Stmt}:zk X st (LC X st):=λpins s _ _ _ I h=>h pins s I
end
def JE(X:Cx)(e:Expr)(g:GE):Prop:=∀(ρ:aT)(st:Hs)(σ:St)(H:Hp)(m:Mp)(Q:VK),aL X.K m st H->ar X.K m H ρ σ->dj X σ m H (g ρ st) Q->SE X e σ H Q
def JT(X:Cx)(e:Expr)(g:GT):Prop:=∀(ρ:aT)(st:Hs)(σ:St)(H:Hp)(m:Mp)(Q:Bool->Hp->Prop),aL X.K m st H->ar X.K m H ρ σ->f_ X σ m H (g ρ st) Q->ST X e σ H Q
def JA(X:Cx)(es:List Expr)(g:GA):Prop:=∀(ρ:aT)(st:Hs)(σ:St)(H:Hp)(m:Mp)(Q:List V->Hp->Prop),aL X.K m st H->ar X.K m H ρ σ->FV X σ m H (g ρ st) Q->SA X es σ H Q
def JS(X:Cx)(s:Stmt)(g:GS):Prop:=∀(ρ:aT)(st:Hs)(σ:St)(H:Hp)(m:Mp)(D:Ends),aL X.K m st H->ar X.K m H ρ σ->aw X m H (g ρ st) D->SS X s D σ H
def jl(X:Cx)(s:List Stmt)(g:GS):Prop:=∀(ρ:aT)(st:Hs)(σ:St)(H:Hp)(m:Mp)(D:Ends),aL X.K m st H->ar X.K m H ρ σ->aw X m H (g ρ st) D->LC X s D σ H
section
variable {X:Cx}
theorem JE.of{e:Expr}{g:GE}{t:TE}(h:PE X e t)(k:∀(ρ:aT)(st:Hs)(σ:St)(H:Hp)(m:Mp)(Q:VK),aL X.K m st H->ar X.K m H ρ σ->dj X σ m H (g ρ st) Q->t σ H Q):JE X e g :=
 λρ st σ H m Q S R p pins s I=>h pins s σ H Q I (k ρ st σ H m Q S R p)
theorem JT.of{e:Expr}{g:GT}{t:TT}(h:PT X e t)(k:∀(ρ:aT)(st:Hs)(σ:St)(H:Hp)(m:Mp)(Q:Bool->Hp->Prop),aL X.K m st H->ar X.K m H ρ σ->f_ X σ m H (g ρ st) Q->t σ H Q):JT X e g :=
 λρ st σ H m Q S R p pins s I=>h pins s σ H Q I (k ρ st σ H m Q S R p)
theorem JA.of{es:List Expr}{g:GA}{t:TA}(h:PA X es t)(k:∀(ρ:aT)(st:Hs)(σ:St)(H:Hp)(m:Mp)(Q:List V->Hp->Prop),aL X.K m st H->ar X.K m H ρ σ->FV X σ m H (g ρ st) Q->t σ H Q):JA X es g :=
 λρ st σ H m Q S R p pos pins s I=>h pos pins s σ H Q I (k ρ st σ H m Q S R p)
theorem JS.of{e:Stmt}{g:GS}{t:TS}(h:PS X e t)(k:∀(ρ:aT)(st:Hs)(σ:St)(H:Hp)(m:Mp)(D:Ends),aL X.K m st H->ar X.K m H ρ σ->aw X m H (g ρ st) D->t D σ H):JS X e g :=
 λρ st σ H m D S R p pins s I=>h pins s σ H D I (k ρ st σ H m D S R p)
theorem jl.of{e:List Stmt}{g:GS}{t:TS}(h:zk X e t)(k:∀(ρ:aT)(st:Hs)(σ:St)(H:Hp)(m:Mp)(D:Ends),aL X.K m st H->ar X.K m H ρ σ->aw X m H (g ρ st) D->t D σ H):jl X e g :=
 λρ st σ H m D S R p pins s I=>h pins s σ H D I (k ρ st σ H m D S R p)
theorem JE.go{e:Expr}{g:GE}{ρ:aT}{st:Hs}{σ:St}{H:Hp}{m:Mp}{T:VK}{ok:Wv->Hs->Prop}(h:JE X e g)(S:aL X.K m st H)(R:ar X.K m H ρ σ)(p:aq X σ m H (g ρ st) ok)
  (k:∀(w:Wv)(st1:Hs)(v:V)(m1:Mp)(H1:Hp),ok w st1->Ext X.K m H m1 H1->aL X.K m1 st1 H1->ag X.K m1 H1 w v->T v H1):SE X e σ H T :=
 h ρ st σ H m T S R (p.imp Ext.refl λw st1 q v m1 H1 e1 s1 r1=>k w st1 v m1 H1 q e1 s1 r1)
theorem JT.go{e:Expr}{g:GT}{ρ:aT}{st:Hs}{σ:St}{H:Hp}{m:Mp}{T:Bool->Hp->Prop}{ok:Bool->Hs->Prop}(h:JT X e g)(S:aL X.K m st H)(R:ar X.K m H ρ σ)(p:aq X σ m H (g ρ st) ok)
  (k:∀(b:Bool)(st1:Hs)(m1:Mp)(H1:Hp),ok b st1->Ext X.K m H m1 H1->aL X.K m1 st1 H1->T b H1):ST X e σ H T :=
 h ρ st σ H m T S R (p.imp Ext.refl λb st1 q m1 H1 e1 s1=>k b st1 m1 H1 q e1 s1)
theorem JA.go{es:List Expr}{g:GA}{ρ:aT}{st:Hs}{σ:St}{H:Hp}{m:Mp}{T:List V->Hp->Prop}{ok:List Wv->Hs->Prop}(h:JA X es g)(S:aL X.K m st H)(R:ar X.K m H ρ σ)(p:aq X σ m H (g ρ st) ok)
  (k:∀(ws:List Wv)(st1:Hs)(vs:List V)(m1:Mp)(H1:Hp),ok ws st1->Ext X.K m H m1 H1->aL X.K m1 st1 H1->ah X.K m1 H1 ws vs->T vs H1):SA X es σ H T :=
 h ρ st σ H m T S R (p.imp Ext.refl λw st1 q v m1 H1 e1 s1 r1=>k w st1 v m1 H1 q e1 s1 r1)
end
end J
namespace J
open PySem PySem.Spec PyProof.Rows L2
def lim:Nat:=1000000
theorem cP{n:Nat}(h:n<=lim):n<=W6:=Nat.le_trans h (by unfold lim;rw[sizeLine_eq];decide)
theorem uL{n:Nat}(h:n < lim):n < W6:=Nat.lt_of_lt_of_le h (by unfold lim;rw[sizeLine_eq];decide)
def ae(i:Nat):GE:=λρ st=>match ρ[i]? with
 | some (some w)=> .ok w st
 | _=> .bad
def gC(w:Wv):GE:=λ_ st=> .ok w st
section
variable {X:Cx}
theorem uM(i:Nat){x:Str}{pos:Pos}(hN:X.N[i]? =some x:=by rfl)(hv:Of X.env.scope x:=by first | exact Or.inl rfl | exact Or.inr (Or.inl rfl) | exact Or.inr (Or.inr rfl))(hd:(x == ("__debug__":Str))=false:=by decide)
  (hcd:(x == ("__classdict__":Str))=false:=by decide):JE X (.Name x pos) (ae i):=JE.of (GR hN hv hd hcd) λρ st σ H m Q S R p=>by
 unfold ae at p
 cases e:ρ[i]? with
 | none=>rw[e] at p;exact False.elim p
 | some o=>
  cases o with
  | none=>rw[e] at p;exact False.elim p
  | some w=>
   rw[e] at p
   obtain⟨v,h1,h2⟩:=R.get i w e
   exact⟨v,h1,p v m H Ext.refl S h2⟩
theorem HL{i:Int}{j pos}:JE X (.Constant (.int i) j pos) (gC (.int i)):=JE.of zu λρ st σ H m Q S R p=>p (.int i) m H Ext.refl S (by unfold ag;rfl)
theorem LD{b:Bool}{j pos}:JE X (.Constant (.bool b) j pos) (gC (.bl b)):=JE.of KW λρ st σ H m Q S R p=>p (.bl b) m H Ext.refl S (by unfold ag;rfl)
theorem HM{j pos}:JE X (.Constant .none j pos) (gC .aF):=JE.of zv λρ st σ H m Q S R p=>p .aF m H Ext.refl S (by unfold ag;rfl)
theorem HN{x:PySem.Str}{j pos}(hx:PyData.strOk x=true:=by decide+kernel):JE X (.Constant (.str x) j pos) (gC (.str x)):=JE.of GU λρ st σ H m Q S R p=>p (.str x) m H Ext.refl S (by unfold ag;exact⟨rfl,hx⟩)
theorem Ak{x:Str}{i:Int}{t:Tok}{pos:Pos}(hg:Gl X x)(hm:X.mg x=some (.int i t))(hd:(x == ("__debug__":Str))=false:=by decide):JE X (.Name x pos) (gC (.int i)) :=
 JE.of (iS (v:=.int i) hg hm ⟨t,rfl⟩ hd) λρ st σ H m Q S R p=>p (.int i) m H Ext.refl S (by unfold ag;rfl)
theorem Al{x y:Str}{t:Tok}{pos:Pos}(hg:Gl X x)(hm:X.mg x=some (.str y t))(hy:PyData.strOk y=true:=by decide+kernel)(hd:(x == ("__debug__":Str))=false:=by decide):JE X (.Name x pos) (gC (.str y)) :=
 JE.of (iS (v:=.str y) hg hm ⟨t,rfl⟩ hd) λρ st σ H m Q S R p=>p (.str y) m H Ext.refl S (by unfold ag;exact⟨rfl,hy⟩)
theorem LG{x:Str}{T:String}{pos:Pos}(hg:Gl X x)(hm:X.mg x=none)(hv:WY x=some (.type T))(hn:x≠"__name__":=by decide)(hd:(x == ("__debug__":Str))=false:=by decide):JE X (.Name x pos) (gC (.ty T)) :=
 JE.of (C6 (v:=.ty T) hg hm hv rfl hn hd) λρ st σ H m Q S R p=>p (.ty T) m H Ext.refl S (by unfold ag;rfl)
abbrev eE:=Wv->Wv->Hs->Re Wv
def aj(op:eE)(ga gb:GE):GE:=λρ st=>(ga ρ st).bind λx st1=>(gb ρ st1).bind λy st2=>(op x y st2).jh
def wg(X:Cx)(op:eE)(r:R2):Prop:=∀(x y:Wv)(a b:V)(st:Hs)(H:Hp)(m:Mp)(Q:VK),aL X.K m st H->ag X.K m H x a->ag X.K m H y b->bP X.K m H (op x y st) Q->r a b H Q
def iT(X:Cx)(f:WU->WU->Sem WU)(op:eE):Prop:=∃r,dm X f r/\wg X op r
theorem wj{a b:Expr}{ga gb:GE}{op:eE}{r:R2}(h2:wg X op r)(ha:JE X a ga)(hb:JE X b gb){ρ:aT}{st:Hs}{σ:St}{H:Hp}{m:Mp}{Q:VK}(S:aL X.K m st H)(R:ar X.K m H ρ σ)(p:dj X σ m H (aj op ga gb ρ st) Q) :
  K_ r (SE X a) (SE X b) σ H Q:=by
 refine ha.go S R (aq.bind p) λx st1 v m1 H1 p1 e1 S1 rx=>?_
 refine hb.go S1 (R.mono e1) ((aq.bind p1).imp e1 λ_ _ q=>q) λy st2 u m2 H2 p2 e2 S2 ry=>?_
 exact h2 x y v u st2 H2 m2 Q S2 (ag.mono e2 _ _ rx) ry (bP.shift (aq.jh p2) (e1.trans e2))
theorem HP{a b:Expr}{ga gb:GE}{o:Operator}{op:eE}{pos:Pos}(ho:iT X (WX o) op)(ha:JE X a ga)(hb:JE X b gb):JE X (.BinOp a o b pos) (aj op ga gb):=by
 obtain⟨r,h1,h2⟩:=ho
 exact JE.of (K' h1 aD aD) λρ st σ H m Q S R p=>wj h2 ha hb S R p
theorem uN{a b:Expr}{ga gb:GE}{o:CmpOp}{op:eE}{pos:Pos}(ho:iT X (W2 o) op)(ha:JE X a ga)(hb:JE X b gb)(hm:WW o b=false):JE X (.Compare a [o] [b] pos) (aj op ga gb):=by
 obtain⟨r,h1,h2⟩:=ho
 exact JE.of (Dl h1 aD aD hm) λρ st σ H m Q S R p=>wj h2 ha hb S R p
def FX(w:Wv)(st:Hs):Re Bool:=match w with
 | .bl b=> .ok b st
 | _=> .bad
def bC(g:GE):GT:=λρ st=>(g ρ st).bind FX
theorem rY{σ:St}{m:Mp}{H:Hp}{r:Re Wv}{Q:Bool->Hp->Prop}(p:f_ X σ m H (r.bind FX) Q):dj X σ m H r (λx H'=>∃k,x= .bl k/\Q k H'):=by
 cases r with
 | ok w st=>
  cases w with
  | bl b=>
   intro v m' H' e S rw'
   unfold ag at rw'
   exact⟨b,rw',p m' H' e S⟩
  | _=>exact False.elim p
 | err c st=>exact p
 | bad=>exact p
theorem uO{a b:Expr}{ga gb:GE}{o:CmpOp}{op:eE}{pos:Pos}(ho:iT X (W2 o) op)(ha:JE X a ga)(hb:JE X b gb)(hm:WW o b=false):JT X (.Compare a [o] [b] pos) (bC (aj op ga gb)):=by
 obtain⟨r,h1,h2⟩:=ho
 exact JT.of (Dm h1 aD aD hm) λρ st σ H m Q S R p=>wj h2 ha hb S R (rY p)
def gG(op op':eE)(ga gb gc:GE):GE:=λρ st=>(ga ρ st).bind λx st1=>(gb ρ st1).bind λy st2=>(op x y st2).jh.bind λz st3=>match z with
 | .bl true=>(gc ρ st3).bind λu wk=>(op' y u wk).jh
 | .bl false=> .ok (.bl false) st3
 | _=> .bad
theorem FY{a b c:Expr}{ga gb gc:GE}{op op':eE}{r r':R2}(h2:wg X op r)(h2':wg X op' r')(ha:JE X a ga)(hb:JE X b gb)(hc:JE X c gc){ρ:aT}{st:Hs}{σ:St}{H:Hp}{m:Mp}{Q:VK}
  (S:aL X.K m st H)(R:ar X.K m H ρ σ)(p:dj X σ m H (gG op op' ga gb gc ρ st) Q):ux r r' (SE X a) (SE X b) (SE X c) σ H Q:=by
 refine ha.go S R (aq.bind p) λx st1 v m1 H1 p1 e1 S1 rx=>?_
 refine hb.go S1 (R.mono e1) ((aq.bind p1).imp e1 λ_ _ q=>q) λy st2 u m2 H2 p2 e2 S2 ry=>?_
 refine h2 x y v u st2 H2 m2 _ S2 (ag.mono e2 _ _ rx) ry (mS.imp (aq.jh (aq.bind p2)) λz st3 p3=>?_)
 intro z' m3 H3 e3 S3 rz
 cases z with
 | bl k=>
  unfold ag at rz
  refine⟨k,rz,?_⟩
  cases k with
  | true=>
   rw[if_pos rfl]
   refine hc.go S3 (R.mono (e1.trans (e2.trans e3))) ((aq.bind p3).imp (e1.trans (e2.trans e3)) λ_ _ q=>q) λq wk u' m4 H4 p4 e4 S4 rq=>?_
   exact h2' y q u u' wk H4 m4 Q S4 (ag.mono (e3.trans e4) _ _ ry) rq (bP.shift (aq.jh p4) (e1.trans (e2.trans (e3.trans e4))))
  | false=>
   rw[if_neg Bool.false_ne_true]
   exact p3 (.bl false) m3 H3 (e1.trans (e2.trans e3)) S3 (by unfold ag;rfl)
 | _=>exact False.elim p3
theorem Am{a b c:Expr}{ga gb gc:GE}{o o':CmpOp}{op op':eE}{pos:Pos}(ho:iT X (W2 o) op)(ho':iT X (W2 o') op')(ha:JE X a ga)(hb:JE X b gb)(hc:JE X c gc)
  (hm:lastMarks [o,o'] [b,c]=false:=by with_unfolding_all rfl):JE X (.Compare a [o,o'] [b,c] pos) (gG op op' ga gb gc):=by
 obtain⟨r,h1,h2⟩:=ho
 obtain⟨r',FT,h2'⟩:=ho'
 exact JE.of (zK h1 FT aD aD aD hm) λρ st σ H m Q S R p=>FY h2 h2' ha hb hc S R p
theorem An{a b c:Expr}{ga gb gc:GE}{o o':CmpOp}{op op':eE}{pos:Pos}(ho:iT X (W2 o) op)(ho':iT X (W2 o') op')(ha:JE X a ga)(hb:JE X b gb)(hc:JE X c gc)
  (hm:lastMarks [o,o'] [b,c]=false:=by with_unfolding_all rfl):JT X (.Compare a [o,o'] [b,c] pos) (bC (gG op op' ga gb gc)):=by
 obtain⟨r,h1,h2⟩:=ho
 obtain⟨r',FT,h2'⟩:=ho'
 exact JT.of (zL h1 FT aD aD aD hm) λρ st σ H m Q S R p=>FY h2 h2' ha hb hc S R (rY p)
def zm(op:Wv->Hs->Re Wv)(ga:GE):GE:=λρ st=>(ga ρ st).bind op
def ie:Wv->Hs->Re Wv
 | .int i,st=> .ok (.int (-i)) st
 | _,_=> .bad
theorem HQ{a:Expr}{ga:GE}{pos:Pos}(ha:JE X a ga):JE X (.UnaryOp .USub a pos) (zm ie ga):=by
 refine JE.of (La Hj aD) λρ st σ H m Q S R p=>?_
 refine ha.go S R (aq.bind p) λx st1 v m1 H1 p1 e1 S1 rx=>?_
 cases x with
 | int i=>
  unfold ag at rx
  exact⟨i,rx,p1 _ m1 H1 e1 S1 (by unfold ag;rfl)⟩
 | _=>exact False.elim p1
def SW(X:Cx)(e:Expr):TT:=λσ H Q=>∀(wh:Sem WU)(pins:List (WN×Obj))(s:WT),Inv X pins σ H s->W8 (model X.prog X.w) X.A (isTrue e X.env wh) (TP X pins σ Q) X.xe s
theorem FZ{e:Expr}:PW X e (SW X e):=λwh pins s _ _ _ I h=>h wh pins s I
def JW(X:Cx)(e:Expr)(g:GT):Prop:=∀(ρ:aT)(st:Hs)(σ:St)(H:Hp)(m:Mp)(Q:Bool->Hp->Prop),aL X.K m st H->ar X.K m H ρ σ->f_ X σ m H (g ρ st) Q->SW X e σ H Q
theorem JW.of{e:Expr}{g:GT}{t:TT}(h:PW X e t)(k:∀(ρ:aT)(st:Hs)(σ:St)(H:Hp)(m:Mp)(Q:Bool->Hp->Prop),aL X.K m st H->ar X.K m H ρ σ->f_ X σ m H (g ρ st) Q->t σ H Q):JW X e g :=
 λρ st σ H m Q S R p wh pins s I=>h wh pins s σ H Q I (k ρ st σ H m Q S R p)
theorem JW.jt{e:Expr}{g:GT}(h:JW X e g):JT X e g:=λρ st σ H m Q S R p pins s I=>h ρ st σ H m Q S R p _ pins s I
def x_(ga gb:GT):GT:=λρ st=>(ga ρ st).bind λb st1=>if b=true then gb ρ st1 else .ok false st1
def HR(ga gb:GT):GT:=λρ st=>(ga ρ st).bind λb st1=>if b=true then .ok true st1 else gb ρ st1
def jw(ga:GT):GT:=λρ st=>(ga ρ st).bind λb st1=> .ok (!b) st1
theorem DI{a:Expr}{ga:GT}{pos:Pos}(ha:JT X a ga):JW X (.BoolOp .And [a] pos) ga:=JW.of (C7 lB) λρ st σ H m Q S R p=>ha ρ st σ H m Q S R p
theorem HS{a:Expr}{ga:GT}{pos:Pos}(ha:JT X a ga):JW X (.BoolOp .Or [a] pos) ga:=JW.of (GV lB) λρ st σ H m Q S R p=>ha ρ st σ H m Q S R p
theorem HU{a b:Expr}{rest:List Expr}{ga gb:GT}{pos:Pos}(ha:JT X a ga)(hb:JW X (.BoolOp .And (b::rest) pos) gb):JW X (.BoolOp .And (a::b::rest) pos) (x_ ga gb):=by
 refine JW.of (GW lB FZ) λρ st σ H m Q S R p=>?_
 refine ha.go S R (aq.bind p) λc st1 m1 H1 p1 e1 S1=>?_
 cases c with
 | true=>rw[if_pos rfl] at p1 ⊢;exact hb ρ st1 σ H1 m1 Q S1 (R.mono e1) (f_.shift p1 e1)
 | false=>rw[if_neg Bool.false_ne_true] at p1 ⊢;exact p1 m1 H1 e1 S1
theorem LH{a b:Expr}{rest:List Expr}{ga gb:GT}{pos:Pos}(ha:JT X a ga)(hb:JW X (.BoolOp .Or (b::rest) pos) gb):JW X (.BoolOp .Or (a::b::rest) pos) (HR ga gb):=by
 refine JW.of (KY lB FZ) λρ st σ H m Q S R p=>?_
 refine ha.go S R (aq.bind p) λc st1 m1 H1 p1 e1 S1=>?_
 cases c with
 | true=>rw[if_pos rfl] at p1 ⊢;exact p1 m1 H1 e1 S1
 | false=>rw[if_neg Bool.false_ne_true] at p1 ⊢;exact hb ρ st1 σ H1 m1 Q S1 (R.mono e1) (f_.shift p1 e1)
theorem HV{a:Expr}{ga:GT}{pos:Pos}(ha:JT X a ga):JT X (.UnaryOp .Not a pos) (jw ga):=by
 refine JT.of (GX lB) λρ st σ H m Q S R p=>?_
 exact ha.go S R (aq.bind p) λc st1 m1 H1 p1 e1 S1=>p1 m1 H1 e1 S1
def wo(ga gb:GE):GE:=λρ st=>(ga ρ st).bind λw st1=>match w with
 | .bl true=>gb ρ st1
 | .bl false=> .ok (.bl false) st1
 | _=> .bad
def LI(ga gb:GE):GE:=λρ st=>(ga ρ st).bind λw st1=>match w with
 | .bl true=> .ok (.bl true) st1
 | .bl false=>gb ρ st1
 | _=> .bad
def F0(ga:GE):GE:=λρ st=>(ga ρ st).bind λw st1=>match w with
 | .bl b=> .ok (.bl (!b)) st1
 | _=> .bad
theorem Ao{op}{a:Expr}{ga:GE}{pos:Pos}(ha:JE X a ga):JE X (.BoolOp op [a] pos) ga:=JE.of (GY aD) λρ st σ H m Q S R p=>ha ρ st σ H m Q S R p
theorem HW{a b:Expr}{rest:List Expr}{ga gb:GE}{pos:Pos}(ha:JE X a ga)(hb:JE X (.BoolOp .And (b::rest) pos) gb):JE X (.BoolOp .And (a::b::rest) pos) (wo ga gb):=by
 refine JE.of (GZ aD aD) λρ st σ H m Q S R p=>?_
 refine ha.go S R (aq.bind p) λx st1 v m1 H1 p1 e1 S1 rx=>?_
 cases x with
 | bl c=>
  unfold ag at rx
  refine⟨c,rx,?_⟩
  cases c with
  | true=>rw[if_pos rfl];exact hb ρ st1 σ H1 m1 Q S1 (R.mono e1) (dj.shift p1 e1)
  | false=>rw[if_neg Bool.false_ne_true];exact p1 _ m1 H1 e1 S1 (by unfold ag;rfl)
 | _=>exact False.elim p1
theorem LJ{a b:Expr}{rest:List Expr}{ga gb:GE}{pos:Pos}(ha:JE X a ga)(hb:JE X (.BoolOp .Or (b::rest) pos) gb):JE X (.BoolOp .Or (a::b::rest) pos) (LI ga gb):=by
 refine JE.of (K2 aD aD) λρ st σ H m Q S R p=>?_
 refine ha.go S R (aq.bind p) λx st1 v m1 H1 p1 e1 S1 rx=>?_
 cases x with
 | bl c=>
  unfold ag at rx
  refine⟨c,rx,?_⟩
  cases c with
  | true=>rw[if_pos rfl];exact p1 _ m1 H1 e1 S1 (by unfold ag;rfl)
  | false=>rw[if_neg Bool.false_ne_true];exact hb ρ st1 σ H1 m1 Q S1 (R.mono e1) (dj.shift p1 e1)
 | _=>exact False.elim p1
theorem HX{a:Expr}{ga:GE}{pos:Pos}(ha:JE X a ga):JE X (.UnaryOp .Not a pos) (F0 ga):=by
 refine JE.of (G0 aD) λρ st σ H m Q S R p=>?_
 refine ha.go S R (aq.bind p) λx st1 v m1 H1 p1 e1 S1 rx=>?_
 cases x with
 | bl c=>
  unfold ag at rx
  exact⟨c,rx,p1 _ m1 H1 e1 S1 (by unfold ag;rfl)⟩
 | _=>exact False.elim p1
def jX(gt:GT)(ga gb:GE):GE:=λρ st=>(gt ρ st).bind λb st1=>if b=true then ga ρ st1 else gb ρ st1
theorem LK{c a b:Expr}{gt:GT}{ga gb:GE}{pos:Pos}(hc:JT X c gt)(ha:JE X a ga)(hb:JE X b gb):JE X (.IfExp c a b pos) (jX gt ga gb):=by
 refine JE.of (zw lB aD aD) λρ st σ H m Q S R p=>?_
 refine hc.go S R (aq.bind p) λk st1 m1 H1 p1 e1 S1=>?_
 cases k with
 | true=>rw[if_pos rfl] at p1 ⊢;exact ha ρ st1 σ H1 m1 Q S1 (R.mono e1) (dj.shift p1 e1)
 | false=>rw[if_neg Bool.false_ne_true] at p1 ⊢;exact hb ρ st1 σ H1 m1 Q S1 (R.mono e1) (dj.shift p1 e1)
def ai:GA:=λ_ st=> .ok [] st
def aa(ga:GE)(gr:GA):GA:=λρ st=>(ga ρ st).bind λx st1=>(gr ρ st1).bind λxs st2=> .ok (x::xs) st2
theorem Ap:JA X [] ai:=JA.of Hm λρ st σ H m Q S R p=>p [] m H Ext.refl S ah.nil
theorem wq{e:Expr}{es:List Expr}{ga:GE}{gr:GA}(ha:JE X e ga)(hr:JA X es gr)(hs:W7 (e::es) X.env=(false,eval e X.env)::W7 es X.env:=by rfl):JA X (e::es) (aa ga gr):=by
 refine JA.of (Dp aD jk hs) λρ st σ H m Q S R p=>?_
 refine ha.go S R (aq.bind p) λx st1 v m1 H1 p1 e1 S1 rx=>?_
 refine hr.go S1 (R.mono e1) ((aq.bind p1).imp e1 λ_ _ q=>q) λxs st2 vs m2 H2 p2 e2 S2 rs=>?_
 exact p2 (v::vs) m2 H2 (e1.trans e2) S2 (ah.cons (ag.mono e2 _ _ rx) rs)
def dN(g:GA):GE:=λρ st=>(g ρ st).bind λws st1=>if ws.length<=lim then .ok (.tup ws) st1 else .bad
def bM(g:GA):GE:=λρ st=>(g ρ st).bind λws st1=>if ws.length<=lim then .ok (.ref st1.length) (st1++[.lst ws]) else .bad
theorem HY{es:List Expr}{g:GA}{x1 pos}(h:JA X es g):JE X (.Tuple es x1 pos) (dN g):=by
 refine JE.of (Hn jk) λρ st σ H m Q S R p=>?_
 refine h.go S R (aq.bind p) λws st1 vs m1 H1 p1 e1 S1 rs=>?_
 by_cases hl:ws.length<=lim
 ·rw[if_pos hl] at p1
  refine⟨by rw[<-rs.length];exact cP hl,λq hq=>?_⟩
  have e2:Ext X.K m1 H1 m1 (upd H1 q (.tup vs)):=Ext.upd (.inl hq)
  exact p1 (.ref q) m1 _ (e1.trans e2) (S1.fresh hq) (by unfold ag;exact⟨q,vs,rfl,az,ah.mono e2 _ _ rs⟩)
 ·rw[if_neg hl] at p1;exact False.elim p1
theorem aL.newest{K:PySem.W.Frag}{m:Mp}{st:Hs}{H:Hp}(S:aL K m st H)(q:WN)(H':Hp):ag K (m++[q]) H' (.ref st.length) (.ref q):=by
 unfold ag
 refine⟨q,rfl,?_⟩
 rw[<-S.len,List.getElem?_append_right (Nat.le_refl _),Nat.sub_self]
 rfl
theorem iC{m m1:Mp}{H H1:Hp}{st1:Hs}{ws:List Wv}{vs:List V}{Q:VK}(p1:HK X.K m H Q (.ref st1.length) (st1++[.lst ws]))(e1:Ext X.K m H m1 H1)(S1:aL X.K m1 st1 H1)(rs:ah X.K m1 H1 ws vs)(q:WN)(hq:H1 q=none) :
  Q (.ref q) (upd H1 q (.lst vs)) :=
 p1 (.ref q) (m1++[q]) _ (e1.trans (Ext.more.trans (Ext.upd (.inl hq)))) (S1.alloc hq rs) (S1.newest q _)
theorem HZ{es:List Expr}{g:GA}{pos}(h:JA X es g):JE X (.List es pos) (bM g):=by
 refine JE.of (Ho jk) λρ st σ H m Q S R p=>?_
 refine h.go S R (aq.bind p) λws st1 vs m1 H1 p1 e1 S1 rs=>?_
 by_cases hl:ws.length<=lim
 ·rw[if_pos hl] at p1
  exact⟨by rw[<-rs.length];exact cP hl,λq hq=>iC p1 e1 S1 rs q hq⟩
 ·rw[if_neg hl] at p1;exact False.elim p1
end
end J
namespace J
open PySem PySem.Spec PyProof.Rows L2
section
variable {X:Cx}
theorem dm.or{f:WU->WU->Sem WU}{r r':R2}(h:dm X f r)(h':dm X f r'):dm X f (λx y H Q=>r x y H Q\/r' x y H Q):=by
 intro pins s σ H x y v u Q I rx ry q
 rcases q with q | q
 ·exact h pins s σ H x y v u Q I rx ry q
 ·exact h' pins s σ H x y v u Q I rx ry q
theorem Aq:dm X (WX .FloorDiv) (rI (λ_ j=>j≠0/\j.natAbs.log2 < 9000) λi j=> .int (i.fdiv j)):=Nn λi j _ _ _ _ _ hc q=>floordiv_int hc.1 q (.inl (PyProof.noPylong_of_log2 hc.2))
theorem DJ:dm X (WX .Mod) (rI (λ_ j=>j≠0) λi j=> .int (i.fmod j)):=Nn λi j _ _ _ _ _ hc q=>mod_int' hc q
theorem DK:dm X (WX .Mult) (rI (λi j=>IntMulOk i j) λi j=> .int (i * j)):=Nn λ_ _ _ _ _ _ _ hc q=>mul_int q hc
instance OZ{a b:Int}:Decidable (IntMulOk a b):=by unfold IntMulOk;infer_instance
def qt:eE
 | .int i,.int j,st=> .ok (.int (i - j)) st
 | _,_,_=> .bad
def eX:eE
 | .int i,.int j,st=>if j≠0/\j.natAbs.log2 < 9000 then .ok (.int (i.fdiv j)) st else .bad
 | _,_,_=> .bad
def oMod:eE
 | .int i,.int j,st=>if j≠0 then .ok (.int (i.fmod j)) st else .bad
 | _,_,_=> .bad
def rZ:eE
 | .int i,.int j,st=>if 0<=j/\j<=1000000/\i.natAbs < 2 ^ 64 then .ok (.int (i ^ j.toNat)) st else .bad
 | _,_,_=> .bad
def LL:eE
 | .int i,.int j,st=> .ok (.bl (decide (i < j))) st
 | .str i,.str j,st=> .ok (.bl (decide (i.cps.toList < j.cps.toList))) st
 | _,_,_=> .bad
def LM:eE
 | .int i,.int j,st=> .ok (.bl (decide (i<=j))) st
 | _,_,_=> .bad
def LN:eE
 | .int i,.int j,st=> .ok (.bl (decide (j < i))) st
 | _,_,_=> .bad
def O0:eE
 | .int i,.int j,st=> .ok (.bl (decide (j<=i))) st
 | _,_,_=> .bad
theorem aG{m:Mp}{H:Hp}{i:Int}{a:V}(h:ag X.K m H (.int i) a):a= .int i:=by unfold ag at h;exact h
theorem dq{m:Mp}{H:Hp}{x:PySem.Str}{a:V}(h:ag X.K m H (.str x) a):a= .str x/\PyData.strOk x=true:=by unfold ag at h;exact h
theorem mkInt{m:Mp}{H:Hp}{i:Int}:ag X.K m H (.int i) (.int i):=by unfold ag;rfl
theorem gH{m:Mp}{H:Hp}{i:Bool}:ag X.K m H (.bl i) (.bl i):=by unfold ag;rfl
theorem pB{m:Mp}{H:Hp}:ag X.K m H .aF .aF:=by unfold ag;rfl
theorem mkStr{m:Mp}{H:Hp}{x:PySem.Str}(h:PyData.strOk x=true):ag X.K m H (.str x) (.str x):=by unfold ag;exact⟨rfl,h⟩
theorem H_:iT X (WX .Sub) qt:=⟨_,Hg,λx y a b st H m Q S rx ry p=>by
 cases x with
 | int i=>
  cases y with
  | int j=>exact⟨i,j,aG rx,aG ry,p _ m H Ext.refl S mkInt⟩
  | _=>exact False.elim p
 | _=>cases y<;>exact False.elim p⟩
theorem DL:iT X (WX .FloorDiv) eX:=⟨_,Aq,λx y a b st H m Q S rx ry p=>by
 cases x with
 | int i=>
  cases y with
  | int j=>
   dsimp only[eX] at p
   by_cases c:j≠0/\j.natAbs.log2 < 9000
   ·rw[if_pos c] at p;exact⟨i,j,aG rx,aG ry,c,p _ m H Ext.refl S mkInt⟩
   ·rw[if_neg c] at p;exact False.elim p
  | _=>exact False.elim p
 | _=>cases y<;>exact False.elim p⟩
theorem Ia:iT X (WX .Mod) oMod:=⟨_,DJ,λx y a b st H m Q S rx ry p=>by
 cases x with
 | int i=>
  cases y with
  | int j=>
   dsimp only[oMod] at p
   by_cases c:j≠0
   ·rw[if_pos c] at p;exact⟨i,j,aG rx,aG ry,c,p _ m H Ext.refl S mkInt⟩
   ·rw[if_neg c] at p;exact False.elim p
  | _=>exact False.elim p
 | _=>cases y<;>exact False.elim p⟩
theorem Ie:iT X (WX .Pow) rZ:=⟨_,Hh,λx y a b st H m Q S rx ry p=>by
 cases x with
 | int i=>
  cases y with
  | int j=>
   dsimp only[rZ] at p
   by_cases c:0<=j/\j<=1000000/\i.natAbs < 2 ^ 64
   ·rw[if_pos c] at p;exact⟨i,j,aG rx,aG ry,c,p _ m H Ext.refl S mkInt⟩
   ·rw[if_neg c] at p;exact False.elim p
  | _=>exact False.elim p
 | _=>cases y<;>exact False.elim p⟩
theorem LO:iT X (W2 .Lt) LL:=⟨_,dm.or Lc xN,λx y a b st H m Q S rx ry p=>by
 cases x with
 | int i=>
  cases y with
  | int j=>exact .inl ⟨i,j,aG rx,aG ry,p _ m H Ext.refl S gH⟩
  | _=>exact False.elim p
 | str i=>
  cases y with
  | str j=>exact .inr ⟨i,j,(dq rx).1,(dq ry).1,p _ m H Ext.refl S gH⟩
  | _=>exact False.elim p
 | _=>cases y<;>exact False.elim p⟩
theorem LP:iT X (W2 .LtE) LM:=⟨_,Ld,λx y a b st H m Q S rx ry p=>by
 cases x with
 | int i=>
  cases y with
  | int j=>exact⟨i,j,aG rx,aG ry,p _ m H Ext.refl S gH⟩
  | _=>exact False.elim p
 | _=>cases y<;>exact False.elim p⟩
theorem LQ:iT X (W2 .Gt) LN:=⟨_,Le,λx y a b st H m Q S rx ry p=>by
 cases x with
 | int i=>
  cases y with
  | int j=>exact⟨i,j,aG rx,aG ry,p _ m H Ext.refl S gH⟩
  | _=>exact False.elim p
 | _=>cases y<;>exact False.elim p⟩
theorem LR:iT X (W2 .GtE) O0:=⟨_,Lf,λx y a b st H m Q S rx ry p=>by
 cases x with
 | int i=>
  cases y with
  | int j=>exact⟨i,j,aG rx,aG ry,p _ m H Ext.refl S gH⟩
  | _=>exact False.elim p
 | _=>cases y<;>exact False.elim p⟩
def F1:eE
 | x,.aF,st=> .ok (.bl (match x with | .aF=>true | _=>false)) st
 | _,_,_=> .bad
def jx:eE
 | x,.aF,st=> .ok (.bl (match x with | .aF=>false | _=>true)) st
 | _,_,_=> .bad
theorem F2{m:Mp}{H:Hp}{x:Wv}{a:V}(h:ag X.K m H x a):decide (a=V.aF)=(match x with | .aF=>true | _=>false):=by
 cases x with
 | aF=>unfold ag at h;subst h;rfl
 | bl b=>unfold ag at h;subst h;rfl
 | int b=>unfold ag at h;subst h;rfl
 | str b=>unfold ag at h;obtain⟨h,_⟩:=h;subst h;rfl
 | tup b=>unfold ag at h;obtain⟨q,xs,h,_⟩:=h;subst h;rfl
 | mQ b=>unfold ag at h;obtain⟨q,xs,h,_⟩:=h;subst h;rfl
 | ref b=>unfold ag at h;obtain⟨q,h,_⟩:=h;subst h;rfl
 | ty b=>unfold ag at h;subst h;rfl
 | cls b=>unfold ag at h;obtain⟨q,h,_⟩:=h;subst h;rfl
 | fA b=>unfold ag at h;obtain⟨q,C,h,_⟩:=h;subst h;rfl
 | fn fp b=>unfold ag at h;obtain⟨h,_⟩:=h;subst h;rfl
theorem LS:iT X (W2 .Is) F1:=⟨_,Hk,λx y a b st H m Q S rx ry p=>by
 cases y with
 | aF=>
  refine⟨by unfold ag at ry;exact ry,?_⟩
  rw[F2 rx]
  cases x<;>exact p _ m H Ext.refl S gH
 | _=>cases x<;>exact False.elim p⟩
theorem Ar:iT X (W2 .IsNot) jx:=⟨_,Dk,λx y a b st H m Q S rx ry p=>by
 cases y with
 | aF=>
  refine⟨by unfold ag at ry;exact ry,?_⟩
  rw[F2 rx]
  cases x<;>exact p _ m H Ext.refl S gH
 | _=>cases x<;>exact False.elim p⟩
theorem qu{a b:PySem.Str}(ha:PyData.strOk a=true)(hb:PyData.strOk b=true):PyData.strOk (a++b)=true:=by
 unfold PyData.strOk at *
 show((a.cps++b.cps).all _)=true
 rw[Array.all_append,ha,hb]
 rfl
def LU(K:PySem.W.Frag):R2:=λx y H Q=>∃l b xs zs,x= .ref l/\y= .ref b/\ij K H l xs/\ij K H b zs/\xs.length+zs.length<=W6/\∀p,H p=none->Q (.ref p) (upd H p (.lst (xs++zs)))
theorem DM:dm X (WX .Add) (LU X.K):=by
 intro pins s σ H x y v u Q I rx ry h
 obtain⟨l,b,xs,zs,rfl,rfl,hH,hB,hz,q⟩:=h
 cases rx
 cases ry
 obtain⟨its,r,pl,hs⟩:=I.list hH
 obtain⟨its2,r2,TK,hs2⟩:=I.list hB
 have hl:=r.length
 have hl2:=r2.length
 obtain⟨⟨cls,dd,data,sl⟩,ho,hc,n,hd⟩:=id pl.isList
 obtain⟨⟨Ll,dd2,data2,sl2⟩,ho2,hc2,n2,hd2⟩:=id TK.isList
 simp only at hc hd hc2 hd2
 subst hc hd hc2 hd2
 have e:its.toArray++its2.toArray=(its++its2).toArray:=by simp
 refine PySem.concat_meets ⟨_,ho,rfl⟩ ⟨_,ho2,rfl⟩ PySem.noFill_list_add PySem.seq_list_add PySem.F.slot_list_add PySem.F.entry_list_add (PySem.F.args_list_add_2 _ _) (list_addW l b its.toArray its2.toArray n n2 dd dd2 sl sl2 (by simp;omega)) ⟨ho,ho2,?_⟩
 rw[e]
 exact⟨.ref _,_,I.Hy (t':=s.toks) (r.append r2) (by rw[List.length_append];omega),rfl,q _ I.fresh⟩
def LV(K:PySem.W.Frag):R2:=λx y H Q=>∃a b ys,x= .ref a/\y= .ref b/\dU K H a []/\dU K H b ys/\Q (.ref b) H
theorem DN:dm X (WX .Add) (LV X.K):=by
 intro pins s σ H x y v u Q I rx ry h
 obtain⟨a,b,ys,rfl,rfl,ha,hb,q⟩:=h
 cases rx
 cases ry
 obtain⟨its,r1,p1,_⟩:=I.tuple ha
 obtain⟨its2,r2,p2,_⟩:=I.tuple hb
 cases r1
 obtain⟨⟨c1,d1,t1,l1⟩,g1,k1,n1,j1⟩:=id p1
 obtain⟨⟨c2,d2,t2,l2⟩,g2,k2,n2,j2⟩:=id p2
 simp only at k1 j1 k2 j2
 subst k1 j1 k2 j2
 exact PySem.concat_meets ⟨_,g1,rfl⟩ ⟨_,g2,rfl⟩ PySem.noFill_tuple_add PySem.seq_tuple_add PySem.F.slot_tuple_add PySem.F.entry_tuple_add (PySem.F.args_tuple_add_2 _ _) (tuple_addW0 a b #[] its2.toArray n1 n2 d1 d2 l1 l2 (by simp)) ⟨g1,g2,⟨.ref b,H,I,rfl,q⟩⟩
def b8:eE
 | .int i,.int j,st=> .ok (.int (i+j)) st
 | .str i,.str j,st=>if i.length+j.length<=lim then .ok (.str (i++j)) st else .bad
 | .tup i,.tup j,st=>if i.length+j.length<=lim then .ok (.tup (i++j)) st else .bad
 | .ref l,.ref k,st=>match af st l,af st k with
  | some i,some j=>if i.length+j.length<=lim then .ok (.ref st.length) (st++[.lst (i++j)]) else .bad
  | _,_=> .bad
 | _,_,_=> .bad
instance {α:Type}{xs:List α}:Decidable (xs≠[]):=match xs with
 | []=>isFalse (λh=>h rfl)
 | _::_=>isTrue (λh=>by cases h)
theorem Ig:iT X (WX .Add) b8:=⟨_,dm.or Hf (dm.or uz (dm.or Dw (dm.or DM DN))),λx y a b st H m Q S rx ry p=>by
 cases x with
 | int i=>
  cases y with
  | int j=>exact .inl ⟨i,j,aG rx,aG ry,p _ m H Ext.refl S mkInt⟩
  | _=>exact False.elim p
 | str i=>
  cases y with
  | str j=>
   dsimp only[b8] at p
   by_cases c:i.length+j.length<=lim
   ·rw[if_pos c] at p
    exact .inr (.inl ⟨i,j,(dq rx).1,(dq ry).1,cP c,p _ m H Ext.refl S (mkStr (qu (dq rx).2 (dq ry).2))⟩)
   ·rw[if_neg c] at p;exact False.elim p
  | _=>exact False.elim p
 | tup i=>
  cases y with
  | tup j=>
   dsimp only[b8] at p
   by_cases c:i.length+j.length<=lim
   ·rw[if_pos c] at p
    by_cases c0:i=[]
    ·subst c0
     unfold ag at rx ry
     obtain⟨a1,xs,rfl,h1,h2⟩:=rx
     obtain⟨a2,ys,rfl,h3,h4⟩:=ry
     have l1:xs=[]:=List.eq_nil_of_length_eq_zero h2.length.symm
     subst l1
     exact .inr (.inr (.inr (.inr ⟨a1,a2,ys,rfl,rfl,dU.of h1,dU.of h3,p (.ref a2) m H Ext.refl S (by rw[List.nil_append];unfold ag;exact⟨a2,ys,rfl,h3,h4⟩)⟩)))
    unfold ag at rx ry
    obtain⟨a1,xs,rfl,h1,h2⟩:=rx
    obtain⟨a2,ys,rfl,h3,h4⟩:=ry
    have l1:=h2.length
    have l2:=h4.length
    have n1:xs≠[]:=λz=>by rw[z] at l1;exact c0 (List.eq_nil_of_length_eq_zero l1)
    refine .inr (.inr (.inl ⟨a1,a2,xs,ys,rfl,rfl,dU.of h1,dU.of h3,n1,by rw[<-l1,<-l2];exact cP c,λz=>?_,λ_ q hq=>?_⟩))
    ·rw[z] at l2
     rw[List.eq_nil_of_length_eq_zero l2,List.append_nil] at p
     exact p (.ref a1) m H Ext.refl S (by unfold ag;exact⟨a1,xs,rfl,h1,h2⟩)
    have e2:Ext X.K m H m (upd H q (.tup (xs++ys))):=Ext.upd (.inl hq)
    exact p (.ref q) m _ e2 (S.fresh hq) (by unfold ag;exact⟨q,xs++ys,rfl,az,ah.mono e2 _ _ (h2.append h4)⟩)
   ·rw[if_neg c] at p;exact False.elim p
  | _=>exact False.elim p
 | ref l=>
  cases y with
  | ref k=>
   dsimp only[b8] at p
   unfold ag at rx ry
   obtain⟨a1,rfl,h1⟩:=rx
   obtain⟨a2,rfl,h2⟩:=ry
   cases e1:af st l with
   | none=>rw[e1] at p;exact False.elim p
   | some i=>
    cases e2:af st k with
    | none=>rw[e1,e2] at p;exact False.elim p
    | some j=>
     rw[e1,e2] at p
     by_cases c:i.length+j.length<=lim
     ·simp only[if_pos c] at p
      obtain⟨xs,q1,q2⟩:=S.read h1 e1
      obtain⟨ys,q3,q4⟩:=S.read h2 e2
      exact .inr (.inr (.inr (.inl ⟨a1,a2,xs,ys,rfl,rfl,q1,q3,by rw[<-q2.length,<-q4.length];exact cP c,λq hq=>iC p Ext.refl S (q2.append q4) q hq⟩)))
     ·simp only[if_neg c] at p;exact False.elim p
  | _=>exact False.elim p
 | _=>cases y<;>exact False.elim p⟩
def r6(n:Nat)(x:PySem.Str):PySem.Str:=⟨(List.replicate n x.cps).foldl (· ++·) #[]⟩
end
end J
namespace J
open PySem PySem.Spec PySem.SeqAt PyProof.Rows L2
def ip{α β:Type}(f:α->Option β):List α->Option (List β)
 | []=>some []
 | w::ws=>match f w,ip f ws with
  | some d,some ds=>some (d::ds)
  | _,_=>none
def aS(st:Hs):Nat->Wv->Option PyData
 | 0,w=>match w with
  | .aF=>some .none
  | .bl b=>some (.bool b)
  | .int i=>some (.int i)
  | .str x=>some (.str x)
  | _=>none
 | n+1,w=>match w with
  | .aF=>some .none
  | .bl b=>some (.bool b)
  | .int i=>some (.int i)
  | .str x=>some (.str x)
  | .tup ws=>(ip (aS st n) ws).map .tuple
  | .mQ ws=>(ip (aS st n) ws).map .tuple
  | .ref l=>match af st l with
   | some ws=>(ip (aS st n) ws).map .list
   | none=>none
  | .ty _=>none
  | .cls _=>none
  | .fA _=>none
  | .fn _ _=>none
section
variable {X:Cx} {pins:List (WN×Obj)} {σ:St} {H:Hp} {s:WT} {m:Mp} {st:Hs}
def F3(h:Heap)(n:Nat)(u:WU)(d:PyData):Prop:=∃as,Reads h u d as/\d.canLay0=true/\d.depth<=n
theorem iU{n:Nat}(ih:∀(w:Wv)(a:V)(u:WU)(d:PyData),ag X.K m H w a->RelV a u->aS st n w=some d->F3 s.heap n u d) :
  ∀(ws:List Wv)(xs:List V)(us:List WU)(ds:List PyData),ah X.K m H ws xs->Vals xs us->ip (aS st n) ws=some ds->∃as,ReadsAll s.heap us ds as/\PyData.canLayAll0 ds=true/\PyData.depthAll ds<=n
 | [],xs,us,ds,h,r,e=>by
  unfold ah at h
  subst h
  cases r
  cases e
  exact⟨[],.nil,rfl,Nat.zero_le _⟩
 | w::ws,xs,us,ds,h,r,e=>by
  unfold ah at h
  obtain⟨x,xr,rfl,h1,h2⟩:=h
  cases r with
  | cons r1 r2=>
   unfold ip at e
   cases e1:aS st n w with
   | none=>rw[e1] at e;cases e
   | some d=>
    cases e2:ip (aS st n) ws with
    | none=>rw[e1,e2] at e;cases e
    | some dr=>
     rw[e1,e2] at e
     cases e
     obtain⟨as,q1,q2,q3⟩:=ih w x _ d h1 r1 e1
     obtain⟨bs,p1,p2,p3⟩:=iU ih ws xr _ dr h2 r2 e2
     refine⟨as++bs,.cons q1 p1,?_,?_⟩
     ·show(PyData.canLay0 d&&PyData.canLayAll0 dr)=true
      rw[q2,p2];rfl
     ·show max d.depth (PyData.depthAll dr)<=n
      omega
theorem f'(I:Inv X pins σ H s)(S:aL X.K m st H):∀(n:Nat)(w:Wv)(a:V)(u:WU)(d:PyData),ag X.K m H w a->RelV a u->aS st n w=some d->F3 s.heap n u d:=by
 intro n
 induction n with
 | zero=>
  intro w a u d h r e
  cases w with
  | aF=>unfold ag at h;subst h;cases r;cases e;exact⟨[],.none,rfl,Nat.le_refl _⟩
  | bl b=>unfold ag at h;subst h;cases r;cases e;exact⟨[],.bool b,rfl,Nat.le_refl _⟩
  | int i=>unfold ag at h;subst h;obtain⟨t,rfl⟩:=r;cases e;exact⟨[],.int i t,rfl,Nat.le_refl _⟩
  | str x=>unfold ag at h;obtain⟨rfl,hx⟩:=h;obtain⟨t,rfl⟩:=r;cases e;exact⟨[],.str x t,hx,Nat.le_refl _⟩
  | tup ws=>cases e
  | mQ ws=>cases e
  | ref l=>cases e
  | ty t=>cases e
  | cls t=>cases e
  | fA t=>cases e
  | fn fp t=>cases e
 | succ n ih=>
  intro w a u d h r e
  cases w with
  | aF=>unfold ag at h;subst h;cases r;cases e;exact⟨[],.none,rfl,Nat.zero_le _⟩
  | bl b=>unfold ag at h;subst h;cases r;cases e;exact⟨[],.bool b,rfl,Nat.zero_le _⟩
  | int i=>unfold ag at h;subst h;obtain⟨t,rfl⟩:=r;cases e;exact⟨[],.int i t,rfl,Nat.zero_le _⟩
  | str x=>unfold ag at h;obtain⟨rfl,hx⟩:=h;obtain⟨t,rfl⟩:=r;cases e;exact⟨[],.str x t,hx,Nat.zero_le _⟩
  | ty t=>cases e
  | cls t=>cases e
  | fA t=>cases e
  | fn fp t=>cases e
  | tup ws=>
   unfold ag at h
   obtain⟨p,xs,rfl,h1,h2⟩:=h
   cases r
   have e':(ip (aS st n) ws).map PyData.tuple=some d:=e
   cases e2:ip (aS st n) ws with
   | none=>rw[e2] at e';cases e'
   | some ds=>
    rw[e2] at e'
    cases e'
    obtain⟨its,rv,ht,hz⟩:=I.tuple (dU.of h1)
    obtain⟨as,q1,q2,q3⟩:=iU ih ws xs its ds h2 rv e2
    obtain⟨o,ho,hc,k,hd⟩:=ht
    exact⟨as,.tuple ho hc hd (by simpa using q1),q2,Nat.succ_le_succ q3⟩
  | mQ ws=>
   unfold ag at h
   obtain⟨p,xs,rfl,h1,h2⟩:=h
   cases r
   have e':(ip (aS st n) ws).map PyData.tuple=some d:=e
   cases e2:ip (aS st n) ws with
   | none=>rw[e2] at e';cases e'
   | some ds=>
    rw[e2] at e'
    cases e'
    obtain⟨its,rv,ht,hz⟩:=I.tuple (.inr h1)
    obtain⟨as,q1,q2,q3⟩:=iU ih ws xs its ds h2 rv e2
    obtain⟨o,ho,hc,k,hd⟩:=ht
    exact⟨as,.tuple ho hc hd (by simpa using q1),q2,Nat.succ_le_succ q3⟩
  | ref l=>
   unfold ag at h
   obtain⟨p,rfl,h1⟩:=h
   cases r
   have e':(match af st l with | some ws=>(ip (aS st n) ws).map PyData.list | none=>none)=some d:=e
   cases e1:af st l with
   | none=>rw[e1] at e';cases e'
   | some ws=>
    rw[e1] at e'
    have e'':(ip (aS st n) ws).map PyData.list=some d:=e'
    cases e2:ip (aS st n) ws with
    | none=>rw[e2] at e'';cases e''
    | some ds=>
     rw[e2] at e''
     cases e''
     obtain⟨xs,hq,h2⟩:=S.read h1 e1
     obtain⟨its,rv,ht,hz⟩:=I.list hq
     obtain⟨as,q1,q2,q3⟩:=iU ih ws xs its ds h2 rv e2
     obtain⟨o,ho,hc,k,hd⟩:=ht.isList
     exact⟨_,.list ho hc hd (by simpa using q1),q2,Nat.succ_le_succ q3⟩
end
def oEq:eE:=λx y st=>match aS st 20 x,aS st 20 y with
 | some a,some b=> .ok (.bl (PyData.eqv a b)) st
 | _,_=> .bad
def wt:eE:=λx y st=>match aS st 20 x,aS st 20 y with
 | some a,some b=> .ok (.bl (!PyData.eqv a b)) st
 | _,_=> .bad
section
variable {X:Cx}
def LW(K:PySem.W.Frag)(neg:Bool):R2:=λa b H Q=>∃m st x y da db,aL K m st H/\ag K m H x a/\ag K m H y b/\aS st 20 x=some da/\aS st 20 y=some db/\Q (.bl (if neg then !PyData.eqv da db else PyData.eqv da db)) H
theorem iV{n:Nat}{d:PyData}(hn:n<=64)(h:d.canLay0=true)(k:d.depth<=n):shaped d=true:=by
 unfold shaped
 rw[h,decide_eq_true (Nat.le_trans k hn)]
 rfl
theorem Ih(hu:X.A.units+64 < cLine):dm X (W2 .Eq) (LW X.K false):=by
 intro pins s σ H a b v u Q I rx ry h
 obtain⟨m,st,x,y,da,db,S,h1,h2,e1,e2,q⟩:=h
 obtain⟨as,q1,q2,q3⟩:=f' I S 20 x a v da h1 rx e1
 obtain⟨bs,p1,p2,p3⟩:=f' I S 20 y b u db h2 ry e2
 exact eq_dataH q1 p1 (iV (by decide) q2 q3) (iV (by decide) p2 p3) hu ⟨.bl _,H,I,rfl,q⟩
theorem Ii(hu:X.A.units+64 < cLine):dm X (W2 .NotEq) (LW X.K true):=by
 intro pins s σ H a b v u Q I rx ry h
 obtain⟨m,st,x,y,da,db,S,h1,h2,e1,e2,q⟩:=h
 obtain⟨as,q1,q2,q3⟩:=f' I S 20 x a v da h1 rx e1
 obtain⟨bs,p1,p2,p3⟩:=f' I S 20 y b u db h2 ry e2
 exact ne_dataH q1 p1 (iV (by decide) q2 q3) (iV (by decide) p2 p3) hu ⟨.bl _,H,I,rfl,q⟩
theorem F4(hu:X.A.units+64 < cLine):iT X (W2 .Eq) oEq:=⟨_,Ih hu,λx y a b st H m Q S rx ry p=>by
 unfold oEq at p
 cases e1:aS st 20 x with
 | none=>rw[e1] at p;exact False.elim p
 | some da=>
  cases e2:aS st 20 y with
  | none=>rw[e1,e2] at p;exact False.elim p
  | some db=>
   rw[e1,e2] at p
   exact⟨m,st,x,y,da,db,S,rx,ry,e1,e2,p _ m H Ext.refl S gH⟩⟩
theorem F5(hu:X.A.units+64 < cLine):iT X (W2 .NotEq) wt:=⟨_,Ii hu,λx y a b st H m Q S rx ry p=>by
 unfold wt at p
 cases e1:aS st 20 x with
 | none=>rw[e1] at p;exact False.elim p
 | some da=>
  cases e2:aS st 20 y with
  | none=>rw[e1,e2] at p;exact False.elim p
  | some db=>
   rw[e1,e2] at p
   exact⟨m,st,x,y,da,db,S,rx,ry,e1,e2,p _ m H Ext.refl S gH⟩⟩
def gg:Wv->Bool
 | .aF=>true
 | .bl _=>true
 | .int _=>true
 | .str _=>true
 | _=>false
def Nw:Wv->Wv->Bool
 | .aF,.aF=>true
 | .bl a,.bl b=>a == b
 | .bl a,.int b=>(if a then 1 else 0) == b
 | .int a,.bl b=>a == (if b then 1 else 0)
 | .int a,.int b=>a == b
 | .str a,.str b=>a == b
 | _,_=>false
def iD(st:Hs):Wv->Option (List Wv)
 | .tup ws=>some ws
 | .mQ ws=>some ws
 | .ref l=>af st l
 | _=>none
def O1:eE:=λx y st=>match iD st y with
 | some ws=>if gg x=true/\ws.all gg=true then .ok (.bl (ws.any λz=>Nw z x)) st else .bad
 | none=> .bad
def uP:eE:=λx y st=>match iD st y with
 | some ws=>if gg x=true/\ws.all gg=true then .ok (.bl (!(ws.any λz=>Nw z x))) st else .bad
 | none=> .bad
theorem mU{m:Mp}{H:Hp}{x:Wv}{a:V}(h:ag X.K m H x a)(f:gg x=true):jj a=true:=by
 cases x with
 | aF=>unfold ag at h;subst h;rfl
 | bl b=>unfold ag at h;subst h;rfl
 | int b=>unfold ag at h;subst h;rfl
 | str b=>unfold ag at h;obtain⟨h,_⟩:=h;subst h;rfl
 | _=>cases f
theorem DO{m:Mp}{H:Hp}{x y:Wv}{a b:V}(h:ag X.K m H x a)(k:ag X.K m H y b)(f:gg x=true)(g:gg y=true):DA a b=Nw x y:=by
 cases x with
 | aF=>
  unfold ag at h;subst h
  cases y with
  | str j=>unfold ag at k;obtain⟨k,_⟩:=k;subst k;rfl
  | tup j=>cases g
  | mQ j=>cases g
  | ref j=>cases g
  | ty j=>cases g
  | cls j=>cases g
  | fA j=>cases g
  | fn fp j=>cases g
  | _=>unfold ag at k;subst k;rfl
 | bl i=>
  unfold ag at h;subst h
  cases y with
  | str j=>unfold ag at k;obtain⟨k,_⟩:=k;subst k;rfl
  | tup j=>cases g
  | mQ j=>cases g
  | ref j=>cases g
  | ty j=>cases g
  | cls j=>cases g
  | fA j=>cases g
  | fn fp j=>cases g
  | _=>unfold ag at k;subst k;rfl
 | int i=>
  unfold ag at h;subst h
  cases y with
  | str j=>unfold ag at k;obtain⟨k,_⟩:=k;subst k;rfl
  | tup j=>cases g
  | mQ j=>cases g
  | ref j=>cases g
  | ty j=>cases g
  | cls j=>cases g
  | fA j=>cases g
  | fn fp j=>cases g
  | _=>unfold ag at k;subst k;rfl
 | str i=>
  unfold ag at h;obtain⟨h,_⟩:=h;subst h
  cases y with
  | str j=>unfold ag at k;obtain⟨k,_⟩:=k;subst k;rfl
  | tup j=>cases g
  | mQ j=>cases g
  | ref j=>cases g
  | ty j=>cases g
  | cls j=>cases g
  | fA j=>cases g
  | fn fp j=>cases g
  | _=>unfold ag at k;subst k;rfl
 | _=>cases f
theorem kJ{m:Mp}{H:Hp}{x:Wv}{a:V}(h:ag X.K m H x a)(f:gg x=true):∀{ws:List Wv}{xs:List V},ah X.K m H ws xs->ws.all gg=true->xs.all jj=true/\Np a xs=ws.any λz=>Nw z x
 | [],xs,r,_=>by unfold ah at r;subst r;exact⟨rfl,rfl⟩
 | w::ws,xs,r,g=>by
  unfold ah at r
  obtain⟨y,yr,rfl,r1,r2⟩:=r
  rw[List.all_cons,Bool.and_eq_true] at g
  obtain⟨q1,q2⟩:=kJ h f r2 g.2
  constructor
  ·rw[List.all_cons,mU r1 g.1,q1];rfl
  ·unfold Np at q2 ⊢
   rw[List.any_cons,List.any_cons,DO r1 h g.1 f,q2]
theorem mh{m:Mp}{H:Hp}{st:Hs}{y:Wv}{b:V}{ws:List Wv}(S:aL X.K m st H)(h:ag X.K m H y b)(e:iD st y=some ws):∃p xs,b= .ref p/\(ij X.K H p xs\/dU X.K H p xs)/\ah X.K m H ws xs:=by
 cases y with
 | tup zs=>
  cases e
  unfold ag at h
  obtain⟨p,xs,e1,e2,e3⟩:=h
  exact⟨p,xs,e1,.inr (dU.of e2),e3⟩
 | mQ zs=>
  cases e
  unfold ag at h
  obtain⟨p,xs,e1,e2,e3⟩:=h
  exact⟨p,xs,e1,.inr (.inr e2),e3⟩
 | ref l=>
  unfold ag at h
  obtain⟨p,e1,e2⟩:=h
  obtain⟨xs,q1,q2⟩:=S.read e2 e
  exact⟨p,xs,e1,.inl q1,q2⟩
 | _=>cases e
theorem LX:iT X (W2 .In) O1:=⟨_,xS,λx y a b st H m Q S rx ry p=>by
 unfold O1 at p
 cases e:iD st y with
 | none=>rw[e] at p;exact False.elim p
 | some ws=>
  rw[e] at p
  by_cases c:gg x=true/\ws.all gg=true
  ·simp only[if_pos c] at p
   obtain⟨q,xs,e1,e2,e3⟩:=mh S ry e
   obtain⟨f1,f2⟩:=kJ rx c.1 e3 c.2
   refine⟨q,xs,e1,e2,mU rx c.1,f1,?_⟩
   rw[f2]
   exact p _ m H Ext.refl S gH
  ·simp only[if_neg c] at p;exact False.elim p⟩
theorem As:iT X (W2 .NotIn) uP:=⟨_,qh,λx y a b st H m Q S rx ry p=>by
 unfold uP at p
 cases e:iD st y with
 | none=>rw[e] at p;exact False.elim p
 | some ws=>
  rw[e] at p
  by_cases c:gg x=true/\ws.all gg=true
  ·simp only[if_pos c] at p
   obtain⟨q,xs,e1,e2,e3⟩:=mh S ry e
   obtain⟨f1,f2⟩:=kJ rx c.1 e3 c.2
   refine⟨q,xs,e1,e2,mU rx c.1,f1,?_⟩
   rw[f2]
   exact p _ m H Ext.refl S gH
  ·simp only[if_neg c] at p;exact False.elim p⟩
def bz:eE
 | .str z,.int i,st=>if z.length<=lim then(match kI z.cps.toList i with | some c=> .ok (.str ⟨#[c]⟩) st | none=> .bad) else .bad
 | x,.int i,st=>match iD st x with
  | some ws=>(match kI ws i with | some w=> .ok w st | none=> .bad)
  | none=> .bad
 | _,_,_=> .bad
theorem DP{m:Mp}{H:Hp}{ws:List Wv}{xs:List V}{i:Int}{w:Wv}(r:ah X.K m H ws xs)(h:kI ws i=some w):∃x,kI xs i=some x/\ag X.K m H w x:=by
 unfold kI at h ⊢
 rw[<-r.length]
 cases e:v9 ws.length i with
 | none=>rw[e] at h;cases h
 | some j=>rw[e] at h;exact r.get h
theorem DQ{α:Type}{xs:List α}{i:Int}{v:α}(h:kI xs i=some v):v∈xs:=by
 obtain⟨j,_,h2,_⟩:=ma h
 exact List.mem_of_getElem? h2
theorem yc{z:PySem.Str}{c:Nat}(h:PyData.strOk z=true)(hc:c∈z.cps.toList):PyData.strOk ⟨#[c]⟩=true:=by
 unfold PyData.strOk at h ⊢
 rw[Array.all_eq_true_iff_forall_mem] at h
 have q:=h c (by simpa using hc)
 simpa using q
theorem LY{a b:Expr}{ga gb:GE}{pos:Pos}(ha:JE X a ga)(hb:JE X b gb)(hs:wa b:=by exact λ_ _=>rfl):JE X (.Subscript a b pos) (aj bz ga gb) :=
 JE.of (Lq Hv aD aD hs) λρ st σ H m Q S R p=>wj (op:=bz) (λx y a b st H m Q S rx ry p=>by
  have seqs:∀(i:Int),y= .int i->(match iD st x with | some ws=>(match kI ws i with | some w=>Re.ok w st | none=> .bad) | none=> .bad)=bz x y st->Rw X.K a b H Q:=λi hy hp=>by
   subst hy
   rw[<-hp] at p
   cases e:iD st x with
   | none=>rw[e] at p;exact False.elim p
   | some ws=>
    rw[e] at p
    dsimp only at p
    cases e1:kI ws i with
    | none=>rw[e1] at p;exact False.elim p
    | some w=>
     rw[e1] at p
     obtain⟨q,xs,e2,e3,e4⟩:=mh S rx e
     obtain⟨v,f1,f2⟩:=DP e4 e1
     rcases e3 with e3 | e3
     ·exact .inl ⟨q,xs,i,v,e2,aG ry,e3,f1,p v m H Ext.refl S f2⟩
     ·exact .inr (.inl ⟨q,xs,i,v,e2,aG ry,e3,f1,p v m H Ext.refl S f2⟩)
  cases y with
  | int i=>
   cases x with
   | str z=>
    dsimp only[bz] at p
    by_cases c:z.length<=lim
    ·simp only[if_pos c] at p
     cases e1:kI z.cps.toList i with
     | none=>rw[e1] at p;exact False.elim p
     | some ch=>
      rw[e1] at p
      exact .inr (.inr ⟨z,i,ch,(dq rx).1,aG ry,cP c,e1,p _ m H Ext.refl S (mkStr (yc (dq rx).2 (DQ e1)))⟩)
    ·simp only[if_neg c] at p;exact False.elim p
   | _=>exact seqs i rfl rfl
  | _=>cases x<;>exact False.elim p) ha hb S R p
abbrev GO:=aT->Hs->Re (Option Int)
def SO(X:Cx)(e:Option Expr):TO:=λσ H Q=>∀(pins:List (WN×Obj))(s:WT),Inv X pins σ H s->W8 (model X.prog X.w) X.A (evalPart e X.env) (λu s'=>∃o H',Inv X pins σ H' s'/\IsPart u o/\Q o H') X.xe s
theorem pC{e:Option Expr}:PO X e (SO X e):=λpins s _ _ _ I h=>h pins s I
def TL(K:PySem.W.Frag)(m:Mp)(H:Hp)(Q:Option Int->Hp->Prop)(o:Option Int)(st:Hs):Prop:=∀(m':Mp)(H':Hp),Ext K m H m' H'->aL K m' st H'->Q o H'
def JO(X:Cx)(e:Option Expr)(g:GO):Prop:=∀(ρ:aT)(st:Hs)(σ:St)(H:Hp)(m:Mp)(Q:Option Int->Hp->Prop),aL X.K m st H->ar X.K m H ρ σ->aq X σ m H (g ρ st) (TL X.K m H Q)->SO X e σ H Q
def fG:GO:=λ_ st=> .ok none st
def jm(g:GE):GO:=λρ st=>(g ρ st).bind λw st1=>match w with
 | .int i=> .ok (some i) st1
 | _=> .bad
theorem DR:JO X none fG:=λρ st σ H m Q S R p pins s I=>Du pins s σ H Q I (p m H Ext.refl S)
theorem DS{e:Expr}{g:GE}(h:JE X e g):JO X (some e) (jm g):=λρ st σ H m Q S R p pins s I=>
 Dv aD pins s σ H Q I (h.go S R (aq.bind p) λw st1 v m1 H1 p1 e1 S1 r1=>by
  cases w with
  | int i=>exact⟨i,aG r1,p1 m1 H1 e1 S1⟩
  | _=>exact False.elim p1)
theorem JO.go{e:Option Expr}{g:GO}{ρ:aT}{st:Hs}{σ:St}{H:Hp}{m:Mp}{T:Option Int->Hp->Prop}{ok:Option Int->Hs->Prop}(h:JO X e g)(S:aL X.K m st H)(R:ar X.K m H ρ σ)(p:aq X σ m H (g ρ st) ok)
  (k:∀(b:Option Int)(st1:Hs)(m1:Mp)(H1:Hp),ok b st1->Ext X.K m H m1 H1->aL X.K m1 st1 H1->T b H1):SO X e σ H T :=
 h ρ st σ H m T S R (p.imp Ext.refl λb st1 q m1 H1 e1 s1=>k b st1 m1 H1 q e1 s1)
def jy(xs:List Wv)(lo hi:Option Int):List Wv:=(xs.drop (HT.bV xs.length 0 lo)).take (HT.bV xs.length xs.length hi - HT.bV xs.length 0 lo)
def LZ(x:Wv)(lo hi:Option Int)(st:Hs):Re Wv:=match x with
 | .tup ws=>if HT.bV ws.length 0 lo=0/\HT.bV ws.length ws.length hi=ws.length then .bad else .ok (.tup (jy ws lo hi)) st
 | .ref l=>match af st l with
  | some ws=> .ok (.ref st.length) (st++[.lst (jy ws lo hi)])
  | none=> .bad
 | _=> .bad
theorem qv{m:Mp}{H:Hp}{ws:List Wv}{xs:List V}{lo hi:Option Int}(r:ah X.K m H ws xs):ah X.K m H (jy ws lo hi) (oA xs lo hi):=by
 unfold jy oA
 rw[<-r.length]
 exact(r.drop _).take _
def uQ(ga:GE)(gl gh:GO):GE:=λρ st=>(ga ρ st).bind λx st1=>(gl ρ st1).bind λlo st2=>(gh ρ st2).bind λhi st3=>LZ x lo hi st3
theorem r_{a:Expr}{lo hi:Option Expr}{ga:GE}{gl gh:GO}{pos p2:Pos}(ha:JE X a ga)(hl:JO X lo gl)(hh:JO X hi gh):JE X (.Subscript a (.Slice lo hi none p2) pos) (uQ ga gl gh):=by
 refine JE.of (mM (zS.or Dz) aD pC pC) λρ st σ H m Q S R p=>?_
 refine ha.go S R (aq.bind p) λx st1 v m1 H1 p1 e1 S1 rx=>?_
 refine hl.go S1 (R.mono e1) ((aq.bind p1).imp e1 λ_ _ q=>q) λl st2 m2 H2 p2 e2 S2=>?_
 refine hh.go S2 (R.mono (e1.trans e2)) ((aq.bind p2).imp (e1.trans e2) λ_ _ q=>q) λh st3 m3 H3 p3 e3 S3=>?_
 have yd:=e1.trans (e2.trans e3)
 have Nx:=ag.mono (e2.trans e3) _ _ rx
 cases x with
 | tup ws=>
  have lU:dj X σ m H (if HT.bV ws.length 0 l=0/\HT.bV ws.length ws.length h=ws.length then .bad else .ok (.tup (jy ws l h)) st3) Q:=p3
  by_cases c:HT.bV ws.length 0 l=0/\HT.bV ws.length ws.length h=ws.length
  ·rw[if_pos c] at lU;exact False.elim lU
  ·rw[if_neg c] at lU
   unfold ag at Nx
   obtain⟨q,xs,rfl,f1,f2⟩:=Nx
   refine .inl ⟨q,xs,rfl,dU.of f1,by rw[<-f2.length];exact c,λr hr=>?_⟩
   have e4:Ext X.K m3 H3 m3 (upd H3 r (.tup (oA xs l h))):=Ext.upd (.inl hr)
   exact lU (.ref r) m3 _ (yd.trans e4) (S3.fresh hr) (by unfold ag;exact⟨r,_,rfl,az,ah.mono e4 _ _ (qv f2)⟩)
 | ref k=>
  have lU:dj X σ m H (match af st3 k with | some ws=> .ok (.ref st3.length) (st3++[.lst (jy ws l h)]) | none=> .bad) Q:=p3
  unfold ag at Nx
  obtain⟨q,rfl,f1⟩:=Nx
  cases e:af st3 k with
  | none=>rw[e] at lU;exact False.elim lU
  | some ws=>
   rw[e] at lU
   obtain⟨xs,g1,g2⟩:=S3.read f1 e
   exact .inr ⟨q,xs,rfl,g1,λr hr=>iC lU yd S3 (qv g2) r hr⟩
 | _=>exact False.elim p3
end
end J
namespace J
open PySem PySem.Spec PyProof.Rows L2
section
variable {X:Cx}
def bJ(X:Cx)(f:WU)(op:List Wv->Hs->Re Wv):Prop:=∃r,cC X f r/\∀(ws:List Wv)(vs:List V)(st:Hs)(H:Hp)(m:Mp)(Q:VK),aL X.K m st H->ah X.K m H ws vs->bP X.K m H (op ws st) Q->r vs H Q
def ao(op:List Wv->Hs->Re Wv)(g:GA):GE:=λρ st=>(g ρ st).bind λws st1=>(op ws st1).jh
theorem Au{x:Str}{id:String}{p pos:Pos}{e:Expr}{es:List Expr}{g:GA}{op:List Wv->Hs->Re Wv}(hc:bJ X (.builtin id) op)(hg:Gl X x)(hm:X.mg x=none)(hv:WY x=some (.builtin id))(ha:JA X (e::es) g)
  (hn:x≠"__name__":=by decide)(hdb:(x == ("__debug__":Str))=false:=by decide)(he:W7 (e::es) X.env=(false,eval e X.env)::W7 es X.env:=by rfl)(hpl:(backTo pos (W7 es X.env)).any (·.1)=false:=by rfl) :
  JE X (.Call (.Name x p) (e::es) [] pos) (ao op g):=by
 obtain⟨r,h1,h2⟩:=hc
 refine JE.of (zO h1 hg hm hv jk hn hdb he hpl) λρ st σ H m Q S R p=>?_
 exact ha.go S R (aq.bind p) λws st1 vs m1 H1 p1 e1 S1 rs=>h2 ws vs st1 H1 m1 Q S1 rs (bP.shift (aq.jh p1) e1)
theorem ye{x:Str}{T:String}{p pos:Pos}{e:Expr}{es:List Expr}{g:GA}{op:List Wv->Hs->Re Wv}(hc:bJ X (.type T) op)(hg:Gl X x)(hm:X.mg x=none)(hv:WY x=some (.type T))(ha:JA X (e::es) g)
  (hn:x≠"__name__":=by decide)(hdb:(x == ("__debug__":Str))=false:=by decide)(he:W7 (e::es) X.env=(false,eval e X.env)::W7 es X.env:=by rfl)(hpl:(backTo pos (W7 es X.env)).any (·.1)=false:=by rfl) :
  JE X (.Call (.Name x p) (e::es) [] pos) (ao op g):=by
 obtain⟨r,h1,h2⟩:=hc
 refine JE.of (xR h1 hg hm hv jk hn hdb he hpl) λρ st σ H m Q S R p=>?_
 exact ha.go S R (aq.bind p) λws st1 vs m1 H1 p1 e1 S1 rs=>h2 ws vs st1 H1 m1 Q S1 rs (bP.shift (aq.jh p1) e1)
theorem jd{m:Mp}{H:Hp}{w:Wv}{vs:List V}(r:ah X.K m H [w] vs):∃v,vs=[v]/\ag X.K m H w v:=by
 unfold ah at r
 obtain⟨v,t,rfl,h1,h2⟩:=r
 unfold ah at h2
 subst h2
 exact⟨v,rfl,h1⟩
theorem uR{m:Mp}{H:Hp}{w w':Wv}{vs:List V}(r:ah X.K m H [w,w'] vs):∃v v',vs=[v,v']/\ag X.K m H w v/\ag X.K m H w' v':=by
 unfold ah at r
 obtain⟨v,t,rfl,h1,h2⟩:=r
 obtain⟨v',rfl,h3⟩:=jd h2
 exact⟨v,v',rfl,h1,h3⟩
def fO:List Wv->Hs->Re Wv
 | [.str z],st=>if z.length<=lim then .ok (.int z.length) st else .bad
 | [x],st=>match iD st x with
  | some ws=> .ok (.int ws.length) st
  | none=> .bad
 | _,_=> .bad
theorem Av:bJ X (.builtin "len") fO:=⟨_,qj.or qk,λws vs st H m Q S r p=>by
 match ws,r,p with
 | [],r,p=>exact False.elim p
 | x::y::t,r,p=>cases x<;>exact False.elim p
 | [x],r,p=>
  obtain⟨v,rfl,rx⟩:=jd r
  have seqs:(match iD st x with | some ws=>Re.ok (Wv.int ws.length) st | none=> .bad)=fO [x] st->(∃p ys,[v]=[V.ref p]/\(ij X.K H p ys\/dU X.K H p ys)/\Q (.int ys.length) H):=λhp=>by
   rw[<-hp] at p
   cases e:iD st x with
   | none=>rw[e] at p;exact False.elim p
   | some ws=>
    rw[e] at p
    obtain⟨q,xs,rfl,e2,e3⟩:=mh S rx e
    refine⟨q,xs,rfl,e2,?_⟩
    rw[<-e3.length]
    exact p _ m H Ext.refl S mkInt
  cases x with
  | str z=>
   have p':bP X.K m H (if z.length<=lim then .ok (.int z.length) st else .bad) Q:=p
   by_cases c:z.length<=lim
   ·rw[if_pos c] at p'
    obtain⟨rfl,_⟩:=dq rx
    exact .inr ⟨z,rfl,cP c,p' _ m H Ext.refl S mkInt⟩
   ·rw[if_neg c] at p';exact False.elim p'
  | _=>exact .inl (seqs rfl)⟩
def O2:List Wv->Hs->Re Wv
 | [.int i],st=> .ok (.int (if i < 0 then -i else i)) st
 | _,_=> .bad
def L3(st:Hs)(T:String):Wv->Option Bool
 | .aF=>some false
 | .bl _=>some (T == "bool"||T == "int")
 | .int _=>some (T == "int")
 | .str _=>some (T == "str")
 | .tup _=>some (T == "tuple")
 | .mQ _=>none
 | .ref l=>(af st l).map λ_=>T == "list"
 | .ty _=>none
 | .cls _=>none
 | .fA _=>none
 | .fn _ _=>none
def yf(T:String):Bool:=T == "int"||T == "str"||T == "bool"||T == "tuple"||T == "list"
def Aw:List Wv->Hs->Re Wv
 | [x,.ty T],st=>if yf T=true then(match L3 st T x with | some b=> .ok (.bl b) st | none=> .bad) else .bad
 | _,_=> .bad
def O3(K:PySem.W.Frag):List V->Hp->VK->Prop:=λvs H Q=>∃m st x T v b,vs=[v,.ty T]/\aL K m st H/\ag K m H x v/\yf T=true/\L3 st T x=some b/\Q (.bl b) H
theorem Ax:cC X (.builtin "isinstance") (O3 X.K):=by
 intro pins s σ H xs us Q I r h
 obtain⟨m,st,x,T,v,b,rfl,S,rx,hT,hb,q⟩:=h
 obtain⟨u,u',rfl,r1,r2⟩:=vals2 r
 cases r2
 have fin:∀tk,EP X pins σ Q (.bool b) { s with toks:=tk }:=λtk=>⟨.bl b,H,I.tok tk,rfl,q⟩
 have Ay:EP X pins σ Q (.bool b) s:=⟨.bl b,H,I,rfl,q⟩
 unfold yf at hT
 simp only[Bool.or_eq_true,beq_iff_eq] at hT
 cases x with
 | aF=>
  unfold ag at rx;subst rx;cases r1
  cases hb
  rcases hT with (((rfl | rfl) | rfl) | rfl) | rfl<;>
   exact call_isinstance (isinstance_false_none (by decide) (by kernel_rfl) (by rw[W4];kernel_rfl)) (fin _)
 | bl c=>
  unfold ag at rx;subst rx;cases r1
  rcases hT with (((rfl | rfl) | rfl) | rfl) | rfl<;>cases hb<;>first
   | exact call_isinstance_yes (Tx:="bool") rfl (by kernel_rfl) (by rw[W4];kernel_rfl) Ay
   | exact call_isinstance (isinstance_false_bool (by decide) (by kernel_rfl) (by rw[W4];kernel_rfl)) (fin _)
 | int c=>
  unfold ag at rx;subst rx;obtain⟨t,rfl⟩:=r1
  rcases hT with (((rfl | rfl) | rfl) | rfl) | rfl<;>cases hb<;>first
   | exact call_isinstance_yes (Tx:="int") (typeIs_int s c t) (by kernel_rfl) (by rw[W4];kernel_rfl) Ay
   | exact call_isinstance (isinstance_false_int (by decide) (by kernel_rfl) (by rw[W4];kernel_rfl)) (fin _)
 | str c=>
  obtain⟨rfl,_⟩:=dq rx;obtain⟨t,rfl⟩:=r1
  rcases hT with (((rfl | rfl) | rfl) | rfl) | rfl<;>cases hb<;>first
   | exact call_isinstance_yes (Tx:="str") (typeIs_str s c t) (by kernel_rfl) (by rw[W4];kernel_rfl) Ay
   | exact call_isinstance (isinstance_false_str (by decide) (by kernel_rfl) (by rw[W4];kernel_rfl)) (fin _)
 | mQ ws=>cases hb
 | tup ws=>
  unfold ag at rx;obtain⟨a,xs,rfl,h1,h2⟩:=rx;cases r1
  obtain⟨its,rv,ht,hz⟩:=I.tuple (dU.of h1)
  have hty:=ht.typeIs
  obtain⟨o,ho,hc,k,hd⟩:=ht
  rcases hT with (((rfl | rfl) | rfl) | rfl) | rfl<;>cases hb<;>first
   | exact call_isinstance_yes (Tx:="tuple") hty (by kernel_rfl) (by rw[W4];kernel_rfl) Ay
   | exact call_isinstance (isinstance_false_tuple (by decide) (by kernel_rfl) (by rw[W4];kernel_rfl)) ⟨⟨o,ho,hc⟩,fin _⟩
 | ref l=>
  unfold ag at rx;obtain⟨a,rfl,h1⟩:=rx;cases r1
  have hb':(af st l).map (λ_=>T == "list")=some b:=hb
  cases e:af st l with
  | none=>rw[e] at hb';cases hb'
  | some ws=>
   rw[e] at hb'
   obtain⟨xs,hq,h2⟩:=S.read h1 e
   obtain⟨its,rv,ht,hz⟩:=I.list hq
   have hty:=ht.isList.typeIs
   obtain⟨o,ho,hc,k,hd⟩:=ht.isList
   rcases hT with (((rfl | rfl) | rfl) | rfl) | rfl<;>cases hb'<;>first
    | exact call_isinstance_yes (Tx:="list") hty (by kernel_rfl) (by rw[W4];kernel_rfl) Ay
    | exact call_isinstance (isinstance_false_list (by decide) (by kernel_rfl) (by rw[W4];kernel_rfl)) ⟨⟨o,ho,hc⟩,fin _⟩
 | ty t=>cases hb
 | cls t=>cases hb
 | fA t=>cases hb
 | fn fp t=>cases hb
theorem Ij:bJ X (.builtin "isinstance") Aw:=⟨_,Ax,λws vs st H m Q S r p=>by
 match ws,r,p with
 | [],r,p=>exact False.elim p
 | [x],r,p=>cases x<;>exact False.elim p
 | x::y::z::t,r,p=>cases y<;>exact False.elim p
 | [x,y],r,p=>
  obtain⟨v,v',rfl,rx,ry⟩:=uR r
  cases y with
  | ty T=>
   unfold ag at ry
   subst ry
   have p':bP X.K m H (if yf T=true then(match L3 st T x with | some b=> .ok (.bl b) st | none=> .bad) else .bad) Q:=p
   by_cases c:yf T=true
   ·rw[if_pos c] at p'
    cases e:L3 st T x with
    | none=>rw[e] at p';exact False.elim p'
    | some b=>rw[e] at p';exact⟨m,st,x,T,v,b,rfl,S,rx,c,e,p' _ m H Ext.refl S gH⟩
   ·rw[if_neg c] at p';exact False.elim p'
  | _=>exact False.elim p⟩
def bD:GS:=λρ st=> .nx ρ st
def aA(g h:GS):GS:=λρ st=>match g ρ st with
 | .nx ρ' st'=>h ρ' st'
 | r=>r
theorem DT:jl X [] bD:=jl.of C9 λρ st σ H m D S R p=>p σ m H Ext.refl S R
theorem Az{s:Stmt}{rest:List Stmt}{g h:GS}(h1:JS X s g)(h2:jl X rest h):jl X (s::rest) (aA g h) :=
 jl.of (zx FW cK) λρ st σ H m D S R p=>h1 ρ st σ H m _ S R (by
  unfold aA at p
  cases e:g ρ st with
  | nx ρ' st'=>rw[e] at p;exact λσ' m' H' e' S' R'=>h2 ρ' st' σ' H' m' D S' R' (aw.shift p e')
  | rt w st'=>rw[e] at p;exact p
  | bk ρ' st'=>rw[e] at p;exact p
  | ct ρ' st'=>rw[e] at p;exact p
  | err c ρ' st'=>rw[e] at p;exact p
  | bad=>rw[e] at p;exact p)
theorem DU{s:Stmt}{g:GS}(h1:JS X s g):jl X [s] g:=jl.of (C_ FW) λρ st σ H m D S R p=>h1 ρ st σ H m D S R p
def bA(g:GE):GS:=λρ st=>(g ρ st).aM ρ λw st'=> .rt w st'
theorem Il{e:Expr}{g:GE}{pos:Pos}(h:JE X e g):JS X (.Return (some e) pos) (bA g) :=
 JS.of (G5 aD) λρ st σ H m D S R p=>h.go S R (aw.bB R p) λw st1 v m1 H1 q e1 S1 r1=>q v m1 H1 e1 S1 r1
theorem DV{pos:Pos}:JS X (.Pass pos) bD:=JS.of Dd λρ st σ H m D S R p=>p σ m H Ext.refl S R
def gj(g:GE):GS:=λρ st=>(g ρ st).aM ρ λ_ st'=> .nx ρ st'
theorem DW{e:Expr}{g:GE}{pos:Pos}(h:JE X e g)(hs:swapsWith e none pos.line X.env=pure false:=by rfl):JS X (.Expr e pos) (gj g) :=
 JS.of (De aD hs) λρ st σ H m D S R p=>h.go S R (aw.bB R p) λw st1 v m1 H1 q e1 S1 r1=>q σ m1 H1 e1 S1 (R.mono e1)
def lC(gt:GT)(ga gb:GS):GS:=λρ st=>(gt ρ st).aM ρ λb st'=>if b=true then ga ρ st' else gb ρ st'
theorem L4{c:Expr}{a b:List Stmt}{gt:GT}{ga gb:GS}{pos:Pos}(hc:JT X c gt)(ha:jl X a ga)(hb:jl X b gb):JS X (.If c a b pos) (lC gt ga gb) :=
 JS.of (K5 lB cK cK) λρ st σ H m D S R p=>hc.go S R (aw.bB R p) λk st1 m1 H1 q e1 S1=>by
  cases k with
  | true=>rw[if_pos rfl] at q ⊢;exact ha ρ st1 σ H1 m1 D S1 (R.mono e1) (aw.shift q e1)
  | false=>rw[if_neg Bool.false_ne_true] at q ⊢;exact hb ρ st1 σ H1 m1 D S1 (R.mono e1) (aw.shift q e1)
def aC(i:Nat)(g:GE):GS:=λρ st=>(g ρ st).aM ρ λw st'=> .nx (ρ.set i (some w)) st'
theorem uS(i:Nat){x:Str}{e:Expr}{g:GE}{pos pos':Pos}(hN:X.N.Nodup)(h:JE X e g)(hi:X.N[i]? =some x:=by rfl)(hx:Loc X.env.scope x:=by first | exact Or.inl rfl | exact Or.inr rfl)(hs:swapsWith e (some (.Name x pos')) pos.line X.env=pure false:=by rfl)
  (hf:X.fn x=true\/X.env.scope.names.lookup x=some .local:=by first | exact .inl rfl | exact .inr rfl | assumption):JS X (.Assign [.Name x pos'] e pos) (aC i g) :=
 JS.of (G8 hN hi hx aD hs hf) λρ st σ H m D S R p=>h.go S R (aw.bB R p) λw st1 v m1 H1 q e1 S1 r1=>q _ m1 H1 e1 S1 ((R.mono e1).set i r1)
def bb:GS:=λ_ _=> .bad
theorem aO{s:Stmt}:JS X s bb:=JS.of zE λρ st σ H m D S R p=>p
theorem yg{s:List Stmt}:jl X s bb:=jl.of xK λρ st σ H m D S R p=>p
def L5(o i v:Wv)(ρ:aT)(st:Hs):Rs:=match o,i with
 | .ref l,.int k=>match st[l]? with
  | some (.lst ws)=>(match v9 ws.length k with | some j=> .nx ρ (st.set l (.lst (ws.set j v))) | none=> .bad)
  | _=> .bad
 | _,_=> .bad
def wu(ge go gi:GE):GS:=λρ st=>(ge ρ st).aM ρ λv st1=>(go ρ st1).aM ρ λo st2=>(gi ρ st2).aM ρ λi st3=>L5 o i v ρ st3
theorem DX{o i e:Expr}{go gi ge:GE}{pos pos':Pos}(he:JE X e ge)(ho:JE X o go)(hi:JE X i gi)(hs:swapsWithSole [.Subscript o i pos'] e pos.line X.env=pure false:=by rfl)(hw:swappedStores [.Subscript o i pos'] e X.env=pure none:=by rfl)
  (h1:(assignEach [.Subscript o i pos'] X.env).map (·.2)=[assign (.Subscript o i pos') X.env]:=by rfl)
  (ha:∀v,assign (.Subscript o i pos') X.env v=(do
   let ov <-holding [v] (eval o X.env)
   let iv <-holding [v,ov] (eval i X.env)
   standAt pos'
   holding [v,ov,iv] (setItem ov iv v)
   release [v,ov,iv] []):=by intro _;rfl):JS X (.Assign [.Subscript o i pos'] e pos) (wu ge go gi):=by
 refine JS.of (zG aD (G7 aD aD set_list ha) hs hw h1) λρ st σ H m D S R p=>?_
 refine he.go S R (aw.bB R p) λv st1 vv m1 H1 p1 e1 S1 rv=>?_
 refine ho.go S1 (R.mono e1) ((aw.bB (m:=m) (H:=H) R p1).imp e1 λ_ _ q=>q) λo' st2 ov m2 H2 p2 e2 S2 ro=>?_
 refine hi.go S2 (R.mono (e1.trans e2)) ((aw.bB (m:=m) (H:=H) R p2).imp (e1.trans e2) λ_ _ q=>q) λi' st3 iv m3 H3 p3 e3 S3 ri=>?_
 have yd:=e1.trans (e2.trans e3)
 cases o' with
 | ref l=>
  cases i' with
  | int k=>
   have lU:aw X m H (match st3[l]? with | some (.lst ws)=>(match v9 ws.length k with | some j=> .nx ρ (st3.set l (.lst (ws.set j v))) | none=> .bad) | _=> .bad) D:=p3
   have RD:=ag.mono e3 _ _ ro
   unfold ag at RD
   obtain⟨a,rfl,f1⟩:=RD
   cases e:st3[l]? with
   | none=>rw[e] at lU;exact False.elim lU
   | some ob=>
    cases ob with
    | dct kvs=>rw[e] at lU;exact False.elim lU
    | bh kvs=>rw[e] at lU;exact False.elim lU
    | jL kvs=>rw[e] at lU;exact False.elim lU
    | jW ns=>rw[e] at lU;exact False.elim lU
    | lst ws=>
     rw[e] at lU
     cases ej:v9 ws.length k with
     | none=>simp only[ej] at lU;exact False.elim lU
     | some j=>
      simp only[ej] at lU
      obtain⟨xs,g1,g2⟩:=S3.mR f1 e
      refine⟨a,xs,k,j,rfl,aG ri,g1,by rw[<-g2.length];exact ej,?_⟩
      have TM:=ag.mono (e2.trans e3) _ _ rv
      have e4:Ext X.K m3 H3 m3 (upd H3 a (.lst (xs.set j vv))):=Ext.upd (.inr ⟨xs,g1⟩)
      exact lU σ m3 _ (yd.trans e4) (S3.write f1 e (g2.set j TM)) (R.mono (yd.trans e4))
  | _=>exact False.elim p3
 | _=>cases i'<;>exact False.elim p3
open Classical in
def forL(i:Nat)(gb:GS)(l:Nat)(all:List Wv):List Wv->aT->Hs->Rs
 | [],ρ,st=> .nx ρ st
 | w::r,ρ,st=>match gb (ρ.set i (some w)) st with
  | .nx ρ' st'=>if af st' l=some all then forL i gb l all r ρ' st' else .bad
  | .ct ρ' st'=>if af st' l=some all then forL i gb l all r ρ' st' else .bad
  | .bk ρ' st'=> .nx ρ' st'
  | .rt w st'=> .rt w st'
  | .err c ρ' st'=> .err c ρ' st'
  | .bad=> .bad
end
end J
namespace J
open PySem PySem.Spec PyProof.Rows L2
def CXJ(P:WS)(w:WV):zl:=λouter H s E e s'=>∃H' C,rW P w outer H s H' (.ref C) e s'/\E (.ref C) none H'
section
variable {X:Cx} {pins:List (WN×Obj)} {σ:St} {Hc H':Hp} {sc s':WT} {cls e:WU} {E:WU->WT->Prop} {Q:Unit->WT->Prop}
theorem old_ne(I:Inv X pins σ Hc sc){b:WN}{o:Obj}(q:X.s₀.heap.get? b=some o):b≠X.env.locals:=λz=>by
 have h1:=Heap.lt_size q
 have h2:=I.ok.above
 rw[z] at h1
 exact absurd (Nat.lt_of_lt_of_le h1 h2) (Nat.lt_irrefl _)
theorem DY(I:Inv X pins σ Hc sc)(hst:X.stack=X.env::X.outer)(hf:X.env.frame=some X.env.locals){b:WN}{o:Obj}(q:X.s₀.heap.get? b=some o)(hb:b∉frs X.outer):b∉frs X.stack:=λz=>by
 rw[hst] at z
 unfold frs at z
 rw[List.filterMap_cons,hf] at z
 rcases List.mem_cons.mp z with z | z
 ·exact old_ne I q z
 ·exact hb z
theorem AA(hst:X.stack=X.env::X.outer)(hf:X.env.frame=some X.env.locals){b:WN}(hb:b∈frs X.outer):b∈frs X.stack:=by
 rw[hst]
 unfold frs
 rw[List.filterMap_cons,hf]
 exact List.mem_cons_of_mem _ hb
theorem sf{M:Model}{A:WO}{E:WU->WT->Prop}{s:WT}{base:Heap}{env:Env}{outer:List Env}{L e:WN}{cls a0 nt:WU}{Q:Unit->WT->Prop}(hfr:A.frames=some (env::outer))(hf:env.frame=some L)
  (x:base.StaysIn s.heap/\base.get? e=none/\s.heap.FunFrames base (env::outer)/\Nu s.heap base e cls a0 nt)(k:∀h',Ae base (env::outer) e cls a0 L h'->s.heap.UpToSlots h'->Q () { s with heap:=h' }) :
  W8 M A (noteFrame (.ref e) env) Q E s:=by
 obtain⟨x1,x2,x3,x4⟩:=x
 by_cases z:nt=rawInt L
 ·subst z
  exact HJ hf x4 (k s.heap ⟨x1,x2,x3,x4⟩ (Heap.UpToSlots.refl _))
 ·obtain⟨ox,us,T,ot,ws,g1,⟨g2,g3⟩,g4,g5,g6,g7,g8,g9,L6⟩:=x4
  subst g2
  have apart:∀b,b≠T->(s.heap.update T (Obj.mapFields (·.setIfInBounds 3 Value.none))).get? b=s.heap.get? b:=λb hb=>Heap.get?_update_other _ _ (Ne.symm hb)
  have plain:∀b o,s.heap.get? b=some o->(∀vs,o.data≠.fields vs)->b≠T:=λb o hb hd q=>by
   subst q
   rw[g8] at hb
   cases hb
   exact hd ws g9
  unfold noteFrame
  simp only[hf]
  refine W9 (wpAny_field g1 g4 g5 ?_)
  rw[if_pos (show(Value.ref T != Value.none)=true from by simp)]
  refine W9 (wpAny_field g8 g9 L6 ?_)
  rw[if_neg (show ¬((nt == rawInt L)=true) from by simpa using z)]
  refine W9 (wpAny_setField g8 g9 (Array.getElem?_eq_some_iff.mp L6).1 ?_)
  refine Af (a0:=a0) hfr (x3.of_keeps λb o hb hd=>⟨o,(apart b (plain b o hb hd)).trans hb,rfl⟩) hf ((apart e (Ne.symm g7)).trans g1) (λb o hb=>(apart b λq=>by rw[q,g6] at hb;cases hb).trans (x1 b o hb)) x2 g4 (Array.getElem?_eq_some_iff.mp g5).1 g3 λh' y y4=>?_
  exact k h' y λb o hb hd=>y4 b o ((apart b (plain b o hb hd)).trans hb) hd
theorem pD{M:Model}{A:WO}{E:WU->WT->Prop}{s:WT}{base h:Heap}{env:Env}{outer:List Env}{L a:WN}{cls:WU}{args:List WU}{Q:Unit->WT->Prop}(hfr:A.frames=some (env::outer))(hf:env.frame=some L)
  (st:base.StaysIn h)(fs:h.FunFrames base (env::outer))(mk:Heap.MadeExcOf h s.heap a cls args)(k:∀h' a0,Ae base (env::outer) a cls a0 L h'->s.heap.UpToSlots h'->Q () { s with heap:=h' }) :
  W8 M A (noteFrame (.ref a) env) Q E s:=by
 obtain⟨t,e1,e2,e3⟩:=mk.there
 have fresh:∀b,h.get? b=none->base.get? b=none:=λb hb=>by
  cases q:base.get? b with
  | none=>rfl
  | some o'=>have z:=st b o' q;rw[hb] at z;cases z
 have fs':=fs.of_keeps (h':=s.heap) λb o hb _=>⟨o,mk.keeps b o hb,rfl⟩
 unfold noteFrame
 simp only[hf]
 refine W9 (wpAny_field e1 rfl (x:=.none) rfl ?_)
 rw[if_neg (by decide)]
 exact Af hfr fs' hf e1 (λb o hb=>mk.keeps b o (st b o hb)) (fresh a mk.new) rfl (by simp) (a0:=.ref t) rfl λh' l1 l4=>k h' (.ref t) l1 l4
theorem AB{ch:List WN}(hx:X.ex=[])(hst:X.stack=X.env::X.outer)(hf:X.env.frame=some X.env.locals)(I:Inv X pins σ Hc sc){B h2:Heap}(hch:∀b∈ch,eD X pins Hc b)(un:Un (frs X.stack) ch Hc H' sc.heap s'.heap)(up:s'.heap.UpToSlots h2)(stay:B.StaysIn h2)
  (rX:∀b o,sc.heap.get? b=some o->b∉frs X.stack->b∉ch->∃o',B.get? b=some o'/\(Hc b=none->o'=o)) :
  Un (frs X.outer) [] X.H₀ H' X.s₀.heap h2/\(∀b o,X.s₀.heap.get? b=some o->b∉frs X.outer->∃o',B.get? b=some o'/\(X.H₀ b=none->o'=o)):=by
 have nx:∀b:WN,b∉X.ex:=λb=>by rw[hx];simp
 have nc:∀b o,X.s₀.heap.get? b=some o->b∉ch:=λb o q z=>by
  rcases(hch b z).2.2.2.1 with y | y
  ·exact nx b y
  ·exact absurd (Nat.lt_of_lt_of_le (Heap.lt_size q) y) (Nat.lt_irrefl _)
 have Io:∀b o,X.s₀.heap.get? b=some o->b∉frs X.outer->∃o',B.get? b=some o'/\(X.H₀ b=none->o'=o):=λb o q hb=>by
  obtain⟨o1,q1⟩:=I.base.there b o q (nx b)
  obtain⟨o2,q2,q3⟩:=rX b o1 q1 (DY I hst hf q hb) (nc b o q)
  refine⟨o2,q2,λn=>?_⟩
  have q4:=I.base.keep b o q n hb (nx b)
  rw[q4] at q1
  cases q1
  exact q3 (I.base.free b o q n (nx b))
 have sl:∀b o,X.s₀.heap.get? b=some o->X.H₀ b=none->b∈frs X.outer->∃sl,h2.get? b=some { o with slots:=sl }:=λb o q n hb=>by
  obtain⟨s1,q1⟩:=I.base.slot b o q n hb (nx b)
  obtain⟨s2,q2⟩:=un.slot b _ q1 (I.base.free b o q n (nx b)) (AA hst hf hb) (nc b o q)
  obtain⟨_,o3,q3,q4⟩:=I.ok.jr.mem hb
  rw[q] at q3
  cases q3
  obtain⟨s3,q5⟩:=up b _ q2 q4
  exact⟨s3,q5⟩
 refine⟨⟨λb o q n hb _=>?_,λb o q n hb _=>sl b o q n hb,λb o q n _=>?_,λb o q _=>?_,λb xs h=>un.tups b xs (I.base.tups b xs h),λb o u h=>un.f6 b o u (I.base.f6 b o u h),λb ps h=>?_⟩,Io⟩
 ·obtain⟨o2,q2,q3⟩:=Io b o q hb
  rw[q3 n] at q2
  exact stay b o q2
 ·obtain⟨o1,q1⟩:=I.base.there b o q (nx b)
  exact un.free b o1 q1 (I.base.free b o q n (nx b)) (nc b o q)
 ·by_cases hb:b∈frs X.outer
  ·obtain⟨s3,q3⟩:=sl b o q (I.ok.C4 b hb) hb
   exact⟨_,q3⟩
  ·obtain⟨o2,q2,_⟩:=Io b o q hb
   exact⟨o2,stay b o2 q2⟩
 ·obtain⟨m1,t1⟩:=I.base.ir b ps h
  obtain⟨m2,t2⟩:=un.ir b _ t1
  exact⟨m1++m2,by rw[<-Array.append_assoc];exact t2⟩
theorem lD(hx:X.ex=[])(hst:X.stack=X.env::X.outer)(hf:X.env.frame=some X.env.locals)(I:Inv X pins σ Hc sc)(F:iB X pins Hc sc H' cls e s')
  (k:∀s2,rW X.prog X.w X.outer X.H₀ X.s₀ H' cls e s2->Q () s2):W8 (model X.prog X.w) X.A (leaving X.env e) Q E s':=by
 obtain⟨a,a0,nt,B,ch,rfl,os,bare,hch,un,hok,fl,rX⟩:=F
 have hfr:X.A.frames=some (X.env::X.outer):=by rw[I.ok.frames,hst]
 rw[hst] at fl
 unfold leaving
 refine W9 (sf hfr hf fl λh1 hd1 up1=>?_)
 refine rS hd1 λh2 uo L7=>k _ ?_
 obtain⟨k1,k2,⟨_,_,k3⟩,k4⟩:=uo
 obtain⟨u2,c2⟩:=AB hx hst hf I hch un (up1.trans L7) k1 rX
 exact⟨a,a0,B,rfl,os.trans I.os,bare,u2,hok,⟨k1,k2,k3,k4⟩,c2⟩
theorem sh{P:WS}{w:WV}{H:Hp}{h:Heap}{l:List WN}(ok:ic P w H h)(fr:∀b∈l,H b=none):ic P w H (PySem.W.hideAll h l):=λa o q=>
 (ok a o q).stay (λb u hb r=>PySem.W.hideAll_get _ r λz=>by
  have n:=fr b z
  rcases hb with hb | hb
  ·rw[hb,q] at n;cases n
  ·rw[hb] at n;cases n) (λ_ r=>r) λ_ _ r=>r
theorem mV{a C:WN}{args:List WU}(hx:X.ex=[])(hst:X.stack=X.env::X.outer)(hf:X.env.frame=some X.env.locals)(I:Inv X pins σ Hc sc)(ho:s'.os=sc.os)(TN:s'.gens=sc.gens)
  (M:Heap.MadeExcOf sc.heap s'.heap a (.ref C) args)(k:∀s2,rW X.prog X.w X.outer X.H₀ X.s₀ Hc (.ref C) (.ref a) s2->Q () s2):W8 (model X.prog X.w) X.A (leaving X.env (.ref a)) Q E s':=by
 have hfr:X.A.frames=some (X.env::X.outer):=by rw[I.ok.frames,hst]
 have fs:sc.heap.FunFrames (PySem.W.hideAll sc.heap (frs X.stack)) (X.env::X.outer):=by
  rw[<-hst]
  exact PySem.W.funFrames_hide I.stack λenv he b hb=>List.mem_filterMap.mpr ⟨env,he,hb⟩
 unfold leaving
 refine W9 (pD (base:=PySem.W.hideAll sc.heap (frs X.stack)) hfr hf (λb o q=>PySem.W.of_hideAll _ q) fs M λh1 t hd1 up1=>?_)
 refine rS hd1 λh2 uo L7=>k _ ?_
 have up:=up1.trans L7
 replace uo:qo (PySem.W.hideAll sc.heap (frs X.stack)) X.outer a (.ref C) t h2:=let ⟨k1,k2,⟨_,_,k3⟩,k4⟩:=uo;⟨k1,k2,k3,k4⟩
 obtain⟨u2,c2⟩:=AB (H':=Hc) (s':=s') (ch:=[]) hx hst hf I (λb z=>by cases z) (Un.kept M.keeps) up uo.1 λb o q hb _=>⟨o,PySem.W.hideAll_get _ q hb,λ_=>rfl⟩
 exact⟨a,t,_,rfl,ho.trans I.os,by rw[show({ s' with heap:=h2 }:WT).gens=sc.gens from TN];exact I.bare,u2,sh I.hok I.jM,uo,c2⟩
end
def F6(K:PySem.W.Frag)(m:Mp)(H:Hp)(r:Re Wv)(Q:VK)(E:XK):Prop:=match r with
 | .ok w st=>HK K m H Q w st
 | .err c st=>∀(m':Mp)(H':Hp)(C:WN),Ext K m H m' H'->aL K m' st H'->ClsAt K c C->E (.ref C) none H'
 | .bad=>False
def spW(K:PySem.W.Frag)(n:Nat)(F:List Wv->Hs->Re Wv):Sp:=λvs H Q E=>∃m st ws,aL K m st H/\ah K m H ws vs/\ws.length=n/\F6 K m H (F ws st) Q E
def ax(n:Nat)(F:List Wv->Hs->Re Wv)(g:GA):GE:=λρ st=>(g ρ st).bind λws st1=>if ws.length=n then F ws st1 else .bad
section
variable {X:Cx}
theorem DZ{k n:Nat}{f:WN}{fd:WQ}{ps:List Str}{F:List Wv->Hs->Re Wv}{x:Str}{p pos:Pos}{e:Expr}{es:List Expr}{g:GA}
  (G:FnOk X.prog X.w X.K X.mg X.base (CXJ X.prog X.w) k f fd ps (spW X.K n F))(hr:iy k X.A)(hm:X.mg x=some (.ref f))(hk:PySem.W.keepIn X.K (.ref f)=true)(hb:Binds X.K fd ps [])(ha:JA X (e::es) g)(hg:Gl X x:=by rfl)
  (hdb:(x == ("__debug__":Str))=false:=by decide)(he:W7 (e::es) X.env=(false,eval e X.env)::W7 es X.env:=by rfl)(hpl:(backTo pos (W7 es X.env)).any (·.1)=false:=by rfl) :
  JE X (.Call (.Name x p) (e::es) [] pos) (ax n F g):=by
 intro ρ st σ H m Q S R p pins s I
 have args:=ha.go (T:=λvs H1=>∃ws st1 m1,dj X σ m H (if ws.length=n then F ws st1 else .bad) Q/\Ext X.K m H m1 H1/\aL X.K m1 st1 H1/\ah X.K m1 H1 ws vs) S R (aq.bind p)
  λws st1 vs m1 H1 p1 e1 S1 rs=>⟨ws,st1,m1,p1,e1,S1,rs⟩
 refine wpAny_Call_Name_kw (jO I hg hm ?_ hdb)
 refine PySem.W.callWith_K (h₀:=X.base) I.ok.mod.GP hk (aM (args pos pins s I) λus s1 ⟨vs,H1,I1,r,ws,st1,m1,p1,e1,S1,rs⟩=>⟨I1.zj,?_⟩) he hpl
 by_cases c:ws.length=n
 ·rw[if_pos c] at p1
  let E:XK:=λcl _ H2=>∃c' st2 m2 C,cl= .ref C/\ClsAt X.K c' C/\F ws st1= .err c' st2/\Ext X.K m1 H1 m2 H2/\aL X.K m2 st2 H2
  have sp:spW X.K n F vs H1 Q E:=by
   refine⟨m1,st1,ws,S1,rs,c,?_⟩
   cases er:F ws st1 with
   | ok w st2=>rw[er] at p1;exact dj.shift (r:=.ok w st2) p1 e1
   | err c' st2=>exact λm2 H2 C e2 S2 hC=>⟨c',st2,m2,C,rfl,hC,er,e2,S2⟩
   | bad=>rw[er] at p1;exact False.elim p1
  have hl:us.length=ps.length:=by rw[<-r.length];exact G.len _ _ _ _ sp
  have bd:=hb s1 us I1.zj (by rw[List.append_nil];exact hl)
  rw[List.append_nil] at bd
  refine wpAny_call (codeAny_mono (G.run X.A X.stack s1 H1 ⟨us,[]⟩ us vs Q E hr I1.Li bd r sp) λrr s2 hq=>?_)
  cases rr with
  | error x=>
   obtain⟨H2,C,fl,c',st2,m2,C',ec,hC,er,e2,S2⟩:=hq
   cases ec
   rw[er] at p1
   exact p1 m2 H2 x s2 (e1.trans e2) S2 ⟨C,pins,H1,s1,hC,I1,.inl fl.any⟩
  | ok fw=>
   cases fw with
   | ret u=>exact I1.after hq
   | next=>exact False.elim hq
   | brk=>exact False.elim hq
   | cont=>exact False.elim hq
 ·rw[if_neg c] at p1;exact False.elim p1
end
def dO(n:Nat)(g:GS):List Wv->Hs->Re Wv:=λws st=>match g (ws.map some++List.replicate (n - ws.length) none) st with
 | .nx _ st'=> .ok .aF st'
 | .rt w st'=> .ok w st'
 | .err c _ st'=> .err c st'
 | _=> .bad
theorem si{K:PySem.W.Frag}{m:Mp}{H:Hp}{N:List Str}{ws:List Wv}{vs:List V}(r:ah K m H ws vs)(h:ws.length<=N.length):ar K m H (ws.map some++List.replicate (N.length - ws.length) none) (L2.start N vs):=by
 have hl:=r.length
 refine⟨by unfold L2.start;simp[hl],λi w e=>?_⟩
 by_cases hi:i < ws.length
 ·rw[List.getElem?_append_left (by simpa using hi),List.getElem?_map] at e
  cases q:ws[i]? with
  | none=>rw[q] at e;cases e
  | some w'=>
   rw[q] at e
   cases e
   obtain⟨x,h1,h2⟩:=r.get q
   refine⟨x,?_,h2⟩
   unfold L2.start
   rw[List.getElem?_append_left (by simp;omega),List.getElem?_map,h1]
   rfl
 ·rw[List.getElem?_append_right (by simpa using hi),List.getElem?_replicate] at e
  split at e<;>cases e
section
variable {P:WS} {w:WV} {K:PySem.W.Frag} {mg:Str->Option WU} {base:Heap}
theorem uT{N:List Str}{qual:Str}{scope:Scope}{f:WN}{cdv:WU}{A:WO}{outer:List Env}{s s':WT}{H H':Hp}{E:XK}{σ:St}{c:PySem.Str}{e:WU}
  (r:qr (mI (CXJ P w) P w K mg base N qual scope f cdv A outer s H E) σ H' c e s')(h:∀C,ClsAt K c C->E (.ref C) none H'):(mI (CXJ P w) P w K mg base N qual scope f cdv A outer s H E).xe e s':=by
 obtain⟨C,pins,Hc,sc,hC,I,r⟩:=r
 rcases r with fl | ⟨rfl,a,args,rfl,ho,hg,M⟩
 ·exact lD (X:=mI (CXJ P w) P w K mg base N qual scope f cdv A outer s H E) rfl rfl rfl I fl λs2 uo=>⟨H',C,uo,h C hC⟩
 ·exact mV (X:=mI (CXJ P w) P w K mg base N qual scope f cdv A outer s H E) rfl rfl rfl I ho hg M λs2 uo=>⟨H',C,uo,h C hC⟩
def AD(K:PySem.W.Frag)(f:WN)(cdv:WU):Prop:=∃o,K.lookup f=some o/\∃fd,o.data= .func fd/\fd.code=cdv
theorem F7{x qual:Str}{st:Stmt}{f:WN}{fd:WQ}{N ps:List Str}{k:Nat}{g:GS}(F:FO K x qual st f fd)(S:FnScope N ps (defScope st))
  (body:∀(cdv:WU),AD K f cdv->∀(A:WO)(outer:List Env)(s:WT)(H:Hp)(E:XK),iy k (A.deeper (envOfC qual (defScope st) s.heap.objs.size f cdv))->jl (mI (CXJ P w) P w K mg base N qual (defScope st) f cdv A outer s H E) (defBody st) g) :
  FnOk P w K mg base (CXJ P w) (k+1) f fd ps (spW K ps.length (dO N.length g)):=by
 have hpl:ps.length<=N.length:=by have:=congrArg List.length S.pre;rw[List.length_take] at this;omega
 obtain⟨oc,od,kV,doc,pm,an,cdv,ct,osl,rfl,lk,hcd⟩:=F.ex
 refine Lk lk hcd S (λvs H Q E h=>?_) λA outer s H vs Q E hr h=>?_
 ·obtain⟨m,st',ws,_,r,hl,_⟩:=h
  rw[<-r.length];exact hl
 ·obtain⟨m,st',ws,S',r,hl,p⟩:=h
  refine⟨_,cK,?_⟩
  refine body cdv ⟨_,lk,_,rfl,rfl⟩ A outer s H E hr _ st' _ H m _ S' (si r (by omega)) ?_
  unfold dO at p
  cases e:g (ws.map some++List.replicate (N.length - ws.length) none) st' with
  | nx ρ st2=>rw[e] at p;exact λσ m' H' e' S2 R2=>p _ m' H' e' S2 (by unfold ag;rfl)
  | rt w' st2=>rw[e] at p;exact p
  | bk ρ st2=>rw[e] at p;exact False.elim p
  | ct ρ st2=>rw[e] at p;exact False.elim p
  | err c ρ st2=>rw[e] at p;exact λσ m' H' x s' e' S2 R2 rz=>uT rz λC hC=>p m' H' C e' S2 hC
  | bad=>rw[e] at p;exact False.elim p
end
def OnlyT(H:Hp):Prop:=∀b,H b=none\/(∃o xs,H b=some (.bU o (.lst xs)))\/H b=some (.cJ #[])
theorem OnlyT.of{H:Hp}(h:DE H):OnlyT H:=λb=>by
 rcases h b with q | q
 ·exact .inl q
 ·exact .inr (.inl q)
theorem law_sp{K:PySem.W.Frag}{F:List Wv->Hs->Re Wv}(h:∀ns:List Int,ns.length<=63->∃st,F [.ref 0] [.jW ns]= .ok (.bl true) st)(H:Hp)(a:WN)(ns:List Int)(hl:ns.length<=63)(hO:OnlyT H)(hS:ij K H a (ns.map V.int))(hT:qp K H) :
  spW K 1 F [.ref a] H (λv _=>v= .bl true) λ_ _ _=>False:=by
 obtain⟨st,e⟩:=h ns hl
 refine⟨[a],[.jW ns],[.ref 0],⟨rfl,λl b o h1 h2=>?_,λl l' b ws V6 _ _ h2 _ k _=>?_,hT⟩,ah.cons (by unfold ag;exact⟨a,rfl,rfl⟩) ah.nil,rfl,?_⟩
 ·cases l with
  | zero=>
   simp at h1 h2
   subst h1 h2
   show rV K H a ns
   rcases hS with (q | ⟨o',q⟩) | q
   ·rcases hO a with z | ⟨o',xs,z⟩ | z
    ·rw[z] at q;cases q
    ·rw[z] at q;cases q
    ·rw[z] at q;cases q
   ·exact .inl ⟨o',q⟩
   ·exact .inr q
  | succ l=>simp at h1
 ·cases l with
  | zero=>simp at h2;subst h2;simp[Ob.mu] at k
  | succ l=>simp at h2
 ·rw[e]
  intro v m' H' _ _ r
  unfold ag at r
  exact r
end J
namespace J
open PySem PySem.Spec PyProof.Rows L2
def AE(w:Wv)(st:Hs):Re Bool:=match w with
 | .aF=> .ok false st
 | .bl b=> .ok b st
 | .int i=> .ok (i != 0) st
 | .str y=>if y.length<=lim then .ok ((y.length:Int) != 0) st else .bad
 | .tup ws=> .ok (!ws.isEmpty) st
 | .mQ _=> .bad
 | .ref l=>match af st l with
  | some ws=> .ok (!ws.isEmpty) st
  | none=> .bad
 | .ty _=> .bad
 | .cls _=> .bad
 | .fA _=> .bad
 | .fn _ _=> .bad
def b9(g:GE):GT:=λρ st=>(g ρ st).bind AE
section
variable {X:Cx}
theorem rp{m:Mp}{H:Hp}{ws:List Wv}{xs:List V}(r:ah X.K m H ws xs):(!ws.isEmpty)= !xs.isEmpty:=by
 have h:=r.length
 cases ws<;>cases xs<;>simp_all
theorem mW{e:Expr}{g:GE}(h:JE X e g)(he:∀whole,isTrue e X.env whole=(do let v <-whole;standAt e.pos;holding [v] (truthy v))):JT X e (b9 g) :=
 JT.of (zM aD he) λρ st σ H m Q S R p=>h.go S R (aq.bind p) λw st1 v m1 H1 p1 e1 S1 r1=>by
  cases w with
  | aF=>unfold ag at r1;subst r1;exact⟨false,rfl,p1 m1 H1 e1 S1⟩
  | bl b=>unfold ag at r1;subst r1;exact⟨b,rfl,p1 m1 H1 e1 S1⟩
  | int i=>unfold ag at r1;subst r1;exact⟨_,rfl,p1 m1 H1 e1 S1⟩
  | str y=>
   obtain⟨rfl,_⟩:=dq r1
   have p2:f_ X σ m H (if y.length<=lim then .ok ((y.length:Int) != 0) st1 else .bad) Q:=p1
   by_cases c:y.length<=lim
   ·rw[if_pos c] at p2;exact⟨_,⟨cP c,rfl⟩,p2 m1 H1 e1 S1⟩
   ·rw[if_neg c] at p2;exact False.elim p2
  | mQ ws=>exact False.elim p1
  | tup ws=>
   unfold ag at r1
   obtain⟨a,xs,rfl,h1,h2⟩:=r1
   refine⟨!xs.isEmpty,.inr (.inl ⟨xs,dU.of h1,rfl⟩),?_⟩
   rw[<-rp h2]
   exact p1 m1 H1 e1 S1
  | ref l=>
   unfold ag at r1
   obtain⟨a,rfl,h1⟩:=r1
   have p2:f_ X σ m H (match af st1 l with | some ws=> .ok (!ws.isEmpty) st1 | none=> .bad) Q:=p1
   cases el:af st1 l with
   | none=>rw[el] at p2;exact False.elim p2
   | some ws=>
    rw[el] at p2
    obtain⟨xs,hq,h2⟩:=S1.read h1 el
    refine⟨!xs.isEmpty,.inl ⟨xs,hq,rfl⟩,?_⟩
    rw[<-rp h2]
    exact p2 m1 H1 e1 S1
  | ty T=>exact False.elim p1
  | cls T=>exact False.elim p1
  | fA T=>exact False.elim p1
  | fn fp T=>exact False.elim p1
theorem sj{p:Nat->Bool}{x:Array Nat}(hx:x.all p=true):∀(n:Nat)(a:Array Nat),a.all p=true->((List.replicate n x).foldl (· ++·) a).all p=true
 | 0,a,h=>h
 | n+1,a,h=>by
  rw[List.replicate_succ,List.foldl_cons]
  refine sj hx n _ ?_
  rw[Array.all_append,h,hx]
  rfl
theorem yh{x:PySem.Str}{n:Nat}(h:PyData.strOk x=true):PyData.strOk (r6 n x)=true:=by
 unfold PyData.strOk at h ⊢
 unfold r6
 exact sj h n #[] (by simp)
theorem pE{x:Array Nat}:∀(n:Nat)(a:Array Nat),((List.replicate n x).foldl (· ++·) a).size=a.size+x.size * n
 | 0,a=>by simp
 | n+1,a=>by
  rw[List.replicate_succ,List.foldl_cons,pE n,Array.size_append,Nat.mul_succ]
  omega
theorem AF{x:PySem.Str}{n:Nat}:(r6 n x).length=x.length * n:=by
 show((List.replicate n x.cps).foldl (· ++·) #[]).size=x.cps.size * n
 rw[pE]
 simp
def pF(x:PySem.Str)(n:Int):Prop:=1 < n/\n<=100000/\x.length≠0/\x.length * n.toNat<=lim
instance {x n}:Decidable (pF x n):=by unfold pF;infer_instance
theorem D0:dm X (WX .Mult) (λx y H Q=>∃z n,x= .str z/\y= .int n/\pF z n/\Q (.str (r6 n.toNat z)) H):=by
 intro pins s σ H x y v u Q I rx ry h
 obtain⟨z,n,rfl,rfl,⟨h1,h2,h3,h4⟩,q⟩:=h
 obtain⟨t,rfl⟩:=rx
 obtain⟨t',rfl⟩:=ry
 have n1:¬n < 1:=by omega
 have hlen:z.length<=lim:=by
  refine Nat.le_trans ?_ h4
  exact Nat.le_mul_of_pos_right _ (by omega)
 have hne:(n == 1||z.length == 0)=false:=by
  have e1:(n == 1)=false:=by rw[beq_eq_false_iff_ne];omega
  have e2:(z.length == 0)=false:=by rw[beq_eq_false_iff_ne];exact h3
  rw[e1,e2];rfl
 have hl:PySem.Builtin.Str.tooLong (z.length * n.toNat)=false:=by
  unfold PySem.Builtin.Str.tooLong
  have q:=cP h4
  first
   | exact decide_eq_false (by omega)
   | simp only[decide_eq_false_iff_not];omega
 refine PySem.P.mul_str (by
   have e1:¬n < -(2 ^ 63:Int):=by omega
   have e2:¬n >= 2 ^ 63:=by omega
   rw[decide_eq_false e1,decide_eq_false e2];rfl) (λ_ _=>?_) (λ_ _=>hl) ?_
 ·have e:((2:Int) ^ 63 - 1) / 100000<=(2 ^ 63 - 1) / n:=by
   refine Int.le_ediv_of_mul_le (by omega) ?_
   have:((2:Int) ^ 63 - 1) / 100000 * n<=((2:Int) ^ 63 - 1) / 100000 * 100000:=Int.mul_le_mul_of_nonneg_left h2 (by decide)
   exact Int.le_trans this (by decide)
  have e':(1000000:Int)<=(2 ^ 63 - 1) / 100000:=by decide
  unfold lim at hlen
  omega
 ·rw[if_neg n1,if_neg (by rw[hne];exact Bool.false_ne_true)]
  exact⟨by show(r6 n.toNat z).length<=_;rw[AF];exact cP h4,.str (r6 n.toNat z),H,I.tok _,⟨_,rfl⟩,q⟩
def F8:eE
 | .int i,.int j,st=>if IntMulOk i j then .ok (.int (i * j)) st else .bad
 | .str z,.int n,st=>if pF z n then .ok (.str (r6 n.toNat z)) st else .bad
 | _,_,_=> .bad
theorem D3:iT X (WX .Mult) F8:=⟨_,dm.or DK D0,λx y a b st H m Q S rx ry p=>by
 cases x with
 | int i=>
  cases y with
  | int j=>
   cases aG rx;cases aG ry
   have p':bP X.K m H (if IntMulOk i j then .ok (.int (i * j)) st else .bad) Q:=p
   by_cases c:IntMulOk i j
   ·rw[if_pos c] at p';exact .inl ⟨i,j,rfl,rfl,c,p' _ m H Ext.refl S mkInt⟩
   ·rw[if_neg c] at p';exact False.elim p'
  | _=>exact False.elim p
 | str z=>
  cases y with
  | int n=>
   obtain⟨rfl,hz⟩:=dq rx
   cases aG ry
   have p':bP X.K m H (if pF z n then .ok (.str (r6 n.toNat z)) st else .bad) Q:=p
   by_cases c:pF z n
   ·rw[if_pos c] at p';exact .inr ⟨z,n,rfl,rfl,c,p' _ m H Ext.refl S (mkStr (yh hz))⟩
   ·rw[if_neg c] at p';exact False.elim p'
  | _=>exact False.elim p
 | _=>exact False.elim p⟩
def bf:GE:=λ_ _=> .bad
def iE:GT:=λ_ _=> .bad
theorem ay{e:Expr}:JE X e bf:=λρ st σ H m Q S R p=>False.elim p
theorem iF{e:Expr}:JT X e iE:=λρ st σ H m Q S R p=>False.elim p
end
def fB(P:WS)(w:WV)(K:PySem.W.Frag)(mg:Str->Option WU)(base:Heap)(k:Nat)(x:Str)(n:Nat)(F:List Wv->Hs->Re Wv):Prop :=
 ∃f fd ps,FnOk P w K mg base (CXJ P w) k f fd ps (spW K n F)/\mg x=some (.ref f)/\PySem.W.keepIn K (.ref f)=true/\Binds K fd ps []
theorem fB.mono{P:WS}{w:WV}{K:PySem.W.Frag}{mg:Str->Option WU}{base:Heap}{j k:Nat}{x:Str}{n:Nat}{F:List Wv->Hs->Re Wv}(h:fB P w K mg base j x n F)(l:j<=k):fB P w K mg base k x n F:=by
 obtain⟨f,fd,ps,G,r⟩:=h
 exact⟨f,fd,ps,G.mono l,r⟩
def bo(K:PySem.W.Frag)(x:Str)(st:Stmt):Prop:=∃f fd,PySem.W.nsIn K W5 x=some (some (.ref f))/\FO K x x st f fd
theorem aU{K:PySem.W.Frag}{x:Str}{st:Stmt}{f:WN}{oc:WU}{od an:Option WN}{osl:Array (Option WU)}{kV doc pm cdv ct:WU}(a:PySem.W.nsIn K W5 x=some (some (.ref f)))
  (l:K.lookup f=some ⟨oc,od,.func (PySem.W.fnOf x x (defArgs st) (defBody st) (defScope st) .none kV doc pm an cdv ct),osl⟩)(c:PySem.W.codeIn K cdv x=true)(k:PySem.W.keepIn K (.ref f)=true):bo K x st:=⟨f,_,a,HC l c k⟩
theorem AG:WY "isinstance"=some (.builtin "isinstance"):=by decide+kernel
theorem yi:WY "len"=some (.builtin "len"):=by decide+kernel
theorem AH:WY "int"=some (.type "int"):=by decide+kernel
theorem AI:WY "str"=some (.type "str"):=by decide+kernel
theorem AJ:WY "bool"=some (.type "bool"):=by decide+kernel
theorem AK:WY "tuple"=some (.type "tuple"):=by decide+kernel
theorem AL:WY "list"=some (.type "list"):=by decide+kernel
end J
namespace J
open PySem PySem.Spec PyProof.Rows L2
def eZ(i:Nat)(gb:GS):List Wv->aT->Hs->Rs
 | [],ρ,st=> .nx ρ st
 | w::r,ρ,st=>match gb (ρ.set i (some w)) st with
  | .nx ρ' st'=>eZ i gb r ρ' st'
  | .ct ρ' st'=>eZ i gb r ρ' st'
  | .bk ρ' st'=> .nx ρ' st'
  | .rt w st'=> .rt w st'
  | .err c ρ' st'=> .err c ρ' st'
  | .bad=> .bad
section
variable {X:Cx}
theorem iG(i:Nat){body:List Stmt}{gb:GS}(hb:jl X body gb){J':It}{ws:List Wv}{m1:Mp}{H1:Hp}{st1:Hs}{ρ:aT}{σ:St}{D:Ends}(S1:aL X.K m1 st1 H1)(R:ar X.K m1 H1 ρ σ)(p1:aw X m1 H1 (eZ i gb ws ρ st1) D)
  (hgo:∀(k:Nat)(H:Hp)(m':Mp),Ext X.K m1 H1 m' H->k < ws.length->J'.go k H)(hstop:∀(k:Nat)(H:Hp)(m':Mp),Ext X.K m1 H1 m' H->k=ws.length->J'.stop k H)
  (hy:∀(k:Nat)(hk:k < ws.length)(H:Hp)(x:V)(H':Hp)(m':Mp),Ext X.K m1 H1 m' H->J'.rK k H x H'->H'=H/\ag X.K m' H ws[k] x) :
  ∃W:Nat->Nat->St->Hp->Prop,(∃m,W 0 m σ H1)/\∀k n σ H,W k n σ H->
   (J'.stop k H/\D.nx σ H)\/(J'.go k H/\∃N:St->Hp->Prop,(∀σ' H',N σ' H'->∃m',m' < n/\W (k+1) m' σ' H')/\∀x H',J'.rK k H x H'->rJ i x σ H' λσ2 H2=>LC X body { D with nx:=N,ct:=N,bk:=D.nx } σ2 H2):=by
 let Pv:Nat->St->Hp->Prop:=λk σ H=>∃ρ st m',Ext X.K m1 H1 m' H/\aL X.K m' st H/\ar X.K m' H ρ σ/\aw X m' H (eZ i gb (ws.drop k) ρ st) D
 refine⟨λk n σ H=>n=ws.length - k/\k<=ws.length/\Pv k σ H,⟨ws.length,by simp,Nat.zero_le _,ρ,st1,m1,Ext.refl,S1,R,p1⟩,?_⟩
 rintro k n σ2 H2 ⟨rfl,hk,ρ2,st2,m2,e2,S2,R2,p2⟩
 by_cases hlt:k < ws.length
 ·refine .inr ⟨hgo k H2 m2 e2 hlt,Pv (k+1),λσ' H' p'=>⟨ws.length - (k+1),by omega,rfl,hlt,p'⟩,λx H' y=>?_⟩
  obtain⟨ee,kK⟩:=hy k hlt H2 x H' m2 e2 y
  subst ee
  have ed:ws.drop k=ws[k]::ws.drop (k+1):=List.drop_eq_getElem_cons hlt
  rw[ed] at p2
  refine hb _ st2 _ _ m2 _ S2 (R2.set i kK) ?_
  unfold eZ at p2
  cases eg:gb (ρ2.set i (some ws[k])) st2 with
  | nx ρ3 st3=>rw[eg] at p2;exact λσ3 m3 H3 e3 S3 R3=>⟨ρ3,st3,m3,e2.trans e3,S3,R3,aw.shift p2 e3⟩
  | ct ρ3 st3=>rw[eg] at p2;exact λσ3 m3 H3 e3 S3 R3=>⟨ρ3,st3,m3,e2.trans e3,S3,R3,aw.shift p2 e3⟩
  | bk ρ3 st3=>rw[eg] at p2;exact p2
  | rt w3 st3=>rw[eg] at p2;exact p2
  | err c3 ρ3 st3=>rw[eg] at p2;exact p2
  | bad=>rw[eg] at p2;exact p2
 ·have e:k=ws.length:=by omega
  subst e
  rw[List.drop_length] at p2
  exact .inl ⟨hstop _ H2 m2 e2 rfl,p2 σ2 m2 H2 Ext.refl S2 R2⟩
def O4(K:PySem.W.Frag)(tl:TE):TI:=λσ H R=>tl σ H λx H1=>∃a,x= .ref a/\(((∃xs,ij K H1 a xs)/\R (OB K a) H1)\/((∃xs,dU K H1 a xs)/\R (Rr K a) H1))
theorem AM{tg l:Expr}{tl:TE}(hl:PE X l tl):PI X tg l (O4 X.K tl):=by
 intro pins s σ H R I h
 refine aM (hl pins s σ H _ I h) λv s1 ⟨x,H1,I1,r1,q1⟩=>?_
 obtain⟨a,e,q1⟩:=q1
 subst e
 cases r1
 have frs:∀b∈[s1.heap.objs.size],eD X pins H1 b:=λb hb=>by
  have e:b=s1.heap.objs.size:=by simpa using hb
  subst e
  exact I1.rL (Nat.le_refl _) (I1.hok.fresh (Nat.le_refl _))
 rcases q1 with ⟨⟨xs,hq⟩,q⟩ | ⟨⟨xs,hq⟩,q⟩
 ·obtain⟨its,rv,p,hz⟩:=I1.list hq
  refine wpAny_pyIter_list p.isList ?_
  exact⟨s1.heap.objs.size,[s1.heap.objs.size],_,_,H1,rfl,I1.kept (t':=s1.toks) λb o e=>Heap.get?_push_of_some _ e,oZ a _,⟨_,Heap.get?_push_size _ rfl,rfl,rfl⟩,frs,q⟩
 ·obtain⟨its,rv,p,hz⟩:=I1.tuple hq
  refine wpAny_pyIter_tuple (show s1.heap.IsTuple a its.toArray from p) ?_
  exact⟨s1.heap.objs.size,[s1.heap.objs.size],_,_,H1,rfl,I1.kept (t':=s1.toks) λb o e=>Heap.get?_push_of_some _ e,uw a _,⟨_,Heap.get?_push_size _ rfl,rfl,rfl⟩,frs,q⟩
def uU(i:Nat)(gi:GE)(gb:GS):GS:=λρ st=>(gi ρ st).aM ρ λw st1=>match w with
 | .ref l=>(match af st1 l with | some ws=>forL i gb l ws ws ρ st1 | none=> .bad)
 | .tup ws=>eZ i gb ws ρ st1
 | .mQ ws=>eZ i gb ws ρ st1
 | _=> .bad
theorem AN(i:Nat){x:Str}{iter:Expr}{body:List Stmt}{gi:GE}{gb:GS}{pos pos':Pos}(hN:X.N.Nodup)(hp:PassesOwn (model X.prog X.w) X.A X.env X.xe)(hc:X.calm=true)(hi:JE X iter gi)(hb:jl X body gb)
  (hx:X.N[i]? =some x)(hlo:Loc X.env.scope x)(L8:X.fn x=true\/X.env.scope.names.lookup x=some .local)
  (hs:∀x,W3 iter X.env x=pure x):JS X (.For (.Name x pos') iter body [] pos) (uU i gi gb):=by
 refine JS.of (kH hp hc (AM aD) (jP hN hx hlo L8) cK hs) λρ st σ H m D S R p=>?_
 refine hi.go S R (aw.bB R p) λw st1 v m1 H1 p1 e1 S1 rw'=>?_
 cases w with
 | ref l=>
  have p1':aw X m H (match af st1 l with | some ws=>forL i gb l ws ws ρ st1 | none=> .bad) D:=p1
  unfold ag at rw'
  obtain⟨a,rfl,hla⟩:=rw'
  cases el:af st1 l with
  | none=>rw[el] at p1';exact False.elim p1'
  | some ws=>
   rw[el] at p1'
   obtain⟨D4,q0,_⟩:=S1.read hla el
   refine⟨a,rfl,.inl ⟨⟨D4,q0⟩,?_⟩⟩
   let Pv:Nat->St->Hp->Prop:=λk σ H=>∃ρ st m',Ext X.K m1 H1 m' H/\aL X.K m' st H/\ar X.K m' H ρ σ/\af st l=some ws/\aw X m' H (forL i gb l ws (ws.drop k) ρ st) D
   refine⟨λk n σ H=>n=ws.length - k/\k<=ws.length/\Pv k σ H,⟨ws.length,by simp,Nat.zero_le _,ρ,st1,m1,Ext.refl,S1,R.mono e1,el,aw.shift p1' e1⟩,?_⟩
   rintro k n σ2 H2 ⟨rfl,hk,ρ2,st2,m2,e2,S2,R2,l2,p2⟩
   obtain⟨xs,hq,rws⟩:=S2.read (e2.pre _ _ hla) l2
   have hlen:=rws.length
   by_cases hlt:k < ws.length
   ·have hx':k < xs.length:=by omega
    refine .inr ⟨⟨xs,xs[k],hq,by simp[hx']⟩,Pv (k+1),λσ' H' p'=>⟨ws.length - (k+1),by omega,rfl,hlt,p'⟩,λx H' y=>?_⟩
    obtain⟨ee,y⟩:=y
    subst ee
    have ey:=y xs hq
    have ed:ws.drop k=ws[k]::ws.drop (k+1):=List.drop_eq_getElem_cons hlt
    obtain⟨x',ex',kK⟩:=rws.get (i:=k) (w:=ws[k]) (List.getElem?_eq_getElem hlt)
    rw[ey] at ex'
    cases ex'
    rw[ed] at p2
    refine hb _ st2 _ _ m2 _ S2 (R2.set i kK) ?_
    unfold forL at p2
    cases eg:gb (ρ2.set i (some ws[k])) st2 with
    | nx ρ3 st3=>
     rw[eg] at p2
     by_cases c:af st3 l=some ws
     ·simp only[if_pos c] at p2
      exact λσ3 m3 H3 e3 S3 R3=>⟨ρ3,st3,m3,e2.trans e3,S3,R3,c,aw.shift p2 e3⟩
     ·simp only[if_neg c] at p2;exact False.elim p2
    | ct ρ3 st3=>
     rw[eg] at p2
     by_cases c:af st3 l=some ws
     ·simp only[if_pos c] at p2
      exact λσ3 m3 H3 e3 S3 R3=>⟨ρ3,st3,m3,e2.trans e3,S3,R3,c,aw.shift p2 e3⟩
     ·simp only[if_neg c] at p2;exact False.elim p2
    | bk ρ3 st3=>rw[eg] at p2;exact p2
    | rt w3 st3=>rw[eg] at p2;exact p2
    | err c3 ρ3 st3=>rw[eg] at p2;exact p2
    | bad=>rw[eg] at p2;exact p2
   ·have e:k=ws.length:=by omega
    subst e
    rw[List.drop_length] at p2
    exact .inl ⟨⟨xs,hq,by omega⟩,p2 σ2 m2 H2 Ext.refl S2 R2⟩
 | tup ws=>
  unfold ag at rw'
  obtain⟨a,xs,rfl,hq,rws⟩:=rw'
  have hlen:=rws.length
  refine⟨a,rfl,.inr ⟨⟨xs,dU.of hq⟩,?_⟩⟩
  refine iG i hb (ws:=ws) S1 (R.mono e1) (aw.shift p1 e1) (λk H m' e hk=>?_) (λk H m' e hk=>?_) λk hk H x H' m' e y=>?_
  ·have hx':k < xs.length:=by omega
   exact⟨xs,xs[k],dU.of (e.tup _ _ hq),by simp[hx']⟩
  ·exact⟨xs,dU.of (e.tup _ _ hq),by omega⟩
  ·obtain⟨ee,y⟩:=y
   refine⟨ee,?_⟩
   obtain⟨x',ex',kK⟩:=(ah.mono e _ _ rws).get (i:=k) (w:=ws[k]) (List.getElem?_eq_getElem hk)
   rw[y xs (dU.of (e.tup _ _ hq))] at ex'
   cases ex'
   exact kK
 | mQ ws=>
  unfold ag at rw'
  obtain⟨a,xs,rfl,hq,rws⟩:=rw'
  have hlen:=rws.length
  refine⟨a,rfl,.inr ⟨⟨xs,.inr hq⟩,?_⟩⟩
  refine iG i hb (ws:=ws) S1 (R.mono e1) (aw.shift p1 e1) (λk H m' e hk=>?_) (λk H m' e hk=>?_) λk hk H x H' m' e y=>?_
  ·have hx':k < xs.length:=by omega
   exact⟨xs,xs[k],.inr hq,by simp[hx']⟩
  ·exact⟨xs,.inr hq,by omega⟩
  ·obtain⟨ee,y⟩:=y
   refine⟨ee,?_⟩
   obtain⟨x',ex',kK⟩:=(ah.mono e _ _ rws).get (i:=k) (w:=ws[k]) (List.getElem?_eq_getElem hk)
   rw[y xs (.inr hq)] at ex'
   cases ex'
   exact kK
 | _=>exact False.elim p1
def bS(lo:Int)(n:Nat):List Wv:=(List.range n).map λk:Nat=>Wv.int (lo+k)
theorem pG{lo:Int}{n k:Nat}(h:k < n):(bS lo n)[k]? =some (.int (lo+k)):=by
 unfold bS
 rw[List.getElem?_map,List.getElem?_range h]
 rfl
theorem sk{lo:Int}{n k:Nat}(h:k < (bS lo n).length):(bS lo n)[k]= .int (lo+k):=by
 have q:=pG (lo:=lo) (n:=n) (k:=k) (by unfold bS at h;simpa using h)
 rw[List.getElem?_eq_getElem h] at q
 exact Option.some.inj q
theorem dQ{lo:Int}{n:Nat}:(bS lo n).length=n:=by unfold bS;simp
def je(i:Int):Prop:=-(2 ^ 62)<=i/\i < 2 ^ 62
instance {i}:Decidable (je i):=Classical.propDecidable _
def kL(i:Nat)(ga:GA)(gb:GS):GS:=λρ st=>(ga ρ st).aM ρ λws st1=>match ws with
 | [.int j]=>if je j then eZ i gb (bS 0 j.toNat) ρ st1 else .bad
 | _=> .bad
theorem D5(i:Nat){body:List Stmt}{gb:GS}(hb:jl X body gb){lo:Int}{n:Nat}{m1:Mp}{H1:Hp}{st1:Hs}{ρ:aT}{σ:St}{D:Ends}(S1:aL X.K m1 st1 H1)(R:ar X.K m1 H1 ρ σ)(p1:aw X m1 H1 (eZ i gb (bS lo n) ρ st1) D) :
  ∃W:Nat->Nat->St->Hp->Prop,(∃m,W 0 m σ H1)/\∀k n' σ H,W k n' σ H->
   ((Dh lo n).stop k H/\D.nx σ H)\/((Dh lo n).go k H/\∃N:St->Hp->Prop,(∀σ' H',N σ' H'->∃m',m' < n'/\W (k+1) m' σ' H')/\∀x H',(Dh lo n).rK k H x H'->rJ i x σ H' λσ2 H2=>LC X body { D with nx:=N,ct:=N,bk:=D.nx } σ2 H2) :=
 iG i hb S1 R p1 (λk H m' e hk=>by rw[dQ] at hk;exact hk) (λk H m' e hk=>by rw[dQ] at hk;exact Nat.le_of_eq hk.symm) λk hk H x H' m' e y=>by
  obtain⟨y1,y2⟩:=y
  refine⟨y1,?_⟩
  rw[sk,y2]
  exact mkInt
theorem AO(i:Nat){x:Str}{a:Expr}{body:List Stmt}{ga:GA}{gb:GS}{pos pos' p q:Pos}(hN:X.N.Nodup)(hp:PassesOwn (model X.prog X.w) X.A X.env X.xe)(hc:X.calm=true)(hg:Gl X "range")(hm:X.mg "range"=none)(ha:JA X [a] ga)(hb:jl X body gb)
  (hx:X.N[i]? =some x)(hlo:Loc X.env.scope x)(L8:X.fn x=true\/X.env.scope.names.lookup x=some .local)(hst:W7 [a] X.env=[(false,eval a X.env)]):JS X (.For (.Name x pos') (.Call (.Name "range" p) [a] [] q) body [] pos) (kL i ga gb):=by
 refine JS.of (kH hp hc (o_ hg hm jk hst) (jP hN hx hlo L8) cK (λ_=>rfl)) λρ st σ H m D S R p=>?_
 refine ha.go S R (aw.bB R p) λws st1 vs m1 H1 p1 e1 S1 rs=>?_
 match ws,rs,p1 with
 | [],rs,p1=>exact False.elim p1
 | x::y::t,rs,p1=>cases x<;>exact False.elim p1
 | [x],rs,p1=>
  obtain⟨v,rfl,r1⟩:=jd rs
  cases x with
  | int j=>
   cases aG r1
   have p2:aw X m H (if je j then eZ i gb (bS 0 j.toNat) ρ st1 else .bad) D:=p1
   by_cases c:je j
   ·rw[if_pos c] at p2
    exact⟨j,rfl,c.1,c.2,D5 i hb S1 (R.mono e1) (aw.shift p2 e1)⟩
   ·rw[if_neg c] at p2;exact False.elim p2
  | _=>exact False.elim p1
theorem D6{pos:Pos}:JS X (.Return none pos) (bA (gC .aF)):=JS.of Df λρ st σ H m D S R p=>p .aF m H Ext.refl S pB
end
end J
namespace J
open PySem PySem.Spec PyProof.Rows L2
abbrev yj:List WU:=[.type "ValueError",.type "Exception",.type "BaseException",.type "object"]
abbrev yk:String:="ValueError.__new__"
structure D7(K:PySem.W.Frag)(c:PySem.Str)(C:WN):Prop where
 cls:ClsAt K c C
 exc:PySem.W.excIn K C yj yk=true
theorem gI{K:PySem.W.Frag}{h:Heap}{C:WN}(KX:K.In h)(q:PySem.W.excIn K C yj yk=true) :
  ∃(bm:List WU)(N:WN)(nm qn:Str)(bs:List WU)(hd:Bool)(sn:List Str)(sub:List WU)(ab:Bool)(col:Option Bool)(dd:Option WN)(k0 k1 k2 k3 k5:Option WU)(mN:Str->Option WU),
   h.get? C=some (excClassObj nm qn C N bs bm hd sn sub ab col dd k0 k1 k2 k3 k5 yk)/\h.Ns N mN/\mN "__init__"=none/\OwnTail h yj bm/\(∀v r,PySem.W.mroIn K C v=some r->(Value.ref C::bm).contains v=r):=by
 unfold PySem.W.excIn at q
 split at q
 ·rename_i dd cd sl lk
  split at q
  ·rename_i C1 bm k0 k1 k2 k3 n1 k5 em es
   simp only[Bool.and_eq_true,beq_iff_eq,Bool.not_eq_true'] at q
   obtain⟨⟨⟨⟨⟨q1,q2⟩,q3⟩,q4⟩,q5⟩,q6⟩:=q
   subst q1 q2
   obtain⟨nm,bs,mro,N,qn,hd,sn,sub,ab,col,del⟩:=cd
   dsimp only at em q3 q5 q6
   subst em q3
   have TQ:sl=#[k0,k1,k2,k3,some (.builtin yk),k5]:=by
    cases sl with
    | mk l=>exact congrArg Array.mk es
   subst TQ
   refine⟨bm,N,nm,qn,bs,hd,sn,sub,ab,col,dd,k0,k1,k2,k3,k5,_,KX _ _ lk,.of_isNs (PySem.W.isNs_of_in KX q5),PySem.W.nsMap_none_of_in KX q5 q6,PySem.W.tail_of_in KX q4,λv r e=>?_⟩
   unfold PySem.W.mroIn PySem.W.clsIn at e
   rw[lk] at e
   first
    | exact Option.some.inj e
    | (simp at e;exact e)
  ·cases q
 ·cases q
section
variable {X:Cx}
def kM(c:PySem.Str)(ga:GA):GS:=λρ st=>(ga ρ st).aM ρ λws st1=>if ws.length<=lim then .err c ρ st1 else .bad
theorem AQ{c:Str}{C:WN}{e:Expr}{es:List Expr}{ga:GA}{np cpos pos:Pos}(hc:X.calm=true)(O:D7 X.K c C)(hg:Gl X c)(hm:X.mg c=some (.ref C))(ha:JA X (e::es) ga)(hd:(c == ("__debug__":Str))=false)
  (he:W7 (e::es) X.env=(false,eval e X.env)::W7 es X.env)(hpl:(backTo cpos (W7 es X.env)).any (·.1)=false):JS X (.Raise (some (.Call (.Name c np) (e::es) [] cpos)) none pos) (kM c ga):=by
 intro ρ st σ H m D S R p pins s I
 have args:=ha.go (T:=λvs H1=>∃ws st1 m1,aw X m H (if ws.length<=lim then .err c ρ st1 else .bad) D/\Ext X.K m H m1 H1/\aL X.K m1 st1 H1/\ah X.K m1 H1 ws vs) S R (aw.bB R p)
  λws st1 vs m1 H1 p1 e1 S1 rs=>⟨ws,st1,m1,p1,e1,S1,rs⟩
 obtain⟨bm,N,nm,qn,bs,KD,sn,sub,ab,col,dd,k0,k1,k2,k3,k5,mN,hC,hN,hni,T,_⟩:=gI I.ok.mod.GP O.exc
 refine wpAny_Raise_call_subU (C:=C) (nm:=nm) (q:=qn) (N:=N) (bs:=bs) (bm:=bm) (hdct:=KD) (sn:=sn) (sub:=sub) (ab:=ab) (col:=col) (dd:=dd) (k0:=k0) (k1:=k1) (k2:=k2) (k3:=k3) (k5:=k5) (bmB:=yj)
  F.excBase_ValueError (by decide) F.excBase_ValueError (mN:=mN) (T.hasType F.excBase_ValueError.hasBase) (I.ok.hd hc) ?_ hni (jO I hg hm ⟨rfl,?_⟩ hd)
 ·rw[he]
  show(false||(backTo cpos (W7 es X.env)).any (·.1))=false
  rw[hpl]
  rfl
 ·have go:=args cpos pins s I
  rw[he] at go ⊢
  refine Calls.evalArgs_plain (aM go λus s1 ⟨vs,H1,I1,r,ws,st1,m1,p1,e1,S1,rs⟩=>?_)
  by_cases cl:ws.length<=lim
  ·rw[if_pos cl] at p1
   refine⟨rfl,by rw[<-r.length,<-rs.length];exact cP cl,I1.bk _ _ hC,hN.keeps I1.bk,T.keeps I1.bk,λh2 a M=>?_⟩
   exact p1 σ m1 H1 _ _ e1 S1 (R.mono e1) ⟨C,pins,H1,s1,O.cls,I1,.inr ⟨rfl,a,us,rfl,rfl,rfl,M⟩⟩
  ·rw[if_neg cl] at p1;exact False.elim p1
end
end J
namespace J
open PySem PySem.Spec PyProof.Rows L2
structure kN(K:PySem.W.Frag)(C:WN):Prop where
 exc:PySem.W.excIn K C yj yk=true
 ga:PySem.W.findIn K (.ref C) "__getattribute__"=some (some (.builtin "BaseException.__getattribute__"))
 gx:PySem.W.findIn K (.ref C) "__getattr__"=some none
 cl:PySem.W.findIn K (.ref C) "__class__"=some (some (.builtin "object.__class__"))
section
variable {prog:WS} {w:WV} {A:WO} {E:WU->WT->Prop} {h:Heap} {g:Array GenState} {d:Drawn} {t:Nat} {os:OsState} {a C:WN} {o:Obj} {K:PySem.W.Frag}
theorem Ip{R:Result->WT->Prop}(Y:K.In h)(Z:kN K C)(ha:h.get? a=some o)(hc:o.cls= .ref C)(k:R (.ok (.ret (.ref C))) ⟨h,g,d,t,os⟩) :
  WZ (model prog w) A (.call (.builtin "getset_descriptor.__get__") ⟨[.builtin "object.__class__",.ref a,.ref C],[]⟩) R ⟨h,g,d,t,os⟩:=by
 obtain⟨bm,N,nm,qn,bs,KD,sn,sub,ab,col,dd,k0,k1,k2,k3,k5,mN,hC,hN,hni,T,_⟩:=gI Y Z.exc
 have ty:(⟨h,g,d,t,os⟩:WT).TypeIs (.builtin "object.__class__") "getset_descriptor":=F.typeOf_object_class
 have own:(Value.ref C::bm).contains (.type (".".intercalate ("object.__class__".cutAt '.').dropLast))=true:=by
  rw[F.owner_object_class,List.contains_cons,T.hasType (X:="object") (b:=true) (by decide)];rfl
 refine codeAny_call_builtin F.slot_gs_get.plain F.entry_gs_get (F.slot_gs_get.check _ _ _ _ _ _ _ _ ty (F.args_gs_get _ _ _) ?_)
 repeat (any_goals (first | assumption | (with_reducible refine wpAny_loadPart_at ha ?_;rw[hc]) | (with_reducible refine wpAny_isSubtype_exc hC ?_;rw[own]) | wp_step))
 refine⟨Code.quiet_builtin _ (by decide+kernel),codeAny_builtin F.entry_object_class ?_⟩
 repeat (any_goals (first | assumption | (with_reducible refine wpAny_loadPart_at ha ?_;rw[hc]) | wp_step))
theorem AR{tk:Tok}{Q:Fin->WT->Prop}(Y:K.In h)(Z:kN K C)(ha:h.get? a=some o)(hc:o.cls= .ref C)(k:Q (.done (.ret (.ref C))) ⟨h,g,d,t,os⟩) :
  W8 (model prog w) A (Builtin.«object.__getattribute__» ⟨[.ref a,.str "__class__" tk],[]⟩) Q E ⟨h,g,d,t,os⟩:=by
 have ty:(⟨h,g,d,t,os⟩:WT).TypeIs (.builtin "object.__class__") "getset_descriptor":=F.typeOf_object_class
 have t1:=F.typeOf_object_class
 have t2:=F.slot_gs_get.lookup
 have t3:=F.slot_gs_set.lookup
 have L:=PySem.W.looks_findIn (M:=model prog w) Y Z.cl
 repeat (any_goals (first | assumption | (with_reducible refine wpAny_loadPart_at ha ?_;rw[hc]) | with_reducible refine L.at ?_ | wp_step))
 refine Ip Y Z ha hc ?_
 repeat (any_goals (first | assumption | wp_step))
theorem AS{M:Model}{nv:WU}{Q:Unit->WT->Prop}(Y:K.In h)(Z:kN K C)(ha:h.get? a=some o)(hc:o.cls= .ref C)(k:Q () ⟨h,g,d,t,os⟩) :
  W8 M A (checkBuiltinCall "BaseException.__getattribute__" ⟨[.ref a,nv],[]⟩) Q E ⟨h,g,d,t,os⟩:=by
 obtain⟨bm,N,nm,qn,bs,KD,sn,sub,ab,col,dd,k0,k1,k2,k3,k5,mN,hC,hN,hni,T,_⟩:=gI Y Z.exc
 have u1:builtinKind "BaseException.__getattribute__"=some .slot:=by decide+kernel
 have u2:splitId "BaseException.__getattribute__"=some ("BaseException","__getattribute__"):=by decide+kernel
 have u3:(Value.ref C::bm).contains (.type "BaseException")=true:=by rw[List.contains_cons,T.hasType (X:="BaseException") (b:=true) (by decide)];rfl
 have u4:=F.args_bexc_ga (.ref a) nv
 simp only[checkBuiltinCall,u1,u2]
 refine W9 ?_
 unfold isInstance
 repeat (first | (with_reducible refine wpAny_loadPart_at ha ?_;rw[hc]) | (with_reducible refine wpAny_isSubtype_exc hC ?_;rw[u3]) | wp_step)
 exact k
theorem L9{tk:Tok}{Q:WU->WT->Prop}(Y:K.In h)(Z:kN K C)(ha:h.get? a=some o)(hc:o.cls= .ref C)(k:Q (.ref C) ⟨h,g,d,t,os⟩) :
  W8 (model prog w) A (getAttrBy (.ref a) (.str "__class__" tk) false) Q E ⟨h,g,d,t,os⟩:=by
 have v1:=F.excAttr_ValueError.ga.bind (.ref a)
 have v2:(Value.builtin "BaseException.__getattribute__" == Value.builtin "object.__getattribute__")=false:=by decide+kernel
 have v3:(onTheHeap (Value.ref C)&&Value.builtin "BaseException.__getattribute__" == Value.builtin "object.__getattribute__")=false:=by rw[v2];rfl
 have v4:(false&&onTheHeap (Value.builtin "BaseException.__getattribute__"))=false:=rfl
 have L1:=PySem.W.looks_findIn (M:=model prog w) Y Z.ga
 have L2:=PySem.W.looks_findIn (M:=model prog w) Y Z.gx
 repeat (any_goals (first | assumption | (with_reducible refine wpAny_loadPart_at ha ?_;rw[hc]) | with_reducible refine L1.at ?_ | with_reducible refine L2.at ?_ | wp_step))
 refine codeAny_call_builtin F.excAttr_ValueError.ga.plain F.entry_bexc_ga (AS Y Z ha hc (AR Y Z ha hc ?_))
 repeat (any_goals (first | assumption | wp_step))
theorem D8{Q:Option WU->WT->Prop}(Y:K.In h)(Z:kN K C)(ha:h.get? a=some o)(hc:o.cls= .ref C)(k:Q (some (.ref C)) ⟨h,g,d,t+1,os⟩) :
  W8 (model prog w) A (getAttr? (.ref a) "__class__") Q E ⟨h,g,d,t,os⟩:=by
 unfold getAttr? getAttrBy?
 repeat (any_goals (first | assumption | with_reducible apply L9 Y Z ha hc | wp_step))
end
end J
namespace J
open PySem PySem.Spec PyProof.Rows L2
structure O5(X:Cx):Prop where
 st:X.stack=X.env::X.outer
 fr:X.env.frame=some X.env.locals
 ex:X.ex=[]
theorem ym{P:WS}{w:WV}{H:Hp}{h:Heap}{a:WN}{o:HO}(x:bN P w H h a o):∃u,h.get? a=some u:=by
 cases o with
 | lst xs=>obtain⟨_,_,_,_,e⟩:=x;exact⟨_,e⟩
 | tup xs=>obtain⟨_,_,_,⟨ob,e,_⟩,_⟩:=x;exact⟨_,e⟩
 | dK kvs=>obtain⟨_,_,_,_,ob,_,_,e,_⟩:=x;exact⟨_,e⟩
 | dT kvs=>obtain⟨_,_,_,_,ob,_,_,e,_⟩:=x;exact⟨_,e⟩
 | set S n=>obtain⟨ob,_,_,_,e,_⟩:=x;exact⟨_,e⟩
 | ins C dx fs=>obtain⟨_,_,_,e,_⟩:=x;exact⟨_,e⟩
 | own y=>exact x
 | xd fs=>obtain⟨_,⟨_,_,_,e,_⟩,_⟩:=x;exact⟨_,e⟩
 | Ni lo hi=>obtain⟨_,_,_,e⟩:=x;exact⟨_,e⟩
 | bU ob u=>obtain⟨e,_⟩:=x;exact⟨_,e⟩
 | cJ ps=>exact⟨_,x⟩
 | met f y=>exact⟨_,x⟩
 | ext φ=>exact x.2.1
def Iq(X:Cx)(a:WN):Prop:=X.s₀.heap.get? a=none/\(∀xs,X.H₀ a≠some (.tup xs))/\(∀o u,X.H₀ a≠some (.bU o u))/\∀ps,X.H₀ a≠some (.cJ ps)
def yo(o:Obj):Prop:=∃vs,o.data= .fields vs/\vs[2]? =some Value.none
section
variable {X:Cx} {pins:List (WN×Obj)} {σ:St} {Hc H':Hp} {sc s':WT} {B h2:Heap} {a C:WN} {a0:WU} {ch:List WN}
theorem iW(I:Inv X pins σ Hc sc)(os:s'.os=sc.os)(bare:AllBare s'.gens)(hch:∀b∈ch,eD X pins Hc b)(un:Un (frs X.stack) ch Hc H' sc.heap s'.heap)(hok:ic X.prog X.w H' B)(fl:qo B X.stack a (.ref C) a0 h2)(up:s'.heap.UpToSlots h2)
  (rX:∀b o,sc.heap.get? b=some o->b∉frs X.stack->b∉ch->∃o',B.get? b=some o'/\(Hc b=none->o'=o)){tk:Nat} :
  (∃o,yo o/\Inv X pins σ (upd H' a (.bU o (.ext (iA a C)))) { s' with heap:=h2,toks:=tk })/\H' a=none/\(X.ex=[]->Iq X a):=by
 have stay:=fl.1
 obtain⟨oe,vs,Ny,hcl,hda,TR⟩:=fl.first
 have TU:iA a C h2:=⟨oe,Ny,hcl,vs,hda⟩
 have ha:H' a=none:=by
  cases q:H' a with
  | none=>rfl
  | some u=>
   obtain⟨z,e⟩:=ym (hok a u q)
   rw[fl.2.1] at e
   cases e
 have TV:a∉frs X.stack:=λz=>by
  obtain⟨_,o1,e1,d1⟩:=fl.2.2.1.mem z
  rw[Ny] at e1
  cases e1
  exact d1 vs hda
 have GQ:∀b∈frs X.stack,b∉ch:=λb hb z=>by
  rcases List.mem_cons.mp (I.mE b hb) with q | q
  ·exact(hch b z).2.1 q
  ·exact(hch b z).2.2.1 q
 have new:a∉ch->∀o,sc.heap.get? a≠some o:=λhx o e=>by
  obtain⟨o1,e1,_⟩:=rX a o e TV hx
  rw[fl.2.1] at e1
  cases e1
 have ne:∀b u,H' b=some u->b≠a:=λb u e=>bF e ha
 have sl:∀b o,sc.heap.get? b=some o->Hc b=none->b∈frs X.stack->∃sl,h2.get? b=some { o with slots:=sl }:=λb o e n hb=>by
  obtain⟨s1,e1⟩:=un.slot b o e n hb (GQ b hb)
  obtain⟨_,o1,e2,d1⟩:=I.stack.mem hb
  rw[e] at e2
  cases e2
  obtain⟨s2,e3⟩:=up b _ e1 d1
  exact⟨s2,e3⟩
 refine⟨⟨oe,⟨vs,hda,TR⟩,?_⟩,ha,λhex=>?_⟩
 rotate_left
 ·refine⟨?_,λxs q=>?_,λo u q=>?_,λps q=>?_⟩
  rotate_left
  ·have z:=un.tups _ _ (I.base.tups _ _ q)
   rw[ha] at z;cases z
  ·have z:=un.f6 _ _ _ (I.base.f6 _ _ _ q)
   rw[ha] at z;cases z
  ·obtain⟨_,z⟩:=I.base.ir _ _ q
   obtain⟨_,z⟩:=un.ir _ _ z
   rw[ha] at z;cases z
  cases q:X.s₀.heap.get? a with
  | none=>rfl
  | some o0=>
   obtain⟨o1,q1⟩:=I.base.there a o0 q (by rw[hex];simp)
   refine absurd q1 (new (λz=>?_) o1)
   rcases(hch a z).2.2.2.1 with y | y
   ·rw[hex] at y;cases y
   ·exact absurd (Nat.lt_of_lt_of_le (Heap.lt_size q) y) (Nat.lt_irrefl _)
 refine I.FE (s':={ s' with heap:=h2,toks:=tk }) (ch:=ch) os ?_ ?_ bare (λb z=>⟨(hch b z).2.2.2.1,(hch b z).2.1,(hch b z).2.2.2.2.1,(hch b z).2.2.2.2.2⟩)
 ·refine⟨λb o e n hb hx=>?_,λb o e n hb _=>sl b o e n hb,λb o e n hx=>?_,λb o e hx=>?_,λb xs h=>?_,λb o u h=>?_,λb ps h=>?_⟩
  ·obtain⟨o1,e1,e2⟩:=rX b o e hb hx
   rw[e2 n] at e1
   exact stay b o e1
  ·have ba:b≠a:=λz=>by subst z;exact new hx o e
   rw[av ba]
   exact un.free b o e n hx
  ·by_cases hb:b∈frs X.stack
   ·obtain⟨s2,e2⟩:=sl b o e (I.jM b hb) hb
    exact⟨_,e2⟩
   ·obtain⟨o1,e1,_⟩:=rX b o e hb hx
    exact⟨o1,stay b o1 e1⟩
  ·have q:=un.tups b xs h
   rw[av (ne b _ q)]
   exact q
  ·have q:=un.f6 b o u h
   rw[av (ne b _ q)]
   exact q
  ·obtain⟨m1,q⟩:=un.ir b ps h
   refine⟨m1,?_⟩
   rw[av (ne b _ q)]
   exact q
 ·intro b u e
  by_cases hb:b=a
  ·subst hb
   rw[az] at e
   cases e
   exact⟨Ny,TU,⟨oe,Ny⟩,λh3 h4 p k=>let ⟨o1,q1,q2,q3⟩:=p;⟨o1,k o1 q1,q2,q3⟩⟩
  ·rw[av hb] at e
   exact(hok b u e).stay (λc v _ q=>stay c v q) (λc q=>by rw[av (ne c _ q)];exact q) λc xs q=>by rw[av (ne c _ q)];exact q
end
theorem yp{M:Model}{A:WO}{E:WU->WT->Prop}{s:WT}{K:PySem.W.Frag}{a C D:WN}{o:Obj}{b:Bool}{Q:Bool->WT->Prop}(Y:K.In s.heap)(ZC:PySem.W.excIn K C yj yk=true)(ZD:PySem.W.excIn K D yj yk=true)
  (hm:PySem.W.mroIn K C (.ref D)=some b)(ha:s.heap.get? a=some o)(hc:o.cls= .ref C)(k:Q b s):W8 M A (excMatches (.ref a) (.ref D)) Q E s:=by
 obtain⟨h,g,d,t,os⟩:=s
 obtain⟨bm,N,nm,qn,bs,KD,sn,sub,ab,col,dd,k0,k1,k2,k3,k5,mN,hC,hN,hni,T,mr⟩:=gI Y ZC
 obtain⟨bm',N',V7,V8,bs',TX,sn',sub',V9,col',FQ,V_,RE,RF,V',Wa,Wb,hD,Wc,TY,T',Wd⟩:=gI Y ZD
 have e1:(Value.ref C::bm).contains (.ref D)=b:=mr _ _ hm
 have e2:(Value.ref D::bm').contains (.type "BaseException")=true:=by rw[List.contains_cons,T'.hasType (X:="BaseException") (b:=true) (by decide)];rfl
 have f:=tc_notTuple
 unfold excMatches
 repeat (first | (with_reducible refine wpAny_loadPart_at ha ?_;rw[hc]) | with_reducible refine wpAny_loadPart_at hD ?_ | (with_reducible refine wpAny_isSubtype_exc hD ?_;rw[e2]) | (with_reducible refine wpAny_isSubtype_exc hC ?_;rw[e1]) | wp_step)
 cases b<;>(wp_walk;exact k)
end J
namespace J
open PySem PySem.Spec PyProof.Rows L2
theorem sr{K:PySem.W.Frag}{a C:WN}(Z:kN K C):PySem.W.KitX K (.ref a) (.ref C) (iA a C) where
 ty:=λM h _ p=>by
  obtain⟨o,h1,h2,_⟩:=p
  rw[<-h2]
  exact(PySem.W.Looks.ld h1).andThen .now
 it:=λM h Y _=>by
  obtain⟨bm,N,nm,qn,bs,KD,sn,sub,ab,col,dd,k0,k1,k2,k3,k5,mN,hC,_⟩:=gI Y Z.exc
  intro A' Q' E' s' k q
  unfold isType loadHead
  exact W9 (wpAny_loadPart (k _ _ hC) (Xe q))
 ne:=λh tp dd its n sl Y e=>by
  obtain⟨bm,N,nm,qn,bs,KD,sn,sub,ab,col,FQ,k0,k1,k2,k3,k5,mN,hC,_⟩:=gI Y Z.exc
  refine Bool.eq_false_iff.mpr λq=>?_
  have z:C=tp:=Value.ref.inj (beq_iff_eq.mp q)
  subst z
  rw[hC] at e
  have z2:Value.type "type"=Value.type "tuple":=congrArg Obj.cls (Option.some.inj e)
  exact absurd z2 (by decide)
 ca:=λ{prog w A E Q s} Y p k=>by
  obtain⟨o,h1,h2,_⟩:=p
  obtain⟨h,g,d,t,os⟩:=s
  exact D8 Y Z h1 h2 k
abbrev Tab:=List ((PySem.Str×PySem.Str)×Bool)
abbrev mX:=List ((PySem.Str×String)×Bool)
structure TabOk(K:PySem.W.Frag)(tb:Tab)(tt:mX)(tc:Tab):Prop where
 own:∀c d b C D,tb.lookup (c,d)=some b->ClsAt K c C->ClsAt K d D->kN K C/\PySem.W.kitOne K (.ref C) (.ref D)=some b
 cat:∀c d b C D,tc.lookup (c,d)=some b->ClsAt K c C->ClsAt K d D->PySem.W.excIn K C yj yk=true/\PySem.W.excIn K D yj yk=true/\PySem.W.mroIn K C (.ref D)=some b
 typ:∀c T b C,tt.lookup (c,T)=some b->ClsAt K c C->kN K C/\PySem.W.kitOne K (.ref C) (.type T)=some b
def kO(tb:Tab)(c:PySem.Str):List Wv->Option Bool
 | []=>some false
 | .cls d::r=>(match tb.lookup (c,d) with
  | some true=>some true
  | some false=>kO tb c r
  | none=>none)
 | _=>none
theorem pH{K:PySem.W.Frag}{m:Mp}{H:Hp}{tb:Tab}{tt:mX}{tc:Tab}(O:TabOk K tb tt tc){c:PySem.Str}{C:WN}(hC:ClsAt K c C):∀{ds:List Wv}{vs:List V}{its:List WU}{b:Bool},ah K m H ds vs->Vals vs its->kO tb c ds=some b->PySem.W.kitAny K (.ref C) its=some b
 | [],vs,its,b,r,v,e=>by
  unfold ah at r
  subst r
  cases v
  cases e
  rfl
 | w::ds,vs,its,b,r,v,e=>by
  unfold ah at r
  obtain⟨x,t,rfl,r1,r2⟩:=r
  cases v with
  | cons h1 h2=>
   cases w with
   | cls d=>
    unfold ag at r1
    obtain⟨D,rfl,hD⟩:=r1
    cases h1
    unfold kO at e
    unfold PySem.W.kitAny
    cases q:tb.lookup (c,d) with
    | none=>rw[q] at e;cases e
    | some k=>
     rw[q] at e
     obtain⟨_,z3⟩:=O.own c d k C D q hC hD
     rw[z3]
     cases k with
     | true=>cases e;rfl
     | false=>exact pH O hC r2 h2 e
   | _=>cases e
def a8(tb:Tab)(tt:mX):List Wv->Hs->Re Wv
 | [.fA c,.cls d],st=>(match tb.lookup (c,d) with | some b=> .ok (.bl b) st | none=> .bad)
 | [.fA c,.ty T],st=>(match tt.lookup (c,T) with | some b=> .ok (.bl b) st | none=> .bad)
 | [.fA c,.tup (.cls d::ds)],st=>(match kO tb c (.cls d::ds) with | some b=> .ok (.bl b) st | none=> .bad)
 | ws,st=>Aw ws st
section
variable {X:Cx}
theorem AU:cC X (.builtin "isinstance") (λvs H Q=>∃a C v c b,vs=[.ref a,v]/\Nv a C (H a)/\kN X.K C/\RelV v c/\PySem.W.kitOne X.K (.ref C) c=some b/\Q (.bl b) H):=by
 intro pins s σ H xs us Q I r h
 obtain⟨a,C,v,c,b,rfl,ha,Z,rc,e,q⟩:=h
 obtain⟨u,u',rfl,r1,r2⟩:=vals2 r
 cases r1
 have uc:u'=c:=by
  cases v with
  | int i=>obtain⟨t,rfl⟩:=rc;cases e
  | str i=>obtain⟨t,rfl⟩:=rc;cases e
  | Kx i=>obtain⟨t,rfl⟩:=rc;cases e
  | rF i=>obtain⟨t,rfl⟩:=rc;cases e
  | aF=>cases rc;cases r2;rfl
  | bl i=>cases rc;cases r2;rfl
  | ref i=>cases rc;cases r2;rfl
  | ty i=>cases rc;cases r2;rfl
 subst uc
 exact PySem.W.kia_one (sr Z) I.zj (FR I.hok ha) e (by intro z;cases z) λtk=>⟨.bl b,H,I.tok tk,rfl,q⟩
theorem yq:cC X (.builtin "isinstance") (λvs H Q=>∃a C p xs b,vs=[.ref a,.ref p]/\Nv a C (H a)/\kN X.K C/\dU X.K H p xs/\(∀its,Vals xs its->PySem.W.kitAny X.K (.ref C) its=some b)/\Q (.bl b) H):=by
 intro pins s σ H xs us Q I r h
 obtain⟨a,C,p,ys,b,rfl,ha,Z,hT,e,q⟩:=h
 obtain⟨u,u',rfl,r1,r2⟩:=vals2 r
 cases r1
 cases r2
 obtain⟨its,rv,⟨o,g1,g2,n,g3⟩,z⟩:=I.tuple hT
 obtain⟨oc,od,We,osl⟩:=o
 cases g2
 cases g3
 exact PySem.W.kia_tup (sr Z) I.zj (FR I.hok ha) g1 (e its rv) (by intro z;cases z) λtk=>⟨.bl b,H,I.tok tk,rfl,q⟩
theorem AV{tb:Tab}{tt:mX}{tc:Tab}(O:TabOk X.K tb tt tc):bJ X (.builtin "isinstance") (a8 tb tt):=by
 obtain⟨r,h1,h2⟩:=Ij (X:=X)
 refine⟨_,AU.or (yq.or h1),λws vs st H m Q S rs p=>?_⟩
 unfold a8 at p
 split at p
 ·rename_i _ c d
  cases e:tb.lookup (c,d) with
  | none=>rw[e] at p;exact False.elim p
  | some b=>
   rw[e] at p
   obtain⟨v,v',rfl,r1,r2⟩:=uR rs
   unfold ag at r1 r2
   obtain⟨a,C,rfl,hC,ha⟩:=r1
   obtain⟨D,rfl,hD⟩:=r2
   obtain⟨z1,z3⟩:=O.own c d b C D e hC hD
   exact .inl ⟨a,C,.ref D,.ref D,b,rfl,ha,z1,rfl,z3,p _ m H Ext.refl S gH⟩
 ·rename_i _ c T
  cases e:tt.lookup (c,T) with
  | none=>rw[e] at p;exact False.elim p
  | some b=>
   rw[e] at p
   obtain⟨v,v',rfl,r1,r2⟩:=uR rs
   unfold ag at r1 r2
   obtain⟨a,C,rfl,hC,ha⟩:=r1
   subst r2
   obtain⟨z1,z3⟩:=O.typ c T b C e hC
   exact .inl ⟨a,C,.ty T,.type T,b,rfl,ha,z1,rfl,z3,p _ m H Ext.refl S gH⟩
 ·rename_i _ c d ds
  cases e:kO tb c (.cls d::ds) with
  | none=>rw[e] at p;exact False.elim p
  | some b=>
   rw[e] at p
   obtain⟨v,v',rfl,r1,r2⟩:=uR rs
   unfold ag at r1
   obtain⟨a,C,rfl,hC,ha⟩:=r1
   have r2':=r2
   unfold ag at r2'
   obtain⟨t,xs,rfl,hT,rx⟩:=r2'
   have Z:kN X.K C:=by
    have kK:=rx
    unfold ah at kK
    obtain⟨x,r,_,rd,_⟩:=kK
    unfold ag at rd
    obtain⟨D,_,hD⟩:=rd
    unfold kO at e
    cases q:tb.lookup (c,d) with
    | none=>rw[q] at e;cases e
    | some k=>exact(O.own c d k C D q hC hD).1
   exact .inr (.inl ⟨a,C,t,xs,b,rfl,ha,Z,dU.of hT,λits hv=>pH O hC rx hv e,p _ m H Ext.refl S gH⟩)
 ·exact .inr (.inr (h2 ws vs st H m Q S rs p))
end
section
variable {X:Cx} {pins:List (WN×Obj)} {σ:St} {H:Hp} {s:WT}
abbrev D9(X:Cx)(A':WO)(cm:Bool)(pn:List (WN×Obj))(E:WU->WT->Prop):Cx:={ X with A:=A',calm:=cm,pn:=pn,xe:=E }
theorem L_{A':WO}{cm:Bool}{pn:List (WN×Obj)}{E:WU->WT->Prop}(ok:X.Ok)(hf:A'.frames=X.A.frames)(hd:cm=true->A'.handled=none):(D9 X A' cm pn E).Ok :=
 ⟨ok.mod,ok.kind,ok.glob,ok.blt,ok.above,ok.inj,ok.has,ok.Kz,hd,hf.trans ok.frames,ok.stk,ok.Og,ok.bs,ok.C0,ok.xH,ok.zt,ok.jr,ok.C4⟩
theorem AW{A':WO}{cm:Bool}{E:WU->WT->Prop}(I:Inv X pins σ H s)(hf:A'.frames=X.A.frames)(hd:cm=true->A'.handled=none):Inv (D9 X A' cm (X.pn++pins) E) [] σ H s :=
 ⟨L_ I.ok hf hd,I.os,I.bare,I.base,I.loc,I.cell,I.free,I.d_,λp hp=>I.pin p (by simpa using hp),I.hok,I.len⟩
theorem mY{A':WO}{cm:Bool}{E:WU->WT->Prop}{iu:List (WN×Obj)}(ok:X.Ok)(I:Inv (D9 X A' cm (X.pn++pins) E) iu σ H s):Inv X pins σ H s :=
 ⟨ok,I.os,I.bare,I.base,I.loc,I.cell,I.free,I.d_,λp hp=>I.pin p (List.mem_append_left _ hp),I.hok,I.len⟩
abbrev Ma(X:Cx)(a:WN)(u:HO)(pn:List (WN×Obj))(E:WU->WT->Prop):Cx:={ X with A:=X.A.mark (some (.ref a)),calm:=false,pn:=pn,xe:=E,H₀:=upd X.H₀ a u }
theorem Ir{a:WN}{o:Obj}{u:HO}{E:WU->WT->Prop}(I:Inv X pins σ H s)(e:H a=some (.bU o u))(n:X.s₀.heap.get? a=none):Inv (Ma X a (.bU o u) (X.pn++pins) E) [] σ H s:=by
 have k:=I.ok
 have ne:∀b o,X.s₀.heap.get? b=some o->b≠a:=λb o q z=>by rw[z,n] at q;cases q
 have nf:∀b∈X.fs,b≠a:=λb hb=>let ⟨_,o,q,_⟩:=k.jr.mem hb;ne b o q
 have up:∀b,b≠a->upd X.H₀ a (.bU o u) b=X.H₀ b:=λb h=>av h
 have dn:∀{b:WN}{w:Option HO},upd X.H₀ a (.bU o u) b=w->w≠some (.bU o u)->X.H₀ b=w:=λ{b w} q h=>by
  by_cases z:b=a
  ·rw[z,az] at q;exact absurd q.symm h
  ·rw[up b z] at q;exact q
 have nn:∀{b:WN},upd X.H₀ a (.bU o u) b=none->X.H₀ b=none:=λq=>dn q (by intro z;cases z)
 refine⟨⟨k.mod,k.kind,k.glob,k.blt,k.above,k.inj,k.has,k.Kz,(λz=>by cases z),k.frames,k.stk,k.Og,λb ob q=>⟨(k.bs b ob q).1,(up b (ne b ob (k.bs b ob q).1)).trans (k.bs b ob q).2⟩,k.C0,k.xH,k.zt,k.jr,λb hb=>(up b (nf b hb)).trans (k.C4 b hb)⟩,I.os,I.bare,?_,I.loc,I.cell,I.free,I.d_,λp hp=>I.pin p (by simpa using hp),I.hok,I.len⟩
 have g:=I.base
 exact⟨λb ob q h=>g.keep b ob q (nn h),λb ob q h=>g.slot b ob q (nn h),λb ob q h=>g.free b ob q (nn h),g.there,λb xs q=>g.tups b xs (dn q (by intro z;cases z)),λb ob v q=>by
  by_cases z:b=a
  ·subst z
   have q':upd X.H₀ b (.bU o u) b=some (.bU ob v):=q
   rw[az] at q'
   cases q'
   exact e
  ·exact g.f6 b ob v ((up b z).symm.trans q),λb ps q=>g.ir b ps (dn q (by intro z;cases z))⟩
theorem AX{a:WN}{o:Obj}{u:HO}{E:WU->WT->Prop}{iu:List (WN×Obj)}(ok:X.Ok)(n:Iq X a)(I:Inv (Ma X a (.bU o u) (X.pn++pins) E) iu σ H s):Inv X pins σ H s:=by
 have ne:∀b o,X.s₀.heap.get? b=some o->b≠a:=λb o q z=>by rw[z,n.1] at q;cases q
 have up:∀b,b≠a->(Ma X a (.bU o u) (X.pn++pins) E).H₀ b=X.H₀ b:=λb h=>av h
 have g:=I.base
 exact⟨ok,I.os,I.bare,⟨λb ob q h=>g.keep b ob q ((up b (ne b ob q)).trans h),λb ob q h=>g.slot b ob q ((up b (ne b ob q)).trans h),λb ob q h=>g.free b ob q ((up b (ne b ob q)).trans h),g.there,λb xs q=>g.tups b xs ((up b λz=>n.2.1 xs (z ▸ q)).trans q),λb ob v q=>g.f6 b ob v ((up b λz=>n.2.2.1 ob v (z ▸ q)).trans q),λb ps q=>g.ir b ps ((up b λz=>n.2.2.2 ps (z ▸ q)).trans q)⟩,I.loc,I.cell,I.free,I.d_,λp hp=>I.pin p (List.mem_append_left _ hp),I.hok,I.len⟩
def uV(X:Cx):Prop:=X.A.handled=none\/∃a o u,X.A.handled=some (.ref a)/\yo o/\X.H₀ a=some (.bU o u)
def yt(A:WO)(H:Hp):Prop:=A.handled=none\/∃a o u,A.handled=some (.ref a)/\yo o/\H a=some (.bU o u)
theorem uV.at(h:uV X)(I:Inv X pins σ H s):yt X.A H:=h.imp id λ⟨a,o,u,h1,h2,h3⟩=>⟨a,o,u,h1,h2,I.base.f6 _ _ _ h3⟩
theorem Mb{A':WO}{cm:Bool}{E:WU->WT->Prop}{D:Ends}{f:Flow}(ok:X.Ok)(h:SP (D9 X A' cm (X.pn++pins) E) [] D f s):SP X pins D f s:=by
 cases f with
 | next=>obtain⟨σ',H',I,q⟩:=h;exact⟨σ',H',mY ok I,q⟩
 | brk=>obtain⟨σ',H',I,q⟩:=h;exact⟨σ',H',mY ok I,q⟩
 | cont=>obtain⟨σ',H',I,q⟩:=h;exact⟨σ',H',mY ok I,q⟩
 | ret u=>obtain⟨v,σ',H',I,r,q⟩:=h;exact⟨v,σ',H',mY ok I,r,q⟩
end
theorem pI{X:Cx}{pins:List (WN×Obj)}{σ:St}{H:Hp}{s:WT}{M:Model}{A:WO}{E:WU->WT->Prop}{i:Nat}{n:Str}{pos:Pos}{Q:Unit->WT->Prop}(I:Inv X pins σ H s)(hN:X.N.Nodup)(hi:X.N[i]? =some n)(hx:X.env.scope.names.lookup n=some .local)
  (k:∀s',Inv X pins (σ.set i none) H s'->Q () s'):W8 M A (do bindName X.env n .none;unbindBehindTheSuite X.env n pos) Q E s:=by
 obtain⟨m,ns,lk⟩:=id I.loc
 have pl:(X.env.scope.kind == .class||(X.env.scope.kind == .module&&X.env.locals != X.env.globals))=false:=by rw[I.ok.kind];rfl
 have up:∀b o,X.s₀.heap.get? b=some o->b≠X.env.locals:=λb o e=>old_ne I e
 refine wpAny_nameGoes_keeps hx ns pl λh2 v TZ sb=>k _ ?_
 obtain⟨oL,_,_,Rq,_⟩:=id ns
 refine⟨I.ok,I.os,I.bare,⟨λb o e f hb hx=>(sb.2 b (up b o e)).trans (I.base.keep b o e f hb hx),λb o e f hb hx=>?_,I.base.free,λb o e hx=>?_,I.base.tups,I.base.f6,I.base.ir⟩,⟨_,TZ,λj y w e1 e2 e3=>?_⟩,λy c e=>?_,I.free,I.d_,λp hp=>?_,λb u e=>?_,by simpa using I.len⟩
 ·obtain⟨sl,e1⟩:=I.base.slot b o e f hb hx
  exact⟨sl,(sb.2 b (up b o e)).trans e1⟩
 ·obtain⟨o1,e1⟩:=I.base.there b o e hx
  exact⟨o1,(sb.2 b (up b o e)).trans e1⟩
 ·have ji:j≠i:=λz=>by
   subst z
   have:j < σ.length:=by have q:=(List.getElem?_eq_some_iff.mp e2).1;simpa using q
   rw[List.getElem?_set_self this] at e2
   cases e2
  rw[List.getElem?_set_ne (Ne.symm ji)] at e2
  obtain⟨u,r,q⟩:=lk j y w e1 e2 e3
  refine⟨u,r,?_⟩
  rcases q with ⟨q1,q2⟩ | ⟨q1,c,q2,z⟩
  ·have yn:y≠n:=λz=>ji (mF hN e1 (z ▸ hi))
   exact .inl ⟨q1,by simp[yn,q2]⟩
  ·exact .inr ⟨q1,c,q2,z.sameBut sb (I.C5 y c q2)⟩
 ·obtain⟨w,z⟩:=I.cell y c e
  exact⟨w,z.sameBut sb (I.C5 y c e)⟩
 ·obtain⟨e,f,ne,nf,d⟩:=I.pin p hp
  exact⟨(sb.2 p.1 ne).trans e,f,ne,nf,d⟩
 ·refine(I.hok b u e).stay (λc w hc q=>(sb.2 c λz=>?_).trans q) (λ_ q=>q) λ_ _ q=>q
  have fr:=I.free
  rcases hc with hc | hc
  ·rw[<-z,hc,e] at fr;cases fr
  ·rw[<-z,hc] at fr;cases fr
end J
namespace J
open PySem PySem.Spec PyProof.Rows L2
def yu(cat:PySem.Str->Option Bool)(i:Nat)(gb gs:GS):GS:=λρ st=>match gb ρ st with
 | .err c ρ' st'=>(match cat c with
  | some true=>(match gs (ρ'.set i (some (.fA c))) st' with
   | .nx ρ2 st2=> .nx (ρ2.set i none) st2
   | .rt w st2=> .rt w st2
   | _=> .bad)
  | _=> .bad)
 | r=>r
theorem ar.unset{K:PySem.W.Frag}{m:Mp}{H:Hp}{ρ:aT}{σ:St}(R:ar K m H ρ σ)(i:Nat):ar K m H (ρ.set i none) (σ.set i none):=by
 refine⟨by simp[R.len],λj w e=>?_⟩
 have ji:i≠j:=λz=>by
  subst z
  have:i < ρ.length:=by have q:=(List.getElem?_eq_some_iff.mp e).1;simpa using q
  rw[List.getElem?_set_self this] at e
  cases e
 rw[List.getElem?_set_ne ji] at e ⊢
 exact R.get j w e
section
variable {X:Cx}
theorem yv{M:Model}{A:WO}{E:WU->WT->Prop}{s:WT}{base h:Heap}{env:Env}{outer:List Env}{L a:WN}{cls:WU}{args:List WU}{Q:Unit->WT->Prop}(hfr:A.frames=some (env::outer))(hf:env.frame=some L)
  (st:base.StaysIn h)(fs:h.FunFrames base (env::outer))(mk:Heap.MadeExcOf h s.heap a cls args)(k:∀h' a0,qo base (env::outer) a cls a0 h'->s.heap.UpToSlots h'->Q () { s with heap:=h' }) :
  W8 M A (noteFrame (.ref a) env) (λ_ s2=>W8 M A (setFlight (.ref a) none) Q E s2) E s:=by
 exact pD hfr hf st fs mk λh1 t hd1 up1=>rS hd1 λh2 uo L7=>k h2 t uo (up1.trans L7)
theorem iB.er{A:WO}{b:Bool}{E:WU->WT->Prop}{pins iu:List (WN×Obj)}{H H':Hp}{s s':WT}{cls e:WU}(f:iB (D9 X A b (X.pn++pins) E) iu H s H' cls e s'):iB X pins H s H' cls e s' :=
 let ⟨a,a0,nt,B,ch,e1,e2,e3,hch,r⟩:=f
 ⟨a,a0,nt,B,ch,e1,e2,e3,λb hb=>let ⟨h1,h2,h3,h4,h5,h6⟩:=hch b hb;⟨h1,h2,h3,h4,h5,λp hp=>h6 p (List.mem_append_left _ hp)⟩,r⟩
theorem land{pins:List (WN×Obj)}{σ:St}{Hc H':Hp}{sc s':WT}{C:WN}{e:WU}{E:WU->WT->Prop}{Q:Unit->WT->Prop}(K0:O5 X)(I:Inv X pins σ Hc sc)
  (r:iB X pins Hc sc H' (.ref C) e s'\/(H'=Hc/\∃a args,e= .ref a/\s'.os=sc.os/\s'.gens=sc.gens/\Heap.MadeExcOf sc.heap s'.heap a (.ref C) args))
  (k:∀(a:WN)(a0:WU)(B h5:Heap),e= .ref a->qo B X.stack a (.ref C) a0 h5->(∀h6 tk,qo B X.stack a (.ref C) a0 h6->h5.UpToSlots h6->∃o,yo o/\Inv X pins σ (upd H' a (.bU o (.ext (iA a C)))) { s' with heap:=h6,toks:=tk })->H' a=none->Iq X a->Q () { s' with heap:=h5 }) :
  W8 (model X.prog X.w) X.A (noteFrame e X.env) (λ_ s2=>W8 (model X.prog X.w) X.A (setFlight e none) Q E s2) E s':=by
 have hfr:X.A.frames=some (X.env::X.outer):=by rw[I.ok.frames,K0.st]
 rcases r with ⟨a,a0,nt,B,ch,rfl,os,bare,hch,un,hok,fl,rX⟩ | ⟨rfl,a,args,rfl,ho,hg,M⟩
 ·rw[K0.st] at fl
  refine sf hfr K0.fr fl λh4 T1 O6=>?_
  refine rS T1 λh5 zo Iu=>?_
  rw[<-K0.st] at zo
  exact k a a0 B h5 rfl zo (λh6 tk Mc Md=>(iW I os bare hch un hok Mc ((O6.trans Iu).trans Md) rX).1) (iW (tk:=0) I os bare hch un hok zo (O6.trans Iu) rX).2.1 ((iW (tk:=0) I os bare hch un hok zo (O6.trans Iu) rX).2.2 K0.ex)
 ·have fs:sc.heap.FunFrames (PySem.W.hideAll sc.heap (frs X.stack)) (X.env::X.outer):=by
   rw[<-K0.st]
   exact PySem.W.funFrames_hide I.stack λenv he b hb=>List.mem_filterMap.mpr ⟨env,he,hb⟩
  refine yv (base:=PySem.W.hideAll sc.heap (frs X.stack)) hfr K0.fr (λb o q=>PySem.W.of_hideAll _ q) fs M λh5 a0 zo Iu=>?_
  rw[<-K0.st] at zo
  have bare:AllBare s'.gens:=by rw[hg];exact I.bare
  have hok:ic X.prog X.w H' (PySem.W.hideAll sc.heap (frs X.stack)):=sh I.hok I.jM
  have rX:∀b o,sc.heap.get? b=some o->b∉frs X.stack->b∉([]:List WN)->∃o',(PySem.W.hideAll sc.heap (frs X.stack)).get? b=some o'/\(H' b=none->o'=o):=λb o q hb _=>⟨o,PySem.W.hideAll_get _ q hb,λ_=>rfl⟩
  have nil:∀b∈([]:List WN),eD X pins H' b:=λb z=>by cases z
  exact k a a0 _ h5 rfl zo (λh6 tk Mc Md=>(iW I ho bare nil (Un.kept M.keeps) hok Mc (Iu.trans Md) rX).1) (iW (tk:=0) I ho bare nil (Un.kept M.keeps) hok zo Iu rX).2.1 ((iW (tk:=0) I ho bare nil (Un.kept M.keeps) hok zo Iu rX).2.2 K0.ex)
theorem Iv{x n:Str}{D:WN}{i:Nat}{body suite:List Stmt}{b₀:Stmt}{gb gs:GS}{np hp pos:Pos}{tb:Tab}{tt:mX}{tc:Tab}(K0:O5 X)(hN:X.N.Nodup)(hi:X.N[i]? =some n)(hx:X.env.scope.names.lookup n=some .local)(hc:X.calm=true)(O:TabOk X.K tb tt tc)
  (hg:Gl X x)(hm:X.mg x=some (.ref D))(hD:ClsAt X.K x D)(hd:(x == ("__debug__":Str))=false)
  (hb:∀(pn:List (WN×Obj))(E:WU->WT->Prop),jl (D9 X X.A true pn E) body gb)(hs:∀(a:WN)(o:Obj)(u:HO)(pn:List (WN×Obj))(E:WU->WT->Prop),yo o->jl (Ma X a (.bU o u) pn E) (b₀::suite) gs) :
  JS X (.Try body [.ExceptHandler (some (.Name x np)) (some n) (b₀::suite) hp] [] [] pos) (yu (λc=>tc.lookup (c,x)) i gb gs):=by
 intro ρ st σ H m D' S R p pins s I
 refine wpAny_Try_except ?_
 let hx':WU->WT->Prop:=λe s1=>W8 (model X.prog X.w) X.A (noteFrame e X.env) (λ_ s2=>W8 (model X.prog X.w) X.A (setFlight e none) (λ_ s3=>
  W8 (model X.prog X.w) X.A (handleBy e X.env [.ExceptHandler (some (.Name x np)) (some n) (b₀::suite) hp]) (SP X pins D') X.xe s3) X.xe s2) X.xe s1
 have hA:X.A.handled=none:=I.ok.hd hc
 have Ib:Inv (D9 X X.A true (X.pn++pins) hx') [] σ H s:=AW I rfl λ_=>hA
 have post:aw (D9 X X.A true (X.pn++pins) hx') m H (gb ρ st) D':=by
  unfold yu at p
  cases eb:gb ρ st with
  | nx ρ1 st1=>rw[eb] at p;exact p
  | rt w1 st1=>rw[eb] at p;exact p
  | bk ρ1 st1=>rw[eb] at p;exact p
  | ct ρ1 st1=>rw[eb] at p;exact p
  | bad=>rw[eb] at p;exact p
  | err c ρ1 st1=>
   rw[eb] at p
   dsimp only at p
   cases ec:tc.lookup (c,x) with
   | none=>rw[ec] at p;exact False.elim p
   | some bc=>
    cases bc with
    | false=>rw[ec] at p;exact False.elim p
    | true=>
     rw[ec] at p
     dsimp only at p
     intro σ1 m1 H1 e s1 e1 S1 R1 rz
     obtain⟨C,iu,Hc,sc,hC,Ic,rz⟩:=rz
     obtain⟨zC,zD,O7⟩:=O.cat c x true C D ec hC hD
     refine land K0 (mY I.ok Ic) (rz.imp iB.er id) λa a0 B h5 ea zo inv hn hnew=>?_
     subst ea
     obtain⟨ox,_,I5⟩:=inv h5 s1.toks zo (Heap.UpToSlots.refl _)
     obtain⟨o5,T2,hc5,_⟩:=(I5.hok a _ az).2.1
     have Im:=AW (A':=X.A.mark (some (.ref a))) (cm:=false) (E:=λ_ _=>False) I5 rfl (λz=>by cases z)
     refine wpAny_handleBy_cons (codeAny_handlers_test (jO Im hg hm ?_ hd)) (by intro q;cases q)
     refine yp (b:=true) Im.zj zC zD O7 T2 hc5 ?_
     refine codeAny_handlers_suite_as ?_
     refine rS zo λh6 Mc Md=>?_
     obtain⟨oy,nx,I6⟩:=inv h6 s1.toks Mc Md
     have e6:Ext X.K m1 H1 m1 (upd H1 a (.bU oy (.ext (iA a C)))):=Ext.upd (.inl hn)
     have S6:aL X.K m1 st1 (upd H1 a (.bU oy (.ext (iA a C)))):=S1.fresh hn
     have rv:ag X.K m1 (upd H1 a (.bU oy (.ext (iA a C)))) (.fA c) (.ref a):=by unfold ag;obtain⟨vs,d1,d2⟩:=nx;exact⟨a,C,rfl,hC,oy,vs,az,d1,d2⟩
     refine jN (v:=.ref a) I6 hN hi (.inl hx) rfl (λs7 I7=>?_) (.inr hx)
     have Nz:=Ir (E:=λ_ _=>False) I7 az hnew.1
     cases es:gs (ρ1.set i (some (.fA c))) st1 with
     | nx ρ2 st2=>
      rw[es] at p
      let D2:Ends:={ nx:=λσ' H'=>D'.nx (σ'.set i none) H',rt:=λ_ _=>False,bk:=λ_ _=>False,ct:=λ_ _=>False }
      have go:=hs a oy (.ext (iA a C)) (X.pn++pins) (λ_ _=>False) nx (ρ1.set i (some (.fA c))) st1 (σ1.set i (some (.ref a))) _ m1 D2 S6 ((R1.mono e6).set i rv) (by
       rw[es]
       exact λσ' m' H' e' S' R'=>p (σ'.set i none) m' H' (e1.trans (e6.trans e')) S' (ar.unset R' i)) [] s7 Nz
      refine Xa go (λf s8 h8=>?_) λ_ _ z=>z.elim
      cases f with
      | next=>
       obtain⟨σ8,H8,I8,q8⟩:=h8
       exact pI (AX I.ok hnew I8) hN hi hx λs9 I9=>⟨_,H8,I9,q8⟩
      | brk=>obtain⟨_,_,_,q8⟩:=h8;exact q8.elim
      | cont=>obtain⟨_,_,_,q8⟩:=h8;exact q8.elim
      | ret u=>obtain⟨_,_,_,_,_,q8⟩:=h8;exact q8.elim
     | rt w2 st2=>
      rw[es] at p
      let D2:Ends:={ nx:=λ_ _=>False,rt:=D'.rt,bk:=λ_ _=>False,ct:=λ_ _=>False }
      have go:=hs a oy (.ext (iA a C)) (X.pn++pins) (λ_ _=>False) nx (ρ1.set i (some (.fA c))) st1 (σ1.set i (some (.ref a))) _ m1 D2 S6 ((R1.mono e6).set i rv) (by
       rw[es]
       exact λv' m' H' e' S' R'=>p v' m' H' (e1.trans (e6.trans e')) S' R') [] s7 Nz
      refine Xa go (λf s8 h8=>?_) λ_ _ z=>z.elim
      cases f with
      | next=>obtain⟨_,_,_,q8⟩:=h8;exact q8.elim
      | brk=>obtain⟨_,_,_,q8⟩:=h8;exact q8.elim
      | cont=>obtain⟨_,_,_,q8⟩:=h8;exact q8.elim
      | ret u=>
       obtain⟨v8,σ8,H8,I8,r8,q8⟩:=h8
       exact pI (AX I.ok hnew I8) hN hi hx λs9 I9=>⟨v8,_,H8,I9,r8,q8⟩
     | bk ρ2 st2=>rw[es] at p;exact False.elim p
     | ct ρ2 st2=>rw[es] at p;exact False.elim p
     | err c2 ρ2 st2=>rw[es] at p;exact False.elim p
     | bad=>rw[es] at p;exact False.elim p
 refine Xa (hb (X.pn++pins) hx' ρ st σ H m D' S R post [] s Ib) (λf s1 h1=>?_) λe s1 h1=>h1
 have h2:=Mb I.ok h1
 cases f with
 | next=>exact wpAny_execs_nil h2
 | brk=>exact h2
 | cont=>exact h2
 | ret u=>exact h2
end
end J
namespace J
open PySem PySem.Spec PyProof.Rows L2
section
variable {X:Cx}
def Me:List Wv->Hs->Re Wv
 | [.int i],st=>if i.natAbs.log2 < 1920 then .ok (.str (toString i:String)) st else .bad
 | _,_=> .bad
def jz(o v:Wv)(st:Hs):Re Wv:=match o with
 | .ref l=>(match st[l]? with
  | some (.lst ws)=>if ws.length < lim then .ok .aF (st.set l (.lst (ws++[v]))) else .bad
  | _=> .bad)
 | _=> .bad
def Mf(o v:Wv)(st:Hs):Re Wv:=match o,v with
 | .ref l,.ref k=>(match st[l]?,st[k]? with
  | some (.lst ws),some (.lst zs)=>if ws.length+zs.length<=lim then .ok .aF (st.set l (.lst (ws++zs))) else .bad
  | _,_=> .bad)
 | _,_=> .bad
def jY(mt:Wv->Wv->Hs->Re Wv)(go ga:GE):GE:=λρ st=>(go ρ st).bind λo st1=>match o with
 | .ref l=>(match af st1 l with
  | some _=>(ga ρ st1).bind λv st2=>(mt o v st2).jh
  | none=> .bad)
 | _=> .bad
def NA(X:Cx)(id:String)(mt:Wv->Wv->Hs->Re Wv):Prop:=∃r,OP X id r/\∀(o w:Wv)(x v:V)(st:Hs)(H:Hp)(m:Mp)(Q:VK),aL X.K m st H->ag X.K m H o x->ag X.K m H w v->bP X.K m H (mt o w st) Q->r x [v] H Q
theorem AY:NA X "list.append" jz:=⟨_,xU,λo w x v st H m Q S ro rw' p=>by
 cases o with
 | ref l=>
  unfold ag at ro
  obtain⟨a,rfl,ha⟩:=ro
  have p':bP X.K m H (match st[l]? with | some (.lst ws)=>if ws.length < lim then .ok .aF (st.set l (.lst (ws++[w]))) else .bad | _=> .bad) Q:=p
  cases e:st[l]? with
  | none=>rw[e] at p';exact False.elim p'
  | some ob=>
   cases ob with
   | dct kvs=>rw[e] at p';exact False.elim p'
   | bh kvs=>rw[e] at p';exact False.elim p'
   | jL kvs=>rw[e] at p';exact False.elim p'
   | jW ns=>rw[e] at p';exact False.elim p'
   | lst ws=>
    rw[e] at p'
    dsimp only at p'
    by_cases c:ws.length < lim
    ·rw[if_pos c] at p'
     obtain⟨xs,h1,h2⟩:=S.mR ha e
     have e4:Ext X.K m H m (upd H a (.lst (xs++[v]))):=Ext.upd (.inr ⟨xs,h1⟩)
     exact⟨a,xs,v,rfl,rfl,h1,by rw[<-h2.length];exact uL c,p' _ m _ e4 (S.write ha e (h2.append (ah.cons rw' ah.nil))) pB⟩
    ·rw[if_neg c] at p';exact False.elim p'
 | _=>exact False.elim p⟩
theorem Iw:NA X "list.extend" Mf:=⟨_,xV,λo w x v st H m Q S ro rw' p=>by
 cases o with
 | ref l=>
  cases w with
  | ref k=>
   unfold ag at ro rw'
   obtain⟨a,rfl,ha⟩:=ro
   obtain⟨b,rfl,hb⟩:=rw'
   have p':bP X.K m H (match st[l]?,st[k]? with | some (.lst ws),some (.lst zs)=>if ws.length+zs.length<=lim then .ok .aF (st.set l (.lst (ws++zs))) else .bad | _,_=> .bad) Q:=p
   cases e:st[l]? with
   | none=>rw[e] at p';exact False.elim p'
   | some ob=>
    cases ob with
    | dct kvs=>rw[e] at p';exact False.elim p'
    | bh kvs=>rw[e] at p';exact False.elim p'
    | jL kvs=>rw[e] at p';exact False.elim p'
    | jW ns=>rw[e] at p';exact False.elim p'
    | lst ws=>
     cases e2:st[k]? with
     | none=>rw[e,e2] at p';exact False.elim p'
     | some T3=>
      cases T3 with
      | dct kvs=>rw[e,e2] at p';exact False.elim p'
      | bh kvs=>rw[e,e2] at p';exact False.elim p'
      | jL kvs=>rw[e,e2] at p';exact False.elim p'
      | jW ns=>rw[e,e2] at p';exact False.elim p'
      | lst zs=>
       rw[e,e2] at p'
       dsimp only at p'
       by_cases c:ws.length+zs.length<=lim
       ·rw[if_pos c] at p'
        obtain⟨xs,h1,h2⟩:=S.mR ha e
        obtain⟨ys,g1,g2⟩:=S.mR hb e2
        have e4:Ext X.K m H m (upd H a (.lst (xs++ys))):=Ext.upd (.inr ⟨xs,h1⟩)
        exact⟨a,b,xs,ys,rfl,rfl,h1,g1,by rw[<-h2.length,<-g2.length];exact cP c,p' _ m _ e4 (S.write ha e (h2.append g2)) pB⟩
       ·rw[if_neg c] at p';exact False.elim p'
  | _=>exact False.elim p
 | _=>exact False.elim p⟩
theorem wx{x name:Str}{id:String}{e:Expr}{go ga:GE}{p apos cpos:Pos}{mt:Wv->Wv->Hs->Re Wv}(hm:NA X id mt)(slot:Slot "list" name id)(hty:typeOf (.builtin id)=pure (.type "method_descriptor"))(ho:JE X (.Name x p) go)(ha:JE X e ga)
  (hst:W7 [e] X.env=[(false,eval e X.env)])(hline:(apos.endLine == cpos.line)=true):JE X (.Call (.Attribute (.Name x p) name apos) [e] [] cpos) (jY mt go ga):=by
 obtain⟨r,h1,h2⟩:=hm
 have hfew:((backTo cpos (W7 [e] X.env)).all (λx=> !x.1)&&(backToKw cpos (keywordEach [] X.env)).all (λx=>x.1.isSome)&&decide ([e].length+([]:List Keyword).length+(if([]:List Keyword).isEmpty then 0 else 1) < 30))=true:=by
  rw[hst];rfl
 refine JE.of (Lw PySem.F.plainAttrs_list slot hty h1 aD jk rfl hfew hline hst rfl) λρ st σ H m Q S R p=>?_
 refine ho.go S R (aq.bind p) λo st1 v m1 H1 p1 e1 S1 ro=>?_
 cases o with
 | ref l=>
  dsimp only at p1
  cases el:af st1 l with
  | none=>rw[el] at p1;exact False.elim p1
  | some Wf=>
   rw[el] at p1
   dsimp only at p1
   have RG:=ro
   unfold ag at RG
   obtain⟨a,rfl,hla⟩:=RG
   obtain⟨xs,hq,_⟩:=S1.read hla el
   refine⟨.inl ⟨rfl,xs,hq⟩,?_⟩
   refine(wq ha Ap hst).go S1 (R.mono e1) (ok:=λws st2=>aq X σ m H (match ws with | [w]=>(mt (.ref l) w st2).jh | _=> .bad) (HK X.K m H Q)) ?_ λws st2 vs m2 H2 p2 e2 S2 rs=>?_
   ·have p3:=(aq.bind p1).imp e1 (λ_ _ q=>q)
    show aq X σ m1 H1 ((ga ρ st1).bind λx st1=>(ai ρ st1).bind λxs st2=> .ok (x::xs) st2) _
    cases eg:ga ρ st1 with
    | ok w st2=>rw[eg] at p3;exact p3
    | err c st2=>rw[eg] at p3;exact p3
    | bad=>rw[eg] at p3;exact p3
   ·match ws,rs,p2 with
    | [],rs,p2=>exact False.elim p2
    | [w],rs,p2=>
     obtain⟨v2,rfl,T4⟩:=jd rs
     exact h2 (.ref l) w (.ref a) v2 st2 H2 m2 Q S2 (ag.mono e2 _ _ ro) T4 (bP.shift (aq.jh p2) (e1.trans e2))
    | _::_::_,rs,p2=>exact False.elim p2
 | _=>exact False.elim p1
end
end J
namespace J
open PySem PySem.Spec PyProof.Rows L2
section
variable {X:Cx}
def Mi:List Wv->Hs->Re Wv
 | [.str z],st=> .ok (.str z) st
 | ws,st=>Me ws st
def Mj:List Wv->Hs->Re Wv
 | [.int i,.int j],st=> .ok (.int (if j > i then j else i)) st
 | _,_=> .bad
def Ml:List Wv->Hs->Re Wv
 | [.int i,.int j],st=> .ok (.int (if j < i then j else i)) st
 | _,_=> .bad
theorem Iy(hc:X.calm=true):bJ X (.builtin "max") Mj:=⟨_,xP hc,λws vs st H m Q S rs p=>by
 match ws,rs,p with
 | [],rs,p=>exact False.elim p
 | [x],rs,p=>cases x<;>exact False.elim p
 | x::y::z::t,rs,p=>cases x<;>cases y<;>exact False.elim p
 | [x,y],rs,p=>
  obtain⟨v,v',rfl,r1,r2⟩:=uR rs
  cases x with
  | int i=>
   cases y with
   | int j=>cases aG r1;cases aG r2;exact⟨i,j,rfl,p _ m H Ext.refl S mkInt⟩
   | _=>exact False.elim p
  | _=>cases y<;>exact False.elim p⟩
theorem Iz(hc:X.calm=true):bJ X (.builtin "min") Ml:=⟨_,xQ hc,λws vs st H m Q S rs p=>by
 match ws,rs,p with
 | [],rs,p=>exact False.elim p
 | [x],rs,p=>cases x<;>exact False.elim p
 | x::y::z::t,rs,p=>cases x<;>cases y<;>exact False.elim p
 | [x,y],rs,p=>
  obtain⟨v,v',rfl,r1,r2⟩:=uR rs
  cases x with
  | int i=>
   cases y with
   | int j=>cases aG r1;cases aG r2;exact⟨i,j,rfl,p _ m H Ext.refl S mkInt⟩
   | _=>exact False.elim p
  | _=>cases y<;>exact False.elim p⟩
def sv:List Nat->List Wv->aT->Option aT
 | [],[],ρ=>some ρ
 | i::is,w::ws,ρ=>sv is ws (ρ.set i (some w))
 | _,_,_=>none
def KG(is:List Nat)(w:Wv)(ρ:aT):Option aT:=match w with
 | .tup ws=>sv is ws ρ
 | _=>none
def O8:List Nat->FG
 | []=>L2.ai
 | i::is=>L2.aa (rJ i) (O8 is)
theorem jZ{m:Mp}{H:Hp}{Q:St->Hp->Prop}:∀{is:List Nat}{ws:List Wv}{xs:List V}{ρ ρ':aT}{σ:St},ah X.K m H ws xs->ar X.K m H ρ σ->sv is ws ρ=some ρ'->(∀σ',ar X.K m H ρ' σ'->Q σ' H)->O8 is xs σ H Q
 | [],[],xs,ρ,ρ',σ,r,R,e,k=>by
  unfold ah at r
  subst r
  cases e
  exact⟨rfl,k σ R⟩
 | i::is,w::ws,xs,ρ,ρ',σ,r,R,e,k=>by
  unfold ah at r
  obtain⟨x,rr,rfl,h1,h2⟩:=r
  exact⟨x,rr,rfl,jZ (is:=is) h2 (R.set i h1) e k⟩
 | [],_::_,_,_,_,_,_,_,e,_=>by cases e
 | _::_,[],_,_,_,_,_,_,e,_=>by cases e
theorem j5:∀{is:List Nat}{ws:List Wv}{ρ ρ':aT},sv is ws ρ=some ρ'->ws.length=is.length
 | [],[],_,_,_=>rfl
 | _::is,_::ws,_,_,e=>congrArg (· +1) (j5 (is:=is) (ws:=ws) e)
 | [],_::_,_,_,e=>by cases e
 | _::_,[],_,_,e=>by cases e
inductive Slots(X:Cx):List Expr->List Nat->Prop
 | nil:Slots X [] []
 | cons {x:Str} {p:Pos} {i:Nat} {es:List Expr} {is:List Nat}:X.N[i]? =some x->(Loc X.env.scope x/\(X.fn x=true\/X.env.scope.names.lookup x=some .local))->Slots X es is->Slots X (.Name x p::es) (i::is)
theorem iX(hN:X.N.Nodup):∀{es:List Expr}{is:List Nat},Slots X es is->K6 X es (O8 is)
 | _,_,.nil=>Dg
 | _,_,.cons h1 h2 r=>zF (jP hN h1 h2.1 h2.2) (iX hN r) rfl
theorem j6:∀{es:List Expr}{is:List Nat},Slots X es is->(assignEach es X.env).length=is.length
 | _,_,.nil=>rfl
 | _,_,.cons _ _ r=>congrArg (· +1) (j6 r)
theorem iY:∀{es:List Expr}{is:List Nat},Slots X es is->(assignEach es X.env).findIdx? (·.1)=none
 | _,_,.nil=>rfl
 | _,_,.cons (x:=x) (p:=p) (es:=es) _ _ r=>by
  have q:=iY r
  show List.findIdx? _ ((false,assign (.Name x p) X.env)::assignEach es X.env)=none
  rw[List.findIdx?_cons]
  simp[q]
def sx(is:List Nat)(g:GE):GS:=λρ st=>(g ρ st).aM ρ λw st'=>match KG is w ρ with
 | some ρ'=> .nx ρ' st'
 | none=> .bad
theorem D_{es:List Expr}{is:List Nat}{k:Nat}{e:Expr}{g:GE}{pos pos':Pos}(hN:X.N.Nodup)(hc:X.calm=true)(sl:Slots X es is)(h:JE X e g)(hs:swapsWith e (some (.Tuple es k pos')) pos.line X.env=pure false)(hw:swappedStores [.Tuple es k pos'] e X.env=pure none) :
  JS X (.Assign [.Tuple es k pos'] e pos) (sx is g) :=
 JS.of (zG aD (uv hc (iX hN sl) (j6 sl) (iY sl)) (by unfold swapsWithSole;exact hs) hw rfl) λρ st σ H m D S R p=>h.go S R (aw.bB R p) λw st1 v m1 H1 q e1 S1 r1=>by
  cases w with
  | tup ws=>
   have q':aw X m H (match sv is ws ρ with | some ρ'=> .nx ρ' st1 | none=> .bad) D:=q
   cases e2:sv is ws ρ with
   | none=>rw[e2] at q';exact False.elim q'
   | some ρ'=>
    rw[e2] at q'
    unfold ag at r1
    obtain⟨a,xs,rfl,f1,f2⟩:=r1
    exact⟨a,xs,rfl,dU.of f1,by rw[<-f2.length];exact j5 e2,jZ f2 (R.mono e1) e2 λσ' R'=>q' σ' m1 H1 e1 S1 R'⟩
  | _=>exact False.elim q
open Classical in
def lE(is:List Nat)(gb:GS)(l:Nat)(all:List Wv):List Wv->aT->Hs->Rs
 | [],ρ,st=> .nx ρ st
 | w::r,ρ,st=>match KG is w ρ with
  | none=> .bad
  | some ρ1=>match gb ρ1 st with
   | .nx ρ' st'=>if af st' l=some all then lE is gb l all r ρ' st' else .bad
   | .ct ρ' st'=>if af st' l=some all then lE is gb l all r ρ' st' else .bad
   | .bk ρ' st'=> .nx ρ' st'
   | .rt w st'=> .rt w st'
   | .err c ρ' st'=> .err c ρ' st'
   | .bad=> .bad
def sA(is:List Nat)(gi:GE)(gb:GS):GS:=λρ st=>(gi ρ st).aM ρ λw st1=>match w with
 | .ref l=>(match af st1 l with | some ws=>lE is gb l ws ws ρ st1 | none=> .bad)
 | _=> .bad
theorem Ea{es:List Expr}{is:List Nat}{k:Nat}{iter:Expr}{body:List Stmt}{gi:GE}{gb:GS}{pos pos':Pos}(hN:X.N.Nodup)(hp:PassesOwn (model X.prog X.w) X.A X.env X.xe)(hc:X.calm=true)(sl:Slots X es is)(hi:JE X iter gi)(hb:jl X body gb)
  (hs:∀x,W3 iter X.env x=pure x):JS X (.For (.Tuple es k pos') iter body [] pos) (sA is gi gb):=by
 refine JS.of (kH hp hc (Di aD) (uv hc (iX hN sl) (j6 sl) (iY sl)) cK hs) λρ st σ H m D S R p=>?_
 refine hi.go S R (aw.bB R p) λw st1 v m1 H1 p1 e1 S1 rw'=>?_
 cases w with
 | ref l=>
  have p1':aw X m H (match af st1 l with | some ws=>lE is gb l ws ws ρ st1 | none=> .bad) D:=p1
  unfold ag at rw'
  obtain⟨a,rfl,hla⟩:=rw'
  cases el:af st1 l with
  | none=>rw[el] at p1';exact False.elim p1'
  | some ws=>
   rw[el] at p1'
   obtain⟨D4,q0,_⟩:=S1.read hla el
   refine⟨a,rfl,⟨D4,q0⟩,?_⟩
   let Pv:Nat->St->Hp->Prop:=λk σ H=>∃ρ st m',Ext X.K m1 H1 m' H/\aL X.K m' st H/\ar X.K m' H ρ σ/\af st l=some ws/\aw X m' H (lE is gb l ws (ws.drop k) ρ st) D
   refine⟨λk n σ H=>n=ws.length - k/\k<=ws.length/\Pv k σ H,⟨ws.length,by simp,Nat.zero_le _,ρ,st1,m1,Ext.refl,S1,R.mono e1,el,aw.shift p1' e1⟩,?_⟩
   rintro k n σ2 H2 ⟨rfl,hk,ρ2,st2,m2,e2,S2,R2,l2,p2⟩
   obtain⟨xs,hq,rws⟩:=S2.read (e2.pre _ _ hla) l2
   have hlen:=rws.length
   by_cases hlt:k < ws.length
   ·have hx':k < xs.length:=by omega
    refine .inr ⟨⟨xs,xs[k],hq,by simp[hx']⟩,Pv (k+1),λσ' H' p'=>⟨ws.length - (k+1),by omega,rfl,hlt,p'⟩,λx H' y=>?_⟩
    obtain⟨ee,y⟩:=y
    subst ee
    have ey:=y xs hq
    have ed:ws.drop k=ws[k]::ws.drop (k+1):=List.drop_eq_getElem_cons hlt
    obtain⟨x',ex',kK⟩:=rws.get (i:=k) (w:=ws[k]) (List.getElem?_eq_getElem hlt)
    rw[ey] at ex'
    cases ex'
    rw[ed] at p2
    unfold lE at p2
    cases eb:ws[k] with
    | tup us=>
     rw[eb] at p2 kK
     dsimp only[KG] at p2
     cases e5:sv is us ρ2 with
     | none=>rw[e5] at p2;exact False.elim p2
     | some ρ5=>
      rw[e5] at p2
      dsimp only at p2
      unfold ag at kK
      obtain⟨b,ys,rfl,f1,f2⟩:=kK
      refine⟨b,ys,rfl,dU.of f1,by rw[<-f2.length];exact j5 e5,jZ f2 R2 e5 λσ5 R5=>?_⟩
      refine hb _ st2 _ _ m2 _ S2 R5 ?_
      cases eg:gb ρ5 st2 with
      | nx ρ3 st3=>
       rw[eg] at p2
       by_cases c:af st3 l=some ws
       ·simp only[if_pos c] at p2
        exact λσ3 m3 H3 e3 S3 R3=>⟨ρ3,st3,m3,e2.trans e3,S3,R3,c,aw.shift p2 e3⟩
       ·simp only[if_neg c] at p2;exact False.elim p2
      | ct ρ3 st3=>
       rw[eg] at p2
       by_cases c:af st3 l=some ws
       ·simp only[if_pos c] at p2
        exact λσ3 m3 H3 e3 S3 R3=>⟨ρ3,st3,m3,e2.trans e3,S3,R3,c,aw.shift p2 e3⟩
       ·simp only[if_neg c] at p2;exact False.elim p2
      | bk ρ3 st3=>rw[eg] at p2;exact p2
      | rt w3 st3=>rw[eg] at p2;exact p2
      | err c3 ρ3 st3=>rw[eg] at p2;exact p2
      | bad=>rw[eg] at p2;exact p2
    | _=>rw[eb] at p2;exact False.elim p2
   ·have e:k=ws.length:=by omega
    subst e
    rw[List.drop_length] at p2
    exact .inl ⟨⟨xs,hq,by omega⟩,p2 σ2 m2 H2 Ext.refl S2 R2⟩
 | _=>exact False.elim p1
end
end J
namespace J
open PySem PySem.Spec PyProof.Rows L2
def kQ(env:Env):List (Str×WR)->List (Str×WN)->List (Str×WN)
 | [],acc=>acc
 | (n,k)::r,acc=>if k= .free then kQ env r ((n,(env.cells.lookup n).getD 0)::acc) else kQ env r acc
theorem sC(env:Env):∀(names:List (Str×WR))(acc:List (Str×WN)),(∀y∈names,y.2= .free->∃c,env.cells.lookup y.1=some c)->
  (forIn names acc λx r=>match x with
   | (name,kind)=>if(kind == NameKind.free)=true then do let c <-cellOf env name;pure (ForInStep.yield ((name,c)::r)) else(pure (ForInStep.yield r):Sem _))=pure (kQ env names acc)
 | [],acc,_=>rfl
 | (n,k)::r,acc,h=>by
  have ih:=λacc=>sC env r acc λy hy=>h y (List.mem_cons_of_mem _ hy)
  rw[List.forIn_cons]
  by_cases hk:k= .free
  ·subst hk
   obtain⟨c,e⟩:=h (n,.free) List.mem_cons_self rfl
   have e':env.cells.lookup n=some c:=e
   have cc:cellOf env n=pure c:=by unfold cellOf;rw[e']
   simp only[beq_self_eq_true,if_true,cc]
   have q:kQ env ((n,.free)::r) acc=kQ env r ((n,c)::acc):=by
    show(if NameKind.free= .free then kQ env r ((n,(env.cells.lookup n).getD 0)::acc) else _)=_
    rw[if_pos rfl,e']
    rfl
   rw[q,<-ih]
   rfl
  ·have hb:(k == NameKind.free)=false:=by simpa using hk
   simp only[hb,Bool.false_eq_true,if_false]
   have q:kQ env ((n,k)::r) acc=kQ env r acc:=by
    show(if k= .free then _ else kQ env r acc)=_
    rw[if_neg hk]
   rw[q,<-ih]
   rfl
theorem Eb{env:Env}{scope:Scope}(h:∀y∈scope.names,y.2= .free->∃c,env.cells.lookup y.1=some c):closureFor scope env=pure (kQ env scope.names []):=by
 have q:=sC env scope.names [] h
 unfold closureFor
 first
  | (rw[<-q];rfl)
  | (simp only[bind_pure];exact q)
theorem qx{env:Env}:∀{names:List (Str×WR)}{acc:List (Str×WN)}{y:Str}{c:WN},(∀y∈names,y.2= .free->∃c,env.cells.lookup y.1=some c)->(∀y c,acc.lookup y=some c->env.cells.lookup y=some c)->(kQ env names acc).lookup y=some c->env.cells.lookup y=some c
 | [],acc,y,c,_,ha,e=>ha y c e
 | (n,k)::r,acc,y,c,h,ha,e=>by
  unfold kQ at e
  by_cases hk:k= .free
  ·rw[if_pos hk] at e
   subst hk
   obtain⟨c0,e0⟩:=h (n,.free) List.mem_cons_self rfl
   have T5:env.cells.lookup n=some c0:=e0
   refine qx (λy hy=>h y (List.mem_cons_of_mem _ hy)) (λy' c' e'=>?_) e
   rw[List.lookup_cons] at e'
   cases q:y' == n with
   | true=>
    rw[q] at e'
    have q':=eq_of_beq q
    subst q'
    rw[T5] at e' ⊢
    exact e'
   | false=>rw[q] at e';exact ha y' c' e'
  ·rw[if_neg hk] at e
   exact qx (λy hy=>h y (List.mem_cons_of_mem _ hy)) ha e
theorem mj{env:Env}{y:Str}:∀{names:List (Str×WR)}{acc:List (Str×WN)},((∃c,acc.lookup y=some c)\/(y,NameKind.free)∈names)->∃c,(kQ env names acc).lookup y=some c
 | [],acc,h=>by
  rcases h with h | h
  ·exact h
  ·cases h
 | (n,k)::r,acc,h=>by
  unfold kQ
  by_cases hk:k= .free
  ·rw[if_pos hk]
   refine mj ?_
   rw[List.lookup_cons]
   cases q:y == n with
   | true=>exact .inl ⟨_,rfl⟩
   | false=>
    rcases h with h | h
    ·exact .inl h
    ·rcases List.mem_cons.mp h with h | h
     ·cases h;simp at q
     ·exact .inr h
  ·rw[if_neg hk]
   refine mj ?_
   rcases h with h | h
   ·exact .inl h
   ·rcases List.mem_cons.mp h with h | h
    ·cases h;exact absurd rfl hk
    ·exact .inr h
theorem lookup_mem{α β:Type}[BEq α][LawfulBEq α]{y:α}{k:β}:∀{names:List (α×β)},names.lookup y=some k->(y,k)∈names
 | [],h=>by cases h
 | (n,j)::r,h=>by
  rw[List.lookup_cons] at h
  cases q:y == n with
  | true=>
   rw[q] at h
   cases h
   have q':=eq_of_beq q
   subst q'
   exact List.mem_cons_self
  | false=>rw[q] at h;exact List.mem_cons_of_mem _ (lookup_mem h)
theorem mZ{env:Env}:∀{names:List (Str×WR)}{y:Str},(names.map λ(n,k)=>if(k == NameKind.free&&env.scope.kind == .function&&env.kindOf n == some .cell) then(n,NameKind.cell) else(n,k)).lookup y=
  (names.lookup y).map λk=>if(k == NameKind.free&&env.scope.kind == .function&&env.kindOf y == some .cell)=true then NameKind.cell else k
 | [],y=>rfl
 | (n,k)::r,y=>by
  have ih:=mZ (env:=env) (names:=r) (y:=y)
  show List.lookup y ((if(k == NameKind.free&&env.scope.kind == .function&&env.kindOf n == some .cell)=true then(n,NameKind.cell) else(n,k))::_)=_
  cases q:y == n with
  | true=>
   have q':=eq_of_beq q
   subst q'
   by_cases hc:(k == NameKind.free&&env.scope.kind == .function&&env.kindOf y == some .cell)=true
   ·rw[if_pos hc]
    simp only[List.lookup_cons,beq_self_eq_true,Option.map_some]
    rw[if_pos hc]
   ·rw[if_neg hc]
    simp only[List.lookup_cons,beq_self_eq_true,Option.map_some]
    rw[if_neg hc]
  | false=>
   by_cases hc:(k == NameKind.free&&env.scope.kind == .function&&env.kindOf n == some .cell)=true
   ·rw[if_pos hc];simp only[List.lookup_cons,q];exact ih
   ·rw[if_neg hc];simp only[List.lookup_cons,q];exact ih
open Classical in
def iH(ck:Hs->Prop)(gt:Wv->Hs->Re Bool)(ge:Wv->Hs->Re Wv)(l:Nat):List Wv->Hs->Option Hs
 | [],st=>some st
 | w::r,st=>match gt w st with
  | .ok false st1=>if ck st1 then iH ck gt ge l r st1 else none
  | .ok true st1=>(match ge w st1 with
   | .ok v st2=>(match jz (.ref l) v st2 with
    | .ok _ st3=>if ck st3 then iH ck gt ge l r st3 else none
    | _=>none)
   | _=>none)
  | _=>none
open Classical in
def lF(ck:Hs->Prop)(gt:Wv->Hs->Re Bool)(ge:Wv->Hs->Re Wv)(l:Nat):List Wv->Hs->Re Unit
 | [],st=> .ok () st
 | w::r,st=>match gt w st with
  | .ok false st1=>if ck st1 then lF ck gt ge l r st1 else .bad
  | .ok true st1=>(match ge w st1 with
   | .ok v st2=>(match jz (.ref l) v st2 with
    | .ok _ st3=>if ck st3 then lF ck gt ge l r st3 else .bad
    | _=> .bad)
   | .err c st2=> .err c st2
   | .bad=> .bad)
  | .err c st1=> .err c st1
  | .bad=> .bad
theorem m6{ck:Hs->Prop}{gt:Wv->Hs->Re Bool}{ge:Wv->Hs->Re Wv}{l:Nat}{wy:Hs}:∀(ws:List Wv)(st:Hs),iH ck gt ge l ws st=some wy->lF ck gt ge l ws st= .ok () wy
 | [],st,h=>by cases h;rfl
 | w::r,st,h=>by
  unfold iH at h
  unfold lF
  cases eg:gt w st with
  | err c st1=>rw[eg] at h;cases h
  | bad=>rw[eg] at h;cases h
  | ok b st1=>
   rw[eg] at h
   cases b with
   | false=>
    dsimp only at h ⊢
    by_cases c:ck st1
    ·rw[if_pos c] at h ⊢;exact m6 r st1 h
    ·rw[if_neg c] at h;cases h
   | true=>
    dsimp only at h ⊢
    cases ee:ge w st1 with
    | err c st2=>rw[ee] at h;cases h
    | bad=>rw[ee] at h;cases h
    | ok v st2=>
     rw[ee] at h
     dsimp only at h ⊢
     cases ea:jz (.ref l) v st2 with
     | err c st3=>rw[ea] at h;cases h
     | bad=>rw[ea] at h;cases h
     | ok u st3=>
      rw[ea] at h
      dsimp only at h ⊢
      by_cases c:ck st3
      ·rw[if_pos c] at h ⊢;exact m6 r st3 h
      ·rw[if_neg c] at h;cases h
abbrev e8:=List (Str×Nat)
def gn(cs:e8)(ρ:aT):aT:=cs.map λp=>(ρ[p.2]?).getD none
def qy(cs:e8)(σ:St):St:=cs.map λp=>(σ[p.2]?).getD none
theorem Ec{K:PySem.W.Frag}{m:Mp}{H:Hp}{ρ:aT}{σ:St}(cs:e8)(R:ar K m H ρ σ):ar K m H (gn cs ρ) (qy cs σ):=by
 refine⟨by unfold gn qy;simp,λi w e=>?_⟩
 unfold gn at e
 rw[List.getElem?_map] at e
 cases q:cs[i]? with
 | none=>rw[q] at e;cases e
 | some p=>
  rw[q] at e
  have e':(ρ[p.2]?).getD none=some w:=by simpa using e
  cases q2:ρ[p.2]? with
  | none=>rw[q2] at e';cases e'
  | some o=>
   rw[q2] at e'
   have e2:o=some w:=e'
   subst e2
   obtain⟨v,h1,h2⟩:=R.get _ _ q2
   refine⟨v,?_,h2⟩
   unfold qy
   rw[List.getElem?_map,q]
   simp[h1]
def eh(X:Cx)(scope:Scope)(x:Str)(cs:e8)(C:WN)(s0:WT)(H0:Hp)(fp:List WN)(pn:List (WN×Obj))(E:WU->WT->Prop):Cx where
 prog:=X.prog
 w:=X.w
 K:=X.K
 mg:=X.mg
 base:=X.base
 A:=X.A
 N:=x::cs.map (·.1)
 s₀:=s0
 H₀:=H0
 env:=compEnvC scope (kQ X.env scope.names []) C X.env
 outer:=X.stack
 stack:=X.stack
 ex:=fp
 fn:=λ_=>false
 calm:=X.calm
 pn:=pn
 xe:=E
structure cQ(X:Cx)(scope:Scope)(x:Str)(cs:e8):Prop where
 kind:scope.kind= .function
 look:∀y∈scope.names,scope.names.lookup y.1=some y.2
 cell:∀y∈scope.names,y.2≠.cell
 var:scope.names.lookup x=some .local
 cap:∀y∈scope.names,y.2= .free->X.env.kindOf y.1=some .cell\/X.env.kindOf y.1=some .free
 at_:∀p∈cs,X.N[p.2]? =some p.1/\scope.names.lookup p.1=some .free
 nd:(x::cs.map (·.1)).Nodup
section
variable {X:Cx} {pins:List (WN×Obj)} {σ:St} {H:Hp} {s:WT} {scope:Scope} {x:Str} {cs:e8}
theorem sD(I:Inv X pins σ H s){b:WN}(f:eD X pins H b):b∉frs X.stack:=λz=>by
 rcases List.mem_cons.mp (I.mE b z) with q | q
 ·exact f.2.1 q
 ·exact f.2.2.1 q
theorem cQ.has(S:cQ X scope x cs)(ok:X.Ok):∀y∈scope.names,y.2= .free->∃c,X.env.cells.lookup y.1=some c:=λy hy e=>ok.has y.1 (S.cap y hy e)
theorem cQ.sub(S:cQ X scope x cs)(ok:X.Ok){y:Str}{c:WN}(e:(kQ X.env scope.names []).lookup y=some c):X.env.cells.lookup y=some c :=
 qx (S.has ok) (λ_ _ z=>by cases z) e
theorem cQ.IA(S:cQ X scope x cs)(ok:X.Ok){C:WN}{y:Str}(h:(compEnvC scope (kQ X.env scope.names []) C X.env).kindOf y=some .cell\/(compEnvC scope (kQ X.env scope.names []) C X.env).kindOf y=some .free):scope.names.lookup y=some .free:=by
 have q:(compEnvC scope (kQ X.env scope.names []) C X.env).kindOf y=(scope.names.lookup y).map λk=>if(k == NameKind.free&&X.env.scope.kind == .function&&X.env.kindOf y == some .cell)=true then NameKind.cell else k:=mZ
 rw[q] at h
 cases e:scope.names.lookup y with
 | none=>rw[e] at h;simp at h
 | some k=>
  rw[e] at h
  simp only[Option.map_some,Option.some.injEq] at h
  by_cases hk:k= .free
  ·rw[hk]
  ·have hb:(k == NameKind.free)=false:=by simpa using hk
   rw[hb] at h
   simp only[Bool.false_and,Bool.false_eq_true,if_false] at h
   rcases h with h | h
   ·exact absurd h (S.cell (y,k) (lookup_mem e))
   ·exact absurd h hk
theorem cQ.AZ(S:cQ X scope x cs){C:WN}{y:Str}(e:scope.names.lookup y=some .free):(compEnvC scope (kQ X.env scope.names []) C X.env).kindOf y=some .cell\/(compEnvC scope (kQ X.env scope.names []) C X.env).kindOf y=some .free:=by
 have q:(compEnvC scope (kQ X.env scope.names []) C X.env).kindOf y=(scope.names.lookup y).map λk=>if(k == NameKind.free&&X.env.scope.kind == .function&&X.env.kindOf y == some .cell)=true then NameKind.cell else k:=mZ
 rw[q,e]
 simp only[Option.map_some]
 split
 ·exact .inl rfl
 ·exact .inr rfl
theorem A0{fp:List WN}{h2:Heap}{tk:Nat}{E:WU->WT->Prop}(S:cQ X scope x cs)(I:Inv X pins σ H s)(hf:∀b∈fp,eD X pins H b)(hl:∀b∈fp,b < s.heap.objs.size)
  (ns:h2.Ns s.heap.objs.size (λy=>([]:List (Str×WU)).reverse.lookup y))(sb:Heap.SameBut s.heap.objs.size (s.heap.push { cls:=.type "dict",data:=.dict #[] }) h2) :
  Inv (eh X scope x cs s.heap.objs.size s H fp (X.pn++pins) E) [] (none::qy cs σ) H { s with heap:=h2,toks:=tk }:=by
 have keep:∀b o,s.heap.get? b=some o->h2.get? b=some o:=λb o e=>(sb.2 b (Nat.ne_of_lt (Heap.lt_size e))).trans (Heap.get?_push_of_some _ e)
 have sub:∀{y:Str}{c:WN},(kQ X.env scope.names []).lookup y=some c->X.env.cells.lookup y=some c:=λe=>S.sub I.ok e
 have cellK:∀y c,X.env.cells.lookup y=some c->∀v,s.heap.IsCell c v->h2.IsCell c v:=λy c _ v ⟨o,ho,hd⟩=>⟨o,keep c o ho,hd⟩
 refine⟨⟨I.ok.mod,S.kind,I.ok.glob,I.ok.blt,Nat.le_refl _,(λy z c e1 e2=>I.ok.inj y z c (sub e1) (sub e2)),λy h=>mj (.inr (lookup_mem (S.IA I.ok h))),(λy c e=>by cases e),I.ok.hd,I.ok.frames,.inl rfl,λb hb=>⟨Nat.ne_of_lt (hl b hb),λy c e=>(hf b hb).2.2.2.2.1 y c (sub e)⟩,I.bs,Nat.le_trans I.ok.C0 I.sz,λb o e hb=>?_,λb hb=>sD I (hf b hb),I.stack,I.jM⟩,rfl,I.bare,Un.kept keep,⟨_,ns,λi y v e1 e2 e3=>?_⟩,(λy c e=>?_),I.fresh,(λy c e=>I.d_ y c (sub e)),λp hp=>?_,I.hok.kept keep,by unfold eh qy;simp⟩
 ·rcases(hf b hb).2.2.2.1 with z | z
  ·exact I.ok.xH b o e z
  ·exact absurd (Nat.lt_of_lt_of_le (Heap.lt_size e) (Nat.le_trans I.ok.C0 z)) (Nat.lt_irrefl _)
 ·cases i with
  | zero=>cases e2
  | succ i=>
   have A3:(cs.map (·.1))[i]? =some y:=e1
   have yw:(qy cs σ)[i]? =some (some v):=e2
   unfold qy at yw
   rw[List.getElem?_map] at A3 yw
   cases q:cs[i]? with
   | none=>rw[q] at A3;cases A3
   | some p=>
    rw[q] at A3 yw
    have y1:p.1=y:=by simpa using A3
    have e4:(σ[p.2]?).getD none=some v:=by simpa using yw
    have e5:σ[p.2]? =some (some v):=by
     cases q2:σ[p.2]? with
     | none=>rw[q2] at e4;cases e4
     | some o=>
      rw[q2] at e4
      have:o=some v:=e4
      rw[this]
    have hp:=S.at_ p (List.mem_iff_getElem?.mpr ⟨i,q⟩)
    rw[y1] at hp
    have kd:=S.cap (y,.free) (lookup_mem hp.2) rfl
    obtain⟨m,hn,hl'⟩:=I.loc
    obtain⟨u,r,l⟩:=hl' p.2 y v hp.1 e5 (.inr kd)
    refine⟨u,r,.inr ⟨S.AZ hp.2,?_⟩⟩
    rcases l with ⟨l,_⟩ | ⟨_,c,e,z⟩
    ·rcases kd with kd | kd
     ·have O9:X.env.kindOf y=some .cell:=kd
      rw[O9] at l;cases l
     ·have O9:X.env.kindOf y=some .free:=kd
      rw[O9] at l;cases l
    ·obtain⟨c',e'⟩:=mj (env:=X.env) (y:=y) (names:=scope.names) (acc:=[]) (.inr (lookup_mem hp.2))
     have:=sub e'
     rw[e] at this
     cases this
     exact⟨c,e',cellK y c e _ z⟩
 ·obtain⟨v,z⟩:=I.cell y c (sub e)
  exact⟨v,cellK y c (sub e) v z⟩
 ·rw[List.append_nil] at hp
  obtain⟨e,n,ne,nf,d⟩:=I.pin p hp
  refine⟨keep _ _ e,n,Nat.ne_of_lt (Heap.lt_size e),λz=>?_,d⟩
  rcases List.mem_cons.mp (I.mE p.1 z) with q | q
  ·exact ne q
  ·exact nf q
theorem A4{fp:List WN}{E:WU->WT->Prop}{Hb He:Hp}{sb se:WT}{C:WN}{σ':St}{iu:List (WN×Obj)}(I:Inv X pins σ Hb sb)(hf:∀b∈fp,eD X pins Hb b)(J:Inv (eh X scope x cs C sb Hb fp (X.pn++pins) E) iu σ' He se):Inv X pins σ He se:=by
 have un:Un (frs X.stack) fp Hb He sb.heap se.heap:=J.base
 exact I.FE (ch:=fp) J.os un J.hok J.bare λb hb=>⟨(hf b hb).2.2.2.1,(hf b hb).2.1,(hf b hb).2.2.2.2.1,λp hp=>(hf b hb).2.2.2.2.2 p hp⟩
theorem pJ{He:Hp}{se:WT}{C:WN}{h2:Heap}(I:Inv X pins σ He se)(f:eD X pins He C)(same:Heap.SameBut C se.heap h2):Inv X pins σ He { se with heap:=h2 } :=
 I.turned (t':=se.toks) (it:=C) (λb o hb e=>(same.2 b hb).trans e) f.1 f.2.1 f.2.2.2.1 f.2.2.2.2.1 f.2.2.2.2.2
end
def A5(X:Cx):Prop:=∃(env:Env)(outer:List Env)(L:WN),X.stack=env::outer/\env.frame=some L/\X.env.frame=some L
section
variable {X:Cx} {pins:List (WN×Obj)} {σ:St} {scope:Scope} {x:Str} {cs:e8}
end
structure wz(Y:Cx->Prop)(P:WS)(w:WV)(K:PySem.W.Frag)(tg:Expr)(J:It)(fp:List WN)(it:WN)(tn:Nat->Heap->Prop):Prop where
 obj:∀i h,tn i h->∀b∈fp,∃o,h.get? b=some o/\∀v,o.data≠.cell v
 keep:∀i h h',tn i h->(∀b∈fp,∀o,h.get? b=some o->h'.get? b=some o)->tn i h'
 item:∀(X:Cx),X.prog=P->X.w=w->X.K=K->Y X->∀(i:Nat)(pins:List (WN×Obj))(s:WT)(σ:St)(H:Hp)(E:WU->WT->Prop),Inv X pins σ H s->(∀b∈fp,eD X pins H b)->tn i s.heap->J.go i H->W8 (model P w) X.A (pyNext (.ref it)) (λr s1=>∃u,r=some u/\
  W8 (model P w) X.A (letOwnedTupleGo tg (.ref it) u) (λ_ s2=>∃x H',Inv X pins σ H' s2/\RelV x u/\J.rK i H x H'/\tn (i+1) s2.heap/\∀b∈fp,H' b=none) E s1) E s
 done:∀(X:Cx),X.prog=P->X.w=w->X.K=K->Y X->∀(i:Nat)(pins:List (WN×Obj))(s:WT)(σ:St)(H:Hp)(E:WU->WT->Prop),Inv X pins σ H s->(∀b∈fp,eD X pins H b)->tn i s.heap->J.stop i H->W8 (model P w) X.A (pyNext (.ref it)) (λr s1=>r=none/\Inv X pins σ H s1) E s
 self:∀(A:WO)(i:Nat)(s:WT)(Q:WU->WT->Prop)(E:WU->WT->Prop),tn i s.heap->Q (.ref it) s->W8 (model P w) A (pyIter (.ref it)) Q E s
abbrev Calm(X:Cx):Prop:=X.calm=true
theorem _root_.L2.Turn.y{P:WS}{w:WV}{K:PySem.W.Frag}{tg:Expr}{J:It}{fp:List WN}{it:WN}{tn:Nat->Heap->Prop}(T:Turn P w K tg J fp it tn):wz Calm P w K tg J fp it tn:=⟨T.obj,T.keep,T.item,T.done,T.self⟩
def KH(Y:Cx->Prop)(X:Cx):Prop:=∀{pins:List (WN×Obj)}{σ:St}{H:Hp}{s:WT}(scope:Scope)(x:Str)(cs:e8)(C:WN)(s0:WT)(fp:List WN)(pn:List (WN×Obj))(E:WU->WT->Prop),Inv X pins σ H s->Y (eh X scope x cs C s0 H fp pn E)
theorem sE{X:Cx}(hc:X.calm=true):KH Calm X:=λ_ _ _ _ _ _ _ _ _=>hc
def F9(X:Cx)(ifs:List Expr)(g:GT):Prop:=∀(ρ:aT)(st:Hs)(σ:St)(H:Hp)(m:Mp)(Q:Bool->Hp->Prop),aL X.K m st H->ar X.K m H ρ σ->f_ X σ m H (g ρ st) Q->∀(pins:List (WN×Obj))(s:WT),Inv X pins σ H s->
 W8 (model X.prog X.w) X.A (forIn ifs true λc r=>if r=true then do let ok <-isTrue c X.env (eval c X.env);pure (ForInStep.yield ok) else pure (ForInStep.yield r)) (TP X pins σ Q) X.xe s
section
variable {X:Cx}
theorem Ed:F9 X [] (λ_ st=> .ok true st):=λρ st σ H m Q S R p pins s I=>wpAny_tests_nil ⟨H,I,p m H Ext.refl S⟩
theorem Ee{c:Expr}{g:GT}(h:JT X c g):F9 X [c] g:=λρ st σ H m Q S R p pins s I=>wpAny_tests_one (h ρ st σ H m Q S R p pins s I)
theorem uW{pins:List (WN×Obj)}{σ:St}{ρ:aT}{scope:Scope}{x:Str}{cs:e8}{px pos:Pos}{elt iter:Expr}{ifs:List Expr}{gt:GT}{ge:GE}{ck:Hs->Prop}{ws:List Wv}{E:WU->WT->Prop}
  {use:Option (WU->Sem Unit)}{Q:WU->WT->Prop}{res:Re Unit}
  {it:WN}{fp:List WN}{tn:Nat->Heap->Prop}{J':It}{H2:Hp}{s2:WT}{m1:Mp}{st1:Hs}{Y:Cx->Prop}(fr:A5 X)(S:cQ X scope x cs)(hY:KH Y X)(hH:uV X)(I2:Inv X pins σ H2 s2)(T:wz Y X.prog X.w X.K (.Name x px) J' fp it tn)(t0:tn 0 s2.heap)(f2:∀b∈fp,eD X pins H2 b)
  (S1:aL X.K m1 st1 H2)(R:ar X.K m1 H2 ρ σ)(hck:ck (st1++[.lst []]))(run:lF ck (λw=>gt (some w::gn cs ρ)) (λw=>ge (some w::gn cs ρ)) st1.length ws (st1++[.lst []])=res)(nb:res≠.bad)(hx:∀c T6,res≠.err c T6)
  (hE:∀C s0 H0 pn E,yt X.A H0->JE (eh X scope x cs C s0 H0 fp pn E) elt ge)(hT:∀C s0 H0 pn E,yt X.A H0->F9 (eh X scope x cs C s0 H0 fp pn E) ifs gt)
  (hgo:∀(k:Nat)(H:Hp)(m':Mp)(st:Hs),Ext X.K m1 H2 m' H->aL X.K m' st H->ck st->k < ws.length->J'.go k H)(hstop:∀(k:Nat)(H:Hp)(m':Mp)(st:Hs),Ext X.K m1 H2 m' H->aL X.K m' st H->ck st->k=ws.length->J'.stop k H)
  (hy:∀(k:Nat)(hk:k < ws.length)(H:Hp)(v:V)(H':Hp)(m':Mp)(st:Hs),Ext X.K m1 H2 m' H->aL X.K m' st H->ck st->J'.rK k H v H'->H'=H/\ag X.K m' H ws[k] v)
  (fin:∀(wy:Hs),res= .ok () wy->∀(D C:WN)(mm:Str->Option WU)(m':Mp)(H':Hp)(s':WT),Ext X.K m1 H2 m' H'->aL X.K m' wy H'->m'[st1.length]? =some D->Inv X pins σ H' s'->eD X pins H' C->s'.heap.Ns C mm->(∀y c,X.env.cells.lookup y=some c->c≠C)->W0 (model X.prog X.w) X.A X.xe use Q (.ref D) C (.ok .next) s') :
  W8 (model X.prog X.w) X.A (newList []) (λacc s3=>W8 (model X.prog X.w) X.A (newFunctionEnv scope X.env.globals (kQ X.env scope.names []) [] X.env.qual none .none (some X.env)) (λcenv s4=>
   WZ (model X.prog X.w) X.A (.compStart (.ListComp elt [⟨.Name x px,iter,ifs,0⟩] scope pos) 0 (.ref it) acc { cenv with scope:=relabel scope X.env }) (W0 (model X.prog X.w) X.A X.xe use Q acc cenv.locals) s4) E s3) E s2:=by
 refine Xb ?_
 have I3:Inv X pins σ (upd H2 s2.heap.objs.size (.lst [])) { s2 with heap:=s2.heap.push { cls:=.type "list",data:=.seq ([]:List WU).toArray } }:=I2.Hy (ys:=[]) (its:=[]) (t':=s2.toks) .nil (Nat.zero_le _)
 have O_:∀b∈fp,b < s2.heap.objs.size:=λb hb=>by
  obtain⟨o,e,_⟩:=T.obj _ _ t0 b hb
  exact Heap.lt_size e
 have hD:H2 s2.heap.objs.size=none:=I2.fresh
 have f3:∀b∈fp,eD X pins (upd H2 s2.heap.objs.size (.lst [])) b:=λb hb=>⟨by rw[av (Nat.ne_of_lt (O_ b hb))];exact(f2 b hb).1,(f2 b hb).2⟩
 have S3:=S1.alloc (ws:=[]) (xs:=[]) hD ah.nil
 have e3:Ext X.K m1 H2 (m1++[s2.heap.objs.size]) (upd H2 s2.heap.objs.size (.lst [])):=Ext.more.trans (Ext.upd (.inl hD))
 have NB:(m1++[s2.heap.objs.size])[st1.length]? =some s2.heap.objs.size:=by
  rw[<-S1.len,List.getElem?_append_right (Nat.le_refl _),Nat.sub_self];rfl
 generalize Mm:({ s2 with heap:=s2.heap.push { cls:=.type "list",data:=.seq ([]:List WU).toArray } }:WT)=s3 at I3
 have RH:∀b o,s2.heap.get? b=some o->s3.heap.get? b=some o:=λb o e=>by rw[<-Mm];exact Heap.get?_push_of_some _ e
 have RI:∀b∈fp,b < s3.heap.objs.size:=λb hb=>by
  obtain⟨o,e,_⟩:=T.obj _ _ t0 b hb
  exact Heap.lt_size (RH b o e)
 generalize Wg:s2.heap.objs.size=D at *
 generalize Wh:upd H2 D (.lst [])=H3 at *
 generalize Wi:m1++[D]=m3 at *
 have R3:ar X.K m3 H3 (gn cs ρ) (qy cs σ):=(Ec cs R).mono e3
 generalize hrr:gn cs ρ=ρc at *
 generalize hss:qy cs σ=σc at *
 refine wpAny_newFunctionEnv S.cell (λ_ z=>nomatch z) (λh4 T7 RJ=>?_) S.kind
 have Ic:=λE=>A0 (E:=E) (tk:=s3.toks+([]:List (Str×WU)).length) S I3 f3 RI T7 RJ
 have T8:∀b o,s3.heap.get? b=some o->h4.get? b=some o:=λb o e=>(RJ.2 b (Nat.ne_of_lt (Heap.lt_size e))).trans (Heap.get?_push_of_some _ e)
 have t4:tn 0 h4:=T.keep _ _ _ t0 λb _ o e=>T8 b o (RH b o e)
 let EX:WU->WT->Prop:=notedBy (model X.prog X.w) X.A (compEnvC scope (kQ X.env scope.names []) s3.heap.objs.size X.env) λe s'=>W0 (model X.prog X.w) X.A X.xe use Q (.ref D) s3.heap.objs.size (.error e) s'
 let Xc:=eh X scope x cs s3.heap.objs.size s3 H3 fp (X.pn++pins) EX
 have noted:∀{σ':St}{m:Mp}{H:Hp}{c:Str}{st:Hs},Ext X.K m1 H2 m H->res= .err c st->KC Xc σ' m H c st:=λ_ er=>(hx _ _ er).elim
 have vis:Xc.env.scope.names.lookup x=some .local:=lookup_relabel_local S.var
 have O':∀(H':Hp),(∀b∈fp,H' b=none)->∀b∈fp,eD Xc [] H' b:=λH' hn b hb=>⟨hn b hb,Nat.ne_of_lt (RI b hb),sD I3 (f3 b hb),.inl hb,λy c e=>(f3 b hb).2.2.2.2.1 y c (S.sub I3.ok e),λp hp=>(f2 b hb).2.2.2.2.2 p (by have IB:p∈(X.pn++pins)++[]:=hp;rw[List.append_nil] at IB;exact IB)⟩
 let Pv:Nat->WT->Prop:=λk s'=>∃z H' st m',Inv Xc [] (z::σc) H' s'/\tn k s'.heap/\(∀b∈fp,H' b=none)/\Ext X.K m3 H3 m' H'/\aL X.K m' st H'/\ck st/\lF ck (λw=>gt (some w::ρc)) (λw=>ge (some w::ρc)) st1.length (ws.drop k) st=res
 have loop:∀s4:WT,Pv 0 s4->WZ (model X.prog X.w) X.A (.compLoop (.ListComp elt [⟨.Name x px,iter,ifs,0⟩] scope pos) 0 (.ref it) (.ref D) (compEnvC scope (kQ X.env scope.names []) s3.heap.objs.size X.env)) (W0 (model X.prog X.w) X.A X.xe use Q (.ref D) s3.heap.objs.size) s4:=λs4 p0=>by
  refine codeAny_compLoop_tests (λn s'=>∃k,n=ws.length - k/\k<=ws.length/\Pv k s') ?_ ws.length ⟨0,by simp,Nat.zero_le _,p0⟩
  rintro n s5 ⟨k,rfl,hk,z5,H5,zJ,m5,I5,RK,Nm,e5,S5,c5,cR⟩
  have KI:=e3.trans e5
  by_cases hlt:k < ws.length
  ·refine aM (T.item Xc rfl rfl rfl (hY _ _ _ _ _ _ _ _ I3) k [] s5 (z5::σc) H5 _ I5 (O' H5 Nm) RK (hgo k H5 m5 zJ KI S5 c5 hlt)) λr s6 h6=>?_
   obtain⟨u,rfl,h6⟩:=h6
   show W8 (model X.prog X.w) X.A (pure () >>= λ_=>assign (.Name x px) Xc.env u) _ _ s6
   refine W9 (aM h6 λ_ s7 h7=>?_)
   obtain⟨v,H7,I7,rv,yl,Pa,T9⟩:=h7
   obtain⟨rfl,T_⟩:=hy k hlt H5 v H7 m5 zJ KI S5 c5 yl
   have Nz:=I7.pinned (O' H7 T9) (T.obj _ _ Pa)
   refine wpAny_assign_Name (jN (i:=0) Nz S.nd rfl (.inl vis) rv (λs8 I8=>?_) (.inr vis))
   have RL:Inv Xc ([]++eW fp s7.heap) (some v::σc) H7 s8:=I8
   have R8:ar X.K m5 H7 (some ws[k]::ρc) (some v::σc):=by
    have R5:=R3.mono e5
    refine⟨by simp[R5.len],λi w e=>?_⟩
    cases i with
    | zero=>
     cases e
     exact⟨v,rfl,T_⟩
    | succ i=>exact R5.get i w e
   have ed:ws.drop k=ws[k]::ws.drop (k+1):=List.drop_eq_getElem_cons hlt
   rw[ed] at cR
   unfold lF at cR
   have back:∀{H':Hp}{s':WT}{m':Mp}{st:Hs},Inv Xc ([]++eW fp s7.heap) (some v::σc) H' s'->Ext X.K m3 H3 m' H'->aL X.K m' st H'->ck st->lF ck (λw=>gt (some w::ρc)) (λw=>ge (some w::ρc)) st1.length (ws.drop (k+1)) st=res->∃n',n' < ws.length - k/\∃k',n'=ws.length - k'/\k'<=ws.length/\Pv k' s' :=
    λ{H' s' m' st} I' e' S' c' r'=>⟨ws.length - (k+1),by omega,k+1,rfl,hlt,some v,H',st,m',I'.jQ,T.keep _ _ _ Pa λb hb o e=>(I'.pin (b,o) (List.mem_append_right _ (List.mem_append_right _ (gD hb e)))).1,λb hb=>by
     obtain⟨o,e,_⟩:=T.obj _ _ Pa b hb
     exact(I'.pin (b,o) (List.mem_append_right _ (List.mem_append_right _ (gD hb e)))).2.1,e',S',c',r'⟩
   cases eg:gt (some ws[k]::ρc) zJ with
   | err c KJ=>
    rw[eg] at cR
    refine Xa (hT s3.heap.objs.size s3 H3 (X.pn++pins) EX (hH.at I3) (some ws[k]::ρc) zJ (some v::σc) H7 m5 (λ_ _=>False) S5 R8 (by rw[eg];exact noted KI cR.symm) ([]++eW fp s7.heap) s8 RL) (λ_ _ h9=>?_) λ_ _ z=>z
    obtain⟨_,_,z⟩:=h9
    exact z.elim
   | bad=>rw[eg] at cR;exact absurd cR.symm nb
   | ok b KJ=>
    rw[eg] at cR
    have FX:=hT s3.heap.objs.size s3 H3 (X.pn++pins) EX (hH.at I3) (some ws[k]::ρc) zJ (some v::σc) H7 m5 (λb' H'=>b'=b/\∃m',Ext X.K m5 H7 m' H'/\aL X.K m' KJ H') S5 R8 (by rw[eg];exact λm' H' e' S'=>⟨rfl,m',e',S'⟩) ([]++eW fp s7.heap) s8 RL
    refine Xa FX (λok s9 h9=>?_) λ_ _ z=>z
    obtain⟨H9,I9,rfl,m9,e9,S9⟩:=h9
    cases ok with
    | false=>
     dsimp only at cR
     by_cases c6:ck KJ
     ·rw[if_pos c6] at cR
      rw[if_neg Bool.false_ne_true]
      exact back I9 (e5.trans e9) S9 c6 cR
     ·rw[if_neg c6] at cR;exact absurd cR.symm nb
    | true=>
     dsimp only at cR
     rw[if_pos rfl]
     cases ee:ge (some ws[k]::ρc) KJ with
     | err c NC=>
      rw[ee] at cR
      refine Xa (hE s3.heap.objs.size s3 H3 (X.pn++pins) EX (hH.at I3) (some ws[k]::ρc) KJ (some v::σc) H9 m9 (λ_ _=>False) S9 (R8.mono e9) (by rw[ee];exact noted (KI.trans e9) cR.symm) ([]++eW fp s7.heap) s9 I9) (λ_ _ Pb=>?_) λ_ _ z=>z
      obtain⟨_,_,_,_,z⟩:=Pb
      exact z.elim
     | bad=>rw[ee] at cR;exact absurd cR.symm nb
     | ok w NC=>
      rw[ee] at cR
      dsimp only at cR
      cases ea:jz (.ref st1.length) w NC with
      | err c Pc=>rw[ea] at cR;exact absurd cR.symm nb
      | bad=>rw[ea] at cR;exact absurd cR.symm nb
      | ok w2 Pc=>
       rw[ea] at cR
       dsimp only at cR
       by_cases c8:ck Pc
       ·rw[if_pos c8] at cR
        have el:=hE s3.heap.objs.size s3 H3 (X.pn++pins) EX (hH.at I3) (some ws[k]::ρc) KJ (some v::σc) H9 m9 (λv' H'=>∃m',Ext X.K m9 H9 m' H'/\aL X.K m' NC H'/\ag X.K m' H' w v') S9 (R8.mono e9) (by rw[ee];exact λv' m' H' e' S' r'=>⟨m',e',S',r'⟩) ([]++eW fp s7.heap) s9 I9
        refine Xa el (λu2 Pe Pb=>?_) λ_ _ z=>z
        obtain⟨v2,KL,Ua,r2,Pf,Pg,Ub,Ph⟩:=Pb
        obtain⟨r,h1,h2⟩:=AY (X:=Xc)
        have eA:=(e5.trans e9).trans Pg
        have ro:ag X.K Pf KL (.ref st1.length) (.ref D):=by unfold ag;exact⟨D,rfl,eA.pre _ _ NB⟩
        have rd:=h2 (.ref st1.length) w (.ref D) v2 NC KL Pf (λ_ H'=>∃m',Ext X.K Pf KL m' H'/\aL X.K m' Pc H') Ub ro Ph (by rw[ea];exact λv' m' H' e' S' r'=>⟨m',e',S'⟩)
        refine Xa (h1 ([]++eW fp s7.heap) Pe (some v::σc) KL (.ref D) [v2] (.ref D) [u2] _ Ua rfl (.cons r2 .nil) rd) (λ_ Wj h11=>?_) λ_ _ z=>z
        obtain⟨_,RM,Uc,_,Wl,Ud,Ue⟩:=h11
        exact back Uc (eA.trans Ud) Ue c8 cR
       ·rw[if_neg c8] at cR;exact absurd cR.symm nb
  ·have ek:k=ws.length:=by omega
   subst ek
   refine aM (T.done Xc rfl rfl rfl (hY _ _ _ _ _ _ _ _ I3) _ [] s5 (z5::σc) H5 _ I5 (O' H5 Nm) RK (hstop _ H5 m5 zJ KI S5 c5 rfl)) λr s6 h6=>?_
   obtain⟨rfl,I6⟩:=h6
   rw[List.drop_length] at cR
   obtain⟨mm,Ug,_⟩:=id I6.loc
   have fC:=I3.rL (H':=H5) (Nat.le_refl _) I6.free
   exact fin zJ cR.symm D _ mm m5 H5 _ KI S5 (e5.pre _ _ NB) (A4 I3 f3 I6) fC Ug fC.2.2.2.2.1
 have p0:Pv 0 { s3 with heap:=h4,toks:=s3.toks+([]:List (Str×WU)).length }:=⟨none,H3,st1++[Ob.lst []],m3,hss ▸ Ic EX,t4,λb hb=>(f3 b hb).1,Ext.refl,S3,hck,by rw[List.drop_zero];exact run⟩
 exact codeAny_compStart_list (loop _ p0) (T.self X.A 0 _ _ _ t4 (loop _ p0))
end
end J
namespace J
open PySem PySem.Spec PyProof.Rows L2
abbrev Wk:=Option Nat×List Wv
def iI(w:Wk)(st:Hs):Prop:=match w.1 with
 | some l=>af st l=some w.2
 | none=>True
structure pK(X:Cx)(w:Wk)(m1:Mp)(H1:Hp)(J':It):Prop where
 go:∀(k:Nat)(H:Hp)(m':Mp)(st:Hs),Ext X.K m1 H1 m' H->aL X.K m' st H->iI w st->k < w.2.length->J'.go k H
 stop:∀(k:Nat)(H:Hp)(m':Mp)(st:Hs),Ext X.K m1 H1 m' H->aL X.K m' st H->iI w st->k=w.2.length->J'.stop k H
 rK:∀(k:Nat)(hk:k < w.2.length)(H:Hp)(v:V)(H':Hp)(m':Mp)(st:Hs),Ext X.K m1 H1 m' H->aL X.K m' st H->iI w st->J'.rK k H v H'->H'=H/\ag X.K m' H w.2[k] v
abbrev GI:=aT->Hs->Re Wk
def Pj(Y:Cx->Prop)(X:Cx)(pins:List (WN×Obj))(σ:St)(tg:Expr)(R:It->Hp->Prop)(itv:WU)(s2:WT):Prop :=
 ∃(it:WN)(fp:List WN)(tn:Nat->Heap->Prop)(J:It)(H':Hp),itv= .ref it/\Inv X pins σ H' s2/\wz Y X.prog X.w X.K tg J fp it tn/\tn 0 s2.heap/\(∀b∈fp,eD X pins H' b)/\R J H'
def Pk(Y:Cx->Prop)(X:Cx)(tg iter:Expr)(wi:TI):Prop:=∀(pins:List (WN×Obj))(s:WT)(σ:St)(H:Hp)(R:It->Hp->Prop),Inv X pins σ H s->wi σ H R->
 W8 (model X.prog X.w) X.A (eval iter X.env) (λv s1=>W8 (model X.prog X.w) X.A (pyIter v) (Pj Y X pins σ tg R) X.xe s1) X.xe s
theorem _root_.L2.PI.y{X:Cx}{tg iter:Expr}{wi:TI}(h:PI X tg iter wi):Pk Calm X tg iter wi:=λpins s σ H R I q=>aM (h pins s σ H R I q) λ_ _ h1=>aM h1 λ_ _ h2=>
 let ⟨it,fp,tn,J,H',e,I',T,r⟩:=h2;⟨it,fp,tn,J,H',e,I',T.y,r⟩
def KN(Y:Cx->Prop)(X:Cx)(tg iter:Expr)(gi:GI):Prop:=∃wi,Pk Y X tg iter wi/\∀(ρ:aT)(st:Hs)(σ:St)(H:Hp)(m:Mp)(R:It->Hp->Prop),aL X.K m st H->ar X.K m H ρ σ->
 aq X σ m H (gi ρ st) (λw st1=>∀(m1:Mp)(H1:Hp)(J':It),Ext X.K m H m1 H1->aL X.K m1 st1 H1->iI w st1->pK X w m1 H1 J'->R J' H1)->wi σ H R
def JI(X:Cx)(tg iter:Expr)(gi:GI):Prop:=∃wi,PI X tg iter wi/\∀(ρ:aT)(st:Hs)(σ:St)(H:Hp)(m:Mp)(R:It->Hp->Prop),aL X.K m st H->ar X.K m H ρ σ->
 aq X σ m H (gi ρ st) (λw st1=>∀(m1:Mp)(H1:Hp)(J':It),Ext X.K m H m1 H1->aL X.K m1 st1 H1->iI w st1->pK X w m1 H1 J'->R J' H1)->wi σ H R
theorem JI.y{X:Cx}{tg iter:Expr}{gi:GI}(h:JI X tg iter gi):KN Calm X tg iter gi:=let ⟨wi,h1,h2⟩:=h;⟨wi,h1.y,h2⟩
def IC(w:Wv)(st:Hs):Re Wk:=match w with
 | .ref l=>(match af st l with | some ws=> .ok (some l,ws) st | none=> .bad)
 | .tup ws=> .ok (none,ws) st
 | .mQ ws=> .ok (none,ws) st
 | _=> .bad
def A6(g:GE):GI:=λρ st=>(g ρ st).bind IC
section
variable {X:Cx}
theorem ID{tg iter:Expr}{g:GE}(h:JE X iter g):JI X tg iter (A6 g):=by
 refine⟨_,AM aD,λρ st σ H m Q S R p=>?_⟩
 refine h.go S R (aq.bind p) λw st1 v m1 H1 p1 e1 S1 rw'=>?_
 cases w with
 | ref l=>
  unfold ag at rw'
  obtain⟨a,rfl,hla⟩:=rw'
  unfold IC at p1
  cases el:af st1 l with
  | none=>simp only[el] at p1;exact False.elim p1
  | some ws=>
   simp only[el] at p1
   obtain⟨D4,q0,_⟩:=S1.read hla el
   refine⟨a,rfl,.inl ⟨⟨D4,q0⟩,p1 m1 H1 _ e1 S1 el ⟨λk H' m' st' e S' c hk=>?_,λk H' m' st' e S' c hk=>?_,λk hk H' v rA m' st' e S' c y=>?_⟩⟩⟩
   ·obtain⟨xs,hq,rws⟩:=S'.read (e.pre _ _ hla) c
    have hx':k < xs.length:=by rw[<-rws.length];exact hk
    exact⟨xs,xs[k],hq,by simp[hx']⟩
   ·obtain⟨xs,hq,rws⟩:=S'.read (e.pre _ _ hla) c
    exact⟨xs,hq,by rw[<-rws.length,hk];exact Nat.le_refl _⟩
   ·obtain⟨xs,hq,rws⟩:=S'.read (e.pre _ _ hla) c
    obtain⟨ee,y⟩:=y
    refine⟨ee,?_⟩
    obtain⟨x',ex',kK⟩:=rws.get (i:=k) (w:=ws[k]) (List.getElem?_eq_getElem hk)
    rw[y xs hq] at ex'
    cases ex'
    exact kK
 | tup ws=>
  unfold ag at rw'
  obtain⟨a,xs,rfl,hq,rws⟩:=rw'
  refine⟨a,rfl,.inr ⟨⟨xs,dU.of hq⟩,p1 m1 H1 _ e1 S1 trivial ⟨λk H' m' st' e S' c hk=>?_,λk H' m' st' e S' c hk=>?_,λk hk H' v rA m' st' e S' c y=>?_⟩⟩⟩
  ·have hx':k < xs.length:=by rw[<-rws.length];exact hk
   exact⟨xs,xs[k],dU.of (e.tup _ _ hq),by simp[hx']⟩
  ·exact⟨xs,dU.of (e.tup _ _ hq),by rw[<-rws.length,hk];exact Nat.le_refl _⟩
  ·obtain⟨ee,y⟩:=y
   refine⟨ee,?_⟩
   obtain⟨x',ex',kK⟩:=(ah.mono e _ _ rws).get (i:=k) (w:=ws[k]) (List.getElem?_eq_getElem hk)
   rw[y xs (dU.of (e.tup _ _ hq))] at ex'
   cases ex'
   exact kK
 | mQ ws=>
  unfold ag at rw'
  obtain⟨a,xs,rfl,hq,rws⟩:=rw'
  refine⟨a,rfl,.inr ⟨⟨xs,.inr hq⟩,p1 m1 H1 _ e1 S1 trivial ⟨λk H' m' st' e S' c hk=>?_,λk H' m' st' e S' c hk=>?_,λk hk H' v rA m' st' e S' c y=>?_⟩⟩⟩
  ·have hx':k < xs.length:=by rw[<-rws.length];exact hk
   exact⟨xs,xs[k],.inr hq,by simp[hx']⟩
  ·exact⟨xs,.inr hq,by rw[<-rws.length,hk];exact Nat.le_refl _⟩
  ·obtain⟨ee,y⟩:=y
   refine⟨ee,?_⟩
   obtain⟨x',ex',kK⟩:=(ah.mono e _ _ rws).get (i:=k) (w:=ws[k]) (List.getElem?_eq_getElem hk)
   rw[y xs (.inr hq)] at ex'
   cases ex'
   exact kK
 | _=>exact False.elim p1
theorem A7{lo:Int}{n:Nat}{m1:Mp}{H1:Hp}:pK X (none,bS lo n) m1 H1 (Dh lo n) where
 go:=λk H m' st e S c hk=>by
  have:(bS lo n).length=n:=dQ
  have hk':k < (bS lo n).length:=hk
  rw[this] at hk';exact hk'
 stop:=λk H m' st e S c hk=>by
  have:(bS lo n).length=n:=dQ
  have hk':k=(bS lo n).length:=hk
  rw[this] at hk';exact Nat.le_of_eq hk'.symm
 rK:=λk hk H v H' m' st e S c y=>by
  obtain⟨y1,y2⟩:=y
  refine⟨y1,?_⟩
  have q:(bS lo n)[k]'hk= .int (lo+k):=sk hk
  show ag X.K m' H ((bS lo n)[k]'hk) v
  rw[q,y2]
  exact mkInt
def sF(ws:List Wv)(st:Hs):Re Wk:=match ws with
 | [.int j]=>if je j then .ok (none,bS 0 j.toNat) st else .bad
 | _=> .bad
def F_(ws:List Wv)(st:Hs):Re Wk:=match ws with
 | [.int a,.int j]=>if je a/\je j then .ok (none,bS a (j - a).toNat) st else .bad
 | _=> .bad
def yx(g:GA):GI:=λρ st=>(g ρ st).bind sF
def Pl(g:GA):GI:=λρ st=>(g ρ st).bind F_
theorem Mn{tg a:Expr}{ga:GA}{p q:Pos}(hg:Gl X "range")(hm:X.mg "range"=none)(ha:JA X [a] ga)(hst:W7 [a] X.env=[(false,eval a X.env)]):JI X tg (.Call (.Name "range" p) [a] [] q) (yx ga):=by
 refine⟨_,o_ hg hm jk hst,λρ st σ H m Q S R p=>?_⟩
 refine ha.go S R (aq.bind p) λws st1 vs m1 H1 p1 e1 S1 rs=>?_
 match ws,rs,p1 with
 | [],rs,p1=>exact False.elim p1
 | x::y::t,rs,p1=>cases x<;>exact False.elim p1
 | [x],rs,p1=>
  obtain⟨v,rfl,r1⟩:=jd rs
  cases x with
  | int j=>
   cases aG r1
   unfold sF at p1
   by_cases c:je j
   ·simp only[if_pos c] at p1
    exact⟨j,rfl,c.1,c.2,p1 m1 H1 _ e1 S1 trivial A7⟩
   ·simp only[if_neg c] at p1;exact False.elim p1
  | _=>exact False.elim p1
def A8:GI:=λ_ _=> .bad
theorem A9{tg iter:Expr}:PI X tg iter (λ_ _ _=>False):=λ_ _ _ _ _ _ h=>h.elim
theorem A_{tg iter:Expr}:JI X tg iter A8:=⟨_,A9,λρ st σ H m Q S R p=>p⟩
def bQ(cs:e8)(gt:GT)(ge:GE)(ρ:aT)(w:Wk)(st:Hs):Re Wv:=match iH (iI w) (λv=>gt (some v::gn cs ρ)) (λv=>ge (some v::gn cs ρ)) st.length w.2 (st++[.lst []]) with
 | some wy=> .ok (.ref st.length) wy
 | none=> .bad
def fH(cs:e8)(gi:GI)(gt:GT)(ge:GE):GE:=λρ st=>(gi ρ st).bind λw st1=>bQ cs gt ge ρ w st1
theorem yy{st:Hs}{l:Nat}{ws:List Wv}{more:Hs}(h:af st l=some ws):af (st++more) l=some ws:=by
 unfold af at h ⊢
 cases e:st[l]? with
 | none=>rw[e] at h;cases h
 | some o=>
  have hl:=(List.getElem?_eq_some_iff.mp e).1
  rw[List.getElem?_append_left hl,e]
  rw[e] at h
  exact h
theorem m7{w:Wk}{st more:Hs}(h:iI w st):iI w (st++more):=by
 obtain⟨o,ws⟩:=w
 cases o with
 | none=>trivial
 | some l=>exact yy h
theorem wA{scope:Scope}{x:Str}{cs:e8}{px pos:Pos}{elt iter:Expr}{ifs:List Expr}{gi:GI}{gt:GT}{ge:GE}{use:Option (WU->Sem Unit)}{Q:WU->WT->Prop}{P:Wv->Hs->Prop}
  {ρ:aT}{st:Hs}{σ:St}{H:Hp}{m:Mp}{pins:List (WN×Obj)}{s:WT}{ps:Pos}
  {Y:Cx->Prop}(fr:A5 X)(CS:cQ X scope x cs)(hc:KH Y X)(hH:uV X)(hi:KN Y X (.Name x px) iter gi)(hE:∀C s0 H0 fp pn E,yt X.A H0->JE (eh X scope x cs C s0 H0 fp pn E) elt ge)(hT:∀C s0 H0 fp pn E,yt X.A H0->F9 (eh X scope x cs C s0 H0 fp pn E) ifs gt)(hs:∀x,W3 iter X.env x=pure x)
  (S:aL X.K m st H)(R:ar X.K m H ρ σ)(I:Inv X pins σ H s)(p:aq X σ m H (fH cs gi gt ge ρ st) P)
  (fin:∀(w:Wv)(wy:Hs)(v:V)(D C:WN)(mm:Str->Option WU)(m':Mp)(H':Hp)(s':WT),P w wy->Ext X.K m H m' H'->aL X.K m' wy H'->ag X.K m' H' w v->v= .ref D->Inv X pins σ H' s'->eD X pins H' C->s'.heap.Ns C mm->W0 (model X.prog X.w) X.A X.xe use Q (.ref D) C (.ok .next) s') :
  W8 (model X.prog X.w) X.A (comprehension (.ListComp elt [⟨.Name x px,iter,ifs,0⟩] scope pos) scope X.env ps (newList []) false (eval iter X.env) use) Q X.xe s:=by
 obtain⟨wi,Pn,hw⟩:=hi
 let R':It->Hp->Prop:=λJ' H1=>∃(w:Wk)(st1:Hs)(m1:Mp),aq X σ m H (bQ cs gt ge ρ w st1) P/\Ext X.K m H m1 H1/\aL X.K m1 st1 H1/\iI w st1/\pK X w m1 H1 J'
 have hr:=hw ρ st σ H m R' S R ((aq.bind p).imp Ext.refl λw st1 q m1 H1 J' e1 S1 c1 yz=>⟨w,st1,m1,q,e1,S1,c1,yz⟩)
 refine wpAny_comprehension_free (g:=⟨.Name x px,iter,ifs,0⟩) (gs:=[]) (cl:=kQ X.env scope.names []) rfl hs (Eb (CS.has I.ok)) CS.kind (λy hy e=>by rw[CS.look y hy,e]) (aM (Pn pins s σ H R' I hr) λv s1 h1=>aM h1 λitv s2 h2=>?_)
 obtain⟨it,fp,tn,J',H1,rfl,I2,T,t0,f2,w,st1,m1,q,e1,S1,c1,yz⟩:=h2
 unfold bQ at q
 cases run:iH (iI w) (λv=>gt (some v::gn cs ρ)) (λv=>ge (some v::gn cs ρ)) st1.length w.2 (st1++[.lst []]) with
 | none=>
  rw[run] at q
  exact False.elim q
 | some wy=>
  rw[run] at q
  refine uW (use:=use) (Q:=Q) fr CS hc hH I2 T t0 f2 S1 (R.mono e1) (m7 c1) (m6 _ _ run) (by intro z;cases z) (λc' Uh z=>by cases z) (λC s0 H0 pn E=>hE C s0 H0 fp pn E) (λC s0 H0 pn E=>hT C s0 H0 fp pn E) yz.go yz.stop yz.rK ?_
  intro Ui z D C mm m' H' s' e' S' NB I' fC ns _
  cases z
  exact fin _ wy (.ref D) D C mm m' H' s' q (e1.trans e') S' (by unfold ag;exact⟨D,rfl,NB⟩) rfl I' fC ns
theorem qz{scope:Scope}{x:Str}{cs:e8}{px pos:Pos}{elt iter:Expr}{ifs:List Expr}{gi:GI}{gt:GT}{ge:GE}
  {Y:Cx->Prop}(fr:A5 X)(CS:cQ X scope x cs)(hc:KH Y X)(hH:uV X)(hi:KN Y X (.Name x px) iter gi)(hE:∀C s0 H0 fp pn E,yt X.A H0->JE (eh X scope x cs C s0 H0 fp pn E) elt ge)(hT:∀C s0 H0 fp pn E,yt X.A H0->F9 (eh X scope x cs C s0 H0 fp pn E) ifs gt)(hs:∀x,W3 iter X.env x=pure x) :
  JE X (.ListComp elt [⟨.Name x px,iter,ifs,0⟩] scope pos) (fH cs gi gt ge):=λρ st σ H m Q S R p pins s I=>by
 rw[eval_ListComp]
 refine wA (use:=none) fr CS hc hH hi hE hT hs S R I p ?_
 intro w wy v D C mm m' H' s' q e' S' rw' ev I' fC ns
 exact⟨mm,ns,λh' same=>⟨.ref D,H',pJ I' fC same,rfl,ev ▸ q v m' H' e' S' rw'⟩⟩
theorem wB(i:Nat){scope:Scope}{x y:Str}{cs:e8}{px pos spos py:Pos}{elt iter:Expr}{ifs:List Expr}{gi:GI}{gt:GT}{ge:GE}(hN:X.N.Nodup)
  {Y:Cx->Prop}(fr:A5 X)(CS:cQ X scope x cs)(hc:KH Y X)(hH:uV X)(hi:KN Y X (.Name x px) iter gi)(hE:∀C s0 H0 fp pn E,yt X.A H0->JE (eh X scope x cs C s0 H0 fp pn E) elt ge)(hT:∀C s0 H0 fp pn E,yt X.A H0->F9 (eh X scope x cs C s0 H0 fp pn E) ifs gt)(hs:∀x,W3 iter X.env x=pure x)
  (hx:X.N[i]? =some y)(hl:Loc X.env.scope y)(hf:X.fn y=true\/X.env.scope.names.lookup y=some .local) :
  JS X (.Assign [.Name y py] (.ListComp elt [⟨.Name x px,iter,ifs,0⟩] scope pos) spos) (aC i (fH cs gi gt ge)):=by
 have sw:∃b,swapsWith (.ListComp elt [⟨.Name x px,iter,ifs,0⟩] scope pos) (some (.Name y py)) spos.line X.env=pure b:=⟨_,rfl⟩
 obtain⟨b,sw⟩:=sw
 cases b with
 | false=>exact uS i hN (qz fr CS hc hH hi hE hT hs) hx hl sw hf
 | true=>
  intro ρ st σ H m D S R p pins s I
  rw[exec_Assign_Name_used _ _ _ _ sw]
  refine W9 (wpAny_standAt (W9 ?_))
  show W8 _ X.A (do let _ <-comprehension (.ListComp elt [⟨.Name x px,iter,ifs,0⟩] scope pos) scope X.env _ (newList []) false (eval iter X.env) (some (assign (.Name y py) X.env))) _ _ s
  refine W9 (Xa (wA (use:=some (assign (.Name y py) X.env)) (Q:=λ_ s'=>SP X pins D .next s') fr CS hc hH hi hE hT hs S R I (aw.bB R p) ?_) (λ_ s' hq=>Xe (Xe hq)) λ_ _ e=>e)
  intro w wy v D' C mm m' H' s' q e' S' rw' ev I' fC ns
  refine wpAny_assign_Name (oY (i:=i) I' hN hx hl (show RelV v (.ref D') by rw[ev];rfl) (λs2 I2 h2=>?_) hf)
  obtain⟨a,sb,ha⟩:=h2
  have hca:C≠a:=by
   rcases ha with z | z
   ·rw[z];exact fC.2.1
   ·exact Ne.symm (fC.2.2.2.2.1 y a z)
  exact⟨mm,ns.sameBut sb hca,λh' same=>⟨_,_,pJ I2 fC same,q _ m' H' e' S' ((R.mono e').set i rw')⟩⟩
end
end J
namespace J
open PySem PySem.Spec PyProof.Rows L2
section
variable {X:Cx}
def IE(n:Nat)(k:Int):Prop:=-(2 ^ 62)<=k/\k < 2 ^ 62/\n * k.toNat<=lim
instance {n k}:Decidable (IE n k):=Classical.propDecidable _
def m8:eE
 | .ref l,.int n,st=>match st[l]? with
  | some (.lst ws)=>if IE ws.length n then .ok (.ref st.length) (st++[.lst (List.replicate n.toNat ws).flatten]) else .bad
  | _=> .bad
 | x,y,st=>F8 x y st
theorem pL{K:PySem.W.Frag}{m:Mp}{H:Hp}{ws:List Wv}{xs:List V}(r:ah K m H ws xs):∀n:Nat,ah K m H (List.replicate n ws).flatten (List.replicate n xs).flatten
 | 0=>ah.nil
 | n+1=>by
  rw[List.replicate_succ,List.flatten_cons,List.replicate_succ,List.flatten_cons]
  exact r.append (pL r n)
theorem Ef:iT X (WX .Mult) m8:=by
 obtain⟨r,h1,h2⟩:=D3 (X:=X)
 refine⟨_,dm.or Hz h1,λx y a b st H m Q S rx ry p=>?_⟩
 unfold m8 at p
 split at p
 ·rename_i l n
  unfold ag at rx
  obtain⟨a1,rfl,hl⟩:=rx
  cases aG ry
  cases e:st[l]? with
  | none=>rw[e] at p;exact False.elim p
  | some o=>
   cases o with
   | dct kvs=>rw[e] at p;exact False.elim p
   | bh kvs=>rw[e] at p;exact False.elim p
   | jL kvs=>rw[e] at p;exact False.elim p
   | jW ns=>rw[e] at p;exact False.elim p
   | lst ws=>
    rw[e] at p
    dsimp only at p
    by_cases c:IE ws.length n
    ·rw[if_pos c] at p
     obtain⟨xs,q1,q2⟩:=S.mR hl e
     refine .inl ⟨a1,n,xs,rfl,rfl,q1,by have:=c.1;omega,by have:=c.2.1;omega,by rw[<-q2.length];exact cP c.2.2,λq hq=>?_⟩
     exact iC p Ext.refl S (pL q2 n.toNat) q hq
    ·rw[if_neg c] at p;exact False.elim p
 ·exact .inr (h2 x y a b st H m Q S rx ry p)
end
end J
namespace JL
open PySem PyProof.Rows
def Eg:Bool->Xg->Array Xg->Nat->Nat->Nat->StateT Xh Sem (Option Nat):=sortPriv% PySem.Builtin.gallop
def Ba:Array Xg->Array Xg->StateT Xh Sem (Array Xg):=sortPriv% PySem.Builtin.mergeLo
def Bb:Array Xg->Array Xg->StateT Xh Sem (Array Xg):=sortPriv% PySem.Builtin.mergeHi
def Ik(p:Xg):Prop:=∃n t,p.1=Value.int n t
def kn(p:Xg):Int:=numOf p.1
section
variable {prog:WS} {w:WV} {A:WO} {E:WU->WT->Prop} {s:WT}
theorem sG{st:Xh}{x y:Xg}{Q:Option Bool->Xh->Prop}(hk:kindOf st=Xi)(hx:Ik x)(hy:Ik y)(h:Q (some (decide (kn x < kn y))) st):wpS (model prog w) A E s (lt' x y) Q st:=by
 obtain⟨a,t,ea⟩:=hx
 obtain⟨b,u,eb⟩:=hy
 unfold kn at h
 rw[ea,eb] at h
 rw[lt'_eq]
 refine Xj (wpS_get ?_)
 rw[hk,keyLt'_oneType,ea,eb]
 refine Xj (wpS_lift (wpAny_attempt (oneLt_int ⟨rfl,?_⟩)))
 exact Xm h
theorem aP{st:Xh}{a:Array Xg}{i:Nat}{p:Xg}{Q:Xg->Xh->Prop}(hp:a[i]? =some p)(h:Q p st):wpS (model prog w) A E s (elem' a i) Q st:=by
 rw[elem'_eq,hp]
 exact Xm h
def gp(left:Bool)(key:Xg)(arr:Array Xg)(base i:Nat):Bool:=if left then decide (K arr (base+i) < kn key) else !decide (kn key < K arr (base+i))
theorem iZ{st:Xh}{left:Bool}{key:Xg}{arr:Array Xg}{base n i:Nat}{Q:Option Bool->Xh->Prop}(hk:kindOf st=Xi)(hkey:Ik key)
  (hb:base+n<=arr.size)(ha:∀p∈arr.toList,Ik p)(hi:i < n)(h:Q (some (gp left key arr base i)) st) :
  wpS (model prog w) A E s (do
   let x <-elem' arr (base+i)
   if left=true then lt' x key else do
    let r <-lt' key x
    pure (r.map (!·))) Q st:=by
 have lt:base+i < arr.size:=by omega
 have e:arr[base+i]? =some arr[base+i]:=Array.getElem?_eq_getElem lt
 have ik:Ik arr[base+i]:=ha _ (by simp)
 have ek:K arr (base+i)=kn arr[base+i]:=by unfold K kn;rw[e]
 unfold gp at h
 rw[ek] at h
 refine Xj (aP e ?_)
 cases left
 ·rw[if_neg (by decide)] at h ⊢
  exact Xj (sG hk hkey ik (Xm h))
 ·rw[if_pos rfl] at h ⊢
  exact sG hk ik hkey h
def wC(left:Bool)(key:Xg)(arr:Array Xg)(base n:Nat)(l0 h0:Nat):StateT Xh Sem (Option Nat):=do
 let mut lo:=l0
 let mut hi:=h0
 for _ in [0:n] do
  if lo >= hi then break
  let some b <-(do
   let x <-elem' arr (base+(lo+(hi - lo) / 2))
   if left=true then lt' x key else do
    let r <-lt' key x
    pure (r.map (!·)):StateT Xh Sem (Option Bool)) | return none
  if b then lo:=lo+(hi - lo) / 2+1 else hi:=lo+(hi - lo) / 2
 return some hi
theorem sH{st:Xh}{left:Bool}{key:Xg}{arr:Array Xg}{base n l0 h0:Nat}{Q:Option Nat->Xh->Prop}(hk:kindOf st=Xi)(hkey:Ik key)
  (hb:base+n<=arr.size)(ha:∀p∈arr.toList,Ik p)(dn:∀i j,i<=j->j < n->gp left key arr base j=true->gp left key arr base i=true)(l1:l0<=h0)(h1:h0<=n)
  (hl:∀i,i < l0->gp left key arr base i=true)(hh:∀i,h0<=i->i < n->gp left key arr base i=false)
  (h:∀k,k<=n->(∀i,i < k->gp left key arr base i=true)->(∀i,k<=i->i < n->gp left key arr base i=false)->Q (some k) st):wpS (model prog w) A E s (wC left key arr base n l0 h0) Q st:=by
 unfold wC
 refine Xj (Xl (Xk (I:=λx c st'=>st'=st/\∃l r,c=(none,l,r)/\l<=r/\r<=n/\r - l<=n - x/\(∀i,i < l->gp left key arr base i=true)/\(∀i,r<=i->i < n->gp left key arr base i=false))
  (Q:=λc st'=>st'=st/\∃r,c=(none,r,r)/\r<=n/\(∀i,i < r->gp left key arr base i=true)/\(∀i,r<=i->i < n->gp left key arr base i=false)) ?a ?b ?c) ?d)
 case c=>exact⟨rfl,l0,h0,rfl,l1,h1,by omega,hl,hh⟩
 case b=>
  rintro c st' ⟨rfl,l,r,rfl,g1,g2,g3,g4,g5⟩
  have:l=r:=by omega
  subst this
  exact⟨rfl,l,rfl,g2,g4,g5⟩
 case d=>
  rintro c st' ⟨rfl,r,rfl,g2,g4,g5⟩
  exact Xm (h r g2 g4 g5)
 case a=>
  rintro x c st' _ hx ⟨rfl,l,r,rfl,g1,g2,g3,g4,g5⟩
  dsimp only
  by_cases c:l >= r
  ·rw[if_pos c]
   have:l=r:=by exact Nat.le_antisymm ‹_› ‹_›
   subst this
   exact Xm ⟨rfl,l,rfl,g2,g4,g5⟩
  ·rw[if_neg c]
   refine Xj (iZ hk hkey hb ha (by omega) ?_)
   cases q:gp left key arr base (l+(r - l) / 2)
   ·refine Xm ⟨rfl,l,l+(r - l) / 2,rfl,by exact Nat.le_add_right _ _,by omega,by omega,g4,λi i1 i2=>?_⟩
    cases q':gp left key arr base i
    ·rfl
    ·rw[dn _ _ i1 i2 q'] at q;cases q
   ·exact Xm ⟨rfl,l+(r - l) / 2+1,r,rfl,by omega,by assumption,by omega,λi i1=>dn _ _ (by exact Nat.le_of_lt_succ ‹_›) (by omega) q,g5⟩
theorem eO{st:Xh}{left:Bool}{key:Xg}{arr:Array Xg}{base n hint:Nat}{Q:Option Nat->Xh->Prop}(hk:kindOf st=Xi)(hkey:Ik key)
  (hb:base+n<=arr.size)(ha:∀p∈arr.toList,Ik p)(hh:hint < n)(mono:∀i j,i<=j->j < n->K arr (base+i)<=K arr (base+j))
  (h:∀k,k<=n->(∀i,i < k->gp left key arr base i=true)->(∀i,k<=i->i < n->gp left key arr base i=false)->Q (some k) st):wpS (model prog w) A E s (Eg left key arr base n hint) Q st:=by
 have dn:∀i j,i<=j->j < n->gp left key arr base j=true->gp left key arr base i=true:=λi j h1 h2 h3=>by
  have:=mono i j h1 h2
  unfold gp at h3 ⊢
  cases left
  ·simp at h3 ⊢;exact Int.le_trans ‹_› ‹_›
  ·simp at h3 ⊢;omega
 have up:∀i j,i<=j->j < n->gp left key arr base i=false->gp left key arr base j=false:=λi j h1 h2 h3=>by
  cases q:gp left key arr base j
  ·rfl
  ·rw[dn i j h1 h2 q] at h3;cases h3
 refine Xj (iZ hk hkey hb ha hh ?_)
 cases q:gp left key arr base hint
 ·refine Xj (Xl (Xk (I:=λx c st'=>st'=st/\∃l o,c=(none,l,o)/\l < o/\l<=hint/\x+1<=o/\gp left key arr base (hint - l)=false)
   (Q:=λc st'=>st'=st/\∃l o,c=(none,l,o)/\l < o/\l<=hint/\gp left key arr base (hint - l)=false/\(hint+1<=o\/gp left key arr base (hint - o)=true)) ?a ?b ?c) ?d)
  case c=>exact⟨rfl,0,1,rfl,by exact Nat.le_refl _,by exact Nat.zero_le _,by exact Nat.le_refl _,q⟩
  case b=>
   rintro c st' ⟨rfl,l,o,rfl,g1,g2,g3,g4⟩
   exact⟨rfl,l,o,rfl,g1,g2,g4,.inl (by exact Nat.lt_trans ‹_› ‹_›)⟩
  case d=>
   rintro c st' ⟨rfl,l,o,rfl,g1,g2,g4,g5⟩
   refine(sH (base:=base) (l0:=hint+1 - min o (hint+1)) (h0:=hint - l) hk hkey hb ha dn (by omega) (by omega) (λi hi=>?_) (λi i1 i2=>up _ _ i1 i2 g4) h:wpS _ _ _ _ (wC left key arr base n _ _) Q _)
   rcases g5 with g5 | g5
   ·omega
   ·exact dn _ _ (by omega) (by omega) g5
  case a=>
   rintro x c st' _ hx ⟨rfl,l,o,rfl,g1,g2,g3,g4⟩
   dsimp only
   by_cases c:o >= hint+1
   ·rw[if_pos c]
    exact Xm ⟨rfl,l,o,rfl,g1,g2,g4,.inl c⟩
   ·rw[if_neg c]
    refine Xj (iZ hk hkey hb ha (by omega) ?_)
    cases q':gp left key arr base (hint - o)
    ·exact Xm ⟨rfl,o,2 * o+1,rfl,by omega,by exact Nat.le_of_not_lt ‹_›,by omega,q'⟩
    ·exact Xm ⟨rfl,l,o,rfl,g1,g2,g4,.inr q'⟩
 ·refine Xj (Xl (Xk (I:=λx c st'=>st'=st/\∃l o,c=(none,l,o)/\l < o/\hint+l < n/\x+1<=o/\gp left key arr base (hint+l)=true)
   (Q:=λc st'=>st'=st/\∃l o,c=(none,l,o)/\l < o/\hint+l < n/\gp left key arr base (hint+l)=true/\(n - hint<=o\/(hint+o < n/\gp left key arr base (hint+o)=false))) ?a ?b ?c) ?d)
  case c=>exact⟨rfl,0,1,rfl,by exact Nat.le_refl _,by assumption,by exact Nat.le_refl _,q⟩
  case b=>
   rintro c st' ⟨rfl,l,o,rfl,g1,g2,g3,g4⟩
   exact⟨rfl,l,o,rfl,g1,g2,g4,.inl (by omega)⟩
  case d=>
   rintro c st' ⟨rfl,l,o,rfl,g1,g2,g4,g5⟩
   refine(sH (base:=base) (l0:=hint+l+1) (h0:=hint+min o (n - hint)) hk hkey hb ha dn (by omega) (by omega) (λi hi=>dn _ _ (by exact Nat.le_of_lt_succ ‹_›) g2 g4) (λi i1 i2=>?_) h:wpS _ _ _ _ (wC left key arr base n _ _) Q _)
   rcases g5 with g5 | g5
   ·omega
   ·exact up _ _ (by omega) i2 g5.2
  case a=>
   rintro x c st' _ hx ⟨rfl,l,o,rfl,g1,g2,g3,g4⟩
   dsimp only
   by_cases c:o >= n - hint
   ·rw[if_pos c]
    exact Xm ⟨rfl,l,o,rfl,g1,g2,g4,.inl c⟩
   ·rw[if_neg c]
    refine Xj (iZ hk hkey hb ha (by omega) ?_)
    cases q':gp left key arr base (hint+o)
    ·exact Xm ⟨rfl,l,o,rfl,g1,g2,g4,.inr ⟨by omega,q'⟩⟩
    ·exact Xm ⟨rfl,o,2 * o+1,rfl,by omega,by omega,by omega,q'⟩
end
section
variable {α:Type} {f:α->Int} {A B:List α}
structure Mg(f:α->Int)(A B out:List α)(ia ib:Nat):Prop where
 pm:out.Perm (A.take ia++B.take ib)
 so:out.Pairwise (f · <=f ·)
 la:∀p∈out,∀q∈A.drop ia,f p<=f q
 lb:∀p∈out,∀q∈B.drop ib,f p<=f q
theorem Mg.swap{out:List α}{ia ib:Nat}(h:Mg f A B out ia ib):Mg f B A out ib ia:=⟨h.pm.trans List.perm_append_comm,h.so,h.lb,h.la⟩
theorem Mg.qA{out:List α}{ia ib:Nat}(h:Mg f A B out ia ib)(sa:A.Pairwise (f · <=f ·))(k:Nat)(hk:∀p∈(A.drop ia).take k,∀q∈B.drop ib,f p<=f q):Mg f A B (out++(A.drop ia).take k) (ia+k) ib:=by
 have sd:((A.drop ia).take k++(A.drop ia).drop k).Pairwise (f · <=f ·):=by rw[List.take_append_drop];exact sa.sublist (List.drop_sublist _ _)
 rw[List.pairwise_append] at sd
 have e:A.take (ia+k)=A.take ia++(A.drop ia).take k:=List.take_add
 have mT:∀p∈(A.drop ia).take k,p∈A.drop ia:=λp hp=>(List.take_sublist _ _).mem hp
 have mD:∀p∈(A.drop ia).drop k,p∈A.drop ia:=λp hp=>(List.drop_sublist _ _).mem hp
 refine⟨?_,?_,?_,?_⟩
 ·rw[e]
  refine(h.pm.append_right _).trans ?_
  rw[List.append_assoc,List.append_assoc]
  exact List.perm_append_comm.append_left _
 ·rw[List.pairwise_append]
  exact⟨h.so,sd.1,λp hp q hq=>h.la p hp q (mT q hq)⟩
 ·intro p hp q hq
  rw[<-List.drop_drop] at hq
  rcases List.mem_append.mp hp with z | z
  ·exact h.la p z q (mD q hq)
  ·exact sd.2.2 p z q hq
 ·intro p hp q hq
  rcases List.mem_append.mp hp with z | z
  ·exact h.lb p z q hq
  ·exact hk p z q hq
theorem Mg.Bc{out:List α}{ia ib:Nat}(h:Mg f A B out ia ib)(sb:B.Pairwise (f · <=f ·))(k:Nat)(hk:∀q∈(B.drop ib).take k,∀p∈A.drop ia,f q<=f p):Mg f A B (out++(B.drop ib).take k) ia (ib+k) :=
 (h.swap.qA sb k hk).swap
theorem Mg.pM{out:List α}{ia ib:Nat}{p:α}(h:Mg f A B out ia ib)(sa:A.Pairwise (f · <=f ·))(e:A[ia]? =some p)(hk:∀q∈B.drop ib,f p<=f q):Mg f A B (out++[p]) (ia+1) ib:=by
 have t1:(A.drop ia).take 1=[p]:=by
  have:=(List.getElem?_eq_some_iff.mp e)
  obtain⟨lt,rfl⟩:=this
  rw[List.drop_eq_getElem_cons lt]
  rfl
 have:=h.qA sa 1 (by rw[t1];intro q hq;rw[List.mem_singleton.mp hq];exact hk)
 rw[t1] at this
 exact this
theorem Mg.sI{out:List α}{ia ib:Nat}{p:α}(h:Mg f A B out ia ib)(sb:B.Pairwise (f · <=f ·))(e:B[ib]? =some p)(hk:∀q∈A.drop ia,f p<=f q):Mg f A B (out++[p]) ia (ib+1) :=
 (h.swap.pM sb e hk).swap
theorem Mg.fin{out:List α}{ia ib:Nat}(h:Mg f A B out ia ib)(sa:A.Pairwise (f · <=f ·))(sb:B.Pairwise (f · <=f ·))(hk:∀p∈A.drop ia,∀q∈B.drop ib,f p<=f q):(out++A.drop ia++B.drop ib).Perm (A++B)/\(out++A.drop ia++B.drop ib).Pairwise (f · <=f ·):=by
 have tA:(A.drop ia).take A.length=A.drop ia:=List.take_of_length_le (by rw[List.length_drop];exact Nat.sub_le _ _)
 have tB:(B.drop ib).take B.length=B.drop ib:=List.take_of_length_le (by rw[List.length_drop];exact Nat.sub_le _ _)
 have h1:=h.qA sa A.length (by rw[tA];exact hk)
 have nA:A.drop (ia+A.length)=[]:=List.drop_of_length_le (by exact Nat.le_add_left _ _)
 have h2:=h1.Bc sb B.length (by rw[nA];intro _ _ _ z;cases z)
 rw[tA,tB] at h2
 have k1:A.take (ia+A.length)=A:=List.take_of_length_le (by exact Nat.le_add_left _ _)
 have k2:B.take (ib+B.length)=B:=List.take_of_length_le (by exact Nat.le_add_left _ _)
 have pm:=h2.pm
 rw[k1,k2] at pm
 exact⟨pm,h2.so⟩
theorem Mg.IF{out:List α}{ia ib:Nat}(h:Mg f A B out ia ib)(sa:A.Pairwise (f · <=f ·))(sb:B.Pairwise (f · <=f ·))(hk:∀q∈B.drop ib,∀p∈A.drop ia,f q<=f p):(out++B.drop ib++A.drop ia).Perm (A++B)/\(out++B.drop ib++A.drop ia).Pairwise (f · <=f ·):=by
 obtain⟨h1,h2⟩:=h.swap.fin sb sa hk
 exact⟨h1.trans List.perm_append_comm,h2⟩
end
abbrev ml(st:Xh)(g:Nat):Xh:=SortSt.mk' (kindOf st) (arrOf st) (pendingOf st) g (failedOf st)
def Up(l:List Xg):Prop:=l.Pairwise (kn · <=kn ·)
def Fin'(a b:List Xg)(r:Array Xg):Prop:=r.toList.Perm (a++b)/\Up r.toList
theorem aW{a:Array Xg}{i:Nat}{p:Xg}(e:a[i]? =some p):K a i=kn p:=by unfold K;rw[e];rfl
theorem at_of{a:Array Xg}{i:Nat}(h:i < a.size):∃p,a[i]? =some p/\a.toList[i]? =some p/\p∈a.toList:=⟨a[i],Array.getElem?_eq_getElem h,by simp[h],by simp⟩
theorem bW{a:Array Xg}{i:Nat}{p:Xg}(h:p∈a.toList.drop i):∃j,i<=j/\j < a.size/\a[j]? =some p:=by
 obtain⟨j,e⟩:=List.getElem?_of_mem h
 rw[List.getElem?_drop] at e
 have lt:=(List.getElem?_eq_some_iff.mp e).1
 exact⟨i+j,by exact Nat.le_add_right _ _,by simpa using lt,by rw[<-Array.getElem?_toList];exact e⟩
theorem qB{a:Array Xg}{i k:Nat}{p:Xg}(h:p∈(a.toList.drop i).take k):∃j,j < k/\i+j < a.size/\a[i+j]? =some p:=by
 obtain⟨j,e⟩:=List.getElem?_of_mem h
 have lk:j < k:=by
  have:=(List.getElem?_eq_some_iff.mp e).1
  rw[List.length_take] at this
  omega
 rw[List.getElem?_take_of_lt lk,List.getElem?_drop] at e
 have lt:=(List.getElem?_eq_some_iff.mp e).1
 exact⟨j,lk,by simpa using lt,by rw[<-Array.getElem?_toList];exact e⟩
theorem kR{a:Array Xg}(h:Up a.toList){i j:Nat}(hij:i<=j)(hj:j < a.size):K a i<=K a j:=by
 obtain⟨p,e1,e2,_⟩:=at_of (Nat.lt_of_le_of_lt hij hj)
 obtain⟨q,e3,e4,_⟩:=at_of hj
 rw[aW e1,aW e3]
 by_cases c:i=j
 ·subst c
  rw[e1] at e3
  cases e3
  exact Int.le_refl _
 ·have l1:=List.getElem?_eq_some_iff.mp e2
  have l2:=List.getElem?_eq_some_iff.mp e4
  obtain⟨x1,rfl⟩:=l1
  obtain⟨x2,rfl⟩:=l2
  exact List.pairwise_iff_getElem.mp h i j x1 x2 (by exact Nat.lt_of_le_of_ne ‹_› ‹_›)
theorem mn{a:Array Xg}(i:Nat):(a.extract i a.size).toList=a.toList.drop i:=by
 rw[Array.toList_extract,List.extract_eq_take_drop]
 exact List.take_of_length_le (by rw[List.length_drop];simp)
theorem wD{a:Array Xg}(i k:Nat):(a.extract i (i+k)).toList=(a.toList.drop i).take k:=by
 rw[Array.toList_extract,List.extract_eq_take_drop,Nat.add_sub_cancel_left]
section
variable {prog:WS} {w:WV} {A:WO} {E:WU->WT->Prop} {s:WT}
structure Lo(a b out:Array Xg)(ia ib:Nat):Prop where
 mg:Mg kn a.toList b.toList out.toList ia ib
 ha:ia+1 < a.size
 hb:ib < b.size
structure Po(a b:Array Xg):Prop where
 ka:∀p∈a.toList,Ik p
 kb:∀p∈b.toList,Ik p
 sa:Up a.toList
 sb:Up b.toList
 last:∀j,j < b.size->K b j<=K a (a.size - 1)
theorem j7{a b out:Array Xg}{ia ib:Nat}(H:Po a b)(m:Mg kn a.toList b.toList out.toList ia ib)(h:∀p∈a.toList.drop ia,∀q∈b.toList.drop ib,kn p<=kn q):Fin' a.toList b.toList (out++a.extract ia a.size++b.extract ib b.size):=by
 unfold Fin' Up
 rw[Array.toList_append,Array.toList_append,mn,mn]
 exact m.fin H.sa H.sb h
theorem mv{a b out:Array Xg}{ia ib:Nat}(H:Po a b)(m:Mg kn a.toList b.toList out.toList ia ib)(h:ia+1=a.size):Fin' a.toList b.toList (out++b.extract ib b.size++a.extract ia a.size):=by
 unfold Fin' Up
 rw[Array.toList_append,Array.toList_append,mn,mn]
 refine m.IF H.sa H.sb λq hq p hp=>?_
 obtain⟨j,j1,j2,j3⟩:=bW hp
 obtain⟨l,l1,l2,l3⟩:=bW hq
 have:j=a.size - 1:=by omega
 rw[<-aW j3,<-aW l3,this]
 exact H.last l l2
theorem j8{b:Array Xg}{ib:Nat}(h:ib=b.size):∀q:Xg,q∉b.toList.drop ib:=λq hq=>by
 obtain⟨l,l1,l2,l3⟩:=bW hq
 omega
abbrev Uj:=Option (Array Xg)×Array Xg×Nat×Nat×Nat×Nat×Nat
def Bd(a b:Array Xg)(st:Xh)(n:Nat)(r:ForInStep Uj)(st':Xh):Prop :=
 (∃g,st'=ml st g)/\match r with
 | .done c=>(∃r t,c=(some r,t)/\Fin' a.toList b.toList r)\/∃out ia ib mg ac bc,c=(none,out,ia,ib,mg,ac,bc)/\n<=ia+ib/\Lo a b out ia ib
 | .yield c=>∃out ia ib mg ac bc,c=(none,out,ia,ib,mg,ac,bc)/\n<=ia+ib/\Lo a b out ia ib
theorem Bd.fin{a b:Array Xg}{st:Xh}{n g:Nat}{r:Array Xg}{t:Array Xg×Nat×Nat×Nat×Nat×Nat}(h:Fin' a.toList b.toList r):Bd a b st n (.done (some r,t)) (ml st g):=⟨⟨g,rfl⟩,.inl ⟨r,t,rfl,h⟩⟩
theorem uZ{st:Xh}{a b:Array Xg}{Q:Array Xg->Xh->Prop}(H:Po a b)(na:1<=a.size)(nb:1<=b.size)(hk:kindOf st=Xi)(first:∀i,i < a.size->K b 0<=K a i)
  (h:∀r g,Fin' a.toList b.toList r->Q r (ml st g)):wpS (model prog w) A E s (Ba a b) Q st:=by
 refine Xj (wpS_lift (wpAny_rule ⟨rfl,?_⟩))
 obtain⟨b0,ND,Pp,Wm⟩:=at_of (a:=b) (i:=0) (by assumption)
 refine Xj (aP ND ?_)
 dsimp -zeta only
 extract_lets out ia ib
 have m0:Mg kn a.toList b.toList out.toList 0 1:=by
  have z:Mg kn a.toList b.toList ([]:List Xg) 0 0:=⟨by simp,.nil,(λ_ z=>by cases z),(λ_ z=>by cases z)⟩
  refine z.sI H.sb Pp λq hq=>?_
  obtain⟨l,l1,l2,l3⟩:=bW hq
  rw[<-aW ND,<-aW l3]
  exact first l l2
 clear_value out
 subst ia ib
 by_cases c1:1=b.size
 ·rw[if_pos (by rw[<-c1];rfl)]
  exact Xm (h _ _ (j7 H m0 λ_ _ q hq=>(j8 c1 q hq).elim))
 rw[if_neg (by simpa using c1)]
 by_cases c2:0+1=a.size
 ·rw[if_pos (by rw[<-c2];rfl)]
  exact Xm (h _ _ (mv H m0 c2))
 rw[if_neg (by simpa using c2)]
 refine Xj (wpS_get ?_)
 refine Xj (Xl (Xk (I:=λx c st'=>(∃g,st'=ml st g)/\∃out ia ib mg,c=(none,out,ia,ib,mg)/\x+1<=ia+ib/\Lo a b out ia ib)
  (Q:=λc st'=>(∃g,st'=ml st g)/\∃r t,c=(some r,t)/\Fin' a.toList b.toList r) ?a ?b ?c) ?d)
 case c=>exact⟨⟨_,rfl⟩,out,0,1,_,rfl,by exact Nat.le_refl _,m0,by exact Nat.lt_of_le_of_ne ‹_› ‹_›,by exact Nat.lt_of_le_of_ne ‹_› ‹_›⟩
 case d=>
  rintro c st' ⟨⟨g,rfl⟩,r,t,rfl,hf⟩
  exact Xm (h _ _ hf)
 case b=>
  rintro c st' ⟨_,out,ia,ib,mg,_,h1,h2,h3,h4⟩
  omega
 case a=>
  rintro x c st' _ hx ⟨⟨g,rfl⟩,out,Pq,Pr,mg,rfl,h1,L0⟩
  dsimp -zeta only
  refine Xj (Xl (Xk (I:=λx c st'=>st'=ml st g/\∃out ia ib ac bc,c=(none,out,ia,ib,ac,bc)/\Pq+Pr+x<=ia+ib/\Lo a b out ia ib)
   (Q:=λc st'=>st'=ml st g/\((∃r t,c=(some r,t)/\Fin' a.toList b.toList r)\/∃out ia ib ac bc,c=(none,out,ia,ib,ac,bc)/\Pq+Pr+1<=ia+ib/\Lo a b out ia ib)) ?e ?f ?g) ?i)
  case g=>exact⟨rfl,out,Pq,Pr,0,0,rfl,by exact Nat.le_refl _,L0⟩
  case f=>
   rintro c st' ⟨rfl,out,ia,ib,ac,bc,rfl,h1,L⟩
   have:=L.ha
   have:=L.hb
   exact⟨rfl,.inr ⟨out,ia,ib,ac,bc,rfl,by omega,L⟩⟩
  case e=>
   rintro x c st' _ hx ⟨rfl,out,ia,ib,ac,bc,rfl,h1,L⟩
   dsimp only
   obtain⟨p,ep,rG,mp⟩:=at_of (a:=a) (i:=ia) (by have:=L.ha;exact Nat.le_of_lt ‹_›)
   obtain⟨q,eq,eq',mq⟩:=at_of (a:=b) (i:=ib) L.hb
   refine Xj (aP eq (Xj (aP ep (Xj (sG (x:=q) (y:=p) hk (H.kb _ mq) (H.ka _ mp) ?_)))))
   by_cases lt:kn q < kn p
   ·rw[decide_eq_true lt]
    dsimp only
    rw[if_pos rfl]
    refine Xj (aP eq ?_)
    have m':Mg kn a.toList b.toList (out.push q).toList ia (ib+1):=by
     rw[Array.toList_push]
     refine L.mg.sI H.sb eq' λy hy=>?_
     obtain⟨l,l1,l2,l3⟩:=bW hy
     have:=kR H.sa l1 l2
     rw[aW ep,aW l3] at this
     omega
    by_cases c3:ib+1=b.size
    ·rw[if_pos (by rw[<-c3];simp)]
     exact Xm ⟨rfl,.inl ⟨_,_,rfl,j7 H m' λ_ _ y hy=>(j8 c3 y hy).elim⟩⟩
    ·rw[if_neg (by simpa using c3)]
     have L':Lo a b (out.push q) ia (ib+1):=⟨m',L.ha,by have:=L.hb;exact Nat.lt_of_le_of_ne ‹_› ‹_›⟩
     by_cases c4:bc+1 >= mg
     ·rw[if_pos c4]
      exact Xm ⟨rfl,.inr ⟨_,_,_,_,_,rfl,by omega,L'⟩⟩
     ·rw[if_neg c4]
      exact Xm ⟨rfl,_,_,_,_,_,rfl,by exact Nat.succ_le_succ ‹_›,L'⟩
   ·rw[decide_eq_false lt]
    dsimp only
    rw[if_neg (by decide)]
    refine Xj (aP ep ?_)
    have m':Mg kn a.toList b.toList (out.push p).toList (ia+1) ib:=by
     rw[Array.toList_push]
     refine L.mg.pM H.sa rG λy hy=>?_
     obtain⟨l,l1,l2,l3⟩:=bW hy
     have:=kR H.sb l1 l2
     rw[aW eq,aW l3] at this
     omega
    by_cases c3:ia+1+1=a.size
    ·rw[if_pos (by rw[<-c3];simp)]
     exact Xm ⟨rfl,.inl ⟨_,_,rfl,mv H m' c3⟩⟩
    ·rw[if_neg (by simpa using c3)]
     have L':Lo a b (out.push p) (ia+1) ib:=⟨m',by have:=L.ha;exact Nat.lt_of_le_of_ne ‹_› ‹_›,L.hb⟩
     by_cases c4:ac+1 >= mg
     ·rw[if_pos c4]
      exact Xm ⟨rfl,.inr ⟨_,_,_,_,_,rfl,by omega,L'⟩⟩
     ·rw[if_neg c4]
      exact Xm ⟨rfl,_,_,_,_,_,rfl,by omega,L'⟩
  case i=>
   rintro c st' ⟨rfl,⟨r,⟨o,i1,i2,i3,i4⟩,rfl,hf⟩ | ⟨out,u5,u6,ac,bc,rfl,h2,L0⟩⟩
   ·exact Xm ⟨⟨g,rfl⟩,r,_,rfl,hf⟩
   dsimp -zeta only
   refine Xj (wpS_lift (wpAny_rule ⟨rfl,?_⟩))
   refine Xj (Xl (Xk (I:=λx c st'=>(∃g,st'=ml st g)/\∃out ia ib mg ac bc,c=(none,out,ia,ib,mg,ac,bc)/\u5+u6<=ia+ib/\Lo a b out ia ib)
    (Q:=λc st'=>(∃g,st'=ml st g)/\((∃r t,c=(some r,t)/\Fin' a.toList b.toList r)\/∃out ia ib mg ac bc,c=(none,out,ia,ib,mg,ac,bc)/\u5+u6<=ia+ib/\Lo a b out ia ib)) ?j ?k ?l) ?m)
   case l=>exact⟨⟨_,rfl⟩,out,u5,u6,_,ac,bc,rfl,by exact Nat.le_refl _,L0⟩
   case k=>
    rintro c st' ⟨hg,out,ia,ib,mg,ac,bc,rfl,h1,L⟩
    exact⟨hg,.inr ⟨out,ia,ib,mg,ac,bc,rfl,by assumption,L⟩⟩
   case m=>
    rintro c st' ⟨⟨g,rfl⟩,⟨r,⟨o,i1,i2,i3,i4,i5⟩,rfl,hf⟩ | ⟨out,ia,ib,mg,ac,bc,rfl,h3,L⟩⟩
    ·exact Xm ⟨⟨g,rfl⟩,r,_,rfl,hf⟩
    ·dsimp only
     exact Xj (wpS_modify (Xm ⟨⟨_,rfl⟩,_,_,_,_,rfl,by omega,L⟩))
   case j=>
    rintro x c st' _ hx ⟨⟨g,rfl⟩,out,ia,ib,mg,ac,bc,rfl,h1,L⟩
    refine Xl (Q:=Bd a b st (u5+u6)) ?_ λr st' h=>by cases r<;>exact h
    have Wn:=L.ha
    have hib:=L.hb
    obtain⟨q,eq,eq',mq⟩:=at_of (a:=b) (i:=ib) hib
    dsimp -zeta only
    extract_lets z1 z2 z3 z4 z5 z6 z7 z8 z9 IG IH II jp Pt
    subst Pt II IH IG z9 z8 z7 z6 z5 z4 z3 z2 z1
    have key:∀m g,wpS (model prog w) A E s (jp () m) (Bd a b st (u5+u6)) (ml st g):=by
     intro m g
     dsimp -zeta only[jp]
     refine Xj (wpS_modify ?_)
     refine Xj (aP eq ?_)
     refine Xj (eO hk (H.kb _ mq) (by omega) H.ka (by omega) (λi j h1 h2=>kR H.sa (by omega) (by omega)) λk k1 k2 k3=>?_)
     dsimp -zeta only
     clear jp
     extract_lets ac' jp o1 o2
     subst o2 o1 ac'
     have key:∀out' yA,ia+ib<=yA+ib->Mg kn a.toList b.toList out'.toList yA ib->yA+1 < a.size->(∀p∈a.toList.drop yA,kn q<=kn p)->wpS (model prog w) A E s (jp () out' yA) (Bd a b st (u5+u6)) (ml st m):=by
      intro out' yA hs m1 Uk hq
      dsimp -zeta only[jp]
      refine Xj (aP eq ?_)
      have m2:Mg kn a.toList b.toList (out'.push q).toList yA (ib+1):=by
       rw[Array.toList_push]
       exact m1.sI H.sb eq' hq
      by_cases c3:ib+1=b.size
      ·rw[if_pos (by rw[<-c3];simp)]
       exact Xm (Bd.fin (j7 H m2 λ_ _ y hy=>(j8 c3 y hy).elim))
      rw[if_neg (by simpa using c3)]
      obtain⟨p,ep,rG,mp⟩:=at_of (a:=a) (i:=yA) (by exact Nat.le_of_lt ‹_›)
      refine Xj (aP ep ?_)
      refine Xj (eO hk (H.ka _ mp) (by omega) H.kb (by omega) (λi j h1 h2=>kR H.sb (by omega) (by omega)) λk k1 k2 k3=>?_)
      dsimp -zeta only
      clear jp
      extract_lets Pu Ul jp o1 o2
      subst o2 o1 Ul Pu
      have key:∀m_ F',ib+1<=F'->Mg kn a.toList b.toList m_.toList yA F'->F' < b.size->(∀y∈b.toList.drop F',kn p<=kn y)->wpS (model prog w) A E s (jp () m_ F') (Bd a b st (u5+u6)) (ml st m):=by
       intro m_ F' hs' m3 Pw hp
       dsimp -zeta only[jp]
       refine Xj (aP ep ?_)
       have m4:Mg kn a.toList b.toList (m_.push p).toList (yA+1) F':=by
        rw[Array.toList_push]
        exact m3.pM H.sa rG hp
       by_cases c4:yA+1+1=a.size
       ·rw[if_pos (by rw[<-c4];simp)]
        exact Xm (Bd.fin (mv H m4 c4))
       rw[if_neg (by simpa using c4)]
       have L':Lo a b (m_.push p) (yA+1) F':=⟨m4,by exact Nat.lt_of_le_of_ne ‹_› ‹_›,Pw⟩
       split
       ·exact Xm ⟨⟨m,rfl⟩,.inr ⟨_,_,_,_,_,_,rfl,by omega,L'⟩⟩
       ·exact Xm ⟨⟨m,rfl⟩,_,_,_,_,_,_,rfl,by omega,L'⟩
      by_cases c5:k > 0
      ·rw[if_pos c5]
       have m3:Mg kn a.toList b.toList (out'.push q++b.extract (ib+1) (ib+1+k)).toList yA (ib+1+k):=by
        rw[Array.toList_append,wD]
        refine m2.Bc H.sb k λy hy x hx=>?_
        obtain⟨j,j1,j2,j3⟩:=qB hy
        obtain⟨l,l1,l2,l3⟩:=bW hx
        have g1:=k2 j j1
        have g2:=kR H.sa l1 l2
        rw[aW ep,aW l3] at g2
        unfold gp at g1
        rw[if_pos rfl,aW j3] at g1
        have:=of_decide_eq_true g1
        omega
       by_cases c6:ib+1+k=b.size
       ·rw[if_pos (by rw[<-c6];simp)]
        exact Xm (Bd.fin (j7 H m3 λ_ _ y hy=>(j8 c6 y hy).elim))
       ·rw[if_neg (by simpa using c6)]
        refine key _ _ (by exact Nat.le_add_right _ _) m3 (by omega) λy hy=>?_
        obtain⟨l,l1,l2,l3⟩:=bW hy
        have g1:=k3 (l - (ib+1)) (by omega) (by omega)
        unfold gp at g1
        rw[if_pos rfl,show ib+1+(l - (ib+1))=l by omega,aW l3] at g1
        have:=of_decide_eq_false g1
        exact Int.not_lt.mp ‹_›
      ·rw[if_neg c5]
       refine key _ _ (by exact Nat.le_refl _) m2 (by exact Nat.lt_of_le_of_ne ‹_› ‹_›) λy hy=>?_
       obtain⟨l,l1,l2,l3⟩:=bW hy
       have g1:=k3 (l - (ib+1)) (by omega) (by omega)
       unfold gp at g1
       rw[if_pos rfl,show ib+1+(l - (ib+1))=l by omega,aW l3] at g1
       have:=of_decide_eq_false g1
       exact Int.not_lt.mp ‹_›
     have after:∀p∈a.toList.drop (ia+k),kn q<=kn p:=λp hp=>by
      obtain⟨l,l1,l2,l3⟩:=bW hp
      have g1:=k3 (l - ia) (by omega) (by omega)
      unfold gp at g1
      rw[if_neg (by decide),show ia+(l - ia)=l by omega,aW l3] at g1
      have:kn q < kn p:=by simpa using g1
      exact Int.le_of_lt ‹_›
     by_cases c5:k > 0
     ·rw[if_pos c5]
      have m3:Mg kn a.toList b.toList (out++a.extract ia (ia+k)).toList (ia+k) ib:=by
       rw[Array.toList_append,wD]
       refine L.mg.qA H.sa k λy hy x hx=>?_
       obtain⟨j,j1,j2,j3⟩:=qB hy
       obtain⟨l,l1,l2,l3⟩:=bW hx
       have g1:=k2 j j1
       have g2:=kR H.sb l1 l2
       rw[aW eq,aW l3] at g2
       unfold gp at g1
       rw[if_neg (by decide),aW j3] at g1
       have:¬kn q < kn y:=by simpa using g1
       omega
      by_cases c6:ia+k+1=a.size
      ·rw[if_pos (by rw[<-c6];simp)]
       exact Xm (Bd.fin (mv H m3 c6))
      rw[if_neg (by simpa using c6)]
      by_cases c7:ia+k=a.size
      ·rw[if_pos (by rw[<-c7];simp)]
       exact Xm (Bd.fin (j7 H m3 λy hy=>(j8 c7 y hy).elim))
      ·rw[if_neg (by simpa using c7)]
       exact key _ _ (by omega) m3 (by omega) after
     ·rw[if_neg c5]
      have:k=0:=by omega
      subst this
      exact key _ _ (by exact Nat.le_refl _) L.mg (by assumption) after
    split<;>exact key _ _
end
section
variable {α:Type} {f:α->Int} {A B:List α}
structure Mh(f:α->Int)(A B R:List α)(na nb:Nat):Prop where
 pm:R.Perm (A.drop na++B.drop nb)
 so:R.Pairwise (f · <=f ·)
 la:∀q∈A.take na,∀p∈R,f q<=f p
 lb:∀q∈B.take nb,∀p∈R,f q<=f p
theorem Mh.swap{R:List α}{na nb:Nat}(h:Mh f A B R na nb):Mh f B A R nb na:=⟨h.pm.trans List.perm_append_comm,h.so,h.lb,h.la⟩
theorem take_take{i n:Nat}(h:i<=n):A.take n=A.take i++(A.take n).drop i:=by
 have:=List.take_append_drop i (A.take n)
 rw[List.take_take,Nat.min_eq_left h] at this
 exact this.symm
theorem drop_take{i n:Nat}(h:i<=n):A.drop i=(A.take n).drop i++A.drop n:=by
 have h1:=List.take_append_drop n A
 have h2:=congrArg (List.drop i) h1
 rw[List.drop_append] at h2
 rw[<-h2]
 by_cases c:n<=A.length
 ·rw[List.length_take,Nat.min_eq_left c,Nat.sub_eq_zero_of_le h,List.drop_zero]
 ·rw[List.drop_of_length_le (show A.length<=n by exact Nat.le_of_not_le ‹_›),List.drop_nil]
theorem Mh.qA{R:List α}{na nb:Nat}(h:Mh f A B R na nb)(sa:A.Pairwise (f · <=f ·))(k:Nat)(k1:k<=na)(hk:∀p∈(A.take na).drop k,∀q∈B.take nb,f q<=f p):Mh f A B ((A.take na).drop k++R) k nb:=by
 have e:=take_take (A:=A) k1
 have st:(A.take na).Pairwise (f · <=f ·):=sa.sublist (List.take_sublist _ _)
 rw[e,List.pairwise_append] at st
 have mT:∀p∈(A.take na).drop k,p∈A.take na:=λp hp=>(List.drop_sublist _ _).mem hp
 have mD:∀p∈A.take k,p∈A.take na:=λp hp=>by rw[e];exact List.mem_append_left _ hp
 refine⟨?_,?_,?_,?_⟩
 ·rw[drop_take (A:=A) k1,List.append_assoc]
  exact h.pm.append_left _
 ·rw[List.pairwise_append]
  exact⟨st.2.1,h.so,λp hp q hq=>h.la p (mT p hp) q hq⟩
 ·intro q hq p hp
  rcases List.mem_append.mp hp with z | z
  ·exact st.2.2 q hq p z
  ·exact h.la q (mD q hq) p z
 ·intro q hq p hp
  rcases List.mem_append.mp hp with z | z
  ·exact hk p z q hq
  ·exact h.lb q hq p z
theorem Mh.Bc{R:List α}{na nb:Nat}(h:Mh f A B R na nb)(sb:B.Pairwise (f · <=f ·))(k:Nat)(k1:k<=nb)(hk:∀p∈(B.take nb).drop k,∀q∈A.take na,f q<=f p):Mh f A B ((B.take nb).drop k++R) na k :=
 (h.swap.qA sb k k1 hk).swap
theorem Be{n:Nat}{p:α}(e:A[n]? =some p):(A.take (n+1)).drop n=[p]:=by
 obtain⟨lt,rfl⟩:=List.getElem?_eq_some_iff.mp e
 rw[List.take_succ_eq_append_getElem lt,List.drop_append,List.drop_of_length_le (by rw[List.length_take];exact Nat.min_le_left ..),List.length_take,Nat.min_eq_left (by exact Nat.le_of_lt ‹_›),Nat.sub_self]
 rfl
theorem Mh.pM{R:List α}{na nb:Nat}{p:α}(h:Mh f A B R (na+1) nb)(sa:A.Pairwise (f · <=f ·))(e:A[na]? =some p)(hk:∀q∈B.take nb,f q<=f p):Mh f A B (p::R) na nb:=by
 have t1:=Be e
 have:=h.qA sa na (by exact Nat.le_succ _) (by rw[t1];intro q hq;rw[List.mem_singleton.mp hq];exact hk)
 rw[t1] at this
 exact this
theorem Mh.sI{R:List α}{na nb:Nat}{p:α}(h:Mh f A B R na (nb+1))(sb:B.Pairwise (f · <=f ·))(e:B[nb]? =some p)(hk:∀q∈A.take na,f q<=f p):Mh f A B (p::R) na nb :=
 (h.swap.pM sb e hk).swap
theorem Mh.fin{R:List α}{na nb:Nat}(h:Mh f A B R na nb)(sa:A.Pairwise (f · <=f ·))(sb:B.Pairwise (f · <=f ·))(hk:∀p∈B.take nb,∀q∈A.take na,f q<=f p):(A.take na++B.take nb++R).Perm (A++B)/\(A.take na++B.take nb++R).Pairwise (f · <=f ·):=by
 have h1:=h.Bc sb 0 (Nat.zero_le _) (by rw[List.drop_zero];exact hk)
 have h2:=h1.qA sa 0 (Nat.zero_le _) (by intro _ _ _ z;cases z)
 have pm:=h2.pm
 have so:=h2.so
 rw[List.drop_zero,List.drop_zero,<-List.append_assoc] at so
 rw[List.drop_zero,List.drop_zero,List.drop_zero,List.drop_zero,<-List.append_assoc] at pm
 exact⟨pm,so⟩
theorem Mh.IF{R:List α}{na nb:Nat}(h:Mh f A B R na nb)(sa:A.Pairwise (f · <=f ·))(sb:B.Pairwise (f · <=f ·))(hk:∀p∈A.take na,∀q∈B.take nb,f q<=f p):(B.take nb++A.take na++R).Perm (A++B)/\(B.take nb++A.take na++R).Pairwise (f · <=f ·):=by
 obtain⟨h1,h2⟩:=h.swap.fin sb sa hk
 exact⟨h1.trans List.perm_append_comm,h2⟩
end
theorem cT{a:Array Xg}{n:Nat}{p:Xg}(h:p∈a.toList.take n):∃j,j < n/\j < a.size/\a[j]? =some p:=by
 have:=qB (a:=a) (i:=0) (k:=n) (p:=p) h
 obtain⟨j,h1,h2,h3⟩:=this
 rw[Nat.zero_add] at h2 h3
 exact⟨j,h1,h2,h3⟩
theorem mem_mid{a:Array Xg}{i n:Nat}{p:Xg}(h:p∈(a.toList.take n).drop i):∃j,i<=j/\j < n/\j < a.size/\a[j]? =some p:=by
 obtain⟨j,e⟩:=List.getElem?_of_mem h
 rw[List.getElem?_drop] at e
 have lt:=(List.getElem?_eq_some_iff.mp e).1
 rw[List.length_take] at lt
 rw[List.getElem?_take_of_lt (by omega)] at e
 have:a.toList.length=a.size:=rfl
 exact⟨i+j,by exact Nat.le_add_right _ _,by omega,by omega,by rw[<-Array.getElem?_toList];exact e⟩
theorem i6{a:Array Xg}(n:Nat):(a.extract 0 n).toList=a.toList.take n:=by
 rw[Array.toList_extract,List.extract_eq_take_drop]
 rfl
theorem wF{a:Array Xg}(i n:Nat):(a.extract i n).toList=(a.toList.take n).drop i:=by
 rw[Array.toList_extract,List.extract_eq_take_drop,List.drop_take]
structure IJ(a b:Array Xg):Prop where
 ka:∀p∈a.toList,Ik p
 kb:∀p∈b.toList,Ik p
 sa:Up a.toList
 sb:Up b.toList
 first:∀i,i < a.size->K b 0<=K a i
abbrev lV(a b out:Array Xg)(na nb:Nat):Prop:=Mh kn a.toList b.toList out.toList.reverse na nb
theorem j9{a b out:Array Xg}{na nb:Nat}(H:IJ a b)(m:lV a b out na nb)(h:∀p∈b.toList.take nb,∀q∈a.toList.take na,kn q<=kn p):Fin' a.toList b.toList (a.extract 0 na++b.extract 0 nb++out.reverse):=by
 unfold Fin' Up
 rw[Array.toList_append,Array.toList_append,i6,i6,Array.toList_reverse]
 exact m.fin H.sa H.sb h
theorem j_{a b out:Array Xg}{na:Nat}(H:IJ a b)(m:lV a b out na 1):Fin' a.toList b.toList (b.extract 0 1++a.extract 0 na++out.reverse):=by
 unfold Fin' Up
 rw[Array.toList_append,Array.toList_append,i6,i6,Array.toList_reverse]
 refine m.IF H.sa H.sb λp hp q hq=>?_
 obtain⟨j,j1,j2,j3⟩:=cT hp
 obtain⟨l,l1,l2,l3⟩:=cT hq
 have:l=0:=by omega
 rw[<-aW j3,<-aW l3,this]
 exact H.first j j2
theorem ng{a b out:Array Xg}{na nb:Nat}{p:Xg}(H:IJ a b)(m:lV a b out (na+1) nb)(e:a.toList[na]? =some p)(hk:∀q∈b.toList.take nb,kn q<=kn p):lV a b (out.push p) na nb:=by
 unfold lV
 rw[Array.toList_push,List.reverse_append]
 exact m.pM H.sa e hk
theorem sJ{a b out:Array Xg}{na nb:Nat}{p:Xg}(H:IJ a b)(m:lV a b out na (nb+1))(e:b.toList[nb]? =some p)(hk:∀q∈a.toList.take na,kn q<=kn p):lV a b (out.push p) na nb:=by
 unfold lV
 rw[Array.toList_push,List.reverse_append]
 exact m.sI H.sb e hk
theorem Eh{a b out:Array Xg}{na nb:Nat}(H:IJ a b)(m:lV a b out na nb)(k:Nat)(k1:k<=na)(hk:∀p∈(a.toList.take na).drop k,∀q∈b.toList.take nb,kn q<=kn p):lV a b (out++(a.extract k na).reverse) k nb:=by
 unfold lV
 rw[Array.toList_append,Array.toList_reverse,List.reverse_append,List.reverse_reverse,wF]
 exact m.qA H.sa k k1 hk
theorem Ei{a b out:Array Xg}{na nb:Nat}(H:IJ a b)(m:lV a b out na nb)(k:Nat)(k1:k<=nb)(hk:∀p∈(b.toList.take nb).drop k,∀q∈a.toList.take na,kn q<=kn p):lV a b (out++(b.extract k nb).reverse) na k:=by
 unfold lV
 rw[Array.toList_append,Array.toList_reverse,List.reverse_append,List.reverse_reverse,wF]
 exact m.Bc H.sb k k1 hk
structure Hi(a b out:Array Xg)(na nb:Nat):Prop where
 mg:lV a b out na nb
 a0:1<=na
 a1:na<=a.size
 b0:2<=nb
 b1:nb<=b.size
section
variable {prog:WS} {w:WV} {A:WO} {E:WU->WT->Prop} {s:WT}
abbrev Um:=Option (Array Xg)×Nat×Nat×Array Xg×Nat×Nat×Nat
def Bf(a b:Array Xg)(st:Xh)(n:Nat)(r:ForInStep Um)(st':Xh):Prop :=
 (∃g,st'=ml st g)/\match r with
 | .done c=>(∃r t,c=(some r,t)/\Fin' a.toList b.toList r)\/∃na nb out mg ac bc,c=(none,na,nb,out,mg,ac,bc)/\na+nb<=n/\Hi a b out na nb
 | .yield c=>∃na nb out mg ac bc,c=(none,na,nb,out,mg,ac,bc)/\na+nb<=n/\Hi a b out na nb
theorem Bf.fin{a b:Array Xg}{st:Xh}{n g:Nat}{r:Array Xg}{t:Nat×Nat×Array Xg×Nat×Nat×Nat}(h:Fin' a.toList b.toList r):Bf a b st n (.done (some r,t)) (ml st g):=⟨⟨g,rfl⟩,.inl ⟨r,t,rfl,h⟩⟩
theorem j'{b:Array Xg}:∀q:Xg,q∉b.toList.take 0:=λq hq=>by cases hq
theorem u7{st:Xh}{a b:Array Xg}{Q:Array Xg->Xh->Prop}(H:IJ a b)(Ga:1<=a.size)(Gb:1<=b.size)(hk:kindOf st=Xi)(last:∀j,j < b.size->K b j<=K a (a.size - 1))
  (h:∀r g,Fin' a.toList b.toList r->Q r (ml st g)):wpS (model prog w) A E s (Bb a b) Q st:=by
 refine Xj (wpS_lift (wpAny_rule ⟨rfl,?_⟩))
 obtain⟨a0,RN,Px,Wq⟩:=at_of (a:=a) (i:=a.size - 1) (by omega)
 refine Xj (aP RN ?_)
 have m0:lV a b #[a0] (a.size - 1) b.size:=by
  have z:lV a b #[] (a.size - 1+1) b.size:=⟨by
   have l1:a.toList.length=a.size:=rfl
   have l2:b.toList.length=b.size:=rfl
   rw[List.drop_of_length_le (by omega),List.drop_of_length_le (by exact Nat.le_refl _)]
   exact .nil,.nil,(λ_ _ _ z=>by cases z),(λ_ _ _ z=>by cases z)⟩
  refine ng H z Px λq hq=>?_
  obtain⟨l,l1,l2,l3⟩:=cT hq
  rw[<-aW RN,<-aW l3]
  exact last l l2
 dsimp -zeta only
 extract_lets out
 subst out
 by_cases c1:a.size - 1=0
 ·rw[if_pos (by rw[c1];rfl)]
  rw[c1] at m0 ⊢
  exact Xm (h _ _ (j9 H m0 λ_ _ q hq=>(j' q hq).elim))
 rw[if_neg (by simpa using c1)]
 by_cases c2:b.size=1
 ·rw[if_pos (by rw[c2];rfl)]
  rw[c2] at m0 ⊢
  exact Xm (h _ _ (j_ H m0))
 rw[if_neg (by simpa using c2)]
 refine Xj (wpS_get ?_)
 refine Xj (Xl (Xk (I:=λx c st'=>(∃g,st'=ml st g)/\∃na nb out mg,c=(none,na,nb,out,mg)/\na+nb+x+1<=a.size+b.size/\Hi a b out na nb)
  (Q:=λc st'=>(∃g,st'=ml st g)/\∃r t,c=(some r,t)/\Fin' a.toList b.toList r) ?a ?b ?c) ?d)
 case c=>exact⟨⟨_,rfl⟩,_,_,_,_,rfl,by omega,m0,by exact Nat.pos_of_ne_zero ‹_›,by exact Nat.sub_le _ _,by omega,by exact Nat.le_refl _⟩
 case d=>
  rintro c st' ⟨⟨g,rfl⟩,r,t,rfl,hf⟩
  exact Xm (h _ _ hf)
 case b=>
  rintro c st' ⟨_,na,nb,out,mg,_,h1,h2,h3,h4⟩
  omega
 case a=>
  rintro x c st' _ hx ⟨⟨g,rfl⟩,Py,Pz,out,mg,rfl,h1,L0⟩
  dsimp -zeta only
  refine Xj (Xl (Xk (I:=λx c st'=>st'=ml st g/\∃na nb out ac bc,c=(none,na,nb,out,ac,bc)/\na+nb+x<=Py+Pz/\Hi a b out na nb)
   (Q:=λc st'=>st'=ml st g/\((∃r t,c=(some r,t)/\Fin' a.toList b.toList r)\/∃na nb out ac bc,c=(none,na,nb,out,ac,bc)/\na+nb+1<=Py+Pz/\Hi a b out na nb)) ?e ?f ?g) ?i)
  case g=>exact⟨rfl,Py,Pz,out,0,0,rfl,by exact Nat.le_refl _,L0⟩
  case f=>
   rintro c st' ⟨rfl,na,nb,out,ac,bc,rfl,h1,L⟩
   have:=L.a0
   have:=L.b0
   exact⟨rfl,.inr ⟨na,nb,out,ac,bc,rfl,by omega,L⟩⟩
  case e=>
   rintro x c st' _ hx ⟨rfl,na,nb,out,ac,bc,rfl,h1,L⟩
   dsimp only
   have l1:=L.a0
   have l2:=L.a1
   have l3:=L.b0
   have l4:=L.b1
   obtain⟨n,rfl⟩:∃n,na=n+1:=⟨na - 1,by omega⟩
   obtain⟨m,rfl⟩:∃m,nb=m+1:=⟨nb - 1,by omega⟩
   rw[Nat.add_sub_cancel,Nat.add_sub_cancel]
   obtain⟨p,ep,rG,mp⟩:=at_of (a:=a) (i:=n) (by assumption)
   obtain⟨q,eq,eq',mq⟩:=at_of (a:=b) (i:=m) (by assumption)
   refine Xj (aP eq (Xj (aP ep (Xj (sG (x:=q) (y:=p) hk (H.kb _ mq) (H.ka _ mp) ?_)))))
   by_cases lt:kn q < kn p
   ·rw[decide_eq_true lt]
    dsimp only
    rw[if_pos rfl]
    refine Xj (aP ep ?_)
    have m':lV a b (out.push p) n (m+1):=ng H L.mg rG λy hy=>by
     obtain⟨l,l1,l2,l3⟩:=cT hy
     have:=kR H.sb (show l<=m by exact Nat.le_of_lt_succ ‹_›) (by assumption)
     rw[aW eq,aW l3] at this
     omega
    by_cases c3:n=0
    ·rw[if_pos (by rw[c3];rfl)]
     rw[c3] at m' ⊢
     exact Xm ⟨rfl,.inl ⟨_,_,rfl,j9 H m' λ_ _ y hy=>(j' y hy).elim⟩⟩
    ·rw[if_neg (by simpa using c3)]
     have L':Hi a b (out.push p) n (m+1):=⟨m',by exact Nat.pos_of_ne_zero ‹_›,by exact Nat.le_of_lt ‹_›,by assumption,by assumption⟩
     by_cases c4:ac+1 >= mg
     ·rw[if_pos c4]
      exact Xm ⟨rfl,.inr ⟨_,_,_,_,_,rfl,by omega,L'⟩⟩
     ·rw[if_neg c4]
      exact Xm ⟨rfl,_,_,_,_,_,rfl,by omega,L'⟩
   ·rw[decide_eq_false lt]
    dsimp only
    rw[if_neg (by decide)]
    refine Xj (aP eq ?_)
    have m':lV a b (out.push q) (n+1) m:=sJ H L.mg eq' λy hy=>by
     obtain⟨l,l1,l2,l3⟩:=cT hy
     have:=kR H.sa (show l<=n by exact Nat.le_of_lt_succ ‹_›) (by assumption)
     rw[aW ep,aW l3] at this
     omega
    by_cases c3:m=1
    ·rw[if_pos (by rw[c3];rfl)]
     rw[c3] at m' ⊢
     exact Xm ⟨rfl,.inl ⟨_,_,rfl,j_ H m'⟩⟩
    ·rw[if_neg (by simpa using c3)]
     have L':Hi a b (out.push q) (n+1) m:=⟨m',by assumption,by assumption,by omega,by exact Nat.le_of_lt ‹_›⟩
     by_cases c4:bc+1 >= mg
     ·rw[if_pos c4]
      exact Xm ⟨rfl,.inr ⟨_,_,_,_,_,rfl,by omega,L'⟩⟩
     ·rw[if_neg c4]
      exact Xm ⟨rfl,_,_,_,_,_,rfl,by omega,L'⟩
  case i=>
   rintro c st' ⟨rfl,⟨r,⟨o,i1,i2,i3,i4⟩,rfl,hf⟩ | ⟨Ga,Gb,out,ac,bc,rfl,h2,L0⟩⟩
   ·exact Xm ⟨⟨g,rfl⟩,r,_,rfl,hf⟩
   dsimp -zeta only
   refine Xj (wpS_lift (wpAny_rule ⟨rfl,?_⟩))
   refine Xj (Xl (Xk (I:=λx c st'=>(∃g,st'=ml st g)/\∃na nb out mg ac bc,c=(none,na,nb,out,mg,ac,bc)/\na+nb<=Ga+Gb/\Hi a b out na nb)
    (Q:=λc st'=>(∃g,st'=ml st g)/\((∃r t,c=(some r,t)/\Fin' a.toList b.toList r)\/∃na nb out mg ac bc,c=(none,na,nb,out,mg,ac,bc)/\na+nb<=Ga+Gb/\Hi a b out na nb)) ?j ?k ?l) ?mm)
   case l=>exact⟨⟨_,rfl⟩,Ga,Gb,out,_,ac,bc,rfl,by exact Nat.le_refl _,L0⟩
   case k=>
    rintro c st' ⟨hg,na,nb,out,mg,ac,bc,rfl,h1,L⟩
    exact⟨hg,.inr ⟨na,nb,out,mg,ac,bc,rfl,by assumption,L⟩⟩
   case mm=>
    rintro c st' ⟨⟨g,rfl⟩,⟨r,⟨o,i1,i2,i3,i4,i5⟩,rfl,hf⟩ | ⟨na,nb,out,mg,ac,bc,rfl,h3,L⟩⟩
    ·exact Xm ⟨⟨g,rfl⟩,r,_,rfl,hf⟩
    ·dsimp only
     exact Xj (wpS_modify (Xm ⟨⟨_,rfl⟩,_,_,_,_,rfl,by omega,L⟩))
   case j=>
    rintro x c st' _ hx ⟨⟨g,rfl⟩,na,nb,out,mg,ac,bc,rfl,h1,L⟩
    refine Xl (Q:=Bf a b st (Ga+Gb)) ?_ λr st' h=>by cases r<;>exact h
    have l1:=L.a0
    have l2:=L.a1
    have l3:=L.b0
    have l4:=L.b1
    obtain⟨m,rfl⟩:∃m,nb=m+1:=⟨nb - 1,by omega⟩
    obtain⟨q,eq,eq',mq⟩:=at_of (a:=b) (i:=m) (by assumption)
    dsimp -zeta only
    extract_lets z1 z2 z3 z4 z5 z6 z7 z8 z9 IG IH II jp Pt
    subst Pt II IH IG z9 z8 z7 z6 z5 z4 z3 z2 z1
    have key:∀mg g,wpS (model prog w) A E s (jp () mg) (Bf a b st (Ga+Gb)) (ml st g):=by
     intro mg g
     dsimp -zeta only[jp]
     rw[Nat.add_sub_cancel]
     refine Xj (wpS_modify ?_)
     refine Xj (aP eq ?_)
     refine Xj (eO hk (H.kb _ mq) (by omega) H.ka (by omega) (λi j h1 h2=>kR H.sa (by omega) (by omega)) λk k1 k2 k3=>?_)
     have upto:∀p∈a.toList.take k,kn p<=kn q:=λp hp=>by
      obtain⟨l,l1,l2,l3⟩:=cT hp
      have g1:=k2 l l1
      unfold gp at g1
      rw[if_neg (by decide),Nat.zero_add,aW l3] at g1
      have:¬kn q < kn p:=by simpa using g1
      exact Int.not_lt.mp ‹_›
     dsimp -zeta only
     clear jp
     extract_lets o0 ac' jp o1 o2
     subst o2 o1 ac' o0
     have key:∀out' Ej,1<=Ej->Ej<=na->lV a b out' Ej (m+1)->(∀p∈a.toList.take Ej,kn p<=kn q)->wpS (model prog w) A E s (jp () Ej out') (Bf a b st (Ga+Gb)) (ml st mg):=by
      intro out' Ej n1 n2 m1 hq
      dsimp -zeta only[jp]
      refine Xj (aP eq ?_)
      have m2:lV a b (out'.push q) Ej m:=sJ H m1 eq' hq
      by_cases c3:m=1
      ·rw[if_pos (by rw[c3];rfl)]
       rw[c3] at m2 ⊢
       exact Xm (Bf.fin (j_ H m2))
      rw[if_neg (by simpa using c3)]
      obtain⟨n,rfl⟩:∃n,Ej=n+1:=⟨Ej - 1,by omega⟩
      obtain⟨p,ep,rG,mp⟩:=at_of (a:=a) (i:=n) (by exact Nat.lt_of_lt_of_le ‹_ < _› ‹_<=_›)
      rw[Nat.add_sub_cancel]
      refine Xj (aP ep ?_)
      refine Xj (eO hk (H.ka _ mp) (by omega) H.kb (by omega) (λi j h1 h2=>kR H.sb (by omega) (by omega)) λk k1 k2 k3=>?_)
      have upto:∀y∈b.toList.take k,kn y<=kn p:=λy hy=>by
       obtain⟨l,l1,l2,l3⟩:=cT hy
       have g1:=k2 l l1
       unfold gp at g1
       rw[if_pos rfl,Nat.zero_add,aW l3] at g1
       have:=of_decide_eq_true g1
       exact Int.le_of_lt ‹_›
      dsimp -zeta only
      clear jp
      extract_lets o0 Pu n' jp o1 o2
      subst o2 o1 n' Pu o0
      have key:∀m_ Gd,2<=Gd->Gd<=m->lV a b m_ (n+1) Gd->(∀y∈b.toList.take Gd,kn y<=kn p)->wpS (model prog w) A E s (jp () Gd m_) (Bf a b st (Ga+Gb)) (ml st mg):=by
       intro m_ Gd b1 b2 m3 hp
       dsimp -zeta only[jp]
       refine Xj (aP ep ?_)
       have m4:lV a b (m_.push p) n Gd:=ng H m3 rG hp
       by_cases c4:n=0
       ·rw[if_pos (by rw[c4];rfl)]
        rw[c4] at m4 ⊢
        exact Xm (Bf.fin (j9 H m4 λ_ _ y hy=>(j' y hy).elim))
       rw[if_neg (by simpa using c4)]
       have L':Hi a b (m_.push p) n Gd:=⟨m4,by exact Nat.pos_of_ne_zero ‹_›,by omega,by assumption,by omega⟩
       split
       ·exact Xm ⟨⟨mg,rfl⟩,.inr ⟨_,_,_,_,_,_,rfl,by omega,L'⟩⟩
       ·exact Xm ⟨⟨mg,rfl⟩,_,_,_,_,_,_,rfl,by omega,L'⟩
      by_cases c5:m - k > 0
      ·rw[if_pos c5]
       have m3:lV a b (out'.push q++(b.extract k m).reverse) (n+1) k:=by
        refine Ei H m2 k (by assumption) λy hy x hx=>?_
        obtain⟨j,j0,j1,j2,j3⟩:=mem_mid hy
        obtain⟨l,l1,l2,l3⟩:=cT hx
        have g1:=k3 j j0 j1
        have g2:=kR H.sa (show l<=n by exact Nat.le_of_lt_succ ‹_›) (by exact Nat.lt_of_lt_of_le ‹_ < _› ‹_<=_›)
        rw[aW ep,aW l3] at g2
        unfold gp at g1
        rw[if_pos rfl,Nat.zero_add,aW j3] at g1
        have:=of_decide_eq_false g1
        omega
       by_cases c6:k=1
       ·rw[if_pos (by rw[c6];rfl)]
        rw[c6] at m3 ⊢
        exact Xm (Bf.fin (j_ H m3))
       rw[if_neg (by simpa using c6)]
       by_cases c7:k=0
       ·rw[if_pos (by rw[c7];rfl)]
        rw[c7] at m3 ⊢
        exact Xm (Bf.fin (j9 H m3 λy hy=>(j' y hy).elim))
       ·rw[if_neg (by simpa using c7)]
        exact key _ _ (by omega) (by assumption) m3 upto
      ·rw[if_neg c5]
       have:k=m:=by omega
       subst this
       exact key _ _ (by omega) (by assumption) m2 upto
     by_cases c5:na - k > 0
     ·rw[if_pos c5]
      have m3:lV a b (out++(a.extract k na).reverse) k (m+1):=by
       refine Eh H L.mg k (by assumption) λy hy x hx=>?_
       obtain⟨j,j0,j1,j2,j3⟩:=mem_mid hy
       obtain⟨l,l1,l2,l3⟩:=cT hx
       have g1:=k3 j j0 j1
       have g2:=kR H.sb (show l<=m by exact Nat.le_of_lt_succ ‹_›) (by assumption)
       rw[aW eq,aW l3] at g2
       unfold gp at g1
       rw[if_neg (by decide),Nat.zero_add,aW j3] at g1
       have:kn q < kn y:=by simpa using g1
       omega
      by_cases c6:k=0
      ·rw[if_pos (by rw[c6];rfl)]
       rw[c6] at m3 ⊢
       exact Xm (Bf.fin (j9 H m3 λ_ _ y hy=>(j' y hy).elim))
      ·rw[if_neg (by simpa using c6)]
       exact key _ _ (by exact Nat.pos_of_ne_zero ‹_›) (by assumption) m3 upto
     ·rw[if_neg c5]
      have:k=na:=by omega
      subst this
      exact key _ _ (by assumption) (by assumption) L.mg upto
    split<;>exact key _ _
end
theorem wG(b:Nat):∀(l:List Xg)(k:Nat)(xs:Array Xg),b+k+l.length<=xs.size->((l.zipIdx k).foldl (λ(a:Array Xg)(q:Xg×Nat)=>a.setIfInBounds (b+q.2) q.1) xs).toList=xs.toList.take (b+k)++l++xs.toList.drop (b+k+l.length)
 | [],k,xs,h=>by simp
 | p::l,k,xs,h=>by
  rw[List.zipIdx_cons,List.foldl_cons]
  rw[List.length_cons] at h
  have ih:=wG b l (k+1) (xs.setIfInBounds (b+k) p) (by rw[Array.size_setIfInBounds];omega)
  refine ih.trans ?_
  have lt:b+k < xs.toList.length:=by show b+k < xs.size;omega
  have e1:(xs.toList.set (b+k) p).take (b+(k+1))=xs.toList.take (b+k)++[p]:=by
   rw[<-Nat.add_assoc,List.take_succ_eq_append_getElem (by rw[List.length_set];exact lt),List.take_set_of_le (Nat.le_refl _),List.getElem_set_self]
  have e2:(xs.toList.set (b+k) p).drop (b+(k+1)+l.length)=xs.toList.drop (b+(k+1)+l.length):=List.drop_set_of_lt (by exact Nat.le_add_right _ _)
  rw[Array.toList_setIfInBounds,e1,e2,List.length_cons,show b+(k+1)+l.length=b+k+(l.length+1) by omega]
  simp
theorem seg_at{xs:Array Xg}{L A R:List Xg}(e:xs.toList=L++A++R){i:Nat}(h:i < A.length):xs[L.length+i]? =A[i]?:=by
 rw[<-Array.getElem?_toList,e,List.append_assoc,List.getElem?_append_right (by exact Nat.le_add_right _ _),List.getElem?_append_left (by omega)]
 congr 1
 exact Nat.add_sub_cancel_left ..
theorem Bg{xs:Array Xg}{L A R:List Xg}(e:xs.toList=L++A++R)(u:Up A){i j:Nat}(h1:i<=j)(h2:j < A.length):K xs (L.length+i)<=K xs (L.length+j):=by
 have q1:=seg_at e (i:=i) (by exact Nat.lt_of_le_of_lt ‹_<=_› ‹_ < _›)
 have q2:=seg_at e h2
 rw[List.getElem?_eq_getElem (by omega)] at q1 q2
 rw[aW q1,aW q2]
 by_cases c:i=j
 ·subst c
  exact Int.le_refl _
 ·exact List.pairwise_iff_getElem.mp u i j (by exact Nat.lt_of_le_of_lt ‹_<=_› ‹_ < _›) (by assumption) (by exact Nat.lt_of_le_of_ne ‹_› ‹_›)
theorem wH{xs:Array Xg}{L A R:List Xg}(e:xs.toList=L++A++R){i j:Nat}(h1:i<=j)(h2:j<=A.length):(xs.extract (L.length+i) (L.length+j)).toList=(A.take j).drop i:=by
 rw[Array.toList_extract,List.extract_eq_take_drop,e,List.append_assoc,List.drop_append,List.drop_of_length_le (by exact Nat.le_add_right _ _),List.nil_append,Nat.add_sub_cancel_left,show L.length+j - (L.length+i)=j - i by omega,List.drop_take,List.drop_append_of_le_length (by exact Nat.le_trans ‹_<=_› ‹_<=_›),List.take_append_of_le_length (by rw[List.length_drop];omega)]
section
variable {prog:WS} {w:WV} {A₀:WO} {E:WU->WT->Prop} {s:WT}
theorem Ek{σ:Type}{M:Model}{Q:PUnit->σ->Prop}{st x:σ}(h:Q ⟨⟩ x):wpS M A₀ E s (set x:StateT σ Sem PUnit) Q st:=by
 unfold wpS
 rw[StateT.run_set]
 exact Xe ⟨rfl,h⟩
theorem u9{xs:Array Xg}{g0 sa na pw sb nb p2:Nat}{pre post:List (Nat×Nat×Nat)}{L A B S:List Xg}{Q:Bool->Xh->Prop}
  (e:xs.toList=L++A++(B++S))(hI:∀p∈xs.toList,Ik p)(e1:L.length=sa)(e2:A.length=na)(e3:B.length=nb)(e4:sb=sa+na)(n1:1<=na)(n2:1<=nb)(uA:Up A)(uB:Up B)
  (h:∀C ys g,C.Perm (A++B)->Up C->ys.toList=L++C++S->Q true (SortSt.mk' Xi ys (pre++(sa,na+nb,pw)::post).toArray g none)) :
  wpS (model prog w) A₀ E s (mergeAt' pre.length) Q (SortSt.mk' Xi xs (pre++(sa,na,pw)::(sb,nb,p2)::post).toArray g0 none):=by
 refine Xj (wpS_get ?_)
 have g1:(pre++(sa,na,pw)::(sb,nb,p2)::post).toArray[pre.length]? =some (sa,na,pw):=by simp
 have g2:(pre++(sa,na,pw)::(sb,nb,p2)::post).toArray[pre.length+1]? =some (sb,nb,p2):=by simp
 have g3:((pre++(sa,na,pw)::(sb,nb,p2)::post).toArray.setIfInBounds pre.length (sa,na+nb,pw)).eraseIdxIfInBounds (pre.length+1)=(pre++(sa,na+nb,pw)::post).toArray:=by
  apply Array.toList_inj.mp
  rw[Array.toList_eraseIdxIfInBounds,Array.toList_setIfInBounds]
  simp[List.eraseIdx_append_of_length_le]
 dsimp -zeta only
 rw[g1,g2]
 dsimp -zeta only
 refine Xj (Ek ?_)
 rw[g3]
 clear g1 g2 g3
 subst e1 e2 e3 e4
 obtain⟨b0,rB,eb⟩:∃b0 rB,B=b0::rB:=by cases B with | nil=>simp at n2 | cons x y=>exact⟨x,y,rfl⟩
 have eB:xs.toList=(L++A)++B++S:=by rw[e];simp
 have Mo:(L++A).length=L.length+A.length:=List.length_append
 have sz:xs.size=L.length+A.length+(B.length+S.length):=by
  have:=congrArg List.length e
  simpa [Nat.add_assoc,Nat.add_comm,Nat.add_left_comm] using this
 have ND:xs[L.length+A.length]? =some b0:=by
  have:=seg_at eB (i:=0) (by assumption)
  rw[Mo,eb] at this
  exact this
 have Uo:Ik b0:=hI b0 (by rw[e,eb];simp)
 refine Xj (aP ND ?_)
 refine Xj (eO rfl Uo (by omega) hI (by assumption) (λi j h1 h2=>Bg e uA h1 h2) λk k1 k2 k3=>?_)
 have lo1:∀p∈A.take k,kn p<=kn b0:=λp hp=>by
  obtain⟨i,ei⟩:=List.getElem?_of_mem hp
  have li:=(List.getElem?_eq_some_iff.mp ei).1
  rw[List.length_take] at li
  rw[List.getElem?_take_of_lt (by omega)] at ei
  have g1:=k2 i (by omega)
  unfold gp at g1
  rw[if_neg (by decide),aW ((seg_at e (by omega)).trans ei)] at g1
  have:¬kn b0 < kn p:=by simpa using g1
  exact Int.not_lt.mp ‹_›
 have hi1:∀p∈A.drop k,kn b0<=kn p:=λp hp=>by
  obtain⟨i,ei⟩:=List.getElem?_of_mem hp
  rw[List.getElem?_drop] at ei
  have li:=(List.getElem?_eq_some_iff.mp ei).1
  have g1:=k3 (k+i) (by exact Nat.le_add_right _ _) li
  unfold gp at g1
  rw[if_neg (by decide),aW ((seg_at e li).trans ei)] at g1
  have:kn b0 < kn p:=by simpa using g1
  exact Int.le_of_lt ‹_›
 have Mq:∀q∈B,kn b0<=kn q:=λq hq=>by
  rw[eb] at hq uB
  rcases List.mem_cons.mp hq with z | z
  ·rw[z];exact Int.le_refl _
  ·exact(List.pairwise_cons.mp uB).1 q z
 dsimp -zeta only
 by_cases c1:A.length - k=0
 ·rw[if_pos (by rw[c1];rfl)]
  have ek:A.take k=A:=List.take_of_length_le (by omega)
  rw[ek] at lo1
  refine Xm (h (A++B) xs g0 (.refl _) ?_ (by rw[e];simp))
  unfold Up
  rw[List.pairwise_append]
  exact⟨uA,uB,λp hp q hq=>Int.le_trans (lo1 p hp) (Mq q hq)⟩
 rw[if_neg (by simpa using c1),show L.length+k+(A.length - k) - 1=L.length+(A.length - 1) by omega]
 obtain⟨a1,PB⟩:∃a1,A[A.length - 1]? =some a1:=⟨_,List.getElem?_eq_getElem (by omega)⟩
 have Mr:=(seg_at e (i:=A.length - 1) (by omega)).trans PB
 have Uq:a1∈A.drop k:=by
  refine List.mem_of_getElem? (i:=A.length - 1 - k) ?_
  rw[List.getElem?_drop,show k+(A.length - 1 - k)=A.length - 1 by omega]
  exact PB
 have Ur:Ik a1:=hI a1 (by rw[e];exact List.mem_append_left _ (List.mem_append_right _ ((List.drop_sublist _ _).mem Uq)))
 refine Xj (aP Mr ?_)
 refine Xj (eO (base:=L.length+A.length) rfl Ur (by omega) hI (by omega) (λi j h1 h2=>by rw[<-Mo];exact Bg eB uB h1 h2) λm m1 m2 m3=>?_)
 have IK:∀p∈A,kn p<=kn a1:=λp hp=>by
  obtain⟨i,ei⟩:=List.getElem?_of_mem hp
  have li:=(List.getElem?_eq_some_iff.mp ei).1
  have:=Bg e uA (i:=i) (j:=A.length - 1) (by omega) (by omega)
  rw[aW ((seg_at e li).trans ei),aW Mr] at this
  exact this
 have lo2:∀q∈B.take m,kn q<=kn a1:=λp hp=>by
  obtain⟨i,ei⟩:=List.getElem?_of_mem hp
  have li:=(List.getElem?_eq_some_iff.mp ei).1
  rw[List.length_take] at li
  rw[List.getElem?_take_of_lt (by omega)] at ei
  have g1:=m2 i (by omega)
  unfold gp at g1
  rw[if_pos rfl,<-Mo,aW ((seg_at eB (by omega)).trans ei)] at g1
  have:=of_decide_eq_true g1
  exact Int.le_of_lt ‹_›
 have hi2:∀q∈B.drop m,kn a1<=kn q:=λp hp=>by
  obtain⟨i,ei⟩:=List.getElem?_of_mem hp
  rw[List.getElem?_drop] at ei
  have li:=(List.getElem?_eq_some_iff.mp ei).1
  have g1:=m3 (m+i) (by exact Nat.le_add_right _ _) li
  unfold gp at g1
  rw[if_pos rfl,<-Mo,aW ((seg_at eB li).trans ei)] at g1
  have:=of_decide_eq_false g1
  exact Int.not_lt.mp ‹_›
 dsimp -zeta only
 by_cases c2:m=0
 ·rw[if_pos (by rw[c2];rfl)]
  rw[c2,List.drop_zero] at hi2
  refine Xm (h (A++B) xs g0 (.refl _) ?_ (by rw[e];simp))
  unfold Up
  rw[List.pairwise_append]
  exact⟨uA,uB,λp hp q hq=>Int.le_trans (IK p hp) (hi2 q hq)⟩
 rw[if_neg (by simpa using c2)]
 have ex:(xs.extract (L.length+k) (L.length+A.length)).toList=A.drop k:=by
  rw[wH e (by assumption) (Nat.le_refl _),List.take_of_length_le (Nat.le_refl _)]
 have ey:(xs.extract (L.length+A.length) (L.length+A.length+m)).toList=B.take m:=by
  have:=wH eB (i:=0) (j:=m) (by exact Nat.zero_le _) (by assumption)
  rw[Mo] at this
  exact this
 generalize xs.extract (L.length+k) (L.length+A.length)=X at ex
 generalize xs.extract (L.length+A.length) (L.length+A.length+m)=Y at ey
 extract_lets x y jp
 subst x y
 have key:∀r g,Fin' X.toList Y.toList r->wpS (model prog w) A₀ E s (jp r) Q (SortSt.mk' Xi xs (pre++(L.length,A.length+B.length,pw)::post).toArray g none):=by
  intro r g hr
  dsimp -zeta only[jp]
  refine Xj (wpS_modify (Xj (wpS_get (Xm ?_))))
  obtain⟨pm,up⟩:=hr
  rw[ex,ey] at pm
  have lr:=pm.length_eq
  rw[List.length_append,List.length_drop,List.length_take,Nat.min_eq_left m1] at lr
  refine h (A.take k++r.toList++B.drop m) _ g ?_ ?_ ?_
  ·refine((pm.append_left (A.take k)).append_right (B.drop m)).trans ?_
   rw[<-List.append_assoc,List.take_append_drop,List.append_assoc,List.take_append_drop]
  ·unfold Up
   rw[List.pairwise_append,List.pairwise_append]
   have NF:=uA
   have NG:=uB
   unfold Up at NF NG
   rw[<-List.take_append_drop k A,List.pairwise_append] at NF
   rw[<-List.take_append_drop m B,List.pairwise_append] at NG
   refine⟨⟨NF.1,up,λp hp q hq=>?_⟩,NG.2.1,λp hp q hq=>?_⟩
   ·rcases List.mem_append.mp (pm.mem_iff.mp hq) with z | z
    ·exact NF.2.2 p hp q z
    ·exact Int.le_trans (lo1 p hp) (Mq q ((List.take_sublist _ _).mem z))
   ·rcases List.mem_append.mp hp with z | z
    ·exact Int.le_trans (IK p ((List.take_sublist _ _).mem z)) (hi2 q hq)
    ·rcases List.mem_append.mp (pm.mem_iff.mp z) with z | z
     ·exact Int.le_trans (IK p ((List.drop_sublist _ _).mem z)) (hi2 q hq)
     ·exact NG.2.2 p z q hq
  ·have:=wG (L.length+k) r.toList 0 xs (by omega)
   refine this.trans ?_
   rw[lr,e,Nat.add_zero,show L.length+k+(A.length - k+m)=(L++A).length+m by omega,List.drop_append,List.drop_of_length_le (by exact Nat.le_add_right _ _),List.nil_append,Nat.add_sub_cancel_left,List.drop_append_of_le_length m1,
    List.append_assoc L A,List.take_append,List.take_of_length_le (by exact Nat.le_add_right _ _),Nat.add_sub_cancel_left,List.take_append_of_le_length k1]
   simp
 have sX:X.size=A.length - k:=by rw[<-Array.length_toList,ex,List.length_drop]
 have sY:Y.size=m:=by rw[<-Array.length_toList,ey,List.length_take];omega
 have Us:∀p∈X.toList,p∈A:=λp hp=>by rw[ex] at hp;exact(List.drop_sublist _ _).mem hp
 have Ut:∀p∈Y.toList,p∈B:=λp hp=>by rw[ey] at hp;exact(List.take_sublist _ _).mem hp
 have kX:∀p∈X.toList,Ik p:=λp hp=>hI p (by rw[e];exact List.mem_append_left _ (List.mem_append_right _ (Us p hp)))
 have kY:∀p∈Y.toList,Ik p:=λp hp=>hI p (by rw[e];exact List.mem_append_right _ (List.mem_append_left _ (Ut p hp)))
 have uX:Up X.toList:=by rw[ex];exact uA.sublist (List.drop_sublist _ _)
 have uY:Up Y.toList:=by rw[ey];exact uB.sublist (List.take_sublist _ _)
 have last:∀j,j < Y.size->K Y j<=K X (X.size - 1):=λj hj=>by
  obtain⟨q,q1,q2,q3⟩:=at_of hj
  have e1:X[X.size - 1]? =some a1:=by
   rw[<-Array.getElem?_toList,ex,List.getElem?_drop,sX,show k+(A.length - k - 1)=A.length - 1 by omega]
   exact PB
  rw[aW q1,aW e1]
  exact lo2 q (by rw[<-ey];exact q3)
 have first:∀i,i < X.size->K Y 0<=K X i:=λi hi=>by
  obtain⟨q,q1,q2,q3⟩:=at_of hi
  have e1:Y[0]? =some b0:=by
   rw[<-Array.getElem?_toList,ey,List.getElem?_take_of_lt (by exact Nat.pos_of_ne_zero ‹_›),eb]
   rfl
  rw[aW q1,aW e1]
  exact hi1 q (by rw[<-ex];exact q3)
 split
 ·exact Xj (uZ ⟨kX,kY,uX,uY,last⟩ (by omega) (by omega) rfl first λr g hr=>key r g hr)
 ·exact Xj (u7 ⟨kX,kY,uX,uY,first⟩ (by omega) (by omega) rfl last λr g hr=>key r g hr)
end
def Sm(lo:Nat)(xs ys:Array Xg):Prop:=ys.Perm xs/\∀i,i < lo->ys[i]? =xs[i]?
theorem Sm.refl{lo:Nat}{xs:Array Xg}:Sm lo xs xs:=⟨.refl _,λ_ _=>rfl⟩
theorem Sm.trans{lo:Nat}{xs ys zs:Array Xg}(h1:Sm lo xs ys)(h2:Sm lo ys zs):Sm lo xs zs:=⟨h2.1.trans h1.1,λi hi=>(h2.2 i hi).trans (h1.2 i hi)⟩
theorem Sm.size{lo:Nat}{xs ys:Array Xg}(h:Sm lo xs ys):ys.size=xs.size:=h.1.size_eq
theorem Sm.ik{lo:Nat}{xs ys:Array Xg}(h:Sm lo xs ys)(hI:∀p∈xs.toList,Ik p):∀p∈ys.toList,Ik p:=λp hp=>hI p ((Array.perm_iff_toList_perm.mp h.1).mem_iff.mp hp)
theorem Sm.mirror{lo i j:Nat}{xs:Array Xg}(h:lo<=i)(hj:j<=xs.size):Sm lo xs (mirror xs i j ((j - i) / 2)) :=
 ⟨mirror_perm _ _ _ _,λk hk=>by rw[getElem?_mirror_all hj,if_neg (by omega)]⟩
def pN(xs:Array Xg)(lo n:Nat):Prop:=∀i j,i<=j->j < n->K xs (lo+i)<=K xs (lo+j)
def Bh(xs:Array Xg)(lo n:Nat):Prop:=∀i j,i<=j->j < n->K xs (lo+j)<=K xs (lo+i)
theorem pN.step{xs:Array Xg}{lo n:Nat}(h:pN xs lo n)(h1:1<=n)(c:¬K xs (lo+n) < K xs (lo+n - 1)):pN xs lo (n+1):=λi j hij hj=>by
 by_cases z:j < n
 ·exact h i j hij z
 ·have:j=n:=by omega
  subst this
  by_cases y:i=j
  ·subst y;exact Int.le_refl _
  ·have:=h i (j - 1) (by omega) (by omega)
   rw[show lo+(j - 1)=lo+j - 1 by omega] at this
   omega
theorem Bh.step{xs:Array Xg}{lo n:Nat}(h:Bh xs lo n)(h1:1<=n)(c:K xs (lo+n)<=K xs (lo+n - 1)):Bh xs lo (n+1):=λi j hij hj=>by
 by_cases z:j < n
 ·exact h i j hij z
 ·have:j=n:=by omega
  subst this
  by_cases y:i=j
  ·subst y;exact Int.le_refl _
  ·have:=h i (j - 1) (by omega) (by omega)
   rw[show lo+(j - 1)=lo+j - 1 by omega] at this
   exact Int.le_trans ‹_› ‹_›
theorem pN.one{xs:Array Xg}{lo:Nat}:pN xs lo 1:=λi j h1 h2=>by
 have:i=j:=by omega
 subst this;exact Int.le_refl _
theorem pN.turn{xs:Array Xg}{lo n:Nat}(h:Bh xs lo n)(hn:lo+n<=xs.size):pN (mirror xs lo (lo+n) ((lo+n - lo) / 2)) lo n:=λi j h1 h2=>by
 rw[K_mirror hn,K_mirror hn,if_pos (by omega),if_pos (by omega)]
 have:=h (n - 1 - j) (n - 1 - i) (by omega) (by omega)
 rw[show lo+(lo+n) - 1 - (lo+i)=lo+(n - 1 - i) by omega,show lo+(lo+n) - 1 - (lo+j)=lo+(n - 1 - j) by omega]
 exact this
section
variable {prog:WS} {w:WV} {A:WO} {E:WU->WT->Prop} {s:WT} {P:Array (Nat×Nat×Nat)} {g:Nat}
theorem sL{xs:Array Xg}{i j:Nat}{Q:Option Bool->Xh->Prop}(hI:∀p∈xs.toList,Ik p)(hi:i < xs.size)(hj:j < xs.size)(h:Q (some (decide (K xs i < K xs j))) (SortSt.mk' Xi xs P g none)) :
  wpS (model prog w) A E s (ltAt' i j) Q (SortSt.mk' Xi xs P g none):=by
 obtain⟨p,p1,_,p2⟩:=at_of hi
 obtain⟨q,q1,_,q2⟩:=at_of hj
 rw[aW p1,aW q1] at h
 refine Xj (wpS_get ?_)
 refine Xj (aP p1 (Xj (aP q1 ?_)))
 exact sG rfl (hI p p2) (hI q q2) h
theorem qC{xs:Array Xg}{i j:Nat}{Q:Unit->Xh->Prop}(h:Q () (SortSt.mk' Xi (mirror xs i j ((j - i) / 2)) P g none)):wpS (model prog w) A E s (reverseSlice' i j) Q (SortSt.mk' Xi xs P g none):=by
 rw[reverseSlice'_eq]
 exact wpS_modify h
def Ms(lo a m:Nat):StateT Xh Sem AscSt :=
 forIn [a:m] ((none,a):AscSt) λ_ c=>do
  match(<-ltAt' (lo+c.2) (lo+c.2 - 1)) with
  | some b=>if b=true then pure (.done (none,c.2)) else pure (.yield (none,c.2+1))
  | _=>pure (.done (some none,c.2))
theorem wI{xs:Array Xg}{lo a m:Nat}{Q:AscSt->Xh->Prop}(hI:∀p∈xs.toList,Ik p)(hm:lo+m<=xs.size)(h1:1<=a)(h2:a<=m)(hs:pN xs lo a)
  (h:∀n,a<=n->n<=m->pN xs lo n->(n=m\/K xs (lo+n) < K xs (lo+n - 1))->Q (none,n) (SortSt.mk' Xi xs P g none)):wpS (model prog w) A E s (Ms lo a m) Q (SortSt.mk' Xi xs P g none):=by
 unfold Ms
 refine Xk (I:=λx c st=>st=SortSt.mk' Xi xs P g none/\c=(none,x)/\pN xs lo x) ?_ ?_ ⟨rfl,rfl,hs⟩
 ·rintro x c st k1 k2 ⟨rfl,rfl,k3⟩
  dsimp only
  refine Xj (sL hI (by omega) (by omega) ?_)
  by_cases c:K xs (lo+x) < K xs (lo+x - 1)
  ·rw[decide_eq_true c]
   exact Xm (h x k1 (by exact Nat.le_of_lt ‹_›) k3 (.inr c))
  ·rw[decide_eq_false c]
   exact Xm ⟨rfl,rfl,k3.step (by exact Nat.lt_of_lt_of_le ‹_ < _› ‹_<=_›) c⟩
 ·rintro c st ⟨rfl,rfl,k3⟩
  rw[show max a m=m by omega] at k3 ⊢
  exact h m h2 (Nat.le_refl _) k3 (.inl rfl)
theorem sM{xs:Array Xg}{lo m:Nat}{Q:Option Nat->Xh->Prop}(hI:∀p∈xs.toList,Ik p)(hm:lo+m<=xs.size)(h1:1<=m)
  (h:∀n ys,1<=n->n<=m->Sm lo xs ys->pN ys lo n->Q (some n) (SortSt.mk' Xi ys P g none)):wpS (model prog w) A E s (countRun' lo m) Q (SortSt.mk' Xi xs P g none):=by
 refine Xj (wI hI hm (Nat.le_refl _) h1 pN.one λn n1 n2 as nd=>?_)
 dsimp -zeta only
 extract_lets+onlyGivenNames r' n'
 subst n' r'
 dsimp -zeta only
 by_cases c1:n=m
 ·rw[if_pos (by rw[c1];simp)]
  exact Xm (h n xs n1 n2 .refl as)
 rw[if_neg (by simpa using c1)]
 have lt:=nd.resolve_left c1
 extract_lets+onlyGivenNames n' q' jp
 subst q' n'
 have key:∀ys,Sm lo xs ys->(∀i,K ys i=K xs i)->Bh xs lo n->wpS (model prog w) A E s (jp ()) Q (SortSt.mk' Xi ys P g none):=by
  intro ys sm ke dn
  have Uu:Bh ys lo (n+1):=(show Bh ys lo n from λi j a b=>by rw[ke,ke];exact dn i j a b).step n1 (by rw[ke,ke];exact Int.le_of_lt ‹_›)
  have ly:=sm.size
  have hI':=sm.ik hI
  dsimp -zeta only[jp]
  refine Xj (wpS_lift (wpAny_rule ⟨rfl,?_⟩))
  refine Xj (Xl (Xk (I:=λx c st=>∃ys q,st=SortSt.mk' Xi ys P g none/\c=(none,x,q)/\Sm lo xs ys/\Bh ys lo x/\q+1<=x/\(∀i,lo+x - (q+1)<=i->i < lo+x->K ys i=K ys (lo+x - 1)))
   (Q:=λc st=>∃ys x q,st=SortSt.mk' Xi ys P g none/\c=(none,x,q)/\n+1<=x/\x<=m/\Sm lo xs ys/\Bh ys lo x/\q+1<=x/\(∀i,lo+x - (q+1)<=i->i < lo+x->K ys i=K ys (lo+x - 1))) ?a ?b ?c) ?d)
  case c=>exact⟨ys,0,rfl,rfl,sm,Uu,by exact Nat.le_add_left _ _,λi a b=>by congr 1;omega⟩
  case b=>
   rintro c st ⟨ys,q,rfl,rfl,k1,k2,k3,k4⟩
   rw[show max (n+1) m=m by omega] at k2 k3 k4 ⊢
   exact⟨ys,m,q,rfl,rfl,by exact Nat.lt_of_le_of_ne ‹_› ‹_›,by exact Nat.le_refl _,k1,k2,k3,k4⟩
  case a=>
   rintro x c st x1 x2 ⟨ys,q,rfl,rfl,k1,k2,k3,k4⟩
   have ly:=k1.size
   dsimp only
   refine Xj (sL (k1.ik hI) (by omega) (by omega) ?_)
   by_cases c:K ys (lo+x) < K ys (lo+x - 1)
   ·rw[decide_eq_true c]
    dsimp only
    rw[if_pos rfl]
    by_cases c2:q > 0
    ·rw[if_pos c2]
     have IL:=K_mirror_equal (xs:=ys) (i:=lo+x - (q+1)) (j:=lo+x) (by omega) k4
     refine Xj (qC (Xm ⟨_,0,rfl,rfl,k1.trans (Sm.mirror (by omega) (by omega)),?_,by exact Nat.le_add_left _ _,λi a b=>by congr 1;omega⟩))
     refine(show Bh _ lo x from λi j a b=>by rw[IL,IL];exact k2 i j a b).step (by exact Nat.lt_trans ‹_› ‹_›) (by rw[IL,IL];exact Int.le_of_lt ‹_›)
    ·rw[if_neg c2]
     exact Xm ⟨ys,0,rfl,rfl,k1,k2.step (by exact Nat.lt_trans ‹_› ‹_›) (by exact Int.le_of_lt ‹_›),by exact Nat.le_add_left _ _,λi a b=>by congr 1;omega⟩
   ·rw[decide_eq_false c]
    dsimp only
    rw[if_neg (by decide)]
    refine Xj (sL (k1.ik hI) (by omega) (by omega) ?_)
    by_cases c2:K ys (lo+x - 1) < K ys (lo+x)
    ·rw[decide_eq_true c2]
     exact Xm ⟨ys,x,q,rfl,rfl,x1,by exact Nat.le_of_lt ‹_›,k1,k2,k3,k4⟩
    ·rw[decide_eq_false c2]
     have ex:K ys (lo+x)=K ys (lo+x - 1):=by omega
     refine Xm ⟨ys,q+1,rfl,rfl,k1,k2.step (by exact Nat.lt_trans ‹_› ‹_›) (by exact Int.not_lt.mp ‹_›),by exact Nat.succ_le_succ ‹_›,λi a b=>?_⟩
     rw[show lo+(x+1) - 1=lo+x by rfl]
     by_cases z:i=lo+x
     ·rw[z]
     ·rw[ex];exact k4 i (by omega) (by omega)
  case d=>
   rintro c st ⟨ys,x,q,rfl,rfl,x1,x2,k1,k2,k3,k4⟩
   have ly:=k1.size
   dsimp -zeta only
   clear jp
   extract_lets+onlyGivenNames r' c' n' q'
   subst q' n' c' r'
   dsimp -zeta only
   extract_lets+onlyGivenNames jp
   have key:∀zs,Sm lo xs zs->Bh zs lo x->wpS (model prog w) A E s (jp ()) Q (SortSt.mk' Xi zs P g none):=by
    intro zs sm dz
    have lz:=sm.size
    dsimp -zeta only[jp]
    have Mt:=sm.trans (Sm.mirror (xs:=zs) (lo:=lo) (i:=lo) (j:=lo+x) (Nat.le_refl _) (by omega))
    have l2:=Mt.size
    refine Xj (qC (Xj (wI (Mt.ik hI) (by omega) (by exact Nat.lt_trans ‹_› ‹_›) x2 (pN.turn dz (by omega)) λn n1 n2 as _=>?_)))
    exact Xm (h n _ (by omega) n2 Mt as)
   by_cases c2:q > 0
   ·rw[if_pos c2]
    have IL:=K_mirror_equal (xs:=ys) (i:=lo+x - (q+1)) (j:=lo+x) (by omega) k4
    exact Xj (qC (key _ (k1.trans (Sm.mirror (by omega) (by omega))) λi j a b=>by rw[IL,IL];exact k2 i j a b))
   ·rw[if_neg c2]
    exact key _ k1 k2
 by_cases c2:n > 1
 ·rw[if_pos c2]
  refine Xj (sL hI (by omega) (by omega) ?_)
  by_cases c3:K xs lo < K xs (lo+n - 1)
  ·rw[decide_eq_true c3]
   exact Xm (h n xs n1 n2 .refl as)
  ·rw[decide_eq_false c3]
   have all:∀k,lo<=k->k < lo+n->K xs k=K xs (lo+n - 1):=λk q1 q2=>by
    have a1:=as 0 (k - lo) (by exact Nat.zero_le _) (by omega)
    have a2:=as (k - lo) (n - 1) (by omega) (by omega)
    rw[Nat.add_zero,show lo+(k - lo)=k by omega] at a1
    rw[show lo+(k - lo)=k by omega,show lo+(n - 1)=lo+n - 1 by omega] at a2
    omega
   exact Xj (qC (key _ (Sm.mirror (Nat.le_refl _) (by omega)) (K_mirror_equal (by omega) all) λi j a b=>by rw[all _ (by exact Nat.le_add_right _ _) (by omega),all (lo+i) (by exact Nat.le_add_right _ _) (by omega)];exact Int.le_refl _))
 ·rw[if_neg c2]
  have:n=1:=by omega
  subst this
  exact key xs .refl (λ_=>rfl) λi j a b=>by
   have:i=j:=by omega
   subst this
   exact Int.le_refl _
end
section
variable {prog:WS} {w:WV} {A:WO} {E:WU->WT->Prop} {s:WT} {P:Array (Nat×Nat×Nat)} {g:Nat}
theorem IM{xs:Array Xg}{lo n ok:Nat}{Q:Bool->Xh->Prop}(hI:∀p∈xs.toList,Ik p)(hn:lo+n<=xs.size)(hok:ok<=n)(as:pN xs lo ok)
  (h:∀ys,Sm lo xs ys->pN ys lo n->Q true (SortSt.mk' Xi ys P g none)):wpS (model prog w) A E s (binarySort' lo n ok) Q (SortSt.mk' Xi xs P g none):=by
 refine Xj (Xl (Xk (I:=λk c st=>∃ys,st=SortSt.mk' Xi ys P g none/\c=(none,())/\Sm lo xs ys/\pN ys lo (min k n))
  (Q:=λc st=>∃ys,st=SortSt.mk' Xi ys P g none/\c=(none,())/\Sm lo xs ys/\pN ys lo n) ?a ?b ?c) ?d)
 case d=>
  rintro c st ⟨ys,rfl,rfl,k1,k2⟩
  exact Xm (h ys k1 k2)
 case c=>
  refine⟨xs,rfl,rfl,.refl,λi j hij hj=>?_⟩
  by_cases z:ok=0
  ·have:i=j:=by omega
   subst this;exact Int.le_refl _
  ·exact as i j hij (by omega)
 case b=>
  rintro c st ⟨ys,rfl,rfl,k1,k2⟩
  rw[show min (max (max ok 1) n) n=n by omega] at k2
  exact⟨ys,rfl,rfl,k1,k2⟩
 case a=>
  rintro k c st kk Ws ⟨ys,rfl,rfl,k1,k2⟩
  rw[show min k n=k by omega] at k2
  have ly:=k1.size
  refine Xj (Xl (Xk (I:=λx c st=>st=SortSt.mk' Xi ys P g none/\∃l r,c=(none,l,r)/\l<=r/\r<=k/\r - l<=k - x/\(∀i,i < l->K ys (lo+i)<=K ys (lo+k))/\(∀i,r<=i->i < k->K ys (lo+k) < K ys (lo+i)))
   (Q:=λc st=>st=SortSt.mk' Xi ys P g none/\∃l,c=(none,l,l)/\l<=k/\(∀i,i < l->K ys (lo+i)<=K ys (lo+k))/\(∀i,l<=i->i < k->K ys (lo+k) < K ys (lo+i))) ?e ?f ?g) ?h)
  case g=>exact⟨rfl,0,k,rfl,by exact Nat.zero_le _,by exact Nat.le_refl _,by exact Nat.le_refl _,λi hi=>by omega,λi a b=>by omega⟩
  case f=>
   rintro c st ⟨rfl,l,r,rfl,q1,q2,q3,q4,q5⟩
   have:l=r:=by omega
   subst this
   exact⟨rfl,l,rfl,q2,q4,q5⟩
  case e=>
   rintro x c st _ xk ⟨rfl,l,r,rfl,q1,q2,q3,q4,q5⟩
   dsimp only
   by_cases c:l >= r
   ·rw[if_pos c]
    have:l=r:=by exact Nat.le_antisymm ‹_› ‹_›
    subst this
    exact Xm ⟨rfl,l,rfl,q2,q4,q5⟩
   ·rw[if_neg c]
    refine Xj (sL (k1.ik hI) (by omega) (by omega) ?_)
    by_cases c2:K ys (lo+k) < K ys (lo+(l+r) / 2)
    ·rw[decide_eq_true c2]
     refine Xm ⟨rfl,l,(l+r) / 2,rfl,by omega,by omega,by omega,q4,λi a b=>?_⟩
     exact Int.lt_of_lt_of_le c2 (k2 _ _ a b)
    ·rw[decide_eq_false c2]
     refine Xm ⟨rfl,(l+r) / 2+1,r,rfl,by omega,by assumption,by omega,λi a=>?_,q5⟩
     exact Int.le_trans (k2 i ((l+r) / 2) (by exact Nat.le_of_lt_succ ‹_›) (by omega)) (Int.not_lt.mp c2)
  case h=>
   rintro c st ⟨rfl,l,rfl,q2,q4,q5⟩
   show wpS _ _ _ _ (do moveDown' (lo+k) (lo+l);pure (ForInStep.yield (none,()))) _ _
   rw[moveDown'_eq]
   have bs:lo+k < ys.size:=by omega
   have bd:lo+k - (lo+l)<=lo+k:=by exact Nat.sub_le _ _
   refine Xj (wpS_modify (Xm ⟨_,rfl,rfl,k1.trans ⟨bubble_perm _ _ _,λi hi=>?_⟩,?_⟩))
   ·rw[getElem?_bubble bs _ bd,if_neg (by omega),if_neg (by omega)]
   ·rw[show min (k+1) n=k+1 by omega]
    intro i j hij hj
    have val:∀i,i<=k->K (bubble ys (lo+k) (lo+k - (lo+l))) (lo+i)=if i=l then K ys (lo+k) else if l < i then K ys (lo+(i - 1)) else K ys (lo+i):=λi hi=>by
     rw[K_bubble bs bd,show lo+k - (lo+k - (lo+l))=lo+l by omega]
     by_cases c1:i=l
     ·rw[if_pos (by omega),if_pos c1]
     ·rw[if_neg (by omega),if_neg c1]
      by_cases c2:l < i
      ·rw[if_pos (by omega),if_pos c2,show lo+i - 1=lo+(i - 1) by omega]
      ·rw[if_neg (by omega),if_neg c2]
    show K (bubble ys (lo+k) (lo+k - (lo+l))) (lo+i)<=K (bubble ys (lo+k) (lo+k - (lo+l))) (lo+j)
    rw[val i (by omega),val j (by exact Nat.le_of_lt_succ ‹_›)]
    repeat' split
    all_goals first | (exfalso;omega) | exact Int.le_refl _ | exact q4 _ (by omega) | exact Int.le_of_lt (q5 _ (by omega) (by omega)) | exact k2 _ _ (by omega) (by omega)
end
inductive Rn:Nat->List (Nat×Nat×Nat)->List Xg->Prop
 | nil {s:Nat}:Rn s [] []
 | cons {s n p:Nat} {P:List (Nat×Nat×Nat)} {A X:List Xg}:A.length=n->1<=n->Up A->Rn (s+n) P X->Rn s ((s,n,p)::P) (A++X)
theorem Rn.split:∀{pre r:List (Nat×Nat×Nat)}{s:Nat}{X:List Xg},Rn s (pre++r) X->∃X1 X2,X=X1++X2/\Rn s pre X1/\Rn (s+X1.length) r X2
 | [],r,s,X,h=>⟨[],X,rfl,.nil,h⟩
 | a::pre,r,s,X,h=>by
  cases h with
  | cons h1 h2 h3 h4=>
   obtain⟨X1,X2,rfl,k1,k2⟩:=h4.split
   refine⟨_++X1,X2,(List.append_assoc _ _ _).symm,.cons h1 h2 h3 k1,?_⟩
   rw[List.length_append,h1,<-Nat.add_assoc]
   exact k2
theorem Rn.join:∀{pre r:List (Nat×Nat×Nat)}{s:Nat}{X1 X2:List Xg},Rn s pre X1->Rn (s+X1.length) r X2->Rn s (pre++r) (X1++X2)
 | [],r,s,X1,X2,h,k=>by cases h;exact k
 | a::pre,r,s,X1,X2,h,k=>by
  cases h with
  | cons h1 h2 h3 h4=>
   rw[List.append_assoc]
   refine .cons h1 h2 h3 (h4.join ?_)
   rw[List.length_append,h1,<-Nat.add_assoc] at k
   exact k
theorem Rn.len:∀{P:List (Nat×Nat×Nat)}{s:Nat}{X:List Xg},Rn s P X->P.length<=X.length
 | [],s,X,h=>Nat.zero_le _
 | a::P,s,X,h=>by
  cases h with
  | cons h1 h2 h3 h4=>
   have:=h4.len
   rw[List.length_append,List.length_cons]
   omega
theorem Rn.few{P:List (Nat×Nat×Nat)}{s:Nat}{X:List Xg}(h:Rn s P X)(l:P.length<=1):Up X:=by
 cases h with
 | nil=>exact .nil
 | cons h1 h2 h3 h4=>
  cases h4 with
  | nil=>rw[List.append_nil];exact h3
  | cons _ _ _ _=>simp at l
section
variable {prog:WS} {w:WV} {A₀:WO} {E:WU->WT->Prop} {s:WT}
theorem pO{xs:Array Xg}{g0 i:Nat}{P:List (Nat×Nat×Nat)}{X Y:List Xg}{Q:Bool->Xh->Prop}(hi:i+1 < P.length)(hR:Rn 0 P X)(e:xs.toList=X++Y)(hI:∀p∈xs.toList,Ik p)
  (h:∀P' X' ys g,P'.length+1=P.length->Rn 0 P' X'->X'.Perm X->ys.toList=X'++Y->Q true (SortSt.mk' Xi ys P'.toArray g none)) :
  wpS (model prog w) A₀ E s (mergeAt' i) Q (SortSt.mk' Xi xs P.toArray g0 none):=by
 obtain⟨⟨sa,na,pw⟩,⟨sb,nb,p2⟩,post,eP⟩:∃a b post,P=P.take i++a::b::post:=by
  refine⟨P[i],P[i+1],P.drop (i+2),?_⟩
  rw[<-List.drop_eq_getElem_cons hi,<-List.drop_eq_getElem_cons (by exact Nat.le_of_lt ‹_›),List.take_append_drop]
 have li:(P.take i).length=i:=by rw[List.length_take];omega
 generalize P.take i=pre at eP li
 subst eP li
 obtain⟨X1,X2,rfl,k1,k2⟩:=hR.split
 rw[Nat.zero_add] at k2
 cases k2 with
 | cons a1 a2 a3 a4=>
  cases a4 with
  | cons b1 b2 b3 b4=>
   rename_i A B' X2
   refine u9 (L:=X1) (A:=A) (B:=B') (S:=X2++Y) (by rw[e];simp) hI rfl a1 b1 rfl a2 b2 a3 b3 λC ys g c1 c2 c3=>?_
   refine h _ (X1++(C++X2)) ys g (by simp;rfl) (k1.join ?_) ((c1.append_right X2).trans (by rw[List.append_assoc]) |>.append_left X1) (by rw[c3];simp)
   rw[Nat.zero_add]
   refine .cons (by rw[c1.length_eq,List.length_append,a1,b1]) (by omega) c2 ?_
   rw[<-Nat.add_assoc]
   exact b4
end
section
variable {prog:WS} {w:WV} {A₀:WO} {E:WU->WT->Prop} {s:WT}
theorem Rn.power{pw:Nat}:∀{P:List (Nat×Nat×Nat)}{i s:Nat}{X:List Xg},Rn s P X->Rn s (P.modify i λx=>(x.1,x.2.1,pw)) X
 | [],i,s,X,h=>by rw[List.modify_nil];exact h
 | a::P,0,s,X,h=>by
  cases h with
  | cons h1 h2 h3 h4=>exact .cons h1 h2 h3 h4
 | a::P,i+1,s,X,h=>by
  cases h with
  | cons h1 h2 h3 h4=>exact .cons h1 h2 h3 h4.power
def Wt(xs:Array Xg)(lo:Nat)(Z:List Xg)(st:Xh):Prop:=∃ys P X g,st=SortSt.mk' Xi ys (List.toArray P) g none/\ys.Perm xs/\ys.toList=X++Z/\X.length=lo/\Rn 0 P X
def PC(xs:Array Xg)(x:Nat)(r:ForInStep (Option Unit×Nat))(st:Xh):Prop:=match r with
 | .done c=>c=(none,xs.size)/\∃Z,Wt xs xs.size Z st
 | .yield c=>∃lo,c=(none,lo)/\x+1<=lo/\lo<=xs.size/\∃Z,Wt xs lo Z st
def Uv(xs:Array Xg)(x:Nat)(r:ForInStep (Option Unit×Unit))(st:Xh):Prop:=match r with
 | .done c=>c=(none,())/\∃ys P X g,st=SortSt.mk' Xi ys (List.toArray P) g none/\ys.Perm xs/\ys.toList=X++[]/\Rn 0 P X/\P.length<=1
 | .yield c=>c=(none,())/\∃ys P X g,st=SortSt.mk' Xi ys (List.toArray P) g none/\ys.Perm xs/\ys.toList=X++[]/\Rn 0 P X/\(P.length<=1\/P.length+(x+1)<=xs.size)
theorem Sm.lists{lo:Nat}{ys zs:Array Xg}{X Y:List Xg}(sm:Sm lo ys zs)(e:ys.toList=X++Y)(l:X.length=lo):zs.toList=X++zs.toList.drop lo:=by
 have:zs.toList.take lo=X:=by
  have e1:ys.toList.take lo=X:=by rw[e,<-l,List.take_left'];rfl
  rw[<-e1]
  apply List.ext_getElem?
  intro i
  by_cases c:i < lo
  ·rw[List.getElem?_take_of_lt c,List.getElem?_take_of_lt c,Array.getElem?_toList,Array.getElem?_toList]
   exact sm.2 i c
  ·rw[List.getElem?_eq_none (by rw[List.length_take];omega),List.getElem?_eq_none (by rw[List.length_take];omega)]
 exact(List.take_append_drop lo zs.toList).symm.trans (by rw[this])
theorem pN.up{zs:Array Xg}{lo n:Nat}(as:pN zs lo n)(h:lo+n<=zs.size):Up ((zs.toList.drop lo).take n):=by
 unfold Up
 rw[List.pairwise_iff_getElem]
 intro i j hi hj hij
 rw[List.length_take,List.length_drop] at hi hj
 have hz:zs.toList.length=zs.size:=rfl
 have:=as i j (by exact Nat.le_of_lt ‹_›) (by omega)
 rw[aW (Array.getElem?_eq_getElem (by omega)),aW (Array.getElem?_eq_getElem (by omega))] at this
 simpa using this
theorem sN{xs:Array Xg}{Q:Unit->Xh->Prop}(hI:∀p∈xs.toList,Ik p)
  (h:∀ys P g,ys.Perm xs->Up ys.toList->Q () (SortSt.mk' Xi ys P g none)):wpS (model prog w) A₀ E s sortRuns' Q (SortSt.mk' Xi xs #[] 7 none):=by
 have PD:∀{ys:Array Xg},ys.Perm xs->∀p∈ys.toList,Ik p:=λk p hp=>hI p ((Array.perm_iff_toList_perm.mp k).mem_iff.mp hp)
 refine Xj (wpS_get ?_)
 dsimp -zeta only
 extract_lets+onlyGivenNames size Bi lo
 have hsize:size=xs.size:=rfl
 clear_value size Bi
 subst hsize lo
 refine Xj (Xl (Xk (I:=λx c st=>∃lo,c=(none,lo)/\x<=lo/\lo<=xs.size/\∃Z,Wt xs lo Z st)
  (Q:=λc st=>c=(none,xs.size)/\∃Z,Wt xs xs.size Z st) ?a ?b ?c) ?d)
 case c=>exact⟨0,rfl,Nat.le_refl _,Nat.zero_le _,xs.toList,xs,[],[],7,rfl,.refl _,rfl,rfl,.nil⟩
 case b=>
  rintro c st ⟨lo,rfl,k1,k2,k3⟩
  have:lo=xs.size:=by exact Nat.le_antisymm ‹_› ‹_›
  subst this
  exact⟨rfl,k3⟩
 case d=>
  rintro c st ⟨rfl,Y,ys,P,X,g,rfl,k1,k2,k3,k4⟩
  have:Y=[]:=by
   have:=congrArg List.length k2
   rw[List.length_append,Array.length_toList,k1.size_eq] at this
   exact List.length_eq_zero_iff.mp (by omega)
  subst this
  have pl:=k4.len
  dsimp only
  refine Xj (Xl (Xk (I:=λx c st=>c=(none,())/\∃ys P X g,st=SortSt.mk' Xi ys (List.toArray P) g none/\ys.Perm xs/\ys.toList=X++[]/\Rn 0 P X/\(P.length<=1\/P.length+x<=xs.size))
   (Q:=λc st=>c=(none,())/\∃ys P X g,st=SortSt.mk' Xi ys (List.toArray P) g none/\ys.Perm xs/\ys.toList=X++[]/\Rn 0 P X/\P.length<=1) ?e ?f ?g) ?h)
  case g=>exact⟨rfl,ys,P,X,g,rfl,k1,k2,k4,.inr (by omega)⟩
  case f=>
   rintro c st ⟨rfl,ys,P,X,g,rfl,k1,k2,k3,k4⟩
   exact⟨rfl,ys,P,X,g,rfl,k1,k2,k3,by omega⟩
  case h=>
   rintro c st ⟨rfl,ys,P,X,g,rfl,k1,k2,k3,k4⟩
   refine Xm (h ys _ g k1 ?_)
   rw[k2,List.append_nil]
   exact k3.few k4
  case e=>
   rintro x c st _ hx ⟨rfl,ys,P,X,g,rfl,k1,k2,k3,k4⟩
   refine Xj (wpS_get ?_)
   dsimp only
   by_cases c1:P.toArray.size<=1
   ·rw[if_pos c1]
    exact Xm ⟨rfl,ys,P,X,g,rfl,k1,k2,k3,c1⟩
   rw[if_neg c1]
   have Wu:¬P.length<=1:=c1
   refine Xl (Q:=Uv xs x) ?_ λr st' h=>by cases r<;>exact h
   have sz:P.toArray.size=P.length:=rfl
   refine Xj (pO ?_ k3 k2 (PD k1) λP' X' zs g' l1 l2 l3 l4=>?_)
   ·repeat' split
    all_goals omega
   ·rw[if_neg (by decide)]
    refine Xm ⟨rfl,zs,P',X',g',rfl,?_,l4,l2,.inr (by omega)⟩
    refine Array.Perm.trans (Array.perm_iff_toList_perm.mpr ?_) k1
    rw[l4,k2]
    exact l3.append_right _
 case a=>
  rintro x c st _ hx ⟨lo,rfl,k1,k2,Y,ys,P,X,g,rfl,k3,k4,k5,k6⟩
  have hI':=PD k3
  dsimp -zeta only
  by_cases c1:lo >= xs.size
  ·rw[if_pos c1]
   have:lo=xs.size:=by exact Nat.le_antisymm ‹_› ‹_›
   subst this
   exact Xm ⟨rfl,Y,ys,P,X,g,rfl,k3,k4,k5,k6⟩
  rw[if_neg c1]
  refine Xl (Q:=PC xs x) ?_ λr st' h=>by cases r<;>exact h
  have sy:=k3.size_eq
  refine Xj (sM hI' (by omega) (by omega) λn zs n1 n2 sm as=>?_)
  dsimp -zeta only
  extract_lets+onlyGivenNames n' jp
  subst n'
  have key:∀n zs,1<=n->lo+n<=xs.size->Sm lo ys zs->pN zs lo n->wpS (model prog w) A₀ E s (jp () n) (PC xs x) (SortSt.mk' Xi zs P.toArray g none):=by
   intro n zs n1 n2 sm as
   dsimp -zeta only[jp]
   clear jp
   refine Xj (wpS_get ?_)
   have sz:=sm.size
   have up:=as.up (by omega)
   have ez:=sm.lists k4 k5
   have lA:((zs.toList.drop lo).take n).length=n:=by
    rw[List.length_take,List.length_drop,Array.length_toList]
    omega
   rw[<-List.take_append_drop n (zs.toList.drop lo)] at ez
   generalize (zs.toList.drop lo).take n=A at ez up lA
   generalize (zs.toList.drop lo).drop n=Z at ez
   extract_lets+onlyGivenNames lo' jp
   subst lo'
   have key:∀us P X g,Array.Perm us xs->us.toList=X++(A++Z)->X.length=lo->Rn 0 P X->wpS (model prog w) A₀ E s (jp ()) (PC xs x) (SortSt.mk' Xi us (List.toArray P) g none):=by
    intro us P X g l1 l2 l3 l4
    dsimp -zeta only[jp]
    refine Xj (wpS_modify (Xm ⟨lo+n,rfl,by omega,by assumption,Z,us,P++[(lo,n,0)],X++A,g,?_,l1,by rw[l2];simp,by rw[List.length_append];omega,?_⟩))
    ·show SortSt.mk' _ _ (P.toArray.push (lo,n,0)) _ _=_
     rw[List.push_toArray]
    ·refine l4.join ?_
     rw[Nat.zero_add,l3]
     have:=Rn.cons (p:=0) lA n1 up (Rn.nil (s:=lo+n))
     rw[List.append_nil] at this
     exact this
   have z1:Array.Perm zs xs:=sm.1.trans k3
   clear_value jp
   dsimp -zeta only
   split
   ·rename_i s1 Ww _ _
    extract_lets+onlyGivenNames pw
    clear_value pw
    refine Xj (Xl (Xk (I:=λx c st=>c=(none,())/\Wt xs lo (A++Z) st) (Q:=λc st=>c=(none,())/\Wt xs lo (A++Z) st) ?e ?f ?g) ?h)
    case g=>exact⟨rfl,zs,P,X,g,rfl,z1,ez,k5,k6⟩
    case f=>exact λ_ _ z=>z
    case h=>
     rintro c st ⟨rfl,us,P,X,g,rfl,l1,l2,l3,l4⟩
     dsimp only
     refine Xj (wpS_modify ?_)
     have:=key us (P.modify (P.length - 1) λx=>(x.1,x.2.1,pw)) X g l1 l2 l3 l4.power
     rw[<-List.modify_toArray] at this
     exact this
    case e=>
     rintro y c st _ hy ⟨rfl,us,P,X,g,rfl,l1,l2,l3,l4⟩
     refine Xj (wpS_get ?_)
     dsimp only
     split
     ·rename_i o1 o2 older oe
      by_cases c2:older<=pw
      ·rw[if_pos c2]
       exact Xm ⟨rfl,us,P,X,g,rfl,l1,l2,l3,l4⟩
      ·rw[if_neg c2]
       have hi:P.toArray.size - 2+1 < P.length:=by
        have sz:P.toArray.size=P.length:=rfl
        by_cases c3:P.toArray.size > 1
        ·omega
        ·rw[if_neg c3] at oe
         cases oe
       refine Xj (pO hi l4 l2 (PD l1) λP' X' zs g' q1 q2 q3 q4=>?_)
       rw[if_neg (by decide)]
       refine Xm ⟨rfl,zs,P',X',g',rfl,Array.Perm.trans (Array.perm_iff_toList_perm.mpr ?_) l1,q4,by rw[q3.length_eq];exact l3,q2⟩
       rw[q4,l2]
       exact q3.append_right _
     ·exact Xm ⟨rfl,us,P,X,g,rfl,l1,l2,l3,l4⟩
   ·exact key zs P X g z1 ez k5 k6
  by_cases c2:n < Bi
  ·rw[if_pos c2]
   have sz:=sm.size
   refine Xj (wpS_lift (wpAny_rule ⟨rfl,?_⟩))
   refine Xj (IM (sm.ik hI') (by omega) (by omega) as λus Mt Uw=>?_)
   rw[if_neg (by decide)]
   exact key _ us (by omega) (by omega) (sm.trans Mt) Uw
  ·rw[if_neg c2]
   exact key n zs n1 (by omega) sm as
end
section
variable {prog:WS} {w:WV} {A:WO} {E:WU->WT->Prop} {s:WT}
theorem Mu{xs:Array Xg}(h:Up xs.toList):SortedTo xs xs.size:=λ_ _ h1 h2=>kR h h1 h2
theorem u_{a:WN}{vs:List WU}{ns:List Int}{n:Nat}{P:PySem.Fin->WT->Prop}(ho:s.heap.get? a=some (seqObj "list" vs.toArray n))(hI:IntsAre vs ns)(h2:2<=vs.length)(hz:vs.length<=W6)
  (k:∀(out:Array WU)(ms:List Int),IntsAre out.toList ms->ms.Perm ns->ms.Pairwise (· <=·)->P (.done (.ret .none)) { s with heap:=sortedHeap s.heap a vs out }):W8 (model prog w) A (Builtin.«list.sort» ⟨[.ref a],[]⟩) P E s:=by
 rw[list_sort_plain]
 have lt:a < s.heap.objs.size:=Heap.lt_size ho
 have z:vs.toArray.size=vs.length:=List.size_toArray
 refine W9 (listItems_at ho rfl (W9 (listUpdate_at ho rfl ?_ (by rw[z];exact hz) (Nat.zero_le _))))
 obtain⟨e,o1⟩:∃e,(s.heap.update a (Obj.mapSeq λ_=>#[])).get? a=some (seqObj "list" #[] e):=⟨_,get?_update_seq ho (λ_=>#[])⟩
 refine W9 (seqEpoch_at o1 rfl (W9 (wpAny_newTuple ?_ hz)))
 refine W9 (Xb ?_ (Nat.zero_le _))
 refine W' ?_
 have o6:(((s.heap.update a (Obj.mapSeq λ_=>#[])).push (seqObj "tuple" vs.toArray 0)).push (seqObj "list" #[] 0)).get? a=some (seqObj "list" #[] e):=by
  rw[Heap.get?_push_ne,Heap.get?_push_ne]
  ·exact o1
  ·rw[Heap.size_update];exact Nat.ne_of_lt lt
  ·rw[size_push',Heap.size_update];exact Nat.ne_of_lt (Nat.lt_succ_of_lt lt)
 show W8 (model prog w) A _ P E { s with heap:=((s.heap.update a (Obj.mapSeq λ_=>#[])).push (seqObj "tuple" vs.toArray 0)).push (seqObj "list" #[] 0) }
 have c2:¬vs.toArray.size < 2:=by omega
 obtain⟨x,y,r,rfl⟩:∃x y r,vs=x::y::r:=by
  match vs,h2 with
  | x::y::r,_=>exact⟨x,y,r,rfl⟩
 rw[if_neg c2,if_neg c2,keyKind_ints hI]
 refine W9 (Xe ?_)
 refine W9 (Xa (sN (xs:=pairsOf (x::y::r)) (Q:=λ_ st=>∃ys Pd g,st=SortSt.mk' Xi ys Pd g none/\ys.Perm (pairsOf (x::y::r))/\Up ys.toList) (λp hp=>hI.intKeys p hp) λys Pd g p u=>⟨ys,Pd,g,rfl,p,u⟩) ?_ λ_ _ e=>e)
 rintro⟨⟨⟩,st⟩ s' ⟨rfl,ys,Pd,g,rfl,pm,up⟩
 obtain⟨ms,q1,q2,q3⟩:=sorted_out hI pm (by rw[<-pm.size_eq];exact Mu up)
 dsimp only
 refine W9 (seqEpoch_at o6 rfl ?_)
 refine W9 (listUpdate_at o6 rfl ?_ (Nat.zero_le _) (by rw[Array.size_map,pm.size_eq,pairsOf_size];exact Nat.le_succ_of_le ‹_›))
 simp only[bne_self_eq_false,Bool.false_eq_true,if_false]
 exact Xe (k _ ms q1 q2 q3)
theorem sO{l:WN}{vs:List WU}{ns:List Int}{Q:WU->WT->Prop}(hl:s.heap.IsList l vs.toArray)(hI:IntsAre vs ns)(h2:2<=vs.length)(hz:vs.length<=W6)
  (k:∀(out:Array WU)(ms:List Int),IntsAre out.toList ms->ms.Perm ns->ms.Pairwise (· <=·)->Q (.ref (s.heap.objs.size+1)) { s with heap:=sortedAll s.heap vs out }):W8 (model prog w) A (call (.builtin "sorted") [.ref l]) Q E s:=by
 refine Calls.call_function_entry kind_sorted plain_sorted entry_sorted (args_sorted1 _) ?_
 unfold Builtin.«sorted»
 refine W9 (m:=checkCount "sorted" 1 1 _) (Xe (W9 (collect_list hl ?_ hz)))
 refine W9 (Xb ?_ hz)
 have z:((s.heap.push (seqObj "list" #[] 0)).update s.heap.objs.size (Obj.mapSeq (· ++vs.toArray))).objs.size=s.heap.objs.size+1:=by rw[Heap.size_update,size_push']
 have o:(((s.heap.push (seqObj "list" #[] 0)).update s.heap.objs.size (Obj.mapSeq (· ++vs.toArray))).push (seqObj "list" vs.toArray 0)).get? (s.heap.objs.size+1)=some (seqObj "list" vs.toArray 0):=by
  rw[<-z]
  exact Heap.get?_push_size _ rfl
 show W8 _ _ _ _ _ { s with heap:=((s.heap.push (seqObj "list" #[] 0)).update s.heap.objs.size (Obj.mapSeq (· ++vs.toArray))).push (seqObj "list" vs.toArray 0) }
 rw[z]
 refine W9 (W' (wpAny_call_entry slot_list_sort ⟨_,o,rfl⟩ entry_list_sort (u_ o hI h2 hz λout ms a1 a2 a3=>⟨_,rfl,?_⟩) (args_list_sort _)))
 exact Xe ⟨_,rfl,k out ms a1 a2 a3⟩
theorem va{l:WN}{vs:List WU}{ns:List Int}{Q:WU->WT->Prop}(hl:s.heap.IsList l vs.toArray)(hI:IntsAre vs ns)(hz:vs.length<=W6)
  (k:∀(out:Array WU)(ms:List Int),IntsAre out.toList ms->ms.Perm ns->ms.Pairwise (· <=·)->Q (.ref (s.heap.objs.size+1)) { s with heap:=sortedAll s.heap vs out }):W8 (model prog w) A (call (.builtin "sorted") [.ref l]) Q E s:=by
 by_cases c:2<=vs.length
 ·exact sO hl hI c hz k
 ·exact sorted_ints hl hI (by omega) k
end
end JL
namespace J
open PySem PySem.Spec PyProof.Rows L2
section
variable {X:Cx}
def intsOf:List Wv->Option (List Int)
  | []=>some []
  | .int b::r=>(match intsOf r with | some l=>some (b::l) | none=>none)
  | _=>none
theorem bX:∀ns:List Int,intsOf (ns.map Wv.int)=some ns
  | []=>rfl
  | n::r=>by rw[List.map_cons];unfold intsOf;rw[bX r]
theorem bY{K:PySem.W.Frag}{m:Mp}{H:Hp}:∀{ws:List Wv}{xs:List V}{bs:List Int},ah K m H ws xs->intsOf ws=some bs->xs=bs.map V.int
  | [],xs,bs,r,h=>by
    unfold ah at r
    cases h
    exact r
  | w::ws,xs,bs,r,h=>by
    unfold ah at r
    obtain⟨x,t,rfl,r1,r2⟩:=r
    cases w with
    | int b=>
      unfold intsOf at h
      cases e:intsOf ws with
      | none=>rw[e] at h;cases h
      | some l=>
        rw[e] at h
        cases h
        unfold ag at r1
        rw[r1,bY r2 e]
        rfl
    | _=>cases h
theorem dR:∀{ns:List Int}{its:List WU},Vals (ns.map V.int) its->∃xs:List (Int×Tok),its=xs.map (λp=>Value.int p.1 p.2)/\xs.map (·.1)=ns
  | [],its,r=>by cases r;exact⟨[],rfl,rfl⟩
  | n::ns,its,r=>by
    cases r with
    | cons h t=>
      obtain⟨tk,rfl⟩:=h
      obtain⟨xs,e1,e2⟩:=dR t
      exact⟨(n,tk)::xs,by rw[e1];rfl,by rw[<-e2];rfl⟩
theorem intsAre_of:∀xs:List (Int×Tok),IntsAre (xs.map λp=>Value.int p.1 p.2) (xs.map (·.1))
  | []=> .nil
  | p::r=> .cons p.1 p.2 (intsAre_of r)
theorem lG:∀{vs:List WU}{ns:List Int},IntsAre vs ns->Vals (ns.map V.int) vs
  | _,_,.nil=> .nil
  | _,_,.cons n t r=> .cons ⟨t,rfl⟩ (lG r)
theorem eQ(xs:List (Int×Tok))(i:Nat):numAt xs.toArray i=(xs.map (·.1)).getD i 0:=by
  unfold numAt
  rw[List.getElem?_toArray,List.getD_eq_getElem?_getD,List.getElem?_map]
theorem nh(xs:List (Int×Tok)):∀k,preSum (numAt xs.toArray) k=((xs.map (·.1)).take k).sum
  | 0=>by simp[preSum]
  | k+1=>by
    unfold preSum
    rw[nh xs k,eQ]
    rw[PySem.sum_take_succ]
theorem yB(hc:X.calm=true):cC X (.builtin "sum") (λxs H Q=>∃(p:WN)(ns:List Int),xs=[.ref p]/\ij X.K H p (ns.map V.int)/\Q (.int ns.sum) H):=by
  intro pins s σ H xs us Q I r h
  obtain⟨p,ns,rfl,hq,q⟩:=h
  obtain⟨u,rfl,rx⟩:=vals1 r
  cases rx
  obtain⟨its,r',pl,hz⟩:=I.list hq
  obtain⟨xs,rfl,rfl⟩:=dR r'
  have hl:=pl.isList
  have e:(xs.map λp=>Value.int p.1 p.2).toArray=intItems xs.toArray:=by unfold intItems;simp
  rw[e] at hl
  refine sum_intListG (I.ok.hd hc) hl λh' tk t' hk=>⟨.int _,H,I.kept hk,⟨t',?_⟩,q⟩
  rw[nh,List.take_of_length_le (by simp)]
def oE:List Wv->Hs->Re Wv
  | [.ref l],st=>match af st l with
    | some ws=>(match intsOf ws with | some ns=> .ok (.int ns.sum) st | none=> .bad)
    | none=> .bad
  | _,_=> .bad
theorem IP(hc:X.calm=true):bJ X (.builtin "sum") oE:=⟨_,yB hc,λws vs st H m Q S rs p=>by
  match ws,rs,p with
  | [],rs,p=>exact False.elim p
  | x::y::t,rs,p=>cases x<;>exact False.elim p
  | [x],rs,p=>
    obtain⟨v,rfl,r1⟩:=jd rs
    cases x with
    | ref l=>
      unfold oE at p
      unfold ag at r1
      obtain⟨a,rfl,hl⟩:=r1
      cases e:af st l with
      | none=>simp only[e] at p;exact False.elim p
      | some ws=>
        simp only[e] at p
        cases e2:intsOf ws with
        | none=>simp only[e2] at p;exact False.elim p
        | some bs=>
          simp only[e2] at p
          obtain⟨xs,q1,q2⟩:=S.read hl e
          have q3:=bY q2 e2
          subst q3
          exact⟨a,bs,rfl,q1,p _ m H Ext.refl S mkInt⟩
    | _=>exact False.elim p⟩
def fD(n:Int)(r:List Int):Int:=r.foldl (λa b=>if b > a then b else a) n
def fZ(n:Int)(r:List Int):Int:=r.foldl (λa b=>if b < a then b else a) n
theorem ni:∀(r:List Int)(n:Int),fD n r∈n::r/\∀a∈n::r,a<=fD n r
  | [],n=>by simp[fD]
  | b::r,n=>by
    have e:fD n (b::r)=fD (if b > n then b else n) r:=rfl
    obtain⟨h1,h2⟩:=ni r (if b > n then b else n)
    rw[e]
    constructor
    · rcases List.mem_cons.mp h1 with z | z
      · rw[z];split<;>simp
      · simp[z]
    · intro a ha
      have hn:n<=fD (if b > n then b else n) r/\b<=fD (if b > n then b else n) r:=by
        have q:=h2 _ List.mem_cons_self
        revert q
        split<;>intro q<;>constructor<;>omega
      rcases List.mem_cons.mp ha with z | z
      · rw[z];exact hn.1
      · rcases List.mem_cons.mp z with z | z
        · rw[z];exact hn.2
        · exact h2 a (List.mem_cons_of_mem _ z)
theorem nj:∀(r:List Int)(n:Int),fZ n r∈n::r/\∀a∈n::r,fZ n r<=a
  | [],n=>by simp[fZ]
  | b::r,n=>by
    have e:fZ n (b::r)=fZ (if b < n then b else n) r:=rfl
    obtain⟨h1,h2⟩:=nj r (if b < n then b else n)
    rw[e]
    constructor
    · rcases List.mem_cons.mp h1 with z | z
      · rw[z];split<;>simp
      · simp[z]
    · intro a ha
      have hn:fZ (if b < n then b else n) r<=n/\fZ (if b < n then b else n) r<=b:=by
        have q:=h2 _ List.mem_cons_self
        revert q
        split<;>intro q<;>constructor<;>omega
      rcases List.mem_cons.mp ha with z | z
      · rw[z];exact hn.1
      · rcases List.mem_cons.mp z with z | z
        · rw[z];exact hn.2
        · exact h2 a (List.mem_cons_of_mem _ z)
theorem pP{n M:Int}{r:List Int}(h:M∈n::r)(k:∀a∈n::r,a<=M):M=fD n r:=by
  obtain⟨h1,h2⟩:=ni r n
  have:=h2 M h
  have:=k _ h1
  omega
theorem wJ{n M:Int}{r:List Int}(h:M∈n::r)(k:∀a∈n::r,M<=a):M=fZ n r:=by
  obtain⟨h1,h2⟩:=nj r n
  have:=h2 M h
  have:=k _ h1
  omega
theorem gq{l:List Int}{i:Nat}(h:i < l.length):l.getD i 0∈l:=by
  rw[List.getD_eq_getElem?_getD,List.getElem?_eq_getElem h]
  exact List.getElem_mem h
theorem yC(hc:X.calm=true):cC X (.builtin "max") (λxs H Q=>∃(p:WN)(n:Int)(ns:List Int),xs=[.ref p]/\ij X.K H p ((n::ns).map V.int)/\Q (.int (fD n ns)) H):=by
  intro pins s σ H xs us Q I r h
  obtain⟨p,n,ns,rfl,hq,q⟩:=h
  obtain⟨u,rfl,rx⟩:=vals1 r
  cases rx
  obtain⟨its,r',pl,hz⟩:=I.list hq
  obtain⟨xs,rfl,e0⟩:=dR r'
  have hl:=pl.isList
  have e:(xs.map λp=>Value.int p.1 p.2).toArray=intItems xs.toArray:=by unfold intItems;simp
  rw[e] at hl
  have hsz:xs.length=(n::ns).length:=by rw[<-e0];simp
  have hs0:0 < xs.toArray.size:=by simp[hsz]
  refine max_intList (I.ok.hd hc) hl hs0 λv h' tk hv hk=>?_
  obtain⟨t,rfl⟩:=intItems_at hv
  obtain⟨h1,h2⟩:=PySem.argBest_gt (numAt xs.toArray) (xs.toArray.size - 1)
  refine⟨.int _,H,I.kept hk,⟨t,?_⟩,q⟩
  congr 1
  have hn:=λi=>eQ xs i
  rw[e0] at hn
  refine pP ?_ λa ha=>?_
  · rw[hn]
    refine gq ?_
    have:xs.toArray.size=(n::ns).length:=by simp[hsz]
    omega
  · obtain⟨j,hj,rfl⟩:=List.mem_iff_getElem.mp ha
    have q2 := h2 j (by have : xs.toArray.size = (n :: ns).length := by simp [hsz]
                        omega)
    rw[hn j,List.getD_eq_getElem?_getD,List.getElem?_eq_getElem hj] at q2
    exact q2
theorem yD(hc:X.calm=true):cC X (.builtin "min") (λxs H Q=>∃(p:WN)(n:Int)(ns:List Int),xs=[.ref p]/\ij X.K H p ((n::ns).map V.int)/\Q (.int (fZ n ns)) H):=by
  intro pins s σ H xs us Q I r h
  obtain⟨p,n,ns,rfl,hq,q⟩:=h
  obtain⟨u,rfl,rx⟩:=vals1 r
  cases rx
  obtain⟨its,r',pl,hz⟩:=I.list hq
  obtain⟨xs,rfl,e0⟩:=dR r'
  have hl:=pl.isList
  have e:(xs.map λp=>Value.int p.1 p.2).toArray=intItems xs.toArray:=by unfold intItems;simp
  rw[e] at hl
  have hsz:xs.length=(n::ns).length:=by rw[<-e0];simp
  have hs0:0 < xs.toArray.size:=by simp[hsz]
  refine min_intList (I.ok.hd hc) hl hs0 λv h' tk hv hk=>?_
  obtain⟨t,rfl⟩:=intItems_at hv
  obtain⟨h1,h2⟩:=PySem.argBest_lt (numAt xs.toArray) (xs.toArray.size - 1)
  refine⟨.int _,H,I.kept hk,⟨t,?_⟩,q⟩
  congr 1
  have hn:=λi=>eQ xs i
  rw[e0] at hn
  refine wJ ?_ λa ha=>?_
  · rw[hn]
    refine gq ?_
    have:xs.toArray.size=(n::ns).length:=by simp[hsz]
    omega
  · obtain⟨j,hj,rfl⟩:=List.mem_iff_getElem.mp ha
    have q2 := h2 j (by have : xs.toArray.size = (n :: ns).length := by simp [hsz]
                        omega)
    rw[hn j,List.getD_eq_getElem?_getD,List.getElem?_eq_getElem hj] at q2
    exact q2
def lH:List Wv->Hs->Re Wv
  | [.ref l],st=>match af st l with
    | some ws=>(match intsOf ws with | some (n::r)=> .ok (.int (fD n r)) st | _=> .bad)
    | none=> .bad
  | ws,st=>Mj ws st
def lI:List Wv->Hs->Re Wv
  | [.ref l],st=>match af st l with
    | some ws=>(match intsOf ws with | some (n::r)=> .ok (.int (fZ n r)) st | _=> .bad)
    | none=> .bad
  | ws,st=>Ml ws st
theorem bJ.or{f:WU}{op op':List Wv->Hs->Re Wv}(g:List Wv->Hs->Re Wv)(h:bJ X f op)(h':bJ X f op')(k:∀ws st,g ws st=op ws st\/g ws st=op' ws st):bJ X f g:=by
  obtain⟨r,h1,h2⟩:=h
  obtain⟨r',FT,h2'⟩:=h'
  refine⟨_,h1.or FT,λws vs st H m Q S rs p=>?_⟩
  rcases k ws st with e | e
  · rw[e] at p;exact .inl (h2 ws vs st H m Q S rs p)
  · rw[e] at p;exact .inr (h2' ws vs st H m Q S rs p)
def Bj:List Wv->Hs->Re Wv
  | [.ref l],st=>match af st l with
    | some ws=>(match intsOf ws with | some (n::r)=> .ok (.int (fD n r)) st | _=> .bad)
    | none=> .bad
  | _,_=> .bad
def Bk:List Wv->Hs->Re Wv
  | [.ref l],st=>match af st l with
    | some ws=>(match intsOf ws with | some (n::r)=> .ok (.int (fZ n r)) st | _=> .bad)
    | none=> .bad
  | _,_=> .bad
theorem El(hc:X.calm=true):bJ X (.builtin "max") Bj:=⟨_,yC hc,λws vs st H m Q S rs p=>by
  match ws,rs,p with
  | [],rs,p=>exact False.elim p
  | x::y::t,rs,p=>cases x<;>exact False.elim p
  | [x],rs,p=>
    obtain⟨v,rfl,r1⟩:=jd rs
    cases x with
    | ref l=>
      unfold Bj at p
      unfold ag at r1
      obtain⟨a,rfl,hl⟩:=r1
      cases e:af st l with
      | none=>simp only[e] at p;exact False.elim p
      | some ws=>
        simp only[e] at p
        cases e2:intsOf ws with
        | none=>simp only[e2] at p;exact False.elim p
        | some bs=>
          cases bs with
          | nil=>simp only[e2] at p;exact False.elim p
          | cons n bs=>
            simp only[e2] at p
            obtain⟨xs,q1,q2⟩:=S.read hl e
            have q3:=bY q2 e2
            subst q3
            exact⟨a,n,bs,rfl,q1,p _ m H Ext.refl S mkInt⟩
    | _=>exact False.elim p⟩
theorem Em(hc:X.calm=true):bJ X (.builtin "min") Bk:=⟨_,yD hc,λws vs st H m Q S rs p=>by
  match ws,rs,p with
  | [],rs,p=>exact False.elim p
  | x::y::t,rs,p=>cases x<;>exact False.elim p
  | [x],rs,p=>
    obtain⟨v,rfl,r1⟩:=jd rs
    cases x with
    | ref l=>
      unfold Bk at p
      unfold ag at r1
      obtain⟨a,rfl,hl⟩:=r1
      cases e:af st l with
      | none=>simp only[e] at p;exact False.elim p
      | some ws=>
        simp only[e] at p
        cases e2:intsOf ws with
        | none=>simp only[e2] at p;exact False.elim p
        | some bs=>
          cases bs with
          | nil=>simp only[e2] at p;exact False.elim p
          | cons n bs=>
            simp only[e2] at p
            obtain⟨xs,q1,q2⟩:=S.read hl e
            have q3:=bY q2 e2
            subst q3
            exact⟨a,n,bs,rfl,q1,p _ m H Ext.refl S mkInt⟩
    | _=>exact False.elim p⟩
theorem En(hc:X.calm=true):bJ X (.builtin "max") lH:=bJ.or lH (El hc) (Iy hc) λws st=>by
  unfold lH Bj
  split
  · exact .inl rfl
  · exact .inr rfl
theorem Eo(hc:X.calm=true):bJ X (.builtin "min") lI:=bJ.or lI (Em hc) (Iz hc) λws st=>by
  unfold lI Bk
  split
  · exact .inl rfl
  · exact .inr rfl
def insI(n:Int):List Int->List Int
  | []=>[n]
  | a::r=>if n<=a then n::a::r else a::insI n r
def fF:List Int->List Int
  | []=>[]
  | a::r=>insI a (fF r)
theorem insI_perm(n:Int):∀l:List Int,(insI n l).Perm (n::l)
  | []=> .refl _
  | a::r=>by
    unfold insI
    split
    · exact .refl _
    · exact((insI_perm n r).cons a).trans (.swap n a r)
theorem eR:∀l:List Int,(fF l).Perm l
  | []=> .nil
  | a::r=>(insI_perm a (fF r)).trans ((eR r).cons a)
theorem sP(n:Int):∀l:List Int,l.Pairwise (· <=·)->(insI n l).Pairwise (· <=·)
  | [],_=>by simp[insI]
  | a::r,h=>by
    unfold insI
    rw[List.pairwise_cons] at h
    split
    · rename_i c
      rw[List.pairwise_cons,List.pairwise_cons]
      refine⟨λb hb=>?_,h⟩
      rcases List.mem_cons.mp hb with z | z
      · rw[z];exact c
      · have:=h.1 b z;omega
    · rename_i c
      rw[List.pairwise_cons]
      refine⟨λb hb=>?_,sP n r h.2⟩
      rcases List.mem_cons.mp ((insI_perm n r).mem_iff.mp hb) with z | z
      · rw[z];omega
      · exact h.1 b z
theorem kc:∀l:List Int,(fF l).Pairwise (· <=·)
  | []=> .nil
  | a::r=>sP a _ (kc r)
theorem Ep{a b:List Int}(h:a.Perm b)(ha:a.Pairwise (· <=·))(hb:b.Pairwise (· <=·)):a=b :=
  List.Perm.eq_of_pairwise (λ_ _ _ _ h1 h2=>by omega) ha hb h
theorem yE:cC X (.builtin "sorted") (λxs H Q=>∃(p:WN)(ns:List Int),xs=[.ref p]/\ij X.K H p (ns.map V.int)/\ns.length<=W6/\∀l,H l=none->Q (.ref l) (upd H l (.lst ((fF ns).map V.int)))):=by
  intro pins s σ H xs us Q I r h
  obtain⟨p,ns,rfl,hq,h64,q⟩:=h
  obtain⟨u,rfl,rx⟩:=vals1 r
  cases rx
  obtain⟨its,r',pl,hz⟩:=I.list hq
  have hlen:=r'.length
  obtain⟨xs,rfl,rfl⟩:=dR r'
  refine JL.va pl.isList (intsAre_of xs) (by simpa using h64) λout ns' a1 a2 a3=>?_
  have e:ns'=fF (xs.map (·.1)):=Ep (a2.trans (eR _).symm) a3 (kc _)
  subst e
  obtain⟨n,hat⟩:=sortedAll_at s.heap (xs.map λp=>Value.int p.1 p.2) out
  have hz':((fF (xs.map (·.1))).map V.int).length<=W6:=by
    rw[List.length_map,(eR _).length_eq]
    simpa using hz
  refine⟨.ref (s.heap.objs.size+1),_,I.laid (t':=s.toks) (λ_ _=>sortedAll_old) (Nat.le_succ _) (show bN X.prog X.w _ _ _ (.lst _) from⟨hz',out.toList,n,lG a1,?_⟩),rfl,q _ (I.hok.fresh (Nat.le_succ _))⟩
  rw[hat]
def vc:List Wv->Hs->Re Wv
  | [.ref l],st=>match af st l with
    | some ws=>(match intsOf ws with | some ns=>if ns.length < 4096 then .ok (.ref st.length) (st++[.lst ((fF ns).map Wv.int)]) else .bad | none=> .bad)
    | none=> .bad
  | _,_=> .bad
theorem IQ:bJ X (.builtin "sorted") vc:=⟨_,yE,λws vs st H m Q S rs p=>by
  match ws,rs,p with
  | [],rs,p=>exact False.elim p
  | x::y::t,rs,p=>cases x<;>exact False.elim p
  | [x],rs,p=>
    obtain⟨v,rfl,r1⟩:=jd rs
    cases x with
    | ref l=>
      unfold vc at p
      unfold ag at r1
      obtain⟨a,rfl,hl⟩:=r1
      cases e:af st l with
      | none=>simp only[e] at p;exact False.elim p
      | some ws=>
        simp only[e] at p
        cases e2:intsOf ws with
        | none=>simp only[e2] at p;exact False.elim p
        | some bs=>
          simp only[e2] at p
          by_cases c:bs.length < 4096
          · rw[if_pos c] at p
            obtain⟨xs,q1,q2⟩:=S.read hl e
            have q3:=bY q2 e2
            subst q3
            exact⟨a,bs,rfl,q1,Nat.le_trans (Nat.le_of_lt c) (by rw[sizeLine_eq];decide),λq hq=>iC p Ext.refl S (ah.ints _) q hq⟩
          · rw[if_neg c] at p;exact False.elim p
    | _=>exact False.elim p⟩
end
end J
namespace J
open PySem PySem.Spec PyProof.Rows L2
section
variable {X:Cx}
theorem pQ{z:PySem.Str}:PyData.strOk z=true↔∀c∈z.cps.toList,c < 1114112:=by
 unfold PyData.strOk
 rw[Array.all_eq_true_iff_forall_mem]
 constructor
 ·intro h c hc
  simpa using h c (Array.mem_toList_iff.mp hc)
 ·intro h c hc
  simpa using h c (Array.mem_toList_iff.mpr hc)
end
end J
namespace J
open PySem PySem.Spec PyProof.Rows L2
section
variable {X:Cx}
theorem IS:C2 X (λx lo hi H Q=>∃z,x= .str z/\z.length<=W6/\Q (.str (Txt.slice z lo hi)) H):=by
 intro pins s σ H x v vl vu lo hi sl Q I rx hs pl pu h
 obtain⟨z,rfl,hz,q⟩:=h
 obtain⟨t,rfl⟩:=rx
 have fin:∀t' k,EP X pins σ Q (.str (Txt.slice z lo hi) t') { s with toks:=k }:=λt' k=>⟨.str _,H,I.tok k,⟨t',rfl⟩,q⟩
 refine⟨"str",_,PySem.F.slot_str_getitem.lookup,typeIs_str _ _ _,?_⟩
 have hl:=Nat.le_trans (Txt.slice_le z lo hi) hz
 cases pl with
 | none=>
  cases pu with
  | none=>exact wpAny_getItem_str_slice (l:=none) (u:=none) (st:=none) hs rfl (post_val_or_str ⟨hl,fin⟩)
  | int j tj=>exact wpAny_getItem_str_slice (l:=none) (u:=some (j,tj)) (st:=none) hs rfl (post_val_or_str ⟨hl,fin⟩)
 | int i ti=>
  cases pu with
  | none=>exact wpAny_getItem_str_slice (l:=some (i,ti)) (u:=none) (st:=none) hs rfl (post_val_or_str ⟨hl,fin⟩)
  | int j tj=>exact wpAny_getItem_str_slice (l:=some (i,ti)) (u:=some (j,tj)) (st:=none) hs rfl (post_val_or_str ⟨hl,fin⟩)
theorem yF{z:PySem.Str}{lo hi:Option Int}{c:Nat}(h:c∈(Txt.slice z lo hi).cps.toList):c∈z.cps.toList:=by
 unfold Txt.slice at h
 split at h
 ·exact h
 ·simp only[List.mem_filterMap] at h
  obtain⟨i,_,e⟩:=h
  rw[Array.getElem?_eq_some_iff] at e
  obtain⟨hi,rfl⟩:=e
  exact Array.mem_toList_iff.mpr (Array.getElem_mem hi)
theorem sQ{z:PySem.Str}{lo hi:Option Int}(h:PyData.strOk z=true):PyData.strOk (Txt.slice z lo hi)=true:=by
 rw[pQ] at h ⊢
 exact λc hc=>h c (yF hc)
end
section
open HT
theorem oF{prog:WS}{w:WV}{A:WO}{E:WU->WT->Prop}{s:WT}{t sl:WN}{us:Array WU}{vl vu:WU}{lo hi:Option Int}{Q:WU->WT->Prop}(ht:IsTup s.heap t us)(hs:s.heap.IsSliceOf sl vl vu .none)(pl:IsPart vl lo)(pu:IsPart vu hi)
  (hw:bV us.size 0 lo=0/\bV us.size us.size hi=us.size)(h:Q (.ref t) s):W8 (model prog w) A (getItem (.ref t) (.ref sl)) Q E s:=by
 obtain⟨os,o1,o2,o3⟩:=id hs
 have tys:s.TypeIs (.ref sl) "slice":=⟨os,o1,o2⟩
 unfold getItem;try with_reducible refine W' ?_
 first | refine W9 (Xe ?_) | skip
 refine W9 (wpAny_sequenceKey ht.typeIs (by decide) ?_);refine W9 (wpAny_callSpecial?_slot (name:=Str.ofString "__getitem__") ht.typeIs PyProof.Rows.slot_tuple_getitem (wpAny_call_entry PyProof.Rows.slot_tuple_getitem ht.typeIs entry_tuple_getitem ?_ (args_tuple_getitem _ _)))
 show W8 _ _ (Builtin.Tuple.tupleItemsOf (.ref t) >>= _) _ _ _;refine W9 (tupleItemsOf_ ht ?_);refine W9 (wpAny_typeOf tys ?_)
 rw[if_pos (by decide)];refine W9 (f7 hs pl pu ?_)
 rw[hw.1,hw.2]
 have yes:((((0:Nat):Int)) == 0&&(1:Int) == 1&&(us.size - 0) == us.size)=true:=by simp
 show W8 _ _ (if((((0:Nat):Int)) == 0&&(1:Int) == 1&&(us.size - 0) == us.size)=true then _ else _) _ _ s
 rw[if_pos yes]
 refine W9 (m:=Builtin.Tuple.tupleIsExact _) ?_
 unfold Builtin.Tuple.tupleIsExact
 refine W9 (wpAny_typeOf ht.typeIs (Xe ?_))
 rw[if_pos (by decide)]
 exact W9 (wpAny_rule (Xe ⟨_,rfl,Xe h⟩))
end
section
variable {X:Cx}
def PF(K:PySem.W.Frag):V->Option Int->Option Int->Hp->VK->Prop:=λx lo hi H Q=>∃a xs,x= .ref a/\dU K H a xs/\(HT.bV xs.length 0 lo=0/\HT.bV xs.length xs.length hi=xs.length)/\Q (.ref a) H
theorem Bl:C2 X (PF X.K):=by
 intro pins s σ H x v vl vu lo hi sl Q I rx hs pl pu h
 obtain⟨a,xs,rfl,hx,hw,q⟩:=h
 cases rx
 obtain⟨its,r,ht,hz⟩:=I.tuple hx
 have n:its.toArray.size=xs.length:=by rw[List.size_toArray];exact r.length.symm
 exact⟨"tuple",_,PyProof.Rows.slot_tuple_getitem.lookup,ht.typeIs,oF ht hs pl pu (by rw[n];exact hw) ⟨.ref a,H,I,rfl,q⟩⟩
def yG(n:Nat)(lo hi:Option Int):Prop:=HT.bV n 0 lo=0/\HT.bV n n hi=n
instance {n:Nat}{lo hi:Option Int}:Decidable (yG n lo hi):=inferInstanceAs (Decidable (HT.bV n 0 lo=0/\HT.bV n n hi=n))
def Bm(x:Wv)(lo hi:Option Int)(st:Hs):Re Wv:=match x with
 | .str z=>if z.length<=lim then .ok (.str (Txt.slice z lo hi)) st else .bad
 | .tup ws=>if yG ws.length lo hi then .ok (.tup ws) st else LZ (.tup ws) lo hi st
 | x=>LZ x lo hi st
def dB(ga:GE)(gl gh:GO):GE:=λρ st=>(ga ρ st).bind λx st1=>(gl ρ st1).bind λlo st2=>(gh ρ st2).bind λhi st3=>Bm x lo hi st3
theorem yH{a:Expr}{lo hi:Option Expr}{ga:GE}{gl gh:GO}{pos p2:Pos}(ha:JE X a ga)(hl:JO X lo gl)(hh:JO X hi gh):JE X (.Subscript a (.Slice lo hi none p2) pos) (dB ga gl gh):=by
 have hS:JE X (.Subscript a (.Slice lo hi none p2) pos) (λρ st=>(ga ρ st).bind λx st1=>(gl ρ st1).bind λlo st2=>(gh ρ st2).bind λhi st3=>match x with | .str z=>if z.length<=lim then .ok (.str (Txt.slice z lo hi)) st3 else .bad | _=> .bad):=by
  refine JE.of (mM IS aD pC pC) λρ st σ H m Q S R p=>?_
  refine ha.go S R (aq.bind p) λx st1 v m1 H1 p1 e1 S1 rx=>?_
  refine hl.go S1 (R.mono e1) ((aq.bind p1).imp e1 λ_ _ q=>q) λl st2 m2 H2 p2 e2 S2=>?_
  refine hh.go S2 (R.mono (e1.trans e2)) ((aq.bind p2).imp (e1.trans e2) λ_ _ q=>q) λh st3 m3 H3 p3 e3 S3=>?_
  have yd:=e1.trans (e2.trans e3)
  cases x with
  | str z=>
   dsimp only at p3
   by_cases c:z.length<=lim
   ·rw[if_pos c] at p3
    unfold ag at rx
    obtain⟨rfl,hz⟩:=rx
    exact⟨z,rfl,cP c,p3 _ m3 H3 yd S3 (mkStr (sQ hz))⟩
   ·rw[if_neg c] at p3;exact False.elim p3
  | _=>exact False.elim p3
 have hW:JE X (.Subscript a (.Slice lo hi none p2) pos) (λρ st=>(ga ρ st).bind λx st1=>(gl ρ st1).bind λlo st2=>(gh ρ st2).bind λhi st3=>match x with | .tup ws=>if yG ws.length lo hi then .ok (.tup ws) st3 else LZ (.tup ws) lo hi st3 | _=> .bad):=by
  refine JE.of (mM (C2.or Bl zS) aD pC pC) λρ st σ H m Q S R p=>?_
  refine ha.go S R (aq.bind p) λx st1 v m1 H1 p1 e1 S1 rx=>?_
  refine hl.go S1 (R.mono e1) ((aq.bind p1).imp e1 λ_ _ q=>q) λl st2 m2 H2 p2 e2 S2=>?_
  refine hh.go S2 (R.mono (e1.trans e2)) ((aq.bind p2).imp (e1.trans e2) λ_ _ q=>q) λh st3 m3 H3 p3 e3 S3=>?_
  have yd:=e1.trans (e2.trans e3)
  cases x with
  | tup ws=>
   dsimp only at p3
   have kK:=ag.mono (e2.trans e3) _ _ rx
   unfold ag at kK
   obtain⟨a',xs,rfl,f1,f2⟩:=kK
   by_cases c:yG ws.length l h
   ·rw[if_pos c] at p3
    unfold yG at c
    rw[f2.length] at c
    exact .inl ⟨a',xs,rfl,dU.of f1,c,p3 _ m3 H3 yd S3 (by unfold ag;exact⟨a',xs,rfl,f1,f2⟩)⟩
   ·rw[if_neg c] at p3
    unfold LZ at p3
    dsimp only at p3
    unfold yG at c
    rw[if_neg c] at p3
    rw[f2.length] at c
    refine .inr ⟨a',xs,rfl,dU.of f1,c,λq hq=>?_⟩
    have eU:Ext X.K m3 H3 m3 (L2.upd H3 q (.tup (oA xs l h))):=Ext.f9 (.inl hq)
    exact p3 (.ref q) m3 _ (yd.trans eU) (S3.fresh hq) (by unfold ag;exact⟨q,_,rfl,L2.az,ah.mono eU _ _ (qv f2)⟩)
  | _=>exact False.elim p3
 intro ρ st σ H m Q S R p
 unfold dB at p
 cases e1:ga ρ st with
 | bad=>rw[e1] at p;exact False.elim p
 | err c st1=>rw[e1] at p;exact r_ ha hl hh ρ st σ H m Q S R (by unfold uQ;rw[e1];exact p)
 | ok x st1=>
  rw[e1] at p
  cases x with
  | str z=>exact hS ρ st σ H m Q S R (by dsimp only;rw[e1];exact p)
  | tup ws=>exact hW ρ st σ H m Q S R (by dsimp only;rw[e1];exact p)
  | _=>exact r_ ha hl hh ρ st σ H m Q S R (by unfold uQ;rw[e1];exact p)
def IT:eE
 | .str i,.str j,st=> .ok (.bl (!(Builtin.Str.occurrences j i 0 j.length 1).isEmpty)) st
 | x,y,st=>O1 x y st
def qD:eE
 | .str i,.str j,st=> .ok (.bl (!(!(Builtin.Str.occurrences j i 0 j.length 1).isEmpty))) st
 | x,y,st=>uP x y st
theorem IU:iT X (W2 .In) IT:=by
 obtain⟨r,h1,h2⟩:=LX (X:=X)
 refine⟨_,dm.or xO h1,λx y a b st H m Q S rx ry p=>?_⟩
 unfold IT at p
 split at p
 ·rename_i i j
  unfold ag at rx ry
  obtain⟨rfl,_⟩:=rx
  obtain⟨rfl,_⟩:=ry
  exact .inl ⟨i,j,rfl,rfl,p _ m H Ext.refl S gH⟩
 ·exact .inr (h2 x y a b st H m Q S rx ry p)
theorem yI:iT X (W2 .NotIn) qD:=by
 obtain⟨r,h1,h2⟩:=As (X:=X)
 refine⟨_,dm.or qi h1,λx y a b st H m Q S rx ry p=>?_⟩
 unfold qD at p
 split at p
 ·rename_i i j
  unfold ag at rx ry
  obtain⟨rfl,_⟩:=rx
  obtain⟨rfl,_⟩:=ry
  exact .inl ⟨i,j,rfl,rfl,p _ m H Ext.refl S gH⟩
 ·exact .inr (h2 x y a b st H m Q S rx ry p)
end
end J
namespace J
open PySem PySem.Spec PyProof.Rows L2 PySem.W
theorem sR(a v:WU):argsOk "max" ⟨[a],[(Str.ofString "default",v)]⟩:=by unfold argsOk;kernel_rfl
theorem pR{prog:WS}{w:WV}{A:WO}{R:Result->WT->Prop}{I S:WN}{fp wr:List WN}{n:Nat}{P:Nat->WU->Prop}{St:Nat->Heap->Prop}{d:WU}
  (W:Walks prog w A.in1 I fp wr n P St)(bt:Nat->Nat->Bool)(hcmp:CmpOf prog w A.in1 .Gt P bt)(hSf:S∉fp) :
  ∀(k j:Nat)(s:WT)(cur:List WU)(c:Nat),n - j=k->j<=n->St j s.heap->((j=0/\cur=[])\/∃i vb,j=i+1/\cur=[vb,vb]/\P (argBest bt i) vb)->
  s.heap.get? S=some { cls:=.type "list",dict:=none,data:=.seq cur.toArray c,slots:=#[] }->
  (∀v h' tk,((n=0/\v=d)\/∃i,n=i+1/\P (argBest bt i) v)->(∀b o,b∉wr->b≠S->s.heap.get? b=some o->h'.get? b=some o)->R (.ok (.ret v)) { s with heap:=h',toks:=tk })->
  WZ (model prog w) A (.builtin "max.loop" ⟨[.ref I,.none,.ref S],[(Str.ofString "default",d)]⟩) R s:=by
 have Mv:S∉wr:=λq=>hSf (W.sub _ q)
 have nm:(toString "max"++toString ".loop":String)="max.loop":=by decide
 intro k
 induction k with
 | zero=>
  intro j s cur c hk hj IV hc hS hR
  have ej:j=n:=by omega
  refine codeAny_builtin F.entry_max_loop ?_
  rw[Around.under_plainId F.plain_max_loop]
  show W8 _ A.in1 (seqItems? (.ref S) >>= _) _ _ s;refine W9 (wpAny_seqItems hS rfl ?_)
  show W8 _ A.in1 (tryCatch (pyNext (.ref I)) _ >>= _) _ _ s;refine W9 (wpAny_tryCatch (W.done s _ _ (ej ▸ IV) λh1 t1 kp=>?_))
  rcases hc with ⟨e0,rfl⟩ | ⟨i,vb,e1,rfl,Er⟩
  ·show W8 _ A.in1 (rule "max.default" >>= _) _ _ _
   exact W9 (wpAny_rule (Xe (hR d h1 t1 (.inl ⟨by omega,rfl⟩) λb o h2 _ e=>kp b o h2 e)))
  ·have ve:=kp S _ Mv hS
   show W8 _ A.in1 (updateSeq S (λ_=>#[]) >>= _) _ _ _;refine W9 ?_
   refine wpAny_updateSeq ve rfl (W9 (wpAny_letGo (Xe (hR vb _ t1 (.inr ⟨i,by omega,Er⟩) λb o h2 h3 e=>?_))))
   exact(Heap.get?_update_other _ _ (Ne.symm h3)).trans (kp b o h2 e)
 | succ k ih=>
  intro j s cur c hk hj IV hc hS hR
  have lt:j < n:=by omega
  refine codeAny_builtin F.entry_max_loop ?_
  rw[Around.under_plainId F.plain_max_loop]
  show W8 _ A.in1 (seqItems? (.ref S) >>= _) _ _ s;refine W9 (wpAny_seqItems hS rfl ?_)
  show W8 _ A.in1 (tryCatch (pyNext (.ref I)) _ >>= _) _ _ s;refine W9 (wpAny_tryCatch (W.item j s _ _ lt IV λv h1 t1 hv st1 kp=>?_))
  have ve:=kp S _ Mv hS
  rcases hc with ⟨e0,rfl⟩ | ⟨i,vb,e1,rfl,Er⟩
  ·subst e0
   show W8 _ A.in1 (updateSeq S (λ_=>#[v,v]) >>= _) _ _ _;refine W9 (wpAny_updateSeq ve rfl ?_)
   rw[nm]
   refine Xe ⟨plainId_quiet F.plain_max_loop _,ih 1 _ [v,v] _ (by omega) lt (W.frame _ _ _ st1 λb IW o e=>?_) (.inr ⟨0,v,rfl,rfl,hv⟩) (Heap.get?_update_self _ ve rfl) λv2 h2 t2 hv2 Bn=>?_⟩
   ·exact(Heap.get?_update_other _ _ (λz:S=b=>hSf (z ▸ IW))).trans e
   ·exact hR v2 h2 t2 hv2 λb o q1 q2 e=>Bn b o q1 q2 ((Heap.get?_update_other _ _ (Ne.symm q2)).trans (kp b o q1 e))
  ·subst e1
   show W8 _ A.in1 (tryCatch (holding [v,v] (richCompare .Gt v vb >>= _)) _ >>= _) _ _ _;refine W9 (wpAny_tryCatch (W' (W9 (hcmp (i+1) (argBest bt i) v vb _ _ _ hv Er ?_))))
   refine W9 (W' (Xf (W9 (wpAny_letGo (Xe ?_)))))
   cases hb:bt (i+1) (argBest bt i) with
   | true=>
    have ha:argBest bt (i+1)=i+1:=by unfold argBest;rw[hb];rfl
    simp only[if_true];refine W9 (wpAny_updateSeq ve rfl (W9 (wpAny_letGo ?_)))
    rw[nm]
    refine Xe ⟨plainId_quiet F.plain_max_loop _,ih (i+2) _ [v,v] _ (by omega) lt (W.frame _ _ _ st1 λb IW o e=>?_) (.inr ⟨i+1,v,rfl,rfl,by rw[ha];exact hv⟩) (Heap.get?_update_self _ ve rfl) λv2 h2 t2 hv2 Bn=>?_⟩
    ·exact(Heap.get?_update_other _ _ (λz:S=b=>hSf (z ▸ IW))).trans e
    ·exact hR v2 h2 t2 hv2 λb o q1 q2 e=>Bn b o q1 q2 ((Heap.get?_update_other _ _ (Ne.symm q2)).trans (kp b o q1 e))
   | false=>
    have ha:argBest bt (i+1)=argBest bt i:=by rw[argBest,hb];rfl
    simp only[Bool.false_eq_true,if_false];refine W9 (wpAny_letGo ?_)
    rw[nm]
    refine Xe ⟨plainId_quiet F.plain_max_loop _,ih (i+2) _ [vb,vb] c (by omega) lt st1 (.inr ⟨i+1,vb,rfl,rfl,by rw[ha];exact Er⟩) ve λv2 h2 t2 hv2 Bn=>?_⟩
    exact hR v2 h2 t2 hv2 λb o q1 q2 e=>Bn b o q1 q2 (kp b o q1 e)
section
variable {X:Cx}
def PH:List Int->Wv
 | []=> .aF
 | n::r=> .int (fD n r)
theorem yJ(hc:X.calm=true){pins:List (WN×Obj)}{s:WT}{σ:L2.St}{H:Hp}{p:WN}{ns:List Int}{Q:VK}(I:L2.Inv X pins σ H s)(hq:ij X.K H p (ns.map V.int))(q:∀v:V,(ns=[]/\v= .aF)\/(∃n r,ns=n::r/\v= .int (fD n r))->Q v H) :
  W8 (model X.prog X.w) X.A (call (.builtin "max") [.ref p] [(Str.ofString "default",.none)]) (EP X pins σ Q) X.xe s:=by
 obtain⟨its,r',pl,hz⟩:=I.list hq
 obtain⟨xs,rfl,e0⟩:=dR r'
 have hl:=pl.isList
 have e:(xs.map λp=>Value.int p.1 p.2).toArray=intItems xs.toArray:=by unfold intItems;simp
 rw[e] at hl
 have hlen:xs.length=ns.length:=by rw[<-e0];simp
 have hnum:=λi=>eQ xs i
 rw[e0] at hnum
 have hh:X.A.handled=none:=I.ok.hd hc
 have nm:(toString "max"++toString ".loop":String)="max.loop":=by decide
 refine kmk_tree F.kind_max F.plain_max F.entry_max (sR _ _) ?_
 show W8 _ X.A.in1 (Builtin.Builtins.bindParams "max" ["key","default"] 0 ⟨[],[(Str.ofString "default",.none)]⟩ >>= _) _ _ s
 refine W9 (wpAny_of_eq (show Builtin.Builtins.bindParams "max" ["key","default"] 0 ⟨[],[(Str.ofString "default",.none)]⟩=pure [none,some .none] from rfl) (W9 (Xe ?_)))
 refine W9 (iter_intList hl λs₂ e2 st hfp hlI=>?_)
 subst e2
 refine W9 (Xd ?_)
 rw[nm]
 have W:=Walks.list (prog:=X.prog) (w:=X.w) (A:=X.A.in1) hh _ p hlI (intItems xs.toArray)
 refine Xe ⟨plainId_quiet F.plain_max_loop _,pR W _ (CmpOf.ints_gt (numAt xs.toArray) (λ_ _=>intItems_at)) (λhm=>Nat.lt_irrefl _ (hfp _ hm)) _ 0 _ [] 0 rfl (Nat.zero_le _) (W.frame _ _ _ st λb _ o e=>Heap.get?_push_of_some _ e) (.inl ⟨rfl,rfl⟩) (Heap.get?_push_size _ rfl) λv h' tk hv hk=>?_⟩
 have kp:∀b o,s.heap.get? b=some o->h'.get? b=some o:=λb o e=>by
  have e3:(s.heap.push { cls:=.type "list_iterator",data:=.fields #[.ref p,.int 0 0] }).get? b=some o:=Heap.get?_push_of_some _ e
  exact hk b o (by intro z;simp at z;subst z;exact Nat.lt_irrefl _ (Heap.lt_size e)) (Nat.ne_of_lt (Heap.lt_size e3)) (Heap.get?_push_of_some _ e3)
 have hsz:(intItems xs.toArray).size=ns.length:=by simp[intItems,hlen]
 rcases hv with ⟨n0,rfl⟩ | ⟨i,n1,hv⟩
 ·exact⟨.aF,H,I.kept kp,rfl,q _ (.inl ⟨List.length_eq_zero_iff.mp (by omega),rfl⟩)⟩
 ·obtain⟨t,rfl⟩:=intItems_at hv
  cases ns with
  | nil=>rw[hsz] at n1;cases n1
  | cons n r=>
   refine⟨.int (fD n r),H,I.kept kp,⟨t,?_⟩,q _ (.inr ⟨n,r,rfl,rfl⟩)⟩
   obtain⟨h1,h2⟩:=PySem.argBest_gt (numAt xs.toArray) i
   congr 1
   have hr:(n::r).length=i+1:=by omega
   refine pP ?_ λa ha=>?_
   ·rw[hnum]
    exact gq (by omega)
   ·obtain⟨j,hj,rfl⟩:=List.mem_iff_getElem.mp ha
    have q2:=h2 j (by omega)
    rw[hnum j,List.getD_eq_getElem?_getD,List.getElem?_eq_getElem hj] at q2
    exact q2
end
theorem Bo(a v:WU):argsOk "min" ⟨[a],[(Str.ofString "default",v)]⟩:=by unfold argsOk;kernel_rfl
theorem yK{prog:WS}{w:WV}{A:WO}{R:Result->WT->Prop}{I S:WN}{fp wr:List WN}{n:Nat}{P:Nat->WU->Prop}{St:Nat->Heap->Prop}{d:WU}
  (W:Walks prog w A.in1 I fp wr n P St)(bt:Nat->Nat->Bool)(hcmp:CmpOf prog w A.in1 .Lt P bt)(hSf:S∉fp) :
  ∀(k j:Nat)(s:WT)(cur:List WU)(c:Nat),n - j=k->j<=n->St j s.heap->((j=0/\cur=[])\/∃i vb,j=i+1/\cur=[vb,vb]/\P (argBest bt i) vb)->
  s.heap.get? S=some { cls:=.type "list",dict:=none,data:=.seq cur.toArray c,slots:=#[] }->
  (∀v h' tk,((n=0/\v=d)\/∃i,n=i+1/\P (argBest bt i) v)->(∀b o,b∉wr->b≠S->s.heap.get? b=some o->h'.get? b=some o)->R (.ok (.ret v)) { s with heap:=h',toks:=tk })->
  WZ (model prog w) A (.builtin "min.loop" ⟨[.ref I,.none,.ref S],[(Str.ofString "default",d)]⟩) R s:=by
 have Mv:S∉wr:=λq=>hSf (W.sub _ q)
 have nm:(toString "min"++toString ".loop":String)="min.loop":=by decide
 intro k
 induction k with
 | zero=>
  intro j s cur c hk hj IV hc hS hR
  have ej:j=n:=by omega
  refine codeAny_builtin F.entry_min_loop ?_
  rw[Around.under_plainId F.plain_min_loop]
  show W8 _ A.in1 (seqItems? (.ref S) >>= _) _ _ s;refine W9 (wpAny_seqItems hS rfl ?_)
  show W8 _ A.in1 (tryCatch (pyNext (.ref I)) _ >>= _) _ _ s;refine W9 (wpAny_tryCatch (W.done s _ _ (ej ▸ IV) λh1 t1 kp=>?_))
  rcases hc with ⟨e0,rfl⟩ | ⟨i,vb,e1,rfl,Er⟩
  ·show W8 _ A.in1 (rule "min.default" >>= _) _ _ _
   exact W9 (wpAny_rule (Xe (hR d h1 t1 (.inl ⟨by omega,rfl⟩) λb o h2 _ e=>kp b o h2 e)))
  ·have ve:=kp S _ Mv hS
   show W8 _ A.in1 (updateSeq S (λ_=>#[]) >>= _) _ _ _;refine W9 ?_
   refine wpAny_updateSeq ve rfl (W9 (wpAny_letGo (Xe (hR vb _ t1 (.inr ⟨i,by omega,Er⟩) λb o h2 h3 e=>?_))))
   exact(Heap.get?_update_other _ _ (Ne.symm h3)).trans (kp b o h2 e)
 | succ k ih=>
  intro j s cur c hk hj IV hc hS hR
  have lt:j < n:=by omega
  refine codeAny_builtin F.entry_min_loop ?_
  rw[Around.under_plainId F.plain_min_loop]
  show W8 _ A.in1 (seqItems? (.ref S) >>= _) _ _ s;refine W9 (wpAny_seqItems hS rfl ?_)
  show W8 _ A.in1 (tryCatch (pyNext (.ref I)) _ >>= _) _ _ s;refine W9 (wpAny_tryCatch (W.item j s _ _ lt IV λv h1 t1 hv st1 kp=>?_))
  have ve:=kp S _ Mv hS
  rcases hc with ⟨e0,rfl⟩ | ⟨i,vb,e1,rfl,Er⟩
  ·subst e0
   show W8 _ A.in1 (updateSeq S (λ_=>#[v,v]) >>= _) _ _ _;refine W9 (wpAny_updateSeq ve rfl ?_)
   rw[nm]
   refine Xe ⟨plainId_quiet F.plain_min_loop _,ih 1 _ [v,v] _ (by omega) lt (W.frame _ _ _ st1 λb IW o e=>?_) (.inr ⟨0,v,rfl,rfl,hv⟩) (Heap.get?_update_self _ ve rfl) λv2 h2 t2 hv2 Bn=>?_⟩
   ·exact(Heap.get?_update_other _ _ (λz:S=b=>hSf (z ▸ IW))).trans e
   ·exact hR v2 h2 t2 hv2 λb o q1 q2 e=>Bn b o q1 q2 ((Heap.get?_update_other _ _ (Ne.symm q2)).trans (kp b o q1 e))
  ·subst e1
   show W8 _ A.in1 (tryCatch (holding [v,v] (richCompare .Lt v vb >>= _)) _ >>= _) _ _ _;refine W9 (wpAny_tryCatch (W' (W9 (hcmp (i+1) (argBest bt i) v vb _ _ _ hv Er ?_))))
   refine W9 (W' (Xf (W9 (wpAny_letGo (Xe ?_)))))
   cases hb:bt (i+1) (argBest bt i) with
   | true=>
    have ha:argBest bt (i+1)=i+1:=by unfold argBest;rw[hb];rfl
    simp only[if_true];refine W9 (wpAny_updateSeq ve rfl (W9 (wpAny_letGo ?_)))
    rw[nm]
    refine Xe ⟨plainId_quiet F.plain_min_loop _,ih (i+2) _ [v,v] _ (by omega) lt (W.frame _ _ _ st1 λb IW o e=>?_) (.inr ⟨i+1,v,rfl,rfl,by rw[ha];exact hv⟩) (Heap.get?_update_self _ ve rfl) λv2 h2 t2 hv2 Bn=>?_⟩
    ·exact(Heap.get?_update_other _ _ (λz:S=b=>hSf (z ▸ IW))).trans e
    ·exact hR v2 h2 t2 hv2 λb o q1 q2 e=>Bn b o q1 q2 ((Heap.get?_update_other _ _ (Ne.symm q2)).trans (kp b o q1 e))
   | false=>
    have ha:argBest bt (i+1)=argBest bt i:=by rw[argBest,hb];rfl
    simp only[Bool.false_eq_true,if_false];refine W9 (wpAny_letGo ?_)
    rw[nm]
    refine Xe ⟨plainId_quiet F.plain_min_loop _,ih (i+2) _ [vb,vb] c (by omega) lt st1 (.inr ⟨i+1,vb,rfl,rfl,by rw[ha];exact Er⟩) ve λv2 h2 t2 hv2 Bn=>?_⟩
    exact hR v2 h2 t2 hv2 λb o q1 q2 e=>Bn b o q1 q2 (kp b o q1 e)
section
variable {X:Cx}
def NH:List Int->Wv
 | []=> .aF
 | n::r=> .int (fZ n r)
theorem yL(hc:X.calm=true){pins:List (WN×Obj)}{s:WT}{σ:L2.St}{H:Hp}{p:WN}{ns:List Int}{Q:VK}(I:L2.Inv X pins σ H s)(hq:ij X.K H p (ns.map V.int))(q:∀v:V,(ns=[]/\v= .aF)\/(∃n r,ns=n::r/\v= .int (fZ n r))->Q v H) :
  W8 (model X.prog X.w) X.A (call (.builtin "min") [.ref p] [(Str.ofString "default",.none)]) (EP X pins σ Q) X.xe s:=by
 obtain⟨its,r',pl,hz⟩:=I.list hq
 obtain⟨xs,rfl,e0⟩:=dR r'
 have hl:=pl.isList
 have e:(xs.map λp=>Value.int p.1 p.2).toArray=intItems xs.toArray:=by unfold intItems;simp
 rw[e] at hl
 have hlen:xs.length=ns.length:=by rw[<-e0];simp
 have hnum:=λi=>eQ xs i
 rw[e0] at hnum
 have hh:X.A.handled=none:=I.ok.hd hc
 have nm:(toString "min"++toString ".loop":String)="min.loop":=by decide
 refine kmk_tree F.kind_min F.plain_min F.entry_min (Bo _ _) ?_
 show W8 _ X.A.in1 (Builtin.Builtins.bindParams "min" ["key","default"] 0 ⟨[],[(Str.ofString "default",.none)]⟩ >>= _) _ _ s
 refine W9 (wpAny_of_eq (show Builtin.Builtins.bindParams "min" ["key","default"] 0 ⟨[],[(Str.ofString "default",.none)]⟩=pure [none,some .none] from rfl) (W9 (Xe ?_)))
 refine W9 (iter_intList hl λs₂ e2 st hfp hlI=>?_)
 subst e2
 refine W9 (Xd ?_)
 rw[nm]
 have W:=Walks.list (prog:=X.prog) (w:=X.w) (A:=X.A.in1) hh _ p hlI (intItems xs.toArray)
 refine Xe ⟨plainId_quiet F.plain_min_loop _,yK W _ (CmpOf.ints_lt (numAt xs.toArray) (λ_ _=>intItems_at)) (λhm=>Nat.lt_irrefl _ (hfp _ hm)) _ 0 _ [] 0 rfl (Nat.zero_le _) (W.frame _ _ _ st λb _ o e=>Heap.get?_push_of_some _ e) (.inl ⟨rfl,rfl⟩) (Heap.get?_push_size _ rfl) λv h' tk hv hk=>?_⟩
 have kp:∀b o,s.heap.get? b=some o->h'.get? b=some o:=λb o e=>by
  have e3:(s.heap.push { cls:=.type "list_iterator",data:=.fields #[.ref p,.int 0 0] }).get? b=some o:=Heap.get?_push_of_some _ e
  exact hk b o (by intro z;simp at z;subst z;exact Nat.lt_irrefl _ (Heap.lt_size e)) (Nat.ne_of_lt (Heap.lt_size e3)) (Heap.get?_push_of_some _ e3)
 have hsz:(intItems xs.toArray).size=ns.length:=by simp[intItems,hlen]
 rcases hv with ⟨n0,rfl⟩ | ⟨i,n1,hv⟩
 ·exact⟨.aF,H,I.kept kp,rfl,q _ (.inl ⟨List.length_eq_zero_iff.mp (by omega),rfl⟩)⟩
 ·obtain⟨t,rfl⟩:=intItems_at hv
  cases ns with
  | nil=>rw[hsz] at n1;cases n1
  | cons n r=>
   refine⟨.int (fZ n r),H,I.kept kp,⟨t,?_⟩,q _ (.inr ⟨n,r,rfl,rfl⟩)⟩
   obtain⟨h1,h2⟩:=PySem.argBest_lt (numAt xs.toArray) i
   congr 1
   have hr:(n::r).length=i+1:=by omega
   refine wJ ?_ λa ha=>?_
   ·rw[hnum]
    exact gq (by omega)
   ·obtain⟨j,hj,rfl⟩:=List.mem_iff_getElem.mp ha
    have q2:=h2 j (by omega)
    rw[hnum j,List.getD_eq_getElem?_getD,List.getElem?_eq_getElem hj] at q2
    exact q2
end
section
variable {X:Cx}
def pS:List Wv->Hs->Re Wv
 | [.ref l],st=>match af st l with
  | some ws=>(match intsOf ws with | some ns=> .ok (PH ns) st | none=> .bad)
  | none=> .bad
 | _,_=> .bad
def pT:List Wv->Hs->Re Wv
 | [.ref l],st=>match af st l with
  | some ws=>(match intsOf ws with | some ns=> .ok (NH ns) st | none=> .bad)
  | none=> .bad
 | _,_=> .bad
def IX(X:Cx)(id:String)(op:List Wv->Hs->Re Wv):Prop:=∀(ws:List Wv)(vs:List V)(us:List WU)(st:Hs)(H:Hp)(m:Mp)(Q:VK)(pins:List (WN×Obj))(s:WT)(σ:L2.St),aL X.K m st H->ah X.K m H ws vs->L2.Inv X pins σ H s->Vals vs us->bP X.K m H (op ws st) Q->
 W8 (model X.prog X.w) X.A (call (.builtin id) us [(Str.ofString "default",.none)]) (EP X pins σ Q) X.xe s
theorem IY(hc:X.calm=true):IX X "max" pS:=by
 intro ws vs us st H m Q pins s σ S rs I rv p
 match ws,rs,p with
 | [],rs,p=>exact False.elim p
 | x::y::t,rs,p=>cases x<;>exact False.elim p
 | [x],rs,p=>
  obtain⟨v,rfl,r1⟩:=jd rs
  cases x with
  | ref l=>
   unfold pS at p
   unfold ag at r1
   obtain⟨a,rfl,hl⟩:=r1
   obtain⟨u,rfl,ru⟩:=vals1 rv
   cases ru
   cases e:af st l with
   | none=>simp only[e] at p;exact False.elim p
   | some ws=>
    simp only[e] at p
    cases e2:intsOf ws with
    | none=>simp only[e2] at p;exact False.elim p
    | some ns=>
     simp only[e2] at p
     obtain⟨xs,q1,q2⟩:=S.read hl e
     have q3:=bY q2 e2
     subst q3
     refine yJ hc I q1 λv hv=>p v m H Ext.refl S ?_
     rcases hv with ⟨rfl,rfl⟩ | ⟨n,r,rfl,rfl⟩
     ·exact pB
     ·exact mkInt
  | _=>exact False.elim p
theorem IZ(hc:X.calm=true):IX X "min" pT:=by
 intro ws vs us st H m Q pins s σ S rs I rv p
 match ws,rs,p with
 | [],rs,p=>exact False.elim p
 | x::y::t,rs,p=>cases x<;>exact False.elim p
 | [x],rs,p=>
  obtain⟨v,rfl,r1⟩:=jd rs
  cases x with
  | ref l=>
   unfold pT at p
   unfold ag at r1
   obtain⟨a,rfl,hl⟩:=r1
   obtain⟨u,rfl,ru⟩:=vals1 rv
   cases ru
   cases e:af st l with
   | none=>simp only[e] at p;exact False.elim p
   | some ws=>
    simp only[e] at p
    cases e2:intsOf ws with
    | none=>simp only[e2] at p;exact False.elim p
    | some ns=>
     simp only[e2] at p
     obtain⟨xs,q1,q2⟩:=S.read hl e
     have q3:=bY q2 e2
     subst q3
     refine yL hc I q1 λv hv=>p v m H Ext.refl S ?_
     rcases hv with ⟨rfl,rfl⟩ | ⟨n,r,rfl,rfl⟩
     ·exact pB
     ·exact mkInt
  | _=>exact False.elim p
theorem sS{x:Str}{id:String}{op:List Wv->Hs->Re Wv}{g:GA}{p pos kp cp:Pos}{e:Expr}{kk:Nat}(hc:IX X id op)(hg:Gl X x)(hm:X.mg x=none)(hv:WY x=some (.builtin id))(ha:JA X [e] g)(hn:x≠"__name__")(hdb:(x == ("__debug__":Str))=false)
  (he:W7 [e] X.env=[(false,eval e X.env)]):JE X (.Call (.Name x p) [e] [⟨some (Str.ofString "default"),.Constant .none kk cp,kp⟩] pos) (ao op g):=by
 intro ρ st σ H m Q S R pp pins s I
 have args:=ha.go (T:=λvs H1=>∃ws st1 m1,aq X σ m H (op ws st1).jh (HK X.K m H Q)/\Ext X.K m H m1 H1/\aL X.K m1 st1 H1/\ah X.K m1 H1 ws vs) S R (aq.bind pp)
  λws st1 vs m1 H1 p1 e1 S1 rs=>⟨ws,st1,m1,p1,e1,S1,rs⟩
 refine wpAny_Call_Name_kw (iw I hg hm hv ?_ hn hdb)
 refine callWith_kw (aM (args pos pins s I) λus s1 ⟨vs,H1,I1,r,ws,st1,m1,p1,e1,S1,rs⟩=>?_) (by rw[he];rfl) (by rw[he];rfl)
 have kwd:=vZ (nm:=some (Str.ofString "default")) (kpos:=kp) (X:=X) (zv (j:=kk) (pos:=cp)) zN pos pins s1 σ H1 (λzs H2=>zs=[.aF]/\H2=H1) I1 ⟨rfl,rfl⟩
 refine aM kwd λzs s2 ⟨ys,H2,I2,rz,ez,eH⟩=>?_
 subst ez
 subst eH
 obtain⟨u,rfl,ru⟩:=vals1 rz
 cases ru
 exact hc ws vs us st1 H2 m1 Q pins s2 σ S1 rs I2 r (bP.shift (aq.jh p1) e1)
end
end J
namespace J
open PySem PySem.Spec PyProof.Rows L2
def Mw(x:Str):It:=⟨λi _=>i < x.cps.size,λi H v H'=>H'=H/\∃c,x.cps[i]? =some c/\v= .str ⟨#[c]⟩,λi _=>x.cps.size<=i⟩
theorem vf{P:WS}{w:WV}{K:PySem.W.Frag}{tg:Expr}(x:Str)(t:Tok)(it:WN):Turn P w K tg (Mw x) [it] it (λi h=>h.IsStrIter it "str_ascii_iterator" x t i) where
 mem:=List.mem_singleton.mpr rfl
 obj:=λi h st b hb=>by
  cases List.mem_singleton.mp hb
  obtain⟨o,e,c,d⟩:=st
  exact⟨o,e,λv z=>by rw[d] at z;cases z⟩
 keep:=λi h h' st k=>let ⟨o,e,r⟩:=st;⟨o,k it (List.mem_singleton.mpr rfl) o e,r⟩
 item:=by
  intro X hP hw hK hc i pins s σ H E I hf st hg
  subst hP;subst hw;subst hK
  obtain⟨f0,f1,f2,f3,f4,f5⟩:=hf it (List.mem_singleton.mpr rfl)
  have hi:i < x.cps.size:=hg
  refine wpAny_pyNext_ascii_item st (c:=x.cps[i]) (by simp[hi]) λh' st' sb=>?_
  have I1:L2.Inv X pins σ H { s with heap:=h',toks:=s.toks+1 }:=I.turned (t':=s.toks+1) (λb o hb e=>sb.extBut b o hb e) f0 f1 f3 f4 f5
  obtain⟨o,e,c,d⟩:=id st'
  exact⟨_,rfl,lq (s:={ s with heap:=h',toks:=s.toks+1 }) e c d (by decide) ⟨.str ⟨#[x.cps[i]]⟩,H,I1,⟨_,rfl⟩,⟨rfl,_,by simp[hi],rfl⟩,st',λb hb=>(hf b hb).1⟩⟩
 done:=by
  intro X hP hw hK hc i pins s σ H E I hf st hg
  subst hP;subst hw;subst hK
  obtain⟨f0,f1,f2,f3,f4,f5⟩:=hf it (List.mem_singleton.mpr rfl)
  have hi:x.cps.size<=i:=hg
  exact wpAny_pyNext_ascii_end (I.ok.hd hc) st (by simp[hi]) λh' eb=>⟨rfl,I.turned (t':=s.toks) (λb o hb e=>eb b o hb e) f0 f1 f3 f4 f5⟩
 self:=λ_ _ _ _ _ st h=>wpAny_pyIter_striter_ascii st h
theorem yM{P:WS}{w:WV}{K:PySem.W.Frag}{tg:Expr}(x:Str)(t:Tok)(it:WN):Turn P w K tg (Mw x) [it] it (λi h=>h.IsStrIter it "str_iterator" x t i) where
 mem:=List.mem_singleton.mpr rfl
 obj:=λi h st b hb=>by
  cases List.mem_singleton.mp hb
  obtain⟨o,e,c,d⟩:=st
  exact⟨o,e,λv z=>by rw[d] at z;cases z⟩
 keep:=λi h h' st k=>let ⟨o,e,r⟩:=st;⟨o,k it (List.mem_singleton.mpr rfl) o e,r⟩
 item:=by
  intro X hP hw hK hc i pins s σ H E I hf st hg
  subst hP;subst hw;subst hK
  obtain⟨f0,f1,f2,f3,f4,f5⟩:=hf it (List.mem_singleton.mpr rfl)
  have hi:i < x.cps.size:=hg
  refine wpAny_pyNext_wide_item st (c:=x.cps[i]) (by simp[hi]) λh' st' sb=>?_
  have I1:L2.Inv X pins σ H { s with heap:=h',toks:=s.toks+1 }:=I.turned (t':=s.toks+1) (λb o hb e=>sb.extBut b o hb e) f0 f1 f3 f4 f5
  obtain⟨o,e,c,d⟩:=id st'
  exact⟨_,rfl,lq (s:={ s with heap:=h',toks:=s.toks+1 }) e c d (by decide) ⟨.str ⟨#[x.cps[i]]⟩,H,I1,⟨_,rfl⟩,⟨rfl,_,by simp[hi],rfl⟩,st',λb hb=>(hf b hb).1⟩⟩
 done:=by
  intro X hP hw hK hc i pins s σ H E I hf st hg
  subst hP;subst hw;subst hK
  obtain⟨f0,f1,f2,f3,f4,f5⟩:=hf it (List.mem_singleton.mpr rfl)
  have hi:x.cps.size<=i:=hg
  exact wpAny_pyNext_wide_end (I.ok.hd hc) st (by simp[hi]) λh' eb=>⟨rfl,I.turned (t':=s.toks) (λb o hb e=>eb b o hb e) f0 f1 f3 f4 f5⟩
 self:=λ_ _ _ _ _ st h=>wpAny_pyIter_striter_wide st h
section
variable {X:Cx}
theorem I0{tg l:Expr}{tl:TE}(hl:PE X l tl):PI X tg l (λσ H R=>tl σ H λv H1=>∃z,v= .str z/\R (Mw z) H1):=by
 intro pins s σ H R I h
 refine aM (hl pins s σ H _ I h) λv s1 ⟨x,H1,I1,r1,z,e,q⟩=>?_
 subst e
 obtain⟨t,rfl⟩:=r1
 have frs:∀b∈[s1.heap.objs.size],eD X pins H1 b:=λb hb=>by
  cases List.mem_singleton.mp hb
  exact I1.rL (Nat.le_refl _) (I1.hok.fresh (Nat.le_refl _))
 cases ha:z.cps.all (· < 128)
 ·exact wpAny_pyIter_wide ha ⟨s1.heap.objs.size,[s1.heap.objs.size],_,_,H1,rfl,I1.kept (t':=s1.toks) λb o e=>Heap.get?_push_of_some _ e,yM z t _,⟨_,Heap.get?_push_size _ rfl,rfl,rfl⟩,frs,q⟩
 ·exact wpAny_pyIter_ascii ha ⟨s1.heap.objs.size,[s1.heap.objs.size],_,_,H1,rfl,I1.kept (t':=s1.toks) λb o e=>Heap.get?_push_of_some _ e,vf z t _,⟨_,Heap.get?_push_size _ rfl,rfl,rfl⟩,frs,q⟩
def fP(z:PySem.Str):List Wv:=z.cps.toList.map λc=>Wv.str ⟨#[c]⟩
def sT(w:Wv)(st:Hs):Re Wk:=match w with
 | .str z=> .ok (none,fP z) st
 | w=>IC w st
def fQ(g:GE):GI:=λρ st=>(g ρ st).bind sT
theorem I_{z:PySem.Str}{m1:Mp}{H1:Hp}(hz:PyData.strOk z=true):pK X (none,fP z) m1 H1 (Mw z) where
 go:=λk H m' st _ _ _ hk=>by
  have:k < z.cps.size:=by simpa [fP] using hk
  exact this
 stop:=λk H m' st _ _ _ hk=>by
  have:k=z.cps.size:=by simpa [fP] using hk
  exact Nat.le_of_eq this.symm
 rK:=λk hk H v H' m' st _ _ _ y=>by
  obtain⟨rfl,c,hc,rfl⟩:=y
  refine⟨rfl,?_⟩
  have hk':k < z.cps.size:=by simpa [fP] using hk
  have e:∀h:k < (fP z).length,(fP z)[k]'h= .str ⟨#[z.cps[k]]⟩:=by intro h;simp[fP]
  have hc':z.cps[k]=c:=by simpa [hk'] using hc
  show ag X.K m' H' ((fP z)[k]'hk) _
  rw[e hk,hc']
  refine mkStr ?_
  rw[pQ] at hz ⊢
  intro d hd
  simp at hd
  rw[hd,<-hc']
  exact hz _ (by simp)
theorem wK{tg iter:Expr}{g:GE}(h:JE X iter g):JI X tg iter (fQ g):=by
 obtain⟨w1,h1,k1⟩:=ID (tg:=tg) h
 refine⟨λσ H R=>w1 σ H R\/(SE X iter σ H λv H1=>∃z,v= .str z/\R (Mw z) H1),λpins s σ H R I q=>?_,λρ st σ H m R S RR p=>?_⟩
 ·rcases q with q | q
  ·exact h1 pins s σ H R I q
  ·exact I0 aD pins s σ H R I q
 ·unfold fQ at p
  cases e:g ρ st with
  | bad=>rw[e] at p;exact False.elim p
  | err c st'=>rw[e] at p;exact .inl (k1 ρ st σ H m R S RR (by unfold A6;rw[e];exact p))
  | ok w st'=>
   rw[e] at p
   cases w with
   | str z=>
    refine .inr ?_
    refine h.go (ok:=λw st1=>w= .str z/\st1=st') S RR (by rw[e];exact⟨rfl,rfl⟩) λw st1 v m1 H1 q e1 S1 r1=>?_
    obtain⟨rfl,rfl⟩:=q
    unfold ag at r1
    obtain⟨rfl,hz⟩:=r1
    exact⟨z,rfl,p m1 H1 _ e1 S1 trivial (I_ hz)⟩
   | _=>exact .inl (k1 ρ st σ H m R S RR (by unfold A6;rw[e];exact p))
end
end J
namespace J
open PySem PySem.Spec PyProof.Rows L2
section
variable {X:Cx}
end
end J
namespace J
open PySem PySem.Spec PyProof.Rows L2
def keyOf:Wv->Option L2.Key
 | .int i=>some (.inl i)
 | .str x=>some (.inr x)
 | _=>none
theorem kS{K:PySem.W.Frag}{m:Mp}{H:Hp}{w:Wv}{v:V}{k:L2.Key}(r:ag K m H w v)(e:keyOf w=some k):v=kV k:=by
 cases w with
 | int i=>cases e;unfold ag at r;rw[r];rfl
 | str x=>cases e;unfold ag at r;rw[r.1];rfl
 | _=>cases e
def bT{κ:Type}[DecidableEq κ](kvs:List (κ×Wv))(k:κ):Option Wv:=match kvs with
 | []=>none
 | p::r=>if p.1=k then some p.2 else bT r k
def jf{κ:Type}[DecidableEq κ](kvs:List (κ×Wv))(k:κ)(v:Wv):List (κ×Wv):=if(kvs.any λkv=>decide (kv.1=k))=true then kvs.map (λkv=>if kv.1=k then(kv.1,v) else kv) else kvs++[(k,v)]
def Ja(kvs more:List (L2.Key×Wv)):List (L2.Key×Wv):=more.foldl (λacc kv=>jf acc kv.1 kv.2) kvs
section
variable {K:PySem.W.Frag} {m:Mp} {H:Hp} {κ:Type}
theorem RelK.nil:RelK (κ:=κ) K m H [] []:=⟨rfl,ah.nil⟩
theorem RelK.cons{k:κ}{w:Wv}{v:V}{kvs:List (κ×Wv)}{xs:List (κ×V)}(h:ag K m H w v)(t:RelK K m H kvs xs):RelK K m H ((k,w)::kvs) ((k,v)::xs) :=
 ⟨by simp[t.1],by simpa using ah.cons h t.2⟩
theorem RelK.nil_inv{xs:List (κ×V)}(h:RelK K m H [] xs):xs=[]:=by
 have:=h.1
 cases xs with
 | nil=>rfl
 | cons a b=>simp at this
theorem RelK.cons_inv{p:κ×Wv}{kvs:List (κ×Wv)}{xs:List (κ×V)}(h:RelK K m H (p::kvs) xs):∃v t,xs=(p.1,v)::t/\ag K m H p.2 v/\RelK K m H kvs t:=by
 obtain⟨h1,h2⟩:=h
 cases xs with
 | nil=>simp at h1
 | cons q t=>
  simp at h1 h2
  unfold ah at h2
  obtain⟨x,r,e1,e2,e3⟩:=h2
  cases e1
  exact⟨q.2,t,by rw[h1.1],e2,h1.2,e3⟩
theorem RelK.length{kvs:List (κ×Wv)}{xs:List (κ×V)}(h:RelK K m H kvs xs):kvs.length=xs.length:=by
 have:=congrArg List.length h.1
 simpa using this
variable [DecidableEq κ]
theorem RelK.val:∀{kvs:List (κ×Wv)}{xs:List (κ×V)}(k:κ),RelK K m H kvs xs->(bT kvs k=none->jT xs k=none)/\∀w,bT kvs k=some w->∃v,jT xs k=some v/\ag K m H w v
 | [],xs,k,h=>by
  rw[h.nil_inv]
  exact⟨λ_=>rfl,(λw e=>by cases e)⟩
 | p::r,xs,k,h=>by
  obtain⟨v,t,rfl,h1,h2⟩:=h.cons_inv
  obtain⟨i1,i2⟩:=RelK.val k h2
  unfold bT
  by_cases e:p.1=k
  ·rw[if_pos e,jU (by exact e)]
   exact⟨(λz=>by cases z),λw z=>⟨v,rfl,by cases z;exact h1⟩⟩
  ·rw[if_neg e,jV (by exact e)]
   exact⟨i1,i2⟩
theorem RelK.any:∀{kvs:List (κ×Wv)}{xs:List (κ×V)}(k:κ),RelK K m H kvs xs->(kvs.any λkv=>decide (kv.1=k))=xs.any λkv=>decide (kv.1=k)
 | [],xs,k,h=>by rw[h.nil_inv];rfl
 | p::r,xs,k,h=>by
  obtain⟨v,t,rfl,h1,h2⟩:=h.cons_inv
  rw[List.any_cons,List.any_cons,RelK.any k h2]
theorem RelK.repl:∀{kvs:List (κ×Wv)}{xs:List (κ×V)}(k:κ){w:Wv}{v:V},RelK K m H kvs xs->ag K m H w v->RelK K m H (kvs.map λkv=>if kv.1=k then(kv.1,w) else kv) (xs.map λkv=>if kv.1=k then(kv.1,v) else kv)
 | [],xs,k,w,v,h,r=>by rw[h.nil_inv];exact RelK.nil
 | p::kvs,xs,k,w,v,h,r=>by
  obtain⟨u,t,rfl,h1,h2⟩:=h.cons_inv
  rw[List.map_cons,List.map_cons]
  by_cases e:p.1=k
  ·rw[if_pos e,if_pos (by exact e)]
   exact RelK.cons r (RelK.repl k h2 r)
  ·rw[if_neg e,if_neg (by exact e)]
   exact RelK.cons h1 (RelK.repl k h2 r)
theorem RelK.snoc:∀{kvs:List (κ×Wv)}{xs:List (κ×V)}(k:κ){w:Wv}{v:V},RelK K m H kvs xs->ag K m H w v->RelK K m H (kvs++[(k,w)]) (xs++[(k,v)])
 | [],xs,k,w,v,h,r=>by rw[h.nil_inv];exact RelK.cons r RelK.nil
 | p::kvs,xs,k,w,v,h,r=>by
  obtain⟨u,t,rfl,h1,h2⟩:=h.cons_inv
  exact RelK.cons h1 (RelK.snoc k h2 r)
theorem RelK.put{kvs:List (κ×Wv)}{xs:List (κ×V)}(k:κ){w:Wv}{v:V}(h:RelK K m H kvs xs)(r:ag K m H w v):RelK K m H (jf kvs k w) (putK xs k v):=by
 unfold jf putK
 rw[h.any k]
 split
 ·exact h.repl k r
 ·exact h.snoc k r
end
section
variable {K:PySem.W.Frag} {m:Mp} {H:Hp}
theorem RelK.merge:∀{more:List (L2.Key×Wv)}{ms:List (L2.Key×V)}{kvs:List (L2.Key×Wv)}{xs:List (L2.Key×V)},RelK K m H kvs xs->RelK K m H more ms->RelK K m H (Ja kvs more) (HG xs ms)
 | [],ms,kvs,xs,h,g=>by rw[g.nil_inv];exact h
 | p::more,ms,kvs,xs,h,g=>by
  obtain⟨u,t,rfl,h1,h2⟩:=g.cons_inv
  have:=RelK.merge (more:=more) (ms:=t) (kvs:=jf kvs p.1 p.2) (xs:=putK xs p.1 u) (RelK.put p.1 h h1) h2
  exact this
end
section
variable {X:Cx}
inductive PJ(X:Cx)(pos:Pos):List (Option Expr)->List Expr->List (GE×GE)->Prop
 | nil:PJ X pos [] [] []
 | cons {k v:Expr} {ks:List (Option Expr)} {vs:List Expr} {gk gv:GE} {gs:List (GE×GE)}:JE X k gk->JE X v gv->PJ X pos ks vs gs->PJ X pos (some k::ks) (v::vs) ((gk,gv)::gs)
end
def wL:Wv->WU->Prop
 | .int i,u=>∃t,u= .int i t
 | .str x,u=>(∃t,u= .str x t)/\PyData.strOk x=true
 | _,_=>False
abbrev Dc:=List (PySem.Str×Wv)
def qE(w:WV):Dc->List DictEntry->Prop
 | [],[]=>True
 | (k,v)::r,e::t=>(e.hash=hashStr w k/\(∃tk,e.key= .str k tk)/\wL v e.val)/\qE w r t
 | _,_=>False
def yN(K:PySem.W.Frag)(w:WV)(mg:Str->Option WU)(x:Str)(kvs:Dc):Prop :=
 ∃(a:WN)(es:Array DictEntry)(ep:Nat),mg x=some (.ref a)/\K.lookup a=some ⟨.type "dict",none,.dict es ep,#[]⟩/\(a == sysModules)=false/\qE w kvs es.toList/\(kvs.map (·.1)).Nodup
theorem kf{P:WS}{w:WV}:∀{kvs:Dc}{l:List DictEntry},qE w kvs l->∃vs:List (PySem.Str×WU),vs.map (·.1)=kvs.map (·.1)/\Pairs (PySem.strKind P w) l vs/\(∀e∈l,∃k,(PySem.strKind P w).is k e.key=true/\e.hash=(PySem.strKind P w).hash k)/\
  ∀k,(kvs.lookup k=none->valueAt vs k=none)/\∀v,kvs.lookup k=some v->∃u,valueAt vs k=some u/\wL v u
 | [],[],_=>⟨[],rfl,.nil,(λ_ z=>by cases z),λk=>⟨λ_=>rfl,(λv z=>by cases z)⟩⟩
 | (k,v)::r,e::t,h=>by
  obtain⟨⟨h1,⟨tk,h2⟩,h3⟩,h4⟩:=h
  obtain⟨vs,i1,i2,i3,i4⟩:=kf (P:=P) h4
  have his:(PySem.strKind P w).is k e.key=true:=by rw[h2];exact strKind_is P w k tk
  refine⟨(k,e.val)::vs,by simp[i1],.cons his rfl i2,λe' he=>?_,λk'=>?_⟩
  ·rcases List.mem_cons.mp he with z | z
   ·subst z;exact⟨k,his,h1⟩
   ·exact i3 e' z
  ·rw[List.lookup_cons]
   unfold valueAt
   rw[List.find?_cons]
   by_cases ek:k=k'
   ·subst ek
    have b1:(k == k)=true:=by simp
    rw[b1]
    simp only[decide_true,Option.map_some]
    exact⟨(λz=>by cases z),λv' z=>⟨e.val,rfl,by cases z;exact h3⟩⟩
   ·have b1:(k' == k)=false:=beq_eq_false_iff_ne.mpr λz=>ek z.symm
    rw[b1]
    simp only[ek,decide_false]
    exact i4 k'
 | [],_::_,h=>False.elim h
 | _::_,[],h=>False.elim h
theorem Es{P:WS}{w:WV}{K:PySem.W.Frag}{h:Heap}{a:WN}{es:Array DictEntry}{ep:Nat}{kvs:Dc}(KX:K.In h)(hl:K.lookup a=some ⟨.type "dict",none,.dict es ep,#[]⟩)(he:qE w kvs es.toList)(nd:(kvs.map (·.1)).Nodup) :
  ∃vs:List (PySem.Str×WU),h.DictOf (PySem.strKind P w) a vs/\∀k,(kvs.lookup k=none->valueAt vs k=none)/\∀v,kvs.lookup k=some v->∃u,valueAt vs k=some u/\wL v u:=by
 obtain⟨vs,i1,i2,i3,i4⟩:=kf (P:=P) he
 exact⟨vs,⟨_,es,ep,KX a _ hl,⟨rfl,rfl,rfl⟩,rfl,λe hm=>i3 e (by simpa using hm),i2,by rw[i1];exact nd⟩,i4⟩
section
variable {X:Cx}
def Ge(kvs:Dc)(ga:GE):GE:=λρ st=>(ga ρ st).bind λa st1=>match a with
 | .str k=>(match kvs.lookup k with | some w=> .ok w st1 | none=> .bad)
 | _=> .bad
def Mx(kvs:Dc)(ty:TE):TE:=λσ H Q=>ty σ H λy H1=>∃z w v,y= .str z/\kvs.lookup z=some w/\(∀u,wL w u->RelV v u)/\Q v H1
theorem Et{b:Expr}{ty:TE}{x:Str}{p pos:Pos}{kvs:Dc}(hb:PE X b ty)(hs:z_ b)(hg:Gl X x)(hd:(x == ("__debug__":Str))=false)(D:yN X.K X.w X.mg x kvs):PE X (.Subscript (.Name x p) b pos) (Mx kvs ty):=by
 intro pins s σ H Q I h
 obtain⟨a,es,ep,g1,g2,g3,g4,g5⟩:=D
 refine we PySem.F.slot_dict_getitem.lookup hs (aM (iS (v:=.ref a) hg g1 rfl hd pins s σ H (λv H2=>v= .ref a/\H2=H) I ⟨rfl,rfl⟩) λu s1 ⟨v,H1,I1,rv,ev,eH⟩=>?_)
 subst ev eH
 obtain rfl:u=Value.ref a:=rv
 refine aM (hb pins s1 σ H1 _ I1 h) λiv s2 ⟨y,H2,I2,ry,z,w,v,ey,ew,ev,q⟩=>?_
 subst ey
 obtain⟨t,rfl⟩:=(show ∃t,iv=Value.str z t from ry)
 obtain⟨vs,dd,look⟩:=Es (P:=X.prog) (w:=X.w) I2.zj g2 g4 g5
 obtain⟨u,e1,e2⟩:=(look z).2 w ew
 exact⟨dd.typeIs,wpAny_getItem_of (strKind_is X.prog X.w z t) dd.mapOf e1 ⟨v,H2,I2.tok _,ev u e2,q⟩⟩
theorem Eu{b:Expr}{gb:GE}{x:Str}{p pos:Pos}{kvs:Dc}(hb:JE X b gb)(hs:z_ b)(hg:Gl X x)(hd:(x == ("__debug__":Str))=false)(D:yN X.K X.w X.mg x kvs):JE X (.Subscript (.Name x p) b pos) (Ge kvs gb) :=
 JE.of (Et aD hs hg hd D) λρ st σ H m Q S R p=>by
  refine hb.go S R (aq.bind p) λw st1 v m1 H1 p1 e1 S1 r1=>?_
  cases w with
  | str k=>
   dsimp only at p1
   cases e:kvs.lookup k with
   | none=>rw[e] at p1;exact False.elim p1
   | some u=>
    rw[e] at p1
    unfold ag at r1
    cases u with
    | int i=>exact⟨k,.int i,.int i,r1.1,e,λu h=>h,p1 _ m1 H1 e1 S1 (by unfold ag;rfl)⟩
    | str y=>
     by_cases hy:PyData.strOk y=true
     ·exact⟨k,.str y,.str y,r1.1,e,λu h=>h.1,p1 _ m1 H1 e1 S1 (by unfold ag;exact⟨rfl,hy⟩)⟩
     ·obtain⟨a,es,ep,_,_,_,g4,_⟩:=D
      obtain⟨vs,_,_,_,i4⟩:=kf (P:=X.prog) g4
      obtain⟨u,_,e2⟩:=(i4 k).2 _ e
      exact absurd e2.2 hy
    | _=>
     obtain⟨a,es,ep,_,_,_,g4,_⟩:=D
     obtain⟨vs,_,_,_,i4⟩:=kf (P:=X.prog) g4
     obtain⟨u,_,e2⟩:=(i4 k).2 _ e
     exact False.elim e2
  | _=>exact False.elim p1
end
end J
namespace J
open PySem PySem.Spec PyProof.Rows PySem.W L2
section
variable (lt:Nat->Nat->Bool) (N:Nat)
def Kg{α:Type}:KasT α->(α->Prop)->Prop
 | .ret a,Q=>Q a
 | .ask i j k,Q=>(i < N/\j < N)/\Kg (k (lt i j)) Q
end
section
variable {lt:Nat->Nat->Bool} {N:Nat}
theorem Kg.bind{α β:Type}{f:α->KasT β}{Q:β->Prop}:∀{t:KasT α},Kg lt N t (λa=>Kg lt N (f a) Q)->Kg lt N (t.bind f) Q
 | .ret a,h=>h
 | .ask i j k,h=>⟨h.1,Kg.bind (t:=k (lt i j)) h.2⟩
theorem Kg.imp{α:Type}{Q R:α->Prop}(hq:∀a,Q a->R a):∀{t:KasT α},Kg lt N t Q->Kg lt N t R
 | .ret a,h=>hq a h
 | .ask i j k,h=>⟨h.1,Kg.imp hq (t:=k (lt i j)) h.2⟩
structure Ord(lt:Nat->Nat->Bool):Prop where
 as:∀a b,lt a b=true->lt b a=false
 tr:∀a b c,lt a b=false->lt b c=false->lt a c=false
theorem Ord.RO(o:Ord lt)(a:Nat):lt a a=false:=by
 cases h:lt a a with
 | false=>rfl
 | true=>have:=o.as a a h;rw[h] at this;cases this
abbrev at_(p:Array Nat)(i:Nat):Nat:=p.getD i 0
structure Pm(N:Nat)(p:Array Nat):Prop where
 sz:p.size=N
 pm:p.toList.Perm (List.range N)
theorem Pm.bd{p:Array Nat}(h:Pm N p){i:Nat}(hi:i < N):at_ p i < N:=by
 have e:at_ p i=p[i]'(by rw[h.sz];exact hi):=by simp[at_,Array.getD,h.sz,hi]
 rw[e]
 have:p[i]'(by rw[h.sz];exact hi)∈p.toList:=by simp
 exact List.mem_range.mp (h.pm.mem_iff.mp this)
theorem wM{p q:Array Nat}{i j:Nat}(h:p[i]? =q[j]?):at_ p i=at_ q j:=by
 unfold at_
 rw[Array.getD_eq_getD_getElem?,Array.getD_eq_getD_getElem?,h]
theorem Bp{p:Array Nat}(h:Pm N p){i j:Nat}(hj:j<=N)(k:Nat):at_ (kas_rev p i j) k=if i<=k/\k < j then at_ p (i+j - 1 - k) else at_ p k:=by
 have q:=getElem?_mirror_all (xs:=p) (i:=i) (j:=j) (by rw[h.sz];exact hj) k
 unfold kas_rev
 split
 ·rename_i c;rw[if_pos c] at q;exact wM q
 ·rename_i c;rw[if_neg c] at q;exact wM q
def Up(lt:Nat->Nat->Bool)(p:Array Nat)(k:Nat):Prop:=∀i j,i<=j->j < k->lt (at_ p j) (at_ p i)=false
def Dn(lt:Nat->Nat->Bool)(p:Array Nat)(k:Nat):Prop:=∀i j,i<=j->j < k->lt (at_ p i) (at_ p j)=false
theorem Up.succ(o:Ord lt){p:Array Nat}{k:Nat}(h:Up lt p k)(hk:1<=k)(e:lt (at_ p k) (at_ p (k - 1))=false):Up lt p (k+1):=by
 intro i j hij hj
 by_cases c:j < k
 ·exact h i j hij c
 ·have:j=k:=by omega
  subst this
  by_cases c2:i=j
  ·subst c2;exact o.RO _
  ·exact o.tr _ _ _ e (h i (j - 1) (by omega) (by omega))
theorem Dn.succ(o:Ord lt){p:Array Nat}{k:Nat}(h:Dn lt p k)(hk:1<=k)(e:lt (at_ p (k - 1)) (at_ p k)=false):Dn lt p (k+1):=by
 intro i j hij hj
 by_cases c:j < k
 ·exact h i j hij c
 ·have:j=k:=by omega
  subst this
  by_cases c2:i=j
  ·subst c2;exact o.RO _
  ·exact o.tr _ _ _ (h i (j - 1) (by omega) (by omega)) e
theorem Dn.up{p:Array Nat}(hp:Pm N p){n:Nat}(hn:n<=N)(h:Dn lt p n):Up lt (kas_rev p 0 n) n:=by
 intro i j hij hj
 rw[Bp hp hn,Bp hp hn,if_pos ⟨by omega,hj⟩,if_pos ⟨by omega,by omega⟩]
 exact h _ _ (by omega) (by omega)
end
def Ux(a b:Int×Int):Bool:=decide (a.1 < b.1)||(decide (a.1=b.1)&&decide (a.2 < b.2))
section
variable {prog:WS} {w:WV} {A:WO} {E:WU->WT->Prop} {s:WT}
end
section
variable {X:Cx} {pins:List (WN×Obj)} {σ:St} {H:Hp} {s:WT}
end
section
variable {X:Cx}
end
section
variable {prog:WS} {w:WV} {A:WO} {E:WU->WT->Prop} {s:WT}
end
section
variable {X:Cx}
abbrev pw(p:Int×Int):Wv:=.tup [.int p.1,.int p.2]
end
end J
namespace J
open PySem PySem.Spec PyProof.Rows L2
def keysOf:List Wv->Option (List L2.Key)
 | []=>some []
 | w::r=>(match keyOf w,keysOf r with | some k,some l=>some (k::l) | _,_=>none)
def qF:Wv->Option (List L2.Key)
 | .tup ws=>keysOf ws
 | _=>none
theorem nk{K:PySem.W.Frag}{m:Mp}{H:Hp}:∀{ws:List Wv}{xs:List V}{ks:List L2.Key},ah K m H ws xs->keysOf ws=some ks->xs=ks.map kV
 | [],xs,ks,r,e=>by unfold ah at r;subst r;cases e;rfl
 | w::ws,xs,ks,r,e=>by
  unfold ah at r
  obtain⟨x,t,rfl,r1,r2⟩:=r
  unfold keysOf at e
  cases e1:keyOf w with
  | none=>rw[e1] at e;cases e
  | some k=>
   cases e2:keysOf ws with
   | none=>rw[e1,e2] at e;cases e
   | some l=>
    rw[e1,e2] at e
    cases e
    rw[kS r1 e1,nk r2 e2]
    rfl
theorem nr{K:PySem.W.Frag}{m:Mp}{H:Hp}{w:Wv}{v:V}{ks:List L2.Key}(r:ag K m H w v)(e:qF w=some ks):∃b,v= .ref b/\H b=some (.tup (ks.map kV)):=by
 cases w with
 | tup ws=>
  unfold ag at r
  obtain⟨a,xs,rfl,h1,h2⟩:=r
  rw[nk h2 e] at h1
  exact⟨a,rfl,h1⟩
 | _=>cases e
def lJ:GE:=λ_ st=> .ok (.ref st.length) (st++[.bh []])
def Gf:GE:=λ_ st=> .ok (.ref st.length) (st++[.dct []])
section
variable {X:Cx}
theorem Ew{pos:Pos}:JE X (.Dict [] [] pos) lJ:=JE.of Ad λρ st σ H m Q S R p=>λq hq=>
 p (.ref q) (m++[q]) _ (Ext.more.trans (Ext.f9 (.inl hq))) (S.qq hq ⟨[],az,RelK.nil⟩) (S.newest q _)
theorem Ex{pos:Pos}:JE X (.Dict [] [] pos) Gf:=JE.of Ac λρ st σ H m Q S R p=>λq hq=>
 p (.ref q) (m++[q]) _ (Ext.more.trans (Ext.f9 (.inl hq))) (S.qq hq ⟨[],az,RelK.nil⟩) (S.newest q _)
def putD(d k v:Wv)(st:Hs):Option Hs:=match d with
 | .ref l=>(match st[l]? with
  | some (.dct kvs)=>(match keyOf k with | some kk=>if kvs.length < lim then some (st.set l (.dct (jf kvs kk v))) else none | none=>none)
  | some (.bh kvs)=>(match qF k with | some kk=>if kvs.length < lim then some (st.set l (.bh (jf kvs kk v))) else none | none=>none)
  | _=>none)
 | _=>none
def lK(gv gd gk:GE):GS:=λρ st=>(gv ρ st).aM ρ λv st1=>(gd ρ st1).aM ρ λd st2=>(gk ρ st2).aM ρ λk st3=>match putD d k v st3 with
 | some wk=> .nx ρ wk
 | none=> .bad
theorem Ey{m:Mp}{st st':Hs}{H:Hp}{d k v:Wv}{x y z:V}(S:aL X.K m st H)(rd:ag X.K m H d x)(rk:ag X.K m H k y)(rv:ag X.K m H v z)(e:putD d k v st=some st'):∃a H',x= .ref a/\qm H a y z H'/\Ext X.K m H m H'/\aL X.K m st' H':=by
 unfold putD at e
 cases d with
 | ref l=>
  dsimp only at e
  unfold ag at rd
  obtain⟨a,rfl,ha⟩:=rd
  cases e1:st[l]? with
  | none=>rw[e1] at e;cases e
  | some o=>
   rw[e1] at e
   cases o with
   | dct kvs=>
    dsimp only at e
    cases e2:keyOf k with
    | none=>rw[e2] at e;cases e
    | some kk=>
     rw[e2] at e
     dsimp only at e
     by_cases c:kvs.length < lim
     ·rw[if_pos c] at e
      cases e
      obtain⟨xs,h1,h2⟩:=(show ∃ys,H a=some (.dK ys)/\RelK X.K m H kvs ys from S.obj _ _ _ ha e1)
      have ex:Ext X.K m H m (upd H a (.dK (putK xs kk z))):=Ext.f9 (.inr (.inr (.inl ⟨_,h1⟩)))
      refine⟨a,_,rfl,by rw[kS rk e2];exact qm.k h1 (by rw[<-h2.length];exact uL c),ex,?_⟩
      exact S.jv ha e1 rfl ⟨_,az,(h2.put kk rv).mono ex⟩
     ·rw[if_neg c] at e;cases e
   | bh kvs=>
    dsimp only at e
    cases e2:qF k with
    | none=>rw[e2] at e;cases e
    | some kk=>
     rw[e2] at e
     dsimp only at e
     by_cases c:kvs.length < lim
     ·rw[if_pos c] at e
      cases e
      obtain⟨xs,h1,h2⟩:=(show ∃ys,H a=some (.dT ys)/\RelK X.K m H kvs ys from S.obj _ _ _ ha e1)
      obtain⟨b,rfl,hb⟩:=nr rk e2
      have ex:Ext X.K m H m (upd H a (.dT (putK xs kk z))):=Ext.f9 (.inr (.inr (.inr ⟨_,h1⟩)))
      refine⟨a,_,rfl,qm.t h1 hb (by rw[<-h2.length];exact uL c),ex,?_⟩
      exact S.jv ha e1 rfl ⟨_,az,(h2.put kk rv).mono ex⟩
     ·rw[if_neg c] at e;cases e
   | _=>cases e
 | _=>cases e
theorem Ez{o i e:Expr}{go gi ge:GE}{pos pos':Pos}(hu:X.A.units+1 < cLine)(he:JE X e ge)(ho:JE X o go)(hi:JE X i gi)(hs:swapsWith e (some (.Subscript o i pos')) pos.line X.env=pure false):JS X (.Assign [.Subscript o i pos'] e pos) (lK ge go gi) :=
 JS.of (DG hu aD aD aD hs) λρ st σ H m D S R p=>by
  refine he.go S R (aw.bB R p) λv st1 vv m1 H1 p1 e1 S1 rv=>?_
  refine ho.go S1 (R.mono e1) ((aw.bB (m:=m) (H:=H) R p1).imp e1 λ_ _ q=>q) λd st2 vd m2 H2 p2 e2 S2 rd=>?_
  refine hi.go S2 (R.mono (e1.trans e2)) ((aw.bB (m:=m) (H:=H) R p2).imp (e1.trans e2) λ_ _ q=>q) λk st3 vk m3 H3 p3 e3 S3 rk=>?_
  have yd:=e1.trans (e2.trans e3)
  cases e4:putD d k v st3 with
  | none=>rw[e4] at p3;exact False.elim p3
  | some wk=>
   rw[e4] at p3
   obtain⟨a,H4,f1,f2,f3,f4⟩:=Ey (X:=X) S3 (ag.mono e3 _ _ rd) rk (ag.mono (e2.trans e3) _ _ rv) e4
   exact⟨a,H4,f1,f2,p3 σ m3 H4 (yd.trans f3) f4 (R.mono (yd.trans f3))⟩
end
end J
namespace J
open PySem PySem.Spec PyProof.Rows PySem.W L2
def qG(h:Heap)(d:WN)(es:Array DictEntry)(ep:Nat):Prop:=∃o,h.get? d=some o/\o.cls= .type "dict"/\o.data= .dict es ep
section
variable {prog:WS} {w:WV} {A:WO} {E:WU->WT->Prop} {s:WT} {d it:WN} {es:Array DictEntry} {ep i:Nat}
theorem qG.ty(x:qG s.heap d es ep):s.TypeIs (.ref d) "dict":=let ⟨o,h1,h2,_⟩:=x;⟨o,h1,h2⟩
theorem Bq{Q:WU->WT->Prop}(lo:(d == sysModules)=false)(x:qG s.heap d es ep)
  (k:Q (.ref s.heap.objs.size) { s with heap:=s.heap.push { cls:=.type "dict_keyiterator",data:=.fields #[.ref d,.int 0 0,.int es.size 0,.int ep 0] } }):W8 (model prog w) A (pyIter (.ref d)) Q E s:=by
 have ty:=x.ty
 obtain⟨o,g1,g2,g3⟩:=x
 refine wpAny_pyIter_slot ty PySem.F.slot_dict_iter (wpAny_call_entry PySem.F.slot_dict_iter ty PySem.F.entry_dict_iter ?_ (PySem.F.args_dict_iter_1 _))
 unfold Builtin.«dict.__iter__» Builtin.Dict.dictSlotNone
 refine W9 (W9 (wpAny_notOrdered_dict ty (Xe ?_)))
 unfold Builtin.Dict.showsAll
 have nlo:¬(d == sysModules)=true:=by rw[lo];exact Bool.false_ne_true
 refine W9 (show W8 _ _ (pure d) _ _ s from Xe (W9 ?_))
 rw[if_neg nlo]
 exact Xe (W9 (W_ g1 g3 (W9 (wpAny_dictEpoch g1 g3 (W9 (Xd (Xe ⟨_,rfl,"dict_keyiterator",_,⟨_,Heap.get?_push_size _ rfl,rfl⟩,PySem.F.slot_dict_keyiterator_next.lookup,by simpa [rawInt] using k⟩)))))))
theorem Br{Q:Option WU->WT->Prop}(ki:s.heap.IsKeyIter it d i es.size ep)(x:qG s.heap d es ep)(hi:i < es.size)
  (k:∀h',h'.IsKeyIter it d (i+1) es.size ep->Heap.SameBut it s.heap h'->Q (some es[i].key) { s with heap:=h' }):W8 (model prog w) A (pyNext (.ref it)) Q E s:=by
 have ty:=ki.typeIs
 obtain⟨oi,f1,f2,f3⟩:=id ki
 obtain⟨o,g1,g2,g3⟩:=x
 have own:Builtin.Dict_items.ownsTuple "dict_keyiterator"=false:=by decide
 have nn:¬((Value.ref d == Value.none)=true):=Bool.false_ne_true
 unfold pyNext
 refine W9 (wpAny_attempt (wpAny_callSpecial?_slot (name:=Str.ofString "__next__") ty PySem.F.slot_dict_keyiterator_next (wpAny_call_entry PySem.F.slot_dict_keyiterator_next ty PySem.F.entry_dict_keyiterator_next ?_ (PySem.F.args_dict_keyiterator_next_1 _))))
 refine W9 (Xe (W9 (W9 ?_)))
 first | refine W9 (wpAny_typeNameOfWhole_keyiter ty (Xe (W9 (wpAny_fieldsOf f1 f3 ?_)))) | refine W9 (wpAny_typeNameOf_keyiter ty (Xe (W9 (wpAny_fieldsOf f1 f3 ?_))))
 simp only[own,Bool.false_eq_true,if_false]
 refine(show W8 _ _ (if(Value.ref d == Value.none)=true then _ else _) _ _ s from ?_);rw[if_neg nn]
 refine W9 (Xe (W9 (W_ g1 g3 ?_)))
 rw[if_neg (by simp)]
 refine W9 (Xe (W9 (wpAny_dictEpoch g1 g3 ?_)))
 rw[if_neg (by simp)]
 refine Xe ?_
 have n0:¬((i:Int) < 0):=by omega
 simp only[n0,if_false,Int.toNat_natCast,Array.getElem?_eq_getElem hi]
 refine W9 ?_
 first | refine W9 (wpAny_typeNameOfWhole_keyiter ty (Xe (W9 (wpAny_isOneOf_keyiter ty ?_)))) | refine W9 (wpAny_typeNameOf_keyiter ty (Xe (W9 (wpAny_isOneOf_keyiter ty ?_))))
 refine(show W8 _ _ (setField (.ref it) 1 (rawInt ((i:Int)+1)) >>= _) _ _ s from ?_)
 have Mz:(s.heap.update it (Obj.mapFields (·.setIfInBounds 1 (rawInt ((i:Int)+1))))).IsKeyIter it d (i+1) es.size ep:=⟨_,Heap.get?_update_self _ f1 (Obj.isFreed_of_fields (Obj.data_mapFields f3 _)),(Obj.cls_mapFields ..).trans f2,by rw[Obj.data_mapFields f3];simp[rawInt]⟩
 refine W9 (wpAny_setField f1 f3 (by simp) (W9 (W' (W9 (wpAny_isOneOf_keyiter (s:={ s with heap:=s.heap.update it (Obj.mapFields (·.setIfInBounds 1 (rawInt ((i:Int)+1)))) }) Mz.typeIs ?_)))))
 exact(show W8 _ _ (pure es[i].key) _ _ _ from Xe (Xe ⟨_,rfl,Xe (k _ Mz (Heap.SameBut.update ..))⟩))
theorem EA{Q:Option WU->WT->Prop}(hh:A.handled=none)(ki:s.heap.IsKeyIter it d i es.size ep)(x:qG s.heap d es ep)(hi:es.size<=i)(k:∀h',Heap.ExtBut it s.heap h'->Q none { s with heap:=h' }):W8 (model prog w) A (pyNext (.ref it)) Q E s:=by
 have ty:=ki.typeIs
 obtain⟨oi,f1,f2,f3⟩:=id ki
 obtain⟨o,g1,g2,g3⟩:=x
 have own:Builtin.Dict_items.ownsTuple "dict_keyiterator"=false:=by decide
 have nn:¬((Value.ref d == Value.none)=true):=Bool.false_ne_true
 unfold pyNext
 refine W9 (wpAny_attempt (wpAny_callSpecial?_slot (name:=Str.ofString "__next__") ty PySem.F.slot_dict_keyiterator_next (wpAny_call_entry PySem.F.slot_dict_keyiterator_next ty PySem.F.entry_dict_keyiterator_next ?_ (PySem.F.args_dict_keyiterator_next_1 _))))
 refine W9 (Xe (W9 (W9 ?_)))
 first | refine W9 (wpAny_typeNameOfWhole_keyiter ty (Xe (W9 (wpAny_fieldsOf f1 f3 ?_)))) | refine W9 (wpAny_typeNameOf_keyiter ty (Xe (W9 (wpAny_fieldsOf f1 f3 ?_))))
 simp only[own,Bool.false_eq_true,if_false]
 refine(show W8 _ _ (if(Value.ref d == Value.none)=true then _ else _) _ _ s from ?_);rw[if_neg nn]
 refine W9 (Xe (W9 (W_ g1 g3 ?_)))
 rw[if_neg (by simp)]
 refine W9 (Xe (W9 (wpAny_dictEpoch g1 g3 ?_)))
 rw[if_neg (by simp)]
 refine Xe ?_
 have n0:¬((i:Int) < 0):=by omega
 simp only[n0,if_false,Int.toNat_natCast,Array.getElem?_eq_none hi]
 refine W9 ?_
 first | refine W9 (wpAny_typeNameOfWhole_keyiter ty (Xe ?_)) | refine W9 (wpAny_typeNameOf_keyiter ty (Xe ?_))
 refine(show W8 _ _ (setField (.ref it) 0 .none >>= _) _ _ s from W9 (wpAny_setField f1 f3 (by simp) ?_))
 refine(show W8 _ _ (newExc (.type "StopIteration") [] >>= _) _ _ _ from ?_)
 simp only[newExc,newTuple,raiseNew]
 refine W9 (W9 (Xd (W9 (m:=firstArgMember _ _) (wpAny_of_eq (a:=Value.none) (by first | rfl | (simp only[firstArgMember];rfl)) (Xd ?_ (by size_fits)))) (by size_fits)))
 refine(W9 (wpAny_handled ?_))
 rw[show A.in1.handled=none by exact hh]
 refine(W9 (Xe (wpAny_throw ?_)))
 refine W9 (wpAny_isInstance (b:=true) (T:="StopIteration") ⟨_,Heap.get?_push_size _ rfl,rfl⟩ isSubtype_stop (Xe ?_))
 refine k _ ?_;exact((Heap.SameBut.update ..).extBut.push _).push _
end
section
variable {X:Cx}
end
def kT:List L2.Key->Option (List Int)
 | []=>some []
 | .inl i::r=>(match kT r with | some l=>some (i::l) | none=>none)
 | _=>none
theorem wN:∀{ks:List L2.Key}{ns:List Int},kT ks=some ns->ks.map kV=ns.map V.int
 | [],ns,e=>by cases e;rfl
 | .inl i::r,ns,e=>by
  unfold kT at e
  cases q:kT r with
  | none=>rw[q] at e;cases e
  | some l=>rw[q] at e;cases e;rw[List.map_cons,List.map_cons,wN q];rfl
 | .inr x::r,ns,e=>by cases e
def fI:List (List L2.Key)->Option (List Wv)
 | []=>some []
 | k::r=>(match kT k,fI r with | some ns,some l=>some (.tup (ns.map Wv.int)::l) | _,_=>none)
section
variable {X:Cx}
end
end J
namespace J
open PySem L2 PyProof.Rows
section
open PySem.SeqAt PySem.MeetsSeq PySem.MeetsSeq2 PySem.MeetsSeq3
end
variable {X:Cx}
def oLe:eE:=λx y st=>LM x y st
theorem Jb(hu:X.A.units+64 < cLine):iT X (W2 .LtE) oLe:=LP
def oLt:eE:=λx y st=>LL x y st
theorem Jc(hu:X.A.units+64 < cLine):iT X (W2 .Lt) oLt:=LO
end J
namespace J
open PySem PySem.Spec PyProof.Rows L2
structure eC(k:Nat)(A:WO):Prop where
 d:A.depth+3 * k+5 < recursionLimit
 u:A.units+16 * k+200 < cLine
theorem eC.of{k:Nat}{A:WO}(r:iy k A):eC k A:=⟨r.dp,r.un⟩
theorem eC.less{j k:Nat}{A:WO}(r:eC k A)(h:j<=k):eC j A:=⟨by have:=r.d;omega,by have:=r.u;omega⟩
theorem eC.down{k:Nat}{A:WO}(r:eC (k+1) A)(env:Env):eC k (A.deeper env) :=
 ⟨by have q:=r.d;show A.depth+1+3 * k+5 < _;omega,by have q:=r.u;show A.units+3+16 * k+200 < _;omega⟩
theorem eC.Uy{k:Nat}{A:WO}(r:eC k A):A.units+64 < cLine:=by have:=r.u;omega
structure Bs(P:WS)(w:WV)(K:PySem.W.Frag)(mg:Str->Option WU)(base:Heap)(k:Nat)(f:WN)(fd:WQ)(ps:List Str)(sp:Sp):Prop where
 n:∀vs H Q E,sp vs H Q E->vs.length=ps.length
 go:∀(A:WO)(outer:List Env)(s:WT)(H:Hp)(args:Args)(us:List WU)(vs:List V)(Q:VK)(E:XK),eC k A->yt A H->uC P w K mg base A outer s H->
  BindsTo s fd args (ps.zip us)->Vals vs us->sp vs H Q E->WZ (model P w) A (.call (.ref f) args) (CR (CXJ P w) outer P w H s Q E) s
section
variable {P:WS} {w:WV} {K:PySem.W.Frag} {mg:Str->Option WU} {base:Heap}
def EB(P:WS)(w:WV)(K:PySem.W.Frag)(mg:Str->Option WU)(base:Heap)(N:List Str)(qual:Str)(scope:Scope)(f:WN)(cd:WU)(A:WO)(outer:List Env)(s:WT)(H:Hp)(E:XK):Cx :=
 { mI (CXJ P w) P w K mg base N qual scope f cd A outer s H E with calm:=false }
theorem Jd{N ps:List Str}{qual:Str}{scope:Scope}{f:WN}{cd:WU}{A:WO}{outer:List Env}{s s1:WT}{H:Hp}{E:XK}{us:List WU}{vs:List V}(S:FnScope N ps scope)(z:uC P w K mg base A outer s H)(ln:vs.length=ps.length)(r:Vals vs us)
  (x:InCallC s s.heap.objs.size (bindL (envOfC qual scope s.heap.objs.size f cd).kindOf (ps.zip us) λ_=>none) (cellsFrom (s.heap.objs.size+1) scope.names []) (bindC (envOfC qual scope s.heap.objs.size f cd).kindOf (ps.zip us) λ_=>none) s1) :
  Inv (EB P w K mg base N qual scope f cd A outer s H E) [] (start N vs) H s1:=by
 have z':uC P w K mg base { A with handled:=none } outer s H:=⟨z.frames,z.mod,z.bs,z.C0,z.jr,z.C4,z.hok,z.bare⟩
 have I:=pk (CX:=CXJ P w) (E:=E) (cd:=cd) (A:={ A with handled:=none }) S rfl z' ln r x
 have o:=I.ok
 exact⟨⟨o.mod,o.kind,o.glob,o.blt,o.above,o.inj,o.has,o.Kz,(λh=>by cases h),o.frames,o.stk,o.Og,o.bs,o.C0,o.xH,o.zt,o.jr,o.C4⟩,I.os,I.bare,I.base,I.loc,I.cell,I.free,I.d_,I.pin,I.hok,I.len⟩
theorem MA{N:List Str}{qual:Str}{scope:Scope}{f:WN}{cdv:WU}{A:WO}{outer:List Env}{s s':WT}{H H':Hp}{E:XK}{σ:St}{c:PySem.Str}{e:WU}
  (r:qr (EB P w K mg base N qual scope f cdv A outer s H E) σ H' c e s')(h:∀C,ClsAt K c C->E (.ref C) none H'):(EB P w K mg base N qual scope f cdv A outer s H E).xe e s':=by
 obtain⟨C,pins,Hc,sc,hC,I,r⟩:=r
 rcases r with fl | ⟨rfl,a,args,rfl,ho,hg,M⟩
 ·exact lD (X:=EB P w K mg base N qual scope f cdv A outer s H E) rfl rfl rfl I fl λs2 uo=>⟨H',C,uo,h C hC⟩
 ·exact mV (X:=EB P w K mg base N qual scope f cdv A outer s H E) rfl rfl rfl I ho hg M λs2 uo=>⟨H',C,uo,h C hC⟩
theorem PL{x qual:Str}{st:Stmt}{f:WN}{fd:WQ}{N ps:List Str}{k:Nat}{g:GS}(F:FO K x qual st f fd)(S:FnScope N ps (defScope st))
  (body:∀(cdv:WU)(A:WO)(outer:List Env)(s:WT)(H:Hp)(E:XK),eC k (A.deeper (envOfC qual (defScope st) s.heap.objs.size f cdv))->uV (EB P w K mg base N qual (defScope st) f cdv A outer s H E)->jl (EB P w K mg base N qual (defScope st) f cdv A outer s H E) (defBody st) g) :
  Bs P w K mg base (k+1) f fd ps (spW K ps.length (dO N.length g)):=by
 have hpl:ps.length<=N.length:=by have:=congrArg List.length S.pre;rw[List.length_take] at this;omega
 obtain⟨oc,od,kV,doc,pm,an,cdv,ct,osl,rfl,lk,hcd⟩:=F.ex
 have len:∀vs H Q E,spW K ps.length (dO N.length g) vs H Q E->vs.length=ps.length:=λvs H Q E h=>by
  obtain⟨m,st',ws,_,r,hl,_⟩:=h
  rw[<-r.length];exact hl
 refine⟨len,λA outer s H args us vs Q E hr ha z hb r Dq=>?_⟩
 have ln:=len _ _ _ _ Dq
 have kx:K.In s.heap:=z.mod.GP.keeps λb o q=>(z.bs b o q).1
 have nl:s.heap.NoLimit:=z.mod.nolimit.keeps λb o q=>(z.bs b o q).1
 have kinds:∀y∈ps.zip us,(defScope st).names.lookup y.1=some .local\/((defScope st).names.lookup y.1=some .cell/\((cellsFrom (s.heap.objs.size+1) (defScope st).names []).lookup y.1).isSome=true):=λy hy=>by
  rcases S.par y.1 (List.of_mem_zip hy).1 with t | t
  ·exact .inl t
  ·exact .inr ⟨t,PySem.W.cellsFrom_some _ _ _ (.inl t)⟩
 refine codeAny_call_function (by have:=hr.d;omega) (kx _ _ lk) rfl S.co S.gen rfl (PySem.W.codeRec_of kx hcd) (hb _ _ _ _ ?_)
 refine wpAny_newFunctionEnv_cells S.kind kinds λenv he s1 y=>?_
 subst he
 refine⟨nl.keeps y.toInCall.keep,codeAny_func ?_⟩
 obtain⟨m,st',ws,S',rs,hl,p⟩:=Dq
 have I:=Jd (E:=E) (cd:=cdv) S z ln r y
 have go:LC (EB P w K mg base N qual (defScope st) f cdv A outer s H E) (defBody st) { nx:=λ_ H'=>Q .aF H',rt:=Q } (start N vs) H:=by
  refine body cdv A outer s H E (hr.down _) ha _ st' _ H m _ S' (si rs (by omega)) ?_
  unfold dO at p
  cases e:g (ws.map some++List.replicate (N.length - ws.length) none) st' with
  | nx ρ st2=>rw[e] at p;exact λσ m' H' e' S2 R2=>p _ m' H' e' S2 (by unfold ag;rfl)
  | rt w' st2=>rw[e] at p;exact p
  | bk ρ st2=>rw[e] at p;exact False.elim p
  | ct ρ st2=>rw[e] at p;exact False.elim p
  | err c ρ st2=>rw[e] at p;exact λσ m' H' x s' e' S2 R2 rz=>MA rz λC hC=>p m' H' C e' S2 hC
  | bad=>rw[e] at p;exact False.elim p
 refine Xa (cK [] s1 (start N vs) H _ I go) (λfl s' hs=>?_) λe s' hs=>hs
 cases fl with
 | ret u=>obtain⟨v,σ',H',I',rv,q⟩:=hs;exact⟨v,H',I'.os,I'.bare,I'.base,I'.hok,rv,q⟩
 | next=>obtain⟨σ',H',I',q⟩:=hs;exact⟨.aF,H',I'.os,I'.bare,I'.base,I'.hok,rfl,q⟩
 | brk=>obtain⟨_,_,_,q⟩:=hs;exact False.elim q
 | cont=>obtain⟨_,_,_,q⟩:=hs;exact False.elim q
end
section
variable {X:Cx}
theorem Bt{k n:Nat}{f:WN}{fd:WQ}{ps:List Str}{F:List Wv->Hs->Re Wv}{x:Str}{p pos:Pos}{e:Expr}{es:List Expr}{g:GA}
  (G:Bs X.prog X.w X.K X.mg X.base k f fd ps (spW X.K n F))(hr:eC k X.A)(hH:uV X)(hm:X.mg x=some (.ref f))(hk:PySem.W.keepIn X.K (.ref f)=true)(hb:Binds X.K fd ps [])(ha:JA X (e::es) g)(hg:Gl X x)
  (hdb:(x == ("__debug__":Str))=false)(he:W7 (e::es) X.env=(false,eval e X.env)::W7 es X.env)(hpl:(backTo pos (W7 es X.env)).any (·.1)=false) :
  JE X (.Call (.Name x p) (e::es) [] pos) (ax n F g):=by
 intro ρ st σ H m Q S R p pins s I
 have args:=ha.go (T:=λvs H1=>∃ws st1 m1,dj X σ m H (if ws.length=n then F ws st1 else .bad) Q/\Ext X.K m H m1 H1/\aL X.K m1 st1 H1/\ah X.K m1 H1 ws vs) S R (aq.bind p)
  λws st1 vs m1 H1 p1 e1 S1 rs=>⟨ws,st1,m1,p1,e1,S1,rs⟩
 refine wpAny_Call_Name_kw (jO I hg hm ?_ hdb)
 refine PySem.W.callWith_K (h₀:=X.base) I.ok.mod.GP hk (aM (args pos pins s I) λus s1 ⟨vs,H1,I1,r,ws,st1,m1,p1,e1,S1,rs⟩=>⟨I1.zj,?_⟩) he hpl
 by_cases c:ws.length=n
 ·rw[if_pos c] at p1
  let E:XK:=λcl _ H2=>∃c' st2 m2 C,cl= .ref C/\ClsAt X.K c' C/\F ws st1= .err c' st2/\Ext X.K m1 H1 m2 H2/\aL X.K m2 st2 H2
  have sp:spW X.K n F vs H1 Q E:=by
   refine⟨m1,st1,ws,S1,rs,c,?_⟩
   cases er:F ws st1 with
   | ok w st2=>rw[er] at p1;exact dj.shift (r:=.ok w st2) p1 e1
   | err c' st2=>exact λm2 H2 C e2 S2 hC=>⟨c',st2,m2,C,rfl,hC,er,e2,S2⟩
   | bad=>rw[er] at p1;exact False.elim p1
  have hl:us.length=ps.length:=by rw[<-r.length];exact G.n _ _ _ _ sp
  have bd:=hb s1 us I1.zj (by rw[List.append_nil];exact hl)
  rw[List.append_nil] at bd
  refine wpAny_call (codeAny_mono (G.go X.A X.stack s1 H1 ⟨us,[]⟩ us vs Q E hr (hH.at I1) I1.Li bd r sp) λrr s2 hq=>?_)
  cases rr with
  | error x=>
   obtain⟨H2,C,fl,c',st2,m2,C',ec,hC,er,e2,S2⟩:=hq
   cases ec
   rw[er] at p1
   exact p1 m2 H2 x s2 (e1.trans e2) S2 ⟨C,pins,H1,s1,hC,I1,.inl fl.any⟩
  | ok fw=>
   cases fw with
   | ret u=>exact I1.after hq
   | next=>exact False.elim hq
   | brk=>exact False.elim hq
   | cont=>exact False.elim hq
 ·rw[if_neg c] at p1;exact False.elim p1
end
def sU(P:WS)(w:WV)(K:PySem.W.Frag)(mg:Str->Option WU)(base:Heap)(k:Nat)(x:Str)(n:Nat)(F:List Wv->Hs->Re Wv):Prop :=
 ∃f fd ps,Bs P w K mg base k f fd ps (spW K n F)/\mg x=some (.ref f)/\PySem.W.keepIn K (.ref f)=true/\Binds K fd ps []
theorem sU.mono{P:WS}{w:WV}{K:PySem.W.Frag}{mg:Str->Option WU}{base:Heap}{j k:Nat}{x:Str}{n:Nat}{F:List Wv->Hs->Re Wv}(h:sU P w K mg base j x n F)(l:j<=k):sU P w K mg base k x n F:=by
 obtain⟨f,fd,ps,G,r⟩:=h
 exact⟨f,fd,ps,⟨G.n,λA outer s H args us vs Q E hr=>G.go A outer s H args us vs Q E (hr.less l)⟩,r⟩
end J
namespace J
open PySem PySem.Spec PyProof.Rows L2
section
variable {X:Cx}
end
end J
namespace J
open PySem PySem.Spec PyProof.Rows L2
section
variable {X:Cx}
end
end J
namespace J
open PySem PySem.Spec PyProof.Rows L2
abbrev RP:=Option (Nat×List Wv)×List Wv
def Bu(c:Option (Nat×List Wv))(st:Hs):Prop:=match c with
 | some (l,ws)=>af st l=some ws
 | none=>True
structure Je(X:Cx)(w:RP)(m1:Mp)(H1:Hp)(J':It):Prop where
 go:∀(k:Nat)(H:Hp)(m':Mp)(st:Hs),Ext X.K m1 H1 m' H->aL X.K m' st H->Bu w.1 st->k < w.2.length->J'.go k H
 stop:∀(k:Nat)(H:Hp)(m':Mp)(st:Hs),Ext X.K m1 H1 m' H->aL X.K m' st H->Bu w.1 st->k=w.2.length->J'.stop k H
 rK:∀(k:Nat)(hk:k < w.2.length)(H:Hp)(v:V)(H':Hp)(m':Mp)(st:Hs),Ext X.K m1 H1 m' H->aL X.K m' st H->Bu w.1 st->J'.rK k H v H'->Ext X.K m' H m' H'/\aL X.K m' st H'/\ag X.K m' H' w.2[k] v
abbrev MB:=aT->Hs->Re RP
def PM(X:Cx)(tg iter:Expr)(gi:MB):Prop:=∃wi,PI X tg iter wi/\∀(ρ:aT)(st:Hs)(σ:St)(H:Hp)(m:Mp)(R:It->Hp->Prop),aL X.K m st H->ar X.K m H ρ σ->
 aq X σ m H (gi ρ st) (λw st1=>∀(m1:Mp)(H1:Hp)(J':It),Ext X.K m H m1 H1->aL X.K m1 st1 H1->Bu w.1 st1->Je X w m1 H1 J'->R J' H1)->wi σ H R
section
variable {X:Cx}
theorem Jf{tg iter:Expr}{gi:GI}(h:JI X tg iter gi):PM X tg iter (λρ st=>(gi ρ st).bind λw st1=> .ok (w.1.map λl=>(l,w.2),w.2) st1):=by
 obtain⟨wi,hp,hw⟩:=h
 refine⟨wi,hp,λρ st σ H m R S r p=>hw ρ st σ H m R S r ((aq.bind p).imp Ext.refl λw st1 q m1 H1 J' e1 S1 c1 yz=>?_)⟩
 obtain⟨o,ws⟩:=w
 have cc:∀st,Bu (o.map λl=>(l,ws)) st->iI (o,ws) st:=λst c=>by cases o<;>exact c
 have Uz:iI (o,ws) st1->Bu (o.map λl=>(l,ws)) st1:=λc=>by cases o<;>exact c
 refine q m1 H1 J' e1 S1 (Uz c1) ⟨λk H2 m' st2 e S2 c=>yz.go k H2 m' st2 e S2 (cc _ c),λk H2 m' st2 e S2 c=>yz.stop k H2 m' st2 e S2 (cc _ c),λk hk H2 v H3 m' st2 e S2 c y=>?_⟩
 obtain⟨rfl,rr⟩:=yz.rK k hk H2 v H3 m' st2 e S2 (cc _ c) y
 exact⟨Ext.refl,S2,rr⟩
end
open Classical in
def sV(is:List Nat)(gb:GS)(c:Option (Nat×List Wv)):List Wv->aT->Hs->Rs
 | [],ρ,st=> .nx ρ st
 | w::r,ρ,st=>match KG is w ρ with
  | none=> .bad
  | some ρ1=>match gb ρ1 st with
   | .nx ρ' st'=>if Bu c st' then sV is gb c r ρ' st' else .bad
   | .ct ρ' st'=>if Bu c st' then sV is gb c r ρ' st' else .bad
   | .bk ρ' st'=> .nx ρ' st'
   | .rt w st'=> .rt w st'
   | .err c ρ' st'=> .err c ρ' st'
   | .bad=> .bad
def Gg(is:List Nat)(gi:MB)(gb:GS):GS:=λρ st=>(gi ρ st).aM ρ λw st1=>sV is gb w.1 w.2 ρ st1
section
variable {X:Cx}
theorem EC{es:List Expr}{is:List Nat}{k:Nat}{iter:Expr}{body:List Stmt}{gi:MB}{gb:GS}{pos pos':Pos}(hN:X.N.Nodup)(hp:PassesOwn (model X.prog X.w) X.A X.env X.xe)(hc:X.calm=true)(sl:Slots X es is)(hi:PM X (.Tuple es k pos') iter gi)(hb:jl X body gb)
  (hs:∀x,W3 iter X.env x=pure x):JS X (.For (.Tuple es k pos') iter body [] pos) (Gg is gi gb):=by
 obtain⟨wi,Pn,hw⟩:=hi
 refine JS.of (kH hp hc Pn (uv hc (iX hN sl) (j6 sl) (iY sl)) cK hs) λρ st σ H m D S R p=>?_
 refine hw ρ st σ H m _ S R ((aw.bB R p).imp Ext.refl λw st1 p1 m1 H1 J' e1 S1 c1 yz=>?_)
 obtain⟨cc,ws⟩:=w
 let Pv:Nat->St->Hp->Prop:=λk σ H=>∃ρ st m',Ext X.K m1 H1 m' H/\aL X.K m' st H/\ar X.K m' H ρ σ/\Bu cc st/\aw X m' H (sV is gb cc (ws.drop k) ρ st) D
 refine⟨λk n σ H=>n=ws.length - k/\k<=ws.length/\Pv k σ H,⟨ws.length,by simp,Nat.zero_le _,ρ,st1,m1,Ext.refl,S1,R.mono e1,c1,aw.shift p1 e1⟩,?_⟩
 rintro k n σ2 H2 ⟨rfl,hk,ρ2,st2,m2,e2,S2,R2,c2,p2⟩
 by_cases hlt:k < ws.length
 ·refine .inr ⟨yz.go k H2 m2 st2 e2 S2 c2 hlt,Pv (k+1),λσ' H' p'=>⟨ws.length - (k+1),by omega,rfl,hlt,p'⟩,λx H' y=>?_⟩
  obtain⟨eY,UA,kK⟩:=yz.rK k hlt H2 x H' m2 st2 e2 S2 c2 y
  have ed:ws.drop k=ws[k]::ws.drop (k+1):=List.drop_eq_getElem_cons hlt
  rw[ed] at p2
  unfold sV at p2
  replace p2:=aw.shift p2 eY
  have UB:=R2.mono eY
  have yw:=e2.trans eY
  have PN:ag X.K m2 H' ws[k] x:=kK
  cases eb:ws[k] with
  | tup us=>
   rw[eb] at p2 PN
   dsimp only[KG] at p2
   cases e5:sv is us ρ2 with
   | none=>rw[e5] at p2;exact False.elim p2
   | some ρ5=>
    rw[e5] at p2
    dsimp only at p2
    unfold ag at PN
    obtain⟨b,ys,rfl,f1,f2⟩:=PN
    refine⟨b,ys,rfl,dU.of f1,by rw[<-f2.length];exact j5 e5,jZ f2 UB e5 λσ5 R5=>?_⟩
    refine hb _ st2 _ _ m2 _ UA R5 ?_
    cases eg:gb ρ5 st2 with
    | nx ρ3 st3=>
     rw[eg] at p2
     by_cases c:Bu cc st3
     ·simp only[if_pos c] at p2
      exact λσ3 m3 H3 e3 S3 R3=>⟨ρ3,st3,m3,yw.trans e3,S3,R3,c,aw.shift p2 e3⟩
     ·simp only[if_neg c] at p2;exact False.elim p2
    | ct ρ3 st3=>
     rw[eg] at p2
     by_cases c:Bu cc st3
     ·simp only[if_pos c] at p2
      exact λσ3 m3 H3 e3 S3 R3=>⟨ρ3,st3,m3,yw.trans e3,S3,R3,c,aw.shift p2 e3⟩
     ·simp only[if_neg c] at p2;exact False.elim p2
    | bk ρ3 st3=>rw[eg] at p2;exact p2
    | rt w3 st3=>rw[eg] at p2;exact p2
    | err c3 ρ3 st3=>rw[eg] at p2;exact p2
    | bad=>rw[eg] at p2;exact p2
  | _=>rw[eb] at p2;exact False.elim p2
 ·have e:k=ws.length:=by omega
  subst e
  rw[List.drop_length] at p2
  exact .inl ⟨yz.stop _ H2 m2 st2 e2 S2 c2 rfl,p2 σ2 m2 H2 Ext.refl S2 R2⟩
end
end J
namespace J
open PySem PySem.Spec PyProof.Rows L2
open Classical in
structure NI(X:Cx)(scope:Scope)(x:Str)(xr:List Str)(cs:e8):Prop where
 one:cQ X scope x cs
 var:∀y∈x::xr,scope.names.lookup y=some .local
 nd:((x::xr)++cs.map (·.1)).Nodup
inductive nu:List Expr->List Str->Prop
 | nil:nu [] []
 | cons {x:Str} {p:Pos} {es:List Expr} {xs:List Str}:nu es xs->nu (.Name x p::es) (x::xs)
section
variable {X:Cx} {pins:List (WN×Obj)} {σ:St} {H:Hp} {s:WT} {scope:Scope} {x:Str} {xr:List Str} {cs:e8}
end
section
variable {prog:WS} {w:WV} {A:WO} {R:Result->WT->Prop} {s:WT}
end
section
variable {X:Cx}
end
end J
namespace J
open PySem PySem.Spec PyProof.Rows L2
section
variable {X:Cx}
end
section
open PySem.SeqAt PySem.MeetsSeq PySem.MeetsSeq2 PySem.MeetsSeq3
end
section
variable {X:Cx}
end
end J
namespace J
open PySem PySem.Spec PyProof.Rows L2
section
variable {X:Cx}
inductive PQ(X:Cx):List Expr->List GE->Prop
 | nil:PQ X [] []
 | cons {e:Expr} {g:GE} {es:List Expr} {gs:List GE}:JE X e g->PQ X es gs->PQ X (e::es) (g::gs)
end
section
variable {X:Cx}
end
section
variable {X:Cx}
theorem Bv:dm X (WX .Mult) (λx y H Q=>∃z n,x= .str z/\y= .int n/\(n=0\/n=1)/\Q (.str (if n=0 then PySem.Str.empty else z)) H):=by
 intro pins s σ H x y v u Q I rx ry h
 obtain⟨z,n,rfl,rfl,hn,q⟩:=h
 obtain⟨t,rfl⟩:=rx
 obtain⟨t',rfl⟩:=ry
 rcases hn with rfl | rfl
 ·exact PySem.P.mul_str_none (by omega) (by omega) ⟨.str PySem.Str.empty,H,I.tok _,⟨_,rfl⟩,q⟩
 ·refine PySem.P.mul_str (by decide) (λ_ h=>by cases h) (λ_ h=>by cases h) ?_
  rw[if_neg (by omega),if_pos (by rfl)]
  exact⟨.str z,H,I,⟨t,rfl⟩,q⟩
def cD:eE:=λx y st=>match x,y with
 | .str z,.int n=>if n=0\/n=1 then .ok (.str (if n=0 then PySem.Str.empty else z)) st else m8 (.str z) (.int n) st
 | x,y=>m8 x y st
theorem Bw:iT X (WX .Mult) cD:=by
 obtain⟨r,h1,h2⟩:=Ef (X:=X)
 refine⟨_,dm.or Bv h1,λx y a b st H m Q S rx ry p=>?_⟩
 cases x with
 | str z=>
  cases y with
  | int n=>
   have p':bP X.K m H (if n=0\/n=1 then .ok (.str (if n=0 then PySem.Str.empty else z)) st else m8 (.str z) (.int n) st) Q:=p
   by_cases c:n=0\/n=1
   ·rw[if_pos c] at p'
    obtain⟨rfl,ok⟩:=dq rx
    refine .inl ⟨z,n,rfl,aG ry,c,p' _ m H Ext.refl S (mkStr ?_)⟩
    by_cases c0:n=0
    ·rw[if_pos c0];decide+kernel
    ·rw[if_neg c0];exact ok
   ·rw[if_neg c] at p'
    exact .inr (h2 _ _ _ _ st H m Q S rx ry p')
  | _=>exact .inr (h2 _ _ _ _ st H m Q S rx ry p)
 | _=>exact .inr (h2 _ _ _ _ st H m Q S rx ry p)
end
end J
namespace J
open PySem PySem.Spec PyProof.Rows L2
abbrev LF:=List Wv->List Wv->Hs->Re Wv
section
variable {X:Cx} {pins:List (WN×Obj)} {σ:St} {H:Hp} {s:WT}
end
def UC(K:PySem.W.Frag)(n:Nat)(p:Lm)(L:LF):Sp:=λvs H Q E=>∃m st ws caps,aL K m st H/\ah K m H ws vs/\ah K m H caps p.xs/\H p.c=some (.ext (Ag p.c p.q))/\ws.length=n/\F6 K m H (L caps ws st) Q E
def Jg(P:WS)(w:WV)(K:PySem.W.Frag)(mg:Str->Option WU)(base:Heap)(k:Nat)(p:Lm)(n:Nat)(L:LF):Prop :=
 ∃fd ps ob,FnOk P w K mg base (CXJ P w) k p.a fd ps (UC K n p L)/\base.get? p.a=some ob/\ob.data= .func fd/\Binds K fd ps []
open Classical in
section
variable {X:Cx}
end
def freeOf(sc:Scope):List Str:=(sc.names.filter λp=>decide (p.2= .free)).map (·.1)
structure RQ(sc:Scope)(x1 x2 x3 y:Str):Prop where
 kind:sc.kind= .function
 co:sc.isCoroutine=false
 gen:sc.isGenerator=false
 PR:∀p∈sc.names,p.2≠.cell
 p1:sc.names.lookup x1=some .local
 p2:sc.names.lookup x2=some .local
 p3:sc.names.lookup x3=some .local
 fr:freeOf sc=[y]
 fy:sc.names.lookup y=some .free
 nd:[x1,x2,x3,y].Nodup
end J
namespace J
open PySem PySem.Spec PyProof.Rows L2
section
variable {P:WS} {w:WV} {K:PySem.W.Frag} {mg:Str->Option WU} {base:Heap} {p:Lm} {scope:Scope} {x1 x2 x3 y:Str} {cy:WN}
end
end J
namespace J
open PySem PySem.Spec PyProof.Rows L2
structure Gh(X:Cx)(q:Str)(P:WN):Prop where
 code:∃c,X.env.code= .ref c/\PySem.W.CodeHd X.base c P
 qual:X.env.qual=q++".<locals>."
 tab:gF X.K q=some P
 mem:q∈bO
 uniq:∀q',q'∈bO->gF X.K q'=some P->q'=q
 bm:∃bm ob,X.mg "__builtins__"=some (.ref bm)/\bm≠builtinsNs/\bm≠W5/\X.base.get? bm=some ob/\ob.cls= .type "module"/\ob.dict=some builtinsNs/\ob.data= .plain
section
variable {X:Cx} {pins:List (WN×Obj)} {σ:St} {H:Hp} {s:WT} {q:Str} {P:WN}
end
end J
namespace J
open PySem PySem.Spec PyProof.Rows L2
abbrev RS:=Lm->LF->List Wv->Hs->Re Wv
def PU(mg:Str->Option WU)(base:Heap):Prop:=∃bm ob,mg "__builtins__"=some (.ref bm)/\bm≠builtinsNs/\bm≠W5/\base.get? bm=some ob/\ob.cls= .type "module"/\ob.dict=some builtinsNs/\ob.data= .plain
def Bx(K:PySem.W.Frag)(mg:Str->Option WU)(base:Heap):Prop:=Mod K mg base/\PU mg base
def RT(P:WS)(w:WV)(K:PySem.W.Frag)(mg:Str->Option WU)(k j:Nat)(x:Str)(FL:RS):Prop :=
 (∃f,mg x=some (.ref f)/\PySem.W.keepIn K (.ref f)=true)/\∀(base:Heap)(p:Lm)(L:LF),Bx K mg base->Jg P w K mg base (j+1) p 3 L->fB P w K mg base k x 2 (FL p L)
section
variable {X:Cx}
end
end J
namespace J
open PySem PySem.Spec PyProof.Rows L2
section
variable {P:WS} {w:WV} {A:WO} {E:WU->WT->Prop} {s:WT}
structure Zd(z T O j1 j2 j3 t1 t2 t3:WN):Prop where
 nd:[z,T,O,j1,j2,j3].Nodup
 a1:t1∉[z,O,j1,j2,j3]
 a2:t2∉[z,O,j1,j2,j3]
 a3:t3∉[z,O,j1,j2,j3]
end
end J
namespace J
open PySem PySem.Spec PyProof.Rows L2
abbrev zA(h:Heap)(t1:WN):Heap:=h.push { cls:=.type "tuple_iterator",data:=.fields #[.ref t1,.int 0 0] }
abbrev zB(h:Heap)(t1 t2:WN):Heap:=zA (zA h t1) t2
abbrev zC(h:Heap)(t1 t2 t3:WN):Heap:=zA (zB h t1 t2) t3
abbrev zD(h:Heap)(t1 t2 t3:WN):Heap:=(zC h t1 t2 t3).push { cls:=.type "tuple",data:=.seq #[.ref h.objs.size,.ref (zA h t1).objs.size,.ref (zB h t1 t2).objs.size] }
section
variable {P:WS} {w:WV} {A:WO} {E:WU->WT->Prop} {s:WT}
end
section
variable {P:WS} {w:WV} {A:WO} {E:WU->WT->Prop} {s:WT}
end
end J
namespace J
open PySem PySem.Spec PyProof.Rows L2
section
variable {X:Cx}
end
end J
namespace J
open PySem PySem.Spec PyProof.Rows L2
def UD(a b c:Int):Prop:=0<=a/\a < 2 ^ 30/\0<=b/\b < 2 ^ 30/\1<=c/\c < 2 ^ 30
instance {a b c}:Decidable (UD a b c):=Classical.propDecidable _
section
variable {X:Cx} {tg:Expr}
end
end J
namespace J
open PySem PySem.Spec PyProof.Rows L2
section
variable {X:Cx}
end
end J
namespace J
open PySem PySem.Spec PyProof.Rows L2
def ur(gt:GT)(gb:GS):Nat->aT->Hs->Rs
 | 0,_,_=> .bad
 | n+1,ρ,st=>(gt ρ st).aM ρ λb st1=>if b=true then(match gb ρ st1 with
   | .nx ρ' st'=>ur gt gb n ρ' st'
   | .ct ρ' st'=>ur gt gb n ρ' st'
   | .bk ρ' st'=> .nx ρ' st'
   | .rt w st'=> .rt w st'
   | .err c ρ' st'=> .err c ρ' st'
   | .bad=> .bad) else .nx ρ st1
def iJ(n:Nat)(gt:GT)(gb:GS):GS:=λρ st=>ur gt gb n ρ st
section
variable {X:Cx}
theorem By(n:Nat){c:Expr}{body:List Stmt}{gt:GT}{gb:GS}{pos:Pos}(hp:PassesOwn (model X.prog X.w) X.A X.env X.xe)(hc:JT X c gt)(hb:jl X body gb):JS X (.While c body [] pos) (iJ n gt gb):=by
 refine JS.of (zH hp lB cK) λρ st σ H m D S R p=>?_
 refine⟨λk σ' H'=>∃ρ' st' m',Ext X.K m H m' H'/\aL X.K m' st' H'/\ar X.K m' H' ρ' σ'/\aw X m' H' (ur gt gb k ρ' st') D,⟨n,ρ,st,m,Ext.refl,S,R,p⟩,?_⟩
 rintro k σ1 H1 ⟨ρ1,st1,m1,e1,S1,R1,p1⟩
 cases k with
 | zero=>exact False.elim p1
 | succ k=>
  refine hc.go S1 R1 (aw.bB R1 p1) λb st2 m2 H2 p2 e2 S2=>?_
  cases b with
  | false=>
   rw[if_neg Bool.false_ne_true] at p2 ⊢
   exact p2 σ1 m2 H2 e2 S2 (R1.mono e2)
  | true=>
   rw[if_pos rfl] at p2 ⊢
   refine⟨λσ' H'=>∃ρ' st' m',Ext X.K m H m' H'/\aL X.K m' st' H'/\ar X.K m' H' ρ' σ'/\aw X m' H' (ur gt gb k ρ' st') D,λσ' H' q=>⟨k,Nat.lt_succ_self k,q⟩,?_⟩
   refine hb ρ1 st2 σ1 H2 m2 _ S2 (R1.mono e2) ?_
   have RU:=e1.trans e2
   cases eg:gb ρ1 st2 with
   | nx ρ3 st3=>rw[eg] at p2;exact λσ3 m3 H3 e3 S3 R3=>⟨ρ3,st3,m3,RU.trans e3,S3,R3,aw.shift p2 (e2.trans e3)⟩
   | ct ρ3 st3=>rw[eg] at p2;exact λσ3 m3 H3 e3 S3 R3=>⟨ρ3,st3,m3,RU.trans e3,S3,R3,aw.shift p2 (e2.trans e3)⟩
   | bk ρ3 st3=>rw[eg] at p2;exact λσ3 m3 H3 e3 S3 R3=>p2 σ3 m3 H3 (e2.trans e3) S3 R3
   | rt w3 st3=>rw[eg] at p2;exact aw.shift (r:=.rt w3 st3) p2 e2
   | err c3 ρ3 st3=>rw[eg] at p2;exact λσ' m' H' x s' e'=>p2 σ' m' H' x s' (e2.trans e')
   | bad=>rw[eg] at p2;exact p2
end
end J
namespace J
open PySem PySem.Spec PyProof.Rows L2
theorem ED(l:WN)(items:Array WU)(n:Nat)(b:WN)(items2:Array WU)(n2:Nat)(dd:Option WN)(sl:Array (Option WU))(hs0:¬(!items.isEmpty&&Builtin.List.listTooLong (items.size+items2.size))=true)(hs1:items.size<=W6)(hs2:items.size+items2.size<=W6+1) :
  Meets (Builtin.«list.extend» ⟨[.ref l,.ref b],[]⟩) (λ_ R s=>s.heap.get? l=some { cls:=.type "list",dict:=none,data:=.seq items n,slots:=#[] }/\s.heap.get? b=some ⟨.type "tuple",dd,.seq items2 n2,sl⟩/\R (.ok (.ret Value.none)) { s with heap:=s.heap.update l (Obj.mapSeq λx=>x++items2),toks:=s.toks }) :=
 .of_wp λprog w A R s h=>by
  obtain⟨hp,g,d,tk,os⟩:=s;obtain⟨hl,hb,h⟩:=h;have f1:=AutoSeq1.idx_int;have f2:=AutoSeq1.sub_tuple_tuple;have f3:=AutoSeq1.sub_list_list;have f4:=AutoSeq1.sub_tuple_list;have f5:=AutoSeq1.sub_list_tuple;
  have hz':(items++items2).size<=W6+1:=by rw[Array.size_append];exact hs2
  wp_walk using (wpAny_updateSeq hl rfl (hz:=hs1) (_hz':=hz')),wpAny_loadPart' hl,wpAny_loadPart' hb;exact⟨_,rfl,h⟩
def sW(K:PySem.W.Frag):V->List V->Hp->VK->Prop:=λx vs H Q=>∃l b xs zs,x= .ref l/\vs=[.ref b]/\H l=some (.lst xs)/\dU K H b zs/\xs.length+zs.length<=W6/\Q .aF (upd H l (.lst (xs++zs)))
section
variable {X:Cx}
theorem vg:Lx X "list.extend" (sW X.K):=by
 intro pins s σ H x vs v us Q I rx rv h
 obtain⟨l,b,xs,zs,rfl,rfl,hH,hB,hz,q⟩:=h
 cases rx
 obtain⟨u,rfl,ru⟩:=rv.one
 cases ru
 obtain⟨z,its,n,r,hl,e⟩:=I.xT hH
 obtain⟨its2,r2,⟨o,e2,oc,n2,od⟩,z2⟩:=I.tuple hB
 obtain⟨Wx,dd,od',sl⟩:=o
 dsimp only at oc od
 subst oc od
 have l1:xs.length=its.length:=r.length
 have l2:zs.length=its2.length:=r2.length
 have hsz:its.toArray.size+its2.toArray.size<=W6:=by rw[List.size_toArray,List.size_toArray];omega
 have rO:¬(!its.toArray.isEmpty&&Builtin.List.listTooLong (its.toArray.size+its2.toArray.size))=true:=by
  rw[mO hsz,Bool.and_false]
  exact Bool.false_ne_true
 refine call_meets F.slot_list_extend ⟨_,e,rfl⟩ F.entry_list_extend (F.args_list_extend_2 _ _)
  (ED l its.toArray n b its2.toArray n2 dd sl rO (by rw[List.size_toArray];omega) (by omega)) ⟨e,e2,?_⟩
 refine⟨.aF,_,I.DB (its':=its++its2) hH e (by simp) (r.append r2) ?_,rfl,q⟩
 rw[List.length_append]
 omega
def nB(o v:Wv)(st:Hs):Re Wv:=match v with
 | .tup zs=>(match o with
  | .ref l=>(match st[l]? with
   | some (.lst ws)=>if ws.length+zs.length<=lim then .ok .aF (st.set l (.lst (ws++zs))) else .bad
   | _=> .bad)
  | _=> .bad)
 | v=>Mf o v st
theorem EE:NA X "list.extend" nB:=by
 obtain⟨r0,m0,h0⟩:=Iw (X:=X)
 refine⟨λx vs H Q=>r0 x vs H Q\/sW X.K x vs H Q,?_,λo w x v st H m Q S ro rw' p=>?_⟩
 ·intro pins s σ H x vs v us Q I rx rv h
  rcases h with h | h
  ·exact m0 pins s σ H x vs v us Q I rx rv h
  ·exact vg pins s σ H x vs v us Q I rx rv h
 ·cases w with
  | tup zs=>
   refine .inr ?_
   cases o with
   | ref l=>
    unfold ag at ro rw'
    obtain⟨a,rfl,ha⟩:=ro
    obtain⟨b,ys,rfl,hb,g2⟩:=rw'
    have p':bP X.K m H (match st[l]? with | some (.lst ws)=>if ws.length+zs.length<=lim then .ok .aF (st.set l (.lst (ws++zs))) else .bad | _=> .bad) Q:=p
    cases e:st[l]? with
    | none=>rw[e] at p';exact False.elim p'
    | some ob=>
     cases ob with
     | dct kvs=>rw[e] at p';exact False.elim p'
     | bh kvs=>rw[e] at p';exact False.elim p'
     | jL kvs=>rw[e] at p';exact False.elim p'
     | jW ns=>rw[e] at p';exact False.elim p'
     | lst ws=>
      rw[e] at p'
      dsimp only at p'
      by_cases c:ws.length+zs.length<=lim
      ·rw[if_pos c] at p'
       obtain⟨xs,h1,h2⟩:=S.mR ha e
       have e4:Ext X.K m H m (upd H a (.lst (xs++ys))):=Ext.upd (.inr ⟨xs,h1⟩)
       exact⟨a,b,xs,ys,rfl,rfl,h1,dU.of hb,by rw[<-h2.length,<-g2.length];exact cP c,p' _ m _ e4 (S.write ha e (h2.append g2)) pB⟩
      ·rw[if_neg c] at p';exact False.elim p'
   | _=>exact False.elim p
  | _=>exact .inl (h0 o _ x v st H m Q S ro rw' p)
end
section
variable {X:Cx}
end
end J
namespace J
open PySem PySem.Spec PyProof.Rows L2
theorem oG:entryFor table "proto.unchain"=some Builtin.«proto.unchain»:=entryFor_of_fast (by kernel_rfl)
section
variable {prog:WS} {w:WV} {A:WO} {E:WU->WT->Prop} {s:WT}
theorem vh{b:WN}{o:Obj}{vs:Array WU}{e:WU}{Q:WU->WT->Prop}(h1:s.heap.get? b=some o)(h2:o.data= .fields vs)(h3:vs[2]? =some Value.none)(k:Q .none s) :
  W8 (model prog w) A (runValue (.builtin "proto.unchain" ⟨[e,.ref b,.ref b,.bool false],[]⟩)) Q E s:=by
 refine wpAny_runValue (codeAny_builtin oG ?_)
 unfold Builtin.«proto.unchain»
 refine(show W8 _ _ (field (.ref b) 2 >>= _) _ _ s from W9 (wpAny_field h1 h2 h3 ?_))
 rw[if_pos (by rfl)]
 exact Xe k
theorem vi{it b:WN}{o:Obj}{vs:Array WU}{x left step:Int}{Q:Option WU->WT->Prop}(hh:A.handled=some (.ref b))(h1:s.heap.get? b=some o)(h2:o.data= .fields vs)(h3:vs[2]? =some Value.none)(hit:IsRangeIter s.heap it x left step)(hl:left<=0)
  (k:∀h',Heap.ExtBut it s.heap h'->Q none { s with heap:=h' }):W8 (model prog w) A (pyNext (.ref it)) Q E s:=by
 have ty:s.TypeIs (.ref it) "range_iterator":=⟨_,hit,rfl⟩
 unfold pyNext
 refine W9 (wpAny_attempt (wpAny_callSpecial?_slot (name:=Str.ofString "__next__") ty PySem.F.slot_range_iterator_next (wpAny_call_entry PySem.F.slot_range_iterator_next ty PySem.F.entry_range_iterator_next ?_ (PySem.F.args_range_iterator_next_1 _))))
 refine(show W8 _ _ (field (.ref it) 0 >>= _) _ _ s from W9 (wpAny_field hit rfl (x:=rawInt x) rfl ?_))
 refine(show W8 _ _ (field (.ref it) 1 >>= _) _ _ s from W9 (wpAny_field hit rfl (x:=rawInt left) rfl ?_))
 refine(show W8 _ _ (field (.ref it) 2 >>= _) _ _ s from W9 (wpAny_field hit rfl (x:=rawInt step) rfl ?_))
 refine(show W8 _ _ (if left<=0 then _ else _) _ _ s from ?_)
 rw[if_pos hl]
 refine W9 (wpAny_rule (W9 ?_))
 refine(show W8 _ _ (newExc (.type "StopIteration") [] >>= _) _ _ _ from ?_)
 simp only[newExc,newTuple,raiseNew]
 refine W9 (W9 (Xd (W9 (m:=firstArgMember _ _) (wpAny_of_eq (a:=Value.none) (by first | rfl | (simp only[firstArgMember];rfl)) (Xd ?_ (by size_fits)))) (by size_fits)))
 refine(W9 (wpAny_handled ?_))
 rw[show A.in1.handled=some (.ref b) from hh]
 dsimp only
 have lt:b≠(s.heap.push { cls:=.type "tuple",data:=.seq #[] }).objs.size:=λz=>by
  have q:=Heap.lt_size (Heap.get?_push_of_some (h:=s.heap) { cls:=.type "tuple",data:=.seq #[] } h1)
  rw[<-z] at q
  exact Nat.lt_irrefl _ q
 rw[if_pos (by simpa using lt)]
 refine W9 (W' (vh (Heap.get?_push_of_some _ (Heap.get?_push_of_some _ h1)) h2 h3 ?_))
 refine W9 ((show W8 (model prog w) A.in1 (setField (.ref (s.heap.push { cls:=.type "tuple",data:=.seq #[] }).objs.size) 2 (.ref b)) _ _ _ from wpAny_setField (Heap.get?_push_size _ rfl) rfl (by simp[ownMembersOf]) (wpAny_throw ?_)))
 refine W9 (wpAny_isInstance (b:=true) (T:="StopIteration") ⟨_,Heap.get?_update_self _ (Heap.get?_push_size _ rfl) rfl,rfl⟩ isSubtype_stop (Xe ?_))
 refine k _ λc q hc e=>?_
 have e':((s.heap.push { cls:=.type "tuple",data:=.seq #[] }).push { cls:=Value.type "StopIteration",data:=.fields (#[.ref s.heap.objs.size,.none,.none,.none,.bool false,.none]++ownMembersOf (.type "StopIteration") []) }).get? c=some q:=(((Heap.ExtBut.refl it s.heap).push _).push _) c q hc e
 have ne:c≠(s.heap.push { cls:=.type "tuple",data:=.seq #[] }).objs.size:=λz=>by
  have q':=Heap.lt_size (Heap.get?_push_of_some (h:=s.heap) { cls:=.type "tuple",data:=.seq #[] } e)
  rw[<-z] at q'
  exact Nat.lt_irrefl _ q'
 exact(Heap.get?_update_other _ _ (Ne.symm ne)).trans e'
end
theorem Bz{X:Cx}(h:uV X):KH uV X:=λ_ _ _ _ _ _ _ _ I=>h.at I
theorem sZ{P:WS}{w:WV}{K:PySem.W.Frag}{tg:Expr}(it:WN)(lo:Int)(n:Nat):wz uV P w K tg (Dh lo n) [it] it (λi h=>IsRangeIter h it (lo+(i:Nat) * 1) ((n:Int) - (i:Nat)) 1) where
 obj:=(gB (P:=P) (w:=w) (K:=K) (tg:=tg) it lo n).obj
 keep:=(gB (P:=P) (w:=w) (K:=K) (tg:=tg) it lo n).keep
 self:=(gB (P:=P) (w:=w) (K:=K) (tg:=tg) it lo n).self
 item:=by
  intro X hP hw hK hc i pins s σ H E I hf st hg
  subst hP hw hK
  have hg':i < n:=hg
  obtain⟨f0,f1,f2,f3,f4,f5⟩:=hf it (by simp)
  refine wpAny_pyNext_range_item st (by omega) λh' st' sb=>?_
  have st2:IsRangeIter h' it (lo+((i+1:Nat):Int) * 1) ((n:Int) - ((i+1:Nat):Int)) 1:=by
   have e1:lo+((i+1:Nat):Int) * 1=lo+(i:Int) * 1+1:=by push_cast;omega
   have e2:(n:Int) - ((i+1:Nat):Int)=(n:Int) - (i:Int) - 1:=by push_cast;omega
   rw[e1,e2];exact st'
  have I1:Inv X pins σ H { s with heap:=h',toks:=s.toks+1 }:=I.turned (λb o hb e=>sb.extBut b o hb e) f0 f1 f3 f4 f5
  exact⟨_,rfl,lq (s:={ s with heap:=h',toks:=s.toks+1 }) (n:="range_iterator") st2 rfl rfl (by decide) ⟨.int (lo+i),H,I1,⟨s.toks,by rw[Int.mul_one]⟩,⟨rfl,rfl⟩,st2,λb hb=>(hf b hb).1⟩⟩
 done:=by
  intro X hP hw hK hc i pins s σ H E I hf st hg
  subst hP hw hK
  have hg':n<=i:=hg
  obtain⟨f0,f1,f2,f3,f4,f5⟩:=hf it (by simp)
  rcases hc.at I with h0 | ⟨b,o,u,h1,⟨vs,d1,d2⟩,h3⟩
  ·exact wpAny_pyNext_range_end h0 st (by omega) λh' eb=>⟨rfl,I.turned (t':=s.toks) (λb o hb e=>eb b o hb e) f0 f1 f3 f4 f5⟩
  exact vi h1 (I.hok _ _ h3).1 d1 d2 st (by omega) λh' eb=>⟨rfl,I.turned (t':=s.toks) (λb o hb e=>eb b o hb e) f0 f1 f3 f4 f5⟩
section
variable {X:Cx} {tg:Expr}
theorem vj{a:Expr}{ta:TA}{p pos:Pos}(hg:Gl X "range")(hm:X.mg "range"=none)(ha:PA X [a] ta)(hs:W7 [a] X.env=[(false,eval a X.env)]):Pk uV X tg (.Call (.Name "range" p) [a] [] pos) (FH ta):=by
 intro pins s σ H R I h
 refine Call_ (iw I hg hm boot_range (PyProof.Rows.callWith_type1 (aM (ha pos pins s σ H _ I h) λus s1 ⟨vs,H1,I1,r1,j,e,q1,q2,q⟩=>?_) hs rfl))
 subst e
 obtain⟨u,rfl,t,rfl⟩:=vals1 r1
 refine call_range_1 (wpAny_pyIter_range (IsRange.new ..) (small_one (by omega) (by omega) q1 q2) ?_)
 generalize hh:s1.heap.push { cls:=.type "range",data:=.fields _ }=h2
 have I2:∀tk,Inv X pins σ H1 { s1 with heap:=h2,toks:=tk }:=λtk=>I1.kept λb o e=>by rw[<-hh];exact Heap.get?_push_of_some _ e
 refine⟨h2.objs.size,[h2.objs.size],_,Dh 0 j.toNat,H1,rfl,(I2 _).kept (t':=_) λb o e=>Heap.get?_push_of_some _ e,sZ _ 0 j.toNat,?_,λb hb=>?_,q⟩
 ·have e2:((j.toNat:Nat):Int) - ((0:Nat):Int)=Builtin.Range.rangeSize 0 j 1:=by rw[rangeSize_one];split<;>omega
  refine(show IsRangeIter _ _ ((0:Int)+((0:Nat):Int) * 1) (((j.toNat:Nat):Int) - ((0:Nat):Int)) 1 from ?_)
  rw[e2]
  exact Heap.get?_push_size _ rfl
 ·rw[List.mem_singleton.mp hb]
  exact(I2 s1.toks).rL (Nat.le_refl _) ((I2 s1.toks).hok.fresh (Nat.le_refl _))
theorem Jh{a:Expr}{ga:GA}{p q:Pos}(hg:Gl X "range")(hm:X.mg "range"=none)(ha:JA X [a] ga)(hst:W7 [a] X.env=[(false,eval a X.env)]):KN uV X tg (.Call (.Name "range" p) [a] [] q) (yx ga):=by
 refine⟨_,vj hg hm jk hst,λρ st σ H m Q S R p=>?_⟩
 refine ha.go S R (aq.bind p) λws st1 vs m1 H1 p1 e1 S1 rs=>?_
 match ws,rs,p1 with
 | [],rs,p1=>exact False.elim p1
 | x::y::t,rs,p1=>cases x<;>exact False.elim p1
 | [x],rs,p1=>
  obtain⟨v,rfl,r1⟩:=jd rs
  cases x with
  | int j=>
   cases aG r1
   unfold sF at p1
   by_cases c:je j
   ·simp only[if_pos c] at p1
    exact⟨j,rfl,c.1,c.2,p1 m1 H1 _ e1 S1 trivial A7⟩
   ·simp only[if_neg c] at p1;exact False.elim p1
  | _=>exact False.elim p1
end
section
variable {X:Cx} {a b c d:Expr} {pos:Pos}
end
end J
namespace J
open PySem PySem.Spec PyProof.Rows L2
section
variable {X:Cx} {pins:List (WN×Obj)} {σ:St} {E:WU->WT->Prop} {p:WN}
end
section
variable {X:Cx} {pos:Pos}
abbrev wO(K:PySem.W.Frag)(m:Mp)(H:Hp):List (Wv×Wv)->List (V×V)->Prop:=Paired λp q=>ag K m H p.1 q.1/\ag K m H p.2 q.2
theorem wO.mono{K:PySem.W.Frag}{m m1:Mp}{H H1:Hp}(e:Ext K m H m1 H1):∀{a:List (Wv×Wv)}{b:List (V×V)},wO K m H a b->wO K m1 H1 a b
 | _,_,.nil=> .nil
 | _,_,.cons h t=> .cons ⟨ag.mono e _ _ h.1,ag.mono e _ _ h.2⟩ (wO.mono e t)
end
def getD(d k:Wv)(st:Hs):Option Wv:=match d with
 | .ref l=>(match st[l]? with
  | some (.dct kvs)=>(match keyOf k with | some kk=>bT kvs kk | none=>none)
  | some (.bh kvs)=>(match qF k with | some kk=>bT kvs kk | none=>none)
  | some (.jL kvs)=>(match qF k with | some kk=>bT kvs kk | none=>none)
  | _=>none)
 | _=>none
def NJ(d k:Wv)(st:Hs):Re Wv:=match getD d k st with
 | some w=> .ok w st
 | none=> .bad
def s_(gd gk:GE):GE:=λρ st=>(gd ρ st).bind λd st1=>(gk ρ st1).bind λk st2=>NJ d k st2
section
variable {X:Cx}
theorem EF{m:Mp}{st:Hs}{H:Hp}{d k w:Wv}{x y:V}(S:aL X.K m st H)(rd:ag X.K m H d x)(rk:ag X.K m H k y)(e:getD d k st=some w):∃a v,x= .ref a/\oC H a y (some v)/\ag X.K m H w v:=by
 unfold getD at e
 cases d with
 | ref l=>
  dsimp only at e
  unfold ag at rd
  obtain⟨a,rfl,ha⟩:=rd
  cases e1:st[l]? with
  | none=>rw[e1] at e;cases e
  | some o=>
   rw[e1] at e
   cases o with
   | dct kvs=>
    dsimp only at e
    cases e2:keyOf k with
    | none=>rw[e2] at e;cases e
    | some kk=>
     rw[e2] at e
     obtain⟨xs,h1,h2⟩:=(show ∃ys,H a=some (.dK ys)/\RelK X.K m H kvs ys from S.obj _ _ _ ha e1)
     obtain⟨u,j1,j2⟩:=(h2.val kk).2 w e
     exact⟨a,u,rfl,by rw[kS rk e2,<-j1];exact oC.k h1,j2⟩
   | bh kvs=>
    dsimp only at e
    cases e2:qF k with
    | none=>rw[e2] at e;cases e
    | some kk=>
     rw[e2] at e
     obtain⟨xs,h1,h2⟩:=(show ∃ys,H a=some (.dT ys)/\RelK X.K m H kvs ys from S.obj _ _ _ ha e1)
     obtain⟨b,rfl,hb⟩:=nr rk e2
     obtain⟨u,j1,j2⟩:=(h2.val kk).2 w e
     exact⟨a,u,rfl,by rw[<-j1];exact oC.t h1 hb,j2⟩
   | jL kvs=>
    dsimp only at e
    cases e2:qF k with
    | none=>rw[e2] at e;cases e
    | some kk=>
     rw[e2] at e
     obtain⟨o,xs,h1,h2⟩:=(show ∃o ys,H a=some (.bU o (.dT ys))/\RelK X.K m H kvs ys from S.obj _ _ _ ha e1)
     obtain⟨b,rfl,hb⟩:=nr rk e2
     obtain⟨u,j1,j2⟩:=(h2.val kk).2 w e
     exact⟨a,u,rfl,by rw[<-j1];exact .inr ⟨xs,kk,b,.inr ⟨o,h1⟩,rfl,hb,rfl⟩,j2⟩
   | _=>cases e
 | _=>cases e
theorem EG{o i:Expr}{go gi:GE}{pos:Pos}(hu:X.A.units+1 < cLine)(ho:JE X o go)(hi:JE X i gi)(hs:z_ i):JE X (.Subscript o i pos) (s_ go gi) :=
 JE.of (DF hu aD aD hs) λρ st σ H m Q S R p=>by
  refine ho.go S R (aq.bind p) λd st1 v m1 H1 p1 e1 S1 rd=>?_
  refine hi.go S1 (R.mono e1) ((aq.bind p1).imp e1 λ_ _ q=>q) λk st2 u m2 H2 p2 e2 S2 rk=>?_
  unfold NJ at p2
  cases e:getD d k st2 with
  | none=>rw[e] at p2;exact False.elim p2
  | some w=>
   rw[e] at p2
   obtain⟨a,v',ex,g,rw'⟩:=EF (X:=X) S2 (ag.mono e2 _ _ rd) rk e
   exact⟨a,v',ex,g,p2 v' m2 H2 (e1.trans e2) S2 rw'⟩
end
end J
namespace J
open PySem PySem.Spec PyProof.Rows L2
section
variable {X:Cx} {pins:List (WN×Obj)} {σ:St} {H:Hp} {s:WT} {a:WN} {xs:List (List L2.Key×V)}
theorem Ji(I:Inv X pins σ H s)(e:H a=some (.dT xs)):∃o,s.heap.get? a=some o/\Inv X pins σ (upd H a (.bU o (.dT xs))) s:=by
 obtain⟨z,lo,ys,kt,o,es,ep,g1,g2,g3,g4,g5⟩:=id (I.hok a _ e)
 refine⟨o,g1,me (t':=s.toks) (h':=s.heap) I (by rw[e];exact True.intro) (Heap.SameBut.refl _ _) ⟨o,g1⟩ ⟨g1,z,lo,ys,KT.keeps kt λc zs ec=>?_,o,es,ep,g1,g2,g3,g4,g5⟩⟩
 rw[av (FD ec e (λz=>nomatch z))]
 exact ec
theorem EH{o:Obj}(I:Inv X pins σ H s)(e:H a=some (.bU o (.dT xs)))(n:∀o u,X.H₀ a≠some (.bU o u)):Inv X pins σ (upd H a (.dT xs)) s:=by
 have ne:∀{b:WN},H b=none->b≠a:=λh z=>by rw[z,e] at h;cases h
 have g:=I.base
 have ow:∀c b,H c=some (.own b)->upd H a (.dT xs) c=some (.own b):=λc b q=>by
  rw[av (λz=>by rw[z,e] at q;cases q)];exact q
 have tu:∀c ys,H c=some (.tup ys)->upd H a (.dT xs) c=some (.tup ys):=λc ys q=>by
  rw[av (λz=>by rw[z,e] at q;cases q)];exact q
 refine⟨I.ok,I.os,I.bare,⟨g.keep,g.slot,λb ob q h hx=>?_,g.there,λb ys q=>tu b ys (g.tups b ys q),λb ob u q=>?_,λb ps q=>?_⟩,I.loc,I.cell,?_,λy c q=>?_,λp hp=>?_,λb u q=>?_,I.len⟩
 ·have h1:=g.free b ob q h hx
  rw[av (ne h1)];exact h1
 ·rw[av (λz=>n ob u (by rw[<-z];exact q))];exact g.f6 b ob u q
 ·obtain⟨m,h1⟩:=g.ir b ps q
  exact⟨m,by rw[av (λz=>by rw[z,e] at h1;cases h1)];exact h1⟩
 ·rw[av (ne I.free)];exact I.free
 ·rw[av (ne (I.d_ y c q))];exact I.d_ y c q
 ·obtain⟨p1,p2,p3⟩:=I.pin p hp
  exact⟨p1,by rw[av (ne p2)];exact p2,p3⟩
 ·by_cases hb:b=a
  ·subst hb
   rw[az] at q
   cases q
   exact bN.stay (I.hok b _ e).2 (λc v _ q=>q) (λc q=>ow c _ q) tu
  ·rw[av hb] at q
   exact(I.hok b u q).stay (λc v _ q=>q) (λc q=>ow c _ q) tu
end
section
variable {K:PySem.W.Frag} {m:Mp} {st:Hs} {H:Hp}
theorem RelK.cS{κ:Type}{m1:Mp}{H1:Hp}{kvs:List (κ×Wv)}{xs:List (κ×V)}(e:rT K m H m1 H1)(h:RelK K m H kvs xs):RelK K m1 H1 kvs xs:=⟨h.1,ah.cS e _ _ h.2⟩
theorem pU{a:WN}{o:Obj}{xs:List (List L2.Key×V)}(e:H a=some (.bU o (.dT xs))):rT K m H m (upd H a (.dT xs)) :=
 ⟨λ_ _ h=>h,λb ys q=>by rw[av (λz=>by rw[z,e] at q;cases q)];exact q,λb φ q=>by rw[av (λz=>by rw[z,e] at q;cases q)];exact q,λb ob φ q=>by rw[av (λz=>by rw[z,e] at q;cases q)];exact q⟩
theorem aL.Jj{l:Nat}{a:WN}{o:Obj}{kvs:List (List L2.Key×Wv)}{xs:List (List L2.Key×V)}(S:aL K m st H)(h1:m[l]? =some a)(h2:st[l]? =some (.jL kvs))(e:H a=some (.bU o (.dT xs))):aL K m (st.set l (.bh kvs)) (upd H a (.dT xs)):=by
 have ez:=pU (K:=K) (m:=m) e
 have hl:l < st.length:=(List.getElem?_eq_some_iff.mp h2).1
 have at':∀(k:Nat)(ob:Ob),(st.set l (.bh kvs))[k]? =some ob->(k=l/\ob= .bh kvs)\/(k≠l/\st[k]? =some ob):=λk ob h=>by
  by_cases z:l=k
  ·subst z
   rw[List.getElem?_set_self hl] at h
   exact .inl ⟨rfl,(Option.some.inj h).symm⟩
  ·rw[List.getElem?_set_ne z] at h
   exact .inr ⟨λz'=>z z'.symm,h⟩
 refine⟨by simp[S.len],λk b ob g1 g2=>?_,λk k' b us us' g1 FU g2 OY q q'=>?_,S.tab.keep (λc ps q=>?_) ez.ext⟩
 ·rcases at' k ob g2 with ⟨rfl,rfl⟩ | ⟨hk,g2⟩
  ·rw[h1] at g1
   cases g1
   obtain⟨o',xs',r1,r2⟩:=(show ∃o' xs',H a=some (.bU o' (.dT xs'))/\RelK K m H kvs xs' from S.obj _ _ _ h1 h2)
   rw[e] at r1
   cases r1
   exact⟨xs,az,r2.cS ez⟩
  ·have q:=S.obj k b ob g1 g2
   have nb:ob.mu=true->b≠a:=λhm z=>hk (S.inj k l b ob _ g1 (z ▸ h1) g2 h2 hm rfl)
   cases ob with
   | lst ws=>obtain⟨ys,e1,e2⟩:=q;exact⟨ys,by rw[av (nb rfl)];exact e1,ah.cS ez _ _ e2⟩
   | dct ws=>obtain⟨ys,e1,e2⟩:=q;exact⟨ys,by rw[av (nb rfl)];exact e1,e2.cS ez⟩
   | bh ws=>obtain⟨ys,e1,e2⟩:=q;exact⟨ys,by rw[av (nb rfl)];exact e1,e2.cS ez⟩
   | jL ws=>obtain⟨o',ys,e1,e2⟩:=q;exact⟨o',ys,by rw[av (nb rfl)];exact e1,e2.cS ez⟩
   | jW ns=>
    rcases q with ⟨o',q⟩ | q
    ·exact .inl ⟨o',by rw[av (λz=>by rw[z,e] at q;cases q)];exact q⟩
    ·exact .inr q
 ·have back:∀(k:Nat)(ob:Ob),(st.set l (.bh kvs))[k]? =some ob->ob.mu=true->∃o',st[k]? =some o'/\o'.mu=true:=λk ob h ho=>by
   rcases at' k _ h with ⟨rfl,_⟩ | ⟨_,h⟩
   ·exact⟨_,h2,rfl⟩
   ·exact⟨ob,h,ho⟩
  obtain⟨u1,f1,f2⟩:=back k us g2 q
  obtain⟨u2,f3,f4⟩:=back k' us' OY q'
  exact S.inj k k' b u1 u2 g1 FU f1 f3 f2 f4
 ·rw[av (λz=>by rw[z,e] at q;cases q)];exact q
theorem ar.cS{m1:Mp}{H1:Hp}{ρ:aT}{σ:St}(R:ar K m H ρ σ)(e:rT K m H m1 H1):ar K m1 H1 ρ σ:=⟨R.len,λi w h=>let ⟨v,h1,h2⟩:=R.get i w h;⟨v,h1,ag.cS e _ _ h2⟩⟩
theorem Ext.Jj{m1:Mp}{H1:Hp}{a:WN}{xs ys:List (List L2.Key×V)}(e:Ext K m H m1 H1)(h:H a=some (.dT xs)):Ext K m H m1 (L2.upd H1 a (.dT ys)) :=
 ⟨e.pre,λb zs q=>by rw[av (λz=>by rw[z,h] at q;cases q)];exact e.tup b zs q,λb φ q=>by rw[av (λz=>by rw[z,h] at q;cases q)];exact e.ext b φ q,λb o u q=>by rw[av (λz=>by rw[z,h] at q;cases q)];exact e.bU b o u q⟩
end
def lL(l:Nat)(st:Hs):Hs:=match st[l]? with
 | some (.jL kvs)=>st.set l (.bh kvs)
 | _=>st
def lM(w:Option (Option Wv))(st:Hs):Option Nat:=match w with
 | some (some (.ref l))=>(match st[l]? with | some (.bh _)=>some l | _=>none)
 | _=>none
def pV(i:Nat)(g:GS):GS:=λρ st=>match lM ρ[i]? st with
 | some l=>(match g ρ st with | .nx ρ' st'=> .nx ρ' (lL l st') | r=>r)
 | none=>g ρ st
def gJ(i:Nat)(g:GE):GE:=λρ st=>match lM ρ[i]? st with
 | some l=>(match g ρ st with | .ok w st'=> .ok w (lL l st') | r=>r)
 | none=>g ρ st
section
variable {X:Cx}
theorem tm{ρ:aT}{st:Hs}{σ:St}{H:Hp}{m:Mp}{i l:Nat}(S:aL X.K m st H)(R:ar X.K m H ρ σ)(h:lM ρ[i]? st=some l):∃a xs,m[l]? =some a/\H a=some (.dT xs):=by
 unfold lM at h
 split at h
 ·rename_i k e
  obtain⟨v,_,r⟩:=R.get i _ e
  unfold ag at r
  obtain⟨a,rfl,ha⟩:=r
  split at h
  ·rename_i kvs e1
   cases h
   obtain⟨xs,h1,_⟩:=(show ∃ys,H a=some (.dT ys)/\RelK X.K m H kvs ys from S.obj _ _ _ ha e1)
   exact⟨a,xs,ha,h1⟩
  ·cases h
 ·cases h
theorem tq{pins:List (WN×Obj)}{s0 s':WT}{σ σ':St}{H H':Hp}{m m':Mp}{l:Nat}{a:WN}{xs:List (List L2.Key×V)}{st':Hs}(I:Inv X pins σ H s0)(h0:H a=some (.dT xs))(ha:m[l]? =some a)(e:Ext X.K m H m' H')(S:aL X.K m' st' H')(I':Inv X pins σ' H' s') :
  ∃rA,Inv X pins σ' rA s'/\Ext X.K m H m' rA/\aL X.K m' (lL l st') rA/\rT X.K m' H' m' rA:=by
 unfold lL
 have same:∃rA,Inv X pins σ' rA s'/\Ext X.K m H m' rA/\aL X.K m' st' rA/\rT X.K m' H' m' rA:=⟨H',I',e,S,Ext.refl.z⟩
 split
 ·rename_i kvs e1
  obtain⟨o,ys,h1,_⟩:=(show ∃o ys,H' a=some (.bU o (.dT ys))/\RelK X.K m' H' kvs ys from S.obj _ _ _ (e.pre _ _ ha) e1)
  exact⟨_,EH I' h1 λo u q=>(by have z:=I.base.f6 _ _ _ q;rw[h0] at z;cases z),e.Jj h0,S.Jj (e.pre _ _ ha) e1 h1,pU h1⟩
 ·exact same
theorem wQ(i:Nat){RV:Stmt}{g:GS}(h:JS X RV g):JS X RV (pV i g):=by
 intro ρ st σ H m D S R p
 unfold pV at p
 cases eo:lM ρ[i]? st with
 | none=>rw[eo] at p;exact h ρ st σ H m D S R p
 | some l=>
  rw[eo] at p
  dsimp only at p
  cases eg:g ρ st with
  | nx ρ' st'=>
   rw[eg] at p
   intro pins s I
   obtain⟨a,xs,ha,h0⟩:=tm S R eo
   have go:=h ρ st σ H m { D with nx:=λσ' H'=>∃m',Ext X.K m H m' H'/\aL X.K m' st' H'/\ar X.K m' H' ρ' σ' } S R (by rw[eg];exact λσ' m' H' e' S' R'=>⟨m',e',S',R'⟩) pins s I
   refine Xa go (λf s' q=>?_) λ_ _ z=>z
   cases f with
   | next=>
    obtain⟨σ',H',I',m',e',S',R'⟩:=q
    obtain⟨rA,I2,e2,S2,z2⟩:=tq I h0 ha e' S' I'
    exact⟨σ',rA,I2,p σ' m' rA e2 S2 (R'.cS z2)⟩
   | brk=>exact q
   | cont=>exact q
   | ret u=>exact q
  | rt w st'=>rw[eg] at p;exact h ρ st σ H m D S R (by rw[eg];exact p)
  | bk ρ' st'=>rw[eg] at p;exact h ρ st σ H m D S R (by rw[eg];exact p)
  | ct ρ' st'=>rw[eg] at p;exact h ρ st σ H m D S R (by rw[eg];exact p)
  | err c ρ' st'=>rw[eg] at p;exact h ρ st σ H m D S R (by rw[eg];exact p)
  | bad=>rw[eg] at p;exact False.elim p
theorem EI(i:Nat){e:Expr}{g:GE}(h:JE X e g):JE X e (gJ i g):=by
 intro ρ st σ H m Q S R p
 unfold gJ at p
 cases eo:lM ρ[i]? st with
 | none=>rw[eo] at p;exact h ρ st σ H m Q S R p
 | some l=>
  rw[eo] at p
  dsimp only at p
  cases eg:g ρ st with
  | ok w st'=>
   rw[eg] at p
   intro pins s I
   obtain⟨a,xs,ha,h0⟩:=tm S R eo
   have go:=h ρ st σ H m (λv H'=>∃m',Ext X.K m H m' H'/\aL X.K m' st' H'/\ag X.K m' H' w v) S R (by rw[eg];exact λv m' H' e' S' r'=>⟨m',e',S',r'⟩) pins s I
   refine Xa go (λu s' q=>?_) λ_ _ z=>z
   obtain⟨v,H',I',rv,m',e',S',r'⟩:=q
   obtain⟨rA,I2,e2,S2,z2⟩:=tq I h0 ha e' S' I'
   exact⟨v,rA,I2,rv,p v m' rA e2 S2 (ag.cS z2 _ _ r')⟩
  | err c st'=>rw[eg] at p;exact h ρ st σ H m Q S R (by rw[eg];exact p)
  | bad=>rw[eg] at p;exact False.elim p
end
def BA(a:WN)(o:Obj)(xs:List (List L2.Key×V)):It :=
 ⟨λi H=>H a=some (.bU o (.dT xs))/\i < xs.length,λi H v H'=>H'=H/\∃k b,(xs[i]?).map (·.1)=some k/\v= .ref b/\H b=some (.tup (k.map kV)),λi H=>H a=some (.bU o (.dT xs))/\xs.length<=i⟩
theorem vm{H:Hp}:∀{xs:List (List L2.Key×V)}{ys:List (List L2.Key×WN×WU)},KT H xs ys->∀{i:Nat}{y:List L2.Key×WN×WU},ys[i]? =some y->∃x,xs[i]? =some x/\x.1=y.1/\H y.2.1=some (.tup (x.1.map kV))/\RelV x.2 y.2.2
 | _,_,.nil,i,y,h=>by cases h
 | _,_,.cons h t,0,y,e=>by cases e;exact⟨_,rfl,h⟩
 | _,_,.cons h t,i+1,y,e=>vm t (i:=i) e
theorem qH{P:WS}{w:WV}{H:Hp}{h:Heap}{a:WN}{o:Obj}{xs:List (List L2.Key×V)}(ok:ic P w H h)(e:H a=some (.bU o (.dT xs))) :
  ∃es ep,(a == sysModules)=false/\o.data= .dict es ep/\qG h a es ep/\es.size=xs.length/\∀(i:Nat)(hi:i < es.size),∃x b,xs[i]? =some x/\es[i].key= .ref b/\H b=some (.tup (x.1.map kV))/\RelV x.2 es[i].val:=by
 obtain⟨ho,z,lo,ys,kt,o',es,ep,g1,g2,g3,g4,g5⟩:=ok a _ e
 rw[ho] at g1
 cases g1
 have len:es.size=ys.length:=by have:=congrArg List.length g4;simpa using this
 have UE:xs.length=ys.length:=Paired.length kt
 refine⟨es,ep,lo,g3,⟨o,ho,g2.1,g3⟩,by omega,λi hi=>?_⟩
 have hi':i < ys.length:=by omega
 have q1:es[i]=entryOfKey (tupleKind (aN P w)) ys[i]:=by
  have:es.toList[i]? =(ys.map (entryOfKey (tupleKind (aN P w))))[i]?:=by rw[g4]
  rw[List.getElem?_eq_getElem (by simpa using hi),List.getElem?_map,List.getElem?_eq_getElem hi'] at this
  simpa using this
 obtain⟨x,e1,e2,e3,e4⟩:=vm kt (List.getElem?_eq_getElem hi')
 exact⟨x,ys[i].2.1,e1,by rw[q1];rfl,e3,by rw[q1];exact e4⟩
theorem yO{P:WS}{w:WV}{K:PySem.W.Frag}{tg:Expr}(a it:WN)(o:Obj)(xs:List (List L2.Key×V)):Turn P w K tg (BA a o xs) [it] it (λi h=>∃es ep,o.data= .dict es ep/\h.IsKeyIter it a i es.size ep) where
 mem:=by simp
 obj:=λi h st b hb=>by
  obtain⟨es,ep,_,oi,q1,q2,q3⟩:=st
  have e:b=it:=by simpa using hb
  subst e
  exact⟨oi,q1,λv z=>by rw[q3] at z;cases z⟩
 keep:=λi h h' st k=>let ⟨es,ep,hd,ki⟩:=st;⟨es,ep,hd,ki.at λob q=>k it (by simp) ob q⟩
 self:=λ_ _ _ _ _ st h=>let ⟨_,_,_,ki⟩:=st;wpAny_pyIter_keyiter ki h
 item:=by
  intro X hP hw hK hc i pins s σ H E I hf st hg
  subst hP hw hK
  obtain⟨es,ep,hd,ki⟩:=st
  obtain⟨he,hi⟩:=hg
  obtain⟨es',rG,lo,hd',raw,sz,keys⟩:=qH I.hok he
  rw[hd] at hd'
  cases hd'
  obtain⟨f0,f1,f2,f3,f4,f5⟩:=hf it (by simp)
  have hi':i < es.size:=by omega
  refine Br ki raw hi' λh' Mz sb=>?_
  obtain⟨x,b,e1,e2,e3,_⟩:=keys i hi'
  have I1:Inv X pins σ H { s with heap:=h' }:=I.turned (t':=s.toks) (λc ob hc e=>sb.extBut c ob hc e) f0 f1 f3 f4 f5
  obtain⟨oi,q1,q2,q3⟩:=id Mz
  exact⟨es[i].key,rfl,lq (s:={ s with heap:=h' }) q1 q2 q3 (by decide) ⟨.ref b,H,I1,e2,⟨rfl,x.1,b,by rw[e1];rfl,rfl,e3⟩,⟨es,ep,hd,Mz⟩,λc hb=>(hf c hb).1⟩⟩
 done:=by
  intro X hP hw hK hc i pins s σ H E I hf st hg
  subst hP hw hK
  obtain⟨es,ep,hd,ki⟩:=st
  obtain⟨he,hi⟩:=hg
  obtain⟨es',rG,lo,hd',raw,sz,keys⟩:=qH I.hok he
  rw[hd] at hd'
  cases hd'
  obtain⟨f0,f1,f2,f3,f4,f5⟩:=hf it (by simp)
  exact EA (I.ok.hd hc) ki raw (by omega) λh' eb=>⟨rfl,I.turned (t':=s.toks) (λb ob hb e=>eb b ob hb e) f0 f1 f3 f4 f5⟩
section
variable {X:Cx} {tg:Expr}
def MC(te:TE):TI:=λσ H R=>te σ H λx H1=>∃a xs,x= .ref a/\((H1 a=some (.dT xs)/\∀o,R (BA a o xs) (upd H1 a (.bU o (.dT xs))))\/∃o,H1 a=some (.bU o (.dT xs))/\R (BA a o xs) H1)
theorem wR{pins:List (WN×Obj)}{σ:St}{H:Hp}{s:WT}{R:It->Hp->Prop}{E:WU->WT->Prop}{a:WN}{o:Obj}{xs:List (List L2.Key×V)}(I:Inv X pins σ H s)(e:H a=some (.bU o (.dT xs)))(r:R (BA a o xs) H):W8 (model X.prog X.w) X.A (pyIter (.ref a)) (OA X pins σ tg R) E s:=by
 obtain⟨es,ep,lo,hd,raw,sz,keys⟩:=qH I.hok e
 refine Bq lo raw ⟨s.heap.objs.size,[s.heap.objs.size],_,BA a o xs,H,rfl,I.kept (t':=s.toks) λb ob q=>Heap.get?_push_of_some _ q,yO a _ o xs,⟨es,ep,hd,_,Heap.get?_push_size _ rfl,rfl,rfl⟩,λb hb=>?_,r⟩
 rw[List.mem_singleton.mp hb]
 exact I.rL (Nat.le_refl _) (I.hok.fresh (Nat.le_refl _))
theorem wU{e:Expr}{te:TE}(he:PE X e te):PI X tg e (MC te):=by
 intro pins s σ H R I h
 refine aM (he pins s σ H _ I h) λv s1 ⟨x,H1,I1,r1,a,xs,ex,q⟩=>?_
 subst ex
 cases r1
 rcases q with ⟨e1,k⟩ | ⟨o,e1,k⟩
 ·obtain⟨o,_,I2⟩:=Ji I1 e1
  exact wR I2 az (k o)
 ·exact wR I1 e1 k
def tw(w:Wv)(st:Hs):Re Wk:=match w with
 | .ref l=>(match st[l]? with
  | some (.bh kvs)=>(match fI (kvs.map (·.1)) with | some ws=> .ok (none,ws) (st.set l (.jL kvs)) | none=> .bad)
  | some (.jL kvs)=>(match fI (kvs.map (·.1)) with | some ws=> .ok (none,ws) st | none=> .bad)
  | _=> .bad)
 | _=> .bad
def jA(g:GE):GI:=λρ st=>(g ρ st).bind tw
theorem pW:∀{ks:List (List L2.Key)}{ws:List Wv},fI ks=some ws->ws.length=ks.length/\∀(i:Nat)(h:i < ws.length),∃k ns,ks[i]? =some k/\kT k=some ns/\ws[i]= .tup (ns.map Wv.int)
 | [],ws,e=>by cases e;exact⟨rfl,λi h=>by cases h⟩
 | k::ks,ws,e=>by
  unfold fI at e
  cases q1:kT k with
  | none=>rw[q1] at e;cases e
  | some ns=>
   cases q2:fI ks with
   | none=>rw[q1,q2] at e;cases e
   | some l=>
    rw[q1,q2] at e
    cases e
    obtain⟨h1,h2⟩:=pW q2
    refine⟨by simp[h1],λi h=>?_⟩
    cases i with
    | zero=>exact⟨k,ns,rfl,q1,rfl⟩
    | succ i=>exact h2 i (by simpa using h)
theorem nC{m1:Mp}{H1:Hp}{a:WN}{o:Obj}{kvs:List (List L2.Key×Wv)}{xs:List (List L2.Key×V)}{ws:List Wv}(e:H1 a=some (.bU o (.dT xs)))(r:RelK X.K m1 H1 kvs xs)(hk:fI (kvs.map (·.1))=some ws) :
  (∀(k:Nat)(H:Hp)(m':Mp),Ext X.K m1 H1 m' H->k < ws.length->(BA a o xs).go k H)/\(∀(k:Nat)(H:Hp)(m':Mp),Ext X.K m1 H1 m' H->k=ws.length->(BA a o xs).stop k H)/\
  ∀(k:Nat)(hk:k < ws.length)(H:Hp)(x:V)(H':Hp)(m':Mp),Ext X.K m1 H1 m' H->(BA a o xs).rK k H x H'->H'=H/\ag X.K m' H ws[k] x:=by
 obtain⟨l1,g1⟩:=pW hk
 have l2:ws.length=xs.length:=by rw[l1,List.length_map,r.length]
 refine⟨λk H m' e' h=>⟨e'.bU _ _ _ e,by omega⟩,λk H m' e' h=>⟨e'.bU _ _ _ e,by omega⟩,λk h H v H' m' e' y=>?_⟩
 obtain⟨rfl,kk,b,y1,rfl,y2⟩:=y
 refine⟨rfl,?_⟩
 obtain⟨k',ns,f1,f2,f3⟩:=g1 k h
 have e3:(xs[k]?).map (·.1)=some k':=by rw[<-List.getElem?_map,<-r.1];exact f1
 rw[y1] at e3
 cases e3
 rw[f3]
 rw[wN f2] at y2
 unfold ag
 exact⟨b,_,rfl,y2,ah.ints ns⟩
theorem wV{m1:Mp}{H1:Hp}{a:WN}{o:Obj}{kvs:List (List L2.Key×Wv)}{xs:List (List L2.Key×V)}{ws:List Wv}(e:H1 a=some (.bU o (.dT xs)))(r:RelK X.K m1 H1 kvs xs)(hk:fI (kvs.map (·.1))=some ws):pK X (none,ws) m1 H1 (BA a o xs) :=
 let ⟨g1,g2,g3⟩:=nC e r hk
 ⟨λk H m' _ e' _ _ h=>g1 k H m' e' h,λk H m' _ e' _ _ h=>g2 k H m' e' h,λk h H v H' m' _ e' _ _ y=>g3 k h H v H' m' e' y⟩
theorem EJ{e:Expr}{g:GE}(h:JE X e g):JI X tg e (jA g):=by
 refine⟨_,wU aD,λρ st σ H m Q S R p=>?_⟩
 refine h.go S R (aq.bind p) λw st1 v m1 H1 p1 e1 S1 rw'=>?_
 unfold tw at p1
 cases w with
 | ref l=>
  unfold ag at rw'
  obtain⟨a,rfl,ha⟩:=rw'
  dsimp only at p1
  cases el:st1[l]? with
  | none=>rw[el] at p1;exact False.elim p1
  | some ob=>
   rw[el] at p1
   cases ob with
   | bh kvs=>
    dsimp only at p1
    cases ek:fI (kvs.map (·.1)) with
    | none=>rw[ek] at p1;exact False.elim p1
    | some ws=>
     rw[ek] at p1
     obtain⟨xs,h1,h2⟩:=(show ∃ys,H1 a=some (.dT ys)/\RelK X.K m1 H1 kvs ys from S1.obj _ _ _ ha el)
     refine⟨a,xs,rfl,.inl ⟨h1,λo=>?_⟩⟩
     have ex:Ext X.K m1 H1 m1 (upd H1 a (.bU o (.dT xs))):=Ext.f9 (.inr (.inr (.inr ⟨_,h1⟩)))
     have S2:aL X.K m1 (st1.set l (.jL kvs)) (upd H1 a (.bU o (.dT xs))):=S1.jv ha el rfl ⟨o,xs,az,h2.mono ex⟩
     exact p1 m1 _ _ (e1.trans ex) S2 trivial (wV az (h2.mono ex) ek)
   | jL kvs=>
    dsimp only at p1
    cases ek:fI (kvs.map (·.1)) with
    | none=>rw[ek] at p1;exact False.elim p1
    | some ws=>
     rw[ek] at p1
     obtain⟨o,xs,h1,h2⟩:=(show ∃o ys,H1 a=some (.bU o (.dT ys))/\RelK X.K m1 H1 kvs ys from S1.obj _ _ _ ha el)
     exact⟨a,xs,rfl,.inr ⟨o,h1,p1 m1 _ _ e1 S1 trivial (wV h1 h2 ek)⟩⟩
   | _=>exact False.elim p1
 | _=>exact False.elim p1
def wW(i:Nat)(g:GE)(gb:GS):GS:=λρ st=>(jA g ρ st).aM ρ λw st1=>eZ i gb w.2 ρ st1
theorem EK(i:Nat){x:Str}{iter:Expr}{body:List Stmt}{g:GE}{gb:GS}{pos pos':Pos}(hN:X.N.Nodup)(hp:PassesOwn (model X.prog X.w) X.A X.env X.xe)(hc:X.calm=true)(h:JE X iter g)(hb:jl X body gb)
  (hx:X.N[i]? =some x)(hlo:Loc X.env.scope x)(L8:X.fn x=true\/X.env.scope.names.lookup x=some .local)(hs:∀x,W3 iter X.env x=pure x):JS X (.For (.Name x pos') iter body [] pos) (wW i g gb):=by
 refine JS.of (kH hp hc (wU aD) (jP hN hx hlo L8) cK hs) λρ st σ H m D S R p=>?_
 refine h.go S R (aq.bind (aw.bB R p)) λw st1 v m1 H1 p1 e1 S1 rw'=>?_
 unfold tw at p1
 cases w with
 | ref l=>
  unfold ag at rw'
  obtain⟨a,rfl,ha⟩:=rw'
  dsimp only at p1
  cases el:st1[l]? with
  | none=>rw[el] at p1;exact False.elim p1
  | some ob=>
   rw[el] at p1
   cases ob with
   | bh kvs=>
    dsimp only at p1
    cases ek:fI (kvs.map (·.1)) with
    | none=>rw[ek] at p1;exact False.elim p1
    | some ws=>
     rw[ek] at p1
     obtain⟨xs,h1,h2⟩:=(show ∃ys,H1 a=some (.dT ys)/\RelK X.K m1 H1 kvs ys from S1.obj _ _ _ ha el)
     refine⟨a,xs,rfl,.inl ⟨h1,λo=>?_⟩⟩
     have ex:Ext X.K m1 H1 m1 (upd H1 a (.bU o (.dT xs))):=Ext.f9 (.inr (.inr (.inr ⟨_,h1⟩)))
     have S2:aL X.K m1 (st1.set l (.jL kvs)) (upd H1 a (.bU o (.dT xs))):=S1.jv ha el rfl ⟨o,xs,az,h2.mono ex⟩
     obtain⟨g1,g2,g3⟩:=nC (X:=X) (o:=o) az (h2.mono ex) ek
     exact iG (J':=BA a o xs) i hb S2 (R.mono (e1.trans ex)) (aw.shift p1 (e1.trans ex)) g1 g2 g3
   | jL kvs=>
    dsimp only at p1
    cases ek:fI (kvs.map (·.1)) with
    | none=>rw[ek] at p1;exact False.elim p1
    | some ws=>
     rw[ek] at p1
     obtain⟨o,xs,h1,h2⟩:=(show ∃o ys,H1 a=some (.bU o (.dT ys))/\RelK X.K m1 H1 kvs ys from S1.obj _ _ _ ha el)
     obtain⟨g1,g2,g3⟩:=nC (X:=X) h1 h2 ek
     exact⟨a,xs,rfl,.inr ⟨o,h1,iG (J':=BA a o xs) i hb S1 (R.mono e1) (aw.shift p1 e1) g1 g2 g3⟩⟩
   | _=>exact False.elim p1
 | _=>exact False.elim p1
end
end J
namespace J
open PySem PySem.Spec PyProof.Rows L2
section
variable {prog:WS} {w:WV} {A:WO} {E:WU->WT->Prop} {s:WT} {d:WN} {es:Array DictEntry} {ep:Nat}
theorem EL{Q:WU->WT->Prop}(lo:(d == sysModules)=false)(x:qG s.heap d es ep)(hz:es.size<=W6)(h:Q (.int es.size (s.toks+1)) { s with toks:=s.toks+1+1 }):W8 (model prog w) A (call (.builtin "len") [.ref d]) Q E s:=by
 have ty:=x.ty
 obtain⟨o,g1,g2,g3⟩:=x
 refine Calls.call_function_entry kind_len plain_len entry_len (args_len1 _) ?_
 have n0:¬((es.size:Int) < 0):=by omega
 have n1:¬((es.size:Int) >= 2 ^ 63):=by rw[sizeLine_eq] at hz;omega
 have M:MeetsIn prog w (Builtin.«dict.__len__» ⟨[.ref d],[]⟩) (λ_ R s'=>s'=s/\R (.ok (.ret (.int es.size s.toks))) { s with toks:=s.toks+1 }):=.of_wp λA R s' ⟨e,h⟩=>by
  subst e
  refine(show W8 _ _ (dictSize d >>= _) _ _ s' from ?_)
  unfold dictSize
  refine W9 (W9 (W_ g1 g3 (Xe ?_)))
  exact(show W8 _ _ (Builtin.Dict.pendingCount d >>= _) _ _ s' from W9 (wpAny_pendingCount_other lo (wpAny_ret_mkInt (by rw[Nat.add_zero];exact h))))
 unfold Builtin.«len»
 refine W9 (m:=oneArg "len" _) (Xe (W9 (m:=callSpecial? (.ref d) (Str.ofString "__len__")) (wpAny_callSpecial?_slot (name:=Str.ofString "__len__") ty PySem.F.slot_dict_len
  (call_meetsIn PySem.F.slot_dict_len ty PySem.F.entry_dict_len (PySem.F.args_dict_len_1 _) M ⟨rfl,?_⟩))))
 refine(show W8 _ _ _ _ _ { s with toks:=s.toks+1 } from W9 (W' (Xe (W9 (wpAny_letGo ?_)))))
 refine(show W8 _ _ (if((es.size:Nat):Int) < 0 then _ else _) _ _ _ from ?_);rw[if_neg n0]
 refine(show W8 _ _ (if((es.size:Nat):Int) >= 2 ^ 63 then _ else _) _ _ _ from ?_);rw[if_neg n1]
 exact W9 (wpAny_mkInt (Xe ⟨_,rfl,h⟩))
end
section
variable {prog:WS} {w:WV} {K:Type} [DecidableEq K] {knd:HeapKind prog w K} {A:WO} {E:WU->WT->Prop} {s:WT} {d a:WN} {xs:List (K×WN×WU)} {k:K}
end
section
variable {prog:WS} {w:WV} {A:WO} {E:WU->WT->Prop} {s:WT}
theorem wX{b:DictEntry->PUnit->Sem (ForInStep PUnit)}{Q:PUnit->WT->Prop}:∀{l:List DictEntry},(∀e∈l,∀Q':ForInStep PUnit->WT->Prop,Q' (.yield PUnit.unit) s->W8 (model prog w) A (b e PUnit.unit) Q' E s)->Q PUnit.unit s->W8 (model prog w) A (forIn l PUnit.unit b) Q E s
 | [],_,q=>by rw[List.forIn_nil];exact Xe q
 | e::r,h,q=>by
  rw[List.forIn_cons]
  exact W9 (h e (.head _) _ (wX (λe' he'=>h e' (.tail _ he')) q))
theorem BB{es:List DictEntry}(n:(es.map (·.hash)).Nodup)(c:Int):(es.filter λe=>e.hash == c).length<=1:=by
 induction es with
 | nil=>simp
 | cons e r ih=>
  have n:=List.nodup_cons.mp (show(e.hash::r.map (·.hash)).Nodup from n)
  rw[List.filter_cons]
  by_cases h:(e.hash == c)=true
  ·rw[if_pos h]
   have:(r.filter λe=>e.hash == c)=[]:=List.filter_eq_nil_iff.mpr λy hy q=>n.1 (List.mem_map.mpr ⟨y,hy,by rw[eq_of_beq q,eq_of_beq h]⟩)
   rw[this]
   exact Nat.le_refl 1
  ·rw[if_neg h];exact ih n.2
theorem lW:typeLookup (.type "tuple") "__eq__"=pure (some (.builtin "tuple.__eq__")):=PySem.F.slot_tuple_eq.lookup
theorem BC{o:WN}{es:Array DictEntry}{ep:Nat}{Q:WU->WT->Prop}(lo:(o == sysModules)=false)(x:qG s.heap o es ep)(hz:es.size<=W6)(he:es.size≠0)(hn:(es.toList.map (·.hash)).Nodup)(ht:∀e∈es,∃b,e.key= .ref b/\s.TypeIs (.ref b) "tuple")
  (h:∀h',(∃q,h'.get? s.heap.objs.size=some q/\q.cls= .type "dict"/\q.dict=none/\q.slots=#[]/\∃e',q.data= .dict es e')->Heap.SameBut s.heap.objs.size (s.heap.push { cls:=.type "dict",data:=.dict #[] }) h'->Q (.ref s.heap.objs.size) { s with heap:=h' }) :
  W8 (model prog w) A (call (.type "dict") [.ref o]) Q E s:=by
 refine callType_codes (Q₁:=λobj s₁=>obj= .ref s.heap.objs.size/\s₁={ s with heap:=s.heap.push { cls:=.type "dict",data:=.dict #[] } }) F.kt_called_dict (F.kt_typeCall_dict_1 _) F.entry_dict_init (kt_code_dict_new _ ⟨rfl,rfl⟩) ?_
 rintro obj s₁ ⟨rfl,rfl⟩
 obtain⟨q,g1,g2,g3⟩:=x
 have hne:s.heap.objs.size≠o:=λe=>absurd (Heap.lt_size g1) (by rw[e];exact Nat.lt_irrefl _)
 have n1:(s.heap.push { cls:=.type "dict",data:=.dict #[] }).get? s.heap.objs.size=some { cls:=.type "dict",data:=.dict #[] }:=Heap.get?_push_size _ rfl
 have o1:(s.heap.push { cls:=.type "dict",data:=.dict #[] }).get? o=some q:=Heap.get?_push_of_some _ g1
 have tn:Shared.TypeIs { s with heap:=s.heap.push { cls:=.type "dict",data:=.dict #[] } } (.ref s.heap.objs.size) "dict":=⟨_,n1,rfl⟩
 have to:Shared.TypeIs { s with heap:=s.heap.push { cls:=.type "dict",data:=.dict #[] } } (.ref o) "dict":=⟨_,o1,g2⟩
 refine⟨tn,F.args_dict_init_2 _ _,?_⟩
 unfold Builtin.«dict.__init__»
 refine W9 ?_
 unfold Builtin.Dict.selfAndRest
 refine W9 (wpAny_notOrdered_dict tn (show W8 _ _ (pure (s.heap.objs.size,[Value.ref o])) _ _ _ from Xe ?_))
 refine(show W8 _ _ (Builtin.Dict.updateFrom "dict.__init__" s.heap.objs.size (.ref o) [] .none) _ _ _ from ?_)
 unfold Builtin.Dict.updateFrom
 refine W9 (wpAny_typeOf to ?_)
 rw[if_neg (by decide)]
 refine W9 ?_
 unfold Builtin.Dict.merge
 refine W9 ?_
 unfold Builtin.Dict.readDirectly
 refine W9 (wpAny_isInstance to isSubtype_dict_dict ?_)
 simp only[Bool.not_true,Bool.false_eq_true,if_false]
 refine W9 (wpAny_specialOf to F.slot_dict_iter.lookup (Xe ?_))
 simp only[beq_self_eq_true,if_true]
 refine W9 (Xe ?_)
 unfold Builtin.Dict.mergeDict
 rw[if_neg (by simpa using hne)]
 unfold Builtin.Dict.showsAll
 rw[if_neg (by rw[lo];exact Bool.false_ne_true)]
 refine W9 (Xe (W9 (W_ o1 g3 ?_)))
 have few:(decide (es.size<=8)&&es.all λe=>(keyPart e.key).isSome)=false:=by
  rw[Bool.and_eq_false_iff]
  refine .inr ?_
  rw[<-Bool.not_eq_true,Array.all_eq_true]
  intro al
  have:=al 0 (by omega)
  obtain⟨b,e1,_⟩:=ht es[0] (by simp)
  rw[e1] at this
  cases this
 simp only[few,Bool.not_false,if_true]
 refine W9 (W_ n1 rfl ?_)
 simp only[show(#[]:Array DictEntry).isEmpty=true from rfl,if_true]
 refine W9 ?_
 unfold Builtin.Dict.entriesForEmpty
 refine W9 (W_ o1 g3 ?_)
 rw[<-Array.forIn_toList]
 refine W9 (wX (λe hm Q' q'=>?_) (Xe ?_))
 ·obtain⟨b,e1,e2⟩:=ht e (Array.mem_toList_iff.mp hm)
  rw[e1]
  obtain⟨ob,f1,f2⟩:=e2
  have tb:Shared.TypeIs { s with heap:=s.heap.push { cls:=.type "dict",data:=.dict #[] } } (.ref b) "tuple":=⟨_,Heap.get?_push_of_some _ f1,f2⟩
  unfold Builtin.Dict.quietEq
  refine W9 (W9 (wpAny_specialOf tb lW (Xe ?_)))
  have nq:(some (Value.builtin "tuple.__eq__") == some (Value.builtin "object.__eq__"))=false:=by decide
  have sz:¬(es.filter (λx=>x.hash == e.hash)).size > 1:=by
   have q1:=BB hn e.hash
   have q2:(es.filter (λx=>x.hash == e.hash)).size=(es.toList.filter (λx=>x.hash == e.hash)).length:=by rw[<-Array.length_toList,Array.toList_filter]
   rw[q2]
   omega
  simp only[nq,Bool.not_false,if_true,if_neg sz]
  exact Xe q'
 ·have ne:es.isEmpty=false:=by simpa [Array.isEmpty] using he
  simp only[ne,Bool.not_false,if_true]
  refine W9 (wpAny_updateDictKeysTo (hz':=by show es.size<=W6+1;omega) n1 rfl (Xe ?_))
  refine(show W8 _ _ (Builtin.Dict.addKeywords s.heap.objs.size [] >>= _) _ _ _ from W9 (Xe (Xe ⟨rfl,h _ ?_ (Heap.SameBut.update ..)⟩)))
  exact⟨_,Heap.get?_update_self _ n1 (Obj.isFreed_of_dict (Obj.data_mapDictKeys rfl _)),rfl,rfl,rfl,_,rfl⟩
end
section
variable {prog:WS} {w:WV} {A:WO} {E:WU->WT->Prop} {s:WT} {d it:WN} {i:Nat} {es:Array DictEntry} {ep:Nat} {ok ov:WU}
end
end J
namespace J
open PySem PySem.Spec PyProof.Rows L2
section
variable {X:Cx}
theorem BD{P:WS}{w:WV}{H:Hp}{h:Heap}{a:WN}{xs:List (List L2.Key×V)}(ok:ic P w H h)(e:Rd H a (.dT xs)) :
  ∃es ep ys,xs.length<=W6/\(a == sysModules)=false/\qG h a es ep/\es.size=xs.length/\KT H xs ys/\es.toList=ys.map (entryOfKey (tupleKind (aN P w)))/\(ys.map (·.1)).Nodup:=by
 obtain⟨z,lo,ys,kt,o,es,ep,g1,g2,g3,g4,g5⟩:=(show bN P w H h a (.dT xs) from zZ ok e)
 have len:es.size=ys.length:=by have:=congrArg List.length g4;simpa using this
 exact⟨es,ep,ys,z,lo,⟨o,g1,g2.1,g3⟩,by rw[len];exact(Paired.length kt).symm,kt,g4,g5⟩
theorem yP:cC X (.builtin "len") (λxs H Q=>∃a kvs,xs=[.ref a]/\Rd H a (.dT kvs)/\Q (.int kvs.length) H):=by
 intro pins s σ H xs us Q I rs q
 obtain⟨a,kvs,rfl,e,q⟩:=q
 cases rs with
 | cons r rr=>
  cases rr
  cases r
  obtain⟨es,ep,ys,z,lo,raw,sz,_⟩:=BD I.hok e
  refine EL lo raw (by rw[sz];exact z) ⟨.int kvs.length,H,I.tok _,⟨_,by rw[sz]⟩,q⟩
def jB:Option Ob->Option (List (List L2.Key×Wv))
 | some (.bh kvs)=>some kvs
 | some (.jL kvs)=>some kvs
 | _=>none
theorem my{m:Mp}{st:Hs}{H:Hp}{l:Nat}{a:WN}{kvs:List (List L2.Key×Wv)}(S:aL X.K m st H)(ha:m[l]? =some a)(h:jB st[l]? =some kvs):∃xs,Rd H a (.dT xs)/\RelK X.K m H kvs xs:=by
 unfold jB at h
 split at h
 ·rename_i k' e
  cases h
  obtain⟨xs,h1,h2⟩:=(show ∃ys,H a=some (.dT ys)/\RelK X.K m H kvs ys from S.obj _ _ _ ha e)
  exact⟨xs,.inl h1,h2⟩
 ·rename_i k' e
  cases h
  obtain⟨o,xs,h1,h2⟩:=(show ∃o ys,H a=some (.bU o (.dT ys))/\RelK X.K m H kvs ys from S.obj _ _ _ ha e)
  exact⟨xs,.inr ⟨o,h1⟩,h2⟩
 ·cases h
def fJ:List Wv->Hs->Re Wv
 | [.ref l],st=>(match jB st[l]? with | some kvs=> .ok (.int kvs.length) st | none=>fO [.ref l] st)
 | ws,st=>fO ws st
theorem EM:bJ X (.builtin "len") fJ:=by
 obtain⟨r0,c0,k0⟩:=Av (X:=X)
 refine⟨_,yP.or c0,λws vs st H m Q S r p=>?_⟩
 have old:bP X.K m H (fO ws st) Q->r0 vs H Q:=λp=>k0 ws vs st H m Q S r p
 unfold fJ at p
 split at p
 ·rename_i l
  cases e:jB st[l]? with
  | none=>rw[e] at p;exact .inr (old p)
  | some kvs=>
   rw[e] at p
   obtain⟨v,rfl,rx⟩:=jd r
   unfold ag at rx
   obtain⟨a,rfl,ha⟩:=rx
   obtain⟨xs,h1,h2⟩:=my (X:=X) S ha e
   refine .inl ⟨a,xs,rfl,h1,?_⟩
   rw[<-h2.length]
   exact p _ m H Ext.refl S mkInt
 ·exact .inr (old p)
def wY(ns:List Int):Int:=reduceHash (Builtin.Tuple.tupleHashOf (ns.map hashInt))
def lN:List (List L2.Key)->Option (List (List Int))
 | []=>some []
 | k::r=>(match kT k,lN r with | some ns,some l=>some (ns::l) | _,_=>none)
theorem tD:∀{ks:List L2.Key}{ns:List Int},kT ks=some ns->ks=ns.map Sum.inl
 | [],ns,e=>by cases e;rfl
 | .inl i::r,ns,e=>by
  unfold kT at e
  cases q:kT r with
  | none=>rw[q] at e;cases e
  | some l=>rw[q] at e;cases e;rw[List.map_cons,<-tD q]
theorem BE{P:WS}{w:WV}{ks:List L2.Key}{ns:List Int}(h:kT ks=some ns):(tupleKind (aN P w)).hash ks=wY ns:=by
 rw[tD h]
 show reduceHash (Builtin.Tuple.tupleHashOf ((ns.map Sum.inl).map (aN P w).hash))=_
 rw[List.map_map]
 rfl
theorem nD{P:WS}{w:WV}:∀{RW:List (List L2.Key)}{nss:List (List Int)},lN RW=some nss->RW.map (tupleKind (aN P w)).hash=nss.map wY
 | [],nss,e=>by cases e;rfl
 | k::r,nss,e=>by
  unfold lN at e
  cases q1:kT k with
  | none=>rw[q1] at e;cases e
  | some ns=>
   cases q2:lN r with
   | none=>rw[q1,q2] at e;cases e
   | some l=>rw[q1,q2] at e;cases e;rw[List.map_cons,List.map_cons,BE q1,nD q2]
def jC(ks:List (List L2.Key)):Bool:=match lN ks with
 | some nss=>decide ((nss.map wY).Nodup)
 | none=>false
theorem vn:cC X (.type "dict") (λxs H Q=>∃a kvs,xs=[.ref a]/\Rd H a (.dT kvs)/\kvs≠[]/\((kvs.map (·.1)).map (tupleKind (aN X.prog X.w)).hash).Nodup/\∀p,H p=none->Q (.ref p) (upd H p (.dT kvs))):=by
 intro pins s σ H xs us Q I rs q
 obtain⟨a,kvs,rfl,e,ne,hn,q⟩:=q
 cases rs with
 | cons r rr=>
  cases rr
  cases r
  obtain⟨es,ep,ys,z,lo,raw,sz,kt,g4,g5⟩:=BD I.hok e
  have keys:kvs.map (·.1)=ys.map (·.1):=by
   clear q hn ne g5 g4 e sz z
   induction kt with
   | nil=>rfl
   | cons h t ih=>rw[List.map_cons,List.map_cons,ih,h.1]
  have hs:es.toList.map (·.hash)=(kvs.map (·.1)).map (tupleKind (aN X.prog X.w)).hash:=by
   rw[g4,keys,List.map_map,List.map_map]
   rfl
  have ht:∀e∈es,∃b,e.key= .ref b/\s.TypeIs (.ref b) "tuple":=λe' he=>by
   have:e'∈ys.map (entryOfKey (tupleKind (aN X.prog X.w))):=by rw[<-g4];exact Array.mem_toList_iff.mpr he
   obtain⟨y,hy,rfl⟩:=List.mem_map.mp this
   obtain⟨j,hj⟩:=List.mem_iff_getElem?.mp hy
   obtain⟨x,_,_,hx,_⟩:=vm kt hj
   have kk:=ql (P:=X.prog) (w:=X.w) I.hok hx
   obtain⟨ob,its,n,f1,f2,_⟩:=kk
   exact⟨y.2.1,rfl,ob,f1,f2⟩
  have l0:es.size≠0:=by rw[sz];exact λz0=>ne (List.length_eq_zero_iff.mp z0)
  refine BC lo raw (by rw[sz];exact z) l0 (by rw[hs];exact hn) ht λh' nw sb=>?_
  obtain⟨o',f1,f2,f3,f4,rG,f5⟩:=nw
  have fr:H s.heap.objs.size=none:=I.hok.fresh (Nat.le_refl _)
  refine⟨.ref s.heap.objs.size,_,I.laid (a:=s.heap.objs.size) (o:=.dT kvs) (t':=s.toks) (λb ob hq=>(sb.2 b (Nat.ne_of_lt (Heap.lt_size hq))).trans (Heap.get?_push_of_some _ hq)) (Nat.le_refl _) ?_,rfl,q _ fr⟩
  refine⟨z,beq_eq_false_iff_ne.mpr (Ne.symm (Nat.ne_of_lt I.big)),ys,kt.keeps λc zs ec=>?_,o',es,rG,f1,⟨f2,f3,f4⟩,f5,g4,g5⟩
  rw[av (bF ec fr)]
  exact ec
def nE:List Wv->Hs->Re Wv
 | [.ref l],st=>(match jB st[l]? with | some kvs=>if kvs.isEmpty=false/\jC (kvs.map (·.1))=true then .ok (.ref st.length) (st++[.bh kvs]) else .bad | none=> .bad)
 | _,_=> .bad
theorem EN:bJ X (.type "dict") nE:=⟨_,vn,λws vs st H m Q S r p=>by
 unfold nE at p
 split at p
 ·rename_i l
  cases e:jB st[l]? with
  | none=>rw[e] at p;exact False.elim p
  | some kvs=>
   rw[e] at p
   dsimp only at p
   by_cases c:kvs.isEmpty=false/\jC (kvs.map (·.1))=true
   ·rw[if_pos c] at p
    obtain⟨v,rfl,rx⟩:=jd r
    unfold ag at rx
    obtain⟨a,rfl,ha⟩:=rx
    obtain⟨xs,h1,h2⟩:=my (X:=X) S ha e
    have ne:xs≠[]:=λz=>by
     have:=h2.length
     rw[z] at this
     have c1:=c.1
     rw[List.length_eq_zero_iff.mp this] at c1
     cases c1
    refine⟨a,xs,rfl,h1,ne,?_,λq hq=>?_⟩
    ·have c2:=c.2
     unfold jC at c2
     rw[<-h2.1]
     cases ek:lN (kvs.map (·.1)) with
     | none=>rw[ek] at c2;cases c2
     | some nss=>rw[ek] at c2;rw[nD ek];exact of_decide_eq_true c2
    ·have ex:Ext X.K m H (m++[q]) (upd H q (.dT xs)):=Ext.more.trans (Ext.f9 (.inl hq))
     exact p (.ref q) (m++[q]) _ ex (S.qq hq ⟨xs,az,h2.mono ex⟩) (by unfold ag;exact⟨q,rfl,by rw[<-S.len,List.getElem?_append_right (Nat.le_refl _),Nat.sub_self];rfl⟩)
   ·rw[if_neg c] at p;exact False.elim p
 ·exact False.elim p⟩
end
theorem yQ{o:Option V}{u:WU}(r:mC o (some u)):∃v,o=some v/\RelV v u:=by
 cases o with
 | none=>exact(show False from r).elim
 | some v=>exact⟨v,rfl,r⟩
section
variable {X:Cx} {o e f:Expr} {apos cpos:Pos} {td ty tx:TE}
def BF{κ:Type}[DecidableEq κ](kvs:List (κ×Wv))(k:κ):List (κ×Wv):=kvs.filter λkv=>decide (kv.1≠k)
theorem RelK.drop{κ:Type}[DecidableEq κ]{K:PySem.W.Frag}{m:Mp}{H:Hp}(k:κ):∀{kvs:List (κ×Wv)}{xs:List (κ×V)},RelK K m H kvs xs->RelK K m H (BF kvs k) (mP xs k)
 | [],xs,h=>by rw[h.nil_inv];exact RelK.nil
 | p::r,xs,h=>by
  obtain⟨v,t,rfl,h1,h2⟩:=h.cons_inv
  by_cases e:p.1=k
  ·rw[x8 e]
   unfold BF
   rw[List.filter_cons,if_neg (by simp[e])]
   exact h2.drop k
  ·rw[x9 e]
   unfold BF
   rw[List.filter_cons,if_pos (by simp[e])]
   exact RelK.cons h1 (h2.drop k)
end
structure M0(X:Cx)(o:Expr)(m:Str)(apos cpos:Pos):Prop where
 base:attributeBase o m X.env (eval o X.env)=eval o X.env
 line:(apos.endLine == cpos.line)=true
section
variable {X:Cx} {es':List Expr} {kt:Nat} {pt:Pos}
end
end J
namespace J
open PySem PySem.Spec PyProof.Rows L2
def RX(K:PySem.W.Frag)(a:WN)(n:Nat):It :=
 ⟨λi H=>∃xs,ij K H a xs/\xs.length=n/\i < n,λi H x H'=>H'=H/\∀xs,ij K H a xs->xs[n - 1 - i]? =some x,λi _=>n=i⟩
theorem BG{P:WS}{w:WV}{K:PySem.W.Frag}{tg:Expr}(a it:WN)(n:Nat):Turn P w K tg (RX K a n) [it] it (λi h=>h.IsRevIter it a ((n:Int) - 1 - i)) where
 mem:=by simp
 obj:=λi h st b hb=>by
  have e:b=it:=by simpa using hb
  subst e
  obtain⟨o,e,c,d⟩:=st
  exact⟨o,e,λv z=>by rw[d] at z;cases z⟩
 keep:=λi h h' st k=>st.at λo e=>k it (by simp) o e
 item:=by
  intro X hP hw hK hc i pins s σ H E I hf st hg
  subst hP hw hK
  obtain⟨xs,hq,hn,hi⟩:=hg
  obtain⟨its,rv,p,hz⟩:=I.list hq
  have hx:xs[n - 1 - i]? =some (xs[n - 1 - i]'(by omega)):=List.getElem?_eq_getElem (by omega)
  obtain⟨u,hu,ru⟩:=rv.get hx
  obtain⟨f0,f1,f2,f3,f4,f5⟩:=hf it (by simp)
  have ei:(n:Int) - 1 - i=((n - 1 - i:Nat):Int):=by omega
  have st2:s.heap.IsRevIter it a ((n - 1 - i:Nat):Int):=by rw[<-ei];exact st
  refine wpAny_pyNext_rev_item st2 p.isList (x:=u) (by simpa using hu) λh' st' sb=>?_
  have st3:h'.IsRevIter it a ((n:Int) - 1 - ((i+1:Nat):Int)):=by
   have e:(n:Int) - 1 - ((i+1:Nat):Int)=((n - 1 - i:Nat):Int) - 1:=by omega
   rw[e];exact st'
  have I1:Inv X pins σ H { s with heap:=h' }:=I.turned (t':=s.toks) (λb o hb e=>(sb.2 b hb).trans e) f0 f1 f3 f4 f5
  obtain⟨o,e,c,d⟩:=id st'
  exact⟨u,rfl,lq (s:={ s with heap:=h' }) e c d (by decide) ⟨_,H,I1,ru,⟨rfl,λys hy=>by rw[I.rH hy hq];exact hx⟩,st3,λb hb=>(hf b hb).1⟩⟩
 done:=by
  intro X hP hw hK hc i pins s σ H E I hf st hg
  subst hP hw hK
  have hg:n=i:=hg
  obtain⟨f0,f1,f2,f3,f4,f5⟩:=hf it (by simp)
  have st2:s.heap.IsRevIter it a (-1):=by
   have e:(n:Int) - 1 - i= -1:=by omega
   rw[<-e];exact st
  exact wpAny_pyNext_rev_end (I.ok.hd hc) st2 λh' eb=>⟨rfl,I.turned (t':=s.toks) (λb o hb e=>eb b o hb e) f0 f1 f3 f4 f5⟩
 self:=λ_ _ _ _ _ st h=>wpAny_pyIter_revIter st h
section
variable {X:Cx}
def PV(K:PySem.W.Frag)(ta:TA):TI:=λσ H R=>ta σ H λvs H1=>∃a xs,vs=[.ref a]/\ij K H1 a xs/\R (RX K a xs.length) H1
theorem boot_reversed:WY "reversed"=some (.type "reversed"):=by decide+kernel
theorem Jk{tg:Expr}{p q:Pos}{l:Expr}{ta:TA}(hg:Gl X "reversed")(hm:X.mg "reversed"=none)(ha:PA X [l] ta)(hst:W7 [l] X.env=[(false,eval l X.env)]) :
  PI X tg (.Call (.Name "reversed" p) [l] [] q) (PV X.K ta):=by
 intro pins s σ H R I h
 refine Call_ (iw I hg hm boot_reversed (PyProof.Rows.callWith_type1 (aM (ha q pins s σ H _ I h) λus s1 ⟨vs,H1,I1,r1,q1⟩=>?_) hst rfl))
 obtain⟨a,xs,e,hq,k⟩:=q1
 subst e
 cases r1 with
 | cons r rr=>
  cases rr
  cases r
  obtain⟨its,rv,pl,hz⟩:=I1.list hq
  have hl:=rv.length
  refine call_reversed_list pl.isList (wpAny_pyIter_revIter (l:=a) (i:=(xs.length:Int) - 1) ⟨_,Heap.get?_push_size _ rfl,rfl,by simp[revObj,hl]⟩ ?_)
  refine⟨s1.heap.objs.size,[s1.heap.objs.size],_,_,H1,rfl,I1.kept (t':=s1.toks) λb o q=>Heap.get?_push_of_some _ q,BG a _ xs.length,⟨_,Heap.get?_push_size _ rfl,rfl,by simp[revObj,hl]⟩,λb hb=>?_,k⟩
  rw[List.mem_singleton.mp hb]
  exact I1.rL (Nat.le_refl _) (I1.hok.fresh (Nat.le_refl _))
def lO(i:Nat)(ga:GA)(gb:GS):GS:=λρ st=>(ga ρ st).aM ρ λws st1=>match ws with
 | [.ref l]=>(match af st1 l with | some all=>forL i gb l all all.reverse ρ st1 | none=> .bad)
 | _=> .bad
theorem EO(i:Nat){x:Str}{l:Expr}{body:List Stmt}{ga:GA}{gb:GS}{pos pos' p q:Pos}(hN:X.N.Nodup)(hp:PassesOwn (model X.prog X.w) X.A X.env X.xe)(hc:X.calm=true)(hg:Gl X "reversed")(hm:X.mg "reversed"=none)(ha:JA X [l] ga)(hst:W7 [l] X.env=[(false,eval l X.env)])(hb:jl X body gb)
  (hx:X.N[i]? =some x)(hlo:Loc X.env.scope x)(hf:X.fn x=true\/X.env.scope.names.lookup x=some .local):JS X (.For (.Name x pos') (.Call (.Name "reversed" p) [l] [] q) body [] pos) (lO i ga gb):=by
 refine JS.of (kH hp hc (Jk hg hm jk hst) (jP hN hx hlo hf) cK (λ_=>rfl)) λρ st σ H m D S R p=>?_
 refine ha.go S R (aw.bB R p) λws st1 vs m1 H1 p1 e1 S1 rs=>?_
 match ws,rs,p1 with
 | [],rs,p1=>exact False.elim p1
 | x::y::t,rs,p1=>cases x<;>exact False.elim p1
 | [w],rs,p1=>
  obtain⟨v,rfl,rw'⟩:=jd rs
  cases w with
  | ref l=>
   have p1':aw X m H (match af st1 l with | some all=>forL i gb l all all.reverse ρ st1 | none=> .bad) D:=p1
   unfold ag at rw'
   obtain⟨a,rfl,hla⟩:=rw'
   cases el:af st1 l with
   | none=>rw[el] at p1';exact False.elim p1'
   | some ws=>
    rw[el] at p1'
    obtain⟨D4,q0,r0⟩:=S1.read hla el
    refine⟨a,D4,rfl,q0,?_⟩
    have len0:ws.length=D4.length:=r0.length
    have lr:ws.reverse.length=ws.length:=List.length_reverse
    let Pv:Nat->St->Hp->Prop:=λk σ H=>∃ρ st m',Ext X.K m1 H1 m' H/\aL X.K m' st H/\ar X.K m' H ρ σ/\af st l=some ws/\aw X m' H (forL i gb l ws (ws.reverse.drop k) ρ st) D
    refine⟨λk n σ H=>n=ws.length - k/\k<=ws.length/\Pv k σ H,⟨ws.length,by simp,Nat.zero_le _,ρ,st1,m1,Ext.refl,S1,R.mono e1,el,aw.shift p1' e1⟩,?_⟩
    rintro k n σ2 H2 ⟨rfl,hk,ρ2,st2,m2,e2,S2,R2,l2,p2⟩
    obtain⟨xs,hq,rws⟩:=S2.read (e2.pre _ _ hla) l2
    have hlen:=rws.length
    by_cases hlt:k < ws.length
    ·have hlt':k < ws.reverse.length:=by omega
     refine .inr ⟨⟨xs,hq,by omega,by omega⟩,Pv (k+1),λσ' H' p'=>⟨ws.length - (k+1),by omega,rfl,hlt,p'⟩,λx H' y=>?_⟩
     obtain⟨ee,y⟩:=y
     subst ee
     have ey:=y xs hq
     have ed:ws.reverse.drop k=ws.reverse[k]::ws.reverse.drop (k+1):=List.drop_eq_getElem_cons hlt'
     have UG:ws.reverse[k]=ws[ws.length - 1 - k]'(by omega):=by rw[List.getElem_reverse]
     obtain⟨x',ex',kK⟩:=rws.get (i:=ws.length - 1 - k) (w:=ws[ws.length - 1 - k]'(by omega)) (List.getElem?_eq_getElem (by omega))
     rw[<-len0,ex'] at ey
     cases ey
     rw[ed,UG] at p2
     refine hb _ st2 _ _ m2 _ S2 (R2.set i kK) ?_
     unfold forL at p2
     cases eg:gb (ρ2.set i (some (ws[ws.length - 1 - k]'(by omega)))) st2 with
     | nx ρ3 st3=>
      rw[eg] at p2
      by_cases c:af st3 l=some ws
      ·simp only[if_pos c] at p2
       exact λσ3 m3 H3 e3 S3 R3=>⟨ρ3,st3,m3,e2.trans e3,S3,R3,c,aw.shift p2 e3⟩
      ·simp only[if_neg c] at p2;exact False.elim p2
     | ct ρ3 st3=>
      rw[eg] at p2
      by_cases c:af st3 l=some ws
      ·simp only[if_pos c] at p2
       exact λσ3 m3 H3 e3 S3 R3=>⟨ρ3,st3,m3,e2.trans e3,S3,R3,c,aw.shift p2 e3⟩
      ·simp only[if_neg c] at p2;exact False.elim p2
     | bk ρ3 st3=>rw[eg] at p2;exact p2
     | rt w3 st3=>rw[eg] at p2;exact p2
     | err c3 ρ3 st3=>rw[eg] at p2;exact p2
     | bad=>rw[eg] at p2;exact p2
    ·have e:k=ws.length:=by omega
     subst e
     rw[<-lr,List.drop_length] at p2
     exact .inl ⟨by show D4.length=ws.length;omega,p2 σ2 m2 H2 Ext.refl S2 R2⟩
  | _=>exact False.elim p1
end
end J
namespace J
open PySem PySem.Spec PyProof.Rows L2
section
variable {prog:WS} {w:WV} {K:Type} [DecidableEq K] {knd:HeapKind prog w K} {A:WO} {E:WU->WT->Prop} {s:WT} {a b:WN} {xs ys:List (K×WN×WU)}
theorem pX{id:String}{f:K->Bool}{Q:Bool->WT->Prop}(hu:knd.room A)(la:(a == sysModules)=false)(lb:(b == sysModules)=false)(hA:s.heap.DictOfH knd a xs)(hB:s.heap.DictOfH knd b ys)
  (hf:∀x∈xs,∀y∈ys,x.1=y.1->∀Q:Bool->WT->Prop,Q (f x.1) s->W8 (model prog w) A (eqBool x.2.2 y.2.2) Q E s)
  (hQ:Q (decide (xs.length=ys.length)&&xs.all λx=>(atKey ys x.1).isSome&&f x.1) s):W8 (model prog w) A (Builtin.Dict.samePairs id a b) Q E s:=by
 obtain⟨oa,ea,UH,a1,a2,a3,a4,a5,a6⟩:=hA
 obtain⟨ob,eb,Wy,b1,b2,b3,b4,b5,b6⟩:=hB
 have za:ea.size=xs.length:=size_of_entries a4
 have zb:eb.size=ys.length:=size_of_entries b4
 unfold Builtin.Dict.samePairs Builtin.Dict.showsAll
 rw[if_neg (by rw[la];exact Bool.false_ne_true),if_neg (by rw[lb];exact Bool.false_ne_true)]
 refine W9 (Xe (W9 (Xe (W9 (W_ a1 a3 (W9 (W_ b1 b3 ?_)))))))
 by_cases hl:xs.length=ys.length
 ·rw[if_neg (by rw[za,zb,hl];simp)]
  rw[decide_eq_true hl,Bool.true_and] at hQ
  refine W9 (wpAny_dictEpoch a1 a3 (W9 ?_))
  rw[Std.Legacy.Range.forIn_eq_forIn_range']
  simp only[Std.Legacy.Range.size,Nat.sub_zero,Nat.add_sub_cancel,Nat.div_one]
  generalize hg:(λx:K×WN×WU=>(atKey ys x.1).isSome&&f x.1)=g at hQ
  refine wpAny_forIn_list _ (λrest st s'=>s'=s/\st=(none,())/\∃i,rest=List.range' i (xs.length - i)/\i<=xs.length/\xs.all g=(xs.drop i).all g) _ ?_ ?_ _ _ ⟨rfl,rfl,0,by rw[za,Nat.sub_zero],Nat.zero_le _,rfl⟩
  ·rintro x rest st s' ⟨rfl,rfl,i,hr,hi,hall⟩
   have hlt:i < xs.length:=by
    rcases Nat.lt_or_ge i xs.length with h | h
    ·exact h
    ·rw[Nat.sub_eq_zero_of_le h] at hr;simp at hr
   obtain⟨rfl,hrest⟩:x=i/\rest=List.range' (i+1) (xs.length - (i+1)):=by
    have e:xs.length - i=(xs.length - (i+1))+1:=by omega
    rw[e,List.range'_succ] at hr
    injection hr with h1 h2
    exact⟨h1,h2⟩
   rw[List.drop_eq_getElem_cons hlt,List.all_cons] at hall
   have hm:xs[x]∈xs:=List.getElem_mem hlt
   refine W9 (W_ a1 a3 ?_)
   rw[entry_at a4 x,List.getElem?_eq_getElem hlt]
   refine W9 (W' ?_)
   have next:xs.all g=(xs.drop (x+1)).all g->∀Q':ForInStep (Option Bool×Unit)->WT->Prop,Q' (.yield (none,())) s'->W8 (model prog w) A (do
     let rG <-dictEpoch a
     if(rG != UH)=true then do
       (unsupported (toString id++toString ":changed-during-callback"):Sem PUnit)
       pure (ForInStep.yield (none,()))
      else pure (ForInStep.yield (none,()))) Q' E s':=λ_ Q' q'=>by
    refine W9 (wpAny_dictEpoch a1 a3 ?_)
    rw[if_neg (by simp)]
    exact Xe q'
   refine W9 (wpAny_dictFind_heap (k:=xs[x].1) hu (a5 _ hm) b1 b3 b4 b5 b6 (λno=>Xe ?_) λj p hj=>?_)
   ·simp only[Bool.not_false,if_true]
    have gf:g xs[x]=false:=by rw[<-hg];simp only[atKey_none_of_get no];rfl
    rw[gf,Bool.false_and] at hall
    rw[hall] at hQ
    exact Xe (Xe hQ)
   ·refine W9 (W_ b1 b3 ?_)
    rw[entry_at b4 j,hj]
    refine W' (hf _ hm _ (List.mem_of_getElem? hj) rfl _ ?_)
    have gf:g xs[x]=f xs[x].1:=by rw[<-hg];simp only[atKey_of_get b6 hj];rfl
    cases hv:f xs[x].1 with
    | false=>
     simp only[Bool.not_false,if_true]
     rw[gf,hv,Bool.false_and] at hall
     rw[hall] at hQ
     exact Xe (Xe hQ)
    | true=>
     simp only[Bool.not_true,Bool.false_eq_true,if_false]
     rw[gf,hv,Bool.true_and] at hall
     exact next hall _ ⟨rfl,rfl,x+1,hrest,hlt,hall⟩
  ·rintro st s' ⟨rfl,rfl,i,hr,hi,hall⟩
   have h0:xs.length - i=0:=by
    have:=congrArg List.length hr
    simpa using this.symm
   rw[List.drop_of_length_le (by omega),List.all_nil] at hall
   rw[hall] at hQ
   exact Xe hQ
 ·rw[if_pos (by rw[za,zb];simpa using hl)]
  rw[decide_eq_false hl,Bool.false_and] at hQ
  exact W9 (wpAny_rule (Xe hQ))
end
section
variable {prog:WS} {w:WV} {K:Type} [DecidableEq K] {knd:HeapKind prog w K} {A:WO} {E:WU->WT->Prop} {s:WT} {a b:WN} {xs ys:List (K×WN×WU)}
theorem ER{f:K->Bool}{Q:WU->WT->Prop}(hr:A.units < cLine)(hu:knd.room A.in1)(la:(a == sysModules)=false)(lb:(b == sysModules)=false)(hA:s.heap.DictOfH knd a xs)(hB:s.heap.DictOfH knd b ys)
  (hf:∀E:WU->WT->Prop,∀x∈xs,∀y∈ys,x.1=y.1->∀Q:Bool->WT->Prop,Q (f x.1) s->W8 (model prog w) A.in1 (eqBool x.2.2 y.2.2) Q E s)
  (hQ:Q (.bool (decide (xs.length=ys.length)&&xs.all λx=>(atKey ys x.1).isSome&&f x.1)) s):W8 (model prog w) A (W2 .Eq (.ref a) (.ref b)) Q E s:=by
 have tA:s.TypeIs (.ref a) "dict":=hA.typeIs
 have tB:s.TypeIs (.ref b) "dict":=hB.typeIs
 refine(show W8 (model prog w) A (richCompare .Eq (.ref a) (.ref b)) Q E s from wpAny_richCompare_same_room tA tB PySem.F.slot_dict_eq (wpAny_call_entry PySem.F.slot_dict_eq tA PySem.F.entry_dict_eq ?_ (PySem.F.args_dict_eq_2 _ _)) hr)
 refine(show W8 _ _ (Builtin.Dict.dictSlotArgs "__eq__" ⟨[.ref a,.ref b],[]⟩ >>= _) _ _ s from W9 ?_)
 unfold Builtin.Dict.dictSlotArgs
 refine W9 (wpAny_notOrdered_dict tA (show W8 _ _ (pure (Value.ref a,Value.ref b)) _ _ s from Xe ?_))
 refine W9 (wpAny_isInstance tB isSubtype_dict_dict ?_)
 simp only[Bool.not_true,Bool.false_eq_true,if_false]
 refine W9 (Xe (W9 (Xe (W9 (pX hu la lb hA hB (hf _) ?_)))))
 refine Xe ⟨_,rfl,(λz=>nomatch z),?_⟩
 rw[show ∀c:Bool,(c == true)=c from by decide]
 exact hQ
theorem slot_dict_ne:Slot "dict" (cmpInfo .NotEq).2.1 "dict.__ne__" :=
 .of (owner:="dict") (n:="__ne__") (by rw[typeLookup_type,builtinLookup_eq_fast];kernel_rfl) (by decide+kernel) (by decide+kernel) (by decide+kernel) (by first | exact .inl (by decide+kernel) | exact .inr (by decide+kernel)) (by rw[W4];kernel_rfl)
theorem entry_dict_ne:entryFor table "dict.__ne__"=some Builtin.«dict.__ne__»:=entryFor_of_tree (by kernel_rfl)
theorem args_dict_ne_2(a b:WU):argsOk "dict.__ne__" ⟨[a,b],[]⟩:=by
 unfold argsOk;rw[signature?_of (id:="dict.__ne__") (n:=['_','_','e','n','_','_']) (o:=['t','c','i','d']) (by kernel_rfl) PySem.F.owner_dict];kernel_rfl
theorem ES{f:K->Bool}{Q:WU->WT->Prop}(hr:A.units < cLine)(hu:knd.room A.in1)(la:(a == sysModules)=false)(lb:(b == sysModules)=false)(hA:s.heap.DictOfH knd a xs)(hB:s.heap.DictOfH knd b ys)
  (hf:∀E:WU->WT->Prop,∀x∈xs,∀y∈ys,x.1=y.1->∀Q:Bool->WT->Prop,Q (f x.1) s->W8 (model prog w) A.in1 (eqBool x.2.2 y.2.2) Q E s)
  (hQ:Q (.bool (!(decide (xs.length=ys.length)&&xs.all λx=>(atKey ys x.1).isSome&&f x.1))) s):W8 (model prog w) A (W2 .NotEq (.ref a) (.ref b)) Q E s:=by
 have tA:s.TypeIs (.ref a) "dict":=hA.typeIs
 have tB:s.TypeIs (.ref b) "dict":=hB.typeIs
 refine(show W8 (model prog w) A (richCompare .NotEq (.ref a) (.ref b)) Q E s from wpAny_richCompare_same_room tA tB slot_dict_ne (wpAny_call_entry slot_dict_ne tA entry_dict_ne ?_ (args_dict_ne_2 _ _)) hr)
 refine(show W8 _ _ (Builtin.Dict.dictSlotArgs "__ne__" ⟨[.ref a,.ref b],[]⟩ >>= _) _ _ s from W9 ?_)
 unfold Builtin.Dict.dictSlotArgs
 refine W9 (wpAny_notOrdered_dict tA (show W8 _ _ (pure (Value.ref a,Value.ref b)) _ _ s from Xe ?_))
 refine W9 (wpAny_isInstance tB isSubtype_dict_dict ?_)
 simp only[Bool.not_true,Bool.false_eq_true,if_false]
 refine W9 (Xe (W9 (Xe (W9 (pX hu la lb hA hB (hf _) ?_)))))
 refine Xe ⟨_,rfl,(λz=>nomatch z),?_⟩
 rw[show ∀c:Bool,(c == false)= !c from by decide]
 exact hQ
end
abbrev Jl:=List (List L2.Key×Wv)
def kU(st:Hs)(kvs:Jl):Bool:=kvs.all λkv=>(aS st 20 kv.2).isSome
def Gi(st:Hs)(k1 k2:Jl)(k:List L2.Key):Bool:=match bT k1 k,bT k2 k with
 | some v,some w=>(match aS st 20 v,aS st 20 w with | some a,some b=>PyData.eqv a b | _,_=>false)
 | _,_=>false
def lP(st:Hs)(k1 k2:Jl):Bool:=decide (k1.length=k2.length)&&(k1.map (·.1)).all λk=>(bT k2 k).isSome&&Gi st k1 k2 k
def PX(K:PySem.W.Frag)(neg:Bool):R2:=λa b H Q=>∃m st p q k1 k2 l1 l2,aL K m st H/\a= .ref p/\b= .ref q/\Rd H p (.dT l1)/\Rd H q (.dT l2)/\RelK K m H k1 l1/\RelK K m H k2 l2/\kU st k1=true/\kU st k2=true/\Q (.bl (if neg then !lP st k1 k2 else lP st k1 k2)) H
theorem BH{H:Hp}:∀{xs:List (List L2.Key×V)}{ys:List (List L2.Key×WN×WU)},KT H xs ys->xs.map (·.1)=ys.map (·.1)
 | _,_,.nil=>rfl
 | _,_,.cons h t=>by rw[List.map_cons,List.map_cons,BH t,h.1]
theorem tE{κ:Type}[DecidableEq κ]{k:κ}{w:Wv}:∀{kvs:List (κ×Wv)},bT kvs k=some w->(k,w)∈kvs
 | [],e=>by cases e
 | p::r,e=>by
  unfold bT at e
  by_cases h:p.1=k
  ·rw[if_pos h] at e
   cases e
   rw[<-h]
   exact List.mem_cons_self
  ·rw[if_neg h] at e
   exact List.mem_cons_of_mem _ (tE e)
section
variable {X:Cx}
theorem wZ{m:Mp}{st:Hs}{H:Hp}{kvs:Jl}{xs:List (List L2.Key×V)}{ys:List (List L2.Key×WN×WU)}{k:List L2.Key}{p:WN×WU}(r:RelK X.K m H kvs xs)(kt:KT H xs ys)(nd:(ys.map (·.1)).Nodup)(hd:kU st kvs=true)(h:(k,p)∈ys) :
  ∃w v d,bT kvs k=some w/\ag X.K m H w v/\RelV v p.2/\aS st 20 w=some d:=by
 obtain⟨j,hj⟩:=List.mem_iff_getElem?.mp h
 have ak:=atKey_of_get nd hj
 have vl:=kt.val k
 rw[ak] at vl
 obtain⟨v,ev,rv⟩:=yQ vl
 obtain⟨i1,i2⟩:=r.val k
 cases e:bT kvs k with
 | none=>rw[i1 e] at ev;cases ev
 | some w=>
  obtain⟨u,j1,j2⟩:=i2 w e
  rw[ev] at j1
  cases j1
  obtain⟨d,e2⟩:=Option.isSome_iff_exists.mp (List.all_eq_true.mp hd _ (tE e))
  exact⟨w,v,d,rfl,j2,rv,e2⟩
theorem tF{m:Mp}{st:Hs}{H:Hp}{k1 k2:Jl}{l1 l2:List (List L2.Key×V)}{y1 y2:List (List L2.Key×WN×WU)}(r1:RelK X.K m H k1 l1)(r2:RelK X.K m H k2 l2)(t1:KT H l1 y1)(t2:KT H l2 y2) :
  (decide (y1.length=y2.length)&&y1.all λx=>(atKey y2 x.1).isSome&&Gi st k1 k2 x.1)=lP st k1 k2:=by
 have e1:y1.length=k1.length:=by rw[<-Paired.length t1,r1.length]
 have e2:y2.length=k2.length:=by rw[<-Paired.length t2,r2.length]
 have ks:k1.map (·.1)=y1.map (·.1):=by rw[r1.1,BH t1]
 have at2:∀k,(atKey y2 k).isSome=(bT k2 k).isSome:=λk=>by
  have q:=(t2.val k).pv
  rw[Option.isSome_map] at q
  rw[<-q]
  obtain⟨i1,i2⟩:=r2.val k
  cases e:bT k2 k with
  | none=>rw[i1 e];rfl
  | some w=>obtain⟨u,j1,_⟩:=i2 w e;rw[j1];rfl
 unfold lP
 rw[e1,e2,ks,List.all_map]
 congr 1
 refine List.all_congr rfl λx=>?_
 show((atKey y2 x.1).isSome&&Gi st k1 k2 x.1)=((bT k2 x.1).isSome&&Gi st k1 k2 x.1)
 rw[at2]
theorem BI(neg:Bool)(hu:X.A.units+64 < cLine):dm X (W2 (if neg then .NotEq else .Eq)) (PX X.K neg):=by
 intro pins s σ H a b v u Q I rx ry h
 obtain⟨m,st,p,q,k1,k2,l1,l2,S,rfl,rfl,d1,d2,r1,r2,h1,h2,hq⟩:=h
 cases rx
 cases ry
 obtain⟨z1,lo1,y1,t1,D1⟩:=pA I.hok d1
 obtain⟨z2,lo2,y2,t2,D2⟩:=pA I.hok d2
 have n1:(y1.map (·.1)).Nodup:=let ⟨_,_,_,_,_,_,_,_,n⟩:=D1;n
 have n2:(y2.map (·.1)).Nodup:=let ⟨_,_,_,_,_,_,_,_,n⟩:=D2;n
 have hf:∀E:WU->WT->Prop,∀x∈y1,∀y∈y2,x.1=y.1->∀Q:Bool->WT->Prop,Q (Gi st k1 k2 x.1) s->W8 (model X.prog X.w) X.A.in1 (eqBool x.2.2 y.2.2) Q E s:=λE x hx y hy e Q' q'=>by
  obtain⟨w,v,dw,a1,a2,a3,a4⟩:=wZ (k:=x.1) (p:=x.2) (st:=st) r1 t1 n1 h1 hx
  obtain⟨w',v',NK,b1,b2,b3,b4⟩:=wZ (k:=y.1) (p:=y.2) (st:=st) r2 t2 n2 h2 hy
  rw[<-e] at b1
  obtain⟨as,q1,q2,q3⟩:=f' I S 20 w v _ dw a2 a3 a4
  obtain⟨bs,p1,p2,p3⟩:=f' I S 20 w' v' _ NK b2 b3 b4
  have ee:Gi st k1 k2 x.1=PyData.eqv dw NK:=by unfold Gi;rw[a1,b1];dsimp only;rw[a4,b4]
  rw[ee] at q'
  exact SeqAt.eqBoolOverData X.prog X.w X.A.in1 E s _ _ dw NK as bs Q' q1 p1 q2 p2 (by
   have:X.A.in1.units=X.A.units+1:=rfl
   have:min dw.depth NK.depth<=dw.depth:=Nat.min_le_left _ _
   omega) q'
 cases neg with
 | false=>
  refine ER (by omega) (tupleKind_room_in1 (by omega)) lo1 lo2 D1 D2 hf ?_
  rw[tF r1 r2 t1 t2]
  exact⟨.bl _,H,I,rfl,hq⟩
 | true=>
  refine ES (by omega) (tupleKind_room_in1 (by omega)) lo1 lo2 D1 D2 hf ?_
  rw[tF r1 r2 t1 t2]
  exact⟨.bl _,H,I,rfl,hq⟩
def nG(st:Hs):Wv->Option Jl
 | .ref l=>jB st[l]?
 | _=>none
def vo:eE:=λx y st=>match nG st x,nG st y with
 | some k1,some k2=>if kU st k1=true/\kU st k2=true then .ok (.bl (lP st k1 k2)) st else .bad
 | _,_=>oEq x y st
def qI:eE:=λx y st=>match nG st x,nG st y with
 | some k1,some k2=>if kU st k1=true/\kU st k2=true then .ok (.bl (!lP st k1 k2)) st else .bad
 | _,_=>wt x y st
theorem mz{m:Mp}{st:Hs}{H:Hp}{x:Wv}{a:V}{kvs:Jl}(S:aL X.K m st H)(r:ag X.K m H x a)(h:nG st x=some kvs):∃p l,a= .ref p/\Rd H p (.dT l)/\RelK X.K m H kvs l:=by
 cases x with
 | ref j=>
  unfold ag at r
  obtain⟨p,rfl,hp⟩:=r
  obtain⟨l,h1,h2⟩:=my (X:=X) S hp h
  exact⟨p,l,rfl,h1,h2⟩
 | _=>cases h
theorem BJ(hu:X.A.units+64 < cLine):iT X (W2 .Eq) vo:=by
 obtain⟨r0,c0,k0⟩:=F4 (X:=X) hu
 refine⟨_,dm.or (BI (X:=X) false hu) c0,λx y a b st H m Q S rx ry p=>?_⟩
 unfold vo at p
 cases e1:nG st x with
 | none=>rw[e1] at p;exact .inr (k0 x y a b st H m Q S rx ry p)
 | some k1=>
  cases e2:nG st y with
  | none=>rw[e1,e2] at p;exact .inr (k0 x y a b st H m Q S rx ry p)
  | some k2=>
   rw[e1,e2] at p
   dsimp only at p
   by_cases c:kU st k1=true/\kU st k2=true
   ·rw[if_pos c] at p
    obtain⟨p1,l1,rfl,d1,r1⟩:=mz (X:=X) S rx e1
    obtain⟨p2,l2,rfl,d2,r2⟩:=mz (X:=X) S ry e2
    exact .inl ⟨m,st,p1,p2,k1,k2,l1,l2,S,rfl,rfl,d1,d2,r1,r2,c.1,c.2,p _ m H Ext.refl S gH⟩
   ·rw[if_neg c] at p;exact False.elim p
theorem BK(hu:X.A.units+64 < cLine):iT X (W2 .NotEq) qI:=by
 obtain⟨r0,c0,k0⟩:=F5 (X:=X) hu
 refine⟨_,dm.or (BI (X:=X) true hu) c0,λx y a b st H m Q S rx ry p=>?_⟩
 unfold qI at p
 cases e1:nG st x with
 | none=>rw[e1] at p;exact .inr (k0 x y a b st H m Q S rx ry p)
 | some k1=>
  cases e2:nG st y with
  | none=>rw[e1,e2] at p;exact .inr (k0 x y a b st H m Q S rx ry p)
  | some k2=>
   rw[e1,e2] at p
   dsimp only at p
   by_cases c:kU st k1=true/\kU st k2=true
   ·rw[if_pos c] at p
    obtain⟨p1,l1,rfl,d1,r1⟩:=mz (X:=X) S rx e1
    obtain⟨p2,l2,rfl,d2,r2⟩:=mz (X:=X) S ry e2
    exact .inl ⟨m,st,p1,p2,k1,k2,l1,l2,S,rfl,rfl,d1,d2,r1,r2,c.1,c.2,p _ m H Ext.refl S gH⟩
   ·rw[if_neg c] at p;exact False.elim p
end
end J
namespace J
open PySem PySem.Spec PyProof.Rows L2 PySem.W
section
variable {X:Cx}
theorem yR(hc:X.calm=true){pins:List (WN×Obj)}{s:WT}{σ:L2.St}{H:Hp}{p:WN}{ns:List Int}{Q:VK}{dn:Int}{dv:WU}(rd:RelV (.int dn) dv)(I:L2.Inv X pins σ H s)(hq:ij X.K H p (ns.map V.int))(q:∀v:V,(ns=[]/\v= .int dn)\/(∃n r,ns=n::r/\v= .int (fD n r))->Q v H) :
  W8 (model X.prog X.w) X.A (call (.builtin "max") [.ref p] [(Str.ofString "default",dv)]) (EP X pins σ Q) X.xe s:=by
 obtain⟨its,r',pl,hz⟩:=I.list hq
 obtain⟨xs,rfl,e0⟩:=dR r'
 have hl:=pl.isList
 have e:(xs.map λp=>Value.int p.1 p.2).toArray=intItems xs.toArray:=by unfold intItems;simp
 rw[e] at hl
 have hlen:xs.length=ns.length:=by rw[<-e0];simp
 have hnum:=λi=>eQ xs i
 rw[e0] at hnum
 have hh:X.A.handled=none:=I.ok.hd hc
 have nm:(toString "max"++toString ".loop":String)="max.loop":=by decide
 refine kmk_tree F.kind_max F.plain_max F.entry_max (sR _ _) ?_
 show W8 _ X.A.in1 (Builtin.Builtins.bindParams "max" ["key","default"] 0 ⟨[],[(Str.ofString "default",dv)]⟩ >>= _) _ _ s
 refine W9 (wpAny_of_eq (show Builtin.Builtins.bindParams "max" ["key","default"] 0 ⟨[],[(Str.ofString "default",dv)]⟩=pure [none,some dv] from rfl) (W9 (Xe ?_)))
 refine W9 (iter_intList hl λs₂ e2 st hfp hlI=>?_)
 subst e2
 refine W9 (Xd ?_)
 rw[nm]
 have W:=Walks.list (prog:=X.prog) (w:=X.w) (A:=X.A.in1) hh _ p hlI (intItems xs.toArray)
 refine Xe ⟨plainId_quiet F.plain_max_loop _,pR W _ (CmpOf.ints_gt (numAt xs.toArray) (λ_ _=>intItems_at)) (λhm=>Nat.lt_irrefl _ (hfp _ hm)) _ 0 _ [] 0 rfl (Nat.zero_le _) (W.frame _ _ _ st λb _ o e=>Heap.get?_push_of_some _ e) (.inl ⟨rfl,rfl⟩) (Heap.get?_push_size _ rfl) λv h' tk hv hk=>?_⟩
 have kp:∀b o,s.heap.get? b=some o->h'.get? b=some o:=λb o e=>by
  have e3:(s.heap.push { cls:=.type "list_iterator",data:=.fields #[.ref p,.int 0 0] }).get? b=some o:=Heap.get?_push_of_some _ e
  exact hk b o (by intro z;simp at z;subst z;exact Nat.lt_irrefl _ (Heap.lt_size e)) (Nat.ne_of_lt (Heap.lt_size e3)) (Heap.get?_push_of_some _ e3)
 have hsz:(intItems xs.toArray).size=ns.length:=by simp[intItems,hlen]
 rcases hv with ⟨n0,rfl⟩ | ⟨i,n1,hv⟩
 ·exact⟨.int dn,H,I.kept kp,rd,q _ (.inl ⟨List.length_eq_zero_iff.mp (by omega),rfl⟩)⟩
 ·obtain⟨t,rfl⟩:=intItems_at hv
  cases ns with
  | nil=>rw[hsz] at n1;cases n1
  | cons n r=>
   refine⟨.int (fD n r),H,I.kept kp,⟨t,?_⟩,q _ (.inr ⟨n,r,rfl,rfl⟩)⟩
   obtain⟨h1,h2⟩:=PySem.argBest_gt (numAt xs.toArray) i
   congr 1
   have hr:(n::r).length=i+1:=by omega
   refine pP ?_ λa ha=>?_
   ·rw[hnum]
    exact gq (by omega)
   ·obtain⟨j,hj,rfl⟩:=List.mem_iff_getElem.mp ha
    have q2:=h2 j (by omega)
    rw[hnum j,List.getD_eq_getElem?_getD,List.getElem?_eq_getElem hj] at q2
    exact q2
def PY(dn:Int):List Int->Int
 | []=>dn
 | n::r=>fD n r
def pY(dn:Int):List Wv->Hs->Re Wv
 | [.ref l],st=>match af st l with
  | some ws=>(match intsOf ws with | some ns=> .ok (.int (PY dn ns)) st | none=> .bad)
  | none=> .bad
 | _,_=> .bad
theorem ET{dn:Int}{g:GA}{p pos kp cp:Pos}{e:Expr}{kk:Nat}(hc:X.calm=true)(hg:Gl X "max")(hm:X.mg "max"=none)(ha:JA X [e] g)(hv:WY "max"=some (.builtin "max"))
  (he:W7 [e] X.env=[(false,eval e X.env)]):JE X (.Call (.Name "max" p) [e] [⟨some (Str.ofString "default"),.Constant (.int dn) kk cp,kp⟩] pos) (ao (pY dn) g):=by
 intro ρ st σ H m Q S R pp pins s I
 have args:=ha.go (T:=λvs H1=>∃ws st1 m1,aq X σ m H (pY dn ws st1).jh (HK X.K m H Q)/\Ext X.K m H m1 H1/\aL X.K m1 st1 H1/\ah X.K m1 H1 ws vs) S R (aq.bind pp)
  λws st1 vs m1 H1 p1 e1 S1 rs=>⟨ws,st1,m1,p1,e1,S1,rs⟩
 refine wpAny_Call_Name_kw (iw I hg hm hv ?_ (by decide) (by decide))
 refine callWith_kw (aM (args pos pins s I) λus s1 ⟨vs,H1,I1,r,ws,st1,m1,p1,e1,S1,rs⟩=>?_) (by rw[he];rfl) (by rw[he];rfl)
 have kwd:=vZ (nm:=some (Str.ofString "default")) (kpos:=kp) (X:=X) (zu (i:=dn) (j:=kk) (pos:=cp)) zN pos pins s1 σ H1 (λzs H2=>zs=[.int dn]/\H2=H1) I1 ⟨rfl,rfl⟩
 refine aM kwd λzs s2 ⟨ys,H2,I2,rz,ez,eH⟩=>?_
 subst ez
 subst eH
 obtain⟨u,rfl,ru⟩:=vals1 rz
 have p2:=bP.shift (aq.jh p1) e1
 match ws,rs,p2 with
 | [],rs,p=>exact False.elim p
 | x::y::t,rs,p=>cases x<;>exact False.elim p
 | [x],rs,p=>
  obtain⟨v,rfl,r1⟩:=jd rs
  cases x with
  | ref l=>
   unfold pY at p
   unfold ag at r1
   obtain⟨a,rfl,hl⟩:=r1
   obtain⟨u',rfl,UI⟩:=vals1 r
   cases UI
   cases e:af st1 l with
   | none=>simp only[e] at p;exact False.elim p
   | some ws=>
    simp only[e] at p
    cases e2:intsOf ws with
    | none=>simp only[e2] at p;exact False.elim p
    | some ns=>
     simp only[e2] at p
     obtain⟨xs,q1,q2⟩:=S1.read hl e
     have q3:=bY q2 e2
     subst q3
     refine yR hc ru I2 q1 λv hv=>p v m1 H2 Ext.refl S1 ?_
     rcases hv with ⟨rfl,rfl⟩ | ⟨n,r,rfl,rfl⟩
     ·exact mkInt
     ·exact mkInt
  | _=>exact False.elim p
end
end J
namespace J
open PySem PySem.Spec PyProof.Rows L2
section
variable {prog:WS} {w:WV} {K:Type} [DecidableEq K] {knd:HeapKind prog w K} {A:WO} {E:WU->WT->Prop} {s:WT} {d:WN} {xs:List (K×WN×WU)}
theorem vp{Q:WU->WT->Prop}(hm:s.heap.DictOfH knd d xs)(hsz:xs.length<=W6)(k:∀h',h'.DictOfH knd d []->Heap.SameBut d s.heap h'->Q .none { s with heap:=h' }) :
  W8 (model prog w) A (call (.builtin "dict.clear") [.ref d]) Q E s:=by
 have ty:s.TypeIs (.ref d) "dict":=hm.typeIs
 obtain⟨o,es,ep,ho,hc,hd,he,his,hnd⟩:=id hm
 have hes:es.size<=W6:=by have e:=size_of_entries he;omega
 have M:MeetsIn prog w (Builtin.«dict.clear» ⟨[.ref d],[]⟩) (λ_ R s'=>s'=s/\∀h',h'.DictOfH knd d []->Heap.SameBut d s.heap h'->R (.ok (.ret .none)) { s with heap:=h' }):=.of_wp λA' R s' ⟨e,k⟩=>by
  subst e
  unfold Builtin.«dict.clear»
  refine W9 ?_
  unfold Builtin.Dict.noArgs
  refine W9 (wpAny_notOrdered_dict ty (show W8 _ _ (pure d) _ _ s' from Xe ?_))
  refine W9 (W_ ho hd (W9 ?_))
  unfold bearsInstanceDictMark
  refine W9 (wpAny_load ho (Xe ?_))
  refine W9 (wpAny_updateDictKeys (hz:=hes) ho hd ?_)
  have fin:R (.ok (.ret .none)) { s' with heap:=s'.heap.update d (Obj.mapDictKeys λ_=>#[]) } :=
   k _ ⟨_,_,ep+1,Heap.get?_update_self _ ho (Obj.isFreed_of_dict (Obj.data_mapDictKeys hd _)),hc.mapDictKeys _,Obj.data_mapDictKeys hd _,rfl,(λ_ z=>by cases z),.nil⟩ (Heap.SameBut.update ..)
  split
  ·exact W9 (wpAny_letGo (Xe ⟨_,rfl,fin⟩))
  ·exact Xe ⟨_,rfl,fin⟩
 exact call_meetsIn PySem.F.slot_dict_clear ty PySem.F.entry_dict_clear (PySem.F.args_dict_clear_1 _) M ⟨rfl,k⟩
end
section
variable {X:Cx}
def w4:V->List V->Hp->VK->Prop:=λx vs H Q=>∃l kvs,x= .ref l/\vs=[]/\H l=some (.dT kvs)/\Q .aF (upd H l (.dT []))
theorem yS:Lx X "dict.clear" w4:=by
 intro pins s σ H x vs v us Q I rx rv h
 obtain⟨l,kvs,rfl,rfl,hH,q⟩:=h
 cases rx
 have OR:=rv.zero
 subst OR
 obtain⟨zz,hd,xs,rel,dd⟩:=FP I.hok hH
 refine vp dd (by rw[<-Paired.length rel];exact zz) λh' FQ hs=>?_
 obtain⟨q',es,ep,hq,h2,h3,h4,_,h5⟩:=FQ
 exact⟨.aF,_,me (ob:=.dT []) I (by rw[hH];exact True.intro) hs ⟨q',hq⟩ ⟨Nat.zero_le _,hd,[],.nil,q',es,ep,hq,h2,h3,h4,h5⟩,rfl,q⟩
def PZ(to:TE):TE:=λσ H Q=>to σ H λx H1=>(Nq X.K "list" x H1/\zV x [] H1 Q)\/(Nq X.K "dict" x H1/\w4 x [] H1 Q)
theorem Jm{o:Expr}{to:TE}{apos cpos:Pos}(ho:PE X o to)(m:M0 X o "clear" apos cpos):PE X (.Call (.Attribute o "clear" apos) [] [] cpos) (PZ (X:=X) to):=by
 intro pins s σ H Q I h
 refine wpAny_Call_method0_late m.base m.line (aM (ho pins s σ H _ I h) λv s1 ⟨x,H1,I1,r1,z⟩=>?_)
 rcases z with ⟨ty,q1⟩ | ⟨ty,q1⟩
 ·obtain⟨h1,h2⟩:=uJ I1 r1 ty
  exact⟨"list","list.clear",F.plainAttrs_list,F.slot_list_clear,F.type_list_clear,h1,h2,Calls.callWith_builtin rfl (PySem.evalArgs_none (zW pins s1 σ H1 x [] v [] Q I1 r1 .nil q1))⟩
 ·obtain⟨h1,h2⟩:=uJ I1 r1 ty
  exact⟨"dict","dict.clear",F.plainAttrs_dict,F.slot_dict_clear,F.type_dict_clear,h1,h2,Calls.callWith_builtin rfl (PySem.evalArgs_none (yS pins s1 σ H1 x [] v [] Q I1 r1 .nil q1))⟩
def EU(w:Wv)(st:Hs):Re Wv:=match w with
 | .ref l=>(match st[l]? with
  | some (.lst _)=> .ok .aF (st.set l (.lst []))
  | some (.bh _)=> .ok .aF (st.set l (.bh []))
  | _=> .bad)
 | _=> .bad
def vq(g:GE):GE:=λρ st=>(g ρ st).bind EU
theorem BL{o:Expr}{g:GE}{apos cpos:Pos}(h:JE X o g)(m:M0 X o "clear" apos cpos):JE X (.Call (.Attribute o "clear" apos) [] [] cpos) (vq g) :=
 JE.of (Jm aD m) λρ st σ H m Q S R p=>by
  refine h.go S R (aq.bind p) λw st1 v m1 H1 p1 e1 S1 r1=>?_
  cases w with
  | ref l=>
   unfold ag at r1
   obtain⟨a,rfl,ha⟩:=r1
   unfold EU at p1
   dsimp only at p1
   cases q2:st1[l]? with
   | none=>rw[q2] at p1;exact False.elim p1
   | some ob=>
    rw[q2] at p1
    cases ob with
    | lst ws=>
     obtain⟨xs,y1,y2⟩:=(show ∃ys,H1 a=some (.lst ys)/\ah X.K m1 H1 ws ys from S1.obj _ _ _ ha q2)
     have ex:Ext X.K m1 H1 m1 (upd H1 a (.lst [])):=Ext.f9 (.inr (.inl ⟨_,y1⟩))
     exact .inl ⟨.inl ⟨rfl,xs,.inl (.inl y1)⟩,a,xs,rfl,rfl,y1,p1 .aF m1 _ (e1.trans ex) (S1.jv ha q2 rfl ⟨[],az,ah.nil⟩) (by unfold ag;rfl)⟩
    | bh kvs=>
     obtain⟨xs,y1,y2⟩:=(show ∃ys,H1 a=some (.dT ys)/\RelK X.K m1 H1 kvs ys from S1.obj _ _ _ ha q2)
     have ex:Ext X.K m1 H1 m1 (upd H1 a (.dT [])):=Ext.f9 (.inr (.inr (.inr ⟨_,y1⟩)))
     exact .inr ⟨.inr (.inr (.inl ⟨rfl,.inr ⟨xs,y1⟩⟩)),a,xs,rfl,rfl,y1,p1 .aF m1 _ (e1.trans ex) (S1.jv ha q2 rfl ⟨_,az,RelK.nil⟩) (by unfold ag;rfl)⟩
    | _=>exact False.elim p1
  | _=>exact False.elim p1
def oH(tb:Tab)(tt:mX):List Wv->Hs->Re Wv
 | [.ref l,.ty T],st=>if T="dict"/\(jB st[l]?).isSome=true then .ok (.bl true) st else a8 tb tt [.ref l,.ty T] st
 | ws,st=>a8 tb tt ws st
theorem BM:cC X (.builtin "isinstance") (λvs H Q=>∃a kvs,vs=[.ref a,.ty "dict"]/\Rd H a (.dT kvs)/\Q (.bl true) H):=by
 intro pins s σ H xs us Q I r h
 obtain⟨a,kvs,rfl,e,q⟩:=h
 obtain⟨u,u',rfl,r1,r2⟩:=vals2 r
 cases r1
 cases r2
 obtain⟨t1,_,_⟩:=HH I (.inr ⟨kvs,e⟩)
 exact call_isinstance_yes (Tx:="dict") t1 (by kernel_rfl) (by rw[W4];kernel_rfl) ⟨.bl true,H,I,rfl,q⟩
theorem Jn{tb:Tab}{tt:mX}{tc:Tab}(O:TabOk X.K tb tt tc):bJ X (.builtin "isinstance") (oH tb tt):=by
 obtain⟨r0,c0,k0⟩:=AV (X:=X) O
 refine⟨_,BM.or c0,λws vs st H m Q S r p=>?_⟩
 have old:bP X.K m H (a8 tb tt ws st) Q->r0 vs H Q:=λp=>k0 ws vs st H m Q S r p
 unfold oH at p
 split at p
 ·rename_i l T
  by_cases c:T="dict"/\(jB st[l]?).isSome=true
  ·rw[if_pos c] at p
   obtain⟨rfl,c2⟩:=c
   obtain⟨kvs,e⟩:=Option.isSome_iff_exists.mp c2
   obtain⟨v,v',rfl,r1,r2⟩:=uR r
   unfold ag at r1 r2
   obtain⟨a,rfl,ha⟩:=r1
   subst r2
   obtain⟨xs,h1,_⟩:=my (X:=X) S ha e
   exact .inl ⟨a,xs,rfl,h1,p _ m H Ext.refl S (by unfold ag;rfl)⟩
  ·rw[if_neg c] at p
   exact .inr (old p)
 ·exact .inr (old p)
end
end J
namespace J
open PySem PySem.Spec PyProof.Rows L2
structure Ct where
 N:List Str
 names:List (Str×WR)
 consts:List (Str×Wv)
 bl:List Str
 fns:List (Str×Nat×(List Wv->Hs->Re Wv))
 tb:Tab:=[]
 tt:mX:=[]
 clss:List Str:=[]
 vt:List Str:=[]
 tc:Tab:=[]
 yT:List (Str×Dc):=[]
 rC:List Str:=[]
 UJ:List Str:=[]
 Wz:List Str:=[]
 vw:List Str:=[]
 loop:Bool:=true
 free:Bool:=true
 top:Bool:=true
 lam:Option (Lm×LF):=none
 BN:List (Str×RS):=[]
 P0:List Str:=[]
 lj:Nat:=0
 self:Str:=""
def jD(x:Str):List Str->Option Nat
 | []=>none
 | y::r=>if x=y then some 0 else match jD x r with
  | some i=>some (i+1)
  | none=>none
theorem e_{x:Str}:∀{N:List Str}{i:Nat},jD x N=some i->N[i]? =some x
 | [],i,h=>by cases h
 | y::r,i,h=>by
  unfold jD at h
  by_cases e:x=y
  ·rw[if_pos e] at h;cases h;subst e;rfl
  ·rw[if_neg e] at h
   cases q:jD x r with
   | none=>rw[q] at h;cases h
   | some j=>rw[q] at h;cases h;simpa using e_ q
def okN(x:Str):Bool:=!(x == ("__debug__":Str))&& !(x == ("__classdict__":Str))&& !(decide (x="__name__"))
theorem dk{x:Str}(h:okN x=true):(x == ("__debug__":Str))=false:=by unfold okN at h;revert h;cases (x == ("__debug__":Str))<;>simp
theorem BO{x:Str}(h:okN x=true):(x == ("__classdict__":Str))=false:=by unfold okN at h;revert h;cases (x == ("__classdict__":Str))<;>simp
theorem tG{x:Str}(h:okN x=true):x≠"__name__":=by
 intro e
 subst e
 unfold okN at h
 simp at h
def tH:List Wv->List V->Prop
 | [],[]=>True
 | .int i::r,.int j::t=>i=j/\tH r t
 | .str x::r,.str y::t=>(x=y/\PyData.strOk x=true)/\tH r t
 | _,_=>False
theorem tH.rel{K:PySem.W.Frag}{m:Mp}{H:Hp}:∀{ws:List Wv}{vs:List V},tH ws vs->ah K m H ws vs
 | [],[],_=>ah.nil
 | .int i::r,.int j::t,h=>by
  obtain⟨rfl,h⟩:=h
  exact ah.cons (by unfold ag;rfl) h.rel
 | .str x::r,.str y::t,h=>by
  obtain⟨⟨rfl,hx⟩,h⟩:=h
  exact ah.cons (by unfold ag;exact⟨rfl,hx⟩) h.rel
 | [],_::_,h=>False.elim h
 | .int i::r,[],h=>False.elim h
 | .str i::r,[],h=>False.elim h
 | .int i::r,.str _::_,h=>False.elim h
 | .str i::r,.int _::_,h=>False.elim h
def BP(K:PySem.W.Frag)(mg:Str->Option WU)(x:Str):Wv->Prop
 | .int i=>∃t,mg x=some (.int i t)
 | .str y=>(∃t,mg x=some (.str y t))/\PyData.strOk y=true
 | .mQ ws=>∃(a:WN)(vs:List V)(o:Obj)(its:Array WU)(n:Nat),mg x=some (.ref a)/\K.lookup a=some o/\o.cls= .type "tuple"/\o.data= .seq its n/\its.size<=W6/\Vals vs its.toList/\tH ws vs
 | _=>False
structure MD(c:Ct)(k:Nat)(X:Cx):Prop where
 lam:∀p L,c.lam=some (p,L)->Jg X.prog X.w X.K X.mg X.base k p 3 L
 BN:∀x F,c.BN.lookup x=some F->RT X.prog X.w X.K X.mg k c.lj x F
 Jo:∀x n F,c.fns.lookup x=some (n,F)->c.P0.contains x=true->∀base,Bx X.K X.mg base->fB X.prog X.w X.K X.mg base c.lj x n F
 at':c.top=true->c.self∈bO->∃P,Gh X c.self P
structure Good(c:Ct)(k:Nat)(X:Cx):Prop where
 N:X.N=c.N
 sc:X.env.scope.names=c.names
 nd:c.N.Nodup
 un:X.A.units+64 < cLine
 free:c.free=true->iy k X.A/\X.calm=true
 loop:c.loop=true->X.calm=true/\PassesOwn (model X.prog X.w) X.A X.env X.xe
 cst:∀x w,c.consts.lookup x=some w->BP X.K X.mg x w
 bl:∀x,c.bl.contains x=true->X.mg x=none
 fns:∀x n F,c.fns.lookup x=some (n,F)->fB X.prog X.w X.K X.mg X.base k x n F
 stk:c.top=true->O5 X
 fn:c.top=true->∀x,X.fn x=true
 kind:X.env.scope.kind= .function
 tab:TabOk X.K c.tb c.tt c.tc
 cls:∀x,c.clss.contains x=true->∃C,X.mg x=some (.ref C)/\D7 X.K x C
 vt:∀x,c.vt.contains x=true->∃C,X.mg x=some (.ref C)/\ClsAt X.K x C
 yT:∀x kvs,c.yT.lookup x=some kvs->yN X.K X.w X.mg x kvs
 rm:eC k X.A
 vw:∀x n F,c.vw.contains x=true->c.fns.lookup x=some (n,F)->sU X.prog X.w X.K X.mg X.base k x n F
 x:MD c k X
 fr:A5 X
 hd:uV X
theorem w5{k:Nat}{A:WO}(hr:iy k A):A.units+64 < cLine:=by have:=hr.un;omega
def Ct.Gj(c:Ct):Ct:={ c with loop:=false }
def Ct.qJ(c:Ct):Ct:={ c with loop:=false,free:=false }
abbrev Ct.un(c:Ct):Ct:=c.qJ
theorem Good.body{c:Ct}{k:Nat}{X:Cx}(G:Good c k X)(hf:c.free=true)(pn:List (WN×Obj))(E:WU->WT->Prop):Good c.Gj k (D9 X X.A true pn E) :=
 ⟨G.N,G.sc,G.nd,G.un,λ_=>⟨(G.free hf).1,rfl⟩,(λz=>by cases z),G.cst,G.bl,G.fns,λz=>⟨(G.stk z).st,(G.stk z).fr,(G.stk z).ex⟩,G.fn,G.kind,G.tab,G.cls,G.vt,G.yT,⟨G.rm.d,G.rm.u⟩,G.vw,⟨G.x.lam,G.x.BN,G.x.Jo,λt m=>(G.x.at' t m).imp λP L=>⟨L.code,L.qual,L.tab,L.mem,L.uniq,L.bm⟩⟩,G.fr,G.hd⟩
theorem Good.suite{c:Ct}{k:Nat}{X:Cx}(G:Good c k X){a:WN}{o:Obj}{u:HO}(nx:yo o)(pn:List (WN×Obj))(E:WU->WT->Prop):Good c.qJ k (Ma X a (.bU o u) pn E) :=
 ⟨G.N,G.sc,G.nd,G.un,(λz=>by cases z),(λz=>by cases z),G.cst,G.bl,G.fns,λz=>⟨(G.stk z).st,(G.stk z).fr,(G.stk z).ex⟩,G.fn,G.kind,G.tab,G.cls,G.vt,G.yT,⟨G.rm.d,G.rm.u⟩,G.vw,⟨G.x.lam,G.x.BN,G.x.Jo,λt m=>(G.x.at' t m).imp λP L=>⟨L.code,L.qual,L.tab,L.mem,L.uniq,L.bm⟩⟩,G.fr,.inr ⟨a,o,u,rfl,nx,az⟩⟩
theorem BQ:WY "ValueError"=some (.type "ValueError"):=by decide+kernel
theorem tI:WY "dict"=some (.type "dict"):=by decide+kernel
def EV(x:Str):Option String :=
 if x="int" then some "int" else if x="str" then some "str" else if x="bool" then some "bool" else if x="tuple" then some "tuple" else if x="list" then some "list" else if x="ValueError" then some "ValueError" else if x="dict" then some "dict" else none
theorem EW{x:Str}{T:String}(h:EV x=some T):WY x=some (.type T):=by
 unfold EV at h
 by_cases e:x="int"
 ·rw[if_pos e] at h;cases h;subst e;exact AH
 rw[if_neg e] at h
 by_cases e:x="str"
 ·rw[if_pos e] at h;cases h;subst e;exact AI
 rw[if_neg e] at h
 by_cases e:x="bool"
 ·rw[if_pos e] at h;cases h;subst e;exact AJ
 rw[if_neg e] at h
 by_cases e:x="tuple"
 ·rw[if_pos e] at h;cases h;subst e;exact AK
 rw[if_neg e] at h
 by_cases e:x="list"
 ·rw[if_pos e] at h;cases h;subst e;exact AL
 rw[if_neg e] at h
 by_cases e:x="ValueError"
 ·rw[if_pos e] at h;cases h;subst e;exact BQ
 rw[if_neg e] at h
 by_cases e:x="dict"
 ·rw[if_pos e] at h;cases h;subst e;exact tI
 rw[if_neg e] at h
 cases h
section
variable {X:Cx}
def ME:eE:=λ_ _ _=> .bad
theorem Jp{f:WU->WU->Sem WU}:iT X f ME:=⟨λ_ _ _ _=>False,λ_ _ _ _ _ _ _ _ _ _ _ _ h=>h.elim,λ_ _ _ _ _ _ _ _ _ _ _ p=>p⟩
def MF:Operator->eE
 | .Add=>b8
 | .Sub=>qt
 | .Mult=>cD
 | .FloorDiv=>eX
 | .Mod=>oMod
 | .Pow=>rZ
 | _=>ME
theorem EY(o:Operator):iT X (WX o) (MF o):=by
 cases o<;>first | exact Ig | exact H_ | exact Bw | exact DL | exact Ia | exact Ie | exact Jp
def vx:CmpOp->eE
 | .Eq=>oEq
 | .NotEq=>wt
 | .Lt=>oLt
 | .LtE=>oLe
 | .Gt=>LN
 | .GtE=>O0
 | .Is=>F1
 | .IsNot=>jx
 | .In=>IT
 | .NotIn=>qD
theorem i7(hu:X.A.units+64 < cLine)(o:CmpOp):iT X (W2 o) (vx o):=by
 cases o<;>first | exact F4 hu | exact F5 hu | exact Jc hu | exact Jb hu | exact LQ | exact LR | exact LS | exact Ar | exact IU | exact yI
def BR(c:Ct)(x:Str):GE:=if okN x=true then
  match c.names.lookup x with
  | some .local=>(match jD x c.N with | some i=>ae i | none=>bf)
  | some .cell=>(match jD x c.N with | some i=>ae i | none=>bf)
  | some .free=>(match jD x c.N with | some i=>ae i | none=>bf)
  | some .globalImplicit=>(match c.consts.lookup x with
   | some w=>gC w
   | none=>if c.clss.contains x=true then gC (.cls x) else if c.vt.contains x=true then gC (.cls x) else if c.bl.contains x=true then(match EV x with | some T=>gC (.ty T) | none=>bf) else bf)
  | _=>bf
 else bf
theorem BS{c:Ct}{k:Nat}(G:Good c k X)(x:Str)(pos:Pos):JE X (.Name x pos) (BR c x):=by
 unfold BR
 by_cases hx:okN x=true
 ·rw[if_pos hx]
  cases e:c.names.lookup x with
  | none=>exact ay
  | some kd=>
   have el:X.env.scope.names.lookup x=some kd:=by rw[G.sc];exact e
   cases kd with
   | «local»=>
    dsimp only
    cases e2:jD x c.N with
    | none=>exact ay
    | some i=>exact uM i (by rw[G.N];exact e_ e2) (Or.inl el) (dk hx) (BO hx)
   | cell=>
    dsimp only
    cases e2:jD x c.N with
    | none=>exact ay
    | some i=>exact uM i (by rw[G.N];exact e_ e2) (Or.inr (Or.inl el)) (dk hx) (BO hx)
   | free=>
    dsimp only
    cases e2:jD x c.N with
    | none=>exact ay
    | some i=>exact uM i (by rw[G.N];exact e_ e2) (Or.inr (Or.inr el)) (dk hx) (BO hx)
   | globalImplicit=>
    dsimp only
    have hg:Gl X x:=el
    cases e2:c.consts.lookup x with
    | some w=>
     have q:=G.cst x w e2
     cases w with
     | int i=>obtain⟨t,q⟩:=q;exact Ak hg q (dk hx)
     | str y=>obtain⟨⟨t,q⟩,z⟩:=q;exact Al hg q z (dk hx)
     | mQ ws=>
      obtain⟨a,vs,o,its,n,q1,q2,q3,q4,q5,q6,q7⟩:=q
      exact JE.of (iS (v:=.ref a) hg q1 rfl (dk hx)) λρ st σ H m Q S R p=>p (.ref a) m H Ext.refl S (by unfold ag;exact⟨a,vs,rfl,⟨o,its,n,q2,q3,q4,q5,q6⟩,q7.rel⟩)
     | _=>exact False.elim q
    | none=>
     dsimp only
     by_cases e5:c.clss.contains x=true
     ·rw[if_pos e5]
      obtain⟨C,q1,q2⟩:=G.cls x e5
      exact JE.of (iS (v:=.ref C) hg q1 rfl (dk hx)) λρ st σ H m Q S R p=>p (.ref C) m H Ext.refl S (by unfold ag;exact⟨C,rfl,q2.cls⟩)
     rw[if_neg e5]
     by_cases e6:c.vt.contains x=true
     ·rw[if_pos e6]
      obtain⟨C,q1,q2⟩:=G.vt x e6
      exact JE.of (iS (v:=.ref C) hg q1 rfl (dk hx)) λρ st σ H m Q S R p=>p (.ref C) m H Ext.refl S (by unfold ag;exact⟨C,rfl,q2⟩)
     rw[if_neg e6]
     by_cases e3:c.bl.contains x=true
     ·rw[if_pos e3]
      cases e4:EV x with
      | none=>exact ay
      | some T=>exact LG hg (G.bl x e3) (EW e4) (tG hx) (dk hx)
     ·rw[if_neg e3];exact ay
   | _=>exact ay
 ·rw[if_neg hx];exact ay
def BU:Const->GE
 | .none=>gC .aF
 | .bool b=>gC (.bl b)
 | .int i=>gC (.int i)
 | .str x=>if PyData.strOk x=true then gC (.str x) else bf
 | _=>bf
theorem yU(k:Const)(j:Nat)(pos:Pos):JE X (.Constant k j pos) (BU k):=by
 cases k with
 | none=>exact HM
 | bool b=>exact LD
 | int i=>exact HL
 | str x=>
  show JE X _ (if PyData.strOk x=true then gC (.str x) else bf)
  by_cases h:PyData.strOk x=true
  ·rw[if_pos h];exact HN h
  ·rw[if_neg h];exact ay
 | _=>exact ay
def plain:Expr->Bool
 | .Starred .. =>false
 | _=>true
theorem aH{e:Expr}{es:List Expr}{env:Env}(h:plain e=true):W7 (e::es) env=(false,eval e env)::W7 es env:=by
 cases e<;>first | rfl | cases h
theorem eS{pos:Pos}{env:Env}:∀{es:List Expr},es.all plain=true->(backTo pos (W7 es env)).any (·.1)=false
 | [],_=>rfl
 | e::es,h=>by
  rw[List.all_cons,Bool.and_eq_true] at h
  rw[aH h.1]
  have q:=eS (pos:=pos) (env:=env) h.2
  unfold backTo at q ⊢
  rw[List.map_cons,List.any_cons,q]
  rfl
def gw(f:Expr->GE):List Expr->GA
 | []=>ai
 | e::es=>aa (f e) (gw f es)
theorem cL{f:Expr->GE}(h:∀e,JE X e (f e)):∀es:List Expr,es.all plain=true->JA X es (gw f es)
 | [],_=>Ap
 | e::es,g=>by
  rw[List.all_cons,Bool.and_eq_true] at g
  exact wq (h e) (cL h es g.2) (aH g.1)
def NL(c:Ct)(x:Str):Option (WU×(List Wv->Hs->Re Wv)) :=
 if x="len" then some (.builtin "len",if c.rC.isEmpty=true then fO else fJ) else if x="isinstance" then some (.builtin "isinstance",if c.bl.contains "dict"=true then oH c.tb c.tt else a8 c.tb c.tt) else if x="max"/\c.free=true then some (.builtin "max",lH) else if x="min"/\c.free=true then some (.builtin "min",lI) else if x="sum"/\c.free=true then some (.builtin "sum",oE) else if x="sorted" then some (.builtin "sorted",vc) else if x="dict" then some (.type "dict",nE) else none
theorem kW:WY "max"=some (.builtin "max"):=by decide+kernel
theorem pZ:WY "min"=some (.builtin "min"):=by decide+kernel
theorem yV:WY "sum"=some (.builtin "sum"):=by decide+kernel
theorem yW:WY "sorted"=some (.builtin "sorted"):=by decide+kernel
theorem Jq{c:Ct}(O:TabOk X.K c.tb c.tt c.tc):bJ X (.builtin "isinstance") (if c.bl.contains "dict"=true then oH c.tb c.tt else a8 c.tb c.tt):=by
 by_cases e2:c.bl.contains "dict"=true
 ·rw[if_pos e2];exact Jn O
 ·rw[if_neg e2];exact AV O
theorem Jr(c:Ct):bJ X (.builtin "len") (if c.rC.isEmpty=true then fO else fJ):=by
 by_cases e2:c.rC.isEmpty=true
 ·rw[if_pos e2];exact Av
 ·rw[if_neg e2];exact EM
theorem Js{c:Ct}{x:Str}{v:WU}{op:List Wv->Hs->Re Wv}(O:TabOk X.K c.tb c.tt c.tc)(hc:c.free=true->X.calm=true)(h:NL c x=some (v,op)):WY x=some v/\bJ X v op/\((∃id,v= .builtin id)\/∃T,v= .type T):=by
 unfold NL at h
 by_cases e:x="len"
 ·rw[if_pos e] at h;cases h;subst e;exact⟨yi,Jr c,.inl ⟨_,rfl⟩⟩
 rw[if_neg e] at h
 by_cases e:x="isinstance"
 ·rw[if_pos e] at h;cases h;subst e;exact⟨AG,Jq O,.inl ⟨_,rfl⟩⟩
 rw[if_neg e] at h
 by_cases e:x="max"/\c.free=true
 ·rw[if_pos e] at h;cases h;obtain⟨rfl,e2⟩:=e;exact⟨kW,En (hc e2),.inl ⟨_,rfl⟩⟩
 rw[if_neg e] at h
 by_cases e:x="min"/\c.free=true
 ·rw[if_pos e] at h;cases h;obtain⟨rfl,e2⟩:=e;exact⟨pZ,Eo (hc e2),.inl ⟨_,rfl⟩⟩
 rw[if_neg e] at h
 by_cases e:x="sum"/\c.free=true
 ·rw[if_pos e] at h;cases h;obtain⟨rfl,e2⟩:=e;exact⟨yV,IP (hc e2),.inl ⟨_,rfl⟩⟩
 rw[if_neg e] at h
 by_cases e:x="sorted"
 ·rw[if_pos e] at h;cases h;subst e;exact⟨yW,IQ,.inl ⟨_,rfl⟩⟩
 rw[if_neg e] at h
 by_cases e:x="dict"
 ·rw[if_pos e] at h;cases h;subst e;exact⟨tI,EN,.inr ⟨_,rfl⟩⟩
 rw[if_neg e] at h
 cases h
def vy(c:Ct)(fE:Expr->GE)(x:Str)(es:List Expr):GE:=if okN x=true/\es.all plain=true/\c.names.lookup x=some .globalImplicit then
   (match c.fns.lookup x with
   | some (n,F)=>if c.free=true then ax n F (gw fE es) else if c.vw.contains x=true then ax n F (gw fE es) else bf
   | none=>if c.bl.contains x=true then(match NL c x with | some (_,op)=>ao op (gw fE es) | none=>bf) else bf)
  else bf
def BV(fE:Expr->GE)(o:Expr)(name:Str)(e:Expr)(apos cpos:Pos):GE:=if plain e=true/\(apos.endLine == cpos.line)=true then
   (if name="append" then jY jz (fE o) (fE e) else if name="extend" then jY nB (fE o) (fE e) else bf)
  else bf
def vz(c:Ct)(fE:Expr->GE)(x:Str)(e:Expr)(k:Str):GE:=if okN x=true/\plain e=true/\c.names.lookup x=some .globalImplicit/\c.fns.lookup x=none/\c.bl.contains x=true/\c.free=true/\k=Str.ofString "default" then
   (if x="max" then ao pS (gw fE [e]) else if x="min" then ao pT (gw fE [e]) else bf)
  else bf
theorem yX{c:Ct}{k:Nat}(G:Good c k X){fE:Expr->GE}(h:∀e,JE X e (fE e))(x:Str)(e:Expr)(nm:Str)(kk:Nat)(p pos kp cp:Pos):JE X (.Call (.Name x p) [e] [⟨some nm,.Constant .none kk cp,kp⟩] pos) (vz c fE x e nm):=by
 unfold vz
 by_cases g:okN x=true/\plain e=true/\c.names.lookup x=some .globalImplicit/\c.fns.lookup x=none/\c.bl.contains x=true/\c.free=true/\nm=Str.ofString "default"
 ·rw[if_pos g]
  obtain⟨g1,g2,g3,g4,g5,g6,rfl⟩:=g
  have hg:Gl X x:=by
   show X.env.scope.names.lookup x=_
   rw[G.sc];exact g3
  by_cases n1:x="max"
  ·rw[if_pos n1];subst n1
   exact sS (IY (G.free g6).2) hg (G.bl _ g5) kW (cL h [e] (by simp[g2])) (tG g1) (dk g1) (aH g2)
  rw[if_neg n1]
  by_cases n1:x="min"
  ·rw[if_pos n1];subst n1
   exact sS (IZ (G.free g6).2) hg (G.bl _ g5) pZ (cL h [e] (by simp[g2])) (tG g1) (dk g1) (aH g2)
  rw[if_neg n1];exact ay
 ·rw[if_neg g];exact ay
def EZ(c:Ct)(x:Str):Option Dc:=if okN x=true/\c.names.lookup x=some .globalImplicit then c.yT.lookup x else none
theorem E1{c:Ct}{k:Nat}(G:Good c k X){x:Str}{kvs:Dc}(h:EZ c x=some kvs):Gl X x/\(x == ("__debug__":Str))=false/\yN X.K X.w X.mg x kvs:=by
 unfold EZ at h
 by_cases g:okN x=true/\c.names.lookup x=some .globalImplicit
 ·rw[if_pos g] at h
  refine⟨?_,dk g.1,G.yT x kvs h⟩
  show X.env.scope.names.lookup x=_
  rw[G.sc];exact g.2
 ·rw[if_neg g] at h;cases h
def BW(c:Ct)(fE:Expr->GE)(x:Str)(e:Expr)(k:Str)(n:Int):GE:=if x="max"/\plain e=true/\c.names.lookup x=some .globalImplicit/\c.bl.contains x=true/\c.free=true/\k=Str.ofString "default" then ao (pY n) (gw fE [e]) else bf
theorem BX{c:Ct}{k:Nat}(G:Good c k X){fE:Expr->GE}(h:∀e,JE X e (fE e))(x:Str)(e:Expr)(nm:Str)(n:Int)(kk:Nat)(p pos kp cp:Pos):JE X (.Call (.Name x p) [e] [⟨some nm,.Constant (.int n) kk cp,kp⟩] pos) (BW c fE x e nm n):=by
 unfold BW
 by_cases g:x="max"/\plain e=true/\c.names.lookup x=some .globalImplicit/\c.bl.contains x=true/\c.free=true/\nm=Str.ofString "default"
 ·rw[if_pos g]
  obtain⟨rfl,g2,g3,g5,g6,rfl⟩:=g
  exact ET (G.free g6).2 (by show X.env.scope.names.lookup _=_;rw[G.sc];exact g3) (G.bl _ g5) (cL h [e] (by simp[g2])) kW (aH g2)
 ·rw[if_neg g];exact ay
def BY(c:Ct)(fE:Expr->GE)(cpos:Pos):Expr->List Expr->List Keyword->GE
 | .Name x _,e::es,[]=>vy c fE x (e::es)
 | .Name x _,[e],[⟨some nm,.Constant .none _ _,_⟩]=>vz c fE x e nm
 | .Name x _,[e],[⟨some nm,.Constant (.int n) _ _,_⟩]=>BW c fE x e nm n
 | .Attribute (.Name x p) name apos,[e],[]=>if name="append"\/name="extend" then BV fE (.Name x p) name e apos cpos else bf
 | .Attribute (.Name x p) name apos,[],[]=>if name="clear"/\(apos.endLine == cpos.line)=true then vq (fE (.Name x p)) else bf
 | .Attribute (.Subscript a b p) name apos,[],[]=>if name="clear"/\(apos.endLine == cpos.line)=true then vq (fE (.Subscript a b p)) else bf
 | _,_,_=>bf
theorem yY{c:Ct}{k:Nat}(G:Good c k X){fE:Expr->GE}(h:∀e,JE X e (fE e))(x:Str)(e:Expr)(es:List Expr)(p pos:Pos):JE X (.Call (.Name x p) (e::es) [] pos) (vy c fE x (e::es)):=by
 unfold vy
 by_cases g:okN x=true/\(e::es).all plain=true/\c.names.lookup x=some .globalImplicit
 ·rw[if_pos g]
  obtain⟨g1,g2,g3⟩:=g
  have hg:Gl X x:=by
   show X.env.scope.names.lookup x=_
   rw[G.sc];exact g3
  have gp:plain e=true/\es.all plain=true:=by rw[List.all_cons,Bool.and_eq_true] at g2;exact g2
  have ha:=cL h (e::es) g2
  cases e1:c.fns.lookup x with
  | some nF=>
   obtain⟨n,F⟩:=nF
   dsimp only
   by_cases cf:c.free=true
   ·rw[if_pos cf]
    obtain⟨a,fd,ps,G1,G2,G3,G4⟩:=G.fns x n F e1
    exact DZ G1 (G.free cf).1 G2 G3 G4 ha hg (dk g1) (aH gp.1) (eS gp.2)
   ·rw[if_neg cf]
    by_cases cu:c.vw.contains x=true
    ·rw[if_pos cu]
     obtain⟨a,fd,ps,G1,G2,G3,G4⟩:=G.vw x n F cu e1
     exact Bt G1 G.rm G.hd G2 G3 G4 ha hg (dk g1) (aH gp.1) (eS gp.2)
    ·rw[if_neg cu];exact ay
  | none=>
   dsimp only
   by_cases e3:c.bl.contains x=true
   ·rw[if_pos e3]
    cases e4:NL c x with
    | none=>exact ay
    | some io=>
     obtain⟨v,op⟩:=io
     obtain⟨b1,b2,b3⟩:=Js (X:=X) G.tab (λz=>(G.free z).2) e4
     rcases b3 with ⟨id,rfl⟩ | ⟨T,rfl⟩
     ·exact Au b2 hg (G.bl x e3) b1 ha (tG g1) (dk g1) (aH gp.1) (eS gp.2)
     ·exact ye b2 hg (G.bl x e3) b1 ha (tG g1) (dk g1) (aH gp.1) (eS gp.2)
   ·rw[if_neg e3]
    exact ay
 ·rw[if_neg g];exact ay
theorem BZ{fE:Expr->GE}(h:∀e,JE X e (fE e))(x name:Str)(e:Expr)(p apos cpos:Pos):JE X (.Call (.Attribute (.Name x p) name apos) [e] [] cpos) (BV fE (.Name x p) name e apos cpos):=by
 unfold BV
 by_cases g:plain e=true/\(apos.endLine == cpos.line)=true
 ·rw[if_pos g]
  by_cases n1:name="append"
  ·rw[if_pos n1]
   subst n1
   exact wx AY PySem.F.slot_list_append PySem.F.type_list_append (h _) (h e) (aH g.1) g.2
  rw[if_neg n1]
  by_cases n2:name="extend"
  ·rw[if_pos n2]
   subst n2
   exact wx EE PySem.F.slot_list_extend PySem.F.type_list_extend (h _) (h e) (aH g.1) g.2
  rw[if_neg n2]
  exact ay
 ·rw[if_neg g];exact ay
theorem B0{c:Ct}{k:Nat}(G:Good c k X){fE:Expr->GE}(h:∀e,JE X e (fE e))(f:Expr)(as:List Expr)(ks:List Keyword)(pos:Pos):JE X (.Call f as ks pos) (BY c fE pos f as ks):=by
 unfold BY
 split
 ·exact yY G h _ _ _ _ _
 ·exact yX G h _ _ _ _ _ _ _ _
 ·exact BX G h _ _ _ _ _ _ _ _ _
 ·rename_i x p name apos e
  by_cases g:name="append"\/name="extend"
  ·rw[if_pos g];exact BZ h _ _ _ _ _ _
  ·rw[if_neg g]
   exact ay
 ·rename_i x p name apos
  by_cases g:name="clear"/\(apos.endLine == pos.line)=true
  ·rw[if_pos g];obtain⟨rfl,g2⟩:=g;exact BL (h _) ⟨rfl,g2⟩
  ·rw[if_neg g];exact ay
 ·rename_i a b p name apos
  by_cases g:name="clear"/\(apos.endLine == pos.line)=true
  ·rw[if_pos g];obtain⟨rfl,g2⟩:=g;exact BL (h _) ⟨rfl,g2⟩
  ·rw[if_neg g];exact ay
 ·exact ay
def yZ:Expr->Bool
 | .Slice .. =>true
 | _=>false
def B1(f:Expr->GE):Option Expr->GO
 | none=>fG
 | some e=>jm (f e)
theorem w6{f:Expr->GE}(h:∀e,JE X e (f e))(o:Option Expr):JO X o (B1 f o):=by
 cases o with
 | none=>exact DR
 | some e=>exact DS (h e)
def E2(f:Expr->GE)(a:Expr):Expr->GE
 | .Slice lo hi none _=>dB (f a) (B1 f lo) (B1 f hi)
 | .Slice .. =>bf
 | b=>aj bz (f a) (f b)
theorem B2{f:Expr->GE}(h:∀e,JE X e (f e))(a b:Expr)(pos:Pos):JE X (.Subscript a b pos) (E2 f a b):=by
 unfold E2
 split
 ·exact yH (h a) (w6 h _) (w6 h _)
 ·exact ay
 ·rename_i n1 n2
  refine LY (h a) (h b) ?_
  intro o i
  cases b<;>first | rfl | (rename_i lo hi st p;exact(n2 _ _ _ _ rfl).elim)
def E3(f:Expr->GE)(a:Expr):List CmpOp->List Expr->GE
 | [o],[b]=>if WW o b=false then aj (vx o) (f a) (f b) else bf
 | [o,o'],[b,b']=>if lastMarks [o,o'] [b,b']=false then gG (vx o) (vx o') (f a) (f b) (f b') else bf
 | _,_=>bf
theorem B3(hu:X.A.units+64 < cLine){f:Expr->GE}(h:∀e,JE X e (f e))(a:Expr)(os:List CmpOp)(bs:List Expr)(pos:Pos):JE X (.Compare a os bs pos) (E3 f a os bs):=by
 unfold E3
 split
 ·rename_i o b
  by_cases g:WW o b=false
  ·rw[if_pos g];exact uN (i7 hu o) (h a) (h b) g
  ·rw[if_neg g];exact ay
 ·rename_i o o' b b'
  by_cases g:lastMarks [o,o'] [b,b']=false
  ·rw[if_pos g];exact Am (i7 hu o) (i7 hu o') (h a) (h b) (h b') g
  ·rw[if_neg g];exact ay
 ·exact ay
def E4(f:Expr->GE)(a:Expr):List CmpOp->List Expr->GT
 | [o],[b]=>if WW o b=false then bC (aj (vx o) (f a) (f b)) else iE
 | [o,o'],[b,b']=>if lastMarks [o,o'] [b,b']=false then bC (gG (vx o) (vx o') (f a) (f b) (f b')) else iE
 | _,_=>iE
theorem w8(hu:X.A.units+64 < cLine){f:Expr->GE}(h:∀e,JE X e (f e))(a:Expr)(os:List CmpOp)(bs:List Expr)(pos:Pos):JT X (.Compare a os bs pos) (E4 f a os bs):=by
 unfold E4
 split
 ·rename_i o b
  by_cases g:WW o b=false
  ·rw[if_pos g];exact uO (i7 hu o) (h a) (h b) g
  ·rw[if_neg g];exact iF
 ·rename_i o o' b b'
  by_cases g:lastMarks [o,o'] [b,b']=false
  ·rw[if_pos g];exact An (i7 hu o) (i7 hu o') (h a) (h b) (h b') g
  ·rw[if_neg g];exact iF
 ·exact iF
def tJ(c:Ct):Expr->Bool
 | .Name x _=>c.rC.contains x
 | _=>false
def E5(c:Ct):Expr->Bool
 | .Subscript (.Name x _) (.Constant (.int 0) _ _) _=>c.rC.contains (x++"[]")
 | .Subscript (.Call (.Name x _) _ _ _) (.Constant (.int 0) _ _) _=>c.rC.contains (x++"()[]")
 | .Call (.Name x _) _ _ _=>c.rC.contains (x++"()")
 | e=>tJ c e
def Jt(c:Ct)(f:Expr->GE)(a:Expr)(os:List CmpOp)(bs:List Expr):GE:=if E5 c a=true then(match os,bs with
 | [.Eq],[b]=>if WW .Eq b=false then aj vo (f a) (f b) else bf
 | [.NotEq],[b]=>if WW .NotEq b=false then aj qI (f a) (f b) else bf
 | os,bs=>E3 f a os bs) else E3 f a os bs
theorem E6{c:Ct}{k:Nat}(G:Good c k X){f:Expr->GE}(h:∀e,JE X e (f e))(a:Expr)(os:List CmpOp)(bs:List Expr)(pos:Pos):JE X (.Compare a os bs pos) (Jt c f a os bs):=by
 unfold Jt
 by_cases g:E5 c a=true
 ·rw[if_pos g]
  split
  ·rename_i b
   by_cases gm:WW .Eq b=false
   ·rw[if_pos gm];exact uN (BJ G.un) (h a) (h b) gm
   ·rw[if_neg gm];exact ay
  ·rename_i b
   by_cases gm:WW .NotEq b=false
   ·rw[if_pos gm];exact uN (BK G.un) (h a) (h b) gm
   ·rw[if_neg gm];exact ay
  ·exact B3 G.un h a _ _ pos
 ·rw[if_neg g];exact B3 G.un h a os bs pos
def B4(c:Ct)(f:Expr->GE)(a:Expr)(os:List CmpOp)(bs:List Expr):GT:=if E5 c a=true then(match os,bs with
 | [.Eq],[b]=>if WW .Eq b=false then bC (aj vo (f a) (f b)) else iE
 | [.NotEq],[b]=>if WW .NotEq b=false then bC (aj qI (f a) (f b)) else iE
 | os,bs=>E4 f a os bs) else E4 f a os bs
theorem B5{c:Ct}{k:Nat}(G:Good c k X){f:Expr->GE}(h:∀e,JE X e (f e))(a:Expr)(os:List CmpOp)(bs:List Expr)(pos:Pos):JT X (.Compare a os bs pos) (B4 c f a os bs):=by
 unfold B4
 by_cases g:E5 c a=true
 ·rw[if_pos g]
  split
  ·rename_i b
   by_cases gm:WW .Eq b=false
   ·rw[if_pos gm];exact uO (BJ G.un) (h a) (h b) gm
   ·rw[if_neg gm];exact iF
  ·rename_i b
   by_cases gm:WW .NotEq b=false
   ·rw[if_pos gm];exact uO (BK G.un) (h a) (h b) gm
   ·rw[if_neg gm];exact iF
  ·exact w8 G.un h a _ _ pos
 ·rw[if_neg g];exact w8 G.un h a os bs pos
def E7(c:Ct):Expr->Bool
 | .Name x _=>c.rC.contains x||c.UJ.contains x
 | _=>false
def Ju(c:Ct)(f:Expr->GE):Expr->Expr->GE
 | .Name x p,b=>(match EZ c x with | some kvs=>if yZ b=false then Ge kvs (f b) else bf | none=>if E7 c (.Name x p)=true/\yZ b=false then s_ (f (.Name x p)) (f b) else E2 f (.Name x p) b)
 | a,b=>E2 f a b
theorem E8{c:Ct}{k:Nat}(G:Good c k X){f:Expr->GE}(h:∀e,JE X e (f e))(a b:Expr)(pos:Pos):JE X (.Subscript a b pos) (Ju c f a b):=by
 unfold Ju
 split
 ·rename_i x p
  cases e:EZ c x with
  | none=>
   dsimp only
   by_cases g:E7 c (.Name x p)=true/\yZ b=false
   ·rw[if_pos g]
    refine EG (by have:=G.un;omega) (h _) (h b) ?_
    intro o i
    cases b<;>first | rfl | cases g.2
   ·rw[if_neg g];exact B2 h _ b pos
  | some kvs=>
   dsimp only
   by_cases g:yZ b=false
   ·rw[if_pos g]
    obtain⟨g1,g2,g3⟩:=E1 G e
    refine Eu (h b) ?_ g1 g2 g3
    intro o i
    cases b<;>first | rfl | cases g
   ·rw[if_neg g];exact ay
 ·exact B2 h _ b pos
def pairsOf(f:Expr->GE):List (Option Expr)->List Expr->Option (List (GE×GE))
 | [],[]=>some []
 | some k::ks,v::vs=>(match pairsOf f ks vs with | some r=>some ((f k,f v)::r) | none=>none)
 | _,_=>none
def MG:List (Option Expr)->Bool
 | some (.Tuple ..)::_=>true
 | _=>false
def MH(c:Ct):List (Option Expr)->Bool
 | some (.Name x _)::_=>c.rC.contains x
 | _=>false
def B6(b:Bool)(f:Expr->GE)(ks:List (Option Expr))(vs:List Expr):GE:=if(!ks.isEmpty&&decide (ks.length<=15))=true then(match pairsOf f ks vs with | some gs=>if b=true then bf else bf | none=>bf) else bf
theorem w9(hu:X.A.units+1 < cLine)(b:Bool){f:Expr->GE}(h:∀e,JE X e (f e))(ks:List (Option Expr))(vs:List Expr)(pos:Pos):JE X (.Dict ks vs pos) (B6 b f ks vs):=by
 unfold B6
 by_cases g:(!ks.isEmpty&&decide (ks.length<=15))=true
 ·rw[if_pos g]
  simp only[Bool.and_eq_true,decide_eq_true_eq] at g
  cases e:pairsOf f ks vs with
  | none=>exact ay
  | some gs=>
   dsimp only
   by_cases t:b=true
   ·rw[if_pos t];exact ay
   ·rw[if_neg t];exact ay
 ·rw[if_neg g];exact ay
def Jv(f:Expr->GE):List Expr->GE
 | []=>bf
 | [a]=>f a
 | a::b::r=>wo (f a) (Jv f (b::r))
def P1(f:Expr->GE):List Expr->GE
 | []=>bf
 | [a]=>f a
 | a::b::r=>LI (f a) (P1 f (b::r))
theorem w_{f:Expr->GE}(h:∀e,JE X e (f e))(pos:Pos):∀es,JE X (.BoolOp .And es pos) (Jv f es)
 | []=>ay
 | [a]=>Ao (h a)
 | a::b::r=>HW (h a) (w_ h pos (b::r))
theorem B7{f:Expr->GE}(h:∀e,JE X e (f e))(pos:Pos):∀es,JE X (.BoolOp .Or es pos) (P1 f es)
 | []=>ay
 | [a]=>Ao (h a)
 | a::b::r=>LJ (h a) (B7 h pos (b::r))
def Jw(f:Expr->GT):List Expr->GT
 | []=>iE
 | [a]=>f a
 | a::b::r=>x_ (f a) (Jw f (b::r))
def P2(f:Expr->GT):List Expr->GT
 | []=>iE
 | [a]=>f a
 | a::b::r=>HR (f a) (P2 f (b::r))
theorem B8{e:Expr}:JW X e iE:=λρ st σ H m Q S R p=>False.elim p
theorem xa{f:Expr->GT}(h:∀e,JT X e (f e))(pos:Pos):∀es,JW X (.BoolOp .And es pos) (Jw f es)
 | []=>B8
 | [a]=>DI (h a)
 | a::b::r=>HU (h a) (xa h pos (b::r))
theorem B9{f:Expr->GT}(h:∀e,JT X e (f e))(pos:Pos):∀es,JW X (.BoolOp .Or es pos) (P2 f es)
 | []=>B8
 | [a]=>HS (h a)
 | a::b::r=>LH (h a) (B9 h pos (b::r))
def UK(f:Expr->GE):UnaryOp->Expr->GE
 | .USub,a=>zm ie (f a)
 | .Not,a=>F0 (f a)
 | _,_=>bf
def y3(f:Expr->GE)(g:GA->GE)(es:List Expr):GE:=if es.all plain=true then g (gw f es) else bf
def isSet:Expr->Bool
 | .Set .. =>true
 | _=>false
theorem fK{e:Expr}{env:Env}(h:isSet e=false)(x:WU):W3 e env x=pure x:=by
 cases e<;>first | rfl | cases h
def gK(c:Ct)(x:Str):Bool:=decide (x="range")&&decide (c.names.lookup x=some .globalImplicit)&&c.bl.contains x&&(match c.fns.lookup x with | some _=>false | none=>true)
theorem nH{c:Ct}{k:Nat}(G:Good c k X)(y:Str)(hy:gK c y=true):y="range"/\Gl X y/\X.mg y=none:=by
 unfold gK at hy
 simp only[Bool.and_eq_true,decide_eq_true_eq] at hy
 refine⟨hy.1.1.1,?_,G.bl y hy.1.2⟩
 show X.env.scope.names.lookup y=_
 rw[G.sc];exact hy.1.1.2
def nI(c:Ct)(f:Expr->GE):Expr->GI
 | .Call (.Name x p) [a] [] q=>if gK c x=true then(if plain a=true then yx (gw f [a]) else A8) else fQ (f (.Call (.Name x p) [a] [] q))
 | e=>if isSet e=false then fQ (f e) else A8
theorem xb{c:Ct}{k:Nat}(G:Good c k X){f:Expr->GE}(h:∀e,JE X e (f e))(tg e:Expr):JI X tg e (nI c f e):=by
 unfold nI
 split
 ·rename_i y p a q
  by_cases g:gK c y=true
  ·rw[if_pos g]
   obtain⟨rfl,g2,g3⟩:=nH G y g
   by_cases ga:plain a=true
   ·rw[if_pos ga]
    exact Mn g2 g3 (cL h [a] (by simp[ga])) (aH ga)
   ·rw[if_neg ga];exact A_
  ·rw[if_neg g];exact wK (h _)
 ·by_cases g:isSet e=false
  ·rw[if_pos g];exact wK (h _)
  ·rw[if_neg g];exact A_
def y6(c:Ct):Expr->Bool
 | .Call (.Name x _) [a] [] _=>gK c x&&plain a
 | _=>false
theorem tK{c:Ct}{k:Nat}(G:Good c k X){f:Expr->GE}(h:∀e,JE X e (f e))(tg e:Expr)(g:y6 c e=true):KN uV X tg e (nI c f e):=by
 unfold y6 at g
 split at g
 ·rename_i y p a q
  simp only[Bool.and_eq_true] at g
  obtain⟨rfl,g2,g3⟩:=nH G y g.1
  unfold nI
  dsimp only
  rw[if_pos g.1,if_pos g.2]
  exact Jh g2 g3 (cL h [a] (by simp[g.2])) (aH g.2)
 ·cases g
def P4(c:Ct)(x:Str):Bool:=decide (x="enumerate")&&decide (c.names.lookup x=some .globalImplicit)&&c.bl.contains x&&(match c.fns.lookup x with | some _=>false | none=>true)
def P5(gi:GI):MB:=λρ st=>(gi ρ st).bind λw st1=> .ok (w.1.map λl=>(l,w.2),w.2) st1
def vA(c:Ct)(f:Expr->GE):Expr->MB
 | e=>P5 (nI c f e)
theorem B_{c:Ct}{k:Nat}(G:Good c k X){f:Expr->GE}(h:∀e,JE X e (f e))(es:List Expr)(kt:Nat)(pt:Pos)(e:Expr):PM X (.Tuple es kt pt) e (vA c f e):=by
 unfold vA
 exact Jf (xb G h _ _)
def Gk(c:Ct):Expr->Bool
 | .Call (.Name x _) [_] [] _=>P4 c x
 | _=>false
def lQ(c:Ct):List (Str×WR)->Option e8
 | []=>some []
 | (n,.free)::r=>if c.names.lookup n=some .cell\/c.names.lookup n=some .free then(match jD n c.N,lQ c r with | some i,some l=>some ((n,i)::l) | _,_=>none) else none
 | _::r=>lQ c r
theorem nJ{c:Ct}:∀{ns:List (Str×WR)}{cs:e8},lQ c ns=some cs->(∀y∈ns,y.2= .free->c.names.lookup y.1=some .cell\/c.names.lookup y.1=some .free)/\∀p∈cs,(p.1,NameKind.free)∈ns/\c.N[p.2]? =some p.1
 | [],cs,h=>by cases h;exact⟨(λ_ z=>by cases z),(λ_ z=>by cases z)⟩
 | (n,k)::r,cs,h=>by
  unfold lQ at h
  split at h
  ·cases ‹_::_=[]›
  ·rename_i n' r' he
   cases he
   by_cases g:c.names.lookup n=some .cell\/c.names.lookup n=some .free
   ·rw[if_pos g] at h
    cases e1:jD n c.N with
    | none=>rw[e1] at h;cases h
    | some i=>
     cases e2:lQ c r with
     | none=>rw[e1,e2] at h;cases h
     | some l=>
      rw[e1,e2] at h
      cases h
      obtain⟨q1,q2⟩:=nJ e2
      refine⟨λy hy e=>?_,λp hp=>?_⟩
      ·rcases List.mem_cons.mp hy with z | z
       ·subst z;exact g
       ·exact q1 y z e
      ·rcases List.mem_cons.mp hp with z | z
       ·subst z;exact⟨List.mem_cons_self,e_ e1⟩
       ·exact⟨List.mem_cons_of_mem _ (q2 p z).1,(q2 p z).2⟩
   ·rw[if_neg g] at h;cases h
  ·rename_i kk r' hk he
   cases he
   obtain⟨q1,q2⟩:=nJ h
   refine⟨λy hy e=>?_,λp hp=>⟨List.mem_cons_of_mem _ (q2 p hp).1,(q2 p hp).2⟩⟩
   rcases List.mem_cons.mp hy with z | z
   ·subst z
    have e':k= .free:=e
    subst e'
    exact(hk n rfl).elim
   ·exact q1 y z e
def vB(c:Ct)(ns:List (Str×WR)):List (Str×WR):=ns.map λ(n,k)=>if(k == .free&&c.names.lookup n == some .cell) then(n,.cell) else(n,k)
def MI:ScopeKind->Bool
 | .function=>true
 | _=>false
def i8(scope:Scope)(x:Str):Bool:=MI scope.kind&&scope.names.all (λy=>decide (scope.names.lookup y.1=some y.2))&&scope.names.all (λy=>decide (y.2≠.cell))&&decide (scope.names.lookup x=some .local)
def Ct.block(c:Ct)(scope:Scope)(x:Str)(cs:e8):Ct:={ c with N:=x::cs.map (·.1),names:=vB c scope.names,loop:=false,top:=false }
def tL(c:Ct)(f:Expr->GE)(e:Expr):GI:=if tJ c e=true then jA (f e) else nI c f e
theorem tM{c:Ct}{k:Nat}(G:Good c k X){f:Expr->GE}(h:∀e,JE X e (f e))(tg e:Expr):JI X tg e (tL c f e):=by
 unfold tL
 by_cases g:tJ c e=true
 ·rw[if_pos g];exact EJ (h e)
 ·rw[if_neg g];exact xb G h tg e
theorem Ca{c:Ct}{f:Expr->GE}{e:Expr}(g:y6 c e=true):tL c f e=nI c f e:=by
 unfold tL
 rw[if_neg]
 unfold y6 at g
 split at g
 ·exact Bool.false_ne_true
 ·cases g
def xc(c:Ct):Expr->Option Nat
 | .Name x _=>jD x c.N
 | _=>none
def xf(c:Ct)(e:Expr)(g:GE):GE:=if tJ c e=true then(match xc c e with | some j=>gJ j g | none=>g) else g
def tN(c:Ct)(sub:Ct->(Expr->GE)×(Expr->GT))(f:Expr->GE)(elt:Expr)(x:Str)(iter:Expr)(Jx:Ct->GT)(scope:Scope):GE :=
 if i8 scope x=true/\(c.free=true\/y6 c iter=true)/\isSet iter=false then(match lQ c scope.names with
  | some cs=>if(x::cs.map (·.1)).Nodup then xf c iter (fH cs (tL c f iter) (Jx (c.block scope x cs)) ((sub (c.block scope x cs)).1 elt)) else bf
  | none=>bf) else bf
def NM(c:Ct)(sub:Ct->(Expr->GE)×(Expr->GT))(f:Expr->GE)(elt:Expr)(scope:Scope):List Comprehension->GE
 | [⟨.Name x _,iter,[],0⟩]=>tN c sub f elt x iter (λ_=>λ_ st=> .ok true st) scope
 | [⟨.Name x _,iter,[q],0⟩]=>tN c sub f elt x iter (λc'=>(sub c').2 q) scope
 | _=>bf
theorem nK{c:Ct}{k:Nat}(G:Good c k X){scope:Scope}{x:Str}{cs:e8}(hs:i8 scope x=true)(nd:(x::cs.map (·.1)).Nodup)(C:WN)(s0:WT)(H0:Hp)(fp:List WN)(pn:List (WN×Obj))(E:WU->WT->Prop)(hA:yt X.A H0) :
  Good (c.block scope x cs) k (eh X scope x cs C s0 H0 fp pn E):=by
 unfold i8 at hs
 simp only[Bool.and_eq_true,decide_eq_true_eq] at hs
 have hk:scope.kind= .function:=by
  have:=hs.1.1.1
  revert this
  cases scope.kind<;>intro z<;>first | rfl | cases z
 refine⟨rfl,?_,nd,G.un,G.free,(λz=>by cases z),G.cst,G.bl,G.fns,(λz=>by cases z),(λz=>by cases z),hk,G.tab,G.cls,G.vt,G.yT,⟨G.rm.d,G.rm.u⟩,G.vw,⟨G.x.lam,G.x.BN,G.x.Jo,(λz=>by cases z)⟩,G.fr,hA⟩
 show(relabel scope X.env).names=vB c scope.names
 unfold relabel vB Env.kindOf
 rw[G.kind,G.sc]
 simp
theorem Cb{c:Ct}{k:Nat}(G:Good c k X){scope:Scope}{x:Str}{cs:e8}(hs:i8 scope x=true)(hcs:lQ c scope.names=some cs)(nd:(x::cs.map (·.1)).Nodup):cQ X scope x cs:=by
 unfold i8 at hs
 simp only[Bool.and_eq_true,decide_eq_true_eq,List.all_eq_true] at hs
 obtain⟨⟨⟨h1,h2⟩,h3⟩,h4⟩:=hs
 have hk:scope.kind= .function:=by
  revert h1
  cases scope.kind<;>intro z<;>first | rfl | cases z
 obtain⟨q1,q2⟩:=nJ hcs
 refine⟨hk,h2,h3,h4,λy hy e=>?_,λp hp=>⟨by rw[G.N];exact(q2 p hp).2,h2 _ (q2 p hp).1⟩,nd⟩
 show X.env.scope.names.lookup y.1=_\/X.env.scope.names.lookup y.1=_
 rw[G.sc];exact q1 y hy e
def E9(X:Cx)(e:Expr)(g:GE):Prop:=∀(i:Nat)(y:Str)(py spos:Pos),X.N.Nodup->X.N[i]? =some y->Loc X.env.scope y->(X.fn y=true\/X.env.scope.names.lookup y=some .local)->JS X (.Assign [.Name y py] e spos) (aC i g)
theorem y7{i:Nat}{s:Stmt}:JS X s (aC i bf):=λρ st σ H m D S R p=>False.elim p
theorem fL{e:Expr}:E9 X e bf:=λi y py spos _ _ _ _=>y7
theorem Cc{i j:Nat}{g:GE}:aC i (gJ j g)=pV j (aC i g):=by
 funext ρ st
 show(gJ j g ρ st).aM ρ (λw st'=> .nx (ρ.set i (some w)) st')=pV j (aC i g) ρ st
 unfold pV gJ
 cases lM ρ[j]? st with
 | none=>rfl
 | some l=>
  show((match g ρ st with | .ok w st'=>Re.ok w (lL l st') | r=>r).aM ρ λw st'=> .nx (ρ.set i (some w)) st')=(match(g ρ st).aM ρ (λw st'=> .nx (ρ.set i (some w)) st') with | .nx ρ' st'=> .nx ρ' (lL l st') | r=>r)
  cases g ρ st<;>rfl
theorem Cd{c:Ct}{it e:Expr}{g:GE}(h:JE X e g/\E9 X e g):JE X e (xf c it g)/\E9 X e (xf c it g):=by
 unfold xf
 by_cases q:tJ c it=true
 ·rw[if_pos q]
  cases xc c it with
  | none=>exact h
  | some j=>exact⟨EI j h.1,λi y py spos hN hi hl hf=>by rw[Cc];exact wQ j (h.2 i y py spos hN hi hl hf)⟩
 ·rw[if_neg q];exact h
theorem xg{c:Ct}{k:Nat}(G:Good c k X){sub:Ct->(Expr->GE)×(Expr->GT)}(hb:∀c X,Good c k X->(∀e,JE X e ((sub c).1 e))/\∀e,JT X e ((sub c).2 e)){f:Expr->GE}(h:∀e,JE X e (f e))(elt:Expr)(scope:Scope)(gens:List Comprehension)(pos:Pos) :
  JE X (.ListComp elt gens scope pos) (NM c sub f elt scope gens)/\E9 X (.ListComp elt gens scope pos) (NM c sub f elt scope gens):=by
 have core:∀(x:Str)(px:Pos)(iter:Expr)(ifs:List Expr)(Jx:Ct->GT),(∀c X,Good c k X->F9 X ifs (Jx c))->
   JE X (.ListComp elt [⟨.Name x px,iter,ifs,0⟩] scope pos) (tN c sub f elt x iter Jx scope)/\E9 X (.ListComp elt [⟨.Name x px,iter,ifs,0⟩] scope pos) (tN c sub f elt x iter Jx scope):=by
  intro x px iter ifs Jx hg
  unfold tN
  by_cases g:i8 scope x=true/\(c.free=true\/y6 c iter=true)/\isSet iter=false
  ·rw[if_pos g]
   obtain⟨g1,g2,g3⟩:=g
   cases ec:lQ c scope.names with
   | none=>exact⟨ay,fL⟩
   | some cs=>
    dsimp only
    by_cases nd:(x::cs.map (·.1)).Nodup
    ·rw[if_pos nd]
     have CS:=Cb G g1 ec nd
     have hE:∀C s0 H0 fp pn E,yt X.A H0->JE (eh X scope x cs C s0 H0 fp pn E) elt ((sub (c.block scope x cs)).1 elt):=λC s0 H0 fp pn E z=>(hb _ _ (nK G g1 nd C s0 H0 fp pn E z)).1 elt
     have hT:∀C s0 H0 fp pn E,yt X.A H0->F9 (eh X scope x cs C s0 H0 fp pn E) ifs (Jx (c.block scope x cs)):=λC s0 H0 fp pn E z=>hg _ _ (nK G g1 nd C s0 H0 fp pn E z)
     refine Cd ?_
     rcases g2 with g2 | g2
     ·exact⟨qz G.fr CS (sE (G.free g2).2) G.hd (tM G h _ iter).y hE hT (fK g3),λi y py spos hN hi hl hf=>wB i hN G.fr CS (sE (G.free g2).2) G.hd (tM G h _ iter).y hE hT (fK g3) hi hl hf⟩
     ·rw[Ca g2]
      exact⟨qz G.fr CS (Bz G.hd) G.hd (tK G h _ iter g2) hE hT (fK g3),λi y py spos hN hi hl hf=>wB i hN G.fr CS (Bz G.hd) G.hd (tK G h _ iter g2) hE hT (fK g3) hi hl hf⟩
    ·rw[if_neg nd];exact⟨ay,fL⟩
  ·rw[if_neg g];exact⟨ay,fL⟩
 unfold NM
 split
 ·exact core _ _ _ _ _ λ_ _ _=>Ed
 ·exact core _ _ _ _ _ λc X G'=>Ee ((hb c X G').2 _)
 ·exact⟨ay,fL⟩
def Ce(c:Ct)(sub:Ct->(Expr->GE)×(Expr->GT))(f:Expr->GE)(t:Expr->GT):Expr->GE
 | .Name x _=>BR c x
 | .Constant k _ _=>BU k
 | .BinOp a o b _=>aj (MF o) (f a) (f b)
 | .UnaryOp o a _=>UK f o a
 | .BoolOp .And es _=>Jv f es
 | .BoolOp .Or es _=>P1 f es
 | .Compare a os bs _=>Jt c f a os bs
 | .IfExp q a b _=>jX (t q) (f a) (f b)
 | .Tuple es _ _=>y3 f dN es
 | .List es _=>y3 f bM es
 | .Subscript a b _=>Ju c f a b
 | .Dict [] [] _=>Gf
 | .Dict ks vs _=>B6 (MG ks||MH c ks) f ks vs
 | .Call g as ks p=>BY c f p g as ks
 | .ListComp elt gens scope _=>NM c sub f elt scope gens
 | _=>bf
def stepT(c:Ct)(f:Expr->GE)(t:Expr->GT):Expr->GT
 | .UnaryOp .Not a _=>jw (t a)
 | .BoolOp .And es _=>Jw t es
 | .BoolOp .Or es _=>P2 t es
 | .Compare a os bs _=>B4 c f a os bs
 | .Name x p=>b9 (f (.Name x p))
 | .Call g as ks p=>b9 (f (.Call g as ks p))
 | .Subscript a b p=>b9 (f (.Subscript a b p))
 | .Constant k j p=>b9 (f (.Constant k j p))
 | .BinOp a o b p=>b9 (f (.BinOp a o b p))
 | _=>iE
theorem tO{c:Ct}{k:Nat}(G:Good c k X){sub:Ct->(Expr->GE)×(Expr->GT)}(hb:∀k c X,Good c k X->(∀e,JE X e ((sub c).1 e))/\∀e,JT X e ((sub c).2 e)){f:Expr->GE}{t:Expr->GT}(h:∀e,JE X e (f e))(ht:∀e,JT X e (t e))(e:Expr):JE X e (Ce c sub f t e):=by
 have hu:X.A.units+64 < cLine:=G.un
 cases e with
 | Name x p=>exact BS G x p
 | Constant v j p=>exact yU v j p
 | BinOp a o b p=>exact HP (EY o) (h a) (h b)
 | UnaryOp o a p=>
  cases o with
  | USub=>exact HQ (h a)
  | Not=>exact HX (h a)
  | _=>exact ay
 | BoolOp o es p=>
  cases o with
  | And=>exact w_ h p es
  | Or=>exact B7 h p es
 | Compare a os bs p=>exact E6 G h a os bs p
 | IfExp q a b p=>exact LK (ht q) (h a) (h b)
 | Tuple es j p=>
  show JE X _ (y3 f dN es)
  unfold y3
  by_cases g:es.all plain=true
  ·rw[if_pos g];exact HY (cL h es g)
  ·rw[if_neg g];exact ay
 | List es p=>
  show JE X _ (y3 f bM es)
  unfold y3
  by_cases g:es.all plain=true
  ·rw[if_pos g];exact HZ (cL h es g)
  ·rw[if_neg g];exact ay
 | Subscript a b p=>exact E8 G h a b p
 | Dict ks vs p=>
  cases ks with
  | cons k ks=>exact w9 (by have:=G.un;omega) _ h (k::ks) vs p
  | nil=>
   cases vs with
   | nil=>exact Ex
   | cons v vs=>exact w9 (by have:=G.un;omega) (MG []||MH c []) h [] (v::vs) p
 | Call g as ks p=>exact B0 G h g as ks p
 | ListComp elt gens scope p=>exact(xg G (hb k) h elt scope gens p).1
 | _=>exact ay
def tP:Expr->Bool
 | .ListComp .. =>true
 | .SetComp .. =>true
 | .DictComp .. =>true
 | .Set .. =>true
 | _=>false
theorem kg{e:Expr}{t:Option Expr}{n:Nat}{env:Env}(h:tP e=false):swapsWith e t n env=pure false:=by
 cases e<;>first | rfl | cases h
theorem Cf{c:Ct}{k:Nat}(G:Good c k X){sub:Ct->(Expr->GE)×(Expr->GT)}(hb:∀k c X,Good c k X->(∀e,JE X e ((sub c).1 e))/\∀e,JT X e ((sub c).2 e)){f:Expr->GE}{t:Expr->GT}(h:∀e,JE X e (f e))(ht:∀e,JT X e (t e))(e:Expr):E9 X e (Ce c sub f t e):=by
 by_cases g:tP e=false
 ·exact λi y py spos hN hi hl hf=>uS i hN (tO G hb h ht e) hi hl (kg g) hf
 ·cases e with
  | ListComp elt gens scope p=>exact(xg G (hb k) h elt scope gens p).2
  | SetComp=>exact fL
  | DictComp=>exact fL
  | Set=>exact fL
  | _=>exact absurd rfl g
theorem Cg{c:Ct}{k:Nat}(G:Good c k X){f:Expr->GE}{t:Expr->GT}(h:∀e,JE X e (f e))(ht:∀e,JT X e (t e))(e:Expr):JT X e (stepT c f t e):=by
 have hu:X.A.units+64 < cLine:=G.un
 cases e with
 | UnaryOp o a p=>
  cases o with
  | Not=>exact HV (ht a)
  | _=>exact iF
 | BoolOp o es p=>
  cases o with
  | And=>exact(xa ht p es).jt
  | Or=>exact(B9 ht p es).jt
 | Compare a os bs p=>exact B5 G h a os bs p
 | Name x p=>exact mW (h _) (λ_=>rfl)
 | Call g as ks p=>exact mW (h _) (λ_=>rfl)
 | Subscript a b p=>exact mW (h _) (λ_=>rfl)
 | Constant v j p=>exact mW (h _) (λ_=>rfl)
 | BinOp a o b p=>exact mW (h _) (λ_=>rfl)
 | _=>exact iF
end
def jn:Nat->Ct->(Expr->GE)×(Expr->GT)
 | 0,_=>(λ_=>bf,λ_=>iE)
 | n+1,c=>(Ce c (jn n) (jn n c).1 (jn n c).2,stepT c (jn n c).1 (jn n c).2)
section
variable {X:Cx}
theorem cE:∀(n:Nat)(k:Nat)(c:Ct)(X:Cx),Good c k X->(∀e,JE X e ((jn n c).1 e))/\∀e,JT X e ((jn n c).2 e)
 | 0,_,_,_,_=>⟨λ_=>ay,λ_=>iF⟩
 | n+1,k,c,X,G=>⟨λe=>tO G (λk c X G=>cE n k c X G) (cE n k c X G).1 (cE n k c X G).2 e,λe=>Cg G (cE n k c X G).1 (cE n k c X G).2 e⟩
theorem Ci{k:Nat}:∀(n:Nat)(c:Ct)(X:Cx),Good c k X->∀e,E9 X e ((jn n c).1 e)
 | 0,_,_,_,_=>fL
 | n+1,c,X,G,e=>Cf G (λk c X G=>cE n k c X G) (cE n k c X G).1 (cE n k c X G).2 e
def slot(c:Ct)(x:Str):Option Nat:=if c.names.lookup x=some .local\/(c.names.lookup x=some .cell/\c.top=true) then jD x c.N else none
def xh(c:Ct)(x:Str):Option Nat:=if c.names.lookup x=some .local then jD x c.N else none
theorem Cj{c:Ct}{k:Nat}(G:Good c k X){x:Str}{i:Nat}(h:xh c x=some i):X.N[i]? =some x/\X.env.scope.names.lookup x=some .local:=by
 unfold xh at h
 by_cases e:c.names.lookup x=some .local
 ·rw[if_pos e] at h
  exact⟨by rw[G.N];exact e_ h,by rw[G.sc];exact e⟩
 ·rw[if_neg e] at h;cases h
theorem mB{c:Ct}{k:Nat}(G:Good c k X){x:Str}{i:Nat}(h:slot c x=some i):X.N[i]? =some x/\(Loc X.env.scope x/\(X.fn x=true\/X.env.scope.names.lookup x=some .local)):=by
 unfold slot at h
 by_cases e:c.names.lookup x=some .local\/(c.names.lookup x=some .cell/\c.top=true)
 ·rw[if_pos e] at h
  refine⟨by rw[G.N];exact e_ h,?_⟩
  rcases e with e | ⟨e,e2⟩
  ·have q:X.env.scope.names.lookup x=some .local:=by rw[G.sc];exact e
   exact⟨.inl q,.inr q⟩
  ·have q:X.env.scope.names.lookup x=some .cell:=by rw[G.sc];exact e
   exact⟨.inr q,.inl (G.fn e2 x)⟩
 ·rw[if_neg e] at h;cases h
def slots(c:Ct):List Expr->Option (List Nat)
 | []=>some []
 | .Name x _::es=>(match slot c x,slots c es with | some i,some is=>some (i::is) | _,_=>none)
 | _=>none
theorem kh{c:Ct}{k:Nat}(G:Good c k X):∀{es:List Expr}{is:List Nat},slots c es=some is->Slots X es is
 | [],is,h=>by cases h;exact .nil
 | e::es,is,h=>by
  cases e with
  | Name x p=>
   have h:(match slot c x,slots c es with | some i,some is=>some (i::is) | _,_=>none)=some is:=h
   cases e1:slot c x with
   | none=>rw[e1] at h;cases h
   | some i=>
    cases e2:slots c es with
    | none=>rw[e1,e2] at h;cases h
    | some js=>
     rw[e1,e2] at h
     cases h
     obtain⟨q1,q2⟩:=mB G e1
     exact .cons q1 q2 (kh G e2)
  | _=>cases h
def MJ:Expr->Bool
 | .Tuple .. =>true
 | _=>false
def E_(es:List Expr)(v:Expr):Bool:=!MJ v||decide (4<=es.length)
def Jy:Expr->Bool
 | .Dict [] [] _=>true
 | _=>false
theorem y8{es:List Expr}{k:Nat}{p:Pos}{v:Expr}(h:E_ es v=true):swappedStores [.Tuple es k p] v X.env=pure none:=by
 cases v with
 | Tuple vs k2 p2=>
  have h4:4<=es.length:=by simpa [E_,MJ] using h
  unfold swappedStores
  have:(!(es.length == 2||es.length == 3)||vs.length != es.length||X.env.blockKind != .function)=true:=by
   have h2:(es.length == 2)=false:=by simp;omega
   have h3:(es.length == 3)=false:=by simp;omega
   rw[h2,h3];rfl
  dsimp only
  rw[if_pos this]
 | _=>rfl
def Jz(c:Ct)(f:Expr->GE)(v:Expr):List Expr->GS
 | [.Name x _]=>(match slot c x with | some i=>if Jy v=true/\c.rC.contains x=true then aC i lJ else aC i (f v) | none=>bb)
 | [.Subscript o i _]=>if tP v=false/\yZ i=false then(if E7 c o=true then lK (f v) (f o) (f i) else wu (f v) (f o) (f i)) else bb
 | [.Tuple es _ _]=>if tP v=false/\E_ es v=true/\c.free=true then(match slots c es with | some is=>sx is (f v) | none=>bb) else bb
 | _=>bb
theorem JB{c:Ct}{k:Nat}(G:Good c k X){f:Expr->GE}(h:∀e,JE X e (f e))(ha:∀e,E9 X e (f e))(v:Expr)(ts:List Expr)(pos:Pos):JS X (.Assign ts v pos) (Jz c f v ts):=by
 unfold Jz
 split
 ·rename_i x p
  cases e:slot c x with
  | none=>exact aO
  | some i=>
   obtain⟨e1,e2⟩:=mB G e
   dsimp only
   by_cases g:Jy v=true/\c.rC.contains x=true
   ·rw[if_pos g]
    have gv:=g.1
    unfold Jy at gv
    split at gv
    ·exact uS i (by rw[G.N];exact G.nd) Ew e1 e2.1 rfl e2.2
    ·cases gv
   ·rw[if_neg g];exact ha v i x _ _ (by rw[G.N];exact G.nd) e1 e2.1 e2.2
 ·rename_i o i p
  by_cases g:tP v=false/\yZ i=false
  ·rw[if_pos g]
   have g2:=g.2
   by_cases gd:E7 c o=true
   ·rw[if_pos gd];exact Ez (by have:=G.un;omega) (h v) (h o) (h i) (kg g.1)
   rw[if_neg gd]
   refine DX (h v) (h o) (h i) (by unfold swapsWithSole;exact kg g.1) ?_ rfl ?_
   ·cases v<;>rfl
   ·intro _
    cases i<;>first | rfl | cases g2
  ·rw[if_neg g];exact aO
 ·rename_i es kk p
  by_cases g:tP v=false/\E_ es v=true/\c.free=true
  ·rw[if_pos g]
   cases e1:slots c es with
   | none=>exact aO
   | some is=>
    have g2:=g.2.1
    refine D_ (by rw[G.N];exact G.nd) (G.free g.2.2).2 (kh G e1) (h v) (kg g.1) ?_
    exact y8 g2
  ·rw[if_neg g];exact aO
 ·exact aO
def JC(c:Ct)(f:Expr->GE)(i:Nat)(gb:GS):Expr->GS
 | .Call (.Name x p) [a] [] q=>if gK c x=true then(if plain a=true then kL i (gw f [a]) gb else bb) else uU i (f (.Call (.Name x p) [a] [] q)) gb
 | e=>if isSet e=false then uU i (f e) gb else bb
theorem JD{c:Ct}{k:Nat}(G:Good c k X)(hl:c.loop=true){f:Expr->GE}(h:∀e,JE X e (f e)){x:Str}{i:Nat}(hx:slot c x=some i){body:List Stmt}{gb:GS}(hb:jl X body gb)(e:Expr)(pos pos':Pos):JS X (.For (.Name x pos') e body [] pos) (JC c f i gb e):=by
 have nd:X.N.Nodup:=by rw[G.N];exact G.nd
 obtain⟨e1,e2⟩:=mB G hx
 have rg:=nH G
 unfold JC
 split
 ·rename_i y p a q
  by_cases g:gK c y=true
  ·rw[if_pos g]
   obtain⟨rfl,g2,g3⟩:=rg y g
   by_cases ga:plain a=true
   ·rw[if_pos ga]
    exact AO i nd (G.loop hl).2 (G.loop hl).1 g2 g3 (cL h [a] (by simp[ga])) hb e1 e2.1 e2.2 (aH ga)
   ·rw[if_neg ga];exact aO
  ·rw[if_neg g];exact AN i nd (G.loop hl).2 (G.loop hl).1 (h _) hb e1 e2.1 e2.2 (fK rfl)
 ·by_cases g:isSet e=false
  ·rw[if_pos g];exact AN i nd (G.loop hl).2 (G.loop hl).1 (h _) hb e1 e2.1 e2.2 (fK g)
  ·rw[if_neg g];exact aO
def Gm(c:Ct)(x:Str):Bool:=decide (x="reversed")&&decide (c.names.lookup x=some .globalImplicit)&&c.bl.contains x
def JF(c:Ct):Expr->Bool
 | .Call (.Name x _) [a] [] _=>Gm c x&&plain a
 | _=>false
def P7(f:Expr->GE)(i:Nat)(gb:GS):Expr->GS
 | .Call _ [a] _ _=>lO i (gw f [a]) gb
 | _=>bb
def MK(c:Ct)(f:Expr->GE)(i:Nat)(gb:GS)(e:Expr):GS:=match xc c e with
 | some j=>pV j (wW i (f e) gb)
 | none=>wW i (f e) gb
def JG(c:Ct)(f:Expr->GE)(i:Nat)(gb:GS)(e:Expr):GS:=if JF c e=true then P7 f i gb e else if tJ c e=true then MK c f i gb e else JC c f i gb e
theorem Fb{c:Ct}{k:Nat}(G:Good c k X)(hl:c.loop=true){f:Expr->GE}(h:∀e,JE X e (f e)){x:Str}{i:Nat}(hx:slot c x=some i){body:List Stmt}{gb:GS}(hb:jl X body gb)(e:Expr)(pos pos':Pos):JS X (.For (.Name x pos') e body [] pos) (JG c f i gb e):=by
 have nd:X.N.Nodup:=by rw[G.N];exact G.nd
 obtain⟨e1,e2⟩:=mB G hx
 unfold JG
 by_cases g:JF c e=true
 ·rw[if_pos g]
  unfold JF at g
  split at g
  ·rename_i y p a q
   unfold Gm at g
   simp only[Bool.and_eq_true,decide_eq_true_eq] at g
   obtain⟨⟨⟨rfl,g2⟩,g3⟩,g4⟩:=g
   exact EO i nd (G.loop hl).2 (G.loop hl).1 (by show X.env.scope.names.lookup _=_;rw[G.sc];exact g2) (G.bl _ g3) (cL h [a] (by simp[g4])) (aH g4) hb e1 e2.1 e2.2
  ·cases g
 ·rw[if_neg g]
  by_cases g2:tJ c e=true
  ·rw[if_pos g2]
   have go:JS X (.For (.Name x pos') e body [] pos) (wW i (f e) gb):=by
    refine EK i nd (G.loop hl).2 (G.loop hl).1 (h e) hb e1 e2.1 e2.2 ?_
    unfold tJ at g2
    split at g2
    ·exact λ_=>rfl
    ·cases g2
   unfold MK
   cases xc c e with
   | none=>exact go
   | some j=>exact wQ j go
  ·rw[if_neg g2];exact JD G hl h hx hb e pos pos'
def vC(c:Ct)(f:Expr->GE):Expr->GS
 | .Call (.Name x _) (e::es) [] _=>if okN x=true/\(e::es).all plain=true/\c.names.lookup x=some .globalImplicit/\c.clss.contains x=true/\c.free=true then kM x (gw f (e::es)) else bb
 | _=>bb
theorem Ck{c:Ct}{k:Nat}(G:Good c k X){f:Expr->GE}(h:∀e,JE X e (f e))(e:Expr)(pos:Pos):JS X (.Raise (some e) none pos) (vC c f e):=by
 unfold vC
 split
 ·rename_i x p e es q
  by_cases g:okN x=true/\(e::es).all plain=true/\c.names.lookup x=some .globalImplicit/\c.clss.contains x=true/\c.free=true
  ·rw[if_pos g]
   obtain⟨g1,g2,g3,g4,g5⟩:=g
   have hg:Gl X x:=by
    show X.env.scope.names.lookup x=_
    rw[G.sc];exact g3
   have gp:plain e=true/\es.all plain=true:=by rw[List.all_cons,Bool.and_eq_true] at g2;exact g2
   obtain⟨C,q1,q2⟩:=G.cls x g4
   exact AQ (G.free g5).2 q2 hg q1 (cL h (e::es) g2) (dk g1) (aH gp.1) (eS gp.2)
  ·rw[if_neg g];exact aO
 ·exact aO
def JH(c:Ct)(b:Ct->List Stmt->GS)(body:List Stmt):List ExceptHandler->GS
 | [.ExceptHandler (some (.Name x _)) (some n) (b0::suite) _]=>if okN x=true/\c.names.lookup x=some .globalImplicit/\c.clss.contains x=true/\c.free=true/\c.top=true then
   (match xh c n with
   | some i=>yu (λy=>c.tc.lookup (y,x)) i (b c.Gj body) (b c.qJ (b0::suite))
   | none=>bb) else bb
 | _=>bb
theorem JJ{c:Ct}{k:Nat}(G:Good c k X){b:Ct->List Stmt->GS}(hb:∀c X,Good c k X->∀s,jl X s (b c s))(body:List Stmt)(hs:List ExceptHandler)(pos:Pos):JS X (.Try body hs [] [] pos) (JH c b body hs):=by
 unfold JH
 split
 ·rename_i x p n b0 suite q
  by_cases g:okN x=true/\c.names.lookup x=some .globalImplicit/\c.clss.contains x=true/\c.free=true/\c.top=true
  ·rw[if_pos g]
   obtain⟨g1,g3,g4,g5,g6⟩:=g
   have hg:Gl X x:=by
    show X.env.scope.names.lookup x=_
    rw[G.sc];exact g3
   obtain⟨D,q1,q2⟩:=G.cls x g4
   cases e1:xh c n with
   | none=>exact aO
   | some i=>
    obtain⟨e2,e3⟩:=Cj G e1
    exact Iv (G.stk g6) (by rw[G.N];exact G.nd) e2 e3 (G.free g5).2 G.tab hg q1 q2.cls (dk g1) (λpn E=>hb _ _ (G.body g5 pn E) _) λa o u pn E nx=>hb _ _ (G.suite nx pn E) _
  ·rw[if_neg g];exact aO
 ·exact aO
def iK:Nat:=100000
def Cm(c:Ct)(f:Expr->GE)(t:Expr->GT)(b:Ct->List Stmt->GS):Stmt->GS
 | .Return (some e) _=>bA (f e)
 | .Return none _=>bA (gC .aF)
 | .Expr e _=>if tP e=false then gj (f e) else bb
 | .If q x y _=>lC (t q) (b c x) (b c y)
 | .Assign ts v _=>Jz c f v ts
 | .For (.Name x _) e body [] _=>if c.loop=true then(match slot c x with | some i=>JG c f i (b c body) e | none=>bb) else bb
 | .For (.Tuple es _ _) e body [] _=>if c.loop=true/\isSet e=false then(match slots c es with | some is=>(if Gk c e=true then Gg is (vA c f e) (b c body) else sA is (f e) (b c body)) | none=>bb) else bb
 | .While q body [] _=>if c.loop=true then iJ iK (t q) (b c body) else bb
 | .Raise (some e) none _=>vC c f e
 | .Try body hs [] [] _=>JH c b body hs
 | .Pass _=>bD
 | _=>bb
theorem Cn{c:Ct}{k:Nat}(G:Good c k X){f:Expr->GE}{t:Expr->GT}{b:Ct->List Stmt->GS}(h:∀e,JE X e (f e))(ha:∀e,E9 X e (f e))(ht:∀e,JT X e (t e))(hb:∀c X,Good c k X->∀s,jl X s (b c s))(s:Stmt):JS X s (Cm c f t b s):=by
 unfold Cm
 split
 ·exact Il (h _)
 ·exact D6
 ·rename_i e p
  by_cases g:tP e=false
  ·rw[if_pos g];exact DW (h _) (kg g)
  ·rw[if_neg g];exact aO
 ·exact L4 (ht _) (hb c X G _) (hb c X G _)
 ·exact JB G h ha _ _ _
 ·rename_i x p e body q
  by_cases g:c.loop=true
  ·rw[if_pos g]
   cases e1:slot c x with
   | none=>exact aO
   | some i=>exact Fb G g h e1 (hb c X G body) e _ _
  ·rw[if_neg g];exact aO
 ·rename_i es kk p e body q
  by_cases g:c.loop=true/\isSet e=false
  ·rw[if_pos g]
   cases e1:slots c es with
   | none=>exact aO
   | some is=>
    dsimp only
    by_cases ge:Gk c e=true
    ·rw[if_pos ge];exact EC (by rw[G.N];exact G.nd) (G.loop g.1).2 (G.loop g.1).1 (kh G e1) (B_ G h es kk p e) (hb c X G body) (fK g.2)
    ·rw[if_neg ge]
     exact Ea (by rw[G.N];exact G.nd) (G.loop g.1).2 (G.loop g.1).1 (kh G e1) (h e) (hb c X G body) (fK g.2)
  ·rw[if_neg g];exact aO
 ·rename_i q body p
  by_cases g:c.loop=true
  ·rw[if_pos g];exact By iK (G.loop g).2 (ht _) (hb c X G body)
  ·rw[if_neg g];exact aO
 ·exact Ck G h _ _
 ·exact JJ G hb _ _ _
 ·exact DV
 ·exact aO
end
def vD(f:Stmt->GS):List Stmt->GS
 | []=>bD
 | [s]=>f s
 | s::s'::r=>aA (f s) (vD f (s'::r))
theorem tQ{X:Cx}{f:Stmt->GS}(h:∀s,JS X s (f s)):∀ss,jl X ss (vD f ss)
 | []=>DT
 | [s]=>DU (h s)
 | s::s'::r=>Az (h s) (tQ h (s'::r))
def a7:Nat->Ct->List Stmt->GS
 | 0,_=>λ_=>bb
 | n+1,c=>vD (Cm c (jn 40 c).1 (jn 40 c).2 (a7 n))
theorem kj{k:Nat}:∀(n:Nat)(c:Ct)(X:Cx),Good c k X->∀ss:List Stmt,jl X ss (a7 n c ss)
 | 0,_,_,_,_=>yg
 | n+1,c,X,G,ss=>tQ (λs=>Cn G (cE 40 k c X G).1 (Ci 40 c X G) (cE 40 k c X G).2 (kj n) s) ss
structure Fc(K:PySem.W.Frag)(mg:Str->Option WU)(q:Str)(P:WN):Prop where
 tab:gF K q=some P
 code:∃c o vs file tf flags tg P8 text tt,PySem.W.tabIn K q=some (c,P)/\K.lookup c=some o/\o.cls= .type "code"/\o.data= .fields vs/\vs[11]? =some (.ref P)/\vs.getD 11 .none= .ref P/\vs.getD 18 .none= .str file tf/\
  vs.getD 7 .none= .int flags tg/\vs.getD 9 .none= .bool P8/\vs.getD 10 .none= .int text tt/\c≠P
 mem:q∈bO
 uniq:∀q',q'∈bO->gF K q'=some P->q'=q
theorem Fc.at'{X:Cx}{q:Str}{P f:WN}{cdv:WU}(h:Fc X.K X.mg q P)(M:Bx X.K X.mg X.base)(hn:PySem.W.nsIn X.K W5 q=some (some (.ref f)))(hc:AD X.K f cdv)(e1:X.env.code=cdv)(e2:X.env.qual=q++".<locals>."):Gh X q P:=by
 obtain⟨c,o,vs,file,tf,flags,tg,P8,text,tt,t,l,r⟩:=h.code
 refine⟨⟨c,?_,o,vs,file,tf,flags,tg,P8,text,tt,M.1.GP _ _ l,r⟩,e2,h.tab,h.mem,h.uniq,M.2⟩
 ·obtain⟨of,lf,fd,d,cd⟩:=hc
  rw[e1,<-cd]
  unfold PySem.W.tabIn at t
  rw[hn] at t
  dsimp only at t
  rw[lf] at t
  obtain⟨oc,od,da,sl⟩:=of
  dsimp only at d
  subst d
  dsimp only at t
  cases q1:fd.code with
  | ref c2=>
   rw[q1] at t
   dsimp only at t
   split at t
   ·split at t
    ·cases t;rfl
    ·cases t
   ·cases t
  | _=>rw[q1] at t;cases t
structure Co(c:Ct)(k:Nat)(P:WS)(w:WV)(K:PySem.W.Frag)(mg:Str->Option WU)(base:Heap):Prop where
 lam:∀p L,c.lam=some (p,L)->Jg P w K mg base k p 3 L
 BN:∀x F,c.BN.lookup x=some F->RT P w K mg k c.lj x F
 Jo:∀x n F,c.fns.lookup x=some (n,F)->c.P0.contains x=true->∀base,Bx K mg base->fB P w K mg base c.lj x n F
 at':c.self∈bO->∃P,Fc K mg c.self P
theorem Co.no{c:Ct}{k:Nat}{P:WS}{w:WV}{K:PySem.W.Frag}{mg:Str->Option WU}{base:Heap}(h1:c.lam=none)(h2:c.BN=[])(h3:c.P0=[])(h4:c.self=""):Co c k P w K mg base :=
 ⟨(λp L e=>by rw[h1] at e;cases e),(λx F e=>by rw[h2] at e;cases e),(λx n F _ e=>by rw[h3] at e;cases e),(λe=>by rw[h4] at e;exact absurd e (by decide))⟩
structure xi(c:Ct)(k:Nat)(P:WS)(w:WV)(K:PySem.W.Frag)(mg:Str->Option WU)(base:Heap):Prop where
 cst:∀x w,c.consts.lookup x=some w->BP K mg x w
 bl:∀x,c.bl.contains x=true->mg x=none
 fns:∀x n F,c.fns.lookup x=some (n,F)->fB P w K mg base k x n F
 tab:TabOk K c.tb c.tt c.tc
 cls:∀x,c.clss.contains x=true->∃C,mg x=some (.ref C)/\D7 K x C
 vt:∀x,c.vt.contains x=true->∃C,mg x=some (.ref C)/\ClsAt K x C
 yT:∀x kvs,c.yT.lookup x=some kvs->yN K w mg x kvs
 vw:∀x n F,c.vw.contains x=true->c.fns.lookup x=some (n,F)->sU P w K mg base k x n F
 x:Co c k P w K mg base
theorem aI{P:WS}{w:WV}{K:PySem.W.Frag}{mg:Str->Option WU}{base:Heap}{h:Heap}{k:Nat}{c:Ct}{x:Str}{st:Stmt}{ps:List Str}{g:GS}(KX:K.In h)(NS:h.Ns W5 mg)(D:bo K x st)(T:xi c k P w K mg base)
  (S:FnScope c.N ps (defScope st))(hn:(defScope st).names=c.names)(hg:a7 30 c (defBody st)=g)
  (hb:∀(kV doc pm:WU)(an:Option WN)(cdv ct:WU)(us:List WU),us.length=ps.length->bindArgs (PySem.W.fnOf x x (defArgs st) (defBody st) (defScope st) .none kV doc pm an cdv ct) ⟨us,[]⟩=pure (ps.zip us))(hM:c.self∈bO->Bx K mg base/\c.self=x:=by exact λz=>absurd (show("":Str)∈bO from z) (by decide)) :
  fB P w K mg base (k+1) x ps.length (dO c.N.length g):=by
 obtain⟨f,fd,a,F⟩:=D
 refine⟨f,fd,ps,?_,PySem.W.mg_of KX NS a,F.kp,F.binds hb⟩
 subst hg
 refine F7 F S λcdv P9 A outer s H E hr=>?_
 refine kj (k:=k) 30 c _ ⟨rfl,hn,S.nd,w5 hr,λ_=>⟨hr,rfl⟩,λ_=>⟨rfl,PassesOwn.leaving⟩,T.cst,T.bl,T.fns,λ_=>⟨rfl,rfl,rfl⟩,λ_ _=>rfl,S.kind,T.tab,T.cls,T.vt,T.yT,eC.of hr,T.vw,⟨T.x.lam,T.x.BN,T.x.Jo,λ_ z=>?_⟩,⟨_,_,_,rfl,rfl,rfl⟩,.inl hr.hd⟩ _
 obtain⟨P',L⟩:=T.x.at' z
 obtain⟨M,e⟩:=hM z
 exact⟨P',Fc.at' L M (by rw[e];exact a) P9 rfl (by rw[e];rfl)⟩
theorem Cp{P:WS}{w:WV}{K:PySem.W.Frag}{mg:Str->Option WU}{base:Heap}{h:Heap}{k:Nat}{c:Ct}{x:Str}{st:Stmt}{ps:List Str}{g:GS}(KX:K.In h)(NS:h.Ns W5 mg)(D:bo K x st)(T:xi c k P w K mg base)
  (S:FnScope c.N ps (defScope st))(hn:(defScope st).names=c.names)(hg:a7 30 c.un (defBody st)=g)
  (hb:∀(kV doc pm:WU)(an:Option WN)(cdv ct:WU)(us:List WU),us.length=ps.length->bindArgs (PySem.W.fnOf x x (defArgs st) (defBody st) (defScope st) .none kV doc pm an cdv ct) ⟨us,[]⟩=pure (ps.zip us))(hs:c.self∉bO:=by exact(show("":Str)∉bO by decide)) :
  sU P w K mg base (k+1) x ps.length (dO c.N.length g):=by
 obtain⟨f,fd,a,F⟩:=D
 refine⟨f,fd,ps,?_,PySem.W.mg_of KX NS a,F.kp,F.binds hb⟩
 subst hg
 refine PL F S λcdv A outer s H E hr hz=>?_
 exact kj (k:=k) 30 c.un (EB P w K mg base c.N x (defScope st) f cdv A outer s H E) ⟨rfl,hn,S.nd,hr.Uy,(λz=>by cases z),(λz=>by cases z),T.cst,T.bl,T.fns,λ_=>⟨rfl,rfl,rfl⟩,λ_ _=>rfl,S.kind,T.tab,T.cls,T.vt,T.yT,hr,T.vw,⟨T.x.lam,T.x.BN,T.x.Jo,λ_ z=>absurd z hs⟩,⟨_,_,_,rfl,rfl,rfl⟩,hz⟩ _
theorem Fd{P:WS}{w:WV}{K:PySem.W.Frag}{mg:Str->Option WU}{h:Heap}{k:Nat}{F:List Wv->Hs->Re Wv}{fa:WN}{st:Stmt}(KX:K.In h)(NS:h.Ns W5 mg)(hmg:mg "law"=some (.ref fa))(D:bo K "law" st)
  (hp:∀(kV doc pm:WU)(an:Option WN)(cdv ct:WU)(s:WT)(u:WU),BindsTo s (PySem.W.fnOf "law" "law" (defArgs st) (defBody st) (defScope st) .none kV doc pm an cdv ct) ⟨[u],[]⟩ [("script",u)])
  (FN:∀(f:WN)(fd:WQ),FO K "law" "law" st f fd->∀base:Heap,K.In base->base.Ns W5 mg->FnOk P w K mg base (CXJ P w) k f fd ["script"] (spW K 1 F)) :
  ∃fd:WQ,(∀(s:WT)(u:WU),BindsTo s fd ⟨[u],[]⟩ [("script",u)])/\∀base:Heap,K.In base->base.Ns W5 mg->FnOk P w K mg base (CXJ P w) k fa fd ["script"] (spW K 1 F):=by
 obtain⟨f,fd,a,Fu⟩:=D
 have e:=hmg.symm.trans (PySem.W.mg_of KX NS a)
 cases e
 refine⟨fd,λs u=>?_,FN fa fd Fu⟩
 obtain⟨oc,od,kV,doc,pm,an,cdv,ct,osl,rfl,lk,hcd⟩:=Fu.ex
 exact hp kV doc pm an cdv ct s u
theorem JK{P:WS}{w:WV}{K:PySem.W.Frag}{mg:Str->Option WU}{base:Heap}{k:Nat}{c:Ct}{x:Str}{st:Stmt}{ps:List Str}{g:GS}{f:WN}{fd:WQ}(F:FO K x x st f fd)(T:xi c k P w K mg base)
  (S:FnScope c.N ps (defScope st))(hn:(defScope st).names=c.names)(hg:a7 30 c (defBody st)=g)(hs:c.self∉bO:=by exact(show("":Str)∉bO by decide)):FnOk P w K mg base (CXJ P w) (k+1) f fd ps (spW K ps.length (dO c.N.length g)):=by
 subst hg
 refine F7 F S λcdv _ A outer s H E hr=>?_
 exact kj (k:=k) 30 c _ ⟨rfl,hn,S.nd,w5 hr,λ_=>⟨hr,rfl⟩,λ_=>⟨rfl,PassesOwn.leaving⟩,T.cst,T.bl,T.fns,λ_=>⟨rfl,rfl,rfl⟩,λ_ _=>rfl,S.kind,T.tab,T.cls,T.vt,T.yT,eC.of hr,T.vw,⟨T.x.lam,T.x.BN,T.x.Jo,λ_ z=>absurd z hs⟩,⟨_,_,_,rfl,rfl,rfl⟩,.inl hr.hd⟩ _
end J
namespace J
open PySem PySem.Spec PyProof.Rows L2
def AllP{α:Type}(P:α->Prop):List α->Prop
 | []=>True
 | a::l=>P a/\AllP P l
theorem AllP.look{κ β:Type}[BEq κ][LawfulBEq κ]{P:κ×β->Prop}:∀{l:List (κ×β)}{x:κ}{b:β},AllP P l->l.lookup x=some b->P (x,b)
 | [],_,_,_,h=>by cases h
 | (y,c)::l,x,b,a,h=>by
  rw[List.lookup_cons] at h
  cases e:x == y with
  | true=>
   rw[e] at h
   cases h
   have e':=eq_of_beq e
   subst e'
   exact a.1
  | false=>rw[e] at h;exact AllP.look a.2 h
theorem AllP.mem{P:Str->Prop}:∀{l:List Str}{x:Str},AllP P l->l.contains x=true->P x
 | [],_,_,h=>by cases h
 | y::l,x,a,h=>by
  rw[List.contains_cons,Bool.or_eq_true] at h
  rcases h with e | h
  ·have e':=eq_of_beq e
   subst e'
   exact a.1
  ·exact AllP.mem a.2 h
theorem ko{K:PySem.W.Frag}{c:PySem.Str}{C D:WN}(h:ClsAt K c C)(k:ClsAt K c D):C=D:=by
 unfold ClsAt at h k
 rw[h] at k
 cases k
 rfl
theorem JM{K:PySem.W.Frag}{tb:Tab}{tt:mX}{tc:Tab}(h:AllP (λp=>∃C D,ClsAt K p.1.1 C/\ClsAt K p.1.2 D/\kN K C/\PySem.W.kitOne K (.ref C) (.ref D)=some p.2) tb)
  (g:AllP (λp=>∃C,ClsAt K p.1.1 C/\kN K C/\PySem.W.kitOne K (.ref C) (.type p.1.2)=some p.2) tt)
  (f:AllP (λp=>∃C D,ClsAt K p.1.1 C/\ClsAt K p.1.2 D/\PySem.W.excIn K C yj yk=true/\PySem.W.excIn K D yj yk=true/\PySem.W.mroIn K C (.ref D)=some p.2) tc):TabOk K tb tt tc :=
 ⟨λc d b C D e hC hD=>by
  obtain⟨C',D',q1,q2,r⟩:=AllP.look h e
  cases ko hC q1
  cases ko hD q2
  exact r,λc d b C D e hC hD=>by
  obtain⟨C',D',q1,q2,r⟩:=AllP.look f e
  cases ko hC q1
  cases ko hD q2
  exact r,λc T b C e hC=>by
  obtain⟨C',q1,r⟩:=AllP.look g e
  cases ko hC q1
  exact r⟩
theorem aB{c:Ct}{k:Nat}{P:WS}{w:WV}{K:PySem.W.Frag}{mg:Str->Option WU}{base:Heap}(hc:AllP (λp=>BP K mg p.1 p.2) c.consts)(hb:AllP (λx=>mg x=none) c.bl)(hf:AllP (λp=>fB P w K mg base k p.1 p.2.1 p.2.2) c.fns)
  (ht:TabOk K c.tb c.tt c.tc)(hk:AllP (λx=>∃C,mg x=some (.ref C)/\D7 K x C) c.clss)(hn:AllP (λx=>∃C,mg x=some (.ref C)/\ClsAt K x C) c.vt)(hd:AllP (λp=>yN K w mg p.1 p.2) c.yT)
  (hu:AllP (λx=>∀n F,c.fns.lookup x=some (n,F)->sU P w K mg base k x n F) c.vw:=by exact trivial)(hx:Co c k P w K mg base:=by exact Co.no rfl rfl rfl rfl):xi c k P w K mg base :=
 ⟨λ_ _ h=>hc.look h,λ_ h=>hb.mem h,λx n F h=>hf.look (b:=(n,F)) h,ht,λ_ h=>hk.mem h,λ_ h=>hn.mem h,λx kvs h=>hd.look (b:=kvs) h,λx n F h k=>hu.mem h n F k,hx⟩
end J
namespace J
open PySem PySem.Spec PyProof.Rows L2
end J
namespace J
open PySem PySem.Spec PyProof.Rows L2
def Rs.sq(r:Rs)(h:GS):Rs:=match r with
 | .nx ρ st=>h ρ st
 | r=>r
section
variable {α β:Type} {ρ ρ':aT} {st:Hs} {h g WA WB:GS} {ga gb gc:GE} {gt gu:GT} {w:Wv} {c:PySem.Str} {f:α->Hs->Re β} {k:α->Hs->Rs} {a:α} {i:Nat}
@[simp] theorem aX:(Rs.nx ρ st).sq h=h ρ st:=rfl
@[simp] theorem RY:(Rs.rt w st).sq h= .rt w st:=rfl
@[simp] theorem RZ:(Rs.bk ρ st).sq h= .bk ρ st:=rfl
@[simp] theorem R0:(Rs.ct ρ st).sq h= .ct ρ st:=rfl
@[simp] theorem P_:(Rs.err c ρ st).sq h= .err c ρ st:=rfl
@[simp] theorem Qa:Rs.bad.sq h= .bad:=rfl
@[simp] theorem NN:(Re.ok a st).bind f=f a st:=rfl
@[simp] theorem ML:(Re.err c st).bind f= .err c st:=rfl
@[simp] theorem MM:(Re.bad:Re α).bind f= .bad:=rfl
@[simp] theorem Qb:(Re.ok a st).aM ρ k=k a st:=rfl
@[simp] theorem NO:(Re.err c st:Re α).aM ρ k= .err c ρ st:=rfl
@[simp] theorem Qc:(Re.ok a st).jh= .ok a st:=rfl
@[simp] theorem NP:(Re.bad:Re α).jh= .bad:=rfl
@[simp] theorem NQ:(Re.bad:Re α).aM ρ k= .bad:=rfl
@[simp] theorem MN:aA g h ρ st=(g ρ st).sq h:=by unfold aA Rs.sq;cases g ρ st<;>rfl
@[simp] theorem e_next:bD ρ st= .nx ρ st:=rfl
@[simp] theorem R6:bA ga ρ st=(ga ρ st).aM ρ λw st'=> .rt w st':=rfl
@[simp] theorem e_expr:gj ga ρ st=(ga ρ st).aM ρ λ_ st'=> .nx ρ st':=rfl
@[simp] theorem MO:aC i ga ρ st=(ga ρ st).aM ρ λw st'=> .nx (ρ.set i (some w)) st':=rfl
def Qd(ga gb:GS)(ρ:aT):Bool->Hs->Rs:=λb st'=>if b=true then ga ρ st' else gb ρ st'
@[simp] theorem R7:Qd g h ρ true st=g ρ st:=rfl
@[simp] theorem R9:Qd g h ρ false st=h ρ st:=rfl
@[simp] theorem UL:lC gt g h ρ st=(gt ρ st).aM ρ (Qd g h ρ):=rfl
def R_(o:Option (Option Wv))(st:Hs):Re Wv:=match o with
 | some (some w)=> .ok w st
 | _=> .bad
@[simp] theorem Sa:R_ (some (some w)) st= .ok w st:=rfl
@[simp] theorem MP:ae i ρ st=R_ ρ[i]? st:=rfl
@[simp] theorem e_c:gC w ρ st= .ok w st:=rfl
def kB(op:eE)(gb:GE)(ρ:aT):Wv->Hs->Re Wv:=λx st1=>(gb ρ st1).bind λy st2=>(op x y st2).jh
@[simp] theorem UM{op:eE}{x:Wv}:kB op gb ρ x st=(gb ρ st).bind λy st2=>(op x y st2).jh:=rfl
@[simp] theorem Sb{op:eE}:aj op ga gb ρ st=(ga ρ st).bind (kB op gb ρ):=rfl
@[simp] theorem Sd:bC ga ρ st=(ga ρ st).bind FX:=rfl
@[simp] theorem Se{b:Bool}:FX (.bl b) st= .ok b st:=rfl
@[simp] theorem Sf:b9 ga ρ st=(ga ρ st).bind AE:=rfl
@[simp] theorem Qe{b:Bool}:AE (.bl b) st= .ok b st:=rfl
@[simp] theorem Sg:jw gt ρ st=(gt ρ st).bind λb st1=> .ok (!b) st1:=rfl
def JN(gb:GT)(ρ:aT):Bool->Hs->Re Bool:=λb st1=>if b=true then gb ρ st1 else .ok false st1
@[simp] theorem Qf:JN gu ρ true st=gu ρ st:=rfl
@[simp] theorem Qg:JN gu ρ false st= .ok false st:=rfl
@[simp] theorem Sh:x_ gt gu ρ st=(gt ρ st).bind (JN gu ρ):=rfl
def Qh(gb:GT)(ρ:aT):Bool->Hs->Re Bool:=λb st1=>if b=true then .ok true st1 else gb ρ st1
@[simp] theorem Si:Qh gu ρ true st= .ok true st:=rfl
@[simp] theorem Sj:Qh gu ρ false st=gu ρ st:=rfl
@[simp] theorem UN:HR gt gu ρ st=(gt ρ st).bind (Qh gu ρ):=rfl
def Cq(gb:GE)(ρ:aT):Wv->Hs->Re Wv:=λw st1=>match w with
 | .bl true=>gb ρ st1
 | .bl false=> .ok (.bl false) st1
 | _=> .bad
@[simp] theorem NR:Cq gb ρ (.bl true) st=gb ρ st:=rfl
@[simp] theorem NT:Cq gb ρ (.bl false) st= .ok (.bl false) st:=rfl
@[simp] theorem Qi:wo ga gb ρ st=(ga ρ st).bind (Cq gb ρ):=rfl
def MQ:Wv->Hs->Re Wv:=λw st1=>match w with
 | .bl b=> .ok (.bl (!b)) st1
 | _=> .bad
@[simp] theorem NU{b:Bool}:MQ (.bl b) st= .ok (.bl (!b)) st:=rfl
def JP(ga gb:GE)(ρ:aT):Bool->Hs->Re Wv:=λb st1=>if b=true then ga ρ st1 else gb ρ st1
@[simp] theorem Qj:JP ga gb ρ true st=ga ρ st:=rfl
@[simp] theorem Qk:JP ga gb ρ false st=gb ρ st:=rfl
@[simp] theorem Sk:jX gt ga gb ρ st=(gt ρ st).bind (JP ga gb ρ):=rfl
@[simp] theorem MR:ai ρ st= .ok [] st:=rfl
def Gn(gr:GA)(ρ:aT):Wv->Hs->Re (List Wv):=λx st1=>(gr ρ st1).bind λxs st2=> .ok (x::xs) st2
@[simp] theorem NV{gr:GA}{x:Wv}:Gn gr ρ x st=(gr ρ st).bind λxs st2=> .ok (x::xs) st2:=rfl
@[simp] theorem JQ{gr:GA}:aa ga gr ρ st=(ga ρ st).bind (Gn gr ρ):=rfl
def Fe:List Wv->Hs->Re Wv:=λws st1=>if ws.length<=lim then .ok (.tup ws) st1 else .bad
theorem Cr{ws:List Wv}(hl:ws.length<=lim):Fe ws st= .ok (.tup ws) st:=if_pos hl
@[simp] theorem MS{gr:GA}:dN gr ρ st=(gr ρ st).bind Fe:=rfl
def gL:List Wv->Hs->Re Wv:=λws st1=>if ws.length<=lim then .ok (.ref st1.length) (st1++[.lst ws]) else .bad
theorem cU{ws:List Wv}(hl:ws.length<=lim):gL ws st= .ok (.ref st.length) (st++[.lst ws]):=if_pos hl
@[simp] theorem Sl{gr:GA}:bM gr ρ st=(gr ρ st).bind gL:=rfl
section
variable {x x0 x1 x2 x3 x4 x5 x6 x7:Wv}
@[simp] theorem Ql:Fe [x0,x1] st= .ok (.tup [x0,x1]) st:=Cr (by simp[lim])
@[simp] theorem Qm:Fe [x0,x1,x2,x3,x4] st= .ok (.tup [x0,x1,x2,x3,x4]) st:=Cr (by simp[lim])
@[simp] theorem Qn:gL [] st= .ok (.ref st.length) (st++[.lst []]):=cU (by simp[lim])
@[simp] theorem vE:gL [x0] st= .ok (.ref st.length) (st++[.lst [x0]]):=cU (by simp[lim])
@[simp] theorem vF:gL [x0,x1] st= .ok (.ref st.length) (st++[.lst [x0,x1]]):=cU (by simp[lim])
@[simp] theorem Qo:gL [x0,x1,x2,x3] st= .ok (.ref st.length) (st++[.lst [x0,x1,x2,x3]]):=cU (by simp[lim])
@[simp] theorem Qp:gL [x0,x1,x2,x3,x4] st= .ok (.ref st.length) (st++[.lst [x0,x1,x2,x3,x4]]):=cU (by simp[lim])
end
def p5(n:Nat)(F:List Wv->Hs->Re Wv):List Wv->Hs->Re Wv:=λws st1=>if ws.length=n then F ws st1 else .bad
section
variable {F:List Wv->Hs->Re Wv} {x0 x1 x2 x3:Wv} {gr:GA}
@[simp] theorem NW:p5 1 F [x0] st=F [x0] st:=rfl
@[simp] theorem NX:p5 2 F [x0,x1] st=F [x0,x1] st:=rfl
@[simp] theorem NY:p5 3 F [x0,x1,x2] st=F [x0,x1,x2] st:=rfl
@[simp] theorem NZ:p5 4 F [x0,x1,x2,x3] st=F [x0,x1,x2,x3] st:=rfl
@[simp] theorem JR{n:Nat}:ax n F gr ρ st=(gr ρ st).bind (p5 n F):=rfl
@[simp] theorem Ff{op:List Wv->Hs->Re Wv}:ao op gr ρ st=(gr ρ st).bind λws st1=>(op ws st1).jh:=rfl
end
@[simp] theorem UO{op:Wv->Hs->Re Wv}:zm op ga ρ st=(ga ρ st).bind op:=rfl
@[simp] theorem Sn{i:Int}:ie (.int i) st= .ok (.int (-i)) st:=rfl
@[simp] theorem So{i j:Int}:b8 (.int i) (.int j) st= .ok (.int (i+j)) st:=rfl
@[simp] theorem Sq{i j:Int}:qt (.int i) (.int j) st= .ok (.int (i - j)) st:=rfl
@[simp] theorem UP{i j:Int}:oLt (.int i) (.int j) st= .ok (.bl (decide (i < j))) st:=rfl
@[simp] theorem UQ{i j:Int}:oLe (.int i) (.int j) st= .ok (.bl (decide (i<=j))) st:=rfl
@[simp] theorem UR{i j:Int}:LN (.int i) (.int j) st= .ok (.bl (decide (j < i))) st:=rfl
@[simp] theorem US{i j:Int}:O0 (.int i) (.int j) st= .ok (.bl (decide (j<=i))) st:=rfl
@[simp] theorem UT{i j:Int}:oEq (.int i) (.int j) st= .ok (.bl (i == j)) st:=rfl
@[simp] theorem UU{i j:Int}:wt (.int i) (.int j) st= .ok (.bl (!(i == j))) st:=rfl
@[simp] theorem UW{i j:PySem.Str}:oEq (.str i) (.str j) st= .ok (.bl (i == j)) st:=rfl
@[simp] theorem UX{i j:PySem.Str}:wt (.str i) (.str j) st= .ok (.bl (!(i == j))) st:=rfl
@[simp] theorem UY{i j:Bool}:oEq (.bl i) (.bl j) st= .ok (.bl (i == j)) st:=by cases i<;>cases j<;>rfl
@[simp] theorem UZ{i j:Bool}:wt (.bl i) (.bl j) st= .ok (.bl (!(i == j))) st:=by cases i<;>cases j<;>rfl
theorem nL{i j:Int}(h:j≠0/\j.natAbs.log2 < 9000):eX (.int i) (.int j) st= .ok (.int (i.fdiv j)) st:=by show(if _ then _ else _)=_;rw[if_pos h]
theorem kq{i j:Int}(h:j≠0):oMod (.int i) (.int j) st= .ok (.int (i.fmod j)) st:=by show(if _ then _ else _)=_;rw[if_pos h]
theorem Gp{i j:Int}(h:IntMulOk i j):cD (.int i) (.int j) st= .ok (.int (i * j)) st:=by show(if _ then _ else _)=_;rw[if_pos h]
theorem xj{i j:Int}(h1:-(2 ^ 64) < i)(h2:i < 2 ^ 64):cD (.int i) (.int j) st= .ok (.int (i * j)) st:=Gp (IntMulOk.of_left (intBits_le_64 h1 h2))
theorem mul_r{i j:Int}(h1:-(2 ^ 64) < j)(h2:j < 2 ^ 64):cD (.int i) (.int j) st= .ok (.int (i * j)) st:=Gp (IntMulOk.of_right (intBits_le_64 h1 h2))
theorem Gq{i j:Int}(h:0<=j/\j<=1000000/\i.natAbs < 2 ^ 64):rZ (.int i) (.int j) st= .ok (.int (i ^ j.toNat)) st:=by show(if _ then _ else _)=_;rw[if_pos h]
theorem jg{l:Nat}{i:Int}{ws:List Wv}{v:Wv}(h:af st l=some ws)(h2:kI ws i=some v):bz (.ref l) (.int i) st= .ok v st:=by
 show(match af st l with | some ws=>(match kI ws i with | some w=>Re.ok w st | none=> .bad) | none=> .bad)=_
 rw[h]
 dsimp only
 rw[h2]
theorem add_l{l k:Nat}{xs ys:List Wv}(h1:af st l=some xs)(h2:af st k=some ys)(hl:xs.length+ys.length<=lim):b8 (.ref l) (.ref k) st= .ok (.ref st.length) (st++[.lst (xs++ys)]):=by
 show(match af st l,af st k with | some i,some j=>if i.length+j.length<=lim then Re.ok (Wv.ref st.length) (st++[Ob.lst (i++j)]) else .bad | _,_=> .bad)=_
 rw[h1,h2]
 exact if_pos hl
theorem oI{i:Int}{ws:List Wv}{v:Wv}(h2:kI ws i=some v):bz (.tup ws) (.int i) st= .ok v st:=by
 show(match kI ws i with | some w=>Re.ok w st | none=> .bad)=_
 rw[h2]
end
theorem jo{n:Nat}{g:GS}{ws:List Wv}{st st':Hs}{w:Wv}(h:g (ws.map some++List.replicate (n - ws.length) none) st= .rt w st'):dO n g ws st= .ok w st':=by unfold dO;rw[h]
theorem JU{n:Nat}{g:GS}{ws:List Wv}{st st':Hs}{ρ:aT}{c:PySem.Str}(h:g (ws.map some++List.replicate (n - ws.length) none) st= .err c ρ st'):dO n g ws st= .err c st':=by unfold dO;rw[h]
section
variable {ρ:aT} {st:Hs} {ga gb gc:GE} {gl gh:GO}
def Sr(gl gh:GO)(ρ:aT):Wv->Hs->Re Wv:=λx st1=>(gl ρ st1).bind λlo st2=>(gh ρ st2).bind λhi st3=>Bm x lo hi st3
@[simp] theorem N0:dB ga gl gh ρ st=(ga ρ st).bind (Sr gl gh ρ):=rfl
@[simp] theorem Ss{x:Wv}:Sr gl gh ρ x st=(gl ρ st).bind λlo st2=>(gh ρ st2).bind λhi st3=>Bm x lo hi st3:=rfl
@[simp] theorem MT:fG ρ st= .ok none st:=rfl
def Gs:Wv->Hs->Re (Option Int):=λw st1=>match w with
 | .int i=> .ok (some i) st1
 | _=> .bad
@[simp] theorem Qq:jm ga ρ st=(ga ρ st).bind Gs:=rfl
@[simp] theorem N1{i:Int}:Gs (.int i) st= .ok (some i) st:=rfl
theorem JV{l:Nat}{ws:List Wv}{lo hi:Option Int}(h:af st l=some ws):Bm (.ref l) lo hi st= .ok (.ref st.length) (st++[.lst (jy ws lo hi)]):=by
 show(match af st l with | some ws=>Re.ok (Wv.ref st.length) (st++[Ob.lst (jy ws lo hi)]) | none=> .bad)=_
 rw[h]
theorem lR{l:Nat}{ws:List Wv}(h:af st l=some ws):fO [.ref l] st= .ok (.int ws.length) st:=by
 show(match af st l with | some ws=>Re.ok (Wv.int ws.length) st | none=> .bad)=_
 rw[h]
def Cs(op':eE)(gc:GE)(y:Wv)(ρ:aT):Wv->Hs->Re Wv:=λz st3=>match z with
 | .bl true=>(gc ρ st3).bind λu wk=>(op' y u wk).jh
 | .bl false=> .ok (.bl false) st3
 | _=> .bad
@[simp] theorem Qr{op':eE}{y:Wv}:Cs op' gc y ρ (.bl true) st=(gc ρ st).bind λu wk=>(op' y u wk).jh:=rfl
@[simp] theorem Qs{op':eE}{y:Wv}:Cs op' gc y ρ (.bl false) st= .ok (.bl false) st:=rfl
@[simp] theorem N2{op op':eE}:gG op op' ga gb gc ρ st=(ga ρ st).bind λx st1=>(gb ρ st1).bind λy st2=>(op x y st2).jh.bind (Cs op' gc y ρ):=rfl
def MU(op' y9:eE)(gc gd:GE)(y:Wv)(ρ:aT):Wv->Hs->Re Wv:=λz st3=>match z with
 | .bl true=>(gc ρ st3).bind λu wk=>(op' y u wk).jh.bind (Cs y9 gd u ρ)
 | .bl false=> .ok (.bl false) st3
 | _=> .bad
@[simp] theorem Qt{op' y9:eE}{gd:GE}{y:Wv}:MU op' y9 gc gd y ρ (.bl true) st=(gc ρ st).bind λu wk=>(op' y u wk).jh.bind (Cs y9 gd u ρ):=rfl
@[simp] theorem Qu{op' y9:eE}{gd:GE}{y:Wv}:MU op' y9 gc gd y ρ (.bl false) st= .ok (.bl false) st:=rfl
def y_(cat:PySem.Str->Option Bool)(i:Nat)(gs:GS)(r:Rs):Rs:=match r with
 | .err c ρ' st'=>(match cat c with
  | some true=>(match gs (ρ'.set i (some (.fA c))) st' with
   | .nx ρ2 st2=> .nx (ρ2.set i none) st2
   | .rt w st2=> .rt w st2
   | _=> .bad)
  | _=> .bad)
 | r=>r
@[simp] theorem Su{cat:PySem.Str->Option Bool}{i:Nat}{g gs:GS}:yu cat i g gs ρ st=y_ cat i gs (g ρ st):=by
 unfold yu y_
 cases g ρ st<;>rfl
@[simp] theorem N3{cat:PySem.Str->Option Bool}{i:Nat}{gs:GS}:y_ cat i gs (.nx ρ st)= .nx ρ st:=rfl
@[simp] theorem N4{cat:PySem.Str->Option Bool}{i:Nat}{gs:GS}{w:Wv}:y_ cat i gs (.rt w st)= .rt w st:=rfl
def Gu(cat:PySem.Str->Option Bool)(gs:GS)(r:Rs):Rs:=match r with
 | .err c ρ' st'=>(match cat c with
  | some true=>(match gs ρ' st' with
   | .nx ρ2 st2=> .nx ρ2 st2
   | .rt w st2=> .rt w st2
   | _=> .bad)
  | _=> .bad)
 | r=>r
@[simp] theorem MV{cat:PySem.Str->Option Bool}{gs:GS}:Gu cat gs (.nx ρ st)= .nx ρ st:=rfl
@[simp] theorem MW{cat:PySem.Str->Option Bool}{gs:GS}{w:Wv}:Gu cat gs (.rt w st)= .rt w st:=rfl
theorem Cu{cat:PySem.Str->Option Bool}{i:Nat}{gs:GS}{c:PySem.Str}{ρ2:aT}{st2:Hs}(h:cat c=some true)(k:gs (ρ.set i (some (.fA c))) st= .nx ρ2 st2):y_ cat i gs (.err c ρ st)= .nx (ρ2.set i none) st2:=by
 unfold y_
 simp only[h,k]
end
theorem au{st:Hs}{ws:List Wv}:af (st++[.lst ws]) st.length=some ws:=by unfold af;simp
theorem i9{st:Hs}{o:Ob}{l:Nat}{ws:List Wv}(h:af st l=some ws):af (st++[o]) l=some ws:=by
 have hl:l < st.length:=by
  unfold af at h
  cases e:st[l]? with
  | none=>rw[e] at h;cases h
  | some o=>exact(List.getElem?_eq_some_iff.mp e).1
 unfold af at h ⊢
 rw[List.getElem?_append_left hl]
 exact h
theorem bZ{st:Hs}{l:Nat}{ws:List Wv}(h:af st l=some ws):l < st.length:=by
 unfold af at h
 cases e:st[l]? with
 | none=>rw[e] at h;cases h
 | some o=>exact(List.getElem?_eq_some_iff.mp e).1
def aR(l:Nat)(st st':Hs):Prop:=st.length<=st'.length/\∀k,k < st.length->k≠l->st'[k]? =st[k]?
theorem aR.refl{l:Nat}{st:Hs}:aR l st st:=⟨Nat.le_refl _,λ_ _ _=>rfl⟩
theorem aR.trans{l:Nat}{a b c:Hs}(h:aR l a b)(k:aR l b c):aR l a c:=⟨Nat.le_trans h.1 k.1,λj h1 h2=>(k.2 j (Nat.lt_of_lt_of_le h1 h.1) h2).trans (h.2 j h1 h2)⟩
theorem aR.push{l:Nat}{st:Hs}{o:Ob}:aR l st (st++[o]):=⟨by simp,λk h _=>List.getElem?_append_left h⟩
theorem aR.set{l:Nat}{st:Hs}{o:Ob}:aR l st (st.set l o):=⟨by simp,λk _ h=>List.getElem?_set_ne (λz=>h z.symm)⟩
theorem aR.lst{l:Nat}{st st':Hs}(k:aR l st st'){j:Nat}{ws:List Wv}(h:af st j=some ws)(hj:j≠l):af st' j=some ws:=by
 unfold af at h ⊢
 rw[k.2 j (bZ (st:=st) (ws:=ws) (by unfold af;exact h)) hj]
 exact h
@[simp] theorem N5{i:Nat}{ga:GA}{gb:GS}{ρ:aT}{st:Hs}:kL i ga gb ρ st=(ga ρ st).aM ρ λws st1=>match ws with
 | [.int j]=>if je j then eZ i gb (bS 0 j.toNat) ρ st1 else .bad
 | _=> .bad:=rfl
@[simp] theorem N6{c:PySem.Str}{ga:GA}{ρ:aT}{st:Hs}:kM c ga ρ st=(ga ρ st).aM ρ λws st1=>if ws.length<=lim then .err c ρ st1 else .bad:=rfl
def Gv(mt:Wv->Wv->Hs->Re Wv)(ga:GE)(ρ:aT):Wv->Hs->Re Wv:=λo st1=>match o with
 | .ref l=>(match af st1 l with
  | some _=>(ga ρ st1).bind λv st2=>(mt o v st2).jh
  | none=> .bad)
 | _=> .bad
@[simp] theorem Qv{mt:Wv->Wv->Hs->Re Wv}{go ga:GE}{ρ:aT}{st:Hs}:jY mt go ga ρ st=(go ρ st).bind (Gv mt ga ρ):=rfl
theorem kr{mt:Wv->Wv->Hs->Re Wv}{ga:GE}{ρ:aT}{st:Hs}{l:Nat}{ws:List Wv}(h:af st l=some ws):Gv mt ga ρ (.ref l) st=(ga ρ st).bind λv st2=>(mt (.ref l) v st2).jh:=by
 show(match af st l with | some _=>(ga ρ st).bind λv st2=>(mt (.ref l) v st2).jh | none=> .bad)=_
 rw[h]
theorem tR{st:Hs}{l:Nat}{v:Wv}{ws:List Wv}(h:st[l]? =some (.lst ws))(hl:ws.length < lim):jz (.ref l) v st= .ok .aF (st.set l (.lst (ws++[v]))):=by
 show(match st[l]? with | some (.lst ws)=>if ws.length < lim then Re.ok Wv.aF (st.set l (.lst (ws++[v]))) else .bad | _=> .bad)=_
 rw[h]
 exact if_pos hl
def kFor(i:Nat)(gb:GS)(ρ:aT):Wv->Hs->Rs:=λw st1=>match w with
 | .ref l=>(match af st1 l with | some ws=>forL i gb l ws ws ρ st1 | none=> .bad)
 | .tup ws=>eZ i gb ws ρ st1
 | .mQ ws=>eZ i gb ws ρ st1
 | _=> .bad
@[simp] theorem Sv{i:Nat}{ga:GE}{gb:GS}{ρ:aT}{st:Hs}:uU i ga gb ρ st=(ga ρ st).aM ρ (kFor i gb ρ):=rfl
theorem qK{i:Nat}{gb:GS}{ρ:aT}{st:Hs}{l:Nat}{ws:List Wv}(h:af st l=some ws):kFor i gb ρ (.ref l) st=forL i gb l ws ws ρ st:=by
 show(match af st l with | some ws=>forL i gb l ws ws ρ st | none=> .bad)=_
 rw[h]
@[simp] theorem Qw{i:Nat}{gb:GS}{ρ:aT}{st:Hs}{ws:List Wv}:kFor i gb ρ (.tup ws) st=eZ i gb ws ρ st:=rfl
theorem xl{i:Nat}{gb:GS}(P:Nat->aT->Hs->Prop):∀(ws:List Wv)(k:Nat)(ρ:aT)(st:Hs),P k ρ st->
  (∀(j:Nat)(w:Wv),ws[j]? =some w->∀ρ st,P (k+j) ρ st->∃ρ' st',gb (ρ.set i (some w)) st= .nx ρ' st'/\P (k+j+1) ρ' st')->∃ρ' st',eZ i gb ws ρ st= .nx ρ' st'/\P (k+ws.length) ρ' st'
 | [],k,ρ,st,h,_=>⟨ρ,st,rfl,h⟩
 | w::r,k,ρ,st,h,step=>by
  obtain⟨ρ1,st1,e1,p1⟩:=step 0 w rfl ρ st h
  obtain⟨ρ2,st2,e2,p2⟩:=xl P r (k+1) ρ1 st1 p1 λj w hw ρ st hp=>by
   have e:k+(j+1)=k+1+j:=by omega
   have q:=step (j+1) w hw ρ st (by rw[e];exact hp)
   rw[e] at q
   exact q
  refine⟨ρ2,st2,?_,?_⟩
  ·unfold eZ
   rw[e1]
   exact e2
  ·have e:k+(w::r).length=k+1+r.length:=by simp;omega
   rw[e]
   exact p2
theorem tS{i:Nat}{gb:GS}(P:aT->Hs->Prop):∀(ws:List Wv)(ρ:aT)(st:Hs),P ρ st->
  (∀w∈ws,∀ρ st,P ρ st->∃ρ' st',gb (ρ.set i (some w)) st= .nx ρ' st'/\P ρ' st')->∃ρ' st',eZ i gb ws ρ st= .nx ρ' st'/\P ρ' st'
 | [],ρ,st,h,_=>⟨ρ,st,rfl,h⟩
 | w::r,ρ,st,h,step=>by
  obtain⟨ρ1,st1,e1,p1⟩:=step w List.mem_cons_self ρ st h
  obtain⟨ρ2,st2,e2,p2⟩:=tS P r ρ1 st1 p1 λw hw=>step w (List.mem_cons_of_mem _ hw)
  refine⟨ρ2,st2,?_,p2⟩
  unfold eZ
  rw[e1]
  exact e2
@[simp] theorem Qx{i:Int}{st:Hs}:Mi [.int i] st=Me [.int i] st:=rfl
@[simp] theorem Cv{cs:e8}{gi:GI}{gt:GT}{ge:GE}{ρ:aT}{st:Hs}:fH cs gi gt ge ρ st=(gi ρ st).bind (bQ cs gt ge ρ):=rfl
@[simp] theorem N7{g:GE}{ρ:aT}{st:Hs}:fQ g ρ st=(g ρ st).bind sT:=rfl
@[simp] theorem Qy{g:GA}{ρ:aT}{st:Hs}:yx g ρ st=(g ρ st).bind sF:=rfl
@[simp] theorem Qz{g:GA}{ρ:aT}{st:Hs}:Pl g ρ st=(g ρ st).bind F_:=rfl
theorem Cw{j:Int}{st:Hs}(h:je j):sF [.int j] st= .ok (none,bS 0 j.toNat) st:=if_pos h
theorem gM{l:Nat}{st:Hs}{ws:List Wv}(h:af st l=some ws):sT (.ref l) st= .ok (some l,ws) st:=by
 show(match af st l with | some ws=>Re.ok (some l,ws) st | none=> .bad)=_
 rw[h]
@[simp] theorem QA{st:Hs}{z:PySem.Str}:sT (.str z) st= .ok (none,fP z) st:=rfl
@[simp] theorem QB{st:Hs}{ws:List Wv}:sT (.tup ws) st= .ok (none,ws) st:=rfl
theorem Fg{st:Hs}{acc:List Wv}{v:Wv}(h:acc.length < lim):jz (.ref st.length) v (st++[.lst acc])= .ok .aF (st++[.lst (acc++[v])]):=by
 rw[tR (ws:=acc) (by simp) h]
 congr 1
 simp
theorem jE{w:Wk}{gt:Wv->Hs->Re Bool}{ge:Wv->Hs->Re Wv}{st:Hs}{t:Wv->Bool}{f:Wv->Wv}(ck:iI w st):∀(ws acc:List Wv),(∀v∈ws,∀acc,gt v (st++[.lst acc])= .ok (t v) (st++[.lst acc]))->
  (∀v∈ws,t v=true->∀acc,ge v (st++[.lst acc])= .ok (f v) (st++[.lst acc]))->acc.length+ws.length < lim->iH (iI w) gt ge st.length ws (st++[.lst acc])=some (st++[.lst (acc++(ws.filter t).map f)])
 | [],acc,_,_,_=>by simp[iH]
 | v::r,acc,h1,h2,hl=>by
  have hl':acc.length+(r.length+1) < lim:=hl
  unfold iH
  rw[h1 v List.mem_cons_self acc]
  cases e:t v with
  | false=>
   dsimp only
   rw[if_pos (m7 ck),jE ck r acc (λv hv=>h1 v (List.mem_cons_of_mem _ hv)) (λv hv=>h2 v (List.mem_cons_of_mem _ hv)) (by omega),List.filter_cons_of_neg (by simp[e])]
  | true=>
   dsimp only
   rw[h2 v List.mem_cons_self e acc]
   dsimp only
   rw[Fg (by omega)]
   dsimp only
   rw[if_pos (m7 ck),jE ck r (acc++[f v]) (λv hv=>h1 v (List.mem_cons_of_mem _ hv)) (λv hv=>h2 v (List.mem_cons_of_mem _ hv)) (by simp;omega),List.filter_cons_of_pos e]
   simp
theorem eT{cs:e8}{gt:GT}{ge:GE}{ρ:aT}{w:Wk}{st:Hs}{t:Wv->Bool}{f:Wv->Wv}(ck:iI w st)(h1:∀v∈w.2,∀acc,gt (some v::gn cs ρ) (st++[.lst acc])= .ok (t v) (st++[.lst acc]))
  (h2:∀v∈w.2,t v=true->∀acc,ge (some v::gn cs ρ) (st++[.lst acc])= .ok (f v) (st++[.lst acc]))(hl:w.2.length < lim):bQ cs gt ge ρ w st= .ok (.ref st.length) (st++[.lst ((w.2.filter t).map f)]):=by
 unfold bQ
 rw[jE ck w.2 [] h1 h2 (by simpa using hl)]
 simp
end J
namespace J
open PySem PySem.Spec PyProof.Rows L2
theorem Cy{α:Type}{ws:List α}{d:Int}(h0:0<=d)(h1:d < ws.length):∃v,L2.kI ws d=some v/\v∈ws:=by
 have hk:d.toNat < ws.length:=by omega
 have ek:d=((d.toNat:Nat):Int):=by omega
 refine⟨ws[d.toNat],?_,List.getElem_mem hk⟩
 have q:=L2.gE (List.getElem?_eq_getElem hk)
 rw[<-ek] at q
 exact q
theorem b_{st:Hs}{l:Nat}{o o':Ob}(h:st[l]? =some o):(st.set l o')[l]? =some o':=List.getElem?_set_self (List.getElem?_eq_some_iff.mp h).1
theorem dS{st:Hs}{l:Nat}{o o':Ob}(h:st[l]? =some o):(st++[o'])[l]? =some o:=by rw[List.getElem?_append_left (List.getElem?_eq_some_iff.mp h).1];exact h
theorem bj{st:Hs}{l:Nat}{ws:List Wv}(h:st[l]? =some (.lst ws)):af st l=some ws:=by unfold af;rw[h]
theorem jF{st:Hs}{l:Nat}{o:Ob}(h:st[l]? =some o):l < st.length:=(List.getElem?_eq_some_iff.mp h).1
theorem cb{st:Hs}{o:Ob}:(st++[o])[st.length]? =some o:=by simp
@[simp] theorem Sw{i:Int}{st:Hs}:O2 [.int i] st= .ok (.int (if i < 0 then -i else i)) st:=rfl
@[simp] theorem p6{l:Nat}{st:Hs}{ns:List Int}(h:af st l=some (ns.map Wv.int)):oE [.ref l] st= .ok (.int ns.sum) st:=by
 show(match af st l with | some ws=>(match intsOf ws with | some ns=>Re.ok (Wv.int ns.sum) st | none=> .bad) | none=> .bad)=_
 rw[h]
 dsimp only
 rw[bX]
theorem qL{lo:Int}{n:Nat}{w:Wv}(h:w∈bS lo n):∃k:Int,w= .int k/\lo<=k/\k < lo+n:=by
 unfold bS at h
 obtain⟨k,hk,rfl⟩:=List.mem_map.mp h
 have:=List.mem_range.mp hk
 exact⟨lo+k,rfl,by omega,by omega⟩
theorem Cz{i:Int}(h1:-1000000<=i)(h2:i<=1000000):je i:=⟨by omega,by omega⟩
@[simp] theorem N8{F:List Wv->Hs->Re Wv}{st:Hs}:p5 0 F [] st=F [] st:=rfl
theorem p7{w:Wk}{gt:Wv->Hs->Re Bool}{ge:Wv->Hs->Re Wv}{rr:Nat}(P:Hs->Prop)(E:Wv->Prop)(hP:∀st acc,P st->P (st.set rr (.lst acc)))(hck:∀st,P st->iI w st) :
  ∀(ws:List Wv),(∀v∈ws,∀st acc,P st->st[rr]? =some (.lst acc)->∃st1,gt v st= .ok true st1/\P st1/\st1[rr]? =some (.lst acc)/\∃u st2,ge v st1= .ok u st2/\E u/\P st2/\st2[rr]? =some (.lst acc))->
   ∀(acc:List Wv)(st:Hs),P st->st[rr]? =some (.lst acc)->acc.length+ws.length < lim->(∀a∈acc,E a)->∃st' acc',iH (iI w) gt ge rr ws st=some st'/\P st'/\st'[rr]? =some (.lst acc')/\(∀a∈acc',E a)/\acc'.length=acc.length+ws.length
 | [],_,acc,st,hp,hg,_,ha=>⟨st,acc,rfl,hp,hg,ha,rfl⟩
 | v::r,step,acc,st,hp,hg,hl,ha=>by
  obtain⟨st1,e1,p1,g1,u,st2,e2,hu,p2,g2⟩:=step v List.mem_cons_self st acc hp hg
  have hl':acc.length+(r.length+1) < lim:=hl
  obtain⟨st3,QC,f1,f2,f3,f4,f5⟩:=p7 P E hP hck r (λv hv=>step v (List.mem_cons_of_mem _ hv)) (acc++[u]) (st2.set rr (.lst (acc++[u]))) (hP _ _ p2) (b_ g2) (by simp;omega) (by
   intro a h
   rcases List.mem_append.mp h with z | z
   ·exact ha a z
   ·simp at z;rw[z];exact hu)
  refine⟨st3,QC,?_,f2,f3,f4,?_⟩
  ·unfold iH
   rw[e1]
   dsimp only
   rw[e2]
   dsimp only
   rw[tR g2 (by omega)]
   dsimp only
   rw[if_pos (hck _ (hP _ _ p2)),f1]
  ·rw[f5];simp;omega
def Gr(st st':Hs):Prop:=st.length<=st'.length/\∀k,k < st.length->st'[k]? =st[k]?
theorem Gr.refl{st:Hs}:Gr st st:=⟨Nat.le_refl _,λ_ _=>rfl⟩
theorem Gr.trans{a b c:Hs}(h:Gr a b)(k:Gr b c):Gr a c:=⟨Nat.le_trans h.1 k.1,λj h1=>(k.2 j (Nat.lt_of_lt_of_le h1 h.1)).trans (h.2 j h1)⟩
theorem Gr.push{st:Hs}{o:Ob}:Gr st (st++[o]):=⟨by simp,λk h=>List.getElem?_append_left h⟩
theorem Gr.lst{st st':Hs}(k:Gr st st'){j:Nat}{ws:List Wv}(h:af st j=some ws):af st' j=some ws:=by
 unfold af at h ⊢
 rw[k.2 j (bZ (st:=st) (ws:=ws) (by unfold af;exact h))]
 exact h
theorem Gr.get{st st':Hs}(k:Gr st st'){j:Nat}{o:Ob}(h:st[j]? =some o):st'[j]? =some o:=by rw[k.2 j (jF h)];exact h
theorem Gr.keep{st st':Hs}{l:Nat}(k:Gr st st'):aR l st st':=⟨k.1,λj h _=>k.2 j h⟩
theorem Gr.dt{st s1 s2:Hs}{l:Nat}(h:st.length<=l)(g:Gr st s1)(k:aR l s1 s2):Gr st s2:=⟨Nat.le_trans g.1 k.1,λj h1=>(k.2 j (Nat.lt_of_lt_of_le h1 g.1) (by omega)).trans (g.2 j h1)⟩
theorem nM{α:Type}(f:α->Wv){i:Nat}{gb:GS}{l:Nat}{all:List Wv}(full:List α)(P:List α->aT->Hs->Prop)
  (step:∀a pre post ρ st,full=pre++a::post->P pre ρ st->af st l=some all->∃ρ' st',gb (ρ.set i (some (f a))) st= .nx ρ' st'/\af st' l=some all/\P (pre++[a]) ρ' st') :
  ∀(post pre:List α)(ρ:aT)(st:Hs),full=pre++post->P pre ρ st->af st l=some all->∃ρ' st',forL i gb l all (post.map f) ρ st= .nx ρ' st'/\P full ρ' st'/\af st' l=some all
 | [],pre,ρ,st,hf,h,hl=>⟨ρ,st,rfl,by rw[hf];simpa using h,hl⟩
 | a::r,pre,ρ,st,hf,h,hl=>by
  obtain⟨ρ1,st1,e1,l1,p1⟩:=step a pre r ρ st hf h hl
  obtain⟨ρ2,st2,e2,p2,l2⟩:=nM f full P step r (pre++[a]) ρ1 st1 (by rw[hf];simp) p1 l1
  refine⟨ρ2,st2,?_,p2,l2⟩
  rw[List.map_cons]
  unfold forL
  rw[e1]
  simp only[if_pos l1]
  exact e2
theorem tT{α:Type}(f:α->Wv){i:Nat}{gb:GS}(full:List α)(P:List α->aT->Hs->Prop)
  (step:∀a pre post ρ st,full=pre++a::post->P pre ρ st->∃ρ' st',gb (ρ.set i (some (f a))) st= .nx ρ' st'/\P (pre++[a]) ρ' st') :
  ∀(post pre:List α)(ρ:aT)(st:Hs),full=pre++post->P pre ρ st->∃ρ' st',eZ i gb (post.map f) ρ st= .nx ρ' st'/\P full ρ' st'
 | [],pre,ρ,st,hf,h=>⟨ρ,st,rfl,by rw[hf];simpa using h⟩
 | a::r,pre,ρ,st,hf,h=>by
  obtain⟨ρ1,st1,e1,p1⟩:=step a pre r ρ st hf h
  obtain⟨ρ2,st2,e2,p2⟩:=tT f full P step r (pre++[a]) ρ1 st1 (by rw[hf];simp) p1
  refine⟨ρ2,st2,?_,p2⟩
  rw[List.map_cons]
  unfold eZ
  rw[e1]
  exact e2
theorem CA{st:Hs}{x y:Wv}{d:PyData}(h1:aS st 20 x=some d)(h2:aS st 20 y=some d)(h:PyData.eqv d d=true):wt x y st= .ok (.bl false) st:=by
 unfold wt
 rw[h1,h2]
 show Re.ok (Wv.bl (!PyData.eqv d d)) st=_
 rw[h]
 rfl
theorem xm{st:Hs}{n l:Nat}{ws:List Wv}(h:af st l=some ws):aS st (n+1) (.ref l)=(ip (aS st n) ws).map PyData.list:=by
 show(match af st l with | some ws=>(ip (aS st n) ws).map PyData.list | none=>none)=_
 rw[h]
theorem MX{l:Nat}{st:Hs}{ns:List Int}(h:af st l=some (ns.map Wv.int))(hn:ns.length < 4096):vc [.ref l] st= .ok (.ref st.length) (st++[.lst ((fF ns).map Wv.int)]):=by
 unfold vc
 simp only[h,bX]
 rw[if_pos hn]
theorem Gw{l:Nat}{st:Hs}{n:Int}{ns:List Int}(h:af st l=some ((n::ns).map Wv.int)):lH [.ref l] st= .ok (.int (fD n ns)) st:=by
 unfold lH
 simp only[h,bX]
theorem Gx{l:Nat}{st:Hs}{n:Int}{ns:List Int}(h:af st l=some ((n::ns).map Wv.int)):lI [.ref l] st= .ok (.int (fZ n ns)) st:=by
 unfold lI
 simp only[h,bX]
@[simp] theorem Sx{i j:Int}{st:Hs}:lH [.int i,.int j] st= .ok (.int (if j > i then j else i)) st:=rfl
@[simp] theorem Sy{i j:Int}{st:Hs}:lI [.int i,.int j] st= .ok (.int (if j < i then j else i)) st:=rfl
theorem CB{a b:List Int}(h:a.Perm b):a.sum=b.sum:=by
 induction h with
 | nil=>rfl
 | cons x _ ih=>simp[ih]
 | swap x y l=>simp only[List.sum_cons];omega
 | trans _ _ h1 h2=>exact h1.trans h2
theorem CC{n:Int}{r:List Int}{a:Int}{t:List Int}(h:fF (n::r)=a::t):a=fZ n r:=by
 have hp:=eR (n::r)
 have hs:=kc (n::r)
 rw[h] at hp hs
 rw[List.pairwise_cons] at hs
 refine wJ (hp.mem_iff.mp List.mem_cons_self) λb hb=>?_
 rcases List.mem_cons.mp (hp.mem_iff.mpr hb) with z | z
 ·omega
 ·exact hs.1 b z
theorem CD{n:Int}{r:List Int}{a:Int}{t:List Int}(h:fF (n::r)=t++[a]):a=fD n r:=by
 have hp:=eR (n::r)
 have hs:=kc (n::r)
 rw[h] at hp hs
 rw[List.pairwise_append] at hs
 refine pP (hp.mem_iff.mp (by simp)) λb hb=>?_
 rcases List.mem_append.mp (hp.mem_iff.mpr hb) with z | z
 ·exact hs.2.2 b z a (by simp)
 ·simp at z;omega
theorem CF{α:Type}{a:α}{r:List α}:L2.kI (a::r) 0=some a:=L2.gE (j:=0) rfl
theorem CG{α:Type}{t:List α}{a:α}:L2.kI (t++[a]) (-1)=some a:=by
 unfold L2.kI L2.v9
 simp
 rw[if_pos (by omega)]
 have e:(-1+((t.length:Int)+1)).toNat=t.length:=by omega
 simp[e]
end J
namespace J
open PySem L2
theorem tb_none{K:PySem.W.Frag}{H:Hp}(h1:PySem.W.nsIn K W5 "form_of"=some none)(h2:PySem.W.nsIn K W5 "formula_by"=some none)(h3:PySem.W.nsIn K W5 "turned"=some none):qp K H:=λq P hq e=>by
 have no:∀q,PySem.W.nsIn K W5 q=some none->gF K q=none:=λq h=>by
  unfold gF PySem.W.tabIn
  rw[h]
 simp only[bO,List.mem_cons,List.not_mem_nil,or_false] at hq
 rcases hq with rfl | rfl | rfl
 ·rw[no _ h1] at e;cases e
 ·rw[no _ h2] at e;cases e
 ·rw[no _ h3] at e;cases e
theorem vG{fd:WQ}{ps:List Str}(us:List WU)(hl:us.length=1)(h:∀a0:WU,bindArgs fd { pos:=[a0] }=pure (ps.zip [a0])):bindArgs fd { pos:=us }=pure (ps.zip us):=match us,hl with | [a0],_=>h a0
theorem ln2{fd:WQ}{ps:List Str}(us:List WU)(hl:us.length=2)(h:∀a0 a1:WU,bindArgs fd { pos:=[a0,a1] }=pure (ps.zip [a0,a1])):bindArgs fd { pos:=us }=pure (ps.zip us):=match us,hl with | [a0,a1],_=>h a0 a1
theorem Sz{fd:WQ}{ps:List Str}(us:List WU)(hl:us.length=3)(h:∀a0 a1 a2:WU,bindArgs fd { pos:=[a0,a1,a2] }=pure (ps.zip [a0,a1,a2])):bindArgs fd { pos:=us }=pure (ps.zip us):=match us,hl with | [a0,a1,a2],_=>h a0 a1 a2
end J
namespace K83
open PySem J
open L2 (defScope defBody defArgs FnScope CX0 FnOk XK Hp)
def top (i:Nat):Stmt:=PySem.Challenge.pw_onelook_k83_worths_put_in.main.body.getD i (.Pass ⟨0,0,0,0⟩)
def cJ:Tab:=[(("BadCount","BadCount"),true),(("BadCount","BadPlace"),false),(("BadCount","BadArea"),false),(("BadCount","BadText"),false),(("BadCount","BadFormula"),false),(("BadCount","BadContent"),false),(("BadCount","Full"),false),(("BadCount","NoCell"),false),(("BadCount","NotWaiting"),false),(("BadCount","NoRoom"),false),(("BadCount","BadTable"),false),(("BadCount","NoTable"),false),(("BadCount","NoColumn"),false),(("BadCount","NoDeed"),false),(("BadCount","Clash"),false),(("BadCount","SheetError"),true)]
def aY:mX:=[(("BadCount","ValueError"),true)]
def CH:Tab:=[(("BadCount","SheetError"),true)]
def cB(s:Stmt)(n b:List Str)(f:List (Str×Nat×(List Wv->Hs->Re Wv))):Ct:={ N:=n,names:=(defScope s).names,consts:=[],bl:=b,fns:=f,tb:=cJ,tt:=aY,tc:=CH }
theorem lS{N P:List Str}{sc:Scope}(h:sc.kind= .function/\sc.isCoroutine=false/\sc.isGenerator=false/\N.take P.length=P)(k:N.Nodup/\(∀x∈P,sc.names.lookup x=some .local\/sc.names.lookup x=some .cell)/\∀y∈sc.names,y.2≠.free):FnScope N P sc:=⟨h.1,h.2.1,h.2.2.1,k.1,h.2.2.2,k.2.1,k.2.2⟩
abbrev cV:Stmt:=top 35
def fe:GS:=(aA (lC (bC (aj oLt (ae 1) (ao fO (aa (ae 0) ai)))) (bA (aj bz (ae 0) (ae 1))) bD)
  (bA (gC (.int 0))))
def aV:List Wv->Hs->Re Wv:=dO 2 fe
def ff:Ct:=cB cV ["script","k"] ["len"] []
theorem nN:a7 30 (ff) (defBody cV)=fe:=by kernel_rfl
theorem lX:FnScope (ff).N ["script","k"] (defScope cV):=lS ⟨rfl,rfl,rfl,rfl⟩ (by decide+kernel)
abbrev eF:Stmt:=top 37
def gN:GS:=(aA (aC 2 (aj oMod (aj bz (ae 0) (gC (.int 0))) (ae 1)))
  (aA (wu (aj eX (aj bz (ae 0) (gC (.int 0))) (ae 1)) (ae 0) (gC (.int 0)))
  (bA (ae 2))))
def aQ:List Wv->Hs->Re Wv:=dO 3 gN
def gO:Ct:=cB eF ["row","many","digit"] [] []
theorem qM:a7 30 (gO) (defBody eF)=gN:=by kernel_rfl
theorem oJ:FnScope (gO).N ["row","many"] (defScope eF):=lS ⟨rfl,rfl,rfl,rfl⟩ (by decide+kernel)
abbrev eG:Stmt:=top 38
def gP:GS:=(aA (aC 1 (ax 2 aQ (aa (ae 0) (aa (gC (.int 12)) ai))))
  (aA (lC (bC (aj oLt (ae 1) (gC (.int 5)))) (bA (aj qt (ax 2 aQ (aa (ae 0) (aa (gC (.int 15)) ai))) (gC (.int 5)))) bD)
  (aA (lC (bC (aj oLt (ae 1) (gC (.int 7)))) (bA (aj cD (aj bz (bM (aa (gC (.int 1)) (aa (zm ie (gC (.int 1))) ai))) (ax 2 aQ (aa (ae 0) (aa (gC (.int 2)) ai)))) (aj qt (aj rZ (gC (.int 10)) (gC (.int 60))) (ax 2 aQ (aa (ae 0) (aa (gC (.int 3)) ai)))))) bD)
  (aA (lC (bC (aj oLt (ae 1) (gC (.int 9)))) (bA (aj bz (bM (aa (gC (.str "")) (aa (gC (.str "a")) (aa (gC (.str "b7")) (aa (gC (.str "7")) ai))))) (ax 2 aQ (aa (ae 0) (aa (gC (.int 4)) ai))))) bD)
  (aA (lC (bC (aj oLt (ae 1) (gC (.int 11)))) (bA (gC .aF)) bD)
  (bA (dN (aa (gC (.str "fault")) (aa (aj bz (bM (aa (gC (.str "kind")) (aa (gC (.str "great")) (aa (gC (.str "nought")) (aa (gC (.str "none")) (aa (gC (.str "lost")) ai)))))) (ax 2 aQ (aa (ae 0) (aa (gC (.int 5)) ai)))) ai)))))))))
def bG:List Wv->Hs->Re Wv:=dO 2 gP
def gQ:Ct:=cB eG ["row","way"] [] [("_law_digit",2,aQ)]
theorem qN:a7 30 (gQ) (defBody eG)=gP:=by kernel_rfl
theorem oK:FnScope (gQ).N ["row"] (defScope eG):=lS ⟨rfl,rfl,rfl,rfl⟩ (by decide+kernel)
abbrev eI:Stmt:=top 36
def gR:GS:=(aA (aC 2 (aj oMod (aj cD (aj b8 (aj b8 (aj oMod (ae 0) (gC (.int 1000000007))) (aj cD (gC (.int 7919)) (ae 1))) (gC (.int 1))) (gC (.int 48271))) (gC (.int 2147483647))))
  (bA (aj oMod (aj cD (aj oMod (aj cD (ae 2) (ae 2)) (gC (.int 2147483629))) (gC (.int 69621))) (gC (.int 2147483647)))))
def aZ:List Wv->Hs->Re Wv:=dO 3 gR
def gS:Ct:=cB eI ["cell","k","stir"] [] []
theorem qO:a7 30 (gS) (defBody eI)=gR:=by kernel_rfl
theorem oM:FnScope (gS).N ["cell","k"] (defScope eI):=lS ⟨rfl,rfl,rfl,rfl⟩ (by decide+kernel)
abbrev dC:Stmt:=top 39
def cg:GS:=(aC 3 (aj b8 (aj cD (ae 3) (gC (.int 2147483647))) (ax 2 aZ (aa (aj b8 (ae 2) (ao oE (aa (ae 0) ai))) (aa (aj b8 (aj cD (gC (.int 5)) (ae 1)) (ae 4)) ai)))))
def fR:GS:=(aA (aC 2 (ax 2 aV (aa (ae 0) (aa (ae 1) ai))))
  (aA (lC (x_ (bC (aj oEq (aj oMod (ax 2 aV (aa (ae 0) (aa (gC (.int 0)) ai))) (gC (.int 2))) (gC (.int 1)))) (bC (aj oLt (ae 1) (ao fO (aa (ae 0) ai))))) (bA (bM (aa (ae 2) ai))) bD)
  (aA (aC 3 (gC (.int 0)))
  (aA (kL 4 (aa (gC (.int 3)) ai) cg)
  (bA (bM (aa (aj eX (ae 3) (gC (.int 8))) ai)))))))
def cF:List Wv->Hs->Re Wv:=dO 5 fR
def fS:Ct:=cB dC ["script","k","cell","found","j"] ["range","len","sum"] [("_law_cell_at",2,aV),("_law_mixed",2,aZ)]
theorem oN:a7 30 (fS) (defBody dC)=fR:=by kernel_rfl
theorem nO:FnScope (fS).N ["script","k"] (defScope dC):=lS ⟨rfl,rfl,rfl,rfl⟩ (by decide+kernel)
abbrev dD:Stmt:=top 40
def cj:GS:=(aA (aC 5 (ax 1 bG (aa (ax 2 cF (aa (ae 0) (aa (aj b8 (ae 4) (gC (.int 1))) ai))) ai)))
  (aA (lC (x_ (jw (b9 (ae 2))) (b9 (ao (a8 cJ aY) (aa (ae 5) (aa (gC (.ty "tuple")) ai))))) (aC 5 (ae 4)) bD)
  (gj (jY jz (ae 3) (ae 5)))))
def fT:GS:=(aA (aC 3 (bM ai))
  (aA (kL 4 (aa (ae 1) ai) cj)
  (bA (ae 3))))
def bK:List Wv->Hs->Re Wv:=dO 6 fT
def fU:Ct:=cB dD ["script","many","faults","found","k","worth"] ["range","isinstance","tuple"] [("_law_worth",1,bG),("_law_row_of",2,cF)]
theorem oO:a7 30 (fU) (defBody dD)=fT:=by kernel_rfl
theorem nP:FnScope (fU).N ["script","many","faults"] (defScope dD):=lS ⟨rfl,rfl,rfl,rfl⟩ (by decide+kernel)
abbrev eJ:Stmt:=top 25
def gT:GS:=(lC (jw (bC (gG oLe oLe (gC (.int 1)) (ae 0) (gC (.int 99))))) (kM "BadCount" (aa (gC (.str "not 1 to 99 worths")) ai)) bD)
def cq:List Wv->Hs->Re Wv:=dO 1 gT
def gU:Ct:={ cB eJ ["many"] [] [] with consts:=[("MOST_WORTHS",(.int 99))],clss:=["BadCount"] }
theorem qP:a7 30 (gU) (defBody eJ)=gT:=by kernel_rfl
theorem oP:FnScope (gU).N ["many"] (defScope eJ):=lS ⟨rfl,rfl,rfl,rfl⟩ (by decide+kernel)
abbrev fM:Stmt:=top 26
def iL:GS:=(bA (aj oEq (aj qt (aj bz (ae 0) (gC (.int 1))) (aj bz (ae 0) (gC (.int 0)))) (gC (.int 1))))
def aE:List Wv->Hs->Re Wv:=dO 1 iL
def iM:Ct:=cB fM ["node"] [] []
theorem tU:a7 30 (iM) (defBody fM)=iL:=by kernel_rfl
theorem qQ:FnScope (iM).N ["node"] (defScope fM):=lS ⟨rfl,rfl,rfl,rfl⟩ (by decide+kernel)
abbrev fN:Stmt:=top 27
def iN:GS:=(aA (aC 1 (aj eX (aj b8 (aj bz (ae 0) (gC (.int 0))) (aj bz (ae 0) (gC (.int 1)))) (gC (.int 2))))
  (bA (bM (aa (dN (aa (aj bz (ae 0) (gC (.int 0))) (aa (ae 1) ai))) (aa (dN (aa (ae 1) (aa (aj bz (ae 0) (gC (.int 1))) ai))) ai)))))
def bw:List Wv->Hs->Re Wv:=dO 2 iN
def iO:Ct:=cB fN ["node","middle"] [] []
theorem tV:a7 30 (iO) (defBody fN)=iN:=by kernel_rfl
theorem qR:FnScope (iO).N ["node"] (defScope fN):=lS ⟨rfl,rfl,rfl,rfl⟩ (by decide+kernel)
abbrev dE:Stmt:=top 30
def a9:GS:=(lC (jw (b9 (ax 1 aE (aa (ae 2) ai)))) (gj (jY nB (ae 1) (ax 1 bw (aa (ae 2) ai)))) bD)
def fV:GS:=(aA (aC 1 (bM ai))
  (aA (uU 2 (ae 0) a9)
  (bA (ae 1))))
def cG:List Wv->Hs->Re Wv:=dO 3 fV
def fW:Ct:=cB dE ["level","below","node"] [] [("is_single",1,aE),("halves_of",1,bw)]
theorem oQ:a7 30 (fW) (defBody dE)=fV:=by kernel_rfl
theorem nQ:FnScope (fW).N ["level"] (defScope dE):=lS ⟨rfl,rfl,rfl,rfl⟩ (by decide+kernel)
abbrev dF:Stmt:=top 29
def bE:GS:=(aA (gj (jY nB (ae 1) (ae 2)))
  (aC 2 (ax 1 cG (aa (ae 2) ai))))
def dG:GS:=(aA (aC 1 (bM ai))
  (aA (aC 2 (bM (aa (ae 0) ai)))
  (aA (iJ iK (b9 (ae 2)) bE)
  (bA (ae 1)))))
def bL:List Wv->Hs->Re Wv:=dO 3 dG
def fX:Ct:=cB dF ["whole","nodes","level"] [] [("level_under",1,cG)]
theorem oR:a7 30 (fX) (defBody dF)=dG:=by kernel_rfl
theorem nR:FnScope (fX).N ["whole"] (defScope dF):=lS ⟨rfl,rfl,rfl,rfl⟩ (by decide+kernel)
abbrev gW:Stmt:=top 19
def nT:GS:=(bA (wo (ao (a8 cJ aY) (aa (ae 0) (aa (gC (.ty "tuple")) ai))) (aj oEq (dB (ae 0) fG (jm (gC (.int 1)))) (dN (aa (gC (.str "fault")) ai)))))
def gX:List Wv->Hs->Re Wv:=dO 1 nT
def jG:Ct:=cB gW ["worth"] ["isinstance","tuple"] []
theorem vH:a7 30 (jG) (defBody gW)=nT:=by kernel_rfl
theorem tW:FnScope (jG).N ["worth"] (defScope gW):=lS ⟨rfl,rfl,rfl,rfl⟩ (by decide+kernel)
abbrev gY:Stmt:=top 22
def fg:GT:=(b9 (ax 1 gX (aa (ae 0) ai)))
def iP:GE:=(ae 0)
def fh:GT:=(b9 (ao (a8 cJ aY) (aa (ae 0) (aa (gC (.ty "int")) ai))))
def iQ:GE:=(ae 0)
def jH:GS:=(aA (aC 1 (fH [] (fQ (ae 0)) fh iQ))
  (aA (aC 2 (fH [] (fQ (ae 0)) fg iP))
  (aA (aC 3 (jX (b9 (ae 1)) (ao lI (aa (ae 1) ai)) (gC .aF)))
  (aA (aC 4 (jX (b9 (ae 1)) (ao lH (aa (ae 1) ai)) (gC .aF)))
  (bA (dN (aa (ao oE (aa (ae 1) ai)) (aa (ao fO (aa (ae 1) ai)) (aa (ae 3) (aa (ae 4) (aa (jX (b9 (ae 2)) (aj bz (ae 2) (gC (.int 0))) (gC .aF)) ai)))))))))))
def bH:List Wv->Hs->Re Wv:=dO 5 jH
def jI:Ct:=cB gY ["worths","numbers","faults","least","greatest"] ["min","max","sum","len","isinstance","int"] [("is_fault",1,gX)]
theorem vI:a7 30 (jI) (defBody gY)=jH:=by kernel_rfl
theorem tX:FnScope (jI).N ["worths"] (defScope gY):=lS ⟨rfl,rfl,rfl,rfl⟩ (by decide+kernel)
abbrev cW:Stmt:=top 23
def fj:GT:=(bC (aj jx (ae 0) (gC .aF)))
def fk:GE:=(ae 0)
def fm:GT:=(bC (aj jx (ae 0) (gC .aF)))
def fo:GE:=(ae 0)
def fq:GS:=(aA (aC 2 (ao pT (aa (fH [] (fQ (dN (aa (aj bz (ae 0) (gC (.int 2))) (aa (aj bz (ae 1) (gC (.int 2))) ai)))) fm fo) ai)))
  (aA (aC 3 (ao pS (aa (fH [] (fQ (dN (aa (aj bz (ae 0) (gC (.int 3))) (aa (aj bz (ae 1) (gC (.int 3))) ai)))) fj fk) ai)))
  (aA (aC 4 (jX (bC (aj F1 (aj bz (ae 0) (gC (.int 4))) (gC .aF))) (aj bz (ae 1) (gC (.int 4))) (aj bz (ae 0) (gC (.int 4)))))
  (bA (dN (aa (aj b8 (aj bz (ae 0) (gC (.int 0))) (aj bz (ae 1) (gC (.int 0)))) (aa (aj b8 (aj bz (ae 0) (gC (.int 1))) (aj bz (ae 1) (gC (.int 1)))) (aa (ae 2) (aa (ae 3) (aa (ae 4) ai))))))))))
def b7:List Wv->Hs->Re Wv:=dO 5 fq
def ft:Ct:=cB cW ["one","other","least","greatest","first_fault"] ["min","max"] []
theorem nU:a7 30 (ft) (defBody cW)=fq:=by kernel_rfl
theorem lY:FnScope (ft).N ["one","other"] (defScope cW):=lS ⟨rfl,rfl,rfl,rfl⟩ (by decide+kernel)
abbrev cM:Stmt:=top 28
def dW:GS:=(aA (aC 2 (ax 1 bw (aa (ae 1) ai)))
  (bA (ax 2 b7 (aa (s_ (ae 0) (aj bz (ae 2) (gC (.int 0)))) (aa (s_ (ae 0) (aj bz (ae 2) (gC (.int 1)))) ai)))))
def aJ:List Wv->Hs->Re Wv:=dO 3 dW
def dX:Ct:={ cB cM ["halves","node","parts"] [] [("halves_of",1,bw),("put_together",2,b7)] with rC:=["halves"] }
theorem lZ:a7 30 (dX) (defBody cM)=dW:=by kernel_rfl
theorem kZ:FnScope (dX).N ["halves","node"] (defScope cM):=lS ⟨rfl,rfl,rfl,rfl⟩ (by decide+kernel)
abbrev dH:Stmt:=top 24
def a_:GS:=(lK (jX (b9 (ax 1 aE (aa (ae 2) ai))) (ax 1 bH (aa (bM (aa (aj bz (ae 0) (aj bz (ae 2) (gC (.int 0)))) ai)) ai)) (ax 2 aJ (aa (ae 1) (aa (ae 2) ai)))) (ae 1) (ae 2))
def dI:GS:=(aA (gj (ax 1 cq (aa (ao fJ (aa (ae 0) ai)) ai)))
  (aA (aC 1 lJ)
  (aA (lO 2 (aa (ax 1 bL (aa (dN (aa (gC (.int 0)) (aa (ao fJ (aa (ae 0) ai)) ai))) ai)) ai) a_)
  (bA (ae 1)))))
def dJ:List Wv->Hs->Re Wv:=dO 3 dI
def fY:Ct:={ cB dH ["worths","halves","node"] ["reversed","len"] [("check_many",1,cq),("nodes_under",1,bL),("is_single",1,aE),("tally_of",1,bH),("joined_halves",2,aJ)] with rC:=["halves"] }
theorem oS:a7 30 (fY) (defBody dH)=dI:=by kernel_rfl
theorem nV:FnScope (fY).N ["worths"] (defScope dH):=lS ⟨rfl,rfl,rfl,rfl⟩ (by decide+kernel)
abbrev eK:Stmt:=top 42
def aK:GS:=(aA (sx [3,4] (aj bz (ae 1) (ae 2)))
  (aA (aC 2 (aj b8 (ae 2) (gC (.int 1))))
  (lC (bC (aj LN (aj qt (ae 4) (ae 3)) (gC (.int 1)))) (aA (aC 5 (aj eX (aj b8 (ae 3) (ae 4)) (gC (.int 2))))
    (aC 1 (aj b8 (ae 1) (bM (aa (dN (aa (ae 3) (aa (ae 5) ai))) (aa (dN (aa (ae 5) (aa (ae 4) ai))) ai)))))) bD)))
def eL:GS:=(aA (aC 1 (bM (aa (dN (aa (gC (.int 0)) (aa (ae 0) ai))) ai)))
  (aA (aC 2 (gC (.int 0)))
  (aA (iJ iK (bC (aj oLt (ae 2) (ao fO (aa (ae 1) ai)))) aK)
  (bA (ae 1)))))
def bI:List Wv->Hs->Re Wv:=dO 6 eL
def gZ:Ct:=cB eK ["many","found","at","low","high","middle"] ["len"] []
theorem qS:a7 30 (gZ) (defBody eK)=eL:=by kernel_rfl
theorem oT:FnScope (gZ).N ["many"] (defScope eK):=lS ⟨rfl,rfl,rfl,rfl⟩ (by decide+kernel)
abbrev eM:Stmt:=top 41
def bp:GS:=(lC (b9 (ao (a8 cJ aY) (aa (ae 3) (aa (gC (.ty "tuple")) ai)))) (lC (bC (aj F1 (ae 2) (gC .aF))) (aC 2 (ae 3)) bD) (lC (b9 (ao (a8 cJ aY) (aa (ae 3) (aa (gC (.ty "int")) ai)))) (gj (jY jz (ae 1) (ae 3))) bD))
def g_:GS:=(aA (aC 1 (bM ai))
  (aA (aC 2 (gC .aF))
  (aA (uU 3 (ae 0) bp)
  (aA (lC (bC (aj oEq (ao fO (aa (ae 1) ai)) (gC (.int 0)))) (bA (dN (aa (gC (.int 0)) (aa (gC (.int 0)) (aa (gC .aF) (aa (gC .aF) (aa (ae 2) ai))))))) bD)
  (aA (aC 1 (ao vc (aa (ae 1) ai)))
  (bA (dN (aa (ao oE (aa (ae 1) ai)) (aa (ao fO (aa (ae 1) ai)) (aa (aj bz (ae 1) (gC (.int 0))) (aa (aj bz (ae 1) (zm ie (gC (.int 1)))) (aa (ae 2) ai))))))))))))
def cw:List Wv->Hs->Re Wv:=dO 4 g_
def hG:Ct:=cB eM ["worths","numbers","first","worth"] ["sorted","isinstance","tuple","len","sum","int"] []
theorem qT:a7 30 (hG) (defBody eM)=g_:=by kernel_rfl
theorem oU:FnScope (hG).N ["worths"] (defScope eM):=lS ⟨rfl,rfl,rfl,rfl⟩ (by decide+kernel)
abbrev hJ:Stmt:=top 45
def cH:GS:=(lK (ax 1 cw (aa (dB (ae 0) (jm (ae 2)) (jm (ae 3))) ai)) (ae 1) (dN (aa (ae 2) (aa (ae 3) ai))))
def hU:GS:=(aA (aC 1 lJ)
  (aA (sA [2,3] (ax 1 bI (aa (ao fJ (aa (ae 0) ai)) ai)) cH)
  (bA (ae 1))))
def du:List Wv->Hs->Re Wv:=dO 4 hU
def jJ:Ct:={ cB hJ ["worths","due","low","high"] ["len"] [("_law_nodes",1,bI),("_law_tally",1,cw)] with rC:=["due"] }
theorem vJ:a7 30 (jJ) (defBody hJ)=hU:=by kernel_rfl
theorem tY:FnScope (jJ).N ["worths"] (defScope hJ):=lS ⟨rfl,rfl,rfl,rfl⟩ (by decide+kernel)
abbrev i_:Stmt:=top 31
def dM:GT:=(λ_ st=> .ok true st)
def cI:GE:=(aj bz (ae 0) (gC (.int 1)))
def k7:GS:=(bA (ao (pY 0) (aa (gJ 0 (fH [] (jA (ae 0)) dM cI)) ai)))
def eV:List Wv->Hs->Re Wv:=dO 1 k7
def k9:Ct:={ cB i_ ["halves"] ["max"] [] with rC:=["halves"] }
theorem zc:a7 30 (k9) (defBody i_)=k7:=by kernel_rfl
theorem vK:FnScope (k9).N ["halves"] (defScope i_):=lS ⟨rfl,rfl,rfl,rfl⟩ (by decide+kernel)
abbrev cN:Stmt:=top 33
def bg:GS:=(aA (aC 3 (ax 1 bw (aa (aj bz (ae 2) (zm ie (gC (.int 1)))) ai)))
  (gj (jY jz (ae 2) (jX (bC (aj oLt (ae 1) (aj bz (aj bz (ae 3) (gC (.int 0))) (gC (.int 1))))) (aj bz (ae 3) (gC (.int 0))) (aj bz (ae 3) (gC (.int 1)))))))
def cO:GS:=(aA (aC 2 (bM (aa (ae 0) ai)))
  (aA (iJ iK (jw (b9 (ax 1 aE (aa (aj bz (ae 2) (zm ie (gC (.int 1)))) ai)))) bg)
  (bA (ae 2))))
def bq:List Wv->Hs->Re Wv:=dO 4 cO
def dY:Ct:=cB cN ["whole","number","nodes","parts"] [] [("is_single",1,aE),("halves_of",1,bw)]
theorem l9:a7 30 (dY) (defBody cN)=cO:=by kernel_rfl
theorem k_:FnScope (dY).N ["whole","number"] (defScope cN):=lS ⟨rfl,rfl,rfl,rfl⟩ (by decide+kernel)
abbrev eN:Stmt:=top 32
def br:GS:=(lK (jX (b9 (ax 1 aE (aa (ae 6) ai))) (ax 1 bH (aa (bM (aa (ae 2) ai)) ai)) (ax 2 aJ (aa (ae 5) (aa (ae 6) ai)))) (ae 5) (ae 6))
def cz:GS:=(aA (aC 3 (ax 1 eV (aa (ae 0) ai)))
  (aA (lC (jw (bC (gG oLe oLt (gC (.int 0)) (ae 1) (ae 3)))) (kM "BadCount" (aa (gC (.str "no number of a worth")) ai)) bD)
  (aA (aC 4 (ax 2 bq (aa (dN (aa (gC (.int 0)) (aa (ae 3) ai))) (aa (ae 1) ai))))
  (aA (aC 5 (ao nE (aa (ae 0) ai)))
  (aA (lO 6 (aa (ae 4) ai) br)
  (bA (dN (aa (ae 5) (aa (ae 4) ai)))))))))
def bx:List Wv->Hs->Re Wv:=dO 7 cz
def hV:Ct:={ cB eN ["halves","number","worth","many","nodes","turned","node"] ["dict","reversed"] [("many_in",1,eV),("nodes_down_to",2,bq),("is_single",1,aE),("tally_of",1,bH),("joined_halves",2,aJ)] with clss:=["BadCount"],rC:=["halves","turned"] }
theorem qU:a7 30 (hV) (defBody eN)=cz:=by kernel_rfl
theorem oV:FnScope (hV).N ["halves","number","worth"] (defScope eN):=lS ⟨rfl,rfl,rfl,rfl⟩ (by decide+kernel)
abbrev cX:Stmt:=top 43
def cA:GT:=(b9 (aj bz (ae 1) (ae 0)))
def dy:GE:=(ae 0)
def cY:GS:=(aA (aC 1 (bM (aa (ao (a8 cJ aY) (aa (ae 0) (aa (gC (.cls "BadPlace")) ai))) (aa (ao (a8 cJ aY) (aa (ae 0) (aa (gC (.cls "BadArea")) ai))) (aa (ao (a8 cJ aY) (aa (ae 0) (aa (gC (.cls "BadText")) ai))) (aa (ao (a8 cJ aY) (aa (ae 0) (aa (gC (.cls "BadFormula")) ai))) ai))))))
  (aA (aC 2 (bM (aa (ao (a8 cJ aY) (aa (ae 0) (aa (gC (.cls "BadContent")) ai))) (aa (ao (a8 cJ aY) (aa (ae 0) (aa (gC (.cls "Full")) ai))) (aa (ao (a8 cJ aY) (aa (ae 0) (aa (gC (.cls "NoCell")) ai))) (aa (ao (a8 cJ aY) (aa (ae 0) (aa (gC (.cls "NotWaiting")) ai))) ai))))))
  (aA (aC 3 (bM (aa (ao (a8 cJ aY) (aa (ae 0) (aa (gC (.cls "BadCount")) ai))) (aa (ao (a8 cJ aY) (aa (ae 0) (aa (gC (.cls "NoRoom")) ai))) (aa (ao (a8 cJ aY) (aa (ae 0) (aa (gC (.cls "BadTable")) ai))) (aa (ao (a8 cJ aY) (aa (ae 0) (aa (gC (.cls "NoTable")) ai))) ai))))))
  (aA (aC 4 (bM (aa (ao (a8 cJ aY) (aa (ae 0) (aa (gC (.cls "NoColumn")) ai))) (aa (ao (a8 cJ aY) (aa (ae 0) (aa (gC (.cls "NoDeed")) ai))) (aa (ao (a8 cJ aY) (aa (ae 0) (aa (gC (.cls "Clash")) ai))) (aa (ao (a8 cJ aY) (aa (ae 0) (aa (gC (.ty "ValueError")) ai))) ai))))))
  (aA (aC 5 (aj b8 (aj b8 (aj b8 (ae 1) (ae 2)) (ae 3)) (ae 4)))
  (bA (fH [("heard",5)] (yx (aa (gC (.int 16)) ai)) cA dy)))))))
def cZ:List Wv->Hs->Re Wv:=dO 6 cY
def c9:Ct:={ cB cX ["e","one","two","three","four","heard"] ["isinstance","ValueError","range"] [] with vt:=["BadPlace","BadArea","BadText","BadFormula","BadContent","Full","NoCell","NotWaiting","BadCount","NoRoom","BadTable","NoTable","NoColumn","NoDeed","Clash"] }
theorem qV:a7 30 (c9) (defBody cX)=cY:=by kernel_rfl
theorem oW:a7 30 (c9).un (defBody cX)=cY:=by kernel_rfl
theorem jq:FnScope (c9).N ["e"] (defScope cX):=lS ⟨rfl,rfl,rfl,rfl⟩ (by decide+kernel)
abbrev c_:Stmt:=top 44
def de:GS:=(gj (ax 3 bx (aa (ae 0) (aa (ae 1) (aa (gC (.int 1)) ai)))))
def bR:GS:=(aC 2 (ax 1 cZ (aa (ae 3) ai)))
def df:GS:=(aA (aC 2 (bM ai))
  (aA (yu (λy=>CH.lookup (y,("SheetError":PySem.Str))) 3 de bR)
  (bA (ae 2))))
def dg:List Wv->Hs->Re Wv:=dO 4 df
def fu:Ct:={ cB c_ ["halves","number","heard","e"] [] [("with_worth",3,bx),("_law_kinds",1,cZ)] with clss:=["SheetError"],rC:=["halves"],vw:=["_law_kinds"] }
theorem nW:a7 30 (fu) (defBody c_)=df:=by kernel_rfl
theorem l_:FnScope (fu).N ["halves","number"] (defScope c_):=lS ⟨rfl,rfl,rfl,rfl⟩ (by decide+kernel)
abbrev hX:Stmt:=top 46
def dh:GT:=(x_ (bC (aj oLe (aj bz (ae 0) (gC (.int 0))) (ae 1))) (bC (aj oLt (ae 1) (aj bz (ae 0) (gC (.int 1))))))
def fv:GE:=(ae 0)
def hZ:GS:=(bA (fH [("number",1)] (fQ (ax 1 bI (aa (ae 0) ai))) dh fv))
def h_:List Wv->Hs->Re Wv:=dO 2 hZ
def jK:Ct:=cB hX ["many","number"] [] [("_law_nodes",1,bI)]
theorem vL:a7 30 (jK) (defBody hX)=hZ:=by kernel_rfl
theorem tZ:FnScope (jK).N ["many","number"] (defScope hX):=lS ⟨rfl,rfl,rfl,rfl⟩ (by decide+kernel)
abbrev xn:Stmt:=top 47
def ku:GS:=(lC (bC (aj wt (ax 2 dg (aa (ae 4) (aa (ae 8) ai))) (bM (aa (gC (.int 8)) (aa (gC (.int 15)) ai))))) (bA (gC (.bl false))) bD)
def kA:GS:=(aA (aC 8 (aj bz (ae 6) (ae 7)))
  (aA (aC 9 (ax 1 bG (aa (bM (aa (aj b8 (aj cD (ax 2 aZ (aa (aj b8 (ao oE (aa (ae 0) ai)) (ae 7)) (aa (gC (.int 77)) ai))) (gC (.int 2147483647))) (ax 2 aZ (aa (ae 1) (aa (ae 7) ai)))) ai)) ai)))
  (aA (aC 10 (ax 3 bx (aa (ae 4) (aa (ae 8) (aa (ae 9) ai)))))
  (aA (aC 11 (aj b8 (aj b8 (dB (ae 3) fG (jm (ae 8))) (bM (aa (ae 9) ai))) (dB (ae 3) (jm (aj b8 (ae 8) (gC (.int 1)))) fG)))
  (aA (lC (HR (jw (b9 (ao (oH cJ aY) (aa (ae 10) (aa (gC (.ty "tuple")) ai))))) (HR (bC (aj wt (ao fJ (aa (ae 10) ai)) (gC (.int 2)))) (jw (b9 (ao (oH cJ aY) (aa (aj bz (ae 10) (gC (.int 0))) (aa (gC (.ty "dict")) ai))))))) (bA (gC (.bl false))) bD)
  (aA (lC (bC (aj qI (aj bz (ae 10) (gC (.int 0))) (ax 1 du (aa (ae 11) ai)))) (bA (gC (.bl false))) bD)
  (aA (lC (HR (jw (b9 (ao (oH cJ aY) (aa (aj bz (ae 10) (gC (.int 1))) (aa (gC (.ty "list")) ai))))) (HR (bC (aj wt (aj bz (ae 10) (gC (.int 1))) (ax 2 h_ (aa (ae 2) (aa (ae 8) ai))))) (bC (aj LN (ao fJ (aa (aj bz (ae 10) (gC (.int 1))) ai)) (gC (.int 8)))))) (bA (gC (.bl false))) bD)
  (aA (lC (bC (aj qI (ae 4) (ae 5))) (bA (gC (.bl false))) bD)
  (aA (gj (vq (aj bz (ae 10) (gC (.int 0)))))
  (aA (gj (vq (aj bz (ae 10) (gC (.int 1)))))
  (lC (bC (aj qI (aj bz (ax 3 bx (aa (ae 4) (aa (ae 8) (aa (ae 9) ai)))) (gC (.int 0))) (ax 1 du (aa (ae 11) ai)))) (bA (gC (.bl false))) bD)))))))))))
def lg:GT:=(λ_ st=> .ok true st)
def ja:GE:=(aj oMod (ax 2 aZ (aa (ao oE (aa (ae 1) ai)) (aa (ae 0) ai))) (ae 2))
def xo:GS:=(aA (aC 1 (ax 2 aV (aa (ae 0) (aa (gC (.int 0)) ai))))
  (aA (aC 2 (aj b8 (gC (.int 1)) (aj oMod (aj eX (ae 1) (gC (.int 4))) (gC (.int 99)))))
  (aA (aC 3 (ax 3 bK (aa (ae 0) (aa (ae 2) (aa (aj oEq (aj oMod (aj eX (ae 1) (gC (.int 2))) (gC (.int 2))) (gC (.int 0))) ai)))))
  (aA (aC 4 (ax 1 dJ (aa (ae 3) ai)))
  (aA (aC 5 (ax 1 du (aa (ae 3) ai)))
  (aA (aC 6 (aj b8 (bM (aa (gC (.int 0)) (aa (aj qt (ae 2) (gC (.int 1))) ai))) (fH [("script",0),("many",2)] (yx (aa (gC (.int 2)) ai)) lg ja)))
  (aA (kL 7 (aa (gC (.int 4)) ai) kA)
  (aA (aC 12 (aj oMod (ao oE (aa (ae 0) ai)) (aj rZ (gC (.int 10)) (gC (.int 30)))))
  (aA (uU 8 (bM (aa (zm ie (gC (.int 1))) (aa (ae 2) (aa (aj qt (zm ie (gC (.int 1))) (ae 12)) (aa (aj b8 (ae 2) (ae 12)) ai))))) ku)
  (bA (aj vo (ae 4) (ae 5))))))))))))
def F_law:List Wv->Hs->Re Wv:=dO 13 xo
def CI:Ct:={ cB xn ["script","head","many","worths","halves","first","places","k","number","worth","told","changed","far"] ["range","sum","isinstance","tuple","len","dict","list"] [("_law_cell_at",2,aV),("_law_worths",3,bK),("made_halves",1,dJ),("_law_due",1,du),("_law_worth",1,bG),("with_worth",3,bx),("_law_refusal",2,dg),("_law_mixed",2,aZ),("_law_way",2,h_)] with rC:=["halves","first","told[]","with_worth()[]"] }
theorem MY:a7 30 (CI) (defBody xn)=xo:=by kernel_rfl
theorem JX:FnScope (CI).N ["script"] (defScope xn):=lS ⟨rfl,rfl,rfl,rfl⟩ (by decide+kernel)
end K83
namespace K83
open PySem J
inductive Wo where
 | aF
 | int (i:Int)
 | txt (x:PySem.Str)
 | rF (x:PySem.Str)
def Wo.w:Wo->Wv
 | .aF=> .aF
 | .int i=> .int i
 | .txt x=> .str x
 | .rF x=> .tup [.str "fault",.str x]
def Wo.f:Wo->Bool
 | .rF _=>true
 | _=>false
def Wo.n:Wo->Bool
 | .int _=>true
 | _=>false
theorem U0(a:Wo)(st:Hs):gX [a.w] st= .ok (.bl a.f) st:=by cases a<;>rfl
def nums:List Wo->List Int
 | []=>[]
 | .int i::r=>i::nums r
 | _::r=>nums r
def dZ:List Wo->List PySem.Str
 | []=>[]
 | .rF x::r=>x::dZ r
 | _::r=>dZ r
theorem di:∀(a b:List Wo),nums (a++b)=nums a++nums b
 | [],b=>rfl
 | x::r,b=>by cases x<;>simp[nums,di r b]
theorem gy:∀(a b:List Wo),dZ (a++b)=dZ a++dZ b
 | [],b=>rfl
 | x::r,b=>by cases x<;>simp[dZ,gy r b]
theorem nX:∀a:List Wo,(nums a).length<=a.length
 | []=>Nat.le_refl _
 | x::r=>by
  have:=nX r
  cases x<;>simp[nums]<;>omega
theorem t_:∀a:List Wo,(a.map Wo.w).filter (λv=>match v with | .int _=>true | _=>false)=(nums a).map Wv.int
 | []=>rfl
 | x::r=>by
  have:=t_ r
  cases x<;>simp[nums,Wo.w,this]
theorem ua:∀a:List Wo,(a.map Wo.w).filter (λv=>match v with | .tup _=>true | _=>false)=(dZ a).map λx=>Wv.tup [.str "fault",.str x]
 | []=>rfl
 | x::r=>by
  have:=ua r
  cases x<;>simp[dZ,Wo.w,this]
def N9:Int:=10 ^ (60:Int).toNat
theorem U1{st:Hs}:rZ (.int 10) (.int 60) st= .ok (.int N9) st:=Gq (by decide)
def first(ws:List Wo):Wv:=match dZ ws with
 | []=> .aF
 | x::_=> .tup [.str "fault",.str x]
def gz(ws:List Wo):List Wv:=match nums ws with
 | []=>[.int 0,.int 0,.aF,.aF,first ws]
 | n::r=>[.int (n::r).sum,.int (n::r).length,.int (fZ n r),.int (fD n r),first ws]
theorem KO{a b c d e:Wv}{st:Hs}:bz (.tup [a,b,c,d,e]) (.int 0) st= .ok a st/\bz (.tup [a,b,c,d,e]) (.int 1) st= .ok b st/\bz (.tup [a,b,c,d,e]) (.int 2) st= .ok c st/\bz (.tup [a,b,c,d,e]) (.int 3) st= .ok d st/\bz (.tup [a,b,c,d,e]) (.int 4) st= .ok e st:=⟨oI rfl,oI rfl,oI rfl,oI rfl,oI rfl⟩
theorem SD(a:Wo)(st:Hs):a8 cJ aY [a.w,.ty "int"] st= .ok (.bl a.n) st:=by cases a<;>rfl
theorem SF(a:Wo)(st:Hs):a8 cJ aY [a.w,.ty "tuple"] st= .ok (.bl a.f) st:=by cases a<;>rfl
theorem digit{st:Hs}{l:Nat}{n many:Int}(h:st[l]? =some (.lst [.int n]))(hm:many≠0/\many.natAbs.log2 < 9000) :
  aQ [.ref l,.int many] st= .ok (.int (n.fmod many)) (st.set l (.lst [.int (n.fdiv many)])):=by
 have hl:af st l=some [.int n]:=by unfold af;rw[h]
 have h0:L2.kI [Wv.int n] 0=some (.int n):=rfl
 unfold aQ dO gN
 simp[jg hl h0,kq hm.1,nL hm,wu,L5,h,L2.v9]
theorem pick{st:Hs}{l:Nat}{n many:Int}{ws:List Wv}(h:st[l]? =some (.lst [.int n]))(hm:many≠0/\many.natAbs.log2 < 9000)(hp:0 < many)(hw:(ws.length:Int)=many) :
  ∃v st',v∈ws/\aQ [.ref l,.int many] (st++[.lst ws])= .ok (.int (n.fmod many)) st'/\bz (.ref st.length) (.int (n.fmod many)) st'= .ok v st'/\aR l st st'/\st'[l]? =some (.lst [.int (n.fdiv many)]):=by
 have hl:l < st.length:=(List.getElem?_eq_some_iff.mp h).1
 obtain⟨v,e1,e2⟩:=Cy (ws:=ws) (d:=n.fmod many) (Int.fmod_nonneg_of_pos _ hp) (by rw[hw];exact Int.fmod_lt_of_pos _ hp)
 refine⟨v,_,e2,digit (dS h) hm,jg (ws:=ws) ?_ e1,aR.push.trans aR.set,b_ (dS h)⟩
 have k:aR l (st++[Ob.lst ws]) ((st++[Ob.lst ws]).set l (.lst [.int (n.fdiv many)])):=aR.set
 exact k.lst au (by omega)
theorem worth{st:Hs}{l:Nat}{n:Int}(h:st[l]? =some (.lst [.int n])):∃(a:Wo)(st':Hs),bG [.ref l] st= .ok a.w st'/\aR l st st':=by
 have d5:=digit (many:=12) h (by decide)
 have h1:=b_ (o':=.lst [.int (n.fdiv 12)]) h
 have k1:aR l st (st.set l (.lst [.int (n.fdiv 12)])):=aR.set
 generalize st.set l (.lst [.int (n.fdiv 12)])=st1 at d5 h1 k1
 generalize n.fdiv 12=n1 at h1
 generalize hw:n.fmod 12=way at d5
 unfold bG dO gP
 by_cases w0:way < 5
 ·have d:=digit (many:=15) h1 (by decide)
  exact⟨.int (n1.fmod 15 - 5),st1.set l (.lst [.int (n1.fdiv 15)]),by simp[d5,w0,d,Wo.w],k1.trans aR.set⟩
 by_cases w1:way < 7
 ·obtain⟨v,st2,hv,e1,e2,k2,h2⟩:=pick (many:=2) (ws:=[.int 1,.int (-1)]) h1 (by decide) (by decide) rfl
  obtain⟨x,rfl,U2,U3⟩:∃x:Int,v= .int x/\-(2 ^ 64) < x/\x < 2 ^ 64:=by
   simp at hv
   rcases hv with rfl | rfl
   ·exact⟨1,rfl,by decide,by decide⟩
   ·exact⟨-1,rfl,by decide,by decide⟩
  have d:=digit (many:=3) h2 (by decide)
  have m:cD (.int x) (.int (N9 - (n1.fdiv 2).fmod 3)) (st2.set l (.lst [.int ((n1.fdiv 2).fdiv 3)]))= .ok (.int (x * (N9 - (n1.fdiv 2).fmod 3))) (st2.set l (.lst [.int ((n1.fdiv 2).fdiv 3)])):=xj U2 U3
  exact⟨.int (x * (N9 - (n1.fdiv 2).fmod 3)),_,by simp[d5,w0,w1,e1,e2,U1,d,m,Wo.w];rfl,k1.trans (k2.trans aR.set)⟩
 by_cases w2:way < 9
 ·obtain⟨v,st2,hv,e1,e2,k2,h2⟩:=pick (many:=4) (ws:=[.str "",.str "a",.str "b7",.str "7"]) h1 (by decide) (by decide) rfl
  obtain⟨x,rfl⟩:∃x,v= .str x:=by simp at hv;rcases hv with rfl | rfl | rfl | rfl<;>exact⟨_,rfl⟩
  exact⟨.txt x,st2,by simp[d5,w0,w1,w2,e1,e2,Wo.w],k1.trans k2⟩
 by_cases w3:way < 11
 ·exact⟨.aF,st1,by simp[d5,w0,w1,w2,w3,Wo.w],k1⟩
 ·obtain⟨v,st2,hv,e1,e2,k2,h2⟩:=pick (many:=5) (ws:=[.str "kind",.str "great",.str "nought",.str "none",.str "lost"]) h1 (by decide) (by decide) rfl
  obtain⟨x,rfl⟩:∃x,v= .str x:=by simp at hv;rcases hv with rfl | rfl | rfl | rfl | rfl<;>exact⟨_,rfl⟩
  exact⟨.rF x,st2,by simp[d5,w0,w1,w2,w3,e1,e2,Wo.w],k1.trans k2⟩
theorem mixed{st:Hs}{c k:Int}(h0:0<=k)(h1:k < 1000000):∃v:Int,0<=v/\aZ [.int c,.int k] st= .ok (.int v) st:=by
 have q1:=Int.fmod_nonneg_of_pos c (b:=1000000007) (by decide)
 have q2:=Int.fmod_lt_of_pos c (b:=1000000007) (by decide)
 have z1:cD (.int 7919) (.int k) st= .ok (.int (7919 * k)) st:=xj (by decide) (by decide)
 have z2:∀i:Int,cD (.int i) (.int 48271) st= .ok (.int (i * 48271)) st:=λi=>mul_r (by decide) (by decide)
 have z3:∀i:Int,cD (.int i) (.int 69621) st= .ok (.int (i * 69621)) st:=λi=>mul_r (by decide) (by decide)
 generalize hs:((c.fmod 1000000007+7919 * k+1) * 48271).fmod 2147483647=s
 have s0:0<=s:=by rw[<-hs];exact Int.fmod_nonneg_of_pos _ (by decide)
 have s1:s < 2147483647:=by rw[<-hs];exact Int.fmod_lt_of_pos _ (by decide)
 have z4:cD (.int s) (.int s) st= .ok (.int (s * s)) st:=xj (by omega) (by omega)
 refine⟨((s * s).fmod 2147483629 * 69621).fmod 2147483647,Int.fmod_nonneg_of_pos _ (by decide),?_⟩
 unfold aZ dO gR
 simp[z1,z2,z3,z4,hs,kq]
theorem qW{st:Hs}{l:Nat}{ns:List Int}(h:af st l=some (ns.map Wv.int)){k:Int}(h0:0<=k):∃v:Int,aV [.ref l,.int k] st= .ok (.int v) st:=by
 have ln:=lR h
 rw[List.length_map] at ln
 unfold aV dO fe
 by_cases c:k < ns.length
 ·have hk:k.toNat < ns.length:=by omega
  have ek:k=((k.toNat:Nat):Int):=by omega
  have a:L2.kI (ns.map Wv.int) k=some (.int ns[k.toNat]):=by
   have q:=L2.gE (xs:=ns.map Wv.int) (j:=k.toNat) (v:=.int ns[k.toNat]) (by simp[hk])
   rw[<-ek] at q
   exact q
  exact⟨ns[k.toNat],by simp[ln,c,jg h a]⟩
 ·exact⟨0,by simp[ln,c]⟩
theorem JY{st:Hs}{l:Nat}{ns:List Int}(h:af st l=some (ns.map Wv.int)){k:Int}(h0:0<=k)(h1:k < 1000):∃n:Int,cF [.ref l,.int k] st= .ok (.ref st.length) (st++[.lst [.int n]]):=by
 obtain⟨v,ev⟩:=qW h h0
 obtain⟨v0,QD⟩:=qW h (k:=0) (Int.le_refl _)
 have ln:=lR h
 rw[List.length_map] at ln
 have sm:=p6 h
 have loop:∀g:Int,∃(o4:Option Wv)(g':Int),eZ 4 cg (bS 0 3) [some (.ref l),some (.int k),some (.int v),some (.int g),none] st= .nx [some (.ref l),some (.int k),some (.int v),some (.int g'),o4] st:=by
  intro g
  obtain⟨ρ,st',e,q⟩:=tS (i:=4) (gb:=cg) (λρ st'=>∃(o4:Option Wv)(g:Int),ρ=[some (.ref l),some (.int k),some (.int v),some (.int g),o4]/\st'=st) (bS 0 3) [some (.ref l),some (.int k),some (.int v),some (.int g),none] st ⟨none,g,rfl,rfl⟩ (by
   rintro w hw _ st ⟨o4,g,rfl,rfl⟩
   obtain⟨j,rfl,j0,j1⟩:=qL hw
   obtain⟨u,_,eu⟩:=mixed (st:=st) (c:=v+ns.sum) (k:=5 * k+j) (by omega) (by omega)
   have z1:cD (.int 5) (.int k) st= .ok (.int (5 * k)) st:=xj (by decide) (by decide)
   have z3:cD (.int g) (.int 2147483647) st= .ok (.int (g * 2147483647)) st:=mul_r (by decide) (by decide)
   refine⟨_,_,?_,⟨some (.int j),g * 2147483647+u,rfl,rfl⟩⟩
   unfold cg
   simp[sm,z1,z3,eu])
  obtain⟨o4,g',rfl,rfl⟩:=q
  exact⟨o4,g',e⟩
 have f8:∀i:Int,eX (.int i) (.int 8) st= .ok (.int (i.fdiv 8)) st:=λi=>nL (by decide)
 obtain⟨o4,g',e⟩:=loop 0
 have c3:je 3:=Cz (by decide) (by decide)
 unfold cF dO fR
 by_cases b:v0.fmod 2=1
 ·by_cases c:k < ns.length
  ·exact⟨v,by simp[ev,QD,kq,b,ln,c]⟩
  ·exact⟨g'.fdiv 8,by simp[ev,QD,kq,b,ln,c,c3,e,f8]⟩
 ·have b':(v0.fmod 2 == 1)=false:=beq_false_of_ne b
  exact⟨g'.fdiv 8,by simp[ev,QD,kq,b',c3,e,f8]⟩
theorem JZ{st:Hs}{l:Nat}{ns:List Int}(h:af st l=some (ns.map Wv.int)){m:Nat}(hm:m<=99){b:Bool}:∃(ws:List Wo)(st':Hs),bK [.ref l,.int m,.bl b] st= .ok (.ref st.length) st'/\Gr st st'/\st'[st.length]? =some (.lst (ws.map Wo.w))/\ws.length=m:=by
 have hlt:=bZ h
 have cm:je m:=Cz (by omega) (by omega)
 obtain⟨ρ',st',e,⟨ws,o4,o5,rfl,hw,hg,hn⟩⟩:=tT (λk:Nat=>Wv.int (0+(k:Int))) (i:=4) (gb:=cj) (List.range m)
  (λpre ρ s=>∃(ws:List Wo)(o4 o5:Option Wv),ρ=[some (.ref l),some (.int m),some (.bl b),some (.ref st.length),o4,o5]/\ws.length=pre.length/\Gr st s/\s[st.length]? =some (.lst (ws.map Wo.w)))
  (by
   rintro k pre post _ s hf ⟨ws,o4,o5,rfl,hw,hg,hn⟩
   have hpl:pre.length < 99/\k < m:=by
    have h1:=congrArg List.length hf
    have h2:k∈List.range m:=by rw[hf];simp
    simp at h1 h2
    omega
   have hs:=hg.lst h
   obtain⟨n,e1⟩:=JY hs (k:=0+(k:Int)+1) (by omega) (by omega)
   rw[Int.zero_add] at e1
   obtain⟨a,s2,e2,k2⟩:=worth (st:=s++[.lst [.int n]]) (l:=s.length) (n:=n) cb
   have g2:Gr s s2:=Gr.dt (Nat.le_refl _) Gr.push k2
   have hn2:=g2.get hn
   have t:=SF a s2
   obtain⟨a',ha'⟩:∃a':Wo,a'.w=(if(!b&&a.f)=true then .int (0+(k:Int)) else a.w):=by
    split
    ·exact⟨.int _,rfl⟩
    ·exact⟨a,rfl⟩
   have ap:=tR (v:=a'.w) hn2 (by rw[List.length_map];unfold lim;omega)
   have mm:=kr (mt:=jz) (ga:=ae 5) (ρ:=[some (.ref l),some (.int m),some (.bl b),some (.ref st.length),some (.int (0+(k:Int))),some a'.w]) (bj hn2)
   refine⟨[some (.ref l),some (.int m),some (.bl b),some (.ref st.length),some (.int (0+(k:Int))),some a'.w],s2.set st.length (.lst (ws.map Wo.w++[a'.w])),?_,ws++[a'],_,_,rfl,by simp[hw],?_,?_⟩
   ·unfold cj
    cases b with
    | true=>
     simp at ha'
     simp[ha'] at ap mm
     simp[e1,e2,t,mm,ap,ha']
    | false=>
     cases hf:a.f with
     | true=>
      simp[hf] at ha'
      simp[ha'] at ap mm
      simp[e1,e2,t,mm,ap,ha',hf]
     | false=>
      simp[hf] at ha'
      simp[ha'] at ap mm
      simp[e1,e2,t,mm,ap,ha',hf]
   ·exact Gr.dt (Nat.le_refl _) (hg.trans g2) aR.set
   ·rw[b_ hn2];simp) (List.range m) [] [some (.ref l),some (.int m),some (.bl b),some (.ref st.length),none,none] (st++[.lst []]) rfl ⟨[],none,none,rfl,rfl,Gr.push,cb⟩
 refine⟨ws,st',?_,hg,hn,by simpa using hw⟩
 have e':eZ 4 cj (bS 0 m) [some (.ref l),some (.int m),some (.bl b),some (.ref st.length),none,none] (st++[.lst []])= .nx [some (.ref l),some (.int m),some (.bl b),some (.ref st.length),o4,o5] st':=e
 unfold bK dO fT
 simp[cm,e']
theorem xp{l:Nat}{ws:List Wv}{st:Hs}(h:af st l=some ws):AE (.ref l) st= .ok (!ws.isEmpty) st:=by
 unfold AE
 simp only[h]
theorem ub{ws:List Wo}{l:Nat}{st:Hs}(h:af st l=some (ws.map Wo.w))(hl:ws.length < 100):∃st',bH [.ref l] st= .ok (.tup (gz ws)) st'/\Gr st st':=by
 have c1:∀st:Hs,af st l=some (ws.map Wo.w)->∀ρ,bQ [] fg iP ρ (some l,ws.map Wo.w) st= .ok (.ref st.length) (st++[.lst ((dZ ws).map λx=>Wv.tup [.str "fault",.str x])]):=by
  intro st h ρ
  rw[eT (w:=(some l,ws.map Wo.w)) (t:=λv=>match v with | .tup _=>true | _=>false) (f:=id) h]
  ·rw[List.map_id,ua]
  ·intro v hv acc
   obtain⟨a,_,rfl⟩:=List.mem_map.mp hv
   unfold fg
   simp[U0]
   cases a<;>rfl
  ·intro v hv _ acc
   rfl
  ·simp;unfold lim;omega
 have c2:∀st:Hs,af st l=some (ws.map Wo.w)->∀ρ,bQ [] fh iQ ρ (some l,ws.map Wo.w) st= .ok (.ref st.length) (st++[.lst ((nums ws).map Wv.int)]):=by
  intro st h ρ
  rw[eT (w:=(some l,ws.map Wo.w)) (t:=λv=>match v with | .int _=>true | _=>false) (f:=id) h]
  ·rw[List.map_id,t_]
  ·intro v hv acc
   obtain⟨a,_,rfl⟩:=List.mem_map.mp hv
   unfold fh
   simp[SD]
   cases a<;>rfl
  ·intro v hv _ acc
   rfl
  ·simp;unfold lim;omega
 have MZ:=c2 _ h
 have l1:=au (st:=st) (ws:=(nums ws).map Wv.int)
 have g1:Gr st (st++[.lst ((nums ws).map Wv.int)]):=Gr.push
 generalize st++[.lst ((nums ws).map Wv.int)]=s1 at MZ l1 g1
 have h1:=g1.lst h
 have M3:=c1 _ h1
 have l2:=au (st:=s1) (ws:=(dZ ws).map λx=>Wv.tup [.str "fault",.str x])
 have g2:Gr s1 (s1++[.lst ((dZ ws).map λx=>Wv.tup [.str "fault",.str x])]):=Gr.push
 generalize s1++[.lst ((dZ ws).map λx=>Wv.tup [.str "fault",.str x])]=s2 at M3 l2 g2
 have l3:=g2.lst l1
 refine⟨s2,?_,g1.trans g2⟩
 have t1:=xp l3
 have t2:=xp l2
 have sm:=p6 l3
 have ln:=lR l3
 rw[List.length_map] at ln
 have fi:∃fw:Wv,fw=first ws/\(jX (b9 (ae 2)) (aj bz (ae 2) (gC (.int 0))) (gC .aF))=(jX (b9 (ae 2)) (aj bz (ae 2) (gC (.int 0))) (gC .aF)):=⟨_,rfl,rfl⟩
 unfold bH dO jH gz first
 cases en:nums ws with
 | nil=>
  rw[en] at t1 sm ln
  cases ef:dZ ws with
  | nil=>
   rw[ef] at t2
   simp[gM h,MZ,gM h1,M3,t1,t2,sm,ln]
  | cons x r=>
   rw[ef] at t2 l2
   have i:=jg (i:=0) (v:=.tup [.str "fault",.str x]) l2 (by rw[List.map_cons];exact CF)
   simp[gM h,MZ,gM h1,M3,t1,t2,sm,ln,i]
 | cons n r=>
  rw[en] at t1 sm ln l3
  cases ef:dZ ws with
  | nil=>
   rw[ef] at t2
   simp[gM h,MZ,gM h1,M3,t1,t2,sm,ln,Gx l3,Gw l3]
  | cons x r'=>
   rw[ef] at t2 l2
   have i:=jg (i:=0) (v:=.tup [.str "fault",.str x]) l2 (by rw[List.map_cons];exact CF)
   simp[gM h,MZ,gM h1,M3,t1,t2,sm,ln,i,Gx l3,Gw l3]
theorem J0{n m:Int}{r t:List Int}:fZ n (r++m::t)=fZ (fZ n r) [fZ m t]:=by
 obtain⟨a1,a2⟩:=nj r n
 obtain⟨b1,b2⟩:=nj t m
 obtain⟨c1,c2⟩:=nj [fZ m t] (fZ n r)
 refine(wJ ?_ λa ha=>?_).symm
 ·simp only[List.mem_cons,List.not_mem_nil,or_false] at c1
  rcases c1 with e | e
  ·rw[e];rcases List.mem_cons.mp a1 with z | z
   ·rw[z];simp
   ·simp[z]
  ·rw[e];rcases List.mem_cons.mp b1 with z | z
   ·rw[z];simp
   ·simp[z]
 ·have h1:=c2 (fZ n r) (by simp)
  have h2:=c2 (fZ m t) (by simp)
  rcases List.mem_cons.mp ha with z | z
  ·have:=a2 a (by simp[z]);omega
  ·rcases List.mem_append.mp z with z | z
   ·have:=a2 a (by simp[z]);omega
   ·have:=b2 a z;omega
theorem J1{n m:Int}{r t:List Int}:fD n (r++m::t)=fD (fD n r) [fD m t]:=by
 obtain⟨a1,a2⟩:=ni r n
 obtain⟨b1,b2⟩:=ni t m
 obtain⟨c1,c2⟩:=ni [fD m t] (fD n r)
 refine(pP ?_ λa ha=>?_).symm
 ·simp only[List.mem_cons,List.not_mem_nil,or_false] at c1
  rcases c1 with e | e
  ·rw[e];rcases List.mem_cons.mp a1 with z | z
   ·rw[z];simp
   ·simp[z]
  ·rw[e];rcases List.mem_cons.mp b1 with z | z
   ·rw[z];simp
   ·simp[z]
 ·have h1:=c2 (fD n r) (by simp)
  have h2:=c2 (fD m t) (by simp)
  rcases List.mem_cons.mp ha with z | z
  ·have:=a2 a (by simp[z]);omega
  ·rcases List.mem_append.mp z with z | z
   ·have:=a2 a (by simp[z]);omega
   ·have:=b2 a z;omega
def opt(f:Int->List Int->Int):List Int->Wv
 | []=> .aF
 | n::r=> .int (f n r)
theorem CJ(ws:List Wo):gz ws=[.int (nums ws).sum,.int (nums ws).length,opt fZ (nums ws),opt fD (nums ws),first ws]:=by
 unfold gz opt
 cases nums ws<;>rfl
theorem zd(a b:List Wo):first (a++b)=(match first a with | .aF=>first b | f=>f):=by
 unfold first
 rw[gy]
 cases dZ a<;>rfl
def CK:Option Int->Wv
 | none=> .aF
 | some i=> .int i
def ig:List (Option Int)->List Int
 | []=>[]
 | none::r=>ig r
 | some i::r=>i::ig r
theorem Fh(f:Int->List Int->Int)(ns:List Int):∃o:Option Int,opt f ns=CK o/\(o=none↔ns=[]):=by
 cases ns with
 | nil=>exact⟨none,rfl,by simp⟩
 | cons n r=>exact⟨some (f n r),rfl,by simp⟩
theorem J2{l:Nat}{st:Hs}{ns:List Int}(h:af st l=some (ns.map Wv.int)):pT [.ref l] st= .ok (NH ns) st:=by
 unfold pT
 simp only[h,bX]
theorem J3{l:Nat}{st:Hs}{ns:List Int}(h:af st l=some (ns.map Wv.int)):pS [.ref l] st= .ok (PH ns) st:=by
 unfold pS
 simp only[h,bX]
theorem p_{gt:GT}{ge:GE}(hgt:gt=bC (aj jx (ae 0) (gC .aF)))(hge:ge=ae 0){ρ:aT}{a b:Option Int}{st:Hs}:bQ [] gt ge ρ (none,[CK a,CK b]) st= .ok (.ref st.length) (st++[.lst ((ig [a,b]).map Wv.int)]):=by
 subst hgt
 subst hge
 have n0:∀st:Hs,jx .aF .aF st= .ok (.bl false) st:=λ_=>rfl
 have n1:∀(i:Int)(st:Hs),jx (.int i) .aF st= .ok (.bl true) st:=λ_ _=>rfl
 rw[eT (w:=(none,[CK a,CK b])) (t:=λv=>match v with | .int _=>true | _=>false) (f:=id) trivial]
 ·rw[List.map_id]
  cases a<;>cases b<;>rfl
 ·intro v hv acc
  simp at hv
  rcases hv with rfl | rfl
  ·cases a<;>simp[CK,n0,n1]
  ·cases b<;>simp[CK,n0,n1]
 ·intro v hv _ acc
  rfl
 ·show 2 < lim;decide
theorem put{a b:List Wo}{st:Hs}:∃st',b7 [.tup (gz a),.tup (gz b)] st= .ok (.tup (gz (a++b))) st'/\Gr st st':=by
 obtain⟨oa,ea,za⟩:=Fh fZ (nums a)
 obtain⟨ob,eb,zb⟩:=Fh fZ (nums b)
 obtain⟨pa,fa,ya⟩:=Fh fD (nums a)
 obtain⟨pb,fb,yb⟩:=Fh fD (nums b)
 have k1:=p_ (gt:=fm) (ge:=fo) rfl rfl (ρ:=[some (.tup (gz a)),some (.tup (gz b)),none,none,none]) (a:=oa) (b:=ob) (st:=st)
 have l1:=au (st:=st) (ws:=(ig [oa,ob]).map Wv.int)
 have g1:Gr st (st++[.lst ((ig [oa,ob]).map Wv.int)]):=Gr.push
 generalize st++[.lst ((ig [oa,ob]).map Wv.int)]=s1 at k1 l1 g1
 have m1:=J2 l1
 have k2:=p_ (gt:=fj) (ge:=fk) rfl rfl (ρ:=[some (.tup (gz a)),some (.tup (gz b)),some (NH (ig [oa,ob])),none,none]) (a:=pa) (b:=pb) (st:=s1)
 have l2:=au (st:=s1) (ws:=(ig [pa,pb]).map Wv.int)
 have g2:Gr s1 (s1++[.lst ((ig [pa,pb]).map Wv.int)]):=Gr.push
 generalize s1++[.lst ((ig [pa,pb]).map Wv.int)]=s2 at k2 l2 g2
 have m2:=J3 l2
 refine⟨s2,?_,g1.trans g2⟩
 have e1:NH (ig [oa,ob])=opt fZ (nums (a++b)):=by
  rw[di]
  cases na:nums a with
  | nil=>
   have QE:oa=none:=za.mpr na
   subst QE
   rw[List.nil_append]
   cases nb:nums b with
   | nil=>have J4:ob=none:=zb.mpr nb;subst J4;rfl
   | cons m t=>
    rw[nb] at eb
    cases ob with
    | none=>exact absurd (zb.mp rfl) (by rw[nb];simp)
    | some i=>exact eb.symm
  | cons n r=>
   rw[na] at ea
   cases oa with
   | none=>exact absurd (za.mp rfl) (by rw[na];simp)
   | some i=>
    have hi:fZ n r=i:=by simpa [opt,CK] using ea
    cases nb:nums b with
    | nil=>have J4:ob=none:=zb.mpr nb;subst J4;rw[List.append_nil];exact ea.symm
    | cons m t=>
     rw[nb] at eb
     cases ob with
     | none=>exact absurd (zb.mp rfl) (by rw[nb];simp)
     | some j=>
      have hj:fZ m t=j:=by simpa [opt,CK] using eb
      show Wv.int (fZ i [j])= .int (fZ n (r++m::t))
      rw[J0,hi,hj]
 have e2:PH (ig [pa,pb])=opt fD (nums (a++b)):=by
  rw[di]
  cases na:nums a with
  | nil=>
   have QE:pa=none:=ya.mpr na
   subst QE
   rw[List.nil_append]
   cases nb:nums b with
   | nil=>have J4:pb=none:=yb.mpr nb;subst J4;rfl
   | cons m t=>
    rw[nb] at fb
    cases pb with
    | none=>exact absurd (yb.mp rfl) (by rw[nb];simp)
    | some i=>exact fb.symm
  | cons n r=>
   rw[na] at fa
   cases pa with
   | none=>exact absurd (ya.mp rfl) (by rw[na];simp)
   | some i=>
    have hi:fD n r=i:=by simpa [opt,CK] using fa
    cases nb:nums b with
    | nil=>have J4:pb=none:=yb.mpr nb;subst J4;rw[List.append_nil];exact fa.symm
    | cons m t=>
     rw[nb] at fb
     cases pb with
     | none=>exact absurd (yb.mp rfl) (by rw[nb];simp)
     | some j=>
      have hj:fD m t=j:=by simpa [opt,CK] using fb
      show Wv.int (fD i [j])= .int (fD n (r++m::t))
      rw[J1,hi,hj]
 have fc:first a= .aF\/∃x,first a= .tup x:=by
  unfold first
  cases dZ a with
  | nil=>exact .inl rfl
  | cons x r=>exact .inr ⟨_,rfl⟩
 have sm:(nums (a++b)).sum=(nums a).sum+(nums b).sum:=by rw[di];simp
 have ll:((nums (a++b)).length:Int)=(nums a).length+(nums b).length:=by rw[di];simp
 obtain⟨i0,i1,i2,i3,i4⟩:=KO (a:=.int (nums a).sum) (b:=.int (nums a).length) (c:=opt fZ (nums a)) (d:=opt fD (nums a)) (e:=first a) (st:=st)
 obtain⟨j0,j1,j2,j3,j4⟩:=KO (a:=.int (nums b).sum) (b:=.int (nums b).length) (c:=opt fZ (nums b)) (d:=opt fD (nums b)) (e:=first b) (st:=st)
 obtain⟨U4,U5,U6,N_,U7⟩:=KO (a:=.int (nums a).sum) (b:=.int (nums a).length) (c:=opt fZ (nums a)) (d:=opt fD (nums a)) (e:=first a) (st:=s1)
 obtain⟨U8,U9,U_,Oa,U'⟩:=KO (a:=.int (nums b).sum) (b:=.int (nums b).length) (c:=opt fZ (nums b)) (d:=opt fD (nums b)) (e:=first b) (st:=s1)
 obtain⟨u0,u1,u2,u3,u4⟩:=KO (a:=.int (nums a).sum) (b:=.int (nums a).length) (c:=opt fZ (nums a)) (d:=opt fD (nums a)) (e:=first a) (st:=s2)
 obtain⟨v0,v1,v2,v3,v4⟩:=KO (a:=.int (nums b).sum) (b:=.int (nums b).length) (c:=opt fZ (nums b)) (d:=opt fD (nums b)) (e:=first b) (st:=s2)
 rw[<-CJ] at i0 i1 i2 i3 i4 j0 j1 j2 j3 j4 U4 U5 U6 N_ U7 U8 U9 U_ Oa U' u0 u1 u2 u3 u4 v0 v1 v2 v3 v4
 rw[ea] at i2
 rw[eb] at j2
 rw[fa] at N_
 rw[fb] at Oa
 rw[e1] at m1 k2
 rw[e2] at m2
 rw[CJ (a++b),sm,ll,zd]
 unfold b7 dO fq
 rcases fc with f0 | ⟨x,f0⟩
 ·have n0:F1 .aF .aF s2= .ok (.bl true) s2:=rfl
  rw[f0] at u4
  simp[i2,j2,k1,m1,N_,Oa,k2,m2,u4,n0,v4,u0,v0,u1,v1,f0]
 ·have n0:F1 (.tup x) .aF s2= .ok (.bl false) s2:=rfl
  rw[f0] at u4
  simp[i2,j2,k1,m1,N_,Oa,k2,m2,u4,n0,u0,v0,u1,v1,f0]
theorem xq(ws:List Wo):∃d:PyData,(∀st:Hs,aS st 20 (.tup (gz ws))=some d)/\PyData.eqv d d=true:=by
 unfold gz first
 cases nums ws with
 | nil=>cases dZ ws with
  | nil=>exact⟨.tuple [.int 0,.int 0,.none,.none,.none],λ_=>rfl,by decide+kernel⟩
  | cons x r=>exact⟨.tuple [.int 0,.int 0,.none,.none,.tuple [.str "fault",.str x]],λ_=>rfl,by simp[PyData.eqv,PyData.eqvAll]⟩
 | cons n r=>cases dZ ws with
  | nil=>exact⟨.tuple [.int (n::r).sum,.int (n::r).length,.int (fZ n r),.int (fD n r),.none],λ_=>rfl,by simp[PyData.eqv,PyData.eqvAll]⟩
  | cons x r'=>exact⟨.tuple [.int (n::r).sum,.int (n::r).length,.int (fZ n r),.int (fD n r),.tuple [.str "fault",.str x]],λ_=>rfl,by simp[PyData.eqv,PyData.eqvAll]⟩
theorem qX{n d:Nat}{i:Int}(h0:0<=i)(h1:i<=n):HT.bV n d (some i)=i.toNat:=by
 have e:i=((i.toNat:Nat):Int):=by omega
 rw[e,HT.Ds]
 have:i.toNat<=n:=by omega
 simp
 omega
theorem J5{α:Type}{f:α->Wv}{xs:List α}{i:Int}(h0:0<=i)(h1:i<=xs.length):jy (xs.map f) none (some i)=(xs.take i.toNat).map f:=by
 unfold jy
 rw[List.length_map,qX h0 h1,HT.rN]
 simp
theorem CL{α:Type}{f:α->Wv}{xs:List α}{i:Int}(h0:0<=i)(h1:i<=xs.length):jy (xs.map f) (some i) none=(xs.drop i.toNat).map f:=by
 unfold jy
 rw[List.length_map,qX h0 h1,HT.rN,<-List.map_drop,List.take_of_length_le (by simp)]
theorem Fi{α:Type}{f:α->Wv}{xs:List α}{i j:Int}(h0:0<=i)(h1:i<=xs.length)(k0:0<=j)(k1:j<=xs.length):jy (xs.map f) (some i) (some j)=((xs.drop i.toNat).take (j.toNat - i.toNat)).map f:=by
 unfold jy
 rw[List.length_map,qX h0 h1,qX k0 k1,<-List.map_drop,<-List.map_take]
theorem J6{l:Nat}{st:Hs}{ns:List Int}(h:af st l=some (ns.map Wv.int))(hn:ns.length < 4096):vc [.ref l] st= .ok (.ref st.length) (st++[.lst ((fF ns).map Wv.int)]):=MX h hn
theorem M4{ws:List Wo}{l:Nat}{st:Hs}(h:af st l=some (ws.map Wo.w))(hl:ws.length < 100):∃st',cw [.ref l] st= .ok (.tup (gz ws)) st'/\Gr st st':=by
 have hlt:=bZ h
 obtain⟨ρ',st',e,⟨⟨o3,rfl⟩,hg,hn⟩,hl'⟩:=nM Wo.w (i:=3) (gb:=bp) (l:=l) (all:=ws.map Wo.w) ws
  (λpre ρ s=>(∃o3,ρ=[some (.ref l),some (.ref st.length),some (first pre),o3])/\Gr st s/\s[st.length]? =some (.lst ((nums pre).map Wv.int))) (by
   rintro a pre post _ s hf ⟨⟨o3,rfl⟩,hg,hn⟩ hs
   have t1:=SF a s
   have t2:=SD a s
   have hpl:pre.length < 100:=by have:=congrArg List.length hf;simp at this;omega
   cases a with
   | rF x=>
    have fp:first (pre++[Wo.rF x])=(match dZ pre with | []=>(Wo.rF x).w | y::_=> .tup [.str "fault",.str y]):=by
     unfold first
     rw[gy]
     cases dZ pre<;>rfl
    have np:nums (pre++[Wo.rF x])=nums pre:=by rw[di];simp[nums]
    refine⟨[some (.ref l),some (.ref st.length),some (first (pre++[Wo.rF x])),some (Wo.rF x).w],s,?_,hs,⟨_,rfl⟩,hg,by rw[np];exact hn⟩
    rw[fp]
    unfold bp first
    cases ef:dZ pre with
    | nil=>
     have i:F1 .aF .aF s= .ok (.bl true) s:=rfl
     simp[t1,i,Wo.f]
    | cons y r=>
     have i:F1 (.tup [.str "fault",.str y]) .aF s= .ok (.bl false) s:=rfl
     simp[t1,i,Wo.f]
   | int j=>
    have hlen:((nums pre).map Wv.int).length < lim:=by
     have:=nX pre
     rw[List.length_map];unfold lim;omega
    have fp:first (pre++[Wo.int j])=first pre:=by unfold first;rw[gy];simp[dZ]
    have ap:=tR (v:=.int j) hn hlen
    have mm:=kr (mt:=jz) (ga:=ae 3) (ρ:=[some (.ref l),some (.ref st.length),some (first pre),some (.int j)]) (bj hn)
    refine⟨[some (.ref l),some (.ref st.length),some (first (pre++[Wo.int j])),some (.int j)],s.set st.length (.lst ((nums pre).map Wv.int++[.int j])),?_,?_,⟨_,rfl⟩,?_,?_⟩
    ·rw[fp]
     unfold bp
     simp[Wo.w] at t1 t2
     simp[t1,t2,Wo.f,Wo.n,Wo.w,mm,ap]
    ·exact(aR.set (l:=st.length) (st:=s)).lst hs (by omega)
    ·exact Gr.dt (Nat.le_refl _) hg aR.set
    ·rw[di]
     rw[b_ hn]
     simp[nums]
   | aF=>
    have fp:first (pre++[Wo.aF])=first pre:=by unfold first;rw[gy];simp[dZ]
    refine⟨[some (.ref l),some (.ref st.length),some (first (pre++[Wo.aF])),some Wo.aF.w],s,?_,hs,⟨_,rfl⟩,hg,?_⟩
    ·rw[fp]
     unfold bp
     simp[t1,t2,Wo.f,Wo.n]
    ·rw[di];simpa [nums] using hn
   | txt x=>
    have fp:first (pre++[Wo.txt x])=first pre:=by unfold first;rw[gy];simp[dZ]
    refine⟨[some (.ref l),some (.ref st.length),some (first (pre++[Wo.txt x])),some (Wo.txt x).w],s,?_,hs,⟨_,rfl⟩,hg,?_⟩
    ·rw[fp]
     unfold bp
     simp[t1,t2,Wo.f,Wo.n]
    ·rw[di];simpa [nums] using hn) ws [] [some (.ref l),some (.ref st.length),some .aF,none] (st++[.lst []]) rfl
  ⟨⟨none,rfl⟩,Gr.push,cb⟩ (Gr.push.lst h)
 have ln:=lR (bj hn)
 rw[List.length_map] at ln
 unfold cw dO g_ gz
 cases en:nums ws with
 | nil=>
  rw[en] at ln
  refine⟨st',?_,hg⟩
  simp[qK (Gr.push.lst h),e,ln]
 | cons n r=>
  rw[en] at hn
  rw[en] at ln
  have l2:=bj hn
  have hr:(n::r).length < 4096:=by have:=nX ws;rw[en] at this;omega
  have so:=J6 l2 hr
  have hp:=eR (n::r)
  have l3:=au (st:=st') (ws:=(fF (n::r)).map Wv.int)
  have sm:=p6 l3
  have ln2:=lR l3
  rw[List.length_map,hp.length_eq] at ln2
  rw[CB hp] at sm
  have i0:∃a t,fF (n::r)=a::t:=by
   cases es:fF (n::r) with
   | nil=>rw[es] at hp;have:=hp.length_eq;simp at this
   | cons a t=>exact⟨a,t,rfl⟩
  obtain⟨a,t,ea⟩:=i0
  have ha:=CC ea
  have x0:bz (.ref st'.length) (.int 0) (st'++[.lst ((fF (n::r)).map Wv.int)])= .ok (.int (fZ n r)) (st'++[.lst ((fF (n::r)).map Wv.int)]):=jg l3 (by rw[ea,List.map_cons,ha];exact CF)
  obtain⟨t2,b,eb⟩:∃t b,fF (n::r)=t++[b]:=⟨_,_,(List.dropLast_concat_getLast (l:=fF (n::r)) (by rw[ea];simp)).symm⟩
  have hb:=CD eb
  have x1:bz (.ref st'.length) (.int (-1)) (st'++[.lst ((fF (n::r)).map Wv.int)])= .ok (.int (fD n r)) (st'++[.lst ((fF (n::r)).map Wv.int)]):=jg l3 (by rw[eb,List.map_append,hb];exact CG)
  have nz:((r.length:Int)+1 == 0)=false:=beq_false_of_ne (by omega)
  refine⟨_,?_,hg.trans (Gr.push (o:=.lst ((fF (n::r)).map Wv.int)))⟩
  simp only[List.length_cons] at ln ln2
  simp[qK (Gr.push.lst h),e,ln,nz,so,sm,ln2,x0,x1]
abbrev Nd:=Int×Int
def pw(p:Nd):Wv:=.tup [.int p.1,.int p.2]
def kk(p:Nd):List L2.Key:=[.inl p.1,.inl p.2]
def md(a b:Int):Int:=(a+b) / 2
theorem Va(x:Int):x.fdiv 2=x / 2:=Int.fdiv_eq_ediv_of_nonneg x (by decide)
theorem qY{p q:Nd}(h:kk p=kk q):p=q:=by
 unfold kk at h
 injection h with h1 h2
 injection h2 with h2
 injection h1 with h1
 injection h2 with h2
 exact Prod.ext h1 h2
def kids(p:Nd):List Nd:=if 1 < p.2 - p.1 then[(p.1,md p.1 p.2),(md p.1 p.2,p.2)] else[]
def nd:Nat->List Nd->List Nd
 | 0,_=>[]
 | n+1,l=>l++nd n (l.flatMap kids)
def it:Nat->List Nd->List Nd
 | 0,l=>l
 | n+1,l=>it n (l.flatMap kids)
abbrev nodes(m:Int):List Nd:=nd 8 [(0,m)]
def uq{α:Type}(f:α->Nat):List α->Nat->Bool
 | [],_=>true
 | x::r,acc=> !(acc.testBit (f x))&&uq f r (acc||| 2 ^ f x)
theorem Gy{α:Type}{f:α->Nat}:∀{l:List α}{acc:Nat},uq f l acc=true->(l.map f).Nodup/\∀x∈l,acc.testBit (f x)=false
 | [],_,_=>⟨List.nodup_nil,λx hx=>by cases hx⟩
 | x::r,acc,h=>by
  unfold uq at h
  rw[Bool.and_eq_true] at h
  obtain⟨h1,h2⟩:=Gy h.2
  have no:∀y∈r,acc.testBit (f y)=false/\f x≠f y:=λy hy=>by
   have q:=h2 y hy
   rw[Nat.testBit_or,Nat.testBit_two_pow,Bool.or_eq_false_iff] at q
   exact⟨q.1,of_decide_eq_false q.2⟩
  refine⟨?_,λy hy=>?_⟩
  ·rw[List.map_cons,List.nodup_cons]
   refine⟨λz=>?_,h1⟩
   obtain⟨y,hy,e⟩:=List.mem_map.mp z
   exact(no y hy).2 e.symm
  ·rcases List.mem_cons.mp hy with rfl | hy
   ·simpa using h.1
   ·exact(no y hy).1
def hs(p:Nd):Int:=wY [p.1,p.2]
def hm(p:Nd):Nat:=(hs p % 30009).toNat
def KP(m:Int):Bool:=uq hm (nodes m) 0&&(it 8 [(0,m)]).isEmpty&&decide ((nodes m).length<=200)&&(nodes m).all λp=>decide (0<=p.1)&&decide (p.1 < p.2)&&decide (p.2<=m)
theorem Fj:((List.range 99).all λk=>KP ((k:Int)+1))=true:=by decide+kernel
theorem qZ{m:Int}(h1:1<=m)(h2:m<=99):KP m=true:=by
 obtain⟨k,hk⟩:=Int.eq_ofNat_of_zero_le (show 0<=m - 1 by omega)
 have e:m=(k:Int)+1:=by omega
 rw[e]
 exact List.all_eq_true.mp Fj k (List.mem_range.mpr (by omega))
theorem nY{m:Int}(h1:1<=m)(h2:m<=99):((nodes m).map hs).Nodup:=by
 have c:=qZ h1 h2
 unfold KP at c
 simp only[Bool.and_eq_true] at c
 have n:=(Gy c.1.1.1).1
 have e:(nodes m).map hm=((nodes m).map hs).map λh=>(h % 30009).toNat:=by rw[List.map_map];rfl
 rw[e] at n
 exact List.Pairwise.of_map _ (λa b ne e=>ne (by rw[e])) n
theorem iR{m:Int}(h1:1<=m)(h2:m<=99):(nodes m).Nodup:=List.Pairwise.of_map _ (λa b ne e=>ne (by rw[e])) (nY h1 h2)
theorem jb{m:Int}(h1:1<=m)(h2:m<=99):it 8 [(0,m)]=[]:=by
 have c:=qZ h1 h2
 unfold KP at c
 simp only[Bool.and_eq_true] at c
 exact List.isEmpty_iff.mp c.1.1.2
theorem dA{m:Int}(h1:1<=m)(h2:m<=99):(nodes m).length<=200:=by
 have c:=qZ h1 h2
 unfold KP at c
 simp only[Bool.and_eq_true] at c
 exact of_decide_eq_true c.1.2
theorem gA{m:Int}(h1:1<=m)(h2:m<=99){p:Nd}(h:p∈nodes m):0<=p.1/\p.1 < p.2/\p.2<=m:=by
 have c:=qZ h1 h2
 unfold KP at c
 simp only[Bool.and_eq_true] at c
 have q:=List.all_eq_true.mp c.2 p h
 simp only[Bool.and_eq_true,decide_eq_true_eq] at q
 exact⟨q.1.1,q.1.2,q.2⟩
theorem xt:∀(n:Nat){l:List Nd}{p q:Nd},it n l=[]->p∈nd n l->q∈kids p->q∈nd n l
 | 0,l,p,q,h,hp,hq=>by cases hp
 | n+1,l,p,q,h,hp,hq=>by
  unfold nd at hp ⊢
  rcases List.mem_append.mp hp with z | z
  ·have hq':q∈l.flatMap kids:=List.mem_flatMap.mpr ⟨p,z,hq⟩
   refine List.mem_append_right _ ?_
   cases n with
   | zero=>have h0:l.flatMap kids=[]:=h;rw[h0] at hq';cases hq'
   | succ n=>unfold nd;exact List.mem_append_left _ hq'
  ·exact List.mem_append_right _ (xt n h z hq)
theorem q9{m:Int}(h1:1<=m)(h2:m<=99){p q:Nd}(hp:p∈nodes m)(hq:q∈kids p):q∈nodes m:=xt 8 (jb h1 h2) hp hq
theorem nZ{m:Int}:(0,m)∈nodes m:=List.mem_append_left _ (List.mem_singleton.mpr rfl)
def Cl:List Nd->List Nd->Prop
 | _,[]=>True
 | d,p::r=>(∀q∈kids p,q∈d)/\p∉d/\Cl (d++[p]) r
theorem Cl.app:∀{d xs ys:List Nd},Cl d xs->Cl (d++xs) ys->Cl d (xs++ys)
 | d,[],ys,_,h=>by rw[List.append_nil] at h;exact h
 | d,p::r,ys,h,k=>⟨h.1,h.2.1,Cl.app h.2.2 (by rw[List.append_assoc];exact k)⟩
theorem xu:∀{d ps:List Nd},(∀p∈ps,∀q∈kids p,q∈d)->ps.Nodup->(∀p∈ps,p∉d)->Cl d ps
 | d,[],_,_,_=>trivial
 | d,p::r,h,n,k=>by
  rw[List.nodup_cons] at n
  refine⟨h p List.mem_cons_self,k p List.mem_cons_self,xu (λx hx q hq=>List.mem_append_left _ (h x (List.mem_cons_of_mem _ hx) q hq)) n.2 λx hx z=>?_⟩
  rcases List.mem_append.mp z with z | z
  ·exact k x (List.mem_cons_of_mem _ hx) z
  ·rw[List.mem_singleton.mp z] at hx;exact n.1 hx
theorem Gz:∀(n:Nat){l:List Nd},it n l=[]->(nd n l).Nodup->Cl [] (nd n l).reverse
 | 0,l,_,_=>trivial
 | n+1,l,h,hn=>by
  unfold nd at hn ⊢
  rw[List.nodup_append] at hn
  rw[List.reverse_append]
  refine(Gz n h hn.2.1).app (xu (λp hp q hq=>?_) ((List.reverse_perm l).nodup_iff.mpr hn.1) λp hp z=>?_)
  ·rw[List.nil_append,List.mem_reverse]
   have hq':q∈l.flatMap kids:=List.mem_flatMap.mpr ⟨p,List.mem_reverse.mp hp,hq⟩
   cases n with
   | zero=>have h0:l.flatMap kids=[]:=h;rw[h0] at hq';cases hq'
   | succ n=>unfold nd;exact List.mem_append_left _ hq'
  ·rw[List.nil_append,List.mem_reverse] at z
   exact hn.2.2 p (List.mem_reverse.mp hp) p z rfl
theorem M5{p:Nd}{st:Hs}:bz (pw p) (.int 0) st= .ok (.int p.1) st:=oI rfl
theorem KQ{p:Nd}{st:Hs}:bz (pw p) (.int 1) st= .ok (.int p.2) st:=oI rfl
theorem SG{x:Int}{st:Hs}:eX (.int x) (.int 2) st= .ok (.int (x / 2)) st:=by rw[nL ⟨by decide,by decide⟩,Va]
theorem lh{p:Nd}{st:Hs}:bw [pw p] st= .ok (.ref st.length) (st++[.lst [pw (p.1,md p.1 p.2),pw (md p.1 p.2,p.2)]]):=by
 have k2:gL [pw (p.1,md p.1 p.2),pw (md p.1 p.2,p.2)] st= .ok (.ref st.length) (st++[.lst [pw (p.1,md p.1 p.2),pw (md p.1 p.2,p.2)]]):=cU (by show 2<=lim;unfold lim;omega)
 have RF:gL [.tup [.int p.1,.int ((p.1+p.2) / 2)],.tup [.int ((p.1+p.2) / 2),.int p.2]] st= .ok (.ref st.length) (st++[.lst [pw (p.1,md p.1 p.2),pw (md p.1 p.2,p.2)]]):=k2
 unfold bw dO iN
 simp[M5,KQ,SG,RF]
def sg(p:Nd):Bool:=p.2 - p.1 == 1
theorem single{p:Nd}{st:Hs}:aE [pw p] st= .ok (.bl (sg p)) st:=by
 unfold aE dO iL sg
 simp[M5,KQ]
theorem GB{st:Hs}{l k:Nat}{ws zs:List Wv}(h:st[l]? =some (.lst ws))(h2:st[k]? =some (.lst zs))(hl:ws.length+zs.length<=lim):nB (.ref l) (.ref k) st= .ok .aF (st.set l (.lst (ws++zs))):=by
 show(match st[l]?,st[k]? with | some (.lst ws),some (.lst zs)=>if ws.length+zs.length<=lim then Re.ok Wv.aF (st.set l (.lst (ws++zs))) else .bad | _,_=> .bad)=_
 rw[h,h2]
 dsimp only
 rw[if_pos hl]
theorem n8{p:Nd}(h:sg p=true):kids p=[]:=by
 unfold sg at h
 have:=eq_of_beq h
 unfold kids
 rw[if_neg (by omega)]
theorem n9{p:Nd}(hp:p.1 < p.2)(h:sg p=false):kids p=[(p.1,md p.1 p.2),(md p.1 p.2,p.2)]:=by
 unfold sg at h
 have:=ne_of_beq_false h
 unfold kids
 rw[if_pos (by omega)]
theorem jc{p q:Nd}(hp:p.1 < p.2)(h:q∈kids p):q.1 < q.2/\p.1<=q.1/\q.2<=p.2:=by
 unfold kids at h
 by_cases c:1 < p.2 - p.1
 ·rw[if_pos c] at h
  have a:p.1 < md p.1 p.2/\md p.1 p.2 < p.2:=by unfold md;omega
  rcases List.mem_cons.mp h with rfl | h
  ·exact⟨a.1,Int.le_refl _,by show md p.1 p.2<=p.2;omega⟩
  ·rw[List.mem_singleton.mp h]
   exact⟨a.2,by show p.1<=md p.1 p.2;omega,Int.le_refl _⟩
 ·rw[if_neg c] at h;cases h
theorem n_{L A:Nat}{all:List Wv}(hne:L≠A):∀(ps acc:List Nd)(o2:Option Wv)(st:Hs),(∀p∈ps,p.1 < p.2)->st[A]? =some (.lst (acc.map pw))->af st L=some all->acc.length+2 * ps.length<=1000->
  ∃J7 st',forL 2 a9 L all (ps.map pw) [some (.ref L),some (.ref A),o2] st= .nx [some (.ref L),some (.ref A),J7] st'/\aR A st st'/\st'[A]? =some (.lst ((acc++ps.flatMap kids).map pw))
 | [],acc,o2,st,_,hA,_,_=>⟨o2,st,rfl,aR.refl,by simpa using hA⟩
 | p::r,acc,o2,st,hp,hA,hL,hl=>by
  have hl':acc.length+2 * (r.length+1)<=1000:=hl
  have hw:=hp p List.mem_cons_self
  have key:∃s1,a9 ([some (.ref L),some (.ref A),o2].set 2 (some (pw p))) st= .nx [some (.ref L),some (.ref A),some (pw p)] s1/\aR A st s1/\s1[A]? =some (.lst ((acc++kids p).map pw)):=by
   cases c:sg p with
   | true=>
    refine⟨st,?_,aR.refl,by rw[n8 c,List.append_nil];exact hA⟩
    unfold a9
    simp[single,c]
   | false=>
    have hk:=n9 hw c
    have hh:=lh (p:=p) (st:=st)
    have ht:(st++[.lst [pw (p.1,md p.1 p.2),pw (md p.1 p.2,p.2)]])[st.length]? =some (.lst [pw (p.1,md p.1 p.2),pw (md p.1 p.2,p.2)]):=cb
    have zp:(st++[.lst [pw (p.1,md p.1 p.2),pw (md p.1 p.2,p.2)]])[A]? =some (.lst (acc.map pw)):=dS hA
    have g1:Gr st (st++[.lst [pw (p.1,md p.1 p.2),pw (md p.1 p.2,p.2)]]):=Gr.push
    generalize st++[.lst [pw (p.1,md p.1 p.2),pw (md p.1 p.2,p.2)]]=s0 at hh ht zp g1
    have ex:=GB zp ht (by rw[List.length_map];show acc.length+2<=lim;unfold lim;omega)
    have km:=λga=>kr (mt:=nB) (ga:=ga) (ρ:=[some (.ref L),some (.ref A),some (pw p)]) (bj hA)
    refine⟨s0.set A (.lst (acc.map pw++[pw (p.1,md p.1 p.2),pw (md p.1 p.2,p.2)])),?_,g1.keep.trans aR.set,?_⟩
    ·unfold a9
     simp[single,c,km,hh,ex]
    ·rw[b_ zp,hk,List.map_append]
     rfl
  obtain⟨s1,e1,k1,h1⟩:=key
  have kl:(kids p).length<=2:=by unfold kids;split<;>simp
  obtain⟨J7,s2,e2,k2,h2⟩:=n_ hne r (acc++kids p) (some (pw p)) s1 (λq hq=>hp q (List.mem_cons_of_mem _ hq)) h1 (k1.lst hL hne) (by rw[List.length_append];omega)
  refine⟨J7,s2,?_,k1.trans k2,by rw[h2,List.flatMap_cons,List.append_assoc]⟩
  rw[List.map_cons,forL,e1]
  simp only[if_pos (k1.lst hL hne)]
  exact e2
theorem below{L:Nat}{ps:List Nd}{st:Hs}(hp:∀p∈ps,p.1 < p.2)(hl:ps.length<=300)(h:af st L=some (ps.map pw)):∃st',cG [.ref L] st= .ok (.ref st.length) st'/\Gr st st'/\st'[st.length]? =some (.lst ((ps.flatMap kids).map pw)):=by
 have lt:=bZ h
 have h1:af (st++[.lst []]) L=some (ps.map pw):=i9 h
 obtain⟨o2,s1,e1,k1,g1⟩:=n_ (L:=L) (A:=st.length) (all:=ps.map pw) (by omega) ps [] none (st++[.lst []]) hp cb h1 (by show 0+2 * ps.length<=1000;omega)
 have A3:kFor 2 a9 [some (.ref L),some (.ref st.length),none] (.ref L) (st++[.lst []])= .nx [some (.ref L),some (.ref st.length),o2] s1:=by rw[qK h1];exact e1
 refine⟨s1,?_,Gr.dt (Nat.le_refl _) Gr.push k1,by simpa using g1⟩
 unfold cG dO fV
 simp[A3]
theorem CM{gt:GT}{gb:GS}{n:Nat}{ρ ρ':aT}{st st1 st':Hs}(h:gt ρ st= .ok true st1)(k:gb ρ st1= .nx ρ' st'):ur gt gb (n+1) ρ st=ur gt gb n ρ' st':=by
 rw[ur,h]
 simp[k]
theorem CN{gt:GT}{gb:GS}{n:Nat}{ρ:aT}{st st1:Hs}(h:gt ρ st= .ok false st1):ur gt gb (n+1) ρ st= .nx ρ st1:=by
 rw[ur,h]
 simp
theorem aX{a b:GS}{ρ ρ':aT}{st st':Hs}(h:a ρ st= .nx ρ' st'):aA a b ρ st=b ρ' st':=by rw[MN,h];rfl
theorem CO:∀n:Nat,nd n []=[]
 | 0=>rfl
 | n+1=>by unfold nd;rw[List.nil_append];exact CO n
theorem xv{w:Wv}{A:Nat}:∀(n N:Nat)(l acc:List Nd)(B:Nat)(st:Hs),n < N->it n l=[]->(∀p∈l,p.1 < p.2)->st[A]? =some (.lst (acc.map pw))->st[B]? =some (.lst (l.map pw))->A≠B->acc.length+(nd n l).length<=300->
  ∃B' st',ur (b9 (ae 2)) bE N [some w,some (.ref A),some (.ref B)] st= .nx [some w,some (.ref A),some (.ref B')] st'/\aR A st st'/\st'[A]? =some (.lst ((acc++nd n l).map pw))
 | n,0,_,_,_,_,h,_,_,_,_,_,_=>by omega
 | n,N+1,[],acc,B,st,_,_,_,hA,hB,_,_=>by
  have tl:=xp (bj hB)
  exact⟨B,st,CN (by simp[tl]),aR.refl,by rw[CO,List.append_nil];exact hA⟩
 | 0,N+1,p::r,_,_,_,_,h,_,_,_,_,_=>by cases h
 | n+1,N+1,p::r,acc,B,st,hN,hi,hp,hA,hB,hne,hl=>by
  have tl:=xp (bj hB)
  have hnd:nd (n+1) (p::r)=(p::r)++nd n ((p::r).flatMap kids):=rfl
  rw[hnd,List.length_append] at hl
  have ex:=GB hA hB (by rw[List.length_map,List.length_map];unfold lim;omega)
  have zp:=b_ (o':=.lst (acc.map pw++(p::r).map pw)) hA
  have SH:(st.set A (.lst (acc.map pw++(p::r).map pw)))[B]? =some (.lst ((p::r).map pw)):=by rw[List.getElem?_set_ne hne];exact hB
  have k1:aR A st (st.set A (.lst (acc.map pw++(p::r).map pw))):=aR.set
  generalize st.set A (.lst (acc.map pw++(p::r).map pw))=s1 at ex zp SH k1
  obtain⟨s2,e2,g2,h2⟩:=below (L:=B) hp (by omega) (bj SH)
  have km:=λga=>kr (mt:=nB) (ga:=ga) (ρ:=[some w,some (.ref A),some (.ref B)]) (bj hA)
  have bd:bE [some w,some (.ref A),some (.ref B)] st= .nx [some w,some (.ref A),some (.ref s1.length)] s2:=by
   unfold bE
   simp[km,ex,e2]
  have lt:=jF zp
  obtain⟨B',s3,e3,k3,h3⟩:=xv (w:=w) n N ((p::r).flatMap kids) (acc++(p::r)) s1.length s2 (by omega) hi (λq hq=>by
   obtain⟨x,hx,hq⟩:=List.mem_flatMap.mp hq
   exact(jc (hp x hx) hq).1) (by rw[List.map_append];exact g2.get zp) h2 (by omega) (by rw[List.length_append];omega)
  refine⟨B',s3,?_,k1.trans (g2.keep.trans k3),?_⟩
  ·rw[CM (by simp[tl]) bd]
   exact e3
  ·rw[h3,hnd,List.append_assoc]
theorem ud{m:Int}{st:Hs}(h1:1<=m)(h2:m<=99):∃st',bL [pw (0,m)] st= .ok (.ref st.length) st'/\Gr st st'/\st'[st.length]? =some (.lst ((nodes m).map pw)):=by
 have q1:(st++[.lst []]++[.lst [pw (0,m)]])[st.length]? =some (.lst (([]:List Nd).map pw)):=dS cb
 have q2:(st++[.lst []]++[.lst [pw (0,m)]])[(st++[Ob.lst []]).length]? =some (.lst ([((0,m):Nd)].map pw)):=cb
 obtain⟨B,s1,e1,k1,g1⟩:=xv (w:=pw (0,m)) 8 100000 [(0,m)] [] (st++[Ob.lst []]).length _ (by decide) (jb h1 h2) (λp hp=>by rw[List.mem_singleton.mp hp];show(0:Int) < m;omega) q1 q2 (by rw[List.length_append];simp) (by
  have q:(nd 8 [(0,m)]).length<=200:=dA h1 h2
  show 0+(nd 8 [(0,m)]).length<=300
  omega)
 have A3:iJ iK (b9 (ae 2)) bE [some (pw (0,m)),some (.ref st.length),some (.ref (st++[Ob.lst []]).length)] (st++[.lst []]++[.lst [pw (0,m)]])= .nx [some (pw (0,m)),some (.ref st.length),some (.ref B)] s1:=e1
 refine⟨s1,?_,Gr.dt (Nat.le_refl _) (Gr.push.trans Gr.push) k1,by simpa using g1⟩
 have a1:aC 1 (bM ai) [some (pw (0,m)),none,none] st= .nx [some (pw (0,m)),some (.ref st.length),none] (st++[.lst []]):=by simp[lim]
 have a2:aC 2 (bM (aa (ae 0) ai)) [some (pw (0,m)),some (.ref st.length),none] (st++[.lst []])= .nx [some (pw (0,m)),some (.ref st.length),some (.ref (st++[Ob.lst []]).length)] (st++[.lst []]++[.lst [pw (0,m)]]):=by
  have k:gL [pw (0,m)] (st++[.lst []])= .ok (.ref (st++[Ob.lst []]).length) (st++[.lst []]++[.lst [pw (0,m)]]):=cU (by show 1<=lim;unfold lim;omega)
  generalize st++[Ob.lst []]=s0 at k
  simp[k]
 refine jo (n:=3) (g:=dG) ?_
 unfold dG
 refine(aX a1).trans ((aX a2).trans ((aX A3).trans ?_))
 simp
abbrev Ks:=List (List L2.Key×Wv)
def sl(ws:List Wo)(p:Nd):List Wo:=(ws.take p.2.toNat).drop p.1.toNat
theorem J8{ws:List Wo}{a b c:Int}(h0:0<=a)(h1:a<=b)(h2:b<=c)(h3:c<=ws.length):sl ws (a,b)++sl ws (b,c)=sl ws (a,c):=by
 unfold sl
 dsimp only
 have e:ws.take c.toNat=ws.take b.toNat++(ws.take c.toNat).drop b.toNat:=by
  have q:=List.take_append_drop b.toNat (ws.take c.toNat)
  rw[List.take_take,Nat.min_eq_left (by omega)] at q
  exact q.symm
 have l:a.toNat<=(ws.take b.toNat).length:=by rw[List.length_take];omega
 conv=>rhs;rw[e,List.drop_append_of_le_length l]
theorem CP{ws:List Wo}{p:Nd}{a:Wo}(h0:0<=p.1)(h1:sg p=true)(h2:ws[p.1.toNat]? =some a):sl ws p=[a]:=by
 unfold sg at h1
 have e:=eq_of_beq h1
 obtain⟨hl,ha⟩:=List.getElem?_eq_some_iff.mp h2
 unfold sl
 rw[show p.2.toNat=p.1.toNat+1 by omega,List.take_succ_eq_append_getElem hl,List.drop_append_of_le_length (by rw[List.length_take];omega),List.drop_of_length_le (by rw[List.length_take];omega),List.nil_append,ha]
theorem xw{ws:List Wo}{p:Nd}(h0:0<=p.1)(h1:p.1 < p.2)(h2:p.2<=ws.length):sl ws (p.1,md p.1 p.2)++sl ws (md p.1 p.2,p.2)=sl ws p:=J8 h0 (by unfold md;omega) (by unfold md;omega) h2
theorem ue{κ:Type}[DecidableEq κ](k j:κ)(v:Wv):∀kvs:List (κ×Wv),bT (kvs.map λkv=>if kv.1=k then(kv.1,v) else kv) j=if j=k then(if(kvs.any λkv=>decide (kv.1=k))=true then some v else none) else bT kvs j
 | []=>by simp[bT]
 | p::r=>by
  have ih:=ue k j v r
  rw[List.map_cons]
  by_cases h:p.1=k
  ·rw[if_pos h]
   unfold bT
   by_cases e:j=k
   ·rw[if_pos (h.trans e.symm),if_pos e,List.any_cons]
    simp[h]
   ·rw[if_neg (by dsimp only;rw[h];exact Ne.symm e),if_neg e,if_neg (by rw[h];exact Ne.symm e),ih,if_neg e]
  ·rw[if_neg h]
   unfold bT
   rw[ih]
   by_cases e:j=k
   ·rw[if_pos e,if_pos e,if_neg (by rw[e];exact h),List.any_cons,decide_eq_false h,Bool.false_or]
   ·rw[if_neg e,if_neg e]
theorem xx{κ:Type}[DecidableEq κ]{kvs:List (κ×Wv)}{k:κ}{v:Wv}(h:k∉kvs.map (·.1)):jf kvs k v=kvs++[(k,v)]:=by
 unfold jf
 rw[if_neg]
 intro q
 obtain⟨p,hp,e⟩:=List.any_eq_true.mp q
 exact h (List.mem_map.mpr ⟨p,hp,of_decide_eq_true e⟩)
theorem Fl{κ:Type}[DecidableEq κ]{kvs:List (κ×Wv)}{k:κ}{v:Wv}(h:k∈kvs.map (·.1)):(jf kvs k v).map (·.1)=kvs.map (·.1)/\∀j,bT (jf kvs k v) j=if j=k then some v else bT kvs j:=by
 have any:(kvs.any λkv=>decide (kv.1=k))=true:=by
  obtain⟨p,hp,e⟩:=List.mem_map.mp h
  exact List.any_eq_true.mpr ⟨p,hp,decide_eq_true e⟩
 unfold jf
 rw[if_pos any]
 refine⟨?_,λj=>?_⟩
 ·rw[List.map_map]
  refine List.map_congr_left λkv _=>?_
  show(if kv.1=k then(kv.1,v) else kv).1=kv.1
  split<;>rfl
 ·rw[ue,if_pos any]
def ent(ws:List Wo)(p:Nd):List L2.Key×Wv:=(kk p,.tup (gz (sl ws p)))
theorem kC{ws:List Wo}{q:Nd}:∀{ps:List Nd},q∈ps->bT (ps.map (ent ws)) (kk q)=some (.tup (gz (sl ws q)))
 | p::r,h=>by
  rw[List.map_cons]
  unfold bT
  by_cases e:p=q
  ·rw[if_pos (by rw[e];rfl),e];rfl
  ·rw[if_neg (show ¬(ent ws p).1=kk q from λz=>e (qY z))]
   rcases List.mem_cons.mp h with z | z
   ·exact absurd z.symm e
   ·exact kC z
theorem vM{d:Nat}{kvs:Ks}{p:Nd}{v:Wv}{st:Hs}(h:st[d]? =some (.bh kvs))(hl:kvs.length < 1000):putD (.ref d) (pw p) v st=some (st.set d (.bh (jf kvs (kk p) v))):=by
 have hk:qF (pw p)=some (kk p):=rfl
 unfold putD
 dsimp only
 rw[h]
 dsimp only
 rw[hk]
 dsimp only
 rw[if_pos (by unfold lim;omega)]
theorem GC{d:Nat}{kvs:Ks}{p:Nd}{v:Wv}{st:Hs}(h:st[d]? =some (.bh kvs))(hv:bT kvs (kk p)=some v):NJ (.ref d) (pw p) st= .ok v st:=by
 have hk:qF (pw p)=some (kk p):=rfl
 unfold NJ getD
 dsimp only
 rw[h]
 dsimp only
 rw[hk]
 dsimp only
 rw[hv]
theorem joined{d:Nat}{kvs:Ks}{a b c:List Wo}{p:Nd}{st:Hs}(h:st[d]? =some (.bh kvs))(h1:bT kvs (kk (p.1,md p.1 p.2))=some (.tup (gz a)))(h2:bT kvs (kk (md p.1 p.2,p.2))=some (.tup (gz b)))(e:a++b=c):∃st',aJ [.ref d,pw p] st= .ok (.tup (gz c)) st'/\Gr st st':=by
 have hh:=lh (p:=p) (st:=st)
 have l1:af (st++[.lst [pw (p.1,md p.1 p.2),pw (md p.1 p.2,p.2)]]) st.length=some [pw (p.1,md p.1 p.2),pw (md p.1 p.2,p.2)]:=au
 have hd:(st++[.lst [pw (p.1,md p.1 p.2),pw (md p.1 p.2,p.2)]])[d]? =some (.bh kvs):=dS h
 have g1:Gr st (st++[.lst [pw (p.1,md p.1 p.2),pw (md p.1 p.2,p.2)]]):=Gr.push
 generalize st++[.lst [pw (p.1,md p.1 p.2),pw (md p.1 p.2,p.2)]]=s0 at hh l1 hd g1
 have i0:bz (.ref st.length) (.int 0) s0= .ok (pw (p.1,md p.1 p.2)) s0:=jg l1 rfl
 have i1:bz (.ref st.length) (.int 1) s0= .ok (pw (md p.1 p.2,p.2)) s0:=jg l1 rfl
 have d0:=GC hd h1
 have d1:=GC hd h2
 obtain⟨s1,e1,g2⟩:=put (a:=a) (b:=b) (st:=s0)
 rw[e] at e1
 refine⟨s1,?_,g1.trans g2⟩
 unfold aJ dO dW
 simp[hh,s_,i0,i1,d0,d1,e1]
theorem kD{ws:List Wo}{ps:List Nd}:(ps.map (ent ws)).map (·.1)=ps.map kk:=by rw[List.map_map];rfl
theorem CQ{p:Nd}{ps:List Nd}(h:kk p∈ps.map kk):p∈ps:=by
 obtain⟨q,hq,e⟩:=List.mem_map.mp h
 rw[<-qY e]
 exact hq
theorem Fm{W d:Nat}{ws:List Wo}{kvs:Ks}{p:Nd}{st:Hs}(hW:af st W=some (ws.map Wo.w))(h:st[d]? =some (.bh kvs))(h0:0<=p.1)(h1:p.1 < p.2)(h2:p.2<=ws.length)(hk:∀q∈kids p,bT kvs (kk q)=some (.tup (gz (sl ws q)))) :
  ∃st',(jX (b9 (ax 1 aE (aa (ae 2) ai))) (ax 1 bH (aa (bM (aa (aj bz (ae 0) (aj bz (ae 2) (gC (.int 0)))) ai)) ai)) (ax 2 aJ (aa (ae 1) (aa (ae 2) ai)))) [some (.ref W),some (.ref d),some (pw p)] st= .ok (.tup (gz (sl ws p))) st'/\Gr st st':=by
 cases c:sg p with
 | true=>
  have lt:p.1.toNat < ws.length:=by omega
  have ga:ws[p.1.toNat]? =some ws[p.1.toNat]:=List.getElem?_eq_getElem lt
  have es:=CP h0 c ga
  have ix:bz (.ref W) (.int p.1) st= .ok ws[p.1.toNat].w st:=by
   refine jg hW ?_
   have q:=L2.gE (xs:=ws.map Wo.w) (j:=p.1.toNat) (v:=ws[p.1.toNat].w) (by rw[List.getElem?_map,ga];rfl)
   rw[show((p.1.toNat:Nat):Int)=p.1 by omega] at q
   exact q
  have k1:gL [ws[p.1.toNat].w] st= .ok (.ref st.length) (st++[.lst [ws[p.1.toNat].w]]):=cU (by show 1<=lim;unfold lim;omega)
  have l1:af (st++[.lst [ws[p.1.toNat].w]]) st.length=some ([ws[p.1.toNat]].map Wo.w):=au
  have g1:Gr st (st++[.lst [ws[p.1.toNat].w]]):=Gr.push
  generalize st++[.lst [ws[p.1.toNat].w]]=s0 at k1 l1 g1
  obtain⟨s1,e1,g2⟩:=ub l1 (by show 1 < 100;decide)
  rw[<-es] at e1
  exact⟨s1,by simp[single,c,M5,ix,k1,e1],g1.trans g2⟩
 | false=>
  have e:=n9 h1 c
  obtain⟨s1,e1,g1⟩:=joined (p:=p) h (hk _ (by rw[e];simp)) (hk _ (by rw[e];simp)) (xw h0 h1 h2)
  exact⟨s1,by simp[single,c,e1],g1⟩
theorem uf{W L d:Nat}{ws:List Wo}{all:List Wv}(hL:L≠d)(hW:W≠d):∀(ps done:List Nd)(o2:Option Wv)(st:Hs),Cl done ps->(∀p∈ps,0<=p.1/\p.1 < p.2/\p.2<=ws.length)->st[d]? =some (.bh (done.map (ent ws)))->af st W=some (ws.map Wo.w)->af st L=some all->done.length+ps.length<=300->
  ∃J7 st',forL 2 a_ L all (ps.map pw) [some (.ref W),some (.ref d),o2] st= .nx [some (.ref W),some (.ref d),J7] st'/\aR d st st'/\st'[d]? =some (.bh ((done++ps).map (ent ws)))
 | [],done,o2,st,_,_,h,_,_,_=>⟨o2,st,rfl,aR.refl,by rw[List.append_nil];exact h⟩
 | p::r,done,o2,st,hc,hp,h,hw,hl,hn=>by
  have hn':done.length+(r.length+1)<=300:=hn
  obtain⟨p0,p1,p2⟩:=hp p List.mem_cons_self
  obtain⟨s1,e1,g1⟩:=Fm hw h p0 p1 p2 λq hq=>kC (hc.1 q hq)
  have pd:=vM (p:=p) (v:=.tup (gz (sl ws p))) (g1.get h) (by rw[List.length_map];omega)
  rw[xx (by rw[kD];exact λz=>hc.2.1 (CQ z))] at pd
  have e:done.map (ent ws)++[(kk p,.tup (gz (sl ws p)))]=(done++[p]).map (ent ws):=by rw[List.map_append];rfl
  rw[e] at pd
  have h1:=b_ (o':=.bh ((done++[p]).map (ent ws))) (g1.get h)
  have k1:aR d st (s1.set d (.bh ((done++[p]).map (ent ws)))):=g1.keep.trans aR.set
  generalize s1.set d (.bh ((done++[p]).map (ent ws)))=s2 at pd h1 k1
  have bd:a_ ([some (.ref W),some (.ref d),o2].set 2 (some (pw p))) st= .nx [some (.ref W),some (.ref d),some (pw p)] s2:=by
   show a_ [some (.ref W),some (.ref d),some (pw p)] st=_
   unfold a_ lK
   rw[e1]
   simp[pd]
  obtain⟨J7,s3,e3,k3,h3⟩:=uf hL hW r (done++[p]) (some (pw p)) s2 hc.2.2 (λq hq=>hp q (List.mem_cons_of_mem _ hq)) h1 (k1.lst hw hW) (k1.lst hl hL) (by rw[List.length_append];show done.length+1+r.length<=300;omega)
  refine⟨J7,s3,?_,k1.trans k3,by rw[h3,List.append_assoc];rfl⟩
  rw[List.map_cons,forL,bd]
  simp only[if_pos (k1.lst hl hL)]
  exact e3
theorem vN{l:Nat}{ws:List Wv}{st:Hs}(h:af st l=some ws):fJ [.ref l] st= .ok (.int ws.length) st:=by
 have e:jB st[l]? =none:=by
  unfold af at h
  cases q:st[l]? with
  | none=>rfl
  | some o=>
   rw[q] at h
   cases o<;>first | rfl | cases h
 show(match jB st[l]? with | some kvs=>Re.ok (Wv.int kvs.length) st | none=>fO [.ref l] st)=_
 rw[e]
 exact lR h
theorem ze{m:Int}{st:Hs}(h1:1<=m)(h2:m<=99):cq [.int m] st= .ok .aF st:=by
 unfold cq dO gT
 simp[h1,h2]
def HI(ws:List Wo)(kvs:Ks):Prop:=kvs.map (·.1)=(nodes ws.length).reverse.map kk/\∀q∈nodes ws.length,bT kvs (kk q)=some (.tup (gz (sl ws q)))
theorem ug{W:Nat}{ws:List Wo}{st:Hs}(hW:af st W=some (ws.map Wo.w))(h1:1<=ws.length)(h2:ws.length<=99):∃kvs st',dJ [.ref W] st= .ok (.ref st.length) st'/\Gr st st'/\st'[st.length]? =some (.bh kvs)/\HI ws kvs:=by
 have m1:(1:Int)<=(ws.length:Int):=by omega
 have m2:(ws.length:Int)<=99:=by omega
 have lt:=bZ hW
 have ln:=λ(s:Hs)(h:af s W=some (ws.map Wo.w))=>by have q:=vN h;rw[List.length_map] at q;exact q
 have QF:af (st++[.bh []]) W=some (ws.map Wo.w):=i9 hW
 have hd1:(st++[.bh []])[st.length]? =some (.bh []):=cb
 have g1:Gr st (st++[.bh []]):=Gr.push
 have e1:aC 1 lJ [some (.ref W),none,none] st= .nx [some (.ref W),some (.ref st.length),none] (st++[.bh []]):=by simp[lJ]
 generalize st++[.bh []]=s1 at QF hd1 g1 e1
 obtain⟨s2,e2,g2,q2⟩:=ud (st:=s1) m1 m2
 have WC:=jF hd1
 obtain⟨o2,s3,e3,k3,q3⟩:=uf (W:=W) (L:=s1.length) (d:=st.length) (ws:=ws) (all:=(nodes ws.length).map pw) (by omega) (by omega) (nodes ws.length).reverse [] none s2 (Gz 8 (jb m1 m2) (iR m1 m2)) (λp hp=>gA m1 m2 (List.mem_reverse.mp hp)) (g2.get hd1) (g2.lst QF) (bj q2) (by rw[List.length_reverse];have:=dA m1 m2;show 0+(nodes ws.length).length<=300;omega)
 refine⟨(nodes ws.length).reverse.map (ent ws),s3,?_,?_,q3,kD,λq hq=>kC (List.mem_reverse.mpr hq)⟩
 ·have e0:gj (ax 1 cq (aa (ao fJ (aa (ae 0) ai)) ai)) [some (.ref W),none,none] st= .nx [some (.ref W),none,none] st:=by simp[ln st hW,ze m1 m2]
  have e4:lO 2 (aa (ax 1 bL (aa (dN (aa (gC (.int 0)) (aa (ao fJ (aa (ae 0) ai)) ai))) ai)) ai) a_ [some (.ref W),some (.ref st.length),none] s1= .nx [some (.ref W),some (.ref st.length),o2] s3:=by
   have yw:bL [.tup [.int 0,.int (ws.length:Nat)]] s1= .ok (.ref s1.length) s2:=e2
   unfold lO
   simp only[JQ,MR,JR,MS,e_c,Ff,MP]
   simp[ln s1 QF,yw,bj q2,<-List.map_reverse,e3]
  refine jo (n:=3) (g:=dI) ?_
  unfold dI
  refine(aX e0).trans ((aX e1).trans ((aX e4).trans ?_))
  simp
 ·exact Gr.dt (Nat.le_refl _) (g1.trans g2) k3
theorem uh:∀ps:List Nd,fI (ps.map kk)=some (ps.map pw)
 | []=>rfl
 | p::r=>by
  rw[List.map_cons]
  unfold fI
  rw[uh r]
  rfl
theorem Fn{d:Nat}{kvs:Ks}{ps:List Nd}{st:Hs}(h:st[d]? =some (.bh kvs))(hk:kvs.map (·.1)=ps.map kk):tw (.ref d) st= .ok (none,ps.map pw) (st.set d (.jL kvs)):=by
 unfold tw
 dsimp only
 rw[h]
 dsimp only
 rw[hk,uh]
theorem CT{d:Nat}{o o':Ob}{x:Hs}{st:Hs}(h:st[d]? =some o):(st.set d o'++x).set d o=st++x:=by
 have lt:=jF h
 rw[List.set_append_left _ _ (by simpa using lt),List.set_set]
 congr 1
 exact List.ext_getElem? λj=>by
  by_cases e:d=j
  ·subst e;rw[b_ h,h]
  ·rw[List.getElem?_set_ne e]
def snd:Wv->Wv
 | .tup [_,b]=>b
 | _=> .aF
theorem xy{d:Nat}{ws:List Wo}{kvs:Ks}{st:Hs}(h:st[d]? =some (.bh kvs))(hi:HI ws kvs)(h1:1<=ws.length)(h2:ws.length<=99):∃st',eV [.ref d] st= .ok (.int (ws.length:Nat)) st'/\Gr st st':=by
 have m1:(1:Int)<=(ws.length:Int):=by omega
 have m2:(ws.length:Int)<=99:=by omega
 have kw:=Fn h hi.1
 have gk:jA (ae 0) [some (.ref d)] st= .ok (none,(nodes ws.length).reverse.map pw) (st.set d (.jL kvs)):=by
  unfold jA
  simp[kw]
 have nl:=dA m1 m2
 have cp:=eT (cs:=[]) (gt:=dM) (ge:=cI) (ρ:=[some (.ref d)]) (w:=(none,(nodes ws.length).reverse.map pw)) (st:=st.set d (.jL kvs)) (t:=λ_=>true) (f:=snd) trivial (λ_ _ _=>rfl) (λv hv _ acc=>by
  obtain⟨p,_,rfl⟩:=List.mem_map.mp hv
  unfold cI
  simp[gn,KQ]
  rfl) (by rw[List.length_map,List.length_reverse];unfold lim;omega)
 have ev:(((none,(nodes ws.length).reverse.map pw):Wk).2.filter λ_=>true).map snd=((nodes ws.length).reverse.map (·.2)).map Wv.int:=by
  rw[List.filter_eq_self.mpr (λ_ _=>rfl),List.map_map,List.map_map]
  rfl
 rw[ev] at cp
 have th:gJ 0 (fH [] (jA (ae 0)) dM cI) [some (.ref d)] st= .ok (.ref st.length) (st++[.lst (((nodes ws.length).reverse.map (·.2)).map Wv.int)]):=by
  have o1:lM ([some (Wv.ref d)]:aT)[0]? st=some d:=by
   show(match st[d]? with | some (.bh _)=>some d | _=>none)=_
   rw[h]
  unfold gJ
  rw[o1]
  dsimp only
  rw[Cv,gk]
  show(match bQ [] dM cI [some (.ref d)] (none,(nodes ws.length).reverse.map pw) (st.set d (.jL kvs)) with | .ok w st'=>Re.ok w (lL d st') | r=>r)=_
  rw[cp]
  dsimp only
  have fz:(st.set d (.jL kvs)++[.lst (((nodes ws.length).reverse.map (·.2)).map Wv.int)])[d]? =some (.jL kvs):=dS (b_ h)
  unfold lL
  rw[fz]
  dsimp only
  rw[CT h,List.length_set]
 have l1:af (st++[.lst (((nodes ws.length).reverse.map (·.2)).map Wv.int)]) st.length=some (((nodes ws.length).reverse.map (·.2)).map Wv.int):=au
 have g1:Gr st (st++[.lst (((nodes ws.length).reverse.map (·.2)).map Wv.int)]):=Gr.push
 generalize st++[.lst (((nodes ws.length).reverse.map (·.2)).map Wv.int)]=s1 at th l1 g1
 have mx:PY 0 ((nodes ws.length).reverse.map (·.2))=(ws.length:Int):=by
  have hm:(ws.length:Int)∈(nodes ws.length).reverse.map (·.2):=List.mem_map.mpr ⟨(0,(ws.length:Int)),List.mem_reverse.mpr nZ,rfl⟩
  have hle:∀a∈(nodes ws.length).reverse.map (·.2),a<=(ws.length:Int):=λa ha=>by
   obtain⟨p,hp,rfl⟩:=List.mem_map.mp ha
   exact(gA m1 m2 (List.mem_reverse.mp hp)).2.2
  cases e:(nodes ws.length).reverse.map (·.2) with
  | nil=>rw[e] at hm;cases hm
  | cons n r=>
   rw[e] at hm hle
   exact(pP hm hle).symm
 have om:pY 0 [.ref st.length] s1= .ok (.int (ws.length:Nat)) s1:=by
  show(match af s1 st.length with | some ws=>(match intsOf ws with | some ns=>Re.ok (Wv.int (PY 0 ns)) s1 | none=> .bad) | none=> .bad)=_
  rw[l1]
  dsimp only
  rw[bX]
  dsimp only
  rw[mx]
 refine⟨s1,?_,g1⟩
 unfold eV dO k7
 simp[-Cv,th,om]
def iq:Nat->Nd->Int->List Nd
 | 0,p,_=>[p]
 | n+1,p,x=>p::(if 1 < p.2 - p.1 then(if x < md p.1 p.2 then iq n (p.1,md p.1 p.2) x else iq n (md p.1 p.2,p.2) x) else[])
theorem q_:∀(n:Nat)(p:Nd)(x:Int),(iq n p x).length<=n+1
 | 0,_,_=>Nat.le_refl _
 | n+1,p,x=>by
  unfold iq
  split
  ·split
   ·have:=q_ n (p.1,md p.1 p.2) x;simp;omega
   ·have:=q_ n (md p.1 p.2,p.2) x;simp;omega
  ·simp
theorem og(n:Nat)(p:Nd)(x:Int):p∈iq n p x:=by cases n<;>exact List.mem_cons_self
theorem vO:∀(n:Nat){p:Nd}{x:Int},p.1<=x/\x < p.2->∀q∈iq n p x,q.1<=x/\x < q.2
 | 0,p,x,h,q,hq=>by rw[List.mem_singleton.mp hq];exact h
 | n+1,p,x,h,q,hq=>by
  unfold iq at hq
  rcases List.mem_cons.mp hq with rfl | hq
  ·exact h
  ·split at hq
   ·split at hq
    ·exact vO n (p:=(p.1,md p.1 p.2)) ⟨h.1,by assumption⟩ q hq
    ·exact vO n (p:=(md p.1 p.2,p.2)) ⟨by show md p.1 p.2<=x;omega,h.2⟩ q hq
   ·cases hq
theorem lp{m:Int}(h1:1<=m)(h2:m<=99):∀(n:Nat){p:Nd}{x:Int},p∈nodes m->∀q∈iq n p x,q∈nodes m
 | 0,p,x,h,q,hq=>by rw[List.mem_singleton.mp hq];exact h
 | n+1,p,x,h,q,hq=>by
  unfold iq at hq
  rcases List.mem_cons.mp hq with rfl | hq
  ·exact h
  ·split at hq
   ·rename_i c
    have e:kids p=[(p.1,md p.1 p.2),(md p.1 p.2,p.2)]:=by unfold kids;rw[if_pos c]
    split at hq
    ·exact lp h1 h2 n (q9 h1 h2 h (by rw[e];simp)) q hq
    ·exact lp h1 h2 n (q9 h1 h2 h (by rw[e];simp)) q hq
   ·cases hq
theorem J9{a b:Int}{n:Nat}(h:b - a<=2 ^ (n+1)):md a b - a<=2 ^ n/\b - md a b<=2 ^ n:=by
 have e:(2:Int) ^ (n+1)=2 ^ n * 2:=Int.pow_succ ..
 unfold md
 omega
theorem Fo{ps:List Nd}{p:Nd}{A:Nat}{st:Hs}(h:af st A=some ((ps++[p]).map pw)):bz (.ref A) (.int (-1)) st= .ok (pw p) st:=by
 refine jg h ?_
 rw[List.map_append]
 unfold L2.kI
 simp[L2.v9]
 rw[if_pos (by omega)]
 have e:(-1+((ps.length:Int)+1)).toNat=ps.length:=by omega
 simp[e]
theorem qa{x:Int}{w:Wv}{A:Nat}:∀(n N:Nat)(acc:List Nd)(p:Nd)(o3:Option Wv)(st:Hs),n < N->p.1 < p.2->p.2 - p.1<=2 ^ n->st[A]? =some (.lst ((acc++[p]).map pw))->acc.length+n<=300->
  ∃QG st',ur (jw (b9 (ax 1 aE (aa (aj bz (ae 2) (zm ie (gC (.int 1)))) ai)))) bg N [some w,some (.int x),some (.ref A),o3] st= .nx [some w,some (.int x),some (.ref A),QG] st'/\aR A st st'/\st'[A]? =some (.lst ((acc++iq n p x).map pw))
 | n,0,_,_,_,_,h,_,_,_,_=>by omega
 | n,N+1,acc,p,o3,st,hN,hp,hw,hA,hl=>by
  have li:=Fo (bj hA)
  cases c:sg p with
  | true=>
   have hs:p.2 - p.1=1:=eq_of_beq c
   have e:iq n p x=[p]:=by cases n with | zero=>rfl | succ n=>unfold iq;rw[if_neg (by omega)]
   exact⟨o3,st,CN (by simp[li,single,c]),aR.refl,by rw[e];exact hA⟩
  | false=>
   have hs:p.2 - p.1≠1:=ne_of_beq_false c
   cases n with
   | zero=>have:p.2 - p.1<=1:=hw;omega
   | succ n=>
    have wd:1 < p.2 - p.1:=by omega
    have mw:=J9 hw
    have mi:p.1 < md p.1 p.2/\md p.1 p.2 < p.2:=by unfold md;omega
    have hh:=lh (p:=p) (st:=st)
    have l1:af (st++[.lst [pw (p.1,md p.1 p.2),pw (md p.1 p.2,p.2)]]) st.length=some [pw (p.1,md p.1 p.2),pw (md p.1 p.2,p.2)]:=au
    have zp:(st++[.lst [pw (p.1,md p.1 p.2),pw (md p.1 p.2,p.2)]])[A]? =some (.lst ((acc++[p]).map pw)):=dS hA
    have g1:Gr st (st++[.lst [pw (p.1,md p.1 p.2),pw (md p.1 p.2,p.2)]]):=Gr.push
    generalize st++[.lst [pw (p.1,md p.1 p.2),pw (md p.1 p.2,p.2)]]=s0 at hh l1 zp g1
    have i0:bz (.ref st.length) (.int 0) s0= .ok (pw (p.1,md p.1 p.2)) s0:=jg l1 rfl
    have i1:bz (.ref st.length) (.int 1) s0= .ok (pw (md p.1 p.2,p.2)) s0:=jg l1 rfl
    have SI:bz (pw (p.1,md p.1 p.2)) (.int 1) s0= .ok (.int (md p.1 p.2)) s0:=KQ
    have km:=λga=>kr (mt:=jz) (ga:=ga) (ρ:=[some w,some (.int x),some (.ref A),some (.ref st.length)]) (bj zp)
    have step:∀q:Nd,(if x < md p.1 p.2 then(p.1,md p.1 p.2) else(md p.1 p.2,p.2))=q->bg [some w,some (.int x),some (.ref A),o3] st= .nx [some w,some (.int x),some (.ref A),some (.ref st.length)] (s0.set A (.lst ((acc++[p]++[q]).map pw))):=λq hq=>by
     have ap:=tR (v:=pw q) zp (by rw[List.length_map,List.length_append];show acc.length+1 < lim;unfold lim;omega)
     have SJ:jz (.ref A) (pw q) s0= .ok .aF (s0.set A (.lst ((acc++[p]++[q]).map pw))):=by rw[ap,List.map_append (l₁:=acc++[p])];rfl
     unfold bg
     by_cases cx:x < md p.1 p.2
     ·rw[if_pos cx] at hq
      subst hq
      simp[li,hh,km,i0,SI,cx,SJ]
     ·rw[if_neg cx] at hq
      subst hq
      simp[li,hh,km,i0,i1,SI,cx,SJ]
    have cond:(jw (b9 (ax 1 aE (aa (aj bz (ae 2) (zm ie (gC (.int 1)))) ai)))) [some w,some (.int x),some (.ref A),o3] st= .ok true st:=by simp[li,single,c]
    have ep:iq (n+1) p x=p::iq n (if x < md p.1 p.2 then(p.1,md p.1 p.2) else(md p.1 p.2,p.2)) x:=by
     rw[iq,if_pos wd]
     split<;>rfl
    obtain⟨q,hq⟩:∃q,(if x < md p.1 p.2 then(p.1,md p.1 p.2) else(md p.1 p.2,p.2))=q:=⟨_,rfl⟩
    have qw:q.1 < q.2/\q.2 - q.1<=2 ^ n:=by
     rw[<-hq]
     split
     ·exact⟨mi.1,mw.1⟩
     ·exact⟨mi.2,mw.2⟩
    have h1:=b_ (o':=.lst ((acc++[p]++[q]).map pw)) zp
    obtain⟨QG,s3,e3,k3,h3⟩:=qa (x:=x) (w:=w) n N (acc++[p]) q (some (.ref st.length)) _ (by omega) qw.1 qw.2 h1 (by rw[List.length_append];show acc.length+1+n<=300;omega)
    refine⟨QG,s3,?_,(g1.keep.trans aR.set).trans k3,?_⟩
    ·rw[CM cond (step q hq)]
     exact e3
    ·rw[h3,ep,hq,List.append_assoc]
     rfl
theorem Fp{m x:Int}{st:Hs}(h1:1<=m)(h2:m<=99):∃st',bq [pw (0,m),.int x] st= .ok (.ref st.length) st'/\Gr st st'/\st'[st.length]? =some (.lst ((iq 7 (0,m) x).map pw)):=by
 have k:gL [pw (0,m)] st= .ok (.ref st.length) (st++[.lst [pw (0,m)]]):=cU (by show 1<=lim;unfold lim;omega)
 have a1:aC 2 (bM (aa (ae 0) ai)) [some (pw (0,m)),some (.int x),none,none] st= .nx [some (pw (0,m)),some (.int x),some (.ref st.length),none] (st++[.lst [pw (0,m)]]):=by simp[k]
 obtain⟨o3,s1,e1,k1,q1⟩:=qa (x:=x) (w:=pw (0,m)) (A:=st.length) 7 100000 [] (0,m) none (st++[.lst [pw (0,m)]]) (by decide) (by show(0:Int) < m;omega) (by show m - 0<=2 ^ 7;omega) cb (by decide)
 have A3:iJ iK (jw (b9 (ax 1 aE (aa (aj bz (ae 2) (zm ie (gC (.int 1)))) ai)))) bg [some (pw (0,m)),some (.int x),some (.ref st.length),none] (st++[.lst [pw (0,m)]])= .nx [some (pw (0,m)),some (.int x),some (.ref st.length),o3] s1:=e1
 refine⟨s1,?_,Gr.dt (Nat.le_refl _) Gr.push k1,by simpa using q1⟩
 refine jo (n:=4) (g:=cO) ?_
 unfold cO
 refine(aX a1).trans ((aX A3).trans ?_)
 simp
def fB(x:Int)(q:Nd):Prop:=q.1<=x/\x < q.2
theorem CU{ws:List Wo}{a:Wo}{x:Int}{q:Nd}(h0:0<=x)(hq:0<=q.1)(h:¬fB x q):sl (ws.set x.toNat a) q=sl ws q:=by
 unfold sl fB at *
 rw[List.take_set,List.drop_set]
 by_cases c:x.toNat < q.1.toNat
 ·rw[if_pos c]
 ·rw[if_neg c]
  refine List.set_eq_of_length_le ?_
  rw[List.length_drop,List.length_take]
  omega
def nw(ws:List Wo)(x:Int)(a:Wo)(done:List Nd)(q:Nd):List Wo:=if q∈done then sl (ws.set x.toNat a) q else sl ws q
def VI(ws:List Wo)(x:Int)(a:Wo)(done:List Nd)(kvs:Ks):Prop:=kvs.map (·.1)=(nodes ws.length).reverse.map kk/\∀q∈nodes ws.length,bT kvs (kk q)=some (.tup (gz (nw ws x a done q)))
def Ok(x:Int):List Nd->List Nd->Prop
 | _,[]=>True
 | d,p::r=>(∀q∈kids p,q∈d\/¬fB x q)/\Ok x (d++[p]) r
theorem Ok.app{x:Int}:∀{d xs ys:List Nd},Ok x d xs->Ok x (d++xs) ys->Ok x d (xs++ys)
 | d,[],ys,_,h=>by rw[List.append_nil] at h;exact h
 | d,p::r,ys,h,k=>⟨h.1,Ok.app h.2 (by rw[List.append_assoc];exact k)⟩
theorem vP{x:Int}:∀(n:Nat){p:Nd},p.1 < p.2->p.2 - p.1<=2 ^ n->fB x p->Ok x [] (iq n p x).reverse
 | 0,p,hp,hw,_=>by
  refine⟨λq hq=>?_,trivial⟩
  have:p.2 - p.1<=1:=hw
  rw[n8 (show sg p=true from beq_iff_eq.mpr (by omega))] at hq
  cases hq
 | n+1,p,hp,hw,hx=>by
  unfold iq
  rw[List.reverse_cons]
  by_cases c:1 < p.2 - p.1
  ·rw[if_pos c]
   have mw:=J9 hw
   have mi:p.1 < md p.1 p.2/\md p.1 p.2 < p.2:=by unfold md;omega
   have ek:kids p=[(p.1,md p.1 p.2),(md p.1 p.2,p.2)]:=by unfold kids;rw[if_pos c]
   by_cases cx:x < md p.1 p.2
   ·rw[if_pos cx]
    refine(vP n (p:=(p.1,md p.1 p.2)) mi.1 mw.1 ⟨hx.1,cx⟩).app ⟨λq hq=>?_,trivial⟩
    rw[ek] at hq
    rcases List.mem_cons.mp hq with rfl | hq
    ·exact .inl (by rw[List.nil_append,List.mem_reverse];exact og _ _ _)
    ·rw[List.mem_singleton.mp hq]
     exact .inr λz=>by have:md p.1 p.2<=x:=z.1;omega
   ·rw[if_neg cx]
    refine(vP n (p:=(md p.1 p.2,p.2)) mi.2 mw.2 ⟨by show md p.1 p.2<=x;omega,hx.2⟩).app ⟨λq hq=>?_,trivial⟩
    rw[ek] at hq
    rcases List.mem_cons.mp hq with rfl | hq
    ·exact .inr λz=>by have:x < md p.1 p.2:=z.2;omega
    ·rw[List.mem_singleton.mp hq]
     exact .inl (by rw[List.nil_append,List.mem_reverse];exact og _ _ _)
  ·rw[if_neg c]
   refine⟨λq hq=>?_,trivial⟩
   rw[n8 (show sg p=true from beq_iff_eq.mpr (by omega))] at hq
   cases hq
theorem ui{L d:Nat}{ws:List Wo}{x:Int}{a:Wo}{H X M N:Option Wv}{all:List Wv}(hL:L≠d)(m1:1<=ws.length)(m2:ws.length<=99)(hx:0<=x):∀(ps done:List Nd)(kvs:Ks)(o6:Option Wv)(st:Hs),Ok x done ps->(∀p∈ps,p∈nodes ws.length/\fB x p)->st[d]? =some (.bh kvs)->VI ws x a done kvs->af st L=some all->
  ∃kvs' QH st',forL 6 br L all (ps.map pw) [H,X,some a.w,M,N,some (.ref d),o6] st= .nx [H,X,some a.w,M,N,some (.ref d),QH] st'/\aR d st st'/\st'[d]? =some (.bh kvs')/\VI ws x a (done++ps) kvs'
 | [],done,kvs,o6,st,_,_,h,hv,_=>⟨kvs,o6,st,rfl,aR.refl,h,by rw[List.append_nil];exact hv⟩
 | p::r,done,kvs,o6,st,ho,hp,h,hv,hl=>by
  have i1:(1:Int)<=(ws.length:Int):=by omega
  have i2:(ws.length:Int)<=99:=by omega
  obtain⟨pn,px⟩:=hp p List.mem_cons_self
  obtain⟨p0,p1,p2⟩:=gA i1 i2 pn
  have kl:kvs.length < 1000:=by
   have:=congrArg List.length hv.1
   rw[List.length_map,List.length_map,List.length_reverse] at this
   have:=dA i1 i2
   omega
  have Oj:(ws.set x.toNat a).length=ws.length:=List.length_set
  have told:∃s1,(jX (b9 (ax 1 aE (aa (ae 6) ai))) (ax 1 bH (aa (bM (aa (ae 2) ai)) ai)) (ax 2 aJ (aa (ae 5) (aa (ae 6) ai)))) [H,X,some a.w,M,N,some (.ref d),some (pw p)] st= .ok (.tup (gz (sl (ws.set x.toNat a) p))) s1/\Gr st s1:=by
   cases c:sg p with
   | true=>
    have hs:p.2 - p.1=1:=eq_of_beq c
    have ex:p.1=x:=by have:=px.1;have:=px.2;omega
    have es:sl (ws.set x.toNat a) p=[a]:=CP p0 c (by rw[ex,List.getElem?_set_self (by omega)])
    have k1:gL [a.w] st= .ok (.ref st.length) (st++[.lst [a.w]]):=cU (by show 1<=lim;unfold lim;omega)
    have l1:af (st++[.lst [a.w]]) st.length=some ([a].map Wo.w):=au
    have g1:Gr st (st++[.lst [a.w]]):=Gr.push
    generalize st++[.lst [a.w]]=s0 at k1 l1 g1
    obtain⟨s1,e1,g2⟩:=ub l1 (by show 1 < 100;decide)
    rw[<-es] at e1
    exact⟨s1,by simp[single,c,k1,e1],g1.trans g2⟩
   | false=>
    have e:=n9 p1 c
    have kid:∀q∈kids p,bT kvs (kk q)=some (.tup (gz (sl (ws.set x.toNat a) q))):=λq hq=>by
     have qn:=q9 i1 i2 pn hq
     rw[hv.2 q qn]
     unfold nw
     rcases ho.1 q hq with z | z
     ·rw[if_pos z]
     ·split
      ·rfl
      ·rw[CU hx (gA i1 i2 qn).1 z]
    obtain⟨s1,e1,g1⟩:=joined (p:=p) h (kid _ (by rw[e];simp)) (kid _ (by rw[e];simp)) (xw p0 p1 (by rw[Oj];exact p2))
    exact⟨s1,by simp[single,c,e1],g1⟩
  obtain⟨s1,e1,g1⟩:=told
  have pd:=vM (p:=p) (v:=.tup (gz (sl (ws.set x.toNat a) p))) (g1.get h) kl
  have km:kk p∈kvs.map (·.1):=by rw[hv.1];exact List.mem_map.mpr ⟨p,List.mem_reverse.mpr pn,rfl⟩
  obtain⟨Vb,Vc⟩:=Fl (v:=.tup (gz (sl (ws.set x.toNat a) p))) km
  have hv':VI ws x a (done++[p]) (jf kvs (kk p) (.tup (gz (sl (ws.set x.toNat a) p)))):=by
   refine⟨Vb.trans hv.1,λq hq=>?_⟩
   rw[Vc]
   by_cases e:q=p
   ·subst e
    rw[if_pos rfl]
    unfold nw
    rw[if_pos (by simp)]
   ·rw[if_neg (λz=>e (qY z)),hv.2 q hq]
    unfold nw
    have:q∈done++[p]↔q∈done:=by simp[e]
    simp only[this]
  have h1:=b_ (o':=.bh (jf kvs (kk p) (.tup (gz (sl (ws.set x.toNat a) p))))) (g1.get h)
  have k1:aR d st (s1.set d (.bh (jf kvs (kk p) (.tup (gz (sl (ws.set x.toNat a) p)))))):=g1.keep.trans aR.set
  generalize s1.set d (.bh (jf kvs (kk p) (.tup (gz (sl (ws.set x.toNat a) p)))))=s2 at pd h1 k1
  have bd:br ([H,X,some a.w,M,N,some (.ref d),o6].set 6 (some (pw p))) st= .nx [H,X,some a.w,M,N,some (.ref d),some (pw p)] s2:=by
   show br [H,X,some a.w,M,N,some (.ref d),some (pw p)] st=_
   unfold br lK
   rw[e1]
   simp[pd]
  obtain⟨kvs',QH,s3,e3,k3,h3,v3⟩:=ui hL m1 m2 hx r (done++[p]) _ (some (pw p)) s2 ho.2 (λq hq=>hp q (List.mem_cons_of_mem _ hq)) h1 hv' (k1.lst hl hL)
  refine⟨kvs',QH,s3,?_,k1.trans k3,h3,by rw[List.append_assoc] at v3;exact v3⟩
  rw[List.map_cons,forL,bd]
  simp only[if_pos (k1.lst hl hL)]
  exact e3
theorem uj:∀ps:List Nd,lN (ps.map kk)=some (ps.map λp=>[p.1,p.2])
 | []=>rfl
 | p::r=>by
  rw[List.map_cons]
  unfold lN
  rw[uj r]
  rfl
theorem Fq{m:Int}(h1:1<=m)(h2:m<=99):jC ((nodes m).reverse.map kk)=true:=by
 unfold jC
 rw[uj]
 refine decide_eq_true ?_
 rw[List.map_map]
 exact((List.reverse_perm (nodes m)).map hs).nodup_iff.mpr (nY h1 h2)
theorem Fs{d:Nat}{kvs:Ks}{st:Hs}(hd:st[d]? =some (.bh kvs))(ne:kvs≠[])(hk:jC (kvs.map (·.1))=true):nE [.ref d] st= .ok (.ref st.length) (st++[.bh kvs]):=by
 unfold nE
 dsimp only
 rw[hd]
 show(if kvs.isEmpty=false/\jC (kvs.map (·.1))=true then Re.ok (Wv.ref st.length) (st++[.bh kvs]) else .bad)=_
 rw[if_pos ⟨by cases kvs with | nil=>exact absurd rfl ne | cons _ _=>rfl,hk⟩]
theorem M6{ws:List Wo}{kvs:Ks}(hi:HI ws kvs):kvs≠[]:=λz=>by
 have:=hi.1
 rw[z] at this
 have q:((0:Int),(ws.length:Int))∈nodes ws.length:=nZ
 have:(nodes ws.length).reverse=[]:=by simpa using this.symm
 rw[List.reverse_eq_nil_iff.mp this] at q
 cases q
theorem CV{m x:Int}{n0:Nat}:∀(n:Nat){l:List Nd},(∀p∈l,p.1 < p.2/\(fB x p->∃k,p.2 - p.1<=2 ^ k/\∀q∈iq k p x,q∈iq n0 (0,m) x))->∀q∈nd n l,fB x q->q∈iq n0 (0,m) x
 | 0,_,_,q,hq,_=>by cases hq
 | n+1,l,h,q,hq,hx=>by
  unfold nd at hq
  rcases List.mem_append.mp hq with z | z
  ·obtain⟨k,_,hk⟩:=(h q z).2 hx
   exact hk q (og _ _ _)
  ·refine CV n (λp hp=>?_) q z hx
   obtain⟨y,hy,hp⟩:=List.mem_flatMap.mp hp
   obtain⟨y1,y2⟩:=h y hy
   have Vd:=jc y1 hp
   refine⟨Vd.1,λpx=>?_⟩
   obtain⟨k,kw,hk⟩:=y2 ⟨by have:=px.1;omega,by have:=px.2;omega⟩
   have c:1 < y.2 - y.1:=by
    unfold kids at hp
    by_cases c:1 < y.2 - y.1
    ·exact c
    ·rw[if_neg c] at hp;cases hp
   have ek:kids y=[(y.1,md y.1 y.2),(md y.1 y.2,y.2)]:=by unfold kids;rw[if_pos c]
   cases k with
   | zero=>have:y.2 - y.1<=1:=kw;omega
   | succ k=>
    have mw:=J9 kw
    rw[ek] at hp
    have sub:∀q'∈iq k p x,q'∈iq (k+1) y x:=λq' hq'=>by
     unfold iq
     rw[if_pos c]
     refine List.mem_cons_of_mem _ ?_
     rcases List.mem_cons.mp hp with e | hp
     ·have cx:x < md y.1 y.2:=by rw[e] at px;exact px.2
      rw[if_pos cx,<-e]
      exact hq'
     ·have e:=List.mem_singleton.mp hp
      have cx:¬x < md y.1 y.2:=by rw[e] at px;have:md y.1 y.2<=x:=px.1;omega
      rw[if_neg cx,<-e]
      exact hq'
    refine⟨k,?_,λq' hq'=>hk q' (sub q' hq')⟩
    rcases List.mem_cons.mp hp with e | hp
    ·rw[e];exact mw.1
    ·rw[List.mem_singleton.mp hp];exact mw.2
theorem Ft{m x:Int}(h1:1<=m)(h2:m<=99){q:Nd}(hq:q∈nodes m)(hx:fB x q):q∈iq 7 (0,m) x:=by
 refine CV 8 (λp hp=>?_) q hq hx
 rw[List.mem_singleton.mp hp]
 exact⟨by show(0:Int) < m;omega,λ_=>⟨7,by show m - 0<=2 ^ 7;omega,λq hq=>hq⟩⟩
theorem oh{d:Nat}{ws:List Wo}{kvs:Ks}{x:Int}{a:Wo}{st:Hs}(h:st[d]? =some (.bh kvs))(hi:HI ws kvs)(m1:1<=ws.length)(m2:ws.length<=99)(x0:0<=x)(x1:x < ws.length) :
  ∃(e P:Nat)(kvs':Ks)(st':Hs),bx [.ref d,.int x,a.w] st= .ok (.tup [.ref e,.ref P]) st'/\Gr st st'/\st'[e]? =some (.bh kvs')/\HI (ws.set x.toNat a) kvs'/\af st' P=some ((iq 7 (0,(ws.length:Int)) x).map pw)/\st.length<=e/\st.length<=P:=by
 have i1:(1:Int)<=(ws.length:Int):=by omega
 have i2:(ws.length:Int)<=99:=by omega
 obtain⟨s1,e1,g1⟩:=xy h hi m1 m2
 obtain⟨s2,e2,g2,q2⟩:=Fp (m:=(ws.length:Int)) (x:=x) (st:=s1) i1 i2
 have h2:=(g1.trans g2).get h
 have dc:=Fs h2 (M6 hi) (by rw[hi.1];exact Fq i1 i2)
 have h3:(s2++[.bh kvs])[s2.length]? =some (.bh kvs):=cb
 have q3:(s2++[.bh kvs])[s1.length]? =some (.lst ((iq 7 (0,(ws.length:Int)) x).map pw)):=dS q2
 have g3:Gr s2 (s2++[.bh kvs]):=Gr.push
 have O_:=jF q2
 generalize s2++[.bh kvs]=s3 at dc h3 q3 g3
 have hx:fB x ((0:Int),(ws.length:Int)):=⟨x0,x1⟩
 obtain⟨kvs',o6,s4,e4,k4,h4,v4⟩:=ui (L:=s1.length) (d:=s2.length) (ws:=ws) (x:=x) (a:=a) (H:=some (.ref d)) (X:=some (.int x)) (M:=some (.int (ws.length:Nat))) (N:=some (.ref s1.length)) (all:=(iq 7 (0,(ws.length:Int)) x).map pw) (by omega) m1 m2 x0 (iq 7 (0,(ws.length:Int)) x).reverse [] kvs none s3 (vP 7 (by show(0:Int) < (ws.length:Int);omega) (by show(ws.length:Int) - 0<=2 ^ 7;omega) hx)
  (λp hp=>⟨lp i1 i2 7 nZ p (List.mem_reverse.mp hp),vO 7 hx p (List.mem_reverse.mp hp)⟩) h3 ⟨hi.1,λq hq=>by rw[hi.2 q hq];unfold nw;rw[if_neg (by simp)]⟩ (bj q3)
 have hi':HI (ws.set x.toNat a) kvs':=by
  have le:(ws.set x.toNat a).length=ws.length:=List.length_set
  refine⟨by rw[le];exact v4.1,λq hq=>?_⟩
  rw[le] at hq
  rw[v4.2 q hq]
  unfold nw
  by_cases c:q∈[]++(iq 7 (0,(ws.length:Int)) x).reverse
  ·rw[if_pos c]
  ·rw[if_neg c,CU x0 (gA i1 i2 hq).1 λz=>c (by rw[List.nil_append,List.mem_reverse];exact Ft i1 i2 hq z)]
 have Ve:=g1.trans (g2.trans g3)
 refine⟨s2.length,s1.length,kvs',s4,?_,Gr.dt (by have:=(g1.trans g2).1;omega) Ve k4,h4,hi',k4.lst (bj q3) (by omega),(g1.trans g2).1,g1.1⟩
 have a1:aC 3 (ax 1 eV (aa (ae 0) ai)) [some (.ref d),some (.int x),some a.w,none,none,none,none] st= .nx [some (.ref d),some (.int x),some a.w,some (.int (ws.length:Nat)),none,none,none] s1:=by simp[e1]
 have a2:lC (jw (bC (gG oLe oLt (gC (.int 0)) (ae 1) (ae 3)))) (kM "BadCount" (aa (gC (.str "no number of a worth")) ai)) bD [some (.ref d),some (.int x),some a.w,some (.int (ws.length:Nat)),none,none,none] s1= .nx [some (.ref d),some (.int x),some a.w,some (.int (ws.length:Nat)),none,none,none] s1:=by simp[x0,x1]
 have yw:bq [.tup [.int 0,.int (ws.length:Nat)],.int x] s1= .ok (.ref s1.length) s2:=e2
 have a3:aC 4 (ax 2 bq (aa (dN (aa (gC (.int 0)) (aa (ae 3) ai))) (aa (ae 1) ai))) [some (.ref d),some (.int x),some a.w,some (.int (ws.length:Nat)),none,none,none] s1= .nx [some (.ref d),some (.int x),some a.w,some (.int (ws.length:Nat)),some (.ref s1.length),none,none] s2:=by simp[yw]
 have a4:aC 5 (ao nE (aa (ae 0) ai)) [some (.ref d),some (.int x),some a.w,some (.int (ws.length:Nat)),some (.ref s1.length),none,none] s2= .nx [some (.ref d),some (.int x),some a.w,some (.int (ws.length:Nat)),some (.ref s1.length),some (.ref s2.length),none] s3:=by simp[dc]
 have a5:lO 6 (aa (ae 4) ai) br [some (.ref d),some (.int x),some a.w,some (.int (ws.length:Nat)),some (.ref s1.length),some (.ref s2.length),none] s3= .nx [some (.ref d),some (.int x),some a.w,some (.int (ws.length:Nat)),some (.ref s1.length),some (.ref s2.length),o6] s4:=by
  unfold lO
  simp[bj q3,<-List.map_reverse,e4]
 refine jo (n:=7) (g:=cz) ?_
 unfold cz
 refine(aX a1).trans ((aX a2).trans ((aX a3).trans ((aX a4).trans ((aX a5).trans ?_))))
 simp
theorem xA{ws:List Wo}:∀{ps:List Nd}{kvs:Ks},ps.Nodup->kvs.map (·.1)=ps.map kk->(∀q∈ps,bT kvs (kk q)=some (.tup (gz (sl ws q))))->kvs=ps.map (ent ws)
 | [],kvs,_,h,_=>by simpa using h
 | p::r,[],_,h,_=>by cases h
 | p::r,kv::rest,n,h,hv=>by
  rw[List.map_cons,List.map_cons] at h
  injection h with h1 h2
  rw[List.nodup_cons] at n
  have v0:=hv p List.mem_cons_self
  unfold bT at v0
  rw[if_pos h1] at v0
  injection v0 with v0
  have ih:=xA (ws:=ws) n.2 h2 λq hq=>by
   have v:=hv q (List.mem_cons_of_mem _ hq)
   unfold bT at v
   rw[if_neg (λz=>n.1 (by rw[qY (h1.symm.trans z)];exact hq))] at v
   exact v
  rw[List.map_cons,<-ih]
  congr 1
  exact Prod.ext h1 v0
theorem M7{ws:List Wo}{kvs:Ks}(h:HI ws kvs)(m1:1<=ws.length)(m2:ws.length<=99):kvs=(nodes ws.length).reverse.map (ent ws) :=
 xA ((List.reverse_perm _).nodup_iff.mpr (iR (by omega) (by omega))) h.1 λq hq=>h.2 q (List.mem_reverse.mp hq)
theorem kF{ws:List Wo}{ps:List Nd}{st:Hs}:kU st (ps.map (ent ws))=true:=by
 unfold kU
 rw[List.all_eq_true]
 intro kv hkv
 obtain⟨p,_,rfl⟩:=List.mem_map.mp hkv
 obtain⟨d,h1,_⟩:=xq (sl ws p)
 show(aS st 20 (.tup (gz (sl ws p)))).isSome=true
 rw[h1]
 rfl
theorem rp{c d:PySem.Str}{b:Bool}{st:Hs}(h:cJ.lookup (c,d)=some b):a8 cJ aY [.fA c,.cls d] st= .ok (.bl b) st:=by
 show(match cJ.lookup (c,d) with | some b=>Re.ok (Wv.bl b) st | none=> .bad)=_
 rw[h]
theorem Vf{st:Hs}:a8 cJ aY [.fA "BadCount",.ty "ValueError"] st= .ok (.bl true) st:=by
 show(match aY.lookup (("BadCount":PySem.Str),("ValueError":String)) with | some b=>Re.ok (Wv.bl b) st | none=> .bad)=_
 rw[show aY.lookup (("BadCount":PySem.Str),("ValueError":String))=some true by decide+kernel]
def hb:List Bool:=[false,false,false,false,false,false,false,false,true,false,false,false,false,false,false,true]
def hv:Wv->Bool
 | .int i=>hb.getD i.toNat false
 | _=>false
theorem J_:((bS 0 (16:Int).toNat).filter hv).map id=[.int 8,.int 15]:=by
 rw[List.map_id]
 rfl
theorem kinds{st:Hs}:∃(l:Nat)(st':Hs),cZ [.fA "BadCount"] st= .ok (.ref l) st'/\af st' l=some [.int 8,.int 15]/\Gr st st':=by
 have t0:∀st:Hs,a8 cJ aY [.fA "BadCount",.cls "BadPlace"] st= .ok (.bl false) st:=λ_=>rp (by decide+kernel)
 have t1:∀st:Hs,a8 cJ aY [.fA "BadCount",.cls "BadArea"] st= .ok (.bl false) st:=λ_=>rp (by decide+kernel)
 have t2:∀st:Hs,a8 cJ aY [.fA "BadCount",.cls "BadText"] st= .ok (.bl false) st:=λ_=>rp (by decide+kernel)
 have t3:∀st:Hs,a8 cJ aY [.fA "BadCount",.cls "BadFormula"] st= .ok (.bl false) st:=λ_=>rp (by decide+kernel)
 have t4:∀st:Hs,a8 cJ aY [.fA "BadCount",.cls "BadContent"] st= .ok (.bl false) st:=λ_=>rp (by decide+kernel)
 have t5:∀st:Hs,a8 cJ aY [.fA "BadCount",.cls "Full"] st= .ok (.bl false) st:=λ_=>rp (by decide+kernel)
 have t6:∀st:Hs,a8 cJ aY [.fA "BadCount",.cls "NoCell"] st= .ok (.bl false) st:=λ_=>rp (by decide+kernel)
 have t7:∀st:Hs,a8 cJ aY [.fA "BadCount",.cls "NotWaiting"] st= .ok (.bl false) st:=λ_=>rp (by decide+kernel)
 have t8:∀st:Hs,a8 cJ aY [.fA "BadCount",.cls "BadCount"] st= .ok (.bl true) st:=λ_=>rp (by decide+kernel)
 have t9:∀st:Hs,a8 cJ aY [.fA "BadCount",.cls "NoRoom"] st= .ok (.bl false) st:=λ_=>rp (by decide+kernel)
 have Vg:∀st:Hs,a8 cJ aY [.fA "BadCount",.cls "BadTable"] st= .ok (.bl false) st:=λ_=>rp (by decide+kernel)
 have Vh:∀st:Hs,a8 cJ aY [.fA "BadCount",.cls "NoTable"] st= .ok (.bl false) st:=λ_=>rp (by decide+kernel)
 have Vi:∀st:Hs,a8 cJ aY [.fA "BadCount",.cls "NoColumn"] st= .ok (.bl false) st:=λ_=>rp (by decide+kernel)
 have Vj:∀st:Hs,a8 cJ aY [.fA "BadCount",.cls "NoDeed"] st= .ok (.bl false) st:=λ_=>rp (by decide+kernel)
 have Vk:∀st:Hs,a8 cJ aY [.fA "BadCount",.cls "Clash"] st= .ok (.bl false) st:=λ_=>rp (by decide+kernel)
 obtain⟨x,hx⟩:∃x:List Wv,[Wv.bl false,.bl false,.bl false,.bl false]=x:=⟨_,rfl⟩
 obtain⟨y,hy⟩:∃y:List Wv,[Wv.bl true,.bl false,.bl false,.bl false]=y:=⟨_,rfl⟩
 obtain⟨z,hz⟩:∃z:List Wv,[Wv.bl false,.bl false,.bl false,.bl true]=z:=⟨_,rfl⟩
 have nx:x.length=4:=by rw[<-hx];rfl
 have ny:y.length=4:=by rw[<-hy];rfl
 have nz:z.length=4:=by rw[<-hz];rfl
 have kx:∀st:Hs,gL x st= .ok (.ref st.length) (st++[.lst x]):=λst=>cU (by rw[nx];unfold lim;omega)
 have ky:∀st:Hs,gL y st= .ok (.ref st.length) (st++[.lst y]):=λst=>cU (by rw[ny];unfold lim;omega)
 have kz:∀st:Hs,gL z st= .ok (.ref st.length) (st++[.lst z]):=λst=>cU (by rw[nz];unfold lim;omega)
 obtain⟨s1,hs1⟩:∃s1,st++[Ob.lst x]=s1:=⟨_,rfl⟩
 obtain⟨s2,hs2⟩:∃s2,s1++[Ob.lst x]=s2:=⟨_,rfl⟩
 obtain⟨s3,Mm⟩:∃s3,s2++[Ob.lst y]=s3:=⟨_,rfl⟩
 obtain⟨s4,QI⟩:∃s4,s3++[Ob.lst z]=s4:=⟨_,rfl⟩
 have g1:Gr st s1:=by rw[<-hs1];exact Gr.push
 have g2:Gr s1 s2:=by rw[<-hs2];exact Gr.push
 have g3:Gr s2 s3:=by rw[<-Mm];exact Gr.push
 have g4:Gr s3 s4:=by rw[<-QI];exact Gr.push
 have l1:af s4 st.length=some x:=(g2.trans (g3.trans g4)).lst (by rw[<-hs1];exact au)
 have l2:af s4 s1.length=some x:=(g3.trans g4).lst (by rw[<-hs2];exact au)
 have l3:af s4 s2.length=some y:=g4.lst (by rw[<-Mm];exact au)
 have l4:af s4 s3.length=some z:=by rw[<-QI];exact au
 have a1:=add_l l1 l2 (by unfold lim;omega)
 obtain⟨s5,QJ⟩:∃s5,s4++[Ob.lst (x++x)]=s5:=⟨_,rfl⟩
 rw[QJ] at a1
 have g5:Gr s4 s5:=by rw[<-QJ];exact Gr.push
 have l5:af s5 s4.length=some (x++x):=by rw[<-QJ];exact au
 have a2:=add_l l5 (g5.lst l3) (by rw[List.length_append];unfold lim;omega)
 obtain⟨s6,QK⟩:∃s6,s5++[Ob.lst (x++x++y)]=s6:=⟨_,rfl⟩
 rw[QK] at a2
 have g6:Gr s5 s6:=by rw[<-QK];exact Gr.push
 have l6:af s6 s5.length=some (x++x++y):=by rw[<-QK];exact au
 have a3:=add_l l6 ((g5.trans g6).lst l4) (by rw[List.length_append,List.length_append];unfold lim;omega)
 obtain⟨s7,QL⟩:∃s7,s6++[Ob.lst (x++x++y++z)]=s7:=⟨_,rfl⟩
 rw[QL] at a3
 have g7:Gr s6 s7:=by rw[<-QL];exact Gr.push
 have l7:af s7 s6.length=some (hb.map Wv.bl):=by rw[<-QL,au,<-hx,<-hy,<-hz];rfl
 have cp:=eT (cs:=[("heard",5)]) (gt:=cA) (ge:=dy) (ρ:=[some (.fA "BadCount"),some (.ref st.length),some (.ref s1.length),some (.ref s2.length),some (.ref s3.length),some (.ref s6.length)]) (w:=(none,bS 0 (16:Int).toNat)) (st:=s7) (t:=hv) (f:=id) trivial
  (λv hv' acc=>by
   obtain⟨i,rfl,i0,i1⟩:=qL hv'
   have i2:i < 16:=by have:((16:Int).toNat:Int)=16:=rfl;omega
   have e:bz (.ref s6.length) (.int i) (s7++[.lst acc])= .ok (.bl (hb.getD i.toNat false)) (s7++[.lst acc]):=by
    refine jg (i9 l7) ?_
    obtain⟨n,rfl⟩:=Int.eq_ofNat_of_zero_le i0
    have ln:n < hb.length:=by show n < 16;omega
    refine L2.gE ?_
    rw[List.getElem?_map,List.getElem?_eq_getElem ln,Int.toNat_natCast,List.getD_eq_getElem?_getD,List.getElem?_eq_getElem ln]
    rfl
   unfold cA
   simp[gn,e,hv])
  (λv hv' _ acc=>rfl) (by show(bS 0 (16:Int).toNat).length < lim;rw[dQ];unfold lim;omega)
 rw[show((none,bS 0 (16:Int).toNat):Wk).2=bS 0 (16:Int).toNat from rfl,J_] at cp
 have QM:bQ [("heard",5)] cA dy [some (.fA "BadCount"),some (.ref st.length),some (.ref s1.length),some (.ref s2.length),some (.ref s3.length),some (.ref s6.length)] (none,bS 0 16) s7= .ok (.ref s7.length) (s7++[.lst [.int 8,.int 15]]):=cp
 have r1:=Cw (j:=16) (st:=s7) (Cz (by omega) (by omega))
 refine⟨s7.length,s7++[.lst [.int 8,.int 15]],?_,au,g1.trans (g2.trans (g3.trans (g4.trans (g5.trans (g6.trans (g7.trans Gr.push))))))⟩
 refine jo (n:=6) (g:=cY) ?_
 unfold cY
 simp[-List.append_assoc,-List.length_append,t0,t1,t2,t3,t4,t5,t6,t7,t8,t9,Vg,Vh,Vi,Vj,Vk,Vf,hx,hy,hz,kx,ky,kz,hs1,hs2,Mm,QI,a1,a2,a3,r1,QM]
theorem Ka{l l':Nat}{st:Hs}(h:af st l=some [.int 8,.int 15])(h':af st l'=some [.int 8,.int 15]):wt (.ref l) (.ref l') st= .ok (.bl false) st :=
 CA (by rw[xm h];rfl) (by rw[xm h'];rfl) (by simp[PyData.eqv,PyData.eqvAll])
theorem M8{ps qs:List Nd}{p:Nd}{A:Nat}{st:Hs}(h:af st A=some ((ps++p::qs).map pw)):bz (.ref A) (.int (ps.length:Nat)) st= .ok (pw p) st:=by
 refine jg h ?_
 have e:((ps++p::qs).map pw)[ps.length]? =some (pw p):=by rw[List.getElem?_map,List.getElem?_append_right (Nat.le_refl _),Nat.sub_self];rfl
 exact L2.gE e
abbrev xB(m:Int)(A n:Nat)(a b c:Option Wv):aT:=[some (.int m),some (.ref A),some (.int (n:Nat)),a,b,c]
theorem zf{m:Int}{A:Nat}{ps qs:List Nd}{p:Nd}{a b c:Option Wv}{st:Hs}(h:af st A=some ((ps++p::qs).map pw))(hl:(ps++p::qs).length<=1000)(hp:p.1 < p.2) :
  ∃A' a' b' c' st',aK (xB m A ps.length a b c) st= .nx (xB m A' (ps.length+1) a' b' c') st'/\Gr st st'/\af st' A'=some ((ps++p::qs++kids p).map pw):=by
 have ix:=M8 h
 have b1:sx [3,4] (aj bz (ae 1) (ae 2)) (xB m A ps.length a b c) st= .nx (xB m A ps.length (some (.int p.1)) (some (.int p.2)) c) st:=by
  unfold sx
  simp[ix]
  rfl
 have b2:aC 2 (aj b8 (ae 2) (gC (.int 1))) (xB m A ps.length (some (.int p.1)) (some (.int p.2)) c) st= .nx (xB m A (ps.length+1) (some (.int p.1)) (some (.int p.2)) c) st:=by simp
 by_cases w:1 < p.2 - p.1
 ·have kd:kids p=[(p.1,md p.1 p.2),(md p.1 p.2,p.2)]:=by unfold kids;rw[if_pos w]
  have dv:eX (.int (p.1+p.2)) (.int 2) st= .ok (.int (md p.1 p.2)) st:=SG
  have kl:=vF (x0:=pw (p.1,md p.1 p.2)) (x1:=pw (md p.1 p.2,p.2)) (st:=st)
  have l1:af (st++[.lst [pw (p.1,md p.1 p.2),pw (md p.1 p.2,p.2)]]) st.length=some ((kids p).map pw):=by rw[kd];exact au
  have g1:Gr st (st++[.lst [pw (p.1,md p.1 p.2),pw (md p.1 p.2,p.2)]]):=Gr.push
  generalize st++[.lst [pw (p.1,md p.1 p.2),pw (md p.1 p.2,p.2)]]=s1 at kl l1 g1
  have ad:=add_l (g1.lst h) l1 (by rw[List.length_map,List.length_map,kd];show(ps++p::qs).length+2<=lim;unfold lim;omega)
  rw[<-List.map_append] at ad
  have l2:=au (st:=s1) (ws:=(ps++p::qs++kids p).map pw)
  have g2:Gr s1 (s1++[.lst ((ps++p::qs++kids p).map pw)]):=Gr.push
  generalize s1++[.lst ((ps++p::qs++kids p).map pw)]=s2 at ad l2 g2
  have Vl:gL [.tup [.int p.1,.int (md p.1 p.2)],.tup [.int (md p.1 p.2),.int p.2]] st= .ok (.ref st.length) s1:=kl
  refine⟨s1.length,some (.int p.1),some (.int p.2),some (.int (md p.1 p.2)),s2,?_,g1.trans g2,l2⟩
  unfold aK
  refine(aX b1).trans ((aX b2).trans ?_)
  simp[w,dv,Vl,ad]
 ·have kd:kids p=[]:=by unfold kids;rw[if_neg w]
  refine⟨A,some (.int p.1),some (.int p.2),c,st,?_,Gr.refl,by rw[kd,List.append_nil];exact h⟩
  unfold aK
  refine(aX b1).trans ((aX b2).trans ?_)
  simp[w]
theorem oj{m:Int}:∀(l ps acc:List Nd)(N A:Nat)(a b c:Option Wv)(st:Hs),af st A=some ((ps++l++acc).map pw)->(ps++l++acc).length+2 * l.length<=1000->(∀p∈l,p.1 < p.2)->
  ∃A' a' b' c' st',ur (bC (aj oLt (ae 2) (ao fO (aa (ae 1) ai)))) aK (N+l.length) (xB m A ps.length a b c) st=ur (bC (aj oLt (ae 2) (ao fO (aa (ae 1) ai)))) aK N (xB m A' (ps.length+l.length) a' b' c') st'/\Gr st st'/\af st' A'=some ((ps++l++(acc++l.flatMap kids)).map pw)
 | [],ps,acc,N,A,a,b,c,st,h,_,_=>⟨A,a,b,c,st,rfl,Gr.refl,by rw[h];simp⟩
 | p::r,ps,acc,N,A,a,b,c,st,h,hl,hp=>by
  have e0:ps++(p::r)++acc=ps++p::(r++acc):=by simp
  have n0:(ps++(p::r)++acc).length=ps.length+(r.length+1)+acc.length:=by simp;omega
  have n1:(p::r).length=r.length+1:=rfl
  have ln:=lR h
  rw[List.length_map,n0] at ln
  have hk:(kids p).length<=2:=by unfold kids;split<;>simp
  obtain⟨A1,a1,b1,c1,s1,t1,g1,l1⟩:=zf (m:=m) (a:=a) (b:=b) (c:=c) (by rw[e0] at h;exact h) (by rw[<-e0];omega) (hp p List.mem_cons_self)
  have e1:ps++p::(r++acc)++kids p=(ps++[p])++r++(acc++kids p):=by simp
  rw[e1] at l1
  have n2:((ps++[p])++r++(acc++kids p)).length=ps.length+1+r.length+(acc.length+(kids p).length):=by simp;omega
  obtain⟨A2,a2,b2,c2,s2,t2,g2,l2⟩:=oj (m:=m) r (ps++[p]) (acc++kids p) N A1 a1 b1 c1 s1 l1 (by omega) λq hq=>hp q (List.mem_cons_of_mem _ hq)
  have n3:(ps++[p]).length=ps.length+1:=by simp
  rw[n3] at t2
  refine⟨A2,a2,b2,c2,s2,?_,g1.trans g2,?_⟩
  ·have FX:(bC (aj oLt (ae 2) (ao fO (aa (ae 1) ai)))) (xB m A ps.length a b c) st= .ok true st:=by
    have lt:((ps.length:Nat):Int) < ((ps.length+(r.length+1)+acc.length:Nat):Int):=by omega
    simp[ln,lt]
    omega
   rw[n1,<-Nat.add_assoc,CM FX t1,t2,show ps.length+(r.length+1)=ps.length+1+r.length by omega]
  ·rw[l2,List.flatMap_cons]
   simp
theorem vQ{m:Int}{ps:List Nd}{N A:Nat}{a b c:Option Wv}{st:Hs}(h:af st A=some (ps.map pw)):ur (bC (aj oLt (ae 2) (ao fO (aa (ae 1) ai)))) aK (N+1) (xB m A ps.length a b c) st= .nx (xB m A ps.length a b c) st:=by
 have ln:=lR h
 rw[List.length_map] at ln
 exact CN (by simp[ln])
theorem oo{m:Int}:∀(n:Nat)(l ps:List Nd)(N A:Nat)(a b c:Option Wv)(st:Hs),it n l=[]->af st A=some ((ps++l).map pw)->ps.length+(nd n l).length<=250->(nd n l).length < N->(∀p∈l,p.1 < p.2)->
  ∃A' k a' b' c' st',ur (bC (aj oLt (ae 2) (ao fO (aa (ae 1) ai)))) aK N (xB m A ps.length a b c) st= .nx (xB m A' k a' b' c') st'/\Gr st st'/\af st' A'=some ((ps++nd n l).map pw)
 | 0,l,ps,N,A,a,b,c,st,hi,h,_,hN,_=>by
  have:l=[]:=hi
  subst this
  rw[List.append_nil] at h
  obtain⟨N',rfl⟩:∃N',N=N'+1:=⟨N - 1,by omega⟩
  exact⟨A,ps.length,a,b,c,st,vQ h,Gr.refl,by rw[h];simp[nd]⟩
 | n+1,l,ps,N,A,a,b,c,st,hi,h,hl,hN,hp=>by
  have hnd:nd (n+1) l=l++nd n (l.flatMap kids):=rfl
  have n1:(nd (n+1) l).length=l.length+(nd n (l.flatMap kids)).length:=by rw[hnd,List.length_append]
  obtain⟨N',rfl⟩:∃N',N=N'+l.length:=⟨N - l.length,by omega⟩
  obtain⟨A1,a1,b1,c1,s1,t1,g1,l1⟩:=oj (m:=m) l ps [] N' A a b c st (by rw[List.append_nil];exact h) (by rw[List.append_nil,List.length_append];omega) hp
  rw[List.nil_append] at l1
  obtain⟨A2,k,a2,b2,c2,s2,t2,g2,l2⟩:=oo (m:=m) n (l.flatMap kids) (ps++l) N' A1 a1 b1 c1 s1 hi l1 (by rw[List.length_append];omega) (by omega) λq hq=>by
   obtain⟨x,hx,hq⟩:=List.mem_flatMap.mp hq
   exact(jc (hp x hx) hq).1
  rw[List.length_append] at t2
  exact⟨A2,k,a2,b2,c2,s2,t1.trans t2,g1.trans g2,by rw[l2,hnd,List.append_assoc]⟩
theorem qb{m:Int}{st:Hs}(h1:1<=m)(h2:m<=99):∃A st',bI [.int m] st= .ok (.ref A) st'/\Gr st st'/\af st' A=some ((nodes m).map pw):=by
 have k1:=vE (x0:=pw (0,m)) (st:=st)
 have l1:af (st++[.lst [pw (0,m)]]) st.length=some (([]++[((0,m):Nd)]).map pw):=au
 have g1:Gr st (st++[.lst [pw (0,m)]]):=Gr.push
 generalize st++[.lst [pw (0,m)]]=s1 at k1 l1 g1
 have q:(nd 8 [(0,m)]).length<=200:=dA h1 h2
 obtain⟨A,k,a,b,c,s2,t,g2,l2⟩:=oo (m:=m) 8 [(0,m)] [] 100000 st.length none none none s1 (jb h1 h2) l1 (by show 0+(nd 8 [(0,m)]).length<=250;omega) (by omega) λp hp=>by rw[List.mem_singleton.mp hp];show(0:Int) < m;omega
 have RE:gL [.tup [.int 0,.int m]] st= .ok (.ref st.length) s1:=k1
 have t':iJ iK (bC (aj oLt (ae 2) (ao fO (aa (ae 1) ai)))) aK [some (.int m),some (.ref st.length),some (.int 0),none,none,none] s1= .nx (xB m A k a b c) s2:=t
 have b1:aC 1 (bM (aa (dN (aa (gC (.int 0)) (aa (ae 0) ai))) ai)) [some (.int m),none,none,none,none,none] st= .nx [some (.int m),some (.ref st.length),none,none,none,none] s1:=by simp[RE]
 have b2:aC 2 (gC (.int 0)) [some (.int m),some (.ref st.length),none,none,none,none] s1= .nx [some (.int m),some (.ref st.length),some (.int 0),none,none,none] s1:=by simp
 refine⟨A,s2,?_,g1.trans g2,l2⟩
 refine jo (n:=6) (g:=eL) ?_
 unfold eL
 refine(aX b1).trans ((aX b2).trans ((aX t').trans ?_))
 simp
theorem Kb{ws:List Wo}{p:Nd}(h0:0<=p.1)(h1:p.1 < p.2)(h2:p.2<=ws.length):jy (ws.map Wo.w) (some p.1) (some p.2)=(sl ws p).map Wo.w:=by
 rw[Fi h0 (by omega) (by omega) h2]
 unfold sl
 rw[List.drop_take]
theorem Kc{ws:List Wo}{p:Nd}(h:ws.length < 100):(sl ws p).length < 100:=by
 unfold sl
 rw[List.length_drop,List.length_take]
 omega
theorem Fv{W d:Nat}{ws:List Wo}{done:List Nd}{p:Nd}{st:Hs}(hW:af st W=some (ws.map Wo.w))(h:st[d]? =some (.bh (done.map (ent ws))))(hlen:ws.length<=99)(hd:done.length<=300)(h0:0<=p.1)(h1:p.1 < p.2)(h2:p.2<=ws.length)(hn:p∉done) :
  ∃(l:Nat)(s1 s2 s3:Hs),Bm (.ref W) (some p.1) (some p.2) st= .ok (.ref l) s1/\cw [.ref l] s1= .ok (.tup (gz (sl ws p))) s2/\putD (.ref d) (pw p) (.tup (gz (sl ws p))) s2=some s3/\aR d st s3/\s3[d]? =some (.bh ((done++[p]).map (ent ws))):=by
 have s:=JV (lo:=some p.1) (hi:=some p.2) hW
 rw[Kb h0 h1 h2] at s
 have l1:=au (st:=st) (ws:=(sl ws p).map Wo.w)
 have g1:Gr st (st++[.lst ((sl ws p).map Wo.w)]):=Gr.push
 generalize st++[.lst ((sl ws p).map Wo.w)]=s1 at s l1 g1
 obtain⟨s2,e2,g2⟩:=M4 l1 (Kc (by omega))
 have hd2:=(g1.trans g2).get h
 have pd:=vM (p:=p) (v:=.tup (gz (sl ws p))) hd2 (by rw[List.length_map];omega)
 rw[xx (by rw[kD];exact λz=>hn (CQ z))] at pd
 have e:done.map (ent ws)++[(kk p,.tup (gz (sl ws p)))]=(done++[p]).map (ent ws):=by rw[List.map_append];rfl
 rw[e] at pd
 exact⟨st.length,s1,s2,_,s,e2,pd,(g1.trans g2).keep.trans aR.set,b_ hd2⟩
theorem vR{ws:List Wo}{ps qs:List Nd}{st:Hs}(hl:ps.length=qs.length)(hm:∀p∈ps,p∈qs):lP st (ps.map (ent ws)) (qs.map (ent ws))=true:=by
 unfold lP
 rw[decide_eq_true (by rw[List.length_map,List.length_map,hl]),Bool.true_and,List.all_eq_true,kD]
 intro k hk
 obtain⟨p,hp,rfl⟩:=List.mem_map.mp hk
 have v:=kC (ws:=ws) hp
 have v2:=kC (ws:=ws) (hm p hp)
 obtain⟨d,h1,h2⟩:=xq (sl ws p)
 unfold Gi
 rw[v,v2]
 dsimp only
 rw[h1]
 simpa using h2
theorem ra{ws:List Wo}{k1:Ks}{a b:Nat}{st:Hs}(ha:st[a]? =some (.bh k1))(hb:st[b]? =some (.bh ((nodes ws.length).map (ent ws))))(h1:HI ws k1)(m1:1<=ws.length)(m2:ws.length<=99):vo (.ref a) (.ref b) st= .ok (.bl true) st/\qI (.ref a) (.ref b) st= .ok (.bl false) st:=by
 have e1:=M7 h1 m1 m2
 subst e1
 have da:nG st (.ref a)=some ((nodes ws.length).reverse.map (ent ws)):=by show jB st[a]? =_;rw[ha];rfl
 have db:nG st (.ref b)=some ((nodes ws.length).map (ent ws)):=by show jB st[b]? =_;rw[hb];rfl
 have sm:=vR (ws:=ws) (ps:=(nodes ws.length).reverse) (qs:=nodes ws.length) (st:=st) (List.length_reverse) λp hp=>List.mem_reverse.mp hp
 unfold vo qI
 rw[da,db]
 dsimp only
 rw[if_pos ⟨kF,kF⟩,if_pos ⟨kF,kF⟩,sm]
 exact⟨rfl,rfl⟩
theorem M9{tb:Tab}{tt:mX}{d:Nat}{kvs:Ks}{st:Hs}(h:st[d]? =some (.bh kvs)):oH tb tt [.ref d,.ty "dict"] st= .ok (.bl true) st:=by
 show(if "dict"="dict"/\(jB st[d]?).isSome=true then Re.ok (Wv.bl true) st else a8 tb tt [.ref d,.ty "dict"] st)=_
 rw[h,if_pos ⟨rfl,rfl⟩]
theorem M_{d:Nat}{kvs:Ks}{st:Hs}(h:st[d]? =some (.bh kvs)):EU (.ref d) st= .ok .aF (st.set d (.bh [])):=by
 show(match st[d]? with | some (.lst _)=>Re.ok Wv.aF (st.set d (.lst [])) | some (.bh _)=> .ok .aF (st.set d (.bh [])) | _=> .bad)=_
 rw[h]
theorem qc{t:GT}{g:GS}{ρ:aT}{st st':Hs}(h:t ρ st= .ok false st'):lC t g bD ρ st= .nx ρ st':=by simp[h]
abbrev R4(W d:Nat)(a b:Option Wv):aT:=[some (.ref W),some (.ref d),a,b]
theorem uk{W L d:Nat}{ws:List Wo}{all:List Wv}(hL:L≠d)(hW:W≠d)(hlen:ws.length<=99):∀(ps done:List Nd)(a b:Option Wv)(st:Hs),(done++ps).Nodup->(done++ps).length<=300->(∀p∈ps,0<=p.1/\p.1 < p.2/\p.2<=ws.length)->st[d]? =some (.bh (done.map (ent ws)))->af st W=some (ws.map Wo.w)->af st L=some all->
  ∃a' b' st',lE [2,3] cH L all (ps.map pw) (R4 W d a b) st= .nx (R4 W d a' b') st'/\aR d st st'/\st'[d]? =some (.bh ((done++ps).map (ent ws)))
 | [],done,a,b,st,_,_,_,h,_,_=>⟨a,b,st,rfl,aR.refl,by rw[List.append_nil];exact h⟩
 | p::r,done,a,b,st,nd,hn,hp,h,hw,hl=>by
  obtain⟨p0,p1,p2⟩:=hp p List.mem_cons_self
  have Vm:((done++[p])++r).Nodup:=by simpa using nd
  have hn':((done++[p])++r).length<=300:=by simpa using hn
  have np:p∉done:=λz=>by
   rw[List.nodup_append] at nd
   exact nd.2.2 p z p List.mem_cons_self rfl
  have hd:done.length<=300:=by rw[List.length_append] at hn;omega
  obtain⟨l,s1,s2,s3,a1,a2,a3,k,q⟩:=Fv hw h hlen hd p0 p1 p2 np
  have bd:cH (R4 W d (some (.int p.1)) (some (.int p.2))) st= .nx (R4 W d (some (.int p.1)) (some (.int p.2))) s3:=by
   unfold cH lK
   have Vn:putD (.ref d) (.tup [.int p.1,.int p.2]) (.tup (gz (sl ws p))) s2=some s3:=a3
   simp[a1,a2,Vn]
  obtain⟨a',b',s4,e4,k4,q4⟩:=uk hL hW hlen r (done++[p]) (some (.int p.1)) (some (.int p.2)) s3 Vm hn' (λq hq=>hp q (List.mem_cons_of_mem _ hq)) q (k.lst hw hW) (k.lst hl hL)
  refine⟨a',b',s4,?_,k.trans k4,by rw[q4];simp⟩
  rw[List.map_cons,lE]
  rw[show KG [2,3] (pw p) (R4 W d a b)=some (R4 W d (some (.int p.1)) (some (.int p.2))) from rfl]
  dsimp only
  rw[bd]
  simp only[if_pos (k.lst hl hL)]
  exact e4
theorem rb{W:Nat}{ws:List Wo}{st:Hs}(hW:af st W=some (ws.map Wo.w))(n1:1<=ws.length)(n2:ws.length<=99):∃st',du [.ref W] st= .ok (.ref st.length) st'/\Gr st st'/\st'[st.length]? =some (.bh ((nodes ws.length).map (ent ws))):=by
 have q1:(st++[.bh []])[st.length]? =some (.bh (([]:List Nd).map (ent ws))):=cb
 have g1:Gr st (st++[.bh []]):=Gr.push
 have b1:aC 1 lJ [some (.ref W),none,none,none] st= .nx (R4 W st.length none none) (st++[.bh []]):=by simp[lJ]
 generalize st++[.bh []]=s1 at q1 g1 b1
 have w1:=g1.lst hW
 have ln:=vN w1
 rw[List.length_map] at ln
 obtain⟨L,s2,e2,g2,l2⟩:=qb (m:=(ws.length:Nat)) (st:=s1) (by omega) (by omega)
 have q2:=g2.get q1
 have lt:=bZ hW
 have hL:L≠st.length:=λz=>by
  rw[z] at l2
  unfold af at l2
  rw[q2] at l2
  cases l2
 obtain⟨a,b,s3,e3,k3,q3⟩:=uk (W:=W) (L:=L) (d:=st.length) (ws:=ws) (all:=(nodes ws.length).map pw) hL (by omega) n2 (nodes ws.length) [] none none s2 (by rw[List.nil_append];exact iR (by omega) (by omega)) (by
  have:=dA (m:=(ws.length:Nat)) (by omega) (by omega)
  rw[List.nil_append]
  omega) (λp hp=>gA (by omega) (by omega) hp) q2 (g2.lst w1) l2
 have b2:sA [2,3] (ax 1 bI (aa (ao fJ (aa (ae 0) ai)) ai)) cH (R4 W st.length none none) s1= .nx (R4 W st.length a b) s3:=by
  unfold sA
  simp[ln,e2,l2,e3]
 refine⟨s3,?_,Gr.dt (Nat.le_refl _) (g1.trans g2) k3,by rw[List.nil_append] at q3;exact q3⟩
 refine jo (n:=4) (g:=hU) ?_
 unfold hU
 refine(aX b1).trans ((aX b2).trans ?_)
 simp
def hx(x:Int)(p:Nd):Bool:=decide (p.1<=x)&&decide (x < p.2)
theorem Fw{x:Int}{p:Nd}(hp:p.1 < p.2)(h:hx x p=false):(kids p).filter (hx x)=[]:=by
 rw[List.filter_eq_nil_iff]
 intro q hq z
 obtain⟨w1,w2,w3⟩:=jc hp hq
 unfold hx at h z
 simp only[Bool.and_eq_true,decide_eq_true_eq] at z
 simp only[Bool.and_eq_false_iff,decide_eq_false_iff_not] at h
 omega
theorem rf{x:Int}:∀{l:List Nd},(∀p∈l,p.1 < p.2)->(l.flatMap kids).filter (hx x)=(l.filter (hx x)).flatMap λp=>(kids p).filter (hx x)
 | [],_=>rfl
 | p::r,h=>by
  rw[List.flatMap_cons,List.filter_append,rf λq hq=>h q (List.mem_cons_of_mem _ hq),List.filter_cons]
  cases c:hx x p with
  | true=>rw[if_pos rfl,List.flatMap_cons]
  | false=>rw[if_neg (by decide),Fw (h p List.mem_cons_self) c,List.nil_append]
theorem Fx{x:Int}{p:Nd}(h:hx x p=true)(w:1 < p.2 - p.1):(kids p).filter (hx x)=[if x < md p.1 p.2 then(p.1,md p.1 p.2) else(md p.1 p.2,p.2)]:=by
 unfold hx at h
 simp only[Bool.and_eq_true,decide_eq_true_eq] at h
 unfold kids
 rw[if_pos w]
 by_cases c:x < md p.1 p.2
 ·have c1:hx x (p.1,md p.1 p.2)=true:=by unfold hx;simp[h.1,c]
  have c2:hx x (md p.1 p.2,p.2)=false:=by unfold hx;simp;intro z;omega
  rw[if_pos c,List.filter_cons,if_pos c1,List.filter_cons,if_neg (by rw[c2];decide),List.filter_nil]
 ·have c1:hx x (p.1,md p.1 p.2)=false:=by unfold hx;simp;intro _;omega
  have c2:hx x (md p.1 p.2,p.2)=true:=by unfold hx;simp;omega
  rw[if_neg c,List.filter_cons,if_neg (by rw[c1];decide),List.filter_cons,if_pos c2,List.filter_nil]
theorem xC{x:Int}:∀(n:Nat){l:List Nd},(∀p∈l,p.1 < p.2)->l.filter (hx x)=[]->(nd n l).filter (hx x)=[]
 | 0,_,_,_=>rfl
 | n+1,l,hp,h=>by
  have IB:∀q∈l.flatMap kids,q.1 < q.2:=λq hq=>by
   obtain⟨y,hy,hq⟩:=List.mem_flatMap.mp hq
   exact(jc (hp y hy) hq).1
  show(l++nd n (l.flatMap kids)).filter (hx x)=[]
  rw[List.filter_append,h,xC n IB (by rw[rf hp,h];rfl)]
  rfl
theorem CW{x:Int}:∀(n:Nat){l:List Nd}{p:Nd},(∀q∈l,q.1 < q.2)->l.filter (hx x)=[p]->(nd (n+1) l).filter (hx x)=iq n p x
 | 0,l,p,hp,h=>by
  show(l++[]).filter (hx x)=[p]
  rw[List.append_nil,h]
 | n+1,l,p,hp,h=>by
  have IB:∀q∈l.flatMap kids,q.1 < q.2:=λq hq=>by
   obtain⟨y,hy,hq⟩:=List.mem_flatMap.mp hq
   exact(jc (hp y hy) hq).1
  have pm:p∈l.filter (hx x):=by rw[h];exact List.mem_singleton.mpr rfl
  have px:=(List.mem_filter.mp pm).2
  have fl:(l.flatMap kids).filter (hx x)=(kids p).filter (hx x):=by rw[rf hp,h,List.flatMap_cons,List.flatMap_nil,List.append_nil]
  show(l++nd (n+1) (l.flatMap kids)).filter (hx x)=p::_
  rw[List.filter_append,h]
  by_cases w:1 < p.2 - p.1
  ·rw[if_pos w,CW n IB (by rw[fl,Fx px w])]
   by_cases c:x < md p.1 p.2
   ·rw[if_pos c,if_pos c];rfl
   ·rw[if_neg c,if_neg c];rfl
  ·rw[if_neg w,xC (n+1) IB (by rw[fl];unfold kids;rw[if_neg w];rfl)]
   rfl
theorem zg{m x:Int}(x0:0<=x)(x1:x < m):(nodes m).filter (hx x)=iq 7 (0,m) x :=
 CW 7 (λq hq=>by rw[List.mem_singleton.mp hq];show(0:Int) < m;omega) (by
  have:hx x ((0,m):Nd)=true:=by unfold hx;simp[x0,x1]
  rw[List.filter_cons,if_pos this,List.filter_nil])
def hw(x:Int):Wv->Bool
 | .tup [.int a,.int b]=>decide (a<=x)&&decide (x < b)
 | _=>false
theorem CY{x:Int}:∀ps:List Nd,(ps.map pw).filter (hw x)=(ps.filter (hx x)).map pw
 | []=>rfl
 | p::r=>by
  have e:hw x (pw p)=hx x p:=rfl
  rw[List.map_cons,List.filter_cons,List.filter_cons,CY r,e]
  split<;>rfl
theorem Fy{m x:Int}{st:Hs}(h1:1<=m)(h2:m<=99)(x0:0<=x)(x1:x < m):∃A st',h_ [.int m,.int x] st= .ok (.ref A) st'/\Gr st st'/\af st' A=some ((iq 7 (0,m) x).map pw):=by
 obtain⟨L,s1,e1,g1,l1⟩:=qb (st:=st) h1 h2
 have nl:=dA h1 h2
 have cp:=eT (cs:=[("number",1)]) (gt:=dh) (ge:=fv) (ρ:=[some (.int m),some (.int x)]) (w:=(some L,(nodes m).map pw)) (st:=s1) (t:=hw x) (f:=id) l1
  (λv hv acc=>by
   obtain⟨p,_,rfl⟩:=List.mem_map.mp hv
   have e:hw x (pw p)=hx x p:=rfl
   rw[e]
   unfold dh hx
   by_cases c:p.1<=x
   ·simp[gn,M5,KQ,c]
   ·simp[gn,M5,KQ,c])
  (λv hv _ acc=>rfl) (by show((nodes m).map pw).length < lim;rw[List.length_map];unfold lim;omega)
 have QM:bQ [("number",1)] dh fv [some (.int m),some (.int x)] (some L,(nodes m).map pw) s1= .ok (.ref s1.length) (s1++[.lst ((iq 7 (0,m) x).map pw)]):=by
  rw[cp,List.map_id,CY,zg x0 x1]
 refine⟨s1.length,s1++[.lst ((iq 7 (0,m) x).map pw)],?_,g1.trans Gr.push,au⟩
 refine jo (n:=2) (g:=hZ) ?_
 unfold hZ
 simp[e1,gM l1,QM]
theorem Fz{d:Nat}{ws:List Wo}{kvs:Ks}{x:Int}{w:Wv}{st:Hs}(h:st[d]? =some (.bh kvs))(hi:HI ws kvs)(m1:1<=ws.length)(m2:ws.length<=99)(hn:¬(0<=x/\x < ws.length)):∃st',bx [.ref d,.int x,w] st= .err "BadCount" st'/\Gr st st':=by
 obtain⟨s1,e1,g1⟩:=xy h hi m1 m2
 refine⟨s1,?_,g1⟩
 refine JU (n:=7) (g:=cz) (ρ:=[some (.ref d),some (.int x),some w,some (.int (ws.length:Nat)),none,none,none]) ?_
 unfold cz
 by_cases c1:0<=x
 ·have c2:¬x < ((ws.length:Nat):Int):=λz=>hn ⟨c1,z⟩
  simp[e1,c1,c2,lim]
 ·simp[e1,c1,lim]
theorem refusal{d:Nat}{ws:List Wo}{kvs:Ks}{x:Int}{st:Hs}(h:st[d]? =some (.bh kvs))(hi':HI ws kvs)(m1:1<=ws.length)(m2:ws.length<=99)(hn:¬(0<=x/\x < ws.length)):∃(l:Nat)(st':Hs),dg [.ref d,.int x] st= .ok (.ref l) st'/\af st' l=some [.int 8,.int 15]/\Gr st st':=by
 obtain⟨s1,hs1⟩:∃s1,st++[Ob.lst []]=s1:=⟨_,rfl⟩
 have g1:Gr st s1:=by rw[<-hs1];exact Gr.push
 obtain⟨s0,cn,g0⟩:=Fz (w:=.int 1) (g1.get h) hi' m1 m2 hn
 obtain⟨l,s2,e2,l2,g2⟩:=kinds (st:=s0)
 have tc:CH.lookup (("BadCount":PySem.Str),("SheetError":PySem.Str))=some true:=by decide+kernel
 have bd:de [some (.ref d),some (.int x),some (.ref st.length),none] s1= .err "BadCount" [some (.ref d),some (.int x),some (.ref st.length),none] s0:=by
  unfold de
  simp[cn]
 have su:bR [some (.ref d),some (.int x),some (.ref st.length),some (.fA "BadCount")] s0= .nx [some (.ref d),some (.int x),some (.ref l),some (.fA "BadCount")] s2:=by
  unfold bR
  simp[e2]
 have tr:=Cu (cat:=λy=>CH.lookup (y,("SheetError":PySem.Str))) (i:=3) (gs:=bR) (ρ:=[some (.ref d),some (.int x),some (.ref st.length),none]) (st:=s0) tc su
 refine⟨l,s2,?_,l2,g1.trans (g0.trans g2)⟩
 refine jo (n:=4) (g:=df) ?_
 unfold df
 simp[hs1,bd,tr]
def dP(p:Nd):PyData:=.tuple [.int p.1,.int p.2]
theorem rh{st:Hs}{n:Nat}:∀ps:List Nd,ip (aS st (n+2)) (ps.map pw)=some (ps.map dP)
 | []=>rfl
 | p::r=>by
  rw[List.map_cons,ip,rh r]
  rfl
theorem CZ:∀ps:List Nd,PyData.eqvAll (ps.map dP) (ps.map dP)=true
 | []=>rfl
 | p::r=>by
  rw[List.map_cons]
  simp[PyData.eqvAll,CZ r,dP,PyData.eqv]
theorem Kd{ps:List Nd}{a b:Nat}{st:Hs}(h1:af st a=some (ps.map pw))(h2:af st b=some (ps.map pw)):wt (.ref a) (.ref b) st= .ok (.bl false) st:=by
 refine CA (d:=.list (ps.map dP)) ?_ ?_ ?_
 ·rw[xm h1,rh];rfl
 ·rw[xm h2,rh];rfl
 ·simpa [PyData.eqv] using CZ ps
theorem FA{p:Nd}{ps:List Nd}{a:Nat}{st:Hs}(h:af st a=some ((p::ps).map pw)):st[a]? =some (.lst ((p::ps).map pw)):=by
 unfold af at h
 cases q:st[a]? with
 | none=>rw[q] at h;cases h
 | some o=>
  rw[q] at h
  cases o with
  | lst ws=>injection h with h;rw[h]
  | jW ns=>
   injection h with h
   cases ns with
   | nil=>cases h
   | cons n r=>injection h with h _;cases h
  | _=>cases h
theorem M'{a:Nat}{ws:List Wv}{st:Hs}(h:st[a]? =some (.lst ws)):EU (.ref a) st= .ok .aF (st.set a (.lst [])):=by
 show(match st[a]? with | some (.lst _)=>Re.ok Wv.aF (st.set a (.lst [])) | some (.bh _)=> .ok .aF (st.set a (.bh [])) | _=> .bad)=_
 rw[h]
theorem zh{ws:List Wo}{a:Wo}{x:Nat}(h:x < ws.length):ws.take x++[a]++ws.drop (x+1)=ws.set x a:=by
 rw[List.set_eq_take_append_cons_drop,if_pos h]
 simp
theorem Na{l:Nat}{ws:List Wv}{st:Hs}(h:af st l=some ws):oH cJ aY [.ref l,.ty "list"] st= .ok (.bl true) st:=by
 have e:Aw [.ref l,.ty "list"] st= .ok (.bl true) st:=by
  unfold Aw
  dsimp only
  rw[if_pos (show yf "list"=true from rfl)]
  have e0:L3 st "list" (.ref l)=some true:=by
   show(af st l).map _=_
   rw[h]
   rfl
  rw[e0]
 show(if "list"="dict"/\(jB st[l]?).isSome=true then Re.ok (Wv.bl true) st else Aw [.ref l,.ty "list"] st)=_
 rw[if_neg (λz=>absurd z.1 (by decide)),e]
abbrev uu(v:Int)(m W d f L:Nat)(o7 o8 o9 vS um zq:Option Wv):aT:=[some (.ref 0),some (.int v),some (.int (m:Nat)),some (.ref W),some (.ref d),some (.ref f),some (.ref L),o7,o8,o9,vS,um,zq]
theorem changed{W:Nat}{ws:List Wo}{a:Wo}{x:Int}{st:Hs}(hW:af st W=some (ws.map Wo.w))(m2:ws.length<=99)(x0:0<=x)(x1:x < ws.length){ρ:aT}(r3:ρ[3]? =some (some (.ref W)))(r8:ρ[8]? =some (some (.int x)))(r9:ρ[9]? =some (some a.w)) :
  ∃(C:Nat)(st':Hs),aj b8 (aj b8 (dB (ae 3) fG (jm (ae 8))) (bM (aa (ae 9) ai))) (dB (ae 3) (jm (aj b8 (ae 8) (gC (.int 1)))) fG) ρ st= .ok (.ref C) st'/\Gr st st'/\af st' C=some ((ws.set x.toNat a).map Wo.w)/\st.length<=C:=by
 have s1:=JV (lo:=none) (hi:=some x) hW
 rw[J5 x0 (by omega)] at s1
 have l1:=au (st:=st) (ws:=(ws.take x.toNat).map Wo.w)
 have g1:Gr st (st++[.lst ((ws.take x.toNat).map Wo.w)]):=Gr.push
 generalize st++[.lst ((ws.take x.toNat).map Wo.w)]=t1 at s1 l1 g1
 have k2:=vE (x0:=a.w) (st:=t1)
 have l2:=au (st:=t1) (ws:=[a.w])
 have g2:Gr t1 (t1++[.lst [a.w]]):=Gr.push
 generalize t1++[.lst [a.w]]=t2 at k2 l2 g2
 have a3:=add_l (g2.lst l1) l2 (by rw[List.length_map,List.length_take];show min x.toNat ws.length+1<=lim;unfold lim;omega)
 have l3:=au (st:=t2) (ws:=(ws.take x.toNat).map Wo.w++[a.w])
 have g3:Gr t2 (t2++[.lst ((ws.take x.toNat).map Wo.w++[a.w])]):=Gr.push
 generalize t2++[.lst ((ws.take x.toNat).map Wo.w++[a.w])]=t3 at a3 l3 g3
 have s4:=JV (lo:=some (x+1)) (hi:=none) ((g1.trans (g2.trans g3)).lst hW)
 rw[CL (by omega) (by omega)] at s4
 have l4:=au (st:=t3) (ws:=(ws.drop (x+1).toNat).map Wo.w)
 have g4:Gr t3 (t3++[.lst ((ws.drop (x+1).toNat).map Wo.w)]):=Gr.push
 generalize t3++[.lst ((ws.drop (x+1).toNat).map Wo.w)]=t4 at s4 l4 g4
 have a5:=add_l (g4.lst l3) l4 (by rw[List.length_append,List.length_map,List.length_map,List.length_take,List.length_drop];show min x.toNat ws.length+1+(ws.length - (x+1).toNat)<=lim;unfold lim;omega)
 have e5:(ws.take x.toNat).map Wo.w++[a.w]++(ws.drop (x+1).toNat).map Wo.w=(ws.set x.toNat a).map Wo.w:=by
  rw[<-zh (ws:=ws) (a:=a) (x:=x.toNat) (by omega),List.map_append,List.map_append,show(x+1).toNat=x.toNat+1 by omega]
  rfl
 rw[e5] at a5
 refine⟨t4.length,t4++[.lst ((ws.set x.toNat a).map Wo.w)],?_,g1.trans (g2.trans (g3.trans (g4.trans Gr.push))),au,(g1.trans (g2.trans (g3.trans g4))).1⟩
 simp[r3,r8,r9,s1,k2,a3,s4,a5]
theorem turn{ns xs:List Int}{W d f L k:Nat}{ws:List Wo}{kvs:Ks}{v:Int}{o8 o9 vS um zq:Option Wv}{st:Hs}(l0:af st 0=some (ns.map Wv.int))(hW:af st W=some (ws.map Wo.w))(hd:st[d]? =some (.bh kvs))(hi:HI ws kvs)(hf:st[f]? =some (.bh ((nodes ws.length).map (ent ws))))(hL:af st L=some (xs.map Wv.int))(hk:k < xs.length)(WD:k < 4)(hxs:∀x∈xs,0<=x/\x < (ws.length:Int))(m1:1<=ws.length)(m2:ws.length<=99) :
  ∃(p8 p9 QN QO:Option Wv)(st':Hs),kA (uu v ws.length W d f L (some (.int (k:Nat))) o8 o9 vS um zq) st= .nx (uu v ws.length W d f L (some (.int (k:Nat))) p8 p9 QN QO zq) st'/\Gr st st':=by
 have ix:bz (.ref L) (.int (k:Nat)) st= .ok (.int xs[k]) st:=jg hL (by
  refine L2.gE ?_
  rw[List.getElem?_map,List.getElem?_eq_getElem hk]
  rfl)
 obtain⟨x0,x1⟩:=hxs xs[k] (List.getElem_mem hk)
 generalize xs[k]=x at ix x0 x1
 have sm:=p6 l0
 obtain⟨v1,_,y1⟩:=mixed (st:=st) (c:=ns.sum+(k:Nat)) (k:=77) (by omega) (by omega)
 obtain⟨v2,_,y2⟩:=mixed (st:=st) (c:=v) (k:=(k:Nat)) (by omega) (by omega)
 have mu:cD (.int v1) (.int 2147483647) st= .ok (.int (v1 * 2147483647)) st:=mul_r (by decide) (by decide)
 have k1:=vE (x0:=.int (v1 * 2147483647+v2)) (st:=st)
 have q1:(st++[.lst [.int (v1 * 2147483647+v2)]])[st.length]? =some (.lst [.int (v1 * 2147483647+v2)]):=cb
 have g1:Gr st (st++[.lst [.int (v1 * 2147483647+v2)]]):=Gr.push
 generalize st++[.lst [.int (v1 * 2147483647+v2)]]=s1 at k1 q1 g1
 obtain⟨a,s2,e2,SK⟩:=worth q1
 have g2:Gr st s2:=Gr.dt (Nat.le_refl _) g1 SK
 obtain⟨e,P,WE,s3,e3,g3,he,Vo,hP,WG,WH⟩:=oh (x:=x) (a:=a) (g2.get hd) hi m1 m2 x0 x1
 have O_:=g2.1
 obtain⟨C,s4,e4,g4,hC,WI⟩:=changed (a:=a) (x:=x) ((g2.trans g3).lst hW) m2 x0 x1 (ρ:=uu v ws.length W d f L (some (.int (k:Nat))) (some (.int x)) (some a.w) (some (.tup [.ref e,.ref P])) um zq) rfl rfl rfl
 have le:(ws.set x.toNat a).length=ws.length:=List.length_set
 obtain⟨s5,e5,g5,q5⟩:=rb hC (by omega) (by omega)
 have h5:=g4.trans g5
 have n5:=(ra (h5.get he) q5 Vo (by omega) (by omega)).2
 obtain⟨A,s6,e6,g6,l6⟩:=Fy (m:=(ws.length:Nat)) (x:=x) (st:=s5) (by omega) (by omega) x0 x1
 have P6:=(h5.trans g6).lst hP
 have n6:=Kd P6 l6
 have ln:=vN P6
 rw[List.length_map] at ln
 have pl:=q_ 7 (0,((ws.length:Nat):Int)) x
 have Vp:¬(8:Int) < ((iq 7 (0,((ws.length:Nat):Int)) x).length:Nat):=by omega
 have h6:=h5.trans g6
 have QP:=g2.trans (g3.trans h6)
 have n7:=(ra (QP.get hd) (QP.get hf) hi m1 m2).2
 have SM:=h6.get he
 have SN:=M_ SM
 have WJ:=jF hd
 have kE:aR e s6 (s6.set e (.bh [])):=aR.set
 have Ux:=bZ P6
 obtain⟨p0,pr,Vq⟩:∃p0 pr,iq 7 (0,((ws.length:Nat):Int)) x=p0::pr:=⟨_,_,rfl⟩
 have Ke:=FA (by rw[Vq] at P6;exact P6)
 have Vr:P≠e:=λz=>by rw[z,SM] at Ke;cases Ke
 have GD:(s6.set e (.bh []))[P]? =some (.lst ((p0::pr).map pw)):=by rw[List.getElem?_set_ne (Ne.symm Vr)];exact Ke
 have Vs:=Na (h5.lst hP)
 generalize s6.set e (.bh [])=s7 at SN kE GD
 have SQ:=M' GD
 have kP:aR P s7 (s7.set P (.lst [])):=aR.set
 generalize s7.set P (.lst [])=s8 at SQ kP
 have SR:Gr st s8:=Gr.dt (by omega) (Gr.dt (by omega) QP kE) kP
 have C8:af s8 C=some ((ws.set x.toNat a).map Wo.w):=by
  have Vt:=bZ hP
  have Vu:=jF he
  have WK:=bZ hC
  exact kP.lst (kE.lst ((g5.trans g6).lst hC) (by omega)) (by omega)
 obtain⟨e',P',WL,s9,e9,g9,Vv,QQ,_,_,_⟩:=oh (x:=x) (a:=a) (SR.get hd) hi m1 m2 x0 x1
 obtain⟨Pe,Pg,L6,Vw⟩:=rb (g9.lst C8) (by omega) (by omega)
 have Vx:=(ra (L6.get Vv) Vw QQ (by omega) (by omega)).2
 refine⟨some (.int x),some a.w,some (.tup [.ref e,.ref P]),some (.ref C),Pe,?_,SR.trans (g9.trans L6)⟩
 have t0:∀s:Hs,bz (.tup [.ref e,.ref P]) (.int 0) s= .ok (.ref e) s:=λ_=>oI rfl
 have t1:∀s:Hs,bz (.tup [.ref e,.ref P]) (.int 1) s= .ok (.ref P) s:=λ_=>oI rfl
 have t2:bz (.tup [.ref e',.ref P']) (.int 0) s9= .ok (.ref e') s9:=oI rfl
 have it:oH cJ aY [.tup [.ref e,.ref P],.ty "tuple"] s4= .ok (.bl true) s4:=rfl
 have il:fJ [.tup [.ref e,.ref P]] s4= .ok (.int 2) s4:=by
  rfl
 have id':=M9 (tb:=cJ) (tt:=aY) (g4.get he)
 unfold kA
 refine(aX (ρ':=uu v ws.length W d f L (some (.int (k:Nat))) (some (.int x)) o9 vS um zq) (st':=st) (by simp[ix])).trans ?_
 refine(aX (ρ':=uu v ws.length W d f L (some (.int (k:Nat))) (some (.int x)) (some a.w) vS um zq) (st':=s2) (by simp[sm,y1,mu,y2,k1,e2])).trans ?_
 refine(aX (ρ':=uu v ws.length W d f L (some (.int (k:Nat))) (some (.int x)) (some a.w) (some (.tup [.ref e,.ref P])) um zq) (st':=s3) (by simp[e3])).trans ?_
 refine(aX (ρ':=uu v ws.length W d f L (some (.int (k:Nat))) (some (.int x)) (some a.w) (some (.tup [.ref e,.ref P])) (some (.ref C)) zq) (st':=s4) (by rw[MO,e4];rfl)).trans ?_
 refine(aX (st':=s4) (qc (by simp[it,il,t0,id']))).trans ?_
 refine(aX (st':=s5) (qc (by simp[t0,e5,n5]))).trans ?_
 refine(aX (st':=s6) (qc (by simp[t1,Vs,e6,n6,ln,Vp]))).trans ?_
 refine(aX (st':=s6) (qc (by simp[n7]))).trans ?_
 refine(aX (ρ':=uu v ws.length W d f L (some (.int (k:Nat))) (some (.int x)) (some a.w) (some (.tup [.ref e,.ref P])) (some (.ref C)) zq) (st':=s7) (by unfold vq;simp[t0,SN])).trans ?_
 refine(aX (ρ':=uu v ws.length W d f L (some (.int (k:Nat))) (some (.int x)) (some a.w) (some (.tup [.ref e,.ref P])) (some (.ref C)) zq) (st':=s8) (by unfold vq;simp[t1,SQ])).trans ?_
 exact qc (by simp[e9,t2,Pg,Vx])
theorem ints_of{m:Int}:∀{us:List Wv},(∀u∈us,∃i:Int,u= .int i/\0<=i/\i < m)->∃xs:List Int,us=xs.map Wv.int/\∀x∈xs,0<=x/\x < m
 | [],_=>⟨[],rfl,λ_ z=>by cases z⟩
 | u::r,h=>by
  obtain⟨i,rfl,i0,i1⟩:=h u List.mem_cons_self
  obtain⟨xs,rfl,hx⟩:=ints_of λw hw=>h w (List.mem_cons_of_mem _ hw)
  refine⟨i::xs,rfl,λx hx'=>?_⟩
  rcases List.mem_cons.mp hx' with rfl | z
  ·exact⟨i0,i1⟩
  ·exact hx x z
theorem drawn{ns:List Int}{m:Nat}{ρ:aT}{st:Hs}(hm:1<=m)(l0:af st 0=some (ns.map Wv.int))(hr:gn [("script",0),("many",2)] ρ=[some (.ref 0),some (.int (m:Nat))]):∃(xs:List Int)(st':Hs),bQ [("script",0),("many",2)] lg ja ρ (none,bS 0 2) st= .ok (.ref st.length) st'/\Gr st st'/\af st' st.length=some (xs.map Wv.int)/\xs.length=2/\∀x∈xs,0<=x/\x < (m:Int):=by
 have lt:=bZ l0
 obtain⟨s1,us,e1,k1,q1,h1,n1⟩:=p7 (w:=(none,bS 0 2)) (gt:=λv=>lg (some v::gn [("script",0),("many",2)] ρ)) (ge:=λv=>ja (some v::gn [("script",0),("many",2)] ρ)) (rr:=st.length)
  (λs=>aR st.length (st++[.lst []]) s) (λu=>∃i:Int,u= .int i/\0<=i/\i < (m:Int)) (λs acc h=>h.trans aR.set) (λ_ _=>trivial) (bS 0 2) (λv hv s acc hk hq=>by
   obtain⟨j,rfl,j0,j1⟩:=qL hv
   refine⟨s,rfl,hk,hq,?_⟩
   have Vy:=hk.lst (i9 l0) (by omega)
   have sm:=p6 Vy
   obtain⟨y,y0,e⟩:=mixed (st:=s) (c:=ns.sum) (k:=j) (by omega) (by omega)
   have mo:oMod (.int y) (.int (m:Nat)) s= .ok (.int (y.fmod (m:Int))) s:=kq (by omega)
   refine⟨.int (y.fmod (m:Int)),s,?_,⟨_,rfl,Int.fmod_nonneg_of_pos y (by omega),Int.fmod_lt_of_pos y (by omega)⟩,hk,hq⟩
   rw[hr]
   unfold ja
   simp[sm,e,mo]) [] (st++[.lst []]) aR.refl cb (by rw[dQ];show 0+2 < lim;unfold lim;omega) (λ_ z=>by cases z)
 obtain⟨xs,rfl,hx⟩:=ints_of h1
 rw[List.length_map,dQ] at n1
 refine⟨xs,s1,?_,Gr.dt (Nat.le_refl _) Gr.push k1,bj q1,by simpa using n1,hx⟩
 unfold bQ
 rw[e1]
theorem law_true:∀ns:List Int,ns.length<=63->∃st,F_law [.ref 0] [.jW ns]= .ok (.bl true) st:=by
 intro ns hn
 have l0:af [Ob.jW ns] 0=some (ns.map Wv.int):=rfl
 obtain⟨v,e1⟩:=qW l0 (k:=0) (Int.le_refl _)
 have d4:eX (.int v) (.int 4) [Ob.jW ns]= .ok (.int (v.fdiv 4)) [Ob.jW ns]:=nL ⟨by decide,by decide⟩
 have d2:eX (.int v) (.int 2) [Ob.jW ns]= .ok (.int (v.fdiv 2)) [Ob.jW ns]:=nL ⟨by decide,by decide⟩
 have Vz:oMod (.int (v.fdiv 4)) (.int 99) [Ob.jW ns]= .ok (.int ((v.fdiv 4).fmod 99)) [Ob.jW ns]:=kq (by decide)
 have m2:oMod (.int (v.fdiv 2)) (.int 2) [Ob.jW ns]= .ok (.int ((v.fdiv 2).fmod 2)) [Ob.jW ns]:=kq (by decide)
 have f0:=Int.fmod_nonneg_of_pos (v.fdiv 4) (b:=99) (by decide)
 have f1:=Int.fmod_lt_of_pos (v.fdiv 4) (b:=99) (by decide)
 obtain⟨m,hm⟩:=Int.eq_ofNat_of_zero_le (show 0<=1+(v.fdiv 4).fmod 99 by omega)
 obtain⟨ws,s1,e2,g1,q1,hl⟩:=JZ (b:=(v.fdiv 2).fmod 2 == 0) l0 (m:=m) (by omega)
 subst hl
 have yw:bK [.ref 0,.int (ws.length:Nat),.bl ((v.fdiv 2).fmod 2 == 0)] [Ob.jW ns]= .ok (.ref 1) s1:=e2
 have VA:s1[1]? =some (.lst (ws.map Wo.w)):=q1
 have n1:1<=ws.length:=by omega
 have n2:ws.length<=99:=by omega
 have w1:=bj VA
 obtain⟨kvs,s2,e3,g2,q2,hi⟩:=ug (W:=1) w1 n1 n2
 obtain⟨s3,e4,g3,q3⟩:=rb (g2.lst w1) n1 n2
 have k4:=vF (x0:=.int 0) (x1:=.int ((ws.length:Int) - 1)) (st:=s3)
 have l4:af (s3++[.lst [.int 0,.int ((ws.length:Int) - 1)]]) s3.length=some ([0,(ws.length:Int) - 1].map Wv.int):=au
 have g4:Gr s3 (s3++[.lst [.int 0,.int ((ws.length:Int) - 1)]]):=Gr.push
 generalize s3++[.lst [.int 0,.int ((ws.length:Int) - 1)]]=s4 at k4 l4 g4
 have VB:=g1.trans (g2.trans (g3.trans g4))
 obtain⟨xs,s5,e5,g5,l5,nx,hx⟩:=drawn (m:=ws.length) (ρ:=[some (.ref 0),some (.int v),some (.int (ws.length:Nat)),some (.ref 1),some (.ref s1.length),some (.ref s2.length),none,none,none,none,none,none,none]) n1 (VB.lst l0) rfl
 have a5:=add_l (g5.lst l4) l5 (by rw[List.length_map,List.length_map,nx];show 2+2<=lim;unfold lim;omega)
 rw[<-List.map_append] at a5
 have l6:=au (st:=s5) (ws:=([0,(ws.length:Int) - 1]++xs).map Wv.int)
 have g6:Gr s5 (s5++[.lst (([0,(ws.length:Int) - 1]++xs).map Wv.int)]):=Gr.push
 generalize s5++[.lst (([0,(ws.length:Int) - 1]++xs).map Wv.int)]=s6 at a5 l6 g6
 have SU:∀x∈[0,(ws.length:Int) - 1]++xs,0<=x/\x < (ws.length:Int):=λx z=>by
  rcases List.mem_append.mp z with z | z
  ·simp only[List.mem_cons,List.not_mem_nil,or_false] at z
   rcases z with rfl | rfl<;>omega
  ·exact hx x z
 have n4:([0,(ws.length:Int) - 1]++xs).length=4:=by rw[List.length_append,nx];rfl
 generalize [0,(ws.length:Int) - 1]++xs=pl at a5 l6 SU n4
 have QR:=g2.trans (g3.trans (g4.trans (g5.trans g6)))
 have QS:=g3.trans (g4.trans (g5.trans g6))
 have SV:=g4.trans (g5.trans g6)
 have cn:je (4:Int):=Cz (by omega) (by omega)
 have VC:je (2:Int):=Cz (by omega) (by omega)
 obtain⟨ρ7,s7,e7,o7,o8,o9,vS,um,rfl,g7⟩:=xl (i:=7) (gb:=kA) (λ_ ρ st=>∃o7 o8 o9 vS um,ρ=uu v ws.length 1 s1.length s2.length s5.length o7 o8 o9 vS um none/\Gr s6 st) (bS 0 4) 0
  (uu v ws.length 1 s1.length s2.length s5.length none none none none none none) s6 ⟨_,_,_,_,_,rfl,Gr.refl⟩ λj w hw ρ st hP=>by
   obtain⟨o7,o8,o9,vS,um,rfl,g⟩:=hP
   have hj:=(List.getElem?_eq_some_iff.mp hw).1
   rw[dQ] at hj
   rw[pG hj] at hw
   cases hw
   rw[Int.zero_add]
   obtain⟨p8,p9,QN,QO,st',et,g'⟩:=turn (k:=j) (W:=1) (d:=s1.length) (f:=s2.length) (L:=s5.length) (v:=v) (o8:=o8) (o9:=o9) (vS:=vS) (um:=um) (zq:=none) (((g1.trans QR).trans g).lst l0) ((QR.trans g).lst w1) ((QS.trans g).get q2) hi ((SV.trans g).get q3) (g.lst l6) (by rw[n4];exact hj) hj SU n1 n2
   exact⟨_,st',et,_,p8,p9,QN,QO,rfl,g.trans g'⟩
 have VD:=g1.trans (QR.trans g7)
 have sm:=p6 (VD.lst l0)
 have SX:rZ (.int 10) (.int 30) s7= .ok (.int (10 ^ (30:Int).toNat)) s7:=Gq (by decide)
 have mf:oMod (.int ns.sum) (.int (10 ^ (30:Int).toNat)) s7= .ok (.int (ns.sum.fmod (10 ^ (30:Int).toNat))) s7:=kq (by decide)
 have f3:=Int.fmod_nonneg_of_pos ns.sum (b:=10 ^ (30:Int).toNat) (by decide)
 generalize ns.sum.fmod (10 ^ (30:Int).toNat)=GF at mf f3
 generalize (10:Int) ^ (30:Int).toNat=WM at SX mf
 obtain⟨qs,QT⟩:∃qs:List Int,qs=[-1,(ws.length:Int),-1 - GF,(ws.length:Int)+GF]:=⟨_,rfl⟩
 have bad:∀q∈qs,¬(0<=q/\q < (ws.length:Int)):=λq hq=>by
  rw[QT] at hq
  simp only[List.mem_cons,List.not_mem_nil,or_false] at hq
  rcases hq with rfl | rfl | rfl | rfl<;>omega
 have k8:=cU (ws:=qs.map Wv.int) (st:=s7) (by rw[List.length_map,QT];show 4<=lim;unfold lim;omega)
 have l8:=au (st:=s7) (ws:=qs.map Wv.int)
 have g8:Gr s7 (s7++[.lst (qs.map Wv.int)]):=Gr.push
 generalize s7++[.lst (qs.map Wv.int)]=s8 at k8 l8 g8
 have d8:=(QS.trans (g7.trans g8)).get q2
 obtain⟨ρ9,s9,e9,⟨⟨p8,rfl⟩,g9⟩,_⟩:=nM Wv.int (i:=8) (gb:=ku) (l:=s7.length) (all:=qs.map Wv.int) qs
  (λ_ ρ s=>(∃p8,ρ=uu v ws.length 1 s1.length s2.length s5.length o7 p8 o9 vS um (some (.int GF)))/\Gr s8 s) (by
   rintro q pre post _ s hf ⟨⟨p8,rfl⟩,g⟩ hs
   obtain⟨l,t1,r1,r2,r3⟩:=refusal (x:=q) (g.get d8) hi n1 n2 (bad q (by rw[hf];simp))
   have SK:=vF (x0:=.int 8) (x1:=.int 15) (st:=t1)
   have ne:=Ka (st:=t1++[.lst [.int 8,.int 15]]) (Gr.push.lst r2) au
   have gt:Gr s (t1++[.lst [.int 8,.int 15]]):=r3.trans Gr.push
   refine⟨uu v ws.length 1 s1.length s2.length s5.length o7 (some (.int q)) o9 vS um (some (.int GF)),t1++[.lst [.int 8,.int 15]],?_,gt.lst hs,⟨_,rfl⟩,g.trans gt⟩
   show ku (uu v ws.length 1 s1.length s2.length s5.length o7 (some (.int q)) o9 vS um (some (.int GF))) s=_
   unfold ku
   refine qc ?_
   simp[r1,ne]) qs [] (uu v ws.length 1 s1.length s2.length s5.length o7 o8 o9 vS um (some (.int GF))) s8 rfl ⟨⟨_,rfl⟩,Gr.refl⟩ l8
 have gx:=g7.trans (g8.trans g9)
 have eq:=(ra ((QS.trans gx).get q2) ((SV.trans gx).get q3) hi n1 n2).1
 refine⟨s9,jo (n:=13) (g:=xo) ?_⟩
 have hm':1+(v.fdiv 4).fmod 99=(ws.length:Int):=hm
 have VE:gL [.int (-1),.int (ws.length:Nat),.int (-1 - GF),.int ((ws.length:Int)+GF)] s7= .ok (.ref s7.length) s8:=by
  rw[QT] at k8
  exact k8
 have r2:=Cw (j:=2) (st:=s4) VC
 unfold uu at e7 e9
 unfold xo
 simp[e1,d4,Vz,hm',d2,m2,yw,e3,e4,k4,r2,e5,a5,cn,e7,sm,SX,mf,VE,qK l8,e9,eq]
end K83
namespace PySem.W.Fast
def tw16564089884065384591:=()
def tw15683966732688168535:=()
def tw641175951565063106:=()
def tw11729155168532356856:=()
def tw7728064534177868424:=()
def tw2144628796495707837:=()
def tw12247561529493734766:=()
def tw17775072926747039235:=()
def tw13412731013506215048:=()
def tw5345587283818016165:=()
def tw3569751461137211372:=()
def tw1494250309495271357:=()
def tw7959063244856370386:=()
def tw5923587175315825407:=()
def tw12587701344156659396:=()
def tw17316220257990781086:=()
def tw5614190627618294648:=()
def tw1746798344662352730:=()
def tw5574620622643337196:=()
def tw16866306994919353870:=()
def tw636657673854948902:=()
def tw9648061351078847373:=()
def tw6780914312638982131:=()
def tw13969554591663717071:=()
def tw2354548345055194014:=()
def tw8568836511909174530:=()
def tw12239970713497475023:=()
def tw17221395789088263944:=()
def tw7062345806956410680:=()
def tw17486436995692216218:=()
def tw10039131418165175388:=()
def tw6260806739451728928:=()
def tw4524902089732556971:=()
def tw13380133938452219794:=()
def tw2505045504184522967:=()
def tw3328918465836605615:=()
def tw15009915715920287851:=()
def tw14670039212005677090:=()
def tw13008457589047483337:=()
def tw3904376560783700239:=()
def tw18301387883784289165:=()
def tw13261085358859978875:=()
def tw13216880382933644564:=()
def tw5105367381360546618:=()
def tw4212620994905025021:=()
def tw1213862579426404573:=()
def tw2929552963970491879:=()
def tw4607586791804748637:=()
def tw11383560258420470747:=()
def tw8481612111045866834:=()
def tw1732919043501784055:=()
def tw2813066506793922076:=()
def tw15958057835997490692:=()
def tw16437130752814702483:=()
def tw6833865881951259100:=()
def tw17332785709640834052:=()
def tw14740577671114518356:=()
def tw8565410769815689467:=()
def tw8173652180462344921:=()
def tw11936692109157480696:=()
def tw16813136475531316187:=()
def tw863465351534390095:=()
def tw8003086639880519680:=()
def tw3908726227070378832:=()
def tw6243279916483724611:=()
def tw5864598038109593054:=()
def tw11596345819863159744:=()
def tw5336058992198058843:=()
def tw16891374280779711258:=()
def tw2536795084108491111:=()
def tw5016074676820033457:=()
def tw9600009610607958179:=()
def tw17743202482434984296:=()
def tw2822368206095968185:=()
def tw2463050600702113305:=()
def tw12429409267510766058:=()
def tw11310652624937859184:=()
def tw1483366151052077501:=()
def tw3532671893786515398:=()
def tw15346684399325483736:=()
def tw6378155908858948974:=()
def tw10969124398833738272:=()
def tw5547978987320275788:=()
def tw17452254555174706910:=()
def tw13395784155738396162:=()
def tw18368028652793337710:=()
def tw5535930184501617610:=()
def tw11870951573619121258:=()
def tw9669831376320557118:=()
def tw949638778294619518:=()
def tw12045586296540443302:=()
def tw261034856785797605:=()
def tw15634728801299668476:=()
def tw3439952334587935758:=()
def tw7384273510396276298:=()
def tw8262794184668576222:=()
def tw6611697498028383543:=()
def tw11203898082493228470:=()
def tw14258415123779388834:=()
def tw13532067715080196072:=()
def tw12694334210554332499:=()
def tw13826391515001379866:=()
def tw8336678699930747805:=()
def tw8973791508366900991:=()
def tw15125593157014561328:=()
def tw14666841152211440701:=()
def tw17920029285741702573:=()
def tw11180414609407237137:=()
def tw3341662275843392198:=()
def tw6715695684300582962:=()
def tw2874406668237501732:=()
def tw3294697225184034741:=()
def tw15472778495478514948:=()
def tw14320850385455425675:=()
def tw15296171961285276033:=()
def tw2874228994693871154:=()
def tw15527215332271016981:=()
def tw2805712123913325135:=()
def tw16565784441991523099:=()
def tw5181870112283508584:=()
def tw4111001703115737771:=()
def tw13264440566265023397:=()
def tw7897143237054650421:=()
def tw6002976903662043535:=()
def tw4939759916408650443:=()
def tw1789196841250525414:=()
def tw18245907455615987409:=()
def tw6988978831608452085:=()
def tw2707046416711705097:=()
def tw7876903273471625700:=()
def tw17061162671713750692:=()
def tw5476988256254600099:=()
def tw12013671505283508303:=()
def tw13185183669859181735:=()
def tw4046017765661809378:=()
def tw964022474723697694:=()
def tw6918337407693727799:=()
def tw12497868393758290519:=()
def tw3644583842170936284:=()
def tw13954663367301343177:=()
def tw196718192811410074:=()
def tw17452907047448817235:=()
def tw17041913322152611813:=()
def tw15788743302221049776:=()
def tw18347195795534714646:=()
def tw9228827250365456440:=()
def tw10304000726794788937:=()
def tw13456957460079972513:=()
def tw6441353353654709077:=()
def tw15597287942347707828:=()
def tw5011928112743038942:=()
def tw3974244421606689315:=()
def tw6236613769976140559:=()
def tw16003855010012886420:=()
def tw5436123704986365603:=()
def tw10147970257431838165:=()
def tw2245214170608996943:=()
def tw8565627097556925456:=()
def tw13152872131886981945:=()
def tw5430233167165316520:=()
def tw6832614540178136135:=()
def tw9799655602257889447:=()
def tw9829728303567162978:=()
def tw9991773821442092019:=()
def tw15112318560289803523:=()
def tw14186421752290386734:=()
def tw625111001508992381:=()
def tw17271784919540747459:=()
def tw15905670320210921844:=()
def tw9581181218783388112:=()
def tw3319066759180070272:=()
def tw9851982626061974442:=()
def tw2831141936442897372:=()
def tw13305023160980809202:=()
def tw14184622624365687295:=()
def tw893485835703149417:=()
def tw17929213926616754381:=()
def tw466212116134002645:=()
def tw16894801116538240562:=()
def tw591696712316658036:=()
def tw6002524991450799433:=()
def tw5616870706761686393:=()
def tw873162456553613552:=()
def tw6430982854659327135:=()
def tw2057293120148026018:=()
def tw3726600475067741420:=()
def tw17341162622865098264:=()
def tw10113482089880745173:=()
def tw11887257531814131099:=()
def tw4393513691514076378:=()
def tw1622176871524829341:=()
def tw15518785959254465958:=()
def tw7733143402445954524:=()
def tw4698977451364288760:=()
def tw2339678054506015081:=()
def tw18182696824213016396:=()
def tw6696516940239520695:=()
def tw2324079038237215265:=()
def tw1030581563424488422:=()
def tw14223306401926255688:=()
def tw15948982929915986146:=()
def tw11690904006393467299:=()
def tw2962746291287569355:=()
def tw10771085583635050395:=()
def tw4045157088080820283:=()
def tw17834360037376409121:=()
def tw11094498782695350791:=()
def tw13935765943917155203:=()
def tw3341178183377373891:=()
def tw5330782334365797098:=()
def tw1473716655548798770:=()
def tw14210676813964740346:=()
def tw1356064351483835149:=()
end PySem.W.Fast
namespace K83
open PySem PySem.W PyProof.Rows
set_option maxHeartbeats 0 in
open_top head for PySem.Challenge.rw_onelook_k83_worths_put_in
end K83
namespace K83
open PySem J
open L2 (defScope defBody defArgs FnScope CX0 FnOk XK Hp)
theorem all_mk {l:PySem.W.OpenLaw} {w:World} {K:PySem.W.Frag} {h:Heap} {mg:Str → Option Value} {fa:Addr} (X:K.In h) (G:h.Ns mainGlobals mg) (hfa:mg "law" = some (.ref fa))
        {tk0:Tok} {X0 X1 X2 X3 X4 X5 X6 X7 X8 X9 Nb Nc Nf Ng Nh Kf:WN}
    (d1:J.bo K "_law_cell_at" cV)
    (d2:J.bo K "_law_digit" eF)
    (d3:J.bo K "_law_worth" eG)
    (d4:J.bo K "_law_mixed" eI)
    (d5:J.bo K "_law_row_of" dC)
    (d6:J.bo K "_law_worths" dD)
    (d7:J.bo K "check_many" eJ)
    (d8:J.bo K "is_single" fM)
    (d9:J.bo K "halves_of" fN)
    (QU:J.bo K "level_under" dE)
    (QV:J.bo K "nodes_under" dF)
    (QW:J.bo K "is_fault" gW)
    (QX:J.bo K "tally_of" gY)
    (QY:J.bo K "put_together" cW)
    (QZ:J.bo K "joined_halves" cM)
    (Q0:J.bo K "made_halves" dH)
    (Q1:J.bo K "_law_nodes" eK)
    (Q2:J.bo K "_law_tally" eM)
    (Q3:J.bo K "_law_due" hJ)
    (Q4:J.bo K "many_in" i_)
    (Q5:J.bo K "nodes_down_to" cN)
    (Q6:J.bo K "with_worth" eN)
    (Oc:J.bo K "_law_kinds" cX)
    (Q7:J.bo K "_law_refusal" c_)
    (Q8:J.bo K "_law_way" hX)
    (Q9:J.bo K "law" xn)
    (z0:PySem.W.nsIn K W5 "len"=some none)
    (z1:PySem.W.nsIn K W5 "range"=some none)
    (z2:PySem.W.nsIn K W5 "sum"=some none)
    (z3:PySem.W.nsIn K W5 "isinstance"=some none)
    (z4:PySem.W.nsIn K W5 "tuple"=some none)
    (z5:PySem.W.nsIn K W5 "min"=some none)
    (z6:PySem.W.nsIn K W5 "max"=some none)
    (z7:PySem.W.nsIn K W5 "int"=some none)
    (z8:PySem.W.nsIn K W5 "reversed"=some none)
    (z9:PySem.W.nsIn K W5 "sorted"=some none)
    (IG:PySem.W.nsIn K W5 "dict"=some none)
    (IH:PySem.W.nsIn K W5 "ValueError"=some none)
    (II:PySem.W.nsIn K W5 "list"=some none)
    (v0:PySem.W.nsIn K W5 "MOST_WORTHS"=some (some (.int 99 tk0)))
    (kG:PySem.W.nsIn K W5 "BadCount"=some (some (.ref X0))) (oq:PySem.W.excIn K X0 yj yk=true) (rj:PySem.W.findIn K (.ref X0) "__getattribute__"=some (some (.builtin "BaseException.__getattribute__"))) (rl:PySem.W.findIn K (.ref X0) "__getattr__"=some none) (rn:PySem.W.findIn K (.ref X0) "__class__"=some (some (.builtin "object.__class__")))
    (Kh:PySem.W.nsIn K W5 "BadPlace"=some (some (.ref X1)))
    (Ki:PySem.W.nsIn K W5 "BadArea"=some (some (.ref X2)))
    (Kj:PySem.W.nsIn K W5 "BadText"=some (some (.ref X3)))
    (Kk:PySem.W.nsIn K W5 "BadFormula"=some (some (.ref X4)))
    (Kl:PySem.W.nsIn K W5 "BadContent"=some (some (.ref X5)))
    (Km:PySem.W.nsIn K W5 "Full"=some (some (.ref X6)))
    (Kn:PySem.W.nsIn K W5 "NoCell"=some (some (.ref X7)))
    (Ko:PySem.W.nsIn K W5 "NotWaiting"=some (some (.ref X8)))
    (Kp:PySem.W.nsIn K W5 "NoRoom"=some (some (.ref X9)))
    (vT:PySem.W.nsIn K W5 "BadTable"=some (some (.ref Nb)))
    (vU:PySem.W.nsIn K W5 "NoTable"=some (some (.ref Nc)))
    (vV:PySem.W.nsIn K W5 "NoColumn"=some (some (.ref Nf)))
    (vW:PySem.W.nsIn K W5 "NoDeed"=some (some (.ref Ng)))
    (vX:PySem.W.nsIn K W5 "Clash"=some (some (.ref Nh)))
    (zi:PySem.W.nsIn K W5 "SheetError"=some (some (.ref Kf))) (FC:PySem.W.excIn K Kf yj yk=true)
    (Q_:PySem.W.kitOne K (.ref X0) (.ref X0)=some true)
    (Ra:PySem.W.kitOne K (.ref X0) (.ref X1)=some false)
    (Rb:PySem.W.kitOne K (.ref X0) (.ref X2)=some false)
    (Rc:PySem.W.kitOne K (.ref X0) (.ref X3)=some false)
    (Rf:PySem.W.kitOne K (.ref X0) (.ref X4)=some false)
    (Rg:PySem.W.kitOne K (.ref X0) (.ref X5)=some false)
    (Rh:PySem.W.kitOne K (.ref X0) (.ref X6)=some false)
    (Ri:PySem.W.kitOne K (.ref X0) (.ref X7)=some false)
    (Rj:PySem.W.kitOne K (.ref X0) (.ref X8)=some false)
    (Rk:PySem.W.kitOne K (.ref X0) (.ref X9)=some false)
    (Kq:PySem.W.kitOne K (.ref X0) (.ref Nb)=some false)
    (Kr:PySem.W.kitOne K (.ref X0) (.ref Nc)=some false)
    (Kt:PySem.W.kitOne K (.ref X0) (.ref Nf)=some false)
    (Ku:PySem.W.kitOne K (.ref X0) (.ref Ng)=some false)
    (Kv:PySem.W.kitOne K (.ref X0) (.ref Nh)=some false)
    (Kw:PySem.W.kitOne K (.ref X0) (.ref Kf)=some true)
    (Rl:PySem.W.mroIn K X0 (.ref Kf)=some true)
    (Rm:PySem.W.kitOne K (.ref X0) (.type "ValueError")=some true)
     :
    ∃fd:WQ,(∀(s:WT)(u:WU),BindsTo s fd ⟨[u],[]⟩ [("script",u)])/\∀base:Heap,K.In base->base.Ns W5 mg->FnOk l.prog w K mg base (CXJ l.prog w) 5 fa fd ["script"] (spW K 1 F_law):=by
  refine J.Fd X G hfa Q9 (λ_ _ _ _ _ _ s u=> .of_eq rfl) (λf fd Fu base kb nb=>?_)
  have Z0:=PySem.W.mg_none_of kb nb z0
  have Z1:=PySem.W.mg_none_of kb nb z1
  have Z2:=PySem.W.mg_none_of kb nb z2
  have Z3:=PySem.W.mg_none_of kb nb z3
  have Z4:=PySem.W.mg_none_of kb nb z4
  have Z5:=PySem.W.mg_none_of kb nb z5
  have Z6:=PySem.W.mg_none_of kb nb z6
  have Z7:=PySem.W.mg_none_of kb nb z7
  have Z8:=PySem.W.mg_none_of kb nb z8
  have Z9:=PySem.W.mg_none_of kb nb z9
  have SY:=PySem.W.mg_none_of kb nb IG
  have S0:=PySem.W.mg_none_of kb nb IH
  have VF:=PySem.W.mg_none_of kb nb II
  have V0:=PySem.W.mg_of kb nb v0
  have TB:TabOk K cJ aY CH:=J.JM ⟨⟨X0,X0,kG,kG,⟨oq,rj,rl,rn⟩,Q_⟩,⟨X0,X1,kG,Kh,⟨oq,rj,rl,rn⟩,Ra⟩,⟨X0,X2,kG,Ki,⟨oq,rj,rl,rn⟩,Rb⟩,⟨X0,X3,kG,Kj,⟨oq,rj,rl,rn⟩,Rc⟩,⟨X0,X4,kG,Kk,⟨oq,rj,rl,rn⟩,Rf⟩,⟨X0,X5,kG,Kl,⟨oq,rj,rl,rn⟩,Rg⟩,⟨X0,X6,kG,Km,⟨oq,rj,rl,rn⟩,Rh⟩,⟨X0,X7,kG,Kn,⟨oq,rj,rl,rn⟩,Ri⟩,⟨X0,X8,kG,Ko,⟨oq,rj,rl,rn⟩,Rj⟩,⟨X0,X9,kG,Kp,⟨oq,rj,rl,rn⟩,Rk⟩,⟨X0,Nb,kG,vT,⟨oq,rj,rl,rn⟩,Kq⟩,⟨X0,Nc,kG,vU,⟨oq,rj,rl,rn⟩,Kr⟩,⟨X0,Nf,kG,vV,⟨oq,rj,rl,rn⟩,Kt⟩,⟨X0,Ng,kG,vW,⟨oq,rj,rl,rn⟩,Ku⟩,⟨X0,Nh,kG,vX,⟨oq,rj,rl,rn⟩,Kv⟩,⟨X0,Kf,kG,zi,⟨oq,rj,rl,rn⟩,Kw⟩,trivial⟩ ⟨⟨X0,kG,⟨oq,rj,rl,rn⟩,Rm⟩,trivial⟩ ⟨⟨X0,Kf,kG,zi,oq,FC,Rl⟩,trivial⟩
  have H1:J.fB l.prog w K mg base 1 "_law_cell_at" 2 aV:=J.aI (ps:=["script","k"]) kb nb d1 (J.aB (c:=ff) (k:=0) trivial ⟨Z0,trivial⟩ trivial TB trivial trivial trivial) lX rfl nN (λ_ _ _ _ _ _ us hl=>J.ln2 us hl λ_ _=>rfl)
  have H2:J.fB l.prog w K mg base 1 "_law_digit" 2 aQ:=J.aI (ps:=["row","many"]) kb nb d2 (J.aB (c:=gO) (k:=0) trivial trivial trivial TB trivial trivial trivial) oJ rfl qM (λ_ _ _ _ _ _ us hl=>J.ln2 us hl λ_ _=>rfl)
  have H3:J.fB l.prog w K mg base 2 "_law_worth" 1 bG:=J.aI (ps:=["row"]) kb nb d3 (J.aB (c:=gQ) (k:=1) trivial trivial ⟨H2.mono (by decide),trivial⟩ TB trivial trivial trivial) oK rfl qN (λ_ _ _ _ _ _ us hl=>J.vG us hl λ_=>rfl)
  have H4:J.fB l.prog w K mg base 1 "_law_mixed" 2 aZ:=J.aI (ps:=["cell","k"]) kb nb d4 (J.aB (c:=gS) (k:=0) trivial trivial trivial TB trivial trivial trivial) oM rfl qO (λ_ _ _ _ _ _ us hl=>J.ln2 us hl λ_ _=>rfl)
  have H5:J.fB l.prog w K mg base 2 "_law_row_of" 2 cF:=J.aI (ps:=["script","k"]) kb nb d5 (J.aB (c:=fS) (k:=1) trivial ⟨Z1,Z0,Z2,trivial⟩ ⟨H1.mono (by decide),H4.mono (by decide),trivial⟩ TB trivial trivial trivial) nO rfl oN (λ_ _ _ _ _ _ us hl=>J.ln2 us hl λ_ _=>rfl)
  have H6:J.fB l.prog w K mg base 3 "_law_worths" 3 bK:=J.aI (ps:=["script","many","faults"]) kb nb d6 (J.aB (c:=fU) (k:=2) trivial ⟨Z1,Z3,Z4,trivial⟩ ⟨H3.mono (by decide),H5.mono (by decide),trivial⟩ TB trivial trivial trivial) nP rfl oO (λ_ _ _ _ _ _ us hl=>J.Sz us hl λ_ _ _=>rfl)
  have H7:J.fB l.prog w K mg base 1 "check_many" 1 cq:=J.aI (ps:=["many"]) kb nb d7 (J.aB (c:=gU) (k:=0) ⟨⟨_,V0⟩,trivial⟩ trivial trivial TB ⟨⟨X0,PySem.W.mg_of kb nb kG,⟨kG,oq⟩⟩,trivial⟩ trivial trivial) oP rfl qP (λ_ _ _ _ _ _ us hl=>J.vG us hl λ_=>rfl)
  have H8:J.fB l.prog w K mg base 1 "is_single" 1 aE:=J.aI (ps:=["node"]) kb nb d8 (J.aB (c:=iM) (k:=0) trivial trivial trivial TB trivial trivial trivial) qQ rfl tU (λ_ _ _ _ _ _ us hl=>J.vG us hl λ_=>rfl)
  have H9:J.fB l.prog w K mg base 1 "halves_of" 1 bw:=J.aI (ps:=["node"]) kb nb d9 (J.aB (c:=iO) (k:=0) trivial trivial trivial TB trivial trivial trivial) qR rfl tV (λ_ _ _ _ _ _ us hl=>J.vG us hl λ_=>rfl)
  have KL:J.fB l.prog w K mg base 2 "level_under" 1 cG:=J.aI (ps:=["level"]) kb nb QU (J.aB (c:=fW) (k:=1) trivial trivial ⟨H8.mono (by decide),H9.mono (by decide),trivial⟩ TB trivial trivial trivial) nQ rfl oQ (λ_ _ _ _ _ _ us hl=>J.vG us hl λ_=>rfl)
  have RM:J.fB l.prog w K mg base 3 "nodes_under" 1 bL:=J.aI (ps:=["whole"]) kb nb QV (J.aB (c:=fX) (k:=2) trivial trivial ⟨KL.mono (by decide),trivial⟩ TB trivial trivial trivial) nR rfl oR (λ_ _ _ _ _ _ us hl=>J.vG us hl λ_=>rfl)
  have VG:J.fB l.prog w K mg base 1 "is_fault" 1 gX:=J.aI (ps:=["worth"]) kb nb QW (J.aB (c:=jG) (k:=0) trivial ⟨Z3,Z4,trivial⟩ trivial TB trivial trivial trivial) tW rfl vH (λ_ _ _ _ _ _ us hl=>J.vG us hl λ_=>rfl)
  have S7:J.fB l.prog w K mg base 2 "tally_of" 1 bH:=J.aI (ps:=["worths"]) kb nb QX (J.aB (c:=jI) (k:=1) trivial ⟨Z5,Z6,Z2,Z0,Z3,Z7,trivial⟩ ⟨VG.mono (by decide),trivial⟩ TB trivial trivial trivial) tX rfl vI (λ_ _ _ _ _ _ us hl=>J.vG us hl λ_=>rfl)
  have VH:J.fB l.prog w K mg base 1 "put_together" 2 b7:=J.aI (ps:=["one","other"]) kb nb QY (J.aB (c:=ft) (k:=0) trivial ⟨Z5,Z6,trivial⟩ trivial TB trivial trivial trivial) lY rfl nU (λ_ _ _ _ _ _ us hl=>J.ln2 us hl λ_ _=>rfl)
  have S8:J.fB l.prog w K mg base 2 "joined_halves" 2 aJ:=J.aI (ps:=["halves","node"]) kb nb QZ (J.aB (c:=dX) (k:=1) trivial trivial ⟨H9.mono (by decide),VH.mono (by decide),trivial⟩ TB trivial trivial trivial) kZ rfl lZ (λ_ _ _ _ _ _ us hl=>J.ln2 us hl λ_ _=>rfl)
  have VJ:J.fB l.prog w K mg base 4 "made_halves" 1 dJ:=J.aI (ps:=["worths"]) kb nb Q0 (J.aB (c:=fY) (k:=3) trivial ⟨Z8,Z0,trivial⟩ ⟨H7.mono (by decide),RM.mono (by decide),H8.mono (by decide),S7.mono (by decide),S8.mono (by decide),trivial⟩ TB trivial trivial trivial) nV rfl oS (λ_ _ _ _ _ _ us hl=>J.vG us hl λ_=>rfl)
  have S_:J.fB l.prog w K mg base 1 "_law_nodes" 1 bI:=J.aI (ps:=["many"]) kb nb Q1 (J.aB (c:=gZ) (k:=0) trivial ⟨Z0,trivial⟩ trivial TB trivial trivial trivial) oT rfl qS (λ_ _ _ _ _ _ us hl=>J.vG us hl λ_=>rfl)
  have VL:J.fB l.prog w K mg base 1 "_law_tally" 1 cw:=J.aI (ps:=["worths"]) kb nb Q2 (J.aB (c:=hG) (k:=0) trivial ⟨Z9,Z3,Z4,Z0,Z2,Z7,trivial⟩ trivial TB trivial trivial trivial) oU rfl qT (λ_ _ _ _ _ _ us hl=>J.vG us hl λ_=>rfl)
  have VM:J.fB l.prog w K mg base 2 "_law_due" 1 du:=J.aI (ps:=["worths"]) kb nb Q3 (J.aB (c:=jJ) (k:=1) trivial ⟨Z0,trivial⟩ ⟨S_.mono (by decide),VL.mono (by decide),trivial⟩ TB trivial trivial trivial) tY rfl vJ (λ_ _ _ _ _ _ us hl=>J.vG us hl λ_=>rfl)
  have VN:J.fB l.prog w K mg base 1 "many_in" 1 eV:=J.aI (ps:=["halves"]) kb nb Q4 (J.aB (c:=k9) (k:=0) trivial ⟨Z6,trivial⟩ trivial TB trivial trivial trivial) vK rfl zc (λ_ _ _ _ _ _ us hl=>J.vG us hl λ_=>rfl)
  have VO:J.fB l.prog w K mg base 2 "nodes_down_to" 2 bq:=J.aI (ps:=["whole","number"]) kb nb Q5 (J.aB (c:=dY) (k:=1) trivial trivial ⟨H8.mono (by decide),H9.mono (by decide),trivial⟩ TB trivial trivial trivial) k_ rfl l9 (λ_ _ _ _ _ _ us hl=>J.ln2 us hl λ_ _=>rfl)
  have Td:J.fB l.prog w K mg base 3 "with_worth" 3 bx:=J.aI (ps:=["halves","number","worth"]) kb nb Q6 (J.aB (c:=hV) (k:=2) trivial ⟨SY,Z8,trivial⟩ ⟨VN.mono (by decide),VO.mono (by decide),H8.mono (by decide),S7.mono (by decide),S8.mono (by decide),trivial⟩ TB ⟨⟨X0,PySem.W.mg_of kb nb kG,⟨kG,oq⟩⟩,trivial⟩ trivial trivial) oV rfl qU (λ_ _ _ _ _ _ us hl=>J.Sz us hl λ_ _ _=>rfl)
  have VP:J.fB l.prog w K mg base 1 "_law_kinds" 1 cZ:=J.aI (ps:=["e"]) kb nb Oc (J.aB (c:=c9) (k:=0) trivial ⟨Z3,S0,Z1,trivial⟩ trivial TB trivial ⟨⟨X1,PySem.W.mg_of kb nb Kh,Kh⟩,⟨X2,PySem.W.mg_of kb nb Ki,Ki⟩,⟨X3,PySem.W.mg_of kb nb Kj,Kj⟩,⟨X4,PySem.W.mg_of kb nb Kk,Kk⟩,⟨X5,PySem.W.mg_of kb nb Kl,Kl⟩,⟨X6,PySem.W.mg_of kb nb Km,Km⟩,⟨X7,PySem.W.mg_of kb nb Kn,Kn⟩,⟨X8,PySem.W.mg_of kb nb Ko,Ko⟩,⟨X0,PySem.W.mg_of kb nb kG,kG⟩,⟨X9,PySem.W.mg_of kb nb Kp,Kp⟩,⟨Nb,PySem.W.mg_of kb nb vT,vT⟩,⟨Nc,PySem.W.mg_of kb nb vU,vU⟩,⟨Nf,PySem.W.mg_of kb nb vV,vV⟩,⟨Ng,PySem.W.mg_of kb nb vW,vW⟩,⟨Nh,PySem.W.mg_of kb nb vX,vX⟩,trivial⟩ trivial) jq rfl qV (λ_ _ _ _ _ _ us hl=>J.vG us hl λ_=>rfl)
  have VQ:J.sU l.prog w K mg base 1 "_law_kinds" 1 cZ:=J.Cp (ps:=["e"]) kb nb Oc (J.aB (c:=c9) (k:=0) trivial ⟨Z3,S0,Z1,trivial⟩ trivial TB trivial ⟨⟨X1,PySem.W.mg_of kb nb Kh,Kh⟩,⟨X2,PySem.W.mg_of kb nb Ki,Ki⟩,⟨X3,PySem.W.mg_of kb nb Kj,Kj⟩,⟨X4,PySem.W.mg_of kb nb Kk,Kk⟩,⟨X5,PySem.W.mg_of kb nb Kl,Kl⟩,⟨X6,PySem.W.mg_of kb nb Km,Km⟩,⟨X7,PySem.W.mg_of kb nb Kn,Kn⟩,⟨X8,PySem.W.mg_of kb nb Ko,Ko⟩,⟨X0,PySem.W.mg_of kb nb kG,kG⟩,⟨X9,PySem.W.mg_of kb nb Kp,Kp⟩,⟨Nb,PySem.W.mg_of kb nb vT,vT⟩,⟨Nc,PySem.W.mg_of kb nb vU,vU⟩,⟨Nf,PySem.W.mg_of kb nb vV,vV⟩,⟨Ng,PySem.W.mg_of kb nb vW,vW⟩,⟨Nh,PySem.W.mg_of kb nb vX,vX⟩,trivial⟩ trivial) jq rfl oW (λ_ _ _ _ _ _ us hl=>J.vG us hl λ_=>rfl)
  have VR:J.fB l.prog w K mg base 4 "_law_refusal" 2 dg:=J.aI (ps:=["halves","number"]) kb nb Q7 (J.aB (c:=fu) (k:=3) trivial trivial ⟨Td.mono (by decide),VP.mono (by decide),trivial⟩ TB ⟨⟨Kf,PySem.W.mg_of kb nb zi,⟨zi,FC⟩⟩,trivial⟩ trivial trivial ⟨(λ_ _ h=>by cases h;exact VQ.mono (by decide)),trivial⟩) l_ rfl nW (λ_ _ _ _ _ _ us hl=>J.ln2 us hl λ_ _=>rfl)
  have VS:J.fB l.prog w K mg base 2 "_law_way" 2 h_:=J.aI (ps:=["many","number"]) kb nb Q8 (J.aB (c:=jK) (k:=1) trivial trivial ⟨S_.mono (by decide),trivial⟩ TB trivial trivial trivial) tZ rfl vL (λ_ _ _ _ _ _ us hl=>J.ln2 us hl λ_ _=>rfl)
  exact J.JK Fu (J.aB (c:=CI) (k:=4) trivial ⟨Z1,Z2,Z3,Z4,Z0,SY,VF,trivial⟩ ⟨H1.mono (by decide),H6.mono (by decide),VJ.mono (by decide),VM.mono (by decide),H3.mono (by decide),Td.mono (by decide),VR.mono (by decide),H4.mono (by decide),VS.mono (by decide),trivial⟩ TB trivial trivial trivial) JX rfl MY
end K83
open PySem PySem.W PyProof.Rows
set_option maxRecDepth 100000 in
set_option maxHeartbeats 0 in
theorem PySem.Challenge.cw_onelook_k83_worths_put_in_holds : PySem.Challenge.rw_onelook_k83_worths_put_in.Holds := by
  refine K83.head ?_
  k_fill
  refine L2.walk_of (l:=PySem.Challenge.rw_onelook_k83_worths_put_in) (n:=63) (k:=5) (x:="script") (CX:=fun w => J.CXJ PySem.Challenge.rw_onelook_k83_worths_put_in.prog w) (sp:=fun w => J.spW _ 1 K83.F_law) rfl (by decide) rfl ⟨rfl,by decide,by decide⟩ (fun w h Y => PySem.W.kIn_of Y) ?F (fun w H a ns hl hO hS => J.law_sp K83.law_true H a ns hl (J.OnlyT.of hO) hS (J.tb_none ?Ta ?Tb ?Tc)) (fun _ _ _ _ _ z => z.elim fun _ y => y.elim fun _ x => x.2)
  case F=>
    intro w mg fa h KX G hmg
    refine' K83.all_mk KX G hmg ?d1 ?d2 ?d3 ?d4 ?d5 ?d6 ?d7 ?d8 ?d9 ?QU ?QV ?QW ?QX ?QY ?QZ ?Q0 ?Q1 ?Q2 ?Q3 ?Q4 ?Q5 ?Q6 ?Oc ?Q7 ?Q8 ?Q9 ?z0 ?z1 ?z2 ?z3 ?z4 ?z5 ?z6 ?z7 ?z8 ?z9 ?IG ?IH ?II ?v0 ?kG ?oq ?rj ?rl ?rn ?Kh ?Ki ?Kj ?Kk ?Kl ?Km ?Kn ?Ko ?Kp ?vT ?vU ?vV ?vW ?vX ?zi ?FC ?Q_ ?Ra ?Rb ?Rc ?Rf ?Rg ?Rh ?Ri ?Rj ?Rk ?Kq ?Kr ?Kt ?Ku ?Kv ?Kw ?Rl ?Rm
    (case d1=>refine' J.aU ?a ?l ?c ?k;(case a=>k_is);(case l=>k_is);(case c=>k_is);(case k=>k_is))
    (case d2=>refine' J.aU ?a ?l ?c ?k;(case a=>k_is);(case l=>k_is);(case c=>k_is);(case k=>k_is))
    (case d3=>refine' J.aU ?a ?l ?c ?k;(case a=>k_is);(case l=>k_is);(case c=>k_is);(case k=>k_is))
    (case d4=>refine' J.aU ?a ?l ?c ?k;(case a=>k_is);(case l=>k_is);(case c=>k_is);(case k=>k_is))
    (case d5=>refine' J.aU ?a ?l ?c ?k;(case a=>k_is);(case l=>k_is);(case c=>k_is);(case k=>k_is))
    (case d6=>refine' J.aU ?a ?l ?c ?k;(case a=>k_is);(case l=>k_is);(case c=>k_is);(case k=>k_is))
    (case d7=>refine' J.aU ?a ?l ?c ?k;(case a=>k_is);(case l=>k_is);(case c=>k_is);(case k=>k_is))
    (case d8=>refine' J.aU ?a ?l ?c ?k;(case a=>k_is);(case l=>k_is);(case c=>k_is);(case k=>k_is))
    (case d9=>refine' J.aU ?a ?l ?c ?k;(case a=>k_is);(case l=>k_is);(case c=>k_is);(case k=>k_is))
    (case QU=>refine' J.aU ?a ?l ?c ?k;(case a=>k_is);(case l=>k_is);(case c=>k_is);(case k=>k_is))
    (case QV=>refine' J.aU ?a ?l ?c ?k;(case a=>k_is);(case l=>k_is);(case c=>k_is);(case k=>k_is))
    (case QW=>refine' J.aU ?a ?l ?c ?k;(case a=>k_is);(case l=>k_is);(case c=>k_is);(case k=>k_is))
    (case QX=>refine' J.aU ?a ?l ?c ?k;(case a=>k_is);(case l=>k_is);(case c=>k_is);(case k=>k_is))
    (case QY=>refine' J.aU ?a ?l ?c ?k;(case a=>k_is);(case l=>k_is);(case c=>k_is);(case k=>k_is))
    (case QZ=>refine' J.aU ?a ?l ?c ?k;(case a=>k_is);(case l=>k_is);(case c=>k_is);(case k=>k_is))
    (case Q0=>refine' J.aU ?a ?l ?c ?k;(case a=>k_is);(case l=>k_is);(case c=>k_is);(case k=>k_is))
    (case Q1=>refine' J.aU ?a ?l ?c ?k;(case a=>k_is);(case l=>k_is);(case c=>k_is);(case k=>k_is))
    (case Q2=>refine' J.aU ?a ?l ?c ?k;(case a=>k_is);(case l=>k_is);(case c=>k_is);(case k=>k_is))
    (case Q3=>refine' J.aU ?a ?l ?c ?k;(case a=>k_is);(case l=>k_is);(case c=>k_is);(case k=>k_is))
    (case Q4=>refine' J.aU ?a ?l ?c ?k;(case a=>k_is);(case l=>k_is);(case c=>k_is);(case k=>k_is))
    (case Q5=>refine' J.aU ?a ?l ?c ?k;(case a=>k_is);(case l=>k_is);(case c=>k_is);(case k=>k_is))
    (case Q6=>refine' J.aU ?a ?l ?c ?k;(case a=>k_is);(case l=>k_is);(case c=>k_is);(case k=>k_is))
    (case Oc=>refine' J.aU ?a ?l ?c ?k;(case a=>k_is);(case l=>k_is);(case c=>k_is);(case k=>k_is))
    (case Q7=>refine' J.aU ?a ?l ?c ?k;(case a=>k_is);(case l=>k_is);(case c=>k_is);(case k=>k_is))
    (case Q8=>refine' J.aU ?a ?l ?c ?k;(case a=>k_is);(case l=>k_is);(case c=>k_is);(case k=>k_is))
    (case Q9=>refine' J.aU ?a ?l ?c ?k;(case a=>k_is);(case l=>k_is);(case c=>k_is);(case k=>k_is))
    (case z0=>k_is)
    (case z1=>k_is)
    (case z2=>k_is)
    (case z3=>k_is)
    (case z4=>k_is)
    (case z5=>k_is)
    (case z6=>k_is)
    (case z7=>k_is)
    (case z8=>k_is)
    (case z9=>k_is)
    (case IG=>k_is)
    (case IH=>k_is)
    (case II=>k_is)
    (case v0=>k_is)
    (case kG=>k_is)
    (case oq=>k_exc)
    (case rj=>k_is)
    (case rl=>k_is)
    (case rn=>k_is)
    (case Kh=>k_is)
    (case Ki=>k_is)
    (case Kj=>k_is)
    (case Kk=>k_is)
    (case Kl=>k_is)
    (case Km=>k_is)
    (case Kn=>k_is)
    (case Ko=>k_is)
    (case Kp=>k_is)
    (case vT=>k_is)
    (case vU=>k_is)
    (case vV=>k_is)
    (case vW=>k_is)
    (case vX=>k_is)
    (case zi=>k_is)
    (case FC=>k_exc)
    (case Q_=>kit_is)
    (case Ra=>kit_is)
    (case Rb=>kit_is)
    (case Rc=>kit_is)
    (case Rf=>kit_is)
    (case Rg=>kit_is)
    (case Rh=>kit_is)
    (case Ri=>kit_is)
    (case Rj=>kit_is)
    (case Rk=>kit_is)
    (case Kq=>kit_is)
    (case Kr=>kit_is)
    (case Kt=>kit_is)
    (case Ku=>kit_is)
    (case Kv=>kit_is)
    (case Kw=>kit_is)
    (case Rl=>k_is)
    (case Rm=>kit_is)
  (case Ta=>k_is)
  (case Tb=>k_is)
  (case Tc=>k_is)
