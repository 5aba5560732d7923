import PyProof.Rows.All
import Wide.All
import OpenK.AllK
import Wide.FinOn
import Lean
import PyProof.EqAt
import PyProof.EqKinds
import PyProof.TupleCall
import PySem.Challenge.RW_onelook_k75_groups_and_sums
open Array renaming all_eq_true_iff_forall_mem→Pp,getD_eq_getD_getElem?→P9,getElem?_eq_getElem→Qc,length_toList→Cc
open Bool renaming and_eq_true→cL,eq_iff_iff→FA,false_eq_true→y6,false_ne_true→cQ
open PySem.Builtin.Dict_items renaming ownedTupleFields→Qe,ownedTupleIsFree→Qf,ownsTuple→D_,pairFromOwner→MS
open PySem.Builtin.List renaming listTooLong→CA
open PySem.Builtin.Slice renaming sliceAdjust→Cq,sliceApplied→Lp,slicePlaces→w5
open PySem.Builtin.Str renaming occurrences→mS
open PySem.Builtin.Tuple renaming tupleExact→w8,tupleIsExact→MG,tupleItemsOf→Lq
open PySem.Calls renaming Name_function_global→KQ,callWith_builtin→xa,evalArgs_plain→xb,spliced_cons→pb,spliced_nil→wY
open Classical renaming propDecidable→Dp
open PySem.EntryCells renaming newEntry→LJ
open PySem.F renaming typeOf_object_class→Ds
open False renaming elim→aa
open ForInStep renaming yield→kR
open PySem.Heap renaming MadeExcOf→tD,SameBut→wQ,get?_none_of_le→wO,get?_push_of_some→aR,get?_push_size→cz,get?_update_other→ph,get?_update_self→Cv,lt_size→aL,size_push→tU
open PySem.Heap.SameBut renaming update→tZ
open PySem.Heap.UpToSlots renaming refl→Ma
open Int renaming toNat_natCast→Ea
open List.Pairwise renaming imp_of_mem→NL
open List.Perm renaming eq_of_pairwise→xF
open List renaming all_cons→eI,all_eq_true→EY,any_cons→fM,append_assoc→pv,append_nil→fc,contains_cons→xv,countP_cons→xH,drop_eq_getElem_cons→pK,drop_length→pL,eq_nil_of_length_eq_zero→C3,filterMap_cons→sJ,filter_cons→xf,filter_cons_of_neg→xx,filter_cons_of_pos→xw,find?_cons→mU,findIdx?_cons→Dy,findIdx?_eq_some_iff_getElem→DR,flatten_cons→pk,foldl_cons→Cy,getD_eq_getElem?_getD→cC,getElem?_append_left→cG,getElem?_append_right→hV,getElem?_cons_succ→cP,getElem?_cons_zero→b_,getElem?_eq_getElem→bX,getElem?_map→iH,getElem?_replicate→sP,getElem?_set_ne→bW,getElem?_set_self→kL,getElem_mem→kU,getElem_toArray→xI,length→iG,length_append→eh,length_cons→kO,length_drop→w6,length_map→av,length_nil→kP,length_replicate→kN,length_singleton→Lz,length_take→mT,lookup_cons→gB,map_append→nE,map_congr_left→kY,map_cons→aH,map_drop→Ft,map_id→lA,map_map→bE,map_nil→w9,map_take→ym,mem_append_left→oX,mem_append_right→e_,mem_cons_of_mem→aJ,mem_cons_self→aP,mem_of_getElem?→sR,mem_of_mem_take→FH,nil_append→pz,nodup_append→uw,nodup_iff_pairwise_ne→Iy,nodup_range→t8,of_mem_zip→yJ,pairwise_append→Jn,pairwise_cons→oE,pairwise_map→oI,pairwise_singleton→IF,range→dm,range'→fT,replicate→aD,replicate_succ→gR,size_toArray→a8
open PySem.NameKind renaming cell→dX,free→dU
open Nat renaming le_of_eq→lJ,le_of_lt→om,le_refl→ak,le_succ→eK,le_succ_of_le→mI,le_trans→aX,lt_irrefl→fq,lt_of_lt_of_le→bK,lt_succ_of_lt→y9,min_le_right→yK,ne_of_gt→lF,ne_of_lt→bR,sub_self→tw,succ_le_succ→jS,zero_add→zU,zero_le→bZ
open Ne renaming symm→bt
open PySem.Obj renaming data_mapFields→yU,isFreed_of_fields→G0,mapFields→lN,mapSeq→dS
open Option renaming isSome_some→GV,map_some→oD
open Or renaming inr→jQ
open PySem.PassesOwn renaming leaving→IV
open PySem.PyData renaming canLayAll0→yZ,depthAll→lQ,eqv→aN,eqvAll→cx,int→oV,list→tI,strOk→aE,tuple→tH
open PyProof.Rows renaming callWith_type1→yI,slot_tuple_getitem→sS
open PySem.SeqAt.EqAt renaming int_none→F',int_str→F_,none_int→Gd,none_str→Ge,same→Gf,str_int→Ga,str_none→Gb
open PySem.Str renaming ofString→lH
open True renaming intro→lM
open PySem.Txt renaming slice→jW
open PySem.Value renaming builtin→lV,int→gP,none→bo,ref→bb,str→jO,type→oj
open PySem renaming Addr→Yx,Around→Yy,FuncData→Yz,NameKind→YA,Program→YB,Shared→YC,Value→YD,World→YE,behindInMarks→YF,binaryOp→YG,bootBuiltins→YH,codeAny→YI,compPost→YJ,compareOp→YK,foldedSetIterable→YL,isSubtype_type→YM,mainGlobals→YN,sizeLine→YO,starEach→YQ,wpAny→YR,wpAny_bind→YS,wpAny_dictEntries→YT,wpAny_holding→YU,wpAny_mono→YV,wpAny_newList→YW,wpAny_newObj_type→YX,wpAny_pure→YY,wpAny_truthy_bool→YZ
noncomputable section
set_option Elab.async false
set_option linter.all false
set_option maxRecDepth 100000
namespace L2
open PySem PySem.Spec PyProof.Rows
inductive Key where
 | inl (i:Int) | inr (x:Str) | ay
 deriving DecidableEq
def oW:Key->YD->Bool
 | .inl k,v=>Value.isInt k v
 | .inr x,v=>Value.isStrOf x v
 | .ay,v=>(match v with | .none=>true | _=>false)
def RS(w:YE):Key->Int
 | .inl k=>hashInt k
 | .inr x=>hashStr w x
 | .ay=>reduceHash 0xFCA86420
theorem bY:∀{k:Key}{v:YD},oW k v=true->(∃i t,k=Key.inl i/\v=gP i t)\/(∃x t,k=Key.inr x/\v=jO x t)\/(k=Key.ay/\v=bo)
 | .inl i,v,h=>by
  obtain⟨t,e⟩:=Value.isInt_shape (k:=i) (v:=v) h
  exact .inl ⟨i,t,rfl,e⟩
 | .inr x,v,h=>by
  obtain⟨t,e⟩:=Value.isStrOf_shape (x:=x) (v:=v) h
  exact .inr (.inl ⟨x,t,rfl,e⟩)
 | .ay,v,h=>by
  cases v<;>first | exact .inr (.inr ⟨rfl,rfl⟩) | (unfold oW at h;cases h)
theorem Ad(i:Int)(t:Tok):oW (.inl i) (.int i t)=true:=by simp[oW,Value.isInt]
theorem Ae(x:Str)(t:Tok):oW (.inr x) (.str x t)=true:=by simp[oW,Value.isStrOf]
theorem KG(a b:Int):decide ((Key.inl a:Key)=Key.inl b)=(a == b):=by
 by_cases e:a=b
 ·subst e;simp
 ·have h:¬(Key.inl a:Key)=Key.inl b:=λq=>e (Key.inl.inj q)
  rw[decide_eq_false h]
  exact(beq_eq_false_iff_ne.mpr e).symm
theorem KH(a b:Str):decide ((Key.inr a:Key)=Key.inr b)=decide (a=b):=by
 by_cases e:a=b
 ·subst e;simp
 ·have h:¬(Key.inr a:Key)=Key.inr b:=λq=>e (Key.inr.inj q)
  rw[decide_eq_false h,decide_eq_false e]
theorem B2{prog:YB}{w:YE}{A:Yy}{E:YD->YC->Prop}{s:YC}{Q:Int->YC->Prop}(h:Q (reduceHash 0xFCA86420) { s with toks:=s.toks+1 }):YR (model prog w) A (PySem.pyHash .none) Q E s :=
 PySem.W.pyHash_slot (T:="NoneType") rfl F.slot_NoneType_hash F.entry_NoneType_hash (F.args_NoneType_hash_1 _) (beq_builtin_none _) (.inl rfl) (YS (YY (YS (wpAny_mkInt (YY ⟨_,_,rfl,h⟩)))))
def bQ(prog:YB)(w:YE):PySem.KeyKind prog w Key where
 is:=oW
 hash:=RS w
 inj:=λv a b ha hb=>by
  rcases bY ha with ⟨i,t,rfl,rfl⟩ | ⟨x,t,rfl,rfl⟩ | ⟨rfl,rfl⟩<;>rcases bY hb with ⟨j,u,rfl,e⟩ | ⟨y,u,rfl,e⟩ | ⟨rfl,e⟩<;>cases e<;>rfl
 byValue:=λk v h=>by
  rcases bY h with ⟨i,t,rfl,rfl⟩ | ⟨x,t,rfl,rfl⟩ | ⟨rfl,rfl⟩<;>rfl
 pyHash:=λhv h=>by
  rcases bY hv with ⟨i,t,rfl,rfl⟩ | ⟨x,t,rfl,rfl⟩ | ⟨rfl,rfl⟩
  ·exact wpAny_pyHash_int h
  ·exact wpAny_pyHash_str h
  ·exact B2 h
 eqBool:=λ{A E s a b u v Q} hu hv h=>by
  have no:a≠b->Q false s:=λn=>by rw[decide_eq_false n] at h;exact h
  rcases bY hu with ⟨i,t,rfl,rfl⟩ | ⟨x,t,rfl,rfl⟩ | ⟨rfl,rfl⟩<;>rcases bY hv with ⟨j,u,rfl,rfl⟩ | ⟨y,u,rfl,rfl⟩ | ⟨rfl,rfl⟩
  ·rw[KG] at h;exact wpAny_eqBool_int h
  ·exact F_ i t y u _ _ _ _ (no nofun)
  ·exact F' i t _ _ _ _ (no nofun)
  ·exact Ga x t j u _ _ _ _ (no nofun)
  ·rw[KH] at h;exact wpAny_eqBool_str h
  ·exact Gb x t _ _ _ _ (no nofun)
  ·exact Gd j u _ _ _ _ (no nofun)
  ·exact Ge y u _ _ _ _ (no nofun)
  ·exact Gf .none _ _ _ _ (by simpa using h)
 «strs»:=λk x t v h=>by
  rcases bY h with ⟨i,u,rfl,e⟩ | ⟨y,u,rfl,e⟩ | ⟨rfl,e⟩<;>cases e
  cases v<;>rfl
theorem uG(prog:YB)(w:YE)(i:Int)(t:Tok):(bQ prog w).is (.inl i) (.int i t)=true:=Ad i t
theorem uH(prog:YB)(w:YE)(x:Str)(t:Tok):(bQ prog w).is (.inr x) (.str x t)=true:=Ae x t
inductive V where
 | ay | bl (b:Bool) | int (i:Int) | str (x:Str) | NY (b:Array UInt8) | Jx (b:UInt64) | ref (a:Yx) | ty (n:String)
 deriving DecidableEq
def RelV:V->YD->Prop
 | .ay,u=>u=bo
 | .bl b,u=>u=Value.bool b
 | .int i,u=>∃t,u=gP i t
 | .str x,u=>∃t,u=jO x t
 | .NY b,u=>∃t,u=Value.bytes b t
 | .Jx b,u=>∃t,u=Value.float b t
 | .ref a,u=>u=bb a
 | .ty n,u=>u=oj n
abbrev Vals:List V->List YD->Prop:=Paired RelV
theorem Vals.length{xs:List V}{us:List YD}(r:Vals xs us):xs.length=us.length:=Paired.length r
theorem Vals.get:∀{xs:List V}{us:List YD}{i:Nat}{x:V},Vals xs us->xs[i]? =some x->∃u,us[i]? =some u/\RelV x u
 | _,_,_,_,.nil,e=>by simp at e
 | _,_,0,_,.cons r _,e=>by simp at e;subst e;exact⟨_,rfl,r⟩
 | _,_,i+1,x,.cons _ t,e=>by
  obtain⟨u,h1,h2⟩:=Vals.get (i:=i) (x:=x) t (by simpa using e)
  exact⟨u,by simpa using h1,h2⟩
theorem Vals.set{x:V}{u:YD}(r:RelV x u):∀{xs:List V}{us:List YD}(i:Nat),Vals xs us->Vals (xs.set i x) (us.set i u)
 | _,_,_,.nil=> .nil
 | _,_,0,.cons _ t=> .cons r t
 | _,_,i+1,.cons q t=> .cons q (Vals.set r i t)
theorem Vals.append:∀{xs ys:List V}{us ws:List YD},Vals xs us->Vals ys ws->Vals (xs++ys) (us++ws)
 | _,_,_,_,.nil,s=>s
 | _,_,_,_,.cons r t,s=> .cons r (Vals.append t s)
theorem Vals.take:∀{xs:List V}{us:List YD}(n:Nat),Vals xs us->Vals (xs.take n) (us.take n)
 | _,_,0,_=> .nil
 | _,_,_+1,.nil=> .nil
 | _,_,n+1,.cons r t=> .cons r (Vals.take n t)
theorem Vals.drop:∀{xs:List V}{us:List YD}(n:Nat),Vals xs us->Vals (xs.drop n) (us.drop n)
 | _,_,0,r=>r
 | _,_,_+1,.nil=> .nil
 | _,_,n+1,.cons _ t=>Vals.drop n t
def nZ:Option V->Option YD->Prop
 | some v,some u=>RelV v u
 | none,none=>True
 | _,_=>False
def KV{κ:Type}:List (κ×V)->List (κ×YD)->Prop:=Paired λ(p:κ×V)(q:κ×YD)=>p.1=q.1/\RelV p.2 q.2
def kV:Key->V
 | .inl i=> .int i
 | .inr x=> .str x
 | .ay=> .ay
inductive HO where
  | lst (xs:List V)
  | tup (xs:List V)
  | dK (kvs:List (Key×V)) | dT (kvs:List (List Key×V))
  | set (S:Int->Bool) (n:Nat)
  | ins (C dx:Yx) (fs:List (Str×V))
  | own (x:Yx)
  | xd (fs:List (Str×V))
  | met (f x:Yx)
  | QT (lo hi:Int)
  | eS (o:Obj) (u:HO)
  | lC (ps:Array YD)
  | ext (φ:Heap->Prop)
abbrev Hp:=Yx->Option HO
def upd(H:Hp)(a:Yx)(o:HO):Hp:=λb=>if b=a then some o else H b
theorem aC{H:Hp}{a:Yx}{o:HO}:upd H a o a=some o:=by unfold upd;rw[if_pos rfl]
theorem ar{H:Hp}{a b:Yx}{o:HO}(h:b≠a):upd H a o b=H b:=by unfold upd;rw[if_neg h]
theorem Og{H:Hp}{a b:Yx}{o u:HO}(h:H a=some o)(h':H b=some u)(d:o≠u):a≠b:=by
 intro e;subst e;rw[h] at h';exact d (Option.some.inj h')
theorem bp{H:Hp}{a b:Yx}{o:HO}(h:H a=some o)(h':H b=none):a≠b:=by
 intro e;subst e;rw[h] at h';cases h'
def wM(h:Heap)(a:Yx):Prop:=∀o,h.get? a=some o->o.dict=none
theorem wM.new(h:Heap)(us:Array YD):wM (h.push { cls:=.type "tuple",data:=.seq us }) h.objs.size:=λo q=>by
 rw[cz _ rfl] at q
 cases q
 rfl
section
variable (P:YB) (w:YE)
def cK(H:Hp)(h:Heap)(a:Yx):HO->Prop
 | .lst xs=>xs.length<=YO/\∃(its:List YD)(n:Nat),Vals xs its/\h.get? a=some { cls:=.type "list",data:=.seq its.toArray n }
 | .tup xs=>xs.length<=YO/\∃its:List YD,Vals xs its/\IsTup h a its.toArray/\wM h a
 | .dK kvs=>kvs.length<=YO/\(a == sysModules)=false/\∃vs,KV kvs vs/\h.DictOf (bQ P w) a vs
 | .dT kvs=>kvs.length<=YO/\(a == sysModules)=false/\∃xs:List (List Key×Yx×YD),
   Paired (λ(p:List Key×V)(q:List Key×Yx×YD)=>p.1=q.1/\H q.2.1=some (.tup (p.1.map kV))/\RelV p.2 q.2.2) kvs xs/\
   ∃o es ep,h.get? a=some o/\o.ExactDict/\o.data= .dict es ep/\es.toList=xs.map (entryOfKey (tupleKind (bQ P w)))/\(xs.map (·.1)).Nodup
 | .set S n=>h.SetOf (intKind P w) a S n
 | .ins C dx fs=>H dx=some (.own a)/\fs.length<=1000/\dx≠a/\h.get? a=some (PySem.W.instObj C dx)/\
   ∃mA,h.Ns1 dx mA/\(∀f,nZ (fs.lookup f) (mA f))/\PySem.Within mA (fs.map (·.1))
 | .own _=>∃o,h.get? a=some o
 | .xd fs=>∃mA,h.Ns1 a mA/\∀f,nZ (fs.lookup f) (mA f)
 | .QT lo hi=>∃t u v,h.get? a=some { cls:=.type "range",data:=.fields #[.int lo t,.int hi u,.int 1 v] }
 | .eS o u=>h.get? a=some o/\cK H h a u
 | .lC ps=>h.get? a=some { cls:=.none,data:=.fields ps }
 | .met f x=>h.get? a=some (PySem.W.methodObj (.ref f) (.ref x))
 | .ext φ=>φ h/\(∃o,h.get? a=some o)/\∀h1 h2:Heap,φ h1->(∀o,h1.get? a=some o->h2.get? a=some o)->φ h2
def iY(H:Hp)(h:Heap):Prop:=∀a o,H a=some o->cK P w H h a o
end
section
variable {P:YB} {w:YE} {H H':Hp} {h h':Heap} {a:Yx} {o:HO}
theorem cK.lt(x:cK P w H h a o):a < h.objs.size:=by
 cases o with
 | lst xs=>obtain⟨_,_,_,_,e⟩:=x;exact aL e
 | tup xs=>obtain⟨_,_,_,p,_⟩:=x;exact p.lt
 | dK kvs=>obtain⟨_,_,_,_,o,_,_,e,_⟩:=x;exact aL e
 | dT kvs=>obtain⟨_,_,_,_,o,_,_,e,_⟩:=x;exact aL e
 | set S n=>obtain⟨o,_,_,_,e,_⟩:=x;exact aL e
 | ins C dx fs=>obtain⟨_,_,_,e,_⟩:=x;exact aL e
 | own y=>obtain⟨_,e⟩:=x;exact aL e
 | xd fs=>obtain⟨_,⟨_,_,_,e,_⟩,_⟩:=x;exact aL e
 | QT lo hi=>obtain⟨_,_,_,e⟩:=x;exact aL e
 | eS ob u=>obtain⟨e,_⟩:=x;exact aL e
 | lC ps=>exact aL (show h.get? a=some _ from x)
 | met f y=>exact aL (show h.get? a=some _ from x)
 | ext φ=>obtain⟨_,⟨_,e⟩,_⟩:=x;exact aL e
theorem Paired.Gg{α β:Type}{F G:α->β->Prop}:∀{l₁:List α}{l₂:List β},Paired F l₁ l₂->(∀a b,F a b->G a b)->Paired G l₁ l₂
 | _,_,.nil,_=> .nil
 | _,_,.cons r t,f=> .cons (f _ _ r) (Paired.Gg t f)
theorem cK.stay(x:cK P w H h a o)(k:∀b u,(b=a\/H b=some (.own a))->h.get? b=some u->h'.get? b=some u)
  (ho:∀b,H b=some (.own a)->H' b=some (.own a))(ht:∀b xs,H b=some (.tup xs)->H' b=some (.tup xs)):cK P w H' h' a o:=by
 induction o with
 | lst xs=>obtain⟨z,its,n,r,e⟩:=x;exact⟨z,its,n,r,k _ _ (.inl rfl) e⟩
 | tup xs=>obtain⟨z,us,r,⟨ob,e,c⟩,nd⟩:=x;exact⟨z,us,r,⟨ob,k _ _ (.inl rfl) e,c⟩,λo q=>by rw[k _ _ (.inl rfl) e] at q;cases q;exact nd _ e⟩
 | dK kvs=>obtain⟨z,y,vs,r,ob,es,ep,e,c⟩:=x;exact⟨z,y,vs,r,ob,es,ep,k _ _ (.inl rfl) e,c⟩
 | dT kvs=>
  obtain⟨z,y,xs,r,ob,es,ep,e,c⟩:=x
  exact⟨z,y,xs,Paired.Gg r λp q z=>⟨z.1,ht _ _ z.2.1,z.2.2⟩,ob,es,ep,k _ _ (.inl rfl) e,c⟩
 | set S n=>obtain⟨ob,es,ep,t,e,c⟩:=x;exact⟨ob,es,ep,t,k _ _ (.inl rfl) e,c⟩
 | ins C dx fs=>
  obtain⟨d,z,ne,e,mA,⟨od,es,ep,e2,c⟩,r⟩:=x
  exact⟨ho _ d,z,ne,k _ _ (.inl rfl) e,mA,⟨od,es,ep,k _ _ (.inr d) e2,c⟩,r⟩
 | own y=>obtain⟨ob,e⟩:=x;exact⟨ob,k _ _ (.inl rfl) e⟩
 | xd fs=>obtain⟨mA,⟨od,es,ep,e,c⟩,r⟩:=x;exact⟨mA,⟨od,es,ep,k _ _ (.inl rfl) e,c⟩,r⟩
 | QT lo hi=>obtain⟨t,u,v,e⟩:=x;exact⟨t,u,v,k _ _ (.inl rfl) e⟩
 | eS ob u ih=>obtain⟨e,q⟩:=x;exact⟨k _ _ (.inl rfl) e,ih q⟩
 | lC ps=>
  have e:h.get? a=some { cls:=.none,data:=.fields ps }:=x
  show h'.get? a=some { cls:=.none,data:=.fields ps }
  exact k a _ (.inl rfl) e
 | met f y=>
  have e:h.get? a=some (PySem.W.methodObj (.ref f) (.ref y)):=x
  show h'.get? a=some (PySem.W.methodObj (.ref f) (.ref y))
  exact k a _ (.inl rfl) e
 | ext φ=>obtain⟨p,⟨o,e⟩,st⟩:=x;exact⟨st _ _ p λo q=>k _ _ (.inl rfl) q,⟨o,k _ _ (.inl rfl) e⟩,st⟩
theorem iY.lt(x:iY P w H h)(e:H a=some o):a < h.objs.size:=(x a o e).lt
theorem iY.fresh(x:iY P w H h)(e:h.objs.size<=a):H a=none:=by
 cases q:H a with
 | none=>rfl
 | some u=>exact absurd (bK (x.lt q) e) (fq _)
theorem iY.kept(x:iY P w H h)(k:∀b u,h.get? b=some u->h'.get? b=some u):iY P w H h':=λa o e=>
 (x a o e).stay (λb u _ q=>k b u q) (λ_ q=>q) λ_ _ q=>q
theorem iY.laid(x:iY P w H h)(k:∀b u,h.get? b=some u->h'.get? b=some u)(hp:h.objs.size<=a)(new:cK P w (upd H a o) h' a o):iY P w (upd H a o) h':=λb u e=>by
 have hn:=x.fresh hp
 by_cases hb:b=a
 ·subst hb;rw[aC] at e;cases e;exact new
 ·rw[ar hb] at e
  exact(x b u e).stay (λc v _ q=>k c v q) (λc q=>by rw[ar (bp q hn)];exact q) λc xs q=>by rw[ar (bp q hn)];exact q
end
def Rd(H:Hp)(a:Yx)(u:HO):Prop:=H a=some u\/∃o,H a=some (.eS o u)
theorem Rd.ok{P:YB}{w:YE}{H:Hp}{h:Heap}{a:Yx}{u:HO}(r:Rd H a u)(x:iY P w H h):cK P w H h a u:=by
 rcases r with r | ⟨o,r⟩
 ·exact x a u r
 ·obtain⟨_,q⟩:=x a _ r
  exact q
def Oh:Option HO->Prop
 | some (.lst _)=>True
 | some (.dK _)=>True
 | some (.dT _)=>True
 | some (.set _ _)=>True
 | some (.ins _ _ _)=>True
 | some (.ext _)=>True
 | _=>False
section
variable {P:YB} {w:YE} {H:Hp} {h h':Heap} {x e:Yx} {o':HO}
theorem iY.write(ok:iY P w H h)(mu:Oh (H x))(he:e=x\/H e=some (.own x))(k:∀b u,b≠e->h.get? b=some u->h'.get? b=some u)(NZ:∃u,h'.get? e=some u)
  (new:cK P w (upd H x o') h' x o'):iY P w (upd H x o') h':=λb u q=>by
 have Oi:∀c y,H c=some (.own y)->c≠x:=λc y r z=>by subst z;rw[r] at mu;exact mu
 have RT:∀c xs,H c=some (.tup xs)->c≠x:=λc xs r z=>by subst z;rw[r] at mu;exact mu
 by_cases hb:b=x
 ·subst hb;rw[aC] at q;cases q;exact new
 ·rw[ar hb] at q
  by_cases KI:b=e
  ·have q':H b=some (.own x):=by
    rcases he with z | z
    ·exact absurd (KI.trans z) hb
    ·rw[KI];exact z
   rw[q] at q';cases q'
   obtain⟨v,hv⟩:=NZ
   exact⟨v,by rw[KI];exact hv⟩
  ·refine(ok b u q).stay (λc v hc r=>k c v ?_ r) (λc r=>by rw[ar (Oi c b r)];exact r) λc xs r=>by rw[ar (RT c xs r)];exact r
   rcases hc with rfl | hc
   ·exact KI
   ·rintro rfl
    rcases he with z | z
    ·exact Oi c b hc z
    ·rw[hc] at z;cases z;exact hb rfl
end
structure Un(fs ex:List Yx)(H H':Hp)(h h':Heap):Prop where
 keep:∀b o,h.get? b=some o->H b=none->b∉fs->b∉ex->h'.get? b=some o
 slot:∀b o,h.get? b=some o->H b=none->b∈fs->b∉ex->∃sl,h'.get? b=some { o with slots:=sl }
 free:∀b o,h.get? b=some o->H b=none->b∉ex->H' b=none
 there:∀b o,h.get? b=some o->b∉ex->∃o',h'.get? b=some o'
 tups:∀b xs,H b=some (.tup xs)->H' b=some (.tup xs)
 i8:∀b o u,H b=some (.eS o u)->H' b=some (.eS o u)
 ky:∀b ps,H b=some (.lC ps)->∃more,H' b=some (.lC (ps++more))
section
variable {fs fs' ex ex':List Yx} {H H1 H2:Hp} {h h1 h2 h':Heap} {a x e:Yx} {o:HO}
theorem Un.any(u:Un fs ex H H1 h h1){b:Yx}{ob:Obj}(q:h.get? b=some ob)(n:H b=none)(hx:b∉ex):∃sl,h1.get? b=some { ob with slots:=sl }:=by
 by_cases hb:b∈fs
 ·exact u.slot b ob q n hb hx
 ·exact⟨ob.slots,u.keep b ob q n hb hx⟩
theorem Un.kept(k:∀b u,h.get? b=some u->h'.get? b=some u):Un fs ex H H h h' :=
 ⟨λb ob q _ _ _=>k b ob q,λb ob q _ _ _=>⟨ob.slots,k b ob q⟩,λ_ _ _ n _=>n,λb ob q _=>⟨ob,k b ob q⟩,λ_ _ q=>q,λ_ _ _ q=>q,λ_ ps q=>⟨#[],by rw[q];simp⟩⟩
theorem Un.refl:Un fs ex H H h h:=Un.kept λ_ _ q=>q
theorem Un.laid(k:∀b u,h.get? b=some u->h'.get? b=some u)(hp:h.objs.size<=a)(hn:H a=none):Un fs ex H (upd H a o) h h' where
 keep:=λb u q _ _ _=>k b u q
 slot:=λb u q _ _ _=>⟨u.slots,k b u q⟩
 free:=λb u q n _=>by rw[ar (bR (bK (aL q) hp))];exact n
 there:=λb u q _=>⟨u,k b u q⟩
 tups:=λb xs q=>by rw[ar (bp q hn)];exact q
 i8:=λb u xs q=>by rw[ar (bp q hn)];exact q
 ky:=λb ps q=>⟨#[],by rw[ar (bp q hn),q];simp⟩
theorem Un.write(mu:Oh (H x))(he:e=x\/H e=some (.own x))(k:∀b u,b≠e->h.get? b=some u->h'.get? b=some u)(NZ:∃u,h'.get? e=some u):Un fs ex H (upd H x o) h h':=by
 have hx:∀b,H b=none->b≠x:=λb n z=>by subst z;rw[n] at mu;exact mu
 have hb:∀b,H b=none->b≠e:=λb n z=>by
  subst z
  rcases he with r | r
  ·exact hx b n r
  ·rw[n] at r;cases r
 have hm:∀b u,H b=some u->¬Oh (some u)->b≠x:=λb u q nm z=>by subst z;rw[q] at mu;exact nm mu
 refine⟨λb u q n _ _=>k b u (hb b n) q,λb u q n _ _=>⟨u.slots,k b u (hb b n) q⟩,λb u q n _=>by rw[ar (hx b n)];exact n,λb u q _=>?_,
  λb xs q=>by rw[ar (hm b _ q λz=>z)];exact q,λb u xs q=>by rw[ar (hm b _ q λz=>z)];exact q,λb ps q=>⟨#[],by rw[ar (hm b _ q λz=>z),q];simp⟩⟩
 by_cases KI:b=e
 ·subst KI;exact NZ
 ·exact⟨u,k b u KI q⟩
end
def QU(h:Heap)(H:Hp):List Yx:=(dm h.objs.size).filter λa=>(H a).isSome
def sI(h:Heap)(H:Hp):Heap:=PySem.W.hideAll h (QU h H)
theorem Af(h:Heap)(H:Hp):(sI h H).objs.size=h.objs.size:=PySem.W.hideAll_size _ _
theorem B5{h:Heap}{H:Hp}{b:Yx}{o:Obj}(e:h.get? b=some o)(n:H b=none):(sI h H).get? b=some o :=
 PySem.W.hideAll_get _ e λhm=>by
  have q:(H b).isSome=true:=(List.mem_filter.mp hm).2
  rw[n] at q;simp at q
theorem Gh{h:Heap}{H:Hp}{b:Yx}{o:Obj}(e:(sI h H).get? b=some o):h.get? b=some o/\H b=none:=by
 have e':h.get? b=some o:=PySem.W.of_hideAll (QU h H) e
 refine⟨e',?_⟩
 cases q:H b with
 | none=>rfl
 | some x=>
  have hm:b∈QU h H:=List.mem_filter.mpr ⟨List.mem_range.mpr (aL e'),by simp[q]⟩
  have z:(sI h H).get? b=none:=PySem.W.hideAll_none (QU h H) hm
  rw[z] at e;cases e
structure Mod(K:PySem.W.Frag)(mg:Str->Option YD)(base:Heap):Prop where
 B6:K.In base
 glob:base.Ns YN mg
 blt:∃mb,base.Ns builtinsNs mb/\∀x:Str,x≠"__name__"->mb x=YH x
 nolimit:base.NoLimit
structure Cx where
 prog:YB
 w:YE
 K:PySem.W.Frag
 mg:Str->Option YD
 base:Heap
 A:Yy
 N:List Str
 s₀:YC
 H₀:Hp
 env:Env
 outer:List Env
 stack:List Env
 ex:List Yx
 fn:Str->Bool
 calm:Bool
 pn:List (Yx×Obj)
 xe:YD->YC->Prop
def frs(l:List Env):List Yx:=l.filterMap (·.frame)
abbrev Cx.fs(X:Cx):List Yx:=frs X.outer
def RU(sc:Scope)(x:Str):Prop:=sc.names.lookup x=some .local\/sc.names.lookup x=some .cell\/sc.names.lookup x=some .free
def Loc(sc:Scope)(x:Str):Prop:=sc.names.lookup x=some .local\/sc.names.lookup x=some .cell
def Look(env:Env)(h:Heap)(m:Str->Option YD)(x:Str)(u:YD):Prop :=
 (env.kindOf x=some .local/\m x=some u)\/((env.kindOf x=some .cell\/env.kindOf x=some .free)/\∃c,env.cells.lookup x=some c/\h.IsCell c (some u))
structure Cx.Ok(X:Cx):Prop where
 mod:Mod X.K X.mg X.base
 kind:X.env.scope.kind= .function
 glob:X.env.globals=YN
 blt:X.env.builtins=builtinsNs
 above:X.s₀.heap.objs.size<=X.env.locals
 inj:∀x y c,X.env.cells.lookup x=some c->X.env.cells.lookup y=some c->x=y
 has:∀x,(X.env.kindOf x=some .cell\/X.env.kindOf x=some .free)->∃c,X.env.cells.lookup x=some c
 N0:∀x c,X.fn x=true->X.env.cells.lookup x=some c->X.s₀.heap.objs.size<=c
 hd:X.calm=true->X.A.handled=none
 frames:X.A.frames=some X.stack
 stk:X.stack=X.outer\/(X.stack=X.env::X.outer/\X.env.frame=some X.env.locals)
 RV:∀b∈X.ex,b≠X.env.locals/\∀x c,X.env.cells.lookup x=some c->c≠b
 bs:∀b o,X.base.get? b=some o->X.s₀.heap.get? b=some o/\X.H₀ b=none
 BQ:X.base.objs.size<=X.s₀.heap.objs.size
 Ag:∀b o,X.base.get? b=some o->b∉X.ex
 B7:∀b∈X.ex,b∉X.fs
 kK:X.s₀.heap.FunFrames X.base X.outer
 Gi:∀b∈X.fs,X.H₀ b=none
structure Inv(X:Cx)(pins:List (Yx×Obj))(σ:List (Option V))(H:Hp)(s:YC):Prop where
 ok:X.Ok
 os:s.os=X.s₀.os
 bare:AllBare s.gens
 base:Un X.fs X.ex X.H₀ H X.s₀.heap s.heap
 loc:∃m,s.heap.Ns X.env.locals m/\∀(i:Nat)(x:Str)(v:V),X.N[i]? =some x->σ[i]? =some (some v)->RU X.env.scope x->∃u,RelV v u/\Look X.env s.heap m x u
 cell:∀x c,X.env.cells.lookup x=some c->∃v,s.heap.IsCell c v
 free:H X.env.locals=none
 gQ:∀x c,X.env.cells.lookup x=some c->H c=none
 pin:∀p∈X.pn++pins,s.heap.get? p.1=some p.2/\H p.1=none/\p.1≠X.env.locals/\p.1∉X.fs/\∀v,p.2.data≠.cell v
 hok:iY X.prog X.w H s.heap
 len:σ.length=X.N.length
section
variable {X:Cx} {pins:List (Yx×Obj)} {σ:List (Option V)} {H H':Hp} {s:YC} {h':Heap}
theorem Cx.Ok.Oj(ok:X.Ok){b:Yx}{o:Obj}(e:X.base.get? b=some o):b∉X.fs:=λhb=>by
 have:=(ok.kK.mem hb).1
 rw[e] at this;cases this
theorem Inv.bs(I:Inv X pins σ H s):∀b o,X.base.get? b=some o->s.heap.get? b=some o/\H b=none:=λb o e=>
 ⟨I.base.keep b o (I.ok.bs b o e).1 (I.ok.bs b o e).2 (I.ok.Oj e) (I.ok.Ag b o e),I.base.free b o (I.ok.bs b o e).1 (I.ok.bs b o e).2 (I.ok.Ag b o e)⟩
theorem Inv.bk(I:Inv X pins σ H s):∀b o,X.base.get? b=some o->s.heap.get? b=some o:=λb o e=>(I.bs b o e).1
theorem Inv.mod(I:Inv X pins σ H s):Mod X.K X.mg X.base:=I.ok.mod
theorem Inv.wN(I:Inv X pins σ H s):X.K.In s.heap:=I.ok.mod.B6.keeps I.bk
theorem Inv.lt(I:Inv X pins σ H s):X.env.locals < s.heap.objs.size:=let ⟨_,hn,_⟩:=I.loc;hn.lt
theorem Inv.sz(I:Inv X pins σ H s):X.s₀.heap.objs.size<=s.heap.objs.size:=aX I.ok.above (om I.lt)
theorem Inv.RW(I:Inv X pins σ H s){a:Yx}(h:s.heap.objs.size<=a):a∉X.fs:=λhb=>by
 obtain⟨_,o,ho,_⟩:=I.ok.kK.mem hb
 exact absurd (bK (aL ho) (aX I.sz h)) (fq _)
theorem Inv.Gj(I:Inv X pins σ H s):∀x c,X.env.cells.lookup x=some c->c≠X.env.locals:=λx c e z=>by
 obtain⟨v,o,ho,hd⟩:=I.cell x c e
 obtain⟨m,⟨o',es,ep,ho',hd',_⟩,_⟩:=I.loc
 rw[z,ho'] at ho;cases ho;rw[hd'] at hd;cases hd
theorem Inv.kK(I:Inv X pins σ H s):s.heap.FunFrames X.base X.outer:=by
 have all:∀(l:List Env),(∀b∈frs l,b∈X.fs)->X.s₀.heap.FunFrames X.base l->s.heap.FunFrames X.base l:=by
  intro l
  induction l with
  | nil=>intro _ _;trivial
  | cons env r ih=>
   intro hs hl
   obtain⟨hk,⟨L,o,hf,hn,ho,hd⟩,hr⟩:=hl
   have hL:L∈X.fs:=hs L (by unfold frs;rw[sJ,hf];exact aP)
   obtain⟨sl,e⟩:=I.base.slot L o ho (I.ok.Gi L hL) hL λz=>I.ok.B7 L z hL
   exact⟨hk,⟨L,_,hf,hn,e,hd⟩,ih (λb hb=>hs b (by unfold frs;rw[sJ,hf];exact aJ _ hb)) hr⟩
 exact all X.outer (λ_ hb=>hb) I.ok.kK
theorem Inv.stack(I:Inv X pins σ H s):s.heap.FunFrames X.base X.stack:=by
 rcases I.ok.stk with e | ⟨e,hf⟩
 ·rw[e];exact I.kK
 ·rw[e]
  obtain⟨m,hn,_⟩:=I.loc
  refine .cons (by rw[I.ok.kind];decide) hf hn ?_ I.kK
  exact wO (aX I.ok.BQ I.ok.above)
theorem Inv.jd(I:Inv X pins σ H s):∀b∈frs X.stack,b∈X.env.locals::X.fs:=λb hb=>by
 rcases I.ok.stk with e | ⟨e,hf⟩
 ·rw[e] at hb;exact aJ _ hb
 ·rw[e] at hb
  unfold frs at hb
  rw[sJ,hf] at hb
  exact hb
theorem Inv.jP(I:Inv X pins σ H s):∀b∈frs X.stack,H b=none:=λb hb=>by
 rcases List.mem_cons.mp (I.jd b hb) with e | hb
 ·rw[e];exact I.free
 ·obtain⟨_,o,ho,_⟩:=I.ok.kK.mem hb
  exact I.base.free b o ho (I.ok.Gi b hb) λz=>I.ok.B7 b z hb
theorem Inv.step{g':Array GenState}{t':Nat}{d':Drawn}{ch:List Yx}(I:Inv X pins σ H s)
  (hch:∀b∈ch,(b∈X.ex\/X.s₀.heap.objs.size<=b)/\b≠X.env.locals/\(∀x c,X.env.cells.lookup x=some c->c≠b)/\∀p∈X.pn++pins,p.1≠b)
  (keep:∀b o,b≠X.env.locals->b∉X.fs->b∉ch->s.heap.get? b=some o->H b=none->h'.get? b=some o)
  (slot:∀b o,b≠X.env.locals->b∈X.fs->b∉ch->s.heap.get? b=some o->H b=none->∃sl,h'.get? b=some { o with slots:=sl })(free:∀b o,b∉ch->s.heap.get? b=some o->H b=none->H' b=none)
  (there:∀b o,b∉ch->s.heap.get? b=some o->∃o',h'.get? b=some o')
  (tups:∀b xs,H b=some (.tup xs)->H' b=some (.tup xs))(i8:∀b o u,H b=some (.eS o u)->H' b=some (.eS o u))(ky:∀b ps,H b=some (.lC ps)->∃more,H' b=some (.lC (ps++more)))
  (ns:∀m,s.heap.Ns X.env.locals m->h'.Ns X.env.locals m)(hok:iY X.prog X.w H' h')(hg:AllBare g') :
  Inv X pins σ H' { s with heap:=h',gens:=g',drawn:=d',toks:=t' }:=by
 have Vd:∀b o,X.s₀.heap.get? b=some o->b≠X.env.locals:=λb o e=>bR (bK (aL e) I.ok.above)
 have QV:∀b o,X.s₀.heap.get? b=some o->b∉X.ex->b∉ch:=λb o e hx hb=>by
  rcases(hch b hb).1 with z | z
  ·exact hx z
  ·exact absurd (bK (aL e) z) (fq _)
 have cellK:∀x c,X.env.cells.lookup x=some c->∀v,s.heap.IsCell c v->h'.IsCell c v:=λx c e v ⟨o,ho,hd⟩=>by
  have KJ:c∉ch:=λz=>(hch c z).2.2.1 x c e rfl
  by_cases hc:c∈X.fs
  ·obtain⟨sl,q⟩:=slot c o (I.Gj x c e) hc KJ ho (I.gQ x c e)
   exact⟨_,q,hd⟩
  ·exact⟨o,keep c o (I.Gj x c e) hc KJ ho (I.gQ x c e),hd⟩
 refine⟨I.ok,I.os,hg,⟨λb o e n hb hx=>?_,λb o e n hb hx=>?_,λb o e n hx=>?_,λb o e hx=>?_,λb xs e=>tups b xs (I.base.tups b xs e),λb o xs e=>i8 b o xs (I.base.i8 b o xs e),λb ps e=>?_⟩,?_,λx c e=>?_,?_,λx c e=>?_,λp hp=>?_,hok,I.len⟩
 ·exact keep b o (Vd b o e) hb (QV b o e hx) (I.base.keep b o e n hb hx) (I.base.free b o e n hx)
 ·obtain⟨sl,e1⟩:=I.base.slot b o e n hb hx
  obtain⟨Wl,e2⟩:=slot b _ (Vd b o e) hb (QV b o e hx) e1 (I.base.free b o e n hx)
  exact⟨Wl,e2⟩
 ·obtain⟨o',e1⟩:=I.base.there b o e hx
  exact free b o' (QV b o e hx) e1 (I.base.free b o e n hx)
 ·obtain⟨o',e1⟩:=I.base.there b o e hx
  exact there b o' (QV b o e hx) e1
 ·obtain⟨m1,e1⟩:=I.base.ky b ps e
  obtain⟨m2,e2⟩:=ky b _ e1
  exact⟨m1++m2,by rw[e2,Array.append_assoc]⟩
 ·obtain⟨m,hn,hl⟩:=I.loc
  refine⟨m,ns m hn,λi x v e1 e2 e3=>?_⟩
  obtain⟨u,r,l⟩:=hl i x v e1 e2 e3
  refine⟨u,r,?_⟩
  rcases l with l | ⟨k,c,e,z⟩
  ·exact .inl l
  ·exact .inr ⟨k,c,e,cellK x c e _ z⟩
 ·obtain⟨v,z⟩:=I.cell x c e
  exact⟨v,cellK x c e v z⟩
 ·obtain⟨m,⟨o,_,_,ho,_⟩,_⟩:=I.loc
  exact free _ o (λz=>(hch _ z).2.1 rfl) ho I.free
 ·obtain⟨v,o,ho,hd⟩:=I.cell x c e
  exact free c o (λz=>(hch c z).2.2.1 x c e rfl) ho (I.gQ x c e)
 ·obtain⟨e,n,ne,nf,d⟩:=I.pin p hp
  have KJ:p.1∉ch:=λz=>(hch p.1 z).2.2.2 p hp rfl
  exact⟨keep p.1 p.2 ne nf KJ e n,free p.1 p.2 KJ e n,ne,nf,d⟩
theorem Inv.un{t':Nat}(I:Inv X pins σ H s)(u:Un X.fs [] H H' s.heap h')(hok:iY X.prog X.w H' h'):Inv X pins σ H' { s with heap:=h',toks:=t' }:=by
 obtain⟨m,⟨o,es,ep,ho,r⟩,_⟩:=id I.loc
 obtain⟨sl,hL⟩:=u.any ho I.free (by simp)
 exact I.step (g':=s.gens) (d':=s.drawn) (ch:=[]) (λ_ z=>nomatch z) (λb o _ hb _ e n=>u.keep b o e n hb (by simp)) (λb o _ hb _ e n=>u.slot b o e n hb (by simp)) (λb o _ e n=>u.free b o e n (by simp)) (λb o _ e=>u.there b o e (by simp)) u.tups u.i8 u.ky (λm' hm=>by
  obtain⟨o',es',RX,ho',r'⟩:=hm
  rw[ho] at ho';cases ho'
  exact⟨_,es',RX,hL,r'⟩) hok I.bare
theorem Inv.call{g':Array GenState}{t':Nat}{d':Drawn}{ch:List Yx}(I:Inv X pins σ H s)(u:Un (frs X.stack) ch H H' s.heap h')(hok:iY X.prog X.w H' h')(hg:AllBare g')
  (hch:∀b∈ch,(b∈X.ex\/X.s₀.heap.objs.size<=b)/\b≠X.env.locals/\(∀x c,X.env.cells.lookup x=some c->c≠b)/\∀p∈X.pn++pins,p.1≠b) :
  Inv X pins σ H' { s with heap:=h',gens:=g',drawn:=d',toks:=t' }:=by
 obtain⟨m,⟨o,es,ep,ho,r⟩,_⟩:=id I.loc
 obtain⟨sl,hL⟩:=u.any ho I.free λz=>(hch _ z).2.1 rfl
 exact I.step (ch:=ch) hch (λb o hL hb hc e n=>u.keep b o e n (λz=>(List.mem_cons.mp (I.jd b z)).elim hL hb) hc) (λb o _ _ hc e n=>u.any e n hc) (λb o hc e n=>u.free b o e n hc) (λb o hc e=>u.there b o e hc) u.tups u.i8 u.ky (λm' hm=>by
  obtain⟨o',es',RX,ho',r'⟩:=hm
  rw[ho] at ho';cases ho'
  exact⟨_,es',RX,hL,r'⟩) hok hg
theorem Inv.turned{t':Nat}{it:Yx}(I:Inv X pins σ H s)(k:∀b o,b≠it->s.heap.get? b=some o->h'.get? b=some o)(hn:H it=none)(hL:it≠X.env.locals)
  (h1:it∈X.ex\/X.s₀.heap.objs.size<=it)(h2:∀x c,X.env.cells.lookup x=some c->c≠it)(h3:∀p∈X.pn++pins,p.1≠it):Inv X pins σ H { s with heap:=h',toks:=t' }:=by
 have Ve:∀b u,H b=some u->b≠it:=λb u e z=>by rw[z,hn] at e;cases e
 refine I.step (g':=s.gens) (d':=s.drawn) (ch:=[it]) (λb hb=>?_) (λb o _ _ hc e _=>k b o (λz=>hc (by simp[z])) e) (λb o _ _ hc e _=>⟨o.slots,k b o (λz=>hc (by simp[z])) e⟩) (λ_ _ _ _ n=>n)
  (λb o hc e=>⟨o,k b o (λz=>hc (by simp[z])) e⟩) (λ_ _ e=>e) (λ_ _ _ e=>e) (λb ps e=>⟨#[],by rw[e];simp⟩) (λm hm=>?_) (λb u e=>?_) I.bare
 ·have e:b=it:=by simpa using hb
  subst e
  exact⟨h1,hL,h2,h3⟩
 ·obtain⟨o,es,ep,ho,r⟩:=hm
  exact⟨o,es,ep,k _ o (bt hL) ho,r⟩
 ·refine(I.hok b u e).stay (λc v hc q=>k c v ?_ q) (λ_ q=>q) λ_ _ q=>q
  rcases hc with z | z
  ·rw[z];exact Ve b u e
  ·exact Ve c _ z
theorem Inv.tok(I:Inv X pins σ H s)(t:Nat):Inv X pins σ H { s with toks:=t }:=I.un (h':=s.heap) (t':=t) Un.refl I.hok
theorem Inv.kept{t':Nat}(I:Inv X pins σ H s)(k:∀b u,s.heap.get? b=some u->h'.get? b=some u):Inv X pins σ H { s with heap:=h',toks:=t' }:=I.un (Un.kept k) (I.hok.kept k)
theorem Inv.laid{a:Yx}{o:HO}{t':Nat}(I:Inv X pins σ H s)(k:∀b u,s.heap.get? b=some u->h'.get? b=some u)(hp:s.heap.objs.size<=a)(new:cK X.prog X.w (upd H a o) h' a o) :
  Inv X pins σ (upd H a o) { s with heap:=h',toks:=t' }:=I.un (Un.laid k hp (I.hok.fresh hp)) (I.hok.laid k hp new)
theorem Inv.write{x e:Yx}{o:HO}{t':Nat}(I:Inv X pins σ H s)(mu:Oh (H x))(he:e=x\/H e=some (.own x))(k:∀b u,b≠e->s.heap.get? b=some u->h'.get? b=some u)(NZ:∃u,h'.get? e=some u)
  (new:cK X.prog X.w (upd H x o) h' x o):Inv X pins σ (upd H x o) { s with heap:=h',toks:=t' }:=I.un (Un.write mu he k NZ) (I.hok.write mu he k NZ new)
theorem Inv.yH{ig:List (Yx×Obj)}(I:Inv X pins σ H s)(h:∀p∈ig,s.heap.get? p.1=some p.2/\H p.1=none/\p.1≠X.env.locals/\p.1∉X.fs/\∀v,p.2.data≠.cell v):Inv X ig σ H s :=
 ⟨I.ok,I.os,I.bare,I.base,I.loc,I.cell,I.free,I.gQ,λp hp=>(List.mem_append.mp hp).elim (λz=>I.pin p (oX _ z)) (h p),I.hok,I.len⟩
theorem oY{N:List Str}(hN:N.Nodup){i j:Nat}{x:Str}(a:N[i]? =some x)(b:N[j]? =some x):i=j:=by
 obtain⟨h1,e1⟩:=List.getElem?_eq_some_iff.mp a
 obtain⟨h2,e2⟩:=List.getElem?_eq_some_iff.mp b
 exact(List.getElem_inj hN).mp (e1.trans e2.symm)
theorem mQ{M:Model}{A:Yy}{E:YD->YC->Prop}{i:Nat}{x:Str}{v:V}{u:YD}{Q:Unit->YC->Prop}(I:Inv X pins σ H s)(hN:X.N.Nodup)(hi:X.N[i]? =some x)(hx:Loc X.env.scope x)(r:RelV v u)
  (h:∀s',Inv X pins (σ.set i (some v)) H s'->(∃a,wQ a s.heap s'.heap/\(a=X.env.locals\/X.env.cells.lookup x=some a))->Q () s')(hf:X.fn x=true\/X.env.scope.names.lookup x=some .local:=by first | exact .inl rfl | exact .inr rfl | assumption):YR M A (storeName X.env x u) Q E s:=by
 obtain⟨m,hn,hl⟩:=id I.loc
 have hcls:(X.env.scope.kind == .class||(X.env.scope.kind == .module&&X.env.locals != X.env.globals))=false:=by rw[I.ok.kind];rfl
 have Ol:i < σ.length:=by rw[I.len];exact(List.getElem?_eq_some_iff.mp hi).1
 have Gj:=I.Gj
 have tracked:∀{a:Yx}{h':Heap},(∃o,s.heap.get? a=some o/\H a=none)->wQ a s.heap h'->iY X.prog X.w H h':=λ{a h'} ha hs b ob e=>by
  obtain⟨_,_,hfree⟩:=ha
  refine(I.hok b ob e).stay (λc w' hc q=>(hs.2 c ?_).trans q) (λ_ q=>q) λ_ _ q=>q
  rintro rfl
  rcases hc with rfl | hc
  ·rw[hfree] at e;cases e
  ·rw[hfree] at hc;cases hc
 rcases hx with hk | hk
 ·refine wpAny_storeName_local hk hn (λh' hn' hs=>?_) hcls
  obtain⟨oL,_,_,Vf,_⟩:=id hn
  refine h _ ⟨I.ok,I.os,I.bare,⟨λb o e n hb hx=>?_,λb o e n hb hx=>?_,I.base.free,λb o e hx=>?_,I.base.tups,I.base.i8,I.base.ky⟩,⟨_,hn',λj y v' e1 e2 e3=>?_⟩,λy c e=>?_,I.free,I.gQ,λp hp=>?_,tracked ⟨oL,Vf,I.free⟩ hs,by simpa using I.len⟩ ⟨_,hs,.inl rfl⟩
  ·exact(hs.2 b (bR (bK (aL e) I.ok.above))).trans (I.base.keep b o e n hb hx)
  ·obtain⟨sl,e1⟩:=I.base.slot b o e n hb hx
   exact⟨sl,(hs.2 b (bR (bK (aL e) I.ok.above))).trans e1⟩
  ·obtain⟨o',e1⟩:=I.base.there b o e hx
   exact⟨o',(hs.2 b (bR (bK (aL e) I.ok.above))).trans e1⟩
  ·by_cases hj:j=i
   ·subst hj
    rw[hi] at e1;cases e1
    rw[kL Ol] at e2
    cases e2
    exact⟨u,r,.inl ⟨hk,by simp⟩⟩
   ·rw[bW (bt hj)] at e2
    obtain⟨u',r',q⟩:=hl j y v' e1 e2 e3
    refine⟨u',r',?_⟩
    rcases q with ⟨k,e⟩ | ⟨k,c,e,z⟩
    ·refine .inl ⟨k,?_⟩
     have:y≠x:=λe=>hj (oY hN e1 (e ▸ hi))
     simp[this,e]
    ·exact .inr ⟨k,c,e,z.sameBut hs (Gj y c e)⟩
  ·obtain⟨w',z⟩:=I.cell y c e
   exact⟨w',z.sameBut hs (Gj y c e)⟩
  ·obtain⟨e,n,ne,nf,d⟩:=I.pin p hp
   exact⟨(hs.2 p.1 ne).trans e,n,ne,nf,d⟩
 ·have hfn:X.fn x=true:=by
   rcases hf with z | z
   ·exact z
   ·rw[z] at hk;cases hk
  obtain⟨c,hc⟩:=I.ok.has x (.inl hk)
  obtain⟨w',z⟩:=I.cell x c hc
  refine wpAny_storeName_cell I.ok.kind hk hc z (λh' hc' hs=>?_)
  obtain⟨oc,hoc,RY⟩:=id z
  refine h { s with heap:=h' } ⟨I.ok,I.os,I.bare,⟨λb o e n hb hx=>?_,λb o e n hb hx=>?_,I.base.free,λb o e hx=>?_,I.base.tups,I.base.i8,I.base.ky⟩,⟨m,hn.sameBut hs (bt (Gj x c hc)),λj y v' e1 e2 e3=>?_⟩,λy c' e=>?_,I.free,I.gQ,λp hp=>?_,tracked ⟨oc,hoc,I.gQ x c hc⟩ hs,by simpa using I.len⟩ ⟨c,hs,.inr hc⟩
  ·exact(hs.2 b (bR (bK (aL e) (I.ok.N0 x c hfn hc)))).trans (I.base.keep b o e n hb hx)
  ·obtain⟨sl,e1⟩:=I.base.slot b o e n hb hx
   exact⟨sl,(hs.2 b (bR (bK (aL e) (I.ok.N0 x c hfn hc)))).trans e1⟩
  ·obtain⟨o',e1⟩:=I.base.there b o e hx
   exact⟨o',(hs.2 b (bR (bK (aL e) (I.ok.N0 x c hfn hc)))).trans e1⟩
  ·by_cases hj:j=i
   ·subst hj
    rw[hi] at e1;cases e1
    rw[kL Ol] at e2
    cases e2
    exact⟨u,r,.inr ⟨.inl hk,c,hc,hc'⟩⟩
   ·rw[bW (bt hj)] at e2
    obtain⟨u',r',q⟩:=hl j y v' e1 e2 e3
    refine⟨u',r',?_⟩
    rcases q with q | ⟨k,c',e,z'⟩
    ·exact .inl q
    ·refine .inr ⟨k,c',e,z'.sameBut hs ?_⟩
     rintro rfl
     exact hj (oY hN e1 (I.ok.inj _ _ _ e hc ▸ hi))
  ·by_cases hcc:c'=c
   ·subst hcc;exact⟨_,hc'⟩
   ·obtain⟨w2,z2⟩:=I.cell y c' e
    exact⟨w2,z2.sameBut hs hcc⟩
  ·obtain⟨e,n,ne,nf,d⟩:=I.pin p hp
   refine⟨(hs.2 p.1 ?_).trans e,n,ne,nf,d⟩
   intro q
   rw[q,hoc] at e
   have q':oc=p.2:=Option.some.inj e
   exact d w' (by rw[<-q'];exact RY)
theorem lD{M:Model}{A:Yy}{E:YD->YC->Prop}{i:Nat}{x:Str}{v:V}{u:YD}{Q:Unit->YC->Prop}(I:Inv X pins σ H s)(hN:X.N.Nodup)(hi:X.N[i]? =some x)(hx:Loc X.env.scope x)(r:RelV v u)
  (h:∀s',Inv X pins (σ.set i (some v)) H s'->Q () s')(hf:X.fn x=true\/X.env.scope.names.lookup x=some .local:=by first | exact .inl rfl | exact .inr rfl | assumption):YR M A (storeName X.env x u) Q E s :=
 mQ I hN hi hx r (λs' I' _=>h s' I') hf
theorem Inv.rn{s':YC}{ch:List Yx}(I:Inv X pins σ H s)(ho:s'.os=s.os)(u:Un (frs X.stack) ch H H' s.heap s'.heap)(hok:iY X.prog X.w H' s'.heap)(hg:AllBare s'.gens)
  (hch:∀b∈ch,(b∈X.ex\/X.s₀.heap.objs.size<=b)/\b≠X.env.locals/\(∀x c,X.env.cells.lookup x=some c->c≠b)/\∀p∈X.pn++pins,p.1≠b):Inv X pins σ H' s':=by
 obtain⟨h',g',d',t',o'⟩:=s'
 have e:o'=s.os:=ho
 subst e
 exact I.call (g':=g') (t':=t') (d':=d') u hok hg hch
end
abbrev XK:=YD->Option Yx->Hp->Prop
abbrev St:=List (Option V)
abbrev VK:=V->Hp->Prop
abbrev TE:=St->Hp->VK->Prop
abbrev TT:=St->Hp->(Bool->Hp->Prop)->Prop
abbrev TA:=St->Hp->(List V->Hp->Prop)->Prop
structure Ends where
 nx:St->Hp->Prop
 rt:VK
 bk:St->Hp->Prop:=λ_ _=>False
 ct:St->Hp->Prop:=λ_ _=>False
abbrev TS:=Ends->St->Hp->Prop
def EP(X:Cx)(pins:List (Yx×Obj))(σ:St)(Q:VK)(u:YD)(s':YC):Prop:=∃v H',Inv X pins σ H' s'/\RelV v u/\Q v H'
def TP(X:Cx)(pins:List (Yx×Obj))(σ:St)(Q:Bool->Hp->Prop)(b:Bool)(s':YC):Prop:=∃H',Inv X pins σ H' s'/\Q b H'
def AP(X:Cx)(pins:List (Yx×Obj))(σ:St)(Q:List V->Hp->Prop)(us:List YD)(s':YC):Prop:=∃vs H',Inv X pins σ H' s'/\Vals vs us/\Q vs H'
def SP(X:Cx)(pins:List (Yx×Obj))(D:Ends)(f:Flow)(s':YC):Prop :=
 match f with
 | .next=>∃σ' H',Inv X pins σ' H' s'/\D.nx σ' H'
 | .brk=>∃σ' H',Inv X pins σ' H' s'/\D.bk σ' H'
 | .cont=>∃σ' H',Inv X pins σ' H' s'/\D.ct σ' H'
 | .ret u=>∃v σ' H',Inv X pins σ' H' s'/\RelV v u/\D.rt v H'
def PE(X:Cx)(e:Expr)(t:TE):Prop :=
 ∀(pins:List (Yx×Obj))(s:YC)(σ:St)(H:Hp)(Q:VK),Inv X pins σ H s->t σ H Q->YR (model X.prog X.w) X.A (eval e X.env) (EP X pins σ Q) X.xe s
def PT(X:Cx)(e:Expr)(t:TT):Prop :=
 ∀(pins:List (Yx×Obj))(s:YC)(σ:St)(H:Hp)(Q:Bool->Hp->Prop),Inv X pins σ H s->t σ H Q->YR (model X.prog X.w) X.A (isTrue e X.env (eval e X.env)) (TP X pins σ Q) X.xe s
def PW(X:Cx)(e:Expr)(t:TT):Prop :=
 ∀(whole:Sem YD)(pins:List (Yx×Obj))(s:YC)(σ:St)(H:Hp)(Q:Bool->Hp->Prop),Inv X pins σ H s->t σ H Q->YR (model X.prog X.w) X.A (isTrue e X.env whole) (TP X pins σ Q) X.xe s
def PA(X:Cx)(es:List Expr)(t:TA):Prop :=
 ∀(pos:Pos)(pins:List (Yx×Obj))(s:YC)(σ:St)(H:Hp)(Q:List V->Hp->Prop),Inv X pins σ H s->t σ H Q->YR (model X.prog X.w) X.A (spliced (backTo pos (YQ es X.env))) (AP X pins σ Q) X.xe s
def PS(X:Cx)(st:Stmt)(t:TS):Prop :=
 ∀(pins:List (Yx×Obj))(s:YC)(σ:St)(H:Hp)(D:Ends),Inv X pins σ H s->t D σ H->YR (model X.prog X.w) X.A (exec st X.env) (SP X pins D) X.xe s
def B8(X:Cx)(st:List Stmt)(t:TS):Prop :=
 ∀(pins:List (Yx×Obj))(s:YC)(σ:St)(H:Hp)(D:Ends),Inv X pins σ H s->t D σ H->YR (model X.prog X.w) X.A (execs st X.env) (SP X pins D) X.xe s
theorem bg{α:Type}{t:Sem α}{Q Q':α->YC->Prop}{M:Model}{A:Yy}{E:YD->YC->Prop}{s:YC}(h:YR M A t Q E s)(hQ:∀a s,Q a s->Q' a s):YR M A t Q' E s:=YV h hQ λ_ _ x=>x
section
variable {X:Cx}
def RZ(i:Nat):TE:=λσ H Q=>∃v,σ[i]? =some (some v)/\Q v H
def tC(v:V):TE:=λ_ H Q=>Q v H
theorem KL{i:Nat}{x:Str}{pos:Pos}(hN:X.N[i]? =some x)(hv:RU X.env.scope x)(hd:(x == ("__debug__":Str))=false:=by decide)(hcd:(x == ("__classdict__":Str))=false:=by decide):PE X (.Name x pos) (RZ i):=by
 intro pins s σ H Q I h
 obtain⟨v,e,h⟩:=h
 obtain⟨m,hn,hl⟩:=I.loc
 obtain⟨u,r,l⟩:=hl i x v hN e hv
 have fin:EP X pins σ Q u s:=⟨v,H,I,r,h⟩
 rcases l with ⟨hk,hm⟩ | ⟨hk,c,hc,hcell⟩
 ·exact wpAny_Name (wpAny_loadName_local I.ok.kind hk hn hm fin) hd
 ·rcases hk with hk | hk
  ·exact wpAny_Name (wpAny_loadName_cell I.ok.kind hk hc hcell fin) hd
  ·exact wpAny_Name (wpAny_loadName_free I.ok.kind hk hc hcell fin hcd) hd
theorem KN{i j pos}:PE X (.Constant (.int i) j pos) (tC (.int i)):=λ_ _ _ H _ I h=>wpAny_Constant_int ⟨.int i,H,I.tok _,⟨_,rfl⟩,h⟩
theorem Om{b j pos}:PE X (.Constant (.bool b) j pos) (tC (.bl b)):=λ_ _ _ H _ I h=>Constant_bool ⟨.bl b,H,I,rfl,h⟩
theorem KO{j pos}:PE X (.Constant .none j pos) (tC .ay):=λ_ _ _ H _ I h=>Constant_none ⟨.ay,H,I,rfl,h⟩
theorem KP{x j pos}:PE X (.Constant (.str x) j pos) (tC (.str x)):=λ_ _ _ H _ I h=>Calls.Constant_str ⟨.str x,H,I.tok _,⟨_,rfl⟩,h⟩
def Gl(X:Cx)(x:Str):Prop:=X.env.kindOf x=some .globalImplicit
theorem lE{E:YD->YC->Prop}{pins:List (Yx×Obj)}{s:YC}{σ:St}{H:Hp}{x:Str}{u:YD}{pos:Pos}{Q:YD->YC->Prop}(I:Inv X pins σ H s)(hg:Gl X x)(hm:X.mg x=some u)(h:Q u s)
  (hd:(x == ("__debug__":Str))=false:=by decide):YR (model X.prog X.w) X.A (eval (.Name x pos) X.env) Q E s :=
 KQ I.ok.kind hg (Calls.loadGlobal_global (by rw[I.ok.glob];exact I.mod.glob.keeps I.bk) hm h) hd
theorem mR{E:YD->YC->Prop}{pins:List (Yx×Obj)}{s:YC}{σ:St}{H:Hp}{x:Str}{u:YD}{pos:Pos}{Q:YD->YC->Prop}(I:Inv X pins σ H s)(hg:Gl X x)(hm:X.mg x=none)(hv:YH x=some u)(h:Q u s)
  (hn:x≠"__name__":=by decide)(hd:(x == ("__debug__":Str))=false:=by decide):YR (model X.prog X.w) X.A (eval (.Name x pos) X.env) Q E s:=by
 obtain⟨mb,h1,h2⟩:=I.mod.blt
 exact KQ I.ok.kind hg (Calls.loadGlobal_builtin (by rw[I.ok.glob];exact I.mod.glob.keeps I.bk) hm (by rw[I.ok.blt];exact h1.keeps I.bk) ((h2 x hn).trans hv) h) hd
theorem fS{x:Str}{v:V}{u:YD}{pos:Pos}(hg:Gl X x)(hm:X.mg x=some u)(r:RelV v u)(hd:(x == ("__debug__":Str))=false:=by decide):PE X (.Name x pos) (tC v) :=
 λ_ _ _ H _ I h=>lE I hg hm ⟨v,H,I,r,h⟩ hd
theorem Gk{x:Str}{v:V}{u:YD}{pos:Pos}(hg:Gl X x)(hm:X.mg x=none)(hv:YH x=some u)(r:RelV v u)(hn:x≠"__name__":=by decide)(hd:(x == ("__debug__":Str))=false:=by decide):PE X (.Name x pos) (tC v) :=
 λ_ _ _ H _ I h=>mR I hg hm hv ⟨v,H,I,r,h⟩ hn hd
variable {a b:Expr} {ta tb:TE} {pos:Pos}
def PC(X:Cx)(op:CmpOp)(a b:Expr)(t:TE):Prop :=
 ∀(pins:List (Yx×Obj))(s:YC)(σ:St)(H:Hp)(Q:VK),Inv X pins σ H s->t σ H Q->
  YR (model X.prog X.w) X.A (eval a X.env) (λv s₁=>YR (model X.prog X.w) X.A (eval b X.env) (λu s₂=>YR (model X.prog X.w) X.A (YK op v u) (EP X pins σ Q) X.xe s₂) X.xe s₁) X.xe s
def tB(t:TE):TT:=λσ H Q=>t σ H λx H1=>∃c,x= .bl c/\Q c H1
theorem B9{op:CmpOp}{t:TE}(h:PC X op a b t)(h1:YF op b=false:=by first | exact B_ _ (by decide) (by decide) | rfl):PE X (.Compare a [op] [b] pos) t:=λpins s σ H Q I hw=>wpAny_Compare1 (h pins s σ H Q I hw) h1
theorem Ca{op:CmpOp}{t:TE}(h:PC X op a b t)(h1:YF op b=false:=by first | exact B_ _ (by decide) (by decide) | rfl):PT X (.Compare a [op] [b] pos) (tB t):=by
 intro pins s σ H Q I hw
 refine wpAny_isTrue_Compare1 (bg (h pins s σ H _ I hw) λv s1 h1=>bg h1 λu s2 h2=>bg h2 λc s3 ⟨x,H1,I1,r1,q1⟩=>?_) h1
 obtain⟨d,rfl,q⟩:=q1
 cases r1
 exact YZ ⟨H1,I1,q⟩
variable {tA QW:TT} {rest:List Expr}
def R0(t u:TT):TT:=λσ H Q=>t σ H λc H1=>if c=true then u σ H1 Q else Q false H1
def Wm(t u:TT):TT:=λσ H Q=>t σ H λc H1=>if c=true then Q true H1 else u σ H1 Q
def R4(t:TT):TT:=λσ H Q=>t σ H λc H1=>Q (!c) H1
theorem Gm(ha:PT X a tA):PW X (.BoolOp .And [a] pos) tA:=by
 intro wh pins s σ H Q I h
 refine isTrue_and (bg (ha pins s σ H Q I h) λc s1 e=>?_)
 cases c with
 | true=>exact isTrue_and_nil e
 | false=>exact e
theorem KR(ha:PT X a tA):PW X (.BoolOp .Or [a] pos) tA:=by
 intro wh pins s σ H Q I h
 refine isTrue_or (bg (ha pins s σ H Q I h) λc s1 e=>?_)
 cases c with
 | false=>exact isTrue_or_nil e
 | true=>exact e
theorem KS(ha:PT X a tA)(hb:PW X (.BoolOp .And (b::rest) pos) QW):PW X (.BoolOp .And (a::b::rest) pos) (R0 tA QW):=by
 intro wh pins s σ H Q I h
 refine isTrue_and (bg (ha pins s σ H _ I h) λc s1 ⟨H1,I1,q1⟩=>?_)
 cases c with
 | true=>exact hb wh pins s1 σ H1 Q I1 q1
 | false=>exact⟨H1,I1,q1⟩
theorem Oo(ha:PT X a tA)(hb:PW X (.BoolOp .Or (b::rest) pos) QW):PW X (.BoolOp .Or (a::b::rest) pos) (Wm tA QW):=by
 intro wh pins s σ H Q I h
 refine isTrue_or (bg (ha pins s σ H _ I h) λc s1 ⟨H1,I1,q1⟩=>?_)
 cases c with
 | true=>exact⟨H1,I1,q1⟩
 | false=>exact hb wh pins s1 σ H1 Q I1 q1
theorem KU(ha:PT X a tA):PT X (.UnaryOp .Not a pos) (R4 tA):=by
 intro pins s σ H Q I h
 exact isTrue_not (ha pins s σ H (λc H1=>Q (!c) H1) I h)
def Oq(ta tb:TE):TE:=λσ H Q=>ta σ H λx H1=>∃c,x= .bl c/\if c=true then tb σ H1 Q else Q (.bl false) H1
def R6(ta tb:TE):TE:=λσ H Q=>ta σ H λx H1=>∃c,x= .bl c/\if c=true then Q (.bl true) H1 else tb σ H1 Q
def Ot(ta:TE):TE:=λσ H Q=>ta σ H λx H1=>∃c,x= .bl c/\Q (.bl (!c)) H1
theorem KW{op}{t:TE}(h:PE X a t):PE X (.BoolOp op [a] pos) t:=λpins s σ H Q I hw=>BoolOp_one (h pins s σ H Q I hw)
theorem KY(ha:PE X a ta)(hb:PE X (.BoolOp .And (b::rest) pos) tb):PE X (.BoolOp .And (a::b::rest) pos) (Oq ta tb):=by
 intro pins s σ H Q I h
 refine BoolOp_and (bg (ha pins s σ H _ I h) λv s1 ⟨x,H1,I1,r1,q1⟩=>?_)
 obtain⟨c,rfl,q1⟩:=q1
 cases r1
 refine YZ ?_
 cases c with
 | true=>exact hb pins s1 σ H1 Q I1 q1
 | false=>exact⟨.bl false,H1,I1,rfl,q1⟩
theorem Ou(ha:PE X a ta)(hb:PE X (.BoolOp .Or (b::rest) pos) tb):PE X (.BoolOp .Or (a::b::rest) pos) (R6 ta tb):=by
 intro pins s σ H Q I h
 refine BoolOp_or (bg (ha pins s σ H _ I h) λv s1 ⟨x,H1,I1,r1,q1⟩=>?_)
 obtain⟨c,rfl,q1⟩:=q1
 cases r1
 refine YZ ?_
 cases c with
 | false=>exact hb pins s1 σ H1 Q I1 q1
 | true=>exact⟨.bl true,H1,I1,rfl,q1⟩
theorem KZ(ha:PE X a ta):PE X (.UnaryOp .Not a pos) (Ot ta):=by
 intro pins s σ H Q I h
 refine UnaryOp_ (bg (ha pins s σ H _ I h) λv s1 ⟨x,H1,I1,r1,q1⟩=>?_)
 obtain⟨c,rfl,q1⟩:=q1
 cases r1
 exact not_of (YZ ⟨.bl (!c),H1,I1,rfl,q1⟩)
def Wn(t:TT)(ta tb:TE):TE:=λσ H Q=>t σ H λc H1=>if c=true then ta σ H1 Q else tb σ H1 Q
theorem Cb{c:Expr}(hc:PT X c tA)(ha:PE X a ta)(hb:PE X b tb):PE X (.IfExp c a b pos) (Wn tA ta tb):=by
 intro pins s σ H Q I h
 refine wpAny_IfExp (bg (hc pins s σ H _ I h) λd s1 ⟨H1,I1,q1⟩=>?_)
 cases d with
 | true=>exact ha pins s1 σ H1 Q I1 q1
 | false=>exact hb pins s1 σ H1 Q I1 q1
end
def iF(K:PySem.W.Frag)(H:Hp)(a:Yx)(xs:List V):Prop :=
 Rd H a (.lst xs)\/
  ∃(o:Obj)(its:Array YD)(n:Nat),K.lookup a=some o/\o.cls= .type "list"/\o.dict=none/\o.data= .seq its n/\its.size<=YO/\Vals xs its.toList
def eX(K:PySem.W.Frag)(H:Hp)(a:Yx)(xs:List V):Prop :=
 Rd H a (.tup xs)\/
  ∃(o:Obj)(its:Array YD)(n:Nat),K.lookup a=some o/\o.cls= .type "tuple"/\o.data= .seq its n/\its.size<=YO/\Vals xs its.toList
def R7:YD->Option V
 | .none=>some .ay
 | .bool b=>some (.bl b)
 | .int i _=>some (.int i)
 | .str x _=>some (.str x)
 | .bytes b _=>some (.NY b)
 | .float b _=>some (.Jx b)
 | .ref a=>some (.ref a)
 | .type n=>some (.ty n)
 | _=>none
theorem RelV.abs{x:V}{u:YD}(r:RelV x u):R7 u=some x:=by
 cases x with
 | ay=>cases r;rfl
 | bl _=>cases r;rfl
 | int _=>obtain⟨t,rfl⟩:=r;rfl
 | str _=>obtain⟨t,rfl⟩:=r;rfl
 | NY _=>obtain⟨t,rfl⟩:=r;rfl
 | Jx _=>obtain⟨t,rfl⟩:=r;rfl
 | ref _=>cases r;rfl
 | ty _=>cases r;rfl
theorem RelV.inj{x y:V}{u:YD}(r:RelV x u)(q:RelV y u):x=y:=Option.some.inj (r.abs.symm.trans q.abs)
theorem Vals.inj:∀{xs ys:List V}{us:List YD},Vals xs us->Vals ys us->xs=ys
 | _,_,_,.nil,.nil=>rfl
 | _,_,_,.cons r t,.cons r' t'=>by rw[r.inj r',Vals.inj t t']
section
variable {X:Cx} {pins:List (Yx×Obj)} {σ:St} {H:Hp} {s:YC} {a:Yx} {xs ys:List V}
theorem iF.of{K:PySem.W.Frag}(h:H a=some (.lst xs)):iF K H a xs:=.inl (.inl h)
theorem eX.of{K:PySem.W.Frag}(h:H a=some (.tup xs)):eX K H a xs:=.inl (.inl h)
theorem Inv.list(I:Inv X pins σ H s)(h:iF X.K H a xs):∃its:List YD,Vals xs its/\PlainL s.heap a its.toArray/\xs.length<=YO:=by
 rcases h with h | ⟨o,its,n,hk,hc,hd,hs,hz,r⟩
 ·obtain⟨z,its,n,r,e⟩:=h.ok I.hok
  exact⟨its,r,⟨_,n,e,rfl,rfl,rfl⟩,z⟩
 ·refine⟨its.toList,r,⟨o,n,I.wN a o hk,hc,hd,by simpa using hs⟩,?_⟩
  have e:=r.length
  simp only[Cc] at e
  omega
theorem Inv.tuple(I:Inv X pins σ H s)(h:eX X.K H a xs):∃its:List YD,Vals xs its/\IsTup s.heap a its.toArray/\xs.length<=YO:=by
 rcases h with h | ⟨o,its,n,hk,hc,hs,hz,r⟩
 ·obtain⟨z,its,r,p,_⟩:=h.ok I.hok
  exact⟨its,r,p,z⟩
 ·refine⟨its.toList,r,⟨o,I.wN a o hk,hc,n,by simpa using hs⟩,?_⟩
  have e:=r.length
  simp only[Cc] at e
  omega
theorem Inv.uI(I:Inv X pins σ H s)(h:iF X.K H a xs)(h':iF X.K H a ys):xs=ys:=by
 obtain⟨its,r,⟨o,n,e,_,_,d⟩,_⟩:=I.list h
 obtain⟨its',r',⟨o',n',e',_,_,d'⟩,_⟩:=I.list h'
 rw[e] at e';cases e'
 rw[d] at d'
 injection d' with d1 _
 have:its=its':=by simpa using congrArg Array.toList d1
 subst this
 exact r.inj r'
theorem Inv.Ah(I:Inv X pins σ H s)(h:eX X.K H a xs)(h':eX X.K H a ys):xs=ys:=by
 obtain⟨its,r,⟨o,e,_,n,d⟩,_⟩:=I.tuple h
 obtain⟨its',r',⟨o',e',_,n',d'⟩,_⟩:=I.tuple h'
 rw[e] at e';cases e'
 rw[d] at d'
 injection d' with d1 _
 have:its=its':=by simpa using congrArg Array.toList d1
 subst this
 exact r.inj r'
end
abbrev Cx.R9(X:Cx)(E:YD->YC->Prop):Cx:={ X with xe:=E }
abbrev Cx.je(X:Cx):Cx:=X.R9 λ_ _=>False
section
variable {X:Cx} {pins:List (Yx×Obj)} {σ:St} {H:Hp} {s:YC} {E:YD->YC->Prop}
end
section
variable {X:Cx} {st:Stmt} {rest:List Stmt} {t u:TS} {e:Expr} {te:TE} {pos:Pos}
def Jy:TS:=λD σ H=>D.nx σ H
def R_(t u:TS):TS:=λD σ H=>t { D with nx:=u D } σ H
theorem Gn:B8 X [] Jy:=λ_ _ σ H _ I h=>wpAny_execs_nil ⟨σ,H,I,h⟩
theorem Cd(h1:PS X st t)(h2:B8 X rest u):B8 X (st::rest) (R_ t u):=by
 intro pins s σ H D I h
 refine wpAny_execs_cons (bg (h1 pins s σ H { D with nx:=u D } I h) λf s1 q=>?_)
 cases f with
 | next=>
  obtain⟨σ',H',I',q⟩:=q
  exact h2 pins s1 σ' H' D I' q
 | ret v=>exact q
 | brk=>exact q
 | cont=>exact q
theorem Gq(h1:PS X st t):B8 X [st] t:=by
 intro pins s σ H D I h
 refine wpAny_execs_cons (bg (h1 pins s σ H D I h) λf s1 q=>?_)
 cases f with
 | next=>exact wpAny_execs_nil q
 | ret v=>exact q
 | brk=>exact q
 | cont=>exact q
theorem Gs:PS X (.Pass pos) Jy:=λ_ _ σ H _ I h=>wpAny_Pass ⟨σ,H,I,h⟩
theorem Inv.quiet{pins:List (Yx×Obj)}{σ:St}{H:Hp}{s:YC}(I:Inv X pins σ H s):interactive X.env=false:=by simp[interactive,I.ok.kind]
def Ov(te:TE):TS:=λD σ H=>te σ H λ_ H1=>D.nx σ H1
theorem Gu(he:PE X e te)(hs:swapsWith e none pos.line X.env=pure false:=by rfl):PS X (.Expr e pos) (Ov te):=by
 intro pins s σ H D I h
 exact wpAny_Expr_any (bg (he pins s σ H _ I h) λv s1 ⟨x,H1,I1,r1,q1⟩=>⟨σ,H1,I1,q1⟩) I.quiet hs
def Sa(te:TE):TS:=λD σ H=>te σ H D.rt
theorem K5(he:PE X e te):PS X (.Return (some e) pos) (Sa te):=by
 intro pins s σ H D I h
 exact wpAny_Return_some (bg (he pins s σ H _ I h) λv s1 ⟨x,H1,I1,r1,q1⟩=>⟨x,σ,H1,I1,r1,q1⟩)
def Ow:TS:=λD _ H=>D.rt .ay H
theorem Gv:PS X (.Return none pos) Ow:=λ_ _ σ H _ I h=>wpAny_Return_none ⟨.ay,σ,H,I,rfl,h⟩
def Sb(c:TT)(t u:TS):TS:=λD σ H=>c σ H λb H1=>if b=true then t D σ H1 else u D σ H1
theorem Ox{c:Expr}{a b:List Stmt}{tc:TT}(hc:PT X c tc)(ha:B8 X a t)(hb:B8 X b u):PS X (.If c a b pos) (Sb tc t u):=by
 intro pins s σ H D I h
 refine wpAny_If (bg (hc pins s σ H _ I h) λd s1 ⟨H1,I1,q1⟩=>?_)
 cases d with
 | true=>exact ha pins s1 σ H1 D I1 q1
 | false=>exact hb pins s1 σ H1 D I1 q1
def Ce:TS:=λ_ _ _=>False
theorem Cf:PS X st Ce:=λ_ _ _ _ _ _ h=>h.elim
theorem Ai{sts:List Stmt}:B8 X sts Ce:=λ_ _ _ _ _ _ h=>h.elim
end
abbrev TG:=V->St->Hp->(St->Hp->Prop)->Prop
abbrev Jz:=List V->St->Hp->(St->Hp->Prop)->Prop
def PG(X:Cx)(target:Expr)(t:TG):Prop :=
 ∀(pins:List (Yx×Obj))(s:YC)(σ:St)(H:Hp)(v:V)(u:YD)(Q:St->Hp->Prop),Inv X pins σ H s->RelV v u->t v σ H Q->
  YR (model X.prog X.w) X.A (assign target X.env u) (λ_ s'=>∃σ' H',Inv X pins σ' H' s'/\Q σ' H') X.xe s
def Oy(X:Cx)(ts:List Expr)(t:Jz):Prop :=
 ∀(pins:List (Yx×Obj))(s:YC)(σ:St)(H:Hp)(vs:List V)(us:List YD)(Q:St->Hp->Prop),Inv X pins σ H s->Vals vs us->t vs σ H Q->
  YR (model X.prog X.w) X.A (assignInOrder ((assignEach ts X.env).map (·.2)) us) (λ_ s'=>∃σ' H',Inv X pins σ' H' s'/\Q σ' H') X.xe s
abbrev K6:=V->V->V->Hp->(Hp->Prop)->Prop
def Oz(X:Cx)(t:K6):Prop :=
 ∀(pins:List (Yx×Obj))(s:YC)(σ:St)(H:Hp)(o i v:V)(ov iv u:YD)(Q:Hp->Prop),Inv X pins σ H s->RelV o ov->RelV i iv->RelV v u->t o i v H Q->
  YR (model X.prog X.w) X.A (setItem ov iv u) (λ_ s'=>∃H',Inv X pins σ H' s'/\Q H') X.xe s
section
variable {X:Cx} {pos:Pos}
def uJ(i:Nat):TG:=λv σ H Q=>Q (σ.set i (some v)) H
theorem sL{i:Nat}{x:Str}(hN:X.N.Nodup)(hi:X.N[i]? =some x)(hx:Loc X.env.scope x)(hf:X.fn x=true\/X.env.scope.names.lookup x=some .local:=by first | exact .inl rfl | exact .inr rfl | assumption):PG X (.Name x pos) (uJ i):=by
 intro pins s σ H v u Q I r h
 exact wpAny_assign_Name (lD I hN hi hx r (λs' I'=>⟨_,H,I',h⟩) hf)
def au:Jz:=λvs σ H Q=>vs=[]/\Q σ H
def ag(t:TG)(u:Jz):Jz:=λvs σ H Q=>∃v r,vs=v::r/\t v σ H λσ' H'=>u r σ' H' Q
theorem Gw:Oy X [] au:=by
 intro pins s σ H vs us Q I r h
 obtain⟨e,h⟩:=h
 subst e
 cases r
 exact assignInOrder_nil ⟨σ,H,I,h⟩
theorem Cg{e:Expr}{es:List Expr}{t:TG}{u:Jz}(h1:PG X e t)(h2:Oy X es u)
  (hs:(assignEach (e::es) X.env).map (·.2)=assign e X.env::(assignEach es X.env).map (·.2):=by rfl):Oy X (e::es) (ag t u):=by
 intro pins s σ H vs us Q I r h
 obtain⟨v,vr,e1,h⟩:=h
 subst e1
 cases r with
 | cons r rr=>
  rw[hs]
  refine assignInOrder_cons (bg (h1 pins s σ H _ _ _ I r h) λ_ s1 ⟨σ1,H1,I1,q1⟩=>?_)
  exact h2 pins s1 σ1 H1 _ _ Q I1 rr q1
def i9(K:PySem.W.Frag)(n:Nat)(t:Jz):TG:=λv σ H Q=>∃a xs,v= .ref a/\eX K H a xs/\xs.length=n/\t xs σ H Q
theorem sM{es:List Expr}{k:Nat}{t:Jz}{n:Nat}(hc:X.calm=true)(h:Oy X es t)
  (hn:(assignEach es X.env).length=n:=by rfl)(hst:(assignEach es X.env).findIdx? (·.1)=none:=by rfl):PG X (.Tuple es k pos) (i9 X.K n t):=by
 intro pins s σ H v u Q I r hw
 obtain⟨a,xs,e1,hq,hl,hw⟩:=hw
 subst e1
 cases r
 obtain⟨its,rv,ht,hz⟩:=I.tuple hq
 refine assign_Tuple_tuple (I.ok.hd hc) ht (by simp[hn,<-hl,rv.length]) hst λh' hx=>?_
 have I1:Inv X pins σ H { s with heap:=h' }:=I.kept (t':=s.toks) λb o e=>hx b o (bR (aL e)) e
 exact h pins _ σ H xs _ Q I1 (by simpa using rv) hw
def Sd(to ti:TE)(t:K6):TG:=λv σ H Q=>to σ H λo H1=>ti σ H1 λi H2=>t o i v H2 λH3=>Q σ H3
theorem K7{o i:Expr}{to ti:TE}{t:K6}(ho:PE X o to)(hi:PE X i ti)(hs:Oz X t)
  (ha:∀v,assign (.Subscript o i pos) X.env v=(do
   let ov <-holding [v] (eval o X.env)
   let iv <-holding [v,ov] (eval i X.env)
   standAt pos
   holding [v,ov,iv] (setItem ov iv v)
   release [v,ov,iv] []):=by intro _;rfl):PG X (.Subscript o i pos) (Sd to ti t):=by
 intro pins s σ H v u Q I r h
 rw[ha]
 refine YS (YU (bg (ho pins s σ H _ I h) λov s1 ⟨x,H1,I1,r1,q1⟩=>?_))
 refine YS (YU (bg (hi pins s1 σ H1 _ I1 q1) λiv s2 ⟨y,H2,I2,r2,q2⟩=>?_))
 refine YS (wpAny_standAt (YS (YU (bg (hs pins s2 σ H2 x y v ov iv u _ I2 r1 r2 r q2) λ_ s3 ⟨H3,I3,q3⟩=>?_))))
 exact wpAny_release ⟨σ,H3,I3,q3⟩
def OA(te:TE)(g:TG):TS:=λD σ H=>te σ H λx H1=>g x σ H1 D.nx
theorem Ci{tg e:Expr}{te:TE}{g:TG}(he:PE X e te)(hg:PG X tg g)(hs:swapsWithSole [tg] e pos.line X.env=pure false:=by rfl)(hw:swappedStores [tg] e X.env=pure none:=by rfl)
  (h1:(assignEach [tg] X.env).map (·.2)=[assign tg X.env]:=by rfl):PS X (.Assign [tg] e pos) (OA te g):=by
 intro pins s σ H D I h
 refine wpAny_Assign_stores (bg (he pins s σ H _ I h) λv s1 ⟨x,H1,I1,r1,q1⟩=>?_) hs hw
 rw[h1]
 exact bg (hg pins s1 σ H1 x v _ I1 r1 q1) λ_ s2 q=>q
theorem K8{i:Nat}{x:Str}{e:Expr}{te:TE}{pos':Pos}(hN:X.N.Nodup)(hi:X.N[i]? =some x)(hx:Loc X.env.scope x)(he:PE X e te)(hs:swapsWith e (some (.Name x pos')) pos.line X.env=pure false:=by rfl)(hf:X.fn x=true\/X.env.scope.names.lookup x=some .local:=by first | exact .inl rfl | exact .inr rfl | assumption) :
  PS X (.Assign [.Name x pos'] e pos) (OA te (uJ i)):=by
 intro pins s σ H D I h
 refine wpAny_Assign_Name (bg (he pins s σ H _ I h) λv s1 ⟨y,H1,I1,r1,q1⟩=>?_) hs
 exact lD I1 hN hi hx r1 (λs2 I2=>⟨_,H1,I2,q1⟩) hf
end
section
variable {X:Cx} {pos:Pos}
end
structure It where
 go:Nat->Hp->Prop
 uD:Nat->Hp->V->Hp->Prop
 stop:Nat->Hp->Prop
def du(X:Cx)(pins:List (Yx×Obj))(H:Hp)(b:Yx):Prop :=
 H b=none/\b≠X.env.locals/\b∉X.fs/\(b∈X.ex\/X.s₀.heap.objs.size<=b)/\(∀x c,X.env.cells.lookup x=some c->c≠b)/\∀p∈X.pn++pins,p.1≠b
theorem Inv.oZ{X:Cx}{pins:List (Yx×Obj)}{σ:St}{H H':Hp}{s:YC}{b:Yx}(I:Inv X pins σ H s)(hb:s.heap.objs.size<=b)(hn:H' b=none):du X pins H' b:=by
 refine⟨hn,lF (bK I.lt hb),I.RW hb,.inr (aX I.sz hb),λx c e z=>?_,λp hp z=>?_⟩
 ·obtain⟨v,q⟩:=I.cell x c e
  exact absurd (bK q.lt (by rw[z];exact hb)) (fq _)
 ·exact absurd (bK (aL (I.pin p hp).1) (by rw[z];exact hb)) (fq _)
structure Turn(P:YB)(w:YE)(K:PySem.W.Frag)(tg:Expr)(J:It)(fp:List Yx)(it:Yx)(tn:Nat->Heap->Prop):Prop where
 mem:it∈fp
 obj:∀i h,tn i h->∀b∈fp,∃o,h.get? b=some o/\∀v,o.data≠.cell v
 keep:∀i h h',tn i h->(∀b∈fp,∀o,h.get? b=some o->h'.get? b=some o)->tn i h'
 item:∀(X:Cx),X.prog=P->X.w=w->X.K=K->X.calm=true->∀(i:Nat)(pins:List (Yx×Obj))(s:YC)(σ:St)(H:Hp)(E:YD->YC->Prop),Inv X pins σ H s->(∀b∈fp,du X pins H b)->tn i s.heap->J.go i H->
  YR (model P w) X.A (pyNext (.ref it)) (λr s1=>∃u,r=some u/\
   YR (model P w) X.A (letOwnedTupleGo tg (.ref it) u) (λ_ s2=>∃x H',Inv X pins σ H' s2/\RelV x u/\J.uD i H x H'/\tn (i+1) s2.heap/\∀b∈fp,H' b=none) E s1) E s
 done:∀(X:Cx),X.prog=P->X.w=w->X.K=K->X.calm=true->∀(i:Nat)(pins:List (Yx×Obj))(s:YC)(σ:St)(H:Hp)(E:YD->YC->Prop),Inv X pins σ H s->(∀b∈fp,du X pins H b)->tn i s.heap->J.stop i H->
  YR (model P w) X.A (pyNext (.ref it)) (λr s1=>r=none/\Inv X pins σ H s1) E s
 self:∀(A:Yy)(i:Nat)(s:YC)(Q:YD->YC->Prop)(E:YD->YC->Prop),tn i s.heap->Q (.ref it) s->YR (model P w) A (pyIter (.ref it)) Q E s
abbrev TI:=St->Hp->(It->Hp->Prop)->Prop
def Se(X:Cx)(pins:List (Yx×Obj))(σ:St)(tg:Expr)(R:It->Hp->Prop)(itv:YD)(s2:YC):Prop :=
 ∃(it:Yx)(fp:List Yx)(tn:Nat->Heap->Prop)(J:It)(H':Hp),itv= .ref it/\Inv X pins σ H' s2/\Turn X.prog X.w X.K tg J fp it tn/\tn 0 s2.heap/\(∀b∈fp,du X pins H' b)/\R J H'
def PI(X:Cx)(tg iter:Expr)(wi:TI):Prop :=
 ∀(pins:List (Yx×Obj))(s:YC)(σ:St)(H:Hp)(R:It->Hp->Prop),Inv X pins σ H s->wi σ H R->
  YR (model X.prog X.w) X.A (eval iter X.env) (λv s1=>YR (model X.prog X.w) X.A (pyIter v) (Se X pins σ tg R) X.xe s1) X.xe s
theorem uK{M:Model}{A:Yy}{E:YD->YC->Prop}{s:YC}{tg:Expr}{it:Yx}{u:YD}{o:Obj}{n:String}{vs:Array YD}{Q:Unit->YC->Prop}(ho:s.heap.get? it=some o)(hc:o.cls= .type n)(hd:o.data= .fields vs)
    (hn:["enumerate","zip","dict_itemiterator","dict_reverseitemiterator","odict_iterator","itertools.zip_longest","itertools.pairwise"].contains n=false)(hQ:Q () s):YR M A (letOwnedTupleGo tg (.ref it) u) Q E s:=by
  unfold letOwnedTupleGo
  cases tg<;>first
    | exact YY hQ
    | (cases u<;>first
        | exact YY hQ
        | (refine YS (wpAny_load ho ?_)
           rw[hc,hd]
           show YR M A (if(["enumerate","zip","dict_itemiterator","dict_reverseitemiterator","odict_iterator","itertools.zip_longest","itertools.pairwise"].contains n&&vs[0]? == some (rawInt _))=true then _ else _) Q E s
           rw[if_neg (by intro h;rw[hn,Bool.false_and] at h;cases h)]
           exact YY hQ))
def Sf(K:PySem.W.Frag)(a:Yx):It :=
 ⟨λi H=>∃xs x,iF K H a xs/\xs[i]? =some x,λi H x H'=>H'=H/\∀xs,iF K H a xs->xs[i]? =some x,λi H=>∃xs,iF K H a xs/\xs.length<=i⟩
def Vg(K:PySem.W.Frag)(a:Yx):It :=
 ⟨λi H=>∃xs x,eX K H a xs/\xs[i]? =some x,λi H x H'=>H'=H/\∀xs,eX K H a xs->xs[i]? =some x,λi H=>∃xs,eX K H a xs/\xs.length<=i⟩
def K9(lo:Int)(n:Nat):It:=⟨λi _=>i < n,λi H x H'=>H'=H/\x= .int (lo+i),λi _=>n<=i⟩
theorem rp{P:YB}{w:YE}{K:PySem.W.Frag}{tg:Expr}(a it:Yx):Turn P w K tg (Sf K a) [it] it (λi h=>h.IsListIter it a i) where
 mem:=by simp
 obj:=λi h st b hb=>by
  have e:b=it:=by simpa using hb
  subst e
  obtain⟨o,e,c,d⟩:=st
  exact⟨o,e,λv z=>by rw[d] at z;cases z⟩
 keep:=λi h h' st k=>st.at λo e=>k it (by simp) o e
 item:=by
  intro X hP hw hK hc i pins s σ H E I hf st hg
  subst hP hw hK
  obtain⟨xs,x,hq,hx⟩:=hg
  obtain⟨its,rv,p,hz⟩:=I.list hq
  obtain⟨u,hu,ru⟩:=rv.get hx
  obtain⟨f0,f1,f2,f3,f4,f5⟩:=hf it (by simp)
  refine wpAny_pyNext_list_item st p.isList (x:=u) (by simpa using hu) λh' st' sb=>?_
  have I1:Inv X pins σ H { s with heap:=h' }:=I.turned (t':=s.toks) (λb o hb e=>(sb.2 b hb).trans e) f0 f1 f3 f4 f5
  obtain⟨o,e,c,d⟩:=id st'
  exact⟨u,rfl,uK (s:={ s with heap:=h' }) e c d (by decide) ⟨x,H,I1,ru,⟨rfl,λys hy=>by rw[I.uI hy hq];exact hx⟩,st',λb hb=>(hf b hb).1⟩⟩
 done:=by
  intro X hP hw hK hc i pins s σ H E I hf st hg
  subst hP hw hK
  obtain⟨xs,hq,hx⟩:=hg
  obtain⟨its,rv,p,hz⟩:=I.list hq
  obtain⟨f0,f1,f2,f3,f4,f5⟩:=hf it (by simp)
  have hl:=rv.length
  exact wpAny_pyNext_list_end (I.ok.hd hc) st p.isList (by simp;omega) λh' eb=>⟨rfl,I.turned (t':=s.toks) (λb o hb e=>eb b o hb e) f0 f1 f3 f4 f5⟩
 self:=λ_ _ _ _ _ st h=>wpAny_pyIter_listiter st h
theorem wR{P:YB}{w:YE}{K:PySem.W.Frag}{tg:Expr}(a it:Yx):Turn P w K tg (Vg K a) [it] it (λi h=>h.IsTupleIter it a i) where
 mem:=by simp
 obj:=λi h st b hb=>by
  have e:b=it:=by simpa using hb
  subst e
  obtain⟨o,e,c,d⟩:=st
  exact⟨o,e,λv z=>by rw[d] at z;cases z⟩
 keep:=λi h h' st k=>st.at λo e=>k it (by simp) o e
 item:=by
  intro X hP hw hK hc i pins s σ H E I hf st hg
  subst hP hw hK
  obtain⟨xs,x,hq,hx⟩:=hg
  obtain⟨its,rv,p,hz⟩:=I.tuple hq
  obtain⟨u,hu,ru⟩:=rv.get hx
  obtain⟨f0,f1,f2,f3,f4,f5⟩:=hf it (by simp)
  refine wpAny_pyNext_tuple_item st (show s.heap.IsTuple a its.toArray from p) (x:=u) (by simpa using hu) λh' st' sb=>?_
  have I1:Inv X pins σ H { s with heap:=h' }:=I.turned (t':=s.toks) (λb o hb e=>(sb.2 b hb).trans e) f0 f1 f3 f4 f5
  obtain⟨o,e,c,d⟩:=id st'
  exact⟨u,rfl,uK (s:={ s with heap:=h' }) e c d (by decide) ⟨x,H,I1,ru,⟨rfl,λys hy=>by rw[I.Ah hy hq];exact hx⟩,st',λb hb=>(hf b hb).1⟩⟩
 done:=by
  intro X hP hw hK hc i pins s σ H E I hf st hg
  subst hP hw hK
  obtain⟨xs,hq,hx⟩:=hg
  obtain⟨its,rv,p,hz⟩:=I.tuple hq
  obtain⟨f0,f1,f2,f3,f4,f5⟩:=hf it (by simp)
  have hl:=rv.length
  exact wpAny_pyNext_tuple_end (I.ok.hd hc) st (show s.heap.IsTuple a its.toArray from p) (by simp;omega) λh' eb=>⟨rfl,I.turned (t':=s.toks) (λb o hb e=>eb b o hb e) f0 f1 f3 f4 f5⟩
 self:=λ_ _ _ _ _ st h=>wpAny_pyIter_tupleiter st h
theorem wU{P:YB}{w:YE}{K:PySem.W.Frag}{tg:Expr}(it:Yx)(lo:Int)(n:Nat):Turn P w K tg (K9 lo n) [it] it (λi h=>IsRangeIter h it (lo+(i:Nat) * 1) ((n:Int) - (i:Nat)) 1) where
 mem:=by simp
 obj:=λi h st b hb=>by
  have e:b=it:=by simpa using hb
  subst e
  exact⟨_,st,λv z=>by
   have z':Data.fields _=Data.cell v:=z
   cases z'⟩
 keep:=λi h h' st k=>k it (by simp) _ st
 item:=by
  intro X hP hw hK hc i pins s σ H E I hf st hg
  subst hP hw hK
  obtain⟨f0,f1,f2,f3,f4,f5⟩:=hf it (by simp)
  have W:=Walks.range (prog:=X.prog) (w:=X.w) (I.ok.hd hc) it lo 1 n
  refine W.item i s _ _ hg st λv h' tk hv st' kk=>?_
  obtain⟨t,rfl⟩:=hv
  have I1:Inv X pins σ H { s with heap:=h',toks:=tk }:=I.turned (λb o hb e=>kk b o (by simpa using hb) e) f0 f1 f3 f4 f5
  refine⟨_,rfl,uK (s:={ s with heap:=h',toks:=tk }) (n:="range_iterator") st' rfl rfl (by decide) ⟨.int (lo+i),H,I1,⟨t,?_⟩,⟨rfl,rfl⟩,st',λb hb=>(hf b hb).1⟩⟩
  rw[Int.mul_one]
 done:=by
  intro X hP hw hK hc i pins s σ H E I hf st hg
  subst hP hw hK
  obtain⟨f0,f1,f2,f3,f4,f5⟩:=hf it (by simp)
  exact wpAny_pyNext_range_end (I.ok.hd hc) st (by have:n<=i:=hg;omega) λh' eb=>⟨rfl,I.turned (t':=s.toks) (λb o hb e=>eb b o hb e) f0 f1 f3 f4 f5⟩
 self:=λ_ _ _ _ _ st h=>wpAny_pyIter_rangeiter st h
section
variable {X:Cx} {tg:Expr}
def OB(K:PySem.W.Frag)(tl:TE):TI:=λσ H R=>tl σ H λx H1=>∃a,x= .ref a/\(∃xs,iF K H1 a xs)/\R (Sf K a) H1
theorem Gx{l:Expr}{tl:TE}(hl:PE X l tl):PI X tg l (OB X.K tl):=by
 intro pins s σ H R I h
 refine bg (hl pins s σ H _ I h) λv s1 ⟨x,H1,I1,r1,q1⟩=>?_
 obtain⟨a,e,⟨xs,hq⟩,q⟩:=q1
 subst e
 cases r1
 obtain⟨its,rv,p,hz⟩:=I1.list hq
 refine wpAny_pyIter_list p.isList ?_
 refine⟨s1.heap.objs.size,[s1.heap.objs.size],_,_,H1,rfl,I1.kept (t':=s1.toks) λb o e=>aR _ e,rp a _,⟨_,cz _ rfl,rfl,rfl⟩,λb hb=>?_,q⟩
 have e:b=s1.heap.objs.size:=by simpa using hb
 subst e
 exact I1.oZ (ak _) (I1.hok.fresh (ak _))
theorem Cj{pins:List (Yx×Obj)}{σ:St}{H:Hp}{s:YC}{R:It->Hp->Prop}{E:YD->YC->Prop}{lo hi:Int}{t u v:Tok}{tk:Nat}(I:Inv X pins σ H s)(h1:-(2 ^ 62)<=lo)(h2:lo < 2 ^ 62)(h3:-(2 ^ 62)<=hi)(h4:hi < 2 ^ 62)
  (q:R (K9 lo (hi - lo).toNat) H):YR (model X.prog X.w) X.A (pyIter (.ref s.heap.objs.size)) (Se X pins σ tg R) E { s with heap:=s.heap.push { cls:=.type "range",data:=.fields #[.int lo t,.int hi u,.int 1 v] },toks:=tk }:=by
 refine wpAny_pyIter_range (IsRange.new ..) (small_one h1 h2 h3 h4) ?_
 have I1:Inv X pins σ H { s with heap:=s.heap.push { cls:=.type "range",data:=.fields #[.int lo t,.int hi u,.int 1 v] },toks:=tk }:=I.kept λb o e=>aR _ e
 refine⟨(s.heap.push { cls:=.type "range",data:=.fields #[.int lo t,.int hi u,.int 1 v] }).objs.size,[(s.heap.push { cls:=.type "range",data:=.fields #[.int lo t,.int hi u,.int 1 v] }).objs.size],_,_,H,rfl,
  I1.kept (t':=tk) λb o e=>aR _ e,wU _ lo (hi - lo).toNat,?_,λb hb=>?_,q⟩
 ·have e1:lo+((0:Nat):Int) * 1=lo:=by simp
  have e2:(((hi - lo).toNat:Nat):Int) - ((0:Nat):Int)=Builtin.Range.rangeSize lo hi 1:=by rw[rangeSize_one];split<;>omega
  show IsRangeIter _ _ (lo+((0:Nat):Int) * 1) ((((hi - lo).toNat:Nat):Int) - ((0:Nat):Int)) 1
  rw[e1,e2]
  exact cz _ rfl
 ·have e:b=(s.heap.push { cls:=.type "range",data:=.fields #[.int lo t,.int hi u,.int 1 v] }).objs.size:=by simpa using hb
  subst e
  exact I1.oZ (ak _) (I1.hok.fresh (ak _))
def OC(ta:TA):TI:=λσ H R=>ta σ H λvs H1=>∃j:Int,vs=[.int j]/\-(2 ^ 62)<=j/\j < 2 ^ 62/\R (K9 0 j.toNat) H1
theorem rA{a:Expr}{ta:TA}{p pos:Pos}(hg:Gl X "range")(hm:X.mg "range"=none)(ha:PA X [a] ta)(hs:YQ [a] X.env=[(false,eval a X.env)]:=by rfl):PI X tg (.Call (.Name "range" p) [a] [] pos) (OC ta):=by
 intro pins s σ H R I h
 refine Call_ (mR I hg hm boot_range (yI (bg (ha pos pins s σ H _ I h) λus s1 ⟨vs,H1,I1,r1,q1⟩=>?_) hs rfl))
 obtain⟨j,e,q1,q2,q⟩:=q1
 subst e
 cases r1 with
 | cons r rr=>
  cases rr
  obtain⟨t,rfl⟩:=r
  exact call_range_1 (Cj I1 (by omega) (by omega) q1 q2 (by simpa using q))
def Sg(wi:TI)(g:TG)(tb:TS):TS:=λD σ H=>wi σ H λJ H1=>∃W:Nat->Nat->St->Hp->Prop,(∃m,W 0 m σ H1)/\∀i m σ H,W i m σ H->
 (J.stop i H/\D.nx σ H)\/(J.go i H/\∃N:St->Hp->Prop,(∀σ' H',N σ' H'->∃m',m' < m/\W (i+1) m' σ' H')/\∀x H',J.uD i H x H'->g x σ H' λσ2 H2=>tb { D with nx:=N,ct:=N,bk:=D.nx } σ2 H2)
def dI(fp:List Yx)(h:Heap):List (Yx×Obj):=fp.filterMap λb=>(h.get? b).map λo=>(b,o)
theorem eZ{fp:List Yx}{h:Heap}{b:Yx}{o:Obj}(hb:b∈fp)(e:h.get? b=some o):(b,o)∈dI fp h:=List.mem_filterMap.mpr ⟨b,hb,by rw[e];rfl⟩
theorem Aj{fp:List Yx}{h:Heap}{p:Yx×Obj}(hp:p∈dI fp h):p.1∈fp/\h.get? p.1=some p.2:=by
 obtain⟨b,hb,e⟩:=List.mem_filterMap.mp hp
 cases q:h.get? b with
 | none=>rw[q] at e;cases e
 | some o=>
  rw[q] at e
  have e':(b,o)=p:=Option.some.inj e
  subst e'
  exact⟨hb,q⟩
theorem Inv.pinned{pins:List (Yx×Obj)}{σ:St}{H:Hp}{s:YC}{fp:List Yx}(I:Inv X pins σ H s)(hf:∀b∈fp,du X pins H b)(ho:∀b∈fp,∃o,s.heap.get? b=some o/\∀v,o.data≠.cell v):Inv X (pins++dI fp s.heap) σ H s :=
 I.yH λp hp=>(List.mem_append.mp hp).elim (λz=>I.pin p (e_ _ z)) λz=>by
  obtain⟨hb,e⟩:=Aj z
  obtain⟨f0,f1,f2,_⟩:=hf p.1 hb
  obtain⟨o,e',d⟩:=ho p.1 hb
  rw[e] at e';cases e'
  exact⟨e,f0,f1,f2,d⟩
theorem Inv.jf{pins pl:List (Yx×Obj)}{σ:St}{H:Hp}{s:YC}(I:Inv X (pins++pl) σ H s):Inv X pins σ H s:=I.yH λp hp=>I.pin p (e_ _ (oX _ hp))
theorem sN{iter:Expr}{body:List Stmt}{wi:TI}{g:TG}{tb:TS}{pos:Pos}(hp:PassesOwn (model X.prog X.w) X.A X.env X.xe)(hc:X.calm=true)(hi:PI X tg iter wi)(hg:PG X tg g)(hb:B8 X body tb)
  (hs:∀x,YL iter X.env x=pure x:=by intro _;rfl):PS X (.For tg iter body [] pos) (Sg wi g tb):=by
 intro pins s σ H D I h
 refine wpAny_For (bg (hi pins s σ H _ I h) λv s1 h1=>bg h1 λitv s2 h2=>?_) hs
 obtain⟨it,fp,tn,J,H2,e,I2,T,st2,f2,W,⟨m0,w0⟩,turn⟩:=h2
 subst e
 -- what stays true of the K_ objects through the loop
 have K':∀{H':Hp},(∀b∈fp,H' b=none)->∀b∈fp,du X pins H' b:=λhn b hb=>⟨hn b hb,(f2 b hb).2⟩
 refine codeAny_forLoop_any (λn s'=>∃i σ' H',Inv X pins σ' H' s'/\tn i s'.heap/\(∀b∈fp,H' b=none)/\W i n σ' H') ?_ m0 ⟨0,σ,H2,I2,st2,λb hb=>(f2 b hb).1,w0⟩
 rintro n s3 ⟨i,σ3,H3,I3,st3,Vh,w3⟩
 rcases turn i n σ3 H3 w3 with ⟨stop,qn⟩ | ⟨go,N,hN,step⟩
 ·refine wpAny_passesOwn hp (bg (T.done X rfl rfl rfl hc i pins s3 σ3 H3 X.xe I3 (K' Vh) st3 stop) λr s4 ⟨hr,I4⟩=>?_)
  subst hr
  exact wpAny_execs_nil ⟨σ3,H3,I4,qn⟩
 ·refine wpAny_passesOwn hp (bg (T.item X rfl rfl rfl hc i pins s3 σ3 H3 X.xe I3 (K' Vh) st3 go) λr s4 ⟨u,hr,h4⟩=>?_)
  subst hr
  refine wpAny_passesOwn hp (bg h4 λ_ s5 ⟨x,H5,I5,r5,y5,uL,La⟩=>?_)
  have Wq:=I5.pinned (K' La) (T.obj _ _ uL)
  refine wpAny_passesOwn hp (bg (hg _ s5 σ3 H5 x u _ Wq r5 (step x H5 y5)) λ_ s6 ⟨σ6,H6,I6,q6⟩=>?_)
  refine wpAny_passesOwn hp (bg (hb _ s6 σ6 H6 _ I6 q6) λf s7 q7=>?_)
  have again:∀{σ7:St}{H7:Hp},Inv X (pins++dI fp s5.heap) σ7 H7 s7->N σ7 H7->∃m,m < n/\∃i σ' H',Inv X pins σ' H' s7/\tn i s7.heap/\(∀b∈fp,H' b=none)/\W i m σ' H':=λ{σ7 H7} I7 n7=>by
   obtain⟨m',hm,w7⟩:=hN σ7 H7 n7
   refine⟨m',hm,i+1,σ7,H7,I7.jf,T.keep _ _ _ uL λb hb o e=>(I7.pin (b,o) (e_ _ (e_ _ (eZ hb e)))).1,λb hb=>?_,w7⟩
   obtain⟨o,e,d⟩:=T.obj _ _ uL b hb
   exact(I7.pin (b,o) (e_ _ (e_ _ (eZ hb e)))).2.1
  cases f with
  | next=>obtain⟨σ7,H7,I7,n7⟩:=q7;exact again I7 n7
  | cont=>obtain⟨σ7,H7,I7,n7⟩:=q7;exact again I7 n7
  | brk=>obtain⟨σ7,H7,I7,q7⟩:=q7;exact⟨σ7,H7,I7.jf,q7⟩
  | ret v=>obtain⟨x7,σ7,H7,I7,r7,q7⟩:=q7;exact⟨x7,σ7,H7,I7.jf,r7,q7⟩
end
abbrev R2:=V->V->Hp->VK->Prop
def fb(X:Cx)(f:YD->YD->Sem YD)(r:R2):Prop :=
 ∀(pins:List (Yx×Obj))(s:YC)(σ:St)(H:Hp)(x y:V)(v u:YD)(Q:VK),Inv X pins σ H s->RelV x v->RelV y u->r x y H Q->
  YR (model X.prog X.w) X.A (f v u) (EP X pins σ Q) X.xe s
def Sh(X:Cx)(f:YD->Sem YD)(r:V->Hp->VK->Prop):Prop :=
 ∀(pins:List (Yx×Obj))(s:YC)(σ:St)(H:Hp)(x:V)(v:YD)(Q:VK),Inv X pins σ H s->RelV x v->r x H Q->
  YR (model X.prog X.w) X.A (f v) (EP X pins σ Q) X.xe s
def c9(X:Cx)(f:YD)(r:List V->Hp->VK->Prop):Prop :=
 ∀(pins:List (Yx×Obj))(s:YC)(σ:St)(H:Hp)(xs:List V)(us:List YD)(Q:VK),Inv X pins σ H s->Vals xs us->r xs H Q->
  YR (model X.prog X.w) X.A (call f us) (EP X pins σ Q) X.xe s
def Si(X:Cx)(r:V->Hp->(Bool->Hp->Prop)->Prop):Prop :=
 ∀(pins:List (Yx×Obj))(s:YC)(σ:St)(H:Hp)(x:V)(v:YD)(Q:Bool->Hp->Prop),Inv X pins σ H s->RelV x v->r x H Q->
  YR (model X.prog X.w) X.A (truthy v) (TP X pins σ Q) X.xe s
def OD(r:R2)(ta tb:TE):TE:=λσ H Q=>ta σ H λx H1=>tb σ H1 λy H2=>r x y H2 Q
def Ws(r:V->Hp->VK->Prop)(ta:TE):TE:=λσ H Q=>ta σ H λx H1=>r x H1 Q
def rI(C:Int->Int->Prop)(g:Int->Int->V):R2:=λx y H Q=>∃i j,x= .int i/\y= .int j/\C i j/\Q (g i j) H
def JB(g:Int->Int->V):R2:=λx y H Q=>∃i j,x= .int i/\y= .int j/\Q (g i j) H
def rU(g:Int->V):V->Hp->VK->Prop:=λx H Q=>∃i,x= .int i/\Q (g i) H
section
variable {X:Cx} {a b c:Expr} {ta tb tc:TE} {pos:Pos}
theorem Lb(ha:PE X a ta)(hb:PE X b tb){pins:List (Yx×Obj)}{s:YC}{σ:St}{H:Hp}{R:V->V->Hp->Prop}(I:Inv X pins σ H s)
  (h:ta σ H λx H1=>tb σ H1 λy H2=>R x y H2){Q:YD->YC->Prop}{f:YD->YD->Sem YD}
  (hf:∀v u s2 x y H2,Inv X pins σ H2 s2->RelV x v->RelV y u->R x y H2->YR (model X.prog X.w) X.A (f v u) Q X.xe s2) :
  YR (model X.prog X.w) X.A (eval a X.env) (λv s₁=>YR (model X.prog X.w) X.A (eval b X.env) (λu s₂=>YR (model X.prog X.w) X.A (f v u) Q X.xe s₂) X.xe s₁) X.xe s:=by
 refine bg (ha pins s σ H _ I h) λv s1 ⟨x,H1,I1,r1,q1⟩=>?_
 refine bg (hb pins s1 σ H1 _ I1 q1) λu s2 ⟨y,H2,I2,r2,q2⟩=>?_
 exact hf v u s2 x y H2 I2 r1 r2 q2
theorem OE{op:Operator}{r:R2}(ho:fb X (YG op) r)(ha:PE X a ta)(hb:PE X b tb):PE X (.BinOp a op b pos) (OD r ta tb):=by
 intro pins s σ H Q I h
 exact wpAny_BinOp (Lb ha hb I h λv u s2 x y H2 I2 rx ry q=>ho pins s2 σ H2 x y v u Q I2 rx ry q)
theorem OF{op:UnaryOp}{r:V->Hp->VK->Prop}(ho:Sh X (unaryOp op) r)(ha:PE X a ta):PE X (.UnaryOp op a pos) (Ws r ta):=by
 intro pins s σ H Q I h
 exact UnaryOp_ (bg (ha pins s σ H _ I h) λv s1 ⟨x,H1,I1,r1,q1⟩=>ho pins s1 σ H1 x v Q I1 r1 q1)
theorem QX{f:YD->YD->Sem YD}{C:Int->Int->Prop}{g:Int->Int->Int}
  (rule:∀(i j:Int)(t u:Tok)(s:YC)(Q:YD->YC->Prop)(E:YD->YC->Prop),C i j->Q (.int (g i j) s.toks) { s with toks:=s.toks+1 }->YR (model X.prog X.w) X.A (f (.int i t) (.int j u)) Q E s) :
  fb X f (rI C λi j=> .int (g i j)):=by
 intro pins s σ H x y v u Q I rx ry h
 obtain⟨i,j,rfl,rfl,hc,q⟩:=h
 obtain⟨t,rfl⟩:=rx
 obtain⟨t',rfl⟩:=ry
 exact rule i j t t' s _ _ hc ⟨.int (g i j),H,I.tok _,⟨_,rfl⟩,q⟩
theorem OG{f:YD->YD->Sem YD}{g:Int->Int->Int}
  (rule:∀(i j:Int)(t u:Tok)(s:YC)(Q:YD->YC->Prop)(E:YD->YC->Prop),Q (.int (g i j) s.toks) { s with toks:=s.toks+1 }->YR (model X.prog X.w) X.A (f (.int i t) (.int j u)) Q E s) :
  fb X f (JB λi j=> .int (g i j)):=by
 intro pins s σ H x y v u Q I rx ry h
 obtain⟨i,j,rfl,rfl,q⟩:=h
 obtain⟨t,rfl⟩:=rx
 obtain⟨t',rfl⟩:=ry
 exact rule i j t t' s _ _ ⟨.int (g i j),H,I.tok _,⟨_,rfl⟩,q⟩
theorem Gy{f:YD->YD->Sem YD}{g:Int->Int->Bool}
  (rule:∀(i j:Int)(t u:Tok)(s:YC)(Q:YD->YC->Prop)(E:YD->YC->Prop),Q (.bool (g i j)) s->YR (model X.prog X.w) X.A (f (.int i t) (.int j u)) Q E s) :
  fb X f (JB λi j=> .bl (g i j)):=by
 intro pins s σ H x y v u Q I rx ry h
 obtain⟨i,j,rfl,rfl,q⟩:=h
 obtain⟨t,rfl⟩:=rx
 obtain⟨t',rfl⟩:=ry
 exact rule i j t t' s _ _ ⟨.bl (g i j),H,I,rfl,q⟩
def Sj(i j:Int):Prop:=0<=j/\j<=1000000/\i.natAbs < 2 ^ 64
theorem Lc:fb X (YG .Add) (JB λi j=> .int (i+j)):=OG λ_ _ _ _ _ _ _ q=>add_int q
theorem Ld:fb X (YG .Sub) (JB λi j=> .int (i - j)):=OG λ_ _ _ _ _ _ _ q=>sub_int q
theorem Le:fb X (YG .Pow) (rI Sj λi j=> .int (i ^ j.toNat)):=QX λ_ _ _ _ _ _ _ hc q=>pow_int_small hc.1 hc.2.1 hc.2.2 q
theorem Wt{f:YD->Sem YD}{g:Int->Int}
  (rule:∀(i:Int)(t:Tok)(s:YC)(Q:YD->YC->Prop)(E:YD->YC->Prop),Q (.int (g i) s.toks) { s with toks:=s.toks+1 }->YR (model X.prog X.w) X.A (f (.int i t)) Q E s) :
  Sh X f (rU λi=> .int (g i)):=by
 intro pins s σ H x v Q I rx h
 obtain⟨i,rfl,q⟩:=h
 obtain⟨t,rfl⟩:=rx
 exact rule i t s _ _ ⟨.int (g i),H,I.tok _,⟨_,rfl⟩,q⟩
theorem Lf:Sh X (unaryOp .USub) (rU λi=> .int (-i)):=Wt λ_ _ _ _ _ q=>neg_int q
end
section
variable {X:Cx} {a b c:Expr} {ta tb tc:TE} {pos:Pos}
theorem sO{pins:List (Yx×Obj)}{σ:St}{H:Hp}{s:YC}{Q:VK}{k k':Bool}(I:Inv X pins σ H s)(q:Q (.bl k) H)(e:k=k'):EP X pins σ Q (.bool k') s:=by
 subst e
 exact⟨.bl k,H,I,rfl,q⟩
theorem OH:fb X (YK .Lt) (JB λi j=> .bl (decide (i < j))):=Gy λ_ _ _ _ _ _ _ q=>lt_int q
theorem OI:fb X (YK .LtE) (JB λi j=> .bl (decide (i<=j))):=Gy λ_ _ _ _ _ _ _ q=>le_int q
theorem OJ:fb X (YK .Gt) (JB λi j=> .bl (decide (j < i))):=Gy λ_ _ _ _ _ _ _ q=>gt_int q
theorem OK:fb X (YK .GtE) (JB λi j=> .bl (decide (j<=i))):=Gy λ_ _ _ _ _ _ _ q=>ge_int q
theorem Ak:fb X (YK .Lt) (λx y H Q=>∃i j,x= .str i/\y= .str j/\Q (.bl (decide (i.cps.toList < j.cps.toList))) H):=by
 intro pins s σ H x y v u Q I rx ry h
 obtain⟨i,j,rfl,rfl,q⟩:=h
 obtain⟨t,rfl⟩:=rx
 obtain⟨t',rfl⟩:=ry
 exact lt_str (sO I q rfl)
theorem Al:fb X (YK .In) (λx y H Q=>∃i j,x= .str i/\y= .str j/\Q (.bl (!(mS j i 0 j.length 1).isEmpty)) H):=by
 intro pins s σ H x y v u Q I rx ry h
 obtain⟨i,j,rfl,rfl,q⟩:=h
 obtain⟨t,rfl⟩:=rx
 obtain⟨t',rfl⟩:=ry
 exact in_str (sO I q rfl)
theorem Lg:fb X (YK .Is) (λx y H Q=>y= .ay/\Q (.bl (decide (x= .ay))) H):=by
 intro pins s σ H x y v u Q I rx ry h
 obtain⟨rfl,q⟩:=h
 cases ry
 refine is_none_gen (sO I q ?_)
 cases x<;>first
  | (cases rx;rfl)
  | (obtain⟨t,rfl⟩:=rx;rfl)
theorem Gz:fb X (YK .IsNot) (λx y H Q=>y= .ay/\Q (.bl (!decide (x= .ay))) H):=by
 intro pins s σ H x y v u Q I rx ry h
 obtain⟨rfl,q⟩:=h
 cases ry
 refine isnot_none_gen (sO I q ?_)
 cases x<;>first
  | (cases rx;rfl)
  | (obtain⟨t,rfl⟩:=rx;rfl)
theorem GB{op:CmpOp}{r:R2}(ho:fb X (YK op) r)(ha:PE X a ta)(hb:PE X b tb)(hm:YF op b=false):PE X (.Compare a [op] [b] pos) (OD r ta tb):=by
 intro pins s σ H Q I h
 exact wpAny_Compare1 (Lb ha hb I h λv u s2 x y H2 I2 rx ry q=>ho pins s2 σ H2 x y v u Q I2 rx ry q) hm
def JC(t:TE):TT:=λσ H Q=>t σ H λx H'=>∃k,x= .bl k/\Q k H'
theorem GC{op:CmpOp}{r:R2}(ho:fb X (YK op) r)(ha:PE X a ta)(hb:PE X b tb)(hm:YF op b=false):PT X (.Compare a [op] [b] pos) (JC (OD r ta tb)):=by
 intro pins s σ H Q I h
 refine wpAny_isTrue_Compare1 (bg (ha pins s σ H _ I h) λv s1 ⟨x,H1,I1,r1,q1⟩=>bg (hb pins s1 σ H1 _ I1 q1) λu s2 ⟨y,H2,I2,r2,q2⟩=>
  bg (ho pins s2 σ H2 x y v u _ I2 r1 r2 q2) λc s3 ⟨z,H3,I3,r3,k,e,q3⟩=>?_) hm
 subst e
 cases r3
 exact YZ ⟨H3,I3,q3⟩
def wV(r r':R2)(ta tb tc:TE):TE:=λσ H Q=>ta σ H λx H1=>tb σ H1 λy H2=>r x y H2 λz H3=>∃k,z= .bl k/\
 (if k=true then tc σ H3 λw' H4=>r' y w' H4 Q else Q (.bl false) H3)
theorem Ck{op op':CmpOp}{r r':R2}(ho:fb X (YK op) r)(ho':fb X (YK op') r')(ha:PE X a ta)(hb:PE X b tb)(hc:PE X c tc)
  (hm:lastMarks [op,op'] [b,c]=false:=by with_unfolding_all rfl):PE X (.Compare a [op,op'] [b,c] pos) (wV r r' ta tb tc):=by
 intro pins s σ H Q I h
 refine Compare_chain (bg (ha pins s σ H _ I h) λv s1 ⟨x,H1,I1,r1,q1⟩=>chain_link (bg (hb pins s1 σ H1 _ I1 q1) λu s2 ⟨y,H2,I2,r2,q2⟩=>
  bg (ho pins s2 σ H2 x y v u _ I2 r1 r2 q2) λd s3 ⟨z,H3,I3,r3,k,e,q3⟩=>?_)) hm
 subst e
 cases r3
 refine YZ ?_
 cases k with
 | false=>exact ite_ff ⟨.bl false,H3,I3,rfl,q3⟩
 | true=>exact ite_tt (chain_last (bg (hc pins s3 σ H3 _ I3 q3) λw' s4 ⟨z',H4,I4,r4,q4⟩=>ho' pins s4 σ H4 y z' u w' Q I4 r2 r4 q4))
theorem Cm{op op':CmpOp}{r r':R2}(ho:fb X (YK op) r)(ho':fb X (YK op') r')(ha:PE X a ta)(hb:PE X b tb)(hc:PE X c tc)
  (hm:lastMarks [op,op'] [b,c]=false:=by with_unfolding_all rfl):PT X (.Compare a [op,op'] [b,c] pos) (JC (wV r r' ta tb tc)):=by
 intro pins s σ H Q I h
 refine isTrue_chain (bg (ha pins s σ H _ I h) λv s1 ⟨x,H1,I1,r1,q1⟩=>test_link (bg (hb pins s1 σ H1 _ I1 q1) λu s2 ⟨y,H2,I2,r2,q2⟩=>
  bg (ho pins s2 σ H2 x y v u _ I2 r1 r2 q2) λd s3 ⟨z,H3,I3,r3,k,e,q3⟩=>?_)) hm
 subst e
 cases r3
 refine YZ ?_
 cases k with
 | false=>
  obtain⟨k',e',q'⟩:=q3
  cases e'
  exact ite_ff ⟨H3,I3,q'⟩
 | true=>
  refine ite_tt (test_last (bg (hc pins s3 σ H3 _ I3 q3) λw' s4 ⟨z',H4,I4,r4,q4⟩=>bg (ho' pins s4 σ H4 y z' u w' _ I4 r2 r4 q4) λd' s5 ⟨z2,H5,I5,r5,k2,e2,q5⟩=>?_))
  subst e2
  cases r5
  exact YZ ⟨H5,I5,q5⟩
def OL(K:PySem.W.Frag)(x:V)(H:Hp)(k:Bool):Prop :=
 match x with
 | .ay=>k=false
 | .bl b=>k=b
 | .int i=>k=(i != 0)
 | .str y=>y.length<=YO/\k=((y.length:Int) != 0)
 | .NY y=>y.size<=YO/\k=((y.size:Int) != 0)
 | .ref p=>(∃xs,iF K H p xs/\k= !xs.isEmpty)\/(∃xs,eX K H p xs/\k= !xs.isEmpty)\/∃kvs,H p=some (.dK kvs)/\k= !kvs.isEmpty
 | _=>False
theorem wW{κ:Type}{kvs:List (κ×V)}{vs:List (κ×YD)}(r:KV kvs vs):(!vs.isEmpty)= !kvs.isEmpty:=by
 cases r<;>rfl
theorem o_{xs:List V}{its:List YD}(r:Vals xs its):(!its.toArray.isEmpty)= !xs.isEmpty:=by
 cases r<;>simp
theorem kM:(YO:Nat) < 2 ^ 63:=by rw[sizeLine_eq];decide
theorem Lh:Si X (λx H Q=>∃k,OL X.K x H k/\Q k H):=by
 intro pins s σ H x v Q I rx h
 obtain⟨k,e,q⟩:=h
 have hl:=kM
 have hs:YO=16777216:=sizeLine_eq
 cases x with
 | ay=>
  cases rx
  have e':k=false:=e
  subst e'
  exact truthy_none ⟨H,I,q⟩
 | bl b=>
  cases rx
  have e':k=b:=e
  subst e'
  exact YZ ⟨H,I,q⟩
 | int i=>
  obtain⟨t,rfl⟩:=rx
  have e':k=(i != 0):=e
  subst e'
  exact PySem.P.truthy_int ⟨H,I,q⟩
 | str y=>
  obtain⟨t,rfl⟩:=rx
  obtain⟨hy,e'⟩:y.length<=YO/\k=((y.length:Int) != 0):=e
  subst e'
  exact PySem.P.truthy_str (by omega) ⟨H,I.tok _,q⟩
 | NY y=>
  obtain⟨t,rfl⟩:=rx
  obtain⟨hy,e'⟩:y.size<=YO/\k=((y.size:Int) != 0):=e
  subst e'
  exact PySem.W.truthy_bytes (by omega) ⟨H,I.tok _,q⟩
 | ref p=>
  cases rx
  have e':(∃xs,iF X.K H p xs/\k= !xs.isEmpty)\/(∃xs,eX X.K H p xs/\k= !xs.isEmpty)\/∃kvs,H p=some (.dK kvs)/\k= !kvs.isEmpty:=e
  rcases e' with ⟨xs,hx,e'⟩ | ⟨xs,hx,e'⟩ | ⟨kvs,hx,e'⟩
  ·subst e'
   obtain⟨its,r,pl,hz⟩:=I.list hx
   have hlen:=r.length
   exact wpAny_truthy_list pl.isList (by simp only[a8];omega) ⟨H,I.tok _,by rw[o_ r];exact q⟩
  ·subst e'
   obtain⟨its,r,pl,hz⟩:=I.tuple hx
   have hlen:=r.length
   exact truthy_tuple pl (by simp only[a8];omega) ⟨H,I.tok _,by rw[o_ r];exact q⟩
  ·subst e'
   obtain⟨hz,hS,vs,r,m⟩:kvs.length<=YO/\(p == sysModules)=false/\∃vs,KV kvs vs/\s.heap.DictOf (bQ X.prog X.w) p vs:=I.hok p _ hx
   have hlen:kvs.length=vs.length:=Paired.length r
   exact wpAny_truthy_dict hS m (by omega) ⟨H,I.tok _,by rw[wW r];exact q⟩
 | _=>exact(show False from e).elim
theorem Cn(ha:PE X a ta)(he:∀whole,isTrue a X.env whole=(do let v <-whole;standAt a.pos;holding [v] (truthy v))) :
  PT X a (λσ H Q=>ta σ H λx H'=>∃k,OL X.K x H' k/\Q k H'):=by
 intro pins s σ H Q I h
 exact isTrue_plain (bg (ha pins s σ H _ I h) λv s1 ⟨x,H1,I1,r1,q1⟩=>Lh pins s1 σ H1 x v Q I1 r1 q1) (he _)
theorem wX:fb X (YG .Add) (λx y H Q=>∃i j,x= .str i/\y= .str j/\i.length+j.length<=YO/\Q (.str (i++j)) H):=by
 intro pins s σ H x y v u Q I rx ry h
 obtain⟨i,j,rfl,rfl,hz,q⟩:=h
 obtain⟨t,rfl⟩:=rx
 obtain⟨t',rfl⟩:=ry
 exact add_str (λt' tk=>⟨.str (i++j),H,I.tok _,⟨_,rfl⟩,q⟩) hz
theorem vals1{x:V}{us:List YD}(r:Vals [x] us):∃u,us=[u]/\RelV x u:=by
 cases r with
 | cons r1 r2=>cases r2;exact⟨_,rfl,r1⟩
theorem vals2{x y:V}{us:List YD}(r:Vals [x,y] us):∃u w',us=[u,w']/\RelV x u/\RelV y w':=by
 cases r with
 | cons r1 r2=>
  cases r2 with
  | cons r3 r4=>cases r4;exact⟨_,_,rfl,r1,r3⟩
theorem Co:c9 X (.builtin "abs") (λxs H Q=>∃i,xs=[.int i]/\Q (.int (if i < 0 then -i else i)) H):=by
 intro pins s σ H xs us Q I r h
 obtain⟨i,rfl,q⟩:=h
 obtain⟨u,rfl,t,rfl⟩:=vals1 r
 exact call_abs_int λu tk=>⟨.int (if i < 0 then -i else i),H,I.tok _,⟨_,rfl⟩,q⟩
theorem Am(hc:X.calm=true):c9 X (.builtin "max") (λxs H Q=>∃i j,xs=[.int i,.int j]/\Q (.int (if j > i then j else i)) H):=by
 intro pins s σ H xs us Q I r h
 obtain⟨i,j,rfl,q⟩:=h
 obtain⟨u,w',rfl,⟨t,rfl⟩,⟨t',rfl⟩⟩:=vals2 r
 refine max_two_ints (I.ok.hd hc) λh' tk k=>⟨_,H,I.kept k,?_,q⟩
 by_cases hj:j > i
 ·rw[if_pos hj,if_pos hj];exact⟨_,rfl⟩
 ·rw[if_neg hj,if_neg hj];exact⟨_,rfl⟩
theorem An(hc:X.calm=true):c9 X (.builtin "min") (λxs H Q=>∃i j,xs=[.int i,.int j]/\Q (.int (if j < i then j else i)) H):=by
 intro pins s σ H xs us Q I r h
 obtain⟨i,j,rfl,q⟩:=h
 obtain⟨u,w',rfl,⟨t,rfl⟩,⟨t',rfl⟩⟩:=vals2 r
 refine min_two_ints (I.ok.hd hc) λh' tk k=>⟨_,H,I.kept k,?_,q⟩
 by_cases hj:j < i
 ·rw[if_pos hj,if_pos hj];exact⟨_,rfl⟩
 ·rw[if_neg hj,if_neg hj];exact⟨_,rfl⟩
theorem Ao:c9 X (.type "int") (λxs H Q=>(∃i,xs=[.int i]/\Q (.int i) H)\/∃k,xs=[.bl k]/\Q (.int (if k then 1 else 0)) H):=by
 intro pins s σ H xs us Q I r h
 rcases h with ⟨i,rfl,q⟩ | ⟨k,rfl,q⟩
 ·obtain⟨u,rfl,t,rfl⟩:=vals1 r
  exact call_int_int ⟨.int i,H,I,⟨_,rfl⟩,q⟩
 ·obtain⟨u,rfl,r1⟩:=vals1 r
  cases r1
  exact call_int_bool ⟨.int (if k then 1 else 0),H,I.tok _,⟨_,rfl⟩,q⟩
end
section
variable {prog:YB} {w:YE} {A:Yy} {E:YD->YC->Prop} {s:YC} {K:PySem.W.Frag} {x dx C f:Yx} {mA:Str->Option YD} {name:Str} {v:YD}
end
theorem nZ.some_of{v:V}{o:Option YD}(r:nZ (some v) o):∃u,o=some u/\RelV v u:=by
 cases o with
 | none=>exact(show False from r).elim
 | some u=>exact⟨u,rfl,r⟩
section
variable {P:YB} {w:YE} {H H':Hp} {h h':Heap} {a C dx:Yx} {fs fs':List (Str×V)}
end
section
variable {X:Cx} {pins:List (Yx×Obj)} {σ:St} {H:Hp} {s:YC} {a C dx:Yx} {fs:List (Str×V)} {f:Str} {v:V} {A:Yy} {E:YD->YC->Prop}
end
section
variable {X:Cx} {o e value:Expr} {f:Str} {pos pos' tpos:Pos} {ta tv:TE}
end
section
variable {X:Cx} {pins:List (Yx×Obj)} {σ:St} {H:Hp} {s:YC} {A:Yy} {E:YD->YC->Prop} {Q:YD->YC->Prop} {c:YD} {b:Bool}
end
structure eT(k:Nat)(A:Yy):Prop where
 hd:A.handled=none
 dp:A.depth+3 * k+5 < recursionLimit
 un:A.units+16 * k+200 < cLine
theorem eT.mono{j k:Nat}{A:Yy}(r:eT k A)(h:j<=k):eT j A:=⟨r.hd,by have:=r.dp;omega,by have:=r.un;omega⟩
theorem eT.deeper{k:Nat}{A:Yy}(r:eT (k+1) A)(env:Env):eT k (A.deeper env) :=
 ⟨r.hd,by have:=r.dp;show A.depth+1+3 * k+5 < _;omega,by have:=r.un;show A.units+3+16 * k+200 < _;omega⟩
theorem eT.in1{k:Nat}{A:Yy}(r:eT (k+1) A):eT k A.in1 :=
 ⟨r.hd,by have:=r.dp;show A.depth+3 * k+5 < _;omega,by have:=r.un;show A.units+1+16 * k+200 < _;omega⟩
theorem eT.depth{k:Nat}{A:Yy}(r:eT k A):A.depth < recursionLimit:=by have:=r.dp;omega
def Sk:TA:=λ_ H Q=>Q [] H
def OM(ta:TE)(tr:TA):TA:=λσ H Q=>ta σ H λx H1=>tr σ H1 λxs H2=>Q (x::xs) H2
section
variable {X:Cx} {e:Expr} {es:List Expr} {te:TE} {t:TA} {pos:Pos}
theorem Li:PA X [] Sk:=λ_ _ _ _ H Q I h=>wY ⟨[],H,I,.nil,h⟩
theorem GD(ha:PE X e te)(hr:PA X es t)(hs:YQ (e::es) X.env=(false,eval e X.env)::YQ es X.env:=by rfl):PA X (e::es) (OM te t):=by
 intro pos pins s σ H Q I h
 rw[hs]
 show YR _ _ (spliced ((false,eval e X.env)::backTo pos (YQ es X.env))) _ _ s
 refine pb (bg (ha pins s σ H _ I h) λu s1 ⟨x,H1,I1,r1,q1⟩=>?_)
 exact bg (hr pos pins s1 σ H1 _ I1 q1) λus s2 ⟨xs,H2,I2,r2,q2⟩=>⟨x::xs,H2,I2,.cons r1 r2,q2⟩
def Sl(t:TA):TE:=λσ H Q=>t σ H λxs H1=>xs.length<=YO/\∀p,H1 p=none->Q (.ref p) (upd H1 p (.tup xs))
def Sm(t:TA):TE:=λσ H Q=>t σ H λxs H1=>xs.length<=YO/\∀p,H1 p=none->Q (.ref p) (upd H1 p (.lst xs))
theorem Lj{x1}(h:PA X es t):PE X (.Tuple es x1 pos) (Sl t):=by
 intro pins s σ H Q I hq
 refine wpAny_Tuple_spliced (bg (h pos pins s σ H _ I hq) λus s1 ⟨xs,H1,I1,r,z,q⟩=>⟨by rw[<-r.length];exact z,?_⟩)
 have hf:H1 s1.heap.objs.size=none:=I1.hok.fresh (ak _)
 refine⟨.ref s1.heap.objs.size,upd H1 s1.heap.objs.size (.tup xs),I1.laid (t':=s1.toks) (λb u e=>aR _ e) (ak _) ?_,rfl,q _ hf⟩
 exact⟨z,us,r,⟨_,cz _ rfl,rfl,_,rfl⟩,wM.new _ _⟩
theorem Lk(h:PA X es t):PE X (.List es pos) (Sm t):=by
 intro pins s σ H Q I hq
 refine wpAny_List_spliced (bg (h pos pins s σ H _ I hq) λus s1 ⟨xs,H1,I1,r,z,q⟩=>⟨by rw[<-r.length];exact z,?_⟩)
 have hf:H1 s1.heap.objs.size=none:=I1.hok.fresh (ak _)
 refine⟨.ref s1.heap.objs.size,upd H1 s1.heap.objs.size (.lst xs),I1.laid (t':=s1.toks) (λb u e=>aR _ e) (ak _) ?_,rfl,q _ hf⟩
 exact⟨z,us,0,r,cz _ rfl⟩
end
abbrev Sp:=List V->Hp->VK->XK->Prop
abbrev BR:=List Env->Hp->YC->XK->YD->YC->Prop
structure n6(P:YB)(w:YE)(K:PySem.W.Frag)(mg:Str->Option YD)(base:Heap)(A:Yy)(outer:List Env)(s:YC)(H:Hp):Prop where
 frames:A.frames=some outer
 mod:Mod K mg base
 bs:∀b o,base.get? b=some o->s.heap.get? b=some o/\H b=none
 BQ:base.objs.size<=s.heap.objs.size
 kK:s.heap.FunFrames base outer
 Gi:∀b∈frs outer,H b=none
 hok:iY P w H s.heap
 bare:AllBare s.gens
def CE(outer:List Env)(P:YB)(w:YE)(H:Hp)(s:YC)(Q:VK)(u:YD)(s':YC):Prop :=
 ∃v H',s'.os=s.os/\AllBare s'.gens/\Un (frs outer) [] H H' s.heap s'.heap/\iY P w H' s'.heap/\RelV v u/\Q v H'
def CR(CX:BR)(outer:List Env)(P:YB)(w:YE)(H:Hp)(s:YC)(Q:VK)(E:XK)(r:Result)(s':YC):Prop :=
 match r with
 | .ok (.ret u)=>CE outer P w H s Q u s'
 | .ok _=>False
 | .error e=>CX outer H s E e s'
structure FnOk(P:YB)(w:YE)(K:PySem.W.Frag)(mg:Str->Option YD)(base:Heap)(CX:BR)(k:Nat)(f:Yx)(fd:Yz)(ps:List Str)(sp:Sp):Prop where
 len:∀vs H Q E,sp vs H Q E->vs.length=ps.length
 run:∀(A:Yy)(outer:List Env)(s:YC)(H:Hp)(args:Args)(us:List YD)(vs:List V)(Q:VK)(E:XK),eT k A->n6 P w K mg base A outer s H->BindsTo s fd args (ps.zip us)->Vals vs us->sp vs H Q E->
  YI (model P w) A (.call (.ref f) args) (CR CX outer P w H s Q E) s
theorem FnOk.mono{P:YB}{w:YE}{K:PySem.W.Frag}{mg:Str->Option YD}{base:Heap}{CX:BR}{j k:Nat}{f:Yx}{fd:Yz}{ps:List Str}{sp:Sp}(F:FnOk P w K mg base CX j f fd ps sp)(h:j<=k) :
  FnOk P w K mg base CX k f fd ps sp:=⟨F.len,λA outer s H args us vs Q E hr=>F.run A outer s H args us vs Q E (hr.mono h)⟩
theorem n6.in1{P:YB}{w:YE}{K:PySem.W.Frag}{mg:Str->Option YD}{base:Heap}{A:Yy}{outer:List Env}{s:YC}{H:Hp}(e:n6 P w K mg base A outer s H) :
  n6 P w K mg base A.in1 outer s H:=⟨e.frames,e.mod,e.bs,e.BQ,e.kK,e.Gi,e.hok,e.bare⟩
section
variable {X:Cx} {pins:List (Yx×Obj)} {σ:St} {H:Hp} {s s':YC}
theorem Inv.Ll(I:Inv X pins σ H s):n6 X.prog X.w X.K X.mg X.base X.A X.stack s H :=
 ⟨I.ok.frames,I.ok.mod,I.bs,aX I.ok.BQ I.sz,I.stack,I.jP,I.hok,I.bare⟩
theorem Inv.after{Q:VK}{u:YD}(I:Inv X pins σ H s)(h:CE X.stack X.prog X.w H s Q u s'):EP X pins σ Q u s':=by
 obtain⟨v,H',os,bare,un,hok,r,q⟩:=h
 obtain⟨hh,g,d,t,os'⟩:=s'
 obtain rfl:os'=s.os:=os
 exact⟨v,H',I.call (h':=hh) (g':=g) (d':=d) (t':=t) (ch:=[]) un hok bare (λb z=>absurd z (by simp)),r,q⟩
end
def Binds(K:PySem.W.Frag)(fd:Yz)(ps:List Str)(ds:List YD):Prop :=
 ∀(s:YC)(us:List YD),K.In s.heap->(us++ds).length=ps.length->BindsTo s fd ⟨us,[]⟩ (ps.zip (us++ds))
theorem Binds.all{K:PySem.W.Frag}{fd:Yz}{ps:List Str}(h:∀us:List YD,us.length=ps.length->bindArgs fd ⟨us,[]⟩=pure (ps.zip us)):Binds K fd ps []:=λs us _ hl=>by
 rw[fc] at hl ⊢
 exact .of_eq (h us hl)
section
variable {X:Cx} {CX:BR} {k:Nat} {f C:Yx} {fd:Yz} {ps:List Str} {sp:Sp} {X_:List V} {ds:List YD} {E:XK} {x m:Str} {p pos apos:Pos} {e o:Expr} {es:List Expr} {ta:TE} {t:TA}
end
section
variable {X:Cx} {CX:BR} {k:Nat} {f C:Yx} {fd:Yz} {ps ks:List Str} {sp:Sp} {E:XK} {x m:Str} {p pos apos kpos:Pos} {e o:Expr} {es:List Expr} {kws:List Keyword} {te ta:TE} {t tk:TA} {nm:Option Str}
variable {g:List YD->List YD->List YD} {gV:List V->List V->List V}
end
structure FnScope(N P:List Str)(sc:Scope):Prop where
 kind:sc.kind= .function
 co:sc.isCoroutine=false
 gen:sc.isGenerator=false
 nd:N.Nodup
 pre:N.take P.length=P
 par:∀x∈P,sc.names.lookup x=some .local\/sc.names.lookup x=some .cell
 Ln:∀y∈sc.names,y.2≠.free
theorem rB{kindOf:Str->Option YA}{x:Str}:∀{binds:List (Str×YD)}{m:Str->Option YD},(∀v,(x,v)∉binds)->bindL kindOf binds m x=m x
 | [],_,_=>rfl
 | (n,v)::r,m,h=>by
  unfold bindL
  rw[rB λw hw=>h w (aJ _ hw)]
  split
  ·have:x≠n:=by rintro rfl;exact h v aP
   simp[this]
  ·rfl
theorem rC{kindOf:Str->Option YA}{x:Str}:∀{binds:List (Str×YD)}{m:Str->Option YD},(∀v,(x,v)∉binds)->bindC kindOf binds m x=m x
 | [],_,_=>rfl
 | (n,v)::r,m,h=>by
  unfold bindC
  rw[rC λw hw=>h w (aJ _ hw)]
  split
  ·rfl
  ·have:x≠n:=by rintro rfl;exact h v aP
   simp[this]
theorem rD{kindOf:Str->Option YA}{x:Str}{v:YD}:∀{P:List Str}{vs:List YD}{i:Nat}{m:Str->Option YD},P.Nodup->P[i]? =some x->vs[i]? =some v->kindOf x=some .local->
  bindL kindOf (P.zip vs) m x=some v
 | [],_,_,_,_,h,_,_=>by simp at h
 | _::_,[],_,_,_,_,h,_=>by simp at h
 | p::P,w::vs,0,m,nd,h1,h2,hk=>by
  simp at h1 h2;subst h1;subst h2
  show bindL kindOf ((p,w)::P.zip vs) m p=_
  unfold bindL
  rw[rB λv hv=>(List.nodup_cons.mp nd).1 (yJ hv).1,if_pos hk]
  simp
 | p::P,w::vs,i+1,m,nd,h1,h2,hk=>by
  show bindL kindOf ((p,w)::P.zip vs) m x=_
  unfold bindL
  exact rD (i:=i) (List.nodup_cons.mp nd).2 (by simpa using h1) (by simpa using h2) hk
theorem rE{kindOf:Str->Option YA}{x:Str}{v:YD}:∀{P:List Str}{vs:List YD}{i:Nat}{m:Str->Option YD},P.Nodup->P[i]? =some x->vs[i]? =some v->kindOf x≠some .local->
  bindC kindOf (P.zip vs) m x=some v
 | [],_,_,_,_,h,_,_=>by simp at h
 | _::_,[],_,_,_,_,h,_=>by simp at h
 | p::P,w::vs,0,m,nd,h1,h2,hk=>by
  simp at h1 h2;subst h1;subst h2
  show bindC kindOf ((p,w)::P.zip vs) m p=_
  unfold bindC
  rw[rC λv hv=>(List.nodup_cons.mp nd).1 (yJ hv).1,if_neg hk]
  simp
 | p::P,w::vs,i+1,m,nd,h1,h2,hk=>by
  show bindC kindOf ((p,w)::P.zip vs) m x=_
  unfold bindC
  exact rE (i:=i) (List.nodup_cons.mp nd).2 (by simpa using h1) (by simpa using h2) hk
def start(N:List Str)(vs:List V):St:=vs.map some++aD (N.length - vs.length) none
def qP(CX:BR)(P:YB)(w:YE)(K:PySem.W.Frag)(mg:Str->Option YD)(base:Heap)(N:List Str)(qual:Str)(scope:Scope)(f:Yx)(cd:YD)(A:Yy)(outer:List Env)(s:YC)(H:Hp)(E:XK):Cx where
 prog:=P
 w:=w
 K:=K
 mg:=mg
 base:=base
 A:=A.deeper (envOfC qual scope s.heap.objs.size f cd)
 N:=N
 s₀:=s
 H₀:=H
 env:=envOfC qual scope s.heap.objs.size f cd
 outer:=outer
 stack:=envOfC qual scope s.heap.objs.size f cd::outer
 ex:=[]
 calm:=true
 fn:=λ_=>true
 pn:=[]
 xe:=λe s'=>YR (model P w) (A.deeper (envOfC qual scope s.heap.objs.size f cd)) (leaving (envOfC qual scope s.heap.objs.size f cd) e) (λ_ s''=>CX outer H s E e s'') (λe' s''=>CX outer H s E e' s'') s'
theorem uM{sc:Scope}{n:Nat}{x:Str}(h:sc.names.lookup x=some .cell):∃c,(cellsFrom n sc.names []).lookup x=some c:=by
 have q:=PySem.W.cellsFrom_some sc.names n [] (.inl h)
 exact Option.isSome_iff_exists.mp q
theorem Ap{CX:BR}{P:YB}{w:YE}{K:PySem.W.Frag}{mg:Str->Option YD}{base:Heap}{N ps:List Str}{qual:Str}{scope:Scope}{f:Yx}{cd:YD}{A:Yy}{outer:List Env}{s s1:YC}{H:Hp}{E:XK}{us:List YD}{vs:List V}
  (S:FnScope N ps scope)(hd:A.handled=none)(e0:n6 P w K mg base A outer s H)(hl:vs.length=ps.length)(r:Vals vs us)
  (x:InCallC s s.heap.objs.size (bindL (envOfC qual scope s.heap.objs.size f cd).kindOf (ps.zip us) λ_=>none) (cellsFrom (s.heap.objs.size+1) scope.names []) (bindC (envOfC qual scope s.heap.objs.size f cd).kindOf (ps.zip us) λ_=>none) s1) :
  Inv (qP CX P w K mg base N qual scope f cd A outer s H E) [] (start N vs) H s1:=by
 have hpl:ps.length<=N.length:=by have:=congrArg iG S.pre;rw[mT] at this;omega
 obtain⟨h1,tk,rfl,hk⟩:=x.done
 have ON:∀b:Yx,b∉(qP CX P w K mg base N qual scope f cd A outer s H E).ex:=λb z=>absurd (show b∈([]:List Yx) from z) (by simp)
 refine⟨⟨e0.mod,S.kind,rfl,rfl,ak _,λy z c h1 h2=>?_,λy hy=>?_,λy c _ h=>?_,λ_=>hd,Around.frames_deeper e0.frames,.inr ⟨rfl,rfl⟩,λb z=>absurd z (ON b),e0.bs,e0.BQ,λb _ _=>ON b,λb z=>absurd z (ON b),e0.kK,e0.Gi⟩,
  rfl,e0.bare,Un.kept hk,⟨_,x.toInCall.ns,λi y v h1 h2 h3=>?_⟩,λy c h=>⟨_,x.cell y c h⟩,e0.hok.fresh (ak _),λy c h=>?_,λp hp=>absurd (show p∈([]:List (Yx×Obj)) from hp) (by simp),e0.hok.kept hk,?_⟩
 ·exact name_of_addr x.apart (PySem.mem_of_lookup h1) (PySem.mem_of_lookup h2)
 ·have hy:scope.names.lookup y=some .cell\/scope.names.lookup y=some .free:=hy
  rcases hy with hy | hy
  ·exact uM hy
  ·exact absurd rfl (S.Ln _ (PySem.mem_of_lookup hy))
 ·exact om (x.above y c (PySem.mem_of_lookup h))
 ·have hi:i < vs.length:=by
   unfold start at h2
   by_cases hi:i < vs.length
   ·exact hi
   ·rw[hV (by simpa using hi)] at h2
    rw[sP] at h2
    split at h2<;>cases h2
  have ha:vs[i]? =some v:=by
   unfold start at h2
   rw[cG (by simpa using hi),iH] at h2
   cases e:vs[i]? with
   | none=>rw[e] at h2;cases h2
   | some a=>rw[e] at h2;cases h2;rfl
  obtain⟨u,hu,rv⟩:=r.get ha
  have hp:ps[i]? =some y:=by
   rw[<-S.pre,List.getElem?_take_of_lt (by omega)];exact h1
  have Vi:ps.Nodup:=by rw[<-S.pre];exact S.nd.sublist (List.take_sublist _ _)
  refine⟨u,rv,?_⟩
  rcases S.par y (sR hp) with k | k
  ·exact .inl ⟨k,rD Vi hp hu k⟩
  ·obtain⟨c,e⟩:=uM (n:=s.heap.objs.size+1) k
   refine .inr ⟨.inl k,c,e,?_⟩
   have q:=x.cell y c e
   rw[rE Vi hp hu (by show scope.names.lookup y≠_;rw[k];decide)] at q
   exact q
 ·exact e0.hok.fresh (om (x.above y c (PySem.mem_of_lookup h)))
 ·unfold start
  show _=N.length
  rw[eh,av,kN]
  omega
theorem OO{CX:BR}{P:YB}{w:YE}{K:PySem.W.Frag}{mg:Str->Option YD}{base:Heap}{k:Nat}{f:Yx}{name qual:Str}{params:Arguments}{body:List Stmt}{scope:Scope}{dV kV doc pm cdv ct oc:YD}{an od:Option Yx}
  {osl:Array (Option YD)}{N ps:List Str}{sp:Sp}(lk:K.lookup f=some ⟨oc,od,.func (PySem.W.fnOf name qual params body scope dV kV doc pm an cdv ct),osl⟩)(hcd:PySem.W.codeIn K cdv qual=true)(S:FnScope N ps scope)
  (len:∀vs H Q E,sp vs H Q E->vs.length=ps.length)
  (hbody:∀(A:Yy)(outer:List Env)(s:YC)(H:Hp)(vs:List V)(Q:VK)(E:XK),eT k (A.deeper (envOfC qual scope s.heap.objs.size f cdv))->sp vs H Q E->
   ∃t,B8 (qP CX P w K mg base N qual scope f cdv A outer s H E) body t/\t { nx:=λ_ H'=>Q .ay H',rt:=Q } (start N vs) H) :
  FnOk P w K mg base CX (k+1) f (PySem.W.fnOf name qual params body scope dV kV doc pm an cdv ct) ps sp:=by
 refine⟨len,λA outer s H args us vs Q E hr e0 hb r N1=>?_⟩
 have hl:=len _ _ _ _ N1
 have KX:K.In s.heap:=e0.mod.B6.keeps λb o e=>(e0.bs b o e).1
 have lim:s.heap.NoLimit:=e0.mod.nolimit.keeps λb o e=>(e0.bs b o e).1
 have hkind:∀y∈ps.zip us,scope.names.lookup y.1=some .local\/(scope.names.lookup y.1=some .cell/\((cellsFrom (s.heap.objs.size+1) scope.names []).lookup y.1).isSome=true):=λ⟨n,v⟩ hy=>by
  rcases S.par n (yJ hy).1 with q | q
  ·exact .inl q
  ·exact .inr ⟨q,PySem.W.cellsFrom_some _ _ _ (.inl q)⟩
 refine codeAny_call_function hr.depth (KX _ _ lk) rfl S.co S.gen rfl (PySem.W.codeRec_of KX hcd) (hb _ _ _ _ ?_)
 refine wpAny_newFunctionEnv_cells S.kind hkind λenv he s1 x=>?_
 subst he
 refine⟨lim.keeps x.toInCall.keep,codeAny_func ?_⟩
 obtain⟨t,ht,hq⟩:=hbody A outer s H vs Q E (hr.deeper _) N1
 have I:Inv (qP CX P w K mg base N qual scope f cdv A outer s H E) [] (start N vs) H s1:=Ap S hr.hd e0 hl r x
 refine YV (ht [] s1 (start N vs) H _ I hq) (λfl s' hs=>?_) λe s' hs=>hs
 have fin:∀{σ':St}{H':Hp}{v:V}{u:YD},Inv (qP CX P w K mg base N qual scope f cdv A outer s H E) [] σ' H' s'->RelV v u->Q v H'->CE outer P w H s Q u s' :=
  λ{σ' H' v u} J rv q=>⟨v,H',J.os,J.bare,J.base,J.hok,rv,q⟩
 cases fl with
 | ret u=>
  obtain⟨v,σ',H',J,rv,q⟩:=hs
  exact fin J rv q
 | next=>
  obtain⟨σ',H',J,q⟩:=hs
  exact fin (v:=V.ay) (u:=bo) J rfl q
 | brk=>
  obtain⟨_,_,_,q⟩:=hs
  exact aa q
 | cont=>
  obtain⟨_,_,_,q⟩:=hs
  exact aa q
section
variable {X:Cx} {x:Str} {p pos:Pos} {e:Expr} {es:List Expr} {t:TA} {id T:String} {r:List V->Hp->VK->Prop}
def Vj(r:List V->Hp->VK->Prop)(t:TA):TE:=λσ H Q=>t σ H λvs H1=>r vs H1 Q
theorem Cp(hc:c9 X (.builtin id) r)(hg:Gl X x)(hm:X.mg x=none)(hv:YH x=some (.builtin id))(ha:PA X (e::es) t)(hn:x≠"__name__":=by decide)(hdb:(x == ("__debug__":Str))=false:=by decide)
  (he:YQ (e::es) X.env=(false,eval e X.env)::YQ es X.env:=by rfl)(hpl:(backTo pos (YQ es X.env)).any (·.1)=false:=by rfl):PE X (.Call (.Name x p) (e::es) [] pos) (Vj r t):=by
 intro pins s σ H Q I h
 refine wpAny_Call_Name_kw (mR I hg hm hv ?_ hn hdb)
 exact PyProof.Rows.callWith_builtin1 (bg (ha pos pins s σ H _ I h) λus s1 ⟨vs,H1,I1,r1,q1⟩=>hc pins s1 σ H1 vs us Q I1 r1 q1) he hpl
theorem Aq(hc:c9 X (.type T) r)(hg:Gl X x)(hm:X.mg x=none)(hv:YH x=some (.type T))(ha:PA X (e::es) t)(hn:x≠"__name__":=by decide)(hdb:(x == ("__debug__":Str))=false:=by decide)
  (he:YQ (e::es) X.env=(false,eval e X.env)::YQ es X.env:=by rfl)(hpl:(backTo pos (YQ es X.env)).any (·.1)=false:=by rfl):PE X (.Call (.Name x p) (e::es) [] pos) (Vj r t):=by
 intro pins s σ H Q I h
 refine wpAny_Call_Name_kw (mR I hg hm hv ?_ hn hdb)
 exact yI (bg (ha pos pins s σ H _ I h) λus s1 ⟨vs,H1,I1,r1,q1⟩=>hc pins s1 σ H1 vs us Q I1 r1 q1) he hpl
end
end L2
namespace HT
open PySem PyProof.Rows
section
open PySem.SeqAt
open PySem.AutoSeq1 (wpAny_loadPart')
open PySem.MeetsSeq PySem.MeetsSeq2 PySem.MeetsSeq3
end
section
variable {prog:YB} {w:YE} {A:Yy} {E:YD->YC->Prop} {s:YC}
theorem GF{t b:Yx}{vs ws:List YD}{Q:YD->YC->Prop}(ht:IsTup s.heap t vs.toArray)(hb:IsTup s.heap b ws.toArray)(hv:vs≠[])
  (h1:ws=[]->Q (.ref t) s)(h2:ws≠[]->Q (.ref s.heap.objs.size) { s with heap:=s.heap.push { cls:=.type "tuple",data:=.seq (vs++ws).toArray } })
  (hsz:vs.length+ws.length<=YO):YR (model prog w) A (YG .Add (.ref t) (.ref b)) Q E s:=by
 obtain⟨⟨cls,dd,data,sl⟩,ho,hc,n,hd⟩:=id ht
 obtain⟨⟨Sn,dd2,data2,sl2⟩,ho2,hc2,n2,hd2⟩:=id hb
 simp only at hc hd hc2 hd2
 subst hc hd hc2 hd2
 have e:vs.toArray++ws.toArray=(vs++ws).toArray:=by simp
 by_cases hw:ws=[]
 ·exact concat_meets ⟨_,ho,rfl⟩ ⟨_,ho2,rfl⟩ noFill_tuple_add seq_tuple_add PySem.F.slot_tuple_add PySem.F.entry_tuple_add (PySem.F.args_tuple_add_2 _ _)
   (tuple_addW1 t b vs.toArray ws.toArray n n2 dd dd2 sl sl2 (by simpa using hv) (by simp[hw])) ⟨ho,ho2,h1 hw⟩
 ·refine concat_meets ⟨_,ho,rfl⟩ ⟨_,ho2,rfl⟩ noFill_tuple_add seq_tuple_add PySem.F.slot_tuple_add PySem.F.entry_tuple_add (PySem.F.args_tuple_add_2 _ _)
   (tuple_addW2 t b vs.toArray ws.toArray n n2 dd dd2 sl sl2 (by simpa using hv) (by simpa using hw) (by rw[a8,a8];exact hsz)) ⟨ho,ho2,?_⟩
  rw[e]
  exact h2 hw
def c7(n d:Nat):Option Int->Nat
 | none=>d
 | some v=>if v < 0 then(v+(n:Int)).toNat else min v.toNat n
theorem Lo(n d:Nat)(hd:d<=n)(o:Option Int):c7 n d o<=n:=by
 cases o with
 | none=>exact hd
 | some v=>
  show(if v < 0 then(v+(n:Int)).toNat else min v.toNat n)<=n
  by_cases hv:v < 0
  ·rw[if_pos hv];omega
  ·rw[if_neg hv];exact yK _ _
theorem yL(v:Int)(n d:Nat):(if v < 0 then max (v+(n:Int)) 0 else min v (n:Int))=((c7 n d (some v):Nat):Int):=by
 show(if v < 0 then max (v+(n:Int)) 0 else min v (n:Int))=(((if v < 0 then(v+(n:Int)).toNat else min v.toNat n):Nat):Int)
 by_cases hv:v < 0
 ·simp only[if_pos hv];omega
 ·simp only[if_neg hv];omega
theorem wZ(lo hi:Option Int)(n:Nat):Cq lo hi 1 (n:Int)=(((c7 n 0 lo:Nat):Int),((c7 n n hi:Nat):Int)):=by
 have h1:¬((1:Int) < 0):=by omega
 unfold Cq
 simp only[h1,if_false]
 refine Prod.ext ?_ ?_
 ·cases lo with
  | none=>rfl
  | some v=>exact yL v n 0
 ·cases hi with
  | none=>rfl
  | some v=>exact yL v n n
theorem w4(i j:Nat):w5 (i:Int) (j:Int) 1=j - i:=by
 unfold w5
 have h1:(1:Int) > 0:=by omega
 simp only[h1,if_true,Int.ediv_one]
 split<;>omega
theorem pe{v:YD}{o:Option Int}{Q:Option Int->YC->Prop}(p:IsPart v o)(h:Q o s):YR (model prog w) A (Builtin.Slice.slicePartIndex v) Q E s:=by
 cases p with
 | none=>exact slicePart_none h
 | int i t=>exact slicePart_int h
theorem ij{sl:Yx}{vl vu:YD}{lo hi:Option Int}{n:Nat}{Q:Int×Int×Nat->YC->Prop}(hs:s.heap.IsSliceOf sl vl vu .none)(pl:IsPart vl lo)(pu:IsPart vu hi)
  (h:Q (((c7 n 0 lo:Nat):Int),1,c7 n n hi - c7 n 0 lo) s):YR (model prog w) A (Lp (.ref sl) (pure (n:Int))) Q E s:=by
 obtain⟨os,hos,hcs,hds⟩:=id hs
 unfold Lp Builtin.Slice.sliceFields
 refine YS (YS (wpAny_field hos hds (x:=vl) rfl (YS (wpAny_field hos hds (x:=vu) rfl (YS (wpAny_field hos hds (x:=.none) rfl (YY ?_)))))))
 refine YS (slicePart_none ?_)
 show YR _ _ (if((1:Int) == 0)=true then _ else _) _ _ s
 rw[if_neg (by decide)]
 refine YS (pe pl (YS (pe pu (YS (YY ?_)))))
 show YR _ _ (match Cq lo hi 1 (n:Int) with | (lo,hi)=>pure (lo,(1:Int),w5 lo hi 1)) _ _ s
 rw[wZ lo hi n]
 show YR _ _ (pure (((c7 n 0 lo:Nat):Int),(1:Int),w5 ((c7 n 0 lo:Nat):Int) ((c7 n n hi:Nat):Int) 1)) _ _ s
 rw[w4]
 exact YY h
theorem Cr(xs:Array YD)(i k:Nat):((dm k).filterMap λ(m:Nat)=>xs[((i:Int)+(m:Int) * 1).toNat]?).toArray=((xs.toList.drop i).take k).toArray:=by
 have e:(λ(m:Nat)=>xs[((i:Int)+(m:Int) * 1).toNat]?)=λm=>xs[i+m]?:=by
  funext m
  have:((i:Int)+(m:Int) * 1).toNat=i+m:=by omega
  rw[this]
 rw[e]
 have:=pick_run xs i k
 rw[List.filterMap_map] at this
 have e2:((λx=>xs[x]?) ∘ λx=>i+x)=λm=>xs[i+m]?:=rfl
 rw[e2] at this
 rw[this]
theorem lG{t sl:Yx}{items:Array YD}{vl vu:YD}{lo hi:Option Int}{Q:YD->YC->Prop}(ht:IsTup s.heap t items)(hs:s.heap.IsSliceOf sl vl vu .none)(pl:IsPart vl lo)(pu:IsPart vu hi)
  (hw:¬(c7 items.size 0 lo=0/\c7 items.size items.size hi=items.size))
  (h:Q (.ref s.heap.objs.size) { s with heap:=s.heap.push { cls:=.type "tuple",data:=.seq ((items.toList.drop (c7 items.size 0 lo)).take (c7 items.size items.size hi - c7 items.size 0 lo)).toArray } })
  (hsz:items.size<=YO):YR (model prog w) A (getItem (.ref t) (.ref sl)) Q E s:=by
 have yM:sizeOk (.seq ((items.toList.drop (c7 items.size 0 lo)).take (c7 items.size items.size hi - c7 items.size 0 lo)).toArray):=by
  show((items.toList.drop (c7 items.size 0 lo)).take (c7 items.size items.size hi - c7 items.size 0 lo)).toArray.size<=YO
  rw[a8,mT,w6,Cc]
  omega
 have hj:c7 items.size items.size hi<=items.size:=Lo _ _ (ak _) hi
 obtain⟨os,hos,hcs,hds⟩:=id hs
 have Wu:s.TypeIs (.ref sl) "slice":=⟨os,hos,hcs⟩
 unfold getItem
 try with_reducible refine YU ?_
 first | refine YS (YY ?_) | skip
 refine YS (wpAny_sequenceKey ht.typeIs (by decide) ?_)
 refine YS (wpAny_callSpecial?_slot (name:=lH "__getitem__") ht.typeIs sS
  (wpAny_call_entry sS ht.typeIs entry_tuple_getitem ?_ (args_tuple_getitem _ _)))
 show YR _ _ (Lq (.ref t) >>= _) _ _ s
 refine YS (tupleItemsOf_ ht ?_)
 refine YS (wpAny_typeOf Wu ?_)
 rw[if_pos (by decide)]
 refine YS (ij hs pl pu ?_)
 have hno:¬((((c7 items.size 0 lo:Nat):Int) == 0&&(1:Int) == 1&&(c7 items.size items.size hi - c7 items.size 0 lo) == items.size)=true):=by
  intro q
  rw[cL,cL] at q
  have q1:((c7 items.size 0 lo:Nat):Int)=0:=eq_of_beq q.1.1
  have q2:c7 items.size items.size hi - c7 items.size 0 lo=items.size:=eq_of_beq q.2
  exact hw ⟨by omega,by omega⟩
 show YR _ _ (if(((c7 items.size 0 lo:Nat):Int) == 0&&(1:Int) == 1&&(c7 items.size items.size hi - c7 items.size 0 lo) == items.size)=true then _ else _) _ _ s
 rw[if_neg hno,Cr]
 first
  | exact YS (m:=w8 _) (YX (YY ⟨_,rfl,YY h⟩) yM)
  | exact YS (m:=w8 _) (YX (YS (YY (YY ⟨_,rfl,YY h⟩))) yM)
  | exact YS (YS (m:=w8 _) (YX (YY (YY ⟨_,rfl,YY h⟩)) yM))
  | exact YS (YS (m:=w8 _) (YX (YY ⟨_,rfl,YY h⟩) yM))
end
end HT
namespace L2
open PySem PySem.Spec PyProof.Rows
abbrev TO:=St->Hp->(Option Int->Hp->Prop)->Prop
def PO(X:Cx)(e:Option Expr)(t:TO):Prop :=
 ∀(pins:List (Yx×Obj))(s:YC)(σ:St)(H:Hp)(Q:Option Int->Hp->Prop),Inv X pins σ H s->t σ H Q->
  YR (model X.prog X.w) X.A (evalPart e X.env) (λu s'=>∃o H',Inv X pins σ H' s'/\IsPart u o/\Q o H') X.xe s
def GG:TO:=λ_ H Q=>Q none H
def OP(t:TE):TO:=λσ H Q=>t σ H λx H1=>∃i,x= .int i/\Q (some i) H1
theorem intsAre_of{ns:List Int}:∀{us:List YD},Vals (ns.map V.int) us->IntsAre us ns:=by
 induction ns with
 | nil=>intro us r;rw[w9] at r;cases r;exact .nil
 | cons n ns ih=>
  intro us r
  rw[aH] at r
  cases r with
  | cons r1 r2=>
   obtain⟨t,e⟩:=r1
   subst e
   exact .cons n t (ih r2)
section
variable {X:Cx} {e:Expr} {te:TE} {lo hi:Option Expr} {tl th:TO} {pos p2:Pos}
theorem GH:PO X none GG:=by
 intro pins s σ H Q I h
 rw[evalPart_none]
 exact YY ⟨none,H,I,.none,h⟩
theorem GJ(h:PE X e te):PO X (some e) (OP te):=by
 intro pins s σ H Q I hw
 rw[evalPart_some]
 refine bg (h pins s σ H _ I hw) λu s1 ⟨x,H1,I1,r1,q1⟩=>?_
 obtain⟨i,rfl,q⟩:=q1
 obtain⟨t,rfl⟩:=r1
 exact⟨some i,H1,I1,.int i t,q⟩
def F3(X:Cx)(r:V->Option Int->Option Int->Hp->VK->Prop):Prop :=
 ∀(pins:List (Yx×Obj))(s:YC)(σ:St)(H:Hp)(x:V)(v vl vu:YD)(lo hi:Option Int)(sl:Yx)(Q:VK),Inv X pins σ H s->RelV x v->s.heap.IsSliceOf sl vl vu .none->IsPart vl lo->IsPart vu hi->r x lo hi H Q->
  ∃T id,typeLookup (.type T) "__getitem__"=pure (some (.builtin id))/\s.TypeIs v T/\YR (model X.prog X.w) X.A (getItem v (.ref sl)) (EP X pins σ Q) X.xe s
theorem F3.or{r r':V->Option Int->Option Int->Hp->VK->Prop}(h:F3 X r)(h':F3 X r'):F3 X (λx lo hi H Q=>r x lo hi H Q\/r' x lo hi H Q):=by
 intro pins s σ H x v vl vu lo hi sl Q I rx hs pl pu q
 rcases q with q | q
 ·exact h pins s σ H x v vl vu lo hi sl Q I rx hs pl pu q
 ·exact h' pins s σ H x v vl vu lo hi sl Q I rx hs pl pu q
def Ww(r:V->Option Int->Option Int->Hp->VK->Prop)(te:TE)(tl th:TO):TE:=λσ H Q=>te σ H λx H1=>tl σ H1 λl H2=>th σ H2 λu H3=>r x l u H3 Q
theorem pf{r:V->Option Int->Option Int->Hp->VK->Prop}(hr:F3 X r)(he:PE X e te)(hl:PO X lo tl)(hu:PO X hi th):PE X (.Subscript e (.Slice lo hi none p2) pos) (Ww r te tl th):=by
 intro pins s σ H Q I h
 refine Subscript_ (bg (he pins s σ H _ I h) λv s1 ⟨x,H1,I1,r1,q1⟩=>?_)
 refine wpAny_Slice (bg (hl pins s1 σ H1 _ I1 q1) λvl s2 ⟨l,H2,I2,pl,q2⟩=>bg (hu pins s2 σ H2 _ I2 q2) λvu s3 ⟨u,H3,I3,pu,q3⟩=>?_)
 rw[evalPart_none]
 refine YY ?_
 have I4:Inv X pins σ H3 { s3 with heap:=s3.heap.push { cls:=.type "slice",data:=.fields #[vl,vu,.none] } }:=I3.kept (t':=s3.toks) λb ob q=>aR _ q
 obtain⟨T,id,hT,ht,hg⟩:=hr pins { s3 with heap:=s3.heap.push { cls:=.type "slice",data:=.fields #[vl,vu,.none] } } σ H3 x v vl vu l u s3.heap.objs.size Q I4 r1 (Heap.IsSliceOf.new ..) pl pu q3
 show YR (model X.prog X.w) X.A (subscriptTail e (.Slice lo hi none p2) v (.ref s3.heap.objs.size)) (EP X pins σ Q) X.xe { s3 with heap:=s3.heap.push { cls:=.type "slice",data:=.fields #[vl,vu,.none] } }
 exact tail_any (ops:=[.ref s3.heap.objs.size,v]) ht hT hg (by with_unfolding_all rfl)
def qQ(xs:List V)(lo hi:Option Int):List V:=(xs.drop (HT.c7 xs.length 0 lo)).take (HT.c7 xs.length xs.length hi - HT.c7 xs.length 0 lo)
theorem nO(xs:List V)(lo hi:Option Int):(qQ xs lo hi).length<=xs.length:=by
 unfold qQ
 rw[mT,w6]
 omega
def So(K:PySem.W.Frag):V->Option Int->Option Int->Hp->VK->Prop:=λx lo hi H Q=>∃a xs,x= .ref a/\eX K H a xs/\
 ¬(HT.c7 xs.length 0 lo=0/\HT.c7 xs.length xs.length hi=xs.length)/\∀p,H p=none->Q (.ref p) (upd H p (.tup (qQ xs lo hi)))
theorem Cs:F3 X (So X.K):=by
 intro pins s σ H x v vl vu lo hi sl Q I rx hs pl pu h
 obtain⟨a,xs,rfl,hx,hw,q⟩:=h
 cases rx
 obtain⟨its,r,ht,hz⟩:=I.tuple hx
 have hlen:its.toArray.size=xs.length:=by rw[a8];exact r.length.symm
 refine⟨"tuple",_,PyProof.Rows.slot_tuple_getitem.lookup,ht.typeIs,?_⟩
 refine HT.lG ht hs pl pu (by rw[hlen];exact hw) ?_ (by rw[hlen];exact hz)
 rw[hlen]
 refine⟨.ref s.heap.objs.size,_,I.laid (t':=s.toks) (o:=.tup (qQ xs lo hi)) (λb ob q=>aR _ q) (ak _) ?_,rfl,q _ (I.hok.fresh (ak _))⟩
 exact⟨aX (nO xs lo hi) hz,_,(r.drop (HT.c7 xs.length 0 lo)).take (HT.c7 xs.length xs.length hi - HT.c7 xs.length 0 lo),IsTup.new _ _,wM.new _ _⟩
def OQ(K:PySem.W.Frag):R2:=λx y H Q=>∃a b xs ys,x= .ref a/\y= .ref b/\eX K H a xs/\eX K H b ys/\xs≠[]/\xs.length+ys.length<=YO/\
 (ys=[]->Q (.ref a) H)/\(ys≠[]->∀p,H p=none->Q (.ref p) (upd H p (.tup (xs++ys))))
theorem Vals.sT{xs:List V}{us:List YD}(r:Vals xs us):us=[]↔xs=[]:=by
 cases r with
 | nil=>simp
 | cons _ _=>simp
theorem GK:fb X (YG .Add) (OQ X.K):=by
 intro pins s σ H x y v u Q I rx ry h
 obtain⟨a,b,xs,ys,rfl,rfl,ha,hb,hx,hz,q1,q2⟩:=h
 cases rx
 cases ry
 obtain⟨its,r1,p1,_⟩:=I.tuple ha
 obtain⟨its2,r2,p2,_⟩:=I.tuple hb
 refine HT.GF p1 p2 (λz=>hx (r1.sT.mp z)) (λz=>⟨.ref a,H,I,rfl,q1 (r2.sT.mp z)⟩) (λz=>?_) (by rw[<-r1.length,<-r2.length];exact hz)
 refine⟨.ref s.heap.objs.size,_,I.laid (t':=s.toks) (o:=.tup (xs++ys)) (λb ob q=>aR _ q) (ak _) ?_,rfl,q2 (λw=>z (r2.sT.mpr w)) _ (I.hok.fresh (ak _))⟩
 exact⟨by rw[eh];exact hz,_,r1.append r2,IsTup.new _ _,wM.new _ _⟩
end
def Cu(n:Nat)(i:Int):Option Nat:=if 0<=i then(if i < n then some i.toNat else none) else if -(n:Int)<=i then some (i+n).toNat else none
def pg{α:Type}(xs:List α)(i:Int):Option α:=(Cu xs.length i).bind λj=>xs[j]?
theorem yN{n:Nat}{i:Int}{j:Nat}(h:Cu n i=some j):seqIndex? i n=some j/\j < n/\-(n:Int)<=i/\i < n:=by
 unfold Cu at h
 by_cases h0:0<=i
 ·rw[if_pos h0] at h
  by_cases h1:i < n
  ·rw[if_pos h1] at h
   have e:i.toNat=j:=Option.some.inj h
   exact⟨by rw[seqIndex_of h0 h1,e],by omega,by omega,h1⟩
  ·rw[if_neg h1] at h;cases h
 ·rw[if_neg h0] at h
  by_cases h1:-(n:Int)<=i
  ·rw[if_pos h1] at h
   have e:(i+n).toNat=j:=Option.some.inj h
   exact⟨by rw[seqIndex_neg (by omega) h1,e],by omega,h1,by omega⟩
  ·rw[if_neg h1] at h;cases h
theorem oo{α:Type}{xs:List α}{i:Int}{v:α}(h:pg xs i=some v):∃j,seqIndex? i xs.length=some j/\xs[j]? =some v/\j < xs.length/\-(xs.length:Int)<=i/\i < xs.length:=by
 unfold pg at h
 cases e:Cu xs.length i with
 | none=>rw[e] at h;cases h
 | some j=>
  rw[e] at h
  obtain⟨h1,h2,h3,h4⟩:=yN e
  exact⟨j,h1,h,h2,h3,h4⟩
theorem ou{α:Type}{xs:List α}{j:Nat}{v:α}(h:xs[j]? =some v):pg xs (j:Int)=some v:=by
 have hj:j < xs.length:=(List.getElem?_eq_some_iff.mp h).1
 have e:Cu xs.length (j:Int)=some j:=by
  unfold Cu
  rw[if_pos (by omega),if_pos (by omega)];simp
 unfold pg;rw[e];exact h
def yO(b:Expr):Prop:=∀o i,subscripted b false o i=operate [o,i] (getItem o i)
def GL(X:Cx)(r:R2):Prop :=
 ∀(value slice:Expr)(pins:List (Yx×Obj))(s:YC)(σ:St)(H:Hp)(x y:V)(v u:YD)(Q:VK),Inv X pins σ H s->RelV x v->RelV y u->r x y H Q->
  subscripted slice false v u=operate [v,u] (getItem v u)->YR (model X.prog X.w) X.A (subscriptTail value slice v u) (EP X pins σ Q) X.xe s
def JD(X:Cx)(id:String)(r:V->List V->Hp->VK->Prop):Prop :=
 ∀(pins:List (Yx×Obj))(s:YC)(σ:St)(H:Hp)(x:V)(xs:List V)(v:YD)(us:List YD)(Q:VK),Inv X pins σ H s->RelV x v->Vals xs us->r x xs H Q->
  YR (model X.prog X.w) X.A (call (.builtin id) (v::us)) (EP X pins σ Q) X.xe s
section
variable {X:Cx} {a b:Expr} {ta tb:TE} {pos:Pos}
theorem GL.or{r r':R2}(h:GL X r)(h':GL X r'):GL X (λx y H Q=>r x y H Q\/r' x y H Q):=by
 intro value slice pins s σ H x y v u Q I rx ry q hs
 rcases q with q | q
 ·exact h value slice pins s σ H x y v u Q I rx ry q hs
 ·exact h' value slice pins s σ H x y v u Q I rx ry q hs
theorem OR{r:R2}(hr:GL X r)(ha:PE X a ta)(hb:PE X b tb)(hs:yO b):PE X (.Subscript a b pos) (OD r ta tb):=by
 intro pins s σ H Q I h
 exact Subscript_ (Lb ha hb I h λv u s2 x y H2 I2 rx ry q=>hr a b pins s2 σ H2 x y v u Q I2 rx ry q (hs _ _))
def OS(K:PySem.W.Frag):R2:=λx y H Q=>∃p xs i v,x= .ref p/\y= .int i/\iF K H p xs/\pg xs i=some v/\Q v H
def OT(K:PySem.W.Frag):R2:=λx y H Q=>∃p xs i v,x= .ref p/\y= .int i/\eX K H p xs/\pg xs i=some v/\Q v H
def OU:R2:=λx y H Q=>∃z i c,x= .str z/\y= .int i/\z.length<=YO/\pg z.cps.toList i=some c/\Q (.str ⟨#[c]⟩) H
theorem GN:GL X (OS X.K):=by
 intro value slice pins s σ H x y v u Q I rx ry h hs
 obtain⟨p,xs,i,z,rfl,rfl,hq,he,q⟩:=h
 cases rx
 obtain⟨t,rfl⟩:=ry
 obtain⟨its,r,pl,hz⟩:=I.list hq
 obtain⟨j,h1,h2,h3,h4,h5⟩:=oo he
 obtain⟨w,ew,rw'⟩:=r.get h2
 have hl:=r.length
 have hn:=kM
 have fin:EP X pins σ Q w s:=⟨z,H,I,rw',q⟩
 by_cases h0:0<=i
 ·have hj:i.toNat=j:=by
   rw[seqIndex_of h0 h5] at h1
   exact Option.some.inj h1
  exact item_listR pl.isList h0 (by omega) (by rw[hj];simpa using ew) fin hs
 ·have hj:(i+(its.toArray.size:Int)).toNat=j:=by
   rw[seqIndex_neg (by omega) h4] at h1
   rw[a8,<-hl]
   exact Option.some.inj h1
  exact subscriptTail_builtinR (x:=w) pl.isList.typeIs slot_list_getitem.lookup
   (wpAny_getItem_list_neg (Q:=λr s'=>r=w/\EP X pins σ Q r s') pl.isList (by omega) (by rw[a8]<;>omega) (by omega) (by rw[hj];simpa using ew) ⟨rfl,fin⟩) hs
theorem Lr:GL X (OT X.K):=by
 intro value slice pins s σ H x y v u Q I rx ry h hs
 obtain⟨p,xs,i,z,rfl,rfl,hq,he,q⟩:=h
 cases rx
 obtain⟨t,rfl⟩:=ry
 obtain⟨its,r,pl,hz⟩:=I.tuple hq
 obtain⟨j,h1,h2,h3,h4,h5⟩:=oo he
 obtain⟨w,ew,rw'⟩:=r.get h2
 have hl:=r.length
 have hn:=kM
 have fin:EP X pins σ Q w s:=⟨z,H,I,rw',q⟩
 exact subscriptTail_builtinR (x:=w) pl.typeIs slot_tuple_getitem.lookup
  (getItem_tuple (j:=j) (Q:=λr s'=>r=w/\EP X pins σ Q r s') pl (by omega) (by omega) (by rw[a8,<-hl];exact h1) (by simpa using ew) ⟨rfl,fin⟩) hs
theorem Ls:GL X OU:=by
 intro value slice pins s σ H x y v u Q I rx ry h hs
 obtain⟨z,i,c,rfl,rfl,hz,he,q⟩:=h
 obtain⟨t,rfl⟩:=rx
 obtain⟨t',rfl⟩:=ry
 obtain⟨j,h1,h2,h3,h4,h5⟩:=oo he
 have hl:z.cps.toList.length=z.length:=by simp[Str.length]
 rw[hl] at h1 h4 h5
 have hn:=kM
 exact tail_any (typeIs_str s z t) slot_str_getitem.lookup (getItem_str (c:=c) (by
  have e1:decide (i < -(2 ^ 63:Int))=false:=decide_eq_false (by omega)
  have e2:decide (i >= 2 ^ 63)=false:=decide_eq_false (by omega)
  rw[e1,e2,Bool.or_false]) (by rw[h1];simpa using h2) ⟨.str ⟨#[c]⟩,H,I.tok _,⟨_,rfl⟩,q⟩) hs
def Vk(K:PySem.W.Frag):R2:=λx y H Q=>OS K x y H Q\/OT K x y H Q\/OU x y H Q
theorem Lu:GL X (Vk X.K):=GN.or (Lr.or Ls)
theorem w_(its:List YD)(n j:Nat)(u:YD):dS (·.setIfInBounds j u) { cls:=.type "list",data:=.seq its.toArray n }={ cls:=.type "list",data:=.seq (its.set j u).toArray n }:=by
 simp[dS]
theorem Inv.lst{pins:List (Yx×Obj)}{σ:St}{H:Hp}{s:YC}{p:Yx}{xs:List V}(I:Inv X pins σ H s)(h:H p=some (.lst xs)) :
  ∃(its:List YD)(n:Nat),Vals xs its/\s.heap.get? p=some { cls:=.type "list",data:=.seq its.toArray n }/\xs.length<=YO:=by
 obtain⟨z,its,n,r,e⟩:=I.hok p _ h
 exact⟨its,n,r,e,z⟩
theorem Inv.Lw{pins:List (Yx×Obj)}{σ:St}{H:Hp}{s:YC}{p:Yx}{xs ys:List V}{its its':List YD}{n n':Nat}{f:Obj->Obj}(I:Inv X pins σ H s)(h:H p=some (.lst xs))
  (ho:s.heap.get? p=some { cls:=.type "list",data:=.seq its.toArray n })(hf:f { cls:=.type "list",data:=.seq its.toArray n }={ cls:=.type "list",data:=.seq its'.toArray n' })(r:Vals ys its')(hz:ys.length<=YO)(t:Nat) :
  Inv X pins σ (upd H p (.lst ys)) { s with heap:=s.heap.update p f,toks:=t }:=by
 have e:(s.heap.update p f).get? p=some { cls:=.type "list",data:=.seq its'.toArray n' }:=by
  rw[Cv f ho (by rw[hf]<;>rfl),hf]
 refine I.write (x:=p) (e:=p) (by rw[h];trivial) (.inl rfl) (λb u hb q=>(ph _ _ (bt hb)).trans q) ⟨_,e⟩ ?_
 exact⟨hz,its',n',r,e⟩
def OV:V->V->V->Hp->(Hp->Prop)->Prop:=λo i v H Q=>∃p xs k j,o= .ref p/\i= .int k/\H p=some (.lst xs)/\Cu xs.length k=some j/\Q (upd H p (.lst (xs.set j v)))
theorem set_list:Oz X OV:=by
 intro pins s σ H o i v ov iv u Q I ro ri rv h
 obtain⟨p,xs,k,j,rfl,rfl,hp,hj,q⟩:=h
 cases ro
 obtain⟨t,rfl⟩:=ri
 obtain⟨its,n,r,ho,hz⟩:=I.lst hp
 obtain⟨h1,h2,h3,h4⟩:=yN hj
 have hl:=r.length
 have hn:=kM
 have I':Inv X pins σ (upd H p (.lst (xs.set j v))) { s with heap:=s.heap.update p (dS (·.setIfInBounds j u)) } :=
  I.Lw hp ho (w_ its n j u) (r.set rv j) (by rw[List.length_set];exact hz) s.toks
 by_cases h0:0<=k
 ·have hk:k.toNat=j:=by
   rw[seqIndex_of h0 h4] at h1
   exact Option.some.inj h1
  exact PySem.W.ki_setAt ho h0 (by omega) (by rw[a8,<-hl];exact h4) (by rw[hk];exact⟨_,I',q⟩)
 ·have hk:(k+(its.toArray.size:Int)).toNat=j:=by
   rw[seqIndex_neg (by omega) h3] at h1
   rw[a8,<-hl]
   exact Option.some.inj h1
  exact PySem.W.ki_setBack ho (by omega) (by rw[a8,<-hl];exact h3) (by omega) (by rw[hk];exact⟨_,I',q⟩)
theorem sU(lo hi:Option Int)(n:Nat):(sliceBounds lo hi none n).1=((HT.c7 n 0 lo:Nat):Int)/\(sliceBounds lo hi none n).2.1=((HT.c7 n n hi:Nat):Int)/\(sliceBounds lo hi none n).2.2=1:=by
 refine⟨?_,?_,rfl⟩
 ·cases lo with
  | none=>simp[sliceBounds,HT.c7]
  | some i=>
   simp only[sliceBounds,HT.c7,Option.getD_none,show(1:Int) > 0 by decide,if_true]
   by_cases h:i < 0
   ·simp only[h,if_true]<;>omega
   ·simp only[h,if_false]<;>omega
 ·cases hi with
  | none=>simp[sliceBounds,HT.c7]
  | some i=>
   simp only[sliceBounds,HT.c7,Option.getD_none,show(1:Int) > 0 by decide,if_true]
   by_cases h:i < 0
   ·simp only[h,if_true]<;>omega
   ·simp only[h,if_false]<;>omega
theorem qR(its:List YD)(lo hi:Option Int):slicePick its.toArray lo hi none=((its.drop (HT.c7 its.length 0 lo)).take (HT.c7 its.length its.length hi - HT.c7 its.length 0 lo)).toArray:=by
 obtain⟨h1,h2,h3⟩:=sU lo hi its.toArray.size
 unfold slicePick
 rw[h1,h2,h3]
 simp only[sliceRange_one,pick_run,a8]<;>rfl
def Sq(K:PySem.W.Frag):V->Option Int->Option Int->Hp->VK->Prop:=λx lo hi H Q=>∃a xs,x= .ref a/\iF K H a xs/\∀p,H p=none->Q (.ref p) (upd H p (.lst (qQ xs lo hi)))
theorem GP:F3 X (Sq X.K):=by
 intro pins s σ H x v vl vu lo hi sl Q I rx hs pl pu h
 obtain⟨a,xs,rfl,hx,q⟩:=h
 cases rx
 obtain⟨its,r,ht,hz⟩:=I.list hx
 have hlen:=r.length
 refine⟨"list",_,slot_list_getitem.lookup,ht.isList.typeIs,?_⟩
 refine wpAny_getItem_list_slice ht.isList hs pl pu .none (by simp) ?_ (by rw[a8]<;>omega)
 rw[qR,<-hlen]
 refine⟨.ref s.heap.objs.size,_,I.laid (t':=s.toks) (o:=.lst (qQ xs lo hi)) (λb ob q=>aR _ q) (ak _) ?_,rfl,q _ (I.hok.fresh (ak _))⟩
 exact⟨aX (nO xs lo hi) hz,_,0,(r.drop (HT.c7 xs.length 0 lo)).take (HT.c7 xs.length xs.length hi - HT.c7 xs.length 0 lo),cz _ rfl⟩
def eV:V->Bool
 | .ay=>true
 | .bl _=>true
 | .int _=>true
 | .str _=>true
 | _=>false
def uN:V->V->Bool
 | .ay,.ay=>true
 | .bl a,.bl b=>a == b
 | .bl a,.int b=>(if a then 1 else 0) == b
 | .int a,.bl b=>a == (if b then 1 else 0)
 | .int a,.int b=>a == b
 | .str a,.str b=>a == b
 | _,_=>false
theorem Lx{A:Yy}{s:YC}{y x:V}{u v:YD}(ry:RelV y u)(rx:RelV x v)(fy:eV y=true)(fx:eV x=true):SeqAt.EqAt A s u v (uN y x):=by
 cases y with
 | ay=>
  cases ry
  cases x with
  | ay=>cases rx;exact Gf _
  | bl b=>cases rx;exact SeqAt.EqAt.none_bool b
  | int b=>obtain⟨t,rfl⟩:=rx;exact Gd b t
  | str b=>obtain⟨t,rfl⟩:=rx;exact Ge b t
  | _=>exact absurd (show false=true from fx) cQ
 | bl a=>
  cases ry
  cases x with
  | ay=>cases rx;exact SeqAt.EqAt.bool_none a
  | bl b=>cases rx;exact SeqAt.EqAt.bool_bool a b
  | int b=>obtain⟨t,rfl⟩:=rx;exact SeqAt.EqAt.bool_int a b t
  | str b=>obtain⟨t,rfl⟩:=rx;exact SeqAt.EqAt.bool_str a b t
  | _=>exact absurd (show false=true from fx) cQ
 | int a=>
  obtain⟨t',rfl⟩:=ry
  cases x with
  | ay=>cases rx;exact F' a t'
  | bl b=>cases rx;exact SeqAt.EqAt.int_bool a t' b
  | int b=>obtain⟨t,rfl⟩:=rx;exact SeqAt.EqAt.int_int a t' b t
  | str b=>obtain⟨t,rfl⟩:=rx;exact F_ a t' b t
  | _=>exact absurd (show false=true from fx) cQ
 | str a=>
  obtain⟨t',rfl⟩:=ry
  cases x with
  | ay=>cases rx;exact Gb a t'
  | bl b=>cases rx;exact SeqAt.EqAt.str_bool a t' b
  | int b=>obtain⟨t,rfl⟩:=rx;exact Ga a t' b t
  | str b=>obtain⟨t,rfl⟩:=rx;exact SeqAt.EqAt.str_str a t' b t
  | _=>exact absurd (show false=true from fx) cQ
 | _=>exact absurd (show false=true from fy) cQ
def qS(x:V)(u:YD):Bool:=match u with
 | .none=>uN .ay x
 | .bool b=>uN (.bl b) x
 | .int i _=>uN (.int i) x
 | .str z _=>uN (.str z) x
 | _=>false
theorem pj{x y:V}{u:YD}(r:RelV y u)(f:eV y=true):qS x u=uN y x:=by
 cases y with
 | ay=>cases r;rfl
 | bl b=>cases r;rfl
 | int i=>obtain⟨t,rfl⟩:=r;rfl
 | str z=>obtain⟨t,rfl⟩:=r;rfl
 | _=>exact absurd (show false=true from f) cQ
theorem lI{x:V}:∀{xs:List V}{us:List YD},Vals xs us->xs.all eV=true->us.any (qS x)=xs.any λy=>uN y x
 | _,_,.nil,_=>rfl
 | y::xs,u::us,.cons r t,f=>by
  rw[eI,cL] at f
  rw[fM,fM,pj r f.1,lI t f.2]
theorem fI{A:Yy}{s:YC}{x:V}{v:YD}(rx:RelV x v)(fx:eV x=true):∀{xs:List V}{us:List YD},Vals xs us->xs.all eV=true->∀u∈us,SeqAt.EqAt A s u v (qS x u)
 | _,_,.nil,_=>λu hu=>by cases hu
 | y::xs,u::us,.cons r t,f=>λu' hu=>by
  rw[eI,cL] at f
  rcases List.mem_cons.mp hu with rfl | hu
  ·rw[pj r f.1];exact Lx r rx f.1 fx
  ·exact fI rx fx t f.2 u' hu
def QY(x:V)(xs:List V):Bool:=xs.any λy=>uN y x
def Vl(K:PySem.W.Frag)(neg:Bool):R2:=λx y H Q=>∃p xs,y= .ref p/\(iF K H p xs\/eX K H p xs)/\eV x=true/\xs.all eV=true/\Q (.bl (if neg then !QY x xs else QY x xs)) H
theorem Ar:fb X (YK .In) (Vl X.K false):=by
 intro pins s σ H x y v u Q I rx ry h
 obtain⟨p,xs,rfl,hq,fx,fs,q⟩:=h
 cases ry
 rcases hq with hq | hq
 ·obtain⟨its,r,pl,hz⟩:=I.list hq
  refine SeqAt.in_listAt (qS x) pl.isList (λw hw=>fI rx fx r fs w (by simpa using hw)) ⟨.bl _,H,I,rfl,?_⟩
  rw[show its.toArray.any (qS x)=its.any (qS x) by simp,lI r fs]
  exact q
 ·obtain⟨its,r,pl,hz⟩:=I.tuple hq
  refine SeqAt.in_tupleAt (qS x) pl (λw hw=>fI rx fx r fs w (by simpa using hw)) ⟨.bl _,H,I,rfl,?_⟩
  rw[show its.toArray.any (qS x)=its.any (qS x) by simp,lI r fs]
  exact q
theorem sV:fb X (YK .NotIn) (Vl X.K true):=by
 intro pins s σ H x y v u Q I rx ry h
 obtain⟨p,xs,rfl,hq,fx,fs,q⟩:=h
 cases ry
 rcases hq with hq | hq
 ·obtain⟨its,r,pl,hz⟩:=I.list hq
  refine SeqAt.notIn_listAt (qS x) pl.isList (λw hw=>fI rx fx r fs w (by simpa using hw)) ⟨.bl _,H,I,rfl,?_⟩
  rw[show its.toArray.any (qS x)=its.any (qS x) by simp,lI r fs]
  exact q
 ·obtain⟨its,r,pl,hz⟩:=I.tuple hq
  refine SeqAt.notIn_tupleAt (qS x) pl (λw hw=>fI rx fx r fs w (by simpa using hw)) ⟨.bl _,H,I,rfl,?_⟩
  rw[show its.toArray.any (qS x)=its.any (qS x) by simp,lI r fs]
  exact q
theorem sW:fb X (YK .NotIn) (λx y H Q=>∃i j,x= .str i/\y= .str j/\Q (.bl (!(!(mS j i 0 j.length 1).isEmpty))) H):=by
 intro pins s σ H x y v u Q I rx ry h
 obtain⟨i,j,rfl,rfl,q⟩:=h
 obtain⟨t,rfl⟩:=rx
 obtain⟨t',rfl⟩:=ry
 exact notIn_str ⟨.bl _,H,I,rfl,q⟩
theorem sX:c9 X (.builtin "len") (λxs H Q=>∃p ys,xs=[.ref p]/\(iF X.K H p ys\/eX X.K H p ys)/\Q (.int ys.length) H):=by
 intro pins s σ H xs us Q I r h
 obtain⟨p,ys,rfl,hq,q⟩:=h
 obtain⟨u,rfl,rx⟩:=vals1 r
 cases rx
 have hn:=kM
 rcases hq with hq | hq
 ·obtain⟨its,r',pl,hz⟩:=I.list hq
  have hlen:=r'.length
  exact Calls.call_len_list pl.isList (by simp only[a8]<;>omega) ⟨.int ys.length,H,I.tok _,⟨s.toks+1,by rw[a8,hlen]⟩,q⟩
 ·obtain⟨its,r',pl,hz⟩:=I.tuple hq
  have hlen:=r'.length
  exact len_tuple pl (by simp only[a8]<;>omega) ⟨.int ys.length,H,I.tok _,⟨s.toks+1,by rw[a8,hlen]⟩,q⟩
theorem sY:c9 X (.builtin "len") (λxs H Q=>∃z,xs=[.str z]/\z.length<=YO/\Q (.int z.length) H):=by
 intro pins s σ H xs us Q I r h
 obtain⟨z,rfl,hz,q⟩:=h
 obtain⟨u,rfl,t,rfl⟩:=vals1 r
 have hn:=kM
 exact len_str (by omega) ⟨.int z.length,H,I.tok _,⟨_,rfl⟩,q⟩
theorem c9.or{f:YD}{r r':List V->Hp->VK->Prop}(h:c9 X f r)(h':c9 X f r'):c9 X f (λxs H Q=>r xs H Q\/r' xs H Q):=by
 intro pins s σ H xs us Q I rs q
 rcases q with q | q
 ·exact h pins s σ H xs us Q I rs q
 ·exact h' pins s σ H xs us Q I rs q
theorem sZ:c9 X (.type "list") (λxs H Q=>∃p ys,xs=[.ref p]/\(iF X.K H p ys\/eX X.K H p ys)/\∀l,H l=none->Q (.ref l) (upd H l (.lst ys))):=by
 intro pins s σ H xs us Q I r h
 obtain⟨p,ys,rfl,hq,q⟩:=h
 obtain⟨u,rfl,rx⟩:=vals1 r
 cases rx
 have fin:∀(its:List YD),Vals ys its->ys.length<=YO->∀(h':Heap)(c':Nat),(∀b o',s.heap.get? b=some o'->h'.get? b=some o')->
   h'.get? s.heap.objs.size=some { cls:=.type "list",dict:=none,data:=.seq its.toArray c',slots:=#[] }->EP X pins σ Q (.ref s.heap.objs.size) { s with heap:=h' }:=λits r' hz h' c' kp e=>
  ⟨.ref s.heap.objs.size,_,I.laid (t':=s.toks) kp (ak _) (show cK X.prog X.w _ h' _ (.lst ys) from⟨hz,its,c',r',e⟩),rfl,q _ (I.hok.fresh (ak _))⟩
 rcases hq with hq | hq
 ·obtain⟨its,r',pl,hz⟩:=I.list hq
  have hlen:=r'.length
  obtain⟨o,ho,hc,n,hd⟩:=pl.isList
  exact call_list_seq p (.inl rfl) ho hc hd (λh' c' kp e=>fin its r' hz h' c' kp e) (by simp only[a8]<;>omega)
 ·obtain⟨its,r',pl,hz⟩:=I.tuple hq
  have hlen:=r'.length
  obtain⟨o,ho,hc,n,hd⟩:=pl
  exact call_list_seq p (.inr rfl) ho hc hd (λh' c' kp e=>fin its r' hz h' c' kp e) (by simp only[a8]<;>omega)
theorem qU:c9 X (.type "tuple") (λxs H Q=>∃p ys,xs=[.ref p]/\((iF X.K H p ys/\∀l,H l=none->Q (.ref l) (upd H l (.tup ys)))\/(eX X.K H p ys/\Q (.ref p) H))):=by
 intro pins s σ H xs us Q I r h
 obtain⟨p,ys,rfl,h⟩:=h
 obtain⟨u,rfl,rx⟩:=vals1 r
 cases rx
 rcases h with ⟨hq,q⟩ | ⟨hq,q⟩
 ·obtain⟨its,r',pl,hz⟩:=I.list hq
  have hlen:=r'.length
  refine call_tuple_list pl.isList (λh' kp=>?_) (by simp only[a8]<;>omega)
  have I1:Inv X pins σ H { s with heap:=h' }:=I.kept (t':=s.toks) kp
  have I2:Inv X pins σ (upd H h'.objs.size (.tup ys)) { s with heap:=h'.push { cls:=.type "tuple",data:=.seq its.toArray } } :=
   I1.laid (t':=s.toks) (λb o e=>aR _ e) (ak _) (show cK X.prog X.w _ _ _ (.tup ys) from⟨hz,its,r',IsTup.new _ _,wM.new _ _⟩)
  exact⟨.ref h'.objs.size,_,I2,rfl,q _ (I1.hok.fresh (ak _))⟩
 ·obtain⟨its,r',pl,hz⟩:=I.tuple hq
  exact call_tuple_same pl ⟨.ref p,H,I,rfl,q⟩
def Vm(K:PySem.W.Frag)(T:String)(x:V)(H:Hp):Prop:=match x with
 | .str _=>T="str"
 | .int _=>T="int"
 | .ref p=>(T="list"/\∃xs,iF K H p xs)\/(T="tuple"/\((∃o,K.lookup p=some o/\o.cls= .type "tuple"/\o.dict=none)\/∃xs,H p=some (.tup xs)))\/
   (T="dict"/\((∃kvs,H p=some (.dK kvs))\/∃kvs,H p=some (.dT kvs)))\/(T="set"/\∃S n,H p=some (.set S n))
 | _=>False
theorem Ly{pins:List (Yx×Obj)}{σ:St}{H:Hp}{s:YC}{T:String}{x:V}{v:YD}(I:Inv X pins σ H s)(r:RelV x v)(ty:Vm X.K T x H) :
  s.TypeIs v T/\∀a,v= .ref a->∃ob,s.heap.get? a=some ob/\ob.dict=none:=by
 cases x with
 | str z=>
  obtain⟨t,rfl⟩:=r
  cases (show T="str" from ty)
  exact⟨typeIs_str s z t,λ_ e=>nomatch e⟩
 | int i=>
  obtain⟨t,rfl⟩:=r
  cases (show T="int" from ty)
  exact⟨typeIs_int s i t,λ_ e=>nomatch e⟩
 | ref p=>
  cases r
  rcases ty with ⟨rfl,xs,hq⟩ | ⟨rfl,⟨o,hk,hc,hd⟩ | ⟨xs,hk⟩⟩ | ⟨rfl,hk⟩ | ⟨rfl,S,n,hk⟩
  ·obtain⟨its,_,pl,_⟩:=I.list hq
   refine⟨pl.isList.typeIs,λa e=>?_⟩
   cases e
   obtain⟨o,n,e,c,hd,_⟩:=pl
   exact⟨o,e,hd⟩
  ·refine⟨⟨o,I.wN p o hk,hc⟩,λa e=>?_⟩
   cases e
   exact⟨o,I.wN _ o hk,hd⟩
  ·obtain⟨_,_,_,⟨o,e1,e2,_⟩,nd⟩:=I.hok p _ hk
   refine⟨⟨o,e1,e2⟩,λa e=>?_⟩
   cases e
   exact⟨o,e1,nd o e1⟩
  ·have z:∃o,s.heap.get? p=some o/\o.ExactDict:=by
    rcases hk with ⟨kvs,hk⟩ | ⟨kvs,hk⟩
    ·obtain⟨_,_,_,_,o,_,_,e,ex,_⟩:=I.hok p _ hk
     exact⟨o,e,ex⟩
    ·obtain⟨_,_,_,_,o,_,_,e,ex,_⟩:=I.hok p _ hk
     exact⟨o,e,ex⟩
   obtain⟨o,e,ex⟩:=z
   refine⟨⟨o,e,ex.1⟩,λa e2=>?_⟩
   cases e2
   exact⟨o,e,ex.2.1⟩
  ·obtain⟨o,_,_,_,e,ex,_⟩:=I.hok p _ hk
   refine⟨⟨o,e,ex.1⟩,λa e2=>?_⟩
   cases e2
   exact⟨o,e,ex.2.1⟩
 | _=>exact aa ty
def Wx(K:PySem.W.Frag)(T:String)(r:V->List V->Hp->VK->Prop)(to:TE)(t:TA):TE:=λσ H Q=>to σ H λx H1=>Vm K T x H1/\t σ H1 λxs H2=>r x xs H2 Q
variable {o e:Expr} {es:List Expr} {to:TE} {t:TA} {name:Str} {apos cpos:Pos} {T id:String} {r:V->List V->Hp->VK->Prop}
theorem yP(pa:PlainAttrs T)(slot:Slot T name id)(hty:typeOf (.builtin id)=pure (.type "method_descriptor"))(hm:JD X id r)(ho:PE X o to)(ha:PA X (e::es) t)
  (hbase:attributeBase o name X.env (eval o X.env)=eval o X.env:=by rfl)
  (hfew:((backTo cpos (YQ (e::es) X.env)).all (λx=> !x.1)&&(backToKw cpos (keywordEach [] X.env)).all (λx=>x.1.isSome)
   &&decide ((e::es).length+([]:List Keyword).length+(if([]:List Keyword).isEmpty then 0 else 1) < 30))=true:=by rfl)
  (hline:(apos.endLine == cpos.line)=true:=by rfl)(hs:YQ (e::es) X.env=(false,eval e X.env)::YQ es X.env:=by rfl)(hplain:(backTo cpos (YQ es X.env)).any (·.1)=false:=by rfl) :
  PE X (.Call (.Attribute o name apos) (e::es) [] cpos) (Wx X.K T r to t):=by
 intro pins s σ H Q I h
 refine wpAny_Call_method_late hbase hfew hline rfl (bg (ho pins s σ H _ I h) λv s1 ⟨x,H1,I1,r1,ty,q1⟩=>?_)
 obtain⟨h1,h2⟩:=Ly I1 r1 ty
 refine⟨T,id,pa,slot,hty,h1,h2,?_⟩
 have hA:=ha cpos pins s1 σ H1 _ I1 q1
 rw[hs] at hA ⊢
 refine xa (by show(false||(backTo cpos (YQ es X.env)).any (·.1))=false;rw[hplain]<;>rfl) (xb ?_)
 exact bg hA λus s2 ⟨vs,H2,I2,r2,q2⟩=>hm pins s2 σ H2 x vs v us Q I2 r1 r2 q2
/- xs.append(e),list.index on a Cw tuple .. are JD facts of 06m -/
end
def Wy(X:Cx)(id:String)(r:V->List V->Hp->VK->Prop):Prop :=
 ∀(pins:List (Yx×Obj))(s:YC)(σ:St)(H:Hp)(x:V)(xs:List V)(v:YD)(us:List YD)(Q:VK),Inv X pins σ H s->RelV x v->Vals xs us->r x xs H Q->
  YR (model X.prog X.w) X.A (call (.builtin id) (v::us)) (EP X pins σ Q) X.xe s
theorem Vals.one:∀{x:V}{us:List YD},Vals [x] us->∃u,us=[u]/\RelV x u
 | _,_,.cons r .nil=>⟨_,rfl,r⟩
theorem Vals.rep{xs:List V}{us:List YD}(h:Vals xs us):∀k:Nat,Vals (aD k xs).flatten (aD k us).flatten
 | 0=> .nil
 | k+1=>by
  rw[gR,gR,pk,pk]
  exact Vals.append h (Vals.rep h k)
theorem foldl_rep(its:List YD):∀(k:Nat)(acc:List YD),
  List.foldl (λx1 x2=>x1++x2) acc.toArray (aD k its.toArray)=(acc++(aD k its).flatten).toArray
 | 0,acc=>by simp
 | k+1,acc=>by
  have e:acc.toArray++its.toArray=(acc++its).toArray:=by simp
  have e2:(acc++its)++(aD k its).flatten=acc++(aD (k+1) its).flatten:=by
   rw[gR,pk,pv]
  rw[<-e2,<-foldl_rep its k (acc++its),<-e,gR,Cy]
section
variable {X:Cx} {pins:List (Yx×Obj)} {σ:St} {H:Hp} {s:YC} {l b:Yx} {xs ys zs:List V}
theorem Inv.Sr{its its':List YD}{n:Nat}{f:Array YD->Array YD}{t':Nat}(I:Inv X pins σ H s)(hH:H l=some (.lst xs))
  (e:s.heap.get? l=some { cls:=.type "list",data:=.seq its.toArray n })(hf:f its.toArray=its'.toArray)(hv:Vals ys its')(hz:ys.length<=YO) :
  Inv X pins σ (upd H l (.lst ys)) { s with heap:=s.heap.update l (dS f),toks:=t' }:=by
 have q:=PySem.IsL.update e f
 rw[hf] at q
 refine I.write (x:=l) (e:=l) (by rw[hH];exact trivial) (.inl rfl) (λb' u hb hu=>(ph s.heap (dS f) (bt hb)).trans hu) ⟨_,q⟩ ?_
 exact⟨hz,its',_,hv,q⟩
theorem Inv.GQ{its:List YD}{t':Nat}(I:Inv X pins σ H s)(hv:Vals ys its)(hz:ys.length<=YO) :
  Inv X pins σ (upd H s.heap.objs.size (.lst ys)) { s with heap:=s.heap.push { cls:=.type "list",data:=.seq its.toArray },toks:=t' } :=
 I.laid (λ_ _ q=>aR _ q) (ak _) ⟨hz,its,0,hv,cz _ rfl⟩
theorem Inv.fresh(I:Inv X pins σ H s):H s.heap.objs.size=none:=I.hok.fresh (ak _)
theorem Inv.OW(I:Inv X pins σ H s)(hH:H l=some (.lst xs)):xs.length<=YO/\∃(its:List YD)(n:Nat),Vals xs its/\xs.length=its.length/\s.heap.get? l=some { cls:=.type "list",data:=.seq its.toArray n }:=by
 obtain⟨z,its,n,r,e⟩:=I.hok l _ hH
 exact⟨z,its,n,r,r.length,e⟩
theorem Cz{n:Nat}(h:n<=YO):CA n=false:=by
 unfold CA
 exact decide_eq_false (by omega)
end
section
variable {X:Cx}
def GR:V->List V->Hp->VK->Prop:=λx vs H Q=>∃l xs y,x= .ref l/\vs=[y]/\H l=some (.lst xs)/\xs.length < YO/\Q .ay (upd H l (.lst (xs++[y])))
theorem As:Wy X "list.append" GR:=by
 intro pins s σ H x vs v us Q I rx rv h
 obtain⟨l,xs,y,rfl,rfl,hH,hz,q⟩:=h
 cases rx
 obtain⟨u,rfl,ru⟩:=rv.one
 obtain⟨z,its,n,r,hl,e⟩:=I.OW hH
 refine call_meets F.slot_list_append ⟨_,e,rfl⟩ F.entry_list_append (F.args_list_append_2 _ _) (PySem.list_append l its.toArray n u (by rw[a8];omega)) ⟨e,?_⟩
 refine⟨.ay,_,I.Sr (its':=its++[u]) hH e (by simp) (r.append (.cons ru .nil)) ?_,rfl,q⟩
 rw[eh,Lz]
 omega
def Ss:R2:=λx y H Q=>∃l k xs,x= .ref l/\y= .int k/\H l=some (.lst xs)/\-(2 ^ 63)<=k/\k < 2 ^ 63/\xs.length * k.toNat<=YO/\
 ∀p,H p=none->Q (.ref p) (upd H p (.lst (aD k.toNat xs).flatten))
theorem len_rep{α:Type}(xs:List α)(k:Nat):(aD k xs).flatten.length=k * xs.length:=by
 induction k with
 | zero=>simp
 | succ k ih=>rw[gR,pk,eh,ih,Nat.succ_mul,Nat.add_comm]
theorem LA:fb X (YG .Mult) Ss:=by
 intro pins s σ H x y v u Q I rx ry h
 obtain⟨l,k,xs,rfl,rfl,hH,h1,h2,hz,q⟩:=h
 cases rx
 obtain⟨t,rfl⟩:=ry
 obtain⟨z,its,n,r,hl,e⟩:=I.OW hH
 have hlen:its.toArray.size * k.toNat<=YO:=by rw[a8,<-hl];exact hz
 have hcap:¬its.toArray.size * k.toNat > (2 ^ 63 - 1) / 8:=by
  have:(YO:Nat)<=(2 ^ 63 - 1) / 8:=by decide
  omega
 have hfit:¬(!Builtin.List.listFitsIndex k)=true:=by
  rw[fitsIndex_both h1 h2]
  exact cQ
 have OX:¬CA (its.toArray.size * k.toNat)=true:=by
  rw[Cz hlen]
  exact cQ
 have hnew:List.foldl (λx1 x2=>x1++x2) #[] (aD (if its.toArray.isEmpty=true then 0 else k.toNat) its.toArray)=(aD k.toNat its).flatten.toArray:=by
  have f0:∀m:Nat,List.foldl (λx1 x2=>x1++x2) #[] (aD m its.toArray)=(aD m its).flatten.toArray:=λm=>by
   have:=foldl_rep its m []
   rw[pz] at this
   exact this
  rw[f0]
  cases its with
  | nil=>simp
  | cons a r'=>rw[if_neg (by simp)]
 refine wpAny_binaryOp_repeat_ref (T:="list") (U:="int") (by decide) ⟨_,e,rfl⟩ (λs'=>typeIs_int s' k t) noFill_list_mul F.fills_int_mul F.slot_int_rmul repeat_list F.slot_int_index.lookup
  (call_meets F.slot_int_rmul (typeIs_int s k t) F.entry_int_rmul (F.args_int_rmul_2 _ _) (int___rmul___int_list k t l its.toArray n)
   ⟨e,rfl,⟨_,e,rfl⟩,call_meets F.slot_list_mul ⟨_,e,rfl⟩ F.entry_list_mul (F.args_list_mul_2 _ _) (AutoListH.list___mul___list_int_3 l its.toArray n k t hfit hcap OX) ⟨e,?_⟩⟩)
 rw[hnew]
 exact⟨.ref _,_,I.GQ (t':=s.toks) (r.rep k.toNat) (by rw[len_rep,Nat.mul_comm];exact hz),rfl,q _ I.fresh⟩
end
section
variable {prog:YB} {w:YE} {A:Yy} {E:YD->YC->Prop} {s:YC}
set_option maxRecDepth 100000 in
end
section
variable {X:Cx}
end
end L2
namespace Att
open PySem PySem.W PySem.Calls PyProof.Rows
theorem n8{P:Params}{h:Heap}:∀(ns:List Int)(vs:List YD),WellAll P h vs (ns.map WData.int)->IntsAre vs ns:=by
 intro ns
 induction ns with
 | nil=>
  intro vs w
  rw[w9] at w
  cases w
  exact .nil
 | cons n ns ih=>
  intro vs w
  rw[aH] at w
  cases w with
  | cons a b=>
   cases a
   exact .cons _ _ (ih _ b)
theorem Au{l:OpenLaw}{n:Nat}(hn:l.most=some n){P:Params}{h:Heap}{args:List WData}{vals:List YD}
  (hpre:l.row.toRowW.claim.pre args=true)(hwl:WellAll P h vals args) :
  ∃a vs ns,vals=[bb a]/\args=[WData.list (ns.map WData.int)]/\h.get? a=some { cls:=.type "list",data:=.seq vs.toArray }/\IntsAre vs ns/\ns.length<=n:=by
 have hsh:WShape.hasAll [] args [.list .int]=true:=(pre_splitW hpre).1
 have hc:l.pre.holds [] { args:=args }=true:=(pre_splitW hpre).2
 obtain⟨d,r,rfl,h1,h2⟩:=hasAllW_cons hsh
 obtain rfl:=hasAllW_nil h2
 obtain⟨xs,rfl,h3⟩:=hasW_list h1
 obtain⟨ns,rfl⟩:=items_int h3
 have hlen:ns.length<=n:=by
  unfold OpenLaw.pre at hc
  have h4:(WTm.not (.lt (.lit (.int (n:Int))) (.len (.arg 0)))).holds [] { args:=[.list (ns.map .int)] }=true:=by
   have h4:=(holds_andW hc).1
   rw[hn] at h4
   exact h4
  have h5:=condW_of h4 (w_not (w_lt w_lit (w_len_list (w_arg rfl))))
  rw[av] at h5
  refine Nat.le_of_not_lt λq=>?_
  have q':(n:Int) < ((ns.length:Nat):Int):=by omega
  first
   | (rw[decide_eq_true q'] at h5;exact absurd h5 (by decide))
   | (simp at h5;omega)
 cases hwl with
 | cons w1 w2=>
  cases w2
  cases w1 with
  | list ho hall=>exact⟨_,_,ns,rfl,rfl,ho,n8 ns _ hall,hlen⟩
theorem Av(l:OpenLaw)(args:List WData):l.row.toRowW.claim.post args (.bool true) args=true :=
 postW_of (r:=l.row.toRowW) (X:=(true == true))
  (show WShape.has [] (.bool true) .bool=true by first | rfl | decide | simp[WShape.has,WShape.arms,WShape.armsAll])
  (show(WTm.eq .res (.lit (.bool true))).value [] { args:=args,res:=some (.bool true),after:=args }=some (.bool (true == true)) from w_eq_bool (w_res rfl) w_lit) rfl
theorem uO{l:OpenLaw}{n:Nat}{q:YB}{loose:List Str}{XP:(Str->Option YD)->Heap->Prop}{YP:YE->Heap->Prop}{d:DefRec}
  (hn:l.most=some n)(hdf:d.params.defaults=[])
  (call:∀(w:YE)(s₀ s₁:YC)(mg mb:Str->Option YD)(fa:Yx)(o:Obj)(pm cd doc:YD)(a:Yx)(vs:List YD)(ns:List Int),
   Ground q loose [] XP w s₀ mg mb s₁.heap->YP w s₁.heap->
   s₁.heap.get? fa=some o->o.data= .func (docDef d.name d.params d.body d.scope pm cd doc)->s₁.heap.CodeRec cd d.name->mg d.name=some (.ref fa)->
   s₁.heap.get? a=some { cls:=.type "list",data:=.seq vs.toArray }->IntsAre vs ns->ns.length<=n->s₁.gens=#[]->
   YI (model l.prog w) callerA (.call (.ref fa) ⟨[.ref a],[]⟩) (λr s'=>r= .ok (.ret (.bool true))/\OldK s₁.heap s'.heap/\s'.os=s₁.os/\AllBare s'.gens) s₁) :
  WalkO q loose XP YP l.row.toRowW d [] (λf vs=>PySem.call f vs):=by
 intro w s₀ s₁ mg mb G Y fa o pm cd doc dV kV ho hd hcd hD hmg hg args vals as hpre hlay hrd hwl hlo
 obtain rfl:dV= .none:=Dflts.none hD hdf
 obtain rfl:kV= .none:=Dflts.noKw hD
 obtain⟨a,vs,ns,rfl,rfl,hobj,hints,hlen⟩:=Au hn hpre hwl
 refine enter_call (codeAny_mono (call w s₀ s₁ mg mb fa o pm cd doc a vs ns G Y ho (fd_plain hd) hcd hmg hobj hints hlen hg) λr s' hq=>?_)
 obtain⟨rfl,h2,h3,h4⟩:=hq
 exact⟨.inl ⟨.bool true,.bool true,[],rfl,λ_=>rfl,.bool true,Av l _,λ_=>⟨List.Pairwise.nil,λ_ hm=>(nomatch hm)⟩⟩,h2,h3,h4⟩
section
variable {prog:YB} {w:YE} {A:Yy} {E:YD->YC->Prop} {s:YC} {K:Frag}
end
end Att
namespace L2
open PySem PySem.Spec PyProof.Rows
theorem rF:∀{vs:List YD}{ns:List Int},IntsAre vs ns->Vals (ns.map V.int) vs
 | _,_,.nil=> .nil
 | _,_,.cons n t h=> .cons ⟨t,rfl⟩ (rF h)
def GU(H:Hp):Prop:=∀b,H b=none\/∃o xs,H b=some (.eS o (.lst xs))
theorem CB{P:YB}{w:YE}{K:PySem.W.Frag}{mg mb:Str->Option YD}{CX:BR}{k:Nat}{fa a:Yx}{fd:Yz}{x:Str}{sp:Sp}{s₁:YC}{vs:List YD}{ns:List Int}
  (KX:K.In s₁.heap)(hns:s₁.heap.Ns YN mg)(hb:s₁.heap.Ns builtinsNs mb)(Wz:∀x:Str,x≠"__name__"->mb x=YH x)(hlim:s₁.heap.NoLimit)(hg:s₁.gens=#[])
  (ha:s₁.heap.get? a=some { cls:=.type "list",data:=.seq vs.toArray })(hi:IntsAre vs ns)(hl:ns.length<=YO)(hr:eT k callerA)
  (F:∀base:Heap,K.In base->base.Ns YN mg->FnOk P w K mg base CX k fa fd [x] sp)(hbind:∀(s:YC)(u:YD),BindsTo s fd ⟨[u],[]⟩ [(x,u)])
  (N1:∀H:Hp,GU H->iF K H a (ns.map V.int)->sp [.ref a] H (λv _=>v= .bl true) λ_ _ _=>False)
  (Su:∀H e s',CX [] H s₁ (λ_ _ _=>False) e s'->False) :
  YI (model P w) callerA (.call (.ref fa) ⟨[.ref a],[]⟩) (λr s'=>r= .ok (.ret (.bool true))/\OldK s₁.heap s'.heap/\s'.os=s₁.os/\AllBare s'.gens) s₁:=by
 have rv:=rF hi
 have Sv:=hi.length
 -- from an abstract heap in which nothing but the script may be tracked
 have core:∀H:Hp,GU H->iF K H a (ns.map V.int)->iY P w H s₁.heap->(∀b,H b≠none->b=a)->(H a≠none->K.lookup a=none)->
   YI (model P w) callerA (.call (.ref fa) ⟨[.ref a],[]⟩) (λr s'=>r= .ok (.ret (.bool true))/\OldK s₁.heap s'.heap/\s'.os=s₁.os/\AllBare s'.gens) s₁:=by
  intro H hO hS hok hA hK
  have yQ:∀{b:Yx}{o:Obj},s₁.heap.get? b=some o->H b=none->(sI s₁.heap H).get? b=some o:=λe n=>B5 e n
  have ON:∀{b:Yx}{o:Obj}{es:Array DictEntry}{ep:Nat},s₁.heap.get? b=some o->o.data= .dict es ep->H b=none:=λ{b o es ep} e d=>by
   cases q:H b with
   | none=>rfl
   | some u=>
    have e':b=a:=hA b (by rw[q];simp)
    subst e'
    rw[ha] at e;cases e
    have d':Data.seq vs.toArray _=Data.dict es ep:=d
    cases d'
  have QZ:∀{b:Yx}{m:Str->Option YD},s₁.heap.Ns b m->(sI s₁.heap H).Ns b m:=λ{b m} ⟨o,es,ep,e,d,r⟩=>⟨o,es,ep,yQ e (ON e d),d,r⟩
  have Vn:K.In (sI s₁.heap H):=λb o e=>yQ (KX b o e) (by
   cases q:H b with
   | none=>rfl
   | some u=>
    have e':b=a:=hA b (by rw[q];simp)
    subst e'
    rw[hK (by rw[q];simp)] at e;cases e)
  have hM:Mod K mg (sI s₁.heap H):=⟨Vn,QZ hns,⟨mb,QZ hb,Wz⟩,let ⟨mc,h1,h2⟩:=hlim;⟨mc,QZ h1,h2⟩⟩
  have e0:n6 P w K mg (sI s₁.heap H) callerA [] s₁ H:=⟨rfl,hM,λb o e=>Gh e,lJ (Af _ _),trivial,λb hb=>absurd (show b∈([]:List Yx) from hb) (by simp),hok,.of_eq hg⟩
  refine codeAny_mono ((F _ Vn (QZ hns)).run callerA [] s₁ H ⟨[.ref a],[]⟩ [.ref a] [.ref a] _ _ hr e0 (hbind s₁ (.ref a)) (.cons rfl .nil) (N1 H hO hS)) λr s' h=>?_
  cases r with
  | error e=>exact(Su H e s' h).elim
  | ok fl=>
   cases fl with
   | next=>exact aa h
   | brk=>exact aa h
   | cont=>exact aa h
   | ret u=>
    obtain⟨v,H',os,bare,un,Sw,r',q⟩:=h
    have q':v= .bl true:=q
    subst q'
    obtain rfl:u=Value.bool true:=r'
    refine⟨rfl,OldK.of_keep λb o e=>?_,os,bare⟩
    cases q:H b with
    | none=>exact un.keep b o e q (by intro z;exact absurd (show b∈([]:List Yx) from z) (by simp)) (by simp)
    | some u=>
     rcases hO b with z | ⟨ob,xs,z⟩
     ·rw[q] at z;cases z
     ·have z2:=un.i8 b ob _ z
      obtain⟨e1,_⟩:=hok b _ z
      obtain⟨e2,_⟩:=Sw b _ z2
      rw[e] at e1;cases e1
      exact e2
 cases hk:K.lookup a with
 | some o=>
  -- the script is one of the Cw own objects
  have e:=KX a o hk
  rw[ha] at e
  cases e
  refine core (λ_=>none) (λ_=> .inl rfl) (.inr ⟨_,vs.toArray,_,hk,rfl,rfl,rfl,by rw[a8,Sv];exact hl,by simpa using rv⟩) (λb u z=>by have z':(none:Option HO)=some u:=z;cases z') (λb z=>absurd rfl z) λz=>absurd rfl z
 | none=>
  refine core (λb=>if b=a then some (.eS { cls:=.type "list",data:=.seq vs.toArray } (.lst (ns.map V.int))) else none) (λb=>?_) (.inl (.inr ⟨{ cls:=.type "list",data:=.seq vs.toArray },if_pos rfl⟩)) (λb u z=>?_) (λb z=>?_) λ_=>hk
  ·by_cases hb:b=a
   ·exact .inr ⟨_,_,if_pos hb⟩
   ·exact .inl (if_neg hb)
  ·by_cases hb:b=a
   ·have z':=(if_pos hb).symm.trans z
    cases z'
    subst hb
    exact⟨ha,by rw[av];exact hl,vs,_,rv,ha⟩
   ·have z':=(if_neg hb).symm.trans z
    cases z'
  ·by_cases hb:b=a
   ·exact hb
   ·exact absurd (if_neg hb) z
abbrev KOf{K:PySem.W.Frag}{h:Heap}(_:K.In h):PySem.W.Frag:=K
theorem walk_of{l:PySem.W.OpenLaw}{n k:Nat}{q:YB}{loose:List Str}{XP:(Str->Option YD)->Heap->Prop}{YP:YE->Heap->Prop}{d:DefRec}{K:Params->PySem.W.Frag}{CX:YE->BR}{sp:YE->Sp}{x:Str}
  (hn:l.most=some n)(hn2:n<=YO)(hdf:d.params.defaults=[])(hr:eT k callerA)
  (hY:∀(w:YE)(h:Heap),YP w h->(K w.params).In h)
  (F:∀(w:YE)(mg:Str->Option YD)(fa:Yx)(h:Heap),(K w.params).In h->h.Ns YN mg->mg d.name=some (.ref fa)->
   ∃fd:Yz,(∀(s:YC)(u:YD),BindsTo s fd ⟨[u],[]⟩ [(x,u)])/\
    ∀base:Heap,(K w.params).In base->base.Ns YN mg->FnOk l.prog w (K w.params) mg base (CX w) k fa fd [x] (sp w))
  (N1:∀(w:YE)(H:Hp)(a:Yx)(ns:List Int),ns.length<=n->GU H->iF (K w.params) H a (ns.map V.int)->sp w [.ref a] H (λv _=>v= .bl true) λ_ _ _=>False)
  (Su:∀(w:YE)(H:Hp)(s:YC)(e:YD)(s':YC),CX w [] H s (λ_ _ _=>False) e s'->False) :
  PySem.W.WalkO q loose XP YP l.row.toRowW d [] (λf vs=>PySem.call f vs):=by
 refine Att.uO hn hdf λw s₀ s₁ mg mb fa o pm cd doc a vs ns G Y ho hd hcd hmg hobj hints hlen hg=>?_
 have KX:=hY w _ Y
 obtain⟨fd,hb,hF⟩:=F w mg fa _ KX G.T.g hmg
 exact CB KX G.T.g G.T.b G.T.builtins G.T.nolimit hg hobj hints (aX hlen hn2) hr hF hb (λH hO hS=>N1 w H a ns hlen hO hS) λH e s'=>Su w H s₁ e s'
end L2
/- X' WA Q1 (shape;Ya,My.* are Vo):
   My.Yb: a structure of the addresses WB your Vp names (classes,N2);My.Txt K t: a structure (Prop) of the equations over K;
   My.LB:{K} {implicit addresses ..} (e1:nsIn K YN "law"=some (some (.ref f))) (e2:K.lookup f=some ⟨oc,od,.func (fnOf "law" "law" params body scope dV kV doc pm an cdv ct),sl⟩) (e3:codeIn K cdv "law"=true) ..:∃t,My.Txt K t
set_option maxRecDepth 100000 in
set_option maxHeartbeats 0 in
theorem PySem.Challenge.cw_LID_holds:PySem.Challenge.rw_LID.Holds:=by
 w_on;o_law;k_head;(case hw=>w_witness2)
 k_fill
 refine L2.walk_of (l:=PySem.Challenge.rw_LID) (n:=63) (k:=40) (x:="script") (CX:=fun w => ..) (sp:=fun _ => My.sp_law) rfl (by decide) rfl ⟨rfl,by decide,by decide⟩ (fun w h Y => PySem.W.kIn_of Y) ?F ?S ?C
 case F=>
  intro w mg fa h KX G hmg
  have T:∃t,My.Txt (L2.KOf KX) t:=by
   dsimp only[L2.KOf] -- K WC stand as «<heap const> w.params» for k_is
   refine' My.LB ?e1 ?e2 ?e3 ..
   (case e1=>PySem.W.k_is) -- in the order: a name -> its address -> its object -> its parts
   (case e2=>PySem.W.k_is)
   ..
  obtain⟨t,T⟩:=T
  have e0:=hmg.symm.trans (PySem.W.mg_of KX G T.law)
  cases e0 -- fa is the Vq own address
  exact⟨_,λs u=> .of_eq rfl,λbase kb nb=>My.LC T kb nb⟩ -- if «.of_eq rfl» comes Yc early: refine' ⟨_,?b,λbase kb nb=>My.LC T kb nb⟩;exact λs u=> .of_eq rfl
 case S=>exact λw H a ns hl hO hS=> ..
 case C=>exact ..
(the tactic k_is has no namespace: write k_is) -/
namespace L2
open PySem PySem.Spec PyProof.Rows
def defArgs(s:Stmt):Arguments:=match s with
 | .FunctionDef _ a _ _ _ _ _ _ _ _=>a
 | _=>{ posonlyargs:=[],args:=[],vararg:=none,kwonlyargs:=[],kw_defaults:=[],kwarg:=none,defaults:=[] }
def defBody(s:Stmt):List Stmt:=match s with
 | .FunctionDef _ _ b _ _ _ _ _ _ _=>b
 | _=>[]
def defScope(s:Stmt):Scope:=match s with
 | .FunctionDef _ _ _ _ _ _ sc _ _ _=>sc
 | _=>{ kind:=.function,names:=[],isGenerator:=false,isCoroutine:=false }
abbrev CX0:BR:=λ_ _ _ _ _ _=>False
abbrev E0:XK:=λ_ _ _=>False
structure LD(K:PySem.W.Frag)(x qual:Str)(st:Stmt)(f:Yx)(fd:Yz):Prop where
 ex:∃(oc:YD)(od:Option Yx)(kV doc pm:YD)(an:Option Yx)(cdv ct:YD)(osl:Array (Option YD)),
  fd=PySem.W.fnOf x qual (defArgs st) (defBody st) (defScope st) .none kV doc pm an cdv ct/\K.lookup f=some ⟨oc,od,.func fd,osl⟩/\PySem.W.codeIn K cdv qual=true
 kp:PySem.W.keepIn K (.ref f)=true
section
variable {P:YB} {w:YE} {K:PySem.W.Frag} {mg:Str->Option YD} {base:Heap}
theorem LD.binds{x qual:Str}{st:Stmt}{f:Yx}{fd:Yz}{ps:List Str}(F:LD K x qual st f fd)
  (h:∀(kV doc pm:YD)(an:Option Yx)(cdv ct:YD)(us:List YD),us.length=ps.length->bindArgs (PySem.W.fnOf x qual (defArgs st) (defBody st) (defScope st) .none kV doc pm an cdv ct) ⟨us,[]⟩=pure (ps.zip us)):Binds K fd ps []:=by
 obtain⟨oc,od,kV,doc,pm,an,cdv,ct,osl,rfl,lk,hcd⟩:=F.ex
 exact .all (h kV doc pm an cdv ct)
theorem LG{x qual:Str}{st:Stmt}{f:Yx}{oc:YD}{od an:Option Yx}{osl:Array (Option YD)}{kV doc pm cdv ct:YD}(l:K.lookup f=some ⟨oc,od,.func (PySem.W.fnOf x qual (defArgs st) (defBody st) (defScope st) .none kV doc pm an cdv ct),osl⟩)
  (c:PySem.W.codeIn K cdv qual=true)(k:PySem.W.keepIn K (.ref f)=true):LD K x qual st f (PySem.W.fnOf x qual (defArgs st) (defBody st) (defScope st) .none kV doc pm an cdv ct):=⟨⟨oc,od,kV,doc,pm,an,cdv,ct,osl,rfl,l,c⟩,k⟩
end
section
variable {X:Cx}
end
section
variable {κ : Type} [DecidableEq κ]
def kz(kvs : List (κ×V))(k : κ) : Option V := (kvs.find? λkv=>decide (kv.1=k)).map (·.2)
def putK(kvs : List (κ×V))(k : κ)(v : V) : List (κ×V) :=
 if(kvs.any λkv=>decide (kv.1=k))=true then kvs.map (λkv=>if kv.1=k then(kv.1, v) else kv) else kvs++[(k, v)]
def pA(kvs : List (κ×V))(k : κ) : List (κ×V) := kvs.filter λkv=>decide (kv.1≠k)
theorem lK{p : κ×V}{r : List (κ×V)}{k : κ}(e : p.1=k) : kz (p::r) k=some p.2 := by simp[kz, mU, e]
theorem lL{p : κ×V}{r : List (κ×V)}{k : κ}(e : ¬p.1=k) : kz (p::r) k=kz r k := by simp[kz, mU, e]
theorem uP(k : κ) : ∀kvs : List (κ×V), (kvs.any λkv=>decide (kv.1=k))=(kz kvs k).isSome
 | []=>rfl
 | p::r=>by
  rw[fM]
  by_cases e : p.1=k
  ·simp only[lK e, decide_eq_true e, Bool.true_or, GV]
  ·rw[lL e, decide_eq_false e, Bool.false_or];exact uP k r
theorem jg(kvs : List (κ×V))(k : κ)(v : V) : (putK kvs k v).length<=kvs.length+1 := by
 unfold putK
 split
 ·rw[av];omega
 ·rw[eh, kO, kP];omega
theorem nZ.Aw{o : Option V}{u : Option YD}(r : nZ o u) : o.isSome=u.isSome := by
 cases o with
 | none=>cases u with
  | none=>rfl
  | some _=>exact(show False from r).elim
 | some _=>cases u with
  | none=>exact(show False from r).elim
  | some _=>rfl
theorem KV.val{kvs : List (κ×V)}{vs : List (κ×YD)}(r : KV kvs vs)(k : κ) : nZ (kz kvs k) (valueAt vs k) := by
 unfold KV at r
 induction r with
 | nil=>exact lM
 | @cons p q ps qs h t ih=>
  obtain⟨h1, h2⟩ := h
  by_cases e : p.1=k
  ·have e' : q.1=k := h1.symm.trans e
   have b : valueAt (q::qs) k=some q.2 := by simp[valueAt, mU, e']
   rw[lK e, b];exact h2
  ·have e' : ¬q.1=k := λz=>e (h1.trans z)
   have b : valueAt (q::qs) k=valueAt qs k := by simp[valueAt, mU, e']
   rw[lL e, b];exact ih
theorem KV.any{kvs : List (κ×V)}{vs : List (κ×YD)}(r : KV kvs vs)(k : κ) : (kvs.any λkv=>decide (kv.1=k))=vs.any λkv=>decide (kv.1=k) := by
 unfold KV at r
 induction r with
 | nil=>rfl
 | cons h t ih=>rw[fM, fM, ih, h.1]
theorem KV.repl{kvs : List (κ×V)}{vs : List (κ×YD)}(r : KV kvs vs)(k : κ){y : V}{u : YD}(ry : RelV y u) :
  KV (kvs.map λkv=>if kv.1=k then(kv.1, y) else kv) (vs.map λkv=>if kv.1=k then(kv.1, u) else kv) := by
 unfold KV at r ⊢
 induction r with
 | nil=>exact .nil
 | @cons p q ps qs h t ih=>
  rw[aH, aH]
  refine .cons ?_ ih
  obtain⟨h1, h2⟩ := h
  by_cases e : p.1=k
  ·rw[if_pos e, if_pos (h1.symm.trans e)];exact⟨h1, ry⟩
  ·rw[if_neg e, if_neg (λz=>e (h1.trans z))];exact⟨h1, h2⟩
theorem KV.put{kvs : List (κ×V)}{vs : List (κ×YD)}(r : KV kvs vs)(k : κ){y : V}{u : YD}(ry : RelV y u) : KV (putK kvs k y) (stored vs k u) := by
 unfold putK stored
 rw[r.any k]
 by_cases e : (vs.any λkv=>decide (kv.1=k))=true
 ·rw[if_pos e, if_pos e];exact r.repl k ry
 ·rw[if_neg e, if_neg e];exact Paired.snoc r ⟨rfl, ry⟩
theorem KV.keys{kvs : List (κ×V)}{vs : List (κ×YD)}(r : KV kvs vs) : kvs.map (·.1)=vs.map (·.1) := by
 unfold KV at r
 induction r with
 | nil=>rfl
 | cons h t ih=>rw[aH, aH, ih, h.1]
theorem KV.length{kvs : List (κ×V)}{vs : List (κ×YD)}(r : KV kvs vs) : kvs.length=vs.length := Paired.length r
end
theorem yR{P : YB}{w : YE}{k : Key}{u : YD}(r : RelV (kV k) u) : (bQ P w).is k u=true := by
 cases k with
 | inl i=>obtain⟨t, e⟩ := (show ∃t, u=gP i t from r);subst e;exact uG P w i t
 | inr x=>obtain⟨t, e⟩ := (show ∃t, u=jO x t from r);subst e;exact uH P w x t
 | ay=>rw[show u=bo from r];rfl
theorem rG{P : YB}{w : YE} : ∀{ks : List Key}{us : List YD}, Vals (ks.map kV) us->ItemsAre (bQ P w) ks us
 | [], _, r=>by rw[w9] at r;cases r;exact .nil
 | k::ks, _, r=>by
  rw[aH] at r
  cases r with
  | cons h t=>exact .cons (yR h) (rG t)
abbrev KT(H : Hp) : List (List Key×V)->List (List Key×Yx×YD)->Prop := Paired λp q=>p.1=q.1/\H q.2.1=some (.tup (p.1.map kV))/\RelV p.2 q.2.2
theorem KT.val{H : Hp}{kvs : List (List Key×V)}{xs : List (List Key×Yx×YD)}(r : KT H kvs xs)(k : List Key) : nZ (kz kvs k) ((atKey xs k).map (·.2)) := by
 induction r with
 | nil=>exact lM
 | @cons p q ps qs h t ih=>
  obtain⟨h1, _, h2⟩ := h
  by_cases e : p.1=k
  ·have e' : q.1=k := h1.symm.trans e
   have b : atKey (q::qs) k=some q.2 := by simp[atKey, mU, e']
   rw[lK e, b];exact h2
  ·have e' : ¬q.1=k := λz=>e (h1.trans z)
   have b : atKey (q::qs) k=atKey qs k := by simp[atKey, mU, e']
   rw[lL e, b];exact ih
theorem KT.repl{H : Hp}{kvs : List (List Key×V)}{xs : List (List Key×Yx×YD)}(r : KT H kvs xs)(k : List Key){y : V}{u : YD}(ry : RelV y u) :
  KT H (kvs.map λkv=>if kv.1=k then(kv.1, y) else kv) (xs.map (putAt k u)) := by
 induction r with
 | nil=>exact .nil
 | @cons p q ps qs h t ih=>
  rw[aH, aH]
  refine .cons ?_ ih
  obtain⟨h1, h2, h3⟩ := h
  unfold putAt
  by_cases e : p.1=k
  ·rw[if_pos e, if_pos (h1.symm.trans e)];exact⟨h1, h2, ry⟩
  ·rw[if_neg e, if_neg (λz=>e (h1.trans z))];exact⟨h1, h2, h3⟩
theorem KT.put{H : Hp}{kvs : List (List Key×V)}{xs : List (List Key×Yx×YD)}(r : KT H kvs xs)(k : List Key){b : Yx}{y : V}{u : YD}(hb : H b=some (.tup (k.map kV)))(ry : RelV y u) :
  KT H (putK kvs k y) (storedH xs k b u) := by
 have e : (kvs.any λkv=>decide (kv.1=k))=(atKey xs k).isSome := by
  rw[uP, (r.val k).Aw, Option.isSome_map]
 unfold putK storedH
 rw[e]
 by_cases q : (atKey xs k).isSome=true
 ·rw[if_pos q, if_pos q];exact r.repl k ry
 ·rw[if_neg q, if_neg q];exact Paired.snoc r ⟨rfl, hb, ry⟩
theorem KT.keeps{H H' : Hp}{kvs : List (List Key×V)}{xs : List (List Key×Yx×YD)}(r : KT H kvs xs)(ht : ∀b ys, H b=some (.tup ys)->H' b=some (.tup ys)) : KT H' kvs xs :=
 Paired.Gg r λ_ _ z=>⟨z.1, ht _ _ z.2.1, z.2.2⟩
section
variable {P : YB} {w : YE} {H : Hp} {h : Heap} {a : Yx}
theorem JF{u : HO}(ok : iY P w H h)(e : Rd H a u) : cK P w H h a u := e.ok ok
theorem uQ{kvs : List (Key×V)}(ok : iY P w H h)(e : Rd H a (.dK kvs)) : kvs.length<=YO/\(a == sysModules)=false/\∃vs, KV kvs vs/\h.DictOf (bQ P w) a vs :=
 show cK P w H h a (.dK kvs) from JF ok e
theorem JG{kvs : List (Key×V)}(ok : iY P w H h)(e : H a=some (.dK kvs)) : kvs.length<=YO/\(a == sysModules)=false/\∃vs, KV kvs vs/\h.DictOf (bQ P w) a vs := uQ ok (.inl e)
theorem xc{ks : List Key}(ok : iY P w H h)(e : H a=some (.tup (ks.map kV))) : (tupleKind (bQ P w)).is h ks a := by
 obtain⟨_, its, r, ⟨o, h1, h2, n, h3⟩, _⟩ := (show cK P w H h a (.tup (ks.map kV)) from ok a _ e)
 exact⟨o, its.toArray, n, h1, h2, h3, by simpa using rG r⟩
theorem yS{kvs : List (List Key×V)}(ok : iY P w H h)(e : Rd H a (.dT kvs)) : kvs.length<=YO/\(a == sysModules)=false/\
  ∃xs, KT H kvs xs/\h.DictOfH (tupleKind (bQ P w)) a xs := by
 obtain⟨z, y, xs, r, o, es, ep, h1, h2, h3, h4, h5⟩ := (show cK P w H h a (.dT kvs) from JF ok e)
 refine⟨z, y, xs, r, o, es, ep, h1, h2, h3, h4, λx hx=>?_, h5⟩
 have all : ∀{l : List (List Key×V)}{m : List (List Key×Yx×YD)}, KT H l m->∀x∈m, (tupleKind (bQ P w)).is h x.1 x.2.1 := by
  intro l m q
  induction q with
  | nil=>intro x hx;exact nomatch hx
  | @cons p q ps qs hq t ih=>
   intro x hx
   rcases List.mem_cons.mp hx with e | hx
   ·subst e
    exact xc ok (by rw[<-hq.1];exact hq.2.1)
   ·exact ih x hx
 exact all r x hx
theorem OY{kvs : List (List Key×V)}(ok : iY P w H h)(e : H a=some (.dT kvs)) : kvs.length<=YO/\(a == sysModules)=false/\
  ∃xs, KT H kvs xs/\h.DictOfH (tupleKind (bQ P w)) a xs := yS ok (.inl e)
end
def qV(H : Hp)(a : Yx)(y : V)(r : Option V) : Prop :=
 (∃kvs k, Rd H a (.dK kvs)/\y=kV k/\r=kz kvs k)\/∃kvs k b, Rd H a (.dT kvs)/\y= .ref b/\H b=some (.tup (k.map kV))/\r=kz kvs k
def s_(H : Hp)(a : Yx)(y v : V)(H' : Hp) : Prop :=
 (∃kvs k, H a=some (.dK kvs)/\y=kV k/\kvs.length < YO/\H'=upd H a (.dK (putK kvs k v)))\/
 ∃kvs k b, H a=some (.dT kvs)/\y= .ref b/\H b=some (.tup (k.map kV))/\kvs.length < YO/\H'=upd H a (.dT (putK kvs k v))
theorem qV.k{H : Hp}{a : Yx}{kvs : List (Key×V)}{k : Key}(e : H a=some (.dK kvs)) : qV H a (kV k) (kz kvs k) := .inl ⟨kvs, k, .inl e, rfl, rfl⟩
theorem qV.t{H : Hp}{a b : Yx}{kvs : List (List Key×V)}{k : List Key}(e : H a=some (.dT kvs))(eb : H b=some (.tup (k.map kV))) : qV H a (.ref b) (kz kvs k) := .inr ⟨kvs, k, b, .inl e, rfl, eb, rfl⟩
theorem s_.k{H : Hp}{a : Yx}{kvs : List (Key×V)}{k : Key}{v : V}(e : H a=some (.dK kvs))(hl : kvs.length < YO) : s_ H a (kV k) v (upd H a (.dK (putK kvs k v))) := .inl ⟨kvs, k, e, rfl, hl, rfl⟩
theorem s_.t{H : Hp}{a b : Yx}{kvs : List (List Key×V)}{k : List Key}{v : V}(e : H a=some (.dT kvs))(eb : H b=some (.tup (k.map kV)))(hl : kvs.length < YO) :
  s_ H a (.ref b) v (upd H a (.dT (putK kvs k v))) := .inr ⟨kvs, k, b, e, rfl, eb, hl, rfl⟩
section
variable {X : Cx} {pins : List (Yx×Obj)} {σ : St} {H : Hp} {s : YC} {a : Yx} {y v : V} {u r : YD} {o : Option V} {A : Yy} {E : YD->YC->Prop}
theorem Inv.big(I : Inv X pins σ H s) : sysModules < s.heap.objs.size := by
 have h : YN < s.heap.objs.size := (I.mod.glob.keeps I.bk).lt
 exact Nat.lt_trans (by decide) h
theorem Ax{Q : YD->YC->Prop}(hu : A.units+1 < cLine)(I : Inv X pins σ H s)(g : qV H a y (some v))(ry : RelV y u)(h : ∀w' s', Inv X pins σ H s'->RelV v w'->Q w' s') :
  YR (model X.prog X.w) A (getItem (.ref a) u) Q E s := by
 rcases g with ⟨kvs, k, e, ey, l⟩ | ⟨kvs, k, b, e, ey, eb, l⟩
 ·subst ey
  obtain⟨z, hd, vs, rel, dd⟩ := uQ I.hok e
  obtain⟨w', hw, rw'⟩ := nZ.some_of (v := v) (o := valueAt vs k) (by rw[l];exact rel.val k)
  exact wpAny_getItem_of (yR ry) dd.mapOf hw (h w' _ (I.tok _) rw')
 ·subst ey
  cases (show u=bb b from ry)
  obtain⟨z, hd, xs, rel, dd⟩ := yS I.hok e
  obtain⟨w', hw, rw'⟩ := nZ.some_of (v := v) (o := (atKey xs k).map (·.2)) (by rw[l];exact rel.val k)
  obtain⟨p, hp, hp2⟩ := Option.map_eq_some_iff.mp hw
  refine wpAny_getItem_heap (tupleKind_room_in1 hu) (xc I.hok eb) dd hp ?_
  rw[hp2]
  exact h w' _ (I.tok _) rw'
theorem ow{h' : Heap}{t' : Nat}{ob : HO}(I : Inv X pins σ H s)(mu : Oh (H a))(hs : wQ a s.heap h')(he : ∃q, h'.get? a=some q)(new : cK X.prog X.w (upd H a ob) h' a ob) :
  Inv X pins σ (upd H a ob) { s with heap := h', toks := t' } :=
 I.write (x := a) (e := a) mu (.inl rfl) (λb q hb z=>(hs.2 b hb).trans z) he new
theorem CC{P : YB}{w : YE}{H' : Hp}{h' : Heap}{kvs : List (Key×V)}{vs : List (Key×YD)}(z : kvs.length<=YO)(hd : (a == sysModules)=false)(rel : KV kvs vs)(dd : h'.DictOf (bQ P w) a vs) :
  cK P w H' h' a (.dK kvs) :=⟨z, hd, vs, rel, dd⟩
theorem Ay{H' : Hp}{Q : Unit->YC->Prop}(hu : A.units+1 < cLine)(I : Inv X pins σ H s)(g : s_ H a y v H')(ry : RelV y u)(rv : RelV v r)(h : ∀s', Inv X pins σ H' s'->Q () s') :
  YR (model X.prog X.w) A (setItem (.ref a) u r) Q E s := by
 rcases g with ⟨kvs, k, e, ey, l, eH⟩ | ⟨kvs, k, b, e, ey, eb, l, eH⟩
 ·subst ey eH
  obtain⟨z, hd, vs, rel, dd⟩ := JG I.hok e
  have hz : vs.length<=YO := by rw[<-rel.length];exact z
  have hl : (putK kvs k v).length<=YO := by have := jg kvs k v;omega
  refine wpAny_setItem_pairs (hsz := hz) (yR ry) dd λh' GW hs=>h _ ?_
  have he : ∃q, h'.get? a=some q := let ⟨q, _, _, hq, _⟩ := GW;⟨q, hq⟩
  exact ow I (by rw[e];exact lM) hs he (CC hl hd (rel.put k rv) GW)
 ·subst ey eH
  cases (show u=bb b from ry)
  obtain⟨z, hd, xs, rel, dd⟩ := OY I.hok e
  have hz : xs.length<=YO := by rw[<-Paired.length rel];exact z
  have hl : (putK kvs k v).length<=YO := by have := jg kvs k v;omega
  refine wpAny_setItem_heap (hsz := hz) (tupleKind_room_in1 hu) (xc I.hok eb) dd λh' GW hs=>h _ ?_
  obtain⟨q, es, ep, hq, h2, h3, h4, _, h5⟩ := GW
  refine ow I (by rw[e];exact lM) hs ⟨q, hq⟩ ⟨hl, hd, _, (rel.put k eb rv).keeps λc ys ec=>?_, q, es, ep, hq, h2, h3, h4, h5⟩
  rw[ar (Og ec e (λz=>nomatch z))]
  exact ec
end
section
variable {X : Cx} {pins : List (Yx×Obj)} {σ : St} {H : Hp} {s : YC} {a : Yx} {kvs : List (Key×V)} {k : Key} {u : YD} {A : Yy} {E : YD->YC->Prop}
end
def CD(i : Expr) : Prop := ∀ov iv, subscripted i false ov iv=operate [ov, iv] (getItem ov iv)
theorem yT{prog : YB}{w : YE}{A : Yy}{E : YD->YC->Prop}{s : YC}{env : Env}{value slice : Expr}{pos : Pos}{T id : String}{Q : YD->YC->Prop}
  (hl : typeLookup (.type T) "__getitem__"=pure (some (.builtin id)))(hs : CD slice)
  (h : YR (model prog w) A (eval value env) (λo s₁=>YR (model prog w) A (eval slice env) (λi s₂=>s₂.TypeIs o T/\YR (model prog w) A (getItem o i) Q E s₂) E s₁) E s) :
  YR (model prog w) A (eval (.Subscript value slice pos) env) Q E s := by
 refine Subscript_ (YV h (λo s₁ h₁=>YV h₁ (λi s₂ h₂=>?_) λ_ _ x=>x) λ_ _ x=>x)
 obtain⟨hT, h₂⟩ := h₂
 unfold subscriptTail
 refine YS ?_
 rw[getitemInPython_of_ne hT.not_modules]
 refine YS (wpAny_specialOf hT hl ?_)
 have fin : YR (model prog w) A (subscripted slice false o i) (λr s₃=>YR (model prog w) A (letTemporaryGo value o r >>= λ_=>pure r) Q E s₃) E s₂ := by
  rw[hs o i]
  exact wpAny_operating (YV h₂ (λr s₃ h₃=>YS (wpAny_letTemporaryGo (YY h₃))) λ_ _ x=>x)
 first
  | exact YY (YS fin)
  | exact YS (YY (YS fin))
  | exact YS fin
theorem uR{X : Cx}{pins : List (Yx×Obj)}{σ : St}{H : Hp}{s : YC}{a : Yx}{y : V}{o : Option V}(I : Inv X pins σ H s)(g : qV H a y o) : s.TypeIs (.ref a) "dict" := by
 rcases g with ⟨kvs, k, e, _, _⟩ | ⟨kvs, k, b, e, _, _, _⟩
 ·obtain⟨_, _, vs, _, dd⟩ := uQ I.hok e
  exact dd.typeIs
 ·obtain⟨_, _, xs, _, dd⟩ := yS I.hok e
  exact dd.typeIs
def OZ(td ty : TE) : TE := λσ H Q=>td σ H λx H1=>ty σ H1 λy H2=>∃a v, x= .ref a/\qV H2 a y (some v)/\Q v H2
def O0(td ty tv : TE) : TS := λD σ H=>tv σ H λv H1=>td σ H1 λx H2=>ty σ H2 λy H3=>∃a H4, x= .ref a/\s_ H3 a y v H4/\D.nx σ H4
section
variable {X : Cx} {o i e value : Expr} {pos pos' tpos : Pos} {td ty tv : TE}
theorem GX(hu : X.A.units+1 < cLine)(ho : PE X o td)(hi : PE X i ty)(hs : CD i) : PE X (.Subscript o i pos) (OZ td ty) := by
 intro pins s σ H Q I h
 refine yT PySem.F.slot_dict_getitem.lookup hs (bg (ho pins s σ H _ I h) λu s1 ⟨x, H1, I1, rx, q1⟩=>bg (hi pins s1 σ H1 _ I1 q1) λiv s2 ⟨y, H2, I2, ry, a, v, ex, g, q2⟩=>?_)
 subst ex
 obtain rfl : u=bb a := rx
 exact⟨uR I2 g, Ax hu I2 g ry λw' s3 I3 rw'=>⟨v, H2, I3, rw', q2⟩⟩
theorem GY(hu : X.A.units+1 < cLine)(ho : PE X o td)(hi : PE X i ty)(hv : PE X value tv)(hs : swapsWith value (some (.Subscript o i pos')) pos.line X.env=pure false) :
  PS X (.Assign [.Subscript o i pos'] value pos) (O0 td ty tv) := by
 intro pins s σ H D I h
 refine wpAny_Assign_Subscript (bg (hv pins s σ H _ I h) λr s1 ⟨v, H1, I1, rv, q1⟩=>bg (ho pins s1 σ H1 _ I1 q1) λu s2 ⟨x, H2, I2, rx, q2⟩=>bg (hi pins s2 σ H2 _ I2 q2) λiv s3 ⟨y, H3, I3, ry, a, H4, ex, g, q3⟩=>?_) hs
 subst ex
 obtain rfl : u=bb a := rx
 exact Ay hu I3 g ry rv λs4 I4=>⟨σ, H4, I4, q3⟩
end
theorem CF{P : YB}{w : YE}{H : Hp}(h : Heap)(hb : sysModules < h.objs.size) : cK P w H (h.push { cls := .type "dict", data := .dict #[] }) h.objs.size (.dK []) :=
 ⟨bZ _, beq_eq_false_iff_ne.mpr (bt (bR hb)), [], .nil, Heap.DictOf.new h⟩
theorem CG{P : YB}{w : YE}{H : Hp}(h : Heap)(hb : sysModules < h.objs.size) : cK P w H (h.push { cls := .type "dict", data := .dict #[] }) h.objs.size (.dT []) :=
 ⟨bZ _, beq_eq_false_iff_ne.mpr (bt (bR hb)), [], .nil, _, #[], 0, cz _ rfl, ⟨rfl, rfl, rfl⟩, rfl, rfl, List.nodup_nil⟩
def LH : TE := λ_ H Q=>∀p, H p=none->Q (.ref p) (upd H p (.dK []))
def LI : TE := λ_ H Q=>∀p, H p=none->Q (.ref p) (upd H p (.dT []))
section
variable {X : Cx} {pos : Pos}
theorem CH : PE X (.Dict [] [] pos) LH := λpins s σ H Q I h=>
 wpAny_Dict_empty ⟨.ref s.heap.objs.size, _, I.laid (a := s.heap.objs.size) (o := .dK []) (t' := s.toks) (λ_ _ q=>aR _ q) (ak _) (CF s.heap I.big), rfl, h _ (I.hok.fresh (ak _))⟩
theorem CI : PE X (.Dict [] [] pos) LI := λpins s σ H Q I h=>
 wpAny_Dict_empty ⟨.ref s.heap.objs.size, _, I.laid (a := s.heap.objs.size) (o := .dT []) (t' := s.toks) (λ_ _ q=>aR _ q) (ak _) (CG s.heap I.big), rfl, h _ (I.hok.fresh (ak _))⟩
end
structure M2(X : Cx)(o : Expr)(m : Str)(apos : Pos)(e f : Expr)(cpos : Pos) : Prop where
 base : attributeBase o m X.env (eval o X.env)=eval o X.env
 few : ((backTo cpos (YQ [e, f] X.env)).all (λx=> !x.1)&&(backToKw cpos (keywordEach [] X.env)).all (λx=>x.1.isSome)
  &&decide (([e, f] : List Expr).length+([] : List Keyword).length+(if([] : List Keyword).isEmpty then 0 else 1) < 30))=true
 line : (apos.endLine == cpos.line)=true
 trees : backTo cpos (YQ [e, f] X.env)=[(false, eval e X.env), (false, eval f X.env)]
def Sx(H : Hp)(a : Yx) : Prop := (∃kvs, Rd H a (.dK kvs))\/∃kvs, Rd H a (.dT kvs)
theorem CJ{X : Cx}{pins : List (Yx×Obj)}{σ : St}{H : Hp}{s : YC}{a : Yx}(I : Inv X pins σ H s)(d : Sx H a) :
  s.TypeIs (.ref a) "dict"/\(∀b, bb a= .ref b->∃ob, s.heap.get? b=some ob/\ob.dict=none)/\(a == sysModules)=false := by
 rcases d with ⟨kvs, e⟩ | ⟨kvs, e⟩
 ·obtain⟨_, hd, vs, _, dd⟩ := uQ I.hok e
  refine⟨dd.typeIs, λb q=>?_, hd⟩
  cases q
  obtain⟨ob, _, _, h1, h2, _⟩ := dd
  exact⟨ob, h1, h2.2.1⟩
 ·obtain⟨_, hd, xs, _, dd⟩ := yS I.hok e
  refine⟨dd.typeIs, λb q=>?_, hd⟩
  cases q
  obtain⟨ob, _, _, h1, h2, _⟩ := dd
  exact⟨ob, h1, h2.2.1⟩
section
variable {X : Cx} {pins : List (Yx×Obj)} {σ : St} {H : Hp} {s : YC} {a : Yx} {y d : V} {u r : YD} {o : Option V} {A : Yy} {E : YD->YC->Prop}
end
section
variable {X : Cx} {o e f : Expr} {apos cpos : Pos} {td ty tx : TE}
end
section
variable {X : Cx} {pins : List (Yx×Obj)} {σ : St} {H : Hp} {s : YC} {a : Yx} {kvs : List (Key×V)} {A : Yy} {E : YD->YC->Prop}
end
section
variable {X : Cx} {pins : List (Yx×Obj)} {σ : St} {H : Hp} {s : YC} {a : Yx} {y : V} {u : YD} {A : Yy} {E : YD->YC->Prop}
end
end L2
namespace Att
open PySem PySem.W PySem.Calls PyProof.Rows
end Att
namespace L2
open PySem PySem.Spec PyProof.Rows
section
variable {X : Cx}
end
section
variable {κ : Type} [DecidableEq κ]
theorem Az{p : κ×V}{r : List (κ×V)}{k : κ}(e : p.1=k) : pA (p::r) k=pA r k := by
 unfold pA
 rw[xf, if_neg (by simp[e])]
theorem AA{p : κ×V}{r : List (κ×V)}{k : κ}(e : ¬p.1=k) : pA (p::r) k=p::pA r k := by
 unfold pA
 rw[xf, if_pos (by simp[e])]
end
end L2
set_option maxHeartbeats 4000000
namespace J
open PySem PySem.Spec PyProof.Rows L2
def Q4(h base:Heap)(e:Yx)(cls a0 fl:YD):Prop :=
 ∃ox us T ot ws,h.get? e=some ox/\(ox.cls=cls/\us[2]? =some bo)/\ox.data= .fields us/\us[1]? =some (.ref T)/\base.get? T=none/\T≠e/\h.get? T=some ot/\ot.data= .fields ws/\ws[3]? =some fl
abbrev GZ(base:Heap)(l:List Env)(e:Yx)(cls a0 fl:YD)(h:Heap):Prop:=base.StaysIn h/\base.get? e=none/\h.FunFrames base l/\Q4 h base e cls a0 fl
def CK(base:Heap)(l:List Env)(e:Yx)(cls a0:YD)(L:Yx)(h:Heap):Prop:=GZ base l e cls a0 (rawInt L) h
def tm(base:Heap)(l:List Env)(e:Yx)(cls a0:YD)(h:Heap):Prop:=GZ base l e cls a0 .none h
theorem tm.first{base h:Heap}{l:List Env}{e:Yx}{cls a0:YD}(x:tm base l e cls a0 h):∃ox us,h.get? e=some ox/\ox.cls=cls/\ox.data= .fields us/\us[2]? =some bo :=
 let ⟨_,_,_,ox,us,_,_,_,g1,g2,g3,_⟩:=x;⟨ox,us,g1,g2.1,g3,g2.2⟩
section
variable {M:Model} {A:Yy} {E:YD->YC->Prop} {s:YC} {base:Heap} {env:Env} {outer l:List Env} {L e:Yx} {cls a0 nt:YD} {Q:Unit->YC->Prop}
theorem xg{h h1:Heap}{S:List Yx}{ox ob:Obj}{us ws:Array YD}(so:Heap.SlotsOnly S h h1)(hS:S=l.filterMap (·.frame))(fs:h.FunFrames base l)(g1:h.get? e=some ox)(g3:ox.data= .fields us)(st:base.StaysIn h)(ne:base.get? e=none)(sz:1 < us.size)(g2:us[2]? =some bo)
  (d:ob.data= .fields ws)(w3:ws[3]? =some nt)(nf:ob.isFreed=false) :
  GZ base l e ox.cls a0 nt ((h1.push ob).update e (lN (·.setIfInBounds 1 (.ref h1.objs.size))))/\h.UpToSlots ((h1.push ob).update e (lN (·.setIfInBounds 1 (.ref h1.objs.size)))):=by
 have nS:e∉S:=λz=>by
  rw[hS] at z
  obtain⟨_,o2,q2,d2⟩:=fs.mem z
  rw[g1] at q2
  cases q2
  exact d2 us g3
 have q1:h1.get? e=some ox:=(so.2.1 e nS).trans g1
 have lt:e≠h1.objs.size:=bR (aL q1)
 have Vr:∀b o,b≠e->h1.get? b=some o->((h1.push ob).update e (lN (·.setIfInBounds 1 (.ref h1.objs.size)))).get? b=some o:=λb o n q=>(ph _ _ (bt n)).trans (aR _ q)
 have up:h.UpToSlots ((h1.push ob).update e (lN (·.setIfInBounds 1 (.ref h1.objs.size)))):=λb o q n=>by
  obtain⟨sl,q2⟩:=so.2.2 b o q
  exact⟨sl,Vr b _ (λz=>by rw[z,g1] at q;cases q;exact n us g3) q2⟩
 have stay:base.StaysIn h1:=λb o q=>(so.2.1 b λz=>by
  rw[hS] at z
  rw[(fs.mem z).1] at q
  cases q).trans (st b o q)
 have fresh:base.get? h1.objs.size=none:=by
  cases z:base.get? h1.objs.size with
  | none=>rfl
  | some o=>exact absurd (aL (stay _ _ z)) (fq _)
 have d1:=yU g3 (·.setIfInBounds 1 (bb h1.objs.size))
 refine⟨⟨λb o q=>Vr b o (λz=>by rw[z,ne] at q;cases q) (stay b o q),ne,fs.of_keeps λb o q n=>?_,_,_,h1.objs.size,ob,ws,Cv _ (aR _ q1) (G0 d1),⟨Obj.cls_mapFields _ _,?_⟩,d1,by simp[sz],fresh,bt lt,?_,d,w3⟩,up⟩
 ·obtain⟨sl,q2⟩:=up b o q n
  exact⟨_,q2,rfl⟩
 ·rw[Array.getElem?_setIfInBounds_ne (by decide)];exact g2
 ·exact(ph _ _ lt).trans (cz _ nf)
theorem CL{ox:Obj}{us:Array YD}{head:YD}{had:Bool}(hfr:A.frames=some (env::outer))(fs:s.heap.FunFrames base (env::outer))(hf:env.frame=some L)(g1:s.heap.get? e=some ox)(st:base.StaysIn s.heap)(ne:base.get? e=none)(g3:ox.data= .fields us)(sz:1 < us.size)(g2:us[2]? =some bo)
  (k:∀h',CK base (env::outer) e ox.cls a0 L h'->s.heap.UpToSlots h'->Q () { s with heap:=h' }) :
  YR M A (do let a <-frameOf env;let pl <-entryPlaceOf L had;let b <-LJ head a .none (rawInt L) .none pl;setField (.ref e) 1 b) Q E s:=by
 refine YS (wpAny_frameOf_fun hfr fs hf λh1 so=>YS (wpAny_entryPlaceOf λpl pp=>?_))
 have nS:e∉(env::outer).filterMap (·.frame):=λz=>by
  obtain⟨_,o2,q2,d2⟩:=fs.mem z
  rw[g1] at q2
  cases q2
  exact d2 us g3
 have q1:h1.get? e=some ox:=(so.2.1 e nS).trans g1
 simp only[LJ,newFields]
 refine YS (YX (wpAny_setField (aR _ q1) g3 sz ?_) (pp.sizeOk5 _ _ _ _ _))
 obtain⟨m,up⟩:=xg (a0:=a0) (nt:=rawInt L) so rfl fs g1 g3 st ne sz g2 (ob:={ cls:=.type "traceback",dict:=none,data:=.fields ([head,.ref L,.none,rawInt L,.none]++(if pl.isEmpty then aD 6 bo else pl)).toArray }) rfl (by first | (simp;done) | (rcases pp with rfl | ⟨_,_,_,_,_,_,_,rfl⟩<;>simp)) rfl
 exact k _ m up
theorem LK(hf:env.frame=some L)(x:Q4 s.heap base e cls a0 (rawInt L))(k:Q () s):YR M A (noteFrame (.ref e) env) Q E s:=by
 obtain⟨ox,us,T,ot,ws,g1,g2,g3,g4,g5,g6,g7,g8,g9⟩:=x
 unfold noteFrame
 simp only[hf]
 refine YS (wpAny_field g1 g3 g4 ?_)
 rw[if_pos (by simp)]
 refine YS (wpAny_field g7 g8 g9 ?_)
 rw[if_pos (by simp)]
 exact YY k
theorem uS(x:GZ base l e cls a0 nt s.heap)(k:∀h',tm base l e cls a0 h'->s.heap.UpToSlots h'->Q () { s with heap:=h' }):YR M A (setFlight (.ref e) none) Q E s:=by
 obtain⟨x1,x2,x3,ox,us,T,ot,ws,g1,g2,g3,g4,g5,g6,g7,g8,g9⟩:=x
 have sz:3 < ws.size:=(Array.getElem?_eq_some_iff.mp g9).1
 unfold setFlight
 refine YS (wpAny_field g1 g3 g4 ?_)
 rw[if_pos (by simp)]
 refine wpAny_setField g7 g8 sz ?_
 generalize hu:s.heap.update T _=h'
 have ap:∀b,b≠T->h'.get? b=s.heap.get? b:=λb n=>by rw[<-hu];exact ph _ _ (bt n)
 have pl:∀b o,s.heap.get? b=some o->(∀vs,o.data≠.fields vs)->h'.get? b=some o:=λb o q n=>(ap b λz=>by rw[z,g7] at q;cases q;exact n ws g8).trans q
 refine k h' ⟨λb o q=>(ap b λz=>by rw[z,g5] at q;cases q).trans (x1 b o q),x2,x3.of_keeps λb o q n=>⟨o,pl b o q n,rfl⟩,ox,us,T,lN (·.setIfInBounds 3 .none) ot,ws.setIfInBounds 3 .none,(ap e (bt g6)).trans g1,g2,g3,g4,g5,g6,?_,yU g8 _,?_⟩ λb o q n=>⟨o.slots,pl b o q n⟩
 ·rw[<-hu];exact Cv _ g7 (G0 (yU g8 _))
 ·simp[sz]
end
structure Lm where
 a:Yx
 c:Yx
 q:PySem.Str
 xs:List V
inductive Wv where
 | ay
 | bl (b:Bool)
 | int (i:Int)
 | str (x:PySem.Str)
 | tup (ws:List Wv)
 | pB (ws:List Wv)
 | ref (l:Nat)
 | ty (n:String)
 | cls (c:PySem.Str)
 | lO (c:PySem.Str)
 | fn (p:Lm) (ws:List Wv)
inductive Ob where
 | lst (ws:List Wv)
 | tq (ns:List Int)
 | dct (kvs:List (L2.Key×Wv))
 | yV (kvs:List (List L2.Key×Wv))
 | CM (kvs:List (List L2.Key×Wv))
 | BS (kvs:List (L2.Key×Wv))
abbrev Hs:=List Ob
abbrev St:=L2.St
abbrev a9:=List (Option Wv)
abbrev Mp:=List Yx
def jh(a C:Yx):Heap->Prop:=λh=>∃o,h.get? a=some o/\o.cls= .ref C/\∃vs,o.data= .fields vs
def Q5(a C:Yx)(u:Option HO):Prop:=∃o vs,u=some (.eS o (.ext (jh a C)))/\o.data= .fields vs/\vs[2]? =some bo
theorem JH{P:YB}{w:YE}{H:Hp}{h:Heap}{a C:Yx}(ok:iY P w H h)(x:Q5 a C (H a)):jh a C h:=let ⟨_,_,e,_⟩:=x;(ok a _ e).2.1
def ClsAt(K:PySem.W.Frag)(c:PySem.Str)(C:Yx):Prop:=PySem.W.nsIn K YN c=some (some (.ref C))
def yW(c:Yx)(q:PySem.Str):Heap->Prop:=λh=>h.CodeRec (.ref c) q
def dv:List PySem.Str:=["form_of","formula_by","turned","readied_content","ordered"]
def iI(K:PySem.W.Frag)(q:PySem.Str):Option Yx:=match PySem.W.tabIn K q with
 | some (_,P)=>if(K.lookup P).isNone=true then some P else none
 | none=>none
def Sy(q:PySem.Str):PySem.Str:=(q++".<locals>.")++"<lambda>"
def tu(K:PySem.W.Frag)(H:Hp):Prop:=∀q P,q∈dv->iI K q=some P->∃ps,H P=some (.lC ps)/\TriplesOk ps.toList/\∀pos cv,codeAmong pos ps.toList=some cv->∃c,cv= .ref c/\H c=some (.ext (yW c (Sy q)))
theorem tu.keep{K:PySem.W.Frag}{H H':Hp}(t:tu K H)(h1:∀a ps,H a=some (.lC ps)->H' a=some (.lC ps))(h2:∀a φ,H a=some (.ext φ)->H' a=some (.ext φ)):tu K H':=λq P hq hP=>by
 obtain⟨ps,e1,e2,e3⟩:=t q P hq hP
 refine⟨ps,h1 _ _ e1,e2,λpos cv e=>?_⟩
 obtain⟨c,f1,f2⟩:=e3 pos cv e
 exact⟨c,f1,h2 _ _ f2⟩
def Sz(K:PySem.W.Frag)(a:Yx)(xs:List V):Prop:=∃(o:Obj)(its:Array YD)(n:Nat),K.lookup a=some o/\o.cls= .type "tuple"/\o.data= .seq its n/\its.size<=YO/\Vals xs its.toList
mutual
def af(K:PySem.W.Frag)(m:Mp)(H:Hp):Wv->V->Prop
 | .ay,v=>v= .ay
 | .bl b,v=>v= .bl b
 | .int i,v=>v= .int i
 | .str x,v=>v= .str x/\aE x=true
 | .tup ws,v=>∃a xs,v= .ref a/\H a=some (.tup xs)/\ae K m H ws xs
 | .pB ws,v=>∃a xs,v= .ref a/\Sz K a xs/\ae K m H ws xs
 | .ref l,v=>∃a,v= .ref a/\m[l]? =some a
 | .ty n,v=>v= .ty n
 | .cls c,v=>∃C,v= .ref C/\ClsAt K c C
 | .lO c,v=>∃a C,v= .ref a/\ClsAt K c C/\Q5 a C (H a)
 | .fn p ws,v=>v= .ref p.a/\H p.c=some (.ext (yW p.c p.q))/\ae K m H ws p.xs
def ae(K:PySem.W.Frag)(m:Mp)(H:Hp):List Wv->List V->Prop
 | [],xs=>xs=[]
 | w::ws,xs=>∃x r,xs=x::r/\af K m H w x/\ae K m H ws r
end
structure Ext(K:PySem.W.Frag)(m:Mp)(H:Hp)(m':Mp)(H':Hp):Prop where
 pre:∀(l:Nat)(a:Yx),m[l]? =some a->m'[l]? =some a
 tup:∀(a:Yx)(xs:List V),H a=some (.tup xs)->H' a=some (.tup xs)
 ext:∀(a:Yx)(φ:Heap->Prop),H a=some (.ext φ)->H' a=some (.ext φ)
 eS:∀(a:Yx)(o:Obj)(u:HO),H a=some (.eS o u)->H' a=some (.eS o u)
section
variable {K:PySem.W.Frag} {m m1 m2:Mp} {H H1 H2:Hp}
theorem Ext.refl:Ext K m H m H:=⟨λ_ _ h=>h,λ_ _ h=>h,λ_ _ h=>h,λ_ _ _ h=>h⟩
theorem Ext.trans(a:Ext K m H m1 H1)(b:Ext K m1 H1 m2 H2):Ext K m H m2 H2 :=
 ⟨λl x h=>b.pre l x (a.pre l x h),λx xs h=>b.tup x xs (a.tup x xs h),λx φ h=>b.ext x φ (a.ext x φ h),λx o u h=>b.eS x o u (a.eS x o u h)⟩
structure CN(K:PySem.W.Frag)(m:Mp)(H:Hp)(m':Mp)(H':Hp):Prop where
 pre:∀(l:Nat)(a:Yx),m[l]? =some a->m'[l]? =some a
 tup:∀(a:Yx)(xs:List V),H a=some (.tup xs)->H' a=some (.tup xs)
 ext:∀(a:Yx)(φ:Heap->Prop),H a=some (.ext φ)->H' a=some (.ext φ)
 fx:∀(a:Yx)(o:Obj)(φ:Heap->Prop),H a=some (.eS o (.ext φ))->H' a=some (.eS o (.ext φ))
theorem Ext.z(e:Ext K m H m1 H1):CN K m H m1 H1:=⟨e.pre,e.tup,e.ext,λa o φ h=>e.eS a o _ h⟩
mutual
theorem af.iZ(e:CN K m H m1 H1):∀(w:Wv)(v:V),af K m H w v->af K m1 H1 w v
 | .ay,v,h=>by unfold af at h ⊢;exact h
 | .bl b,v,h=>by unfold af at h ⊢;exact h
 | .int i,v,h=>by unfold af at h ⊢;exact h
 | .str x,v,h=>by unfold af at h ⊢;exact h
 | .ty n,v,h=>by unfold af at h ⊢;exact h
 | .cls c,v,h=>by unfold af at h ⊢;exact h
 | .lO c,v,h=>by
  unfold af at h ⊢
  obtain⟨a,C,e1,e2,o,vs,e3,e4⟩:=h
  exact⟨a,C,e1,e2,o,vs,e.fx _ _ _ e3,e4⟩
 | .ref l,v,h=>by
  unfold af at h ⊢
  obtain⟨a,e1,e2⟩:=h
  exact⟨a,e1,e.pre _ _ e2⟩
 | .tup ws,v,h=>by
  unfold af at h ⊢
  obtain⟨a,xs,e1,e2,e3⟩:=h
  exact⟨a,xs,e1,e.tup _ _ e2,ae.iZ e ws xs e3⟩
 | .pB ws,v,h=>by
  unfold af at h ⊢
  obtain⟨a,xs,e1,e2,e3⟩:=h
  exact⟨a,xs,e1,e2,ae.iZ e ws xs e3⟩
 | .fn p ws,v,h=>by
  unfold af at h ⊢
  obtain⟨e1,e2,e3⟩:=h
  exact⟨e1,e.ext _ _ e2,ae.iZ e ws p.xs e3⟩
theorem ae.iZ(e:CN K m H m1 H1):∀(ws:List Wv)(xs:List V),ae K m H ws xs->ae K m1 H1 ws xs
 | [],xs,h=>by unfold ae at h ⊢;exact h
 | w::ws,xs,h=>by
  unfold ae at h ⊢
  obtain⟨x,r,e1,e2,e3⟩:=h
  exact⟨x,r,e1,af.iZ e w x e2,ae.iZ e ws r e3⟩
end
theorem af.mono(e:Ext K m H m1 H1)(w:Wv)(v:V)(h:af K m H w v):af K m1 H1 w v:=af.iZ e.z w v h
theorem ae.mono(e:Ext K m H m1 H1)(ws:List Wv)(xs:List V)(h:ae K m H ws xs):ae K m1 H1 ws xs:=ae.iZ e.z ws xs h
theorem ae.nil:ae K m H [] []:=by unfold ae;rfl
theorem ae.cons{w:Wv}{x:V}{ws:List Wv}{xs:List V}(h:af K m H w x)(t:ae K m H ws xs):ae K m H (w::ws) (x::xs):=by unfold ae;exact⟨x,xs,rfl,h,t⟩
theorem ae.length:∀{ws:List Wv}{xs:List V},ae K m H ws xs->ws.length=xs.length
 | [],xs,h=>by unfold ae at h;subst h;rfl
 | w::ws,xs,h=>by
  unfold ae at h
  obtain⟨x,r,e1,_,e3⟩:=h
  subst e1
  simp[ae.length e3]
theorem ae.get:∀{ws:List Wv}{xs:List V}{i:Nat}{w:Wv},ae K m H ws xs->ws[i]? =some w->∃x,xs[i]? =some x/\af K m H w x
 | [],_,i,w,_,e=>by simp at e
 | a::ws,xs,0,w,h,e=>by
  unfold ae at h
  obtain⟨x,r,e1,e2,_⟩:=h
  subst e1
  simp at e
  subst e
  exact⟨x,rfl,e2⟩
 | a::ws,xs,i+1,w,h,e=>by
  unfold ae at h
  obtain⟨x,r,e1,_,e3⟩:=h
  subst e1
  obtain⟨y,f1,f2⟩:=ae.get (i:=i) (w:=w) e3 (by simpa using e)
  exact⟨y,by simpa using f1,f2⟩
theorem ae.append:∀{ws zs:List Wv}{xs ys:List V},ae K m H ws xs->ae K m H zs ys->ae K m H (ws++zs) (xs++ys)
 | [],_,xs,_,h,g=>by unfold ae at h;subst h;exact g
 | w::ws,zs,xs,ys,h,g=>by
  unfold ae at h
  obtain⟨x,r,e1,e2,e3⟩:=h
  subst e1
  exact ae.cons e2 (ae.append e3 g)
theorem ae.set:∀{ws:List Wv}{xs:List V}(i:Nat){w:Wv}{x:V},ae K m H ws xs->af K m H w x->ae K m H (ws.set i w) (xs.set i x)
 | [],xs,i,w,x,h,_=>by unfold ae at h;subst h;exact ae.nil
 | a::ws,xs,0,w,x,h,g=>by
  unfold ae at h
  obtain⟨y,r,e1,e2,e3⟩:=h
  subst e1
  exact ae.cons g e3
 | a::ws,xs,i+1,w,x,h,g=>by
  unfold ae at h
  obtain⟨y,r,e1,e2,e3⟩:=h
  subst e1
  exact ae.cons e2 (ae.set i e3 g)
theorem ae.drop:∀{ws:List Wv}{xs:List V}(i:Nat),ae K m H ws xs->ae K m H (ws.drop i) (xs.drop i)
 | ws,xs,0,h=>by simpa using h
 | [],xs,i+1,h=>by unfold ae at h;subst h;simpa using ae.nil
 | a::ws,xs,i+1,h=>by
  unfold ae at h
  obtain⟨y,r,e1,e2,e3⟩:=h
  subst e1
  simpa using ae.drop i e3
theorem ae.take:∀{ws:List Wv}{xs:List V}(i:Nat),ae K m H ws xs->ae K m H (ws.take i) (xs.take i)
 | ws,xs,0,h=>by simpa using ae.nil
 | [],xs,i+1,h=>by unfold ae at h;subst h;simpa using ae.nil
 | a::ws,xs,i+1,h=>by
  unfold ae at h
  obtain⟨y,r,e1,e2,e3⟩:=h
  subst e1
  simpa using ae.cons e2 (ae.take i e3)
theorem ae.ints:∀(ns:List Int),ae K m H (ns.map Wv.int) (ns.map V.int)
 | []=>ae.nil
 | n::ns=>ae.cons (by unfold af;rfl) (ae.ints ns)
end
def uT(K:PySem.W.Frag)(H:Hp)(a:Yx)(ns:List Int):Prop :=
 (∃o,H a=some (.eS o (.lst (ns.map V.int))))\/
  ∃(o:Obj)(its:Array YD)(n:Nat),K.lookup a=some o/\o.cls= .type "list"/\o.dict=none/\o.data= .seq its n/\its.size<=YO/\Vals (ns.map V.int) its.toList
def RelK{κ:Type}(K:PySem.W.Frag)(m:Mp)(H:Hp)(kvs:List (κ×Wv))(xs:List (κ×V)):Prop:=kvs.map (·.1)=xs.map (·.1)/\ae K m H (kvs.map (·.2)) (xs.map (·.2))
def qW(K:PySem.W.Frag)(m:Mp)(H:Hp)(a:Yx):Ob->Prop
 | .lst ws=>∃xs,H a=some (.lst xs)/\ae K m H ws xs
 | .tq ns=>uT K H a ns
 | .dct kvs=>∃xs,H a=some (.dK xs)/\RelK K m H kvs xs
 | .yV kvs=>∃xs,H a=some (.dT xs)/\RelK K m H kvs xs
 | .CM kvs=>∃o xs,H a=some (.eS o (.dT xs))/\RelK K m H kvs xs
 | .BS kvs=>∃o xs,H a=some (.eS o (.dK xs))/\RelK K m H kvs xs
def Ob.mu:Ob->Bool
 | .tq _=>false
 | _=>true
def Ob.wm:Ob->Bool
 | .tq _=>false
 | .CM _=>false
 | .BS _=>false
 | _=>true
theorem Ob.O1{o:Ob}(h:o.wm=true):o.mu=true:=by cases o<;>first | rfl | cases h
structure aY(K:PySem.W.Frag)(m:Mp)(st:Hs)(H:Hp):Prop where
 len:m.length=st.length
 obj:∀(l:Nat)(a:Yx)(o:Ob),m[l]? =some a->st[l]? =some o->qW K m H a o
 inj:∀(l l':Nat)(a:Yx)(o o':Ob),m[l]? =some a->m[l']? =some a->st[l]? =some o->st[l']? =some o'->o.mu=true->o'.mu=true->l=l'
 tab:tu K H
def aj(st:Hs)(l:Nat):Option (List Wv):=match st[l]? with
 | some (.lst ws)=>some ws
 | some (.tq ns)=>some (ns.map Wv.int)
 | _=>none
section
variable {K:PySem.W.Frag} {m:Mp} {H:Hp} {st:Hs}
def Wr(u:Option HO):Prop:=u=none\/(∃ys,u=some (.lst ys))\/(∃ys,u=some (.dK ys))\/∃ys,u=some (.dT ys)
theorem Wr.ne{p a:Yx}{u:HO}(hp:Wr (H p))(e:H a=some u)(n1:∀ys,u≠.lst ys)(n2:∀ys,u≠.dK ys)(n3:∀ys,u≠.dT ys):a≠p:=λz=>by
 subst z
 rcases hp with q | ⟨ys,q⟩ | ⟨ys,q⟩ | ⟨ys,q⟩
 ·rw[q] at e;cases e
 ·rw[q] at e;cases e;exact n1 ys rfl
 ·rw[q] at e;cases e;exact n2 ys rfl
 ·rw[q] at e;cases e;exact n3 ys rfl
theorem CO{p a:Yx}{o:HO}{xs:List V}(hp:Wr (H p))(h:H a=some (.tup xs)):upd H p o a=some (.tup xs):=by
 rw[ar (hp.ne h (by intro ys z;cases z) (by intro ys z;cases z) (by intro ys z;cases z))];exact h
theorem CP{p a:Yx}{o:HO}{ns:List Int}(hp:Wr (H p))(h:uT K H a ns):uT K (upd H p o) a ns:=by
 rcases h with ⟨o',h⟩ | h
 ·exact .inl ⟨o',by rw[ar (hp.ne h (by intro ys z;cases z) (by intro ys z;cases z) (by intro ys z;cases z))];exact h⟩
 ·exact .inr h
theorem Wr.of{u:Option HO}(h:u=none\/∃ys,u=some (.lst ys)):Wr u:=by
 rcases h with q | q
 ·exact .inl q
 ·exact .inr (.inl q)
theorem Ext.iJ{p:Yx}{o:HO}(hp:Wr (H p)):Ext K m H m (upd H p o):=⟨λ_ _ h=>h,λ_ _ h=>CO hp h,λa φ h=>by
 rw[ar (hp.ne h (by intro ys z;cases z) (by intro ys z;cases z) (by intro ys z;cases z))]
 exact h,λa o u h=>by
 rw[ar (hp.ne h (by intro ys z;cases z) (by intro ys z;cases z) (by intro ys z;cases z))]
 exact h⟩
theorem Ext.upd{p:Yx}{o:HO}(hp:H p=none\/∃ys,H p=some (.lst ys)):Ext K m H m (upd H p o):=Ext.iJ (Wr.of hp)
theorem RelK.mono{κ:Type}{m1:Mp}{H1:Hp}{kvs:List (κ×Wv)}{xs:List (κ×V)}(e:Ext K m H m1 H1)(h:RelK K m H kvs xs):RelK K m1 H1 kvs xs:=⟨h.1,ae.mono e _ _ h.2⟩
theorem qW.keep{m1:Mp}{b p:Yx}{u:HO}{o:Ob}(ex:Ext K m H m1 (L2.upd H p u))(hp:Wr (H p))(hb:o.mu=true->b≠p)(h:qW K m H b o):qW K m1 (L2.upd H p u) b o:=by
 cases o with
 | lst ws=>
  obtain⟨xs,e1,e2⟩:=h
  exact⟨xs,by rw[ar (hb rfl)];exact e1,ae.mono ex _ _ e2⟩
 | dct kvs=>
  obtain⟨xs,e1,e2⟩:=h
  exact⟨xs,by rw[ar (hb rfl)];exact e1,e2.mono ex⟩
 | yV kvs=>
  obtain⟨xs,e1,e2⟩:=h
  exact⟨xs,by rw[ar (hb rfl)];exact e1,e2.mono ex⟩
 | CM kvs=>
  obtain⟨o,xs,e1,e2⟩:=h
  exact⟨o,xs,by rw[ar (hb rfl)];exact e1,e2.mono ex⟩
 | BS kvs=>
  obtain⟨o,xs,e1,e2⟩:=h
  exact⟨o,xs,by rw[ar (hb rfl)];exact e1,e2.mono ex⟩
 | tq ns=>exact CP hp h
theorem qW.at{b:Yx}{o:Ob}(h:qW K m H b o)(hm:o.mu=true):∃u,H b=some u:=by
 cases o with
 | lst ws=>obtain⟨xs,e1,e2⟩:=h;exact⟨_,e1⟩
 | dct kvs=>obtain⟨xs,e1,e2⟩:=h;exact⟨_,e1⟩
 | yV kvs=>obtain⟨xs,e1,e2⟩:=h;exact⟨_,e1⟩
 | CM kvs=>obtain⟨o,xs,e1,e2⟩:=h;exact⟨_,e1⟩
 | BS kvs=>obtain⟨o,xs,e1,e2⟩:=h;exact⟨_,e1⟩
 | tq ns=>simp[Ob.mu] at hm
theorem qW.wr{b:Yx}{o:Ob}(h:qW K m H b o)(hm:o.wm=true):Wr (H b):=by
 cases o with
 | lst ws=>obtain⟨xs,e1,e2⟩:=h;exact .inr (.inl ⟨_,e1⟩)
 | dct kvs=>obtain⟨xs,e1,e2⟩:=h;exact .inr (.inr (.inl ⟨_,e1⟩))
 | yV kvs=>obtain⟨xs,e1,e2⟩:=h;exact .inr (.inr (.inr ⟨_,e1⟩))
 | CM kvs=>cases hm
 | BS kvs=>cases hm
 | tq ns=>cases hm
theorem tu.iJ{p:Yx}{o:HO}(t:tu K H)(hp:Wr (H p)):tu K (L2.upd H p o):=t.keep
 (λa ps h=>by rw[ar (hp.ne h (by intro ys z;cases z) (by intro ys z;cases z) (by intro ys z;cases z))];exact h)
 λa φ h=>by rw[ar (hp.ne h (by intro ys z;cases z) (by intro ys z;cases z) (by intro ys z;cases z))];exact h
theorem Ext.more{p:Yx}:Ext K m H (m++[p]) H:=⟨λl a h=>by
 rw[cG]
 ·exact h
 ·exact(List.getElem?_eq_some_iff.mp h).1,λ_ _ h=>h,λ_ _ h=>h,λ_ _ _ h=>h⟩
theorem aY.fresh{p:Yx}{o:HO}(S:aY K m st H)(hp:H p=none):aY K m st (upd H p o) :=
 ⟨S.len,λl a ob h1 h2=>by
  have q:=S.obj l a ob h1 h2
  refine q.keep (Ext.iJ (.inl hp)) (.inl hp) λhm=>?_
  obtain⟨u,e⟩:=q.at hm
  exact bp e hp,S.inj,S.tab.iJ (.inl hp)⟩
theorem aY.uU{l:Nat}{a:Yx}{ws:List Wv}(S:aY K m st H)(h1:m[l]? =some a)(h2:st[l]? =some (.lst ws)):∃xs,H a=some (.lst xs)/\ae K m H ws xs:=S.obj l a _ h1 h2
theorem aY.read{l:Nat}{a:Yx}{ws:List Wv}(S:aY K m st H)(h1:m[l]? =some a)(h2:aj st l=some ws):∃xs,iF K H a xs/\ae K m H ws xs:=by
 unfold aj at h2
 cases e:st[l]? with
 | none=>rw[e] at h2;cases h2
 | some o=>
  rw[e] at h2
  cases o with
  | lst zs=>
   cases h2
   obtain⟨xs,e1,e2⟩:=S.uU h1 e
   exact⟨xs,iF.of e1,e2⟩
  | dct kvs=>cases h2
  | yV kvs=>cases h2
  | CM kvs=>cases h2
  | BS kvs=>cases h2
  | tq ns=>
   cases h2
   have q:uT K H a ns:=S.obj l a _ h1 e
   refine⟨ns.map V.int,?_,ae.ints ns⟩
   rcases q with ⟨o,q⟩ | q
   ·exact .inl (.inr ⟨o,q⟩)
   ·exact .inr q
theorem aY.xh{p:Yx}{ob:Ob}{u:HO}(S:aY K m st H)(hp:H p=none)(r:qW K (m++[p]) (L2.upd H p u) p ob):aY K (m++[p]) (st++[ob]) (L2.upd H p u):=by
 have ex:Ext K m H (m++[p]) (L2.upd H p u):=Ext.more.trans (Ext.iJ (.inl hp))
 have CQ:∀(l:Nat)(o:Ob),m[l]? =some p->st[l]? =some o->o.mu=true->False:=λl o h1 h2 hm=>by
  obtain⟨v,e⟩:=(S.obj l p o h1 h2).at hm
  rw[hp] at e;cases e
 have old:∀(l:Nat)(a:Yx),(m++[p])[l]? =some a->(l < m.length/\m[l]? =some a)\/(l=m.length/\a=p):=λl a h=>by
  by_cases hl:l < m.length
  ·exact .inl ⟨hl,by rw[cG hl] at h;exact h⟩
  ·have h':=h
   rw[hV (by omega)] at h'
   have z:=List.getElem?_eq_some_iff.mp h'
   have z1:l - m.length < 1:=by simpa using z.1
   refine .inr ⟨by omega,?_⟩
   have e0:l - m.length=0:=by omega
   rw[e0] at h'
   simpa using h'.symm
 have olds:∀(l:Nat)(o:Ob),l < m.length->(st++[ob])[l]? =some o->st[l]? =some o:=λl o hl h=>by
  rw[cG (by rw[<-S.len];exact hl)] at h
  exact h
 refine⟨by simp[S.len],λl a o h1 h2=>?_,λl l' a zs zs' h1 JJ h2 h2' k k'=>?_,S.tab.iJ (.inl hp)⟩
 ·rcases old l a h1 with ⟨hl,h1⟩ | ⟨hl,rfl⟩
  ·have q:=S.obj l a o h1 (olds l o hl h2)
   refine q.keep ex (.inl hp) λhm=>?_
   obtain⟨v,e⟩:=q.at hm
   exact bp e hp
  ·have e:o=ob:=by
    rw[hl,S.len,hV (ak _),tw] at h2
    simpa using h2.symm
   subst e
   exact r
 ·rcases old l a h1 with ⟨hl,g1⟩ | ⟨hl,ea⟩
  ·rcases old l' a JJ with ⟨hl',N3⟩ | ⟨hl',ea'⟩
   ·exact S.inj l l' a zs zs' g1 N3 (olds l _ hl h2) (olds l' _ hl' h2') k k'
   ·rw[ea'] at g1
    exact(CQ l zs g1 (olds l _ hl h2) k).elim
  ·rcases old l' a JJ with ⟨hl',N3⟩ | ⟨hl',_⟩
   ·rw[ea] at N3
    exact(CQ l' zs' N3 (olds l' _ hl' h2') k').elim
   ·omega
theorem aY.alloc{p:Yx}{ws:List Wv}{xs:List V}(S:aY K m st H)(hp:H p=none)(r:ae K m H ws xs):aY K (m++[p]) (st++[.lst ws]) (upd H p (.lst xs)) :=
 S.xh hp ⟨xs,aC,ae.mono (Ext.more.trans (Ext.iJ (.inl hp))) _ _ r⟩
theorem aY.pC{l:Nat}{a:Yx}{o0 ob:Ob}{u:HO}(S:aY K m st H)(h1:m[l]? =some a)(h2:st[l]? =some o0)(hw:o0.wm=true)(r:qW K m (L2.upd H a u) a ob):aY K m (st.set l ob) (L2.upd H a u):=by
 have wr:Wr (H a):=(S.obj l a o0 h1 h2).wr hw
 have hm:=Ob.O1 hw
 have ex:Ext K m H m (L2.upd H a u):=Ext.iJ wr
 have hl:l < st.length:=(List.getElem?_eq_some_iff.mp h2).1
 have at':∀(k:Nat)(o:Ob),(st.set l ob)[k]? =some o->(k=l/\o=ob)\/(k≠l/\st[k]? =some o):=λk o h=>by
  by_cases e:l=k
  ·subst e
   rw[kL hl] at h
   exact .inl ⟨rfl,(Option.some.inj h).symm⟩
  ·rw[bW e] at h
   exact .inr ⟨λz=>e z.symm,h⟩
 refine⟨by simp[S.len],λk b o g1 g2=>?_,λk k' b us us' g1 N3 g2 WD q q'=>?_,S.tab.iJ wr⟩
 ·rcases at' k o g2 with ⟨rfl,rfl⟩ | ⟨hk,g2⟩
  ·rw[h1] at g1;cases g1
   exact r
  ·have q:=S.obj k b o g1 g2
   refine q.keep ex wr λho z=>?_
   subst z
   exact hk (S.inj k l b o o0 g1 h1 g2 h2 ho hm)
 ·have back:∀(k:Nat)(o:Ob),(st.set l ob)[k]? =some o->o.mu=true->∃o',st[k]? =some o'/\o'.mu=true:=λk o h ho=>by
   rcases at' k _ h with ⟨rfl,_⟩ | ⟨_,h⟩
   ·exact⟨o0,h2,hm⟩
   ·exact⟨o,h,ho⟩
  obtain⟨u1,e1,f1⟩:=back k us g2 q
  obtain⟨u2,e2,f2⟩:=back k' us' WD q'
  exact S.inj k k' b u1 u2 g1 N3 e1 e2 f1 f2
theorem aY.write{l:Nat}{a:Yx}{ws zs:List Wv}{xs:List V}(S:aY K m st H)(h1:m[l]? =some a)(h2:st[l]? =some (.lst ws))(r:ae K m H zs xs):aY K m (st.set l (.lst zs)) (upd H a (.lst xs)) :=
 S.pC h1 h2 rfl ⟨xs,aC,ae.mono (Ext.iJ ((S.obj l a _ h1 h2).wr rfl)) _ _ r⟩
end
structure aq(K:PySem.W.Frag)(m:Mp)(H:Hp)(ρ:a9)(σ:St):Prop where
 len:ρ.length=σ.length
 get:∀(i:Nat)(w:Wv),ρ[i]? =some (some w)->∃v,σ[i]? =some (some v)/\af K m H w v
section
variable {K:PySem.W.Frag} {m m1:Mp} {H H1:Hp} {ρ:a9} {σ:St}
theorem aq.mono(R:aq K m H ρ σ)(e:Ext K m H m1 H1):aq K m1 H1 ρ σ:=⟨R.len,λi w h=>let ⟨v,h1,h2⟩:=R.get i w h;⟨v,h1,af.mono e _ _ h2⟩⟩
theorem aq.set(R:aq K m H ρ σ)(i:Nat){w:Wv}{v:V}(h:af K m H w v):aq K m H (ρ.set i (some w)) (σ.set i (some v)):=by
 refine⟨by simp[R.len],λj u e=>?_⟩
 by_cases hj:i=j
 ·subst hj
  have hi:i < ρ.length:=by
   have:=(List.getElem?_eq_some_iff.mp e).1
   simpa using this
  rw[kL hi] at e
  have e':w=u:=Option.some.inj (Option.some.inj e)
  subst e'
  exact⟨v,by rw[kL (by rw[<-R.len];exact hi)],h⟩
 ·rw[bW hj] at e
  obtain⟨x,h1,h2⟩:=R.get j u e
  exact⟨x,by rw[bW hj];exact h1,h2⟩
end
inductive Re(α:Type) where
 | ok (a:α) (st:Hs)
 | err (c:PySem.Str) (st:Hs)
 | bad
def Re.bind{α β:Type}(r:Re α)(f:α->Hs->Re β):Re β:=match r with
 | .ok a st=>f a st
 | .err c st=> .err c st
 | .bad=> .bad
inductive Rs where
 | nx (ρ:a9) (st:Hs)
 | rt (w:Wv) (st:Hs)
 | bk (ρ:a9) (st:Hs)
 | ct (ρ:a9) (st:Hs)
 | err (c:PySem.Str) (ρ:a9) (st:Hs)
 | bad
def Re.bg{α:Type}(ρ:a9)(r:Re α)(f:α->Hs->Rs):Rs:=match r with
 | .ok a st=>f a st
 | .err c st=> .err c ρ st
 | .bad=> .bad
def Re.je{α:Type}(r:Re α):Re α:=match r with
 | .ok a st=> .ok a st
 | _=> .bad
abbrev GE:=a9->Hs->Re Wv
abbrev GT:=a9->Hs->Re Bool
abbrev GA:=a9->Hs->Re (List Wv)
abbrev GS:=a9->Hs->Rs
def uV(P:YB)(w:YE)(outer:List Env)(H:Hp)(s:YC)(H':Hp)(cls:YD)(e:YD)(s':YC):Prop :=
 ∃(a:Yx)(a0:YD)(B:Heap),e= .ref a/\s'.os=s.os/\AllBare s'.gens/\Un (frs outer) [] H H' s.heap s'.heap/\iY P w H' B/\tm B outer a cls a0 s'.heap/\
  (∀b o,s.heap.get? b=some o->b∉frs outer->∃o',B.get? b=some o'/\(H b=none->o'=o))
def jj(X:Cx)(pins:List (Yx×Obj))(H:Hp)(s:YC)(H':Hp)(cls:YD)(e:YD)(s':YC):Prop :=
 ∃(a:Yx)(a0 nt:YD)(B:Heap)(ch:List Yx),e= .ref a/\s'.os=s.os/\AllBare s'.gens/\(∀b∈ch,du X pins H b)/\Un (frs X.stack) ch H H' s.heap s'.heap/\iY X.prog X.w H' B/\
  (B.StaysIn s'.heap/\B.get? a=none/\s'.heap.FunFrames B X.stack/\Q4 s'.heap B a cls a0 nt)/\
  (∀b o,s.heap.get? b=some o->b∉frs X.stack->b∉ch->∃o',B.get? b=some o'/\(H b=none->o'=o))
theorem uV.any{X:Cx}{pins:List (Yx×Obj)}{H H':Hp}{s s':YC}{cls e:YD}(f:uV X.prog X.w X.stack H s H' cls e s'):jj X pins H s H' cls e s' :=
 let ⟨a,a0,B,e1,e2,e3,un,hok,fl,uW⟩:=f
 ⟨a,a0,.none,B,[],e1,e2,e3,(λb z=>by cases z),un,hok,fl,λb o q hb _=>uW b o q hb⟩
def xi(X:Cx)(σ:St)(H':Hp)(c:PySem.Str)(e:YD)(s':YC):Prop :=
 ∃(C:Yx)(pins:List (Yx×Obj))(Hc:Hp)(sc:YC),ClsAt X.K c C/\Inv X pins σ Hc sc/\
  (jj X pins Hc sc H' (.ref C) e s'\/(H'=Hc/\∃a args,e= .ref a/\s'.os=sc.os/\s'.gens=sc.gens/\tD sc.heap s'.heap a (.ref C) args))
def N4(X:Cx)(σ:St)(m:Mp)(H:Hp)(c:PySem.Str)(st:Hs):Prop :=
 ∀(m':Mp)(H':Hp)(e:YD)(s':YC),Ext X.K m H m' H'->aY X.K m' st H'->xi X σ H' c e s'->X.xe e s'
theorem N4.mono{X:Cx}{σ:St}{m m1:Mp}{H H1:Hp}{c:PySem.Str}{st:Hs}(h:N4 X σ m H c st)(e:Ext X.K m H m1 H1):N4 X σ m1 H1 c st :=
 λm' H' x s' e' S r=>h m' H' x s' (e.trans e') S r
def ao{α:Type}(X:Cx)(σ:St)(m:Mp)(H:Hp)(r:Re α)(ok:α->Hs->Prop):Prop:=match r with
 | .ok a st=>ok a st
 | .err c st=>N4 X σ m H c st
 | .bad=>False
def pD{α:Type}(r:Re α)(ok:α->Hs->Prop):Prop:=match r with
 | .ok a st=>ok a st
 | _=>False
theorem ao.je{α:Type}{X:Cx}{σ:St}{m:Mp}{H:Hp}{r:Re α}{ok:α->Hs->Prop}(h:ao X σ m H r.je ok):pD r ok:=by
 cases r with
 | ok a st=>exact h
 | err c st=>exact h
 | bad=>exact h
theorem ao.bind{α β:Type}{X:Cx}{σ:St}{m:Mp}{H:Hp}{r:Re α}{f:α->Hs->Re β}{ok:β->Hs->Prop}(h:ao X σ m H (r.bind f) ok):ao X σ m H r (λa st=>ao X σ m H (f a st) ok):=by
 cases r with
 | ok a st=>exact h
 | err c st=>exact h
 | bad=>exact h
theorem ao.imp{α:Type}{X:Cx}{σ:St}{m m1:Mp}{H H1:Hp}{r:Re α}{ok ok':α->Hs->Prop}(h:ao X σ m H r ok)(e:Ext X.K m H m1 H1)(k:∀a st,ok a st->ok' a st):ao X σ m1 H1 r ok':=by
 cases r with
 | ok a st=>exact k a st h
 | err c st=>exact N4.mono (c:=c) (st:=st) h e
 | bad=>exact h
theorem pD.imp{α:Type}{r:Re α}{ok ok':α->Hs->Prop}(h:pD r ok)(k:∀a st,ok a st->ok' a st):pD r ok':=by
 cases r with
 | ok a st=>exact k a st h
 | err c st=>exact h
 | bad=>exact h
def BU(K:PySem.W.Frag)(m:Mp)(H:Hp)(Q:VK)(w:Wv)(st:Hs):Prop:=∀(v:V)(m':Mp)(H':Hp),Ext K m H m' H'->aY K m' st H'->af K m' H' w v->Q v H'
def WE(K:PySem.W.Frag)(m:Mp)(H:Hp)(Q:Bool->Hp->Prop)(b:Bool)(st:Hs):Prop:=∀(m':Mp)(H':Hp),Ext K m H m' H'->aY K m' st H'->Q b H'
def WG(K:PySem.W.Frag)(m:Mp)(H:Hp)(Q:List V->Hp->Prop)(ws:List Wv)(st:Hs):Prop:=∀(vs:List V)(m':Mp)(H':Hp),Ext K m H m' H'->aY K m' st H'->ae K m' H' ws vs->Q vs H'
abbrev dB(X:Cx)(σ:St)(m:Mp)(H:Hp)(r:Re Wv)(Q:VK):Prop:=ao X σ m H r (BU X.K m H Q)
abbrev ik(X:Cx)(σ:St)(m:Mp)(H:Hp)(r:Re Bool)(Q:Bool->Hp->Prop):Prop:=ao X σ m H r (WE X.K m H Q)
abbrev JK(X:Cx)(σ:St)(m:Mp)(H:Hp)(r:Re (List Wv))(Q:List V->Hp->Prop):Prop:=ao X σ m H r (WG X.K m H Q)
theorem dB.shift{X:Cx}{σ:St}{m m1:Mp}{H H1:Hp}{r:Re Wv}{Q:VK}(h:dB X σ m H r Q)(e:Ext X.K m H m1 H1):dB X σ m1 H1 r Q:=h.imp e λ_ _ k v m' H' e'=>k v m' H' (e.trans e')
theorem ik.shift{X:Cx}{σ:St}{m m1:Mp}{H H1:Hp}{r:Re Bool}{Q:Bool->Hp->Prop}(h:ik X σ m H r Q)(e:Ext X.K m H m1 H1):ik X σ m1 H1 r Q:=h.imp e λ_ _ k m' H' e'=>k m' H' (e.trans e')
abbrev dC(K:PySem.W.Frag)(m:Mp)(H:Hp)(r:Re Wv)(Q:VK):Prop:=pD r (BU K m H Q)
theorem dC.shift{K:PySem.W.Frag}{m m1:Mp}{H H1:Hp}{r:Re Wv}{Q:VK}(h:dC K m H r Q)(e:Ext K m H m1 H1):dC K m1 H1 r Q:=pD.imp h λ_ _ k v m' H' e'=>k v m' H' (e.trans e')
def aF(X:Cx)(m:Mp)(H:Hp)(r:Rs)(D:Ends):Prop:=match r with
 | .nx ρ st=>∀(σ:St)(m':Mp)(H':Hp),Ext X.K m H m' H'->aY X.K m' st H'->aq X.K m' H' ρ σ->D.nx σ H'
 | .rt w st=>∀(v:V)(m':Mp)(H':Hp),Ext X.K m H m' H'->aY X.K m' st H'->af X.K m' H' w v->D.rt v H'
 | .bk ρ st=>∀(σ:St)(m':Mp)(H':Hp),Ext X.K m H m' H'->aY X.K m' st H'->aq X.K m' H' ρ σ->D.bk σ H'
 | .ct ρ st=>∀(σ:St)(m':Mp)(H':Hp),Ext X.K m H m' H'->aY X.K m' st H'->aq X.K m' H' ρ σ->D.ct σ H'
 | .err c ρ st=>∀(σ:St)(m':Mp)(H':Hp)(e:YD)(s':YC),Ext X.K m H m' H'->aY X.K m' st H'->aq X.K m' H' ρ σ->xi X σ H' c e s'->X.xe e s'
 | .bad=>False
theorem aF.shift{X:Cx}{m m1:Mp}{H H1:Hp}{r:Rs}{D:Ends}(h:aF X m H r D)(e:Ext X.K m H m1 H1):aF X m1 H1 r D:=by
 cases r with
 | nx ρ st=>exact λσ m' H' e'=>h σ m' H' (e.trans e')
 | rt w st=>exact λv m' H' e'=>h v m' H' (e.trans e')
 | bk ρ st=>exact λσ m' H' e'=>h σ m' H' (e.trans e')
 | ct ρ st=>exact λσ m' H' e'=>h σ m' H' (e.trans e')
 | err c ρ st=>exact λσ m' H' x s' e'=>h σ m' H' x s' (e.trans e')
 | bad=>exact h
theorem aF.cO{α:Type}{X:Cx}{m:Mp}{H:Hp}{ρ:a9}{σ:St}{r:Re α}{f:α->Hs->Rs}{D:Ends}(R:aq X.K m H ρ σ)(h:aF X m H (r.bg ρ f) D):ao X σ m H r (λa st=>aF X m H (f a st) D):=by
 cases r with
 | ok a st=>exact h
 | err c st=>exact λm' H' x s' e' S r=>h σ m' H' x s' e' S (R.mono e') r
 | bad=>exact h
def SE(X:Cx)(e:Expr):TE:=λσ H Q=>∀(pins:List (Yx×Obj))(s:YC),Inv X pins σ H s->YR (model X.prog X.w) X.A (eval e X.env) (EP X pins σ Q) X.xe s
def ST(X:Cx)(e:Expr):TT:=λσ H Q=>∀(pins:List (Yx×Obj))(s:YC),Inv X pins σ H s->YR (model X.prog X.w) X.A (isTrue e X.env (eval e X.env)) (TP X pins σ Q) X.xe s
def SA(X:Cx)(es:List Expr):TA:=λσ H Q=>∀(pos:Pos)(pins:List (Yx×Obj))(s:YC),Inv X pins σ H s->YR (model X.prog X.w) X.A (spliced (backTo pos (YQ es X.env))) (AP X pins σ Q) X.xe s
def SS(X:Cx)(st:Stmt):TS:=λD σ H=>∀(pins:List (Yx×Obj))(s:YC),Inv X pins σ H s->YR (model X.prog X.w) X.A (exec st X.env) (SP X pins D) X.xe s
def Q6(X:Cx)(st:List Stmt):TS:=λD σ H=>∀(pins:List (Yx×Obj))(s:YC),Inv X pins σ H s->YR (model X.prog X.w) X.A (execs st X.env) (SP X pins D) X.xe s
section
variable {X:Cx}
theorem aG{e:Expr}:PE X e (SE X e):=λpins s _ _ _ I h=>h pins s I
theorem pE{e:Expr}:PT X e (ST X e):=λpins s _ _ _ I h=>h pins s I
theorem i0{es:List Expr}:PA X es (SA X es):=λpos pins s _ _ _ I h=>h pos pins s I
theorem JL{st:Stmt}:PS X st (SS X st):=λpins s _ _ _ I h=>h pins s I
theorem gS{st:List Stmt}:B8 X st (Q6 X st):=λpins s _ _ _ I h=>h pins s I
end
def JE(X:Cx)(e:Expr)(g:GE):Prop:=∀(ρ:a9)(st:Hs)(σ:St)(H:Hp)(m:Mp)(Q:VK),aY X.K m st H->aq X.K m H ρ σ->dB X σ m H (g ρ st) Q->SE X e σ H Q
def JT(X:Cx)(e:Expr)(g:GT):Prop:=∀(ρ:a9)(st:Hs)(σ:St)(H:Hp)(m:Mp)(Q:Bool->Hp->Prop),aY X.K m st H->aq X.K m H ρ σ->ik X σ m H (g ρ st) Q->ST X e σ H Q
def JA(X:Cx)(es:List Expr)(g:GA):Prop:=∀(ρ:a9)(st:Hs)(σ:St)(H:Hp)(m:Mp)(Q:List V->Hp->Prop),aY X.K m st H->aq X.K m H ρ σ->JK X σ m H (g ρ st) Q->SA X es σ H Q
def JS(X:Cx)(s:Stmt)(g:GS):Prop:=∀(ρ:a9)(st:Hs)(σ:St)(H:Hp)(m:Mp)(D:Ends),aY X.K m st H->aq X.K m H ρ σ->aF X m H (g ρ st) D->SS X s D σ H
def mV(X:Cx)(s:List Stmt)(g:GS):Prop:=∀(ρ:a9)(st:Hs)(σ:St)(H:Hp)(m:Mp)(D:Ends),aY X.K m st H->aq X.K m H ρ σ->aF X m H (g ρ st) D->Q6 X s D σ H
section
variable {X:Cx}
theorem JE.of{e:Expr}{g:GE}{t:TE}(h:PE X e t)(k:∀(ρ:a9)(st:Hs)(σ:St)(H:Hp)(m:Mp)(Q:VK),aY X.K m st H->aq X.K m H ρ σ->dB X σ m H (g ρ st) Q->t σ H Q):JE X e g :=
 λρ st σ H m Q S R p pins s I=>h pins s σ H Q I (k ρ st σ H m Q S R p)
theorem JT.of{e:Expr}{g:GT}{t:TT}(h:PT X e t)(k:∀(ρ:a9)(st:Hs)(σ:St)(H:Hp)(m:Mp)(Q:Bool->Hp->Prop),aY X.K m st H->aq X.K m H ρ σ->ik X σ m H (g ρ st) Q->t σ H Q):JT X e g :=
 λρ st σ H m Q S R p pins s I=>h pins s σ H Q I (k ρ st σ H m Q S R p)
theorem JA.of{es:List Expr}{g:GA}{t:TA}(h:PA X es t)(k:∀(ρ:a9)(st:Hs)(σ:St)(H:Hp)(m:Mp)(Q:List V->Hp->Prop),aY X.K m st H->aq X.K m H ρ σ->JK X σ m H (g ρ st) Q->t σ H Q):JA X es g :=
 λρ st σ H m Q S R p pos pins s I=>h pos pins s σ H Q I (k ρ st σ H m Q S R p)
theorem JS.of{e:Stmt}{g:GS}{t:TS}(h:PS X e t)(k:∀(ρ:a9)(st:Hs)(σ:St)(H:Hp)(m:Mp)(D:Ends),aY X.K m st H->aq X.K m H ρ σ->aF X m H (g ρ st) D->t D σ H):JS X e g :=
 λρ st σ H m D S R p pins s I=>h pins s σ H D I (k ρ st σ H m D S R p)
theorem mV.of{e:List Stmt}{g:GS}{t:TS}(h:B8 X e t)(k:∀(ρ:a9)(st:Hs)(σ:St)(H:Hp)(m:Mp)(D:Ends),aY X.K m st H->aq X.K m H ρ σ->aF X m H (g ρ st) D->t D σ H):mV X e g :=
 λρ st σ H m D S R p pins s I=>h pins s σ H D I (k ρ st σ H m D S R p)
theorem JE.go{e:Expr}{g:GE}{ρ:a9}{st:Hs}{σ:St}{H:Hp}{m:Mp}{T:VK}{ok:Wv->Hs->Prop}(h:JE X e g)(S:aY X.K m st H)(R:aq X.K m H ρ σ)(p:ao X σ m H (g ρ st) ok)
  (k:∀(w:Wv)(st1:Hs)(v:V)(m1:Mp)(H1:Hp),ok w st1->Ext X.K m H m1 H1->aY X.K m1 st1 H1->af X.K m1 H1 w v->T v H1):SE X e σ H T :=
 h ρ st σ H m T S R (p.imp Ext.refl λw st1 q v m1 H1 e1 s1 r1=>k w st1 v m1 H1 q e1 s1 r1)
theorem JT.go{e:Expr}{g:GT}{ρ:a9}{st:Hs}{σ:St}{H:Hp}{m:Mp}{T:Bool->Hp->Prop}{ok:Bool->Hs->Prop}(h:JT X e g)(S:aY X.K m st H)(R:aq X.K m H ρ σ)(p:ao X σ m H (g ρ st) ok)
  (k:∀(b:Bool)(st1:Hs)(m1:Mp)(H1:Hp),ok b st1->Ext X.K m H m1 H1->aY X.K m1 st1 H1->T b H1):ST X e σ H T :=
 h ρ st σ H m T S R (p.imp Ext.refl λb st1 q m1 H1 e1 s1=>k b st1 m1 H1 q e1 s1)
theorem JA.go{es:List Expr}{g:GA}{ρ:a9}{st:Hs}{σ:St}{H:Hp}{m:Mp}{T:List V->Hp->Prop}{ok:List Wv->Hs->Prop}(h:JA X es g)(S:aY X.K m st H)(R:aq X.K m H ρ σ)(p:ao X σ m H (g ρ st) ok)
  (k:∀(ws:List Wv)(st1:Hs)(vs:List V)(m1:Mp)(H1:Hp),ok ws st1->Ext X.K m H m1 H1->aY X.K m1 st1 H1->ae X.K m1 H1 ws vs->T vs H1):SA X es σ H T :=
 h ρ st σ H m T S R (p.imp Ext.refl λw st1 q v m1 H1 e1 s1 r1=>k w st1 v m1 H1 q e1 s1 r1)
end
end J
namespace J
open PySem PySem.Spec PyProof.Rows L2
def lim:Nat:=1000000
theorem ff{n:Nat}(h:n<=lim):n<=YO:=aX h (by unfold lim;rw[sizeLine_eq];decide)
theorem tE{n:Nat}(h:n < lim):n < YO:=bK h (by unfold lim;rw[sizeLine_eq];decide)
def ai(i:Nat):GE:=λρ st=>match ρ[i]? with
 | some (some w)=> .ok w st
 | _=> .bad
def gC(w:Wv):GE:=λ_ st=> .ok w st
section
variable {X:Cx}
theorem xj(i:Nat){x:Str}{pos:Pos}(hN:X.N[i]? =some x:=by rfl)(hv:RU X.env.scope x:=by first | exact Or.inl rfl | exact jQ (Or.inl rfl) | exact jQ (jQ rfl))(hd:(x == ("__debug__":Str))=false:=by decide)
  (hcd:(x == ("__classdict__":Str))=false:=by decide):JE X (.Name x pos) (ai i):=JE.of (KL hN hv hd hcd) λρ st σ H m Q S R p=>by
 unfold ai at p
 cases e:ρ[i]? with
 | none=>rw[e] at p;exact aa p
 | some o=>
  cases o with
  | none=>rw[e] at p;exact aa p
  | some w=>
   rw[e] at p
   obtain⟨v,h1,h2⟩:=R.get i w e
   exact⟨v,h1,p v m H Ext.refl S h2⟩
theorem LL{i:Int}{j pos}:JE X (.Constant (.int i) j pos) (gC (.int i)):=JE.of KN λρ st σ H m Q S R p=>p (.int i) m H Ext.refl S (by unfold af;rfl)
theorem O2{b:Bool}{j pos}:JE X (.Constant (.bool b) j pos) (gC (.bl b)):=JE.of Om λρ st σ H m Q S R p=>p (.bl b) m H Ext.refl S (by unfold af;rfl)
theorem LM{j pos}:JE X (.Constant .none j pos) (gC .ay):=JE.of KO λρ st σ H m Q S R p=>p .ay m H Ext.refl S (by unfold af;rfl)
theorem LN{x:PySem.Str}{j pos}(hx:aE x=true:=by decide+kernel):JE X (.Constant (.str x) j pos) (gC (.str x)):=JE.of KP λρ st σ H m Q S R p=>p (.str x) m H Ext.refl S (by unfold af;exact⟨rfl,hx⟩)
theorem CT{x:Str}{i:Int}{t:Tok}{pos:Pos}(hg:Gl X x)(hm:X.mg x=some (.int i t))(hd:(x == ("__debug__":Str))=false:=by decide):JE X (.Name x pos) (gC (.int i)) :=
 JE.of (fS (v:=.int i) hg hm ⟨t,rfl⟩ hd) λρ st σ H m Q S R p=>p (.int i) m H Ext.refl S (by unfold af;rfl)
theorem CU{x y:Str}{t:Tok}{pos:Pos}(hg:Gl X x)(hm:X.mg x=some (.str y t))(hy:aE y=true:=by decide+kernel)(hd:(x == ("__debug__":Str))=false:=by decide):JE X (.Name x pos) (gC (.str y)) :=
 JE.of (fS (v:=.str y) hg hm ⟨t,rfl⟩ hd) λρ st σ H m Q S R p=>p (.str y) m H Ext.refl S (by unfold af;exact⟨rfl,hy⟩)
theorem O3{x:Str}{T:String}{pos:Pos}(hg:Gl X x)(hm:X.mg x=none)(hv:YH x=some (.type T))(hn:x≠"__name__":=by decide)(hd:(x == ("__debug__":Str))=false:=by decide):JE X (.Name x pos) (gC (.ty T)) :=
 JE.of (Gk (v:=.ty T) hg hm hv rfl hn hd) λρ st σ H m Q S R p=>p (.ty T) m H Ext.refl S (by unfold af;rfl)
abbrev gM:=Wv->Wv->Hs->Re Wv
def az(op:gM)(ga gb:GE):GE:=λρ st=>(ga ρ st).bind λx st1=>(gb ρ st1).bind λy st2=>(op x y st2).je
def yX(X:Cx)(op:gM)(r:R2):Prop:=∀(x y:Wv)(a b:V)(st:Hs)(H:Hp)(m:Mp)(Q:VK),aY X.K m st H->af X.K m H x a->af X.K m H y b->dC X.K m H (op x y st) Q->r a b H Q
def jc(X:Cx)(f:YD->YD->Sem YD)(op:gM):Prop:=∃r,fb X f r/\yX X op r
theorem yY{a b:Expr}{ga gb:GE}{op:gM}{r:R2}(h2:yX X op r)(ha:JE X a ga)(hb:JE X b gb){ρ:a9}{st:Hs}{σ:St}{H:Hp}{m:Mp}{Q:VK}(S:aY X.K m st H)(R:aq X.K m H ρ σ)(p:dB X σ m H (az op ga gb ρ st) Q) :
  OD r (SE X a) (SE X b) σ H Q:=by
 refine ha.go S R (ao.bind p) λx st1 v m1 H1 p1 e1 S1 rx=>?_
 refine hb.go S1 (R.mono e1) ((ao.bind p1).imp e1 λ_ _ q=>q) λy st2 u m2 H2 p2 e2 S2 ry=>?_
 exact h2 x y v u st2 H2 m2 Q S2 (af.mono e2 _ _ rx) ry (dC.shift (ao.je p2) (e1.trans e2))
theorem LO{a b:Expr}{ga gb:GE}{o:Operator}{op:gM}{pos:Pos}(ho:jc X (YG o) op)(ha:JE X a ga)(hb:JE X b gb):JE X (.BinOp a o b pos) (az op ga gb):=by
 obtain⟨r,h1,h2⟩:=ho
 exact JE.of (OE h1 aG aG) λρ st σ H m Q S R p=>yY h2 ha hb S R p
theorem xk{a b:Expr}{ga gb:GE}{o:CmpOp}{op:gM}{pos:Pos}(ho:jc X (YK o) op)(ha:JE X a ga)(hb:JE X b gb)(hm:YF o b=false):JE X (.Compare a [o] [b] pos) (az op ga gb):=by
 obtain⟨r,h1,h2⟩:=ho
 exact JE.of (GB h1 aG aG hm) λρ st σ H m Q S R p=>yY h2 ha hb S R p
def F4(w:Wv)(st:Hs):Re Bool:=match w with
 | .bl b=> .ok b st
 | _=> .bad
def c_(g:GE):GT:=λρ st=>(g ρ st).bind F4
theorem lP{σ:St}{m:Mp}{H:Hp}{r:Re Wv}{Q:Bool->Hp->Prop}(p:ik X σ m H (r.bind F4) Q):dB X σ m H r (λx H'=>∃k,x= .bl k/\Q k H'):=by
 cases r with
 | ok w st=>
  cases w with
  | bl b=>
   intro v m' H' e S rw'
   unfold af at rw'
   exact⟨b,rw',p m' H' e S⟩
  | _=>exact aa p
 | err c st=>exact p
 | bad=>exact p
theorem xl{a b:Expr}{ga gb:GE}{o:CmpOp}{op:gM}{pos:Pos}(ho:jc X (YK o) op)(ha:JE X a ga)(hb:JE X b gb)(hm:YF o b=false):JT X (.Compare a [o] [b] pos) (c_ (az op ga gb)):=by
 obtain⟨r,h1,h2⟩:=ho
 exact JT.of (GC h1 aG aG hm) λρ st σ H m Q S R p=>yY h2 ha hb S R (lP p)
def pF(op op':gM)(ga gb gc:GE):GE:=λρ st=>(ga ρ st).bind λx st1=>(gb ρ st1).bind λy st2=>(op x y st2).je.bind λz st3=>match z with
 | .bl true=>(gc ρ st3).bind λu F5=>(op' y u F5).je
 | .bl false=> .ok (.bl false) st3
 | _=> .bad
theorem JM{a b c:Expr}{ga gb gc:GE}{op op':gM}{r r':R2}(h2:yX X op r)(h2':yX X op' r')(ha:JE X a ga)(hb:JE X b gb)(hc:JE X c gc){ρ:a9}{st:Hs}{σ:St}{H:Hp}{m:Mp}{Q:VK}
  (S:aY X.K m st H)(R:aq X.K m H ρ σ)(p:dB X σ m H (pF op op' ga gb gc ρ st) Q):wV r r' (SE X a) (SE X b) (SE X c) σ H Q:=by
 refine ha.go S R (ao.bind p) λx st1 v m1 H1 p1 e1 S1 rx=>?_
 refine hb.go S1 (R.mono e1) ((ao.bind p1).imp e1 λ_ _ q=>q) λy st2 u m2 H2 p2 e2 S2 ry=>?_
 refine h2 x y v u st2 H2 m2 _ S2 (af.mono e2 _ _ rx) ry (pD.imp (ao.je (ao.bind p2)) λz st3 p3=>?_)
 intro z' m3 H3 e3 S3 rz
 cases z with
 | bl k=>
  unfold af at rz
  refine⟨k,rz,?_⟩
  cases k with
  | true=>
   rw[if_pos rfl]
   refine hc.go S3 (R.mono (e1.trans (e2.trans e3))) ((ao.bind p3).imp (e1.trans (e2.trans e3)) λ_ _ q=>q) λq F5 u' m4 H4 p4 e4 S4 rq=>?_
   exact h2' y q u u' F5 H4 m4 Q S4 (af.mono (e3.trans e4) _ _ ry) rq (dC.shift (ao.je p4) (e1.trans (e2.trans (e3.trans e4))))
  | false=>
   rw[if_neg cQ]
   exact p3 (.bl false) m3 H3 (e1.trans (e2.trans e3)) S3 (by unfold af;rfl)
 | _=>exact aa p3
theorem CV{a b c:Expr}{ga gb gc:GE}{o o':CmpOp}{op op':gM}{pos:Pos}(ho:jc X (YK o) op)(ho':jc X (YK o') op')(ha:JE X a ga)(hb:JE X b gb)(hc:JE X c gc)
  (hm:lastMarks [o,o'] [b,c]=false:=by with_unfolding_all rfl):JE X (.Compare a [o,o'] [b,c] pos) (pF op op' ga gb gc):=by
 obtain⟨r,h1,h2⟩:=ho
 obtain⟨r',JJ,h2'⟩:=ho'
 exact JE.of (Ck h1 JJ aG aG aG hm) λρ st σ H m Q S R p=>JM h2 h2' ha hb hc S R p
theorem CW{a b c:Expr}{ga gb gc:GE}{o o':CmpOp}{op op':gM}{pos:Pos}(ho:jc X (YK o) op)(ho':jc X (YK o') op')(ha:JE X a ga)(hb:JE X b gb)(hc:JE X c gc)
  (hm:lastMarks [o,o'] [b,c]=false:=by with_unfolding_all rfl):JT X (.Compare a [o,o'] [b,c] pos) (c_ (pF op op' ga gb gc)):=by
 obtain⟨r,h1,h2⟩:=ho
 obtain⟨r',JJ,h2'⟩:=ho'
 exact JT.of (Cm h1 JJ aG aG aG hm) λρ st σ H m Q S R p=>JM h2 h2' ha hb hc S R (lP p)
def O4(op:Wv->Hs->Re Wv)(ga:GE):GE:=λρ st=>(ga ρ st).bind op
def uX:Wv->Hs->Re Wv
 | .int i,st=> .ok (.int (-i)) st
 | _,_=> .bad
theorem LP{a:Expr}{ga:GE}{pos:Pos}(ha:JE X a ga):JE X (.UnaryOp .USub a pos) (O4 uX ga):=by
 refine JE.of (OF Lf aG) λρ st σ H m Q S R p=>?_
 refine ha.go S R (ao.bind p) λx st1 v m1 H1 p1 e1 S1 rx=>?_
 cases x with
 | int i=>
  unfold af at rx
  exact⟨i,rx,p1 _ m1 H1 e1 S1 (by unfold af;rfl)⟩
 | _=>exact aa p1
def SW(X:Cx)(e:Expr):TT:=λσ H Q=>∀(wh:Sem YD)(pins:List (Yx×Obj))(s:YC),Inv X pins σ H s->YR (model X.prog X.w) X.A (isTrue e X.env wh) (TP X pins σ Q) X.xe s
theorem JN{e:Expr}:PW X e (SW X e):=λwh pins s _ _ _ I h=>h wh pins s I
def JW(X:Cx)(e:Expr)(g:GT):Prop:=∀(ρ:a9)(st:Hs)(σ:St)(H:Hp)(m:Mp)(Q:Bool->Hp->Prop),aY X.K m st H->aq X.K m H ρ σ->ik X σ m H (g ρ st) Q->SW X e σ H Q
theorem JW.of{e:Expr}{g:GT}{t:TT}(h:PW X e t)(k:∀(ρ:a9)(st:Hs)(σ:St)(H:Hp)(m:Mp)(Q:Bool->Hp->Prop),aY X.K m st H->aq X.K m H ρ σ->ik X σ m H (g ρ st) Q->t σ H Q):JW X e g :=
 λρ st σ H m Q S R p wh pins s I=>h wh pins s σ H Q I (k ρ st σ H m Q S R p)
theorem JW.jt{e:Expr}{g:GT}(h:JW X e g):JT X e g:=λρ st σ H m Q S R p pins s I=>h ρ st σ H m Q S R p _ pins s I
def O5(ga gb:GT):GT:=λρ st=>(ga ρ st).bind λb st1=>if b=true then gb ρ st1 else .ok false st1
def JP(ga gb:GT):GT:=λρ st=>(ga ρ st).bind λb st1=>if b=true then .ok true st1 else gb ρ st1
def pG(ga:GT):GT:=λρ st=>(ga ρ st).bind λb st1=> .ok (!b) st1
theorem G_{a:Expr}{ga:GT}{pos:Pos}(ha:JT X a ga):JW X (.BoolOp .And [a] pos) ga:=JW.of (Gm pE) λρ st σ H m Q S R p=>ha ρ st σ H m Q S R p
theorem LQ{a:Expr}{ga:GT}{pos:Pos}(ha:JT X a ga):JW X (.BoolOp .Or [a] pos) ga:=JW.of (KR pE) λρ st σ H m Q S R p=>ha ρ st σ H m Q S R p
theorem LR{a b:Expr}{rest:List Expr}{ga gb:GT}{pos:Pos}(ha:JT X a ga)(hb:JW X (.BoolOp .And (b::rest) pos) gb):JW X (.BoolOp .And (a::b::rest) pos) (O5 ga gb):=by
 refine JW.of (KS pE JN) λρ st σ H m Q S R p=>?_
 refine ha.go S R (ao.bind p) λc st1 m1 H1 p1 e1 S1=>?_
 cases c with
 | true=>rw[if_pos rfl] at p1 ⊢;exact hb ρ st1 σ H1 m1 Q S1 (R.mono e1) (ik.shift p1 e1)
 | false=>rw[if_neg cQ] at p1 ⊢;exact p1 m1 H1 e1 S1
theorem O6{a b:Expr}{rest:List Expr}{ga gb:GT}{pos:Pos}(ha:JT X a ga)(hb:JW X (.BoolOp .Or (b::rest) pos) gb):JW X (.BoolOp .Or (a::b::rest) pos) (JP ga gb):=by
 refine JW.of (Oo pE JN) λρ st σ H m Q S R p=>?_
 refine ha.go S R (ao.bind p) λc st1 m1 H1 p1 e1 S1=>?_
 cases c with
 | true=>rw[if_pos rfl] at p1 ⊢;exact p1 m1 H1 e1 S1
 | false=>rw[if_neg cQ] at p1 ⊢;exact hb ρ st1 σ H1 m1 Q S1 (R.mono e1) (ik.shift p1 e1)
theorem LS{a:Expr}{ga:GT}{pos:Pos}(ha:JT X a ga):JT X (.UnaryOp .Not a pos) (pG ga):=by
 refine JT.of (KU pE) λρ st σ H m Q S R p=>?_
 exact ha.go S R (ao.bind p) λc st1 m1 H1 p1 e1 S1=>p1 m1 H1 e1 S1
def uY(ga gb:GE):GE:=λρ st=>(ga ρ st).bind λw st1=>match w with
 | .bl true=>gb ρ st1
 | .bl false=> .ok (.bl false) st1
 | _=> .bad
def O7(ga gb:GE):GE:=λρ st=>(ga ρ st).bind λw st1=>match w with
 | .bl true=> .ok (.bl true) st1
 | .bl false=>gb ρ st1
 | _=> .bad
def JQ(ga:GE):GE:=λρ st=>(ga ρ st).bind λw st1=>match w with
 | .bl b=> .ok (.bl (!b)) st1
 | _=> .bad
theorem CY{op}{a:Expr}{ga:GE}{pos:Pos}(ha:JE X a ga):JE X (.BoolOp op [a] pos) ga:=JE.of (KW aG) λρ st σ H m Q S R p=>ha ρ st σ H m Q S R p
theorem LU{a b:Expr}{rest:List Expr}{ga gb:GE}{pos:Pos}(ha:JE X a ga)(hb:JE X (.BoolOp .And (b::rest) pos) gb):JE X (.BoolOp .And (a::b::rest) pos) (uY ga gb):=by
 refine JE.of (KY aG aG) λρ st σ H m Q S R p=>?_
 refine ha.go S R (ao.bind p) λx st1 v m1 H1 p1 e1 S1 rx=>?_
 cases x with
 | bl c=>
  unfold af at rx
  refine⟨c,rx,?_⟩
  cases c with
  | true=>rw[if_pos rfl];exact hb ρ st1 σ H1 m1 Q S1 (R.mono e1) (dB.shift p1 e1)
  | false=>rw[if_neg cQ];exact p1 _ m1 H1 e1 S1 (by unfold af;rfl)
 | _=>exact aa p1
theorem O8{a b:Expr}{rest:List Expr}{ga gb:GE}{pos:Pos}(ha:JE X a ga)(hb:JE X (.BoolOp .Or (b::rest) pos) gb):JE X (.BoolOp .Or (a::b::rest) pos) (O7 ga gb):=by
 refine JE.of (Ou aG aG) λρ st σ H m Q S R p=>?_
 refine ha.go S R (ao.bind p) λx st1 v m1 H1 p1 e1 S1 rx=>?_
 cases x with
 | bl c=>
  unfold af at rx
  refine⟨c,rx,?_⟩
  cases c with
  | true=>rw[if_pos rfl];exact p1 _ m1 H1 e1 S1 (by unfold af;rfl)
  | false=>rw[if_neg cQ];exact hb ρ st1 σ H1 m1 Q S1 (R.mono e1) (dB.shift p1 e1)
 | _=>exact aa p1
theorem LV{a:Expr}{ga:GE}{pos:Pos}(ha:JE X a ga):JE X (.UnaryOp .Not a pos) (JQ ga):=by
 refine JE.of (KZ aG) λρ st σ H m Q S R p=>?_
 refine ha.go S R (ao.bind p) λx st1 v m1 H1 p1 e1 S1 rx=>?_
 cases x with
 | bl c=>
  unfold af at rx
  exact⟨c,rx,p1 _ m1 H1 e1 S1 (by unfold af;rfl)⟩
 | _=>exact aa p1
def AB(gt:GT)(ga gb:GE):GE:=λρ st=>(gt ρ st).bind λb st1=>if b=true then ga ρ st1 else gb ρ st1
theorem O9{c a b:Expr}{gt:GT}{ga gb:GE}{pos:Pos}(hc:JT X c gt)(ha:JE X a ga)(hb:JE X b gb):JE X (.IfExp c a b pos) (AB gt ga gb):=by
 refine JE.of (Cb pE aG aG) λρ st σ H m Q S R p=>?_
 refine hc.go S R (ao.bind p) λk st1 m1 H1 p1 e1 S1=>?_
 cases k with
 | true=>rw[if_pos rfl] at p1 ⊢;exact ha ρ st1 σ H1 m1 Q S1 (R.mono e1) (dB.shift p1 e1)
 | false=>rw[if_neg cQ] at p1 ⊢;exact hb ρ st1 σ H1 m1 Q S1 (R.mono e1) (dB.shift p1 e1)
def au:GA:=λ_ st=> .ok [] st
def ag(ga:GE)(gr:GA):GA:=λρ st=>(ga ρ st).bind λx st1=>(gr ρ st1).bind λxs st2=> .ok (x::xs) st2
theorem tF:JA X [] au:=JA.of Li λρ st σ H m Q S R p=>p [] m H Ext.refl S ae.nil
theorem oz{e:Expr}{es:List Expr}{ga:GE}{gr:GA}(ha:JE X e ga)(hr:JA X es gr)(hs:YQ (e::es) X.env=(false,eval e X.env)::YQ es X.env:=by rfl):JA X (e::es) (ag ga gr):=by
 refine JA.of (GD aG i0 hs) λρ st σ H m Q S R p=>?_
 refine ha.go S R (ao.bind p) λx st1 v m1 H1 p1 e1 S1 rx=>?_
 refine hr.go S1 (R.mono e1) ((ao.bind p1).imp e1 λ_ _ q=>q) λxs st2 vs m2 H2 p2 e2 S2 rs=>?_
 exact p2 (v::vs) m2 H2 (e1.trans e2) S2 (ae.cons (af.mono e2 _ _ rx) rs)
def i9(g:GA):GE:=λρ st=>(g ρ st).bind λws st1=>if ws.length<=lim then .ok (.tup ws) st1 else .bad
def ip(g:GA):GE:=λρ st=>(g ρ st).bind λws st1=>if ws.length<=lim then .ok (.ref st1.length) (st1++[.lst ws]) else .bad
theorem LW{es:List Expr}{g:GA}{x1 pos}(h:JA X es g):JE X (.Tuple es x1 pos) (i9 g):=by
 refine JE.of (Lj i0) λρ st σ H m Q S R p=>?_
 refine h.go S R (ao.bind p) λws st1 vs m1 H1 p1 e1 S1 rs=>?_
 by_cases hl:ws.length<=lim
 ·rw[if_pos hl] at p1
  refine⟨by rw[<-rs.length];exact ff hl,λq hq=>?_⟩
  have e2:Ext X.K m1 H1 m1 (upd H1 q (.tup vs)):=Ext.upd (.inl hq)
  exact p1 (.ref q) m1 _ (e1.trans e2) (S1.fresh hq) (by unfold af;exact⟨q,vs,rfl,aC,ae.mono e2 _ _ rs⟩)
 ·rw[if_neg hl] at p1;exact aa p1
theorem aY.newest{K:PySem.W.Frag}{m:Mp}{st:Hs}{H:Hp}(S:aY K m st H)(q:Yx)(H':Hp):af K (m++[q]) H' (.ref st.length) (.ref q):=by
 unfold af
 refine⟨q,rfl,?_⟩
 rw[<-S.len,hV (ak _),tw]
 rfl
theorem gz{m m1:Mp}{H H1:Hp}{st1:Hs}{ws:List Wv}{vs:List V}{Q:VK}(p1:BU X.K m H Q (.ref st1.length) (st1++[.lst ws]))(e1:Ext X.K m H m1 H1)(S1:aY X.K m1 st1 H1)(rs:ae X.K m1 H1 ws vs)(q:Yx)(hq:H1 q=none) :
  Q (.ref q) (upd H1 q (.lst vs)) :=
 p1 (.ref q) (m1++[q]) _ (e1.trans (Ext.more.trans (Ext.upd (.inl hq)))) (S1.alloc hq rs) (S1.newest q _)
theorem LX{es:List Expr}{g:GA}{pos}(h:JA X es g):JE X (.List es pos) (ip g):=by
 refine JE.of (Lk i0) λρ st σ H m Q S R p=>?_
 refine h.go S R (ao.bind p) λws st1 vs m1 H1 p1 e1 S1 rs=>?_
 by_cases hl:ws.length<=lim
 ·rw[if_pos hl] at p1
  exact⟨by rw[<-rs.length];exact ff hl,λq hq=>gz p1 e1 S1 rs q hq⟩
 ·rw[if_neg hl] at p1;exact aa p1
end
section
variable {X:Cx}
theorem fb.or{f:YD->YD->Sem YD}{r r':R2}(h:fb X f r)(h':fb X f r'):fb X f (λx y H Q=>r x y H Q\/r' x y H Q):=by
 intro pins s σ H x y v u Q I rx ry q
 rcases q with q | q
 ·exact h pins s σ H x y v u Q I rx ry q
 ·exact h' pins s σ H x y v u Q I rx ry q
theorem CZ:fb X (YG .FloorDiv) (rI (λ_ j=>j≠0/\j.natAbs.log2 < 9000) λi j=> .int (i.fdiv j)):=QX λi j _ _ _ _ _ hc q=>floordiv_int hc.1 q (.inl (PyProof.noPylong_of_log2 hc.2))
theorem Ha:fb X (YG .Mod) (rI (λ_ j=>j≠0) λi j=> .int (i.fmod j)):=QX λi j _ _ _ _ _ hc q=>mod_int' hc q
theorem Hd:fb X (YG .Mult) (rI (λi j=>IntMulOk i j) λi j=> .int (i * j)):=QX λ_ _ _ _ _ _ _ hc q=>mul_int q hc
instance SD{a b:Int}:Decidable (IntMulOk a b):=by unfold IntMulOk;infer_instance
def LY:gM
 | .int i,.int j,st=> .ok (.int (i - j)) st
 | _,_,_=> .bad
def jk:gM
 | .int i,.int j,st=>if j≠0/\j.natAbs.log2 < 9000 then .ok (.int (i.fdiv j)) st else .bad
 | _,_,_=> .bad
def oMod:gM
 | .int i,.int j,st=>if j≠0 then .ok (.int (i.fmod j)) st else .bad
 | _,_,_=> .bad
def pH:gM
 | .int i,.int j,st=>if 0<=j/\j<=1000000/\i.natAbs < 2 ^ 64 then .ok (.int (i ^ j.toNat)) st else .bad
 | _,_,_=> .bad
def O_:gM
 | .int i,.int j,st=> .ok (.bl (decide (i < j))) st
 | .str i,.str j,st=> .ok (.bl (decide (i.cps.toList < j.cps.toList))) st
 | _,_,_=> .bad
def O':gM
 | .int i,.int j,st=> .ok (.bl (decide (i<=j))) st
 | _,_,_=> .bad
def Pa:gM
 | .int i,.int j,st=> .ok (.bl (decide (j < i))) st
 | _,_,_=> .bad
def SF:gM
 | .int i,.int j,st=> .ok (.bl (decide (j<=i))) st
 | _,_,_=> .bad
theorem aT{m:Mp}{H:Hp}{i:Int}{a:V}(h:af X.K m H (.int i) a):a= .int i:=by unfold af at h;exact h
theorem Pb{m:Mp}{H:Hp}{b:Bool}{a:V}(h:af X.K m H (.bl b) a):a= .bl b:=by unfold af at h;exact h
theorem eJ{m:Mp}{H:Hp}{x:PySem.Str}{a:V}(h:af X.K m H (.str x) a):a= .str x/\aE x=true:=by unfold af at h;exact h
theorem mkInt{m:Mp}{H:Hp}{i:Int}:af X.K m H (.int i) (.int i):=by unfold af;rfl
theorem iq{m:Mp}{H:Hp}{i:Bool}:af X.K m H (.bl i) (.bl i):=by unfold af;rfl
theorem JR{m:Mp}{H:Hp}:af X.K m H .ay .ay:=by unfold af;rfl
theorem mkStr{m:Mp}{H:Hp}{x:PySem.Str}(h:aE x=true):af X.K m H (.str x) (.str x):=by unfold af;exact⟨rfl,h⟩
theorem LZ:jc X (YG .Sub) LY:=⟨_,Ld,λx y a b st H m Q S rx ry p=>by
 cases x with
 | int i=>
  cases y with
  | int j=>exact⟨i,j,aT rx,aT ry,p _ m H Ext.refl S mkInt⟩
  | _=>exact aa p
 | _=>cases y<;>exact aa p⟩
theorem Hf:jc X (YG .FloorDiv) jk:=⟨_,CZ,λx y a b st H m Q S rx ry p=>by
 cases x with
 | int i=>
  cases y with
  | int j=>
   dsimp only[jk] at p
   by_cases c:j≠0/\j.natAbs.log2 < 9000
   ·rw[if_pos c] at p;exact⟨i,j,aT rx,aT ry,c,p _ m H Ext.refl S mkInt⟩
   ·rw[if_neg c] at p;exact aa p
  | _=>exact aa p
 | _=>cases y<;>exact aa p⟩
theorem L0:jc X (YG .Mod) oMod:=⟨_,Ha,λx y a b st H m Q S rx ry p=>by
 cases x with
 | int i=>
  cases y with
  | int j=>
   dsimp only[oMod] at p
   by_cases c:j≠0
   ·rw[if_pos c] at p;exact⟨i,j,aT rx,aT ry,c,p _ m H Ext.refl S mkInt⟩
   ·rw[if_neg c] at p;exact aa p
  | _=>exact aa p
 | _=>cases y<;>exact aa p⟩
theorem L3:jc X (YG .Pow) pH:=⟨_,Le,λx y a b st H m Q S rx ry p=>by
 cases x with
 | int i=>
  cases y with
  | int j=>
   dsimp only[pH] at p
   by_cases c:0<=j/\j<=1000000/\i.natAbs < 2 ^ 64
   ·rw[if_pos c] at p;exact⟨i,j,aT rx,aT ry,c,p _ m H Ext.refl S mkInt⟩
   ·rw[if_neg c] at p;exact aa p
  | _=>exact aa p
 | _=>cases y<;>exact aa p⟩
theorem Pc:jc X (YK .Lt) O_:=⟨_,fb.or OH Ak,λx y a b st H m Q S rx ry p=>by
 cases x with
 | int i=>
  cases y with
  | int j=>exact .inl ⟨i,j,aT rx,aT ry,p _ m H Ext.refl S iq⟩
  | _=>exact aa p
 | str i=>
  cases y with
  | str j=>exact .inr ⟨i,j,(eJ rx).1,(eJ ry).1,p _ m H Ext.refl S iq⟩
  | _=>exact aa p
 | _=>cases y<;>exact aa p⟩
theorem Pd:jc X (YK .LtE) O':=⟨_,OI,λx y a b st H m Q S rx ry p=>by
 cases x with
 | int i=>
  cases y with
  | int j=>exact⟨i,j,aT rx,aT ry,p _ m H Ext.refl S iq⟩
  | _=>exact aa p
 | _=>cases y<;>exact aa p⟩
theorem Pe:jc X (YK .Gt) Pa:=⟨_,OJ,λx y a b st H m Q S rx ry p=>by
 cases x with
 | int i=>
  cases y with
  | int j=>exact⟨i,j,aT rx,aT ry,p _ m H Ext.refl S iq⟩
  | _=>exact aa p
 | _=>cases y<;>exact aa p⟩
theorem Pf:jc X (YK .GtE) SF:=⟨_,OK,λx y a b st H m Q S rx ry p=>by
 cases x with
 | int i=>
  cases y with
  | int j=>exact⟨i,j,aT rx,aT ry,p _ m H Ext.refl S iq⟩
  | _=>exact aa p
 | _=>cases y<;>exact aa p⟩
def N5:gM
 | x,.ay,st=> .ok (.bl (match x with | .ay=>true | _=>false)) st
 | _,_,_=> .bad
def C0:gM
 | x,.ay,st=> .ok (.bl (match x with | .ay=>false | _=>true)) st
 | _,_,_=> .bad
theorem JU{m:Mp}{H:Hp}{x:Wv}{a:V}(h:af X.K m H x a):decide (a=V.ay)=(match x with | .ay=>true | _=>false):=by
 cases x with
 | ay=>unfold af at h;subst h;rfl
 | bl b=>unfold af at h;subst h;rfl
 | int b=>unfold af at h;subst h;rfl
 | str b=>unfold af at h;obtain⟨h,_⟩:=h;subst h;rfl
 | tup b=>unfold af at h;obtain⟨q,xs,h,_⟩:=h;subst h;rfl
 | pB b=>unfold af at h;obtain⟨q,xs,h,_⟩:=h;subst h;rfl
 | ref b=>unfold af at h;obtain⟨q,h,_⟩:=h;subst h;rfl
 | ty b=>unfold af at h;subst h;rfl
 | cls b=>unfold af at h;obtain⟨q,h,_⟩:=h;subst h;rfl
 | lO b=>unfold af at h;obtain⟨q,C,h,_⟩:=h;subst h;rfl
 | fn fp b=>unfold af at h;obtain⟨h,_⟩:=h;subst h;rfl
theorem Pg:jc X (YK .Is) N5:=⟨_,Lg,λx y a b st H m Q S rx ry p=>by
 cases y with
 | ay=>
  refine⟨by unfold af at ry;exact ry,?_⟩
  rw[JU rx]
  cases x<;>exact p _ m H Ext.refl S iq
 | _=>cases x<;>exact aa p⟩
theorem C2:jc X (YK .IsNot) C0:=⟨_,Gz,λx y a b st H m Q S rx ry p=>by
 cases y with
 | ay=>
  refine⟨by unfold af at ry;exact ry,?_⟩
  rw[JU rx]
  cases x<;>exact p _ m H Ext.refl S iq
 | _=>cases x<;>exact aa p⟩
theorem tG{a b:PySem.Str}(ha:aE a=true)(hb:aE b=true):aE (a++b)=true:=by
 unfold aE at *
 show((a.cps++b.cps).all _)=true
 rw[Array.all_append,ha,hb]
 rfl
def Ph(K:PySem.W.Frag):R2:=λx y H Q=>∃l b xs zs,x= .ref l/\y= .ref b/\iF K H l xs/\iF K H b zs/\xs.length+zs.length<=YO/\∀p,H p=none->Q (.ref p) (upd H p (.lst (xs++zs)))
theorem Hg:fb X (YG .Add) (Ph X.K):=by
 intro pins s σ H x y v u Q I rx ry h
 obtain⟨l,b,xs,zs,rfl,rfl,hH,hB,hz,q⟩:=h
 cases rx
 cases ry
 obtain⟨its,r,pl,hs⟩:=I.list hH
 obtain⟨its2,r2,WH,hs2⟩:=I.list hB
 have hl:=r.length
 have hl2:=r2.length
 obtain⟨⟨cls,dd,data,sl⟩,ho,hc,n,hd⟩:=id pl.isList
 obtain⟨⟨Sn,dd2,data2,sl2⟩,ho2,hc2,n2,hd2⟩:=id WH.isList
 simp only at hc hd hc2 hd2
 subst hc hd hc2 hd2
 have e:its.toArray++its2.toArray=(its++its2).toArray:=by simp
 refine PySem.concat_meets ⟨_,ho,rfl⟩ ⟨_,ho2,rfl⟩ PySem.noFill_list_add PySem.seq_list_add PySem.F.slot_list_add PySem.F.entry_list_add (PySem.F.args_list_add_2 _ _) (list_addW l b its.toArray its2.toArray n n2 dd dd2 sl sl2 (by simp;omega)) ⟨ho,ho2,?_⟩
 rw[e]
 exact⟨.ref _,_,I.GQ (t':=s.toks) (r.append r2) (by rw[eh];omega),rfl,q _ I.fresh⟩
def Pj(K:PySem.W.Frag):R2:=λx y H Q=>∃a b ys,x= .ref a/\y= .ref b/\eX K H a []/\eX K H b ys/\Q (.ref b) H
theorem Hh:fb X (YG .Add) (Pj X.K):=by
 intro pins s σ H x y v u Q I rx ry h
 obtain⟨a,b,ys,rfl,rfl,ha,hb,q⟩:=h
 cases rx
 cases ry
 obtain⟨its,r1,p1,_⟩:=I.tuple ha
 obtain⟨its2,r2,p2,_⟩:=I.tuple hb
 cases r1
 obtain⟨⟨c1,d1,t1,l1⟩,g1,k1,n1,j1⟩:=id p1
 obtain⟨⟨c2,d2,t2,l2⟩,g2,k2,n2,j2⟩:=id p2
 simp only at k1 j1 k2 j2
 subst k1 j1 k2 j2
 exact PySem.concat_meets ⟨_,g1,rfl⟩ ⟨_,g2,rfl⟩ PySem.noFill_tuple_add PySem.seq_tuple_add PySem.F.slot_tuple_add PySem.F.entry_tuple_add (PySem.F.args_tuple_add_2 _ _) (tuple_addW0 a b #[] its2.toArray n1 n2 d1 d2 l1 l2 (by simp)) ⟨g1,g2,⟨.ref b,H,I,rfl,q⟩⟩
def ir:gM
 | .int i,.int j,st=> .ok (.int (i+j)) st
 | .str i,.str j,st=>if i.length+j.length<=lim then .ok (.str (i++j)) st else .bad
 | .tup i,.tup j,st=>if i.length+j.length<=lim then .ok (.tup (i++j)) st else .bad
 | .ref l,.ref k,st=>match aj st l,aj st k with
  | some i,some j=>if i.length+j.length<=lim then .ok (.ref st.length) (st++[.lst (i++j)]) else .bad
  | _,_=> .bad
 | _,_,_=> .bad
instance {α:Type}{xs:List α}:Decidable (xs≠[]):=match xs with
 | []=>isFalse (λh=>h rfl)
 | _::_=>isTrue (λh=>by cases h)
theorem L4:jc X (YG .Add) ir:=⟨_,fb.or Lc (fb.or wX (fb.or GK (fb.or Hg Hh))),λx y a b st H m Q S rx ry p=>by
 cases x with
 | int i=>
  cases y with
  | int j=>exact .inl ⟨i,j,aT rx,aT ry,p _ m H Ext.refl S mkInt⟩
  | _=>exact aa p
 | str i=>
  cases y with
  | str j=>
   dsimp only[ir] at p
   by_cases c:i.length+j.length<=lim
   ·rw[if_pos c] at p
    exact .inr (.inl ⟨i,j,(eJ rx).1,(eJ ry).1,ff c,p _ m H Ext.refl S (mkStr (tG (eJ rx).2 (eJ ry).2))⟩)
   ·rw[if_neg c] at p;exact aa p
  | _=>exact aa p
 | tup i=>
  cases y with
  | tup j=>
   dsimp only[ir] at p
   by_cases c:i.length+j.length<=lim
   ·rw[if_pos c] at p
    by_cases c0:i=[]
    ·subst c0
     unfold af at rx ry
     obtain⟨a1,xs,rfl,h1,h2⟩:=rx
     obtain⟨a2,ys,rfl,h3,h4⟩:=ry
     have l1:xs=[]:=C3 h2.length.symm
     subst l1
     exact .inr (.inr (.inr (.inr ⟨a1,a2,ys,rfl,rfl,eX.of h1,eX.of h3,p (.ref a2) m H Ext.refl S (by rw[pz];unfold af;exact⟨a2,ys,rfl,h3,h4⟩)⟩)))
    unfold af at rx ry
    obtain⟨a1,xs,rfl,h1,h2⟩:=rx
    obtain⟨a2,ys,rfl,h3,h4⟩:=ry
    have l1:=h2.length
    have l2:=h4.length
    have n1:xs≠[]:=λz=>by rw[z] at l1;exact c0 (C3 l1)
    refine .inr (.inr (.inl ⟨a1,a2,xs,ys,rfl,rfl,eX.of h1,eX.of h3,n1,by rw[<-l1,<-l2];exact ff c,λz=>?_,λ_ q hq=>?_⟩))
    ·rw[z] at l2
     rw[C3 l2,fc] at p
     exact p (.ref a1) m H Ext.refl S (by unfold af;exact⟨a1,xs,rfl,h1,h2⟩)
    have e2:Ext X.K m H m (upd H q (.tup (xs++ys))):=Ext.upd (.inl hq)
    exact p (.ref q) m _ e2 (S.fresh hq) (by unfold af;exact⟨q,xs++ys,rfl,aC,ae.mono e2 _ _ (h2.append h4)⟩)
   ·rw[if_neg c] at p;exact aa p
  | _=>exact aa p
 | ref l=>
  cases y with
  | ref k=>
   dsimp only[ir] at p
   unfold af at rx ry
   obtain⟨a1,rfl,h1⟩:=rx
   obtain⟨a2,rfl,h2⟩:=ry
   cases e1:aj st l with
   | none=>rw[e1] at p;exact aa p
   | some i=>
    cases e2:aj st k with
    | none=>rw[e1,e2] at p;exact aa p
    | some j=>
     rw[e1,e2] at p
     by_cases c:i.length+j.length<=lim
     ·simp only[if_pos c] at p
      obtain⟨xs,q1,q2⟩:=S.read h1 e1
      obtain⟨ys,q3,q4⟩:=S.read h2 e2
      exact .inr (.inr (.inr (.inl ⟨a1,a2,xs,ys,rfl,rfl,q1,q3,by rw[<-q2.length,<-q4.length];exact ff c,λq hq=>gz p Ext.refl S (q2.append q4) q hq⟩)))
     ·simp only[if_neg c] at p;exact aa p
  | _=>exact aa p
 | _=>cases y<;>exact aa p⟩
def qX(n:Nat)(x:PySem.Str):PySem.Str:=⟨(aD n x.cps).foldl (· ++·) #[]⟩
end
open PySem PySem.Spec PySem.SeqAt PyProof.Rows L2
def eG{α β:Type}(f:α->Option β):List α->Option (List β)
 | []=>some []
 | w::ws=>match f w,eG f ws with
  | some d,some ds=>some (d::ds)
  | _,_=>none
def aK(st:Hs):Nat->Wv->Option PyData
 | 0,w=>match w with
  | .ay=>some .none
  | .bl b=>some (.bool b)
  | .int i=>some (.int i)
  | .str x=>some (.str x)
  | _=>none
 | n+1,w=>match w with
  | .ay=>some .none
  | .bl b=>some (.bool b)
  | .int i=>some (.int i)
  | .str x=>some (.str x)
  | .tup ws=>(eG (aK st n) ws).map .tuple
  | .pB ws=>(eG (aK st n) ws).map .tuple
  | .ref l=>match aj st l with
   | some ws=>(eG (aK st n) ws).map .list
   | none=>none
  | .ty _=>none
  | .cls _=>none
  | .lO _=>none
  | .fn _ _=>none
section
variable {X:Cx} {pins:List (Yx×Obj)} {σ:St} {H:Hp} {s:YC} {m:Mp} {st:Hs}
def JV(h:Heap)(n:Nat)(u:YD)(d:PyData):Prop:=∃as,Reads h u d as/\d.canLay0=true/\d.depth<=n
theorem jR{n:Nat}(ih:∀(w:Wv)(a:V)(u:YD)(d:PyData),af X.K m H w a->RelV a u->aK st n w=some d->JV s.heap n u d) :
  ∀(ws:List Wv)(xs:List V)(us:List YD)(ds:List PyData),ae X.K m H ws xs->Vals xs us->eG (aK st n) ws=some ds->∃as,ReadsAll s.heap us ds as/\yZ ds=true/\lQ ds<=n
 | [],xs,us,ds,h,r,e=>by
  unfold ae at h
  subst h
  cases r
  cases e
  exact⟨[],.nil,rfl,bZ _⟩
 | w::ws,xs,us,ds,h,r,e=>by
  unfold ae at h
  obtain⟨x,xr,rfl,h1,h2⟩:=h
  cases r with
  | cons r1 r2=>
   unfold eG at e
   cases e1:aK st n w with
   | none=>rw[e1] at e;cases e
   | some d=>
    cases e2:eG (aK st n) ws with
    | none=>rw[e1,e2] at e;cases e
    | some dr=>
     rw[e1,e2] at e
     cases e
     obtain⟨as,q1,q2,q3⟩:=ih w x _ d h1 r1 e1
     obtain⟨bs,p1,p2,p3⟩:=jR ih ws xr _ dr h2 r2 e2
     refine⟨as++bs,.cons q1 p1,?_,?_⟩
     ·show(PyData.canLay0 d&&yZ dr)=true
      rw[q2,p2];rfl
     ·show max d.depth (lQ dr)<=n
      omega
theorem fJ(I:Inv X pins σ H s)(S:aY X.K m st H):∀(n:Nat)(w:Wv)(a:V)(u:YD)(d:PyData),af X.K m H w a->RelV a u->aK st n w=some d->JV s.heap n u d:=by
 intro n
 induction n with
 | zero=>
  intro w a u d h r e
  cases w with
  | ay=>unfold af at h;subst h;cases r;cases e;exact⟨[],.none,rfl,ak _⟩
  | bl b=>unfold af at h;subst h;cases r;cases e;exact⟨[],.bool b,rfl,ak _⟩
  | int i=>unfold af at h;subst h;obtain⟨t,rfl⟩:=r;cases e;exact⟨[],.int i t,rfl,ak _⟩
  | str x=>unfold af at h;obtain⟨rfl,hx⟩:=h;obtain⟨t,rfl⟩:=r;cases e;exact⟨[],.str x t,hx,ak _⟩
  | tup ws=>cases e
  | pB ws=>cases e
  | ref l=>cases e
  | ty t=>cases e
  | cls t=>cases e
  | lO t=>cases e
  | fn fp t=>cases e
 | succ n ih=>
  intro w a u d h r e
  cases w with
  | ay=>unfold af at h;subst h;cases r;cases e;exact⟨[],.none,rfl,bZ _⟩
  | bl b=>unfold af at h;subst h;cases r;cases e;exact⟨[],.bool b,rfl,bZ _⟩
  | int i=>unfold af at h;subst h;obtain⟨t,rfl⟩:=r;cases e;exact⟨[],.int i t,rfl,bZ _⟩
  | str x=>unfold af at h;obtain⟨rfl,hx⟩:=h;obtain⟨t,rfl⟩:=r;cases e;exact⟨[],.str x t,hx,bZ _⟩
  | ty t=>cases e
  | cls t=>cases e
  | lO t=>cases e
  | fn fp t=>cases e
  | tup ws=>
   unfold af at h
   obtain⟨p,xs,rfl,h1,h2⟩:=h
   cases r
   have e':(eG (aK st n) ws).map tH=some d:=e
   cases e2:eG (aK st n) ws with
   | none=>rw[e2] at e';cases e'
   | some ds=>
    rw[e2] at e'
    cases e'
    obtain⟨its,rv,ht,hz⟩:=I.tuple (eX.of h1)
    obtain⟨as,q1,q2,q3⟩:=jR ih ws xs its ds h2 rv e2
    obtain⟨o,ho,hc,k,hd⟩:=ht
    exact⟨as,.tuple ho hc hd (by simpa using q1),q2,jS q3⟩
  | pB ws=>
   unfold af at h
   obtain⟨p,xs,rfl,h1,h2⟩:=h
   cases r
   have e':(eG (aK st n) ws).map tH=some d:=e
   cases e2:eG (aK st n) ws with
   | none=>rw[e2] at e';cases e'
   | some ds=>
    rw[e2] at e'
    cases e'
    obtain⟨its,rv,ht,hz⟩:=I.tuple (.inr h1)
    obtain⟨as,q1,q2,q3⟩:=jR ih ws xs its ds h2 rv e2
    obtain⟨o,ho,hc,k,hd⟩:=ht
    exact⟨as,.tuple ho hc hd (by simpa using q1),q2,jS q3⟩
  | ref l=>
   unfold af at h
   obtain⟨p,rfl,h1⟩:=h
   cases r
   have e':(match aj st l with | some ws=>(eG (aK st n) ws).map tI | none=>none)=some d:=e
   cases e1:aj st l with
   | none=>rw[e1] at e';cases e'
   | some ws=>
    rw[e1] at e'
    have e'':(eG (aK st n) ws).map tI=some d:=e'
    cases e2:eG (aK st n) ws with
    | none=>rw[e2] at e'';cases e''
    | some ds=>
     rw[e2] at e''
     cases e''
     obtain⟨xs,hq,h2⟩:=S.read h1 e1
     obtain⟨its,rv,ht,hz⟩:=I.list hq
     obtain⟨as,q1,q2,q3⟩:=jR ih ws xs its ds h2 rv e2
     obtain⟨o,ho,hc,k,hd⟩:=ht.isList
     exact⟨_,.list ho hc hd (by simpa using q1),q2,jS q3⟩
end
def oEq:gM:=λx y st=>match aK st 20 x,aK st 20 y with
 | some a,some b=> .ok (.bl (aN a b)) st
 | _,_=> .bad
def xm:gM:=λx y st=>match aK st 20 x,aK st 20 y with
 | some a,some b=> .ok (.bl (!PyData.eqv a b)) st
 | _,_=> .bad
section
variable {X:Cx}
def Pk(K:PySem.W.Frag)(neg:Bool):R2:=λa b H Q=>∃m st x y da db,aY K m st H/\af K m H x a/\af K m H y b/\aK st 20 x=some da/\aK st 20 y=some db/\Q (.bl (if neg then !PyData.eqv da db else aN da db)) H
theorem jT{n:Nat}{d:PyData}(hn:n<=64)(h:d.canLay0=true)(k:d.depth<=n):shaped d=true:=by
 unfold shaped
 rw[h,decide_eq_true (aX k hn)]
 rfl
theorem L5(hu:X.A.units+64 < cLine):fb X (YK .Eq) (Pk X.K false):=by
 intro pins s σ H a b v u Q I rx ry h
 obtain⟨m,st,x,y,da,db,S,h1,h2,e1,e2,q⟩:=h
 obtain⟨as,q1,q2,q3⟩:=fJ I S 20 x a v da h1 rx e1
 obtain⟨bs,p1,p2,p3⟩:=fJ I S 20 y b u db h2 ry e2
 exact eq_dataH q1 p1 (jT (by decide) q2 q3) (jT (by decide) p2 p3) hu ⟨.bl _,H,I,rfl,q⟩
theorem L6(hu:X.A.units+64 < cLine):fb X (YK .NotEq) (Pk X.K true):=by
 intro pins s σ H a b v u Q I rx ry h
 obtain⟨m,st,x,y,da,db,S,h1,h2,e1,e2,q⟩:=h
 obtain⟨as,q1,q2,q3⟩:=fJ I S 20 x a v da h1 rx e1
 obtain⟨bs,p1,p2,p3⟩:=fJ I S 20 y b u db h2 ry e2
 exact ne_dataH q1 p1 (jT (by decide) q2 q3) (jT (by decide) p2 p3) hu ⟨.bl _,H,I,rfl,q⟩
theorem Pl(hu:X.A.units+64 < cLine):jc X (YK .Eq) oEq:=⟨_,L5 hu,λx y a b st H m Q S rx ry p=>by
 unfold oEq at p
 cases e1:aK st 20 x with
 | none=>rw[e1] at p;exact aa p
 | some da=>
  cases e2:aK st 20 y with
  | none=>rw[e1,e2] at p;exact aa p
  | some db=>
   rw[e1,e2] at p
   exact⟨m,st,x,y,da,db,S,rx,ry,e1,e2,p _ m H Ext.refl S iq⟩⟩
theorem Pn(hu:X.A.units+64 < cLine):jc X (YK .NotEq) xm:=⟨_,L6 hu,λx y a b st H m Q S rx ry p=>by
 unfold xm at p
 cases e1:aK st 20 x with
 | none=>rw[e1] at p;exact aa p
 | some da=>
  cases e2:aK st 20 y with
  | none=>rw[e1,e2] at p;exact aa p
  | some db=>
   rw[e1,e2] at p
   exact⟨m,st,x,y,da,db,S,rx,ry,e1,e2,p _ m H Ext.refl S iq⟩⟩
def bF:Wv->Bool
 | .ay=>true
 | .bl _=>true
 | .int _=>true
 | .str _=>true
 | _=>false
def wJ:Wv->Wv->Bool
 | .ay,.ay=>true
 | .bl a,.bl b=>a == b
 | .bl a,.int b=>(if a then 1 else 0) == b
 | .int a,.bl b=>a == (if b then 1 else 0)
 | .int a,.int b=>a == b
 | .str a,.str b=>a == b
 | _,_=>false
def jl(st:Hs):Wv->Option (List Wv)
 | .tup ws=>some ws
 | .pB ws=>some ws
 | .ref l=>aj st l
 | _=>none
def SG:gM:=λx y st=>match jl st y with
 | some ws=>if bF x=true/\ws.all bF=true then .ok (.bl (ws.any λz=>wJ z x)) st else .bad
 | none=> .bad
def xn:gM:=λx y st=>match jl st y with
 | some ws=>if bF x=true/\ws.all bF=true then .ok (.bl (!(ws.any λz=>wJ z x))) st else .bad
 | none=> .bad
theorem gA{m:Mp}{H:Hp}{x:Wv}{a:V}(h:af X.K m H x a)(f:bF x=true):eV a=true:=by
 cases x with
 | ay=>unfold af at h;subst h;rfl
 | bl b=>unfold af at h;subst h;rfl
 | int b=>unfold af at h;subst h;rfl
 | str b=>unfold af at h;obtain⟨h,_⟩:=h;subst h;rfl
 | _=>cases f
theorem tJ{m:Mp}{H:Hp}{x y:Wv}{a b:V}(h:af X.K m H x a)(k:af X.K m H y b)(f:bF x=true)(g:bF y=true):uN a b=wJ x y:=by
 cases x with
 | ay=>
  unfold af at h;subst h
  cases y with
  | str j=>unfold af at k;obtain⟨k,_⟩:=k;subst k;rfl
  | tup j=>cases g
  | pB j=>cases g
  | ref j=>cases g
  | ty j=>cases g
  | cls j=>cases g
  | lO j=>cases g
  | fn fp j=>cases g
  | _=>unfold af at k;subst k;rfl
 | bl i=>
  unfold af at h;subst h
  cases y with
  | str j=>unfold af at k;obtain⟨k,_⟩:=k;subst k;rfl
  | tup j=>cases g
  | pB j=>cases g
  | ref j=>cases g
  | ty j=>cases g
  | cls j=>cases g
  | lO j=>cases g
  | fn fp j=>cases g
  | _=>unfold af at k;subst k;rfl
 | int i=>
  unfold af at h;subst h
  cases y with
  | str j=>unfold af at k;obtain⟨k,_⟩:=k;subst k;rfl
  | tup j=>cases g
  | pB j=>cases g
  | ref j=>cases g
  | ty j=>cases g
  | cls j=>cases g
  | lO j=>cases g
  | fn fp j=>cases g
  | _=>unfold af at k;subst k;rfl
 | str i=>
  unfold af at h;obtain⟨h,_⟩:=h;subst h
  cases y with
  | str j=>unfold af at k;obtain⟨k,_⟩:=k;subst k;rfl
  | tup j=>cases g
  | pB j=>cases g
  | ref j=>cases g
  | ty j=>cases g
  | cls j=>cases g
  | lO j=>cases g
  | fn fp j=>cases g
  | _=>unfold af at k;subst k;rfl
 | _=>cases f
theorem mW{m:Mp}{H:Hp}{x:Wv}{a:V}(h:af X.K m H x a)(f:bF x=true):∀{ws:List Wv}{xs:List V},ae X.K m H ws xs->ws.all bF=true->xs.all eV=true/\QY a xs=ws.any λz=>wJ z x
 | [],xs,r,_=>by unfold ae at r;subst r;exact⟨rfl,rfl⟩
 | w::ws,xs,r,g=>by
  unfold ae at r
  obtain⟨y,yr,rfl,r1,r2⟩:=r
  rw[eI,cL] at g
  obtain⟨q1,q2⟩:=mW h f r2 g.2
  constructor
  ·rw[eI,gA r1 g.1,q1];rfl
  ·unfold QY at q2 ⊢
   rw[fM,fM,tJ r1 h g.1 f,q2]
theorem oA{m:Mp}{H:Hp}{st:Hs}{y:Wv}{b:V}{ws:List Wv}(S:aY X.K m st H)(h:af X.K m H y b)(e:jl st y=some ws):∃p xs,b= .ref p/\(iF X.K H p xs\/eX X.K H p xs)/\ae X.K m H ws xs:=by
 cases y with
 | tup zs=>
  cases e
  unfold af at h
  obtain⟨p,xs,e1,e2,e3⟩:=h
  exact⟨p,xs,e1,.inr (eX.of e2),e3⟩
 | pB zs=>
  cases e
  unfold af at h
  obtain⟨p,xs,e1,e2,e3⟩:=h
  exact⟨p,xs,e1,.inr (.inr e2),e3⟩
 | ref l=>
  unfold af at h
  obtain⟨p,e1,e2⟩:=h
  obtain⟨xs,q1,q2⟩:=S.read e2 e
  exact⟨p,xs,e1,.inl q1,q2⟩
 | _=>cases e
theorem Po:jc X (YK .In) SG:=⟨_,Ar,λx y a b st H m Q S rx ry p=>by
 unfold SG at p
 cases e:jl st y with
 | none=>rw[e] at p;exact aa p
 | some ws=>
  rw[e] at p
  by_cases c:bF x=true/\ws.all bF=true
  ·simp only[if_pos c] at p
   obtain⟨q,xs,e1,e2,e3⟩:=oA S ry e
   obtain⟨f1,f2⟩:=mW rx c.1 e3 c.2
   refine⟨q,xs,e1,e2,gA rx c.1,f1,?_⟩
   rw[f2]
   exact p _ m H Ext.refl S iq
  ·simp only[if_neg c] at p;exact aa p⟩
theorem C4:jc X (YK .NotIn) xn:=⟨_,sV,λx y a b st H m Q S rx ry p=>by
 unfold xn at p
 cases e:jl st y with
 | none=>rw[e] at p;exact aa p
 | some ws=>
  rw[e] at p
  by_cases c:bF x=true/\ws.all bF=true
  ·simp only[if_pos c] at p
   obtain⟨q,xs,e1,e2,e3⟩:=oA S ry e
   obtain⟨f1,f2⟩:=mW rx c.1 e3 c.2
   refine⟨q,xs,e1,e2,gA rx c.1,f1,?_⟩
   rw[f2]
   exact p _ m H Ext.refl S iq
  ·simp only[if_neg c] at p;exact aa p⟩
def mM:gM
 | .str z,.int i,st=>if z.length<=lim then(match pg z.cps.toList i with | some c=> .ok (.str ⟨#[c]⟩) st | none=> .bad) else .bad
 | x,.int i,st=>match jl st x with
  | some ws=>(match pg ws i with | some w=> .ok w st | none=> .bad)
  | none=> .bad
 | _,_,_=> .bad
theorem Hi{m:Mp}{H:Hp}{ws:List Wv}{xs:List V}{i:Int}{w:Wv}(r:ae X.K m H ws xs)(h:pg ws i=some w):∃x,pg xs i=some x/\af X.K m H w x:=by
 unfold pg at h ⊢
 rw[<-r.length]
 cases e:Cu ws.length i with
 | none=>rw[e] at h;cases h
 | some j=>rw[e] at h;exact r.get h
theorem Hj{α:Type}{xs:List α}{i:Int}{v:α}(h:pg xs i=some v):v∈xs:=by
 obtain⟨j,_,h2,_⟩:=oo h
 exact sR h2
theorem AD{z:PySem.Str}{c:Nat}(h:aE z=true)(hc:c∈z.cps.toList):aE ⟨#[c]⟩=true:=by
 unfold aE at h ⊢
 rw[Pp] at h
 have q:=h c (by simpa using hc)
 simpa using q
theorem Pq{a b:Expr}{ga gb:GE}{pos:Pos}(ha:JE X a ga)(hb:JE X b gb)(hs:yO b:=by exact λ_ _=>rfl):JE X (.Subscript a b pos) (az mM ga gb) :=
 JE.of (OR Lu aG aG hs) λρ st σ H m Q S R p=>yY (op:=mM) (λx y a b st H m Q S rx ry p=>by
  have seqs:∀(i:Int),y= .int i->(match jl st x with | some ws=>(match pg ws i with | some w=>Re.ok w st | none=> .bad) | none=> .bad)=mM x y st->Vk X.K a b H Q:=λi hy hp=>by
   subst hy
   rw[<-hp] at p
   cases e:jl st x with
   | none=>rw[e] at p;exact aa p
   | some ws=>
    rw[e] at p
    dsimp only at p
    cases e1:pg ws i with
    | none=>rw[e1] at p;exact aa p
    | some w=>
     rw[e1] at p
     obtain⟨q,xs,e2,e3,e4⟩:=oA S rx e
     obtain⟨v,f1,f2⟩:=Hi e4 e1
     rcases e3 with e3 | e3
     ·exact .inl ⟨q,xs,i,v,e2,aT ry,e3,f1,p v m H Ext.refl S f2⟩
     ·exact .inr (.inl ⟨q,xs,i,v,e2,aT ry,e3,f1,p v m H Ext.refl S f2⟩)
  cases y with
  | int i=>
   cases x with
   | str z=>
    dsimp only[mM] at p
    by_cases c:z.length<=lim
    ·simp only[if_pos c] at p
     cases e1:pg z.cps.toList i with
     | none=>rw[e1] at p;exact aa p
     | some ch=>
      rw[e1] at p
      exact .inr (.inr ⟨z,i,ch,(eJ rx).1,aT ry,ff c,e1,p _ m H Ext.refl S (mkStr (AD (eJ rx).2 (Hj e1)))⟩)
    ·simp only[if_neg c] at p;exact aa p
   | _=>exact seqs i rfl rfl
  | _=>cases x<;>exact aa p) ha hb S R p
abbrev GO:=a9->Hs->Re (Option Int)
def SO(X:Cx)(e:Option Expr):TO:=λσ H Q=>∀(pins:List (Yx×Obj))(s:YC),Inv X pins σ H s->YR (model X.prog X.w) X.A (evalPart e X.env) (λu s'=>∃o H',Inv X pins σ H' s'/\IsPart u o/\Q o H') X.xe s
theorem rH{e:Option Expr}:PO X e (SO X e):=λpins s _ _ _ I h=>h pins s I
def WI(K:PySem.W.Frag)(m:Mp)(H:Hp)(Q:Option Int->Hp->Prop)(o:Option Int)(st:Hs):Prop:=∀(m':Mp)(H':Hp),Ext K m H m' H'->aY K m' st H'->Q o H'
def JO(X:Cx)(e:Option Expr)(g:GO):Prop:=∀(ρ:a9)(st:Hs)(σ:St)(H:Hp)(m:Mp)(Q:Option Int->Hp->Prop),aY X.K m st H->aq X.K m H ρ σ->ao X σ m H (g ρ st) (WI X.K m H Q)->SO X e σ H Q
def gT:GO:=λ_ st=> .ok none st
def kF(g:GE):GO:=λρ st=>(g ρ st).bind λw st1=>match w with
 | .int i=> .ok (some i) st1
 | _=> .bad
theorem Hk:JO X none gT:=λρ st σ H m Q S R p pins s I=>GH pins s σ H Q I (p m H Ext.refl S)
theorem Hl{e:Expr}{g:GE}(h:JE X e g):JO X (some e) (kF g):=λρ st σ H m Q S R p pins s I=>
 GJ aG pins s σ H Q I (h.go S R (ao.bind p) λw st1 v m1 H1 p1 e1 S1 r1=>by
  cases w with
  | int i=>exact⟨i,aT r1,p1 m1 H1 e1 S1⟩
  | _=>exact aa p1)
theorem JO.go{e:Option Expr}{g:GO}{ρ:a9}{st:Hs}{σ:St}{H:Hp}{m:Mp}{T:Option Int->Hp->Prop}{ok:Option Int->Hs->Prop}(h:JO X e g)(S:aY X.K m st H)(R:aq X.K m H ρ σ)(p:ao X σ m H (g ρ st) ok)
  (k:∀(b:Option Int)(st1:Hs)(m1:Mp)(H1:Hp),ok b st1->Ext X.K m H m1 H1->aY X.K m1 st1 H1->T b H1):SO X e σ H T :=
 h ρ st σ H m T S R (p.imp Ext.refl λb st1 q m1 H1 e1 s1=>k b st1 m1 H1 q e1 s1)
def lR(xs:List Wv)(lo hi:Option Int):List Wv:=(xs.drop (HT.c7 xs.length 0 lo)).take (HT.c7 xs.length xs.length hi - HT.c7 xs.length 0 lo)
def Pr(x:Wv)(lo hi:Option Int)(st:Hs):Re Wv:=match x with
 | .tup ws=>if HT.c7 ws.length 0 lo=0/\HT.c7 ws.length ws.length hi=ws.length then .bad else .ok (.tup (lR ws lo hi)) st
 | .ref l=>match aj st l with
  | some ws=> .ok (.ref st.length) (st++[.lst (lR ws lo hi)])
  | none=> .bad
 | _=> .bad
theorem tL{m:Mp}{H:Hp}{ws:List Wv}{xs:List V}{lo hi:Option Int}(r:ae X.K m H ws xs):ae X.K m H (lR ws lo hi) (qQ xs lo hi):=by
 unfold lR qQ
 rw[<-r.length]
 exact(r.drop _).take _
def xo(ga:GE)(gl gh:GO):GE:=λρ st=>(ga ρ st).bind λx st1=>(gl ρ st1).bind λlo st2=>(gh ρ st2).bind λhi st3=>Pr x lo hi st3
theorem uZ{a:Expr}{lo hi:Option Expr}{ga:GE}{gl gh:GO}{pos p2:Pos}(ha:JE X a ga)(hl:JO X lo gl)(hh:JO X hi gh):JE X (.Subscript a (.Slice lo hi none p2) pos) (xo ga gl gh):=by
 refine JE.of (pf (Cs.or GP) aG rH rH) λρ st σ H m Q S R p=>?_
 refine ha.go S R (ao.bind p) λx st1 v m1 H1 p1 e1 S1 rx=>?_
 refine hl.go S1 (R.mono e1) ((ao.bind p1).imp e1 λ_ _ q=>q) λl st2 m2 H2 p2 e2 S2=>?_
 refine hh.go S2 (R.mono (e1.trans e2)) ((ao.bind p2).imp (e1.trans e2) λ_ _ q=>q) λh st3 m3 H3 p3 e3 S3=>?_
 have AE:=e1.trans (e2.trans e3)
 have Q7:=af.mono (e2.trans e3) _ _ rx
 cases x with
 | tup ws=>
  have mX:dB X σ m H (if HT.c7 ws.length 0 l=0/\HT.c7 ws.length ws.length h=ws.length then .bad else .ok (.tup (lR ws l h)) st3) Q:=p3
  by_cases c:HT.c7 ws.length 0 l=0/\HT.c7 ws.length ws.length h=ws.length
  ·rw[if_pos c] at mX;exact aa mX
  ·rw[if_neg c] at mX
   unfold af at Q7
   obtain⟨q,xs,rfl,f1,f2⟩:=Q7
   refine .inl ⟨q,xs,rfl,eX.of f1,by rw[<-f2.length];exact c,λr hr=>?_⟩
   have e4:Ext X.K m3 H3 m3 (upd H3 r (.tup (qQ xs l h))):=Ext.upd (.inl hr)
   exact mX (.ref r) m3 _ (AE.trans e4) (S3.fresh hr) (by unfold af;exact⟨r,_,rfl,aC,ae.mono e4 _ _ (tL f2)⟩)
 | ref k=>
  have mX:dB X σ m H (match aj st3 k with | some ws=> .ok (.ref st3.length) (st3++[.lst (lR ws l h)]) | none=> .bad) Q:=p3
  unfold af at Q7
  obtain⟨q,rfl,f1⟩:=Q7
  cases e:aj st3 k with
  | none=>rw[e] at mX;exact aa mX
  | some ws=>
   rw[e] at mX
   obtain⟨xs,g1,g2⟩:=S3.read f1 e
   exact .inr ⟨q,xs,rfl,g1,λr hr=>gz mX AE S3 (tL g2) r hr⟩
 | _=>exact aa p3
end
section
variable {X:Cx}
def cA(X:Cx)(f:YD)(op:List Wv->Hs->Re Wv):Prop:=∃r,c9 X f r/\∀(ws:List Wv)(vs:List V)(st:Hs)(H:Hp)(m:Mp)(Q:VK),aY X.K m st H->ae X.K m H ws vs->dC X.K m H (op ws st) Q->r vs H Q
def aQ(op:List Wv->Hs->Re Wv)(g:GA):GE:=λρ st=>(g ρ st).bind λws st1=>(op ws st1).je
theorem C5{x:Str}{id:String}{p pos:Pos}{e:Expr}{es:List Expr}{g:GA}{op:List Wv->Hs->Re Wv}(hc:cA X (.builtin id) op)(hg:Gl X x)(hm:X.mg x=none)(hv:YH x=some (.builtin id))(ha:JA X (e::es) g)
  (hn:x≠"__name__":=by decide)(hdb:(x == ("__debug__":Str))=false:=by decide)(he:YQ (e::es) X.env=(false,eval e X.env)::YQ es X.env:=by rfl)(hpl:(backTo pos (YQ es X.env)).any (·.1)=false:=by rfl) :
  JE X (.Call (.Name x p) (e::es) [] pos) (aQ op g):=by
 obtain⟨r,h1,h2⟩:=hc
 refine JE.of (Cp h1 hg hm hv i0 hn hdb he hpl) λρ st σ H m Q S R p=>?_
 exact ha.go S R (ao.bind p) λws st1 vs m1 H1 p1 e1 S1 rs=>h2 ws vs st1 H1 m1 Q S1 rs (dC.shift (ao.je p1) e1)
theorem AF{x:Str}{T:String}{p pos:Pos}{e:Expr}{es:List Expr}{g:GA}{op:List Wv->Hs->Re Wv}(hc:cA X (.type T) op)(hg:Gl X x)(hm:X.mg x=none)(hv:YH x=some (.type T))(ha:JA X (e::es) g)
  (hn:x≠"__name__":=by decide)(hdb:(x == ("__debug__":Str))=false:=by decide)(he:YQ (e::es) X.env=(false,eval e X.env)::YQ es X.env:=by rfl)(hpl:(backTo pos (YQ es X.env)).any (·.1)=false:=by rfl) :
  JE X (.Call (.Name x p) (e::es) [] pos) (aQ op g):=by
 obtain⟨r,h1,h2⟩:=hc
 refine JE.of (Aq h1 hg hm hv i0 hn hdb he hpl) λρ st σ H m Q S R p=>?_
 exact ha.go S R (ao.bind p) λws st1 vs m1 H1 p1 e1 S1 rs=>h2 ws vs st1 H1 m1 Q S1 rs (dC.shift (ao.je p1) e1)
theorem i_{m:Mp}{H:Hp}{w:Wv}{vs:List V}(r:ae X.K m H [w] vs):∃v,vs=[v]/\af X.K m H w v:=by
 unfold ae at r
 obtain⟨v,t,rfl,h1,h2⟩:=r
 unfold ae at h2
 subst h2
 exact⟨v,rfl,h1⟩
theorem AG{m:Mp}{H:Hp}{w w':Wv}{vs:List V}(r:ae X.K m H [w,w'] vs):∃v v',vs=[v,v']/\af X.K m H w v/\af X.K m H w' v':=by
 unfold ae at r
 obtain⟨v,t,rfl,h1,h2⟩:=r
 obtain⟨v',rfl,h3⟩:=i_ h2
 exact⟨v,v',rfl,h1,h3⟩
def lS:List Wv->Hs->Re Wv
 | [.str z],st=>if z.length<=lim then .ok (.int z.length) st else .bad
 | [x],st=>match jl st x with
  | some ws=> .ok (.int ws.length) st
  | none=> .bad
 | _,_=> .bad
theorem L7:cA X (.builtin "len") lS:=⟨_,sX.or sY,λws vs st H m Q S r p=>by
 match ws,r,p with
 | [],r,p=>exact aa p
 | x::y::t,r,p=>cases x<;>exact aa p
 | [x],r,p=>
  obtain⟨v,rfl,rx⟩:=i_ r
  have seqs:(match jl st x with | some ws=>Re.ok (Wv.int ws.length) st | none=> .bad)=lS [x] st->(∃p ys,[v]=[V.ref p]/\(iF X.K H p ys\/eX X.K H p ys)/\Q (.int ys.length) H):=λhp=>by
   rw[<-hp] at p
   cases e:jl st x with
   | none=>rw[e] at p;exact aa p
   | some ws=>
    rw[e] at p
    obtain⟨q,xs,rfl,e2,e3⟩:=oA S rx e
    refine⟨q,xs,rfl,e2,?_⟩
    rw[<-e3.length]
    exact p _ m H Ext.refl S mkInt
  cases x with
  | str z=>
   have p':dC X.K m H (if z.length<=lim then .ok (.int z.length) st else .bad) Q:=p
   by_cases c:z.length<=lim
   ·rw[if_pos c] at p'
    obtain⟨rfl,_⟩:=eJ rx
    exact .inr ⟨z,rfl,ff c,p' _ m H Ext.refl S mkInt⟩
   ·rw[if_neg c] at p';exact aa p'
  | _=>exact .inl (seqs rfl)⟩
def C6:List Wv->Hs->Re Wv
 | [.int i],st=> .ok (.int (if i < 0 then -i else i)) st
 | _,_=> .bad
theorem L8:cA X (.builtin "abs") C6:=⟨_,Co,λws vs st H m Q S r p=>by
 match ws,r,p with
 | [],r,p=>exact aa p
 | x::y::t,r,p=>cases x<;>exact aa p
 | [x],r,p=>
  obtain⟨v,rfl,rx⟩:=i_ r
  cases x with
  | int i=>cases aT rx;exact⟨i,rfl,p _ m H Ext.refl S mkInt⟩
  | _=>exact aa p⟩
def N6(st:Hs)(T:String):Wv->Option Bool
 | .ay=>some false
 | .bl _=>some (T == "bool"||T == "int")
 | .int _=>some (T == "int")
 | .str _=>some (T == "str")
 | .tup _=>some (T == "tuple")
 | .pB _=>none
 | .ref l=>(aj st l).map λ_=>T == "list"
 | .ty _=>none
 | .cls _=>none
 | .lO _=>none
 | .fn _ _=>none
def xq(T:String):Bool:=T == "int"||T == "str"||T == "bool"||T == "tuple"||T == "list"
def L9:List Wv->Hs->Re Wv
 | [x,.ty T],st=>if xq T=true then(match N6 st T x with | some b=> .ok (.bl b) st | none=> .bad) else .bad
 | _,_=> .bad
def SH(K:PySem.W.Frag):List V->Hp->VK->Prop:=λvs H Q=>∃m st x T v b,vs=[v,.ty T]/\aY K m st H/\af K m H x v/\xq T=true/\N6 st T x=some b/\Q (.bl b) H
theorem C7:c9 X (.builtin "isinstance") (SH X.K):=by
 intro pins s σ H xs us Q I r h
 obtain⟨m,st,x,T,v,b,rfl,S,rx,hT,hb,q⟩:=h
 obtain⟨u,u',rfl,r1,r2⟩:=vals2 r
 cases r2
 have fin:∀tk,EP X pins σ Q (.bool b) { s with toks:=tk }:=λtk=>⟨.bl b,H,I.tok tk,rfl,q⟩
 have C8:EP X pins σ Q (.bool b) s:=⟨.bl b,H,I,rfl,q⟩
 unfold xq at hT
 simp only[Bool.or_eq_true,beq_iff_eq] at hT
 cases x with
 | ay=>
  unfold af at rx;subst rx;cases r1
  cases hb
  rcases hT with (((rfl | rfl) | rfl) | rfl) | rfl<;>
   exact call_isinstance (isinstance_false_none (by decide) (by kernel_rfl) (by rw[YM];kernel_rfl)) (fin _)
 | bl c=>
  unfold af at rx;subst rx;cases r1
  rcases hT with (((rfl | rfl) | rfl) | rfl) | rfl<;>cases hb<;>first
   | exact call_isinstance_yes (Tx:="bool") rfl (by kernel_rfl) (by rw[YM];kernel_rfl) C8
   | exact call_isinstance (isinstance_false_bool (by decide) (by kernel_rfl) (by rw[YM];kernel_rfl)) (fin _)
 | int c=>
  unfold af at rx;subst rx;obtain⟨t,rfl⟩:=r1
  rcases hT with (((rfl | rfl) | rfl) | rfl) | rfl<;>cases hb<;>first
   | exact call_isinstance_yes (Tx:="int") (typeIs_int s c t) (by kernel_rfl) (by rw[YM];kernel_rfl) C8
   | exact call_isinstance (isinstance_false_int (by decide) (by kernel_rfl) (by rw[YM];kernel_rfl)) (fin _)
 | str c=>
  obtain⟨rfl,_⟩:=eJ rx;obtain⟨t,rfl⟩:=r1
  rcases hT with (((rfl | rfl) | rfl) | rfl) | rfl<;>cases hb<;>first
   | exact call_isinstance_yes (Tx:="str") (typeIs_str s c t) (by kernel_rfl) (by rw[YM];kernel_rfl) C8
   | exact call_isinstance (isinstance_false_str (by decide) (by kernel_rfl) (by rw[YM];kernel_rfl)) (fin _)
 | pB ws=>cases hb
 | tup ws=>
  unfold af at rx;obtain⟨a,xs,rfl,h1,h2⟩:=rx;cases r1
  obtain⟨its,rv,ht,hz⟩:=I.tuple (eX.of h1)
  have hty:=ht.typeIs
  obtain⟨o,ho,hc,k,hd⟩:=ht
  rcases hT with (((rfl | rfl) | rfl) | rfl) | rfl<;>cases hb<;>first
   | exact call_isinstance_yes (Tx:="tuple") hty (by kernel_rfl) (by rw[YM];kernel_rfl) C8
   | exact call_isinstance (isinstance_false_tuple (by decide) (by kernel_rfl) (by rw[YM];kernel_rfl)) ⟨⟨o,ho,hc⟩,fin _⟩
 | ref l=>
  unfold af at rx;obtain⟨a,rfl,h1⟩:=rx;cases r1
  have hb':(aj st l).map (λ_=>T == "list")=some b:=hb
  cases e:aj st l with
  | none=>rw[e] at hb';cases hb'
  | some ws=>
   rw[e] at hb'
   obtain⟨xs,hq,h2⟩:=S.read h1 e
   obtain⟨its,rv,ht,hz⟩:=I.list hq
   have hty:=ht.isList.typeIs
   obtain⟨o,ho,hc,k,hd⟩:=ht.isList
   rcases hT with (((rfl | rfl) | rfl) | rfl) | rfl<;>cases hb'<;>first
    | exact call_isinstance_yes (Tx:="list") hty (by kernel_rfl) (by rw[YM];kernel_rfl) C8
    | exact call_isinstance (isinstance_false_list (by decide) (by kernel_rfl) (by rw[YM];kernel_rfl)) ⟨⟨o,ho,hc⟩,fin _⟩
 | ty t=>cases hb
 | cls t=>cases hb
 | lO t=>cases hb
 | fn fp t=>cases hb
theorem L_:cA X (.builtin "isinstance") L9:=⟨_,C7,λws vs st H m Q S r p=>by
 match ws,r,p with
 | [],r,p=>exact aa p
 | [x],r,p=>cases x<;>exact aa p
 | x::y::z::t,r,p=>cases y<;>exact aa p
 | [x,y],r,p=>
  obtain⟨v,v',rfl,rx,ry⟩:=AG r
  cases y with
  | ty T=>
   unfold af at ry
   subst ry
   have p':dC X.K m H (if xq T=true then(match N6 st T x with | some b=> .ok (.bl b) st | none=> .bad) else .bad) Q:=p
   by_cases c:xq T=true
   ·rw[if_pos c] at p'
    cases e:N6 st T x with
    | none=>rw[e] at p';exact aa p'
    | some b=>rw[e] at p';exact⟨m,st,x,T,v,b,rfl,S,rx,c,e,p' _ m H Ext.refl S iq⟩
   ·rw[if_neg c] at p';exact aa p'
  | _=>exact aa p⟩
def cR:GS:=λρ st=> .nx ρ st
def bx(g h:GS):GS:=λρ st=>match g ρ st with
 | .nx ρ' st'=>h ρ' st'
 | r=>r
theorem Hm:mV X [] cR:=mV.of Gn λρ st σ H m D S R p=>p σ m H Ext.refl S R
theorem C9{s:Stmt}{rest:List Stmt}{g h:GS}(h1:JS X s g)(h2:mV X rest h):mV X (s::rest) (bx g h) :=
 mV.of (Cd JL gS) λρ st σ H m D S R p=>h1 ρ st σ H m _ S R (by
  unfold bx at p
  cases e:g ρ st with
  | nx ρ' st'=>rw[e] at p;exact λσ' m' H' e' S' R'=>h2 ρ' st' σ' H' m' D S' R' (aF.shift p e')
  | rt w st'=>rw[e] at p;exact p
  | bk ρ' st'=>rw[e] at p;exact p
  | ct ρ' st'=>rw[e] at p;exact p
  | err c ρ' st'=>rw[e] at p;exact p
  | bad=>rw[e] at p;exact p)
theorem Hn{s:Stmt}{g:GS}(h1:JS X s g):mV X [s] g:=mV.of (Gq JL) λρ st σ H m D S R p=>h1 ρ st σ H m D S R p
def cb(g:GE):GS:=λρ st=>(g ρ st).bg ρ λw st'=> .rt w st'
theorem L'{e:Expr}{g:GE}{pos:Pos}(h:JE X e g):JS X (.Return (some e) pos) (cb g) :=
 JS.of (K5 aG) λρ st σ H m D S R p=>h.go S R (aF.cO R p) λw st1 v m1 H1 q e1 S1 r1=>q v m1 H1 e1 S1 r1
theorem Ho{pos:Pos}:JS X (.Pass pos) cR:=JS.of Gs λρ st σ H m D S R p=>p σ m H Ext.refl S R
def jm(g:GE):GS:=λρ st=>(g ρ st).bg ρ λ_ st'=> .nx ρ st'
theorem Hq{e:Expr}{g:GE}{pos:Pos}(h:JE X e g)(hs:swapsWith e none pos.line X.env=pure false:=by rfl):JS X (.Expr e pos) (jm g) :=
 JS.of (Gu aG hs) λρ st σ H m D S R p=>h.go S R (aF.cO R p) λw st1 v m1 H1 q e1 S1 r1=>q σ m1 H1 e1 S1 (R.mono e1)
def oB(gt:GT)(ga gb:GS):GS:=λρ st=>(gt ρ st).bg ρ λb st'=>if b=true then ga ρ st' else gb ρ st'
theorem Pt{c:Expr}{a b:List Stmt}{gt:GT}{ga gb:GS}{pos:Pos}(hc:JT X c gt)(ha:mV X a ga)(hb:mV X b gb):JS X (.If c a b pos) (oB gt ga gb) :=
 JS.of (Ox pE gS gS) λρ st σ H m D S R p=>hc.go S R (aF.cO R p) λk st1 m1 H1 q e1 S1=>by
  cases k with
  | true=>rw[if_pos rfl] at q ⊢;exact ha ρ st1 σ H1 m1 D S1 (R.mono e1) (aF.shift q e1)
  | false=>rw[if_neg cQ] at q ⊢;exact hb ρ st1 σ H1 m1 D S1 (R.mono e1) (aF.shift q e1)
def bM(i:Nat)(g:GE):GS:=λρ st=>(g ρ st).bg ρ λw st'=> .nx (ρ.set i (some w)) st'
theorem tM(i:Nat){x:Str}{e:Expr}{g:GE}{pos pos':Pos}(hN:X.N.Nodup)(h:JE X e g)(hi:X.N[i]? =some x:=by rfl)(hx:Loc X.env.scope x:=by first | exact Or.inl rfl | exact jQ rfl)(hs:swapsWith e (some (.Name x pos')) pos.line X.env=pure false:=by rfl)
  (hf:X.fn x=true\/X.env.scope.names.lookup x=some .local:=by first | exact .inl rfl | exact .inr rfl | assumption):JS X (.Assign [.Name x pos'] e pos) (bM i g) :=
 JS.of (K8 hN hi hx aG hs hf) λρ st σ H m D S R p=>h.go S R (aF.cO R p) λw st1 v m1 H1 q e1 S1 r1=>q _ m1 H1 e1 S1 ((R.mono e1).set i r1)
def b9:GS:=λ_ _=> .bad
theorem bG{s:Stmt}:JS X s b9:=JS.of Cf λρ st σ H m D S R p=>p
theorem AH{s:List Stmt}:mV X s b9:=mV.of Ai λρ st σ H m D S R p=>p
def SI(o i v:Wv)(ρ:a9)(st:Hs):Rs:=match o,i with
 | .ref l,.int k=>match st[l]? with
  | some (.lst ws)=>(match Cu ws.length k with | some j=> .nx ρ (st.set l (.lst (ws.set j v))) | none=> .bad)
  | _=> .bad
 | _,_=> .bad
def JX(ge go gi:GE):GS:=λρ st=>(ge ρ st).bg ρ λv st1=>(go ρ st1).bg ρ λo st2=>(gi ρ st2).bg ρ λi st3=>SI o i v ρ st3
theorem Hr{o i e:Expr}{go gi ge:GE}{pos pos':Pos}(he:JE X e ge)(ho:JE X o go)(hi:JE X i gi)(hs:swapsWithSole [.Subscript o i pos'] e pos.line X.env=pure false:=by rfl)(hw:swappedStores [.Subscript o i pos'] e X.env=pure none:=by rfl)
  (h1:(assignEach [.Subscript o i pos'] X.env).map (·.2)=[assign (.Subscript o i pos') X.env]:=by rfl)
  (ha:∀v,assign (.Subscript o i pos') X.env v=(do
   let ov <-holding [v] (eval o X.env)
   let iv <-holding [v,ov] (eval i X.env)
   standAt pos'
   holding [v,ov,iv] (setItem ov iv v)
   release [v,ov,iv] []):=by intro _;rfl):JS X (.Assign [.Subscript o i pos'] e pos) (JX ge go gi):=by
 refine JS.of (Ci aG (K7 aG aG set_list ha) hs hw h1) λρ st σ H m D S R p=>?_
 refine he.go S R (aF.cO R p) λv st1 vv m1 H1 p1 e1 S1 rv=>?_
 refine ho.go S1 (R.mono e1) ((aF.cO (m:=m) (H:=H) R p1).imp e1 λ_ _ q=>q) λo' st2 ov m2 H2 p2 e2 S2 ro=>?_
 refine hi.go S2 (R.mono (e1.trans e2)) ((aF.cO (m:=m) (H:=H) R p2).imp (e1.trans e2) λ_ _ q=>q) λi' st3 iv m3 H3 p3 e3 S3 ri=>?_
 have AE:=e1.trans (e2.trans e3)
 cases o' with
 | ref l=>
  cases i' with
  | int k=>
   have mX:aF X m H (match st3[l]? with | some (.lst ws)=>(match Cu ws.length k with | some j=> .nx ρ (st3.set l (.lst (ws.set j v))) | none=> .bad) | _=> .bad) D:=p3
   have Vs:=af.mono e3 _ _ ro
   unfold af at Vs
   obtain⟨a,rfl,f1⟩:=Vs
   cases e:st3[l]? with
   | none=>rw[e] at mX;exact aa mX
   | some ob=>
    cases ob with
    | dct kvs=>rw[e] at mX;exact aa mX
    | yV kvs=>rw[e] at mX;exact aa mX
    | CM kvs=>rw[e] at mX;exact aa mX
    | BS kvs=>rw[e] at mX;exact aa mX
    | tq ns=>rw[e] at mX;exact aa mX
    | lst ws=>
     rw[e] at mX
     cases ej:Cu ws.length k with
     | none=>simp only[ej] at mX;exact aa mX
     | some j=>
      simp only[ej] at mX
      obtain⟨xs,g1,g2⟩:=S3.uU f1 e
      refine⟨a,xs,k,j,rfl,aT ri,g1,by rw[<-g2.length];exact ej,?_⟩
      have WJ:=af.mono (e2.trans e3) _ _ rv
      have e4:Ext X.K m3 H3 m3 (upd H3 a (.lst (xs.set j vv))):=Ext.upd (.inr ⟨xs,g1⟩)
      exact mX σ m3 _ (AE.trans e4) (S3.write f1 e (g2.set j WJ)) (R.mono (AE.trans e4))
  | _=>exact aa p3
 | _=>cases i'<;>exact aa p3
open Classical in
def forL(i:Nat)(gb:GS)(l:Nat)(all:List Wv):List Wv->a9->Hs->Rs
 | [],ρ,st=> .nx ρ st
 | w::r,ρ,st=>match gb (ρ.set i (some w)) st with
  | .nx ρ' st'=>if aj st' l=some all then forL i gb l all r ρ' st' else .bad
  | .ct ρ' st'=>if aj st' l=some all then forL i gb l all r ρ' st' else .bad
  | .bk ρ' st'=> .nx ρ' st'
  | .rt w st'=> .rt w st'
  | .err c ρ' st'=> .err c ρ' st'
  | .bad=> .bad
end
def CXJ(P:YB)(w:YE):BR:=λouter H s E e s'=>∃H' C,uV P w outer H s H' (.ref C) e s'/\E (.ref C) none H'
section
variable {X:Cx} {pins:List (Yx×Obj)} {σ:St} {Hc H':Hp} {sc s':YC} {cls e:YD} {E:YD->YC->Prop} {Q:Unit->YC->Prop}
theorem old_ne(I:Inv X pins σ Hc sc){b:Yx}{o:Obj}(q:X.s₀.heap.get? b=some o):b≠X.env.locals:=λz=>by
 have h1:=aL q
 have h2:=I.ok.above
 rw[z] at h1
 exact absurd (bK h1 h2) (fq _)
theorem Ht(I:Inv X pins σ Hc sc)(hst:X.stack=X.env::X.outer)(hf:X.env.frame=some X.env.locals){b:Yx}{o:Obj}(q:X.s₀.heap.get? b=some o)(hb:b∉frs X.outer):b∉frs X.stack:=λz=>by
 rw[hst] at z
 unfold frs at z
 rw[sJ,hf] at z
 rcases List.mem_cons.mp z with z | z
 ·exact old_ne I q z
 ·exact hb z
theorem C_(hst:X.stack=X.env::X.outer)(hf:X.env.frame=some X.env.locals){b:Yx}(hb:b∈frs X.outer):b∈frs X.stack:=by
 rw[hst]
 unfold frs
 rw[sJ,hf]
 exact aJ _ hb
theorem u0{M:Model}{A:Yy}{E:YD->YC->Prop}{s:YC}{base:Heap}{env:Env}{outer:List Env}{L e:Yx}{cls a0 nt:YD}{Q:Unit->YC->Prop}(hfr:A.frames=some (env::outer))(hf:env.frame=some L)
  (x:base.StaysIn s.heap/\base.get? e=none/\s.heap.FunFrames base (env::outer)/\Q4 s.heap base e cls a0 nt)(k:∀h',CK base (env::outer) e cls a0 L h'->s.heap.UpToSlots h'->Q () { s with heap:=h' }) :
  YR M A (noteFrame (.ref e) env) Q E s:=by
 obtain⟨x1,x2,x3,x4⟩:=x
 by_cases z:nt=rawInt L
 ·subst z
  exact LK hf x4 (k s.heap ⟨x1,x2,x3,x4⟩ (Ma _))
 ·obtain⟨ox,us,T,ot,ws,g1,⟨g2,g3⟩,g4,g5,g6,g7,g8,g9,Pu⟩:=x4
  subst g2
  have apart:∀b,b≠T->(s.heap.update T (lN (·.setIfInBounds 3 bo))).get? b=s.heap.get? b:=λb hb=>ph _ _ (bt hb)
  have plain:∀b o,s.heap.get? b=some o->(∀vs,o.data≠.fields vs)->b≠T:=λb o hb hd q=>by
   subst q
   rw[g8] at hb
   cases hb
   exact hd ws g9
  unfold noteFrame
  simp only[hf]
  refine YS (wpAny_field g1 g4 g5 ?_)
  rw[if_pos (show(bb T != bo)=true from by simp)]
  refine YS (wpAny_field g8 g9 Pu ?_)
  rw[if_neg (show ¬((nt == rawInt L)=true) from by simpa using z)]
  refine YS (wpAny_setField g8 g9 (Array.getElem?_eq_some_iff.mp Pu).1 ?_)
  refine CL (a0:=a0) hfr (x3.of_keeps λb o hb hd=>⟨o,(apart b (plain b o hb hd)).trans hb,rfl⟩) hf ((apart e (bt g7)).trans g1) (λb o hb=>(apart b λq=>by rw[q,g6] at hb;cases hb).trans (x1 b o hb)) x2 g4 (Array.getElem?_eq_some_iff.mp g5).1 g3 λh' y y4=>?_
  exact k h' y λb o hb hd=>y4 b o ((apart b (plain b o hb hd)).trans hb) hd
theorem rJ{M:Model}{A:Yy}{E:YD->YC->Prop}{s:YC}{base h:Heap}{env:Env}{outer:List Env}{L a:Yx}{cls:YD}{args:List YD}{Q:Unit->YC->Prop}(hfr:A.frames=some (env::outer))(hf:env.frame=some L)
  (st:base.StaysIn h)(fs:h.FunFrames base (env::outer))(mk:tD h s.heap a cls args)(k:∀h' a0,CK base (env::outer) a cls a0 L h'->s.heap.UpToSlots h'->Q () { s with heap:=h' }) :
  YR M A (noteFrame (.ref a) env) Q E s:=by
 obtain⟨t,e1,e2,e3⟩:=mk.there
 have fresh:∀b,h.get? b=none->base.get? b=none:=λb hb=>by
  cases q:base.get? b with
  | none=>rfl
  | some o'=>have z:=st b o' q;rw[hb] at z;cases z
 have fs':=fs.of_keeps (h':=s.heap) λb o hb _=>⟨o,mk.keeps b o hb,rfl⟩
 unfold noteFrame
 simp only[hf]
 refine YS (wpAny_field e1 rfl (x:=.none) rfl ?_)
 rw[if_neg (by decide)]
 exact CL hfr fs' hf e1 (λb o hb=>mk.keeps b o (st b o hb)) (fresh a mk.new) rfl (by simp) (a0:=.ref t) rfl λh' l1 l4=>k h' (.ref t) l1 l4
theorem Dd{ch:List Yx}(hx:X.ex=[])(hst:X.stack=X.env::X.outer)(hf:X.env.frame=some X.env.locals)(I:Inv X pins σ Hc sc){B h2:Heap}(hch:∀b∈ch,du X pins Hc b)(un:Un (frs X.stack) ch Hc H' sc.heap s'.heap)(up:s'.heap.UpToSlots h2)(stay:B.StaysIn h2)
  (uW:∀b o,sc.heap.get? b=some o->b∉frs X.stack->b∉ch->∃o',B.get? b=some o'/\(Hc b=none->o'=o)) :
  Un (frs X.outer) [] X.H₀ H' X.s₀.heap h2/\(∀b o,X.s₀.heap.get? b=some o->b∉frs X.outer->∃o',B.get? b=some o'/\(X.H₀ b=none->o'=o)):=by
 have nx:∀b:Yx,b∉X.ex:=λb=>by rw[hx];simp
 have nc:∀b o,X.s₀.heap.get? b=some o->b∉ch:=λb o q z=>by
  rcases(hch b z).2.2.2.1 with y | y
  ·exact nx b y
  ·exact absurd (bK (aL q) y) (fq _)
 have Mb:∀b o,X.s₀.heap.get? b=some o->b∉frs X.outer->∃o',B.get? b=some o'/\(X.H₀ b=none->o'=o):=λb o q hb=>by
  obtain⟨o1,q1⟩:=I.base.there b o q (nx b)
  obtain⟨o2,q2,q3⟩:=uW b o1 q1 (Ht I hst hf q hb) (nc b o q)
  refine⟨o2,q2,λn=>?_⟩
  have q4:=I.base.keep b o q n hb (nx b)
  rw[q4] at q1
  cases q1
  exact q3 (I.base.free b o q n (nx b))
 have sl:∀b o,X.s₀.heap.get? b=some o->X.H₀ b=none->b∈frs X.outer->∃sl,h2.get? b=some { o with slots:=sl }:=λb o q n hb=>by
  obtain⟨s1,q1⟩:=I.base.slot b o q n hb (nx b)
  obtain⟨s2,q2⟩:=un.slot b _ q1 (I.base.free b o q n (nx b)) (C_ hst hf hb) (nc b o q)
  obtain⟨_,o3,q3,q4⟩:=I.ok.kK.mem hb
  rw[q] at q3
  cases q3
  obtain⟨s3,q5⟩:=up b _ q2 q4
  exact⟨s3,q5⟩
 refine⟨⟨λb o q n hb _=>?_,λb o q n hb _=>sl b o q n hb,λb o q n _=>?_,λb o q _=>?_,λb xs h=>un.tups b xs (I.base.tups b xs h),λb o u h=>un.i8 b o u (I.base.i8 b o u h),λb ps h=>?_⟩,Mb⟩
 ·obtain⟨o2,q2,q3⟩:=Mb b o q hb
  rw[q3 n] at q2
  exact stay b o q2
 ·obtain⟨o1,q1⟩:=I.base.there b o q (nx b)
  exact un.free b o1 q1 (I.base.free b o q n (nx b)) (nc b o q)
 ·by_cases hb:b∈frs X.outer
  ·obtain⟨s3,q3⟩:=sl b o q (I.ok.Gi b hb) hb
   exact⟨_,q3⟩
  ·obtain⟨o2,q2,_⟩:=Mb b o q hb
   exact⟨o2,stay b o2 q2⟩
 ·obtain⟨m1,t1⟩:=I.base.ky b ps h
  obtain⟨m2,t2⟩:=un.ky b _ t1
  exact⟨m1++m2,by rw[<-Array.append_assoc];exact t2⟩
theorem u5(hx:X.ex=[])(hst:X.stack=X.env::X.outer)(hf:X.env.frame=some X.env.locals)(I:Inv X pins σ Hc sc)(F:jj X pins Hc sc H' cls e s')
  (k:∀s2,uV X.prog X.w X.outer X.H₀ X.s₀ H' cls e s2->Q () s2):YR (model X.prog X.w) X.A (leaving X.env e) Q E s':=by
 obtain⟨a,a0,nt,B,ch,rfl,os,bare,hch,un,hok,fl,uW⟩:=F
 have hfr:X.A.frames=some (X.env::X.outer):=by rw[I.ok.frames,hst]
 rw[hst] at fl
 unfold leaving
 refine YS (u0 hfr hf fl λh1 hd1 up1=>?_)
 refine uS hd1 λh2 BV Pw=>k _ ?_
 obtain⟨k1,k2,⟨_,_,k3⟩,k4⟩:=BV
 obtain⟨u2,c2⟩:=Dd hx hst hf I hch un (up1.trans Pw) k1 uW
 exact⟨a,a0,B,rfl,os.trans I.os,bare,u2,hok,⟨k1,k2,k3,k4⟩,c2⟩
theorem u6{P:YB}{w:YE}{H:Hp}{h:Heap}{l:List Yx}(ok:iY P w H h)(fr:∀b∈l,H b=none):iY P w H (PySem.W.hideAll h l):=λa o q=>
 (ok a o q).stay (λb u hb r=>PySem.W.hideAll_get _ r λz=>by
  have n:=fr b z
  rcases hb with hb | hb
  ·rw[hb,q] at n;cases n
  ·rw[hb] at n;cases n) (λ_ r=>r) λ_ _ r=>r
theorem xt{a C:Yx}{args:List YD}(hx:X.ex=[])(hst:X.stack=X.env::X.outer)(hf:X.env.frame=some X.env.locals)(I:Inv X pins σ Hc sc)(ho:s'.os=sc.os)(WK:s'.gens=sc.gens)
  (M:tD sc.heap s'.heap a (.ref C) args)(k:∀s2,uV X.prog X.w X.outer X.H₀ X.s₀ Hc (.ref C) (.ref a) s2->Q () s2):YR (model X.prog X.w) X.A (leaving X.env (.ref a)) Q E s':=by
 have hfr:X.A.frames=some (X.env::X.outer):=by rw[I.ok.frames,hst]
 have fs:sc.heap.FunFrames (PySem.W.hideAll sc.heap (frs X.stack)) (X.env::X.outer):=by
  rw[<-hst]
  exact PySem.W.funFrames_hide I.stack λenv he b hb=>List.mem_filterMap.mpr ⟨env,he,hb⟩
 unfold leaving
 refine YS (rJ (base:=PySem.W.hideAll sc.heap (frs X.stack)) hfr hf (λb o q=>PySem.W.of_hideAll _ q) fs M λh1 t hd1 up1=>?_)
 refine uS hd1 λh2 BV Pw=>k _ ?_
 have up:=up1.trans Pw
 replace BV:tm (PySem.W.hideAll sc.heap (frs X.stack)) X.outer a (.ref C) t h2:=let ⟨k1,k2,⟨_,_,k3⟩,k4⟩:=BV;⟨k1,k2,k3,k4⟩
 obtain⟨u2,c2⟩:=Dd (H':=Hc) (s':=s') (ch:=[]) hx hst hf I (λb z=>by cases z) (Un.kept M.keeps) up BV.1 λb o q hb _=>⟨o,PySem.W.hideAll_get _ q hb,λ_=>rfl⟩
 exact⟨a,t,_,rfl,ho.trans I.os,by rw[show({ s' with heap:=h2 }:YC).gens=sc.gens from WK];exact I.bare,u2,u6 I.hok I.jP,BV,c2⟩
end
def JY(K:PySem.W.Frag)(m:Mp)(H:Hp)(r:Re Wv)(Q:VK)(E:XK):Prop:=match r with
 | .ok w st=>BU K m H Q w st
 | .err c st=>∀(m':Mp)(H':Hp)(C:Yx),Ext K m H m' H'->aY K m' st H'->ClsAt K c C->E (.ref C) none H'
 | .bad=>False
def spW(K:PySem.W.Frag)(n:Nat)(F:List Wv->Hs->Re Wv):Sp:=λvs H Q E=>∃m st ws,aY K m st H/\ae K m H ws vs/\ws.length=n/\JY K m H (F ws st) Q E
def a_(n:Nat)(F:List Wv->Hs->Re Wv)(g:GA):GE:=λρ st=>(g ρ st).bind λws st1=>if ws.length=n then F ws st1 else .bad
section
variable {X:Cx}
theorem Hu{k n:Nat}{f:Yx}{fd:Yz}{ps:List Str}{F:List Wv->Hs->Re Wv}{x:Str}{p pos:Pos}{e:Expr}{es:List Expr}{g:GA}
  (G:FnOk X.prog X.w X.K X.mg X.base (CXJ X.prog X.w) k f fd ps (spW X.K n F))(hr:eT k X.A)(hm:X.mg x=some (.ref f))(hk:PySem.W.keepIn X.K (.ref f)=true)(hb:Binds X.K fd ps [])(ha:JA X (e::es) g)(hg:Gl X x:=by rfl)
  (hdb:(x == ("__debug__":Str))=false:=by decide)(he:YQ (e::es) X.env=(false,eval e X.env)::YQ es X.env:=by rfl)(hpl:(backTo pos (YQ es X.env)).any (·.1)=false:=by rfl) :
  JE X (.Call (.Name x p) (e::es) [] pos) (a_ n F g):=by
 intro ρ st σ H m Q S R p pins s I
 have args:=ha.go (T:=λvs H1=>∃ws st1 m1,dB X σ m H (if ws.length=n then F ws st1 else .bad) Q/\Ext X.K m H m1 H1/\aY X.K m1 st1 H1/\ae X.K m1 H1 ws vs) S R (ao.bind p)
  λws st1 vs m1 H1 p1 e1 S1 rs=>⟨ws,st1,m1,p1,e1,S1,rs⟩
 refine wpAny_Call_Name_kw (lE I hg hm ?_ hdb)
 refine PySem.W.callWith_K (h₀:=X.base) I.ok.mod.B6 hk (bg (args pos pins s I) λus s1 ⟨vs,H1,I1,r,ws,st1,m1,p1,e1,S1,rs⟩=>⟨I1.wN,?_⟩) he hpl
 by_cases c:ws.length=n
 ·rw[if_pos c] at p1
  let E:XK:=λcl _ H2=>∃c' st2 m2 C,cl= .ref C/\ClsAt X.K c' C/\F ws st1= .err c' st2/\Ext X.K m1 H1 m2 H2/\aY X.K m2 st2 H2
  have sp:spW X.K n F vs H1 Q E:=by
   refine⟨m1,st1,ws,S1,rs,c,?_⟩
   cases er:F ws st1 with
   | ok w st2=>rw[er] at p1;exact dB.shift (r:=.ok w st2) p1 e1
   | err c' st2=>exact λm2 H2 C e2 S2 hC=>⟨c',st2,m2,C,rfl,hC,er,e2,S2⟩
   | bad=>rw[er] at p1;exact aa p1
  have hl:us.length=ps.length:=by rw[<-r.length];exact G.len _ _ _ _ sp
  have bd:=hb s1 us I1.wN (by rw[fc];exact hl)
  rw[fc] at bd
  refine wpAny_call (codeAny_mono (G.run X.A X.stack s1 H1 ⟨us,[]⟩ us vs Q E hr I1.Ll bd r sp) λrr s2 hq=>?_)
  cases rr with
  | error x=>
   obtain⟨H2,C,fl,c',st2,m2,C',ec,hC,er,e2,S2⟩:=hq
   cases ec
   rw[er] at p1
   exact p1 m2 H2 x s2 (e1.trans e2) S2 ⟨C,pins,H1,s1,hC,I1,.inl fl.any⟩
  | ok fw=>
   cases fw with
   | ret u=>exact I1.after hq
   | next=>exact aa hq
   | brk=>exact aa hq
   | cont=>exact aa hq
 ·rw[if_neg c] at p1;exact aa p1
end
def kQ(n:Nat)(g:GS):List Wv->Hs->Re Wv:=λws st=>match g (ws.map some++aD (n - ws.length) none) st with
 | .nx _ st'=> .ok .ay st'
 | .rt w st'=> .ok w st'
 | .err c _ st'=> .err c st'
 | _=> .bad
theorem De{K:PySem.W.Frag}{m:Mp}{H:Hp}{N:List Str}{ws:List Wv}{vs:List V}(r:ae K m H ws vs)(h:ws.length<=N.length):aq K m H (ws.map some++aD (N.length - ws.length) none) (L2.start N vs):=by
 have hl:=r.length
 refine⟨by unfold L2.start;simp[hl],λi w e=>?_⟩
 by_cases hi:i < ws.length
 ·rw[cG (by simpa using hi),iH] at e
  cases q:ws[i]? with
  | none=>rw[q] at e;cases e
  | some w'=>
   rw[q] at e
   cases e
   obtain⟨x,h1,h2⟩:=r.get q
   refine⟨x,?_,h2⟩
   unfold L2.start
   rw[cG (by simp;omega),iH,h1]
   rfl
 ·rw[hV (by simpa using hi),sP] at e
  split at e<;>cases e
section
variable {P:YB} {w:YE} {K:PySem.W.Frag} {mg:Str->Option YD} {base:Heap}
theorem xu{N:List Str}{qual:Str}{scope:Scope}{f:Yx}{cdv:YD}{A:Yy}{outer:List Env}{s s':YC}{H H':Hp}{E:XK}{σ:St}{c:PySem.Str}{e:YD}
  (r:xi (qP (CXJ P w) P w K mg base N qual scope f cdv A outer s H E) σ H' c e s')(h:∀C,ClsAt K c C->E (.ref C) none H'):(qP (CXJ P w) P w K mg base N qual scope f cdv A outer s H E).xe e s':=by
 obtain⟨C,pins,Hc,sc,hC,I,r⟩:=r
 rcases r with fl | ⟨rfl,a,args,rfl,ho,hg,M⟩
 ·exact u5 (X:=qP (CXJ P w) P w K mg base N qual scope f cdv A outer s H E) rfl rfl rfl I fl λs2 BV=>⟨H',C,BV,h C hC⟩
 ·exact xt (X:=qP (CXJ P w) P w K mg base N qual scope f cdv A outer s H E) rfl rfl rfl I ho hg M λs2 BV=>⟨H',C,BV,h C hC⟩
def Df(K:PySem.W.Frag)(f:Yx)(cdv:YD):Prop:=∃o,K.lookup f=some o/\∃fd,o.data= .func fd/\fd.code=cdv
theorem JZ{x qual:Str}{st:Stmt}{f:Yx}{fd:Yz}{N ps:List Str}{k:Nat}{g:GS}(F:LD K x qual st f fd)(S:FnScope N ps (defScope st))
  (body:∀(cdv:YD),Df K f cdv->∀(A:Yy)(outer:List Env)(s:YC)(H:Hp)(E:XK),eT k (A.deeper (envOfC qual (defScope st) s.heap.objs.size f cdv))->mV (qP (CXJ P w) P w K mg base N qual (defScope st) f cdv A outer s H E) (defBody st) g) :
  FnOk P w K mg base (CXJ P w) (k+1) f fd ps (spW K ps.length (kQ N.length g)):=by
 have hpl:ps.length<=N.length:=by have:=congrArg iG S.pre;rw[mT] at this;omega
 obtain⟨oc,od,kV,doc,pm,an,cdv,ct,osl,rfl,lk,hcd⟩:=F.ex
 refine OO lk hcd S (λvs H Q E h=>?_) λA outer s H vs Q E hr h=>?_
 ·obtain⟨m,st',ws,_,r,hl,_⟩:=h
  rw[<-r.length];exact hl
 ·obtain⟨m,st',ws,S',r,hl,p⟩:=h
  refine⟨_,gS,?_⟩
  refine body cdv ⟨_,lk,_,rfl,rfl⟩ A outer s H E hr _ st' _ H m _ S' (De r (by omega)) ?_
  unfold kQ at p
  cases e:g (ws.map some++aD (N.length - ws.length) none) st' with
  | nx ρ st2=>rw[e] at p;exact λσ m' H' e' S2 R2=>p _ m' H' e' S2 (by unfold af;rfl)
  | rt w' st2=>rw[e] at p;exact p
  | bk ρ st2=>rw[e] at p;exact aa p
  | ct ρ st2=>rw[e] at p;exact aa p
  | err c ρ st2=>rw[e] at p;exact λσ m' H' x s' e' S2 R2 rz=>xu rz λC hC=>p m' H' C e' S2 hC
  | bad=>rw[e] at p;exact aa p
end
def OnlyT(H:Hp):Prop:=∀b,H b=none\/(∃o xs,H b=some (.eS o (.lst xs)))\/H b=some (.lC #[])
theorem OnlyT.of{H:Hp}(h:GU H):OnlyT H:=λb=>by
 rcases h b with q | q
 ·exact .inl q
 ·exact .inr (.inl q)
theorem law_sp{K:PySem.W.Frag}{F:List Wv->Hs->Re Wv}(h:∀ns:List Int,ns.length<=63->∃st,F [.ref 0] [.tq ns]= .ok (.bl true) st)(H:Hp)(a:Yx)(ns:List Int)(hl:ns.length<=63)(hO:OnlyT H)(hS:iF K H a (ns.map V.int))(hT:tu K H) :
  spW K 1 F [.ref a] H (λv _=>v= .bl true) λ_ _ _=>False:=by
 obtain⟨st,e⟩:=h ns hl
 refine⟨[a],[.tq ns],[.ref 0],⟨rfl,λl b o h1 h2=>?_,λl l' b ws Yd _ _ h2 _ k _=>?_,hT⟩,ae.cons (by unfold af;exact⟨a,rfl,rfl⟩) ae.nil,rfl,?_⟩
 ·cases l with
  | zero=>
   simp at h1 h2
   subst h1 h2
   show uT K H a ns
   rcases hS with (q | ⟨o',q⟩) | q
   ·rcases hO a with z | ⟨o',xs,z⟩ | z
    ·rw[z] at q;cases q
    ·rw[z] at q;cases q
    ·rw[z] at q;cases q
   ·exact .inl ⟨o',q⟩
   ·exact .inr q
  | succ l=>simp at h1
 ·cases l with
  | zero=>simp at h2;subst h2;simp[Ob.mu] at k
  | succ l=>simp at h2
 ·rw[e]
  intro v m' H' _ _ r
  unfold af at r
  exact r
def tN(w:Wv)(st:Hs):Re Bool:=match w with
 | .ay=> .ok false st
 | .bl b=> .ok b st
 | .int i=> .ok (i != 0) st
 | .str y=>if y.length<=lim then .ok ((y.length:Int) != 0) st else .bad
 | .tup ws=> .ok (!ws.isEmpty) st
 | .pB _=> .bad
 | .ref l=>match aj st l with
  | some ws=> .ok (!ws.isEmpty) st
  | none=> .bad
 | .ty _=> .bad
 | .cls _=> .bad
 | .lO _=> .bad
 | .fn _ _=> .bad
def iu(g:GE):GT:=λρ st=>(g ρ st).bind tN
section
variable {X:Cx}
theorem Vt{m:Mp}{H:Hp}{ws:List Wv}{xs:List V}(r:ae X.K m H ws xs):(!ws.isEmpty)= !xs.isEmpty:=by
 have h:=r.length
 cases ws<;>cases xs<;>simp_all
theorem pI{e:Expr}{g:GE}(h:JE X e g)(he:∀whole,isTrue e X.env whole=(do let v <-whole;standAt e.pos;holding [v] (truthy v))):JT X e (iu g) :=
 JT.of (Cn aG he) λρ st σ H m Q S R p=>h.go S R (ao.bind p) λw st1 v m1 H1 p1 e1 S1 r1=>by
  cases w with
  | ay=>unfold af at r1;subst r1;exact⟨false,rfl,p1 m1 H1 e1 S1⟩
  | bl b=>unfold af at r1;subst r1;exact⟨b,rfl,p1 m1 H1 e1 S1⟩
  | int i=>unfold af at r1;subst r1;exact⟨_,rfl,p1 m1 H1 e1 S1⟩
  | str y=>
   obtain⟨rfl,_⟩:=eJ r1
   have p2:ik X σ m H (if y.length<=lim then .ok ((y.length:Int) != 0) st1 else .bad) Q:=p1
   by_cases c:y.length<=lim
   ·rw[if_pos c] at p2;exact⟨_,⟨ff c,rfl⟩,p2 m1 H1 e1 S1⟩
   ·rw[if_neg c] at p2;exact aa p2
  | pB ws=>exact aa p1
  | tup ws=>
   unfold af at r1
   obtain⟨a,xs,rfl,h1,h2⟩:=r1
   refine⟨!xs.isEmpty,.inr (.inl ⟨xs,eX.of h1,rfl⟩),?_⟩
   rw[<-Vt h2]
   exact p1 m1 H1 e1 S1
  | ref l=>
   unfold af at r1
   obtain⟨a,rfl,h1⟩:=r1
   have p2:ik X σ m H (match aj st1 l with | some ws=> .ok (!ws.isEmpty) st1 | none=> .bad) Q:=p1
   cases el:aj st1 l with
   | none=>rw[el] at p2;exact aa p2
   | some ws=>
    rw[el] at p2
    obtain⟨xs,hq,h2⟩:=S1.read h1 el
    refine⟨!xs.isEmpty,.inl ⟨xs,hq,rfl⟩,?_⟩
    rw[<-Vt h2]
    exact p2 m1 H1 e1 S1
  | ty T=>exact aa p1
  | cls T=>exact aa p1
  | lO T=>exact aa p1
  | fn fp T=>exact aa p1
theorem u7{p:Nat->Bool}{x:Array Nat}(hx:x.all p=true):∀(n:Nat)(a:Array Nat),a.all p=true->((aD n x).foldl (· ++·) a).all p=true
 | 0,a,h=>h
 | n+1,a,h=>by
  rw[gR,Cy]
  refine u7 hx n _ ?_
  rw[Array.all_append,h,hx]
  rfl
theorem AI{x:PySem.Str}{n:Nat}(h:aE x=true):aE (qX n x)=true:=by
 unfold aE at h ⊢
 unfold qX
 exact u7 h n #[] (by simp)
theorem rK{x:Array Nat}:∀(n:Nat)(a:Array Nat),((aD n x).foldl (· ++·) a).size=a.size+x.size * n
 | 0,a=>by simp
 | n+1,a=>by
  rw[gR,Cy,rK n,Array.size_append,Nat.mul_succ]
  omega
theorem Dg{x:PySem.Str}{n:Nat}:(qX n x).length=x.length * n:=by
 show((aD n x.cps).foldl (· ++·) #[]).size=x.cps.size * n
 rw[rK]
 simp
def nP(x:PySem.Str)(n:Int):Prop:=1 < n/\n<=100000/\x.length≠0/\x.length * n.toNat<=lim
instance {x n}:Decidable (nP x n):=by unfold nP;infer_instance
theorem Hv:fb X (YG .Mult) (λx y H Q=>∃z n,x= .str z/\y= .int n/\nP z n/\Q (.str (qX n.toNat z)) H):=by
 intro pins s σ H x y v u Q I rx ry h
 obtain⟨z,n,rfl,rfl,⟨h1,h2,h3,h4⟩,q⟩:=h
 obtain⟨t,rfl⟩:=rx
 obtain⟨t',rfl⟩:=ry
 have n1:¬n < 1:=by omega
 have hlen:z.length<=lim:=by
  refine aX ?_ h4
  exact Nat.le_mul_of_pos_right _ (by omega)
 have hne:(n == 1||z.length == 0)=false:=by
  have e1:(n == 1)=false:=by rw[beq_eq_false_iff_ne];omega
  have e2:(z.length == 0)=false:=by rw[beq_eq_false_iff_ne];exact h3
  rw[e1,e2];rfl
 have hl:PySem.Builtin.Str.tooLong (z.length * n.toNat)=false:=by
  unfold PySem.Builtin.Str.tooLong
  have q:=ff h4
  first
   | exact decide_eq_false (by omega)
   | simp only[decide_eq_false_iff_not];omega
 refine PySem.P.mul_str (by
   have e1:¬n < -(2 ^ 63:Int):=by omega
   have e2:¬n >= 2 ^ 63:=by omega
   rw[decide_eq_false e1,decide_eq_false e2];rfl) (λ_ _=>?_) (λ_ _=>hl) ?_
 ·have e:((2:Int) ^ 63 - 1) / 100000<=(2 ^ 63 - 1) / n:=by
   refine Int.le_ediv_of_mul_le (by omega) ?_
   have:((2:Int) ^ 63 - 1) / 100000 * n<=((2:Int) ^ 63 - 1) / 100000 * 100000:=Int.mul_le_mul_of_nonneg_left h2 (by decide)
   exact Int.le_trans this (by decide)
  have e':(1000000:Int)<=(2 ^ 63 - 1) / 100000:=by decide
  unfold lim at hlen
  omega
 ·rw[if_neg n1,if_neg (by rw[hne];exact cQ)]
  exact⟨by show(qX n.toNat z).length<=_;rw[Dg];exact ff h4,.str (qX n.toNat z),H,I.tok _,⟨_,rfl⟩,q⟩
def J0:gM
 | .int i,.int j,st=>if IntMulOk i j then .ok (.int (i * j)) st else .bad
 | .str z,.int n,st=>if nP z n then .ok (.str (qX n.toNat z)) st else .bad
 | _,_,_=> .bad
theorem Hw:jc X (YG .Mult) J0:=⟨_,fb.or Hd Hv,λx y a b st H m Q S rx ry p=>by
 cases x with
 | int i=>
  cases y with
  | int j=>
   cases aT rx;cases aT ry
   have p':dC X.K m H (if IntMulOk i j then .ok (.int (i * j)) st else .bad) Q:=p
   by_cases c:IntMulOk i j
   ·rw[if_pos c] at p';exact .inl ⟨i,j,rfl,rfl,c,p' _ m H Ext.refl S mkInt⟩
   ·rw[if_neg c] at p';exact aa p'
  | _=>exact aa p
 | str z=>
  cases y with
  | int n=>
   obtain⟨rfl,hz⟩:=eJ rx
   cases aT ry
   have p':dC X.K m H (if nP z n then .ok (.str (qX n.toNat z)) st else .bad) Q:=p
   by_cases c:nP z n
   ·rw[if_pos c] at p';exact .inr ⟨z,n,rfl,rfl,c,p' _ m H Ext.refl S (mkStr (AI hz))⟩
   ·rw[if_neg c] at p';exact aa p'
  | _=>exact aa p
 | _=>exact aa p⟩
def bC:GE:=λ_ _=> .bad
def jn:GT:=λ_ _=> .bad
theorem ax{e:Expr}:JE X e bC:=λρ st σ H m Q S R p=>aa p
theorem jo{e:Expr}:JT X e jn:=λρ st σ H m Q S R p=>aa p
end
def jq(P:YB)(w:YE)(K:PySem.W.Frag)(mg:Str->Option YD)(base:Heap)(k:Nat)(x:Str)(n:Nat)(F:List Wv->Hs->Re Wv):Prop :=
 ∃f fd ps,FnOk P w K mg base (CXJ P w) k f fd ps (spW K n F)/\mg x=some (.ref f)/\PySem.W.keepIn K (.ref f)=true/\Binds K fd ps []
theorem jq.mono{P:YB}{w:YE}{K:PySem.W.Frag}{mg:Str->Option YD}{base:Heap}{j k:Nat}{x:Str}{n:Nat}{F:List Wv->Hs->Re Wv}(h:jq P w K mg base j x n F)(l:j<=k):jq P w K mg base k x n F:=by
 obtain⟨f,fd,ps,G,r⟩:=h
 exact⟨f,fd,ps,G.mono l,r⟩
def dD(K:PySem.W.Frag)(x:Str)(st:Stmt):Prop:=∃f fd,PySem.W.nsIn K YN x=some (some (.ref f))/\LD K x x st f fd
theorem Mc{K:PySem.W.Frag}{x:Str}{st:Stmt}{f:Yx}{oc:YD}{od an:Option Yx}{osl:Array (Option YD)}{kV doc pm cdv ct:YD}(a:PySem.W.nsIn K YN x=some (some (.ref f)))
  (l:K.lookup f=some ⟨oc,od,.func (PySem.W.fnOf x x (defArgs st) (defBody st) (defScope st) .none kV doc pm an cdv ct),osl⟩)(c:PySem.W.codeIn K cdv x=true)(k:PySem.W.keepIn K (.ref f)=true):dD K x st:=⟨f,_,a,LG l c k⟩
theorem Dh:YH "isinstance"=some (.builtin "isinstance"):=by decide+kernel
theorem AJ:YH "abs"=some (.builtin "abs"):=by decide+kernel
theorem AK:YH "len"=some (.builtin "len"):=by decide+kernel
theorem u9:YH "int"=some (.type "int"):=by decide+kernel
theorem Di:YH "str"=some (.type "str"):=by decide+kernel
theorem Dj:YH "bool"=some (.type "bool"):=by decide+kernel
theorem u_:YH "tuple"=some (.type "tuple"):=by decide+kernel
theorem va:YH "list"=some (.type "list"):=by decide+kernel
def ja(i:Nat)(gb:GS):List Wv->a9->Hs->Rs
 | [],ρ,st=> .nx ρ st
 | w::r,ρ,st=>match gb (ρ.set i (some w)) st with
  | .nx ρ' st'=>ja i gb r ρ' st'
  | .ct ρ' st'=>ja i gb r ρ' st'
  | .bk ρ' st'=> .nx ρ' st'
  | .rt w st'=> .rt w st'
  | .err c ρ' st'=> .err c ρ' st'
  | .bad=> .bad
section
variable {X:Cx}
theorem pJ(i:Nat){body:List Stmt}{gb:GS}(hb:mV X body gb){J':It}{ws:List Wv}{m1:Mp}{H1:Hp}{st1:Hs}{ρ:a9}{σ:St}{D:Ends}(S1:aY X.K m1 st1 H1)(R:aq X.K m1 H1 ρ σ)(p1:aF X m1 H1 (ja i gb ws ρ st1) D)
  (hgo:∀(k:Nat)(H:Hp)(m':Mp),Ext X.K m1 H1 m' H->k < ws.length->J'.go k H)(hstop:∀(k:Nat)(H:Hp)(m':Mp),Ext X.K m1 H1 m' H->k=ws.length->J'.stop k H)
  (hy:∀(k:Nat)(hk:k < ws.length)(H:Hp)(x:V)(H':Hp)(m':Mp),Ext X.K m1 H1 m' H->J'.uD k H x H'->H'=H/\af X.K m' H ws[k] x) :
  ∃W:Nat->Nat->St->Hp->Prop,(∃m,W 0 m σ H1)/\∀k n σ H,W k n σ H->
   (J'.stop k H/\D.nx σ H)\/(J'.go k H/\∃N:St->Hp->Prop,(∀σ' H',N σ' H'->∃m',m' < n/\W (k+1) m' σ' H')/\∀x H',J'.uD k H x H'->uJ i x σ H' λσ2 H2=>Q6 X body { D with nx:=N,ct:=N,bk:=D.nx } σ2 H2):=by
 let Pv:Nat->St->Hp->Prop:=λk σ H=>∃ρ st m',Ext X.K m1 H1 m' H/\aY X.K m' st H/\aq X.K m' H ρ σ/\aF X m' H (ja i gb (ws.drop k) ρ st) D
 refine⟨λk n σ H=>n=ws.length - k/\k<=ws.length/\Pv k σ H,⟨ws.length,by simp,bZ _,ρ,st1,m1,Ext.refl,S1,R,p1⟩,?_⟩
 rintro k n σ2 H2 ⟨rfl,hk,ρ2,st2,m2,e2,S2,R2,p2⟩
 by_cases hlt:k < ws.length
 ·refine .inr ⟨hgo k H2 m2 e2 hlt,Pv (k+1),λσ' H' p'=>⟨ws.length - (k+1),by omega,rfl,hlt,p'⟩,λx H' y=>?_⟩
  obtain⟨ee,mY⟩:=hy k hlt H2 x H' m2 e2 y
  subst ee
  have ed:ws.drop k=ws[k]::ws.drop (k+1):=pK hlt
  rw[ed] at p2
  refine hb _ st2 _ _ m2 _ S2 (R2.set i mY) ?_
  unfold ja at p2
  cases eg:gb (ρ2.set i (some ws[k])) st2 with
  | nx ρ3 st3=>rw[eg] at p2;exact λσ3 m3 H3 e3 S3 R3=>⟨ρ3,st3,m3,e2.trans e3,S3,R3,aF.shift p2 e3⟩
  | ct ρ3 st3=>rw[eg] at p2;exact λσ3 m3 H3 e3 S3 R3=>⟨ρ3,st3,m3,e2.trans e3,S3,R3,aF.shift p2 e3⟩
  | bk ρ3 st3=>rw[eg] at p2;exact p2
  | rt w3 st3=>rw[eg] at p2;exact p2
  | err c3 ρ3 st3=>rw[eg] at p2;exact p2
  | bad=>rw[eg] at p2;exact p2
 ·have e:k=ws.length:=by omega
  subst e
  rw[pL] at p2
  exact .inl ⟨hstop _ H2 m2 e2 rfl,p2 σ2 m2 H2 Ext.refl S2 R2⟩
def SJ(K:PySem.W.Frag)(tl:TE):TI:=λσ H R=>tl σ H λx H1=>∃a,x= .ref a/\(((∃xs,iF K H1 a xs)/\R (Sf K a) H1)\/((∃xs,eX K H1 a xs)/\R (Vg K a) H1))
theorem Dk{tg l:Expr}{tl:TE}(hl:PE X l tl):PI X tg l (SJ X.K tl):=by
 intro pins s σ H R I h
 refine bg (hl pins s σ H _ I h) λv s1 ⟨x,H1,I1,r1,q1⟩=>?_
 obtain⟨a,e,q1⟩:=q1
 subst e
 cases r1
 have frs:∀b∈[s1.heap.objs.size],du X pins H1 b:=λb hb=>by
  have e:b=s1.heap.objs.size:=by simpa using hb
  subst e
  exact I1.oZ (ak _) (I1.hok.fresh (ak _))
 rcases q1 with ⟨⟨xs,hq⟩,q⟩ | ⟨⟨xs,hq⟩,q⟩
 ·obtain⟨its,rv,p,hz⟩:=I1.list hq
  refine wpAny_pyIter_list p.isList ?_
  exact⟨s1.heap.objs.size,[s1.heap.objs.size],_,_,H1,rfl,I1.kept (t':=s1.toks) λb o e=>aR _ e,rp a _,⟨_,cz _ rfl,rfl,rfl⟩,frs,q⟩
 ·obtain⟨its,rv,p,hz⟩:=I1.tuple hq
  refine wpAny_pyIter_tuple (show s1.heap.IsTuple a its.toArray from p) ?_
  exact⟨s1.heap.objs.size,[s1.heap.objs.size],_,_,H1,rfl,I1.kept (t':=s1.toks) λb o e=>aR _ e,wR a _,⟨_,cz _ rfl,rfl,rfl⟩,frs,q⟩
def n9(i:Nat)(gi:GE)(gb:GS):GS:=λρ st=>(gi ρ st).bg ρ λw st1=>match w with
 | .ref l=>(match aj st1 l with | some ws=>forL i gb l ws ws ρ st1 | none=> .bad)
 | .tup ws=>ja i gb ws ρ st1
 | .pB ws=>ja i gb ws ρ st1
 | _=> .bad
theorem Dl(i:Nat){x:Str}{iter:Expr}{body:List Stmt}{gi:GE}{gb:GS}{pos pos':Pos}(hN:X.N.Nodup)(hp:PassesOwn (model X.prog X.w) X.A X.env X.xe)(hc:X.calm=true)(hi:JE X iter gi)(hb:mV X body gb)
  (hx:X.N[i]? =some x)(hlo:Loc X.env.scope x)(SK:X.fn x=true\/X.env.scope.names.lookup x=some .local)
  (hs:∀x,YL iter X.env x=pure x):JS X (.For (.Name x pos') iter body [] pos) (n9 i gi gb):=by
 refine JS.of (sN hp hc (Dk aG) (sL hN hx hlo SK) gS hs) λρ st σ H m D S R p=>?_
 refine hi.go S R (aF.cO R p) λw st1 v m1 H1 p1 e1 S1 rw'=>?_
 cases w with
 | ref l=>
  have p1':aF X m H (match aj st1 l with | some ws=>forL i gb l ws ws ρ st1 | none=> .bad) D:=p1
  unfold af at rw'
  obtain⟨a,rfl,hla⟩:=rw'
  cases el:aj st1 l with
  | none=>rw[el] at p1';exact aa p1'
  | some ws=>
   rw[el] at p1'
   obtain⟨Dm,q0,_⟩:=S1.read hla el
   refine⟨a,rfl,.inl ⟨⟨Dm,q0⟩,?_⟩⟩
   let Pv:Nat->St->Hp->Prop:=λk σ H=>∃ρ st m',Ext X.K m1 H1 m' H/\aY X.K m' st H/\aq X.K m' H ρ σ/\aj st l=some ws/\aF X m' H (forL i gb l ws (ws.drop k) ρ st) D
   refine⟨λk n σ H=>n=ws.length - k/\k<=ws.length/\Pv k σ H,⟨ws.length,by simp,bZ _,ρ,st1,m1,Ext.refl,S1,R.mono e1,el,aF.shift p1' e1⟩,?_⟩
   rintro k n σ2 H2 ⟨rfl,hk,ρ2,st2,m2,e2,S2,R2,l2,p2⟩
   obtain⟨xs,hq,rws⟩:=S2.read (e2.pre _ _ hla) l2
   have hlen:=rws.length
   by_cases hlt:k < ws.length
   ·have hx':k < xs.length:=by omega
    refine .inr ⟨⟨xs,xs[k],hq,by simp[hx']⟩,Pv (k+1),λσ' H' p'=>⟨ws.length - (k+1),by omega,rfl,hlt,p'⟩,λx H' y=>?_⟩
    obtain⟨ee,y⟩:=y
    subst ee
    have ey:=y xs hq
    have ed:ws.drop k=ws[k]::ws.drop (k+1):=pK hlt
    obtain⟨x',ex',mY⟩:=rws.get (i:=k) (w:=ws[k]) (bX hlt)
    rw[ey] at ex'
    cases ex'
    rw[ed] at p2
    refine hb _ st2 _ _ m2 _ S2 (R2.set i mY) ?_
    unfold forL at p2
    cases eg:gb (ρ2.set i (some ws[k])) st2 with
    | nx ρ3 st3=>
     rw[eg] at p2
     by_cases c:aj st3 l=some ws
     ·simp only[if_pos c] at p2
      exact λσ3 m3 H3 e3 S3 R3=>⟨ρ3,st3,m3,e2.trans e3,S3,R3,c,aF.shift p2 e3⟩
     ·simp only[if_neg c] at p2;exact aa p2
    | ct ρ3 st3=>
     rw[eg] at p2
     by_cases c:aj st3 l=some ws
     ·simp only[if_pos c] at p2
      exact λσ3 m3 H3 e3 S3 R3=>⟨ρ3,st3,m3,e2.trans e3,S3,R3,c,aF.shift p2 e3⟩
     ·simp only[if_neg c] at p2;exact aa p2
    | bk ρ3 st3=>rw[eg] at p2;exact p2
    | rt w3 st3=>rw[eg] at p2;exact p2
    | err c3 ρ3 st3=>rw[eg] at p2;exact p2
    | bad=>rw[eg] at p2;exact p2
   ·have e:k=ws.length:=by omega
    subst e
    rw[pL] at p2
    exact .inl ⟨⟨xs,hq,by omega⟩,p2 σ2 m2 H2 Ext.refl S2 R2⟩
 | tup ws=>
  unfold af at rw'
  obtain⟨a,xs,rfl,hq,rws⟩:=rw'
  have hlen:=rws.length
  refine⟨a,rfl,.inr ⟨⟨xs,eX.of hq⟩,?_⟩⟩
  refine pJ i hb (ws:=ws) S1 (R.mono e1) (aF.shift p1 e1) (λk H m' e hk=>?_) (λk H m' e hk=>?_) λk hk H x H' m' e y=>?_
  ·have hx':k < xs.length:=by omega
   exact⟨xs,xs[k],eX.of (e.tup _ _ hq),by simp[hx']⟩
  ·exact⟨xs,eX.of (e.tup _ _ hq),by omega⟩
  ·obtain⟨ee,y⟩:=y
   refine⟨ee,?_⟩
   obtain⟨x',ex',mY⟩:=(ae.mono e _ _ rws).get (i:=k) (w:=ws[k]) (bX hk)
   rw[y xs (eX.of (e.tup _ _ hq))] at ex'
   cases ex'
   exact mY
 | pB ws=>
  unfold af at rw'
  obtain⟨a,xs,rfl,hq,rws⟩:=rw'
  have hlen:=rws.length
  refine⟨a,rfl,.inr ⟨⟨xs,.inr hq⟩,?_⟩⟩
  refine pJ i hb (ws:=ws) S1 (R.mono e1) (aF.shift p1 e1) (λk H m' e hk=>?_) (λk H m' e hk=>?_) λk hk H x H' m' e y=>?_
  ·have hx':k < xs.length:=by omega
   exact⟨xs,xs[k],.inr hq,by simp[hx']⟩
  ·exact⟨xs,.inr hq,by omega⟩
  ·obtain⟨ee,y⟩:=y
   refine⟨ee,?_⟩
   obtain⟨x',ex',mY⟩:=(ae.mono e _ _ rws).get (i:=k) (w:=ws[k]) (bX hk)
   rw[y xs (.inr hq)] at ex'
   cases ex'
   exact mY
 | _=>exact aa p1
def cn(lo:Int)(n:Nat):List Wv:=(dm n).map λk:Nat=>Wv.int (lo+k)
theorem AL{lo:Int}{n k:Nat}(h:k < n):(cn lo n)[k]? =some (.int (lo+k)):=by
 unfold cn
 rw[iH,List.getElem?_range h]
 rfl
theorem vb{lo:Int}{n k:Nat}(h:k < (cn lo n).length):(cn lo n)[k]= .int (lo+k):=by
 have q:=AL (lo:=lo) (n:=n) (k:=k) (by unfold cn at h;simpa using h)
 rw[bX h] at q
 exact Option.some.inj q
theorem de{lo:Int}{n:Nat}:(cn lo n).length=n:=by unfold cn;simp
def lT(i:Int):Prop:=-(2 ^ 62)<=i/\i < 2 ^ 62
instance {i}:Decidable (lT i):=Dp _
def tO(i:Nat)(ga:GA)(gb:GS):GS:=λρ st=>(ga ρ st).bg ρ λws st1=>match ws with
 | [.int j]=>if lT j then ja i gb (cn 0 j.toNat) ρ st1 else .bad
 | _=> .bad
theorem Hx(i:Nat){body:List Stmt}{gb:GS}(hb:mV X body gb){lo:Int}{n:Nat}{m1:Mp}{H1:Hp}{st1:Hs}{ρ:a9}{σ:St}{D:Ends}(S1:aY X.K m1 st1 H1)(R:aq X.K m1 H1 ρ σ)(p1:aF X m1 H1 (ja i gb (cn lo n) ρ st1) D) :
  ∃W:Nat->Nat->St->Hp->Prop,(∃m,W 0 m σ H1)/\∀k n' σ H,W k n' σ H->
   ((K9 lo n).stop k H/\D.nx σ H)\/((K9 lo n).go k H/\∃N:St->Hp->Prop,(∀σ' H',N σ' H'->∃m',m' < n'/\W (k+1) m' σ' H')/\∀x H',(K9 lo n).uD k H x H'->uJ i x σ H' λσ2 H2=>Q6 X body { D with nx:=N,ct:=N,bk:=D.nx } σ2 H2) :=
 pJ i hb S1 R p1 (λk H m' e hk=>by rw[de] at hk;exact hk) (λk H m' e hk=>by rw[de] at hk;exact lJ hk.symm) λk hk H x H' m' e y=>by
  obtain⟨y1,y2⟩:=y
  refine⟨y1,?_⟩
  rw[vb,y2]
  exact mkInt
theorem Dq(i:Nat){x:Str}{a:Expr}{body:List Stmt}{ga:GA}{gb:GS}{pos pos' p q:Pos}(hN:X.N.Nodup)(hp:PassesOwn (model X.prog X.w) X.A X.env X.xe)(hc:X.calm=true)(hg:Gl X "range")(hm:X.mg "range"=none)(ha:JA X [a] ga)(hb:mV X body gb)
  (hx:X.N[i]? =some x)(hlo:Loc X.env.scope x)(SK:X.fn x=true\/X.env.scope.names.lookup x=some .local)(hst:YQ [a] X.env=[(false,eval a X.env)]):JS X (.For (.Name x pos') (.Call (.Name "range" p) [a] [] q) body [] pos) (tO i ga gb):=by
 refine JS.of (sN hp hc (rA hg hm i0 hst) (sL hN hx hlo SK) gS (λ_=>rfl)) λρ st σ H m D S R p=>?_
 refine ha.go S R (aF.cO R p) λws st1 vs m1 H1 p1 e1 S1 rs=>?_
 match ws,rs,p1 with
 | [],rs,p1=>exact aa p1
 | x::y::t,rs,p1=>cases x<;>exact aa p1
 | [x],rs,p1=>
  obtain⟨v,rfl,r1⟩:=i_ rs
  cases x with
  | int j=>
   cases aT r1
   have p2:aF X m H (if lT j then ja i gb (cn 0 j.toNat) ρ st1 else .bad) D:=p1
   by_cases c:lT j
   ·rw[if_pos c] at p2
    exact⟨j,rfl,c.1,c.2,Hx i hb S1 (R.mono e1) (aF.shift p2 e1)⟩
   ·rw[if_neg c] at p2;exact aa p2
  | _=>exact aa p1
theorem Hy{pos:Pos}:JS X (.Return none pos) (cb (gC .ay)):=JS.of Gv λρ st σ H m D S R p=>p .ay m H Ext.refl S JR
end
abbrev AM:List YD:=[.type "ValueError",.type "Exception",.type "BaseException",.type "object"]
abbrev AN:String:="ValueError.__new__"
structure Hz(K:PySem.W.Frag)(c:PySem.Str)(C:Yx):Prop where
 cls:ClsAt K c C
 exc:PySem.W.excIn K C AM AN=true
theorem iK{K:PySem.W.Frag}{h:Heap}{C:Yx}(KX:K.In h)(q:PySem.W.excIn K C AM AN=true) :
  ∃(bm:List YD)(N:Yx)(nm qn:Str)(bs:List YD)(hd:Bool)(sn:List Str)(sub:List YD)(ab:Bool)(col:Option Bool)(dd:Option Yx)(k0 k1 k2 k3 k5:Option YD)(mN:Str->Option YD),
   h.get? C=some (excClassObj nm qn C N bs bm hd sn sub ab col dd k0 k1 k2 k3 k5 AN)/\h.Ns N mN/\mN "__init__"=none/\OwnTail h AM bm/\(∀v r,PySem.W.mroIn K C v=some r->(bb C::bm).contains v=r):=by
 unfold PySem.W.excIn at q
 split at q
 ·rename_i dd cd sl lk
  split at q
  ·rename_i C1 bm k0 k1 k2 k3 n1 k5 em es
   simp only[cL,beq_iff_eq,Bool.not_eq_true'] at q
   obtain⟨⟨⟨⟨⟨q1,q2⟩,q3⟩,q4⟩,q5⟩,q6⟩:=q
   subst q1 q2
   obtain⟨nm,bs,mro,N,qn,hd,sn,sub,ab,col,del⟩:=cd
   dsimp only at em q3 q5 q6
   subst em q3
   have WL:sl=#[k0,k1,k2,k3,some (.builtin AN),k5]:=by
    cases sl with
    | mk l=>exact congrArg Array.mk es
   subst WL
   refine⟨bm,N,nm,qn,bs,hd,sn,sub,ab,col,dd,k0,k1,k2,k3,k5,_,KX _ _ lk,.of_isNs (PySem.W.isNs_of_in KX q5),PySem.W.nsMap_none_of_in KX q5 q6,PySem.W.tail_of_in KX q4,λv r e=>?_⟩
   unfold PySem.W.mroIn PySem.W.clsIn at e
   rw[lk] at e
   first
    | exact Option.some.inj e
    | (simp at e;exact e)
  ·cases q
 ·cases q
section
variable {X:Cx}
def tP(c:PySem.Str)(ga:GA):GS:=λρ st=>(ga ρ st).bg ρ λws st1=>if ws.length<=lim then .err c ρ st1 else .bad
theorem Dr{c:Str}{C:Yx}{e:Expr}{es:List Expr}{ga:GA}{np cpos pos:Pos}(hc:X.calm=true)(O:Hz X.K c C)(hg:Gl X c)(hm:X.mg c=some (.ref C))(ha:JA X (e::es) ga)(hd:(c == ("__debug__":Str))=false)
  (he:YQ (e::es) X.env=(false,eval e X.env)::YQ es X.env)(hpl:(backTo cpos (YQ es X.env)).any (·.1)=false):JS X (.Raise (some (.Call (.Name c np) (e::es) [] cpos)) none pos) (tP c ga):=by
 intro ρ st σ H m D S R p pins s I
 have args:=ha.go (T:=λvs H1=>∃ws st1 m1,aF X m H (if ws.length<=lim then .err c ρ st1 else .bad) D/\Ext X.K m H m1 H1/\aY X.K m1 st1 H1/\ae X.K m1 H1 ws vs) S R (aF.cO R p)
  λws st1 vs m1 H1 p1 e1 S1 rs=>⟨ws,st1,m1,p1,e1,S1,rs⟩
 obtain⟨bm,N,nm,qn,bs,N7,sn,sub,ab,col,dd,k0,k1,k2,k3,k5,mN,hC,hN,hni,T,_⟩:=iK I.ok.mod.B6 O.exc
 refine wpAny_Raise_call_subU (C:=C) (nm:=nm) (q:=qn) (N:=N) (bs:=bs) (bm:=bm) (hdct:=N7) (sn:=sn) (sub:=sub) (ab:=ab) (col:=col) (dd:=dd) (k0:=k0) (k1:=k1) (k2:=k2) (k3:=k3) (k5:=k5) (bmB:=AM)
  F.excBase_ValueError (by decide) F.excBase_ValueError (mN:=mN) (T.hasType F.excBase_ValueError.hasBase) (I.ok.hd hc) ?_ hni (lE I hg hm ⟨rfl,?_⟩ hd)
 ·rw[he]
  show(false||(backTo cpos (YQ es X.env)).any (·.1))=false
  rw[hpl]
  rfl
 ·have go:=args cpos pins s I
  rw[he] at go ⊢
  refine xb (bg go λus s1 ⟨vs,H1,I1,r,ws,st1,m1,p1,e1,S1,rs⟩=>?_)
  by_cases cl:ws.length<=lim
  ·rw[if_pos cl] at p1
   refine⟨rfl,by rw[<-r.length,<-rs.length];exact ff cl,I1.bk _ _ hC,hN.keeps I1.bk,T.keeps I1.bk,λh2 a M=>?_⟩
   exact p1 σ m1 H1 _ _ e1 S1 (R.mono e1) ⟨C,pins,H1,s1,O.cls,I1,.inr ⟨rfl,a,us,rfl,rfl,rfl,M⟩⟩
  ·rw[if_neg cl] at p1;exact aa p1
end
structure lU(K:PySem.W.Frag)(C:Yx):Prop where
 exc:PySem.W.excIn K C AM AN=true
 ga:PySem.W.findIn K (.ref C) "__getattribute__"=some (some (.builtin "BaseException.__getattribute__"))
 gx:PySem.W.findIn K (.ref C) "__getattr__"=some none
 cl:PySem.W.findIn K (.ref C) "__class__"=some (some (.builtin "object.__class__"))
section
variable {prog:YB} {w:YE} {A:Yy} {E:YD->YC->Prop} {h:Heap} {g:Array GenState} {d:Drawn} {t:Nat} {os:OsState} {a C:Yx} {o:Obj} {K:PySem.W.Frag}
theorem Md{R:Result->YC->Prop}(Y:K.In h)(Z:lU K C)(ha:h.get? a=some o)(hc:o.cls= .ref C)(k:R (.ok (.ret (.ref C))) ⟨h,g,d,t,os⟩) :
  YI (model prog w) A (.call (.builtin "getset_descriptor.__get__") ⟨[.builtin "object.__class__",.ref a,.ref C],[]⟩) R ⟨h,g,d,t,os⟩:=by
 obtain⟨bm,N,nm,qn,bs,N7,sn,sub,ab,col,dd,k0,k1,k2,k3,k5,mN,hC,hN,hni,T,_⟩:=iK Y Z.exc
 have ty:(⟨h,g,d,t,os⟩:YC).TypeIs (.builtin "object.__class__") "getset_descriptor":=Ds
 have own:(bb C::bm).contains (.type (".".intercalate ("object.__class__".cutAt '.').dropLast))=true:=by
  rw[F.owner_object_class,xv,T.hasType (X:="object") (b:=true) (by decide)];rfl
 refine codeAny_call_builtin F.slot_gs_get.plain F.entry_gs_get (F.slot_gs_get.check _ _ _ _ _ _ _ _ ty (F.args_gs_get _ _ _) ?_)
 repeat (any_goals (first | assumption | (with_reducible refine wpAny_loadPart_at ha ?_;rw[hc]) | (with_reducible refine wpAny_isSubtype_exc hC ?_;rw[own]) | wp_step))
 refine⟨Code.quiet_builtin _ (by decide+kernel),codeAny_builtin F.entry_object_class ?_⟩
 repeat (any_goals (first | assumption | (with_reducible refine wpAny_loadPart_at ha ?_;rw[hc]) | wp_step))
theorem Dt{tk:Tok}{Q:Fin->YC->Prop}(Y:K.In h)(Z:lU K C)(ha:h.get? a=some o)(hc:o.cls= .ref C)(k:Q (.done (.ret (.ref C))) ⟨h,g,d,t,os⟩) :
  YR (model prog w) A (Builtin.«object.__getattribute__» ⟨[.ref a,.str "__class__" tk],[]⟩) Q E ⟨h,g,d,t,os⟩:=by
 have ty:(⟨h,g,d,t,os⟩:YC).TypeIs (.builtin "object.__class__") "getset_descriptor":=Ds
 have t1:=Ds
 have t2:=F.slot_gs_get.lookup
 have t3:=F.slot_gs_set.lookup
 have L:=PySem.W.looks_findIn (M:=model prog w) Y Z.cl
 repeat (any_goals (first | assumption | (with_reducible refine wpAny_loadPart_at ha ?_;rw[hc]) | with_reducible refine L.at ?_ | wp_step))
 refine Md Y Z ha hc ?_
 repeat (any_goals (first | assumption | wp_step))
theorem Du{M:Model}{nv:YD}{Q:Unit->YC->Prop}(Y:K.In h)(Z:lU K C)(ha:h.get? a=some o)(hc:o.cls= .ref C)(k:Q () ⟨h,g,d,t,os⟩) :
  YR M A (checkBuiltinCall "BaseException.__getattribute__" ⟨[.ref a,nv],[]⟩) Q E ⟨h,g,d,t,os⟩:=by
 obtain⟨bm,N,nm,qn,bs,N7,sn,sub,ab,col,dd,k0,k1,k2,k3,k5,mN,hC,hN,hni,T,_⟩:=iK Y Z.exc
 have u1:builtinKind "BaseException.__getattribute__"=some .slot:=by decide+kernel
 have u2:splitId "BaseException.__getattribute__"=some ("BaseException","__getattribute__"):=by decide+kernel
 have u3:(bb C::bm).contains (.type "BaseException")=true:=by rw[xv,T.hasType (X:="BaseException") (b:=true) (by decide)];rfl
 have u4:=F.args_bexc_ga (.ref a) nv
 simp only[checkBuiltinCall,u1,u2]
 refine YS ?_
 unfold isInstance
 repeat (first | (with_reducible refine wpAny_loadPart_at ha ?_;rw[hc]) | (with_reducible refine wpAny_isSubtype_exc hC ?_;rw[u3]) | wp_step)
 exact k
theorem Px{tk:Tok}{Q:YD->YC->Prop}(Y:K.In h)(Z:lU K C)(ha:h.get? a=some o)(hc:o.cls= .ref C)(k:Q (.ref C) ⟨h,g,d,t,os⟩) :
  YR (model prog w) A (getAttrBy (.ref a) (.str "__class__" tk) false) Q E ⟨h,g,d,t,os⟩:=by
 have v1:=F.excAttr_ValueError.ga.bind (.ref a)
 have v2:(lV "BaseException.__getattribute__" == lV "object.__getattribute__")=false:=by decide+kernel
 have v3:(onTheHeap (bb C)&&lV "BaseException.__getattribute__" == lV "object.__getattribute__")=false:=by rw[v2];rfl
 have v4:(false&&onTheHeap (lV "BaseException.__getattribute__"))=false:=rfl
 have L1:=PySem.W.looks_findIn (M:=model prog w) Y Z.ga
 have L2:=PySem.W.looks_findIn (M:=model prog w) Y Z.gx
 repeat (any_goals (first | assumption | (with_reducible refine wpAny_loadPart_at ha ?_;rw[hc]) | with_reducible refine L1.at ?_ | with_reducible refine L2.at ?_ | wp_step))
 refine codeAny_call_builtin F.excAttr_ValueError.ga.plain F.entry_bexc_ga (Du Y Z ha hc (Dt Y Z ha hc ?_))
 repeat (any_goals (first | assumption | wp_step))
theorem HB{Q:Option YD->YC->Prop}(Y:K.In h)(Z:lU K C)(ha:h.get? a=some o)(hc:o.cls= .ref C)(k:Q (some (.ref C)) ⟨h,g,d,t+1,os⟩) :
  YR (model prog w) A (getAttr? (.ref a) "__class__") Q E ⟨h,g,d,t,os⟩:=by
 unfold getAttr? getAttrBy?
 repeat (any_goals (first | assumption | with_reducible apply Px Y Z ha hc | wp_step))
end
structure SN(X:Cx):Prop where
 st:X.stack=X.env::X.outer
 fr:X.env.frame=some X.env.locals
 ex:X.ex=[]
theorem AO{P:YB}{w:YE}{H:Hp}{h:Heap}{a:Yx}{o:HO}(x:cK P w H h a o):∃u,h.get? a=some u:=by
 cases o with
 | lst xs=>obtain⟨_,_,_,_,e⟩:=x;exact⟨_,e⟩
 | tup xs=>obtain⟨_,_,_,⟨ob,e,_⟩,_⟩:=x;exact⟨_,e⟩
 | dK kvs=>obtain⟨_,_,_,_,ob,_,_,e,_⟩:=x;exact⟨_,e⟩
 | dT kvs=>obtain⟨_,_,_,_,ob,_,_,e,_⟩:=x;exact⟨_,e⟩
 | set S n=>obtain⟨ob,_,_,_,e,_⟩:=x;exact⟨_,e⟩
 | ins C dx fs=>obtain⟨_,_,_,e,_⟩:=x;exact⟨_,e⟩
 | own y=>exact x
 | xd fs=>obtain⟨_,⟨_,_,_,e,_⟩,_⟩:=x;exact⟨_,e⟩
 | QT lo hi=>obtain⟨_,_,_,e⟩:=x;exact⟨_,e⟩
 | eS ob u=>obtain⟨e,_⟩:=x;exact⟨_,e⟩
 | lC ps=>exact⟨_,x⟩
 | met f y=>exact⟨_,x⟩
 | ext φ=>exact x.2.1
def Me(X:Cx)(a:Yx):Prop:=X.s₀.heap.get? a=none/\(∀xs,X.H₀ a≠some (.tup xs))/\(∀o u,X.H₀ a≠some (.eS o u))/\∀ps,X.H₀ a≠some (.lC ps)
def AQ(o:Obj):Prop:=∃vs,o.data= .fields vs/\vs[2]? =some bo
section
variable {X:Cx} {pins:List (Yx×Obj)} {σ:St} {Hc H':Hp} {sc s':YC} {B h2:Heap} {a C:Yx} {a0:YD} {ch:List Yx}
theorem jU(I:Inv X pins σ Hc sc)(os:s'.os=sc.os)(bare:AllBare s'.gens)(hch:∀b∈ch,du X pins Hc b)(un:Un (frs X.stack) ch Hc H' sc.heap s'.heap)(hok:iY X.prog X.w H' B)(fl:tm B X.stack a (.ref C) a0 h2)(up:s'.heap.UpToSlots h2)
  (uW:∀b o,sc.heap.get? b=some o->b∉frs X.stack->b∉ch->∃o',B.get? b=some o'/\(Hc b=none->o'=o)){tk:Nat} :
  (∃o,AQ o/\Inv X pins σ (upd H' a (.eS o (.ext (jh a C)))) { s' with heap:=h2,toks:=tk })/\H' a=none/\(X.ex=[]->Me X a):=by
 have stay:=fl.1
 obtain⟨oe,vs,Q8,hcl,hda,WM⟩:=fl.first
 have WN:jh a C h2:=⟨oe,Q8,hcl,vs,hda⟩
 have ha:H' a=none:=by
  cases q:H' a with
  | none=>rfl
  | some u=>
   obtain⟨z,e⟩:=AO (hok a u q)
   rw[fl.2.1] at e
   cases e
 have WO:a∉frs X.stack:=λz=>by
  obtain⟨_,o1,e1,d1⟩:=fl.2.2.1.mem z
  rw[Q8] at e1
  cases e1
  exact d1 vs hda
 have KJ:∀b∈frs X.stack,b∉ch:=λb hb z=>by
  rcases List.mem_cons.mp (I.jd b hb) with q | q
  ·exact(hch b z).2.1 q
  ·exact(hch b z).2.2.1 q
 have new:a∉ch->∀o,sc.heap.get? a≠some o:=λhx o e=>by
  obtain⟨o1,e1,_⟩:=uW a o e WO hx
  rw[fl.2.1] at e1
  cases e1
 have ne:∀b u,H' b=some u->b≠a:=λb u e=>bp e ha
 have sl:∀b o,sc.heap.get? b=some o->Hc b=none->b∈frs X.stack->∃sl,h2.get? b=some { o with slots:=sl }:=λb o e n hb=>by
  obtain⟨s1,e1⟩:=un.slot b o e n hb (KJ b hb)
  obtain⟨_,o1,e2,d1⟩:=I.stack.mem hb
  rw[e] at e2
  cases e2
  obtain⟨s2,e3⟩:=up b _ e1 d1
  exact⟨s2,e3⟩
 refine⟨⟨oe,⟨vs,hda,WM⟩,?_⟩,ha,λhex=>?_⟩
 rotate_left
 ·refine⟨?_,λxs q=>?_,λo u q=>?_,λps q=>?_⟩
  rotate_left
  ·have z:=un.tups _ _ (I.base.tups _ _ q)
   rw[ha] at z;cases z
  ·have z:=un.i8 _ _ _ (I.base.i8 _ _ _ q)
   rw[ha] at z;cases z
  ·obtain⟨_,z⟩:=I.base.ky _ _ q
   obtain⟨_,z⟩:=un.ky _ _ z
   rw[ha] at z;cases z
  cases q:X.s₀.heap.get? a with
  | none=>rfl
  | some o0=>
   obtain⟨o1,q1⟩:=I.base.there a o0 q (by rw[hex];simp)
   refine absurd q1 (new (λz=>?_) o1)
   rcases(hch a z).2.2.2.1 with y | y
   ·rw[hex] at y;cases y
   ·exact absurd (bK (aL q) y) (fq _)
 refine I.rn (s':={ s' with heap:=h2,toks:=tk }) (ch:=ch) os ?_ ?_ bare (λb z=>⟨(hch b z).2.2.2.1,(hch b z).2.1,(hch b z).2.2.2.2.1,(hch b z).2.2.2.2.2⟩)
 ·refine⟨λb o e n hb hx=>?_,λb o e n hb _=>sl b o e n hb,λb o e n hx=>?_,λb o e hx=>?_,λb xs h=>?_,λb o u h=>?_,λb ps h=>?_⟩
  ·obtain⟨o1,e1,e2⟩:=uW b o e hb hx
   rw[e2 n] at e1
   exact stay b o e1
  ·have ba:b≠a:=λz=>by subst z;exact new hx o e
   rw[ar ba]
   exact un.free b o e n hx
  ·by_cases hb:b∈frs X.stack
   ·obtain⟨s2,e2⟩:=sl b o e (I.jP b hb) hb
    exact⟨_,e2⟩
   ·obtain⟨o1,e1,_⟩:=uW b o e hb hx
    exact⟨o1,stay b o1 e1⟩
  ·have q:=un.tups b xs h
   rw[ar (ne b _ q)]
   exact q
  ·have q:=un.i8 b o u h
   rw[ar (ne b _ q)]
   exact q
  ·obtain⟨m1,q⟩:=un.ky b ps h
   refine⟨m1,?_⟩
   rw[ar (ne b _ q)]
   exact q
 ·intro b u e
  by_cases hb:b=a
  ·subst hb
   rw[aC] at e
   cases e
   exact⟨Q8,WN,⟨oe,Q8⟩,λh3 h4 p k=>let ⟨o1,q1,q2,q3⟩:=p;⟨o1,k o1 q1,q2,q3⟩⟩
  ·rw[ar hb] at e
   exact(hok b u e).stay (λc v _ q=>stay c v q) (λc q=>by rw[ar (ne c _ q)];exact q) λc xs q=>by rw[ar (ne c _ q)];exact q
end
theorem AR{M:Model}{A:Yy}{E:YD->YC->Prop}{s:YC}{K:PySem.W.Frag}{a C D:Yx}{o:Obj}{b:Bool}{Q:Bool->YC->Prop}(Y:K.In s.heap)(ZC:PySem.W.excIn K C AM AN=true)(ZD:PySem.W.excIn K D AM AN=true)
  (hm:PySem.W.mroIn K C (.ref D)=some b)(ha:s.heap.get? a=some o)(hc:o.cls= .ref C)(k:Q b s):YR M A (excMatches (.ref a) (.ref D)) Q E s:=by
 obtain⟨h,g,d,t,os⟩:=s
 obtain⟨bm,N,nm,qn,bs,N7,sn,sub,ab,col,dd,k0,k1,k2,k3,k5,mN,hC,hN,hni,T,mr⟩:=iK Y ZC
 obtain⟨bm',N',Ye,Yf,bs',WQ,sn',sub',Yg,col',GW,Yh,Yi,Yj,Yk,Yl,Ym,hD,Yn,WR,T',Yo⟩:=iK Y ZD
 have e1:(bb C::bm).contains (.ref D)=b:=mr _ _ hm
 have e2:(bb D::bm').contains (.type "BaseException")=true:=by rw[xv,T'.hasType (X:="BaseException") (b:=true) (by decide)];rfl
 have f:=tc_notTuple
 unfold excMatches
 repeat (first | (with_reducible refine wpAny_loadPart_at ha ?_;rw[hc]) | with_reducible refine wpAny_loadPart_at hD ?_ | (with_reducible refine wpAny_isSubtype_exc hD ?_;rw[e2]) | (with_reducible refine wpAny_isSubtype_exc hC ?_;rw[e1]) | wp_step)
 cases b<;>(wp_walk;exact k)
theorem vc{K:PySem.W.Frag}{a C:Yx}(Z:lU K C):PySem.W.KitX K (.ref a) (.ref C) (jh a C) where
 ty:=λM h _ p=>by
  obtain⟨o,h1,h2,_⟩:=p
  rw[<-h2]
  exact(PySem.W.Looks.ld h1).andThen .now
 it:=λM h Y _=>by
  obtain⟨bm,N,nm,qn,bs,N7,sn,sub,ab,col,dd,k0,k1,k2,k3,k5,mN,hC,_⟩:=iK Y Z.exc
  intro A' Q' E' s' k q
  unfold isType loadHead
  exact YS (wpAny_loadPart (k _ _ hC) (YY q))
 ne:=λh tp dd its n sl Y e=>by
  obtain⟨bm,N,nm,qn,bs,N7,sn,sub,ab,col,GW,k0,k1,k2,k3,k5,mN,hC,_⟩:=iK Y Z.exc
  refine Bool.eq_false_iff.mpr λq=>?_
  have z:C=tp:=Value.ref.inj (beq_iff_eq.mp q)
  subst z
  rw[hC] at e
  have z2:oj "type"=oj "tuple":=congrArg Obj.cls (Option.some.inj e)
  exact absurd z2 (by decide)
 ca:=λ{prog w A E Q s} Y p k=>by
  obtain⟨o,h1,h2,_⟩:=p
  obtain⟨h,g,d,t,os⟩:=s
  exact HB Y Z h1 h2 k
abbrev Tab:=List ((PySem.Str×PySem.Str)×Bool)
abbrev ve:=List ((PySem.Str×String)×Bool)
structure TabOk(K:PySem.W.Frag)(tb:Tab)(tt:ve)(tc:Tab):Prop where
 own:∀c d b C D,tb.lookup (c,d)=some b->ClsAt K c C->ClsAt K d D->lU K C/\PySem.W.kitOne K (.ref C) (.ref D)=some b
 cat:∀c d b C D,tc.lookup (c,d)=some b->ClsAt K c C->ClsAt K d D->PySem.W.excIn K C AM AN=true/\PySem.W.excIn K D AM AN=true/\PySem.W.mroIn K C (.ref D)=some b
 typ:∀c T b C,tt.lookup (c,T)=some b->ClsAt K c C->lU K C/\PySem.W.kitOne K (.ref C) (.type T)=some b
def mZ(tb:Tab)(c:PySem.Str):List Wv->Option Bool
 | []=>some false
 | .cls d::r=>(match tb.lookup (c,d) with
  | some true=>some true
  | some false=>mZ tb c r
  | none=>none)
 | _=>none
theorem rL{K:PySem.W.Frag}{m:Mp}{H:Hp}{tb:Tab}{tt:ve}{tc:Tab}(O:TabOk K tb tt tc){c:PySem.Str}{C:Yx}(hC:ClsAt K c C):∀{ds:List Wv}{vs:List V}{its:List YD}{b:Bool},ae K m H ds vs->Vals vs its->mZ tb c ds=some b->PySem.W.kitAny K (.ref C) its=some b
 | [],vs,its,b,r,v,e=>by
  unfold ae at r
  subst r
  cases v
  cases e
  rfl
 | w::ds,vs,its,b,r,v,e=>by
  unfold ae at r
  obtain⟨x,t,rfl,r1,r2⟩:=r
  cases v with
  | cons h1 h2=>
   cases w with
   | cls d=>
    unfold af at r1
    obtain⟨D,rfl,hD⟩:=r1
    cases h1
    unfold mZ at e
    unfold PySem.W.kitAny
    cases q:tb.lookup (c,d) with
    | none=>rw[q] at e;cases e
    | some k=>
     rw[q] at e
     obtain⟨_,z3⟩:=O.own c d k C D q hC hD
     rw[z3]
     cases k with
     | true=>cases e;rfl
     | false=>exact rL O hC r2 h2 e
   | _=>cases e
def jr(tb:Tab)(tt:ve):List Wv->Hs->Re Wv
 | [.lO c,.cls d],st=>(match tb.lookup (c,d) with | some b=> .ok (.bl b) st | none=> .bad)
 | [.lO c,.ty T],st=>(match tt.lookup (c,T) with | some b=> .ok (.bl b) st | none=> .bad)
 | [.lO c,.tup (.cls d::ds)],st=>(match mZ tb c (.cls d::ds) with | some b=> .ok (.bl b) st | none=> .bad)
 | ws,st=>L9 ws st
section
variable {X:Cx}
theorem Dv:c9 X (.builtin "isinstance") (λvs H Q=>∃a C v c b,vs=[.ref a,v]/\Q5 a C (H a)/\lU X.K C/\RelV v c/\PySem.W.kitOne X.K (.ref C) c=some b/\Q (.bl b) H):=by
 intro pins s σ H xs us Q I r h
 obtain⟨a,C,v,c,b,rfl,ha,Z,rc,e,q⟩:=h
 obtain⟨u,u',rfl,r1,r2⟩:=vals2 r
 cases r1
 have uc:u'=c:=by
  cases v with
  | int i=>obtain⟨t,rfl⟩:=rc;cases e
  | str i=>obtain⟨t,rfl⟩:=rc;cases e
  | NY i=>obtain⟨t,rfl⟩:=rc;cases e
  | Jx i=>obtain⟨t,rfl⟩:=rc;cases e
  | ay=>cases rc;cases r2;rfl
  | bl i=>cases rc;cases r2;rfl
  | ref i=>cases rc;cases r2;rfl
  | ty i=>cases rc;cases r2;rfl
 subst uc
 exact PySem.W.kia_one (vc Z) I.wN (JH I.hok ha) e (by intro z;cases z) λtk=>⟨.bl b,H,I.tok tk,rfl,q⟩
theorem AS:c9 X (.builtin "isinstance") (λvs H Q=>∃a C p xs b,vs=[.ref a,.ref p]/\Q5 a C (H a)/\lU X.K C/\eX X.K H p xs/\(∀its,Vals xs its->PySem.W.kitAny X.K (.ref C) its=some b)/\Q (.bl b) H):=by
 intro pins s σ H xs us Q I r h
 obtain⟨a,C,p,ys,b,rfl,ha,Z,hT,e,q⟩:=h
 obtain⟨u,u',rfl,r1,r2⟩:=vals2 r
 cases r1
 cases r2
 obtain⟨its,rv,⟨o,g1,g2,n,g3⟩,z⟩:=I.tuple hT
 obtain⟨oc,od,Yp,osl⟩:=o
 cases g2
 cases g3
 exact PySem.W.kia_tup (vc Z) I.wN (JH I.hok ha) g1 (e its rv) (by intro z;cases z) λtk=>⟨.bl b,H,I.tok tk,rfl,q⟩
theorem Mf{tb:Tab}{tt:ve}{tc:Tab}(O:TabOk X.K tb tt tc):cA X (.builtin "isinstance") (jr tb tt):=by
 obtain⟨r,h1,h2⟩:=L_ (X:=X)
 refine⟨_,Dv.or (AS.or h1),λws vs st H m Q S rs p=>?_⟩
 unfold jr at p
 split at p
 ·rename_i _ c d
  cases e:tb.lookup (c,d) with
  | none=>rw[e] at p;exact aa p
  | some b=>
   rw[e] at p
   obtain⟨v,v',rfl,r1,r2⟩:=AG rs
   unfold af at r1 r2
   obtain⟨a,C,rfl,hC,ha⟩:=r1
   obtain⟨D,rfl,hD⟩:=r2
   obtain⟨z1,z3⟩:=O.own c d b C D e hC hD
   exact .inl ⟨a,C,.ref D,.ref D,b,rfl,ha,z1,rfl,z3,p _ m H Ext.refl S iq⟩
 ·rename_i _ c T
  cases e:tt.lookup (c,T) with
  | none=>rw[e] at p;exact aa p
  | some b=>
   rw[e] at p
   obtain⟨v,v',rfl,r1,r2⟩:=AG rs
   unfold af at r1 r2
   obtain⟨a,C,rfl,hC,ha⟩:=r1
   subst r2
   obtain⟨z1,z3⟩:=O.typ c T b C e hC
   exact .inl ⟨a,C,.ty T,.type T,b,rfl,ha,z1,rfl,z3,p _ m H Ext.refl S iq⟩
 ·rename_i _ c d ds
  cases e:mZ tb c (.cls d::ds) with
  | none=>rw[e] at p;exact aa p
  | some b=>
   rw[e] at p
   obtain⟨v,v',rfl,r1,r2⟩:=AG rs
   unfold af at r1
   obtain⟨a,C,rfl,hC,ha⟩:=r1
   have r2':=r2
   unfold af at r2'
   obtain⟨t,xs,rfl,hT,rx⟩:=r2'
   have Z:lU X.K C:=by
    have mY:=rx
    unfold ae at mY
    obtain⟨x,r,_,rd,_⟩:=mY
    unfold af at rd
    obtain⟨D,_,hD⟩:=rd
    unfold mZ at e
    cases q:tb.lookup (c,d) with
    | none=>rw[q] at e;cases e
    | some k=>exact(O.own c d k C D q hC hD).1
   exact .inr (.inl ⟨a,C,t,xs,b,rfl,ha,Z,eX.of hT,λits hv=>rL O hC rx hv e,p _ m H Ext.refl S iq⟩)
 ·exact .inr (.inr (h2 ws vs st H m Q S rs p))
end
section
variable {X:Cx} {pins:List (Yx×Obj)} {σ:St} {H:Hp} {s:YC}
abbrev HC(X:Cx)(A':Yy)(cm:Bool)(pn:List (Yx×Obj))(E:YD->YC->Prop):Cx:={ X with A:=A',calm:=cm,pn:=pn,xe:=E }
theorem Py{A':Yy}{cm:Bool}{pn:List (Yx×Obj)}{E:YD->YC->Prop}(ok:X.Ok)(hf:A'.frames=X.A.frames)(hd:cm=true->A'.handled=none):(HC X A' cm pn E).Ok :=
 ⟨ok.mod,ok.kind,ok.glob,ok.blt,ok.above,ok.inj,ok.has,ok.N0,hd,hf.trans ok.frames,ok.stk,ok.RV,ok.bs,ok.BQ,ok.Ag,ok.B7,ok.kK,ok.Gi⟩
theorem Dw{A':Yy}{cm:Bool}{E:YD->YC->Prop}(I:Inv X pins σ H s)(hf:A'.frames=X.A.frames)(hd:cm=true->A'.handled=none):Inv (HC X A' cm (X.pn++pins) E) [] σ H s :=
 ⟨Py I.ok hf hd,I.os,I.bare,I.base,I.loc,I.cell,I.free,I.gQ,λp hp=>I.pin p (by simpa using hp),I.hok,I.len⟩
theorem pM{A':Yy}{cm:Bool}{E:YD->YC->Prop}{ig:List (Yx×Obj)}(ok:X.Ok)(I:Inv (HC X A' cm (X.pn++pins) E) ig σ H s):Inv X pins σ H s :=
 ⟨ok,I.os,I.bare,I.base,I.loc,I.cell,I.free,I.gQ,λp hp=>I.pin p (oX _ hp),I.hok,I.len⟩
abbrev Pz(X:Cx)(a:Yx)(u:HO)(pn:List (Yx×Obj))(E:YD->YC->Prop):Cx:={ X with A:=X.A.mark (some (.ref a)),calm:=false,pn:=pn,xe:=E,H₀:=upd X.H₀ a u }
theorem Mg{a:Yx}{o:Obj}{u:HO}{E:YD->YC->Prop}(I:Inv X pins σ H s)(e:H a=some (.eS o u))(n:X.s₀.heap.get? a=none):Inv (Pz X a (.eS o u) (X.pn++pins) E) [] σ H s:=by
 have k:=I.ok
 have ne:∀b o,X.s₀.heap.get? b=some o->b≠a:=λb o q z=>by rw[z,n] at q;cases q
 have nf:∀b∈X.fs,b≠a:=λb hb=>let ⟨_,o,q,_⟩:=k.kK.mem hb;ne b o q
 have up:∀b,b≠a->upd X.H₀ a (.eS o u) b=X.H₀ b:=λb h=>ar h
 have dn:∀{b:Yx}{w:Option HO},upd X.H₀ a (.eS o u) b=w->w≠some (.eS o u)->X.H₀ b=w:=λ{b w} q h=>by
  by_cases z:b=a
  ·rw[z,aC] at q;exact absurd q.symm h
  ·rw[up b z] at q;exact q
 have nn:∀{b:Yx},upd X.H₀ a (.eS o u) b=none->X.H₀ b=none:=λq=>dn q (by intro z;cases z)
 refine⟨⟨k.mod,k.kind,k.glob,k.blt,k.above,k.inj,k.has,k.N0,(λz=>by cases z),k.frames,k.stk,k.RV,λb ob q=>⟨(k.bs b ob q).1,(up b (ne b ob (k.bs b ob q).1)).trans (k.bs b ob q).2⟩,k.BQ,k.Ag,k.B7,k.kK,λb hb=>(up b (nf b hb)).trans (k.Gi b hb)⟩,I.os,I.bare,?_,I.loc,I.cell,I.free,I.gQ,λp hp=>I.pin p (by simpa using hp),I.hok,I.len⟩
 have g:=I.base
 exact⟨λb ob q h=>g.keep b ob q (nn h),λb ob q h=>g.slot b ob q (nn h),λb ob q h=>g.free b ob q (nn h),g.there,λb xs q=>g.tups b xs (dn q (by intro z;cases z)),λb ob v q=>by
  by_cases z:b=a
  ·subst z
   have q':upd X.H₀ b (.eS o u) b=some (.eS ob v):=q
   rw[aC] at q'
   cases q'
   exact e
  ·exact g.i8 b ob v ((up b z).symm.trans q),λb ps q=>g.ky b ps (dn q (by intro z;cases z))⟩
theorem Dx{a:Yx}{o:Obj}{u:HO}{E:YD->YC->Prop}{ig:List (Yx×Obj)}(ok:X.Ok)(n:Me X a)(I:Inv (Pz X a (.eS o u) (X.pn++pins) E) ig σ H s):Inv X pins σ H s:=by
 have ne:∀b o,X.s₀.heap.get? b=some o->b≠a:=λb o q z=>by rw[z,n.1] at q;cases q
 have up:∀b,b≠a->(Pz X a (.eS o u) (X.pn++pins) E).H₀ b=X.H₀ b:=λb h=>ar h
 have g:=I.base
 exact⟨ok,I.os,I.bare,⟨λb ob q h=>g.keep b ob q ((up b (ne b ob q)).trans h),λb ob q h=>g.slot b ob q ((up b (ne b ob q)).trans h),λb ob q h=>g.free b ob q ((up b (ne b ob q)).trans h),g.there,λb xs q=>g.tups b xs ((up b λz=>n.2.1 xs (z ▸ q)).trans q),λb ob v q=>g.i8 b ob v ((up b λz=>n.2.2.1 ob v (z ▸ q)).trans q),λb ps q=>g.ky b ps ((up b λz=>n.2.2.2 ps (z ▸ q)).trans q)⟩,I.loc,I.cell,I.free,I.gQ,λp hp=>I.pin p (oX _ hp),I.hok,I.len⟩
def Mh(X:Cx):Prop:=X.A.handled=none\/∃a o u,X.A.handled=some (.ref a)/\AQ o/\X.H₀ a=some (.eS o u)
def AU(A:Yy)(H:Hp):Prop:=A.handled=none\/∃a o u,A.handled=some (.ref a)/\AQ o/\H a=some (.eS o u)
theorem Mh.at(h:Mh X)(I:Inv X pins σ H s):AU X.A H:=h.imp id λ⟨a,o,u,h1,h2,h3⟩=>⟨a,o,u,h1,h2,I.base.i8 _ _ _ h3⟩
theorem PB{A':Yy}{cm:Bool}{E:YD->YC->Prop}{D:Ends}{f:Flow}(ok:X.Ok)(h:SP (HC X A' cm (X.pn++pins) E) [] D f s):SP X pins D f s:=by
 cases f with
 | next=>obtain⟨σ',H',I,q⟩:=h;exact⟨σ',H',pM ok I,q⟩
 | brk=>obtain⟨σ',H',I,q⟩:=h;exact⟨σ',H',pM ok I,q⟩
 | cont=>obtain⟨σ',H',I,q⟩:=h;exact⟨σ',H',pM ok I,q⟩
 | ret u=>obtain⟨v,σ',H',I,r,q⟩:=h;exact⟨v,σ',H',pM ok I,r,q⟩
end
theorem rM{X:Cx}{pins:List (Yx×Obj)}{σ:St}{H:Hp}{s:YC}{M:Model}{A:Yy}{E:YD->YC->Prop}{i:Nat}{n:Str}{pos:Pos}{Q:Unit->YC->Prop}(I:Inv X pins σ H s)(hN:X.N.Nodup)(hi:X.N[i]? =some n)(hx:X.env.scope.names.lookup n=some .local)
  (k:∀s',Inv X pins (σ.set i none) H s'->Q () s'):YR M A (do bindName X.env n .none;unbindBehindTheSuite X.env n pos) Q E s:=by
 obtain⟨m,ns,lk⟩:=id I.loc
 have pl:(X.env.scope.kind == .class||(X.env.scope.kind == .module&&X.env.locals != X.env.globals))=false:=by rw[I.ok.kind];rfl
 have up:∀b o,X.s₀.heap.get? b=some o->b≠X.env.locals:=λb o e=>old_ne I e
 refine wpAny_nameGoes_keeps hx ns pl λh2 v WT sb=>k _ ?_
 obtain⟨oL,_,_,Vf,_⟩:=id ns
 refine⟨I.ok,I.os,I.bare,⟨λb o e f hb hx=>(sb.2 b (up b o e)).trans (I.base.keep b o e f hb hx),λb o e f hb hx=>?_,I.base.free,λb o e hx=>?_,I.base.tups,I.base.i8,I.base.ky⟩,⟨_,WT,λj y w e1 e2 e3=>?_⟩,λy c e=>?_,I.free,I.gQ,λp hp=>?_,λb u e=>?_,by simpa using I.len⟩
 ·obtain⟨sl,e1⟩:=I.base.slot b o e f hb hx
  exact⟨sl,(sb.2 b (up b o e)).trans e1⟩
 ·obtain⟨o1,e1⟩:=I.base.there b o e hx
  exact⟨o1,(sb.2 b (up b o e)).trans e1⟩
 ·have ji:j≠i:=λz=>by
   subst z
   have:j < σ.length:=by have q:=(List.getElem?_eq_some_iff.mp e2).1;simpa using q
   rw[kL this] at e2
   cases e2
  rw[bW (bt ji)] at e2
  obtain⟨u,r,q⟩:=lk j y w e1 e2 e3
  refine⟨u,r,?_⟩
  rcases q with ⟨q1,q2⟩ | ⟨q1,c,q2,z⟩
  ·have yn:y≠n:=λz=>ji (oY hN e1 (z ▸ hi))
   exact .inl ⟨q1,by simp[yn,q2]⟩
  ·exact .inr ⟨q1,c,q2,z.sameBut sb (I.Gj y c q2)⟩
 ·obtain⟨w,z⟩:=I.cell y c e
  exact⟨w,z.sameBut sb (I.Gj y c e)⟩
 ·obtain⟨e,f,ne,nf,d⟩:=I.pin p hp
  exact⟨(sb.2 p.1 ne).trans e,f,ne,nf,d⟩
 ·refine(I.hok b u e).stay (λc w hc q=>(sb.2 c λz=>?_).trans q) (λ_ q=>q) λ_ _ q=>q
  have fr:=I.free
  rcases hc with hc | hc
  ·rw[<-z,hc,e] at fr;cases fr
  ·rw[<-z,hc] at fr;cases fr
def AV(cat:PySem.Str->Option Bool)(i:Nat)(gb gs:GS):GS:=λρ st=>match gb ρ st with
 | .err c ρ' st'=>(match cat c with
  | some true=>(match gs (ρ'.set i (some (.lO c))) st' with
   | .nx ρ2 st2=> .nx (ρ2.set i none) st2
   | .rt w st2=> .rt w st2
   | _=> .bad)
  | _=> .bad)
 | r=>r
theorem aq.unset{K:PySem.W.Frag}{m:Mp}{H:Hp}{ρ:a9}{σ:St}(R:aq K m H ρ σ)(i:Nat):aq K m H (ρ.set i none) (σ.set i none):=by
 refine⟨by simp[R.len],λj w e=>?_⟩
 have ji:i≠j:=λz=>by
  subst z
  have:i < ρ.length:=by have q:=(List.getElem?_eq_some_iff.mp e).1;simpa using q
  rw[kL this] at e
  cases e
 rw[bW ji] at e ⊢
 exact R.get j w e
section
variable {X:Cx}
theorem AW{M:Model}{A:Yy}{E:YD->YC->Prop}{s:YC}{base h:Heap}{env:Env}{outer:List Env}{L a:Yx}{cls:YD}{args:List YD}{Q:Unit->YC->Prop}(hfr:A.frames=some (env::outer))(hf:env.frame=some L)
  (st:base.StaysIn h)(fs:h.FunFrames base (env::outer))(mk:tD h s.heap a cls args)(k:∀h' a0,tm base (env::outer) a cls a0 h'->s.heap.UpToSlots h'->Q () { s with heap:=h' }) :
  YR M A (noteFrame (.ref a) env) (λ_ s2=>YR M A (setFlight (.ref a) none) Q E s2) E s:=by
 exact rJ hfr hf st fs mk λh1 t hd1 up1=>uS hd1 λh2 BV Pw=>k h2 t BV (up1.trans Pw)
theorem jj.er{A:Yy}{b:Bool}{E:YD->YC->Prop}{pins ig:List (Yx×Obj)}{H H':Hp}{s s':YC}{cls e:YD}(f:jj (HC X A b (X.pn++pins) E) ig H s H' cls e s'):jj X pins H s H' cls e s' :=
 let ⟨a,a0,nt,B,ch,e1,e2,e3,hch,r⟩:=f
 ⟨a,a0,nt,B,ch,e1,e2,e3,λb hb=>let ⟨h1,h2,h3,h4,h5,h6⟩:=hch b hb;⟨h1,h2,h3,h4,h5,λp hp=>h6 p (oX _ hp)⟩,r⟩
theorem land{pins:List (Yx×Obj)}{σ:St}{Hc H':Hp}{sc s':YC}{C:Yx}{e:YD}{E:YD->YC->Prop}{Q:Unit->YC->Prop}(K0:SN X)(I:Inv X pins σ Hc sc)
  (r:jj X pins Hc sc H' (.ref C) e s'\/(H'=Hc/\∃a args,e= .ref a/\s'.os=sc.os/\s'.gens=sc.gens/\tD sc.heap s'.heap a (.ref C) args))
  (k:∀(a:Yx)(a0:YD)(B h5:Heap),e= .ref a->tm B X.stack a (.ref C) a0 h5->(∀h6 tk,tm B X.stack a (.ref C) a0 h6->h5.UpToSlots h6->∃o,AQ o/\Inv X pins σ (upd H' a (.eS o (.ext (jh a C)))) { s' with heap:=h6,toks:=tk })->H' a=none->Me X a->Q () { s' with heap:=h5 }) :
  YR (model X.prog X.w) X.A (noteFrame e X.env) (λ_ s2=>YR (model X.prog X.w) X.A (setFlight e none) Q E s2) E s':=by
 have hfr:X.A.frames=some (X.env::X.outer):=by rw[I.ok.frames,K0.st]
 rcases r with ⟨a,a0,nt,B,ch,rfl,os,bare,hch,un,hok,fl,uW⟩ | ⟨rfl,a,args,rfl,ho,hg,M⟩
 ·rw[K0.st] at fl
  refine u0 hfr K0.fr fl λh4 WU SQ=>?_
  refine uS WU λh5 BW Mi=>?_
  rw[<-K0.st] at BW
  exact k a a0 B h5 rfl BW (λh6 tk PD PF=>(jU I os bare hch un hok PD ((SQ.trans Mi).trans PF) uW).1) (jU (tk:=0) I os bare hch un hok BW (SQ.trans Mi) uW).2.1 ((jU (tk:=0) I os bare hch un hok BW (SQ.trans Mi) uW).2.2 K0.ex)
 ·have fs:sc.heap.FunFrames (PySem.W.hideAll sc.heap (frs X.stack)) (X.env::X.outer):=by
   rw[<-K0.st]
   exact PySem.W.funFrames_hide I.stack λenv he b hb=>List.mem_filterMap.mpr ⟨env,he,hb⟩
  refine AW (base:=PySem.W.hideAll sc.heap (frs X.stack)) hfr K0.fr (λb o q=>PySem.W.of_hideAll _ q) fs M λh5 a0 BW Mi=>?_
  rw[<-K0.st] at BW
  have bare:AllBare s'.gens:=by rw[hg];exact I.bare
  have hok:iY X.prog X.w H' (PySem.W.hideAll sc.heap (frs X.stack)):=u6 I.hok I.jP
  have uW:∀b o,sc.heap.get? b=some o->b∉frs X.stack->b∉([]:List Yx)->∃o',(PySem.W.hideAll sc.heap (frs X.stack)).get? b=some o'/\(H' b=none->o'=o):=λb o q hb _=>⟨o,PySem.W.hideAll_get _ q hb,λ_=>rfl⟩
  have nil:∀b∈([]:List Yx),du X pins H' b:=λb z=>by cases z
  exact k a a0 _ h5 rfl BW (λh6 tk PD PF=>(jU I ho bare nil (Un.kept M.keeps) hok PD (Mi.trans PF) uW).1) (jU (tk:=0) I ho bare nil (Un.kept M.keeps) hok BW Mi uW).2.1 ((jU (tk:=0) I ho bare nil (Un.kept M.keeps) hok BW Mi uW).2.2 K0.ex)
theorem Mj{x n:Str}{D:Yx}{i:Nat}{body suite:List Stmt}{b₀:Stmt}{gb gs:GS}{np hp pos:Pos}{tb:Tab}{tt:ve}{tc:Tab}(K0:SN X)(hN:X.N.Nodup)(hi:X.N[i]? =some n)(hx:X.env.scope.names.lookup n=some .local)(hc:X.calm=true)(O:TabOk X.K tb tt tc)
  (hg:Gl X x)(hm:X.mg x=some (.ref D))(hD:ClsAt X.K x D)(hd:(x == ("__debug__":Str))=false)
  (hb:∀(pn:List (Yx×Obj))(E:YD->YC->Prop),mV (HC X X.A true pn E) body gb)(hs:∀(a:Yx)(o:Obj)(u:HO)(pn:List (Yx×Obj))(E:YD->YC->Prop),AQ o->mV (Pz X a (.eS o u) pn E) (b₀::suite) gs) :
  JS X (.Try body [.ExceptHandler (some (.Name x np)) (some n) (b₀::suite) hp] [] [] pos) (AV (λc=>tc.lookup (c,x)) i gb gs):=by
 intro ρ st σ H m D' S R p pins s I
 refine wpAny_Try_except ?_
 let hx':YD->YC->Prop:=λe s1=>YR (model X.prog X.w) X.A (noteFrame e X.env) (λ_ s2=>YR (model X.prog X.w) X.A (setFlight e none) (λ_ s3=>
  YR (model X.prog X.w) X.A (handleBy e X.env [.ExceptHandler (some (.Name x np)) (some n) (b₀::suite) hp]) (SP X pins D') X.xe s3) X.xe s2) X.xe s1
 have hA:X.A.handled=none:=I.ok.hd hc
 have Ib:Inv (HC X X.A true (X.pn++pins) hx') [] σ H s:=Dw I rfl λ_=>hA
 have post:aF (HC X X.A true (X.pn++pins) hx') m H (gb ρ st) D':=by
  unfold AV at p
  cases eb:gb ρ st with
  | nx ρ1 st1=>rw[eb] at p;exact p
  | rt w1 st1=>rw[eb] at p;exact p
  | bk ρ1 st1=>rw[eb] at p;exact p
  | ct ρ1 st1=>rw[eb] at p;exact p
  | bad=>rw[eb] at p;exact p
  | err c ρ1 st1=>
   rw[eb] at p
   dsimp only at p
   cases ec:tc.lookup (c,x) with
   | none=>rw[ec] at p;exact aa p
   | some bc=>
    cases bc with
    | false=>rw[ec] at p;exact aa p
    | true=>
     rw[ec] at p
     dsimp only at p
     intro σ1 m1 H1 e s1 e1 S1 R1 rz
     obtain⟨C,ig,Hc,sc,hC,Ic,rz⟩:=rz
     obtain⟨zC,zD,SR⟩:=O.cat c x true C D ec hC hD
     refine land K0 (pM I.ok Ic) (rz.imp jj.er id) λa a0 B h5 ea BW inv hn hnew=>?_
     subst ea
     obtain⟨ox,_,I5⟩:=inv h5 s1.toks BW (Ma _)
     obtain⟨o5,WV,hc5,_⟩:=(I5.hok a _ aC).2.1
     have Im:=Dw (A':=X.A.mark (some (.ref a))) (cm:=false) (E:=λ_ _=>False) I5 rfl (λz=>by cases z)
     refine wpAny_handleBy_cons (codeAny_handlers_test (lE Im hg hm ?_ hd)) (by intro q;cases q)
     refine AR (b:=true) Im.wN zC zD SR WV hc5 ?_
     refine codeAny_handlers_suite_as ?_
     refine uS BW λh6 PD PF=>?_
     obtain⟨oy,nx,I6⟩:=inv h6 s1.toks PD PF
     have e6:Ext X.K m1 H1 m1 (upd H1 a (.eS oy (.ext (jh a C)))):=Ext.upd (.inl hn)
     have S6:aY X.K m1 st1 (upd H1 a (.eS oy (.ext (jh a C)))):=S1.fresh hn
     have rv:af X.K m1 (upd H1 a (.eS oy (.ext (jh a C)))) (.lO c) (.ref a):=by unfold af;obtain⟨vs,d1,d2⟩:=nx;exact⟨a,C,rfl,hC,oy,vs,aC,d1,d2⟩
     refine lD (v:=.ref a) I6 hN hi (.inl hx) rfl (λs7 I7=>?_) (.inr hx)
     have N8:=Mg (E:=λ_ _=>False) I7 aC hnew.1
     cases es:gs (ρ1.set i (some (.lO c))) st1 with
     | nx ρ2 st2=>
      rw[es] at p
      let D2:Ends:={ nx:=λσ' H'=>D'.nx (σ'.set i none) H',rt:=λ_ _=>False,bk:=λ_ _=>False,ct:=λ_ _=>False }
      have go:=hs a oy (.ext (jh a C)) (X.pn++pins) (λ_ _=>False) nx (ρ1.set i (some (.lO c))) st1 (σ1.set i (some (.ref a))) _ m1 D2 S6 ((R1.mono e6).set i rv) (by
       rw[es]
       exact λσ' m' H' e' S' R'=>p (σ'.set i none) m' H' (e1.trans (e6.trans e')) S' (aq.unset R' i)) [] s7 N8
      refine YV go (λf s8 h8=>?_) λ_ _ z=>z.elim
      cases f with
      | next=>
       obtain⟨σ8,H8,I8,q8⟩:=h8
       exact rM (Dx I.ok hnew I8) hN hi hx λs9 I9=>⟨_,H8,I9,q8⟩
      | brk=>obtain⟨_,_,_,q8⟩:=h8;exact q8.elim
      | cont=>obtain⟨_,_,_,q8⟩:=h8;exact q8.elim
      | ret u=>obtain⟨_,_,_,_,_,q8⟩:=h8;exact q8.elim
     | rt w2 st2=>
      rw[es] at p
      let D2:Ends:={ nx:=λ_ _=>False,rt:=D'.rt,bk:=λ_ _=>False,ct:=λ_ _=>False }
      have go:=hs a oy (.ext (jh a C)) (X.pn++pins) (λ_ _=>False) nx (ρ1.set i (some (.lO c))) st1 (σ1.set i (some (.ref a))) _ m1 D2 S6 ((R1.mono e6).set i rv) (by
       rw[es]
       exact λv' m' H' e' S' R'=>p v' m' H' (e1.trans (e6.trans e')) S' R') [] s7 N8
      refine YV go (λf s8 h8=>?_) λ_ _ z=>z.elim
      cases f with
      | next=>obtain⟨_,_,_,q8⟩:=h8;exact q8.elim
      | brk=>obtain⟨_,_,_,q8⟩:=h8;exact q8.elim
      | cont=>obtain⟨_,_,_,q8⟩:=h8;exact q8.elim
      | ret u=>
       obtain⟨v8,σ8,H8,I8,r8,q8⟩:=h8
       exact rM (Dx I.ok hnew I8) hN hi hx λs9 I9=>⟨v8,_,H8,I9,r8,q8⟩
     | bk ρ2 st2=>rw[es] at p;exact aa p
     | ct ρ2 st2=>rw[es] at p;exact aa p
     | err c2 ρ2 st2=>rw[es] at p;exact aa p
     | bad=>rw[es] at p;exact aa p
 refine YV (hb (X.pn++pins) hx' ρ st σ H m D' S R post [] s Ib) (λf s1 h1=>?_) λe s1 h1=>h1
 have h2:=PB I.ok h1
 cases f with
 | next=>exact wpAny_execs_nil h2
 | brk=>exact h2
 | cont=>exact h2
 | ret u=>exact h2
end
section
variable {X:Cx}
def PH:List Wv->Hs->Re Wv
 | [.int i],st=>if i.natAbs.log2 < 1920 then .ok (.str (toString i:String)) st else .bad
 | _,_=> .bad
def iL(o v:Wv)(st:Hs):Re Wv:=match o with
 | .ref l=>(match st[l]? with
  | some (.lst ws)=>if ws.length < lim then .ok .ay (st.set l (.lst (ws++[v]))) else .bad
  | _=> .bad)
 | _=> .bad
def dE(mt:Wv->Wv->Hs->Re Wv)(go ga:GE):GE:=λρ st=>(go ρ st).bind λo st1=>match o with
 | .ref l=>(match aj st1 l with
  | some _=>(ga ρ st1).bind λv st2=>(mt o v st2).je
  | none=> .bad)
 | _=> .bad
def Mk(X:Cx)(id:String)(mt:Wv->Wv->Hs->Re Wv):Prop:=∃r,JD X id r/\∀(o w:Wv)(x v:V)(st:Hs)(H:Hp)(m:Mp)(Q:VK),aY X.K m st H->af X.K m H o x->af X.K m H w v->dC X.K m H (mt o w st) Q->r x [v] H Q
theorem tQ:Mk X "list.append" iL:=⟨_,As,λo w x v st H m Q S ro rw' p=>by
 cases o with
 | ref l=>
  unfold af at ro
  obtain⟨a,rfl,ha⟩:=ro
  have p':dC X.K m H (match st[l]? with | some (.lst ws)=>if ws.length < lim then .ok .ay (st.set l (.lst (ws++[w]))) else .bad | _=> .bad) Q:=p
  cases e:st[l]? with
  | none=>rw[e] at p';exact aa p'
  | some ob=>
   cases ob with
   | dct kvs=>rw[e] at p';exact aa p'
   | yV kvs=>rw[e] at p';exact aa p'
   | CM kvs=>rw[e] at p';exact aa p'
   | BS kvs=>rw[e] at p';exact aa p'
   | tq ns=>rw[e] at p';exact aa p'
   | lst ws=>
    rw[e] at p'
    dsimp only at p'
    by_cases c:ws.length < lim
    ·rw[if_pos c] at p'
     obtain⟨xs,h1,h2⟩:=S.uU ha e
     have e4:Ext X.K m H m (upd H a (.lst (xs++[v]))):=Ext.upd (.inr ⟨xs,h1⟩)
     exact⟨a,xs,v,rfl,rfl,h1,by rw[<-h2.length];exact tE c,p' _ m _ e4 (S.write ha e (h2.append (ae.cons rw' ae.nil))) JR⟩
    ·rw[if_neg c] at p';exact aa p'
 | _=>exact aa p⟩
theorem tR{x name:Str}{id:String}{e:Expr}{go ga:GE}{p apos cpos:Pos}{mt:Wv->Wv->Hs->Re Wv}(hm:Mk X id mt)(slot:Slot "list" name id)(hty:typeOf (.builtin id)=pure (.type "method_descriptor"))(ho:JE X (.Name x p) go)(ha:JE X e ga)
  (hst:YQ [e] X.env=[(false,eval e X.env)])(hline:(apos.endLine == cpos.line)=true):JE X (.Call (.Attribute (.Name x p) name apos) [e] [] cpos) (dE mt go ga):=by
 obtain⟨r,h1,h2⟩:=hm
 have hfew:((backTo cpos (YQ [e] X.env)).all (λx=> !x.1)&&(backToKw cpos (keywordEach [] X.env)).all (λx=>x.1.isSome)&&decide ([e].length+([]:List Keyword).length+(if([]:List Keyword).isEmpty then 0 else 1) < 30))=true:=by
  rw[hst];rfl
 refine JE.of (yP PySem.F.plainAttrs_list slot hty h1 aG i0 rfl hfew hline hst rfl) λρ st σ H m Q S R p=>?_
 refine ho.go S R (ao.bind p) λo st1 v m1 H1 p1 e1 S1 ro=>?_
 cases o with
 | ref l=>
  dsimp only at p1
  cases el:aj st1 l with
  | none=>rw[el] at p1;exact aa p1
  | some WW=>
   rw[el] at p1
   dsimp only at p1
   have J1:=ro
   unfold af at J1
   obtain⟨a,rfl,hla⟩:=J1
   obtain⟨xs,hq,_⟩:=S1.read hla el
   refine⟨.inl ⟨rfl,xs,hq⟩,?_⟩
   refine(oz ha tF hst).go S1 (R.mono e1) (ok:=λws st2=>ao X σ m H (match ws with | [w]=>(mt (.ref l) w st2).je | _=> .bad) (BU X.K m H Q)) ?_ λws st2 vs m2 H2 p2 e2 S2 rs=>?_
   ·have p3:=(ao.bind p1).imp e1 (λ_ _ q=>q)
    show ao X σ m1 H1 ((ga ρ st1).bind λx st1=>(au ρ st1).bind λxs st2=> .ok (x::xs) st2) _
    cases eg:ga ρ st1 with
    | ok w st2=>rw[eg] at p3;exact p3
    | err c st2=>rw[eg] at p3;exact p3
    | bad=>rw[eg] at p3;exact p3
   ·match ws,rs,p2 with
    | [],rs,p2=>exact aa p2
    | [w],rs,p2=>
     obtain⟨v2,rfl,PJ⟩:=i_ rs
     exact h2 (.ref l) w (.ref a) v2 st2 H2 m2 Q S2 (af.mono e2 _ _ ro) PJ (dC.shift (ao.je p2) (e1.trans e2))
    | _::_::_,rs,p2=>exact aa p2
 | _=>exact aa p1
end
section
variable {X:Cx}
def PK:List Wv->Hs->Re Wv
 | [.str z],st=> .ok (.str z) st
 | ws,st=>PH ws st
def PL:List Wv->Hs->Re Wv
 | [.int i],st=> .ok (.int i) st
 | [.bl b],st=> .ok (.int (if b then 1 else 0)) st
 | _,_=> .bad
theorem Ml:cA X (.type "int") PL:=⟨_,Ao,λws vs st H m Q S rs p=>by
 match ws,rs,p with
 | [],rs,p=>exact aa p
 | x::y::t,rs,p=>cases x<;>exact aa p
 | [x],rs,p=>
  obtain⟨v,rfl,r1⟩:=i_ rs
  cases x with
  | int i=>cases aT r1;exact .inl ⟨i,rfl,p _ m H Ext.refl S mkInt⟩
  | bl b=>cases Pb r1;exact .inr ⟨b,rfl,p _ m H Ext.refl S mkInt⟩
  | _=>exact aa p⟩
def PM:List Wv->Hs->Re Wv
 | [.int i,.int j],st=> .ok (.int (if j > i then j else i)) st
 | _,_=> .bad
def PN:List Wv->Hs->Re Wv
 | [.int i,.int j],st=> .ok (.int (if j < i then j else i)) st
 | _,_=> .bad
theorem Mm(hc:X.calm=true):cA X (.builtin "max") PM:=⟨_,Am hc,λws vs st H m Q S rs p=>by
 match ws,rs,p with
 | [],rs,p=>exact aa p
 | [x],rs,p=>cases x<;>exact aa p
 | x::y::z::t,rs,p=>cases x<;>cases y<;>exact aa p
 | [x,y],rs,p=>
  obtain⟨v,v',rfl,r1,r2⟩:=AG rs
  cases x with
  | int i=>
   cases y with
   | int j=>cases aT r1;cases aT r2;exact⟨i,j,rfl,p _ m H Ext.refl S mkInt⟩
   | _=>exact aa p
  | _=>cases y<;>exact aa p⟩
theorem Mn(hc:X.calm=true):cA X (.builtin "min") PN:=⟨_,An hc,λws vs st H m Q S rs p=>by
 match ws,rs,p with
 | [],rs,p=>exact aa p
 | [x],rs,p=>cases x<;>exact aa p
 | x::y::z::t,rs,p=>cases x<;>cases y<;>exact aa p
 | [x,y],rs,p=>
  obtain⟨v,v',rfl,r1,r2⟩:=AG rs
  cases x with
  | int i=>
   cases y with
   | int j=>cases aT r1;cases aT r2;exact⟨i,j,rfl,p _ m H Ext.refl S mkInt⟩
   | _=>exact aa p
  | _=>cases y<;>exact aa p⟩
def pN:List Nat->List Wv->a9->Option a9
 | [],[],ρ=>some ρ
 | i::is,w::ws,ρ=>pN is ws (ρ.set i (some w))
 | _,_,_=>none
def J2(is:List Nat)(w:Wv)(ρ:a9):Option a9:=match w with
 | .tup ws=>pN is ws ρ
 | _=>none
def SU:List Nat->Jz
 | []=>L2.au
 | i::is=>L2.ag (uJ i) (SU is)
theorem ju{m:Mp}{H:Hp}{Q:St->Hp->Prop}:∀{is:List Nat}{ws:List Wv}{xs:List V}{ρ ρ':a9}{σ:St},ae X.K m H ws xs->aq X.K m H ρ σ->pN is ws ρ=some ρ'->(∀σ',aq X.K m H ρ' σ'->Q σ' H)->SU is xs σ H Q
 | [],[],xs,ρ,ρ',σ,r,R,e,k=>by
  unfold ae at r
  subst r
  cases e
  exact⟨rfl,k σ R⟩
 | i::is,w::ws,xs,ρ,ρ',σ,r,R,e,k=>by
  unfold ae at r
  obtain⟨x,rr,rfl,h1,h2⟩:=r
  exact⟨x,rr,rfl,ju (is:=is) h2 (R.set i h1) e k⟩
 | [],_::_,_,_,_,_,_,_,e,_=>by cases e
 | _::_,[],_,_,_,_,_,_,e,_=>by cases e
theorem lW:∀{is:List Nat}{ws:List Wv}{ρ ρ':a9},pN is ws ρ=some ρ'->ws.length=is.length
 | [],[],_,_,_=>rfl
 | _::is,_::ws,_,_,e=>congrArg (· +1) (lW (is:=is) (ws:=ws) e)
 | [],_::_,_,_,e=>by cases e
 | _::_,[],_,_,e=>by cases e
inductive Slots(X:Cx):List Expr->List Nat->Prop
 | nil:Slots X [] []
 | cons {x:Str} {p:Pos} {i:Nat} {es:List Expr} {is:List Nat}:X.N[i]? =some x->(Loc X.env.scope x/\(X.fn x=true\/X.env.scope.names.lookup x=some .local))->Slots X es is->Slots X (.Name x p::es) (i::is)
theorem iw(hN:X.N.Nodup):∀{es:List Expr}{is:List Nat},Slots X es is->Oy X es (SU is)
 | _,_,.nil=>Gw
 | _,_,.cons h1 h2 r=>Cg (sL hN h1 h2.1 h2.2) (iw hN r) rfl
theorem jv:∀{es:List Expr}{is:List Nat},Slots X es is->(assignEach es X.env).length=is.length
 | _,_,.nil=>rfl
 | _,_,.cons _ _ r=>congrArg (· +1) (jv r)
theorem iy:∀{es:List Expr}{is:List Nat},Slots X es is->(assignEach es X.env).findIdx? (·.1)=none
 | _,_,.nil=>rfl
 | _,_,.cons (x:=x) (p:=p) (es:=es) _ _ r=>by
  have q:=iy r
  show List.findIdx? _ ((false,assign (.Name x p) X.env)::assignEach es X.env)=none
  rw[Dy]
  simp[q]
def y0(is:List Nat)(g:GE):GS:=λρ st=>(g ρ st).bg ρ λw st'=>match J2 is w ρ with
 | some ρ'=> .nx ρ' st'
 | none=> .bad
theorem HD{es:List Expr}{is:List Nat}{k:Nat}{e:Expr}{g:GE}{pos pos':Pos}(hN:X.N.Nodup)(hc:X.calm=true)(sl:Slots X es is)(h:JE X e g)(hs:swapsWith e (some (.Tuple es k pos')) pos.line X.env=pure false)(hw:swappedStores [.Tuple es k pos'] e X.env=pure none) :
  JS X (.Assign [.Tuple es k pos'] e pos) (y0 is g) :=
 JS.of (Ci aG (sM hc (iw hN sl) (jv sl) (iy sl)) (by unfold swapsWithSole;exact hs) hw rfl) λρ st σ H m D S R p=>h.go S R (aF.cO R p) λw st1 v m1 H1 q e1 S1 r1=>by
  cases w with
  | tup ws=>
   have q':aF X m H (match pN is ws ρ with | some ρ'=> .nx ρ' st1 | none=> .bad) D:=q
   cases e2:pN is ws ρ with
   | none=>rw[e2] at q';exact aa q'
   | some ρ'=>
    rw[e2] at q'
    unfold af at r1
    obtain⟨a,xs,rfl,f1,f2⟩:=r1
    exact⟨a,xs,rfl,eX.of f1,by rw[<-f2.length];exact lW e2,ju f2 (R.mono e1) e2 λσ' R'=>q' σ' m1 H1 e1 S1 R'⟩
  | _=>exact aa q
open Classical in
def kG(is:List Nat)(gb:GS)(l:Nat)(all:List Wv):List Wv->a9->Hs->Rs
 | [],ρ,st=> .nx ρ st
 | w::r,ρ,st=>match J2 is w ρ with
  | none=> .bad
  | some ρ1=>match gb ρ1 st with
   | .nx ρ' st'=>if aj st' l=some all then kG is gb l all r ρ' st' else .bad
   | .ct ρ' st'=>if aj st' l=some all then kG is gb l all r ρ' st' else .bad
   | .bk ρ' st'=> .nx ρ' st'
   | .rt w st'=> .rt w st'
   | .err c ρ' st'=> .err c ρ' st'
   | .bad=> .bad
def nQ(is:List Nat)(gi:GE)(gb:GS):GS:=λρ st=>(gi ρ st).bg ρ λw st1=>match w with
 | .ref l=>(match aj st1 l with | some ws=>kG is gb l ws ws ρ st1 | none=> .bad)
 | _=> .bad
theorem HE{es:List Expr}{is:List Nat}{k:Nat}{iter:Expr}{body:List Stmt}{gi:GE}{gb:GS}{pos pos':Pos}(hN:X.N.Nodup)(hp:PassesOwn (model X.prog X.w) X.A X.env X.xe)(hc:X.calm=true)(sl:Slots X es is)(hi:JE X iter gi)(hb:mV X body gb)
  (hs:∀x,YL iter X.env x=pure x):JS X (.For (.Tuple es k pos') iter body [] pos) (nQ is gi gb):=by
 refine JS.of (sN hp hc (Gx aG) (sM hc (iw hN sl) (jv sl) (iy sl)) gS hs) λρ st σ H m D S R p=>?_
 refine hi.go S R (aF.cO R p) λw st1 v m1 H1 p1 e1 S1 rw'=>?_
 cases w with
 | ref l=>
  have p1':aF X m H (match aj st1 l with | some ws=>kG is gb l ws ws ρ st1 | none=> .bad) D:=p1
  unfold af at rw'
  obtain⟨a,rfl,hla⟩:=rw'
  cases el:aj st1 l with
  | none=>rw[el] at p1';exact aa p1'
  | some ws=>
   rw[el] at p1'
   obtain⟨Dm,q0,_⟩:=S1.read hla el
   refine⟨a,rfl,⟨Dm,q0⟩,?_⟩
   let Pv:Nat->St->Hp->Prop:=λk σ H=>∃ρ st m',Ext X.K m1 H1 m' H/\aY X.K m' st H/\aq X.K m' H ρ σ/\aj st l=some ws/\aF X m' H (kG is gb l ws (ws.drop k) ρ st) D
   refine⟨λk n σ H=>n=ws.length - k/\k<=ws.length/\Pv k σ H,⟨ws.length,by simp,bZ _,ρ,st1,m1,Ext.refl,S1,R.mono e1,el,aF.shift p1' e1⟩,?_⟩
   rintro k n σ2 H2 ⟨rfl,hk,ρ2,st2,m2,e2,S2,R2,l2,p2⟩
   obtain⟨xs,hq,rws⟩:=S2.read (e2.pre _ _ hla) l2
   have hlen:=rws.length
   by_cases hlt:k < ws.length
   ·have hx':k < xs.length:=by omega
    refine .inr ⟨⟨xs,xs[k],hq,by simp[hx']⟩,Pv (k+1),λσ' H' p'=>⟨ws.length - (k+1),by omega,rfl,hlt,p'⟩,λx H' y=>?_⟩
    obtain⟨ee,y⟩:=y
    subst ee
    have ey:=y xs hq
    have ed:ws.drop k=ws[k]::ws.drop (k+1):=pK hlt
    obtain⟨x',ex',mY⟩:=rws.get (i:=k) (w:=ws[k]) (bX hlt)
    rw[ey] at ex'
    cases ex'
    rw[ed] at p2
    unfold kG at p2
    cases eb:ws[k] with
    | tup us=>
     rw[eb] at p2 mY
     dsimp only[J2] at p2
     cases e5:pN is us ρ2 with
     | none=>rw[e5] at p2;exact aa p2
     | some ρ5=>
      rw[e5] at p2
      dsimp only at p2
      unfold af at mY
      obtain⟨b,ys,rfl,f1,f2⟩:=mY
      refine⟨b,ys,rfl,eX.of f1,by rw[<-f2.length];exact lW e5,ju f2 R2 e5 λσ5 R5=>?_⟩
      refine hb _ st2 _ _ m2 _ S2 R5 ?_
      cases eg:gb ρ5 st2 with
      | nx ρ3 st3=>
       rw[eg] at p2
       by_cases c:aj st3 l=some ws
       ·simp only[if_pos c] at p2
        exact λσ3 m3 H3 e3 S3 R3=>⟨ρ3,st3,m3,e2.trans e3,S3,R3,c,aF.shift p2 e3⟩
       ·simp only[if_neg c] at p2;exact aa p2
      | ct ρ3 st3=>
       rw[eg] at p2
       by_cases c:aj st3 l=some ws
       ·simp only[if_pos c] at p2
        exact λσ3 m3 H3 e3 S3 R3=>⟨ρ3,st3,m3,e2.trans e3,S3,R3,c,aF.shift p2 e3⟩
       ·simp only[if_neg c] at p2;exact aa p2
      | bk ρ3 st3=>rw[eg] at p2;exact p2
      | rt w3 st3=>rw[eg] at p2;exact p2
      | err c3 ρ3 st3=>rw[eg] at p2;exact p2
      | bad=>rw[eg] at p2;exact p2
    | _=>rw[eb] at p2;exact aa p2
   ·have e:k=ws.length:=by omega
    subst e
    rw[pL] at p2
    exact .inl ⟨⟨xs,hq,by omega⟩,p2 σ2 m2 H2 Ext.refl S2 R2⟩
 | _=>exact aa p1
end
def qY(env:Env):List (Str×YA)->List (Str×Yx)->List (Str×Yx)
 | [],acc=>acc
 | (n,k)::r,acc=>if k= .free then qY env r ((n,(env.cells.lookup n).getD 0)::acc) else qY env r acc
theorem vf(env:Env):∀(names:List (Str×YA))(acc:List (Str×Yx)),(∀y∈names,y.2= .free->∃c,env.cells.lookup y.1=some c)->
  (forIn names acc λx r=>match x with
   | (name,kind)=>if(kind == dU)=true then do let c <-cellOf env name;pure (kR ((name,c)::r)) else(pure (kR r):Sem _))=pure (qY env names acc)
 | [],acc,_=>rfl
 | (n,k)::r,acc,h=>by
  have ih:=λacc=>vf env r acc λy hy=>h y (aJ _ hy)
  rw[List.forIn_cons]
  by_cases hk:k= .free
  ·subst hk
   obtain⟨c,e⟩:=h (n,.free) aP rfl
   have e':env.cells.lookup n=some c:=e
   have cc:cellOf env n=pure c:=by unfold cellOf;rw[e']
   simp only[beq_self_eq_true,if_true,cc]
   have q:qY env ((n,.free)::r) acc=qY env r ((n,c)::acc):=by
    show(if dU= .free then qY env r ((n,(env.cells.lookup n).getD 0)::acc) else _)=_
    rw[if_pos rfl,e']
    rfl
   rw[q,<-ih]
   rfl
  ·have hb:(k == dU)=false:=by simpa using hk
   simp only[hb,y6,if_false]
   have q:qY env ((n,k)::r) acc=qY env r acc:=by
    show(if k= .free then _ else qY env r acc)=_
    rw[if_neg hk]
   rw[q,<-ih]
   rfl
theorem y7{env:Env}{scope:Scope}(h:∀y∈scope.names,y.2= .free->∃c,env.cells.lookup y.1=some c):closureFor scope env=pure (qY env scope.names []):=by
 have q:=vf env scope.names [] h
 unfold closureFor
 first
  | (rw[<-q];rfl)
  | (simp only[bind_pure];exact q)
theorem tS{env:Env}:∀{names:List (Str×YA)}{acc:List (Str×Yx)}{y:Str}{c:Yx},(∀y∈names,y.2= .free->∃c,env.cells.lookup y.1=some c)->(∀y c,acc.lookup y=some c->env.cells.lookup y=some c)->(qY env names acc).lookup y=some c->env.cells.lookup y=some c
 | [],acc,y,c,_,ha,e=>ha y c e
 | (n,k)::r,acc,y,c,h,ha,e=>by
  unfold qY at e
  by_cases hk:k= .free
  ·rw[if_pos hk] at e
   subst hk
   obtain⟨c0,e0⟩:=h (n,.free) aP rfl
   have WX:env.cells.lookup n=some c0:=e0
   refine tS (λy hy=>h y (aJ _ hy)) (λy' c' e'=>?_) e
   rw[gB] at e'
   cases q:y' == n with
   | true=>
    rw[q] at e'
    have q':=eq_of_beq q
    subst q'
    rw[WX] at e' ⊢
    exact e'
   | false=>rw[q] at e';exact ha y' c' e'
  ·rw[if_neg hk] at e
   exact tS (λy hy=>h y (aJ _ hy)) ha e
theorem oC{env:Env}{y:Str}:∀{names:List (Str×YA)}{acc:List (Str×Yx)},((∃c,acc.lookup y=some c)\/(y,dU)∈names)->∃c,(qY env names acc).lookup y=some c
 | [],acc,h=>by
  rcases h with h | h
  ·exact h
  ·cases h
 | (n,k)::r,acc,h=>by
  unfold qY
  by_cases hk:k= .free
  ·rw[if_pos hk]
   refine oC ?_
   rw[gB]
   cases q:y == n with
   | true=>exact .inl ⟨_,rfl⟩
   | false=>
    rcases h with h | h
    ·exact .inl h
    ·rcases List.mem_cons.mp h with h | h
     ·cases h;simp at q
     ·exact .inr h
  ·rw[if_neg hk]
   refine oC ?_
   rcases h with h | h
   ·exact .inl h
   ·rcases List.mem_cons.mp h with h | h
    ·cases h;exact absurd rfl hk
    ·exact .inr h
theorem lookup_mem{α β:Type}[BEq α][LawfulBEq α]{y:α}{k:β}:∀{names:List (α×β)},names.lookup y=some k->(y,k)∈names
 | [],h=>by cases h
 | (n,j)::r,h=>by
  rw[gB] at h
  cases q:y == n with
  | true=>
   rw[q] at h
   cases h
   have q':=eq_of_beq q
   subst q'
   exact aP
  | false=>rw[q] at h;exact aJ _ (lookup_mem h)
theorem lX{env:Env}:∀{names:List (Str×YA)}{y:Str},(names.map λ(n,k)=>if(k == dU&&env.scope.kind == .function&&env.kindOf n == some .cell) then(n,dX) else(n,k)).lookup y=
  (names.lookup y).map λk=>if(k == dU&&env.scope.kind == .function&&env.kindOf y == some .cell)=true then dX else k
 | [],y=>rfl
 | (n,k)::r,y=>by
  have ih:=lX (env:=env) (names:=r) (y:=y)
  show List.lookup y ((if(k == dU&&env.scope.kind == .function&&env.kindOf n == some .cell)=true then(n,dX) else(n,k))::_)=_
  cases q:y == n with
  | true=>
   have q':=eq_of_beq q
   subst q'
   by_cases hc:(k == dU&&env.scope.kind == .function&&env.kindOf y == some .cell)=true
   ·rw[if_pos hc]
    simp only[gB,beq_self_eq_true,oD]
    rw[if_pos hc]
   ·rw[if_neg hc]
    simp only[gB,beq_self_eq_true,oD]
    rw[if_neg hc]
  | false=>
   by_cases hc:(k == dU&&env.scope.kind == .function&&env.kindOf n == some .cell)=true
   ·rw[if_pos hc];simp only[gB,q];exact ih
   ·rw[if_neg hc];simp only[gB,q];exact ih
open Classical in
def iz(ck:Hs->Prop)(gt:Wv->Hs->Re Bool)(ge:Wv->Hs->Re Wv)(l:Nat):List Wv->Hs->Option Hs
 | [],st=>some st
 | w::r,st=>match gt w st with
  | .ok false st1=>if ck st1 then iz ck gt ge l r st1 else none
  | .ok true st1=>(match ge w st1 with
   | .ok v st2=>(match iL (.ref l) v st2 with
    | .ok _ st3=>if ck st3 then iz ck gt ge l r st3 else none
    | _=>none)
   | _=>none)
  | _=>none
open Classical in
def nR(ck:Hs->Prop)(gt:Wv->Hs->Re Bool)(ge:Wv->Hs->Re Wv)(l:Nat):List Wv->Hs->Re Unit
 | [],st=> .ok () st
 | w::r,st=>match gt w st with
  | .ok false st1=>if ck st1 then nR ck gt ge l r st1 else .bad
  | .ok true st1=>(match ge w st1 with
   | .ok v st2=>(match iL (.ref l) v st2 with
    | .ok _ st3=>if ck st3 then nR ck gt ge l r st3 else .bad
    | _=> .bad)
   | .err c st2=> .err c st2
   | .bad=> .bad)
  | .err c st1=> .err c st1
  | .bad=> .bad
theorem pO{ck:Hs->Prop}{gt:Wv->Hs->Re Bool}{ge:Wv->Hs->Re Wv}{l:Nat}{mO:Hs}:∀(ws:List Wv)(st:Hs),iz ck gt ge l ws st=some mO->nR ck gt ge l ws st= .ok () mO
 | [],st,h=>by cases h;rfl
 | w::r,st,h=>by
  unfold iz at h
  unfold nR
  cases eg:gt w st with
  | err c st1=>rw[eg] at h;cases h
  | bad=>rw[eg] at h;cases h
  | ok b st1=>
   rw[eg] at h
   cases b with
   | false=>
    dsimp only at h ⊢
    by_cases c:ck st1
    ·rw[if_pos c] at h ⊢;exact pO r st1 h
    ·rw[if_neg c] at h;cases h
   | true=>
    dsimp only at h ⊢
    cases ee:ge w st1 with
    | err c st2=>rw[ee] at h;cases h
    | bad=>rw[ee] at h;cases h
    | ok v st2=>
     rw[ee] at h
     dsimp only at h ⊢
     cases ea:iL (.ref l) v st2 with
     | err c st3=>rw[ea] at h;cases h
     | bad=>rw[ea] at h;cases h
     | ok u st3=>
      rw[ea] at h
      dsimp only at h ⊢
      by_cases c:ck st3
      ·rw[if_pos c] at h ⊢;exact pO r st3 h
      ·rw[if_neg c] at h;cases h
abbrev dN:=List (Str×Nat)
def cq(cs:dN)(ρ:a9):a9:=cs.map λp=>(ρ[p.2]?).getD none
def lY(cs:dN)(σ:St):St:=cs.map λp=>(σ[p.2]?).getD none
theorem y8{K:PySem.W.Frag}{m:Mp}{H:Hp}{ρ:a9}{σ:St}(cs:dN)(R:aq K m H ρ σ):aq K m H (cq cs ρ) (lY cs σ):=by
 refine⟨by unfold cq lY;simp,λi w e=>?_⟩
 unfold cq at e
 rw[iH] at e
 cases q:cs[i]? with
 | none=>rw[q] at e;cases e
 | some p=>
  rw[q] at e
  have e':(ρ[p.2]?).getD none=some w:=by simpa using e
  cases q2:ρ[p.2]? with
  | none=>rw[q2] at e';cases e'
  | some o=>
   rw[q2] at e'
   have e2:o=some w:=e'
   subst e2
   obtain⟨v,h1,h2⟩:=R.get _ _ q2
   refine⟨v,?_,h2⟩
   unfold lY
   rw[iH,q]
   simp[h1]
def vg(X:Cx)(scope:Scope)(C:Yx):List (Str×Yx):=cellsFrom (C+1) scope.names (qY X.env scope.names [])
theorem lZ:∀{names:List (Str×YA)}(n:Nat)(acc:List (Str×Yx))(h:Heap),(names.filter λy=>y.2 == .cell)=[]->cellsFrom n names acc=acc/\pushCells h names=h
 | [],_,_,_,_=>⟨rfl,rfl⟩
 | (y,k)::r,n,acc,h,e=>by
  cases q:(k == dX) with
  | true=>rw[xw (by exact q)] at e;cases e
  | false=>
   rw[xx (by show ¬(k == dX)=true;rw[q];exact cQ)] at e
   unfold cellsFrom pushCells
   rw[q]
   exact lZ n acc h e
theorem iA{x:Str}:∀{names:List (Str×YA)}(n:Nat)(acc:List (Str×Yx))(h:Heap),(names.filter λy=>y.2 == .cell)=[(x,.cell)]->cellsFrom n names acc=(x,n)::acc/\pushCells h names=h.push { cls:=.type "cell",data:=.cell none }
 | [],_,_,_,e=>by cases e
 | (y,k)::r,n,acc,h,e=>by
  cases q:(k == dX) with
  | true=>
   rw[xw (by exact q)] at e
   have e1:=(List.cons.inj e).1
   have e2:=(List.cons.inj e).2
   cases e1
   unfold cellsFrom pushCells
   rw[q]
   exact lZ _ _ _ e2
  | false=>
   rw[xx (by show ¬(k == dX)=true;rw[q];exact cQ)] at e
   unfold cellsFrom pushCells
   rw[q]
   exact iA n acc h e
theorem jw{M:Model}{A:Yy}{E:YD->YC->Prop}{s:YC}{scope:Scope}{globals:Yx}{closure:List (Str×Yx)}{qual:Str}{env:Env}{Q:Env->YC->Prop}
  (hQ:Q (newEnv scope s.heap.objs.size globals (cellsFrom (s.heap.objs.size+1) scope.names closure) qual none .none (some env) builtinsNs) { s with heap:=pushCells (s.heap.push { cls:=.type "dict",data:=.dict #[] }) scope.names }) :
  YR M A (newFunctionEnv scope globals closure [] qual none .none (some env)) Q E s:=by
 simp only[newFunctionEnv,GV,if_true]
 refine YS (wpAny_alloc ?_)
 refine YS (wpAny_layCells _ (λname kind cells=>by cases hkc:kind == dX<;>simp[hkc]) _ _ _ _ ?_)
 rw[show({ s with heap:=s.heap.push { cls:=.type "dict",data:=.dict #[] } }:YC).heap.objs.size=s.heap.objs.size+1 from tU ..]
 rw[List.forIn_nil]
 exact YS (YY (YY hQ))
def fK(X:Cx)(scope:Scope)(x:Str)(cs:dN)(C:Yx)(s0:YC)(H0:Hp)(fp:List Yx)(pn:List (Yx×Obj))(E:YD->YC->Prop):Cx where
 prog:=X.prog
 w:=X.w
 K:=X.K
 mg:=X.mg
 base:=X.base
 A:=X.A
 N:=x::cs.map (·.1)
 s₀:=s0
 H₀:=H0
 env:=compEnvC scope (vg X scope C) C X.env
 outer:=X.stack
 stack:=X.stack
 ex:=fp
 fn:=λy=>scope.names.lookup y == some .cell
 calm:=X.calm
 pn:=pn
 xe:=E
structure cH(X:Cx)(scope:Scope)(x:Str)(cs:dN):Prop where
 kind:scope.kind= .function
 look:∀y∈scope.names,scope.names.lookup y.1=some y.2
 own:(scope.names.filter λy=>y.2 == .cell)=[]\/(scope.names.filter λy=>y.2 == .cell)=[(x,.cell)]
 var:scope.names.lookup x=some .local\/scope.names.lookup x=some .cell
 cap:∀y∈scope.names,y.2= .free->X.env.kindOf y.1=some .cell\/X.env.kindOf y.1=some .free
 at_:∀p∈cs,X.N[p.2]? =some p.1/\scope.names.lookup p.1=some .free
 nd:(x::cs.map (·.1)).Nodup
section
variable {X:Cx} {pins:List (Yx×Obj)} {σ:St} {H:Hp} {s:YC} {scope:Scope} {x:Str} {cs:dN}
theorem pP(I:Inv X pins σ H s){b:Yx}(f:du X pins H b):b∉frs X.stack:=λz=>by
 rcases List.mem_cons.mp (I.jd b z) with q | q
 ·exact f.2.1 q
 ·exact f.2.2.1 q
theorem cH.has(S:cH X scope x cs)(ok:X.Ok):∀y∈scope.names,y.2= .free->∃c,X.env.cells.lookup y.1=some c:=λy hy e=>ok.has y.1 (S.cap y hy e)
theorem cH.Dz(S:cH X scope x cs){y:Str}(e:scope.names.lookup y=some .cell):y=x/\(scope.names.filter λy=>y.2 == .cell)=[(x,.cell)]:=by
 have h:(y,dX)∈scope.names.filter λy=>y.2 == .cell:=List.mem_filter.mpr ⟨lookup_mem e,rfl⟩
 rcases S.own with z | z
 ·rw[z] at h;cases h
 ·rw[z] at h
  have:=List.mem_singleton.mp h
  cases this
  exact⟨rfl,z⟩
theorem cH.sub(S:cH X scope x cs)(ok:X.Ok){C:Yx}{y:Str}{c:Yx}(e:(vg X scope C).lookup y=some c):(c=C+1/\y=x/\(scope.names.filter λy=>y.2 == .cell)=[(x,.cell)])\/(X.env.cells.lookup y=some c/\scope.names.lookup y≠some .cell):=by
 have old:∀{y:Str}{c:Yx},(qY X.env scope.names []).lookup y=some c->X.env.cells.lookup y=some c:=λe=>tS (S.has ok) (λ_ _ z=>by cases z) e
 unfold vg at e
 rcases S.own with z | z
 ·rw[(lZ _ _ X.base z).1] at e
  refine .inr ⟨old e,λq=>?_⟩
  rw[(S.Dz q).2] at z
  cases z
 ·rw[(iA _ _ X.base z).1,gB] at e
  cases q:(y == x) with
  | true=>
   rw[q] at e
   cases e
   exact .inl ⟨rfl,eq_of_beq q,z⟩
  | false=>
   rw[q] at e
   exact .inr ⟨old e,λw=>by rw[(S.Dz w).1] at q;simp at q⟩
theorem cH.to(S:cH X scope x cs){C:Yx}{y:Str}{c:Yx}(e:(qY X.env scope.names []).lookup y=some c)(n:scope.names.lookup y≠some .cell):(vg X scope C).lookup y=some c:=by
 unfold vg
 rcases S.own with z | z
 ·rw[(lZ _ _ X.base z).1];exact e
 ·rw[(iA _ _ X.base z).1,gB]
  have hx:scope.names.lookup x=some .cell:=by
   have hm:(x,dX)∈scope.names.filter λy=>y.2 == .cell:=by rw[z];exact aP
   exact S.look _ (List.mem_filter.mp hm).1
  cases q:(y == x) with
  | true=>exact absurd (by rw[eq_of_beq q];exact hx) n
  | false=>exact e
theorem cH.Mo(S:cH X scope x cs){C:Yx}{y:Str}(h:(compEnvC scope (vg X scope C) C X.env).kindOf y=some .cell\/(compEnvC scope (vg X scope C) C X.env).kindOf y=some .free):scope.names.lookup y=some .free\/scope.names.lookup y=some .cell:=by
 have q:(compEnvC scope (vg X scope C) C X.env).kindOf y=(scope.names.lookup y).map λk=>if(k == dU&&X.env.scope.kind == .function&&X.env.kindOf y == some .cell)=true then dX else k:=lX
 rw[q] at h
 cases e:scope.names.lookup y with
 | none=>rw[e] at h;simp at h
 | some k=>
  rw[e] at h
  simp only[oD,Option.some.injEq] at h
  by_cases hk:k= .free
  ·rw[hk];exact .inl rfl
  ·have hb:(k == dU)=false:=by simpa using hk
   rw[hb] at h
   simp only[Bool.false_and,y6,if_false] at h
   rcases h with h | h
   ·rw[h];exact .inr rfl
   ·exact absurd h hk
theorem cH.DA(S:cH X scope x cs){C:Yx}{y:Str}(e:scope.names.lookup y=some .free):(compEnvC scope (vg X scope C) C X.env).kindOf y=some .cell\/(compEnvC scope (vg X scope C) C X.env).kindOf y=some .free:=by
 have q:(compEnvC scope (vg X scope C) C X.env).kindOf y=(scope.names.lookup y).map λk=>if(k == dU&&X.env.scope.kind == .function&&X.env.kindOf y == some .cell)=true then dX else k:=lX
 rw[q,e]
 simp only[oD]
 split
 ·exact .inl rfl
 ·exact .inr rfl
theorem vh{fp:List Yx}{tk:Nat}{E:YD->YC->Prop}(S:cH X scope x cs)(I:Inv X pins σ H s)(hf:∀b∈fp,du X pins H b)(hl:∀b∈fp,b < s.heap.objs.size) :
  Inv (fK X scope x cs s.heap.objs.size s H fp (X.pn++pins) E) [] (none::lY cs σ) H { s with heap:=pushCells (s.heap.push { cls:=.type "dict",data:=.dict #[] }) scope.names,toks:=tk }:=by
 have keep:∀b o,s.heap.get? b=some o->(pushCells (s.heap.push { cls:=.type "dict",data:=.dict #[] }) scope.names).get? b=some o:=λb o e=>pushCells_keeps _ _ b o (aR _ e)
 have ns:(pushCells (s.heap.push { cls:=.type "dict",data:=.dict #[] }) scope.names).Ns s.heap.objs.size λ_=>none:=(Heap.Ns.new s.heap (.type "dict")).keeps (pushCells_keeps _ _)
 have own:(scope.names.filter λy=>y.2 == .cell)=[(x,.cell)]->(pushCells (s.heap.push { cls:=.type "dict",data:=.dict #[] }) scope.names).IsCell (s.heap.objs.size+1) none:=λz=>by
  rw[(iA 0 [] _ z).2]
  have:=cz (s.heap.push { cls:=.type "dict",data:=.dict #[] }) (o:={ cls:=.type "cell",data:=.cell none }) rfl
  rw[tU] at this
  exact⟨_,this,rfl⟩
 generalize (pushCells (s.heap.push { cls:=.type "dict",data:=.dict #[] }) scope.names)=h2 at keep ns own ⊢
 have sub:=λ{y:Str}{c:Yx}(e:(vg X scope s.heap.objs.size).lookup y=some c)=>S.sub I.ok e
 have cellK:∀y c,X.env.cells.lookup y=some c->∀v,s.heap.IsCell c v->h2.IsCell c v:=λy c _ v ⟨o,ho,hd⟩=>⟨o,keep c o ho,hd⟩
 have lt:∀{y:Str}{c:Yx},X.env.cells.lookup y=some c->c < s.heap.objs.size:=λ{y c} e=>by
  obtain⟨v,z⟩:=I.cell y c e
  exact z.lt
 refine⟨⟨I.ok.mod,S.kind,I.ok.glob,I.ok.blt,ak _,(λy z c e1 e2=>?_),λy h=>?_,(λy c e1 e2=>?_),I.ok.hd,I.ok.frames,.inl rfl,λb hb=>⟨bR (hl b hb),λy c e=>?_⟩,I.bs,aX I.ok.BQ I.sz,λb o e hb=>?_,λb hb=>pP I (hf b hb),I.stack,I.jP⟩,rfl,I.bare,Un.kept keep,⟨_,ns,λi y v e1 e2 e3=>?_⟩,(λy c e=>?_),I.fresh,(λy c e=>?_),λp hp=>?_,I.hok.kept keep,by unfold fK lY;simp⟩
 ·rcases sub e1 with ⟨q1,q2,_⟩ | ⟨q1,_⟩<;>rcases sub e2 with ⟨q3,q4,_⟩ | ⟨q3,_⟩
  ·rw[q2,q4]
  ·exact absurd (lt q3) (by rw[q1];exact Nat.not_lt.mpr (eK _))
  ·exact absurd (lt q1) (by rw[q3];exact Nat.not_lt.mpr (eK _))
  ·exact I.ok.inj y z c q1 q3
 ·rcases S.Mo h with k | k
  ·obtain⟨c,e⟩:=oC (env:=X.env) (y:=y) (names:=scope.names) (acc:=[]) (.inr (lookup_mem k))
   exact⟨c,S.to e (by rw[k];decide)⟩
  ·obtain⟨rfl,z⟩:=S.Dz k
   refine⟨s.heap.objs.size+1,?_⟩
   show(vg X scope s.heap.objs.size).lookup y=_
   unfold vg
   rw[(iA _ _ s.heap z).1,gB,beq_self_eq_true]
 ·rcases sub e2 with ⟨q1,_,_⟩ | ⟨_,q2⟩
  ·rw[q1];exact eK _
  ·exact absurd (eq_of_beq e1) q2
 ·rcases sub e with ⟨q1,_,_⟩ | ⟨q1,_⟩
  ·rw[q1];exact lF (y9 (hl b hb))
  ·exact(hf b hb).2.2.2.2.1 y c q1
 ·rcases(hf b hb).2.2.2.1 with z | z
  ·exact I.ok.Ag b o e z
  ·exact absurd (bK (aL e) (aX I.ok.BQ z)) (fq _)
 ·cases i with
  | zero=>cases e2
  | succ i=>
   have F6:(cs.map (·.1))[i]? =some y:=e1
   have Mq:(lY cs σ)[i]? =some (some v):=e2
   unfold lY at Mq
   rw[iH] at F6 Mq
   cases q:cs[i]? with
   | none=>rw[q] at F6;cases F6
   | some p=>
    rw[q] at F6 Mq
    have y1:p.1=y:=by simpa using F6
    have e4:(σ[p.2]?).getD none=some v:=by simpa using Mq
    have e5:σ[p.2]? =some (some v):=by
     cases q2:σ[p.2]? with
     | none=>rw[q2] at e4;cases e4
     | some o=>
      rw[q2] at e4
      have:o=some v:=e4
      rw[this]
    have hp:=S.at_ p (List.mem_iff_getElem?.mpr ⟨i,q⟩)
    rw[y1] at hp
    have kd:=S.cap (y,.free) (lookup_mem hp.2) rfl
    obtain⟨m,hn,hl'⟩:=I.loc
    obtain⟨u,r,l⟩:=hl' p.2 y v hp.1 e5 (.inr kd)
    refine⟨u,r,.inr ⟨S.DA hp.2,?_⟩⟩
    rcases l with ⟨l,_⟩ | ⟨_,c,e,z⟩
    ·rcases kd with kd | kd
     ·have SV:X.env.kindOf y=some .cell:=kd
      rw[SV] at l;cases l
     ·have SV:X.env.kindOf y=some .free:=kd
      rw[SV] at l;cases l
    ·obtain⟨c',e'⟩:=oC (env:=X.env) (y:=y) (names:=scope.names) (acc:=[]) (.inr (lookup_mem hp.2))
     have e6:=S.to (C:=s.heap.objs.size) e' (by rw[hp.2];decide)
     rcases sub e6 with ⟨_,w1,w2⟩ | ⟨w1,_⟩
     ·have hm:(x,dX)∈scope.names.filter λy=>y.2 == .cell:=by rw[w2];exact aP
      have:=S.look _ (List.mem_filter.mp hm).1
      rw[<-w1,hp.2] at this
      cases this
     ·rw[e] at w1
      cases w1
      exact⟨c,e6,cellK y c e _ z⟩
 ·rcases sub e with ⟨rfl,_,q2⟩ | ⟨q1,_⟩
  ·exact⟨none,own q2⟩
  ·obtain⟨v,z⟩:=I.cell y c q1
   exact⟨v,cellK y c q1 v z⟩
 ·rcases sub e with ⟨rfl,_,_⟩ | ⟨q1,_⟩
  ·exact I.hok.fresh (eK _)
  ·exact I.gQ y c q1
 ·rw[fc] at hp
  obtain⟨e,n,ne,nf,d⟩:=I.pin p hp
  refine⟨keep _ _ e,n,bR (aL e),λz=>?_,d⟩
  rcases List.mem_cons.mp (I.jd p.1 z) with q | q
  ·exact ne q
  ·exact nf q
theorem DB{fp:List Yx}{E:YD->YC->Prop}{Hb He:Hp}{sb se:YC}{C:Yx}{σ':St}{ig:List (Yx×Obj)}(I:Inv X pins σ Hb sb)(hf:∀b∈fp,du X pins Hb b)(J:Inv (fK X scope x cs C sb Hb fp (X.pn++pins) E) ig σ' He se):Inv X pins σ He se:=by
 have un:Un (frs X.stack) fp Hb He sb.heap se.heap:=J.base
 exact I.rn (ch:=fp) J.os un J.hok J.bare λb hb=>⟨(hf b hb).2.2.2.1,(hf b hb).2.1,(hf b hb).2.2.2.2.1,λp hp=>(hf b hb).2.2.2.2.2 p hp⟩
theorem jV{He:Hp}{se:YC}{C:Yx}{h2:Heap}(I:Inv X pins σ He se)(f:du X pins He C)(same:wQ C se.heap h2):Inv X pins σ He { se with heap:=h2 } :=
 I.turned (t':=se.toks) (it:=C) (λb o hb e=>(same.2 b hb).trans e) f.1 f.2.1 f.2.2.2.1 f.2.2.2.2.1 f.2.2.2.2.2
end
def DC(X:Cx):Prop:=∃(env:Env)(outer:List Env)(L:Yx),X.stack=env::outer/\env.frame=some L/\X.env.frame=some L
section
variable {X:Cx} {pins:List (Yx×Obj)} {σ:St} {scope:Scope} {x:Str} {cs:dN}
end
structure DD(Y:Cx->Prop)(P:YB)(w:YE)(K:PySem.W.Frag)(tg:Expr)(J:It)(fp:List Yx)(it:Yx)(tn:Nat->Heap->Prop):Prop where
 obj:∀i h,tn i h->∀b∈fp,∃o,h.get? b=some o/\∀v,o.data≠.cell v
 keep:∀i h h',tn i h->(∀b∈fp,∀o,h.get? b=some o->h'.get? b=some o)->tn i h'
 item:∀(X:Cx),X.prog=P->X.w=w->X.K=K->Y X->∀(i:Nat)(pins:List (Yx×Obj))(s:YC)(σ:St)(H:Hp)(E:YD->YC->Prop),Inv X pins σ H s->(∀b∈fp,du X pins H b)->tn i s.heap->J.go i H->YR (model P w) X.A (pyNext (.ref it)) (λr s1=>∃u,r=some u/\
  YR (model P w) X.A (letOwnedTupleGo tg (.ref it) u) (λ_ s2=>∃x H',Inv X pins σ H' s2/\RelV x u/\J.uD i H x H'/\tn (i+1) s2.heap/\∀b∈fp,H' b=none) E s1) E s
 done:∀(X:Cx),X.prog=P->X.w=w->X.K=K->Y X->∀(i:Nat)(pins:List (Yx×Obj))(s:YC)(σ:St)(H:Hp)(E:YD->YC->Prop),Inv X pins σ H s->(∀b∈fp,du X pins H b)->tn i s.heap->J.stop i H->YR (model P w) X.A (pyNext (.ref it)) (λr s1=>r=none/\Inv X pins σ H s1) E s
 self:∀(A:Yy)(i:Nat)(s:YC)(Q:YD->YC->Prop)(E:YD->YC->Prop),tn i s.heap->Q (.ref it) s->YR (model P w) A (pyIter (.ref it)) Q E s
abbrev Calm(X:Cx):Prop:=X.calm=true
theorem _root_.L2.Turn.y{P:YB}{w:YE}{K:PySem.W.Frag}{tg:Expr}{J:It}{fp:List Yx}{it:Yx}{tn:Nat->Heap->Prop}(T:Turn P w K tg J fp it tn):DD Calm P w K tg J fp it tn:=⟨T.obj,T.keep,T.item,T.done,T.self⟩
def PQ(Y:Cx->Prop)(X:Cx):Prop:=∀{pins:List (Yx×Obj)}{σ:St}{H:Hp}{s:YC}(scope:Scope)(x:Str)(cs:dN)(C:Yx)(s0:YC)(fp:List Yx)(pn:List (Yx×Obj))(E:YD->YC->Prop),Inv X pins σ H s->Y (fK X scope x cs C s0 H fp pn E)
theorem vi{X:Cx}(hc:X.calm=true):PQ Calm X:=λ_ _ _ _ _ _ _ _ _=>hc
def y_(X:Cx)(ifs:List Expr)(g:GT):Prop:=∀(ρ:a9)(st:Hs)(σ:St)(H:Hp)(m:Mp)(Q:Bool->Hp->Prop),aY X.K m st H->aq X.K m H ρ σ->ik X σ m H (g ρ st) Q->∀(pins:List (Yx×Obj))(s:YC),Inv X pins σ H s->
 YR (model X.prog X.w) X.A (forIn ifs true λc r=>if r=true then do let ok <-isTrue c X.env (eval c X.env);pure (kR ok) else pure (kR r)) (TP X pins σ Q) X.xe s
section
variable {X:Cx}
theorem za:y_ X [] (λ_ st=> .ok true st):=λρ st σ H m Q S R p pins s I=>wpAny_tests_nil ⟨H,I,p m H Ext.refl S⟩
theorem zb{c:Expr}{g:GT}(h:JT X c g):y_ X [c] g:=λρ st σ H m Q S R p pins s I=>wpAny_tests_one (h ρ st σ H m Q S R p pins s I)
theorem xy{pins:List (Yx×Obj)}{σ:St}{ρ:a9}{scope:Scope}{x:Str}{cs:dN}{px pos:Pos}{elt iter:Expr}{ifs:List Expr}{gt:GT}{ge:GE}{ck:Hs->Prop}{ws:List Wv}{E:YD->YC->Prop}
  {use:Option (YD->Sem Unit)}{Q:YD->YC->Prop}{res:Re Unit}
  {it:Yx}{fp:List Yx}{tn:Nat->Heap->Prop}{J':It}{H2:Hp}{s2:YC}{m1:Mp}{st1:Hs}{Y:Cx->Prop}(fr:DC X)(S:cH X scope x cs)(hY:PQ Y X)(hH:Mh X)(I2:Inv X pins σ H2 s2)(T:DD Y X.prog X.w X.K (.Name x px) J' fp it tn)(t0:tn 0 s2.heap)(f2:∀b∈fp,du X pins H2 b)
  (S1:aY X.K m1 st1 H2)(R:aq X.K m1 H2 ρ σ)(hck:ck (st1++[.lst []]))(run:nR ck (λw=>gt (some w::cq cs ρ)) (λw=>ge (some w::cq cs ρ)) st1.length ws (st1++[.lst []])=res)(nb:res≠.bad)(hx:∀c WY,res≠.err c WY)
  (hE:∀C s0 H0 pn E,AU X.A H0->JE (fK X scope x cs C s0 H0 fp pn E) elt ge)(hT:∀C s0 H0 pn E,AU X.A H0->y_ (fK X scope x cs C s0 H0 fp pn E) ifs gt)
  (hgo:∀(k:Nat)(H:Hp)(m':Mp)(st:Hs),Ext X.K m1 H2 m' H->aY X.K m' st H->ck st->k < ws.length->J'.go k H)(hstop:∀(k:Nat)(H:Hp)(m':Mp)(st:Hs),Ext X.K m1 H2 m' H->aY X.K m' st H->ck st->k=ws.length->J'.stop k H)
  (hy:∀(k:Nat)(hk:k < ws.length)(H:Hp)(v:V)(H':Hp)(m':Mp)(st:Hs),Ext X.K m1 H2 m' H->aY X.K m' st H->ck st->J'.uD k H v H'->H'=H/\af X.K m' H ws[k] v)
  (fin:∀(mO:Hs),res= .ok () mO->∀(D C:Yx)(mm:Str->Option YD)(m':Mp)(H':Hp)(s':YC),Ext X.K m1 H2 m' H'->aY X.K m' mO H'->m'[st1.length]? =some D->Inv X pins σ H' s'->du X pins H' C->s'.heap.Ns C mm->(∀y c,X.env.cells.lookup y=some c->c≠C)->YJ (model X.prog X.w) X.A X.xe use Q (.ref D) C (.ok .next) s') :
  YR (model X.prog X.w) X.A (newList []) (λacc s3=>YR (model X.prog X.w) X.A (newFunctionEnv scope X.env.globals (qY X.env scope.names []) [] X.env.qual none .none (some X.env)) (λcenv s4=>
   YI (model X.prog X.w) X.A (.compStart (.ListComp elt [⟨.Name x px,iter,ifs,0⟩] scope pos) 0 (.ref it) acc { cenv with scope:=relabel scope X.env }) (YJ (model X.prog X.w) X.A X.xe use Q acc cenv.locals) s4) E s3) E s2:=by
 refine YW ?_
 have I3:Inv X pins σ (upd H2 s2.heap.objs.size (.lst [])) { s2 with heap:=s2.heap.push { cls:=.type "list",data:=.seq ([]:List YD).toArray } }:=I2.GQ (ys:=[]) (its:=[]) (t':=s2.toks) .nil (bZ _)
 have SX:∀b∈fp,b < s2.heap.objs.size:=λb hb=>by
  obtain⟨o,e,_⟩:=T.obj _ _ t0 b hb
  exact aL e
 have hD:H2 s2.heap.objs.size=none:=I2.fresh
 have f3:∀b∈fp,du X pins (upd H2 s2.heap.objs.size (.lst [])) b:=λb hb=>⟨by rw[ar (bR (SX b hb))];exact(f2 b hb).1,(f2 b hb).2⟩
 have S3:=S1.alloc (ws:=[]) (xs:=[]) hD ae.nil
 have e3:Ext X.K m1 H2 (m1++[s2.heap.objs.size]) (upd H2 s2.heap.objs.size (.lst [])):=Ext.more.trans (Ext.upd (.inl hD))
 have HF:(m1++[s2.heap.objs.size])[st1.length]? =some s2.heap.objs.size:=by
  rw[<-S1.len,hV (ak _),tw];rfl
 generalize m6:({ s2 with heap:=s2.heap.push { cls:=.type "list",data:=.seq ([]:List YD).toArray } }:YC)=s3 at I3
 have PR:∀b o,s2.heap.get? b=some o->s3.heap.get? b=some o:=λb o e=>by rw[<-m6];exact aR _ e
 have Mr:∀b∈fp,b < s3.heap.objs.size:=λb hb=>by
  obtain⟨o,e,_⟩:=T.obj _ _ t0 b hb
  exact aL (PR b o e)
 generalize WZ:s2.heap.objs.size=D at *
 generalize W0:upd H2 D (.lst [])=H3 at *
 generalize W2:m1++[D]=m3 at *
 have R3:aq X.K m3 H3 (cq cs ρ) (lY cs σ):=(y8 cs R).mono e3
 generalize hrr:cq cs ρ=ρc at *
 generalize hss:lY cs σ=σc at *
 refine jw ?_
 have Ic:=λE=>vh (E:=E) (tk:=s3.toks) S I3 f3 Mr
 have PU:∀b o,s3.heap.get? b=some o->(pushCells (s3.heap.push { cls:=.type "dict",data:=.dict #[] }) scope.names).get? b=some o:=λb o e=>pushCells_keeps _ _ b o (aR _ e)
 generalize (pushCells (s3.heap.push { cls:=.type "dict",data:=.dict #[] }) scope.names)=h4 at Ic PU ⊢
 have t4:tn 0 h4:=T.keep _ _ _ t0 λb _ o e=>PU b o (PR b o e)
 let EX:YD->YC->Prop:=notedBy (model X.prog X.w) X.A (compEnvC scope (vg X scope s3.heap.objs.size) s3.heap.objs.size X.env) λe s'=>YJ (model X.prog X.w) X.A X.xe use Q (.ref D) s3.heap.objs.size (.error e) s'
 let Xc:=fK X scope x cs s3.heap.objs.size s3 H3 fp (X.pn++pins) EX
 have noted:∀{σ':St}{m:Mp}{H:Hp}{c:Str}{st:Hs},Ext X.K m1 H2 m H->res= .err c st->N4 Xc σ' m H c st:=λ_ er=>(hx _ _ er).elim
 have vis:Loc Xc.env.scope x/\(Xc.fn x=true\/Xc.env.scope.names.lookup x=some .local):=by
  rcases S.var with v | v
  ·exact⟨.inl (lookup_relabel_local v),.inr (lookup_relabel_local v)⟩
  ·have q:Xc.env.scope.names.lookup x=some .cell:=by
    show(scope.names.map _).lookup x=_
    rw[lX,v]
    rfl
   exact⟨.inr q,.inl (by show(scope.names.lookup x == some .cell)=true;rw[v];rfl)⟩
 have Ms:∀(H':Hp),(∀b∈fp,H' b=none)->∀b∈fp,du Xc [] H' b:=λH' hn b hb=>⟨hn b hb,bR (Mr b hb),pP I3 (f3 b hb),.inl hb,λy c e=>(by
  rcases S.sub I3.ok e with ⟨q1,_,_⟩ | ⟨q1,_⟩
  ·rw[q1];exact lF (y9 (Mr b hb))
  ·exact(f3 b hb).2.2.2.2.1 y c q1),λp hp=>(f2 b hb).2.2.2.2.2 p (by have PV:p∈(X.pn++pins)++[]:=hp;rw[fc] at PV;exact PV)⟩
 let Pv:Nat->YC->Prop:=λk s'=>∃z H' st m',Inv Xc [] (z::σc) H' s'/\tn k s'.heap/\(∀b∈fp,H' b=none)/\Ext X.K m3 H3 m' H'/\aY X.K m' st H'/\ck st/\nR ck (λw=>gt (some w::ρc)) (λw=>ge (some w::ρc)) st1.length (ws.drop k) st=res
 have loop:∀s4:YC,Pv 0 s4->YI (model X.prog X.w) X.A (.compLoop (.ListComp elt [⟨.Name x px,iter,ifs,0⟩] scope pos) 0 (.ref it) (.ref D) (compEnvC scope (vg X scope s3.heap.objs.size) s3.heap.objs.size X.env)) (YJ (model X.prog X.w) X.A X.xe use Q (.ref D) s3.heap.objs.size) s4:=λs4 p0=>by
  refine codeAny_compLoop_tests (λn s'=>∃k,n=ws.length - k/\k<=ws.length/\Pv k s') ?_ ws.length ⟨0,by simp,bZ _,p0⟩
  rintro n s5 ⟨k,rfl,hk,z5,H5,uL,m5,I5,PX,La,e5,S5,c5,a6⟩
  have DE:=e3.trans e5
  by_cases hlt:k < ws.length
  ·refine bg (T.item Xc rfl rfl rfl (hY _ _ _ _ _ _ _ _ I3) k [] s5 (z5::σc) H5 _ I5 (Ms H5 La) PX (hgo k H5 m5 uL DE S5 c5 hlt)) λr s6 h6=>?_
   obtain⟨u,rfl,h6⟩:=h6
   show YR (model X.prog X.w) X.A (pure () >>= λ_=>assign (.Name x px) Xc.env u) _ _ s6
   refine YS (bg h6 λ_ s7 h7=>?_)
   obtain⟨v,H7,I7,rv,yl,Mt,SY⟩:=h7
   obtain⟨rfl,PY⟩:=hy k hlt H5 v H7 m5 uL DE S5 c5 yl
   have N8:=I7.pinned (Ms H7 SY) (T.obj _ _ Mt)
   refine wpAny_assign_Name (lD (i:=0) N8 S.nd rfl vis.1 rv (λs8 I8=>?_) vis.2)
   have Q9:Inv Xc ([]++dI fp s7.heap) (some v::σc) H7 s8:=I8
   have R8:aq X.K m5 H7 (some ws[k]::ρc) (some v::σc):=by
    have R5:=R3.mono e5
    refine⟨by simp[R5.len],λi w e=>?_⟩
    cases i with
    | zero=>
     cases e
     exact⟨v,rfl,PY⟩
    | succ i=>exact R5.get i w e
   have ed:ws.drop k=ws[k]::ws.drop (k+1):=pK hlt
   rw[ed] at a6
   unfold nR at a6
   have back:∀{H':Hp}{s':YC}{m':Mp}{st:Hs},Inv Xc ([]++dI fp s7.heap) (some v::σc) H' s'->Ext X.K m3 H3 m' H'->aY X.K m' st H'->ck st->nR ck (λw=>gt (some w::ρc)) (λw=>ge (some w::ρc)) st1.length (ws.drop (k+1)) st=res->∃n',n' < ws.length - k/\∃k',n'=ws.length - k'/\k'<=ws.length/\Pv k' s' :=
    λ{H' s' m' st} I' e' S' c' r'=>⟨ws.length - (k+1),by omega,k+1,rfl,hlt,some v,H',st,m',I'.jf,T.keep _ _ _ Mt λb hb o e=>(I'.pin (b,o) (e_ _ (e_ _ (eZ hb e)))).1,λb hb=>by
     obtain⟨o,e,_⟩:=T.obj _ _ Mt b hb
     exact(I'.pin (b,o) (e_ _ (e_ _ (eZ hb e)))).2.1,e',S',c',r'⟩
   cases eg:gt (some ws[k]::ρc) uL with
   | err c BX=>
    rw[eg] at a6
    refine YV (hT s3.heap.objs.size s3 H3 (X.pn++pins) EX (hH.at I3) (some ws[k]::ρc) uL (some v::σc) H7 m5 (λ_ _=>False) S5 R8 (by rw[eg];exact noted DE a6.symm) ([]++dI fp s7.heap) s8 Q9) (λ_ _ h9=>?_) λ_ _ z=>z
    obtain⟨_,_,z⟩:=h9
    exact z.elim
   | bad=>rw[eg] at a6;exact absurd a6.symm nb
   | ok b BX=>
    rw[eg] at a6
    have F4:=hT s3.heap.objs.size s3 H3 (X.pn++pins) EX (hH.at I3) (some ws[k]::ρc) uL (some v::σc) H7 m5 (λb' H'=>b'=b/\∃m',Ext X.K m5 H7 m' H'/\aY X.K m' BX H') S5 R8 (by rw[eg];exact λm' H' e' S'=>⟨rfl,m',e',S'⟩) ([]++dI fp s7.heap) s8 Q9
    refine YV F4 (λok s9 h9=>?_) λ_ _ z=>z
    obtain⟨H9,I9,rfl,m9,e9,S9⟩:=h9
    cases ok with
    | false=>
     dsimp only at a6
     by_cases c6:ck BX
     ·rw[if_pos c6] at a6
      rw[if_neg cQ]
      exact back I9 (e5.trans e9) S9 c6 a6
     ·rw[if_neg c6] at a6;exact absurd a6.symm nb
    | true=>
     dsimp only at a6
     rw[if_pos rfl]
     cases ee:ge (some ws[k]::ρc) BX with
     | err c HG=>
      rw[ee] at a6
      refine YV (hE s3.heap.objs.size s3 H3 (X.pn++pins) EX (hH.at I3) (some ws[k]::ρc) BX (some v::σc) H9 m9 (λ_ _=>False) S9 (R8.mono e9) (by rw[ee];exact noted (DE.trans e9) a6.symm) ([]++dI fp s7.heap) s9 I9) (λ_ _ PZ=>?_) λ_ _ z=>z
      obtain⟨_,_,_,_,z⟩:=PZ
      exact z.elim
     | bad=>rw[ee] at a6;exact absurd a6.symm nb
     | ok w HG=>
      rw[ee] at a6
      dsimp only at a6
      cases ea:iL (.ref st1.length) w HG with
      | err c Mu=>rw[ea] at a6;exact absurd a6.symm nb
      | bad=>rw[ea] at a6;exact absurd a6.symm nb
      | ok w2 Mu=>
       rw[ea] at a6
       dsimp only at a6
       by_cases c8:ck Mu
       ·rw[if_pos c8] at a6
        have el:=hE s3.heap.objs.size s3 H3 (X.pn++pins) EX (hH.at I3) (some ws[k]::ρc) BX (some v::σc) H9 m9 (λv' H'=>∃m',Ext X.K m9 H9 m' H'/\aY X.K m' HG H'/\af X.K m' H' w v') S9 (R8.mono e9) (by rw[ee];exact λv' m' H' e' S' r'=>⟨m',e',S',r'⟩) ([]++dI fp s7.heap) s9 I9
        refine YV el (λu2 vj PZ=>?_) λ_ _ z=>z
        obtain⟨v2,DF,S8,r2,Mv,Mw,S_,Mx⟩:=PZ
        obtain⟨r,h1,h2⟩:=tQ (X:=Xc)
        have eA:=(e5.trans e9).trans Mw
        have ro:af X.K Mv DF (.ref st1.length) (.ref D):=by unfold af;exact⟨D,rfl,eA.pre _ _ HF⟩
        have rd:=h2 (.ref st1.length) w (.ref D) v2 HG DF Mv (λ_ H'=>∃m',Ext X.K Mv DF m' H'/\aY X.K m' Mu H') S_ ro Mx (by rw[ea];exact λv' m' H' e' S' r'=>⟨m',e',S'⟩)
        refine YV (h1 ([]++dI fp s7.heap) vj (some v::σc) DF (.ref D) [v2] (.ref D) [u2] _ S8 rfl (.cons r2 .nil) rd) (λ_ Q_ h11=>?_) λ_ _ z=>z
        obtain⟨_,Ra,Tf,_,W3,Rb,Th⟩:=h11
        exact back Tf (eA.trans Rb) Th c8 a6
       ·rw[if_neg c8] at a6;exact absurd a6.symm nb
  ·have ek:k=ws.length:=by omega
   subst ek
   refine bg (T.done Xc rfl rfl rfl (hY _ _ _ _ _ _ _ _ I3) _ [] s5 (z5::σc) H5 _ I5 (Ms H5 La) PX (hstop _ H5 m5 uL DE S5 c5 rfl)) λr s6 h6=>?_
   obtain⟨rfl,I6⟩:=h6
   rw[pL] at a6
   obtain⟨mm,Ti,_⟩:=id I6.loc
   have fC:=I3.oZ (H':=H5) (ak _) I6.free
   exact fin uL a6.symm D _ mm m5 H5 _ DE S5 (e5.pre _ _ HF) (DB I3 f3 I6) fC Ti fC.2.2.2.2.1
 have p0:Pv 0 { s3 with heap:=h4,toks:=s3.toks }:=⟨none,H3,st1++[Ob.lst []],m3,hss ▸ Ic EX,t4,λb hb=>(f3 b hb).1,Ext.refl,S3,hck,by rw[List.drop_zero];exact run⟩
 exact codeAny_compStart_list (loop _ p0) (T.self X.A 0 _ _ _ t4 (loop _ p0))
end
abbrev Wk:=Option Nat×List Wv
def jb(w:Wk)(st:Hs):Prop:=match w.1 with
 | some l=>aj st l=some w.2
 | none=>True
structure vm(X:Cx)(w:Wk)(m1:Mp)(H1:Hp)(J':It):Prop where
 go:∀(k:Nat)(H:Hp)(m':Mp)(st:Hs),Ext X.K m1 H1 m' H->aY X.K m' st H->jb w st->k < w.2.length->J'.go k H
 stop:∀(k:Nat)(H:Hp)(m':Mp)(st:Hs),Ext X.K m1 H1 m' H->aY X.K m' st H->jb w st->k=w.2.length->J'.stop k H
 uD:∀(k:Nat)(hk:k < w.2.length)(H:Hp)(v:V)(H':Hp)(m':Mp)(st:Hs),Ext X.K m1 H1 m' H->aY X.K m' st H->jb w st->J'.uD k H v H'->H'=H/\af X.K m' H w.2[k] v
abbrev GI:=a9->Hs->Re Wk
def Tj(Y:Cx->Prop)(X:Cx)(pins:List (Yx×Obj))(σ:St)(tg:Expr)(R:It->Hp->Prop)(itv:YD)(s2:YC):Prop :=
 ∃(it:Yx)(fp:List Yx)(tn:Nat->Heap->Prop)(J:It)(H':Hp),itv= .ref it/\Inv X pins σ H' s2/\DD Y X.prog X.w X.K tg J fp it tn/\tn 0 s2.heap/\(∀b∈fp,du X pins H' b)/\R J H'
def Vu(Y:Cx->Prop)(X:Cx)(tg iter:Expr)(wi:TI):Prop:=∀(pins:List (Yx×Obj))(s:YC)(σ:St)(H:Hp)(R:It->Hp->Prop),Inv X pins σ H s->wi σ H R->
 YR (model X.prog X.w) X.A (eval iter X.env) (λv s1=>YR (model X.prog X.w) X.A (pyIter v) (Tj Y X pins σ tg R) X.xe s1) X.xe s
theorem _root_.L2.PI.y{X:Cx}{tg iter:Expr}{wi:TI}(h:PI X tg iter wi):Vu Calm X tg iter wi:=λpins s σ H R I q=>bg (h pins s σ H R I q) λ_ _ h1=>bg h1 λ_ _ h2=>
 let ⟨it,fp,tn,J,H',e,I',T,r⟩:=h2;⟨it,fp,tn,J,H',e,I',T.y,r⟩
def Rc(Y:Cx->Prop)(X:Cx)(tg iter:Expr)(gi:GI):Prop:=∃wi,Vu Y X tg iter wi/\∀(ρ:a9)(st:Hs)(σ:St)(H:Hp)(m:Mp)(R:It->Hp->Prop),aY X.K m st H->aq X.K m H ρ σ->
 ao X σ m H (gi ρ st) (λw st1=>∀(m1:Mp)(H1:Hp)(J':It),Ext X.K m H m1 H1->aY X.K m1 st1 H1->jb w st1->vm X w m1 H1 J'->R J' H1)->wi σ H R
def JI(X:Cx)(tg iter:Expr)(gi:GI):Prop:=∃wi,PI X tg iter wi/\∀(ρ:a9)(st:Hs)(σ:St)(H:Hp)(m:Mp)(R:It->Hp->Prop),aY X.K m st H->aq X.K m H ρ σ->
 ao X σ m H (gi ρ st) (λw st1=>∀(m1:Mp)(H1:Hp)(J':It),Ext X.K m H m1 H1->aY X.K m1 st1 H1->jb w st1->vm X w m1 H1 J'->R J' H1)->wi σ H R
theorem JI.y{X:Cx}{tg iter:Expr}{gi:GI}(h:JI X tg iter gi):Rc Calm X tg iter gi:=let ⟨wi,h1,h2⟩:=h;⟨wi,h1.y,h2⟩
def Mz(w:Wv)(st:Hs):Re Wk:=match w with
 | .ref l=>(match aj st l with | some ws=> .ok (some l,ws) st | none=> .bad)
 | .tup ws=> .ok (none,ws) st
 | .pB ws=> .ok (none,ws) st
 | _=> .bad
def DG(g:GE):GI:=λρ st=>(g ρ st).bind Mz
section
variable {X:Cx}
theorem MA{tg iter:Expr}{g:GE}(h:JE X iter g):JI X tg iter (DG g):=by
 refine⟨_,Dk aG,λρ st σ H m Q S R p=>?_⟩
 refine h.go S R (ao.bind p) λw st1 v m1 H1 p1 e1 S1 rw'=>?_
 cases w with
 | ref l=>
  unfold af at rw'
  obtain⟨a,rfl,hla⟩:=rw'
  unfold Mz at p1
  cases el:aj st1 l with
  | none=>simp only[el] at p1;exact aa p1
  | some ws=>
   simp only[el] at p1
   obtain⟨Dm,q0,_⟩:=S1.read hla el
   refine⟨a,rfl,.inl ⟨⟨Dm,q0⟩,p1 m1 H1 _ e1 S1 el ⟨λk H' m' st' e S' c hk=>?_,λk H' m' st' e S' c hk=>?_,λk hk H' v Tn m' st' e S' c y=>?_⟩⟩⟩
   ·obtain⟨xs,hq,rws⟩:=S'.read (e.pre _ _ hla) c
    have hx':k < xs.length:=by rw[<-rws.length];exact hk
    exact⟨xs,xs[k],hq,by simp[hx']⟩
   ·obtain⟨xs,hq,rws⟩:=S'.read (e.pre _ _ hla) c
    exact⟨xs,hq,by rw[<-rws.length,hk];exact ak _⟩
   ·obtain⟨xs,hq,rws⟩:=S'.read (e.pre _ _ hla) c
    obtain⟨ee,y⟩:=y
    refine⟨ee,?_⟩
    obtain⟨x',ex',mY⟩:=rws.get (i:=k) (w:=ws[k]) (bX hk)
    rw[y xs hq] at ex'
    cases ex'
    exact mY
 | tup ws=>
  unfold af at rw'
  obtain⟨a,xs,rfl,hq,rws⟩:=rw'
  refine⟨a,rfl,.inr ⟨⟨xs,eX.of hq⟩,p1 m1 H1 _ e1 S1 trivial ⟨λk H' m' st' e S' c hk=>?_,λk H' m' st' e S' c hk=>?_,λk hk H' v Tn m' st' e S' c y=>?_⟩⟩⟩
  ·have hx':k < xs.length:=by rw[<-rws.length];exact hk
   exact⟨xs,xs[k],eX.of (e.tup _ _ hq),by simp[hx']⟩
  ·exact⟨xs,eX.of (e.tup _ _ hq),by rw[<-rws.length,hk];exact ak _⟩
  ·obtain⟨ee,y⟩:=y
   refine⟨ee,?_⟩
   obtain⟨x',ex',mY⟩:=(ae.mono e _ _ rws).get (i:=k) (w:=ws[k]) (bX hk)
   rw[y xs (eX.of (e.tup _ _ hq))] at ex'
   cases ex'
   exact mY
 | pB ws=>
  unfold af at rw'
  obtain⟨a,xs,rfl,hq,rws⟩:=rw'
  refine⟨a,rfl,.inr ⟨⟨xs,.inr hq⟩,p1 m1 H1 _ e1 S1 trivial ⟨λk H' m' st' e S' c hk=>?_,λk H' m' st' e S' c hk=>?_,λk hk H' v Tn m' st' e S' c y=>?_⟩⟩⟩
  ·have hx':k < xs.length:=by rw[<-rws.length];exact hk
   exact⟨xs,xs[k],.inr hq,by simp[hx']⟩
  ·exact⟨xs,.inr hq,by rw[<-rws.length,hk];exact ak _⟩
  ·obtain⟨ee,y⟩:=y
   refine⟨ee,?_⟩
   obtain⟨x',ex',mY⟩:=(ae.mono e _ _ rws).get (i:=k) (w:=ws[k]) (bX hk)
   rw[y xs (.inr hq)] at ex'
   cases ex'
   exact mY
 | _=>exact aa p1
theorem MB{lo:Int}{n:Nat}{m1:Mp}{H1:Hp}:vm X (none,cn lo n) m1 H1 (K9 lo n) where
 go:=λk H m' st e S c hk=>by
  have:(cn lo n).length=n:=de
  have hk':k < (cn lo n).length:=hk
  rw[this] at hk';exact hk'
 stop:=λk H m' st e S c hk=>by
  have:(cn lo n).length=n:=de
  have hk':k=(cn lo n).length:=hk
  rw[this] at hk';exact lJ hk'.symm
 uD:=λk hk H v H' m' st e S c y=>by
  obtain⟨y1,y2⟩:=y
  refine⟨y1,?_⟩
  have q:(cn lo n)[k]'hk= .int (lo+k):=vb hk
  show af X.K m' H ((cn lo n)[k]'hk) v
  rw[q,y2]
  exact mkInt
def zc(ws:List Wv)(st:Hs):Re Wk:=match ws with
 | [.int j]=>if lT j then .ok (none,cn 0 j.toNat) st else .bad
 | _=> .bad
def J3(ws:List Wv)(st:Hs):Re Wk:=match ws with
 | [.int a,.int j]=>if lT a/\lT j then .ok (none,cn a (j - a).toNat) st else .bad
 | _=> .bad
def vn(g:GA):GI:=λρ st=>(g ρ st).bind zc
def To(g:GA):GI:=λρ st=>(g ρ st).bind J3
theorem P0{tg a:Expr}{ga:GA}{p q:Pos}(hg:Gl X "range")(hm:X.mg "range"=none)(ha:JA X [a] ga)(hst:YQ [a] X.env=[(false,eval a X.env)]):JI X tg (.Call (.Name "range" p) [a] [] q) (vn ga):=by
 refine⟨_,rA hg hm i0 hst,λρ st σ H m Q S R p=>?_⟩
 refine ha.go S R (ao.bind p) λws st1 vs m1 H1 p1 e1 S1 rs=>?_
 match ws,rs,p1 with
 | [],rs,p1=>exact aa p1
 | x::y::t,rs,p1=>cases x<;>exact aa p1
 | [x],rs,p1=>
  obtain⟨v,rfl,r1⟩:=i_ rs
  cases x with
  | int j=>
   cases aT r1
   unfold zc at p1
   by_cases c:lT j
   ·simp only[if_pos c] at p1
    exact⟨j,rfl,c.1,c.2,p1 m1 H1 _ e1 S1 trivial MB⟩
   ·simp only[if_neg c] at p1;exact aa p1
  | _=>exact aa p1
def DH:GI:=λ_ _=> .bad
theorem vo{tg iter:Expr}:PI X tg iter (λ_ _ _=>False):=λ_ _ _ _ _ _ h=>h.elim
theorem DI{tg iter:Expr}:JI X tg iter DH:=⟨_,vo,λρ st σ H m Q S R p=>p⟩
def bU(cs:dN)(gt:GT)(ge:GE)(ρ:a9)(w:Wk)(st:Hs):Re Wv:=match iz (jb w) (λv=>gt (some v::cq cs ρ)) (λv=>ge (some v::cq cs ρ)) st.length w.2 (st++[.lst []]) with
 | some mO=> .ok (.ref st.length) mO
 | none=> .bad
def aZ(cs:dN)(gi:GI)(gt:GT)(ge:GE):GE:=λρ st=>(gi ρ st).bind λw st1=>bU cs gt ge ρ w st1
theorem rN{st:Hs}{l:Nat}{ws:List Wv}{more:Hs}(h:aj st l=some ws):aj (st++more) l=some ws:=by
 unfold aj at h ⊢
 cases e:st[l]? with
 | none=>rw[e] at h;cases h
 | some o=>
  have hl:=(List.getElem?_eq_some_iff.mp e).1
  rw[cG hl,e]
  rw[e] at h
  exact h
theorem pQ{w:Wk}{st more:Hs}(h:jb w st):jb w (st++more):=by
 obtain⟨o,ws⟩:=w
 cases o with
 | none=>trivial
 | some l=>exact rN h
theorem zd{scope:Scope}{x:Str}{cs:dN}{px pos:Pos}{elt iter:Expr}{ifs:List Expr}{gi:GI}{gt:GT}{ge:GE}{use:Option (YD->Sem Unit)}{Q:YD->YC->Prop}{P:Wv->Hs->Prop}
  {ρ:a9}{st:Hs}{σ:St}{H:Hp}{m:Mp}{pins:List (Yx×Obj)}{s:YC}{ps:Pos}
  {Y:Cx->Prop}(fr:DC X)(CS:cH X scope x cs)(hc:PQ Y X)(hH:Mh X)(hi:Rc Y X (.Name x px) iter gi)(hE:∀C s0 H0 fp pn E,AU X.A H0->JE (fK X scope x cs C s0 H0 fp pn E) elt ge)(hT:∀C s0 H0 fp pn E,AU X.A H0->y_ (fK X scope x cs C s0 H0 fp pn E) ifs gt)(hs:∀x,YL iter X.env x=pure x)
  (S:aY X.K m st H)(R:aq X.K m H ρ σ)(I:Inv X pins σ H s)(p:ao X σ m H (aZ cs gi gt ge ρ st) P)
  (fin:∀(w:Wv)(mO:Hs)(v:V)(D C:Yx)(mm:Str->Option YD)(m':Mp)(H':Hp)(s':YC),P w mO->Ext X.K m H m' H'->aY X.K m' mO H'->af X.K m' H' w v->v= .ref D->Inv X pins σ H' s'->du X pins H' C->s'.heap.Ns C mm->YJ (model X.prog X.w) X.A X.xe use Q (.ref D) C (.ok .next) s') :
  YR (model X.prog X.w) X.A (comprehension (.ListComp elt [⟨.Name x px,iter,ifs,0⟩] scope pos) scope X.env ps (newList []) false (eval iter X.env) use) Q X.xe s:=by
 obtain⟨wi,P4,hw⟩:=hi
 let R':It->Hp->Prop:=λJ' H1=>∃(w:Wk)(st1:Hs)(m1:Mp),ao X σ m H (bU cs gt ge ρ w st1) P/\Ext X.K m H m1 H1/\aY X.K m1 st1 H1/\jb w st1/\vm X w m1 H1 J'
 have hr:=hw ρ st σ H m R' S R ((ao.bind p).imp Ext.refl λw st1 q m1 H1 J' e1 S1 c1 tV=>⟨w,st1,m1,q,e1,S1,c1,tV⟩)
 refine wpAny_comprehension_free (g:=⟨.Name x px,iter,ifs,0⟩) (gs:=[]) (cl:=qY X.env scope.names []) rfl hs (y7 (CS.has I.ok)) CS.kind (λy hy e=>by rw[CS.look y hy,e]) (bg (P4 pins s σ H R' I hr) λv s1 h1=>bg h1 λitv s2 h2=>?_)
 obtain⟨it,fp,tn,J',H1,rfl,I2,T,t0,f2,w,st1,m1,q,e1,S1,c1,tV⟩:=h2
 unfold bU at q
 cases run:iz (jb w) (λv=>gt (some v::cq cs ρ)) (λv=>ge (some v::cq cs ρ)) st1.length w.2 (st1++[.lst []]) with
 | none=>
  rw[run] at q
  exact aa q
 | some mO=>
  rw[run] at q
  refine xy (use:=use) (Q:=Q) fr CS hc hH I2 T t0 f2 S1 (R.mono e1) (pQ c1) (pO _ _ run) (by intro z;cases z) (λc' W4 z=>by cases z) (λC s0 H0 pn E=>hE C s0 H0 fp pn E) (λC s0 H0 pn E=>hT C s0 H0 fp pn E) tV.go tV.stop tV.uD ?_
  intro W5 z D C mm m' H' s' e' S' HF I' fC ns _
  cases z
  exact fin _ mO (.ref D) D C mm m' H' s' q (e1.trans e') S' (by unfold af;exact⟨D,rfl,HF⟩) rfl I' fC ns
theorem ze{scope:Scope}{x:Str}{cs:dN}{px pos:Pos}{elt iter:Expr}{ifs:List Expr}{gi:GI}{gt:GT}{ge:GE}
  {Y:Cx->Prop}(fr:DC X)(CS:cH X scope x cs)(hc:PQ Y X)(hH:Mh X)(hi:Rc Y X (.Name x px) iter gi)(hE:∀C s0 H0 fp pn E,AU X.A H0->JE (fK X scope x cs C s0 H0 fp pn E) elt ge)(hT:∀C s0 H0 fp pn E,AU X.A H0->y_ (fK X scope x cs C s0 H0 fp pn E) ifs gt)(hs:∀x,YL iter X.env x=pure x) :
  JE X (.ListComp elt [⟨.Name x px,iter,ifs,0⟩] scope pos) (aZ cs gi gt ge):=λρ st σ H m Q S R p pins s I=>by
 rw[eval_ListComp]
 refine zd (use:=none) fr CS hc hH hi hE hT hs S R I p ?_
 intro w mO v D C mm m' H' s' q e' S' rw' ev I' fC ns
 exact⟨mm,ns,λh' same=>⟨.ref D,H',jV I' fC same,rfl,ev ▸ q v m' H' e' S' rw'⟩⟩
theorem HH(i:Nat){scope:Scope}{x y:Str}{cs:dN}{px pos spos py:Pos}{elt iter:Expr}{ifs:List Expr}{gi:GI}{gt:GT}{ge:GE}(hN:X.N.Nodup)
  {Y:Cx->Prop}(fr:DC X)(CS:cH X scope x cs)(hc:PQ Y X)(hH:Mh X)(hi:Rc Y X (.Name x px) iter gi)(hE:∀C s0 H0 fp pn E,AU X.A H0->JE (fK X scope x cs C s0 H0 fp pn E) elt ge)(hT:∀C s0 H0 fp pn E,AU X.A H0->y_ (fK X scope x cs C s0 H0 fp pn E) ifs gt)(hs:∀x,YL iter X.env x=pure x)
  (hx:X.N[i]? =some y)(hl:Loc X.env.scope y)(hf:X.fn y=true\/X.env.scope.names.lookup y=some .local) :
  JS X (.Assign [.Name y py] (.ListComp elt [⟨.Name x px,iter,ifs,0⟩] scope pos) spos) (bM i (aZ cs gi gt ge)):=by
 have sw:∃b,swapsWith (.ListComp elt [⟨.Name x px,iter,ifs,0⟩] scope pos) (some (.Name y py)) spos.line X.env=pure b:=⟨_,rfl⟩
 obtain⟨b,sw⟩:=sw
 cases b with
 | false=>exact tM i hN (ze fr CS hc hH hi hE hT hs) hx hl sw hf
 | true=>
  intro ρ st σ H m D S R p pins s I
  rw[exec_Assign_Name_used _ _ _ _ sw]
  refine YS (wpAny_standAt (YS ?_))
  show YR _ X.A (do let _ <-comprehension (.ListComp elt [⟨.Name x px,iter,ifs,0⟩] scope pos) scope X.env _ (newList []) false (eval iter X.env) (some (assign (.Name y py) X.env))) _ _ s
  refine YS (YV (zd (use:=some (assign (.Name y py) X.env)) (Q:=λ_ s'=>SP X pins D .next s') fr CS hc hH hi hE hT hs S R I (aF.cO R p) ?_) (λ_ s' hq=>YY (YY hq)) λ_ _ e=>e)
  intro w mO v D' C mm m' H' s' q e' S' rw' ev I' fC ns
  refine wpAny_assign_Name (mQ (i:=i) I' hN hx hl (show RelV v (.ref D') by rw[ev];rfl) (λs2 I2 h2=>?_) hf)
  obtain⟨a,sb,ha⟩:=h2
  have hca:C≠a:=by
   rcases ha with z | z
   ·rw[z];exact fC.2.1
   ·exact bt (fC.2.2.2.2.1 y a z)
  exact⟨mm,ns.sameBut sb hca,λh' same=>⟨_,_,jV I2 fC same,q _ m' H' e' S' ((R.mono e').set i rw')⟩⟩
end
section
variable {X:Cx}
def AX(n:Nat)(k:Int):Prop:=-(2 ^ 62)<=k/\k < 2 ^ 62/\n * k.toNat<=lim
instance {n k}:Decidable (AX n k):=Dp _
def pR:gM
 | .ref l,.int n,st=>match st[l]? with
  | some (.lst ws)=>if AX ws.length n then .ok (.ref st.length) (st++[.lst (aD n.toNat ws).flatten]) else .bad
  | _=> .bad
 | x,y,st=>J0 x y st
theorem rO{K:PySem.W.Frag}{m:Mp}{H:Hp}{ws:List Wv}{xs:List V}(r:ae K m H ws xs):∀n:Nat,ae K m H (aD n ws).flatten (aD n xs).flatten
 | 0=>ae.nil
 | n+1=>by
  rw[gR,pk,gR,pk]
  exact r.append (rO r n)
theorem HI:jc X (YG .Mult) pR:=by
 obtain⟨r,h1,h2⟩:=Hw (X:=X)
 refine⟨_,fb.or LA h1,λx y a b st H m Q S rx ry p=>?_⟩
 unfold pR at p
 split at p
 ·rename_i l n
  unfold af at rx
  obtain⟨a1,rfl,hl⟩:=rx
  cases aT ry
  cases e:st[l]? with
  | none=>rw[e] at p;exact aa p
  | some o=>
   cases o with
   | dct kvs=>rw[e] at p;exact aa p
   | yV kvs=>rw[e] at p;exact aa p
   | CM kvs=>rw[e] at p;exact aa p
   | BS kvs=>rw[e] at p;exact aa p
   | tq ns=>rw[e] at p;exact aa p
   | lst ws=>
    rw[e] at p
    dsimp only at p
    by_cases c:AX ws.length n
    ·rw[if_pos c] at p
     obtain⟨xs,q1,q2⟩:=S.uU hl e
     refine .inl ⟨a1,n,xs,rfl,rfl,q1,by have:=c.1;omega,by have:=c.2.1;omega,by rw[<-q2.length];exact ff c.2.2,λq hq=>?_⟩
     exact gz p Ext.refl S (rO q2 n.toNat) q hq
    ·rw[if_neg c] at p;exact aa p
 ·exact .inr (h2 x y a b st H m Q S rx ry p)
def xA:List Wv->Hs->Re Wv
 | [.ref l],st=>match aj st l with
  | some ws=> .ok (.ref st.length) (st++[.lst ws])
  | none=> .bad
 | [.tup ws],st=> .ok (.ref st.length) (st++[.lst ws])
 | _,_=> .bad
theorem HJ:cA X (.type "list") xA:=⟨_,sZ,λws vs st H m Q S rs p=>by
 match ws,rs,p with
 | [],rs,p=>exact aa p
 | x::y::t,rs,p=>cases x<;>exact aa p
 | [x],rs,p=>
  obtain⟨v,rfl,r1⟩:=i_ rs
  cases x with
  | ref l=>
   unfold xA at p
   unfold af at r1
   obtain⟨a,rfl,hl⟩:=r1
   cases e:aj st l with
   | none=>simp only[e] at p;exact aa p
   | some ws=>
    simp only[e] at p
    obtain⟨xs,q1,q2⟩:=S.read hl e
    exact⟨a,xs,rfl,.inl q1,λq hq=>gz p Ext.refl S q2 q hq⟩
  | tup ws=>
   unfold af at r1
   obtain⟨a,xs,rfl,q1,q2⟩:=r1
   exact⟨a,xs,rfl,.inr (eX.of q1),λq hq=>gz p Ext.refl S q2 q hq⟩
  | _=>exact aa p⟩
def pS:List Wv->Hs->Re Wv
 | [.ref l],st=>match aj st l with
  | some ws=> .ok (.tup ws) st
  | none=> .bad
 | [.tup ws],st=> .ok (.tup ws) st
 | _,_=> .bad
theorem MC:cA X (.type "tuple") pS:=⟨_,qU,λws vs st H m Q S rs p=>by
 match ws,rs,p with
 | [],rs,p=>exact aa p
 | x::y::t,rs,p=>cases x<;>exact aa p
 | [x],rs,p=>
  obtain⟨v,rfl,r1⟩:=i_ rs
  cases x with
  | ref l=>
   unfold pS at p
   unfold af at r1
   obtain⟨a,rfl,hl⟩:=r1
   cases e:aj st l with
   | none=>simp only[e] at p;exact aa p
   | some ws=>
    simp only[e] at p
    obtain⟨xs,q1,q2⟩:=S.read hl e
    refine⟨a,xs,rfl,.inl ⟨q1,λq hq=>?_⟩⟩
    have e2:Ext X.K m H m (upd H q (.tup xs)):=Ext.upd (.inl hq)
    exact p (.ref q) m _ e2 (S.fresh hq) (by unfold af;exact⟨q,xs,rfl,aC,ae.mono e2 _ _ q2⟩)
  | tup ws=>
   have r1':=r1
   unfold af at r1'
   obtain⟨a,xs,rfl,q1,q2⟩:=r1'
   exact⟨a,xs,rfl,.inr ⟨eX.of q1,p _ m H Ext.refl S r1⟩⟩
  | _=>exact aa p⟩
end
section
variable {X:Cx}
def kT(ga gb:GE):GE:=λρ st=>match ga ρ st with
  | .bad=>gb ρ st
  | r=>r
theorem xB{e:Expr}{ga gb:GE}(ha:JE X e ga)(hb:JE X e gb):JE X e (kT ga gb):=by
  intro ρ st σ H m Q S R p
  unfold kT at p
  cases e1:ga ρ st with
  | bad=>rw[e1] at p;exact hb ρ st σ H m Q S R p
  | ok w st'=>rw[e1] at p;exact ha ρ st σ H m Q S R (by rw[e1];exact p)
  | err c st'=>rw[e1] at p;exact ha ρ st σ H m Q S R (by rw[e1];exact p)
def intsOf:List Wv->Option (List Int)
  | []=>some []
  | .int b::r=>(match intsOf r with | some l=>some (b::l) | none=>none)
  | _=>none
theorem fh:∀ns:List Int,intsOf (ns.map Wv.int)=some ns
  | []=>rfl
  | n::r=>by rw[aH];unfold intsOf;rw[fh r]
theorem gD{K:PySem.W.Frag}{m:Mp}{H:Hp}:∀{ws:List Wv}{xs:List V}{bs:List Int},ae K m H ws xs->intsOf ws=some bs->xs=bs.map V.int
  | [],xs,bs,r,h=>by
    unfold ae at r
    cases h
    exact r
  | w::ws,xs,bs,r,h=>by
    unfold ae at r
    obtain⟨x,t,rfl,r1,r2⟩:=r
    cases w with
    | int b=>
      unfold intsOf at h
      cases e:intsOf ws with
      | none=>rw[e] at h;cases h
      | some l=>
        rw[e] at h
        cases h
        unfold af at r1
        rw[r1,gD r2 e]
        rfl
    | _=>cases h
theorem jx:∀{ns:List Int}{its:List YD},Vals (ns.map V.int) its->∃xs:List (Int×Tok),its=xs.map (λp=>gP p.1 p.2)/\xs.map (·.1)=ns
  | [],its,r=>by cases r;exact⟨[],rfl,rfl⟩
  | n::ns,its,r=>by
    cases r with
    | cons h t=>
      obtain⟨tk,rfl⟩:=h
      obtain⟨xs,e1,e2⟩:=jx t
      exact⟨(n,tk)::xs,by rw[e1];rfl,by rw[<-e2];rfl⟩
theorem intsAre_of:∀xs:List (Int×Tok),IntsAre (xs.map λp=>gP p.1 p.2) (xs.map (·.1))
  | []=> .nil
  | p::r=> .cons p.1 p.2 (intsAre_of r)
theorem nT:∀{vs:List YD}{ns:List Int},IntsAre vs ns->Vals (ns.map V.int) vs
  | _,_,.nil=> .nil
  | _,_,.cons n t r=> .cons ⟨t,rfl⟩ (nT r)
theorem m7(xs:List (Int×Tok))(i:Nat):numAt xs.toArray i=(xs.map (·.1)).getD i 0:=by
  unfold numAt
  rw[List.getElem?_toArray,cC,iH]
theorem pT(xs:List (Int×Tok)):∀k,preSum (numAt xs.toArray) k=((xs.map (·.1)).take k).sum
  | 0=>by simp[preSum]
  | k+1=>by
    unfold preSum
    rw[pT xs k,m7]
    rw[PySem.sum_take_succ]
theorem AY(hc:X.calm=true):c9 X (.builtin "sum") (λxs H Q=>∃(p:Yx)(ns:List Int),xs=[.ref p]/\iF X.K H p (ns.map V.int)/\Q (.int ns.sum) H):=by
  intro pins s σ H xs us Q I r h
  obtain⟨p,ns,rfl,hq,q⟩:=h
  obtain⟨u,rfl,rx⟩:=vals1 r
  cases rx
  obtain⟨its,r',pl,hz⟩:=I.list hq
  obtain⟨xs,rfl,rfl⟩:=jx r'
  have hl:=pl.isList
  have e:(xs.map λp=>gP p.1 p.2).toArray=intItems xs.toArray:=by unfold intItems;simp
  rw[e] at hl
  refine sum_intListG (I.ok.hd hc) hl λh' tk t' hk=>⟨.int _,H,I.kept hk,⟨t',?_⟩,q⟩
  rw[pT,List.take_of_length_le (by simp)]
def xC:List Wv->Hs->Re Wv
  | [.ref l],st=>match aj st l with
    | some ws=>(match intsOf ws with | some ns=> .ok (.int ns.sum) st | none=> .bad)
    | none=> .bad
  | _,_=> .bad
theorem MD(hc:X.calm=true):cA X (.builtin "sum") xC:=⟨_,AY hc,λws vs st H m Q S rs p=>by
  match ws,rs,p with
  | [],rs,p=>exact aa p
  | x::y::t,rs,p=>cases x<;>exact aa p
  | [x],rs,p=>
    obtain⟨v,rfl,r1⟩:=i_ rs
    cases x with
    | ref l=>
      unfold xC at p
      unfold af at r1
      obtain⟨a,rfl,hl⟩:=r1
      cases e:aj st l with
      | none=>simp only[e] at p;exact aa p
      | some ws=>
        simp only[e] at p
        cases e2:intsOf ws with
        | none=>simp only[e2] at p;exact aa p
        | some bs=>
          simp only[e2] at p
          obtain⟨xs,q1,q2⟩:=S.read hl e
          have q3:=gD q2 e2
          subst q3
          exact⟨a,bs,rfl,q1,p _ m H Ext.refl S mkInt⟩
    | _=>exact aa p⟩
def qZ(n:Int)(r:List Int):Int:=r.foldl (λa b=>if b > a then b else a) n
def q_(n:Int)(r:List Int):Int:=r.foldl (λa b=>if b < a then b else a) n
theorem xD:∀(r:List Int)(n:Int),qZ n r∈n::r/\∀a∈n::r,a<=qZ n r
  | [],n=>by simp[qZ]
  | b::r,n=>by
    have e:qZ n (b::r)=qZ (if b > n then b else n) r:=rfl
    obtain⟨h1,h2⟩:=xD r (if b > n then b else n)
    rw[e]
    constructor
    · rcases List.mem_cons.mp h1 with z | z
      · rw[z];split<;>simp
      · simp[z]
    · intro a ha
      have hn:n<=qZ (if b > n then b else n) r/\b<=qZ (if b > n then b else n) r:=by
        have q:=h2 _ aP
        revert q
        split<;>intro q<;>constructor<;>omega
      rcases List.mem_cons.mp ha with z | z
      · rw[z];exact hn.1
      · rcases List.mem_cons.mp z with z | z
        · rw[z];exact hn.2
        · exact h2 a (aJ _ z)
theorem xE:∀(r:List Int)(n:Int),q_ n r∈n::r/\∀a∈n::r,q_ n r<=a
  | [],n=>by simp[q_]
  | b::r,n=>by
    have e:q_ n (b::r)=q_ (if b < n then b else n) r:=rfl
    obtain⟨h1,h2⟩:=xE r (if b < n then b else n)
    rw[e]
    constructor
    · rcases List.mem_cons.mp h1 with z | z
      · rw[z];split<;>simp
      · simp[z]
    · intro a ha
      have hn:q_ (if b < n then b else n) r<=n/\q_ (if b < n then b else n) r<=b:=by
        have q:=h2 _ aP
        revert q
        split<;>intro q<;>constructor<;>omega
      rcases List.mem_cons.mp ha with z | z
      · rw[z];exact hn.1
      · rcases List.mem_cons.mp z with z | z
        · rw[z];exact hn.2
        · exact h2 a (aJ _ z)
theorem P5{n M:Int}{r:List Int}(h:M∈n::r)(k:∀a∈n::r,a<=M):M=qZ n r:=by
  obtain⟨h1,h2⟩:=xD r n
  have:=h2 M h
  have:=k _ h1
  omega
theorem P6{n M:Int}{r:List Int}(h:M∈n::r)(k:∀a∈n::r,M<=a):M=q_ n r:=by
  obtain⟨h1,h2⟩:=xE r n
  have:=h2 M h
  have:=k _ h1
  omega
theorem rP{l:List Int}{i:Nat}(h:i < l.length):l.getD i 0∈l:=by
  rw[cC,bX h]
  exact kU h
theorem AZ(hc:X.calm=true):c9 X (.builtin "max") (λxs H Q=>∃(p:Yx)(n:Int)(ns:List Int),xs=[.ref p]/\iF X.K H p ((n::ns).map V.int)/\Q (.int (qZ n ns)) H):=by
  intro pins s σ H xs us Q I r h
  obtain⟨p,n,ns,rfl,hq,q⟩:=h
  obtain⟨u,rfl,rx⟩:=vals1 r
  cases rx
  obtain⟨its,r',pl,hz⟩:=I.list hq
  obtain⟨xs,rfl,e0⟩:=jx r'
  have hl:=pl.isList
  have e:(xs.map λp=>gP p.1 p.2).toArray=intItems xs.toArray:=by unfold intItems;simp
  rw[e] at hl
  have hsz:xs.length=(n::ns).length:=by rw[<-e0];simp
  have hs0:0 < xs.toArray.size:=by simp[hsz]
  refine max_intList (I.ok.hd hc) hl hs0 λv h' tk hv hk=>?_
  obtain⟨t,rfl⟩:=intItems_at hv
  obtain⟨h1,h2⟩:=PySem.argBest_gt (numAt xs.toArray) (xs.toArray.size - 1)
  refine⟨.int _,H,I.kept hk,⟨t,?_⟩,q⟩
  congr 1
  have hn:=λi=>m7 xs i
  rw[e0] at hn
  refine P5 ?_ λa ha=>?_
  · rw[hn]
    refine rP ?_
    have:xs.toArray.size=(n::ns).length:=by simp[hsz]
    omega
  · obtain⟨j,hj,rfl⟩:=List.mem_iff_getElem.mp ha
    have q2 := h2 j (by have : xs.toArray.size = (n :: ns).length := by simp [hsz]
                        omega)
    rw[hn j,cC,bX hj] at q2
    exact q2
theorem A0(hc:X.calm=true):c9 X (.builtin "min") (λxs H Q=>∃(p:Yx)(n:Int)(ns:List Int),xs=[.ref p]/\iF X.K H p ((n::ns).map V.int)/\Q (.int (q_ n ns)) H):=by
  intro pins s σ H xs us Q I r h
  obtain⟨p,n,ns,rfl,hq,q⟩:=h
  obtain⟨u,rfl,rx⟩:=vals1 r
  cases rx
  obtain⟨its,r',pl,hz⟩:=I.list hq
  obtain⟨xs,rfl,e0⟩:=jx r'
  have hl:=pl.isList
  have e:(xs.map λp=>gP p.1 p.2).toArray=intItems xs.toArray:=by unfold intItems;simp
  rw[e] at hl
  have hsz:xs.length=(n::ns).length:=by rw[<-e0];simp
  have hs0:0 < xs.toArray.size:=by simp[hsz]
  refine min_intList (I.ok.hd hc) hl hs0 λv h' tk hv hk=>?_
  obtain⟨t,rfl⟩:=intItems_at hv
  obtain⟨h1,h2⟩:=PySem.argBest_lt (numAt xs.toArray) (xs.toArray.size - 1)
  refine⟨.int _,H,I.kept hk,⟨t,?_⟩,q⟩
  congr 1
  have hn:=λi=>m7 xs i
  rw[e0] at hn
  refine P6 ?_ λa ha=>?_
  · rw[hn]
    refine rP ?_
    have:xs.toArray.size=(n::ns).length:=by simp[hsz]
    omega
  · obtain⟨j,hj,rfl⟩:=List.mem_iff_getElem.mp ha
    have q2 := h2 j (by have : xs.toArray.size = (n :: ns).length := by simp [hsz]
                        omega)
    rw[hn j,cC,bX hj] at q2
    exact q2
def l5:List Wv->Hs->Re Wv
  | [.ref l],st=>match aj st l with
    | some ws=>(match intsOf ws with | some (n::r)=> .ok (.int (qZ n r)) st | _=> .bad)
    | none=> .bad
  | ws,st=>PM ws st
def l6:List Wv->Hs->Re Wv
  | [.ref l],st=>match aj st l with
    | some ws=>(match intsOf ws with | some (n::r)=> .ok (.int (q_ n r)) st | _=> .bad)
    | none=> .bad
  | ws,st=>PN ws st
theorem cA.or{f:YD}{op op':List Wv->Hs->Re Wv}(g:List Wv->Hs->Re Wv)(h:cA X f op)(h':cA X f op')(k:∀ws st,g ws st=op ws st\/g ws st=op' ws st):cA X f g:=by
  obtain⟨r,h1,h2⟩:=h
  obtain⟨r',JJ,h2'⟩:=h'
  refine⟨_,h1.or JJ,λws vs st H m Q S rs p=>?_⟩
  rcases k ws st with e | e
  · rw[e] at p;exact .inl (h2 ws vs st H m Q S rs p)
  · rw[e] at p;exact .inr (h2' ws vs st H m Q S rs p)
def DJ:List Wv->Hs->Re Wv
  | [.ref l],st=>match aj st l with
    | some ws=>(match intsOf ws with | some (n::r)=> .ok (.int (qZ n r)) st | _=> .bad)
    | none=> .bad
  | _,_=> .bad
def DK:List Wv->Hs->Re Wv
  | [.ref l],st=>match aj st l with
    | some ws=>(match intsOf ws with | some (n::r)=> .ok (.int (q_ n r)) st | _=> .bad)
    | none=> .bad
  | _,_=> .bad
theorem HK(hc:X.calm=true):cA X (.builtin "max") DJ:=⟨_,AZ hc,λws vs st H m Q S rs p=>by
  match ws,rs,p with
  | [],rs,p=>exact aa p
  | x::y::t,rs,p=>cases x<;>exact aa p
  | [x],rs,p=>
    obtain⟨v,rfl,r1⟩:=i_ rs
    cases x with
    | ref l=>
      unfold DJ at p
      unfold af at r1
      obtain⟨a,rfl,hl⟩:=r1
      cases e:aj st l with
      | none=>simp only[e] at p;exact aa p
      | some ws=>
        simp only[e] at p
        cases e2:intsOf ws with
        | none=>simp only[e2] at p;exact aa p
        | some bs=>
          cases bs with
          | nil=>simp only[e2] at p;exact aa p
          | cons n bs=>
            simp only[e2] at p
            obtain⟨xs,q1,q2⟩:=S.read hl e
            have q3:=gD q2 e2
            subst q3
            exact⟨a,n,bs,rfl,q1,p _ m H Ext.refl S mkInt⟩
    | _=>exact aa p⟩
theorem HL(hc:X.calm=true):cA X (.builtin "min") DK:=⟨_,A0 hc,λws vs st H m Q S rs p=>by
  match ws,rs,p with
  | [],rs,p=>exact aa p
  | x::y::t,rs,p=>cases x<;>exact aa p
  | [x],rs,p=>
    obtain⟨v,rfl,r1⟩:=i_ rs
    cases x with
    | ref l=>
      unfold DK at p
      unfold af at r1
      obtain⟨a,rfl,hl⟩:=r1
      cases e:aj st l with
      | none=>simp only[e] at p;exact aa p
      | some ws=>
        simp only[e] at p
        cases e2:intsOf ws with
        | none=>simp only[e2] at p;exact aa p
        | some bs=>
          cases bs with
          | nil=>simp only[e2] at p;exact aa p
          | cons n bs=>
            simp only[e2] at p
            obtain⟨xs,q1,q2⟩:=S.read hl e
            have q3:=gD q2 e2
            subst q3
            exact⟨a,n,bs,rfl,q1,p _ m H Ext.refl S mkInt⟩
    | _=>exact aa p⟩
theorem HM(hc:X.calm=true):cA X (.builtin "max") l5:=cA.or l5 (HK hc) (Mm hc) λws st=>by
  unfold l5 DJ
  split
  · exact .inl rfl
  · exact .inr rfl
theorem HN(hc:X.calm=true):cA X (.builtin "min") l6:=cA.or l6 (HL hc) (Mn hc) λws st=>by
  unfold l6 DK
  split
  · exact .inl rfl
  · exact .inr rfl
def insI(n:Int):List Int->List Int
  | []=>[n]
  | a::r=>if n<=a then n::a::r else a::insI n r
def kC:List Int->List Int
  | []=>[]
  | a::r=>insI a (kC r)
theorem insI_perm(n:Int):∀l:List Int,(insI n l).Perm (n::l)
  | []=> .refl _
  | a::r=>by
    unfold insI
    split
    · exact .refl _
    · exact((insI_perm n r).cons a).trans (.swap n a r)
theorem f':∀l:List Int,(kC l).Perm l
  | []=> .nil
  | a::r=>(insI_perm a (kC r)).trans ((f' r).cons a)
theorem vp(n:Int):∀l:List Int,l.Pairwise (· <=·)->(insI n l).Pairwise (· <=·)
  | [],_=>by simp[insI]
  | a::r,h=>by
    unfold insI
    rw[oE] at h
    split
    · rename_i c
      rw[oE,oE]
      refine⟨λb hb=>?_,h⟩
      rcases List.mem_cons.mp hb with z | z
      · rw[z];exact c
      · have:=h.1 b z;omega
    · rename_i c
      rw[oE]
      refine⟨λb hb=>?_,vp n r h.2⟩
      rcases List.mem_cons.mp ((insI_perm n r).mem_iff.mp hb) with z | z
      · rw[z];omega
      · exact h.1 b z
theorem pU:∀l:List Int,(kC l).Pairwise (· <=·)
  | []=> .nil
  | a::r=>vp a _ (pU r)
theorem HP{a b:List Int}(h:a.Perm b)(ha:a.Pairwise (· <=·))(hb:b.Pairwise (· <=·)):a=b :=
  xF (λ_ _ _ _ h1 h2=>by omega) ha hb h
theorem A1:c9 X (.builtin "sorted") (λxs H Q=>∃(p:Yx)(ns:List Int),xs=[.ref p]/\iF X.K H p (ns.map V.int)/\ns.length < 64/\∀l,H l=none->Q (.ref l) (upd H l (.lst ((kC ns).map V.int)))):=by
  intro pins s σ H xs us Q I r h
  obtain⟨p,ns,rfl,hq,h64,q⟩:=h
  obtain⟨u,rfl,rx⟩:=vals1 r
  cases rx
  obtain⟨its,r',pl,hz⟩:=I.list hq
  have hlen:=r'.length
  obtain⟨xs,rfl,rfl⟩:=jx r'
  refine sorted_ints pl.isList (intsAre_of xs) (by simpa using h64) λout ns' a1 a2 a3=>?_
  have e:ns'=kC (xs.map (·.1)):=HP (a2.trans (f' _).symm) a3 (pU _)
  subst e
  obtain⟨n,hat⟩:=sortedAll_at s.heap (xs.map λp=>gP p.1 p.2) out
  have hz':((kC (xs.map (·.1))).map V.int).length<=YO:=by
    rw[av,(f' _).length_eq]
    simpa using hz
  refine⟨.ref (s.heap.objs.size+1),_,I.laid (t':=s.toks) (λ_ _=>sortedAll_old) (eK _) (show cK X.prog X.w _ _ _ (.lst _) from⟨hz',out.toList,n,nT a1,?_⟩),rfl,q _ (I.hok.fresh (eK _))⟩
  rw[hat]
def DL:List Wv->Hs->Re Wv
  | [.ref l],st=>match aj st l with
    | some ws=>(match intsOf ws with | some ns=>if ns.length < 64 then .ok (.ref st.length) (st++[.lst ((kC ns).map Wv.int)]) else .bad | none=> .bad)
    | none=> .bad
  | _,_=> .bad
theorem ME:cA X (.builtin "sorted") DL:=⟨_,A1,λws vs st H m Q S rs p=>by
  match ws,rs,p with
  | [],rs,p=>exact aa p
  | x::y::t,rs,p=>cases x<;>exact aa p
  | [x],rs,p=>
    obtain⟨v,rfl,r1⟩:=i_ rs
    cases x with
    | ref l=>
      unfold DL at p
      unfold af at r1
      obtain⟨a,rfl,hl⟩:=r1
      cases e:aj st l with
      | none=>simp only[e] at p;exact aa p
      | some ws=>
        simp only[e] at p
        cases e2:intsOf ws with
        | none=>simp only[e2] at p;exact aa p
        | some bs=>
          simp only[e2] at p
          by_cases c:bs.length < 64
          · rw[if_pos c] at p
            obtain⟨xs,q1,q2⟩:=S.read hl e
            have q3:=gD q2 e2
            subst q3
            exact⟨a,bs,rfl,q1,c,λq hq=>gz p Ext.refl S (ae.ints _) q hq⟩
          · rw[if_neg c] at p;exact aa p
    | _=>exact aa p⟩
end
section
variable {X:Cx}
def kW(mt:PySem.Str->List Wv->Hs->Re Wv)(go:GE)(ga:GA):GE:=λρ st=>(go ρ st).bind λo st1=>match o with
 | .str z=>(ga ρ st1).bind λws st2=>(mt z ws st2).je
 | _=> .bad
def Vv(X:Cx)(id:String)(mt:PySem.Str->List Wv->Hs->Re Wv):Prop:=∃r,JD X id r/\∀(z:PySem.Str)(ws:List Wv)(vs:List V)(st:Hs)(H:Hp)(m:Mp)(Q:VK),aE z=true->aY X.K m st H->ae X.K m H ws vs->dC X.K m H (mt z ws st) Q->r (.str z) vs H Q
theorem DM{o:Expr}{name:Str}{id:String}{e:Expr}{es:List Expr}{go:GE}{ga:GA}{apos cpos:Pos}{mt:PySem.Str->List Wv->Hs->Re Wv}(hm:Vv X id mt)(slot:Slot "str" name id)(hty:typeOf (.builtin id)=pure (.type "method_descriptor"))(ho:JE X o go)(ha:JA X (e::es) ga)
  (hbase:attributeBase o name X.env (eval o X.env)=eval o X.env)
  (hfew:((backTo cpos (YQ (e::es) X.env)).all (λx=> !x.1)&&(backToKw cpos (keywordEach [] X.env)).all (λx=>x.1.isSome)&&decide ((e::es).length+([]:List Keyword).length+(if([]:List Keyword).isEmpty then 0 else 1) < 30))=true)
  (hline:(apos.endLine == cpos.line)=true)(hs:YQ (e::es) X.env=(false,eval e X.env)::YQ es X.env)(hplain:(backTo cpos (YQ es X.env)).any (·.1)=false) :
  JE X (.Call (.Attribute o name apos) (e::es) [] cpos) (kW mt go ga):=by
 obtain⟨r,h1,h2⟩:=hm
 refine JE.of (yP PySem.F.plainAttrs_str slot hty h1 aG i0 hbase hfew hline hs hplain) λρ st σ H m Q S R p=>?_
 refine ho.go S R (ao.bind p) λo st1 v m1 H1 p1 e1 S1 ro=>?_
 cases o with
 | str z=>
  dsimp only at p1
  unfold af at ro
  obtain⟨rfl,hz⟩:=ro
  refine⟨rfl,?_⟩
  refine ha.go S1 (R.mono e1) ((ao.bind p1).imp e1 λ_ _ q=>q) λws st2 vs m2 H2 p2 e2 S2 rs=>?_
  exact h2 z ws vs st2 H2 m2 Q hz S2 rs (dC.shift (ao.je p2) (e1.trans e2))
 | _=>exact aa p1
def strsOf:List Wv->Option (List PySem.Str)
 | []=>some []
 | .str b::r=>(match strsOf r with | some l=>some (b::l) | none=>none)
 | _=>none
theorem pV:∀ns:List PySem.Str,strsOf (ns.map Wv.str)=some ns
 | []=>rfl
 | n::r=>by rw[aH];unfold strsOf;rw[pV r]
theorem pW{K:PySem.W.Frag}{m:Mp}{H:Hp}:∀{ws:List Wv}{xs:List V}{bs:List PySem.Str},ae K m H ws xs->strsOf ws=some bs->xs=bs.map V.str/\∀b∈bs,aE b=true
 | [],xs,bs,r,h=>by
  unfold ae at r
  cases h
  exact⟨r,λ_ z=>by cases z⟩
 | w::ws,xs,bs,r,h=>by
  unfold ae at r
  obtain⟨x,t,rfl,r1,r2⟩:=r
  cases w with
  | str b=>
   unfold strsOf at h
   cases e:strsOf ws with
   | none=>rw[e] at h;cases h
   | some l=>
    rw[e] at h
    cases h
    unfold af at r1
    obtain⟨rfl,hb⟩:=r1
    obtain⟨q1,q2⟩:=pW r2 e
    refine⟨by rw[q1];rfl,λc hc=>?_⟩
    rcases List.mem_cons.mp hc with z | z
    ·rw[z];exact hb
    ·exact q2 c z
  | _=>cases h
theorem vt:∀{ns:List PySem.Str}{its:List YD},Vals (ns.map V.str) its->StrsAre its ns
 | [],its,r=>by cases r;exact .nil
 | n::ns,its,r=>by
  cases r with
  | cons h t=>
   obtain⟨tk,rfl⟩:=h
   exact .cons n tk (vt t)
theorem rQ{z:PySem.Str}:aE z=true↔∀c∈z.cps.toList,c < 1114112:=by
 unfold aE
 rw[Pp]
 constructor
 ·intro h c hc
  simpa using h c (Array.mem_toList_iff.mp hc)
 ·intro h c hc
  simpa using h c (Array.mem_toList_iff.mpr hc)
end
section
variable {X:Cx}
theorem MF:F3 X (λx lo hi H Q=>∃z,x= .str z/\z.length<=YO/\Q (.str (jW z lo hi)) H):=by
 intro pins s σ H x v vl vu lo hi sl Q I rx hs pl pu h
 obtain⟨z,rfl,hz,q⟩:=h
 obtain⟨t,rfl⟩:=rx
 have fin:∀t' k,EP X pins σ Q (.str (jW z lo hi) t') { s with toks:=k }:=λt' k=>⟨.str _,H,I.tok k,⟨t',rfl⟩,q⟩
 refine⟨"str",_,PySem.F.slot_str_getitem.lookup,typeIs_str _ _ _,?_⟩
 have hl:=aX (Txt.slice_le z lo hi) hz
 cases pl with
 | none=>
  cases pu with
  | none=>exact wpAny_getItem_str_slice (l:=none) (u:=none) (st:=none) hs rfl (post_val_or_str ⟨hl,fin⟩)
  | int j tj=>exact wpAny_getItem_str_slice (l:=none) (u:=some (j,tj)) (st:=none) hs rfl (post_val_or_str ⟨hl,fin⟩)
 | int i ti=>
  cases pu with
  | none=>exact wpAny_getItem_str_slice (l:=some (i,ti)) (u:=none) (st:=none) hs rfl (post_val_or_str ⟨hl,fin⟩)
  | int j tj=>exact wpAny_getItem_str_slice (l:=some (i,ti)) (u:=some (j,tj)) (st:=none) hs rfl (post_val_or_str ⟨hl,fin⟩)
theorem A2{z:PySem.Str}{lo hi:Option Int}{c:Nat}(h:c∈(jW z lo hi).cps.toList):c∈z.cps.toList:=by
 unfold jW at h
 split at h
 ·exact h
 ·simp only[List.mem_filterMap] at h
  obtain⟨i,_,e⟩:=h
  rw[Array.getElem?_eq_some_iff] at e
  obtain⟨hi,rfl⟩:=e
  exact Array.mem_toList_iff.mpr (Array.getElem_mem hi)
theorem vw{z:PySem.Str}{lo hi:Option Int}(h:aE z=true):aE (jW z lo hi)=true:=by
 rw[rQ] at h ⊢
 exact λc hc=>h c (A2 hc)
end
section
open HT
theorem ra{prog:YB}{w:YE}{A:Yy}{E:YD->YC->Prop}{s:YC}{t sl:Yx}{us:Array YD}{vl vu:YD}{lo hi:Option Int}{Q:YD->YC->Prop}(ht:IsTup s.heap t us)(hs:s.heap.IsSliceOf sl vl vu .none)(pl:IsPart vl lo)(pu:IsPart vu hi)
  (hw:c7 us.size 0 lo=0/\c7 us.size us.size hi=us.size)(h:Q (.ref t) s):YR (model prog w) A (getItem (.ref t) (.ref sl)) Q E s:=by
 obtain⟨os,o1,o2,o3⟩:=id hs
 have tys:s.TypeIs (.ref sl) "slice":=⟨os,o1,o2⟩
 unfold getItem;try with_reducible refine YU ?_
 first | refine YS (YY ?_) | skip
 refine YS (wpAny_sequenceKey ht.typeIs (by decide) ?_);refine YS (wpAny_callSpecial?_slot (name:=lH "__getitem__") ht.typeIs sS (wpAny_call_entry sS ht.typeIs entry_tuple_getitem ?_ (args_tuple_getitem _ _)))
 show YR _ _ (Lq (.ref t) >>= _) _ _ _;refine YS (tupleItemsOf_ ht ?_);refine YS (wpAny_typeOf tys ?_)
 rw[if_pos (by decide)];refine YS (ij hs pl pu ?_)
 rw[hw.1,hw.2]
 have yes:((((0:Nat):Int)) == 0&&(1:Int) == 1&&(us.size - 0) == us.size)=true:=by simp
 show YR _ _ (if((((0:Nat):Int)) == 0&&(1:Int) == 1&&(us.size - 0) == us.size)=true then _ else _) _ _ s
 rw[if_pos yes]
 refine YS (m:=MG _) ?_
 unfold MG
 refine YS (wpAny_typeOf ht.typeIs (YY ?_))
 rw[if_pos (by decide)]
 exact YS (wpAny_rule (YY ⟨_,rfl,YY h⟩))
end
section
variable {X:Cx}
def Tp(K:PySem.W.Frag):V->Option Int->Option Int->Hp->VK->Prop:=λx lo hi H Q=>∃a xs,x= .ref a/\eX K H a xs/\(HT.c7 xs.length 0 lo=0/\HT.c7 xs.length xs.length hi=xs.length)/\Q (.ref a) H
theorem DN:F3 X (Tp X.K):=by
 intro pins s σ H x v vl vu lo hi sl Q I rx hs pl pu h
 obtain⟨a,xs,rfl,hx,hw,q⟩:=h
 cases rx
 obtain⟨its,r,ht,hz⟩:=I.tuple hx
 have n:its.toArray.size=xs.length:=by rw[a8];exact r.length.symm
 exact⟨"tuple",_,PyProof.Rows.slot_tuple_getitem.lookup,ht.typeIs,ra ht hs pl pu (by rw[n];exact hw) ⟨.ref a,H,I,rfl,q⟩⟩
def A3(n:Nat)(lo hi:Option Int):Prop:=HT.c7 n 0 lo=0/\HT.c7 n n hi=n
instance {n:Nat}{lo hi:Option Int}:Decidable (A3 n lo hi):=inferInstanceAs (Decidable (HT.c7 n 0 lo=0/\HT.c7 n n hi=n))
def DO(x:Wv)(lo hi:Option Int)(st:Hs):Re Wv:=match x with
 | .str z=>if z.length<=lim then .ok (.str (jW z lo hi)) st else .bad
 | .tup ws=>if A3 ws.length lo hi then .ok (.tup ws) st else Pr (.tup ws) lo hi st
 | x=>Pr x lo hi st
def ft(ga:GE)(gl gh:GO):GE:=λρ st=>(ga ρ st).bind λx st1=>(gl ρ st1).bind λlo st2=>(gh ρ st2).bind λhi st3=>DO x lo hi st3
theorem A4{a:Expr}{lo hi:Option Expr}{ga:GE}{gl gh:GO}{pos p2:Pos}(ha:JE X a ga)(hl:JO X lo gl)(hh:JO X hi gh):JE X (.Subscript a (.Slice lo hi none p2) pos) (ft ga gl gh):=by
 have hS:JE X (.Subscript a (.Slice lo hi none p2) pos) (λρ st=>(ga ρ st).bind λx st1=>(gl ρ st1).bind λlo st2=>(gh ρ st2).bind λhi st3=>match x with | .str z=>if z.length<=lim then .ok (.str (jW z lo hi)) st3 else .bad | _=> .bad):=by
  refine JE.of (pf MF aG rH rH) λρ st σ H m Q S R p=>?_
  refine ha.go S R (ao.bind p) λx st1 v m1 H1 p1 e1 S1 rx=>?_
  refine hl.go S1 (R.mono e1) ((ao.bind p1).imp e1 λ_ _ q=>q) λl st2 m2 H2 p2 e2 S2=>?_
  refine hh.go S2 (R.mono (e1.trans e2)) ((ao.bind p2).imp (e1.trans e2) λ_ _ q=>q) λh st3 m3 H3 p3 e3 S3=>?_
  have AE:=e1.trans (e2.trans e3)
  cases x with
  | str z=>
   dsimp only at p3
   by_cases c:z.length<=lim
   ·rw[if_pos c] at p3
    unfold af at rx
    obtain⟨rfl,hz⟩:=rx
    exact⟨z,rfl,ff c,p3 _ m3 H3 AE S3 (mkStr (vw hz))⟩
   ·rw[if_neg c] at p3;exact aa p3
  | _=>exact aa p3
 have hW:JE X (.Subscript a (.Slice lo hi none p2) pos) (λρ st=>(ga ρ st).bind λx st1=>(gl ρ st1).bind λlo st2=>(gh ρ st2).bind λhi st3=>match x with | .tup ws=>if A3 ws.length lo hi then .ok (.tup ws) st3 else Pr (.tup ws) lo hi st3 | _=> .bad):=by
  refine JE.of (pf (F3.or DN Cs) aG rH rH) λρ st σ H m Q S R p=>?_
  refine ha.go S R (ao.bind p) λx st1 v m1 H1 p1 e1 S1 rx=>?_
  refine hl.go S1 (R.mono e1) ((ao.bind p1).imp e1 λ_ _ q=>q) λl st2 m2 H2 p2 e2 S2=>?_
  refine hh.go S2 (R.mono (e1.trans e2)) ((ao.bind p2).imp (e1.trans e2) λ_ _ q=>q) λh st3 m3 H3 p3 e3 S3=>?_
  have AE:=e1.trans (e2.trans e3)
  cases x with
  | tup ws=>
   dsimp only at p3
   have mY:=af.mono (e2.trans e3) _ _ rx
   unfold af at mY
   obtain⟨a',xs,rfl,f1,f2⟩:=mY
   by_cases c:A3 ws.length l h
   ·rw[if_pos c] at p3
    unfold A3 at c
    rw[f2.length] at c
    exact .inl ⟨a',xs,rfl,eX.of f1,c,p3 _ m3 H3 AE S3 (by unfold af;exact⟨a',xs,rfl,f1,f2⟩)⟩
   ·rw[if_neg c] at p3
    unfold Pr at p3
    dsimp only at p3
    unfold A3 at c
    rw[if_neg c] at p3
    rw[f2.length] at c
    refine .inr ⟨a',xs,rfl,eX.of f1,c,λq hq=>?_⟩
    have eU:Ext X.K m3 H3 m3 (L2.upd H3 q (.tup (qQ xs l h))):=Ext.iJ (.inl hq)
    exact p3 (.ref q) m3 _ (AE.trans eU) (S3.fresh hq) (by unfold af;exact⟨q,_,rfl,L2.aC,ae.mono eU _ _ (tL f2)⟩)
  | _=>exact aa p3
 intro ρ st σ H m Q S R p
 unfold ft at p
 cases e1:ga ρ st with
 | bad=>rw[e1] at p;exact aa p
 | err c st1=>rw[e1] at p;exact uZ ha hl hh ρ st σ H m Q S R (by unfold xo;rw[e1];exact p)
 | ok x st1=>
  rw[e1] at p
  cases x with
  | str z=>exact hS ρ st σ H m Q S R (by dsimp only;rw[e1];exact p)
  | tup ws=>exact hW ρ st σ H m Q S R (by dsimp only;rw[e1];exact p)
  | _=>exact uZ ha hl hh ρ st σ H m Q S R (by unfold xo;rw[e1];exact p)
def MH:gM
 | .str i,.str j,st=> .ok (.bl (!(mS j i 0 j.length 1).isEmpty)) st
 | x,y,st=>SG x y st
def l7:gM
 | .str i,.str j,st=> .ok (.bl (!(!(mS j i 0 j.length 1).isEmpty))) st
 | x,y,st=>xn x y st
theorem MI:jc X (YK .In) MH:=by
 obtain⟨r,h1,h2⟩:=Po (X:=X)
 refine⟨_,fb.or Al h1,λx y a b st H m Q S rx ry p=>?_⟩
 unfold MH at p
 split at p
 ·rename_i i j
  unfold af at rx ry
  obtain⟨rfl,_⟩:=rx
  obtain⟨rfl,_⟩:=ry
  exact .inl ⟨i,j,rfl,rfl,p _ m H Ext.refl S iq⟩
 ·exact .inr (h2 x y a b st H m Q S rx ry p)
theorem A5:jc X (YK .NotIn) l7:=by
 obtain⟨r,h1,h2⟩:=C4 (X:=X)
 refine⟨_,fb.or sW h1,λx y a b st H m Q S rx ry p=>?_⟩
 unfold l7 at p
 split at p
 ·rename_i i j
  unfold af at rx ry
  obtain⟨rfl,_⟩:=rx
  obtain⟨rfl,_⟩:=ry
  exact .inl ⟨i,j,rfl,rfl,p _ m H Ext.refl S iq⟩
 ·exact .inr (h2 x y a b st H m Q S rx ry p)
theorem DP:JD X "str.index" (λx xs H Q=>∃z y i r,x= .str z/\xs=[.str y]/\mS z y 0 z.length 1=i::r/\Q (.int (i:Nat)) H):=by
 intro pins s σ H x xs v us Q I rx rv h
 obtain⟨z,y,i,r,rfl,rfl,ho,q⟩:=h
 obtain⟨t,rfl⟩:=rx
 obtain⟨u,rfl,t',rfl⟩:=vals1 rv
 exact SC.index ho ⟨.int _,H,I.tok _,⟨_,rfl⟩,q⟩
def kX(z:PySem.Str):List Wv->Hs->Re Wv
 | [.str y],st=>(match mS z y 0 z.length 1 with | i::_=> .ok (.int (i:Nat)) st | []=> .bad)
 | _,_=> .bad
theorem DQ:Vv X "str.index" kX:=⟨_,DP,λz ws vs st H m Q hz S rs p=>by
 match ws,rs,p with
 | [],rs,p=>exact aa p
 | x::y::t,rs,p=>cases x<;>exact aa p
 | [x],rs,p=>
  obtain⟨v,rfl,r1⟩:=i_ rs
  cases x with
  | str y=>
   unfold af at r1
   obtain⟨rfl,_⟩:=r1
   unfold kX at p
   dsimp only at p
   cases e:mS z y 0 z.length 1 with
   | nil=>rw[e] at p;exact aa p
   | cons i r=>rw[e] at p;exact⟨z,y,i,r,rfl,rfl,e,p _ m H Ext.refl S mkInt⟩
  | _=>exact aa p⟩
end
open PySem PySem.Spec PyProof.Rows L2 PySem.W
section
variable {X:Cx}
end
section
variable {X:Cx}
end
section
variable {X:Cx}
end
def P7(x:Str):It:=⟨λi _=>i < x.cps.size,λi H v H'=>H'=H/\∃c,x.cps[i]? =some c/\v= .str ⟨#[c]⟩,λi _=>x.cps.size<=i⟩
theorem xG{P:YB}{w:YE}{K:PySem.W.Frag}{tg:Expr}(x:Str)(t:Tok)(it:Yx):Turn P w K tg (P7 x) [it] it (λi h=>h.IsStrIter it "str_ascii_iterator" x t i) where
 mem:=List.mem_singleton.mpr rfl
 obj:=λi h st b hb=>by
  cases List.mem_singleton.mp hb
  obtain⟨o,e,c,d⟩:=st
  exact⟨o,e,λv z=>by rw[d] at z;cases z⟩
 keep:=λi h h' st k=>let ⟨o,e,r⟩:=st;⟨o,k it (List.mem_singleton.mpr rfl) o e,r⟩
 item:=by
  intro X hP hw hK hc i pins s σ H E I hf st hg
  subst hP;subst hw;subst hK
  obtain⟨f0,f1,f2,f3,f4,f5⟩:=hf it (List.mem_singleton.mpr rfl)
  have hi:i < x.cps.size:=hg
  refine wpAny_pyNext_ascii_item st (c:=x.cps[i]) (by simp[hi]) λh' st' sb=>?_
  have I1:L2.Inv X pins σ H { s with heap:=h',toks:=s.toks+1 }:=I.turned (t':=s.toks+1) (λb o hb e=>sb.extBut b o hb e) f0 f1 f3 f4 f5
  obtain⟨o,e,c,d⟩:=id st'
  exact⟨_,rfl,uK (s:={ s with heap:=h',toks:=s.toks+1 }) e c d (by decide) ⟨.str ⟨#[x.cps[i]]⟩,H,I1,⟨_,rfl⟩,⟨rfl,_,by simp[hi],rfl⟩,st',λb hb=>(hf b hb).1⟩⟩
 done:=by
  intro X hP hw hK hc i pins s σ H E I hf st hg
  subst hP;subst hw;subst hK
  obtain⟨f0,f1,f2,f3,f4,f5⟩:=hf it (List.mem_singleton.mpr rfl)
  have hi:x.cps.size<=i:=hg
  exact wpAny_pyNext_ascii_end (I.ok.hd hc) st (by simp[hi]) λh' eb=>⟨rfl,I.turned (t':=s.toks) (λb o hb e=>eb b o hb e) f0 f1 f3 f4 f5⟩
 self:=λ_ _ _ _ _ st h=>wpAny_pyIter_striter_ascii st h
theorem A6{P:YB}{w:YE}{K:PySem.W.Frag}{tg:Expr}(x:Str)(t:Tok)(it:Yx):Turn P w K tg (P7 x) [it] it (λi h=>h.IsStrIter it "str_iterator" x t i) where
 mem:=List.mem_singleton.mpr rfl
 obj:=λi h st b hb=>by
  cases List.mem_singleton.mp hb
  obtain⟨o,e,c,d⟩:=st
  exact⟨o,e,λv z=>by rw[d] at z;cases z⟩
 keep:=λi h h' st k=>let ⟨o,e,r⟩:=st;⟨o,k it (List.mem_singleton.mpr rfl) o e,r⟩
 item:=by
  intro X hP hw hK hc i pins s σ H E I hf st hg
  subst hP;subst hw;subst hK
  obtain⟨f0,f1,f2,f3,f4,f5⟩:=hf it (List.mem_singleton.mpr rfl)
  have hi:i < x.cps.size:=hg
  refine wpAny_pyNext_wide_item st (c:=x.cps[i]) (by simp[hi]) λh' st' sb=>?_
  have I1:L2.Inv X pins σ H { s with heap:=h',toks:=s.toks+1 }:=I.turned (t':=s.toks+1) (λb o hb e=>sb.extBut b o hb e) f0 f1 f3 f4 f5
  obtain⟨o,e,c,d⟩:=id st'
  exact⟨_,rfl,uK (s:={ s with heap:=h',toks:=s.toks+1 }) e c d (by decide) ⟨.str ⟨#[x.cps[i]]⟩,H,I1,⟨_,rfl⟩,⟨rfl,_,by simp[hi],rfl⟩,st',λb hb=>(hf b hb).1⟩⟩
 done:=by
  intro X hP hw hK hc i pins s σ H E I hf st hg
  subst hP;subst hw;subst hK
  obtain⟨f0,f1,f2,f3,f4,f5⟩:=hf it (List.mem_singleton.mpr rfl)
  have hi:x.cps.size<=i:=hg
  exact wpAny_pyNext_wide_end (I.ok.hd hc) st (by simp[hi]) λh' eb=>⟨rfl,I.turned (t':=s.toks) (λb o hb e=>eb b o hb e) f0 f1 f3 f4 f5⟩
 self:=λ_ _ _ _ _ st h=>wpAny_pyIter_striter_wide st h
section
variable {X:Cx}
theorem MJ{tg l:Expr}{tl:TE}(hl:PE X l tl):PI X tg l (λσ H R=>tl σ H λv H1=>∃z,v= .str z/\R (P7 z) H1):=by
 intro pins s σ H R I h
 refine bg (hl pins s σ H _ I h) λv s1 ⟨x,H1,I1,r1,z,e,q⟩=>?_
 subst e
 obtain⟨t,rfl⟩:=r1
 have frs:∀b∈[s1.heap.objs.size],du X pins H1 b:=λb hb=>by
  cases List.mem_singleton.mp hb
  exact I1.oZ (ak _) (I1.hok.fresh (ak _))
 cases ha:z.cps.all (· < 128)
 ·exact wpAny_pyIter_wide ha ⟨s1.heap.objs.size,[s1.heap.objs.size],_,_,H1,rfl,I1.kept (t':=s1.toks) λb o e=>aR _ e,A6 z t _,⟨_,cz _ rfl,rfl,rfl⟩,frs,q⟩
 ·exact wpAny_pyIter_ascii ha ⟨s1.heap.objs.size,[s1.heap.objs.size],_,_,H1,rfl,I1.kept (t':=s1.toks) λb o e=>aR _ e,xG z t _,⟨_,cz _ rfl,rfl,rfl⟩,frs,q⟩
def hX(z:PySem.Str):List Wv:=z.cps.toList.map λc=>Wv.str ⟨#[c]⟩
def vx(w:Wv)(st:Hs):Re Wk:=match w with
 | .str z=> .ok (none,hX z) st
 | w=>Mz w st
def aI(g:GE):GI:=λρ st=>(g ρ st).bind vx
theorem MK{z:PySem.Str}{m1:Mp}{H1:Hp}(hz:aE z=true):vm X (none,hX z) m1 H1 (P7 z) where
 go:=λk H m' st _ _ _ hk=>by
  have:k < z.cps.size:=by simpa [hX] using hk
  exact this
 stop:=λk H m' st _ _ _ hk=>by
  have:k=z.cps.size:=by simpa [hX] using hk
  exact lJ this.symm
 uD:=λk hk H v H' m' st _ _ _ y=>by
  obtain⟨rfl,c,hc,rfl⟩:=y
  refine⟨rfl,?_⟩
  have hk':k < z.cps.size:=by simpa [hX] using hk
  have e:∀h:k < (hX z).length,(hX z)[k]'h= .str ⟨#[z.cps[k]]⟩:=by intro h;simp[hX]
  have hc':z.cps[k]=c:=by simpa [hk'] using hc
  show af X.K m' H' ((hX z)[k]'hk) _
  rw[e hk,hc']
  refine mkStr ?_
  rw[rQ] at hz ⊢
  intro d hd
  simp at hd
  rw[hd,<-hc']
  exact hz _ (by simp)
theorem zg{tg iter:Expr}{g:GE}(h:JE X iter g):JI X tg iter (aI g):=by
 obtain⟨w1,h1,k1⟩:=MA (tg:=tg) h
 refine⟨λσ H R=>w1 σ H R\/(SE X iter σ H λv H1=>∃z,v= .str z/\R (P7 z) H1),λpins s σ H R I q=>?_,λρ st σ H m R S RR p=>?_⟩
 ·rcases q with q | q
  ·exact h1 pins s σ H R I q
  ·exact MJ aG pins s σ H R I q
 ·unfold aI at p
  cases e:g ρ st with
  | bad=>rw[e] at p;exact aa p
  | err c st'=>rw[e] at p;exact .inl (k1 ρ st σ H m R S RR (by unfold DG;rw[e];exact p))
  | ok w st'=>
   rw[e] at p
   cases w with
   | str z=>
    refine .inr ?_
    refine h.go (ok:=λw st1=>w= .str z/\st1=st') S RR (by rw[e];exact⟨rfl,rfl⟩) λw st1 v m1 H1 q e1 S1 r1=>?_
    obtain⟨rfl,rfl⟩:=q
    unfold af at r1
    obtain⟨rfl,hz⟩:=r1
    exact⟨z,rfl,p m1 H1 _ e1 S1 trivial (MK hz)⟩
   | _=>exact .inl (k1 ρ st σ H m R S RR (by unfold DG;rw[e];exact p))
def rR:List Wv->Hs->Re Wv:=λws st=>PL ws st
theorem HQ:cA X (.type "int") rR:=Ml
end
section
variable {X:Cx}
theorem pX{x:V}:∀{xs:List V}{us:List YD},Vals xs us->xs.all eV=true->us.countP (qS x)=xs.countP λy=>uN y x
 | _,_,.nil,_=>rfl
 | y::xs,u::us,.cons r t,f=>by
  rw[eI,cL] at f
  rw[xH,xH,pj r f.1,pX t f.2]
theorem A7:JD X "list.count" (λx xs H Q=>∃(p:Yx)(ys:List V)(y:V),x= .ref p/\xs=[y]/\iF X.K H p ys/\eV y=true/\ys.all eV=true/\Q (.int (ys.countP λz=>uN z y:Nat)) H):=by
 intro pins s σ H x xs v us Q I rx rv h
 obtain⟨p,ys,y,rfl,rfl,hq,fy,fs,q⟩:=h
 cases rx
 obtain⟨u,rfl,ru⟩:=vals1 rv
 obtain⟨its,r,pl,hz⟩:=I.list hq
 obtain⟨⟨cls,dd,data,sl⟩,ho,hc,n,hd⟩:=pl.isList
 simp only at hc hd
 subst hc;subst hd
 refine call_meets PySem.F.slot_list_count ⟨_,ho,rfl⟩ PySem.F.entry_list_count (PySem.F.args_list_count_2 _ _) (SeqAt.list_countAt p its.toArray n dd sl u (qS y)) ⟨ho,λw hw=>fI ru fy r fs w (by simpa using hw),?_⟩
 refine⟨.int _,H,I.tok _,⟨s.toks,?_⟩,q⟩
 rw[List.toList_toArray,pX r fs]
theorem A8:JD X "list.index" (λx xs H Q=>∃(p:Yx)(ys:List V)(y:V)(j:Nat),x= .ref p/\xs=[y]/\iF X.K H p ys/\eV y=true/\ys.all eV=true/\ys.findIdx? (λz=>uN z y)=some j/\Q (.int (j:Nat)) H):=by
 intro pins s σ H x xs v us Q I rx rv h
 obtain⟨p,ys,y,j,rfl,rfl,hq,fy,fs,hj,q⟩:=h
 cases rx
 obtain⟨u,rfl,ru⟩:=vals1 rv
 obtain⟨its,r,pl,hz⟩:=I.list hq
 have hlen:=r.length
 obtain⟨⟨cls,dd,data,sl⟩,ho,hc,n,hd⟩:=pl.isList
 simp only at hc hd
 subst hc;subst hd
 rw[DR] at hj
 obtain⟨hj1,hj2,Tq⟩:=hj
 have at':∀(k:Nat)(h:k < ys.length)(h':k < its.length),qS y its[k]=uN ys[k] y:=by
  intro k h h'
  obtain⟨w,hw,rw'⟩:=r.get (bX h)
  rw[bX h'] at hw
  cases hw
  exact pj rw' (List.all_eq_true.mp fs _ (kU h))
 have hs:YO=16777216:=sizeLine_eq
 refine call_meets PySem.F.slot_list_index ⟨_,ho,rfl⟩ PySem.F.entry_list_index (PySem.F.args_list_index_2 _ _) (SeqAt.list_indexAt p its.toArray n dd sl u (qS y) j (by simp;omega) (by omega) ?_ ?_) ⟨ho,λw hw=>fI ru fy r fs w (by simpa using hw),⟨.int _,H,I.tok _,⟨_,rfl⟩,q⟩⟩
 ·rw[xI,at' j hj1 (by omega)];exact hj2
 ·intro m hm hlt
  rw[xI,at' m (by omega) (by omega)]
  simpa using Tq m hlt
def tW(o v:Wv)(st:Hs):Re Wv:=match o with
 | .ref l=>(match aj st l with
  | some ws=>if bF v=true/\ws.all bF=true then .ok (.int (ws.countP λz=>wJ z v:Nat)) st else .bad
  | none=> .bad)
 | _=> .bad
def dY(o v:Wv)(st:Hs):Re Wv:=match o with
 | .ref l=>(match aj st l with
  | some ws=>if bF v=true/\ws.all bF=true then(match ws.findIdx? (λz=>wJ z v) with | some j=> .ok (.int (j:Nat)) st | none=> .bad) else .bad
  | none=> .bad)
 | _=> .bad
theorem iM{m:Mp}{H:Hp}:∀{ws:List Wv}{xs:List V},ae X.K m H ws xs->ws.all bF=true->xs.all eV=true
 | [],xs,r,_=>by unfold ae at r;subst r;rfl
 | w::ws,xs,r,f=>by
  unfold ae at r
  obtain⟨x,t,rfl,r1,r2⟩:=r
  rw[eI,cL] at f ⊢
  exact⟨gA r1 f.1,iM r2 f.2⟩
theorem rS{m:Mp}{H:Hp}{v:Wv}{y:V}(rv:af X.K m H v y)(fv:bF v=true):∀{ws:List Wv}{xs:List V},ae X.K m H ws xs->ws.all bF=true->(xs.countP λz=>uN z y)=ws.countP λz=>wJ z v
 | [],xs,r,_=>by unfold ae at r;subst r;rfl
 | w::ws,xs,r,f=>by
  unfold ae at r
  obtain⟨x,t,rfl,r1,r2⟩:=r
  rw[eI,cL] at f
  rw[xH,xH,rS rv fv r2 f.2,tJ r1 rv f.1 fv]
theorem pY{m:Mp}{H:Hp}{v:Wv}{y:V}(rv:af X.K m H v y)(fv:bF v=true):∀{ws:List Wv}{xs:List V},ae X.K m H ws xs->ws.all bF=true->xs.findIdx? (λz=>uN z y)=ws.findIdx? λz=>wJ z v
 | [],xs,r,_=>by unfold ae at r;subst r;rfl
 | w::ws,xs,r,f=>by
  unfold ae at r
  obtain⟨x,t,rfl,r1,r2⟩:=r
  rw[eI,cL] at f
  rw[Dy,Dy,pY rv fv r2 f.2,tJ r1 rv f.1 fv]
theorem A9:Mk X "list.count" tW:=⟨_,A7,λo w x v st H m Q S ro rw' p=>by
 cases o with
 | ref l=>
  unfold af at ro
  obtain⟨a,rfl,ha⟩:=ro
  unfold tW at p
  cases e:aj st l with
  | none=>simp only[e] at p;exact aa p
  | some ws=>
   simp only[e] at p
   by_cases c:bF w=true/\ws.all bF=true
   ·rw[if_pos c] at p
    obtain⟨xs,q1,q2⟩:=S.read ha e
    refine⟨a,xs,v,rfl,rfl,q1,gA rw' c.1,iM q2 c.2,?_⟩
    rw[rS rw' c.1 q2 c.2]
    exact p _ m H Ext.refl S mkInt
   ·rw[if_neg c] at p;exact aa p
 | _=>exact aa p⟩
theorem rT:Mk X "list.index" dY:=⟨_,A8,λo w x v st H m Q S ro rw' p=>by
 cases o with
 | ref l=>
  unfold af at ro
  obtain⟨a,rfl,ha⟩:=ro
  unfold dY at p
  cases e:aj st l with
  | none=>simp only[e] at p;exact aa p
  | some ws=>
   simp only[e] at p
   by_cases c:bF w=true/\ws.all bF=true
   ·rw[if_pos c] at p
    obtain⟨xs,q1,q2⟩:=S.read ha e
    cases ej:ws.findIdx? (λz=>wJ z w) with
    | none=>rw[ej] at p;exact aa p
    | some j=>
     rw[ej] at p
     exact⟨a,xs,v,j,rfl,rfl,q1,gA rw' c.1,iM q2 c.2,by rw[pY rw' c.1 q2 c.2];exact ej,p _ m H Ext.refl S mkInt⟩
   ·rw[if_neg c] at p;exact aa p
 | _=>exact aa p⟩
end
def keyOf:Wv->Option L2.Key
 | .int i=>some (.inl i)
 | .str x=>some (.inr x)
 | .ay=>some .ay
 | _=>none
theorem jX{K:PySem.W.Frag}{m:Mp}{H:Hp}{w:Wv}{v:V}{k:L2.Key}(r:af K m H w v)(e:keyOf w=some k):v=kV k:=by
 cases w with
 | int i=>cases e;unfold af at r;rw[r];rfl
 | str x=>cases e;unfold af at r;rw[r.1];rfl
 | ay=>cases e;unfold af at r;rw[r];rfl
 | _=>cases e
def gN{κ:Type}[DecidableEq κ](kvs:List (κ×Wv))(k:κ):Option Wv:=match kvs with
 | []=>none
 | p::r=>if p.1=k then some p.2 else gN r k
def n_{κ:Type}[DecidableEq κ](kvs:List (κ×Wv))(k:κ)(v:Wv):List (κ×Wv):=if(kvs.any λkv=>decide (kv.1=k))=true then kvs.map (λkv=>if kv.1=k then(kv.1,v) else kv) else kvs++[(k,v)]
section
variable {K:PySem.W.Frag} {m:Mp} {H:Hp} {κ:Type}
theorem RelK.nil:RelK (κ:=κ) K m H [] []:=⟨rfl,ae.nil⟩
theorem RelK.cons{k:κ}{w:Wv}{v:V}{kvs:List (κ×Wv)}{xs:List (κ×V)}(h:af K m H w v)(t:RelK K m H kvs xs):RelK K m H ((k,w)::kvs) ((k,v)::xs) :=
 ⟨by simp[t.1],by simpa using ae.cons h t.2⟩
theorem RelK.nil_inv{xs:List (κ×V)}(h:RelK K m H [] xs):xs=[]:=by
 have:=h.1
 cases xs with
 | nil=>rfl
 | cons a b=>simp at this
theorem RelK.cons_inv{p:κ×Wv}{kvs:List (κ×Wv)}{xs:List (κ×V)}(h:RelK K m H (p::kvs) xs):∃v t,xs=(p.1,v)::t/\af K m H p.2 v/\RelK K m H kvs t:=by
 obtain⟨h1,h2⟩:=h
 cases xs with
 | nil=>simp at h1
 | cons q t=>
  simp at h1 h2
  unfold ae at h2
  obtain⟨x,r,e1,e2,e3⟩:=h2
  cases e1
  exact⟨q.2,t,by rw[h1.1],e2,h1.2,e3⟩
theorem RelK.length{kvs:List (κ×Wv)}{xs:List (κ×V)}(h:RelK K m H kvs xs):kvs.length=xs.length:=by
 have:=congrArg iG h.1
 simpa using this
variable [DecidableEq κ]
theorem RelK.val:∀{kvs:List (κ×Wv)}{xs:List (κ×V)}(k:κ),RelK K m H kvs xs->(gN kvs k=none->kz xs k=none)/\∀w,gN kvs k=some w->∃v,kz xs k=some v/\af K m H w v
 | [],xs,k,h=>by
  rw[h.nil_inv]
  exact⟨λ_=>rfl,(λw e=>by cases e)⟩
 | p::r,xs,k,h=>by
  obtain⟨v,t,rfl,h1,h2⟩:=h.cons_inv
  obtain⟨i1,i2⟩:=RelK.val k h2
  unfold gN
  by_cases e:p.1=k
  ·rw[if_pos e,lK (by exact e)]
   exact⟨(λz=>by cases z),λw z=>⟨v,rfl,by cases z;exact h1⟩⟩
  ·rw[if_neg e,lL (by exact e)]
   exact⟨i1,i2⟩
theorem RelK.any:∀{kvs:List (κ×Wv)}{xs:List (κ×V)}(k:κ),RelK K m H kvs xs->(kvs.any λkv=>decide (kv.1=k))=xs.any λkv=>decide (kv.1=k)
 | [],xs,k,h=>by rw[h.nil_inv];rfl
 | p::r,xs,k,h=>by
  obtain⟨v,t,rfl,h1,h2⟩:=h.cons_inv
  rw[fM,fM,RelK.any k h2]
theorem RelK.repl:∀{kvs:List (κ×Wv)}{xs:List (κ×V)}(k:κ){w:Wv}{v:V},RelK K m H kvs xs->af K m H w v->RelK K m H (kvs.map λkv=>if kv.1=k then(kv.1,w) else kv) (xs.map λkv=>if kv.1=k then(kv.1,v) else kv)
 | [],xs,k,w,v,h,r=>by rw[h.nil_inv];exact RelK.nil
 | p::kvs,xs,k,w,v,h,r=>by
  obtain⟨u,t,rfl,h1,h2⟩:=h.cons_inv
  rw[aH,aH]
  by_cases e:p.1=k
  ·rw[if_pos e,if_pos (by exact e)]
   exact RelK.cons r (RelK.repl k h2 r)
  ·rw[if_neg e,if_neg (by exact e)]
   exact RelK.cons h1 (RelK.repl k h2 r)
theorem RelK.snoc:∀{kvs:List (κ×Wv)}{xs:List (κ×V)}(k:κ){w:Wv}{v:V},RelK K m H kvs xs->af K m H w v->RelK K m H (kvs++[(k,w)]) (xs++[(k,v)])
 | [],xs,k,w,v,h,r=>by rw[h.nil_inv];exact RelK.cons r RelK.nil
 | p::kvs,xs,k,w,v,h,r=>by
  obtain⟨u,t,rfl,h1,h2⟩:=h.cons_inv
  exact RelK.cons h1 (RelK.snoc k h2 r)
theorem RelK.put{kvs:List (κ×Wv)}{xs:List (κ×V)}(k:κ){w:Wv}{v:V}(h:RelK K m H kvs xs)(r:af K m H w v):RelK K m H (n_ kvs k w) (putK xs k v):=by
 unfold n_ putK
 rw[h.any k]
 split
 ·exact h.repl k r
 ·exact h.snoc k r
end
section
variable {K:PySem.W.Frag} {m:Mp} {H:Hp}
end
section
variable {X:Cx}
end
def zh:Wv->YD->Prop
 | .int i,u=>∃t,u= .int i t
 | .str x,u=>(∃t,u= .str x t)/\aE x=true
 | _,_=>False
abbrev Dc:=List (PySem.Str×Wv)
def tX(w:YE):Dc->List DictEntry->Prop
 | [],[]=>True
 | (k,v)::r,e::t=>(e.hash=hashStr w k/\(∃tk,e.key= .str k tk)/\zh v e.val)/\tX w r t
 | _,_=>False
def m8(K:PySem.W.Frag)(w:YE)(mg:Str->Option YD)(x:Str)(kvs:Dc):Prop :=
 ∃(a:Yx)(es:Array DictEntry)(ep:Nat),mg x=some (.ref a)/\K.lookup a=some ⟨.type "dict",none,.dict es ep,#[]⟩/\(a == sysModules)=false/\tX w kvs es.toList/\(kvs.map (·.1)).Nodup
theorem l8{P:YB}{w:YE}:∀{kvs:Dc}{l:List DictEntry},tX w kvs l->∃vs:List (PySem.Str×YD),vs.map (·.1)=kvs.map (·.1)/\Pairs (PySem.strKind P w) l vs/\(∀e∈l,∃k,(PySem.strKind P w).is k e.key=true/\e.hash=(PySem.strKind P w).hash k)/\
  ∀k,(kvs.lookup k=none->valueAt vs k=none)/\∀v,kvs.lookup k=some v->∃u,valueAt vs k=some u/\zh v u
 | [],[],_=>⟨[],rfl,.nil,(λ_ z=>by cases z),λk=>⟨λ_=>rfl,(λv z=>by cases z)⟩⟩
 | (k,v)::r,e::t,h=>by
  obtain⟨⟨h1,⟨tk,h2⟩,h3⟩,h4⟩:=h
  obtain⟨vs,i1,i2,i3,i4⟩:=l8 (P:=P) h4
  have his:(PySem.strKind P w).is k e.key=true:=by rw[h2];exact strKind_is P w k tk
  refine⟨(k,e.val)::vs,by simp[i1],.cons his rfl i2,λe' he=>?_,λk'=>?_⟩
  ·rcases List.mem_cons.mp he with z | z
   ·subst z;exact⟨k,his,h1⟩
   ·exact i3 e' z
  ·rw[gB]
   unfold valueAt
   rw[mU]
   by_cases ek:k=k'
   ·subst ek
    have b1:(k == k)=true:=by simp
    rw[b1]
    simp only[decide_true,oD]
    exact⟨(λz=>by cases z),λv' z=>⟨e.val,rfl,by cases z;exact h3⟩⟩
   ·have b1:(k' == k)=false:=beq_eq_false_iff_ne.mpr λz=>ek z.symm
    rw[b1]
    simp only[ek,decide_false]
    exact i4 k'
 | [],_::_,h=>aa h
 | _::_,[],h=>aa h
theorem oF{P:YB}{w:YE}{K:PySem.W.Frag}{h:Heap}{a:Yx}{es:Array DictEntry}{ep:Nat}{kvs:Dc}(KX:K.In h)(hl:K.lookup a=some ⟨.type "dict",none,.dict es ep,#[]⟩)(he:tX w kvs es.toList)(nd:(kvs.map (·.1)).Nodup) :
  ∃vs:List (PySem.Str×YD),h.DictOf (PySem.strKind P w) a vs/\∀k,(kvs.lookup k=none->valueAt vs k=none)/\∀v,kvs.lookup k=some v->∃u,valueAt vs k=some u/\zh v u:=by
 obtain⟨vs,i1,i2,i3,i4⟩:=l8 (P:=P) he
 exact⟨vs,⟨_,es,ep,KX a _ hl,⟨rfl,rfl,rfl⟩,rfl,λe hm=>i3 e (by simpa using hm),i2,by rw[i1];exact nd⟩,i4⟩
section
variable {X:Cx}
def l_(neg:Bool)(kvs:Dc)(ga:GE):GE:=λρ st=>(ga ρ st).bind λa st1=>match a with
 | .str k=> .ok (.bl ((kvs.lookup k).isSome != neg)) st1
 | _=> .bad
def J4(kvs:Dc)(ga:GE):GE:=λρ st=>(ga ρ st).bind λa st1=>match a with
 | .str k=>(match kvs.lookup k with | some w=> .ok w st1 | none=> .bad)
 | _=> .bad
def DS(neg:Bool)(kvs:Dc)(ty:TE):TE:=λσ H Q=>ty σ H λy H1=>∃z,y= .str z/\Q (.bl ((kvs.lookup z).isSome != neg)) H1
theorem DT{i:Expr}{ty:TE}{x:Str}{p:Pos}{kvs:Dc}(hi:PE X i ty)(hg:Gl X x)(hd:(x == ("__debug__":Str))=false)(D:m8 X.K X.w X.mg x kvs):PC X .In i (.Name x p) (DS false kvs ty):=by
 intro pins s σ H Q I h
 obtain⟨a,es,ep,g1,g2,g3,g4,g5⟩:=D
 refine bg (hi pins s σ H _ I h) λiv s1 ⟨y,H1,I1,ry,z,ey,q1⟩=>bg (fS (v:=.ref a) hg g1 rfl hd pins s1 σ H1 (λv H2=>v= .ref a/\H2=H1) I1 ⟨rfl,rfl⟩) λu s2 ⟨v,H2,I2,rv,ev,eH⟩=>?_
 subst ey ev eH
 obtain rfl:u=bb a:=rv
 obtain⟨t,rfl⟩:=(show ∃t,iv=jO z t from ry)
 obtain⟨vs,dd,look⟩:=oF (P:=X.prog) (w:=X.w) I2.wN g2 g4 g5
 refine wpAny_in_of (strKind_is X.prog X.w z t) g3 dd.mapOf ⟨.bl (kvs.lookup z).isSome,_,I2.tok _,?_,by simpa using q1⟩
 obtain⟨l1,l2⟩:=look z
 cases e:kvs.lookup z with
 | none=>rw[l1 e];rfl
 | some w=>obtain⟨u,e1,_⟩:=l2 w e;rw[e1];rfl
theorem rV{i:Expr}{ty:TE}{x:Str}{p:Pos}{kvs:Dc}(hi:PE X i ty)(hg:Gl X x)(hd:(x == ("__debug__":Str))=false)(D:m8 X.K X.w X.mg x kvs):PC X .NotIn i (.Name x p) (DS true kvs ty):=by
 intro pins s σ H Q I h
 obtain⟨a,es,ep,g1,g2,g3,g4,g5⟩:=D
 refine bg (hi pins s σ H _ I h) λiv s1 ⟨y,H1,I1,ry,z,ey,q1⟩=>bg (fS (v:=.ref a) hg g1 rfl hd pins s1 σ H1 (λv H2=>v= .ref a/\H2=H1) I1 ⟨rfl,rfl⟩) λu s2 ⟨v,H2,I2,rv,ev,eH⟩=>?_
 subst ey ev eH
 obtain rfl:u=bb a:=rv
 obtain⟨t,rfl⟩:=(show ∃t,iv=jO z t from ry)
 obtain⟨vs,dd,look⟩:=oF (P:=X.prog) (w:=X.w) I2.wN g2 g4 g5
 refine wpAny_notIn_of (strKind_is X.prog X.w z t) g3 dd.mapOf ⟨.bl (!(kvs.lookup z).isSome),_,I2.tok _,?_,by simpa using q1⟩
 obtain⟨l1,l2⟩:=look z
 cases e:kvs.lookup z with
 | none=>rw[l1 e];rfl
 | some w=>obtain⟨u,e1,_⟩:=l2 w e;rw[e1];rfl
theorem jY{a:Expr}{ga:GE}{neg:Bool}{kvs:Dc}(ha:JE X a ga){ρ:a9}{st:Hs}{σ:St}{H:Hp}{m:Mp}{Q:VK}(S:aY X.K m st H)(R:aq X.K m H ρ σ)(p:dB X σ m H (l_ neg kvs ga ρ st) Q):DS neg kvs (SE X a) σ H Q:=by
 refine ha.go S R (ao.bind p) λw st1 v m1 H1 p1 e1 S1 r1=>?_
 cases w with
 | str k=>
  unfold af at r1
  exact⟨k,r1.1,p1 _ m1 H1 e1 S1 (by unfold af;rfl)⟩
 | _=>exact aa p1
theorem HR{a:Expr}{ga:GE}{x:Str}{p pos:Pos}{kvs:Dc}(ha:JE X a ga)(hg:Gl X x)(hd:(x == ("__debug__":Str))=false)(D:m8 X.K X.w X.mg x kvs):JE X (.Compare a [.In] [.Name x p] pos) (l_ false kvs ga) :=
 JE.of (B9 (DT aG hg hd D) rfl) λρ st σ H m Q S R p=>jY ha S R p
theorem xJ{a:Expr}{ga:GE}{x:Str}{p pos:Pos}{kvs:Dc}(ha:JE X a ga)(hg:Gl X x)(hd:(x == ("__debug__":Str))=false)(D:m8 X.K X.w X.mg x kvs):JE X (.Compare a [.NotIn] [.Name x p] pos) (l_ true kvs ga) :=
 JE.of (B9 (rV aG hg hd D) rfl) λρ st σ H m Q S R p=>jY ha S R p
theorem HS{a:Expr}{ga:GE}{x:Str}{p pos:Pos}{kvs:Dc}(ha:JE X a ga)(hg:Gl X x)(hd:(x == ("__debug__":Str))=false)(D:m8 X.K X.w X.mg x kvs):JT X (.Compare a [.In] [.Name x p] pos) (c_ (l_ false kvs ga)) :=
 JT.of (Ca (DT aG hg hd D) rfl) λρ st σ H m Q S R p=>jY ha S R (lP p)
theorem xK{a:Expr}{ga:GE}{x:Str}{p pos:Pos}{kvs:Dc}(ha:JE X a ga)(hg:Gl X x)(hd:(x == ("__debug__":Str))=false)(D:m8 X.K X.w X.mg x kvs):JT X (.Compare a [.NotIn] [.Name x p] pos) (c_ (l_ true kvs ga)) :=
 JT.of (Ca (rV aG hg hd D) rfl) λρ st σ H m Q S R p=>jY ha S R (lP p)
def P8(kvs:Dc)(ty:TE):TE:=λσ H Q=>ty σ H λy H1=>∃z w v,y= .str z/\kvs.lookup z=some w/\(∀u,zh w u->RelV v u)/\Q v H1
theorem HU{b:Expr}{ty:TE}{x:Str}{p pos:Pos}{kvs:Dc}(hb:PE X b ty)(hs:CD b)(hg:Gl X x)(hd:(x == ("__debug__":Str))=false)(D:m8 X.K X.w X.mg x kvs):PE X (.Subscript (.Name x p) b pos) (P8 kvs ty):=by
 intro pins s σ H Q I h
 obtain⟨a,es,ep,g1,g2,g3,g4,g5⟩:=D
 refine yT PySem.F.slot_dict_getitem.lookup hs (bg (fS (v:=.ref a) hg g1 rfl hd pins s σ H (λv H2=>v= .ref a/\H2=H) I ⟨rfl,rfl⟩) λu s1 ⟨v,H1,I1,rv,ev,eH⟩=>?_)
 subst ev eH
 obtain rfl:u=bb a:=rv
 refine bg (hb pins s1 σ H1 _ I1 h) λiv s2 ⟨y,H2,I2,ry,z,w,v,ey,ew,ev,q⟩=>?_
 subst ey
 obtain⟨t,rfl⟩:=(show ∃t,iv=jO z t from ry)
 obtain⟨vs,dd,look⟩:=oF (P:=X.prog) (w:=X.w) I2.wN g2 g4 g5
 obtain⟨u,e1,e2⟩:=(look z).2 w ew
 exact⟨dd.typeIs,wpAny_getItem_of (strKind_is X.prog X.w z t) dd.mapOf e1 ⟨v,H2,I2.tok _,ev u e2,q⟩⟩
theorem HV{b:Expr}{gb:GE}{x:Str}{p pos:Pos}{kvs:Dc}(hb:JE X b gb)(hs:CD b)(hg:Gl X x)(hd:(x == ("__debug__":Str))=false)(D:m8 X.K X.w X.mg x kvs):JE X (.Subscript (.Name x p) b pos) (J4 kvs gb) :=
 JE.of (HU aG hs hg hd D) λρ st σ H m Q S R p=>by
  refine hb.go S R (ao.bind p) λw st1 v m1 H1 p1 e1 S1 r1=>?_
  cases w with
  | str k=>
   dsimp only at p1
   cases e:kvs.lookup k with
   | none=>rw[e] at p1;exact aa p1
   | some u=>
    rw[e] at p1
    unfold af at r1
    cases u with
    | int i=>exact⟨k,.int i,.int i,r1.1,e,λu h=>h,p1 _ m1 H1 e1 S1 (by unfold af;rfl)⟩
    | str y=>
     by_cases hy:aE y=true
     ·exact⟨k,.str y,.str y,r1.1,e,λu h=>h.1,p1 _ m1 H1 e1 S1 (by unfold af;exact⟨rfl,hy⟩)⟩
     ·obtain⟨a,es,ep,_,_,_,g4,_⟩:=D
      obtain⟨vs,_,_,_,i4⟩:=l8 (P:=X.prog) g4
      obtain⟨u,_,e2⟩:=(i4 k).2 _ e
      exact absurd e2.2 hy
    | _=>
     obtain⟨a,es,ep,_,_,_,g4,_⟩:=D
     obtain⟨vs,_,_,_,i4⟩:=l8 (P:=X.prog) g4
     obtain⟨u,_,e2⟩:=(i4 k).2 _ e
     exact aa e2
  | _=>exact aa p1
end
open PySem PySem.Spec PyProof.Rows PySem.W L2
section
variable (lt:Nat->Nat->Bool) (N:Nat)
def Kg{α:Type}:KasT α->(α->Prop)->Prop
 | .ret a,Q=>Q a
 | .ask i j k,Q=>(i < N/\j < N)/\Kg (k (lt i j)) Q
end
section
variable {lt:Nat->Nat->Bool} {N:Nat}
theorem Kg.bind{α β:Type}{f:α->KasT β}{Q:β->Prop}:∀{t:KasT α},Kg lt N t (λa=>Kg lt N (f a) Q)->Kg lt N (t.bind f) Q
 | .ret a,h=>h
 | .ask i j k,h=>⟨h.1,Kg.bind (t:=k (lt i j)) h.2⟩
theorem Kg.imp{α:Type}{Q R:α->Prop}(hq:∀a,Q a->R a):∀{t:KasT α},Kg lt N t Q->Kg lt N t R
 | .ret a,h=>hq a h
 | .ask i j k,h=>⟨h.1,Kg.imp hq (t:=k (lt i j)) h.2⟩
theorem Kg.wp{α:Type}{cmp:Nat->Nat->(Bool->YC->Prop)->YC->Prop}{P:YC->Prop}(hc:∀i j C s,i < N->j < N->P s->(∀s',P s'->C (lt i j) s')->cmp i j C s){G:α->YC->Prop} :
  ∀{t:KasT α}{s:YC},P s->Kg lt N t (λa=>∀s',P s'->G a s')->t.kasWp cmp G s
 | .ret a,s,hs,h=>h s hs
 | .ask i j k,s,hs,h=>hc i j _ s h.1.1 h.1.2 hs λs' hs'=>Kg.wp hc (t:=k (lt i j)) hs' h.2
structure Ord(lt:Nat->Nat->Bool):Prop where
 as:∀a b,lt a b=true->lt b a=false
 tr:∀a b c,lt a b=false->lt b c=false->lt a c=false
theorem Ord.Tr(o:Ord lt)(a:Nat):lt a a=false:=by
 cases h:lt a a with
 | false=>rfl
 | true=>have:=o.as a a h;rw[h] at this;cases this
theorem Ord.vy(o:Ord lt){a b c:Nat}(h1:lt a b=true)(h2:lt c b=false):lt a c=true:=by
 cases h:lt a c with
 | true=>rfl
 | false=>have:=o.tr a c b h h2;rw[h1] at this;cases this
abbrev at_(p:Array Nat)(i:Nat):Nat:=p.getD i 0
structure Pm(N:Nat)(p:Array Nat):Prop where
 sz:p.size=N
 pm:p.toList.Perm (dm N)
theorem Pm.bd{p:Array Nat}(h:Pm N p){i:Nat}(hi:i < N):at_ p i < N:=by
 have e:at_ p i=p[i]'(by rw[h.sz];exact hi):=by simp[at_,Array.getD,h.sz,hi]
 rw[e]
 have:p[i]'(by rw[h.sz];exact hi)∈p.toList:=by simp
 exact List.mem_range.mp (h.pm.mem_iff.mp this)
theorem ma{p q:Array Nat}{i j:Nat}(h:p[i]? =q[j]?):at_ p i=at_ q j:=by
 unfold at_
 rw[P9,P9,h]
theorem Pm.rev{p:Array Nat}(h:Pm N p)(i j:Nat):Pm N (kas_rev p i j):=⟨by unfold kas_rev;rw[mirror_size];exact h.sz,((Array.perm_iff_toList_perm.mp (mirror_perm _ _ _ _)).trans h.pm)⟩
theorem Pm.W6{p:Array Nat}(h:Pm N p)(k d:Nat):Pm N (bubble p k d):=⟨by rw[bubble_size];exact h.sz,((Array.perm_iff_toList_perm.mp (bubble_perm _ _ _)).trans h.pm)⟩
theorem dJ{p:Array Nat}(h:Pm N p){i j:Nat}(hj:j<=N)(k:Nat):at_ (kas_rev p i j) k=if i<=k/\k < j then at_ p (i+j - 1 - k) else at_ p k:=by
 have q:=getElem?_mirror_all (xs:=p) (i:=i) (j:=j) (by rw[h.sz];exact hj) k
 unfold kas_rev
 split
 ·rename_i c;rw[if_pos c] at q;exact ma q
 ·rename_i c;rw[if_neg c] at q;exact ma q
theorem ML{p:Array Nat}(h:Pm N p){k l:Nat}(hk:k < N)(hl:l<=k)(i:Nat):at_ (bubble p k (k - l)) i=if i=l then at_ p k else if l < i/\i<=k then at_ p (i - 1) else at_ p i:=by
 have q:=getElem?_bubble (xs:=p) (src:=k) (by rw[h.sz];exact hk) (k - l) (by omega) i
 have e:k - (k - l)=l:=by omega
 rw[e] at q
 split
 ·rename_i c;rw[if_pos c] at q;exact ma q
 ·rename_i c
  rw[if_neg c] at q
  split
  ·rename_i d;rw[if_pos d] at q;exact ma q
  ·rename_i d;rw[if_neg d] at q;exact ma q
def Up(lt:Nat->Nat->Bool)(p:Array Nat)(k:Nat):Prop:=∀i j,i<=j->j < k->lt (at_ p j) (at_ p i)=false
def Dn(lt:Nat->Nat->Bool)(p:Array Nat)(k:Nat):Prop:=∀i j,i<=j->j < k->lt (at_ p i) (at_ p j)=false
theorem Up.succ(o:Ord lt){p:Array Nat}{k:Nat}(h:Up lt p k)(hk:1<=k)(e:lt (at_ p k) (at_ p (k - 1))=false):Up lt p (k+1):=by
 intro i j hij hj
 by_cases c:j < k
 ·exact h i j hij c
 ·have:j=k:=by omega
  subst this
  by_cases c2:i=j
  ·subst c2;exact o.Tr _
  ·exact o.tr _ _ _ e (h i (j - 1) (by omega) (by omega))
theorem Dn.succ(o:Ord lt){p:Array Nat}{k:Nat}(h:Dn lt p k)(hk:1<=k)(e:lt (at_ p (k - 1)) (at_ p k)=false):Dn lt p (k+1):=by
 intro i j hij hj
 by_cases c:j < k
 ·exact h i j hij c
 ·have:j=k:=by omega
  subst this
  by_cases c2:i=j
  ·subst c2;exact o.Tr _
  ·exact o.tr _ _ _ (h i (j - 1) (by omega) (by omega)) e
def Lv(lt:Nat->Nat->Bool)(p:Array Nat)(a n:Nat):Prop:=∀i j,a<=i->i < n->a<=j->j < n->lt (at_ p i) (at_ p j)=false
theorem Dn.rev(o:Ord lt){p:Array Nat}(hp:Pm N p){a n:Nat}(hn:n<=N)(ha:a<=n)(h:Dn lt p n)(hl:Lv lt p a n):Dn lt (kas_rev p a n) n:=by
 intro i j hij hj
 rw[dJ hp hn,dJ hp hn]
 by_cases ci:a<=i
 ·rw[if_pos ⟨ci,by omega⟩,if_pos ⟨by omega,hj⟩]
  exact hl _ _ (by omega) (by omega) (by omega) (by omega)
 ·rw[if_neg (by omega)]
  by_cases cj:a<=j
  ·rw[if_pos ⟨cj,hj⟩]
   exact h _ _ (by omega) (by omega)
  ·rw[if_neg (by omega)]
   exact h _ _ hij hj
theorem Dn.up{p:Array Nat}(hp:Pm N p){n:Nat}(hn:n<=N)(h:Dn lt p n):Up lt (kas_rev p 0 n) n:=by
 intro i j hij hj
 rw[dJ hp hn,dJ hp hn,if_pos ⟨by omega,hj⟩,if_pos ⟨by omega,by omega⟩]
 exact h _ _ (by omega) (by omega)
theorem pZ(o:Ord lt){p:Array Nat}(hp:Pm N p){k:Nat}(hk:k < N):∀(f l r:Nat),l<=r->r<=k->r - l<=f->Up lt p k->(∀i,i < l->lt (at_ p k) (at_ p i)=false)->(∀i,r<=i->i < k->lt (at_ p k) (at_ p i)=true)->
  Kg lt N (kas_place p k f l r) (λm=>m<=k/\(∀i,i < m->lt (at_ p k) (at_ p i)=false)/\∀i,m<=i->i < k->lt (at_ p k) (at_ p i)=true)
 | 0,l,r,h1,h2,h3,u,a,b=>⟨by omega,a,λi h=>b i (by omega)⟩
 | f+1,l,r,h1,h2,h3,u,a,b=>by
  unfold kas_place
  by_cases c:l >= r
  ·rw[if_pos c]
   exact⟨by omega,a,λi h=>b i (by omega)⟩
  ·rw[if_neg c]
   refine⟨⟨hp.bd hk,hp.bd (by omega)⟩,?_⟩
   cases e:lt (p.getD k 0) (p.getD ((l+r) / 2) 0) with
   | true=>
    dsimp only
    rw[if_pos rfl]
    refine pZ o hp hk f l ((l+r) / 2) (by omega) (by omega) (by omega) u a λi hi hk'=>?_
    exact o.vy e (u _ _ hi hk')
   | false=>
    dsimp only
    rw[if_neg (by simp)]
    refine pZ o hp hk f ((l+r) / 2+1) r (by omega) h2 (by omega) u (λi hi=>?_) b
    exact o.tr _ _ _ e (u i ((l+r) / 2) (by omega) (by omega))
end
section
variable {prog:YB} {w:YE} {A:Yy} {E:YD->YC->Prop} {s:YC}
end
theorem gU{α β:Type}{F:α->β->Prop}{a:α}{b:β}:∀{l:List α}{k:List β}{i:Nat},Paired F l k->i < k.length->F (l.getD i a) (k.getD i b)
 | _,_,0,.cons h _,_=>by simpa using h
 | _,_,i+1,.cons _ t,hi=>by simpa using gU (i:=i) t (by simpa using hi)
theorem p_{α β:Type}{F:α->β->Prop}{f:Nat->α}{g:Nat->β}:∀{l:List Nat},(∀i∈l,F (f i) (g i))->Paired F (l.map f) (l.map g)
 | [],_=> .nil
 | i::l,h=> .cons (h i (by simp)) (p_ λj hj=>h j (by simp[hj]))
section
variable {X:Cx} {pins:List (Yx×Obj)} {σ:St} {H:Hp} {s:YC}
end
section
variable {X:Cx}
end
section
variable {prog:YB} {w:YE} {A:Yy} {E:YD->YC->Prop} {s:YC}
end
section
variable {X:Cx}
abbrev pw(p:Int×Int):Wv:=.tup [.int p.1,.int p.2]
end
def keysOf:List Wv->Option (List L2.Key)
 | []=>some []
 | w::r=>(match keyOf w,keysOf r with | some k,some l=>some (k::l) | _,_=>none)
def xM:Wv->Option (List L2.Key)
 | .tup ws=>keysOf ws
 | _=>none
theorem qa{K:PySem.W.Frag}{m:Mp}{H:Hp}:∀{ws:List Wv}{xs:List V}{ks:List L2.Key},ae K m H ws xs->keysOf ws=some ks->xs=ks.map kV
 | [],xs,ks,r,e=>by unfold ae at r;subst r;cases e;rfl
 | w::ws,xs,ks,r,e=>by
  unfold ae at r
  obtain⟨x,t,rfl,r1,r2⟩:=r
  unfold keysOf at e
  cases e1:keyOf w with
  | none=>rw[e1] at e;cases e
  | some k=>
   cases e2:keysOf ws with
   | none=>rw[e1,e2] at e;cases e
   | some l=>
    rw[e1,e2] at e
    cases e
    rw[jX r1 e1,qa r2 e2]
    rfl
theorem qb{K:PySem.W.Frag}{m:Mp}{H:Hp}{w:Wv}{v:V}{ks:List L2.Key}(r:af K m H w v)(e:xM w=some ks):∃b,v= .ref b/\H b=some (.tup (ks.map kV)):=by
 cases w with
 | tup ws=>
  unfold af at r
  obtain⟨a,xs,rfl,h1,h2⟩:=r
  rw[qa h2 e] at h1
  exact⟨a,rfl,h1⟩
 | _=>cases e
def DU:GE:=λ_ st=> .ok (.ref st.length) (st++[.yV []])
def qc:GE:=λ_ st=> .ok (.ref st.length) (st++[.dct []])
section
variable {X:Cx}
theorem HW{pos:Pos}:JE X (.Dict [] [] pos) DU:=JE.of CI λρ st σ H m Q S R p=>λq hq=>
 p (.ref q) (m++[q]) _ (Ext.more.trans (Ext.iJ (.inl hq))) (S.xh hq ⟨[],aC,RelK.nil⟩) (S.newest q _)
theorem HX{pos:Pos}:JE X (.Dict [] [] pos) qc:=JE.of CH λρ st σ H m Q S R p=>λq hq=>
 p (.ref q) (m++[q]) _ (Ext.more.trans (Ext.iJ (.inl hq))) (S.xh hq ⟨[],aC,RelK.nil⟩) (S.newest q _)
def putD(d k v:Wv)(st:Hs):Option Hs:=match d with
 | .ref l=>(match st[l]? with
  | some (.dct kvs)=>(match keyOf k with | some kk=>if kvs.length < lim then some (st.set l (.dct (n_ kvs kk v))) else none | none=>none)
  | some (.yV kvs)=>(match xM k with | some kk=>if kvs.length < lim then some (st.set l (.yV (n_ kvs kk v))) else none | none=>none)
  | _=>none)
 | _=>none
def zi(gv gd gk:GE):GS:=λρ st=>(gv ρ st).bg ρ λv st1=>(gd ρ st1).bg ρ λd st2=>(gk ρ st2).bg ρ λk st3=>match putD d k v st3 with
 | some F5=> .nx ρ F5
 | none=> .bad
theorem HY{m:Mp}{st st':Hs}{H:Hp}{d k v:Wv}{x y z:V}(S:aY X.K m st H)(rd:af X.K m H d x)(rk:af X.K m H k y)(rv:af X.K m H v z)(e:putD d k v st=some st'):∃a H',x= .ref a/\s_ H a y z H'/\Ext X.K m H m H'/\aY X.K m st' H':=by
 unfold putD at e
 cases d with
 | ref l=>
  dsimp only at e
  unfold af at rd
  obtain⟨a,rfl,ha⟩:=rd
  cases e1:st[l]? with
  | none=>rw[e1] at e;cases e
  | some o=>
   rw[e1] at e
   cases o with
   | dct kvs=>
    dsimp only at e
    cases e2:keyOf k with
    | none=>rw[e2] at e;cases e
    | some kk=>
     rw[e2] at e
     dsimp only at e
     by_cases c:kvs.length < lim
     ·rw[if_pos c] at e
      cases e
      obtain⟨xs,h1,h2⟩:=(show ∃ys,H a=some (.dK ys)/\RelK X.K m H kvs ys from S.obj _ _ _ ha e1)
      have ex:Ext X.K m H m (upd H a (.dK (putK xs kk z))):=Ext.iJ (.inr (.inr (.inl ⟨_,h1⟩)))
      refine⟨a,_,rfl,by rw[jX rk e2];exact s_.k h1 (by rw[<-h2.length];exact tE c),ex,?_⟩
      exact S.pC ha e1 rfl ⟨_,aC,(h2.put kk rv).mono ex⟩
     ·rw[if_neg c] at e;cases e
   | yV kvs=>
    dsimp only at e
    cases e2:xM k with
    | none=>rw[e2] at e;cases e
    | some kk=>
     rw[e2] at e
     dsimp only at e
     by_cases c:kvs.length < lim
     ·rw[if_pos c] at e
      cases e
      obtain⟨xs,h1,h2⟩:=(show ∃ys,H a=some (.dT ys)/\RelK X.K m H kvs ys from S.obj _ _ _ ha e1)
      obtain⟨b,rfl,hb⟩:=qb rk e2
      have ex:Ext X.K m H m (upd H a (.dT (putK xs kk z))):=Ext.iJ (.inr (.inr (.inr ⟨_,h1⟩)))
      refine⟨a,_,rfl,s_.t h1 hb (by rw[<-h2.length];exact tE c),ex,?_⟩
      exact S.pC ha e1 rfl ⟨_,aC,(h2.put kk rv).mono ex⟩
     ·rw[if_neg c] at e;cases e
   | _=>cases e
 | _=>cases e
theorem HZ{o i e:Expr}{go gi ge:GE}{pos pos':Pos}(hu:X.A.units+1 < cLine)(he:JE X e ge)(ho:JE X o go)(hi:JE X i gi)(hs:swapsWith e (some (.Subscript o i pos')) pos.line X.env=pure false):JS X (.Assign [.Subscript o i pos'] e pos) (zi ge go gi) :=
 JS.of (GY hu aG aG aG hs) λρ st σ H m D S R p=>by
  refine he.go S R (aF.cO R p) λv st1 vv m1 H1 p1 e1 S1 rv=>?_
  refine ho.go S1 (R.mono e1) ((aF.cO (m:=m) (H:=H) R p1).imp e1 λ_ _ q=>q) λd st2 vd m2 H2 p2 e2 S2 rd=>?_
  refine hi.go S2 (R.mono (e1.trans e2)) ((aF.cO (m:=m) (H:=H) R p2).imp (e1.trans e2) λ_ _ q=>q) λk st3 vk m3 H3 p3 e3 S3 rk=>?_
  have AE:=e1.trans (e2.trans e3)
  cases e4:putD d k v st3 with
  | none=>rw[e4] at p3;exact aa p3
  | some F5=>
   rw[e4] at p3
   obtain⟨a,H4,f1,f2,f3,f4⟩:=HY (X:=X) S3 (af.mono e3 _ _ rd) rk (af.mono (e2.trans e3) _ _ rv) e4
   exact⟨a,H4,f1,f2,p3 σ m3 H4 (AE.trans f3) f4 (R.mono (AE.trans f3))⟩
end
def xN(h:Heap)(d:Yx)(es:Array DictEntry)(ep:Nat):Prop:=∃o,h.get? d=some o/\o.cls= .type "dict"/\o.data= .dict es ep
section
variable {prog:YB} {w:YE} {A:Yy} {E:YD->YC->Prop} {s:YC} {d it:Yx} {es:Array DictEntry} {ep i:Nat}
theorem xN.ty(x:xN s.heap d es ep):s.TypeIs (.ref d) "dict":=let ⟨o,h1,h2,_⟩:=x;⟨o,h1,h2⟩
end
section
variable {X:Cx}
end
def qd:List Wv->Hs->Re Wv:=λws st=>xA ws st
section
variable {X:Cx}
theorem DV(hc:X.calm=true):cA X (.type "list") qd:=HJ
end
open PySem L2 PyProof.Rows
section
open PySem.SeqAt PySem.MeetsSeq PySem.MeetsSeq2 PySem.MeetsSeq3
end
variable {X:Cx}
def oLe:gM:=λx y st=>O' x y st
theorem MM(hu:X.A.units+64 < cLine):jc X (YK .LtE) oLe:=Pd
def P_:gM:=λx y st=>O_ x y st
theorem MN(hu:X.A.units+64 < cLine):jc X (YK .Lt) P_:=Pc
structure rW(k:Nat)(A:Yy):Prop where
 d:A.depth+3 * k+5 < recursionLimit
 u:A.units+16 * k+200 < cLine
theorem rW.of{k:Nat}{A:Yy}(r:eT k A):rW k A:=⟨r.dp,r.un⟩
structure Qa(P:YB)(w:YE)(K:PySem.W.Frag)(mg:Str->Option YD)(base:Heap)(k:Nat)(f:Yx)(fd:Yz)(ps:List Str)(sp:Sp):Prop where
 n:∀vs H Q E,sp vs H Q E->vs.length=ps.length
 go:∀(A:Yy)(outer:List Env)(s:YC)(H:Hp)(args:Args)(us:List YD)(vs:List V)(Q:VK)(E:XK),rW k A->AU A H->n6 P w K mg base A outer s H->
  BindsTo s fd args (ps.zip us)->Vals vs us->sp vs H Q E->YI (model P w) A (.call (.ref f) args) (CR (CXJ P w) outer P w H s Q E) s
section
variable {P:YB} {w:YE} {K:PySem.W.Frag} {mg:Str->Option YD} {base:Heap}
end
section
variable {X:Cx}
end
def MO(P:YB)(w:YE)(K:PySem.W.Frag)(mg:Str->Option YD)(base:Heap)(k:Nat)(x:Str)(n:Nat)(F:List Wv->Hs->Re Wv):Prop :=
 ∃f fd ps,Qa P w K mg base k f fd ps (spW K n F)/\mg x=some (.ref f)/\PySem.W.keepIn K (.ref f)=true/\Binds K fd ps []
section
variable {X:Cx}
end
def Vw(K:PySem.W.Frag)(a:Yx):It :=
 ⟨λi H=>∃xs x,iF K H a xs/\xs[i]? =some x,λi H v H'=>∃p,v= .ref p/\H p=none/\∀xs,iF K H a xs->∃x,xs[i]? =some x/\H'=upd H p (.tup [.int i,x]),λi H=>∃xs,iF K H a xs/\xs.length<=i⟩
theorem A_{P:YB}{w:YE}{K:PySem.W.Frag}{es:List Expr}{kt:Nat}{pt:Pos}(a e it:Yx)(ne:e≠it):Turn P w K (.Tuple es kt pt) (Vw K a) [e,it] e (λi h=>(∃old,IsEnum h e it (i:Int) old)/\h.IsListIter it a i) where
 mem:=by simp
 obj:=λi h st b hb=>by
  obtain⟨⟨old,he⟩,hi⟩:=st
  rcases List.mem_cons.mp hb with z | z
  ·subst z;exact⟨_,he,λv z=>by cases z⟩
  ·have z:b=it:=by simpa using z
   subst z
   obtain⟨o,q,c,d⟩:=hi
   exact⟨o,q,λv z=>by rw[d] at z;cases z⟩
 keep:=λi h h' st k=>⟨st.1.imp λold q=>k e (by simp) _ q,st.2.at λo q=>k it (by simp) o q⟩
 item:=by
  intro X hP hw hK hc i pins s σ H E I hf st hg
  subst hP hw hK
  obtain⟨xs,x,hq,hx⟩:=hg
  obtain⟨its,rv,p,hz⟩:=I.list hq
  obtain⟨u,hu,ru⟩:=rv.get hx
  obtain⟨⟨old,he⟩,hit⟩:=st
  have fe:=hf e (by simp)
  have fi:=hf it (by simp)
  refine wpAny_pyNext_enum_item he hit p.isList (x:=u) (by simpa using hu) ne λh' ho Ts hT hsz hk=>?_
  refine⟨.ref s.heap.objs.size,rfl,?_⟩
  refine wpAny_letOwnedTupleGo_enum ho λh2 Tt sb=>?_
  have hfr:H s.heap.objs.size=none:=I.hok.fresh (ak _)
  have lt:∀b o,s.heap.get? b=some o->b≠s.heap.objs.size:=λb o q=>bR (aL q)
  have elt:e≠s.heap.objs.size:=lt _ _ he
  have Rf:it≠s.heap.objs.size:=by obtain⟨o,q,_⟩:=id hit;exact lt _ _ q
  have kp:∀b o,b≠e->b≠it->s.heap.get? b=some o->h2.get? b=some o:=λb o b1 b2 q=>(sb.2 b b1).trans (hk b o b1 b2 q)
  have kt:∀b u,H b=some u->b≠s.heap.objs.size:=λb u q=>bp q hfr
  have ke:∀b u,H b=some u->b≠e/\b≠it:=λb u q=>⟨bp q fe.1,bp q fi.1⟩
  have T2:h2.get? s.heap.objs.size=some { cls:=.type "tuple",data:=.seq #[.int i s.toks,u] }:=(sb.2 _ (bt elt)).trans hT
  have W7:h2.IsListIter it a (i+1):=Ts.at λo q=>(sb.2 it (bt ne)).trans q
  refine⟨.ref s.heap.objs.size,upd H s.heap.objs.size (.tup [.int i,x]),?_,rfl,⟨s.heap.objs.size,rfl,hfr,λys hy=>⟨x,by rw[I.uI hy hq];exact hx,rfl⟩⟩,⟨⟨u,by push_cast;exact Tt⟩,W7⟩,λb hb=>?_⟩
  ·refine I.rn (s':={ s with heap:=h2,toks:=s.toks+1 }) (ch:=[e,it]) rfl ?_ ?_ I.bare (λb hb=>⟨(hf b hb).2.2.2.1,(hf b hb).2.1,(hf b hb).2.2.2.2.1,(hf b hb).2.2.2.2.2⟩)
   ·refine⟨λb o q _ _ hx=>kp b o (λz=>hx (by simp[z])) (λz=>hx (by simp[z])) q,λb o q _ _ hx=>⟨o.slots,kp b o (λz=>hx (by simp[z])) (λz=>hx (by simp[z])) q⟩,λb o q n _=>by rw[ar (lt b o q)];exact n,λb o q hx=>⟨o,kp b o (λz=>hx (by simp[z])) (λz=>hx (by simp[z])) q⟩,λb ys q=>by rw[ar (kt b _ q)];exact q,λb o y q=>by rw[ar (kt b _ q)];exact q,λb ps q=>⟨#[],by rw[ar (kt b _ q),q];simp⟩⟩
   ·intro b o q
    by_cases hb:b=s.heap.objs.size
    ·subst hb
     rw[aC] at q
     cases q
     exact⟨by show 2<=YO;decide,[.int i s.toks,u],.cons ⟨_,rfl⟩ (.cons ru .nil),⟨_,T2,rfl,0,rfl⟩,λo q=>by rw[T2] at q;cases q;rfl⟩
    ·rw[ar hb] at q
     refine(I.hok b o q).stay (λc v hc g=>?_) (λc g=>by rw[ar (kt c _ g)];exact g) λc ys g=>by rw[ar (kt c _ g)];exact g
     rcases hc with z | z
     ·subst z;exact kp _ _ (ke _ _ q).1 (ke _ _ q).2 g
     ·exact kp _ _ (ke _ _ z).1 (ke _ _ z).2 g
  ·rcases List.mem_cons.mp hb with z | z
   ·rw[z,ar elt];exact fe.1
   ·have z:b=it:=by simpa using z
    rw[z,ar Rf];exact fi.1
 done:=by
  intro X hP hw hK hc i pins s σ H E I hf st hg
  subst hP hw hK
  obtain⟨xs,hq,hx⟩:=hg
  obtain⟨its,rv,p,hz⟩:=I.list hq
  obtain⟨⟨old,he⟩,hit⟩:=st
  obtain⟨f0,f1,f2,f3,f4,f5⟩:=hf it (by simp)
  have hl:=rv.length
  exact wpAny_pyNext_enum_end (I.ok.hd hc) he hit p.isList (by simp;omega) λh' eb=>⟨rfl,I.turned (t':=s.toks) (λb o hb e=>eb b o hb e) f0 f1 f3 f4 f5⟩
 self:=λ_ _ _ _ _ st h=>let ⟨_,he⟩:=st.1;wpAny_pyIter_enum he h
section
variable {X:Cx}
def Qb(K:PySem.W.Frag)(ta:TA):TI:=λσ H R=>ta σ H λvs H1=>∃a,vs=[.ref a]/\(∃xs,H1 a=some (.lst xs))/\R (Vw K a) H1
theorem H_{es:List Expr}{kt:Nat}{pt p q:Pos}{l:Expr}{ta:TA}(hg:Gl X "enumerate")(hm:X.mg "enumerate"=none)(ha:PA X [l] ta)(hst:YQ [l] X.env=[(false,eval l X.env)]) :
  PI X (.Tuple es kt pt) (.Call (.Name "enumerate" p) [l] [] q) (Qb X.K ta):=by
 intro pins s σ H R I h
 refine Call_ (mR I hg hm boot_enumerate (yI (bg (ha q pins s σ H _ I h) λus s1 ⟨vs,H1,I1,r1,q1⟩=>?_) hst rfl))
 obtain⟨a,e,⟨xs,hq⟩,k⟩:=q1
 subst e
 cases r1 with
 | cons r rr=>
  cases rr
  cases r
  obtain⟨hz,its,n,rv,pl⟩:=I1.hok a _ hq
  refine call_enumerate_1 pl λh2 he hi hs2 kp=>wpAny_pyIter_enum he ?_
  have f1:=I1.oZ (pins:=pins) (H':=H1) (b:=s1.heap.objs.size+1) (eK _) (I1.hok.fresh (eK _))
  have f0:=I1.oZ (pins:=pins) (H':=H1) (b:=s1.heap.objs.size) (ak _) (I1.hok.fresh (ak _))
  refine⟨s1.heap.objs.size+1,[s1.heap.objs.size+1,s1.heap.objs.size],_,_,H1,rfl,I1.kept (t':=s1.toks) kp,A_ a _ _ (Nat.succ_ne_self _),⟨⟨.none,he⟩,hi⟩,λb hb=>?_,k⟩
  rcases List.mem_cons.mp hb with z | z
  ·rw[z];exact f1
  ·have z:b=s1.heap.objs.size:=by simpa using z
   rw[z];exact f0
end
abbrev Ia:=Option (Nat×List Wv)×List Wv
def tY(c:Option (Nat×List Wv))(st:Hs):Prop:=match c with
 | some (l,ws)=>aj st l=some ws
 | none=>True
structure xO(X:Cx)(w:Ia)(m1:Mp)(H1:Hp)(J':It):Prop where
 go:∀(k:Nat)(H:Hp)(m':Mp)(st:Hs),Ext X.K m1 H1 m' H->aY X.K m' st H->tY w.1 st->k < w.2.length->J'.go k H
 stop:∀(k:Nat)(H:Hp)(m':Mp)(st:Hs),Ext X.K m1 H1 m' H->aY X.K m' st H->tY w.1 st->k=w.2.length->J'.stop k H
 uD:∀(k:Nat)(hk:k < w.2.length)(H:Hp)(v:V)(H':Hp)(m':Mp)(st:Hs),Ext X.K m1 H1 m' H->aY X.K m' st H->tY w.1 st->J'.uD k H v H'->Ext X.K m' H m' H'/\aY X.K m' st H'/\af X.K m' H' w.2[k] v
abbrev BY:=a9->Hs->Re Ia
def Ie(X:Cx)(tg iter:Expr)(gi:BY):Prop:=∃wi,PI X tg iter wi/\∀(ρ:a9)(st:Hs)(σ:St)(H:Hp)(m:Mp)(R:It->Hp->Prop),aY X.K m st H->aq X.K m H ρ σ->
 ao X σ m H (gi ρ st) (λw st1=>∀(m1:Mp)(H1:Hp)(J':It),Ext X.K m H m1 H1->aY X.K m1 st1 H1->tY w.1 st1->xO X w m1 H1 J'->R J' H1)->wi σ H R
def DW:BY:=λ_ _=> .bad
section
variable {X:Cx}
theorem Ig{tg iter:Expr}:Ie X tg iter DW:=⟨_,vo,λρ st σ H m Q S R p=>p⟩
theorem xP{tg iter:Expr}{gi:GI}(h:JI X tg iter gi):Ie X tg iter (λρ st=>(gi ρ st).bind λw st1=> .ok (w.1.map λl=>(l,w.2),w.2) st1):=by
 obtain⟨wi,hp,hw⟩:=h
 refine⟨wi,hp,λρ st σ H m R S r p=>hw ρ st σ H m R S r ((ao.bind p).imp Ext.refl λw st1 q m1 H1 J' e1 S1 c1 tV=>?_)⟩
 obtain⟨o,ws⟩:=w
 have cc:∀st,tY (o.map λl=>(l,ws)) st->jb (o,ws) st:=λst c=>by cases o<;>exact c
 have W8:jb (o,ws) st1->tY (o.map λl=>(l,ws)) st1:=λc=>by cases o<;>exact c
 refine q m1 H1 J' e1 S1 (W8 c1) ⟨λk H2 m' st2 e S2 c=>tV.go k H2 m' st2 e S2 (cc _ c),λk H2 m' st2 e S2 c=>tV.stop k H2 m' st2 e S2 (cc _ c),λk hk H2 v H3 m' st2 e S2 c y=>?_⟩
 obtain⟨rfl,rr⟩:=tV.uD k hk H2 v H3 m' st2 e S2 (cc _ c) y
 exact⟨Ext.refl,S2,rr⟩
def me(ws:List Wv):List Wv:=(dm ws.length).zipWith (λi w=> .tup [.int (i:Nat),w]) ws
theorem gf{ws:List Wv}:(me ws).length=ws.length:=by unfold me;simp
theorem rX{ws:List Wv}{k:Nat}(h:k < ws.length):(me ws)[k]'(by rw[gf];exact h)= .tup [.int (k:Nat),ws[k]]:=by unfold me;simp
def zj(ws:List Wv)(st:Hs):Re Ia:=match ws with
 | [.ref l]=>(match st[l]? with | some (.lst us)=> .ok (some (l,us),me us) st | _=> .bad)
 | _=> .bad
def m_(g:GA):BY:=λρ st=>(g ρ st).bind zj
theorem DX{es:List Expr}{kt:Nat}{pt p q:Pos}{l:Expr}{ga:GA}(hg:Gl X "enumerate")(hm:X.mg "enumerate"=none)(ha:JA X [l] ga)(hst:YQ [l] X.env=[(false,eval l X.env)]):Ie X (.Tuple es kt pt) (.Call (.Name "enumerate" p) [l] [] q) (m_ ga):=by
 refine⟨_,H_ hg hm i0 hst,λρ st σ H m Q S R p=>?_⟩
 refine ha.go S R (ao.bind p) λws st1 vs m1 H1 p1 e1 S1 rs=>?_
 match ws,rs,p1 with
 | [],rs,p1=>exact aa p1
 | x::y::t,rs,p1=>cases x<;>exact aa p1
 | [x],rs,p1=>
  obtain⟨v,rfl,r1⟩:=i_ rs
  cases x with
  | ref j=>
   unfold af at r1
   obtain⟨a,rfl,hla⟩:=r1
   unfold zj at p1
   cases el:st1[j]? with
   | none=>simp only[el] at p1;exact aa p1
   | some o=>
    simp only[el] at p1
    cases o with
    | lst us=>
     have lo:aj st1 j=some us:=by unfold aj;rw[el]
     obtain⟨Dm,h0,q0⟩:=S1.uU hla el
     refine⟨a,rfl,⟨Dm,h0⟩,p1 m1 H1 _ e1 S1 lo ⟨λk H' m' st' e S' c hk=>?_,λk H' m' st' e S' c hk=>?_,λk hk H' v Tn m' st' e S' c y=>?_⟩⟩
     ·obtain⟨xs,hq,rws⟩:=S'.read (e.pre _ _ hla) c
      have hk':k < us.length:=by rw[<-gf];exact hk
      have hx':k < xs.length:=by rw[<-rws.length];exact hk'
      exact⟨xs,xs[k],hq,by simp[hx']⟩
     ·obtain⟨xs,hq,rws⟩:=S'.read (e.pre _ _ hla) c
      exact⟨xs,hq,by rw[<-rws.length,hk];exact lJ gf.symm⟩
     ·obtain⟨xs,hq,rws⟩:=S'.read (e.pre _ _ hla) c
      obtain⟨p',rfl,fr,y⟩:=y
      obtain⟨x,ex,rfl⟩:=y xs hq
      have hk':k < us.length:=by rw[<-gf];exact hk
      obtain⟨x',ex',mY⟩:=rws.get (i:=k) (w:=us[k]) (bX hk')
      rw[ex] at ex'
      cases ex'
      have eU:Ext X.K m' H' m' (upd H' p' (.tup [.int k,x])):=Ext.iJ (.inl fr)
      refine⟨eU,S'.fresh fr,?_⟩
      show af X.K m' (upd H' p' (.tup [.int k,x])) ((me us)[k]'hk) (.ref p')
      rw[rX hk']
      unfold af
      exact⟨p',[.int k,x],rfl,aC,ae.cons mkInt (ae.cons (af.mono eU _ _ mY) ae.nil)⟩
    | _=>exact aa p1
  | _=>exact aa p1
end
open Classical in
def qe(is:List Nat)(gb:GS)(c:Option (Nat×List Wv)):List Wv->a9->Hs->Rs
 | [],ρ,st=> .nx ρ st
 | w::r,ρ,st=>match J2 is w ρ with
  | none=> .bad
  | some ρ1=>match gb ρ1 st with
   | .nx ρ' st'=>if tY c st' then qe is gb c r ρ' st' else .bad
   | .ct ρ' st'=>if tY c st' then qe is gb c r ρ' st' else .bad
   | .bk ρ' st'=> .nx ρ' st'
   | .rt w st'=> .rt w st'
   | .err c ρ' st'=> .err c ρ' st'
   | .bad=> .bad
def rY(is:List Nat)(gi:BY)(gb:GS):GS:=λρ st=>(gi ρ st).bg ρ λw st1=>qe is gb w.1 w.2 ρ st1
section
variable {X:Cx}
theorem Ih{es:List Expr}{is:List Nat}{k:Nat}{iter:Expr}{body:List Stmt}{gi:BY}{gb:GS}{pos pos':Pos}(hN:X.N.Nodup)(hp:PassesOwn (model X.prog X.w) X.A X.env X.xe)(hc:X.calm=true)(sl:Slots X es is)(hi:Ie X (.Tuple es k pos') iter gi)(hb:mV X body gb)
  (hs:∀x,YL iter X.env x=pure x):JS X (.For (.Tuple es k pos') iter body [] pos) (rY is gi gb):=by
 obtain⟨wi,P4,hw⟩:=hi
 refine JS.of (sN hp hc P4 (sM hc (iw hN sl) (jv sl) (iy sl)) gS hs) λρ st σ H m D S R p=>?_
 refine hw ρ st σ H m _ S R ((aF.cO R p).imp Ext.refl λw st1 p1 m1 H1 J' e1 S1 c1 tV=>?_)
 obtain⟨cc,ws⟩:=w
 let Pv:Nat->St->Hp->Prop:=λk σ H=>∃ρ st m',Ext X.K m1 H1 m' H/\aY X.K m' st H/\aq X.K m' H ρ σ/\tY cc st/\aF X m' H (qe is gb cc (ws.drop k) ρ st) D
 refine⟨λk n σ H=>n=ws.length - k/\k<=ws.length/\Pv k σ H,⟨ws.length,by simp,bZ _,ρ,st1,m1,Ext.refl,S1,R.mono e1,c1,aF.shift p1 e1⟩,?_⟩
 rintro k n σ2 H2 ⟨rfl,hk,ρ2,st2,m2,e2,S2,R2,c2,p2⟩
 by_cases hlt:k < ws.length
 ·refine .inr ⟨tV.go k H2 m2 st2 e2 S2 c2 hlt,Pv (k+1),λσ' H' p'=>⟨ws.length - (k+1),by omega,rfl,hlt,p'⟩,λx H' y=>?_⟩
  obtain⟨eY,W9,mY⟩:=tV.uD k hlt H2 x H' m2 st2 e2 S2 c2 y
  have ed:ws.drop k=ws[k]::ws.drop (k+1):=pK hlt
  rw[ed] at p2
  unfold qe at p2
  replace p2:=aF.shift p2 eY
  have W_:=R2.mono eY
  have Mq:=e2.trans eY
  have Tu:af X.K m2 H' ws[k] x:=mY
  cases eb:ws[k] with
  | tup us=>
   rw[eb] at p2 Tu
   dsimp only[J2] at p2
   cases e5:pN is us ρ2 with
   | none=>rw[e5] at p2;exact aa p2
   | some ρ5=>
    rw[e5] at p2
    dsimp only at p2
    unfold af at Tu
    obtain⟨b,ys,rfl,f1,f2⟩:=Tu
    refine⟨b,ys,rfl,eX.of f1,by rw[<-f2.length];exact lW e5,ju f2 W_ e5 λσ5 R5=>?_⟩
    refine hb _ st2 _ _ m2 _ W9 R5 ?_
    cases eg:gb ρ5 st2 with
    | nx ρ3 st3=>
     rw[eg] at p2
     by_cases c:tY cc st3
     ·simp only[if_pos c] at p2
      exact λσ3 m3 H3 e3 S3 R3=>⟨ρ3,st3,m3,Mq.trans e3,S3,R3,c,aF.shift p2 e3⟩
     ·simp only[if_neg c] at p2;exact aa p2
    | ct ρ3 st3=>
     rw[eg] at p2
     by_cases c:tY cc st3
     ·simp only[if_pos c] at p2
      exact λσ3 m3 H3 e3 S3 R3=>⟨ρ3,st3,m3,Mq.trans e3,S3,R3,c,aF.shift p2 e3⟩
     ·simp only[if_neg c] at p2;exact aa p2
    | bk ρ3 st3=>rw[eg] at p2;exact p2
    | rt w3 st3=>rw[eg] at p2;exact p2
    | err c3 ρ3 st3=>rw[eg] at p2;exact p2
    | bad=>rw[eg] at p2;exact p2
  | _=>rw[eb] at p2;exact aa p2
 ·have e:k=ws.length:=by omega
  subst e
  rw[pL] at p2
  exact .inl ⟨tV.stop _ H2 m2 st2 e2 S2 c2 rfl,p2 σ2 m2 H2 Ext.refl S2 R2⟩
end
def DY(n:Nat):Wv->Option (List Wv)
 | .tup us=>if us.length=n then some us else none
 | _=>none
open Classical in
def hZ(ck:Hs->Prop)(n:Nat)(gt:List Wv->Hs->Re Bool)(ge:List Wv->Hs->Re Wv)(l:Nat):List Wv->Hs->Option Hs
 | [],st=>some st
 | w::r,st=>match DY n w with
  | none=>none
  | some us=>match gt us st with
   | .ok false st1=>if ck st1 then hZ ck n gt ge l r st1 else none
   | .ok true st1=>(match ge us st1 with
    | .ok v st2=>(match iL (.ref l) v st2 with
     | .ok _ st3=>if ck st3 then hZ ck n gt ge l r st3 else none
     | _=>none)
    | _=>none)
   | _=>none
def eL(X:Cx)(scope:Scope)(xs:List Str)(cs:dN)(C:Yx)(s0:YC)(H0:Hp)(fp:List Yx)(pn:List (Yx×Obj)):Cx :=
 { fK X scope "" cs C s0 H0 fp pn (λ_ _=>False) with N:=xs++cs.map (·.1) }
structure jZ(X:Cx)(scope:Scope)(x:Str)(xr:List Str)(cs:dN):Prop where
 one:cH X scope x cs
 var:∀y∈x::xr,scope.names.lookup y=some .local
 nd:((x::xr)++cs.map (·.1)).Nodup
inductive eM:List Expr->List Str->Prop
 | nil:eM [] []
 | cons {x:Str} {p:Pos} {es:List Expr} {xs:List Str}:eM es xs->eM (.Name x p::es) (x::xs)
section
variable {X:Cx} {pins:List (Yx×Obj)} {σ:St} {H:Hp} {s:YC} {scope:Scope} {x:Str} {xr:List Str} {cs:dN}
theorem inv2{fp:List Yx}{tk:Nat}(S:jZ X scope x xr cs)(hc:X.calm=true)(I:Inv X pins σ H s)(hf:∀b∈fp,du X pins H b)(hl:∀b∈fp,b < s.heap.objs.size) :
  Inv (eL X scope (x::xr) cs s.heap.objs.size s H fp (X.pn++pins)) [] (aD (x::xr).length none++lY cs σ) H { s with heap:=pushCells (s.heap.push { cls:=.type "dict",data:=.dict #[] }) scope.names,toks:=tk }:=by
 have J:=vh (E:=λ_ _=>False) (tk:=tk) S.one I hf hl
 have o:=J.ok
 obtain⟨m,hn,hv⟩:=J.loc
 refine⟨⟨o.mod,o.kind,o.glob,o.blt,o.above,o.inj,o.has,o.N0,o.hd,o.frames,o.stk,o.RV,o.bs,o.BQ,o.Ag,o.B7,o.kK,o.Gi⟩,J.os,J.bare,J.base,⟨m,hn,λi y v e1 e2 e3=>?_⟩,J.cell,J.free,J.gQ,J.pin,J.hok,?_⟩
 ·have F6:((x::xr)++cs.map (·.1))[i]? =some y:=e1
  by_cases hi:i < (x::xr).length
  ·rw[cG (by rw[kN];exact hi),sP,if_pos hi] at e2
   cases e2
  ·rw[hV (by rw[kN];omega),kN] at e2
   rw[hV (by omega)] at F6
   exact hv (i - (x::xr).length+1) y v F6 e2 e3
 ·show(aD (x::xr).length none++lY cs σ).length=((x::xr)++cs.map (·.1)).length
  unfold lY
  simp
  omega
theorem Tv{fp:List Yx}{Hb He:Hp}{sb se:YC}{C:Yx}{σ':St}{ig:List (Yx×Obj)}(I:Inv X pins σ Hb sb)(hf:∀b∈fp,du X pins Hb b)(J:Inv (eL X scope (x::xr) cs C sb Hb fp (X.pn++pins)) ig σ' He se):Inv X pins σ He se:=by
 have un:Un (frs X.stack) fp Hb He sb.heap se.heap:=J.base
 exact I.rn (ch:=fp) J.os un J.hok J.bare λb hb=>⟨(hf b hb).2.2.2.1,(hf b hb).2.1,(hf b hb).2.2.2.2.1,λp hp=>(hf b hb).2.2.2.2.2 p hp⟩
end
theorem DZ{Y:Cx}:∀{es:List Expr}{xs:List Str}(pre:List Str)(post:List Str),eM es xs->Y.N=pre++(xs++post)->(∀y∈xs,Y.env.scope.names.lookup y=some .local)->Slots Y es (fT pre.length xs.length)
 | _,_,pre,post,.nil,hN,hv=> .nil
 | _,_,pre,post,.cons (x:=x) (xs:=xs) t,hN,hv=>by
  show Slots Y _ (pre.length::fT (pre.length+1) xs.length)
  have hx:=hv x aP
  refine .cons (by rw[hN];simp) ⟨.inl hx,.inr hx⟩ ?_
  have:=DZ (pre++[x]) post t (by rw[hN];simp) λy hy=>hv y (aJ _ hy)
  rw[eh] at this
  exact this
theorem J5:∀(us:List Wv)(pre:a9)(zs:a9)(post:a9),zs.length=us.length->pN (fT pre.length us.length) us (pre++(zs++post))=some (pre++(us.map some++post))
 | [],pre,zs,post,h=>by
  have:zs=[]:=List.length_eq_zero_iff.mp h
  subst this
  rfl
 | u::us,pre,[],post,h=>by cases h
 | u::us,pre,z::zs,post,h=>by
  show pN (fT (pre.length+1) us.length) us ((pre++(z::zs++post)).set pre.length (some u))=_
  have e:(pre++(z::zs++post)).set pre.length (some u)=(pre++[some u])++(zs++post):=by
   rw[List.set_append_right _ _ (ak _)]
   simp
  have q:=J5 us (pre++[some u]) zs post (by simpa using h)
  rw[eh,Lz] at q
  rw[e,q]
  simp
theorem Tw{K:PySem.W.Frag}{m:Mp}{H:Hp}{us:List Wv}{ρ:a9}{σ:St}(R:aq K m H (us.map some++ρ) σ):aq K m H (aD us.length none++ρ) σ:=by
 refine⟨by rw[<-R.len];simp,λi w e=>?_⟩
 by_cases hi:i < us.length
 ·rw[cG (by simpa using hi),sP,if_pos hi] at e
  cases e
 ·refine R.get i w ?_
  rw[hV (by simpa using Nat.le_of_not_lt hi)] at e ⊢
  simpa using e
section
variable {prog:YB} {w:YE} {A:Yy} {R:Result->YC->Prop} {s:YC}
abbrev NB(prog:YB)(w:YE)(A:Yy)(env:Env)(R:Result->YC->Prop):YD->YC->Prop:=notedBy (model prog w) A env λe s'=>R (.error e) s'
theorem MP{elt tg iter:Expr}{ifs:List Expr}{scope:Scope}{pos:Pos}{it acc:YD}{env:Env}(Iv:Nat->YC->Prop)
  (turn:∀n t,Iv n t->YR (model prog w) A (pyNext it) (λr t1=>match r with
   | none=>R (.ok .next) t1
   | some v=>YR (model prog w) A (letOwnedTupleGo tg it v) (λ_ t2=>YR (model prog w) A (assign tg env v) (λ_ t3=>
     YR (model prog w) A (forIn ifs true λc r=>if r=true then do let ok <-isTrue c env (eval c env);pure (kR ok) else pure (kR r)) (λok t4=>
      if ok=true then YR (model prog w) A (eval elt env) (λx t5=>YR (model prog w) A (call (.builtin "list.append") [acc,x]) (λ_ t6=>∃m,m < n/\Iv m t6) (NB prog w A env R) t5) (NB prog w A env R) t4
      else ∃m,m < n/\Iv m t4) (NB prog w A env R) t3) (NB prog w A env R) t2) (NB prog w A env R) t1) (NB prog w A env R) t)
  (n:Nat) (h:Iv n s):YI (model prog w) A (.compLoop (.ListComp elt [⟨tg,iter,ifs,0⟩] scope pos) 0 it acc env) R s:=by
 refine codeAny_loop rfl Iv (λn t hI=>?_) n h
 show YR _ A ((compTurn (.ListComp elt [⟨tg,iter,ifs,0⟩] scope pos) 0 it acc env).onRaise (λx=>do noteFrame x env;theTreesLotGoes x)) _ _ t
 refine wpAny_noted ?_
 rw[compTurn_list]
 refine YS (wpAny_standAt (YS (YV (turn n t hI) (λr t1 g1=>?_) λ_ _ z=>z)))
 cases r with
 | none=>exact YY g1
 | some v=>
  refine YS (YV g1 (λ_ t2 g2=>YS (YV g2 (λ_ t3 g3=>YS (YV g3 (λok t4 g4=>?_) λ_ _ z=>z)) λ_ _ z=>z)) λ_ _ z=>z)
  cases ok with
  | false=>exact YY ⟨rfl,g4⟩
  | true=>exact YS (YS (YV g4 (λx t5 g5=>YS (YV g5 (λ_ t6 g6=>YY (YY ⟨rfl,g6⟩)) λ_ _ z=>z)) λ_ _ z=>z))
end
section
variable {X:Cx}
theorem vz{pins:List (Yx×Obj)}{σ:St}{ρ:a9}{scope:Scope}{x:Str}{xr:List Str}{cs:dN}{es:List Expr}{kt:Nat}{pt pos:Pos}{elt iter:Expr}{ifs:List Expr}{gt:GT}{ge:GE}{ck:Hs->Prop}{ws:List Wv}{E:YD->YC->Prop}
  {RR:YD->Yx->Result->YC->Prop}
  {it:Yx}{fp:List Yx}{tn:Nat->Heap->Prop}{J':It}{H2:Hp}{s2:YC}{m1:Mp}{st1 mO:Hs}(S:jZ X scope x xr cs)(sl:eM es (x::xr))(hc:X.calm=true)(I2:Inv X pins σ H2 s2)(T:Turn X.prog X.w X.K (.Tuple es kt pt) J' fp it tn)(t0:tn 0 s2.heap)(f2:∀b∈fp,du X pins H2 b)
  (S1:aY X.K m1 st1 H2)(R:aq X.K m1 H2 ρ σ)(hck:ck (st1++[.lst []]))(run:hZ ck (x::xr).length (λw=>gt (w.map some++cq cs ρ)) (λw=>ge (w.map some++cq cs ρ)) st1.length ws (st1++[.lst []])=some mO)
  (hE:∀C s0 H0 pn,JE (eL X scope (x::xr) cs C s0 H0 fp pn) elt ge)(hT:∀C s0 H0 pn,y_ (eL X scope (x::xr) cs C s0 H0 fp pn) ifs gt)
  (hgo:∀(k:Nat)(H:Hp)(m':Mp)(st:Hs),Ext X.K m1 H2 m' H->aY X.K m' st H->ck st->k < ws.length->J'.go k H)(hstop:∀(k:Nat)(H:Hp)(m':Mp)(st:Hs),Ext X.K m1 H2 m' H->aY X.K m' st H->ck st->k=ws.length->J'.stop k H)
  (hy:∀(k:Nat)(hk:k < ws.length)(H:Hp)(v:V)(H':Hp)(m':Mp)(st:Hs),Ext X.K m1 H2 m' H->aY X.K m' st H->ck st->J'.uD k H v H'->Ext X.K m' H m' H'/\aY X.K m' st H'/\af X.K m' H' ws[k] v)
  (fin:∀(D C:Yx)(mm:Str->Option YD)(m':Mp)(H':Hp)(s':YC),Ext X.K m1 H2 m' H'->aY X.K m' mO H'->m'[st1.length]? =some D->Inv X pins σ H' s'->du X pins H' C->s'.heap.Ns C mm->(∀y c,X.env.cells.lookup y=some c->c≠C)->RR (.ref D) C (.ok .next) s') :
  YR (model X.prog X.w) X.A (newList []) (λacc s3=>YR (model X.prog X.w) X.A (newFunctionEnv scope X.env.globals (qY X.env scope.names []) [] X.env.qual none .none (some X.env)) (λcenv s4=>
   YI (model X.prog X.w) X.A (.compStart (.ListComp elt [⟨.Tuple es kt pt,iter,ifs,0⟩] scope pos) 0 (.ref it) acc { cenv with scope:=relabel scope X.env }) (RR acc cenv.locals) s4) E s3) E s2:=by
 refine YW ?_
 have I3:Inv X pins σ (upd H2 s2.heap.objs.size (.lst [])) { s2 with heap:=s2.heap.push { cls:=.type "list",data:=.seq ([]:List YD).toArray } }:=I2.GQ (ys:=[]) (its:=[]) (t':=s2.toks) .nil (bZ _)
 have SX:∀b∈fp,b < s2.heap.objs.size:=λb hb=>by
  obtain⟨o,e,_⟩:=T.obj _ _ t0 b hb
  exact aL e
 have hD:H2 s2.heap.objs.size=none:=I2.fresh
 have f3:∀b∈fp,du X pins (upd H2 s2.heap.objs.size (.lst [])) b:=λb hb=>⟨by rw[ar (bR (SX b hb))];exact(f2 b hb).1,(f2 b hb).2⟩
 have S3:=S1.alloc (ws:=[]) (xs:=[]) hD ae.nil
 have e3:Ext X.K m1 H2 (m1++[s2.heap.objs.size]) (upd H2 s2.heap.objs.size (.lst [])):=Ext.more.trans (Ext.upd (.inl hD))
 have HF:(m1++[s2.heap.objs.size])[st1.length]? =some s2.heap.objs.size:=by
  rw[<-S1.len,hV (ak _),tw];rfl
 generalize m6:({ s2 with heap:=s2.heap.push { cls:=.type "list",data:=.seq ([]:List YD).toArray } }:YC)=s3 at I3
 have PR:∀b o,s2.heap.get? b=some o->s3.heap.get? b=some o:=λb o e=>by rw[<-m6];exact aR _ e
 have Mr:∀b∈fp,b < s3.heap.objs.size:=λb hb=>by
  obtain⟨o,e,_⟩:=T.obj _ _ t0 b hb
  exact aL (PR b o e)
 generalize WZ:s2.heap.objs.size=D at *
 generalize W0:upd H2 D (.lst [])=H3 at *
 generalize W2:m1++[D]=m3 at *
 have R3:aq X.K m3 H3 (cq cs ρ) (lY cs σ):=(y8 cs R).mono e3
 generalize hrr:cq cs ρ=ρc at *
 generalize hss:lY cs σ=σc at *
 refine jw ?_
 have Ic:=inv2 (tk:=s3.toks) S hc I3 f3 Mr
 rw[hss] at Ic
 have PU:∀b o,s3.heap.get? b=some o->(pushCells (s3.heap.push { cls:=.type "dict",data:=.dict #[] }) scope.names).get? b=some o:=λb o e=>pushCells_keeps _ _ b o (aR _ e)
 generalize (pushCells (s3.heap.push { cls:=.type "dict",data:=.dict #[] }) scope.names)=h4 at Ic PU ⊢
 have t4:tn 0 h4:=T.keep _ _ _ t0 λb _ o e=>PU b o (PR b o e)
 let Xc:=eL X scope (x::xr) cs s3.heap.objs.size s3 H3 fp (X.pn++pins)
 have vis:∀y∈x::xr,Xc.env.scope.names.lookup y=some .local:=λy hy=>lookup_relabel_local (S.var y hy)
 have Tz:Slots Xc es (fT 0 (x::xr).length):=DZ (Y:=Xc) [] (cs.map (·.1)) sl rfl vis
 have Ms:∀(H':Hp),(∀b∈fp,H' b=none)->∀b∈fp,du Xc [] H' b:=λH' hn b hb=>⟨hn b hb,bR (Mr b hb),pP I3 (f3 b hb),.inl hb,λy c e=>(by
  rcases S.one.sub I3.ok e with ⟨q1,_,_⟩ | ⟨q1,_⟩
  ·rw[q1];exact lF (y9 (Mr b hb))
  ·exact(f3 b hb).2.2.2.2.1 y c q1),λp hp=>(f2 b hb).2.2.2.2.2 p (by have PV:p∈(X.pn++pins)++[]:=hp;rw[fc] at PV;exact PV)⟩
 let Pv:Nat->YC->Prop:=λk s'=>∃σ' H' st m',Inv Xc [] σ' H' s'/\aq X.K m' H' (aD (x::xr).length none++ρc) σ'/\tn k s'.heap/\(∀b∈fp,H' b=none)/\Ext X.K m3 H3 m' H'/\aY X.K m' st H'/\ck st/\hZ ck (x::xr).length (λw=>gt (w.map some++ρc)) (λw=>ge (w.map some++ρc)) st1.length (ws.drop k) st=some mO
 have loop:∀s4:YC,Pv 0 s4->YI (model X.prog X.w) X.A (.compLoop (.ListComp elt [⟨.Tuple es kt pt,iter,ifs,0⟩] scope pos) 0 (.ref it) (.ref D) (compEnvC scope (vg X scope s3.heap.objs.size) s3.heap.objs.size X.env)) (RR (.ref D) s3.heap.objs.size) s4:=λs4 p0=>by
  refine MP (λn s'=>∃k,n=ws.length - k/\k<=ws.length/\Pv k s') ?_ ws.length ⟨0,by simp,bZ _,p0⟩
  rintro n s5 ⟨k,rfl,hk,σ5,H5,uL,m5,I5,R5,PX,La,e5,S5,c5,a6⟩
  have DE:=e3.trans e5
  by_cases hlt:k < ws.length
  ·refine bg (T.item Xc rfl rfl rfl hc k [] s5 σ5 H5 _ I5 (Ms H5 La) PX (hgo k H5 m5 uL DE S5 c5 hlt)) λr s6 h6=>?_
   obtain⟨u,rfl,h6⟩:=h6
   refine bg h6 λ_ s7 h7=>?_
   obtain⟨v,H7,I7,rv,yl,Mt,SY⟩:=h7
   obtain⟨eY,S7,PY⟩:=hy k hlt H5 v H7 m5 uL DE S5 c5 yl
   have N8:=I7.pinned (Ms H7 SY) (T.obj _ _ Mt)
   have Vx:=e5.trans eY
   have ed:ws.drop k=ws[k]::ws.drop (k+1):=pK hlt
   rw[ed] at a6
   unfold hZ at a6
   cases ep:DY (x::xr).length ws[k] with
   | none=>rw[ep] at a6;cases a6
   | some us=>
   rw[ep] at a6
   dsimp only at a6
   have ht:ws[k]= .tup us/\us.length=(x::xr).length:=by
    cases eb:ws[k] with
    | tup vs=>
     rw[eb] at ep
     replace ep:(if vs.length=(x::xr).length then some vs else none)=some us:=ep
     by_cases cl:vs.length=(x::xr).length
     ·rw[if_pos cl] at ep;cases ep;exact⟨rfl,cl⟩
     ·rw[if_neg cl] at ep;cases ep
    | _=>rw[eb] at ep;cases ep
   rw[ht.1] at PY
   unfold af at PY
   obtain⟨tb,ys,rfl,f1,Vy⟩:=PY
   have W':pN (fT 0 (x::xr).length) us (aD (x::xr).length none++ρc)=some (us.map some++ρc):=by
    have q:=J5 us [] (aD (x::xr).length none) ρc (by rw[kN];exact ht.2.symm)
    rw[ht.2] at q
    exact q
   have asg:=sM (X:=Xc) (k:=kt) (pos:=pt) hc (iw S.nd Tz) (jv Tz) (iy Tz) ([]++dI fp s7.heap) s7 σ5 H7 (.ref tb) u (λσ' H'=>H'=H7/\aq X.K m5 H' (us.map some++ρc) σ') N8 rv ⟨tb,ys,rfl,eX.of f1,by rw[<-Vy.length,ht.2];simp,ju (X:=Xc) Vy (R5.mono eY) W' λσ' R'=>⟨rfl,R'⟩⟩
   refine YV asg (λ_ s8 h8=>?_) λ_ _ z=>aa z
   obtain⟨σ8,H8,Q9,rfl,R8⟩:=h8
   have back:∀{H':Hp}{s':YC}{m':Mp}{st:Hs},Inv Xc ([]++dI fp s7.heap) σ8 H' s'->Ext X.K m3 H3 m' H'->Ext X.K m5 H8 m' H'->aY X.K m' st H'->ck st->hZ ck (x::xr).length (λw=>gt (w.map some++ρc)) (λw=>ge (w.map some++ρc)) st1.length (ws.drop (k+1)) st=some mO->∃n',n' < ws.length - k/\∃k',n'=ws.length - k'/\k'<=ws.length/\Pv k' s' :=
    λ{H' s' m' st} I' e' e8 S' c' r'=>⟨ws.length - (k+1),by omega,k+1,rfl,hlt,σ8,H',st,m',I'.jf,by have q:=Tw (R8.mono e8);rw[ht.2] at q;exact q,T.keep _ _ _ Mt λb hb o e=>(I'.pin (b,o) (e_ _ (e_ _ (eZ hb e)))).1,λb hb=>by
     obtain⟨o,e,_⟩:=T.obj _ _ Mt b hb
     exact(I'.pin (b,o) (e_ _ (e_ _ (eZ hb e)))).2.1,e',S',c',r'⟩
   cases eg:gt (us.map some++ρc) uL with
   | err c BX=>rw[eg] at a6;cases a6
   | bad=>rw[eg] at a6;cases a6
   | ok b BX=>
    rw[eg] at a6
    have F4:=hT s3.heap.objs.size s3 H3 (X.pn++pins) (us.map some++ρc) uL σ8 H8 m5 (λb' H'=>b'=b/\∃m',Ext X.K m5 H8 m' H'/\aY X.K m' BX H') S7 R8 (by rw[eg];exact λm' H' e' S'=>⟨rfl,m',e',S'⟩) ([]++dI fp s7.heap) s8 Q9
    refine YV F4 (λok s9 h9=>?_) λ_ _ z=>aa z
    obtain⟨H9,I9,rfl,m9,e9,S9⟩:=h9
    cases ok with
    | false=>
     dsimp only at a6
     by_cases c6:ck BX
     ·rw[if_pos c6] at a6
      rw[if_neg cQ]
      exact back I9 (Vx.trans e9) e9 S9 c6 a6
     ·rw[if_neg c6] at a6;cases a6
    | true=>
     dsimp only at a6
     rw[if_pos rfl]
     cases ee:ge (us.map some++ρc) BX with
     | err c HG=>rw[ee] at a6;cases a6
     | bad=>rw[ee] at a6;cases a6
     | ok w HG=>
      rw[ee] at a6
      dsimp only at a6
      cases ea:iL (.ref st1.length) w HG with
      | err c Mu=>rw[ea] at a6;cases a6
      | bad=>rw[ea] at a6;cases a6
      | ok w2 Mu=>
       rw[ea] at a6
       dsimp only at a6
       by_cases c8:ck Mu
       ·rw[if_pos c8] at a6
        have el:=hE s3.heap.objs.size s3 H3 (X.pn++pins) (us.map some++ρc) BX σ8 H9 m9 (λv' H'=>∃m',Ext X.K m9 H9 m' H'/\aY X.K m' HG H'/\af X.K m' H' w v') S9 (R8.mono e9) (by rw[ee];exact λv' m' H' e' S' r'=>⟨m',e',S',r'⟩) ([]++dI fp s7.heap) s9 I9
        refine YV el (λu2 vj PZ=>?_) λ_ _ z=>aa z
        obtain⟨v2,DF,S8,r2,Mv,Mw,S_,Mx⟩:=PZ
        obtain⟨r,h1,h2⟩:=tQ (X:=Xc)
        have eA:=(Vx.trans e9).trans Mw
        have ro:af X.K Mv DF (.ref st1.length) (.ref D):=by unfold af;exact⟨D,rfl,eA.pre _ _ HF⟩
        have rd:=h2 (.ref st1.length) w (.ref D) v2 HG DF Mv (λ_ H'=>∃m',Ext X.K Mv DF m' H'/\aY X.K m' Mu H') S_ ro Mx (by rw[ea];exact λv' m' H' e' S' r'=>⟨m',e',S'⟩)
        refine YV (h1 ([]++dI fp s7.heap) vj σ8 DF (.ref D) [v2] (.ref D) [u2] _ S8 rfl (.cons r2 .nil) rd) (λ_ Q_ h11=>?_) λ_ _ z=>aa z
        obtain⟨_,Ra,Tf,_,W3,Rb,Th⟩:=h11
        exact back Tf (eA.trans Rb) ((e9.trans Mw).trans Rb) Th c8 a6
       ·rw[if_neg c8] at a6;cases a6
  ·have ek:k=ws.length:=by omega
   subst ek
   refine bg (T.done Xc rfl rfl rfl hc _ [] s5 σ5 H5 _ I5 (Ms H5 La) PX (hstop _ H5 m5 uL DE S5 c5 rfl)) λr s6 h6=>?_
   obtain⟨rfl,I6⟩:=h6
   rw[pL] at a6
   cases a6
   obtain⟨mm,Ti,_⟩:=id I6.loc
   have fC:=I3.oZ (H':=H5) (ak _) I6.free
   exact fin D _ mm m5 H5 _ DE S5 (e5.pre _ _ HF) (Tv I3 f3 I6) fC Ti fC.2.2.2.2.1
 have Rn:aq X.K m3 H3 (aD (x::xr).length none++ρc) (aD (x::xr).length none++σc):=by
  refine⟨by rw[eh,eh,R3.len];simp,λi w e=>?_⟩
  by_cases hi:i < (x::xr).length
  ·rw[cG (by rw[kN];exact hi),sP,if_pos hi] at e
   cases e
  ·rw[hV (by rw[kN];omega),kN] at e ⊢
   exact R3.get _ w e
 have p0:Pv 0 { s3 with heap:=h4,toks:=s3.toks }:=⟨_,H3,st1++[Ob.lst []],m3,Ic,Rn,t4,λb hb=>(f3 b hb).1,Ext.refl,S3,hck,by rw[List.drop_zero];exact run⟩
 exact codeAny_compStart_list (loop _ p0) (T.self X.A 0 _ _ _ t4 (loop _ p0))
def gE(n:Nat)(cs:dN)(gt:GT)(ge:GE)(ρ:a9)(w:Ia)(st:Hs):Re Wv:=match hZ (tY w.1) n (λv=>gt (v.map some++cq cs ρ)) (λv=>ge (v.map some++cq cs ρ)) st.length w.2 (st++[.lst []]) with
 | some mO=> .ok (.ref st.length) mO
 | none=> .bad
def gF(n:Nat)(cs:dN)(gi:BY)(gt:GT)(ge:GE):GE:=λρ st=>(gi ρ st).bind λw st1=>gE n cs gt ge ρ w st1
theorem Ii{c:Option (Nat×List Wv)}{st more:Hs}(h:tY c st):tY c (st++more):=by
 cases c with
 | none=>trivial
 | some p=>exact rN h
theorem vA{scope:Scope}{x:Str}{xr:List Str}{cs:dN}{es:List Expr}{kt:Nat}{pt pos:Pos}{elt iter:Expr}{ifs:List Expr}{gi:BY}{gt:GT}{ge:GE}{use:Option (YD->Sem Unit)}{Q:YD->YC->Prop}{P:Wv->Hs->Prop}
  {ρ:a9}{st:Hs}{σ:St}{H:Hp}{m:Mp}{pins:List (Yx×Obj)}{s:YC}{ps:Pos}
  (CS:jZ X scope x xr cs)(sl:eM es (x::xr))(hc:X.calm=true)(hi:Ie X (.Tuple es kt pt) iter gi)(hE:∀C s0 H0 fp pn,JE (eL X scope (x::xr) cs C s0 H0 fp pn) elt ge)(hT:∀C s0 H0 fp pn,y_ (eL X scope (x::xr) cs C s0 H0 fp pn) ifs gt)(hs:∀x,YL iter X.env x=pure x)
  (S:aY X.K m st H)(R:aq X.K m H ρ σ)(I:Inv X pins σ H s)(p:ao X σ m H (gF (x::xr).length cs gi gt ge ρ st) P)
  (fin:∀(w:Wv)(mO:Hs)(v:V)(D C:Yx)(mm:Str->Option YD)(m':Mp)(H':Hp)(s':YC),P w mO->Ext X.K m H m' H'->aY X.K m' mO H'->af X.K m' H' w v->v= .ref D->Inv X pins σ H' s'->du X pins H' C->s'.heap.Ns C mm->YJ (model X.prog X.w) X.A X.xe use Q (.ref D) C (.ok .next) s') :
  YR (model X.prog X.w) X.A (comprehension (.ListComp elt [⟨.Tuple es kt pt,iter,ifs,0⟩] scope pos) scope X.env ps (newList []) false (eval iter X.env) use) Q X.xe s:=by
 obtain⟨wi,P4,hw⟩:=hi
 let R':It->Hp->Prop:=λJ' H1=>∃(w:Ia)(st1:Hs)(m1:Mp),ao X σ m H (gE (x::xr).length cs gt ge ρ w st1) P/\Ext X.K m H m1 H1/\aY X.K m1 st1 H1/\tY w.1 st1/\xO X w m1 H1 J'
 have hr:=hw ρ st σ H m R' S R ((ao.bind p).imp Ext.refl λw st1 q m1 H1 J' e1 S1 c1 tV=>⟨w,st1,m1,q,e1,S1,c1,tV⟩)
 refine wpAny_comprehension_free (g:=⟨.Tuple es kt pt,iter,ifs,0⟩) (gs:=[]) (cl:=qY X.env scope.names []) rfl hs (y7 (CS.one.has I.ok)) CS.one.kind (λy hy e=>by rw[CS.one.look y hy,e]) (bg (P4 pins s σ H R' I hr) λv s1 h1=>bg h1 λitv s2 h2=>?_)
 obtain⟨it,fp,tn,J',H1,rfl,I2,T,t0,f2,w,st1,m1,q,e1,S1,c1,tV⟩:=h2
 unfold gE at q
 cases run:hZ (tY w.1) (x::xr).length (λv=>gt (v.map some++cq cs ρ)) (λv=>ge (v.map some++cq cs ρ)) st1.length w.2 (st1++[.lst []]) with
 | none=>rw[run] at q;exact aa q
 | some mO=>
  rw[run] at q
  refine vz (RR:=λacc C=>YJ (model X.prog X.w) X.A X.xe use Q acc C) CS sl hc I2 T t0 f2 S1 (R.mono e1) (Ii c1) run (λC s0 H0 pn=>hE C s0 H0 fp pn) (λC s0 H0 pn=>hT C s0 H0 fp pn) tV.go tV.stop tV.uD ?_
  intro D C mm m' H' s' e' S' HF I' fC ns _
  exact fin _ mO (.ref D) D C mm m' H' s' q (e1.trans e') S' (by unfold af;exact⟨D,rfl,HF⟩) rfl I' fC ns
theorem vB{scope:Scope}{x:Str}{xr:List Str}{cs:dN}{es:List Expr}{kt:Nat}{pt pos:Pos}{elt iter:Expr}{ifs:List Expr}{gi:BY}{gt:GT}{ge:GE}
  (CS:jZ X scope x xr cs)(sl:eM es (x::xr))(hc:X.calm=true)(hi:Ie X (.Tuple es kt pt) iter gi)(hE:∀C s0 H0 fp pn,JE (eL X scope (x::xr) cs C s0 H0 fp pn) elt ge)(hT:∀C s0 H0 fp pn,y_ (eL X scope (x::xr) cs C s0 H0 fp pn) ifs gt)(hs:∀x,YL iter X.env x=pure x) :
  JE X (.ListComp elt [⟨.Tuple es kt pt,iter,ifs,0⟩] scope pos) (gF (x::xr).length cs gi gt ge):=λρ st σ H m Q S R p pins s I=>by
 rw[eval_ListComp]
 refine vA (use:=none) CS sl hc hi hE hT hs S R I p ?_
 intro w mO v D C mm m' H' s' q e' S' rw' ev I' fC ns
 exact⟨mm,ns,λh' same=>⟨.ref D,H',jV I' fC same,rfl,ev ▸ q v m' H' e' S' rw'⟩⟩
theorem D0(i:Nat){scope:Scope}{x y:Str}{xr:List Str}{cs:dN}{es:List Expr}{kt:Nat}{pt pos spos py:Pos}{elt iter:Expr}{ifs:List Expr}{gi:BY}{gt:GT}{ge:GE}(hN:X.N.Nodup)
  (CS:jZ X scope x xr cs)(sl:eM es (x::xr))(hc:X.calm=true)(hi:Ie X (.Tuple es kt pt) iter gi)(hE:∀C s0 H0 fp pn,JE (eL X scope (x::xr) cs C s0 H0 fp pn) elt ge)(hT:∀C s0 H0 fp pn,y_ (eL X scope (x::xr) cs C s0 H0 fp pn) ifs gt)(hs:∀x,YL iter X.env x=pure x)
  (hx:X.N[i]? =some y)(hl:Loc X.env.scope y)(hf:X.fn y=true\/X.env.scope.names.lookup y=some .local) :
  JS X (.Assign [.Name y py] (.ListComp elt [⟨.Tuple es kt pt,iter,ifs,0⟩] scope pos) spos) (bM i (gF (x::xr).length cs gi gt ge)):=by
 have sw:∃b,swapsWith (.ListComp elt [⟨.Tuple es kt pt,iter,ifs,0⟩] scope pos) (some (.Name y py)) spos.line X.env=pure b:=⟨_,rfl⟩
 obtain⟨b,sw⟩:=sw
 cases b with
 | false=>exact tM i hN (vB CS sl hc hi hE hT hs) hx hl sw hf
 | true=>
  intro ρ st σ H m D S R p pins s I
  rw[exec_Assign_Name_used _ _ _ _ sw]
  refine YS (wpAny_standAt (YS ?_))
  show YR _ X.A (do let _ <-comprehension (.ListComp elt [⟨.Tuple es kt pt,iter,ifs,0⟩] scope pos) scope X.env _ (newList []) false (eval iter X.env) (some (assign (.Name y py) X.env))) _ _ s
  refine YS (YV (vA (use:=some (assign (.Name y py) X.env)) (Q:=λ_ s'=>SP X pins D .next s') CS sl hc hi hE hT hs S R I (aF.cO R p) ?_) (λ_ s' hq=>YY (YY hq)) λ_ _ e=>e)
  intro w mO v D' C mm m' H' s' q e' S' rw' ev I' fC ns
  refine wpAny_assign_Name (mQ (i:=i) I' hN hx hl (show RelV v (.ref D') by rw[ev];rfl) (λs2 I2 h2=>?_) hf)
  obtain⟨a,sb,ha⟩:=h2
  have hca:C≠a:=by
   rcases ha with z | z
   ·rw[z];exact fC.2.1
   ·exact bt (fC.2.2.2.2.1 y a z)
  exact⟨mm,ns.sameBut sb hca,λh' same=>⟨_,_,jV I2 fC same,q _ m' H' e' S' ((R.mono e').set i rw')⟩⟩
end
section
variable {X:Cx}
theorem vC{ob:Expr}{name:Str}{id:String}{e:Expr}{go ga:GE}{apos cpos:Pos}{mt:Wv->Wv->Hs->Re Wv}(hm:Mk X id mt)(slot:Slot "list" name id)(hty:typeOf (.builtin id)=pure (.type "method_descriptor"))(hbase:attributeBase ob name X.env (eval ob X.env)=eval ob X.env)(ho:JE X ob go)(ha:JE X e ga)
  (hst:YQ [e] X.env=[(false,eval e X.env)])(hline:(apos.endLine == cpos.line)=true):JE X (.Call (.Attribute ob name apos) [e] [] cpos) (dE mt go ga):=by
 obtain⟨r,h1,h2⟩:=hm
 have hfew:((backTo cpos (YQ [e] X.env)).all (λx=> !x.1)&&(backToKw cpos (keywordEach [] X.env)).all (λx=>x.1.isSome)&&decide ([e].length+([]:List Keyword).length+(if([]:List Keyword).isEmpty then 0 else 1) < 30))=true:=by
  rw[hst];rfl
 refine JE.of (yP PySem.F.plainAttrs_list slot hty h1 aG i0 hbase hfew hline hst rfl) λρ st σ H m Q S R p=>?_
 refine ho.go S R (ao.bind p) λo st1 v m1 H1 p1 e1 S1 ro=>?_
 cases o with
 | ref l=>
  dsimp only at p1
  cases el:aj st1 l with
  | none=>rw[el] at p1;exact aa p1
  | some WW=>
   rw[el] at p1
   dsimp only at p1
   have J1:=ro
   unfold af at J1
   obtain⟨a,rfl,hla⟩:=J1
   obtain⟨xs,hq,_⟩:=S1.read hla el
   refine⟨.inl ⟨rfl,xs,hq⟩,?_⟩
   refine(oz ha tF hst).go S1 (R.mono e1) (ok:=λws st2=>ao X σ m H (match ws with | [w]=>(mt (.ref l) w st2).je | _=> .bad) (BU X.K m H Q)) ?_ λws st2 vs m2 H2 p2 e2 S2 rs=>?_
   ·have p3:=(ao.bind p1).imp e1 (λ_ _ q=>q)
    show ao X σ m1 H1 ((ga ρ st1).bind λx st1=>(au ρ st1).bind λxs st2=> .ok (x::xs) st2) _
    cases eg:ga ρ st1 with
    | ok w st2=>rw[eg] at p3;exact p3
    | err c st2=>rw[eg] at p3;exact p3
    | bad=>rw[eg] at p3;exact p3
   ·match ws,rs,p2 with
    | [],rs,p2=>exact aa p2
    | [w],rs,p2=>
     obtain⟨v2,rfl,PJ⟩:=i_ rs
     exact h2 (.ref l) w (.ref a) v2 st2 H2 m2 Q S2 (af.mono e2 _ _ ro) PJ (dC.shift (ao.je p2) (e1.trans e2))
    | _::_::_,rs,p2=>exact aa p2
 | _=>exact aa p1
end
section
open PySem.SeqAt PySem.MeetsSeq PySem.MeetsSeq2 PySem.MeetsSeq3
theorem vD(p:Yx)(its:Array YD)(n:Nat)(dd:Option Yx)(sl:Array (Option YD))(x:YD)(e:YD->Bool)(j:Nat)(hj:j < its.size)(hit:e its[j]=true)(hno:∀m (hm:m < its.size),m < j->e its[m]=false) :
  Meets (Builtin.«tuple.index» ⟨[.ref p,x],[]⟩)
   (λA R s=>s.heap.get? p=some { cls:=.type "tuple",dict:=dd,data:=.seq its n,slots:=sl }/\(∀y,y∈its->EqAt A.in1 s y x (e y))/\R (.ok (.ret (.int j s.toks))) { s with toks:=s.toks+1 }) :=
 .of_wp λprog w A R s hh=>by
  obtain⟨hp,g,d,tk,os⟩:=s
  obtain⟨gp,he,hr⟩:=hh
  have sb:=AutoSeq1.sub_tuple_tuple
  wp_walk using PySem.AutoSeq1.wpAny_loadPart' gp
  rw[Nat.min_self]
  show YR (model prog w) A.in1 (forIn [:its.size] (none,()) (λ(i:Nat)(__s:Option PySem.Fin×Unit)=>match its[i]? with
      | some y=>do
       let __do_lift <-eqBool y x
       if __do_lift=true then do
         let __do_lift <-retInt i
         pure (ForInStep.done (some __do_lift,()))
        else pure (kR (none,()))
      | x=>pure (kR (none,())))) _ _ _
  rw[Std.Legacy.Range.forIn_eq_forIn_range']
  simp only[Std.Legacy.Range.size,Nat.sub_zero,Nat.add_sub_cancel,Nat.div_one]
  refine wpAny_forIn_list _ (λrest b s'=>b.1=none/\s'=⟨hp,g,d,tk,os⟩/\∃i,i<=j/\rest=fT i (its.size - i)) _ ?_ ?_ _ _ ⟨rfl,rfl,0,bZ _,by simp⟩
  ·rintro y rest b s' ⟨e0,rfl,i,hi,er⟩
   have hlt:i < its.size:=by omega
   obtain⟨rfl,Xa⟩:y=i/\rest=fT (i+1) (its.size - (i+1)):=by
    have q:its.size - i=(its.size - (i+1))+1:=by omega
    rw[q,List.range'_succ] at er
    injection er with h1 h2
    exact⟨h1,h2⟩
   rw[Qc hlt]
   dsimp only
   refine YS (he _ (Array.getElem_mem hlt) prog w _ _ ?_)
   by_cases cj:y=j
   ·subst cj
    rw[hit,if_pos rfl]
    wp_walk
    exact⟨_,rfl,hr⟩
   ·rw[hno y hlt (by omega),if_neg cQ]
    exact YY ⟨rfl,rfl,y+1,by omega,Xa⟩
  ·rintro b s' ⟨e0,rfl,i,hi,er⟩
   exfalso
   have:its.size - i=0:=by
    have:=congrArg iG er
    simpa using this.symm
   omega
end
section
variable {X:Cx}
def jy(mt:Wv->Wv->Hs->Re Wv)(go ga:GE):GE:=λρ st=>(go ρ st).bind λo st1=>match o with
 | .tup us=>(ga ρ st1).bind λv st2=>(mt (.tup us) v st2).je
 | _=> .bad
theorem vE{ob:Expr}{name:Str}{id:String}{e:Expr}{go ga:GE}{apos cpos:Pos}{mt:Wv->Wv->Hs->Re Wv}(hm:Mk X id mt)(slot:Slot "tuple" name id)(hty:typeOf (.builtin id)=pure (.type "method_descriptor"))(hbase:attributeBase ob name X.env (eval ob X.env)=eval ob X.env)(ho:JE X ob go)(ha:JE X e ga)
  (hst:YQ [e] X.env=[(false,eval e X.env)])(hline:(apos.endLine == cpos.line)=true):JE X (.Call (.Attribute ob name apos) [e] [] cpos) (jy mt go ga):=by
 obtain⟨r,h1,h2⟩:=hm
 have hfew:((backTo cpos (YQ [e] X.env)).all (λx=> !x.1)&&(backToKw cpos (keywordEach [] X.env)).all (λx=>x.1.isSome)&&decide ([e].length+([]:List Keyword).length+(if([]:List Keyword).isEmpty then 0 else 1) < 30))=true:=by
  rw[hst];rfl
 refine JE.of (yP PySem.F.plainAttrs_tuple slot hty h1 aG i0 hbase hfew hline hst rfl) λρ st σ H m Q S R p=>?_
 refine ho.go S R (ao.bind p) λo st1 v m1 H1 p1 e1 S1 ro=>?_
 cases o with
 | tup us=>
   dsimp only at p1
   have J1:=ro
   unfold af at J1
   obtain⟨a,xs,rfl,hq,_⟩:=J1
   refine⟨.inr (.inl ⟨rfl,.inr ⟨xs,hq⟩⟩),?_⟩
   refine(oz ha tF hst).go S1 (R.mono e1) (ok:=λws st2=>ao X σ m H (match ws with | [w]=>(mt (.tup us) w st2).je | _=> .bad) (BU X.K m H Q)) ?_ λws st2 vs m2 H2 p2 e2 S2 rs=>?_
   ·have p3:=(ao.bind p1).imp e1 (λ_ _ q=>q)
    show ao X σ m1 H1 ((ga ρ st1).bind λx st1=>(au ρ st1).bind λxs st2=> .ok (x::xs) st2) _
    cases eg:ga ρ st1 with
    | ok w st2=>rw[eg] at p3;exact p3
    | err c st2=>rw[eg] at p3;exact p3
    | bad=>rw[eg] at p3;exact p3
   ·match ws,rs,p2 with
    | [],rs,p2=>exact aa p2
    | [w],rs,p2=>
     obtain⟨v2,rfl,PJ⟩:=i_ rs
     exact h2 (.tup us) w (.ref a) v2 st2 H2 m2 Q S2 (af.mono e2 _ _ ro) PJ (dC.shift (ao.je p2) (e1.trans e2))
    | _::_::_,rs,p2=>exact aa p2
 | _=>exact aa p1
theorem Ba:JD X "tuple.index" (λx xs H Q=>∃(p:Yx)(ys:List V)(y:V)(j:Nat),x= .ref p/\xs=[y]/\eX X.K H p ys/\eV y=true/\ys.all eV=true/\ys.findIdx? (λz=>uN z y)=some j/\Q (.int (j:Nat)) H):=by
 intro pins s σ H x xs v us Q I rx rv h
 obtain⟨p,ys,y,j,rfl,rfl,hq,fy,fs,hj,q⟩:=h
 cases rx
 obtain⟨u,rfl,ru⟩:=vals1 rv
 obtain⟨its,r,pl,hz⟩:=I.tuple hq
 have hlen:=r.length
 obtain⟨⟨cl,dd,dt,sl⟩,ho,hc,n,hd⟩:=pl
 dsimp only at hc hd
 subst hc;subst hd
 rw[DR] at hj
 obtain⟨hj1,hj2,Tq⟩:=hj
 have at':∀(k:Nat)(h:k < ys.length)(h':k < its.length),qS y its[k]=uN ys[k] y:=by
  intro k h h'
  obtain⟨w,hw,rw'⟩:=r.get (bX h)
  rw[bX h'] at hw
  cases hw
  exact pj rw' (List.all_eq_true.mp fs _ (kU h))
 refine call_meets PySem.F.slot_tuple_index ⟨_,ho,rfl⟩ PySem.F.entry_tuple_index (PySem.F.args_tuple_index_2 _ _) (vD p its.toArray n dd sl u (qS y) j (by simp;omega) ?_ ?_) ⟨ho,λw hw=>fI ru fy r fs w (by simpa using hw),⟨.int _,H,I.tok _,⟨_,rfl⟩,q⟩⟩
 ·rw[xI,at' j hj1 (by omega)];exact hj2
 ·intro m hm hlt
  rw[xI,at' m (by omega) (by omega)]
  simpa using Tq m hlt
def fU(o v:Wv)(st:Hs):Re Wv:=match o with
 | .tup ws=>if bF v=true/\ws.all bF=true then(match ws.findIdx? (λz=>wJ z v) with | some j=> .ok (.int (j:Nat)) st | none=> .bad) else .bad
 | _=> .bad
theorem rZ:Mk X "tuple.index" fU:=⟨_,Ba,λo w x v st H m Q S ro rw' p=>by
 cases o with
 | tup ws=>
  unfold af at ro
  obtain⟨a,xs,rfl,q1,q2⟩:=ro
  unfold fU at p
  dsimp only at p
  by_cases c:bF w=true/\ws.all bF=true
  ·rw[if_pos c] at p
   cases ej:ws.findIdx? (λz=>wJ z w) with
   | none=>rw[ej] at p;exact aa p
   | some j=>
    rw[ej] at p
    exact⟨a,xs,v,j,rfl,rfl,eX.of q1,gA rw' c.1,iM q2 c.2,by rw[pY rw' c.1 q2 c.2];exact ej,p _ m H Ext.refl S mkInt⟩
  ·rw[if_neg c] at p;exact aa p
 | _=>exact aa p⟩
end
section
variable {X:Cx}
end
section
variable {X:Cx}
def D3(kvs:Dc)(gk gx:GE):GE:=λρ st=>(gk ρ st).bind λk st1=>(gx ρ st1).bind λx st2=>match k with
 | .str z=> .ok ((kvs.lookup z).getD x) st2
 | _=> .bad
theorem D4{e f:Expr}{gk gx:GE}{x:Str}{p apos cpos:Pos}{kvs:Dc}(he:JE X e gk)(hf:JE X f gx)(M:M2 X (.Name x p) "get" apos e f cpos)(hg:Gl X x)(hd:(x == ("__debug__":Str))=false)(D:m8 X.K X.w X.mg x kvs):JE X (.Call (.Attribute (.Name x p) "get" apos) [e,f] [] cpos) (D3 kvs gk gx):=by
 intro ρ st σ H m Q S R pp pins s I
 obtain⟨a,es,ep,g1,g2,g3,g4,g5⟩:=D
 have k1:=he.go (T:=λy H2=>∃k st1 m1,dB X σ m H ((gx ρ st1).bind λx st2=>match k with | .str z=> .ok ((kvs.lookup z).getD x) st2 | _=> .bad) Q/\Ext X.K m H m1 H2/\aY X.K m1 st1 H2/\af X.K m1 H2 k y) S R (ao.bind pp) λw st1 v m1 H1 p1 e1 S1 rw'=>⟨w,st1,m1,p1,e1,S1,rw'⟩
 refine wpAny_Call_method M.base M.few M.line PySem.F.plainAttrs_dict PySem.F.slot_dict_get PySem.F.type_dict_get (bg (fS (v:=.ref a) hg g1 rfl hd pins s σ H (λv H2=>v= .ref a/\H2=H) I ⟨rfl,rfl⟩) λu s1 ⟨v,H1,I1,rv,ev,eH⟩=>?_)
 subst ev
 cases eH
 obtain rfl:u=bb a:=rv
 refine⟨⟨_,I1.wN _ _ g2,rfl⟩,λa' e=>by cases e;exact⟨_,I1.wN _ _ g2,rfl⟩,?_⟩
 rw[M.trees]
 refine xa rfl (xb (pb (bg (k1 pins s1 I1) λiv s2 ⟨y,H2,I2,ry,k,st1,m1,p1,e1,S1,rk⟩=>?_)))
 have k2:=hf.go (T:=λz H3=>∃x' st2 m2,dB X σ m H (match k with | .str z=> .ok ((kvs.lookup z).getD x') st2 | _=> .bad) Q/\Ext X.K m H m2 H3/\aY X.K m2 st2 H3/\af X.K m2 H3 x' z) S1 (R.mono e1) ((ao.bind p1).imp e1 λ_ _ q=>q) λw st2 v m2 H3 p2 e2 S2 rw'=>⟨w,st2,m2,p2,e1.trans e2,S2,rw'⟩
 refine pb (bg (k2 pins s2 I2) λfv s3 ⟨z,H3,I3,rz,x',st2,m2,p2,e2,S2,rx⟩=>wY ?_)
 cases k with
 | str zs=>
  obtain⟨rfl,_⟩:=eJ rk
  obtain⟨t,rfl⟩:=(show ∃t,iv=jO zs t from ry)
  obtain⟨vs,dd,look⟩:=oF (P:=X.prog) (w:=X.w) I3.wN g2 g4 g5
  refine call_meetsIn PySem.F.slot_dict_get dd.typeIs PySem.F.entry_dict_get (PySem.F.args_dict_get_3 _ _ _) (meets_dict_get_default (PySem.strKind X.prog X.w) a (strKind_is X.prog X.w zs t) g3 fv) ⟨_,dd.mapOf,?_⟩
  have p2':BU X.K m H Q ((kvs.lookup zs).getD x') st2:=p2
  cases e:kvs.lookup zs with
  | none=>
   rw[e] at p2'
   have q:=(look zs).1 e
   show EP X pins σ Q ((valueAt vs zs).getD fv) _
   rw[q]
   exact⟨z,H3,I3.tok _,rz,p2' z m2 H3 e2 S2 rx⟩
  | some u=>
   rw[e] at p2'
   obtain⟨u',q1,q2⟩:=(look zs).2 u e
   show EP X pins σ Q ((valueAt vs zs).getD fv) _
   rw[q1]
   cases u with
   | int i=>exact⟨.int i,H3,I3.tok _,q2,p2' _ m2 H3 e2 S2 (by unfold af;rfl)⟩
   | str y=>exact⟨.str y,H3,I3.tok _,q2.1,p2' _ m2 H3 e2 S2 (by unfold af;exact⟨rfl,q2.2⟩)⟩
   | _=>exact aa q2
 | _=>exact aa p2
end
section
variable {X:Cx}
theorem D5:fb X (YG .Mult) (λx y H Q=>∃z n,x= .str z/\y= .int n/\(n=0\/n=1)/\Q (.str (if n=0 then PySem.Str.empty else z)) H):=by
 intro pins s σ H x y v u Q I rx ry h
 obtain⟨z,n,rfl,rfl,hn,q⟩:=h
 obtain⟨t,rfl⟩:=rx
 obtain⟨t',rfl⟩:=ry
 rcases hn with rfl | rfl
 ·exact PySem.P.mul_str_none (by omega) (by omega) ⟨.str PySem.Str.empty,H,I.tok _,⟨_,rfl⟩,q⟩
 ·refine PySem.P.mul_str (by decide) (λ_ h=>by cases h) (λ_ h=>by cases h) ?_
  rw[if_neg (by omega),if_pos (by rfl)]
  exact⟨.str z,H,I,⟨t,rfl⟩,q⟩
def fQ:gM:=λx y st=>match x,y with
 | .str z,.int n=>if n=0\/n=1 then .ok (.str (if n=0 then PySem.Str.empty else z)) st else pR (.str z) (.int n) st
 | x,y=>pR x y st
theorem D6:jc X (YG .Mult) fQ:=by
 obtain⟨r,h1,h2⟩:=HI (X:=X)
 refine⟨_,fb.or D5 h1,λx y a b st H m Q S rx ry p=>?_⟩
 cases x with
 | str z=>
  cases y with
  | int n=>
   have p':dC X.K m H (if n=0\/n=1 then .ok (.str (if n=0 then PySem.Str.empty else z)) st else pR (.str z) (.int n) st) Q:=p
   by_cases c:n=0\/n=1
   ·rw[if_pos c] at p'
    obtain⟨rfl,ok⟩:=eJ rx
    refine .inl ⟨z,n,rfl,aT ry,c,p' _ m H Ext.refl S (mkStr ?_)⟩
    by_cases c0:n=0
    ·rw[if_pos c0];decide+kernel
    ·rw[if_neg c0];exact ok
   ·rw[if_neg c] at p'
    exact .inr (h2 _ _ _ _ st H m Q S rx ry p')
  | _=>exact .inr (h2 _ _ _ _ st H m Q S rx ry p)
 | _=>exact .inr (h2 _ _ _ _ st H m Q S rx ry p)
end
abbrev LF:=List Wv->List Wv->Hs->Re Wv
section
variable {X:Cx} {pins:List (Yx×Obj)} {σ:St} {H:Hp} {s:YC}
theorem zk{h B B':Heap}:∀{l:List Env},(∀env∈l,∀L,env.frame=some L->B'.get? L=none)->h.FunFrames B l->h.FunFrames B' l
 | [],_,_=>trivial
 | env::r,hn,⟨hk,⟨L,o,hf,_,ho,hd⟩,hr⟩=>⟨hk,⟨L,o,hf,hn env (.head _) L hf,ho,hd⟩,zk (λe he=>hn e (.tail _ he)) hr⟩
end
def Vz(K:PySem.W.Frag)(n:Nat)(p:Lm)(L:LF):Sp:=λvs H Q E=>∃m st ws caps,aY K m st H/\ae K m H ws vs/\ae K m H caps p.xs/\H p.c=some (.ext (yW p.c p.q))/\ws.length=n/\JY K m H (L caps ws st) Q E
def D7(P:YB)(w:YE)(K:PySem.W.Frag)(mg:Str->Option YD)(base:Heap)(k:Nat)(p:Lm)(n:Nat)(L:LF):Prop :=
 ∃fd ps ob,FnOk P w K mg base (CXJ P w) k p.a fd ps (Vz K n p L)/\base.get? p.a=some ob/\ob.data= .func fd/\Binds K fd ps []
open Classical in
section
variable {X:Cx}
end
section
variable {P:YB} {w:YE} {K:PySem.W.Frag} {mg:Str->Option YD} {base:Heap} {p:Lm} {scope:Scope} {x1 x2 x3 y:Str} {cy:Yx}
end
structure J6(X:Cx)(q:Str)(P:Yx):Prop where
 code:∃c,X.env.code= .ref c/\PySem.W.CodeHd X.base c P
 qual:X.env.qual=q++".<locals>."
 tab:iI X.K q=some P
 mem:q∈dv
 uniq:∀q',q'∈dv->iI X.K q'=some P->q'=q
 bm:∃bm ob,X.mg "__builtins__"=some (.ref bm)/\bm≠builtinsNs/\bm≠YN/\X.base.get? bm=some ob/\ob.cls= .type "module"/\ob.dict=some builtinsNs/\ob.data= .plain
section
variable {X:Cx} {pins:List (Yx×Obj)} {σ:St} {H:Hp} {s:YC} {q:Str} {P:Yx}
end
abbrev VA:=Lm->LF->List Wv->Hs->Re Wv
def TC(mg:Str->Option YD)(base:Heap):Prop:=∃bm ob,mg "__builtins__"=some (.ref bm)/\bm≠builtinsNs/\bm≠YN/\base.get? bm=some ob/\ob.cls= .type "module"/\ob.dict=some builtinsNs/\ob.data= .plain
def Bb(K:PySem.W.Frag)(mg:Str->Option YD)(base:Heap):Prop:=Mod K mg base/\TC mg base
def TF(P:YB)(w:YE)(K:PySem.W.Frag)(mg:Str->Option YD)(k j:Nat)(x:Str)(FL:VA):Prop :=
 (∃f,mg x=some (.ref f)/\PySem.W.keepIn K (.ref f)=true)/\∀(base:Heap)(p:Lm)(L:LF),Bb K mg base->D7 P w K mg base (j+1) p 3 L->jq P w K mg base k x 2 (FL p L)
section
variable {X:Cx}
end
section
variable {P:YB} {w:YE} {A:Yy} {E:YD->YC->Prop} {s:YC}
end
abbrev zA(h:Heap)(t1:Yx):Heap:=h.push { cls:=.type "tuple_iterator",data:=.fields #[.ref t1,.int 0 0] }
abbrev zB(h:Heap)(t1 t2:Yx):Heap:=zA (zA h t1) t2
abbrev zC(h:Heap)(t1 t2 t3:Yx):Heap:=zA (zB h t1 t2) t3
abbrev zD(h:Heap)(t1 t2 t3:Yx):Heap:=(zC h t1 t2 t3).push { cls:=.type "tuple",data:=.seq #[.ref h.objs.size,.ref (zA h t1).objs.size,.ref (zB h t1 t2).objs.size] }
section
variable {P:YB} {w:YE} {A:Yy} {E:YD->YC->Prop} {s:YC}
end
section
variable {P:YB} {w:YE} {A:Yy} {E:YD->YC->Prop} {s:YC}
end
section
variable {X:Cx}
end
def VB(a b c:Int):Prop:=0<=a/\a < 2 ^ 30/\0<=b/\b < 2 ^ 30/\1<=c/\c < 2 ^ 30
instance {a b c}:Decidable (VB a b c):=Dp _
def Qd(a b c:Int):Nat:=(if a < b then(b - a - 1) / c+1 else 0).toNat
section
variable {X:Cx} {tg:Expr}
def TH(lo c:Int)(n:Nat):List Wv:=(dm n).map λk:Nat=>Wv.int (lo+k * c)
end
section
variable {X:Cx}
end
section
variable {X:Cx}
end
section
variable {X:Cx}
end
def oa(neg:Bool):gM:=λx y st=>match aK st 20 y,aK st 20 x with
 | some (.list ds),some d=> .ok (.bl ((ds.any λz=>aN z d) != neg)) st
 | some (.tuple ds),some d=> .ok (.bl ((ds.any λz=>aN z d) != neg)) st
 | _,_=> .bad
section
variable {X:Cx}
def MQ(K:PySem.W.Frag)(neg:Bool):R2:=λa b H Q=>∃m st x y d ds c,aY K m st H/\af K m H x a/\af K m H y b/\aK st 20 y=some c/\(c= .list ds\/c= .tuple ds)/\aK st 20 x=some d/\Q (.bl ((ds.any λz=>aN z d) != neg)) H
theorem zl{ds:List PyData}{c:PyData}(h:c= .list ds\/c= .tuple ds)(k:c.canLay0=true):yZ ds=true:=by
 rcases h with rfl | rfl<;>exact k
theorem MR(hu:X.A.units+64 < cLine):fb X (YK .In) (MQ X.K false):=by
 intro pins s σ H a b v u Q I rx ry h
 obtain⟨m,st,x,y,d,ds,c,S,h1,h2,e1,hc,e2,q⟩:=h
 obtain⟨as,q1,q2,q3⟩:=fJ I S 20 x a v d h1 rx e2
 obtain⟨bs,p1,p2,p3⟩:=fJ I S 20 y b u c h2 ry e1
 have hd:X.A.units+1+min (lQ ds) d.depth < cLine:=by
  have:=yK (lQ ds) d.depth
  omega
 have e:∀t:Bool,(t != false)=t:=by decide
 rw[e] at q
 have ca:=zl hc p2
 rcases hc with rfl | rfl
 ·exact SeqAt.in_list_reads p1 q1 ca q2 hd ⟨.bl _,H,I,rfl,q⟩
 ·exact SeqAt.in_tuple_reads p1 q1 ca q2 hd ⟨.bl _,H,I,rfl,q⟩
theorem Bc(hu:X.A.units+64 < cLine):fb X (YK .NotIn) (MQ X.K true):=by
 intro pins s σ H a b v u Q I rx ry h
 obtain⟨m,st,x,y,d,ds,c,S,h1,h2,e1,hc,e2,q⟩:=h
 obtain⟨as,q1,q2,q3⟩:=fJ I S 20 x a v d h1 rx e2
 obtain⟨bs,p1,p2,p3⟩:=fJ I S 20 y b u c h2 ry e1
 have hd:X.A.units+1+min (lQ ds) d.depth < cLine:=by
  have:=yK (lQ ds) d.depth
  omega
 have e:∀t:Bool,(t != true)= !t:=by decide
 rw[e] at q
 have ca:=zl hc p2
 rcases hc with rfl | rfl
 ·exact SeqAt.notIn_list_reads p1 q1 ca q2 hd ⟨.bl _,H,I,rfl,q⟩
 ·exact SeqAt.notIn_tuple_reads p1 q1 ca q2 hd ⟨.bl _,H,I,rfl,q⟩
theorem D8{neg:Bool}{x y:Wv}{a b:V}{st:Hs}{H:Hp}{m:Mp}{Q:VK}(S:aY X.K m st H)(rx:af X.K m H x a)(ry:af X.K m H y b)(p:dC X.K m H (oa neg x y st) Q):MQ X.K neg a b H Q:=by
 unfold oa at p
 split at p
 ·rename_i ds d e1 e2
  exact⟨m,st,x,y,d,ds,_,S,rx,ry,e1,.inl rfl,e2,p _ m H Ext.refl S iq⟩
 ·rename_i ds d e1 e2
  exact⟨m,st,x,y,d,ds,_,S,rx,ry,e1,.inr rfl,e2,p _ m H Ext.refl S iq⟩
 ·exact aa p
theorem D9(hu:X.A.units+64 < cLine):jc X (YK .In) (oa false):=⟨_,MR hu,λx y a b st H m Q S rx ry p=>D8 S rx ry p⟩
theorem r0(hu:X.A.units+64 < cLine):jc X (YK .NotIn) (oa true):=⟨_,Bc hu,λx y a b st H m Q S rx ry p=>D8 S rx ry p⟩
end
section
variable {prog:YB} {w:YE} {A:Yy} {E:YD->YC->Prop} {s:YC}
end
section
variable {X:Cx} {tg:Expr}
end
section
variable {X:Cx} {a b c d:Expr} {pos:Pos}
end
section
variable {X:Cx} {pins:List (Yx×Obj)} {σ:St} {E:YD->YC->Prop} {p:Yx}
end
section
variable {X:Cx} {pos:Pos}
abbrev zm(K:PySem.W.Frag)(m:Mp)(H:Hp):List (Wv×Wv)->List (V×V)->Prop:=Paired λp q=>af K m H p.1 q.1/\af K m H p.2 q.2
theorem zm.mono{K:PySem.W.Frag}{m m1:Mp}{H H1:Hp}(e:Ext K m H m1 H1):∀{a:List (Wv×Wv)}{b:List (V×V)},zm K m H a b->zm K m1 H1 a b
 | _,_,.nil=> .nil
 | _,_,.cons h t=> .cons ⟨af.mono e _ _ h.1,af.mono e _ _ h.2⟩ (zm.mono e t)
end
def getD(d k:Wv)(st:Hs):Option Wv:=match d with
 | .ref l=>(match st[l]? with
  | some (.dct kvs)=>(match keyOf k with | some kk=>gN kvs kk | none=>none)
  | some (.yV kvs)=>(match xM k with | some kk=>gN kvs kk | none=>none)
  | some (.CM kvs)=>(match xM k with | some kk=>gN kvs kk | none=>none)
  | _=>none)
 | _=>none
def Rg(d k:Wv)(st:Hs):Re Wv:=match getD d k st with
 | some w=> .ok w st
 | none=> .bad
def vF(gd gk:GE):GE:=λρ st=>(gd ρ st).bind λd st1=>(gk ρ st1).bind λk st2=>Rg d k st2
section
variable {X:Cx}
theorem Ij{m:Mp}{st:Hs}{H:Hp}{d k w:Wv}{x y:V}(S:aY X.K m st H)(rd:af X.K m H d x)(rk:af X.K m H k y)(e:getD d k st=some w):∃a v,x= .ref a/\qV H a y (some v)/\af X.K m H w v:=by
 unfold getD at e
 cases d with
 | ref l=>
  dsimp only at e
  unfold af at rd
  obtain⟨a,rfl,ha⟩:=rd
  cases e1:st[l]? with
  | none=>rw[e1] at e;cases e
  | some o=>
   rw[e1] at e
   cases o with
   | dct kvs=>
    dsimp only at e
    cases e2:keyOf k with
    | none=>rw[e2] at e;cases e
    | some kk=>
     rw[e2] at e
     obtain⟨xs,h1,h2⟩:=(show ∃ys,H a=some (.dK ys)/\RelK X.K m H kvs ys from S.obj _ _ _ ha e1)
     obtain⟨u,j1,j2⟩:=(h2.val kk).2 w e
     exact⟨a,u,rfl,by rw[jX rk e2,<-j1];exact qV.k h1,j2⟩
   | yV kvs=>
    dsimp only at e
    cases e2:xM k with
    | none=>rw[e2] at e;cases e
    | some kk=>
     rw[e2] at e
     obtain⟨xs,h1,h2⟩:=(show ∃ys,H a=some (.dT ys)/\RelK X.K m H kvs ys from S.obj _ _ _ ha e1)
     obtain⟨b,rfl,hb⟩:=qb rk e2
     obtain⟨u,j1,j2⟩:=(h2.val kk).2 w e
     exact⟨a,u,rfl,by rw[<-j1];exact qV.t h1 hb,j2⟩
   | CM kvs=>
    dsimp only at e
    cases e2:xM k with
    | none=>rw[e2] at e;cases e
    | some kk=>
     rw[e2] at e
     obtain⟨o,xs,h1,h2⟩:=(show ∃o ys,H a=some (.eS o (.dT ys))/\RelK X.K m H kvs ys from S.obj _ _ _ ha e1)
     obtain⟨b,rfl,hb⟩:=qb rk e2
     obtain⟨u,j1,j2⟩:=(h2.val kk).2 w e
     exact⟨a,u,rfl,by rw[<-j1];exact .inr ⟨xs,kk,b,.inr ⟨o,h1⟩,rfl,hb,rfl⟩,j2⟩
   | _=>cases e
 | _=>cases e
theorem Ik{o i:Expr}{go gi:GE}{pos:Pos}(hu:X.A.units+1 < cLine)(ho:JE X o go)(hi:JE X i gi)(hs:CD i):JE X (.Subscript o i pos) (vF go gi) :=
 JE.of (GX hu aG aG hs) λρ st σ H m Q S R p=>by
  refine ho.go S R (ao.bind p) λd st1 v m1 H1 p1 e1 S1 rd=>?_
  refine hi.go S1 (R.mono e1) ((ao.bind p1).imp e1 λ_ _ q=>q) λk st2 u m2 H2 p2 e2 S2 rk=>?_
  unfold Rg at p2
  cases e:getD d k st2 with
  | none=>rw[e] at p2;exact aa p2
  | some w=>
   rw[e] at p2
   obtain⟨a,v',ex,g,rw'⟩:=Ij (X:=X) S2 (af.mono e2 _ _ rd) rk e
   exact⟨a,v',ex,g,p2 v' m2 H2 (e1.trans e2) S2 rw'⟩
end
section
variable {X:Cx} {pins:List (Yx×Obj)} {σ:St} {H:Hp} {s:YC} {a:Yx} {xs:List (List L2.Key×V)}
end
section
variable {K:PySem.W.Frag} {m:Mp} {st:Hs} {H:Hp}
theorem RelK.iZ{κ:Type}{m1:Mp}{H1:Hp}{kvs:List (κ×Wv)}{xs:List (κ×V)}(e:CN K m H m1 H1)(h:RelK K m H kvs xs):RelK K m1 H1 kvs xs:=⟨h.1,ae.iZ e _ _ h.2⟩
theorem aq.iZ{m1:Mp}{H1:Hp}{ρ:a9}{σ:St}(R:aq K m H ρ σ)(e:CN K m H m1 H1):aq K m1 H1 ρ σ:=⟨R.len,λi w h=>let ⟨v,h1,h2⟩:=R.get i w h;⟨v,h1,af.iZ e _ _ h2⟩⟩
end
section
variable {X:Cx}
end
section
variable {X:Cx} {tg:Expr}
end
section
variable {prog:YB} {w:YE} {A:Yy} {E:YD->YC->Prop} {s:YC} {d:Yx} {es:Array DictEntry} {ep:Nat}
end
section
variable {prog:YB} {w:YE} {K:Type} [DecidableEq K] {knd:HeapKind prog w K} {A:Yy} {E:YD->YC->Prop} {s:YC} {d a:Yx} {xs:List (K×Yx×YD)} {k:K}
end
section
variable {prog:YB} {w:YE} {A:Yy} {E:YD->YC->Prop} {s:YC}
end
section
variable {prog:YB} {w:YE} {A:Yy} {E:YD->YC->Prop} {s:YC} {d it:Yx} {i:Nat} {es:Array DictEntry} {ep:Nat} {ok ov:YD}
theorem Bd{Q:YD->YC->Prop}(lo:(d == sysModules)=false)(x:xN s.heap d es ep)(h:Q (.ref s.heap.objs.size) { s with heap:=s.heap.push { cls:=.type "dict_items",data:=.fields #[.ref d] } }):YR (model prog w) A (call (.builtin "dict.items") [.ref d]) Q E s:=by
 have ty:=x.ty
 have M:MeetsIn prog w (Builtin.«dict.items» ⟨[.ref d],[]⟩) (λ_ R s'=>s'=s/\R (.ok (.ret (.ref s.heap.objs.size))) { s with heap:=s.heap.push { cls:=.type "dict_items",data:=.fields #[.ref d] } }):=.of_wp λA' R s' ⟨e,h⟩=>by
  subst e
  unfold Builtin.«dict.items»
  refine YS ?_
  unfold Builtin.Dict.noArgs Builtin.Dict.showsAll
  refine YS (wpAny_notOrdered_dict ty (show YR _ _ (pure d) _ _ s' from YY ?_))
  rw[if_neg (by rw[lo];exact cQ)]
  exact YS (YY (YS (YX (YY ⟨_,rfl,h⟩))))
 exact call_meetsIn PySem.F.slot_dict_items ty PySem.F.entry_dict_items (PySem.F.args_dict_items_1 _) M ⟨rfl,h⟩
theorem Be{v:Yx}{Q:YD->YC->Prop}(hv:s.heap.IsItemsView v d)(x:xN s.heap d es ep)
  (h:Q (.ref s.heap.objs.size) { s with heap:=s.heap.push { cls:=.type "dict_itemiterator",data:=.fields #[.none,.bool false,.ref d,.int 0 0,.int es.size 0,.int ep 0,.none,.none] } }):YR (model prog w) A (pyIter (.ref v)) Q E s:=by
 have ty:=hv.typeIs
 obtain⟨o1,a1,a2,a3⟩:=hv
 obtain⟨o,g1,g2,g3⟩:=x
 refine wpAny_pyIter_slot ty PySem.F.slot_dict_items_iter (wpAny_call_entry PySem.F.slot_dict_items_iter ty PySem.F.entry_dict_items_iter ?_ (PySem.F.args_dict_items_iter_1 _))
 unfold Builtin.«dict_items.__iter__»
 refine YS (YY (YS ?_))
 unfold Builtin.Dict_items.dictOf
 refine YS (wpAny_field a1 a3 (x:=.ref d) rfl (YY (YS ?_)))
 unfold Builtin.Dict_items.newIterator
 refine YS (YT g1 g3 (YS (wpAny_dictEpoch g1 g3 ?_)))
 have own:D_ "dict_itemiterator"=true:=by decide
 simp only[own,if_true]
 refine YX (YY ⟨_,rfl,"dict_itemiterator",_,⟨_,cz _ rfl,rfl⟩,PySem.F.slot_dict_itemiterator_next.lookup,?_⟩) (by simp only[sizeOk,Qe,a8,eh,kO,kP,sizeLine_eq];omega)
 simpa [rawInt,Qe] using h
theorem Bf{Q:Option YD->YC->Prop}(ki:IsItemIter s.heap it d i es.size ep ok ov)(x:xN s.heap d es ep)(hi:i < es.size)
  (k:∀h',IsItemIterOut h' it d (i+1) es.size ep es[i].key es[i].val s.heap.objs.size->h'.get? s.heap.objs.size=some { cls:=.type "tuple",data:=.seq #[es[i].key,es[i].val] }->h'.objs.size=s.heap.objs.size+1->(∀b o,b≠it->s.heap.get? b=some o->h'.get? b=some o)->Q (some (.ref s.heap.objs.size)) { s with heap:=h' }):YR (model prog w) A (pyNext (.ref it)) Q E s:=by
 obtain⟨hp,g,dr,tk,os⟩:=s
 obtain⟨o,g1,g2,g3⟩:=x
 have ty:Shared.TypeIs ⟨hp,g,dr,tk,os⟩ (.ref it) "dict_itemiterator":=⟨_,ki,rfl⟩
 have own:D_ "dict_itemiterator"=true:=by decide
 have nn:¬((bb d == bo)=true):=cQ
 have n0:¬((i:Int) < 0):=by omega
 have lt:it < hp.objs.size:=aL ki
 have gt:=lF lt
 unfold pyNext
 refine YS (wpAny_attempt (wpAny_callSpecial?_slot (name:=lH "__next__") ty PySem.F.slot_dict_itemiterator_next (wpAny_call_entry PySem.F.slot_dict_itemiterator_next ty PySem.F.entry_dict_itemiterator_next ?_ (PySem.F.args_dict_itemiterator_next_1 _))))
 refine YS (YY (YS (YS ?_)))
 first | refine YS (wpAny_typeNameOfWhole_itemiter ty (YY (YS (wpAny_fieldsOf ki rfl ?_)))) | refine YS (wpAny_typeNameOf_itemiter ty (YY (YS (wpAny_fieldsOf ki rfl ?_))))
 simp only[own,if_true]
 refine(show YR _ _ (if(bb d == bo)=true then _ else _) _ _ _ from ?_);rw[if_neg nn]
 refine YS (YY (YS (YT g1 g3 ?_)))
 rw[if_neg (by simp)]
 refine YS (YY (YS (wpAny_dictEpoch g1 g3 ?_)))
 rw[if_neg (by simp)]
 refine YY ?_
 simp only[n0,if_false,Ea,Qc hi]
 refine YS ?_
 first | refine YS (wpAny_typeNameOfWhole_itemiter ty (YY (YS (wpAny_isOneOf_itemiter ty ?_)))) | refine YS (wpAny_typeNameOf_itemiter ty (YY (YS (wpAny_isOneOf_itemiter ty ?_))))
 refine(show YR _ _ (setField (.ref it) 3 (rawInt ((i:Int)+1)) >>= _) _ _ ⟨hp,g,dr,tk,os⟩ from YS (wpAny_setField_rec ki (by simp) λh1 e1 s1=>?_))
 have z1:h1.objs.size=hp.objs.size:=s1.1
 have t1:IsItemIter h1 it d (i+1) es.size ep ok ov:=by
  have e:((i+1:Nat):Int)=(i:Int)+1:=by omega
  unfold IsItemIter;rw[e];simpa [rawInt] using e1
 have y1:Shared.TypeIs ⟨h1,g,dr,tk,os⟩ (.ref it) "dict_itemiterator":=⟨_,t1,rfl⟩
 refine YS (YU (YS (wpAny_isOneOf_itemiter y1 (YS (wpAny_isOneOf_itemiter y1 ?_)))))
 refine(show YR _ _ (MS (.ref it) 6 es[i].key es[i].val) _ _ ⟨h1,g,dr,tk,os⟩ from ?_)
 unfold MS
 refine YS (wpAny_newTuple ?_)
 have t2:IsItemIter (h1.push { cls:=.type "tuple",data:=.seq #[es[i].key,es[i].val] }) it d (i+1) es.size ep ok ov:=aR _ t1
 generalize e2:h1.push { cls:=.type "tuple",data:=.seq #[es[i].key,es[i].val] }=h2 at t2
 have T2:h2.get? hp.objs.size=some { cls:=.type "tuple",data:=.seq #[es[i].key,es[i].val] }:=by rw[<-e2,<-z1];exact cz _ rfl
 have z2:h2.objs.size=hp.objs.size+1:=by rw[<-e2,tU,z1]
 have k2:∀b o,b≠it->hp.get? b=some o->h2.get? b=some o:=λb o hb e=>by rw[<-e2];exact aR _ (s1.extBut b o hb e)
 refine(show YR _ _ (Qf (.ref it) >>= _) _ _ ⟨h2,g,dr,tk,os⟩ from YS ?_)
 rw[z1]
 unfold Qf
 refine YS (wpAny_field t2 rfl (x:=.none) rfl (YY ?_))
 simp only[if_true]
 refine YS (wpAny_field t2 rfl (x:=ok) rfl (YS (wpAny_field t2 rfl (x:=ov) rfl (YS (wpAny_setField_rec t2 (by simp) λh3 t3 s3=>?_)))))
 refine YS (wpAny_setField_rec (show IsItemIter h3 it d (i+1) es.size ep es[i].key ov from t3) (by simp) λh4 t4 s4=>?_)
 refine YS (wpAny_setField_rec (show IsItemIter h4 it d (i+1) es.size ep es[i].key es[i].val from t4) (by simp) λh5 t5 s5=>?_)
 refine YS (wpAny_setField_rec (show IsItemIterOut h5 it d (i+1) es.size ep es[i].key es[i].val hp.objs.size from t5) (by simp) λh6 t6 s6=>?_)
 have sb:∀b,b≠it->∀o,h2.get? b=some o->h6.get? b=some o:=λb hb o e=>s6.extBut b o hb (s5.extBut b o hb (s4.extBut b o hb (s3.extBut b o hb e)))
 refine YS (wpAny_letGo (YY (YY ⟨_,rfl,YY (k h6 t6 (sb _ gt _ T2) ?_ λb o hb e=>sb b hb o (k2 b o hb e))⟩)))
 exact(s6.1.trans (s5.1.trans (s4.1.trans s3.1))).trans z2
theorem Eb{Q:Option YD->YC->Prop}(hh:A.handled=none)(ki:IsItemIter s.heap it d i es.size ep ok ov)(x:xN s.heap d es ep)(hi:es.size<=i)(k:∀h',Heap.ExtBut it s.heap h'->Q none { s with heap:=h' }):YR (model prog w) A (pyNext (.ref it)) Q E s:=by
 obtain⟨o,g1,g2,g3⟩:=x
 have ty:s.TypeIs (.ref it) "dict_itemiterator":=⟨_,ki,rfl⟩
 have own:D_ "dict_itemiterator"=true:=by decide
 have nn:¬((bb d == bo)=true):=cQ
 have n0:¬((i:Int) < 0):=by omega
 unfold pyNext
 refine YS (wpAny_attempt (wpAny_callSpecial?_slot (name:=lH "__next__") ty PySem.F.slot_dict_itemiterator_next (wpAny_call_entry PySem.F.slot_dict_itemiterator_next ty PySem.F.entry_dict_itemiterator_next ?_ (PySem.F.args_dict_itemiterator_next_1 _))))
 refine YS (YY (YS (YS ?_)))
 first | refine YS (wpAny_typeNameOfWhole_itemiter ty (YY (YS (wpAny_fieldsOf ki rfl ?_)))) | refine YS (wpAny_typeNameOf_itemiter ty (YY (YS (wpAny_fieldsOf ki rfl ?_))))
 simp only[own,if_true]
 refine(show YR _ _ (if(bb d == bo)=true then _ else _) _ _ s from ?_);rw[if_neg nn]
 refine YS (YY (YS (YT g1 g3 ?_)))
 rw[if_neg (by simp)]
 refine YS (YY (YS (wpAny_dictEpoch g1 g3 ?_)))
 rw[if_neg (by simp)]
 refine YY ?_
 simp only[n0,if_false,Ea,Array.getElem?_eq_none hi]
 refine YS ?_
 first | refine YS (wpAny_typeNameOfWhole_itemiter ty (YY ?_)) | refine YS (wpAny_typeNameOf_itemiter ty (YY ?_))
 refine(show YR _ _ (setField (.ref it) 2 .none >>= _) _ _ s from YS (wpAny_setField ki rfl (by simp) ?_))
 refine(show YR _ _ (newExc (.type "StopIteration") [] >>= _) _ _ _ from ?_)
 simp only[newExc,newTuple,raiseNew]
 refine YS (YS (YX (YS (m:=firstArgMember _ _) (wpAny_of_eq (a:=bo) (by first | rfl | (simp only[firstArgMember];rfl)) (YX ?_ (by size_fits)))) (by size_fits)))
 refine(YS (wpAny_handled ?_))
 rw[show A.in1.handled=none by exact hh]
 refine(YS (YY (wpAny_throw ?_)))
 refine YS (wpAny_isInstance (b:=true) (T:="StopIteration") ⟨_,cz _ rfl,rfl⟩ isSubtype_stop (YY ?_))
 refine k _ ?_;exact((tZ ..).extBut.push _).push _
end
section
variable {X:Cx}
end
theorem Bg{o:Option V}(r:nZ o none):o=none:=by
 cases o with
 | none=>rfl
 | some u=>exact(show False from r).elim
theorem Bh{o:Option V}{u:YD}(r:nZ o (some u)):∃v,o=some v/\RelV v u:=by
 cases o with
 | none=>exact(show False from r).elim
 | some v=>exact⟨v,rfl,r⟩
section
variable {X:Cx} {o e f:Expr} {apos cpos:Pos} {td ty tx:TE}
def Ec{κ:Type}[DecidableEq κ](kvs:List (κ×Wv))(k:κ):List (κ×Wv):=kvs.filter λkv=>decide (kv.1≠k)
theorem RelK.drop{κ:Type}[DecidableEq κ]{K:PySem.W.Frag}{m:Mp}{H:Hp}(k:κ):∀{kvs:List (κ×Wv)}{xs:List (κ×V)},RelK K m H kvs xs->RelK K m H (Ec kvs k) (pA xs k)
 | [],xs,h=>by rw[h.nil_inv];exact RelK.nil
 | p::r,xs,h=>by
  obtain⟨v,t,rfl,h1,h2⟩:=h.cons_inv
  by_cases e:p.1=k
  ·rw[Az e]
   unfold Ec
   rw[xf,if_neg (by simp[e])]
   exact h2.drop k
  ·rw[AA e]
   unfold Ec
   rw[xf,if_pos (by simp[e])]
   exact RelK.cons h1 (h2.drop k)
end
structure M0(X:Cx)(o:Expr)(m:Str)(apos cpos:Pos):Prop where
 base:attributeBase o m X.env (eval o X.env)=eval o X.env
 line:(apos.endLine == cpos.line)=true
section
variable {X:Cx} {es':List Expr} {kt:Nat} {pt:Pos}
theorem vG{κ:Type}{K:PySem.W.Frag}{m:Mp}{H:Hp}:∀{kvs:List (κ×Wv)}{xs:List (κ×V)},RelK K m H kvs xs->∀{i:Nat}{kv:κ×Wv},kvs[i]? =some kv->∃v,xs[i]? =some (kv.1,v)/\af K m H kv.2 v
 | [],xs,h,i,kv,e=>by cases e
 | p::r,xs,h,0,kv,e=>by
  obtain⟨v,t,rfl,h1,h2⟩:=h.cons_inv
  cases e
  exact⟨v,rfl,h1⟩
 | p::r,xs,h,i+1,kv,e=>by
  obtain⟨v,t,rfl,h1,h2⟩:=h.cons_inv
  exact vG h2 (i:=i) e
end
section
variable {X:Cx}
end
section
variable {prog:YB} {w:YE} {K:Type} [DecidableEq K] {knd:HeapKind prog w K} {A:Yy} {E:YD->YC->Prop} {s:YC} {a b:Yx} {xs ys:List (K×Yx×YD)}
end
section
variable {prog:YB} {w:YE} {K:Type} [DecidableEq K] {knd:HeapKind prog w K} {A:Yy} {E:YD->YC->Prop} {s:YC} {a b:Yx} {xs ys:List (K×Yx×YD)}
end
section
variable {X:Cx}
end
section
variable {X:Cx}
end
section
variable {prog:YB} {w:YE} {K:Type} [DecidableEq K] {knd:HeapKind prog w K} {A:Yy} {E:YD->YC->Prop} {s:YC} {d:Yx} {xs:List (K×Yx×YD)}
end
section
variable {X:Cx}
end
section
variable {X:Cx}
end
section
variable {X:Cx}
open Classical in
end
section
variable {X:Cx}
end
section
variable {prog:YB} {w:YE} {K:Type} [DecidableEq K] {knd:HeapKind prog w K} {A:Yy} {E:YD->YC->Prop} {s:YC} {d a:Yx} {k:K} {xs:List (K×Yx×YD)}
end
section
variable {X:Cx} {o e:Expr} {apos cpos:Pos} {td ty:TE}
end
section
variable {X:Cx} {o e f:Expr} {apos cpos:Pos} {to te tf:TE}
end
section
variable {X:Cx}
end
section
variable {prog:YB} {w:YE} {A:Yy} {E:YD->YC->Prop} {s:YC}
end
section
variable {X:Cx}
end
section
variable {X:Cx}
def J7(ws:List Wv)(st:Hs):Re Wk:=match ws with
 | [.int a,.int b,.int c]=>if VB a b c then .ok (none,TH a c (Qd a b c)) st else .bad
 | _=> .bad
def TJ(g:GA):GI:=λρ st=>(g ρ st).bind J7
end
def TK:List Str->Nat
 | []=>0
 | x::r=>if x∈r then TK r else TK r+1
section
variable {prog:YB} {w:YE} {A:Yy} {R:Result->YC->Prop} {I:Yx} {fp wr:List Yx} {n:Nat} {P:Nat->YD->Prop} {St:Nat->Heap->Prop}
abbrev MT(prog:YB)(w:YE)(h:Heap)(S:Yx)(l:List Str):Prop:=h.SetOf (PySem.strKind prog w) S (λq=>decide (q∈l)) (TK l)
theorem MT.keep{h h':Heap}{S:Yx}{l:List Str}(z:MT prog w h S l)(k:∀o,h.get? S=some o->h'.get? S=some o):MT prog w h' S l:=by
 obtain⟨o,es,ep,t,ho,rest⟩:=z
 exact⟨o,es,ep,t,k o ho,rest⟩
end
section
variable {prog:YB} {w:YE} {A:Yy} {E:YD->YC->Prop} {s:YC}
end
section
variable {X:Cx}
end
section
variable {lt:Nat->Nat->Bool} {N:Nat}
def uE(lt:Nat->Nat->Bool)(a b:Nat):Prop:=lt b a=false/\(lt a b=false->a < b)
theorem uE.trans(o:Ord lt){a b c:Nat}(h:uE lt a b)(k:uE lt b c):uE lt a c:=by
 refine⟨o.tr _ _ _ k.1 h.1,λe=>?_⟩
 have h1:lt a b=false:=by
  cases z:lt a b with
  | false=>rfl
  | true=>have:=o.vy z k.1;rw[e] at this;cases this
 have h2:lt b c=false:=o.tr _ _ _ h.1 e
 exact Nat.lt_trans (h.2 h1) (k.2 h2)
def wL(lt:Nat->Nat->Bool)(p:Array Nat)(k:Nat):Prop:=∀i j,i < j->j < k->uE lt (at_ p i) (at_ p j)
def F7(lt:Nat->Nat->Bool)(p:Array Nat)(k:Nat):Prop:=∀i j,i < j->j < k->uE lt (at_ p j) (at_ p i)
structure Frs(N:Nat)(p:Array Nat)(n:Nat):Prop where
 pm:Pm N p
 hi:∀i,n<=i->i < N->at_ p i=i
 lo:∀i,i < n->at_ p i < n
theorem wL.up(o:Ord lt){p:Array Nat}{k:Nat}(h:wL lt p k):Up lt p k:=λi j hij hj=>by
 by_cases c:i=j
 ·subst c;exact o.Tr _
 ·exact(h i j (by omega) hj).1
theorem Frs.succ{p:Array Nat}{n:Nat}(h:Frs N p n)(hn:n < N):Frs N p (n+1):=⟨h.pm,λi a b=>h.hi i (by omega) b,λi a=>by
 by_cases c:i < n
 ·have:=h.lo i c;omega
 ·have e:i=n:=by omega
  rw[e,h.hi n (ak _) hn];omega⟩
theorem Frs.rev{p:Array Nat}{n i j:Nat}(h:Frs N p n)(hj:j<=n)(hn:n<=N):Frs N (kas_rev p i j) n:=by
 refine⟨h.pm.rev i j,λk a b=>?_,λk a=>?_⟩
 ·rw[dJ h.pm (by omega),if_neg (by omega)];exact h.hi k a b
 ·rw[dJ h.pm (by omega)]
  split
  ·exact h.lo _ (by omega)
  ·exact h.lo _ a
theorem wL.succ(o:Ord lt){p:Array Nat}{n:Nat}(h:wL lt p n)(f:Frs N p n)(h1:1<=n)(hn:n < N)(e:lt (at_ p n) (at_ p (n - 1))=false):wL lt p (n+1):=by
 intro i j hij hj
 by_cases c:j < n
 ·exact h i j hij c
 ·have ej:j=n:=by omega
  subst ej
  refine⟨?_,λ_=>by rw[f.hi j (ak _) hn];exact f.lo i hij⟩
  by_cases c2:i=j - 1
  ·rw[c2];exact e
  ·exact o.tr _ _ _ e (h i (j - 1) (by omega) (by omega)).1
theorem xQ(o:Ord lt){p:Array Nat}:∀(f n:Nat),1<=n->n+f<=N->Frs N p n->wL lt p n->Kg lt N (kas_asc p f n) (λm=>n<=m/\m<=n+f/\Frs N p m/\wL lt p m/\(m < n+f->lt (at_ p m) (at_ p (m - 1))=true))
 | 0,n,h1,h2,h3,h4=>⟨ak _,ak _,h3,h4,λz=>absurd z (fq _)⟩
 | f+1,n,h1,h2,h3,h4=>by
  refine⟨⟨h3.pm.bd (by omega),h3.pm.bd (by omega)⟩,?_⟩
  cases e:lt (p.getD n 0) (p.getD (n - 1) 0) with
  | true=>
   dsimp only
   rw[if_pos rfl]
   exact⟨ak _,by omega,h3,h4,λ_=>e⟩
  | false=>
   dsimp only
   rw[if_neg (by simp)]
   exact(xQ o f (n+1) (by omega) (by omega) (h3.succ (by omega)) (h4.succ o h3 h1 (by omega) e)).imp λm ⟨q1,q2,q3,q4,q5⟩=>⟨by omega,by omega,q3,q4,λz=>q5 (by omega)⟩
structure Il(lt:Nat->Nat->Bool)(p:Array Nat)(a n:Nat):Prop where
 d:∀i j,i < j->j < a->uE lt (at_ p j) (at_ p i)
 s:∀i j,i < a->a<=j->j < n->lt (at_ p j) (at_ p i)=true
 l:∀i j,a<=i->i < j->j < n->lt (at_ p i) (at_ p j)=false/\lt (at_ p j) (at_ p i)=false/\at_ p i < at_ p j
theorem xR(o:Ord lt){a b:Nat}(h:lt a b=true):uE lt a b:=⟨o.as _ _ h,λe=>by rw[h] at e;cases e⟩
theorem Il.rev(o:Ord lt){p:Array Nat}(hp:Pm N p){a n:Nat}(hn:n<=N)(ha:a<=n)(h:Il lt p a n):F7 lt (kas_rev p a n) n:=by
 intro i j hij hj
 rw[dJ hp hn i,dJ hp hn j]
 by_cases ci:a<=i
 ·rw[if_pos ⟨by omega,hj⟩,if_pos ⟨ci,by omega⟩]
  obtain⟨h1,h2,h3⟩:=h.l (a+n - 1 - j) (a+n - 1 - i) (by omega) (by omega) (by omega)
  exact⟨h2,λ_=>h3⟩
 ·rw[if_neg (c:=a<=i/\i < n) (by omega)]
  by_cases cj:a<=j
  ·rw[if_pos ⟨cj,hj⟩]
   exact xR o (h.s i _ (by omega) (by omega) (by omega))
  ·rw[if_neg (by omega)]
   exact h.d i j hij (by omega)
theorem F7.TL{p:Array Nat}{n:Nat}(h:F7 lt p n)(s:∀i,i < n->lt (at_ p n) (at_ p i)=true):Il lt p n (n+1) :=
 ⟨h,λi j a b c=>by
  have e:j=n:=by omega
  rw[e];exact s i a,λi j a b c=>absurd b (by omega)⟩
theorem F7.less(o:Ord lt){p:Array Nat}{n:Nat}(h:F7 lt p n)(h1:1<=n)(e:lt (at_ p n) (at_ p (n - 1))=true):∀i,i < n->lt (at_ p n) (at_ p i)=true:=λi hi=>by
 by_cases c:i=n - 1
 ·rw[c];exact e
 ·exact o.vy e (h i (n - 1) (by omega) (by omega)).1
theorem F7.up{p:Array Nat}(hp:Pm N p){n:Nat}(hn:n<=N)(h:F7 lt p n):wL lt (kas_rev p 0 n) n:=by
 intro i j hij hj
 rw[dJ hp hn,dJ hp hn,if_pos ⟨by omega,by omega⟩,if_pos ⟨by omega,hj⟩]
 exact h _ _ (by omega) (by omega)
theorem Il.dn{p:Array Nat}{n:Nat}(h:Il lt p (n - 1) n)(o:Ord lt):F7 lt p n:=λi j hij hj=>by
 by_cases c:j < n - 1
 ·exact h.d i j hij c
 ·exact xR o (h.s i j (by omega) (by omega) hj)
theorem oG(o:Ord lt):∀(f:Nat)(p:Array Nat)(n q:Nat),Frs N p n->q+1<=n->n+f<=N->Il lt p (n - 1 - q) n->
  Kg lt N (kas_desc f p n q) (λr=>Frs N r.1 r.2.1/\r.2.2+1<=r.2.1/\r.2.1<=N/\Il lt r.1 (r.2.1 - 1 - r.2.2) r.2.1)
 | 0,p,n,q,hp,hq,hn,hd=>⟨hp,hq,by omega,hd⟩
 | f+1,p,n,q,hp,hq,hn,hd=>by
  refine⟨⟨hp.pm.bd (by omega),hp.pm.bd (by omega)⟩,?_⟩
  cases e:lt (p.getD n 0) (p.getD (n - 1) 0) with
  | true=>
   dsimp only
   rw[if_pos rfl]
   by_cases VC:q > 0
   ·rw[if_pos VC]
    have z:n - (q+1)=n - 1 - q:=by omega
    rw[z]
    have dn:=hd.rev o hp.pm (by omega) (by omega)
    refine oG o f _ (n+1) 0 ((hp.rev (ak _) (by omega)).succ (by omega)) (by omega) (by omega) (dn.TL (dn.less o (by omega) ?_))
    rw[dJ hp.pm (by omega) n,dJ hp.pm (by omega) (n - 1),if_neg (by omega),if_pos ⟨by omega,by omega⟩]
    have y:n - 1 - q+n - 1 - (n - 1)=n - 1 - q:=by omega
    rw[y]
    exact o.vy e (hd.l (n - 1 - q) (n - 1) (ak _) (by omega) (by omega)).1
   ·rw[if_neg VC]
    have e0:q=0:=by omega
    subst e0
    have dn:=Il.dn hd o
    exact oG o f p (n+1) 0 (hp.succ (by omega)) (by omega) (by omega) (dn.TL (dn.less o (by omega) e))
  | false=>
   dsimp only
   rw[if_neg (by simp)]
   refine⟨⟨hp.pm.bd (by omega),hp.pm.bd (by omega)⟩,?_⟩
   cases e2:lt (p.getD (n - 1) 0) (p.getD n 0) with
   | true=>
    dsimp only
    rw[if_pos rfl]
    exact⟨hp,hq,by show n<=N;omega,hd⟩
   | false=>
    dsimp only
    rw[if_neg (by simp)]
    refine oG o f p (n+1) (q+1) (hp.succ (by omega)) (by omega) (by omega) ?_
    have y:n+1 - 1 - (q+1)=n - 1 - q:=by omega
    rw[y]
    refine⟨hd.d,λi j a b c=>?_,λi j a b c=>?_⟩
    ·by_cases cj:j < n
     ·exact hd.s i j a b cj
     ·have ej:j=n:=by omega
      subst ej
      have z:=hd.s i (j - 1) a (by omega) (by omega)
      cases y:lt (at_ p j) (at_ p i) with
      | true=>rfl
      | false=>have:=o.tr _ _ _ e2 y;rw[z] at this;cases this
    ·by_cases cj:j < n
     ·exact hd.l i j a b cj
     ·have ej:j=n:=by omega
      subst ej
      have lo:=hp.lo i b
      have hi:=hp.hi j (ak _) (by omega)
      by_cases ci:i=j - 1
      ·subst ci;exact⟨e2,e,by omega⟩
      ·obtain⟨l1,l2,_⟩:=hd.l i (j - 1) a (by omega) (by omega)
       exact⟨o.tr _ _ _ l1 e2,o.tr _ _ _ e l2,by omega⟩
abbrev MU(lt:Nat->Nat->Bool)(N:Nat)(r:Nat×Array Nat):Prop:=Frs N r.2 r.1/\1<=r.1/\r.1<=N/\wL lt r.2 r.1
theorem zo(o:Ord lt){p:Array Nat}{n:Nat}(hp:Frs N p n)(h1:1<=n)(hn:n<=N)(hd:F7 lt p n):Kg lt N (kas_tail3 n N p) (MU lt N):=by
 unfold kas_tail3
 refine Kg.bind ((xQ o (N - n) n h1 (by omega) (hp.rev (i:=0) (ak _) hn) (hd.up hp.pm hn)).imp λm ⟨q1,q2,q3,q4,_⟩=>?_)
 exact⟨q3,by show 1<=m;omega,by show m<=N;omega,q4⟩
theorem nU(o:Ord lt){p:Array Nat}{n:Nat}(hp:Frs N p n)(hn:n+1<=N)(h1:1<=n)(hd:F7 lt p n)(e:lt (at_ p n) (at_ p (n - 1))=true):Kg lt N (kas_descPart n N p) (MU lt N):=by
 unfold kas_descPart
 refine Kg.bind ((oG o (N - (n+1)) p (n+1) 0 (hp.succ (by omega)) (by omega) (by omega) (hd.TL (hd.less o h1 e))).imp λr ⟨q1,q2,q3,q4⟩=>?_)
 by_cases c:r.2.2 > 0
 ·rw[if_pos c]
  have z:r.2.1 - (r.2.2+1)=r.2.1 - 1 - r.2.2:=by omega
  rw[z]
  exact zo o (q1.rev (ak _) q3) (by omega) q3 (q4.rev o q1.pm q3 (by omega))
 ·rw[if_neg c]
  have e0:r.2.2=0:=by omega
  rw[e0] at q4
  exact zo o q1 (by omega) q3 (Il.dn q4 o)
theorem Ed(o:Ord lt){p:Array Nat}(hp:Frs N p 1)(h1:1<=N):Kg lt N (kas_count N p) (MU lt N):=by
 unfold kas_count
 have u1:wL lt p 1:=λi j a b=>by omega
 refine Kg.bind ((xQ o (N - 1) 1 (ak _) (by omega) hp u1).imp λn ⟨q1,q2,q0,q3,q4⟩=>?_)
 by_cases c:n=N
 ·rw[if_pos (by simp[c])]
  exact⟨q0,by show 1<=n;omega,by show n<=N;omega,q3⟩
 ·rw[if_neg (by simp[c])]
  have hs:=q4 (by omega)
  by_cases c2:n > 1
  ·rw[if_pos c2]
   refine⟨⟨q0.pm.bd (by omega),q0.pm.bd (by omega)⟩,?_⟩
   cases e:lt (p.getD 0 0) (p.getD (n - 1) 0) with
   | true=>
    dsimp only
    rw[if_pos rfl]
    exact⟨q0,by show 1<=n;omega,by show n<=N;omega,q3⟩
   | false=>
    dsimp only
    rw[if_neg (by simp)]
    have u:=q3.up o
    have lv:∀i j,i < n->j < n->lt (at_ p i) (at_ p j)=false:=λi j hi hj=>by
     have a1:=u 0 i (by omega) hi
     have a2:=u j (n - 1) (by omega) (by omega)
     exact o.tr _ _ _ (o.tr _ _ _ a1 e) a2
    refine nU o (q0.rev (ak _) (by omega)) (by omega) (by omega) (λi j hij hj=>?_) ?_
    ·rw[dJ q0.pm (by omega),dJ q0.pm (by omega),if_pos ⟨by omega,by omega⟩,if_pos ⟨by omega,by omega⟩]
     exact q3 _ _ (by omega) (by omega)
    ·rw[dJ q0.pm (by omega) n,dJ q0.pm (by omega) (n - 1),if_neg (by omega),if_pos ⟨by omega,by omega⟩]
     exact o.vy hs (lv _ _ (by omega) (by omega))
  ·rw[if_neg c2]
   have hn:n=1:=by omega
   subst hn
   exact nU o q0 (by omega) (by omega) (λi j a b=>by omega) hs
theorem Ee(o:Ord lt):∀(f:Nat)(p:Array Nat)(k:Nat),Frs N p k->k+f=N->wL lt p k->Kg lt N (kas_bin f p k) (λp'=>Pm N p'/\wL lt p' N)
 | 0,p,k,hp,hk,u=>by
  have:k=N:=by omega
  subst this
  exact⟨hp.pm,u⟩
 | f+1,p,k,hp,hk,u=>by
  unfold kas_bin
  refine Kg.bind ((pZ o hp.pm (by omega) k 0 k (by omega) (ak _) (by omega) (u.up o) (λi h=>absurd h (by omega)) (λi h1 h2=>absurd h2 (by omega))).imp λl ⟨q1,q2,q3⟩=>?_)
  have bu:=λi=>ML hp.pm (k:=k) (l:=l) (by omega) q1 i
  have kk:=hp.hi k (ak _) (by omega)
  have fr:Frs N (bubble p k (k - l)) (k+1):=by
   refine⟨hp.pm.W6 _ _,λi a b=>?_,λi a=>?_⟩
   ·rw[bu,if_neg (by omega),if_neg (by omega)];exact hp.hi i (by omega) b
   ·rw[bu]
    split
    ·omega
    ·split
     ·have:=hp.lo (i - 1) (by omega);omega
     ·have:=hp.lo i (by omega);omega
  refine Ee o f _ (k+1) fr (by omega) ?_
  intro i j hij hj
  rw[bu i,bu j]
  by_cases e:j=l
  ·rw[if_pos e,if_neg (by omega),if_neg (by omega)]
   exact⟨q2 i (by omega),λ_=>by have:=hp.lo i (by omega);omega⟩
  ·rw[if_neg e]
   by_cases d:l < j/\j<=k
   ·rw[if_pos d]
    by_cases e':i=l
    ·rw[if_pos e']
     exact xR o (q3 (j - 1) (by omega) (by omega))
    ·rw[if_neg e']
     by_cases d':l < i/\i<=k
     ·rw[if_pos d']
      exact u _ _ (by omega) (by omega)
     ·rw[if_neg d']
      exact u _ _ (by omega) (by omega)
   ·rw[if_neg d,if_neg (by omega),if_neg (by omega)]
    exact u _ _ hij (by omega)
theorem Io(o:Ord lt)(h1:1<=N):Kg lt N (kas_sort N) (λp=>Pm N p/\wL lt p N):=by
 have VD:∀i,i < N->at_ (List.toArray (dm N)) i=i:=λi hi=>by simp[at_,Array.getD,hi]
 have h0:Frs N (List.toArray (dm N)) 1:=⟨⟨by simp,by simp⟩,λi _ hi=>VD i hi,λi hi=>by rw[VD i (by omega)];exact hi⟩
 unfold kas_sort
 refine Kg.bind ((Ed o h0 h1).imp λr ⟨q1,q2,q3,q4⟩=>?_)
 by_cases c:r.1 < N
 ·rw[if_pos c]
  have z:max r.1 1=r.1:=by omega
  rw[z]
  exact Ee o _ _ _ q1 (by omega) q4
 ·rw[if_neg c]
  have z:r.1=N:=by omega
  rw[z] at q4
  exact⟨q1.pm,q4⟩
end
section
variable {P:YB} {w:YE} {K:PySem.W.Frag} {mg:Str->Option YD} {base:Heap} {p:Lm} {scope:Scope} {x y:Str} {cy:Yx}
end
def N9(P:YB)(w:YE)(K:PySem.W.Frag)(mg:Str->Option YD)(base:Heap)(k:Nat)(f:Yx)(sp:V->Hp->VK->Prop):Prop :=
 ∀(A:Yy)(outer:List Env)(s:YC)(H:Hp)(u:YD)(v:V)(Q:VK),eT k A->n6 P w K mg base A outer s H->RelV v u->sp v H Q->YR (model P w) A (call (.ref f) [u]) (CE outer P w H s Q) (λ_ _=>False) s
def Xb(K:PySem.W.Frag)(p:Lm)(L:LF)(v:V)(H:Hp)(Q:VK):Prop:=∃m st w caps kw,aY K m st H/\af K m H w v/\ae K m H caps p.xs/\H p.c=some (.ext (yW p.c p.q))/\L caps [w] st= .ok kw st/\BU K m H Q kw st
theorem D7.F8{P:YB}{w:YE}{K:PySem.W.Frag}{mg:Str->Option YD}{base:Heap}{k:Nat}{p:Lm}{L:LF}(G:D7 P w K mg base k p 1 L):N9 P w K mg base k p.a (Xb K p L):=by
 intro A outer s H u v Q hr e0 rv sp
 obtain⟨m,st,w',caps,kw,S,rw',rc,hx,el,ok⟩:=sp
 obtain⟨fd,ps,ob,F,ho,hod,hb⟩:=G
 have Qh:Vz K 1 p L [v] H Q (λ_ _ _=>False):=⟨m,st,[w'],caps,S,ae.cons rw' ae.nil,rc,hx,rfl,by rw[el];exact ok⟩
 have rs:Vals [v] [u]:=.cons rv .nil
 have hl:[u].length=ps.length:=by rw[<-rs.length];exact F.len _ _ _ _ Qh
 have B6:K.In s.heap:=e0.mod.B6.keeps λb o e=>(e0.bs b o e).1
 have bd:=hb s [u] B6 (by rw[fc];exact hl)
 rw[fc] at bd
 refine wpAny_call (codeAny_mono (F.run A outer s H ⟨[u],[]⟩ [u] [v] Q _ hr e0 bd rs Qh) λrr s2 hq=>?_)
 cases rr with
 | error x=>obtain⟨H2,C,fl,z⟩:=hq;exact z
 | ok fw=>
  cases fw with
  | ret u=>exact hq
  | next=>exact hq
  | brk=>exact hq
  | cont=>exact hq
abbrev Kw:=Int×(Int ⊕ Str)
def mf:Kw->Bool
 | (a,.inl _)=>decide (a≠1)
 | (a,.inr _)=>decide (a=1)
def xT(a b:Str):Bool:=decide (a.cps.toList < b.cps.toList)
def mP:Kw->Kw->Bool
 | (a,.inl i),(b,.inl j)=>decide (a < b)||(decide (a=b)&&decide (i < j))
 | (a,.inr i),(b,.inr j)=>decide (a < b)||(decide (a=b)&&xT i j)
 | (a,_),(b,_)=>decide (a < b)
theorem xU{a b:Str}(h:xT a b=true):xT b a=false:=decide_eq_false (List.lt_asymm (of_decide_eq_true h))
theorem xV{a b c:Str}(h:xT a b=false)(k:xT b c=false):xT a c=false:=by
 have h:=of_decide_eq_false h
 have k:=of_decide_eq_false k
 refine decide_eq_false ?_
 rw[List.not_lt] at *
 exact List.le_trans k h
theorem Ef{a b:Str}(h:xT a b=false)(k:xT b a=false):a=b:=by
 have h:=of_decide_eq_false h
 have k:=of_decide_eq_false k
 rw[List.not_lt] at *
 have:=List.le_antisymm k h
 cases a;cases b;simp at this;subst this;rfl
theorem Eg{p q:Kw}(hp:mf p=true)(hq:mf q=true)(h:mP p q=true):mP q p=false:=by
 obtain⟨a,i | i⟩:=p<;>obtain⟨b,j | j⟩:=q<;>simp[mP,mf] at *
 ·omega
 ·omega
 ·omega
 ·refine⟨by omega,λe=>?_⟩
  rcases h with h | h
  ·omega
  ·exact xU h.2
theorem Eh{p q r:Kw}(hp:mf p=true)(hq:mf q=true)(hr:mf r=true)(h:mP p q=false)(k:mP q r=false):mP p r=false:=by
 obtain⟨a,i | i⟩:=p<;>obtain⟨b,j | j⟩:=q<;>obtain⟨c,l | l⟩:=r<;>simp[mP,mf] at * <;>try omega
 ·exact⟨by omega,λe=>xV (h.2 (by omega)) (k.2 (by omega))⟩
theorem MV{p q:Kw}(hp:mf p=true)(hq:mf q=true)(h:mP p q=false)(k:mP q p=false):p=q:=by
 obtain⟨a,i | i⟩:=p<;>obtain⟨b,j | j⟩:=q<;>simp[mP,mf] at *
 ·omega
 ·omega
 ·omega
 ·have e:a=b:=by omega
  exact⟨e,Ef (h.2 e) (k.2 e.symm)⟩
def vK:Int ⊕ Str->V
 | .inl i=> .int i
 | .inr x=> .str x
def Bi(h:Heap)(v:YD)(q:Kw):Prop:=∃(a:Yx)(o:Obj)(t:Tok)(u:YD)(n:Nat),v= .ref a/\h.get? a=some o/\o.cls= .type "tuple"/\o.data= .seq #[.int q.1 t,u] n/\RelV (vK q.2) u
section
variable {prog:YB} {w:YE} {A:Yy} {E:YD->YC->Prop} {s:YC}
theorem Ip{v v':YD}{p q:Kw}{Q:Bool->YC->Prop}(hp:Bi s.heap v p)(hq:Bi s.heap v' q)(op:mf p=true)(oq:mf q=true)(h:Q (mP p q) s):YR (model prog w) A (keyLt' (tuples' true) v v') Q E s:=by
 obtain⟨x,ox,t1,u1,n,rfl,hx,_,dx,r1⟩:=hp
 obtain⟨y,oy,t2,u2,k,rfl,hy,_,dy,r2⟩:=hq
 have hq:∀b,b=mP p q->Q b s:=λb e=>by rw[e];exact h
 obtain⟨a,i⟩:=p
 obtain⟨b,j⟩:=q
 refine kat_lt hx dx hy dy ?_
 refine kat_cons (wpAny_eqBool_int (kat_go (λe=>kat_yes ?_) (λe=>kat_no ?_)))
 ·have z1:a=b:=by simpa using e
  subst z1
  cases i with
  | inl i=>
   cases j with
   | inr j=>simp[mf] at op oq;omega
   | inl j=>
    obtain⟨t1,rfl⟩:=r1
    obtain⟨t2,rfl⟩:=r2
    refine kat_cons (wpAny_eqBool_int (kat_go (λe2=>kat_yes ?_) (λe2=>kat_no ?_)))
    ·refine kat_nil (hq _ ?_)
     have z2:i=j:=by simpa using e2
     subst z2
     simp[mP]
    ·refine kat_one _ _ (PyProof.Rows.lt_int ?_)
     show Q (decide (i < j)) s
     exact hq _ (by simp[mP])
  | inr i=>
   cases j with
   | inl j=>simp[mf] at op oq;omega
   | inr j=>
    obtain⟨t1,rfl⟩:=r1
    obtain⟨t2,rfl⟩:=r2
    refine kat_cons (wpAny_eqBool_str (kat_go (λe2=>kat_yes ?_) (λe2=>kat_no ?_)))
    ·refine kat_nil (hq _ ?_)
     have z2:i=j:=by simpa using e2
     subst z2
     cases e3:xT i i with
     | false=>simp[mP,e3]
     | true=>have:=xU e3;rw[e3] at this;cases this
    ·refine kat_one _ _ (PyProof.Rows.lt_str ?_)
     show Q (decide (i.cps.toList < j.cps.toList)) s
     exact hq _ (by simp[mP,xT])
 ·refine oneLt_int (hq _ ?_)
  have z1:¬a=b:=by simpa using e
  cases i<;>cases j<;>simp[mP,z1]
end
theorem r6{h:Heap}:∀{its:List YD}{ps:List Kw},Paired (Bi h) its ps->∃fs:List YD,KatTups h its fs/\fs.length=ps.length/\∀v∈fs,∃i t,v= .int i t
 | _,_,.nil=>⟨[],.nil,rfl,(λ_ z=>by cases z)⟩
 | _,_,.cons (b:=q) hd tl=>by
  obtain⟨fs,k1,k2,k3⟩:=r6 tl
  obtain⟨a,o,t,u,n,rfl,g1,g2,g3,_⟩:=hd
  refine⟨.int q.1 t::fs,.cons g1 g2 g3 rfl k1,by simp[k2],λv hv=>?_⟩
  rcases List.mem_cons.mp hv with z | z
  ·exact⟨_,_,z⟩
  ·exact k3 v z
def xW:Wv->Option Kw
 | .tup [.int a,.int i]=>if a=1 then none else some (a,.inl i)
 | .tup [.int a,.str x]=>if a=1 then some (a,.inr x) else none
 | _=>none
def mh:List Wv->Option (List Kw)
 | []=>some []
 | w::r=>(match xW w,mh r with | some k,some l=>some (k::l) | _,_=>none)
theorem zp{w:Wv}{k:Kw}(h:xW w=some k):mf k=true/\∃x,w= .tup [.int k.1,x]/\(x=(match k.2 with | .inl i=>Wv.int i | .inr y=> .str y)):=by
 unfold xW at h
 split at h
 ·split at h
  ·cases h
  ·rename_i n;cases h;exact⟨by simp[mf,n],_,rfl,rfl⟩
 ·split at h
  ·rename_i n;cases h;exact⟨by simp[mf,n],_,rfl,rfl⟩
  ·cases h
 ·cases h
theorem vH:∀{ws:List Wv}{ks:List Kw},mh ws=some ks->ks.length=ws.length/\∀k∈ks,mf k=true
 | [],ks,h=>by cases h;exact⟨rfl,(λ_ z=>by cases z)⟩
 | w::r,ks,h=>by
  unfold mh at h
  cases e1:xW w with
  | none=>rw[e1] at h;cases h
  | some k=>
   cases e2:mh r with
   | none=>rw[e1,e2] at h;cases h
   | some l=>
    rw[e1,e2] at h
    cases h
    obtain⟨h1,h2⟩:=vH e2
    refine⟨by simp[h1],λz hz=>?_⟩
    rcases List.mem_cons.mp hz with q | q
    ·rw[q];exact(zp e1).1
    ·exact h2 z q
section
variable {X:Cx} {pins:List (Yx×Obj)} {σ:L2.St} {H:Hp} {s:YC} {m:Mp}
theorem Iq(I:Inv X pins σ H s){w:Wv}{v:V}{u:YD}{k:Kw}(h:xW w=some k)(r:af X.K m H w v)(ru:RelV v u):Bi s.heap u k:=by
 obtain⟨_,x,rfl,hx⟩:=zp h
 unfold af at r
 obtain⟨a,xs,rfl,hT,rs⟩:=r
 cases ru
 obtain⟨its,rv,⟨o,g1,g2,n,g3⟩,_⟩:=I.tuple (eX.of hT)
 unfold ae at rs
 obtain⟨v1,t1,rfl,q1,rs⟩:=rs
 unfold ae at rs
 obtain⟨v2,t2,rfl,q2,rs⟩:=rs
 unfold ae at rs
 subst rs
 have e1:v1= .int k.1:=by unfold af at q1;exact q1
 have e2:v2=vK k.2:=by
  obtain⟨b,y | y⟩:=k<;>subst hx<;>unfold af at q2
  ·exact q2
  ·exact q2.1
 subst e1 e2
 cases rv with
 | cons z1 rv=>
  cases rv with
  | cons z2 rv=>
   cases rv
   obtain⟨t,rfl⟩:=z1
   exact⟨a,o,t,_,n,rfl,g1,g2,g3,z2⟩
theorem zq(I:Inv X pins σ H s):∀{ws:List Wv}{vs:List V}{us:List YD}{ks:List Kw},mh ws=some ks->ae X.K m H ws vs->Vals vs us->Paired (Bi s.heap) us ks
 | [],vs,us,ks,h,r,ru=>by
  unfold ae at r
  subst r
  cases h
  cases ru
  exact .nil
 | w::t,vs,us,ks,h,r,ru=>by
  unfold ae at r
  obtain⟨v,vr,rfl,r1,r2⟩:=r
  unfold mh at h
  cases e1:xW w with
  | none=>rw[e1] at h;cases h
  | some k=>
   cases e2:mh t with
   | none=>rw[e1,e2] at h;cases h
   | some l=>
    rw[e1,e2] at h
    cases h
    cases ru with
    | cons z1 z2=>exact .cons (Iq I e1 r1 z1) (zq I e2 r2 z2)
end
def kd:Kw:=(0,.inl 0)
def ltB(b:Bool)(ks:List Kw)(i j:Nat):Bool:=if b then mP (ks.getD j kd) (ks.getD i kd) else mP (ks.getD i kd) (ks.getD j kd)
def N_(b:Bool)(ks:List Kw)(i j:Nat):Bool:=!ltB b ks j i&&(ltB b ks i j||decide (i < j))
def vI(b:Bool)(ks:List Kw)(n:Nat):List Nat->List Nat
 | []=>[n]
 | x::r=>if N_ b ks n x then n::x::r else x::vI b ks n r
def Bj(b:Bool)(ks:List Kw):List Nat->List Nat
 | []=>[]
 | n::r=>vI b ks n (Bj b ks r)
theorem zr{b:Bool}{ks:List Kw}{i j:Nat}:N_ b ks i j=true↔uE (ltB b ks) i j:=by
 unfold N_ uE
 cases ltB b ks j i<;>cases ltB b ks i j<;>simp
theorem J8{ks:List Kw}(h:∀k∈ks,mf k=true)(i:Nat):mf (ks.getD i kd)=true:=by
 by_cases c:i < ks.length
 ·have e:ks.getD i kd=ks[i]:=by simp[List.getD,c]
  rw[e];exact h _ (kU c)
 ·have e:ks.getD i kd=kd:=by rw[cC,List.getElem?_eq_none (by omega)];rfl
  rw[e];rfl
theorem oH{b:Bool}{ks:List Kw}(h:∀k∈ks,mf k=true):Ord (ltB b ks):=by
 have k:=J8 h
 refine⟨λx y e=>?_,λx y z e f=>?_⟩<;>unfold ltB at * <;>cases b<;>simp only[if_true,if_false,y6] at *
 ·exact Eg (k _) (k _) e
 ·exact Eg (k _) (k _) e
 ·exact Eh (k _) (k _) (k _) e f
 ·exact Eh (k _) (k _) (k _) f e
theorem Ir{b:Bool}{ks:List Kw}(h:∀k∈ks,mf k=true){i j:Nat}(n:i≠j)(e:N_ b ks i j=false):N_ b ks j i=true:=by
 have o:=oH (b:=b) h
 unfold N_ at *
 cases e1:ltB b ks j i with
 | true=>rw[o.as _ _ e1];simp
 | false=>
  rw[e1] at e
  simp at e
  simp[e.1]
  omega
theorem ng{b:Bool}{ks:List Kw}(n:Nat):∀l,(vI b ks n l).Perm (n::l)
 | []=> .refl _
 | x::r=>by
  unfold vI
  split
  ·exact .refl _
  ·exact((ng n r).cons x).trans (.swap n x r)
theorem eB{b:Bool}{ks:List Kw}:∀l,(Bj b ks l).Perm l
 | []=> .refl _
 | n::r=>(ng n _).trans ((eB r).cons n)
theorem zt{b:Bool}{ks:List Kw}(h:∀k∈ks,mf k=true)(n:Nat):∀l,n∉l->l.Pairwise (uE (ltB b ks))->(vI b ks n l).Pairwise (uE (ltB b ks))
 | [],_,_=>by simp[vI]
 | x::r,hn,hp=>by
  have o:=oH (b:=b) h
  unfold vI
  rw[oE] at hp
  split
  ·rename_i e
   have e':=zr.mp e
   refine List.pairwise_cons.mpr ⟨λy hy=>?_,List.pairwise_cons.mpr hp⟩
   rcases List.mem_cons.mp hy with q | q
   ·rw[q];exact e'
   ·exact e'.trans o (hp.1 y q)
  ·rename_i e
   have e':=zr.mp (Ir (i:=n) (j:=x) h (λz=>hn (by rw[z];exact aP)) (by simpa using e))
   refine List.pairwise_cons.mpr ⟨λy hy=>?_,zt h n r (λz=>hn (aJ _ z)) hp.2⟩
   rcases List.mem_cons.mp ((ng n r).mem_iff.mp hy) with q | q
   ·rw[q];exact e'
   ·exact hp.1 y q
theorem t7{b:Bool}{ks:List Kw}(h:∀k∈ks,mf k=true):∀l:List Nat,l.Nodup->(Bj b ks l).Pairwise (uE (ltB b ks))
 | [],_=> .nil
 | n::r,hn=>by
  rw[List.nodup_cons] at hn
  exact zt h n _ (λz=>hn.1 ((eB r).mem_iff.mp z)) (t7 h r hn.2)
theorem Iu{lt:Nat->Nat->Bool}(o:Ord lt){a b:Nat}(h:uE lt a b)(k:uE lt b a):False:=by
 have h1:=h.2 k.1
 have h2:=k.2 h.1
 omega
theorem vJ{b:Bool}{ks:List Kw}(h:∀k∈ks,mf k=true){l r:List Nat}(hn:r.Nodup)(hp:l.Perm r)(hu:l.Pairwise (uE (ltB b ks))):l=Bj b ks r :=
 xF (λa b _ _ h1 h2=>(Iu (oH h) h1 h2).elim) hu (t7 h r hn) (hp.trans (eB r).symm)
structure F9(X:Cx)(pins:List (Yx×Obj))(base:Heap)(D kS:Yx):Prop where
 ne:kS≠D
 D1:∀H:Hp,H D=none->du X pins H D
 K1:∀H:Hp,H kS=none->du X pins H kS
 bz:base.objs.size<=D
 bk:base.get? kS=none
 bL:base.get? X.env.locals=none
 bf:∀b∈frs X.stack,base.get? b=none
 mod:Mod X.K X.mg base
structure xX(X:Cx)(pins:List (Yx×Obj))(σ:L2.St)(base:Heap)(m0:Mp)(H0:Hp)(st:Hs)(D kS:Yx)(e1:Nat)(s:YC)(H:Hp)(m:Mp):Prop where
 I:Inv X pins σ H s
 bs:∀b o,base.get? b=some o->s.heap.get? b=some o/\H b=none
 S:aY X.K m st H
 ex:Ext X.K m0 H0 m H
 hD:s.heap.get? D=some (seqObj "list" #[] e1)
 nD:H D=none
 nK:H kS=none
section
variable {X:Cx} {pins:List (Yx×Obj)} {σ:L2.St} {base:Heap} {m0 m m':Mp} {H0 H H':Hp} {st:Hs} {D kS:Yx} {e1:Nat} {s s':YC}
theorem F9.nf(d:F9 X pins base D kS)(I:Inv X pins σ H s)(hD:H D=none)(hK:H kS=none):D∉frs X.stack/\kS∉frs X.stack:=by
 obtain⟨_,a1,a2,_⟩:=d.D1 H hD
 obtain⟨_,b1,b2,_⟩:=d.K1 H hK
 exact⟨λz=>(List.mem_cons.mp (I.jd D z)).elim a1 a2,λz=>(List.mem_cons.mp (I.jd kS z)).elim b1 b2⟩
theorem xX.Ll(d:F9 X pins base D kS)(k:xX X pins σ base m0 H0 st D kS e1 s H m):n6 X.prog X.w X.K X.mg base X.A X.stack s H :=
 ⟨k.I.ok.frames,d.mod,k.bs,aX d.bz (om (aL k.hD)),zk (λenv he L hL=>d.bf L (List.mem_filterMap.mpr ⟨env,he,hL⟩)) k.I.stack,k.I.jP,k.I.hok,k.I.bare⟩
theorem xX.call(d:F9 X pins base D kS)(k:xX X pins σ base m0 H0 st D kS e1 s H m){ks:Array YD}{e:Nat}(hk:s.heap.get? kS=some (seqObj "list" ks e))(os:s'.os=s.os)(bare:AllBare s'.gens)(un:Un (frs X.stack) [] H H' s.heap s'.heap)(hok:iY X.prog X.w H' s'.heap)
  (ex:Ext X.K m H m' H')(S:aY X.K m' st H'):xX X pins σ base m0 H0 st D kS e1 s' H' m'/\s'.heap.get? kS=some (seqObj "list" ks e):=by
 obtain⟨f1,f2⟩:=d.nf k.I k.nD k.nK
 refine⟨⟨k.I.rn (ch:=[]) os un hok bare (λb z=>absurd z (by simp)),λb o e=>?_,S,k.ex.trans ex,un.keep _ _ k.hD k.nD f1 (by simp),un.free _ _ k.hD k.nD (by simp),un.free _ _ hk k.nK (by simp)⟩,un.keep _ _ hk k.nK f2 (by simp)⟩
 obtain⟨h1,h2⟩:=k.bs b o e
 exact⟨un.keep b o h1 h2 (λz=>by rw[d.bf b z] at e;cases e) (by simp),un.free b o h1 h2 (by simp)⟩
theorem xX.wrote(d:F9 X pins base D kS)(k:xX X pins σ base m0 H0 st D kS e1 s H m){ks:Array YD}{e:Nat}(hk:s.heap.get? kS=some (seqObj "list" ks e))(f:Array YD->Array YD) :
  xX X pins σ base m0 H0 st D kS e1 { s with heap:=s.heap.update kS (dS f) } H m:=by
 obtain⟨_,a1,a2,a3,a4,a5⟩:=d.K1 H k.nK
 have keep:∀b o,b≠kS->s.heap.get? b=some o->(s.heap.update kS (dS f)).get? b=some o:=λb o n e=>((tZ s.heap kS (dS f)).2 b n).trans e
 refine⟨k.I.turned (t':=s.toks) keep k.nK a1 a3 a4 a5,λb o e=>?_,k.S,k.ex,keep _ _ (bt d.ne) k.hD,k.nD,k.nK⟩
 obtain⟨h1,h2⟩:=k.bs b o e
 exact⟨keep b o (λz=>by rw[z,d.bk] at e;cases e) h1,h2⟩
theorem vL{k0:Nat}{f:Yx}{sp:V->Hp->VK->Prop}{body:YD->PUnit->Sem (ForInStep PUnit)}{R:PUnit->YC->Prop}{E:YD->YC->Prop}(d:F9 X pins base D kS)(kf:N9 X.prog X.w X.K X.mg base k0 f sp)(hr:eT (k0+2) X.A)
  (hb:∀x (s:YC) (Q:YC->Prop),YR (model X.prog X.w) X.A.in1.in1 (call (.ref f) [x]) (λk s'=>∃(ks:Array YD)(e:Nat),s'.heap.get? kS=some (seqObj "list" ks e)/\ks.size < 64/\Q { s' with heap:=s'.heap.update kS (dS (·.push k)) }) (λ_ _=>False) s->
   YR (model X.prog X.w) X.A.in1.in1 (body x ⟨⟩) (λr s'=>r= .yield ⟨⟩/\Q s') E s) :
  ∀(r:List YD)(rv:List V)(rw' kr kd:List Wv)(kv:List V)(ks:List YD)(e:Nat)(s:YC)(H:Hp)(m:Mp),xX X pins σ base m0 H0 st D kS e1 s H m->s.heap.get? kS=some (seqObj "list" ks.toArray e)->Vals kv ks->ae X.K m H kd kv->Vals rv r->ae X.K m H rw' rv->
   ks.length+r.length < 64->kr.length=rw'.length->(∀(i:Nat) w kw,rw'[i]? =some w->kr[i]? =some kw->∀(H':Hp)(m':Mp)(v:V)(Q:VK),Ext X.K m0 H0 m' H'->aY X.K m' st H'->af X.K m' H' w v->BU X.K m' H' Q kw st->sp v H' Q)->
   (∀(s':YC)(H':Hp)(m':Mp)(kv':List V)(ks':List YD)(e':Nat),xX X pins σ base m0 H0 st D kS e1 s' H' m'->Ext X.K m H m' H'->s'.heap.get? kS=some (seqObj "list" ks'.toArray e')->Vals kv' ks'->ae X.K m' H' (kd++kr) kv'->R ⟨⟩ s')->
   YR (model X.prog X.w) X.A.in1.in1 (forIn r PUnit.unit body) R E s
 | [],rv,rw',kr,kd,kv,ks,e,s,H,m,k,hk,vk,rk,vr,rr,hl,Rh,hs,fin=>by
  cases vr
  have:rw'=[]:=by
   cases rw' with
   | nil=>rfl
   | cons a t=>unfold ae at rr;obtain⟨_,_,e,_⟩:=rr;cases e
  subst this
  have:kr=[]:=List.length_eq_zero_iff.mp Rh
  subst this
  rw[List.forIn_nil]
  exact YY (fin s H m kv ks e k Ext.refl hk vk (by rw[fc];exact rk))
 | x::r,rv,rw',kr,kd,kv,ks,e,s,H,m,k,hk,vk,rk,vr,rr,hl,Rh,hs,fin=>by
  cases vr with
  | cons rx vr=>
   rename_i v rv
   cases rw' with
   | nil=>unfold ae at rr;cases rr
   | cons w rw'=>
    unfold ae at rr
    obtain⟨_,_,ee,r1,r2⟩:=rr
    cases ee
    cases kr with
    | nil=>cases Rh
    | cons kw kr=>
     rw[List.forIn_cons]
     have Qi:=kf X.A.in1.in1 X.stack s H x v (λv' H'=>∃m',Ext X.K m H m' H'/\aY X.K m' st H'/\af X.K m' H' kw v') (eT.in1 (eT.in1 hr)) (n6.in1 (n6.in1 (k.Ll d))) rx
      (hs 0 w kw rfl rfl H m v _ k.ex k.S r1 λv' m' H' e' S' r'=>⟨m',e',S',r'⟩)
     refine YS (YV (hb x s (λs2=>YR (model X.prog X.w) X.A.in1.in1 (forIn r PUnit.unit body) R E s2) (YV Qi (λu s1 hq=>?_) λ_ _ z=>z)) (λq s2 hq=>?_) λ_ _ z=>z)
     ·obtain⟨v',H1,os,bare,un,hok,ru,m1,Ri,S1,Xd⟩:=hq
      obtain⟨k1,hk1⟩:=k.call d hk os bare un hok Ri S1
      refine⟨ks.toArray,e,hk1,by simp at hl ⊢;omega,?_⟩
      have hk2:=get?_update_seq hk1 (·.push u)
      have ea:ks.toArray.push u=(ks++[u]).toArray:=by simp
      rw[ea] at hk2
      refine vL d kf hr hb r rv rw' kr (kd++[kw]) (kv++[v']) (ks++[u]) _ _ H1 m1 (k1.wrote d hk1 (·.push u)) hk2 (vk.append (.cons ru .nil)) (ae.append (ae.mono Ri _ _ rk) (ae.cons Xd ae.nil)) vr (ae.mono Ri _ _ r2) (by simp at hl ⊢;omega) (by simpa using Rh) (λi w2 Xe h1 h2=>hs (i+1) w2 Xe (by simpa using h1) (by simpa using h2)) λs' H' m' kv' ks' e' k' ex' hk' TM Rj=>?_
      exact fin s' H' m' kv' ks' e' k' (Ri.trans ex') hk' TM (by rw[pv] at Rj;exact Rj)
     ·obtain⟨rfl,hq⟩:=hq
      exact hq
end
def gO(b:Bool)(kk:List Kw):List Nat:=Bj b kk (dm kk.length)
theorem qf{α β:Type}{F:α->β->Prop}{l':List α}{k':List β}(h':Paired F l' k'):∀{l:List α}{k:List β},Paired F l k->Paired F (l++l') (k++k')
 | _,_,.nil=>h'
 | _,_,.cons h t=> .cons h (qf h' t)
theorem qg{α β:Type}{F:α->β->Prop}:∀{l:List α}{k:List β},Paired F l k->Paired F l.reverse k.reverse
 | _,_,.nil=> .nil
 | _,_,.cons h t=>by
  rw[List.reverse_cons,List.reverse_cons]
  exact qf (.cons h .nil) (qg t)
theorem qh{α:Type}{d:α}(l:List α){i:Nat}(h:i < l.length):l.reverse.getD i d=l.getD (l.length - 1 - i) d:=by
 simp[cC,List.getElem?_reverse h]
theorem zu{p:Array Nat}{i:Nat}(h:i < p.toList.length):at_ p i=p.toList[i]:=by
 have:i < p.size:=by simpa using h
 simp[at_,Array.getD,this]
theorem Iw{b:Bool}{kk:List Kw}(hk:∀k∈kk,mf k=true){p:Array Nat}(h1:Pm kk.length p)(h2:wL (λi j=>mP ((katRev b kk).getD i kd) ((katRev b kk).getD j kd)) p kk.length){α:Type}(its:List α)(dd:α)(hl:its.length=kk.length) :
  katRev b (p.toList.map λi=>(katRev b its).getD i dd)=(gO b kk).map λi=>its.getD i dd:=by
 have mem:∀i∈p.toList,i < kk.length:=λi hi=>List.mem_range.mp (h1.pm.mem_iff.mp hi)
 have pw:p.toList.Pairwise λa c=>uE (λi j=>mP ((katRev b kk).getD i kd) ((katRev b kk).getD j kd)) a c:=by
  rw[List.pairwise_iff_getElem]
  intro i j hi hj hij
  rw[<-zu hi,<-zu hj]
  exact h2 i j hij (by have:=h1.sz;simp at hj;omega)
 cases b with
 | false=>
  have e:p.toList=gO false kk:=vJ hk t8 h1.pm (pw.imp λ{a c} h=>h)
  rw[<-e]
  simp[katRev]
 | true=>
  have e:(p.toList.map λi=>kk.length - 1 - i).reverse=gO true kk:=by
   refine vJ hk t8 ?_ ?_
   ·refine(List.reverse_perm _).trans ((h1.pm.map _).trans ?_)
    refine List.perm_iff_count.mpr λa=>?_
    have nd:((dm kk.length).map λi=>kk.length - 1 - i).Nodup:=by
     rw[Iy,oI]
     have:=t8 (n:=kk.length)
     rw[Iy] at this
     refine this.imp_of_mem λ{x y} hx hy n=>?_
     rw[List.mem_range] at hx hy
     omega
    rw[nd.count,List.nodup_range.count]
    have:(a∈(dm kk.length).map λi=>kk.length - 1 - i)↔a∈dm kk.length:=by
     simp only[List.mem_map,List.mem_range]
     constructor
     ·rintro⟨x,hx,rfl⟩;omega
     ·intro h;exact⟨kk.length - 1 - a,by omega,by omega⟩
    simp only[this]
   ·rw[List.pairwise_reverse,oI]
    refine pw.imp_of_mem λ{x y} hx hy h=>?_
    have lx:=mem x hx
    have ly:=mem y hy
    simp only[katRev,if_true,uE,qh kk lx,qh kk ly] at h
    exact⟨by simpa [ltB] using h.1,λz=>by have:=h.2 (by simpa [ltB] using z);omega⟩
  rw[<-e]
  simp only[katRev,if_true,List.map_reverse,bE]
  congr 1
  refine kY λi hi=>?_
  simp only[Function.comp]
  have:=mem i hi
  rw[qh its (by omega),hl]
theorem oJ{b:Bool}{kk:List Kw}{i:Nat}(h:i∈gO b kk):i < kk.length:=List.mem_range.mp ((eB _).mem_iff.mp h)
theorem qi{b:Bool}{kk:List Kw}:(gO b kk).length=kk.length:=by unfold gO;rw[(eB _).length_eq];simp
theorem zv{K:PySem.W.Frag}{m:Mp}{H:Hp}{ws:List Wv}{vs:List V}(r:ae K m H ws vs):∀(l:List Nat),(∀i∈l,i < ws.length)->ae K m H (l.map λi=>ws.getD i .ay) (l.map λi=>vs.getD i .ay)
 | [],_=>ae.nil
 | i::l,h=>by
  have hi:=h i (by simp)
  obtain⟨x,e,rx⟩:=r.get (i:=i) (w:=ws.getD i .ay) (by simp[cC,hi])
  have e2:vs.getD i .ay=x:=by rw[cC,e];rfl
  rw[aH,aH,e2]
  exact ae.cons rx (zv r l λj hj=>h j (by simp[hj]))
section
variable {X:Cx} {pins:List (Yx×Obj)} {σ:L2.St} {base:Heap} {m0 m m':Mp} {H0 H H':Hp} {st:Hs} {D kS:Yx} {e1:Nat} {s s':YC}
theorem xX.done(d:F9 X pins base D kS)(k:xX X pins σ base m0 H0 st D kS e1 s H m){out:List YD}{vs:List V}(hv:Vals vs out)(hz:vs.length < 64) :
  Inv X pins σ (upd H D (.lst vs)) { s with heap:=s.heap.update D (dS λ_=>out.toArray) }:=by
 obtain⟨_,a1,a2,a3,a4,a5⟩:=d.D1 H k.nD
 have I:=k.I
 have keep:∀b o,b≠D->s.heap.get? b=some o->(s.heap.update D (dS λ_=>out.toArray)).get? b=some o:=λb o n e=>((tZ s.heap D _).2 b n).trans e
 have hD:=get?_update_seq k.hD λ_=>out.toArray
 have Oa:∀b u,H b=some u->b≠D:=λb u e=>bp e k.nD
 refine I.step (g':=s.gens) (d':=s.drawn) (t':=s.toks) (ch:=[D]) (λb z=>?_) (λb o _ _ n e _=>keep b o (by simpa using n) e) (λb o _ _ n e _=>⟨o.slots,keep b o (by simpa using n) e⟩) (λb o n e z=>by rw[ar (by simpa using n)];exact z) (λb o n e=>⟨o,keep b o (by simpa using n) e⟩)
  (λb xs e=>by rw[ar (Oa _ _ e)];exact e) (λb o u e=>by rw[ar (Oa _ _ e)];exact e) (λb ps e=>⟨#[],by rw[ar (Oa _ _ e),e];simp⟩) (λm' hm=>?_) (λb ob e=>?_) I.bare
 ·have e:b=D:=by simpa using z
  subst e
  exact⟨a3,a1,a4,a5⟩
 ·obtain⟨o,es,ep,ho,r⟩:=hm
  exact⟨o,es,ep,keep _ o (bt a1) ho,r⟩
 ·by_cases z:b=D
  ·subst z
   rw[aC] at e
   cases e
   exact⟨by rw[sizeLine_eq];omega,out,_,hv,hD⟩
  ·rw[ar z] at e
   refine(I.hok b ob e).stay (λc v hc q=>keep c v ?_ q) (λc q=>by rw[ar (Oa _ _ q)];exact q) λc xs q=>by rw[ar (Oa _ _ q)];exact q
   rcases hc with y | y
   ·rw[y];exact z
   ·exact Oa c _ y
theorem vM{b:Bool}{TN:SortSt}{out:List YD}{vs:List V}{ks:Array YD}{e:Nat}{P:PySem.Fin->YC->Prop}{A:Yy}{E:YD->YC->Prop}(d:F9 X pins base D kS)(k:xX X pins σ base m0 H0 st D kS e1 s H m)(hk:s.heap.get? kS=some (seqObj "list" ks e))
  (hz:ks.size < 64)(ho:(arrOf TN).map (·.2)=out.toArray)(hf:failedOf TN=none)(hv:Vals vs (katRev b out))(hl:vs.length < 64)(fin:∀s',Inv X pins σ (upd H D (.lst vs)) s'->P (.done (.ret .none)) s'):YR (model X.prog X.w) A (ksk_tail D b e1 (.ref kS) TN) P E s:=by
 have k2:=k.wrote d hk λ_=>#[]
 have lo:out.length < 64:=by have:=hv.length;rw[kat_len] at this;omega
 unfold ksk_tail
 dsimp only
 rw[ho,kat_outs]
 refine YS (listUpdate_at hk rfl (YS (wpAny_letGo (YS (seqEpoch_at k2.hD rfl (YS (listUpdate_at k2.hD rfl ?_ (by simp) (by simp[kat_len,sizeLine_eq];omega))))))) (by rw[sizeLine_eq];omega) (by simp))
 rw[hf]
 simp only[bne_self_eq_false,y6,if_false]
 exact YY (fin _ (k2.done d hv hl))
theorem Iz{b:Bool}{kk:List Kw}{its ks:List YD}{vs kv:List V}{ws kws:List Wv}{e:Nat}{P:PySem.Fin->YC->Prop}{A:Yy}{E:YD->YC->Prop}(d:F9 X pins base D kS)(k:xX X pins σ base m0 H0 st D kS e1 s H m)(hk:s.heap.get? kS=some (seqObj "list" ks.toArray e))
  (hv:Vals vs its)(rv:ae X.K m H ws vs)(hkv:Vals kv ks)(rk:ae X.K m H kws kv)(hkk:mh kws=some kk)(hl:kws.length=ws.length)(hz:ws.length < 64)
  (fin:∀s' vs',Inv X pins σ (upd H D (.lst vs')) s'->ae X.K m H ((gO b kk).map λi=>ws.getD i .ay) vs'->P (.done (.ret .none)) s'):YR (model X.prog X.w) A (ksk_end D b its.toArray e1 (.ref kS) ks.toArray) P E s:=by
 obtain⟨lk,TQ⟩:=vH hkk
 have l1:=hv.length
 have l2:=rv.length
 have l3:=hkv.length
 have l4:=rk.length
 have tk:=zq k.I hkk rk hkv
 have step:∀t:Sem PySem.Fin,YR (model X.prog X.w) A t P E s->YR (model X.prog X.w) A (if b=true then(do let _ <-rule "list.sort.reverse";t) else t) P E s:=λt ht=>by
  cases b
  ·exact ht
  ·exact YS (wpAny_rule ht)
 have hvs:Vals ((gO b kk).map λi=>vs.getD i .ay) ((gO b kk).map λi=>its.getD i bo):=p_ λi hi=>gU hv (by have:=oJ hi;omega)
 have Xf:=zv rv (gO b kk) λi hi=>by have:=oJ hi;omega
 have fin':=λs' I=>fin s' _ I Xf
 unfold ksk_end
 dsimp only
 refine step _ ?_
 by_cases c:its.length < 2
 ·have c':its.toArray.size < 2:=by simpa using c
  rw[if_pos c',if_pos c']
  refine YS (YY (YS ?_))
  rw[StateT.run_pure]
  refine YY ?_
  refine vM (b:=b) (out:=katRev b its) d k hk (by simp;omega) ?_ rfl (vs:=(gO b kk).map λi=>vs.getD i .ay) ?_ (by rw[av,qi];omega) fin'
  ·show Array.map (λx:Keyed=>x.2) (if b=true then(ks.toArray.zip its.toArray).reverse else ks.toArray.zip its.toArray)=_
   have:ks.length=its.length:=by omega
   match its,ks,this,c with
   | [],[],_,_=>cases b<;>simp[katRev]
   | [v],[u],_,_=>cases b<;>simp[katRev]
  ·have e:katRev b (katRev b its)=(gO b kk).map λi=>its.getD i bo:=by
    have z:katRev b (katRev b its)=its:=by cases b<;>simp[katRev]
    rw[z]
    have n:kk.length=its.length:=by omega
    match its,kk,n,c with
    | [],[],_,_=>rfl
    | [v],[u],_,_=>simp[gO,Bj,List.range_succ,vI]
   rw[e];exact hvs
 ·have c':¬its.toArray.size < 2:=by simpa using c
  rw[if_neg c',if_neg c']
  obtain⟨fs,k1,k2,k3⟩:=r6 tk
  refine YS (kat_kind (T:=.type "int") k1 (by omega) (λv hv=>by obtain⟨i,t,rfl⟩:=k3 v hv;exact Looks.of_pure rfl) (by decide) ?_)
  have et:(oj "int" != oj "tuple")=true:=by decide
  rw[et,kat_pairs b (by omega)]
  have hlr:(katRev b ks).length=(katRev b its).length:=by rw[kat_len,kat_len];omega
  refine YS (YV (kat_run (Q:=λst' s'=>s'=s/\∃p:Array Nat,p.size=(katRev b its).length/\arrOf st'=p.map (kas_item ((katRev b ks).toArray.zip (katRev b its).toArray))/\failedOf st'=none/\Pm kk.length p/\wL (λi j=>mP ((katRev b kk).getD i kd) ((katRev b kk).getD j kd)) p kk.length)
   (G:=λp s'=>s'=s/\Pm kk.length p/\wL (λi j=>mP ((katRev b kk).getD i kd) ((katRev b kk).getD j kd)) p kk.length) hlr (by rw[kat_len];omega) (by rw[kat_len];omega) (λp st' s' a1 a2 a3 ⟨a4,a5⟩=>⟨a4,p,a1,a2,a3,a5⟩) ?_) ?_ λ_ _ x=>x)
  ·have od:Ord λi j=>mP ((katRev b kk).getD i kd) ((katRev b kk).getD j kd):=by
    have Rk:∀x∈katRev b kk,mf x=true:=λx hx=>TQ x (by cases b<;>simpa [katRev] using hx)
    have q:=oH (b:=false) Rk
    exact⟨λx y e=>q.as x y (by simpa [ltB] using e),λx y z e f=>by simpa [ltB] using q.tr x y z (by simpa [ltB] using e) (by simpa [ltB] using f)⟩
   have tr:Paired (Bi s.heap) (katRev b ks) (katRev b kk):=by cases b<;>simp only[katRev,if_true,y6,if_false];exact tk;exact qg tk
   have Rk:∀i,i < kk.length->mf ((katRev b kk).getD i kd)=true:=λi _=>J8 (λx hx=>TQ x (by cases b<;>simpa [katRev] using hx)) i
   have en:(katRev b its).length=kk.length:=by rw[kat_len];omega
   rw[en]
   refine Kg.wp (lt:=λi j=>mP ((katRev b kk).getD i kd) ((katRev b kk).getD j kd)) (N:=kk.length) (P:=λs''=>s''=s) (λi j C s'' hi hj hs hC=>?_) rfl ((Io od (by omega)).imp λpm ⟨P1,P2⟩ s'' hs=>⟨hs,P1,P2⟩)
   subst hs
   have hi':i < (katRev b kk).length:=by rw[kat_len];exact hi
   have hj':j < (katRev b kk).length:=by rw[kat_len];exact hj
   unfold kas_ask
   exact Ip (gU (a:=bo) (b:=kd) tr hi') (gU (a:=bo) (b:=kd) tr hj') (Rk i hi) (Rk j hj) (hC _ rfl)
  ·rintro⟨⟨⟩,st'⟩ s' ⟨rfl,p,hp,har,hf,p1,p2⟩
   dsimp only
   refine vM (b:=b) (out:=p.toList.map λi=>(katRev b its).getD i bo) d k hk (by simp;omega) (kat_snds hlr har) hf (vs:=(gO b kk).map λi=>vs.getD i .ay) ?_ (by rw[av,qi];omega) fin'
   rw[Iw TQ p1 p2 its bo (by omega)]
   exact hvs
end
section
variable {X:Cx} {pins:List (Yx×Obj)} {σ:L2.St} {base:Heap} {m:Mp} {H:Hp} {st:Hs} {s:YC}
def J9(X:Cx)(m:Mp)(H:Hp)(st:Hs)(sp:V->Hp->VK->Prop)(ws kws:List Wv):Prop:=kws.length=ws.length/\∀(i:Nat) w kw,ws[i]? =some w->kws[i]? =some kw->∀(H':Hp)(m':Mp)(v:V)(Q:VK),Ext X.K m H m' H'->aY X.K m' st H'->af X.K m' H' w v->BU X.K m' H' Q kw st->sp v H' Q
structure Qj(X:Cx)(base:Heap)(s:YC)(H:Hp):Prop where
 bs:∀b o,base.get? b=some o->s.heap.get? b=some o/\H b=none
 bz:base.objs.size<=s.heap.objs.size
 bL:base.get? X.env.locals=none
 bf:∀b∈frs X.stack,base.get? b=none
 mod:Mod X.K X.mg base
theorem Ei{k0:Nat}{f D:Yx}{sp:V->Hp->VK->Prop}{b:Bool}{its:List YD}{n:Nat}{vs:List V}{ws kws:List Wv}{kk:List Kw}{P:PySem.Fin->YC->Prop}{E:YD->YC->Prop}(kf:N9 X.prog X.w X.K X.mg base k0 f sp)(hr:eT (k0+2) X.A)(I:Inv X pins σ H s)(S:aY X.K m st H)
  (hD:s.heap.get? D=some (seqObj "list" its.toArray n))(nD:H D=none)(fD:∀H:Hp,H D=none->du X pins H D)(B:Qj X base s H)(bD:base.objs.size<=D)(hv:Vals vs its)(rv:ae X.K m H ws vs)(hs:J9 X m H st sp ws kws)(hkk:mh kws=some kk)(hz:ws.length < 64)
  (fin:∀s' H' m' vs',Inv X pins σ (upd H' D (.lst vs')) s'->H' D=none->Ext X.K m H m' H'->aY X.K m' st H'->ae X.K m' H' ((gO b kk).map λi=>ws.getD i .ay) vs'->P (.done (.ret .none)) s') :
  YR (model X.prog X.w) X.A.in1.in1 (ksk_tree D (.ref f) b) P E s:=by
 have l1:=hv.length
 have l2:=rv.length
 have z1:its.length < 64:=by omega
 have Rl:=get?_update_seq hD λ_=>(#[]:Array YD)
 obtain⟨_,a1,a2,a3,a4,a5⟩:=fD H nD
 have I1:Inv X pins σ H { s with heap:=s.heap.update D (dS λ_=>(#[]:Array YD)) }:=I.turned (t':=s.toks) (λc o n e=>((tZ s.heap D _).2 c n).trans e) nD a1 a3 a4 a5
 generalize VE:s.heap.update D (dS λ_=>(#[]:Array YD))=h1 at Rl I1
 have VF:∀b o,base.get? b=some o->h1.get? b=some o/\H b=none:=λc o e=>by
  obtain⟨q1,q2⟩:=B.bs c o e
  refine⟨?_,q2⟩
  rw[<-VE]
  exact((tZ s.heap D _).2 c (λz=>by rw[z,wO bD] at e;cases e)).trans q1
 generalize hee:(if((#[]:Array YD).size == its.toArray.size)=true then n else n+1)=e1 at Rl
 have I2:Inv X pins σ H { s with heap:=h1.push (seqObj "tuple" its.toArray 0) }:=I1.kept (t':=s.toks) λ_ _ e=>aR _ e
 have Rm:(h1.push (seqObj "tuple" its.toArray 0)).get? D=some (seqObj "list" #[] e1):=aR _ Rl
 have TR:∀b o,base.get? b=some o->(h1.push (seqObj "tuple" its.toArray 0)).get? b=some o/\H b=none:=λc o e=>⟨aR _ (VF c o e).1,(VF c o e).2⟩
 unfold ksk_tree
 refine YS (listItems_at hD rfl (YS (listUpdate_at hD rfl ?_ (by simp[sizeLine_eq];omega) (by simp))))
 rw[VE]
 refine YS (seqEpoch_at Rl rfl (YS (wpAny_newTuple (YS (YW (YU ?_))) (by simp[sizeLine_eq];omega))))
 show YR (model X.prog X.w) X.A.in1.in1 (ksk_rest D (.ref f) b its.toArray e1 (.ref (h1.push (seqObj "tuple" its.toArray 0)).objs.size)) P E { s with heap:=(h1.push (seqObj "tuple" its.toArray 0)).push (seqObj "list" #[] 0) }
 generalize h1.push (seqObj "tuple" its.toArray 0)=h2 at I2 Rm TR
 have nK:H h2.objs.size=none:=I2.hok.fresh (ak _)
 have d:F9 X pins base D h2.objs.size:=⟨lF (aL Rm),fD,λH' h=>I2.oZ (H':=H') (ak _) h,bD,wO (aX bD (om (aL Rm))),B.bL,B.bf,B.mod⟩
 have k:xX X pins σ base m H st D h2.objs.size e1 { s with heap:=h2.push (seqObj "list" #[] 0) } H m :=
  ⟨I2.kept (t':=s.toks) λ_ _ e=>aR _ e,λc o e=>⟨aR _ (TR c o e).1,(TR c o e).2⟩,S,Ext.refl,aR _ Rm,nD,nK⟩
 have hk:(h2.push (seqObj "list" #[] 0)).get? h2.objs.size=some (seqObj "list" ([]:List YD).toArray 0):=cz _ rfl
 unfold ksk_rest
 refine YS (wpAny_rule ?_)
 rw[List.forIn_toArray]
 refine YS (vL d kf hr (λx s0 Q hx=>?_) its vs ws kws [] [] [] 0 _ H m k hk .nil ae.nil hv rv (by simpa using z1) hs.1 (λi w kw e1 e2 H' m' v Q ex S' r ok=>hs.2 i w kw e1 e2 H' m' v Q ex S' r ok) λs' H' m' kv' ks' e' k' ex' hk' TM Rj=>?_)
 ·refine YS (wpAny_attempt (YV hx (λu s1 hq=>?_) λ_ _ z=>z.elim))
  obtain⟨ks,e,q1,q2,q3⟩:=hq
  dsimp only
  exact YS (listUpdate_at q1 rfl (YY ⟨rfl,q3⟩) (by rw[sizeLine_eq];omega) (by simp[sizeLine_eq];omega))
 ·refine YS (listItems_at hk' rfl ?_)
  exact Iz d k' hk' hv (ae.mono ex' _ _ rv) TM Rj hkk hs.1 hz λs2 vs' I' r'=>fin s2 H' m' vs' I' k'.nD ex' k'.S r'
end
open Classical in
def r9(gb:GE)(wy:Wv)(st:Hs):List Wv->Option (List Wv)
 | []=>some []
 | w::r=>match gb [some w,some wy] st with
  | .ok kw st'=>if st'=st then(match r9 gb wy st r with | some l=>some (kw::l) | none=>none) else none
  | _=>none
theorem vN{gb:GE}{wy:Wv}{st:Hs}:∀{ws kws:List Wv},r9 gb wy st ws=some kws->kws.length=ws.length/\∀(i:Nat) w kw,ws[i]? =some w->kws[i]? =some kw->gb [some w,some wy] st= .ok kw st
 | [],kws,h=>by cases h;exact⟨rfl,λi w kw e=>by simp at e⟩
 | w::r,kws,h=>by
  unfold r9 at h
  cases e:gb [some w,some wy] st with
  | ok kw st'=>
   rw[e] at h
   dsimp only at h
   by_cases c:st'=st
   ·rw[if_pos c] at h
    subst c
    cases e2:r9 gb wy st' r with
    | none=>rw[e2] at h;cases h
    | some l=>
     rw[e2] at h
     cases h
     obtain⟨h1,h2⟩:=vN e2
     refine⟨by simp[h1],λi w' kw' g1 g2=>?_⟩
     cases i with
     | zero=>simp at g1 g2;subst g1 g2;exact e
     | succ i=>exact h2 i w' kw' (by simpa using g1) (by simpa using g2)
   ·rw[if_neg c] at h;cases h
  | err c st'=>rw[e] at h;cases h
  | bad=>rw[e] at h;cases h
section
variable {X:Cx}
end
section
variable {X:Cx}
theorem Bk:YH "sorted"=some (.builtin "sorted"):=by decide+kernel
abbrev TU(e:Expr)(p:Pos):Keyword:=⟨some (lH "key"),e,p⟩
end
section
variable {X:Cx}
end
section
variable {prog:YB} {w:YE} {A:Yy} {E:YD->YC->Prop} {s:YC}
end
section
variable {X:Cx}
end
section
variable {X:Cx}
end
section
open PySem.SeqAt PySem.MeetsSeq PySem.MeetsSeq2 PySem.MeetsSeq3
end
variable {X:Cx}
def oLt:gM:=λx y st=>P_ x y st
theorem MW(hu:X.A.units+64 < cLine):jc X (YK .Lt) oLt:=MN hu
section
variable {X:Cx}
theorem IA:fb X (YK .IsNot) (λx y H Q=>∃a b,x= .bl a/\y= .bl b/\Q (.bl (a != b)) H):=by
 intro pins s σ H x y v u Q I rx ry h
 obtain⟨a,b,rfl,rfl,q⟩:=h
 cases rx
 cases ry
 exact isnot_bool ⟨.bl (a != b),H,I,rfl,q⟩
def J_:gM:=λx y st=>match x,y with
 | .bl a,.bl b=> .ok (.bl (a != b)) st
 | x,y=>C0 x y st
theorem IB:jc X (YK .IsNot) J_:=by
 obtain⟨r,h1,h2⟩:=C2 (X:=X)
 refine⟨_,fb.or h1 IA,λx y a b st H m Q S rx ry p=>?_⟩
 cases x with
 | bl c=>
  cases y with
  | bl d=>
   have e1:a= .bl c:=by unfold af at rx;exact rx
   have e2:b= .bl d:=by unfold af at ry;exact ry
   exact .inr ⟨c,d,e1,e2,p _ m H Ext.refl S iq⟩
  | _=>exact .inl (h2 _ _ _ _ st H m Q S rx ry p)
 | _=>exact .inl (h2 _ _ _ _ st H m Q S rx ry p)
end
def MX(td ty tx:TE):TE:=λσ H Q=>td σ H λx H1=>∃a,x= .ref a/\Sx H1 a/\ty σ H1 λy H2=>tx σ H2 λz H3=>∃kvs k,H3 a=some (.dK kvs)/\y=kV k/\kvs.length < YO/\
 (∀v,kz kvs k=some v->Q v H3)/\(kz kvs k=none->Q z (upd H3 a (.dK (putK kvs k z))))
section
variable {X:Cx} {o e f:Expr} {apos cpos:Pos} {td ty tx:TE}
theorem Ej(ho:PE X o td)(he:PE X e ty)(hf:PE X f tx)(m:M2 X o "setdefault" apos e f cpos):PE X (.Call (.Attribute o "setdefault" apos) [e,f] [] cpos) (MX td ty tx):=by
 intro pins s σ H Q I h
 refine wpAny_Call_method m.base m.few m.line PySem.F.plainAttrs_dict PySem.F.slot_dict_setdefault PySem.F.type_dict_setdefault (bg (ho pins s σ H _ I h) λu s1 ⟨x,H1,I1,rx,a,ex,d,q1⟩=>?_)
 subst ex
 obtain rfl:u=bb a:=rx
 obtain⟨t1,t2,_⟩:=CJ I1 d
 refine⟨t1,t2,?_⟩
 rw[m.trees]
 refine xa rfl (xb (pb (bg (he pins s1 σ H1 _ I1 q1) λiv s2 ⟨y,H2,I2,ry,q2⟩=>
  pb (bg (hf pins s2 σ H2 _ I2 q2) λfv s3 ⟨z,H3,I3,rz,kvs,k,ea,ey,l,q3,q4⟩=>wY ?_))))
 subst ey
 obtain⟨zz,hd,vs,rel,dd⟩:=JG I3.hok ea
 have vl:=rel.val k
 have hl:(putK kvs k z).length<=YO:=by have:=jg kvs k z;omega
 refine call_meetsIn PySem.F.slot_dict_setdefault dd.typeIs PySem.F.entry_dict_setdefault (PySem.F.args_dict_setdefault_3 _ _ _) (kt_meets_setdefault (bQ X.prog X.w) a (yR ry) hd fv) ⟨vs,dd,by rw[<-rel.length];exact zz,λv hv=>?_,λhn h' GW hs=>?_⟩
 ·rw[hv] at vl
  obtain⟨v',ev,rv⟩:=Bh vl
  exact⟨v',H3,I3.tok _,rv,q3 v' ev⟩
 ·rw[hn] at vl
  have he':∃q,h'.get? a=some q:=let ⟨q,_,_,hq,_⟩:=GW;⟨q,hq⟩
  exact⟨z,_,ow I3 (by rw[ea];exact lM) hs he' (CC hl hd (rel.put k rz) GW),rz,q4 (Bg vl)⟩
def xY:Expr->Bool
 | .Call _ (_::_) _ _=>true
 | _=>false
theorem r_{o:Expr}{name:Str}{env:Env}(h:xY o=true):attributeBase o name env (eval o env)=eval o env:=by
 unfold xY at h
 split at h
 ·rename_i g e es ks p
  cases g<;>rfl
 ·cases h
def Ek(st:Hs):Wv->Bool
 | .ref l=>(match st[l]? with | some (.dct _)=>true | _=>false)
 | _=>false
def Qk(d k x:Wv)(st:Hs):Re Wv:=match d with
 | .ref l=>(match keyOf k,st[l]? with
  | some kk,some (.dct kvs)=>if kvs.length < lim then(match gN kvs kk with | some w=> .ok w st | none=> .ok x (st.set l (.dct (n_ kvs kk x)))) else .bad
  | _,_=> .bad)
 | _=> .bad
def jz(gd gk gx:GE):GE:=λρ st=>(gd ρ st).bind λd st1=>if Ek st1 d=true then(gk ρ st1).bind λk st2=>(gx ρ st2).bind λx st3=>Qk d k x st3 else .bad
theorem El{gd gk gx:GE}(ho:JE X o gd)(he:JE X e gk)(hf:JE X f gx)(M:M2 X o "setdefault" apos e f cpos):JE X (.Call (.Attribute o "setdefault" apos) [e,f] [] cpos) (jz gd gk gx) :=
 JE.of (Ej aG aG aG M) λρ st σ H m Q S R p=>by
  refine ho.go S R (ao.bind p) λd st1 v m1 H1 p1 e1 S1 r1=>?_
  by_cases hd:Ek st1 d=true
  ·rw[if_pos hd] at p1
   cases d with
   | ref l=>
    unfold af at r1
    obtain⟨a,rfl,ha⟩:=r1
    have h0:∃Dm,H1 a=some (.dK Dm):=by
     unfold Ek at hd
     dsimp only at hd
     cases e0:st1[l]? with
     | none=>rw[e0] at hd;cases hd
     | some ob=>
      cases ob with
      | dct kvs=>
       obtain⟨xs,y1,_⟩:=(show ∃ys,H1 a=some (.dK ys)/\RelK X.K m1 H1 kvs ys from S1.obj _ _ _ ha e0)
       exact⟨xs,y1⟩
      | _=>rw[e0] at hd;cases hd
    obtain⟨Dm,h0⟩:=h0
    refine⟨a,rfl,.inl ⟨Dm,.inl h0⟩,?_⟩
    refine he.go S1 (R.mono e1) ((ao.bind p1).imp e1 λ_ _ q=>q) λk st2 y m2 H2 p2 e2 S2 r2=>?_
    refine hf.go S2 (R.mono (e1.trans e2)) ((ao.bind p2).imp (e1.trans e2) λ_ _ q=>q) λx st3 z m3 H3 p3 e3 S3 r3=>?_
    unfold Qk at p3
    dsimp only at p3
    cases q1:keyOf k with
    | none=>rw[q1] at p3;exact aa p3
    | some kk=>
     cases q2:st3[l]? with
     | none=>rw[q1,q2] at p3;exact aa p3
     | some ob=>
      rw[q1,q2] at p3
      cases ob with
      | dct kvs=>
       dsimp only at p3
       by_cases c:kvs.length < lim
       ·rw[if_pos c] at p3
        have VG:m3[l]? =some a:=(e2.trans e3).pre _ _ ha
        obtain⟨xs,y1,y2⟩:=(show ∃ys,H3 a=some (.dK ys)/\RelK X.K m3 H3 kvs ys from S3.obj _ _ _ VG q2)
        obtain⟨i1,i2⟩:=y2.val kk
        refine⟨xs,kk,y1,jX (af.mono e3 _ _ r2) q1,by rw[<-y2.length];exact tE c,λu TV=>?_,λhn=>?_⟩
        ·cases q3:gN kvs kk with
         | none=>rw[i1 q3] at TV;cases TV
         | some w=>
          rw[q3] at p3
          obtain⟨u',j1,j2⟩:=i2 w q3
          rw[TV] at j1
          cases j1
          exact p3 u m3 H3 (e1.trans (e2.trans e3)) S3 j2
        ·cases q3:gN kvs kk with
         | none=>
          rw[q3] at p3
          have ex:Ext X.K m3 H3 m3 (upd H3 a (.dK (putK xs kk z))):=Ext.iJ (.inr (.inr (.inl ⟨_,y1⟩)))
          exact p3 z m3 _ (e1.trans (e2.trans (e3.trans ex))) (S3.pC VG q2 rfl ⟨_,aC,(y2.put kk r3).mono ex⟩) (af.mono ex _ _ r3)
         | some w=>
          obtain⟨u',j1,_⟩:=i2 w q3
          rw[hn] at j1
          cases j1
       ·rw[if_neg c] at p3;exact aa p3
      | _=>exact aa p3
   | _=>cases hd
  ·rw[if_neg hd] at p1;exact aa p1
end
def wK:L2.Key->Option Wv
 | .inl i=>some (.int i)
 | .inr x=>if aE x=true then some (.str x) else none
 | .ay=>some .ay
def wKs:List L2.Key->Option (List Wv)
 | []=>some []
 | k::r=>(match wK k,wKs r with | some w,some l=>some (w::l) | _,_=>none)
theorem Em{K:PySem.W.Frag}{m:Mp}{H:Hp}{k:L2.Key}{w:Wv}(h:wK k=some w):af K m H w (kV k):=by
 cases k with
 | inl i=>cases h;unfold af;rfl
 | ay=>cases h;unfold af;rfl
 | inr x=>
  have h:(if aE x=true then some (Wv.str x) else none)=some w:=h
  by_cases c:aE x=true
  ·rw[if_pos c] at h;cases h;unfold af;exact⟨rfl,c⟩
  ·rw[if_neg c] at h;cases h
theorem zw{K:PySem.W.Frag}{m:Mp}{H:Hp}:∀{ks:List L2.Key}{ws:List Wv},wKs ks=some ws->ae K m H ws (ks.map kV)
 | [],ws,h=>by cases h;exact ae.nil
 | k::r,ws,h=>by
  unfold wKs at h
  cases e1:wK k with
  | none=>rw[e1] at h;cases h
  | some w=>
   cases e2:wKs r with
   | none=>rw[e1,e2] at h;cases h
   | some l=>rw[e1,e2] at h;cases h;exact ae.cons (Em e1) (zw e2)
theorem sd{prog:YB}{w:YE}:∀{kvs:List (L2.Key×YD)}{vs:List YD},vs.length=kvs.length->(∀(j:Nat)(v:YD),vs[j]? =some v->∃k x,kvs[j]? =some (k,x)/\(bQ prog w).is k v=true)->Vals ((kvs.map (·.1)).map kV) vs
 | [],[],_,_=> .nil
 | [],_::_,h,_=>by simp at h
 | _::_,[],h,_=>by simp at h
 | kv::r,v::vs,h,hv=>by
  obtain⟨k,x,e,hk⟩:=hv 0 v rfl
  cases e
  refine .cons ?_ (sd (by simpa using h) λj v' e=>hv (j+1) v' (by simpa using e))
  rcases bY hk with ⟨i,t,rfl,rfl⟩ | ⟨x,t,rfl,rfl⟩ | ⟨rfl,rfl⟩
  ·exact⟨t,rfl⟩
  ·exact⟨t,rfl⟩
  ·rfl
section
variable {X:Cx} {pins:List (Yx×Obj)} {σ:L2.St} {m:Mp} {H:Hp} {st:Hs} {s:YC}
theorem En(I:Inv X pins σ H s):Qj X X.base s H:=by
 have nL:X.base.get? X.env.locals=none:=wO (aX I.ok.BQ I.ok.above)
 refine⟨I.bs,aX I.ok.BQ I.sz,nL,λb hb=>?_,I.mod⟩
 rcases List.mem_cons.mp (I.jd b hb) with e | e
 ·rw[e];exact nL
 ·cases q:X.base.get? b with
  | none=>rfl
  | some o=>exact absurd e (I.ok.Oj q)
theorem vO{k0:Nat}{f l:Yx}{sp:V->Hp->VK->Prop}{b:Bool}{kw:List (Str×YD)}{xs:List (L2.Key×V)}{ws kws:List Wv}{kk:List Kw}{Q:VK}(ha1:argsOk "sorted" ⟨[.ref l],kw⟩)(ha2:∀x,argsOk "list.sort" ⟨[.ref x],kw⟩)(ht:∀x,Builtin.«list.sort» ⟨[.ref x],kw⟩=ksk_tree x (.ref f) b)
  (hc:X.calm=true)(kf:N9 X.prog X.w X.K X.mg X.base k0 f sp)(hr:eT (k0+2) X.A)(I:Inv X pins σ H s)(S:aY X.K m st H)(hq:Rd H l (.dK xs))(rv:ae X.K m H ws ((xs.map (·.1)).map kV))(hs:J9 X m H st sp ws kws)(hkk:mh kws=some kk)(hz:ws.length < 64)
  (fin:∀p H' m' vs',H' p=none->Ext X.K m H m' H'->aY X.K m' st H'->ae X.K m' H' ((gO b kk).map λi=>ws.getD i .ay) vs'->Q (.ref p) (upd H' p (.lst vs'))) :
  YR (model X.prog X.w) X.A (call (.builtin "sorted") [.ref l] kw) (EP X pins σ Q) X.xe s:=by
 obtain⟨z,lo,VH,rel,dd⟩:=uQ I.hok hq
 obtain⟨ep,hat⟩:=dd.dictAt
 have l2:=rv.length
 have l3:=rel.length
 simp only[av] at l2
 refine call_function_entry_kw kind_sorted plain_sorted entry_sorted ha1 ?_
 unfold Builtin.«sorted»
 refine YS (m:=checkCount "sorted" 1 1 _) (YY (YS (kdu_collect (A:=X.A.in1) (kdl_dict (knd:=bQ X.prog X.w) (kvs:=VH) (ep:=ep) lo) (I.ok.hd hc) hat (by rw[<-l3];exact z) λh' tk acc hk hacc=>?_)))
 have hl:acc.toList.length=VH.length:=by rw[Cc];exact hacc.1
 have hv:Vals ((xs.map (·.1)).map kV) acc.toList:=by
  have:=sd (prog:=X.prog) (w:=X.w) hl λj v e=>hacc.2 j v (by rw[<-Array.getElem?_toList];exact e)
  rwa [<-rel.keys] at this
 refine YS (YW ?_ (by rw[hl,sizeLine_eq];omega))
 show YR _ _ _ _ _ { s with heap:=h'.push (seqObj "list" acc.toList.toArray 0),toks:=tk }
 have I0:Inv X pins σ H { s with heap:=h',toks:=tk }:=I.kept (t':=tk) hk
 have hh:(h'.push (seqObj "list" acc.toList.toArray 0)).get? h'.objs.size=some (seqObj "list" acc.toList.toArray 0):=cz _ rfl
 have I1:Inv X pins σ H { s with heap:=h'.push (seqObj "list" acc.toList.toArray 0),toks:=tk }:=I.kept (t':=tk) λc o e=>aR _ (hk c o e)
 refine YS (YU (wpAny_call_entry_kw slot_list_sort ⟨_,hh,rfl⟩ entry_list_sort ?_ (ha2 _)))
 show YR (model X.prog X.w) X.A.in1.in1 (Builtin.«list.sort» ⟨[.ref h'.objs.size],kw⟩) _ _ _
 rw[ht]
 exact Ei kf hr I1 S hh (I0.hok.fresh (ak _)) (λH' h=>I0.oZ (H':=H') (ak _) h) (En I1) (En I0).bz hv rv hs hkk hz λs' H' m' vs' I' hn ex S' r'=>⟨_,rfl,YY ⟨_,rfl,.ref _,_,I',rfl,fin _ H' m' vs' hn ex S' r'⟩⟩
end
def vP(F:List Wv->Hs->Re Wv)(st:Hs)(ws:List Wv):Option (List Wv):=r9 (λρ st=>match ρ with | [some w,_]=>F [w] st | _=> .bad) .ay st ws
theorem Eo{F:List Wv->Hs->Re Wv}{st:Hs}{ws kws:List Wv}(h:vP F st ws=some kws):kws.length=ws.length/\∀(i:Nat) w kw,ws[i]? =some w->kws[i]? =some kw->F [w] st= .ok kw st:=vN h
def Bl(b:Bool)(F:List Wv->Hs->Re Wv)(w:Wv)(st:Hs):Re Wv:=match w with
 | .ref l=>(match st[l]? with
  | some (.dct kvs)=>(match wKs (kvs.map (·.1)) with
   | some ws=>if ws.length < 64 then(match vP F st ws with
     | some kws=>(match mh kws with | some kk=> .ok (.ref st.length) (st++[.lst ((gO b kk).map λi=>ws.getD i .ay)]) | none=> .bad)
     | none=> .bad) else .bad
   | none=> .bad)
  | _=> .bad)
 | _=> .bad
def sf(b:Bool)(F:List Wv->Hs->Re Wv)(g:GE):GE:=λρ st=>(g ρ st).bind λw st1=>Bl b F w st1
def VI(K:PySem.W.Frag)(F:List Wv->Hs->Re Wv)(v:V)(H:Hp)(Q:VK):Prop:=∃m st w kw,aY K m st H/\af K m H w v/\F [w] st= .ok kw st/\BU K m H Q kw st
theorem jq.F8{P:YB}{w:YE}{K:PySem.W.Frag}{mg:Str->Option YD}{base:Heap}{k:Nat}{x:Str}{F:List Wv->Hs->Re Wv}(G:jq P w K mg base k x 1 F):∃f,mg x=some (.ref f)/\N9 P w K mg base k f (VI K F):=by
 obtain⟨f,fd,ps,F0,hm,hk,hb⟩:=G
 refine⟨f,hm,?_⟩
 intro A outer s H u v Q hr e0 rv sp
 obtain⟨m,st,w',kw,S,rw',el,ok⟩:=sp
 have Qh:spW K 1 F [v] H Q (λ_ _ _=>False):=⟨m,st,[w'],S,ae.cons rw' ae.nil,rfl,by rw[el];exact ok⟩
 have rs:Vals [v] [u]:=.cons rv .nil
 have hl:[u].length=ps.length:=by rw[<-rs.length];exact F0.len _ _ _ _ Qh
 have B6:K.In s.heap:=e0.mod.B6.keeps λb o e=>(e0.bs b o e).1
 have bd:=hb s [u] B6 (by rw[fc];exact hl)
 rw[fc] at bd
 refine wpAny_call (codeAny_mono (F0.run A outer s H ⟨[u],[]⟩ [u] [v] Q _ hr e0 bd rs Qh) λrr s2 hq=>?_)
 cases rr with
 | error x=>obtain⟨H2,C,fl,z⟩:=hq;exact z
 | ok fw=>
  cases fw with
  | ret u=>exact hq
  | next=>exact hq
  | brk=>exact hq
  | cont=>exact hq
section
variable {X:Cx}
theorem Ep{j:Nat}{fx:Str}{f:Yx}{F:List Wv->Hs->Re Wv}{b:Bool}{pins:List (Yx×Obj)}{σ:L2.St}{H:Hp}{m:Mp}{Q:VK}{w:Wv}{v:V}{st:Hs}{s:YC}{u:YD}{kw:List (Str×YD)}
  (hr:eT (j+2) X.A)(hc:X.calm=true)(kf:N9 X.prog X.w X.K X.mg X.base j f (VI X.K F))
  (ha1:∀l,argsOk "sorted" ⟨[.ref l],kw⟩)(ha2:∀x,argsOk "list.sort" ⟨[.ref x],kw⟩)(ht:∀x,Builtin.«list.sort» ⟨[.ref x],kw⟩=ksk_tree x (.ref f) b)
  (I:Inv X pins σ H s)(S0:aY X.K m st H)(rw':af X.K m H w v)(ru:RelV v u)(pq:dB X σ m H (Bl b F w st) Q) :
  YR (model X.prog X.w) X.A (call (.builtin "sorted") [u] kw) (EP X pins σ Q) X.xe s:=by
 unfold Bl at pq
 cases w with
 | ref l=>
  dsimp only at pq
  unfold af at rw'
  obtain⟨a,rfl,hla⟩:=rw'
  cases ru
  cases e0:st[l]? with
  | none=>rw[e0] at pq;exact aa pq
  | some ob=>
   rw[e0] at pq
   cases ob with
   | dct kvs=>
    dsimp only at pq
    obtain⟨xs,y1,y2⟩:=(show ∃ys,H a=some (.dK ys)/\RelK X.K m H kvs ys from S0.obj _ _ _ hla e0)
    cases el:wKs (kvs.map (·.1)) with
    | none=>rw[el] at pq;exact aa pq
    | some ws=>
     rw[el] at pq
     dsimp only at pq
     by_cases TX:ws.length < 64
     ·rw[if_pos TX] at pq
      cases ek:vP F st ws with
      | none=>rw[ek] at pq;exact aa pq
      | some kws=>
       rw[ek] at pq
       dsimp only at pq
       cases TY:mh kws with
       | none=>rw[TY] at pq;exact aa pq
       | some kk=>
        rw[TY] at pq
        dsimp only at pq
        obtain⟨gl,gk⟩:=Eo ek
        refine vO (b:=b) (ha1 a) ha2 ht hc kf hr I S0 (.inl y1) (by rw[<-y2.1];exact zw el) ⟨gl,λi w kw' e1 e2 H' m' v' Q' ex' S' TZ ok=>?_⟩ TY TX λp H' m' vs' hn ex' S' TZ=>?_
        ·exact⟨m',st,w,kw',S',TZ,gk i w kw' e1 e2,ok⟩
        ·exact pq (.ref p) (m'++[p]) _ (ex'.trans (Ext.more.trans (Ext.upd (.inl hn)))) (S'.alloc hn TZ) (S'.newest p _)
     ·rw[if_neg TX] at pq;exact aa pq
   | _=>exact aa pq
 | _=>exact aa pq
theorem IC{j:Nat}{x:Str}{p pos kp xp:Pos}{e:Expr}{g:GE}{F:List Wv->Hs->Re Wv}
  (hr:eT (j+2) X.A)(hc:X.calm=true)(hg:Gl X "sorted")(hm:X.mg "sorted"=none)(he:JE X e g)(hF:jq X.prog X.w X.K X.mg X.base j x 1 F)(hx:Gl X x)(hdb:(x == ("__debug__":Str))=false)
  (hs:YQ [e] X.env=[(false,eval e X.env)]):JE X (.Call (.Name "sorted" p) [e] [TU (.Name x xp) kp] pos) (sf false F g):=by
 intro ρ st σ H m Q S0 R pq pins s I
 unfold sf at pq
 obtain⟨f,Xg,kf⟩:=hF.F8
 have first:=he.go (T:=λv H1=>∃w st1 m1,dB X σ m H (Bl false F w st1) Q/\Ext X.K m H m1 H1/\aY X.K m1 st1 H1/\af X.K m1 H1 w v) S0 R (ao.bind pq) λw st1 v m1 H1 p1 e1 S1 r1=>⟨w,st1,m1,p1,e1,S1,r1⟩
 refine wpAny_Call_Name_kw (mR I hg hm Bk ?_ (by decide) (by decide))
 refine callWith_kw ?_ (by rw[hs];rfl) (by rw[hs];rfl)
 rw[hs]
 show YR _ _ (spliced ((false,eval e X.env)::[])) _ _ s
 refine pb (bg (first pins s I) λu s1 ⟨v,H1,I1,ru,w,st1,m1,p1,e1,S1,Xh⟩=>?_)
 refine wY ?_
 show YR _ _ (evalAll ((do let v <-eval (.Name x xp) X.env;standAt pos;pure v)::[])) _ _ s1
 refine wpAny_evalAll_cons (YS (lE I1 hx Xg ?_ hdb))
 refine YS (wpAny_standAt (YY (wpAny_evalAll_nil ?_)))
 exact Ep (b:=false) (kw:=[(lH "key",.ref f)]) (fx:=x) hr hc kf (λ_=>ksk_s1 _ _) (λ_=>ksk_l1 _ _) (λy=>ksk_t1 f y) I1 S1 Xh ru (dB.shift p1 e1)
end
theorem ID{P:YB}{w:YE}{k:L2.Key}{v:YD}(h:(bQ P w).is k v=true):RelV (kV k) v:=by
 rcases bY h with ⟨i,t,rfl,rfl⟩ | ⟨x,t,rfl,rfl⟩ | ⟨rfl,rfl⟩
 ·exact⟨t,rfl⟩
 ·exact⟨t,rfl⟩
 ·rfl
theorem Er{P:YB}{w:YE}:∀{xs:List (L2.Key×V)}{vs:List (L2.Key×YD)}{es:List DictEntry},KV xs vs->Pairs (bQ P w) es vs->es.length=xs.length/\∀(i:Nat)(e:DictEntry),es[i]? =some e->∃x,xs[i]? =some x/\RelV (kV x.1) e.key/\RelV x.2 e.val
 | [],_,_,.nil,.nil=>⟨rfl,λi e h=>by simp at h⟩
 | _::_,_,_,.cons r t,.cons h1 h2 p=>by
  obtain⟨i1,i2⟩:=Er t p
  refine⟨by simp[i1],λi e h=>?_⟩
  cases i with
  | zero=>
   cases h
   exact⟨_,rfl,by rw[r.1];exact ID h1,by rw[h2];exact r.2⟩
  | succ i=>exact i2 i e (by simpa using h)
theorem qj{P:YB}{w:YE}{H:Hp}{h:Heap}{a:Yx}{o:Obj}{xs:List (L2.Key×V)}(ok:iY P w H h)(e:H a=some (.eS o (.dK xs))) :
  ∃es ep,(a == sysModules)=false/\o.data= .dict es ep/\xN h a es ep/\es.size=xs.length/\∀(i:Nat)(hi:i < es.size),∃x,xs[i]? =some x/\RelV (kV x.1) es[i].key/\RelV x.2 es[i].val:=by
 obtain⟨ho,z,lo,vs,kv,o',es,ep,g1,g2,g3,_,g4,g5⟩:=ok a _ e
 rw[ho] at g1
 cases g1
 obtain⟨l1,l2⟩:=Er kv g4
 refine⟨es,ep,lo,g3,⟨o,ho,g2.1,g3⟩,by simpa using l1,λi hi=>l2 i es[i] ?_⟩
 simp[hi]
theorem MY{X:Cx}{pins:List (Yx×Obj)}{σ:St}{H:Hp}{s:YC}{a:Yx}{xs:List (L2.Key×V)}(I:Inv X pins σ H s)(e:H a=some (.dK xs)):∃o,s.heap.get? a=some o/\Inv X pins σ (upd H a (.eS o (.dK xs))) s:=by
 obtain⟨z,lo,vs,kv,o,es,ep,g1,g2⟩:=id (I.hok a _ e)
 exact⟨o,g1,ow (t':=s.toks) (h':=s.heap) I (by rw[e];exact lM) (Heap.SameBut.refl _ _) ⟨o,g1⟩ ⟨g1,z,lo,vs,kv,o,es,ep,g1,g2⟩⟩
def Oc(a:Yx)(o:Obj)(xs:List (L2.Key×V)):It :=
 ⟨λi H=>H a=some (.eS o (.dK xs))/\i < xs.length,λi H v H'=>∃p x,v= .ref p/\H p=none/\xs[i]? =some x/\H'=upd H p (.tup [kV x.1,x.2]),λi H=>H a=some (.eS o (.dK xs))/\xs.length<=i⟩
theorem vQ{P:YB}{w:YE}{K:PySem.W.Frag}{es':List Expr}{kt:Nat}{pt:Pos}(a it:Yx)(o:Obj)(xs:List (L2.Key×V)):Turn P w K (.Tuple es' kt pt) (Oc a o xs) [it] it (λi h=>∃es ep ok ov,o.data= .dict es ep/\IsItemIter h it a i es.size ep ok ov) where
 mem:=by simp
 obj:=λi h st b hb=>by
  obtain⟨es,ep,ok,ov,_,q1⟩:=st
  have e:b=it:=by simpa using hb
  subst e
  exact⟨_,q1,λv z=>by cases z⟩
 keep:=λi h h' st k=>let ⟨es,ep,ok,ov,hd,ki⟩:=st;⟨es,ep,ok,ov,hd,k it (by simp) _ ki⟩
 self:=λ_ _ _ _ _ st h=>let ⟨_,_,_,_,_,ki⟩:=st;PySem.W.kcp_self ki h
 item:=by
  intro X hP hw hK hc i pins s σ H E I hf st hg
  subst hP hw hK
  obtain⟨es,ep,ok,ov,hd,ki⟩:=st
  obtain⟨he,hi⟩:=hg
  obtain⟨Xi,Xj,lo,hd2,raw,sz,keys⟩:=qj I.hok he
  rw[hd] at hd2
  cases hd2
  have fi:=hf it (by simp)
  have hi':i < es.size:=by omega
  obtain⟨x,e1,e2,e4⟩:=keys i hi'
  refine Bf ki raw hi' λh' ho hT hsz hk=>?_
  refine⟨.ref s.heap.objs.size,rfl,?_⟩
  refine wpAny_letOwnedTupleGo_items ho λh2 Tt sb=>?_
  have hfr:H s.heap.objs.size=none:=I.hok.fresh (ak _)
  have lt:∀b o,s.heap.get? b=some o->b≠s.heap.objs.size:=λb o q=>bR (aL q)
  have Rf:it≠s.heap.objs.size:=lt _ _ ki
  have kp:∀b o,b≠it->s.heap.get? b=some o->h2.get? b=some o:=λb o b1 q=>(sb.2 b b1).trans (hk b o b1 q)
  have kt:∀b u,H b=some u->b≠s.heap.objs.size:=λb u q=>bp q hfr
  have ke:∀b u,H b=some u->b≠it:=λb u q=>bp q fi.1
  have T2:h2.get? s.heap.objs.size=some { cls:=.type "tuple",data:=.seq #[es[i].key,es[i].val] }:=(sb.2 _ (bt Rf)).trans hT
  refine⟨.ref s.heap.objs.size,upd H s.heap.objs.size (.tup [kV x.1,x.2]),?_,rfl,⟨s.heap.objs.size,x,rfl,hfr,e1,rfl⟩,⟨es,ep,_,_,hd,Tt⟩,λc hb=>?_⟩
  ·refine I.rn (s':={ s with heap:=h2 }) (ch:=[it]) rfl ?_ ?_ I.bare (λb hb=>⟨(hf b hb).2.2.2.1,(hf b hb).2.1,(hf b hb).2.2.2.2.1,(hf b hb).2.2.2.2.2⟩)
   ·refine⟨λb o q _ _ hx=>kp b o (λz=>hx (by simp[z])) q,λb o q _ _ hx=>⟨o.slots,kp b o (λz=>hx (by simp[z])) q⟩,λb o q n _=>by rw[ar (lt b o q)];exact n,λb o q hx=>⟨o,kp b o (λz=>hx (by simp[z])) q⟩,λb ys q=>by rw[ar (kt b _ q)];exact q,λb o y q=>by rw[ar (kt b _ q)];exact q,λb ps q=>⟨#[],by rw[ar (kt b _ q),q];simp⟩⟩
   ·intro c u q
    by_cases hb:c=s.heap.objs.size
    ·subst hb
     rw[aC] at q
     cases q
     exact⟨by show 2<=YO;decide,[es[i].key,es[i].val],.cons e2 (.cons e4 .nil),⟨_,T2,rfl,0,rfl⟩,λo q=>by rw[T2] at q;cases q;rfl⟩
    ·rw[ar hb] at q
     refine(I.hok c u q).stay (λc' v hc g=>?_) (λc' g=>by rw[ar (kt c' _ g)];exact g) λc' ys g=>by rw[ar (kt c' _ g)];exact g
     rcases hc with z | z
     ·subst z;exact kp _ _ (ke _ _ q) g
     ·exact kp _ _ (ke _ _ z) g
  ·have z:c=it:=by simpa using hb
   rw[z,ar Rf];exact fi.1
 done:=by
  intro X hP hw hK hc i pins s σ H E I hf st hg
  subst hP hw hK
  obtain⟨es,ep,ok,ov,hd,ki⟩:=st
  obtain⟨he,hi⟩:=hg
  obtain⟨Xi,Xj,lo,hd2,raw,sz,keys⟩:=qj I.hok he
  rw[hd] at hd2
  cases hd2
  obtain⟨f0,f1,f2,f3,f4,f5⟩:=hf it (by simp)
  exact Eb (I.ok.hd hc) ki raw (by omega) λh' eb=>⟨rfl,I.turned (t':=s.toks) (λb ob hb e=>eb b ob hb e) f0 f1 f3 f4 f5⟩
section
variable {X:Cx} {es':List Expr} {kt:Nat} {pt:Pos}
def IE(te:TE):TI:=λσ H R=>te σ H λx H1=>∃a xs,x= .ref a/\((H1 a=some (.dK xs)/\∀o,R (Oc a o xs) (upd H1 a (.eS o (.dK xs))))\/∃o,H1 a=some (.eS o (.dK xs))/\R (Oc a o xs) H1)
theorem sg{pins:List (Yx×Obj)}{σ:St}{H:Hp}{s:YC}{R:It->Hp->Prop}{E:YD->YC->Prop}{a:Yx}{o:Obj}{xs:List (L2.Key×V)}(I:Inv X pins σ H s)(e:H a=some (.eS o (.dK xs)))(r:R (Oc a o xs) H) :
  YR (model X.prog X.w) X.A (call (.builtin "dict.items") [.ref a]) (λv s1=>YR (model X.prog X.w) X.A (pyIter v) (Se X pins σ (.Tuple es' kt pt) R) E s1) E s:=by
 obtain⟨es,ep,lo,hd,raw,sz,keys⟩:=qj I.hok e
 refine Bd lo raw ?_
 obtain⟨o1,a1,a2,a3⟩:=raw
 refine Be (es:=es) (ep:=ep) ⟨_,cz _ rfl,rfl,rfl⟩ ⟨o1,aR _ a1,a2,a3⟩ ?_
 refine⟨_,[_],_,Oc a o xs,H,rfl,I.kept (t':=s.toks) λb ob q=>aR _ (aR _ q),vQ a _ o xs,⟨es,ep,_,_,hd,cz _ rfl⟩,λb hb=>?_,r⟩
 rw[List.mem_singleton.mp hb]
 exact I.oZ (by rw[tU];exact eK _) (I.hok.fresh (by rw[tU];exact eK _))
theorem Bm{e:Expr}{te:TE}{apos cpos:Pos}(he:PE X e te)(m:M0 X e "items" apos cpos):PI X (.Tuple es' kt pt) (.Call (.Attribute e "items" apos) [] [] cpos) (IE te):=by
 intro pins s σ H R I h
 refine wpAny_Call_method m.base rfl m.line PySem.F.plainAttrs_dict PySem.F.slot_dict_items PySem.F.type_dict_items (bg (he pins s σ H _ I h) λu s1 ⟨x,H1,I1,rx,a,xs,ex,q⟩=>?_)
 subst ex
 obtain rfl:u=bb a:=rx
 have d:Sx H1 a:=by
  rcases q with ⟨e1,_⟩ | ⟨o,e1,_⟩
  ·exact .inl ⟨xs,.inl e1⟩
  ·exact .inl ⟨xs,.inr ⟨o,e1⟩⟩
 obtain⟨t1,t2,_⟩:=CJ I1 d
 refine⟨t1,t2,xa rfl (show YR _ _ (evalArgs (lV "dict.items") true [] []) _ _ _ from ?_)⟩
 refine PyProof.Rows.evalArgs_none ?_
 rcases q with ⟨e1,k⟩ | ⟨o,e1,k⟩
 ·obtain⟨o,_,I2⟩:=MY I1 e1
  exact sg I2 aC (k o)
 ·exact sg I1 e1 k
def fV:List (L2.Key×Wv)->Option (List Wv)
 | []=>some []
 | kv::r=>(match wK kv.1,fV r with | some k,some l=>some (.tup [k,kv.2]::l) | _,_=>none)
def oK(w:Wv)(st:Hs):Re Ia:=match w with
 | .ref l=>(match st[l]? with
  | some (.dct kvs)=>(match fV kvs with | some ws=> .ok (none,ws) (st.set l (.BS kvs)) | none=> .bad)
  | _=> .bad)
 | _=> .bad
def iB(g:GE):BY:=λρ st=>(g ρ st).bind oK
theorem nV:∀{kvs:List (L2.Key×Wv)}{ws:List Wv},fV kvs=some ws->ws.length=kvs.length/\∀(i:Nat)(h:i < ws.length),∃kv k,kvs[i]? =some kv/\wK kv.1=some k/\ws[i]= .tup [k,kv.2]
 | [],ws,e=>by cases e;exact⟨rfl,λi h=>by cases h⟩
 | k::ks,ws,e=>by
  unfold fV at e
  cases q1:wK k.1 with
  | none=>rw[q1] at e;cases e
  | some ns=>
   cases q2:fV ks with
   | none=>rw[q1,q2] at e;cases e
   | some l=>
    rw[q1,q2] at e
    cases e
    obtain⟨h1,h2⟩:=nV q2
    refine⟨by simp[h1],λi h=>?_⟩
    cases i with
    | zero=>exact⟨k,ns,rfl,q1,rfl⟩
    | succ i=>exact h2 i (by simpa using h)
theorem Bn{m1:Mp}{H1:Hp}{a:Yx}{o:Obj}{kvs:List (L2.Key×Wv)}{xs:List (L2.Key×V)}{ws:List Wv}(e:H1 a=some (.eS o (.dK xs)))(r:RelK X.K m1 H1 kvs xs)(hk:fV kvs=some ws):xO X (none,ws) m1 H1 (Oc a o xs):=by
 obtain⟨l1,g1⟩:=nV hk
 have l2:ws.length=xs.length:=by rw[l1,r.length]
 refine⟨λk H m' st e' S c h=>⟨e'.eS _ _ _ e,by rw[<-l2];exact h⟩,λk H m' st e' S c h=>⟨e'.eS _ _ _ e,by rw[<-l2];exact lJ h.symm⟩,λk h H v H' m' st e' S c y=>?_⟩
 obtain⟨p,x,rfl,fr,y1,rfl⟩:=y
 obtain⟨kv,kw,f1,f2,f3⟩:=g1 k h
 obtain⟨u,f4,f5⟩:=vG r f1
 rw[y1] at f4
 cases f4
 have eU:Ext X.K m' H m' (upd H p (.tup [kV kv.1,u])):=Ext.iJ (.inl fr)
 refine⟨eU,S.fresh fr,?_⟩
 rw[f3]
 unfold af
 exact⟨p,_,rfl,aC,ae.cons (Em f2) (ae.cons (af.mono (e'.trans eU) _ _ f5) ae.nil)⟩
theorem xZ{e:Expr}{g:GE}{apos cpos:Pos}(h:JE X e g)(m:M0 X e "items" apos cpos):Ie X (.Tuple es' kt pt) (.Call (.Attribute e "items" apos) [] [] cpos) (iB g):=by
 refine⟨_,Bm aG m,λρ st σ H m Q S R p=>?_⟩
 refine h.go S R (ao.bind p) λw st1 v m1 H1 p1 e1 S1 rw'=>?_
 unfold oK at p1
 cases w with
 | ref l=>
  unfold af at rw'
  obtain⟨a,rfl,ha⟩:=rw'
  dsimp only at p1
  cases el:st1[l]? with
  | none=>rw[el] at p1;exact aa p1
  | some ob=>
   rw[el] at p1
   cases ob with
   | dct kvs=>
    dsimp only at p1
    cases ek:fV kvs with
    | none=>rw[ek] at p1;exact aa p1
    | some ws=>
     rw[ek] at p1
     obtain⟨xs,h1,h2⟩:=(show ∃ys,H1 a=some (.dK ys)/\RelK X.K m1 H1 kvs ys from S1.obj _ _ _ ha el)
     refine⟨a,xs,rfl,.inl ⟨h1,λo=>?_⟩⟩
     have ex:Ext X.K m1 H1 m1 (upd H1 a (.eS o (.dK xs))):=Ext.iJ (.inr (.inr (.inl ⟨_,h1⟩)))
     have S2:aY X.K m1 (st1.set l (.BS kvs)) (upd H1 a (.eS o (.dK xs))):=S1.pC ha el rfl ⟨o,xs,aC,h2.mono ex⟩
     exact p1 m1 _ _ (e1.trans ex) S2 trivial (Bn aC (h2.mono ex) ek)
   | _=>exact aa p1
 | _=>exact aa p1
end
section
variable {prog:YB} {w:YE} {A:Yy}
end
section
variable {X:Cx}
end
def Bo(x:Str):List Str->List Str
 | []=>[x]
 | y::r=>if xT y x=true then y::Bo x r else x::y::r
def mi:List Str->List Str
 | []=>[]
 | x::r=>Bo x (mi r)
theorem nh(x:Str):∀l,(Bo x l).Perm (x::l)
 | []=> .refl _
 | y::r=>by
  unfold Bo
  split
  ·exact((nh x r).cons y).trans (.swap x y r)
  ·exact .refl _
theorem fj:∀l,(mi l).Perm l
 | []=> .refl _
 | x::r=>(nh x _).trans ((fj r).cons x)
abbrev MZ(l:List Str):Prop:=l.Pairwise λa b=>xT b a=false
theorem zx(x:Str):∀l,MZ l->MZ (Bo x l)
 | [],_=>IF _ _
 | y::r,h=>by
  obtain⟨h1,h2⟩:=List.pairwise_cons.mp h
  unfold Bo
  split
  ·rename_i c
   refine List.pairwise_cons.mpr ⟨λz hz=>?_,zx x r h2⟩
   rcases List.mem_cons.mp ((nh x r).mem_iff.mp hz) with e | e
   ·rw[e];exact xU c
   ·exact h1 z e
  ·rename_i c
   have c:xT y x=false:=by simpa using c
   refine List.pairwise_cons.mpr ⟨λz hz=>?_,h⟩
   rcases List.mem_cons.mp hz with e | e
   ·rw[e];exact c
   ·exact xV (h1 z e) c
theorem t9:∀l,MZ (mi l)
 | []=> .nil
 | x::r=>zx x _ (t9 r)
theorem Es{a b:List Str}(h:a.Perm b)(ha:MZ a)(hb:MZ b):a=b:=xF (λ_ _ _ _ h1 h2=>Ef h2 h1) ha hb h
theorem Et:∀(l:List Str)(p:Str),risingS p l=true->MZ (p::l)
 | [],_,_=>IF _ _
 | x::r,p,h=>by
  unfold risingS at h
  rw[cL,ltCps_eq] at h
  have c:xT x p=false:=by have:=h.1;unfold xT;simpa using this
  have ih:=Et r x h.2
  refine List.pairwise_cons.mpr ⟨λz hz=>?_,ih⟩
  rcases List.mem_cons.mp hz with e | e
  ·rw[e];exact c
  ·exact xV ((List.pairwise_cons.mp ih).1 z e) c
theorem IG:∀{l:List Str},sortedS l=true->MZ l
 | [],_=> .nil
 | x::r,h=>Et r x h
theorem mj:∀{vs:List YD}{ns:List Str},StrsAre vs ns->Vals (ns.map V.str) vs
 | _,_,.nil=> .nil
 | _,_,.cons n t r=> .cons ⟨t,rfl⟩ (mj r)
section
variable {X:Cx}
theorem Bp:c9 X (.builtin "sorted") (λxs H Q=>∃(p:Yx)(ns:List Str),xs=[.ref p]/\iF X.K H p (ns.map V.str)/\ns.length < 64/\∀l,H l=none->Q (.ref l) (upd H l (.lst ((mi ns).map V.str)))):=by
 intro pins s σ H xs us Q I r h
 obtain⟨p,ns,rfl,hq,h64,q⟩:=h
 obtain⟨u,rfl,rx⟩:=vals1 r
 cases rx
 obtain⟨its,r',pl,hz⟩:=I.list hq
 have hlen:=r'.length
 rw[av] at hlen
 refine sorted_strs pl.isList (vt r') (by omega) λout ns' a1 a2 a3=>?_
 have e:ns'=mi ns:=Es (a2.trans (fj _).symm) (IG a3) (t9 _)
 subst e
 obtain⟨n,hat⟩:=sortedAll_at s.heap its out
 have hz':((mi ns).map V.str).length<=YO:=by
  rw[av,(fj _).length_eq]
  simpa using hz
 refine⟨.ref (s.heap.objs.size+1),_,I.laid (t':=s.toks) (λ_ _=>sortedAll_old) (eK _) (show cK X.prog X.w _ _ _ (.lst _) from⟨hz',out.toList,n,mj a1,?_⟩),rfl,q _ (I.hok.fresh (eK _))⟩
 rw[hat]
theorem qk{K:PySem.W.Frag}{m:Mp}{H:Hp}:∀{ns:List Str},(∀b∈ns,aE b=true)->ae K m H (ns.map Wv.str) (ns.map V.str)
 | [],_=>ae.nil
 | n::r,h=>ae.cons (by unfold af;exact⟨rfl,h n aP⟩) (qk λb hb=>h b (aJ _ hb))
def jA:List Wv->Hs->Re Wv
 | [.ref l],st=>match aj st l with
  | some ws=>(match intsOf ws with
   | some _=>DL [.ref l] st
   | none=>(match strsOf ws with | some ss=>if ss.length < 64 then .ok (.ref st.length) (st++[.lst ((mi ss).map Wv.str)]) else .bad | none=> .bad))
  | none=> .bad
 | _,_=> .bad
theorem IH:cA X (.builtin "sorted") jA:=by
 obtain⟨rr,h1,h2⟩:=ME (X:=X)
 refine⟨_,Bp.or h1,λws vs st H m Q S rs p=>?_⟩
 match ws,rs,p with
 | [],rs,p=>exact aa p
 | x::y::t,rs,p=>cases x<;>exact aa p
 | [x],rs,p=>
  cases x with
  | ref l=>
   have Xk:=rs
   obtain⟨v,rfl,r1⟩:=i_ rs
   unfold jA at p
   unfold af at r1
   obtain⟨a,rfl,hl⟩:=r1
   cases e:aj st l with
   | none=>simp only[e] at p;exact aa p
   | some ws=>
    simp only[e] at p
    cases e1:intsOf ws with
    | some ns=>rw[e1] at p;exact .inr (h2 [.ref l] [.ref a] st H m Q S Xk p)
    | none=>
     rw[e1] at p
     dsimp only at p
     cases e2:strsOf ws with
     | none=>rw[e2] at p;exact aa p
     | some ss=>
      rw[e2] at p
      dsimp only at p
      by_cases c:ss.length < 64
      ·rw[if_pos c] at p
       obtain⟨xs,q1,q2⟩:=S.read hl e
       obtain⟨y1,y2⟩:=pW q2 e2
       subst y1
       refine .inl ⟨a,ss,rfl,q1,c,λk hk=>?_⟩
       exact p (.ref k) (m++[k]) _ (Ext.more.trans (Ext.upd (.inl hk))) (S.alloc hk (qk λb hb=>y2 b ((fj ss).mem_iff.mp hb))) (S.newest k _)
      ·rw[if_neg c] at p;exact aa p
  | _=>exact aa p
end
structure Ct where
 N:List Str
 names:List (Str×YA)
 consts:List (Str×Wv)
 bl:List Str
 fns:List (Str×Nat×(List Wv->Hs->Re Wv))
 tb:Tab:=[]
 tt:ve:=[]
 clss:List Str:=[]
 x9:List Str:=[]
 tc:Tab:=[]
 Bq:List (Str×Dc):=[]
 Ro:List Str:=[]
 Ql:List Str:=[]
 II:List Str:=[]
 Eu:List Str:=[]
 loop:Bool:=true
 free:Bool:=true
 top:Bool:=true
 lam:Option (Lm×LF):=none
 BZ:List (Str×VA):=[]
 Rp:List Str:=[]
 lj:Nat:=0
 sk:Nat:=0
 F8:List Str:=[]
 self:Str:=""
def ml(x:Str):List Str->Option Nat
 | []=>none
 | y::r=>if x=y then some 0 else match ml x r with
  | some i=>some (i+1)
  | none=>none
theorem gG{x:Str}:∀{N:List Str}{i:Nat},ml x N=some i->N[i]? =some x
 | [],i,h=>by cases h
 | y::r,i,h=>by
  unfold ml at h
  by_cases e:x=y
  ·rw[if_pos e] at h;cases h;subst e;rfl
  ·rw[if_neg e] at h
   cases q:ml x r with
   | none=>rw[q] at h;cases h
   | some j=>rw[q] at h;cases h;simpa using gG q
def okN(x:Str):Bool:=!(x == ("__debug__":Str))&& !(x == ("__classdict__":Str))&& !(decide (x="__name__"))
theorem fR{x:Str}(h:okN x=true):(x == ("__debug__":Str))=false:=by unfold okN at h;revert h;cases (x == ("__debug__":Str))<;>simp
theorem Ew{x:Str}(h:okN x=true):(x == ("__classdict__":Str))=false:=by unfold okN at h;revert h;cases (x == ("__classdict__":Str))<;>simp
theorem Ex{x:Str}(h:okN x=true):x≠"__name__":=by
 intro e
 subst e
 unfold okN at h
 simp at h
def vR:List Wv->List V->Prop
 | [],[]=>True
 | .int i::r,.int j::t=>i=j/\vR r t
 | .str x::r,.str y::t=>(x=y/\aE x=true)/\vR r t
 | _,_=>False
theorem vR.rel{K:PySem.W.Frag}{m:Mp}{H:Hp}:∀{ws:List Wv}{vs:List V},vR ws vs->ae K m H ws vs
 | [],[],_=>ae.nil
 | .int i::r,.int j::t,h=>by
  obtain⟨rfl,h⟩:=h
  exact ae.cons (by unfold af;rfl) h.rel
 | .str x::r,.str y::t,h=>by
  obtain⟨⟨rfl,hx⟩,h⟩:=h
  exact ae.cons (by unfold af;exact⟨rfl,hx⟩) h.rel
 | [],_::_,h=>aa h
 | .int i::r,[],h=>aa h
 | .str i::r,[],h=>aa h
 | .int i::r,.str _::_,h=>aa h
 | .str i::r,.int _::_,h=>aa h
def Ey(K:PySem.W.Frag)(mg:Str->Option YD)(x:Str):Wv->Prop
 | .int i=>∃t,mg x=some (.int i t)
 | .str y=>(∃t,mg x=some (.str y t))/\aE y=true
 | .pB ws=>∃(a:Yx)(vs:List V)(o:Obj)(its:Array YD)(n:Nat),mg x=some (.ref a)/\K.lookup a=some o/\o.cls= .type "tuple"/\o.data= .seq its n/\its.size<=YO/\Vals vs its.toList/\vR ws vs
 | _=>False
structure Qm(c:Ct)(k:Nat)(X:Cx):Prop where
 lam:∀p L,c.lam=some (p,L)->D7 X.prog X.w X.K X.mg X.base k p 3 L
 BZ:∀x F,c.BZ.lookup x=some F->TF X.prog X.w X.K X.mg k c.lj x F
 M1:∀x n F,c.fns.lookup x=some (n,F)->c.Rp.contains x=true->∀base,Bb X.K X.mg base->jq X.prog X.w X.K X.mg base c.lj x n F
 at':c.top=true->c.self∈dv->∃P,J6 X c.self P
 sk:c.sk<=k
 Ka:∀x n F,c.fns.lookup x=some (n,F)->c.F8.contains x=true->jq X.prog X.w X.K X.mg X.base c.lj x n F
structure Good(c:Ct)(k:Nat)(X:Cx):Prop where
 N:X.N=c.N
 sc:X.env.scope.names=c.names
 nd:c.N.Nodup
 un:X.A.units+64 < cLine
 free:c.free=true->eT k X.A/\X.calm=true
 loop:c.loop=true->X.calm=true/\PassesOwn (model X.prog X.w) X.A X.env X.xe
 cst:∀x w,c.consts.lookup x=some w->Ey X.K X.mg x w
 bl:∀x,c.bl.contains x=true->X.mg x=none
 fns:∀x n F,c.fns.lookup x=some (n,F)->jq X.prog X.w X.K X.mg X.base k x n F
 stk:c.top=true->SN X
 fn:c.top=true->∀x,X.fn x=true
 kind:X.env.scope.kind= .function
 tab:TabOk X.K c.tb c.tt c.tc
 cls:∀x,c.clss.contains x=true->∃C,X.mg x=some (.ref C)/\Hz X.K x C
 x9:∀x,c.x9.contains x=true->∃C,X.mg x=some (.ref C)/\ClsAt X.K x C
 Bq:∀x kvs,c.Bq.lookup x=some kvs->m8 X.K X.w X.mg x kvs
 rm:rW k X.A
 Eu:∀x n F,c.Eu.contains x=true->c.fns.lookup x=some (n,F)->MO X.prog X.w X.K X.mg X.base k x n F
 x:Qm c k X
 fr:DC X
 hd:Mh X
theorem zy{k:Nat}{A:Yy}(hr:eT k A):A.units+64 < cLine:=by have:=hr.un;omega
def Ct.Kb(c:Ct):Ct:={ c with loop:=false }
def Ct.zE(c:Ct):Ct:={ c with loop:=false,free:=false }
theorem Good.body{c:Ct}{k:Nat}{X:Cx}(G:Good c k X)(hf:c.free=true)(pn:List (Yx×Obj))(E:YD->YC->Prop):Good c.Kb k (HC X X.A true pn E) :=
 ⟨G.N,G.sc,G.nd,G.un,λ_=>⟨(G.free hf).1,rfl⟩,(λz=>by cases z),G.cst,G.bl,G.fns,λz=>⟨(G.stk z).st,(G.stk z).fr,(G.stk z).ex⟩,G.fn,G.kind,G.tab,G.cls,G.x9,G.Bq,⟨G.rm.d,G.rm.u⟩,G.Eu,⟨G.x.lam,G.x.BZ,G.x.M1,λt m=>(G.x.at' t m).imp λP L=>⟨L.code,L.qual,L.tab,L.mem,L.uniq,L.bm⟩,G.x.sk,G.x.Ka⟩,G.fr,G.hd⟩
theorem Good.suite{c:Ct}{k:Nat}{X:Cx}(G:Good c k X){a:Yx}{o:Obj}{u:HO}(nx:AQ o)(pn:List (Yx×Obj))(E:YD->YC->Prop):Good c.zE k (Pz X a (.eS o u) pn E) :=
 ⟨G.N,G.sc,G.nd,G.un,(λz=>by cases z),(λz=>by cases z),G.cst,G.bl,G.fns,λz=>⟨(G.stk z).st,(G.stk z).fr,(G.stk z).ex⟩,G.fn,G.kind,G.tab,G.cls,G.x9,G.Bq,⟨G.rm.d,G.rm.u⟩,G.Eu,⟨G.x.lam,G.x.BZ,G.x.M1,λt m=>(G.x.at' t m).imp λP L=>⟨L.code,L.qual,L.tab,L.mem,L.uniq,L.bm⟩,G.x.sk,G.x.Ka⟩,G.fr,.inr ⟨a,o,u,rfl,nx,aC⟩⟩
theorem Ez:YH "ValueError"=some (.type "ValueError"):=by decide+kernel
theorem EA:YH "dict"=some (.type "dict"):=by decide+kernel
def IJ(x:Str):Option String :=
 if x="int" then some "int" else if x="str" then some "str" else if x="bool" then some "bool" else if x="tuple" then some "tuple" else if x="list" then some "list" else if x="ValueError" then some "ValueError" else if x="dict" then some "dict" else none
theorem IK{x:Str}{T:String}(h:IJ x=some T):YH x=some (.type T):=by
 unfold IJ at h
 by_cases e:x="int"
 ·rw[if_pos e] at h;cases h;subst e;exact u9
 rw[if_neg e] at h
 by_cases e:x="str"
 ·rw[if_pos e] at h;cases h;subst e;exact Di
 rw[if_neg e] at h
 by_cases e:x="bool"
 ·rw[if_pos e] at h;cases h;subst e;exact Dj
 rw[if_neg e] at h
 by_cases e:x="tuple"
 ·rw[if_pos e] at h;cases h;subst e;exact u_
 rw[if_neg e] at h
 by_cases e:x="list"
 ·rw[if_pos e] at h;cases h;subst e;exact va
 rw[if_neg e] at h
 by_cases e:x="ValueError"
 ·rw[if_pos e] at h;cases h;subst e;exact Ez
 rw[if_neg e] at h
 by_cases e:x="dict"
 ·rw[if_pos e] at h;cases h;subst e;exact EA
 rw[if_neg e] at h
 cases h
section
variable {X:Cx}
def Qn:gM:=λ_ _ _=> .bad
theorem M3{f:YD->YD->Sem YD}:jc X f Qn:=⟨λ_ _ _ _=>False,λ_ _ _ _ _ _ _ _ _ _ _ _ h=>h.elim,λ_ _ _ _ _ _ _ _ _ _ _ p=>p⟩
def Qo:Operator->gM
 | .Add=>ir
 | .Sub=>LY
 | .Mult=>fQ
 | .FloorDiv=>jk
 | .Mod=>oMod
 | .Pow=>pH
 | _=>Qn
theorem IL(o:Operator):jc X (YG o) (Qo o):=by
 cases o<;>first | exact L4 | exact LZ | exact D6 | exact Hf | exact L0 | exact L3 | exact M3
def x_:CmpOp->gM
 | .Eq=>oEq
 | .NotEq=>xm
 | .Lt=>oLt
 | .LtE=>oLe
 | .Gt=>Pa
 | .GtE=>SF
 | .Is=>N5
 | .IsNot=>J_
 | .In=>MH
 | .NotIn=>l7
theorem j0(hu:X.A.units+64 < cLine)(o:CmpOp):jc X (YK o) (x_ o):=by
 cases o<;>first | exact Pl hu | exact Pn hu | exact MW hu | exact MM hu | exact Pe | exact Pf | exact Pg | exact IB | exact MI | exact A5
def EB(c:Ct)(x:Str):GE:=if okN x=true then
  match c.names.lookup x with
  | some .local=>(match ml x c.N with | some i=>ai i | none=>bC)
  | some .cell=>(match ml x c.N with | some i=>ai i | none=>bC)
  | some .free=>(match ml x c.N with | some i=>ai i | none=>bC)
  | some .globalImplicit=>(match c.consts.lookup x with
   | some w=>gC w
   | none=>if c.clss.contains x=true then gC (.cls x) else if c.x9.contains x=true then gC (.cls x) else if c.bl.contains x=true then(match IJ x with | some T=>gC (.ty T) | none=>bC) else bC)
  | _=>bC
 else bC
theorem EC{c:Ct}{k:Nat}(G:Good c k X)(x:Str)(pos:Pos):JE X (.Name x pos) (EB c x):=by
 unfold EB
 by_cases hx:okN x=true
 ·rw[if_pos hx]
  cases e:c.names.lookup x with
  | none=>exact ax
  | some kd=>
   have el:X.env.scope.names.lookup x=some kd:=by rw[G.sc];exact e
   cases kd with
   | «local»=>
    dsimp only
    cases e2:ml x c.N with
    | none=>exact ax
    | some i=>exact xj i (by rw[G.N];exact gG e2) (Or.inl el) (fR hx) (Ew hx)
   | cell=>
    dsimp only
    cases e2:ml x c.N with
    | none=>exact ax
    | some i=>exact xj i (by rw[G.N];exact gG e2) (jQ (Or.inl el)) (fR hx) (Ew hx)
   | free=>
    dsimp only
    cases e2:ml x c.N with
    | none=>exact ax
    | some i=>exact xj i (by rw[G.N];exact gG e2) (jQ (jQ el)) (fR hx) (Ew hx)
   | globalImplicit=>
    dsimp only
    have hg:Gl X x:=el
    cases e2:c.consts.lookup x with
    | some w=>
     have q:=G.cst x w e2
     cases w with
     | int i=>obtain⟨t,q⟩:=q;exact CT hg q (fR hx)
     | str y=>obtain⟨⟨t,q⟩,z⟩:=q;exact CU hg q z (fR hx)
     | pB ws=>
      obtain⟨a,vs,o,its,n,q1,q2,q3,q4,q5,q6,q7⟩:=q
      exact JE.of (fS (v:=.ref a) hg q1 rfl (fR hx)) λρ st σ H m Q S R p=>p (.ref a) m H Ext.refl S (by unfold af;exact⟨a,vs,rfl,⟨o,its,n,q2,q3,q4,q5,q6⟩,q7.rel⟩)
     | _=>exact aa q
    | none=>
     dsimp only
     by_cases e5:c.clss.contains x=true
     ·rw[if_pos e5]
      obtain⟨C,q1,q2⟩:=G.cls x e5
      exact JE.of (fS (v:=.ref C) hg q1 rfl (fR hx)) λρ st σ H m Q S R p=>p (.ref C) m H Ext.refl S (by unfold af;exact⟨C,rfl,q2.cls⟩)
     rw[if_neg e5]
     by_cases e6:c.x9.contains x=true
     ·rw[if_pos e6]
      obtain⟨C,q1,q2⟩:=G.x9 x e6
      exact JE.of (fS (v:=.ref C) hg q1 rfl (fR hx)) λρ st σ H m Q S R p=>p (.ref C) m H Ext.refl S (by unfold af;exact⟨C,rfl,q2⟩)
     rw[if_neg e6]
     by_cases e3:c.bl.contains x=true
     ·rw[if_pos e3]
      cases e4:IJ x with
      | none=>exact ax
      | some T=>exact O3 hg (G.bl x e3) (IK e4) (Ex hx) (fR hx)
     ·rw[if_neg e3];exact ax
   | _=>exact ax
 ·rw[if_neg hx];exact ax
def ED:Const->GE
 | .none=>gC .ay
 | .bool b=>gC (.bl b)
 | .int i=>gC (.int i)
 | .str x=>if aE x=true then gC (.str x) else bC
 | _=>bC
theorem Br(k:Const)(j:Nat)(pos:Pos):JE X (.Constant k j pos) (ED k):=by
 cases k with
 | none=>exact LM
 | bool b=>exact O2
 | int i=>exact LL
 | str x=>
  show JE X _ (if aE x=true then gC (.str x) else bC)
  by_cases h:aE x=true
  ·rw[if_pos h];exact LN h
  ·rw[if_neg h];exact ax
 | _=>exact ax
def plain:Expr->Bool
 | .Starred .. =>false
 | _=>true
theorem aA{e:Expr}{es:List Expr}{env:Env}(h:plain e=true):YQ (e::es) env=(false,eval e env)::YQ es env:=by
 cases e<;>first | rfl | cases h
theorem gj{pos:Pos}{env:Env}:∀{es:List Expr},es.all plain=true->(backTo pos (YQ es env)).any (·.1)=false
 | [],_=>rfl
 | e::es,h=>by
  rw[eI,cL] at h
  rw[aA h.1]
  have q:=gj (pos:=pos) (env:=env) h.2
  unfold backTo at q ⊢
  rw[aH,fM,q]
  rfl
def kH(f:Expr->GE):List Expr->GA
 | []=>au
 | e::es=>ag (f e) (kH f es)
theorem fW{f:Expr->GE}(h:∀e,JE X e (f e)):∀es:List Expr,es.all plain=true->JA X es (kH f es)
 | [],_=>tF
 | e::es,g=>by
  rw[eI,cL] at g
  exact oz (h e) (fW h es g.2) (aA g.1)
def Rq(c:Ct)(x:Str):Option (YD×(List Wv->Hs->Re Wv)) :=
 if x="len" then some (.builtin "len",lS) else if x="abs" then some (.builtin "abs",C6) else if x="isinstance" then some (.builtin "isinstance",jr c.tb c.tt) else if x="int" then some (.type "int",rR) else if x="list"/\c.free=true then some (.type "list",qd) else if x="tuple" then some (.type "tuple",pS) else if x="max"/\c.free=true then some (.builtin "max",l5) else if x="min"/\c.free=true then some (.builtin "min",l6) else if x="sum"/\c.free=true then some (.builtin "sum",xC) else if x="sorted"/\c.free=true then some (.builtin "sorted",jA) else none
theorem Bs:YH "max"=some (.builtin "max"):=by decide+kernel
theorem Bt:YH "min"=some (.builtin "min"):=by decide+kernel
theorem Bu:YH "sum"=some (.builtin "sum"):=by decide+kernel
theorem Bv:YH "sorted"=some (.builtin "sorted"):=by decide+kernel
theorem M4{c:Ct}{x:Str}{v:YD}{op:List Wv->Hs->Re Wv}(O:TabOk X.K c.tb c.tt c.tc)(hc:c.free=true->X.calm=true)(h:Rq c x=some (v,op)):YH x=some v/\cA X v op/\((∃id,v= .builtin id)\/∃T,v= .type T):=by
 unfold Rq at h
 by_cases e:x="len"
 ·rw[if_pos e] at h;cases h;subst e;exact⟨AK,L7,.inl ⟨_,rfl⟩⟩
 rw[if_neg e] at h
 by_cases e:x="abs"
 ·rw[if_pos e] at h;cases h;subst e;exact⟨AJ,L8,.inl ⟨_,rfl⟩⟩
 rw[if_neg e] at h
 by_cases e:x="isinstance"
 ·rw[if_pos e] at h;cases h;subst e;exact⟨Dh,Mf O,.inl ⟨_,rfl⟩⟩
 rw[if_neg e] at h
 by_cases e:x="int"
 ·rw[if_pos e] at h;cases h;subst e;exact⟨u9,HQ,.inr ⟨_,rfl⟩⟩
 rw[if_neg e] at h
 by_cases e:x="list"/\c.free=true
 ·rw[if_pos e] at h;cases h;obtain⟨rfl,e2⟩:=e;exact⟨va,DV (hc e2),.inr ⟨_,rfl⟩⟩
 rw[if_neg e] at h
 by_cases e:x="tuple"
 ·rw[if_pos e] at h;cases h;subst e;exact⟨u_,MC,.inr ⟨_,rfl⟩⟩
 rw[if_neg e] at h
 by_cases e:x="max"/\c.free=true
 ·rw[if_pos e] at h;cases h;obtain⟨rfl,e2⟩:=e;exact⟨Bs,HM (hc e2),.inl ⟨_,rfl⟩⟩
 rw[if_neg e] at h
 by_cases e:x="min"/\c.free=true
 ·rw[if_pos e] at h;cases h;obtain⟨rfl,e2⟩:=e;exact⟨Bt,HN (hc e2),.inl ⟨_,rfl⟩⟩
 rw[if_neg e] at h
 by_cases e:x="sum"/\c.free=true
 ·rw[if_pos e] at h;cases h;obtain⟨rfl,e2⟩:=e;exact⟨Bu,MD (hc e2),.inl ⟨_,rfl⟩⟩
 rw[if_neg e] at h
 by_cases e:x="sorted"/\c.free=true
 ·rw[if_pos e] at h;cases h;obtain⟨rfl,e2⟩:=e;exact⟨Bv,IH,.inl ⟨_,rfl⟩⟩
 rw[if_neg e] at h
 cases h
def ya(c:Ct)(fE:Expr->GE)(x:Str)(es:List Expr):GE:=if okN x=true/\es.all plain=true/\c.names.lookup x=some .globalImplicit then
   (match c.fns.lookup x with
   | some (n,F)=>if c.free=true then a_ n F (kH fE es) else bC
   | none=>if c.bl.contains x=true then(match Rq c x with | some (_,op)=>aQ op (kH fE es) | none=>bC) else bC)
  else bC
def EE(fE:Expr->GE)(o:Expr)(name:Str)(e:Expr)(apos cpos:Pos):GE:=if plain e=true/\(apos.endLine == cpos.line)=true then
   (if name="append" then dE iL (fE o) (fE e) else bC)
  else bC
def yb(fE:Expr->GE)(o:Expr)(name:Str)(e:Expr)(apos cpos:Pos):GE:=if plain e=true/\(apos.endLine == cpos.line)=true then
   (if name="count" then dE tW (fE o) (fE e) else if name="index" then kT (dE dY (fE o) (fE e)) (jy fU (fE o) (fE e)) else bC)
  else bC
theorem Bw{fE:Expr->GE}(h:∀e,JE X e (fE e))(x name:Str)(e:Expr)(p apos cpos:Pos):JE X (.Call (.Attribute (.Name x p) name apos) [e] [] cpos) (yb fE (.Name x p) name e apos cpos):=by
 unfold yb
 by_cases g:plain e=true/\(apos.endLine == cpos.line)=true
 ·rw[if_pos g]
  by_cases n1:name="count"
  ·rw[if_pos n1]
   subst n1
   exact tR A9 PySem.F.slot_list_count PySem.F.type_list_count (h _) (h e) (aA g.1) g.2
  rw[if_neg n1]
  by_cases n2:name="index"
  ·rw[if_pos n2]
   subst n2
   exact xB (tR rT PySem.F.slot_list_index PySem.F.type_list_index (h _) (h e) (aA g.1) g.2) (vE rZ PySem.F.slot_tuple_index PySem.F.type_tuple_index rfl (h _) (h e) (aA g.1) g.2)
  rw[if_neg n2]
  exact ax
 ·rw[if_neg g];exact ax
def yc:Expr->Bool
 | .Name .. =>true
 | .Constant (.str _) _ _=>true
 | .Subscript .. =>true
 | _=>false
def jB(fE:Expr->GE)(o:Expr)(name:Str)(es:List Expr)(apos cpos:Pos):GE:=if yc o=true/\es.all plain=true/\es.length < 20/\(apos.endLine == cpos.line)=true then
   (if name="index" then kW kX (fE o) (kH fE es) else bC)
  else bC
theorem IM{o:Expr}{name:Str}{env:Env}(h:yc o=true):attributeBase o name env (eval o env)=eval o env:=by
 cases o with
 | Constant k j p=>cases k<;>first | rfl | cases h
 | _=>first | rfl | cases h
theorem all_plain{pos:Pos}{env:Env}:∀{es:List Expr},es.all plain=true->(backTo pos (YQ es env)).all (λx=> !x.1)=true
 | [],_=>rfl
 | e::es,h=>by
  rw[eI,cL] at h
  rw[aA h.1]
  have q:=all_plain (pos:=pos) (env:=env) h.2
  unfold backTo at q ⊢
  rw[aH,eI,q]
  rfl
theorem gn{fE:Expr->GE}(h:∀e,JE X e (fE e))(o:Expr)(name:Str)(e:Expr)(es:List Expr)(apos cpos:Pos):JE X (.Call (.Attribute o name apos) (e::es) [] cpos) (jB fE o name (e::es) apos cpos):=by
 unfold jB
 by_cases g:yc o=true/\(e::es).all plain=true/\(e::es).length < 20/\(apos.endLine == cpos.line)=true
 ·rw[if_pos g]
  obtain⟨g1,g2,g3,g4⟩:=g
  have gp:plain e=true/\es.all plain=true:=by rw[eI,cL] at g2;exact g2
  have hfew:((backTo cpos (YQ (e::es) X.env)).all (λx=> !x.1)&&(backToKw cpos (keywordEach [] X.env)).all (λx=>x.1.isSome)&&decide ((e::es).length+([]:List Keyword).length+(if([]:List Keyword).isEmpty then 0 else 1) < 30))=true:=by
   rw[all_plain g2]
   have g5:(e::es).length+([]:List Keyword).length+(if([]:List Keyword).isEmpty then 0 else 1) < 30:=by
    show(e::es).length+0+0 < 30
    omega
   rw[decide_eq_true g5]
   rfl
  by_cases n1:name="index"
  ·rw[if_pos n1]
   subst n1
   exact DM DQ PySem.F.slot_str_index PySem.F.type_str_index (h o) (fW h (e::es) g2) (IM g1) hfew g4 (aA gp.1) (gj gp.2)
  rw[if_neg n1]
  exact ax
 ·rw[if_neg g];exact ax
def Kc(fE:Expr->GE)(o:Expr)(e f:Expr)(apos cpos:Pos):GE:=bC
theorem EF{c:Ct}{k:Nat}(G:Good c k X){fE:Expr->GE}(h:∀e,JE X e (fE e))(o:Expr)(ho:attributeBase o "get" X.env (eval o X.env)=eval o X.env)(e f:Expr)(apos cpos:Pos):JE X (.Call (.Attribute o "get" apos) [e,f] [] cpos) (Kc fE o e f apos cpos):=by
 exact ax
def mq(c:Ct)(x:Str):Option Dc:=if okN x=true/\c.names.lookup x=some .globalImplicit then c.Bq.lookup x else none
theorem j3{c:Ct}{k:Nat}(G:Good c k X){x:Str}{kvs:Dc}(h:mq c x=some kvs):Gl X x/\(x == ("__debug__":Str))=false/\m8 X.K X.w X.mg x kvs:=by
 unfold mq at h
 by_cases g:okN x=true/\c.names.lookup x=some .globalImplicit
 ·rw[if_pos g] at h
  refine⟨?_,fR g.1,G.Bq x kvs h⟩
  show X.env.scope.names.lookup x=_
  rw[G.sc];exact g.2
 ·rw[if_neg g] at h;cases h
def oM:Expr->Bool
 | .Call (.Name _ _) (_::_) [] _=>true
 | _=>false
theorem EG{o:Expr}{name:Str}{env:Env}(h:oM o=true):attributeBase o name env (eval o env)=eval o env:=by
 unfold oM at h
 split at h
 ·rfl
 ·cases h
def oN:Expr->Bool
 | .Subscript .. =>true
 | _=>false
theorem EH{o:Expr}{name:Str}{env:Env}(h:oN o=true):attributeBase o name env (eval o env)=eval o env:=by
 unfold oN at h
 split at h
 ·rfl
 ·cases h
def t_(fE:Expr->GE)(o e:Expr)(apos cpos:Pos):GE:=if plain e=true/\(apos.endLine == cpos.line)=true then
   (if oM o=true then dE dY (fE o) (fE e) else if oN o=true then jy fU (fE o) (fE e) else bC)
  else bC
theorem yd{fE:Expr->GE}(h:∀e,JE X e (fE e))(o e:Expr)(apos cpos:Pos):JE X (.Call (.Attribute o "index" apos) [e] [] cpos) (t_ fE o e apos cpos):=by
 unfold t_
 by_cases g:plain e=true/\(apos.endLine == cpos.line)=true
 ·rw[if_pos g]
  by_cases b1:oM o=true
  ·rw[if_pos b1]
   exact vC rT PySem.F.slot_list_index PySem.F.type_list_index (EG b1) (h o) (h e) (aA g.1) g.2
  rw[if_neg b1]
  by_cases b2:oN o=true
  ·rw[if_pos b2]
   exact vE rZ PySem.F.slot_tuple_index PySem.F.type_tuple_index (EH b2) (h o) (h e) (aA g.1) g.2
  rw[if_neg b2]
  exact ax
 ·rw[if_neg g];exact ax
def ye(c:Ct)(fE:Expr->GE)(x:Str)(p:Pos)(e f:Expr)(apos cpos:Pos):GE:=if c.Ql.contains x=true/\plain e=true/\plain f=true/\(apos.endLine == cpos.line)=true then jz (fE (.Name x p)) (fE e) (fE f) else bC
theorem Bx{c:Ct}{k:Nat}(G:Good c k X){fE:Expr->GE}(h:∀e,JE X e (fE e))(x:Str)(p:Pos)(e f:Expr)(apos cpos:Pos):JE X (.Call (.Attribute (.Name x p) "setdefault" apos) [e,f] [] cpos) (ye c fE x p e f apos cpos):=by
 unfold ye
 by_cases g:c.Ql.contains x=true/\plain e=true/\plain f=true/\(apos.endLine == cpos.line)=true
 ·rw[if_pos g]
  obtain⟨_,g1,g2,g3⟩:=g
  refine El (h _) (h e) (h f) ⟨rfl,?_,g3,?_⟩
  ·rw[all_plain (es:=[e,f]) (by simp[g1,g2])]
   rfl
  ·rw[aA g1,aA g2]
   rfl
 ·rw[if_neg g];exact ax
def zF(c:Ct)(fE:Expr->GE)(cpos:Pos):Expr->List Expr->List Keyword->GE
 | .Name x _,e::es,[]=>ya c fE x (e::es)
 | .Attribute (.Name x p) name apos,[e],[]=>if name="append"\/name="extend" then EE fE (.Name x p) name e apos cpos else if name="count"\/name="index" then kT (jB fE (.Name x p) name [e] apos cpos) (yb fE (.Name x p) name e apos cpos) else jB fE (.Name x p) name [e] apos cpos
 | .Attribute (.Name x p) name apos,[e,f],[]=>if name="get" then(match mq c x with | some kvs=>(if plain e=true/\plain f=true/\(apos.endLine == cpos.line)=true then D3 kvs (fE e) (fE f) else bC) | none=>Kc fE (.Name x p) e f apos cpos) else if name="setdefault" then ye c fE x p e f apos cpos else jB fE (.Name x p) name [e,f] apos cpos
 | .Attribute o name apos,[e],[]=>if name="append"/\xY o=true/\plain e=true/\(apos.endLine == cpos.line)=true then dE iL (fE o) (fE e) else if name="index" then kT (jB fE o name [e] apos cpos) (t_ fE o e apos cpos) else jB fE o name [e] apos cpos
 | .Attribute o name apos,e::es,[]=>jB fE o name (e::es) apos cpos
 | _,_,_=>bC
theorem By{c:Ct}{k:Nat}(G:Good c k X){fE:Expr->GE}(h:∀e,JE X e (fE e))(x:Str)(e:Expr)(es:List Expr)(p pos:Pos):JE X (.Call (.Name x p) (e::es) [] pos) (ya c fE x (e::es)):=by
 unfold ya
 by_cases g:okN x=true/\(e::es).all plain=true/\c.names.lookup x=some .globalImplicit
 ·rw[if_pos g]
  obtain⟨g1,g2,g3⟩:=g
  have hg:Gl X x:=by
   show X.env.scope.names.lookup x=_
   rw[G.sc];exact g3
  have gp:plain e=true/\es.all plain=true:=by rw[eI,cL] at g2;exact g2
  have ha:=fW h (e::es) g2
  cases e1:c.fns.lookup x with
  | some nF=>
   obtain⟨n,F⟩:=nF
   dsimp only
   by_cases cf:c.free=true
   ·rw[if_pos cf]
    obtain⟨a,fd,ps,G1,G2,G3,G4⟩:=G.fns x n F e1
    exact Hu G1 (G.free cf).1 G2 G3 G4 ha hg (fR g1) (aA gp.1) (gj gp.2)
   ·rw[if_neg cf]
    exact ax
  | none=>
   dsimp only
   by_cases e3:c.bl.contains x=true
   ·rw[if_pos e3]
    cases e4:Rq c x with
    | none=>exact ax
    | some io=>
     obtain⟨v,op⟩:=io
     obtain⟨b1,b2,b3⟩:=M4 (X:=X) G.tab (λz=>(G.free z).2) e4
     rcases b3 with ⟨id,rfl⟩ | ⟨T,rfl⟩
     ·exact C5 b2 hg (G.bl x e3) b1 ha (Ex g1) (fR g1) (aA gp.1) (gj gp.2)
     ·exact AF b2 hg (G.bl x e3) b1 ha (Ex g1) (fR g1) (aA gp.1) (gj gp.2)
   ·rw[if_neg e3]
    exact ax
 ·rw[if_neg g];exact ax
theorem EI{fE:Expr->GE}(h:∀e,JE X e (fE e))(x name:Str)(e:Expr)(p apos cpos:Pos):JE X (.Call (.Attribute (.Name x p) name apos) [e] [] cpos) (EE fE (.Name x p) name e apos cpos):=by
 unfold EE
 by_cases g:plain e=true/\(apos.endLine == cpos.line)=true
 ·rw[if_pos g]
  by_cases n1:name="append"
  ·rw[if_pos n1]
   subst n1
   exact tR tQ PySem.F.slot_list_append PySem.F.type_list_append (h _) (h e) (aA g.1) g.2
  rw[if_neg n1]
  exact ax
 ·rw[if_neg g];exact ax
theorem EJ{c:Ct}{k:Nat}(G:Good c k X){fE:Expr->GE}(h:∀e,JE X e (fE e))(f:Expr)(as:List Expr)(ks:List Keyword)(pos:Pos):JE X (.Call f as ks pos) (zF c fE pos f as ks):=by
 unfold zF
 split
 ·exact By G h _ _ _ _ _
 ·rename_i x p name apos e
  by_cases g:name="append"\/name="extend"
  ·rw[if_pos g];exact EI h _ _ _ _ _ _
  ·rw[if_neg g]
   by_cases g2:name="count"\/name="index"
   ·rw[if_pos g2];exact xB (gn h _ _ _ _ _ _) (Bw h _ _ _ _ _ _)
   ·rw[if_neg g2];exact gn h _ _ _ _ _ _
 ·rename_i x p name apos e f
  by_cases g:name="get"
  ·rw[if_pos g]
   subst g
   cases ed:mq c x with
   | none=>exact EF G h _ rfl _ _ _ _
   | some kvs=>
    dsimp only
    by_cases g:plain e=true/\plain f=true/\(apos.endLine == pos.line)=true
    ·rw[if_pos g]
     obtain⟨g1,g2,g3⟩:=g
     obtain⟨q1,q2,q3⟩:=j3 G ed
     refine D4 (h e) (h f) ⟨rfl,?_,g3,?_⟩ q1 q2 q3
     ·rw[all_plain (es:=[e,f]) (by simp[g1,g2])]
      rfl
     ·rw[aA g1,aA g2]
      rfl
    ·rw[if_neg g];exact ax
  ·rw[if_neg g]
   by_cases g4:name="setdefault"
   ·rw[if_pos g4];subst g4;exact Bx G h _ _ _ _ _ _
   ·rw[if_neg g4];exact gn h _ _ _ _ _ _
 ·rename_i o name apos e _
  by_cases ga:name="append"/\xY o=true/\plain e=true/\(apos.endLine == pos.line)=true
  ·rw[if_pos ga];obtain⟨rfl,g0,g1,g2⟩:=ga;exact vC tQ PySem.F.slot_list_append PySem.F.type_list_append (r_ g0) (h _) (h e) (aA g1) g2
  rw[if_neg ga]
  by_cases g:name="index"
  ·rw[if_pos g];subst g;exact xB (gn h _ _ _ _ _ _) (yd h _ _ _ _)
  ·rw[if_neg g];exact gn h _ _ _ _ _ _
 ·exact gn h _ _ _ _ _ _
 ·exact ax
def Bz:Expr->Bool
 | .Slice .. =>true
 | _=>false
def EK(f:Expr->GE):Option Expr->GO
 | none=>gT
 | some e=>kF (f e)
theorem zG{f:Expr->GE}(h:∀e,JE X e (f e))(o:Option Expr):JO X o (EK f o):=by
 cases o with
 | none=>exact Hk
 | some e=>exact Hl (h e)
def IP(f:Expr->GE)(a:Expr):Expr->GE
 | .Slice lo hi none _=>ft (f a) (EK f lo) (EK f hi)
 | .Slice .. =>bC
 | b=>az mM (f a) (f b)
theorem EL{f:Expr->GE}(h:∀e,JE X e (f e))(a b:Expr)(pos:Pos):JE X (.Subscript a b pos) (IP f a b):=by
 unfold IP
 split
 ·exact A4 (h a) (zG h _) (zG h _)
 ·exact ax
 ·rename_i n1 n2
  refine Pq (h a) (h b) ?_
  intro o i
  cases b<;>first | rfl | (rename_i lo hi st p;exact(n2 _ _ _ _ rfl).elim)
def EM(f:Expr->GE)(a:Expr):List CmpOp->List Expr->GE
 | [o],[b]=>if YF o b=false then az (x_ o) (f a) (f b) else bC
 | [o,o'],[b,b']=>if lastMarks [o,o'] [b,b']=false then pF (x_ o) (x_ o') (f a) (f b) (f b') else bC
 | _,_=>bC
theorem yf(hu:X.A.units+64 < cLine){f:Expr->GE}(h:∀e,JE X e (f e))(a:Expr)(os:List CmpOp)(bs:List Expr)(pos:Pos):JE X (.Compare a os bs pos) (EM f a os bs):=by
 unfold EM
 split
 ·rename_i o b
  by_cases g:YF o b=false
  ·rw[if_pos g];exact xk (j0 hu o) (h a) (h b) g
  ·rw[if_neg g];exact ax
 ·rename_i o o' b b'
  by_cases g:lastMarks [o,o'] [b,b']=false
  ·rw[if_pos g];exact CV (j0 hu o) (j0 hu o') (h a) (h b) (h b') g
  ·rw[if_neg g];exact ax
 ·exact ax
def EN(f:Expr->GE)(a:Expr):List CmpOp->List Expr->GT
 | [o],[b]=>if YF o b=false then c_ (az (x_ o) (f a) (f b)) else jn
 | [o,o'],[b,b']=>if lastMarks [o,o'] [b,b']=false then c_ (pF (x_ o) (x_ o') (f a) (f b) (f b')) else jn
 | _,_=>jn
theorem ua(hu:X.A.units+64 < cLine){f:Expr->GE}(h:∀e,JE X e (f e))(a:Expr)(os:List CmpOp)(bs:List Expr)(pos:Pos):JT X (.Compare a os bs pos) (EN f a os bs):=by
 unfold EN
 split
 ·rename_i o b
  by_cases g:YF o b=false
  ·rw[if_pos g];exact xl (j0 hu o) (h a) (h b) g
  ·rw[if_neg g];exact jo
 ·rename_i o o' b b'
  by_cases g:lastMarks [o,o'] [b,b']=false
  ·rw[if_pos g];exact CW (j0 hu o) (j0 hu o') (h a) (h b) (h b') g
  ·rw[if_neg g];exact jo
 ·exact jo
def M5(c:Ct)(f:Expr->GE)(a:Expr):List CmpOp->List Expr->GE
 | [.In],[.Name x p]=>(match mq c x with | some kvs=>l_ false kvs (f a) | none=>if c.II.contains x=true then(if YF .In (.Name x p)=false then az (oa false) (f a) (f (.Name x p)) else bC) else EM f a [.In] [.Name x p])
 | [.NotIn],[.Name x p]=>(match mq c x with | some kvs=>l_ true kvs (f a) | none=>if c.II.contains x=true then(if YF .NotIn (.Name x p)=false then az (oa true) (f a) (f (.Name x p)) else bC) else EM f a [.NotIn] [.Name x p])
 | os,bs=>EM f a os bs
theorem IQ{c:Ct}{k:Nat}(G:Good c k X){f:Expr->GE}(h:∀e,JE X e (f e))(a:Expr)(os:List CmpOp)(bs:List Expr)(pos:Pos):JE X (.Compare a os bs pos) (M5 c f a os bs):=by
 unfold M5
 split
 ·rename_i x p
  cases e:mq c x with
  | none=>
   dsimp only
   by_cases gd:c.II.contains x=true
   ·rw[if_pos gd]
    by_cases gm:YF .In (.Name x p)=false
    ·rw[if_pos gm];exact xk (D9 G.un) (h a) (h _) gm
    ·rw[if_neg gm];exact ax
   ·rw[if_neg gd];exact yf G.un h a _ _ pos
  | some kvs=>obtain⟨g1,g2,g3⟩:=j3 G e;exact HR (h a) g1 g2 g3
 ·rename_i x p
  cases e:mq c x with
  | none=>
   dsimp only
   by_cases gd:c.II.contains x=true
   ·rw[if_pos gd]
    by_cases gm:YF .NotIn (.Name x p)=false
    ·rw[if_pos gm];exact xk (r0 G.un) (h a) (h _) gm
    ·rw[if_neg gm];exact ax
   ·rw[if_neg gd];exact yf G.un h a _ _ pos
  | some kvs=>obtain⟨g1,g2,g3⟩:=j3 G e;exact xJ (h a) g1 g2 g3
 ·exact yf G.un h a _ _ pos
def EO(c:Ct)(f:Expr->GE)(a:Expr):List CmpOp->List Expr->GT
 | [.In],[.Name x p]=>(match mq c x with | some kvs=>c_ (l_ false kvs (f a)) | none=>if c.II.contains x=true then(if YF .In (.Name x p)=false then c_ (az (oa false) (f a) (f (.Name x p))) else jn) else EN f a [.In] [.Name x p])
 | [.NotIn],[.Name x p]=>(match mq c x with | some kvs=>c_ (l_ true kvs (f a)) | none=>if c.II.contains x=true then(if YF .NotIn (.Name x p)=false then c_ (az (oa true) (f a) (f (.Name x p))) else jn) else EN f a [.NotIn] [.Name x p])
 | os,bs=>EN f a os bs
theorem ER{c:Ct}{k:Nat}(G:Good c k X){f:Expr->GE}(h:∀e,JE X e (f e))(a:Expr)(os:List CmpOp)(bs:List Expr)(pos:Pos):JT X (.Compare a os bs pos) (EO c f a os bs):=by
 unfold EO
 split
 ·rename_i x p
  cases e:mq c x with
  | none=>
   dsimp only
   by_cases gd:c.II.contains x=true
   ·rw[if_pos gd]
    by_cases gm:YF .In (.Name x p)=false
    ·rw[if_pos gm];exact xl (D9 G.un) (h a) (h _) gm
    ·rw[if_neg gm];exact jo
   ·rw[if_neg gd];exact ua G.un h a _ _ pos
  | some kvs=>obtain⟨g1,g2,g3⟩:=j3 G e;exact HS (h a) g1 g2 g3
 ·rename_i x p
  cases e:mq c x with
  | none=>
   dsimp only
   by_cases gd:c.II.contains x=true
   ·rw[if_pos gd]
    by_cases gm:YF .NotIn (.Name x p)=false
    ·rw[if_pos gm];exact xl (r0 G.un) (h a) (h _) gm
    ·rw[if_neg gm];exact jo
   ·rw[if_neg gd];exact ua G.un h a _ _ pos
  | some kvs=>obtain⟨g1,g2,g3⟩:=j3 G e;exact xK (h a) g1 g2 g3
 ·exact ua G.un h a _ _ pos
def fD(f:Expr->GE):Expr->GE
 | .Dict [] [] _=>DU
 | e=>f e
def IS(c:Ct):Expr->Bool
 | .Name x _=>c.Ro.contains x||c.Ql.contains x
 | _=>false
def M6(c:Ct)(f:Expr->GE):Expr->Expr->GE
 | .Name x p,b=>(match mq c x with | some kvs=>if Bz b=false then J4 kvs (f b) else bC | none=>if IS c (.Name x p)=true/\Bz b=false then vF (f (.Name x p)) (f b) else IP f (.Name x p) b)
 | a,b=>IP f a b
theorem IT{c:Ct}{k:Nat}(G:Good c k X){f:Expr->GE}(h:∀e,JE X e (f e))(a b:Expr)(pos:Pos):JE X (.Subscript a b pos) (M6 c f a b):=by
 unfold M6
 split
 ·rename_i x p
  cases e:mq c x with
  | none=>
   dsimp only
   by_cases g:IS c (.Name x p)=true/\Bz b=false
   ·rw[if_pos g]
    refine Ik (by have:=G.un;omega) (h _) (h b) ?_
    intro o i
    cases b<;>first | rfl | cases g.2
   ·rw[if_neg g];exact EL h _ b pos
  | some kvs=>
   dsimp only
   by_cases g:Bz b=false
   ·rw[if_pos g]
    obtain⟨g1,g2,g3⟩:=j3 G e
    refine HV (h b) ?_ g1 g2 g3
    intro o i
    cases b<;>first | rfl | cases g
   ·rw[if_neg g];exact ax
 ·exact EL h _ b pos
def pairsOf(f:Expr->GE):List (Option Expr)->List Expr->Option (List (GE×GE))
 | [],[]=>some []
 | some k::ks,v::vs=>(match pairsOf f ks vs with | some r=>some ((f k,f v)::r) | none=>none)
 | _,_=>none
def Qp:List (Option Expr)->Bool
 | some (.Tuple ..)::_=>true
 | _=>false
def Qq(c:Ct):List (Option Expr)->Bool
 | some (.Name x _)::_=>c.Ro.contains x
 | _=>false
def ES(b:Bool)(f:Expr->GE)(ks:List (Option Expr))(vs:List Expr):GE:=if(!ks.isEmpty&&decide (ks.length<=15))=true then(match pairsOf f ks vs with | some gs=>if b=true then bC else bC | none=>bC) else bC
theorem zH(hu:X.A.units+1 < cLine)(b:Bool){f:Expr->GE}(h:∀e,JE X e (f e))(ks:List (Option Expr))(vs:List Expr)(pos:Pos):JE X (.Dict ks vs pos) (ES b f ks vs):=by
 unfold ES
 by_cases g:(!ks.isEmpty&&decide (ks.length<=15))=true
 ·rw[if_pos g]
  simp only[cL,decide_eq_true_eq] at g
  cases e:pairsOf f ks vs with
  | none=>exact ax
  | some gs=>
   dsimp only
   by_cases t:b=true
   ·rw[if_pos t];exact ax
   ·rw[if_neg t];exact ax
 ·rw[if_neg g];exact ax
def M7(f:Expr->GE):List Expr->GE
 | []=>bC
 | [a]=>f a
 | a::b::r=>uY (f a) (M7 f (b::r))
def T1(f:Expr->GE):List Expr->GE
 | []=>bC
 | [a]=>f a
 | a::b::r=>O7 (f a) (T1 f (b::r))
theorem zI{f:Expr->GE}(h:∀e,JE X e (f e))(pos:Pos):∀es,JE X (.BoolOp .And es pos) (M7 f es)
 | []=>ax
 | [a]=>CY (h a)
 | a::b::r=>LU (h a) (zI h pos (b::r))
theorem ET{f:Expr->GE}(h:∀e,JE X e (f e))(pos:Pos):∀es,JE X (.BoolOp .Or es pos) (T1 f es)
 | []=>ax
 | [a]=>CY (h a)
 | a::b::r=>O8 (h a) (ET h pos (b::r))
def M8(f:Expr->GT):List Expr->GT
 | []=>jn
 | [a]=>f a
 | a::b::r=>O5 (f a) (M8 f (b::r))
def T3(f:Expr->GT):List Expr->GT
 | []=>jn
 | [a]=>f a
 | a::b::r=>JP (f a) (T3 f (b::r))
theorem EU{e:Expr}:JW X e jn:=λρ st σ H m Q S R p=>aa p
theorem zJ{f:Expr->GT}(h:∀e,JT X e (f e))(pos:Pos):∀es,JW X (.BoolOp .And es pos) (M8 f es)
 | []=>EU
 | [a]=>G_ (h a)
 | a::b::r=>LR (h a) (zJ h pos (b::r))
theorem EV{f:Expr->GT}(h:∀e,JT X e (f e))(pos:Pos):∀es,JW X (.BoolOp .Or es pos) (T3 f es)
 | []=>EU
 | [a]=>LQ (h a)
 | a::b::r=>O6 (h a) (EV h pos (b::r))
def Xl(f:Expr->GE):UnaryOp->Expr->GE
 | .USub,a=>O4 uX (f a)
 | .Not,a=>JQ (f a)
 | _,_=>bC
def BA(f:Expr->GE)(g:GA->GE)(es:List Expr):GE:=if es.all plain=true then g (kH f es) else bC
def isSet:Expr->Bool
 | .Set .. =>true
 | _=>false
theorem gW{e:Expr}{env:Env}(h:isSet e=false)(x:YD):YL e env x=pure x:=by
 cases e<;>first | rfl | cases h
def j4(c:Ct)(x:Str):Bool:=decide (x="range")&&decide (c.names.lookup x=some .globalImplicit)&&c.bl.contains x&&(match c.fns.lookup x with | some _=>false | none=>true)
theorem vS{c:Ct}{k:Nat}(G:Good c k X)(y:Str)(hy:j4 c y=true):y="range"/\Gl X y/\X.mg y=none:=by
 unfold j4 at hy
 simp only[cL,decide_eq_true_eq] at hy
 refine⟨hy.1.1.1,?_,G.bl y hy.1.2⟩
 show X.env.scope.names.lookup y=_
 rw[G.sc];exact hy.1.1.2
def sh(c:Ct)(f:Expr->GE):Expr->GI
 | .Call (.Name x p) [a] [] q=>if j4 c x=true then(if plain a=true then vn (kH f [a]) else DH) else aI (f (.Call (.Name x p) [a] [] q))
 | e=>if isSet e=false then aI (f e) else DH
theorem mv{c:Ct}{k:Nat}(G:Good c k X){f:Expr->GE}(h:∀e,JE X e (f e))(tg e:Expr):JI X tg e (sh c f e):=by
 unfold sh
 split
 ·rename_i y p a q
  by_cases g:j4 c y=true
  ·rw[if_pos g]
   obtain⟨rfl,g2,g3⟩:=vS G y g
   by_cases ga:plain a=true
   ·rw[if_pos ga]
    exact P0 g2 g3 (fW h [a] (by simp[ga])) (aA ga)
   ·rw[if_neg ga];exact DI
  ·rw[if_neg g];exact zg (h _)
 ·by_cases g:isSet e=false
  ·rw[if_pos g];exact zg (h _)
  ·rw[if_neg g];exact DI
def EW(c:Ct)(x:Str):Bool:=decide (x="enumerate")&&decide (c.names.lookup x=some .globalImplicit)&&c.bl.contains x&&(match c.fns.lookup x with | some _=>false | none=>true)
theorem Qr{c:Ct}{k:Nat}(G:Good c k X)(y:Str)(hy:EW c y=true):y="enumerate"/\Gl X y/\X.mg y=none:=by
 unfold EW at hy
 simp only[cL,decide_eq_true_eq] at hy
 refine⟨hy.1.1.1,?_,G.bl y hy.1.2⟩
 show X.env.scope.names.lookup y=_
 rw[G.sc];exact hy.1.1.2
def BB(gi:GI):BY:=λρ st=>(gi ρ st).bind λw st1=> .ok (w.1.map λl=>(l,w.2),w.2) st1
def ub(c:Ct)(f:Expr->GE):Expr->BY
 | .Call (.Name x p) [a] [] q=>if EW c x=true then(if plain a=true then m_ (kH f [a]) else DW) else BB (sh c f (.Call (.Name x p) [a] [] q))
 | .Call (.Attribute o nm apos) [] [] q=>if nm="items"/\xY o=true/\(apos.endLine == q.line)=true then iB (f o) else BB (sh c f (.Call (.Attribute o nm apos) [] [] q))
 | e=>BB (sh c f e)
theorem qo{c:Ct}{k:Nat}(G:Good c k X){f:Expr->GE}(h:∀e,JE X e (f e))(es:List Expr)(kt:Nat)(pt:Pos)(e:Expr):Ie X (.Tuple es kt pt) e (ub c f e):=by
 unfold ub
 split
 ·rename_i y p a q
  by_cases g:EW c y=true
  ·rw[if_pos g]
   obtain⟨rfl,g2,g3⟩:=Qr G y g
   by_cases ga:plain a=true
   ·rw[if_pos ga]
    exact DX g2 g3 (fW h [a] (by simp[ga])) (aA ga)
   ·rw[if_neg ga];exact Ig
  ·rw[if_neg g]
   exact xP (mv G h _ _)
 ·rename_i o nm apos q
  by_cases g:nm="items"/\xY o=true/\(apos.endLine == q.line)=true
  ·rw[if_pos g];obtain⟨rfl,g1,g2⟩:=g;exact xZ (h _) ⟨r_ g1,g2⟩
  ·rw[if_neg g];exact xP (mv G h _ _)
 ·exact xP (mv G h _ _)
def Ke(c:Ct):Expr->Bool
 | .Call (.Name x _) [_] [] _=>EW c x
 | .Call (.Attribute o nm apos) [] [] q=>decide (nm="items")&&xY o&&(apos.endLine == q.line)
 | _=>false
def ni:List Expr->Option (List Str)
 | []=>some []
 | .Name x _::r=>(ni r).map (x::·)
 | _=>none
theorem si:∀{es:List Expr}{xs:List Str},ni es=some xs->eM es xs
 | [],xs,h=>by cases h;exact .nil
 | e::r,xs,h=>by
  cases e with
  | Name x p=>
   unfold ni at h
   cases e1:ni r with
   | none=>rw[e1] at h;cases h
   | some ys=>
    rw[e1] at h
    cases h
    exact .cons (si e1)
  | _=>cases h
def kI(c:Ct):List (Str×YA)->Option dN
 | []=>some []
 | (n,.free)::r=>if c.names.lookup n=some .cell\/c.names.lookup n=some .free then(match ml n c.N,kI c r with | some i,some l=>some ((n,i)::l) | _,_=>none) else none
 | _::r=>kI c r
theorem qp{c:Ct}:∀{ns:List (Str×YA)}{cs:dN},kI c ns=some cs->(∀y∈ns,y.2= .free->c.names.lookup y.1=some .cell\/c.names.lookup y.1=some .free)/\∀p∈cs,(p.1,dU)∈ns/\c.N[p.2]? =some p.1
 | [],cs,h=>by cases h;exact⟨(λ_ z=>by cases z),(λ_ z=>by cases z)⟩
 | (n,k)::r,cs,h=>by
  unfold kI at h
  split at h
  ·cases ‹_::_=[]›
  ·rename_i n' r' he
   cases he
   by_cases g:c.names.lookup n=some .cell\/c.names.lookup n=some .free
   ·rw[if_pos g] at h
    cases e1:ml n c.N with
    | none=>rw[e1] at h;cases h
    | some i=>
     cases e2:kI c r with
     | none=>rw[e1,e2] at h;cases h
     | some l=>
      rw[e1,e2] at h
      cases h
      obtain⟨q1,q2⟩:=qp e2
      refine⟨λy hy e=>?_,λp hp=>?_⟩
      ·rcases List.mem_cons.mp hy with z | z
       ·subst z;exact g
       ·exact q1 y z e
      ·rcases List.mem_cons.mp hp with z | z
       ·subst z;exact⟨aP,gG e1⟩
       ·exact⟨aJ _ (q2 p z).1,(q2 p z).2⟩
   ·rw[if_neg g] at h;cases h
  ·rename_i kk r' hk he
   cases he
   obtain⟨q1,q2⟩:=qp h
   refine⟨λy hy e=>?_,λp hp=>⟨aJ _ (q2 p hp).1,(q2 p hp).2⟩⟩
   rcases List.mem_cons.mp hy with z | z
   ·subst z
    have e':k= .free:=e
    subst e'
    exact(hk n rfl).elim
   ·exact q1 y z e
def nj(c:Ct)(ns:List (Str×YA)):List (Str×YA):=ns.map λ(n,k)=>if(k == .free&&c.names.lookup n == some .cell) then(n,.cell) else(n,k)
def zK:ScopeKind->Bool
 | .function=>true
 | _=>false
def dZ(scope:Scope)(x:Str):Bool:=zK scope.kind&&scope.names.all (λy=>decide (scope.names.lookup y.1=some y.2))&&scope.names.all (λy=>decide (y.2≠.cell))&&decide (scope.names.lookup x=some .local)
def iC(scope:Scope)(x:Str):Bool:=zK scope.kind&&scope.names.all (λy=>decide (scope.names.lookup y.1=some y.2))&&decide ((scope.names.filter λy=>y.2 == .cell)=[(x,.cell)])&&decide (scope.names.lookup x=some .cell)
def Ct.block(c:Ct)(scope:Scope)(x:Str)(cs:dN):Ct:={ c with N:=x::cs.map (·.1),names:=nj c scope.names,loop:=false,top:=false }
def vT(c:Ct)(sub:Ct->(Expr->GE)×(Expr->GT))(f:Expr->GE)(elt:Expr)(x:Str)(iter:Expr)(yg:Ct->GT)(scope:Scope):GE :=
 if(dZ scope x=true\/iC scope x=true)/\c.free=true/\isSet iter=false then(match kI c scope.names with
  | some cs=>if(x::cs.map (·.1)).Nodup then aZ cs (sh c f iter) (yg (c.block scope x cs)) ((sub (c.block scope x cs)).1 elt) else bC
  | none=>bC) else bC
def Ct.qq(c:Ct)(scope:Scope)(xs:List Str)(cs:dN):Ct:={ c with N:=xs++cs.map (·.1),names:=nj c scope.names,loop:=false,top:=false }
def qr(c:Ct)(sub:Ct->(Expr->GE)×(Expr->GT))(f:Expr->GE)(elt:Expr)(es:List Expr)(iter:Expr)(yg:Ct->GT)(scope:Scope):GE:=match ni es with
 | some (x::xr)=>if(x::xr).all (dZ scope)=true/\c.free=true/\isSet iter=false then(match kI c scope.names with
  | some cs=>if((x::xr)++cs.map (·.1)).Nodup then gF (x::xr).length cs (ub c f iter) (yg (c.qq scope (x::xr) cs)) ((sub (c.qq scope (x::xr) cs)).1 elt) else bC
  | none=>bC) else bC
 | _=>bC
def Rr(c:Ct)(sub:Ct->(Expr->GE)×(Expr->GT))(f:Expr->GE)(elt:Expr)(scope:Scope):List Comprehension->GE
 | [⟨.Name x _,iter,[],0⟩]=>vT c sub f elt x iter (λ_=>λ_ st=> .ok true st) scope
 | [⟨.Name x _,iter,[q],0⟩]=>vT c sub f elt x iter (λc'=>(sub c').2 q) scope
 | [⟨.Tuple es _ _,iter,[],0⟩]=>qr c sub f elt es iter (λ_=>λ_ st=> .ok true st) scope
 | [⟨.Tuple es _ _,iter,[q],0⟩]=>qr c sub f elt es iter (λc'=>(sub c').2 q) scope
 | _=>bC
theorem qt{c:Ct}{k:Nat}(G:Good c k X){scope:Scope}{x:Str}{cs:dN}(hs:dZ scope x=true\/iC scope x=true)(nd:(x::cs.map (·.1)).Nodup)(C:Yx)(s0:YC)(H0:Hp)(fp:List Yx)(pn:List (Yx×Obj))(E:YD->YC->Prop)(hA:AU X.A H0) :
  Good (c.block scope x cs) k (fK X scope x cs C s0 H0 fp pn E):=by
 have hk:scope.kind= .function:=by
  have:zK scope.kind=true:=by
   rcases hs with hs | hs
   ·unfold dZ at hs
    simp only[cL] at hs
    exact hs.1.1.1
   ·unfold iC at hs
    simp only[cL] at hs
    exact hs.1.1.1
  revert this
  cases scope.kind<;>intro z<;>first | rfl | cases z
 refine⟨rfl,?_,nd,G.un,G.free,(λz=>by cases z),G.cst,G.bl,G.fns,(λz=>by cases z),(λz=>by cases z),hk,G.tab,G.cls,G.x9,G.Bq,⟨G.rm.d,G.rm.u⟩,G.Eu,⟨G.x.lam,G.x.BZ,G.x.M1,(λz=>by cases z),G.x.sk,G.x.Ka⟩,G.fr,hA⟩
 show(relabel scope X.env).names=nj c scope.names
 unfold relabel nj Env.kindOf
 rw[G.kind,G.sc]
 simp
theorem nX{c:Ct}{k:Nat}(G:Good c k X){scope:Scope}{x:Str}{xr:List Str}{cs:dN}(hs:dZ scope x=true)(hf:c.free=true)(nd:((x::xr)++cs.map (·.1)).Nodup)(C:Yx)(s0:YC)(H0:Hp)(fp:List Yx)(pn:List (Yx×Obj)) :
  Good (c.qq scope (x::xr) cs) k (eL X scope (x::xr) cs C s0 H0 fp pn):=by
 unfold dZ at hs
 simp only[cL,decide_eq_true_eq] at hs
 have hk:scope.kind= .function:=by
  have:=hs.1.1.1
  revert this
  cases scope.kind<;>intro z<;>first | rfl | cases z
 refine⟨rfl,?_,nd,G.un,G.free,(λz=>by cases z),G.cst,G.bl,G.fns,(λz=>by cases z),(λz=>by cases z),hk,G.tab,G.cls,G.x9,G.Bq,⟨G.rm.d,G.rm.u⟩,G.Eu,⟨G.x.lam,G.x.BZ,G.x.M1,(λz=>by cases z),G.x.sk,G.x.Ka⟩,G.fr,.inl (G.free hf).1.hd⟩
 show(relabel scope X.env).names=nj c scope.names
 unfold relabel nj Env.kindOf
 rw[G.kind,G.sc]
 simp
theorem vU{c:Ct}{k:Nat}(G:Good c k X){scope:Scope}{x:Str}{cs:dN}(hs:dZ scope x=true\/iC scope x=true)(hcs:kI c scope.names=some cs)(nd:(x::cs.map (·.1)).Nodup):cH X scope x cs:=by
 have hs:(zK scope.kind=true/\∀y∈scope.names,scope.names.lookup y.1=some y.2)/\((scope.names.filter λy=>y.2 == .cell)=[]\/(scope.names.filter λy=>y.2 == .cell)=[(x,.cell)])/\(scope.names.lookup x=some .local\/scope.names.lookup x=some .cell):=by
  rcases hs with hs | hs
  ·unfold dZ at hs
   simp only[cL,decide_eq_true_eq,EY] at hs
   exact⟨hs.1.1,.inl (List.filter_eq_nil_iff.mpr λy hy=>by simpa using hs.1.2 y hy),.inl hs.2⟩
  ·unfold iC at hs
   simp only[cL,decide_eq_true_eq,EY] at hs
   exact⟨hs.1.1,.inr hs.1.2,.inr hs.2⟩
 obtain⟨⟨h1,h2⟩,h3,h4⟩:=hs
 have hk:scope.kind= .function:=by
  revert h1
  cases scope.kind<;>intro z<;>first | rfl | cases z
 obtain⟨q1,q2⟩:=qp hcs
 refine⟨hk,h2,h3,h4,λy hy e=>?_,λp hp=>⟨by rw[G.N];exact(q2 p hp).2,h2 _ (q2 p hp).1⟩,nd⟩
 show X.env.scope.names.lookup y.1=_\/X.env.scope.names.lookup y.1=_
 rw[G.sc];exact q1 y hy e
def Kf(X:Cx)(e:Expr)(g:GE):Prop:=∀(i:Nat)(y:Str)(py spos:Pos),X.N.Nodup->X.N[i]? =some y->Loc X.env.scope y->(X.fn y=true\/X.env.scope.names.lookup y=some .local)->JS X (.Assign [.Name y py] e spos) (bM i g)
theorem BC{i:Nat}{s:Stmt}:JS X s (bM i bC):=λρ st σ H m D S R p=>aa p
theorem dw{e:Expr}:Kf X e bC:=λi y py spos _ _ _ _=>BC
theorem zL{c:Ct}{k:Nat}(G:Good c k X){sub:Ct->(Expr->GE)×(Expr->GT)}(hb:∀c X,Good c k X->(∀e,JE X e ((sub c).1 e))/\∀e,JT X e ((sub c).2 e)){f:Expr->GE}(h:∀e,JE X e (f e))(elt:Expr)(scope:Scope)(gens:List Comprehension)(pos:Pos) :
  JE X (.ListComp elt gens scope pos) (Rr c sub f elt scope gens)/\Kf X (.ListComp elt gens scope pos) (Rr c sub f elt scope gens):=by
 have core:∀(x:Str)(px:Pos)(iter:Expr)(ifs:List Expr)(yg:Ct->GT),(∀c X,Good c k X->y_ X ifs (yg c))->
   JE X (.ListComp elt [⟨.Name x px,iter,ifs,0⟩] scope pos) (vT c sub f elt x iter yg scope)/\Kf X (.ListComp elt [⟨.Name x px,iter,ifs,0⟩] scope pos) (vT c sub f elt x iter yg scope):=by
  intro x px iter ifs yg hg
  unfold vT
  by_cases g:(dZ scope x=true\/iC scope x=true)/\c.free=true/\isSet iter=false
  ·rw[if_pos g]
   obtain⟨g1,g2,g3⟩:=g
   cases ec:kI c scope.names with
   | none=>exact⟨ax,dw⟩
   | some cs=>
    dsimp only
    by_cases nd:(x::cs.map (·.1)).Nodup
    ·rw[if_pos nd]
     have CS:=vU G g1 ec nd
     have hE:∀C s0 H0 fp pn E,AU X.A H0->JE (fK X scope x cs C s0 H0 fp pn E) elt ((sub (c.block scope x cs)).1 elt):=λC s0 H0 fp pn E z=>(hb _ _ (qt G g1 nd C s0 H0 fp pn E z)).1 elt
     have hT:∀C s0 H0 fp pn E,AU X.A H0->y_ (fK X scope x cs C s0 H0 fp pn E) ifs (yg (c.block scope x cs)):=λC s0 H0 fp pn E z=>hg _ _ (qt G g1 nd C s0 H0 fp pn E z)
     exact⟨ze G.fr CS (vi (G.free g2).2) G.hd (mv G h _ iter).y hE hT (gW g3),λi y py spos hN hi hl hf=>HH i hN G.fr CS (vi (G.free g2).2) G.hd (mv G h _ iter).y hE hT (gW g3) hi hl hf⟩
    ·rw[if_neg nd];exact⟨ax,dw⟩
  ·rw[if_neg g];exact⟨ax,dw⟩
 have Kh:∀(es:List Expr)(kt:Nat)(pt:Pos)(iter:Expr)(ifs:List Expr)(yg:Ct->GT),(∀c X,Good c k X->y_ X ifs (yg c))->
   JE X (.ListComp elt [⟨.Tuple es kt pt,iter,ifs,0⟩] scope pos) (qr c sub f elt es iter yg scope)/\Kf X (.ListComp elt [⟨.Tuple es kt pt,iter,ifs,0⟩] scope pos) (qr c sub f elt es iter yg scope):=by
  intro es kt pt iter ifs yg hg
  unfold qr
  cases en:ni es with
  | none=>exact⟨ax,dw⟩
  | some xs=>
   cases xs with
   | nil=>exact⟨ax,dw⟩
   | cons x xr=>
    dsimp only
    by_cases g:(x::xr).all (dZ scope)=true/\c.free=true/\isSet iter=false
    ·rw[if_pos g]
     obtain⟨g1,g2,g3⟩:=g
     have gx:∀y∈x::xr,dZ scope y=true:=List.all_eq_true.mp g1
     cases ec:kI c scope.names with
     | none=>exact⟨ax,dw⟩
     | some cs=>
      dsimp only
      by_cases nd:((x::xr)++cs.map (·.1)).Nodup
      ·rw[if_pos nd]
       have Xm:(x::cs.map (·.1)).Nodup:=nd.sublist (List.Sublist.cons₂ x (List.sublist_append_right xr _))
       have vr:∀y∈x::xr,scope.names.lookup y=some .local:=λy hy=>by
        have q:=gx y hy
        unfold dZ at q
        simp only[cL,decide_eq_true_eq] at q
        exact q.2
       have CS:jZ X scope x xr cs:=⟨vU G (.inl (gx x aP)) ec Xm,vr,nd⟩
       have sl:=si en
       have hE:∀C s0 H0 fp pn,JE (eL X scope (x::xr) cs C s0 H0 fp pn) elt ((sub (c.qq scope (x::xr) cs)).1 elt):=λC s0 H0 fp pn=>(hb _ _ (nX G (gx x aP) g2 nd C s0 H0 fp pn)).1 elt
       have hT:∀C s0 H0 fp pn,y_ (eL X scope (x::xr) cs C s0 H0 fp pn) ifs (yg (c.qq scope (x::xr) cs)):=λC s0 H0 fp pn=>hg _ _ (nX G (gx x aP) g2 nd C s0 H0 fp pn)
       exact⟨vB CS sl (G.free g2).2 (qo G h es kt pt iter) hE hT (gW g3),λi y py spos hN hi hl hf=>D0 i hN CS sl (G.free g2).2 (qo G h es kt pt iter) hE hT (gW g3) hi hl hf⟩
      ·rw[if_neg nd];exact⟨ax,dw⟩
    ·rw[if_neg g];exact⟨ax,dw⟩
 unfold Rr
 split
 ·exact core _ _ _ _ _ λ_ _ _=>za
 ·exact core _ _ _ _ _ λc X G'=>zb ((hb c X G').2 _)
 ·exact Kh _ _ _ _ _ _ λ_ _ _=>za
 ·exact Kh _ _ _ _ _ _ λc X G'=>zb ((hb c X G').2 _)
 ·exact⟨ax,dw⟩
def Ki:List Keyword->Option (Expr×Bool)
 | [⟨some n,l,_⟩]=>if n="key" then some (l,false) else none
 | [⟨some n,l,_⟩,⟨some r,.Constant (.bool true) _ _,_⟩]=>if n="key"/\r="reverse" then some (l,true) else none
 | _=>none
def EZ(c:Ct)(f:Expr->GE)(z:Str)(e l:Expr)(b:Bool)(d:GE):GE:=match l with
 | .Name y _=>(match c.fns.lookup y with
  | some (n,F)=>if z="sorted"/\b=false/\n=1/\okN y=true/\plain e=true/\c.names.lookup z=some .globalImplicit/\c.names.lookup y=some .globalImplicit/\c.bl.contains z=true/\c.F8.contains y=true/\c.free=true/\c.lj+2<=c.sk then sf false F (f e) else d
  | none=>d)
 | _=>d
theorem vV{c:Ct}{k:Nat}(G:Good c k X){f:Expr->GE}(h:∀e,JE X e (f e))(z:Str)(e l:Expr)(b:Bool){p kp pos:Pos}{kr:List Keyword}{d:GE}(Xn:b=false->kr=[])(hd:JE X (.Call (.Name z p) [e] (TU l kp::kr) pos) d):JE X (.Call (.Name z p) [e] (TU l kp::kr) pos) (EZ c f z e l b d):=by
 unfold EZ
 split
 ·rename_i y yp
  cases ef:c.fns.lookup y with
  | none=>exact hd
  | some q=>
   obtain⟨n,F⟩:=q
   dsimp only
   by_cases g:z="sorted"/\b=false/\n=1/\okN y=true/\plain e=true/\c.names.lookup z=some .globalImplicit/\c.names.lookup y=some .globalImplicit/\c.bl.contains z=true/\c.F8.contains y=true/\c.free=true/\c.lj+2<=c.sk
   ·rw[if_pos g]
    obtain⟨rfl,rfl,rfl,g1,g2,g3,g4,g5,g6,g7,g8⟩:=g
    rw[Xn rfl]
    exact IC ((G.free g7).1.mono (by have:=G.x.sk;omega)) (G.free g7).2 (by show X.env.scope.names.lookup _=_;rw[G.sc];exact g3) (G.bl _ g5) (h e) (G.x.Ka y 1 F ef g6) (by show X.env.scope.names.lookup _=_;rw[G.sc];exact g4) (fR g1) (aA g2)
   ·rw[if_neg g];exact hd
 ·exact hd
def E1(c:Ct)(sub:Ct->(Expr->GE)×(Expr->GT))(f:Expr->GE)(g:Expr)(e:Expr)(ks:List Keyword)(d:GE):GE:=match g,Ki ks with
 | .Name z _,some (l,b)=>EZ c f z e l b d
 | _,_=>d
theorem E2{c:Ct}{k:Nat}(G:Good c k X){sub:Ct->(Expr->GE)×(Expr->GT)}(hb:∀k c X,Good c k X->(∀e,JE X e ((sub c).1 e))/\∀e,JT X e ((sub c).2 e)){f:Expr->GE}(h:∀e,JE X e (f e))(g e:Expr)(ks:List Keyword)(pos:Pos){d:GE}(hd:JE X (.Call g [e] ks pos) d):JE X (.Call g [e] ks pos) (E1 c sub f g e ks d):=by
 unfold E1
 split
 ·rename_i z p l b hk
  unfold Ki at hk
  split at hk
  ·split at hk
   ·rename_i e1
    cases hk
    subst e1
    exact vV G h _ _ _ _ (λ_=>rfl) hd
   ·cases hk
  ·split at hk
   ·rename_i e1
    cases hk
    obtain⟨rfl,rfl⟩:=e1
    exact vV G h _ _ _ _ (λz=>by cases z) hd
   ·cases hk
  ·cases hk
 ·exact hd
def E3(c:Ct)(sub:Ct->(Expr->GE)×(Expr->GT))(fE:Expr->GE)(pos:Pos)(f:Expr)(as:List Expr)(ks:List Keyword):GE:=match as with
 | [e]=>E1 c sub fE f e ks (zF c fE pos f [e] ks)
 | _=>zF c fE pos f as ks
theorem BD{c:Ct}{k:Nat}(G:Good c k X){sub:Ct->(Expr->GE)×(Expr->GT)}(hb:∀k c X,Good c k X->(∀e,JE X e ((sub c).1 e))/\∀e,JT X e ((sub c).2 e)){fE:Expr->GE}(h:∀e,JE X e (fE e))(f:Expr)(as:List Expr)(ks:List Keyword)(pos:Pos):JE X (.Call f as ks pos) (E3 c sub fE pos f as ks):=by
 have d:=EJ G h f as ks pos
 rcases as with _ | ⟨e,_ | ⟨l,_ | ⟨l2,r⟩⟩⟩
 ·exact d
 ·exact E2 G hb h f e ks pos d
 ·exact d
 ·exact d
def E4(c:Ct)(sub:Ct->(Expr->GE)×(Expr->GT))(f:Expr->GE)(t:Expr->GT):Expr->GE
 | .Name x _=>EB c x
 | .Constant k _ _=>ED k
 | .BinOp a o b _=>az (Qo o) (f a) (f b)
 | .UnaryOp o a _=>Xl f o a
 | .BoolOp .And es _=>M7 f es
 | .BoolOp .Or es _=>T1 f es
 | .Compare a os bs _=>M5 c f a os bs
 | .IfExp q a b _=>AB (t q) (f a) (f b)
 | .Tuple es _ _=>BA f i9 es
 | .List es _=>BA f ip es
 | .Subscript a b _=>M6 c f a b
 | .Dict [] [] _=>qc
 | .Dict ks vs _=>ES (Qp ks||Qq c ks) f ks vs
 | .Call g as ks p=>E3 c sub f p g as ks
 | .ListComp elt gens scope _=>Rr c sub f elt scope gens
 | _=>bC
def stepT(c:Ct)(f:Expr->GE)(t:Expr->GT):Expr->GT
 | .UnaryOp .Not a _=>pG (t a)
 | .BoolOp .And es _=>M8 t es
 | .BoolOp .Or es _=>T3 t es
 | .Compare a os bs _=>EO c f a os bs
 | .Name x p=>iu (f (.Name x p))
 | .Call g as ks p=>iu (f (.Call g as ks p))
 | .Subscript a b p=>iu (f (.Subscript a b p))
 | .Constant k j p=>iu (f (.Constant k j p))
 | .BinOp a o b p=>iu (f (.BinOp a o b p))
 | _=>jn
theorem vW{c:Ct}{k:Nat}(G:Good c k X){sub:Ct->(Expr->GE)×(Expr->GT)}(hb:∀k c X,Good c k X->(∀e,JE X e ((sub c).1 e))/\∀e,JT X e ((sub c).2 e)){f:Expr->GE}{t:Expr->GT}(h:∀e,JE X e (f e))(ht:∀e,JT X e (t e))(e:Expr):JE X e (E4 c sub f t e):=by
 have hu:X.A.units+64 < cLine:=G.un
 cases e with
 | Name x p=>exact EC G x p
 | Constant v j p=>exact Br v j p
 | BinOp a o b p=>exact LO (IL o) (h a) (h b)
 | UnaryOp o a p=>
  cases o with
  | USub=>exact LP (h a)
  | Not=>exact LV (h a)
  | _=>exact ax
 | BoolOp o es p=>
  cases o with
  | And=>exact zI h p es
  | Or=>exact ET h p es
 | Compare a os bs p=>exact IQ G h a os bs p
 | IfExp q a b p=>exact O9 (ht q) (h a) (h b)
 | Tuple es j p=>
  show JE X _ (BA f i9 es)
  unfold BA
  by_cases g:es.all plain=true
  ·rw[if_pos g];exact LW (fW h es g)
  ·rw[if_neg g];exact ax
 | List es p=>
  show JE X _ (BA f ip es)
  unfold BA
  by_cases g:es.all plain=true
  ·rw[if_pos g];exact LX (fW h es g)
  ·rw[if_neg g];exact ax
 | Subscript a b p=>exact IT G h a b p
 | Dict ks vs p=>
  cases ks with
  | cons k ks=>exact zH (by have:=G.un;omega) _ h (k::ks) vs p
  | nil=>
   cases vs with
   | nil=>exact HX
   | cons v vs=>exact zH (by have:=G.un;omega) (Qp []||Qq c []) h [] (v::vs) p
 | Call g as ks p=>exact BD G hb h g as ks p
 | ListComp elt gens scope p=>exact(zL G (hb k) h elt scope gens p).1
 | _=>exact ax
def BE:Expr->Bool
 | .ListComp .. =>true
 | .SetComp .. =>true
 | .DictComp .. =>true
 | .Set .. =>true
 | _=>false
theorem ud{e:Expr}{t:Option Expr}{n:Nat}{env:Env}(h:BE e=false):swapsWith e t n env=pure false:=by
 cases e<;>first | rfl | cases h
theorem vX{e o i:Expr}{p:Pos}{n:Nat}{env:Env}:swapsWith e (some (.Subscript o i p)) n env=pure false:=by
 cases e<;>rfl
theorem E5{c:Ct}{k:Nat}(G:Good c k X){sub:Ct->(Expr->GE)×(Expr->GT)}(hb:∀k c X,Good c k X->(∀e,JE X e ((sub c).1 e))/\∀e,JT X e ((sub c).2 e)){f:Expr->GE}{t:Expr->GT}(h:∀e,JE X e (f e))(ht:∀e,JT X e (t e))(e:Expr):Kf X e (E4 c sub f t e):=by
 by_cases g:BE e=false
 ·exact λi y py spos hN hi hl hf=>tM i hN (vW G hb h ht e) hi hl (ud g) hf
 ·cases e with
  | ListComp elt gens scope p=>exact(zL G (hb k) h elt scope gens p).2
  | SetComp=>exact dw
  | DictComp=>exact dw
  | Set=>exact dw
  | _=>exact absurd rfl g
theorem E6{c:Ct}{k:Nat}(G:Good c k X){f:Expr->GE}{t:Expr->GT}(h:∀e,JE X e (f e))(ht:∀e,JT X e (t e))(e:Expr):JT X e (stepT c f t e):=by
 have hu:X.A.units+64 < cLine:=G.un
 cases e with
 | UnaryOp o a p=>
  cases o with
  | Not=>exact LS (ht a)
  | _=>exact jo
 | BoolOp o es p=>
  cases o with
  | And=>exact(zJ ht p es).jt
  | Or=>exact(EV ht p es).jt
 | Compare a os bs p=>exact ER G h a os bs p
 | Name x p=>exact pI (h _) (λ_=>rfl)
 | Call g as ks p=>exact pI (h _) (λ_=>rfl)
 | Subscript a b p=>exact pI (h _) (λ_=>rfl)
 | Constant v j p=>exact pI (h _) (λ_=>rfl)
 | BinOp a o b p=>exact pI (h _) (λ_=>rfl)
 | _=>exact jo
end
def kJ:Nat->Ct->(Expr->GE)×(Expr->GT)
 | 0,_=>(λ_=>bC,λ_=>jn)
 | n+1,c=>(E4 c (kJ n) (kJ n c).1 (kJ n c).2,stepT c (kJ n c).1 (kJ n c).2)
section
variable {X:Cx}
theorem dO:∀(n:Nat)(k:Nat)(c:Ct)(X:Cx),Good c k X->(∀e,JE X e ((kJ n c).1 e))/\∀e,JT X e ((kJ n c).2 e)
 | 0,_,_,_,_=>⟨λ_=>ax,λ_=>jo⟩
 | n+1,k,c,X,G=>⟨λe=>vW G (λk c X G=>dO n k c X G) (dO n k c X G).1 (dO n k c X G).2 e,λe=>E6 G (dO n k c X G).1 (dO n k c X G).2 e⟩
theorem E7{k:Nat}:∀(n:Nat)(c:Ct)(X:Cx),Good c k X->∀e,Kf X e ((kJ n c).1 e)
 | 0,_,_,_,_=>dw
 | n+1,c,X,G,e=>E5 G (λk c X G=>dO n k c X G) (dO n k c X G).1 (dO n k c X G).2 e
def slot(c:Ct)(x:Str):Option Nat:=if c.names.lookup x=some .local\/(c.names.lookup x=some .cell/\c.top=true) then ml x c.N else none
def zM(c:Ct)(x:Str):Option Nat:=if c.names.lookup x=some .local then ml x c.N else none
theorem E8{c:Ct}{k:Nat}(G:Good c k X){x:Str}{i:Nat}(h:zM c x=some i):X.N[i]? =some x/\X.env.scope.names.lookup x=some .local:=by
 unfold zM at h
 by_cases e:c.names.lookup x=some .local
 ·rw[if_pos e] at h
  exact⟨by rw[G.N];exact gG h,by rw[G.sc];exact e⟩
 ·rw[if_neg e] at h;cases h
theorem ue{c:Ct}{k:Nat}(G:Good c k X){x:Str}{i:Nat}(h:slot c x=some i):X.N[i]? =some x/\(Loc X.env.scope x/\(X.fn x=true\/X.env.scope.names.lookup x=some .local)):=by
 unfold slot at h
 by_cases e:c.names.lookup x=some .local\/(c.names.lookup x=some .cell/\c.top=true)
 ·rw[if_pos e] at h
  refine⟨by rw[G.N];exact gG h,?_⟩
  rcases e with e | ⟨e,e2⟩
  ·have q:X.env.scope.names.lookup x=some .local:=by rw[G.sc];exact e
   exact⟨.inl q,.inr q⟩
  ·have q:X.env.scope.names.lookup x=some .cell:=by rw[G.sc];exact e
   exact⟨.inr q,.inl (G.fn e2 x)⟩
 ·rw[if_neg e] at h;cases h
def slots(c:Ct):List Expr->Option (List Nat)
 | []=>some []
 | .Name x _::es=>(match slot c x,slots c es with | some i,some is=>some (i::is) | _,_=>none)
 | _=>none
theorem my{c:Ct}{k:Nat}(G:Good c k X):∀{es:List Expr}{is:List Nat},slots c es=some is->Slots X es is
 | [],is,h=>by cases h;exact .nil
 | e::es,is,h=>by
  cases e with
  | Name x p=>
   have h:(match slot c x,slots c es with | some i,some is=>some (i::is) | _,_=>none)=some is:=h
   cases e1:slot c x with
   | none=>rw[e1] at h;cases h
   | some i=>
    cases e2:slots c es with
    | none=>rw[e1,e2] at h;cases h
    | some js=>
     rw[e1,e2] at h
     cases h
     obtain⟨q1,q2⟩:=ue G e1
     exact .cons q1 q2 (my G e2)
  | _=>cases h
def Qs:Expr->Bool
 | .Tuple .. =>true
 | _=>false
def IU(es:List Expr)(v:Expr):Bool:=!Qs v||decide (4<=es.length)
def M9:Expr->Bool
 | .Dict [] [] _=>true
 | _=>false
theorem BF{es:List Expr}{k:Nat}{p:Pos}{v:Expr}(h:IU es v=true):swappedStores [.Tuple es k p] v X.env=pure none:=by
 cases v with
 | Tuple vs k2 p2=>
  have h4:4<=es.length:=by simpa [IU,Qs] using h
  unfold swappedStores
  have:(!(es.length == 2||es.length == 3)||vs.length != es.length||X.env.blockKind != .function)=true:=by
   have h2:(es.length == 2)=false:=by simp;omega
   have h3:(es.length == 3)=false:=by simp;omega
   rw[h2,h3];rfl
  dsimp only
  rw[if_pos this]
 | _=>rfl
def M_(c:Ct)(f:Expr->GE)(v:Expr):List Expr->GS
 | [.Name x _]=>(match slot c x with | some i=>if M9 v=true/\c.Ro.contains x=true then bM i DU else bM i (f v) | none=>b9)
 | [.Subscript o i _]=>if Bz i=false then(if IS c o=true then zi (f v) (f o) (f i) else JX (f v) (f o) (f i)) else b9
 | [.Tuple es _ _]=>if BE v=false/\IU es v=true/\c.free=true then(match slots c es with | some is=>y0 is (f v) | none=>b9) else b9
 | _=>b9
theorem M'{c:Ct}{k:Nat}(G:Good c k X){f:Expr->GE}(h:∀e,JE X e (f e))(ha:∀e,Kf X e (f e))(v:Expr)(ts:List Expr)(pos:Pos):JS X (.Assign ts v pos) (M_ c f v ts):=by
 unfold M_
 split
 ·rename_i x p
  cases e:slot c x with
  | none=>exact bG
  | some i=>
   obtain⟨e1,e2⟩:=ue G e
   dsimp only
   by_cases g:M9 v=true/\c.Ro.contains x=true
   ·rw[if_pos g]
    have gv:=g.1
    unfold M9 at gv
    split at gv
    ·exact tM i (by rw[G.N];exact G.nd) HW e1 e2.1 rfl e2.2
    ·cases gv
   ·rw[if_neg g];exact ha v i x _ _ (by rw[G.N];exact G.nd) e1 e2.1 e2.2
 ·rename_i o i p
  by_cases g2:Bz i=false
  ·rw[if_pos g2]
   by_cases gd:IS c o=true
   ·rw[if_pos gd];exact HZ (by have:=G.un;omega) (h v) (h o) (h i) vX
   rw[if_neg gd]
   refine Hr (h v) (h o) (h i) (by unfold swapsWithSole;exact vX) ?_ rfl ?_
   ·cases v<;>rfl
   ·intro _
    cases i<;>first | rfl | cases g2
  ·rw[if_neg g2];exact bG
 ·rename_i es kk p
  by_cases g:BE v=false/\IU es v=true/\c.free=true
  ·rw[if_pos g]
   cases e1:slots c es with
   | none=>exact bG
   | some is=>
    have g2:=g.2.1
    refine HD (by rw[G.N];exact G.nd) (G.free g.2.2).2 (my G e1) (h v) (ud g.1) ?_
    exact BF g2
  ·rw[if_neg g];exact bG
 ·exact bG
def Na(c:Ct)(f:Expr->GE)(i:Nat)(gb:GS):Expr->GS
 | .Call (.Name x p) [a] [] q=>if j4 c x=true then(if plain a=true then tO i (kH f [a]) gb else b9) else n9 i (f (.Call (.Name x p) [a] [] q)) gb
 | e=>if isSet e=false then n9 i (f e) gb else b9
theorem Nb{c:Ct}{k:Nat}(G:Good c k X)(hl:c.loop=true){f:Expr->GE}(h:∀e,JE X e (f e)){x:Str}{i:Nat}(hx:slot c x=some i){body:List Stmt}{gb:GS}(hb:mV X body gb)(e:Expr)(pos pos':Pos):JS X (.For (.Name x pos') e body [] pos) (Na c f i gb e):=by
 have nd:X.N.Nodup:=by rw[G.N];exact G.nd
 obtain⟨e1,e2⟩:=ue G hx
 have rg:=vS G
 unfold Na
 split
 ·rename_i y p a q
  by_cases g:j4 c y=true
  ·rw[if_pos g]
   obtain⟨rfl,g2,g3⟩:=rg y g
   by_cases ga:plain a=true
   ·rw[if_pos ga]
    exact Dq i nd (G.loop hl).2 (G.loop hl).1 g2 g3 (fW h [a] (by simp[ga])) hb e1 e2.1 e2.2 (aA ga)
   ·rw[if_neg ga];exact bG
  ·rw[if_neg g];exact Dl i nd (G.loop hl).2 (G.loop hl).1 (h _) hb e1 e2.1 e2.2 (gW rfl)
 ·by_cases g:isSet e=false
  ·rw[if_pos g];exact Dl i nd (G.loop hl).2 (G.loop hl).1 (h _) hb e1 e2.1 e2.2 (gW g)
  ·rw[if_neg g];exact bG
def yh(c:Ct)(f:Expr->GE):Expr->GS
 | .Call (.Name x _) (e::es) [] _=>if okN x=true/\(e::es).all plain=true/\c.names.lookup x=some .globalImplicit/\c.clss.contains x=true/\c.free=true then tP x (kH f (e::es)) else b9
 | _=>b9
theorem E9{c:Ct}{k:Nat}(G:Good c k X){f:Expr->GE}(h:∀e,JE X e (f e))(e:Expr)(pos:Pos):JS X (.Raise (some e) none pos) (yh c f e):=by
 unfold yh
 split
 ·rename_i x p e es q
  by_cases g:okN x=true/\(e::es).all plain=true/\c.names.lookup x=some .globalImplicit/\c.clss.contains x=true/\c.free=true
  ·rw[if_pos g]
   obtain⟨g1,g2,g3,g4,g5⟩:=g
   have hg:Gl X x:=by
    show X.env.scope.names.lookup x=_
    rw[G.sc];exact g3
   have gp:plain e=true/\es.all plain=true:=by rw[eI,cL] at g2;exact g2
   obtain⟨C,q1,q2⟩:=G.cls x g4
   exact Dr (G.free g5).2 q2 hg q1 (fW h (e::es) g2) (fR g1) (aA gp.1) (gj gp.2)
  ·rw[if_neg g];exact bG
 ·exact bG
def Nc(c:Ct)(b:Ct->List Stmt->GS)(body:List Stmt):List ExceptHandler->GS
 | [.ExceptHandler (some (.Name x _)) (some n) (b0::suite) _]=>if okN x=true/\c.names.lookup x=some .globalImplicit/\c.clss.contains x=true/\c.free=true/\c.top=true then
   (match zM c n with
   | some i=>AV (λy=>c.tc.lookup (y,x)) i (b c.Kb body) (b c.zE (b0::suite))
   | none=>b9) else b9
 | _=>b9
theorem Nd{c:Ct}{k:Nat}(G:Good c k X){b:Ct->List Stmt->GS}(hb:∀c X,Good c k X->∀s,mV X s (b c s))(body:List Stmt)(hs:List ExceptHandler)(pos:Pos):JS X (.Try body hs [] [] pos) (Nc c b body hs):=by
 unfold Nc
 split
 ·rename_i x p n b0 suite q
  by_cases g:okN x=true/\c.names.lookup x=some .globalImplicit/\c.clss.contains x=true/\c.free=true/\c.top=true
  ·rw[if_pos g]
   obtain⟨g1,g3,g4,g5,g6⟩:=g
   have hg:Gl X x:=by
    show X.env.scope.names.lookup x=_
    rw[G.sc];exact g3
   obtain⟨D,q1,q2⟩:=G.cls x g4
   cases e1:zM c n with
   | none=>exact bG
   | some i=>
    obtain⟨e2,e3⟩:=E8 G e1
    exact Mj (G.stk g6) (by rw[G.N];exact G.nd) e2 e3 (G.free g5).2 G.tab hg q1 q2.cls (fR g1) (λpn E=>hb _ _ (G.body g5 pn E) _) λa o u pn E nx=>hb _ _ (G.suite nx pn E) _
  ·rw[if_neg g];exact bG
 ·exact bG
def E_(c:Ct)(f:Expr->GE)(t:Expr->GT)(b:Ct->List Stmt->GS):Stmt->GS
 | .Return (some e) _=>cb (f e)
 | .Return none _=>cb (gC .ay)
 | .Expr e _=>if BE e=false then jm (f e) else b9
 | .If q x y _=>oB (t q) (b c x) (b c y)
 | .Assign ts v _=>M_ c f v ts
 | .For (.Name x _) e body [] _=>if c.loop=true then(match slot c x with | some i=>Na c f i (b c body) e | none=>b9) else b9
 | .For (.Tuple es _ _) e body [] _=>if c.loop=true/\isSet e=false then(match slots c es with | some is=>(if Ke c e=true then rY is (ub c f e) (b c body) else nQ is (f e) (b c body)) | none=>b9) else b9
 | .Raise (some e) none _=>yh c f e
 | .Try body hs [] [] _=>Nc c b body hs
 | .Pass _=>cR
 | _=>b9
theorem Fb{c:Ct}{k:Nat}(G:Good c k X){f:Expr->GE}{t:Expr->GT}{b:Ct->List Stmt->GS}(h:∀e,JE X e (f e))(ha:∀e,Kf X e (f e))(ht:∀e,JT X e (t e))(hb:∀c X,Good c k X->∀s,mV X s (b c s))(s:Stmt):JS X s (E_ c f t b s):=by
 unfold E_
 split
 ·exact L' (h _)
 ·exact Hy
 ·rename_i e p
  by_cases g:BE e=false
  ·rw[if_pos g];exact Hq (h _) (ud g)
  ·rw[if_neg g];exact bG
 ·exact Pt (ht _) (hb c X G _) (hb c X G _)
 ·exact M' G h ha _ _ _
 ·rename_i x p e body q
  by_cases g:c.loop=true
  ·rw[if_pos g]
   cases e1:slot c x with
   | none=>exact bG
   | some i=>exact Nb G g h e1 (hb c X G body) e _ _
  ·rw[if_neg g];exact bG
 ·rename_i es kk p e body q
  by_cases g:c.loop=true/\isSet e=false
  ·rw[if_pos g]
   cases e1:slots c es with
   | none=>exact bG
   | some is=>
    dsimp only
    by_cases ge:Ke c e=true
    ·rw[if_pos ge];exact Ih (by rw[G.N];exact G.nd) (G.loop g.1).2 (G.loop g.1).1 (my G e1) (qo G h es kk p e) (hb c X G body) (gW g.2)
    ·rw[if_neg ge]
     exact HE (by rw[G.N];exact G.nd) (G.loop g.1).2 (G.loop g.1).1 (my G e1) (h e) (hb c X G body) (gW g.2)
  ·rw[if_neg g];exact bG
 ·exact E9 G h _ _
 ·exact Nd G hb _ _ _
 ·exact Ho
 ·exact bG
end
def yi(f:Stmt->GS):List Stmt->GS
 | []=>cR
 | [s]=>f s
 | s::s'::r=>bx (f s) (yi f (s'::r))
theorem vY{X:Cx}{f:Stmt->GS}(h:∀s,JS X s (f s)):∀ss,mV X ss (yi f ss)
 | []=>Hm
 | [s]=>Hn (h s)
 | s::s'::r=>C9 (h s) (vY h (s'::r))
def df:Nat->Ct->List Stmt->GS
 | 0,_=>λ_=>b9
 | n+1,c=>yi (E_ c (kJ 40 c).1 (kJ 40 c).2 (df n))
theorem qu{k:Nat}:∀(n:Nat)(c:Ct)(X:Cx),Good c k X->∀ss:List Stmt,mV X ss (df n c ss)
 | 0,_,_,_,_=>AH
 | n+1,c,X,G,ss=>vY (λs=>Fb G (dO 40 k c X G).1 (E7 40 c X G) (dO 40 k c X G).2 (qu n) s) ss
structure Fc(K:PySem.W.Frag)(mg:Str->Option YD)(q:Str)(P:Yx):Prop where
 tab:iI K q=some P
 code:∃c o vs file tf flags tg T4 text tt,PySem.W.tabIn K q=some (c,P)/\K.lookup c=some o/\o.cls= .type "code"/\o.data= .fields vs/\vs[11]? =some (.ref P)/\vs.getD 11 .none= .ref P/\vs.getD 18 .none= .str file tf/\
  vs.getD 7 .none= .int flags tg/\vs.getD 9 .none= .bool T4/\vs.getD 10 .none= .int text tt/\c≠P
 mem:q∈dv
 uniq:∀q',q'∈dv->iI K q'=some P->q'=q
theorem Fc.at'{X:Cx}{q:Str}{P f:Yx}{cdv:YD}(h:Fc X.K X.mg q P)(M:Bb X.K X.mg X.base)(hn:PySem.W.nsIn X.K YN q=some (some (.ref f)))(hc:Df X.K f cdv)(e1:X.env.code=cdv)(e2:X.env.qual=q++".<locals>."):J6 X q P:=by
 obtain⟨c,o,vs,file,tf,flags,tg,T4,text,tt,t,l,r⟩:=h.code
 refine⟨⟨c,?_,o,vs,file,tf,flags,tg,T4,text,tt,M.1.B6 _ _ l,r⟩,e2,h.tab,h.mem,h.uniq,M.2⟩
 ·obtain⟨of,lf,fd,d,cd⟩:=hc
  rw[e1,<-cd]
  unfold PySem.W.tabIn at t
  rw[hn] at t
  dsimp only at t
  rw[lf] at t
  obtain⟨oc,od,da,sl⟩:=of
  dsimp only at d
  subst d
  dsimp only at t
  cases q1:fd.code with
  | ref c2=>
   rw[q1] at t
   dsimp only at t
   split at t
   ·split at t
    ·cases t;rfl
    ·cases t
   ·cases t
  | _=>rw[q1] at t;cases t
structure BG(c:Ct)(k:Nat)(P:YB)(w:YE)(K:PySem.W.Frag)(mg:Str->Option YD)(base:Heap):Prop where
 lam:∀p L,c.lam=some (p,L)->D7 P w K mg base k p 3 L
 BZ:∀x F,c.BZ.lookup x=some F->TF P w K mg k c.lj x F
 M1:∀x n F,c.fns.lookup x=some (n,F)->c.Rp.contains x=true->∀base,Bb K mg base->jq P w K mg base c.lj x n F
 at':c.self∈dv->∃P,Fc K mg c.self P
 sk:c.sk<=k
 Ka:∀x n F,c.fns.lookup x=some (n,F)->c.F8.contains x=true->jq P w K mg base c.lj x n F
theorem BG.no{c:Ct}{k:Nat}{P:YB}{w:YE}{K:PySem.W.Frag}{mg:Str->Option YD}{base:Heap}(h1:c.lam=none)(h2:c.BZ=[])(h3:c.Rp=[])(h4:c.self="")(h5:c.sk=0:=by rfl)(h6:c.F8=[]:=by rfl):BG c k P w K mg base :=
 ⟨(λp L e=>by rw[h1] at e;cases e),(λx F e=>by rw[h2] at e;cases e),(λx n F _ e=>by rw[h3] at e;cases e),(λe=>by rw[h4] at e;exact absurd e (by decide)),by rw[h5];exact bZ _,(λx n F _ e=>by rw[h6] at e;cases e)⟩
structure Fd(c:Ct)(k:Nat)(P:YB)(w:YE)(K:PySem.W.Frag)(mg:Str->Option YD)(base:Heap):Prop where
 cst:∀x w,c.consts.lookup x=some w->Ey K mg x w
 bl:∀x,c.bl.contains x=true->mg x=none
 fns:∀x n F,c.fns.lookup x=some (n,F)->jq P w K mg base k x n F
 tab:TabOk K c.tb c.tt c.tc
 cls:∀x,c.clss.contains x=true->∃C,mg x=some (.ref C)/\Hz K x C
 x9:∀x,c.x9.contains x=true->∃C,mg x=some (.ref C)/\ClsAt K x C
 Bq:∀x kvs,c.Bq.lookup x=some kvs->m8 K w mg x kvs
 Eu:∀x n F,c.Eu.contains x=true->c.fns.lookup x=some (n,F)->MO P w K mg base k x n F
 x:BG c k P w K mg base
theorem bV{P:YB}{w:YE}{K:PySem.W.Frag}{mg:Str->Option YD}{base:Heap}{h:Heap}{k:Nat}{c:Ct}{x:Str}{st:Stmt}{ps:List Str}{g:GS}(KX:K.In h)(NS:h.Ns YN mg)(D:dD K x st)(T:Fd c k P w K mg base)
  (S:FnScope c.N ps (defScope st))(hn:(defScope st).names=c.names)(hg:df 30 c (defBody st)=g)
  (hb:∀(kV doc pm:YD)(an:Option Yx)(cdv ct:YD)(us:List YD),us.length=ps.length->bindArgs (PySem.W.fnOf x x (defArgs st) (defBody st) (defScope st) .none kV doc pm an cdv ct) ⟨us,[]⟩=pure (ps.zip us))(hM:c.self∈dv->Bb K mg base/\c.self=x:=by exact λz=>absurd (show("":Str)∈dv from z) (by decide)) :
  jq P w K mg base (k+1) x ps.length (kQ c.N.length g):=by
 obtain⟨f,fd,a,F⟩:=D
 refine⟨f,fd,ps,?_,PySem.W.mg_of KX NS a,F.kp,F.binds hb⟩
 subst hg
 refine JZ F S λcdv T5 A outer s H E hr=>?_
 refine qu (k:=k) 30 c _ ⟨rfl,hn,S.nd,zy hr,λ_=>⟨hr,rfl⟩,λ_=>⟨rfl,IV⟩,T.cst,T.bl,T.fns,λ_=>⟨rfl,rfl,rfl⟩,λ_ _=>rfl,S.kind,T.tab,T.cls,T.x9,T.Bq,rW.of hr,T.Eu,⟨T.x.lam,T.x.BZ,T.x.M1,λ_ z=>?_,T.x.sk,T.x.Ka⟩,⟨_,_,_,rfl,rfl,rfl⟩,.inl hr.hd⟩ _
 obtain⟨P',L⟩:=T.x.at' z
 obtain⟨M,e⟩:=hM z
 exact⟨P',Fc.at' L M (by rw[e];exact a) T5 rfl (by rw[e];rfl)⟩
theorem IW{P:YB}{w:YE}{K:PySem.W.Frag}{mg:Str->Option YD}{h:Heap}{k:Nat}{F:List Wv->Hs->Re Wv}{fa:Yx}{st:Stmt}(KX:K.In h)(NS:h.Ns YN mg)(hmg:mg "law"=some (.ref fa))(D:dD K "law" st)
  (hp:∀(kV doc pm:YD)(an:Option Yx)(cdv ct:YD)(s:YC)(u:YD),BindsTo s (PySem.W.fnOf "law" "law" (defArgs st) (defBody st) (defScope st) .none kV doc pm an cdv ct) ⟨[u],[]⟩ [("script",u)])
  (FN:∀(f:Yx)(fd:Yz),LD K "law" "law" st f fd->∀base:Heap,K.In base->base.Ns YN mg->FnOk P w K mg base (CXJ P w) k f fd ["script"] (spW K 1 F)) :
  ∃fd:Yz,(∀(s:YC)(u:YD),BindsTo s fd ⟨[u],[]⟩ [("script",u)])/\∀base:Heap,K.In base->base.Ns YN mg->FnOk P w K mg base (CXJ P w) k fa fd ["script"] (spW K 1 F):=by
 obtain⟨f,fd,a,Fu⟩:=D
 have e:=hmg.symm.trans (PySem.W.mg_of KX NS a)
 cases e
 refine⟨fd,λs u=>?_,FN fa fd Fu⟩
 obtain⟨oc,od,kV,doc,pm,an,cdv,ct,osl,rfl,lk,hcd⟩:=Fu.ex
 exact hp kV doc pm an cdv ct s u
theorem Nf{P:YB}{w:YE}{K:PySem.W.Frag}{mg:Str->Option YD}{base:Heap}{k:Nat}{c:Ct}{x:Str}{st:Stmt}{ps:List Str}{g:GS}{f:Yx}{fd:Yz}(F:LD K x x st f fd)(T:Fd c k P w K mg base)
  (S:FnScope c.N ps (defScope st))(hn:(defScope st).names=c.names)(hg:df 30 c (defBody st)=g)(hs:c.self∉dv:=by exact(show("":Str)∉dv by decide)):FnOk P w K mg base (CXJ P w) (k+1) f fd ps (spW K ps.length (kQ c.N.length g)):=by
 subst hg
 refine JZ F S λcdv _ A outer s H E hr=>?_
 exact qu (k:=k) 30 c _ ⟨rfl,hn,S.nd,zy hr,λ_=>⟨hr,rfl⟩,λ_=>⟨rfl,IV⟩,T.cst,T.bl,T.fns,λ_=>⟨rfl,rfl,rfl⟩,λ_ _=>rfl,S.kind,T.tab,T.cls,T.x9,T.Bq,rW.of hr,T.Eu,⟨T.x.lam,T.x.BZ,T.x.M1,λ_ z=>absurd z hs,T.x.sk,T.x.Ka⟩,⟨_,_,_,rfl,rfl,rfl⟩,.inl hr.hd⟩ _
def AllP{α:Type}(P:α->Prop):List α->Prop
 | []=>True
 | a::l=>P a/\AllP P l
theorem AllP.look{κ β:Type}[BEq κ][LawfulBEq κ]{P:κ×β->Prop}:∀{l:List (κ×β)}{x:κ}{b:β},AllP P l->l.lookup x=some b->P (x,b)
 | [],_,_,_,h=>by cases h
 | (y,c)::l,x,b,a,h=>by
  rw[gB] at h
  cases e:x == y with
  | true=>
   rw[e] at h
   cases h
   have e':=eq_of_beq e
   subst e'
   exact a.1
  | false=>rw[e] at h;exact AllP.look a.2 h
theorem AllP.mem{P:Str->Prop}:∀{l:List Str}{x:Str},AllP P l->l.contains x=true->P x
 | [],_,_,h=>by cases h
 | y::l,x,a,h=>by
  rw[xv,Bool.or_eq_true] at h
  rcases h with e | h
  ·have e':=eq_of_beq e
   subst e'
   exact a.1
  ·exact AllP.mem a.2 h
theorem mz{K:PySem.W.Frag}{c:PySem.Str}{C D:Yx}(h:ClsAt K c C)(k:ClsAt K c D):C=D:=by
 unfold ClsAt at h k
 rw[h] at k
 cases k
 rfl
theorem Ng{K:PySem.W.Frag}{tb:Tab}{tt:ve}{tc:Tab}(h:AllP (λp=>∃C D,ClsAt K p.1.1 C/\ClsAt K p.1.2 D/\lU K C/\PySem.W.kitOne K (.ref C) (.ref D)=some p.2) tb)
  (g:AllP (λp=>∃C,ClsAt K p.1.1 C/\lU K C/\PySem.W.kitOne K (.ref C) (.type p.1.2)=some p.2) tt)
  (f:AllP (λp=>∃C D,ClsAt K p.1.1 C/\ClsAt K p.1.2 D/\PySem.W.excIn K C AM AN=true/\PySem.W.excIn K D AM AN=true/\PySem.W.mroIn K C (.ref D)=some p.2) tc):TabOk K tb tt tc :=
 ⟨λc d b C D e hC hD=>by
  obtain⟨C',D',q1,q2,r⟩:=AllP.look h e
  cases mz hC q1
  cases mz hD q2
  exact r,λc d b C D e hC hD=>by
  obtain⟨C',D',q1,q2,r⟩:=AllP.look f e
  cases mz hC q1
  cases mz hD q2
  exact r,λc T b C e hC=>by
  obtain⟨C',q1,r⟩:=AllP.look g e
  cases mz hC q1
  exact r⟩
theorem bA{c:Ct}{k:Nat}{P:YB}{w:YE}{K:PySem.W.Frag}{mg:Str->Option YD}{base:Heap}(hc:AllP (λp=>Ey K mg p.1 p.2) c.consts)(hb:AllP (λx=>mg x=none) c.bl)(hf:AllP (λp=>jq P w K mg base k p.1 p.2.1 p.2.2) c.fns)
  (ht:TabOk K c.tb c.tt c.tc)(hk:AllP (λx=>∃C,mg x=some (.ref C)/\Hz K x C) c.clss)(hn:AllP (λx=>∃C,mg x=some (.ref C)/\ClsAt K x C) c.x9)(hd:AllP (λp=>m8 K w mg p.1 p.2) c.Bq)
  (hu:AllP (λx=>∀n F,c.fns.lookup x=some (n,F)->MO P w K mg base k x n F) c.Eu:=by exact trivial)(hx:BG c k P w K mg base:=by exact BG.no rfl rfl rfl rfl):Fd c k P w K mg base :=
 ⟨λ_ _ h=>hc.look h,λ_ h=>hb.mem h,λx n F h=>hf.look (b:=(n,F)) h,ht,λ_ h=>hk.mem h,λ_ h=>hn.mem h,λx kvs h=>hd.look (b:=kvs) h,λx n F h k=>hu.mem h n F k,hx⟩
theorem IX{c:Ct}{k:Nat}{P:YB}{w:YE}{K:PySem.W.Frag}{mg:Str->Option YD}{base:Heap}(hl:c.lam=none)(hf:AllP (λq=>TF P w K mg k c.lj q.1 q.2) c.BZ)
  (hj:AllP (λx=>∀n F,c.fns.lookup x=some (n,F)->∀base,Bb K mg base->jq P w K mg base c.lj x n F) c.Rp)(ha:c.self∈dv->∃P,Fc K mg c.self P)(hk:c.sk<=k:=by exact bZ _)(hK:AllP (λx=>∀n F,c.fns.lookup x=some (n,F)->jq P w K mg base c.lj x n F) c.F8:=by exact trivial):BG c k P w K mg base :=
 ⟨(λp L e=>by rw[hl] at e;cases e),λx F e=>hf.look (b:=F) e,λx n F e h=>hj.mem h n F e,ha,hk,λx n F e h=>hK.mem h n F e⟩
def Rs.sq(r:Rs)(h:GS):Rs:=match r with
 | .nx ρ st=>h ρ st
 | r=>r
section
variable {α β:Type} {ρ ρ':a9} {st:Hs} {h g Yq Yr:GS} {ga gb gc:GE} {gt gu:GT} {w:Wv} {c:PySem.Str} {f:α->Hs->Re β} {k:α->Hs->Rs} {a:α} {i:Nat}
@[simp] theorem cS:(Rs.nx ρ st).sq h=h ρ st:=rfl
@[simp] theorem VJ:(Rs.rt w st).sq h= .rt w st:=rfl
@[simp] theorem VL:(Rs.bk ρ st).sq h= .bk ρ st:=rfl
@[simp] theorem VM:(Rs.ct ρ st).sq h= .ct ρ st:=rfl
@[simp] theorem T6:(Rs.err c ρ st).sq h= .err c ρ st:=rfl
@[simp] theorem T7:Rs.bad.sq h= .bad:=rfl
@[simp] theorem aM:(Re.ok a st).bind f=f a st:=rfl
@[simp] theorem Qt:(Re.err c st).bind f= .err c st:=rfl
@[simp] theorem Qu:(Re.bad:Re α).bind f= .bad:=rfl
@[simp] theorem dh:(Re.ok a st).bg ρ k=k a st:=rfl
@[simp] theorem Rt:(Re.err c st:Re α).bg ρ k= .err c ρ st:=rfl
@[simp] theorem nr:(Re.ok a st).je= .ok a st:=rfl
@[simp] theorem Ru:(Re.bad:Re α).je= .bad:=rfl
@[simp] theorem Rv:(Re.bad:Re α).bg ρ k= .bad:=rfl
@[simp] theorem cT:bx g h ρ st=(g ρ st).sq h:=by unfold bx Rs.sq;cases g ρ st<;>rfl
@[simp] theorem e_next:cR ρ st= .nx ρ st:=rfl
@[simp] theorem Kj:cb ga ρ st=(ga ρ st).bg ρ λw st'=> .rt w st':=rfl
@[simp] theorem e_expr:jm ga ρ st=(ga ρ st).bg ρ λ_ st'=> .nx ρ st':=rfl
@[simp] theorem qv:bM i ga ρ st=(ga ρ st).bg ρ λw st'=> .nx (ρ.set i (some w)) st':=rfl
def T8(ga gb:GS)(ρ:a9):Bool->Hs->Rs:=λb st'=>if b=true then ga ρ st' else gb ρ st'
@[simp] theorem VN:T8 g h ρ true st=g ρ st:=rfl
@[simp] theorem VO:T8 g h ρ false st=h ρ st:=rfl
@[simp] theorem T9:oB gt g h ρ st=(gt ρ st).bg ρ (T8 g h ρ):=rfl
def VP(o:Option (Option Wv))(st:Hs):Re Wv:=match o with
 | some (some w)=> .ok w st
 | _=> .bad
@[simp] theorem dF:VP (some (some w)) st= .ok w st:=rfl
@[simp] theorem dH:ai i ρ st=VP ρ[i]? st:=rfl
@[simp] theorem e_c:gC w ρ st= .ok w st:=rfl
def kB(op:gM)(gb:GE)(ρ:a9):Wv->Hs->Re Wv:=λx st1=>(gb ρ st1).bind λy st2=>(op x y st2).je
@[simp] theorem Fe{op:gM}{x:Wv}:kB op gb ρ x st=(gb ρ st).bind λy st2=>(op x y st2).je:=rfl
@[simp] theorem vZ{op:gM}:az op ga gb ρ st=(ga ρ st).bind (kB op gb ρ):=rfl
@[simp] theorem Kk:c_ ga ρ st=(ga ρ st).bind F4:=rfl
@[simp] theorem Kl{b:Bool}:F4 (.bl b) st= .ok b st:=rfl
@[simp] theorem VQ:iu ga ρ st=(ga ρ st).bind tN:=rfl
@[simp] theorem T_{b:Bool}:tN (.bl b) st= .ok b st:=rfl
@[simp] theorem VR:pG gt ρ st=(gt ρ st).bind λb st1=> .ok (!b) st1:=rfl
def Qv(gb:GT)(ρ:a9):Bool->Hs->Re Bool:=λb st1=>if b=true then gb ρ st1 else .ok false st1
@[simp] theorem Ua:Qv gu ρ true st=gu ρ st:=rfl
@[simp] theorem Ub:Qv gu ρ false st= .ok false st:=rfl
def Uc(gb:GT)(ρ:a9):Bool->Hs->Re Bool:=λb st1=>if b=true then .ok true st1 else gb ρ st1
@[simp] theorem VS:Uc gu ρ true st= .ok true st:=rfl
@[simp] theorem VT:Uc gu ρ false st=gu ρ st:=rfl
@[simp] theorem Xo:JP gt gu ρ st=(gt ρ st).bind (Uc gu ρ):=rfl
def Ff(gb:GE)(ρ:a9):Wv->Hs->Re Wv:=λw st1=>match w with
 | .bl true=>gb ρ st1
 | .bl false=> .ok (.bl false) st1
 | _=> .bad
@[simp] theorem Rw:Ff gb ρ (.bl true) st=gb ρ st:=rfl
@[simp] theorem Rx:Ff gb ρ (.bl false) st= .ok (.bl false) st:=rfl
@[simp] theorem Ud:uY ga gb ρ st=(ga ρ st).bind (Ff gb ρ):=rfl
def Qw:Wv->Hs->Re Wv:=λw st1=>match w with
 | .bl b=> .ok (.bl (!b)) st1
 | _=> .bad
@[simp] theorem Ry{b:Bool}:Qw (.bl b) st= .ok (.bl (!b)) st:=rfl
def Nh(ga gb:GE)(ρ:a9):Bool->Hs->Re Wv:=λb st1=>if b=true then ga ρ st1 else gb ρ st1
@[simp] theorem Ue:Nh ga gb ρ true st=ga ρ st:=rfl
@[simp] theorem Ug:Nh ga gb ρ false st=gb ρ st:=rfl
@[simp] theorem VU:AB gt ga gb ρ st=(gt ρ st).bind (Nh ga gb ρ):=rfl
@[simp] theorem sj:au ρ st= .ok [] st:=rfl
def Km(gr:GA)(ρ:a9):Wv->Hs->Re (List Wv):=λx st1=>(gr ρ st1).bind λxs st2=> .ok (x::xs) st2
@[simp] theorem j5{gr:GA}{x:Wv}:Km gr ρ x st=(gr ρ st).bind λxs st2=> .ok (x::xs) st2:=rfl
@[simp] theorem nu{gr:GA}:ag ga gr ρ st=(ga ρ st).bind (Km gr ρ):=rfl
def Ni:List Wv->Hs->Re Wv:=λws st1=>if ws.length<=lim then .ok (.tup ws) st1 else .bad
theorem Nj{ws:List Wv}(hl:ws.length<=lim):Ni ws st= .ok (.tup ws) st:=if_pos hl
@[simp] theorem Kn{gr:GA}:i9 gr ρ st=(gr ρ st).bind Ni:=rfl
def uf:List Wv->Hs->Re Wv:=λws st1=>if ws.length<=lim then .ok (.ref st1.length) (st1++[.lst ws]) else .bad
theorem kZ{ws:List Wv}(hl:ws.length<=lim):uf ws st= .ok (.ref st.length) (st++[.lst ws]):=if_pos hl
@[simp] theorem Qx{gr:GA}:ip gr ρ st=(gr ρ st).bind uf:=rfl
section
variable {x x0 x1 x2 x3 x4 x5 x6 x7:Wv}
@[simp] theorem Fg:Ni [x0,x1] st= .ok (.tup [x0,x1]) st:=Nj (by simp[lim])
@[simp] theorem Uh:uf [] st= .ok (.ref st.length) (st++[.lst []]):=kZ (by simp[lim])
@[simp] theorem Ui:uf [x0] st= .ok (.ref st.length) (st++[.lst [x0]]):=kZ (by simp[lim])
@[simp] theorem Uj:uf [x0,x1] st= .ok (.ref st.length) (st++[.lst [x0,x1]]):=kZ (by simp[lim])
@[simp] theorem Nk:uf [x0,x1,x2,x3] st= .ok (.ref st.length) (st++[.lst [x0,x1,x2,x3]]):=kZ (by simp[lim])
end
def sr(n:Nat)(F:List Wv->Hs->Re Wv):List Wv->Hs->Re Wv:=λws st1=>if ws.length=n then F ws st1 else .bad
section
variable {F:List Wv->Hs->Re Wv} {x0 x1 x2 x3:Wv} {gr:GA}
@[simp] theorem Rz:sr 1 F [x0] st=F [x0] st:=rfl
@[simp] theorem IY:sr 2 F [x0,x1] st=F [x0,x1] st:=rfl
@[simp] theorem RA:sr 3 F [x0,x1,x2] st=F [x0,x1,x2] st:=rfl
@[simp] theorem RB:sr 4 F [x0,x1,x2,x3] st=F [x0,x1,x2,x3] st:=rfl
@[simp] theorem Nl{n:Nat}:a_ n F gr ρ st=(gr ρ st).bind (sr n F):=rfl
@[simp] theorem uh{op:List Wv->Hs->Re Wv}:aQ op gr ρ st=(gr ρ st).bind λws st1=>(op ws st1).je:=rfl
end
@[simp] theorem Xp{op:Wv->Hs->Re Wv}:O4 op ga ρ st=(ga ρ st).bind op:=rfl
@[simp] theorem VV{i:Int}:uX (.int i) st= .ok (.int (-i)) st:=rfl
@[simp] theorem VW{i j:Int}:ir (.int i) (.int j) st= .ok (.int (i+j)) st:=rfl
@[simp] theorem VX{i j:Int}:LY (.int i) (.int j) st= .ok (.int (i - j)) st:=rfl
@[simp] theorem Xq{i j:Int}:oLt (.int i) (.int j) st= .ok (.bl (decide (i < j))) st:=rfl
@[simp] theorem Xr{i j:Int}:oLe (.int i) (.int j) st= .ok (.bl (decide (i<=j))) st:=rfl
@[simp] theorem Xs{i j:Int}:Pa (.int i) (.int j) st= .ok (.bl (decide (j < i))) st:=rfl
@[simp] theorem Xt{i j:Int}:SF (.int i) (.int j) st= .ok (.bl (decide (j<=i))) st:=rfl
@[simp] theorem Xu{i j:Int}:oEq (.int i) (.int j) st= .ok (.bl (i == j)) st:=rfl
@[simp] theorem Xv{i j:Int}:xm (.int i) (.int j) st= .ok (.bl (!(i == j))) st:=rfl
@[simp] theorem Xw{i j:PySem.Str}:oEq (.str i) (.str j) st= .ok (.bl (i == j)) st:=rfl
@[simp] theorem Xx{i j:PySem.Str}:xm (.str i) (.str j) st= .ok (.bl (!(i == j))) st:=rfl
@[simp] theorem Xy{i j:Bool}:oEq (.bl i) (.bl j) st= .ok (.bl (i == j)) st:=by cases i<;>cases j<;>rfl
@[simp] theorem Xz{i j:Bool}:xm (.bl i) (.bl j) st= .ok (.bl (!(i == j))) st:=by cases i<;>cases j<;>rfl
theorem qw{i j:Int}(h:j≠0/\j.natAbs.log2 < 9000):jk (.int i) (.int j) st= .ok (.int (i.fdiv j)) st:=by show(if _ then _ else _)=_;rw[if_pos h]
theorem mB{i j:Int}(h:j≠0):oMod (.int i) (.int j) st= .ok (.int (i.fmod j)) st:=by show(if _ then _ else _)=_;rw[if_pos h]
theorem Qy{i j:Int}(h:IntMulOk i j):fQ (.int i) (.int j) st= .ok (.int (i * j)) st:=by show(if _ then _ else _)=_;rw[if_pos h]
theorem sv{i j:Int}(h1:-(2 ^ 64) < i)(h2:i < 2 ^ 64):fQ (.int i) (.int j) st= .ok (.int (i * j)) st:=Qy (IntMulOk.of_left (intBits_le_64 h1 h2))
theorem Fh{i j:Int}(h:0<=j/\j<=1000000/\i.natAbs < 2 ^ 64):pH (.int i) (.int j) st= .ok (.int (i ^ j.toNat)) st:=by show(if _ then _ else _)=_;rw[if_pos h]
theorem Fi{l:Nat}{i:Int}{ws:List Wv}{v:Wv}(h:aj st l=some ws)(h2:pg ws i=some v):mM (.ref l) (.int i) st= .ok v st:=by
 show(match aj st l with | some ws=>(match pg ws i with | some w=>Re.ok w st | none=> .bad) | none=> .bad)=_
 rw[h]
 dsimp only
 rw[h2]
theorem add_l{l k:Nat}{xs ys:List Wv}(h1:aj st l=some xs)(h2:aj st k=some ys)(hl:xs.length+ys.length<=lim):ir (.ref l) (.ref k) st= .ok (.ref st.length) (st++[.lst (xs++ys)]):=by
 show(match aj st l,aj st k with | some i,some j=>if i.length+j.length<=lim then Re.ok (Wv.ref st.length) (st++[Ob.lst (i++j)]) else .bad | _,_=> .bad)=_
 rw[h1,h2]
 exact if_pos hl
theorem Nm{i:Int}{ws:List Wv}{v:Wv}(h2:pg ws i=some v):mM (.tup ws) (.int i) st= .ok v st:=by
 show(match pg ws i with | some w=>Re.ok w st | none=> .bad)=_
 rw[h2]
end
theorem gH{n:Nat}{g:GS}{ws:List Wv}{st st':Hs}{w:Wv}(h:g (ws.map some++aD (n - ws.length) none) st= .rt w st'):kQ n g ws st= .ok w st':=by unfold kQ;rw[h]
theorem qx{n:Nat}{g:GS}{ws:List Wv}{st st':Hs}{ρ:a9}{c:PySem.Str}(h:g (ws.map some++aD (n - ws.length) none) st= .err c ρ st'):kQ n g ws st= .err c st':=by unfold kQ;rw[h]
section
variable {ρ:a9} {st:Hs} {ga gb gc:GE} {gl gh:GO}
def VY(gl gh:GO)(ρ:a9):Wv->Hs->Re Wv:=λx st1=>(gl ρ st1).bind λlo st2=>(gh ρ st2).bind λhi st3=>DO x lo hi st3
@[simp] theorem RC:ft ga gl gh ρ st=(ga ρ st).bind (VY gl gh ρ):=rfl
@[simp] theorem VZ{x:Wv}:VY gl gh ρ x st=(gl ρ st).bind λlo st2=>(gh ρ st2).bind λhi st3=>DO x lo hi st3:=rfl
@[simp] theorem Qz:gT ρ st= .ok none st:=rfl
def Ko:Wv->Hs->Re (Option Int):=λw st1=>match w with
 | .int i=> .ok (some i) st1
 | _=> .bad
@[simp] theorem Uk:kF ga ρ st=(ga ρ st).bind Ko:=rfl
@[simp] theorem RD{i:Int}:Ko (.int i) st= .ok (some i) st:=rfl
theorem IZ{l:Nat}{ws:List Wv}{lo hi:Option Int}(h:aj st l=some ws):DO (.ref l) lo hi st= .ok (.ref st.length) (st++[.lst (lR ws lo hi)]):=by
 show(match aj st l with | some ws=>Re.ok (Wv.ref st.length) (st++[Ob.lst (lR ws lo hi)]) | none=> .bad)=_
 rw[h]
theorem Kp{l:Nat}{ws:List Wv}(h:aj st l=some ws):lS [.ref l] st= .ok (.int ws.length) st:=by
 show(match aj st l with | some ws=>Re.ok (Wv.int ws.length) st | none=> .bad)=_
 rw[h]
def Ul(op':gM)(gc:GE)(y:Wv)(ρ:a9):Wv->Hs->Re Wv:=λz st3=>match z with
 | .bl true=>(gc ρ st3).bind λu F5=>(op' y u F5).je
 | .bl false=> .ok (.bl false) st3
 | _=> .bad
def Um(op' Nn:gM)(gc gd:GE)(y:Wv)(ρ:a9):Wv->Hs->Re Wv:=λz st3=>match z with
 | .bl true=>(gc ρ st3).bind λu F5=>(op' y u F5).je.bind (Ul Nn gd u ρ)
 | .bl false=> .ok (.bl false) st3
 | _=> .bad
@[simp] theorem Uo{op' Nn:gM}{gd:GE}{y:Wv}:Um op' Nn gc gd y ρ (.bl false) st= .ok (.bl false) st:=rfl
def BH(cat:PySem.Str->Option Bool)(i:Nat)(gs:GS)(r:Rs):Rs:=match r with
 | .err c ρ' st'=>(match cat c with
  | some true=>(match gs (ρ'.set i (some (.lO c))) st' with
   | .nx ρ2 st2=> .nx (ρ2.set i none) st2
   | .rt w st2=> .rt w st2
   | _=> .bad)
  | _=> .bad)
 | r=>r
@[simp] theorem V0{cat:PySem.Str->Option Bool}{i:Nat}{g gs:GS}:AV cat i g gs ρ st=BH cat i gs (g ρ st):=by
 unfold AV BH
 cases g ρ st<;>rfl
@[simp] theorem RE{cat:PySem.Str->Option Bool}{i:Nat}{gs:GS}:BH cat i gs (.nx ρ st)= .nx ρ st:=rfl
@[simp] theorem RF{cat:PySem.Str->Option Bool}{i:Nat}{gs:GS}{w:Wv}:BH cat i gs (.rt w st)= .rt w st:=rfl
def Kq(cat:PySem.Str->Option Bool)(gs:GS)(r:Rs):Rs:=match r with
 | .err c ρ' st'=>(match cat c with
  | some true=>(match gs ρ' st' with
   | .nx ρ2 st2=> .nx ρ2 st2
   | .rt w st2=> .rt w st2
   | _=> .bad)
  | _=> .bad)
 | r=>r
@[simp] theorem QA{cat:PySem.Str->Option Bool}{gs:GS}:Kq cat gs (.nx ρ st)= .nx ρ st:=rfl
@[simp] theorem QB{cat:PySem.Str->Option Bool}{gs:GS}{w:Wv}:Kq cat gs (.rt w st)= .rt w st:=rfl
theorem Fj{cat:PySem.Str->Option Bool}{i:Nat}{gs:GS}{c:PySem.Str}{ρ2:a9}{st2:Hs}(h:cat c=some true)(k:gs (ρ.set i (some (.lO c))) st= .nx ρ2 st2):BH cat i gs (.err c ρ st)= .nx (ρ2.set i none) st2:=by
 unfold BH
 simp only[h,k]
end
theorem aw{st:Hs}{ws:List Wv}:aj (st++[.lst ws]) st.length=some ws:=by unfold aj;simp
theorem fk{st:Hs}{o:Ob}{l:Nat}{ws:List Wv}(h:aj st l=some ws):aj (st++[o]) l=some ws:=by
 have hl:l < st.length:=by
  unfold aj at h
  cases e:st[l]? with
  | none=>rw[e] at h;cases h
  | some o=>exact(List.getElem?_eq_some_iff.mp e).1
 unfold aj at h ⊢
 rw[cG hl]
 exact h
theorem qy{st:Hs}{l:Nat}{ws:List Wv}(h:aj st l=some ws):l < st.length:=by
 unfold aj at h
 cases e:st[l]? with
 | none=>rw[e] at h;cases h
 | some o=>exact(List.getElem?_eq_some_iff.mp e).1
def bN(l:Nat)(st st':Hs):Prop:=st.length<=st'.length/\∀k,k < st.length->k≠l->st'[k]? =st[k]?
theorem bN.refl{l:Nat}{st:Hs}:bN l st st:=⟨ak _,λ_ _ _=>rfl⟩
theorem bN.trans{l:Nat}{a b c:Hs}(h:bN l a b)(k:bN l b c):bN l a c:=⟨aX h.1 k.1,λj h1 h2=>(k.2 j (bK h1 h.1) h2).trans (h.2 j h1 h2)⟩
theorem bN.push{l:Nat}{st:Hs}{o:Ob}:bN l st (st++[o]):=⟨by simp,λk h _=>cG h⟩
theorem bN.set{l:Nat}{st:Hs}{o:Ob}:bN l st (st.set l o):=⟨by simp,λk _ h=>bW (λz=>h z.symm)⟩
theorem bN.lst{l:Nat}{st st':Hs}(k:bN l st st'){j:Nat}{ws:List Wv}(h:aj st j=some ws)(hj:j≠l):aj st' j=some ws:=by
 unfold aj at h ⊢
 rw[k.2 j (qy (st:=st) (ws:=ws) (by unfold aj;exact h)) hj]
 exact h
@[simp] theorem RG{i:Nat}{ga:GA}{gb:GS}{ρ:a9}{st:Hs}:tO i ga gb ρ st=(ga ρ st).bg ρ λws st1=>match ws with
 | [.int j]=>if lT j then ja i gb (cn 0 j.toNat) ρ st1 else .bad
 | _=> .bad:=rfl
@[simp] theorem RH{c:PySem.Str}{ga:GA}{ρ:a9}{st:Hs}:tP c ga ρ st=(ga ρ st).bg ρ λws st1=>if ws.length<=lim then .err c ρ st1 else .bad:=rfl
def Kr(mt:Wv->Wv->Hs->Re Wv)(ga:GE)(ρ:a9):Wv->Hs->Re Wv:=λo st1=>match o with
 | .ref l=>(match aj st1 l with
  | some _=>(ga ρ st1).bind λv st2=>(mt o v st2).je
  | none=> .bad)
 | _=> .bad
@[simp] theorem Uq{mt:Wv->Wv->Hs->Re Wv}{go ga:GE}{ρ:a9}{st:Hs}:dE mt go ga ρ st=(go ρ st).bind (Kr mt ga ρ):=rfl
theorem zN{mt:Wv->Wv->Hs->Re Wv}{ga:GE}{ρ:a9}{st:Hs}{l:Nat}{ws:List Wv}(h:aj st l=some ws):Kr mt ga ρ (.ref l) st=(ga ρ st).bind λv st2=>(mt (.ref l) v st2).je:=by
 show(match aj st l with | some _=>(ga ρ st).bind λv st2=>(mt (.ref l) v st2).je | none=> .bad)=_
 rw[h]
theorem zO{st:Hs}{l:Nat}{v:Wv}{ws:List Wv}(h:st[l]? =some (.lst ws))(hl:ws.length < lim):iL (.ref l) v st= .ok .ay (st.set l (.lst (ws++[v]))):=by
 show(match st[l]? with | some (.lst ws)=>if ws.length < lim then Re.ok Wv.ay (st.set l (.lst (ws++[v]))) else .bad | _=> .bad)=_
 rw[h]
 exact if_pos hl
def kFor(i:Nat)(gb:GS)(ρ:a9):Wv->Hs->Rs:=λw st1=>match w with
 | .ref l=>(match aj st1 l with | some ws=>forL i gb l ws ws ρ st1 | none=> .bad)
 | .tup ws=>ja i gb ws ρ st1
 | .pB ws=>ja i gb ws ρ st1
 | _=> .bad
@[simp] theorem zP{i:Nat}{ga:GE}{gb:GS}{ρ:a9}{st:Hs}:n9 i ga gb ρ st=(ga ρ st).bg ρ (kFor i gb ρ):=rfl
theorem Fl{i:Nat}{gb:GS}{ρ:a9}{st:Hs}{l:Nat}{ws:List Wv}(h:aj st l=some ws):kFor i gb ρ (.ref l) st=forL i gb l ws ws ρ st:=by
 show(match aj st l with | some ws=>forL i gb l ws ws ρ st | none=> .bad)=_
 rw[h]
@[simp] theorem Fm{i:Nat}{gb:GS}{ρ:a9}{st:Hs}{ws:List Wv}:kFor i gb ρ (.tup ws) st=ja i gb ws ρ st:=rfl
theorem zQ{i:Nat}{gb:GS}(P:Nat->a9->Hs->Prop):∀(ws:List Wv)(k:Nat)(ρ:a9)(st:Hs),P k ρ st->
  (∀(j:Nat)(w:Wv),ws[j]? =some w->∀ρ st,P (k+j) ρ st->∃ρ' st',gb (ρ.set i (some w)) st= .nx ρ' st'/\P (k+j+1) ρ' st')->∃ρ' st',ja i gb ws ρ st= .nx ρ' st'/\P (k+ws.length) ρ' st'
 | [],k,ρ,st,h,_=>⟨ρ,st,rfl,h⟩
 | w::r,k,ρ,st,h,step=>by
  obtain⟨ρ1,st1,e1,p1⟩:=step 0 w rfl ρ st h
  obtain⟨ρ2,st2,e2,p2⟩:=zQ P r (k+1) ρ1 st1 p1 λj w hw ρ st hp=>by
   have e:k+(j+1)=k+1+j:=by omega
   have q:=step (j+1) w hw ρ st (by rw[e];exact hp)
   rw[e] at q
   exact q
  refine⟨ρ2,st2,?_,?_⟩
  ·unfold ja
   rw[e1]
   exact e2
  ·have e:k+(w::r).length=k+1+r.length:=by simp;omega
   rw[e]
   exact p2
@[simp] theorem Ur{i:Int}{st:Hs}:PK [.int i] st=PH [.int i] st:=rfl
@[simp] theorem Us{cs:dN}{gi:GI}{gt:GT}{ge:GE}{ρ:a9}{st:Hs}:aZ cs gi gt ge ρ st=(gi ρ st).bind (bU cs gt ge ρ):=rfl
@[simp] theorem RI{g:GE}{ρ:a9}{st:Hs}:aI g ρ st=(g ρ st).bind vx:=rfl
@[simp] theorem Ut{g:GA}{ρ:a9}{st:Hs}:vn g ρ st=(g ρ st).bind zc:=rfl
@[simp] theorem Uu{g:GA}{ρ:a9}{st:Hs}:To g ρ st=(g ρ st).bind J3:=rfl
@[simp] theorem Uv{g:GA}{ρ:a9}{st:Hs}:TJ g ρ st=(g ρ st).bind J7:=rfl
theorem yj{j:Int}{st:Hs}(h:lT j):zc [.int j] st= .ok (none,cn 0 j.toNat) st:=if_pos h
theorem ei{l:Nat}{st:Hs}{ws:List Wv}(h:aj st l=some ws):vx (.ref l) st= .ok (some l,ws) st:=by
 show(match aj st l with | some ws=>Re.ok (some l,ws) st | none=> .bad)=_
 rw[h]
@[simp] theorem Uw{st:Hs}{z:PySem.Str}:vx (.str z) st= .ok (none,hX z) st:=rfl
@[simp] theorem Fn{st:Hs}{ws:List Wv}:vx (.tup ws) st= .ok (none,ws) st:=rfl
theorem zR{st:Hs}{acc:List Wv}{v:Wv}(h:acc.length < lim):iL (.ref st.length) v (st++[.lst acc])= .ok .ay (st++[.lst (acc++[v])]):=by
 rw[zO (ws:=acc) (by simp) h]
 congr 1
 simp
theorem k_{w:Wk}{gt:Wv->Hs->Re Bool}{ge:Wv->Hs->Re Wv}{st:Hs}{t:Wv->Bool}{f:Wv->Wv}(ck:jb w st):∀(ws acc:List Wv),(∀v∈ws,∀acc,gt v (st++[.lst acc])= .ok (t v) (st++[.lst acc]))->
  (∀v∈ws,t v=true->∀acc,ge v (st++[.lst acc])= .ok (f v) (st++[.lst acc]))->acc.length+ws.length < lim->iz (jb w) gt ge st.length ws (st++[.lst acc])=some (st++[.lst (acc++(ws.filter t).map f)])
 | [],acc,_,_,_=>by simp[iz]
 | v::r,acc,h1,h2,hl=>by
  have hl':acc.length+(r.length+1) < lim:=hl
  unfold iz
  rw[h1 v aP acc]
  cases e:t v with
  | false=>
   dsimp only
   rw[if_pos (pQ ck),k_ ck r acc (λv hv=>h1 v (aJ _ hv)) (λv hv=>h2 v (aJ _ hv)) (by omega),xx (by simp[e])]
  | true=>
   dsimp only
   rw[h2 v aP e acc]
   dsimp only
   rw[zR (by omega)]
   dsimp only
   rw[if_pos (pQ ck),k_ ck r (acc++[f v]) (λv hv=>h1 v (aJ _ hv)) (λv hv=>h2 v (aJ _ hv)) (by simp;omega),xw e]
   simp
theorem bI{cs:dN}{gt:GT}{ge:GE}{ρ:a9}{w:Wk}{st:Hs}{t:Wv->Bool}{f:Wv->Wv}(ck:jb w st)(h1:∀v∈w.2,∀acc,gt (some v::cq cs ρ) (st++[.lst acc])= .ok (t v) (st++[.lst acc]))
  (h2:∀v∈w.2,t v=true->∀acc,ge (some v::cq cs ρ) (st++[.lst acc])= .ok (f v) (st++[.lst acc]))(hl:w.2.length < lim):bU cs gt ge ρ w st= .ok (.ref st.length) (st++[.lst ((w.2.filter t).map f)]):=by
 unfold bU
 rw[k_ ck w.2 [] h1 h2 (by simpa using hl)]
 simp
theorem Fo{α:Type}{ws:List α}{d:Int}(h0:0<=d)(h1:d < ws.length):∃v,L2.pg ws d=some v/\v∈ws:=by
 have hk:d.toNat < ws.length:=by omega
 have ek:d=((d.toNat:Nat):Int):=by omega
 refine⟨ws[d.toNat],?_,kU hk⟩
 have q:=L2.ou (bX hk)
 rw[<-ek] at q
 exact q
theorem fX{st:Hs}{l:Nat}{o o':Ob}(h:st[l]? =some o):(st.set l o')[l]? =some o':=kL (List.getElem?_eq_some_iff.mp h).1
theorem bO{st:Hs}{l:Nat}{o o':Ob}(h:st[l]? =some o):(st++[o'])[l]? =some o:=by rw[cG (List.getElem?_eq_some_iff.mp h).1];exact h
theorem aB{st:Hs}{l:Nat}{ws:List Wv}(h:st[l]? =some (.lst ws)):aj st l=some ws:=by unfold aj;rw[h]
theorem bS{st:Hs}{l:Nat}{o:Ob}(h:st[l]? =some o):l < st.length:=(List.getElem?_eq_some_iff.mp h).1
theorem cu{st:Hs}{o:Ob}:(st++[o])[st.length]? =some o:=by simp
def Fp(mt:PySem.Str->List Wv->Hs->Re Wv)(ga:GA)(ρ:a9):Wv->Hs->Re Wv:=λo st1=>match o with
 | .str z=>(ga ρ st1).bind λws st2=>(mt z ws st2).je
 | _=> .bad
@[simp] theorem RJ{mt:PySem.Str->List Wv->Hs->Re Wv}{go:GE}{ga:GA}{ρ:a9}{st:Hs}:kW mt go ga ρ st=(go ρ st).bind (Fp mt ga ρ):=rfl
@[simp] theorem QC{mt:PySem.Str->List Wv->Hs->Re Wv}{ga:GA}{ρ:a9}{st:Hs}{z:PySem.Str}:Fp mt ga ρ (.str z) st=(ga ρ st).bind λws st2=>(mt z ws st2).je:=rfl
@[simp] theorem V1{i:Int}{st:Hs}:C6 [.int i] st= .ok (.int (if i < 0 then -i else i)) st:=rfl
@[simp] theorem Fq{l:Nat}{st:Hs}{ns:List Int}(h:aj st l=some (ns.map Wv.int)):xC [.ref l] st= .ok (.int ns.sum) st:=by
 show(match aj st l with | some ws=>(match intsOf ws with | some ns=>Re.ok (Wv.int ns.sum) st | none=> .bad) | none=> .bad)=_
 rw[h]
 dsimp only
 rw[fh]
theorem ui{lo:Int}{n:Nat}{w:Wv}(h:w∈cn lo n):∃k:Int,w= .int k/\lo<=k/\k < lo+n:=by
 unfold cn at h
 obtain⟨k,hk,rfl⟩:=List.mem_map.mp h
 have:=List.mem_range.mp hk
 exact⟨lo+k,rfl,by omega,by omega⟩
theorem Np{i:Int}(h1:-1000000<=i)(h2:i<=1000000):lT i:=⟨by omega,by omega⟩
@[simp] theorem RK{F:List Wv->Hs->Re Wv}{st:Hs}:sr 0 F [] st=F [] st:=rfl
theorem yk{ga gb:GE}{ρ:a9}{st:Hs}(h:ga ρ st= .bad):kT ga gb ρ st=gb ρ st:=by unfold kT;rw[h]
theorem sx{w:Wk}{gt:Wv->Hs->Re Bool}{ge:Wv->Hs->Re Wv}{rr:Nat}(P:Hs->Prop)(E:Wv->Prop)(hP:∀st acc,P st->P (st.set rr (.lst acc)))(hck:∀st,P st->jb w st) :
  ∀(ws:List Wv),(∀v∈ws,∀st acc,P st->st[rr]? =some (.lst acc)->∃st1,gt v st= .ok true st1/\P st1/\st1[rr]? =some (.lst acc)/\∃u st2,ge v st1= .ok u st2/\E u/\P st2/\st2[rr]? =some (.lst acc))->
   ∀(acc:List Wv)(st:Hs),P st->st[rr]? =some (.lst acc)->acc.length+ws.length < lim->(∀a∈acc,E a)->∃st' acc',iz (jb w) gt ge rr ws st=some st'/\P st'/\st'[rr]? =some (.lst acc')/\(∀a∈acc',E a)/\acc'.length=acc.length+ws.length
 | [],_,acc,st,hp,hg,_,ha=>⟨st,acc,rfl,hp,hg,ha,rfl⟩
 | v::r,step,acc,st,hp,hg,hl,ha=>by
  obtain⟨st1,e1,p1,g1,u,st2,e2,hu,p2,g2⟩:=step v aP st acc hp hg
  have hl':acc.length+(r.length+1) < lim:=hl
  obtain⟨st3,Ux,f1,f2,f3,f4,f5⟩:=sx P E hP hck r (λv hv=>step v (aJ _ hv)) (acc++[u]) (st2.set rr (.lst (acc++[u]))) (hP _ _ p2) (fX g2) (by simp;omega) (by
   intro a h
   rcases List.mem_append.mp h with z | z
   ·exact ha a z
   ·simp at z;rw[z];exact hu)
  refine⟨st3,Ux,?_,f2,f3,f4,?_⟩
  ·unfold iz
   rw[e1]
   dsimp only
   rw[e2]
   dsimp only
   rw[zO g2 (by omega)]
   dsimp only
   rw[if_pos (hck _ (hP _ _ p2)),f1]
  ·rw[f5];simp;omega
def Gr(st st':Hs):Prop:=st.length<=st'.length/\∀k,k < st.length->st'[k]? =st[k]?
theorem Gr.refl{st:Hs}:Gr st st:=⟨ak _,λ_ _=>rfl⟩
theorem Gr.trans{a b c:Hs}(h:Gr a b)(k:Gr b c):Gr a c:=⟨aX h.1 k.1,λj h1=>(k.2 j (bK h1 h.1)).trans (h.2 j h1)⟩
theorem Gr.push{st:Hs}{o:Ob}:Gr st (st++[o]):=⟨by simp,λk h=>cG h⟩
theorem Gr.app{st xs:Hs}:Gr st (st++xs):=⟨by simp,λk h=>cG h⟩
theorem Gr.lst{st st':Hs}(k:Gr st st'){j:Nat}{ws:List Wv}(h:aj st j=some ws):aj st' j=some ws:=by
 unfold aj at h ⊢
 rw[k.2 j (qy (st:=st) (ws:=ws) (by unfold aj;exact h))]
 exact h
theorem Gr.get{st st':Hs}(k:Gr st st'){j:Nat}{o:Ob}(h:st[j]? =some o):st'[j]? =some o:=by rw[k.2 j (bS h)];exact h
theorem Gr.keep{st st':Hs}{l:Nat}(k:Gr st st'):bN l st st':=⟨k.1,λj h _=>k.2 j h⟩
theorem bN.gr{st st':Hs}{l:Nat}(h:st.length<=l)(k:bN l st st'):Gr st st':=⟨k.1,λj h1=>k.2 j h1 (by omega)⟩
theorem Gr.Nq{st s1 s2:Hs}{l:Nat}(h:st.length<=l)(g:Gr st s1)(k:bN l s1 s2):Gr st s2:=⟨aX g.1 k.1,λj h1=>(k.2 j (bK h1 g.1) (by omega)).trans (g.2 j h1)⟩
theorem qz{α:Type}(f:α->Wv){i:Nat}{gb:GS}{l:Nat}{all:List Wv}(full:List α)(P:List α->a9->Hs->Prop)
  (step:∀a pre post ρ st,full=pre++a::post->P pre ρ st->aj st l=some all->∃ρ' st',gb (ρ.set i (some (f a))) st= .nx ρ' st'/\aj st' l=some all/\P (pre++[a]) ρ' st') :
  ∀(post pre:List α)(ρ:a9)(st:Hs),full=pre++post->P pre ρ st->aj st l=some all->∃ρ' st',forL i gb l all (post.map f) ρ st= .nx ρ' st'/\P full ρ' st'/\aj st' l=some all
 | [],pre,ρ,st,hf,h,hl=>⟨ρ,st,rfl,by rw[hf];simpa using h,hl⟩
 | a::r,pre,ρ,st,hf,h,hl=>by
  obtain⟨ρ1,st1,e1,l1,p1⟩:=step a pre r ρ st hf h hl
  obtain⟨ρ2,st2,e2,p2,l2⟩:=qz f full P step r (pre++[a]) ρ1 st1 (by rw[hf];simp) p1 l1
  refine⟨ρ2,st2,?_,p2,l2⟩
  rw[aH]
  unfold forL
  rw[e1]
  simp only[if_pos l1]
  exact e2
theorem qA{α:Type}(f:α->Wv){i:Nat}{gb:GS}(full:List α)(P:List α->a9->Hs->Prop)
  (step:∀a pre post ρ st,full=pre++a::post->P pre ρ st->∃ρ' st',gb (ρ.set i (some (f a))) st= .nx ρ' st'/\P (pre++[a]) ρ' st') :
  ∀(post pre:List α)(ρ:a9)(st:Hs),full=pre++post->P pre ρ st->∃ρ' st',ja i gb (post.map f) ρ st= .nx ρ' st'/\P full ρ' st'
 | [],pre,ρ,st,hf,h=>⟨ρ,st,rfl,by rw[hf];simpa using h⟩
 | a::r,pre,ρ,st,hf,h=>by
  obtain⟨ρ1,st1,e1,p1⟩:=step a pre r ρ st hf h
  obtain⟨ρ2,st2,e2,p2⟩:=qA f full P step r (pre++[a]) ρ1 st1 (by rw[hf];simp) p1
  refine⟨ρ2,st2,?_,p2⟩
  rw[aH]
  unfold ja
  rw[e1]
  exact e2
theorem Fs{st:Hs}{x y:Wv}{d:PyData}(h1:aK st 20 x=some d)(h2:aK st 20 y=some d)(h:aN d d=true):xm x y st= .ok (.bl false) st:=by
 unfold xm
 rw[h1,h2]
 show Re.ok (Wv.bl (!PyData.eqv d d)) st=_
 rw[h]
 rfl
theorem nY{st:Hs}{n l:Nat}{ws:List Wv}(h:aj st l=some ws):aK st (n+1) (.ref l)=(eG (aK st n) ws).map tI:=by
 show(match aj st l with | some ws=>(eG (aK st n) ws).map tI | none=>none)=_
 rw[h]
theorem BI{α:Type}{f:α->Wv}{xs:List α}{lo hi:Option Int}:∃ys:List α,lR (xs.map f) lo hi=ys.map f/\ys.length<=xs.length:=by
 unfold lR
 rw[<-Ft,<-ym]
 exact⟨_,rfl,by simp;omega⟩
theorem QD{l:Nat}{st:Hs}{ns:List Int}(h:aj st l=some (ns.map Wv.int))(hn:ns.length < 64):DL [.ref l] st= .ok (.ref st.length) (st++[.lst ((kC ns).map Wv.int)]):=by
 unfold DL
 simp only[h,fh]
 rw[if_pos hn]
theorem Fv{l:Nat}{st:Hs}{n:Int}{ns:List Int}(h:aj st l=some ((n::ns).map Wv.int)):l5 [.ref l] st= .ok (.int (qZ n ns)) st:=by
 unfold l5
 simp only[h,fh]
theorem Fw{l:Nat}{st:Hs}{n:Int}{ns:List Int}(h:aj st l=some ((n::ns).map Wv.int)):l6 [.ref l] st= .ok (.int (q_ n ns)) st:=by
 unfold l6
 simp only[h,fh]
@[simp] theorem V2{i j:Int}{st:Hs}:l5 [.int i,.int j] st= .ok (.int (if j > i then j else i)) st:=rfl
@[simp] theorem V3{i j:Int}{st:Hs}:l6 [.int i,.int j] st= .ok (.int (if j < i then j else i)) st:=rfl
theorem QE{α:Type}{a:α}{r:List α}:L2.pg (a::r) 0=some a:=L2.ou (j:=0) rfl
open PySem L2
theorem tb_none{K:PySem.W.Frag}{H:Hp}(h1:PySem.W.nsIn K YN "form_of"=some none)(h2:PySem.W.nsIn K YN "formula_by"=some none)(h3:PySem.W.nsIn K YN "turned"=some none)(h4:PySem.W.nsIn K YN "readied_content"=some none)(h5:PySem.W.nsIn K YN "ordered"=some none):tu K H:=λq P hq e=>by
 have no:∀q,PySem.W.nsIn K YN q=some none->iI K q=none:=λq h=>by
  unfold iI PySem.W.tabIn
  rw[h]
 simp only[dv,List.mem_cons,List.not_mem_nil,or_false] at hq
 rcases hq with rfl | rfl | rfl | rfl | rfl
 ·rw[no _ h1] at e;cases e
 ·rw[no _ h2] at e;cases e
 ·rw[no _ h3] at e;cases e
 ·rw[no _ h4] at e;cases e
 ·rw[no _ h5] at e;cases e
theorem Nr{fd:Yz}{ps:List Str}(us:List YD)(hl:us.length=1)(h:∀a0:YD,bindArgs fd { pos:=[a0] }=pure (ps.zip [a0])):bindArgs fd { pos:=us }=pure (ps.zip us):=match us,hl with | [a0],_=>h a0
theorem ln2{fd:Yz}{ps:List Str}(us:List YD)(hl:us.length=2)(h:∀a0 a1:YD,bindArgs fd { pos:=[a0,a1] }=pure (ps.zip [a0,a1])):bindArgs fd { pos:=us }=pure (ps.zip us):=match us,hl with | [a0,a1],_=>h a0 a1
theorem Uy{fd:Yz}{ps:List Str}(us:List YD)(hl:us.length=3)(h:∀a0 a1 a2:YD,bindArgs fd { pos:=[a0,a1,a2] }=pure (ps.zip [a0,a1,a2])):bindArgs fd { pos:=us }=pure (ps.zip us):=match us,hl with | [a0,a1,a2],_=>h a0 a1 a2
theorem V4{fd:Yz}{ps:List Str}(us:List YD)(hl:us.length=4)(h:∀a0 a1 a2 a3:YD,bindArgs fd { pos:=[a0,a1,a2,a3] }=pure (ps.zip [a0,a1,a2,a3])):bindArgs fd { pos:=us }=pure (ps.zip us):=match us,hl with | [a0,a1,a2,a3],_=>h a0 a1 a2 a3
end J
namespace K75
open PySem J
open L2 (defScope defBody defArgs FnScope CX0 FnOk XK Hp)
def top (i:Nat):Stmt:=PySem.Challenge.pw_onelook_k75_groups_and_sums.main.body.getD i (.Pass ⟨0,0,0,0⟩)
def lC:Tab:=[(("NoColumn","NoColumn"),true),(("NoColumn","SheetError"),true)]
def kD:ve:=[(("NoColumn","ValueError"),true)]
def Fx:Tab:=[(("NoColumn","SheetError"),true)]
def cB(s:Stmt)(n b:List Str)(f:List (Str×Nat×(List Wv->Hs->Re Wv))):Ct:={ N:=n,names:=(defScope s).names,consts:=[],bl:=b,fns:=f,tb:=lC,tt:=kD,tc:=Fx }
theorem uj{N P:List Str}{sc:Scope}(h:sc.kind= .function/\sc.isCoroutine=false/\sc.isGenerator=false/\N.take P.length=P)(k:N.Nodup/\(∀x∈P,sc.names.lookup x=some .local\/sc.names.lookup x=some .cell)/\∀y∈sc.names,y.2≠.free):FnScope N P sc:=⟨h.1,h.2.1,h.2.2.1,k.1,h.2.2.2,k.2.1,k.2.2⟩
abbrev iN:Stmt:=top 18
def iO:GS:=(bx (bM 2 (az oMod (az ir (az fQ (az oMod (ai 0) (gC (.int 1000000007))) (gC (.int 48271))) (az fQ (az fQ (az ir (ai 1) (gC (.int 1))) (az ir (ai 1) (gC (.int 1)))) (gC (.int 69621)))) (gC (.int 2147483647))))
  (cb (az jk (az oMod (az fQ (ai 2) (ai 2)) (gC (.int 2147483629))) (gC (.int 8)))))
def iP:List Wv->Hs->Re Wv:=kQ 3 iO
def la:Ct:=cB iN ["cell","k","m"] [] []
theorem yo:df 30 (la) (defBody iN)=iO:=by kernel_rfl
theorem v5:FnScope (la).N ["cell","k"] (defScope iN):=uj ⟨rfl,rfl,rfl,rfl⟩ (by decide+kernel)
abbrev fu:Stmt:=top 19
def fm:GS:=(bx (jm (dE iL (ai 3) (az oMod (ai 4) (ai 1))))
  (bM 4 (az jk (ai 4) (ai 1))))
def gX:GT:=(λ_ st=> .ok true st)
def eN:GE:=(az oMod (a_ 2 iP (ag (ai 1) (ag (ai 0) au))) (ai 2))
def cN:GS:=(bx (bM 3 (ip au))
  (bx (oB (c_ (az oEq (az oMod (ai 0) (gC (.int 2))) (gC (.int 1)))) (bx (bM 4 (az jk (ai 0) (gC (.int 2))))
    (tO 5 (ag (ai 2) au) fm)) (bM 3 (aZ [("cell",0),("size",1)] (vn (ag (ai 2) au)) gX eN)))
  (cb (ai 3))))
def fz:List Wv->Hs->Re Wv:=kQ 6 cN
def h_:Ct:=cB fu ["cell","size","many","found","rest","k"] ["range"] [("_law_mix",2,iP)]
theorem rb:df 30 (h_) (defBody fu)=cN:=by kernel_rfl
theorem qB:FnScope (h_).N ["cell","size","many"] (defScope fu):=uj ⟨rfl,rfl,rfl,rfl⟩ (by decide+kernel)
abbrev fA:Stmt:=top 20
def gY:GT:=(λ_ st=> .ok true st)
def eO:GE:=(az mM (ai 1) (ai 0))
def fB:GS:=(bx (bM 2 (ip (ag (gC .ay) (ag (gC (.int 0)) (ag (gC (.int 1)) (ag (gC (.int 2)) (ag (O4 uX (gC (.int 1))) (ag (gC (.str "a")) (ag (gC (.str "b")) (ag (gC (.str "ab")) (ag (gC (.str "")) (ag (az pH (gC (.int 10)) (gC (.int 60))) (ag (O4 uX (az pH (gC (.int 10)) (gC (.int 60)))) (ag (gC (.str "1")) (ag (az fQ (gC (.str "x")) (gC (.int 200))) au)))))))))))))))
  (cb (aZ [("some",2)] (aI (a_ 3 fz (ag (ai 0) (ag (aQ lS (ag (ai 2) au)) (ag (ai 1) au))))) gY eO)))
def fF:List Wv->Hs->Re Wv:=kQ 3 fB
def ib:Ct:=cB fA ["cell","many","some"] ["len"] [("_law_digits",3,fz)]
theorem rf:df 30 (ib) (defBody fA)=fB:=by kernel_rfl
theorem qC:FnScope (ib).N ["cell","many"] (defScope fA):=uj ⟨rfl,rfl,rfl,rfl⟩ (by decide+kernel)
abbrev fY:Stmt:=top 21
def fo:GT:=(λ_ st=> .ok true st)
def dz:GE:=(aQ pS (ag (ft (ai 1) (kF (az fQ (ai 0) (ai 2))) (kF (az ir (az fQ (ai 0) (ai 2)) (ai 2)))) au))
def fZ:GS:=(bx (bM 3 (az mM (az ir (ai 0) (az fQ (ip (ag (gC (.int 0)) au)) (gC (.int 4)))) (ai 1)))
  (bx (bM 4 (az ir (gC (.int 1)) (az oMod (ai 3) (gC (.int 4)))))
  (bx (bM 5 (az oMod (az jk (ai 3) (gC (.int 4))) (az ir (ai 2) (gC (.int 1)))))
  (bx (bM 6 (ft (aQ pS (ag (az ir (ft (ip (ag (gC (.str "b")) (ag (gC (.str "a")) (ag (gC (.str "ab")) (ag (gC (.str "c")) au))))) (kF (az oMod (az jk (ai 3) (gC (.int 64))) (gC (.int 4)))) gT) (ft (ip (ag (gC (.str "b")) (ag (gC (.str "a")) (ag (gC (.str "ab")) (ag (gC (.str "c")) au))))) gT (kF (az oMod (az jk (ai 3) (gC (.int 64))) (gC (.int 4)))))) au)) gT (kF (ai 4))))
  (bx (bM 7 (a_ 2 fF (ag (aQ xC (ag (ft (ai 0) (kF (az ir (ai 1) (gC (.int 1)))) gT) au)) (ag (az fQ (ai 4) (ai 5)) au))))
  (bx (bM 8 (aQ pS (ag (aZ [("worths",7),("wide",4)] (vn (ag (ai 5) au)) fo dz) au)))
  (cb (i9 (ag (ai 6) (ag (ai 8) au))))))))))
def dA:List Wv->Hs->Re Wv:=kQ 9 fZ
def iQ:Ct:=cB fY ["script","at","rows_most","cell","wide","high","heads","worths","rows"] ["tuple","sum","range"] [("_law_worths",2,fF)]
theorem uk:df 30 (iQ) (defBody fY)=fZ:=by kernel_rfl
theorem rh:FnScope (iQ).N ["script","at","rows_most"] (defScope fY):=uj ⟨rfl,rfl,rfl,rfl⟩ (by decide+kernel)
abbrev gZ:Stmt:=top 22
def g_:GS:=(bx (oB (c_ (az N5 (ai 0) (gC .ay))) (cb (gC (.int 2))) cR)
  (cb (aQ rR (ag (aQ (jr lC kD) (ag (ai 0) (ag (gC (.ty "str")) au))) au))))
def di:List Wv->Hs->Re Wv:=kQ 1 g_
def jC:Ct:=cB gZ ["worth"] ["int","isinstance","str"] []
theorem v7:df 30 (jC) (defBody gZ)=g_:=by kernel_rfl
theorem um:FnScope (jC).N ["worth"] (defScope gZ):=uj ⟨rfl,rfl,rfl,rfl⟩ (by decide+kernel)
abbrev fG:Stmt:=top 23
def b4:GT:=(c_ (az oEq (az mM (ai 1) (ai 0)) (ai 2)))
def eP:GE:=(ai 0)
def cU:GT:=(λ_ st=> .ok true st)
def bP:GE:=(i9 (ag (ai 0) (ag (aZ [("column",1),("worth",0)] (vn (ag (aQ lS (ag (ai 1) au)) au)) b4 eP) au)))
def b6:GT:=(c_ (az N5 (ai 0) (gC .ay)))
def cV:GE:=(ai 0)
def b7:GT:=(c_ (az oEq (a_ 1 di (ag (ai 0) au)) (gC (.int 1))))
def cW:GE:=(ai 0)
def b8:GT:=(c_ (az oEq (a_ 1 di (ag (ai 0) au)) (gC (.int 0))))
def cX:GE:=(ai 0)
def cD:GS:=(oB (c_ (az (oa true) (ai 2) (ai 1))) (jm (dE iL (ai 1) (ai 2))) cR)
def dP:GS:=(bx (bM 1 (ip au))
  (bx (n9 2 (ai 0) cD)
  (bx (bM 3 (aQ jA (ag (aZ [] (aI (ai 1)) b8 cX) au)))
  (bx (bM 3 (az ir (ai 3) (aQ jA (ag (aZ [] (aI (ai 1)) b7 cW) au))))
  (bx (bM 3 (az ir (ai 3) (aZ [] (aI (ai 1)) b6 cV)))
  (cb (aZ [("column",0)] (aI (ai 3)) cU bP)))))))
def dQ:List Wv->Hs->Re Wv:=kQ 4 dP
def ic:Ct:={ cB fG ["column","unlike","worth","order"] ["sorted","range","len"] [("_law_rank",1,di)] with II:=["unlike"] }
theorem rj:df 30 (ic) (defBody fG)=dP:=by kernel_rfl
theorem qD:FnScope (ic).N ["column"] (defScope fG):=uj ⟨rfl,rfl,rfl,rfl⟩ (by decide+kernel)
abbrev hG:Stmt:=top 11
def i5:GT:=(λ_ st=> .ok true st)
def fN:GE:=(az mM (ai 0) (ai 1))
def eC:GS:=(bx (oB (c_ (az l7 (ai 1) (az mM (ai 0) (gC (.int 0))))) (tP "NoColumn" (ag (gC (.str "no head of the table")) au)) cR)
  (bx (bM 2 (kT bC (dE dY (aQ qd (ag (az mM (ai 0) (gC (.int 0))) au)) (ai 1))))
  (cb (aZ [("number",2)] (aI (az mM (ai 0) (gC (.int 1)))) i5 fN))))
def cF:List Wv->Hs->Re Wv:=kQ 3 eC
def jD:Ct:={ cB hG ["table","head","number"] ["list"] [] with clss:=["NoColumn"] }
theorem v9:df 30 (jD) (defBody hG)=eC:=by kernel_rfl
theorem uo:FnScope (jD).N ["table","head"] (defScope hG):=uj ⟨rfl,rfl,rfl,rfl⟩ (by decide+kernel)
abbrev hJ:Stmt:=top 12
def hR:GS:=(bx (oB (c_ (az N5 (ai 0) (gC .ay))) (cb (i9 (ag (gC (.int 2)) (ag (gC (.int 0)) au)))) cR)
  (cb (AB (iu (aQ (jr lC kD) (ag (ai 0) (ag (gC (.ty "str")) au)))) (i9 (ag (gC (.int 1)) (ag (ai 0) au))) (i9 (ag (gC (.int 0)) (ag (ai 0) au))))))
def dj:List Wv->Hs->Re Wv:=kQ 1 hR
def jE:Ct:=cB hJ ["worth"] ["isinstance","str"] []
theorem v_:df 30 (jE) (defBody hJ)=hR:=by kernel_rfl
theorem uq:FnScope (jE).N ["worth"] (defScope hJ):=uj ⟨rfl,rfl,rfl,rfl⟩ (by decide+kernel)
abbrev hU:Stmt:=top 14
def i6:GT:=(λ_ st=> .ok true st)
def fO:GE:=(i9 (ag (ai 0) (ag (vF (ai 1) (ai 0)) au)))
def cE:GS:=(jm (dE iL (jz (ai 2) (ai 4) (ip au)) (ai 3)))
def eD:GS:=(bx (bM 2 qc)
  (bx (rY [3,4] (m_ (ag (a_ 2 cF (ag (ai 0) (ag (ai 1) au))) au)) cE)
  (cb (aZ [("groups",2)] (aI (sf false dj (ai 2))) i6 fO))))
def bB:List Wv->Hs->Re Wv:=kQ 5 eD
def jF:Ct:={ cB hU ["table","head","groups","number","worth"] ["enumerate","sorted"] [("column_of",2,cF),("order_key",1,dj)] with Ql:=["groups"],lj:=1,sk:=3,F8:=["order_key"] }
theorem wa:df 30 (jF) (defBody hU)=eD:=by kernel_rfl
theorem ur:FnScope (jF).N ["table","head"] (defScope hU):=uj ⟨rfl,rfl,rfl,rfl⟩ (by decide+kernel)
abbrev iR:Stmt:=top 7
def lb:GS:=(cb (az Pa (aQ C6 (ag (ai 0) au)) (az pH (gC (.int 10)) (gC (.int 60)))))
def gI:List Wv->Hs->Re Wv:=kQ 1 lb
def lh:Ct:=cB iR ["number"] ["abs"] []
theorem yq:df 30 (lh) (defBody iR)=lb:=by kernel_rfl
theorem wb:FnScope (lh).N ["number"] (defScope iR):=uj ⟨rfl,rfl,rfl,rfl⟩ (by decide+kernel)
abbrev oO:Stmt:=top 5
def zS:GS:=(cb (i9 (ag (gC (.str "fault")) (ag (ai 0) au))))
def iS:List Wv->Hs->Re Wv:=kQ 1 zS
def uu:Ct:=cB oO ["word"] [] []
theorem I_:df 30 (uu) (defBody oO)=zS:=by kernel_rfl
theorem Fy:FnScope (uu).N ["word"] (defScope oO):=uj ⟨rfl,rfl,rfl,rfl⟩ (by decide+kernel)
abbrev j6:Stmt:=top 8
def ny:GS:=(cb (AB (iu (a_ 1 gI (ag (ai 0) au))) (a_ 1 iS (ag (gC (.str "great")) au)) (ai 0)))
def gq:List Wv->Hs->Re Wv:=kQ 1 ny
def nz:Ct:=cB j6 ["number"] [] [("is_great",1,gI),("fault",1,iS)]
theorem BJ:df 30 (nz) (defBody j6)=ny:=by kernel_rfl
theorem yt:FnScope (nz).N ["number"] (defScope j6):=uj ⟨rfl,rfl,rfl,rfl⟩ (by decide+kernel)
abbrev iT:Stmt:=top 6
def qE:GS:=(cb (uY (aQ (jr lC kD) (ag (ai 0) (ag (gC (.ty "tuple")) au))) (az oEq (ft (ai 0) gT (kF (gC (.int 1)))) (i9 (ag (gC (.str "fault")) au)))))
def iU:List Wv->Hs->Re Wv:=kQ 1 qE
def ll:Ct:=cB iT ["worth"] ["isinstance","tuple"] []
theorem yu:df 30 (ll) (defBody iT)=qE:=by kernel_rfl
theorem wc:FnScope (ll).N ["worth"] (defScope iT):=uj ⟨rfl,rfl,rfl,rfl⟩ (by decide+kernel)
abbrev iV:Stmt:=top 9
def gJ:GT:=(iu (aQ (jr lC kD) (ag (ai 0) (ag (gC (.ty "int")) au))))
def jG:GE:=(ai 0)
def gK:GT:=(iu (a_ 1 iU (ag (ai 0) au)))
def jH:GE:=(ai 0)
def iW:GS:=(bx (bM 2 (aZ [] (aI (ai 1)) gK jH))
  (bx (oB (iu (ai 2)) (cb (az mM (ai 2) (gC (.int 0)))) cR)
  (bx (bM 3 (aZ [] (aI (ai 1)) gJ jG))
  (bx (oB (c_ (az oEq (ai 0) (gC (.str "sum")))) (cb (a_ 1 gq (ag (aQ xC (ag (ai 3) au)) au))) cR)
  (bx (oB (c_ (az oEq (ai 0) (gC (.str "count")))) (cb (aQ lS (ag (ai 3) au))) cR)
  (bx (oB (pG (iu (ai 3))) (cb (a_ 1 iS (ag (gC (.str "none")) au))) cR)
  (cb (a_ 1 gq (ag (AB (c_ (az oEq (ai 0) (gC (.str "least")))) (aQ l6 (ag (ai 3) au)) (aQ l5 (ag (ai 3) au))) au)))))))))
def eu:List Wv->Hs->Re Wv:=kQ 4 iW
def lp:Ct:=cB iV ["word","worths","faults","numbers"] ["len","isinstance","int","sum","min","max"] [("bounded",1,gq),("fault",1,iS),("is_fault",1,iU)]
theorem yv:df 30 (lp) (defBody iV)=iW:=by kernel_rfl
theorem we:FnScope (lp).N ["word","worths"] (defScope iV):=uj ⟨rfl,rfl,rfl,rfl⟩ (by decide+kernel)
abbrev cI:Stmt:=top 16
def cJ:GT:=(λ_ st=> .ok true st)
def bT:GE:=(az mM (ai 1) (ai 0))
def bH:GS:=(zi (aZ [("column",4)] (aI (ai 7)) cJ bT) (ai 5) (ai 6))
def aU:GS:=(bx (bM 3 (a_ 2 bB (ag (ai 0) (ag (ai 1) au))))
  (bx (bM 4 (a_ 2 cF (ag (ai 0) (ag (ai 2) au))))
  (bx (bM 5 qc)
  (bx (nQ [6,7] (ai 3) bH)
  (cb (ai 5))))))
def bJ:List Wv->Hs->Re Wv:=kQ 8 aU
def ez:Ct:={ cB cI ["table","head","other","groups","column","told","worth","numbers"] [] [("groups_by",2,bB),("column_of",2,cF)] with Ql:=["told"] }
theorem lr:df 30 (ez) (defBody cI)=aU:=by kernel_rfl
theorem kE:FnScope (ez).N ["table","head","other"] (defScope cI):=uj ⟨rfl,rfl,rfl,rfl⟩ (by decide+kernel)
abbrev j7:Stmt:=top 15
def fH:GT:=(λ_ st=> .ok true st)
def dR:GE:=(i9 (ag (ai 0) (ag (a_ 2 eu (ag (ai 2) (ag (ai 1) au))) au)))
def eE:GS:=(cb (gF 2 [("word",2)] (iB (a_ 3 bJ (ag (ai 0) (ag (ai 1) (ag (ai 3) au))))) fH dR))
def eF:List Wv->Hs->Re Wv:=kQ 4 eE
def nA:Ct:=cB j7 ["table","head","word","other"] [] [("gathered",2,eu),("worths_by_groups",3,bJ)]
theorem BK:df 30 (nA) (defBody j7)=eE:=by kernel_rfl
theorem yw:FnScope (nA).N ["table","head","word","other"] (defScope j7):=uj ⟨rfl,rfl,rfl,rfl⟩ (by decide+kernel)
abbrev eQ:Stmt:=top 25
def cY:GS:=(oB (c_ (az oEq (ai 0) (gC (.int 0)))) (jm (a_ 2 bB (ag (ai 1) (ag (ai 2) au)))) (jm (a_ 4 eF (ag (ai 1) (ag (ai 2) (ag (gC (.str "sum")) (ag (ai 3) au)))))))
def cZ:GS:=(bM 4 (ai 5))
def eR:GS:=(bx (bM 4 (gC .ay))
  (bx (AV (λy=>Fx.lookup (y,("SheetError":PySem.Str))) 5 cY cZ)
  (cb (aQ (jr lC kD) (ag (ai 4) (ag (gC (.cls "NoColumn")) au))))))
def aV:List Wv->Hs->Re Wv:=kQ 6 eR
def gL:Ct:={ cB eQ ["way","table","head","other","caught","e"] ["isinstance"] [("groups_by",2,bB),("sums_by",4,eF)] with clss:=["SheetError"],x9:=["NoColumn"] }
theorem qF:df 30 (gL) (defBody eQ)=eR:=by kernel_rfl
theorem og:FnScope (gL).N ["way","table","head","other"] (defScope eQ):=uj ⟨rfl,rfl,rfl,rfl⟩ (by decide+kernel)
abbrev d_:Stmt:=top 24
def cw:GT:=(c_ (az oEq (a_ 1 di (ag (ai 0) au)) (gC (.int 0))))
def dM:GE:=(ai 0)
def aW:GS:=(bx (bM 2 (aZ [] (aI (ai 1)) cw dM))
  (bx (oB (c_ (az oEq (ai 0) (gC (.str "count")))) (cb (aQ lS (ag (ai 2) au))) cR)
  (bx (oB (c_ (az oEq (ai 0) (gC (.str "sum")))) (bx (bM 3 (aQ xC (ag (ai 2) au)))
    (bx (oB (c_ (az Pa (aQ C6 (ag (ai 3) au)) (az pH (gC (.int 10)) (gC (.int 60))))) (cb (i9 (ag (gC (.str "fault")) (ag (gC (.str "great")) au)))) cR)
    (cb (ai 3)))) cR)
  (bx (oB (c_ (az oEq (ai 2) (ip au))) (cb (i9 (ag (gC (.str "fault")) (ag (gC (.str "none")) au)))) cR)
  (cb (az mM (ip (ag (aQ l6 (ag (ai 2) au)) (ag (aQ l5 (ag (ai 2) au)) au))) (aQ rR (ag (az oEq (ai 0) (gC (.str "greatest"))) au))))))))
def cM:List Wv->Hs->Re Wv:=kQ 4 aW
def fP:Ct:=cB d_ ["word","some","numbers","total"] ["len","sum","int","abs","min","max"] [("_law_rank",1,di)]
theorem oh:df 30 (fP) (defBody d_)=aW:=by kernel_rfl
theorem nB:FnScope (fP).N ["word","some"] (defScope d_):=uj ⟨rfl,rfl,rfl,rfl⟩ (by decide+kernel)
abbrev zT:Stmt:=top 26
def nC:GT:=(λ_ st=> .ok true st)
def j8:GE:=(az mM (ai 1) (ai 0))
def j9:GT:=(λ_ st=> .ok true st)
def gw:GE:=(i9 (ag (ai 0) (ag (a_ 2 cM (ag (ai 3) (ag (aZ [("column",2)] (aI (ai 1)) nC j8) au))) au)))
def jI:GS:=(bx (bM 12 (a_ 4 eF (ag (ai 1) (ag (ai 4) (ag (ai 11) (ag (ai 10) au))))))
  (bx (bM 13 (gF 2 [("column",5),("word",11)] (BB (aI (ai 6))) j9 gw))
  (oB (JP (pG (iu (aQ (jr lC kD) (ag (ai 12) (ag (gC (.ty "list")) au))))) (c_ (az xm (ai 12) (ai 13)))) (cb (gC (.bl false))) cR)))
def j_:GT:=(λ_ st=> .ok true st)
def j':GE:=(az mM (ai 0) (kT (kW kX (ai 1) (ag (ai 2) au)) (kT (dE dY (ai 1) (ai 2)) (jy fU (ai 1) (ai 2)))))
def jJ:GS:=(bx (bM 5 (aZ [("heads",2),("other",10)] (aI (ai 3)) j_ j'))
  (n9 11 (ip (ag (gC (.str "sum")) (ag (gC (.str "count")) (ag (gC (.str "least")) (ag (gC (.str "greatest")) au))))) jI))
def mC:GS:=(jm (dE iL (ai 9) (gC (.int 99))))
def ka:GT:=(λ_ st=> .ok true st)
def kh:GE:=(az mM (ai 0) (kT (kW kX (ai 1) (ag (ai 2) au)) (kT (dE dY (ai 1) (ai 2)) (jy fU (ai 1) (ai 2)))))
def jK:GS:=(bx (bM 5 (aZ [("heads",2),("head",4)] (aI (ai 3)) ka kh))
  (bx (bM 6 (a_ 1 dQ (ag (ai 5) au)))
  (bx (bM 7 (a_ 2 bB (ag (ai 1) (ag (ai 4) au))))
  (bx (oB (JP (pG (iu (aQ (jr lC kD) (ag (ai 7) (ag (gC (.ty "list")) au))))) (c_ (az xm (ai 7) (ai 6)))) (cb (gC (.bl false))) cR)
  (bx (nQ [8,9] (ai 7) mC)
  (bx (oB (c_ (az xm (a_ 2 bB (ag (ai 1) (ag (ai 4) au))) (ai 6))) (cb (gC (.bl false))) cR)
  (bx (n9 10 (ai 2) jJ)
  (oB (JP (pG (iu (a_ 4 aV (ag (gC (.int 1)) (ag (ai 1) (ag (ai 4) (ag (gC (.str "z")) au))))))) (pG (iu (a_ 4 aV (ag (gC (.int 1)) (ag (ai 1) (ag (gC (.str "z")) (ag (ai 4) au)))))))) (cb (gC (.bl false))) cR))))))))
def wg:GS:=(bx (bM 1 (a_ 3 dA (ag (ai 0) (ag (gC (.int 0)) (ag (gC (.int 12)) au)))))
  (bx (y0 [2,3] (ai 1))
  (bx (n9 4 (ai 2) jK)
  (cb (uY (a_ 4 aV (ag (gC (.int 0)) (ag (ai 1) (ag (gC (.str "z")) (ag (gC (.str "z")) au))))) (a_ 4 aV (ag (gC (.int 0)) (ag (ai 1) (ag (gC (.str "")) (ag (gC (.str "z")) au))))))))))
def F_law:List Wv->Hs->Re Wv:=kQ 14 wg
def Fz:Ct:=cB zT ["script","table","heads","rows","head","column","due","found","worth","numbers","other","word","told","want"] ["isinstance","list"] [("_law_table",3,dA),("_law_groups",1,dQ),("groups_by",2,bB),("_law_refused",4,aV),("sums_by",4,eF),("_law_gathered",2,cM)]
theorem QF:df 30 (Fz) (defBody zT)=wg:=by kernel_rfl
theorem Nt:FnScope (Fz).N ["script"] (defScope zT):=uj ⟨rfl,rfl,rfl,rfl⟩ (by decide+kernel)
inductive Wo
 | ay
 | int (i:Int)
 | str (z:PySem.Str)
 deriving DecidableEq
def Wo.w:Wo->Wv
 | .ay=> .ay
 | .int i=> .int i
 | .str z=> .str z
def Wo.eq:Wo->Wo->Bool
 | .ay,.ay=>true
 | .int i,.int j=>i == j
 | .str x,.str y=>x == y
 | _,_=>false
def Wo.lt:Wo->Wo->Bool
 | .int i,.int j=>decide (i < j)
 | .str x,.str y=>decide (x.cps.toList < y.cps.toList)
 | _,_=>false
def Wo.nn:Wo->Bool
 | .ay=>false
 | _=>true
def RL:Wv->Wo
 | .int i=> .int i
 | .str z=> .str z
 | _=> .ay
theorem Ks(a:Wo):RL a.w=a:=by cases a<;>rfl
section
variable {st:Hs}
theorem XA(a b:Wo):oEq a.w b.w st= .ok (.bl (a.eq b)) st:=by
 cases a<;>cases b<;>first | rfl | (show Re.ok (Wv.bl (aN _ _)) st=_;simp[aN,Wo.eq])
theorem Uz(a:Wo):N5 a.w .ay st= .ok (.bl (!a.nn)) st:=by cases a<;>rfl
theorem QG{x:Wv}{T:String}{b:Bool}(hT:xq T=true)(h:N6 st T x=some b)(hx:∀c,x≠.lO c):jr lC kD [x,.ty T] st= .ok (.bl b) st:=by
 have e:jr lC kD [x,.ty T] st=L9 [x,.ty T] st:=by
  cases x<;>first | rfl | exact absurd rfl (hx _)
 rw[e]
 show(if xq T=true then(match N6 st T x with | some b=>Re.ok (Wv.bl b) st | none=> .bad) else .bad)=_
 rw[if_pos hT,h]
def Wo.Nu:Wo->Bool
 | .str _=>true
 | _=>false
def Wo.V5:Wo->Bool
 | .int _=>true
 | _=>false
theorem aS(a:Wo):jr lC kD [a.w,.ty "str"] st= .ok (.bl a.Nu) st:=QG (by decide) (by cases a<;>rfl) (by cases a<;>intro c h<;>cases h)
end
def a7(r:List Wo):Wv:=.tup (r.map Wo.w)
def aO(hs:List PySem.Str)(rows:List (List Wo)):Wv:=.tup [.tup (hs.map Wv.str),.tup (rows.map a7)]
def Wo.ok:Wo->Bool
 | .str x=>aE x
 | .int i=>decide (-1000000000000000000000000000000000000000000000000000000000000<=i/\i<=1000000000000000000000000000000000000000000000000000000000000)
 | .ay=>true
structure Tb(hs:List PySem.Str)(rows:List (List Wo)):Prop where
 nd:hs.Nodup
 lo:1<=hs.length
 hi:hs.length<=5
 of:∀h∈hs,h="b"\/h="a"\/h="ab"\/h="c"\/h="zz"
 rw':rows.length<=14
 wd:∀r∈rows,r.length=hs.length
 ok:∀r∈rows,∀w∈r,w.ok=true
def col(rows:List (List Wo))(at':Nat):List Wo:=rows.map λr=>r.getD at' .ay
section
variable {hs:List PySem.Str} {rows:List (List Wo)} {st:Hs}
theorem UA:mM (aO hs rows) (.int 0) st= .ok (.tup (hs.map Wv.str)) st:=Nm rfl
theorem XB:mM (aO hs rows) (.int 1) st= .ok (.tup (rows.map a7)) st:=Nm rfl
theorem yx(l:List PySem.Str):(l.map Wv.str).all bF=true:=by
 rw[EY]
 intro w hw
 obtain⟨z,_,rfl⟩:=List.mem_map.mp hw
 rfl
theorem QH(l:List PySem.Str)(h:PySem.Str):((l.map Wv.str).any λz=>wJ z (.str h))=decide (h∈l):=by
 rw[FA]
 simp only[List.any_eq_true,List.mem_map,decide_eq_true_eq]
 constructor
 ·rintro⟨_,⟨z,hz,rfl⟩,e⟩
  have e':(z == h)=true:=e
  have:=eq_of_beq e'
  subst this
  exact hz
 ·intro hm
  exact⟨_,⟨h,hm,rfl⟩,show(h == h)=true from beq_self_eq_true h⟩
theorem Kt{h:PySem.Str}:l7 (.str h) (.tup (hs.map Wv.str)) st= .ok (.bl (!(decide (h∈hs)))) st:=by
 show(if bF (.str h)=true/\(hs.map Wv.str).all bF=true then Re.ok (Wv.bl (!((hs.map Wv.str).any λz=>wJ z (.str h)))) st else .bad)=_
 rw[if_pos ⟨rfl,yx hs⟩,QH]
theorem FC{at':Nat}{h:PySem.Str}(nd:hs.Nodup)(e:hs[at']? =some h):(hs.map Wv.str).findIdx? (λz=>wJ z (.str h))=some at':=by
 obtain⟨hl,e'⟩:=List.getElem?_eq_some_iff.mp e
 rw[DR]
 refine⟨by simpa using hl,?_,λj hj=>?_⟩
 ·rw[List.getElem_map,e']
  exact show(h == h)=true from beq_self_eq_true h
 ·rw[List.getElem_map]
  intro c
  have c':(hs[j] == h)=true:=c
  have:=eq_of_beq c'
  rw[<-e'] at this
  have:=(List.getElem_inj nd).mp this
  omega
theorem Nv{at':Nat}{h:PySem.Str}(nd:hs.Nodup)(e:hs[at']? =some h):fU (.tup (hs.map Wv.str)) (.str h) st= .ok (.int at') st:=by
 show(if bF (.str h)=true/\(hs.map Wv.str).all bF=true then(match(hs.map Wv.str).findIdx? (λz=>wJ z (.str h)) with | some j=>Re.ok (Wv.int (j:Nat)) st | none=> .bad) else .bad)=_
 rw[if_pos ⟨rfl,yx hs⟩,FC nd e]
theorem Nw{l at':Nat}{h:PySem.Str}(hl:aj st l=some (hs.map Wv.str))(nd:hs.Nodup)(e:hs[at']? =some h):dY (.ref l) (.str h) st= .ok (.int at') st:=by
 show(match aj st l with | some ws=>(if bF (.str h)=true/\ws.all bF=true then(match ws.findIdx? (λz=>wJ z (.str h)) with | some j=>Re.ok (Wv.int (j:Nat)) st | none=> .bad) else .bad) | none=> .bad)=_
 rw[hl]
 dsimp only
 rw[if_pos ⟨rfl,yx hs⟩,FC nd e]
def pick(at':Nat):Wv->Wv
 | .tup us=>us.getD at' .ay
 | _=> .ay
theorem wj{at':Nat}{r:List Wo}:pick at' (a7 r)=(r.getD at' .ay).w:=by
 show(r.map Wo.w).getD at' .ay=_
 simp only[cC,iH]
 cases r[at']?<;>rfl
theorem FD{at':Nat}{r:List Wo}(h:at' < r.length):mM (a7 r) (.int at') st= .ok (pick at' (a7 r)) st:=by
 refine Nm ?_
 rw[L2.ou (v:=(r.map Wo.w)[at']'(by simpa using h)) (bX _),wj]
 simp[h]
theorem qG{at':Nat}:((rows.map a7).filter λ_=>true).map (pick at')=(col rows at').map Wo.w:=by
 rw[List.filter_eq_self.mpr (λ_ _=>rfl),bE]
 unfold col
 rw[bE]
 exact kY λr _=>wj
theorem column{at':Nat}{h:PySem.Str}(T:Tb hs rows)(e:hs[at']? =some h):cF [aO hs rows,.str h] st= .ok (.ref (st.length+1)) (st++[.lst (hs.map Wv.str),.lst ((col rows at').map Wo.w)]):=by
 have hl:=(List.getElem?_eq_some_iff.mp e).1
 have hm:h∈hs:=sR e
 have li:qd [.tup (hs.map Wv.str)] st= .ok (.ref st.length) (st++[.lst (hs.map Wv.str)]):=rfl
 have ix:=Nw (st:=st++[.lst (hs.map Wv.str)]) aw T.nd e
 have km:=λga ρ=>zN (mt:=dY) (ga:=ga) (ρ:=ρ) (st:=st++[.lst (hs.map Wv.str)]) aw
 have nb:∀(ρ:a9)(st:Hs),bC ρ st= .bad:=λ_ _=>rfl
 have q:=bI (cs:=[("number",2)]) (gt:=i5) (ge:=fN) (ρ:=[some (aO hs rows),some (.str h),some (.int at')]) (w:=(none,rows.map a7)) (st:=st++[.lst (hs.map Wv.str)]) (t:=λ_=>true) (f:=pick at') trivial
  (λv _ acc=>rfl) (λv hv _ acc=>by
   obtain⟨r,hr,rfl⟩:=List.mem_map.mp hv
   unfold fN
   simp[cq,FD (show at' < r.length by rw[T.wd r hr];exact hl)])
  (by show(rows.map a7).length < lim;rw[av];have:=T.rw';unfold lim;omega)
 rw[show((none,rows.map a7):Wk).2=rows.map a7 from rfl,qG] at q
 refine gH (n:=3) (g:=eC) ?_
 have ga:kT bC (dE dY (aQ qd (ag (az mM (ai 0) (gC (.int 0))) au)) (ai 1)) [some (aO hs rows),some (.str h),none] st= .ok (.int at') (st++[.lst (hs.map Wv.str)]):=by
  rw[yk (nb _ _)]
  simp[UA,li,km,ix]
 unfold eC
 simp[UA,XB,Kt,hm,ga,q]
theorem sy{h:PySem.Str}(hn:h∉hs):cF [aO hs rows,.str h] st= .err "NoColumn" st:=by
 refine qx (n:=3) (g:=eC) (ρ:=[some (aO hs rows),some (.str h),none]) ?_
 unfold eC
 simp[UA,Kt,hn,lim]
end
section
variable {st:Hs}
theorem uv{l k:Nat}{c:List Wo}(h:aj st l=some (c.map Wo.w))(hk:k < c.length):mM (.ref l) (.int (k:Int)) st= .ok (c.getD k .ay).w st:=by
 refine Fi h ?_
 rw[L2.ou (v:=(c.map Wo.w)[k]'(by simpa using hk)) (bX _)]
 simp[hk]
theorem Ku{l:Nat}{c:List Wo}(h:aj st l=some (c.map Wo.w)):lS [.ref l] st= .ok (.int (c.length:Int)) st:=by
 have:lS [.ref l] st= .ok (.int ((c.map Wo.w).length:Int)) st:=by
  show(match aj st l with | some ws=>Re.ok (Wv.int ws.length) st | none=> .bad)=_
  rw[h]
 rw[this,av]
end
section
variable {st:Hs}
theorem wk{x m:Int}(h:0 < m):0<=x.fmod m/\x.fmod m < m:=⟨Int.fmod_nonneg_of_pos x h,Int.fmod_lt_of_pos x h⟩
def qH(c k:Int):Int:=(c.fmod 1000000007 * 48271+(k+1) * (k+1) * 69621).fmod 2147483647
def BL(c k:Int):Int:=((qH c k * qH c k).fmod 2147483629).fdiv 8
theorem mix{c k:Int}(h0:0<=k)(h1:k<=100):iP [.int c,.int k] st= .ok (.int (BL c k)) st:=by
 have b1:=wk (x:=c) (m:=1000000007) (by omega)
 have b2:=wk (x:=c.fmod 1000000007 * 48271+(k+1) * (k+1) * 69621) (m:=2147483647) (by omega)
 have k1:(k+1) * (k+1)<=101 * 101:=Int.mul_le_mul (by omega) (by omega) (by omega) (by omega)
 have k2:0<=(k+1) * (k+1):=Int.mul_nonneg (by omega) (by omega)
 have m1:=sv (st:=st) (i:=c.fmod 1000000007) (j:=48271) (by omega) (by omega)
 have m2:=sv (st:=st) (i:=k+1) (j:=k+1) (by omega) (by omega)
 have m3:=sv (st:=st) (i:=(k+1) * (k+1)) (j:=69621) (by omega) (by omega)
 have m4:=sv (st:=st) (i:=qH c k) (j:=qH c k) (by unfold qH;omega) (by unfold qH;omega)
 have a1:=mB (st:=st) (i:=c) (j:=1000000007) (by decide)
 have a2:oMod (.int (c.fmod 1000000007 * 48271+(k+1) * (k+1) * 69621)) (.int 2147483647) st= .ok (.int (qH c k)) st:=mB (by decide)
 have a3:=mB (st:=st) (i:=qH c k * qH c k) (j:=2147483629) (by decide)
 have a4:=qw (st:=st) (i:=(qH c k * qH c k).fmod 2147483629) (j:=8) ⟨by decide,by decide⟩
 refine gH (n:=3) (g:=iO) ?_
 unfold iO
 simp[a1,m1,m2,m3,a2,m4,a3,a4,BL]
def uF:Wv->Int
 | .int i=>i
 | _=>0
theorem digits{c:Int}{many:Nat}(hm:many<=60):∃(l:Nat)(st':Hs)(ds:List Int),fz [.int c,.int 13,.int (many:Int)] st= .ok (.ref l) st'/\aj st' l=some (ds.map Wv.int)/\ds.length=many/\(∀d∈ds,0<=d/\d < 13)/\Gr st st':=by
 have cr:lT (many:Int):=Np (by omega) (by omega)
 have UB:(13:Int)≠0/\(13:Int).natAbs.log2 < 9000:=⟨by decide,by decide⟩
 have md:=mB (st:=st++[.lst []]) (i:=c) (j:=2) (by decide)
 have fd:=qw (st:=st++[.lst []]) (i:=c) (j:=2) ⟨by decide,by decide⟩
 by_cases odd:c.fmod 2=1
 ·obtain⟨ρ',s1,e1,rest,o5,ds,rfl,rfl,hl,hb⟩:=zQ (i:=5) (gb:=fm) (λk ρ st'=>∃(rest:Int)(o5:Option Wv)(ds:List Int),ρ=[some (.int c),some (.int 13),some (.int (many:Int)),some (.ref st.length),some (.int rest),o5]/\st'=st++[.lst (ds.map Wv.int)]/\ds.length=k/\∀d∈ds,0<=d/\d < 13)
   (cn 0 many) 0 [some (.int c),some (.int 13),some (.int (many:Int)),some (.ref st.length),some (.int (c.fdiv 2)),none] (st++[.lst []]) ⟨_,_,[],rfl,rfl,rfl,λd h=>by cases h⟩ (λj w hw ρ st' hP=>by
    obtain⟨rest,o5,ds,rfl,rfl,hl,hb⟩:=hP
    have hj:j < many:=by
     have q:=(List.getElem?_eq_some_iff.mp hw).1
     rw[de] at q
     exact q
    have km:=λga ρ=>zN (mt:=iL) (ga:=ga) (ρ:=ρ) (st:=st++[.lst (ds.map Wv.int)]) aw
    have ap:=zR (st:=st) (acc:=ds.map Wv.int) (v:=.int (rest.fmod 13)) (by rw[av];unfold lim;omega)
    have ed:ds.map Wv.int++[.int (rest.fmod 13)]=(ds++[rest.fmod 13]).map Wv.int:=by simp
    rw[ed] at ap
    refine⟨[some (.int c),some (.int 13),some (.int (many:Int)),some (.ref st.length),some (.int (rest.fdiv 13)),some w],st++[.lst ((ds++[rest.fmod 13]).map Wv.int)],?_,_,_,ds++[rest.fmod 13],rfl,rfl,by simp[hl],λd hd=>?_⟩
    ·unfold fm
     simp[-nE,km,mB UB.1,ap,qw UB]
    ·rcases List.mem_append.mp hd with z | z
     ·exact hb d z
     ·simp at z
      rw[z]
      exact wk (by omega))
  rw[de,zU] at hl
  refine⟨st.length,st++[.lst (ds.map Wv.int)],ds,?_,aw,hl,hb,Gr.push⟩
  refine gH (n:=6) (g:=cN) ?_
  unfold cN
  simp[md,odd,fd,cr,e1]
 ·have zf:(c.fmod 2 == 1)=false:=by simpa using odd
  have q:=bI (cs:=[("cell",0),("size",1)]) (gt:=gX) (ge:=eN) (ρ:=[some (.int c),some (.int 13),some (.int (many:Int)),some (.ref st.length),none,none]) (w:=(none,cn 0 many)) (st:=st++[.lst []]) (t:=λ_=>true) (f:=λv=> .int ((BL c (uF v)).fmod 13)) trivial
   (λv _ acc=>rfl) (λv hv _ acc=>by
    obtain⟨k,rfl,h0,h1⟩:=ui hv
    unfold eN
    simp[cq,mix (c:=c) (k:=k) (by omega) (by omega),mB UB.1,uF])
   (by show(cn 0 many).length < lim;rw[de];unfold lim;omega)
  rw[show((none,cn 0 many):Wk).2=cn 0 many from rfl,List.filter_eq_self.mpr (λ_ _=>rfl)] at q
  have e2:(cn 0 many).map (λv=>Wv.int ((BL c (uF v)).fmod 13))=((cn 0 many).map λv=>(BL c (uF v)).fmod 13).map Wv.int:=by rw[bE];rfl
  rw[e2] at q
  refine⟨(st++[Ob.lst []]).length,(st++[.lst []])++[.lst (((cn 0 many).map λv=>(BL c (uF v)).fmod 13).map Wv.int)],_,?_,aw,by rw[av,de],λd hd=>?_,Gr.push.trans Gr.push⟩
  ·refine gH (n:=6) (g:=cN) ?_
   unfold cN
   simp[-pv,-eh,-bE,md,zf,yj cr,q]
  ·obtain⟨v,_,rfl⟩:=List.mem_map.mp hd
   exact wk (by omega)
def xS:PySem.Str:=qX 200 "x"
def SM:List Wo:=[.ay,.int 0,.int 1,.int 2,.int (-1),.str "a",.str "b",.str "ab",.str "",.int 1000000000000000000000000000000000000000000000000000000000000,.int (-1000000000000000000000000000000000000000000000000000000000000),.str "1",.str xS]
theorem UC:fQ (.str "x") (.int 200) st= .ok (.str xS) st:=by
 show(if nP "x" 200 then Re.ok (Wv.str (qX (200:Int).toNat "x")) st else .bad)=_
 rw[if_pos (by unfold nP lim;decide)]
 rfl
theorem Od:pH (.int 10) (.int 60) st= .ok (.int 1000000000000000000000000000000000000000000000000000000000000) st:=Fh (i:=10) (j:=60) (st:=st) (by decide)
theorem QI:∀i:Fin 13,(SM.getD i.1 .ay).ok=true:=by decide+kernel
theorem FE{c:Int}{many:Nat}(hm:many<=60):∃(l:Nat)(st':Hs)(ws:List Wo),fF [.int c,.int (many:Int)] st= .ok (.ref l) st'/\aj st' l=some (ws.map Wo.w)/\ws.length=many/\Gr st st'/\∀w∈ws,w.ok=true:=by
 have V6:uf [.ay,.int 0,.int 1,.int 2,.int (-1),.str "a",.str "b",.str "ab",.str "",.int 1000000000000000000000000000000000000000000000000000000000000,.int (-1000000000000000000000000000000000000000000000000000000000000),.str "1",.str xS] st= .ok (.ref st.length) (st++[.lst (SM.map Wo.w)]):=kZ (by simp[lim])
 obtain⟨s0,hs0⟩:∃s0,st++[Ob.lst (SM.map Wo.w)]=s0:=⟨_,rfl⟩
 rw[hs0] at V6
 have ls:aj s0 st.length=some (SM.map Wo.w):=by rw[<-hs0];exact aw
 have ln:lS [.ref st.length] s0= .ok (.int 13) s0:=Ku ls
 obtain⟨l,s1,ds,e1,l1,n1,b1,g1⟩:=digits (c:=c) (many:=many) hm (st:=s0)
 have XC:=g1.lst ls
 have q:=bI (cs:=[("some",2)]) (gt:=gY) (ge:=eO) (ρ:=[some (.int c),some (.int (many:Int)),some (.ref st.length)]) (w:=(some l,ds.map Wv.int)) (st:=s1) (t:=λ_=>true) (f:=λv=>(SM.getD (uF v).toNat .ay).w) l1
  (λv _ acc=>rfl) (λv hv _ acc=>by
   obtain⟨d,hd,rfl⟩:=List.mem_map.mp hv
   have b:=b1 d hd
   have ix:=uv (st:=s1++[.lst acc]) (k:=d.toNat) (fk XC) (show d.toNat < 13 by omega)
   rw[show((d.toNat:Nat):Int)=d by omega] at ix
   unfold eO
   simp[-cC,cq,ix,uF])
  (by show(ds.map Wv.int).length < lim;rw[av];unfold lim;omega)
 rw[show((some l,ds.map Wv.int):Wk).2=ds.map Wv.int from rfl,List.filter_eq_self.mpr (λ_ _=>rfl)] at q
 have e2:(ds.map Wv.int).map (λv=>(SM.getD (uF v).toNat .ay).w)=(ds.map λd=>SM.getD d.toNat .ay).map Wo.w:=by rw[bE,bE];rfl
 rw[e2] at q
 refine⟨s1.length,s1++[.lst ((ds.map λd=>SM.getD d.toNat .ay).map Wo.w)],_,?_,aw,by rw[av];exact n1,by rw[<-hs0] at g1;exact Gr.push.trans (g1.trans Gr.push),λw hw=>by
  obtain⟨d,hd,rfl⟩:=List.mem_map.mp hw
  have b:=b1 d hd
  exact QI ⟨d.toNat,by show d.toNat < 13;omega⟩⟩
 refine gH (n:=3) (g:=fB) ?_
 unfold fB
 simp[-cC,-bE,Od,UC,V6,ln,e1,ei l1,q]
end
section
variable {st:Hs}
def HA:List PySem.Str:=["b","a","ab","c"]
def B0(r:Nat):List PySem.Str:=HA.drop r++HA.take r
theorem Nx{l:Nat}{n:Int}{ws:List Wv}(h:st[l]? =some (.lst ws))(hc:AX ws.length n):fQ (.ref l) (.int n) st= .ok (.ref st.length) (st++[.lst (aD n.toNat ws).flatten]):=by
 show(match st[l]? with | some (.lst ws)=>if AX ws.length n then Re.ok (Wv.ref st.length) (st++[Ob.lst (aD n.toNat ws).flatten]) else .bad | _=> .bad)=_
 rw[h]
 exact if_pos hc
theorem FF{l:Nat}{ws:List Wv}(h:aj st l=some ws):pS [.ref l] st= .ok (.tup ws) st:=by
 show(match aj st l with | some ws=>Re.ok (Wv.tup ws) st | none=> .bad)=_
 rw[h]
theorem UD:∀r:Fin 4,lR (HA.map Wv.str) (some (r.1:Int)) none=(HA.drop r.1).map Wv.str:=λr=>by
 obtain⟨r,h⟩:=r
 match r,h with
 | 0,_=>rfl
 | 1,_=>rfl
 | 2,_=>rfl
 | 3,_=>rfl
theorem UE:∀r:Fin 4,lR (HA.map Wv.str) none (some (r.1:Int))=(HA.take r.1).map Wv.str:=λr=>by
 obtain⟨r,h⟩:=r
 match r,h with
 | 0,_=>rfl
 | 1,_=>rfl
 | 2,_=>rfl
 | 3,_=>rfl
theorem UG{r w:Nat}(hr:r < 4)(h1:1<=w)(h4:w<=4):DO (.tup ((B0 r).map Wv.str)) none (some (w:Int)) st= .ok (.tup (((B0 r).take w).map Wv.str)) st:=by
 match r,hr with
 | 0,_=>match w,h1,h4 with
  | 1,_,_=>rfl
  | 2,_,_=>rfl
  | 3,_,_=>rfl
  | 4,_,_=>rfl
 | 1,_=>match w,h1,h4 with
  | 1,_,_=>rfl
  | 2,_,_=>rfl
  | 3,_,_=>rfl
  | 4,_,_=>rfl
 | 2,_=>match w,h1,h4 with
  | 1,_,_=>rfl
  | 2,_,_=>rfl
  | 3,_,_=>rfl
  | 4,_,_=>rfl
 | 3,_=>match w,h1,h4 with
  | 1,_,_=>rfl
  | 2,_,_=>rfl
  | 3,_,_=>rfl
  | 4,_,_=>rfl
theorem Ny:∀r:Fin 4,(B0 r.1).Nodup:=by decide
theorem Ja:∀r:Fin 4,(B0 r.1).length=4:=by decide
theorem FG:∀r:Fin 4,∀h∈B0 r.1,h="b"\/h="a"\/h="ab"\/h="c":=by decide
theorem QJ{ws:List Wo}{a n:Nat}(h:a+n<=ws.length):lR (ws.map Wo.w) (some (a:Int)) (some ((a:Int)+(n:Int)))=((ws.drop a).take n).map Wo.w:=by
 have i1:HT.c7 (ws.map Wo.w).length 0 (some (a:Int))=a:=by
  unfold HT.c7
  simp
  rw[if_neg (by omega)]
  omega
 have i2:HT.c7 (ws.map Wo.w).length (ws.map Wo.w).length (some ((a:Int)+(n:Int)))=a+n:=by
  unfold HT.c7
  simp
  rw[if_neg (by omega)]
  omega
 unfold lR
 rw[i1,i2,<-Ft,<-ym,Nat.add_sub_cancel_left]
theorem zV{w:Nat}:∀{us:List Wv},(∀u∈us,∃r:List Wo,(r.length=w/\∀z∈r,z.ok=true)/\u=a7 r)->∃rows:List (List Wo),us=rows.map a7/\∀r∈rows,r.length=w/\∀z∈r,z.ok=true
 | [],_=>⟨[],rfl,λ_ h=>by cases h⟩
 | u::t,h=>by
  obtain⟨r,hr,rfl⟩:=h u aP
  obtain⟨rows,rfl,k⟩:=zV (us:=t) λu hu=>h u (aJ _ hu)
  refine⟨r::rows,rfl,λx hx=>?_⟩
  rcases List.mem_cons.mp hx with z | z
  ·rw[z];exact hr
  ·exact k x z
theorem cells{at':Nat}{ns:List Int}(h:at' < 4):∃c:Int,L2.pg ((ns.map Wv.int)++[.int 0,.int 0,.int 0,.int 0]) (at':Int)=some (.int c):=by
 have hl:at' < ((ns.map Wv.int)++[Wv.int 0,.int 0,.int 0,.int 0]).length:=by simp;omega
 obtain⟨v,e,hv⟩:=Fo (ws:=(ns.map Wv.int)++[Wv.int 0,.int 0,.int 0,.int 0]) (d:=(at':Int)) (by omega) (by omega)
 rcases List.mem_append.mp hv with z | z
 ·obtain⟨c,_,rfl⟩:=List.mem_map.mp z
  exact⟨c,e⟩
 ·simp at z
  exact⟨0,by rw[e,z]⟩
theorem table{ns:List Int}{at' most:Nat}(hs:st[0]? =some (.tq ns))(hn:ns.length<=63)(ha:at' < 4)(hm:most<=12):∃(hs':List PySem.Str)(rows:List (List Wo))(st':Hs),dA [.ref 0,.int (at':Int),.int (most:Int)] st= .ok (aO hs' rows) st'/\Tb hs' rows/\(hs'.length<=4/\("zz":PySem.Str)∉hs')/\Gr st st':=by
 have l0:aj st 0=some (ns.map Wv.int):=by unfold aj;rw[hs]
 have b0:=bS hs
 obtain⟨s1,hs1⟩:∃s1,st++[Ob.lst [.int 0]]=s1:=⟨_,rfl⟩
 have g1:s1[st.length]? =some (.lst [.int 0]):=by rw[<-hs1];exact cu
 have G1:Gr st s1:=by rw[<-hs1];exact Gr.push
 have mu:fQ (.ref st.length) (.int 4) s1= .ok (.ref s1.length) (s1++[.lst [.int 0,.int 0,.int 0,.int 0]]):=Nx g1 (by unfold AX lim;simp)
 obtain⟨s2,hs2⟩:∃s2,s1++[Ob.lst [.int 0,.int 0,.int 0,.int 0]]=s2:=⟨_,rfl⟩
 rw[hs2] at mu
 have G2:Gr s1 s2:=by rw[<-hs2];exact Gr.push
 have k2:aj s2 s1.length=some [.int 0,.int 0,.int 0,.int 0]:=by rw[<-hs2];exact aw
 have ad:=add_l (st:=s2) ((G1.trans G2).lst l0) k2 (by simp;unfold lim;omega)
 obtain⟨s3,m6⟩:∃s3,s2++[Ob.lst ((ns.map Wv.int)++[.int 0,.int 0,.int 0,.int 0])]=s3:=⟨_,rfl⟩
 rw[m6] at ad
 have G3:Gr s2 s3:=by rw[<-m6];exact Gr.push
 have k3:aj s3 s2.length=some ((ns.map Wv.int)++[.int 0,.int 0,.int 0,.int 0]):=by rw[<-m6];exact aw
 obtain⟨c,ec⟩:=cells (ns:=ns) ha
 have ix:=Fi k3 ec
 have w1:=mB (st:=s3) (i:=c) (j:=4) (by decide)
 have bw:=wk (x:=c) (m:=4) (by omega)
 obtain⟨w,hw⟩:∃w:Nat,(1+c.fmod 4)=(w:Int):=⟨(1+c.fmod 4).toNat,by omega⟩
 have f1:=qw (st:=s3) (i:=c) (j:=4) ⟨by decide,by decide⟩
 have h1:=mB (st:=s3) (i:=c.fdiv 4) (j:=(most:Int)+1) (by omega)
 have bh:=wk (x:=c.fdiv 4) (m:=(most:Int)+1) (by omega)
 obtain⟨hg,hh⟩:∃hg:Nat,(c.fdiv 4).fmod ((most:Int)+1)=(hg:Int):=⟨((c.fdiv 4).fmod ((most:Int)+1)).toNat,by omega⟩
 rw[hh] at h1 bh
 obtain⟨r,hr⟩:∃r:Nat,(c.fdiv 64).fmod 4=(r:Int):=⟨((c.fdiv 64).fmod 4).toNat,by have:=wk (x:=c.fdiv 64) (m:=4) (by omega);omega⟩
 have br:r < 4:=by have:=wk (x:=c.fdiv 64) (m:=4) (by omega);omega
 have fr:∀st:Hs,jk (.int c) (.int 64) st= .ok (.int (c.fdiv 64)) st:=λst=>qw ⟨by decide,by decide⟩
 have mr:∀st:Hs,oMod (.int (c.fdiv 64)) (.int 4) st= .ok (.int (r:Int)) st:=λst=>by rw[<-hr];exact mB (by decide)
 -- the heads
 obtain⟨s4,B1⟩:∃s4,s3++[Ob.lst (HA.map Wv.str)]=s4:=⟨_,rfl⟩
 have k4:aj s4 s3.length=some (HA.map Wv.str):=by rw[<-B1];exact aw
 have sa:=IZ (lo:=some (r:Int)) (hi:=none) k4
 rw[UD ⟨r,br⟩] at sa
 obtain⟨s5,Nz⟩:∃s5,s4++[Ob.lst ((HA.drop r).map Wv.str)]=s5:=⟨_,rfl⟩
 rw[Nz] at sa
 have k5:aj s5 s4.length=some ((HA.drop r).map Wv.str):=by rw[<-Nz];exact aw
 obtain⟨s6,NA⟩:∃s6,s5++[Ob.lst (HA.map Wv.str)]=s6:=⟨_,rfl⟩
 have k6:aj s6 s5.length=some (HA.map Wv.str):=by rw[<-NA];exact aw
 have sb:=IZ (lo:=none) (hi:=some (r:Int)) k6
 rw[UE ⟨r,br⟩] at sb
 obtain⟨s7,NC⟩:∃s7,s6++[Ob.lst ((HA.take r).map Wv.str)]=s7:=⟨_,rfl⟩
 rw[NC] at sb
 have k7:aj s7 s6.length=some ((HA.take r).map Wv.str):=by rw[<-NC];exact aw
 have G4:Gr s3 s4:=by rw[<-B1];exact Gr.push
 have G5:Gr s4 s5:=by rw[<-Nz];exact Gr.push
 have G6:Gr s5 s6:=by rw[<-NA];exact Gr.push
 have G7:Gr s6 s7:=by rw[<-NC];exact Gr.push
 have ah:=add_l (st:=s7) ((G6.trans G7).lst k5) k7 (by rw[av,av,w6,mT];unfold lim HA;simp;omega)
 have er:(HA.drop r).map Wv.str++(HA.take r).map Wv.str=(B0 r).map Wv.str:=by unfold B0;rw[nE]
 rw[er] at ah
 obtain⟨s8,ND⟩:∃s8,s7++[Ob.lst ((B0 r).map Wv.str)]=s8:=⟨_,rfl⟩
 rw[ND] at ah
 have G8:Gr s7 s8:=by rw[<-ND];exact Gr.push
 have k8:aj s8 s7.length=some ((B0 r).map Wv.str):=by rw[<-ND];exact aw
 have tc:=FF k8
 have ch:=UG (st:=s8) br (show 1<=w by omega) (show w<=4 by omega)
 -- the FE
 have V7:Gr st s8:=G1.trans (G2.trans (G3.trans (G4.trans (G5.trans (G6.trans (G7.trans G8))))))
 have sc:=IZ (lo:=some ((at':Int)+1)) (hi:=none) (V7.lst l0)
 obtain⟨ys,ey,_⟩:=BI (f:=Wv.int) (xs:=ns) (lo:=some ((at':Int)+1)) (hi:=none)
 rw[ey] at sc
 obtain⟨s9,Kv⟩:∃s9,s8++[Ob.lst (ys.map Wv.int)]=s9:=⟨_,rfl⟩
 rw[Kv] at sc
 have G9:Gr s8 s9:=by rw[<-Kv];exact Gr.push
 have k9:aj s9 s8.length=some (ys.map Wv.int):=by rw[<-Kv];exact aw
 have su:=Fq k9
 have wh:((w:Int) * (hg:Int))=((w * hg:Nat):Int):=by push_cast;rfl
 have XD:w * hg<=60:=aX (Nat.mul_le_mul (show w<=4 by omega) (show hg<=12 by omega)) (by omega)
 have mw:=sv (st:=s9) (i:=(w:Int)) (j:=(hg:Int)) (by omega) (by omega)
 obtain⟨lw,vj,ws,Mw,V8,XE,XF,XG⟩:=FE (c:=ys.sum) (many:=w * hg) XD (st:=s9)
 rw[<-wh] at Mw
 -- the rows
 have cr:lT (hg:Int):=Np (by omega) (by omega)
 obtain⟨ρ,hρ⟩:∃ρ:a9,[some (.ref 0),some (.int (at':Int)),some (.int (most:Int)),some (.int c),some (.int (w:Int)),some (.int (hg:Int)),some (.tup (((B0 r).take w).map Wv.str)),some (.ref lw),none]=ρ:=⟨_,rfl⟩
 have bl:=qy V8
 obtain⟨Q_,us,XH,nG,XI,XJ,V9⟩:=sx (w:=(none,cn 0 hg)) (gt:=λv=>fo (some v::cq [("worths",7),("wide",4)] ρ)) (ge:=λv=>dz (some v::cq [("worths",7),("wide",4)] ρ)) (rr:=vj.length)
  (λst=>aj st lw=some (ws.map Wo.w)/\vj.length < st.length/\∀k,k < vj.length->st[k]? =vj[k]?) (λu=>∃r:List Wo,(r.length=w/\∀z∈r,z.ok=true)/\u=a7 r)
  (λst acc h=>by
   refine⟨?_,by rw[List.length_set];exact h.2.1,λk hk=>by rw[bW (by omega)];exact h.2.2 k hk⟩
   have q:=h.1
   unfold aj at q ⊢
   rw[bW (by omega)]
   exact q)
  (λst h=>trivial) (cn 0 hg)
  (λv hv st acc hp hg'=>by
   obtain⟨k,rfl,h0,h1⟩:=ui hv
   refine⟨st,rfl,hp,hg',?_⟩
   obtain⟨kn,rfl⟩:∃kn:Nat,k=(kn:Int):=⟨k.toNat,by omega⟩
   have m1:=sv (st:=st) (i:=(kn:Int)) (j:=(w:Int)) (by omega) (by omega)
   have em:(kn:Int) * (w:Int)=((kn * w:Nat):Int):=by push_cast;rfl
   have le:kn * w+w<=ws.length:=by
    rw[XE]
    have:(kn+1) * w<=hg * w:=Nat.mul_le_mul_right w (by omega)
    rw[Nat.succ_mul] at this
    rw[Nat.mul_comm w hg]
    exact this
   have sl:=IZ (lo:=some ((kn * w:Nat):Int)) (hi:=some (((kn * w:Nat):Int)+(w:Int))) hp.1
   rw[QJ le] at sl
   rw[<-em] at sl
   have tt:=FF (st:=st++[.lst (((ws.drop (kn * w)).take w).map Wo.w)]) aw
   refine⟨a7 ((ws.drop (kn * w)).take w),st++[.lst (((ws.drop (kn * w)).take w).map Wo.w)],?_,⟨_,⟨by rw[mT,w6];omega,λz hz=>XG z (List.mem_of_mem_drop (FH hz))⟩,rfl⟩,⟨fk hp.1,by rw[eh];have:=hp.2.1;omega,λk hk=>by rw[cG (by have:=hp.2.1;omega)];exact hp.2.2 k hk⟩,bO hg'⟩
   rw[<-hρ]
   unfold dz
   simp[-ym,-Ft,cq,m1,sl,tt,a7])
  [] (vj++[.lst []]) ⟨fk V8,by simp,λk hk=>cG hk⟩ cu (by rw[de];simp;unfold lim;omega) (λa h=>by cases h)
 obtain⟨rows,rfl,wd⟩:=zV XJ
 rw[av,de] at V9
 simp at V9
 have wo:bU [("worths",7),("wide",4)] fo dz ρ (none,cn 0 hg) vj= .ok (.ref vj.length) Q_:=by
  unfold bU
  rw[show((none,cn 0 hg):Wk).2=cn 0 hg from rfl,XH]
 have tr:=FF (aB XI)
 have XM:((B0 r).take w).length=w:=by rw[mT,Ja ⟨r,br⟩];omega
 refine⟨(B0 r).take w,rows,Q_,?_,⟨(Ny ⟨r,br⟩).sublist (List.take_sublist _ _),by omega,by omega,λh hm=>by rcases FG ⟨r,br⟩ h (FH hm) with z | z | z | z<;>simp[z],by omega,λx hx=>by rw[XM];exact(wd x hx).1,λx hx=>(wd x hx).2⟩,⟨by omega,λhm=>by rcases FG ⟨r,br⟩ _ (FH hm) with z | z | z | z<;>exact absurd z (by decide)⟩,?_⟩
 ·refine gH (n:=9) (g:=fZ) ?_
  have kA:∀st:Hs,uf [.str "b",.str "a",.str "ab",.str "c"] st= .ok (.ref st.length) (st++[.lst (HA.map Wv.str)]):=λst=>kZ (by simp[lim])
  rw[<-hρ] at wo
  unfold fZ
  simp[-pv,-eh,-ym,-Nk,kA,hs1,mu,ad,ix,w1,hw,f1,h1,fr,mr,B1,sa,NA,sb,ah,tc,ch,sc,su,mw,Mw,yj cr,wo,tr,aO]
 ·have XN:=V7.trans (G9.trans XF)
  exact XN.trans ⟨by have:=nG.2.1;omega,nG.2.2⟩
end
def rl:Wo->Kw
 | .ay=>(2,.inl 0)
 | .int i=>(0,.inl i)
 | .str z=>(1,.inr z)
def yy:Wo->Wv
 | .ay=> .tup [.int 2,.int 0]
 | .int i=> .tup [.int 0,.int i]
 | .str z=> .tup [.int 1,.str z]
theorem yz(a:Wo):mf (rl a)=true:=by cases a<;>rfl
theorem Jb{a b:Wo}(h:rl a=rl b):a=b:=by cases a<;>cases b<;>simp_all [rl]
theorem Jc(a:Wo):xW (yy a)=some (rl a):=by cases a<;>rfl
theorem zW:∀l:List Wo,mh (l.map yy)=some (l.map rl)
 | []=>rfl
 | a::l=>by rw[aH,mh,Jc,zW l];rfl
abbrev nW(ms:List Nat):List Wv:=ms.map λi=>Wv.int (i:Nat)
theorem wq{is:List Nat}{gb:GS}{c:Option (Nat×List Wv)}(f:Nat->Wv)(P:Nat->a9->Hs->Prop):∀(n k:Nat)(ρ:a9)(st:Hs),P k ρ st->
  (∀j,k<=j->j < k+n->∀ρ st,P j ρ st->∃ρ1 ρ' st',J2 is (f j) ρ=some ρ1/\gb ρ1 st= .nx ρ' st'/\tY c st'/\P (j+1) ρ' st')->∃ρ' st',qe is gb c ((fT k n).map f) ρ st= .nx ρ' st'/\P (k+n) ρ' st'
 | 0,k,ρ,st,h,_=>⟨ρ,st,rfl,h⟩
 | n+1,k,ρ,st,h,step=>by
  obtain⟨ρ1,ρ2,st2,e1,e2,c2,p2⟩:=step k (ak _) (by omega) ρ st h
  obtain⟨ρ3,st3,e3,p3⟩:=wq f P n (k+1) ρ2 st2 p2 λj h1 h2=>step j (by omega) (by omega)
  refine⟨ρ3,st3,?_,by rw[show k+(n+1)=k+1+n by omega];exact p3⟩
  rw[List.range'_succ,aH]
  unfold qe
  rw[e1]
  dsimp only
  rw[e2]
  dsimp only
  rw[if_pos c2]
  exact e3
theorem NF(c:List Wo):me (c.map Wo.w)=(dm c.length).map λk:Nat=> .tup [.int (k:Int),(c.getD k .ay).w]:=by
 refine List.ext_getElem (by rw[gf];simp) λk h1 h2=>?_
 rw[gf,av] at h1
 rw[rX (by simpa using h1)]
 simp[h1]
section
variable {st:Hs}
theorem UH(a:Wo):dj [a.w] st= .ok (yy a) st:=by
 refine gH (n:=1) (g:=hR) ?_
 have i:=Uz (st:=st) a
 have s:=aS (st:=st) a
 unfold hR
 cases a with
 | ay=>simp only[Wo.w,Wo.nn,Wo.Nu] at i s ⊢;simp[i,yy]
 | int n=>simp only[Wo.w,Wo.nn,Wo.Nu] at i s ⊢;simp[i,s,yy]
 | str z=>simp only[Wo.w,Wo.nn,Wo.Nu] at i s ⊢;simp[i,s,yy]
end
def Wo.key:Wo->L2.Key
 | .ay=> .ay
 | .int i=> .inl i
 | .str x=> .inr x
theorem oP{a b:Wo}(h:a.key=b.key):a=b:=by cases a<;>cases b<;>simp_all [Wo.key]
theorem oQ(a:Wo):keyOf a.w=some a.key:=by cases a<;>rfl
theorem FI{a:Wo}(h:a.ok=true):wK a.key=some a.w:=by
 cases a with
 | str x=>show(if aE x=true then some (Wv.str x) else none)=_;rw[if_pos (show aE x=true from h)];rfl
 | _=>rfl
abbrev Qg:=Wo×Nat×List Nat
def qK(qs:List Qg):List (L2.Key×Wv):=qs.map λq=>(q.1.key,Wv.ref q.2.1)
def wt:List Qg->Wo->Nat->Nat->List Qg
 | [],a,i,l=>[(a,l,[i])]
 | q::r,a,i,l=>if q.1=a then(q.1,q.2.1,q.2.2++[i])::r else q::wt r a i l
abbrev Gp:=Wo×List Nat
def jL:List Gp->Wo->Nat->List Gp
 | [],a,i=>[(a,[i])]
 | q::r,a,i=>if q.1=a then(q.1,q.2++[i])::r else q::jL r a i
def oR(q:Qg):Gp:=(q.1,q.2.2)
theorem FJ(a:Wo)(i l:Nat):∀qs:List Qg,(wt qs a i l).map oR=jL (qs.map oR) a i
 | []=>rfl
 | q::r=>by
  unfold wt
  rw[aH]
  unfold jL
  by_cases h:q.1=a
  ·rw[if_pos h,if_pos (by exact h)];rfl
  ·rw[if_neg h,if_neg (by exact h),aH,FJ a i l r]
theorem qI(a:Wo)(i l:Nat):∀qs:List Qg,(∃pre q post,qs=pre++q::post/\q.1=a/\(∀p∈pre,p.1≠a)/\gN (qK qs) a.key=some (.ref q.2.1)/\wt qs a i l=pre++(q.1,q.2.1,q.2.2++[i])::post)\/
  ((∀p∈qs,p.1≠a)/\gN (qK qs) a.key=none/\wt qs a i l=qs++[(a,l,[i])])
 | []=> .inr ⟨λ_ h=>by simp at h,rfl,rfl⟩
 | q::r=>by
  by_cases h:q.1=a
  ·refine .inl ⟨[],q,r,rfl,h,λ_ h=>by simp at h,?_,?_⟩
   ·show(if q.1.key=a.key then _ else _)=_
    rw[if_pos (by rw[h])]
   ·show(if q.1=a then _ else _)=_
    rw[if_pos h]
    rfl
  ·have hk:¬q.1.key=a.key:=λz=>h (oP z)
   have hv:gN (qK (q::r)) a.key=gN (qK r) a.key:=by
    show(if q.1.key=a.key then _ else _)=_
    rw[if_neg hk]
    rfl
   have hp:wt (q::r) a i l=q::wt r a i l:=by
    show(if q.1=a then _ else _)=_
    rw[if_neg h]
   rcases qI a i l r with ⟨pre,p,post,e1,e2,e3,e4,e5⟩ | ⟨e1,e2,e3⟩
   ·refine .inl ⟨q::pre,p,post,by rw[e1];rfl,e2,λx hx=>?_,by rw[hv];exact e4,by rw[hp,e5];rfl⟩
    rcases List.mem_cons.mp hx with z | z
    ·rw[z];exact h
    ·exact e3 x z
   ·refine .inr ⟨λx hx=>?_,by rw[hv];exact e2,by rw[hp,e3];rfl⟩
    rcases List.mem_cons.mp hx with z | z
    ·rw[z];exact h
    ·exact e1 x z
theorem FK{a:Wo}:∀{qs:List Qg},(∀p∈qs,p.1≠a)->((qK qs).any λkv=>decide (kv.1=a.key))=false
 | [],_=>rfl
 | q::r,h=>by
  have h1:¬q.1.key=a.key:=λz=>h q aP (oP z)
  have h2:=FK (qs:=r) λp hp=>h p (aJ _ hp)
  unfold qK at h2 ⊢
  rw[aH,fM,h2]
  simp[h1]
structure QS(d b:Nat)(qs:List Qg)(st:Hs):Prop where
 dc:st[d]? =some (.dct (qK qs))
 ls:∀q∈qs,st[q.2.1]? =some (.lst (nW q.2.2))
 lt:∀q∈qs,b < q.2.1
 nd:(qs.map λq=>q.2.1).Nodup
 bd:d<=b/\b < st.length
def Kd(d b:Nat)(st st':Hs):Prop:=st.length<=st'.length/\∀k,k<=b->k≠d->st'[k]? =st[k]?
theorem Kd.trans{d b:Nat}{x y z:Hs}(h:Kd d b x y)(k:Kd d b y z):Kd d b x z:=⟨aX h.1 k.1,λj a c=>(k.2 j a c).trans (h.2 j a c)⟩
theorem Kd.refl{d b:Nat}{x:Hs}:Kd d b x x:=⟨ak _,λ_ _ _=>rfl⟩
section
variable {st:Hs}
theorem yA{d l:Nat}{ρ:a9}{gd gk gx:GE}{kvs:List (L2.Key×Wv)}{a:Wo}{x:Wv}{st2:Hs}(h1:gd ρ st= .ok (.ref d) st)(h2:st[d]? =some (.dct kvs))(h3:gk ρ st= .ok a.w st)(h4:gx ρ st= .ok x st2)(h5:st2[d]? =some (.dct kvs))(hl:kvs.length < lim)(hv:gN kvs a.key=some (.ref l)) :
  jz gd gk gx ρ st= .ok (.ref l) st2:=by
 unfold jz
 rw[h1]
 simp only[aM]
 rw[if_pos (by show(match st[d]? with | some (.dct _)=>true | _=>false)=true;rw[h2]),h3]
 simp only[aM]
 rw[h4]
 simp only[aM]
 show(match keyOf a.w,st2[d]? with | some kk,some (.dct kvs)=>(if kvs.length < lim then(match gN kvs kk with | some w=>Re.ok w st2 | none=> .ok x (st2.set d (.dct (n_ kvs kk x)))) else .bad) | _,_=> .bad)=_
 rw[oQ,h5]
 dsimp only
 rw[if_pos hl,hv]
theorem yB{d:Nat}{ρ:a9}{gd gk gx:GE}{kvs:List (L2.Key×Wv)}{a:Wo}{x:Wv}{st2:Hs}(h1:gd ρ st= .ok (.ref d) st)(h2:st[d]? =some (.dct kvs))(h3:gk ρ st= .ok a.w st)(h4:gx ρ st= .ok x st2)(h5:st2[d]? =some (.dct kvs))(hl:kvs.length < lim)(hv:gN kvs a.key=none) :
  jz gd gk gx ρ st= .ok x (st2.set d (.dct (n_ kvs a.key x))):=by
 unfold jz
 rw[h1]
 simp only[aM]
 rw[if_pos (by show(match st[d]? with | some (.dct _)=>true | _=>false)=true;rw[h2]),h3]
 simp only[aM]
 rw[h4]
 simp only[aM]
 show(match keyOf a.w,st2[d]? with | some kk,some (.dct kvs)=>(if kvs.length < lim then(match gN kvs kk with | some w=>Re.ok w st2 | none=> .ok x (st2.set d (.dct (n_ kvs kk x)))) else .bad) | _,_=> .bad)=_
 rw[oQ,h5]
 dsimp only
 rw[if_pos hl,hv]
end
section
variable {st:Hs}
theorem kj{go ga:GE}{ρ:a9}{l:Nat}{ws:List Wv}{v:Wv}{s1:Hs}(h1:go ρ st= .ok (.ref l) s1)(h2:s1[l]? =some (.lst ws))(h3:ga ρ s1= .ok v s1)(hl:ws.length < lim):dE iL go ga ρ st= .ok .ay (s1.set l (.lst (ws++[v]))):=by
 unfold dE
 rw[h1]
 simp only[aM]
 rw[aB h2]
 dsimp only
 rw[h3]
 simp only[aM]
 show((match s1[l]? with | some (.lst ws)=>(if ws.length < lim then Re.ok Wv.ay (s1.set l (.lst (ws++[v]))) else .bad) | _=> .bad):Re Wv).je=_
 rw[h2]
 dsimp only
 rw[if_pos hl]
 rfl
theorem zX{ρ:a9}:ip au ρ st= .ok (.ref st.length) (st++[.lst []]):=by simp
theorem QS.turn{d b k:Nat}{qs:List Qg}{a:Wo}{o0 o1:Option Wv}(S:QS d b qs st)(hq:qs.length<=100)(hn:∀q∈qs,q.2.2.length<=100) :
  ∃st',cE [o0,o1,some (.ref d),some (.int (k:Nat)),some a.w] st= .nx [o0,o1,some (.ref d),some (.int (k:Nat)),some a.w] st'/\QS d b (wt qs a k st.length) st'/\Kd d b st st':=by
 obtain⟨ρ,hρ⟩:∃ρ:a9,[o0,o1,some (.ref d),some (.int (k:Nat)),some a.w]=ρ:=⟨_,rfl⟩
 have g2:ai 2 ρ st= .ok (.ref d) st:=by rw[<-hρ];simp
 have g4:ai 4 ρ st= .ok a.w st:=by rw[<-hρ];simp
 have g3:∀s:Hs,ai 3 ρ s= .ok (.int (k:Nat)) s:=λs=>by rw[<-hρ];simp
 have hd:d < st.length:=bS S.dc
 obtain⟨b1,b2⟩:=S.bd
 have d2:(st++[Ob.lst []])[d]? =some (.dct (qK qs)):=bO S.dc
 have hl:(qK qs).length < lim:=by unfold qK lim;rw[av];omega
 have run:∀{w:Wv}{s:Hs},dE iL (jz (ai 2) (ai 4) (ip au)) (ai 3) ρ st= .ok w s->cE ρ st= .nx ρ s:=λ{w s} h=>by
  unfold cE jm
  rw[h]
  rfl
 rw[hρ]
 rcases qI a k st.length qs with ⟨pre,q,post,e1,e2,e3,e4,e5⟩ | ⟨e1,e2,e3⟩
 ·have hm:q∈qs:=by rw[e1];simp
  have lq:=S.ls q hm
  have bq:=S.lt q hm
  have l2:(st++[Ob.lst []])[q.2.1]? =some (.lst (nW q.2.2)):=bO lq
  have r1:=yA (gx:=ip au) g2 S.dc g4 zX d2 hl e4
  have r2:=kj r1 l2 (g3 _) (by unfold lim nW;rw[av];have:=hn q hm;omega)
  have en:nW q.2.2++[Wv.int (k:Nat)]=nW (q.2.2++[k]):=by unfold nW;simp
  rw[en] at r2
  have nd:=S.nd
  rw[e1,nE,aH,uw] at nd
  obtain⟨n1,n2,n3⟩:=nd
  have XO:=List.nodup_cons.mp n2
  refine⟨_,run r2,⟨?_,λp hp=>?_,λp hp=>?_,?_,b1,by simp;omega⟩,by simp,λj h1 h2=>?_⟩
  ·rw[bW (by omega),d2,e5,e1]
   unfold qK
   simp
  ·rw[e5] at hp
   rcases List.mem_append.mp hp with z | z
   ·have ne:q.2.1≠p.2.1:=λy=>n3 p.2.1 (List.mem_map.mpr ⟨p,z,rfl⟩) q.2.1 aP y.symm
    rw[bW ne]
    exact bO (S.ls p (by rw[e1];simp[z]))
   ·rcases List.mem_cons.mp z with y | y
    ·rw[y]
     exact fX l2
    ·have ne:q.2.1≠p.2.1:=λx=>XO.1 (List.mem_map.mpr ⟨p,y,x.symm⟩)
     rw[bW ne]
     exact bO (S.ls p (by rw[e1];simp[y]))
  ·rw[e5] at hp
   rcases List.mem_append.mp hp with z | z
   ·exact S.lt p (by rw[e1];simp[z])
   ·rcases List.mem_cons.mp z with y | y
    ·rw[y];exact bq
    ·exact S.lt p (by rw[e1];simp[y])
  ·rw[e5]
   have:=S.nd
   rw[e1] at this
   simpa using this
  ·rw[bW (by omega),cG (by omega)]
 ·have r1:=yB (gx:=ip au) g2 S.dc g4 zX d2 hl e2
  have ep:n_ (qK qs) a.key (.ref st.length)=qK (qs++[(a,st.length,[k])]):=by
   unfold n_
   rw[FK e1]
   unfold qK
   simp
  rw[ep] at r1
  have l2:((st++[Ob.lst []]).set d (.dct (qK (qs++[(a,st.length,[k])]))))[st.length]? =some (.lst []):=by
   rw[bW (by omega)]
   exact cu
  have r2:=kj r1 l2 (g3 _) (by unfold lim;simp)
  refine⟨_,run r2,⟨?_,λp hp=>?_,λp hp=>?_,?_,b1,by simp;omega⟩,by simp,λj h1 h2=>?_⟩
  ·rw[bW (by omega),e3]
   exact fX d2
  ·rw[e3] at hp
   rcases List.mem_append.mp hp with z | z
   ·have:=S.ls p z
    have lt:=bS this
    have ld:=S.lt p z
    rw[bW (by omega),bW (by omega)]
    exact bO this
   ·have z:=List.mem_singleton.mp z
    rw[z]
    exact fX l2
  ·rw[e3] at hp
   rcases List.mem_append.mp hp with z | z
   ·exact S.lt p z
   ·have z:=List.mem_singleton.mp z
    rw[z]
    exact b2
  ·rw[e3,nE,uw]
   refine⟨S.nd,by simp,λx hx y hy=>?_⟩
   obtain⟨p,hp,rfl⟩:=List.mem_map.mp hx
   have:=bS (S.ls p hp)
   simp at hy
   omega
  ·rw[bW (by omega),bW (by omega),cG (by omega)]
end
def lz(c:List Wo):Nat->List Gp
 | 0=>[]
 | k+1=>jL (lz c k) (c.getD k .ay) k
theorem wu{a:Wo}{i:Nat}:∀{gs:List Gp}{g:Gp},g∈jL gs a i->(g∈gs)\/(g.1=a/\∃l,g.2=l++[i]/\(l=[]\/(g.1,l)∈gs))
 | [],g,h=>by
  have h:=List.mem_singleton.mp h
  rw[h]
  exact .inr ⟨rfl,[],rfl,.inl rfl⟩
 | q::r,g,h=>by
  unfold jL at h
  by_cases e:q.1=a
  ·rw[if_pos e] at h
   rcases List.mem_cons.mp h with z | z
   ·rw[z]
    exact .inr ⟨e,q.2,rfl,.inr aP⟩
   ·exact .inl (aJ _ z)
  ·rw[if_neg e] at h
   rcases List.mem_cons.mp h with z | z
   ·rw[z];exact .inl aP
   ·rcases wu z with y | ⟨y1,l,y2,y3⟩
    ·exact .inl (aJ _ y)
    ·exact .inr ⟨y1,l,y2,y3.imp (λz=>z) λz=>aJ _ z⟩
theorem wx{a:Wo}{i:Nat}:∀(gs:List Gp),(jL gs a i).length<=gs.length+1
 | []=>ak _
 | q::r=>by
  have:=wx (a:=a) (i:=i) r
  unfold jL
  by_cases e:q.1=a
  ·rw[if_pos e];simp
  ·rw[if_neg e];simp only[kO];omega
theorem mD{a:Wo}{i:Nat}:∀(gs:List Gp),(jL gs a i).map (·.1)=if a∈gs.map (·.1) then gs.map (·.1) else gs.map (·.1)++[a]
 | []=>rfl
 | q::r=>by
  have ih:=mD (a:=a) (i:=i) r
  unfold jL
  by_cases e:q.1=a
  ·rw[if_pos e,if_pos (by simp[e])];rfl
  ·rw[if_neg e,aH,ih,aH]
   have ne:a≠q.1:=λz=>e z.symm
   by_cases m:a∈r.map (·.1)
   ·rw[if_pos m,if_pos (aJ _ m)]
   ·rw[if_neg m,if_neg (λz=>by rcases List.mem_cons.mp z with y | y;exact ne y;exact m y)];rfl
theorem qJ(c:List Wo):∀k,((lz c k).map (·.1)).Nodup
 | 0=>by simp[lz]
 | k+1=>by
  show((jL (lz c k) (c.getD k .ay) k).map (·.1)).Nodup
  rw[mD]
  by_cases m:c.getD k .ay∈(lz c k).map (·.1)
  ·rw[if_pos m];exact qJ c k
  ·rw[if_neg m,uw]
   exact⟨qJ c k,by simp,λx hx y hy=>by rw[List.mem_singleton.mp hy];exact λz=>m (z ▸ hx)⟩
theorem oS(c:List Wo):∀k,(lz c k).length<=k
 | 0=>ak _
 | k+1=>aX (wx _) (jS (oS c k))
theorem nH(c:List Wo):∀k,∀g∈lz c k,(∃j,j < k/\g.1=c.getD j .ay)/\g.2.length<=k/\∀i∈g.2,i < k
 | 0,g,h=>by simp[lz] at h
 | k+1,g,h=>by
  rcases wu (show g∈jL (lz c k) (c.getD k .ay) k from h) with z | ⟨z1,l,z2,z3⟩
  ·obtain⟨⟨j,j1,j2⟩,h2,h3⟩:=nH c k g z
   exact⟨⟨j,by omega,j2⟩,by omega,λi hi=>by have:=h3 i hi;omega⟩
  ·refine⟨⟨k,by omega,z1⟩,?_⟩
   rw[z2]
   rcases z3 with y | y
   ·subst y
    exact⟨by simp,λi hi=>by simp at hi;omega⟩
   ·obtain⟨_,h2,h3⟩:=nH c k _ y
    simp only at h2 h3
    refine⟨by simp;omega,λi hi=>?_⟩
    rcases List.mem_append.mp hi with x | x
    ·have:=h3 i x;omega
    ·simp at x;omega
def dq:Qg:=(.ay,0,[])
def sQ(qs:List Qg):List Qg:=(gO false (qs.map λq=>rl q.1)).map λi=>qs.getD i dq
def ie(c:List Wo):List Gp:=(gO false ((lz c c.length).map λg=>rl g.1)).map λi=>(lz c c.length).getD i (.ay,[])
theorem UI{qs:List Qg}{c:List Wo}(h:qs.map oR=lz c c.length):(sQ qs).map oR=ie c:=by
 unfold sQ ie
 have e:(lz c c.length).map (λg=>rl g.1)=qs.map λq=>rl q.1:=by rw[<-h,bE];rfl
 rw[e,bE]
 refine kY λi hi=>?_
 show oR (qs.getD i dq)=_
 rw[<-h]
 simp only[cC,iH]
 cases qs[i]?<;>rfl
theorem qL{qs:List Qg}{q:Qg}(h:q∈sQ qs):q∈qs:=by
 obtain⟨i,hi,rfl⟩:=List.mem_map.mp h
 have hl:=oJ hi
 rw[av] at hl
 rw[cC,bX hl]
 exact kU hl
theorem NG:∀{qs:List Qg}{q:Qg},(qs.map (·.1)).Nodup->q∈qs->gN (qK qs) q.1.key=some (.ref q.2.1)
 | [],q,_,h=>by cases h
 | p::r,q,n,h=>by
  have n0:=List.nodup_cons.mp (show(p.1::r.map (·.1)).Nodup from n)
  rcases List.mem_cons.mp h with z | z
  ·subst z
   show(if q.1.key=q.1.key then _ else _)=_
   rw[if_pos rfl]
  ·have ne:¬p.1.key=q.1.key:=λy=>n0.1 (List.mem_map.mpr ⟨q,z,(oP y).symm⟩)
   show(if p.1.key=q.1.key then _ else _)=_
   rw[if_neg ne]
   exact NG (qs:=r) n0.2 z
def qT(q:Qg):Wv:=.tup [q.1.w,.ref q.2.1]
theorem Kx:∀{qs:List Qg},(∀q∈qs,q.1.ok=true)->wKs ((qK qs).map (·.1))=some (qs.map λq=>q.1.w)
 | [],_=>rfl
 | q::r,h=>by
  have h1:=FI (h q aP)
  have h2:=Kx (qs:=r) λp hp=>h p (aJ _ hp)
  show(match wK q.1.key,wKs ((qK r).map (·.1)) with | some w,some l=>some (w::l) | _,_=>none)=_
  rw[h1,h2]
  rfl
section
variable {hs:List PySem.Str} {rows:List (List Wo)} {st:Hs}
theorem zY:∀(qs:List Qg),vP dj st (qs.map λq=>q.1.w)=some ((qs.map (·.1)).map yy)
 | []=>rfl
 | q::r=>by
  have h2:=zY r
  unfold vP at h2 ⊢
  rw[aH]
  unfold r9
  dsimp only
  rw[UH]
  dsimp only
  rw[if_pos rfl,h2]
  rfl
theorem NH{d:Nat}{qs:List Qg}(h:st[d]? =some (.dct (qK qs)))(hk:∀q∈qs,q.1.ok=true)(hl:qs.length < 64):Bl false dj (.ref d) st= .ok (.ref st.length) (st++[.lst ((sQ qs).map λq:Qg=>q.1.w)]):=by
 unfold Bl
 dsimp only
 rw[h]
 dsimp only
 rw[Kx hk]
 dsimp only
 rw[if_pos (by rw[av];exact hl),zY]
 dsimp only
 rw[zW]
 dsimp only
 have e:(gO false ((qs.map (·.1)).map rl)).map (λi=>(qs.map λq=>q.1.w).getD i .ay)=(sQ qs).map λq:Qg=>q.1.w:=by
  unfold sQ
  rw[bE,bE]
  refine kY λi hi=>?_
  have hlt:=oJ hi
  simp only[av] at hlt
  simp[cC,hlt]
 rw[e]
theorem yC(T:Tb hs rows){at':Nat}:∀w∈col rows at',w.ok=true:=λw hw=>by
 obtain⟨r,hr,rfl⟩:=List.mem_map.mp hw
 rw[cC]
 cases e:r[at']? with
 | none=>rfl
 | some z=>exact T.ok r hr z (sR e)
theorem ko(T:Tb hs rows){at':Nat}{h:PySem.Str}(e:hs[at']? =some h):∃(l:Nat)(qs:List Qg)(st':Hs),bB [aO hs rows,.str h] st= .ok (.ref l) st'/\st'[l]? =some (.lst (qs.map qT))/\qs.map oR=ie (col rows at')/\(∀q∈qs,st'[q.2.1]? =some (.lst (nW q.2.2))/\st.length<=q.2.1/\q.2.1≠l)/\st.length<=l/\Gr st st':=by
 obtain⟨s1,hs1⟩:∃s1,st++[Ob.dct []]=s1:=⟨_,rfl⟩
 have UJ:s1.length=st.length+1:=by rw[<-hs1];simp
 have c1:=column (st:=s1) T e
 obtain⟨s2,hs2⟩:∃s2,s1++[.lst (hs.map Wv.str),.lst ((col rows at').map Wo.w)]=s2:=⟨_,rfl⟩
 rw[hs2] at c1
 have QK:s2.length=st.length+3:=by rw[<-hs2];simp[UJ]
 have G1:Gr st s1:=by rw[<-hs1];exact Gr.push
 have G2:Gr s1 s2:=by rw[<-hs2];exact Gr.app
 have UK:(col rows at').length<=14:=by unfold col;rw[av];exact T.rw'
 have V_:=yC T (at':=at')
 obtain⟨c,hc⟩:∃c,col rows at'=c:=⟨_,rfl⟩
 rw[hc] at UK V_ ⊢
 have kc:s2[s1.length+1]? =some (.lst (c.map Wo.w)):=by rw[<-hs2,hc];simp
 have kd:s2[st.length]? =some (.dct (qK [])):=G2.get (by rw[<-hs1];exact cu)
 have Q0:QS st.length (s1.length+1) [] s2:=⟨kd,(λq h=>by cases h),(λq h=>by cases h),by simp,by omega,by omega⟩
 have en:zj [.ref (s1.length+1)] s2= .ok (some (s1.length+1,c.map Wo.w),me (c.map Wo.w)) s2:=by
  unfold zj
  simp only[kc]
 obtain⟨ρ',s3,e4,o3,o4,qs,rfl,Q3,g3,K3⟩:=wq (is:=[3,4]) (gb:=cE) (c:=some (s1.length+1,c.map Wo.w)) (λk:Nat=> .tup [.int (k:Int),(c.getD k .ay).w])
  (λk ρ st'=>∃(o3 o4:Option Wv)(qs:List Qg),ρ=[some (aO hs rows),some (.str h),some (.ref st.length),o3,o4]/\QS st.length (s1.length+1) qs st'/\qs.map oR=lz c k/\Kd st.length (s1.length+1) s2 st')
  c.length 0 [some (aO hs rows),some (.str h),some (.ref st.length),none,none] s2 ⟨none,none,[],rfl,Q0,rfl,Kd.refl⟩
  (λk hk0 hk ρ st' hP=>by
   obtain⟨o3,o4,qs,rfl,Q,g,K⟩:=hP
   have ql:qs.length<=k:=by have:=congrArg iG g;rw[av] at this;rw[this];exact oS c k
   obtain⟨st2,r1,Q2,K2⟩:=Q.turn (k:=k) (a:=c.getD k .ay) (o0:=some (aO hs rows)) (o1:=some (.str h)) (by omega) λq hq=>by
    have:=(nH c k (oR q) (by rw[<-g];exact List.mem_map.mpr ⟨q,hq,rfl⟩)).2.1
    show(oR q).2.length<=100
    omega
   refine⟨_,_,st2,rfl,r1,?_,some (.int (k:Nat)),some (c.getD k .ay).w,_,rfl,Q2,by rw[FJ,g];rfl,K.trans K2⟩
   show aj st2 (s1.length+1)=some (c.map Wo.w)
   exact aB (by rw[(K.trans K2).2 _ (ak _) (by omega)];exact kc))
 rw[zU] at g3
 have XQ:me (c.map Wo.w)=(fT 0 c.length).map λk:Nat=> .tup [.int (k:Int),(c.getD k .ay).w]:=by rw[NF,List.range_eq_range']
 have XR:∀q∈qs,q.1.ok=true:=λq hq=>by
  obtain⟨j,j1,j2⟩:=(nH c c.length (oR q) (by rw[<-g3];exact List.mem_map.mpr ⟨q,hq,rfl⟩)).1
  have j2:q.1=c.getD j .ay:=j2
  rw[j2,cC,bX j1]
  exact V_ _ (kU j1)
 have V':(qs.map (·.1)).Nodup:=by
  have:=qJ c c.length
  rw[<-g3,bE] at this
  exact this
 have ql:qs.length<=c.length:=by have:=congrArg iG g3;rw[av] at this;rw[this];exact oS c _
 have sq:=NH Q3.dc XR (by omega)
 obtain⟨s4,B1⟩:∃s4,s3++[Ob.lst ((sQ qs).map λq:Qg=>q.1.w)]=s4:=⟨_,rfl⟩
 rw[B1] at sq
 have k4:aj s4 s3.length=some ((sQ qs).map λq:Qg=>q.1.w):=by rw[<-B1];exact aw
 have d4:s4[st.length]? =some (.dct (qK qs)):=by rw[<-B1];exact bO Q3.dc
 obtain⟨ρ,hρ⟩:∃ρ:a9,[some (aO hs rows),some (.str h),some (.ref st.length),o3,o4]=ρ:=⟨_,rfl⟩
 have sl:(sQ qs).length=qs.length:=by unfold sQ;rw[av,qi,av]
 have cp:=bI (cs:=[("groups",2)]) (gt:=i6) (ge:=fO) (ρ:=ρ) (w:=(some s3.length,(sQ qs).map λq:Qg=>q.1.w)) (st:=s4) (t:=λ_=>true) (f:=λv=> .tup [v,(gN (qK qs) (RL v).key).getD .ay]) k4
  (λv _ acc=>rfl) (λv hv _ acc=>by
   obtain⟨q,hq,rfl⟩:=List.mem_map.mp hv
   have vq:=NG V' (qL hq)
   have dg:Rg (.ref st.length) q.1.w (s4++[.lst acc])= .ok (.ref q.2.1) (s4++[.lst acc]):=by
    unfold Rg getD
    dsimp only
    rw[bO d4]
    dsimp only
    rw[oQ]
    dsimp only
    rw[vq]
   have gd:vF (ai 1) (ai 0) (some q.1.w::cq [("groups",2)] ρ) (s4++[.lst acc])= .ok (.ref q.2.1) (s4++[.lst acc]):=by
    unfold vF
    rw[<-hρ]
    simp[cq,dg]
   unfold fO
   simp[gd,Ks,vq])
  (by show((sQ qs).map λq:Qg=>q.1.w).length < lim;rw[av];unfold lim;omega)
 rw[show((some s3.length,(sQ qs).map λq:Qg=>q.1.w):Wk).2=(sQ qs).map λq:Qg=>q.1.w from rfl,List.filter_eq_self.mpr (λ_ _=>rfl),bE] at cp
 have ef:(sQ qs).map ((λv=>Wv.tup [v,(gN (qK qs) (RL v).key).getD .ay]) ∘ λq=>q.1.w)=(sQ qs).map qT:=kY λq hq=>by
  show Wv.tup [q.1.w,(gN (qK qs) (RL q.1.w).key).getD .ay]=_
  rw[Ks,NG V' (qL hq)]
  rfl
 rw[ef] at cp
 have G3:Gr st s3:=⟨by have:=K3.1;omega,λk hk=>by rw[K3.2 k (by omega) (by omega)];exact(G1.trans G2).2 k hk⟩
 have G4:Gr s3 s4:=by rw[<-B1];exact Gr.push
 refine⟨s4.length,sQ qs,s4++[.lst ((sQ qs).map qT)],?_,cu,UI g3,λq hq=>⟨bO (G4.get (Q3.ls q (qL hq))),by have:=Q3.lt q (qL hq);omega,by have:=bS (G4.get (Q3.ls q (qL hq)));omega⟩,(G3.trans G4).1,G3.trans (G4.trans Gr.push)⟩
 refine gH (n:=5) (g:=eD) ?_
 have fg:rY [3,4] (m_ (ag (a_ 2 cF (ag (ai 0) (ag (ai 1) au))) au)) cE [some (aO hs rows),some (.str h),some (.ref st.length),none,none] s1= .nx ρ s3:=by
  unfold rY m_
  simp[c1,en]
  rw[XQ,<-hρ]
  exact e4
 have gs:sf false dj (ai 2) ρ s3= .ok (.ref s3.length) s4:=by
  have g2:ai 2 ρ s3= .ok (.ref st.length) s3:=by rw[<-hρ];simp
  unfold sf
  rw[g2]
  simp only[aM]
  exact sq
 have nk:∀ρ:a9,qc ρ st= .ok (.ref st.length) s1:=λρ=>by rw[<-hs1];rfl
 unfold eD
 simp[nk,fg,gs,ei k4,cp]
end
abbrev Tg:=Wo×Nat×List Wo
def tK(ts:List Tg):List (L2.Key×Wv):=ts.map λt=>(t.1.key,Wv.ref t.2.1)
def QL(t:Tg):Wo×List Wo:=(t.1,t.2.2)
structure TS(d:Nat)(ts:List Tg)(st:Hs):Prop where
 dc:st[d]? =some (.dct (tK ts))
 ls:∀t∈ts,st[t.2.1]? =some (.lst (t.2.2.map Wo.w))/\t.2.1≠d
theorem FO{a:Wo}:∀{ts:List Tg},(∀t∈ts,t.1≠a)->((tK ts).any λkv=>decide (kv.1=a.key))=false
 | [],_=>rfl
 | q::r,h=>by
  have h1:¬q.1.key=a.key:=λz=>h q aP (oP z)
  have h2:=FO (ts:=r) λp hp=>h p (aJ _ hp)
  unfold tK at h2 ⊢
  rw[aH,fM,h2]
  simp[h1]
def dk(c:List Wo)(ns:List Nat):List Wo:=ns.map λi=>c.getD i .ay
section
variable {st:Hs}
theorem TS.turn{d lc lq:Nat}{c:List Wo}{ns:List Nat}{ts:List Tg}{a:Wo}{o0 o1 o2 o3:Option Wv}(S:TS d ts st)(kc:st[lc]? =some (.lst (c.map Wo.w)))(kq:st[lq]? =some (.lst (nW ns)))(hn:∀i∈ns,i < c.length)(hl:ns.length<=100)(ht:ts.length<=100)(ha:∀t∈ts,t.1≠a) :
  ∃st',bH [o0,o1,o2,o3,some (.ref lc),some (.ref d),some a.w,some (.ref lq)] st= .nx [o0,o1,o2,o3,some (.ref lc),some (.ref d),some a.w,some (.ref lq)] st'/\TS d (ts++[(a,st.length,dk c ns)]) st'/\bN d st st':=by
 obtain⟨ρ,hρ⟩:∃ρ:a9,[o0,o1,o2,o3,some (.ref lc),some (.ref d),some a.w,some (.ref lq)]=ρ:=⟨_,rfl⟩
 have hd:=bS S.dc
 have cp:=bI (cs:=[("column",4)]) (gt:=cJ) (ge:=bT) (ρ:=ρ) (w:=(some lq,nW ns)) (st:=st) (t:=λ_=>true) (f:=λv=>(c.getD (uF v).toNat .ay).w) (aB kq)
  (λv _ acc=>rfl) (λv hv _ acc=>by
   obtain⟨i,hi,rfl⟩:=List.mem_map.mp hv
   have ix:=uv (st:=st++[.lst acc]) (aB (bO kc)) (hn i hi)
   unfold bT
   rw[<-hρ]
   simp[-cC,cq,ix,uF])
  (by show(nW ns).length < lim;unfold nW;rw[av];unfold lim;omega)
 rw[show((some lq,nW ns):Wk).2=nW ns from rfl,List.filter_eq_self.mpr (λ_ _=>rfl)] at cp
 have ef:(nW ns).map (λv=>(c.getD (uF v).toNat .ay).w)=(dk c ns).map Wo.w:=by
  unfold nW dk
  rw[bE,bE]
  rfl
 rw[ef] at cp
 obtain⟨s2,hs2⟩:∃s2,st++[Ob.lst ((dk c ns).map Wo.w)]=s2:=⟨_,rfl⟩
 rw[hs2] at cp
 have d2:s2[d]? =some (.dct (tK ts)):=by rw[<-hs2];exact bO S.dc
 have n2:s2[st.length]? =some (.lst ((dk c ns).map Wo.w)):=by rw[<-hs2];exact cu
 have ep:n_ (tK ts) a.key (.ref st.length)=tK (ts++[(a,st.length,dk c ns)]):=by
  unfold n_
  rw[FO ha]
  unfold tK
  simp
 have pd:putD (.ref d) a.w (.ref st.length) s2=some (s2.set d (.dct (tK (ts++[(a,st.length,dk c ns)])))):=by
  unfold putD
  dsimp only
  rw[d2]
  dsimp only
  rw[oQ]
  dsimp only
  rw[if_pos (by unfold tK lim;rw[av];omega),ep]
 have gs:aZ [("column",4)] (aI (ai 7)) cJ bT ρ st= .ok (.ref st.length) s2:=by
  have g7:ai 7 ρ st= .ok (.ref lq) st:=by rw[<-hρ];simp
  unfold aZ aI
  rw[g7]
  simp only[aM]
  rw[ei (aB kq)]
  simp only[aM]
  exact cp
 have g5:ai 5 ρ s2= .ok (.ref d) s2:=by rw[<-hρ];simp
 have g6:ai 6 ρ s2= .ok a.w s2:=by rw[<-hρ];simp
 rw[hρ]
 refine⟨s2.set d (.dct (tK (ts++[(a,st.length,dk c ns)]))),?_,⟨fX d2,λt h=>?_⟩,?_⟩
 ·unfold bH zi
  rw[gs]
  simp only[dh]
  rw[g5]
  simp only[dh]
  rw[g6]
  simp only[dh]
  rw[pd]
 ·rcases List.mem_append.mp h with z | z
  ·obtain⟨h1,h2⟩:=S.ls t z
   exact⟨by rw[bW (bt h2),<-hs2];exact bO h1,h2⟩
  ·have z:=List.mem_singleton.mp z
   rw[z]
   exact⟨by rw[bW (by show d≠st.length;omega)];exact n2,by show st.length≠d;omega⟩
 ·rw[<-hs2]
  exact bN.push.trans bN.set
theorem sA{d lc lg:Nat}{c:List Wo}{all:List Wv}{o0 o1 o2:Option Wv}(Wa:lc≠d)(UL:lg≠d):∀(rest:List Qg)(ts:List Tg)(o6 o7:Option Wv)(st:Hs),TS d ts st->st[lc]? =some (.lst (c.map Wo.w))->aj st lg=some all->
  (∀q∈rest,st[q.2.1]? =some (.lst (nW q.2.2))/\q.2.1≠d/\(∀i∈q.2.2,i < c.length)/\q.2.2.length<=100)->ts.length+rest.length<=100->(ts.map (·.1)++rest.map (·.1)).Nodup->
  ∃p6 p7 st' ts',kG [6,7] bH lg all (rest.map qT) [o0,o1,o2,some (.ref lg),some (.ref lc),some (.ref d),o6,o7] st= .nx [o0,o1,o2,some (.ref lg),some (.ref lc),some (.ref d),p6,p7] st'/\TS d (ts++ts') st'/\ts'.map QL=rest.map (λq=>(q.1,dk c q.2.2))/\bN d st st'/\∀t∈ts',st.length<=t.2.1
 | [],ts,o6,o7,st,S,_,_,_,_,_=>⟨o6,o7,st,[],rfl,by rw[fc];exact S,rfl,bN.refl,λt h=>by cases h⟩
 | q::r,ts,o6,o7,st,S,kc,kg,hq,hl,nd=>by
  obtain⟨q1,q2,q3,q4⟩:=hq q aP
  simp only[kO] at hl
  have nq:∀t∈ts,t.1≠q.1:=λt ht e=>by
   rw[uw] at nd
   exact nd.2.2 t.1 (List.mem_map.mpr ⟨t,ht,rfl⟩) q.1 (by simp) e
  obtain⟨st2,r1,S2,K2⟩:=S.turn (c:=c) (ns:=q.2.2) (a:=q.1) (o0:=o0) (o1:=o1) (o2:=o2) (o3:=some (.ref lg)) kc q1 q3 q4 (by omega) nq
  obtain⟨p6,p7,st3,ts',r3,S3,g3,K3,B3⟩:=sA Wa UL r (ts++[(q.1,st.length,dk c q.2.2)]) (some q.1.w) (some (.ref q.2.1)) st2 S2 (by rw[K2.2 lc (bS kc) Wa];exact kc) (K2.lst kg UL)
   (λp hp=>by
    obtain⟨h1,h2,h3,h4⟩:=hq p (aJ _ hp)
    exact⟨by rw[K2.2 _ (bS h1) h2];exact h1,h2,h3,h4⟩) (by simp only[eh,kO,kP];omega) (by simpa using nd)
  refine⟨p6,p7,st3,(q.1,st.length,dk c q.2.2)::ts',?_,by simpa using S3,by rw[aH,g3];rfl,K2.trans K3,λt ht=>by
   rcases List.mem_cons.mp ht with z | z
   ·rw[z];exact ak _
   ·exact aX K2.1 (B3 t z)⟩
  rw[aH]
  unfold kG
  rw[show J2 [6,7] (qT q) [o0,o1,o2,some (.ref lg),some (.ref lc),some (.ref d),o6,o7]=some [o0,o1,o2,some (.ref lg),some (.ref lc),some (.ref d),some q.1.w,some (.ref q.2.1)] from rfl]
  dsimp only
  rw[r1]
  simp only[if_pos (K2.lst kg UL)]
  exact r3
end
theorem gy(c:List Wo):(ie c).Perm (lz c c.length):=by
 unfold ie gO
 refine((eB _).map _).trans ?_
 rw[av]
 refine List.Perm.of_eq ?_
 refine List.ext_getElem (by simp) λi h1 h2=>?_
 simp[h2]
theorem Jd(c:List Wo):((ie c).map (·.1)).Nodup:=((gy c).map _).nodup_iff.mpr (qJ c _)
theorem ux{c:List Wo}{g:Gp}(h:g∈ie c):g.2.length<=c.length/\∀i∈g.2,i < c.length:=by
 have:=nH c c.length g ((gy c).mem_iff.mp h)
 exact⟨this.2.1,this.2.2⟩
theorem mE(c:List Wo):(ie c).length<=c.length:=by rw[(gy c).length_eq];exact oS c _
def wz(c e:List Wo):List (Wo×List Wo):=(ie c).map λg=>(g.1,dk e g.2)
section
variable {hs:List PySem.Str} {rows:List (List Wo)} {st:Hs}
theorem f9{at':Nat}:(col rows at').length=rows.length:=by unfold col;simp
theorem BM(T:Tb hs rows){i j:Nat}{h h2:PySem.Str}(e:hs[i]? =some h)(e2:hs[j]? =some h2):∃(d:Nat)(ts:List Tg)(st':Hs),bJ [aO hs rows,.str h,.str h2] st= .ok (.ref d) st'/\TS d ts st'/\ts.map QL=wz (col rows i) (col rows j)/\st.length<=d/\Gr st st'/\∀t∈ts,st.length<=t.2.1:=by
 obtain⟨lg,qs,s1,r1,k1,g1,l1,b1,G1⟩:=ko (st:=st) T e
 have c2:=column (st:=s1) T e2
 obtain⟨s2,hs2⟩:∃s2,s1++[.lst (hs.map Wv.str),.lst ((col rows j).map Wo.w)]=s2:=⟨_,rfl⟩
 rw[hs2] at c2
 have G2:Gr s1 s2:=by rw[<-hs2];exact Gr.app
 obtain⟨s3,m6⟩:∃s3,s2++[Ob.dct []]=s3:=⟨_,rfl⟩
 have G3:Gr s2 s3:=by rw[<-m6];exact Gr.push
 have QK:s2.length=s1.length+2:=by rw[<-hs2];simp
 have kc:s3[s1.length+1]? =some (.lst ((col rows j).map Wo.w)):=G3.get (by rw[<-hs2];simp)
 have kd:s3[s2.length]? =some (.dct (tK [])):=by rw[<-m6];exact cu
 have Ys:=bS k1
 have ql:qs.length<=rows.length:=by
  have:=congrArg iG g1
  rw[av] at this
  rw[this,<-f9 (rows:=rows) (at':=i)]
  exact mE _
 have XS:=T.rw'
 have UM:∀q∈qs,oR q∈ie (col rows i):=λq hq=>by rw[<-g1];exact List.mem_map.mpr ⟨q,hq,rfl⟩
 obtain⟨p6,p7,s4,ts,r4,S4,g4,K4,B4⟩:=sA (d:=s2.length) (lc:=s1.length+1) (lg:=lg) (c:=col rows j) (all:=qs.map qT) (o0:=some (aO hs rows)) (o1:=some (.str h)) (o2:=some (.str h2)) (by omega) (by omega) qs [] none none s3
  ⟨kd,λt h=>by cases h⟩ kc (aB ((G2.trans G3).get k1)) (λq hq=>by
   obtain⟨h1,h2,h3⟩:=l1 q hq
   have lt:=bS h1
   obtain⟨h4,h5⟩:=ux (UM q hq)
   rw[f9] at h4 h5
   refine⟨(G2.trans G3).get h1,by omega,λk hk=>by rw[f9];exact h5 k hk,?_⟩
   have h4:q.2.2.length<=rows.length:=h4
   omega) (by simp only[kP];omega) (by
   have:=Jd (col rows i)
   rw[<-g1,bE] at this
   exact this)
 rw[pz] at S4
 refine⟨s2.length,ts,s4,?_,S4,?_,by have:=G1.1;omega,⟨by have:=G1.1;have:=K4.1;have:=G3.1;omega,λk hk=>?_⟩,λt ht=>aX (aX G1.1 (G2.trans G3).1) (B4 t ht)⟩
 ·refine gH (n:=8) (g:=aU) ?_
  have nk:∀ρ:a9,qc ρ s2= .ok (.ref s2.length) s3:=λρ=>by rw[<-m6];rfl
  have fg:nQ [6,7] (ai 3) bH [some (aO hs rows),some (.str h),some (.str h2),some (.ref lg),some (.ref (s1.length+1)),some (.ref s2.length),none,none] s3= .nx [some (aO hs rows),some (.str h),some (.str h2),some (.ref lg),some (.ref (s1.length+1)),some (.ref s2.length),p6,p7] s4:=by
   unfold nQ
   simp only[dH,cP,b_,dF,dh]
   rw[aB ((G2.trans G3).get k1)]
   exact r4
  unfold aU
  simp[r1,c2,nk,fg]
 ·rw[g4]
  unfold wz
  rw[<-g1,bE]
  rfl
 ·have h1:=G1.1
  rw[K4.2 k (by have:=(G2.trans G3).1;omega) (by omega)]
  exact(G1.trans (G2.trans G3)).2 k hk
end
namespace GA
inductive Wo where
 | ay
 | int (i:Int)
 | txt (x:PySem.Str)
 | Jx (x:PySem.Str)
def Wo.w:Wo->Wv
 | .ay=> .ay
 | .int i=> .int i
 | .txt x=> .str x
 | .Jx x=> .tup [.str "fault",.str x]
def Wo.f:Wo->Bool
 | .Jx _=>true
 | _=>false
def Wo.n:Wo->Bool
 | .int _=>true
 | _=>false
theorem XT(a:Wo)(st:Hs):iU [a.w] st= .ok (.bl a.f) st:=by cases a<;>rfl
def nums:List Wo->List Int
 | []=>[]
 | .int i::r=>i::nums r
 | _::r=>nums r
def nI:List Wo->List PySem.Str
 | []=>[]
 | .Jx x::r=>x::nI r
 | _::r=>nI r
theorem wA:∀a:List Wo,(a.map Wo.w).filter (λv=>match v with | .int _=>true | _=>false)=(nums a).map Wv.int
 | []=>rfl
 | x::r=>by
  have:=wA r
  cases x<;>simp[nums,Wo.w,this]
theorem wB:∀a:List Wo,(a.map Wo.w).filter (λv=>match v with | .tup _=>true | _=>false)=(nI a).map λx=>Wv.tup [.str "fault",.str x]
 | []=>rfl
 | x::r=>by
  have:=wB r
  cases x<;>simp[nI,Wo.w,this]
def FP:Int:=10 ^ (60:Int).toNat
theorem Od{st:Hs}:pH (.int 10) (.int 60) st= .ok (.int FP) st:=Fh (by decide)
def bnd(i:Int):Wv:=if FP < (if i < 0 then -i else i) then .tup [.str "fault",.str "great"] else .int i
theorem bounded{i:Int}{st:Hs}:gq [.int i] st= .ok (bnd i) st:=by
 have g:gI [.int i] st= .ok (.bl (decide (FP < (if i < 0 then -i else i)))) st:=by
  unfold gI kQ lb
  simp[Od]
 have f:iS [.str "great"] st= .ok (.tup [.str "fault",.str "great"]) st:=rfl
 unfold gq kQ ny bnd
 by_cases c:FP < (if i < 0 then -i else i)
 ·simp[g,f,c]
 ·simp[g,f,c]
inductive f_ where
 | sum | count | least | jM
def f_.s:f_->PySem.Str
 | .sum=>"sum"
 | .count=>"count"
 | .least=>"least"
 | .jM=>"greatest"
def due(wd:f_)(ws:List Wo):Wv:=match nI ws with
 | x::_=> .tup [.str "fault",.str x]
 | []=>match wd with
  | .sum=>bnd (nums ws).sum
  | .count=> .int (nums ws).length
  | .least=>(match nums ws with | []=> .tup [.str "fault",.str "none"] | n::r=>bnd (q_ n r))
  | .jM=>(match nums ws with | []=> .tup [.str "fault",.str "none"] | n::r=>bnd (qZ n r))
theorem Je:(("sum":PySem.Str) == "sum")=true:=rfl
theorem QM:(("count":PySem.Str) == "sum")=false:=rfl
theorem Jf:(("least":PySem.Str) == "sum")=false:=rfl
theorem Jg:(("greatest":PySem.Str) == "sum")=false:=rfl
theorem NI:(("count":PySem.Str) == "count")=true:=rfl
theorem Jh:(("least":PySem.Str) == "count")=false:=rfl
theorem Ji:(("greatest":PySem.Str) == "count")=false:=rfl
theorem QN:(("least":PySem.Str) == "least")=true:=rfl
theorem QO:(("greatest":PySem.Str) == "least")=false:=rfl
theorem V5(a:Wo)(st:Hs):jr lC kD [a.w,.ty "int"] st= .ok (.bl a.n) st:=by cases a<;>rfl
theorem gather{wd:f_}{ws:List Wo}{l:Nat}{st:Hs}(h:aj st l=some (ws.map Wo.w))(hl:ws.length < 100):∃st',eu [.str wd.s,.ref l] st= .ok (due wd ws) st'/\Gr st st':=by
 have c1:∀st:Hs,aj st l=some (ws.map Wo.w)->∀ρ,bU [] gK jH ρ (some l,ws.map Wo.w) st= .ok (.ref st.length) (st++[.lst ((nI ws).map λx=>Wv.tup [.str "fault",.str x])]):=by
  intro st h ρ
  rw[bI (w:=(some l,ws.map Wo.w)) (t:=λv=>match v with | .tup _=>true | _=>false) (f:=id) h]
  ·rw[lA,wB]
  ·intro v hv acc
   obtain⟨a,_,rfl⟩:=List.mem_map.mp hv
   unfold gK
   simp[XT]
   cases a<;>rfl
  ·intro v hv _ acc
   rfl
  ·simp;unfold lim;omega
 have c2:∀st:Hs,aj st l=some (ws.map Wo.w)->∀ρ,bU [] gJ jG ρ (some l,ws.map Wo.w) st= .ok (.ref st.length) (st++[.lst ((nums ws).map Wv.int)]):=by
  intro st h ρ
  rw[bI (w:=(some l,ws.map Wo.w)) (t:=λv=>match v with | .int _=>true | _=>false) (f:=id) h]
  ·rw[lA,wA]
  ·intro v hv acc
   obtain⟨a,_,rfl⟩:=List.mem_map.mp hv
   unfold gJ
   simp[V5]
   cases a<;>rfl
  ·intro v hv _ acc
   rfl
  ·simp;unfold lim;omega
 have l1:=aw (st:=st) (ws:=(nI ws).map λx=>Wv.tup [.str "fault",.str x])
 cases e2:nI ws with
 | cons x r=>
  have q:due wd ws= .tup [.str "fault",.str x]:=by unfold due;rw[e2]
  rw[e2] at l1
  refine⟨st++[.lst ((nI ws).map λx=>Wv.tup [.str "fault",.str x])],?_,Gr.push⟩
  rw[q]
  have i:=Fi (st:=st++[.lst ((nI ws).map λx=>Wv.tup [.str "fault",.str x])]) (l:=st.length) (i:=0) (ws:=(x::r).map λx=>Wv.tup [.str "fault",.str x]) (v:=.tup [.str "fault",.str x]) (by rw[e2];exact l1) (by rw[aH];exact QE)
  have tr:tN (.ref st.length) (st++[.lst ((nI ws).map λx=>Wv.tup [.str "fault",.str x])])= .ok true (st++[.lst ((nI ws).map λx=>Wv.tup [.str "fault",.str x])]):=by
   unfold tN
   simp only[e2,l1]
   rfl
  unfold eu kQ iW
  simp[ei h,c1 _ h,tr,i]
 | nil=>
  rw[e2] at l1
  have h2:aj (st++[.lst []]) l=some (ws.map Wo.w):=Gr.push.lst h
  have l3:=aw (st:=st++[.lst []]) (ws:=(nums ws).map Wv.int)
  have QP:=c1 _ h
  rw[e2] at QP
  simp only[w9] at QP
  have RM:=c2 _ h2
  have tr:tN (.ref st.length) (st++[.lst []])= .ok false (st++[.lst []]):=by
   unfold tN
   simp only[show aj (st++[.lst []]) st.length=some [] from l1]
   rfl
  refine⟨st++[.lst []]++[.lst ((nums ws).map Wv.int)],?_,Gr.push.trans Gr.push⟩
  generalize st++[.lst []]=s1 at tr h2 l3 RM QP
  generalize hs2:s1++[.lst ((nums ws).map Wv.int)]=s2 at l3 RM
  have f:iS [.str "none"] s2= .ok (.tup [.str "fault",.str "none"]) s2:=rfl
  have sm:=Fq l3
  have ln:lS [.ref s1.length] s2= .ok (.int (nums ws).length) s2:=by
   have:=Kp l3
   rwa [av] at this
  have RN:tN (.ref s1.length) s2= .ok (!((nums ws).map Wv.int).isEmpty) s2:=by
   unfold tN
   simp only[l3]
  unfold due
  rw[e2]
  unfold eu kQ iW
  cases en:nums ws with
  | nil=>
   rw[en] at sm ln RN
   cases wd<;>simp[ei h,QP,tr,ei h2,RM,sm,ln,RN,f,f_.s,Je,QM,Jf,Jg,NI,Jh,Ji,QN,QO,bounded]
  | cons n r=>
   rw[en] at sm ln RN l3
   cases wd<;>simp[ei h,QP,tr,ei h2,RM,sm,ln,RN,f,f_.s,Je,QM,Jf,Jg,NI,Jh,Ji,QN,QO,bounded,Fv l3,Fw l3]
end GA
def cv:Wo->GA.Wo
 | .ay=> .ay
 | .int i=> .int i
 | .str x=> .txt x
theorem UN(a:Wo):(cv a).w=a.w:=by cases a<;>rfl
def wC(wd:GA.f_)(ws:List Wo):Wv:=GA.due wd (ws.map cv)
theorem gathered{wd:GA.f_}{ws:List Wo}{l:Nat}{st:Hs}(h:aj st l=some (ws.map Wo.w))(hl:ws.length < 100):∃st',eu [.str wd.s,.ref l] st= .ok (wC wd ws) st'/\Gr st st':=by
 refine GA.gather (ws:=ws.map cv) ?_ (by rw[av];exact hl)
 rw[h,bE]
 congr 1
 exact kY λa _=>(UN a).symm
theorem qM{α:Type}{ck:Hs->Prop}{n:Nat}{gt:List Wv->Hs->Re Bool}{ge:List Wv->Hs->Re Wv}{rr:Nat}(f:α->Wv)(us:α->List Wv)(v:α->Wv)(s0:Hs)(hck:∀st,bN rr s0 st->ck st) :
  ∀(ws:List α),(∀a∈ws,DY n (f a)=some (us a)/\∀st,bN rr s0 st->rr < st.length->gt (us a) st= .ok true st/\∃st',ge (us a) st= .ok (v a) st'/\Gr st st')->∀(acc:List Wv)(st:Hs),bN rr s0 st->st[rr]? =some (.lst acc)->acc.length+ws.length < lim->
   ∃st',hZ ck n gt ge rr (ws.map f) st=some st'/\st'[rr]? =some (.lst (acc++ws.map v))/\bN rr st st'
 | [],_,acc,st,_,hg,_=>⟨st,rfl,by simpa using hg,bN.refl⟩
 | a::t,h,acc,st,hk,hg,hl=>by
  have hl':acc.length+(t.length+1) < lim:=hl
  obtain⟨e0,hs⟩:=h a aP
  obtain⟨e1,s1,e2,g1⟩:=hs st hk (bS hg)
  have QQ:=g1.get hg
  have K1:bN rr st (s1.set rr (.lst (acc++[v a]))):=g1.keep.trans bN.set
  obtain⟨s2,e3,g2,K2⟩:=qM f us v s0 hck t (λa ha=>h a (aJ _ ha)) (acc++[v a]) (s1.set rr (.lst (acc++[v a]))) (hk.trans K1) (fX QQ) (by simp;omega)
  refine⟨s2,?_,by simpa using g2,K1.trans K2⟩
  rw[aH]
  unfold hZ
  rw[e0]
  dsimp only
  rw[e1]
  dsimp only
  rw[e2]
  dsimp only
  rw[zO QQ (by omega)]
  dsimp only
  rw[if_pos (hck _ (hk.trans K1))]
  exact e3
def tT(t:Tg):Wv:=.tup [t.1.w,.ref t.2.1]
theorem zZ:∀{ts:List Tg},(∀t∈ts,t.1.ok=true)->fV (tK ts)=some (ts.map tT)
 | [],_=>rfl
 | q::r,h=>by
  have h1:=FI (h q aP)
  have h2:=zZ (ts:=r) λp hp=>h p (aJ _ hp)
  show(match wK q.1.key,fV (tK r) with | some k,some l=>some (Wv.tup [k,Wv.ref q.2.1]::l) | _,_=>none)=_
  rw[h1,h2]
  rfl
def uy(wd:GA.f_)(p:Wo×List Wo):Wv:=.tup [p.1.w,wC wd p.2]
section
variable {hs:List PySem.Str} {rows:List (List Wo)} {st:Hs}
theorem Jj(T:Tb hs rows){i j:Nat}:∀p∈wz (col rows i) (col rows j),p.1.ok=true/\p.2.length<=14:=λp hp=>by
 obtain⟨g,hg,rfl⟩:=List.mem_map.mp hp
 have h1:=(nH _ _ g ((gy _).mem_iff.mp hg))
 obtain⟨⟨k,k1,k2⟩,h2,_⟩:=h1
 refine⟨?_,?_⟩
 ·show g.1.ok=true
  rw[k2,cC,bX k1]
  exact yC T _ (kU k1)
 ·show(dk (col rows j) g.2).length<=14
  unfold dk
  rw[av]
  have:=T.rw'
  rw[f9] at h2
  omega
theorem Jk(T:Tb hs rows){i j:Nat}{h h2:PySem.Str}{wd:GA.f_}(e:hs[i]? =some h)(e2:hs[j]? =some h2):∃(l:Nat)(st':Hs),eF [aO hs rows,.str h,.str wd.s,.str h2] st= .ok (.ref l) st'/\st'[l]? =some (.lst ((wz (col rows i) (col rows j)).map (uy wd)))/\st.length<=l/\Gr st st':=by
 obtain⟨d,ts,s1,r1,S1,g1,b1,G1,_⟩:=BM (st:=st) T e e2
 have Wb:∀t∈ts,t.1.ok=true/\t.2.2.length<=14:=λt ht=>Jj T (i:=i) (j:=j) (QL t) (by rw[<-g1];exact List.mem_map.mpr ⟨t,ht,rfl⟩)
 have tl:ts.length<=14:=by
  have:=congrArg iG g1
  rw[av] at this
  rw[this]
  unfold wz
  rw[av]
  have h3:=mE (col rows i)
  rw[f9] at h3
  have:=T.rw'
  omega
 obtain⟨s2,hs2⟩:∃s2,s1.set d (.BS (tK ts))=s2:=⟨_,rfl⟩
 have it:oK (.ref d) s1= .ok (none,ts.map tT) s2:=by
  unfold oK
  dsimp only
  rw[S1.dc]
  dsimp only
  rw[zZ λt ht=>(Wb t ht).1,hs2]
 have K2:bN d s1 s2:=by rw[<-hs2];exact bN.set
 have l2:∀t∈ts,s2[t.2.1]? =some (.lst (t.2.2.map Wo.w)):=λt ht=>by
  obtain⟨h1,h2⟩:=S1.ls t ht
  rw[K2.2 _ (bS h1) h2]
  exact h1
 obtain⟨ρ,hρ⟩:∃ρ:a9,[some (aO hs rows),some (.str h),some (.str wd.s),some (.str h2)]=ρ:=⟨_,rfl⟩
 obtain⟨s3,c3,g3,K3⟩:=qM (ck:=tY none) (n:=2) (gt:=λv=>fH (v.map some++cq [("word",2)] ρ)) (ge:=λv=>dR (v.map some++cq [("word",2)] ρ)) (rr:=s2.length) tT (λt=>[t.1.w,.ref t.2.1]) (λt=>uy wd (QL t)) (s2++[.lst []]) (λ_ _=>trivial) ts
  (λt ht=>⟨rfl,λst hk hlt=>⟨rfl,by
   have k1:aj st t.2.1=some (t.2.2.map Wo.w):=hk.lst (aB (bO (l2 t ht))) (by have:=bS (l2 t ht);omega)
   obtain⟨st',e3,G3⟩:=gathered (wd:=wd) k1 (by have:=(Wb t ht).2;omega)
   refine⟨st',?_,G3⟩
   rw[<-hρ]
   unfold dR
   simp[cq,e3,uy,QL]⟩⟩) [] (s2++[.lst []]) bN.refl cu (by simp;unfold lim;omega)
 have wo:gE 2 [("word",2)] fH dR ρ (none,ts.map tT) s2= .ok (.ref s2.length) s3:=by
  unfold gE
  rw[show((none,ts.map tT):Ia).2=ts.map tT from rfl,c3]
 have QK:s2.length=s1.length:=by rw[<-hs2];simp
 refine⟨s2.length,s3,?_,?_,by have:=G1.1;omega,⟨by have:=G1.1;have:=K3.1;simp at this;omega,λk hk=>?_⟩⟩
 ·refine gH (n:=4) (g:=eE) ?_
  have gg:gF 2 [("word",2)] (iB (a_ 3 bJ (ag (ai 0) (ag (ai 1) (ag (ai 3) au))))) fH dR [some (aO hs rows),some (.str h),some (.str wd.s),some (.str h2)] st= .ok (.ref s2.length) s3:=by
   unfold gF iB
   simp[r1,it]
   rw[hρ]
   exact wo
  show eE [some (aO hs rows),some (.str h),some (.str wd.s),some (.str h2)] st=_
  unfold eE
  simp only[Kj,gg,dh]
 ·rw[pz] at g3
  rw[g3,<-g1,bE]
  rfl
 ·have h1:=G1.1
  rw[K3.2 k (by simp;omega) (by omega),cG (by omega),K2.2 k (by omega) (by omega)]
  exact G1.2 k hk
end
def dW:Wo->PyData
 | .ay=> .none
 | .int i=> .int i
 | .str x=> .str x
theorem oT{st:Hs}{n:Nat}:∀l:List Wo,eG (aK st (n+1)) (l.map Wo.w)=some (l.map dW)
 | []=>rfl
 | a::r=>by
  rw[aH]
  unfold eG
  rw[oT r]
  cases a<;>rfl
theorem yD(a b:Wo):aN (dW a) (dW b)=decide (a=b):=by
 cases a<;>cases b<;>simp[dW,aN]<;>(rw[FA];simp)
theorem sC:∀a b:List Wo,cx (a.map dW) (b.map dW)=decide (a=b)
 | [],[]=>by simp[cx]
 | [],_::_=>by simp[cx]
 | _::_,[]=>by simp[cx]
 | i::a,j::b=>by
  have ih:=sC a b
  simp only[aH,cx,ih,yD]
  rw[FA]
  simp
theorem NJ{st:Hs}{a b:Nat}{xs ys:List Wo}(h:aj st a=some (xs.map Wo.w))(k:aj st b=some (ys.map Wo.w)):oEq (.ref a) (.ref b) st= .ok (.bl (decide (xs=ys))) st:=by
 have d1:aK st 20 (.ref a)=some (.list (xs.map dW)):=by rw[nY (n:=19) h,oT];rfl
 have d2:aK st 20 (.ref b)=some (.list (ys.map dW)):=by rw[nY (n:=19) k,oT];rfl
 unfold oEq
 rw[d1,d2]
 dsimp only
 congr 2
 simp[aN,sC]
section
variable {hs:List PySem.Str} {rows:List (List Wo)} {st:Hs}
theorem sD{h:PySem.Str}(hn:h∉hs):bB [aO hs rows,.str h] st= .err "NoColumn" (st++[.dct []]):=by
 refine qx (n:=5) (g:=eD) (ρ:=[some (aO hs rows),some (.str h),some (.ref st.length),none,none]) ?_
 have nk:∀ρ:a9,qc ρ st= .ok (.ref st.length) (st++[.dct []]):=λρ=>rfl
 have nc:=sy (rows:=rows) (st:=st++[Ob.dct []]) hn
 unfold eD
 simp[nk,rY,m_,nc]
theorem BN(T:Tb hs rows){h h2:PySem.Str}(hn:h∉hs\/((∃i:Nat,hs[i]? =some h)/\h2∉hs)):∃st',bJ [aO hs rows,.str h,.str h2] st= .err "NoColumn" st'/\Gr st st':=by
 rcases hn with hn | ⟨⟨i,e⟩,hn⟩
 ·refine⟨st++[.dct []],?_,Gr.push⟩
  refine qx (n:=8) (g:=aU) (ρ:=[some (aO hs rows),some (.str h),some (.str h2),none,none,none,none,none]) ?_
  unfold aU
  simp[sD hn]
 ·obtain⟨lg,qs,s1,r1,k1,g1,l1,b1,G1⟩:=ko (st:=st) T e
  refine⟨s1,?_,G1⟩
  refine qx (n:=8) (g:=aU) (ρ:=[some (aO hs rows),some (.str h),some (.str h2),some (.ref lg),none,none,none,none]) ?_
  unfold aU
  simp[r1,sy hn]
end
def idx(c:List Wo)(a:Wo)(n:Nat):List Nat:=(dm n).filter λk=>decide (c.getD k .ay=a)
theorem FQ(c:List Wo)(a:Wo)(n:Nat):idx c a (n+1)=idx c a n++if c.getD n .ay=a then[n] else[]:=by
 unfold idx
 rw[List.range_succ,List.filter_append]
 congr 1
 by_cases e:c.getD n .ay=a
 ·rw[if_pos e,xw (by simpa using e)];rfl
 ·rw[if_neg e,xx (by simpa using e)];rfl
theorem sE{a:Wo}{i:Nat}:∀{gs:List Gp}{g:Gp},(gs.map (·.1)).Nodup->g∈jL gs a i->(g.1≠a/\g∈gs)\/(g.1=a/\((∃l,(a,l)∈gs/\g.2=l++[i])\/(a∉gs.map (·.1)/\g.2=[i])))
 | [],g,_,h=>by
  have h:=List.mem_singleton.mp h
  rw[h]
  exact .inr ⟨rfl,.inr ⟨by simp,rfl⟩⟩
 | q::r,g,n,h=>by
  have n0:=List.nodup_cons.mp (show(q.1::r.map (·.1)).Nodup from n)
  unfold jL at h
  by_cases e:q.1=a
  ·rw[if_pos e] at h
   rcases List.mem_cons.mp h with z | z
   ·rw[z]
    exact .inr ⟨e,.inl ⟨q.2,by rw[<-e];exact aP,rfl⟩⟩
   ·refine .inl ⟨λy=>n0.1 ?_,aJ _ z⟩
    rw[e,<-y]
    exact List.mem_map.mpr ⟨g,z,rfl⟩
  ·rw[if_neg e] at h
   rcases List.mem_cons.mp h with z | z
   ·rw[z];exact .inl ⟨e,aP⟩
   ·rcases sE n0.2 z with ⟨y1,y2⟩ | ⟨y1,⟨l,y2,y3⟩ | ⟨y2,y3⟩⟩
    ·exact .inl ⟨y1,aJ _ y2⟩
    ·exact .inr ⟨y1,.inl ⟨l,aJ _ y2,y3⟩⟩
    ·refine .inr ⟨y1,.inr ⟨λw=>?_,y3⟩⟩
     rcases List.mem_cons.mp (show a∈q.1::r.map (·.1) from w) with x | x
     ·exact e x.symm
     ·exact y2 x
theorem uz(c:List Wo):∀k j,j < k->c.getD j .ay∈(lz c k).map (·.1)
 | 0,j,h=>absurd h (Nat.not_lt_zero _)
 | k+1,j,h=>by
  show _∈(jL (lz c k) (c.getD k .ay) k).map (·.1)
  rw[mD]
  by_cases m:c.getD k .ay∈(lz c k).map (·.1)
  ·rw[if_pos m]
   by_cases e:j=k
   ·rw[e];exact m
   ·exact uz c k j (by omega)
  ·rw[if_neg m]
   by_cases e:j=k
   ·rw[e];simp
   ·exact oX _ (uz c k j (by omega))
theorem uA(c:List Wo):∀k,∀g∈lz c k,g.2=idx c g.1 k
 | 0,g,h=>by simp[lz] at h
 | k+1,g,h=>by
  rw[FQ]
  rcases sE (qJ c k) (show g∈jL (lz c k) (c.getD k .ay) k from h) with ⟨y1,y2⟩ | ⟨y1,⟨l,y2,y3⟩ | ⟨y2,y3⟩⟩
  ·rw[if_neg (λz=>y1 z.symm),fc]
   exact uA c k g y2
  ·have y4:l=idx c (c.getD k .ay) k:=uA c k _ y2
   rw[if_pos y1.symm,y3,y4,y1]
  ·rw[if_pos y1.symm,y3]
   have:idx c g.1 k=[]:=by
    unfold idx
    rw[List.filter_eq_nil_iff]
    intro j hj hc
    have hc:c.getD j .ay=g.1:=by simpa using hc
    rw[y1] at hc
    exact y2 (hc ▸ uz c k j (List.mem_range.mp hj))
   rw[this]
   rfl
abbrev Oe(l:List Wo):Prop:=l.Pairwise λa b=>mP (rl b) (rl a)=false
theorem NK{a b:List Wo}(h:a.Perm b)(ha:Oe a)(hb:Oe b):a=b:=xF (λ_ _ _ _ h1 h2=>Jb (MV (yz _) (yz _) h2 h1)) ha hb h
theorem Jl(c:List Wo):Oe ((ie c).map (·.1)):=by
 unfold ie gO
 rw[bE]
 unfold Oe
 rw[oI]
 refine NL (λ{i j} hi hj h=>?_) (t7 (b:=false) (λk hk=>by
  obtain⟨g,_,rfl⟩:=List.mem_map.mp hk
  exact yz _) _ t8)
 have li:i < (lz c c.length).length:=by have:=List.mem_range.mp ((eB _).mem_iff.mp hi);rwa [av] at this
 have lj:j < (lz c c.length).length:=by have:=List.mem_range.mp ((eB _).mem_iff.mp hj);rwa [av] at this
 have e:∀i,i < (lz c c.length).length->((lz c c.length).map λg=>rl g.1).getD i kd=rl ((lz c c.length).getD i (.ay,[])).1:=λi h=>by
  simp[cC,h]
 have q:=h.1
 unfold ltB at q
 rw[if_neg cQ,e i li,e j lj] at q
 exact q
def bj:List Wo->List Int
 | []=>[]
 | .int i::r=>i::bj r
 | _::r=>bj r
def eW:List Wo->List PySem.Str
 | []=>[]
 | .str x::r=>x::eW r
 | _::r=>eW r
def fL:List Wo->List Wo
 | []=>[]
 | .ay::r=> .ay::fL r
 | _::r=>fL r
theorem iD:∀{u:List Wo}{a:Wo},a∈fL u->a= .ay
 | .ay::r,a,h=>by
  rcases List.mem_cons.mp (show a∈Wo.ay::fL r from h) with z | z
  ·exact z
  ·exact iD z
 | .int _::r,a,h=>iD (u:=r) h
 | .str _::r,a,h=>iD (u:=r) h
def lB(u:List Wo):List Wo:=(kC (bj u)).map Wo.int++(mi (eW u)).map Wo.str++fL u
theorem iX:∀u:List Wo,((bj u).map Wo.int++(eW u).map Wo.str++fL u).Perm u
 | []=> .refl _
 | .int i::r=>by
  show(Wo.int i::((bj r).map Wo.int++(eW r).map Wo.str++fL r)).Perm (Wo.int i::r)
  exact(iX r).cons (.int i)
 | .str x::r=>by
  refine .trans ?_ ((iX r).cons (.str x))
  show((bj r).map Wo.int++(Wo.str x::(eW r).map Wo.str)++fL r).Perm (Wo.str x::((bj r).map Wo.int++(eW r).map Wo.str++fL r))
  rw[pv,pv]
  exact List.perm_middle
 | .ay::r=>by
  refine .trans ?_ ((iX r).cons .ay)
  exact List.perm_middle
theorem sF(u:List Wo):(lB u).Perm u:=.trans (.append (.append ((f' _).map _) ((fj _).map _)) (.refl _)) (iX u)
theorem Jm(u:List Wo):Oe (lB u):=by
 unfold lB Oe
 rw[Jn,Jn]
 refine⟨⟨?_,?_,λa ha b hb=>?_⟩,?_,λa ha b hb=>?_⟩
 ·rw[oI]
  refine(pU _).imp λ{a b} h=>?_
  simp[mP,rl]
  exact h
 ·rw[oI]
  refine(t9 _).imp λ{a b} h=>?_
  simp[mP,rl]
  exact h
 ·obtain⟨i,_,rfl⟩:=List.mem_map.mp ha
  obtain⟨x,_,rfl⟩:=List.mem_map.mp hb
  rfl
 ·refine NL (λ{a b} ha hb _=>?_) (List.pairwise_of_forall (l:=fL u) (R:=λ_ _=>True) λ_ _=>trivial)
  rw[iD ha,iD hb]
  rfl
 ·rw[iD hb]
  rcases List.mem_append.mp ha with z | z
  ·obtain⟨i,_,rfl⟩:=List.mem_map.mp z
   rfl
  ·obtain⟨x,_,rfl⟩:=List.mem_map.mp z
   rfl
theorem FR(c:List Wo):lB ((lz c c.length).map (·.1))=(ie c).map (·.1) :=
 NK ((sF _).trans ((gy c).map _).symm) (Jm _) (Jl c)
theorem Jo(c:List Wo):(lB ((lz c c.length).map (·.1))).map (λa=>(a,idx c a c.length))=ie c:=by
 rw[FR,bE]
 have e:(ie c).map ((λa=>(a,idx c a c.length)) ∘ (·.1))=(ie c).map id:=kY λg hg=>by
  show(g.1,idx c g.1 c.length)=g
  rw[<-uA c c.length g ((gy c).mem_iff.mp hg)]
 rw[e,lA]
def FT(acc:List Wo):List Wo->List Wo
 | []=>acc
 | a::r=>FT (if a∈acc then acc else acc++[a]) r
theorem qN(a:Wo):∀(l acc:List Wo),FT acc (l++[a])=if a∈FT acc l then FT acc l else FT acc l++[a]
 | [],acc=>rfl
 | b::r,acc=>qN a r _
theorem z_(c:List Wo):∀k,k<=c.length->FT [] (c.take k)=(lz c k).map (·.1)
 | 0,_=>rfl
 | k+1,h=>by
  show _=(jL (lz c k) (c.getD k .ay) k).map (·.1)
  have lt:k < c.length:=h
  rw[mD,<-z_ c k (by omega),List.take_add_one,bX lt]
  rw[show c.getD k .ay=c[k] by simp[lt]]
  exact qN _ _ _
def Jp:Wv->Bool
 | .int _=>true
 | _=>false
def NM:Wv->Bool
 | .str _=>true
 | _=>false
def NN:Wv->Bool
 | .ay=>true
 | _=>false
theorem jN:∀u:List Wo,(u.map Wo.w).filter Jp=(bj u).map Wv.int
 | []=>rfl
 | .int i::r=>by show Wv.int i::(r.map Wo.w).filter Jp=Wv.int i::(bj r).map Wv.int;rw[jN r]
 | .str _::r=>jN r
 | .ay::r=>jN r
theorem mF:∀u:List Wo,(u.map Wo.w).filter NM=(eW u).map Wv.str
 | []=>rfl
 | .str x::r=>by show Wv.str x::(r.map Wo.w).filter NM=Wv.str x::(eW r).map Wv.str;rw[mF r]
 | .int _::r=>mF r
 | .ay::r=>mF r
theorem mG:∀u:List Wo,(u.map Wo.w).filter NN=(fL u).map Wo.w
 | []=>rfl
 | .ay::r=>by show Wv.ay::(r.map Wo.w).filter NN=Wv.ay::(fL r).map Wo.w;rw[mG r]
 | .int _::r=>mG r
 | .str _::r=>mG r
section
variable {st:Hs}
theorem FU{l:Nat}{ns:List Int}(h:aj st l=some (ns.map Wv.int))(hl:ns.length < 64):jA [.ref l] st= .ok (.ref st.length) (st++[.lst ((kC ns).map Wv.int)]):=by
 have e:=QD h hl
 unfold jA
 dsimp only
 rw[h]
 dsimp only
 rw[fh]
 exact e
theorem NO{l:Nat}{ns:List PySem.Str}(h:aj st l=some (ns.map Wv.str))(hl:ns.length < 64):jA [.ref l] st= .ok (.ref st.length) (st++[.lst ((mi ns).map Wv.str)]):=by
 cases ns with
 | nil=>exact FU (ns:=[]) h (by simp)
 | cons a r=>
  unfold jA
  dsimp only
  rw[h]
  dsimp only
  rw[show intsOf ((a::r).map Wv.str)=none from rfl]
  dsimp only
  rw[pV]
  dsimp only
  rw[if_pos hl]
theorem NP{l:Nat}{u:List Wo}{a:Wo}(h:st[l]? =some (.lst (u.map Wo.w))):oa true a.w (.ref l) st= .ok (.bl (!decide (a∈u))) st:=by
 have d1:aK st 20 (.ref l)=some (.list (u.map dW)):=by rw[nY (n:=19) (aB h),oT];rfl
 have d2:aK st 20 a.w=some (dW a):=by cases a<;>rfl
 have e:∀u:List Wo,((u.map dW).any λz=>aN z (dW a))=decide (a∈u):=λu=>by
  induction u with
  | nil=>rfl
  | cons b r ih=>
   rw[aH,fM,ih,yD]
   by_cases e:b=a
   ·rw[decide_eq_true e,Bool.true_or,decide_eq_true (show a∈b::r by rw[e];exact aP)]
   ·have m:(a∈b::r)↔a∈r:=⟨λh=>(List.mem_cons.mp h).resolve_left λz=>e z.symm,aJ _⟩
    rw[decide_eq_false e,Bool.false_or,decide_eq_decide.mpr m]
 unfold oa
 rw[d1,d2]
 dsimp only
 rw[e]
 cases decide (a∈u)<;>rfl
theorem Jq{lc lu:Nat}{u:List Wo}{a:Wo}{o3:Option Wv}(h:st[lu]? =some (.lst (u.map Wo.w)))(hl:u.length < 1000) :
  ∃st',cD [some (.ref lc),some (.ref lu),some a.w,o3] st= .nx [some (.ref lc),some (.ref lu),some a.w,o3] st'/\st'[lu]? =some (.lst ((if a∈u then u else u++[a]).map Wo.w))/\bN lu st st':=by
 have oi:=NP (a:=a) h
 have F4:c_ (az (oa true) (ai 2) (ai 1)) [some (.ref lc),some (.ref lu),some a.w,o3] st= .ok (!decide (a∈u)) st:=by
  simp only[Kk,vZ,dH,cP,b_,dF,aM,Fe,oi,nr,Kl]
 unfold cD
 rw[T9,F4]
 simp only[dh]
 by_cases c:a∈u
 ·rw[decide_eq_true c,if_pos c]
  exact⟨st,rfl,h,bN.refl⟩
 ·rw[decide_eq_false c,if_neg c]
  have ap:=kj (go:=ai 1) (ga:=ai 2) (ρ:=[some (.ref lc),some (.ref lu),some a.w,o3]) (v:=a.w) (st:=st) (by simp) h (by simp) (by rw[av];unfold lim;omega)
  refine⟨st.set lu (.lst (u.map Wo.w++[a.w])),?_,by rw[nE];exact fX h,bN.set⟩
  show jm (dE iL (ai 1) (ai 2)) _ st=_
  rw[e_expr,ap]
  rfl
theorem rank(a:Wo):di [a.w] st= .ok (.int (rl a).1) st:=by
 refine gH (n:=1) (g:=g_) ?_
 have i:=Uz (st:=st) a
 have s:=aS (st:=st) a
 have b:∀(b:Bool)(st:Hs),rR [.bl b] st= .ok (.int (if b=true then 1 else 0)) st:=λ_ _=>rfl
 unfold g_
 cases a with
 | ay=>simp only[Wo.w,Wo.nn,Wo.Nu] at i s ⊢;simp[i,rl]
 | int n=>simp only[Wo.w,Wo.nn,Wo.Nu] at i s ⊢;simp[i,s,b,rl]
 | str z=>simp only[Wo.w,Wo.nn,Wo.Nu] at i s ⊢;simp[i,s,b,rl]
theorem NQ{l:Nat}{u:List Wo}{ρ:a9}(h:st[l]? =some (.lst (u.map Wo.w)))(hl:u.length < 1000):bU [] b8 cX ρ (some l,u.map Wo.w) st= .ok (.ref st.length) (st++[.lst ((bj u).map Wv.int)]):=by
 rw[bI (w:=(some l,u.map Wo.w)) (t:=Jp) (f:=id) (aB h)]
 ·rw[lA,jN]
 ·intro v hv acc
  obtain⟨a,_,rfl⟩:=List.mem_map.mp hv
  unfold b8
  simp[cq,rank]
  cases a<;>rfl
 ·intro v hv _ acc
  rfl
 ·show(u.map Wo.w).length < lim;rw[av];unfold lim;omega
theorem NR{l:Nat}{u:List Wo}{ρ:a9}(h:st[l]? =some (.lst (u.map Wo.w)))(hl:u.length < 1000):bU [] b7 cW ρ (some l,u.map Wo.w) st= .ok (.ref st.length) (st++[.lst ((eW u).map Wv.str)]):=by
 rw[bI (w:=(some l,u.map Wo.w)) (t:=NM) (f:=id) (aB h)]
 ·rw[lA,mF]
 ·intro v hv acc
  obtain⟨a,_,rfl⟩:=List.mem_map.mp hv
  unfold b7
  simp[cq,rank]
  cases a<;>rfl
 ·intro v hv _ acc
  rfl
 ·show(u.map Wo.w).length < lim;rw[av];unfold lim;omega
theorem NT{l:Nat}{u:List Wo}{ρ:a9}(h:st[l]? =some (.lst (u.map Wo.w)))(hl:u.length < 1000):bU [] b6 cV ρ (some l,u.map Wo.w) st= .ok (.ref st.length) (st++[.lst ((fL u).map Wo.w)]):=by
 rw[bI (w:=(some l,u.map Wo.w)) (t:=NN) (f:=id) (aB h)]
 ·rw[lA,mG]
 ·intro v hv acc
  obtain⟨a,_,rfl⟩:=List.mem_map.mp hv
  have i:=Uz (st:=st++[.lst acc]) a
  unfold b6
  simp[cq,i]
  cases a<;>rfl
 ·intro v hv _ acc
  rfl
 ·show(u.map Wo.w).length < lim;rw[av];unfold lim;omega
theorem NU(a b:Wo):a.eq b=decide (a=b):=by
 cases a<;>cases b<;>simp[Wo.eq]<;>(rw[FA];simp)
theorem FV{lc:Nat}{c:List Wo}{a:Wo}(h:st[lc]? =some (.lst (c.map Wo.w)))(hl:c.length<=100) :
  aZ [("column",1),("worth",0)] (vn (ag (aQ lS (ag (ai 1) au)) au)) b4 eP [some a.w,some (.ref lc)] st= .ok (.ref st.length) (st++[.lst (nW (idx c a c.length))]):=by
 have cr:lT (c.length:Int):=Np (by omega) (by omega)
 have cp:=bI (cs:=[("column",1),("worth",0)]) (gt:=b4) (ge:=eP) (ρ:=[some a.w,some (.ref lc)]) (w:=(none,cn 0 c.length)) (st:=st) (t:=λv=>decide (c.getD (uF v).toNat .ay=a)) (f:=id) trivial
  (λv hv acc=>by
   obtain⟨k,rfl,h0,h1⟩:=ui hv
   obtain⟨kn,rfl⟩:∃kn:Nat,k=(kn:Int):=⟨k.toNat,by omega⟩
   have ix:=uv (st:=st++[.lst acc]) (k:=kn) (fk (aB h)) (by omega)
   have eq:=XA (st:=st++[.lst acc]) (c.getD kn .ay) a
   show b4 [some (.int (kn:Int)),some (.ref lc),some a.w] (st++[.lst acc])=_
   unfold b4
   simp only[Kk,vZ,dH,cP,b_,dF,aM,Fe,ix,nr,eq,Kl,uF,Ea,NU]
   rfl)
  (λv hv _ acc=>rfl)
  (by show(cn 0 c.length).length < lim;rw[de];unfold lim;omega)
 have ef:((cn 0 c.length).filter λv=>decide (c.getD (uF v).toNat .ay=a)).map id=nW (idx c a c.length):=by
  rw[lA]
  unfold cn idx nW
  rw[List.filter_map]
  have e:((λv=>decide (c.getD (uF v).toNat .ay=a)) ∘ λk:Nat=>Wv.int (0+(k:Int)))=λk:Nat=>decide (c.getD k .ay=a):=by
   funext k
   show decide (c.getD (0+(k:Int)).toNat .ay=a)=_
   rw[show(0+(k:Int)).toNat=k by omega]
  rw[e]
  exact kY λk _=>by rw[show(0:Int)+(k:Int)=(k:Int) by omega]
 rw[show((none,cn 0 c.length):Wk).2=cn 0 c.length from rfl,ef] at cp
 have ln:=Ku (aB h)
 unfold aZ vn
 simp only[nu,uh,dH,cP,b_,dF,aM,j5,sj,ln,nr,yj cr]
 exact cp
end
theorem wD{α β:Type}{ck:Hs->Prop}{gt:Wv->Hs->Re Bool}{ge:Wv->Hs->Re Wv}{rr:Nat}(f:α->Wv)(v:β->Wv)(E:β->α->Hs->Prop)(s0:Hs)(hck:∀st,bN rr s0 st->ck st)(mono:∀b a st st',E b a st->bN rr st st'->E b a st') :
  ∀(ws:List α),(∀a∈ws,∀st,bN rr s0 st->rr < st.length->gt (f a) st= .ok true st/\∃b st',ge (f a) st= .ok (v b) st'/\Gr st st'/\E b a st')->∀(acc:List Wv)(st:Hs),bN rr s0 st->st[rr]? =some (.lst acc)->acc.length+ws.length < lim->
   ∃bs st',iz ck gt ge rr (ws.map f) st=some st'/\st'[rr]? =some (.lst (acc++bs.map v))/\bN rr st st'/\Paired (λb a=>E b a st') bs ws
 | [],_,acc,st,_,hg,_=>⟨[],st,rfl,by simpa using hg,bN.refl,.nil⟩
 | a::t,h,acc,st,hk,hg,hl=>by
  have hl':acc.length+(t.length+1) < lim:=hl
  obtain⟨e0,b,s1,e1,g1,x1⟩:=h a aP st hk (bS hg)
  have QQ:=g1.get hg
  have K1:bN rr st (s1.set rr (.lst (acc++[v b]))):=g1.keep.trans bN.set
  obtain⟨bs,s2,e2,g2,K2,p2⟩:=wD f v E s0 hck mono t (λa ha=>h a (aJ _ ha)) (acc++[v b]) (s1.set rr (.lst (acc++[v b]))) (hk.trans K1) (fX QQ) (by simp;omega)
  refine⟨b::bs,s2,?_,by simpa using g2,K1.trans K2,.cons (mono _ _ _ _ x1 (bN.set.trans K2)) p2⟩
  rw[aH,iz,e0]
  dsimp only
  rw[e1]
  dsimp only
  rw[zO QQ (by omega)]
  dsimp only
  rw[if_pos (hck _ (hk.trans K1))]
  exact e2
theorem sG{c:List Wo}{st:Hs}{P:Qg->Prop}:∀{bs:List Qg}{os:List Wo},Paired (λ(b:Qg)(a:Wo)=>oR b=(a,idx c a c.length)/\st[b.2.1]? =some (.lst (nW b.2.2))/\P b) bs os->bs.map oR=os.map (λa=>(a,idx c a c.length))/\∀b∈bs,st[b.2.1]? =some (.lst (nW b.2.2))/\P b
 | _,_,.nil=>⟨rfl,λ_ h=>by cases h⟩
 | _,_,.cons h t=>by
  obtain⟨i1,i2⟩:=sG t
  refine⟨by rw[aH,aH,i1,h.1],λb hb=>?_⟩
  rcases List.mem_cons.mp hb with z | z
  ·rw[z];exact h.2
  ·exact i2 b z
theorem yE:∀(l acc:List Wo),(FT acc l).length<=acc.length+l.length
 | [],acc=>ak _
 | a::r,acc=>by
  have:=yE r (if a∈acc then acc else acc++[a])
  show(FT (if a∈acc then acc else acc++[a]) r).length<=_
  have h2:(if a∈acc then acc else acc++[a]).length<=acc.length+1:=by split<;>simp
  simp only[kO]
  omega
theorem mH:∀u:List Wo,(bj u).length<=u.length
 | []=>ak _
 | .int _::r=>jS (mH r)
 | .str _::r=>mI (mH r)
 | .ay::r=>mI (mH r)
theorem mJ:∀u:List Wo,(eW u).length<=u.length
 | []=>ak _
 | .str _::r=>jS (mJ r)
 | .int _::r=>mI (mJ r)
 | .ay::r=>mI (mJ r)
theorem mK:∀u:List Wo,(fL u).length<=u.length
 | []=>ak _
 | .ay::r=>jS (mK r)
 | .int _::r=>mI (mK r)
 | .str _::r=>mI (mK r)
section
variable {st:Hs}
theorem yF{lc:Nat}{c:List Wo}(h:st[lc]? =some (.lst (c.map Wo.w)))(hl:c.length<=50) :
  ∃(l:Nat)(qs:List Qg)(st':Hs),dQ [.ref lc] st= .ok (.ref l) st'/\st'[l]? =some (.lst (qs.map qT))/\qs.map oR=ie c/\(∀q∈qs,st'[q.2.1]? =some (.lst (nW q.2.2)))/\Gr st st':=by
 obtain⟨s1,hs1⟩:∃s1,st++[Ob.lst []]=s1:=⟨_,rfl⟩
 have G1:Gr st s1:=by rw[<-hs1];exact Gr.push
 have k1:s1[st.length]? =some (.lst (([]:List Wo).map Wo.w)):=by rw[<-hs1];exact cu
 have XU:=bS h
 have h1:=G1.get h
 obtain⟨ρ2,s2,e2,⟨p2,rfl,k2,K2⟩,h2⟩:=qz (i:=2) (gb:=cD) (l:=lc) (all:=c.map Wo.w) Wo.w c
  (λpre ρ st'=>∃p2,ρ=[some (.ref lc),some (.ref st.length),p2,none]/\st'[st.length]? =some (.lst ((FT [] pre).map Wo.w))/\bN st.length s1 st')
  (λa pre post ρ st' hf hP hl'=>by
   obtain⟨p2,rfl,k2,K2⟩:=hP
   have pl:pre.length<=c.length:=by rw[hf];simp
   obtain⟨s3,e3,k3,K3⟩:=Jq (lc:=lc) (a:=a) (o3:=none) k2 (by have:=yE pre [];simp only[kP] at this;omega)
   rw[<-qN] at k3
   exact⟨_,s3,e3,K3.lst hl' (by omega),some a.w,rfl,k3,K2.trans K3⟩)
  c [] [some (.ref lc),some (.ref st.length),none,none] s1 rfl ⟨none,rfl,k1,bN.refl⟩ (aB h1)
 have ug:FT [] c=(lz c c.length).map (·.1):=by have:=z_ c c.length (ak _);rwa [List.take_length] at this
 have ul:=yE c []
 simp only[kP,zU] at ul
 obtain⟨u,hu⟩:∃u,FT [] c=u:=⟨_,rfl⟩
 rw[hu] at k2 ug ul
 have c5:=λρ=>NQ (ρ:=ρ) k2 (by omega)
 have il:=mH u
 have sl:=mJ u
 have nl:=mK u
 obtain⟨s3,m6⟩:∃s3,s2++[Ob.lst ((bj u).map Wv.int)]=s3:=⟨_,rfl⟩
 rw[m6] at c5
 have G3:Gr s2 s3:=by rw[<-m6];exact Gr.push
 have k3:aj s3 s2.length=some ((bj u).map Wv.int):=by rw[<-m6];exact aw
 have r3:=FU k3 (by omega)
 obtain⟨s4,B1⟩:∃s4,s3++[Ob.lst ((kC (bj u)).map Wv.int)]=s4:=⟨_,rfl⟩
 rw[B1] at r3
 have G4:Gr s3 s4:=by rw[<-B1];exact Gr.push
 have k4:aj s4 s3.length=some ((kC (bj u)).map Wv.int):=by rw[<-B1];exact aw
 have c4:=λρ=>NR (ρ:=ρ) ((G3.trans G4).get k2) (by omega)
 obtain⟨s5,Nz⟩:∃s5,s4++[Ob.lst ((eW u).map Wv.str)]=s5:=⟨_,rfl⟩
 rw[Nz] at c4
 have G5:Gr s4 s5:=by rw[<-Nz];exact Gr.push
 have k5:aj s5 s4.length=some ((eW u).map Wv.str):=by rw[<-Nz];exact aw
 have r5:=NO k5 (by omega)
 obtain⟨s6,NA⟩:∃s6,s5++[Ob.lst ((mi (eW u)).map Wv.str)]=s6:=⟨_,rfl⟩
 rw[NA] at r5
 have G6:Gr s5 s6:=by rw[<-NA];exact Gr.push
 have k6:aj s6 s5.length=some ((mi (eW u)).map Wv.str):=by rw[<-NA];exact aw
 have a1:=add_l ((G5.trans G6).lst k4) k6 (by rw[av,av,(f' _).length_eq,(fj _).length_eq];unfold lim;omega)
 obtain⟨s7,NC⟩:∃s7,s6++[Ob.lst ((kC (bj u)).map Wv.int++(mi (eW u)).map Wv.str)]=s7:=⟨_,rfl⟩
 rw[NC] at a1
 have G7:Gr s6 s7:=by rw[<-NC];exact Gr.push
 have k7:aj s7 s6.length=some ((kC (bj u)).map Wv.int++(mi (eW u)).map Wv.str):=by rw[<-NC];exact aw
 have UO:=G5.trans (G6.trans G7)
 have c3:=λρ=>NT (ρ:=ρ) ((G3.trans (G4.trans UO)).get k2) (by omega)
 obtain⟨s8,ND⟩:∃s8,s7++[Ob.lst ((fL u).map Wo.w)]=s8:=⟨_,rfl⟩
 rw[ND] at c3
 have G8:Gr s7 s8:=by rw[<-ND];exact Gr.push
 have k8:aj s8 s7.length=some ((fL u).map Wo.w):=by rw[<-ND];exact aw
 have a2:=add_l (G8.lst k7) k8 (by rw[eh,av,av,av,(f' _).length_eq,(fj _).length_eq];unfold lim;omega)
 have eo:(kC (bj u)).map Wv.int++(mi (eW u)).map Wv.str++(fL u).map Wo.w=(lB u).map Wo.w:=by
  unfold lB
  rw[nE,nE,bE,bE]
  rfl
 rw[eo] at a2
 obtain⟨s9,Kv⟩:∃s9,s8++[Ob.lst ((lB u).map Wo.w)]=s9:=⟨_,rfl⟩
 rw[Kv] at a2
 have G9:Gr s8 s9:=by rw[<-Kv];exact Gr.push
 have k9:aj s9 s8.length=some ((lB u).map Wo.w):=by rw[<-Kv];exact aw
 have Wc:=G3.trans (G4.trans (UO.trans (G8.trans G9)))
 have Wd:s9[lc]? =some (.lst (c.map Wo.w)):=Wc.get (by rw[K2.2 lc (bS h1) (by omega)];exact h1)
 have l9:s8.length < s9.length:=by rw[<-Kv];simp
 have Yt:=bS Wd
 have ol:(lB u).length=u.length:=(sF u).length_eq
 obtain⟨bs,vj,XW,Pu,XX,wF⟩:=wD (ck:=jb (some s8.length,(lB u).map Wo.w)) (gt:=λv=>cU (some v::[some (.ref lc)])) (ge:=λv=>bP (some v::[some (.ref lc)])) (rr:=s9.length) Wo.w qT
  (λ(b:Qg)(a:Wo) st=>(oR b=(a,idx c a c.length)/\st[b.2.1]? =some (.lst (nW b.2.2))/\True)/\b.2.1≠s9.length) (s9++[.lst []]) (λs K=>K.lst (fk k9) (by omega)) (λb a s s' h K=>⟨⟨h.1.1,by rw[K.2 _ (bS h.1.2.1) h.2];exact h.1.2.1,trivial⟩,h.2⟩) (lB u)
  (λa ha s K hr=>⟨rfl,by
   have kc:s[lc]? =some (.lst (c.map Wo.w)):=by rw[K.2 _ (by simp;omega) (by omega)];exact bO Wd
   have ci:=FV (a:=a) kc (by omega)
   refine⟨(a,s.length,idx c a c.length),s++[.lst (nW (idx c a c.length))],?_,Gr.push,⟨rfl,cu,trivial⟩,by show s.length≠s9.length;omega⟩
   show bP [some a.w,some (.ref lc)] s=_
   unfold bP
   simp only[Kn,nu,dH,b_,dF,aM,j5,ci,sj,Fg]
   rfl⟩) [] (s9++[.lst []]) bN.refl cu (by simp only[kP];unfold lim;omega)
 rw[pz] at Pu
 obtain⟨t1,t2⟩:=sG (c:=c) (st:=vj) (P:=λ_=>True) (L2.Paired.Gg wF λb q h=>h.1)
 have UP:Gr st vj:=(G1.Nq (ak _) K2).trans (Wc.trans (bN.gr (ak _) (bN.push.trans XX)))
 refine⟨s9.length,bs,vj,?_,Pu,by rw[t1,ug];exact Jo c,λq hq=>(t2 q hq).1,UP⟩
 have wo:bU [("column",0)] cU bP [some (.ref lc),some (.ref st.length),p2,some (.ref s8.length)] (some s8.length,(lB u).map Wo.w) s9= .ok (.ref s9.length) vj:=by
  unfold bU
  rw[show cq [("column",0)] [some (.ref lc),some (.ref st.length),p2,some (.ref s8.length)]=[some (.ref lc)] from rfl,show((some s8.length,(lB u).map Wo.w):Wk).2=(lB u).map Wo.w from rfl,XW]
 have f1:bM 1 (ip au) [some (.ref lc),none,none,none] st= .nx [some (.ref lc),some (.ref st.length),none,none] s1:=by simp[hs1]
 have f2:n9 2 (ai 0) cD [some (.ref lc),some (.ref st.length),none,none] s1= .nx [some (.ref lc),some (.ref st.length),p2,none] s2:=by
  simp only[zP,dH,b_,dF,dh,Fl (aB h1),e2]
 have q5:aZ [] (aI (ai 1)) b8 cX [some (.ref lc),some (.ref st.length),p2,none] s2= .ok (.ref s2.length) s3:=by
  unfold aZ aI
  simp only[dH,cP,b_,dF,aM,ei (aB k2)]
  exact c5 _
 have f3:bM 3 (aQ jA (ag (aZ [] (aI (ai 1)) b8 cX) au)) [some (.ref lc),some (.ref st.length),p2,none] s2= .nx [some (.ref lc),some (.ref st.length),p2,some (.ref s3.length)] s4:=by
  simp only[qv,uh,nu,q5,aM,j5,sj,r3,nr,dh]
  rfl
 have q4:aZ [] (aI (ai 1)) b7 cW [some (.ref lc),some (.ref st.length),p2,some (.ref s3.length)] s4= .ok (.ref s4.length) s5:=by
  unfold aZ aI
  simp only[dH,cP,b_,dF,aM,ei (aB ((G3.trans G4).get k2))]
  exact c4 _
 have f4:bM 3 (az ir (ai 3) (aQ jA (ag (aZ [] (aI (ai 1)) b7 cW) au))) [some (.ref lc),some (.ref st.length),p2,some (.ref s3.length)] s4= .nx [some (.ref lc),some (.ref st.length),p2,some (.ref s6.length)] s7:=by
  simp only[qv,vZ,dH,cP,b_,dF,aM,Fe,uh,nu,q4,j5,sj,r5,nr,a1,dh]
  rfl
 have q3:aZ [] (aI (ai 1)) b6 cV [some (.ref lc),some (.ref st.length),p2,some (.ref s6.length)] s7= .ok (.ref s7.length) s8:=by
  unfold aZ aI
  simp only[dH,cP,b_,dF,aM,ei (aB ((G3.trans (G4.trans UO)).get k2))]
  exact c3 _
 have f5:bM 3 (az ir (ai 3) (aZ [] (aI (ai 1)) b6 cV)) [some (.ref lc),some (.ref st.length),p2,some (.ref s6.length)] s7= .nx [some (.ref lc),some (.ref st.length),p2,some (.ref s8.length)] s9:=by
  simp only[qv,vZ,dH,cP,b_,dF,aM,Fe,q3,nr,a2,dh]
  rfl
 have f6:cb (aZ [("column",0)] (aI (ai 3)) cU bP) [some (.ref lc),some (.ref st.length),p2,some (.ref s8.length)] s9= .rt (.ref s9.length) vj:=by
  unfold aZ aI
  simp only[Kj,dH,cP,b_,dF,aM,ei k9,wo,dh]
 refine gH (n:=4) (g:=dP) ?_
 show dP [some (.ref lc),none,none,none] st=_
 unfold dP
 rw[cT,f1,cS,cT,f2,cS,cT,f3,cS,cT,f4,cS,cT,f5,cS]
 exact f6
end
theorem mL:∀ws:List Wo,GA.nI (ws.map cv)=[]
 | []=>rfl
 | .ay::r=>mL r
 | .int _::r=>mL r
 | .str _::r=>mL r
theorem ku:∀ws:List Wo,GA.nums (ws.map cv)=bj ws
 | []=>rfl
 | .ay::r=>ku r
 | .int i::r=>by show i::GA.nums (r.map cv)=i::bj r;rw[ku r]
 | .str _::r=>ku r
theorem oU:∀{ws:List Wo},(∀w∈ws,w.ok=true)->∀i∈bj ws,-GA.FP<=i/\i<=GA.FP
 | .ay::r,h,i,hi=>oU (ws:=r) (λw hw=>h w (aJ _ hw)) i hi
 | .str _::r,h,i,hi=>oU (ws:=r) (λw hw=>h w (aJ _ hw)) i hi
 | .int j::r,h,i,hi=>by
  rcases List.mem_cons.mp (show i∈j::bj r from hi) with z | z
  ·rw[z]
   exact of_decide_eq_true (h (.int j) aP)
  ·exact oU (ws:=r) (λw hw=>h w (aJ _ hw)) i z
theorem FW{i:Int}(h:-GA.FP<=i/\i<=GA.FP):GA.bnd i= .int i:=by
 unfold GA.bnd
 rw[if_neg]
 split<;>omega
section
variable {st:Hs}
theorem NV{l:Nat}{u:List Wo}{ρ:a9}(h:st[l]? =some (.lst (u.map Wo.w)))(hl:u.length < 1000):bU [] cw dM ρ (some l,u.map Wo.w) st= .ok (.ref st.length) (st++[.lst ((bj u).map Wv.int)]):=by
 rw[bI (w:=(some l,u.map Wo.w)) (t:=Jp) (f:=id) (aB h)]
 ·rw[lA,jN]
 ·intro v hv acc
  obtain⟨a,_,rfl⟩:=List.mem_map.mp hv
  unfold cw
  simp[cq,rank]
  cases a<;>rfl
 ·intro v hv _ acc
  rfl
 ·show(u.map Wo.w).length < lim;rw[av];unfold lim;omega
theorem uB{wd:GA.f_}{ws:List Wo}{l:Nat}(h:st[l]? =some (.lst (ws.map Wo.w)))(hl:ws.length < 100)(ok:∀w∈ws,w.ok=true):∃st',cM [.str wd.s,.ref l] st= .ok (wC wd ws) st'/\Gr st st':=by
 have cg:=λρ=>NV (ρ:=ρ) h (by omega)
 obtain⟨s1,hs1⟩:∃s1,st++[Ob.lst ((bj ws).map Wv.int)]=s1:=⟨_,rfl⟩
 rw[hs1] at cg
 have G1:Gr st s1:=by rw[<-hs1];exact Gr.push
 have l1:aj s1 st.length=some ((bj ws).map Wv.int):=by rw[<-hs1];exact aw
 have sm:=Fq l1
 have ln:lS [.ref st.length] s1= .ok (.int (bj ws).length) s1:=by
  have:=Kp l1
  rwa [av] at this
 have io:=oU ok
 have due:wC wd ws=match wd with
  | .sum=>GA.bnd (bj ws).sum
  | .count=> .int (bj ws).length
  | .least=>(match bj ws with | []=> .tup [.str "fault",.str "none"] | n::r=>GA.bnd (q_ n r))
  | .jM=>(match bj ws with | []=> .tup [.str "fault",.str "none"] | n::r=>GA.bnd (qZ n r)):=by
  unfold wC GA.due
  rw[mL,ku]<;>rfl
 have run:∀{w:Wv}{s:Hs},aW [some (.str wd.s),some (.ref l),none,none] st= .rt w s->cM [.str wd.s,.ref l] st= .ok w s:=λ{w s} e=>gH (n:=4) (g:=aW) e
 have f1:bM 2 (aZ [] (aI (ai 1)) cw dM) [some (.str wd.s),some (.ref l),none,none] st= .nx [some (.str wd.s),some (.ref l),some (.ref st.length),none] s1:=by
  unfold aZ aI
  simp only[qv,dH,cP,b_,dF,aM,ei (aB h),cg,dh]
  rfl
 have b:∀(b:Bool)(st:Hs),rR [.bl b] st= .ok (.int (if b=true then 1 else 0)) st:=λ_ _=>rfl
 have Od:∀st:Hs,pH (.int 10) (.int 60) st= .ok (.int GA.FP) st:=λst=>Fh (i:=10) (j:=60) (st:=st) (by decide)
 obtain⟨s2,hs2⟩:∃s2,s1++[Ob.lst []]=s2:=⟨_,rfl⟩
 have G2:Gr s1 s2:=by rw[<-hs2];exact Gr.push
 have n2:s2[s1.length]? =some (.lst []):=by rw[<-hs2];exact cu
 have Ky:oEq (.ref st.length) (.ref s1.length) s2= .ok (.bl (decide (bj ws=[]))) s2:=by
  have e1:(bj ws).map Wv.int=((bj ws).map Wo.int).map Wo.w:=by rw[bE];rfl
  have k1:=G2.lst l1
  rw[e1] at k1
  have:=NJ (xs:=(bj ws).map Wo.int) (ys:=[]) k1 (aB n2)
  rw[this]
  congr 2
  cases bj ws<;>rfl
 rw[due]
 cases wd with
 | sum=>
  refine⟨s1,run ?_,G1⟩
  unfold aW
  rw[cT,f1,cS]
  unfold GA.bnd
  by_cases c:GA.FP < (if(bj ws).sum < 0 then -(bj ws).sum else(bj ws).sum)
  ·rw[if_pos c]
   simp[GA.f_.s,GA.Je,show(("sum":PySem.Str) == "count")=false from rfl,sm,Od,c]
  ·rw[if_neg c]
   simp[GA.f_.s,GA.Je,show(("sum":PySem.Str) == "count")=false from rfl,sm,Od,c]
 | count=>
  refine⟨s1,run ?_,G1⟩
  unfold aW
  rw[cT,f1,cS]
  simp[GA.f_.s,GA.NI,ln]
 | least=>
  cases en:bj ws with
  | nil=>
   rw[en] at Ky
   refine⟨s2,run ?_,G1.trans G2⟩
   unfold aW
   rw[cT,f1,cS]
   simp[GA.f_.s,GA.Jf,GA.Jh,hs2,Ky]
  | cons n r=>
   rw[en] at Ky l1 io
   have NW:oEq (.ref st.length) (.ref s1.length) s2= .ok (.bl false) s2:=Ky
   have mn:=Fw (G2.lst l1)
   have mx:=Fv (G2.lst l1)
   obtain⟨s3,m6⟩:∃s3,s2++[Ob.lst [.int (q_ n r),.int (qZ n r)]]=s3:=⟨_,rfl⟩
   have k3:aj s3 s2.length=some [.int (q_ n r),.int (qZ n r)]:=by rw[<-m6];exact aw
   have ix:mM (.ref s2.length) (.int 0) s3= .ok (.int (q_ n r)) s3:=Fi k3 rfl
   rw[show(match n::r with | []=>Wv.tup [.str "fault",.str "none"] | n::r=>GA.bnd (q_ n r))=GA.bnd (q_ n r) from rfl,FW (io _ ((xE r n).1))]
   refine⟨s3,run ?_,G1.trans (G2.trans (by rw[<-m6];exact Gr.push))⟩
   unfold aW
   rw[cT,f1,cS]
   simp[GA.f_.s,GA.Jf,GA.Jh,hs2,NW,mn,mx,m6,b,show(("least":PySem.Str) == "greatest")=false from rfl,ix]
 | jM=>
  cases en:bj ws with
  | nil=>
   rw[en] at Ky
   refine⟨s2,run ?_,G1.trans G2⟩
   unfold aW
   rw[cT,f1,cS]
   simp[GA.f_.s,GA.Jg,GA.Ji,hs2,Ky]
  | cons n r=>
   rw[en] at Ky l1 io
   have NW:oEq (.ref st.length) (.ref s1.length) s2= .ok (.bl false) s2:=Ky
   have mn:=Fw (G2.lst l1)
   have mx:=Fv (G2.lst l1)
   obtain⟨s3,m6⟩:∃s3,s2++[Ob.lst [.int (q_ n r),.int (qZ n r)]]=s3:=⟨_,rfl⟩
   have k3:aj s3 s2.length=some [.int (q_ n r),.int (qZ n r)]:=by rw[<-m6];exact aw
   have ix:mM (.ref s2.length) (.int 1) s3= .ok (.int (qZ n r)) s3:=Fi k3 rfl
   rw[show(match n::r with | []=>Wv.tup [.str "fault",.str "none"] | n::r=>GA.bnd (qZ n r))=GA.bnd (qZ n r) from rfl,FW (io _ ((xD r n).1))]
   refine⟨s3,run ?_,G1.trans (G2.trans (by rw[<-m6];exact Gr.push))⟩
   unfold aW
   rw[cT,f1,cS]
   simp[GA.f_.s,GA.Jg,GA.Ji,hs2,NW,mn,mx,m6,b,show(("greatest":PySem.Str) == "greatest")=true from rfl,ix]
end
abbrev Wp:=Wo×List Wo
theorem wG{n:Nat}:∀{ws:List Wv},(∀w∈ws,∃d:PyData,(∀st:Hs,aK st n w=some d)/\aN d d=true)->∃ds:List PyData,(∀st:Hs,eG (aK st n) ws=some ds)/\cx ds ds=true
 | [],_=>⟨[],λ_=>rfl,by simp[cx]⟩
 | w::r,h=>by
  obtain⟨d,h1,h2⟩:=h w aP
  obtain⟨ds,h3,h4⟩:=wG (ws:=r) λw hw=>h w (aJ _ hw)
  refine⟨d::ds,λst=>?_,by simp[cx,h2,h4]⟩
  unfold eG
  rw[h1,h3]
theorem Jr{st:Hs}{a b:Nat}{ws:List Wv}(h:∀w∈ws,∃d:PyData,(∀st:Hs,aK st 19 w=some d)/\aN d d=true)(ha:st[a]? =some (.lst ws))(hb:st[b]? =some (.lst ws)):xm (.ref a) (.ref b) st= .ok (.bl false) st:=by
 obtain⟨ds,h1,h2⟩:=wG h
 refine Fs (d:=.list ds) ?_ ?_ (by simp[aN,h2])
 ·rw[nY (n:=19) (aB ha),h1];rfl
 ·rw[nY (n:=19) (aB hb),h1];rfl
theorem Kz(a:Wo){n:Nat}:∃d:PyData,(∀st:Hs,aK st (n+1) a.w=some d)/\aN d d=true:=by
 cases a with
 | ay=>exact⟨.none,λ_=>rfl,by simp[aN]⟩
 | int i=>exact⟨.int i,λ_=>rfl,by simp[aN]⟩
 | str x=>exact⟨.str x,λ_=>rfl,by simp[aN]⟩
theorem KA(i:Int){n:Nat}:∃d:PyData,(∀st:Hs,aK st (n+1) (.int i)=some d)/\aN d d=true:=Kz (.int i)
theorem Aa(x:PySem.Str){n:Nat}:∃d:PyData,(∀st:Hs,aK st (n+2) (.tup [.str "fault",.str x])=some d)/\aN d d=true:=⟨.tuple [.str "fault",.str x],λ_=>rfl,by simp[aN,cx]⟩
theorem FX(i:Int){n:Nat}:∃d:PyData,(∀st:Hs,aK st (n+2) (GA.bnd i)=some d)/\aN d d=true:=by
 unfold GA.bnd
 by_cases c:GA.FP < (if i < 0 then -i else i)
 ·rw[if_pos c];exact Aa _
 ·rw[if_neg c];exact KA _
theorem Js(wd:GA.f_)(ws:List Wo){n:Nat}:∃d:PyData,(∀st:Hs,aK st (n+2) (wC wd ws)=some d)/\aN d d=true:=by
 unfold wC GA.due
 split
 ·exact Aa _
 ·split
  ·exact FX _
  ·exact KA _
  ·split
   ·exact Aa _
   ·exact FX _
  ·split
   ·exact Aa _
   ·exact FX _
theorem Jt(wd:GA.f_)(p:Wp):∃d:PyData,(∀st:Hs,aK st 19 (uy wd p)=some d)/\aN d d=true:=by
 obtain⟨d,h1,h2⟩:=Kz p.1 (n:=17)
 obtain⟨e,h3,h4⟩:=Js wd p.2 (n:=16)
 refine⟨.tuple [d,e],λst=>?_,by simp[aN,cx,h2,h4]⟩
 show(eG (aK st 18) [p.1.w,wC wd p.2]).map tH=_
 unfold eG
 rw[h1]
 unfold eG
 rw[h3]
 rfl
def dG(g:Gp):PyData:=.tuple [dW g.1,.list (g.2.map λi=>oV (i:Nat))]
theorem Ab{st:Hs}{n:Nat}:∀l:List Nat,eG (aK st (n+1)) (nW l)=some (l.map λi=>oV (i:Nat))
 | []=>rfl
 | i::r=>by
  unfold nW
  rw[aH]
  unfold eG
  have:=Ab (st:=st) (n:=n) r
  unfold nW at this
  rw[this]
  rfl
theorem NX{st:Hs}{n:Nat}{q:Qg}(h:st[q.2.1]? =some (.lst (nW q.2.2))):aK st (n+3) (qT q)=some (dG (oR q)):=by
 have d1:aK st (n+2) (.ref q.2.1)=some (.list (q.2.2.map λi=>oV (i:Nat))):=by rw[nY (n:=n+1) (aB h),Ab];rfl
 have d0:aK st (n+2) q.1.w=some (dW q.1):=by cases q.1<;>rfl
 show(eG (aK st (n+2)) [q.1.w,.ref q.2.1]).map tH=_
 unfold eG
 rw[d0]
 unfold eG
 rw[d1]
 rfl
theorem uC{st:Hs}{n:Nat}:∀qs:List Qg,(∀q∈qs,st[q.2.1]? =some (.lst (nW q.2.2)))->eG (aK st (n+3)) (qs.map qT)=some ((qs.map oR).map dG)
 | [],_=>rfl
 | t::r,h=>by
  have h1:=NX (n:=n) (h t aP)
  have h2:=uC (n:=n) r λt ht=>h t (aJ _ ht)
  rw[aH]
  unfold eG
  rw[h1,h2]
  rfl
theorem Ac:∀l:List Nat,cx (l.map λi=>oV (i:Nat)) (l.map λi=>oV (i:Nat))=true
 | []=>by simp[cx]
 | i::r=>by simp only[aH,cx,Ac r];simp[aN]
theorem FY:∀gs:List Gp,cx (gs.map dG) (gs.map dG)=true
 | []=>by simp[cx]
 | g::r=>by
  have h:aN (dG g) (dG g)=true:=by
   unfold dG
   simp[aN,cx,Ac,yD]
  simp only[aH,cx,FY r,h]
  rfl
theorem sH{st:Hs}{a b:Nat}{qs ps:List Qg}(ha:st[a]? =some (.lst (qs.map qT)))(hq:∀q∈qs,st[q.2.1]? =some (.lst (nW q.2.2)))(hb:st[b]? =some (.lst (ps.map qT)))(hp:∀q∈ps,st[q.2.1]? =some (.lst (nW q.2.2)))(e:qs.map oR=ps.map oR):xm (.ref a) (.ref b) st= .ok (.bl false) st:=by
 refine Fs (d:=.list ((qs.map oR).map dG)) ?_ ?_ (by simp only[aN];exact FY _)
 ·rw[nY (n:=19) (aB ha),uC (n:=16) qs hq];rfl
 ·rw[nY (n:=19) (aB hb),uC (n:=16) ps hp,e];rfl
theorem FZ{lf b:Nat}{all:List Wv}{qs:List Qg}{o0 o1 o2 o3 o4 o5 o6 o7 nJ kx i7 iE:Option Wv}(hq:∀q∈qs,q.2.1≠lf/\b<=q.2.1):∀(rest:List Qg)(o8 o9:Option Wv)(st:Hs),(∀q∈rest,q∈qs)->aj st lf=some all->(∀q∈qs,∃ws,st[q.2.1]? =some (.lst ws)/\ws.length+rest.length<=1000)->
  ∃p8 p9 st',kG [8,9] mC lf all (rest.map qT) [o0,o1,o2,o3,o4,o5,o6,o7,o8,o9,nJ,kx,i7,iE] st= .nx [o0,o1,o2,o3,o4,o5,o6,o7,p8,p9,nJ,kx,i7,iE] st'/\st.length<=st'.length/\∀k,k < b->st'[k]? =st[k]?
 | [],o8,o9,st,_,_,_=>⟨o8,o9,st,rfl,ak _,λ_ _=>rfl⟩
 | q::r,o8,o9,st,hm,hl,hw=>by
  have qm:=hm q aP
  obtain⟨ws,k1,l1⟩:=hw q qm
  simp only[kO] at l1
  have ap:=kj (go:=ai 9) (ga:=gC (.int 99)) (ρ:=[o0,o1,o2,o3,o4,o5,o6,o7,some q.1.w,some (.ref q.2.1),nJ,kx,i7,iE]) (v:=.int 99) (st:=st) (s1:=st) (by simp) k1 (by simp) (by unfold lim;omega)
  have K1:bN q.2.1 st (st.set q.2.1 (.lst (ws++[.int 99]))):=bN.set
  have hl1:aj (st.set q.2.1 (.lst (ws++[.int 99]))) lf=some all:=K1.lst hl (bt (hq q qm).1)
  obtain⟨p8,p9,s2,e2,n2,k2⟩:=FZ (o0:=o0) (o1:=o1) (o2:=o2) (o3:=o3) (o4:=o4) (o5:=o5) (o6:=o6) (o7:=o7) (nJ:=nJ) (kx:=kx) (i7:=i7) (iE:=iE) hq r (some q.1.w) (some (.ref q.2.1)) (st.set q.2.1 (.lst (ws++[.int 99]))) (λp hp=>hm p (aJ _ hp)) hl1 (λp hp=>by
   by_cases e:p.2.1=q.2.1
   ·rw[e]
    exact⟨_,fX k1,by simp;omega⟩
   ·obtain⟨us,u1,u2⟩:=hw p hp
    simp only[kO] at u2
    exact⟨us,by rw[K1.2 _ (bS u1) e];exact u1,by omega⟩)
  refine⟨p8,p9,s2,?_,by simpa using n2,λk hk=>?_⟩
  ·rw[aH]
   unfold kG
   rw[show J2 [8,9] (qT q) [o0,o1,o2,o3,o4,o5,o6,o7,o8,o9,nJ,kx,i7,iE]=some [o0,o1,o2,o3,o4,o5,o6,o7,some q.1.w,some (.ref q.2.1),nJ,kx,i7,iE] from rfl]
   dsimp only
   unfold mC at e2 ⊢
   rw[e_expr,ap]
   simp only[dh,if_pos hl1]
   exact e2
  ·rw[k2 k hk]
   exact bW (by have:=(hq q qm).2;omega)
section
variable {hs:List PySem.Str} {rows:List (List Wo)} {st:Hs}
theorem Ju(T:Tb hs rows){h h2 w:PySem.Str}(hn:h∉hs\/((∃i:Nat,hs[i]? =some h)/\h2∉hs)):∃st',eF [aO hs rows,.str h,.str w,.str h2] st= .err "NoColumn" st'/\Gr st st':=by
 obtain⟨s1,r1,G1⟩:=BN (st:=st) T hn
 refine⟨s1,qx (n:=4) (g:=eE) (ρ:=[some (aO hs rows),some (.str h),some (.str w),some (.str h2)]) ?_,G1⟩
 show eE [some (aO hs rows),some (.str h),some (.str w),some (.str h2)] st=_
 unfold eE gF iB
 simp[r1]
theorem qO{way:Int}{x1 x2 x3:Wv}{st st':Hs}(eb:cY [some (.int way),some x1,some x2,some x3,some .ay,none] st= .err "NoColumn" [some (.int way),some x1,some x2,some x3,some .ay,none] st'):aV [.int way,x1,x2,x3] st= .ok (.bl true) st':=by
 have tc:Fx.lookup (("NoColumn":PySem.Str),("SheetError":PySem.Str))=some true:=by decide+kernel
 have ia:∀st:Hs,jr lC kD [.lO "NoColumn",.cls "NoColumn"] st= .ok (.bl true) st:=λ_=>rfl
 have su:cZ [some (.int way),some x1,some x2,some x3,some .ay,some (.lO "NoColumn")] st'= .nx [some (.int way),some x1,some x2,some x3,some (.lO "NoColumn"),some (.lO "NoColumn")] st':=by
  unfold cZ
  simp
 have tr:=Fj (cat:=λy=>Fx.lookup (y,("SheetError":PySem.Str))) (i:=5) (gs:=cZ) (ρ:=[some (.int way),some x1,some x2,some x3,some .ay,none]) (st:=st') tc su
 refine gH (n:=6) (g:=eR) ?_
 unfold eR
 simp[eb,tr,ia]
theorem wH(T:Tb hs rows){h h2:PySem.Str}(hn:h∉hs\/((∃i:Nat,hs[i]? =some h)/\h2∉hs)):∃st',aV [.int 1,aO hs rows,.str h,.str h2] st= .ok (.bl true) st'/\Gr st st':=by
 obtain⟨s1,r1,G1⟩:=Ju (st:=st) (w:="sum") T hn
 refine⟨s1,qO ?_,G1⟩
 unfold cY
 simp[r1]
theorem wI{h h2:PySem.Str}(hn:h∉hs):∃st',aV [.int 0,aO hs rows,.str h,.str h2] st= .ok (.bl true) st'/\Gr st st':=by
 have r1:=sD (rows:=rows) (st:=st) hn
 refine⟨_,qO (st':=st++[.dct []]) ?_,Gr.push⟩
 unfold cY
 simp[r1]
end
section
variable {hs:List PySem.Str} {rows:List (List Wo)} {st:Hs}
theorem We{l:Nat}{ws:List Wv}(h:st[l]? =some (.lst ws)):jr lC kD [.ref l,.ty "list"] st= .ok (.bl true) st:=QG (by decide) (by show(aj st l).map (λ_=>"list" == "list")=_;rw[aB h];rfl) (λc z=>by cases z)
theorem Jv(T:Tb hs rows){j:Nat}{ns:List Nat}:∀w∈dk (col rows j) ns,w.ok=true:=λw hw=>by
 obtain⟨k,_,rfl⟩:=List.mem_map.mp hw
 rw[cC]
 cases e:(col rows j)[k]? with
 | none=>rfl
 | some z=>exact yC T z (sR e)
theorem Jw{ps:List Wp}{wd:GA.f_}:∀w∈ps.map (uy wd),∃d:PyData,(∀st:Hs,aK st 19 w=some d)/\aN d d=true:=λw hw=>by
 obtain⟨p,_,rfl⟩:=List.mem_map.mp hw
 exact Jt wd p
theorem KC{h2:PySem.Str}{j:Nat}{r:List Wo}(nd:hs.Nodup)(e2:hs[j]? =some h2)(hr:j < r.length) :
  az mM (ai 0) (kT (kW kX (ai 1) (ag (ai 2) au)) (kT (dE dY (ai 1) (ai 2)) (jy fU (ai 1) (ai 2)))) [some (a7 r),some (.tup (hs.map Wv.str)),some (.str h2)] st= .ok (pick j (a7 r)) st:=by
 have ti:=Nv (st:=st) nd e2
 have ri:=FD (st:=st) hr
 have b1:kW kX (ai 1) (ag (ai 2) au) [some (a7 r),some (.tup (hs.map Wv.str)),some (.str h2)] st= .bad:=rfl
 have b2:dE dY (ai 1) (ai 2) [some (a7 r),some (.tup (hs.map Wv.str)),some (.str h2)] st= .bad:=rfl
 have b3:jy fU (ai 1) (ai 2) [some (a7 r),some (.tup (hs.map Wv.str)),some (.str h2)] st= .ok (.int (j:Nat)) st:=by
  unfold jy
  simp[ti]
 rw[vZ]
 simp only[dH,b_,dF,aM,Fe]
 rw[yk b1,yk b2,b3]
 simp only[aM]
 rw[ri]
 rfl
theorem UQ(T:Tb hs rows){j:Nat}{h2:PySem.Str}{ρ:a9}(e2:hs[j]? =some h2)(hc:cq [("heads",2),("other",10)] ρ=[some (.tup (hs.map Wv.str)),some (.str h2)]):bU [("heads",2),("other",10)] j_ j' ρ (none,rows.map a7) st= .ok (.ref st.length) (st++[.lst ((col rows j).map Wo.w)]):=by
 have hl:=(List.getElem?_eq_some_iff.mp e2).1
 have q:=bI (cs:=[("heads",2),("other",10)]) (gt:=j_) (ge:=j') (ρ:=ρ) (w:=(none,rows.map a7)) (st:=st) (t:=λ_=>true) (f:=pick j) trivial (λv _ acc=>rfl) (λv hv _ acc=>by
   obtain⟨r,hr,rfl⟩:=List.mem_map.mp hv
   rw[hc]
   exact KC T.nd e2 (by rw[T.wd r hr];exact hl))
  (by show(rows.map a7).length < lim;rw[av];have:=T.rw';unfold lim;omega)
 rw[show((none,rows.map a7):Wk).2=rows.map a7 from rfl,qG] at q
 exact q
theorem UR(T:Tb hs rows){j:Nat}{h2:PySem.Str}{ρ:a9}(e2:hs[j]? =some h2)(hc:cq [("heads",2),("head",4)] ρ=[some (.tup (hs.map Wv.str)),some (.str h2)]):bU [("heads",2),("head",4)] ka kh ρ (none,rows.map a7) st= .ok (.ref st.length) (st++[.lst ((col rows j).map Wo.w)]):=by
 have hl:=(List.getElem?_eq_some_iff.mp e2).1
 have q:=bI (cs:=[("heads",2),("head",4)]) (gt:=ka) (ge:=kh) (ρ:=ρ) (w:=(none,rows.map a7)) (st:=st) (t:=λ_=>true) (f:=pick j) trivial (λv _ acc=>rfl) (λv hv _ acc=>by
   obtain⟨r,hr,rfl⟩:=List.mem_map.mp hv
   rw[hc]
   exact KC T.nd e2 (by rw[T.wd r hr];exact hl))
  (by show(rows.map a7).length < lim;rw[av];have:=T.rw';unfold lim;omega)
 rw[show((none,rows.map a7):Wk).2=rows.map a7 from rfl,qG] at q
 exact q
theorem BO(T:Tb hs rows){i j lc ld:Nat}{h h2:PySem.Str}{wd:GA.f_}{qs:List Qg}{o0 o2 o3 o7 o8 o9 i7 iE:Option Wv}(e:hs[i]? =some h)(e2:hs[j]? =some h2)(hc:st[lc]? =some (.lst ((col rows j).map Wo.w)))(hd:st[ld]? =some (.lst (qs.map qT)))(hq:∀q∈qs,st[q.2.1]? =some (.lst (nW q.2.2)))(hg:qs.map oR=ie (col rows i)) :
  ∃(nM nN:Option Wv)(st':Hs),jI [o0,some (aO hs rows),o2,o3,some (.str h),some (.ref lc),some (.ref ld),o7,o8,o9,some (.str h2),some (.str wd.s),i7,iE] st= .nx [o0,some (aO hs rows),o2,o3,some (.str h),some (.ref lc),some (.ref ld),o7,o8,o9,some (.str h2),some (.str wd.s),nM,nN] st'/\Gr st st':=by
 obtain⟨l,s1,r1,k1,b1,G1⟩:=Jk (st:=st) (wd:=wd) T e e2
 have XS:=T.rw'
 have cl:(col rows j).length=rows.length:=f9
 have UM:∀q∈qs,oR q∈ie (col rows i):=λq hq=>by rw[<-hg];exact List.mem_map.mpr ⟨q,hq,rfl⟩
 have ql:qs.length<=rows.length:=by
  have:=congrArg iG hg
  rw[av] at this
  rw[this,<-f9 (rows:=rows) (at':=i)]
  exact mE _
 obtain⟨c,hcc⟩:∃c,col rows j=c:=⟨_,rfl⟩
 rw[hcc] at hc cl
 have XY:∀ns,∀w∈dk c ns,w.ok=true:=λns=>by rw[<-hcc];exact Jv T
 have d1:=G1.get hd
 have Yu:=bS d1
 have c1:=G1.get hc
 have XU:=bS c1
 obtain⟨s2,c2,g2,K2⟩:=qM (ck:=tY (some (ld,qs.map qT))) (n:=2) (gt:=λv=>j9 (v.map some++[some (.ref lc),some (.str wd.s)])) (ge:=λv=>gw (v.map some++[some (.ref lc),some (.str wd.s)])) (rr:=s1.length) qT (λq=>[q.1.w,.ref q.2.1]) (λq=>uy wd (q.1,dk c q.2.2)) (s1++[.lst []]) (λs K=>K.lst (fk (aB d1)) (by omega)) qs
  (λq hm=>⟨rfl,λs K hr=>⟨rfl,by
   have h1:=G1.get (hq q hm)
   have lt:=bS h1
   obtain⟨h4,h5⟩:=ux (UM q hm)
   rw[f9] at h4 h5
   have h4:q.2.2.length<=rows.length:=h4
   have kq:s[q.2.1]? =some (.lst (nW q.2.2)):=by rw[K.2 _ (by simp;omega) (by omega)];exact bO h1
   have kc:s[lc]? =some (.lst (c.map Wo.w)):=by rw[K.2 _ (by simp;omega) (by omega)];exact bO c1
   have cp:=bI (cs:=[("column",2)]) (gt:=nC) (ge:=j8) (ρ:=[some q.1.w,some (.ref q.2.1),some (.ref lc),some (.str wd.s)]) (w:=(some q.2.1,nW q.2.2)) (st:=s) (t:=λ_=>true) (f:=λv=>(c.getD (uF v).toNat .ay).w) (aB kq)
    (λv _ acc=>rfl) (λv hv _ acc=>by
     obtain⟨k,hk,rfl⟩:=List.mem_map.mp hv
     have ix:=uv (st:=s++[.lst acc]) (k:=k) (fk (aB kc)) (by rw[cl];exact h5 k hk)
     unfold j8
     simp[-cC,cq,ix,uF])
    (by show(nW q.2.2).length < lim;unfold nW;rw[av];unfold lim;omega)
   rw[show((some q.2.1,nW q.2.2):Wk).2=nW q.2.2 from rfl,List.filter_eq_self.mpr (λ_ _=>rfl)] at cp
   have ef:(nW q.2.2).map (λv=>(c.getD (uF v).toNat .ay).w)=(dk c q.2.2).map Wo.w:=by
    unfold nW dk
    rw[bE,bE]
    rfl
   rw[ef] at cp
   obtain⟨s3,m6⟩:∃s3,s++[Ob.lst ((dk c q.2.2).map Wo.w)]=s3:=⟨_,rfl⟩
   rw[m6] at cp
   have k3:s3[s.length]? =some (.lst ((dk c q.2.2).map Wo.w)):=by rw[<-m6];exact cu
   obtain⟨s4,e4,G4⟩:=uB (wd:=wd) k3 (by unfold dk;rw[av];omega) (XY _)
   refine⟨s4,?_,(by rw[<-m6];exact Gr.push:Gr s s3).trans G4⟩
   have gs:aZ [("column",2)] (aI (ai 1)) nC j8 [some q.1.w,some (.ref q.2.1),some (.ref lc),some (.str wd.s)] s= .ok (.ref s.length) s3:=by
    unfold aZ aI
    simp only[dH,cP,b_,dF,aM]
    rw[ei (aB kq)]
    simp only[aM]
    exact cp
   show gw [some q.1.w,some (.ref q.2.1),some (.ref lc),some (.str wd.s)] s=_
   unfold gw
   simp only[Kn,nu,dH,cP,b_,dF,aM,j5,Nl,gs,sj,IY,e4,Fg]
   rfl⟩⟩) [] (s1++[.lst []]) bN.refl cu (by simp only[kP];unfold lim;omega)
 rw[pz] at g2
 have ew:qs.map (λq=>uy wd (q.1,dk c q.2.2))=(wz (col rows i) (col rows j)).map (uy wd):=by
  unfold wz
  rw[<-hg,bE,bE,hcc]
  rfl
 rw[ew] at g2
 have l1:=bS k1
 have k2:s2[l]? =some (.lst ((wz (col rows i) (col rows j)).map (uy wd))):=by rw[K2.2 l (by simp;omega) (by omega)];exact bO k1
 have nn:=Jr Jw k2 g2
 have il:=We k2
 have wo:∀ρ,cq [("column",5),("word",11)] ρ=[some (.ref lc),some (.str wd.s)]->gE 2 [("column",5),("word",11)] j9 gw ρ (some (ld,qs.map qT),qs.map qT) s1= .ok (.ref s1.length) s2:=λρ h=>by
  unfold gE
  rw[h,show((some (ld,qs.map qT),qs.map qT):Ia).2=qs.map qT from rfl,c2]
 refine⟨some (.ref l),some (.ref s1.length),s2,?_,G1.trans (bN.gr (ak _) (bN.push.trans K2))⟩
 have f1:bM 12 (a_ 4 eF (ag (ai 1) (ag (ai 4) (ag (ai 11) (ag (ai 10) au))))) [o0,some (aO hs rows),o2,o3,some (.str h),some (.ref lc),some (.ref ld),o7,o8,o9,some (.str h2),some (.str wd.s),i7,iE] st= .nx [o0,some (aO hs rows),o2,o3,some (.str h),some (.ref lc),some (.ref ld),o7,o8,o9,some (.str h2),some (.str wd.s),some (.ref l),iE] s1:=by
  simp[r1]
 have f2:bM 13 (gF 2 [("column",5),("word",11)] (BB (aI (ai 6))) j9 gw) [o0,some (aO hs rows),o2,o3,some (.str h),some (.ref lc),some (.ref ld),o7,o8,o9,some (.str h2),some (.str wd.s),some (.ref l),iE] s1= .nx [o0,some (aO hs rows),o2,o3,some (.str h),some (.ref lc),some (.ref ld),o7,o8,o9,some (.str h2),some (.str wd.s),some (.ref l),some (.ref s1.length)] s2:=by
  unfold gF BB aI
  simp only[qv,dH,cP,b_,dF,aM,ei (aB d1)]
  rw[show(Option.map (λl=>(l,qs.map qT)) (some ld),qs.map qT)=((some (ld,qs.map qT),qs.map qT):Ia) from rfl,wo _ rfl]
  rfl
 unfold jI
 rw[cT,f1,cS,cT,f2,cS]
 simp[il,nn]
def WS:List GA.f_:=[.sum,.count,.least,.jM]
theorem yG(T:Tb hs rows){i j lc ld:Nat}{h h2:PySem.Str}{qs:List Qg}{o0 o7 o8 o9 kx i7 iE:Option Wv}(e:hs[i]? =some h)(e2:hs[j]? =some h2)(hd:st[ld]? =some (.lst (qs.map qT)))(hq:∀q∈qs,st[q.2.1]? =some (.lst (nW q.2.2)))(hg:qs.map oR=ie (col rows i)) :
  ∃(XZ:Nat)(nG nM nN:Option Wv)(st':Hs),jJ [o0,some (aO hs rows),some (.tup (hs.map Wv.str)),some (.tup (rows.map a7)),some (.str h),some (.ref lc),some (.ref ld),o7,o8,o9,some (.str h2),kx,i7,iE] st= .nx [o0,some (aO hs rows),some (.tup (hs.map Wv.str)),some (.tup (rows.map a7)),some (.str h),some (.ref XZ),some (.ref ld),o7,o8,o9,some (.str h2),nG,nM,nN] st'/\Gr st st':=by
 obtain⟨s1,hs1⟩:∃s1,st++[Ob.lst ((col rows j).map Wo.w)]=s1:=⟨_,rfl⟩
 have c3:=λρ hc=>UQ (st:=st) (ρ:=ρ) T e2 hc
 rw[hs1] at c3
 have G1:Gr st s1:=by rw[<-hs1];exact Gr.push
 have k1:s1[st.length]? =some (.lst ((col rows j).map Wo.w)):=by rw[<-hs1];exact cu
 obtain⟨s2,hs2⟩:∃s2,s1++[Ob.lst (WS.map λwd=>Wv.str wd.s)]=s2:=⟨_,rfl⟩
 have kl:uf [.str "sum",.str "count",.str "least",.str "greatest"] s1= .ok (.ref s1.length) s2:=by rw[<-hs2];exact kZ (by simp[lim])
 have G2:Gr s1 s2:=by rw[<-hs2];exact Gr.push
 have k2:aj s2 s1.length=some (WS.map λwd=>Wv.str wd.s):=by rw[<-hs2];exact aw
 obtain⟨ρ3,s3,e3,⟨nG,nM,nN,rfl,G3⟩,_⟩:=qz (i:=11) (gb:=jI) (l:=s1.length) (all:=WS.map λwd=>Wv.str wd.s) (λwd:GA.f_=>Wv.str wd.s) WS
  (λ_ ρ st'=>∃nG nM nN,ρ=[o0,some (aO hs rows),some (.tup (hs.map Wv.str)),some (.tup (rows.map a7)),some (.str h),some (.ref st.length),some (.ref ld),o7,o8,o9,some (.str h2),nG,nM,nN]/\Gr s2 st')
  (λwd pre post ρ st' hf hP hl=>by
   obtain⟨nG,nM,nN,rfl,G⟩:=hP
   have G':=G1.trans (G2.trans G)
   obtain⟨RO,RP,s4,e4,G4⟩:=BO (wd:=wd) (o0:=o0) (o2:=some (.tup (hs.map Wv.str))) (o3:=some (.tup (rows.map a7))) (o7:=o7) (o8:=o8) (o9:=o9) (i7:=nM) (iE:=nN) T e e2 ((G2.trans G).get k1) (G'.get hd) (λq hm=>G'.get (hq q hm)) hg
   exact⟨_,s4,e4,G4.lst hl,_,_,_,rfl,G.trans G4⟩)
  WS [] [o0,some (aO hs rows),some (.tup (hs.map Wv.str)),some (.tup (rows.map a7)),some (.str h),some (.ref st.length),some (.ref ld),o7,o8,o9,some (.str h2),kx,i7,iE] s2 rfl ⟨_,_,_,rfl,Gr.refl⟩ k2
 refine⟨st.length,nG,nM,nN,s3,?_,G1.trans (G2.trans G3)⟩
 have f1:bM 5 (aZ [("heads",2),("other",10)] (aI (ai 3)) j_ j') [o0,some (aO hs rows),some (.tup (hs.map Wv.str)),some (.tup (rows.map a7)),some (.str h),some (.ref lc),some (.ref ld),o7,o8,o9,some (.str h2),kx,i7,iE] st= .nx [o0,some (aO hs rows),some (.tup (hs.map Wv.str)),some (.tup (rows.map a7)),some (.str h),some (.ref st.length),some (.ref ld),o7,o8,o9,some (.str h2),kx,i7,iE] s1:=by
  unfold aZ aI
  simp only[qv,dH,cP,b_,dF,aM,Fn]
  rw[c3 _ rfl]
  rfl
 have f2:n9 11 (ip (ag (gC (.str "sum")) (ag (gC (.str "count")) (ag (gC (.str "least")) (ag (gC (.str "greatest")) au))))) jI [o0,some (aO hs rows),some (.tup (hs.map Wv.str)),some (.tup (rows.map a7)),some (.str h),some (.ref st.length),some (.ref ld),o7,o8,o9,some (.str h2),kx,i7,iE] s1= .nx [o0,some (aO hs rows),some (.tup (hs.map Wv.str)),some (.tup (rows.map a7)),some (.str h),some (.ref st.length),some (.ref ld),o7,o8,o9,some (.str h2),nG,nM,nN] s3:=by
  simp only[zP,Qx,nu,e_c,aM,j5,sj,kl,dh,Fl k2,e3]
 unfold jJ
 rw[cT,f1,cS]
 exact f2
end
section
variable {hs:List PySem.Str} {rows:List (List Wo)} {st:Hs}
theorem F1{pre post:List PySem.Str}{h:PySem.Str}(e:hs=pre++h::post):hs[pre.length]? =some h:=by rw[e];simp
theorem BP(T:Tb hs rows){i:Nat}{h:PySem.Str}{o0 o5 o6 o7 o8 o9 nJ kx i7 iE:Option Wv}(e:hs[i]? =some h)(hz:("z":PySem.Str)∉hs) :
  ∃(p5 p6 p7 p8 p9 wF nG nM nN:Option Wv)(st':Hs),jK [o0,some (aO hs rows),some (.tup (hs.map Wv.str)),some (.tup (rows.map a7)),some (.str h),o5,o6,o7,o8,o9,nJ,kx,i7,iE] st= .nx [o0,some (aO hs rows),some (.tup (hs.map Wv.str)),some (.tup (rows.map a7)),some (.str h),p5,p6,p7,p8,p9,wF,nG,nM,nN] st'/\Gr st st':=by
 have UK:(col rows i).length<=14:=by rw[f9];exact T.rw'
 obtain⟨s1,hs1⟩:∃s1,st++[Ob.lst ((col rows i).map Wo.w)]=s1:=⟨_,rfl⟩
 have c4:=λρ hc=>UR (st:=st) (ρ:=ρ) T e hc
 rw[hs1] at c4
 have G1:Gr st s1:=by rw[<-hs1];exact Gr.push
 have k1:s1[st.length]? =some (.lst ((col rows i).map Wo.w)):=by rw[<-hs1];exact cu
 obtain⟨ld,qs,s2,r2,k2,g2,q2,G2⟩:=yF k1 (by omega)
 obtain⟨lf,ps,s3,r3,k3,g3,q3,b3,G3⟩:=ko (st:=s2) T e
 have n3:=sH k3 (λq hq=>(q3 q hq).1) (G3.get k2) (λq hq=>G3.get (q2 q hq)) (by rw[g2,g3])
 have il:=We k3
 have pl:ps.length<=14:=by
  have:=congrArg iG g3
  rw[av] at this
  rw[this]
  exact aX (mE _) UK
 obtain⟨p8,p9,s4,e4,n4,K4⟩:=FZ (lf:=lf) (b:=s2.length) (all:=ps.map qT) (qs:=ps) (o0:=o0) (o1:=some (aO hs rows)) (o2:=some (.tup (hs.map Wv.str))) (o3:=some (.tup (rows.map a7))) (o4:=some (.str h)) (o5:=some (.ref st.length)) (o6:=some (.ref ld)) (o7:=some (.ref lf)) (nJ:=nJ) (kx:=kx) (i7:=i7) (iE:=iE)
  (λq hq=>⟨(q3 q hq).2.2,(q3 q hq).2.1⟩) ps o8 o9 s3 (λ_ h=>h) (aB k3) (λq hq=>⟨_,(q3 q hq).1,by
   have hm:oR q∈ie (col rows i):=by rw[<-g3];exact List.mem_map.mpr ⟨q,hq,rfl⟩
   have:=(ux hm).1
   have this:q.2.2.length<=(col rows i).length:=this
   unfold nW
   rw[av]
   omega⟩)
 have US:Gr s2 s4:=⟨by have:=G3.1;omega,λk hk=>(K4 k hk).trans (G3.2 k hk)⟩
 obtain⟨Yv,Yw,s5,r5,k5,g5,q5,b5,G5⟩:=ko (st:=s4) T e
 have n5:=sH k5 (λq hq=>(q5 q hq).1) ((US.trans G5).get k2) (λq hq=>(US.trans G5).get (q2 q hq)) (by rw[g2,g5])
 have Wf:=US.trans G5
 obtain⟨ρ6,s6,e6,KD,wF,nG,nM,nN,rfl,G6⟩:=qA (i:=10) (gb:=jJ) Wv.str hs
  (λ_ ρ st'=>∃(KD:Nat)(wF nG nM nN:Option Wv),ρ=[o0,some (aO hs rows),some (.tup (hs.map Wv.str)),some (.tup (rows.map a7)),some (.str h),some (.ref KD),some (.ref ld),some (.ref lf),p8,p9,wF,nG,nM,nN]/\Gr s5 st')
  (λh2 pre post ρ st' hf hP=>by
   obtain⟨KD,wF,nG,nM,nN,rfl,G6⟩:=hP
   have G':=Wf.trans G6
   obtain⟨X2,UT,RO,RP,s7,e7,G7⟩:=yG (lc:=KD) (o0:=o0) (o7:=some (.ref lf)) (o8:=p8) (o9:=p9) (kx:=nG) (i7:=nM) (iE:=nN) T e (F1 hf) (G'.get k2) (λq hq=>G'.get (q2 q hq)) g2
   exact⟨_,s7,e7,X2,some (.str h2),UT,RO,RP,rfl,G6.trans G7⟩)
  hs [] [o0,some (aO hs rows),some (.tup (hs.map Wv.str)),some (.tup (rows.map a7)),some (.str h),some (.ref st.length),some (.ref ld),some (.ref lf),p8,p9,nJ,kx,i7,iE] s5 rfl ⟨st.length,nJ,kx,i7,iE,rfl,Gr.refl⟩
 obtain⟨s7,x7,G7⟩:=wH (st:=s6) (h:=h) (h2:="z") T (.inr ⟨⟨i,e⟩,hz⟩)
 obtain⟨s8,x8,G8⟩:=wH (st:=s7) (h:="z") (h2:=h) T (.inl hz)
 refine⟨some (.ref KD),some (.ref ld),some (.ref lf),p8,p9,wF,nG,nM,nN,s8,?_,G1.trans (G2.trans (Wf.trans (G6.trans (G7.trans G8))))⟩
 have f1:bM 5 (aZ [("heads",2),("head",4)] (aI (ai 3)) ka kh) [o0,some (aO hs rows),some (.tup (hs.map Wv.str)),some (.tup (rows.map a7)),some (.str h),o5,o6,o7,o8,o9,nJ,kx,i7,iE] st= .nx [o0,some (aO hs rows),some (.tup (hs.map Wv.str)),some (.tup (rows.map a7)),some (.str h),some (.ref st.length),o6,o7,o8,o9,nJ,kx,i7,iE] s1:=by
  unfold aZ aI
  simp only[qv,dH,cP,b_,dF,aM,Fn]
  rw[c4 _ rfl]
  rfl
 have f2:bM 6 (a_ 1 dQ (ag (ai 5) au)) [o0,some (aO hs rows),some (.tup (hs.map Wv.str)),some (.tup (rows.map a7)),some (.str h),some (.ref st.length),o6,o7,o8,o9,nJ,kx,i7,iE] s1= .nx [o0,some (aO hs rows),some (.tup (hs.map Wv.str)),some (.tup (rows.map a7)),some (.str h),some (.ref st.length),some (.ref ld),o7,o8,o9,nJ,kx,i7,iE] s2:=by simp[r2]
 have f3:bM 7 (a_ 2 bB (ag (ai 1) (ag (ai 4) au))) [o0,some (aO hs rows),some (.tup (hs.map Wv.str)),some (.tup (rows.map a7)),some (.str h),some (.ref st.length),some (.ref ld),o7,o8,o9,nJ,kx,i7,iE] s2= .nx [o0,some (aO hs rows),some (.tup (hs.map Wv.str)),some (.tup (rows.map a7)),some (.str h),some (.ref st.length),some (.ref ld),some (.ref lf),o8,o9,nJ,kx,i7,iE] s3:=by simp[r3]
 have f4:oB (JP (pG (iu (aQ (jr lC kD) (ag (ai 7) (ag (gC (.ty "list")) au))))) (c_ (az xm (ai 7) (ai 6)))) (cb (gC (.bl false))) cR [o0,some (aO hs rows),some (.tup (hs.map Wv.str)),some (.tup (rows.map a7)),some (.str h),some (.ref st.length),some (.ref ld),some (.ref lf),o8,o9,nJ,kx,i7,iE] s3= .nx [o0,some (aO hs rows),some (.tup (hs.map Wv.str)),some (.tup (rows.map a7)),some (.str h),some (.ref st.length),some (.ref ld),some (.ref lf),o8,o9,nJ,kx,i7,iE] s3:=by simp[il,n3]
 have f5:nQ [8,9] (ai 7) mC [o0,some (aO hs rows),some (.tup (hs.map Wv.str)),some (.tup (rows.map a7)),some (.str h),some (.ref st.length),some (.ref ld),some (.ref lf),o8,o9,nJ,kx,i7,iE] s3= .nx [o0,some (aO hs rows),some (.tup (hs.map Wv.str)),some (.tup (rows.map a7)),some (.str h),some (.ref st.length),some (.ref ld),some (.ref lf),p8,p9,nJ,kx,i7,iE] s4:=by
  unfold nQ
  simp only[dH,cP,b_,dF,dh]
  rw[aB k3]
  exact e4
 have f6:oB (c_ (az xm (a_ 2 bB (ag (ai 1) (ag (ai 4) au))) (ai 6))) (cb (gC (.bl false))) cR [o0,some (aO hs rows),some (.tup (hs.map Wv.str)),some (.tup (rows.map a7)),some (.str h),some (.ref st.length),some (.ref ld),some (.ref lf),p8,p9,nJ,kx,i7,iE] s4= .nx [o0,some (aO hs rows),some (.tup (hs.map Wv.str)),some (.tup (rows.map a7)),some (.str h),some (.ref st.length),some (.ref ld),some (.ref lf),p8,p9,nJ,kx,i7,iE] s5:=by simp[r5,n5]
 have f7:n9 10 (ai 2) jJ [o0,some (aO hs rows),some (.tup (hs.map Wv.str)),some (.tup (rows.map a7)),some (.str h),some (.ref st.length),some (.ref ld),some (.ref lf),p8,p9,nJ,kx,i7,iE] s5= .nx [o0,some (aO hs rows),some (.tup (hs.map Wv.str)),some (.tup (rows.map a7)),some (.str h),some (.ref KD),some (.ref ld),some (.ref lf),p8,p9,wF,nG,nM,nN] s6:=by
  simp only[zP,dH,cP,b_,dF,dh,Fm]
  exact e6
 have f8:oB (JP (pG (iu (a_ 4 aV (ag (gC (.int 1)) (ag (ai 1) (ag (ai 4) (ag (gC (.str "z")) au))))))) (pG (iu (a_ 4 aV (ag (gC (.int 1)) (ag (ai 1) (ag (gC (.str "z")) (ag (ai 4) au)))))))) (cb (gC (.bl false))) cR [o0,some (aO hs rows),some (.tup (hs.map Wv.str)),some (.tup (rows.map a7)),some (.str h),some (.ref KD),some (.ref ld),some (.ref lf),p8,p9,wF,nG,nM,nN] s6= .nx [o0,some (aO hs rows),some (.tup (hs.map Wv.str)),some (.tup (rows.map a7)),some (.str h),some (.ref KD),some (.ref ld),some (.ref lf),p8,p9,wF,nG,nM,nN] s8:=by simp[x7,x8]
 unfold jK
 rw[cT,f1,cS,cT,f2,cS,cT,f3,cS,cT,f4,cS,cT,f5,cS,cT,f6,cS,cT,f7,cS]
 exact f8
end
theorem law_true(ns:List Int)(hn:ns.length<=63):∃st,F_law [.ref 0] [.tq ns]= .ok (.bl true) st:=by
 obtain⟨hs,rows,s1,e1,T,_,G1⟩:=table (st:=[.tq ns]) (ns:=ns) (at':=0) (most:=12) rfl hn (by omega) (by omega)
 have F6:dA [.ref 0,.int 0,.int 12] [.tq ns]= .ok (aO hs rows) s1:=e1
 have hz:("z":PySem.Str)∉hs:=λc=>by
  rcases T.of _ c with z | z | z | z | z<;>exact absurd z (by decide)
 have hn:("":PySem.Str)∉hs:=λc=>by
  rcases T.of _ c with z | z | z | z | z<;>exact absurd z (by decide)
 obtain⟨ρ2,s2,e2,p4,p5,p6,p7,p8,p9,wF,nG,nM,nN,rfl,G2⟩:=qA (i:=4) (gb:=jK) Wv.str hs
  (λ_ ρ st'=>∃(p4 p5 p6 p7 p8 p9 wF nG nM nN:Option Wv),ρ=[some (.ref 0),some (aO hs rows),some (.tup (hs.map Wv.str)),some (.tup (rows.map a7)),p4,p5,p6,p7,p8,p9,wF,nG,nM,nN]/\Gr s1 st')
  (λh pre post ρ st' hf hP=>by
   obtain⟨p4,p5,p6,p7,p8,p9,wF,nG,nM,nN,rfl,G⟩:=hP
   obtain⟨q5,q6,q7,q8,q9,X3,UT,RO,RP,s3,e3,G3⟩:=BP (st:=st') (o0:=some (.ref 0)) (o5:=p5) (o6:=p6) (o7:=p7) (o8:=p8) (o9:=p9) (nJ:=wF) (kx:=nG) (i7:=nM) (iE:=nN) T (F1 hf) hz
   exact⟨_,s3,e3,some (.str h),q5,q6,q7,q8,q9,X3,UT,RO,RP,rfl,G.trans G3⟩)
  hs [] [some (.ref 0),some (aO hs rows),some (.tup (hs.map Wv.str)),some (.tup (rows.map a7)),none,none,none,none,none,none,none,none,none,none] s1 rfl ⟨_,_,_,_,_,_,_,_,_,_,rfl,Gr.refl⟩
 obtain⟨s3,x3,_⟩:=wI (rows:=rows) (st:=s2) (h:="z") (h2:="z") hz
 obtain⟨s4,x4,_⟩:=wI (rows:=rows) (st:=s3) (h:="") (h2:="z") hn
 refine⟨s4,gH (n:=14) (g:=wg) ?_⟩
 have f1:bM 1 (a_ 3 dA (ag (ai 0) (ag (gC (.int 0)) (ag (gC (.int 12)) au)))) [some (.ref 0),none,none,none,none,none,none,none,none,none,none,none,none,none] [.tq ns]= .nx [some (.ref 0),some (aO hs rows),none,none,none,none,none,none,none,none,none,none,none,none] s1:=by simp[F6]
 have f2:y0 [2,3] (ai 1) [some (.ref 0),some (aO hs rows),none,none,none,none,none,none,none,none,none,none,none,none] s1= .nx [some (.ref 0),some (aO hs rows),some (.tup (hs.map Wv.str)),some (.tup (rows.map a7)),none,none,none,none,none,none,none,none,none,none] s1:=rfl
 have f3:n9 4 (ai 2) jK [some (.ref 0),some (aO hs rows),some (.tup (hs.map Wv.str)),some (.tup (rows.map a7)),none,none,none,none,none,none,none,none,none,none] s1= .nx [some (.ref 0),some (aO hs rows),some (.tup (hs.map Wv.str)),some (.tup (rows.map a7)),p4,p5,p6,p7,p8,p9,wF,nG,nM,nN] s2:=by
  simp only[zP,dH,cP,b_,dF,dh,Fm]
  exact e2
 show wg [some (.ref 0),none,none,none,none,none,none,none,none,none,none,none,none,none] [.tq ns]=_
 unfold wg
 rw[cT,f1,cS,cT,f2,cS,cT,f3,cS]
 simp[x3,x4]
end K75
namespace PySem.W.Fast
def tw10869635733479321229:=()
def tw8883497436213596225:=()
def tw2445370887668478893:=()
def tw4487113525811893545:=()
def tw5209646855482164287:=()
def tw3262012282098203666:=()
def tw8589335579486028851:=()
def tw16286770128875785579:=()
def tw17485319853556599886:=()
def tw3227648891887876922:=()
def tw595102904374466622:=()
def tw6071045620544660117:=()
def tw14876563040914470997:=()
def tw13924633233341060884:=()
def tw2576569776698792514:=()
def tw4028661126784596442:=()
def tw15141836886576489604:=()
def tw3547219462080169110:=()
def tw2227492630485984176:=()
def tw14998089456525101320:=()
def tw10464877153819787787:=()
def tw10585538222375753191:=()
def tw10955133995401287360:=()
def tw12195387079441737973:=()
def tw3328011470300741833:=()
def tw14025399075380945420:=()
def tw16484778204478215182:=()
def tw12198181658899049120:=()
def tw1459641233470119409:=()
def tw17452767535125467099:=()
def tw3629880370005010794:=()
def tw15784170042519452082:=()
def tw2231106457311910124:=()
def tw9105427005817532395:=()
def tw6747810240525052696:=()
def tw8950414397489023467:=()
def tw933827473678152835:=()
def tw8540238684101289739:=()
def tw4666007390934080414:=()
def tw6370318037429434046:=()
def tw3270371220865179055:=()
def tw8924296977050046023:=()
def tw17791670807862884602:=()
def tw14608925043179794513:=()
def tw17626303015706145795:=()
def tw734064382879457718:=()
def tw6189601274533762037:=()
def tw9820419504820949319:=()
def tw6097580293718871905:=()
def tw544210137349040541:=()
def tw7834387666308646171:=()
def tw17279708062248360927:=()
def tw8366874908249213082:=()
def tw324902128342867274:=()
def tw10534919243753540214:=()
def tw13627815067702879214:=()
def tw17514316653223047520:=()
def tw13549849665100237808:=()
def tw7109689216616820003:=()
def tw17600849841710903189:=()
def tw1566646114372094874:=()
def tw107627314847842289:=()
def tw15530842001391539719:=()
def tw3987299735727190870:=()
def tw18316895459117741727:=()
def tw12973425344070970111:=()
def tw9944399625757129856:=()
def tw14509644809644308091:=()
def tw14573890629340483809:=()
def tw15649432116364350017:=()
def tw3066245676696245109:=()
def tw4159996130060043526:=()
def tw17861359162008375176:=()
def tw9413590686475697574:=()
def tw10133832504926667361:=()
def tw342410463340232842:=()
def tw170877889061090032:=()
def tw9052006179420903867:=()
def tw10894846528382079204:=()
def tw4920348758730252246:=()
def tw3952575408626418582:=()
def tw2618760191163497916:=()
def tw4578064738508441017:=()
def tw10131101327283972991:=()
def tw5494059829689084304:=()
def tw13103393069009727564:=()
def tw6859737706657435095:=()
def tw3271960288904293145:=()
def tw9704518342987859020:=()
def tw8824792508568501533:=()
def tw14487702887674589616:=()
def tw5502019435056861979:=()
def tw13016935640777616882:=()
def tw5505967055781134896:=()
def tw15121958305396900935:=()
def tw11786105240256876765:=()
def tw2622364637499630131:=()
def tw2679572833771407500:=()
def tw3593282033847597164:=()
def tw2122393586312728547:=()
def tw16917737634500459178:=()
def tw17317884093125455207:=()
def tw3167146835480492837:=()
def tw7899535355446733424:=()
def tw17907780965619021407:=()
def tw18142455248370077872:=()
def tw10794381450882135302:=()
def tw10722808245852663383:=()
def tw15714404341272744405:=()
def tw7734749803745839795:=()
def tw7872737412823191606:=()
def tw4307334362181080903:=()
def tw17196181576068556525:=()
def tw73224739887202352:=()
def tw18088492361391219735:=()
def tw8617682486731329523:=()
def tw4445718261752496512:=()
def tw3704139490958254360:=()
def tw573504549192066597:=()
def tw11600329549006985821:=()
def tw18084050934532147355:=()
def tw6501886154166844541:=()
def tw9953687096129474897:=()
def tw14146063918411817318:=()
def tw11461621266007230464:=()
def tw13836035389974864055:=()
def tw125775805831174277:=()
def tw932014267310042058:=()
def tw9422269538777954562:=()
def tw10379285588065369730:=()
def tw8911287851714111864:=()
def tw9646333265597526627:=()
def tw8996514328370106888:=()
def tw2367555189358373490:=()
def tw10648486715422651023:=()
def tw5879283210982640949:=()
def tw15307151956375100515:=()
def tw9957629283775763220:=()
def tw15809537584821822526:=()
def tw842523264851095262:=()
def tw12352178072368992766:=()
def tw7665408754582829203:=()
def tw2342868834657791265:=()
def tw14254319459770660923:=()
def tw16291758473586063210:=()
def tw11765004047042650751:=()
def tw8016866313758147755:=()
def tw11616650624822321245:=()
def tw5832018499083498302:=()
end PySem.W.Fast
namespace K75
open PySem PySem.W PyProof.Rows
set_option maxHeartbeats 0 in
open_top head for PySem.Challenge.rw_onelook_k75_groups_and_sums
open PySem J
open PySem.W (nsIn kitOne findIn excIn mroIn mg_of mg_none_of)
open L2 (defScope defBody defArgs FnScope CX0 FnOk XK Hp)
set_option autoImplicit true in
theorem all_mk {l:PySem.W.OpenLaw} {w:World} {K:PySem.W.Frag} {h:Heap} {mg:Str → Option Value} {fa:Addr} (X:K.In h) (G:h.Ns mainGlobals mg) (hfa:mg "law" = some (.ref fa))
        {X0 X1:Yx}
    (d1:J.dD K "_law_mix" iN)
    (d2:J.dD K "_law_digits" fu)
    (d3:J.dD K "_law_worths" fA)
    (d4:J.dD K "_law_table" fY)
    (d5:J.dD K "_law_rank" gZ)
    (d6:J.dD K "_law_groups" fG)
    (d7:J.dD K "column_of" hG)
    (d8:J.dD K "order_key" hJ)
    (d9:J.dD K "groups_by" hU)
    (UU:J.dD K "is_great" iR)
    (UW:J.dD K "fault" oO)
    (UX:J.dD K "bounded" j6)
    (UY:J.dD K "is_fault" iT)
    (UZ:J.dD K "gathered" iV)
    (U0:J.dD K "worths_by_groups" cI)
    (U1:J.dD K "sums_by" j7)
    (U2:J.dD K "_law_refused" eQ)
    (U3:J.dD K "_law_gathered" d_)
    (U4:J.dD K "law" zT)
    (z0:nsIn K YN "range"=some none)
    (z1:nsIn K YN "len"=some none)
    (z2:nsIn K YN "tuple"=some none)
    (z3:nsIn K YN "sum"=some none)
    (z4:nsIn K YN "int"=some none)
    (z5:nsIn K YN "isinstance"=some none)
    (z6:nsIn K YN "str"=some none)
    (z7:nsIn K YN "sorted"=some none)
    (z8:nsIn K YN "list"=some none)
    (z9:nsIn K YN "enumerate"=some none)
    (U5:nsIn K YN "abs"=some none)
    (U6:nsIn K YN "min"=some none)
    (U7:nsIn K YN "max"=some none)
    (F2:nsIn K YN "NoColumn"=some (some (.ref X0))) (QR:excIn K X0 AM AN=true) (U8:findIn K (.ref X0) "__getattribute__"=some (some (.builtin "BaseException.__getattribute__"))) (U9:findIn K (.ref X0) "__getattr__"=some none) (U_:findIn K (.ref X0) "__class__"=some (some (.builtin "object.__class__")))
    (Of:nsIn K YN "SheetError"=some (some (.ref X1))) (RQ:excIn K X1 AM AN=true)
    (U':kitOne K (.ref X0) (.ref X0)=some true)
    (Va:kitOne K (.ref X0) (.ref X1)=some true)
    (Vb:mroIn K X0 (.ref X1)=some true)
    (Vc:kitOne K (.ref X0) (.type "ValueError")=some true)
     :
    ∃fd:Yz,(∀(s:YC)(u:YD),BindsTo s fd ⟨[u],[]⟩ [("script",u)])/\∀base:Heap,K.In base->base.Ns YN mg->FnOk l.prog w K mg base (CXJ l.prog w) 8 fa fd ["script"] (spW K 1 F_law):=by
  refine J.IW X G hfa U4 (λ_ _ _ _ _ _ s u=> .of_eq rfl) (λf fd Fu base kb nb=>?_)
  have Z0:=mg_none_of kb nb z0
  have Z1:=mg_none_of kb nb z1
  have Z2:=mg_none_of kb nb z2
  have Z3:=mg_none_of kb nb z3
  have Z4:=mg_none_of kb nb z4
  have Z5:=mg_none_of kb nb z5
  have Z6:=mg_none_of kb nb z6
  have Z7:=mg_none_of kb nb z7
  have Z8:=mg_none_of kb nb z8
  have Z9:=mg_none_of kb nb z9
  have Wg:=mg_none_of kb nb U5
  have Wh:=mg_none_of kb nb U6
  have Wi:=mg_none_of kb nb U7
  have E0:J.lU K X0:=⟨QR,U8,U9,U_⟩
  have TB:TabOk K lC kD Fx:=J.Ng ⟨⟨X0,X0,F2,F2,E0,U'⟩,⟨X0,X1,F2,Of,E0,Va⟩,trivial⟩ ⟨⟨X0,F2,E0,Vc⟩,trivial⟩ ⟨⟨X0,X1,F2,Of,QR,RQ,Vb⟩,trivial⟩
  have H1:J.jq l.prog w K mg base 1 "_law_mix" 2 iP:=J.bV (ps:=["cell","k"]) kb nb d1 (J.bA (c:=la) (k:=0) trivial trivial trivial TB trivial trivial trivial) v5 rfl yo (λ_ _ _ _ _ _ us hl=>J.ln2 us hl λ_ _=>rfl)
  have H2:J.jq l.prog w K mg base 2 "_law_digits" 3 fz:=J.bV (ps:=["cell","size","many"]) kb nb d2 (J.bA (c:=h_) (k:=1) trivial ⟨Z0,trivial⟩ ⟨H1.mono (by decide),trivial⟩ TB trivial trivial trivial) qB rfl rb (λ_ _ _ _ _ _ us hl=>J.Uy us hl λ_ _ _=>rfl)
  have H3:J.jq l.prog w K mg base 3 "_law_worths" 2 fF:=J.bV (ps:=["cell","many"]) kb nb d3 (J.bA (c:=ib) (k:=2) trivial ⟨Z1,trivial⟩ ⟨H2.mono (by decide),trivial⟩ TB trivial trivial trivial) qC rfl rf (λ_ _ _ _ _ _ us hl=>J.ln2 us hl λ_ _=>rfl)
  have H4:J.jq l.prog w K mg base 4 "_law_table" 3 dA:=J.bV (ps:=["script","at","rows_most"]) kb nb d4 (J.bA (c:=iQ) (k:=3) trivial ⟨Z2,Z3,Z0,trivial⟩ ⟨H3.mono (by decide),trivial⟩ TB trivial trivial trivial) rh rfl uk (λ_ _ _ _ _ _ us hl=>J.Uy us hl λ_ _ _=>rfl)
  have H5:J.jq l.prog w K mg base 1 "_law_rank" 1 di:=J.bV (ps:=["worth"]) kb nb d5 (J.bA (c:=jC) (k:=0) trivial ⟨Z4,Z5,Z6,trivial⟩ trivial TB trivial trivial trivial) um rfl v7 (λ_ _ _ _ _ _ us hl=>J.Nr us hl λ_=>rfl)
  have H6:J.jq l.prog w K mg base 2 "_law_groups" 1 dQ:=J.bV (ps:=["column"]) kb nb d6 (J.bA (c:=ic) (k:=1) trivial ⟨Z7,Z0,Z1,trivial⟩ ⟨H5.mono (by decide),trivial⟩ TB trivial trivial trivial) qD rfl rj (λ_ _ _ _ _ _ us hl=>J.Nr us hl λ_=>rfl)
  have H7:J.jq l.prog w K mg base 1 "column_of" 2 cF:=J.bV (ps:=["table","head"]) kb nb d7 (J.bA (c:=jD) (k:=0) trivial ⟨Z8,trivial⟩ trivial TB ⟨⟨X0,mg_of kb nb F2,⟨F2,QR⟩⟩,trivial⟩ trivial trivial) uo rfl v9 (λ_ _ _ _ _ _ us hl=>J.ln2 us hl λ_ _=>rfl)
  have H8:J.jq l.prog w K mg base 1 "order_key" 1 dj:=J.bV (ps:=["worth"]) kb nb d8 (J.bA (c:=jE) (k:=0) trivial ⟨Z5,Z6,trivial⟩ trivial TB trivial trivial trivial) uq rfl v_ (λ_ _ _ _ _ _ us hl=>J.Nr us hl λ_=>rfl)
  have H9:J.jq l.prog w K mg base 4 "groups_by" 2 bB:=J.bV (ps:=["table","head"]) kb nb d9 (J.bA (c:=jF) (k:=3) trivial ⟨Z9,Z7,trivial⟩ ⟨H7.mono (by decide),H8.mono (by decide),trivial⟩ TB trivial trivial trivial (hx:=J.IX rfl trivial trivial (λz=>absurd z (by decide)) (by decide) ⟨(λ_ _ e=>by cases e;exact H8.mono (by decide)),trivial⟩)) ur rfl wa (λ_ _ _ _ _ _ us hl=>J.ln2 us hl λ_ _=>rfl)
  have DF:J.jq l.prog w K mg base 1 "is_great" 1 gI:=J.bV (ps:=["number"]) kb nb UU (J.bA (c:=lh) (k:=0) trivial ⟨Wg,trivial⟩ trivial TB trivial trivial trivial) wb rfl yq (λ_ _ _ _ _ _ us hl=>J.Nr us hl λ_=>rfl)
  have Ra:J.jq l.prog w K mg base 1 "fault" 1 iS:=J.bV (ps:=["word"]) kb nb UW (J.bA (c:=uu) (k:=0) trivial trivial trivial TB trivial trivial trivial) Fy rfl I_ (λ_ _ _ _ _ _ us hl=>J.Nr us hl λ_=>rfl)
  have X4:J.jq l.prog w K mg base 2 "bounded" 1 gq:=J.bV (ps:=["number"]) kb nb UX (J.bA (c:=nz) (k:=1) trivial trivial ⟨DF.mono (by decide),Ra.mono (by decide),trivial⟩ TB trivial trivial trivial) yt rfl BJ (λ_ _ _ _ _ _ us hl=>J.Nr us hl λ_=>rfl)
  have X5:J.jq l.prog w K mg base 1 "is_fault" 1 iU:=J.bV (ps:=["worth"]) kb nb UY (J.bA (c:=ll) (k:=0) trivial ⟨Z5,Z2,trivial⟩ trivial TB trivial trivial trivial) wc rfl yu (λ_ _ _ _ _ _ us hl=>J.Nr us hl λ_=>rfl)
  have X6:J.jq l.prog w K mg base 3 "gathered" 2 eu:=J.bV (ps:=["word","worths"]) kb nb UZ (J.bA (c:=lp) (k:=2) trivial ⟨Z1,Z5,Z4,Z3,Wh,Wi,trivial⟩ ⟨X4.mono (by decide),Ra.mono (by decide),X5.mono (by decide),trivial⟩ TB trivial trivial trivial) we rfl yv (λ_ _ _ _ _ _ us hl=>J.ln2 us hl λ_ _=>rfl)
  have X7:J.jq l.prog w K mg base 5 "worths_by_groups" 3 bJ:=J.bV (ps:=["table","head","other"]) kb nb U0 (J.bA (c:=ez) (k:=4) trivial trivial ⟨H9.mono (by decide),H7.mono (by decide),trivial⟩ TB trivial trivial trivial) kE rfl lr (λ_ _ _ _ _ _ us hl=>J.Uy us hl λ_ _ _=>rfl)
  have Wj:J.jq l.prog w K mg base 6 "sums_by" 4 eF:=J.bV (ps:=["table","head","word","other"]) kb nb U1 (J.bA (c:=nA) (k:=5) trivial trivial ⟨X6.mono (by decide),X7.mono (by decide),trivial⟩ TB trivial trivial trivial) yw rfl BK (λ_ _ _ _ _ _ us hl=>J.V4 us hl λ_ _ _ _=>rfl)
  have X8:J.jq l.prog w K mg base 7 "_law_refused" 4 aV:=J.bV (ps:=["way","table","head","other"]) kb nb U2 (J.bA (c:=gL) (k:=6) trivial ⟨Z5,trivial⟩ ⟨H9.mono (by decide),Wj.mono (by decide),trivial⟩ TB ⟨⟨X1,mg_of kb nb Of,⟨Of,RQ⟩⟩,trivial⟩ ⟨⟨X0,mg_of kb nb F2,F2⟩,trivial⟩ trivial) og rfl qF (λ_ _ _ _ _ _ us hl=>J.V4 us hl λ_ _ _ _=>rfl)
  have X9:J.jq l.prog w K mg base 2 "_law_gathered" 2 cM:=J.bV (ps:=["word","some"]) kb nb U3 (J.bA (c:=fP) (k:=1) trivial ⟨Z1,Z3,Z4,Wg,Wh,Wi,trivial⟩ ⟨H5.mono (by decide),trivial⟩ TB trivial trivial trivial) nB rfl oh (λ_ _ _ _ _ _ us hl=>J.ln2 us hl λ_ _=>rfl)
  exact J.Nf Fu (J.bA (c:=Fz) (k:=7) trivial ⟨Z5,Z8,trivial⟩ ⟨H4.mono (by decide),H6.mono (by decide),H9.mono (by decide),X8.mono (by decide),Wj.mono (by decide),X9.mono (by decide),trivial⟩ TB trivial trivial trivial) Nt rfl QF
end K75
open PySem PySem.W PyProof.Rows
set_option maxRecDepth 100000 in
set_option maxHeartbeats 0 in
theorem PySem.Challenge.cw_onelook_k75_groups_and_sums_holds : PySem.Challenge.rw_onelook_k75_groups_and_sums.Holds := by
  refine K75.head ?_
  k_fill
  refine L2.walk_of (l:=PySem.Challenge.rw_onelook_k75_groups_and_sums) (n:=63) (k:=8) (x:="script") (CX:=fun w => J.CXJ PySem.Challenge.rw_onelook_k75_groups_and_sums.prog w) (sp:=fun w => J.spW _ 1 K75.F_law) rfl (by decide) rfl ⟨rfl,by decide,by decide⟩ (fun w h Y => PySem.W.kIn_of Y) ?F (fun w H a ns hl hO hS => J.law_sp K75.law_true H a ns hl (J.OnlyT.of hO) hS (J.tb_none ?Ta ?Tb ?Tc ?Td ?Te)) (fun _ _ _ _ _ z => z.elim fun _ y => y.elim fun _ x => x.2)
  case F=>
    intro w mg fa h KX G hmg
    refine' K75.all_mk KX G hmg ?d1 ?d2 ?d3 ?d4 ?d5 ?d6 ?d7 ?d8 ?d9 ?UU ?UW ?UX ?UY ?UZ ?U0 ?U1 ?U2 ?U3 ?U4 ?z0 ?z1 ?z2 ?z3 ?z4 ?z5 ?z6 ?z7 ?z8 ?z9 ?U5 ?U6 ?U7 ?F2 ?QR ?U8 ?U9 ?U_ ?Of ?RQ ?U' ?Va ?Vb ?Vc
    case d1 | d2 | d3 | d4 | d5 | d6 | d7 | d8 | d9 | UU | UW | UX | UY | UZ | U0 | U1 | U2 | U3 | U4=>refine' J.Mc ?a ?l ?c ?k;(case a=>k_is);(case l=>k_is);(case c=>k_is);(case k=>k_is)
    case z0 | z1 | z2 | z3 | z4 | z5 | z6 | z7 | z8 | z9 | U5 | U6 | U7 | F2=>k_is
    case QR=>k_exc
    case U8 | U9 | U_ | Of=>k_is
    case RQ=>k_exc
    case U' | Va=>kit_is
    case Vb=>k_is
    case Vc=>kit_is
  (case Ta=>k_is)
  (case Tb=>k_is)
  (case Tc=>k_is)
  (case Td=>k_is)
  (case Te=>k_is)
