import PyProof.Rows.All
import Wide.All
import OpenK.AllK
import Wide.FinOn
import Lean
import PyProof.EqAt
import PyProof.EqKinds
import PyProof.TupleCall
import PySem.Challenge.RW_onelook_k73_rows_in_order
open PySem.Around renaming frames_deeper→NK
open Array renaming all_eq_true_iff_forall_mem→Oq,getD→yw,getD_eq_getD_getElem?→O0,getElem?_eq_getElem→HV,length_toList→Ho
open PySem.AutoSeq1 renaming sub_tuple_tuple→Br
open Bool renaming and_eq_true→cH,eq_iff_iff→Ek,false_eq_true→pz,false_ne_true→cw
open PySem.Builtin.List renaming listExtendWith→Dy,listLengthHint→LL,listSameRef→LM,listTooLong→BA
open PySem.Builtin.Slice renaming sliceAdjust→Bt,sliceApplied→JF,slicePlaces→wu
open PySem.Builtin.Str renaming occurrences→mn
open PySem.Builtin.Tuple renaming tupleCompareSizes→Bs,tupleExact→wx,tupleIsExact→Lg,tupleItemsOf→JG
open PySem.Calls renaming Name_function_global→I_,callWith_builtin→JR,evalArgs_plain→Bx,spliced_cons→mq,spliced_nil→oO
open Classical renaming propDecidable→Ce
open PySem.EntryCells renaming newEntry→J3
open PySem.F renaming typeOf_object_class→Cj
open False renaming elim→aa
open ForInStep renaming yield→kG
open Function renaming comp_def→LK
open PySem.Heap renaming MadeExcOf→sL,SameBut→oM,get?_none_of_le→v9,get?_push_of_some→aE,get?_push_size→bY,get?_update_other→my,get?_update_self→wA,lt_size→ax
open PySem.Heap.SameBut renaming update→pT
open PySem.Heap.UpToSlots renaming refl→Kz
open Int renaming toNat→kT
open List.Perm renaming eq_of_pairwise→wU
open List renaming all_cons→cQ,all_eq_true→DV,any_cons→mz,append_assoc→ij,append_nil→hX,cons_append→Dg,contains_cons→wO,countP_cons→wW,drop_eq_getElem_cons→ph,drop_length→pj,drop_of_length_le→Lc,drop_sublist→CF,drop_zero→il,eq_nil_of_length_eq_zero→BW,filterMap_cons→r_,filter_cons→wC,filter_cons_of_neg→tF,filter_cons_of_pos→xa,find?_cons→BC,findIdx?_cons→Cq,findIdx?_eq_some_iff_getElem→CN,flatten_cons→oV,foldl_cons→By,forIn_cons→sV,getD_eq_getElem?_getD→a_,getElem?_append_left→dj,getElem?_append_right→ic,getElem?_eq_getElem→cq,getElem?_eq_none→Ds,getElem?_map→ie,getElem?_replicate→sm,getElem?_reverse→LG,getElem?_set_ne→fX,getElem?_set_self→ku,getElem?_toArray→K_,getElem_mem→pK,getElem_toArray→wX,length→wj,length_append→dk,length_cons→ig,length_drop→jk,length_map→aH,length_nil→kC,length_replicate→kz,length_set→Bw,length_singleton→JU,length_take→h_,lookup→sX,lookup_cons→eK,map_append→ug,map_congr_left→pW,map_cons→aZ,map_drop→mV,map_map→bW,map_reverse→oD,map_take→oI,mem_append_left→kY,mem_append_right→cW,mem_cons→gQ,mem_cons_of_mem→aD,mem_cons_self→aI,mem_of_getElem?→xP,mem_of_mem_take→G_,nil_append→nX,nodup_iff_pairwise_ne→Gp,nodup_range→tI,not_mem_nil→gR,of_mem_zip→sj,pairwise_append→sZ,pairwise_cons→fG,pairwise_iff_getElem→s_,pairwise_map→ou,perm_append_comm→FW,range→aJ,range'→cZ,range'_succ→tD,range_eq_range'→Gu,replicate→aG,replicate_succ→gJ,reverse_cons→oB,size_toArray→aT,take_append_drop→ym,take_of_length_le→jS,take_sublist→sv,toArray→yy,zip_cons_cons→lh
open PySem.NameKind renaming cell→oh,free→cX
open Nat renaming le_add_left→yo,le_of_eq→sR,le_of_lt→iJ,le_refl→ak,le_succ→jT,le_trans→bE,lt_irrefl→bX,lt_of_lt_of_le→aM,ne_of_gt→lg,ne_of_lt→aN,sub_self→sJ,succ_le_succ→yb,zero_le→bF
open Ne renaming symm→bg
open PySem.Obj renaming data_mapFields→nY,isFreed_of_fields→xZ,mapFields→eS,mapSeq→aW
open Option renaming map_some→kX
open Or renaming inr→jJ
open PySem.PassesOwn renaming leaving→GW
open PySem.PyData renaming eqv→jM,eqvAll→me,int→j8,list→sO,strOk→aO
open PyProof.Rows renaming callWith_type1→iL,lt_int→xQ,lt_str→Gi,slot_tuple_getitem→sx,Keyed→ZO,SortSt→ZP
open PySem.SeqAt.EqAt renaming int_int→E6,int_str→EK,str_int→EL
open PySem.Str renaming ofString→jI
open Sum renaming inl→jG,inr→jH
open PySem.Txt renaming slice→jU
open PySem.Value renaming bool→iH,builtin→oa,int→kU,none→bC,notImplemented→xR,ref→cV,str→rZ,type→dw
open PySem renaming Addr→Zk,Around→Zl,FuncData→Zm,NameKind→Zn,Program→Zo,Shared→Zp,Value→Zq,World→Zr,behindInMarks→Zs,binaryOp→Zt,bootBuiltins→Zu,codeAny→Zv,compPost→Zw,compareOp→Zx,foldedSetIterable→Zy,isSubtype_type→Zz,mainGlobals→ZA,sizeLine→ZE,starEach→ZF,wpAny→ZG,wpAny_bind→ZH,wpAny_holding→ZI,wpAny_mono→ZJ,wpAny_newList→ZK,wpAny_newObj_type→ZL,wpAny_pure→ZM,wpAny_truthy_bool→ZN
noncomputable section
set_option Elab.async false
set_option linter.all false
set_option maxRecDepth 100000
namespace L2
open PySem PySem.Spec PyProof.Rows
abbrev Key:=Sum Int Str
def Hm:Key->Zq->Bool
 | .inl k,v=>Value.isInt k v
 | .inr x,v=>Value.isStrOf x v
def Q1(w:Zr):Key->Int
 | .inl k=>hashInt k
 | .inr x=>hashStr w x
theorem b_:∀{k:Key}{v:Zq},Hm k v=true->(∃i t,k=jG i/\v=kU i t)\/(∃x t,k=jH x/\v=rZ x t)
 | .inl i,v,h=>by
  obtain⟨t,e⟩:=Value.isInt_shape (k:=i) (v:=v) h
  exact .inl ⟨i,t,rfl,e⟩
 | .inr x,v,h=>by
  obtain⟨t,e⟩:=Value.isStrOf_shape (x:=x) (v:=v) h
  exact .inr ⟨x,t,rfl,e⟩
theorem IP(a b:Int):decide ((jG a:Key)=jG b)=(a == b):=by
 by_cases e:a=b
 ·subst e;simp
 ·have h:¬(jG a:Key)=jG b:=λq=>e (Sum.inl.inj q)
  rw[decide_eq_false h]
  exact(beq_eq_false_iff_ne.mpr e).symm
theorem IQ(a b:Str):decide ((jH a:Key)=jH b)=decide (a=b):=by
 by_cases e:a=b
 ·subst e;simp
 ·have h:¬(jH a:Key)=jH b:=λq=>e (Sum.inr.inj q)
  rw[decide_eq_false h,decide_eq_false e]
theorem IS(a:Int)(b:Str):decide ((jG a:Key)=jH b)=false:=decide_eq_false (λq=>nomatch q)
theorem IT(a:Str)(b:Int):decide ((jH a:Key)=jG b)=false:=decide_eq_false (λq=>nomatch q)
def r6(prog:Zo)(w:Zr):PySem.KeyKind prog w Key where
 is:=Hm
 hash:=Q1 w
 inj:=λv a b ha hb=>by
  rcases b_ ha with ⟨i,t,rfl,rfl⟩ | ⟨x,t,rfl,rfl⟩
  ·rcases b_ hb with ⟨j,u,rfl,e⟩ | ⟨y,u,rfl,e⟩
   ·injection e with e1 _;rw[e1]
   ·exact nomatch e
  ·rcases b_ hb with ⟨j,u,rfl,e⟩ | ⟨y,u,rfl,e⟩
   ·exact nomatch e
   ·injection e with e1 _;rw[e1]
 byValue:=λk v h=>by
  rcases b_ h with ⟨i,t,rfl,rfl⟩ | ⟨x,t,rfl,rfl⟩<;>rfl
 pyHash:=λhv h=>by
  rcases b_ hv with ⟨i,t,rfl,rfl⟩ | ⟨x,t,rfl,rfl⟩
  ·exact wpAny_pyHash_int h
  ·exact wpAny_pyHash_str h
 eqBool:=λhu hv h=>by
  rcases b_ hu with ⟨i,t,rfl,rfl⟩ | ⟨x,t,rfl,rfl⟩
  ·rcases b_ hv with ⟨j,u,rfl,rfl⟩ | ⟨y,u,rfl,rfl⟩
   ·rw[IP] at h;exact wpAny_eqBool_int h
   ·rw[IS] at h;exact EK i t y u _ _ _ _ h
  ·rcases b_ hv with ⟨j,u,rfl,rfl⟩ | ⟨y,u,rfl,rfl⟩
   ·rw[IT] at h;exact EL x t j u _ _ _ _ h
   ·rw[IQ] at h;exact wpAny_eqBool_str h
 «strs»:=λk x t v h=>by
  rcases b_ h with ⟨i,u,rfl,e⟩ | ⟨y,u,rfl,e⟩
  ·exact nomatch e
  ·injection e with e1 _
   subst e1
   cases v<;>rfl
inductive V where
 | aP | bl (b:Bool) | int (i:Int) | str (x:Str) | MS (b:Array UInt8) | P7 (b:UInt64) | ref (a:Zk) | ty (n:String)
 deriving DecidableEq
def RelV:V->Zq->Prop
 | .aP,u=>u=bC
 | .bl b,u=>u=iH b
 | .int i,u=>∃t,u=kU i t
 | .str x,u=>∃t,u=rZ x t
 | .MS b,u=>∃t,u=Value.bytes b t
 | .P7 b,u=>∃t,u=Value.float b t
 | .ref a,u=>u=cV a
 | .ty n,u=>u=dw n
abbrev Vals:List V->List Zq->Prop:=Paired RelV
theorem Vals.length{xs:List V}{us:List Zq}(r:Vals xs us):xs.length=us.length:=Paired.length r
theorem Vals.get:∀{xs:List V}{us:List Zq}{i:Nat}{x:V},Vals xs us->xs[i]? =some x->∃u,us[i]? =some u/\RelV x u
 | _,_,_,_,.nil,e=>by simp at e
 | _,_,0,_,.cons r _,e=>by simp at e;subst e;exact⟨_,rfl,r⟩
 | _,_,i+1,x,.cons _ t,e=>by
  obtain⟨u,h1,h2⟩:=Vals.get (i:=i) (x:=x) t (by simpa using e)
  exact⟨u,by simpa using h1,h2⟩
theorem Vals.set{x:V}{u:Zq}(r:RelV x u):∀{xs:List V}{us:List Zq}(i:Nat),Vals xs us->Vals (xs.set i x) (us.set i u)
 | _,_,_,.nil=> .nil
 | _,_,0,.cons _ t=> .cons r t
 | _,_,i+1,.cons q t=> .cons q (Vals.set r i t)
theorem Vals.append:∀{xs ys:List V}{us ws:List Zq},Vals xs us->Vals ys ws->Vals (xs++ys) (us++ws)
 | _,_,_,_,.nil,s=>s
 | _,_,_,_,.cons r t,s=> .cons r (Vals.append t s)
theorem Vals.take:∀{xs:List V}{us:List Zq}(n:Nat),Vals xs us->Vals (xs.take n) (us.take n)
 | _,_,0,_=> .nil
 | _,_,_+1,.nil=> .nil
 | _,_,n+1,.cons r t=> .cons r (Vals.take n t)
theorem Vals.drop:∀{xs:List V}{us:List Zq}(n:Nat),Vals xs us->Vals (xs.drop n) (us.drop n)
 | _,_,0,r=>r
 | _,_,_+1,.nil=> .nil
 | _,_,n+1,.cons _ t=>Vals.drop n t
def Nb:Option V->Option Zq->Prop
 | some v,some u=>RelV v u
 | none,none=>True
 | _,_=>False
def KV{κ:Type}:List (κ×V)->List (κ×Zq)->Prop:=Paired λ(p:κ×V)(q:κ×Zq)=>p.1=q.1/\RelV p.2 q.2
def kV:Key->V
 | .inl i=> .int i
 | .inr x=> .str x
inductive HO where
  | lst (xs:List V)
  | tup (xs:List V)
  | dK (kvs:List (Key×V)) | dT (kvs:List (List Key×V))
  | set (S:Int->Bool) (n:Nat)
  | ins (C dx:Zk) (fs:List (Str×V))
  | own (x:Zk)
  | xd (fs:List (Str×V))
  | met (f x:Zk)
  | P8 (lo hi:Int)
  | fu (o:Obj) (u:HO)
  | jf (ps:Array Zq)
  | ext (φ:Heap->Prop)
abbrev Hp:=Zk->Option HO
def upd(H:Hp)(a:Zk)(o:HO):Hp:=λb=>if b=a then some o else H b
theorem aL{H:Hp}{a:Zk}{o:HO}:upd H a o a=some o:=by unfold upd;rw[if_pos rfl]
theorem aw{H:Hp}{a b:Zk}{o:HO}(h:b≠a):upd H a o b=H b:=by unfold upd;rw[if_neg h]
theorem aY{H:Hp}{a b:Zk}{o:HO}(h:H a=some o)(h':H b=none):a≠b:=by
 intro e;subst e;rw[h] at h';cases h'
def v7(h:Heap)(a:Zk):Prop:=∀o,h.get? a=some o->o.dict=none
theorem v7.new(h:Heap)(us:Array Zq):v7 (h.push { cls:=.type "tuple",data:=.seq us }) h.objs.size:=λo q=>by
 rw[bY _ rfl] at q
 cases q
 rfl
section
variable (P:Zo) (w:Zr)
def dM(H:Hp)(h:Heap)(a:Zk):HO->Prop
 | .lst xs=>xs.length<=ZE/\∃(its:List Zq)(n:Nat),Vals xs its/\h.get? a=some { cls:=.type "list",data:=.seq its.toArray n }
 | .tup xs=>xs.length<=ZE/\∃its:List Zq,Vals xs its/\IsTup h a its.toArray/\v7 h a
 | .dK kvs=>kvs.length<=ZE/\(a == sysModules)=false/\∃vs,KV kvs vs/\h.DictOf (r6 P w) a vs
 | .dT kvs=>kvs.length<=ZE/\(a == sysModules)=false/\∃xs:List (List Key×Zk×Zq),
   Paired (λ(p:List Key×V)(q:List Key×Zk×Zq)=>p.1=q.1/\H q.2.1=some (.tup (p.1.map kV))/\RelV p.2 q.2.2) kvs xs/\
   ∃o es ep,h.get? a=some o/\o.ExactDict/\o.data= .dict es ep/\es.toList=xs.map (entryOfKey (tupleKind (r6 P w)))/\(xs.map (·.1)).Nodup
 | .set S n=>h.SetOf (intKind P w) a S n
 | .ins C dx fs=>H dx=some (.own a)/\fs.length<=1000/\dx≠a/\h.get? a=some (PySem.W.instObj C dx)/\
   ∃mA,h.Ns1 dx mA/\(∀f,Nb (fs.lookup f) (mA f))/\PySem.Within mA (fs.map (·.1))
 | .own _=>∃o,h.get? a=some o
 | .xd fs=>∃mA,h.Ns1 a mA/\∀f,Nb (fs.lookup f) (mA f)
 | .P8 lo hi=>∃t u v,h.get? a=some { cls:=.type "range",data:=.fields #[.int lo t,.int hi u,.int 1 v] }
 | .fu o u=>h.get? a=some o/\dM H h a u
 | .jf ps=>h.get? a=some { cls:=.none,data:=.fields ps }
 | .met f x=>h.get? a=some (PySem.W.methodObj (.ref f) (.ref x))
 | .ext φ=>φ h/\(∃o,h.get? a=some o)/\∀h1 h2:Heap,φ h1->(∀o,h1.get? a=some o->h2.get? a=some o)->φ h2
def j9(H:Hp)(h:Heap):Prop:=∀a o,H a=some o->dM P w H h a o
end
section
variable {P:Zo} {w:Zr} {H H':Hp} {h h':Heap} {a:Zk} {o:HO}
theorem dM.lt(x:dM P w H h a o):a < h.objs.size:=by
 cases o with
 | lst xs=>obtain⟨_,_,_,_,e⟩:=x;exact ax e
 | tup xs=>obtain⟨_,_,_,p,_⟩:=x;exact p.lt
 | dK kvs=>obtain⟨_,_,_,_,o,_,_,e,_⟩:=x;exact ax e
 | dT kvs=>obtain⟨_,_,_,_,o,_,_,e,_⟩:=x;exact ax e
 | set S n=>obtain⟨o,_,_,_,e,_⟩:=x;exact ax e
 | ins C dx fs=>obtain⟨_,_,_,e,_⟩:=x;exact ax e
 | own y=>obtain⟨_,e⟩:=x;exact ax e
 | xd fs=>obtain⟨_,⟨_,_,_,e,_⟩,_⟩:=x;exact ax e
 | P8 lo hi=>obtain⟨_,_,_,e⟩:=x;exact ax e
 | fu ob u=>obtain⟨e,_⟩:=x;exact ax e
 | jf ps=>exact ax (show h.get? a=some _ from x)
 | met f y=>exact ax (show h.get? a=some _ from x)
 | ext φ=>obtain⟨_,⟨_,e⟩,_⟩:=x;exact ax e
theorem Paired.Nc{α β:Type}{F G:α->β->Prop}:∀{l₁:List α}{l₂:List β},Paired F l₁ l₂->(∀a b,F a b->G a b)->Paired G l₁ l₂
 | _,_,.nil,_=> .nil
 | _,_,.cons r t,f=> .cons (f _ _ r) (Paired.Nc t f)
theorem dM.stay(x:dM P w H h a o)(k:∀b u,(b=a\/H b=some (.own a))->h.get? b=some u->h'.get? b=some u)
  (ho:∀b,H b=some (.own a)->H' b=some (.own a))(ht:∀b xs,H b=some (.tup xs)->H' b=some (.tup xs)):dM P w H' h' a o:=by
 induction o with
 | lst xs=>obtain⟨z,its,n,r,e⟩:=x;exact⟨z,its,n,r,k _ _ (.inl rfl) e⟩
 | tup xs=>obtain⟨z,us,r,⟨ob,e,c⟩,nd⟩:=x;exact⟨z,us,r,⟨ob,k _ _ (.inl rfl) e,c⟩,λo q=>by rw[k _ _ (.inl rfl) e] at q;cases q;exact nd _ e⟩
 | dK kvs=>obtain⟨z,y,vs,r,ob,es,ep,e,c⟩:=x;exact⟨z,y,vs,r,ob,es,ep,k _ _ (.inl rfl) e,c⟩
 | dT kvs=>
  obtain⟨z,y,xs,r,ob,es,ep,e,c⟩:=x
  exact⟨z,y,xs,Paired.Nc r λp q z=>⟨z.1,ht _ _ z.2.1,z.2.2⟩,ob,es,ep,k _ _ (.inl rfl) e,c⟩
 | set S n=>obtain⟨ob,es,ep,t,e,c⟩:=x;exact⟨ob,es,ep,t,k _ _ (.inl rfl) e,c⟩
 | ins C dx fs=>
  obtain⟨d,z,ne,e,mA,⟨od,es,ep,e2,c⟩,r⟩:=x
  exact⟨ho _ d,z,ne,k _ _ (.inl rfl) e,mA,⟨od,es,ep,k _ _ (.inr d) e2,c⟩,r⟩
 | own y=>obtain⟨ob,e⟩:=x;exact⟨ob,k _ _ (.inl rfl) e⟩
 | xd fs=>obtain⟨mA,⟨od,es,ep,e,c⟩,r⟩:=x;exact⟨mA,⟨od,es,ep,k _ _ (.inl rfl) e,c⟩,r⟩
 | P8 lo hi=>obtain⟨t,u,v,e⟩:=x;exact⟨t,u,v,k _ _ (.inl rfl) e⟩
 | fu ob u ih=>obtain⟨e,q⟩:=x;exact⟨k _ _ (.inl rfl) e,ih q⟩
 | jf ps=>
  have e:h.get? a=some { cls:=.none,data:=.fields ps }:=x
  show h'.get? a=some { cls:=.none,data:=.fields ps }
  exact k a _ (.inl rfl) e
 | met f y=>
  have e:h.get? a=some (PySem.W.methodObj (.ref f) (.ref y)):=x
  show h'.get? a=some (PySem.W.methodObj (.ref f) (.ref y))
  exact k a _ (.inl rfl) e
 | ext φ=>obtain⟨p,⟨o,e⟩,st⟩:=x;exact⟨st _ _ p λo q=>k _ _ (.inl rfl) q,⟨o,k _ _ (.inl rfl) e⟩,st⟩
theorem j9.lt(x:j9 P w H h)(e:H a=some o):a < h.objs.size:=(x a o e).lt
theorem j9.fresh(x:j9 P w H h)(e:h.objs.size<=a):H a=none:=by
 cases q:H a with
 | none=>rfl
 | some u=>exact absurd (aM (x.lt q) e) (bX _)
theorem j9.kept(x:j9 P w H h)(k:∀b u,h.get? b=some u->h'.get? b=some u):j9 P w H h':=λa o e=>
 (x a o e).stay (λb u _ q=>k b u q) (λ_ q=>q) λ_ _ q=>q
theorem j9.laid(x:j9 P w H h)(k:∀b u,h.get? b=some u->h'.get? b=some u)(hp:h.objs.size<=a)(new:dM P w (upd H a o) h' a o):j9 P w (upd H a o) h':=λb u e=>by
 have hn:=x.fresh hp
 by_cases hb:b=a
 ·subst hb;rw[aL] at e;cases e;exact new
 ·rw[aw hb] at e
  exact(x b u e).stay (λc v _ q=>k c v q) (λc q=>by rw[aw (aY q hn)];exact q) λc xs q=>by rw[aw (aY q hn)];exact q
end
def Rd(H:Hp)(a:Zk)(u:HO):Prop:=H a=some u\/∃o,H a=some (.fu o u)
theorem Rd.ok{P:Zo}{w:Zr}{H:Hp}{h:Heap}{a:Zk}{u:HO}(r:Rd H a u)(x:j9 P w H h):dM P w H h a u:=by
 rcases r with r | ⟨o,r⟩
 ·exact x a u r
 ·obtain⟨_,q⟩:=x a _ r
  exact q
def P9:Option HO->Prop
 | some (.lst _)=>True
 | some (.dK _)=>True
 | some (.dT _)=>True
 | some (.set _ _)=>True
 | some (.ins _ _ _)=>True
 | some (.ext _)=>True
 | _=>False
section
variable {P:Zo} {w:Zr} {H:Hp} {h h':Heap} {x e:Zk} {o':HO}
theorem j9.write(ok:j9 P w H h)(mu:P9 (H x))(he:e=x\/H e=some (.own x))(k:∀b u,b≠e->h.get? b=some u->h'.get? b=some u)(MT:∃u,h'.get? e=some u)
  (new:dM P w (upd H x o') h' x o'):j9 P w (upd H x o') h':=λb u q=>by
 have Nd:∀c y,H c=some (.own y)->c≠x:=λc y r z=>by subst z;rw[r] at mu;exact mu
 have Q2:∀c xs,H c=some (.tup xs)->c≠x:=λc xs r z=>by subst z;rw[r] at mu;exact mu
 by_cases hb:b=x
 ·subst hb;rw[aL] at q;cases q;exact new
 ·rw[aw hb] at q
  by_cases IU:b=e
  ·have q':H b=some (.own x):=by
    rcases he with z | z
    ·exact absurd (IU.trans z) hb
    ·rw[IU];exact z
   rw[q] at q';cases q'
   obtain⟨v,hv⟩:=MT
   exact⟨v,by rw[IU];exact hv⟩
  ·refine(ok b u q).stay (λc v hc r=>k c v ?_ r) (λc r=>by rw[aw (Nd c b r)];exact r) λc xs r=>by rw[aw (Q2 c xs r)];exact r
   rcases hc with rfl | hc
   ·exact IU
   ·rintro rfl
    rcases he with z | z
    ·exact Nd c b hc z
    ·rw[hc] at z;cases z;exact hb rfl
end
structure Un(fs ex:List Zk)(H H':Hp)(h h':Heap):Prop where
 keep:∀b o,h.get? b=some o->H b=none->b∉fs->b∉ex->h'.get? b=some o
 slot:∀b o,h.get? b=some o->H b=none->b∈fs->b∉ex->∃sl,h'.get? b=some { o with slots:=sl }
 free:∀b o,h.get? b=some o->H b=none->b∉ex->H' b=none
 there:∀b o,h.get? b=some o->b∉ex->∃o',h'.get? b=some o'
 tups:∀b xs,H b=some (.tup xs)->H' b=some (.tup xs)
 iI:∀b o u,H b=some (.fu o u)->H' b=some (.fu o u)
 ja:∀b ps,H b=some (.jf ps)->∃more,H' b=some (.jf (ps++more))
section
variable {fs fs' ex ex':List Zk} {H H1 H2:Hp} {h h1 h2 h':Heap} {a x e:Zk} {o:HO}
theorem Un.any(u:Un fs ex H H1 h h1){b:Zk}{ob:Obj}(q:h.get? b=some ob)(n:H b=none)(hx:b∉ex):∃sl,h1.get? b=some { ob with slots:=sl }:=by
 by_cases hb:b∈fs
 ·exact u.slot b ob q n hb hx
 ·exact⟨ob.slots,u.keep b ob q n hb hx⟩
theorem Un.kept(k:∀b u,h.get? b=some u->h'.get? b=some u):Un fs ex H H h h' :=
 ⟨λb ob q _ _ _=>k b ob q,λb ob q _ _ _=>⟨ob.slots,k b ob q⟩,λ_ _ _ n _=>n,λb ob q _=>⟨ob,k b ob q⟩,λ_ _ q=>q,λ_ _ _ q=>q,λ_ ps q=>⟨#[],by rw[q];simp⟩⟩
theorem Un.refl:Un fs ex H H h h:=Un.kept λ_ _ q=>q
theorem Un.laid(k:∀b u,h.get? b=some u->h'.get? b=some u)(hp:h.objs.size<=a)(hn:H a=none):Un fs ex H (upd H a o) h h' where
 keep:=λb u q _ _ _=>k b u q
 slot:=λb u q _ _ _=>⟨u.slots,k b u q⟩
 free:=λb u q n _=>by rw[aw (aN (aM (ax q) hp))];exact n
 there:=λb u q _=>⟨u,k b u q⟩
 tups:=λb xs q=>by rw[aw (aY q hn)];exact q
 iI:=λb u xs q=>by rw[aw (aY q hn)];exact q
 ja:=λb ps q=>⟨#[],by rw[aw (aY q hn),q];simp⟩
theorem Un.write(mu:P9 (H x))(he:e=x\/H e=some (.own x))(k:∀b u,b≠e->h.get? b=some u->h'.get? b=some u)(MT:∃u,h'.get? e=some u):Un fs ex H (upd H x o) h h':=by
 have hx:∀b,H b=none->b≠x:=λb n z=>by subst z;rw[n] at mu;exact mu
 have hb:∀b,H b=none->b≠e:=λb n z=>by
  subst z
  rcases he with r | r
  ·exact hx b n r
  ·rw[n] at r;cases r
 have hm:∀b u,H b=some u->¬P9 (some u)->b≠x:=λb u q nm z=>by subst z;rw[q] at mu;exact nm mu
 refine⟨λb u q n _ _=>k b u (hb b n) q,λb u q n _ _=>⟨u.slots,k b u (hb b n) q⟩,λb u q n _=>by rw[aw (hx b n)];exact n,λb u q _=>?_,
  λb xs q=>by rw[aw (hm b _ q λz=>z)];exact q,λb u xs q=>by rw[aw (hm b _ q λz=>z)];exact q,λb ps q=>⟨#[],by rw[aw (hm b _ q λz=>z),q];simp⟩⟩
 by_cases IU:b=e
 ·subst IU;exact MT
 ·exact⟨u,k b u IU q⟩
end
def P_(h:Heap)(H:Hp):List Zk:=(aJ h.objs.size).filter λa=>(H a).isSome
def qx(h:Heap)(H:Hp):Heap:=PySem.W.hideAll h (P_ h H)
theorem qT(h:Heap)(H:Hp):(qx h H).objs.size=h.objs.size:=PySem.W.hideAll_size _ _
theorem kW{h:Heap}{H:Hp}{b:Zk}{o:Obj}(e:h.get? b=some o)(n:H b=none):(qx h H).get? b=some o :=
 PySem.W.hideAll_get _ e λhm=>by
  have q:(H b).isSome=true:=(List.mem_filter.mp hm).2
  rw[n] at q;simp at q
theorem xN{h:Heap}{H:Hp}{b:Zk}{o:Obj}(e:(qx h H).get? b=some o):h.get? b=some o/\H b=none:=by
 have e':h.get? b=some o:=PySem.W.of_hideAll (P_ h H) e
 refine⟨e',?_⟩
 cases q:H b with
 | none=>rfl
 | some x=>
  have hm:b∈P_ h H:=List.mem_filter.mpr ⟨List.mem_range.mpr (ax e'),by simp[q]⟩
  have z:(qx h H).get? b=none:=PySem.W.hideAll_none (P_ h H) hm
  rw[z] at e;cases e
def r9(g h:Heap)(L:Zk):List (Zk×Obj):=(aJ h.objs.size).filterMap λa=>if a=L\/(g.get? a).isSome=true then none else(h.get? a).map λo=>(a,o)
theorem jg{g h:Heap}{L a:Zk}{o:Obj}(h1:a≠L)(h2:g.get? a=none)(h3:h.get? a=some o):(a,o)∈r9 g h L :=
 List.mem_filterMap.mpr ⟨a,List.mem_range.mpr (ax h3),by simp[h1,h2,h3]⟩
theorem oJ{g h:Heap}{L:Zk}{p:Zk×Obj}(hp:p∈r9 g h L):p.1≠L/\g.get? p.1=none/\h.get? p.1=some p.2:=by
 obtain⟨b,_,e⟩:=List.mem_filterMap.mp hp
 split at e
 ·cases e
 ·rename_i hn
  cases q:h.get? b with
  | none=>rw[q] at e;simp at e
  | some u=>
   rw[q] at e
   simp only[kX,Option.some.injEq] at e
   subst e
   refine⟨λz=>hn (.inl z),?_,q⟩
   show g.get? b=none
   cases r:g.get? b with
   | none=>rfl
   | some v=>exact(hn (.inr (by simp[r]))).elim
theorem Be{g h:Heap}{L:Zk}:News g L h (r9 g h L):=λp hp=>let ⟨a,b,c⟩:=oJ hp;⟨c,a,b⟩
structure Mod(K:PySem.W.Frag)(mg:Str->Option Zq)(base:Heap):Prop where
 EM:K.In base
 glob:base.Ns ZA mg
 blt:∃mb,base.Ns builtinsNs mb/\∀x:Str,x≠"__name__"->mb x=Zu x
 nolimit:base.NoLimit
structure Cx where
 prog:Zo
 w:Zr
 K:PySem.W.Frag
 mg:Str->Option Zq
 base:Heap
 A:Zl
 N:List Str
 s₀:Zp
 H₀:Hp
 env:Env
 outer:List Env
 stack:List Env
 ex:List Zk
 fn:Str->Bool
 calm:Bool
 pn:List (Zk×Obj)
 xe:Zq->Zp->Prop
def frs(l:List Env):List Zk:=l.filterMap (·.frame)
abbrev Cx.fs(X:Cx):List Zk:=frs X.outer
def Qa(sc:Scope)(x:Str):Prop:=sc.names.lookup x=some .local\/sc.names.lookup x=some .cell\/sc.names.lookup x=some .free
def Loc(sc:Scope)(x:Str):Prop:=sc.names.lookup x=some .local\/sc.names.lookup x=some .cell
def Look(env:Env)(h:Heap)(m:Str->Option Zq)(x:Str)(u:Zq):Prop :=
 (env.kindOf x=some .local/\m x=some u)\/((env.kindOf x=some .cell\/env.kindOf x=some .free)/\∃c,env.cells.lookup x=some c/\h.IsCell c (some u))
structure Cx.Ok(X:Cx):Prop where
 mod:Mod X.K X.mg X.base
 kind:X.env.scope.kind= .function
 glob:X.env.globals=ZA
 blt:X.env.builtins=builtinsNs
 above:X.s₀.heap.objs.size<=X.env.locals
 inj:∀x y c,X.env.cells.lookup x=some c->X.env.cells.lookup y=some c->x=y
 has:∀x,(X.env.kindOf x=some .cell\/X.env.kindOf x=some .free)->∃c,X.env.cells.lookup x=some c
 IV:∀x c,X.fn x=true->X.env.cells.lookup x=some c->X.s₀.heap.objs.size<=c
 hd:X.calm=true->X.A.handled=none
 frames:X.A.frames=some X.stack
 stk:X.stack=X.outer\/(X.stack=X.env::X.outer/\X.env.frame=some X.env.locals)
 Q3:∀b∈X.ex,b≠X.env.locals/\∀x c,X.env.cells.lookup x=some c->c≠b
 bs:∀b o,X.base.get? b=some o->X.s₀.heap.get? b=some o/\X.H₀ b=none
 A6:X.base.objs.size<=X.s₀.heap.objs.size
 zr:∀b o,X.base.get? b=some o->b∉X.ex
 Bf:∀b∈X.ex,b∉X.fs
 jh:X.s₀.heap.FunFrames X.base X.outer
 EA:∀b∈X.fs,X.H₀ b=none
structure Inv(X:Cx)(pins:List (Zk×Obj))(σ:List (Option V))(H:Hp)(s:Zp):Prop where
 ok:X.Ok
 os:s.os=X.s₀.os
 bare:AllBare s.gens
 base:Un X.fs X.ex X.H₀ H X.s₀.heap s.heap
 loc:∃m,s.heap.Ns X.env.locals m/\∀(i:Nat)(x:Str)(v:V),X.N[i]? =some x->σ[i]? =some (some v)->Qa X.env.scope x->∃u,RelV v u/\Look X.env s.heap m x u
 cell:∀x c,X.env.cells.lookup x=some c->∃v,s.heap.IsCell c v
 free:H X.env.locals=none
 fW:∀x c,X.env.cells.lookup x=some c->H c=none
 pin:∀p∈X.pn++pins,s.heap.get? p.1=some p.2/\H p.1=none/\p.1≠X.env.locals/\p.1∉X.fs/\∀v,p.2.data≠.cell v
 hok:j9 X.prog X.w H s.heap
 len:σ.length=X.N.length
section
variable {X:Cx} {pins:List (Zk×Obj)} {σ:List (Option V)} {H H':Hp} {s:Zp} {h':Heap}
theorem Cx.Ok.Nf(ok:X.Ok){b:Zk}{o:Obj}(e:X.base.get? b=some o):b∉X.fs:=λhb=>by
 have:=(ok.jh.mem hb).1
 rw[e] at this;cases this
theorem Inv.bs(I:Inv X pins σ H s):∀b o,X.base.get? b=some o->s.heap.get? b=some o/\H b=none:=λb o e=>
 ⟨I.base.keep b o (I.ok.bs b o e).1 (I.ok.bs b o e).2 (I.ok.Nf e) (I.ok.zr b o e),I.base.free b o (I.ok.bs b o e).1 (I.ok.bs b o e).2 (I.ok.zr b o e)⟩
theorem Inv.bk(I:Inv X pins σ H s):∀b o,X.base.get? b=some o->s.heap.get? b=some o:=λb o e=>(I.bs b o e).1
theorem Inv.mod(I:Inv X pins σ H s):Mod X.K X.mg X.base:=I.ok.mod
theorem Inv.zt(I:Inv X pins σ H s):X.K.In s.heap:=I.ok.mod.EM.keeps I.bk
theorem Inv.lt(I:Inv X pins σ H s):X.env.locals < s.heap.objs.size:=let ⟨_,hn,_⟩:=I.loc;hn.lt
theorem Inv.sz(I:Inv X pins σ H s):X.s₀.heap.objs.size<=s.heap.objs.size:=bE I.ok.above (iJ I.lt)
theorem Inv.Ng(I:Inv X pins σ H s){a:Zk}(h:s.heap.objs.size<=a):a∉X.fs:=λhb=>by
 obtain⟨_,o,ho,_⟩:=I.ok.jh.mem hb
 exact absurd (aM (ax ho) (bE I.sz h)) (bX _)
theorem Inv.EB(I:Inv X pins σ H s):∀x c,X.env.cells.lookup x=some c->c≠X.env.locals:=λx c e z=>by
 obtain⟨v,o,ho,hd⟩:=I.cell x c e
 obtain⟨m,⟨o',es,ep,ho',hd',_⟩,_⟩:=I.loc
 rw[z,ho'] at ho;cases ho;rw[hd'] at hd;cases hd
theorem Inv.jh(I:Inv X pins σ H s):s.heap.FunFrames X.base X.outer:=by
 have all:∀(l:List Env),(∀b∈frs l,b∈X.fs)->X.s₀.heap.FunFrames X.base l->s.heap.FunFrames X.base l:=by
  intro l
  induction l with
  | nil=>intro _ _;trivial
  | cons env r ih=>
   intro hs hl
   obtain⟨hk,⟨L,o,hf,hn,ho,hd⟩,hr⟩:=hl
   have hL:L∈X.fs:=hs L (by unfold frs;rw[r_,hf];exact aI)
   obtain⟨sl,e⟩:=I.base.slot L o ho (I.ok.EA L hL) hL λz=>I.ok.Bf L z hL
   exact⟨hk,⟨L,_,hf,hn,e,hd⟩,ih (λb hb=>hs b (by unfold frs;rw[r_,hf];exact aD _ hb)) hr⟩
 exact all X.outer (λ_ hb=>hb) I.ok.jh
theorem Inv.stack(I:Inv X pins σ H s):s.heap.FunFrames X.base X.stack:=by
 rcases I.ok.stk with e | ⟨e,hf⟩
 ·rw[e];exact I.jh
 ·rw[e]
  obtain⟨m,hn,_⟩:=I.loc
  refine .cons (by rw[I.ok.kind];decide) hf hn ?_ I.jh
  exact v9 (bE I.ok.A6 I.ok.above)
theorem Inv.hV(I:Inv X pins σ H s):∀b∈frs X.stack,b∈X.env.locals::X.fs:=λb hb=>by
 rcases I.ok.stk with e | ⟨e,hf⟩
 ·rw[e] at hb;exact aD _ hb
 ·rw[e] at hb
  unfold frs at hb
  rw[r_,hf] at hb
  exact hb
theorem Inv.gH(I:Inv X pins σ H s):∀b∈frs X.stack,H b=none:=λb hb=>by
 rcases List.mem_cons.mp (I.hV b hb) with e | hb
 ·rw[e];exact I.free
 ·obtain⟨_,o,ho,_⟩:=I.ok.jh.mem hb
  exact I.base.free b o ho (I.ok.EA b hb) λz=>I.ok.Bf b z hb
theorem Inv.step{g':Array GenState}{t':Nat}{d':Drawn}{ch:List Zk}(I:Inv X pins σ H s)
  (hch:∀b∈ch,(b∈X.ex\/X.s₀.heap.objs.size<=b)/\b≠X.env.locals/\(∀x c,X.env.cells.lookup x=some c->c≠b)/\∀p∈X.pn++pins,p.1≠b)
  (keep:∀b o,b≠X.env.locals->b∉X.fs->b∉ch->s.heap.get? b=some o->H b=none->h'.get? b=some o)
  (slot:∀b o,b≠X.env.locals->b∈X.fs->b∉ch->s.heap.get? b=some o->H b=none->∃sl,h'.get? b=some { o with slots:=sl })(free:∀b o,b∉ch->s.heap.get? b=some o->H b=none->H' b=none)
  (there:∀b o,b∉ch->s.heap.get? b=some o->∃o',h'.get? b=some o')
  (tups:∀b xs,H b=some (.tup xs)->H' b=some (.tup xs))(iI:∀b o u,H b=some (.fu o u)->H' b=some (.fu o u))(ja:∀b ps,H b=some (.jf ps)->∃more,H' b=some (.jf (ps++more)))
  (ns:∀m,s.heap.Ns X.env.locals m->h'.Ns X.env.locals m)(hok:j9 X.prog X.w H' h')(hg:AllBare g') :
  Inv X pins σ H' { s with heap:=h',gens:=g',drawn:=d',toks:=t' }:=by
 have Nh:∀b o,X.s₀.heap.get? b=some o->b≠X.env.locals:=λb o e=>aN (aM (ax e) I.ok.above)
 have Qb:∀b o,X.s₀.heap.get? b=some o->b∉X.ex->b∉ch:=λb o e hx hb=>by
  rcases(hch b hb).1 with z | z
  ·exact hx z
  ·exact absurd (aM (ax e) z) (bX _)
 have cellK:∀x c,X.env.cells.lookup x=some c->∀v,s.heap.IsCell c v->h'.IsCell c v:=λx c e v ⟨o,ho,hd⟩=>by
  have EN:c∉ch:=λz=>(hch c z).2.2.1 x c e rfl
  by_cases hc:c∈X.fs
  ·obtain⟨sl,q⟩:=slot c o (I.EB x c e) hc EN ho (I.fW x c e)
   exact⟨_,q,hd⟩
  ·exact⟨o,keep c o (I.EB x c e) hc EN ho (I.fW x c e),hd⟩
 refine⟨I.ok,I.os,hg,⟨λb o e n hb hx=>?_,λb o e n hb hx=>?_,λb o e n hx=>?_,λb o e hx=>?_,λb xs e=>tups b xs (I.base.tups b xs e),λb o xs e=>iI b o xs (I.base.iI b o xs e),λb ps e=>?_⟩,?_,λx c e=>?_,?_,λx c e=>?_,λp hp=>?_,hok,I.len⟩
 ·exact keep b o (Nh b o e) hb (Qb b o e hx) (I.base.keep b o e n hb hx) (I.base.free b o e n hx)
 ·obtain⟨sl,e1⟩:=I.base.slot b o e n hb hx
  obtain⟨Wa,e2⟩:=slot b _ (Nh b o e) hb (Qb b o e hx) e1 (I.base.free b o e n hx)
  exact⟨Wa,e2⟩
 ·obtain⟨o',e1⟩:=I.base.there b o e hx
  exact free b o' (Qb b o e hx) e1 (I.base.free b o e n hx)
 ·obtain⟨o',e1⟩:=I.base.there b o e hx
  exact there b o' (Qb b o e hx) e1
 ·obtain⟨m1,e1⟩:=I.base.ja b ps e
  obtain⟨m2,e2⟩:=ja b _ e1
  exact⟨m1++m2,by rw[e2,Array.append_assoc]⟩
 ·obtain⟨m,hn,hl⟩:=I.loc
  refine⟨m,ns m hn,λi x v e1 e2 e3=>?_⟩
  obtain⟨u,r,l⟩:=hl i x v e1 e2 e3
  refine⟨u,r,?_⟩
  rcases l with l | ⟨k,c,e,z⟩
  ·exact .inl l
  ·exact .inr ⟨k,c,e,cellK x c e _ z⟩
 ·obtain⟨v,z⟩:=I.cell x c e
  exact⟨v,cellK x c e v z⟩
 ·obtain⟨m,⟨o,_,_,ho,_⟩,_⟩:=I.loc
  exact free _ o (λz=>(hch _ z).2.1 rfl) ho I.free
 ·obtain⟨v,o,ho,hd⟩:=I.cell x c e
  exact free c o (λz=>(hch c z).2.2.1 x c e rfl) ho (I.fW x c e)
 ·obtain⟨e,n,ne,nf,d⟩:=I.pin p hp
  have EN:p.1∉ch:=λz=>(hch p.1 z).2.2.2 p hp rfl
  exact⟨keep p.1 p.2 ne nf EN e n,free p.1 p.2 EN e n,ne,nf,d⟩
theorem Inv.un{t':Nat}(I:Inv X pins σ H s)(u:Un X.fs [] H H' s.heap h')(hok:j9 X.prog X.w H' h'):Inv X pins σ H' { s with heap:=h',toks:=t' }:=by
 obtain⟨m,⟨o,es,ep,ho,r⟩,_⟩:=id I.loc
 obtain⟨sl,hL⟩:=u.any ho I.free (by simp)
 exact I.step (g':=s.gens) (d':=s.drawn) (ch:=[]) (λ_ z=>nomatch z) (λb o _ hb _ e n=>u.keep b o e n hb (by simp)) (λb o _ hb _ e n=>u.slot b o e n hb (by simp)) (λb o _ e n=>u.free b o e n (by simp)) (λb o _ e=>u.there b o e (by simp)) u.tups u.iI u.ja (λm' hm=>by
  obtain⟨o',es',Qd,ho',r'⟩:=hm
  rw[ho] at ho';cases ho'
  exact⟨_,es',Qd,hL,r'⟩) hok I.bare
theorem Inv.call{g':Array GenState}{t':Nat}{d':Drawn}{ch:List Zk}(I:Inv X pins σ H s)(u:Un (frs X.stack) ch H H' s.heap h')(hok:j9 X.prog X.w H' h')(hg:AllBare g')
  (hch:∀b∈ch,(b∈X.ex\/X.s₀.heap.objs.size<=b)/\b≠X.env.locals/\(∀x c,X.env.cells.lookup x=some c->c≠b)/\∀p∈X.pn++pins,p.1≠b) :
  Inv X pins σ H' { s with heap:=h',gens:=g',drawn:=d',toks:=t' }:=by
 obtain⟨m,⟨o,es,ep,ho,r⟩,_⟩:=id I.loc
 obtain⟨sl,hL⟩:=u.any ho I.free λz=>(hch _ z).2.1 rfl
 exact I.step (ch:=ch) hch (λb o hL hb hc e n=>u.keep b o e n (λz=>(List.mem_cons.mp (I.hV b z)).elim hL hb) hc) (λb o _ _ hc e n=>u.any e n hc) (λb o hc e n=>u.free b o e n hc) (λb o hc e=>u.there b o e hc) u.tups u.iI u.ja (λm' hm=>by
  obtain⟨o',es',Qd,ho',r'⟩:=hm
  rw[ho] at ho';cases ho'
  exact⟨_,es',Qd,hL,r'⟩) hok hg
theorem Inv.turned{t':Nat}{it:Zk}(I:Inv X pins σ H s)(k:∀b o,b≠it->s.heap.get? b=some o->h'.get? b=some o)(hn:H it=none)(hL:it≠X.env.locals)
  (h1:it∈X.ex\/X.s₀.heap.objs.size<=it)(h2:∀x c,X.env.cells.lookup x=some c->c≠it)(h3:∀p∈X.pn++pins,p.1≠it):Inv X pins σ H { s with heap:=h',toks:=t' }:=by
 have UI:∀b u,H b=some u->b≠it:=λb u e z=>by rw[z,hn] at e;cases e
 refine I.step (g':=s.gens) (d':=s.drawn) (ch:=[it]) (λb hb=>?_) (λb o _ _ hc e _=>k b o (λz=>hc (by simp[z])) e) (λb o _ _ hc e _=>⟨o.slots,k b o (λz=>hc (by simp[z])) e⟩) (λ_ _ _ _ n=>n)
  (λb o hc e=>⟨o,k b o (λz=>hc (by simp[z])) e⟩) (λ_ _ e=>e) (λ_ _ _ e=>e) (λb ps e=>⟨#[],by rw[e];simp⟩) (λm hm=>?_) (λb u e=>?_) I.bare
 ·have e:b=it:=by simpa using hb
  subst e
  exact⟨h1,hL,h2,h3⟩
 ·obtain⟨o,es,ep,ho,r⟩:=hm
  exact⟨o,es,ep,k _ o (bg hL) ho,r⟩
 ·refine(I.hok b u e).stay (λc v hc q=>k c v ?_ q) (λ_ q=>q) λ_ _ q=>q
  rcases hc with z | z
  ·rw[z];exact UI b u e
  ·exact UI c _ z
theorem Inv.tok(I:Inv X pins σ H s)(t:Nat):Inv X pins σ H { s with toks:=t }:=I.un (h':=s.heap) (t':=t) Un.refl I.hok
theorem Inv.kept{t':Nat}(I:Inv X pins σ H s)(k:∀b u,s.heap.get? b=some u->h'.get? b=some u):Inv X pins σ H { s with heap:=h',toks:=t' }:=I.un (Un.kept k) (I.hok.kept k)
theorem Inv.laid{a:Zk}{o:HO}{t':Nat}(I:Inv X pins σ H s)(k:∀b u,s.heap.get? b=some u->h'.get? b=some u)(hp:s.heap.objs.size<=a)(new:dM X.prog X.w (upd H a o) h' a o) :
  Inv X pins σ (upd H a o) { s with heap:=h',toks:=t' }:=I.un (Un.laid k hp (I.hok.fresh hp)) (I.hok.laid k hp new)
theorem Inv.write{x e:Zk}{o:HO}{t':Nat}(I:Inv X pins σ H s)(mu:P9 (H x))(he:e=x\/H e=some (.own x))(k:∀b u,b≠e->s.heap.get? b=some u->h'.get? b=some u)(MT:∃u,h'.get? e=some u)
  (new:dM X.prog X.w (upd H x o) h' x o):Inv X pins σ (upd H x o) { s with heap:=h',toks:=t' }:=I.un (Un.write mu he k MT) (I.hok.write mu he k MT new)
theorem Inv.xO{gI:List (Zk×Obj)}(I:Inv X pins σ H s)(h:∀p∈gI,s.heap.get? p.1=some p.2/\H p.1=none/\p.1≠X.env.locals/\p.1∉X.fs/\∀v,p.2.data≠.cell v):Inv X gI σ H s :=
 ⟨I.ok,I.os,I.bare,I.base,I.loc,I.cell,I.free,I.fW,λp hp=>(List.mem_append.mp hp).elim (λz=>I.pin p (kY _ z)) (h p),I.hok,I.len⟩
theorem oK{N:List Str}(hN:N.Nodup){i j:Nat}{x:Str}(a:N[i]? =some x)(b:N[j]? =some x):i=j:=by
 obtain⟨h1,e1⟩:=List.getElem?_eq_some_iff.mp a
 obtain⟨h2,e2⟩:=List.getElem?_eq_some_iff.mp b
 exact(List.getElem_inj hN).mp (e1.trans e2.symm)
theorem mf{M:Model}{A:Zl}{E:Zq->Zp->Prop}{i:Nat}{x:Str}{v:V}{u:Zq}{Q:Unit->Zp->Prop}(I:Inv X pins σ H s)(hN:X.N.Nodup)(hi:X.N[i]? =some x)(hx:Loc X.env.scope x)(r:RelV v u)
  (h:∀s',Inv X pins (σ.set i (some v)) H s'->(∃a,oM a s.heap s'.heap/\(a=X.env.locals\/X.env.cells.lookup x=some a))->Q () s')(hf:X.fn x=true\/X.env.scope.names.lookup x=some .local:=by first | exact .inl rfl | exact .inr rfl | assumption):ZG M A (storeName X.env x u) Q E s:=by
 obtain⟨m,hn,hl⟩:=id I.loc
 have hcls:(X.env.scope.kind == .class||(X.env.scope.kind == .module&&X.env.locals != X.env.globals))=false:=by rw[I.ok.kind];rfl
 have Ni:i < σ.length:=by rw[I.len];exact(List.getElem?_eq_some_iff.mp hi).1
 have EB:=I.EB
 have tracked:∀{a:Zk}{h':Heap},(∃o,s.heap.get? a=some o/\H a=none)->oM a s.heap h'->j9 X.prog X.w H h':=λ{a h'} ha hs b ob e=>by
  obtain⟨_,_,hfree⟩:=ha
  refine(I.hok b ob e).stay (λc w' hc q=>(hs.2 c ?_).trans q) (λ_ q=>q) λ_ _ q=>q
  rintro rfl
  rcases hc with rfl | hc
  ·rw[hfree] at e;cases e
  ·rw[hfree] at hc;cases hc
 rcases hx with hk | hk
 ·refine wpAny_storeName_local hk hn (λh' hn' hs=>?_) hcls
  obtain⟨oL,_,_,UJ,_⟩:=id hn
  refine h _ ⟨I.ok,I.os,I.bare,⟨λb o e n hb hx=>?_,λb o e n hb hx=>?_,I.base.free,λb o e hx=>?_,I.base.tups,I.base.iI,I.base.ja⟩,⟨_,hn',λj y v' e1 e2 e3=>?_⟩,λy c e=>?_,I.free,I.fW,λp hp=>?_,tracked ⟨oL,UJ,I.free⟩ hs,by simpa using I.len⟩ ⟨_,hs,.inl rfl⟩
  ·exact(hs.2 b (aN (aM (ax e) I.ok.above))).trans (I.base.keep b o e n hb hx)
  ·obtain⟨sl,e1⟩:=I.base.slot b o e n hb hx
   exact⟨sl,(hs.2 b (aN (aM (ax e) I.ok.above))).trans e1⟩
  ·obtain⟨o',e1⟩:=I.base.there b o e hx
   exact⟨o',(hs.2 b (aN (aM (ax e) I.ok.above))).trans e1⟩
  ·by_cases hj:j=i
   ·subst hj
    rw[hi] at e1;cases e1
    rw[ku Ni] at e2
    cases e2
    exact⟨u,r,.inl ⟨hk,by simp⟩⟩
   ·rw[fX (bg hj)] at e2
    obtain⟨u',r',q⟩:=hl j y v' e1 e2 e3
    refine⟨u',r',?_⟩
    rcases q with ⟨k,e⟩ | ⟨k,c,e,z⟩
    ·refine .inl ⟨k,?_⟩
     have:y≠x:=λe=>hj (oK hN e1 (e ▸ hi))
     simp[this,e]
    ·exact .inr ⟨k,c,e,z.sameBut hs (EB y c e)⟩
  ·obtain⟨w',z⟩:=I.cell y c e
   exact⟨w',z.sameBut hs (EB y c e)⟩
  ·obtain⟨e,n,ne,nf,d⟩:=I.pin p hp
   exact⟨(hs.2 p.1 ne).trans e,n,ne,nf,d⟩
 ·have hfn:X.fn x=true:=by
   rcases hf with z | z
   ·exact z
   ·rw[z] at hk;cases hk
  obtain⟨c,hc⟩:=I.ok.has x (.inl hk)
  obtain⟨w',z⟩:=I.cell x c hc
  refine wpAny_storeName_cell I.ok.kind hk hc z (λh' hc' hs=>?_)
  obtain⟨oc,hoc,IW⟩:=id z
  refine h { s with heap:=h' } ⟨I.ok,I.os,I.bare,⟨λb o e n hb hx=>?_,λb o e n hb hx=>?_,I.base.free,λb o e hx=>?_,I.base.tups,I.base.iI,I.base.ja⟩,⟨m,hn.sameBut hs (bg (EB x c hc)),λj y v' e1 e2 e3=>?_⟩,λy c' e=>?_,I.free,I.fW,λp hp=>?_,tracked ⟨oc,hoc,I.fW x c hc⟩ hs,by simpa using I.len⟩ ⟨c,hs,.inr hc⟩
  ·exact(hs.2 b (aN (aM (ax e) (I.ok.IV x c hfn hc)))).trans (I.base.keep b o e n hb hx)
  ·obtain⟨sl,e1⟩:=I.base.slot b o e n hb hx
   exact⟨sl,(hs.2 b (aN (aM (ax e) (I.ok.IV x c hfn hc)))).trans e1⟩
  ·obtain⟨o',e1⟩:=I.base.there b o e hx
   exact⟨o',(hs.2 b (aN (aM (ax e) (I.ok.IV x c hfn hc)))).trans e1⟩
  ·by_cases hj:j=i
   ·subst hj
    rw[hi] at e1;cases e1
    rw[ku Ni] at e2
    cases e2
    exact⟨u,r,.inr ⟨.inl hk,c,hc,hc'⟩⟩
   ·rw[fX (bg hj)] at e2
    obtain⟨u',r',q⟩:=hl j y v' e1 e2 e3
    refine⟨u',r',?_⟩
    rcases q with q | ⟨k,c',e,z'⟩
    ·exact .inl q
    ·refine .inr ⟨k,c',e,z'.sameBut hs ?_⟩
     rintro rfl
     exact hj (oK hN e1 (I.ok.inj _ _ _ e hc ▸ hi))
  ·by_cases hcc:c'=c
   ·subst hcc;exact⟨_,hc'⟩
   ·obtain⟨w2,z2⟩:=I.cell y c' e
    exact⟨w2,z2.sameBut hs hcc⟩
  ·obtain⟨e,n,ne,nf,d⟩:=I.pin p hp
   refine⟨(hs.2 p.1 ?_).trans e,n,ne,nf,d⟩
   intro q
   rw[q,hoc] at e
   have q':oc=p.2:=Option.some.inj e
   exact d w' (by rw[<-q'];exact IW)
theorem kZ{M:Model}{A:Zl}{E:Zq->Zp->Prop}{i:Nat}{x:Str}{v:V}{u:Zq}{Q:Unit->Zp->Prop}(I:Inv X pins σ H s)(hN:X.N.Nodup)(hi:X.N[i]? =some x)(hx:Loc X.env.scope x)(r:RelV v u)
  (h:∀s',Inv X pins (σ.set i (some v)) H s'->Q () s')(hf:X.fn x=true\/X.env.scope.names.lookup x=some .local:=by first | exact .inl rfl | exact .inr rfl | assumption):ZG M A (storeName X.env x u) Q E s :=
 mf I hN hi hx r (λs' I' _=>h s' I') hf
theorem Inv.qU{s':Zp}{ch:List Zk}(I:Inv X pins σ H s)(ho:s'.os=s.os)(u:Un (frs X.stack) ch H H' s.heap s'.heap)(hok:j9 X.prog X.w H' s'.heap)(hg:AllBare s'.gens)
  (hch:∀b∈ch,(b∈X.ex\/X.s₀.heap.objs.size<=b)/\b≠X.env.locals/\(∀x c,X.env.cells.lookup x=some c->c≠b)/\∀p∈X.pn++pins,p.1≠b):Inv X pins σ H' s':=by
 obtain⟨h',g',d',t',o'⟩:=s'
 have e:o'=s.os:=ho
 subst e
 exact I.call (g':=g') (t':=t') (d':=d') u hok hg hch
end
abbrev XK:=Zq->Option Zk->Hp->Prop
abbrev St:=List (Option V)
abbrev VK:=V->Hp->Prop
abbrev TE:=St->Hp->VK->Prop
abbrev TT:=St->Hp->(Bool->Hp->Prop)->Prop
abbrev TA:=St->Hp->(List V->Hp->Prop)->Prop
structure Ends where
 nx:St->Hp->Prop
 rt:VK
 bk:St->Hp->Prop:=λ_ _=>False
 ct:St->Hp->Prop:=λ_ _=>False
abbrev TS:=Ends->St->Hp->Prop
def EP(X:Cx)(pins:List (Zk×Obj))(σ:St)(Q:VK)(u:Zq)(s':Zp):Prop:=∃v H',Inv X pins σ H' s'/\RelV v u/\Q v H'
def TP(X:Cx)(pins:List (Zk×Obj))(σ:St)(Q:Bool->Hp->Prop)(b:Bool)(s':Zp):Prop:=∃H',Inv X pins σ H' s'/\Q b H'
def AP(X:Cx)(pins:List (Zk×Obj))(σ:St)(Q:List V->Hp->Prop)(us:List Zq)(s':Zp):Prop:=∃vs H',Inv X pins σ H' s'/\Vals vs us/\Q vs H'
def SP(X:Cx)(pins:List (Zk×Obj))(D:Ends)(f:Flow)(s':Zp):Prop :=
 match f with
 | .next=>∃σ' H',Inv X pins σ' H' s'/\D.nx σ' H'
 | .brk=>∃σ' H',Inv X pins σ' H' s'/\D.bk σ' H'
 | .cont=>∃σ' H',Inv X pins σ' H' s'/\D.ct σ' H'
 | .ret u=>∃v σ' H',Inv X pins σ' H' s'/\RelV v u/\D.rt v H'
def PE(X:Cx)(e:Expr)(t:TE):Prop :=
 ∀(pins:List (Zk×Obj))(s:Zp)(σ:St)(H:Hp)(Q:VK),Inv X pins σ H s->t σ H Q->ZG (model X.prog X.w) X.A (eval e X.env) (EP X pins σ Q) X.xe s
def PT(X:Cx)(e:Expr)(t:TT):Prop :=
 ∀(pins:List (Zk×Obj))(s:Zp)(σ:St)(H:Hp)(Q:Bool->Hp->Prop),Inv X pins σ H s->t σ H Q->ZG (model X.prog X.w) X.A (isTrue e X.env (eval e X.env)) (TP X pins σ Q) X.xe s
def PW(X:Cx)(e:Expr)(t:TT):Prop :=
 ∀(whole:Sem Zq)(pins:List (Zk×Obj))(s:Zp)(σ:St)(H:Hp)(Q:Bool->Hp->Prop),Inv X pins σ H s->t σ H Q->ZG (model X.prog X.w) X.A (isTrue e X.env whole) (TP X pins σ Q) X.xe s
def PA(X:Cx)(es:List Expr)(t:TA):Prop :=
 ∀(pos:Pos)(pins:List (Zk×Obj))(s:Zp)(σ:St)(H:Hp)(Q:List V->Hp->Prop),Inv X pins σ H s->t σ H Q->ZG (model X.prog X.w) X.A (spliced (backTo pos (ZF es X.env))) (AP X pins σ Q) X.xe s
def PS(X:Cx)(st:Stmt)(t:TS):Prop :=
 ∀(pins:List (Zk×Obj))(s:Zp)(σ:St)(H:Hp)(D:Ends),Inv X pins σ H s->t D σ H->ZG (model X.prog X.w) X.A (exec st X.env) (SP X pins D) X.xe s
def Bg(X:Cx)(st:List Stmt)(t:TS):Prop :=
 ∀(pins:List (Zk×Obj))(s:Zp)(σ:St)(H:Hp)(D:Ends),Inv X pins σ H s->t D σ H->ZG (model X.prog X.w) X.A (execs st X.env) (SP X pins D) X.xe s
theorem bH{α:Type}{t:Sem α}{Q Q':α->Zp->Prop}{M:Model}{A:Zl}{E:Zq->Zp->Prop}{s:Zp}(h:ZG M A t Q E s)(hQ:∀a s,Q a s->Q' a s):ZG M A t Q' E s:=ZJ h hQ λ_ _ x=>x
section
variable {X:Cx}
def Q4(i:Nat):TE:=λσ H Q=>∃v,σ[i]? =some (some v)/\Q v H
def tC(v:V):TE:=λ_ H Q=>Q v H
theorem IX{i:Nat}{x:Str}{pos:Pos}(hN:X.N[i]? =some x)(hv:Qa X.env.scope x)(hd:(x == ("__debug__":Str))=false:=by decide)(hcd:(x == ("__classdict__":Str))=false:=by decide):PE X (.Name x pos) (Q4 i):=by
 intro pins s σ H Q I h
 obtain⟨v,e,h⟩:=h
 obtain⟨m,hn,hl⟩:=I.loc
 obtain⟨u,r,l⟩:=hl i x v hN e hv
 have fin:EP X pins σ Q u s:=⟨v,H,I,r,h⟩
 rcases l with ⟨hk,hm⟩ | ⟨hk,c,hc,hcell⟩
 ·exact wpAny_Name (wpAny_loadName_local I.ok.kind hk hn hm fin) hd
 ·rcases hk with hk | hk
  ·exact wpAny_Name (wpAny_loadName_cell I.ok.kind hk hc hcell fin) hd
  ·exact wpAny_Name (wpAny_loadName_free I.ok.kind hk hc hcell fin hcd) hd
theorem IY{i j pos}:PE X (.Constant (.int i) j pos) (tC (.int i)):=λ_ _ _ H _ I h=>wpAny_Constant_int ⟨.int i,H,I.tok _,⟨_,rfl⟩,h⟩
theorem Nj{b j pos}:PE X (.Constant (.bool b) j pos) (tC (.bl b)):=λ_ _ _ H _ I h=>Constant_bool ⟨.bl b,H,I,rfl,h⟩
theorem IZ{j pos}:PE X (.Constant .none j pos) (tC .aP):=λ_ _ _ H _ I h=>Constant_none ⟨.aP,H,I,rfl,h⟩
theorem I0{x j pos}:PE X (.Constant (.str x) j pos) (tC (.str x)):=λ_ _ _ H _ I h=>Calls.Constant_str ⟨.str x,H,I.tok _,⟨_,rfl⟩,h⟩
def Gl(X:Cx)(x:Str):Prop:=X.env.kindOf x=some .globalImplicit
theorem nU{E:Zq->Zp->Prop}{pins:List (Zk×Obj)}{s:Zp}{σ:St}{H:Hp}{x:Str}{u:Zq}{pos:Pos}{Q:Zq->Zp->Prop}(I:Inv X pins σ H s)(hg:Gl X x)(hm:X.mg x=some u)(h:Q u s)
  (hd:(x == ("__debug__":Str))=false:=by decide):ZG (model X.prog X.w) X.A (eval (.Name x pos) X.env) Q E s :=
 I_ I.ok.kind hg (Calls.loadGlobal_global (by rw[I.ok.glob];exact I.mod.glob.keeps I.bk) hm h) hd
theorem fY{E:Zq->Zp->Prop}{pins:List (Zk×Obj)}{s:Zp}{σ:St}{H:Hp}{x:Str}{u:Zq}{pos:Pos}{Q:Zq->Zp->Prop}(I:Inv X pins σ H s)(hg:Gl X x)(hm:X.mg x=none)(hv:Zu x=some u)(h:Q u s)
  (hn:x≠"__name__":=by decide)(hd:(x == ("__debug__":Str))=false:=by decide):ZG (model X.prog X.w) X.A (eval (.Name x pos) X.env) Q E s:=by
 obtain⟨mb,h1,h2⟩:=I.mod.blt
 exact I_ I.ok.kind hg (Calls.loadGlobal_builtin (by rw[I.ok.glob];exact I.mod.glob.keeps I.bk) hm (by rw[I.ok.blt];exact h1.keeps I.bk) ((h2 x hn).trans hv) h) hd
theorem iK{x:Str}{v:V}{u:Zq}{pos:Pos}(hg:Gl X x)(hm:X.mg x=some u)(r:RelV v u)(hd:(x == ("__debug__":Str))=false:=by decide):PE X (.Name x pos) (tC v) :=
 λ_ _ _ H _ I h=>nU I hg hm ⟨v,H,I,r,h⟩ hd
theorem EO{x:Str}{v:V}{u:Zq}{pos:Pos}(hg:Gl X x)(hm:X.mg x=none)(hv:Zu x=some u)(r:RelV v u)(hn:x≠"__name__":=by decide)(hd:(x == ("__debug__":Str))=false:=by decide):PE X (.Name x pos) (tC v) :=
 λ_ _ _ H _ I h=>fY I hg hm hv ⟨v,H,I,r,h⟩ hn hd
variable {a b:Expr} {ta tb:TE} {pos:Pos}
variable {tA Qe:TT} {rest:List Expr}
def Q5(t u:TT):TT:=λσ H Q=>t σ H λc H1=>if c=true then u σ H1 Q else Q false H1
def Wb(t u:TT):TT:=λσ H Q=>t σ H λc H1=>if c=true then Q true H1 else u σ H1 Q
def Q6(t:TT):TT:=λσ H Q=>t σ H λc H1=>Q (!c) H1
theorem ER(ha:PT X a tA):PW X (.BoolOp .And [a] pos) tA:=by
 intro wh pins s σ H Q I h
 refine isTrue_and (bH (ha pins s σ H Q I h) λc s1 e=>?_)
 cases c with
 | true=>exact isTrue_and_nil e
 | false=>exact e
theorem Ja(ha:PT X a tA):PW X (.BoolOp .Or [a] pos) tA:=by
 intro wh pins s σ H Q I h
 refine isTrue_or (bH (ha pins s σ H Q I h) λc s1 e=>?_)
 cases c with
 | false=>exact isTrue_or_nil e
 | true=>exact e
theorem Jb(ha:PT X a tA)(hb:PW X (.BoolOp .And (b::rest) pos) Qe):PW X (.BoolOp .And (a::b::rest) pos) (Q5 tA Qe):=by
 intro wh pins s σ H Q I h
 refine isTrue_and (bH (ha pins s σ H _ I h) λc s1 ⟨H1,I1,q1⟩=>?_)
 cases c with
 | true=>exact hb wh pins s1 σ H1 Q I1 q1
 | false=>exact⟨H1,I1,q1⟩
theorem Nk(ha:PT X a tA)(hb:PW X (.BoolOp .Or (b::rest) pos) Qe):PW X (.BoolOp .Or (a::b::rest) pos) (Wb tA Qe):=by
 intro wh pins s σ H Q I h
 refine isTrue_or (bH (ha pins s σ H _ I h) λc s1 ⟨H1,I1,q1⟩=>?_)
 cases c with
 | true=>exact⟨H1,I1,q1⟩
 | false=>exact hb wh pins s1 σ H1 Q I1 q1
theorem Jc(ha:PT X a tA):PT X (.UnaryOp .Not a pos) (Q6 tA):=by
 intro pins s σ H Q I h
 exact isTrue_not (ha pins s σ H (λc H1=>Q (!c) H1) I h)
def Nl(ta tb:TE):TE:=λσ H Q=>ta σ H λx H1=>∃c,x= .bl c/\if c=true then tb σ H1 Q else Q (.bl false) H1
def Q7(ta tb:TE):TE:=λσ H Q=>ta σ H λx H1=>∃c,x= .bl c/\if c=true then Q (.bl true) H1 else tb σ H1 Q
def Nm(ta:TE):TE:=λσ H Q=>ta σ H λx H1=>∃c,x= .bl c/\Q (.bl (!c)) H1
theorem Jd{op}{t:TE}(h:PE X a t):PE X (.BoolOp op [a] pos) t:=λpins s σ H Q I hw=>BoolOp_one (h pins s σ H Q I hw)
theorem Je(ha:PE X a ta)(hb:PE X (.BoolOp .And (b::rest) pos) tb):PE X (.BoolOp .And (a::b::rest) pos) (Nl ta tb):=by
 intro pins s σ H Q I h
 refine BoolOp_and (bH (ha pins s σ H _ I h) λv s1 ⟨x,H1,I1,r1,q1⟩=>?_)
 obtain⟨c,rfl,q1⟩:=q1
 cases r1
 refine ZN ?_
 cases c with
 | true=>exact hb pins s1 σ H1 Q I1 q1
 | false=>exact⟨.bl false,H1,I1,rfl,q1⟩
theorem Nn(ha:PE X a ta)(hb:PE X (.BoolOp .Or (b::rest) pos) tb):PE X (.BoolOp .Or (a::b::rest) pos) (Q7 ta tb):=by
 intro pins s σ H Q I h
 refine BoolOp_or (bH (ha pins s σ H _ I h) λv s1 ⟨x,H1,I1,r1,q1⟩=>?_)
 obtain⟨c,rfl,q1⟩:=q1
 cases r1
 refine ZN ?_
 cases c with
 | false=>exact hb pins s1 σ H1 Q I1 q1
 | true=>exact⟨.bl true,H1,I1,rfl,q1⟩
theorem Jf(ha:PE X a ta):PE X (.UnaryOp .Not a pos) (Nm ta):=by
 intro pins s σ H Q I h
 refine UnaryOp_ (bH (ha pins s σ H _ I h) λv s1 ⟨x,H1,I1,r1,q1⟩=>?_)
 obtain⟨c,rfl,q1⟩:=q1
 cases r1
 exact not_of (ZN ⟨.bl (!c),H1,I1,rfl,q1⟩)
def Wc(t:TT)(ta tb:TE):TE:=λσ H Q=>t σ H λc H1=>if c=true then ta σ H1 Q else tb σ H1 Q
theorem Bh{c:Expr}(hc:PT X c tA)(ha:PE X a ta)(hb:PE X b tb):PE X (.IfExp c a b pos) (Wc tA ta tb):=by
 intro pins s σ H Q I h
 refine wpAny_IfExp (bH (hc pins s σ H _ I h) λd s1 ⟨H1,I1,q1⟩=>?_)
 cases d with
 | true=>exact ha pins s1 σ H1 Q I1 q1
 | false=>exact hb pins s1 σ H1 Q I1 q1
end
def fB(K:PySem.W.Frag)(H:Hp)(a:Zk)(xs:List V):Prop :=
 Rd H a (.lst xs)\/
  ∃(o:Obj)(its:Array Zq)(n:Nat),K.lookup a=some o/\o.cls= .type "list"/\o.dict=none/\o.data= .seq its n/\its.size<=ZE/\Vals xs its.toList
def dh(K:PySem.W.Frag)(H:Hp)(a:Zk)(xs:List V):Prop :=
 Rd H a (.tup xs)\/
  ∃(o:Obj)(its:Array Zq)(n:Nat),K.lookup a=some o/\o.cls= .type "tuple"/\o.data= .seq its n/\its.size<=ZE/\Vals xs its.toList
def Q8:Zq->Option V
 | .none=>some .aP
 | .bool b=>some (.bl b)
 | .int i _=>some (.int i)
 | .str x _=>some (.str x)
 | .bytes b _=>some (.MS b)
 | .float b _=>some (.P7 b)
 | .ref a=>some (.ref a)
 | .type n=>some (.ty n)
 | _=>none
theorem RelV.abs{x:V}{u:Zq}(r:RelV x u):Q8 u=some x:=by
 cases x with
 | aP=>cases r;rfl
 | bl _=>cases r;rfl
 | int _=>obtain⟨t,rfl⟩:=r;rfl
 | str _=>obtain⟨t,rfl⟩:=r;rfl
 | MS _=>obtain⟨t,rfl⟩:=r;rfl
 | P7 _=>obtain⟨t,rfl⟩:=r;rfl
 | ref _=>cases r;rfl
 | ty _=>cases r;rfl
theorem RelV.inj{x y:V}{u:Zq}(r:RelV x u)(q:RelV y u):x=y:=Option.some.inj (r.abs.symm.trans q.abs)
theorem Vals.inj:∀{xs ys:List V}{us:List Zq},Vals xs us->Vals ys us->xs=ys
 | _,_,_,.nil,.nil=>rfl
 | _,_,_,.cons r t,.cons r' t'=>by rw[r.inj r',Vals.inj t t']
section
variable {X:Cx} {pins:List (Zk×Obj)} {σ:St} {H:Hp} {s:Zp} {a:Zk} {xs ys:List V}
theorem fB.of{K:PySem.W.Frag}(h:H a=some (.lst xs)):fB K H a xs:=.inl (.inl h)
theorem dh.of{K:PySem.W.Frag}(h:H a=some (.tup xs)):dh K H a xs:=.inl (.inl h)
theorem Inv.list(I:Inv X pins σ H s)(h:fB X.K H a xs):∃its:List Zq,Vals xs its/\PlainL s.heap a its.toArray/\xs.length<=ZE:=by
 rcases h with h | ⟨o,its,n,hk,hc,hd,hs,hz,r⟩
 ·obtain⟨z,its,n,r,e⟩:=h.ok I.hok
  exact⟨its,r,⟨_,n,e,rfl,rfl,rfl⟩,z⟩
 ·refine⟨its.toList,r,⟨o,n,I.zt a o hk,hc,hd,by simpa using hs⟩,?_⟩
  have e:=r.length
  simp only[Ho] at e
  omega
theorem Inv.tuple(I:Inv X pins σ H s)(h:dh X.K H a xs):∃its:List Zq,Vals xs its/\IsTup s.heap a its.toArray/\xs.length<=ZE:=by
 rcases h with h | ⟨o,its,n,hk,hc,hs,hz,r⟩
 ·obtain⟨z,its,r,p,_⟩:=h.ok I.hok
  exact⟨its,r,p,z⟩
 ·refine⟨its.toList,r,⟨o,I.zt a o hk,hc,n,by simpa using hs⟩,?_⟩
  have e:=r.length
  simp only[Ho] at e
  omega
theorem Inv.k_(I:Inv X pins σ H s)(h:fB X.K H a xs)(h':fB X.K H a ys):xs=ys:=by
 obtain⟨its,r,⟨o,n,e,_,_,d⟩,_⟩:=I.list h
 obtain⟨its',r',⟨o',n',e',_,_,d'⟩,_⟩:=I.list h'
 rw[e] at e';cases e'
 rw[d] at d'
 injection d' with d1 _
 have:its=its':=by simpa using congrArg Array.toList d1
 subst this
 exact r.inj r'
theorem Inv.zu(I:Inv X pins σ H s)(h:dh X.K H a xs)(h':dh X.K H a ys):xs=ys:=by
 obtain⟨its,r,⟨o,e,_,n,d⟩,_⟩:=I.tuple h
 obtain⟨its',r',⟨o',e',_,n',d'⟩,_⟩:=I.tuple h'
 rw[e] at e';cases e'
 rw[d] at d'
 injection d' with d1 _
 have:its=its':=by simpa using congrArg Array.toList d1
 subst this
 exact r.inj r'
end
abbrev Cx.Q9(X:Cx)(E:Zq->Zp->Prop):Cx:={ X with xe:=E }
abbrev Cx.je(X:Cx):Cx:=X.Q9 λ_ _=>False
section
variable {X:Cx} {pins:List (Zk×Obj)} {σ:St} {H:Hp} {s:Zp} {E:Zq->Zp->Prop}
end
section
variable {X:Cx} {st:Stmt} {rest:List Stmt} {t u:TS} {e:Expr} {te:TE} {pos:Pos}
def Hq:TS:=λD σ H=>D.nx σ H
def Q_(t u:TS):TS:=λD σ H=>t { D with nx:=u D } σ H
theorem ES:Bg X [] Hq:=λ_ _ σ H _ I h=>wpAny_execs_nil ⟨σ,H,I,h⟩
theorem Bi(h1:PS X st t)(h2:Bg X rest u):Bg X (st::rest) (Q_ t u):=by
 intro pins s σ H D I h
 refine wpAny_execs_cons (bH (h1 pins s σ H { D with nx:=u D } I h) λf s1 q=>?_)
 cases f with
 | next=>
  obtain⟨σ',H',I',q⟩:=q
  exact h2 pins s1 σ' H' D I' q
 | ret v=>exact q
 | brk=>exact q
 | cont=>exact q
theorem ET(h1:PS X st t):Bg X [st] t:=by
 intro pins s σ H D I h
 refine wpAny_execs_cons (bH (h1 pins s σ H D I h) λf s1 q=>?_)
 cases f with
 | next=>exact wpAny_execs_nil q
 | ret v=>exact q
 | brk=>exact q
 | cont=>exact q
theorem EU:PS X (.Pass pos) Hq:=λ_ _ σ H _ I h=>wpAny_Pass ⟨σ,H,I,h⟩
theorem Inv.quiet{pins:List (Zk×Obj)}{σ:St}{H:Hp}{s:Zp}(I:Inv X pins σ H s):interactive X.env=false:=by simp[interactive,I.ok.kind]
def Np(te:TE):TS:=λD σ H=>te σ H λ_ H1=>D.nx σ H1
theorem EV(he:PE X e te)(hs:swapsWith e none pos.line X.env=pure false:=by rfl):PS X (.Expr e pos) (Np te):=by
 intro pins s σ H D I h
 exact wpAny_Expr_any (bH (he pins s σ H _ I h) λv s1 ⟨x,H1,I1,r1,q1⟩=>⟨σ,H1,I1,q1⟩) I.quiet hs
def Ra(te:TE):TS:=λD σ H=>te σ H D.rt
theorem Jg(he:PE X e te):PS X (.Return (some e) pos) (Ra te):=by
 intro pins s σ H D I h
 exact wpAny_Return_some (bH (he pins s σ H _ I h) λv s1 ⟨x,H1,I1,r1,q1⟩=>⟨x,σ,H1,I1,r1,q1⟩)
def Nq:TS:=λD _ H=>D.rt .aP H
theorem EW:PS X (.Return none pos) Nq:=λ_ _ σ H _ I h=>wpAny_Return_none ⟨.aP,σ,H,I,rfl,h⟩
def Rb(c:TT)(t u:TS):TS:=λD σ H=>c σ H λb H1=>if b=true then t D σ H1 else u D σ H1
theorem Nr{c:Expr}{a b:List Stmt}{tc:TT}(hc:PT X c tc)(ha:Bg X a t)(hb:Bg X b u):PS X (.If c a b pos) (Rb tc t u):=by
 intro pins s σ H D I h
 refine wpAny_If (bH (hc pins s σ H _ I h) λd s1 ⟨H1,I1,q1⟩=>?_)
 cases d with
 | true=>exact ha pins s1 σ H1 D I1 q1
 | false=>exact hb pins s1 σ H1 D I1 q1
def Bj:TS:=λ_ _ _=>False
theorem Bk:PS X st Bj:=λ_ _ _ _ _ _ h=>h.elim
theorem zv{sts:List Stmt}:Bg X sts Bj:=λ_ _ _ _ _ _ h=>h.elim
end
abbrev TG:=V->St->Hp->(St->Hp->Prop)->Prop
abbrev Hr:=List V->St->Hp->(St->Hp->Prop)->Prop
def PG(X:Cx)(target:Expr)(t:TG):Prop :=
 ∀(pins:List (Zk×Obj))(s:Zp)(σ:St)(H:Hp)(v:V)(u:Zq)(Q:St->Hp->Prop),Inv X pins σ H s->RelV v u->t v σ H Q->
  ZG (model X.prog X.w) X.A (assign target X.env u) (λ_ s'=>∃σ' H',Inv X pins σ' H' s'/\Q σ' H') X.xe s
def Nt(X:Cx)(ts:List Expr)(t:Hr):Prop :=
 ∀(pins:List (Zk×Obj))(s:Zp)(σ:St)(H:Hp)(vs:List V)(us:List Zq)(Q:St->Hp->Prop),Inv X pins σ H s->Vals vs us->t vs σ H Q->
  ZG (model X.prog X.w) X.A (assignInOrder ((assignEach ts X.env).map (·.2)) us) (λ_ s'=>∃σ' H',Inv X pins σ' H' s'/\Q σ' H') X.xe s
abbrev Jh:=V->V->V->Hp->(Hp->Prop)->Prop
def Nu(X:Cx)(t:Jh):Prop :=
 ∀(pins:List (Zk×Obj))(s:Zp)(σ:St)(H:Hp)(o i v:V)(ov iv u:Zq)(Q:Hp->Prop),Inv X pins σ H s->RelV o ov->RelV i iv->RelV v u->t o i v H Q->
  ZG (model X.prog X.w) X.A (setItem ov iv u) (λ_ s'=>∃H',Inv X pins σ H' s'/\Q H') X.xe s
section
variable {X:Cx} {pos:Pos}
def ur(i:Nat):TG:=λv σ H Q=>Q (σ.set i (some v)) H
theorem sf{i:Nat}{x:Str}(hN:X.N.Nodup)(hi:X.N[i]? =some x)(hx:Loc X.env.scope x)(hf:X.fn x=true\/X.env.scope.names.lookup x=some .local:=by first | exact .inl rfl | exact .inr rfl | assumption):PG X (.Name x pos) (ur i):=by
 intro pins s σ H v u Q I r h
 exact wpAny_assign_Name (kZ I hN hi hx r (λs' I'=>⟨_,H,I',h⟩) hf)
def aq:Hr:=λvs σ H Q=>vs=[]/\Q σ H
def ae(t:TG)(u:Hr):Hr:=λvs σ H Q=>∃v r,vs=v::r/\t v σ H λσ' H'=>u r σ' H' Q
theorem EY:Nt X [] aq:=by
 intro pins s σ H vs us Q I r h
 obtain⟨e,h⟩:=h
 subst e
 cases r
 exact assignInOrder_nil ⟨σ,H,I,h⟩
theorem Bl{e:Expr}{es:List Expr}{t:TG}{u:Hr}(h1:PG X e t)(h2:Nt X es u)
  (hs:(assignEach (e::es) X.env).map (·.2)=assign e X.env::(assignEach es X.env).map (·.2):=by rfl):Nt X (e::es) (ae t u):=by
 intro pins s σ H vs us Q I r h
 obtain⟨v,vr,e1,h⟩:=h
 subst e1
 cases r with
 | cons r rr=>
  rw[hs]
  refine assignInOrder_cons (bH (h1 pins s σ H _ _ _ I r h) λ_ s1 ⟨σ1,H1,I1,q1⟩=>?_)
  exact h2 pins s1 σ1 H1 _ _ Q I1 rr q1
def ml(K:PySem.W.Frag)(n:Nat)(t:Hr):TG:=λv σ H Q=>∃a xs,v= .ref a/\dh K H a xs/\xs.length=n/\t xs σ H Q
theorem v_{es:List Expr}{k:Nat}{t:Hr}{n:Nat}(hc:X.calm=true)(h:Nt X es t)
  (hn:(assignEach es X.env).length=n:=by rfl)(hst:(assignEach es X.env).findIdx? (·.1)=none:=by rfl):PG X (.Tuple es k pos) (ml X.K n t):=by
 intro pins s σ H v u Q I r hw
 obtain⟨a,xs,e1,hq,hl,hw⟩:=hw
 subst e1
 cases r
 obtain⟨its,rv,ht,hz⟩:=I.tuple hq
 refine assign_Tuple_tuple (I.ok.hd hc) ht (by simp[hn,<-hl,rv.length]) hst λh' hx=>?_
 have I1:Inv X pins σ H { s with heap:=h' }:=I.kept (t':=s.toks) λb o e=>hx b o (aN (ax e)) e
 exact h pins _ σ H xs _ Q I1 (by simpa using rv) hw
def Rc(to ti:TE)(t:Jh):TG:=λv σ H Q=>to σ H λo H1=>ti σ H1 λi H2=>t o i v H2 λH3=>Q σ H3
theorem Ji{o i:Expr}{to ti:TE}{t:Jh}(ho:PE X o to)(hi:PE X i ti)(hs:Nu X t)
  (ha:∀v,assign (.Subscript o i pos) X.env v=(do
   let ov <-holding [v] (eval o X.env)
   let iv <-holding [v,ov] (eval i X.env)
   standAt pos
   holding [v,ov,iv] (setItem ov iv v)
   release [v,ov,iv] []):=by intro _;rfl):PG X (.Subscript o i pos) (Rc to ti t):=by
 intro pins s σ H v u Q I r h
 rw[ha]
 refine ZH (ZI (bH (ho pins s σ H _ I h) λov s1 ⟨x,H1,I1,r1,q1⟩=>?_))
 refine ZH (ZI (bH (hi pins s1 σ H1 _ I1 q1) λiv s2 ⟨y,H2,I2,r2,q2⟩=>?_))
 refine ZH (wpAny_standAt (ZH (ZI (bH (hs pins s2 σ H2 x y v ov iv u _ I2 r1 r2 r q2) λ_ s3 ⟨H3,I3,q3⟩=>?_))))
 exact wpAny_release ⟨σ,H3,I3,q3⟩
def Nv(te:TE)(g:TG):TS:=λD σ H=>te σ H λx H1=>g x σ H1 D.nx
theorem Jj{tg e:Expr}{te:TE}{g:TG}(he:PE X e te)(hg:PG X tg g)(hs:swapsWithSole [tg] e pos.line X.env=pure false:=by rfl)(hw:swappedStores [tg] e X.env=pure none:=by rfl)
  (h1:(assignEach [tg] X.env).map (·.2)=[assign tg X.env]:=by rfl):PS X (.Assign [tg] e pos) (Nv te g):=by
 intro pins s σ H D I h
 refine wpAny_Assign_stores (bH (he pins s σ H _ I h) λv s1 ⟨x,H1,I1,r1,q1⟩=>?_) hs hw
 rw[h1]
 exact bH (hg pins s1 σ H1 x v _ I1 r1 q1) λ_ s2 q=>q
theorem Jk{i:Nat}{x:Str}{e:Expr}{te:TE}{pos':Pos}(hN:X.N.Nodup)(hi:X.N[i]? =some x)(hx:Loc X.env.scope x)(he:PE X e te)(hs:swapsWith e (some (.Name x pos')) pos.line X.env=pure false:=by rfl)(hf:X.fn x=true\/X.env.scope.names.lookup x=some .local:=by first | exact .inl rfl | exact .inr rfl | assumption) :
  PS X (.Assign [.Name x pos'] e pos) (Nv te (ur i)):=by
 intro pins s σ H D I h
 refine wpAny_Assign_Name (bH (he pins s σ H _ I h) λv s1 ⟨y,H1,I1,r1,q1⟩=>?_) hs
 exact kZ I1 hN hi hx r1 (λs2 I2=>⟨_,H1,I2,q1⟩) hf
end
section
variable {X:Cx} {pos:Pos}
end
structure It where
 go:Nat->Hp->Prop
 sg:Nat->Hp->V->Hp->Prop
 stop:Nat->Hp->Prop
def cG(X:Cx)(pins:List (Zk×Obj))(H:Hp)(b:Zk):Prop :=
 H b=none/\b≠X.env.locals/\b∉X.fs/\(b∈X.ex\/X.s₀.heap.objs.size<=b)/\(∀x c,X.env.cells.lookup x=some c->c≠b)/\∀p∈X.pn++pins,p.1≠b
theorem Inv.nM{X:Cx}{pins:List (Zk×Obj)}{σ:St}{H H':Hp}{s:Zp}{b:Zk}(I:Inv X pins σ H s)(hb:s.heap.objs.size<=b)(hn:H' b=none):cG X pins H' b:=by
 refine⟨hn,lg (aM I.lt hb),I.Ng hb,.inr (bE I.sz hb),λx c e z=>?_,λp hp z=>?_⟩
 ·obtain⟨v,q⟩:=I.cell x c e
  exact absurd (aM q.lt (by rw[z];exact hb)) (bX _)
 ·exact absurd (aM (ax (I.pin p hp).1) (by rw[z];exact hb)) (bX _)
structure Turn(P:Zo)(w:Zr)(K:PySem.W.Frag)(tg:Expr)(J:It)(fp:List Zk)(it:Zk)(tn:Nat->Heap->Prop):Prop where
 mem:it∈fp
 obj:∀i h,tn i h->∀b∈fp,∃o,h.get? b=some o/\∀v,o.data≠.cell v
 keep:∀i h h',tn i h->(∀b∈fp,∀o,h.get? b=some o->h'.get? b=some o)->tn i h'
 item:∀(X:Cx),X.prog=P->X.w=w->X.K=K->X.calm=true->∀(i:Nat)(pins:List (Zk×Obj))(s:Zp)(σ:St)(H:Hp)(E:Zq->Zp->Prop),Inv X pins σ H s->(∀b∈fp,cG X pins H b)->tn i s.heap->J.go i H->
  ZG (model P w) X.A (pyNext (.ref it)) (λr s1=>∃u,r=some u/\
   ZG (model P w) X.A (letOwnedTupleGo tg (.ref it) u) (λ_ s2=>∃x H',Inv X pins σ H' s2/\RelV x u/\J.sg i H x H'/\tn (i+1) s2.heap/\∀b∈fp,H' b=none) E s1) E s
 done:∀(X:Cx),X.prog=P->X.w=w->X.K=K->X.calm=true->∀(i:Nat)(pins:List (Zk×Obj))(s:Zp)(σ:St)(H:Hp)(E:Zq->Zp->Prop),Inv X pins σ H s->(∀b∈fp,cG X pins H b)->tn i s.heap->J.stop i H->
  ZG (model P w) X.A (pyNext (.ref it)) (λr s1=>r=none/\Inv X pins σ H s1) E s
 self:∀(A:Zl)(i:Nat)(s:Zp)(Q:Zq->Zp->Prop)(E:Zq->Zp->Prop),tn i s.heap->Q (.ref it) s->ZG (model P w) A (pyIter (.ref it)) Q E s
abbrev TI:=St->Hp->(It->Hp->Prop)->Prop
def UK(X:Cx)(pins:List (Zk×Obj))(σ:St)(tg:Expr)(R:It->Hp->Prop)(itv:Zq)(s2:Zp):Prop :=
 ∃(it:Zk)(fp:List Zk)(tn:Nat->Heap->Prop)(J:It)(H':Hp),itv= .ref it/\Inv X pins σ H' s2/\Turn X.prog X.w X.K tg J fp it tn/\tn 0 s2.heap/\(∀b∈fp,cG X pins H' b)/\R J H'
def PI(X:Cx)(tg iter:Expr)(wi:TI):Prop :=
 ∀(pins:List (Zk×Obj))(s:Zp)(σ:St)(H:Hp)(R:It->Hp->Prop),Inv X pins σ H s->wi σ H R->
  ZG (model X.prog X.w) X.A (eval iter X.env) (λv s1=>ZG (model X.prog X.w) X.A (pyIter v) (UK X pins σ tg R) X.xe s1) X.xe s
theorem qV{M:Model}{A:Zl}{E:Zq->Zp->Prop}{s:Zp}{tg:Expr}{it:Zk}{u:Zq}{o:Obj}{n:String}{vs:Array Zq}{Q:Unit->Zp->Prop}(ho:s.heap.get? it=some o)(hc:o.cls= .type n)(hd:o.data= .fields vs)
    (hn:["enumerate","zip","dict_itemiterator","dict_reverseitemiterator","odict_iterator","itertools.zip_longest","itertools.pairwise"].contains n=false)(hQ:Q () s):ZG M A (letOwnedTupleGo tg (.ref it) u) Q E s:=by
  unfold letOwnedTupleGo
  cases tg<;>first
    | exact ZM hQ
    | (cases u<;>first
        | exact ZM hQ
        | (refine ZH (wpAny_load ho ?_)
           rw[hc,hd]
           show ZG M A (if(["enumerate","zip","dict_itemiterator","dict_reverseitemiterator","odict_iterator","itertools.zip_longest","itertools.pairwise"].contains n&&vs[0]? == some (rawInt _))=true then _ else _) Q E s
           rw[if_neg (by intro h;rw[hn,Bool.false_and] at h;cases h)]
           exact ZM hQ))
def Rf(K:PySem.W.Frag)(a:Zk):It :=
 ⟨λi H=>∃xs x,fB K H a xs/\xs[i]? =some x,λi H x H'=>H'=H/\∀xs,fB K H a xs->xs[i]? =some x,λi H=>∃xs,fB K H a xs/\xs.length<=i⟩
def UL(K:PySem.W.Frag)(a:Zk):It :=
 ⟨λi H=>∃xs x,dh K H a xs/\xs[i]? =some x,λi H x H'=>H'=H/\∀xs,dh K H a xs->xs[i]? =some x,λi H=>∃xs,dh K H a xs/\xs.length<=i⟩
def Jl(lo:Int)(n:Nat):It:=⟨λi _=>i < n,λi H x H'=>H'=H/\x= .int (lo+i),λi _=>n<=i⟩
theorem qW{P:Zo}{w:Zr}{K:PySem.W.Frag}{tg:Expr}(a it:Zk):Turn P w K tg (Rf K a) [it] it (λi h=>h.IsListIter it a i) where
 mem:=by simp
 obj:=λi h st b hb=>by
  have e:b=it:=by simpa using hb
  subst e
  obtain⟨o,e,c,d⟩:=st
  exact⟨o,e,λv z=>by rw[d] at z;cases z⟩
 keep:=λi h h' st k=>st.at λo e=>k it (by simp) o e
 item:=by
  intro X hP hw hK hc i pins s σ H E I hf st hg
  subst hP hw hK
  obtain⟨xs,x,hq,hx⟩:=hg
  obtain⟨its,rv,p,hz⟩:=I.list hq
  obtain⟨u,hu,ru⟩:=rv.get hx
  obtain⟨f0,f1,f2,f3,f4,f5⟩:=hf it (by simp)
  refine wpAny_pyNext_list_item st p.isList (x:=u) (by simpa using hu) λh' st' sb=>?_
  have I1:Inv X pins σ H { s with heap:=h' }:=I.turned (t':=s.toks) (λb o hb e=>(sb.2 b hb).trans e) f0 f1 f3 f4 f5
  obtain⟨o,e,c,d⟩:=id st'
  exact⟨u,rfl,qV (s:={ s with heap:=h' }) e c d (by decide) ⟨x,H,I1,ru,⟨rfl,λys hy=>by rw[I.k_ hy hq];exact hx⟩,st',λb hb=>(hf b hb).1⟩⟩
 done:=by
  intro X hP hw hK hc i pins s σ H E I hf st hg
  subst hP hw hK
  obtain⟨xs,hq,hx⟩:=hg
  obtain⟨its,rv,p,hz⟩:=I.list hq
  obtain⟨f0,f1,f2,f3,f4,f5⟩:=hf it (by simp)
  have hl:=rv.length
  exact wpAny_pyNext_list_end (I.ok.hd hc) st p.isList (by simp;omega) λh' eb=>⟨rfl,I.turned (t':=s.toks) (λb o hb e=>eb b o hb e) f0 f1 f3 f4 f5⟩
 self:=λ_ _ _ _ _ st h=>wpAny_pyIter_listiter st h
theorem wa{P:Zo}{w:Zr}{K:PySem.W.Frag}{tg:Expr}(a it:Zk):Turn P w K tg (UL K a) [it] it (λi h=>h.IsTupleIter it a i) where
 mem:=by simp
 obj:=λi h st b hb=>by
  have e:b=it:=by simpa using hb
  subst e
  obtain⟨o,e,c,d⟩:=st
  exact⟨o,e,λv z=>by rw[d] at z;cases z⟩
 keep:=λi h h' st k=>st.at λo e=>k it (by simp) o e
 item:=by
  intro X hP hw hK hc i pins s σ H E I hf st hg
  subst hP hw hK
  obtain⟨xs,x,hq,hx⟩:=hg
  obtain⟨its,rv,p,hz⟩:=I.tuple hq
  obtain⟨u,hu,ru⟩:=rv.get hx
  obtain⟨f0,f1,f2,f3,f4,f5⟩:=hf it (by simp)
  refine wpAny_pyNext_tuple_item st (show s.heap.IsTuple a its.toArray from p) (x:=u) (by simpa using hu) λh' st' sb=>?_
  have I1:Inv X pins σ H { s with heap:=h' }:=I.turned (t':=s.toks) (λb o hb e=>(sb.2 b hb).trans e) f0 f1 f3 f4 f5
  obtain⟨o,e,c,d⟩:=id st'
  exact⟨u,rfl,qV (s:={ s with heap:=h' }) e c d (by decide) ⟨x,H,I1,ru,⟨rfl,λys hy=>by rw[I.zu hy hq];exact hx⟩,st',λb hb=>(hf b hb).1⟩⟩
 done:=by
  intro X hP hw hK hc i pins s σ H E I hf st hg
  subst hP hw hK
  obtain⟨xs,hq,hx⟩:=hg
  obtain⟨its,rv,p,hz⟩:=I.tuple hq
  obtain⟨f0,f1,f2,f3,f4,f5⟩:=hf it (by simp)
  have hl:=rv.length
  exact wpAny_pyNext_tuple_end (I.ok.hd hc) st (show s.heap.IsTuple a its.toArray from p) (by simp;omega) λh' eb=>⟨rfl,I.turned (t':=s.toks) (λb o hb e=>eb b o hb e) f0 f1 f3 f4 f5⟩
 self:=λ_ _ _ _ _ st h=>wpAny_pyIter_tupleiter st h
theorem wb{P:Zo}{w:Zr}{K:PySem.W.Frag}{tg:Expr}(it:Zk)(lo:Int)(n:Nat):Turn P w K tg (Jl lo n) [it] it (λi h=>IsRangeIter h it (lo+(i:Nat) * 1) ((n:Int) - (i:Nat)) 1) where
 mem:=by simp
 obj:=λi h st b hb=>by
  have e:b=it:=by simpa using hb
  subst e
  exact⟨_,st,λv z=>by
   have z':Data.fields _=Data.cell v:=z
   cases z'⟩
 keep:=λi h h' st k=>k it (by simp) _ st
 item:=by
  intro X hP hw hK hc i pins s σ H E I hf st hg
  subst hP hw hK
  obtain⟨f0,f1,f2,f3,f4,f5⟩:=hf it (by simp)
  have W:=Walks.range (prog:=X.prog) (w:=X.w) (I.ok.hd hc) it lo 1 n
  refine W.item i s _ _ hg st λv h' tk hv st' kk=>?_
  obtain⟨t,rfl⟩:=hv
  have I1:Inv X pins σ H { s with heap:=h',toks:=tk }:=I.turned (λb o hb e=>kk b o (by simpa using hb) e) f0 f1 f3 f4 f5
  refine⟨_,rfl,qV (s:={ s with heap:=h',toks:=tk }) (n:="range_iterator") st' rfl rfl (by decide) ⟨.int (lo+i),H,I1,⟨t,?_⟩,⟨rfl,rfl⟩,st',λb hb=>(hf b hb).1⟩⟩
  rw[Int.mul_one]
 done:=by
  intro X hP hw hK hc i pins s σ H E I hf st hg
  subst hP hw hK
  obtain⟨f0,f1,f2,f3,f4,f5⟩:=hf it (by simp)
  exact wpAny_pyNext_range_end (I.ok.hd hc) st (by have:n<=i:=hg;omega) λh' eb=>⟨rfl,I.turned (t':=s.toks) (λb o hb e=>eb b o hb e) f0 f1 f3 f4 f5⟩
 self:=λ_ _ _ _ _ st h=>wpAny_pyIter_rangeiter st h
section
variable {X:Cx} {tg:Expr}
def Nw(K:PySem.W.Frag)(tl:TE):TI:=λσ H R=>tl σ H λx H1=>∃a,x= .ref a/\(∃xs,fB K H1 a xs)/\R (Rf K a) H1
theorem EZ{l:Expr}{tl:TE}(hl:PE X l tl):PI X tg l (Nw X.K tl):=by
 intro pins s σ H R I h
 refine bH (hl pins s σ H _ I h) λv s1 ⟨x,H1,I1,r1,q1⟩=>?_
 obtain⟨a,e,⟨xs,hq⟩,q⟩:=q1
 subst e
 cases r1
 obtain⟨its,rv,p,hz⟩:=I1.list hq
 refine wpAny_pyIter_list p.isList ?_
 refine⟨s1.heap.objs.size,[s1.heap.objs.size],_,_,H1,rfl,I1.kept (t':=s1.toks) λb o e=>aE _ e,qW a _,⟨_,bY _ rfl,rfl,rfl⟩,λb hb=>?_,q⟩
 have e:b=s1.heap.objs.size:=by simpa using hb
 subst e
 exact I1.nM (ak _) (I1.hok.fresh (ak _))
theorem Bm{pins:List (Zk×Obj)}{σ:St}{H:Hp}{s:Zp}{R:It->Hp->Prop}{E:Zq->Zp->Prop}{lo hi:Int}{t u v:Tok}{tk:Nat}(I:Inv X pins σ H s)(h1:-(2 ^ 62)<=lo)(h2:lo < 2 ^ 62)(h3:-(2 ^ 62)<=hi)(h4:hi < 2 ^ 62)
  (q:R (Jl lo (hi - lo).toNat) H):ZG (model X.prog X.w) X.A (pyIter (.ref s.heap.objs.size)) (UK X pins σ tg R) E { s with heap:=s.heap.push { cls:=.type "range",data:=.fields #[.int lo t,.int hi u,.int 1 v] },toks:=tk }:=by
 refine wpAny_pyIter_range (IsRange.new ..) (small_one h1 h2 h3 h4) ?_
 have I1:Inv X pins σ H { s with heap:=s.heap.push { cls:=.type "range",data:=.fields #[.int lo t,.int hi u,.int 1 v] },toks:=tk }:=I.kept λb o e=>aE _ e
 refine⟨(s.heap.push { cls:=.type "range",data:=.fields #[.int lo t,.int hi u,.int 1 v] }).objs.size,[(s.heap.push { cls:=.type "range",data:=.fields #[.int lo t,.int hi u,.int 1 v] }).objs.size],_,_,H,rfl,
  I1.kept (t':=tk) λb o e=>aE _ e,wb _ lo (hi - lo).toNat,?_,λb hb=>?_,q⟩
 ·have e1:lo+((0:Nat):Int) * 1=lo:=by simp
  have e2:(((hi - lo).toNat:Nat):Int) - ((0:Nat):Int)=Builtin.Range.rangeSize lo hi 1:=by rw[rangeSize_one];split<;>omega
  show IsRangeIter _ _ (lo+((0:Nat):Int) * 1) ((((hi - lo).toNat:Nat):Int) - ((0:Nat):Int)) 1
  rw[e1,e2]
  exact bY _ rfl
 ·have e:b=(s.heap.push { cls:=.type "range",data:=.fields #[.int lo t,.int hi u,.int 1 v] }).objs.size:=by simpa using hb
  subst e
  exact I1.nM (ak _) (I1.hok.fresh (ak _))
def Nx(ta:TA):TI:=λσ H R=>ta σ H λvs H1=>∃j:Int,vs=[.int j]/\-(2 ^ 62)<=j/\j < 2 ^ 62/\R (Jl 0 j.toNat) H1
theorem qX{a:Expr}{ta:TA}{p pos:Pos}(hg:Gl X "range")(hm:X.mg "range"=none)(ha:PA X [a] ta)(hs:ZF [a] X.env=[(false,eval a X.env)]:=by rfl):PI X tg (.Call (.Name "range" p) [a] [] pos) (Nx ta):=by
 intro pins s σ H R I h
 refine Call_ (fY I hg hm boot_range (iL (bH (ha pos pins s σ H _ I h) λus s1 ⟨vs,H1,I1,r1,q1⟩=>?_) hs rfl))
 obtain⟨j,e,q1,q2,q⟩:=q1
 subst e
 cases r1 with
 | cons r rr=>
  cases rr
  obtain⟨t,rfl⟩:=r
  exact call_range_1 (Bm I1 (by omega) (by omega) q1 q2 (by simpa using q))
def Rg(wi:TI)(g:TG)(tb:TS):TS:=λD σ H=>wi σ H λJ H1=>∃W:Nat->Nat->St->Hp->Prop,(∃m,W 0 m σ H1)/\∀i m σ H,W i m σ H->
 (J.stop i H/\D.nx σ H)\/(J.go i H/\∃N:St->Hp->Prop,(∀σ' H',N σ' H'->∃m',m' < m/\W (i+1) m' σ' H')/\∀x H',J.sg i H x H'->g x σ H' λσ2 H2=>tb { D with nx:=N,ct:=N,bk:=D.nx } σ2 H2)
def di(fp:List Zk)(h:Heap):List (Zk×Obj):=fp.filterMap λb=>(h.get? b).map λo=>(b,o)
theorem eG{fp:List Zk}{h:Heap}{b:Zk}{o:Obj}(hb:b∈fp)(e:h.get? b=some o):(b,o)∈di fp h:=List.mem_filterMap.mpr ⟨b,hb,by rw[e];rfl⟩
theorem zx{fp:List Zk}{h:Heap}{p:Zk×Obj}(hp:p∈di fp h):p.1∈fp/\h.get? p.1=some p.2:=by
 obtain⟨b,hb,e⟩:=List.mem_filterMap.mp hp
 cases q:h.get? b with
 | none=>rw[q] at e;cases e
 | some o=>
  rw[q] at e
  have e':(b,o)=p:=Option.some.inj e
  subst e'
  exact⟨hb,q⟩
theorem Inv.pinned{pins:List (Zk×Obj)}{σ:St}{H:Hp}{s:Zp}{fp:List Zk}(I:Inv X pins σ H s)(hf:∀b∈fp,cG X pins H b)(ho:∀b∈fp,∃o,s.heap.get? b=some o/\∀v,o.data≠.cell v):Inv X (pins++di fp s.heap) σ H s :=
 I.xO λp hp=>(List.mem_append.mp hp).elim (λz=>I.pin p (cW _ z)) λz=>by
  obtain⟨hb,e⟩:=zx z
  obtain⟨f0,f1,f2,_⟩:=hf p.1 hb
  obtain⟨o,e',d⟩:=ho p.1 hb
  rw[e] at e';cases e'
  exact⟨e,f0,f1,f2,d⟩
theorem Inv.jj{pins pl:List (Zk×Obj)}{σ:St}{H:Hp}{s:Zp}(I:Inv X (pins++pl) σ H s):Inv X pins σ H s:=I.xO λp hp=>I.pin p (cW _ (kY _ hp))
theorem sh{iter:Expr}{body:List Stmt}{wi:TI}{g:TG}{tb:TS}{pos:Pos}(hp:PassesOwn (model X.prog X.w) X.A X.env X.xe)(hc:X.calm=true)(hi:PI X tg iter wi)(hg:PG X tg g)(hb:Bg X body tb)
  (hs:∀x,Zy iter X.env x=pure x:=by intro _;rfl):PS X (.For tg iter body [] pos) (Rg wi g tb):=by
 intro pins s σ H D I h
 refine wpAny_For (bH (hi pins s σ H _ I h) λv s1 h1=>bH h1 λitv s2 h2=>?_) hs
 obtain⟨it,fp,tn,J,H2,e,I2,T,st2,f2,W,⟨m0,w0⟩,turn⟩:=h2
 subst e
 -- what stays true of the Jm objects through the loop
 have Jn:∀{H':Hp},(∀b∈fp,H' b=none)->∀b∈fp,cG X pins H' b:=λhn b hb=>⟨hn b hb,(f2 b hb).2⟩
 refine codeAny_forLoop_any (λn s'=>∃i σ' H',Inv X pins σ' H' s'/\tn i s'.heap/\(∀b∈fp,H' b=none)/\W i n σ' H') ?_ m0 ⟨0,σ,H2,I2,st2,λb hb=>(f2 b hb).1,w0⟩
 rintro n s3 ⟨i,σ3,H3,I3,st3,UM,w3⟩
 rcases turn i n σ3 H3 w3 with ⟨stop,qn⟩ | ⟨go,N,hN,step⟩
 ·refine wpAny_passesOwn hp (bH (T.done X rfl rfl rfl hc i pins s3 σ3 H3 X.xe I3 (Jn UM) st3 stop) λr s4 ⟨hr,I4⟩=>?_)
  subst hr
  exact wpAny_execs_nil ⟨σ3,H3,I4,qn⟩
 ·refine wpAny_passesOwn hp (bH (T.item X rfl rfl rfl hc i pins s3 σ3 H3 X.xe I3 (Jn UM) st3 go) λr s4 ⟨u,hr,h4⟩=>?_)
  subst hr
  refine wpAny_passesOwn hp (bH h4 λ_ s5 ⟨x,H5,I5,r5,y5,uu,Jo⟩=>?_)
  have Wd:=I5.pinned (Jn Jo) (T.obj _ _ uu)
  refine wpAny_passesOwn hp (bH (hg _ s5 σ3 H5 x u _ Wd r5 (step x H5 y5)) λ_ s6 ⟨σ6,H6,I6,q6⟩=>?_)
  refine wpAny_passesOwn hp (bH (hb _ s6 σ6 H6 _ I6 q6) λf s7 q7=>?_)
  have again:∀{σ7:St}{H7:Hp},Inv X (pins++di fp s5.heap) σ7 H7 s7->N σ7 H7->∃m,m < n/\∃i σ' H',Inv X pins σ' H' s7/\tn i s7.heap/\(∀b∈fp,H' b=none)/\W i m σ' H':=λ{σ7 H7} I7 n7=>by
   obtain⟨m',hm,w7⟩:=hN σ7 H7 n7
   refine⟨m',hm,i+1,σ7,H7,I7.jj,T.keep _ _ _ uu λb hb o e=>(I7.pin (b,o) (cW _ (cW _ (eG hb e)))).1,λb hb=>?_,w7⟩
   obtain⟨o,e,d⟩:=T.obj _ _ uu b hb
   exact(I7.pin (b,o) (cW _ (cW _ (eG hb e)))).2.1
  cases f with
  | next=>obtain⟨σ7,H7,I7,n7⟩:=q7;exact again I7 n7
  | cont=>obtain⟨σ7,H7,I7,n7⟩:=q7;exact again I7 n7
  | brk=>obtain⟨σ7,H7,I7,q7⟩:=q7;exact⟨σ7,H7,I7.jj,q7⟩
  | ret v=>obtain⟨x7,σ7,H7,I7,r7,q7⟩:=q7;exact⟨x7,σ7,H7,I7.jj,r7,q7⟩
end
abbrev R2:=V->V->Hp->VK->Prop
def dN(X:Cx)(f:Zq->Zq->Sem Zq)(r:R2):Prop :=
 ∀(pins:List (Zk×Obj))(s:Zp)(σ:St)(H:Hp)(x y:V)(v u:Zq)(Q:VK),Inv X pins σ H s->RelV x v->RelV y u->r x y H Q->
  ZG (model X.prog X.w) X.A (f v u) (EP X pins σ Q) X.xe s
def Rh(X:Cx)(f:Zq->Sem Zq)(r:V->Hp->VK->Prop):Prop :=
 ∀(pins:List (Zk×Obj))(s:Zp)(σ:St)(H:Hp)(x:V)(v:Zq)(Q:VK),Inv X pins σ H s->RelV x v->r x H Q->
  ZG (model X.prog X.w) X.A (f v) (EP X pins σ Q) X.xe s
def dG(X:Cx)(f:Zq)(r:List V->Hp->VK->Prop):Prop :=
 ∀(pins:List (Zk×Obj))(s:Zp)(σ:St)(H:Hp)(xs:List V)(us:List Zq)(Q:VK),Inv X pins σ H s->Vals xs us->r xs H Q->
  ZG (model X.prog X.w) X.A (call f us) (EP X pins σ Q) X.xe s
def Ri(X:Cx)(r:V->Hp->(Bool->Hp->Prop)->Prop):Prop :=
 ∀(pins:List (Zk×Obj))(s:Zp)(σ:St)(H:Hp)(x:V)(v:Zq)(Q:Bool->Hp->Prop),Inv X pins σ H s->RelV x v->r x H Q->
  ZG (model X.prog X.w) X.A (truthy v) (TP X pins σ Q) X.xe s
def Ny(r:R2)(ta tb:TE):TE:=λσ H Q=>ta σ H λx H1=>tb σ H1 λy H2=>r x y H2 Q
def We(r:V->Hp->VK->Prop)(ta:TE):TE:=λσ H Q=>ta σ H λx H1=>r x H1 Q
def rI(C:Int->Int->Prop)(g:Int->Int->V):R2:=λx y H Q=>∃i j,x= .int i/\y= .int j/\C i j/\Q (g i j) H
def Hu(g:Int->Int->V):R2:=λx y H Q=>∃i j,x= .int i/\y= .int j/\Q (g i j) H
def rU(g:Int->V):V->Hp->VK->Prop:=λx H Q=>∃i,x= .int i/\Q (g i) H
section
variable {X:Cx} {a b c:Expr} {ta tb tc:TE} {pos:Pos}
theorem Jp(ha:PE X a ta)(hb:PE X b tb){pins:List (Zk×Obj)}{s:Zp}{σ:St}{H:Hp}{R:V->V->Hp->Prop}(I:Inv X pins σ H s)
  (h:ta σ H λx H1=>tb σ H1 λy H2=>R x y H2){Q:Zq->Zp->Prop}{f:Zq->Zq->Sem Zq}
  (hf:∀v u s2 x y H2,Inv X pins σ H2 s2->RelV x v->RelV y u->R x y H2->ZG (model X.prog X.w) X.A (f v u) Q X.xe s2) :
  ZG (model X.prog X.w) X.A (eval a X.env) (λv s₁=>ZG (model X.prog X.w) X.A (eval b X.env) (λu s₂=>ZG (model X.prog X.w) X.A (f v u) Q X.xe s₂) X.xe s₁) X.xe s:=by
 refine bH (ha pins s σ H _ I h) λv s1 ⟨x,H1,I1,r1,q1⟩=>?_
 refine bH (hb pins s1 σ H1 _ I1 q1) λu s2 ⟨y,H2,I2,r2,q2⟩=>?_
 exact hf v u s2 x y H2 I2 r1 r2 q2
theorem Nz{op:Operator}{r:R2}(ho:dN X (Zt op) r)(ha:PE X a ta)(hb:PE X b tb):PE X (.BinOp a op b pos) (Ny r ta tb):=by
 intro pins s σ H Q I h
 exact wpAny_BinOp (Jp ha hb I h λv u s2 x y H2 I2 rx ry q=>ho pins s2 σ H2 x y v u Q I2 rx ry q)
theorem NA{op:UnaryOp}{r:V->Hp->VK->Prop}(ho:Rh X (unaryOp op) r)(ha:PE X a ta):PE X (.UnaryOp op a pos) (We r ta):=by
 intro pins s σ H Q I h
 exact UnaryOp_ (bH (ha pins s σ H _ I h) λv s1 ⟨x,H1,I1,r1,q1⟩=>ho pins s1 σ H1 x v Q I1 r1 q1)
theorem Qf{f:Zq->Zq->Sem Zq}{C:Int->Int->Prop}{g:Int->Int->Int}
  (rule:∀(i j:Int)(t u:Tok)(s:Zp)(Q:Zq->Zp->Prop)(E:Zq->Zp->Prop),C i j->Q (.int (g i j) s.toks) { s with toks:=s.toks+1 }->ZG (model X.prog X.w) X.A (f (.int i t) (.int j u)) Q E s) :
  dN X f (rI C λi j=> .int (g i j)):=by
 intro pins s σ H x y v u Q I rx ry h
 obtain⟨i,j,rfl,rfl,hc,q⟩:=h
 obtain⟨t,rfl⟩:=rx
 obtain⟨t',rfl⟩:=ry
 exact rule i j t t' s _ _ hc ⟨.int (g i j),H,I.tok _,⟨_,rfl⟩,q⟩
theorem NC{f:Zq->Zq->Sem Zq}{g:Int->Int->Int}
  (rule:∀(i j:Int)(t u:Tok)(s:Zp)(Q:Zq->Zp->Prop)(E:Zq->Zp->Prop),Q (.int (g i j) s.toks) { s with toks:=s.toks+1 }->ZG (model X.prog X.w) X.A (f (.int i t) (.int j u)) Q E s) :
  dN X f (Hu λi j=> .int (g i j)):=by
 intro pins s σ H x y v u Q I rx ry h
 obtain⟨i,j,rfl,rfl,q⟩:=h
 obtain⟨t,rfl⟩:=rx
 obtain⟨t',rfl⟩:=ry
 exact rule i j t t' s _ _ ⟨.int (g i j),H,I.tok _,⟨_,rfl⟩,q⟩
theorem E1{f:Zq->Zq->Sem Zq}{g:Int->Int->Bool}
  (rule:∀(i j:Int)(t u:Tok)(s:Zp)(Q:Zq->Zp->Prop)(E:Zq->Zp->Prop),Q (.bool (g i j)) s->ZG (model X.prog X.w) X.A (f (.int i t) (.int j u)) Q E s) :
  dN X f (Hu λi j=> .bl (g i j)):=by
 intro pins s σ H x y v u Q I rx ry h
 obtain⟨i,j,rfl,rfl,q⟩:=h
 obtain⟨t,rfl⟩:=rx
 obtain⟨t',rfl⟩:=ry
 exact rule i j t t' s _ _ ⟨.bl (g i j),H,I,rfl,q⟩
def Rj(i j:Int):Prop:=0<=j/\j<=1000000/\i.natAbs < 2 ^ 64
theorem Jq:dN X (Zt .Add) (Hu λi j=> .int (i+j)):=NC λ_ _ _ _ _ _ _ q=>add_int q
theorem Jr:dN X (Zt .Sub) (Hu λi j=> .int (i - j)):=NC λ_ _ _ _ _ _ _ q=>sub_int q
theorem Js:dN X (Zt .Pow) (rI Rj λi j=> .int (i ^ j.toNat)):=Qf λ_ _ _ _ _ _ _ hc q=>pow_int_small hc.1 hc.2.1 hc.2.2 q
theorem Wf{f:Zq->Sem Zq}{g:Int->Int}
  (rule:∀(i:Int)(t:Tok)(s:Zp)(Q:Zq->Zp->Prop)(E:Zq->Zp->Prop),Q (.int (g i) s.toks) { s with toks:=s.toks+1 }->ZG (model X.prog X.w) X.A (f (.int i t)) Q E s) :
  Rh X f (rU λi=> .int (g i)):=by
 intro pins s σ H x v Q I rx h
 obtain⟨i,rfl,q⟩:=h
 obtain⟨t,rfl⟩:=rx
 exact rule i t s _ _ ⟨.int (g i),H,I.tok _,⟨_,rfl⟩,q⟩
theorem Jt:Rh X (unaryOp .USub) (rU λi=> .int (-i)):=Wf λ_ _ _ _ _ q=>neg_int q
end
section
variable {X:Cx} {a b c:Expr} {ta tb tc:TE} {pos:Pos}
theorem si{pins:List (Zk×Obj)}{σ:St}{H:Hp}{s:Zp}{Q:VK}{k k':Bool}(I:Inv X pins σ H s)(q:Q (.bl k) H)(e:k=k'):EP X pins σ Q (.bool k') s:=by
 subst e
 exact⟨.bl k,H,I,rfl,q⟩
theorem ND:dN X (Zx .Lt) (Hu λi j=> .bl (decide (i < j))):=E1 λ_ _ _ _ _ _ _ q=>lt_int q
theorem NF:dN X (Zx .LtE) (Hu λi j=> .bl (decide (i<=j))):=E1 λ_ _ _ _ _ _ _ q=>le_int q
theorem NG:dN X (Zx .Gt) (Hu λi j=> .bl (decide (j < i))):=E1 λ_ _ _ _ _ _ _ q=>gt_int q
theorem NH:dN X (Zx .GtE) (Hu λi j=> .bl (decide (j<=i))):=E1 λ_ _ _ _ _ _ _ q=>ge_int q
theorem zy:dN X (Zx .Lt) (λx y H Q=>∃i j,x= .str i/\y= .str j/\Q (.bl (decide (i.cps.toList < j.cps.toList))) H):=by
 intro pins s σ H x y v u Q I rx ry h
 obtain⟨i,j,rfl,rfl,q⟩:=h
 obtain⟨t,rfl⟩:=rx
 obtain⟨t',rfl⟩:=ry
 exact lt_str (si I q rfl)
theorem zE:dN X (Zx .In) (λx y H Q=>∃i j,x= .str i/\y= .str j/\Q (.bl (!(mn j i 0 j.length 1).isEmpty)) H):=by
 intro pins s σ H x y v u Q I rx ry h
 obtain⟨i,j,rfl,rfl,q⟩:=h
 obtain⟨t,rfl⟩:=rx
 obtain⟨t',rfl⟩:=ry
 exact in_str (si I q rfl)
theorem Ju:dN X (Zx .Is) (λx y H Q=>y= .aP/\Q (.bl (decide (x= .aP))) H):=by
 intro pins s σ H x y v u Q I rx ry h
 obtain⟨rfl,q⟩:=h
 cases ry
 refine is_none_gen (si I q ?_)
 cases x<;>first
  | (cases rx;rfl)
  | (obtain⟨t,rfl⟩:=rx;rfl)
theorem E2:dN X (Zx .IsNot) (λx y H Q=>y= .aP/\Q (.bl (!decide (x= .aP))) H):=by
 intro pins s σ H x y v u Q I rx ry h
 obtain⟨rfl,q⟩:=h
 cases ry
 refine isnot_none_gen (si I q ?_)
 cases x<;>first
  | (cases rx;rfl)
  | (obtain⟨t,rfl⟩:=rx;rfl)
theorem E3{op:CmpOp}{r:R2}(ho:dN X (Zx op) r)(ha:PE X a ta)(hb:PE X b tb)(hm:Zs op b=false):PE X (.Compare a [op] [b] pos) (Ny r ta tb):=by
 intro pins s σ H Q I h
 exact wpAny_Compare1 (Jp ha hb I h λv u s2 x y H2 I2 rx ry q=>ho pins s2 σ H2 x y v u Q I2 rx ry q) hm
def Hv(t:TE):TT:=λσ H Q=>t σ H λx H'=>∃k,x= .bl k/\Q k H'
theorem E4{op:CmpOp}{r:R2}(ho:dN X (Zx op) r)(ha:PE X a ta)(hb:PE X b tb)(hm:Zs op b=false):PT X (.Compare a [op] [b] pos) (Hv (Ny r ta tb)):=by
 intro pins s σ H Q I h
 refine wpAny_isTrue_Compare1 (bH (ha pins s σ H _ I h) λv s1 ⟨x,H1,I1,r1,q1⟩=>bH (hb pins s1 σ H1 _ I1 q1) λu s2 ⟨y,H2,I2,r2,q2⟩=>
  bH (ho pins s2 σ H2 x y v u _ I2 r1 r2 q2) λc s3 ⟨z,H3,I3,r3,k,e,q3⟩=>?_) hm
 subst e
 cases r3
 exact ZN ⟨H3,I3,q3⟩
def wc(r r':R2)(ta tb tc:TE):TE:=λσ H Q=>ta σ H λx H1=>tb σ H1 λy H2=>r x y H2 λz H3=>∃k,z= .bl k/\
 (if k=true then tc σ H3 λw' H4=>r' y w' H4 Q else Q (.bl false) H3)
theorem Bn{op op':CmpOp}{r r':R2}(ho:dN X (Zx op) r)(ho':dN X (Zx op') r')(ha:PE X a ta)(hb:PE X b tb)(hc:PE X c tc)
  (hm:lastMarks [op,op'] [b,c]=false:=by with_unfolding_all rfl):PE X (.Compare a [op,op'] [b,c] pos) (wc r r' ta tb tc):=by
 intro pins s σ H Q I h
 refine Compare_chain (bH (ha pins s σ H _ I h) λv s1 ⟨x,H1,I1,r1,q1⟩=>chain_link (bH (hb pins s1 σ H1 _ I1 q1) λu s2 ⟨y,H2,I2,r2,q2⟩=>
  bH (ho pins s2 σ H2 x y v u _ I2 r1 r2 q2) λd s3 ⟨z,H3,I3,r3,k,e,q3⟩=>?_)) hm
 subst e
 cases r3
 refine ZN ?_
 cases k with
 | false=>exact ite_ff ⟨.bl false,H3,I3,rfl,q3⟩
 | true=>exact ite_tt (chain_last (bH (hc pins s3 σ H3 _ I3 q3) λw' s4 ⟨z',H4,I4,r4,q4⟩=>ho' pins s4 σ H4 y z' u w' Q I4 r2 r4 q4))
theorem Bo{op op':CmpOp}{r r':R2}(ho:dN X (Zx op) r)(ho':dN X (Zx op') r')(ha:PE X a ta)(hb:PE X b tb)(hc:PE X c tc)
  (hm:lastMarks [op,op'] [b,c]=false:=by with_unfolding_all rfl):PT X (.Compare a [op,op'] [b,c] pos) (Hv (wc r r' ta tb tc)):=by
 intro pins s σ H Q I h
 refine isTrue_chain (bH (ha pins s σ H _ I h) λv s1 ⟨x,H1,I1,r1,q1⟩=>test_link (bH (hb pins s1 σ H1 _ I1 q1) λu s2 ⟨y,H2,I2,r2,q2⟩=>
  bH (ho pins s2 σ H2 x y v u _ I2 r1 r2 q2) λd s3 ⟨z,H3,I3,r3,k,e,q3⟩=>?_)) hm
 subst e
 cases r3
 refine ZN ?_
 cases k with
 | false=>
  obtain⟨k',e',q'⟩:=q3
  cases e'
  exact ite_ff ⟨H3,I3,q'⟩
 | true=>
  refine ite_tt (test_last (bH (hc pins s3 σ H3 _ I3 q3) λw' s4 ⟨z',H4,I4,r4,q4⟩=>bH (ho' pins s4 σ H4 y z' u w' _ I4 r2 r4 q4) λd' s5 ⟨z2,H5,I5,r5,k2,e2,q5⟩=>?_))
  subst e2
  cases r5
  exact ZN ⟨H5,I5,q5⟩
def NI(K:PySem.W.Frag)(x:V)(H:Hp)(k:Bool):Prop :=
 match x with
 | .aP=>k=false
 | .bl b=>k=b
 | .int i=>k=(i != 0)
 | .str y=>y.length<=ZE/\k=((y.length:Int) != 0)
 | .MS y=>y.size<=ZE/\k=((y.size:Int) != 0)
 | .ref p=>(∃xs,fB K H p xs/\k= !xs.isEmpty)\/(∃xs,dh K H p xs/\k= !xs.isEmpty)\/∃kvs,H p=some (.dK kvs)/\k= !kvs.isEmpty
 | _=>False
theorem we{κ:Type}{kvs:List (κ×V)}{vs:List (κ×Zq)}(r:KV kvs vs):(!vs.isEmpty)= !kvs.isEmpty:=by
 cases r<;>rfl
theorem oN{xs:List V}{its:List Zq}(r:Vals xs its):(!its.toArray.isEmpty)= !xs.isEmpty:=by
 cases r<;>simp
theorem ky:(ZE:Nat) < 2 ^ 63:=by rw[sizeLine_eq];decide
theorem Jv:Ri X (λx H Q=>∃k,NI X.K x H k/\Q k H):=by
 intro pins s σ H x v Q I rx h
 obtain⟨k,e,q⟩:=h
 have hl:=ky
 have hs:ZE=16777216:=sizeLine_eq
 cases x with
 | aP=>
  cases rx
  have e':k=false:=e
  subst e'
  exact truthy_none ⟨H,I,q⟩
 | bl b=>
  cases rx
  have e':k=b:=e
  subst e'
  exact ZN ⟨H,I,q⟩
 | int i=>
  obtain⟨t,rfl⟩:=rx
  have e':k=(i != 0):=e
  subst e'
  exact PySem.P.truthy_int ⟨H,I,q⟩
 | str y=>
  obtain⟨t,rfl⟩:=rx
  obtain⟨hy,e'⟩:y.length<=ZE/\k=((y.length:Int) != 0):=e
  subst e'
  exact PySem.P.truthy_str (by omega) ⟨H,I.tok _,q⟩
 | MS y=>
  obtain⟨t,rfl⟩:=rx
  obtain⟨hy,e'⟩:y.size<=ZE/\k=((y.size:Int) != 0):=e
  subst e'
  exact PySem.W.truthy_bytes (by omega) ⟨H,I.tok _,q⟩
 | ref p=>
  cases rx
  have e':(∃xs,fB X.K H p xs/\k= !xs.isEmpty)\/(∃xs,dh X.K H p xs/\k= !xs.isEmpty)\/∃kvs,H p=some (.dK kvs)/\k= !kvs.isEmpty:=e
  rcases e' with ⟨xs,hx,e'⟩ | ⟨xs,hx,e'⟩ | ⟨kvs,hx,e'⟩
  ·subst e'
   obtain⟨its,r,pl,hz⟩:=I.list hx
   have hlen:=r.length
   exact wpAny_truthy_list pl.isList (by simp only[aT];omega) ⟨H,I.tok _,by rw[oN r];exact q⟩
  ·subst e'
   obtain⟨its,r,pl,hz⟩:=I.tuple hx
   have hlen:=r.length
   exact truthy_tuple pl (by simp only[aT];omega) ⟨H,I.tok _,by rw[oN r];exact q⟩
  ·subst e'
   obtain⟨hz,hS,vs,r,m⟩:kvs.length<=ZE/\(p == sysModules)=false/\∃vs,KV kvs vs/\s.heap.DictOf (r6 X.prog X.w) p vs:=I.hok p _ hx
   have hlen:kvs.length=vs.length:=Paired.length r
   exact wpAny_truthy_dict hS m (by omega) ⟨H,I.tok _,by rw[we r];exact q⟩
 | _=>exact(show False from e).elim
theorem Bp(ha:PE X a ta)(he:∀whole,isTrue a X.env whole=(do let v <-whole;standAt a.pos;holding [v] (truthy v))) :
  PT X a (λσ H Q=>ta σ H λx H'=>∃k,NI X.K x H' k/\Q k H'):=by
 intro pins s σ H Q I h
 exact isTrue_plain (bH (ha pins s σ H _ I h) λv s1 ⟨x,H1,I1,r1,q1⟩=>Jv pins s1 σ H1 x v Q I1 r1 q1) (he _)
theorem wg:dN X (Zt .Add) (λx y H Q=>∃i j,x= .str i/\y= .str j/\i.length+j.length<=ZE/\Q (.str (i++j)) H):=by
 intro pins s σ H x y v u Q I rx ry h
 obtain⟨i,j,rfl,rfl,hz,q⟩:=h
 obtain⟨t,rfl⟩:=rx
 obtain⟨t',rfl⟩:=ry
 exact add_str (λt' tk=>⟨.str (i++j),H,I.tok _,⟨_,rfl⟩,q⟩) hz
theorem vals1{x:V}{us:List Zq}(r:Vals [x] us):∃u,us=[u]/\RelV x u:=by
 cases r with
 | cons r1 r2=>cases r2;exact⟨_,rfl,r1⟩
theorem vals2{x y:V}{us:List Zq}(r:Vals [x,y] us):∃u w',us=[u,w']/\RelV x u/\RelV y w':=by
 cases r with
 | cons r1 r2=>
  cases r2 with
  | cons r3 r4=>cases r4;exact⟨_,_,rfl,r1,r3⟩
theorem zF:dG X (.type "int") (λxs H Q=>(∃i,xs=[.int i]/\Q (.int i) H)\/∃k,xs=[.bl k]/\Q (.int (if k then 1 else 0)) H):=by
 intro pins s σ H xs us Q I r h
 rcases h with ⟨i,rfl,q⟩ | ⟨k,rfl,q⟩
 ·obtain⟨u,rfl,t,rfl⟩:=vals1 r
  exact call_int_int ⟨.int i,H,I,⟨_,rfl⟩,q⟩
 ·obtain⟨u,rfl,r1⟩:=vals1 r
  cases r1
  exact call_int_bool ⟨.int (if k then 1 else 0),H,I.tok _,⟨_,rfl⟩,q⟩
end
section
variable {prog:Zo} {w:Zr} {A:Zl} {E:Zq->Zp->Prop} {s:Zp} {K:PySem.W.Frag} {x dx C f:Zk} {mA:Str->Option Zq} {name:Str} {v:Zq}
end
section
variable {P:Zo} {w:Zr} {H H':Hp} {h h':Heap} {a C dx:Zk} {fs fs':List (Str×V)}
end
section
variable {X:Cx} {pins:List (Zk×Obj)} {σ:St} {H:Hp} {s:Zp} {a C dx:Zk} {fs:List (Str×V)} {f:Str} {v:V} {A:Zl} {E:Zq->Zp->Prop}
end
section
variable {X:Cx} {o e value:Expr} {f:Str} {pos pos' tpos:Pos} {ta tv:TE}
end
section
variable {X:Cx} {pins:List (Zk×Obj)} {σ:St} {H:Hp} {s:Zp} {A:Zl} {E:Zq->Zp->Prop} {Q:Zq->Zp->Prop} {c:Zq} {b:Bool}
end
structure dD(k:Nat)(A:Zl):Prop where
 hd:A.handled=none
 dp:A.depth+3 * k+5 < recursionLimit
 un:A.units+16 * k+200 < cLine
theorem dD.mono{j k:Nat}{A:Zl}(r:dD k A)(h:j<=k):dD j A:=⟨r.hd,by have:=r.dp;omega,by have:=r.un;omega⟩
theorem dD.deeper{k:Nat}{A:Zl}(r:dD (k+1) A)(env:Env):dD k (A.deeper env) :=
 ⟨r.hd,by have:=r.dp;show A.depth+1+3 * k+5 < _;omega,by have:=r.un;show A.units+3+16 * k+200 < _;omega⟩
theorem dD.in1{k:Nat}{A:Zl}(r:dD (k+1) A):dD k A.in1 :=
 ⟨r.hd,by have:=r.dp;show A.depth+3 * k+5 < _;omega,by have:=r.un;show A.units+1+16 * k+200 < _;omega⟩
theorem dD.depth{k:Nat}{A:Zl}(r:dD k A):A.depth < recursionLimit:=by have:=r.dp;omega
def Rk:TA:=λ_ H Q=>Q [] H
def NJ(ta:TE)(tr:TA):TA:=λσ H Q=>ta σ H λx H1=>tr σ H1 λxs H2=>Q (x::xs) H2
section
variable {X:Cx} {e:Expr} {es:List Expr} {te:TE} {t:TA} {pos:Pos}
theorem Jw:PA X [] Rk:=λ_ _ _ _ H Q I h=>oO ⟨[],H,I,.nil,h⟩
theorem E5(ha:PE X e te)(hr:PA X es t)(hs:ZF (e::es) X.env=(false,eval e X.env)::ZF es X.env:=by rfl):PA X (e::es) (NJ te t):=by
 intro pos pins s σ H Q I h
 rw[hs]
 show ZG _ _ (spliced ((false,eval e X.env)::backTo pos (ZF es X.env))) _ _ s
 refine mq (bH (ha pins s σ H _ I h) λu s1 ⟨x,H1,I1,r1,q1⟩=>?_)
 exact bH (hr pos pins s1 σ H1 _ I1 q1) λus s2 ⟨xs,H2,I2,r2,q2⟩=>⟨x::xs,H2,I2,.cons r1 r2,q2⟩
def Rl(t:TA):TE:=λσ H Q=>t σ H λxs H1=>xs.length<=ZE/\∀p,H1 p=none->Q (.ref p) (upd H1 p (.tup xs))
def Rm(t:TA):TE:=λσ H Q=>t σ H λxs H1=>xs.length<=ZE/\∀p,H1 p=none->Q (.ref p) (upd H1 p (.lst xs))
theorem Jx{x1}(h:PA X es t):PE X (.Tuple es x1 pos) (Rl t):=by
 intro pins s σ H Q I hq
 refine wpAny_Tuple_spliced (bH (h pos pins s σ H _ I hq) λus s1 ⟨xs,H1,I1,r,z,q⟩=>⟨by rw[<-r.length];exact z,?_⟩)
 have hf:H1 s1.heap.objs.size=none:=I1.hok.fresh (ak _)
 refine⟨.ref s1.heap.objs.size,upd H1 s1.heap.objs.size (.tup xs),I1.laid (t':=s1.toks) (λb u e=>aE _ e) (ak _) ?_,rfl,q _ hf⟩
 exact⟨z,us,r,⟨_,bY _ rfl,rfl,_,rfl⟩,v7.new _ _⟩
theorem Jy(h:PA X es t):PE X (.List es pos) (Rm t):=by
 intro pins s σ H Q I hq
 refine wpAny_List_spliced (bH (h pos pins s σ H _ I hq) λus s1 ⟨xs,H1,I1,r,z,q⟩=>⟨by rw[<-r.length];exact z,?_⟩)
 have hf:H1 s1.heap.objs.size=none:=I1.hok.fresh (ak _)
 refine⟨.ref s1.heap.objs.size,upd H1 s1.heap.objs.size (.lst xs),I1.laid (t':=s1.toks) (λb u e=>aE _ e) (ak _) ?_,rfl,q _ hf⟩
 exact⟨z,us,0,r,bY _ rfl⟩
end
abbrev Sp:=List V->Hp->VK->XK->Prop
abbrev A7:=List Env->Hp->Zp->XK->Zq->Zp->Prop
structure mv(P:Zo)(w:Zr)(K:PySem.W.Frag)(mg:Str->Option Zq)(base:Heap)(A:Zl)(outer:List Env)(s:Zp)(H:Hp):Prop where
 frames:A.frames=some outer
 mod:Mod K mg base
 bs:∀b o,base.get? b=some o->s.heap.get? b=some o/\H b=none
 A6:base.objs.size<=s.heap.objs.size
 jh:s.heap.FunFrames base outer
 EA:∀b∈frs outer,H b=none
 hok:j9 P w H s.heap
 bare:AllBare s.gens
def CE(outer:List Env)(P:Zo)(w:Zr)(H:Hp)(s:Zp)(Q:VK)(u:Zq)(s':Zp):Prop :=
 ∃v H',s'.os=s.os/\AllBare s'.gens/\Un (frs outer) [] H H' s.heap s'.heap/\j9 P w H' s'.heap/\RelV v u/\Q v H'
def CR(CX:A7)(outer:List Env)(P:Zo)(w:Zr)(H:Hp)(s:Zp)(Q:VK)(E:XK)(r:Result)(s':Zp):Prop :=
 match r with
 | .ok (.ret u)=>CE outer P w H s Q u s'
 | .ok _=>False
 | .error e=>CX outer H s E e s'
structure FnOk(P:Zo)(w:Zr)(K:PySem.W.Frag)(mg:Str->Option Zq)(base:Heap)(CX:A7)(k:Nat)(f:Zk)(fd:Zm)(ps:List Str)(sp:Sp):Prop where
 len:∀vs H Q E,sp vs H Q E->vs.length=ps.length
 run:∀(A:Zl)(outer:List Env)(s:Zp)(H:Hp)(args:Args)(us:List Zq)(vs:List V)(Q:VK)(E:XK),dD k A->mv P w K mg base A outer s H->BindsTo s fd args (ps.zip us)->Vals vs us->sp vs H Q E->
  Zv (model P w) A (.call (.ref f) args) (CR CX outer P w H s Q E) s
theorem FnOk.mono{P:Zo}{w:Zr}{K:PySem.W.Frag}{mg:Str->Option Zq}{base:Heap}{CX:A7}{j k:Nat}{f:Zk}{fd:Zm}{ps:List Str}{sp:Sp}(F:FnOk P w K mg base CX j f fd ps sp)(h:j<=k) :
  FnOk P w K mg base CX k f fd ps sp:=⟨F.len,λA outer s H args us vs Q E hr=>F.run A outer s H args us vs Q E (hr.mono h)⟩
theorem mv.in1{P:Zo}{w:Zr}{K:PySem.W.Frag}{mg:Str->Option Zq}{base:Heap}{A:Zl}{outer:List Env}{s:Zp}{H:Hp}(e:mv P w K mg base A outer s H) :
  mv P w K mg base A.in1 outer s H:=⟨e.frames,e.mod,e.bs,e.A6,e.jh,e.EA,e.hok,e.bare⟩
section
variable {X:Cx} {pins:List (Zk×Obj)} {σ:St} {H:Hp} {s s':Zp}
theorem Inv.Jz(I:Inv X pins σ H s):mv X.prog X.w X.K X.mg X.base X.A X.stack s H :=
 ⟨I.ok.frames,I.ok.mod,I.bs,bE I.ok.A6 I.sz,I.stack,I.gH,I.hok,I.bare⟩
theorem Inv.after{Q:VK}{u:Zq}(I:Inv X pins σ H s)(h:CE X.stack X.prog X.w H s Q u s'):EP X pins σ Q u s':=by
 obtain⟨v,H',os,bare,un,hok,r,q⟩:=h
 obtain⟨hh,g,d,t,os'⟩:=s'
 obtain rfl:os'=s.os:=os
 exact⟨v,H',I.call (h':=hh) (g':=g) (d':=d) (t':=t) (ch:=[]) un hok bare (λb z=>absurd z (by simp)),r,q⟩
end
def Binds(K:PySem.W.Frag)(fd:Zm)(ps:List Str)(ds:List Zq):Prop :=
 ∀(s:Zp)(us:List Zq),K.In s.heap->(us++ds).length=ps.length->BindsTo s fd ⟨us,[]⟩ (ps.zip (us++ds))
theorem Binds.all{K:PySem.W.Frag}{fd:Zm}{ps:List Str}(h:∀us:List Zq,us.length=ps.length->bindArgs fd ⟨us,[]⟩=pure (ps.zip us)):Binds K fd ps []:=λs us _ hl=>by
 rw[hX] at hl ⊢
 exact .of_eq (h us hl)
section
variable {X:Cx} {CX:A7} {k:Nat} {f C:Zk} {fd:Zm} {ps:List Str} {sp:Sp} {Yy:List V} {ds:List Zq} {E:XK} {x m:Str} {p pos apos:Pos} {e o:Expr} {es:List Expr} {ta:TE} {t:TA}
end
section
variable {X:Cx} {CX:A7} {k:Nat} {f C:Zk} {fd:Zm} {ps ks:List Str} {sp:Sp} {E:XK} {x m:Str} {p pos apos kpos:Pos} {e o:Expr} {es:List Expr} {kws:List Keyword} {te ta:TE} {t tk:TA} {nm:Option Str}
variable {g:List Zq->List Zq->List Zq} {gV:List V->List V->List V}
end
structure FnScope(N P:List Str)(sc:Scope):Prop where
 kind:sc.kind= .function
 co:sc.isCoroutine=false
 gen:sc.isGenerator=false
 nd:N.Nodup
 pre:N.take P.length=P
 par:∀x∈P,sc.names.lookup x=some .local\/sc.names.lookup x=some .cell
 JB:∀y∈sc.names,y.2≠.free
theorem qY{kindOf:Str->Option Zn}{x:Str}:∀{binds:List (Str×Zq)}{m:Str->Option Zq},(∀v,(x,v)∉binds)->bindL kindOf binds m x=m x
 | [],_,_=>rfl
 | (n,v)::r,m,h=>by
  unfold bindL
  rw[qY λw hw=>h w (aD _ hw)]
  split
  ·have:x≠n:=by rintro rfl;exact h v aI
   simp[this]
  ·rfl
theorem qZ{kindOf:Str->Option Zn}{x:Str}:∀{binds:List (Str×Zq)}{m:Str->Option Zq},(∀v,(x,v)∉binds)->bindC kindOf binds m x=m x
 | [],_,_=>rfl
 | (n,v)::r,m,h=>by
  unfold bindC
  rw[qZ λw hw=>h w (aD _ hw)]
  split
  ·rfl
  ·have:x≠n:=by rintro rfl;exact h v aI
   simp[this]
theorem q9{kindOf:Str->Option Zn}{x:Str}{v:Zq}:∀{P:List Str}{vs:List Zq}{i:Nat}{m:Str->Option Zq},P.Nodup->P[i]? =some x->vs[i]? =some v->kindOf x=some .local->
  bindL kindOf (P.zip vs) m x=some v
 | [],_,_,_,_,h,_,_=>by simp at h
 | _::_,[],_,_,_,_,h,_=>by simp at h
 | p::P,w::vs,0,m,nd,h1,h2,hk=>by
  simp at h1 h2;subst h1;subst h2
  show bindL kindOf ((p,w)::P.zip vs) m p=_
  unfold bindL
  rw[qY λv hv=>(List.nodup_cons.mp nd).1 (sj hv).1,if_pos hk]
  simp
 | p::P,w::vs,i+1,m,nd,h1,h2,hk=>by
  show bindL kindOf ((p,w)::P.zip vs) m x=_
  unfold bindL
  exact q9 (i:=i) (List.nodup_cons.mp nd).2 (by simpa using h1) (by simpa using h2) hk
theorem q_{kindOf:Str->Option Zn}{x:Str}{v:Zq}:∀{P:List Str}{vs:List Zq}{i:Nat}{m:Str->Option Zq},P.Nodup->P[i]? =some x->vs[i]? =some v->kindOf x≠some .local->
  bindC kindOf (P.zip vs) m x=some v
 | [],_,_,_,_,h,_,_=>by simp at h
 | _::_,[],_,_,_,_,h,_=>by simp at h
 | p::P,w::vs,0,m,nd,h1,h2,hk=>by
  simp at h1 h2;subst h1;subst h2
  show bindC kindOf ((p,w)::P.zip vs) m p=_
  unfold bindC
  rw[qZ λv hv=>(List.nodup_cons.mp nd).1 (sj hv).1,if_neg hk]
  simp
 | p::P,w::vs,i+1,m,nd,h1,h2,hk=>by
  show bindC kindOf ((p,w)::P.zip vs) m x=_
  unfold bindC
  exact q_ (i:=i) (List.nodup_cons.mp nd).2 (by simpa using h1) (by simpa using h2) hk
def start(N:List Str)(vs:List V):St:=vs.map some++aG (N.length - vs.length) none
def qy(CX:A7)(P:Zo)(w:Zr)(K:PySem.W.Frag)(mg:Str->Option Zq)(base:Heap)(N:List Str)(qual:Str)(scope:Scope)(f:Zk)(cd:Zq)(A:Zl)(outer:List Env)(s:Zp)(H:Hp)(E:XK):Cx where
 prog:=P
 w:=w
 K:=K
 mg:=mg
 base:=base
 A:=A.deeper (envOfC qual scope s.heap.objs.size f cd)
 N:=N
 s₀:=s
 H₀:=H
 env:=envOfC qual scope s.heap.objs.size f cd
 outer:=outer
 stack:=envOfC qual scope s.heap.objs.size f cd::outer
 ex:=[]
 calm:=true
 fn:=λ_=>true
 pn:=[]
 xe:=λe s'=>ZG (model P w) (A.deeper (envOfC qual scope s.heap.objs.size f cd)) (leaving (envOfC qual scope s.heap.objs.size f cd) e) (λ_ s''=>CX outer H s E e s'') (λe' s''=>CX outer H s E e' s'') s'
theorem uv{sc:Scope}{n:Nat}{x:Str}(h:sc.names.lookup x=some .cell):∃c,(cellsFrom n sc.names []).lookup x=some c:=by
 have q:=PySem.W.cellsFrom_some sc.names n [] (.inl h)
 exact Option.isSome_iff_exists.mp q
theorem zG{CX:A7}{P:Zo}{w:Zr}{K:PySem.W.Frag}{mg:Str->Option Zq}{base:Heap}{N ps:List Str}{qual:Str}{scope:Scope}{f:Zk}{cd:Zq}{A:Zl}{outer:List Env}{s s1:Zp}{H:Hp}{E:XK}{us:List Zq}{vs:List V}
  (S:FnScope N ps scope)(hd:A.handled=none)(e0:mv P w K mg base A outer s H)(hl:vs.length=ps.length)(r:Vals vs us)
  (x:InCallC s s.heap.objs.size (bindL (envOfC qual scope s.heap.objs.size f cd).kindOf (ps.zip us) λ_=>none) (cellsFrom (s.heap.objs.size+1) scope.names []) (bindC (envOfC qual scope s.heap.objs.size f cd).kindOf (ps.zip us) λ_=>none) s1) :
  Inv (qy CX P w K mg base N qual scope f cd A outer s H E) [] (start N vs) H s1:=by
 have hpl:ps.length<=N.length:=by have:=congrArg wj S.pre;rw[h_] at this;omega
 obtain⟨h1,tk,rfl,hk⟩:=x.done
 have JC:∀b:Zk,b∉(qy CX P w K mg base N qual scope f cd A outer s H E).ex:=λb z=>absurd (show b∈([]:List Zk) from z) (by simp)
 refine⟨⟨e0.mod,S.kind,rfl,rfl,ak _,λy z c h1 h2=>?_,λy hy=>?_,λy c _ h=>?_,λ_=>hd,NK e0.frames,.inr ⟨rfl,rfl⟩,λb z=>absurd z (JC b),e0.bs,e0.A6,λb _ _=>JC b,λb z=>absurd z (JC b),e0.jh,e0.EA⟩,
  rfl,e0.bare,Un.kept hk,⟨_,x.toInCall.ns,λi y v h1 h2 h3=>?_⟩,λy c h=>⟨_,x.cell y c h⟩,e0.hok.fresh (ak _),λy c h=>?_,λp hp=>absurd (show p∈([]:List (Zk×Obj)) from hp) (by simp),e0.hok.kept hk,?_⟩
 ·exact name_of_addr x.apart (PySem.mem_of_lookup h1) (PySem.mem_of_lookup h2)
 ·have hy:scope.names.lookup y=some .cell\/scope.names.lookup y=some .free:=hy
  rcases hy with hy | hy
  ·exact uv hy
  ·exact absurd rfl (S.JB _ (PySem.mem_of_lookup hy))
 ·exact iJ (x.above y c (PySem.mem_of_lookup h))
 ·have hi:i < vs.length:=by
   unfold start at h2
   by_cases hi:i < vs.length
   ·exact hi
   ·rw[ic (by simpa using hi)] at h2
    rw[sm] at h2
    split at h2<;>cases h2
  have ha:vs[i]? =some v:=by
   unfold start at h2
   rw[dj (by simpa using hi),ie] at h2
   cases e:vs[i]? with
   | none=>rw[e] at h2;cases h2
   | some a=>rw[e] at h2;cases h2;rfl
  obtain⟨u,hu,rv⟩:=r.get ha
  have hp:ps[i]? =some y:=by
   rw[<-S.pre,List.getElem?_take_of_lt (by omega)];exact h1
  have UN:ps.Nodup:=by rw[<-S.pre];exact S.nd.sublist (sv _ _)
  refine⟨u,rv,?_⟩
  rcases S.par y (xP hp) with k | k
  ·exact .inl ⟨k,q9 UN hp hu k⟩
  ·obtain⟨c,e⟩:=uv (n:=s.heap.objs.size+1) k
   refine .inr ⟨.inl k,c,e,?_⟩
   have q:=x.cell y c e
   rw[q_ UN hp hu (by show scope.names.lookup y≠_;rw[k];decide)] at q
   exact q
 ·exact e0.hok.fresh (iJ (x.above y c (PySem.mem_of_lookup h)))
 ·unfold start
  show _=N.length
  rw[dk,aH,kz]
  omega
theorem NL{CX:A7}{P:Zo}{w:Zr}{K:PySem.W.Frag}{mg:Str->Option Zq}{base:Heap}{k:Nat}{f:Zk}{name qual:Str}{params:Arguments}{body:List Stmt}{scope:Scope}{dV kV doc pm cdv ct oc:Zq}{an od:Option Zk}
  {osl:Array (Option Zq)}{N ps:List Str}{sp:Sp}(lk:K.lookup f=some ⟨oc,od,.func (PySem.W.fnOf name qual params body scope dV kV doc pm an cdv ct),osl⟩)(hcd:PySem.W.codeIn K cdv qual=true)(S:FnScope N ps scope)
  (len:∀vs H Q E,sp vs H Q E->vs.length=ps.length)
  (hbody:∀(A:Zl)(outer:List Env)(s:Zp)(H:Hp)(vs:List V)(Q:VK)(E:XK),dD k (A.deeper (envOfC qual scope s.heap.objs.size f cdv))->sp vs H Q E->
   ∃t,Bg (qy CX P w K mg base N qual scope f cdv A outer s H E) body t/\t { nx:=λ_ H'=>Q .aP H',rt:=Q } (start N vs) H) :
  FnOk P w K mg base CX (k+1) f (PySem.W.fnOf name qual params body scope dV kV doc pm an cdv ct) ps sp:=by
 refine⟨len,λA outer s H args us vs Q E hr e0 hb r Hw=>?_⟩
 have hl:=len _ _ _ _ Hw
 have KX:K.In s.heap:=e0.mod.EM.keeps λb o e=>(e0.bs b o e).1
 have lim:s.heap.NoLimit:=e0.mod.nolimit.keeps λb o e=>(e0.bs b o e).1
 have hkind:∀y∈ps.zip us,scope.names.lookup y.1=some .local\/(scope.names.lookup y.1=some .cell/\((cellsFrom (s.heap.objs.size+1) scope.names []).lookup y.1).isSome=true):=λ⟨n,v⟩ hy=>by
  rcases S.par n (sj hy).1 with q | q
  ·exact .inl q
  ·exact .inr ⟨q,PySem.W.cellsFrom_some _ _ _ (.inl q)⟩
 refine codeAny_call_function hr.depth (KX _ _ lk) rfl S.co S.gen rfl (PySem.W.codeRec_of KX hcd) (hb _ _ _ _ ?_)
 refine wpAny_newFunctionEnv_cells S.kind hkind λenv he s1 x=>?_
 subst he
 refine⟨lim.keeps x.toInCall.keep,codeAny_func ?_⟩
 obtain⟨t,ht,hq⟩:=hbody A outer s H vs Q E (hr.deeper _) Hw
 have I:Inv (qy CX P w K mg base N qual scope f cdv A outer s H E) [] (start N vs) H s1:=zG S hr.hd e0 hl r x
 refine ZJ (ht [] s1 (start N vs) H _ I hq) (λfl s' hs=>?_) λe s' hs=>hs
 have fin:∀{σ':St}{H':Hp}{v:V}{u:Zq},Inv (qy CX P w K mg base N qual scope f cdv A outer s H E) [] σ' H' s'->RelV v u->Q v H'->CE outer P w H s Q u s' :=
  λ{σ' H' v u} J rv q=>⟨v,H',J.os,J.bare,J.base,J.hok,rv,q⟩
 cases fl with
 | ret u=>
  obtain⟨v,σ',H',J,rv,q⟩:=hs
  exact fin J rv q
 | next=>
  obtain⟨σ',H',J,q⟩:=hs
  exact fin (v:=V.aP) (u:=bC) J rfl q
 | brk=>
  obtain⟨_,_,_,q⟩:=hs
  exact aa q
 | cont=>
  obtain⟨_,_,_,q⟩:=hs
  exact aa q
section
variable {X:Cx} {x:Str} {p pos:Pos} {e:Expr} {es:List Expr} {t:TA} {id T:String} {r:List V->Hp->VK->Prop}
def UO(r:List V->Hp->VK->Prop)(t:TA):TE:=λσ H Q=>t σ H λvs H1=>r vs H1 Q
theorem Bq(hc:dG X (.builtin id) r)(hg:Gl X x)(hm:X.mg x=none)(hv:Zu x=some (.builtin id))(ha:PA X (e::es) t)(hn:x≠"__name__":=by decide)(hdb:(x == ("__debug__":Str))=false:=by decide)
  (he:ZF (e::es) X.env=(false,eval e X.env)::ZF es X.env:=by rfl)(hpl:(backTo pos (ZF es X.env)).any (·.1)=false:=by rfl):PE X (.Call (.Name x p) (e::es) [] pos) (UO r t):=by
 intro pins s σ H Q I h
 refine wpAny_Call_Name_kw (fY I hg hm hv ?_ hn hdb)
 exact PyProof.Rows.callWith_builtin1 (bH (ha pos pins s σ H _ I h) λus s1 ⟨vs,H1,I1,r1,q1⟩=>hc pins s1 σ H1 vs us Q I1 r1 q1) he hpl
theorem zH(hc:dG X (.type T) r)(hg:Gl X x)(hm:X.mg x=none)(hv:Zu x=some (.type T))(ha:PA X (e::es) t)(hn:x≠"__name__":=by decide)(hdb:(x == ("__debug__":Str))=false:=by decide)
  (he:ZF (e::es) X.env=(false,eval e X.env)::ZF es X.env:=by rfl)(hpl:(backTo pos (ZF es X.env)).any (·.1)=false:=by rfl):PE X (.Call (.Name x p) (e::es) [] pos) (UO r t):=by
 intro pins s σ H Q I h
 refine wpAny_Call_Name_kw (fY I hg hm hv ?_ hn hdb)
 exact iL (bH (ha pos pins s σ H _ I h) λus s1 ⟨vs,H1,I1,r1,q1⟩=>hc pins s1 σ H1 vs us Q I1 r1 q1) he hpl
end
end L2
namespace HT
open PySem PyProof.Rows
def lexLt:List Int->List Int->Bool
 | [],[]=>false
 | [],_::_=>true
 | _::_,[]=>false
 | x::xs,y::ys=>if x=y then lexLt xs ys else decide (x < y)
theorem wk(x y:Int)(xs ys:List Int):lexLt (x::xs) (y::ys)=if x=y then lexLt xs ys else decide (x < y):=rfl
theorem qz:lexLt [] []=false:=rfl
theorem oP(y:Int)(ys:List Int):lexLt [] (y::ys)=true:=rfl
theorem oQ(x:Int)(xs:List Int):lexLt (x::xs) []=false:=rfl
theorem uw(A:Zl)(s:Zp)(a:Int)(t:Tok)(c:Int)(u:Tok):∃e,SeqAt.EqAt A s (.int a t) (.int c u) e/\(e=true↔a=c) :=
 ⟨(a == c),E6 a t c u,by simp⟩
theorem ux(A:Zl)(s:Zp)(a:Int)(t:Tok)(c:Int)(u:Tok)(prog:Zo)(w:Zr)(E:Zq->Zp->Prop)(Q:Zq->Zp->Prop)(h:Q (.bool (decide (a < c))) s) :
  ZG (model prog w) A (richCompare .Lt (.int a t) (.int c u)) Q E s :=
 (xQ h:ZG (model prog w) A (Zx .Lt (.int a t) (.int c u)) Q E s)
section
open PySem.SeqAt
open PySem.AutoSeq1 (wpAny_loadPart')
open PySem.MeetsSeq PySem.MeetsSeq2 PySem.MeetsSeq3
theorem qA(l b:Zk)(items items2:Array Zq)(n n2:Nat)(dd dd2:Option Zk)(sl sl2:Array (Option Zq))(ns ms:List Int)(hi:IntsAre items.toList ns)(hj:IntsAre items2.toList ms) :
  Meets (Builtin.«tuple.__lt__» ⟨[.ref l,.ref b],[]⟩)
   (λ_ R s=>s.heap.get? l=some { cls:=.type "tuple",dict:=dd,data:=.seq items n,slots:=sl }/\s.heap.get? b=some { cls:=.type "tuple",dict:=dd2,data:=.seq items2 n2,slots:=sl2 }/\
    R (.ok (.ret (.bool (lexLt ns ms)))) s) :=
 .of_wp λprog w A R s h=>by
  obtain⟨hp,g,d,tk,os⟩:=s;obtain⟨hl,hb,h⟩:=h
  have f2:=Br
  have z1:items.size=ns.length:=by rw[<-hi.length];simp
  have z2:items2.size=ms.length:=by rw[<-hj.length];simp
  wp_walk using wpAny_loadPart' hl,wpAny_loadPart' hb,wpAny_forIn_list _ (λrest b s'=>b.1=none/\s'=⟨hp,g,d,tk,os⟩/\∃(vs ws:List Zq)(ns' ms':List Int),rest=vs.zip ws/\
   IntsAre vs ns'/\IntsAre ws ms'/\ns'.length+items2.size=ms'.length+items.size/\R (.ok (.ret (.bool (lexLt ns' ms')))) ⟨hp,g,d,tk,os⟩) _
  case turn=>
   rintro⟨y,x⟩ rest b s' ⟨hb',rfl,vs,ws,ns',ms',hz,Ro,hwi,hlen,hR⟩
   cases Ro with
   | nil=>rw[List.zip_nil_left] at hz;cases hz
   | cons a t Rp=>
    cases hwi with
    | nil=>rw[List.zip_nil_right] at hz;cases hz
    | cons c u Rq=>
     rw[lh] at hz
     injection hz with hyx hrest
     injection hyx with hy hx
     subst hy hx
     rw[wk] at hR
     simp only[ig] at hlen
     obtain⟨e,he,hiff⟩:=uw A.in1 ⟨hp,g,d,tk,os⟩ a t c u
     refine ZH (he prog w _ _ ?_)
     cases e with
     | true=>
      rw[if_pos (hiff.mp rfl)] at hR
      wp_walk
      exact⟨rfl,rfl,_,_,_,_,hrest,Rp,Rq,by omega,hR⟩
     | false=>
      rw[if_neg (λq=>absurd (hiff.mpr q) cw)] at hR
      have Wg:=ux A.in1 ⟨hp,g,d,tk,os⟩ a t c u prog w
      wp_walk using Wg
      exact⟨_,rfl,by simpa using hR⟩
  case fin=>
   rintro⟨b1,b2⟩ s' ⟨hb',rfl,vs,ws,ns',ms',hz,Ro,hwi,hlen,hR⟩
   simp only at hb'
   subst hb'
   have hv:lexLt ns' ms'=decide (items.size < items2.size):=by
    cases Ro with
    | nil=>
     cases hwi with
     | nil=>
      simp only[kC] at hlen
      rw[qz]
      exact(decide_eq_false (by omega)).symm
     | cons c u hw=>
      simp only[kC,ig] at hlen
      rw[oP]
      exact(decide_eq_true (by omega)).symm
    | cons a t hv=>
     cases hwi with
     | nil=>
      simp only[kC,ig] at hlen
      rw[oQ]
      exact(decide_eq_false (by omega)).symm
     | cons c u hw=>
      rw[lh] at hz
      cases hz
   rw[hv] at hR
   wp_walk
   exact⟨_,rfl,by simpa [Bs] using hR⟩
  case h=>
   exact⟨rfl,rfl,items.toList,items2.toList,ns,ms,rfl,hi,hj,by omega,h⟩
end
section
variable {prog:Zo} {w:Zr} {A:Zl} {E:Zq->Zp->Prop} {s:Zp}
theorem wo{l b:Zk}{items items2:Array Zq}{ns ms:List Int}{Q:Zq->Zp->Prop}(hl:IsTup s.heap l items)(hb:IsTup s.heap b items2)(hi:IntsAre items.toList ns)(hj:IntsAre items2.toList ms)
  (hu:A.units < cLine)(h:Q (.bool (lexLt ns ms)) s):ZG (model prog w) A (Zx .Lt (.ref l) (.ref b)) Q E s:=by
 obtain⟨⟨cls,dd,data,sl⟩,ho,hc,n,hd⟩:=id hl
 obtain⟨⟨NM,dd2,data2,sl2⟩,ho2,hc2,n2,hd2⟩:=id hb
 simp only at hc hd hc2 hd2
 subst hc hd hc2 hd2
 exact richCompare_meets_room (op:=.Lt) ⟨_,ho,rfl⟩ ⟨_,ho2,rfl⟩ PySem.F.slot_tuple_lt PySem.F.entry_tuple_lt (PySem.F.args_tuple_lt_2 _ _) (qA l b items items2 n n2 dd dd2 sl sl2 ns ms hi hj)
  ⟨ho,ho2,show iH (lexLt ns ms)≠xR/\Q (.bool (lexLt ns ms)) s from⟨(λx=>nomatch x),h⟩⟩ hu
theorem E7{t b:Zk}{vs ws:List Zq}{Q:Zq->Zp->Prop}(ht:IsTup s.heap t vs.toArray)(hb:IsTup s.heap b ws.toArray)(hv:vs≠[])
  (h1:ws=[]->Q (.ref t) s)(h2:ws≠[]->Q (.ref s.heap.objs.size) { s with heap:=s.heap.push { cls:=.type "tuple",data:=.seq (vs++ws).toArray } })
  (hsz:vs.length+ws.length<=ZE):ZG (model prog w) A (Zt .Add (.ref t) (.ref b)) Q E s:=by
 obtain⟨⟨cls,dd,data,sl⟩,ho,hc,n,hd⟩:=id ht
 obtain⟨⟨NM,dd2,data2,sl2⟩,ho2,hc2,n2,hd2⟩:=id hb
 simp only at hc hd hc2 hd2
 subst hc hd hc2 hd2
 have e:vs.toArray++ws.toArray=(vs++ws).toArray:=by simp
 by_cases hw:ws=[]
 ·exact concat_meets ⟨_,ho,rfl⟩ ⟨_,ho2,rfl⟩ noFill_tuple_add seq_tuple_add PySem.F.slot_tuple_add PySem.F.entry_tuple_add (PySem.F.args_tuple_add_2 _ _)
   (tuple_addW1 t b vs.toArray ws.toArray n n2 dd dd2 sl sl2 (by simpa using hv) (by simp[hw])) ⟨ho,ho2,h1 hw⟩
 ·refine concat_meets ⟨_,ho,rfl⟩ ⟨_,ho2,rfl⟩ noFill_tuple_add seq_tuple_add PySem.F.slot_tuple_add PySem.F.entry_tuple_add (PySem.F.args_tuple_add_2 _ _)
   (tuple_addW2 t b vs.toArray ws.toArray n n2 dd dd2 sl sl2 (by simpa using hv) (by simpa using hw) (by rw[aT,aT];exact hsz)) ⟨ho,ho2,?_⟩
  rw[e]
  exact h2 hw
def cu(n d:Nat):Option Int->Nat
 | none=>d
 | some v=>if v < 0 then(v+(n:Int)).toNat else min v.toNat n
theorem JD(n d:Nat)(hd:d<=n)(o:Option Int):cu n d o<=n:=by
 cases o with
 | none=>exact hd
 | some v=>
  show(if v < 0 then(v+(n:Int)).toNat else min v.toNat n)<=n
  by_cases hv:v < 0
  ·rw[if_pos hv];omega
  ·rw[if_neg hv];exact Nat.min_le_right _ _
theorem xT(v:Int)(n d:Nat):(if v < 0 then max (v+(n:Int)) 0 else min v (n:Int))=((cu n d (some v):Nat):Int):=by
 show(if v < 0 then max (v+(n:Int)) 0 else min v (n:Int))=(((if v < 0 then(v+(n:Int)).toNat else min v.toNat n):Nat):Int)
 by_cases hv:v < 0
 ·simp only[if_pos hv];omega
 ·simp only[if_neg hv];omega
theorem wq(lo hi:Option Int)(n:Nat):Bt lo hi 1 (n:Int)=(((cu n 0 lo:Nat):Int),((cu n n hi:Nat):Int)):=by
 have h1:¬((1:Int) < 0):=by omega
 unfold Bt
 simp only[h1,if_false]
 refine Prod.ext ?_ ?_
 ·cases lo with
  | none=>rfl
  | some v=>exact xT v n 0
 ·cases hi with
  | none=>rfl
  | some v=>exact xT v n n
theorem wt(i j:Nat):wu (i:Int) (j:Int) 1=j - i:=by
 unfold wu
 have h1:(1:Int) > 0:=by omega
 simp only[h1,if_true,Int.ediv_one]
 split<;>omega
theorem oR{v:Zq}{o:Option Int}{Q:Option Int->Zp->Prop}(p:IsPart v o)(h:Q o s):ZG (model prog w) A (Builtin.Slice.slicePartIndex v) Q E s:=by
 cases p with
 | none=>exact slicePart_none h
 | int i t=>exact slicePart_int h
theorem iC{sl:Zk}{vl vu:Zq}{lo hi:Option Int}{n:Nat}{Q:Int×Int×Nat->Zp->Prop}(hs:s.heap.IsSliceOf sl vl vu .none)(pl:IsPart vl lo)(pu:IsPart vu hi)
  (h:Q (((cu n 0 lo:Nat):Int),1,cu n n hi - cu n 0 lo) s):ZG (model prog w) A (JF (.ref sl) (pure (n:Int))) Q E s:=by
 obtain⟨os,hos,hcs,hds⟩:=id hs
 unfold JF Builtin.Slice.sliceFields
 refine ZH (ZH (wpAny_field hos hds (x:=vl) rfl (ZH (wpAny_field hos hds (x:=vu) rfl (ZH (wpAny_field hos hds (x:=.none) rfl (ZM ?_)))))))
 refine ZH (slicePart_none ?_)
 show ZG _ _ (if((1:Int) == 0)=true then _ else _) _ _ s
 rw[if_neg (by decide)]
 refine ZH (oR pl (ZH (oR pu (ZH (ZM ?_)))))
 show ZG _ _ (match Bt lo hi 1 (n:Int) with | (lo,hi)=>pure (lo,(1:Int),wu lo hi 1)) _ _ s
 rw[wq lo hi n]
 show ZG _ _ (pure (((cu n 0 lo:Nat):Int),(1:Int),wu ((cu n 0 lo:Nat):Int) ((cu n n hi:Nat):Int) 1)) _ _ s
 rw[wt]
 exact ZM h
theorem Bu(xs:Array Zq)(i k:Nat):((aJ k).filterMap λ(m:Nat)=>xs[((i:Int)+(m:Int) * 1).toNat]?).toArray=((xs.toList.drop i).take k).toArray:=by
 have e:(λ(m:Nat)=>xs[((i:Int)+(m:Int) * 1).toNat]?)=λm=>xs[i+m]?:=by
  funext m
  have:((i:Int)+(m:Int) * 1).toNat=i+m:=by omega
  rw[this]
 rw[e]
 have:=pick_run xs i k
 rw[List.filterMap_map] at this
 have e2:((λx=>xs[x]?) ∘ λx=>i+x)=λm=>xs[i+m]?:=rfl
 rw[e2] at this
 rw[this]
theorem lu{t sl:Zk}{items:Array Zq}{vl vu:Zq}{lo hi:Option Int}{Q:Zq->Zp->Prop}(ht:IsTup s.heap t items)(hs:s.heap.IsSliceOf sl vl vu .none)(pl:IsPart vl lo)(pu:IsPart vu hi)
  (hw:¬(cu items.size 0 lo=0/\cu items.size items.size hi=items.size))
  (h:Q (.ref s.heap.objs.size) { s with heap:=s.heap.push { cls:=.type "tuple",data:=.seq ((items.toList.drop (cu items.size 0 lo)).take (cu items.size items.size hi - cu items.size 0 lo)).toArray } })
  (hsz:items.size<=ZE):ZG (model prog w) A (getItem (.ref t) (.ref sl)) Q E s:=by
 have xU:sizeOk (.seq ((items.toList.drop (cu items.size 0 lo)).take (cu items.size items.size hi - cu items.size 0 lo)).toArray):=by
  show((items.toList.drop (cu items.size 0 lo)).take (cu items.size items.size hi - cu items.size 0 lo)).toArray.size<=ZE
  rw[aT,h_,jk,Ho]
  omega
 have hj:cu items.size items.size hi<=items.size:=JD _ _ (ak _) hi
 obtain⟨os,hos,hcs,hds⟩:=id hs
 have Wh:s.TypeIs (.ref sl) "slice":=⟨os,hos,hcs⟩
 unfold getItem
 try with_reducible refine ZI ?_
 first | refine ZH (ZM ?_) | skip
 refine ZH (wpAny_sequenceKey ht.typeIs (by decide) ?_)
 refine ZH (wpAny_callSpecial?_slot (name:=jI "__getitem__") ht.typeIs sx
  (wpAny_call_entry sx ht.typeIs entry_tuple_getitem ?_ (args_tuple_getitem _ _)))
 show ZG _ _ (JG (.ref t) >>= _) _ _ s
 refine ZH (tupleItemsOf_ ht ?_)
 refine ZH (wpAny_typeOf Wh ?_)
 rw[if_pos (by decide)]
 refine ZH (iC hs pl pu ?_)
 have hno:¬((((cu items.size 0 lo:Nat):Int) == 0&&(1:Int) == 1&&(cu items.size items.size hi - cu items.size 0 lo) == items.size)=true):=by
  intro q
  rw[cH,cH] at q
  have q1:((cu items.size 0 lo:Nat):Int)=0:=eq_of_beq q.1.1
  have q2:cu items.size items.size hi - cu items.size 0 lo=items.size:=eq_of_beq q.2
  exact hw ⟨by omega,by omega⟩
 show ZG _ _ (if(((cu items.size 0 lo:Nat):Int) == 0&&(1:Int) == 1&&(cu items.size items.size hi - cu items.size 0 lo) == items.size)=true then _ else _) _ _ s
 rw[if_neg hno,Bu]
 first
  | exact ZH (m:=wx _) (ZL (ZM ⟨_,rfl,ZM h⟩) xU)
  | exact ZH (m:=wx _) (ZL (ZH (ZM (ZM ⟨_,rfl,ZM h⟩))) xU)
  | exact ZH (ZH (m:=wx _) (ZL (ZM (ZM ⟨_,rfl,ZM h⟩)) xU))
  | exact ZH (ZH (m:=wx _) (ZL (ZM ⟨_,rfl,ZM h⟩) xU))
end
end HT
namespace L2
open PySem PySem.Spec PyProof.Rows
abbrev TO:=St->Hp->(Option Int->Hp->Prop)->Prop
def PO(X:Cx)(e:Option Expr)(t:TO):Prop :=
 ∀(pins:List (Zk×Obj))(s:Zp)(σ:St)(H:Hp)(Q:Option Int->Hp->Prop),Inv X pins σ H s->t σ H Q->
  ZG (model X.prog X.w) X.A (evalPart e X.env) (λu s'=>∃o H',Inv X pins σ H' s'/\IsPart u o/\Q o H') X.xe s
def E8:TO:=λ_ H Q=>Q none H
def NN(t:TE):TO:=λσ H Q=>t σ H λx H1=>∃i,x= .int i/\Q (some i) H1
theorem intsAre_of{ns:List Int}:∀{us:List Zq},Vals (ns.map V.int) us->IntsAre us ns:=by
 induction ns with
 | nil=>intro us r;rw[List.map_nil] at r;cases r;exact .nil
 | cons n ns ih=>
  intro us r
  rw[aZ] at r
  cases r with
  | cons r1 r2=>
   obtain⟨t,e⟩:=r1
   subst e
   exact .cons n t (ih r2)
section
variable {X:Cx} {e:Expr} {te:TE} {lo hi:Option Expr} {tl th:TO} {pos p2:Pos}
theorem E9:PO X none E8:=by
 intro pins s σ H Q I h
 rw[evalPart_none]
 exact ZM ⟨none,H,I,.none,h⟩
theorem E_(h:PE X e te):PO X (some e) (NN te):=by
 intro pins s σ H Q I hw
 rw[evalPart_some]
 refine bH (h pins s σ H _ I hw) λu s1 ⟨x,H1,I1,r1,q1⟩=>?_
 obtain⟨i,rfl,q⟩:=q1
 obtain⟨t,rfl⟩:=r1
 exact⟨some i,H1,I1,.int i t,q⟩
def EC(X:Cx)(r:V->Option Int->Option Int->Hp->VK->Prop):Prop :=
 ∀(pins:List (Zk×Obj))(s:Zp)(σ:St)(H:Hp)(x:V)(v vl vu:Zq)(lo hi:Option Int)(sl:Zk)(Q:VK),Inv X pins σ H s->RelV x v->s.heap.IsSliceOf sl vl vu .none->IsPart vl lo->IsPart vu hi->r x lo hi H Q->
  ∃T id,typeLookup (.type T) "__getitem__"=pure (some (.builtin id))/\s.TypeIs v T/\ZG (model X.prog X.w) X.A (getItem v (.ref sl)) (EP X pins σ Q) X.xe s
theorem EC.or{r r':V->Option Int->Option Int->Hp->VK->Prop}(h:EC X r)(h':EC X r'):EC X (λx lo hi H Q=>r x lo hi H Q\/r' x lo hi H Q):=by
 intro pins s σ H x v vl vu lo hi sl Q I rx hs pl pu q
 rcases q with q | q
 ·exact h pins s σ H x v vl vu lo hi sl Q I rx hs pl pu q
 ·exact h' pins s σ H x v vl vu lo hi sl Q I rx hs pl pu q
def Wi(r:V->Option Int->Option Int->Hp->VK->Prop)(te:TE)(tl th:TO):TE:=λσ H Q=>te σ H λx H1=>tl σ H1 λl H2=>th σ H2 λu H3=>r x l u H3 Q
theorem oS{r:V->Option Int->Option Int->Hp->VK->Prop}(hr:EC X r)(he:PE X e te)(hl:PO X lo tl)(hu:PO X hi th):PE X (.Subscript e (.Slice lo hi none p2) pos) (Wi r te tl th):=by
 intro pins s σ H Q I h
 refine Subscript_ (bH (he pins s σ H _ I h) λv s1 ⟨x,H1,I1,r1,q1⟩=>?_)
 refine wpAny_Slice (bH (hl pins s1 σ H1 _ I1 q1) λvl s2 ⟨l,H2,I2,pl,q2⟩=>bH (hu pins s2 σ H2 _ I2 q2) λvu s3 ⟨u,H3,I3,pu,q3⟩=>?_)
 rw[evalPart_none]
 refine ZM ?_
 have I4:Inv X pins σ H3 { s3 with heap:=s3.heap.push { cls:=.type "slice",data:=.fields #[vl,vu,.none] } }:=I3.kept (t':=s3.toks) λb ob q=>aE _ q
 obtain⟨T,id,hT,ht,hg⟩:=hr pins { s3 with heap:=s3.heap.push { cls:=.type "slice",data:=.fields #[vl,vu,.none] } } σ H3 x v vl vu l u s3.heap.objs.size Q I4 r1 (Heap.IsSliceOf.new ..) pl pu q3
 show ZG (model X.prog X.w) X.A (subscriptTail e (.Slice lo hi none p2) v (.ref s3.heap.objs.size)) (EP X pins σ Q) X.xe { s3 with heap:=s3.heap.push { cls:=.type "slice",data:=.fields #[vl,vu,.none] } }
 exact tail_any (ops:=[.ref s3.heap.objs.size,v]) ht hT hg (by with_unfolding_all rfl)
def qB(xs:List V)(lo hi:Option Int):List V:=(xs.drop (HT.cu xs.length 0 lo)).take (HT.cu xs.length xs.length hi - HT.cu xs.length 0 lo)
theorem m8(xs:List V)(lo hi:Option Int):(qB xs lo hi).length<=xs.length:=by
 unfold qB
 rw[h_,jk]
 omega
def Rr(K:PySem.W.Frag):V->Option Int->Option Int->Hp->VK->Prop:=λx lo hi H Q=>∃a xs,x= .ref a/\dh K H a xs/\
 ¬(HT.cu xs.length 0 lo=0/\HT.cu xs.length xs.length hi=xs.length)/\∀p,H p=none->Q (.ref p) (upd H p (.tup (qB xs lo hi)))
theorem Bv:EC X (Rr X.K):=by
 intro pins s σ H x v vl vu lo hi sl Q I rx hs pl pu h
 obtain⟨a,xs,rfl,hx,hw,q⟩:=h
 cases rx
 obtain⟨its,r,ht,hz⟩:=I.tuple hx
 have hlen:its.toArray.size=xs.length:=by rw[aT];exact r.length.symm
 refine⟨"tuple",_,PyProof.Rows.slot_tuple_getitem.lookup,ht.typeIs,?_⟩
 refine HT.lu ht hs pl pu (by rw[hlen];exact hw) ?_ (by rw[hlen];exact hz)
 rw[hlen]
 refine⟨.ref s.heap.objs.size,_,I.laid (t':=s.toks) (o:=.tup (qB xs lo hi)) (λb ob q=>aE _ q) (ak _) ?_,rfl,q _ (I.hok.fresh (ak _))⟩
 exact⟨bE (m8 xs lo hi) hz,_,(r.drop (HT.cu xs.length 0 lo)).take (HT.cu xs.length xs.length hi - HT.cu xs.length 0 lo),IsTup.new _ _,v7.new _ _⟩
def Rt(K:PySem.W.Frag):R2:=λx y H Q=>∃a b ns ms,x= .ref a/\y= .ref b/\dh K H a (ns.map V.int)/\dh K H b (ms.map V.int)/\Q (.bl (HT.lexLt ns ms)) H
theorem JH(hu:X.A.units < cLine):dN X (Zx .Lt) (Rt X.K):=by
 intro pins s σ H x y v u Q I rx ry h
 obtain⟨a,b,ns,ms,rfl,rfl,ha,hb,q⟩:=h
 cases rx
 cases ry
 obtain⟨its,r1,p1,_⟩:=I.tuple ha
 obtain⟨its2,r2,p2,_⟩:=I.tuple hb
 have i1:IntsAre its.toArray.toList ns:=intsAre_of r1
 have i2:IntsAre its2.toArray.toList ms:=intsAre_of r2
 exact HT.wo p1 p2 i1 i2 hu ⟨.bl (HT.lexLt ns ms),H,I,rfl,q⟩
def NO(K:PySem.W.Frag):R2:=λx y H Q=>∃a b xs ys,x= .ref a/\y= .ref b/\dh K H a xs/\dh K H b ys/\xs≠[]/\xs.length+ys.length<=ZE/\
 (ys=[]->Q (.ref a) H)/\(ys≠[]->∀p,H p=none->Q (.ref p) (upd H p (.tup (xs++ys))))
theorem Vals.sy{xs:List V}{us:List Zq}(r:Vals xs us):us=[]↔xs=[]:=by
 cases r with
 | nil=>simp
 | cons _ _=>simp
theorem Fb:dN X (Zt .Add) (NO X.K):=by
 intro pins s σ H x y v u Q I rx ry h
 obtain⟨a,b,xs,ys,rfl,rfl,ha,hb,hx,hz,q1,q2⟩:=h
 cases rx
 cases ry
 obtain⟨its,r1,p1,_⟩:=I.tuple ha
 obtain⟨its2,r2,p2,_⟩:=I.tuple hb
 refine HT.E7 p1 p2 (λz=>hx (r1.sy.mp z)) (λz=>⟨.ref a,H,I,rfl,q1 (r2.sy.mp z)⟩) (λz=>?_) (by rw[<-r1.length,<-r2.length];exact hz)
 refine⟨.ref s.heap.objs.size,_,I.laid (t':=s.toks) (o:=.tup (xs++ys)) (λb ob q=>aE _ q) (ak _) ?_,rfl,q2 (λw=>z (r2.sy.mpr w)) _ (I.hok.fresh (ak _))⟩
 exact⟨by rw[dk];exact hz,_,r1.append r2,IsTup.new _ _,v7.new _ _⟩
end
def zI(n:Nat)(i:Int):Option Nat:=if 0<=i then(if i < n then some i.toNat else none) else if -(n:Int)<=i then some (i+n).toNat else none
def qu{α:Type}(xs:List α)(i:Int):Option α:=(zI xs.length i).bind λj=>xs[j]?
theorem xV{n:Nat}{i:Int}{j:Nat}(h:zI n i=some j):seqIndex? i n=some j/\j < n/\-(n:Int)<=i/\i < n:=by
 unfold zI at h
 by_cases h0:0<=i
 ·rw[if_pos h0] at h
  by_cases h1:i < n
  ·rw[if_pos h1] at h
   have e:i.toNat=j:=Option.some.inj h
   exact⟨by rw[seqIndex_of h0 h1,e],by omega,by omega,h1⟩
  ·rw[if_neg h1] at h;cases h
 ·rw[if_neg h0] at h
  by_cases h1:-(n:Int)<=i
  ·rw[if_pos h1] at h
   have e:(i+n).toNat=j:=Option.some.inj h
   exact⟨by rw[seqIndex_neg (by omega) h1,e],by omega,h1,by omega⟩
  ·rw[if_neg h1] at h;cases h
theorem nV{α:Type}{xs:List α}{i:Int}{v:α}(h:qu xs i=some v):∃j,seqIndex? i xs.length=some j/\xs[j]? =some v/\j < xs.length/\-(xs.length:Int)<=i/\i < xs.length:=by
 unfold qu at h
 cases e:zI xs.length i with
 | none=>rw[e] at h;cases h
 | some j=>
  rw[e] at h
  obtain⟨h1,h2,h3,h4⟩:=xV e
  exact⟨j,h1,h,h2,h3,h4⟩
theorem fF{α:Type}{xs:List α}{j:Nat}{v:α}(h:xs[j]? =some v):qu xs (j:Int)=some v:=by
 have hj:j < xs.length:=(List.getElem?_eq_some_iff.mp h).1
 have e:zI xs.length (j:Int)=some j:=by
  unfold zI
  rw[if_pos (by omega),if_pos (by omega)];simp
 unfold qu;rw[e];exact h
def xW(b:Expr):Prop:=∀o i,subscripted b false o i=operate [o,i] (getItem o i)
def Fc(X:Cx)(r:R2):Prop :=
 ∀(value slice:Expr)(pins:List (Zk×Obj))(s:Zp)(σ:St)(H:Hp)(x y:V)(v u:Zq)(Q:VK),Inv X pins σ H s->RelV x v->RelV y u->r x y H Q->
  subscripted slice false v u=operate [v,u] (getItem v u)->ZG (model X.prog X.w) X.A (subscriptTail value slice v u) (EP X pins σ Q) X.xe s
def Hx(X:Cx)(id:String)(r:V->List V->Hp->VK->Prop):Prop :=
 ∀(pins:List (Zk×Obj))(s:Zp)(σ:St)(H:Hp)(x:V)(xs:List V)(v:Zq)(us:List Zq)(Q:VK),Inv X pins σ H s->RelV x v->Vals xs us->r x xs H Q->
  ZG (model X.prog X.w) X.A (call (.builtin id) (v::us)) (EP X pins σ Q) X.xe s
section
variable {X:Cx} {a b:Expr} {ta tb:TE} {pos:Pos}
theorem Fc.or{r r':R2}(h:Fc X r)(h':Fc X r'):Fc X (λx y H Q=>r x y H Q\/r' x y H Q):=by
 intro value slice pins s σ H x y v u Q I rx ry q hs
 rcases q with q | q
 ·exact h value slice pins s σ H x y v u Q I rx ry q hs
 ·exact h' value slice pins s σ H x y v u Q I rx ry q hs
theorem NP{r:R2}(hr:Fc X r)(ha:PE X a ta)(hb:PE X b tb)(hs:xW b):PE X (.Subscript a b pos) (Ny r ta tb):=by
 intro pins s σ H Q I h
 exact Subscript_ (Jp ha hb I h λv u s2 x y H2 I2 rx ry q=>hr a b pins s2 σ H2 x y v u Q I2 rx ry q (hs _ _))
def NQ(K:PySem.W.Frag):R2:=λx y H Q=>∃p xs i v,x= .ref p/\y= .int i/\fB K H p xs/\qu xs i=some v/\Q v H
def NR(K:PySem.W.Frag):R2:=λx y H Q=>∃p xs i v,x= .ref p/\y= .int i/\dh K H p xs/\qu xs i=some v/\Q v H
def NT:R2:=λx y H Q=>∃z i c,x= .str z/\y= .int i/\z.length<=ZE/\qu z.cps.toList i=some c/\Q (.str ⟨#[c]⟩) H
theorem Fd:Fc X (NQ X.K):=by
 intro value slice pins s σ H x y v u Q I rx ry h hs
 obtain⟨p,xs,i,z,rfl,rfl,hq,he,q⟩:=h
 cases rx
 obtain⟨t,rfl⟩:=ry
 obtain⟨its,r,pl,hz⟩:=I.list hq
 obtain⟨j,h1,h2,h3,h4,h5⟩:=nV he
 obtain⟨w,ew,rw'⟩:=r.get h2
 have hl:=r.length
 have hn:=ky
 have fin:EP X pins σ Q w s:=⟨z,H,I,rw',q⟩
 by_cases h0:0<=i
 ·have hj:i.toNat=j:=by
   rw[seqIndex_of h0 h5] at h1
   exact Option.some.inj h1
  exact item_listR pl.isList h0 (by omega) (by rw[hj];simpa using ew) fin hs
 ·have hj:(i+(its.toArray.size:Int)).toNat=j:=by
   rw[seqIndex_neg (by omega) h4] at h1
   rw[aT,<-hl]
   exact Option.some.inj h1
  exact subscriptTail_builtinR (x:=w) pl.isList.typeIs slot_list_getitem.lookup
   (wpAny_getItem_list_neg (Q:=λr s'=>r=w/\EP X pins σ Q r s') pl.isList (by omega) (by rw[aT]<;>omega) (by omega) (by rw[hj];simpa using ew) ⟨rfl,fin⟩) hs
theorem JJ:Fc X (NR X.K):=by
 intro value slice pins s σ H x y v u Q I rx ry h hs
 obtain⟨p,xs,i,z,rfl,rfl,hq,he,q⟩:=h
 cases rx
 obtain⟨t,rfl⟩:=ry
 obtain⟨its,r,pl,hz⟩:=I.tuple hq
 obtain⟨j,h1,h2,h3,h4,h5⟩:=nV he
 obtain⟨w,ew,rw'⟩:=r.get h2
 have hl:=r.length
 have hn:=ky
 have fin:EP X pins σ Q w s:=⟨z,H,I,rw',q⟩
 exact subscriptTail_builtinR (x:=w) pl.typeIs slot_tuple_getitem.lookup
  (getItem_tuple (j:=j) (Q:=λr s'=>r=w/\EP X pins σ Q r s') pl (by omega) (by omega) (by rw[aT,<-hl];exact h1) (by simpa using ew) ⟨rfl,fin⟩) hs
theorem JK:Fc X NT:=by
 intro value slice pins s σ H x y v u Q I rx ry h hs
 obtain⟨z,i,c,rfl,rfl,hz,he,q⟩:=h
 obtain⟨t,rfl⟩:=rx
 obtain⟨t',rfl⟩:=ry
 obtain⟨j,h1,h2,h3,h4,h5⟩:=nV he
 have hl:z.cps.toList.length=z.length:=by simp[Str.length]
 rw[hl] at h1 h4 h5
 have hn:=ky
 exact tail_any (typeIs_str s z t) slot_str_getitem.lookup (getItem_str (c:=c) (by
  have e1:decide (i < -(2 ^ 63:Int))=false:=decide_eq_false (by omega)
  have e2:decide (i >= 2 ^ 63)=false:=decide_eq_false (by omega)
  rw[e1,e2,Bool.or_false]) (by rw[h1];simpa using h2) ⟨.str ⟨#[c]⟩,H,I.tok _,⟨_,rfl⟩,q⟩) hs
def UP(K:PySem.W.Frag):R2:=λx y H Q=>NQ K x y H Q\/NR K x y H Q\/NT x y H Q
theorem JM:Fc X (UP X.K):=Fd.or (JJ.or JK)
theorem wz(its:List Zq)(n j:Nat)(u:Zq):aW (·.setIfInBounds j u) { cls:=.type "list",data:=.seq its.toArray n }={ cls:=.type "list",data:=.seq (its.set j u).toArray n }:=by
 simp[aW]
theorem Inv.lst{pins:List (Zk×Obj)}{σ:St}{H:Hp}{s:Zp}{p:Zk}{xs:List V}(I:Inv X pins σ H s)(h:H p=some (.lst xs)) :
  ∃(its:List Zq)(n:Nat),Vals xs its/\s.heap.get? p=some { cls:=.type "list",data:=.seq its.toArray n }/\xs.length<=ZE:=by
 obtain⟨z,its,n,r,e⟩:=I.hok p _ h
 exact⟨its,n,r,e,z⟩
theorem Inv.JN{pins:List (Zk×Obj)}{σ:St}{H:Hp}{s:Zp}{p:Zk}{xs ys:List V}{its its':List Zq}{n n':Nat}{f:Obj->Obj}(I:Inv X pins σ H s)(h:H p=some (.lst xs))
  (ho:s.heap.get? p=some { cls:=.type "list",data:=.seq its.toArray n })(hf:f { cls:=.type "list",data:=.seq its.toArray n }={ cls:=.type "list",data:=.seq its'.toArray n' })(r:Vals ys its')(hz:ys.length<=ZE)(t:Nat) :
  Inv X pins σ (upd H p (.lst ys)) { s with heap:=s.heap.update p f,toks:=t }:=by
 have e:(s.heap.update p f).get? p=some { cls:=.type "list",data:=.seq its'.toArray n' }:=by
  rw[wA f ho (by rw[hf]<;>rfl),hf]
 refine I.write (x:=p) (e:=p) (by rw[h];trivial) (.inl rfl) (λb u hb q=>(my _ _ (bg hb)).trans q) ⟨_,e⟩ ?_
 exact⟨hz,its',n',r,e⟩
def NU:V->V->V->Hp->(Hp->Prop)->Prop:=λo i v H Q=>∃p xs k j,o= .ref p/\i= .int k/\H p=some (.lst xs)/\zI xs.length k=some j/\Q (upd H p (.lst (xs.set j v)))
theorem set_list:Nu X NU:=by
 intro pins s σ H o i v ov iv u Q I ro ri rv h
 obtain⟨p,xs,k,j,rfl,rfl,hp,hj,q⟩:=h
 cases ro
 obtain⟨t,rfl⟩:=ri
 obtain⟨its,n,r,ho,hz⟩:=I.lst hp
 obtain⟨h1,h2,h3,h4⟩:=xV hj
 have hl:=r.length
 have hn:=ky
 have I':Inv X pins σ (upd H p (.lst (xs.set j v))) { s with heap:=s.heap.update p (aW (·.setIfInBounds j u)) } :=
  I.JN hp ho (wz its n j u) (r.set rv j) (by rw[Bw];exact hz) s.toks
 by_cases h0:0<=k
 ·have hk:k.toNat=j:=by
   rw[seqIndex_of h0 h4] at h1
   exact Option.some.inj h1
  exact PySem.W.ki_setAt ho h0 (by omega) (by rw[aT,<-hl];exact h4) (by rw[hk];exact⟨_,I',q⟩)
 ·have hk:(k+(its.toArray.size:Int)).toNat=j:=by
   rw[seqIndex_neg (by omega) h3] at h1
   rw[aT,<-hl]
   exact Option.some.inj h1
  exact PySem.W.ki_setBack ho (by omega) (by rw[aT,<-hl];exact h3) (by omega) (by rw[hk];exact⟨_,I',q⟩)
theorem sA(lo hi:Option Int)(n:Nat):(sliceBounds lo hi none n).1=((HT.cu n 0 lo:Nat):Int)/\(sliceBounds lo hi none n).2.1=((HT.cu n n hi:Nat):Int)/\(sliceBounds lo hi none n).2.2=1:=by
 refine⟨?_,?_,rfl⟩
 ·cases lo with
  | none=>simp[sliceBounds,HT.cu]
  | some i=>
   simp only[sliceBounds,HT.cu,Option.getD_none,show(1:Int) > 0 by decide,if_true]
   by_cases h:i < 0
   ·simp only[h,if_true]<;>omega
   ·simp only[h,if_false]<;>omega
 ·cases hi with
  | none=>simp[sliceBounds,HT.cu]
  | some i=>
   simp only[sliceBounds,HT.cu,Option.getD_none,show(1:Int) > 0 by decide,if_true]
   by_cases h:i < 0
   ·simp only[h,if_true]<;>omega
   ·simp only[h,if_false]<;>omega
theorem qC(its:List Zq)(lo hi:Option Int):slicePick its.toArray lo hi none=((its.drop (HT.cu its.length 0 lo)).take (HT.cu its.length its.length hi - HT.cu its.length 0 lo)).toArray:=by
 obtain⟨h1,h2,h3⟩:=sA lo hi its.toArray.size
 unfold slicePick
 rw[h1,h2,h3]
 simp only[sliceRange_one,pick_run,aT]<;>rfl
def Ru(K:PySem.W.Frag):V->Option Int->Option Int->Hp->VK->Prop:=λx lo hi H Q=>∃a xs,x= .ref a/\fB K H a xs/\∀p,H p=none->Q (.ref p) (upd H p (.lst (qB xs lo hi)))
theorem Fe:EC X (Ru X.K):=by
 intro pins s σ H x v vl vu lo hi sl Q I rx hs pl pu h
 obtain⟨a,xs,rfl,hx,q⟩:=h
 cases rx
 obtain⟨its,r,ht,hz⟩:=I.list hx
 have hlen:=r.length
 refine⟨"list",_,slot_list_getitem.lookup,ht.isList.typeIs,?_⟩
 refine wpAny_getItem_list_slice ht.isList hs pl pu .none (by simp) ?_ (by rw[aT]<;>omega)
 rw[qC,<-hlen]
 refine⟨.ref s.heap.objs.size,_,I.laid (t':=s.toks) (o:=.lst (qB xs lo hi)) (λb ob q=>aE _ q) (ak _) ?_,rfl,q _ (I.hok.fresh (ak _))⟩
 exact⟨bE (m8 xs lo hi) hz,_,0,(r.drop (HT.cu xs.length 0 lo)).take (HT.cu xs.length xs.length hi - HT.cu xs.length 0 lo),bY _ rfl⟩
def eE:V->Bool
 | .aP=>true
 | .bl _=>true
 | .int _=>true
 | .str _=>true
 | _=>false
def uz:V->V->Bool
 | .aP,.aP=>true
 | .bl a,.bl b=>a == b
 | .bl a,.int b=>(if a then 1 else 0) == b
 | .int a,.bl b=>a == (if b then 1 else 0)
 | .int a,.int b=>a == b
 | .str a,.str b=>a == b
 | _,_=>false
theorem JP{A:Zl}{s:Zp}{y x:V}{u v:Zq}(ry:RelV y u)(rx:RelV x v)(fy:eE y=true)(fx:eE x=true):SeqAt.EqAt A s u v (uz y x):=by
 cases y with
 | aP=>
  cases ry
  cases x with
  | aP=>cases rx;exact SeqAt.EqAt.same _
  | bl b=>cases rx;exact SeqAt.EqAt.none_bool b
  | int b=>obtain⟨t,rfl⟩:=rx;exact SeqAt.EqAt.none_int b t
  | str b=>obtain⟨t,rfl⟩:=rx;exact SeqAt.EqAt.none_str b t
  | _=>exact absurd (show false=true from fx) cw
 | bl a=>
  cases ry
  cases x with
  | aP=>cases rx;exact SeqAt.EqAt.bool_none a
  | bl b=>cases rx;exact SeqAt.EqAt.bool_bool a b
  | int b=>obtain⟨t,rfl⟩:=rx;exact SeqAt.EqAt.bool_int a b t
  | str b=>obtain⟨t,rfl⟩:=rx;exact SeqAt.EqAt.bool_str a b t
  | _=>exact absurd (show false=true from fx) cw
 | int a=>
  obtain⟨t',rfl⟩:=ry
  cases x with
  | aP=>cases rx;exact SeqAt.EqAt.int_none a t'
  | bl b=>cases rx;exact SeqAt.EqAt.int_bool a t' b
  | int b=>obtain⟨t,rfl⟩:=rx;exact E6 a t' b t
  | str b=>obtain⟨t,rfl⟩:=rx;exact EK a t' b t
  | _=>exact absurd (show false=true from fx) cw
 | str a=>
  obtain⟨t',rfl⟩:=ry
  cases x with
  | aP=>cases rx;exact SeqAt.EqAt.str_none a t'
  | bl b=>cases rx;exact SeqAt.EqAt.str_bool a t' b
  | int b=>obtain⟨t,rfl⟩:=rx;exact EL a t' b t
  | str b=>obtain⟨t,rfl⟩:=rx;exact SeqAt.EqAt.str_str a t' b t
  | _=>exact absurd (show false=true from fx) cw
 | _=>exact absurd (show false=true from fy) cw
def qD(x:V)(u:Zq):Bool:=match u with
 | .none=>uz .aP x
 | .bool b=>uz (.bl b) x
 | .int i _=>uz (.int i) x
 | .str z _=>uz (.str z) x
 | _=>false
theorem oU{x y:V}{u:Zq}(r:RelV y u)(f:eE y=true):qD x u=uz y x:=by
 cases y with
 | aP=>cases r;rfl
 | bl b=>cases r;rfl
 | int i=>obtain⟨t,rfl⟩:=r;rfl
 | str z=>obtain⟨t,rfl⟩:=r;rfl
 | _=>exact absurd (show false=true from f) cw
theorem lz{x:V}:∀{xs:List V}{us:List Zq},Vals xs us->xs.all eE=true->us.any (qD x)=xs.any λy=>uz y x
 | _,_,.nil,_=>rfl
 | y::xs,u::us,.cons r t,f=>by
  rw[cQ,cH] at f
  rw[mz,mz,oU r f.1,lz t f.2]
theorem fe{A:Zl}{s:Zp}{x:V}{v:Zq}(rx:RelV x v)(fx:eE x=true):∀{xs:List V}{us:List Zq},Vals xs us->xs.all eE=true->∀u∈us,SeqAt.EqAt A s u v (qD x u)
 | _,_,.nil,_=>λu hu=>by cases hu
 | y::xs,u::us,.cons r t,f=>λu' hu=>by
  rw[cQ,cH] at f
  rcases List.mem_cons.mp hu with rfl | hu
  ·rw[oU r f.1];exact JP r rx f.1 fx
  ·exact fe rx fx t f.2 u' hu
def Qg(x:V)(xs:List V):Bool:=xs.any λy=>uz y x
def UQ(K:PySem.W.Frag)(neg:Bool):R2:=λx y H Q=>∃p xs,y= .ref p/\(fB K H p xs\/dh K H p xs)/\eE x=true/\xs.all eE=true/\Q (.bl (if neg then !Qg x xs else Qg x xs)) H
theorem zJ:dN X (Zx .In) (UQ X.K false):=by
 intro pins s σ H x y v u Q I rx ry h
 obtain⟨p,xs,rfl,hq,fx,fs,q⟩:=h
 cases ry
 rcases hq with hq | hq
 ·obtain⟨its,r,pl,hz⟩:=I.list hq
  refine SeqAt.in_listAt (qD x) pl.isList (λw hw=>fe rx fx r fs w (by simpa using hw)) ⟨.bl _,H,I,rfl,?_⟩
  rw[show its.toArray.any (qD x)=its.any (qD x) by simp,lz r fs]
  exact q
 ·obtain⟨its,r,pl,hz⟩:=I.tuple hq
  refine SeqAt.in_tupleAt (qD x) pl (λw hw=>fe rx fx r fs w (by simpa using hw)) ⟨.bl _,H,I,rfl,?_⟩
  rw[show its.toArray.any (qD x)=its.any (qD x) by simp,lz r fs]
  exact q
theorem sC:dN X (Zx .NotIn) (UQ X.K true):=by
 intro pins s σ H x y v u Q I rx ry h
 obtain⟨p,xs,rfl,hq,fx,fs,q⟩:=h
 cases ry
 rcases hq with hq | hq
 ·obtain⟨its,r,pl,hz⟩:=I.list hq
  refine SeqAt.notIn_listAt (qD x) pl.isList (λw hw=>fe rx fx r fs w (by simpa using hw)) ⟨.bl _,H,I,rfl,?_⟩
  rw[show its.toArray.any (qD x)=its.any (qD x) by simp,lz r fs]
  exact q
 ·obtain⟨its,r,pl,hz⟩:=I.tuple hq
  refine SeqAt.notIn_tupleAt (qD x) pl (λw hw=>fe rx fx r fs w (by simpa using hw)) ⟨.bl _,H,I,rfl,?_⟩
  rw[show its.toArray.any (qD x)=its.any (qD x) by simp,lz r fs]
  exact q
theorem sD:dN X (Zx .NotIn) (λx y H Q=>∃i j,x= .str i/\y= .str j/\Q (.bl (!(!(mn j i 0 j.length 1).isEmpty))) H):=by
 intro pins s σ H x y v u Q I rx ry h
 obtain⟨i,j,rfl,rfl,q⟩:=h
 obtain⟨t,rfl⟩:=rx
 obtain⟨t',rfl⟩:=ry
 exact notIn_str ⟨.bl _,H,I,rfl,q⟩
theorem sE:dG X (.builtin "len") (λxs H Q=>∃p ys,xs=[.ref p]/\(fB X.K H p ys\/dh X.K H p ys)/\Q (.int ys.length) H):=by
 intro pins s σ H xs us Q I r h
 obtain⟨p,ys,rfl,hq,q⟩:=h
 obtain⟨u,rfl,rx⟩:=vals1 r
 cases rx
 have hn:=ky
 rcases hq with hq | hq
 ·obtain⟨its,r',pl,hz⟩:=I.list hq
  have hlen:=r'.length
  exact Calls.call_len_list pl.isList (by simp only[aT]<;>omega) ⟨.int ys.length,H,I.tok _,⟨s.toks+1,by rw[aT,hlen]⟩,q⟩
 ·obtain⟨its,r',pl,hz⟩:=I.tuple hq
  have hlen:=r'.length
  exact len_tuple pl (by simp only[aT]<;>omega) ⟨.int ys.length,H,I.tok _,⟨s.toks+1,by rw[aT,hlen]⟩,q⟩
theorem sF:dG X (.builtin "len") (λxs H Q=>∃z,xs=[.str z]/\z.length<=ZE/\Q (.int z.length) H):=by
 intro pins s σ H xs us Q I r h
 obtain⟨z,rfl,hz,q⟩:=h
 obtain⟨u,rfl,t,rfl⟩:=vals1 r
 have hn:=ky
 exact len_str (by omega) ⟨.int z.length,H,I.tok _,⟨_,rfl⟩,q⟩
theorem dG.or{f:Zq}{r r':List V->Hp->VK->Prop}(h:dG X f r)(h':dG X f r'):dG X f (λxs H Q=>r xs H Q\/r' xs H Q):=by
 intro pins s σ H xs us Q I rs q
 rcases q with q | q
 ·exact h pins s σ H xs us Q I rs q
 ·exact h' pins s σ H xs us Q I rs q
theorem sG:dG X (.type "list") (λxs H Q=>∃p ys,xs=[.ref p]/\(fB X.K H p ys\/dh X.K H p ys)/\∀l,H l=none->Q (.ref l) (upd H l (.lst ys))):=by
 intro pins s σ H xs us Q I r h
 obtain⟨p,ys,rfl,hq,q⟩:=h
 obtain⟨u,rfl,rx⟩:=vals1 r
 cases rx
 have fin:∀(its:List Zq),Vals ys its->ys.length<=ZE->∀(h':Heap)(c':Nat),(∀b o',s.heap.get? b=some o'->h'.get? b=some o')->
   h'.get? s.heap.objs.size=some { cls:=.type "list",dict:=none,data:=.seq its.toArray c',slots:=#[] }->EP X pins σ Q (.ref s.heap.objs.size) { s with heap:=h' }:=λits r' hz h' c' kp e=>
  ⟨.ref s.heap.objs.size,_,I.laid (t':=s.toks) kp (ak _) (show dM X.prog X.w _ h' _ (.lst ys) from⟨hz,its,c',r',e⟩),rfl,q _ (I.hok.fresh (ak _))⟩
 rcases hq with hq | hq
 ·obtain⟨its,r',pl,hz⟩:=I.list hq
  have hlen:=r'.length
  obtain⟨o,ho,hc,n,hd⟩:=pl.isList
  exact call_list_seq p (.inl rfl) ho hc hd (λh' c' kp e=>fin its r' hz h' c' kp e) (by simp only[aT]<;>omega)
 ·obtain⟨its,r',pl,hz⟩:=I.tuple hq
  have hlen:=r'.length
  obtain⟨o,ho,hc,n,hd⟩:=pl
  exact call_list_seq p (.inr rfl) ho hc hd (λh' c' kp e=>fin its r' hz h' c' kp e) (by simp only[aT]<;>omega)
theorem qE:dG X (.type "tuple") (λxs H Q=>∃p ys,xs=[.ref p]/\((fB X.K H p ys/\∀l,H l=none->Q (.ref l) (upd H l (.tup ys)))\/(dh X.K H p ys/\Q (.ref p) H))):=by
 intro pins s σ H xs us Q I r h
 obtain⟨p,ys,rfl,h⟩:=h
 obtain⟨u,rfl,rx⟩:=vals1 r
 cases rx
 rcases h with ⟨hq,q⟩ | ⟨hq,q⟩
 ·obtain⟨its,r',pl,hz⟩:=I.list hq
  have hlen:=r'.length
  refine call_tuple_list pl.isList (λh' kp=>?_) (by simp only[aT]<;>omega)
  have I1:Inv X pins σ H { s with heap:=h' }:=I.kept (t':=s.toks) kp
  have I2:Inv X pins σ (upd H h'.objs.size (.tup ys)) { s with heap:=h'.push { cls:=.type "tuple",data:=.seq its.toArray } } :=
   I1.laid (t':=s.toks) (λb o e=>aE _ e) (ak _) (show dM X.prog X.w _ _ _ (.tup ys) from⟨hz,its,r',IsTup.new _ _,v7.new _ _⟩)
  exact⟨.ref h'.objs.size,_,I2,rfl,q _ (I1.hok.fresh (ak _))⟩
 ·obtain⟨its,r',pl,hz⟩:=I.tuple hq
  exact call_tuple_same pl ⟨.ref p,H,I,rfl,q⟩
def UR(K:PySem.W.Frag)(T:String)(x:V)(H:Hp):Prop:=match x with
 | .str _=>T="str"
 | .int _=>T="int"
 | .ref p=>(T="list"/\∃xs,fB K H p xs)\/(T="tuple"/\((∃o,K.lookup p=some o/\o.cls= .type "tuple"/\o.dict=none)\/∃xs,H p=some (.tup xs)))\/
   (T="dict"/\((∃kvs,H p=some (.dK kvs))\/∃kvs,H p=some (.dT kvs)))\/(T="set"/\∃S n,H p=some (.set S n))
 | _=>False
theorem JQ{pins:List (Zk×Obj)}{σ:St}{H:Hp}{s:Zp}{T:String}{x:V}{v:Zq}(I:Inv X pins σ H s)(r:RelV x v)(ty:UR X.K T x H) :
  s.TypeIs v T/\∀a,v= .ref a->∃ob,s.heap.get? a=some ob/\ob.dict=none:=by
 cases x with
 | str z=>
  obtain⟨t,rfl⟩:=r
  cases (show T="str" from ty)
  exact⟨typeIs_str s z t,λ_ e=>nomatch e⟩
 | int i=>
  obtain⟨t,rfl⟩:=r
  cases (show T="int" from ty)
  exact⟨typeIs_int s i t,λ_ e=>nomatch e⟩
 | ref p=>
  cases r
  rcases ty with ⟨rfl,xs,hq⟩ | ⟨rfl,⟨o,hk,hc,hd⟩ | ⟨xs,hk⟩⟩ | ⟨rfl,hk⟩ | ⟨rfl,S,n,hk⟩
  ·obtain⟨its,_,pl,_⟩:=I.list hq
   refine⟨pl.isList.typeIs,λa e=>?_⟩
   cases e
   obtain⟨o,n,e,c,hd,_⟩:=pl
   exact⟨o,e,hd⟩
  ·refine⟨⟨o,I.zt p o hk,hc⟩,λa e=>?_⟩
   cases e
   exact⟨o,I.zt _ o hk,hd⟩
  ·obtain⟨_,_,_,⟨o,e1,e2,_⟩,nd⟩:=I.hok p _ hk
   refine⟨⟨o,e1,e2⟩,λa e=>?_⟩
   cases e
   exact⟨o,e1,nd o e1⟩
  ·have z:∃o,s.heap.get? p=some o/\o.ExactDict:=by
    rcases hk with ⟨kvs,hk⟩ | ⟨kvs,hk⟩
    ·obtain⟨_,_,_,_,o,_,_,e,ex,_⟩:=I.hok p _ hk
     exact⟨o,e,ex⟩
    ·obtain⟨_,_,_,_,o,_,_,e,ex,_⟩:=I.hok p _ hk
     exact⟨o,e,ex⟩
   obtain⟨o,e,ex⟩:=z
   refine⟨⟨o,e,ex.1⟩,λa e2=>?_⟩
   cases e2
   exact⟨o,e,ex.2.1⟩
  ·obtain⟨o,_,_,_,e,ex,_⟩:=I.hok p _ hk
   refine⟨⟨o,e,ex.1⟩,λa e2=>?_⟩
   cases e2
   exact⟨o,e,ex.2.1⟩
 | _=>exact aa ty
def Wj(K:PySem.W.Frag)(T:String)(r:V->List V->Hp->VK->Prop)(to:TE)(t:TA):TE:=λσ H Q=>to σ H λx H1=>UR K T x H1/\t σ H1 λxs H2=>r x xs H2 Q
variable {o e:Expr} {es:List Expr} {to:TE} {t:TA} {name:Str} {apos cpos:Pos} {T id:String} {r:V->List V->Hp->VK->Prop}
theorem xX(pa:PlainAttrs T)(slot:Slot T name id)(hty:typeOf (.builtin id)=pure (.type "method_descriptor"))(hm:Hx X id r)(ho:PE X o to)(ha:PA X (e::es) t)
  (hbase:attributeBase o name X.env (eval o X.env)=eval o X.env:=by rfl)
  (hfew:((backTo cpos (ZF (e::es) X.env)).all (λx=> !x.1)&&(backToKw cpos (keywordEach [] X.env)).all (λx=>x.1.isSome)
   &&decide ((e::es).length+([]:List Keyword).length+(if([]:List Keyword).isEmpty then 0 else 1) < 30))=true:=by rfl)
  (hline:(apos.endLine == cpos.line)=true:=by rfl)(hs:ZF (e::es) X.env=(false,eval e X.env)::ZF es X.env:=by rfl)(hplain:(backTo cpos (ZF es X.env)).any (·.1)=false:=by rfl) :
  PE X (.Call (.Attribute o name apos) (e::es) [] cpos) (Wj X.K T r to t):=by
 intro pins s σ H Q I h
 refine wpAny_Call_method_late hbase hfew hline rfl (bH (ho pins s σ H _ I h) λv s1 ⟨x,H1,I1,r1,ty,q1⟩=>?_)
 obtain⟨h1,h2⟩:=JQ I1 r1 ty
 refine⟨T,id,pa,slot,hty,h1,h2,?_⟩
 have hA:=ha cpos pins s1 σ H1 _ I1 q1
 rw[hs] at hA ⊢
 refine JR (by show(false||(backTo cpos (ZF es X.env)).any (·.1))=false;rw[hplain]<;>rfl) (Bx ?_)
 exact bH hA λus s2 ⟨vs,H2,I2,r2,q2⟩=>hm pins s2 σ H2 x vs v us Q I2 r1 r2 q2
/- xs.append(e),list.index on a NV tuple .. are Hx facts of 06m -/
end
def Wl(X:Cx)(id:String)(r:V->List V->Hp->VK->Prop):Prop :=
 ∀(pins:List (Zk×Obj))(s:Zp)(σ:St)(H:Hp)(x:V)(xs:List V)(v:Zq)(us:List Zq)(Q:VK),Inv X pins σ H s->RelV x v->Vals xs us->r x xs H Q->
  ZG (model X.prog X.w) X.A (call (.builtin id) (v::us)) (EP X pins σ Q) X.xe s
theorem Vals.one:∀{x:V}{us:List Zq},Vals [x] us->∃u,us=[u]/\RelV x u
 | _,_,.cons r .nil=>⟨_,rfl,r⟩
theorem Vals.rep{xs:List V}{us:List Zq}(h:Vals xs us):∀k:Nat,Vals (aG k xs).flatten (aG k us).flatten
 | 0=> .nil
 | k+1=>by
  rw[gJ,gJ,oV,oV]
  exact Vals.append h (Vals.rep h k)
theorem foldl_rep(its:List Zq):∀(k:Nat)(acc:List Zq),
  List.foldl (λx1 x2=>x1++x2) acc.toArray (aG k its.toArray)=(acc++(aG k its).flatten).toArray
 | 0,acc=>by simp
 | k+1,acc=>by
  have e:acc.toArray++its.toArray=(acc++its).toArray:=by simp
  have e2:(acc++its)++(aG k its).flatten=acc++(aG (k+1) its).flatten:=by
   rw[gJ,oV,ij]
  rw[<-e2,<-foldl_rep its k (acc++its),<-e,gJ,By]
section
variable {X:Cx} {pins:List (Zk×Obj)} {σ:St} {H:Hp} {s:Zp} {l b:Zk} {xs ys zs:List V}
theorem Inv.Rv{its its':List Zq}{n:Nat}{f:Array Zq->Array Zq}{t':Nat}(I:Inv X pins σ H s)(hH:H l=some (.lst xs))
  (e:s.heap.get? l=some { cls:=.type "list",data:=.seq its.toArray n })(hf:f its.toArray=its'.toArray)(hv:Vals ys its')(hz:ys.length<=ZE) :
  Inv X pins σ (upd H l (.lst ys)) { s with heap:=s.heap.update l (aW f),toks:=t' }:=by
 have q:=PySem.IsL.update e f
 rw[hf] at q
 refine I.write (x:=l) (e:=l) (by rw[hH];exact trivial) (.inl rfl) (λb' u hb hu=>(my s.heap (aW f) (bg hb)).trans hu) ⟨_,q⟩ ?_
 exact⟨hz,its',_,hv,q⟩
theorem Inv.Ff{its:List Zq}{t':Nat}(I:Inv X pins σ H s)(hv:Vals ys its)(hz:ys.length<=ZE) :
  Inv X pins σ (upd H s.heap.objs.size (.lst ys)) { s with heap:=s.heap.push { cls:=.type "list",data:=.seq its.toArray },toks:=t' } :=
 I.laid (λ_ _ q=>aE _ q) (ak _) ⟨hz,its,0,hv,bY _ rfl⟩
theorem Inv.fresh(I:Inv X pins σ H s):H s.heap.objs.size=none:=I.hok.fresh (ak _)
theorem Inv.NW(I:Inv X pins σ H s)(hH:H l=some (.lst xs)):xs.length<=ZE/\∃(its:List Zq)(n:Nat),Vals xs its/\xs.length=its.length/\s.heap.get? l=some { cls:=.type "list",data:=.seq its.toArray n }:=by
 obtain⟨z,its,n,r,e⟩:=I.hok l _ hH
 exact⟨z,its,n,r,r.length,e⟩
theorem Bz{n:Nat}(h:n<=ZE):BA n=false:=by
 unfold BA
 exact decide_eq_false (by omega)
end
section
variable {X:Cx}
def Fg:V->List V->Hp->VK->Prop:=λx vs H Q=>∃l xs y,x= .ref l/\vs=[y]/\H l=some (.lst xs)/\xs.length < ZE/\Q .aP (upd H l (.lst (xs++[y])))
theorem zK:Wl X "list.append" Fg:=by
 intro pins s σ H x vs v us Q I rx rv h
 obtain⟨l,xs,y,rfl,rfl,hH,hz,q⟩:=h
 cases rx
 obtain⟨u,rfl,ru⟩:=rv.one
 obtain⟨z,its,n,r,hl,e⟩:=I.NW hH
 refine call_meets F.slot_list_append ⟨_,e,rfl⟩ F.entry_list_append (F.args_list_append_2 _ _) (PySem.list_append l its.toArray n u (by rw[aT];omega)) ⟨e,?_⟩
 refine⟨.aP,_,I.Rv (its':=its++[u]) hH e (by simp) (r.append (.cons ru .nil)) ?_,rfl,q⟩
 rw[dk,JU]
 omega
def Rw:R2:=λx y H Q=>∃l k xs,x= .ref l/\y= .int k/\H l=some (.lst xs)/\-(2 ^ 63)<=k/\k < 2 ^ 63/\xs.length * k.toNat<=ZE/\
 ∀p,H p=none->Q (.ref p) (upd H p (.lst (aG k.toNat xs).flatten))
theorem len_rep{α:Type}(xs:List α)(k:Nat):(aG k xs).flatten.length=k * xs.length:=by
 induction k with
 | zero=>simp
 | succ k ih=>rw[gJ,oV,dk,ih,Nat.succ_mul,Nat.add_comm]
theorem JV:dN X (Zt .Mult) Rw:=by
 intro pins s σ H x y v u Q I rx ry h
 obtain⟨l,k,xs,rfl,rfl,hH,h1,h2,hz,q⟩:=h
 cases rx
 obtain⟨t,rfl⟩:=ry
 obtain⟨z,its,n,r,hl,e⟩:=I.NW hH
 have hlen:its.toArray.size * k.toNat<=ZE:=by rw[aT,<-hl];exact hz
 have hcap:¬its.toArray.size * k.toNat > (2 ^ 63 - 1) / 8:=by
  have:(ZE:Nat)<=(2 ^ 63 - 1) / 8:=by decide
  omega
 have hfit:¬(!Builtin.List.listFitsIndex k)=true:=by
  rw[fitsIndex_both h1 h2]
  exact cw
 have NX:¬BA (its.toArray.size * k.toNat)=true:=by
  rw[Bz hlen]
  exact cw
 have hnew:List.foldl (λx1 x2=>x1++x2) #[] (aG (if its.toArray.isEmpty=true then 0 else k.toNat) its.toArray)=(aG k.toNat its).flatten.toArray:=by
  have f0:∀m:Nat,List.foldl (λx1 x2=>x1++x2) #[] (aG m its.toArray)=(aG m its).flatten.toArray:=λm=>by
   have:=foldl_rep its m []
   rw[nX] at this
   exact this
  rw[f0]
  cases its with
  | nil=>simp
  | cons a r'=>rw[if_neg (by simp)]
 refine wpAny_binaryOp_repeat_ref (T:="list") (U:="int") (by decide) ⟨_,e,rfl⟩ (λs'=>typeIs_int s' k t) noFill_list_mul F.fills_int_mul F.slot_int_rmul repeat_list F.slot_int_index.lookup
  (call_meets F.slot_int_rmul (typeIs_int s k t) F.entry_int_rmul (F.args_int_rmul_2 _ _) (int___rmul___int_list k t l its.toArray n)
   ⟨e,rfl,⟨_,e,rfl⟩,call_meets F.slot_list_mul ⟨_,e,rfl⟩ F.entry_list_mul (F.args_list_mul_2 _ _) (AutoListH.list___mul___list_int_3 l its.toArray n k t hfit hcap NX) ⟨e,?_⟩⟩)
 rw[hnew]
 exact⟨.ref _,_,I.Ff (t':=s.toks) (r.rep k.toNat) (by rw[len_rep,Nat.mul_comm];exact hz),rfl,q _ I.fresh⟩
end
section
variable {prog:Zo} {w:Zr} {A:Zl} {E:Zq->Zp->Prop} {s:Zp}
set_option maxRecDepth 100000 in
end
section
variable {X:Cx}
end
end L2
namespace Att
open PySem PySem.W PySem.Calls PyProof.Rows
theorem nN{P:Params}{h:Heap}:∀(ns:List Int)(vs:List Zq),WellAll P h vs (ns.map WData.int)->IntsAre vs ns:=by
 intro ns
 induction ns with
 | nil=>
  intro vs w
  rw[List.map_nil] at w
  cases w
  exact .nil
 | cons n ns ih=>
  intro vs w
  rw[aZ] at w
  cases w with
  | cons a b=>
   cases a
   exact .cons _ _ (ih _ b)
theorem zL{l:OpenLaw}{n:Nat}(hn:l.most=some n){P:Params}{h:Heap}{args:List WData}{vals:List Zq}
  (hpre:l.row.toRowW.claim.pre args=true)(hwl:WellAll P h vals args) :
  ∃a vs ns,vals=[cV a]/\args=[WData.list (ns.map WData.int)]/\h.get? a=some { cls:=.type "list",data:=.seq vs.toArray }/\IntsAre vs ns/\ns.length<=n:=by
 have hsh:WShape.hasAll [] args [.list .int]=true:=(pre_splitW hpre).1
 have hc:l.pre.holds [] { args:=args }=true:=(pre_splitW hpre).2
 obtain⟨d,r,rfl,h1,h2⟩:=hasAllW_cons hsh
 obtain rfl:=hasAllW_nil h2
 obtain⟨xs,rfl,h3⟩:=hasW_list h1
 obtain⟨ns,rfl⟩:=items_int h3
 have hlen:ns.length<=n:=by
  unfold OpenLaw.pre at hc
  have h4:(WTm.not (.lt (.lit (.int (n:Int))) (.len (.arg 0)))).holds [] { args:=[.list (ns.map .int)] }=true:=by
   have h4:=(holds_andW hc).1
   rw[hn] at h4
   exact h4
  have h5:=condW_of h4 (w_not (w_lt w_lit (w_len_list (w_arg rfl))))
  rw[aH] at h5
  refine Nat.le_of_not_lt λq=>?_
  have q':(n:Int) < ((ns.length:Nat):Int):=by omega
  first
   | (rw[decide_eq_true q'] at h5;exact absurd h5 (by decide))
   | (simp at h5;omega)
 cases hwl with
 | cons w1 w2=>
  cases w2
  cases w1 with
  | list ho hall=>exact⟨_,_,ns,rfl,rfl,ho,nN ns _ hall,hlen⟩
theorem zM(l:OpenLaw)(args:List WData):l.row.toRowW.claim.post args (.bool true) args=true :=
 postW_of (r:=l.row.toRowW) (X:=(true == true))
  (show WShape.has [] (.bool true) .bool=true by first | rfl | decide | simp[WShape.has,WShape.arms,WShape.armsAll])
  (show(WTm.eq .res (.lit (.bool true))).value [] { args:=args,res:=some (.bool true),after:=args }=some (.bool (true == true)) from w_eq_bool (w_res rfl) w_lit) rfl
theorem uA{l:OpenLaw}{n:Nat}{q:Zo}{loose:List Str}{XP:(Str->Option Zq)->Heap->Prop}{YP:Zr->Heap->Prop}{d:DefRec}
  (hn:l.most=some n)(hdf:d.params.defaults=[])
  (call:∀(w:Zr)(s₀ s₁:Zp)(mg mb:Str->Option Zq)(fa:Zk)(o:Obj)(pm cd doc:Zq)(a:Zk)(vs:List Zq)(ns:List Int),
   Ground q loose [] XP w s₀ mg mb s₁.heap->YP w s₁.heap->
   s₁.heap.get? fa=some o->o.data= .func (docDef d.name d.params d.body d.scope pm cd doc)->s₁.heap.CodeRec cd d.name->mg d.name=some (.ref fa)->
   s₁.heap.get? a=some { cls:=.type "list",data:=.seq vs.toArray }->IntsAre vs ns->ns.length<=n->s₁.gens=#[]->
   Zv (model l.prog w) callerA (.call (.ref fa) ⟨[.ref a],[]⟩) (λr s'=>r= .ok (.ret (.bool true))/\OldK s₁.heap s'.heap/\s'.os=s₁.os/\AllBare s'.gens) s₁) :
  WalkO q loose XP YP l.row.toRowW d [] (λf vs=>PySem.call f vs):=by
 intro w s₀ s₁ mg mb G Y fa o pm cd doc dV kV ho hd hcd hD hmg hg args vals as hpre hlay hrd hwl hlo
 obtain rfl:dV= .none:=Dflts.none hD hdf
 obtain rfl:kV= .none:=Dflts.noKw hD
 obtain⟨a,vs,ns,rfl,rfl,hobj,hints,hlen⟩:=zL hn hpre hwl
 refine enter_call (codeAny_mono (call w s₀ s₁ mg mb fa o pm cd doc a vs ns G Y ho (fd_plain hd) hcd hmg hobj hints hlen hg) λr s' hq=>?_)
 obtain⟨rfl,h2,h3,h4⟩:=hq
 exact⟨.inl ⟨.bool true,.bool true,[],rfl,λ_=>rfl,.bool true,zM l _,λ_=>⟨List.Pairwise.nil,λ_ hm=>(nomatch hm)⟩⟩,h2,h3,h4⟩
section
variable {prog:Zo} {w:Zr} {A:Zl} {E:Zq->Zp->Prop} {s:Zp} {K:Frag}
def sH(h:Heap):Heap:={ h with objs:=#[] }
theorem iM(h:Heap)(b:Zk):(sH h).get? b=none:=by
 cases e:(sH h).get? b with
 | none=>rfl
 | some o=>exact absurd (ax e) (Nat.not_lt_zero _)
theorem JX{h:Heap}{L:Zk}{m:Str->Option Zq}(n:h.Ns L m):Fr (sH h) L h m :=
 ⟨n,λb o e=>(by rw[iM] at e;cases e),bF _⟩
end
end Att
namespace L2
open PySem PySem.Spec PyProof.Rows
theorem ra:∀{vs:List Zq}{ns:List Int},IntsAre vs ns->Vals (ns.map V.int) vs
 | _,_,.nil=> .nil
 | _,_,.cons n t h=> .cons ⟨t,rfl⟩ (ra h)
abbrev KOf{K:PySem.W.Frag}{h:Heap}(_:K.In h):PySem.W.Frag:=K
end L2
/- Yz Wm Qh (shape;YA,My.* are US):
   My.YB: a structure of the addresses Rx your UT names (classes,MU);My.Txt K t: a structure (Prop) of the equations over K;
   My.JY:{K} {implicit addresses ..} (e1:nsIn K ZA "law"=some (some (.ref f))) (e2:K.lookup f=some ⟨oc,od,.func (fnOf "law" "law" params body scope dV kV doc pm an cdv ct),sl⟩) (e3:codeIn K cdv "law"=true) ..:∃t,My.Txt K t
set_option maxRecDepth 100000 in
set_option maxHeartbeats 0 in
theorem PySem.Challenge.cw_LID_holds:PySem.Challenge.rw_LID.Holds:=by
 w_on;o_law;k_head;(case hw=>w_witness2)
 k_fill
 refine L2.walk_of (l:=PySem.Challenge.rw_LID) (n:=63) (k:=40) (x:="script") (CX:=fun w => ..) (sp:=fun _ => My.sp_law) rfl (by decide) rfl ⟨rfl,by decide,by decide⟩ (fun w h Y => PySem.W.kIn_of Y) ?F ?S ?C
 case F=>
  intro w mg fa h KX G hmg
  have T:∃t,My.Txt (L2.KOf KX) t:=by
   dsimp only[L2.KOf] -- K Wn stand as «<heap const> w.params» for k_is
   refine' My.JY ?e1 ?e2 ?e3 ..
   (case e1=>PySem.W.k_is) -- in the order: a name -> its address -> its object -> its parts
   (case e2=>PySem.W.k_is)
   ..
  obtain⟨t,T⟩:=T
  have e0:=hmg.symm.trans (PySem.W.mg_of KX G T.law)
  cases e0 -- fa is the UU own address
  exact⟨_,λs u=> .of_eq rfl,λbase kb nb=>My.JZ T kb nb⟩ -- if «.of_eq rfl» comes YC early: refine' ⟨_,?b,λbase kb nb=>My.JZ T kb nb⟩;exact λs u=> .of_eq rfl
 case S=>exact λw H a ns hl hO hS=> ..
 case C=>exact ..
(the tactic k_is has no namespace: write k_is) -/
namespace L2
open PySem PySem.Spec PyProof.Rows
def defArgs(s:Stmt):Arguments:=match s with
 | .FunctionDef _ a _ _ _ _ _ _ _ _=>a
 | _=>{ posonlyargs:=[],args:=[],vararg:=none,kwonlyargs:=[],kw_defaults:=[],kwarg:=none,defaults:=[] }
def defBody(s:Stmt):List Stmt:=match s with
 | .FunctionDef _ _ b _ _ _ _ _ _ _=>b
 | _=>[]
def defScope(s:Stmt):Scope:=match s with
 | .FunctionDef _ _ _ _ _ _ sc _ _ _=>sc
 | _=>{ kind:=.function,names:=[],isGenerator:=false,isCoroutine:=false }
abbrev CX0:A7:=λ_ _ _ _ _ _=>False
abbrev E0:XK:=λ_ _ _=>False
structure J0(K:PySem.W.Frag)(x qual:Str)(st:Stmt)(f:Zk)(fd:Zm):Prop where
 ex:∃(oc:Zq)(od:Option Zk)(kV doc pm:Zq)(an:Option Zk)(cdv ct:Zq)(osl:Array (Option Zq)),
  fd=PySem.W.fnOf x qual (defArgs st) (defBody st) (defScope st) .none kV doc pm an cdv ct/\K.lookup f=some ⟨oc,od,.func fd,osl⟩/\PySem.W.codeIn K cdv qual=true
 kp:PySem.W.keepIn K (.ref f)=true
section
variable {P:Zo} {w:Zr} {K:PySem.W.Frag} {mg:Str->Option Zq} {base:Heap}
theorem J0.binds{x qual:Str}{st:Stmt}{f:Zk}{fd:Zm}{ps:List Str}(F:J0 K x qual st f fd)
  (h:∀(kV doc pm:Zq)(an:Option Zk)(cdv ct:Zq)(us:List Zq),us.length=ps.length->bindArgs (PySem.W.fnOf x qual (defArgs st) (defBody st) (defScope st) .none kV doc pm an cdv ct) ⟨us,[]⟩=pure (ps.zip us)):Binds K fd ps []:=by
 obtain⟨oc,od,kV,doc,pm,an,cdv,ct,osl,rfl,lk,hcd⟩:=F.ex
 exact .all (h kV doc pm an cdv ct)
theorem J1{x qual:Str}{st:Stmt}{f:Zk}{oc:Zq}{od an:Option Zk}{osl:Array (Option Zq)}{kV doc pm cdv ct:Zq}(l:K.lookup f=some ⟨oc,od,.func (PySem.W.fnOf x qual (defArgs st) (defBody st) (defScope st) .none kV doc pm an cdv ct),osl⟩)
  (c:PySem.W.codeIn K cdv qual=true)(k:PySem.W.keepIn K (.ref f)=true):J0 K x qual st f (PySem.W.fnOf x qual (defArgs st) (defBody st) (defScope st) .none kV doc pm an cdv ct):=⟨⟨oc,od,kV,doc,pm,an,cdv,ct,osl,rfl,l,c⟩,k⟩
end
section
variable {X:Cx}
end
section
variable {κ : Type} [DecidableEq κ]
def wB(kvs : List (κ×V))(k : κ) : Option V := (kvs.find? λkv=>decide (kv.1=k)).map (·.2)
def oX(kvs : List (κ×V))(k : κ) : List (κ×V) := kvs.filter λkv=>decide (kv.1≠k)
theorem BB{p : κ×V}{r : List (κ×V)}{k : κ}(e : p.1=k) : wB (p::r) k=some p.2 := by simp[wB, BC, e]
theorem BD{p : κ×V}{r : List (κ×V)}{k : κ}(e : ¬p.1=k) : wB (p::r) k=wB r k := by simp[wB, BC, e]
end
section
variable {P : Zo} {w : Zr} {H : Hp} {h : Heap} {a : Zk}
end
section
variable {X : Cx} {pins : List (Zk×Obj)} {σ : St} {H : Hp} {s : Zp} {a : Zk} {y v : V} {u r : Zq} {o : Option V} {A : Zl} {E : Zq->Zp->Prop}
end
section
variable {X : Cx} {pins : List (Zk×Obj)} {σ : St} {H : Hp} {s : Zp} {a : Zk} {kvs : List (Key×V)} {k : Key} {u : Zq} {A : Zl} {E : Zq->Zp->Prop}
end
def J2(i : Expr) : Prop := ∀ov iv, subscripted i false ov iv=operate [ov, iv] (getItem ov iv)
theorem Fh{prog : Zo}{w : Zr}{A : Zl}{E : Zq->Zp->Prop}{s : Zp}{env : Env}{value slice : Expr}{pos : Pos}{T id : String}{Q : Zq->Zp->Prop}
  (hl : typeLookup (.type T) "__getitem__"=pure (some (.builtin id)))(hs : J2 slice)
  (h : ZG (model prog w) A (eval value env) (λo s₁=>ZG (model prog w) A (eval slice env) (λi s₂=>s₂.TypeIs o T/\ZG (model prog w) A (getItem o i) Q E s₂) E s₁) E s) :
  ZG (model prog w) A (eval (.Subscript value slice pos) env) Q E s := by
 refine Subscript_ (ZJ h (λo s₁ h₁=>ZJ h₁ (λi s₂ h₂=>?_) λ_ _ x=>x) λ_ _ x=>x)
 obtain⟨hT, h₂⟩ := h₂
 unfold subscriptTail
 refine ZH ?_
 rw[getitemInPython_of_ne hT.not_modules]
 refine ZH (wpAny_specialOf hT hl ?_)
 have fin : ZG (model prog w) A (subscripted slice false o i) (λr s₃=>ZG (model prog w) A (letTemporaryGo value o r >>= λ_=>pure r) Q E s₃) E s₂ := by
  rw[hs o i]
  exact wpAny_operating (ZJ h₂ (λr s₃ h₃=>ZH (wpAny_letTemporaryGo (ZM h₃))) λ_ _ x=>x)
 first
  | exact ZM (ZH fin)
  | exact ZH (ZM (ZH fin))
  | exact ZH fin
section
variable {X : Cx} {o i e value : Expr} {pos pos' tpos : Pos} {td ty tv : TE}
end
section
variable {X : Cx} {pos : Pos}
end
structure M2(X : Cx)(o : Expr)(m : Str)(apos : Pos)(e f : Expr)(cpos : Pos) : Prop where
 base : attributeBase o m X.env (eval o X.env)=eval o X.env
 few : ((backTo cpos (ZF [e, f] X.env)).all (λx=> !x.1)&&(backToKw cpos (keywordEach [] X.env)).all (λx=>x.1.isSome)
  &&decide (([e, f] : List Expr).length+([] : List Keyword).length+(if([] : List Keyword).isEmpty then 0 else 1) < 30))=true
 line : (apos.endLine == cpos.line)=true
 trees : backTo cpos (ZF [e, f] X.env)=[(false, eval e X.env), (false, eval f X.env)]
section
variable {X : Cx} {pins : List (Zk×Obj)} {σ : St} {H : Hp} {s : Zp} {a : Zk} {y d : V} {u r : Zq} {o : Option V} {A : Zl} {E : Zq->Zp->Prop}
end
section
variable {X : Cx} {o e f : Expr} {apos cpos : Pos} {td ty tx : TE}
end
section
variable {X : Cx} {pins : List (Zk×Obj)} {σ : St} {H : Hp} {s : Zp} {a : Zk} {kvs : List (Key×V)} {A : Zl} {E : Zq->Zp->Prop}
end
section
variable {X : Cx} {pins : List (Zk×Obj)} {σ : St} {H : Hp} {s : Zp} {a : Zk} {y : V} {u : Zq} {A : Zl} {E : Zq->Zp->Prop}
end
end L2
namespace Att
open PySem PySem.W PySem.Calls PyProof.Rows
end Att
namespace L2
open PySem PySem.Spec PyProof.Rows
section
variable {X : Cx}
end
section
variable {κ : Type} [DecidableEq κ]
theorem zN{p : κ×V}{r : List (κ×V)}{k : κ}(e : p.1=k) : oX (p::r) k=oX r k := by
 unfold oX
 rw[wC, if_neg (by simp[e])]
theorem zO{p : κ×V}{r : List (κ×V)}{k : κ}(e : ¬p.1=k) : oX (p::r) k=p::oX r k := by
 unfold oX
 rw[wC, if_pos (by simp[e])]
end
end L2
set_option maxHeartbeats 4000000
namespace J
open PySem PySem.Spec PyProof.Rows L2
def NY(h base:Heap)(e:Zk)(cls a0 fl:Zq):Prop :=
 ∃ox us T ot ws,h.get? e=some ox/\(ox.cls=cls/\us[2]? =some bC)/\ox.data= .fields us/\us[1]? =some (.ref T)/\base.get? T=none/\T≠e/\h.get? T=some ot/\ot.data= .fields ws/\ws[3]? =some fl
abbrev Fi(base:Heap)(l:List Env)(e:Zk)(cls a0 fl:Zq)(h:Heap):Prop:=base.StaysIn h/\base.get? e=none/\h.FunFrames base l/\NY h base e cls a0 fl
def xY(base:Heap)(l:List Env)(e:Zk)(cls a0:Zq)(L:Zk)(h:Heap):Prop:=Fi base l e cls a0 (rawInt L) h
def sI(base:Heap)(l:List Env)(e:Zk)(cls a0:Zq)(h:Heap):Prop:=Fi base l e cls a0 .none h
theorem sI.first{base h:Heap}{l:List Env}{e:Zk}{cls a0:Zq}(x:sI base l e cls a0 h):∃ox us,h.get? e=some ox/\ox.cls=cls/\ox.data= .fields us/\us[2]? =some bC :=
 let ⟨_,_,_,ox,us,_,_,_,g1,g2,g3,_⟩:=x;⟨ox,us,g1,g2.1,g3,g2.2⟩
section
variable {M:Model} {A:Zl} {E:Zq->Zp->Prop} {s:Zp} {base:Heap} {env:Env} {outer l:List Env} {L e:Zk} {cls a0 nt:Zq} {Q:Unit->Zp->Prop}
theorem wD{h h1:Heap}{S:List Zk}{ox ob:Obj}{us ws:Array Zq}(so:Heap.SlotsOnly S h h1)(hS:S=l.filterMap (·.frame))(fs:h.FunFrames base l)(g1:h.get? e=some ox)(g3:ox.data= .fields us)(st:base.StaysIn h)(ne:base.get? e=none)(sz:1 < us.size)(g2:us[2]? =some bC)
  (d:ob.data= .fields ws)(w3:ws[3]? =some nt)(nf:ob.isFreed=false) :
  Fi base l e ox.cls a0 nt ((h1.push ob).update e (eS (·.setIfInBounds 1 (.ref h1.objs.size))))/\h.UpToSlots ((h1.push ob).update e (eS (·.setIfInBounds 1 (.ref h1.objs.size)))):=by
 have nS:e∉S:=λz=>by
  rw[hS] at z
  obtain⟨_,o2,q2,d2⟩:=fs.mem z
  rw[g1] at q2
  cases q2
  exact d2 us g3
 have q1:h1.get? e=some ox:=(so.2.1 e nS).trans g1
 have lt:e≠h1.objs.size:=aN (ax q1)
 have UW:∀b o,b≠e->h1.get? b=some o->((h1.push ob).update e (eS (·.setIfInBounds 1 (.ref h1.objs.size)))).get? b=some o:=λb o n q=>(my _ _ (bg n)).trans (aE _ q)
 have up:h.UpToSlots ((h1.push ob).update e (eS (·.setIfInBounds 1 (.ref h1.objs.size)))):=λb o q n=>by
  obtain⟨sl,q2⟩:=so.2.2 b o q
  exact⟨sl,UW b _ (λz=>by rw[z,g1] at q;cases q;exact n us g3) q2⟩
 have stay:base.StaysIn h1:=λb o q=>(so.2.1 b λz=>by
  rw[hS] at z
  rw[(fs.mem z).1] at q
  cases q).trans (st b o q)
 have fresh:base.get? h1.objs.size=none:=by
  cases z:base.get? h1.objs.size with
  | none=>rfl
  | some o=>exact absurd (ax (stay _ _ z)) (bX _)
 have d1:=nY g3 (·.setIfInBounds 1 (cV h1.objs.size))
 refine⟨⟨λb o q=>UW b o (λz=>by rw[z,ne] at q;cases q) (stay b o q),ne,fs.of_keeps λb o q n=>?_,_,_,h1.objs.size,ob,ws,wA _ (aE _ q1) (xZ d1),⟨Obj.cls_mapFields _ _,?_⟩,d1,by simp[sz],fresh,bg lt,?_,d,w3⟩,up⟩
 ·obtain⟨sl,q2⟩:=up b o q n
  exact⟨_,q2,rfl⟩
 ·rw[Array.getElem?_setIfInBounds_ne (by decide)];exact g2
 ·exact(my _ _ lt).trans (bY _ nf)
theorem BE{ox:Obj}{us:Array Zq}{head:Zq}{had:Bool}(hfr:A.frames=some (env::outer))(fs:s.heap.FunFrames base (env::outer))(hf:env.frame=some L)(g1:s.heap.get? e=some ox)(st:base.StaysIn s.heap)(ne:base.get? e=none)(g3:ox.data= .fields us)(sz:1 < us.size)(g2:us[2]? =some bC)
  (k:∀h',xY base (env::outer) e ox.cls a0 L h'->s.heap.UpToSlots h'->Q () { s with heap:=h' }) :
  ZG M A (do let a <-frameOf env;let pl <-entryPlaceOf L had;let b <-J3 head a .none (rawInt L) .none pl;setField (.ref e) 1 b) Q E s:=by
 refine ZH (wpAny_frameOf_fun hfr fs hf λh1 so=>ZH (wpAny_entryPlaceOf λpl pp=>?_))
 have nS:e∉(env::outer).filterMap (·.frame):=λz=>by
  obtain⟨_,o2,q2,d2⟩:=fs.mem z
  rw[g1] at q2
  cases q2
  exact d2 us g3
 have q1:h1.get? e=some ox:=(so.2.1 e nS).trans g1
 simp only[J3,newFields]
 refine ZH (ZL (wpAny_setField (aE _ q1) g3 sz ?_) (pp.sizeOk5 _ _ _ _ _))
 obtain⟨m,up⟩:=wD (a0:=a0) (nt:=rawInt L) so rfl fs g1 g3 st ne sz g2 (ob:={ cls:=.type "traceback",dict:=none,data:=.fields ([head,.ref L,.none,rawInt L,.none]++(if pl.isEmpty then aG 6 bC else pl)).toArray }) rfl (by first | (simp;done) | (rcases pp with rfl | ⟨_,_,_,_,_,_,_,rfl⟩<;>simp)) rfl
 exact k _ m up
theorem J4(hf:env.frame=some L)(x:NY s.heap base e cls a0 (rawInt L))(k:Q () s):ZG M A (noteFrame (.ref e) env) Q E s:=by
 obtain⟨ox,us,T,ot,ws,g1,g2,g3,g4,g5,g6,g7,g8,g9⟩:=x
 unfold noteFrame
 simp only[hf]
 refine ZH (wpAny_field g1 g3 g4 ?_)
 rw[if_pos (by simp)]
 refine ZH (wpAny_field g7 g8 g9 ?_)
 rw[if_pos (by simp)]
 exact ZM k
theorem uB(x:Fi base l e cls a0 nt s.heap)(k:∀h',sI base l e cls a0 h'->s.heap.UpToSlots h'->Q () { s with heap:=h' }):ZG M A (setFlight (.ref e) none) Q E s:=by
 obtain⟨x1,x2,x3,ox,us,T,ot,ws,g1,g2,g3,g4,g5,g6,g7,g8,g9⟩:=x
 have sz:3 < ws.size:=(Array.getElem?_eq_some_iff.mp g9).1
 unfold setFlight
 refine ZH (wpAny_field g1 g3 g4 ?_)
 rw[if_pos (by simp)]
 refine wpAny_setField g7 g8 sz ?_
 generalize hu:s.heap.update T _=h'
 have ap:∀b,b≠T->h'.get? b=s.heap.get? b:=λb n=>by rw[<-hu];exact my _ _ (bg n)
 have pl:∀b o,s.heap.get? b=some o->(∀vs,o.data≠.fields vs)->h'.get? b=some o:=λb o q n=>(ap b λz=>by rw[z,g7] at q;cases q;exact n ws g8).trans q
 refine k h' ⟨λb o q=>(ap b λz=>by rw[z,g5] at q;cases q).trans (x1 b o q),x2,x3.of_keeps λb o q n=>⟨o,pl b o q n,rfl⟩,ox,us,T,eS (·.setIfInBounds 3 .none) ot,ws.setIfInBounds 3 .none,(ap e (bg g6)).trans g1,g2,g3,g4,g5,g6,?_,nY g8 _,?_⟩ λb o q n=>⟨o.slots,pl b o q n⟩
 ·rw[<-hu];exact wA _ g7 (xZ (nY g8 _))
 ·simp[sz]
end
structure Lm where
 a:Zk
 c:Zk
 q:PySem.Str
 xs:List V
inductive Wv where
 | aP
 | bl (b:Bool)
 | int (i:Int)
 | str (x:PySem.Str)
 | tup (ws:List Wv)
 | oY (ws:List Wv)
 | ref (l:Nat)
 | ty (n:String)
 | cls (c:PySem.Str)
 | lC (c:PySem.Str)
 | fn (p:Lm) (ws:List Wv)
inductive Ob where
 | lst (ws:List Wv)
 | nZ (ns:List Int)
 | dct (kvs:List (L2.Key×Wv))
 | BF (kvs:List (List L2.Key×Wv))
 | BG (kvs:List (List L2.Key×Wv))
abbrev Hs:=List Ob
abbrev St:=L2.St
abbrev bA:=List (Option Wv)
abbrev Mp:=List Zk
def jl(a C:Zk):Heap->Prop:=λh=>∃o,h.get? a=some o/\o.cls= .ref C/\∃vs,o.data= .fields vs
def Qi(a C:Zk)(u:Option HO):Prop:=∃o vs,u=some (.fu o (.ext (jl a C)))/\o.data= .fields vs/\vs[2]? =some bC
theorem Hy{P:Zo}{w:Zr}{H:Hp}{h:Heap}{a C:Zk}(ok:j9 P w H h)(x:Qi a C (H a)):jl a C h:=let ⟨_,_,e,_⟩:=x;(ok a _ e).2.1
def ClsAt(K:PySem.W.Frag)(c:PySem.Str)(C:Zk):Prop:=PySem.W.nsIn K ZA c=some (some (.ref C))
def m_(c:Zk)(q:PySem.Str):Heap->Prop:=λh=>h.CodeRec (.ref c) q
def a8:List PySem.Str:=["form_of","formula_by","turned","readied_content","ordered"]
def bq(K:PySem.W.Frag)(q:PySem.Str):Option Zk:=match PySem.W.tabIn K q with
 | some (_,P)=>if(K.lookup P).isNone=true then some P else none
 | none=>none
def mC(q:PySem.Str):PySem.Str:=(q++".<locals>.")++"<lambda>"
def kD(K:PySem.W.Frag)(H:Hp):Prop:=∀q P,q∈a8->bq K q=some P->∃ps,H P=some (.jf ps)/\TriplesOk ps.toList/\∀pos cv,codeAmong pos ps.toList=some cv->∃c,cv= .ref c/\H c=some (.ext (m_ c (mC q)))
theorem kD.keep{K:PySem.W.Frag}{H H':Hp}(t:kD K H)(h1:∀a ps,H a=some (.jf ps)->H' a=some (.jf ps))(h2:∀a φ,H a=some (.ext φ)->H' a=some (.ext φ)):kD K H':=λq P hq hP=>by
 obtain⟨ps,e1,e2,e3⟩:=t q P hq hP
 refine⟨ps,h1 _ _ e1,e2,λpos cv e=>?_⟩
 obtain⟨c,f1,f2⟩:=e3 pos cv e
 exact⟨c,f1,h2 _ _ f2⟩
def Ry(K:PySem.W.Frag)(a:Zk)(xs:List V):Prop:=∃(o:Obj)(its:Array Zq)(n:Nat),K.lookup a=some o/\o.cls= .type "tuple"/\o.data= .seq its n/\its.size<=ZE/\Vals xs its.toList
mutual
def aj(K:PySem.W.Frag)(m:Mp)(H:Hp):Wv->V->Prop
 | .aP,v=>v= .aP
 | .bl b,v=>v= .bl b
 | .int i,v=>v= .int i
 | .str x,v=>v= .str x/\aO x=true
 | .tup ws,v=>∃a xs,v= .ref a/\H a=some (.tup xs)/\af K m H ws xs
 | .oY ws,v=>∃a xs,v= .ref a/\Ry K a xs/\af K m H ws xs
 | .ref l,v=>∃a,v= .ref a/\m[l]? =some a
 | .ty n,v=>v= .ty n
 | .cls c,v=>∃C,v= .ref C/\ClsAt K c C
 | .lC c,v=>∃a C,v= .ref a/\ClsAt K c C/\Qi a C (H a)
 | .fn p ws,v=>v= .ref p.a/\H p.c=some (.ext (m_ p.c p.q))/\af K m H ws p.xs
def af(K:PySem.W.Frag)(m:Mp)(H:Hp):List Wv->List V->Prop
 | [],xs=>xs=[]
 | w::ws,xs=>∃x r,xs=x::r/\aj K m H w x/\af K m H ws r
end
structure Ext(K:PySem.W.Frag)(m:Mp)(H:Hp)(m':Mp)(H':Hp):Prop where
 pre:∀(l:Nat)(a:Zk),m[l]? =some a->m'[l]? =some a
 tup:∀(a:Zk)(xs:List V),H a=some (.tup xs)->H' a=some (.tup xs)
 ext:∀(a:Zk)(φ:Heap->Prop),H a=some (.ext φ)->H' a=some (.ext φ)
 fu:∀(a:Zk)(o:Obj)(u:HO),H a=some (.fu o u)->H' a=some (.fu o u)
section
variable {K:PySem.W.Frag} {m m1 m2:Mp} {H H1 H2:Hp}
theorem Ext.refl:Ext K m H m H:=⟨λ_ _ h=>h,λ_ _ h=>h,λ_ _ h=>h,λ_ _ _ h=>h⟩
theorem Ext.trans(a:Ext K m H m1 H1)(b:Ext K m1 H1 m2 H2):Ext K m H m2 H2 :=
 ⟨λl x h=>b.pre l x (a.pre l x h),λx xs h=>b.tup x xs (a.tup x xs h),λx φ h=>b.ext x φ (a.ext x φ h),λx o u h=>b.fu x o u (a.fu x o u h)⟩
structure BH(K:PySem.W.Frag)(m:Mp)(H:Hp)(m':Mp)(H':Hp):Prop where
 pre:∀(l:Nat)(a:Zk),m[l]? =some a->m'[l]? =some a
 tup:∀(a:Zk)(xs:List V),H a=some (.tup xs)->H' a=some (.tup xs)
 ext:∀(a:Zk)(φ:Heap->Prop),H a=some (.ext φ)->H' a=some (.ext φ)
 fx:∀(a:Zk)(o:Obj)(φ:Heap->Prop),H a=some (.fu o (.ext φ))->H' a=some (.fu o (.ext φ))
theorem Ext.z(e:Ext K m H m1 H1):BH K m H m1 H1:=⟨e.pre,e.tup,e.ext,λa o φ h=>e.fu a o _ h⟩
mutual
theorem aj.i6(e:BH K m H m1 H1):∀(w:Wv)(v:V),aj K m H w v->aj K m1 H1 w v
 | .aP,v,h=>by unfold aj at h ⊢;exact h
 | .bl b,v,h=>by unfold aj at h ⊢;exact h
 | .int i,v,h=>by unfold aj at h ⊢;exact h
 | .str x,v,h=>by unfold aj at h ⊢;exact h
 | .ty n,v,h=>by unfold aj at h ⊢;exact h
 | .cls c,v,h=>by unfold aj at h ⊢;exact h
 | .lC c,v,h=>by
  unfold aj at h ⊢
  obtain⟨a,C,e1,e2,o,vs,e3,e4⟩:=h
  exact⟨a,C,e1,e2,o,vs,e.fx _ _ _ e3,e4⟩
 | .ref l,v,h=>by
  unfold aj at h ⊢
  obtain⟨a,e1,e2⟩:=h
  exact⟨a,e1,e.pre _ _ e2⟩
 | .tup ws,v,h=>by
  unfold aj at h ⊢
  obtain⟨a,xs,e1,e2,e3⟩:=h
  exact⟨a,xs,e1,e.tup _ _ e2,af.i6 e ws xs e3⟩
 | .oY ws,v,h=>by
  unfold aj at h ⊢
  obtain⟨a,xs,e1,e2,e3⟩:=h
  exact⟨a,xs,e1,e2,af.i6 e ws xs e3⟩
 | .fn p ws,v,h=>by
  unfold aj at h ⊢
  obtain⟨e1,e2,e3⟩:=h
  exact⟨e1,e.ext _ _ e2,af.i6 e ws p.xs e3⟩
theorem af.i6(e:BH K m H m1 H1):∀(ws:List Wv)(xs:List V),af K m H ws xs->af K m1 H1 ws xs
 | [],xs,h=>by unfold af at h ⊢;exact h
 | w::ws,xs,h=>by
  unfold af at h ⊢
  obtain⟨x,r,e1,e2,e3⟩:=h
  exact⟨x,r,e1,aj.i6 e w x e2,af.i6 e ws r e3⟩
end
theorem aj.mono(e:Ext K m H m1 H1)(w:Wv)(v:V)(h:aj K m H w v):aj K m1 H1 w v:=aj.i6 e.z w v h
theorem af.mono(e:Ext K m H m1 H1)(ws:List Wv)(xs:List V)(h:af K m H ws xs):af K m1 H1 ws xs:=af.i6 e.z ws xs h
theorem af.nil:af K m H [] []:=by unfold af;rfl
theorem af.cons{w:Wv}{x:V}{ws:List Wv}{xs:List V}(h:aj K m H w x)(t:af K m H ws xs):af K m H (w::ws) (x::xs):=by unfold af;exact⟨x,xs,rfl,h,t⟩
theorem af.length:∀{ws:List Wv}{xs:List V},af K m H ws xs->ws.length=xs.length
 | [],xs,h=>by unfold af at h;subst h;rfl
 | w::ws,xs,h=>by
  unfold af at h
  obtain⟨x,r,e1,_,e3⟩:=h
  subst e1
  simp[af.length e3]
theorem af.get:∀{ws:List Wv}{xs:List V}{i:Nat}{w:Wv},af K m H ws xs->ws[i]? =some w->∃x,xs[i]? =some x/\aj K m H w x
 | [],_,i,w,_,e=>by simp at e
 | a::ws,xs,0,w,h,e=>by
  unfold af at h
  obtain⟨x,r,e1,e2,_⟩:=h
  subst e1
  simp at e
  subst e
  exact⟨x,rfl,e2⟩
 | a::ws,xs,i+1,w,h,e=>by
  unfold af at h
  obtain⟨x,r,e1,_,e3⟩:=h
  subst e1
  obtain⟨y,f1,f2⟩:=af.get (i:=i) (w:=w) e3 (by simpa using e)
  exact⟨y,by simpa using f1,f2⟩
theorem af.append:∀{ws zs:List Wv}{xs ys:List V},af K m H ws xs->af K m H zs ys->af K m H (ws++zs) (xs++ys)
 | [],_,xs,_,h,g=>by unfold af at h;subst h;exact g
 | w::ws,zs,xs,ys,h,g=>by
  unfold af at h
  obtain⟨x,r,e1,e2,e3⟩:=h
  subst e1
  exact af.cons e2 (af.append e3 g)
theorem af.set:∀{ws:List Wv}{xs:List V}(i:Nat){w:Wv}{x:V},af K m H ws xs->aj K m H w x->af K m H (ws.set i w) (xs.set i x)
 | [],xs,i,w,x,h,_=>by unfold af at h;subst h;exact af.nil
 | a::ws,xs,0,w,x,h,g=>by
  unfold af at h
  obtain⟨y,r,e1,e2,e3⟩:=h
  subst e1
  exact af.cons g e3
 | a::ws,xs,i+1,w,x,h,g=>by
  unfold af at h
  obtain⟨y,r,e1,e2,e3⟩:=h
  subst e1
  exact af.cons e2 (af.set i e3 g)
theorem af.drop:∀{ws:List Wv}{xs:List V}(i:Nat),af K m H ws xs->af K m H (ws.drop i) (xs.drop i)
 | ws,xs,0,h=>by simpa using h
 | [],xs,i+1,h=>by unfold af at h;subst h;simpa using af.nil
 | a::ws,xs,i+1,h=>by
  unfold af at h
  obtain⟨y,r,e1,e2,e3⟩:=h
  subst e1
  simpa using af.drop i e3
theorem af.take:∀{ws:List Wv}{xs:List V}(i:Nat),af K m H ws xs->af K m H (ws.take i) (xs.take i)
 | ws,xs,0,h=>by simpa using af.nil
 | [],xs,i+1,h=>by unfold af at h;subst h;simpa using af.nil
 | a::ws,xs,i+1,h=>by
  unfold af at h
  obtain⟨y,r,e1,e2,e3⟩:=h
  subst e1
  simpa using af.cons e2 (af.take i e3)
theorem af.ints:∀(ns:List Int),af K m H (ns.map Wv.int) (ns.map V.int)
 | []=>af.nil
 | n::ns=>af.cons (by unfold aj;rfl) (af.ints ns)
end
def uC(K:PySem.W.Frag)(H:Hp)(a:Zk)(ns:List Int):Prop :=
 (∃o,H a=some (.fu o (.lst (ns.map V.int))))\/
  ∃(o:Obj)(its:Array Zq)(n:Nat),K.lookup a=some o/\o.cls= .type "list"/\o.dict=none/\o.data= .seq its n/\its.size<=ZE/\Vals (ns.map V.int) its.toList
def RelK{κ:Type}(K:PySem.W.Frag)(m:Mp)(H:Hp)(kvs:List (κ×Wv))(xs:List (κ×V)):Prop:=kvs.map (·.1)=xs.map (·.1)/\af K m H (kvs.map (·.2)) (xs.map (·.2))
def qF(K:PySem.W.Frag)(m:Mp)(H:Hp)(a:Zk):Ob->Prop
 | .lst ws=>∃xs,H a=some (.lst xs)/\af K m H ws xs
 | .nZ ns=>uC K H a ns
 | .dct kvs=>∃xs,H a=some (.dK xs)/\RelK K m H kvs xs
 | .BF kvs=>∃xs,H a=some (.dT xs)/\RelK K m H kvs xs
 | .BG kvs=>∃o xs,H a=some (.fu o (.dT xs))/\RelK K m H kvs xs
def Ob.mu:Ob->Bool
 | .nZ _=>false
 | _=>true
def Ob.wm:Ob->Bool
 | .nZ _=>false
 | .BG _=>false
 | _=>true
theorem Ob.NZ{o:Ob}(h:o.wm=true):o.mu=true:=by cases o<;>first | rfl | cases h
structure aQ(K:PySem.W.Frag)(m:Mp)(st:Hs)(H:Hp):Prop where
 len:m.length=st.length
 obj:∀(l:Nat)(a:Zk)(o:Ob),m[l]? =some a->st[l]? =some o->qF K m H a o
 inj:∀(l l':Nat)(a:Zk)(o o':Ob),m[l]? =some a->m[l']? =some a->st[l]? =some o->st[l']? =some o'->o.mu=true->o'.mu=true->l=l'
 tab:kD K H
def ai(st:Hs)(l:Nat):Option (List Wv):=match st[l]? with
 | some (.lst ws)=>some ws
 | some (.nZ ns)=>some (ns.map Wv.int)
 | _=>none
section
variable {K:PySem.W.Frag} {m:Mp} {H:Hp} {st:Hs}
def Wr(u:Option HO):Prop:=u=none\/(∃ys,u=some (.lst ys))\/(∃ys,u=some (.dK ys))\/∃ys,u=some (.dT ys)
theorem Wr.ne{p a:Zk}{u:HO}(hp:Wr (H p))(e:H a=some u)(n1:∀ys,u≠.lst ys)(n2:∀ys,u≠.dK ys)(n3:∀ys,u≠.dT ys):a≠p:=λz=>by
 subst z
 rcases hp with q | ⟨ys,q⟩ | ⟨ys,q⟩ | ⟨ys,q⟩
 ·rw[q] at e;cases e
 ·rw[q] at e;cases e;exact n1 ys rfl
 ·rw[q] at e;cases e;exact n2 ys rfl
 ·rw[q] at e;cases e;exact n3 ys rfl
theorem BI{p a:Zk}{o:HO}{xs:List V}(hp:Wr (H p))(h:H a=some (.tup xs)):upd H p o a=some (.tup xs):=by
 rw[aw (hp.ne h (by intro ys z;cases z) (by intro ys z;cases z) (by intro ys z;cases z))];exact h
theorem BJ{p a:Zk}{o:HO}{ns:List Int}(hp:Wr (H p))(h:uC K H a ns):uC K (upd H p o) a ns:=by
 rcases h with ⟨o',h⟩ | h
 ·exact .inl ⟨o',by rw[aw (hp.ne h (by intro ys z;cases z) (by intro ys z;cases z) (by intro ys z;cases z))];exact h⟩
 ·exact .inr h
theorem Wr.of{u:Option HO}(h:u=none\/∃ys,u=some (.lst ys)):Wr u:=by
 rcases h with q | q
 ·exact .inl q
 ·exact .inr (.inl q)
theorem Ext.nO{p:Zk}{o:HO}(hp:Wr (H p)):Ext K m H m (upd H p o):=⟨λ_ _ h=>h,λ_ _ h=>BI hp h,λa φ h=>by
 rw[aw (hp.ne h (by intro ys z;cases z) (by intro ys z;cases z) (by intro ys z;cases z))]
 exact h,λa o u h=>by
 rw[aw (hp.ne h (by intro ys z;cases z) (by intro ys z;cases z) (by intro ys z;cases z))]
 exact h⟩
theorem Ext.upd{p:Zk}{o:HO}(hp:H p=none\/∃ys,H p=some (.lst ys)):Ext K m H m (upd H p o):=Ext.nO (Wr.of hp)
theorem RelK.mono{κ:Type}{m1:Mp}{H1:Hp}{kvs:List (κ×Wv)}{xs:List (κ×V)}(e:Ext K m H m1 H1)(h:RelK K m H kvs xs):RelK K m1 H1 kvs xs:=⟨h.1,af.mono e _ _ h.2⟩
theorem qF.keep{m1:Mp}{b p:Zk}{u:HO}{o:Ob}(ex:Ext K m H m1 (L2.upd H p u))(hp:Wr (H p))(hb:o.mu=true->b≠p)(h:qF K m H b o):qF K m1 (L2.upd H p u) b o:=by
 cases o with
 | lst ws=>
  obtain⟨xs,e1,e2⟩:=h
  exact⟨xs,by rw[aw (hb rfl)];exact e1,af.mono ex _ _ e2⟩
 | dct kvs=>
  obtain⟨xs,e1,e2⟩:=h
  exact⟨xs,by rw[aw (hb rfl)];exact e1,e2.mono ex⟩
 | BF kvs=>
  obtain⟨xs,e1,e2⟩:=h
  exact⟨xs,by rw[aw (hb rfl)];exact e1,e2.mono ex⟩
 | BG kvs=>
  obtain⟨o,xs,e1,e2⟩:=h
  exact⟨o,xs,by rw[aw (hb rfl)];exact e1,e2.mono ex⟩
 | nZ ns=>exact BJ hp h
theorem qF.at{b:Zk}{o:Ob}(h:qF K m H b o)(hm:o.mu=true):∃u,H b=some u:=by
 cases o with
 | lst ws=>obtain⟨xs,e1,e2⟩:=h;exact⟨_,e1⟩
 | dct kvs=>obtain⟨xs,e1,e2⟩:=h;exact⟨_,e1⟩
 | BF kvs=>obtain⟨xs,e1,e2⟩:=h;exact⟨_,e1⟩
 | BG kvs=>obtain⟨o,xs,e1,e2⟩:=h;exact⟨_,e1⟩
 | nZ ns=>simp[Ob.mu] at hm
theorem qF.wr{b:Zk}{o:Ob}(h:qF K m H b o)(hm:o.wm=true):Wr (H b):=by
 cases o with
 | lst ws=>obtain⟨xs,e1,e2⟩:=h;exact .inr (.inl ⟨_,e1⟩)
 | dct kvs=>obtain⟨xs,e1,e2⟩:=h;exact .inr (.inr (.inl ⟨_,e1⟩))
 | BF kvs=>obtain⟨xs,e1,e2⟩:=h;exact .inr (.inr (.inr ⟨_,e1⟩))
 | BG kvs=>cases hm
 | nZ ns=>cases hm
theorem kD.nO{p:Zk}{o:HO}(t:kD K H)(hp:Wr (H p)):kD K (L2.upd H p o):=t.keep
 (λa ps h=>by rw[aw (hp.ne h (by intro ys z;cases z) (by intro ys z;cases z) (by intro ys z;cases z))];exact h)
 λa φ h=>by rw[aw (hp.ne h (by intro ys z;cases z) (by intro ys z;cases z) (by intro ys z;cases z))];exact h
theorem Ext.more{p:Zk}:Ext K m H (m++[p]) H:=⟨λl a h=>by
 rw[dj]
 ·exact h
 ·exact(List.getElem?_eq_some_iff.mp h).1,λ_ _ h=>h,λ_ _ h=>h,λ_ _ _ h=>h⟩
theorem aQ.fresh{p:Zk}{o:HO}(S:aQ K m st H)(hp:H p=none):aQ K m st (upd H p o) :=
 ⟨S.len,λl a ob h1 h2=>by
  have q:=S.obj l a ob h1 h2
  refine q.keep (Ext.nO (.inl hp)) (.inl hp) λhm=>?_
  obtain⟨u,e⟩:=q.at hm
  exact aY e hp,S.inj,S.tab.nO (.inl hp)⟩
theorem aQ.rb{l:Nat}{a:Zk}{ws:List Wv}(S:aQ K m st H)(h1:m[l]? =some a)(h2:st[l]? =some (.lst ws)):∃xs,H a=some (.lst xs)/\af K m H ws xs:=S.obj l a _ h1 h2
theorem aQ.read{l:Nat}{a:Zk}{ws:List Wv}(S:aQ K m st H)(h1:m[l]? =some a)(h2:ai st l=some ws):∃xs,fB K H a xs/\af K m H ws xs:=by
 unfold ai at h2
 cases e:st[l]? with
 | none=>rw[e] at h2;cases h2
 | some o=>
  rw[e] at h2
  cases o with
  | lst zs=>
   cases h2
   obtain⟨xs,e1,e2⟩:=S.rb h1 e
   exact⟨xs,fB.of e1,e2⟩
  | dct kvs=>cases h2
  | BF kvs=>cases h2
  | BG kvs=>cases h2
  | nZ ns=>
   cases h2
   have q:uC K H a ns:=S.obj l a _ h1 e
   refine⟨ns.map V.int,?_,af.ints ns⟩
   rcases q with ⟨o,q⟩ | q
   ·exact .inl (.inr ⟨o,q⟩)
   ·exact .inr q
theorem aQ.J5{p:Zk}{ob:Ob}{u:HO}(S:aQ K m st H)(hp:H p=none)(r:qF K (m++[p]) (L2.upd H p u) p ob):aQ K (m++[p]) (st++[ob]) (L2.upd H p u):=by
 have ex:Ext K m H (m++[p]) (L2.upd H p u):=Ext.more.trans (Ext.nO (.inl hp))
 have BK:∀(l:Nat)(o:Ob),m[l]? =some p->st[l]? =some o->o.mu=true->False:=λl o h1 h2 hm=>by
  obtain⟨v,e⟩:=(S.obj l p o h1 h2).at hm
  rw[hp] at e;cases e
 have old:∀(l:Nat)(a:Zk),(m++[p])[l]? =some a->(l < m.length/\m[l]? =some a)\/(l=m.length/\a=p):=λl a h=>by
  by_cases hl:l < m.length
  ·exact .inl ⟨hl,by rw[dj hl] at h;exact h⟩
  ·have h':=h
   rw[ic (by omega)] at h'
   have z:=List.getElem?_eq_some_iff.mp h'
   have z1:l - m.length < 1:=by simpa using z.1
   refine .inr ⟨by omega,?_⟩
   have e0:l - m.length=0:=by omega
   rw[e0] at h'
   simpa using h'.symm
 have olds:∀(l:Nat)(o:Ob),l < m.length->(st++[ob])[l]? =some o->st[l]? =some o:=λl o hl h=>by
  rw[dj (by rw[<-S.len];exact hl)] at h
  exact h
 refine⟨by simp[S.len],λl a o h1 h2=>?_,λl l' a zs zs' h1 Hz h2 h2' k k'=>?_,S.tab.nO (.inl hp)⟩
 ·rcases old l a h1 with ⟨hl,h1⟩ | ⟨hl,rfl⟩
  ·have q:=S.obj l a o h1 (olds l o hl h2)
   refine q.keep ex (.inl hp) λhm=>?_
   obtain⟨v,e⟩:=q.at hm
   exact aY e hp
  ·have e:o=ob:=by
    rw[hl,S.len,ic (ak _),sJ] at h2
    simpa using h2.symm
   subst e
   exact r
 ·rcases old l a h1 with ⟨hl,g1⟩ | ⟨hl,ea⟩
  ·rcases old l' a Hz with ⟨hl',HC⟩ | ⟨hl',ea'⟩
   ·exact S.inj l l' a zs zs' g1 HC (olds l _ hl h2) (olds l' _ hl' h2') k k'
   ·rw[ea'] at g1
    exact(BK l zs g1 (olds l _ hl h2) k).elim
  ·rcases old l' a Hz with ⟨hl',HC⟩ | ⟨hl',_⟩
   ·rw[ea] at HC
    exact(BK l' zs' HC (olds l' _ hl' h2') k').elim
   ·omega
theorem aQ.alloc{p:Zk}{ws:List Wv}{xs:List V}(S:aQ K m st H)(hp:H p=none)(r:af K m H ws xs):aQ K (m++[p]) (st++[.lst ws]) (upd H p (.lst xs)) :=
 S.J5 hp ⟨xs,aL,af.mono (Ext.more.trans (Ext.nO (.inl hp))) _ _ r⟩
theorem aQ.BL{l:Nat}{a:Zk}{o0 ob:Ob}{u:HO}(S:aQ K m st H)(h1:m[l]? =some a)(h2:st[l]? =some o0)(hw:o0.wm=true)(r:qF K m (L2.upd H a u) a ob):aQ K m (st.set l ob) (L2.upd H a u):=by
 have wr:Wr (H a):=(S.obj l a o0 h1 h2).wr hw
 have hm:=Ob.NZ hw
 have ex:Ext K m H m (L2.upd H a u):=Ext.nO wr
 have hl:l < st.length:=(List.getElem?_eq_some_iff.mp h2).1
 have at':∀(k:Nat)(o:Ob),(st.set l ob)[k]? =some o->(k=l/\o=ob)\/(k≠l/\st[k]? =some o):=λk o h=>by
  by_cases e:l=k
  ·subst e
   rw[ku hl] at h
   exact .inl ⟨rfl,(Option.some.inj h).symm⟩
  ·rw[fX e] at h
   exact .inr ⟨λz=>e z.symm,h⟩
 refine⟨by simp[S.len],λk b o g1 g2=>?_,λk k' b us us' g1 HC g2 UX q q'=>?_,S.tab.nO wr⟩
 ·rcases at' k o g2 with ⟨rfl,rfl⟩ | ⟨hk,g2⟩
  ·rw[h1] at g1;cases g1
   exact r
  ·have q:=S.obj k b o g1 g2
   refine q.keep ex wr λho z=>?_
   subst z
   exact hk (S.inj k l b o o0 g1 h1 g2 h2 ho hm)
 ·have back:∀(k:Nat)(o:Ob),(st.set l ob)[k]? =some o->o.mu=true->∃o',st[k]? =some o'/\o'.mu=true:=λk o h ho=>by
   rcases at' k _ h with ⟨rfl,_⟩ | ⟨_,h⟩
   ·exact⟨o0,h2,hm⟩
   ·exact⟨o,h,ho⟩
  obtain⟨u1,e1,f1⟩:=back k us g2 q
  obtain⟨u2,e2,f2⟩:=back k' us' UX q'
  exact S.inj k k' b u1 u2 g1 HC e1 e2 f1 f2
theorem aQ.write{l:Nat}{a:Zk}{ws zs:List Wv}{xs:List V}(S:aQ K m st H)(h1:m[l]? =some a)(h2:st[l]? =some (.lst ws))(r:af K m H zs xs):aQ K m (st.set l (.lst zs)) (upd H a (.lst xs)) :=
 S.BL h1 h2 rfl ⟨xs,aL,af.mono (Ext.nO ((S.obj l a _ h1 h2).wr rfl)) _ _ r⟩
end
structure av(K:PySem.W.Frag)(m:Mp)(H:Hp)(ρ:bA)(σ:St):Prop where
 len:ρ.length=σ.length
 get:∀(i:Nat)(w:Wv),ρ[i]? =some (some w)->∃v,σ[i]? =some (some v)/\aj K m H w v
section
variable {K:PySem.W.Frag} {m m1:Mp} {H H1:Hp} {ρ:bA} {σ:St}
theorem av.mono(R:av K m H ρ σ)(e:Ext K m H m1 H1):av K m1 H1 ρ σ:=⟨R.len,λi w h=>let ⟨v,h1,h2⟩:=R.get i w h;⟨v,h1,aj.mono e _ _ h2⟩⟩
theorem av.set(R:av K m H ρ σ)(i:Nat){w:Wv}{v:V}(h:aj K m H w v):av K m H (ρ.set i (some w)) (σ.set i (some v)):=by
 refine⟨by simp[R.len],λj u e=>?_⟩
 by_cases hj:i=j
 ·subst hj
  have hi:i < ρ.length:=by
   have:=(List.getElem?_eq_some_iff.mp e).1
   simpa using this
  rw[ku hi] at e
  have e':w=u:=Option.some.inj (Option.some.inj e)
  subst e'
  exact⟨v,by rw[ku (by rw[<-R.len];exact hi)],h⟩
 ·rw[fX hj] at e
  obtain⟨x,h1,h2⟩:=R.get j u e
  exact⟨x,by rw[fX hj];exact h1,h2⟩
end
inductive Re(α:Type) where
 | ok (a:α) (st:Hs)
 | err (c:PySem.Str) (st:Hs)
 | bad
def Re.bind{α β:Type}(r:Re α)(f:α->Hs->Re β):Re β:=match r with
 | .ok a st=>f a st
 | .err c st=> .err c st
 | .bad=> .bad
inductive Rs where
 | nx (ρ:bA) (st:Hs)
 | rt (w:Wv) (st:Hs)
 | bk (ρ:bA) (st:Hs)
 | ct (ρ:bA) (st:Hs)
 | err (c:PySem.Str) (ρ:bA) (st:Hs)
 | bad
def Re.bH{α:Type}(ρ:bA)(r:Re α)(f:α->Hs->Rs):Rs:=match r with
 | .ok a st=>f a st
 | .err c st=> .err c ρ st
 | .bad=> .bad
def Re.je{α:Type}(r:Re α):Re α:=match r with
 | .ok a st=> .ok a st
 | _=> .bad
abbrev GE:=bA->Hs->Re Wv
abbrev GT:=bA->Hs->Re Bool
abbrev GA:=bA->Hs->Re (List Wv)
abbrev GS:=bA->Hs->Rs
def uD(P:Zo)(w:Zr)(outer:List Env)(H:Hp)(s:Zp)(H':Hp)(cls:Zq)(e:Zq)(s':Zp):Prop :=
 ∃(a:Zk)(a0:Zq)(B:Heap),e= .ref a/\s'.os=s.os/\AllBare s'.gens/\Un (frs outer) [] H H' s.heap s'.heap/\j9 P w H' B/\sI B outer a cls a0 s'.heap/\
  (∀b o,s.heap.get? b=some o->b∉frs outer->∃o',B.get? b=some o'/\(H b=none->o'=o))
def jm(X:Cx)(pins:List (Zk×Obj))(H:Hp)(s:Zp)(H':Hp)(cls:Zq)(e:Zq)(s':Zp):Prop :=
 ∃(a:Zk)(a0 nt:Zq)(B:Heap)(ch:List Zk),e= .ref a/\s'.os=s.os/\AllBare s'.gens/\(∀b∈ch,cG X pins H b)/\Un (frs X.stack) ch H H' s.heap s'.heap/\j9 X.prog X.w H' B/\
  (B.StaysIn s'.heap/\B.get? a=none/\s'.heap.FunFrames B X.stack/\NY s'.heap B a cls a0 nt)/\
  (∀b o,s.heap.get? b=some o->b∉frs X.stack->b∉ch->∃o',B.get? b=some o'/\(H b=none->o'=o))
theorem uD.any{X:Cx}{pins:List (Zk×Obj)}{H H':Hp}{s s':Zp}{cls e:Zq}(f:uD X.prog X.w X.stack H s H' cls e s'):jm X pins H s H' cls e s' :=
 let ⟨a,a0,B,e1,e2,e3,un,hok,fl,n4⟩:=f
 ⟨a,a0,.none,B,[],e1,e2,e3,(λb z=>by cases z),un,hok,fl,λb o q hb _=>n4 b o q hb⟩
def kE(X:Cx)(σ:St)(H':Hp)(c:PySem.Str)(e:Zq)(s':Zp):Prop :=
 ∃(C:Zk)(pins:List (Zk×Obj))(Hc:Hp)(sc:Zp),ClsAt X.K c C/\Inv X pins σ Hc sc/\
  (jm X pins Hc sc H' (.ref C) e s'\/(H'=Hc/\∃a args,e= .ref a/\s'.os=sc.os/\s'.gens=sc.gens/\sL sc.heap s'.heap a (.ref C) args))
def HD(X:Cx)(σ:St)(m:Mp)(H:Hp)(c:PySem.Str)(st:Hs):Prop :=
 ∀(m':Mp)(H':Hp)(e:Zq)(s':Zp),Ext X.K m H m' H'->aQ X.K m' st H'->kE X σ H' c e s'->X.xe e s'
theorem HD.mono{X:Cx}{σ:St}{m m1:Mp}{H H1:Hp}{c:PySem.Str}{st:Hs}(h:HD X σ m H c st)(e:Ext X.K m H m1 H1):HD X σ m1 H1 c st :=
 λm' H' x s' e' S r=>h m' H' x s' (e.trans e') S r
def au{α:Type}(X:Cx)(σ:St)(m:Mp)(H:Hp)(r:Re α)(ok:α->Hs->Prop):Prop:=match r with
 | .ok a st=>ok a st
 | .err c st=>HD X σ m H c st
 | .bad=>False
def oZ{α:Type}(r:Re α)(ok:α->Hs->Prop):Prop:=match r with
 | .ok a st=>ok a st
 | _=>False
theorem au.je{α:Type}{X:Cx}{σ:St}{m:Mp}{H:Hp}{r:Re α}{ok:α->Hs->Prop}(h:au X σ m H r.je ok):oZ r ok:=by
 cases r with
 | ok a st=>exact h
 | err c st=>exact h
 | bad=>exact h
theorem au.bind{α β:Type}{X:Cx}{σ:St}{m:Mp}{H:Hp}{r:Re α}{f:α->Hs->Re β}{ok:β->Hs->Prop}(h:au X σ m H (r.bind f) ok):au X σ m H r (λa st=>au X σ m H (f a st) ok):=by
 cases r with
 | ok a st=>exact h
 | err c st=>exact h
 | bad=>exact h
theorem au.imp{α:Type}{X:Cx}{σ:St}{m m1:Mp}{H H1:Hp}{r:Re α}{ok ok':α->Hs->Prop}(h:au X σ m H r ok)(e:Ext X.K m H m1 H1)(k:∀a st,ok a st->ok' a st):au X σ m1 H1 r ok':=by
 cases r with
 | ok a st=>exact k a st h
 | err c st=>exact HD.mono (c:=c) (st:=st) h e
 | bad=>exact h
theorem oZ.imp{α:Type}{r:Re α}{ok ok':α->Hs->Prop}(h:oZ r ok)(k:∀a st,ok a st->ok' a st):oZ r ok':=by
 cases r with
 | ok a st=>exact k a st h
 | err c st=>exact h
 | bad=>exact h
def BM(K:PySem.W.Frag)(m:Mp)(H:Hp)(Q:VK)(w:Wv)(st:Hs):Prop:=∀(v:V)(m':Mp)(H':Hp),Ext K m H m' H'->aQ K m' st H'->aj K m' H' w v->Q v H'
def Wq(K:PySem.W.Frag)(m:Mp)(H:Hp)(Q:Bool->Hp->Prop)(b:Bool)(st:Hs):Prop:=∀(m':Mp)(H':Hp),Ext K m H m' H'->aQ K m' st H'->Q b H'
def Ws(K:PySem.W.Frag)(m:Mp)(H:Hp)(Q:List V->Hp->Prop)(ws:List Wv)(st:Hs):Prop:=∀(vs:List V)(m':Mp)(H':Hp),Ext K m H m' H'->aQ K m' st H'->af K m' H' ws vs->Q vs H'
abbrev dg(X:Cx)(σ:St)(m:Mp)(H:Hp)(r:Re Wv)(Q:VK):Prop:=au X σ m H r (BM X.K m H Q)
abbrev iD(X:Cx)(σ:St)(m:Mp)(H:Hp)(r:Re Bool)(Q:Bool->Hp->Prop):Prop:=au X σ m H r (Wq X.K m H Q)
abbrev HE(X:Cx)(σ:St)(m:Mp)(H:Hp)(r:Re (List Wv))(Q:List V->Hp->Prop):Prop:=au X σ m H r (Ws X.K m H Q)
theorem dg.shift{X:Cx}{σ:St}{m m1:Mp}{H H1:Hp}{r:Re Wv}{Q:VK}(h:dg X σ m H r Q)(e:Ext X.K m H m1 H1):dg X σ m1 H1 r Q:=h.imp e λ_ _ k v m' H' e'=>k v m' H' (e.trans e')
theorem iD.shift{X:Cx}{σ:St}{m m1:Mp}{H H1:Hp}{r:Re Bool}{Q:Bool->Hp->Prop}(h:iD X σ m H r Q)(e:Ext X.K m H m1 H1):iD X σ m1 H1 r Q:=h.imp e λ_ _ k m' H' e'=>k m' H' (e.trans e')
abbrev cb(K:PySem.W.Frag)(m:Mp)(H:Hp)(r:Re Wv)(Q:VK):Prop:=oZ r (BM K m H Q)
theorem cb.shift{K:PySem.W.Frag}{m m1:Mp}{H H1:Hp}{r:Re Wv}{Q:VK}(h:cb K m H r Q)(e:Ext K m H m1 H1):cb K m1 H1 r Q:=oZ.imp h λ_ _ k v m' H' e'=>k v m' H' (e.trans e')
def aK(X:Cx)(m:Mp)(H:Hp)(r:Rs)(D:Ends):Prop:=match r with
 | .nx ρ st=>∀(σ:St)(m':Mp)(H':Hp),Ext X.K m H m' H'->aQ X.K m' st H'->av X.K m' H' ρ σ->D.nx σ H'
 | .rt w st=>∀(v:V)(m':Mp)(H':Hp),Ext X.K m H m' H'->aQ X.K m' st H'->aj X.K m' H' w v->D.rt v H'
 | .bk ρ st=>∀(σ:St)(m':Mp)(H':Hp),Ext X.K m H m' H'->aQ X.K m' st H'->av X.K m' H' ρ σ->D.bk σ H'
 | .ct ρ st=>∀(σ:St)(m':Mp)(H':Hp),Ext X.K m H m' H'->aQ X.K m' st H'->av X.K m' H' ρ σ->D.ct σ H'
 | .err c ρ st=>∀(σ:St)(m':Mp)(H':Hp)(e:Zq)(s':Zp),Ext X.K m H m' H'->aQ X.K m' st H'->av X.K m' H' ρ σ->kE X σ H' c e s'->X.xe e s'
 | .bad=>False
theorem aK.shift{X:Cx}{m m1:Mp}{H H1:Hp}{r:Rs}{D:Ends}(h:aK X m H r D)(e:Ext X.K m H m1 H1):aK X m1 H1 r D:=by
 cases r with
 | nx ρ st=>exact λσ m' H' e'=>h σ m' H' (e.trans e')
 | rt w st=>exact λv m' H' e'=>h v m' H' (e.trans e')
 | bk ρ st=>exact λσ m' H' e'=>h σ m' H' (e.trans e')
 | ct ρ st=>exact λσ m' H' e'=>h σ m' H' (e.trans e')
 | err c ρ st=>exact λσ m' H' x s' e'=>h σ m' H' x s' (e.trans e')
 | bad=>exact h
theorem aK.dO{α:Type}{X:Cx}{m:Mp}{H:Hp}{ρ:bA}{σ:St}{r:Re α}{f:α->Hs->Rs}{D:Ends}(R:av X.K m H ρ σ)(h:aK X m H (r.bH ρ f) D):au X σ m H r (λa st=>aK X m H (f a st) D):=by
 cases r with
 | ok a st=>exact h
 | err c st=>exact λm' H' x s' e' S r=>h σ m' H' x s' e' S (R.mono e') r
 | bad=>exact h
def SE(X:Cx)(e:Expr):TE:=λσ H Q=>∀(pins:List (Zk×Obj))(s:Zp),Inv X pins σ H s->ZG (model X.prog X.w) X.A (eval e X.env) (EP X pins σ Q) X.xe s
def ST(X:Cx)(e:Expr):TT:=λσ H Q=>∀(pins:List (Zk×Obj))(s:Zp),Inv X pins σ H s->ZG (model X.prog X.w) X.A (isTrue e X.env (eval e X.env)) (TP X pins σ Q) X.xe s
def SA(X:Cx)(es:List Expr):TA:=λσ H Q=>∀(pos:Pos)(pins:List (Zk×Obj))(s:Zp),Inv X pins σ H s->ZG (model X.prog X.w) X.A (spliced (backTo pos (ZF es X.env))) (AP X pins σ Q) X.xe s
def SS(X:Cx)(st:Stmt):TS:=λD σ H=>∀(pins:List (Zk×Obj))(s:Zp),Inv X pins σ H s->ZG (model X.prog X.w) X.A (exec st X.env) (SP X pins D) X.xe s
def Qj(X:Cx)(st:List Stmt):TS:=λD σ H=>∀(pins:List (Zk×Obj))(s:Zp),Inv X pins σ H s->ZG (model X.prog X.w) X.A (execs st X.env) (SP X pins D) X.xe s
section
variable {X:Cx}
theorem aU{e:Expr}:PE X e (SE X e):=λpins s _ _ _ I h=>h pins s I
theorem o_{e:Expr}:PT X e (ST X e):=λpins s _ _ _ I h=>h pins s I
theorem fZ{es:List Expr}:PA X es (SA X es):=λpos pins s _ _ _ I h=>h pos pins s I
theorem HF{st:Stmt}:PS X st (SS X st):=λpins s _ _ _ I h=>h pins s I
theorem gK{st:List Stmt}:Bg X st (Qj X st):=λpins s _ _ _ I h=>h pins s I
end
def JE(X:Cx)(e:Expr)(g:GE):Prop:=∀(ρ:bA)(st:Hs)(σ:St)(H:Hp)(m:Mp)(Q:VK),aQ X.K m st H->av X.K m H ρ σ->dg X σ m H (g ρ st) Q->SE X e σ H Q
def JT(X:Cx)(e:Expr)(g:GT):Prop:=∀(ρ:bA)(st:Hs)(σ:St)(H:Hp)(m:Mp)(Q:Bool->Hp->Prop),aQ X.K m st H->av X.K m H ρ σ->iD X σ m H (g ρ st) Q->ST X e σ H Q
def JA(X:Cx)(es:List Expr)(g:GA):Prop:=∀(ρ:bA)(st:Hs)(σ:St)(H:Hp)(m:Mp)(Q:List V->Hp->Prop),aQ X.K m st H->av X.K m H ρ σ->HE X σ m H (g ρ st) Q->SA X es σ H Q
def JS(X:Cx)(s:Stmt)(g:GS):Prop:=∀(ρ:bA)(st:Hs)(σ:St)(H:Hp)(m:Mp)(D:Ends),aQ X.K m st H->av X.K m H ρ σ->aK X m H (g ρ st) D->SS X s D σ H
def mE(X:Cx)(s:List Stmt)(g:GS):Prop:=∀(ρ:bA)(st:Hs)(σ:St)(H:Hp)(m:Mp)(D:Ends),aQ X.K m st H->av X.K m H ρ σ->aK X m H (g ρ st) D->Qj X s D σ H
section
variable {X:Cx}
theorem JE.of{e:Expr}{g:GE}{t:TE}(h:PE X e t)(k:∀(ρ:bA)(st:Hs)(σ:St)(H:Hp)(m:Mp)(Q:VK),aQ X.K m st H->av X.K m H ρ σ->dg X σ m H (g ρ st) Q->t σ H Q):JE X e g :=
 λρ st σ H m Q S R p pins s I=>h pins s σ H Q I (k ρ st σ H m Q S R p)
theorem JT.of{e:Expr}{g:GT}{t:TT}(h:PT X e t)(k:∀(ρ:bA)(st:Hs)(σ:St)(H:Hp)(m:Mp)(Q:Bool->Hp->Prop),aQ X.K m st H->av X.K m H ρ σ->iD X σ m H (g ρ st) Q->t σ H Q):JT X e g :=
 λρ st σ H m Q S R p pins s I=>h pins s σ H Q I (k ρ st σ H m Q S R p)
theorem JA.of{es:List Expr}{g:GA}{t:TA}(h:PA X es t)(k:∀(ρ:bA)(st:Hs)(σ:St)(H:Hp)(m:Mp)(Q:List V->Hp->Prop),aQ X.K m st H->av X.K m H ρ σ->HE X σ m H (g ρ st) Q->t σ H Q):JA X es g :=
 λρ st σ H m Q S R p pos pins s I=>h pos pins s σ H Q I (k ρ st σ H m Q S R p)
theorem JS.of{e:Stmt}{g:GS}{t:TS}(h:PS X e t)(k:∀(ρ:bA)(st:Hs)(σ:St)(H:Hp)(m:Mp)(D:Ends),aQ X.K m st H->av X.K m H ρ σ->aK X m H (g ρ st) D->t D σ H):JS X e g :=
 λρ st σ H m D S R p pins s I=>h pins s σ H D I (k ρ st σ H m D S R p)
theorem mE.of{e:List Stmt}{g:GS}{t:TS}(h:Bg X e t)(k:∀(ρ:bA)(st:Hs)(σ:St)(H:Hp)(m:Mp)(D:Ends),aQ X.K m st H->av X.K m H ρ σ->aK X m H (g ρ st) D->t D σ H):mE X e g :=
 λρ st σ H m D S R p pins s I=>h pins s σ H D I (k ρ st σ H m D S R p)
theorem JE.go{e:Expr}{g:GE}{ρ:bA}{st:Hs}{σ:St}{H:Hp}{m:Mp}{T:VK}{ok:Wv->Hs->Prop}(h:JE X e g)(S:aQ X.K m st H)(R:av X.K m H ρ σ)(p:au X σ m H (g ρ st) ok)
  (k:∀(w:Wv)(st1:Hs)(v:V)(m1:Mp)(H1:Hp),ok w st1->Ext X.K m H m1 H1->aQ X.K m1 st1 H1->aj X.K m1 H1 w v->T v H1):SE X e σ H T :=
 h ρ st σ H m T S R (p.imp Ext.refl λw st1 q v m1 H1 e1 s1 r1=>k w st1 v m1 H1 q e1 s1 r1)
theorem JT.go{e:Expr}{g:GT}{ρ:bA}{st:Hs}{σ:St}{H:Hp}{m:Mp}{T:Bool->Hp->Prop}{ok:Bool->Hs->Prop}(h:JT X e g)(S:aQ X.K m st H)(R:av X.K m H ρ σ)(p:au X σ m H (g ρ st) ok)
  (k:∀(b:Bool)(st1:Hs)(m1:Mp)(H1:Hp),ok b st1->Ext X.K m H m1 H1->aQ X.K m1 st1 H1->T b H1):ST X e σ H T :=
 h ρ st σ H m T S R (p.imp Ext.refl λb st1 q m1 H1 e1 s1=>k b st1 m1 H1 q e1 s1)
theorem JA.go{es:List Expr}{g:GA}{ρ:bA}{st:Hs}{σ:St}{H:Hp}{m:Mp}{T:List V->Hp->Prop}{ok:List Wv->Hs->Prop}(h:JA X es g)(S:aQ X.K m st H)(R:av X.K m H ρ σ)(p:au X σ m H (g ρ st) ok)
  (k:∀(ws:List Wv)(st1:Hs)(vs:List V)(m1:Mp)(H1:Hp),ok ws st1->Ext X.K m H m1 H1->aQ X.K m1 st1 H1->af X.K m1 H1 ws vs->T vs H1):SA X es σ H T :=
 h ρ st σ H m T S R (p.imp Ext.refl λw st1 q v m1 H1 e1 s1 r1=>k w st1 v m1 H1 q e1 s1 r1)
end
end J
namespace J
open PySem PySem.Spec PyProof.Rows L2
def lim:Nat:=1000000
theorem eI{n:Nat}(h:n<=lim):n<=ZE:=bE h (by unfold lim;rw[sizeLine_eq];decide)
theorem J6{n:Nat}(h:n < lim):n < ZE:=aM h (by unfold lim;rw[sizeLine_eq];decide)
def ag(i:Nat):GE:=λρ st=>match ρ[i]? with
 | some (some w)=> .ok w st
 | _=> .bad
def gC(w:Wv):GE:=λ_ st=> .ok w st
section
variable {X:Cx}
theorem wF(i:Nat){x:Str}{pos:Pos}(hN:X.N[i]? =some x:=by rfl)(hv:Qa X.env.scope x:=by first | exact Or.inl rfl | exact jJ (Or.inl rfl) | exact jJ (jJ rfl))(hd:(x == ("__debug__":Str))=false:=by decide)
  (hcd:(x == ("__classdict__":Str))=false:=by decide):JE X (.Name x pos) (ag i):=JE.of (IX hN hv hd hcd) λρ st σ H m Q S R p=>by
 unfold ag at p
 cases e:ρ[i]? with
 | none=>rw[e] at p;exact aa p
 | some o=>
  cases o with
  | none=>rw[e] at p;exact aa p
  | some w=>
   rw[e] at p
   obtain⟨v,h1,h2⟩:=R.get i w e
   exact⟨v,h1,p v m H Ext.refl S h2⟩
theorem J7{i:Int}{j pos}:JE X (.Constant (.int i) j pos) (gC (.int i)):=JE.of IY λρ st σ H m Q S R p=>p (.int i) m H Ext.refl S (by unfold aj;rfl)
theorem N0{b:Bool}{j pos}:JE X (.Constant (.bool b) j pos) (gC (.bl b)):=JE.of Nj λρ st σ H m Q S R p=>p (.bl b) m H Ext.refl S (by unfold aj;rfl)
theorem J8{j pos}:JE X (.Constant .none j pos) (gC .aP):=JE.of IZ λρ st σ H m Q S R p=>p .aP m H Ext.refl S (by unfold aj;rfl)
theorem J9{x:PySem.Str}{j pos}(hx:aO x=true:=by decide+kernel):JE X (.Constant (.str x) j pos) (gC (.str x)):=JE.of I0 λρ st σ H m Q S R p=>p (.str x) m H Ext.refl S (by unfold aj;exact⟨rfl,hx⟩)
theorem BN{x:Str}{i:Int}{t:Tok}{pos:Pos}(hg:Gl X x)(hm:X.mg x=some (.int i t))(hd:(x == ("__debug__":Str))=false:=by decide):JE X (.Name x pos) (gC (.int i)) :=
 JE.of (iK (v:=.int i) hg hm ⟨t,rfl⟩ hd) λρ st σ H m Q S R p=>p (.int i) m H Ext.refl S (by unfold aj;rfl)
theorem BO{x y:Str}{t:Tok}{pos:Pos}(hg:Gl X x)(hm:X.mg x=some (.str y t))(hy:aO y=true:=by decide+kernel)(hd:(x == ("__debug__":Str))=false:=by decide):JE X (.Name x pos) (gC (.str y)) :=
 JE.of (iK (v:=.str y) hg hm ⟨t,rfl⟩ hd) λρ st σ H m Q S R p=>p (.str y) m H Ext.refl S (by unfold aj;exact⟨rfl,hy⟩)
theorem N1{x:Str}{T:String}{pos:Pos}(hg:Gl X x)(hm:X.mg x=none)(hv:Zu x=some (.type T))(hn:x≠"__name__":=by decide)(hd:(x == ("__debug__":Str))=false:=by decide):JE X (.Name x pos) (gC (.ty T)) :=
 JE.of (EO (v:=.ty T) hg hm hv rfl hn hd) λρ st σ H m Q S R p=>p (.ty T) m H Ext.refl S (by unfold aj;rfl)
abbrev gv:=Wv->Wv->Hs->Re Wv
def ao(op:gv)(ga gb:GE):GE:=λρ st=>(ga ρ st).bind λx st1=>(gb ρ st1).bind λy st2=>(op x y st2).je
def x8(X:Cx)(op:gv)(r:R2):Prop:=∀(x y:Wv)(a b:V)(st:Hs)(H:Hp)(m:Mp)(Q:VK),aQ X.K m st H->aj X.K m H x a->aj X.K m H y b->cb X.K m H (op x y st) Q->r a b H Q
def jK(X:Cx)(f:Zq->Zq->Sem Zq)(op:gv):Prop:=∃r,dN X f r/\x8 X op r
theorem x9{a b:Expr}{ga gb:GE}{op:gv}{r:R2}(h2:x8 X op r)(ha:JE X a ga)(hb:JE X b gb){ρ:bA}{st:Hs}{σ:St}{H:Hp}{m:Mp}{Q:VK}(S:aQ X.K m st H)(R:av X.K m H ρ σ)(p:dg X σ m H (ao op ga gb ρ st) Q) :
  Ny r (SE X a) (SE X b) σ H Q:=by
 refine ha.go S R (au.bind p) λx st1 v m1 H1 p1 e1 S1 rx=>?_
 refine hb.go S1 (R.mono e1) ((au.bind p1).imp e1 λ_ _ q=>q) λy st2 u m2 H2 p2 e2 S2 ry=>?_
 exact h2 x y v u st2 H2 m2 Q S2 (aj.mono e2 _ _ rx) ry (cb.shift (au.je p2) (e1.trans e2))
theorem J_{a b:Expr}{ga gb:GE}{o:Operator}{op:gv}{pos:Pos}(ho:jK X (Zt o) op)(ha:JE X a ga)(hb:JE X b gb):JE X (.BinOp a o b pos) (ao op ga gb):=by
 obtain⟨r,h1,h2⟩:=ho
 exact JE.of (Nz h1 aU aU) λρ st σ H m Q S R p=>x9 h2 ha hb S R p
theorem Ka{a b:Expr}{ga gb:GE}{o:CmpOp}{op:gv}{pos:Pos}(ho:jK X (Zx o) op)(ha:JE X a ga)(hb:JE X b gb)(hm:Zs o b=false):JE X (.Compare a [o] [b] pos) (ao op ga gb):=by
 obtain⟨r,h1,h2⟩:=ho
 exact JE.of (E3 h1 aU aU hm) λρ st σ H m Q S R p=>x9 h2 ha hb S R p
def HG(w:Wv)(st:Hs):Re Bool:=match w with
 | .bl b=> .ok b st
 | _=> .bad
def ik(g:GE):GT:=λρ st=>(g ρ st).bind HG
theorem uE{σ:St}{m:Mp}{H:Hp}{r:Re Wv}{Q:Bool->Hp->Prop}(p:iD X σ m H (r.bind HG) Q):dg X σ m H r (λx H'=>∃k,x= .bl k/\Q k H'):=by
 cases r with
 | ok w st=>
  cases w with
  | bl b=>
   intro v m' H' e S rw'
   unfold aj at rw'
   exact⟨b,rw',p m' H' e S⟩
  | _=>exact aa p
 | err c st=>exact p
 | bad=>exact p
theorem Kb{a b:Expr}{ga gb:GE}{o:CmpOp}{op:gv}{pos:Pos}(ho:jK X (Zx o) op)(ha:JE X a ga)(hb:JE X b gb)(hm:Zs o b=false):JT X (.Compare a [o] [b] pos) (ik (ao op ga gb)):=by
 obtain⟨r,h1,h2⟩:=ho
 exact JT.of (E4 h1 aU aU hm) λρ st σ H m Q S R p=>x9 h2 ha hb S R (uE p)
def pb(op op':gv)(ga gb gc:GE):GE:=λρ st=>(ga ρ st).bind λx st1=>(gb ρ st1).bind λy st2=>(op x y st2).je.bind λz st3=>match z with
 | .bl true=>(gc ρ st3).bind λu Kc=>(op' y u Kc).je
 | .bl false=> .ok (.bl false) st3
 | _=> .bad
theorem HH{a b c:Expr}{ga gb gc:GE}{op op':gv}{r r':R2}(h2:x8 X op r)(h2':x8 X op' r')(ha:JE X a ga)(hb:JE X b gb)(hc:JE X c gc){ρ:bA}{st:Hs}{σ:St}{H:Hp}{m:Mp}{Q:VK}
  (S:aQ X.K m st H)(R:av X.K m H ρ σ)(p:dg X σ m H (pb op op' ga gb gc ρ st) Q):wc r r' (SE X a) (SE X b) (SE X c) σ H Q:=by
 refine ha.go S R (au.bind p) λx st1 v m1 H1 p1 e1 S1 rx=>?_
 refine hb.go S1 (R.mono e1) ((au.bind p1).imp e1 λ_ _ q=>q) λy st2 u m2 H2 p2 e2 S2 ry=>?_
 refine h2 x y v u st2 H2 m2 _ S2 (aj.mono e2 _ _ rx) ry (oZ.imp (au.je (au.bind p2)) λz st3 p3=>?_)
 intro z' m3 H3 e3 S3 rz
 cases z with
 | bl k=>
  unfold aj at rz
  refine⟨k,rz,?_⟩
  cases k with
  | true=>
   rw[if_pos rfl]
   refine hc.go S3 (R.mono (e1.trans (e2.trans e3))) ((au.bind p3).imp (e1.trans (e2.trans e3)) λ_ _ q=>q) λq Kc u' m4 H4 p4 e4 S4 rq=>?_
   exact h2' y q u u' Kc H4 m4 Q S4 (aj.mono (e3.trans e4) _ _ ry) rq (cb.shift (au.je p4) (e1.trans (e2.trans (e3.trans e4))))
  | false=>
   rw[if_neg cw]
   exact p3 (.bl false) m3 H3 (e1.trans (e2.trans e3)) S3 (by unfold aj;rfl)
 | _=>exact aa p3
theorem BP{a b c:Expr}{ga gb gc:GE}{o o':CmpOp}{op op':gv}{pos:Pos}(ho:jK X (Zx o) op)(ho':jK X (Zx o') op')(ha:JE X a ga)(hb:JE X b gb)(hc:JE X c gc)
  (hm:lastMarks [o,o'] [b,c]=false:=by with_unfolding_all rfl):JE X (.Compare a [o,o'] [b,c] pos) (pb op op' ga gb gc):=by
 obtain⟨r,h1,h2⟩:=ho
 obtain⟨r',Hz,h2'⟩:=ho'
 exact JE.of (Bn h1 Hz aU aU aU hm) λρ st σ H m Q S R p=>HH h2 h2' ha hb hc S R p
theorem BQ{a b c:Expr}{ga gb gc:GE}{o o':CmpOp}{op op':gv}{pos:Pos}(ho:jK X (Zx o) op)(ho':jK X (Zx o') op')(ha:JE X a ga)(hb:JE X b gb)(hc:JE X c gc)
  (hm:lastMarks [o,o'] [b,c]=false:=by with_unfolding_all rfl):JT X (.Compare a [o,o'] [b,c] pos) (ik (pb op op' ga gb gc)):=by
 obtain⟨r,h1,h2⟩:=ho
 obtain⟨r',Hz,h2'⟩:=ho'
 exact JT.of (Bo h1 Hz aU aU aU hm) λρ st σ H m Q S R p=>HH h2 h2' ha hb hc S R (uE p)
def x_(op:Wv->Hs->Re Wv)(ga:GE):GE:=λρ st=>(ga ρ st).bind op
def gM:Wv->Hs->Re Wv
 | .int i,st=> .ok (.int (-i)) st
 | _,_=> .bad
theorem Kd{a:Expr}{ga:GE}{pos:Pos}(ha:JE X a ga):JE X (.UnaryOp .USub a pos) (x_ gM ga):=by
 refine JE.of (NA Jt aU) λρ st σ H m Q S R p=>?_
 refine ha.go S R (au.bind p) λx st1 v m1 H1 p1 e1 S1 rx=>?_
 cases x with
 | int i=>
  unfold aj at rx
  exact⟨i,rx,p1 _ m1 H1 e1 S1 (by unfold aj;rfl)⟩
 | _=>exact aa p1
def SW(X:Cx)(e:Expr):TT:=λσ H Q=>∀(wh:Sem Zq)(pins:List (Zk×Obj))(s:Zp),Inv X pins σ H s->ZG (model X.prog X.w) X.A (isTrue e X.env wh) (TP X pins σ Q) X.xe s
theorem HI{e:Expr}:PW X e (SW X e):=λwh pins s _ _ _ I h=>h wh pins s I
def JW(X:Cx)(e:Expr)(g:GT):Prop:=∀(ρ:bA)(st:Hs)(σ:St)(H:Hp)(m:Mp)(Q:Bool->Hp->Prop),aQ X.K m st H->av X.K m H ρ σ->iD X σ m H (g ρ st) Q->SW X e σ H Q
theorem JW.of{e:Expr}{g:GT}{t:TT}(h:PW X e t)(k:∀(ρ:bA)(st:Hs)(σ:St)(H:Hp)(m:Mp)(Q:Bool->Hp->Prop),aQ X.K m st H->av X.K m H ρ σ->iD X σ m H (g ρ st) Q->t σ H Q):JW X e g :=
 λρ st σ H m Q S R p wh pins s I=>h wh pins s σ H Q I (k ρ st σ H m Q S R p)
theorem JW.jt{e:Expr}{g:GT}(h:JW X e g):JT X e g:=λρ st σ H m Q S R p pins s I=>h ρ st σ H m Q S R p _ pins s I
def N2(ga gb:GT):GT:=λρ st=>(ga ρ st).bind λb st1=>if b=true then gb ρ st1 else .ok false st1
def MV(ga gb:GT):GT:=λρ st=>(ga ρ st).bind λb st1=>if b=true then .ok true st1 else gb ρ st1
def wG(ga:GT):GT:=λρ st=>(ga ρ st).bind λb st1=> .ok (!b) st1
theorem Fj{a:Expr}{ga:GT}{pos:Pos}(ha:JT X a ga):JW X (.BoolOp .And [a] pos) ga:=JW.of (ER o_) λρ st σ H m Q S R p=>ha ρ st σ H m Q S R p
theorem Ke{a:Expr}{ga:GT}{pos:Pos}(ha:JT X a ga):JW X (.BoolOp .Or [a] pos) ga:=JW.of (Ja o_) λρ st σ H m Q S R p=>ha ρ st σ H m Q S R p
theorem Kf{a b:Expr}{rest:List Expr}{ga gb:GT}{pos:Pos}(ha:JT X a ga)(hb:JW X (.BoolOp .And (b::rest) pos) gb):JW X (.BoolOp .And (a::b::rest) pos) (N2 ga gb):=by
 refine JW.of (Jb o_ HI) λρ st σ H m Q S R p=>?_
 refine ha.go S R (au.bind p) λc st1 m1 H1 p1 e1 S1=>?_
 cases c with
 | true=>rw[if_pos rfl] at p1 ⊢;exact hb ρ st1 σ H1 m1 Q S1 (R.mono e1) (iD.shift p1 e1)
 | false=>rw[if_neg cw] at p1 ⊢;exact p1 m1 H1 e1 S1
theorem N3{a b:Expr}{rest:List Expr}{ga gb:GT}{pos:Pos}(ha:JT X a ga)(hb:JW X (.BoolOp .Or (b::rest) pos) gb):JW X (.BoolOp .Or (a::b::rest) pos) (MV ga gb):=by
 refine JW.of (Nk o_ HI) λρ st σ H m Q S R p=>?_
 refine ha.go S R (au.bind p) λc st1 m1 H1 p1 e1 S1=>?_
 cases c with
 | true=>rw[if_pos rfl] at p1 ⊢;exact p1 m1 H1 e1 S1
 | false=>rw[if_neg cw] at p1 ⊢;exact hb ρ st1 σ H1 m1 Q S1 (R.mono e1) (iD.shift p1 e1)
theorem Kh{a:Expr}{ga:GT}{pos:Pos}(ha:JT X a ga):JT X (.UnaryOp .Not a pos) (wG ga):=by
 refine JT.of (Jc o_) λρ st σ H m Q S R p=>?_
 exact ha.go S R (au.bind p) λc st1 m1 H1 p1 e1 S1=>p1 m1 H1 e1 S1
def ya(ga gb:GE):GE:=λρ st=>(ga ρ st).bind λw st1=>match w with
 | .bl true=>gb ρ st1
 | .bl false=> .ok (.bl false) st1
 | _=> .bad
def N4(ga gb:GE):GE:=λρ st=>(ga ρ st).bind λw st1=>match w with
 | .bl true=> .ok (.bl true) st1
 | .bl false=>gb ρ st1
 | _=> .bad
def HJ(ga:GE):GE:=λρ st=>(ga ρ st).bind λw st1=>match w with
 | .bl b=> .ok (.bl (!b)) st1
 | _=> .bad
theorem BR{op}{a:Expr}{ga:GE}{pos:Pos}(ha:JE X a ga):JE X (.BoolOp op [a] pos) ga:=JE.of (Jd aU) λρ st σ H m Q S R p=>ha ρ st σ H m Q S R p
theorem Ki{a b:Expr}{rest:List Expr}{ga gb:GE}{pos:Pos}(ha:JE X a ga)(hb:JE X (.BoolOp .And (b::rest) pos) gb):JE X (.BoolOp .And (a::b::rest) pos) (ya ga gb):=by
 refine JE.of (Je aU aU) λρ st σ H m Q S R p=>?_
 refine ha.go S R (au.bind p) λx st1 v m1 H1 p1 e1 S1 rx=>?_
 cases x with
 | bl c=>
  unfold aj at rx
  refine⟨c,rx,?_⟩
  cases c with
  | true=>rw[if_pos rfl];exact hb ρ st1 σ H1 m1 Q S1 (R.mono e1) (dg.shift p1 e1)
  | false=>rw[if_neg cw];exact p1 _ m1 H1 e1 S1 (by unfold aj;rfl)
 | _=>exact aa p1
theorem N5{a b:Expr}{rest:List Expr}{ga gb:GE}{pos:Pos}(ha:JE X a ga)(hb:JE X (.BoolOp .Or (b::rest) pos) gb):JE X (.BoolOp .Or (a::b::rest) pos) (N4 ga gb):=by
 refine JE.of (Nn aU aU) λρ st σ H m Q S R p=>?_
 refine ha.go S R (au.bind p) λx st1 v m1 H1 p1 e1 S1 rx=>?_
 cases x with
 | bl c=>
  unfold aj at rx
  refine⟨c,rx,?_⟩
  cases c with
  | true=>rw[if_pos rfl];exact p1 _ m1 H1 e1 S1 (by unfold aj;rfl)
  | false=>rw[if_neg cw];exact hb ρ st1 σ H1 m1 Q S1 (R.mono e1) (dg.shift p1 e1)
 | _=>exact aa p1
theorem Kj{a:Expr}{ga:GE}{pos:Pos}(ha:JE X a ga):JE X (.UnaryOp .Not a pos) (HJ ga):=by
 refine JE.of (Jf aU) λρ st σ H m Q S R p=>?_
 refine ha.go S R (au.bind p) λx st1 v m1 H1 p1 e1 S1 rx=>?_
 cases x with
 | bl c=>
  unfold aj at rx
  exact⟨c,rx,p1 _ m1 H1 e1 S1 (by unfold aj;rfl)⟩
 | _=>exact aa p1
def Fl(gt:GT)(ga gb:GE):GE:=λρ st=>(gt ρ st).bind λb st1=>if b=true then ga ρ st1 else gb ρ st1
theorem N6{c a b:Expr}{gt:GT}{ga gb:GE}{pos:Pos}(hc:JT X c gt)(ha:JE X a ga)(hb:JE X b gb):JE X (.IfExp c a b pos) (Fl gt ga gb):=by
 refine JE.of (Bh o_ aU aU) λρ st σ H m Q S R p=>?_
 refine hc.go S R (au.bind p) λk st1 m1 H1 p1 e1 S1=>?_
 cases k with
 | true=>rw[if_pos rfl] at p1 ⊢;exact ha ρ st1 σ H1 m1 Q S1 (R.mono e1) (dg.shift p1 e1)
 | false=>rw[if_neg cw] at p1 ⊢;exact hb ρ st1 σ H1 m1 Q S1 (R.mono e1) (dg.shift p1 e1)
def aq:GA:=λ_ st=> .ok [] st
def ae(ga:GE)(gr:GA):GA:=λρ st=>(ga ρ st).bind λx st1=>(gr ρ st1).bind λxs st2=> .ok (x::xs) st2
theorem sM:JA X [] aq:=JA.of Jw λρ st σ H m Q S R p=>p [] m H Ext.refl S af.nil
theorem n9{e:Expr}{es:List Expr}{ga:GE}{gr:GA}(ha:JE X e ga)(hr:JA X es gr)(hs:ZF (e::es) X.env=(false,eval e X.env)::ZF es X.env:=by rfl):JA X (e::es) (ae ga gr):=by
 refine JA.of (E5 aU fZ hs) λρ st σ H m Q S R p=>?_
 refine ha.go S R (au.bind p) λx st1 v m1 H1 p1 e1 S1 rx=>?_
 refine hr.go S1 (R.mono e1) ((au.bind p1).imp e1 λ_ _ q=>q) λxs st2 vs m2 H2 p2 e2 S2 rs=>?_
 exact p2 (v::vs) m2 H2 (e1.trans e2) S2 (af.cons (aj.mono e2 _ _ rx) rs)
def ml(g:GA):GE:=λρ st=>(g ρ st).bind λws st1=>if ws.length<=lim then .ok (.tup ws) st1 else .bad
def bT(g:GA):GE:=λρ st=>(g ρ st).bind λws st1=>if ws.length<=lim then .ok (.ref st1.length) (st1++[.lst ws]) else .bad
theorem Kk{es:List Expr}{g:GA}{x1 pos}(h:JA X es g):JE X (.Tuple es x1 pos) (ml g):=by
 refine JE.of (Jx fZ) λρ st σ H m Q S R p=>?_
 refine h.go S R (au.bind p) λws st1 vs m1 H1 p1 e1 S1 rs=>?_
 by_cases hl:ws.length<=lim
 ·rw[if_pos hl] at p1
  refine⟨by rw[<-rs.length];exact eI hl,λq hq=>?_⟩
  have e2:Ext X.K m1 H1 m1 (upd H1 q (.tup vs)):=Ext.upd (.inl hq)
  exact p1 (.ref q) m1 _ (e1.trans e2) (S1.fresh hq) (by unfold aj;exact⟨q,vs,rfl,aL,af.mono e2 _ _ rs⟩)
 ·rw[if_neg hl] at p1;exact aa p1
theorem aQ.newest{K:PySem.W.Frag}{m:Mp}{st:Hs}{H:Hp}(S:aQ K m st H)(q:Zk)(H':Hp):aj K (m++[q]) H' (.ref st.length) (.ref q):=by
 unfold aj
 refine⟨q,rfl,?_⟩
 rw[<-S.len,ic (ak _),sJ]
 rfl
theorem f_{m m1:Mp}{H H1:Hp}{st1:Hs}{ws:List Wv}{vs:List V}{Q:VK}(p1:BM X.K m H Q (.ref st1.length) (st1++[.lst ws]))(e1:Ext X.K m H m1 H1)(S1:aQ X.K m1 st1 H1)(rs:af X.K m1 H1 ws vs)(q:Zk)(hq:H1 q=none) :
  Q (.ref q) (upd H1 q (.lst vs)) :=
 p1 (.ref q) (m1++[q]) _ (e1.trans (Ext.more.trans (Ext.upd (.inl hq)))) (S1.alloc hq rs) (S1.newest q _)
theorem Kl{es:List Expr}{g:GA}{pos}(h:JA X es g):JE X (.List es pos) (bT g):=by
 refine JE.of (Jy fZ) λρ st σ H m Q S R p=>?_
 refine h.go S R (au.bind p) λws st1 vs m1 H1 p1 e1 S1 rs=>?_
 by_cases hl:ws.length<=lim
 ·rw[if_pos hl] at p1
  exact⟨by rw[<-rs.length];exact eI hl,λq hq=>f_ p1 e1 S1 rs q hq⟩
 ·rw[if_neg hl] at p1;exact aa p1
end
section
variable {X:Cx}
theorem dN.or{f:Zq->Zq->Sem Zq}{r r':R2}(h:dN X f r)(h':dN X f r'):dN X f (λx y H Q=>r x y H Q\/r' x y H Q):=by
 intro pins s σ H x y v u Q I rx ry q
 rcases q with q | q
 ·exact h pins s σ H x y v u Q I rx ry q
 ·exact h' pins s σ H x y v u Q I rx ry q
theorem BS:dN X (Zt .FloorDiv) (rI (λ_ j=>j≠0/\j.natAbs.log2 < 9000) λi j=> .int (i.fdiv j)):=Qf λi j _ _ _ _ _ hc q=>floordiv_int hc.1 q (.inl (PyProof.noPylong_of_log2 hc.2))
theorem Fm:dN X (Zt .Mod) (rI (λ_ j=>j≠0) λi j=> .int (i.fmod j)):=Qf λi j _ _ _ _ _ hc q=>mod_int' hc q
theorem Fn:dN X (Zt .Mult) (rI (λi j=>IntMulOk i j) λi j=> .int (i * j)):=Qf λ_ _ _ _ _ _ _ hc q=>mul_int q hc
instance Rz{a b:Int}:Decidable (IntMulOk a b):=by unfold IntMulOk;infer_instance
def Km:gv
 | .int i,.int j,st=> .ok (.int (i - j)) st
 | _,_,_=> .bad
def ff:gv
 | .int i,.int j,st=>if j≠0/\j.natAbs.log2 < 9000 then .ok (.int (i.fdiv j)) st else .bad
 | _,_,_=> .bad
def oMod:gv
 | .int i,.int j,st=>if j≠0 then .ok (.int (i.fmod j)) st else .bad
 | _,_,_=> .bad
def wH:gv
 | .int i,.int j,st=>if 0<=j/\j<=1000000/\i.natAbs < 2 ^ 64 then .ok (.int (i ^ j.toNat)) st else .bad
 | _,_,_=> .bad
def N7:gv
 | .int i,.int j,st=> .ok (.bl (decide (i < j))) st
 | .str i,.str j,st=> .ok (.bl (decide (i.cps.toList < j.cps.toList))) st
 | _,_,_=> .bad
def N8:gv
 | .int i,.int j,st=> .ok (.bl (decide (i<=j))) st
 | _,_,_=> .bad
def N9:gv
 | .int i,.int j,st=> .ok (.bl (decide (j < i))) st
 | _,_,_=> .bad
def RA:gv
 | .int i,.int j,st=> .ok (.bl (decide (j<=i))) st
 | _,_,_=> .bad
theorem a6{m:Mp}{H:Hp}{i:Int}{a:V}(h:aj X.K m H (.int i) a):a= .int i:=by unfold aj at h;exact h
theorem N_{m:Mp}{H:Hp}{b:Bool}{a:V}(h:aj X.K m H (.bl b) a):a= .bl b:=by unfold aj at h;exact h
theorem dP{m:Mp}{H:Hp}{x:PySem.Str}{a:V}(h:aj X.K m H (.str x) a):a= .str x/\aO x=true:=by unfold aj at h;exact h
theorem mkInt{m:Mp}{H:Hp}{i:Int}:aj X.K m H (.int i) (.int i):=by unfold aj;rfl
theorem gA{m:Mp}{H:Hp}{i:Bool}:aj X.K m H (.bl i) (.bl i):=by unfold aj;rfl
theorem HK{m:Mp}{H:Hp}:aj X.K m H .aP .aP:=by unfold aj;rfl
theorem mkStr{m:Mp}{H:Hp}{x:PySem.Str}(h:aO x=true):aj X.K m H (.str x) (.str x):=by unfold aj;exact⟨rfl,h⟩
theorem Kn:jK X (Zt .Sub) Km:=⟨_,Jr,λx y a b st H m Q S rx ry p=>by
 cases x with
 | int i=>
  cases y with
  | int j=>exact⟨i,j,a6 rx,a6 ry,p _ m H Ext.refl S mkInt⟩
  | _=>exact aa p
 | _=>cases y<;>exact aa p⟩
theorem Fo:jK X (Zt .FloorDiv) ff:=⟨_,BS,λx y a b st H m Q S rx ry p=>by
 cases x with
 | int i=>
  cases y with
  | int j=>
   dsimp only[ff] at p
   by_cases c:j≠0/\j.natAbs.log2 < 9000
   ·rw[if_pos c] at p;exact⟨i,j,a6 rx,a6 ry,c,p _ m H Ext.refl S mkInt⟩
   ·rw[if_neg c] at p;exact aa p
  | _=>exact aa p
 | _=>cases y<;>exact aa p⟩
theorem Ko:jK X (Zt .Mod) oMod:=⟨_,Fm,λx y a b st H m Q S rx ry p=>by
 cases x with
 | int i=>
  cases y with
  | int j=>
   dsimp only[oMod] at p
   by_cases c:j≠0
   ·rw[if_pos c] at p;exact⟨i,j,a6 rx,a6 ry,c,p _ m H Ext.refl S mkInt⟩
   ·rw[if_neg c] at p;exact aa p
  | _=>exact aa p
 | _=>cases y<;>exact aa p⟩
theorem Kp:jK X (Zt .Pow) wH:=⟨_,Js,λx y a b st H m Q S rx ry p=>by
 cases x with
 | int i=>
  cases y with
  | int j=>
   dsimp only[wH] at p
   by_cases c:0<=j/\j<=1000000/\i.natAbs < 2 ^ 64
   ·rw[if_pos c] at p;exact⟨i,j,a6 rx,a6 ry,c,p _ m H Ext.refl S mkInt⟩
   ·rw[if_neg c] at p;exact aa p
  | _=>exact aa p
 | _=>cases y<;>exact aa p⟩
theorem Oa:jK X (Zx .Lt) N7:=⟨_,dN.or ND zy,λx y a b st H m Q S rx ry p=>by
 cases x with
 | int i=>
  cases y with
  | int j=>exact .inl ⟨i,j,a6 rx,a6 ry,p _ m H Ext.refl S gA⟩
  | _=>exact aa p
 | str i=>
  cases y with
  | str j=>exact .inr ⟨i,j,(dP rx).1,(dP ry).1,p _ m H Ext.refl S gA⟩
  | _=>exact aa p
 | _=>cases y<;>exact aa p⟩
theorem Oc:jK X (Zx .LtE) N8:=⟨_,NF,λx y a b st H m Q S rx ry p=>by
 cases x with
 | int i=>
  cases y with
  | int j=>exact⟨i,j,a6 rx,a6 ry,p _ m H Ext.refl S gA⟩
  | _=>exact aa p
 | _=>cases y<;>exact aa p⟩
theorem Od:jK X (Zx .Gt) N9:=⟨_,NG,λx y a b st H m Q S rx ry p=>by
 cases x with
 | int i=>
  cases y with
  | int j=>exact⟨i,j,a6 rx,a6 ry,p _ m H Ext.refl S gA⟩
  | _=>exact aa p
 | _=>cases y<;>exact aa p⟩
theorem Oe:jK X (Zx .GtE) RA:=⟨_,NH,λx y a b st H m Q S rx ry p=>by
 cases x with
 | int i=>
  cases y with
  | int j=>exact⟨i,j,a6 rx,a6 ry,p _ m H Ext.refl S gA⟩
  | _=>exact aa p
 | _=>cases y<;>exact aa p⟩
def Of:gv
 | x,.aP,st=> .ok (.bl (match x with | .aP=>true | _=>false)) st
 | _,_,_=> .bad
def BU:gv
 | x,.aP,st=> .ok (.bl (match x with | .aP=>false | _=>true)) st
 | _,_,_=> .bad
theorem HM{m:Mp}{H:Hp}{x:Wv}{a:V}(h:aj X.K m H x a):decide (a=V.aP)=(match x with | .aP=>true | _=>false):=by
 cases x with
 | aP=>unfold aj at h;subst h;rfl
 | bl b=>unfold aj at h;subst h;rfl
 | int b=>unfold aj at h;subst h;rfl
 | str b=>unfold aj at h;obtain⟨h,_⟩:=h;subst h;rfl
 | tup b=>unfold aj at h;obtain⟨q,xs,h,_⟩:=h;subst h;rfl
 | oY b=>unfold aj at h;obtain⟨q,xs,h,_⟩:=h;subst h;rfl
 | ref b=>unfold aj at h;obtain⟨q,h,_⟩:=h;subst h;rfl
 | ty b=>unfold aj at h;subst h;rfl
 | cls b=>unfold aj at h;obtain⟨q,h,_⟩:=h;subst h;rfl
 | lC b=>unfold aj at h;obtain⟨q,C,h,_⟩:=h;subst h;rfl
 | fn fp b=>unfold aj at h;obtain⟨h,_⟩:=h;subst h;rfl
theorem Og:jK X (Zx .Is) Of:=⟨_,Ju,λx y a b st H m Q S rx ry p=>by
 cases y with
 | aP=>
  refine⟨by unfold aj at ry;exact ry,?_⟩
  rw[HM rx]
  cases x<;>exact p _ m H Ext.refl S gA
 | _=>cases x<;>exact aa p⟩
theorem BV:jK X (Zx .IsNot) BU:=⟨_,E2,λx y a b st H m Q S rx ry p=>by
 cases y with
 | aP=>
  refine⟨by unfold aj at ry;exact ry,?_⟩
  rw[HM rx]
  cases x<;>exact p _ m H Ext.refl S gA
 | _=>cases x<;>exact aa p⟩
theorem sN{a b:PySem.Str}(ha:aO a=true)(hb:aO b=true):aO (a++b)=true:=by
 unfold aO at *
 show((a.cps++b.cps).all _)=true
 rw[Array.all_append,ha,hb]
 rfl
def Oh(K:PySem.W.Frag):R2:=λx y H Q=>∃l b xs zs,x= .ref l/\y= .ref b/\fB K H l xs/\fB K H b zs/\xs.length+zs.length<=ZE/\∀p,H p=none->Q (.ref p) (upd H p (.lst (xs++zs)))
theorem Fp:dN X (Zt .Add) (Oh X.K):=by
 intro pins s σ H x y v u Q I rx ry h
 obtain⟨l,b,xs,zs,rfl,rfl,hH,hB,hz,q⟩:=h
 cases rx
 cases ry
 obtain⟨its,r,pl,hs⟩:=I.list hH
 obtain⟨its2,r2,Wt,hs2⟩:=I.list hB
 have hl:=r.length
 have hl2:=r2.length
 obtain⟨⟨cls,dd,data,sl⟩,ho,hc,n,hd⟩:=id pl.isList
 obtain⟨⟨NM,dd2,data2,sl2⟩,ho2,hc2,n2,hd2⟩:=id Wt.isList
 simp only at hc hd hc2 hd2
 subst hc hd hc2 hd2
 have e:its.toArray++its2.toArray=(its++its2).toArray:=by simp
 refine PySem.concat_meets ⟨_,ho,rfl⟩ ⟨_,ho2,rfl⟩ PySem.noFill_list_add PySem.seq_list_add PySem.F.slot_list_add PySem.F.entry_list_add (PySem.F.args_list_add_2 _ _) (list_addW l b its.toArray its2.toArray n n2 dd dd2 sl sl2 (by simp;omega)) ⟨ho,ho2,?_⟩
 rw[e]
 exact⟨.ref _,_,I.Ff (t':=s.toks) (r.append r2) (by rw[dk];omega),rfl,q _ I.fresh⟩
def Oi(K:PySem.W.Frag):R2:=λx y H Q=>∃a b ys,x= .ref a/\y= .ref b/\dh K H a []/\dh K H b ys/\Q (.ref b) H
theorem Fq:dN X (Zt .Add) (Oi X.K):=by
 intro pins s σ H x y v u Q I rx ry h
 obtain⟨a,b,ys,rfl,rfl,ha,hb,q⟩:=h
 cases rx
 cases ry
 obtain⟨its,r1,p1,_⟩:=I.tuple ha
 obtain⟨its2,r2,p2,_⟩:=I.tuple hb
 cases r1
 obtain⟨⟨c1,d1,t1,l1⟩,g1,k1,n1,j1⟩:=id p1
 obtain⟨⟨c2,d2,t2,l2⟩,g2,k2,n2,j2⟩:=id p2
 simp only at k1 j1 k2 j2
 subst k1 j1 k2 j2
 exact PySem.concat_meets ⟨_,g1,rfl⟩ ⟨_,g2,rfl⟩ PySem.noFill_tuple_add PySem.seq_tuple_add PySem.F.slot_tuple_add PySem.F.entry_tuple_add (PySem.F.args_tuple_add_2 _ _) (tuple_addW0 a b #[] its2.toArray n1 n2 d1 d2 l1 l2 (by simp)) ⟨g1,g2,⟨.ref b,H,I,rfl,q⟩⟩
def bU:gv
 | .int i,.int j,st=> .ok (.int (i+j)) st
 | .str i,.str j,st=>if i.length+j.length<=lim then .ok (.str (i++j)) st else .bad
 | .tup i,.tup j,st=>if i.length+j.length<=lim then .ok (.tup (i++j)) st else .bad
 | .ref l,.ref k,st=>match ai st l,ai st k with
  | some i,some j=>if i.length+j.length<=lim then .ok (.ref st.length) (st++[.lst (i++j)]) else .bad
  | _,_=> .bad
 | _,_,_=> .bad
instance {α:Type}{xs:List α}:Decidable (xs≠[]):=match xs with
 | []=>isFalse (λh=>h rfl)
 | _::_=>isTrue (λh=>by cases h)
theorem Kq:jK X (Zt .Add) bU:=⟨_,dN.or Jq (dN.or wg (dN.or Fb (dN.or Fp Fq))),λx y a b st H m Q S rx ry p=>by
 cases x with
 | int i=>
  cases y with
  | int j=>exact .inl ⟨i,j,a6 rx,a6 ry,p _ m H Ext.refl S mkInt⟩
  | _=>exact aa p
 | str i=>
  cases y with
  | str j=>
   dsimp only[bU] at p
   by_cases c:i.length+j.length<=lim
   ·rw[if_pos c] at p
    exact .inr (.inl ⟨i,j,(dP rx).1,(dP ry).1,eI c,p _ m H Ext.refl S (mkStr (sN (dP rx).2 (dP ry).2))⟩)
   ·rw[if_neg c] at p;exact aa p
  | _=>exact aa p
 | tup i=>
  cases y with
  | tup j=>
   dsimp only[bU] at p
   by_cases c:i.length+j.length<=lim
   ·rw[if_pos c] at p
    by_cases c0:i=[]
    ·subst c0
     unfold aj at rx ry
     obtain⟨a1,xs,rfl,h1,h2⟩:=rx
     obtain⟨a2,ys,rfl,h3,h4⟩:=ry
     have l1:xs=[]:=BW h2.length.symm
     subst l1
     exact .inr (.inr (.inr (.inr ⟨a1,a2,ys,rfl,rfl,dh.of h1,dh.of h3,p (.ref a2) m H Ext.refl S (by rw[nX];unfold aj;exact⟨a2,ys,rfl,h3,h4⟩)⟩)))
    unfold aj at rx ry
    obtain⟨a1,xs,rfl,h1,h2⟩:=rx
    obtain⟨a2,ys,rfl,h3,h4⟩:=ry
    have l1:=h2.length
    have l2:=h4.length
    have n1:xs≠[]:=λz=>by rw[z] at l1;exact c0 (BW l1)
    refine .inr (.inr (.inl ⟨a1,a2,xs,ys,rfl,rfl,dh.of h1,dh.of h3,n1,by rw[<-l1,<-l2];exact eI c,λz=>?_,λ_ q hq=>?_⟩))
    ·rw[z] at l2
     rw[BW l2,hX] at p
     exact p (.ref a1) m H Ext.refl S (by unfold aj;exact⟨a1,xs,rfl,h1,h2⟩)
    have e2:Ext X.K m H m (upd H q (.tup (xs++ys))):=Ext.upd (.inl hq)
    exact p (.ref q) m _ e2 (S.fresh hq) (by unfold aj;exact⟨q,xs++ys,rfl,aL,af.mono e2 _ _ (h2.append h4)⟩)
   ·rw[if_neg c] at p;exact aa p
  | _=>exact aa p
 | ref l=>
  cases y with
  | ref k=>
   dsimp only[bU] at p
   unfold aj at rx ry
   obtain⟨a1,rfl,h1⟩:=rx
   obtain⟨a2,rfl,h2⟩:=ry
   cases e1:ai st l with
   | none=>rw[e1] at p;exact aa p
   | some i=>
    cases e2:ai st k with
    | none=>rw[e1,e2] at p;exact aa p
    | some j=>
     rw[e1,e2] at p
     by_cases c:i.length+j.length<=lim
     ·simp only[if_pos c] at p
      obtain⟨xs,q1,q2⟩:=S.read h1 e1
      obtain⟨ys,q3,q4⟩:=S.read h2 e2
      exact .inr (.inr (.inr (.inl ⟨a1,a2,xs,ys,rfl,rfl,q1,q3,by rw[<-q2.length,<-q4.length];exact eI c,λq hq=>f_ p Ext.refl S (q2.append q4) q hq⟩)))
     ·simp only[if_neg c] at p;exact aa p
  | _=>exact aa p
 | _=>cases y<;>exact aa p⟩
def qG(n:Nat)(x:PySem.Str):PySem.Str:=⟨(aG n x.cps).foldl (· ++·) #[]⟩
end
open PySem PySem.Spec PySem.SeqAt PyProof.Rows L2
def jb{α β:Type}(f:α->Option β):List α->Option (List β)
 | []=>some []
 | w::ws=>match f w,jb f ws with
  | some d,some ds=>some (d::ds)
  | _,_=>none
def bM(st:Hs):Nat->Wv->Option PyData
 | 0,w=>match w with
  | .aP=>some .none
  | .bl b=>some (.bool b)
  | .int i=>some (.int i)
  | .str x=>some (.str x)
  | _=>none
 | n+1,w=>match w with
  | .aP=>some .none
  | .bl b=>some (.bool b)
  | .int i=>some (.int i)
  | .str x=>some (.str x)
  | .tup ws=>(jb (bM st n) ws).map .tuple
  | .oY ws=>(jb (bM st n) ws).map .tuple
  | .ref l=>match ai st l with
   | some ws=>(jb (bM st n) ws).map .list
   | none=>none
  | .ty _=>none
  | .cls _=>none
  | .lC _=>none
  | .fn _ _=>none
section
variable {X:Cx} {pins:List (Zk×Obj)} {σ:St} {H:Hp} {s:Zp} {m:Mp} {st:Hs}
def HN(h:Heap)(n:Nat)(u:Zq)(d:PyData):Prop:=∃as,Reads h u d as/\d.canLay0=true/\d.depth<=n
theorem jL{n:Nat}(ih:∀(w:Wv)(a:V)(u:Zq)(d:PyData),aj X.K m H w a->RelV a u->bM st n w=some d->HN s.heap n u d) :
  ∀(ws:List Wv)(xs:List V)(us:List Zq)(ds:List PyData),af X.K m H ws xs->Vals xs us->jb (bM st n) ws=some ds->∃as,ReadsAll s.heap us ds as/\PyData.canLayAll0 ds=true/\PyData.depthAll ds<=n
 | [],xs,us,ds,h,r,e=>by
  unfold af at h
  subst h
  cases r
  cases e
  exact⟨[],.nil,rfl,bF _⟩
 | w::ws,xs,us,ds,h,r,e=>by
  unfold af at h
  obtain⟨x,xr,rfl,h1,h2⟩:=h
  cases r with
  | cons r1 r2=>
   unfold jb at e
   cases e1:bM st n w with
   | none=>rw[e1] at e;cases e
   | some d=>
    cases e2:jb (bM st n) ws with
    | none=>rw[e1,e2] at e;cases e
    | some dr=>
     rw[e1,e2] at e
     cases e
     obtain⟨as,q1,q2,q3⟩:=ih w x _ d h1 r1 e1
     obtain⟨bs,p1,p2,p3⟩:=jL ih ws xr _ dr h2 r2 e2
     refine⟨as++bs,.cons q1 p1,?_,?_⟩
     ·show(PyData.canLay0 d&&PyData.canLayAll0 dr)=true
      rw[q2,p2];rfl
     ·show max d.depth (PyData.depthAll dr)<=n
      omega
theorem lD(I:Inv X pins σ H s)(S:aQ X.K m st H):∀(n:Nat)(w:Wv)(a:V)(u:Zq)(d:PyData),aj X.K m H w a->RelV a u->bM st n w=some d->HN s.heap n u d:=by
 intro n
 induction n with
 | zero=>
  intro w a u d h r e
  cases w with
  | aP=>unfold aj at h;subst h;cases r;cases e;exact⟨[],.none,rfl,ak _⟩
  | bl b=>unfold aj at h;subst h;cases r;cases e;exact⟨[],.bool b,rfl,ak _⟩
  | int i=>unfold aj at h;subst h;obtain⟨t,rfl⟩:=r;cases e;exact⟨[],.int i t,rfl,ak _⟩
  | str x=>unfold aj at h;obtain⟨rfl,hx⟩:=h;obtain⟨t,rfl⟩:=r;cases e;exact⟨[],.str x t,hx,ak _⟩
  | tup ws=>cases e
  | oY ws=>cases e
  | ref l=>cases e
  | ty t=>cases e
  | cls t=>cases e
  | lC t=>cases e
  | fn fp t=>cases e
 | succ n ih=>
  intro w a u d h r e
  cases w with
  | aP=>unfold aj at h;subst h;cases r;cases e;exact⟨[],.none,rfl,bF _⟩
  | bl b=>unfold aj at h;subst h;cases r;cases e;exact⟨[],.bool b,rfl,bF _⟩
  | int i=>unfold aj at h;subst h;obtain⟨t,rfl⟩:=r;cases e;exact⟨[],.int i t,rfl,bF _⟩
  | str x=>unfold aj at h;obtain⟨rfl,hx⟩:=h;obtain⟨t,rfl⟩:=r;cases e;exact⟨[],.str x t,hx,bF _⟩
  | ty t=>cases e
  | cls t=>cases e
  | lC t=>cases e
  | fn fp t=>cases e
  | tup ws=>
   unfold aj at h
   obtain⟨p,xs,rfl,h1,h2⟩:=h
   cases r
   have e':(jb (bM st n) ws).map PyData.tuple=some d:=e
   cases e2:jb (bM st n) ws with
   | none=>rw[e2] at e';cases e'
   | some ds=>
    rw[e2] at e'
    cases e'
    obtain⟨its,rv,ht,hz⟩:=I.tuple (dh.of h1)
    obtain⟨as,q1,q2,q3⟩:=jL ih ws xs its ds h2 rv e2
    obtain⟨o,ho,hc,k,hd⟩:=ht
    exact⟨as,.tuple ho hc hd (by simpa using q1),q2,yb q3⟩
  | oY ws=>
   unfold aj at h
   obtain⟨p,xs,rfl,h1,h2⟩:=h
   cases r
   have e':(jb (bM st n) ws).map PyData.tuple=some d:=e
   cases e2:jb (bM st n) ws with
   | none=>rw[e2] at e';cases e'
   | some ds=>
    rw[e2] at e'
    cases e'
    obtain⟨its,rv,ht,hz⟩:=I.tuple (.inr h1)
    obtain⟨as,q1,q2,q3⟩:=jL ih ws xs its ds h2 rv e2
    obtain⟨o,ho,hc,k,hd⟩:=ht
    exact⟨as,.tuple ho hc hd (by simpa using q1),q2,yb q3⟩
  | ref l=>
   unfold aj at h
   obtain⟨p,rfl,h1⟩:=h
   cases r
   have e':(match ai st l with | some ws=>(jb (bM st n) ws).map sO | none=>none)=some d:=e
   cases e1:ai st l with
   | none=>rw[e1] at e';cases e'
   | some ws=>
    rw[e1] at e'
    have e'':(jb (bM st n) ws).map sO=some d:=e'
    cases e2:jb (bM st n) ws with
    | none=>rw[e2] at e'';cases e''
    | some ds=>
     rw[e2] at e''
     cases e''
     obtain⟨xs,hq,h2⟩:=S.read h1 e1
     obtain⟨its,rv,ht,hz⟩:=I.list hq
     obtain⟨as,q1,q2,q3⟩:=jL ih ws xs its ds h2 rv e2
     obtain⟨o,ho,hc,k,hd⟩:=ht.isList
     exact⟨_,.list ho hc hd (by simpa using q1),q2,yb q3⟩
end
def oEq:gv:=λx y st=>match bM st 20 x,bM st 20 y with
 | some a,some b=> .ok (.bl (jM a b)) st
 | _,_=> .bad
def uF:gv:=λx y st=>match bM st 20 x,bM st 20 y with
 | some a,some b=> .ok (.bl (!PyData.eqv a b)) st
 | _,_=> .bad
section
variable {X:Cx}
def Oj(K:PySem.W.Frag)(neg:Bool):R2:=λa b H Q=>∃m st x y da db,aQ K m st H/\aj K m H x a/\aj K m H y b/\bM st 20 x=some da/\bM st 20 y=some db/\Q (.bl (if neg then !PyData.eqv da db else jM da db)) H
theorem jN{n:Nat}{d:PyData}(hn:n<=64)(h:d.canLay0=true)(k:d.depth<=n):shaped d=true:=by
 unfold shaped
 rw[h,decide_eq_true (bE k hn)]
 rfl
theorem Kr(hu:X.A.units+64 < cLine):dN X (Zx .Eq) (Oj X.K false):=by
 intro pins s σ H a b v u Q I rx ry h
 obtain⟨m,st,x,y,da,db,S,h1,h2,e1,e2,q⟩:=h
 obtain⟨as,q1,q2,q3⟩:=lD I S 20 x a v da h1 rx e1
 obtain⟨bs,p1,p2,p3⟩:=lD I S 20 y b u db h2 ry e2
 exact eq_dataH q1 p1 (jN (by decide) q2 q3) (jN (by decide) p2 p3) hu ⟨.bl _,H,I,rfl,q⟩
theorem Ks(hu:X.A.units+64 < cLine):dN X (Zx .NotEq) (Oj X.K true):=by
 intro pins s σ H a b v u Q I rx ry h
 obtain⟨m,st,x,y,da,db,S,h1,h2,e1,e2,q⟩:=h
 obtain⟨as,q1,q2,q3⟩:=lD I S 20 x a v da h1 rx e1
 obtain⟨bs,p1,p2,p3⟩:=lD I S 20 y b u db h2 ry e2
 exact ne_dataH q1 p1 (jN (by decide) q2 q3) (jN (by decide) p2 p3) hu ⟨.bl _,H,I,rfl,q⟩
theorem Ol(hu:X.A.units+64 < cLine):jK X (Zx .Eq) oEq:=⟨_,Kr hu,λx y a b st H m Q S rx ry p=>by
 unfold oEq at p
 cases e1:bM st 20 x with
 | none=>rw[e1] at p;exact aa p
 | some da=>
  cases e2:bM st 20 y with
  | none=>rw[e1,e2] at p;exact aa p
  | some db=>
   rw[e1,e2] at p
   exact⟨m,st,x,y,da,db,S,rx,ry,e1,e2,p _ m H Ext.refl S gA⟩⟩
theorem Om(hu:X.A.units+64 < cLine):jK X (Zx .NotEq) uF:=⟨_,Ks hu,λx y a b st H m Q S rx ry p=>by
 unfold uF at p
 cases e1:bM st 20 x with
 | none=>rw[e1] at p;exact aa p
 | some da=>
  cases e2:bM st 20 y with
  | none=>rw[e1,e2] at p;exact aa p
  | some db=>
   rw[e1,e2] at p
   exact⟨m,st,x,y,da,db,S,rx,ry,e1,e2,p _ m H Ext.refl S gA⟩⟩
def bG:Wv->Bool
 | .aP=>true
 | .bl _=>true
 | .int _=>true
 | .str _=>true
 | _=>false
def vW:Wv->Wv->Bool
 | .aP,.aP=>true
 | .bl a,.bl b=>a == b
 | .bl a,.int b=>(if a then 1 else 0) == b
 | .int a,.bl b=>a == (if b then 1 else 0)
 | .int a,.int b=>a == b
 | .str a,.str b=>a == b
 | _,_=>false
def jn(st:Hs):Wv->Option (List Wv)
 | .tup ws=>some ws
 | .oY ws=>some ws
 | .ref l=>ai st l
 | _=>none
def RB:gv:=λx y st=>match jn st y with
 | some ws=>if bG x=true/\ws.all bG=true then .ok (.bl (ws.any λz=>vW z x)) st else .bad
 | none=> .bad
def wI:gv:=λx y st=>match jn st y with
 | some ws=>if bG x=true/\ws.all bG=true then .ok (.bl (!(ws.any λz=>vW z x))) st else .bad
 | none=> .bad
theorem f'{m:Mp}{H:Hp}{x:Wv}{a:V}(h:aj X.K m H x a)(f:bG x=true):eE a=true:=by
 cases x with
 | aP=>unfold aj at h;subst h;rfl
 | bl b=>unfold aj at h;subst h;rfl
 | int b=>unfold aj at h;subst h;rfl
 | str b=>unfold aj at h;obtain⟨h,_⟩:=h;subst h;rfl
 | _=>cases f
theorem sP{m:Mp}{H:Hp}{x y:Wv}{a b:V}(h:aj X.K m H x a)(k:aj X.K m H y b)(f:bG x=true)(g:bG y=true):uz a b=vW x y:=by
 cases x with
 | aP=>
  unfold aj at h;subst h
  cases y with
  | str j=>unfold aj at k;obtain⟨k,_⟩:=k;subst k;rfl
  | tup j=>cases g
  | oY j=>cases g
  | ref j=>cases g
  | ty j=>cases g
  | cls j=>cases g
  | lC j=>cases g
  | fn fp j=>cases g
  | _=>unfold aj at k;subst k;rfl
 | bl i=>
  unfold aj at h;subst h
  cases y with
  | str j=>unfold aj at k;obtain⟨k,_⟩:=k;subst k;rfl
  | tup j=>cases g
  | oY j=>cases g
  | ref j=>cases g
  | ty j=>cases g
  | cls j=>cases g
  | lC j=>cases g
  | fn fp j=>cases g
  | _=>unfold aj at k;subst k;rfl
 | int i=>
  unfold aj at h;subst h
  cases y with
  | str j=>unfold aj at k;obtain⟨k,_⟩:=k;subst k;rfl
  | tup j=>cases g
  | oY j=>cases g
  | ref j=>cases g
  | ty j=>cases g
  | cls j=>cases g
  | lC j=>cases g
  | fn fp j=>cases g
  | _=>unfold aj at k;subst k;rfl
 | str i=>
  unfold aj at h;obtain⟨h,_⟩:=h;subst h
  cases y with
  | str j=>unfold aj at k;obtain⟨k,_⟩:=k;subst k;rfl
  | tup j=>cases g
  | oY j=>cases g
  | ref j=>cases g
  | ty j=>cases g
  | cls j=>cases g
  | lC j=>cases g
  | fn fp j=>cases g
  | _=>unfold aj at k;subst k;rfl
 | _=>cases f
theorem mF{m:Mp}{H:Hp}{x:Wv}{a:V}(h:aj X.K m H x a)(f:bG x=true):∀{ws:List Wv}{xs:List V},af X.K m H ws xs->ws.all bG=true->xs.all eE=true/\Qg a xs=ws.any λz=>vW z x
 | [],xs,r,_=>by unfold af at r;subst r;exact⟨rfl,rfl⟩
 | w::ws,xs,r,g=>by
  unfold af at r
  obtain⟨y,yr,rfl,r1,r2⟩:=r
  rw[cQ,cH] at g
  obtain⟨q1,q2⟩:=mF h f r2 g.2
  constructor
  ·rw[cQ,f' r1 g.1,q1];rfl
  ·unfold Qg at q2 ⊢
   rw[mz,mz,sP r1 h g.1 f,q2]
theorem n_{m:Mp}{H:Hp}{st:Hs}{y:Wv}{b:V}{ws:List Wv}(S:aQ X.K m st H)(h:aj X.K m H y b)(e:jn st y=some ws):∃p xs,b= .ref p/\(fB X.K H p xs\/dh X.K H p xs)/\af X.K m H ws xs:=by
 cases y with
 | tup zs=>
  cases e
  unfold aj at h
  obtain⟨p,xs,e1,e2,e3⟩:=h
  exact⟨p,xs,e1,.inr (dh.of e2),e3⟩
 | oY zs=>
  cases e
  unfold aj at h
  obtain⟨p,xs,e1,e2,e3⟩:=h
  exact⟨p,xs,e1,.inr (.inr e2),e3⟩
 | ref l=>
  unfold aj at h
  obtain⟨p,e1,e2⟩:=h
  obtain⟨xs,q1,q2⟩:=S.read e2 e
  exact⟨p,xs,e1,.inl q1,q2⟩
 | _=>cases e
theorem Oo:jK X (Zx .In) RB:=⟨_,zJ,λx y a b st H m Q S rx ry p=>by
 unfold RB at p
 cases e:jn st y with
 | none=>rw[e] at p;exact aa p
 | some ws=>
  rw[e] at p
  by_cases c:bG x=true/\ws.all bG=true
  ·simp only[if_pos c] at p
   obtain⟨q,xs,e1,e2,e3⟩:=n_ S ry e
   obtain⟨f1,f2⟩:=mF rx c.1 e3 c.2
   refine⟨q,xs,e1,e2,f' rx c.1,f1,?_⟩
   rw[f2]
   exact p _ m H Ext.refl S gA
  ·simp only[if_neg c] at p;exact aa p⟩
theorem BX:jK X (Zx .NotIn) wI:=⟨_,sC,λx y a b st H m Q S rx ry p=>by
 unfold wI at p
 cases e:jn st y with
 | none=>rw[e] at p;exact aa p
 | some ws=>
  rw[e] at p
  by_cases c:bG x=true/\ws.all bG=true
  ·simp only[if_pos c] at p
   obtain⟨q,xs,e1,e2,e3⟩:=n_ S ry e
   obtain⟨f1,f2⟩:=mF rx c.1 e3 c.2
   refine⟨q,xs,e1,e2,f' rx c.1,f1,?_⟩
   rw[f2]
   exact p _ m H Ext.refl S gA
  ·simp only[if_neg c] at p;exact aa p⟩
def cP:gv
 | .str z,.int i,st=>if z.length<=lim then(match qu z.cps.toList i with | some c=> .ok (.str ⟨#[c]⟩) st | none=> .bad) else .bad
 | x,.int i,st=>match jn st x with
  | some ws=>(match qu ws i with | some w=> .ok w st | none=> .bad)
  | none=> .bad
 | _,_,_=> .bad
theorem Fs{m:Mp}{H:Hp}{ws:List Wv}{xs:List V}{i:Int}{w:Wv}(r:af X.K m H ws xs)(h:qu ws i=some w):∃x,qu xs i=some x/\aj X.K m H w x:=by
 unfold qu at h ⊢
 rw[<-r.length]
 cases e:zI ws.length i with
 | none=>rw[e] at h;cases h
 | some j=>rw[e] at h;exact r.get h
theorem Ft{α:Type}{xs:List α}{i:Int}{v:α}(h:qu xs i=some v):v∈xs:=by
 obtain⟨j,_,h2,_⟩:=nV h
 exact xP h2
theorem zP{z:PySem.Str}{c:Nat}(h:aO z=true)(hc:c∈z.cps.toList):aO ⟨#[c]⟩=true:=by
 unfold aO at h ⊢
 rw[Oq] at h
 have q:=h c (by simpa using hc)
 simpa using q
theorem Ot{a b:Expr}{ga gb:GE}{pos:Pos}(ha:JE X a ga)(hb:JE X b gb)(hs:xW b:=by exact λ_ _=>rfl):JE X (.Subscript a b pos) (ao cP ga gb) :=
 JE.of (NP JM aU aU hs) λρ st σ H m Q S R p=>x9 (op:=cP) (λx y a b st H m Q S rx ry p=>by
  have seqs:∀(i:Int),y= .int i->(match jn st x with | some ws=>(match qu ws i with | some w=>Re.ok w st | none=> .bad) | none=> .bad)=cP x y st->UP X.K a b H Q:=λi hy hp=>by
   subst hy
   rw[<-hp] at p
   cases e:jn st x with
   | none=>rw[e] at p;exact aa p
   | some ws=>
    rw[e] at p
    dsimp only at p
    cases e1:qu ws i with
    | none=>rw[e1] at p;exact aa p
    | some w=>
     rw[e1] at p
     obtain⟨q,xs,e2,e3,e4⟩:=n_ S rx e
     obtain⟨v,f1,f2⟩:=Fs e4 e1
     rcases e3 with e3 | e3
     ·exact .inl ⟨q,xs,i,v,e2,a6 ry,e3,f1,p v m H Ext.refl S f2⟩
     ·exact .inr (.inl ⟨q,xs,i,v,e2,a6 ry,e3,f1,p v m H Ext.refl S f2⟩)
  cases y with
  | int i=>
   cases x with
   | str z=>
    dsimp only[cP] at p
    by_cases c:z.length<=lim
    ·simp only[if_pos c] at p
     cases e1:qu z.cps.toList i with
     | none=>rw[e1] at p;exact aa p
     | some ch=>
      rw[e1] at p
      exact .inr (.inr ⟨z,i,ch,(dP rx).1,a6 ry,eI c,e1,p _ m H Ext.refl S (mkStr (zP (dP rx).2 (Ft e1)))⟩)
    ·simp only[if_neg c] at p;exact aa p
   | _=>exact seqs i rfl rfl
  | _=>cases x<;>exact aa p) ha hb S R p
abbrev GO:=bA->Hs->Re (Option Int)
def SO(X:Cx)(e:Option Expr):TO:=λσ H Q=>∀(pins:List (Zk×Obj))(s:Zp),Inv X pins σ H s->ZG (model X.prog X.w) X.A (evalPart e X.env) (λu s'=>∃o H',Inv X pins σ H' s'/\IsPart u o/\Q o H') X.xe s
theorem rf{e:Option Expr}:PO X e (SO X e):=λpins s _ _ _ I h=>h pins s I
def Wu(K:PySem.W.Frag)(m:Mp)(H:Hp)(Q:Option Int->Hp->Prop)(o:Option Int)(st:Hs):Prop:=∀(m':Mp)(H':Hp),Ext K m H m' H'->aQ K m' st H'->Q o H'
def JO(X:Cx)(e:Option Expr)(g:GO):Prop:=∀(ρ:bA)(st:Hs)(σ:St)(H:Hp)(m:Mp)(Q:Option Int->Hp->Prop),aQ X.K m st H->av X.K m H ρ σ->au X σ m H (g ρ st) (Wu X.K m H Q)->SO X e σ H Q
def bx:GO:=λ_ st=> .ok none st
def cI(g:GE):GO:=λρ st=>(g ρ st).bind λw st1=>match w with
 | .int i=> .ok (some i) st1
 | _=> .bad
theorem Fv:JO X none bx:=λρ st σ H m Q S R p pins s I=>E9 pins s σ H Q I (p m H Ext.refl S)
theorem Fw{e:Expr}{g:GE}(h:JE X e g):JO X (some e) (cI g):=λρ st σ H m Q S R p pins s I=>
 E_ aU pins s σ H Q I (h.go S R (au.bind p) λw st1 v m1 H1 p1 e1 S1 r1=>by
  cases w with
  | int i=>exact⟨i,a6 r1,p1 m1 H1 e1 S1⟩
  | _=>exact aa p1)
theorem JO.go{e:Option Expr}{g:GO}{ρ:bA}{st:Hs}{σ:St}{H:Hp}{m:Mp}{T:Option Int->Hp->Prop}{ok:Option Int->Hs->Prop}(h:JO X e g)(S:aQ X.K m st H)(R:av X.K m H ρ σ)(p:au X σ m H (g ρ st) ok)
  (k:∀(b:Option Int)(st1:Hs)(m1:Mp)(H1:Hp),ok b st1->Ext X.K m H m1 H1->aQ X.K m1 st1 H1->T b H1):SO X e σ H T :=
 h ρ st σ H m T S R (p.imp Ext.refl λb st1 q m1 H1 e1 s1=>k b st1 m1 H1 q e1 s1)
def iE(xs:List Wv)(lo hi:Option Int):List Wv:=(xs.drop (HT.cu xs.length 0 lo)).take (HT.cu xs.length xs.length hi - HT.cu xs.length 0 lo)
def Ou(x:Wv)(lo hi:Option Int)(st:Hs):Re Wv:=match x with
 | .tup ws=>if HT.cu ws.length 0 lo=0/\HT.cu ws.length ws.length hi=ws.length then .bad else .ok (.tup (iE ws lo hi)) st
 | .ref l=>match ai st l with
  | some ws=> .ok (.ref st.length) (st++[.lst (iE ws lo hi)])
  | none=> .bad
 | _=> .bad
theorem sQ{m:Mp}{H:Hp}{ws:List Wv}{xs:List V}{lo hi:Option Int}(r:af X.K m H ws xs):af X.K m H (iE ws lo hi) (qB xs lo hi):=by
 unfold iE qB
 rw[<-r.length]
 exact(r.drop _).take _
def wJ(ga:GE)(gl gh:GO):GE:=λρ st=>(ga ρ st).bind λx st1=>(gl ρ st1).bind λlo st2=>(gh ρ st2).bind λhi st3=>Ou x lo hi st3
theorem uG{a:Expr}{lo hi:Option Expr}{ga:GE}{gl gh:GO}{pos p2:Pos}(ha:JE X a ga)(hl:JO X lo gl)(hh:JO X hi gh):JE X (.Subscript a (.Slice lo hi none p2) pos) (wJ ga gl gh):=by
 refine JE.of (oS (Bv.or Fe) aU rf rf) λρ st σ H m Q S R p=>?_
 refine ha.go S R (au.bind p) λx st1 v m1 H1 p1 e1 S1 rx=>?_
 refine hl.go S1 (R.mono e1) ((au.bind p1).imp e1 λ_ _ q=>q) λl st2 m2 H2 p2 e2 S2=>?_
 refine hh.go S2 (R.mono (e1.trans e2)) ((au.bind p2).imp (e1.trans e2) λ_ _ q=>q) λh st3 m3 H3 p3 e3 S3=>?_
 have ED:=e1.trans (e2.trans e3)
 have Qk:=aj.mono (e2.trans e3) _ _ rx
 cases x with
 | tup ws=>
  have nP:dg X σ m H (if HT.cu ws.length 0 l=0/\HT.cu ws.length ws.length h=ws.length then .bad else .ok (.tup (iE ws l h)) st3) Q:=p3
  by_cases c:HT.cu ws.length 0 l=0/\HT.cu ws.length ws.length h=ws.length
  ·rw[if_pos c] at nP;exact aa nP
  ·rw[if_neg c] at nP
   unfold aj at Qk
   obtain⟨q,xs,rfl,f1,f2⟩:=Qk
   refine .inl ⟨q,xs,rfl,dh.of f1,by rw[<-f2.length];exact c,λr hr=>?_⟩
   have e4:Ext X.K m3 H3 m3 (upd H3 r (.tup (qB xs l h))):=Ext.upd (.inl hr)
   exact nP (.ref r) m3 _ (ED.trans e4) (S3.fresh hr) (by unfold aj;exact⟨r,_,rfl,aL,af.mono e4 _ _ (sQ f2)⟩)
 | ref k=>
  have nP:dg X σ m H (match ai st3 k with | some ws=> .ok (.ref st3.length) (st3++[.lst (iE ws l h)]) | none=> .bad) Q:=p3
  unfold aj at Qk
  obtain⟨q,rfl,f1⟩:=Qk
  cases e:ai st3 k with
  | none=>rw[e] at nP;exact aa nP
  | some ws=>
   rw[e] at nP
   obtain⟨xs,g1,g2⟩:=S3.read f1 e
   exact .inr ⟨q,xs,rfl,g1,λr hr=>f_ nP ED S3 (sQ g2) r hr⟩
 | _=>exact aa p3
end
section
variable {X:Cx}
def dQ(X:Cx)(f:Zq)(op:List Wv->Hs->Re Wv):Prop:=∃r,dG X f r/\∀(ws:List Wv)(vs:List V)(st:Hs)(H:Hp)(m:Mp)(Q:VK),aQ X.K m st H->af X.K m H ws vs->cb X.K m H (op ws st) Q->r vs H Q
def ay(op:List Wv->Hs->Re Wv)(g:GA):GE:=λρ st=>(g ρ st).bind λws st1=>(op ws st1).je
theorem BY{x:Str}{id:String}{p pos:Pos}{e:Expr}{es:List Expr}{g:GA}{op:List Wv->Hs->Re Wv}(hc:dQ X (.builtin id) op)(hg:Gl X x)(hm:X.mg x=none)(hv:Zu x=some (.builtin id))(ha:JA X (e::es) g)
  (hn:x≠"__name__":=by decide)(hdb:(x == ("__debug__":Str))=false:=by decide)(he:ZF (e::es) X.env=(false,eval e X.env)::ZF es X.env:=by rfl)(hpl:(backTo pos (ZF es X.env)).any (·.1)=false:=by rfl) :
  JE X (.Call (.Name x p) (e::es) [] pos) (ay op g):=by
 obtain⟨r,h1,h2⟩:=hc
 refine JE.of (Bq h1 hg hm hv fZ hn hdb he hpl) λρ st σ H m Q S R p=>?_
 exact ha.go S R (au.bind p) λws st1 vs m1 H1 p1 e1 S1 rs=>h2 ws vs st1 H1 m1 Q S1 rs (cb.shift (au.je p1) e1)
theorem zQ{x:Str}{T:String}{p pos:Pos}{e:Expr}{es:List Expr}{g:GA}{op:List Wv->Hs->Re Wv}(hc:dQ X (.type T) op)(hg:Gl X x)(hm:X.mg x=none)(hv:Zu x=some (.type T))(ha:JA X (e::es) g)
  (hn:x≠"__name__":=by decide)(hdb:(x == ("__debug__":Str))=false:=by decide)(he:ZF (e::es) X.env=(false,eval e X.env)::ZF es X.env:=by rfl)(hpl:(backTo pos (ZF es X.env)).any (·.1)=false:=by rfl) :
  JE X (.Call (.Name x p) (e::es) [] pos) (ay op g):=by
 obtain⟨r,h1,h2⟩:=hc
 refine JE.of (zH h1 hg hm hv fZ hn hdb he hpl) λρ st σ H m Q S R p=>?_
 exact ha.go S R (au.bind p) λws st1 vs m1 H1 p1 e1 S1 rs=>h2 ws vs st1 H1 m1 Q S1 rs (cb.shift (au.je p1) e1)
theorem jc{m:Mp}{H:Hp}{w:Wv}{vs:List V}(r:af X.K m H [w] vs):∃v,vs=[v]/\aj X.K m H w v:=by
 unfold af at r
 obtain⟨v,t,rfl,h1,h2⟩:=r
 unfold af at h2
 subst h2
 exact⟨v,rfl,h1⟩
theorem BZ{m:Mp}{H:Hp}{w w':Wv}{vs:List V}(r:af X.K m H [w,w'] vs):∃v v',vs=[v,v']/\aj X.K m H w v/\aj X.K m H w' v':=by
 unfold af at r
 obtain⟨v,t,rfl,h1,h2⟩:=r
 obtain⟨v',rfl,h3⟩:=jc h2
 exact⟨v,v',rfl,h1,h3⟩
def eJ:List Wv->Hs->Re Wv
 | [.str z],st=>if z.length<=lim then .ok (.int z.length) st else .bad
 | [x],st=>match jn st x with
  | some ws=> .ok (.int ws.length) st
  | none=> .bad
 | _,_=> .bad
theorem Kt:dQ X (.builtin "len") eJ:=⟨_,sE.or sF,λws vs st H m Q S r p=>by
 match ws,r,p with
 | [],r,p=>exact aa p
 | x::y::t,r,p=>cases x<;>exact aa p
 | [x],r,p=>
  obtain⟨v,rfl,rx⟩:=jc r
  have seqs:(match jn st x with | some ws=>Re.ok (Wv.int ws.length) st | none=> .bad)=eJ [x] st->(∃p ys,[v]=[V.ref p]/\(fB X.K H p ys\/dh X.K H p ys)/\Q (.int ys.length) H):=λhp=>by
   rw[<-hp] at p
   cases e:jn st x with
   | none=>rw[e] at p;exact aa p
   | some ws=>
    rw[e] at p
    obtain⟨q,xs,rfl,e2,e3⟩:=n_ S rx e
    refine⟨q,xs,rfl,e2,?_⟩
    rw[<-e3.length]
    exact p _ m H Ext.refl S mkInt
  cases x with
  | str z=>
   have p':cb X.K m H (if z.length<=lim then .ok (.int z.length) st else .bad) Q:=p
   by_cases c:z.length<=lim
   ·rw[if_pos c] at p'
    obtain⟨rfl,_⟩:=dP rx
    exact .inr ⟨z,rfl,eI c,p' _ m H Ext.refl S mkInt⟩
   ·rw[if_neg c] at p';exact aa p'
  | _=>exact .inl (seqs rfl)⟩
def RC:List Wv->Hs->Re Wv
 | [.int i],st=> .ok (.int (if i < 0 then -i else i)) st
 | _,_=> .bad
def MW(st:Hs)(T:String):Wv->Option Bool
 | .aP=>some false
 | .bl _=>some (T == "bool"||T == "int")
 | .int _=>some (T == "int")
 | .str _=>some (T == "str")
 | .tup _=>some (T == "tuple")
 | .oY _=>none
 | .ref l=>(ai st l).map λ_=>T == "list"
 | .ty _=>none
 | .cls _=>none
 | .lC _=>none
 | .fn _ _=>none
def wK(T:String):Bool:=T == "int"||T == "str"||T == "bool"||T == "tuple"||T == "list"
def Ku:List Wv->Hs->Re Wv
 | [x,.ty T],st=>if wK T=true then(match MW st T x with | some b=> .ok (.bl b) st | none=> .bad) else .bad
 | _,_=> .bad
def RD(K:PySem.W.Frag):List V->Hp->VK->Prop:=λvs H Q=>∃m st x T v b,vs=[v,.ty T]/\aQ K m st H/\aj K m H x v/\wK T=true/\MW st T x=some b/\Q (.bl b) H
theorem B0:dG X (.builtin "isinstance") (RD X.K):=by
 intro pins s σ H xs us Q I r h
 obtain⟨m,st,x,T,v,b,rfl,S,rx,hT,hb,q⟩:=h
 obtain⟨u,u',rfl,r1,r2⟩:=vals2 r
 cases r2
 have fin:∀tk,EP X pins σ Q (.bool b) { s with toks:=tk }:=λtk=>⟨.bl b,H,I.tok tk,rfl,q⟩
 have B1:EP X pins σ Q (.bool b) s:=⟨.bl b,H,I,rfl,q⟩
 unfold wK at hT
 simp only[Bool.or_eq_true,beq_iff_eq] at hT
 cases x with
 | aP=>
  unfold aj at rx;subst rx;cases r1
  cases hb
  rcases hT with (((rfl | rfl) | rfl) | rfl) | rfl<;>
   exact call_isinstance (isinstance_false_none (by decide) (by kernel_rfl) (by rw[Zz];kernel_rfl)) (fin _)
 | bl c=>
  unfold aj at rx;subst rx;cases r1
  rcases hT with (((rfl | rfl) | rfl) | rfl) | rfl<;>cases hb<;>first
   | exact call_isinstance_yes (Tx:="bool") rfl (by kernel_rfl) (by rw[Zz];kernel_rfl) B1
   | exact call_isinstance (isinstance_false_bool (by decide) (by kernel_rfl) (by rw[Zz];kernel_rfl)) (fin _)
 | int c=>
  unfold aj at rx;subst rx;obtain⟨t,rfl⟩:=r1
  rcases hT with (((rfl | rfl) | rfl) | rfl) | rfl<;>cases hb<;>first
   | exact call_isinstance_yes (Tx:="int") (typeIs_int s c t) (by kernel_rfl) (by rw[Zz];kernel_rfl) B1
   | exact call_isinstance (isinstance_false_int (by decide) (by kernel_rfl) (by rw[Zz];kernel_rfl)) (fin _)
 | str c=>
  obtain⟨rfl,_⟩:=dP rx;obtain⟨t,rfl⟩:=r1
  rcases hT with (((rfl | rfl) | rfl) | rfl) | rfl<;>cases hb<;>first
   | exact call_isinstance_yes (Tx:="str") (typeIs_str s c t) (by kernel_rfl) (by rw[Zz];kernel_rfl) B1
   | exact call_isinstance (isinstance_false_str (by decide) (by kernel_rfl) (by rw[Zz];kernel_rfl)) (fin _)
 | oY ws=>cases hb
 | tup ws=>
  unfold aj at rx;obtain⟨a,xs,rfl,h1,h2⟩:=rx;cases r1
  obtain⟨its,rv,ht,hz⟩:=I.tuple (dh.of h1)
  have hty:=ht.typeIs
  obtain⟨o,ho,hc,k,hd⟩:=ht
  rcases hT with (((rfl | rfl) | rfl) | rfl) | rfl<;>cases hb<;>first
   | exact call_isinstance_yes (Tx:="tuple") hty (by kernel_rfl) (by rw[Zz];kernel_rfl) B1
   | exact call_isinstance (isinstance_false_tuple (by decide) (by kernel_rfl) (by rw[Zz];kernel_rfl)) ⟨⟨o,ho,hc⟩,fin _⟩
 | ref l=>
  unfold aj at rx;obtain⟨a,rfl,h1⟩:=rx;cases r1
  have hb':(ai st l).map (λ_=>T == "list")=some b:=hb
  cases e:ai st l with
  | none=>rw[e] at hb';cases hb'
  | some ws=>
   rw[e] at hb'
   obtain⟨xs,hq,h2⟩:=S.read h1 e
   obtain⟨its,rv,ht,hz⟩:=I.list hq
   have hty:=ht.isList.typeIs
   obtain⟨o,ho,hc,k,hd⟩:=ht.isList
   rcases hT with (((rfl | rfl) | rfl) | rfl) | rfl<;>cases hb'<;>first
    | exact call_isinstance_yes (Tx:="list") hty (by kernel_rfl) (by rw[Zz];kernel_rfl) B1
    | exact call_isinstance (isinstance_false_list (by decide) (by kernel_rfl) (by rw[Zz];kernel_rfl)) ⟨⟨o,ho,hc⟩,fin _⟩
 | ty t=>cases hb
 | cls t=>cases hb
 | lC t=>cases hb
 | fn fp t=>cases hb
theorem Kv:dQ X (.builtin "isinstance") Ku:=⟨_,B0,λws vs st H m Q S r p=>by
 match ws,r,p with
 | [],r,p=>exact aa p
 | [x],r,p=>cases x<;>exact aa p
 | x::y::z::t,r,p=>cases y<;>exact aa p
 | [x,y],r,p=>
  obtain⟨v,v',rfl,rx,ry⟩:=BZ r
  cases y with
  | ty T=>
   unfold aj at ry
   subst ry
   have p':cb X.K m H (if wK T=true then(match MW st T x with | some b=> .ok (.bl b) st | none=> .bad) else .bad) Q:=p
   by_cases c:wK T=true
   ·rw[if_pos c] at p'
    cases e:MW st T x with
    | none=>rw[e] at p';exact aa p'
    | some b=>rw[e] at p';exact⟨m,st,x,T,v,b,rfl,S,rx,c,e,p' _ m H Ext.refl S gA⟩
   ·rw[if_neg c] at p';exact aa p'
  | _=>exact aa p⟩
def dH:GS:=λρ st=> .nx ρ st
def bb(g h:GS):GS:=λρ st=>match g ρ st with
 | .nx ρ' st'=>h ρ' st'
 | r=>r
theorem Fx:mE X [] dH:=mE.of ES λρ st σ H m D S R p=>p σ m H Ext.refl S R
theorem B2{s:Stmt}{rest:List Stmt}{g h:GS}(h1:JS X s g)(h2:mE X rest h):mE X (s::rest) (bb g h) :=
 mE.of (Bi HF gK) λρ st σ H m D S R p=>h1 ρ st σ H m _ S R (by
  unfold bb at p
  cases e:g ρ st with
  | nx ρ' st'=>rw[e] at p;exact λσ' m' H' e' S' R'=>h2 ρ' st' σ' H' m' D S' R' (aK.shift p e')
  | rt w st'=>rw[e] at p;exact p
  | bk ρ' st'=>rw[e] at p;exact p
  | ct ρ' st'=>rw[e] at p;exact p
  | err c ρ' st'=>rw[e] at p;exact p
  | bad=>rw[e] at p;exact p)
theorem Fy{s:Stmt}{g:GS}(h1:JS X s g):mE X [s] g:=mE.of (ET HF) λρ st σ H m D S R p=>h1 ρ st σ H m D S R p
def cC(g:GE):GS:=λρ st=>(g ρ st).bH ρ λw st'=> .rt w st'
theorem Kx{e:Expr}{g:GE}{pos:Pos}(h:JE X e g):JS X (.Return (some e) pos) (cC g) :=
 JS.of (Jg aU) λρ st σ H m D S R p=>h.go S R (aK.dO R p) λw st1 v m1 H1 q e1 S1 r1=>q v m1 H1 e1 S1 r1
theorem Fz{pos:Pos}:JS X (.Pass pos) dH:=JS.of EU λρ st σ H m D S R p=>p σ m H Ext.refl S R
def ng(g:GE):GS:=λρ st=>(g ρ st).bH ρ λ_ st'=> .nx ρ st'
theorem FA{e:Expr}{g:GE}{pos:Pos}(h:JE X e g)(hs:swapsWith e none pos.line X.env=pure false:=by rfl):JS X (.Expr e pos) (ng g) :=
 JS.of (EV aU hs) λρ st σ H m D S R p=>h.go S R (aK.dO R p) λw st1 v m1 H1 q e1 S1 r1=>q σ m1 H1 e1 S1 (R.mono e1)
def rh(gt:GT)(ga gb:GS):GS:=λρ st=>(gt ρ st).bH ρ λb st'=>if b=true then ga ρ st' else gb ρ st'
theorem Ov{c:Expr}{a b:List Stmt}{gt:GT}{ga gb:GS}{pos:Pos}(hc:JT X c gt)(ha:mE X a ga)(hb:mE X b gb):JS X (.If c a b pos) (rh gt ga gb) :=
 JS.of (Nr o_ gK gK) λρ st σ H m D S R p=>hc.go S R (aK.dO R p) λk st1 m1 H1 q e1 S1=>by
  cases k with
  | true=>rw[if_pos rfl] at q ⊢;exact ha ρ st1 σ H1 m1 D S1 (R.mono e1) (aK.shift q e1)
  | false=>rw[if_neg cw] at q ⊢;exact hb ρ st1 σ H1 m1 D S1 (R.mono e1) (aK.shift q e1)
def bQ(i:Nat)(g:GE):GS:=λρ st=>(g ρ st).bH ρ λw st'=> .nx (ρ.set i (some w)) st'
theorem wL(i:Nat){x:Str}{e:Expr}{g:GE}{pos pos':Pos}(hN:X.N.Nodup)(h:JE X e g)(hi:X.N[i]? =some x:=by rfl)(hx:Loc X.env.scope x:=by first | exact Or.inl rfl | exact jJ rfl)(hs:swapsWith e (some (.Name x pos')) pos.line X.env=pure false:=by rfl)
  (hf:X.fn x=true\/X.env.scope.names.lookup x=some .local:=by first | exact .inl rfl | exact .inr rfl | assumption):JS X (.Assign [.Name x pos'] e pos) (bQ i g) :=
 JS.of (Jk hN hi hx aU hs hf) λρ st σ H m D S R p=>h.go S R (aK.dO R p) λw st1 v m1 H1 q e1 S1 r1=>q _ m1 H1 e1 S1 ((R.mono e1).set i r1)
def cD:GS:=λ_ _=> .bad
theorem bN{s:Stmt}:JS X s cD:=JS.of Bk λρ st σ H m D S R p=>p
theorem zR{s:List Stmt}:mE X s cD:=mE.of zv λρ st σ H m D S R p=>p
def Ky(o i v:Wv)(ρ:bA)(st:Hs):Rs:=match o,i with
 | .ref l,.int k=>match st[l]? with
  | some (.lst ws)=>(match zI ws.length k with | some j=> .nx ρ (st.set l (.lst (ws.set j v))) | none=> .bad)
  | _=> .bad
 | _,_=> .bad
def nh(ge go gi:GE):GS:=λρ st=>(ge ρ st).bH ρ λv st1=>(go ρ st1).bH ρ λo st2=>(gi ρ st2).bH ρ λi st3=>Ky o i v ρ st3
theorem FC{o i e:Expr}{go gi ge:GE}{pos pos':Pos}(he:JE X e ge)(ho:JE X o go)(hi:JE X i gi)(hs:swapsWithSole [.Subscript o i pos'] e pos.line X.env=pure false:=by rfl)(hw:swappedStores [.Subscript o i pos'] e X.env=pure none:=by rfl)
  (h1:(assignEach [.Subscript o i pos'] X.env).map (·.2)=[assign (.Subscript o i pos') X.env]:=by rfl)
  (ha:∀v,assign (.Subscript o i pos') X.env v=(do
   let ov <-holding [v] (eval o X.env)
   let iv <-holding [v,ov] (eval i X.env)
   standAt pos'
   holding [v,ov,iv] (setItem ov iv v)
   release [v,ov,iv] []):=by intro _;rfl):JS X (.Assign [.Subscript o i pos'] e pos) (nh ge go gi):=by
 refine JS.of (Jj aU (Ji aU aU set_list ha) hs hw h1) λρ st σ H m D S R p=>?_
 refine he.go S R (aK.dO R p) λv st1 vv m1 H1 p1 e1 S1 rv=>?_
 refine ho.go S1 (R.mono e1) ((aK.dO (m:=m) (H:=H) R p1).imp e1 λ_ _ q=>q) λo' st2 ov m2 H2 p2 e2 S2 ro=>?_
 refine hi.go S2 (R.mono (e1.trans e2)) ((aK.dO (m:=m) (H:=H) R p2).imp (e1.trans e2) λ_ _ q=>q) λi' st3 iv m3 H3 p3 e3 S3 ri=>?_
 have ED:=e1.trans (e2.trans e3)
 cases o' with
 | ref l=>
  cases i' with
  | int k=>
   have nP:aK X m H (match st3[l]? with | some (.lst ws)=>(match zI ws.length k with | some j=> .nx ρ (st3.set l (.lst (ws.set j v))) | none=> .bad) | _=> .bad) D:=p3
   have UY:=aj.mono e3 _ _ ro
   unfold aj at UY
   obtain⟨a,rfl,f1⟩:=UY
   cases e:st3[l]? with
   | none=>rw[e] at nP;exact aa nP
   | some ob=>
    cases ob with
    | dct kvs=>rw[e] at nP;exact aa nP
    | BF kvs=>rw[e] at nP;exact aa nP
    | BG kvs=>rw[e] at nP;exact aa nP
    | nZ ns=>rw[e] at nP;exact aa nP
    | lst ws=>
     rw[e] at nP
     cases ej:zI ws.length k with
     | none=>simp only[ej] at nP;exact aa nP
     | some j=>
      simp only[ej] at nP
      obtain⟨xs,g1,g2⟩:=S3.rb f1 e
      refine⟨a,xs,k,j,rfl,a6 ri,g1,by rw[<-g2.length];exact ej,?_⟩
      have Ww:=aj.mono (e2.trans e3) _ _ rv
      have e4:Ext X.K m3 H3 m3 (upd H3 a (.lst (xs.set j vv))):=Ext.upd (.inr ⟨xs,g1⟩)
      exact nP σ m3 _ (ED.trans e4) (S3.write f1 e (g2.set j Ww)) (R.mono (ED.trans e4))
  | _=>exact aa p3
 | _=>cases i'<;>exact aa p3
open Classical in
def forL(i:Nat)(gb:GS)(l:Nat)(all:List Wv):List Wv->bA->Hs->Rs
 | [],ρ,st=> .nx ρ st
 | w::r,ρ,st=>match gb (ρ.set i (some w)) st with
  | .nx ρ' st'=>if ai st' l=some all then forL i gb l all r ρ' st' else .bad
  | .ct ρ' st'=>if ai st' l=some all then forL i gb l all r ρ' st' else .bad
  | .bk ρ' st'=> .nx ρ' st'
  | .rt w st'=> .rt w st'
  | .err c ρ' st'=> .err c ρ' st'
  | .bad=> .bad
end
def CXJ(P:Zo)(w:Zr):A7:=λouter H s E e s'=>∃H' C,uD P w outer H s H' (.ref C) e s'/\E (.ref C) none H'
section
variable {X:Cx} {pins:List (Zk×Obj)} {σ:St} {Hc H':Hp} {sc s':Zp} {cls e:Zq} {E:Zq->Zp->Prop} {Q:Unit->Zp->Prop}
theorem old_ne(I:Inv X pins σ Hc sc){b:Zk}{o:Obj}(q:X.s₀.heap.get? b=some o):b≠X.env.locals:=λz=>by
 have h1:=ax q
 have h2:=I.ok.above
 rw[z] at h1
 exact absurd (aM h1 h2) (bX _)
theorem FD(I:Inv X pins σ Hc sc)(hst:X.stack=X.env::X.outer)(hf:X.env.frame=some X.env.locals){b:Zk}{o:Obj}(q:X.s₀.heap.get? b=some o)(hb:b∉frs X.outer):b∉frs X.stack:=λz=>by
 rw[hst] at z
 unfold frs at z
 rw[r_,hf] at z
 rcases List.mem_cons.mp z with z | z
 ·exact old_ne I q z
 ·exact hb z
theorem B3(hst:X.stack=X.env::X.outer)(hf:X.env.frame=some X.env.locals){b:Zk}(hb:b∈frs X.outer):b∈frs X.stack:=by
 rw[hst]
 unfold frs
 rw[r_,hf]
 exact aD _ hb
theorem pd{M:Model}{A:Zl}{E:Zq->Zp->Prop}{s:Zp}{base:Heap}{env:Env}{outer:List Env}{L e:Zk}{cls a0 nt:Zq}{Q:Unit->Zp->Prop}(hfr:A.frames=some (env::outer))(hf:env.frame=some L)
  (x:base.StaysIn s.heap/\base.get? e=none/\s.heap.FunFrames base (env::outer)/\NY s.heap base e cls a0 nt)(k:∀h',xY base (env::outer) e cls a0 L h'->s.heap.UpToSlots h'->Q () { s with heap:=h' }) :
  ZG M A (noteFrame (.ref e) env) Q E s:=by
 obtain⟨x1,x2,x3,x4⟩:=x
 by_cases z:nt=rawInt L
 ·subst z
  exact J4 hf x4 (k s.heap ⟨x1,x2,x3,x4⟩ (Kz _))
 ·obtain⟨ox,us,T,ot,ws,g1,⟨g2,g3⟩,g4,g5,g6,g7,g8,g9,RE⟩:=x4
  subst g2
  have apart:∀b,b≠T->(s.heap.update T (eS (·.setIfInBounds 3 bC))).get? b=s.heap.get? b:=λb hb=>my _ _ (bg hb)
  have plain:∀b o,s.heap.get? b=some o->(∀vs,o.data≠.fields vs)->b≠T:=λb o hb hd q=>by
   subst q
   rw[g8] at hb
   cases hb
   exact hd ws g9
  unfold noteFrame
  simp only[hf]
  refine ZH (wpAny_field g1 g4 g5 ?_)
  rw[if_pos (show(cV T != bC)=true from by simp)]
  refine ZH (wpAny_field g8 g9 RE ?_)
  rw[if_neg (show ¬((nt == rawInt L)=true) from by simpa using z)]
  refine ZH (wpAny_setField g8 g9 (Array.getElem?_eq_some_iff.mp RE).1 ?_)
  refine BE (a0:=a0) hfr (x3.of_keeps λb o hb hd=>⟨o,(apart b (plain b o hb hd)).trans hb,rfl⟩) hf ((apart e (bg g7)).trans g1) (λb o hb=>(apart b λq=>by rw[q,g6] at hb;cases hb).trans (x1 b o hb)) x2 g4 (Array.getElem?_eq_some_iff.mp g5).1 g3 λh' y y4=>?_
  exact k h' y λb o hb hd=>y4 b o ((apart b (plain b o hb hd)).trans hb) hd
theorem mG{M:Model}{A:Zl}{E:Zq->Zp->Prop}{s:Zp}{base h:Heap}{env:Env}{outer:List Env}{L a:Zk}{cls:Zq}{args:List Zq}{Q:Unit->Zp->Prop}(hfr:A.frames=some (env::outer))(hf:env.frame=some L)
  (st:base.StaysIn h)(fs:h.FunFrames base (env::outer))(mk:sL h s.heap a cls args)(k:∀h' a0,xY base (env::outer) a cls a0 L h'->s.heap.UpToSlots h'->Q () { s with heap:=h' }) :
  ZG M A (noteFrame (.ref a) env) Q E s:=by
 obtain⟨t,e1,e2,e3⟩:=mk.there
 have fresh:∀b,h.get? b=none->base.get? b=none:=λb hb=>by
  cases q:base.get? b with
  | none=>rfl
  | some o'=>have z:=st b o' q;rw[hb] at z;cases z
 have fs':=fs.of_keeps (h':=s.heap) λb o hb _=>⟨o,mk.keeps b o hb,rfl⟩
 unfold noteFrame
 simp only[hf]
 refine ZH (wpAny_field e1 rfl (x:=.none) rfl ?_)
 rw[if_neg (by decide)]
 exact BE hfr fs' hf e1 (λb o hb=>mk.keeps b o (st b o hb)) (fresh a mk.new) rfl (by simp) (a0:=.ref t) rfl λh' l1 l4=>k h' (.ref t) l1 l4
theorem B4{ch:List Zk}(hx:X.ex=[])(hst:X.stack=X.env::X.outer)(hf:X.env.frame=some X.env.locals)(I:Inv X pins σ Hc sc){B h2:Heap}(hch:∀b∈ch,cG X pins Hc b)(un:Un (frs X.stack) ch Hc H' sc.heap s'.heap)(up:s'.heap.UpToSlots h2)(stay:B.StaysIn h2)
  (n4:∀b o,sc.heap.get? b=some o->b∉frs X.stack->b∉ch->∃o',B.get? b=some o'/\(Hc b=none->o'=o)) :
  Un (frs X.outer) [] X.H₀ H' X.s₀.heap h2/\(∀b o,X.s₀.heap.get? b=some o->b∉frs X.outer->∃o',B.get? b=some o'/\(X.H₀ b=none->o'=o)):=by
 have nx:∀b:Zk,b∉X.ex:=λb=>by rw[hx];simp
 have nc:∀b o,X.s₀.heap.get? b=some o->b∉ch:=λb o q z=>by
  rcases(hch b z).2.2.2.1 with y | y
  ·exact nx b y
  ·exact absurd (aM (ax q) y) (bX _)
 have KA:∀b o,X.s₀.heap.get? b=some o->b∉frs X.outer->∃o',B.get? b=some o'/\(X.H₀ b=none->o'=o):=λb o q hb=>by
  obtain⟨o1,q1⟩:=I.base.there b o q (nx b)
  obtain⟨o2,q2,q3⟩:=n4 b o1 q1 (FD I hst hf q hb) (nc b o q)
  refine⟨o2,q2,λn=>?_⟩
  have q4:=I.base.keep b o q n hb (nx b)
  rw[q4] at q1
  cases q1
  exact q3 (I.base.free b o q n (nx b))
 have sl:∀b o,X.s₀.heap.get? b=some o->X.H₀ b=none->b∈frs X.outer->∃sl,h2.get? b=some { o with slots:=sl }:=λb o q n hb=>by
  obtain⟨s1,q1⟩:=I.base.slot b o q n hb (nx b)
  obtain⟨s2,q2⟩:=un.slot b _ q1 (I.base.free b o q n (nx b)) (B3 hst hf hb) (nc b o q)
  obtain⟨_,o3,q3,q4⟩:=I.ok.jh.mem hb
  rw[q] at q3
  cases q3
  obtain⟨s3,q5⟩:=up b _ q2 q4
  exact⟨s3,q5⟩
 refine⟨⟨λb o q n hb _=>?_,λb o q n hb _=>sl b o q n hb,λb o q n _=>?_,λb o q _=>?_,λb xs h=>un.tups b xs (I.base.tups b xs h),λb o u h=>un.iI b o u (I.base.iI b o u h),λb ps h=>?_⟩,KA⟩
 ·obtain⟨o2,q2,q3⟩:=KA b o q hb
  rw[q3 n] at q2
  exact stay b o q2
 ·obtain⟨o1,q1⟩:=I.base.there b o q (nx b)
  exact un.free b o1 q1 (I.base.free b o q n (nx b)) (nc b o q)
 ·by_cases hb:b∈frs X.outer
  ·obtain⟨s3,q3⟩:=sl b o q (I.ok.EA b hb) hb
   exact⟨_,q3⟩
  ·obtain⟨o2,q2,_⟩:=KA b o q hb
   exact⟨o2,stay b o2 q2⟩
 ·obtain⟨m1,t1⟩:=I.base.ja b ps h
  obtain⟨m2,t2⟩:=un.ja b _ t1
  exact⟨m1++m2,by rw[<-Array.append_assoc];exact t2⟩
theorem ni(hx:X.ex=[])(hst:X.stack=X.env::X.outer)(hf:X.env.frame=some X.env.locals)(I:Inv X pins σ Hc sc)(F:jm X pins Hc sc H' cls e s')
  (k:∀s2,uD X.prog X.w X.outer X.H₀ X.s₀ H' cls e s2->Q () s2):ZG (model X.prog X.w) X.A (leaving X.env e) Q E s':=by
 obtain⟨a,a0,nt,B,ch,rfl,os,bare,hch,un,hok,fl,n4⟩:=F
 have hfr:X.A.frames=some (X.env::X.outer):=by rw[I.ok.frames,hst]
 rw[hst] at fl
 unfold leaving
 refine ZH (pd hfr hf fl λh1 hd1 up1=>?_)
 refine uB hd1 λh2 vX Ow=>k _ ?_
 obtain⟨k1,k2,⟨_,_,k3⟩,k4⟩:=vX
 obtain⟨u2,c2⟩:=B4 hx hst hf I hch un (up1.trans Ow) k1 n4
 exact⟨a,a0,B,rfl,os.trans I.os,bare,u2,hok,⟨k1,k2,k3,k4⟩,c2⟩
theorem lE{P:Zo}{w:Zr}{H:Hp}{h:Heap}{l:List Zk}(ok:j9 P w H h)(fr:∀b∈l,H b=none):j9 P w H (PySem.W.hideAll h l):=λa o q=>
 (ok a o q).stay (λb u hb r=>PySem.W.hideAll_get _ r λz=>by
  have n:=fr b z
  rcases hb with hb | hb
  ·rw[hb,q] at n;cases n
  ·rw[hb] at n;cases n) (λ_ r=>r) λ_ _ r=>r
theorem pe{a C:Zk}{args:List Zq}(hx:X.ex=[])(hst:X.stack=X.env::X.outer)(hf:X.env.frame=some X.env.locals)(I:Inv X pins σ Hc sc)(ho:s'.os=sc.os)(Wx:s'.gens=sc.gens)
  (M:sL sc.heap s'.heap a (.ref C) args)(k:∀s2,uD X.prog X.w X.outer X.H₀ X.s₀ Hc (.ref C) (.ref a) s2->Q () s2):ZG (model X.prog X.w) X.A (leaving X.env (.ref a)) Q E s':=by
 have hfr:X.A.frames=some (X.env::X.outer):=by rw[I.ok.frames,hst]
 have fs:sc.heap.FunFrames (PySem.W.hideAll sc.heap (frs X.stack)) (X.env::X.outer):=by
  rw[<-hst]
  exact PySem.W.funFrames_hide I.stack λenv he b hb=>List.mem_filterMap.mpr ⟨env,he,hb⟩
 unfold leaving
 refine ZH (mG (base:=PySem.W.hideAll sc.heap (frs X.stack)) hfr hf (λb o q=>PySem.W.of_hideAll _ q) fs M λh1 t hd1 up1=>?_)
 refine uB hd1 λh2 vX Ow=>k _ ?_
 have up:=up1.trans Ow
 replace vX:sI (PySem.W.hideAll sc.heap (frs X.stack)) X.outer a (.ref C) t h2:=let ⟨k1,k2,⟨_,_,k3⟩,k4⟩:=vX;⟨k1,k2,k3,k4⟩
 obtain⟨u2,c2⟩:=B4 (H':=Hc) (s':=s') (ch:=[]) hx hst hf I (λb z=>by cases z) (Un.kept M.keeps) up vX.1 λb o q hb _=>⟨o,PySem.W.hideAll_get _ q hb,λ_=>rfl⟩
 exact⟨a,t,_,rfl,ho.trans I.os,by rw[show({ s' with heap:=h2 }:Zp).gens=sc.gens from Wx];exact I.bare,u2,lE I.hok I.gH,vX,c2⟩
end
def B5(K:PySem.W.Frag)(m:Mp)(H:Hp)(r:Re Wv)(Q:VK)(E:XK):Prop:=match r with
 | .ok w st=>BM K m H Q w st
 | .err c st=>∀(m':Mp)(H':Hp)(C:Zk),Ext K m H m' H'->aQ K m' st H'->ClsAt K c C->E (.ref C) none H'
 | .bad=>False
def spW(K:PySem.W.Frag)(n:Nat)(F:List Wv->Hs->Re Wv):Sp:=λvs H Q E=>∃m st ws,aQ K m st H/\af K m H ws vs/\ws.length=n/\B5 K m H (F ws st) Q E
def bV(n:Nat)(F:List Wv->Hs->Re Wv)(g:GA):GE:=λρ st=>(g ρ st).bind λws st1=>if ws.length=n then F ws st1 else .bad
section
variable {X:Cx}
theorem FE{k n:Nat}{f:Zk}{fd:Zm}{ps:List Str}{F:List Wv->Hs->Re Wv}{x:Str}{p pos:Pos}{e:Expr}{es:List Expr}{g:GA}
  (G:FnOk X.prog X.w X.K X.mg X.base (CXJ X.prog X.w) k f fd ps (spW X.K n F))(hr:dD k X.A)(hm:X.mg x=some (.ref f))(hk:PySem.W.keepIn X.K (.ref f)=true)(hb:Binds X.K fd ps [])(ha:JA X (e::es) g)(hg:Gl X x:=by rfl)
  (hdb:(x == ("__debug__":Str))=false:=by decide)(he:ZF (e::es) X.env=(false,eval e X.env)::ZF es X.env:=by rfl)(hpl:(backTo pos (ZF es X.env)).any (·.1)=false:=by rfl) :
  JE X (.Call (.Name x p) (e::es) [] pos) (bV n F g):=by
 intro ρ st σ H m Q S R p pins s I
 have args:=ha.go (T:=λvs H1=>∃ws st1 m1,dg X σ m H (if ws.length=n then F ws st1 else .bad) Q/\Ext X.K m H m1 H1/\aQ X.K m1 st1 H1/\af X.K m1 H1 ws vs) S R (au.bind p)
  λws st1 vs m1 H1 p1 e1 S1 rs=>⟨ws,st1,m1,p1,e1,S1,rs⟩
 refine wpAny_Call_Name_kw (nU I hg hm ?_ hdb)
 refine PySem.W.callWith_K (h₀:=X.base) I.ok.mod.EM hk (bH (args pos pins s I) λus s1 ⟨vs,H1,I1,r,ws,st1,m1,p1,e1,S1,rs⟩=>⟨I1.zt,?_⟩) he hpl
 by_cases c:ws.length=n
 ·rw[if_pos c] at p1
  let E:XK:=λcl _ H2=>∃c' st2 m2 C,cl= .ref C/\ClsAt X.K c' C/\F ws st1= .err c' st2/\Ext X.K m1 H1 m2 H2/\aQ X.K m2 st2 H2
  have sp:spW X.K n F vs H1 Q E:=by
   refine⟨m1,st1,ws,S1,rs,c,?_⟩
   cases er:F ws st1 with
   | ok w st2=>rw[er] at p1;exact dg.shift (r:=.ok w st2) p1 e1
   | err c' st2=>exact λm2 H2 C e2 S2 hC=>⟨c',st2,m2,C,rfl,hC,er,e2,S2⟩
   | bad=>rw[er] at p1;exact aa p1
  have hl:us.length=ps.length:=by rw[<-r.length];exact G.len _ _ _ _ sp
  have bd:=hb s1 us I1.zt (by rw[hX];exact hl)
  rw[hX] at bd
  refine wpAny_call (codeAny_mono (G.run X.A X.stack s1 H1 ⟨us,[]⟩ us vs Q E hr I1.Jz bd r sp) λrr s2 hq=>?_)
  cases rr with
  | error x=>
   obtain⟨H2,C,fl,c',st2,m2,C',ec,hC,er,e2,S2⟩:=hq
   cases ec
   rw[er] at p1
   exact p1 m2 H2 x s2 (e1.trans e2) S2 ⟨C,pins,H1,s1,hC,I1,.inl fl.any⟩
  | ok fw=>
   cases fw with
   | ret u=>exact I1.after hq
   | next=>exact aa hq
   | brk=>exact aa hq
   | cont=>exact aa hq
 ·rw[if_neg c] at p1;exact aa p1
end
def mH(n:Nat)(g:GS):List Wv->Hs->Re Wv:=λws st=>match g (ws.map some++aG (n - ws.length) none) st with
 | .nx _ st'=> .ok .aP st'
 | .rt w st'=> .ok w st'
 | .err c _ st'=> .err c st'
 | _=> .bad
theorem B6{K:PySem.W.Frag}{m:Mp}{H:Hp}{N:List Str}{ws:List Wv}{vs:List V}(r:af K m H ws vs)(h:ws.length<=N.length):av K m H (ws.map some++aG (N.length - ws.length) none) (L2.start N vs):=by
 have hl:=r.length
 refine⟨by unfold L2.start;simp[hl],λi w e=>?_⟩
 by_cases hi:i < ws.length
 ·rw[dj (by simpa using hi),ie] at e
  cases q:ws[i]? with
  | none=>rw[q] at e;cases e
  | some w'=>
   rw[q] at e
   cases e
   obtain⟨x,h1,h2⟩:=r.get q
   refine⟨x,?_,h2⟩
   unfold L2.start
   rw[dj (by simp;omega),ie,h1]
   rfl
 ·rw[ic (by simpa using hi),sm] at e
  split at e<;>cases e
section
variable {P:Zo} {w:Zr} {K:PySem.W.Frag} {mg:Str->Option Zq} {base:Heap}
theorem wM{N:List Str}{qual:Str}{scope:Scope}{f:Zk}{cdv:Zq}{A:Zl}{outer:List Env}{s s':Zp}{H H':Hp}{E:XK}{σ:St}{c:PySem.Str}{e:Zq}
  (r:kE (qy (CXJ P w) P w K mg base N qual scope f cdv A outer s H E) σ H' c e s')(h:∀C,ClsAt K c C->E (.ref C) none H'):(qy (CXJ P w) P w K mg base N qual scope f cdv A outer s H E).xe e s':=by
 obtain⟨C,pins,Hc,sc,hC,I,r⟩:=r
 rcases r with fl | ⟨rfl,a,args,rfl,ho,hg,M⟩
 ·exact ni (X:=qy (CXJ P w) P w K mg base N qual scope f cdv A outer s H E) rfl rfl rfl I fl λs2 vX=>⟨H',C,vX,h C hC⟩
 ·exact pe (X:=qy (CXJ P w) P w K mg base N qual scope f cdv A outer s H E) rfl rfl rfl I ho hg M λs2 vX=>⟨H',C,vX,h C hC⟩
def B7(K:PySem.W.Frag)(f:Zk)(cdv:Zq):Prop:=∃o,K.lookup f=some o/\∃fd,o.data= .func fd/\fd.code=cdv
theorem HP{x qual:Str}{st:Stmt}{f:Zk}{fd:Zm}{N ps:List Str}{k:Nat}{g:GS}(F:J0 K x qual st f fd)(S:FnScope N ps (defScope st))
  (body:∀(cdv:Zq),B7 K f cdv->∀(A:Zl)(outer:List Env)(s:Zp)(H:Hp)(E:XK),dD k (A.deeper (envOfC qual (defScope st) s.heap.objs.size f cdv))->mE (qy (CXJ P w) P w K mg base N qual (defScope st) f cdv A outer s H E) (defBody st) g) :
  FnOk P w K mg base (CXJ P w) (k+1) f fd ps (spW K ps.length (mH N.length g)):=by
 have hpl:ps.length<=N.length:=by have:=congrArg wj S.pre;rw[h_] at this;omega
 obtain⟨oc,od,kV,doc,pm,an,cdv,ct,osl,rfl,lk,hcd⟩:=F.ex
 refine NL lk hcd S (λvs H Q E h=>?_) λA outer s H vs Q E hr h=>?_
 ·obtain⟨m,st',ws,_,r,hl,_⟩:=h
  rw[<-r.length];exact hl
 ·obtain⟨m,st',ws,S',r,hl,p⟩:=h
  refine⟨_,gK,?_⟩
  refine body cdv ⟨_,lk,_,rfl,rfl⟩ A outer s H E hr _ st' _ H m _ S' (B6 r (by omega)) ?_
  unfold mH at p
  cases e:g (ws.map some++aG (N.length - ws.length) none) st' with
  | nx ρ st2=>rw[e] at p;exact λσ m' H' e' S2 R2=>p _ m' H' e' S2 (by unfold aj;rfl)
  | rt w' st2=>rw[e] at p;exact p
  | bk ρ st2=>rw[e] at p;exact aa p
  | ct ρ st2=>rw[e] at p;exact aa p
  | err c ρ st2=>rw[e] at p;exact λσ m' H' x s' e' S2 R2 rz=>wM rz λC hC=>p m' H' C e' S2 hC
  | bad=>rw[e] at p;exact aa p
end
def yc(H:Hp):Prop:=∀b,H b=none\/(∃o xs,H b=some (.fu o (.lst xs)))\/H b=some (.jf #[])
theorem law_sp{K:PySem.W.Frag}{F:List Wv->Hs->Re Wv}(h:∀ns:List Int,ns.length<=63->∃st,F [.ref 0] [.nZ ns]= .ok (.bl true) st)(H:Hp)(a:Zk)(ns:List Int)(hl:ns.length<=63)(hO:yc H)(hS:fB K H a (ns.map V.int))(hT:kD K H) :
  spW K 1 F [.ref a] H (λv _=>v= .bl true) λ_ _ _=>False:=by
 obtain⟨st,e⟩:=h ns hl
 refine⟨[a],[.nZ ns],[.ref 0],⟨rfl,λl b o h1 h2=>?_,λl l' b ws YD _ _ h2 _ k _=>?_,hT⟩,af.cons (by unfold aj;exact⟨a,rfl,rfl⟩) af.nil,rfl,?_⟩
 ·cases l with
  | zero=>
   simp at h1 h2
   subst h1 h2
   show uC K H a ns
   rcases hS with (q | ⟨o',q⟩) | q
   ·rcases hO a with z | ⟨o',xs,z⟩ | z
    ·rw[z] at q;cases q
    ·rw[z] at q;cases q
    ·rw[z] at q;cases q
   ·exact .inl ⟨o',q⟩
   ·exact .inr q
  | succ l=>simp at h1
 ·cases l with
  | zero=>simp at h2;subst h2;simp[Ob.mu] at k
  | succ l=>simp at h2
 ·rw[e]
  intro v m' H' _ _ r
  unfold aj at r
  exact r
def KC(w:Wv)(st:Hs):Re Bool:=match w with
 | .aP=> .ok false st
 | .bl b=> .ok b st
 | .int i=> .ok (i != 0) st
 | .str y=>if y.length<=lim then .ok ((y.length:Int) != 0) st else .bad
 | .tup ws=> .ok (!ws.isEmpty) st
 | .oY _=> .bad
 | .ref l=>match ai st l with
  | some ws=> .ok (!ws.isEmpty) st
  | none=> .bad
 | .ty _=> .bad
 | .cls _=> .bad
 | .lC _=> .bad
 | .fn _ _=> .bad
def nQ(g:GE):GT:=λρ st=>(g ρ st).bind KC
section
variable {X:Cx}
theorem UZ{m:Mp}{H:Hp}{ws:List Wv}{xs:List V}(r:af X.K m H ws xs):(!ws.isEmpty)= !xs.isEmpty:=by
 have h:=r.length
 cases ws<;>cases xs<;>simp_all
theorem pf{e:Expr}{g:GE}(h:JE X e g)(he:∀whole,isTrue e X.env whole=(do let v <-whole;standAt e.pos;holding [v] (truthy v))):JT X e (nQ g) :=
 JT.of (Bp aU he) λρ st σ H m Q S R p=>h.go S R (au.bind p) λw st1 v m1 H1 p1 e1 S1 r1=>by
  cases w with
  | aP=>unfold aj at r1;subst r1;exact⟨false,rfl,p1 m1 H1 e1 S1⟩
  | bl b=>unfold aj at r1;subst r1;exact⟨b,rfl,p1 m1 H1 e1 S1⟩
  | int i=>unfold aj at r1;subst r1;exact⟨_,rfl,p1 m1 H1 e1 S1⟩
  | str y=>
   obtain⟨rfl,_⟩:=dP r1
   have p2:iD X σ m H (if y.length<=lim then .ok ((y.length:Int) != 0) st1 else .bad) Q:=p1
   by_cases c:y.length<=lim
   ·rw[if_pos c] at p2;exact⟨_,⟨eI c,rfl⟩,p2 m1 H1 e1 S1⟩
   ·rw[if_neg c] at p2;exact aa p2
  | oY ws=>exact aa p1
  | tup ws=>
   unfold aj at r1
   obtain⟨a,xs,rfl,h1,h2⟩:=r1
   refine⟨!xs.isEmpty,.inr (.inl ⟨xs,dh.of h1,rfl⟩),?_⟩
   rw[<-UZ h2]
   exact p1 m1 H1 e1 S1
  | ref l=>
   unfold aj at r1
   obtain⟨a,rfl,h1⟩:=r1
   have p2:iD X σ m H (match ai st1 l with | some ws=> .ok (!ws.isEmpty) st1 | none=> .bad) Q:=p1
   cases el:ai st1 l with
   | none=>rw[el] at p2;exact aa p2
   | some ws=>
    rw[el] at p2
    obtain⟨xs,hq,h2⟩:=S1.read h1 el
    refine⟨!xs.isEmpty,.inl ⟨xs,hq,rfl⟩,?_⟩
    rw[<-UZ h2]
    exact p2 m1 H1 e1 S1
  | ty T=>exact aa p1
  | cls T=>exact aa p1
  | lC T=>exact aa p1
  | fn fp T=>exact aa p1
theorem uH{p:Nat->Bool}{x:Array Nat}(hx:x.all p=true):∀(n:Nat)(a:Array Nat),a.all p=true->((aG n x).foldl (· ++·) a).all p=true
 | 0,a,h=>h
 | n+1,a,h=>by
  rw[gJ,By]
  refine uH hx n _ ?_
  rw[Array.all_append,h,hx]
  rfl
theorem zS{x:PySem.Str}{n:Nat}(h:aO x=true):aO (qG n x)=true:=by
 unfold aO at h ⊢
 unfold qG
 exact uH h n #[] (by simp)
theorem rj{x:Array Nat}:∀(n:Nat)(a:Array Nat),((aG n x).foldl (· ++·) a).size=a.size+x.size * n
 | 0,a=>by simp
 | n+1,a=>by
  rw[gJ,By,rj n,Array.size_append,Nat.mul_succ]
  omega
theorem B8{x:PySem.Str}{n:Nat}:(qG n x).length=x.length * n:=by
 show((aG n x.cps).foldl (· ++·) #[]).size=x.cps.size * n
 rw[rj]
 simp
def nj(x:PySem.Str)(n:Int):Prop:=1 < n/\n<=100000/\x.length≠0/\x.length * n.toNat<=lim
instance {x n}:Decidable (nj x n):=by unfold nj;infer_instance
theorem FF:dN X (Zt .Mult) (λx y H Q=>∃z n,x= .str z/\y= .int n/\nj z n/\Q (.str (qG n.toNat z)) H):=by
 intro pins s σ H x y v u Q I rx ry h
 obtain⟨z,n,rfl,rfl,⟨h1,h2,h3,h4⟩,q⟩:=h
 obtain⟨t,rfl⟩:=rx
 obtain⟨t',rfl⟩:=ry
 have n1:¬n < 1:=by omega
 have hlen:z.length<=lim:=by
  refine bE ?_ h4
  exact Nat.le_mul_of_pos_right _ (by omega)
 have hne:(n == 1||z.length == 0)=false:=by
  have e1:(n == 1)=false:=by rw[beq_eq_false_iff_ne];omega
  have e2:(z.length == 0)=false:=by rw[beq_eq_false_iff_ne];exact h3
  rw[e1,e2];rfl
 have hl:PySem.Builtin.Str.tooLong (z.length * n.toNat)=false:=by
  unfold PySem.Builtin.Str.tooLong
  have q:=eI h4
  first
   | exact decide_eq_false (by omega)
   | simp only[decide_eq_false_iff_not];omega
 refine PySem.P.mul_str (by
   have e1:¬n < -(2 ^ 63:Int):=by omega
   have e2:¬n >= 2 ^ 63:=by omega
   rw[decide_eq_false e1,decide_eq_false e2];rfl) (λ_ _=>?_) (λ_ _=>hl) ?_
 ·have e:((2:Int) ^ 63 - 1) / 100000<=(2 ^ 63 - 1) / n:=by
   refine Int.le_ediv_of_mul_le (by omega) ?_
   have:((2:Int) ^ 63 - 1) / 100000 * n<=((2:Int) ^ 63 - 1) / 100000 * 100000:=Int.mul_le_mul_of_nonneg_left h2 (by decide)
   exact Int.le_trans this (by decide)
  have e':(1000000:Int)<=(2 ^ 63 - 1) / 100000:=by decide
  unfold lim at hlen
  omega
 ·rw[if_neg n1,if_neg (by rw[hne];exact cw)]
  exact⟨by show(qG n.toNat z).length<=_;rw[B8];exact eI h4,.str (qG n.toNat z),H,I.tok _,⟨_,rfl⟩,q⟩
def HQ:gv
 | .int i,.int j,st=>if IntMulOk i j then .ok (.int (i * j)) st else .bad
 | .str z,.int n,st=>if nj z n then .ok (.str (qG n.toNat z)) st else .bad
 | _,_,_=> .bad
theorem FG:jK X (Zt .Mult) HQ:=⟨_,dN.or Fn FF,λx y a b st H m Q S rx ry p=>by
 cases x with
 | int i=>
  cases y with
  | int j=>
   cases a6 rx;cases a6 ry
   have p':cb X.K m H (if IntMulOk i j then .ok (.int (i * j)) st else .bad) Q:=p
   by_cases c:IntMulOk i j
   ·rw[if_pos c] at p';exact .inl ⟨i,j,rfl,rfl,c,p' _ m H Ext.refl S mkInt⟩
   ·rw[if_neg c] at p';exact aa p'
  | _=>exact aa p
 | str z=>
  cases y with
  | int n=>
   obtain⟨rfl,hz⟩:=dP rx
   cases a6 ry
   have p':cb X.K m H (if nj z n then .ok (.str (qG n.toNat z)) st else .bad) Q:=p
   by_cases c:nj z n
   ·rw[if_pos c] at p';exact .inr ⟨z,n,rfl,rfl,c,p' _ m H Ext.refl S (mkStr (zS hz))⟩
   ·rw[if_neg c] at p';exact aa p'
  | _=>exact aa p
 | _=>exact aa p⟩
def bI:GE:=λ_ _=> .bad
def lF:GT:=λ_ _=> .bad
theorem aA{e:Expr}:JE X e bI:=λρ st σ H m Q S R p=>aa p
theorem mI{e:Expr}:JT X e lF:=λρ st σ H m Q S R p=>aa p
end
def uI(P:Zo)(w:Zr)(K:PySem.W.Frag)(mg:Str->Option Zq)(base:Heap)(k:Nat)(x:Str)(n:Nat)(F:List Wv->Hs->Re Wv):Prop :=
 ∃f fd ps,FnOk P w K mg base (CXJ P w) k f fd ps (spW K n F)/\mg x=some (.ref f)/\PySem.W.keepIn K (.ref f)=true/\Binds K fd ps []
theorem uI.mono{P:Zo}{w:Zr}{K:PySem.W.Frag}{mg:Str->Option Zq}{base:Heap}{j k:Nat}{x:Str}{n:Nat}{F:List Wv->Hs->Re Wv}(h:uI P w K mg base j x n F)(l:j<=k):uI P w K mg base k x n F:=by
 obtain⟨f,fd,ps,G,r⟩:=h
 exact⟨f,fd,ps,G.mono l,r⟩
def dq(K:PySem.W.Frag)(x:Str)(st:Stmt):Prop:=∃f fd,PySem.W.nsIn K ZA x=some (some (.ref f))/\J0 K x x st f fd
theorem wN{K:PySem.W.Frag}{x:Str}{st:Stmt}{f:Zk}{oc:Zq}{od an:Option Zk}{osl:Array (Option Zq)}{kV doc pm cdv ct:Zq}(a:PySem.W.nsIn K ZA x=some (some (.ref f)))
  (l:K.lookup f=some ⟨oc,od,.func (PySem.W.fnOf x x (defArgs st) (defBody st) (defScope st) .none kV doc pm an cdv ct),osl⟩)(c:PySem.W.codeIn K cdv x=true)(k:PySem.W.keepIn K (.ref f)=true):dq K x st:=⟨f,_,a,J1 l c k⟩
theorem B9:Zu "isinstance"=some (.builtin "isinstance"):=by decide+kernel
theorem zT:Zu "len"=some (.builtin "len"):=by decide+kernel
theorem uJ:Zu "int"=some (.type "int"):=by decide+kernel
theorem B_:Zu "str"=some (.type "str"):=by decide+kernel
theorem Ca:Zu "bool"=some (.type "bool"):=by decide+kernel
theorem uK:Zu "tuple"=some (.type "tuple"):=by decide+kernel
theorem uL:Zu "list"=some (.type "list"):=by decide+kernel
def gD(i:Nat)(gb:GS):List Wv->bA->Hs->Rs
 | [],ρ,st=> .nx ρ st
 | w::r,ρ,st=>match gb (ρ.set i (some w)) st with
  | .nx ρ' st'=>gD i gb r ρ' st'
  | .ct ρ' st'=>gD i gb r ρ' st'
  | .bk ρ' st'=> .nx ρ' st'
  | .rt w st'=> .rt w st'
  | .err c ρ' st'=> .err c ρ' st'
  | .bad=> .bad
section
variable {X:Cx}
theorem pg(i:Nat){body:List Stmt}{gb:GS}(hb:mE X body gb){J':It}{ws:List Wv}{m1:Mp}{H1:Hp}{st1:Hs}{ρ:bA}{σ:St}{D:Ends}(S1:aQ X.K m1 st1 H1)(R:av X.K m1 H1 ρ σ)(p1:aK X m1 H1 (gD i gb ws ρ st1) D)
  (hgo:∀(k:Nat)(H:Hp)(m':Mp),Ext X.K m1 H1 m' H->k < ws.length->J'.go k H)(hstop:∀(k:Nat)(H:Hp)(m':Mp),Ext X.K m1 H1 m' H->k=ws.length->J'.stop k H)
  (hy:∀(k:Nat)(hk:k < ws.length)(H:Hp)(x:V)(H':Hp)(m':Mp),Ext X.K m1 H1 m' H->J'.sg k H x H'->H'=H/\aj X.K m' H ws[k] x) :
  ∃W:Nat->Nat->St->Hp->Prop,(∃m,W 0 m σ H1)/\∀k n σ H,W k n σ H->
   (J'.stop k H/\D.nx σ H)\/(J'.go k H/\∃N:St->Hp->Prop,(∀σ' H',N σ' H'->∃m',m' < n/\W (k+1) m' σ' H')/\∀x H',J'.sg k H x H'->ur i x σ H' λσ2 H2=>Qj X body { D with nx:=N,ct:=N,bk:=D.nx } σ2 H2):=by
 let Pv:Nat->St->Hp->Prop:=λk σ H=>∃ρ st m',Ext X.K m1 H1 m' H/\aQ X.K m' st H/\av X.K m' H ρ σ/\aK X m' H (gD i gb (ws.drop k) ρ st) D
 refine⟨λk n σ H=>n=ws.length - k/\k<=ws.length/\Pv k σ H,⟨ws.length,by simp,bF _,ρ,st1,m1,Ext.refl,S1,R,p1⟩,?_⟩
 rintro k n σ2 H2 ⟨rfl,hk,ρ2,st2,m2,e2,S2,R2,p2⟩
 by_cases hlt:k < ws.length
 ·refine .inr ⟨hgo k H2 m2 e2 hlt,Pv (k+1),λσ' H' p'=>⟨ws.length - (k+1),by omega,rfl,hlt,p'⟩,λx H' y=>?_⟩
  obtain⟨ee,mJ⟩:=hy k hlt H2 x H' m2 e2 y
  subst ee
  have ed:ws.drop k=ws[k]::ws.drop (k+1):=ph hlt
  rw[ed] at p2
  refine hb _ st2 _ _ m2 _ S2 (R2.set i mJ) ?_
  unfold gD at p2
  cases eg:gb (ρ2.set i (some ws[k])) st2 with
  | nx ρ3 st3=>rw[eg] at p2;exact λσ3 m3 H3 e3 S3 R3=>⟨ρ3,st3,m3,e2.trans e3,S3,R3,aK.shift p2 e3⟩
  | ct ρ3 st3=>rw[eg] at p2;exact λσ3 m3 H3 e3 S3 R3=>⟨ρ3,st3,m3,e2.trans e3,S3,R3,aK.shift p2 e3⟩
  | bk ρ3 st3=>rw[eg] at p2;exact p2
  | rt w3 st3=>rw[eg] at p2;exact p2
  | err c3 ρ3 st3=>rw[eg] at p2;exact p2
  | bad=>rw[eg] at p2;exact p2
 ·have e:k=ws.length:=by omega
  subst e
  rw[pj] at p2
  exact .inl ⟨hstop _ H2 m2 e2 rfl,p2 σ2 m2 H2 Ext.refl S2 R2⟩
def RF(K:PySem.W.Frag)(tl:TE):TI:=λσ H R=>tl σ H λx H1=>∃a,x= .ref a/\(((∃xs,fB K H1 a xs)/\R (Rf K a) H1)\/((∃xs,dh K H1 a xs)/\R (UL K a) H1))
theorem Cb{tg l:Expr}{tl:TE}(hl:PE X l tl):PI X tg l (RF X.K tl):=by
 intro pins s σ H R I h
 refine bH (hl pins s σ H _ I h) λv s1 ⟨x,H1,I1,r1,q1⟩=>?_
 obtain⟨a,e,q1⟩:=q1
 subst e
 cases r1
 have frs:∀b∈[s1.heap.objs.size],cG X pins H1 b:=λb hb=>by
  have e:b=s1.heap.objs.size:=by simpa using hb
  subst e
  exact I1.nM (ak _) (I1.hok.fresh (ak _))
 rcases q1 with ⟨⟨xs,hq⟩,q⟩ | ⟨⟨xs,hq⟩,q⟩
 ·obtain⟨its,rv,p,hz⟩:=I1.list hq
  refine wpAny_pyIter_list p.isList ?_
  exact⟨s1.heap.objs.size,[s1.heap.objs.size],_,_,H1,rfl,I1.kept (t':=s1.toks) λb o e=>aE _ e,qW a _,⟨_,bY _ rfl,rfl,rfl⟩,frs,q⟩
 ·obtain⟨its,rv,p,hz⟩:=I1.tuple hq
  refine wpAny_pyIter_tuple (show s1.heap.IsTuple a its.toArray from p) ?_
  exact⟨s1.heap.objs.size,[s1.heap.objs.size],_,_,H1,rfl,I1.kept (t':=s1.toks) λb o e=>aE _ e,wa a _,⟨_,bY _ rfl,rfl,rfl⟩,frs,q⟩
def Cc(i:Nat)(gi:GE)(gb:GS):GS:=λρ st=>(gi ρ st).bH ρ λw st1=>match w with
 | .ref l=>(match ai st1 l with | some ws=>forL i gb l ws ws ρ st1 | none=> .bad)
 | .tup ws=>gD i gb ws ρ st1
 | .oY ws=>gD i gb ws ρ st1
 | _=> .bad
theorem Cd(i:Nat){x:Str}{iter:Expr}{body:List Stmt}{gi:GE}{gb:GS}{pos pos':Pos}(hN:X.N.Nodup)(hp:PassesOwn (model X.prog X.w) X.A X.env X.xe)(hc:X.calm=true)(hi:JE X iter gi)(hb:mE X body gb)
  (hx:X.N[i]? =some x)(hlo:Loc X.env.scope x)(RG:X.fn x=true\/X.env.scope.names.lookup x=some .local)
  (hs:∀x,Zy iter X.env x=pure x):JS X (.For (.Name x pos') iter body [] pos) (Cc i gi gb):=by
 refine JS.of (sh hp hc (Cb aU) (sf hN hx hlo RG) gK hs) λρ st σ H m D S R p=>?_
 refine hi.go S R (aK.dO R p) λw st1 v m1 H1 p1 e1 S1 rw'=>?_
 cases w with
 | ref l=>
  have p1':aK X m H (match ai st1 l with | some ws=>forL i gb l ws ws ρ st1 | none=> .bad) D:=p1
  unfold aj at rw'
  obtain⟨a,rfl,hla⟩:=rw'
  cases el:ai st1 l with
  | none=>rw[el] at p1';exact aa p1'
  | some ws=>
   rw[el] at p1'
   obtain⟨HR,q0,_⟩:=S1.read hla el
   refine⟨a,rfl,.inl ⟨⟨HR,q0⟩,?_⟩⟩
   let Pv:Nat->St->Hp->Prop:=λk σ H=>∃ρ st m',Ext X.K m1 H1 m' H/\aQ X.K m' st H/\av X.K m' H ρ σ/\ai st l=some ws/\aK X m' H (forL i gb l ws (ws.drop k) ρ st) D
   refine⟨λk n σ H=>n=ws.length - k/\k<=ws.length/\Pv k σ H,⟨ws.length,by simp,bF _,ρ,st1,m1,Ext.refl,S1,R.mono e1,el,aK.shift p1' e1⟩,?_⟩
   rintro k n σ2 H2 ⟨rfl,hk,ρ2,st2,m2,e2,S2,R2,l2,p2⟩
   obtain⟨xs,hq,rws⟩:=S2.read (e2.pre _ _ hla) l2
   have hlen:=rws.length
   by_cases hlt:k < ws.length
   ·have hx':k < xs.length:=by omega
    refine .inr ⟨⟨xs,xs[k],hq,by simp[hx']⟩,Pv (k+1),λσ' H' p'=>⟨ws.length - (k+1),by omega,rfl,hlt,p'⟩,λx H' y=>?_⟩
    obtain⟨ee,y⟩:=y
    subst ee
    have ey:=y xs hq
    have ed:ws.drop k=ws[k]::ws.drop (k+1):=ph hlt
    obtain⟨x',ex',mJ⟩:=rws.get (i:=k) (w:=ws[k]) (cq hlt)
    rw[ey] at ex'
    cases ex'
    rw[ed] at p2
    refine hb _ st2 _ _ m2 _ S2 (R2.set i mJ) ?_
    unfold forL at p2
    cases eg:gb (ρ2.set i (some ws[k])) st2 with
    | nx ρ3 st3=>
     rw[eg] at p2
     by_cases c:ai st3 l=some ws
     ·simp only[if_pos c] at p2
      exact λσ3 m3 H3 e3 S3 R3=>⟨ρ3,st3,m3,e2.trans e3,S3,R3,c,aK.shift p2 e3⟩
     ·simp only[if_neg c] at p2;exact aa p2
    | ct ρ3 st3=>
     rw[eg] at p2
     by_cases c:ai st3 l=some ws
     ·simp only[if_pos c] at p2
      exact λσ3 m3 H3 e3 S3 R3=>⟨ρ3,st3,m3,e2.trans e3,S3,R3,c,aK.shift p2 e3⟩
     ·simp only[if_neg c] at p2;exact aa p2
    | bk ρ3 st3=>rw[eg] at p2;exact p2
    | rt w3 st3=>rw[eg] at p2;exact p2
    | err c3 ρ3 st3=>rw[eg] at p2;exact p2
    | bad=>rw[eg] at p2;exact p2
   ·have e:k=ws.length:=by omega
    subst e
    rw[pj] at p2
    exact .inl ⟨⟨xs,hq,by omega⟩,p2 σ2 m2 H2 Ext.refl S2 R2⟩
 | tup ws=>
  unfold aj at rw'
  obtain⟨a,xs,rfl,hq,rws⟩:=rw'
  have hlen:=rws.length
  refine⟨a,rfl,.inr ⟨⟨xs,dh.of hq⟩,?_⟩⟩
  refine pg i hb (ws:=ws) S1 (R.mono e1) (aK.shift p1 e1) (λk H m' e hk=>?_) (λk H m' e hk=>?_) λk hk H x H' m' e y=>?_
  ·have hx':k < xs.length:=by omega
   exact⟨xs,xs[k],dh.of (e.tup _ _ hq),by simp[hx']⟩
  ·exact⟨xs,dh.of (e.tup _ _ hq),by omega⟩
  ·obtain⟨ee,y⟩:=y
   refine⟨ee,?_⟩
   obtain⟨x',ex',mJ⟩:=(af.mono e _ _ rws).get (i:=k) (w:=ws[k]) (cq hk)
   rw[y xs (dh.of (e.tup _ _ hq))] at ex'
   cases ex'
   exact mJ
 | oY ws=>
  unfold aj at rw'
  obtain⟨a,xs,rfl,hq,rws⟩:=rw'
  have hlen:=rws.length
  refine⟨a,rfl,.inr ⟨⟨xs,.inr hq⟩,?_⟩⟩
  refine pg i hb (ws:=ws) S1 (R.mono e1) (aK.shift p1 e1) (λk H m' e hk=>?_) (λk H m' e hk=>?_) λk hk H x H' m' e y=>?_
  ·have hx':k < xs.length:=by omega
   exact⟨xs,xs[k],.inr hq,by simp[hx']⟩
  ·exact⟨xs,.inr hq,by omega⟩
  ·obtain⟨ee,y⟩:=y
   refine⟨ee,?_⟩
   obtain⟨x',ex',mJ⟩:=(af.mono e _ _ rws).get (i:=k) (w:=ws[k]) (cq hk)
   rw[y xs (.inr hq)] at ex'
   cases ex'
   exact mJ
 | _=>exact aa p1
def cE(lo:Int)(n:Nat):List Wv:=(aJ n).map λk:Nat=>Wv.int (lo+k)
theorem rl{lo:Int}{n k:Nat}(h:k < n):(cE lo n)[k]? =some (.int (lo+k)):=by
 unfold cE
 rw[ie,List.getElem?_range h]
 rfl
theorem uM{lo:Int}{n k:Nat}(h:k < (cE lo n).length):(cE lo n)[k]= .int (lo+k):=by
 have q:=rl (lo:=lo) (n:=n) (k:=k) (by unfold cE at h;simpa using h)
 rw[cq h] at q
 exact Option.some.inj q
theorem cJ{lo:Int}{n:Nat}:(cE lo n).length=n:=by unfold cE;simp
def j_(i:Int):Prop:=-(2 ^ 62)<=i/\i < 2 ^ 62
instance {i}:Decidable (j_ i):=Ce _
def kF(i:Nat)(ga:GA)(gb:GS):GS:=λρ st=>(ga ρ st).bH ρ λws st1=>match ws with
 | [.int j]=>if j_ j then gD i gb (cE 0 j.toNat) ρ st1 else .bad
 | _=> .bad
theorem FH(i:Nat){body:List Stmt}{gb:GS}(hb:mE X body gb){lo:Int}{n:Nat}{m1:Mp}{H1:Hp}{st1:Hs}{ρ:bA}{σ:St}{D:Ends}(S1:aQ X.K m1 st1 H1)(R:av X.K m1 H1 ρ σ)(p1:aK X m1 H1 (gD i gb (cE lo n) ρ st1) D) :
  ∃W:Nat->Nat->St->Hp->Prop,(∃m,W 0 m σ H1)/\∀k n' σ H,W k n' σ H->
   ((Jl lo n).stop k H/\D.nx σ H)\/((Jl lo n).go k H/\∃N:St->Hp->Prop,(∀σ' H',N σ' H'->∃m',m' < n'/\W (k+1) m' σ' H')/\∀x H',(Jl lo n).sg k H x H'->ur i x σ H' λσ2 H2=>Qj X body { D with nx:=N,ct:=N,bk:=D.nx } σ2 H2) :=
 pg i hb S1 R p1 (λk H m' e hk=>by rw[cJ] at hk;exact hk) (λk H m' e hk=>by rw[cJ] at hk;exact sR hk.symm) λk hk H x H' m' e y=>by
  obtain⟨y1,y2⟩:=y
  refine⟨y1,?_⟩
  rw[uM,y2]
  exact mkInt
theorem Cf(i:Nat){x:Str}{a:Expr}{body:List Stmt}{ga:GA}{gb:GS}{pos pos' p q:Pos}(hN:X.N.Nodup)(hp:PassesOwn (model X.prog X.w) X.A X.env X.xe)(hc:X.calm=true)(hg:Gl X "range")(hm:X.mg "range"=none)(ha:JA X [a] ga)(hb:mE X body gb)
  (hx:X.N[i]? =some x)(hlo:Loc X.env.scope x)(RG:X.fn x=true\/X.env.scope.names.lookup x=some .local)(hst:ZF [a] X.env=[(false,eval a X.env)]):JS X (.For (.Name x pos') (.Call (.Name "range" p) [a] [] q) body [] pos) (kF i ga gb):=by
 refine JS.of (sh hp hc (qX hg hm fZ hst) (sf hN hx hlo RG) gK (λ_=>rfl)) λρ st σ H m D S R p=>?_
 refine ha.go S R (aK.dO R p) λws st1 vs m1 H1 p1 e1 S1 rs=>?_
 match ws,rs,p1 with
 | [],rs,p1=>exact aa p1
 | x::y::t,rs,p1=>cases x<;>exact aa p1
 | [x],rs,p1=>
  obtain⟨v,rfl,r1⟩:=jc rs
  cases x with
  | int j=>
   cases a6 r1
   have p2:aK X m H (if j_ j then gD i gb (cE 0 j.toNat) ρ st1 else .bad) D:=p1
   by_cases c:j_ j
   ·rw[if_pos c] at p2
    exact⟨j,rfl,c.1,c.2,FH i hb S1 (R.mono e1) (aK.shift p2 e1)⟩
   ·rw[if_neg c] at p2;exact aa p2
  | _=>exact aa p1
theorem FI{pos:Pos}:JS X (.Return none pos) (cC (gC .aP)):=JS.of EW λρ st σ H m D S R p=>p .aP m H Ext.refl S HK
end
abbrev zU:List Zq:=[.type "ValueError",.type "Exception",.type "BaseException",.type "object"]
abbrev zV:String:="ValueError.__new__"
structure Cg(K:PySem.W.Frag)(c:PySem.Str)(C:Zk):Prop where
 cls:ClsAt K c C
 exc:PySem.W.excIn K C zU zV=true
theorem iO{K:PySem.W.Frag}{h:Heap}{C:Zk}(KX:K.In h)(q:PySem.W.excIn K C zU zV=true) :
  ∃(bm:List Zq)(N:Zk)(nm qn:Str)(bs:List Zq)(hd:Bool)(sn:List Str)(sub:List Zq)(ab:Bool)(col:Option Bool)(dd:Option Zk)(k0 k1 k2 k3 k5:Option Zq)(mN:Str->Option Zq),
   h.get? C=some (excClassObj nm qn C N bs bm hd sn sub ab col dd k0 k1 k2 k3 k5 zV)/\h.Ns N mN/\mN "__init__"=none/\OwnTail h zU bm/\(∀v r,PySem.W.mroIn K C v=some r->(cV C::bm).contains v=r):=by
 unfold PySem.W.excIn at q
 split at q
 ·rename_i dd cd sl lk
  split at q
  ·rename_i C1 bm k0 k1 k2 k3 n1 k5 em es
   simp only[cH,beq_iff_eq,Bool.not_eq_true'] at q
   obtain⟨⟨⟨⟨⟨q1,q2⟩,q3⟩,q4⟩,q5⟩,q6⟩:=q
   subst q1 q2
   obtain⟨nm,bs,mro,N,qn,hd,sn,sub,ab,col,del⟩:=cd
   dsimp only at em q3 q5 q6
   subst em q3
   have Wy:sl=#[k0,k1,k2,k3,some (.builtin zV),k5]:=by
    cases sl with
    | mk l=>exact congrArg Array.mk es
   subst Wy
   refine⟨bm,N,nm,qn,bs,hd,sn,sub,ab,col,dd,k0,k1,k2,k3,k5,_,KX _ _ lk,.of_isNs (PySem.W.isNs_of_in KX q5),PySem.W.nsMap_none_of_in KX q5 q6,PySem.W.tail_of_in KX q4,λv r e=>?_⟩
   unfold PySem.W.mroIn PySem.W.clsIn at e
   rw[lk] at e
   first
    | exact Option.some.inj e
    | (simp at e;exact e)
  ·cases q
 ·cases q
section
variable {X:Cx}
def sS(c:PySem.Str)(ga:GA):GS:=λρ st=>(ga ρ st).bH ρ λws st1=>if ws.length<=lim then .err c ρ st1 else .bad
theorem Ci{c:Str}{C:Zk}{e:Expr}{es:List Expr}{ga:GA}{np cpos pos:Pos}(hc:X.calm=true)(O:Cg X.K c C)(hg:Gl X c)(hm:X.mg c=some (.ref C))(ha:JA X (e::es) ga)(hd:(c == ("__debug__":Str))=false)
  (he:ZF (e::es) X.env=(false,eval e X.env)::ZF es X.env)(hpl:(backTo cpos (ZF es X.env)).any (·.1)=false):JS X (.Raise (some (.Call (.Name c np) (e::es) [] cpos)) none pos) (sS c ga):=by
 intro ρ st σ H m D S R p pins s I
 have args:=ha.go (T:=λvs H1=>∃ws st1 m1,aK X m H (if ws.length<=lim then .err c ρ st1 else .bad) D/\Ext X.K m H m1 H1/\aQ X.K m1 st1 H1/\af X.K m1 H1 ws vs) S R (aK.dO R p)
  λws st1 vs m1 H1 p1 e1 S1 rs=>⟨ws,st1,m1,p1,e1,S1,rs⟩
 obtain⟨bm,N,nm,qn,bs,MX,sn,sub,ab,col,dd,k0,k1,k2,k3,k5,mN,hC,hN,hni,T,_⟩:=iO I.ok.mod.EM O.exc
 refine wpAny_Raise_call_subU (C:=C) (nm:=nm) (q:=qn) (N:=N) (bs:=bs) (bm:=bm) (hdct:=MX) (sn:=sn) (sub:=sub) (ab:=ab) (col:=col) (dd:=dd) (k0:=k0) (k1:=k1) (k2:=k2) (k3:=k3) (k5:=k5) (bmB:=zU)
  F.excBase_ValueError (by decide) F.excBase_ValueError (mN:=mN) (T.hasType F.excBase_ValueError.hasBase) (I.ok.hd hc) ?_ hni (nU I hg hm ⟨rfl,?_⟩ hd)
 ·rw[he]
  show(false||(backTo cpos (ZF es X.env)).any (·.1))=false
  rw[hpl]
  rfl
 ·have go:=args cpos pins s I
  rw[he] at go ⊢
  refine Bx (bH go λus s1 ⟨vs,H1,I1,r,ws,st1,m1,p1,e1,S1,rs⟩=>?_)
  by_cases cl:ws.length<=lim
  ·rw[if_pos cl] at p1
   refine⟨rfl,by rw[<-r.length,<-rs.length];exact eI cl,I1.bk _ _ hC,hN.keeps I1.bk,T.keeps I1.bk,λh2 a M=>?_⟩
   exact p1 σ m1 H1 _ _ e1 S1 (R.mono e1) ⟨C,pins,H1,s1,O.cls,I1,.inr ⟨rfl,a,us,rfl,rfl,rfl,M⟩⟩
  ·rw[if_neg cl] at p1;exact aa p1
end
structure lG(K:PySem.W.Frag)(C:Zk):Prop where
 exc:PySem.W.excIn K C zU zV=true
 ga:PySem.W.findIn K (.ref C) "__getattribute__"=some (some (.builtin "BaseException.__getattribute__"))
 gx:PySem.W.findIn K (.ref C) "__getattr__"=some none
 cl:PySem.W.findIn K (.ref C) "__class__"=some (some (.builtin "object.__class__"))
section
variable {prog:Zo} {w:Zr} {A:Zl} {E:Zq->Zp->Prop} {h:Heap} {g:Array GenState} {d:Drawn} {t:Nat} {os:OsState} {a C:Zk} {o:Obj} {K:PySem.W.Frag}
theorem KD{R:Result->Zp->Prop}(Y:K.In h)(Z:lG K C)(ha:h.get? a=some o)(hc:o.cls= .ref C)(k:R (.ok (.ret (.ref C))) ⟨h,g,d,t,os⟩) :
  Zv (model prog w) A (.call (.builtin "getset_descriptor.__get__") ⟨[.builtin "object.__class__",.ref a,.ref C],[]⟩) R ⟨h,g,d,t,os⟩:=by
 obtain⟨bm,N,nm,qn,bs,MX,sn,sub,ab,col,dd,k0,k1,k2,k3,k5,mN,hC,hN,hni,T,_⟩:=iO Y Z.exc
 have ty:(⟨h,g,d,t,os⟩:Zp).TypeIs (.builtin "object.__class__") "getset_descriptor":=Cj
 have own:(cV C::bm).contains (.type (".".intercalate ("object.__class__".cutAt '.').dropLast))=true:=by
  rw[F.owner_object_class,wO,T.hasType (X:="object") (b:=true) (by decide)];rfl
 refine codeAny_call_builtin F.slot_gs_get.plain F.entry_gs_get (F.slot_gs_get.check _ _ _ _ _ _ _ _ ty (F.args_gs_get _ _ _) ?_)
 repeat (any_goals (first | assumption | (with_reducible refine wpAny_loadPart_at ha ?_;rw[hc]) | (with_reducible refine wpAny_isSubtype_exc hC ?_;rw[own]) | wp_step))
 refine⟨Code.quiet_builtin _ (by decide+kernel),codeAny_builtin F.entry_object_class ?_⟩
 repeat (any_goals (first | assumption | (with_reducible refine wpAny_loadPart_at ha ?_;rw[hc]) | wp_step))
theorem Ck{tk:Tok}{Q:Fin->Zp->Prop}(Y:K.In h)(Z:lG K C)(ha:h.get? a=some o)(hc:o.cls= .ref C)(k:Q (.done (.ret (.ref C))) ⟨h,g,d,t,os⟩) :
  ZG (model prog w) A (Builtin.«object.__getattribute__» ⟨[.ref a,.str "__class__" tk],[]⟩) Q E ⟨h,g,d,t,os⟩:=by
 have ty:(⟨h,g,d,t,os⟩:Zp).TypeIs (.builtin "object.__class__") "getset_descriptor":=Cj
 have t1:=Cj
 have t2:=F.slot_gs_get.lookup
 have t3:=F.slot_gs_set.lookup
 have L:=PySem.W.looks_findIn (M:=model prog w) Y Z.cl
 repeat (any_goals (first | assumption | (with_reducible refine wpAny_loadPart_at ha ?_;rw[hc]) | with_reducible refine L.at ?_ | wp_step))
 refine KD Y Z ha hc ?_
 repeat (any_goals (first | assumption | wp_step))
theorem Cm{M:Model}{nv:Zq}{Q:Unit->Zp->Prop}(Y:K.In h)(Z:lG K C)(ha:h.get? a=some o)(hc:o.cls= .ref C)(k:Q () ⟨h,g,d,t,os⟩) :
  ZG M A (checkBuiltinCall "BaseException.__getattribute__" ⟨[.ref a,nv],[]⟩) Q E ⟨h,g,d,t,os⟩:=by
 obtain⟨bm,N,nm,qn,bs,MX,sn,sub,ab,col,dd,k0,k1,k2,k3,k5,mN,hC,hN,hni,T,_⟩:=iO Y Z.exc
 have u1:builtinKind "BaseException.__getattribute__"=some .slot:=by decide+kernel
 have u2:splitId "BaseException.__getattribute__"=some ("BaseException","__getattribute__"):=by decide+kernel
 have u3:(cV C::bm).contains (.type "BaseException")=true:=by rw[wO,T.hasType (X:="BaseException") (b:=true) (by decide)];rfl
 have u4:=F.args_bexc_ga (.ref a) nv
 simp only[checkBuiltinCall,u1,u2]
 refine ZH ?_
 unfold isInstance
 repeat (first | (with_reducible refine wpAny_loadPart_at ha ?_;rw[hc]) | (with_reducible refine wpAny_isSubtype_exc hC ?_;rw[u3]) | wp_step)
 exact k
theorem Ox{tk:Tok}{Q:Zq->Zp->Prop}(Y:K.In h)(Z:lG K C)(ha:h.get? a=some o)(hc:o.cls= .ref C)(k:Q (.ref C) ⟨h,g,d,t,os⟩) :
  ZG (model prog w) A (getAttrBy (.ref a) (.str "__class__" tk) false) Q E ⟨h,g,d,t,os⟩:=by
 have v1:=F.excAttr_ValueError.ga.bind (.ref a)
 have v2:(oa "BaseException.__getattribute__" == oa "object.__getattribute__")=false:=by decide+kernel
 have v3:(onTheHeap (cV C)&&oa "BaseException.__getattribute__" == oa "object.__getattribute__")=false:=by rw[v2];rfl
 have v4:(false&&onTheHeap (oa "BaseException.__getattribute__"))=false:=rfl
 have L1:=PySem.W.looks_findIn (M:=model prog w) Y Z.ga
 have L2:=PySem.W.looks_findIn (M:=model prog w) Y Z.gx
 repeat (any_goals (first | assumption | (with_reducible refine wpAny_loadPart_at ha ?_;rw[hc]) | with_reducible refine L1.at ?_ | with_reducible refine L2.at ?_ | wp_step))
 refine codeAny_call_builtin F.excAttr_ValueError.ga.plain F.entry_bexc_ga (Cm Y Z ha hc (Ck Y Z ha hc ?_))
 repeat (any_goals (first | assumption | wp_step))
theorem FJ{Q:Option Zq->Zp->Prop}(Y:K.In h)(Z:lG K C)(ha:h.get? a=some o)(hc:o.cls= .ref C)(k:Q (some (.ref C)) ⟨h,g,d,t+1,os⟩) :
  ZG (model prog w) A (getAttr? (.ref a) "__class__") Q E ⟨h,g,d,t,os⟩:=by
 unfold getAttr? getAttrBy?
 repeat (any_goals (first | assumption | with_reducible apply Ox Y Z ha hc | wp_step))
end
structure RH(X:Cx):Prop where
 st:X.stack=X.env::X.outer
 fr:X.env.frame=some X.env.locals
 ex:X.ex=[]
theorem rn{P:Zo}{w:Zr}{H:Hp}{h:Heap}{a:Zk}{o:HO}(x:dM P w H h a o):∃u,h.get? a=some u:=by
 cases o with
 | lst xs=>obtain⟨_,_,_,_,e⟩:=x;exact⟨_,e⟩
 | tup xs=>obtain⟨_,_,_,⟨ob,e,_⟩,_⟩:=x;exact⟨_,e⟩
 | dK kvs=>obtain⟨_,_,_,_,ob,_,_,e,_⟩:=x;exact⟨_,e⟩
 | dT kvs=>obtain⟨_,_,_,_,ob,_,_,e,_⟩:=x;exact⟨_,e⟩
 | set S n=>obtain⟨ob,_,_,_,e,_⟩:=x;exact⟨_,e⟩
 | ins C dx fs=>obtain⟨_,_,_,e,_⟩:=x;exact⟨_,e⟩
 | own y=>exact x
 | xd fs=>obtain⟨_,⟨_,_,_,e,_⟩,_⟩:=x;exact⟨_,e⟩
 | P8 lo hi=>obtain⟨_,_,_,e⟩:=x;exact⟨_,e⟩
 | fu ob u=>obtain⟨e,_⟩:=x;exact⟨_,e⟩
 | jf ps=>exact⟨_,x⟩
 | met f y=>exact⟨_,x⟩
 | ext φ=>exact x.2.1
def KG(X:Cx)(a:Zk):Prop:=X.s₀.heap.get? a=none/\(∀xs,X.H₀ a≠some (.tup xs))/\(∀o u,X.H₀ a≠some (.fu o u))/\∀ps,X.H₀ a≠some (.jf ps)
def zW(o:Obj):Prop:=∃vs,o.data= .fields vs/\vs[2]? =some bC
section
variable {X:Cx} {pins:List (Zk×Obj)} {σ:St} {Hc H':Hp} {sc s':Zp} {B h2:Heap} {a C:Zk} {a0:Zq} {ch:List Zk}
theorem jO(I:Inv X pins σ Hc sc)(os:s'.os=sc.os)(bare:AllBare s'.gens)(hch:∀b∈ch,cG X pins Hc b)(un:Un (frs X.stack) ch Hc H' sc.heap s'.heap)(hok:j9 X.prog X.w H' B)(fl:sI B X.stack a (.ref C) a0 h2)(up:s'.heap.UpToSlots h2)
  (n4:∀b o,sc.heap.get? b=some o->b∉frs X.stack->b∉ch->∃o',B.get? b=some o'/\(Hc b=none->o'=o)){tk:Nat} :
  (∃o,zW o/\Inv X pins σ (upd H' a (.fu o (.ext (jl a C)))) { s' with heap:=h2,toks:=tk })/\H' a=none/\(X.ex=[]->KG X a):=by
 have stay:=fl.1
 obtain⟨oe,vs,Ql,hcl,hda,RI⟩:=fl.first
 have Wz:jl a C h2:=⟨oe,Ql,hcl,vs,hda⟩
 have ha:H' a=none:=by
  cases q:H' a with
  | none=>rfl
  | some u=>
   obtain⟨z,e⟩:=rn (hok a u q)
   rw[fl.2.1] at e
   cases e
 have MY:a∉frs X.stack:=λz=>by
  obtain⟨_,o1,e1,d1⟩:=fl.2.2.1.mem z
  rw[Ql] at e1
  cases e1
  exact d1 vs hda
 have EN:∀b∈frs X.stack,b∉ch:=λb hb z=>by
  rcases List.mem_cons.mp (I.hV b hb) with q | q
  ·exact(hch b z).2.1 q
  ·exact(hch b z).2.2.1 q
 have new:a∉ch->∀o,sc.heap.get? a≠some o:=λhx o e=>by
  obtain⟨o1,e1,_⟩:=n4 a o e MY hx
  rw[fl.2.1] at e1
  cases e1
 have ne:∀b u,H' b=some u->b≠a:=λb u e=>aY e ha
 have sl:∀b o,sc.heap.get? b=some o->Hc b=none->b∈frs X.stack->∃sl,h2.get? b=some { o with slots:=sl }:=λb o e n hb=>by
  obtain⟨s1,e1⟩:=un.slot b o e n hb (EN b hb)
  obtain⟨_,o1,e2,d1⟩:=I.stack.mem hb
  rw[e] at e2
  cases e2
  obtain⟨s2,e3⟩:=up b _ e1 d1
  exact⟨s2,e3⟩
 refine⟨⟨oe,⟨vs,hda,RI⟩,?_⟩,ha,λhex=>?_⟩
 rotate_left
 ·refine⟨?_,λxs q=>?_,λo u q=>?_,λps q=>?_⟩
  rotate_left
  ·have z:=un.tups _ _ (I.base.tups _ _ q)
   rw[ha] at z;cases z
  ·have z:=un.iI _ _ _ (I.base.iI _ _ _ q)
   rw[ha] at z;cases z
  ·obtain⟨_,z⟩:=I.base.ja _ _ q
   obtain⟨_,z⟩:=un.ja _ _ z
   rw[ha] at z;cases z
  cases q:X.s₀.heap.get? a with
  | none=>rfl
  | some o0=>
   obtain⟨o1,q1⟩:=I.base.there a o0 q (by rw[hex];simp)
   refine absurd q1 (new (λz=>?_) o1)
   rcases(hch a z).2.2.2.1 with y | y
   ·rw[hex] at y;cases y
   ·exact absurd (aM (ax q) y) (bX _)
 refine I.qU (s':={ s' with heap:=h2,toks:=tk }) (ch:=ch) os ?_ ?_ bare (λb z=>⟨(hch b z).2.2.2.1,(hch b z).2.1,(hch b z).2.2.2.2.1,(hch b z).2.2.2.2.2⟩)
 ·refine⟨λb o e n hb hx=>?_,λb o e n hb _=>sl b o e n hb,λb o e n hx=>?_,λb o e hx=>?_,λb xs h=>?_,λb o u h=>?_,λb ps h=>?_⟩
  ·obtain⟨o1,e1,e2⟩:=n4 b o e hb hx
   rw[e2 n] at e1
   exact stay b o e1
  ·have ba:b≠a:=λz=>by subst z;exact new hx o e
   rw[aw ba]
   exact un.free b o e n hx
  ·by_cases hb:b∈frs X.stack
   ·obtain⟨s2,e2⟩:=sl b o e (I.gH b hb) hb
    exact⟨_,e2⟩
   ·obtain⟨o1,e1,_⟩:=n4 b o e hb hx
    exact⟨o1,stay b o1 e1⟩
  ·have q:=un.tups b xs h
   rw[aw (ne b _ q)]
   exact q
  ·have q:=un.iI b o u h
   rw[aw (ne b _ q)]
   exact q
  ·obtain⟨m1,q⟩:=un.ja b ps h
   refine⟨m1,?_⟩
   rw[aw (ne b _ q)]
   exact q
 ·intro b u e
  by_cases hb:b=a
  ·subst hb
   rw[aL] at e
   cases e
   exact⟨Ql,Wz,⟨oe,Ql⟩,λh3 h4 p k=>let ⟨o1,q1,q2,q3⟩:=p;⟨o1,k o1 q1,q2,q3⟩⟩
  ·rw[aw hb] at e
   exact(hok b u e).stay (λc v _ q=>stay c v q) (λc q=>by rw[aw (ne c _ q)];exact q) λc xs q=>by rw[aw (ne c _ q)];exact q
end
theorem zX{M:Model}{A:Zl}{E:Zq->Zp->Prop}{s:Zp}{K:PySem.W.Frag}{a C D:Zk}{o:Obj}{b:Bool}{Q:Bool->Zp->Prop}(Y:K.In s.heap)(ZC:PySem.W.excIn K C zU zV=true)(ZD:PySem.W.excIn K D zU zV=true)
  (hm:PySem.W.mroIn K C (.ref D)=some b)(ha:s.heap.get? a=some o)(hc:o.cls= .ref C)(k:Q b s):ZG M A (excMatches (.ref a) (.ref D)) Q E s:=by
 obtain⟨h,g,d,t,os⟩:=s
 obtain⟨bm,N,nm,qn,bs,MX,sn,sub,ab,col,dd,k0,k1,k2,k3,k5,mN,hC,hN,hni,T,mr⟩:=iO Y ZC
 obtain⟨bm',N',YE,YF,bs',WA,sn',sub',YG,col',WB,YH,YI,YJ,YK,YL,YM,hD,YN,WC,T',YO⟩:=iO Y ZD
 have e1:(cV C::bm).contains (.ref D)=b:=mr _ _ hm
 have e2:(cV D::bm').contains (.type "BaseException")=true:=by rw[wO,T'.hasType (X:="BaseException") (b:=true) (by decide)];rfl
 have f:=tc_notTuple
 unfold excMatches
 repeat (first | (with_reducible refine wpAny_loadPart_at ha ?_;rw[hc]) | with_reducible refine wpAny_loadPart_at hD ?_ | (with_reducible refine wpAny_isSubtype_exc hD ?_;rw[e2]) | (with_reducible refine wpAny_isSubtype_exc hC ?_;rw[e1]) | wp_step)
 cases b<;>(wp_walk;exact k)
theorem uN{K:PySem.W.Frag}{a C:Zk}(Z:lG K C):PySem.W.KitX K (.ref a) (.ref C) (jl a C) where
 ty:=λM h _ p=>by
  obtain⟨o,h1,h2,_⟩:=p
  rw[<-h2]
  exact(PySem.W.Looks.ld h1).andThen .now
 it:=λM h Y _=>by
  obtain⟨bm,N,nm,qn,bs,MX,sn,sub,ab,col,dd,k0,k1,k2,k3,k5,mN,hC,_⟩:=iO Y Z.exc
  intro A' Q' E' s' k q
  unfold isType loadHead
  exact ZH (wpAny_loadPart (k _ _ hC) (ZM q))
 ne:=λh tp dd its n sl Y e=>by
  obtain⟨bm,N,nm,qn,bs,MX,sn,sub,ab,col,WB,k0,k1,k2,k3,k5,mN,hC,_⟩:=iO Y Z.exc
  refine Bool.eq_false_iff.mpr λq=>?_
  have z:C=tp:=Value.ref.inj (beq_iff_eq.mp q)
  subst z
  rw[hC] at e
  have z2:dw "type"=dw "tuple":=congrArg Obj.cls (Option.some.inj e)
  exact absurd z2 (by decide)
 ca:=λ{prog w A E Q s} Y p k=>by
  obtain⟨o,h1,h2,_⟩:=p
  obtain⟨h,g,d,t,os⟩:=s
  exact FJ Y Z h1 h2 k
abbrev Tab:=List ((PySem.Str×PySem.Str)×Bool)
abbrev uO:=List ((PySem.Str×String)×Bool)
structure TabOk(K:PySem.W.Frag)(tb:Tab)(tt:uO)(tc:Tab):Prop where
 own:∀c d b C D,tb.lookup (c,d)=some b->ClsAt K c C->ClsAt K d D->lG K C/\PySem.W.kitOne K (.ref C) (.ref D)=some b
 cat:∀c d b C D,tc.lookup (c,d)=some b->ClsAt K c C->ClsAt K d D->PySem.W.excIn K C zU zV=true/\PySem.W.excIn K D zU zV=true/\PySem.W.mroIn K C (.ref D)=some b
 typ:∀c T b C,tt.lookup (c,T)=some b->ClsAt K c C->lG K C/\PySem.W.kitOne K (.ref C) (.type T)=some b
def mK(tb:Tab)(c:PySem.Str):List Wv->Option Bool
 | []=>some false
 | .cls d::r=>(match tb.lookup (c,d) with
  | some true=>some true
  | some false=>mK tb c r
  | none=>none)
 | _=>none
theorem rA{K:PySem.W.Frag}{m:Mp}{H:Hp}{tb:Tab}{tt:uO}{tc:Tab}(O:TabOk K tb tt tc){c:PySem.Str}{C:Zk}(hC:ClsAt K c C):∀{ds:List Wv}{vs:List V}{its:List Zq}{b:Bool},af K m H ds vs->Vals vs its->mK tb c ds=some b->PySem.W.kitAny K (.ref C) its=some b
 | [],vs,its,b,r,v,e=>by
  unfold af at r
  subst r
  cases v
  cases e
  rfl
 | w::ds,vs,its,b,r,v,e=>by
  unfold af at r
  obtain⟨x,t,rfl,r1,r2⟩:=r
  cases v with
  | cons h1 h2=>
   cases w with
   | cls d=>
    unfold aj at r1
    obtain⟨D,rfl,hD⟩:=r1
    cases h1
    unfold mK at e
    unfold PySem.W.kitAny
    cases q:tb.lookup (c,d) with
    | none=>rw[q] at e;cases e
    | some k=>
     rw[q] at e
     obtain⟨_,z3⟩:=O.own c d k C D q hC hD
     rw[z3]
     cases k with
     | true=>cases e;rfl
     | false=>exact rA O hC r2 h2 e
   | _=>cases e
def lH(tb:Tab)(tt:uO):List Wv->Hs->Re Wv
 | [.lC c,.cls d],st=>(match tb.lookup (c,d) with | some b=> .ok (.bl b) st | none=> .bad)
 | [.lC c,.ty T],st=>(match tt.lookup (c,T) with | some b=> .ok (.bl b) st | none=> .bad)
 | [.lC c,.tup (.cls d::ds)],st=>(match mK tb c (.cls d::ds) with | some b=> .ok (.bl b) st | none=> .bad)
 | ws,st=>Ku ws st
section
variable {X:Cx}
theorem Cn:dG X (.builtin "isinstance") (λvs H Q=>∃a C v c b,vs=[.ref a,v]/\Qi a C (H a)/\lG X.K C/\RelV v c/\PySem.W.kitOne X.K (.ref C) c=some b/\Q (.bl b) H):=by
 intro pins s σ H xs us Q I r h
 obtain⟨a,C,v,c,b,rfl,ha,Z,rc,e,q⟩:=h
 obtain⟨u,u',rfl,r1,r2⟩:=vals2 r
 cases r1
 have uc:u'=c:=by
  cases v with
  | int i=>obtain⟨t,rfl⟩:=rc;cases e
  | str i=>obtain⟨t,rfl⟩:=rc;cases e
  | MS i=>obtain⟨t,rfl⟩:=rc;cases e
  | P7 i=>obtain⟨t,rfl⟩:=rc;cases e
  | aP=>cases rc;cases r2;rfl
  | bl i=>cases rc;cases r2;rfl
  | ref i=>cases rc;cases r2;rfl
  | ty i=>cases rc;cases r2;rfl
 subst uc
 exact PySem.W.kia_one (uN Z) I.zt (Hy I.hok ha) e (by intro z;cases z) λtk=>⟨.bl b,H,I.tok tk,rfl,q⟩
theorem zY:dG X (.builtin "isinstance") (λvs H Q=>∃a C p xs b,vs=[.ref a,.ref p]/\Qi a C (H a)/\lG X.K C/\dh X.K H p xs/\(∀its,Vals xs its->PySem.W.kitAny X.K (.ref C) its=some b)/\Q (.bl b) H):=by
 intro pins s σ H xs us Q I r h
 obtain⟨a,C,p,ys,b,rfl,ha,Z,hT,e,q⟩:=h
 obtain⟨u,u',rfl,r1,r2⟩:=vals2 r
 cases r1
 cases r2
 obtain⟨its,rv,⟨o,g1,g2,n,g3⟩,z⟩:=I.tuple hT
 obtain⟨oc,od,YQ,osl⟩:=o
 cases g2
 cases g3
 exact PySem.W.kia_tup (uN Z) I.zt (Hy I.hok ha) g1 (e its rv) (by intro z;cases z) λtk=>⟨.bl b,H,I.tok tk,rfl,q⟩
theorem KH{tb:Tab}{tt:uO}{tc:Tab}(O:TabOk X.K tb tt tc):dQ X (.builtin "isinstance") (lH tb tt):=by
 obtain⟨r,h1,h2⟩:=Kv (X:=X)
 refine⟨_,Cn.or (zY.or h1),λws vs st H m Q S rs p=>?_⟩
 unfold lH at p
 split at p
 ·rename_i _ c d
  cases e:tb.lookup (c,d) with
  | none=>rw[e] at p;exact aa p
  | some b=>
   rw[e] at p
   obtain⟨v,v',rfl,r1,r2⟩:=BZ rs
   unfold aj at r1 r2
   obtain⟨a,C,rfl,hC,ha⟩:=r1
   obtain⟨D,rfl,hD⟩:=r2
   obtain⟨z1,z3⟩:=O.own c d b C D e hC hD
   exact .inl ⟨a,C,.ref D,.ref D,b,rfl,ha,z1,rfl,z3,p _ m H Ext.refl S gA⟩
 ·rename_i _ c T
  cases e:tt.lookup (c,T) with
  | none=>rw[e] at p;exact aa p
  | some b=>
   rw[e] at p
   obtain⟨v,v',rfl,r1,r2⟩:=BZ rs
   unfold aj at r1 r2
   obtain⟨a,C,rfl,hC,ha⟩:=r1
   subst r2
   obtain⟨z1,z3⟩:=O.typ c T b C e hC
   exact .inl ⟨a,C,.ty T,.type T,b,rfl,ha,z1,rfl,z3,p _ m H Ext.refl S gA⟩
 ·rename_i _ c d ds
  cases e:mK tb c (.cls d::ds) with
  | none=>rw[e] at p;exact aa p
  | some b=>
   rw[e] at p
   obtain⟨v,v',rfl,r1,r2⟩:=BZ rs
   unfold aj at r1
   obtain⟨a,C,rfl,hC,ha⟩:=r1
   have r2':=r2
   unfold aj at r2'
   obtain⟨t,xs,rfl,hT,rx⟩:=r2'
   have Z:lG X.K C:=by
    have mJ:=rx
    unfold af at mJ
    obtain⟨x,r,_,rd,_⟩:=mJ
    unfold aj at rd
    obtain⟨D,_,hD⟩:=rd
    unfold mK at e
    cases q:tb.lookup (c,d) with
    | none=>rw[q] at e;cases e
    | some k=>exact(O.own c d k C D q hC hD).1
   exact .inr (.inl ⟨a,C,t,xs,b,rfl,ha,Z,dh.of hT,λits hv=>rA O hC rx hv e,p _ m H Ext.refl S gA⟩)
 ·exact .inr (.inr (h2 ws vs st H m Q S rs p))
end
section
variable {X:Cx} {pins:List (Zk×Obj)} {σ:St} {H:Hp} {s:Zp}
abbrev FK(X:Cx)(A':Zl)(cm:Bool)(pn:List (Zk×Obj))(E:Zq->Zp->Prop):Cx:={ X with A:=A',calm:=cm,pn:=pn,xe:=E }
theorem Oy{A':Zl}{cm:Bool}{pn:List (Zk×Obj)}{E:Zq->Zp->Prop}(ok:X.Ok)(hf:A'.frames=X.A.frames)(hd:cm=true->A'.handled=none):(FK X A' cm pn E).Ok :=
 ⟨ok.mod,ok.kind,ok.glob,ok.blt,ok.above,ok.inj,ok.has,ok.IV,hd,hf.trans ok.frames,ok.stk,ok.Q3,ok.bs,ok.A6,ok.zr,ok.Bf,ok.jh,ok.EA⟩
theorem Co{A':Zl}{cm:Bool}{E:Zq->Zp->Prop}(I:Inv X pins σ H s)(hf:A'.frames=X.A.frames)(hd:cm=true->A'.handled=none):Inv (FK X A' cm (X.pn++pins) E) [] σ H s :=
 ⟨Oy I.ok hf hd,I.os,I.bare,I.base,I.loc,I.cell,I.free,I.fW,λp hp=>I.pin p (by simpa using hp),I.hok,I.len⟩
theorem pk{A':Zl}{cm:Bool}{E:Zq->Zp->Prop}{gI:List (Zk×Obj)}(ok:X.Ok)(I:Inv (FK X A' cm (X.pn++pins) E) gI σ H s):Inv X pins σ H s :=
 ⟨ok,I.os,I.bare,I.base,I.loc,I.cell,I.free,I.fW,λp hp=>I.pin p (kY _ hp),I.hok,I.len⟩
abbrev Oz(X:Cx)(a:Zk)(u:HO)(pn:List (Zk×Obj))(E:Zq->Zp->Prop):Cx:={ X with A:=X.A.mark (some (.ref a)),calm:=false,pn:=pn,xe:=E,H₀:=upd X.H₀ a u }
theorem KI{a:Zk}{o:Obj}{u:HO}{E:Zq->Zp->Prop}(I:Inv X pins σ H s)(e:H a=some (.fu o u))(n:X.s₀.heap.get? a=none):Inv (Oz X a (.fu o u) (X.pn++pins) E) [] σ H s:=by
 have k:=I.ok
 have ne:∀b o,X.s₀.heap.get? b=some o->b≠a:=λb o q z=>by rw[z,n] at q;cases q
 have nf:∀b∈X.fs,b≠a:=λb hb=>let ⟨_,o,q,_⟩:=k.jh.mem hb;ne b o q
 have up:∀b,b≠a->upd X.H₀ a (.fu o u) b=X.H₀ b:=λb h=>aw h
 have dn:∀{b:Zk}{w:Option HO},upd X.H₀ a (.fu o u) b=w->w≠some (.fu o u)->X.H₀ b=w:=λ{b w} q h=>by
  by_cases z:b=a
  ·rw[z,aL] at q;exact absurd q.symm h
  ·rw[up b z] at q;exact q
 have nn:∀{b:Zk},upd X.H₀ a (.fu o u) b=none->X.H₀ b=none:=λq=>dn q (by intro z;cases z)
 refine⟨⟨k.mod,k.kind,k.glob,k.blt,k.above,k.inj,k.has,k.IV,(λz=>by cases z),k.frames,k.stk,k.Q3,λb ob q=>⟨(k.bs b ob q).1,(up b (ne b ob (k.bs b ob q).1)).trans (k.bs b ob q).2⟩,k.A6,k.zr,k.Bf,k.jh,λb hb=>(up b (nf b hb)).trans (k.EA b hb)⟩,I.os,I.bare,?_,I.loc,I.cell,I.free,I.fW,λp hp=>I.pin p (by simpa using hp),I.hok,I.len⟩
 have g:=I.base
 exact⟨λb ob q h=>g.keep b ob q (nn h),λb ob q h=>g.slot b ob q (nn h),λb ob q h=>g.free b ob q (nn h),g.there,λb xs q=>g.tups b xs (dn q (by intro z;cases z)),λb ob v q=>by
  by_cases z:b=a
  ·subst z
   have q':upd X.H₀ b (.fu o u) b=some (.fu ob v):=q
   rw[aL] at q'
   cases q'
   exact e
  ·exact g.iI b ob v ((up b z).symm.trans q),λb ps q=>g.ja b ps (dn q (by intro z;cases z))⟩
theorem Cp{a:Zk}{o:Obj}{u:HO}{E:Zq->Zp->Prop}{gI:List (Zk×Obj)}(ok:X.Ok)(n:KG X a)(I:Inv (Oz X a (.fu o u) (X.pn++pins) E) gI σ H s):Inv X pins σ H s:=by
 have ne:∀b o,X.s₀.heap.get? b=some o->b≠a:=λb o q z=>by rw[z,n.1] at q;cases q
 have up:∀b,b≠a->(Oz X a (.fu o u) (X.pn++pins) E).H₀ b=X.H₀ b:=λb h=>aw h
 have g:=I.base
 exact⟨ok,I.os,I.bare,⟨λb ob q h=>g.keep b ob q ((up b (ne b ob q)).trans h),λb ob q h=>g.slot b ob q ((up b (ne b ob q)).trans h),λb ob q h=>g.free b ob q ((up b (ne b ob q)).trans h),g.there,λb xs q=>g.tups b xs ((up b λz=>n.2.1 xs (z ▸ q)).trans q),λb ob v q=>g.iI b ob v ((up b λz=>n.2.2.1 ob v (z ▸ q)).trans q),λb ps q=>g.ja b ps ((up b λz=>n.2.2.2 ps (z ▸ q)).trans q)⟩,I.loc,I.cell,I.free,I.fW,λp hp=>I.pin p (kY _ hp),I.hok,I.len⟩
def KJ(X:Cx):Prop:=X.A.handled=none\/∃a o u,X.A.handled=some (.ref a)/\zW o/\X.H₀ a=some (.fu o u)
def zZ(A:Zl)(H:Hp):Prop:=A.handled=none\/∃a o u,A.handled=some (.ref a)/\zW o/\H a=some (.fu o u)
theorem KJ.at(h:KJ X)(I:Inv X pins σ H s):zZ X.A H:=h.imp id λ⟨a,o,u,h1,h2,h3⟩=>⟨a,o,u,h1,h2,I.base.iI _ _ _ h3⟩
theorem OA{A':Zl}{cm:Bool}{E:Zq->Zp->Prop}{D:Ends}{f:Flow}(ok:X.Ok)(h:SP (FK X A' cm (X.pn++pins) E) [] D f s):SP X pins D f s:=by
 cases f with
 | next=>obtain⟨σ',H',I,q⟩:=h;exact⟨σ',H',pk ok I,q⟩
 | brk=>obtain⟨σ',H',I,q⟩:=h;exact⟨σ',H',pk ok I,q⟩
 | cont=>obtain⟨σ',H',I,q⟩:=h;exact⟨σ',H',pk ok I,q⟩
 | ret u=>obtain⟨v,σ',H',I,r,q⟩:=h;exact⟨v,σ',H',pk ok I,r,q⟩
end
theorem rB{X:Cx}{pins:List (Zk×Obj)}{σ:St}{H:Hp}{s:Zp}{M:Model}{A:Zl}{E:Zq->Zp->Prop}{i:Nat}{n:Str}{pos:Pos}{Q:Unit->Zp->Prop}(I:Inv X pins σ H s)(hN:X.N.Nodup)(hi:X.N[i]? =some n)(hx:X.env.scope.names.lookup n=some .local)
  (k:∀s',Inv X pins (σ.set i none) H s'->Q () s'):ZG M A (do bindName X.env n .none;unbindBehindTheSuite X.env n pos) Q E s:=by
 obtain⟨m,ns,lk⟩:=id I.loc
 have pl:(X.env.scope.kind == .class||(X.env.scope.kind == .module&&X.env.locals != X.env.globals))=false:=by rw[I.ok.kind];rfl
 have up:∀b o,X.s₀.heap.get? b=some o->b≠X.env.locals:=λb o e=>old_ne I e
 refine wpAny_nameGoes_keeps hx ns pl λh2 v WD sb=>k _ ?_
 obtain⟨oL,_,_,UJ,_⟩:=id ns
 refine⟨I.ok,I.os,I.bare,⟨λb o e f hb hx=>(sb.2 b (up b o e)).trans (I.base.keep b o e f hb hx),λb o e f hb hx=>?_,I.base.free,λb o e hx=>?_,I.base.tups,I.base.iI,I.base.ja⟩,⟨_,WD,λj y w e1 e2 e3=>?_⟩,λy c e=>?_,I.free,I.fW,λp hp=>?_,λb u e=>?_,by simpa using I.len⟩
 ·obtain⟨sl,e1⟩:=I.base.slot b o e f hb hx
  exact⟨sl,(sb.2 b (up b o e)).trans e1⟩
 ·obtain⟨o1,e1⟩:=I.base.there b o e hx
  exact⟨o1,(sb.2 b (up b o e)).trans e1⟩
 ·have ji:j≠i:=λz=>by
   subst z
   have:j < σ.length:=by have q:=(List.getElem?_eq_some_iff.mp e2).1;simpa using q
   rw[ku this] at e2
   cases e2
  rw[fX (bg ji)] at e2
  obtain⟨u,r,q⟩:=lk j y w e1 e2 e3
  refine⟨u,r,?_⟩
  rcases q with ⟨q1,q2⟩ | ⟨q1,c,q2,z⟩
  ·have yn:y≠n:=λz=>ji (oK hN e1 (z ▸ hi))
   exact .inl ⟨q1,by simp[yn,q2]⟩
  ·exact .inr ⟨q1,c,q2,z.sameBut sb (I.EB y c q2)⟩
 ·obtain⟨w,z⟩:=I.cell y c e
  exact⟨w,z.sameBut sb (I.EB y c e)⟩
 ·obtain⟨e,f,ne,nf,d⟩:=I.pin p hp
  exact⟨(sb.2 p.1 ne).trans e,f,ne,nf,d⟩
 ·refine(I.hok b u e).stay (λc w hc q=>(sb.2 c λz=>?_).trans q) (λ_ q=>q) λ_ _ q=>q
  have fr:=I.free
  rcases hc with hc | hc
  ·rw[<-z,hc,e] at fr;cases fr
  ·rw[<-z,hc] at fr;cases fr
def z_(cat:PySem.Str->Option Bool)(i:Nat)(gb gs:GS):GS:=λρ st=>match gb ρ st with
 | .err c ρ' st'=>(match cat c with
  | some true=>(match gs (ρ'.set i (some (.lC c))) st' with
   | .nx ρ2 st2=> .nx (ρ2.set i none) st2
   | .rt w st2=> .rt w st2
   | _=> .bad)
  | _=> .bad)
 | r=>r
theorem av.unset{K:PySem.W.Frag}{m:Mp}{H:Hp}{ρ:bA}{σ:St}(R:av K m H ρ σ)(i:Nat):av K m H (ρ.set i none) (σ.set i none):=by
 refine⟨by simp[R.len],λj w e=>?_⟩
 have ji:i≠j:=λz=>by
  subst z
  have:i < ρ.length:=by have q:=(List.getElem?_eq_some_iff.mp e).1;simpa using q
  rw[ku this] at e
  cases e
 rw[fX ji] at e ⊢
 exact R.get j w e
section
variable {X:Cx}
theorem Aa{M:Model}{A:Zl}{E:Zq->Zp->Prop}{s:Zp}{base h:Heap}{env:Env}{outer:List Env}{L a:Zk}{cls:Zq}{args:List Zq}{Q:Unit->Zp->Prop}(hfr:A.frames=some (env::outer))(hf:env.frame=some L)
  (st:base.StaysIn h)(fs:h.FunFrames base (env::outer))(mk:sL h s.heap a cls args)(k:∀h' a0,sI base (env::outer) a cls a0 h'->s.heap.UpToSlots h'->Q () { s with heap:=h' }) :
  ZG M A (noteFrame (.ref a) env) (λ_ s2=>ZG M A (setFlight (.ref a) none) Q E s2) E s:=by
 exact mG hfr hf st fs mk λh1 t hd1 up1=>uB hd1 λh2 vX Ow=>k h2 t vX (up1.trans Ow)
theorem jm.er{A:Zl}{b:Bool}{E:Zq->Zp->Prop}{pins gI:List (Zk×Obj)}{H H':Hp}{s s':Zp}{cls e:Zq}(f:jm (FK X A b (X.pn++pins) E) gI H s H' cls e s'):jm X pins H s H' cls e s' :=
 let ⟨a,a0,nt,B,ch,e1,e2,e3,hch,r⟩:=f
 ⟨a,a0,nt,B,ch,e1,e2,e3,λb hb=>let ⟨h1,h2,h3,h4,h5,h6⟩:=hch b hb;⟨h1,h2,h3,h4,h5,λp hp=>h6 p (kY _ hp)⟩,r⟩
theorem land{pins:List (Zk×Obj)}{σ:St}{Hc H':Hp}{sc s':Zp}{C:Zk}{e:Zq}{E:Zq->Zp->Prop}{Q:Unit->Zp->Prop}(K0:RH X)(I:Inv X pins σ Hc sc)
  (r:jm X pins Hc sc H' (.ref C) e s'\/(H'=Hc/\∃a args,e= .ref a/\s'.os=sc.os/\s'.gens=sc.gens/\sL sc.heap s'.heap a (.ref C) args))
  (k:∀(a:Zk)(a0:Zq)(B h5:Heap),e= .ref a->sI B X.stack a (.ref C) a0 h5->(∀h6 tk,sI B X.stack a (.ref C) a0 h6->h5.UpToSlots h6->∃o,zW o/\Inv X pins σ (upd H' a (.fu o (.ext (jl a C)))) { s' with heap:=h6,toks:=tk })->H' a=none->KG X a->Q () { s' with heap:=h5 }) :
  ZG (model X.prog X.w) X.A (noteFrame e X.env) (λ_ s2=>ZG (model X.prog X.w) X.A (setFlight e none) Q E s2) E s':=by
 have hfr:X.A.frames=some (X.env::X.outer):=by rw[I.ok.frames,K0.st]
 rcases r with ⟨a,a0,nt,B,ch,rfl,os,bare,hch,un,hok,fl,n4⟩ | ⟨rfl,a,args,rfl,ho,hg,M⟩
 ·rw[K0.st] at fl
  refine pd hfr K0.fr fl λh4 KL KN=>?_
  refine uB KL λh5 A8 KO=>?_
  rw[<-K0.st] at A8
  exact k a a0 B h5 rfl A8 (λh6 tk OB OC=>(jO I os bare hch un hok OB ((KN.trans KO).trans OC) n4).1) (jO (tk:=0) I os bare hch un hok A8 (KN.trans KO) n4).2.1 ((jO (tk:=0) I os bare hch un hok A8 (KN.trans KO) n4).2.2 K0.ex)
 ·have fs:sc.heap.FunFrames (PySem.W.hideAll sc.heap (frs X.stack)) (X.env::X.outer):=by
   rw[<-K0.st]
   exact PySem.W.funFrames_hide I.stack λenv he b hb=>List.mem_filterMap.mpr ⟨env,he,hb⟩
  refine Aa (base:=PySem.W.hideAll sc.heap (frs X.stack)) hfr K0.fr (λb o q=>PySem.W.of_hideAll _ q) fs M λh5 a0 A8 KO=>?_
  rw[<-K0.st] at A8
  have bare:AllBare s'.gens:=by rw[hg];exact I.bare
  have hok:j9 X.prog X.w H' (PySem.W.hideAll sc.heap (frs X.stack)):=lE I.hok I.gH
  have n4:∀b o,sc.heap.get? b=some o->b∉frs X.stack->b∉([]:List Zk)->∃o',(PySem.W.hideAll sc.heap (frs X.stack)).get? b=some o'/\(H' b=none->o'=o):=λb o q hb _=>⟨o,PySem.W.hideAll_get _ q hb,λ_=>rfl⟩
  have nil:∀b∈([]:List Zk),cG X pins H' b:=λb z=>by cases z
  exact k a a0 _ h5 rfl A8 (λh6 tk OB OC=>(jO I ho bare nil (Un.kept M.keeps) hok OB (KO.trans OC) n4).1) (jO (tk:=0) I ho bare nil (Un.kept M.keeps) hok A8 KO n4).2.1 ((jO (tk:=0) I ho bare nil (Un.kept M.keeps) hok A8 KO n4).2.2 K0.ex)
theorem KP{x n:Str}{D:Zk}{i:Nat}{body suite:List Stmt}{b₀:Stmt}{gb gs:GS}{np hp pos:Pos}{tb:Tab}{tt:uO}{tc:Tab}(K0:RH X)(hN:X.N.Nodup)(hi:X.N[i]? =some n)(hx:X.env.scope.names.lookup n=some .local)(hc:X.calm=true)(O:TabOk X.K tb tt tc)
  (hg:Gl X x)(hm:X.mg x=some (.ref D))(hD:ClsAt X.K x D)(hd:(x == ("__debug__":Str))=false)
  (hb:∀(pn:List (Zk×Obj))(E:Zq->Zp->Prop),mE (FK X X.A true pn E) body gb)(hs:∀(a:Zk)(o:Obj)(u:HO)(pn:List (Zk×Obj))(E:Zq->Zp->Prop),zW o->mE (Oz X a (.fu o u) pn E) (b₀::suite) gs) :
  JS X (.Try body [.ExceptHandler (some (.Name x np)) (some n) (b₀::suite) hp] [] [] pos) (z_ (λc=>tc.lookup (c,x)) i gb gs):=by
 intro ρ st σ H m D' S R p pins s I
 refine wpAny_Try_except ?_
 let hx':Zq->Zp->Prop:=λe s1=>ZG (model X.prog X.w) X.A (noteFrame e X.env) (λ_ s2=>ZG (model X.prog X.w) X.A (setFlight e none) (λ_ s3=>
  ZG (model X.prog X.w) X.A (handleBy e X.env [.ExceptHandler (some (.Name x np)) (some n) (b₀::suite) hp]) (SP X pins D') X.xe s3) X.xe s2) X.xe s1
 have hA:X.A.handled=none:=I.ok.hd hc
 have Ib:Inv (FK X X.A true (X.pn++pins) hx') [] σ H s:=Co I rfl λ_=>hA
 have post:aK (FK X X.A true (X.pn++pins) hx') m H (gb ρ st) D':=by
  unfold z_ at p
  cases eb:gb ρ st with
  | nx ρ1 st1=>rw[eb] at p;exact p
  | rt w1 st1=>rw[eb] at p;exact p
  | bk ρ1 st1=>rw[eb] at p;exact p
  | ct ρ1 st1=>rw[eb] at p;exact p
  | bad=>rw[eb] at p;exact p
  | err c ρ1 st1=>
   rw[eb] at p
   dsimp only at p
   cases ec:tc.lookup (c,x) with
   | none=>rw[ec] at p;exact aa p
   | some bc=>
    cases bc with
    | false=>rw[ec] at p;exact aa p
    | true=>
     rw[ec] at p
     dsimp only at p
     intro σ1 m1 H1 e s1 e1 S1 R1 rz
     obtain⟨C,gI,Hc,sc,hC,Ic,rz⟩:=rz
     obtain⟨zC,zD,RJ⟩:=O.cat c x true C D ec hC hD
     refine land K0 (pk I.ok Ic) (rz.imp jm.er id) λa a0 B h5 ea A8 inv hn hnew=>?_
     subst ea
     obtain⟨ox,_,I5⟩:=inv h5 s1.toks A8 (Kz _)
     obtain⟨o5,WE,hc5,_⟩:=(I5.hok a _ aL).2.1
     have Im:=Co (A':=X.A.mark (some (.ref a))) (cm:=false) (E:=λ_ _=>False) I5 rfl (λz=>by cases z)
     refine wpAny_handleBy_cons (codeAny_handlers_test (nU Im hg hm ?_ hd)) (by intro q;cases q)
     refine zX (b:=true) Im.zt zC zD RJ WE hc5 ?_
     refine codeAny_handlers_suite_as ?_
     refine uB A8 λh6 OB OC=>?_
     obtain⟨oy,nx,I6⟩:=inv h6 s1.toks OB OC
     have e6:Ext X.K m1 H1 m1 (upd H1 a (.fu oy (.ext (jl a C)))):=Ext.upd (.inl hn)
     have S6:aQ X.K m1 st1 (upd H1 a (.fu oy (.ext (jl a C)))):=S1.fresh hn
     have rv:aj X.K m1 (upd H1 a (.fu oy (.ext (jl a C)))) (.lC c) (.ref a):=by unfold aj;obtain⟨vs,d1,d2⟩:=nx;exact⟨a,C,rfl,hC,oy,vs,aL,d1,d2⟩
     refine kZ (v:=.ref a) I6 hN hi (.inl hx) rfl (λs7 I7=>?_) (.inr hx)
     have MZ:=KI (E:=λ_ _=>False) I7 aL hnew.1
     cases es:gs (ρ1.set i (some (.lC c))) st1 with
     | nx ρ2 st2=>
      rw[es] at p
      let D2:Ends:={ nx:=λσ' H'=>D'.nx (σ'.set i none) H',rt:=λ_ _=>False,bk:=λ_ _=>False,ct:=λ_ _=>False }
      have go:=hs a oy (.ext (jl a C)) (X.pn++pins) (λ_ _=>False) nx (ρ1.set i (some (.lC c))) st1 (σ1.set i (some (.ref a))) _ m1 D2 S6 ((R1.mono e6).set i rv) (by
       rw[es]
       exact λσ' m' H' e' S' R'=>p (σ'.set i none) m' H' (e1.trans (e6.trans e')) S' (av.unset R' i)) [] s7 MZ
      refine ZJ go (λf s8 h8=>?_) λ_ _ z=>z.elim
      cases f with
      | next=>
       obtain⟨σ8,H8,I8,q8⟩:=h8
       exact rB (Cp I.ok hnew I8) hN hi hx λs9 I9=>⟨_,H8,I9,q8⟩
      | brk=>obtain⟨_,_,_,q8⟩:=h8;exact q8.elim
      | cont=>obtain⟨_,_,_,q8⟩:=h8;exact q8.elim
      | ret u=>obtain⟨_,_,_,_,_,q8⟩:=h8;exact q8.elim
     | rt w2 st2=>
      rw[es] at p
      let D2:Ends:={ nx:=λ_ _=>False,rt:=D'.rt,bk:=λ_ _=>False,ct:=λ_ _=>False }
      have go:=hs a oy (.ext (jl a C)) (X.pn++pins) (λ_ _=>False) nx (ρ1.set i (some (.lC c))) st1 (σ1.set i (some (.ref a))) _ m1 D2 S6 ((R1.mono e6).set i rv) (by
       rw[es]
       exact λv' m' H' e' S' R'=>p v' m' H' (e1.trans (e6.trans e')) S' R') [] s7 MZ
      refine ZJ go (λf s8 h8=>?_) λ_ _ z=>z.elim
      cases f with
      | next=>obtain⟨_,_,_,q8⟩:=h8;exact q8.elim
      | brk=>obtain⟨_,_,_,q8⟩:=h8;exact q8.elim
      | cont=>obtain⟨_,_,_,q8⟩:=h8;exact q8.elim
      | ret u=>
       obtain⟨v8,σ8,H8,I8,r8,q8⟩:=h8
       exact rB (Cp I.ok hnew I8) hN hi hx λs9 I9=>⟨v8,_,H8,I9,r8,q8⟩
     | bk ρ2 st2=>rw[es] at p;exact aa p
     | ct ρ2 st2=>rw[es] at p;exact aa p
     | err c2 ρ2 st2=>rw[es] at p;exact aa p
     | bad=>rw[es] at p;exact aa p
 refine ZJ (hb (X.pn++pins) hx' ρ st σ H m D' S R post [] s Ib) (λf s1 h1=>?_) λe s1 h1=>h1
 have h2:=OA I.ok h1
 cases f with
 | next=>exact wpAny_execs_nil h2
 | brk=>exact h2
 | cont=>exact h2
 | ret u=>exact h2
end
section
variable {X:Cx}
def OD:List Wv->Hs->Re Wv
 | [.int i],st=>if i.natAbs.log2 < 1920 then .ok (.str (toString i:String)) st else .bad
 | _,_=> .bad
def j'(o v:Wv)(st:Hs):Re Wv:=match o with
 | .ref l=>(match st[l]? with
  | some (.lst ws)=>if ws.length < lim then .ok .aP (st.set l (.lst (ws++[v]))) else .bad
  | _=> .bad)
 | _=> .bad
def i7(mt:Wv->Wv->Hs->Re Wv)(go ga:GE):GE:=λρ st=>(go ρ st).bind λo st1=>match o with
 | .ref l=>(match ai st1 l with
  | some _=>(ga ρ st1).bind λv st2=>(mt o v st2).je
  | none=> .bad)
 | _=> .bad
def KQ(X:Cx)(id:String)(mt:Wv->Wv->Hs->Re Wv):Prop:=∃r,Hx X id r/\∀(o w:Wv)(x v:V)(st:Hs)(H:Hp)(m:Mp)(Q:VK),aQ X.K m st H->aj X.K m H o x->aj X.K m H w v->cb X.K m H (mt o w st) Q->r x [v] H Q
theorem wQ:KQ X "list.append" j':=⟨_,zK,λo w x v st H m Q S ro rw' p=>by
 cases o with
 | ref l=>
  unfold aj at ro
  obtain⟨a,rfl,ha⟩:=ro
  have p':cb X.K m H (match st[l]? with | some (.lst ws)=>if ws.length < lim then .ok .aP (st.set l (.lst (ws++[w]))) else .bad | _=> .bad) Q:=p
  cases e:st[l]? with
  | none=>rw[e] at p';exact aa p'
  | some ob=>
   cases ob with
   | dct kvs=>rw[e] at p';exact aa p'
   | BF kvs=>rw[e] at p';exact aa p'
   | BG kvs=>rw[e] at p';exact aa p'
   | nZ ns=>rw[e] at p';exact aa p'
   | lst ws=>
    rw[e] at p'
    dsimp only at p'
    by_cases c:ws.length < lim
    ·rw[if_pos c] at p'
     obtain⟨xs,h1,h2⟩:=S.rb ha e
     have e4:Ext X.K m H m (upd H a (.lst (xs++[v]))):=Ext.upd (.inr ⟨xs,h1⟩)
     exact⟨a,xs,v,rfl,rfl,h1,by rw[<-h2.length];exact J6 c,p' _ m _ e4 (S.write ha e (h2.append (af.cons rw' af.nil))) HK⟩
    ·rw[if_neg c] at p';exact aa p'
 | _=>exact aa p⟩
theorem sT{x name:Str}{id:String}{e:Expr}{go ga:GE}{p apos cpos:Pos}{mt:Wv->Wv->Hs->Re Wv}(hm:KQ X id mt)(slot:Slot "list" name id)(hty:typeOf (.builtin id)=pure (.type "method_descriptor"))(ho:JE X (.Name x p) go)(ha:JE X e ga)
  (hst:ZF [e] X.env=[(false,eval e X.env)])(hline:(apos.endLine == cpos.line)=true):JE X (.Call (.Attribute (.Name x p) name apos) [e] [] cpos) (i7 mt go ga):=by
 obtain⟨r,h1,h2⟩:=hm
 have hfew:((backTo cpos (ZF [e] X.env)).all (λx=> !x.1)&&(backToKw cpos (keywordEach [] X.env)).all (λx=>x.1.isSome)&&decide ([e].length+([]:List Keyword).length+(if([]:List Keyword).isEmpty then 0 else 1) < 30))=true:=by
  rw[hst];rfl
 refine JE.of (xX PySem.F.plainAttrs_list slot hty h1 aU fZ rfl hfew hline hst rfl) λρ st σ H m Q S R p=>?_
 refine ho.go S R (au.bind p) λo st1 v m1 H1 p1 e1 S1 ro=>?_
 cases o with
 | ref l=>
  dsimp only at p1
  cases el:ai st1 l with
  | none=>rw[el] at p1;exact aa p1
  | some WG=>
   rw[el] at p1
   dsimp only at p1
   have HS:=ro
   unfold aj at HS
   obtain⟨a,rfl,hla⟩:=HS
   obtain⟨xs,hq,_⟩:=S1.read hla el
   refine⟨.inl ⟨rfl,xs,hq⟩,?_⟩
   refine(n9 ha sM hst).go S1 (R.mono e1) (ok:=λws st2=>au X σ m H (match ws with | [w]=>(mt (.ref l) w st2).je | _=> .bad) (BM X.K m H Q)) ?_ λws st2 vs m2 H2 p2 e2 S2 rs=>?_
   ·have p3:=(au.bind p1).imp e1 (λ_ _ q=>q)
    show au X σ m1 H1 ((ga ρ st1).bind λx st1=>(aq ρ st1).bind λxs st2=> .ok (x::xs) st2) _
    cases eg:ga ρ st1 with
    | ok w st2=>rw[eg] at p3;exact p3
    | err c st2=>rw[eg] at p3;exact p3
    | bad=>rw[eg] at p3;exact p3
   ·match ws,rs,p2 with
    | [],rs,p2=>exact aa p2
    | [w],rs,p2=>
     obtain⟨v2,rfl,OE⟩:=jc rs
     exact h2 (.ref l) w (.ref a) v2 st2 H2 m2 Q S2 (aj.mono e2 _ _ ro) OE (cb.shift (au.je p2) (e1.trans e2))
    | _::_::_,rs,p2=>exact aa p2
 | _=>exact aa p1
end
section
variable {X:Cx}
def OF:List Wv->Hs->Re Wv
 | [.str z],st=> .ok (.str z) st
 | ws,st=>OD ws st
def OG:List Wv->Hs->Re Wv
 | [.int i],st=> .ok (.int i) st
 | [.bl b],st=> .ok (.int (if b then 1 else 0)) st
 | _,_=> .bad
theorem KR:dQ X (.type "int") OG:=⟨_,zF,λws vs st H m Q S rs p=>by
 match ws,rs,p with
 | [],rs,p=>exact aa p
 | x::y::t,rs,p=>cases x<;>exact aa p
 | [x],rs,p=>
  obtain⟨v,rfl,r1⟩:=jc rs
  cases x with
  | int i=>cases a6 r1;exact .inl ⟨i,rfl,p _ m H Ext.refl S mkInt⟩
  | bl b=>cases N_ r1;exact .inr ⟨b,rfl,p _ m H Ext.refl S mkInt⟩
  | _=>exact aa p⟩
def RK:List Wv->Hs->Re Wv
 | [.int i,.int j],st=> .ok (.int (if j > i then j else i)) st
 | _,_=> .bad
def RL:List Wv->Hs->Re Wv
 | [.int i,.int j],st=> .ok (.int (if j < i then j else i)) st
 | _,_=> .bad
def sU:List Nat->List Wv->bA->Option bA
 | [],[],ρ=>some ρ
 | i::is,w::ws,ρ=>sU is ws (ρ.set i (some w))
 | _,_,_=>none
def KS(is:List Nat)(w:Wv)(ρ:bA):Option bA:=match w with
 | .tup ws=>sU is ws ρ
 | _=>none
def RM:List Nat->Hr
 | []=>L2.aq
 | i::is=>L2.ae (ur i) (RM is)
theorem lI{m:Mp}{H:Hp}{Q:St->Hp->Prop}:∀{is:List Nat}{ws:List Wv}{xs:List V}{ρ ρ':bA}{σ:St},af X.K m H ws xs->av X.K m H ρ σ->sU is ws ρ=some ρ'->(∀σ',av X.K m H ρ' σ'->Q σ' H)->RM is xs σ H Q
 | [],[],xs,ρ,ρ',σ,r,R,e,k=>by
  unfold af at r
  subst r
  cases e
  exact⟨rfl,k σ R⟩
 | i::is,w::ws,xs,ρ,ρ',σ,r,R,e,k=>by
  unfold af at r
  obtain⟨x,rr,rfl,h1,h2⟩:=r
  exact⟨x,rr,rfl,lI (is:=is) h2 (R.set i h1) e k⟩
 | [],_::_,_,_,_,_,_,_,e,_=>by cases e
 | _::_,[],_,_,_,_,_,_,e,_=>by cases e
theorem pv:∀{is:List Nat}{ws:List Wv}{ρ ρ':bA},sU is ws ρ=some ρ'->ws.length=is.length
 | [],[],_,_,_=>rfl
 | _::is,_::ws,_,_,e=>congrArg (· +1) (pv (is:=is) (ws:=ws) e)
 | [],_::_,_,_,e=>by cases e
 | _::_,[],_,_,e=>by cases e
inductive Slots(X:Cx):List Expr->List Nat->Prop
 | nil:Slots X [] []
 | cons {x:Str} {p:Pos} {i:Nat} {es:List Expr} {is:List Nat}:X.N[i]? =some x->(Loc X.env.scope x/\(X.fn x=true\/X.env.scope.names.lookup x=some .local))->Slots X es is->Slots X (.Name x p::es) (i::is)
theorem jP(hN:X.N.Nodup):∀{es:List Expr}{is:List Nat},Slots X es is->Nt X es (RM is)
 | _,_,.nil=>EY
 | _,_,.cons h1 h2 r=>Bl (sf hN h1 h2.1 h2.2) (jP hN r) rfl
theorem lJ:∀{es:List Expr}{is:List Nat},Slots X es is->(assignEach es X.env).length=is.length
 | _,_,.nil=>rfl
 | _,_,.cons _ _ r=>congrArg (· +1) (lJ r)
theorem jQ:∀{es:List Expr}{is:List Nat},Slots X es is->(assignEach es X.env).findIdx? (·.1)=none
 | _,_,.nil=>rfl
 | _,_,.cons (x:=x) (p:=p) (es:=es) _ _ r=>by
  have q:=jQ r
  show List.findIdx? _ ((false,assign (.Name x p) X.env)::assignEach es X.env)=none
  rw[Cq]
  simp[q]
open Classical in
def gN(is:List Nat)(gb:GS)(l:Nat)(all:List Wv):List Wv->bA->Hs->Rs
 | [],ρ,st=> .nx ρ st
 | w::r,ρ,st=>match KS is w ρ with
  | none=> .bad
  | some ρ1=>match gb ρ1 st with
   | .nx ρ' st'=>if ai st' l=some all then gN is gb l all r ρ' st' else .bad
   | .ct ρ' st'=>if ai st' l=some all then gN is gb l all r ρ' st' else .bad
   | .bk ρ' st'=> .nx ρ' st'
   | .rt w st'=> .rt w st'
   | .err c ρ' st'=> .err c ρ' st'
   | .bad=> .bad
def rC(is:List Nat)(gi:GE)(gb:GS):GS:=λρ st=>(gi ρ st).bH ρ λw st1=>match w with
 | .ref l=>(match ai st1 l with | some ws=>gN is gb l ws ws ρ st1 | none=> .bad)
 | _=> .bad
theorem FO{es:List Expr}{is:List Nat}{k:Nat}{iter:Expr}{body:List Stmt}{gi:GE}{gb:GS}{pos pos':Pos}(hN:X.N.Nodup)(hp:PassesOwn (model X.prog X.w) X.A X.env X.xe)(hc:X.calm=true)(sl:Slots X es is)(hi:JE X iter gi)(hb:mE X body gb)
  (hs:∀x,Zy iter X.env x=pure x):JS X (.For (.Tuple es k pos') iter body [] pos) (rC is gi gb):=by
 refine JS.of (sh hp hc (EZ aU) (v_ hc (jP hN sl) (lJ sl) (jQ sl)) gK hs) λρ st σ H m D S R p=>?_
 refine hi.go S R (aK.dO R p) λw st1 v m1 H1 p1 e1 S1 rw'=>?_
 cases w with
 | ref l=>
  have p1':aK X m H (match ai st1 l with | some ws=>gN is gb l ws ws ρ st1 | none=> .bad) D:=p1
  unfold aj at rw'
  obtain⟨a,rfl,hla⟩:=rw'
  cases el:ai st1 l with
  | none=>rw[el] at p1';exact aa p1'
  | some ws=>
   rw[el] at p1'
   obtain⟨HR,q0,_⟩:=S1.read hla el
   refine⟨a,rfl,⟨HR,q0⟩,?_⟩
   let Pv:Nat->St->Hp->Prop:=λk σ H=>∃ρ st m',Ext X.K m1 H1 m' H/\aQ X.K m' st H/\av X.K m' H ρ σ/\ai st l=some ws/\aK X m' H (gN is gb l ws (ws.drop k) ρ st) D
   refine⟨λk n σ H=>n=ws.length - k/\k<=ws.length/\Pv k σ H,⟨ws.length,by simp,bF _,ρ,st1,m1,Ext.refl,S1,R.mono e1,el,aK.shift p1' e1⟩,?_⟩
   rintro k n σ2 H2 ⟨rfl,hk,ρ2,st2,m2,e2,S2,R2,l2,p2⟩
   obtain⟨xs,hq,rws⟩:=S2.read (e2.pre _ _ hla) l2
   have hlen:=rws.length
   by_cases hlt:k < ws.length
   ·have hx':k < xs.length:=by omega
    refine .inr ⟨⟨xs,xs[k],hq,by simp[hx']⟩,Pv (k+1),λσ' H' p'=>⟨ws.length - (k+1),by omega,rfl,hlt,p'⟩,λx H' y=>?_⟩
    obtain⟨ee,y⟩:=y
    subst ee
    have ey:=y xs hq
    have ed:ws.drop k=ws[k]::ws.drop (k+1):=ph hlt
    obtain⟨x',ex',mJ⟩:=rws.get (i:=k) (w:=ws[k]) (cq hlt)
    rw[ey] at ex'
    cases ex'
    rw[ed] at p2
    unfold gN at p2
    cases eb:ws[k] with
    | tup us=>
     rw[eb] at p2 mJ
     dsimp only[KS] at p2
     cases e5:sU is us ρ2 with
     | none=>rw[e5] at p2;exact aa p2
     | some ρ5=>
      rw[e5] at p2
      dsimp only at p2
      unfold aj at mJ
      obtain⟨b,ys,rfl,f1,f2⟩:=mJ
      refine⟨b,ys,rfl,dh.of f1,by rw[<-f2.length];exact pv e5,lI f2 R2 e5 λσ5 R5=>?_⟩
      refine hb _ st2 _ _ m2 _ S2 R5 ?_
      cases eg:gb ρ5 st2 with
      | nx ρ3 st3=>
       rw[eg] at p2
       by_cases c:ai st3 l=some ws
       ·simp only[if_pos c] at p2
        exact λσ3 m3 H3 e3 S3 R3=>⟨ρ3,st3,m3,e2.trans e3,S3,R3,c,aK.shift p2 e3⟩
       ·simp only[if_neg c] at p2;exact aa p2
      | ct ρ3 st3=>
       rw[eg] at p2
       by_cases c:ai st3 l=some ws
       ·simp only[if_pos c] at p2
        exact λσ3 m3 H3 e3 S3 R3=>⟨ρ3,st3,m3,e2.trans e3,S3,R3,c,aK.shift p2 e3⟩
       ·simp only[if_neg c] at p2;exact aa p2
      | bk ρ3 st3=>rw[eg] at p2;exact p2
      | rt w3 st3=>rw[eg] at p2;exact p2
      | err c3 ρ3 st3=>rw[eg] at p2;exact p2
      | bad=>rw[eg] at p2;exact p2
    | _=>rw[eb] at p2;exact aa p2
   ·have e:k=ws.length:=by omega
    subst e
    rw[pj] at p2
    exact .inl ⟨⟨xs,hq,by omega⟩,p2 σ2 m2 H2 Ext.refl S2 R2⟩
 | _=>exact aa p1
end
def kg(env:Env):List (Str×Zn)->List (Str×Zk)->List (Str×Zk)
 | [],acc=>acc
 | (n,k)::r,acc=>if k= .free then kg env r ((n,(env.cells.lookup n).getD 0)::acc) else kg env r acc
theorem uP(env:Env):∀(names:List (Str×Zn))(acc:List (Str×Zk)),(∀y∈names,y.2= .free->∃c,env.cells.lookup y.1=some c)->
  (forIn names acc λx r=>match x with
   | (name,kind)=>if(kind == cX)=true then do let c <-cellOf env name;pure (kG ((name,c)::r)) else(pure (kG r):Sem _))=pure (kg env names acc)
 | [],acc,_=>rfl
 | (n,k)::r,acc,h=>by
  have ih:=λacc=>uP env r acc λy hy=>h y (aD _ hy)
  rw[sV]
  by_cases hk:k= .free
  ·subst hk
   obtain⟨c,e⟩:=h (n,.free) aI rfl
   have e':env.cells.lookup n=some c:=e
   have cc:cellOf env n=pure c:=by unfold cellOf;rw[e']
   simp only[beq_self_eq_true,if_true,cc]
   have q:kg env ((n,.free)::r) acc=kg env r ((n,c)::acc):=by
    show(if cX= .free then kg env r ((n,(env.cells.lookup n).getD 0)::acc) else _)=_
    rw[if_pos rfl,e']
    rfl
   rw[q,<-ih]
   rfl
  ·have hb:(k == cX)=false:=by simpa using hk
   simp only[hb,pz,if_false]
   have q:kg env ((n,k)::r) acc=kg env r acc:=by
    show(if k= .free then _ else kg env r acc)=_
    rw[if_neg hk]
   rw[q,<-ih]
   rfl
theorem yd{env:Env}{scope:Scope}(h:∀y∈scope.names,y.2= .free->∃c,env.cells.lookup y.1=some c):closureFor scope env=pure (kg env scope.names []):=by
 have q:=uP env scope.names [] h
 unfold closureFor
 first
  | (rw[<-q];rfl)
  | (simp only[bind_pure];exact q)
theorem sW{env:Env}:∀{names:List (Str×Zn)}{acc:List (Str×Zk)}{y:Str}{c:Zk},(∀y∈names,y.2= .free->∃c,env.cells.lookup y.1=some c)->(∀y c,acc.lookup y=some c->env.cells.lookup y=some c)->(kg env names acc).lookup y=some c->env.cells.lookup y=some c
 | [],acc,y,c,_,ha,e=>ha y c e
 | (n,k)::r,acc,y,c,h,ha,e=>by
  unfold kg at e
  by_cases hk:k= .free
  ·rw[if_pos hk] at e
   subst hk
   obtain⟨c0,e0⟩:=h (n,.free) aI rfl
   have WH:env.cells.lookup n=some c0:=e0
   refine sW (λy hy=>h y (aD _ hy)) (λy' c' e'=>?_) e
   rw[eK] at e'
   cases q:y' == n with
   | true=>
    rw[q] at e'
    have q':=eq_of_beq q
    subst q'
    rw[WH] at e' ⊢
    exact e'
   | false=>rw[q] at e';exact ha y' c' e'
  ·rw[if_neg hk] at e
   exact sW (λy hy=>h y (aD _ hy)) ha e
theorem og{env:Env}{y:Str}:∀{names:List (Str×Zn)}{acc:List (Str×Zk)},((∃c,acc.lookup y=some c)\/(y,cX)∈names)->∃c,(kg env names acc).lookup y=some c
 | [],acc,h=>by
  rcases h with h | h
  ·exact h
  ·cases h
 | (n,k)::r,acc,h=>by
  unfold kg
  by_cases hk:k= .free
  ·rw[if_pos hk]
   refine og ?_
   rw[eK]
   cases q:y == n with
   | true=>exact .inl ⟨_,rfl⟩
   | false=>
    rcases h with h | h
    ·exact .inl h
    ·rcases List.mem_cons.mp h with h | h
     ·cases h;simp at q
     ·exact .inr h
  ·rw[if_neg hk]
   refine og ?_
   rcases h with h | h
   ·exact .inl h
   ·rcases List.mem_cons.mp h with h | h
    ·cases h;exact absurd rfl hk
    ·exact .inr h
theorem lookup_mem{α β:Type}[BEq α][LawfulBEq α]{y:α}{k:β}:∀{names:List (α×β)},names.lookup y=some k->(y,k)∈names
 | [],h=>by cases h
 | (n,j)::r,h=>by
  rw[eK] at h
  cases q:y == n with
  | true=>
   rw[q] at h
   cases h
   have q':=eq_of_beq q
   subst q'
   exact aI
  | false=>rw[q] at h;exact aD _ (lookup_mem h)
theorem pA{env:Env}:∀{names:List (Str×Zn)}{y:Str},(names.map λ(n,k)=>if(k == cX&&env.scope.kind == .function&&env.kindOf n == some .cell) then(n,oh) else(n,k)).lookup y=
  (names.lookup y).map λk=>if(k == cX&&env.scope.kind == .function&&env.kindOf y == some .cell)=true then oh else k
 | [],y=>rfl
 | (n,k)::r,y=>by
  have ih:=pA (env:=env) (names:=r) (y:=y)
  show sX y ((if(k == cX&&env.scope.kind == .function&&env.kindOf n == some .cell)=true then(n,oh) else(n,k))::_)=_
  cases q:y == n with
  | true=>
   have q':=eq_of_beq q
   subst q'
   by_cases hc:(k == cX&&env.scope.kind == .function&&env.kindOf y == some .cell)=true
   ·rw[if_pos hc]
    simp only[eK,beq_self_eq_true,kX]
    rw[if_pos hc]
   ·rw[if_neg hc]
    simp only[eK,beq_self_eq_true,kX]
    rw[if_neg hc]
  | false=>
   by_cases hc:(k == cX&&env.scope.kind == .function&&env.kindOf n == some .cell)=true
   ·rw[if_pos hc];simp only[eK,q];exact ih
   ·rw[if_neg hc];simp only[eK,q];exact ih
open Classical in
def fA(ck:Hs->Prop)(gt:Wv->Hs->Re Bool)(ge:Wv->Hs->Re Wv)(l:Nat):List Wv->Hs->Option Hs
 | [],st=>some st
 | w::r,st=>match gt w st with
  | .ok false st1=>if ck st1 then fA ck gt ge l r st1 else none
  | .ok true st1=>(match ge w st1 with
   | .ok v st2=>(match j' (.ref l) v st2 with
    | .ok _ st3=>if ck st3 then fA ck gt ge l r st3 else none
    | _=>none)
   | _=>none)
  | _=>none
open Classical in
def iF(ck:Hs->Prop)(gt:Wv->Hs->Re Bool)(ge:Wv->Hs->Re Wv)(l:Nat):List Wv->Hs->Re Unit
 | [],st=> .ok () st
 | w::r,st=>match gt w st with
  | .ok false st1=>if ck st1 then iF ck gt ge l r st1 else .bad
  | .ok true st1=>(match ge w st1 with
   | .ok v st2=>(match j' (.ref l) v st2 with
    | .ok _ st3=>if ck st3 then iF ck gt ge l r st3 else .bad
    | _=> .bad)
   | .err c st2=> .err c st2
   | .bad=> .bad)
  | .err c st1=> .err c st1
  | .bad=> .bad
theorem pB{ck:Hs->Prop}{gt:Wv->Hs->Re Bool}{ge:Wv->Hs->Re Wv}{l:Nat}{lK:Hs}:∀(ws:List Wv)(st:Hs),fA ck gt ge l ws st=some lK->iF ck gt ge l ws st= .ok () lK
 | [],st,h=>by cases h;rfl
 | w::r,st,h=>by
  unfold fA at h
  unfold iF
  cases eg:gt w st with
  | err c st1=>rw[eg] at h;cases h
  | bad=>rw[eg] at h;cases h
  | ok b st1=>
   rw[eg] at h
   cases b with
   | false=>
    dsimp only at h ⊢
    by_cases c:ck st1
    ·rw[if_pos c] at h ⊢;exact pB r st1 h
    ·rw[if_neg c] at h;cases h
   | true=>
    dsimp only at h ⊢
    cases ee:ge w st1 with
    | err c st2=>rw[ee] at h;cases h
    | bad=>rw[ee] at h;cases h
    | ok v st2=>
     rw[ee] at h
     dsimp only at h ⊢
     cases ea:j' (.ref l) v st2 with
     | err c st3=>rw[ea] at h;cases h
     | bad=>rw[ea] at h;cases h
     | ok u st3=>
      rw[ea] at h
      dsimp only at h ⊢
      by_cases c:ck st3
      ·rw[if_pos c] at h ⊢;exact pB r st3 h
      ·rw[if_neg c] at h;cases h
abbrev dm:=List (Str×Nat)
def cL(cs:dm)(ρ:bA):bA:=cs.map λp=>(ρ[p.2]?).getD none
def lL(cs:dm)(σ:St):St:=cs.map λp=>(σ[p.2]?).getD none
theorem ye{K:PySem.W.Frag}{m:Mp}{H:Hp}{ρ:bA}{σ:St}(cs:dm)(R:av K m H ρ σ):av K m H (cL cs ρ) (lL cs σ):=by
 refine⟨by unfold cL lL;simp,λi w e=>?_⟩
 unfold cL at e
 rw[ie] at e
 cases q:cs[i]? with
 | none=>rw[q] at e;cases e
 | some p=>
  rw[q] at e
  have e':(ρ[p.2]?).getD none=some w:=by simpa using e
  cases q2:ρ[p.2]? with
  | none=>rw[q2] at e';cases e'
  | some o=>
   rw[q2] at e'
   have e2:o=some w:=e'
   subst e2
   obtain⟨v,h1,h2⟩:=R.get _ _ q2
   refine⟨v,?_,h2⟩
   unfold lL
   rw[ie,q]
   simp[h1]
def eF(X:Cx)(scope:Scope)(x:Str)(cs:dm)(C:Zk)(s0:Zp)(H0:Hp)(fp:List Zk)(pn:List (Zk×Obj))(E:Zq->Zp->Prop):Cx where
 prog:=X.prog
 w:=X.w
 K:=X.K
 mg:=X.mg
 base:=X.base
 A:=X.A
 N:=x::cs.map (·.1)
 s₀:=s0
 H₀:=H0
 env:=compEnvC scope (kg X.env scope.names []) C X.env
 outer:=X.stack
 stack:=X.stack
 ex:=fp
 fn:=λ_=>false
 calm:=X.calm
 pn:=pn
 xe:=E
structure dE(X:Cx)(scope:Scope)(x:Str)(cs:dm):Prop where
 kind:scope.kind= .function
 look:∀y∈scope.names,scope.names.lookup y.1=some y.2
 cell:∀y∈scope.names,y.2≠.cell
 var:scope.names.lookup x=some .local
 cap:∀y∈scope.names,y.2= .free->X.env.kindOf y.1=some .cell\/X.env.kindOf y.1=some .free
 at_:∀p∈cs,X.N[p.2]? =some p.1/\scope.names.lookup p.1=some .free
 nd:(x::cs.map (·.1)).Nodup
section
variable {X:Cx} {pins:List (Zk×Obj)} {σ:St} {H:Hp} {s:Zp} {scope:Scope} {x:Str} {cs:dm}
theorem jo(I:Inv X pins σ H s){b:Zk}(f:cG X pins H b):b∉frs X.stack:=λz=>by
 rcases List.mem_cons.mp (I.hV b z) with q | q
 ·exact f.2.1 q
 ·exact f.2.2.1 q
theorem dE.has(S:dE X scope x cs)(ok:X.Ok):∀y∈scope.names,y.2= .free->∃c,X.env.cells.lookup y.1=some c:=λy hy e=>ok.has y.1 (S.cap y hy e)
theorem dE.sub(S:dE X scope x cs)(ok:X.Ok){y:Str}{c:Zk}(e:(kg X.env scope.names []).lookup y=some c):X.env.cells.lookup y=some c :=
 sW (S.has ok) (λ_ _ z=>by cases z) e
theorem dE.KU(S:dE X scope x cs)(ok:X.Ok){C:Zk}{y:Str}(h:(compEnvC scope (kg X.env scope.names []) C X.env).kindOf y=some .cell\/(compEnvC scope (kg X.env scope.names []) C X.env).kindOf y=some .free):scope.names.lookup y=some .free:=by
 have q:(compEnvC scope (kg X.env scope.names []) C X.env).kindOf y=(scope.names.lookup y).map λk=>if(k == cX&&X.env.scope.kind == .function&&X.env.kindOf y == some .cell)=true then oh else k:=pA
 rw[q] at h
 cases e:scope.names.lookup y with
 | none=>rw[e] at h;simp at h
 | some k=>
  rw[e] at h
  simp only[kX,Option.some.injEq] at h
  by_cases hk:k= .free
  ·rw[hk]
  ·have hb:(k == cX)=false:=by simpa using hk
   rw[hb] at h
   simp only[Bool.false_and,pz,if_false] at h
   rcases h with h | h
   ·exact absurd h (S.cell (y,k) (lookup_mem e))
   ·exact absurd h hk
theorem dE.Cr(S:dE X scope x cs){C:Zk}{y:Str}(e:scope.names.lookup y=some .free):(compEnvC scope (kg X.env scope.names []) C X.env).kindOf y=some .cell\/(compEnvC scope (kg X.env scope.names []) C X.env).kindOf y=some .free:=by
 have q:(compEnvC scope (kg X.env scope.names []) C X.env).kindOf y=(scope.names.lookup y).map λk=>if(k == cX&&X.env.scope.kind == .function&&X.env.kindOf y == some .cell)=true then oh else k:=pA
 rw[q,e]
 simp only[kX]
 split
 ·exact .inl rfl
 ·exact .inr rfl
theorem uQ{fp:List Zk}{h2:Heap}{tk:Nat}{E:Zq->Zp->Prop}(S:dE X scope x cs)(I:Inv X pins σ H s)(hf:∀b∈fp,cG X pins H b)(hl:∀b∈fp,b < s.heap.objs.size)
  (ns:h2.Ns s.heap.objs.size (λy=>([]:List (Str×Zq)).reverse.lookup y))(sb:oM s.heap.objs.size (s.heap.push { cls:=.type "dict",data:=.dict #[] }) h2) :
  Inv (eF X scope x cs s.heap.objs.size s H fp (X.pn++pins) E) [] (none::lL cs σ) H { s with heap:=h2,toks:=tk }:=by
 have keep:∀b o,s.heap.get? b=some o->h2.get? b=some o:=λb o e=>(sb.2 b (aN (ax e))).trans (aE _ e)
 have sub:∀{y:Str}{c:Zk},(kg X.env scope.names []).lookup y=some c->X.env.cells.lookup y=some c:=λe=>S.sub I.ok e
 have cellK:∀y c,X.env.cells.lookup y=some c->∀v,s.heap.IsCell c v->h2.IsCell c v:=λy c _ v ⟨o,ho,hd⟩=>⟨o,keep c o ho,hd⟩
 refine⟨⟨I.ok.mod,S.kind,I.ok.glob,I.ok.blt,ak _,(λy z c e1 e2=>I.ok.inj y z c (sub e1) (sub e2)),λy h=>og (.inr (lookup_mem (S.KU I.ok h))),(λy c e=>by cases e),I.ok.hd,I.ok.frames,.inl rfl,λb hb=>⟨aN (hl b hb),λy c e=>(hf b hb).2.2.2.2.1 y c (sub e)⟩,I.bs,bE I.ok.A6 I.sz,λb o e hb=>?_,λb hb=>jo I (hf b hb),I.stack,I.gH⟩,rfl,I.bare,Un.kept keep,⟨_,ns,λi y v e1 e2 e3=>?_⟩,(λy c e=>?_),I.fresh,(λy c e=>I.fW y c (sub e)),λp hp=>?_,I.hok.kept keep,by unfold eF lL;simp⟩
 ·rcases(hf b hb).2.2.2.1 with z | z
  ·exact I.ok.zr b o e z
  ·exact absurd (aM (ax e) (bE I.ok.A6 z)) (bX _)
 ·cases i with
  | zero=>cases e2
  | succ i=>
   have EE:(cs.map (·.1))[i]? =some y:=e1
   have KW:(lL cs σ)[i]? =some (some v):=e2
   unfold lL at KW
   rw[ie] at EE KW
   cases q:cs[i]? with
   | none=>rw[q] at EE;cases EE
   | some p=>
    rw[q] at EE KW
    have y1:p.1=y:=by simpa using EE
    have e4:(σ[p.2]?).getD none=some v:=by simpa using KW
    have e5:σ[p.2]? =some (some v):=by
     cases q2:σ[p.2]? with
     | none=>rw[q2] at e4;cases e4
     | some o=>
      rw[q2] at e4
      have:o=some v:=e4
      rw[this]
    have hp:=S.at_ p (List.mem_iff_getElem?.mpr ⟨i,q⟩)
    rw[y1] at hp
    have kd:=S.cap (y,.free) (lookup_mem hp.2) rfl
    obtain⟨m,hn,hl'⟩:=I.loc
    obtain⟨u,r,l⟩:=hl' p.2 y v hp.1 e5 (.inr kd)
    refine⟨u,r,.inr ⟨S.Cr hp.2,?_⟩⟩
    rcases l with ⟨l,_⟩ | ⟨_,c,e,z⟩
    ·rcases kd with kd | kd
     ·have RN:X.env.kindOf y=some .cell:=kd
      rw[RN] at l;cases l
     ·have RN:X.env.kindOf y=some .free:=kd
      rw[RN] at l;cases l
    ·obtain⟨c',e'⟩:=og (env:=X.env) (y:=y) (names:=scope.names) (acc:=[]) (.inr (lookup_mem hp.2))
     have:=sub e'
     rw[e] at this
     cases this
     exact⟨c,e',cellK y c e _ z⟩
 ·obtain⟨v,z⟩:=I.cell y c (sub e)
  exact⟨v,cellK y c (sub e) v z⟩
 ·rw[hX] at hp
  obtain⟨e,n,ne,nf,d⟩:=I.pin p hp
  refine⟨keep _ _ e,n,aN (ax e),λz=>?_,d⟩
  rcases List.mem_cons.mp (I.hV p.1 z) with q | q
  ·exact ne q
  ·exact nf q
theorem uR{fp:List Zk}{E:Zq->Zp->Prop}{Hb He:Hp}{sb se:Zp}{C:Zk}{σ':St}{gI:List (Zk×Obj)}(I:Inv X pins σ Hb sb)(hf:∀b∈fp,cG X pins Hb b)(J:Inv (eF X scope x cs C sb Hb fp (X.pn++pins) E) gI σ' He se):Inv X pins σ He se:=by
 have un:Un (frs X.stack) fp Hb He sb.heap se.heap:=J.base
 exact I.qU (ch:=fp) J.os un J.hok J.bare λb hb=>⟨(hf b hb).2.2.2.1,(hf b hb).2.1,(hf b hb).2.2.2.2.1,λp hp=>(hf b hb).2.2.2.2.2 p hp⟩
theorem jR{He:Hp}{se:Zp}{C:Zk}{h2:Heap}(I:Inv X pins σ He se)(f:cG X pins He C)(same:oM C se.heap h2):Inv X pins σ He { se with heap:=h2 } :=
 I.turned (t':=se.toks) (it:=C) (λb o hb e=>(same.2 b hb).trans e) f.1 f.2.1 f.2.2.2.1 f.2.2.2.2.1 f.2.2.2.2.2
end
def Ab(X:Cx):Prop:=∃(env:Env)(outer:List Env)(L:Zk),X.stack=env::outer/\env.frame=some L/\X.env.frame=some L
theorem Cs{e:Zq}{env env':Env}(h:env.frame=env'.frame):noteFrame e env=noteFrame e env':=by
 unfold noteFrame PySem.frameOf
 rw[h]
theorem lM{B B' h h':Heap}(st:B'.StaysIn B):∀{l:List Env},h.FunFrames B l->(∀b∈frs l,∀o,h.get? b=some o->(∀vs,o.data≠.fields vs)->h'.get? b=some o)->h'.FunFrames B' l
 | [],_,_=>trivial
 | env::r,⟨hk,⟨L,o,hf,hn,ho,hd⟩,hr⟩,k=>by
  refine⟨hk,⟨L,o,hf,?_,k L (List.mem_filterMap.mpr ⟨env,aI,hf⟩) o ho hd,hd⟩,lM st hr λb hb=>k b ?_⟩
  ·cases q:B'.get? L with
   | none=>rfl
   | some u=>rw[st L u q] at hn;cases hn
  ·obtain⟨e,he,hb⟩:=List.mem_filterMap.mp hb
   exact List.mem_filterMap.mpr ⟨e,aD _ he,hb⟩
section
variable {X:Cx} {pins:List (Zk×Obj)} {σ:St} {scope:Scope} {x:Str} {cs:dm}
theorem pC{Hc H':Hp}{sc s':Zp}{C a Cl L:Zk}{a0 acc:Zq}{B h4:Heap}{ch:List Zk}{mm:Str->Option Zq}{use:Option (Zq->Sem Unit)}{Q:Zq->Zp->Prop}{c:Str}
  (hC:ClsAt X.K c Cl)(Io:Inv X pins σ Hc sc)(fC:cG X pins Hc C)(ns:sc.heap.Ns C mm)(os:s'.os=sc.os)(bare:AllBare s'.gens)(hch:∀b∈ch,cG X pins Hc b)(nC:C∉ch)(un:Un (frs X.stack) ch Hc H' sc.heap s'.heap)(hok:j9 X.prog X.w H' B)
  (hd:xY B X.stack a (.ref Cl) a0 L h4)(up:s'.heap.UpToSlots h4)(n4:∀b o,sc.heap.get? b=some o->b∉frs X.stack->b∉ch->∃o',B.get? b=some o'/\(Hc b=none->o'=o))(k:∀s5,kE X σ H' c (.ref a) s5->X.xe (.ref a) s5) :
  Zw (model X.prog X.w) X.A X.xe use Q acc C (.error (.ref a)) { s' with heap:=h4 }:=by
 have U0:C∉frs X.stack:=jo Io fC
 obtain⟨oC,es,ep,U1,dC,sk⟩:=ns
 obtain⟨YR,gC,eC⟩:=n4 C oC U1 U0 nC
 rw[eC fC.1] at gC
 obtain⟨d1,d2,d3,oe,vs,T,oT,ts,t1,t2,t3,t4,t5,t6,t7,t8,t9⟩:=hd
 have aC:a≠C:=λz=>by rw[z,gC] at d2;cases d2
 have TC:T≠C:=λz=>by rw[z,gC] at t5;cases t5
 have lt:3 < ts.size:=(Array.getElem?_eq_some_iff.mp t9).1
 have EN:∀b∈frs X.stack,b∉ch:=λb hb z=>jo Io (hch b z) hb
 have go:∃m,h4.Ns C m/\∀h',oM C h4 h'->∀cenv:Env,cenv.locals=C->ZG (model X.prog X.w) X.A (PySem.passOn "comprehension.variables-let-go" (.ref a) cenv:Sem Zq) (λ_ _=>False) X.xe { s' with heap:=h' }:=by
  refine⟨mm,⟨oC,es,ep,d1 C oC gC,dC,sk⟩,λh' same cenv _=>?_⟩
  have ga:h'.get? a=some oe:=(same.2 a aC).trans t1
  have gT:h'.get? T=some oT:=(same.2 T TC).trans t7
  have fin:∀nt:Zq,X.xe (.ref a) { s' with heap:=h'.update T (eS (·.setIfInBounds 3 nt)) }:=λnt=>by
   have other:∀b,b≠T->(h'.update T (eS (·.setIfInBounds 3 nt))).get? b=h'.get? b:=λb hb=>my _ _ (bg hb)
   have gB:∀b o,B.get? b=some o->b≠C->(h'.update T (eS (·.setIfInBounds 3 nt))).get? b=some o:=λb o q n=>(other b λz=>by rw[z,t5] at q;cases q).trans ((same.2 b n).trans (d1 b o q))
   have gF:∀b∈frs X.stack,∀o,h4.get? b=some o->(∀vs,o.data≠.fields vs)->(h'.update T (eS (·.setIfInBounds 3 nt))).get? b=some o:=λb hb o q n=>(other b λz=>by
    rw[z,t7] at q
    cases q
    exact n ts t8).trans ((same.2 b λz=>U0 (z ▸ hb)).trans q)
   have sl:∀b o,sc.heap.get? b=some o->Hc b=none->b∈frs X.stack->∃sl,(h'.update T (eS (·.setIfInBounds 3 nt))).get? b=some { o with slots:=sl }:=λb o q n hb=>by
    obtain⟨s1,q1⟩:=un.slot b o q n hb (EN b hb)
    obtain⟨_,o1,q2,n1⟩:=Io.stack.mem hb
    rw[q] at q2
    cases q2
    obtain⟨s2,q3⟩:=up b _ q1 n1
    exact⟨s2,gF b hb _ q3 n1⟩
   have aP:∀b,B.get? b=none->(PySem.W.hideAll B [C]).get? b=none:=λb q=>by
    cases z:(PySem.W.hideAll B [C]).get? b with
    | none=>rfl
    | some u=>rw[PySem.W.of_hideAll _ z] at q;cases q
   refine k _ ⟨Cl,pins,Hc,sc,hC,Io,.inl ⟨a,a0,nt,PySem.W.hideAll B [C],C::ch,rfl,os,bare,λb hb=>?_,⟨λb o q n hb hx=>?_,λb o q n hb _=>sl b o q n hb,λb o q n hx=>un.free b o q n λz=>hx (aD _ z),λb o q hx=>?_,un.tups,un.iI,un.ja⟩,lE hok λb hb=>?_,⟨λb o q=>?_,aP a d2,lM (λb o q=>PySem.W.of_hideAll _ q) d3 gF,oe,vs,T,_,_,(other a (bg t6)).trans ga,t2,t3,t4,aP T t5,t6,wA _ gT (xZ (nY t8 _)),nY t8 _,by simp[lt]⟩,λb o q hb hx=>?_⟩⟩
   ·rcases List.mem_cons.mp hb with z | z
    ·rw[z];exact fC
    ·exact hch b z
   ·obtain⟨o',q1,q2⟩:=n4 b o q hb λz=>hx (aD _ z)
    rw[q2 n] at q1
    exact gB b o q1 λz=>hx (z ▸ aI)
   ·by_cases hb:b∈frs X.stack
    ·obtain⟨s2,q2⟩:=sl b o q (Io.gH b hb) hb
     exact⟨_,q2⟩
    ·obtain⟨o',q1,_⟩:=n4 b o q hb λz=>hx (aD _ z)
     exact⟨o',gB b o' q1 λz=>hx (z ▸ aI)⟩
   ·rw[List.mem_singleton.mp hb]
    exact un.free C oC U1 fC.1 nC
   ·refine gB b o (PySem.W.of_hideAll _ q) λz=>?_
    rw[z,PySem.W.hideAll_none [C] aI] at q
    cases q
   ·obtain⟨o',q1,q2⟩:=n4 b o q hb λz=>hx (aD _ z)
    exact⟨o',PySem.W.hideAll_get _ q1 λz=>hx ((List.mem_singleton.mp z) ▸ aI),q2⟩
  unfold PySem.passOn
  refine ZH (wpAny_field ga t3 t4 ?_)
  rw[if_neg (show ¬((cV T == bC)=true) from by simp)]
  unfold setFlight
  refine ZH (ZH (wpAny_field ga t3 t4 ?_))
  rw[if_pos (show(cV T != bC)=true from by simp)]
  exact wpAny_setField gT t8 lt (wpAny_throw (fin _))
 cases use<;>exact go
theorem wR{fp:List Zk}{H3 H':Hp}{s3 s':Zp}{σ':St}{c:Str}{e acc:Zq}{E0:Zq->Zp->Prop}{use:Option (Zq->Sem Unit)}{Q:Zq->Zp->Prop}(fr:Ab X)(I3:Inv X pins σ H3 s3)(f3:∀b∈fp,cG X pins H3 b)
  (rz:kE (eF X scope x cs s3.heap.objs.size s3 H3 fp (X.pn++pins) E0) σ' H' c e s')(k:∀s5,kE X σ H' c e s5->X.xe e s5) :
  notedBy (model X.prog X.w) X.A (compEnvC scope (kg X.env scope.names []) s3.heap.objs.size X.env) (λe s'=>Zw (model X.prog X.w) X.A X.xe use Q acc s3.heap.objs.size (.error e) s') e s':=by
 obtain⟨env,outer,L,hst,hf,hfe⟩:=fr
 obtain⟨Cl,gI,Hc,sc,hC,J,r⟩:=rz
 have Io:Inv X pins σ Hc sc:=uR I3 f3 J
 have fC:cG X pins Hc s3.heap.objs.size:=I3.nM (ak _) J.free
 obtain⟨mm,ns,_⟩:=id J.loc
 have hfr:X.A.frames=some (env::outer):=by rw[Io.ok.frames,hst]
 unfold notedBy
 rw[Cs (env':=env) (show(compEnvC scope (kg X.env scope.names []) s3.heap.objs.size X.env).frame=env.frame from hfe.trans hf.symm)]
 rcases r with ⟨a,a0,nt,B,ch,rfl,os,bare,hch,un,hok,fl,n4⟩ | ⟨rfl,a,args,rfl,ho,hg,M⟩
 ·have U2:B.StaysIn s'.heap/\B.get? a=none/\s'.heap.FunFrames B X.stack/\NY s'.heap B a (.ref Cl) a0 nt:=fl
  rw[hst] at U2
  refine pd hfr hf U2 λh4 KL KN=>?_
  rw[<-hst] at KL
  refine pC hC Io fC ns os bare (λb hb=>?_) (λz=>(hch _ z).2.1 rfl) un hok KL KN n4 k
  obtain⟨h1,_,_,h4,_⟩:=hch b hb
  rcases h4 with z | z
  ·exact⟨h1,(f3 b z).2⟩
  ·exact I3.nM z h1
 ·have fs:sc.heap.FunFrames (PySem.W.hideAll sc.heap (frs X.stack)) (env::outer):=by
   rw[<-hst]
   exact PySem.W.funFrames_hide Io.stack λenv he b hb=>List.mem_filterMap.mpr ⟨env,he,hb⟩
  refine mG (base:=PySem.W.hideAll sc.heap (frs X.stack)) hfr hf (λb o q=>PySem.W.of_hideAll _ q) fs M λh4 a0 KL KN=>?_
  rw[<-hst] at KL
  exact pC (ch:=[]) hC Io fC ns ho (by rw[hg];exact Io.bare) (λb z=>by cases z) (by simp) (Un.kept M.keeps) (lE Io.hok Io.gH) KL KN (λb o q hb _=>⟨o,PySem.W.hideAll_get _ q hb,λ_=>rfl⟩) k
end
structure Cu(Y:Cx->Prop)(P:Zo)(w:Zr)(K:PySem.W.Frag)(tg:Expr)(J:It)(fp:List Zk)(it:Zk)(tn:Nat->Heap->Prop):Prop where
 obj:∀i h,tn i h->∀b∈fp,∃o,h.get? b=some o/\∀v,o.data≠.cell v
 keep:∀i h h',tn i h->(∀b∈fp,∀o,h.get? b=some o->h'.get? b=some o)->tn i h'
 item:∀(X:Cx),X.prog=P->X.w=w->X.K=K->Y X->∀(i:Nat)(pins:List (Zk×Obj))(s:Zp)(σ:St)(H:Hp)(E:Zq->Zp->Prop),Inv X pins σ H s->(∀b∈fp,cG X pins H b)->tn i s.heap->J.go i H->ZG (model P w) X.A (pyNext (.ref it)) (λr s1=>∃u,r=some u/\
  ZG (model P w) X.A (letOwnedTupleGo tg (.ref it) u) (λ_ s2=>∃x H',Inv X pins σ H' s2/\RelV x u/\J.sg i H x H'/\tn (i+1) s2.heap/\∀b∈fp,H' b=none) E s1) E s
 done:∀(X:Cx),X.prog=P->X.w=w->X.K=K->Y X->∀(i:Nat)(pins:List (Zk×Obj))(s:Zp)(σ:St)(H:Hp)(E:Zq->Zp->Prop),Inv X pins σ H s->(∀b∈fp,cG X pins H b)->tn i s.heap->J.stop i H->ZG (model P w) X.A (pyNext (.ref it)) (λr s1=>r=none/\Inv X pins σ H s1) E s
 self:∀(A:Zl)(i:Nat)(s:Zp)(Q:Zq->Zp->Prop)(E:Zq->Zp->Prop),tn i s.heap->Q (.ref it) s->ZG (model P w) A (pyIter (.ref it)) Q E s
abbrev Calm(X:Cx):Prop:=X.calm=true
theorem _root_.L2.Turn.y{P:Zo}{w:Zr}{K:PySem.W.Frag}{tg:Expr}{J:It}{fp:List Zk}{it:Zk}{tn:Nat->Heap->Prop}(T:Turn P w K tg J fp it tn):Cu Calm P w K tg J fp it tn:=⟨T.obj,T.keep,T.item,T.done,T.self⟩
def OH(Y:Cx->Prop)(X:Cx):Prop:=∀{pins:List (Zk×Obj)}{σ:St}{H:Hp}{s:Zp}(scope:Scope)(x:Str)(cs:dm)(C:Zk)(s0:Zp)(fp:List Zk)(pn:List (Zk×Obj))(E:Zq->Zp->Prop),Inv X pins σ H s->Y (eF X scope x cs C s0 H fp pn E)
theorem uS{X:Cx}(hc:X.calm=true):OH Calm X:=λ_ _ _ _ _ _ _ _ _=>hc
def Ac(X:Cx)(ifs:List Expr)(g:GT):Prop:=∀(ρ:bA)(st:Hs)(σ:St)(H:Hp)(m:Mp)(Q:Bool->Hp->Prop),aQ X.K m st H->av X.K m H ρ σ->iD X σ m H (g ρ st) Q->∀(pins:List (Zk×Obj))(s:Zp),Inv X pins σ H s->
 ZG (model X.prog X.w) X.A (forIn ifs true λc r=>if r=true then do let ok <-isTrue c X.env (eval c X.env);pure (kG ok) else pure (kG r)) (TP X pins σ Q) X.xe s
section
variable {X:Cx}
theorem yf:Ac X [] (λ_ st=> .ok true st):=λρ st σ H m Q S R p pins s I=>wpAny_tests_nil ⟨H,I,p m H Ext.refl S⟩
theorem pD{pins:List (Zk×Obj)}{σ:St}{ρ:bA}{scope:Scope}{x:Str}{cs:dm}{px pos:Pos}{elt iter:Expr}{ifs:List Expr}{gt:GT}{ge:GE}{ck:Hs->Prop}{ws:List Wv}{E:Zq->Zp->Prop}
  {use:Option (Zq->Sem Unit)}{Q:Zq->Zp->Prop}{res:Re Unit}
  {it:Zk}{fp:List Zk}{tn:Nat->Heap->Prop}{J':It}{H2:Hp}{s2:Zp}{m1:Mp}{st1:Hs}{Y:Cx->Prop}(fr:Ab X)(S:dE X scope x cs)(hY:OH Y X)(hH:KJ X)(I2:Inv X pins σ H2 s2)(T:Cu Y X.prog X.w X.K (.Name x px) J' fp it tn)(t0:tn 0 s2.heap)(f2:∀b∈fp,cG X pins H2 b)
  (S1:aQ X.K m1 st1 H2)(R:av X.K m1 H2 ρ σ)(hck:ck (st1++[.lst []]))(run:iF ck (λw=>gt (some w::cL cs ρ)) (λw=>ge (some w::cL cs ρ)) st1.length ws (st1++[.lst []])=res)(nb:res≠.bad)(hx:∀c OI,res= .err c OI->HD X σ m1 H2 c OI)
  (hE:∀C s0 H0 pn E,zZ X.A H0->JE (eF X scope x cs C s0 H0 fp pn E) elt ge)(hT:∀C s0 H0 pn E,zZ X.A H0->Ac (eF X scope x cs C s0 H0 fp pn E) ifs gt)
  (hgo:∀(k:Nat)(H:Hp)(m':Mp)(st:Hs),Ext X.K m1 H2 m' H->aQ X.K m' st H->ck st->k < ws.length->J'.go k H)(hstop:∀(k:Nat)(H:Hp)(m':Mp)(st:Hs),Ext X.K m1 H2 m' H->aQ X.K m' st H->ck st->k=ws.length->J'.stop k H)
  (hy:∀(k:Nat)(hk:k < ws.length)(H:Hp)(v:V)(H':Hp)(m':Mp)(st:Hs),Ext X.K m1 H2 m' H->aQ X.K m' st H->ck st->J'.sg k H v H'->H'=H/\aj X.K m' H ws[k] v)
  (fin:∀(lK:Hs),res= .ok () lK->∀(D C:Zk)(mm:Str->Option Zq)(m':Mp)(H':Hp)(s':Zp),Ext X.K m1 H2 m' H'->aQ X.K m' lK H'->m'[st1.length]? =some D->Inv X pins σ H' s'->cG X pins H' C->s'.heap.Ns C mm->(∀y c,X.env.cells.lookup y=some c->c≠C)->Zw (model X.prog X.w) X.A X.xe use Q (.ref D) C (.ok .next) s') :
  ZG (model X.prog X.w) X.A (newList []) (λacc s3=>ZG (model X.prog X.w) X.A (newFunctionEnv scope X.env.globals (kg X.env scope.names []) [] X.env.qual none .none (some X.env)) (λcenv s4=>
   Zv (model X.prog X.w) X.A (.compStart (.ListComp elt [⟨.Name x px,iter,ifs,0⟩] scope pos) 0 (.ref it) acc { cenv with scope:=relabel scope X.env }) (Zw (model X.prog X.w) X.A X.xe use Q acc cenv.locals) s4) E s3) E s2:=by
 refine ZK ?_
 have I3:Inv X pins σ (upd H2 s2.heap.objs.size (.lst [])) { s2 with heap:=s2.heap.push { cls:=.type "list",data:=.seq ([]:List Zq).toArray } }:=I2.Ff (ys:=[]) (its:=[]) (t':=s2.toks) .nil (bF _)
 have OJ:∀b∈fp,b < s2.heap.objs.size:=λb hb=>by
  obtain⟨o,e,_⟩:=T.obj _ _ t0 b hb
  exact ax e
 have hD:H2 s2.heap.objs.size=none:=I2.fresh
 have f3:∀b∈fp,cG X pins (upd H2 s2.heap.objs.size (.lst [])) b:=λb hb=>⟨by rw[aw (aN (OJ b hb))];exact(f2 b hb).1,(f2 b hb).2⟩
 have S3:=S1.alloc (ws:=[]) (xs:=[]) hD af.nil
 have e3:Ext X.K m1 H2 (m1++[s2.heap.objs.size]) (upd H2 s2.heap.objs.size (.lst [])):=Ext.more.trans (Ext.upd (.inl hD))
 have FP:(m1++[s2.heap.objs.size])[st1.length]? =some s2.heap.objs.size:=by
  rw[<-S1.len,ic (ak _),sJ];rfl
 generalize om:({ s2 with heap:=s2.heap.push { cls:=.type "list",data:=.seq ([]:List Zq).toArray } }:Zp)=s3 at I3
 have OK:∀b o,s2.heap.get? b=some o->s3.heap.get? b=some o:=λb o e=>by rw[<-om];exact aE _ e
 have OL:∀b∈fp,b < s3.heap.objs.size:=λb hb=>by
  obtain⟨o,e,_⟩:=T.obj _ _ t0 b hb
  exact ax (OK b o e)
 generalize WI:s2.heap.objs.size=D at *
 generalize WJ:upd H2 D (.lst [])=H3 at *
 generalize WK:m1++[D]=m3 at *
 have R3:av X.K m3 H3 (cL cs ρ) (lL cs σ):=(ye cs R).mono e3
 generalize hrr:cL cs ρ=ρc at *
 generalize hss:lL cs σ=σc at *
 refine wpAny_newFunctionEnv S.cell (λ_ z=>nomatch z) (λh4 RO OM=>?_) S.kind
 have Ic:=λE=>uQ (E:=E) (tk:=s3.toks+([]:List (Str×Zq)).length) S I3 f3 OL RO OM
 have RP:∀b o,s3.heap.get? b=some o->h4.get? b=some o:=λb o e=>(OM.2 b (aN (ax e))).trans (aE _ e)
 have t4:tn 0 h4:=T.keep _ _ _ t0 λb _ o e=>RP b o (OK b o e)
 let EX:Zq->Zp->Prop:=notedBy (model X.prog X.w) X.A (compEnvC scope (kg X.env scope.names []) s3.heap.objs.size X.env) λe s'=>Zw (model X.prog X.w) X.A X.xe use Q (.ref D) s3.heap.objs.size (.error e) s'
 let Xc:=eF X scope x cs s3.heap.objs.size s3 H3 fp (X.pn++pins) EX
 have noted:∀{σ':St}{m:Mp}{H:Hp}{c:Str}{st:Hs},Ext X.K m1 H2 m H->res= .err c st->HD Xc σ' m H c st:=λ{σ' m H c st} e0 er m' H' e s' ex S' rz=>wR fr I3 f3 rz λs5 r5=>hx c st er m' H' e s5 (e0.trans ex) S' r5
 have vis:Xc.env.scope.names.lookup x=some .local:=lookup_relabel_local S.var
 have KY:∀(H':Hp),(∀b∈fp,H' b=none)->∀b∈fp,cG Xc [] H' b:=λH' hn b hb=>⟨hn b hb,aN (OL b hb),jo I3 (f3 b hb),.inl hb,λy c e=>(f3 b hb).2.2.2.2.1 y c (S.sub I3.ok e),λp hp=>(f2 b hb).2.2.2.2.2 p (by have ON:p∈(X.pn++pins)++[]:=hp;rw[hX] at ON;exact ON)⟩
 let Pv:Nat->Zp->Prop:=λk s'=>∃z H' st m',Inv Xc [] (z::σc) H' s'/\tn k s'.heap/\(∀b∈fp,H' b=none)/\Ext X.K m3 H3 m' H'/\aQ X.K m' st H'/\ck st/\iF ck (λw=>gt (some w::ρc)) (λw=>ge (some w::ρc)) st1.length (ws.drop k) st=res
 have loop:∀s4:Zp,Pv 0 s4->Zv (model X.prog X.w) X.A (.compLoop (.ListComp elt [⟨.Name x px,iter,ifs,0⟩] scope pos) 0 (.ref it) (.ref D) (compEnvC scope (kg X.env scope.names []) s3.heap.objs.size X.env)) (Zw (model X.prog X.w) X.A X.xe use Q (.ref D) s3.heap.objs.size) s4:=λs4 p0=>by
  refine codeAny_compLoop_tests (λn s'=>∃k,n=ws.length - k/\k<=ws.length/\Pv k s') ?_ ws.length ⟨0,by simp,bF _,p0⟩
  rintro n s5 ⟨k,rfl,hk,z5,H5,uu,m5,I5,OO,Jo,e5,S5,c5,aR⟩
  have Cv:=e3.trans e5
  by_cases hlt:k < ws.length
  ·refine bH (T.item Xc rfl rfl rfl (hY _ _ _ _ _ _ _ _ I3) k [] s5 (z5::σc) H5 _ I5 (KY H5 Jo) OO (hgo k H5 m5 uu Cv S5 c5 hlt)) λr s6 h6=>?_
   obtain⟨u,rfl,h6⟩:=h6
   show ZG (model X.prog X.w) X.A (pure () >>= λ_=>assign (.Name x px) Xc.env u) _ _ s6
   refine ZH (bH h6 λ_ s7 h7=>?_)
   obtain⟨v,H7,I7,rv,yl,KZ,RQ⟩:=h7
   obtain⟨rfl,OP⟩:=hy k hlt H5 v H7 m5 uu Cv S5 c5 yl
   have MZ:=I7.pinned (KY H7 RQ) (T.obj _ _ KZ)
   refine wpAny_assign_Name (kZ (i:=0) MZ S.nd rfl (.inl vis) rv (λs8 I8=>?_) (.inr vis))
   have Qm:Inv Xc ([]++di fp s7.heap) (some v::σc) H7 s8:=I8
   have R8:av X.K m5 H7 (some ws[k]::ρc) (some v::σc):=by
    have R5:=R3.mono e5
    refine⟨by simp[R5.len],λi w e=>?_⟩
    cases i with
    | zero=>
     cases e
     exact⟨v,rfl,OP⟩
    | succ i=>exact R5.get i w e
   have ed:ws.drop k=ws[k]::ws.drop (k+1):=ph hlt
   rw[ed] at aR
   unfold iF at aR
   have back:∀{H':Hp}{s':Zp}{m':Mp}{st:Hs},Inv Xc ([]++di fp s7.heap) (some v::σc) H' s'->Ext X.K m3 H3 m' H'->aQ X.K m' st H'->ck st->iF ck (λw=>gt (some w::ρc)) (λw=>ge (some w::ρc)) st1.length (ws.drop (k+1)) st=res->∃n',n' < ws.length - k/\∃k',n'=ws.length - k'/\k'<=ws.length/\Pv k' s' :=
    λ{H' s' m' st} I' e' S' c' r'=>⟨ws.length - (k+1),by omega,k+1,rfl,hlt,some v,H',st,m',I'.jj,T.keep _ _ _ KZ λb hb o e=>(I'.pin (b,o) (cW _ (cW _ (eG hb e)))).1,λb hb=>by
     obtain⟨o,e,_⟩:=T.obj _ _ KZ b hb
     exact(I'.pin (b,o) (cW _ (cW _ (eG hb e)))).2.1,e',S',c',r'⟩
   cases eg:gt (some ws[k]::ρc) uu with
   | err c A9=>
    rw[eg] at aR
    refine ZJ (hT s3.heap.objs.size s3 H3 (X.pn++pins) EX (hH.at I3) (some ws[k]::ρc) uu (some v::σc) H7 m5 (λ_ _=>False) S5 R8 (by rw[eg];exact noted Cv aR.symm) ([]++di fp s7.heap) s8 Qm) (λ_ _ h9=>?_) λ_ _ z=>z
    obtain⟨_,_,z⟩:=h9
    exact z.elim
   | bad=>rw[eg] at aR;exact absurd aR.symm nb
   | ok b A9=>
    rw[eg] at aR
    have HG:=hT s3.heap.objs.size s3 H3 (X.pn++pins) EX (hH.at I3) (some ws[k]::ρc) uu (some v::σc) H7 m5 (λb' H'=>b'=b/\∃m',Ext X.K m5 H7 m' H'/\aQ X.K m' A9 H') S5 R8 (by rw[eg];exact λm' H' e' S'=>⟨rfl,m',e',S'⟩) ([]++di fp s7.heap) s8 Qm
    refine ZJ HG (λok s9 h9=>?_) λ_ _ z=>z
    obtain⟨H9,I9,rfl,m9,e9,S9⟩:=h9
    cases ok with
    | false=>
     dsimp only at aR
     by_cases c6:ck A9
     ·rw[if_pos c6] at aR
      rw[if_neg cw]
      exact back I9 (e5.trans e9) S9 c6 aR
     ·rw[if_neg c6] at aR;exact absurd aR.symm nb
    | true=>
     dsimp only at aR
     rw[if_pos rfl]
     cases ee:ge (some ws[k]::ρc) A9 with
     | err c FQ=>
      rw[ee] at aR
      refine ZJ (hE s3.heap.objs.size s3 H3 (X.pn++pins) EX (hH.at I3) (some ws[k]::ρc) A9 (some v::σc) H9 m9 (λ_ _=>False) S9 (R8.mono e9) (by rw[ee];exact noted (Cv.trans e9) aR.symm) ([]++di fp s7.heap) s9 I9) (λ_ _ OQ=>?_) λ_ _ z=>z
      obtain⟨_,_,_,_,z⟩:=OQ
      exact z.elim
     | bad=>rw[ee] at aR;exact absurd aR.symm nb
     | ok w FQ=>
      rw[ee] at aR
      dsimp only at aR
      cases ea:j' (.ref st1.length) w FQ with
      | err c K3=>rw[ea] at aR;exact absurd aR.symm nb
      | bad=>rw[ea] at aR;exact absurd aR.symm nb
      | ok w2 K3=>
       rw[ea] at aR
       dsimp only at aR
       by_cases c8:ck K3
       ·rw[if_pos c8] at aR
        have el:=hE s3.heap.objs.size s3 H3 (X.pn++pins) EX (hH.at I3) (some ws[k]::ρc) A9 (some v::σc) H9 m9 (λv' H'=>∃m',Ext X.K m9 H9 m' H'/\aQ X.K m' FQ H'/\aj X.K m' H' w v') S9 (R8.mono e9) (by rw[ee];exact λv' m' H' e' S' r'=>⟨m',e',S',r'⟩) ([]++di fp s7.heap) s9 I9
        refine ZJ el (λu2 yg OQ=>?_) λ_ _ z=>z
        obtain⟨v2,A_,RS,r2,K4,FR,RT,K5⟩:=OQ
        obtain⟨r,h1,h2⟩:=wQ (X:=Xc)
        have eA:=(e5.trans e9).trans FR
        have ro:aj X.K K4 A_ (.ref st1.length) (.ref D):=by unfold aj;exact⟨D,rfl,eA.pre _ _ FP⟩
        have rd:=h2 (.ref st1.length) w (.ref D) v2 FQ A_ K4 (λ_ H'=>∃m',Ext X.K K4 A_ m' H'/\aQ X.K m' K3 H') RT ro K5 (by rw[ea];exact λv' m' H' e' S' r'=>⟨m',e',S'⟩)
        refine ZJ (h1 ([]++di fp s7.heap) yg (some v::σc) A_ (.ref D) [v2] (.ref D) [u2] _ RS rfl (.cons r2 .nil) rd) (λ_ EF h11=>?_) λ_ _ z=>z
        obtain⟨_,RU,RV,_,WL,M0,RW⟩:=h11
        exact back RV (eA.trans M0) RW c8 aR
       ·rw[if_neg c8] at aR;exact absurd aR.symm nb
  ·have ek:k=ws.length:=by omega
   subst ek
   refine bH (T.done Xc rfl rfl rfl (hY _ _ _ _ _ _ _ _ I3) _ [] s5 (z5::σc) H5 _ I5 (KY H5 Jo) OO (hstop _ H5 m5 uu Cv S5 c5 rfl)) λr s6 h6=>?_
   obtain⟨rfl,I6⟩:=h6
   rw[pj] at aR
   obtain⟨mm,RX,_⟩:=id I6.loc
   have fC:=I3.nM (H':=H5) (ak _) I6.free
   exact fin uu aR.symm D _ mm m5 H5 _ Cv S5 (e5.pre _ _ FP) (uR I3 f3 I6) fC RX fC.2.2.2.2.1
 have p0:Pv 0 { s3 with heap:=h4,toks:=s3.toks+([]:List (Str×Zq)).length }:=⟨none,H3,st1++[Ob.lst []],m3,hss ▸ Ic EX,t4,λb hb=>(f3 b hb).1,Ext.refl,S3,hck,by rw[il];exact run⟩
 exact codeAny_compStart_list (loop _ p0) (T.self X.A 0 _ _ _ t4 (loop _ p0))
end
abbrev Wk:=Option Nat×List Wv
def fg(w:Wk)(st:Hs):Prop:=match w.1 with
 | some l=>ai st l=some w.2
 | none=>True
structure uT(X:Cx)(w:Wk)(m1:Mp)(H1:Hp)(J':It):Prop where
 go:∀(k:Nat)(H:Hp)(m':Mp)(st:Hs),Ext X.K m1 H1 m' H->aQ X.K m' st H->fg w st->k < w.2.length->J'.go k H
 stop:∀(k:Nat)(H:Hp)(m':Mp)(st:Hs),Ext X.K m1 H1 m' H->aQ X.K m' st H->fg w st->k=w.2.length->J'.stop k H
 sg:∀(k:Nat)(hk:k < w.2.length)(H:Hp)(v:V)(H':Hp)(m':Mp)(st:Hs),Ext X.K m1 H1 m' H->aQ X.K m' st H->fg w st->J'.sg k H v H'->H'=H/\aj X.K m' H w.2[k] v
abbrev GI:=bA->Hs->Re Wk
def RY(Y:Cx->Prop)(X:Cx)(pins:List (Zk×Obj))(σ:St)(tg:Expr)(R:It->Hp->Prop)(itv:Zq)(s2:Zp):Prop :=
 ∃(it:Zk)(fp:List Zk)(tn:Nat->Heap->Prop)(J:It)(H':Hp),itv= .ref it/\Inv X pins σ H' s2/\Cu Y X.prog X.w X.K tg J fp it tn/\tn 0 s2.heap/\(∀b∈fp,cG X pins H' b)/\R J H'
def U3(Y:Cx->Prop)(X:Cx)(tg iter:Expr)(wi:TI):Prop:=∀(pins:List (Zk×Obj))(s:Zp)(σ:St)(H:Hp)(R:It->Hp->Prop),Inv X pins σ H s->wi σ H R->
 ZG (model X.prog X.w) X.A (eval iter X.env) (λv s1=>ZG (model X.prog X.w) X.A (pyIter v) (RY Y X pins σ tg R) X.xe s1) X.xe s
theorem _root_.L2.PI.y{X:Cx}{tg iter:Expr}{wi:TI}(h:PI X tg iter wi):U3 Calm X tg iter wi:=λpins s σ H R I q=>bH (h pins s σ H R I q) λ_ _ h1=>bH h1 λ_ _ h2=>
 let ⟨it,fp,tn,J,H',e,I',T,r⟩:=h2;⟨it,fp,tn,J,H',e,I',T.y,r⟩
def Qn(Y:Cx->Prop)(X:Cx)(tg iter:Expr)(gi:GI):Prop:=∃wi,U3 Y X tg iter wi/\∀(ρ:bA)(st:Hs)(σ:St)(H:Hp)(m:Mp)(R:It->Hp->Prop),aQ X.K m st H->av X.K m H ρ σ->
 au X σ m H (gi ρ st) (λw st1=>∀(m1:Mp)(H1:Hp)(J':It),Ext X.K m H m1 H1->aQ X.K m1 st1 H1->fg w st1->uT X w m1 H1 J'->R J' H1)->wi σ H R
def JI(X:Cx)(tg iter:Expr)(gi:GI):Prop:=∃wi,PI X tg iter wi/\∀(ρ:bA)(st:Hs)(σ:St)(H:Hp)(m:Mp)(R:It->Hp->Prop),aQ X.K m st H->av X.K m H ρ σ->
 au X σ m H (gi ρ st) (λw st1=>∀(m1:Mp)(H1:Hp)(J':It),Ext X.K m H m1 H1->aQ X.K m1 st1 H1->fg w st1->uT X w m1 H1 J'->R J' H1)->wi σ H R
theorem JI.y{X:Cx}{tg iter:Expr}{gi:GI}(h:JI X tg iter gi):Qn Calm X tg iter gi:=let ⟨wi,h1,h2⟩:=h;⟨wi,h1.y,h2⟩
def K6(w:Wv)(st:Hs):Re Wk:=match w with
 | .ref l=>(match ai st l with | some ws=> .ok (some l,ws) st | none=> .bad)
 | .tup ws=> .ok (none,ws) st
 | .oY ws=> .ok (none,ws) st
 | _=> .bad
def Cw(g:GE):GI:=λρ st=>(g ρ st).bind K6
section
variable {X:Cx}
theorem K8{tg iter:Expr}{g:GE}(h:JE X iter g):JI X tg iter (Cw g):=by
 refine⟨_,Cb aU,λρ st σ H m Q S R p=>?_⟩
 refine h.go S R (au.bind p) λw st1 v m1 H1 p1 e1 S1 rw'=>?_
 cases w with
 | ref l=>
  unfold aj at rw'
  obtain⟨a,rfl,hla⟩:=rw'
  unfold K6 at p1
  cases el:ai st1 l with
  | none=>simp only[el] at p1;exact aa p1
  | some ws=>
   simp only[el] at p1
   obtain⟨HR,q0,_⟩:=S1.read hla el
   refine⟨a,rfl,.inl ⟨⟨HR,q0⟩,p1 m1 H1 _ e1 S1 el ⟨λk H' m' st' e S' c hk=>?_,λk H' m' st' e S' c hk=>?_,λk hk H' v OR m' st' e S' c y=>?_⟩⟩⟩
   ·obtain⟨xs,hq,rws⟩:=S'.read (e.pre _ _ hla) c
    have hx':k < xs.length:=by rw[<-rws.length];exact hk
    exact⟨xs,xs[k],hq,by simp[hx']⟩
   ·obtain⟨xs,hq,rws⟩:=S'.read (e.pre _ _ hla) c
    exact⟨xs,hq,by rw[<-rws.length,hk];exact ak _⟩
   ·obtain⟨xs,hq,rws⟩:=S'.read (e.pre _ _ hla) c
    obtain⟨ee,y⟩:=y
    refine⟨ee,?_⟩
    obtain⟨x',ex',mJ⟩:=rws.get (i:=k) (w:=ws[k]) (cq hk)
    rw[y xs hq] at ex'
    cases ex'
    exact mJ
 | tup ws=>
  unfold aj at rw'
  obtain⟨a,xs,rfl,hq,rws⟩:=rw'
  refine⟨a,rfl,.inr ⟨⟨xs,dh.of hq⟩,p1 m1 H1 _ e1 S1 trivial ⟨λk H' m' st' e S' c hk=>?_,λk H' m' st' e S' c hk=>?_,λk hk H' v OR m' st' e S' c y=>?_⟩⟩⟩
  ·have hx':k < xs.length:=by rw[<-rws.length];exact hk
   exact⟨xs,xs[k],dh.of (e.tup _ _ hq),by simp[hx']⟩
  ·exact⟨xs,dh.of (e.tup _ _ hq),by rw[<-rws.length,hk];exact ak _⟩
  ·obtain⟨ee,y⟩:=y
   refine⟨ee,?_⟩
   obtain⟨x',ex',mJ⟩:=(af.mono e _ _ rws).get (i:=k) (w:=ws[k]) (cq hk)
   rw[y xs (dh.of (e.tup _ _ hq))] at ex'
   cases ex'
   exact mJ
 | oY ws=>
  unfold aj at rw'
  obtain⟨a,xs,rfl,hq,rws⟩:=rw'
  refine⟨a,rfl,.inr ⟨⟨xs,.inr hq⟩,p1 m1 H1 _ e1 S1 trivial ⟨λk H' m' st' e S' c hk=>?_,λk H' m' st' e S' c hk=>?_,λk hk H' v OR m' st' e S' c y=>?_⟩⟩⟩
  ·have hx':k < xs.length:=by rw[<-rws.length];exact hk
   exact⟨xs,xs[k],.inr hq,by simp[hx']⟩
  ·exact⟨xs,.inr hq,by rw[<-rws.length,hk];exact ak _⟩
  ·obtain⟨ee,y⟩:=y
   refine⟨ee,?_⟩
   obtain⟨x',ex',mJ⟩:=(af.mono e _ _ rws).get (i:=k) (w:=ws[k]) (cq hk)
   rw[y xs (.inr hq)] at ex'
   cases ex'
   exact mJ
 | _=>exact aa p1
theorem K9{lo:Int}{n:Nat}{m1:Mp}{H1:Hp}:uT X (none,cE lo n) m1 H1 (Jl lo n) where
 go:=λk H m' st e S c hk=>by
  have:(cE lo n).length=n:=cJ
  have hk':k < (cE lo n).length:=hk
  rw[this] at hk';exact hk'
 stop:=λk H m' st e S c hk=>by
  have:(cE lo n).length=n:=cJ
  have hk':k=(cE lo n).length:=hk
  rw[this] at hk';exact sR hk'.symm
 sg:=λk hk H v H' m' st e S c y=>by
  obtain⟨y1,y2⟩:=y
  refine⟨y1,?_⟩
  have q:(cE lo n)[k]'hk= .int (lo+k):=uM hk
  show aj X.K m' H ((cE lo n)[k]'hk) v
  rw[q,y2]
  exact mkInt
def yh(ws:List Wv)(st:Hs):Re Wk:=match ws with
 | [.int j]=>if j_ j then .ok (none,cE 0 j.toNat) st else .bad
 | _=> .bad
def HU(ws:List Wv)(st:Hs):Re Wk:=match ws with
 | [.int a,.int j]=>if j_ a/\j_ j then .ok (none,cE a (j - a).toNat) st else .bad
 | _=> .bad
def Cy(g:GA):GI:=λρ st=>(g ρ st).bind yh
def RZ(g:GA):GI:=λρ st=>(g ρ st).bind HU
theorem OS{tg a:Expr}{ga:GA}{p q:Pos}(hg:Gl X "range")(hm:X.mg "range"=none)(ha:JA X [a] ga)(hst:ZF [a] X.env=[(false,eval a X.env)]):JI X tg (.Call (.Name "range" p) [a] [] q) (Cy ga):=by
 refine⟨_,qX hg hm fZ hst,λρ st σ H m Q S R p=>?_⟩
 refine ha.go S R (au.bind p) λws st1 vs m1 H1 p1 e1 S1 rs=>?_
 match ws,rs,p1 with
 | [],rs,p1=>exact aa p1
 | x::y::t,rs,p1=>cases x<;>exact aa p1
 | [x],rs,p1=>
  obtain⟨v,rfl,r1⟩:=jc rs
  cases x with
  | int j=>
   cases a6 r1
   unfold yh at p1
   by_cases c:j_ j
   ·simp only[if_pos c] at p1
    exact⟨j,rfl,c.1,c.2,p1 m1 H1 _ e1 S1 trivial K9⟩
   ·simp only[if_neg c] at p1;exact aa p1
  | _=>exact aa p1
def Cz:GI:=λ_ _=> .bad
theorem CA{tg iter:Expr}:PI X tg iter (λ_ _ _=>False):=λ_ _ _ _ _ _ h=>h.elim
theorem CB{tg iter:Expr}:JI X tg iter Cz:=⟨_,CA,λρ st σ H m Q S R p=>p⟩
def cY(cs:dm)(gt:GT)(ge:GE)(ρ:bA)(w:Wk)(st:Hs):Re Wv:=match fA (fg w) (λv=>gt (some v::cL cs ρ)) (λv=>ge (some v::cL cs ρ)) st.length w.2 (st++[.lst []]) with
 | some lK=> .ok (.ref st.length) lK
 | none=>(match iF (fg w) (λv=>gt (some v::cL cs ρ)) (λv=>ge (some v::cL cs ρ)) st.length w.2 (st++[.lst []]) with
  | .err c OI=> .err c OI
  | _=> .bad)
def jq(cs:dm)(gi:GI)(gt:GT)(ge:GE):GE:=λρ st=>(gi ρ st).bind λw st1=>cY cs gt ge ρ w st1
theorem rD{st:Hs}{l:Nat}{ws:List Wv}{more:Hs}(h:ai st l=some ws):ai (st++more) l=some ws:=by
 unfold ai at h ⊢
 cases e:st[l]? with
 | none=>rw[e] at h;cases h
 | some o=>
  have hl:=(List.getElem?_eq_some_iff.mp e).1
  rw[dj hl,e]
  rw[e] at h
  exact h
theorem lN{w:Wk}{st more:Hs}(h:fg w st):fg w (st++more):=by
 obtain⟨o,ws⟩:=w
 cases o with
 | none=>trivial
 | some l=>exact rD h
theorem yi{scope:Scope}{x:Str}{cs:dm}{px pos:Pos}{elt iter:Expr}{ifs:List Expr}{gi:GI}{gt:GT}{ge:GE}{use:Option (Zq->Sem Unit)}{Q:Zq->Zp->Prop}{P:Wv->Hs->Prop}
  {ρ:bA}{st:Hs}{σ:St}{H:Hp}{m:Mp}{pins:List (Zk×Obj)}{s:Zp}{ps:Pos}
  {Y:Cx->Prop}(fr:Ab X)(CS:dE X scope x cs)(hc:OH Y X)(hH:KJ X)(hi:Qn Y X (.Name x px) iter gi)(hE:∀C s0 H0 fp pn E,zZ X.A H0->JE (eF X scope x cs C s0 H0 fp pn E) elt ge)(hT:∀C s0 H0 fp pn E,zZ X.A H0->Ac (eF X scope x cs C s0 H0 fp pn E) ifs gt)(hs:∀x,Zy iter X.env x=pure x)
  (S:aQ X.K m st H)(R:av X.K m H ρ σ)(I:Inv X pins σ H s)(p:au X σ m H (jq cs gi gt ge ρ st) P)
  (fin:∀(w:Wv)(lK:Hs)(v:V)(D C:Zk)(mm:Str->Option Zq)(m':Mp)(H':Hp)(s':Zp),P w lK->Ext X.K m H m' H'->aQ X.K m' lK H'->aj X.K m' H' w v->v= .ref D->Inv X pins σ H' s'->cG X pins H' C->s'.heap.Ns C mm->Zw (model X.prog X.w) X.A X.xe use Q (.ref D) C (.ok .next) s') :
  ZG (model X.prog X.w) X.A (comprehension (.ListComp elt [⟨.Name x px,iter,ifs,0⟩] scope pos) scope X.env ps (newList []) false (eval iter X.env) use) Q X.xe s:=by
 obtain⟨wi,OT,hw⟩:=hi
 let R':It->Hp->Prop:=λJ' H1=>∃(w:Wk)(st1:Hs)(m1:Mp),au X σ m H (cY cs gt ge ρ w st1) P/\Ext X.K m H m1 H1/\aQ X.K m1 st1 H1/\fg w st1/\uT X w m1 H1 J'
 have hr:=hw ρ st σ H m R' S R ((au.bind p).imp Ext.refl λw st1 q m1 H1 J' e1 S1 c1 qv=>⟨w,st1,m1,q,e1,S1,c1,qv⟩)
 refine wpAny_comprehension_free (g:=⟨.Name x px,iter,ifs,0⟩) (gs:=[]) (cl:=kg X.env scope.names []) rfl hs (yd (CS.has I.ok)) CS.kind (λy hy e=>by rw[CS.look y hy,e]) (bH (OT pins s σ H R' I hr) λv s1 h1=>bH h1 λitv s2 h2=>?_)
 obtain⟨it,fp,tn,J',H1,rfl,I2,T,t0,f2,w,st1,m1,q,e1,S1,c1,qv⟩:=h2
 unfold cY at q
 cases run:fA (fg w) (λv=>gt (some v::cL cs ρ)) (λv=>ge (some v::cL cs ρ)) st1.length w.2 (st1++[.lst []]) with
 | none=>
  rw[run] at q
  dsimp only at q
  cases rz:iF (fg w) (λv=>gt (some v::cL cs ρ)) (λv=>ge (some v::cL cs ρ)) st1.length w.2 (st1++[.lst []]) with
  | ok _ _=>rw[rz] at q;exact aa q
  | bad=>rw[rz] at q;exact aa q
  | err c OI=>
   rw[rz] at q
   refine pD (use:=use) (Q:=Q) fr CS hc hH I2 T t0 f2 S1 (R.mono e1) (lN c1) rz (by intro z;cases z) (λc' R0 z=>?_) (λC s0 H0 pn E=>hE C s0 H0 fp pn E) (λC s0 H0 pn E=>hT C s0 H0 fp pn E) qv.go qv.stop qv.sg (λlK z=>by cases z)
   cases z
   exact HD.mono q e1
 | some lK=>
  rw[run] at q
  refine pD (use:=use) (Q:=Q) fr CS hc hH I2 T t0 f2 S1 (R.mono e1) (lN c1) (pB _ _ run) (by intro z;cases z) (λc' R0 z=>by cases z) (λC s0 H0 pn E=>hE C s0 H0 fp pn E) (λC s0 H0 pn E=>hT C s0 H0 fp pn E) qv.go qv.stop qv.sg ?_
  intro WM z D C mm m' H' s' e' S' FP I' fC ns _
  cases z
  exact fin _ lK (.ref D) D C mm m' H' s' q (e1.trans e') S' (by unfold aj;exact⟨D,rfl,FP⟩) rfl I' fC ns
theorem yj{scope:Scope}{x:Str}{cs:dm}{px pos:Pos}{elt iter:Expr}{ifs:List Expr}{gi:GI}{gt:GT}{ge:GE}
  {Y:Cx->Prop}(fr:Ab X)(CS:dE X scope x cs)(hc:OH Y X)(hH:KJ X)(hi:Qn Y X (.Name x px) iter gi)(hE:∀C s0 H0 fp pn E,zZ X.A H0->JE (eF X scope x cs C s0 H0 fp pn E) elt ge)(hT:∀C s0 H0 fp pn E,zZ X.A H0->Ac (eF X scope x cs C s0 H0 fp pn E) ifs gt)(hs:∀x,Zy iter X.env x=pure x) :
  JE X (.ListComp elt [⟨.Name x px,iter,ifs,0⟩] scope pos) (jq cs gi gt ge):=λρ st σ H m Q S R p pins s I=>by
 rw[eval_ListComp]
 refine yi (use:=none) fr CS hc hH hi hE hT hs S R I p ?_
 intro w lK v D C mm m' H' s' q e' S' rw' ev I' fC ns
 exact⟨mm,ns,λh' same=>⟨.ref D,H',jR I' fC same,rfl,ev ▸ q v m' H' e' S' rw'⟩⟩
theorem FT(i:Nat){scope:Scope}{x y:Str}{cs:dm}{px pos spos py:Pos}{elt iter:Expr}{ifs:List Expr}{gi:GI}{gt:GT}{ge:GE}(hN:X.N.Nodup)
  {Y:Cx->Prop}(fr:Ab X)(CS:dE X scope x cs)(hc:OH Y X)(hH:KJ X)(hi:Qn Y X (.Name x px) iter gi)(hE:∀C s0 H0 fp pn E,zZ X.A H0->JE (eF X scope x cs C s0 H0 fp pn E) elt ge)(hT:∀C s0 H0 fp pn E,zZ X.A H0->Ac (eF X scope x cs C s0 H0 fp pn E) ifs gt)(hs:∀x,Zy iter X.env x=pure x)
  (hx:X.N[i]? =some y)(hl:Loc X.env.scope y)(hf:X.fn y=true\/X.env.scope.names.lookup y=some .local) :
  JS X (.Assign [.Name y py] (.ListComp elt [⟨.Name x px,iter,ifs,0⟩] scope pos) spos) (bQ i (jq cs gi gt ge)):=by
 have sw:∃b,swapsWith (.ListComp elt [⟨.Name x px,iter,ifs,0⟩] scope pos) (some (.Name y py)) spos.line X.env=pure b:=⟨_,rfl⟩
 obtain⟨b,sw⟩:=sw
 cases b with
 | false=>exact wL i hN (yj fr CS hc hH hi hE hT hs) hx hl sw hf
 | true=>
  intro ρ st σ H m D S R p pins s I
  rw[exec_Assign_Name_used _ _ _ _ sw]
  refine ZH (wpAny_standAt (ZH ?_))
  show ZG _ X.A (do let _ <-comprehension (.ListComp elt [⟨.Name x px,iter,ifs,0⟩] scope pos) scope X.env _ (newList []) false (eval iter X.env) (some (assign (.Name y py) X.env))) _ _ s
  refine ZH (ZJ (yi (use:=some (assign (.Name y py) X.env)) (Q:=λ_ s'=>SP X pins D .next s') fr CS hc hH hi hE hT hs S R I (aK.dO R p) ?_) (λ_ s' hq=>ZM (ZM hq)) λ_ _ e=>e)
  intro w lK v D' C mm m' H' s' q e' S' rw' ev I' fC ns
  refine wpAny_assign_Name (mf (i:=i) I' hN hx hl (show RelV v (.ref D') by rw[ev];rfl) (λs2 I2 h2=>?_) hf)
  obtain⟨a,sb,ha⟩:=h2
  have hca:C≠a:=by
   rcases ha with z | z
   ·rw[z];exact fC.2.1
   ·exact bg (fC.2.2.2.2.1 y a z)
  exact⟨mm,ns.sameBut sb hca,λh' same=>⟨_,_,jR I2 fC same,q _ m' H' e' S' ((R.mono e').set i rw')⟩⟩
end
section
variable {X:Cx}
def Ad(n:Nat)(k:Int):Prop:=-(2 ^ 62)<=k/\k < 2 ^ 62/\n * k.toNat<=lim
instance {n k}:Decidable (Ad n k):=Ce _
def pE:gv
 | .ref l,.int n,st=>match st[l]? with
  | some (.lst ws)=>if Ad ws.length n then .ok (.ref st.length) (st++[.lst (aG n.toNat ws).flatten]) else .bad
  | _=> .bad
 | x,y,st=>HQ x y st
theorem rE{K:PySem.W.Frag}{m:Mp}{H:Hp}{ws:List Wv}{xs:List V}(r:af K m H ws xs):∀n:Nat,af K m H (aG n ws).flatten (aG n xs).flatten
 | 0=>af.nil
 | n+1=>by
  rw[gJ,oV,gJ,oV]
  exact r.append (rE r n)
theorem FU:jK X (Zt .Mult) pE:=by
 obtain⟨r,h1,h2⟩:=FG (X:=X)
 refine⟨_,dN.or JV h1,λx y a b st H m Q S rx ry p=>?_⟩
 unfold pE at p
 split at p
 ·rename_i l n
  unfold aj at rx
  obtain⟨a1,rfl,hl⟩:=rx
  cases a6 ry
  cases e:st[l]? with
  | none=>rw[e] at p;exact aa p
  | some o=>
   cases o with
   | dct kvs=>rw[e] at p;exact aa p
   | BF kvs=>rw[e] at p;exact aa p
   | BG kvs=>rw[e] at p;exact aa p
   | nZ ns=>rw[e] at p;exact aa p
   | lst ws=>
    rw[e] at p
    dsimp only at p
    by_cases c:Ad ws.length n
    ·rw[if_pos c] at p
     obtain⟨xs,q1,q2⟩:=S.rb hl e
     refine .inl ⟨a1,n,xs,rfl,rfl,q1,by have:=c.1;omega,by have:=c.2.1;omega,by rw[<-q2.length];exact eI c.2.2,λq hq=>?_⟩
     exact f_ p Ext.refl S (rE q2 n.toNat) q hq
    ·rw[if_neg c] at p;exact aa p
 ·exact .inr (h2 x y a b st H m Q S rx ry p)
def lO:List Wv->Option (List Bool)
 | []=>some []
 | .bl b::r=>(match lO r with | some l=>some (b::l) | none=>none)
 | _=>none
def CC:List Wv->Hs->Re Wv
 | [.ref l],st=>match ai st l with
  | some ws=>(match lO ws with | some bs=> .ok (.bl (bs.all id)) st | none=> .bad)
  | none=> .bad
 | _,_=> .bad
theorem rF{K:PySem.W.Frag}{m:Mp}{H:Hp}:∀{ws:List Wv}{xs:List V}{bs:List Bool},af K m H ws xs->lO ws=some bs->xs=bs.map V.bl
 | [],xs,bs,r,h=>by
  unfold af at r
  cases h
  exact r
 | w::ws,xs,bs,r,h=>by
  unfold af at r
  obtain⟨x,t,rfl,r1,r2⟩:=r
  cases w with
  | bl b=>
   unfold lO at h
   cases e:lO ws with
   | none=>rw[e] at h;cases h
   | some l=>
    rw[e] at h
    cases h
    unfold aj at r1
    rw[r1,rF r2 e]
    rfl
  | _=>cases h
theorem yk:∀{bs:List Bool}{its:List Zq},Vals (bs.map V.bl) its->its=bs.map iH
 | [],its,r=>by cases r;rfl
 | b::bs,its,r=>by
  cases r with
  | cons h t=>
   cases h
   rw[aZ,yk t]
theorem all_range:∀(bs:List Bool),(aJ bs.length).all (λi=>bs.getD i true)=bs.all id
 | []=>rfl
 | b::bs=>by
  rw[ig,List.range_succ_eq_map,cQ,List.all_map,cQ,<-all_range bs]
  rfl
theorem Ae(hc:X.calm=true):dG X (.builtin "all") (λxs H Q=>∃(p:Zk)(bs:List Bool),xs=[.ref p]/\fB X.K H p (bs.map V.bl)/\Q (.bl (bs.all id)) H):=by
 intro pins s σ H xs us Q I r h
 obtain⟨p,bs,rfl,hq,q⟩:=h
 obtain⟨u,rfl,rx⟩:=vals1 r
 cases rx
 obtain⟨its,r',pl,hz⟩:=I.list hq
 have hb:=yk r'
 subst hb
 have hl:=pl.isList
 have hlt:p < s.heap.objs.size:=by obtain⟨_,e,_⟩:=hl;exact ax e
 refine call_all_walk (wpAny_pyIter_list hl ?_)
 refine⟨_,_,_,_,_,_,λi=>bs.getD i true,rfl,Walks.list (A:=X.A.in1) (I.ok.hd hc) _ p (aN hlt) (bs.map iH).toArray,⟨⟨_,bY _ rfl,rfl,rfl⟩,hl.push _⟩,?_,λh' tk hk=>?_⟩
 ·intro i v s' Q' E' hP hQ
  have OU:(bs.map iH).toArray[i]? =some v:=hP
  rw[K_,ie] at OU
  cases e:bs[i]? with
  | none=>rw[e] at OU;cases OU
  | some b=>
   rw[e] at OU
   cases OU
   have:(bs.getD i true)=b:=by rw[a_,e];rfl
   dsimp only at hQ
   rw[this] at hQ
   exact ZN hQ
 ·have hk':∀b o,s.heap.get? b=some o->h'.get? b=some o:=old_kept hk
  refine⟨.bl _,H,I.kept (t':=tk) hk',?_,q⟩
  rw[<-all_range bs]
  simp only[aT,aH]
  rfl
theorem K'(hc:X.calm=true):dQ X (.builtin "all") CC:=⟨_,Ae hc,λws vs st H m Q S rs p=>by
 match ws,rs,p with
 | [],rs,p=>exact aa p
 | x::y::t,rs,p=>cases x<;>exact aa p
 | [x],rs,p=>
  obtain⟨v,rfl,r1⟩:=jc rs
  cases x with
  | ref l=>
   unfold CC at p
   unfold aj at r1
   obtain⟨a,rfl,hl⟩:=r1
   cases e:ai st l with
   | none=>simp only[e] at p;exact aa p
   | some ws=>
    simp only[e] at p
    cases e2:lO ws with
    | none=>simp only[e2] at p;exact aa p
    | some bs=>
     simp only[e2] at p
     obtain⟨xs,q1,q2⟩:=S.read hl e
     have q3:=rF q2 e2
     subst q3
     exact⟨a,bs,rfl,q1,p _ m H Ext.refl S gA⟩
  | _=>exact aa p⟩
def sY:List Wv->Hs->Re Wv
 | [.ref l],st=>match ai st l with
  | some ws=> .ok (.ref st.length) (st++[.lst ws])
  | none=> .bad
 | [.tup ws],st=> .ok (.ref st.length) (st++[.lst ws])
 | _,_=> .bad
theorem FV:dQ X (.type "list") sY:=⟨_,sG,λws vs st H m Q S rs p=>by
 match ws,rs,p with
 | [],rs,p=>exact aa p
 | x::y::t,rs,p=>cases x<;>exact aa p
 | [x],rs,p=>
  obtain⟨v,rfl,r1⟩:=jc rs
  cases x with
  | ref l=>
   unfold sY at p
   unfold aj at r1
   obtain⟨a,rfl,hl⟩:=r1
   cases e:ai st l with
   | none=>simp only[e] at p;exact aa p
   | some ws=>
    simp only[e] at p
    obtain⟨xs,q1,q2⟩:=S.read hl e
    exact⟨a,xs,rfl,.inl q1,λq hq=>f_ p Ext.refl S q2 q hq⟩
  | tup ws=>
   unfold aj at r1
   obtain⟨a,xs,rfl,q1,q2⟩:=r1
   exact⟨a,xs,rfl,.inr (dh.of q1),λq hq=>f_ p Ext.refl S q2 q hq⟩
  | _=>exact aa p⟩
def nk:List Wv->Hs->Re Wv
 | [.ref l],st=>match ai st l with
  | some ws=> .ok (.tup ws) st
  | none=> .bad
 | [.tup ws],st=> .ok (.tup ws) st
 | _,_=> .bad
theorem La:dQ X (.type "tuple") nk:=⟨_,qE,λws vs st H m Q S rs p=>by
 match ws,rs,p with
 | [],rs,p=>exact aa p
 | x::y::t,rs,p=>cases x<;>exact aa p
 | [x],rs,p=>
  obtain⟨v,rfl,r1⟩:=jc rs
  cases x with
  | ref l=>
   unfold nk at p
   unfold aj at r1
   obtain⟨a,rfl,hl⟩:=r1
   cases e:ai st l with
   | none=>simp only[e] at p;exact aa p
   | some ws=>
    simp only[e] at p
    obtain⟨xs,q1,q2⟩:=S.read hl e
    refine⟨a,xs,rfl,.inl ⟨q1,λq hq=>?_⟩⟩
    have e2:Ext X.K m H m (upd H q (.tup xs)):=Ext.upd (.inl hq)
    exact p (.ref q) m _ e2 (S.fresh hq) (by unfold aj;exact⟨q,xs,rfl,aL,af.mono e2 _ _ q2⟩)
  | tup ws=>
   have r1':=r1
   unfold aj at r1'
   obtain⟨a,xs,rfl,q1,q2⟩:=r1'
   exact⟨a,xs,rfl,.inr ⟨dh.of q1,p _ m H Ext.refl S r1⟩⟩
  | _=>exact aa p⟩
end
end J
namespace JL
open PySem PyProof.Rows
def kn(p:ZO):Int:=numOf p.1
section
variable {prog:Zo} {w:Zr} {A:Zl} {E:Zq->Zp->Prop} {s:Zp}
def gp(left:Bool)(key:ZO)(arr:Array ZO)(base i:Nat):Bool:=if left then decide (K arr (base+i) < kn key) else !decide (kn key < K arr (base+i))
end
section
variable {α:Type} {f:α->Int} {A B:List α}
structure Mg(f:α->Int)(A B out:List α)(ia ib:Nat):Prop where
 pm:out.Perm (A.take ia++B.take ib)
 so:out.Pairwise (f · <=f ·)
 la:∀p∈out,∀q∈A.drop ia,f p<=f q
 lb:∀p∈out,∀q∈B.drop ib,f p<=f q
theorem Mg.swap{out:List α}{ia ib:Nat}(h:Mg f A B out ia ib):Mg f B A out ib ia:=⟨h.pm.trans FW,h.so,h.lb,h.la⟩
theorem Mg.CD{out:List α}{ia ib:Nat}(h:Mg f A B out ia ib)(sa:A.Pairwise (f · <=f ·))(k:Nat)(hk:∀p∈(A.drop ia).take k,∀q∈B.drop ib,f p<=f q):Mg f A B (out++(A.drop ia).take k) (ia+k) ib:=by
 have sd:((A.drop ia).take k++(A.drop ia).drop k).Pairwise (f · <=f ·):=by rw[ym];exact sa.sublist (CF _ _)
 rw[sZ] at sd
 have e:A.take (ia+k)=A.take ia++(A.drop ia).take k:=List.take_add
 have mT:∀p∈(A.drop ia).take k,p∈A.drop ia:=λp hp=>(sv _ _).mem hp
 have mD:∀p∈(A.drop ia).drop k,p∈A.drop ia:=λp hp=>(CF _ _).mem hp
 refine⟨?_,?_,?_,?_⟩
 ·rw[e]
  refine(h.pm.append_right _).trans ?_
  rw[ij,ij]
  exact List.perm_append_comm.append_left _
 ·rw[sZ]
  exact⟨h.so,sd.1,λp hp q hq=>h.la p hp q (mT q hq)⟩
 ·intro p hp q hq
  rw[<-List.drop_drop] at hq
  rcases List.mem_append.mp hp with z | z
  ·exact h.la p z q (mD q hq)
  ·exact sd.2.2 p z q hq
 ·intro p hp q hq
  rcases List.mem_append.mp hp with z | z
  ·exact h.lb p z q hq
  ·exact hk p z q hq
theorem Mg.Lb{out:List α}{ia ib:Nat}(h:Mg f A B out ia ib)(sb:B.Pairwise (f · <=f ·))(k:Nat)(hk:∀q∈(B.drop ib).take k,∀p∈A.drop ia,f q<=f p):Mg f A B (out++(B.drop ib).take k) ia (ib+k) :=
 (h.swap.CD sb k hk).swap
theorem Mg.fin{out:List α}{ia ib:Nat}(h:Mg f A B out ia ib)(sa:A.Pairwise (f · <=f ·))(sb:B.Pairwise (f · <=f ·))(hk:∀p∈A.drop ia,∀q∈B.drop ib,f p<=f q):(out++A.drop ia++B.drop ib).Perm (A++B)/\(out++A.drop ia++B.drop ib).Pairwise (f · <=f ·):=by
 have tA:(A.drop ia).take A.length=A.drop ia:=jS (by rw[jk];exact Nat.sub_le _ _)
 have tB:(B.drop ib).take B.length=B.drop ib:=jS (by rw[jk];exact Nat.sub_le _ _)
 have h1:=h.CD sa A.length (by rw[tA];exact hk)
 have nA:A.drop (ia+A.length)=[]:=Lc (by exact yo _ _)
 have h2:=h1.Lb sb B.length (by rw[nA];intro _ _ _ z;cases z)
 rw[tA,tB] at h2
 have k1:A.take (ia+A.length)=A:=jS (by exact yo _ _)
 have k2:B.take (ib+B.length)=B:=jS (by exact yo _ _)
 have pm:=h2.pm
 rw[k1,k2] at pm
 exact⟨pm,h2.so⟩
end
abbrev Qo(st:ZP)(g:Nat):ZP:=SortSt.mk' (kindOf st) (arrOf st) (pendingOf st) g (failedOf st)
def Up(l:List ZO):Prop:=l.Pairwise (kn · <=kn ·)
def Fin'(a b:List ZO)(r:Array ZO):Prop:=r.toList.Perm (a++b)/\Up r.toList
theorem OV{a:Array ZO}{i:Nat}{p:ZO}(e:a[i]? =some p):K a i=kn p:=by unfold K;rw[e];rfl
section
variable {prog:Zo} {w:Zr} {A:Zl} {E:Zq->Zp->Prop} {s:Zp}
structure Lo(a b out:Array ZO)(ia ib:Nat):Prop where
 mg:Mg kn a.toList b.toList out.toList ia ib
 ha:ia+1 < a.size
 hb:ib < b.size
abbrev WN:=Option (Array ZO)×Array ZO×Nat×Nat×Nat×Nat×Nat
def U4(a b:Array ZO)(st:ZP)(n:Nat)(r:ForInStep WN)(st':ZP):Prop :=
 (∃g,st'=Qo st g)/\match r with
 | .done c=>(∃r t,c=(some r,t)/\Fin' a.toList b.toList r)\/∃out ia ib mg ac bc,c=(none,out,ia,ib,mg,ac,bc)/\n<=ia+ib/\Lo a b out ia ib
 | .yield c=>∃out ia ib mg ac bc,c=(none,out,ia,ib,mg,ac,bc)/\n<=ia+ib/\Lo a b out ia ib
theorem U4.fin{a b:Array ZO}{st:ZP}{n g:Nat}{r:Array ZO}{t:Array ZO×Nat×Nat×Nat×Nat×Nat}(h:Fin' a.toList b.toList r):U4 a b st n (.done (some r,t)) (Qo st g):=⟨⟨g,rfl⟩,.inl ⟨r,t,rfl,h⟩⟩
end
section
variable {α:Type} {f:α->Int} {A B:List α}
structure Mh(f:α->Int)(A B R:List α)(na nb:Nat):Prop where
 pm:R.Perm (A.drop na++B.drop nb)
 so:R.Pairwise (f · <=f ·)
 la:∀q∈A.take na,∀p∈R,f q<=f p
 lb:∀q∈B.take nb,∀p∈R,f q<=f p
theorem Mh.swap{R:List α}{na nb:Nat}(h:Mh f A B R na nb):Mh f B A R nb na:=⟨h.pm.trans FW,h.so,h.lb,h.la⟩
theorem take_take{i n:Nat}(h:i<=n):A.take n=A.take i++(A.take n).drop i:=by
 have:=ym i (A.take n)
 rw[List.take_take,Nat.min_eq_left h] at this
 exact this.symm
theorem drop_take{i n:Nat}(h:i<=n):A.drop i=(A.take n).drop i++A.drop n:=by
 have h1:=ym n A
 have h2:=congrArg (List.drop i) h1
 rw[List.drop_append] at h2
 rw[<-h2]
 by_cases c:n<=A.length
 ·rw[h_,Nat.min_eq_left c,Nat.sub_eq_zero_of_le h,il]
 ·rw[Lc (show A.length<=n by exact Nat.le_of_not_le ‹_›),List.drop_nil]
theorem Mh.CD{R:List α}{na nb:Nat}(h:Mh f A B R na nb)(sa:A.Pairwise (f · <=f ·))(k:Nat)(k1:k<=na)(hk:∀p∈(A.take na).drop k,∀q∈B.take nb,f q<=f p):Mh f A B ((A.take na).drop k++R) k nb:=by
 have e:=take_take (A:=A) k1
 have st:(A.take na).Pairwise (f · <=f ·):=sa.sublist (sv _ _)
 rw[e,sZ] at st
 have mT:∀p∈(A.take na).drop k,p∈A.take na:=λp hp=>(CF _ _).mem hp
 have mD:∀p∈A.take k,p∈A.take na:=λp hp=>by rw[e];exact kY _ hp
 refine⟨?_,?_,?_,?_⟩
 ·rw[drop_take (A:=A) k1,ij]
  exact h.pm.append_left _
 ·rw[sZ]
  exact⟨st.2.1,h.so,λp hp q hq=>h.la p (mT p hp) q hq⟩
 ·intro q hq p hp
  rcases List.mem_append.mp hp with z | z
  ·exact st.2.2 q hq p z
  ·exact h.la q (mD q hq) p z
 ·intro q hq p hp
  rcases List.mem_append.mp hp with z | z
  ·exact hk p z q hq
  ·exact h.lb q hq p z
theorem Mh.Lb{R:List α}{na nb:Nat}(h:Mh f A B R na nb)(sb:B.Pairwise (f · <=f ·))(k:Nat)(k1:k<=nb)(hk:∀p∈(B.take nb).drop k,∀q∈A.take na,f q<=f p):Mh f A B ((B.take nb).drop k++R) na k :=
 (h.swap.CD sb k k1 hk).swap
theorem Mh.fin{R:List α}{na nb:Nat}(h:Mh f A B R na nb)(sa:A.Pairwise (f · <=f ·))(sb:B.Pairwise (f · <=f ·))(hk:∀p∈B.take nb,∀q∈A.take na,f q<=f p):(A.take na++B.take nb++R).Perm (A++B)/\(A.take na++B.take nb++R).Pairwise (f · <=f ·):=by
 have h1:=h.Lb sb 0 (bF _) (by rw[il];exact hk)
 have h2:=h1.CD sa 0 (bF _) (by intro _ _ _ z;cases z)
 have pm:=h2.pm
 have so:=h2.so
 rw[il,il,<-ij] at so
 rw[il,il,il,il,<-ij] at pm
 exact⟨pm,so⟩
end
abbrev WO(a b out:Array ZO)(na nb:Nat):Prop:=Mh kn a.toList b.toList out.toList.reverse na nb
structure Hi(a b out:Array ZO)(na nb:Nat):Prop where
 mg:WO a b out na nb
 a0:1<=na
 a1:na<=a.size
 b0:2<=nb
 b1:nb<=b.size
section
variable {prog:Zo} {w:Zr} {A:Zl} {E:Zq->Zp->Prop} {s:Zp}
abbrev WQ:=Option (Array ZO)×Nat×Nat×Array ZO×Nat×Nat×Nat
def U5(a b:Array ZO)(st:ZP)(n:Nat)(r:ForInStep WQ)(st':ZP):Prop :=
 (∃g,st'=Qo st g)/\match r with
 | .done c=>(∃r t,c=(some r,t)/\Fin' a.toList b.toList r)\/∃na nb out mg ac bc,c=(none,na,nb,out,mg,ac,bc)/\na+nb<=n/\Hi a b out na nb
 | .yield c=>∃na nb out mg ac bc,c=(none,na,nb,out,mg,ac,bc)/\na+nb<=n/\Hi a b out na nb
theorem U5.fin{a b:Array ZO}{st:ZP}{n g:Nat}{r:Array ZO}{t:Nat×Nat×Array ZO×Nat×Nat×Nat}(h:Fin' a.toList b.toList r):U5 a b st n (.done (some r,t)) (Qo st g):=⟨⟨g,rfl⟩,.inl ⟨r,t,rfl,h⟩⟩
end
section
variable {prog:Zo} {w:Zr} {A₀:Zl} {E:Zq->Zp->Prop} {s:Zp}
end
def Sm(lo:Nat)(xs ys:Array ZO):Prop:=ys.Perm xs/\∀i,i < lo->ys[i]? =xs[i]?
theorem Sm.refl{lo:Nat}{xs:Array ZO}:Sm lo xs xs:=⟨.refl _,λ_ _=>rfl⟩
theorem Sm.trans{lo:Nat}{xs ys zs:Array ZO}(h1:Sm lo xs ys)(h2:Sm lo ys zs):Sm lo xs zs:=⟨h2.1.trans h1.1,λi hi=>(h2.2 i hi).trans (h1.2 i hi)⟩
theorem Sm.size{lo:Nat}{xs ys:Array ZO}(h:Sm lo xs ys):ys.size=xs.size:=h.1.size_eq
theorem Sm.mirror{lo i j:Nat}{xs:Array ZO}(h:lo<=i)(hj:j<=xs.size):Sm lo xs (mirror xs i j ((j - i) / 2)) :=
 ⟨mirror_perm _ _ _ _,λk hk=>by rw[getElem?_mirror_all hj,if_neg (by omega)]⟩
def FX(xs:Array ZO)(lo n:Nat):Prop:=∀i j,i<=j->j < n->K xs (lo+i)<=K xs (lo+j)
def yp(xs:Array ZO)(lo n:Nat):Prop:=∀i j,i<=j->j < n->K xs (lo+j)<=K xs (lo+i)
theorem FX.step{xs:Array ZO}{lo n:Nat}(h:FX xs lo n)(h1:1<=n)(c:¬K xs (lo+n) < K xs (lo+n - 1)):FX xs lo (n+1):=λi j hij hj=>by
 by_cases z:j < n
 ·exact h i j hij z
 ·have:j=n:=by omega
  subst this
  by_cases y:i=j
  ·subst y;exact Int.le_refl _
  ·have:=h i (j - 1) (by omega) (by omega)
   rw[show lo+(j - 1)=lo+j - 1 by omega] at this
   omega
theorem yp.step{xs:Array ZO}{lo n:Nat}(h:yp xs lo n)(h1:1<=n)(c:K xs (lo+n)<=K xs (lo+n - 1)):yp xs lo (n+1):=λi j hij hj=>by
 by_cases z:j < n
 ·exact h i j hij z
 ·have:j=n:=by omega
  subst this
  by_cases y:i=j
  ·subst y;exact Int.le_refl _
  ·have:=h i (j - 1) (by omega) (by omega)
   rw[show lo+(j - 1)=lo+j - 1 by omega] at this
   exact Int.le_trans ‹_› ‹_›
theorem FX.one{xs:Array ZO}{lo:Nat}:FX xs lo 1:=λi j h1 h2=>by
 have:i=j:=by omega
 subst this;exact Int.le_refl _
theorem FX.turn{xs:Array ZO}{lo n:Nat}(h:yp xs lo n)(hn:lo+n<=xs.size):FX (mirror xs lo (lo+n) ((lo+n - lo) / 2)) lo n:=λi j h1 h2=>by
 rw[K_mirror hn,K_mirror hn,if_pos (by omega),if_pos (by omega)]
 have:=h (n - 1 - j) (n - 1 - i) (by omega) (by omega)
 rw[show lo+(lo+n) - 1 - (lo+i)=lo+(n - 1 - i) by omega,show lo+(lo+n) - 1 - (lo+j)=lo+(n - 1 - j) by omega]
 exact this
section
variable {prog:Zo} {w:Zr} {A:Zl} {E:Zq->Zp->Prop} {s:Zp} {P:Array (Nat×Nat×Nat)} {g:Nat}
end
section
variable {prog:Zo} {w:Zr} {A:Zl} {E:Zq->Zp->Prop} {s:Zp} {P:Array (Nat×Nat×Nat)} {g:Nat}
end
inductive Rn:Nat->List (Nat×Nat×Nat)->List ZO->Prop
 | nil {s:Nat}:Rn s [] []
 | cons {s n p:Nat} {P:List (Nat×Nat×Nat)} {A X:List ZO}:A.length=n->1<=n->Up A->Rn (s+n) P X->Rn s ((s,n,p)::P) (A++X)
theorem Rn.split:∀{pre r:List (Nat×Nat×Nat)}{s:Nat}{X:List ZO},Rn s (pre++r) X->∃X1 X2,X=X1++X2/\Rn s pre X1/\Rn (s+X1.length) r X2
 | [],r,s,X,h=>⟨[],X,rfl,.nil,h⟩
 | a::pre,r,s,X,h=>by
  cases h with
  | cons h1 h2 h3 h4=>
   obtain⟨X1,X2,rfl,k1,k2⟩:=h4.split
   refine⟨_++X1,X2,(ij _ _ _).symm,.cons h1 h2 h3 k1,?_⟩
   rw[dk,h1,<-Nat.add_assoc]
   exact k2
theorem Rn.len:∀{P:List (Nat×Nat×Nat)}{s:Nat}{X:List ZO},Rn s P X->P.length<=X.length
 | [],s,X,h=>bF _
 | a::P,s,X,h=>by
  cases h with
  | cons h1 h2 h3 h4=>
   have:=h4.len
   rw[dk,ig]
   omega
theorem Rn.few{P:List (Nat×Nat×Nat)}{s:Nat}{X:List ZO}(h:Rn s P X)(l:P.length<=1):Up X:=by
 cases h with
 | nil=>exact .nil
 | cons h1 h2 h3 h4=>
  cases h4 with
  | nil=>rw[hX];exact h3
  | cons _ _ _ _=>simp at l
section
variable {prog:Zo} {w:Zr} {A₀:Zl} {E:Zq->Zp->Prop} {s:Zp}
end
section
variable {prog:Zo} {w:Zr} {A₀:Zl} {E:Zq->Zp->Prop} {s:Zp}
theorem FX.up{zs:Array ZO}{lo n:Nat}(as:FX zs lo n)(h:lo+n<=zs.size):Up ((zs.toList.drop lo).take n):=by
 unfold Up
 rw[s_]
 intro i j hi hj hij
 rw[h_,jk] at hi hj
 have hz:zs.toList.length=zs.size:=rfl
 have:=as i j (by exact iJ ‹_›) (by omega)
 rw[OV (HV (by omega)),OV (HV (by omega))] at this
 simpa using this
end
section
variable {prog:Zo} {w:Zr} {A:Zl} {E:Zq->Zp->Prop} {s:Zp}
end
end JL
namespace J
open PySem PySem.Spec PyProof.Rows L2
section
variable {X:Cx}
def qH(ga gb:GE):GE:=λρ st=>match ga ρ st with
  | .bad=>gb ρ st
  | r=>r
theorem CG{e:Expr}{ga gb:GE}(ha:JE X e ga)(hb:JE X e gb):JE X e (qH ga gb):=by
  intro ρ st σ H m Q S R p
  unfold qH at p
  cases e1:ga ρ st with
  | bad=>rw[e1] at p;exact hb ρ st σ H m Q S R p
  | ok w st'=>rw[e1] at p;exact ha ρ st σ H m Q S R (by rw[e1];exact p)
  | err c st'=>rw[e1] at p;exact ha ρ st σ H m Q S R (by rw[e1];exact p)
def intsOf:List Wv->Option (List Int)
  | []=>some []
  | .int b::r=>(match intsOf r with | some l=>some (b::l) | none=>none)
  | _=>none
theorem kI:∀ns:List Int,intsOf (ns.map Wv.int)=some ns
  | []=>rfl
  | n::r=>by rw[aZ];unfold intsOf;rw[kI r]
theorem kJ{K:PySem.W.Frag}{m:Mp}{H:Hp}:∀{ws:List Wv}{xs:List V}{bs:List Int},af K m H ws xs->intsOf ws=some bs->xs=bs.map V.int
  | [],xs,bs,r,h=>by
    unfold af at r
    cases h
    exact r
  | w::ws,xs,bs,r,h=>by
    unfold af at r
    obtain⟨x,t,rfl,r1,r2⟩:=r
    cases w with
    | int b=>
      unfold intsOf at h
      cases e:intsOf ws with
      | none=>rw[e] at h;cases h
      | some l=>
        rw[e] at h
        cases h
        unfold aj at r1
        rw[r1,kJ r2 e]
        rfl
    | _=>cases h
theorem pF:∀{ns:List Int}{its:List Zq},Vals (ns.map V.int) its->∃xs:List (Int×Tok),its=xs.map (λp=>kU p.1 p.2)/\xs.map (·.1)=ns
  | [],its,r=>by cases r;exact⟨[],rfl,rfl⟩
  | n::ns,its,r=>by
    cases r with
    | cons h t=>
      obtain⟨tk,rfl⟩:=h
      obtain⟨xs,e1,e2⟩:=pF t
      exact⟨(n,tk)::xs,by rw[e1];rfl,by rw[<-e2];rfl⟩
theorem intsAre_of:∀xs:List (Int×Tok),IntsAre (xs.map λp=>kU p.1 p.2) (xs.map (·.1))
  | []=> .nil
  | p::r=> .cons p.1 p.2 (intsAre_of r)
theorem nq:∀{vs:List Zq}{ns:List Int},IntsAre vs ns->Vals (ns.map V.int) vs
  | _,_,.nil=> .nil
  | _,_,.cons n t r=> .cons ⟨t,rfl⟩ (nq r)
theorem Af(xs:List (Int×Tok))(i:Nat):numAt xs.toArray i=(xs.map (·.1)).getD i 0:=by
  unfold numAt
  rw[K_,a_,ie]
theorem pG(xs:List (Int×Tok)):∀k,preSum (numAt xs.toArray) k=((xs.map (·.1)).take k).sum
  | 0=>by simp[preSum]
  | k+1=>by
    unfold preSum
    rw[pG xs k,Af]
    rw[PySem.sum_take_succ]
theorem Ag(hc:X.calm=true):dG X (.builtin "sum") (λxs H Q=>∃(p:Zk)(ns:List Int),xs=[.ref p]/\fB X.K H p (ns.map V.int)/\Q (.int ns.sum) H):=by
  intro pins s σ H xs us Q I r h
  obtain⟨p,ns,rfl,hq,q⟩:=h
  obtain⟨u,rfl,rx⟩:=vals1 r
  cases rx
  obtain⟨its,r',pl,hz⟩:=I.list hq
  obtain⟨xs,rfl,rfl⟩:=pF r'
  have hl:=pl.isList
  have e:(xs.map λp=>kU p.1 p.2).toArray=intItems xs.toArray:=by unfold intItems;simp
  rw[e] at hl
  refine sum_intListG (I.ok.hd hc) hl λh' tk t' hk=>⟨.int _,H,I.kept hk,⟨t',?_⟩,q⟩
  rw[pG,jS (by simp)]
def Ah:List Wv->Hs->Re Wv
  | [.ref l],st=>match ai st l with
    | some ws=>(match intsOf ws with | some ns=> .ok (.int ns.sum) st | none=> .bad)
    | none=> .bad
  | _,_=> .bad
theorem Ld(hc:X.calm=true):dQ X (.builtin "sum") Ah:=⟨_,Ag hc,λws vs st H m Q S rs p=>by
  match ws,rs,p with
  | [],rs,p=>exact aa p
  | x::y::t,rs,p=>cases x<;>exact aa p
  | [x],rs,p=>
    obtain⟨v,rfl,r1⟩:=jc rs
    cases x with
    | ref l=>
      unfold Ah at p
      unfold aj at r1
      obtain⟨a,rfl,hl⟩:=r1
      cases e:ai st l with
      | none=>simp only[e] at p;exact aa p
      | some ws=>
        simp only[e] at p
        cases e2:intsOf ws with
        | none=>simp only[e2] at p;exact aa p
        | some bs=>
          simp only[e2] at p
          obtain⟨xs,q1,q2⟩:=S.read hl e
          have q3:=kJ q2 e2
          subst q3
          exact⟨a,bs,rfl,q1,p _ m H Ext.refl S mkInt⟩
    | _=>exact aa p⟩
def WR(n:Int)(r:List Int):Int:=r.foldl (λa b=>if b > a then b else a) n
def OW:List Wv->Hs->Re Wv
  | [.ref l],st=>match ai st l with
    | some ws=>(match intsOf ws with | some (n::r)=> .ok (.int (WR n r)) st | _=> .bad)
    | none=> .bad
  | ws,st=>RK ws st
def OX:List Wv->Hs->Re Wv:=λws st=>RL ws st
theorem dQ.or{f:Zq}{op op':List Wv->Hs->Re Wv}(g:List Wv->Hs->Re Wv)(h:dQ X f op)(h':dQ X f op')(k:∀ws st,g ws st=op ws st\/g ws st=op' ws st):dQ X f g:=by
  obtain⟨r,h1,h2⟩:=h
  obtain⟨r',Hz,h2'⟩:=h'
  refine⟨_,h1.or Hz,λws vs st H m Q S rs p=>?_⟩
  rcases k ws st with e | e
  · rw[e] at p;exact .inl (h2 ws vs st H m Q S rs p)
  · rw[e] at p;exact .inr (h2' ws vs st H m Q S rs p)
def insI(n:Int):List Int->List Int
  | []=>[n]
  | a::r=>if n<=a then n::a::r else a::insI n r
def gE:List Int->List Int
  | []=>[]
  | a::r=>insI a (gE r)
theorem insI_perm(n:Int):∀l:List Int,(insI n l).Perm (n::l)
  | []=> .refl _
  | a::r=>by
    unfold insI
    split
    · exact .refl _
    · exact((insI_perm n r).cons a).trans (.swap n a r)
theorem fR:∀l:List Int,(gE l).Perm l
  | []=> .nil
  | a::r=>(insI_perm a (gE r)).trans ((fR r).cons a)
theorem uU(n:Int):∀l:List Int,l.Pairwise (· <=·)->(insI n l).Pairwise (· <=·)
  | [],_=>by simp[insI]
  | a::r,h=>by
    unfold insI
    rw[fG] at h
    split
    · rename_i c
      rw[fG,fG]
      refine⟨λb hb=>?_,h⟩
      rcases List.mem_cons.mp hb with z | z
      · rw[z];exact c
      · have:=h.1 b z;omega
    · rename_i c
      rw[fG]
      refine⟨λb hb=>?_,uU n r h.2⟩
      rcases List.mem_cons.mp ((insI_perm n r).mem_iff.mp hb) with z | z
      · rw[z];omega
      · exact h.1 b z
theorem pH:∀l:List Int,(gE l).Pairwise (· <=·)
  | []=> .nil
  | a::r=>uU a _ (pH r)
theorem FY{a b:List Int}(h:a.Perm b)(ha:a.Pairwise (· <=·))(hb:b.Pairwise (· <=·)):a=b :=
  wU (λ_ _ _ _ h1 h2=>by omega) ha hb h
theorem Ai:dG X (.builtin "sorted") (λxs H Q=>∃(p:Zk)(ns:List Int),xs=[.ref p]/\fB X.K H p (ns.map V.int)/\ns.length < 64/\∀l,H l=none->Q (.ref l) (upd H l (.lst ((gE ns).map V.int)))):=by
  intro pins s σ H xs us Q I r h
  obtain⟨p,ns,rfl,hq,h64,q⟩:=h
  obtain⟨u,rfl,rx⟩:=vals1 r
  cases rx
  obtain⟨its,r',pl,hz⟩:=I.list hq
  have hlen:=r'.length
  obtain⟨xs,rfl,rfl⟩:=pF r'
  refine sorted_ints pl.isList (intsAre_of xs) (by simpa using h64) λout ns' a1 a2 a3=>?_
  have e:ns'=gE (xs.map (·.1)):=FY (a2.trans (fR _).symm) a3 (pH _)
  subst e
  obtain⟨n,hat⟩:=sortedAll_at s.heap (xs.map λp=>kU p.1 p.2) out
  have hz':((gE (xs.map (·.1))).map V.int).length<=ZE:=by
    rw[aH,(fR _).length_eq]
    simpa using hz
  refine⟨.ref (s.heap.objs.size+1),_,I.laid (t':=s.toks) (λ_ _=>sortedAll_old) (jT _) (show dM X.prog X.w _ _ _ (.lst _) from⟨hz',out.toList,n,nq a1,?_⟩),rfl,q _ (I.hok.fresh (jT _))⟩
  rw[hat]
def Aj:List Wv->Hs->Re Wv
  | [.ref l],st=>match ai st l with
    | some ws=>(match intsOf ws with | some ns=>if ns.length < 64 then .ok (.ref st.length) (st++[.lst ((gE ns).map Wv.int)]) else .bad | none=> .bad)
    | none=> .bad
  | _,_=> .bad
theorem Le:dQ X (.builtin "sorted") Aj:=⟨_,Ai,λws vs st H m Q S rs p=>by
  match ws,rs,p with
  | [],rs,p=>exact aa p
  | x::y::t,rs,p=>cases x<;>exact aa p
  | [x],rs,p=>
    obtain⟨v,rfl,r1⟩:=jc rs
    cases x with
    | ref l=>
      unfold Aj at p
      unfold aj at r1
      obtain⟨a,rfl,hl⟩:=r1
      cases e:ai st l with
      | none=>simp only[e] at p;exact aa p
      | some ws=>
        simp only[e] at p
        cases e2:intsOf ws with
        | none=>simp only[e2] at p;exact aa p
        | some bs=>
          simp only[e2] at p
          by_cases c:bs.length < 64
          · rw[if_pos c] at p
            obtain⟨xs,q1,q2⟩:=S.read hl e
            have q3:=kJ q2 e2
            subst q3
            exact⟨a,bs,rfl,q1,c,λq hq=>f_ p Ext.refl S (af.ints _) q hq⟩
          · rw[if_neg c] at p;exact aa p
    | _=>exact aa p⟩
end
section
variable {X:Cx}
def pI(mt:PySem.Str->List Wv->Hs->Re Wv)(go:GE)(ga:GA):GE:=λρ st=>(go ρ st).bind λo st1=>match o with
 | .str z=>(ga ρ st1).bind λws st2=>(mt z ws st2).je
 | _=> .bad
def U6(X:Cx)(id:String)(mt:PySem.Str->List Wv->Hs->Re Wv):Prop:=∃r,Hx X id r/\∀(z:PySem.Str)(ws:List Wv)(vs:List V)(st:Hs)(H:Hp)(m:Mp)(Q:VK),aO z=true->aQ X.K m st H->af X.K m H ws vs->cb X.K m H (mt z ws st) Q->r (.str z) vs H Q
theorem CI{o:Expr}{name:Str}{id:String}{e:Expr}{es:List Expr}{go:GE}{ga:GA}{apos cpos:Pos}{mt:PySem.Str->List Wv->Hs->Re Wv}(hm:U6 X id mt)(slot:Slot "str" name id)(hty:typeOf (.builtin id)=pure (.type "method_descriptor"))(ho:JE X o go)(ha:JA X (e::es) ga)
  (hbase:attributeBase o name X.env (eval o X.env)=eval o X.env)
  (hfew:((backTo cpos (ZF (e::es) X.env)).all (λx=> !x.1)&&(backToKw cpos (keywordEach [] X.env)).all (λx=>x.1.isSome)&&decide ((e::es).length+([]:List Keyword).length+(if([]:List Keyword).isEmpty then 0 else 1) < 30))=true)
  (hline:(apos.endLine == cpos.line)=true)(hs:ZF (e::es) X.env=(false,eval e X.env)::ZF es X.env)(hplain:(backTo cpos (ZF es X.env)).any (·.1)=false) :
  JE X (.Call (.Attribute o name apos) (e::es) [] cpos) (pI mt go ga):=by
 obtain⟨r,h1,h2⟩:=hm
 refine JE.of (xX PySem.F.plainAttrs_str slot hty h1 aU fZ hbase hfew hline hs hplain) λρ st σ H m Q S R p=>?_
 refine ho.go S R (au.bind p) λo st1 v m1 H1 p1 e1 S1 ro=>?_
 cases o with
 | str z=>
  dsimp only at p1
  unfold aj at ro
  obtain⟨rfl,hz⟩:=ro
  refine⟨rfl,?_⟩
  refine ha.go S1 (R.mono e1) ((au.bind p1).imp e1 λ_ _ q=>q) λws st2 vs m2 H2 p2 e2 S2 rs=>?_
  exact h2 z ws vs st2 H2 m2 Q hz S2 rs (cb.shift (au.je p2) (e1.trans e2))
 | _=>exact aa p1
theorem rG{z:PySem.Str}:aO z=true↔∀c∈z.cps.toList,c < 1114112:=by
 unfold aO
 rw[Oq]
 constructor
 ·intro h c hc
  simpa using h c (Array.mem_toList_iff.mp hc)
 ·intro h c hc
  simpa using h c (Array.mem_toList_iff.mpr hc)
end
section
variable {X:Cx}
theorem Lf:EC X (λx lo hi H Q=>∃z,x= .str z/\z.length<=ZE/\Q (.str (jU z lo hi)) H):=by
 intro pins s σ H x v vl vu lo hi sl Q I rx hs pl pu h
 obtain⟨z,rfl,hz,q⟩:=h
 obtain⟨t,rfl⟩:=rx
 have fin:∀t' k,EP X pins σ Q (.str (jU z lo hi) t') { s with toks:=k }:=λt' k=>⟨.str _,H,I.tok k,⟨t',rfl⟩,q⟩
 refine⟨"str",_,PySem.F.slot_str_getitem.lookup,typeIs_str _ _ _,?_⟩
 have hl:=bE (Txt.slice_le z lo hi) hz
 cases pl with
 | none=>
  cases pu with
  | none=>exact wpAny_getItem_str_slice (l:=none) (u:=none) (st:=none) hs rfl (post_val_or_str ⟨hl,fin⟩)
  | int j tj=>exact wpAny_getItem_str_slice (l:=none) (u:=some (j,tj)) (st:=none) hs rfl (post_val_or_str ⟨hl,fin⟩)
 | int i ti=>
  cases pu with
  | none=>exact wpAny_getItem_str_slice (l:=some (i,ti)) (u:=none) (st:=none) hs rfl (post_val_or_str ⟨hl,fin⟩)
  | int j tj=>exact wpAny_getItem_str_slice (l:=some (i,ti)) (u:=some (j,tj)) (st:=none) hs rfl (post_val_or_str ⟨hl,fin⟩)
theorem Ak{z:PySem.Str}{lo hi:Option Int}{c:Nat}(h:c∈(jU z lo hi).cps.toList):c∈z.cps.toList:=by
 unfold jU at h
 split at h
 ·exact h
 ·simp only[List.mem_filterMap] at h
  obtain⟨i,_,e⟩:=h
  rw[Array.getElem?_eq_some_iff] at e
  obtain⟨hi,rfl⟩:=e
  exact Array.mem_toList_iff.mpr (Array.getElem_mem hi)
theorem uV{z:PySem.Str}{lo hi:Option Int}(h:aO z=true):aO (jU z lo hi)=true:=by
 rw[rG] at h ⊢
 exact λc hc=>h c (Ak hc)
end
section
open HT
theorem qI{prog:Zo}{w:Zr}{A:Zl}{E:Zq->Zp->Prop}{s:Zp}{t sl:Zk}{us:Array Zq}{vl vu:Zq}{lo hi:Option Int}{Q:Zq->Zp->Prop}(ht:IsTup s.heap t us)(hs:s.heap.IsSliceOf sl vl vu .none)(pl:IsPart vl lo)(pu:IsPart vu hi)
  (hw:cu us.size 0 lo=0/\cu us.size us.size hi=us.size)(h:Q (.ref t) s):ZG (model prog w) A (getItem (.ref t) (.ref sl)) Q E s:=by
 obtain⟨os,o1,o2,o3⟩:=id hs
 have tys:s.TypeIs (.ref sl) "slice":=⟨os,o1,o2⟩
 unfold getItem;try with_reducible refine ZI ?_
 first | refine ZH (ZM ?_) | skip
 refine ZH (wpAny_sequenceKey ht.typeIs (by decide) ?_);refine ZH (wpAny_callSpecial?_slot (name:=jI "__getitem__") ht.typeIs sx (wpAny_call_entry sx ht.typeIs entry_tuple_getitem ?_ (args_tuple_getitem _ _)))
 show ZG _ _ (JG (.ref t) >>= _) _ _ _;refine ZH (tupleItemsOf_ ht ?_);refine ZH (wpAny_typeOf tys ?_)
 rw[if_pos (by decide)];refine ZH (iC hs pl pu ?_)
 rw[hw.1,hw.2]
 have yes:((((0:Nat):Int)) == 0&&(1:Int) == 1&&(us.size - 0) == us.size)=true:=by simp
 show ZG _ _ (if((((0:Nat):Int)) == 0&&(1:Int) == 1&&(us.size - 0) == us.size)=true then _ else _) _ _ s
 rw[if_pos yes]
 refine ZH (m:=Lg _) ?_
 unfold Lg
 refine ZH (wpAny_typeOf ht.typeIs (ZM ?_))
 rw[if_pos (by decide)]
 exact ZH (wpAny_rule (ZM ⟨_,rfl,ZM h⟩))
end
section
variable {X:Cx}
def R4(K:PySem.W.Frag):V->Option Int->Option Int->Hp->VK->Prop:=λx lo hi H Q=>∃a xs,x= .ref a/\dh K H a xs/\(HT.cu xs.length 0 lo=0/\HT.cu xs.length xs.length hi=xs.length)/\Q (.ref a) H
theorem CJ:EC X (R4 X.K):=by
 intro pins s σ H x v vl vu lo hi sl Q I rx hs pl pu h
 obtain⟨a,xs,rfl,hx,hw,q⟩:=h
 cases rx
 obtain⟨its,r,ht,hz⟩:=I.tuple hx
 have n:its.toArray.size=xs.length:=by rw[aT];exact r.length.symm
 exact⟨"tuple",_,PyProof.Rows.slot_tuple_getitem.lookup,ht.typeIs,qI ht hs pl pu (by rw[n];exact hw) ⟨.ref a,H,I,rfl,q⟩⟩
def Al(n:Nat)(lo hi:Option Int):Prop:=HT.cu n 0 lo=0/\HT.cu n n hi=n
instance {n:Nat}{lo hi:Option Int}:Decidable (Al n lo hi):=inferInstanceAs (Decidable (HT.cu n 0 lo=0/\HT.cu n n hi=n))
def CK(x:Wv)(lo hi:Option Int)(st:Hs):Re Wv:=match x with
 | .str z=>if z.length<=lim then .ok (.str (jU z lo hi)) st else .bad
 | .tup ws=>if Al ws.length lo hi then .ok (.tup ws) st else Ou (.tup ws) lo hi st
 | x=>Ou x lo hi st
def aV(ga:GE)(gl gh:GO):GE:=λρ st=>(ga ρ st).bind λx st1=>(gl ρ st1).bind λlo st2=>(gh ρ st2).bind λhi st3=>CK x lo hi st3
theorem Am{a:Expr}{lo hi:Option Expr}{ga:GE}{gl gh:GO}{pos p2:Pos}(ha:JE X a ga)(hl:JO X lo gl)(hh:JO X hi gh):JE X (.Subscript a (.Slice lo hi none p2) pos) (aV ga gl gh):=by
 have hS:JE X (.Subscript a (.Slice lo hi none p2) pos) (λρ st=>(ga ρ st).bind λx st1=>(gl ρ st1).bind λlo st2=>(gh ρ st2).bind λhi st3=>match x with | .str z=>if z.length<=lim then .ok (.str (jU z lo hi)) st3 else .bad | _=> .bad):=by
  refine JE.of (oS Lf aU rf rf) λρ st σ H m Q S R p=>?_
  refine ha.go S R (au.bind p) λx st1 v m1 H1 p1 e1 S1 rx=>?_
  refine hl.go S1 (R.mono e1) ((au.bind p1).imp e1 λ_ _ q=>q) λl st2 m2 H2 p2 e2 S2=>?_
  refine hh.go S2 (R.mono (e1.trans e2)) ((au.bind p2).imp (e1.trans e2) λ_ _ q=>q) λh st3 m3 H3 p3 e3 S3=>?_
  have ED:=e1.trans (e2.trans e3)
  cases x with
  | str z=>
   dsimp only at p3
   by_cases c:z.length<=lim
   ·rw[if_pos c] at p3
    unfold aj at rx
    obtain⟨rfl,hz⟩:=rx
    exact⟨z,rfl,eI c,p3 _ m3 H3 ED S3 (mkStr (uV hz))⟩
   ·rw[if_neg c] at p3;exact aa p3
  | _=>exact aa p3
 have hW:JE X (.Subscript a (.Slice lo hi none p2) pos) (λρ st=>(ga ρ st).bind λx st1=>(gl ρ st1).bind λlo st2=>(gh ρ st2).bind λhi st3=>match x with | .tup ws=>if Al ws.length lo hi then .ok (.tup ws) st3 else Ou (.tup ws) lo hi st3 | _=> .bad):=by
  refine JE.of (oS (EC.or CJ Bv) aU rf rf) λρ st σ H m Q S R p=>?_
  refine ha.go S R (au.bind p) λx st1 v m1 H1 p1 e1 S1 rx=>?_
  refine hl.go S1 (R.mono e1) ((au.bind p1).imp e1 λ_ _ q=>q) λl st2 m2 H2 p2 e2 S2=>?_
  refine hh.go S2 (R.mono (e1.trans e2)) ((au.bind p2).imp (e1.trans e2) λ_ _ q=>q) λh st3 m3 H3 p3 e3 S3=>?_
  have ED:=e1.trans (e2.trans e3)
  cases x with
  | tup ws=>
   dsimp only at p3
   have mJ:=aj.mono (e2.trans e3) _ _ rx
   unfold aj at mJ
   obtain⟨a',xs,rfl,f1,f2⟩:=mJ
   by_cases c:Al ws.length l h
   ·rw[if_pos c] at p3
    unfold Al at c
    rw[f2.length] at c
    exact .inl ⟨a',xs,rfl,dh.of f1,c,p3 _ m3 H3 ED S3 (by unfold aj;exact⟨a',xs,rfl,f1,f2⟩)⟩
   ·rw[if_neg c] at p3
    unfold Ou at p3
    dsimp only at p3
    unfold Al at c
    rw[if_neg c] at p3
    rw[f2.length] at c
    refine .inr ⟨a',xs,rfl,dh.of f1,c,λq hq=>?_⟩
    have eU:Ext X.K m3 H3 m3 (L2.upd H3 q (.tup (qB xs l h))):=Ext.nO (.inl hq)
    exact p3 (.ref q) m3 _ (ED.trans eU) (S3.fresh hq) (by unfold aj;exact⟨q,_,rfl,L2.aL,af.mono eU _ _ (sQ f2)⟩)
  | _=>exact aa p3
 intro ρ st σ H m Q S R p
 unfold aV at p
 cases e1:ga ρ st with
 | bad=>rw[e1] at p;exact aa p
 | err c st1=>rw[e1] at p;exact uG ha hl hh ρ st σ H m Q S R (by unfold wJ;rw[e1];exact p)
 | ok x st1=>
  rw[e1] at p
  cases x with
  | str z=>exact hS ρ st σ H m Q S R (by dsimp only;rw[e1];exact p)
  | tup ws=>exact hW ρ st σ H m Q S R (by dsimp only;rw[e1];exact p)
  | _=>exact uG ha hl hh ρ st σ H m Q S R (by unfold wJ;rw[e1];exact p)
def Lh:gv
 | .str i,.str j,st=> .ok (.bl (!(mn j i 0 j.length 1).isEmpty)) st
 | x,y,st=>RB x y st
def lP:gv
 | .str i,.str j,st=> .ok (.bl (!(!(mn j i 0 j.length 1).isEmpty))) st
 | x,y,st=>wI x y st
theorem Li:jK X (Zx .In) Lh:=by
 obtain⟨r,h1,h2⟩:=Oo (X:=X)
 refine⟨_,dN.or zE h1,λx y a b st H m Q S rx ry p=>?_⟩
 unfold Lh at p
 split at p
 ·rename_i i j
  unfold aj at rx ry
  obtain⟨rfl,_⟩:=rx
  obtain⟨rfl,_⟩:=ry
  exact .inl ⟨i,j,rfl,rfl,p _ m H Ext.refl S gA⟩
 ·exact .inr (h2 x y a b st H m Q S rx ry p)
theorem An:jK X (Zx .NotIn) lP:=by
 obtain⟨r,h1,h2⟩:=BX (X:=X)
 refine⟨_,dN.or sD h1,λx y a b st H m Q S rx ry p=>?_⟩
 unfold lP at p
 split at p
 ·rename_i i j
  unfold aj at rx ry
  obtain⟨rfl,_⟩:=rx
  obtain⟨rfl,_⟩:=ry
  exact .inl ⟨i,j,rfl,rfl,p _ m H Ext.refl S gA⟩
 ·exact .inr (h2 x y a b st H m Q S rx ry p)
theorem CL:Hx X "str.index" (λx xs H Q=>∃z y i r,x= .str z/\xs=[.str y]/\mn z y 0 z.length 1=i::r/\Q (.int (i:Nat)) H):=by
 intro pins s σ H x xs v us Q I rx rv h
 obtain⟨z,y,i,r,rfl,rfl,ho,q⟩:=h
 obtain⟨t,rfl⟩:=rx
 obtain⟨u,rfl,t',rfl⟩:=vals1 rv
 exact SC.index ho ⟨.int _,H,I.tok _,⟨_,rfl⟩,q⟩
def mL(z:PySem.Str):List Wv->Hs->Re Wv
 | [.str y],st=>(match mn z y 0 z.length 1 with | i::_=> .ok (.int (i:Nat)) st | []=> .bad)
 | _,_=> .bad
theorem CM:U6 X "str.index" mL:=⟨_,CL,λz ws vs st H m Q hz S rs p=>by
 match ws,rs,p with
 | [],rs,p=>exact aa p
 | x::y::t,rs,p=>cases x<;>exact aa p
 | [x],rs,p=>
  obtain⟨v,rfl,r1⟩:=jc rs
  cases x with
  | str y=>
   unfold aj at r1
   obtain⟨rfl,_⟩:=r1
   unfold mL at p
   dsimp only at p
   cases e:mn z y 0 z.length 1 with
   | nil=>rw[e] at p;exact aa p
   | cons i r=>rw[e] at p;exact⟨z,y,i,r,rfl,rfl,e,p _ m H Ext.refl S mkInt⟩
  | _=>exact aa p⟩
end
open PySem PySem.Spec PyProof.Rows L2 PySem.W
section
variable {X:Cx}
end
section
variable {X:Cx}
end
section
variable {X:Cx}
end
def OY(x:Str):It:=⟨λi _=>i < x.cps.size,λi H v H'=>H'=H/\∃c,x.cps[i]? =some c/\v= .str ⟨#[c]⟩,λi _=>x.cps.size<=i⟩
theorem wV{P:Zo}{w:Zr}{K:PySem.W.Frag}{tg:Expr}(x:Str)(t:Tok)(it:Zk):Turn P w K tg (OY x) [it] it (λi h=>h.IsStrIter it "str_ascii_iterator" x t i) where
 mem:=List.mem_singleton.mpr rfl
 obj:=λi h st b hb=>by
  cases List.mem_singleton.mp hb
  obtain⟨o,e,c,d⟩:=st
  exact⟨o,e,λv z=>by rw[d] at z;cases z⟩
 keep:=λi h h' st k=>let ⟨o,e,r⟩:=st;⟨o,k it (List.mem_singleton.mpr rfl) o e,r⟩
 item:=by
  intro X hP hw hK hc i pins s σ H E I hf st hg
  subst hP;subst hw;subst hK
  obtain⟨f0,f1,f2,f3,f4,f5⟩:=hf it (List.mem_singleton.mpr rfl)
  have hi:i < x.cps.size:=hg
  refine wpAny_pyNext_ascii_item st (c:=x.cps[i]) (by simp[hi]) λh' st' sb=>?_
  have I1:L2.Inv X pins σ H { s with heap:=h',toks:=s.toks+1 }:=I.turned (t':=s.toks+1) (λb o hb e=>sb.extBut b o hb e) f0 f1 f3 f4 f5
  obtain⟨o,e,c,d⟩:=id st'
  exact⟨_,rfl,qV (s:={ s with heap:=h',toks:=s.toks+1 }) e c d (by decide) ⟨.str ⟨#[x.cps[i]]⟩,H,I1,⟨_,rfl⟩,⟨rfl,_,by simp[hi],rfl⟩,st',λb hb=>(hf b hb).1⟩⟩
 done:=by
  intro X hP hw hK hc i pins s σ H E I hf st hg
  subst hP;subst hw;subst hK
  obtain⟨f0,f1,f2,f3,f4,f5⟩:=hf it (List.mem_singleton.mpr rfl)
  have hi:x.cps.size<=i:=hg
  exact wpAny_pyNext_ascii_end (I.ok.hd hc) st (by simp[hi]) λh' eb=>⟨rfl,I.turned (t':=s.toks) (λb o hb e=>eb b o hb e) f0 f1 f3 f4 f5⟩
 self:=λ_ _ _ _ _ st h=>wpAny_pyIter_striter_ascii st h
theorem Ao{P:Zo}{w:Zr}{K:PySem.W.Frag}{tg:Expr}(x:Str)(t:Tok)(it:Zk):Turn P w K tg (OY x) [it] it (λi h=>h.IsStrIter it "str_iterator" x t i) where
 mem:=List.mem_singleton.mpr rfl
 obj:=λi h st b hb=>by
  cases List.mem_singleton.mp hb
  obtain⟨o,e,c,d⟩:=st
  exact⟨o,e,λv z=>by rw[d] at z;cases z⟩
 keep:=λi h h' st k=>let ⟨o,e,r⟩:=st;⟨o,k it (List.mem_singleton.mpr rfl) o e,r⟩
 item:=by
  intro X hP hw hK hc i pins s σ H E I hf st hg
  subst hP;subst hw;subst hK
  obtain⟨f0,f1,f2,f3,f4,f5⟩:=hf it (List.mem_singleton.mpr rfl)
  have hi:i < x.cps.size:=hg
  refine wpAny_pyNext_wide_item st (c:=x.cps[i]) (by simp[hi]) λh' st' sb=>?_
  have I1:L2.Inv X pins σ H { s with heap:=h',toks:=s.toks+1 }:=I.turned (t':=s.toks+1) (λb o hb e=>sb.extBut b o hb e) f0 f1 f3 f4 f5
  obtain⟨o,e,c,d⟩:=id st'
  exact⟨_,rfl,qV (s:={ s with heap:=h',toks:=s.toks+1 }) e c d (by decide) ⟨.str ⟨#[x.cps[i]]⟩,H,I1,⟨_,rfl⟩,⟨rfl,_,by simp[hi],rfl⟩,st',λb hb=>(hf b hb).1⟩⟩
 done:=by
  intro X hP hw hK hc i pins s σ H E I hf st hg
  subst hP;subst hw;subst hK
  obtain⟨f0,f1,f2,f3,f4,f5⟩:=hf it (List.mem_singleton.mpr rfl)
  have hi:x.cps.size<=i:=hg
  exact wpAny_pyNext_wide_end (I.ok.hd hc) st (by simp[hi]) λh' eb=>⟨rfl,I.turned (t':=s.toks) (λb o hb e=>eb b o hb e) f0 f1 f3 f4 f5⟩
 self:=λ_ _ _ _ _ st h=>wpAny_pyIter_striter_wide st h
section
variable {X:Cx}
theorem Lj{tg l:Expr}{tl:TE}(hl:PE X l tl):PI X tg l (λσ H R=>tl σ H λv H1=>∃z,v= .str z/\R (OY z) H1):=by
 intro pins s σ H R I h
 refine bH (hl pins s σ H _ I h) λv s1 ⟨x,H1,I1,r1,z,e,q⟩=>?_
 subst e
 obtain⟨t,rfl⟩:=r1
 have frs:∀b∈[s1.heap.objs.size],cG X pins H1 b:=λb hb=>by
  cases List.mem_singleton.mp hb
  exact I1.nM (ak _) (I1.hok.fresh (ak _))
 cases ha:z.cps.all (· < 128)
 ·exact wpAny_pyIter_wide ha ⟨s1.heap.objs.size,[s1.heap.objs.size],_,_,H1,rfl,I1.kept (t':=s1.toks) λb o e=>aE _ e,Ao z t _,⟨_,bY _ rfl,rfl,rfl⟩,frs,q⟩
 ·exact wpAny_pyIter_ascii ha ⟨s1.heap.objs.size,[s1.heap.objs.size],_,_,H1,rfl,I1.kept (t':=s1.toks) λb o e=>aE _ e,wV z t _,⟨_,bY _ rfl,rfl,rfl⟩,frs,q⟩
def ip(z:PySem.Str):List Wv:=z.cps.toList.map λc=>Wv.str ⟨#[c]⟩
def nr(w:Wv)(st:Hs):Re Wk:=match w with
 | .str z=> .ok (none,ip z) st
 | w=>K6 w st
def iP(g:GE):GI:=λρ st=>(g ρ st).bind nr
theorem Lk{z:PySem.Str}{m1:Mp}{H1:Hp}(hz:aO z=true):uT X (none,ip z) m1 H1 (OY z) where
 go:=λk H m' st _ _ _ hk=>by
  have:k < z.cps.size:=by simpa [ip] using hk
  exact this
 stop:=λk H m' st _ _ _ hk=>by
  have:k=z.cps.size:=by simpa [ip] using hk
  exact sR this.symm
 sg:=λk hk H v H' m' st _ _ _ y=>by
  obtain⟨rfl,c,hc,rfl⟩:=y
  refine⟨rfl,?_⟩
  have hk':k < z.cps.size:=by simpa [ip] using hk
  have e:∀h:k < (ip z).length,(ip z)[k]'h= .str ⟨#[z.cps[k]]⟩:=by intro h;simp[ip]
  have hc':z.cps[k]=c:=by simpa [hk'] using hc
  show aj X.K m' H' ((ip z)[k]'hk) _
  rw[e hk,hc']
  refine mkStr ?_
  rw[rG] at hz ⊢
  intro d hd
  simp at hd
  rw[hd,<-hc']
  exact hz _ (by simp)
theorem yq{tg iter:Expr}{g:GE}(h:JE X iter g):JI X tg iter (iP g):=by
 obtain⟨w1,h1,k1⟩:=K8 (tg:=tg) h
 refine⟨λσ H R=>w1 σ H R\/(SE X iter σ H λv H1=>∃z,v= .str z/\R (OY z) H1),λpins s σ H R I q=>?_,λρ st σ H m R S RR p=>?_⟩
 ·rcases q with q | q
  ·exact h1 pins s σ H R I q
  ·exact Lj aU pins s σ H R I q
 ·unfold iP at p
  cases e:g ρ st with
  | bad=>rw[e] at p;exact aa p
  | err c st'=>rw[e] at p;exact .inl (k1 ρ st σ H m R S RR (by unfold Cw;rw[e];exact p))
  | ok w st'=>
   rw[e] at p
   cases w with
   | str z=>
    refine .inr ?_
    refine h.go (ok:=λw st1=>w= .str z/\st1=st') S RR (by rw[e];exact⟨rfl,rfl⟩) λw st1 v m1 H1 q e1 S1 r1=>?_
    obtain⟨rfl,rfl⟩:=q
    unfold aj at r1
    obtain⟨rfl,hz⟩:=r1
    exact⟨z,rfl,p m1 H1 _ e1 S1 trivial (Lk hz)⟩
   | _=>exact .inl (k1 ρ st σ H m R S RR (by unfold Cw;rw[e];exact p))
def yt:List Wv->Hs->Re Wv:=λws st=>OG ws st
theorem FZ:dQ X (.type "int") yt:=KR
end
section
variable {X:Cx}
theorem pJ{x:V}:∀{xs:List V}{us:List Zq},Vals xs us->xs.all eE=true->us.countP (qD x)=xs.countP λy=>uz y x
 | _,_,.nil,_=>rfl
 | y::xs,u::us,.cons r t,f=>by
  rw[cQ,cH] at f
  rw[wW,wW,oU r f.1,pJ t f.2]
theorem Ap:Hx X "list.count" (λx xs H Q=>∃(p:Zk)(ys:List V)(y:V),x= .ref p/\xs=[y]/\fB X.K H p ys/\eE y=true/\ys.all eE=true/\Q (.int (ys.countP λz=>uz z y:Nat)) H):=by
 intro pins s σ H x xs v us Q I rx rv h
 obtain⟨p,ys,y,rfl,rfl,hq,fy,fs,q⟩:=h
 cases rx
 obtain⟨u,rfl,ru⟩:=vals1 rv
 obtain⟨its,r,pl,hz⟩:=I.list hq
 obtain⟨⟨cls,dd,data,sl⟩,ho,hc,n,hd⟩:=pl.isList
 simp only at hc hd
 subst hc;subst hd
 refine call_meets PySem.F.slot_list_count ⟨_,ho,rfl⟩ PySem.F.entry_list_count (PySem.F.args_list_count_2 _ _) (SeqAt.list_countAt p its.toArray n dd sl u (qD y)) ⟨ho,λw hw=>fe ru fy r fs w (by simpa using hw),?_⟩
 refine⟨.int _,H,I.tok _,⟨s.toks,?_⟩,q⟩
 rw[List.toList_toArray,pJ r fs]
theorem Aq:Hx X "list.index" (λx xs H Q=>∃(p:Zk)(ys:List V)(y:V)(j:Nat),x= .ref p/\xs=[y]/\fB X.K H p ys/\eE y=true/\ys.all eE=true/\ys.findIdx? (λz=>uz z y)=some j/\Q (.int (j:Nat)) H):=by
 intro pins s σ H x xs v us Q I rx rv h
 obtain⟨p,ys,y,j,rfl,rfl,hq,fy,fs,hj,q⟩:=h
 cases rx
 obtain⟨u,rfl,ru⟩:=vals1 rv
 obtain⟨its,r,pl,hz⟩:=I.list hq
 have hlen:=r.length
 obtain⟨⟨cls,dd,data,sl⟩,ho,hc,n,hd⟩:=pl.isList
 simp only at hc hd
 subst hc;subst hd
 rw[CN] at hj
 obtain⟨hj1,hj2,R6⟩:=hj
 have at':∀(k:Nat)(h:k < ys.length)(h':k < its.length),qD y its[k]=uz ys[k] y:=by
  intro k h h'
  obtain⟨w,hw,rw'⟩:=r.get (cq h)
  rw[cq h'] at hw
  cases hw
  exact oU rw' (List.all_eq_true.mp fs _ (pK h))
 have hs:ZE=16777216:=sizeLine_eq
 refine call_meets PySem.F.slot_list_index ⟨_,ho,rfl⟩ PySem.F.entry_list_index (PySem.F.args_list_index_2 _ _) (SeqAt.list_indexAt p its.toArray n dd sl u (qD y) j (by simp;omega) (by omega) ?_ ?_) ⟨ho,λw hw=>fe ru fy r fs w (by simpa using hw),⟨.int _,H,I.tok _,⟨_,rfl⟩,q⟩⟩
 ·rw[wX,at' j hj1 (by omega)];exact hj2
 ·intro m hm hlt
  rw[wX,at' m (by omega) (by omega)]
  simpa using R6 m hlt
def tm(o v:Wv)(st:Hs):Re Wv:=match o with
 | .ref l=>(match ai st l with
  | some ws=>if bG v=true/\ws.all bG=true then .ok (.int (ws.countP λz=>vW z v:Nat)) st else .bad
  | none=> .bad)
 | _=> .bad
def gO(o v:Wv)(st:Hs):Re Wv:=match o with
 | .ref l=>(match ai st l with
  | some ws=>if bG v=true/\ws.all bG=true then(match ws.findIdx? (λz=>vW z v) with | some j=> .ok (.int (j:Nat)) st | none=> .bad) else .bad
  | none=> .bad)
 | _=> .bad
theorem iQ{m:Mp}{H:Hp}:∀{ws:List Wv}{xs:List V},af X.K m H ws xs->ws.all bG=true->xs.all eE=true
 | [],xs,r,_=>by unfold af at r;subst r;rfl
 | w::ws,xs,r,f=>by
  unfold af at r
  obtain⟨x,t,rfl,r1,r2⟩:=r
  rw[cQ,cH] at f ⊢
  exact⟨f' r1 f.1,iQ r2 f.2⟩
theorem rH{m:Mp}{H:Hp}{v:Wv}{y:V}(rv:aj X.K m H v y)(fv:bG v=true):∀{ws:List Wv}{xs:List V},af X.K m H ws xs->ws.all bG=true->(xs.countP λz=>uz z y)=ws.countP λz=>vW z v
 | [],xs,r,_=>by unfold af at r;subst r;rfl
 | w::ws,xs,r,f=>by
  unfold af at r
  obtain⟨x,t,rfl,r1,r2⟩:=r
  rw[cQ,cH] at f
  rw[wW,wW,rH rv fv r2 f.2,sP r1 rv f.1 fv]
theorem pL{m:Mp}{H:Hp}{v:Wv}{y:V}(rv:aj X.K m H v y)(fv:bG v=true):∀{ws:List Wv}{xs:List V},af X.K m H ws xs->ws.all bG=true->xs.findIdx? (λz=>uz z y)=ws.findIdx? λz=>vW z v
 | [],xs,r,_=>by unfold af at r;subst r;rfl
 | w::ws,xs,r,f=>by
  unfold af at r
  obtain⟨x,t,rfl,r1,r2⟩:=r
  rw[cQ,cH] at f
  rw[Cq,Cq,pL rv fv r2 f.2,sP r1 rv f.1 fv]
theorem Ar:KQ X "list.count" tm:=⟨_,Ap,λo w x v st H m Q S ro rw' p=>by
 cases o with
 | ref l=>
  unfold aj at ro
  obtain⟨a,rfl,ha⟩:=ro
  unfold tm at p
  cases e:ai st l with
  | none=>simp only[e] at p;exact aa p
  | some ws=>
   simp only[e] at p
   by_cases c:bG w=true/\ws.all bG=true
   ·rw[if_pos c] at p
    obtain⟨xs,q1,q2⟩:=S.read ha e
    refine⟨a,xs,v,rfl,rfl,q1,f' rw' c.1,iQ q2 c.2,?_⟩
    rw[rH rw' c.1 q2 c.2]
    exact p _ m H Ext.refl S mkInt
   ·rw[if_neg c] at p;exact aa p
 | _=>exact aa p⟩
theorem rJ:KQ X "list.index" gO:=⟨_,Aq,λo w x v st H m Q S ro rw' p=>by
 cases o with
 | ref l=>
  unfold aj at ro
  obtain⟨a,rfl,ha⟩:=ro
  unfold gO at p
  cases e:ai st l with
  | none=>simp only[e] at p;exact aa p
  | some ws=>
   simp only[e] at p
   by_cases c:bG w=true/\ws.all bG=true
   ·rw[if_pos c] at p
    obtain⟨xs,q1,q2⟩:=S.read ha e
    cases ej:ws.findIdx? (λz=>vW z w) with
    | none=>rw[ej] at p;exact aa p
    | some j=>
     rw[ej] at p
     exact⟨a,xs,v,j,rfl,rfl,q1,f' rw' c.1,iQ q2 c.2,by rw[pL rw' c.1 q2 c.2];exact ej,p _ m H Ext.refl S mkInt⟩
   ·rw[if_neg c] at p;exact aa p
 | _=>exact aa p⟩
end
def keyOf:Wv->Option L2.Key
 | .int i=>some (.inl i)
 | .str x=>some (.inr x)
 | _=>none
def wY{κ:Type}[DecidableEq κ](kvs:List (κ×Wv))(k:κ):Option Wv:=match kvs with
 | []=>none
 | p::r=>if p.1=k then some p.2 else wY r k
section
variable {K:PySem.W.Frag} {m:Mp} {H:Hp} {κ:Type}
theorem RelK.nil:RelK (κ:=κ) K m H [] []:=⟨rfl,af.nil⟩
theorem RelK.cons{k:κ}{w:Wv}{v:V}{kvs:List (κ×Wv)}{xs:List (κ×V)}(h:aj K m H w v)(t:RelK K m H kvs xs):RelK K m H ((k,w)::kvs) ((k,v)::xs) :=
 ⟨by simp[t.1],by simpa using af.cons h t.2⟩
theorem RelK.nil_inv{xs:List (κ×V)}(h:RelK K m H [] xs):xs=[]:=by
 have:=h.1
 cases xs with
 | nil=>rfl
 | cons a b=>simp at this
theorem RelK.cons_inv{p:κ×Wv}{kvs:List (κ×Wv)}{xs:List (κ×V)}(h:RelK K m H (p::kvs) xs):∃v t,xs=(p.1,v)::t/\aj K m H p.2 v/\RelK K m H kvs t:=by
 obtain⟨h1,h2⟩:=h
 cases xs with
 | nil=>simp at h1
 | cons q t=>
  simp at h1 h2
  unfold af at h2
  obtain⟨x,r,e1,e2,e3⟩:=h2
  cases e1
  exact⟨q.2,t,by rw[h1.1],e2,h1.2,e3⟩
theorem RelK.length{kvs:List (κ×Wv)}{xs:List (κ×V)}(h:RelK K m H kvs xs):kvs.length=xs.length:=by
 have:=congrArg wj h.1
 simpa using this
variable [DecidableEq κ]
theorem RelK.val:∀{kvs:List (κ×Wv)}{xs:List (κ×V)}(k:κ),RelK K m H kvs xs->(wY kvs k=none->wB xs k=none)/\∀w,wY kvs k=some w->∃v,wB xs k=some v/\aj K m H w v
 | [],xs,k,h=>by
  rw[h.nil_inv]
  exact⟨λ_=>rfl,(λw e=>by cases e)⟩
 | p::r,xs,k,h=>by
  obtain⟨v,t,rfl,h1,h2⟩:=h.cons_inv
  obtain⟨i1,i2⟩:=RelK.val k h2
  unfold wY
  by_cases e:p.1=k
  ·rw[if_pos e,BB (by exact e)]
   exact⟨(λz=>by cases z),λw z=>⟨v,rfl,by cases z;exact h1⟩⟩
  ·rw[if_neg e,BD (by exact e)]
   exact⟨i1,i2⟩
theorem RelK.any:∀{kvs:List (κ×Wv)}{xs:List (κ×V)}(k:κ),RelK K m H kvs xs->(kvs.any λkv=>decide (kv.1=k))=xs.any λkv=>decide (kv.1=k)
 | [],xs,k,h=>by rw[h.nil_inv];rfl
 | p::r,xs,k,h=>by
  obtain⟨v,t,rfl,h1,h2⟩:=h.cons_inv
  rw[mz,mz,RelK.any k h2]
end
section
variable {K:PySem.W.Frag} {m:Mp} {H:Hp}
end
section
variable {X:Cx}
end
def yu:Wv->Zq->Prop
 | .int i,u=>∃t,u= .int i t
 | .str x,u=>(∃t,u= .str x t)/\aO x=true
 | _,_=>False
abbrev Dc:=List (PySem.Str×Wv)
def tq(w:Zr):Dc->List DictEntry->Prop
 | [],[]=>True
 | (k,v)::r,e::t=>(e.hash=hashStr w k/\(∃tk,e.key= .str k tk)/\yu v e.val)/\tq w r t
 | _,_=>False
def uW(K:PySem.W.Frag)(w:Zr)(mg:Str->Option Zq)(x:Str)(kvs:Dc):Prop :=
 ∃(a:Zk)(es:Array DictEntry)(ep:Nat),mg x=some (.ref a)/\K.lookup a=some ⟨.type "dict",none,.dict es ep,#[]⟩/\(a == sysModules)=false/\tq w kvs es.toList/\(kvs.map (·.1)).Nodup
theorem lQ{P:Zo}{w:Zr}:∀{kvs:Dc}{l:List DictEntry},tq w kvs l->∃vs:List (PySem.Str×Zq),vs.map (·.1)=kvs.map (·.1)/\Pairs (PySem.strKind P w) l vs/\(∀e∈l,∃k,(PySem.strKind P w).is k e.key=true/\e.hash=(PySem.strKind P w).hash k)/\
  ∀k,(kvs.lookup k=none->valueAt vs k=none)/\∀v,kvs.lookup k=some v->∃u,valueAt vs k=some u/\yu v u
 | [],[],_=>⟨[],rfl,.nil,(λ_ z=>by cases z),λk=>⟨λ_=>rfl,(λv z=>by cases z)⟩⟩
 | (k,v)::r,e::t,h=>by
  obtain⟨⟨h1,⟨tk,h2⟩,h3⟩,h4⟩:=h
  obtain⟨vs,i1,i2,i3,i4⟩:=lQ (P:=P) h4
  have his:(PySem.strKind P w).is k e.key=true:=by rw[h2];exact strKind_is P w k tk
  refine⟨(k,e.val)::vs,by simp[i1],.cons his rfl i2,λe' he=>?_,λk'=>?_⟩
  ·rcases List.mem_cons.mp he with z | z
   ·subst z;exact⟨k,his,h1⟩
   ·exact i3 e' z
  ·rw[eK]
   unfold valueAt
   rw[BC]
   by_cases ek:k=k'
   ·subst ek
    have b1:(k == k)=true:=by simp
    rw[b1]
    simp only[decide_true,kX]
    exact⟨(λz=>by cases z),λv' z=>⟨e.val,rfl,by cases z;exact h3⟩⟩
   ·have b1:(k' == k)=false:=beq_eq_false_iff_ne.mpr λz=>ek z.symm
    rw[b1]
    simp only[ek,decide_false]
    exact i4 k'
 | [],_::_,h=>aa h
 | _::_,[],h=>aa h
theorem yv{P:Zo}{w:Zr}{K:PySem.W.Frag}{h:Heap}{a:Zk}{es:Array DictEntry}{ep:Nat}{kvs:Dc}(KX:K.In h)(hl:K.lookup a=some ⟨.type "dict",none,.dict es ep,#[]⟩)(he:tq w kvs es.toList)(nd:(kvs.map (·.1)).Nodup) :
  ∃vs:List (PySem.Str×Zq),h.DictOf (PySem.strKind P w) a vs/\∀k,(kvs.lookup k=none->valueAt vs k=none)/\∀v,kvs.lookup k=some v->∃u,valueAt vs k=some u/\yu v u:=by
 obtain⟨vs,i1,i2,i3,i4⟩:=lQ (P:=P) he
 exact⟨vs,⟨_,es,ep,KX a _ hl,⟨rfl,rfl,rfl⟩,rfl,λe hm=>i3 e (by simpa using hm),i2,by rw[i1];exact nd⟩,i4⟩
section
variable {X:Cx}
def HW(kvs:Dc)(ga:GE):GE:=λρ st=>(ga ρ st).bind λa st1=>match a with
 | .str k=>(match kvs.lookup k with | some w=> .ok w st1 | none=> .bad)
 | _=> .bad
def OZ(kvs:Dc)(ty:TE):TE:=λσ H Q=>ty σ H λy H1=>∃z w v,y= .str z/\kvs.lookup z=some w/\(∀u,yu w u->RelV v u)/\Q v H1
theorem F0{b:Expr}{ty:TE}{x:Str}{p pos:Pos}{kvs:Dc}(hb:PE X b ty)(hs:J2 b)(hg:Gl X x)(hd:(x == ("__debug__":Str))=false)(D:uW X.K X.w X.mg x kvs):PE X (.Subscript (.Name x p) b pos) (OZ kvs ty):=by
 intro pins s σ H Q I h
 obtain⟨a,es,ep,g1,g2,g3,g4,g5⟩:=D
 refine Fh PySem.F.slot_dict_getitem.lookup hs (bH (iK (v:=.ref a) hg g1 rfl hd pins s σ H (λv H2=>v= .ref a/\H2=H) I ⟨rfl,rfl⟩) λu s1 ⟨v,H1,I1,rv,ev,eH⟩=>?_)
 subst ev eH
 obtain rfl:u=cV a:=rv
 refine bH (hb pins s1 σ H1 _ I1 h) λiv s2 ⟨y,H2,I2,ry,z,w,v,ey,ew,ev,q⟩=>?_
 subst ey
 obtain⟨t,rfl⟩:=(show ∃t,iv=rZ z t from ry)
 obtain⟨vs,dd,look⟩:=yv (P:=X.prog) (w:=X.w) I2.zt g2 g4 g5
 obtain⟨u,e1,e2⟩:=(look z).2 w ew
 exact⟨dd.typeIs,wpAny_getItem_of (strKind_is X.prog X.w z t) dd.mapOf e1 ⟨v,H2,I2.tok _,ev u e2,q⟩⟩
theorem F1{b:Expr}{gb:GE}{x:Str}{p pos:Pos}{kvs:Dc}(hb:JE X b gb)(hs:J2 b)(hg:Gl X x)(hd:(x == ("__debug__":Str))=false)(D:uW X.K X.w X.mg x kvs):JE X (.Subscript (.Name x p) b pos) (HW kvs gb) :=
 JE.of (F0 aU hs hg hd D) λρ st σ H m Q S R p=>by
  refine hb.go S R (au.bind p) λw st1 v m1 H1 p1 e1 S1 r1=>?_
  cases w with
  | str k=>
   dsimp only at p1
   cases e:kvs.lookup k with
   | none=>rw[e] at p1;exact aa p1
   | some u=>
    rw[e] at p1
    unfold aj at r1
    cases u with
    | int i=>exact⟨k,.int i,.int i,r1.1,e,λu h=>h,p1 _ m1 H1 e1 S1 (by unfold aj;rfl)⟩
    | str y=>
     by_cases hy:aO y=true
     ·exact⟨k,.str y,.str y,r1.1,e,λu h=>h.1,p1 _ m1 H1 e1 S1 (by unfold aj;exact⟨rfl,hy⟩)⟩
     ·obtain⟨a,es,ep,_,_,_,g4,_⟩:=D
      obtain⟨vs,_,_,_,i4⟩:=lQ (P:=X.prog) g4
      obtain⟨u,_,e2⟩:=(i4 k).2 _ e
      exact absurd e2.2 hy
    | _=>
     obtain⟨a,es,ep,_,_,_,g4,_⟩:=D
     obtain⟨vs,_,_,_,i4⟩:=lQ (P:=X.prog) g4
     obtain⟨u,_,e2⟩:=(i4 k).2 _ e
     exact aa e2
  | _=>exact aa p1
end
open PySem PySem.Spec PyProof.Rows PySem.W L2
section
variable (lt:Nat->Nat->Bool) (N:Nat)
def Kg{α:Type}:KasT α->(α->Prop)->Prop
 | .ret a,Q=>Q a
 | .ask i j k,Q=>(i < N/\j < N)/\Kg (k (lt i j)) Q
end
section
variable {lt:Nat->Nat->Bool} {N:Nat}
theorem Kg.bind{α β:Type}{f:α->KasT β}{Q:β->Prop}:∀{t:KasT α},Kg lt N t (λa=>Kg lt N (f a) Q)->Kg lt N (t.bind f) Q
 | .ret a,h=>h
 | .ask i j k,h=>⟨h.1,Kg.bind (t:=k (lt i j)) h.2⟩
theorem Kg.imp{α:Type}{Q R:α->Prop}(hq:∀a,Q a->R a):∀{t:KasT α},Kg lt N t Q->Kg lt N t R
 | .ret a,h=>hq a h
 | .ask i j k,h=>⟨h.1,Kg.imp hq (t:=k (lt i j)) h.2⟩
theorem Kg.wp{α:Type}{cmp:Nat->Nat->(Bool->Zp->Prop)->Zp->Prop}{P:Zp->Prop}(hc:∀i j C s,i < N->j < N->P s->(∀s',P s'->C (lt i j) s')->cmp i j C s){G:α->Zp->Prop} :
  ∀{t:KasT α}{s:Zp},P s->Kg lt N t (λa=>∀s',P s'->G a s')->t.kasWp cmp G s
 | .ret a,s,hs,h=>h s hs
 | .ask i j k,s,hs,h=>hc i j _ s h.1.1 h.1.2 hs λs' hs'=>Kg.wp hc (t:=k (lt i j)) hs' h.2
structure Ord(lt:Nat->Nat->Bool):Prop where
 as:∀a b,lt a b=true->lt b a=false
 tr:∀a b c,lt a b=false->lt b c=false->lt a c=false
theorem Ord.F2(o:Ord lt)(a:Nat):lt a a=false:=by
 cases h:lt a a with
 | false=>rfl
 | true=>have:=o.as a a h;rw[h] at this;cases this
theorem Ord.uX(o:Ord lt){a b c:Nat}(h1:lt a b=true)(h2:lt c b=false):lt a c=true:=by
 cases h:lt a c with
 | true=>rfl
 | false=>have:=o.tr a c b h h2;rw[h1] at this;cases this
abbrev at_(p:Array Nat)(i:Nat):Nat:=p.getD i 0
structure Pm(N:Nat)(p:Array Nat):Prop where
 sz:p.size=N
 pm:p.toList.Perm (aJ N)
theorem Pm.bd{p:Array Nat}(h:Pm N p){i:Nat}(hi:i < N):at_ p i < N:=by
 have e:at_ p i=p[i]'(by rw[h.sz];exact hi):=by simp[at_,yw,h.sz,hi]
 rw[e]
 have:p[i]'(by rw[h.sz];exact hi)∈p.toList:=by simp
 exact List.mem_range.mp (h.pm.mem_iff.mp this)
theorem lR{p q:Array Nat}{i j:Nat}(h:p[i]? =q[j]?):at_ p i=at_ q j:=by
 unfold at_
 rw[O0,O0,h]
theorem Pm.rev{p:Array Nat}(h:Pm N p)(i j:Nat):Pm N (kas_rev p i j):=⟨by unfold kas_rev;rw[mirror_size];exact h.sz,((Array.perm_iff_toList_perm.mp (mirror_perm _ _ _ _)).trans h.pm)⟩
theorem Pm.U7{p:Array Nat}(h:Pm N p)(k d:Nat):Pm N (bubble p k d):=⟨by rw[bubble_size];exact h.sz,((Array.perm_iff_toList_perm.mp (bubble_perm _ _ _)).trans h.pm)⟩
theorem bZ{p:Array Nat}(h:Pm N p){i j:Nat}(hj:j<=N)(k:Nat):at_ (kas_rev p i j) k=if i<=k/\k < j then at_ p (i+j - 1 - k) else at_ p k:=by
 have q:=getElem?_mirror_all (xs:=p) (i:=i) (j:=j) (by rw[h.sz];exact hj) k
 unfold kas_rev
 split
 ·rename_i c;rw[if_pos c] at q;exact lR q
 ·rename_i c;rw[if_neg c] at q;exact lR q
theorem wZ{p:Array Nat}(h:Pm N p){k l:Nat}(hk:k < N)(hl:l<=k)(i:Nat):at_ (bubble p k (k - l)) i=if i=l then at_ p k else if l < i/\i<=k then at_ p (i - 1) else at_ p i:=by
 have q:=getElem?_bubble (xs:=p) (src:=k) (by rw[h.sz];exact hk) (k - l) (by omega) i
 have e:k - (k - l)=l:=by omega
 rw[e] at q
 split
 ·rename_i c;rw[if_pos c] at q;exact lR q
 ·rename_i c
  rw[if_neg c] at q
  split
  ·rename_i d;rw[if_pos d] at q;exact lR q
  ·rename_i d;rw[if_neg d] at q;exact lR q
def Up(lt:Nat->Nat->Bool)(p:Array Nat)(k:Nat):Prop:=∀i j,i<=j->j < k->lt (at_ p j) (at_ p i)=false
def Dn(lt:Nat->Nat->Bool)(p:Array Nat)(k:Nat):Prop:=∀i j,i<=j->j < k->lt (at_ p i) (at_ p j)=false
theorem Up.succ(o:Ord lt){p:Array Nat}{k:Nat}(h:Up lt p k)(hk:1<=k)(e:lt (at_ p k) (at_ p (k - 1))=false):Up lt p (k+1):=by
 intro i j hij hj
 by_cases c:j < k
 ·exact h i j hij c
 ·have:j=k:=by omega
  subst this
  by_cases c2:i=j
  ·subst c2;exact o.F2 _
  ·exact o.tr _ _ _ e (h i (j - 1) (by omega) (by omega))
theorem Dn.succ(o:Ord lt){p:Array Nat}{k:Nat}(h:Dn lt p k)(hk:1<=k)(e:lt (at_ p (k - 1)) (at_ p k)=false):Dn lt p (k+1):=by
 intro i j hij hj
 by_cases c:j < k
 ·exact h i j hij c
 ·have:j=k:=by omega
  subst this
  by_cases c2:i=j
  ·subst c2;exact o.F2 _
  ·exact o.tr _ _ _ (h i (j - 1) (by omega) (by omega)) e
theorem w4(o:Ord lt){p:Array Nat}(hp:Pm N p):∀(f n:Nat),1<=n->n+f<=N->Up lt p n->Kg lt N (kas_asc p f n) (λm=>n<=m/\m<=n+f/\Up lt p m/\(m < n+f->lt (at_ p m) (at_ p (m - 1))=true))
 | 0,n,h1,h2,h3=>⟨ak _,ak _,h3,λz=>absurd z (bX _)⟩
 | f+1,n,h1,h2,h3=>by
  refine⟨⟨hp.bd (by omega),hp.bd (by omega)⟩,?_⟩
  cases e:lt (p.getD n 0) (p.getD (n - 1) 0) with
  | true=>
   dsimp only
   rw[if_pos rfl]
   exact⟨ak _,by omega,h3,λ_=>e⟩
  | false=>
   dsimp only
   rw[if_neg (by simp)]
   refine(w4 o hp f (n+1) (by omega) (by omega) (h3.succ o h1 e)).imp λm ⟨q1,q2,q3,q4⟩=>⟨by omega,by omega,q3,λz=>q4 (by omega)⟩
def Lv(lt:Nat->Nat->Bool)(p:Array Nat)(a n:Nat):Prop:=∀i j,a<=i->i < n->a<=j->j < n->lt (at_ p i) (at_ p j)=false
theorem Dn.rev(o:Ord lt){p:Array Nat}(hp:Pm N p){a n:Nat}(hn:n<=N)(ha:a<=n)(h:Dn lt p n)(hl:Lv lt p a n):Dn lt (kas_rev p a n) n:=by
 intro i j hij hj
 rw[bZ hp hn,bZ hp hn]
 by_cases ci:a<=i
 ·rw[if_pos ⟨ci,by omega⟩,if_pos ⟨by omega,hj⟩]
  exact hl _ _ (by omega) (by omega) (by omega) (by omega)
 ·rw[if_neg (by omega)]
  by_cases cj:a<=j
  ·rw[if_pos ⟨cj,hj⟩]
   exact h _ _ (by omega) (by omega)
  ·rw[if_neg (by omega)]
   exact h _ _ hij hj
theorem Dn.up{p:Array Nat}(hp:Pm N p){n:Nat}(hn:n<=N)(h:Dn lt p n):Up lt (kas_rev p 0 n) n:=by
 intro i j hij hj
 rw[bZ hp hn,bZ hp hn,if_pos ⟨by omega,hj⟩,if_pos ⟨by omega,by omega⟩]
 exact h _ _ (by omega) (by omega)
theorem oo(o:Ord lt):∀(f:Nat)(p:Array Nat)(n q:Nat),Pm N p->q+1<=n->n+f<=N->Dn lt p n->Lv lt p (n - 1 - q) n->
  Kg lt N (kas_desc f p n q) (λr=>Pm N r.1/\r.2.2+1<=r.2.1/\r.2.1<=N/\Dn lt r.1 r.2.1/\Lv lt r.1 (r.2.1 - 1 - r.2.2) r.2.1)
 | 0,p,n,q,hp,hq,hn,hd,hl=>⟨hp,hq,by omega,hd,hl⟩
 | f+1,p,n,q,hp,hq,hn,hd,hl=>by
  refine⟨⟨hp.bd (by omega),hp.bd (by omega)⟩,?_⟩
  cases e:lt (p.getD n 0) (p.getD (n - 1) 0) with
  | true=>
   dsimp only
   rw[if_pos rfl]
   have one:∀p':Array Nat,Lv lt p' (n+1 - 1 - 0) (n+1):=λp' i j h1 h2 h3 h4=>by
    have:i=j:=by omega
    subst this
    exact o.F2 _
   by_cases O1:q > 0
   ·rw[if_pos O1]
    have z:n - (q+1)=n - 1 - q:=by omega
    have hl2:Lv lt p (n - (q+1)) n:=by rw[z];exact hl
    refine oo o f _ (n+1) 0 (hp.rev _ _) (by omega) (by omega) (Dn.succ o (Dn.rev o hp (by omega) (by omega) hd hl2) (by omega) ?_) (one _)
    rw[bZ hp (by omega),bZ hp (by omega),if_pos ⟨by omega,by omega⟩,if_neg (by omega)]
    -- the last of the row stands level with the one Rx was last
    have lv:=hl (n - (q+1)+n - 1 - (n - 1)) (n - 1) (by omega) (by omega) (by omega) (by omega)
    cases z:lt (at_ p (n - (q+1)+n - 1 - (n - 1))) (at_ p n) with
    | false=>rfl
    | true=>
     have a1:=o.as _ _ e
     have:=o.tr _ _ _ lv a1
     rw[z] at this
     cases this
   ·rw[if_neg O1]
    exact oo o f p (n+1) 0 hp (by omega) (by omega) (hd.succ o (by omega) (o.as _ _ e)) (one _)
  | false=>
   dsimp only
   rw[if_neg (by simp)]
   refine⟨⟨hp.bd (by omega),hp.bd (by omega)⟩,?_⟩
   cases e2:lt (p.getD (n - 1) 0) (p.getD n 0) with
   | true=>
    dsimp only
    rw[if_pos rfl]
    exact⟨hp,hq,by show n<=N;omega,hd,hl⟩
   | false=>
    dsimp only
    rw[if_neg (by simp)]
    refine oo o f p (n+1) (q+1) hp (by omega) (by omega) (hd.succ o (by omega) e2) ?_
    intro i j h1 h2 h3 h4
    have key:∀i,n - 1 - q<=i->i < n->lt (at_ p i) (at_ p n)=false/\lt (at_ p n) (at_ p i)=false:=λi a b=>
     ⟨o.tr _ _ _ (hl i (n - 1) a b (by omega) (by omega)) e2,o.tr _ _ _ e (hl (n - 1) i (by omega) (by omega) a b)⟩
    by_cases ci:i < n
    ·by_cases cj:j < n
     ·exact hl i j (by omega) ci (by omega) cj
     ·have:j=n:=by omega
      subst this
      exact(key i (by omega) ci).1
    ·have:i=n:=by omega
     subst this
     by_cases cj:j < i
     ·exact(key j (by omega) cj).2
     ·have:j=i:=by omega
      subst this
      exact o.F2 _
abbrev Run(lt:Nat->Nat->Bool)(N:Nat)(r:Nat×Array Nat):Prop:=Pm N r.2/\1<=r.1/\r.1<=N/\Up lt r.2 r.1
theorem yx(o:Ord lt){p:Array Nat}{n:Nat}(hp:Pm N p)(h1:1<=n)(hn:n<=N)(hd:Dn lt p n):Kg lt N (kas_tail3 n N p) (Run lt N):=by
 unfold kas_tail3
 refine Kg.bind ((w4 o (hp.rev 0 n) (N - n) n h1 (by omega) (hd.up hp hn)).imp λm ⟨q1,q2,q3,_⟩=>?_)
 exact⟨hp.rev 0 n,by show 1<=m;omega,by show m<=N;omega,q3⟩
theorem nu(o:Ord lt){p:Array Nat}{n:Nat}(hp:Pm N p)(hn:n+1<=N)(h1:1<=n)(hd:Dn lt p (n+1)):Kg lt N (kas_descPart n N p) (Run lt N):=by
 unfold kas_descPart
 have one:Lv lt p (n+1 - 1 - 0) (n+1):=λi j h1 h2 h3 h4=>by
  have:i=j:=by omega
  subst this
  exact o.F2 _
 refine Kg.bind ((oo o (N - (n+1)) p (n+1) 0 hp (by omega) (by omega) hd one).imp λr ⟨q1,q2,q3,q4,q5⟩=>?_)
 by_cases c:r.2.2 > 0
 ·rw[if_pos c]
  refine yx o (q1.rev _ _) (by omega) q3 (Dn.rev o q1 q3 (by omega) q4 ?_)
  have z:r.2.1 - (r.2.2+1)=r.2.1 - 1 - r.2.2:=by omega
  rw[z];exact q5
 ·rw[if_neg c]
  exact yx o q1 (by omega) q3 q4
theorem CO(o:Ord lt){p:Array Nat}(hp:Pm N p)(h1:1<=N):Kg lt N (kas_count N p) (Run lt N):=by
 unfold kas_count
 have u1:Up lt p 1:=λi j a b=>by
  have:i=j:=by omega
  subst this
  exact o.F2 _
 refine Kg.bind ((w4 o hp (N - 1) 1 (ak _) (by omega) u1).imp λn ⟨q1,q2,q3,q4⟩=>?_)
 by_cases c:n=N
 ·rw[if_pos (by simp[c])]
  exact⟨hp,by show 1<=n;omega,by show n<=N;omega,q3⟩
 ·rw[if_neg (by simp[c])]
  have hs:=q4 (by omega)
  by_cases c2:n > 1
  ·rw[if_pos c2]
   refine⟨⟨hp.bd (by omega),hp.bd (by omega)⟩,?_⟩
   cases e:lt (p.getD 0 0) (p.getD (n - 1) 0) with
   | true=>
    dsimp only
    rw[if_pos rfl]
    exact⟨hp,by show 1<=n;omega,by show n<=N;omega,q3⟩
   | false=>
    dsimp only
    rw[if_neg (by simp)]
    -- all level
    have lv:∀i j,i < n->j < n->lt (at_ p i) (at_ p j)=false:=λi j hi hj=>by
     have a1:=q3 0 i (by omega) hi
     have a2:=q3 j (n - 1) (by omega) (by omega)
     exact o.tr _ _ _ (o.tr _ _ _ a1 e) a2
    refine nu o (hp.rev 0 n) (by omega) (by omega) (Dn.succ o ?_ (by omega) ?_)
    ·intro i j hij hj
     rw[bZ hp (by omega),bZ hp (by omega),if_pos ⟨by omega,by omega⟩,if_pos ⟨by omega,by omega⟩]
     exact lv _ _ (by omega) (by omega)
    ·rw[bZ hp (by omega),bZ hp (by omega),if_pos ⟨by omega,by omega⟩,if_neg (by omega)]
     have a1:=o.as _ _ hs
     exact o.tr _ _ _ (lv _ (n - 1) (by omega) (by omega)) a1
  ·rw[if_neg c2]
   have hn:n=1:=by omega
   subst hn
   refine nu o hp (by omega) (by omega) ?_
   refine Dn.succ o (λi j a b=>by
    have:i=j:=by omega
    subst this
    exact o.F2 _) (by omega) (o.as _ _ hs)
theorem lS(o:Ord lt){p:Array Nat}(hp:Pm N p){k:Nat}(hk:k < N):∀(f l r:Nat),l<=r->r<=k->r - l<=f->Up lt p k->(∀i,i < l->lt (at_ p k) (at_ p i)=false)->(∀i,r<=i->i < k->lt (at_ p k) (at_ p i)=true)->
  Kg lt N (kas_place p k f l r) (λm=>m<=k/\(∀i,i < m->lt (at_ p k) (at_ p i)=false)/\∀i,m<=i->i < k->lt (at_ p k) (at_ p i)=true)
 | 0,l,r,h1,h2,h3,u,a,b=>⟨by omega,a,λi h=>b i (by omega)⟩
 | f+1,l,r,h1,h2,h3,u,a,b=>by
  unfold kas_place
  by_cases c:l >= r
  ·rw[if_pos c]
   exact⟨by omega,a,λi h=>b i (by omega)⟩
  ·rw[if_neg c]
   refine⟨⟨hp.bd hk,hp.bd (by omega)⟩,?_⟩
   cases e:lt (p.getD k 0) (p.getD ((l+r) / 2) 0) with
   | true=>
    dsimp only
    rw[if_pos rfl]
    refine lS o hp hk f l ((l+r) / 2) (by omega) (by omega) (by omega) u a λi hi hk'=>?_
    exact o.uX e (u _ _ hi hk')
   | false=>
    dsimp only
    rw[if_neg (by simp)]
    refine lS o hp hk f ((l+r) / 2+1) r (by omega) h2 (by omega) u (λi hi=>?_) b
    exact o.tr _ _ _ e (u i ((l+r) / 2) (by omega) (by omega))
theorem CP(o:Ord lt):∀(f:Nat)(p:Array Nat)(k:Nat),Pm N p->k+f=N->Up lt p k->Kg lt N (kas_bin f p k) (λp'=>Pm N p'/\Up lt p' N)
 | 0,p,k,hp,hk,u=>by
  have:k=N:=by omega
  subst this
  exact⟨hp,u⟩
 | f+1,p,k,hp,hk,u=>by
  unfold kas_bin
  refine Kg.bind ((lS o hp (by omega) k 0 k (by omega) (ak _) (by omega) u (λi h=>absurd h (by omega)) (λi h1 h2=>absurd h2 (by omega))).imp λl ⟨q1,q2,q3⟩=>?_)
  refine CP o f _ (k+1) (hp.U7 _ _) (by omega) ?_
  intro i j hij hj
  have bi:=wZ hp (k:=k) (l:=l) (by omega) q1 i
  have bj:=wZ hp (k:=k) (l:=l) (by omega) q1 j
  rw[bi,bj]
  by_cases e:j=l
  ·rw[if_pos e]
   by_cases e':i=l
   ·rw[if_pos e'];exact o.F2 _
   ·rw[if_neg e',if_neg (by omega)]
    exact q2 i (by omega)
  ·rw[if_neg e]
   by_cases d:l < j/\j<=k
   ·rw[if_pos d]
    by_cases e':i=l
    ·rw[if_pos e']
     exact o.as _ _ (q3 (j - 1) (by omega) (by omega))
    ·rw[if_neg e']
     by_cases d':l < i/\i<=k
     ·rw[if_pos d']
      exact u _ _ (by omega) (by omega)
     ·rw[if_neg d']
      exact u _ _ (by omega) (by omega)
   ·rw[if_neg d,if_neg (by omega),if_neg (by omega)]
    exact u _ _ hij (by omega)
theorem F3(o:Ord lt)(h1:1<=N):Kg lt N (kas_sort N) (λp=>Pm N p/\Up lt p N):=by
 have h0:Pm N (yy (aJ N)):=⟨by simp,by simp⟩
 unfold kas_sort
 refine Kg.bind ((CO o h0 h1).imp λr ⟨q1,q2,q3,q4⟩=>?_)
 by_cases c:r.1 < N
 ·rw[if_pos c]
  have z:max r.1 1=r.1:=by omega
  rw[z]
  exact CP o _ _ _ q1 (by omega) q4
 ·rw[if_neg c]
  have z:r.1=N:=by omega
  rw[z] at q4
  exact⟨q1,q4⟩
end
def rK(a b:Int×Int):Bool:=decide (a.1 < b.1)||(decide (a.1=b.1)&&decide (a.2 < b.2))
theorem CQ{a b:Int×Int}(h:rK a b=true):rK b a=false:=by
 unfold rK at h ⊢
 simp at h ⊢
 omega
theorem CT{a b c:Int×Int}(h:rK a b=false)(k:rK b c=false):rK a c=false:=by
 unfold rK at h k ⊢
 simp at h k ⊢
 omega
theorem Ll{a b:Int×Int}(h:rK a b=false)(k:rK b a=false):a=b:=by
 unfold rK at h k
 simp at h k
 exact Prod.ext (by omega) (by omega)
def w5(n:Int×Int):List (Int×Int)->List (Int×Int)
 | []=>[n]
 | a::r=>if rK a n=true then a::w5 n r else n::a::r
def uY:List (Int×Int)->List (Int×Int)
 | []=>[]
 | a::r=>w5 a (uY r)
theorem mM(n:Int×Int):∀l,(w5 n l).Perm (n::l)
 | []=> .refl _
 | a::r=>by
  unfold w5
  split
  ·exact((mM n r).cons a).trans (.swap n a r)
  ·exact .refl _
theorem rL:∀l,(uY l).Perm l
 | []=> .nil
 | a::r=>(mM a (uY r)).trans ((rL r).cons a)
abbrev F4(l:List (Int×Int)):Prop:=l.Pairwise λa b=>rK b a=false
theorem yz(n:Int×Int):∀l,F4 l->F4 (w5 n l)
 | [],_=>by simp[w5]
 | a::r,h=>by
  unfold w5
  rw[F4,fG] at h
  split
  ·rename_i c
   rw[F4,fG]
   refine⟨λb hb=>?_,yz n r h.2⟩
   rcases List.mem_cons.mp ((mM n r).mem_iff.mp hb) with z | z
   ·rw[z];exact CQ c
   ·exact h.1 b z
  ·rename_i c
   have c':rK a n=false:=by simpa using c
   rw[F4,fG,fG]
   refine⟨λb hb=>?_,h⟩
   rcases List.mem_cons.mp hb with z | z
   ·rw[z];exact c'
   ·exact CT (h.1 b z) c'
theorem yA:∀l,F4 (uY l)
 | []=> .nil
 | a::r=>yz a _ (yA r)
theorem CU{a b:List (Int×Int)}(h:a.Perm b)(ha:F4 a)(hb:F4 b):a=b :=
 wU (λ_ _ _ _ h1 h2=>Ll h2 h1) ha hb h
section
variable {prog:Zo} {w:Zr} {A:Zl} {E:Zq->Zp->Prop} {s:Zp}
theorem F5{x y:Zk}{ox oy:Obj}{a1 a2 b1 b2:Int}{t1 t2 u1 u2:Tok}{n k:Nat}{Q:Bool->Zp->Prop}(hx:s.heap.get? x=some ox)(dx:ox.data= .seq #[.int a1 t1,.int a2 t2] n)(hy:s.heap.get? y=some oy)(dy:oy.data= .seq #[.int b1 u1,.int b2 u2] k)
  (h:Q (rK (a1,a2) (b1,b2)) s):ZG (model prog w) A (keyLt' (tuples' true) (.ref x) (.ref y)) Q E s:=by
 have hq:∀b,b=rK (a1,a2) (b1,b2)->Q b s:=λb e=>by rw[e];exact h
 refine kat_lt hx dx hy dy ?_
 refine kat_cons (wpAny_eqBool_int (kat_go (λe=>kat_yes ?_) (λe=>kat_no ?_)))
 ·refine kat_cons (wpAny_eqBool_int (kat_go (λe2=>kat_yes ?_) (λe2=>kat_no ?_)))
  ·refine kat_nil (hq _ ?_)
   have z1:a1=b1:=by simpa using e
   have z2:a2=b2:=by simpa using e2
   subst z1 z2
   simp[rK]
  ·refine kat_one _ _ (xQ ?_)
   show Q (decide (a2 < b2)) s
   refine hq _ ?_
   have z1:a1=b1:=by simpa using e
   subst z1
   simp[rK]
 ·refine oneLt_int (hq _ ?_)
  have z1:¬a1=b1:=by simpa using e
  simp[rK,z1]
end
theorem cA{α β:Type}{F:α->β->Prop}{a:α}{b:β}:∀{l:List α}{k:List β}{i:Nat},Paired F l k->i < k.length->F (l.getD i a) (k.getD i b)
 | _,_,0,.cons h _,_=>by simpa using h
 | _,_,i+1,.cons _ t,hi=>by simpa using cA (i:=i) t (by simpa using hi)
theorem iR{α β:Type}{F:α->β->Prop}{f:Nat->α}{g:Nat->β}:∀{l:List Nat},(∀i∈l,F (f i) (g i))->Paired F (l.map f) (l.map g)
 | [],_=> .nil
 | i::l,h=> .cons (h i (by simp)) (iR λj hj=>h j (by simp[hj]))
def TupAt(h:Heap)(v:Zq)(q:Int×Int):Prop:=∃(a:Zk)(o:Obj)(t u:Tok)(n:Nat),v= .ref a/\h.get? a=some o/\o.cls= .type "tuple"/\o.data= .seq #[.int q.1 t,.int q.2 u] n
abbrev M1(H:Hp):List V->List (Int×Int)->Prop:=Paired λv q=>∃a,v= .ref a/\H a=some (.tup [.int q.1,.int q.2])
theorem As{x y:Int}{its:List Zq}(h:Vals [.int x,.int y] its):∃t u,its=[.int x t,.int y u]:=by
 cases h with
 | cons h1 h2=>
  cases h2 with
  | cons h3 h4=>
   cases h4
   obtain⟨t,rfl⟩:=h1
   obtain⟨u,rfl⟩:=h3
   exact⟨t,u,rfl⟩
section
variable {X:Cx} {pins:List (Zk×Obj)} {σ:St} {H:Hp} {s:Zp}
theorem CV(I:Inv X pins σ H s):∀{vs:List V}{ps:List (Int×Int)}{its:List Zq},M1 H vs ps->Vals vs its->Paired (TupAt s.heap) its ps
 | _,_,_,.nil,.nil=> .nil
 | _,_,_,.cons h t,.cons r rs=>by
  obtain⟨a,rfl,hT⟩:=h
  cases r
  obtain⟨its,rv,⟨o,g1,g2,n,g3⟩,_⟩:=I.tuple (dh.of hT)
  obtain⟨t1,u1,rfl⟩:=As rv
  exact .cons ⟨a,o,t1,u1,n,rfl,g1,g2,g3⟩ (CV I t rs)
end
theorem uZ{h:Heap}:∀{its:List Zq}{ps:List (Int×Int)},Paired (TupAt h) its ps->∃fs:List Zq,KatTups h its fs/\fs.length=ps.length/\∀v∈fs,∃i t,v= .int i t
 | _,_,.nil=>⟨[],.nil,rfl,(λ_ z=>by cases z)⟩
 | _,_,.cons (b:=q) hd tl=>by
  obtain⟨fs,k1,k2,k3⟩:=uZ tl
  obtain⟨a,o,t,u,n,rfl,g1,g2,g3⟩:=hd
  refine⟨.int q.1 t::fs,.cons g1 g2 g3 rfl k1,by simp[k2],λv hv=>?_⟩
  rcases List.mem_cons.mp hv with z | z
  ·exact⟨_,_,z⟩
  ·exact k3 v z
theorem rM{h h':Heap}(k:∀a o its n,h.get? a=some o->o.data= .seq its n->h'.get? a=some o):∀{its:List Zq}{ps:List (Int×Int)},Paired (TupAt h) its ps->Paired (TupAt h') its ps
 | _,_,.nil=> .nil
 | _,_,.cons hd tl=>by
  obtain⟨a,o,t,u,n,e,g1,g2,g3⟩:=hd
  exact .cons ⟨a,o,t,u,n,e,k a o _ _ g1 g3,g2,g3⟩ (rM k tl)
theorem Ln{h h':Heap}{L:Zk}{m m':Str->Option Zq}(a:h.Ns L m)(b:h.Ns L m')(c:h'.Ns L m):h'.Ns L m':=by
 obtain⟨o,es,ep,e1,e2,_,e4⟩:=a
 obtain⟨o',es',Qd,f1,f2,_,f4⟩:=b
 rw[e1] at f1
 cases f1
 rw[e2] at f2
 cases f2
 have:m=m':=funext λx=>(e4 x).symm.trans (f4 x)
 rw[<-this]
 exact c
theorem range_getD{α:Type}{d:α}(l:List α):(aJ l.length).map (λi=>l.getD i d)=l:=by
 refine List.ext_getElem (by simp) λi h1 h2=>?_
 simp[h2]
section
variable {X:Cx}
theorem Au:dG X (.builtin "sorted") (λxs H Q=>∃(p:Zk)(vs:List V)(ps:List (Int×Int)),xs=[.ref p]/\fB X.K H p vs/\M1 H vs ps/\2<=ps.length/\ps.length < 64/\∀l vs',H l=none->M1 H vs' (uY ps)->Q (.ref l) (upd H l (.lst vs'))):=by
 intro pins s σ H xs us Q I r h
 obtain⟨p,vs,ps,rfl,hq,hp,h2,h64,q⟩:=h
 obtain⟨u,rfl,rx⟩:=vals1 r
 cases rx
 obtain⟨its,r',pl,hz⟩:=I.list hq
 have tu:=CV I hp r'
 have l1:vs.length=its.length:=r'.length
 have l2:its.length=ps.length:=tu.length
 obtain⟨m,hn,hl⟩:=id I.loc
 obtain⟨oL,YS,YT,gL,dL,_⟩:=id hn
 refine kat_sorted (Att.JX hn) (Be (g:=Att.sH s.heap) (h:=s.heap) (L:=X.env.locals)) pl.isList (by omega) (by omega) λD e1 h' F' N' hD=>?_
 have keep:∀b o,b≠X.env.locals->s.heap.get? b=some o->h'.get? b=some o:=λb o n e=>(N' (b,o) (aD _ (jg n (Att.iM _ _) e))).1
 have R7:Paired (TupAt h') its ps:=rM (λa o its n e d=>keep a o (λz=>by
  subst z
  rw[gL] at e
  cases e
  rw[dL] at d
  cases d) e) tu
 obtain⟨fs,k1,k2,k3⟩:=uZ R7
 refine kat_kind (T:=.type "int") (s:={ s with heap:=h' }) k1 (by omega) (λv hv=>by obtain⟨i,t,rfl⟩:=k3 v hv;exact Looks.of_pure rfl) (by decide) ?_
 have et:(dw "int" != dw "tuple")=true:=by decide
 rw[et,l2]
 have od:Ord λi j=>rK (ps.getD i (0,0)) (ps.getD j (0,0)):=⟨λa b h=>CQ h,λa b c h k=>CT h k⟩
 refine Kg.wp (lt:=λi j=>rK (ps.getD i (0,0)) (ps.getD j (0,0))) (N:=ps.length) (P:=λs''=>s''={ s with heap:=h' }) (λi j C s'' hi hj hs hC=>?_) rfl ((F3 od (by omega)).imp λpm ⟨P1,P2⟩ s'' hs=>?_)
 ·subst hs
  obtain⟨a,o,t,u,n,e,g1,g2,g3⟩:=cA (a:=bC) (b:=(0,0)) R7 hi
  obtain⟨a',o',t',u',n',e',HC,UX,WS⟩:=cA (a:=bC) (b:=(0,0)) R7 hj
  unfold kas_ask
  rw[e,e']
  exact F5 (s:={ s with heap:=h' }) g1 g3 HC WS (hC _ rfl)
 ·subst hs
  refine KasFin.intro (s:={ s with heap:=h' }) F' N' (.head λq hq=>aN (hD q hq)) λh'' c U8 U_=>?_
  have hDL:D≠X.env.locals:=(N' (D,_) aI).2.1
  have yB:∀b o,b≠X.env.locals->s.heap.get? b=some o->h''.get? b=some o:=λb o n e=>(U_ (b,o) (aD _ (jg n (Att.iM _ _) e))).1
  have U':s.heap.get? D=none:=by
   cases e:s.heap.get? D with
   | none=>rfl
   | some o=>exact absurd (hD (D,o) (jg hDL (Att.iM _ _) e)) (bX _)
  have Va:H D=none:=by
   cases e:H D with
   | none=>rfl
   | some ob=>
    obtain⟨z,e'⟩:=rn (I.hok D ob e)
    rw[U'] at e'
    cases e'
  have mem:∀i∈pm.toList,i < ps.length:=λi hi=>List.mem_range.mp (P1.pm.mem_iff.mp hi)
  have hv:Vals (pm.toList.map λi=>vs.getD i .aP) (pm.toList.map λi=>its.getD i bC):=iR λi hi=>cA r' (by have:=mem i hi;omega)
  have WT:(pm.toList.map λi=>ps.getD i (0,0))=uY ps:=by
   refine CU ((P1.pm.map _).trans (by rw[range_getD];exact(rL ps).symm)) ?_ (yA _)
   rw[F4,ou,s_]
   intro i j hi hj hij
   have z:=P2 i j (by omega) (by have:=P1.sz;simpa [this] using hj)
   have ei:at_ pm i=pm.toList[i]:=by
    have:i < pm.size:=by simpa using hi
    simp[at_,yw,this]
   have ej:at_ pm j=pm.toList[j]:=by
    have:j < pm.size:=by simpa using hj
    simp[at_,yw,this]
   rw[ei,ej] at z
   exact z
  have WU:M1 H (pm.toList.map λi=>vs.getD i .aP) (uY ps):=by
   rw[<-WT]
   exact iR λi hi=>cA hp (mem i hi)
  have hlen:pm.toList.length=ps.length:=by have:=P1.sz;simpa using this
  have Ba:∀b u,H b=some u->b≠D:=λb u e=>aY e Va
  have Nh:∀b u,H b=some u->b≠X.env.locals:=λb u e=>aY e I.free
  have I':Inv X pins σ (upd H D (.lst (pm.toList.map λi=>vs.getD i .aP))) { s with heap:=h'' }:=by
   refine I.step (g':=s.gens) (d':=s.drawn) (t':=s.toks) (ch:=[]) (λ_ z=>nomatch z) (λb o n _ _ e _=>yB b o n e) (λb o n _ _ e _=>⟨o.slots,yB b o n e⟩) (λb o _ e n=>?_) (λb o _ e=>?_) (λb xs e=>?_) (λb o u e=>?_) (λb ps e=>?_) (λm' hm=>Ln hn hm U8.ns) (λb ob e=>?_) I.bare
   ·rw[aw (λz=>by subst z;rw[U'] at e;cases e)];exact n
   ·by_cases z:b=X.env.locals
    ·subst z
     obtain⟨o',_,_,e',_⟩:=U8.ns
     exact⟨o',e'⟩
    ·exact⟨o,yB b o z e⟩
   ·rw[aw (Ba _ _ e)];exact e
   ·rw[aw (Ba _ _ e)];exact e
   ·exact⟨#[],by rw[aw (Ba _ _ e),e];simp⟩
   ·by_cases z:b=D
    ·subst z
     rw[aL] at e
     cases e
     exact⟨by rw[aH,hlen,<-l2,<-l1];exact hz,_,c,hv,(U_ (b,_) aI).1⟩
    ·rw[aw z] at e
     refine(I.hok b ob e).stay (λc v hc q=>yB c v ?_ q) (λc q=>by rw[aw (Ba _ _ q)];exact q) λc xs q=>by rw[aw (Ba _ _ q)];exact q
     rcases hc with y | y
     ·rw[y];exact Nh b ob e
     ·exact Nh c _ y
  exact⟨.ref D,_,I',rfl,q D _ Va WU⟩
end
section
variable {prog:Zo} {w:Zr} {A:Zl} {E:Zq->Zp->Prop} {s:Zp}
theorem Av{a:Zk}{its:List Zq}{n:Nat}{P:PySem.Fin->Zp->Prop}(h2:its.length < 2)(ho:s.heap.get? a=some (seqObj "list" its.toArray n))(k:P (.done (.ret .none)) { s with heap:=sortedHeap s.heap a its its.toArray }):ZG (model prog w) A (Builtin.«list.sort» ⟨[.ref a],[]⟩) P E s:=by
 obtain⟨c,hc⟩:∃c,(s.heap.update a (aW λ_=>(#[]:Array Zq))).get? a=some (seqObj "list" #[] c):=⟨_,get?_update_seq ho λ_=>#[]⟩
 have big:(((s.heap.update a (aW λ_=>(#[]:Array Zq))).push (seqObj "tuple" its.toArray 0)).push (seqObj "list" #[] 0)).get? a=some (seqObj "list" #[] c):=aE _ (aE _ hc)
 rw[list_sort_plain]
 refine ZH (listItems_at ho rfl (ZH (listUpdate_at ho rfl (ZH (seqEpoch_at hc rfl (ZH (wpAny_newTuple (ZH (ZK (ZI ?_))))))))))
 show ZG (model prog w) A _ P E { s with heap:=((s.heap.update a (aW λ_=>(#[]:Array Zq))).push (seqObj "tuple" its.toArray 0)).push (seqObj "list" #[] 0) }
 have few:its.toArray.size < 2:=by simpa using h2
 dsimp only
 rw[if_pos few,if_pos few]
 refine ZH (ZM (ZH ?_))
 rw[StateT.run_pure]
 refine ZM ?_
 have mp:Array.map (λx:ZO=>x.2) (arrOf (SortSt.mk' general' (its.toArray.zip its.toArray) #[] 7 none))=its.toArray:=by
  show Array.map (λx:ZO=>x.2) (its.toArray.zip its.toArray)=its.toArray
  match its,h2 with
  | [],_=>simp
  | [v],_=>simp
 dsimp only
 simp only[mp]
 refine ZH (seqEpoch_at big rfl (ZH (listUpdate_at big rfl ?_)))
 simp only[bne_self_eq_false,pz,if_false]
 exact ZM k
theorem w6{l:Zk}{its:List Zq}{Q:Zq->Zp->Prop}(h2:its.length < 2)(hl:s.heap.IsList l its.toArray)(k:Q (.ref (s.heap.objs.size+1)) { s with heap:=sortedAll s.heap its its.toArray }):ZG (model prog w) A (call (.builtin "sorted") [.ref l]) Q E s:=by
 have zz:((s.heap.push (seqObj "list" #[] 0)).update s.heap.objs.size (aW (· ++its.toArray))).objs.size=s.heap.objs.size+1:=(Heap.size_update ..).trans (size_push' ..)
 have hh:(((s.heap.push (seqObj "list" #[] 0)).update s.heap.objs.size (aW (· ++its.toArray))).push (seqObj "list" its.toArray 0)).get? (s.heap.objs.size+1)=some (seqObj "list" its.toArray 0):=zz ▸ bY _ rfl
 refine Calls.call_function_entry kind_sorted plain_sorted entry_sorted (args_sorted1 _) ?_
 unfold Builtin.«sorted»
 refine ZH (m:=checkCount "sorted" 1 1 _) (ZM (ZH (collect_list hl (ZH (ZK ?_)))))
 show ZG _ _ _ _ _ { s with heap:=((s.heap.push (seqObj "list" #[] 0)).update s.heap.objs.size (aW (· ++its.toArray))).push (seqObj "list" its.toArray 0) }
 rw[zz]
 exact ZH (ZI (wpAny_call_entry slot_list_sort ⟨_,hh,rfl⟩ entry_list_sort (Av h2 hh ⟨_,rfl,ZM ⟨_,rfl,k⟩⟩) (args_list_sort _)))
end
section
variable {X:Cx}
theorem Aw:dG X (.builtin "sorted") (λxs H Q=>∃(p:Zk)(vs:List V),xs=[.ref p]/\fB X.K H p vs/\vs.length < 2/\∀l,H l=none->Q (.ref l) (upd H l (.lst vs))):=by
 intro pins s σ H xs us Q I r h
 obtain⟨p,v,rfl,hq,h2,q⟩:=h
 obtain⟨u,rfl,rx⟩:=vals1 r
 cases rx
 obtain⟨its,r',pl,hz⟩:=I.list hq
 obtain⟨n,hat⟩:=sortedAll_at s.heap its its.toArray
 refine w6 (by rw[<-r'.length];exact h2) pl.isList ⟨.ref (s.heap.objs.size+1),_,I.laid (t':=s.toks) (λ_ _=>sortedAll_old) (jT _) (show dM X.prog X.w _ _ _ (.lst _) from⟨hz,its,n,r',?_⟩),rfl,q _ (I.hok.fresh (jT _))⟩
 rw[hat]
def mO:List Wv->Option (List (Int×Int))
 | []=>some []
 | .tup [.int a,.int b]::r=>(match mO r with | some l=>some ((a,b)::l) | none=>none)
 | _=>none
abbrev pw(p:Int×Int):Wv:=.tup [.int p.1,.int p.2]
theorem pM{K:PySem.W.Frag}{m:Mp}{H:Hp}:∀{ws:List Wv}{vs:List V}{ps:List (Int×Int)},af K m H ws vs->mO ws=some ps->M1 H vs ps
 | [],vs,ps,r,e=>by
  unfold af at r
  subst r
  cases e
  exact .nil
 | w::ws,vs,ps,r,e=>by
  unfold af at r
  obtain⟨x,t,rfl,r1,r2⟩:=r
  unfold mO at e
  split at e
  ·cases ‹_::_=[]›
  ·rename_i a b r' he
   cases he
   cases q:mO ws with
   | none=>rw[q] at e;cases e
   | some l=>
    rw[q] at e
    cases e
    unfold aj at r1
    obtain⟨ad,xs,rfl,hT,rx⟩:=r1
    unfold af at rx
    obtain⟨y1,z1,rfl,Vb,rx⟩:=rx
    unfold af at rx
    obtain⟨y2,z2,rfl,Vc,rx⟩:=rx
    unfold af at rx
    subst rx
    unfold aj at Vb Vc
    subst Vb Vc
    exact .cons ⟨ad,rfl,hT⟩ (pM r2 q)
  ·cases e
theorem pN{K:PySem.W.Frag}{m:Mp}{H:Hp}:∀{vs:List V}{ps:List (Int×Int)},M1 H vs ps->af K m H (ps.map pw) vs
 | _,_,.nil=>af.nil
 | _,_,.cons h t=>by
  obtain⟨a,rfl,hT⟩:=h
  refine af.cons ?_ (pN t)
  unfold aj
  exact⟨a,_,rfl,hT,af.cons (by unfold aj;rfl) (af.cons (by unfold aj;rfl) af.nil)⟩
def jr:List Wv->Hs->Re Wv
 | [.ref l],st=>match ai st l with
  | some ws=>if ws.length < 2 then .ok (.ref st.length) (st++[.lst ws]) else(match mO ws with | some ps=>if 2<=ps.length/\ps.length < 64 then .ok (.ref st.length) (st++[.lst ((uY ps).map pw)]) else Aj [.ref l] st | none=>Aj [.ref l] st)
  | none=> .bad
 | _,_=> .bad
theorem F6:dQ X (.builtin "sorted") jr:=by
 obtain⟨rr,h1,h2⟩:=Le (X:=X)
 refine⟨_,Aw.or (Au.or h1),λws vs st H m Q S rs p=>?_⟩
 match ws,rs,p with
 | [],rs,p=>exact aa p
 | x::y::t,rs,p=>cases x<;>exact aa p
 | [x],rs,p=>
  cases x with
  | ref l=>
   have Vd:=rs
   obtain⟨v,rfl,r1⟩:=jc rs
   unfold jr at p
   unfold aj at r1
   obtain⟨a,rfl,hl⟩:=r1
   cases e:ai st l with
   | none=>simp only[e] at p;exact aa p
   | some ws=>
    simp only[e] at p
    obtain⟨xs,q1,q2⟩:=S.read hl e
    by_cases c0:ws.length < 2
    ·rw[if_pos c0] at p
     exact .inl ⟨a,xs,rfl,q1,q2.length ▸ c0,λk hk=>p (.ref k) (m++[k]) _ (Ext.more.trans (Ext.upd (.inl hk))) (S.alloc hk q2) (S.newest k _)⟩
    ·rw[if_neg c0] at p
     cases e2:mO ws with
     | none=>rw[e2] at p;exact .inr (.inr (h2 [.ref l] [.ref a] st H m Q S Vd p))
     | some ps=>
      rw[e2] at p
      dsimp only at p
      by_cases c:2<=ps.length/\ps.length < 64
      ·rw[if_pos c] at p
       refine .inr (.inl ⟨a,xs,ps,rfl,q1,pM q2 e2,c.1,c.2,λk vs' hk hp=>?_⟩)
       exact p (.ref k) (m++[k]) _ (Ext.more.trans (Ext.upd (.inl hk))) (S.alloc hk (pN hp)) (S.newest k _)
      ·rw[if_neg c] at p
       exact .inr (.inr (h2 [.ref l] [.ref a] st H m Q S Vd p))
  | _=>exact aa p
end
def keysOf:List Wv->Option (List L2.Key)
 | []=>some []
 | w::r=>(match keyOf w,keysOf r with | some k,some l=>some (k::l) | _,_=>none)
def O2:Wv->Option (List L2.Key)
 | .tup ws=>keysOf ws
 | _=>none
def O3:GE:=λ_ st=> .ok (.ref st.length) (st++[.BF []])
section
variable {X:Cx}
end
def O4(h:Heap)(d:Zk)(es:Array DictEntry)(ep:Nat):Prop:=∃o,h.get? d=some o/\o.cls= .type "dict"/\o.data= .dict es ep
section
variable {prog:Zo} {w:Zr} {A:Zl} {E:Zq->Zp->Prop} {s:Zp} {d it:Zk} {es:Array DictEntry} {ep i:Nat}
theorem O4.ty(x:O4 s.heap d es ep):s.TypeIs (.ref d) "dict":=let ⟨o,h1,h2,_⟩:=x;⟨o,h1,h2⟩
end
section
variable {X:Cx}
end
def gf:List Wv->Hs->Re Wv:=λws st=>sY ws st
section
variable {X:Cx}
theorem CW(hc:X.calm=true):dQ X (.type "list") gf:=FV
end
open PySem L2 PyProof.Rows
def lexLe:List Int->List Int->Bool
 | [],_=>true
 | _::_,[]=>false
 | a::as,b::bs=>if a=b then lexLe as bs else decide (a<=b)
theorem CY(A:Zl)(s:Zp)(a:Int)(t:Tok)(c:Int)(u:Tok)(prog:Zo)(w:Zr)(E:Zq->Zp->Prop)(Q:Zq->Zp->Prop)(h:Q (.bool (decide (a<=c))) s) :
  ZG (model prog w) A (richCompare .LtE (.int a t) (.int c u)) Q E s :=
 (PyProof.Rows.le_int h:ZG (model prog w) A (Zx .LtE (.int a t) (.int c u)) Q E s)
section
open PySem.SeqAt PySem.MeetsSeq PySem.MeetsSeq2 PySem.MeetsSeq3
theorem Lp(p q:Zk)(us vs:Array Zq)(k k2:Nat)(d1 d2:Option Zk)(z1 z2:Array (Option Zq))(is js:List Int)(ui:IntsAre us.toList is)(vi:IntsAre vs.toList js) :
  Meets (Builtin.«tuple.__le__» ⟨[.ref p,.ref q],[]⟩)
   (λ_ R s=>s.heap.get? p=some { cls:=.type "tuple",dict:=d1,data:=.seq us k,slots:=z1 }/\s.heap.get? q=some { cls:=.type "tuple",dict:=d2,data:=.seq vs k2,slots:=z2 }/\
    R (.ok (.ret (.bool (lexLe is js)))) s) :=
 .of_wp λprog w A R s hh=>by
  obtain⟨hp,g,d,tk,os⟩:=s
  obtain⟨gp,gq,hr⟩:=hh
  have sb:=Br
  have n1:us.size=is.length:=by rw[<-ui.length];simp
  have n2:vs.size=js.length:=by rw[<-vi.length];simp
  wp_walk using PySem.AutoSeq1.wpAny_loadPart' gp,PySem.AutoSeq1.wpAny_loadPart' gq,wpAny_forIn_list _ (λtodo b s'=>b.1=none/\s'=⟨hp,g,d,tk,os⟩/\∃(as bs:List Zq)(is' qw:List Int),todo=as.zip bs/\
   IntsAre as is'/\IntsAre bs qw/\is'.length+vs.size=qw.length+us.size/\R (.ok (.ret (.bool (lexLe is' qw)))) ⟨hp,g,d,tk,os⟩) _
  case turn=>
   rintro⟨y,x⟩ todo b s' ⟨e0,rfl,as,bs,is',qw,ez,hi1,hi2,hn,hR⟩
   cases hi1 with
   | nil=>simp at ez
   | cons a t F7=>
    cases hi2 with
    | nil=>simp at ez
    | cons c u F8=>
     rw[lh] at ez
     injection ez with e1 e2
     injection e1 with e3 e4
     subst e3 e4
     unfold lexLe at hR
     simp only[ig] at hn
     obtain⟨e,he,ei⟩:=HT.uw A.in1 ⟨hp,g,d,tk,os⟩ a t c u
     refine ZH (he prog w _ _ ?_)
     cases e with
     | true=>
      rw[if_pos (ei.mp rfl)] at hR
      wp_walk
      exact⟨rfl,rfl,_,_,_,_,e2,F7,F8,by omega,hR⟩
     | false=>
      rw[if_neg (λx=>absurd (ei.mpr x) cw)] at hR
      have rc:=CY A.in1 ⟨hp,g,d,tk,os⟩ a t c u prog w
      wp_walk using rc
      exact⟨_,rfl,by simpa using hR⟩
  case fin=>
   rintro⟨b1,b2⟩ s' ⟨e0,rfl,as,bs,is',qw,ez,hi1,hi2,hn,hR⟩
   simp only at e0
   subst e0
   have fz:lexLe is' qw=decide (us.size<=vs.size):=by
    cases hi1 with
    | nil=>
     simp only[kC] at hn
     unfold lexLe
     exact(decide_eq_true (by omega)).symm
    | cons a t hv=>
     cases hi2 with
     | nil=>
      simp only[kC,ig] at hn
      unfold lexLe
      exact(decide_eq_false (by omega)).symm
     | cons c u hw=>simp at ez
   rw[fz] at hR
   wp_walk
   exact⟨_,rfl,by simpa [Bs] using hR⟩
  case h=>exact⟨rfl,rfl,us.toList,vs.toList,is,js,rfl,ui,vi,by omega,hr⟩
end
theorem F9{prog:Zo}{w:Zr}{A:Zl}{E:Zq->Zp->Prop}{s:Zp}{p q:Zk}{us vs:Array Zq}{is js:List Int}{Q:Zq->Zp->Prop}(hp:IsTup s.heap p us)(hq:IsTup s.heap q vs)(ui:IntsAre us.toList is)(vi:IntsAre vs.toList js)
  (hu:A.units < cLine)(k:Q (.bool (lexLe is js)) s):ZG (model prog w) A (Zx .LtE (.ref p) (.ref q)) Q E s:=by
 obtain⟨⟨c1,d1,WV,R9⟩,o1,e1,n1,f1⟩:=id hp
 obtain⟨⟨c2,d2,WW,sl2⟩,o2,e2,n2,f2⟩:=id hq
 dsimp only at e1 f1 e2 f2
 subst e1 f1 e2 f2
 exact richCompare_meets_room (op:=.LtE) ⟨_,o1,rfl⟩ ⟨_,o2,rfl⟩ PySem.F.slot_tuple_le PySem.F.entry_tuple_le (PySem.F.args_tuple_le_2 _ _) (Lp p q us vs n1 n2 d1 d2 R9 sl2 is js ui vi)
  ⟨o1,o2,show iH (lexLe is js)≠xR/\Q (.bool (lexLe is js)) s from⟨(λx=>nomatch x),k⟩⟩ hu
variable {X:Cx}
def R_(K:PySem.W.Frag):R2:=λx y H Q=>∃a b is js,x= .ref a/\y= .ref b/\dh K H a (is.map V.int)/\dh K H b (js.map V.int)/\Q (.bl (lexLe is js)) H
theorem Lq(hu:X.A.units < cLine):dN X (Zx .LtE) (R_ X.K):=by
 intro pins s σ H x y v u Q I rx ry h
 obtain⟨a,b,is,js,rfl,rfl,ha,hb,q⟩:=h
 cases rx
 cases ry
 obtain⟨us,r1,p1,_⟩:=I.tuple ha
 obtain⟨vs,r2,p2,_⟩:=I.tuple hb
 exact F9 p1 p2 (L2.intsAre_of r1) (L2.intsAre_of r2) hu ⟨.bl (lexLe is js),H,I,rfl,q⟩
def bO:List Wv->Option (List Int)
 | []=>some []
 | .int i::r=>(bO r).map (i::·)
 | _=>none
theorem fS{K:PySem.W.Frag}{m:Mp}{H:Hp}:∀{ws:List Wv}{xs:List V}{is:List Int},af K m H ws xs->bO ws=some is->xs=is.map V.int
 | [],xs,is,r,e=>by
  unfold af at r
  cases e
  exact r
 | w::ws,xs,is,r,e=>by
  unfold af at r
  obtain⟨x,rr,rfl,h1,h2⟩:=r
  cases w with
  | int i=>
   unfold bO at e
   cases e1:bO ws with
   | none=>rw[e1] at e;cases e
   | some js=>
    rw[e1] at e
    cases e
    have hi:x= .int i:=by unfold aj at h1;exact h1
    rw[hi,fS h2 e1]
    rfl
  | _=>unfold bO at e;cases e
def oLe:gv:=λx y st=>match x,y with
 | .tup xs,.tup ys=>(match bO xs,bO ys with | some is,some js=> .ok (.bl (lexLe is js)) st | _,_=> .bad)
 | x,y=>N8 x y st
theorem Lr(hu:X.A.units+64 < cLine):jK X (Zx .LtE) oLe:=by
 obtain⟨r,h1,h2⟩:=Oc (X:=X)
 refine⟨_,dN.or h1 (Lq (by omega)),λx y a b st H m Q S rx ry p=>?_⟩
 cases x with
 | tup xs=>
  cases y with
  | tup ys=>
   have p':cb X.K m H (match bO xs,bO ys with | some is,some js=> .ok (.bl (lexLe is js)) st | _,_=> .bad) Q:=p
   unfold aj at rx ry
   obtain⟨c,us,rfl,f1,f2⟩:=rx
   obtain⟨d,vs,rfl,g1,g2⟩:=ry
   cases e1:bO xs with
   | none=>rw[e1] at p';exact aa p'
   | some is=>
    cases e2:bO ys with
    | none=>rw[e1,e2] at p';exact aa p'
    | some js=>
     rw[e1,e2] at p'
     have:=fS f2 e1
     subst this
     have:=fS g2 e2
     subst this
     exact .inr ⟨c,d,is,js,rfl,rfl,dh.of f1,dh.of g1,p' _ m H Ext.refl S gA⟩
  | _=>exact .inl (h2 _ _ _ _ st H m Q S rx ry p)
 | _=>exact .inl (h2 _ _ _ _ st H m Q S rx ry p)
def O5:gv:=λx y st=>match x,y with
 | .tup xs,.tup ys=>(match bO xs,bO ys with | some is,some js=> .ok (.bl (HT.lexLt is js)) st | _,_=> .bad)
 | x,y=>N7 x y st
theorem Lu(hu:X.A.units+64 < cLine):jK X (Zx .Lt) O5:=by
 obtain⟨r,h1,h2⟩:=Oa (X:=X)
 refine⟨_,dN.or h1 (JH (by omega)),λx y a b st H m Q S rx ry p=>?_⟩
 cases x with
 | tup xs=>
  cases y with
  | tup ys=>
   have p':cb X.K m H (match bO xs,bO ys with | some is,some js=> .ok (.bl (HT.lexLt is js)) st | _,_=> .bad) Q:=p
   unfold aj at rx ry
   obtain⟨c,us,rfl,f1,f2⟩:=rx
   obtain⟨d,vs,rfl,g1,g2⟩:=ry
   cases e1:bO xs with
   | none=>rw[e1] at p';exact aa p'
   | some is=>
    cases e2:bO ys with
    | none=>rw[e1,e2] at p';exact aa p'
    | some js=>
     rw[e1,e2] at p'
     have:=fS f2 e1
     subst this
     have:=fS g2 e2
     subst this
     exact .inr ⟨c,d,is,js,rfl,rfl,dh.of f1,dh.of g1,p' _ m H Ext.refl S gA⟩
  | _=>exact .inl (h2 _ _ _ _ st H m Q S rx ry p)
 | _=>exact .inl (h2 _ _ _ _ st H m Q S rx ry p)
structure pO(k:Nat)(A:Zl):Prop where
 d:A.depth+3 * k+5 < recursionLimit
 u:A.units+16 * k+200 < cLine
theorem pO.of{k:Nat}{A:Zl}(r:dD k A):pO k A:=⟨r.dp,r.un⟩
structure O6(P:Zo)(w:Zr)(K:PySem.W.Frag)(mg:Str->Option Zq)(base:Heap)(k:Nat)(f:Zk)(fd:Zm)(ps:List Str)(sp:Sp):Prop where
 n:∀vs H Q E,sp vs H Q E->vs.length=ps.length
 go:∀(A:Zl)(outer:List Env)(s:Zp)(H:Hp)(args:Args)(us:List Zq)(vs:List V)(Q:VK)(E:XK),pO k A->zZ A H->mv P w K mg base A outer s H->
  BindsTo s fd args (ps.zip us)->Vals vs us->sp vs H Q E->Zv (model P w) A (.call (.ref f) args) (CR (CXJ P w) outer P w H s Q E) s
section
variable {P:Zo} {w:Zr} {K:PySem.W.Frag} {mg:Str->Option Zq} {base:Heap}
end
section
variable {X:Cx}
end
def F_(P:Zo)(w:Zr)(K:PySem.W.Frag)(mg:Str->Option Zq)(base:Heap)(k:Nat)(x:Str)(n:Nat)(F:List Wv->Hs->Re Wv):Prop :=
 ∃f fd ps,O6 P w K mg base k f fd ps (spW K n F)/\mg x=some (.ref f)/\PySem.W.keepIn K (.ref f)=true/\Binds K fd ps []
section
variable {X:Cx}
end
section
variable {X:Cx}
end
abbrev HX:=Option (Nat×List Wv)×List Wv
def qJ(c:Option (Nat×List Wv))(st:Hs):Prop:=match c with
 | some (l,ws)=>ai st l=some ws
 | none=>True
structure CZ(X:Cx)(w:HX)(m1:Mp)(H1:Hp)(J':It):Prop where
 go:∀(k:Nat)(H:Hp)(m':Mp)(st:Hs),Ext X.K m1 H1 m' H->aQ X.K m' st H->qJ w.1 st->k < w.2.length->J'.go k H
 stop:∀(k:Nat)(H:Hp)(m':Mp)(st:Hs),Ext X.K m1 H1 m' H->aQ X.K m' st H->qJ w.1 st->k=w.2.length->J'.stop k H
 sg:∀(k:Nat)(hk:k < w.2.length)(H:Hp)(v:V)(H':Hp)(m':Mp)(st:Hs),Ext X.K m1 H1 m' H->aQ X.K m' st H->qJ w.1 st->J'.sg k H v H'->Ext X.K m' H m' H'/\aQ X.K m' st H'/\aj X.K m' H' w.2[k] v
abbrev C0:=bA->Hs->Re HX
def HY(X:Cx)(tg iter:Expr)(gi:C0):Prop:=∃wi,PI X tg iter wi/\∀(ρ:bA)(st:Hs)(σ:St)(H:Hp)(m:Mp)(R:It->Hp->Prop),aQ X.K m st H->av X.K m H ρ σ->
 au X σ m H (gi ρ st) (λw st1=>∀(m1:Mp)(H1:Hp)(J':It),Ext X.K m H m1 H1->aQ X.K m1 st1 H1->qJ w.1 st1->CZ X w m1 H1 J'->R J' H1)->wi σ H R
section
variable {X:Cx}
theorem w8{tg iter:Expr}{gi:GI}(h:JI X tg iter gi):HY X tg iter (λρ st=>(gi ρ st).bind λw st1=> .ok (w.1.map λl=>(l,w.2),w.2) st1):=by
 obtain⟨wi,hp,hw⟩:=h
 refine⟨wi,hp,λρ st σ H m R S r p=>hw ρ st σ H m R S r ((au.bind p).imp Ext.refl λw st1 q m1 H1 J' e1 S1 c1 qv=>?_)⟩
 obtain⟨o,ws⟩:=w
 have cc:∀st,qJ (o.map λl=>(l,ws)) st->fg (o,ws) st:=λst c=>by cases o<;>exact c
 have WX:fg (o,ws) st1->qJ (o.map λl=>(l,ws)) st1:=λc=>by cases o<;>exact c
 refine q m1 H1 J' e1 S1 (WX c1) ⟨λk H2 m' st2 e S2 c=>qv.go k H2 m' st2 e S2 (cc _ c),λk H2 m' st2 e S2 c=>qv.stop k H2 m' st2 e S2 (cc _ c),λk hk H2 v H3 m' st2 e S2 c y=>?_⟩
 obtain⟨rfl,rr⟩:=qv.sg k hk H2 v H3 m' st2 e S2 (cc _ c) y
 exact⟨Ext.refl,S2,rr⟩
end
open Classical in
def pP(is:List Nat)(gb:GS)(c:Option (Nat×List Wv)):List Wv->bA->Hs->Rs
 | [],ρ,st=> .nx ρ st
 | w::r,ρ,st=>match KS is w ρ with
  | none=> .bad
  | some ρ1=>match gb ρ1 st with
   | .nx ρ' st'=>if qJ c st' then pP is gb c r ρ' st' else .bad
   | .ct ρ' st'=>if qJ c st' then pP is gb c r ρ' st' else .bad
   | .bk ρ' st'=> .nx ρ' st'
   | .rt w st'=> .rt w st'
   | .err c ρ' st'=> .err c ρ' st'
   | .bad=> .bad
def yC(is:List Nat)(gi:C0)(gb:GS):GS:=λρ st=>(gi ρ st).bH ρ λw st1=>pP is gb w.1 w.2 ρ st1
section
variable {X:Cx}
theorem Ga{es:List Expr}{is:List Nat}{k:Nat}{iter:Expr}{body:List Stmt}{gi:C0}{gb:GS}{pos pos':Pos}(hN:X.N.Nodup)(hp:PassesOwn (model X.prog X.w) X.A X.env X.xe)(hc:X.calm=true)(sl:Slots X es is)(hi:HY X (.Tuple es k pos') iter gi)(hb:mE X body gb)
  (hs:∀x,Zy iter X.env x=pure x):JS X (.For (.Tuple es k pos') iter body [] pos) (yC is gi gb):=by
 obtain⟨wi,OT,hw⟩:=hi
 refine JS.of (sh hp hc OT (v_ hc (jP hN sl) (lJ sl) (jQ sl)) gK hs) λρ st σ H m D S R p=>?_
 refine hw ρ st σ H m _ S R ((aK.dO R p).imp Ext.refl λw st1 p1 m1 H1 J' e1 S1 c1 qv=>?_)
 obtain⟨cc,ws⟩:=w
 let Pv:Nat->St->Hp->Prop:=λk σ H=>∃ρ st m',Ext X.K m1 H1 m' H/\aQ X.K m' st H/\av X.K m' H ρ σ/\qJ cc st/\aK X m' H (pP is gb cc (ws.drop k) ρ st) D
 refine⟨λk n σ H=>n=ws.length - k/\k<=ws.length/\Pv k σ H,⟨ws.length,by simp,bF _,ρ,st1,m1,Ext.refl,S1,R.mono e1,c1,aK.shift p1 e1⟩,?_⟩
 rintro k n σ2 H2 ⟨rfl,hk,ρ2,st2,m2,e2,S2,R2,c2,p2⟩
 by_cases hlt:k < ws.length
 ·refine .inr ⟨qv.go k H2 m2 st2 e2 S2 c2 hlt,Pv (k+1),λσ' H' p'=>⟨ws.length - (k+1),by omega,rfl,hlt,p'⟩,λx H' y=>?_⟩
  obtain⟨eY,WY,mJ⟩:=qv.sg k hlt H2 x H' m2 st2 e2 S2 c2 y
  have ed:ws.drop k=ws[k]::ws.drop (k+1):=ph hlt
  rw[ed] at p2
  unfold pP at p2
  replace p2:=aK.shift p2 eY
  have WZ:=R2.mono eY
  have KW:=e2.trans eY
  have Sa:aj X.K m2 H' ws[k] x:=mJ
  cases eb:ws[k] with
  | tup us=>
   rw[eb] at p2 Sa
   dsimp only[KS] at p2
   cases e5:sU is us ρ2 with
   | none=>rw[e5] at p2;exact aa p2
   | some ρ5=>
    rw[e5] at p2
    dsimp only at p2
    unfold aj at Sa
    obtain⟨b,ys,rfl,f1,f2⟩:=Sa
    refine⟨b,ys,rfl,dh.of f1,by rw[<-f2.length];exact pv e5,lI f2 WZ e5 λσ5 R5=>?_⟩
    refine hb _ st2 _ _ m2 _ WY R5 ?_
    cases eg:gb ρ5 st2 with
    | nx ρ3 st3=>
     rw[eg] at p2
     by_cases c:qJ cc st3
     ·simp only[if_pos c] at p2
      exact λσ3 m3 H3 e3 S3 R3=>⟨ρ3,st3,m3,KW.trans e3,S3,R3,c,aK.shift p2 e3⟩
     ·simp only[if_neg c] at p2;exact aa p2
    | ct ρ3 st3=>
     rw[eg] at p2
     by_cases c:qJ cc st3
     ·simp only[if_pos c] at p2
      exact λσ3 m3 H3 e3 S3 R3=>⟨ρ3,st3,m3,KW.trans e3,S3,R3,c,aK.shift p2 e3⟩
     ·simp only[if_neg c] at p2;exact aa p2
    | bk ρ3 st3=>rw[eg] at p2;exact p2
    | rt w3 st3=>rw[eg] at p2;exact p2
    | err c3 ρ3 st3=>rw[eg] at p2;exact p2
    | bad=>rw[eg] at p2;exact p2
  | _=>rw[eb] at p2;exact aa p2
 ·have e:k=ws.length:=by omega
  subst e
  rw[pj] at p2
  exact .inl ⟨qv.stop _ H2 m2 st2 e2 S2 c2 rfl,p2 σ2 m2 H2 Ext.refl S2 R2⟩
end
def yD(n:Nat):Wv->Option (List Wv)
 | .tup us=>if us.length=n then some us else none
 | _=>none
open Classical in
def gg(ck:Hs->Prop)(n:Nat)(gt:List Wv->Hs->Re Bool)(ge:List Wv->Hs->Re Wv)(l:Nat):List Wv->Hs->Option Hs
 | [],st=>some st
 | w::r,st=>match yD n w with
  | none=>none
  | some us=>match gt us st with
   | .ok false st1=>if ck st1 then gg ck n gt ge l r st1 else none
   | .ok true st1=>(match ge us st1 with
    | .ok v st2=>(match j' (.ref l) v st2 with
     | .ok _ st3=>if ck st3 then gg ck n gt ge l r st3 else none
     | _=>none)
    | _=>none)
   | _=>none
def dR(X:Cx)(scope:Scope)(xs:List Str)(cs:dm)(C:Zk)(s0:Zp)(H0:Hp)(fp:List Zk)(pn:List (Zk×Obj)):Cx :=
 { eF X scope "" cs C s0 H0 fp pn (λ_ _=>False) with N:=xs++cs.map (·.1) }
structure jV(X:Cx)(scope:Scope)(x:Str)(xr:List Str)(cs:dm):Prop where
 one:dE X scope x cs
 var:∀y∈x::xr,scope.names.lookup y=some .local
 nd:((x::xr)++cs.map (·.1)).Nodup
inductive dS:List Expr->List Str->Prop
 | nil:dS [] []
 | cons {x:Str} {p:Pos} {es:List Expr} {xs:List Str}:dS es xs->dS (.Name x p::es) (x::xs)
section
variable {X:Cx} {pins:List (Zk×Obj)} {σ:St} {H:Hp} {s:Zp} {scope:Scope} {x:Str} {xr:List Str} {cs:dm}
theorem inv2{fp:List Zk}{h2:Heap}{tk:Nat}(S:jV X scope x xr cs)(hc:X.calm=true)(I:Inv X pins σ H s)(hf:∀b∈fp,cG X pins H b)(hl:∀b∈fp,b < s.heap.objs.size)
  (ns:h2.Ns s.heap.objs.size (λy=>([]:List (Str×Zq)).reverse.lookup y))(sb:oM s.heap.objs.size (s.heap.push { cls:=.type "dict",data:=.dict #[] }) h2) :
  Inv (dR X scope (x::xr) cs s.heap.objs.size s H fp (X.pn++pins)) [] (aG (x::xr).length none++lL cs σ) H { s with heap:=h2,toks:=tk }:=by
 have J:=uQ (E:=λ_ _=>False) (tk:=tk) S.one I hf hl ns sb
 have o:=J.ok
 obtain⟨m,hn,hv⟩:=J.loc
 refine⟨⟨o.mod,o.kind,o.glob,o.blt,o.above,o.inj,o.has,o.IV,o.hd,o.frames,o.stk,o.Q3,o.bs,o.A6,o.zr,o.Bf,o.jh,o.EA⟩,J.os,J.bare,J.base,⟨m,hn,λi y v e1 e2 e3=>?_⟩,J.cell,J.free,J.fW,J.pin,J.hok,?_⟩
 ·have EE:((x::xr)++cs.map (·.1))[i]? =some y:=e1
  by_cases hi:i < (x::xr).length
  ·rw[dj (by rw[kz];exact hi),sm,if_pos hi] at e2
   cases e2
  ·rw[ic (by rw[kz];omega),kz] at e2
   rw[ic (by omega)] at EE
   exact hv (i - (x::xr).length+1) y v EE e2 e3
 ·show(aG (x::xr).length none++lL cs σ).length=((x::xr)++cs.map (·.1)).length
  unfold lL
  simp
  omega
theorem Sb{fp:List Zk}{Hb He:Hp}{sb se:Zp}{C:Zk}{σ':St}{gI:List (Zk×Obj)}(I:Inv X pins σ Hb sb)(hf:∀b∈fp,cG X pins Hb b)(J:Inv (dR X scope (x::xr) cs C sb Hb fp (X.pn++pins)) gI σ' He se):Inv X pins σ He se:=by
 have un:Un (frs X.stack) fp Hb He sb.heap se.heap:=J.base
 exact I.qU (ch:=fp) J.os un J.hok J.bare λb hb=>⟨(hf b hb).2.2.2.1,(hf b hb).2.1,(hf b hb).2.2.2.2.1,λp hp=>(hf b hb).2.2.2.2.2 p hp⟩
end
theorem C2{Y:Cx}:∀{es:List Expr}{xs:List Str}(pre:List Str)(post:List Str),dS es xs->Y.N=pre++(xs++post)->(∀y∈xs,Y.env.scope.names.lookup y=some .local)->Slots Y es (cZ pre.length xs.length)
 | _,_,pre,post,.nil,hN,hv=> .nil
 | _,_,pre,post,.cons (x:=x) (xs:=xs) t,hN,hv=>by
  show Slots Y _ (pre.length::cZ (pre.length+1) xs.length)
  have hx:=hv x aI
  refine .cons (by rw[hN];simp) ⟨.inl hx,.inr hx⟩ ?_
  have:=C2 (pre++[x]) post t (by rw[hN];simp) λy hy=>hv y (aD _ hy)
  rw[dk] at this
  exact this
theorem HZ:∀(us:List Wv)(pre:bA)(zs:bA)(post:bA),zs.length=us.length->sU (cZ pre.length us.length) us (pre++(zs++post))=some (pre++(us.map some++post))
 | [],pre,zs,post,h=>by
  have:zs=[]:=List.length_eq_zero_iff.mp h
  subst this
  rfl
 | u::us,pre,[],post,h=>by cases h
 | u::us,pre,z::zs,post,h=>by
  show sU (cZ (pre.length+1) us.length) us ((pre++(z::zs++post)).set pre.length (some u))=_
  have e:(pre++(z::zs++post)).set pre.length (some u)=(pre++[some u])++(zs++post):=by
   rw[List.set_append_right _ _ (ak _)]
   simp
  have q:=HZ us (pre++[some u]) zs post (by simpa using h)
  rw[dk,JU] at q
  rw[e,q]
  simp
theorem Sd{K:PySem.W.Frag}{m:Mp}{H:Hp}{us:List Wv}{ρ:bA}{σ:St}(R:av K m H (us.map some++ρ) σ):av K m H (aG us.length none++ρ) σ:=by
 refine⟨by rw[<-R.len];simp,λi w e=>?_⟩
 by_cases hi:i < us.length
 ·rw[dj (by simpa using hi),sm,if_pos hi] at e
  cases e
 ·refine R.get i w ?_
  rw[ic (by simpa using Nat.le_of_not_lt hi)] at e ⊢
  simpa using e
section
variable {prog:Zo} {w:Zr} {A:Zl} {R:Result->Zp->Prop} {s:Zp}
abbrev NB(prog:Zo)(w:Zr)(A:Zl)(env:Env)(R:Result->Zp->Prop):Zq->Zp->Prop:=notedBy (model prog w) A env λe s'=>R (.error e) s'
theorem Lw{elt tg iter:Expr}{ifs:List Expr}{scope:Scope}{pos:Pos}{it acc:Zq}{env:Env}(Iv:Nat->Zp->Prop)
  (turn:∀n t,Iv n t->ZG (model prog w) A (pyNext it) (λr t1=>match r with
   | none=>R (.ok .next) t1
   | some v=>ZG (model prog w) A (letOwnedTupleGo tg it v) (λ_ t2=>ZG (model prog w) A (assign tg env v) (λ_ t3=>
     ZG (model prog w) A (forIn ifs true λc r=>if r=true then do let ok <-isTrue c env (eval c env);pure (kG ok) else pure (kG r)) (λok t4=>
      if ok=true then ZG (model prog w) A (eval elt env) (λx t5=>ZG (model prog w) A (call (.builtin "list.append") [acc,x]) (λ_ t6=>∃m,m < n/\Iv m t6) (NB prog w A env R) t5) (NB prog w A env R) t4
      else ∃m,m < n/\Iv m t4) (NB prog w A env R) t3) (NB prog w A env R) t2) (NB prog w A env R) t1) (NB prog w A env R) t)
  (n:Nat) (h:Iv n s):Zv (model prog w) A (.compLoop (.ListComp elt [⟨tg,iter,ifs,0⟩] scope pos) 0 it acc env) R s:=by
 refine codeAny_loop rfl Iv (λn t hI=>?_) n h
 show ZG _ A ((compTurn (.ListComp elt [⟨tg,iter,ifs,0⟩] scope pos) 0 it acc env).onRaise (λx=>do noteFrame x env;theTreesLotGoes x)) _ _ t
 refine wpAny_noted ?_
 rw[compTurn_list]
 refine ZH (wpAny_standAt (ZH (ZJ (turn n t hI) (λr t1 g1=>?_) λ_ _ z=>z)))
 cases r with
 | none=>exact ZM g1
 | some v=>
  refine ZH (ZJ g1 (λ_ t2 g2=>ZH (ZJ g2 (λ_ t3 g3=>ZH (ZJ g3 (λok t4 g4=>?_) λ_ _ z=>z)) λ_ _ z=>z)) λ_ _ z=>z)
  cases ok with
  | false=>exact ZM ⟨rfl,g4⟩
  | true=>exact ZH (ZH (ZJ g4 (λx t5 g5=>ZH (ZJ g5 (λ_ t6 g6=>ZM (ZM ⟨rfl,g6⟩)) λ_ _ z=>z)) λ_ _ z=>z))
end
section
variable {X:Cx}
theorem u0{pins:List (Zk×Obj)}{σ:St}{ρ:bA}{scope:Scope}{x:Str}{xr:List Str}{cs:dm}{es:List Expr}{kt:Nat}{pt pos:Pos}{elt iter:Expr}{ifs:List Expr}{gt:GT}{ge:GE}{ck:Hs->Prop}{ws:List Wv}{E:Zq->Zp->Prop}
  {RR:Zq->Zk->Result->Zp->Prop}
  {it:Zk}{fp:List Zk}{tn:Nat->Heap->Prop}{J':It}{H2:Hp}{s2:Zp}{m1:Mp}{st1 lK:Hs}(S:jV X scope x xr cs)(sl:dS es (x::xr))(hc:X.calm=true)(I2:Inv X pins σ H2 s2)(T:Turn X.prog X.w X.K (.Tuple es kt pt) J' fp it tn)(t0:tn 0 s2.heap)(f2:∀b∈fp,cG X pins H2 b)
  (S1:aQ X.K m1 st1 H2)(R:av X.K m1 H2 ρ σ)(hck:ck (st1++[.lst []]))(run:gg ck (x::xr).length (λw=>gt (w.map some++cL cs ρ)) (λw=>ge (w.map some++cL cs ρ)) st1.length ws (st1++[.lst []])=some lK)
  (hE:∀C s0 H0 pn,JE (dR X scope (x::xr) cs C s0 H0 fp pn) elt ge)(hT:∀C s0 H0 pn,Ac (dR X scope (x::xr) cs C s0 H0 fp pn) ifs gt)
  (hgo:∀(k:Nat)(H:Hp)(m':Mp)(st:Hs),Ext X.K m1 H2 m' H->aQ X.K m' st H->ck st->k < ws.length->J'.go k H)(hstop:∀(k:Nat)(H:Hp)(m':Mp)(st:Hs),Ext X.K m1 H2 m' H->aQ X.K m' st H->ck st->k=ws.length->J'.stop k H)
  (hy:∀(k:Nat)(hk:k < ws.length)(H:Hp)(v:V)(H':Hp)(m':Mp)(st:Hs),Ext X.K m1 H2 m' H->aQ X.K m' st H->ck st->J'.sg k H v H'->Ext X.K m' H m' H'/\aQ X.K m' st H'/\aj X.K m' H' ws[k] v)
  (fin:∀(D C:Zk)(mm:Str->Option Zq)(m':Mp)(H':Hp)(s':Zp),Ext X.K m1 H2 m' H'->aQ X.K m' lK H'->m'[st1.length]? =some D->Inv X pins σ H' s'->cG X pins H' C->s'.heap.Ns C mm->(∀y c,X.env.cells.lookup y=some c->c≠C)->RR (.ref D) C (.ok .next) s') :
  ZG (model X.prog X.w) X.A (newList []) (λacc s3=>ZG (model X.prog X.w) X.A (newFunctionEnv scope X.env.globals (kg X.env scope.names []) [] X.env.qual none .none (some X.env)) (λcenv s4=>
   Zv (model X.prog X.w) X.A (.compStart (.ListComp elt [⟨.Tuple es kt pt,iter,ifs,0⟩] scope pos) 0 (.ref it) acc { cenv with scope:=relabel scope X.env }) (RR acc cenv.locals) s4) E s3) E s2:=by
 refine ZK ?_
 have I3:Inv X pins σ (upd H2 s2.heap.objs.size (.lst [])) { s2 with heap:=s2.heap.push { cls:=.type "list",data:=.seq ([]:List Zq).toArray } }:=I2.Ff (ys:=[]) (its:=[]) (t':=s2.toks) .nil (bF _)
 have OJ:∀b∈fp,b < s2.heap.objs.size:=λb hb=>by
  obtain⟨o,e,_⟩:=T.obj _ _ t0 b hb
  exact ax e
 have hD:H2 s2.heap.objs.size=none:=I2.fresh
 have f3:∀b∈fp,cG X pins (upd H2 s2.heap.objs.size (.lst [])) b:=λb hb=>⟨by rw[aw (aN (OJ b hb))];exact(f2 b hb).1,(f2 b hb).2⟩
 have S3:=S1.alloc (ws:=[]) (xs:=[]) hD af.nil
 have e3:Ext X.K m1 H2 (m1++[s2.heap.objs.size]) (upd H2 s2.heap.objs.size (.lst [])):=Ext.more.trans (Ext.upd (.inl hD))
 have FP:(m1++[s2.heap.objs.size])[st1.length]? =some s2.heap.objs.size:=by
  rw[<-S1.len,ic (ak _),sJ];rfl
 generalize om:({ s2 with heap:=s2.heap.push { cls:=.type "list",data:=.seq ([]:List Zq).toArray } }:Zp)=s3 at I3
 have OK:∀b o,s2.heap.get? b=some o->s3.heap.get? b=some o:=λb o e=>by rw[<-om];exact aE _ e
 have OL:∀b∈fp,b < s3.heap.objs.size:=λb hb=>by
  obtain⟨o,e,_⟩:=T.obj _ _ t0 b hb
  exact ax (OK b o e)
 generalize WI:s2.heap.objs.size=D at *
 generalize WJ:upd H2 D (.lst [])=H3 at *
 generalize WK:m1++[D]=m3 at *
 have R3:av X.K m3 H3 (cL cs ρ) (lL cs σ):=(ye cs R).mono e3
 generalize hrr:cL cs ρ=ρc at *
 generalize hss:lL cs σ=σc at *
 refine wpAny_newFunctionEnv S.one.cell (λ_ z=>nomatch z) (λh4 RO OM=>?_) S.one.kind
 have Ic:=inv2 (tk:=s3.toks+([]:List (Str×Zq)).length) S hc I3 f3 OL RO OM
 rw[hss] at Ic
 have RP:∀b o,s3.heap.get? b=some o->h4.get? b=some o:=λb o e=>(OM.2 b (aN (ax e))).trans (aE _ e)
 have t4:tn 0 h4:=T.keep _ _ _ t0 λb _ o e=>RP b o (OK b o e)
 let Xc:=dR X scope (x::xr) cs s3.heap.objs.size s3 H3 fp (X.pn++pins)
 have vis:∀y∈x::xr,Xc.env.scope.names.lookup y=some .local:=λy hy=>lookup_relabel_local (S.var y hy)
 have Se:Slots Xc es (cZ 0 (x::xr).length):=C2 (Y:=Xc) [] (cs.map (·.1)) sl rfl vis
 have KY:∀(H':Hp),(∀b∈fp,H' b=none)->∀b∈fp,cG Xc [] H' b:=λH' hn b hb=>⟨hn b hb,aN (OL b hb),jo I3 (f3 b hb),.inl hb,λy c e=>(f3 b hb).2.2.2.2.1 y c (S.one.sub I3.ok e),λp hp=>(f2 b hb).2.2.2.2.2 p (by have ON:p∈(X.pn++pins)++[]:=hp;rw[hX] at ON;exact ON)⟩
 let Pv:Nat->Zp->Prop:=λk s'=>∃σ' H' st m',Inv Xc [] σ' H' s'/\av X.K m' H' (aG (x::xr).length none++ρc) σ'/\tn k s'.heap/\(∀b∈fp,H' b=none)/\Ext X.K m3 H3 m' H'/\aQ X.K m' st H'/\ck st/\gg ck (x::xr).length (λw=>gt (w.map some++ρc)) (λw=>ge (w.map some++ρc)) st1.length (ws.drop k) st=some lK
 have loop:∀s4:Zp,Pv 0 s4->Zv (model X.prog X.w) X.A (.compLoop (.ListComp elt [⟨.Tuple es kt pt,iter,ifs,0⟩] scope pos) 0 (.ref it) (.ref D) (compEnvC scope (kg X.env scope.names []) s3.heap.objs.size X.env)) (RR (.ref D) s3.heap.objs.size) s4:=λs4 p0=>by
  refine Lw (λn s'=>∃k,n=ws.length - k/\k<=ws.length/\Pv k s') ?_ ws.length ⟨0,by simp,bF _,p0⟩
  rintro n s5 ⟨k,rfl,hk,σ5,H5,uu,m5,I5,R5,OO,Jo,e5,S5,c5,aR⟩
  have Cv:=e3.trans e5
  by_cases hlt:k < ws.length
  ·refine bH (T.item Xc rfl rfl rfl hc k [] s5 σ5 H5 _ I5 (KY H5 Jo) OO (hgo k H5 m5 uu Cv S5 c5 hlt)) λr s6 h6=>?_
   obtain⟨u,rfl,h6⟩:=h6
   refine bH h6 λ_ s7 h7=>?_
   obtain⟨v,H7,I7,rv,yl,KZ,RQ⟩:=h7
   obtain⟨eY,S7,OP⟩:=hy k hlt H5 v H7 m5 uu Cv S5 c5 yl
   have MZ:=I7.pinned (KY H7 RQ) (T.obj _ _ KZ)
   have Ve:=e5.trans eY
   have ed:ws.drop k=ws[k]::ws.drop (k+1):=ph hlt
   rw[ed] at aR
   unfold gg at aR
   cases ep:yD (x::xr).length ws[k] with
   | none=>rw[ep] at aR;cases aR
   | some us=>
   rw[ep] at aR
   dsimp only at aR
   have ht:ws[k]= .tup us/\us.length=(x::xr).length:=by
    cases eb:ws[k] with
    | tup vs=>
     rw[eb] at ep
     replace ep:(if vs.length=(x::xr).length then some vs else none)=some us:=ep
     by_cases cl:vs.length=(x::xr).length
     ·rw[if_pos cl] at ep;cases ep;exact⟨rfl,cl⟩
     ·rw[if_neg cl] at ep;cases ep
    | _=>rw[eb] at ep;cases ep
   rw[ht.1] at OP
   unfold aj at OP
   obtain⟨tb,ys,rfl,f1,Vf⟩:=OP
   have W0:sU (cZ 0 (x::xr).length) us (aG (x::xr).length none++ρc)=some (us.map some++ρc):=by
    have q:=HZ us [] (aG (x::xr).length none) ρc (by rw[kz];exact ht.2.symm)
    rw[ht.2] at q
    exact q
   have asg:=v_ (X:=Xc) (k:=kt) (pos:=pt) hc (jP S.nd Se) (lJ Se) (jQ Se) ([]++di fp s7.heap) s7 σ5 H7 (.ref tb) u (λσ' H'=>H'=H7/\av X.K m5 H' (us.map some++ρc) σ') MZ rv ⟨tb,ys,rfl,dh.of f1,by rw[<-Vf.length,ht.2];simp,lI (X:=Xc) Vf (R5.mono eY) W0 λσ' R'=>⟨rfl,R'⟩⟩
   refine ZJ asg (λ_ s8 h8=>?_) λ_ _ z=>aa z
   obtain⟨σ8,H8,Qm,rfl,R8⟩:=h8
   have back:∀{H':Hp}{s':Zp}{m':Mp}{st:Hs},Inv Xc ([]++di fp s7.heap) σ8 H' s'->Ext X.K m3 H3 m' H'->Ext X.K m5 H8 m' H'->aQ X.K m' st H'->ck st->gg ck (x::xr).length (λw=>gt (w.map some++ρc)) (λw=>ge (w.map some++ρc)) st1.length (ws.drop (k+1)) st=some lK->∃n',n' < ws.length - k/\∃k',n'=ws.length - k'/\k'<=ws.length/\Pv k' s' :=
    λ{H' s' m' st} I' e' e8 S' c' r'=>⟨ws.length - (k+1),by omega,k+1,rfl,hlt,σ8,H',st,m',I'.jj,by have q:=Sd (R8.mono e8);rw[ht.2] at q;exact q,T.keep _ _ _ KZ λb hb o e=>(I'.pin (b,o) (cW _ (cW _ (eG hb e)))).1,λb hb=>by
     obtain⟨o,e,_⟩:=T.obj _ _ KZ b hb
     exact(I'.pin (b,o) (cW _ (cW _ (eG hb e)))).2.1,e',S',c',r'⟩
   cases eg:gt (us.map some++ρc) uu with
   | err c A9=>rw[eg] at aR;cases aR
   | bad=>rw[eg] at aR;cases aR
   | ok b A9=>
    rw[eg] at aR
    have HG:=hT s3.heap.objs.size s3 H3 (X.pn++pins) (us.map some++ρc) uu σ8 H8 m5 (λb' H'=>b'=b/\∃m',Ext X.K m5 H8 m' H'/\aQ X.K m' A9 H') S7 R8 (by rw[eg];exact λm' H' e' S'=>⟨rfl,m',e',S'⟩) ([]++di fp s7.heap) s8 Qm
    refine ZJ HG (λok s9 h9=>?_) λ_ _ z=>aa z
    obtain⟨H9,I9,rfl,m9,e9,S9⟩:=h9
    cases ok with
    | false=>
     dsimp only at aR
     by_cases c6:ck A9
     ·rw[if_pos c6] at aR
      rw[if_neg cw]
      exact back I9 (Ve.trans e9) e9 S9 c6 aR
     ·rw[if_neg c6] at aR;cases aR
    | true=>
     dsimp only at aR
     rw[if_pos rfl]
     cases ee:ge (us.map some++ρc) A9 with
     | err c FQ=>rw[ee] at aR;cases aR
     | bad=>rw[ee] at aR;cases aR
     | ok w FQ=>
      rw[ee] at aR
      dsimp only at aR
      cases ea:j' (.ref st1.length) w FQ with
      | err c K3=>rw[ea] at aR;cases aR
      | bad=>rw[ea] at aR;cases aR
      | ok w2 K3=>
       rw[ea] at aR
       dsimp only at aR
       by_cases c8:ck K3
       ·rw[if_pos c8] at aR
        have el:=hE s3.heap.objs.size s3 H3 (X.pn++pins) (us.map some++ρc) A9 σ8 H9 m9 (λv' H'=>∃m',Ext X.K m9 H9 m' H'/\aQ X.K m' FQ H'/\aj X.K m' H' w v') S9 (R8.mono e9) (by rw[ee];exact λv' m' H' e' S' r'=>⟨m',e',S',r'⟩) ([]++di fp s7.heap) s9 I9
        refine ZJ el (λu2 yg OQ=>?_) λ_ _ z=>aa z
        obtain⟨v2,A_,RS,r2,K4,FR,RT,K5⟩:=OQ
        obtain⟨r,h1,h2⟩:=wQ (X:=Xc)
        have eA:=(Ve.trans e9).trans FR
        have ro:aj X.K K4 A_ (.ref st1.length) (.ref D):=by unfold aj;exact⟨D,rfl,eA.pre _ _ FP⟩
        have rd:=h2 (.ref st1.length) w (.ref D) v2 FQ A_ K4 (λ_ H'=>∃m',Ext X.K K4 A_ m' H'/\aQ X.K m' K3 H') RT ro K5 (by rw[ea];exact λv' m' H' e' S' r'=>⟨m',e',S'⟩)
        refine ZJ (h1 ([]++di fp s7.heap) yg σ8 A_ (.ref D) [v2] (.ref D) [u2] _ RS rfl (.cons r2 .nil) rd) (λ_ EF h11=>?_) λ_ _ z=>aa z
        obtain⟨_,RU,RV,_,WL,M0,RW⟩:=h11
        exact back RV (eA.trans M0) ((e9.trans FR).trans M0) RW c8 aR
       ·rw[if_neg c8] at aR;cases aR
  ·have ek:k=ws.length:=by omega
   subst ek
   refine bH (T.done Xc rfl rfl rfl hc _ [] s5 σ5 H5 _ I5 (KY H5 Jo) OO (hstop _ H5 m5 uu Cv S5 c5 rfl)) λr s6 h6=>?_
   obtain⟨rfl,I6⟩:=h6
   rw[pj] at aR
   cases aR
   obtain⟨mm,RX,_⟩:=id I6.loc
   have fC:=I3.nM (H':=H5) (ak _) I6.free
   exact fin D _ mm m5 H5 _ Cv S5 (e5.pre _ _ FP) (Sb I3 f3 I6) fC RX fC.2.2.2.2.1
 have Rn:av X.K m3 H3 (aG (x::xr).length none++ρc) (aG (x::xr).length none++σc):=by
  refine⟨by rw[dk,dk,R3.len];simp,λi w e=>?_⟩
  by_cases hi:i < (x::xr).length
  ·rw[dj (by rw[kz];exact hi),sm,if_pos hi] at e
   cases e
  ·rw[ic (by rw[kz];omega),kz] at e ⊢
   exact R3.get _ w e
 have p0:Pv 0 { s3 with heap:=h4,toks:=s3.toks+([]:List (Str×Zq)).length }:=⟨_,H3,st1++[Ob.lst []],m3,Ic,Rn,t4,λb hb=>(f3 b hb).1,Ext.refl,S3,hck,by rw[il];exact run⟩
 exact codeAny_compStart_list (loop _ p0) (T.self X.A 0 _ _ _ t4 (loop _ p0))
def ju(n:Nat)(cs:dm)(gt:GT)(ge:GE)(ρ:bA)(w:HX)(st:Hs):Re Wv:=match gg (qJ w.1) n (λv=>gt (v.map some++cL cs ρ)) (λv=>ge (v.map some++cL cs ρ)) st.length w.2 (st++[.lst []]) with
 | some lK=> .ok (.ref st.length) lK
 | none=> .bad
def kK(n:Nat)(cs:dm)(gi:C0)(gt:GT)(ge:GE):GE:=λρ st=>(gi ρ st).bind λw st1=>ju n cs gt ge ρ w st1
theorem tw{c:Option (Nat×List Wv)}{st more:Hs}(h:qJ c st):qJ c (st++more):=by
 cases c with
 | none=>trivial
 | some p=>exact rD h
theorem u5{scope:Scope}{x:Str}{xr:List Str}{cs:dm}{es:List Expr}{kt:Nat}{pt pos:Pos}{elt iter:Expr}{ifs:List Expr}{gi:C0}{gt:GT}{ge:GE}{use:Option (Zq->Sem Unit)}{Q:Zq->Zp->Prop}{P:Wv->Hs->Prop}
  {ρ:bA}{st:Hs}{σ:St}{H:Hp}{m:Mp}{pins:List (Zk×Obj)}{s:Zp}{ps:Pos}
  (CS:jV X scope x xr cs)(sl:dS es (x::xr))(hc:X.calm=true)(hi:HY X (.Tuple es kt pt) iter gi)(hE:∀C s0 H0 fp pn,JE (dR X scope (x::xr) cs C s0 H0 fp pn) elt ge)(hT:∀C s0 H0 fp pn,Ac (dR X scope (x::xr) cs C s0 H0 fp pn) ifs gt)(hs:∀x,Zy iter X.env x=pure x)
  (S:aQ X.K m st H)(R:av X.K m H ρ σ)(I:Inv X pins σ H s)(p:au X σ m H (kK (x::xr).length cs gi gt ge ρ st) P)
  (fin:∀(w:Wv)(lK:Hs)(v:V)(D C:Zk)(mm:Str->Option Zq)(m':Mp)(H':Hp)(s':Zp),P w lK->Ext X.K m H m' H'->aQ X.K m' lK H'->aj X.K m' H' w v->v= .ref D->Inv X pins σ H' s'->cG X pins H' C->s'.heap.Ns C mm->Zw (model X.prog X.w) X.A X.xe use Q (.ref D) C (.ok .next) s') :
  ZG (model X.prog X.w) X.A (comprehension (.ListComp elt [⟨.Tuple es kt pt,iter,ifs,0⟩] scope pos) scope X.env ps (newList []) false (eval iter X.env) use) Q X.xe s:=by
 obtain⟨wi,OT,hw⟩:=hi
 let R':It->Hp->Prop:=λJ' H1=>∃(w:HX)(st1:Hs)(m1:Mp),au X σ m H (ju (x::xr).length cs gt ge ρ w st1) P/\Ext X.K m H m1 H1/\aQ X.K m1 st1 H1/\qJ w.1 st1/\CZ X w m1 H1 J'
 have hr:=hw ρ st σ H m R' S R ((au.bind p).imp Ext.refl λw st1 q m1 H1 J' e1 S1 c1 qv=>⟨w,st1,m1,q,e1,S1,c1,qv⟩)
 refine wpAny_comprehension_free (g:=⟨.Tuple es kt pt,iter,ifs,0⟩) (gs:=[]) (cl:=kg X.env scope.names []) rfl hs (yd (CS.one.has I.ok)) CS.one.kind (λy hy e=>by rw[CS.one.look y hy,e]) (bH (OT pins s σ H R' I hr) λv s1 h1=>bH h1 λitv s2 h2=>?_)
 obtain⟨it,fp,tn,J',H1,rfl,I2,T,t0,f2,w,st1,m1,q,e1,S1,c1,qv⟩:=h2
 unfold ju at q
 cases run:gg (qJ w.1) (x::xr).length (λv=>gt (v.map some++cL cs ρ)) (λv=>ge (v.map some++cL cs ρ)) st1.length w.2 (st1++[.lst []]) with
 | none=>rw[run] at q;exact aa q
 | some lK=>
  rw[run] at q
  refine u0 (RR:=λacc C=>Zw (model X.prog X.w) X.A X.xe use Q acc C) CS sl hc I2 T t0 f2 S1 (R.mono e1) (tw c1) run (λC s0 H0 pn=>hE C s0 H0 fp pn) (λC s0 H0 pn=>hT C s0 H0 fp pn) qv.go qv.stop qv.sg ?_
  intro D C mm m' H' s' e' S' FP I' fC ns _
  exact fin _ lK (.ref D) D C mm m' H' s' q (e1.trans e') S' (by unfold aj;exact⟨D,rfl,FP⟩) rfl I' fC ns
theorem u6{scope:Scope}{x:Str}{xr:List Str}{cs:dm}{es:List Expr}{kt:Nat}{pt pos:Pos}{elt iter:Expr}{ifs:List Expr}{gi:C0}{gt:GT}{ge:GE}
  (CS:jV X scope x xr cs)(sl:dS es (x::xr))(hc:X.calm=true)(hi:HY X (.Tuple es kt pt) iter gi)(hE:∀C s0 H0 fp pn,JE (dR X scope (x::xr) cs C s0 H0 fp pn) elt ge)(hT:∀C s0 H0 fp pn,Ac (dR X scope (x::xr) cs C s0 H0 fp pn) ifs gt)(hs:∀x,Zy iter X.env x=pure x) :
  JE X (.ListComp elt [⟨.Tuple es kt pt,iter,ifs,0⟩] scope pos) (kK (x::xr).length cs gi gt ge):=λρ st σ H m Q S R p pins s I=>by
 rw[eval_ListComp]
 refine u5 (use:=none) CS sl hc hi hE hT hs S R I p ?_
 intro w lK v D C mm m' H' s' q e' S' rw' ev I' fC ns
 exact⟨mm,ns,λh' same=>⟨.ref D,H',jR I' fC same,rfl,ev ▸ q v m' H' e' S' rw'⟩⟩
theorem C3(i:Nat){scope:Scope}{x y:Str}{xr:List Str}{cs:dm}{es:List Expr}{kt:Nat}{pt pos spos py:Pos}{elt iter:Expr}{ifs:List Expr}{gi:C0}{gt:GT}{ge:GE}(hN:X.N.Nodup)
  (CS:jV X scope x xr cs)(sl:dS es (x::xr))(hc:X.calm=true)(hi:HY X (.Tuple es kt pt) iter gi)(hE:∀C s0 H0 fp pn,JE (dR X scope (x::xr) cs C s0 H0 fp pn) elt ge)(hT:∀C s0 H0 fp pn,Ac (dR X scope (x::xr) cs C s0 H0 fp pn) ifs gt)(hs:∀x,Zy iter X.env x=pure x)
  (hx:X.N[i]? =some y)(hl:Loc X.env.scope y)(hf:X.fn y=true\/X.env.scope.names.lookup y=some .local) :
  JS X (.Assign [.Name y py] (.ListComp elt [⟨.Tuple es kt pt,iter,ifs,0⟩] scope pos) spos) (bQ i (kK (x::xr).length cs gi gt ge)):=by
 have sw:∃b,swapsWith (.ListComp elt [⟨.Tuple es kt pt,iter,ifs,0⟩] scope pos) (some (.Name y py)) spos.line X.env=pure b:=⟨_,rfl⟩
 obtain⟨b,sw⟩:=sw
 cases b with
 | false=>exact wL i hN (u6 CS sl hc hi hE hT hs) hx hl sw hf
 | true=>
  intro ρ st σ H m D S R p pins s I
  rw[exec_Assign_Name_used _ _ _ _ sw]
  refine ZH (wpAny_standAt (ZH ?_))
  show ZG _ X.A (do let _ <-comprehension (.ListComp elt [⟨.Tuple es kt pt,iter,ifs,0⟩] scope pos) scope X.env _ (newList []) false (eval iter X.env) (some (assign (.Name y py) X.env))) _ _ s
  refine ZH (ZJ (u5 (use:=some (assign (.Name y py) X.env)) (Q:=λ_ s'=>SP X pins D .next s') CS sl hc hi hE hT hs S R I (aK.dO R p) ?_) (λ_ s' hq=>ZM (ZM hq)) λ_ _ e=>e)
  intro w lK v D' C mm m' H' s' q e' S' rw' ev I' fC ns
  refine wpAny_assign_Name (mf (i:=i) I' hN hx hl (show RelV v (.ref D') by rw[ev];rfl) (λs2 I2 h2=>?_) hf)
  obtain⟨a,sb,ha⟩:=h2
  have hca:C≠a:=by
   rcases ha with z | z
   ·rw[z];exact fC.2.1
   ·exact bg (fC.2.2.2.2.1 y a z)
  exact⟨mm,ns.sameBut sb hca,λh' same=>⟨_,_,jR I2 fC same,q _ m' H' e' S' ((R.mono e').set i rw')⟩⟩
end
section
variable {X:Cx}
theorem C4{ob:Expr}{name:Str}{id:String}{e:Expr}{go ga:GE}{apos cpos:Pos}{mt:Wv->Wv->Hs->Re Wv}(hm:KQ X id mt)(slot:Slot "list" name id)(hty:typeOf (.builtin id)=pure (.type "method_descriptor"))(hbase:attributeBase ob name X.env (eval ob X.env)=eval ob X.env)(ho:JE X ob go)(ha:JE X e ga)
  (hst:ZF [e] X.env=[(false,eval e X.env)])(hline:(apos.endLine == cpos.line)=true):JE X (.Call (.Attribute ob name apos) [e] [] cpos) (i7 mt go ga):=by
 obtain⟨r,h1,h2⟩:=hm
 have hfew:((backTo cpos (ZF [e] X.env)).all (λx=> !x.1)&&(backToKw cpos (keywordEach [] X.env)).all (λx=>x.1.isSome)&&decide ([e].length+([]:List Keyword).length+(if([]:List Keyword).isEmpty then 0 else 1) < 30))=true:=by
  rw[hst];rfl
 refine JE.of (xX PySem.F.plainAttrs_list slot hty h1 aU fZ hbase hfew hline hst rfl) λρ st σ H m Q S R p=>?_
 refine ho.go S R (au.bind p) λo st1 v m1 H1 p1 e1 S1 ro=>?_
 cases o with
 | ref l=>
  dsimp only at p1
  cases el:ai st1 l with
  | none=>rw[el] at p1;exact aa p1
  | some WG=>
   rw[el] at p1
   dsimp only at p1
   have HS:=ro
   unfold aj at HS
   obtain⟨a,rfl,hla⟩:=HS
   obtain⟨xs,hq,_⟩:=S1.read hla el
   refine⟨.inl ⟨rfl,xs,hq⟩,?_⟩
   refine(n9 ha sM hst).go S1 (R.mono e1) (ok:=λws st2=>au X σ m H (match ws with | [w]=>(mt (.ref l) w st2).je | _=> .bad) (BM X.K m H Q)) ?_ λws st2 vs m2 H2 p2 e2 S2 rs=>?_
   ·have p3:=(au.bind p1).imp e1 (λ_ _ q=>q)
    show au X σ m1 H1 ((ga ρ st1).bind λx st1=>(aq ρ st1).bind λxs st2=> .ok (x::xs) st2) _
    cases eg:ga ρ st1 with
    | ok w st2=>rw[eg] at p3;exact p3
    | err c st2=>rw[eg] at p3;exact p3
    | bad=>rw[eg] at p3;exact p3
   ·match ws,rs,p2 with
    | [],rs,p2=>exact aa p2
    | [w],rs,p2=>
     obtain⟨v2,rfl,OE⟩:=jc rs
     exact h2 (.ref l) w (.ref a) v2 st2 H2 m2 Q S2 (aj.mono e2 _ _ ro) OE (cb.shift (au.je p2) (e1.trans e2))
    | _::_::_,rs,p2=>exact aa p2
 | _=>exact aa p1
end
section
open PySem.SeqAt PySem.MeetsSeq PySem.MeetsSeq2 PySem.MeetsSeq3
theorem u7(p:Zk)(its:Array Zq)(n:Nat)(dd:Option Zk)(sl:Array (Option Zq))(x:Zq)(e:Zq->Bool)(j:Nat)(hj:j < its.size)(hit:e its[j]=true)(hno:∀m (hm:m < its.size),m < j->e its[m]=false) :
  Meets (Builtin.«tuple.index» ⟨[.ref p,x],[]⟩)
   (λA R s=>s.heap.get? p=some { cls:=.type "tuple",dict:=dd,data:=.seq its n,slots:=sl }/\(∀y,y∈its->EqAt A.in1 s y x (e y))/\R (.ok (.ret (.int j s.toks))) { s with toks:=s.toks+1 }) :=
 .of_wp λprog w A R s hh=>by
  obtain⟨hp,g,d,tk,os⟩:=s
  obtain⟨gp,he,hr⟩:=hh
  have sb:=Br
  wp_walk using PySem.AutoSeq1.wpAny_loadPart' gp
  rw[Nat.min_self]
  show ZG (model prog w) A.in1 (forIn [:its.size] (none,()) (λ(i:Nat)(__s:Option PySem.Fin×Unit)=>match its[i]? with
      | some y=>do
       let __do_lift <-eqBool y x
       if __do_lift=true then do
         let __do_lift <-retInt i
         pure (ForInStep.done (some __do_lift,()))
        else pure (kG (none,()))
      | x=>pure (kG (none,())))) _ _ _
  rw[Std.Legacy.Range.forIn_eq_forIn_range']
  simp only[Std.Legacy.Range.size,Nat.sub_zero,Nat.add_sub_cancel,Nat.div_one]
  refine wpAny_forIn_list _ (λrest b s'=>b.1=none/\s'=⟨hp,g,d,tk,os⟩/\∃i,i<=j/\rest=cZ i (its.size - i)) _ ?_ ?_ _ _ ⟨rfl,rfl,0,bF _,by simp⟩
  ·rintro y rest b s' ⟨e0,rfl,i,hi,er⟩
   have hlt:i < its.size:=by omega
   obtain⟨rfl,Sf⟩:y=i/\rest=cZ (i+1) (its.size - (i+1)):=by
    have q:its.size - i=(its.size - (i+1))+1:=by omega
    rw[q,tD] at er
    injection er with h1 h2
    exact⟨h1,h2⟩
   rw[HV hlt]
   dsimp only
   refine ZH (he _ (Array.getElem_mem hlt) prog w _ _ ?_)
   by_cases cj:y=j
   ·subst cj
    rw[hit,if_pos rfl]
    wp_walk
    exact⟨_,rfl,hr⟩
   ·rw[hno y hlt (by omega),if_neg cw]
    exact ZM ⟨rfl,rfl,y+1,by omega,Sf⟩
  ·rintro b s' ⟨e0,rfl,i,hi,er⟩
   exfalso
   have:its.size - i=0:=by
    have:=congrArg wj er
    simpa using this.symm
   omega
end
section
variable {X:Cx}
def pQ(mt:Wv->Wv->Hs->Re Wv)(go ga:GE):GE:=λρ st=>(go ρ st).bind λo st1=>match o with
 | .tup us=>(ga ρ st1).bind λv st2=>(mt (.tup us) v st2).je
 | _=> .bad
theorem C5{ob:Expr}{name:Str}{id:String}{e:Expr}{go ga:GE}{apos cpos:Pos}{mt:Wv->Wv->Hs->Re Wv}(hm:KQ X id mt)(slot:Slot "tuple" name id)(hty:typeOf (.builtin id)=pure (.type "method_descriptor"))(hbase:attributeBase ob name X.env (eval ob X.env)=eval ob X.env)(ho:JE X ob go)(ha:JE X e ga)
  (hst:ZF [e] X.env=[(false,eval e X.env)])(hline:(apos.endLine == cpos.line)=true):JE X (.Call (.Attribute ob name apos) [e] [] cpos) (pQ mt go ga):=by
 obtain⟨r,h1,h2⟩:=hm
 have hfew:((backTo cpos (ZF [e] X.env)).all (λx=> !x.1)&&(backToKw cpos (keywordEach [] X.env)).all (λx=>x.1.isSome)&&decide ([e].length+([]:List Keyword).length+(if([]:List Keyword).isEmpty then 0 else 1) < 30))=true:=by
  rw[hst];rfl
 refine JE.of (xX PySem.F.plainAttrs_tuple slot hty h1 aU fZ hbase hfew hline hst rfl) λρ st σ H m Q S R p=>?_
 refine ho.go S R (au.bind p) λo st1 v m1 H1 p1 e1 S1 ro=>?_
 cases o with
 | tup us=>
   dsimp only at p1
   have HS:=ro
   unfold aj at HS
   obtain⟨a,xs,rfl,hq,_⟩:=HS
   refine⟨.inr (.inl ⟨rfl,.inr ⟨xs,hq⟩⟩),?_⟩
   refine(n9 ha sM hst).go S1 (R.mono e1) (ok:=λws st2=>au X σ m H (match ws with | [w]=>(mt (.tup us) w st2).je | _=> .bad) (BM X.K m H Q)) ?_ λws st2 vs m2 H2 p2 e2 S2 rs=>?_
   ·have p3:=(au.bind p1).imp e1 (λ_ _ q=>q)
    show au X σ m1 H1 ((ga ρ st1).bind λx st1=>(aq ρ st1).bind λxs st2=> .ok (x::xs) st2) _
    cases eg:ga ρ st1 with
    | ok w st2=>rw[eg] at p3;exact p3
    | err c st2=>rw[eg] at p3;exact p3
    | bad=>rw[eg] at p3;exact p3
   ·match ws,rs,p2 with
    | [],rs,p2=>exact aa p2
    | [w],rs,p2=>
     obtain⟨v2,rfl,OE⟩:=jc rs
     exact h2 (.tup us) w (.ref a) v2 st2 H2 m2 Q S2 (aj.mono e2 _ _ ro) OE (cb.shift (au.je p2) (e1.trans e2))
    | _::_::_,rs,p2=>exact aa p2
 | _=>exact aa p1
theorem Ax:Hx X "tuple.index" (λx xs H Q=>∃(p:Zk)(ys:List V)(y:V)(j:Nat),x= .ref p/\xs=[y]/\dh X.K H p ys/\eE y=true/\ys.all eE=true/\ys.findIdx? (λz=>uz z y)=some j/\Q (.int (j:Nat)) H):=by
 intro pins s σ H x xs v us Q I rx rv h
 obtain⟨p,ys,y,j,rfl,rfl,hq,fy,fs,hj,q⟩:=h
 cases rx
 obtain⟨u,rfl,ru⟩:=vals1 rv
 obtain⟨its,r,pl,hz⟩:=I.tuple hq
 have hlen:=r.length
 obtain⟨⟨cl,dd,dt,sl⟩,ho,hc,n,hd⟩:=pl
 dsimp only at hc hd
 subst hc;subst hd
 rw[CN] at hj
 obtain⟨hj1,hj2,R6⟩:=hj
 have at':∀(k:Nat)(h:k < ys.length)(h':k < its.length),qD y its[k]=uz ys[k] y:=by
  intro k h h'
  obtain⟨w,hw,rw'⟩:=r.get (cq h)
  rw[cq h'] at hw
  cases hw
  exact oU rw' (List.all_eq_true.mp fs _ (pK h))
 refine call_meets PySem.F.slot_tuple_index ⟨_,ho,rfl⟩ PySem.F.entry_tuple_index (PySem.F.args_tuple_index_2 _ _) (u7 p its.toArray n dd sl u (qD y) j (by simp;omega) ?_ ?_) ⟨ho,λw hw=>fe ru fy r fs w (by simpa using hw),⟨.int _,H,I.tok _,⟨_,rfl⟩,q⟩⟩
 ·rw[wX,at' j hj1 (by omega)];exact hj2
 ·intro m hm hlt
  rw[wX,at' m (by omega) (by omega)]
  simpa using R6 m hlt
def jW(o v:Wv)(st:Hs):Re Wv:=match o with
 | .tup ws=>if bG v=true/\ws.all bG=true then(match ws.findIdx? (λz=>vW z v) with | some j=> .ok (.int (j:Nat)) st | none=> .bad) else .bad
 | _=> .bad
theorem Ay:KQ X "tuple.index" jW:=⟨_,Ax,λo w x v st H m Q S ro rw' p=>by
 cases o with
 | tup ws=>
  unfold aj at ro
  obtain⟨a,xs,rfl,q1,q2⟩:=ro
  unfold jW at p
  dsimp only at p
  by_cases c:bG w=true/\ws.all bG=true
  ·rw[if_pos c] at p
   cases ej:ws.findIdx? (λz=>vW z w) with
   | none=>rw[ej] at p;exact aa p
   | some j=>
    rw[ej] at p
    exact⟨a,xs,v,j,rfl,rfl,dh.of q1,f' rw' c.1,iQ q2 c.2,by rw[pL rw' c.1 q2 c.2];exact ej,p _ m H Ext.refl S mkInt⟩
  ·rw[if_neg c] at p;exact aa p
 | _=>exact aa p⟩
end
section
variable {X:Cx}
end
section
variable {X:Cx}
def C6(kvs:Dc)(gk gx:GE):GE:=λρ st=>(gk ρ st).bind λk st1=>(gx ρ st1).bind λx st2=>match k with
 | .str z=> .ok ((kvs.lookup z).getD x) st2
 | _=> .bad
theorem C7{e f:Expr}{gk gx:GE}{x:Str}{p apos cpos:Pos}{kvs:Dc}(he:JE X e gk)(hf:JE X f gx)(M:M2 X (.Name x p) "get" apos e f cpos)(hg:Gl X x)(hd:(x == ("__debug__":Str))=false)(D:uW X.K X.w X.mg x kvs):JE X (.Call (.Attribute (.Name x p) "get" apos) [e,f] [] cpos) (C6 kvs gk gx):=by
 intro ρ st σ H m Q S R pp pins s I
 obtain⟨a,es,ep,g1,g2,g3,g4,g5⟩:=D
 have k1:=he.go (T:=λy H2=>∃k st1 m1,dg X σ m H ((gx ρ st1).bind λx st2=>match k with | .str z=> .ok ((kvs.lookup z).getD x) st2 | _=> .bad) Q/\Ext X.K m H m1 H2/\aQ X.K m1 st1 H2/\aj X.K m1 H2 k y) S R (au.bind pp) λw st1 v m1 H1 p1 e1 S1 rw'=>⟨w,st1,m1,p1,e1,S1,rw'⟩
 refine wpAny_Call_method M.base M.few M.line PySem.F.plainAttrs_dict PySem.F.slot_dict_get PySem.F.type_dict_get (bH (iK (v:=.ref a) hg g1 rfl hd pins s σ H (λv H2=>v= .ref a/\H2=H) I ⟨rfl,rfl⟩) λu s1 ⟨v,H1,I1,rv,ev,eH⟩=>?_)
 subst ev
 cases eH
 obtain rfl:u=cV a:=rv
 refine⟨⟨_,I1.zt _ _ g2,rfl⟩,λa' e=>by cases e;exact⟨_,I1.zt _ _ g2,rfl⟩,?_⟩
 rw[M.trees]
 refine JR rfl (Bx (mq (bH (k1 pins s1 I1) λiv s2 ⟨y,H2,I2,ry,k,st1,m1,p1,e1,S1,rk⟩=>?_)))
 have k2:=hf.go (T:=λz H3=>∃x' st2 m2,dg X σ m H (match k with | .str z=> .ok ((kvs.lookup z).getD x') st2 | _=> .bad) Q/\Ext X.K m H m2 H3/\aQ X.K m2 st2 H3/\aj X.K m2 H3 x' z) S1 (R.mono e1) ((au.bind p1).imp e1 λ_ _ q=>q) λw st2 v m2 H3 p2 e2 S2 rw'=>⟨w,st2,m2,p2,e1.trans e2,S2,rw'⟩
 refine mq (bH (k2 pins s2 I2) λfv s3 ⟨z,H3,I3,rz,x',st2,m2,p2,e2,S2,rx⟩=>oO ?_)
 cases k with
 | str zs=>
  obtain⟨rfl,_⟩:=dP rk
  obtain⟨t,rfl⟩:=(show ∃t,iv=rZ zs t from ry)
  obtain⟨vs,dd,look⟩:=yv (P:=X.prog) (w:=X.w) I3.zt g2 g4 g5
  refine call_meetsIn PySem.F.slot_dict_get dd.typeIs PySem.F.entry_dict_get (PySem.F.args_dict_get_3 _ _ _) (meets_dict_get_default (PySem.strKind X.prog X.w) a (strKind_is X.prog X.w zs t) g3 fv) ⟨_,dd.mapOf,?_⟩
  have p2':BM X.K m H Q ((kvs.lookup zs).getD x') st2:=p2
  cases e:kvs.lookup zs with
  | none=>
   rw[e] at p2'
   have q:=(look zs).1 e
   show EP X pins σ Q ((valueAt vs zs).getD fv) _
   rw[q]
   exact⟨z,H3,I3.tok _,rz,p2' z m2 H3 e2 S2 rx⟩
  | some u=>
   rw[e] at p2'
   obtain⟨u',q1,q2⟩:=(look zs).2 u e
   show EP X pins σ Q ((valueAt vs zs).getD fv) _
   rw[q1]
   cases u with
   | int i=>exact⟨.int i,H3,I3.tok _,q2,p2' _ m2 H3 e2 S2 (by unfold aj;rfl)⟩
   | str y=>exact⟨.str y,H3,I3.tok _,q2.1,p2' _ m2 H3 e2 S2 (by unfold aj;exact⟨rfl,q2.2⟩)⟩
   | _=>exact aa q2
 | _=>exact aa p2
end
section
variable {X:Cx}
theorem C8:dN X (Zt .Mult) (λx y H Q=>∃z n,x= .str z/\y= .int n/\(n=0\/n=1)/\Q (.str (if n=0 then PySem.Str.empty else z)) H):=by
 intro pins s σ H x y v u Q I rx ry h
 obtain⟨z,n,rfl,rfl,hn,q⟩:=h
 obtain⟨t,rfl⟩:=rx
 obtain⟨t',rfl⟩:=ry
 rcases hn with rfl | rfl
 ·exact PySem.P.mul_str_none (by omega) (by omega) ⟨.str PySem.Str.empty,H,I.tok _,⟨_,rfl⟩,q⟩
 ·refine PySem.P.mul_str (by decide) (λ_ h=>by cases h) (λ_ h=>by cases h) ?_
  rw[if_neg (by omega),if_pos (by rfl)]
  exact⟨.str z,H,I,⟨t,rfl⟩,q⟩
def dU:gv:=λx y st=>match x,y with
 | .str z,.int n=>if n=0\/n=1 then .ok (.str (if n=0 then PySem.Str.empty else z)) st else pE (.str z) (.int n) st
 | x,y=>pE x y st
theorem C9:jK X (Zt .Mult) dU:=by
 obtain⟨r,h1,h2⟩:=FU (X:=X)
 refine⟨_,dN.or C8 h1,λx y a b st H m Q S rx ry p=>?_⟩
 cases x with
 | str z=>
  cases y with
  | int n=>
   have p':cb X.K m H (if n=0\/n=1 then .ok (.str (if n=0 then PySem.Str.empty else z)) st else pE (.str z) (.int n) st) Q:=p
   by_cases c:n=0\/n=1
   ·rw[if_pos c] at p'
    obtain⟨rfl,ok⟩:=dP rx
    refine .inl ⟨z,n,rfl,a6 ry,c,p' _ m H Ext.refl S (mkStr ?_)⟩
    by_cases c0:n=0
    ·rw[if_pos c0];decide+kernel
    ·rw[if_neg c0];exact ok
   ·rw[if_neg c] at p'
    exact .inr (h2 _ _ _ _ st H m Q S rx ry p')
  | _=>exact .inr (h2 _ _ _ _ st H m Q S rx ry p)
 | _=>exact .inr (h2 _ _ _ _ st H m Q S rx ry p)
end
abbrev LF:=List Wv->List Wv->Hs->Re Wv
def gP(X:Cx)(H:Hp)(s:Zp):Heap:=PySem.W.hideAll (qx s.heap H) (frs X.stack)
section
variable {X:Cx} {pins:List (Zk×Obj)} {σ:St} {H:Hp} {s:Zp}
theorem O7{b:Zk}{o:Obj}(e:(gP X H s).get? b=some o):s.heap.get? b=some o/\H b=none:=xN (PySem.W.of_hideAll _ e)
theorem w9{b:Zk}{o:Obj}(e:s.heap.get? b=some o)(n:H b=none)(hf:b∉frs X.stack):(gP X H s).get? b=some o:=PySem.W.hideAll_get _ (kW e n) hf
theorem pR(I:Inv X pins σ H s):∀b o,X.base.get? b=some o->(gP X H s).get? b=some o:=λb o e=>by
 obtain⟨e1,e2⟩:=I.bs b o e
 refine w9 e1 e2 λz=>?_
 rcases List.mem_cons.mp (I.hV b z) with q | q
 ·have h1:X.base.get? b=none:=by
   rw[q]
   exact v9 (bE I.ok.A6 I.ok.above)
  rw[e] at h1;cases h1
 ·exact I.ok.Nf e q
theorem C_(I:Inv X pins σ H s):Mod X.K X.mg (gP X H s) :=
 ⟨I.mod.EM.keeps (pR I),I.mod.glob.keeps (pR I),let ⟨mb,h1,h2⟩:=I.mod.blt;⟨mb,h1.keeps (pR I),h2⟩,I.mod.nolimit.keeps (pR I)⟩
theorem yE{h B B':Heap}:∀{l:List Env},(∀env∈l,∀L,env.frame=some L->B'.get? L=none)->h.FunFrames B l->h.FunFrames B' l
 | [],_,_=>trivial
 | env::r,hn,⟨hk,⟨L,o,hf,_,ho,hd⟩,hr⟩=>⟨hk,⟨L,o,hf,hn env (.head _) L hf,ho,hd⟩,yE (λe he=>hn e (.tail _ he)) hr⟩
end
def Vg(K:PySem.W.Frag)(n:Nat)(p:Lm)(L:LF):Sp:=λvs H Q E=>∃m st ws caps,aQ K m st H/\af K m H ws vs/\af K m H caps p.xs/\H p.c=some (.ext (m_ p.c p.q))/\ws.length=n/\B5 K m H (L caps ws st) Q E
def w_(P:Zo)(w:Zr)(K:PySem.W.Frag)(mg:Str->Option Zq)(base:Heap)(k:Nat)(p:Lm)(n:Nat)(L:LF):Prop :=
 ∃fd ps ob,FnOk P w K mg base (CXJ P w) k p.a fd ps (Vg K n p L)/\base.get? p.a=some ob/\ob.data= .func fd/\Binds K fd ps []
open Classical in
section
variable {X:Cx}
end
def freeOf(sc:Scope):List Str:=(sc.names.filter λp=>decide (p.2= .free)).map (·.1)
abbrev tE(p:Lm)(scope:Scope)(L:Zk)(cl:List (Str×Zk)):Env:=PySem.W.envX p.q scope L p.a (.ref p.c) cl
def Dd(P:Zo)(w:Zr)(K:PySem.W.Frag)(mg:Str->Option Zq)(base:Heap)(N:List Str)(p:Lm)(scope:Scope)(cl:List (Str×Zk))(A:Zl)(outer:List Env)(s:Zp)(H:Hp)(E:XK):Cx where
 prog:=P
 w:=w
 K:=K
 mg:=mg
 base:=base
 A:=A.deeper (tE p scope s.heap.objs.size cl)
 N:=N
 s₀:=s
 H₀:=H
 env:=tE p scope s.heap.objs.size cl
 outer:=outer
 stack:=tE p scope s.heap.objs.size cl::outer
 ex:=[]
 fn:=λ_=>false
 calm:=true
 pn:=[]
 xe:=λe s'=>ZG (model P w) (A.deeper (tE p scope s.heap.objs.size cl)) (leaving (tE p scope s.heap.objs.size cl) e) (λ_ s''=>CXJ P w outer H s E e s'') (λe' s''=>CXJ P w outer H s E e' s'') s'
theorem De{y x:Str}{c c':Zk}(h:sX x [(y,c)]=some c'):x=y/\c'=c:=by
 rw[eK] at h
 cases q:x == y with
 | true=>rw[q] at h;cases h;exact⟨eq_of_beq q,rfl⟩
 | false=>rw[q] at h;cases h
theorem Df{l:List (Str×Zn)}{x:Str}(h:l.lookup x=some .free):x∈(l.filter λp=>decide (p.2= .free)).map (·.1) :=
 List.mem_map.mpr ⟨(x,.free),List.mem_filter.mpr ⟨PySem.mem_of_lookup h,by simp⟩,rfl⟩
section
variable {P:Zo} {w:Zr} {K:PySem.W.Frag} {mg:Str->Option Zq} {base:Heap} {p:Lm} {scope:Scope} {x1 x2 x3 y:Str} {cy:Zk}
theorem u9{N:List Str}{cl:List (Str×Zk)}{A:Zl}{outer:List Env}{s s':Zp}{H H':Hp}{E:XK}{σ:St}{c:PySem.Str}{e:Zq}
  (r:kE (Dd P w K mg base N p scope cl A outer s H E) σ H' c e s')(h:∀C,ClsAt K c C->E (.ref C) none H'):(Dd P w K mg base N p scope cl A outer s H E).xe e s':=by
 obtain⟨C,pins,Hc,sc,hC,I,r⟩:=r
 rcases r with fl | ⟨rfl,a,args,rfl,ho,hg,M⟩
 ·exact ni (X:=Dd P w K mg base N p scope cl A outer s H E) rfl rfl rfl I fl λs2 vX=>⟨H',C,vX,h C hC⟩
 ·exact pe (X:=Dd P w K mg base N p scope cl A outer s H E) rfl rfl rfl I ho hg M λs2 vX=>⟨H',C,vX,h C hC⟩
def O8(g:GE):LF:=λcaps ws st=>g (ws.map some++caps.map some) st
end
structure u_(X:Cx)(q:Str)(P:Zk):Prop where
 code:∃c,X.env.code= .ref c/\PySem.W.CodeHd X.base c P
 qual:X.env.qual=q++".<locals>."
 tab:bq X.K q=some P
 mem:q∈a8
 uniq:∀q',q'∈a8->bq X.K q'=some P->q'=q
 bm:∃bm ob,X.mg "__builtins__"=some (.ref bm)/\bm≠builtinsNs/\bm≠ZA/\X.base.get? bm=some ob/\ob.cls= .type "module"/\ob.dict=some builtinsNs/\ob.data= .plain
theorem H_{env:Env}{f:Str×Zn->List (Str×Zk)->Sem (ForInStep (List (Str×Zk)))}(hf:∀x k acc,k≠.free->f (x,k) acc=pure (.yield acc)) :
  ∀(l:List (Str×Zn))(acc:List (Str×Zk)),(l.filter λp=>decide (p.2= .free)).map (·.1)=[]->forIn l acc f=pure acc
 | [],acc,_=>by rw[List.forIn_nil]
 | (x,k)::l,acc,h=>by
  have hk:k≠.free:=λz=>by subst z;simp at h
  rw[sV,hf x k acc hk,pure_bind]
  refine H_ (env:=env) hf l acc ?_
  rw[tF (by simpa using hk)] at h
  exact h
theorem Ia{env:Env}{y:Str}{cy:Zk}{f:Str×Zn->List (Str×Zk)->Sem (ForInStep (List (Str×Zk)))}(hf:∀x k acc,k≠.free->f (x,k) acc=pure (.yield acc))(hg:∀acc,f (y,.free) acc=pure (.yield ((y,cy)::acc))) :
  ∀(l:List (Str×Zn))(acc:List (Str×Zk)),(l.filter λp=>decide (p.2= .free)).map (·.1)=[y]->forIn l acc f=pure ((y,cy)::acc)
 | [],acc,h=>by simp at h
 | (x,k)::l,acc,h=>by
  by_cases hk:k= .free
  ·subst hk
   rw[xa (by simp),aZ] at h
   obtain⟨e,h9⟩:=List.cons.inj h
   have e':x=y:=e
   subst e'
   rw[sV,hg acc,pure_bind]
   exact H_ (env:=env) hf l _ h9
  ·rw[sV,hf x k acc hk,pure_bind]
   refine Ia (env:=env) hf hg l acc ?_
   rw[tF (by simpa using hk)] at h
   exact h
theorem vb{scope:Scope}{env:Env}{y:Str}{cy:Zk}(h:freeOf scope=[y])(hc:env.cells.lookup y=some cy):closureFor scope env=pure [(y,cy)]:=by
 unfold closureFor
 dsimp only
 rw[Ia (env:=env) (y:=y) (cy:=cy) (λx k acc hk=>?_) (λacc=>?_) scope.names [] h,pure_bind]
 ·have:(k == cX)=false:=by simpa using hk
  simp only[this,pz,if_false]
 ·have e:cellOf env y=pure cy:=by unfold cellOf;rw[hc]
  simp[e]
theorem xb{pos pos':Pos}{c cv:Zq}(l:List Zq)(h:TriplesOk l)(e:codeAmong pos' (l++[rawInt pos.line,rawInt pos.col,c])=some cv):codeAmong pos' l=some cv\/cv=c:=by
 fun_induction TriplesOk l with
 | case1=>
  simp only[nX,rawInt,codeAmong] at e
  split at e
  ·exact .inr (Option.some.inj e).symm
  ·cases e
 | case2 a t b u x rest ih=>
  simp only[Dg,codeAmong] at e ⊢
  split at e
  ·rename_i q;rw[if_pos q];exact .inl e
  ·rename_i q;rw[if_neg q];exact ih h e
 | case3 l h1 h2=>exact h.elim
section
variable {X:Cx} {pins:List (Zk×Obj)} {σ:St} {H:Hp} {s:Zp} {q:Str} {P:Zk}
theorem Dh(I:Inv X pins σ H s)(T:kD X.K H)(D:u_ X q P){args:Arguments}{body:Expr}{scope:Scope}{jd:Pos}{y:Str}{cy:Zk}(hfr:freeOf scope=[y])(Lx:X.env.cells.lookup y=some cy){Q:Zq->Zp->Prop}{E:Zq->Zp->Prop}
  (h:∀(f c':Zk)(ctv:Zq)(H':Hp)(s':Zp),Inv X pins σ H' s'->s'.heap.get? f=some (PySem.W.kla_obj "<lambda>" (mC q) args body scope [(y,cy)] ((X.mg "__name__").getD .none) c' ctv)->H' f=none->f∉frs X.stack->
   H' c'=some (.ext (m_ c' (mC q)))->kD X.K H'->(∀b u,H b=some u->(∀ps,u≠.jf ps)->H' b=some u)->Q (.ref f) s') :
  ZG (model X.prog X.w) X.A (makeFunction "<lambda>" (X.env.qual++"<lambda>") args (.expr body) scope X.env [] [] [] jd jd.line) Q E s:=by
 obtain⟨c,hcode,CH⟩:=D.code
 obtain⟨ps,hP,htr,hits⟩:=T q P D.mem D.tab
 obtain⟨bm,ob,b1,b2,b3,b4,b5,b6,b7⟩:=D.bm
 have O9:s.heap.get? P=some (PySem.W.tabObj ps):=I.hok P _ hP
 have gl:s.heap.Ns ZA X.mg:=I.mod.glob.keeps I.bk
 have Vh:PySem.W.CodeHd s.heap c P:=CH.keeps I.bk
 have hgP:ZA≠P:=λz=>by
  obtain⟨o,es,ep,e,hd,_⟩:=gl
  rw[z,O9] at e;cases e;cases hd
 have W2:bm≠P:=λz=>by
  have e:=I.bk _ _ b4
  rw[z,O9] at e;cases e;cases b5
 have Vi:s.heap.BuiltinsAt X.mg P:=⟨bm,ob,b1,b2,b3,W2,I.bk _ _ b4,b5,b6,b7⟩
 have hcl:=vb (scope:=scope) (env:=X.env) hfr Lx
 have MY:∀a,s.heap.objs.size<=a->a∉frs X.stack:=λa ha z=>by
  rcases List.mem_cons.mp (I.hV a z) with e | e
  ·rw[e] at ha;exact absurd (aM I.lt ha) (bX _)
  ·exact I.Ng ha e
 have hq:X.env.qual++"<lambda>"=mC q:=by rw[D.qual];rfl
 rw[hq]
 cases hit:codeAmong jd ps.toList with
 | some cv=>
  obtain⟨c',rfl,hc'⟩:=hits jd cv hit
  refine PySem.W.kla_makeFunctionHit (mg:=X.mg) hcl I.ok.glob gl hcode Vh O9 htr hit Vi λctv h' tk hk hsz=>?_
  have k2:∀b o,s.heap.get? b=some o->(h'.push (PySem.W.kla_obj "<lambda>" (mC q) args body scope [(y,cy)] ((X.mg "__name__").getD .none) c' ctv)).get? b=some o:=λb o e=>aE _ (hk b o e)
  refine h h'.objs.size c' ctv H _ (I.un (Un.kept k2) (I.hok.kept k2)) (bY _ rfl) (I.hok.fresh hsz) (MY _ hsz) hc' T λb u e _=>e
 | none=>
  refine PySem.W.kla_makeFunction (mg:=X.mg) hcl I.ok.glob gl hcode Vh O9 htr hit hgP Vi λc' ctv h' tk hx hge hlt hrec htb=>?_
  have Vj:P < s.heap.objs.size:=ax O9
  have W3:c'≠P:=lg (aM Vj hge)
  have hnc:H c'=none:=I.hok.fresh hge
  have hfc:h'.objs.size≠c':=lg hlt
  have W4:h'.objs.size≠P:=lg (aM Vj (bE hge (iJ hlt)))
  have Vk:s.heap.objs.size<=h'.objs.size:=bE hge (iJ hlt)
  let ps':Array Zq:=ps++#[rawInt jd.line,rawInt jd.col,.ref c']
  let H':Hp:=upd (upd H P (.jf ps')) c' (.ext (m_ c' (mC q)))
  have Sg:H' c'=some (.ext (m_ c' (mC q))):=aL
  have at2:H' P=some (.jf ps'):=by show upd _ _ _ P=_;rw[aw (bg W3),aL]
  have M3:∀b,b≠c'->b≠P->H' b=H b:=λb n1 n2=>by show upd _ _ _ b=_;rw[aw n1,aw n2]
  have lT:∀b u,H b=some u->(∀ps,u≠.jf ps)->H' b=some u:=λb u e nt=>by
   rw[M3 b (aY e hnc) (λz=>by rw[z,hP] at e;cases e;exact nt _ rfl)];exact e
  have kp:∀b o,b≠P->s.heap.get? b=some o->(h'.push (PySem.W.kla_obj "<lambda>" (mC q) args body scope [(y,cy)] ((X.mg "__name__").getD .none) c' ctv)).get? b=some o:=λb o n e=>aE _ (hx b o n e)
  have Qp:∀b,H b=none->b≠P:=λb n z=>by rw[z,hP] at n;cases n
  have Ie:m_ c' (mC q) (h'.push (PySem.W.kla_obj "<lambda>" (mC q) args body scope [(y,cy)] ((X.mg "__name__").getD .none) c' ctv)):=by
   obtain⟨c₂,oc,vs,t,e2,hoc,hd,hv⟩:=hrec
   exact⟨c₂,oc,vs,t,e2,aE _ hoc,hd,hv⟩
  have Gb:j9 X.prog X.w H' (h'.push (PySem.W.kla_obj "<lambda>" (mC q) args body scope [(y,cy)] ((X.mg "__name__").getD .none) c' ctv)):=λa o e=>by
   by_cases e1:a=c'
   ·subst e1
    rw[Sg] at e
    cases e
    obtain⟨c₂,oc,vs,t,e2,hoc,hd,hv⟩:=id Ie
    cases e2
    refine⟨Ie,⟨oc,hoc⟩,λh1 h2 φ k=>?_⟩
    obtain⟨c₃,o3,W5,t3,e3,g1,g2,g3⟩:=φ
    cases e3
    exact⟨_,o3,W5,t3,rfl,k _ g1,g2,g3⟩
   ·by_cases e2:a=P
    ·subst e2
     rw[at2] at e
     cases e
     exact aE _ htb
    ·rw[M3 a e1 e2] at e
     refine(I.hok a o e).stay (λb u hb r=>kp b u ?_ r) (λb r=>lT b _ r (λ_ z=>by cases z)) λb xs r=>lT b _ r (λ_ z=>by cases z)
     rcases hb with rfl | hb
     ·exact e2
     ·exact λz=>by rw[z,hP] at hb;cases hb
  have T':kD X.K H':=λq2 P2 hq2 Vl=>by
   obtain⟨ps2,g1,g2,g3⟩:=T q2 P2 hq2 Vl
   by_cases e:P2=P
   ·subst e
    have eq:=D.uniq q2 hq2 Vl
    subst eq
    rw[hP] at g1
    cases g1
    refine⟨ps',at2,by simpa [ps'] using TriplesOk_snoc _ _ (.ref c') ps.toList g2,λpos cv e=>?_⟩
    have e':codeAmong pos (ps.toList++[rawInt jd.line,rawInt jd.col,.ref c'])=some cv:=by simpa [ps'] using e
    rcases xb ps.toList g2 e' with z | z
    ·obtain⟨c2,f1,f2⟩:=g3 pos cv z
     exact⟨c2,f1,lT _ _ f2 (λ_ z=>by cases z)⟩
    ·exact⟨c',z,Sg⟩
   ·refine⟨ps2,?_,g2,λpos cv e=>?_⟩
    ·rw[M3 P2 (aY g1 hnc) e];exact g1
    ·obtain⟨c2,f1,f2⟩:=g3 pos cv e
     exact⟨c2,f1,lT _ _ f2 (λ_ z=>by cases z)⟩
  have hL:X.env.locals≠P:=Qp _ I.free
  have I':Inv X pins σ H' { s with heap:=h'.push (PySem.W.kla_obj "<lambda>" (mC q) args body scope [(y,cy)] ((X.mg "__name__").getD .none) c' ctv),toks:=tk }:=by
   refine I.step (g':=s.gens) (d':=s.drawn) (ch:=[]) (λ_ z=>nomatch z) (λb o _ _ _ e n=>kp b o (Qp b n) e) (λb o _ _ _ e n=>⟨o.slots,kp b o (Qp b n) e⟩) (λb o _ e n=>?_) (λb o _ e=>?_)
    (λb xs e=>lT b _ e (λ_ z=>by cases z)) (λb o u e=>lT b _ e (λ_ z=>by cases z)) (λb ps2 e=>?_) (λm hm=>(hm.extBut hx hL).push _) Gb I.bare
   ·rw[M3 b (λz=>by rw[z] at e;exact absurd (aM (ax e) hge) (bX _)) (Qp b n)];exact n
   ·by_cases z:b=P
    ·exact⟨_,by rw[z];exact aE _ htb⟩
    ·exact⟨o,kp b o z e⟩
   ·by_cases z:b=P
    ·rw[z,hP] at e
     cases e
     exact⟨#[rawInt jd.line,rawInt jd.col,.ref c'],by rw[z];exact at2⟩
    ·exact⟨#[],by rw[M3 b (aY e hnc) z,e];simp⟩
  refine h h'.objs.size c' ctv H' _ I' (bY _ rfl) ?_ (MY _ Vk) Sg T' lT
  rw[M3 _ hfc W4]
  exact I.hok.fresh Vk
theorem aQ.lT{K:PySem.W.Frag}{m:Mp}{st:Hs}{H H':Hp}(S:aQ K m st H)(k:∀b u,H b=some u->(∀ps,u≠.jf ps)->H' b=some u)(T:kD K H'):Ext K m H m H'/\aQ K m st H':=by
 have ex:Ext K m H m H':=⟨λ_ _ h=>h,λa xs h=>k a _ h (λ_ z=>by cases z),λa φ h=>k a _ h (λ_ z=>by cases z),λa o u h=>k a _ h (λ_ z=>by cases z)⟩
 refine⟨ex,S.len,λl a o h1 h2=>?_,S.inj,T⟩
 have q:=S.obj l a o h1 h2
 cases o with
 | lst ws=>obtain⟨xs,e1,e2⟩:=q;exact⟨xs,k _ _ e1 (λ_ z=>by cases z),af.mono ex _ _ e2⟩
 | dct kvs=>obtain⟨xs,e1,e2⟩:=q;exact⟨xs,k _ _ e1 (λ_ z=>by cases z),e2.mono ex⟩
 | BF kvs=>obtain⟨xs,e1,e2⟩:=q;exact⟨xs,k _ _ e1 (λ_ z=>by cases z),e2.mono ex⟩
 | BG kvs=>obtain⟨o,xs,e1,e2⟩:=q;exact⟨o,xs,k _ _ e1 (λ_ z=>by cases z),e2.mono ex⟩
 | nZ ns=>
  rcases q with ⟨o',q⟩ | q
  ·exact .inl ⟨o',k _ _ q (λ_ z=>by cases z)⟩
  ·exact .inr q
end
abbrev Vm:=Lm->LF->List Wv->Hs->Re Wv
def Gd(mg:Str->Option Zq)(base:Heap):Prop:=∃bm ob,mg "__builtins__"=some (.ref bm)/\bm≠builtinsNs/\bm≠ZA/\base.get? bm=some ob/\ob.cls= .type "module"/\ob.dict=some builtinsNs/\ob.data= .plain
def ka(K:PySem.W.Frag)(mg:Str->Option Zq)(base:Heap):Prop:=Mod K mg base/\Gd mg base
def Sh(P:Zo)(w:Zr)(K:PySem.W.Frag)(mg:Str->Option Zq)(k j:Nat)(x:Str)(FL:Vm):Prop :=
 (∃f,mg x=some (.ref f)/\PySem.W.keepIn K (.ref f)=true)/\∀(base:Heap)(p:Lm)(L:LF),ka K mg base->w_ P w K mg base (j+1) p 3 L->uI P w K mg base k x 2 (FL p L)
section
variable {X:Cx}
end
section
variable {P:Zo} {w:Zr} {A:Zl} {E:Zq->Zp->Prop} {s:Zp}
end
theorem boot_zip:Zu "zip"=some (.type "zip"):=by decide+kernel
abbrev zA(h:Heap)(t1:Zk):Heap:=h.push { cls:=.type "tuple_iterator",data:=.fields #[.ref t1,.int 0 0] }
abbrev zB(h:Heap)(t1 t2:Zk):Heap:=zA (zA h t1) t2
abbrev zC(h:Heap)(t1 t2 t3:Zk):Heap:=zA (zB h t1 t2) t3
abbrev zD(h:Heap)(t1 t2 t3:Zk):Heap:=(zC h t1 t2 t3).push { cls:=.type "tuple",data:=.seq #[.ref h.objs.size,.ref (zA h t1).objs.size,.ref (zB h t1 t2).objs.size] }
section
variable {P:Zo} {w:Zr} {A:Zl} {E:Zq->Zp->Prop} {s:Zp}
end
section
variable {P:Zo} {w:Zr} {A:Zl} {E:Zq->Zp->Prop} {s:Zp}
end
section
variable {X:Cx}
end
def Vn(a b c:Int):Prop:=0<=a/\a < 2 ^ 30/\0<=b/\b < 2 ^ 30/\1<=c/\c < 2 ^ 30
instance {a b c}:Decidable (Vn a b c):=Ce _
def O_(a b c:Int):Nat:=(if a < b then(b - a - 1) / c+1 else 0).toNat
section
variable {X:Cx} {tg:Expr}
def Si(lo c:Int)(n:Nat):List Wv:=(aJ n).map λk:Nat=>Wv.int (lo+k * c)
end
section
variable {X:Cx}
end
section
variable {X:Cx}
end
section
variable {X:Cx}
end
section
variable {X:Cx}
end
section
variable {prog:Zo} {w:Zr} {A:Zl} {E:Zq->Zp->Prop} {s:Zp}
end
section
variable {X:Cx} {tg:Expr}
end
section
variable {X:Cx} {a b c d:Expr} {pos:Pos}
end
section
variable {X:Cx} {pins:List (Zk×Obj)} {σ:St} {E:Zq->Zp->Prop} {p:Zk}
end
section
variable {X:Cx} {pos:Pos}
abbrev yF(K:PySem.W.Frag)(m:Mp)(H:Hp):List (Wv×Wv)->List (V×V)->Prop:=Paired λp q=>aj K m H p.1 q.1/\aj K m H p.2 q.2
theorem yF.mono{K:PySem.W.Frag}{m m1:Mp}{H H1:Hp}(e:Ext K m H m1 H1):∀{a:List (Wv×Wv)}{b:List (V×V)},yF K m H a b->yF K m1 H1 a b
 | _,_,.nil=> .nil
 | _,_,.cons h t=> .cons ⟨aj.mono e _ _ h.1,aj.mono e _ _ h.2⟩ (yF.mono e t)
end
def getD(d k:Wv)(st:Hs):Option Wv:=match d with
 | .ref l=>(match st[l]? with
  | some (.dct kvs)=>(match keyOf k with | some kk=>wY kvs kk | none=>none)
  | some (.BF kvs)=>(match O2 k with | some kk=>wY kvs kk | none=>none)
  | some (.BG kvs)=>(match O2 k with | some kk=>wY kvs kk | none=>none)
  | _=>none)
 | _=>none
section
variable {X:Cx}
end
section
variable {X:Cx} {pins:List (Zk×Obj)} {σ:St} {H:Hp} {s:Zp} {a:Zk} {xs:List (List L2.Key×V)}
end
section
variable {K:PySem.W.Frag} {m:Mp} {st:Hs} {H:Hp}
theorem RelK.i6{κ:Type}{m1:Mp}{H1:Hp}{kvs:List (κ×Wv)}{xs:List (κ×V)}(e:BH K m H m1 H1)(h:RelK K m H kvs xs):RelK K m1 H1 kvs xs:=⟨h.1,af.i6 e _ _ h.2⟩
theorem av.i6{m1:Mp}{H1:Hp}{ρ:bA}{σ:St}(R:av K m H ρ σ)(e:BH K m H m1 H1):av K m1 H1 ρ σ:=⟨R.len,λi w h=>let ⟨v,h1,h2⟩:=R.get i w h;⟨v,h1,aj.i6 e _ _ h2⟩⟩
end
section
variable {X:Cx}
end
section
variable {X:Cx} {tg:Expr}
end
section
variable {prog:Zo} {w:Zr} {A:Zl} {E:Zq->Zp->Prop} {s:Zp} {d:Zk} {es:Array DictEntry} {ep:Nat}
end
section
variable {prog:Zo} {w:Zr} {K:Type} [DecidableEq K] {knd:HeapKind prog w K} {A:Zl} {E:Zq->Zp->Prop} {s:Zp} {d a:Zk} {xs:List (K×Zk×Zq)} {k:K}
end
section
variable {prog:Zo} {w:Zr} {A:Zl} {E:Zq->Zp->Prop} {s:Zp}
end
section
variable {prog:Zo} {w:Zr} {A:Zl} {E:Zq->Zp->Prop} {s:Zp} {d it:Zk} {i:Nat} {es:Array DictEntry} {ep:Nat} {ok ov:Zq}
end
section
variable {X:Cx}
end
section
variable {X:Cx} {o e f:Expr} {apos cpos:Pos} {td ty tx:TE}
def Di{κ:Type}[DecidableEq κ](kvs:List (κ×Wv))(k:κ):List (κ×Wv):=kvs.filter λkv=>decide (kv.1≠k)
theorem RelK.drop{κ:Type}[DecidableEq κ]{K:PySem.W.Frag}{m:Mp}{H:Hp}(k:κ):∀{kvs:List (κ×Wv)}{xs:List (κ×V)},RelK K m H kvs xs->RelK K m H (Di kvs k) (oX xs k)
 | [],xs,h=>by rw[h.nil_inv];exact RelK.nil
 | p::r,xs,h=>by
  obtain⟨v,t,rfl,h1,h2⟩:=h.cons_inv
  by_cases e:p.1=k
  ·rw[zN e]
   unfold Di
   rw[wC,if_neg (by simp[e])]
   exact h2.drop k
  ·rw[zO e]
   unfold Di
   rw[wC,if_pos (by simp[e])]
   exact RelK.cons h1 (h2.drop k)
end
section
variable {X:Cx} {es':List Expr} {kt:Nat} {pt:Pos}
end
def Vo(K:PySem.W.Frag)(a:Zk)(n:Nat):It :=
 ⟨λi H=>∃xs,fB K H a xs/\xs.length=n/\i < n,λi H x H'=>H'=H/\∀xs,fB K H a xs->xs[n - 1 - i]? =some x,λi _=>n=i⟩
theorem Dj{P:Zo}{w:Zr}{K:PySem.W.Frag}{tg:Expr}(a it:Zk)(n:Nat):Turn P w K tg (Vo K a n) [it] it (λi h=>h.IsRevIter it a ((n:Int) - 1 - i)) where
 mem:=by simp
 obj:=λi h st b hb=>by
  have e:b=it:=by simpa using hb
  subst e
  obtain⟨o,e,c,d⟩:=st
  exact⟨o,e,λv z=>by rw[d] at z;cases z⟩
 keep:=λi h h' st k=>st.at λo e=>k it (by simp) o e
 item:=by
  intro X hP hw hK hc i pins s σ H E I hf st hg
  subst hP hw hK
  obtain⟨xs,hq,hn,hi⟩:=hg
  obtain⟨its,rv,p,hz⟩:=I.list hq
  have hx:xs[n - 1 - i]? =some (xs[n - 1 - i]'(by omega)):=cq (by omega)
  obtain⟨u,hu,ru⟩:=rv.get hx
  obtain⟨f0,f1,f2,f3,f4,f5⟩:=hf it (by simp)
  have ei:(n:Int) - 1 - i=((n - 1 - i:Nat):Int):=by omega
  have st2:s.heap.IsRevIter it a ((n - 1 - i:Nat):Int):=by rw[<-ei];exact st
  refine wpAny_pyNext_rev_item st2 p.isList (x:=u) (by simpa using hu) λh' st' sb=>?_
  have st3:h'.IsRevIter it a ((n:Int) - 1 - ((i+1:Nat):Int)):=by
   have e:(n:Int) - 1 - ((i+1:Nat):Int)=((n - 1 - i:Nat):Int) - 1:=by omega
   rw[e];exact st'
  have I1:Inv X pins σ H { s with heap:=h' }:=I.turned (t':=s.toks) (λb o hb e=>(sb.2 b hb).trans e) f0 f1 f3 f4 f5
  obtain⟨o,e,c,d⟩:=id st'
  exact⟨u,rfl,qV (s:={ s with heap:=h' }) e c d (by decide) ⟨_,H,I1,ru,⟨rfl,λys hy=>by rw[I.k_ hy hq];exact hx⟩,st3,λb hb=>(hf b hb).1⟩⟩
 done:=by
  intro X hP hw hK hc i pins s σ H E I hf st hg
  subst hP hw hK
  have hg:n=i:=hg
  obtain⟨f0,f1,f2,f3,f4,f5⟩:=hf it (by simp)
  have st2:s.heap.IsRevIter it a (-1):=by
   have e:(n:Int) - 1 - i= -1:=by omega
   rw[<-e];exact st
  exact wpAny_pyNext_rev_end (I.ok.hd hc) st2 λh' eb=>⟨rfl,I.turned (t':=s.toks) (λb o hb e=>eb b o hb e) f0 f1 f3 f4 f5⟩
 self:=λ_ _ _ _ _ st h=>wpAny_pyIter_revIter st h
section
variable {X:Cx}
def Sj(K:PySem.W.Frag)(ta:TA):TI:=λσ H R=>ta σ H λvs H1=>∃a xs,vs=[.ref a]/\fB K H1 a xs/\R (Vo K a xs.length) H1
theorem boot_reversed:Zu "reversed"=some (.type "reversed"):=by decide+kernel
theorem Ly{tg:Expr}{p q:Pos}{l:Expr}{ta:TA}(hg:Gl X "reversed")(hm:X.mg "reversed"=none)(ha:PA X [l] ta)(hst:ZF [l] X.env=[(false,eval l X.env)]) :
  PI X tg (.Call (.Name "reversed" p) [l] [] q) (Sj X.K ta):=by
 intro pins s σ H R I h
 refine Call_ (fY I hg hm boot_reversed (iL (bH (ha q pins s σ H _ I h) λus s1 ⟨vs,H1,I1,r1,q1⟩=>?_) hst rfl))
 obtain⟨a,xs,e,hq,k⟩:=q1
 subst e
 cases r1 with
 | cons r rr=>
  cases rr
  cases r
  obtain⟨its,rv,pl,hz⟩:=I1.list hq
  have hl:=rv.length
  refine call_reversed_list pl.isList (wpAny_pyIter_revIter (l:=a) (i:=(xs.length:Int) - 1) ⟨_,bY _ rfl,rfl,by simp[revObj,hl]⟩ ?_)
  refine⟨s1.heap.objs.size,[s1.heap.objs.size],_,_,H1,rfl,I1.kept (t':=s1.toks) λb o q=>aE _ q,Dj a _ xs.length,⟨_,bY _ rfl,rfl,by simp[revObj,hl]⟩,λb hb=>?_,k⟩
  rw[List.mem_singleton.mp hb]
  exact I1.nM (ak _) (I1.hok.fresh (ak _))
end
section
variable {prog:Zo} {w:Zr} {K:Type} [DecidableEq K] {knd:HeapKind prog w K} {A:Zl} {E:Zq->Zp->Prop} {s:Zp} {a b:Zk} {xs ys:List (K×Zk×Zq)}
end
section
variable {prog:Zo} {w:Zr} {K:Type} [DecidableEq K] {knd:HeapKind prog w K} {A:Zl} {E:Zq->Zp->Prop} {s:Zp} {a b:Zk} {xs ys:List (K×Zk×Zq)}
end
section
variable {X:Cx}
end
section
variable {X:Cx}
end
section
variable {prog:Zo} {w:Zr} {K:Type} [DecidableEq K] {knd:HeapKind prog w K} {A:Zl} {E:Zq->Zp->Prop} {s:Zp} {d:Zk} {xs:List (K×Zk×Zq)}
end
section
variable {X:Cx}
end
section
variable {X:Cx}
end
def O'(K:PySem.W.Frag)(l1 l2:Zk):It :=
 ⟨λi H=>∃xs ys x y,fB K H l1 xs/\fB K H l2 ys/\xs[i]? =some x/\ys[i]? =some y,
  λi H v H'=>∃p,v= .ref p/\H p=none/\∀xs ys,fB K H l1 xs->fB K H l2 ys->∃x y,xs[i]? =some x/\ys[i]? =some y/\H'=upd H p (.tup [x,y]),
  λi H=>∃xs ys,fB K H l1 xs/\fB K H l2 ys/\(xs.length<=i\/ys.length<=i)⟩
def Lz(z T O j1 j2 l1 l2:Zk)(i:Nat)(h:Heap):Prop:=IsZip h z T O .none/\IsPair h T (.ref j1) (.ref j2)/\(∃a b,IsPair h O a b)/\h.IsListIter j1 l1 i/\h.IsListIter j2 l2 i
theorem Az{P:Zo}{w:Zr}{K:PySem.W.Frag}{es:List Expr}{kt:Nat}{pt:Pos}{z T O j1 j2 l1 l2:Zk}(D:ZipApart z T O j1 j2 l1 l2):Turn P w K (.Tuple es kt pt) (O' K l1 l2) [z,T,O,j1,j2] z (Lz z T O j1 j2 l1 l2) where
 mem:=by simp
 obj:=λi h st b hb=>by
  obtain⟨a1,a2,⟨a,b',a3⟩,⟨o1,q1,_,d1⟩,⟨o2,q2,_,d2⟩⟩:=st
  simp only[gQ,gR,or_false] at hb
  rcases hb with rfl | rfl | rfl | rfl | rfl
  ·exact⟨_,a1,λv z=>by cases z⟩
  ·exact⟨_,a2,λv z=>by cases z⟩
  ·exact⟨_,a3,λv z=>by cases z⟩
  ·exact⟨o1,q1,λv z=>by rw[d1] at z;cases z⟩
  ·exact⟨o2,q2,λv z=>by rw[d2] at z;cases z⟩
 keep:=λi h h' st k=>by
  obtain⟨a1,a2,⟨a,b,a3⟩,⟨o1,q1,r1⟩,⟨o2,q2,r2⟩⟩:=st
  exact⟨k z (by simp) _ a1,k T (by simp) _ a2,⟨a,b,k O (by simp) _ a3⟩,⟨o1,k j1 (by simp) _ q1,r1⟩,⟨o2,k j2 (by simp) _ q2,r2⟩⟩
 item:=by
  intro X hP hw hK hc i pins s σ H E I hf st hg
  subst hP hw hK
  obtain⟨xs,ys,x,y,H1,H2,x1,x2⟩:=hg
  obtain⟨i1,r1,p1,_⟩:=I.list H1
  obtain⟨i2,r2,p2,_⟩:=I.list H2
  obtain⟨u1,e1,m1⟩:=r1.get x1
  obtain⟨u2,e2,m2⟩:=r2.get x2
  obtain⟨a1,a2,⟨a,b,a3⟩,a4,a5⟩:=st
  refine wpAny_pyNext_zip_item D a1 a2 a3 a4 a5 p1.isList p2.isList (x:=u1) (y:=u2) (by simpa using e1) (by simpa using e2) λg b1 b2 b3 b4 b6 b7 b8=>?_
  refine⟨.ref s.heap.objs.size,rfl,?_⟩
  refine wpAny_letOwnedTupleGo_zip b1 λh2 c1 sb=>?_
  have hfr:H s.heap.objs.size=none:=I.hok.fresh (ak _)
  have lt:∀b o,s.heap.get? b=some o->b≠s.heap.objs.size:=λb o q=>aN (ax q)
  have Vp:z≠s.heap.objs.size:=lt _ _ a1
  have kp:∀b o,b∉[z,O,j1,j2]->s.heap.get? b=some o->h2.get? b=some o:=λb o hb q=>by
   simp only[gQ,gR,or_false,not_or] at hb
   exact sb.extBut _ _ hb.1 (b8 b o hb.1 hb.2.1 hb.2.2.1 hb.2.2.2 q)
  have sub:∀b,b∈[z,O,j1,j2]->b∈[z,T,O,j1,j2]:=λb h=>(List.mem_cons.mp h).elim (λe=>e ▸ aI) λh=>aD _ (aD _ h)
  have Pa:∀b u,H b=some u->b∉[z,O,j1,j2]:=λb u q hb=>by
   have n:=(hf b (sub b hb)).1
   rw[q] at n;cases n
  have xc:∀b,b∉[z,T,O,j1,j2]->b∉[z,O,j1,j2]:=λb h hb=>h (sub b hb)
  have kt:∀b u,H b=some u->b≠s.heap.objs.size:=λb u q=>aY q hfr
  have Tn:h2.get? s.heap.objs.size=some { cls:=.type "tuple",data:=.seq #[u1,u2] }:=sb.extBut _ _ (bg Vp) b6
  have W6:∀b∈[z,T,O,j1,j2],b≠s.heap.objs.size:=λb hb=>by
   simp only[gQ,gR,or_false] at hb
   rcases hb with rfl | rfl | rfl | rfl | rfl
   ·exact Vp
   ·exact lt _ _ a2
   ·exact lt _ _ a3
   ·obtain⟨o,q,_⟩:=a4;exact lt _ _ q
   ·obtain⟨o,q,_⟩:=a5;exact lt _ _ q
  have at':∀{j t:Zk}{n:Nat},j≠z->g.IsListIter j t n->h2.IsListIter j t n:=λn ⟨o,q,r⟩=>⟨o,sb.extBut _ _ n q,r⟩
  refine⟨.ref s.heap.objs.size,upd H s.heap.objs.size (.tup [x,y]),?_,rfl,⟨s.heap.objs.size,rfl,hfr,λxs' ys' hx' hy'=>⟨x,y,by rw[I.k_ hx' H1];exact x1,by rw[I.k_ hy' H2];exact x2,rfl⟩⟩,⟨c1,?_,⟨u1,u2,sb.extBut _ _ D.TOz b2⟩,at' D.i1z b3,at' D.i2z b4⟩,λb hb=>?_⟩
  ·refine I.qU (s':={ s with heap:=h2 }) (ch:=[z,T,O,j1,j2]) rfl ?_ ?_ I.bare (λb hb=>⟨(hf b hb).2.2.2.1,(hf b hb).2.1,(hf b hb).2.2.2.2.1,(hf b hb).2.2.2.2.2⟩)
   ·refine⟨λb o q _ _ hx=>kp b o (xc b hx) q,λb o q _ _ hx=>⟨o.slots,kp b o (xc b hx) q⟩,λb o q n _=>by rw[aw (lt b o q)];exact n,λb o q hx=>⟨o,kp b o (xc b hx) q⟩,λb ys q=>by rw[aw (kt b _ q)];exact q,λb o y q=>by rw[aw (kt b _ q)];exact q,λb ps q=>⟨#[],by rw[aw (kt b _ q),q];simp⟩⟩
   ·intro b o q
    by_cases hb:b=s.heap.objs.size
    ·subst hb
     rw[aL] at q
     cases q
     exact⟨by show 2<=ZE;decide,[u1,u2],.cons m1 (.cons m2 .nil),⟨_,Tn,rfl,0,rfl⟩,λo q=>by rw[Tn] at q;cases q;rfl⟩
    ·rw[aw hb] at q
     refine(I.hok b o q).stay (λc v hc g=>?_) (λc g=>by rw[aw (kt c _ g)];exact g) λc ys g=>by rw[aw (kt c _ g)];exact g
     rcases hc with e | e
     ·subst e;exact kp _ _ (Pa _ _ q) g
     ·exact kp _ _ (Pa _ _ e) g
  ·refine kp T _ ?_ a2
   simp only[gQ,gR,or_false,not_or]
   exact⟨D.TIz,D.TITO,D.TIi1,D.TIi2⟩
  ·rw[aw (W6 b hb)];exact(hf b hb).1
 done:=by
  intro X hP hw hK hc i pins s σ H E I hf st hg
  subst hP hw hK
  obtain⟨xs,ys,H1,H2,hl⟩:=hg
  obtain⟨i1,r1,p1,_⟩:=I.list H1
  obtain⟨i2,r2,p2,_⟩:=I.list H2
  obtain⟨a1,a2,⟨a,b,a3⟩,a4,a5⟩:=st
  have q1:=r1.length
  have q2:=r2.length
  have sub:∀b,b∈[z,O,j1,j2]->b∈[z,T,O,j1,j2]:=λb h=>(List.mem_cons.mp h).elim (λe=>e ▸ aI) λh=>aD _ (aD _ h)
  have Pa:∀b u,H b=some u->b∉[z,O,j1,j2]:=λb u q hb=>by
   have n:=(hf b (sub b hb)).1
   rw[q] at n;cases n
  have xc:∀b,b∉[z,T,O,j1,j2]->b∉[z,O,j1,j2]:=λb h hb=>h (sub b hb)
  refine wpAny_pyNext_zip_end (I.ok.hd hc) D a1 a2 a3 a4 a5 p1.isList p2.isList (by
   rcases hl with hl | hl
   ·exact .inl (by simp;omega)
   ·exact .inr (by simp;omega)) λg k8=>⟨rfl,?_⟩
  have kp:∀b o,b∉[z,O,j1,j2]->s.heap.get? b=some o->g.get? b=some o:=λb o hb q=>by
   simp only[gQ,gR,or_false,not_or] at hb
   exact k8 b o hb.1 hb.2.1 hb.2.2.1 hb.2.2.2 q
  refine I.qU (s':={ s with heap:=g }) (ch:=[z,T,O,j1,j2]) rfl ?_ ?_ I.bare (λb hb=>⟨(hf b hb).2.2.2.1,(hf b hb).2.1,(hf b hb).2.2.2.2.1,(hf b hb).2.2.2.2.2⟩)
  ·exact⟨λb o q _ _ hx=>kp b o (xc b hx) q,λb o q _ _ hx=>⟨o.slots,kp b o (xc b hx) q⟩,λb o q n _=>n,λb o q hx=>⟨o,kp b o (xc b hx) q⟩,λb ys q=>q,λb o y q=>q,λb ps q=>⟨#[],by rw[q];simp⟩⟩
  ·intro b o q
   refine(I.hok b o q).stay (λc v hc g=>?_) (λc g=>g) λc ys g=>g
   rcases hc with e | e
   ·subst e;exact kp _ _ (Pa _ _ q) g
   ·exact kp _ _ (Pa _ _ e) g
 self:=λ_ _ _ _ _ st h=>wpAny_pyIter_zip st.1 h
theorem Dk{I l1 l2:Nat}(h1:l1 < I)(h2:l2 < I):ZipApart (I+4) (I+2) (I+3) I (I+1) l1 l2:=by
 constructor<;>first | exact aN (by omega) | exact lg (by omega)
section
variable {X:Cx}
def Pb(K:PySem.W.Frag)(ta:TA):TI:=λσ H R=>ta σ H λvs H1=>∃a b,vs=[.ref a,.ref b]/\(∃xs,H1 a=some (.lst xs))/\(∃ys,H1 b=some (.lst ys))/\R (O' K a b) H1
theorem Ge{es:List Expr}{kt:Nat}{pt p q:Pos}{l:Expr}{ls:List Expr}{ta:TA}(hg:Gl X "zip")(hm:X.mg "zip"=none)(ha:PA X (l::ls) ta)(hst:ZF (l::ls) X.env=(false,eval l X.env)::ZF ls X.env)(hpl:(backTo q (ZF ls X.env)).any (·.1)=false) :
  PI X (.Tuple es kt pt) (.Call (.Name "zip" p) (l::ls) [] q) (Pb X.K ta):=by
 intro pins s σ H R I h
 refine wpAny_Call_Name_kw (fY I hg hm boot_zip ?_)
 refine iL (bH (ha q pins s σ H _ I h) λus s1 ⟨vs,H1,I1,r1,q1⟩=>?_) hst hpl
 obtain⟨l1,l2,e,⟨xs,h1⟩,⟨ys,h2⟩,k⟩:=q1
 subst e
 cases r1 with
 | cons r rr=>
  cases rr with
  | cons r' rr=>
   cases rr
   cases r
   cases r'
   obtain⟨_,i1,n1,_,p1⟩:=I1.hok l1 _ h1
   obtain⟨_,i2,n2,_,p2⟩:=I1.hok l2 _ h2
   have W7:l1 < s1.heap.objs.size:=ax p1
   have OJ:l2 < s1.heap.objs.size:=ax p2
   refine call_zip_2 (xs:=i1.toArray) (ys:=i2.toArray) ⟨_,p1,rfl,_,rfl⟩ ⟨_,p2,rfl,_,rfl⟩ λg b1 b2 b3 b4 b5 b6 kp=>wpAny_pyIter_zip b1 ?_
   have D:ZipApart (s1.heap.objs.size+4) (s1.heap.objs.size+2) (s1.heap.objs.size+3) s1.heap.objs.size (s1.heap.objs.size+1) l1 l2:=by
    exact Dk W7 OJ
   have tz:=Az (P:=X.prog) (w:=X.w) (K:=X.K) (es:=es) (kt:=kt) (pt:=pt) D
   refine⟨s1.heap.objs.size+4,_,_,_,H1,rfl,I1.kept (t':=s1.toks) kp,tz,⟨b1,b2,⟨_,_,b3⟩,b4,b5⟩,λb hb=>?_,k⟩
   have ge:s1.heap.objs.size<=b:=by
    simp only[gQ,gR,or_false] at hb
    rcases hb with rfl | rfl | rfl | rfl | rfl<;>omega
   exact I1.nM (pins:=pins) (H':=H1) (b:=b) ge (I1.hok.fresh ge)
def fh(as bs:List Wv):List Wv:=List.zipWith (λa b=> .tup [a,b]) as bs
open Classical in
end
section
variable {X:Cx}
end
section
variable {prog:Zo} {w:Zr} {K:Type} [DecidableEq K] {knd:HeapKind prog w K} {A:Zl} {E:Zq->Zp->Prop} {s:Zp} {d a:Zk} {k:K} {xs:List (K×Zk×Zq)}
end
section
variable {X:Cx} {o e:Expr} {apos cpos:Pos} {td ty:TE}
end
section
variable {X:Cx} {o e f:Expr} {apos cpos:Pos} {to te tf:TE}
end
section
variable {X:Cx}
end
section
variable {prog:Zo} {w:Zr} {A:Zl} {E:Zq->Zp->Prop} {s:Zp}
end
section
variable {X:Cx}
end
section
variable {X:Cx}
def Ig(ws:List Wv)(st:Hs):Re Wk:=match ws with
 | [.int a,.int b,.int c]=>if Vn a b c then .ok (none,Si a c (O_ a b c)) st else .bad
 | _=> .bad
def Sk(g:GA):GI:=λρ st=>(g ρ st).bind Ig
end
def Sl:List Str->Nat
 | []=>0
 | x::r=>if x∈r then Sl r else Sl r+1
section
variable {prog:Zo} {w:Zr} {A:Zl} {R:Result->Zp->Prop} {I:Zk} {fp wr:List Zk} {n:Nat} {P:Nat->Zq->Prop} {St:Nat->Heap->Prop}
abbrev LA(prog:Zo)(w:Zr)(h:Heap)(S:Zk)(l:List Str):Prop:=h.SetOf (PySem.strKind prog w) S (λq=>decide (q∈l)) (Sl l)
theorem LA.keep{h h':Heap}{S:Zk}{l:List Str}(z:LA prog w h S l)(k:∀o,h.get? S=some o->h'.get? S=some o):LA prog w h' S l:=by
 obtain⟨o,es,ep,t,ho,rest⟩:=z
 exact⟨o,es,ep,t,k o ho,rest⟩
end
section
variable {prog:Zo} {w:Zr} {A:Zl} {E:Zq->Zp->Prop} {s:Zp}
end
section
variable {X:Cx}
end
section
variable {lt:Nat->Nat->Bool} {N:Nat}
def uo(lt:Nat->Nat->Bool)(a b:Nat):Prop:=lt b a=false/\(lt a b=false->a < b)
theorem uo.trans(o:Ord lt){a b c:Nat}(h:uo lt a b)(k:uo lt b c):uo lt a c:=by
 refine⟨o.tr _ _ _ k.1 h.1,λe=>?_⟩
 have h1:lt a b=false:=by
  cases z:lt a b with
  | false=>rfl
  | true=>have:=o.uX z k.1;rw[e] at this;cases this
 have h2:lt b c=false:=o.tr _ _ _ h.1 e
 exact Nat.lt_trans (h.2 h1) (k.2 h2)
def vY(lt:Nat->Nat->Bool)(p:Array Nat)(k:Nat):Prop:=∀i j,i < j->j < k->uo lt (at_ p i) (at_ p j)
def EG(lt:Nat->Nat->Bool)(p:Array Nat)(k:Nat):Prop:=∀i j,i < j->j < k->uo lt (at_ p j) (at_ p i)
structure Frs(N:Nat)(p:Array Nat)(n:Nat):Prop where
 pm:Pm N p
 hi:∀i,n<=i->i < N->at_ p i=i
 lo:∀i,i < n->at_ p i < n
theorem vY.up(o:Ord lt){p:Array Nat}{k:Nat}(h:vY lt p k):Up lt p k:=λi j hij hj=>by
 by_cases c:i=j
 ·subst c;exact o.F2 _
 ·exact(h i j (by omega) hj).1
theorem Frs.succ{p:Array Nat}{n:Nat}(h:Frs N p n)(hn:n < N):Frs N p (n+1):=⟨h.pm,λi a b=>h.hi i (by omega) b,λi a=>by
 by_cases c:i < n
 ·have:=h.lo i c;omega
 ·have e:i=n:=by omega
  rw[e,h.hi n (ak _) hn];omega⟩
theorem Frs.rev{p:Array Nat}{n i j:Nat}(h:Frs N p n)(hj:j<=n)(hn:n<=N):Frs N (kas_rev p i j) n:=by
 refine⟨h.pm.rev i j,λk a b=>?_,λk a=>?_⟩
 ·rw[bZ h.pm (by omega),if_neg (by omega)];exact h.hi k a b
 ·rw[bZ h.pm (by omega)]
  split
  ·exact h.lo _ (by omega)
  ·exact h.lo _ a
theorem vY.succ(o:Ord lt){p:Array Nat}{n:Nat}(h:vY lt p n)(f:Frs N p n)(h1:1<=n)(hn:n < N)(e:lt (at_ p n) (at_ p (n - 1))=false):vY lt p (n+1):=by
 intro i j hij hj
 by_cases c:j < n
 ·exact h i j hij c
 ·have ej:j=n:=by omega
  subst ej
  refine⟨?_,λ_=>by rw[f.hi j (ak _) hn];exact f.lo i hij⟩
  by_cases c2:i=j - 1
  ·rw[c2];exact e
  ·exact o.tr _ _ _ e (h i (j - 1) (by omega) (by omega)).1
theorem xf(o:Ord lt){p:Array Nat}:∀(f n:Nat),1<=n->n+f<=N->Frs N p n->vY lt p n->Kg lt N (kas_asc p f n) (λm=>n<=m/\m<=n+f/\Frs N p m/\vY lt p m/\(m < n+f->lt (at_ p m) (at_ p (m - 1))=true))
 | 0,n,h1,h2,h3,h4=>⟨ak _,ak _,h3,h4,λz=>absurd z (bX _)⟩
 | f+1,n,h1,h2,h3,h4=>by
  refine⟨⟨h3.pm.bd (by omega),h3.pm.bd (by omega)⟩,?_⟩
  cases e:lt (p.getD n 0) (p.getD (n - 1) 0) with
  | true=>
   dsimp only
   rw[if_pos rfl]
   exact⟨ak _,by omega,h3,h4,λ_=>e⟩
  | false=>
   dsimp only
   rw[if_neg (by simp)]
   exact(xf o f (n+1) (by omega) (by omega) (h3.succ (by omega)) (h4.succ o h3 h1 (by omega) e)).imp λm ⟨q1,q2,q3,q4,q5⟩=>⟨by omega,by omega,q3,q4,λz=>q5 (by omega)⟩
structure yp(lt:Nat->Nat->Bool)(p:Array Nat)(a n:Nat):Prop where
 d:∀i j,i < j->j < a->uo lt (at_ p j) (at_ p i)
 s:∀i j,i < a->a<=j->j < n->lt (at_ p j) (at_ p i)=true
 l:∀i j,a<=i->i < j->j < n->lt (at_ p i) (at_ p j)=false/\lt (at_ p j) (at_ p i)=false/\at_ p i < at_ p j
theorem xg(o:Ord lt){a b:Nat}(h:lt a b=true):uo lt a b:=⟨o.as _ _ h,λe=>by rw[h] at e;cases e⟩
theorem yp.rev(o:Ord lt){p:Array Nat}(hp:Pm N p){a n:Nat}(hn:n<=N)(ha:a<=n)(h:yp lt p a n):EG lt (kas_rev p a n) n:=by
 intro i j hij hj
 rw[bZ hp hn i,bZ hp hn j]
 by_cases ci:a<=i
 ·rw[if_pos ⟨by omega,hj⟩,if_pos ⟨ci,by omega⟩]
  obtain⟨h1,h2,h3⟩:=h.l (a+n - 1 - j) (a+n - 1 - i) (by omega) (by omega) (by omega)
  exact⟨h2,λ_=>h3⟩
 ·rw[if_neg (c:=a<=i/\i < n) (by omega)]
  by_cases cj:a<=j
  ·rw[if_pos ⟨cj,hj⟩]
   exact xg o (h.s i _ (by omega) (by omega) (by omega))
  ·rw[if_neg (by omega)]
   exact h.d i j hij (by omega)
theorem EG.Sn{p:Array Nat}{n:Nat}(h:EG lt p n)(s:∀i,i < n->lt (at_ p n) (at_ p i)=true):yp lt p n (n+1) :=
 ⟨h,λi j a b c=>by
  have e:j=n:=by omega
  rw[e];exact s i a,λi j a b c=>absurd b (by omega)⟩
theorem EG.less(o:Ord lt){p:Array Nat}{n:Nat}(h:EG lt p n)(h1:1<=n)(e:lt (at_ p n) (at_ p (n - 1))=true):∀i,i < n->lt (at_ p n) (at_ p i)=true:=λi hi=>by
 by_cases c:i=n - 1
 ·rw[c];exact e
 ·exact o.uX e (h i (n - 1) (by omega) (by omega)).1
theorem EG.up{p:Array Nat}(hp:Pm N p){n:Nat}(hn:n<=N)(h:EG lt p n):vY lt (kas_rev p 0 n) n:=by
 intro i j hij hj
 rw[bZ hp hn,bZ hp hn,if_pos ⟨by omega,by omega⟩,if_pos ⟨by omega,hj⟩]
 exact h _ _ (by omega) (by omega)
theorem yp.dn{p:Array Nat}{n:Nat}(h:yp lt p (n - 1) n)(o:Ord lt):EG lt p n:=λi j hij hj=>by
 by_cases c:j < n - 1
 ·exact h.d i j hij c
 ·exact xg o (h.s i j (by omega) (by omega) hj)
theorem oz(o:Ord lt):∀(f:Nat)(p:Array Nat)(n q:Nat),Frs N p n->q+1<=n->n+f<=N->yp lt p (n - 1 - q) n->
  Kg lt N (kas_desc f p n q) (λr=>Frs N r.1 r.2.1/\r.2.2+1<=r.2.1/\r.2.1<=N/\yp lt r.1 (r.2.1 - 1 - r.2.2) r.2.1)
 | 0,p,n,q,hp,hq,hn,hd=>⟨hp,hq,by omega,hd⟩
 | f+1,p,n,q,hp,hq,hn,hd=>by
  refine⟨⟨hp.pm.bd (by omega),hp.pm.bd (by omega)⟩,?_⟩
  cases e:lt (p.getD n 0) (p.getD (n - 1) 0) with
  | true=>
   dsimp only
   rw[if_pos rfl]
   by_cases O1:q > 0
   ·rw[if_pos O1]
    have z:n - (q+1)=n - 1 - q:=by omega
    rw[z]
    have dn:=hd.rev o hp.pm (by omega) (by omega)
    refine oz o f _ (n+1) 0 ((hp.rev (ak _) (by omega)).succ (by omega)) (by omega) (by omega) (dn.Sn (dn.less o (by omega) ?_))
    rw[bZ hp.pm (by omega) n,bZ hp.pm (by omega) (n - 1),if_neg (by omega),if_pos ⟨by omega,by omega⟩]
    have y:n - 1 - q+n - 1 - (n - 1)=n - 1 - q:=by omega
    rw[y]
    exact o.uX e (hd.l (n - 1 - q) (n - 1) (ak _) (by omega) (by omega)).1
   ·rw[if_neg O1]
    have e0:q=0:=by omega
    subst e0
    have dn:=yp.dn hd o
    exact oz o f p (n+1) 0 (hp.succ (by omega)) (by omega) (by omega) (dn.Sn (dn.less o (by omega) e))
  | false=>
   dsimp only
   rw[if_neg (by simp)]
   refine⟨⟨hp.pm.bd (by omega),hp.pm.bd (by omega)⟩,?_⟩
   cases e2:lt (p.getD (n - 1) 0) (p.getD n 0) with
   | true=>
    dsimp only
    rw[if_pos rfl]
    exact⟨hp,hq,by show n<=N;omega,hd⟩
   | false=>
    dsimp only
    rw[if_neg (by simp)]
    refine oz o f p (n+1) (q+1) (hp.succ (by omega)) (by omega) (by omega) ?_
    have y:n+1 - 1 - (q+1)=n - 1 - q:=by omega
    rw[y]
    refine⟨hd.d,λi j a b c=>?_,λi j a b c=>?_⟩
    ·by_cases cj:j < n
     ·exact hd.s i j a b cj
     ·have ej:j=n:=by omega
      subst ej
      have z:=hd.s i (j - 1) a (by omega) (by omega)
      cases y:lt (at_ p j) (at_ p i) with
      | true=>rfl
      | false=>have:=o.tr _ _ _ e2 y;rw[z] at this;cases this
    ·by_cases cj:j < n
     ·exact hd.l i j a b cj
     ·have ej:j=n:=by omega
      subst ej
      have lo:=hp.lo i b
      have hi:=hp.hi j (ak _) (by omega)
      by_cases ci:i=j - 1
      ·subst ci;exact⟨e2,e,by omega⟩
      ·obtain⟨l1,l2,_⟩:=hd.l i (j - 1) a (by omega) (by omega)
       exact⟨o.tr _ _ _ l1 e2,o.tr _ _ _ e l2,by omega⟩
abbrev LB(lt:Nat->Nat->Bool)(N:Nat)(r:Nat×Array Nat):Prop:=Frs N r.2 r.1/\1<=r.1/\r.1<=N/\vY lt r.2 r.1
theorem yG(o:Ord lt){p:Array Nat}{n:Nat}(hp:Frs N p n)(h1:1<=n)(hn:n<=N)(hd:EG lt p n):Kg lt N (kas_tail3 n N p) (LB lt N):=by
 unfold kas_tail3
 refine Kg.bind ((xf o (N - n) n h1 (by omega) (hp.rev (i:=0) (ak _) hn) (hd.up hp.pm hn)).imp λm ⟨q1,q2,q3,q4,_⟩=>?_)
 exact⟨q3,by show 1<=m;omega,by show m<=N;omega,q4⟩
theorem ny(o:Ord lt){p:Array Nat}{n:Nat}(hp:Frs N p n)(hn:n+1<=N)(h1:1<=n)(hd:EG lt p n)(e:lt (at_ p n) (at_ p (n - 1))=true):Kg lt N (kas_descPart n N p) (LB lt N):=by
 unfold kas_descPart
 refine Kg.bind ((oz o (N - (n+1)) p (n+1) 0 (hp.succ (by omega)) (by omega) (by omega) (hd.Sn (hd.less o h1 e))).imp λr ⟨q1,q2,q3,q4⟩=>?_)
 by_cases c:r.2.2 > 0
 ·rw[if_pos c]
  have z:r.2.1 - (r.2.2+1)=r.2.1 - 1 - r.2.2:=by omega
  rw[z]
  exact yG o (q1.rev (ak _) q3) (by omega) q3 (q4.rev o q1.pm q3 (by omega))
 ·rw[if_neg c]
  have e0:r.2.2=0:=by omega
  rw[e0] at q4
  exact yG o q1 (by omega) q3 (yp.dn q4 o)
theorem Dl(o:Ord lt){p:Array Nat}(hp:Frs N p 1)(h1:1<=N):Kg lt N (kas_count N p) (LB lt N):=by
 unfold kas_count
 have u1:vY lt p 1:=λi j a b=>by omega
 refine Kg.bind ((xf o (N - 1) 1 (ak _) (by omega) hp u1).imp λn ⟨q1,q2,q0,q3,q4⟩=>?_)
 by_cases c:n=N
 ·rw[if_pos (by simp[c])]
  exact⟨q0,by show 1<=n;omega,by show n<=N;omega,q3⟩
 ·rw[if_neg (by simp[c])]
  have hs:=q4 (by omega)
  by_cases c2:n > 1
  ·rw[if_pos c2]
   refine⟨⟨q0.pm.bd (by omega),q0.pm.bd (by omega)⟩,?_⟩
   cases e:lt (p.getD 0 0) (p.getD (n - 1) 0) with
   | true=>
    dsimp only
    rw[if_pos rfl]
    exact⟨q0,by show 1<=n;omega,by show n<=N;omega,q3⟩
   | false=>
    dsimp only
    rw[if_neg (by simp)]
    have u:=q3.up o
    have lv:∀i j,i < n->j < n->lt (at_ p i) (at_ p j)=false:=λi j hi hj=>by
     have a1:=u 0 i (by omega) hi
     have a2:=u j (n - 1) (by omega) (by omega)
     exact o.tr _ _ _ (o.tr _ _ _ a1 e) a2
    refine ny o (q0.rev (ak _) (by omega)) (by omega) (by omega) (λi j hij hj=>?_) ?_
    ·rw[bZ q0.pm (by omega),bZ q0.pm (by omega),if_pos ⟨by omega,by omega⟩,if_pos ⟨by omega,by omega⟩]
     exact q3 _ _ (by omega) (by omega)
    ·rw[bZ q0.pm (by omega) n,bZ q0.pm (by omega) (n - 1),if_neg (by omega),if_pos ⟨by omega,by omega⟩]
     exact o.uX hs (lv _ _ (by omega) (by omega))
  ·rw[if_neg c2]
   have hn:n=1:=by omega
   subst hn
   exact ny o q0 (by omega) (by omega) (λi j a b=>by omega) hs
theorem Dm(o:Ord lt):∀(f:Nat)(p:Array Nat)(k:Nat),Frs N p k->k+f=N->vY lt p k->Kg lt N (kas_bin f p k) (λp'=>Pm N p'/\vY lt p' N)
 | 0,p,k,hp,hk,u=>by
  have:k=N:=by omega
  subst this
  exact⟨hp.pm,u⟩
 | f+1,p,k,hp,hk,u=>by
  unfold kas_bin
  refine Kg.bind ((lS o hp.pm (by omega) k 0 k (by omega) (ak _) (by omega) (u.up o) (λi h=>absurd h (by omega)) (λi h1 h2=>absurd h2 (by omega))).imp λl ⟨q1,q2,q3⟩=>?_)
  have bu:=λi=>wZ hp.pm (k:=k) (l:=l) (by omega) q1 i
  have kk:=hp.hi k (ak _) (by omega)
  have fr:Frs N (bubble p k (k - l)) (k+1):=by
   refine⟨hp.pm.U7 _ _,λi a b=>?_,λi a=>?_⟩
   ·rw[bu,if_neg (by omega),if_neg (by omega)];exact hp.hi i (by omega) b
   ·rw[bu]
    split
    ·omega
    ·split
     ·have:=hp.lo (i - 1) (by omega);omega
     ·have:=hp.lo i (by omega);omega
  refine Dm o f _ (k+1) fr (by omega) ?_
  intro i j hij hj
  rw[bu i,bu j]
  by_cases e:j=l
  ·rw[if_pos e,if_neg (by omega),if_neg (by omega)]
   exact⟨q2 i (by omega),λ_=>by have:=hp.lo i (by omega);omega⟩
  ·rw[if_neg e]
   by_cases d:l < j/\j<=k
   ·rw[if_pos d]
    by_cases e':i=l
    ·rw[if_pos e']
     exact xg o (q3 (j - 1) (by omega) (by omega))
    ·rw[if_neg e']
     by_cases d':l < i/\i<=k
     ·rw[if_pos d']
      exact u _ _ (by omega) (by omega)
     ·rw[if_neg d']
      exact u _ _ (by omega) (by omega)
   ·rw[if_neg d,if_neg (by omega),if_neg (by omega)]
    exact u _ _ hij (by omega)
theorem Gf(o:Ord lt)(h1:1<=N):Kg lt N (kas_sort N) (λp=>Pm N p/\vY lt p N):=by
 have Vq:∀i,i < N->at_ (yy (aJ N)) i=i:=λi hi=>by simp[at_,yw,hi]
 have h0:Frs N (yy (aJ N)) 1:=⟨⟨by simp,by simp⟩,λi _ hi=>Vq i hi,λi hi=>by rw[Vq i (by omega)];exact hi⟩
 unfold kas_sort
 refine Kg.bind ((Dl o h0 h1).imp λr ⟨q1,q2,q3,q4⟩=>?_)
 by_cases c:r.1 < N
 ·rw[if_pos c]
  have z:max r.1 1=r.1:=by omega
  rw[z]
  exact Dm o _ _ _ q1 (by omega) q4
 ·rw[if_neg c]
  have z:r.1=N:=by omega
  rw[z] at q4
  exact⟨q1.pm,q4⟩
end
structure vc(sc:Scope)(x y:Str):Prop where
 kind:sc.kind= .function
 co:sc.isCoroutine=false
 gen:sc.isGenerator=false
 Dp:∀p∈sc.names,p.2≠.cell
 p1:sc.names.lookup x=some .local
 fr:freeOf sc=[y]
 fy:sc.names.lookup y=some .free
 nd:x≠y
abbrev nz(x:Str)(a:Option Expr)(q:Pos):Arguments:=⟨[],[⟨x,a,q⟩],none,[],[],none,[]⟩
theorem AA{x:Str}{a:Option Expr}{q:Pos}{name qual:Str}{body:Expr}{scope:Scope}{cl:List (Str×Zk)}{pm cdv ct:Zq}(u:Zq):bindArgs (PySem.W.kla_fn name qual (nz x a q) body scope cl pm cdv ct) ⟨[u],[]⟩=pure [(x,u)]:=by
 have hs:notAStandIn bC=pure ():=rfl
 unfold bindArgs
 simp[seqItems?,hs,eK]
theorem Ih{K:PySem.W.Frag}{m:Mp}{H:Hp}{w:Wv}{vs:List V}(r:af K m H [w] vs):∃v,vs=[v]/\aj K m H w v:=by
 unfold af at r
 obtain⟨v,t,rfl,r1,r⟩:=r
 unfold af at r
 subst r
 exact⟨v,rfl,r1⟩
section
variable {P:Zo} {w:Zr} {K:PySem.W.Frag} {mg:Str->Option Zq} {base:Heap} {p:Lm} {scope:Scope} {x y:Str} {cy:Zk}
theorem Dq{A:Zl}{outer:List Env}{s:Zp}{H:Hp}{E:XK}{v vy:V}{u uy:Zq}{oc:Obj}{h1:Heap}{tk:Nat}(S:vc scope x y)(hd:A.handled=none)(e0:mv P w K mg base A outer s H)
  (r1:RelV v u)(ry:RelV vy uy)(hc:base.get? cy=some oc)(hcd:oc.data= .cell (some uy))
  (hns:h1.Ns s.heap.objs.size (λz=>([(x,u)]:List (Str×Zq)).reverse.lookup z))(hk:∀b o,s.heap.get? b=some o->h1.get? b=some o) :
  Inv (Dd P w K mg base [x,y] p scope [(y,cy)] A outer s H E) [] [some v,some vy] H { s with heap:=h1,toks:=tk }:=by
 have JC:∀b:Zk,b∉(Dd P w K mg base [x,y] p scope [(y,cy)] A outer s H E).ex:=λb z=>absurd (show b∈([]:List Zk) from z) (by simp)
 have Ii:∀z c,sX z [(y,cy)]=some c->s.heap.get? c=some oc/\H c=none:=λz c h=>by
  obtain⟨_,rfl⟩:=De h
  exact e0.bs _ _ hc
 refine⟨⟨e0.mod,S.kind,rfl,rfl,ak _,λa b c h1 h2=>(De h1).1.trans (De h2).1.symm,λa ha=>?_,(λa c h=>by cases h),λ_=>hd,NK e0.frames,.inr ⟨rfl,rfl⟩,λb z=>absurd z (JC b),e0.bs,e0.A6,λb _ _=>JC b,λb z=>absurd z (JC b),e0.jh,e0.EA⟩,
  rfl,e0.bare,Un.kept hk,⟨_,hns,λi a v h1 h2 h3=>?_⟩,λa c h=>⟨some uy,oc,hk _ _ (Ii a c h).1,hcd⟩,e0.hok.fresh (ak _),λa c h=>(Ii a c h).2,λq hq=>absurd (show q∈([]:List (Zk×Obj)) from hq) (by simp),e0.hok.kept hk,rfl⟩
 ·have ha:scope.names.lookup a=some .cell\/scope.names.lookup a=some .free:=ha
  rcases ha with ha | ha
  ·exact absurd rfl (S.Dp _ (PySem.mem_of_lookup ha))
  ·have q2:a∈freeOf scope:=Df ha
   rw[S.fr] at q2
   simp at q2
   subst q2
   exact⟨cy,by show sX a [(a,cy)]=_;simp⟩
 ·match i,h1,h2 with
  | 0,h1,h2=>
   cases h1;cases h2
   exact⟨u,r1,.inl ⟨S.p1,by simp[eK]⟩⟩
  | 1,h1,h2=>
   cases h1;cases h2
   exact⟨uy,ry,.inr ⟨.inr S.fy,cy,by show sX y [(y,cy)]=_;simp,oc,hk _ _ (e0.bs _ _ hc).1,hcd⟩⟩
  | i+2,h1,h2=>simp[Dd] at h1
theorem Gg{k:Nat}{a:Option Expr}{q:Pos}{body:Expr}{pm ctv uy:Zq}{vy:V}{oc:Obj}{gb:GE}(S:vc scope x y)(hxs:p.xs=[vy])
  (hf:base.get? p.a=some (PySem.W.kla_obj "<lambda>" p.q (nz x a q) body scope [(y,cy)] pm p.c ctv))(hc:base.get? cy=some oc)(hcd:oc.data= .cell (some uy))(ry:RelV vy uy)
  (hb:∀(A:Zl)(outer:List Env)(s:Zp)(H:Hp)(E:XK),dD k (A.deeper (tE p scope s.heap.objs.size [(y,cy)]))->JE (Dd P w K mg base [x,y] p scope [(y,cy)] A outer s H E) body gb) :
  w_ P w K mg base (k+1) p 1 (O8 gb):=by
 refine⟨_,[x],_,⟨λvs H Q E h=>?_,λA outer s H args us vs Q E hr e0 hbi r Hw=>?_⟩,hf,rfl,Binds.all λus hl=>?_⟩
 ·obtain⟨m,st,ws,caps,_,r,_,_,hl,_⟩:=h
  rw[<-r.length];exact hl
 ·obtain⟨m,st,ws,caps,S',rs,rc,RI,hl,post⟩:=Hw
  obtain⟨w1,rfl⟩:∃w1,ws=[w1]:=by
   match ws,hl with
   | [w1],_=>exact⟨w1,rfl⟩
  obtain⟨v1,rfl,s1⟩:=Ih rs
  rw[hxs] at rc
  have hcl:=rc.length
  obtain⟨wy,rfl⟩:∃wy,caps=[wy]:=by
   match caps,hcl with
   | [wy],_=>exact⟨wy,rfl⟩
  obtain⟨YU,e,W8⟩:=Ih rc
  cases e
  obtain⟨u1,rfl,r1⟩:=vals1 r
  have lim:s.heap.NoLimit:=e0.mod.nolimit.keeps λb o e=>(e0.bs b o e).1
  have code:s.heap.CodeRec (.ref p.c) p.q:=(e0.hok p.c _ RI).1
  refine PySem.W.kla_callFunE hr.depth (e0.bs _ _ hf).1 rfl S.co S.gen rfl code (hbi _ _ _ _ ?_)
  refine wpAny_newFunctionEnv S.Dp (λz hz=>?_) (λh1 hns Vr=>⟨lim.fresh _ Vr,?_⟩) S.kind
  ·simp only[lh,List.zip_nil_right,gQ,gR,or_false] at hz
   subst hz
   exact S.p1
  ·have hk:∀b o,s.heap.get? b=some o->h1.get? b=some o:=λb o e=>Vr.extBut b o (aN (ax e)) (aE _ e)
   show Zv _ _ (.expr body (tE p scope s.heap.objs.size [(y,cy)])) _ _
   have I:=Dq (p:=p) (E:=E) (tk:=s.toks+([x].zip [u1]).length) S hr.hd e0 r1 ry hc hcd hns hk
   have R:av K m H [some w1,some wy] [some v1,some vy]:=⟨rfl,λi z h=>by
    match i,h with
    | 0,h=>cases h;exact⟨_,rfl,s1⟩
    | 1,h=>cases h;exact⟨_,rfl,W8⟩
    | i+2,h=>simp at h⟩
   have run:=hb A outer s H E (hr.deeper _) [some w1,some wy] st [some v1,some vy] H m Q S' R (by
    have post':B5 K m H (gb [some w1,some wy] st) Q E:=post
    cases er:gb [some w1,some wy] st with
    | ok z st2=>rw[er] at post';exact post'
    | err c st2=>rw[er] at post';exact λm' H' x s' e' S2 rz=>u9 rz λC hC=>post' m' H' C e' S2 hC
    | bad=>rw[er] at post';exact aa post') [] _ I
   refine PySem.W.kla_codeExpr (ZJ run (λu s' hs=>?_) λe s' hs=>hs)
   obtain⟨v,H',J,rv,q⟩:=hs
   exact⟨v,H',J.os,J.bare,J.base,J.hok,rv,q⟩
 ·match us,hl with
  | [u1],_=>exact AA u1
end
def Qq(P:Zo)(w:Zr)(K:PySem.W.Frag)(mg:Str->Option Zq)(base:Heap)(k:Nat)(f:Zk)(sp:V->Hp->VK->Prop):Prop :=
 ∀(A:Zl)(outer:List Env)(s:Zp)(H:Hp)(u:Zq)(v:V)(Q:VK),dD k A->mv P w K mg base A outer s H->RelV v u->sp v H Q->ZG (model P w) A (call (.ref f) [u]) (CE outer P w H s Q) (λ_ _=>False) s
def W9(K:PySem.W.Frag)(p:Lm)(L:LF)(v:V)(H:Hp)(Q:VK):Prop:=∃m st w caps kw,aQ K m st H/\aj K m H w v/\af K m H caps p.xs/\H p.c=some (.ext (m_ p.c p.q))/\L caps [w] st= .ok kw st/\BM K m H Q kw st
theorem w_.W_{P:Zo}{w:Zr}{K:PySem.W.Frag}{mg:Str->Option Zq}{base:Heap}{k:Nat}{p:Lm}{L:LF}(G:w_ P w K mg base k p 1 L):Qq P w K mg base k p.a (W9 K p L):=by
 intro A outer s H u v Q hr e0 rv sp
 obtain⟨m,st,w',caps,kw,S,rw',rc,hx,el,ok⟩:=sp
 obtain⟨fd,ps,ob,F,ho,hod,hb⟩:=G
 have Vs:Vg K 1 p L [v] H Q (λ_ _ _=>False):=⟨m,st,[w'],caps,S,af.cons rw' af.nil,rc,hx,rfl,by rw[el];exact ok⟩
 have rs:Vals [v] [u]:=.cons rv .nil
 have hl:[u].length=ps.length:=by rw[<-rs.length];exact F.len _ _ _ _ Vs
 have EM:K.In s.heap:=e0.mod.EM.keeps λb o e=>(e0.bs b o e).1
 have bd:=hb s [u] EM (by rw[hX];exact hl)
 rw[hX] at bd
 refine wpAny_call (codeAny_mono (F.run A outer s H ⟨[u],[]⟩ [u] [v] Q _ hr e0 bd rs Vs) λrr s2 hq=>?_)
 cases rr with
 | error x=>obtain⟨H2,C,fl,z⟩:=hq;exact z
 | ok fw=>
  cases fw with
  | ret u=>exact hq
  | next=>exact hq
  | brk=>exact hq
  | cont=>exact hq
abbrev Kw:=Int×(Int ⊕ Str)
def jv:Kw->Bool
 | (a,.inl _)=>decide (a≠1)
 | (a,.inr _)=>decide (a=1)
def xh(a b:Str):Bool:=decide (a.cps.toList < b.cps.toList)
def fj:Kw->Kw->Bool
 | (a,.inl i),(b,.inl j)=>decide (a < b)||(decide (a=b)&&decide (i < j))
 | (a,.inr i),(b,.inr j)=>decide (a < b)||(decide (a=b)&&xh i j)
 | (a,_),(b,_)=>decide (a < b)
theorem xi{a b:Str}(h:xh a b=true):xh b a=false:=decide_eq_false (List.lt_asymm (of_decide_eq_true h))
theorem LC{a b c:Str}(h:xh a b=false)(k:xh b c=false):xh a c=false:=by
 have h:=of_decide_eq_false h
 have k:=of_decide_eq_false k
 refine decide_eq_false ?_
 rw[List.not_lt] at *
 exact List.le_trans k h
theorem LD{a b:Str}(h:xh a b=false)(k:xh b a=false):a=b:=by
 have h:=of_decide_eq_false h
 have k:=of_decide_eq_false k
 rw[List.not_lt] at *
 have:=List.le_antisymm k h
 cases a;cases b;simp at this;subst this;rfl
theorem pS{p q:Kw}(hp:jv p=true)(hq:jv q=true)(h:fj p q=true):fj q p=false:=by
 obtain⟨a,i | i⟩:=p<;>obtain⟨b,j | j⟩:=q<;>simp[fj,jv] at *
 ·omega
 ·omega
 ·omega
 ·refine⟨by omega,λe=>?_⟩
  rcases h with h | h
  ·omega
  ·exact xi h.2
theorem tG{p q r:Kw}(hp:jv p=true)(hq:jv q=true)(hr:jv r=true)(h:fj p q=false)(k:fj q r=false):fj p r=false:=by
 obtain⟨a,i | i⟩:=p<;>obtain⟨b,j | j⟩:=q<;>obtain⟨c,l | l⟩:=r<;>simp[fj,jv] at * <;>try omega
 ·exact⟨by omega,λe=>LC (h.2 (by omega)) (k.2 (by omega))⟩
theorem Dr{p q:Kw}(hp:jv p=true)(hq:jv q=true)(h:fj p q=false)(k:fj q p=false):p=q:=by
 obtain⟨a,i | i⟩:=p<;>obtain⟨b,j | j⟩:=q<;>simp[fj,jv] at *
 ·omega
 ·omega
 ·omega
 ·have e:a=b:=by omega
  exact⟨e,LD (h.2 e) (k.2 e.symm)⟩
def vK:Int ⊕ Str->V
 | .inl i=> .int i
 | .inr x=> .str x
def AB(h:Heap)(v:Zq)(q:Kw):Prop:=∃(a:Zk)(o:Obj)(t:Tok)(u:Zq)(n:Nat),v= .ref a/\h.get? a=some o/\o.cls= .type "tuple"/\o.data= .seq #[.int q.1 t,u] n/\RelV (vK q.2) u
section
variable {prog:Zo} {w:Zr} {A:Zl} {E:Zq->Zp->Prop} {s:Zp}
theorem Gh{v v':Zq}{p q:Kw}{Q:Bool->Zp->Prop}(hp:AB s.heap v p)(hq:AB s.heap v' q)(op:jv p=true)(oq:jv q=true)(h:Q (fj p q) s):ZG (model prog w) A (keyLt' (tuples' true) v v') Q E s:=by
 obtain⟨x,ox,t1,u1,n,rfl,hx,_,dx,r1⟩:=hp
 obtain⟨y,oy,t2,u2,k,rfl,hy,_,dy,r2⟩:=hq
 have hq:∀b,b=fj p q->Q b s:=λb e=>by rw[e];exact h
 obtain⟨a,i⟩:=p
 obtain⟨b,j⟩:=q
 refine kat_lt hx dx hy dy ?_
 refine kat_cons (wpAny_eqBool_int (kat_go (λe=>kat_yes ?_) (λe=>kat_no ?_)))
 ·have z1:a=b:=by simpa using e
  subst z1
  cases i with
  | inl i=>
   cases j with
   | inr j=>simp[jv] at op oq;omega
   | inl j=>
    obtain⟨t1,rfl⟩:=r1
    obtain⟨t2,rfl⟩:=r2
    refine kat_cons (wpAny_eqBool_int (kat_go (λe2=>kat_yes ?_) (λe2=>kat_no ?_)))
    ·refine kat_nil (hq _ ?_)
     have z2:i=j:=by simpa using e2
     subst z2
     simp[fj]
    ·refine kat_one _ _ (xQ ?_)
     show Q (decide (i < j)) s
     exact hq _ (by simp[fj])
  | inr i=>
   cases j with
   | inl j=>simp[jv] at op oq;omega
   | inr j=>
    obtain⟨t1,rfl⟩:=r1
    obtain⟨t2,rfl⟩:=r2
    refine kat_cons (wpAny_eqBool_str (kat_go (λe2=>kat_yes ?_) (λe2=>kat_no ?_)))
    ·refine kat_nil (hq _ ?_)
     have z2:i=j:=by simpa using e2
     subst z2
     cases e3:xh i i with
     | false=>simp[fj,e3]
     | true=>have:=xi e3;rw[e3] at this;cases this
    ·refine kat_one _ _ (Gi ?_)
     show Q (decide (i.cps.toList < j.cps.toList)) s
     exact hq _ (by simp[fj,xh])
 ·refine oneLt_int (hq _ ?_)
  have z1:¬a=b:=by simpa using e
  cases i<;>cases j<;>simp[fj,z1]
end
theorem rN{h:Heap}:∀{its:List Zq}{ps:List Kw},Paired (AB h) its ps->∃fs:List Zq,KatTups h its fs/\fs.length=ps.length/\∀v∈fs,∃i t,v= .int i t
 | _,_,.nil=>⟨[],.nil,rfl,(λ_ z=>by cases z)⟩
 | _,_,.cons (b:=q) hd tl=>by
  obtain⟨fs,k1,k2,k3⟩:=rN tl
  obtain⟨a,o,t,u,n,rfl,g1,g2,g3,_⟩:=hd
  refine⟨.int q.1 t::fs,.cons g1 g2 g3 rfl k1,by simp[k2],λv hv=>?_⟩
  rcases List.mem_cons.mp hv with z | z
  ·exact⟨_,_,z⟩
  ·exact k3 v z
def xj:Wv->Option Kw
 | .tup [.int a,.int i]=>if a=1 then none else some (a,.inl i)
 | .tup [.int a,.str x]=>if a=1 then some (a,.inr x) else none
 | _=>none
def lU:List Wv->Option (List Kw)
 | []=>some []
 | w::r=>(match xj w,lU r with | some k,some l=>some (k::l) | _,_=>none)
theorem yH{w:Wv}{k:Kw}(h:xj w=some k):jv k=true/\∃x,w= .tup [.int k.1,x]/\(x=(match k.2 with | .inl i=>Wv.int i | .inr y=> .str y)):=by
 unfold xj at h
 split at h
 ·split at h
  ·cases h
  ·rename_i n;cases h;exact⟨by simp[jv,n],_,rfl,rfl⟩
 ·split at h
  ·rename_i n;cases h;exact⟨by simp[jv,n],_,rfl,rfl⟩
  ·cases h
 ·cases h
theorem vd:∀{ws:List Wv}{ks:List Kw},lU ws=some ks->ks.length=ws.length/\∀k∈ks,jv k=true
 | [],ks,h=>by cases h;exact⟨rfl,(λ_ z=>by cases z)⟩
 | w::r,ks,h=>by
  unfold lU at h
  cases e1:xj w with
  | none=>rw[e1] at h;cases h
  | some k=>
   cases e2:lU r with
   | none=>rw[e1,e2] at h;cases h
   | some l=>
    rw[e1,e2] at h
    cases h
    obtain⟨h1,h2⟩:=vd e2
    refine⟨by simp[h1],λz hz=>?_⟩
    rcases List.mem_cons.mp hz with q | q
    ·rw[q];exact(yH e1).1
    ·exact h2 z q
section
variable {X:Cx} {pins:List (Zk×Obj)} {σ:L2.St} {H:Hp} {s:Zp} {m:Mp}
theorem Gj(I:Inv X pins σ H s){w:Wv}{v:V}{u:Zq}{k:Kw}(h:xj w=some k)(r:aj X.K m H w v)(ru:RelV v u):AB s.heap u k:=by
 obtain⟨_,x,rfl,hx⟩:=yH h
 unfold aj at r
 obtain⟨a,xs,rfl,hT,rs⟩:=r
 cases ru
 obtain⟨its,rv,⟨o,g1,g2,n,g3⟩,_⟩:=I.tuple (dh.of hT)
 unfold af at rs
 obtain⟨v1,t1,rfl,q1,rs⟩:=rs
 unfold af at rs
 obtain⟨v2,t2,rfl,q2,rs⟩:=rs
 unfold af at rs
 subst rs
 have e1:v1= .int k.1:=by unfold aj at q1;exact q1
 have e2:v2=vK k.2:=by
  obtain⟨b,y | y⟩:=k<;>subst hx<;>unfold aj at q2
  ·exact q2
  ·exact q2.1
 subst e1 e2
 cases rv with
 | cons z1 rv=>
  cases rv with
  | cons z2 rv=>
   cases rv
   obtain⟨t,rfl⟩:=z1
   exact⟨a,o,t,_,n,rfl,g1,g2,g3,z2⟩
theorem yI(I:Inv X pins σ H s):∀{ws:List Wv}{vs:List V}{us:List Zq}{ks:List Kw},lU ws=some ks->af X.K m H ws vs->Vals vs us->Paired (AB s.heap) us ks
 | [],vs,us,ks,h,r,ru=>by
  unfold af at r
  subst r
  cases h
  cases ru
  exact .nil
 | w::t,vs,us,ks,h,r,ru=>by
  unfold af at r
  obtain⟨v,vr,rfl,r1,r2⟩:=r
  unfold lU at h
  cases e1:xj w with
  | none=>rw[e1] at h;cases h
  | some k=>
   cases e2:lU t with
   | none=>rw[e1,e2] at h;cases h
   | some l=>
    rw[e1,e2] at h
    cases h
    cases ru with
    | cons z1 z2=>exact .cons (Gj I e1 r1 z1) (yI I e2 r2 z2)
end
def kd:Kw:=(0,.inl 0)
def ltB(b:Bool)(ks:List Kw)(i j:Nat):Bool:=if b then fj (ks.getD j kd) (ks.getD i kd) else fj (ks.getD i kd) (ks.getD j kd)
def M4(b:Bool)(ks:List Kw)(i j:Nat):Bool:=!ltB b ks j i&&(ltB b ks i j||decide (i < j))
def ve(b:Bool)(ks:List Kw)(n:Nat):List Nat->List Nat
 | []=>[n]
 | x::r=>if M4 b ks n x then n::x::r else x::ve b ks n r
def AD(b:Bool)(ks:List Kw):List Nat->List Nat
 | []=>[]
 | n::r=>ve b ks n (AD b ks r)
theorem yJ{b:Bool}{ks:List Kw}{i j:Nat}:M4 b ks i j=true↔uo (ltB b ks) i j:=by
 unfold M4 uo
 cases ltB b ks j i<;>cases ltB b ks i j<;>simp
theorem Ij{ks:List Kw}(h:∀k∈ks,jv k=true)(i:Nat):jv (ks.getD i kd)=true:=by
 by_cases c:i < ks.length
 ·have e:ks.getD i kd=ks[i]:=by simp[List.getD,c]
  rw[e];exact h _ (pK c)
 ·have e:ks.getD i kd=kd:=by rw[a_,Ds (by omega)];rfl
  rw[e];rfl
theorem oA{b:Bool}{ks:List Kw}(h:∀k∈ks,jv k=true):Ord (ltB b ks):=by
 have k:=Ij h
 refine⟨λx y e=>?_,λx y z e f=>?_⟩<;>unfold ltB at * <;>cases b<;>simp only[if_true,if_false,pz] at *
 ·exact pS (k _) (k _) e
 ·exact pS (k _) (k _) e
 ·exact tG (k _) (k _) (k _) e f
 ·exact tG (k _) (k _) (k _) f e
theorem Gk{b:Bool}{ks:List Kw}(h:∀k∈ks,jv k=true){i j:Nat}(n:i≠j)(e:M4 b ks i j=false):M4 b ks j i=true:=by
 have o:=oA (b:=b) h
 unfold M4 at *
 cases e1:ltB b ks j i with
 | true=>rw[o.as _ _ e1];simp
 | false=>
  rw[e1] at e
  simp at e
  simp[e.1]
  omega
theorem mP{b:Bool}{ks:List Kw}(n:Nat):∀l,(ve b ks n l).Perm (n::l)
 | []=> .refl _
 | x::r=>by
  unfold ve
  split
  ·exact .refl _
  ·exact((mP n r).cons x).trans (.swap n x r)
theorem fT{b:Bool}{ks:List Kw}:∀l,(AD b ks l).Perm l
 | []=> .refl _
 | n::r=>(mP n _).trans ((fT r).cons n)
theorem yK{b:Bool}{ks:List Kw}(h:∀k∈ks,jv k=true)(n:Nat):∀l,n∉l->l.Pairwise (uo (ltB b ks))->(ve b ks n l).Pairwise (uo (ltB b ks))
 | [],_,_=>by simp[ve]
 | x::r,hn,hp=>by
  have o:=oA (b:=b) h
  unfold ve
  rw[fG] at hp
  split
  ·rename_i e
   have e':=yJ.mp e
   refine List.pairwise_cons.mpr ⟨λy hy=>?_,List.pairwise_cons.mpr hp⟩
   rcases List.mem_cons.mp hy with q | q
   ·rw[q];exact e'
   ·exact e'.trans o (hp.1 y q)
  ·rename_i e
   have e':=yJ.mp (Gk (i:=n) (j:=x) h (λz=>hn (by rw[z];exact aI)) (by simpa using e))
   refine List.pairwise_cons.mpr ⟨λy hy=>?_,yK h n r (λz=>hn (aD _ z)) hp.2⟩
   rcases List.mem_cons.mp ((mP n r).mem_iff.mp hy) with q | q
   ·rw[q];exact e'
   ·exact hp.1 y q
theorem tH{b:Bool}{ks:List Kw}(h:∀k∈ks,jv k=true):∀l:List Nat,l.Nodup->(AD b ks l).Pairwise (uo (ltB b ks))
 | [],_=> .nil
 | n::r,hn=>by
  rw[List.nodup_cons] at hn
  exact yK h n _ (λz=>hn.1 ((fT r).mem_iff.mp z)) (tH h r hn.2)
theorem Gm{lt:Nat->Nat->Bool}(o:Ord lt){a b:Nat}(h:uo lt a b)(k:uo lt b a):False:=by
 have h1:=h.2 k.1
 have h2:=k.2 h.1
 omega
theorem vf{b:Bool}{ks:List Kw}(h:∀k∈ks,jv k=true){l r:List Nat}(hn:r.Nodup)(hp:l.Perm r)(hu:l.Pairwise (uo (ltB b ks))):l=AD b ks r :=
 wU (λa b _ _ h1 h2=>(Gm (oA h) h1 h2).elim) hu (tH h r hn) (hp.trans (fT r).symm)
structure EH(X:Cx)(pins:List (Zk×Obj))(base:Heap)(D kS:Zk):Prop where
 ne:kS≠D
 D1:∀H:Hp,H D=none->cG X pins H D
 K1:∀H:Hp,H kS=none->cG X pins H kS
 bz:base.objs.size<=D
 bk:base.get? kS=none
 bL:base.get? X.env.locals=none
 bf:∀b∈frs X.stack,base.get? b=none
 mod:Mod X.K X.mg base
structure xk(X:Cx)(pins:List (Zk×Obj))(σ:L2.St)(base:Heap)(m0:Mp)(H0:Hp)(st:Hs)(D kS:Zk)(e1:Nat)(s:Zp)(H:Hp)(m:Mp):Prop where
 I:Inv X pins σ H s
 bs:∀b o,base.get? b=some o->s.heap.get? b=some o/\H b=none
 S:aQ X.K m st H
 ex:Ext X.K m0 H0 m H
 hD:s.heap.get? D=some (seqObj "list" #[] e1)
 nD:H D=none
 nK:H kS=none
section
variable {X:Cx} {pins:List (Zk×Obj)} {σ:L2.St} {base:Heap} {m0 m m':Mp} {H0 H H':Hp} {st:Hs} {D kS:Zk} {e1:Nat} {s s':Zp}
theorem EH.nf(d:EH X pins base D kS)(I:Inv X pins σ H s)(hD:H D=none)(hK:H kS=none):D∉frs X.stack/\kS∉frs X.stack:=by
 obtain⟨_,a1,a2,_⟩:=d.D1 H hD
 obtain⟨_,b1,b2,_⟩:=d.K1 H hK
 exact⟨λz=>(List.mem_cons.mp (I.hV D z)).elim a1 a2,λz=>(List.mem_cons.mp (I.hV kS z)).elim b1 b2⟩
theorem xk.Jz(d:EH X pins base D kS)(k:xk X pins σ base m0 H0 st D kS e1 s H m):mv X.prog X.w X.K X.mg base X.A X.stack s H :=
 ⟨k.I.ok.frames,d.mod,k.bs,bE d.bz (iJ (ax k.hD)),yE (λenv he L hL=>d.bf L (List.mem_filterMap.mpr ⟨env,he,hL⟩)) k.I.stack,k.I.gH,k.I.hok,k.I.bare⟩
theorem xk.call(d:EH X pins base D kS)(k:xk X pins σ base m0 H0 st D kS e1 s H m){ks:Array Zq}{e:Nat}(hk:s.heap.get? kS=some (seqObj "list" ks e))(os:s'.os=s.os)(bare:AllBare s'.gens)(un:Un (frs X.stack) [] H H' s.heap s'.heap)(hok:j9 X.prog X.w H' s'.heap)
  (ex:Ext X.K m H m' H')(S:aQ X.K m' st H'):xk X pins σ base m0 H0 st D kS e1 s' H' m'/\s'.heap.get? kS=some (seqObj "list" ks e):=by
 obtain⟨f1,f2⟩:=d.nf k.I k.nD k.nK
 refine⟨⟨k.I.qU (ch:=[]) os un hok bare (λb z=>absurd z (by simp)),λb o e=>?_,S,k.ex.trans ex,un.keep _ _ k.hD k.nD f1 (by simp),un.free _ _ k.hD k.nD (by simp),un.free _ _ hk k.nK (by simp)⟩,un.keep _ _ hk k.nK f2 (by simp)⟩
 obtain⟨h1,h2⟩:=k.bs b o e
 exact⟨un.keep b o h1 h2 (λz=>by rw[d.bf b z] at e;cases e) (by simp),un.free b o h1 h2 (by simp)⟩
theorem xk.wrote(d:EH X pins base D kS)(k:xk X pins σ base m0 H0 st D kS e1 s H m){ks:Array Zq}{e:Nat}(hk:s.heap.get? kS=some (seqObj "list" ks e))(f:Array Zq->Array Zq) :
  xk X pins σ base m0 H0 st D kS e1 { s with heap:=s.heap.update kS (aW f) } H m:=by
 obtain⟨_,a1,a2,a3,a4,a5⟩:=d.K1 H k.nK
 have keep:∀b o,b≠kS->s.heap.get? b=some o->(s.heap.update kS (aW f)).get? b=some o:=λb o n e=>((pT s.heap kS (aW f)).2 b n).trans e
 refine⟨k.I.turned (t':=s.toks) keep k.nK a1 a3 a4 a5,λb o e=>?_,k.S,k.ex,keep _ _ (bg d.ne) k.hD,k.nD,k.nK⟩
 obtain⟨h1,h2⟩:=k.bs b o e
 exact⟨keep b o (λz=>by rw[z,d.bk] at e;cases e) h1,h2⟩
theorem vg{k0:Nat}{f:Zk}{sp:V->Hp->VK->Prop}{body:Zq->PUnit->Sem (ForInStep PUnit)}{R:PUnit->Zp->Prop}{E:Zq->Zp->Prop}(d:EH X pins base D kS)(kf:Qq X.prog X.w X.K X.mg base k0 f sp)(hr:dD (k0+2) X.A)
  (hb:∀x (s:Zp) (Q:Zp->Prop),ZG (model X.prog X.w) X.A.in1.in1 (call (.ref f) [x]) (λk s'=>∃(ks:Array Zq)(e:Nat),s'.heap.get? kS=some (seqObj "list" ks e)/\ks.size < 64/\Q { s' with heap:=s'.heap.update kS (aW (·.push k)) }) (λ_ _=>False) s->
   ZG (model X.prog X.w) X.A.in1.in1 (body x ⟨⟩) (λr s'=>r= .yield ⟨⟩/\Q s') E s) :
  ∀(r:List Zq)(rv:List V)(rw' kr kd:List Wv)(kv:List V)(ks:List Zq)(e:Nat)(s:Zp)(H:Hp)(m:Mp),xk X pins σ base m0 H0 st D kS e1 s H m->s.heap.get? kS=some (seqObj "list" ks.toArray e)->Vals kv ks->af X.K m H kd kv->Vals rv r->af X.K m H rw' rv->
   ks.length+r.length < 64->kr.length=rw'.length->(∀(i:Nat) w kw,rw'[i]? =some w->kr[i]? =some kw->∀(H':Hp)(m':Mp)(v:V)(Q:VK),Ext X.K m0 H0 m' H'->aQ X.K m' st H'->aj X.K m' H' w v->BM X.K m' H' Q kw st->sp v H' Q)->
   (∀(s':Zp)(H':Hp)(m':Mp)(kv':List V)(ks':List Zq)(e':Nat),xk X pins σ base m0 H0 st D kS e1 s' H' m'->Ext X.K m H m' H'->s'.heap.get? kS=some (seqObj "list" ks'.toArray e')->Vals kv' ks'->af X.K m' H' (kd++kr) kv'->R ⟨⟩ s')->
   ZG (model X.prog X.w) X.A.in1.in1 (forIn r PUnit.unit body) R E s
 | [],rv,rw',kr,kd,kv,ks,e,s,H,m,k,hk,vk,rk,vr,rr,hl,Qr,hs,fin=>by
  cases vr
  have:rw'=[]:=by
   cases rw' with
   | nil=>rfl
   | cons a t=>unfold af at rr;obtain⟨_,_,e,_⟩:=rr;cases e
  subst this
  have:kr=[]:=List.length_eq_zero_iff.mp Qr
  subst this
  rw[List.forIn_nil]
  exact ZM (fin s H m kv ks e k Ext.refl hk vk (by rw[hX];exact rk))
 | x::r,rv,rw',kr,kd,kv,ks,e,s,H,m,k,hk,vk,rk,vr,rr,hl,Qr,hs,fin=>by
  cases vr with
  | cons rx vr=>
   rename_i v rv
   cases rw' with
   | nil=>unfold af at rr;cases rr
   | cons w rw'=>
    unfold af at rr
    obtain⟨_,_,ee,r1,r2⟩:=rr
    cases ee
    cases kr with
    | nil=>cases Qr
    | cons kw kr=>
     rw[sV]
     have Pc:=kf X.A.in1.in1 X.stack s H x v (λv' H'=>∃m',Ext X.K m H m' H'/\aQ X.K m' st H'/\aj X.K m' H' kw v') (dD.in1 (dD.in1 hr)) (mv.in1 (mv.in1 (k.Jz d))) rx
      (hs 0 w kw rfl rfl H m v _ k.ex k.S r1 λv' m' H' e' S' r'=>⟨m',e',S',r'⟩)
     refine ZH (ZJ (hb x s (λs2=>ZG (model X.prog X.w) X.A.in1.in1 (forIn r PUnit.unit body) R E s2) (ZJ Pc (λu s1 hq=>?_) λ_ _ z=>z)) (λq s2 hq=>?_) λ_ _ z=>z)
     ·obtain⟨v',H1,os,bare,un,hok,ru,m1,Qs,S1,W'⟩:=hq
      obtain⟨k1,hk1⟩:=k.call d hk os bare un hok Qs S1
      refine⟨ks.toArray,e,hk1,by simp at hl ⊢;omega,?_⟩
      have hk2:=get?_update_seq hk1 (·.push u)
      have ea:ks.toArray.push u=(ks++[u]).toArray:=by simp
      rw[ea] at hk2
      refine vg d kf hr hb r rv rw' kr (kd++[kw]) (kv++[v']) (ks++[u]) _ _ H1 m1 (k1.wrote d hk1 (·.push u)) hk2 (vk.append (.cons ru .nil)) (af.append (af.mono Qs _ _ rk) (af.cons W' af.nil)) vr (af.mono Qs _ _ r2) (by simp at hl ⊢;omega) (by simpa using Qr) (λi w2 Xa h1 h2=>hs (i+1) w2 Xa (by simpa using h1) (by simpa using h2)) λs' H' m' kv' ks' e' k' ex' hk' So Qt=>?_
      exact fin s' H' m' kv' ks' e' k' (Qs.trans ex') hk' So (by rw[ij] at Qt;exact Qt)
     ·obtain⟨rfl,hq⟩:=hq
      exact hq
end
def iq(b:Bool)(kk:List Kw):List Nat:=AD b kk (aJ kk.length)
theorem pU{α β:Type}{F:α->β->Prop}{l':List α}{k':List β}(h':Paired F l' k'):∀{l:List α}{k:List β},Paired F l k->Paired F (l++l') (k++k')
 | _,_,.nil=>h'
 | _,_,.cons h t=> .cons h (pU h' t)
theorem kL{α β:Type}{F:α->β->Prop}:∀{l:List α}{k:List β},Paired F l k->Paired F l.reverse k.reverse
 | _,_,.nil=> .nil
 | _,_,.cons h t=>by
  rw[oB,oB]
  exact pU (.cons h .nil) (kL t)
theorem pV{α:Type}{d:α}(l:List α){i:Nat}(h:i < l.length):l.reverse.getD i d=l.getD (l.length - 1 - i) d:=by
 simp[a_,LG h]
theorem yL{p:Array Nat}{i:Nat}(h:i < p.toList.length):at_ p i=p.toList[i]:=by
 have:i < p.size:=by simpa using h
 simp[at_,yw,this]
theorem Gn{b:Bool}{kk:List Kw}(hk:∀k∈kk,jv k=true){p:Array Nat}(h1:Pm kk.length p)(h2:vY (λi j=>fj ((katRev b kk).getD i kd) ((katRev b kk).getD j kd)) p kk.length){α:Type}(its:List α)(dd:α)(hl:its.length=kk.length) :
  katRev b (p.toList.map λi=>(katRev b its).getD i dd)=(iq b kk).map λi=>its.getD i dd:=by
 have mem:∀i∈p.toList,i < kk.length:=λi hi=>List.mem_range.mp (h1.pm.mem_iff.mp hi)
 have pw:p.toList.Pairwise λa c=>uo (λi j=>fj ((katRev b kk).getD i kd) ((katRev b kk).getD j kd)) a c:=by
  rw[s_]
  intro i j hi hj hij
  rw[<-yL hi,<-yL hj]
  exact h2 i j hij (by have:=h1.sz;simp at hj;omega)
 cases b with
 | false=>
  have e:p.toList=iq false kk:=vf hk tI h1.pm (pw.imp λ{a c} h=>h)
  rw[<-e]
  simp[katRev]
 | true=>
  have e:(p.toList.map λi=>kk.length - 1 - i).reverse=iq true kk:=by
   refine vf hk tI ?_ ?_
   ·refine(List.reverse_perm _).trans ((h1.pm.map _).trans ?_)
    refine List.perm_iff_count.mpr λa=>?_
    have nd:((aJ kk.length).map λi=>kk.length - 1 - i).Nodup:=by
     rw[Gp,ou]
     have:=tI (n:=kk.length)
     rw[Gp] at this
     refine this.imp_of_mem λ{x y} hx hy n=>?_
     rw[List.mem_range] at hx hy
     omega
    rw[nd.count,List.nodup_range.count]
    have:(a∈(aJ kk.length).map λi=>kk.length - 1 - i)↔a∈aJ kk.length:=by
     simp only[List.mem_map,List.mem_range]
     constructor
     ·rintro⟨x,hx,rfl⟩;omega
     ·intro h;exact⟨kk.length - 1 - a,by omega,by omega⟩
    simp only[this]
   ·rw[List.pairwise_reverse,ou]
    refine pw.imp_of_mem λ{x y} hx hy h=>?_
    have lx:=mem x hx
    have ly:=mem y hy
    simp only[katRev,if_true,uo,pV kk lx,pV kk ly] at h
    exact⟨by simpa [ltB] using h.1,λz=>by have:=h.2 (by simpa [ltB] using z);omega⟩
  rw[<-e]
  simp only[katRev,if_true,oD,bW]
  congr 1
  refine pW λi hi=>?_
  simp only[Function.comp]
  have:=mem i hi
  rw[pV its (by omega),hl]
theorem oE{b:Bool}{kk:List Kw}{i:Nat}(h:i∈iq b kk):i < kk.length:=List.mem_range.mp ((fT _).mem_iff.mp h)
theorem vh{b:Bool}{kk:List Kw}:(iq b kk).length=kk.length:=by unfold iq;rw[(fT _).length_eq];simp
theorem yM{K:PySem.W.Frag}{m:Mp}{H:Hp}{ws:List Wv}{vs:List V}(r:af K m H ws vs):∀(l:List Nat),(∀i∈l,i < ws.length)->af K m H (l.map λi=>ws.getD i .aP) (l.map λi=>vs.getD i .aP)
 | [],_=>af.nil
 | i::l,h=>by
  have hi:=h i (by simp)
  obtain⟨x,e,rx⟩:=r.get (i:=i) (w:=ws.getD i .aP) (by simp[a_,hi])
  have e2:vs.getD i .aP=x:=by rw[a_,e];rfl
  rw[aZ,aZ,e2]
  exact af.cons rx (yM r l λj hj=>h j (by simp[hj]))
section
variable {X:Cx} {pins:List (Zk×Obj)} {σ:L2.St} {base:Heap} {m0 m m':Mp} {H0 H H':Hp} {st:Hs} {D kS:Zk} {e1:Nat} {s s':Zp}
theorem xk.done(d:EH X pins base D kS)(k:xk X pins σ base m0 H0 st D kS e1 s H m){out:List Zq}{vs:List V}(hv:Vals vs out)(hz:vs.length < 64) :
  Inv X pins σ (upd H D (.lst vs)) { s with heap:=s.heap.update D (aW λ_=>out.toArray) }:=by
 obtain⟨_,a1,a2,a3,a4,a5⟩:=d.D1 H k.nD
 have I:=k.I
 have keep:∀b o,b≠D->s.heap.get? b=some o->(s.heap.update D (aW λ_=>out.toArray)).get? b=some o:=λb o n e=>((pT s.heap D _).2 b n).trans e
 have hD:=get?_update_seq k.hD λ_=>out.toArray
 have Ba:∀b u,H b=some u->b≠D:=λb u e=>aY e k.nD
 refine I.step (g':=s.gens) (d':=s.drawn) (t':=s.toks) (ch:=[D]) (λb z=>?_) (λb o _ _ n e _=>keep b o (by simpa using n) e) (λb o _ _ n e _=>⟨o.slots,keep b o (by simpa using n) e⟩) (λb o n e z=>by rw[aw (by simpa using n)];exact z) (λb o n e=>⟨o,keep b o (by simpa using n) e⟩)
  (λb xs e=>by rw[aw (Ba _ _ e)];exact e) (λb o u e=>by rw[aw (Ba _ _ e)];exact e) (λb ps e=>⟨#[],by rw[aw (Ba _ _ e),e];simp⟩) (λm' hm=>?_) (λb ob e=>?_) I.bare
 ·have e:b=D:=by simpa using z
  subst e
  exact⟨a3,a1,a4,a5⟩
 ·obtain⟨o,es,ep,ho,r⟩:=hm
  exact⟨o,es,ep,keep _ o (bg a1) ho,r⟩
 ·by_cases z:b=D
  ·subst z
   rw[aL] at e
   cases e
   exact⟨by rw[sizeLine_eq];omega,out,_,hv,hD⟩
  ·rw[aw z] at e
   refine(I.hok b ob e).stay (λc v hc q=>keep c v ?_ q) (λc q=>by rw[aw (Ba _ _ q)];exact q) λc xs q=>by rw[aw (Ba _ _ q)];exact q
   rcases hc with y | y
   ·rw[y];exact z
   ·exact Ba c _ y
theorem vj{b:Bool}{Sq:ZP}{out:List Zq}{vs:List V}{ks:Array Zq}{e:Nat}{P:PySem.Fin->Zp->Prop}{A:Zl}{E:Zq->Zp->Prop}(d:EH X pins base D kS)(k:xk X pins σ base m0 H0 st D kS e1 s H m)(hk:s.heap.get? kS=some (seqObj "list" ks e))
  (hz:ks.size < 64)(ho:(arrOf Sq).map (·.2)=out.toArray)(hf:failedOf Sq=none)(hv:Vals vs (katRev b out))(hl:vs.length < 64)(fin:∀s',Inv X pins σ (upd H D (.lst vs)) s'->P (.done (.ret .none)) s'):ZG (model X.prog X.w) A (ksk_tail D b e1 (.ref kS) Sq) P E s:=by
 have k2:=k.wrote d hk λ_=>#[]
 have lo:out.length < 64:=by have:=hv.length;rw[kat_len] at this;omega
 unfold ksk_tail
 dsimp only
 rw[ho,kat_outs]
 refine ZH (listUpdate_at hk rfl (ZH (wpAny_letGo (ZH (seqEpoch_at k2.hD rfl (ZH (listUpdate_at k2.hD rfl ?_ (by simp) (by simp[kat_len,sizeLine_eq];omega))))))) (by rw[sizeLine_eq];omega) (by simp))
 rw[hf]
 simp only[bne_self_eq_false,pz,if_false]
 exact ZM (fin _ (k2.done d hv hl))
theorem Gq{b:Bool}{kk:List Kw}{its ks:List Zq}{vs kv:List V}{ws kws:List Wv}{e:Nat}{P:PySem.Fin->Zp->Prop}{A:Zl}{E:Zq->Zp->Prop}(d:EH X pins base D kS)(k:xk X pins σ base m0 H0 st D kS e1 s H m)(hk:s.heap.get? kS=some (seqObj "list" ks.toArray e))
  (hv:Vals vs its)(rv:af X.K m H ws vs)(hkv:Vals kv ks)(rk:af X.K m H kws kv)(hkk:lU kws=some kk)(hl:kws.length=ws.length)(hz:ws.length < 64)
  (fin:∀s' vs',Inv X pins σ (upd H D (.lst vs')) s'->af X.K m H ((iq b kk).map λi=>ws.getD i .aP) vs'->P (.done (.ret .none)) s'):ZG (model X.prog X.w) A (ksk_end D b its.toArray e1 (.ref kS) ks.toArray) P E s:=by
 obtain⟨lk,Pd⟩:=vd hkk
 have l1:=hv.length
 have l2:=rv.length
 have l3:=hkv.length
 have l4:=rk.length
 have tk:=yI k.I hkk rk hkv
 have step:∀t:Sem PySem.Fin,ZG (model X.prog X.w) A t P E s->ZG (model X.prog X.w) A (if b=true then(do let _ <-rule "list.sort.reverse";t) else t) P E s:=λt ht=>by
  cases b
  ·exact ht
  ·exact ZH (wpAny_rule ht)
 have hvs:Vals ((iq b kk).map λi=>vs.getD i .aP) ((iq b kk).map λi=>its.getD i bC):=iR λi hi=>cA hv (by have:=oE hi;omega)
 have Sr:=yM rv (iq b kk) λi hi=>by have:=oE hi;omega
 have fin':=λs' I=>fin s' _ I Sr
 unfold ksk_end
 dsimp only
 refine step _ ?_
 by_cases c:its.length < 2
 ·have c':its.toArray.size < 2:=by simpa using c
  rw[if_pos c',if_pos c']
  refine ZH (ZM (ZH ?_))
  rw[StateT.run_pure]
  refine ZM ?_
  refine vj (b:=b) (out:=katRev b its) d k hk (by simp;omega) ?_ rfl (vs:=(iq b kk).map λi=>vs.getD i .aP) ?_ (by rw[aH,vh];omega) fin'
  ·show Array.map (λx:ZO=>x.2) (if b=true then(ks.toArray.zip its.toArray).reverse else ks.toArray.zip its.toArray)=_
   have:ks.length=its.length:=by omega
   match its,ks,this,c with
   | [],[],_,_=>cases b<;>simp[katRev]
   | [v],[u],_,_=>cases b<;>simp[katRev]
  ·have e:katRev b (katRev b its)=(iq b kk).map λi=>its.getD i bC:=by
    have z:katRev b (katRev b its)=its:=by cases b<;>simp[katRev]
    rw[z]
    have n:kk.length=its.length:=by omega
    match its,kk,n,c with
    | [],[],_,_=>rfl
    | [v],[u],_,_=>simp[iq,AD,List.range_succ,ve]
   rw[e];exact hvs
 ·have c':¬its.toArray.size < 2:=by simpa using c
  rw[if_neg c',if_neg c']
  obtain⟨fs,k1,k2,k3⟩:=rN tk
  refine ZH (kat_kind (T:=.type "int") k1 (by omega) (λv hv=>by obtain⟨i,t,rfl⟩:=k3 v hv;exact Looks.of_pure rfl) (by decide) ?_)
  have et:(dw "int" != dw "tuple")=true:=by decide
  rw[et,kat_pairs b (by omega)]
  have hlr:(katRev b ks).length=(katRev b its).length:=by rw[kat_len,kat_len];omega
  refine ZH (ZJ (kat_run (Q:=λst' s'=>s'=s/\∃p:Array Nat,p.size=(katRev b its).length/\arrOf st'=p.map (kas_item ((katRev b ks).toArray.zip (katRev b its).toArray))/\failedOf st'=none/\Pm kk.length p/\vY (λi j=>fj ((katRev b kk).getD i kd) ((katRev b kk).getD j kd)) p kk.length)
   (G:=λp s'=>s'=s/\Pm kk.length p/\vY (λi j=>fj ((katRev b kk).getD i kd) ((katRev b kk).getD j kd)) p kk.length) hlr (by rw[kat_len];omega) (by rw[kat_len];omega) (λp st' s' a1 a2 a3 ⟨a4,a5⟩=>⟨a4,p,a1,a2,a3,a5⟩) ?_) ?_ λ_ _ x=>x)
  ·have od:Ord λi j=>fj ((katRev b kk).getD i kd) ((katRev b kk).getD j kd):=by
    have Qu:∀x∈katRev b kk,jv x=true:=λx hx=>Pd x (by cases b<;>simpa [katRev] using hx)
    have q:=oA (b:=false) Qu
    exact⟨λx y e=>q.as x y (by simpa [ltB] using e),λx y z e f=>by simpa [ltB] using q.tr x y z (by simpa [ltB] using e) (by simpa [ltB] using f)⟩
   have tr:Paired (AB s.heap) (katRev b ks) (katRev b kk):=by cases b<;>simp only[katRev,if_true,pz,if_false];exact tk;exact kL tk
   have Qu:∀i,i < kk.length->jv ((katRev b kk).getD i kd)=true:=λi _=>Ij (λx hx=>Pd x (by cases b<;>simpa [katRev] using hx)) i
   have en:(katRev b its).length=kk.length:=by rw[kat_len];omega
   rw[en]
   refine Kg.wp (lt:=λi j=>fj ((katRev b kk).getD i kd) ((katRev b kk).getD j kd)) (N:=kk.length) (P:=λs''=>s''=s) (λi j C s'' hi hj hs hC=>?_) rfl ((Gf od (by omega)).imp λpm ⟨P1,P2⟩ s'' hs=>⟨hs,P1,P2⟩)
   subst hs
   have hi':i < (katRev b kk).length:=by rw[kat_len];exact hi
   have hj':j < (katRev b kk).length:=by rw[kat_len];exact hj
   unfold kas_ask
   exact Gh (cA (a:=bC) (b:=kd) tr hi') (cA (a:=bC) (b:=kd) tr hj') (Qu i hi) (Qu j hj) (hC _ rfl)
  ·rintro⟨⟨⟩,st'⟩ s' ⟨rfl,p,hp,har,hf,p1,p2⟩
   dsimp only
   refine vj (b:=b) (out:=p.toList.map λi=>(katRev b its).getD i bC) d k hk (by simp;omega) (kat_snds hlr har) hf (vs:=(iq b kk).map λi=>vs.getD i .aP) ?_ (by rw[aH,vh];omega) fin'
   rw[Gn Pd p1 p2 its bC (by omega)]
   exact hvs
end
section
variable {X:Cx} {pins:List (Zk×Obj)} {σ:L2.St} {base:Heap} {m:Mp} {H:Hp} {st:Hs} {s:Zp}
def Ik(X:Cx)(m:Mp)(H:Hp)(st:Hs)(sp:V->Hp->VK->Prop)(ws kws:List Wv):Prop:=kws.length=ws.length/\∀(i:Nat) w kw,ws[i]? =some w->kws[i]? =some kw->∀(H':Hp)(m':Mp)(v:V)(Q:VK),Ext X.K m H m' H'->aQ X.K m' st H'->aj X.K m' H' w v->BM X.K m' H' Q kw st->sp v H' Q
structure LH(X:Cx)(base:Heap)(s:Zp)(H:Hp):Prop where
 bs:∀b o,base.get? b=some o->s.heap.get? b=some o/\H b=none
 bz:base.objs.size<=s.heap.objs.size
 bL:base.get? X.env.locals=none
 bf:∀b∈frs X.stack,base.get? b=none
 mod:Mod X.K X.mg base
theorem Dt{k0:Nat}{f D:Zk}{sp:V->Hp->VK->Prop}{b:Bool}{its:List Zq}{n:Nat}{vs:List V}{ws kws:List Wv}{kk:List Kw}{P:PySem.Fin->Zp->Prop}{E:Zq->Zp->Prop}(kf:Qq X.prog X.w X.K X.mg base k0 f sp)(hr:dD (k0+2) X.A)(I:Inv X pins σ H s)(S:aQ X.K m st H)
  (hD:s.heap.get? D=some (seqObj "list" its.toArray n))(nD:H D=none)(fD:∀H:Hp,H D=none->cG X pins H D)(B:LH X base s H)(bD:base.objs.size<=D)(hv:Vals vs its)(rv:af X.K m H ws vs)(hs:Ik X m H st sp ws kws)(hkk:lU kws=some kk)(hz:ws.length < 64)
  (fin:∀s' H' m' vs',Inv X pins σ (upd H' D (.lst vs')) s'->H' D=none->Ext X.K m H m' H'->aQ X.K m' st H'->af X.K m' H' ((iq b kk).map λi=>ws.getD i .aP) vs'->P (.done (.ret .none)) s') :
  ZG (model X.prog X.w) X.A.in1.in1 (ksk_tree D (.ref f) b) P E s:=by
 have l1:=hv.length
 have l2:=rv.length
 have z1:its.length < 64:=by omega
 have Qv:=get?_update_seq hD λ_=>(#[]:Array Zq)
 obtain⟨_,a1,a2,a3,a4,a5⟩:=fD H nD
 have I1:Inv X pins σ H { s with heap:=s.heap.update D (aW λ_=>(#[]:Array Zq)) }:=I.turned (t':=s.toks) (λc o n e=>((pT s.heap D _).2 c n).trans e) nD a1 a3 a4 a5
 generalize Vt:s.heap.update D (aW λ_=>(#[]:Array Zq))=h1 at Qv I1
 have Vu:∀b o,base.get? b=some o->h1.get? b=some o/\H b=none:=λc o e=>by
  obtain⟨q1,q2⟩:=B.bs c o e
  refine⟨?_,q2⟩
  rw[<-Vt]
  exact((pT s.heap D _).2 c (λz=>by rw[z,v9 bD] at e;cases e)).trans q1
 generalize hee:(if((#[]:Array Zq).size == its.toArray.size)=true then n else n+1)=e1 at Qv
 have I2:Inv X pins σ H { s with heap:=h1.push (seqObj "tuple" its.toArray 0) }:=I1.kept (t':=s.toks) λ_ _ e=>aE _ e
 have Qw:(h1.push (seqObj "tuple" its.toArray 0)).get? D=some (seqObj "list" #[] e1):=aE _ Qv
 have Ss:∀b o,base.get? b=some o->(h1.push (seqObj "tuple" its.toArray 0)).get? b=some o/\H b=none:=λc o e=>⟨aE _ (Vu c o e).1,(Vu c o e).2⟩
 unfold ksk_tree
 refine ZH (listItems_at hD rfl (ZH (listUpdate_at hD rfl ?_ (by simp[sizeLine_eq];omega) (by simp))))
 rw[Vt]
 refine ZH (seqEpoch_at Qv rfl (ZH (wpAny_newTuple (ZH (ZK (ZI ?_))) (by simp[sizeLine_eq];omega))))
 show ZG (model X.prog X.w) X.A.in1.in1 (ksk_rest D (.ref f) b its.toArray e1 (.ref (h1.push (seqObj "tuple" its.toArray 0)).objs.size)) P E { s with heap:=(h1.push (seqObj "tuple" its.toArray 0)).push (seqObj "list" #[] 0) }
 generalize h1.push (seqObj "tuple" its.toArray 0)=h2 at I2 Qw Ss
 have nK:H h2.objs.size=none:=I2.hok.fresh (ak _)
 have d:EH X pins base D h2.objs.size:=⟨lg (ax Qw),fD,λH' h=>I2.nM (H':=H') (ak _) h,bD,v9 (bE bD (iJ (ax Qw))),B.bL,B.bf,B.mod⟩
 have k:xk X pins σ base m H st D h2.objs.size e1 { s with heap:=h2.push (seqObj "list" #[] 0) } H m :=
  ⟨I2.kept (t':=s.toks) λ_ _ e=>aE _ e,λc o e=>⟨aE _ (Ss c o e).1,(Ss c o e).2⟩,S,Ext.refl,aE _ Qw,nD,nK⟩
 have hk:(h2.push (seqObj "list" #[] 0)).get? h2.objs.size=some (seqObj "list" ([]:List Zq).toArray 0):=bY _ rfl
 unfold ksk_rest
 refine ZH (wpAny_rule ?_)
 rw[List.forIn_toArray]
 refine ZH (vg d kf hr (λx s0 Q hx=>?_) its vs ws kws [] [] [] 0 _ H m k hk .nil af.nil hv rv (by simpa using z1) hs.1 (λi w kw e1 e2 H' m' v Q ex S' r ok=>hs.2 i w kw e1 e2 H' m' v Q ex S' r ok) λs' H' m' kv' ks' e' k' ex' hk' So Qt=>?_)
 ·refine ZH (wpAny_attempt (ZJ hx (λu s1 hq=>?_) λ_ _ z=>z.elim))
  obtain⟨ks,e,q1,q2,q3⟩:=hq
  dsimp only
  exact ZH (listUpdate_at q1 rfl (ZM ⟨rfl,q3⟩) (by rw[sizeLine_eq];omega) (by simp[sizeLine_eq];omega))
 ·refine ZH (listItems_at hk' rfl ?_)
  exact Gq d k' hk' hv (af.mono ex' _ _ rv) So Qt hkk hs.1 hz λs2 vs' I' r'=>fin s2 H' m' vs' I' k'.nD ex' k'.S r'
theorem xl{k0:Nat}{f l:Zk}{sp:V->Hp->VK->Prop}{b:Bool}{kw:List (Str×Zq)}{vs:List V}{ws kws:List Wv}{kk:List Kw}{Q:VK}(ha1:argsOk "sorted" ⟨[.ref l],kw⟩)(ha2:∀x,argsOk "list.sort" ⟨[.ref x],kw⟩)(ht:∀x,Builtin.«list.sort» ⟨[.ref x],kw⟩=ksk_tree x (.ref f) b)
  (kf:Qq X.prog X.w X.K X.mg base k0 f sp)(hr:dD (k0+2) X.A)(I:Inv X pins σ H s)(S:aQ X.K m st H)(B:LH X base s H)(hq:fB X.K H l vs)(rv:af X.K m H ws vs)(hs:Ik X m H st sp ws kws)(hkk:lU kws=some kk)(hz:ws.length < 64)
  (fin:∀p H' m' vs',H' p=none->Ext X.K m H m' H'->aQ X.K m' st H'->af X.K m' H' ((iq b kk).map λi=>ws.getD i .aP) vs'->Q (.ref p) (upd H' p (.lst vs'))) :
  ZG (model X.prog X.w) X.A (call (.builtin "sorted") [.ref l] kw) (EP X pins σ Q) X.xe s:=by
 obtain⟨its,hv,pl,_⟩:=I.list hq
 have l1:=hv.length
 have l2:=rv.length
 have zz:((s.heap.push (seqObj "list" #[] 0)).update s.heap.objs.size (aW (· ++its.toArray))).objs.size=s.heap.objs.size+1:=(Heap.size_update ..).trans (size_push' ..)
 have Vv:∀c o,s.heap.get? c=some o->((s.heap.push (seqObj "list" #[] 0)).update s.heap.objs.size (aW (· ++its.toArray))).get? c=some o:=λc o e=>((pT _ s.heap.objs.size _).2 c (aN (ax e))).trans (aE _ e)
 have hh:(((s.heap.push (seqObj "list" #[] 0)).update s.heap.objs.size (aW (· ++its.toArray))).push (seqObj "list" its.toArray 0)).get? (s.heap.objs.size+1)=some (seqObj "list" its.toArray 0):=zz ▸ bY _ rfl
 refine call_function_entry_kw kind_sorted plain_sorted entry_sorted ha1 ?_
 unfold Builtin.«sorted»
 refine ZH (m:=checkCount "sorted" 1 1 _) (ZM (ZH (collect_list pl.isList (ZH (ZK ?_ (by rw[sizeLine_eq];omega))) (by rw[sizeLine_eq];omega))))
 show ZG _ _ _ _ _ { s with heap:=((s.heap.push (seqObj "list" #[] 0)).update s.heap.objs.size (aW (· ++its.toArray))).push (seqObj "list" its.toArray 0) }
 rw[zz]
 have I1:Inv X pins σ H { s with heap:=((s.heap.push (seqObj "list" #[] 0)).update s.heap.objs.size (aW (· ++its.toArray))).push (seqObj "list" its.toArray 0) }:=I.kept (t':=s.toks) λc o e=>aE _ (Vv c o e)
 refine ZH (ZI (wpAny_call_entry_kw slot_list_sort ⟨_,hh,rfl⟩ entry_list_sort ?_ (ha2 _)))
 show ZG (model X.prog X.w) X.A.in1.in1 (Builtin.«list.sort» ⟨[.ref (s.heap.objs.size+1)],kw⟩) _ _ _
 rw[ht]
 refine Dt kf hr I1 S hh (I.hok.fresh (jT _)) (λH' h=>I.nM (H':=H') (jT _) h) ⟨λc o e=>⟨aE _ (Vv c o (B.bs c o e).1),(B.bs c o e).2⟩,?_,B.bL,B.bf,B.mod⟩ (Nat.le_succ_of_le B.bz) hv rv hs hkk hz λs' H' m' vs' I' hn ex S' r'=>⟨_,rfl,ZM ⟨_,rfl,.ref _,_,I',rfl,fin _ H' m' vs' hn ex S' r'⟩⟩
 have:=B.bz
 show base.objs.size<=(((s.heap.push (seqObj "list" #[] 0)).update s.heap.objs.size (aW (· ++its.toArray))).push (seqObj "list" its.toArray 0)).objs.size
 rw[size_push',zz]
 omega
end
open Classical in
def lV(gb:GE)(wy:Wv)(st:Hs):List Wv->Option (List Wv)
 | []=>some []
 | w::r=>match gb [some w,some wy] st with
  | .ok kw st'=>if st'=st then(match lV gb wy st r with | some l=>some (kw::l) | none=>none) else none
  | _=>none
theorem vm{gb:GE}{wy:Wv}{st:Hs}:∀{ws kws:List Wv},lV gb wy st ws=some kws->kws.length=ws.length/\∀(i:Nat) w kw,ws[i]? =some w->kws[i]? =some kw->gb [some w,some wy] st= .ok kw st
 | [],kws,h=>by cases h;exact⟨rfl,λi w kw e=>by simp at e⟩
 | w::r,kws,h=>by
  unfold lV at h
  cases e:gb [some w,some wy] st with
  | ok kw st'=>
   rw[e] at h
   dsimp only at h
   by_cases c:st'=st
   ·rw[if_pos c] at h
    subst c
    cases e2:lV gb wy st' r with
    | none=>rw[e2] at h;cases h
    | some l=>
     rw[e2] at h
     cases h
     obtain⟨h1,h2⟩:=vm e2
     refine⟨by simp[h1],λi w' kw' g1 g2=>?_⟩
     cases i with
     | zero=>simp at g1 g2;subst g1 g2;exact e
     | succ i=>exact h2 i w' kw' (by simpa using g1) (by simpa using g2)
   ·rw[if_neg c] at h;cases h
  | err c st'=>rw[e] at h;cases h
  | bad=>rw[e] at h;cases h
def AE(b:Bool)(gb:GE)(ow:Option (Option Wv))(w:Wv)(st:Hs):Re Wv:=match w,ow with
 | .ref l,some (some wy)=>(match ai st l with
  | some ws=>if ws.length < 64 then(match lV gb wy st ws with
    | some kws=>(match lU kws with | some kk=> .ok (.ref st.length) (st++[.lst ((iq b kk).map λi=>ws.getD i .aP)]) | none=> .bad)
    | none=> .bad) else .bad
  | none=> .bad)
 | _,_=> .bad
def rO(b:Bool)(iy:Nat)(g gb:GE):GE:=λρ st=>(g ρ st).bind λw st1=>AE b gb ρ[iy]? w st1
section
variable {X:Cx}
theorem vn{j:Nat}{q x y:Str}{P:Zk}{iy:Nat}{jd q1:Pos}{a1:Option Expr}{body:Expr}{scope:Scope}{gb:GE}{b:Bool}{pins:List (Zk×Obj)}{σ:L2.St}{H:Hp}{m:Mp}{Q:VK}{ρ:bA}{w:Wv}{v:V}{st:Hs}{s:Zp}{u:Zq}{kw:Zq->List (Str×Zq)}{W:Zq->Zp->Prop}
  (hr:dD (j+1+2) X.A)(D:u_ X q P)(S:vc scope x y)(hy:X.N[iy]? =some y)(Pe:X.env.scope.names.lookup y=some .cell\/X.env.scope.names.lookup y=some .free)(hfn:X.fn y=true)(hst:X.env.locals∈frs X.stack)
  (hb:∀(base:Heap)(p:Lm)(cy:Zk)(A:Zl)(outer:List Env)(s:Zp)(H:Hp)(E:XK),ka X.K X.mg base->dD j (A.deeper (tE p scope s.heap.objs.size [(y,cy)]))->JE (Dd X.prog X.w X.K X.mg base [x,y] p scope [(y,cy)] A outer s H E) body gb)
  (ha1:∀l f,argsOk "sorted" ⟨[.ref l],kw (.ref f)⟩)(ha2:∀f x,argsOk "list.sort" ⟨[.ref x],kw (.ref f)⟩)(ht:∀f x,Builtin.«list.sort» ⟨[.ref x],kw (.ref f)⟩=ksk_tree x (.ref f) b)
  (I:Inv X pins σ H s)(S0:aQ X.K m st H)(R:av X.K m H ρ σ)(rw':aj X.K m H w v)(ru:RelV v u)(pq:dg X σ m H (AE b gb ρ[iy]? w st) Q)
  (k:∀(f:Zk)(s':Zp),ZG (model X.prog X.w) X.A (call (.builtin "sorted") [u] (kw (.ref f))) (EP X pins σ Q) X.xe s'->W (.ref f) s') :
  ZG (model X.prog X.w) X.A (eval (.Lambda (nz x a1 q1) body scope jd) X.env) W X.xe s:=by
 cases w with
 | ref l=>
  cases er:ρ[iy]? with
  | none=>rw[er] at pq;exact aa pq
  | some ow=>
   rw[er] at pq
   cases ow with
   | none=>exact aa pq
   | some wy=>
    unfold AE at pq
    dsimp only at pq
    cases el:ai st l with
    | none=>rw[el] at pq;exact aa pq
    | some ws=>
     rw[el] at pq
     dsimp only at pq
     by_cases Su:ws.length < 64
     ·rw[if_pos Su] at pq
      cases ek:lV gb wy st ws with
      | none=>rw[ek] at pq;exact aa pq
      | some kws=>
       rw[ek] at pq
       dsimp only at pq
       cases Sv:lU kws with
       | none=>rw[Sv] at pq;exact aa pq
       | some kk=>
        rw[Sv] at pq
        dsimp only at pq
        obtain⟨gl,gk⟩:=vm ek
        unfold aj at rw'
        obtain⟨a,rfl,hla⟩:=rw'
        cases ru
        obtain⟨vy,Xb,Xd⟩:=R.get iy wy er
        have vis:Qa X.env.scope y:=.inr Pe
        have hcell:∀{H':Hp}{s':Zp},Inv X pins σ H' s'->∃uy cy,RelV vy uy/\X.env.cells.lookup y=some cy/\s'.heap.IsCell cy (some uy):=λ{H' s'} I'=>by
         obtain⟨mm,hn,hl⟩:=I'.loc
         obtain⟨uy,ry,lk⟩:=hl iy y vy hy Xb vis
         rcases lk with ⟨hkk,_⟩ | ⟨_,c,hc,hcl⟩
         ·have hkk:X.env.scope.names.lookup y=some .local:=hkk
          rcases Pe with z | z<;>rw[z] at hkk<;>cases hkk
         ·exact⟨uy,c,ry,hc,hcl⟩
        obtain⟨_,cy,_,Lx,_⟩:=hcell I
        refine PySem.W.kla_eval rfl (Dh I S0.tab D S.fr Lx λf2 c' ctv H2 s2 I2 hf2 Xe MY hc2 T2 kH=>k f2 s2 ?_)
        obtain⟨Sw,S2⟩:=S0.lT kH T2
        obtain⟨uy,YV,Xf,Pf,oc,hoc,IW⟩:=hcell I2
        rw[Lx] at Pf
        cases Pf
        have Xg:cy∉frs X.stack:=λz=>by
         rcases List.mem_cons.mp (I2.hV cy z) with e | e
         ·exact I2.EB y cy Lx e
         ·obtain⟨_,o,ho,_⟩:=I2.ok.jh.mem e
          exact absurd (aM (ax ho) (I2.ok.IV y cy hfn Lx)) (bX _)
        let pl:Lm:=⟨f2,c',mC q,[vy]⟩
        have mB:ka X.K X.mg (gP X H2 s2):=⟨C_ I2,let ⟨bm,ob,b1,b2,b3,b4,b5⟩:=D.bm;⟨bm,ob,b1,b2,b3,pR I2 _ _ b4,b5⟩⟩
        have HL:w_ X.prog X.w X.K X.mg (gP X H2 s2) (j+1) pl 1 (O8 gb):=Gg (p:=pl) (vy:=vy) S rfl (w9 hf2 Xe MY) (w9 hoc (I2.fW y cy Lx) Xg) IW Xf λA outer s H E hr=>hb _ pl cy A outer s H E mB hr
        obtain⟨vs,hq,Sr⟩:=S2.read (Sw.pre _ _ hla) el
        have B:LH X (gP X H2 s2) s2 H2:=⟨λb o e=>O7 e,by unfold gP;rw[PySem.W.hideAll_size,qT];exact ak _,PySem.W.hideAll_none _ hst,λb hb=>PySem.W.hideAll_none _ hb,C_ I2⟩
        refine xl (b:=b) (ha1 a f2) (ha2 f2) (ht f2) HL.W_ hr I2 S2 B hq Sr ⟨gl,λi w kw' e1 e2 H' m' v' Q' ex' S' Sx ok=>?_⟩ Sv Su λp H' m' vs' hn ex' S' Sx=>?_
        ·exact⟨m',st,w,[wy],kw',S',Sx,af.mono (Sw.trans ex') _ _ (af.cons Xd af.nil),ex'.ext _ _ hc2,gk i w kw' e1 e2,ok⟩
        ·exact pq (.ref p) (m'++[p]) _ ((Sw.trans ex').trans (Ext.more.trans (Ext.upd (.inl hn)))) (S'.alloc hn Sx) (S'.newest p _)
     ·rw[if_neg Su] at pq;exact aa pq
 | _=>exact aa pq
end
section
variable {X:Cx}
theorem AF:Zu "sorted"=some (.builtin "sorted"):=by decide+kernel
abbrev Vw(e:Expr)(p:Pos):Keyword:=⟨some (jI "key"),e,p⟩
abbrev Vx(j:Nat)(q p:Pos):Keyword:=⟨some (jI "reverse"),.Constant (.bool true) j q,p⟩
theorem Gs{j:Nat}{q x y:Str}{P:Zk}{iy:Nat}{p pos jd q1 kp rp cp:Pos}{kk:Nat}{a1:Option Expr}{e body:Expr}{scope:Scope}{g gb:GE}(b:Bool)
  (hr:dD (j+1+2) X.A)(hg:Gl X "sorted")(hm:X.mg "sorted"=none)(he:JE X e g)(D:u_ X q P)(S:vc scope x y)(hy:X.N[iy]? =some y)(Pe:X.env.scope.names.lookup y=some .cell\/X.env.scope.names.lookup y=some .free)(hfn:X.fn y=true)(hst:X.env.locals∈frs X.stack)
  (hb:∀(base:Heap)(p:Lm)(cy:Zk)(A:Zl)(outer:List Env)(s:Zp)(H:Hp)(E:XK),ka X.K X.mg base->dD j (A.deeper (tE p scope s.heap.objs.size [(y,cy)]))->JE (Dd X.prog X.w X.K X.mg base [x,y] p scope [(y,cy)] A outer s H E) body gb)
  (hs:ZF [e] X.env=[(false,eval e X.env)]):JE X (.Call (.Name "sorted" p) [e] (Vw (.Lambda (nz x a1 q1) body scope jd) kp::if b then[Vx kk cp rp] else[]) pos) (rO b iy g gb):=by
 intro ρ st σ H m Q S0 R pq pins s I
 unfold rO at pq
 have first:=he.go (T:=λv H1=>∃w st1 m1,dg X σ m H (AE b gb ρ[iy]? w st1) Q/\Ext X.K m H m1 H1/\aQ X.K m1 st1 H1/\aj X.K m1 H1 w v) S0 R (au.bind pq) λw st1 v m1 H1 p1 e1 S1 r1=>⟨w,st1,m1,p1,e1,S1,r1⟩
 refine wpAny_Call_Name_kw (fY I hg hm AF ?_ (by decide) (by decide))
 cases b with
 | false=>
  refine callWith_kw ?_ (by rw[hs];rfl) (by rw[hs];rfl)
  rw[hs]
  show ZG _ _ (spliced ((false,eval e X.env)::[])) _ _ s
  refine mq (bH (first pins s I) λu s1 ⟨v,H1,I1,ru,w,st1,m1,p1,e1,S1,Sy⟩=>?_)
  refine oO ?_
  show ZG _ _ (evalAll ((do let v <-eval (.Lambda (nz x a1 q1) body scope jd) X.env;standAt pos;pure v)::[])) _ _ s1
  refine wpAny_evalAll_cons (ZH (vn (b:=false) (kw:=λv=>[(jI "key",v)]) hr D S hy Pe hfn hst hb (λ_ _=>ksk_s1 _ _) (λ_ _=>ksk_l1 _ _) (λf x=>ksk_t1 f x) I1 S1 (R.mono e1) Sy ru (dg.shift p1 e1) λf s' hc=>ZH (wpAny_standAt (ZM ?_))))
  exact wpAny_evalAll_nil hc
 | true=>
  refine callWith_kw ?_ (by rw[hs];rfl) (by rw[hs];rfl)
  rw[hs]
  show ZG _ _ (spliced ((false,eval e X.env)::[])) _ _ s
  refine mq (bH (first pins s I) λu s1 ⟨v,H1,I1,ru,w,st1,m1,p1,e1,S1,Sy⟩=>?_)
  refine oO ?_
  show ZG _ _ (evalAll ((do let v <-eval (.Lambda (nz x a1 q1) body scope jd) X.env;standAt pos;pure v)::(do let v <-eval (.Constant (.bool true) kk cp) X.env;standAt pos;pure v)::[])) _ _ s1
  refine wpAny_evalAll_cons (ZH (vn (b:=true) (kw:=λv=>[(jI "key",v),(jI "reverse",.bool true)]) hr D S hy Pe hfn hst hb (λ_ _=>ksk_s2 _ _ _) (λ_ _=>ksk_l2 _ _ _) (λf x=>ksk_t2 f x true) I1 S1 (R.mono e1) Sy ru (dg.shift p1 e1) λf s' hc=>ZH (wpAny_standAt (ZM ?_))))
  exact wpAny_evalAll_cons (ZH (Constant_bool (ZH (wpAny_standAt (ZM (wpAny_evalAll_nil hc))))))
end
section
variable {X:Cx}
theorem pX:Zu "list"=some (.type "list"):=by decide+kernel
theorem ints_of{n:Nat}{acc:Array Zq}(h:ItemsOf (λi v=>∃t,v= .int (0+i * 1) t) acc n):Vals ((aJ n).map λi=>V.int (i:Nat)) acc.toList:=by
 obtain⟨h1,h2⟩:=h
 have len:acc.toList.length=n:=by simpa using h1
 have key:∀(l:List Zq)(k:Nat),(∀(j:Nat) v,l[j]? =some v->∃t,v= .int ((k+j:Nat):Int) t)->Vals ((cZ k l.length).map λi=>V.int (i:Nat)) l:=λl=>by
  induction l with
  | nil=>intro k _;exact .nil
  | cons v l ih=>
   intro k h
   rw[ig,tD,aZ]
   exact .cons (by obtain⟨t,e⟩:=h 0 v rfl;exact⟨t,by simpa using e⟩) (ih (k+1) λj u e=>by
    obtain⟨t,e'⟩:=h (j+1) u (by simpa using e)
    exact⟨t,by rw[e'];congr 1;omega⟩)
 have:=key acc.toList 0 λj v e=>by
  obtain⟨t,e'⟩:=h2 j v (by simpa using e)
  exact⟨t,by rw[e'];congr 1;omega⟩
 rw[len,<-Gu] at this
 exact this
def LI(t:TA):TE:=λσ H Q=>t σ H λvs H1=>∃n:Nat,vs=[.int (n:Nat)]/\n < 1000/\∀p,H1 p=none->Q (.ref p) (upd H1 p (.lst ((aJ n).map λi=>V.int (i:Nat))))
theorem Du{e:Expr}{t:TA}{p1 q1 p2 q2:Pos}(hc:X.calm=true)(yN:Gl X "list")(hm1:X.mg "list"=none)(LJ:Gl X "range")(hm2:X.mg "range"=none)(ha:PA X [e] t)(he:ZF [e] X.env=[(false,eval e X.env)]) :
  PE X (.Call (.Name "list" p1) [.Call (.Name "range" p2) [e] [] q2] [] q1) (LI t):=by
 intro pins s σ H Q I h
 refine wpAny_Call_Name_kw (fY I yN hm1 pX ?_ (by decide) (by decide))
 refine iL ?_ rfl rfl
 show ZG _ _ (spliced ((false,eval (.Call (.Name "range" p2) [e] [] q2) X.env)::[])) _ _ s
 refine mq (wpAny_Call_Name_kw (fY I LJ hm2 boot_range ?_ (by decide) (by decide)))
 refine iL (bH (ha q2 pins s σ H _ I h) λus s1 ⟨vs,H1,I1,r1,n,ev,hn,q⟩=>?_) he rfl
 subst ev
 obtain⟨u,rfl,rx⟩:=vals1 r1
 obtain⟨t,rfl⟩:=rx
 refine call_range_1 (oO ?_)
 have I2:Inv X pins σ H1 { s1 with heap:=s1.heap.push { cls:=.type "range",data:=.fields #[.int 0 s1.toks,.int (n:Nat) t,.int 1 (s1.toks+1)] },toks:=s1.toks+1+1 }:=I1.kept λb o e=>aE _ e
 refine call_list_range (n:=n) (I1.ok.hd hc) (bY _ rfl) (small_one (by omega) (by omega) (by omega) (by omega)) (by rw[rangeSize_one];split<;>omega) (by omega) λh' tk acc c kp hS hacc=>?_
 exact⟨.ref _,_,I2.laid (t':=tk) kp (ak _) (show dM X.prog X.w _ _ _ (.lst _) from⟨by simp[sizeLine_eq];omega,acc.toList,c,ints_of hacc,by simpa using hS⟩),rfl,q _ (I2.hok.fresh (ak _))⟩
def nB:List Wv->Hs->Re Wv
 | [.int i],st=>if 0<=i/\i < 1000 then .ok (.ref st.length) (st++[.lst ((aJ i.toNat).map λk=> .int (k:Nat))]) else .bad
 | _,_=> .bad
theorem Dv{e:Expr}{g:GA}{p1 q1 p2 q2:Pos}(hc:X.calm=true)(yN:Gl X "list")(hm1:X.mg "list"=none)(LJ:Gl X "range")(hm2:X.mg "range"=none)(ha:JA X [e] g)(he:ZF [e] X.env=[(false,eval e X.env)]) :
  JE X (.Call (.Name "list" p1) [.Call (.Name "range" p2) [e] [] q2] [] q1) (ay nB g):=by
 refine JE.of (Du hc yN hm1 LJ hm2 fZ he) λρ st σ H m Q S R p=>?_
 refine ha.go S R (au.bind p) λws st1 vs m1 H1 p1 e1 S1 rs=>?_
 have p2:=cb.shift (au.je p1) e1
 match ws,rs,p2 with
 | [],rs,p2=>exact aa p2
 | x::y::t,rs,p2=>cases x<;>exact aa p2
 | [x],rs,p2=>
  obtain⟨v,rfl,r1⟩:=jc rs
  cases x with
  | int i=>
   unfold nB at p2
   dsimp only at p2
   by_cases c:0<=i/\i < 1000
   ·rw[if_pos c] at p2
    obtain⟨n,rfl⟩:=Int.eq_ofNat_of_zero_le c.1
    have ev:v= .int (n:Nat):=by unfold aj at r1;exact r1
    subst ev
    refine⟨n,rfl,by omega,λp hp=>?_⟩
    have e2:((n:Nat):Int).toNat=n:=by simp
    rw[e2] at p2
    refine p2 (.ref p) (m1++[p]) _ (Ext.more.trans (Ext.upd (.inl hp))) (S1.alloc hp ?_) (S1.newest p _)
    have:=af.ints (K:=X.K) (m:=m1) (H:=H1) ((aJ n).map λi=>((i:Nat):Int))
    simpa [bW,LK] using this
   ·rw[if_neg c] at p2;exact aa p2
  | _=>exact aa p2
end
section
variable {prog:Zo} {w:Zr} {A:Zl} {E:Zq->Zp->Prop} {s:Zp}
theorem Gv:typeLookup (.type "list_reverseiterator") "__len__"=pure none:=by rw[typeLookup_type,builtinLookup_eq_fast];kernel_rfl
theorem Dw:typeLookup (.type "list_reverseiterator") "__length_hint__"=pure (some (.builtin "list_reverseiterator.__length_hint__")):=by rw[typeLookup_type,builtinLookup_eq_fast];kernel_rfl
theorem Dx{I l:Zk}{i:Int}{Q:Bool->Zp->Prop}(hit:s.heap.IsRevIter I l i)(h:Q false s):ZG (model prog w) A (LL (.ref I)) Q E s:=by
 unfold LL
 refine ZH (wpAny_specialOf hit.typeIs Gv ?_)
 wp_delta
 refine wpAny_ite_split (λhab=>absurd hab (by decide+kernel)) (λ_=>wpAny_ite_split (λhab=>absurd hab (by decide)) λ_=>?_)
 refine ZH (wpAny_specialOf hit.typeIs Dw ?_)
 generalize hid:("list_reverseiterator.__length_hint__":String)=Xh
 wp_delta
 rw[show splitId Xh=some ("list_reverseiterator","__length_hint__") from by subst hid;decide+kernel]
 subst hid
 refine ZH (wpAny_isInstance (T:="list_reverseiterator") (b:=true) hit.typeIs (by rw[Zz];kernel_rfl) ?_)
 refine wpAny_ite_split (λhab=>absurd hab (by decide)) (λ_=>wpAny_ite_split (λ_=>?_) λhab=>absurd (by decide+kernel) hab)
 exact wpAny_ite_split (λhab=>absurd hab (by decide+kernel)) (λ_=>ZM h)
theorem xm{R:Result->Zp->Prop}{I l S:Zk}{items:Array Zq}{c:Nat}(hh:A.handled=none)(hit:s.heap.IsRevIter I l ((items.size:Int) - 1))(hl:s.heap.IsList l items)(hne:l≠I)(hz:items.size<=1000)(hS:s.heap.get? S=some { cls:=.type "list",data:=.seq #[] c })(nl:S≠l)
  (hR:∀h' tk acc' c',(∀b o,b≠S->b≠I->s.heap.get? b=some o->h'.get? b=some o)->h'.get? S=some { cls:=.type "list",dict:=none,data:=.seq acc' c',slots:=#[] }->ItemsOf (λi v=>items[items.size - 1 - i]? =some v) acc' items.size->R (.ok (.ret .none)) { s with heap:=h',toks:=tk }) :
  ZG (model prog w) A.in1 (Dy (.ref S) (.ref I) .none) (λfin s'=>match fin with | .done f=>R (.ok f) s' | .again c'=>c'.quiet=true/\Zv (model prog w) A c' R s') (λe s'=>R (.error e) s') s:=by
 have nI:S≠I:=λe=>by
  obtain⟨o,ho,hc,_⟩:=id hit
  rw[<-e,hS] at ho
  cases ho
  exact absurd (show dw "list"=dw "list_reverseiterator" from hc) (by decide)
 have W:=(Walks.listRev (prog:=prog) (w:=w) (A:=A.in1) hh I l hne items).toS
 unfold Dy
 refine ZH (wpAny_typeOf hit.typeIs ?_)
 have q1:LM (.ref S) (.ref I)=false:=by simp[LM,nI]
 have q2:(dw "list_reverseiterator" == dw "list")=false:=by decide
 have q3:(dw "list_reverseiterator" == dw "tuple")=false:=by decide
 simp only[q1,q2,q3,Bool.or_false,pz,if_false]
 refine ZH (wpAny_pyIter_revIter hit (ZH (ZI (Dx hit ?_))))
 refine wpAny_ite_split (λhab=>absurd hab (by decide+kernel)) λ_=>ZM ⟨plainId_quiet F.plain_extend_loop _,?_⟩
 refine codeAny_extend_loopS W (by rw[sizeLine_eq];omega) S (by simp[nI,nl]) .none items.size 0 _ #[] c rfl (bF _) ⟨bF _,by simpa using hit,hl⟩ hS (ItemsOf.nil _) λs' acc' c' hm hS' hacc=>?_
 rw[Moved.eq_with hm]
 exact hR s'.heap s'.toks acc' c' (λb o n1 n2 e=>hm.heap b o (by simp[n1,n2]) e) hS' hacc
theorem qK{I l:Zk}{items:Array Zq}{Q:Zq->Zp->Prop}(hh:A.handled=none)(hit:s.heap.IsRevIter I l ((items.size:Int) - 1))(hl:s.heap.IsList l items)(hne:l≠I)(hz:items.size<=1000)
  (hQ:∀h' tk acc c,(∀b o,b≠I->s.heap.get? b=some o->h'.get? b=some o)->h'.get? s.heap.objs.size=some { cls:=.type "list",dict:=none,data:=.seq acc c,slots:=#[] }->ItemsOf (λi v=>items[items.size - 1 - i]? =some v) acc items.size->Q (.ref s.heap.objs.size) { s with heap:=h',toks:=tk }) :
  ZG (model prog w) A (call (.type "list") [.ref I]) Q E s:=by
 refine callType_codes (Q₁:=λobj z=>obj= .ref s.heap.objs.size/\z={ s with heap:=s.heap.push { cls:=.type "list",data:=.seq #[] } }) F.called_list (F.typeCall_list_1 _) F.entry_list_init (code_list_new _ ⟨rfl,rfl⟩) λobj z hz1=>?_
 obtain⟨rfl,rfl⟩:=hz1
 have hS:(s.heap.push { cls:=.type "list",data:=.seq #[] }).get? s.heap.objs.size=some (seqObj "list" #[] 0):=bY _ rfl
 have nl:s.heap.objs.size≠l:=λe=>by obtain⟨o,ho,_⟩:=id hl;exact absurd (ax ho) (by rw[e];exact bX _)
 have nI:s.heap.objs.size≠I:=λe=>by obtain⟨o,ho,_⟩:=id hit;exact absurd (ax ho) (by rw[e];exact bX _)
 refine⟨⟨_,hS,rfl⟩,F.args_list_init_2 _ _,?_⟩
 show ZG _ A.in1.in1 (do let old <-Builtin.List.listItems (.ref s.heap.objs.size);Builtin.List.listUpdate (.ref s.heap.objs.size) (λ_=>#[]);letGo old.toList.reverse;Dy (.ref s.heap.objs.size) (.ref I) .none) _ _ _
 refine ZH (listItems_at hS rfl (ZH (listUpdate_at hS rfl (ZH (wpAny_letGo ?_)))))
 have up:∀b o,b≠s.heap.objs.size->s.heap.get? b=some o->((s.heap.push { cls:=.type "list",data:=.seq #[] }).update s.heap.objs.size (aW λ_=>#[])).get? b=some o:=λb o n e=>((pT _ s.heap.objs.size _).2 b n).trans (aE _ e)
 refine xm (A:=A.in1) (items:=items) hh (hit.at λo e=>up _ _ (bg nI) e) (hl.at λo e=>up _ _ (bg nl) e) hne hz (get?_update_seq hS λ_=>#[]) nl λh' tk acc c kp hS' hacc=>?_
 exact⟨rfl,hQ h' tk acc c (λb o n e=>kp b o (aN (ax e)) n (up b o (aN (ax e)) e)) hS' hacc⟩
end
section
variable {X:Cx}
def LN(K:PySem.W.Frag)(t:TA):TE:=λσ H Q=>t σ H λvs H1=>∃a xs,vs=[.ref a]/\fB K H1 a xs/\xs.length < 1000/\∀p,H1 p=none->Q (.ref p) (upd H1 p (.lst xs.reverse))
theorem LO{xs:List V}{its:List Zq}{acc:Array Zq}(r:Vals xs its)(h:ItemsOf (λi v=>its.toArray[its.toArray.size - 1 - i]? =some v) acc its.toArray.size):Vals xs.reverse acc.toList:=by
 have e:acc.toList=its.reverse:=by
  refine List.ext_getElem? λj=>?_
  obtain⟨h1,h2⟩:=h
  simp only[aT] at h1 h2
  by_cases c:j < its.length
  ·have hj:j < acc.size:=by omega
   have:=h2 j acc[j] (by simp[hj])
   rw[LG c]
   simp at this
   rw[this]
   simp[hj]
  ·rw[Ds (by simp;omega),Ds (by simp;omega)]
 rw[e]
 exact kL r
theorem Dz{e:Expr}{t:TA}{p1 q1 p2 q2:Pos}(hc:X.calm=true)(yN:Gl X "list")(hm1:X.mg "list"=none)(LJ:Gl X "reversed")(hm2:X.mg "reversed"=none)(ha:PA X [e] t)(he:ZF [e] X.env=[(false,eval e X.env)]) :
  PE X (.Call (.Name "list" p1) [.Call (.Name "reversed" p2) [e] [] q2] [] q1) (LN X.K t):=by
 intro pins s σ H Q I h
 refine wpAny_Call_Name_kw (fY I yN hm1 pX ?_ (by decide) (by decide))
 refine iL ?_ rfl rfl
 show ZG _ _ (spliced ((false,eval (.Call (.Name "reversed" p2) [e] [] q2) X.env)::[])) _ _ s
 refine mq (wpAny_Call_Name_kw (fY I LJ hm2 boot_reversed ?_ (by decide) (by decide)))
 refine iL (bH (ha q2 pins s σ H _ I h) λus s1 ⟨vs,H1,I1,r1,a,xs,ev,hq,hn,q⟩=>?_) he rfl
 subst ev
 obtain⟨u,rfl,rx⟩:=vals1 r1
 cases rx
 obtain⟨its,rv,pl,_⟩:=I1.list hq
 have l1:=rv.length
 refine call_reversed_list pl.isList (oO ?_)
 have I2:Inv X pins σ H1 { s1 with heap:=s1.heap.push (revObj a ((its.toArray.size:Int) - 1)) }:=I1.kept (t':=s1.toks) λb o e=>aE _ e
 have na:a≠s1.heap.objs.size:=λe=>by obtain⟨o,ho,_⟩:=pl.isList;exact absurd (ax ho) (by rw[e];exact bX _)
 refine qK (I1.ok.hd hc) ⟨_,bY _ rfl,rfl,rfl⟩ (pl.isList.at λo e=>aE _ e) na (by simp;omega) λh' tk acc c kp hS hacc=>?_
 have Xi:∀b o,s1.heap.get? b=some o->h'.get? b=some o:=λb o e=>kp b o (aN (ax e)) (aE _ e)
 refine⟨.ref _,_,I1.laid (t':=tk) Xi (by show s1.heap.objs.size<=(s1.heap.push _).objs.size;rw[size_push'];exact jT _) (show dM X.prog X.w _ _ _ (.lst _) from⟨by simp[sizeLine_eq];omega,acc.toList,c,LO rv hacc,by simpa using hS⟩),rfl,q _ (I2.hok.fresh (ak _))⟩
def lW:List Wv->Hs->Re Wv
 | [.ref l],st=>(match ai st l with | some ws=>if ws.length < 1000 then .ok (.ref st.length) (st++[.lst ws.reverse]) else .bad | none=> .bad)
 | _,_=> .bad
theorem yO{K:PySem.W.Frag}{m:Mp}{H:Hp}:∀{ws:List Wv}{vs:List V},af K m H ws vs->af K m H ws.reverse vs.reverse
 | [],vs,h=>by unfold af at h;subst h;exact af.nil
 | w::ws,vs,h=>by
  unfold af at h
  obtain⟨x,r,rfl,h1,h2⟩:=h
  rw[oB,oB]
  exact af.append (yO h2) (af.cons h1 af.nil)
theorem DA{e:Expr}{g:GA}{p1 q1 p2 q2:Pos}(hc:X.calm=true)(yN:Gl X "list")(hm1:X.mg "list"=none)(LJ:Gl X "reversed")(hm2:X.mg "reversed"=none)(ha:JA X [e] g)(he:ZF [e] X.env=[(false,eval e X.env)]) :
  JE X (.Call (.Name "list" p1) [.Call (.Name "reversed" p2) [e] [] q2] [] q1) (ay lW g):=by
 refine JE.of (Dz hc yN hm1 LJ hm2 fZ he) λρ st σ H m Q S R p=>?_
 refine ha.go S R (au.bind p) λws st1 vs m1 H1 p1 e1 S1 rs=>?_
 have p2:=cb.shift (au.je p1) e1
 match ws,rs,p2 with
 | [],rs,p2=>exact aa p2
 | x::y::t,rs,p2=>cases x<;>exact aa p2
 | [x],rs,p2=>
  obtain⟨v,rfl,r1⟩:=jc rs
  cases x with
  | ref l=>
   unfold lW at p2
   dsimp only at p2
   unfold aj at r1
   obtain⟨a,rfl,hla⟩:=r1
   cases el:ai st1 l with
   | none=>rw[el] at p2;exact aa p2
   | some ws=>
    rw[el] at p2
    dsimp only at p2
    by_cases c:ws.length < 1000
    ·rw[if_pos c] at p2
     obtain⟨xs,q0,r0⟩:=S1.read hla el
     exact⟨a,xs,rfl,q0,by rw[<-r0.length];exact c,λp hp=>p2 (.ref p) (m1++[p]) _ (Ext.more.trans (Ext.upd (.inl hp))) (S1.alloc hp (yO r0)) (S1.newest p _)⟩
    ·rw[if_neg c] at p2;exact aa p2
  | _=>exact aa p2
end
section
variable {X:Cx}
theorem Gw{pins:List (Zk×Obj)}{σ:St}{H:Hp}{s:Zp}{a:Zk}{xs:List V}(I:Inv X pins σ H s)(e:H a=some (.lst xs)):∃o,Inv X pins σ (upd H a (.fu o (.lst xs))) s:=by
 obtain⟨z,its,n,hv,g⟩:=id (I.hok a _ e)
 exact⟨_,I.write (t':=s.toks) (h':=s.heap) (x:=a) (e:=a) (by rw[e];exact True.intro) (.inl rfl) (λb q hb z=>z) ⟨_,g⟩ ⟨g,z,its,n,hv,g⟩⟩
theorem LP{tg e:Expr}{wi:TI}(h:PI X tg e wi):PI X tg e (λσ H R=>wi σ H λJ H1=>∃b ys,H1 b=some (.lst ys)/\∀o,R J (upd H1 b (.fu o (.lst ys)))):=by
 intro pins s σ H R I hw
 refine ZJ (h pins s σ H _ I hw) (λv s1 hv=>ZJ hv (λit s2 hi=>?_) λ_ _ z=>z) λ_ _ z=>z
 obtain⟨it',fp,tn,J,H1,rfl,I1,T,t0,hf,b,ys,hb,hR⟩:=hi
 obtain⟨o,I2⟩:=Gw I1 hb
 refine⟨it',fp,tn,J,_,rfl,I2,T,t0,λc hc=>?_,hR o⟩
 obtain⟨f0,r⟩:=hf c hc
 exact⟨by rw[aw (λz=>by rw[z,hb] at f0;cases f0)];exact f0,r⟩
def yP(ws:List Wv)(st:Hs):Re HX:=match ws with
 | [.ref i,.ref j]=>(match st[i]?,st[j]? with
  | some (.lst as),some (.lst bs)=>(match bO bs with | some ns=>if i≠j then .ok (some (i,as),fh as bs) (st.set j (.nZ ns)) else .bad | none=> .bad)
  | _,_=> .bad)
 | _=> .bad
def pY(g:GA):C0:=λρ st=>(g ρ st).bind yP
theorem rP:∀{ws:List Wv}{is:List Int},bO ws=some is->ws=is.map Wv.int
 | [],is,h=>by cases h;rfl
 | w::ws,is,h=>by
  cases w with
  | int i=>
   unfold bO at h
   cases e:bO ws with
   | none=>rw[e] at h;cases h
   | some l=>rw[e] at h;cases h;rw[rP e];rfl
  | _=>unfold bO at h;cases h
theorem DB{es:List Expr}{kt:Nat}{pt p q:Pos}{l:Expr}{ls:List Expr}{ga:GA}(hg:Gl X "zip")(hm:X.mg "zip"=none)(ha:JA X (l::ls) ga)(hst:ZF (l::ls) X.env=(false,eval l X.env)::ZF ls X.env)(hpl:(backTo q (ZF ls X.env)).any (·.1)=false) :
  HY X (.Tuple es kt pt) (.Call (.Name "zip" p) (l::ls) [] q) (pY ga):=by
 refine⟨_,LP (Ge hg hm fZ hst hpl),λρ st σ H m Q S R p=>?_⟩
 refine ha.go S R (au.bind p) λws st1 vs m1 H1 p1 e1 S1 rs=>?_
 unfold yP at p1
 split at p1
 case h_2=>exact aa p1
 rename_i i j
 split at p1
 case h_2=>exact aa p1
 rename_i as bs Vy Vz
 cases en:bO bs with
 | none=>rw[en] at p1;exact aa p1
 | some ns=>
  rw[en] at p1
  dsimp only at p1
  by_cases Sz:i≠j
  ·rw[if_pos Sz] at p1
   obtain⟨v1,v2,rfl,r1,r2⟩:=BZ rs
   unfold aj at r1 r2
   obtain⟨a,rfl,hi⟩:=r1
   obtain⟨b,rfl,hj⟩:=r2
   obtain⟨xs,f1,g1⟩:=S1.rb hi Vy
   obtain⟨ys,f2,g2⟩:=S1.rb hj Vz
   refine⟨a,b,rfl,⟨_,f1⟩,⟨_,f2⟩,b,ys,f2,λo=>?_⟩
   have eb:=rP en
   have ey:ys=ns.map V.int:=fS g2 en
   have ex:Ext X.K m1 H1 m1 (upd H1 b (.fu o (.lst ys))):=Ext.upd (.inr ⟨_,f2⟩)
   have S2:aQ X.K m1 (st1.set j (.nZ ns)) (upd H1 b (.fu o (.lst ys))):=S1.BL hj Vz rfl (.inl ⟨o,by rw[<-ey];exact aL⟩)
   have fz:upd H1 b (.fu o (.lst ys)) b=some (.fu o (.lst ys)):=aL
   have ck:qJ (some (i,as)) (st1.set j (.nZ ns)):=by
    show ai _ i=some as
    unfold ai
    rw[fX (bg Sz),Vy]
   have len:(fh as bs).length=min as.length bs.length:=by unfold fh;simp
   have lb:bs.length=ys.length:=g2.length
   have SD:∀{m':Mp}{H':Hp},Ext X.K m1 (upd H1 b (.fu o (.lst ys))) m' H'->fB X.K H' b ys:=λe=> .inl (.inr ⟨o,e.fu _ _ _ fz⟩)
   have get:∀k (hk:k < (fh as bs).length),∃x y,as[k]? =some x/\bs[k]? =some y/\(fh as bs)[k]= .tup [x,y]:=λk hk=>by
    have hk':k < min as.length bs.length:=by rw[<-len];exact hk
    refine⟨as[k]'(by omega),bs[k]'(by omega),by simp,by simp,?_⟩
    exact List.getElem_zipWith
   refine p1 m1 _ _ (e1.trans ex) S2 ck ⟨λk H' m' st' e S' c hk=>?_,λk H' m' st' e S' c hk=>?_,λk hk H' v OR m' st' e S' c y=>?_⟩
   ·obtain⟨xs',hq,rws⟩:=S'.read (e.pre _ _ hi) c
    obtain⟨x,y,gx,gy,_⟩:=get k hk
    obtain⟨x',SF,_⟩:=rws.get gx
    obtain⟨y',Xj,_⟩:=g2.get gy
    exact⟨xs',ys,x',y',hq,SD e,SF,Xj⟩
   ·obtain⟨xs',hq,rws⟩:=S'.read (e.pre _ _ hi) c
    have l1:=rws.length
    have hk:k=min as.length bs.length:=by rw[<-len];exact hk
    refine⟨xs',ys,hq,SD e,?_⟩
    omega
   ·obtain⟨xs',hq,rws⟩:=S'.read (e.pre _ _ hi) c
    obtain⟨x,z,gx,gz,gw⟩:=get k hk
    obtain⟨x',SF,rx⟩:=rws.get gx
    obtain⟨z',Xk,rz⟩:=(af.mono (ex.trans e) _ _ g2).get gz
    obtain⟨p',rfl,fr,y⟩:=y
    obtain⟨x'',YW,Pg,Ph,rfl⟩:=y xs' ys hq (SD e)
    rw[SF] at Pg
    rw[Xk] at Ph
    cases Pg
    cases Ph
    have eU:Ext X.K m' H' m' (upd H' p' (.tup [x',z'])):=Ext.nO (.inl fr)
    refine⟨eU,S'.fresh fr,?_⟩
    show aj X.K m' (upd H' p' (.tup [x',z'])) ((fh as bs)[k]'hk) (.ref p')
    rw[gw]
    unfold aj
    exact⟨p',[x',z'],rfl,aL,af.cons (aj.mono eU _ _ rx) (af.cons (aj.mono eU _ _ rz) af.nil)⟩
  ·rw[if_neg Sz] at p1;exact aa p1
def Gx(ws:List Wv)(st:Hs):Re HX:=match ws with
 | [.ref l]=>(match ai st l with | some us=> .ok (some (l,us),us.reverse) st | none=> .bad)
 | _=> .bad
def tJ(g:GA):C0:=λρ st=>(g ρ st).bind Gx
theorem Gy{tg:Expr}{p q:Pos}{l:Expr}{ga:GA}(hg:Gl X "reversed")(hm:X.mg "reversed"=none)(ha:JA X [l] ga)(hst:ZF [l] X.env=[(false,eval l X.env)]):HY X tg (.Call (.Name "reversed" p) [l] [] q) (tJ ga):=by
 refine⟨_,Ly hg hm fZ hst,λρ st σ H m Q S R p=>?_⟩
 refine ha.go S R (au.bind p) λws st1 vs m1 H1 p1 e1 S1 rs=>?_
 match ws,rs,p1 with
 | [],rs,p1=>exact aa p1
 | x::y::t,rs,p1=>cases x<;>exact aa p1
 | [x],rs,p1=>
  obtain⟨v,rfl,r1⟩:=jc rs
  cases x with
  | ref j=>
   unfold aj at r1
   obtain⟨a,rfl,hla⟩:=r1
   unfold Gx at p1
   dsimp only at p1
   cases el:ai st1 j with
   | none=>rw[el] at p1;exact aa p1
   | some us=>
    rw[el] at p1
    dsimp only at p1
    obtain⟨HR,q0,r0⟩:=S1.read hla el
    have l0:=r0.length
    have lr:us.reverse.length=us.length:=List.length_reverse
    refine⟨a,HR,rfl,q0,p1 m1 H1 _ e1 S1 el ⟨λk H' m' st' e S' c hk=>?_,λk H' m' st' e S' c hk=>?_,λk hk H' v OR m' st' e S' c y=>?_⟩⟩
    ·obtain⟨xs,hq,rws⟩:=S'.read (e.pre _ _ hla) c
     have l1:=rws.length
     have hk:k < us.reverse.length:=hk
     exact⟨xs,hq,by omega,by omega⟩
    ·have hk:k=us.reverse.length:=hk
     show HR.length=k
     omega
    ·obtain⟨xs,hq,rws⟩:=S'.read (e.pre _ _ hla) c
     obtain⟨rfl,y⟩:=y
     have hk:k < us.reverse.length:=hk
     refine⟨Ext.refl,S',?_⟩
     have ey:=y xs hq
     obtain⟨x',ex',mJ⟩:=rws.get (i:=us.length - 1 - k) (w:=us[us.length - 1 - k]'(by omega)) (cq (by omega))
     rw[<-l0,ex'] at ey
     cases ey
     show aj X.K m' OR (us.reverse[k]'hk) v
     rw[List.getElem_reverse]
     exact mJ
  | _=>exact aa p1
end
abbrev Da:=Int ⊕ Str
def Qx:Da->Da->Bool
 | .inl i,.inl j=>decide (i < j)
 | .inr i,.inr j=>xh i j
 | _,_=>false
def vZ:List Da->List Da->Bool
 | .inl i::as,.inl j::bs=>if i=j then vZ as bs else true
 | .inr i::as,.inr j::bs=>if i=j then vZ as bs else true
 | [],_=>true
 | _,[]=>true
 | _,_=>false
def mQ:List Da->List Da->Bool
 | _,[]=>false
 | [],_::_=>true
 | a::as,b::bs=>if a=b then mQ as bs else Qx a b
abbrev M5(us:List Zq)(ds:List Da):Prop:=Vals (ds.map vK) us
section
open PySem.SeqAt PySem.MeetsSeq PySem.MeetsSeq2 PySem.MeetsSeq3
theorem Gz(p q:Zk)(us vs:Array Zq)(k k2:Nat)(d1 d2:Option Zk)(z1 z2:Array (Option Zq))(is js:List Da)(ui:M5 us.toList is)(vi:M5 vs.toList js)(ok:vZ is js=true) :
  Meets (Builtin.«tuple.__lt__» ⟨[.ref p,.ref q],[]⟩)
   (λ_ R s=>s.heap.get? p=some { cls:=.type "tuple",dict:=d1,data:=.seq us k,slots:=z1 }/\s.heap.get? q=some { cls:=.type "tuple",dict:=d2,data:=.seq vs k2,slots:=z2 }/\
    R (.ok (.ret (.bool (mQ is js)))) s) :=
 .of_wp λprog w A R s hh=>by
  obtain⟨hp,g,d,tk,os⟩:=s
  obtain⟨gp,gq,hr⟩:=hh
  have sb:=Br
  have n1:us.size=is.length:=by have:=ui.length;simpa using this.symm
  have n2:vs.size=js.length:=by have:=vi.length;simpa using this.symm
  wp_walk using PySem.AutoSeq1.wpAny_loadPart' gp,PySem.AutoSeq1.wpAny_loadPart' gq,wpAny_forIn_list _ (λtodo b s'=>b.1=none/\s'=⟨hp,g,d,tk,os⟩/\∃(as bs:List Zq)(is' qw:List Da),todo=as.zip bs/\
   M5 as is'/\M5 bs qw/\vZ is' qw=true/\is'.length+vs.size=qw.length+us.size/\R (.ok (.ret (.bool (mQ is' qw)))) ⟨hp,g,d,tk,os⟩) _
  case turn=>
   rintro⟨y,x⟩ todo b s' ⟨e0,rfl,as,bs,is',qw,ez,hi1,hi2,hok,hn,hR⟩
   cases is' with
   | nil=>cases hi1;simp at ez
   | cons a is'=>
    cases qw with
    | nil=>cases hi2;simp at ez
    | cons c qw=>
     cases hi1 with
     | cons r1 F7=>
      cases hi2 with
      | cons r2 F8=>
       rw[lh] at ez
       injection ez with e1 e2
       injection e1 with e3 e4
       subst e3 e4
       unfold mQ at hR
       simp only[ig] at hn
       cases a with
       | inl a=>
        cases c with
        | inr c=>simp[vZ] at hok
        | inl c=>
         obtain⟨t,rfl⟩:=r1
         obtain⟨u,rfl⟩:=r2
         refine ZH (wpAny_eqBool_int ?_)
         by_cases ee:a=c
         ·subst ee
          rw[if_pos rfl] at hR
          have hok:vZ is' qw=true:=by simpa [vZ] using hok
          simp only[beq_self_eq_true]
          wp_walk
          exact⟨rfl,rfl,_,_,_,_,e2,F7,F8,hok,by omega,hR⟩
         ·rw[if_neg (by simpa using ee)] at hR
          have eb:(a == c)=false:=by simpa using ee
          simp only[eb]
          have rc:=HT.ux A.in1 ⟨hp,g,d,tk,os⟩ a t c u prog w
          wp_walk using rc
          exact⟨_,rfl,by simpa [Qx] using hR⟩
       | inr a=>
        cases c with
        | inl c=>simp[vZ] at hok
        | inr c=>
         obtain⟨t,rfl⟩:=r1
         obtain⟨u,rfl⟩:=r2
         refine ZH (wpAny_eqBool_str ?_)
         by_cases ee:a=c
         ·subst ee
          rw[if_pos rfl] at hR
          have hok:vZ is' qw=true:=by simpa [vZ] using hok
          simp only[decide_true]
          wp_walk
          exact⟨rfl,rfl,_,_,_,_,e2,F7,F8,hok,by omega,hR⟩
         ·rw[if_neg (by simpa using ee)] at hR
          simp only[decide_eq_false ee]
          have rc:∀(E:Zq->Zp->Prop)(Q:Zq->Zp->Prop),Q (.bool (xh a c)) ⟨hp,g,d,tk,os⟩->ZG (model prog w) A.in1 (richCompare .Lt (.str a t) (.str c u)) Q E ⟨hp,g,d,tk,os⟩:=λE Q h=>(Gi h:ZG (model prog w) A.in1 (Zx .Lt (.str a t) (.str c u)) Q E _)
          wp_walk using rc
          exact⟨_,rfl,by simpa [Qx] using hR⟩
  case fin=>
   rintro⟨b1,b2⟩ s' ⟨e0,rfl,as,bs,is',qw,ez,hi1,hi2,hok,hn,hR⟩
   simp only at e0
   subst e0
   have fz:mQ is' qw=decide (us.size < vs.size):=by
    cases is' with
    | nil=>
     simp only[kC] at hn
     cases qw with
     | nil=>simp only[kC] at hn;exact(decide_eq_false (by omega)).symm
     | cons c qw=>simp only[ig] at hn;exact(decide_eq_true (by omega)).symm
    | cons a is'=>
     cases qw with
     | nil=>simp only[kC,ig] at hn;exact(decide_eq_false (by omega)).symm
     | cons c qw=>
      cases hi1 with
      | cons _ _=>
       cases hi2 with
       | cons _ _=>simp at ez
   rw[fz] at hR
   wp_walk
   exact⟨_,rfl,by simpa [Bs] using hR⟩
  case h=>exact⟨rfl,rfl,us.toList,vs.toList,is,js,rfl,ui,vi,ok,by omega,hr⟩
end
theorem DC{prog:Zo}{w:Zr}{A:Zl}{E:Zq->Zp->Prop}{s:Zp}{p q:Zk}{us vs:Array Zq}{is js:List Da}{Q:Zq->Zp->Prop}(hp:IsTup s.heap p us)(hq:IsTup s.heap q vs)(ui:M5 us.toList is)(vi:M5 vs.toList js)(ok:vZ is js=true)
  (hu:A.units < cLine)(k:Q (.bool (mQ is js)) s):ZG (model prog w) A (Zx .Lt (.ref p) (.ref q)) Q E s:=by
 obtain⟨⟨c1,d1,WV,R9⟩,o1,e1,n1,f1⟩:=id hp
 obtain⟨⟨c2,d2,WW,sl2⟩,o2,e2,n2,f2⟩:=id hq
 dsimp only at e1 f1 e2 f2
 subst e1 f1 e2 f2
 exact richCompare_meets_room (op:=.Lt) ⟨_,o1,rfl⟩ ⟨_,o2,rfl⟩ PySem.F.slot_tuple_lt PySem.F.entry_tuple_lt (PySem.F.args_tuple_lt_2 _ _) (Gz p q us vs n1 n2 d1 d2 R9 sl2 is js ui vi ok)
  ⟨o1,o2,show iH (mQ is js)≠xR/\Q (.bool (mQ is js)) s from⟨(λx=>nomatch x),k⟩⟩ hu
variable {X:Cx}
def Pj(K:PySem.W.Frag):R2:=λx y H Q=>∃a b is js,x= .ref a/\y= .ref b/\dh K H a (is.map vK)/\dh K H b (js.map vK)/\vZ is js=true/\Q (.bl (mQ is js)) H
theorem LQ(hu:X.A.units < cLine):dN X (Zx .Lt) (Pj X.K):=by
 intro pins s σ H x y v u Q I rx ry h
 obtain⟨a,b,is,js,rfl,rfl,ha,hb,ok,q⟩:=h
 cases rx
 cases ry
 obtain⟨us,r1,p1,_⟩:=I.tuple ha
 obtain⟨vs,r2,p2,_⟩:=I.tuple hb
 exact DC p1 p2 r1 r2 ok hu ⟨.bl (mQ is js),H,I,rfl,q⟩
def lX:List Wv->Option (List Da)
 | []=>some []
 | .int i::r=>(lX r).map (.inl i::·)
 | .str x::r=>(lX r).map (.inr x::·)
 | _=>none
theorem pZ{K:PySem.W.Frag}{m:Mp}{H:Hp}:∀{ws:List Wv}{xs:List V}{is:List Da},af K m H ws xs->lX ws=some is->xs=is.map vK
 | [],xs,is,r,e=>by
  unfold af at r
  cases e
  exact r
 | w::ws,xs,is,r,e=>by
  unfold af at r
  obtain⟨x,rr,rfl,h1,h2⟩:=r
  cases e1:lX ws with
  | none=>cases w<;>unfold lX at e<;>first | (rw[e1] at e;cases e) | cases e
  | some js=>
   have ih:=pZ h2 e1
   cases w with
   | int i=>
    unfold lX at e
    rw[e1] at e
    cases e
    have hi:x= .int i:=by unfold aj at h1;exact h1
    rw[hi,ih]
    rfl
   | str i=>
    unfold lX at e
    rw[e1] at e
    cases e
    have hi:x= .str i:=by unfold aj at h1;exact h1.1
    rw[hi,ih]
    rfl
   | _=>unfold lX at e;cases e
def GB(xs ys:List Wv)(st:Hs):Re Wv:=match lX xs,lX ys with
 | some is,some js=>if vZ is js=true then .ok (.bl (mQ is js)) st else .bad
 | _,_=> .bad
def oLt:gv:=λx y st=>match x,y with
 | .tup xs,.tup ys=>(match bO xs,bO ys with | some is,some js=> .ok (.bl (HT.lexLt is js)) st | _,_=>GB xs ys st)
 | x,y=>O5 x y st
theorem LR(hu:X.A.units+64 < cLine):jK X (Zx .Lt) oLt:=by
 obtain⟨r,h1,h2⟩:=Lu (X:=X) hu
 refine⟨_,dN.or h1 (LQ (by omega)),λx y a b st H m Q S rx ry p=>?_⟩
 cases x with
 | tup xs=>
  cases y with
  | tup ys=>
   have other:GB xs ys st≠.bad->cb X.K m H (GB xs ys st) Q->Pj X.K a b H Q:=λnb p'=>by
    unfold GB at p' nb
    unfold aj at rx ry
    obtain⟨c,us,rfl,f1,f2⟩:=rx
    obtain⟨d,vs,rfl,g1,g2⟩:=ry
    cases e1:lX xs with
    | none=>rw[e1] at nb;exact absurd rfl nb
    | some is=>
     cases e2:lX ys with
     | none=>rw[e1,e2] at nb;exact absurd rfl nb
     | some js=>
      rw[e1,e2] at p' nb
      dsimp only at p' nb
      by_cases ok:vZ is js=true
      ·rw[if_pos ok] at p'
       have:=pZ f2 e1
       subst this
       have:=pZ g2 e2
       subst this
       exact⟨c,d,is,js,rfl,rfl,dh.of f1,dh.of g1,ok,p' _ m H Ext.refl S gA⟩
      ·rw[if_neg ok] at nb;exact absurd rfl nb
   have p':cb X.K m H (match bO xs,bO ys with | some is,some js=> .ok (.bl (HT.lexLt is js)) st | _,_=>GB xs ys st) Q:=p
   have nb:cb X.K m H (GB xs ys st) Q->GB xs ys st≠.bad:=λq z=>by rw[z] at q;exact q
   cases e1:bO xs with
   | none=>rw[e1] at p';exact .inr (other (nb p') p')
   | some is=>
    cases e2:bO ys with
    | none=>rw[e1,e2] at p';exact .inr (other (nb p') p')
    | some js=>
     rw[e1,e2] at p'
     refine .inl (h2 _ _ _ _ st H m Q S rx ry ?_)
     show cb X.K m H (match bO xs,bO ys with | some is,some js=> .ok (.bl (HT.lexLt is js)) st | _,_=> .bad) Q
     rw[e1,e2]
     exact p'
  | _=>exact .inl (h2 _ _ _ _ st H m Q S rx ry p)
 | _=>exact .inl (h2 _ _ _ _ st H m Q S rx ry p)
section
variable {X:Cx}
theorem GC:dN X (Zx .IsNot) (λx y H Q=>∃a b,x= .bl a/\y= .bl b/\Q (.bl (a != b)) H):=by
 intro pins s σ H x y v u Q I rx ry h
 obtain⟨a,b,rfl,rfl,q⟩:=h
 cases rx
 cases ry
 exact isnot_bool ⟨.bl (a != b),H,I,rfl,q⟩
def yQ:gv:=λx y st=>match x,y with
 | .bl a,.bl b=> .ok (.bl (a != b)) st
 | x,y=>BU x y st
theorem GD:jK X (Zx .IsNot) yQ:=by
 obtain⟨r,h1,h2⟩:=BV (X:=X)
 refine⟨_,dN.or h1 GC,λx y a b st H m Q S rx ry p=>?_⟩
 cases x with
 | bl c=>
  cases y with
  | bl d=>
   have e1:a= .bl c:=by unfold aj at rx;exact rx
   have e2:b= .bl d:=by unfold aj at ry;exact ry
   exact .inr ⟨c,d,e1,e2,p _ m H Ext.refl S gA⟩
  | _=>exact .inl (h2 _ _ _ _ st H m Q S rx ry p)
 | _=>exact .inl (h2 _ _ _ _ st H m Q S rx ry p)
end
structure Ct where
 N:List Str
 names:List (Str×Zn)
 consts:List (Str×Wv)
 bl:List Str
 fns:List (Str×Nat×(List Wv->Hs->Re Wv))
 tb:Tab:=[]
 tt:uO:=[]
 clss:List Str:=[]
 vo:List Str:=[]
 tc:Tab:=[]
 xn:List (Str×Dc):=[]
 Xl:List Str:=[]
 Xm:List Str:=[]
 YX:List Str:=[]
 AG:List Str:=[]
 loop:Bool:=true
 free:Bool:=true
 top:Bool:=true
 lam:Option (Lm×LF):=none
 AH:List (Str×Vm):=[]
 LS:List Str:=[]
 lj:Nat:=0
 sk:Nat:=0
 self:Str:=""
def ke(x:Str):List Str->Option Nat
 | []=>none
 | y::r=>if x=y then some 0 else match ke x r with
  | some i=>some (i+1)
  | none=>none
theorem fk{x:Str}:∀{N:List Str}{i:Nat},ke x N=some i->N[i]? =some x
 | [],i,h=>by cases h
 | y::r,i,h=>by
  unfold ke at h
  by_cases e:x=y
  ·rw[if_pos e] at h;cases h;subst e;rfl
  ·rw[if_neg e] at h
   cases q:ke x r with
   | none=>rw[q] at h;cases h
   | some j=>rw[q] at h;cases h;simpa using fk q
def okN(x:Str):Bool:=!(x == ("__debug__":Str))&& !(x == ("__classdict__":Str))&& !(decide (x="__name__"))
theorem gj{x:Str}(h:okN x=true):(x == ("__debug__":Str))=false:=by unfold okN at h;revert h;cases (x == ("__debug__":Str))<;>simp
theorem DD{x:Str}(h:okN x=true):(x == ("__classdict__":Str))=false:=by unfold okN at h;revert h;cases (x == ("__classdict__":Str))<;>simp
theorem DE{x:Str}(h:okN x=true):x≠"__name__":=by
 intro e
 subst e
 unfold okN at h
 simp at h
def vp:List Wv->List V->Prop
 | [],[]=>True
 | .int i::r,.int j::t=>i=j/\vp r t
 | .str x::r,.str y::t=>(x=y/\aO x=true)/\vp r t
 | _,_=>False
theorem vp.rel{K:PySem.W.Frag}{m:Mp}{H:Hp}:∀{ws:List Wv}{vs:List V},vp ws vs->af K m H ws vs
 | [],[],_=>af.nil
 | .int i::r,.int j::t,h=>by
  obtain⟨rfl,h⟩:=h
  exact af.cons (by unfold aj;rfl) h.rel
 | .str x::r,.str y::t,h=>by
  obtain⟨⟨rfl,hx⟩,h⟩:=h
  exact af.cons (by unfold aj;exact⟨rfl,hx⟩) h.rel
 | [],_::_,h=>aa h
 | .int i::r,[],h=>aa h
 | .str i::r,[],h=>aa h
 | .int i::r,.str _::_,h=>aa h
 | .str i::r,.int _::_,h=>aa h
def yR(K:PySem.W.Frag)(mg:Str->Option Zq)(x:Str):Wv->Prop
 | .int i=>∃t,mg x=some (.int i t)
 | .str y=>(∃t,mg x=some (.str y t))/\aO y=true
 | .oY ws=>∃(a:Zk)(vs:List V)(o:Obj)(its:Array Zq)(n:Nat),mg x=some (.ref a)/\K.lookup a=some o/\o.cls= .type "tuple"/\o.data= .seq its n/\its.size<=ZE/\Vals vs its.toList/\vp ws vs
 | _=>False
structure Pk(c:Ct)(k:Nat)(X:Cx):Prop where
 lam:∀p L,c.lam=some (p,L)->w_ X.prog X.w X.K X.mg X.base k p 3 L
 AH:∀x F,c.AH.lookup x=some F->Sh X.prog X.w X.K X.mg k c.lj x F
 GF:∀x n F,c.fns.lookup x=some (n,F)->c.LS.contains x=true->∀base,ka X.K X.mg base->uI X.prog X.w X.K X.mg base c.lj x n F
 at':c.top=true->c.self∈a8->∃P,u_ X c.self P
 sk:c.sk<=k
structure Good(c:Ct)(k:Nat)(X:Cx):Prop where
 N:X.N=c.N
 sc:X.env.scope.names=c.names
 nd:c.N.Nodup
 un:X.A.units+64 < cLine
 free:c.free=true->dD k X.A/\X.calm=true
 loop:c.loop=true->X.calm=true/\PassesOwn (model X.prog X.w) X.A X.env X.xe
 cst:∀x w,c.consts.lookup x=some w->yR X.K X.mg x w
 bl:∀x,c.bl.contains x=true->X.mg x=none
 fns:∀x n F,c.fns.lookup x=some (n,F)->uI X.prog X.w X.K X.mg X.base k x n F
 stk:c.top=true->RH X
 fn:c.top=true->∀x,X.fn x=true
 kind:X.env.scope.kind= .function
 tab:TabOk X.K c.tb c.tt c.tc
 cls:∀x,c.clss.contains x=true->∃C,X.mg x=some (.ref C)/\Cg X.K x C
 vo:∀x,c.vo.contains x=true->∃C,X.mg x=some (.ref C)/\ClsAt X.K x C
 xn:∀x kvs,c.xn.lookup x=some kvs->uW X.K X.w X.mg x kvs
 rm:pO k X.A
 AG:∀x n F,c.AG.contains x=true->c.fns.lookup x=some (n,F)->F_ X.prog X.w X.K X.mg X.base k x n F
 x:Pk c k X
 fr:Ab X
 hd:KJ X
theorem tK{k:Nat}{A:Zl}(hr:dD k A):A.units+64 < cLine:=by have:=hr.un;omega
def Ct.Il(c:Ct):Ct:={ c with loop:=false }
def Ct.yS(c:Ct):Ct:={ c with loop:=false,free:=false }
theorem Good.body{c:Ct}{k:Nat}{X:Cx}(G:Good c k X)(hf:c.free=true)(pn:List (Zk×Obj))(E:Zq->Zp->Prop):Good c.Il k (FK X X.A true pn E) :=
 ⟨G.N,G.sc,G.nd,G.un,λ_=>⟨(G.free hf).1,rfl⟩,(λz=>by cases z),G.cst,G.bl,G.fns,λz=>⟨(G.stk z).st,(G.stk z).fr,(G.stk z).ex⟩,G.fn,G.kind,G.tab,G.cls,G.vo,G.xn,⟨G.rm.d,G.rm.u⟩,G.AG,⟨G.x.lam,G.x.AH,G.x.GF,λt m=>(G.x.at' t m).imp λP L=>⟨L.code,L.qual,L.tab,L.mem,L.uniq,L.bm⟩,G.x.sk⟩,G.fr,G.hd⟩
theorem Good.suite{c:Ct}{k:Nat}{X:Cx}(G:Good c k X){a:Zk}{o:Obj}{u:HO}(nx:zW o)(pn:List (Zk×Obj))(E:Zq->Zp->Prop):Good c.yS k (Oz X a (.fu o u) pn E) :=
 ⟨G.N,G.sc,G.nd,G.un,(λz=>by cases z),(λz=>by cases z),G.cst,G.bl,G.fns,λz=>⟨(G.stk z).st,(G.stk z).fr,(G.stk z).ex⟩,G.fn,G.kind,G.tab,G.cls,G.vo,G.xn,⟨G.rm.d,G.rm.u⟩,G.AG,⟨G.x.lam,G.x.AH,G.x.GF,λt m=>(G.x.at' t m).imp λP L=>⟨L.code,L.qual,L.tab,L.mem,L.uniq,L.bm⟩,G.x.sk⟩,G.fr,.inr ⟨a,o,u,rfl,nx,aL⟩⟩
theorem DF:Zu "ValueError"=some (.type "ValueError"):=by decide+kernel
theorem DG:Zu "dict"=some (.type "dict"):=by decide+kernel
def GG(x:Str):Option String :=
 if x="int" then some "int" else if x="str" then some "str" else if x="bool" then some "bool" else if x="tuple" then some "tuple" else if x="list" then some "list" else if x="ValueError" then some "ValueError" else if x="dict" then some "dict" else none
theorem GH{x:Str}{T:String}(h:GG x=some T):Zu x=some (.type T):=by
 unfold GG at h
 by_cases e:x="int"
 ·rw[if_pos e] at h;cases h;subst e;exact uJ
 rw[if_neg e] at h
 by_cases e:x="str"
 ·rw[if_pos e] at h;cases h;subst e;exact B_
 rw[if_neg e] at h
 by_cases e:x="bool"
 ·rw[if_pos e] at h;cases h;subst e;exact Ca
 rw[if_neg e] at h
 by_cases e:x="tuple"
 ·rw[if_pos e] at h;cases h;subst e;exact uK
 rw[if_neg e] at h
 by_cases e:x="list"
 ·rw[if_pos e] at h;cases h;subst e;exact uL
 rw[if_neg e] at h
 by_cases e:x="ValueError"
 ·rw[if_pos e] at h;cases h;subst e;exact DF
 rw[if_neg e] at h
 by_cases e:x="dict"
 ·rw[if_pos e] at h;cases h;subst e;exact DG
 rw[if_neg e] at h
 cases h
section
variable {X:Cx}
def Pl:gv:=λ_ _ _=> .bad
theorem LU{f:Zq->Zq->Sem Zq}:jK X f Pl:=⟨λ_ _ _ _=>False,λ_ _ _ _ _ _ _ _ _ _ _ _ h=>h.elim,λ_ _ _ _ _ _ _ _ _ _ _ p=>p⟩
def Pn:Operator->gv
 | .Add=>bU
 | .Sub=>Km
 | .Mult=>dU
 | .FloorDiv=>ff
 | .Mod=>oMod
 | .Pow=>wH
 | _=>Pl
theorem GJ(o:Operator):jK X (Zt o) (Pn o):=by
 cases o<;>first | exact Kq | exact Kn | exact C9 | exact Fo | exact Ko | exact Kp | exact LU
def xo:CmpOp->gv
 | .Eq=>oEq
 | .NotEq=>uF
 | .Lt=>oLt
 | .LtE=>oLe
 | .Gt=>N9
 | .GtE=>RA
 | .Is=>Of
 | .IsNot=>yQ
 | .In=>Lh
 | .NotIn=>lP
theorem jX(hu:X.A.units+64 < cLine)(o:CmpOp):jK X (Zx o) (xo o):=by
 cases o<;>first | exact Ol hu | exact Om hu | exact LR hu | exact Lr hu | exact Od | exact Oe | exact Og | exact GD | exact Li | exact An
def DH(c:Ct)(x:Str):GE:=if okN x=true then
  match c.names.lookup x with
  | some .local=>(match ke x c.N with | some i=>ag i | none=>bI)
  | some .cell=>(match ke x c.N with | some i=>ag i | none=>bI)
  | some .free=>(match ke x c.N with | some i=>ag i | none=>bI)
  | some .globalImplicit=>(match c.consts.lookup x with
   | some w=>gC w
   | none=>if c.clss.contains x=true then gC (.cls x) else if c.vo.contains x=true then gC (.cls x) else if c.bl.contains x=true then(match GG x with | some T=>gC (.ty T) | none=>bI) else bI)
  | _=>bI
 else bI
theorem DI{c:Ct}{k:Nat}(G:Good c k X)(x:Str)(pos:Pos):JE X (.Name x pos) (DH c x):=by
 unfold DH
 by_cases hx:okN x=true
 ·rw[if_pos hx]
  cases e:c.names.lookup x with
  | none=>exact aA
  | some kd=>
   have el:X.env.scope.names.lookup x=some kd:=by rw[G.sc];exact e
   cases kd with
   | «local»=>
    dsimp only
    cases e2:ke x c.N with
    | none=>exact aA
    | some i=>exact wF i (by rw[G.N];exact fk e2) (Or.inl el) (gj hx) (DD hx)
   | cell=>
    dsimp only
    cases e2:ke x c.N with
    | none=>exact aA
    | some i=>exact wF i (by rw[G.N];exact fk e2) (jJ (Or.inl el)) (gj hx) (DD hx)
   | free=>
    dsimp only
    cases e2:ke x c.N with
    | none=>exact aA
    | some i=>exact wF i (by rw[G.N];exact fk e2) (jJ (jJ el)) (gj hx) (DD hx)
   | globalImplicit=>
    dsimp only
    have hg:Gl X x:=el
    cases e2:c.consts.lookup x with
    | some w=>
     have q:=G.cst x w e2
     cases w with
     | int i=>obtain⟨t,q⟩:=q;exact BN hg q (gj hx)
     | str y=>obtain⟨⟨t,q⟩,z⟩:=q;exact BO hg q z (gj hx)
     | oY ws=>
      obtain⟨a,vs,o,its,n,q1,q2,q3,q4,q5,q6,q7⟩:=q
      exact JE.of (iK (v:=.ref a) hg q1 rfl (gj hx)) λρ st σ H m Q S R p=>p (.ref a) m H Ext.refl S (by unfold aj;exact⟨a,vs,rfl,⟨o,its,n,q2,q3,q4,q5,q6⟩,q7.rel⟩)
     | _=>exact aa q
    | none=>
     dsimp only
     by_cases e5:c.clss.contains x=true
     ·rw[if_pos e5]
      obtain⟨C,q1,q2⟩:=G.cls x e5
      exact JE.of (iK (v:=.ref C) hg q1 rfl (gj hx)) λρ st σ H m Q S R p=>p (.ref C) m H Ext.refl S (by unfold aj;exact⟨C,rfl,q2.cls⟩)
     rw[if_neg e5]
     by_cases e6:c.vo.contains x=true
     ·rw[if_pos e6]
      obtain⟨C,q1,q2⟩:=G.vo x e6
      exact JE.of (iK (v:=.ref C) hg q1 rfl (gj hx)) λρ st σ H m Q S R p=>p (.ref C) m H Ext.refl S (by unfold aj;exact⟨C,rfl,q2⟩)
     rw[if_neg e6]
     by_cases e3:c.bl.contains x=true
     ·rw[if_pos e3]
      cases e4:GG x with
      | none=>exact aA
      | some T=>exact N1 hg (G.bl x e3) (GH e4) (DE hx) (gj hx)
     ·rw[if_neg e3];exact aA
   | _=>exact aA
 ·rw[if_neg hx];exact aA
def DJ:Const->GE
 | .none=>gC .aP
 | .bool b=>gC (.bl b)
 | .int i=>gC (.int i)
 | .str x=>if aO x=true then gC (.str x) else bI
 | _=>bI
theorem AI(k:Const)(j:Nat)(pos:Pos):JE X (.Constant k j pos) (DJ k):=by
 cases k with
 | none=>exact J8
 | bool b=>exact N0
 | int i=>exact J7
 | str x=>
  show JE X _ (if aO x=true then gC (.str x) else bI)
  by_cases h:aO x=true
  ·rw[if_pos h];exact J9 h
  ·rw[if_neg h];exact aA
 | _=>exact aA
def plain:Expr->Bool
 | .Starred .. =>false
 | _=>true
theorem aF{e:Expr}{es:List Expr}{env:Env}(h:plain e=true):ZF (e::es) env=(false,eval e env)::ZF es env:=by
 cases e<;>first | rfl | cases h
theorem eL{pos:Pos}{env:Env}:∀{es:List Expr},es.all plain=true->(backTo pos (ZF es env)).any (·.1)=false
 | [],_=>rfl
 | e::es,h=>by
  rw[cQ,cH] at h
  rw[aF h.1]
  have q:=eL (pos:=pos) (env:=env) h.2
  unfold backTo at q ⊢
  rw[aZ,mz,q]
  rfl
def i8(f:Expr->GE):List Expr->GA
 | []=>aq
 | e::es=>ae (f e) (i8 f es)
theorem dz{f:Expr->GE}(h:∀e,JE X e (f e)):∀es:List Expr,es.all plain=true->JA X es (i8 f es)
 | [],_=>sM
 | e::es,g=>by
  rw[cQ,cH] at g
  exact n9 (h e) (dz h es g.2) (aF g.1)
def Qy(c:Ct)(x:Str):Option (Zq×(List Wv->Hs->Re Wv)) :=
 if x="len" then some (.builtin "len",eJ) else if x="isinstance" then some (.builtin "isinstance",lH c.tb c.tt) else if x="int" then some (.type "int",yt) else if x="list"/\c.free=true then some (.type "list",gf) else if x="tuple" then some (.type "tuple",nk) else if x="all"/\c.free=true then some (.builtin "all",CC) else if x="sum"/\c.free=true then some (.builtin "sum",Ah) else if x="sorted" then some (.builtin "sorted",jr) else none
theorem AJ:Zu "all"=some (.builtin "all"):=by decide+kernel
theorem AK:Zu "sum"=some (.builtin "sum"):=by decide+kernel
theorem AL:Zu "sorted"=some (.builtin "sorted"):=by decide+kernel
theorem LV{c:Ct}{x:Str}{v:Zq}{op:List Wv->Hs->Re Wv}(O:TabOk X.K c.tb c.tt c.tc)(hc:c.free=true->X.calm=true)(h:Qy c x=some (v,op)):Zu x=some v/\dQ X v op/\((∃id,v= .builtin id)\/∃T,v= .type T):=by
 unfold Qy at h
 by_cases e:x="len"
 ·rw[if_pos e] at h;cases h;subst e;exact⟨zT,Kt,.inl ⟨_,rfl⟩⟩
 rw[if_neg e] at h
 by_cases e:x="isinstance"
 ·rw[if_pos e] at h;cases h;subst e;exact⟨B9,KH O,.inl ⟨_,rfl⟩⟩
 rw[if_neg e] at h
 by_cases e:x="int"
 ·rw[if_pos e] at h;cases h;subst e;exact⟨uJ,FZ,.inr ⟨_,rfl⟩⟩
 rw[if_neg e] at h
 by_cases e:x="list"/\c.free=true
 ·rw[if_pos e] at h;cases h;obtain⟨rfl,e2⟩:=e;exact⟨uL,CW (hc e2),.inr ⟨_,rfl⟩⟩
 rw[if_neg e] at h
 by_cases e:x="tuple"
 ·rw[if_pos e] at h;cases h;subst e;exact⟨uK,La,.inr ⟨_,rfl⟩⟩
 rw[if_neg e] at h
 by_cases e:x="all"/\c.free=true
 ·rw[if_pos e] at h;cases h;obtain⟨rfl,e2⟩:=e;exact⟨AJ,K' (hc e2),.inl ⟨_,rfl⟩⟩
 rw[if_neg e] at h
 by_cases e:x="sum"/\c.free=true
 ·rw[if_pos e] at h;cases h;obtain⟨rfl,e2⟩:=e;exact⟨AK,Ld (hc e2),.inl ⟨_,rfl⟩⟩
 rw[if_neg e] at h
 by_cases e:x="sorted"
 ·rw[if_pos e] at h;cases h;subst e;exact⟨AL,F6,.inl ⟨_,rfl⟩⟩
 rw[if_neg e] at h
 cases h
def tL(c:Ct)(fE:Expr->GE)(x:Str)(es:List Expr):GE:=if okN x=true/\es.all plain=true/\c.names.lookup x=some .globalImplicit then
   (match c.fns.lookup x with
   | some (n,F)=>if c.free=true then bV n F (i8 fE es) else bI
   | none=>if c.bl.contains x=true then(match Qy c x with | some (_,op)=>ay op (i8 fE es) | none=>bI) else bI)
  else bI
def DK(fE:Expr->GE)(o:Expr)(name:Str)(e:Expr)(apos cpos:Pos):GE:=if plain e=true/\(apos.endLine == cpos.line)=true then
   (if name="append" then i7 j' (fE o) (fE e) else bI)
  else bI
def xp(fE:Expr->GE)(o:Expr)(name:Str)(e:Expr)(apos cpos:Pos):GE:=if plain e=true/\(apos.endLine == cpos.line)=true then
   (if name="count" then i7 tm (fE o) (fE e) else if name="index" then i7 gO (fE o) (fE e) else bI)
  else bI
theorem AM{fE:Expr->GE}(h:∀e,JE X e (fE e))(x name:Str)(e:Expr)(p apos cpos:Pos):JE X (.Call (.Attribute (.Name x p) name apos) [e] [] cpos) (xp fE (.Name x p) name e apos cpos):=by
 unfold xp
 by_cases g:plain e=true/\(apos.endLine == cpos.line)=true
 ·rw[if_pos g]
  by_cases n1:name="count"
  ·rw[if_pos n1]
   subst n1
   exact sT Ar PySem.F.slot_list_count PySem.F.type_list_count (h _) (h e) (aF g.1) g.2
  rw[if_neg n1]
  by_cases n2:name="index"
  ·rw[if_pos n2]
   subst n2
   exact sT rJ PySem.F.slot_list_index PySem.F.type_list_index (h _) (h e) (aF g.1) g.2
  rw[if_neg n2]
  exact aA
 ·rw[if_neg g];exact aA
def xq:Expr->Bool
 | .Name .. =>true
 | .Constant (.str _) _ _=>true
 | .Subscript .. =>true
 | _=>false
def jw(fE:Expr->GE)(o:Expr)(name:Str)(es:List Expr)(apos cpos:Pos):GE:=if xq o=true/\es.all plain=true/\es.length < 20/\(apos.endLine == cpos.line)=true then
   (if name="index" then pI mL (fE o) (i8 fE es) else bI)
  else bI
theorem GK{o:Expr}{name:Str}{env:Env}(h:xq o=true):attributeBase o name env (eval o env)=eval o env:=by
 cases o with
 | Constant k j p=>cases k<;>first | rfl | cases h
 | _=>first | rfl | cases h
theorem all_plain{pos:Pos}{env:Env}:∀{es:List Expr},es.all plain=true->(backTo pos (ZF es env)).all (λx=> !x.1)=true
 | [],_=>rfl
 | e::es,h=>by
  rw[cQ,cH] at h
  rw[aF h.1]
  have q:=all_plain (pos:=pos) (env:=env) h.2
  unfold backTo at q ⊢
  rw[aZ,cQ,q]
  rfl
theorem fU{fE:Expr->GE}(h:∀e,JE X e (fE e))(o:Expr)(name:Str)(e:Expr)(es:List Expr)(apos cpos:Pos):JE X (.Call (.Attribute o name apos) (e::es) [] cpos) (jw fE o name (e::es) apos cpos):=by
 unfold jw
 by_cases g:xq o=true/\(e::es).all plain=true/\(e::es).length < 20/\(apos.endLine == cpos.line)=true
 ·rw[if_pos g]
  obtain⟨g1,g2,g3,g4⟩:=g
  have gp:plain e=true/\es.all plain=true:=by rw[cQ,cH] at g2;exact g2
  have hfew:((backTo cpos (ZF (e::es) X.env)).all (λx=> !x.1)&&(backToKw cpos (keywordEach [] X.env)).all (λx=>x.1.isSome)&&decide ((e::es).length+([]:List Keyword).length+(if([]:List Keyword).isEmpty then 0 else 1) < 30))=true:=by
   rw[all_plain g2]
   have g5:(e::es).length+([]:List Keyword).length+(if([]:List Keyword).isEmpty then 0 else 1) < 30:=by
    show(e::es).length+0+0 < 30
    omega
   rw[decide_eq_true g5]
   rfl
  by_cases n1:name="index"
  ·rw[if_pos n1]
   subst n1
   exact CI CM PySem.F.slot_str_index PySem.F.type_str_index (h o) (dz h (e::es) g2) (GK g1) hfew g4 (aF gp.1) (eL gp.2)
  rw[if_neg n1]
  exact aA
 ·rw[if_neg g];exact aA
def Ip(fE:Expr->GE)(o:Expr)(e f:Expr)(apos cpos:Pos):GE:=bI
theorem DL{c:Ct}{k:Nat}(G:Good c k X){fE:Expr->GE}(h:∀e,JE X e (fE e))(o:Expr)(ho:attributeBase o "get" X.env (eval o X.env)=eval o X.env)(e f:Expr)(apos cpos:Pos):JE X (.Call (.Attribute o "get" apos) [e,f] [] cpos) (Ip fE o e f apos cpos):=by
 exact aA
def AN(c:Ct)(x:Str):Option Dc:=if okN x=true/\c.names.lookup x=some .globalImplicit then c.xn.lookup x else none
theorem yT{c:Ct}{k:Nat}(G:Good c k X){x:Str}{kvs:Dc}(h:AN c x=some kvs):Gl X x/\(x == ("__debug__":Str))=false/\uW X.K X.w X.mg x kvs:=by
 unfold AN at h
 by_cases g:okN x=true/\c.names.lookup x=some .globalImplicit
 ·rw[if_pos g] at h
  refine⟨?_,gj g.1,G.xn x kvs h⟩
  show X.env.scope.names.lookup x=_
  rw[G.sc];exact g.2
 ·rw[if_neg g] at h;cases h
def oF:Expr->Bool
 | .Call (.Name _ _) (_::_) [] _=>true
 | _=>false
theorem DM{o:Expr}{name:Str}{env:Env}(h:oF o=true):attributeBase o name env (eval o env)=eval o env:=by
 unfold oF at h
 split at h
 ·rfl
 ·cases h
def oG:Expr->Bool
 | .Subscript .. =>true
 | _=>false
theorem DN{o:Expr}{name:Str}{env:Env}(h:oG o=true):attributeBase o name env (eval o env)=eval o env:=by
 unfold oG at h
 split at h
 ·rfl
 ·cases h
def tM(fE:Expr->GE)(o e:Expr)(apos cpos:Pos):GE:=if plain e=true/\(apos.endLine == cpos.line)=true then
   (if oF o=true then i7 gO (fE o) (fE e) else if oG o=true then pQ jW (fE o) (fE e) else bI)
  else bI
theorem xt{fE:Expr->GE}(h:∀e,JE X e (fE e))(o e:Expr)(apos cpos:Pos):JE X (.Call (.Attribute o "index" apos) [e] [] cpos) (tM fE o e apos cpos):=by
 unfold tM
 by_cases g:plain e=true/\(apos.endLine == cpos.line)=true
 ·rw[if_pos g]
  by_cases b1:oF o=true
  ·rw[if_pos b1]
   exact C4 rJ PySem.F.slot_list_index PySem.F.type_list_index (DM b1) (h o) (h e) (aF g.1) g.2
  rw[if_neg b1]
  by_cases b2:oG o=true
  ·rw[if_pos b2]
   exact C5 Ay PySem.F.slot_tuple_index PySem.F.type_tuple_index (DN b2) (h o) (h e) (aF g.1) g.2
  rw[if_neg b2]
  exact aA
 ·rw[if_neg g];exact aA
def xu(c:Ct)(fE:Expr->GE)(x y:Str)(e:Expr)(p2 q2:Pos):GE:=if x="list"/\(y="range"\/y="reversed")/\plain e=true/\c.names.lookup x=some .globalImplicit/\c.names.lookup y=some .globalImplicit/\c.bl.contains x=true/\c.bl.contains y=true/\c.free=true then ay (if y="range" then nB else lW) (i8 fE [e]) else tL c fE x [.Call (.Name y p2) [e] [] q2]
def yU(c:Ct)(fE:Expr->GE)(cpos:Pos):Expr->List Expr->List Keyword->GE
 | .Name x _,[.Call (.Name y p2) [e] [] q2],[]=>xu c fE x y e p2 q2
 | .Name x _,e::es,[]=>tL c fE x (e::es)
 | .Attribute (.Name x p) name apos,[e],[]=>if name="append"\/name="extend" then DK fE (.Name x p) name e apos cpos else if name="count"\/name="index" then qH (jw fE (.Name x p) name [e] apos cpos) (xp fE (.Name x p) name e apos cpos) else jw fE (.Name x p) name [e] apos cpos
 | .Attribute (.Name x p) name apos,[e,f],[]=>if name="get" then(match AN c x with | some kvs=>(if plain e=true/\plain f=true/\(apos.endLine == cpos.line)=true then C6 kvs (fE e) (fE f) else bI) | none=>Ip fE (.Name x p) e f apos cpos) else jw fE (.Name x p) name [e,f] apos cpos
 | .Attribute o name apos,[e],[]=>if name="index" then qH (jw fE o name [e] apos cpos) (tM fE o e apos cpos) else jw fE o name [e] apos cpos
 | .Attribute o name apos,e::es,[]=>jw fE o name (e::es) apos cpos
 | _,_,_=>bI
theorem rQ{c:Ct}{k:Nat}(G:Good c k X){fE:Expr->GE}(h:∀e,JE X e (fE e))(x:Str)(e:Expr)(es:List Expr)(p pos:Pos):JE X (.Call (.Name x p) (e::es) [] pos) (tL c fE x (e::es)):=by
 unfold tL
 by_cases g:okN x=true/\(e::es).all plain=true/\c.names.lookup x=some .globalImplicit
 ·rw[if_pos g]
  obtain⟨g1,g2,g3⟩:=g
  have hg:Gl X x:=by
   show X.env.scope.names.lookup x=_
   rw[G.sc];exact g3
  have gp:plain e=true/\es.all plain=true:=by rw[cQ,cH] at g2;exact g2
  have ha:=dz h (e::es) g2
  cases e1:c.fns.lookup x with
  | some nF=>
   obtain⟨n,F⟩:=nF
   dsimp only
   by_cases cf:c.free=true
   ·rw[if_pos cf]
    obtain⟨a,fd,ps,G1,G2,G3,G4⟩:=G.fns x n F e1
    exact FE G1 (G.free cf).1 G2 G3 G4 ha hg (gj g1) (aF gp.1) (eL gp.2)
   ·rw[if_neg cf]
    exact aA
  | none=>
   dsimp only
   by_cases e3:c.bl.contains x=true
   ·rw[if_pos e3]
    cases e4:Qy c x with
    | none=>exact aA
    | some io=>
     obtain⟨v,op⟩:=io
     obtain⟨b1,b2,b3⟩:=LV (X:=X) G.tab (λz=>(G.free z).2) e4
     rcases b3 with ⟨id,rfl⟩ | ⟨T,rfl⟩
     ·exact BY b2 hg (G.bl x e3) b1 ha (DE g1) (gj g1) (aF gp.1) (eL gp.2)
     ·exact zQ b2 hg (G.bl x e3) b1 ha (DE g1) (gj g1) (aF gp.1) (eL gp.2)
   ·rw[if_neg e3]
    exact aA
 ·rw[if_neg g];exact aA
theorem DO{fE:Expr->GE}(h:∀e,JE X e (fE e))(x name:Str)(e:Expr)(p apos cpos:Pos):JE X (.Call (.Attribute (.Name x p) name apos) [e] [] cpos) (DK fE (.Name x p) name e apos cpos):=by
 unfold DK
 by_cases g:plain e=true/\(apos.endLine == cpos.line)=true
 ·rw[if_pos g]
  by_cases n1:name="append"
  ·rw[if_pos n1]
   subst n1
   exact sT wQ PySem.F.slot_list_append PySem.F.type_list_append (h _) (h e) (aF g.1) g.2
  rw[if_neg n1]
  exact aA
 ·rw[if_neg g];exact aA
theorem AO{c:Ct}{k:Nat}(G:Good c k X){fE:Expr->GE}(h:∀e,JE X e (fE e))(x y:Str)(e:Expr)(p p2 q2 pos:Pos):JE X (.Call (.Name x p) [.Call (.Name y p2) [e] [] q2] [] pos) (xu c fE x y e p2 q2):=by
 unfold xu
 by_cases g:x="list"/\(y="range"\/y="reversed")/\plain e=true/\c.names.lookup x=some .globalImplicit/\c.names.lookup y=some .globalImplicit/\c.bl.contains x=true/\c.bl.contains y=true/\c.free=true
 ·rw[if_pos g]
  obtain⟨rfl,g2,g3,g4,g5,g6,g7,g8⟩:=g
  have q1:Gl X "list":=by show X.env.scope.names.lookup _=_;rw[G.sc];exact g4
  have q2:Gl X y:=by show X.env.scope.names.lookup _=_;rw[G.sc];exact g5
  rcases g2 with rfl | rfl
  ·rw[if_pos rfl];exact Dv (G.free g8).2 q1 (G.bl _ g6) q2 (G.bl _ g7) (dz h [e] (by simp[g3])) (aF g3)
  ·rw[if_neg (by decide)];exact DA (G.free g8).2 q1 (G.bl _ g6) q2 (G.bl _ g7) (dz h [e] (by simp[g3])) (aF g3)
 ·rw[if_neg g];exact rQ G h _ _ _ _ _
theorem DP{c:Ct}{k:Nat}(G:Good c k X){fE:Expr->GE}(h:∀e,JE X e (fE e))(f:Expr)(as:List Expr)(ks:List Keyword)(pos:Pos):JE X (.Call f as ks pos) (yU c fE pos f as ks):=by
 unfold yU
 split
 ·exact AO G h _ _ _ _ _ _ _
 ·exact rQ G h _ _ _ _ _
 ·rename_i x p name apos e
  by_cases g:name="append"\/name="extend"
  ·rw[if_pos g];exact DO h _ _ _ _ _ _
  ·rw[if_neg g]
   by_cases g2:name="count"\/name="index"
   ·rw[if_pos g2];exact CG (fU h _ _ _ _ _ _) (AM h _ _ _ _ _ _)
   ·rw[if_neg g2];exact fU h _ _ _ _ _ _
 ·rename_i x p name apos e f
  by_cases g:name="get"
  ·rw[if_pos g]
   subst g
   cases ed:AN c x with
   | none=>exact DL G h _ rfl _ _ _ _
   | some kvs=>
    dsimp only
    by_cases g:plain e=true/\plain f=true/\(apos.endLine == pos.line)=true
    ·rw[if_pos g]
     obtain⟨g1,g2,g3⟩:=g
     obtain⟨q1,q2,q3⟩:=yT G ed
     refine C7 (h e) (h f) ⟨rfl,?_,g3,?_⟩ q1 q2 q3
     ·rw[all_plain (es:=[e,f]) (by simp[g1,g2])]
      rfl
     ·rw[aF g1,aF g2]
      rfl
    ·rw[if_neg g];exact aA
  ·rw[if_neg g]
   exact fU h _ _ _ _ _ _
 ·rename_i o name apos e _
  by_cases g:name="index"
  ·rw[if_pos g];subst g;exact CG (fU h _ _ _ _ _ _) (xt h _ _ _ _)
  ·rw[if_neg g];exact fU h _ _ _ _ _ _
 ·exact fU h _ _ _ _ _ _
 ·exact aA
def GL:Expr->Bool
 | .Slice .. =>true
 | _=>false
def DQ(f:Expr->GE):Option Expr->GO
 | none=>bx
 | some e=>cI (f e)
theorem yV{f:Expr->GE}(h:∀e,JE X e (f e))(o:Option Expr):JO X o (DQ f o):=by
 cases o with
 | none=>exact Fv
 | some e=>exact Fw (h e)
def GN(f:Expr->GE)(a:Expr):Expr->GE
 | .Slice lo hi none _=>aV (f a) (DQ f lo) (DQ f hi)
 | .Slice .. =>bI
 | b=>ao cP (f a) (f b)
theorem DR{f:Expr->GE}(h:∀e,JE X e (f e))(a b:Expr)(pos:Pos):JE X (.Subscript a b pos) (GN f a b):=by
 unfold GN
 split
 ·exact Am (h a) (yV h _) (yV h _)
 ·exact aA
 ·rename_i n1 n2
  refine Ot (h a) (h b) ?_
  intro o i
  cases b<;>first | rfl | (rename_i lo hi st p;exact(n2 _ _ _ _ rfl).elim)
def LW(f:Expr->GE)(a:Expr):List CmpOp->List Expr->GE
 | [o],[b]=>if Zs o b=false then ao (xo o) (f a) (f b) else bI
 | [o,o'],[b,b']=>if lastMarks [o,o'] [b,b']=false then pb (xo o) (xo o') (f a) (f b) (f b') else bI
 | _,_=>bI
theorem LX(hu:X.A.units+64 < cLine){f:Expr->GE}(h:∀e,JE X e (f e))(a:Expr)(os:List CmpOp)(bs:List Expr)(pos:Pos):JE X (.Compare a os bs pos) (LW f a os bs):=by
 unfold LW
 split
 ·rename_i o b
  by_cases g:Zs o b=false
  ·rw[if_pos g];exact Ka (jX hu o) (h a) (h b) g
  ·rw[if_neg g];exact aA
 ·rename_i o o' b b'
  by_cases g:lastMarks [o,o'] [b,b']=false
  ·rw[if_pos g];exact BP (jX hu o) (jX hu o') (h a) (h b) (h b') g
  ·rw[if_neg g];exact aA
 ·exact aA
def LY(f:Expr->GE)(a:Expr):List CmpOp->List Expr->GT
 | [o],[b]=>if Zs o b=false then ik (ao (xo o) (f a) (f b)) else lF
 | [o,o'],[b,b']=>if lastMarks [o,o'] [b,b']=false then ik (pb (xo o) (xo o') (f a) (f b) (f b')) else lF
 | _,_=>lF
theorem GP(hu:X.A.units+64 < cLine){f:Expr->GE}(h:∀e,JE X e (f e))(a:Expr)(os:List CmpOp)(bs:List Expr)(pos:Pos):JT X (.Compare a os bs pos) (LY f a os bs):=by
 unfold LY
 split
 ·rename_i o b
  by_cases g:Zs o b=false
  ·rw[if_pos g];exact Kb (jX hu o) (h a) (h b) g
  ·rw[if_neg g];exact mI
 ·rename_i o o' b b'
  by_cases g:lastMarks [o,o'] [b,b']=false
  ·rw[if_pos g];exact BQ (jX hu o) (jX hu o') (h a) (h b) (h b') g
  ·rw[if_neg g];exact mI
 ·exact mI
def fD(f:Expr->GE):Expr->GE
 | .Dict [] [] _=>O3
 | e=>f e
def LZ(c:Ct)(f:Expr->GE):Expr->Expr->GE
 | .Name x p,b=>(match AN c x with | some kvs=>if GL b=false then HW kvs (f b) else bI | none=>GN f (.Name x p) b)
 | a,b=>GN f a b
theorem GQ{c:Ct}{k:Nat}(G:Good c k X){f:Expr->GE}(h:∀e,JE X e (f e))(a b:Expr)(pos:Pos):JE X (.Subscript a b pos) (LZ c f a b):=by
 unfold LZ
 split
 ·rename_i x p
  cases e:AN c x with
  | none=>
   dsimp only
   exact DR h _ b pos
  | some kvs=>
   dsimp only
   by_cases g:GL b=false
   ·rw[if_pos g]
    obtain⟨g1,g2,g3⟩:=yT G e
    refine F1 (h b) ?_ g1 g2 g3
    intro o i
    cases b<;>first | rfl | cases g
   ·rw[if_neg g];exact aA
 ·exact DR h _ b pos
def L0(f:Expr->GE):List Expr->GE
 | []=>bI
 | [a]=>f a
 | a::b::r=>ya (f a) (L0 f (b::r))
def SG(f:Expr->GE):List Expr->GE
 | []=>bI
 | [a]=>f a
 | a::b::r=>N4 (f a) (SG f (b::r))
theorem yW{f:Expr->GE}(h:∀e,JE X e (f e))(pos:Pos):∀es,JE X (.BoolOp .And es pos) (L0 f es)
 | []=>aA
 | [a]=>BR (h a)
 | a::b::r=>Ki (h a) (yW h pos (b::r))
theorem DS{f:Expr->GE}(h:∀e,JE X e (f e))(pos:Pos):∀es,JE X (.BoolOp .Or es pos) (SG f es)
 | []=>aA
 | [a]=>BR (h a)
 | a::b::r=>N5 (h a) (DS h pos (b::r))
def L4(f:Expr->GT):List Expr->GT
 | []=>lF
 | [a]=>f a
 | a::b::r=>N2 (f a) (L4 f (b::r))
def SH(f:Expr->GT):List Expr->GT
 | []=>lF
 | [a]=>f a
 | a::b::r=>MV (f a) (SH f (b::r))
theorem DT{e:Expr}:JW X e lF:=λρ st σ H m Q S R p=>aa p
theorem yX{f:Expr->GT}(h:∀e,JT X e (f e))(pos:Pos):∀es,JW X (.BoolOp .And es pos) (L4 f es)
 | []=>DT
 | [a]=>Fj (h a)
 | a::b::r=>Kf (h a) (yX h pos (b::r))
theorem DU{f:Expr->GT}(h:∀e,JT X e (f e))(pos:Pos):∀es,JW X (.BoolOp .Or es pos) (SH f es)
 | []=>DT
 | [a]=>Ke (h a)
 | a::b::r=>N3 (h a) (DU h pos (b::r))
def Xn(f:Expr->GE):UnaryOp->Expr->GE
 | .USub,a=>x_ gM (f a)
 | .Not,a=>HJ (f a)
 | _,_=>bI
def AQ(f:Expr->GE)(g:GA->GE)(es:List Expr):GE:=if es.all plain=true then g (i8 f es) else bI
def isSet:Expr->Bool
 | .Set .. =>true
 | _=>false
theorem gS{e:Expr}{env:Env}(h:isSet e=false)(x:Zq):Zy e env x=pure x:=by
 cases e<;>first | rfl | cases h
def jY(c:Ct)(x:Str):Bool:=decide (x="range")&&decide (c.names.lookup x=some .globalImplicit)&&c.bl.contains x&&(match c.fns.lookup x with | some _=>false | none=>true)
theorem vq{c:Ct}{k:Nat}(G:Good c k X)(y:Str)(hy:jY c y=true):y="range"/\Gl X y/\X.mg y=none:=by
 unfold jY at hy
 simp only[cH,decide_eq_true_eq] at hy
 refine⟨hy.1.1.1,?_,G.bl y hy.1.2⟩
 show X.env.scope.names.lookup y=_
 rw[G.sc];exact hy.1.1.2
def rR(c:Ct)(f:Expr->GE):Expr->GI
 | .Call (.Name x p) [a] [] q=>if jY c x=true then(if plain a=true then Cy (i8 f [a]) else Cz) else iP (f (.Call (.Name x p) [a] [] q))
 | e=>if isSet e=false then iP (f e) else Cz
theorem lY{c:Ct}{k:Nat}(G:Good c k X){f:Expr->GE}(h:∀e,JE X e (f e))(tg e:Expr):JI X tg e (rR c f e):=by
 unfold rR
 split
 ·rename_i y p a q
  by_cases g:jY c y=true
  ·rw[if_pos g]
   obtain⟨rfl,g2,g3⟩:=vq G y g
   by_cases ga:plain a=true
   ·rw[if_pos ga]
    exact OS g2 g3 (dz h [a] (by simp[ga])) (aF ga)
   ·rw[if_neg ga];exact CB
  ·rw[if_neg g];exact yq (h _)
 ·by_cases g:isSet e=false
  ·rw[if_pos g];exact yq (h _)
  ·rw[if_neg g];exact CB
def L5(gi:GI):C0:=λρ st=>(gi ρ st).bind λw st1=> .ok (w.1.map λl=>(l,w.2),w.2) st1
def GR(c:Ct)(x:Str):Bool:=decide (x="zip")&&decide (c.names.lookup x=some .globalImplicit)&&c.bl.contains x
theorem Po{c:Ct}{k:Nat}(G:Good c k X)(x:Str)(h:GR c x=true):x="zip"/\Gl X "zip"/\X.mg "zip"=none:=by
 unfold GR at h
 simp only[cH,decide_eq_true_eq] at h
 obtain⟨⟨rfl,h2⟩,h3⟩:=h
 exact⟨rfl,by show X.env.scope.names.lookup _=_;rw[G.sc];exact h2,G.bl _ h3⟩
def vt(c:Ct)(x:Str):Bool:=decide (x="reversed")&&decide (c.names.lookup x=some .globalImplicit)&&c.bl.contains x
theorem L6{c:Ct}{k:Nat}(G:Good c k X)(x:Str)(h:vt c x=true):x="reversed"/\Gl X "reversed"/\X.mg "reversed"=none:=by
 unfold vt at h
 simp only[cH,decide_eq_true_eq] at h
 obtain⟨⟨rfl,h2⟩,h3⟩:=h
 exact⟨rfl,by show X.env.scope.names.lookup _=_;rw[G.sc];exact h2,G.bl _ h3⟩
def tN(c:Ct)(f:Expr->GE):Expr->C0
 | .Call (.Name x p) [a,b] [] q=>if GR c x=true/\[a,b].all plain=true then pY (i8 f [a,b]) else L5 (rR c f (.Call (.Name x p) [a,b] [] q))
 | .Call (.Name x p) [a] [] q=>if vt c x=true/\plain a=true then tJ (i8 f [a]) else L5 (rR c f (.Call (.Name x p) [a] [] q))
 | e=>L5 (rR c f e)
theorem p9{c:Ct}{k:Nat}(G:Good c k X){f:Expr->GE}(h:∀e,JE X e (f e))(es:List Expr)(kt:Nat)(pt:Pos)(e:Expr):HY X (.Tuple es kt pt) e (tN c f e):=by
 unfold tN
 split
 ·rename_i y p a b q
  by_cases g:GR c y=true/\[a,b].all plain=true
  ·rw[if_pos g]
   obtain⟨g1,g2⟩:=g
   obtain⟨rfl,g3,g4⟩:=Po G y g1
   have gp:plain a=true/\[b].all plain=true:=by rw[cQ,cH] at g2;exact g2
   exact DB g3 g4 (dz h [a,b] g2) (aF gp.1) (eL gp.2)
  ·rw[if_neg g];exact w8 (lY G h _ _)
 ·rename_i y p a q
  by_cases gr:vt c y=true/\plain a=true
  ·rw[if_pos gr]
   obtain⟨rfl,g3,g4⟩:=L6 G y gr.1
   exact Gy g3 g4 (dz h [a] (by simp[gr.2])) (aF gr.2)
  ·rw[if_neg gr];exact w8 (lY G h _ _)
 ·exact w8 (lY G h _ _)
def Iq(c:Ct):Expr->Bool
 | .Call (.Name x _) [_] [] _=>vt c x
 | _=>false
def mR:List Expr->Option (List Str)
 | []=>some []
 | .Name x _::r=>(mR r).map (x::·)
 | _=>none
theorem rS:∀{es:List Expr}{xs:List Str},mR es=some xs->dS es xs
 | [],xs,h=>by cases h;exact .nil
 | e::r,xs,h=>by
  cases e with
  | Name x p=>
   unfold mR at h
   cases e1:mR r with
   | none=>rw[e1] at h;cases h
   | some ys=>
    rw[e1] at h
    cases h
    exact .cons (rS e1)
  | _=>cases h
def kh(c:Ct):List (Str×Zn)->Option dm
 | []=>some []
 | (n,.free)::r=>if c.names.lookup n=some .cell\/c.names.lookup n=some .free then(match ke n c.N,kh c r with | some i,some l=>some ((n,i)::l) | _,_=>none) else none
 | _::r=>kh c r
theorem p_{c:Ct}:∀{ns:List (Str×Zn)}{cs:dm},kh c ns=some cs->(∀y∈ns,y.2= .free->c.names.lookup y.1=some .cell\/c.names.lookup y.1=some .free)/\∀p∈cs,(p.1,cX)∈ns/\c.N[p.2]? =some p.1
 | [],cs,h=>by cases h;exact⟨(λ_ z=>by cases z),(λ_ z=>by cases z)⟩
 | (n,k)::r,cs,h=>by
  unfold kh at h
  split at h
  ·cases ‹_::_=[]›
  ·rename_i n' r' he
   cases he
   by_cases g:c.names.lookup n=some .cell\/c.names.lookup n=some .free
   ·rw[if_pos g] at h
    cases e1:ke n c.N with
    | none=>rw[e1] at h;cases h
    | some i=>
     cases e2:kh c r with
     | none=>rw[e1,e2] at h;cases h
     | some l=>
      rw[e1,e2] at h
      cases h
      obtain⟨q1,q2⟩:=p_ e2
      refine⟨λy hy e=>?_,λp hp=>?_⟩
      ·rcases List.mem_cons.mp hy with z | z
       ·subst z;exact g
       ·exact q1 y z e
      ·rcases List.mem_cons.mp hp with z | z
       ·subst z;exact⟨aI,fk e1⟩
       ·exact⟨aD _ (q2 p z).1,(q2 p z).2⟩
   ·rw[if_neg g] at h;cases h
  ·rename_i kk r' hk he
   cases he
   obtain⟨q1,q2⟩:=p_ h
   refine⟨λy hy e=>?_,λp hp=>⟨aD _ (q2 p hp).1,(q2 p hp).2⟩⟩
   rcases List.mem_cons.mp hy with z | z
   ·subst z
    have e':k= .free:=e
    subst e'
    exact(hk n rfl).elim
   ·exact q1 y z e
def mS(c:Ct)(ns:List (Str×Zn)):List (Str×Zn):=ns.map λ(n,k)=>if(k == .free&&c.names.lookup n == some .cell) then(n,.cell) else(n,k)
def Ir:ScopeKind->Bool
 | .function=>true
 | _=>false
def dA(scope:Scope)(x:Str):Bool:=Ir scope.kind&&scope.names.all (λy=>decide (scope.names.lookup y.1=some y.2))&&scope.names.all (λy=>decide (y.2≠.cell))&&decide (scope.names.lookup x=some .local)
def Ct.block(c:Ct)(scope:Scope)(x:Str)(cs:dm):Ct:={ c with N:=x::cs.map (·.1),names:=mS c scope.names,loop:=false,top:=false }
def yY(c:Ct)(sub:Ct->(Expr->GE)×(Expr->GT))(f:Expr->GE)(elt:Expr)(x:Str)(iter:Expr)(xv:Ct->GT)(scope:Scope):GE :=
 if dA scope x=true/\c.free=true/\isSet iter=false then(match kh c scope.names with
  | some cs=>if(x::cs.map (·.1)).Nodup then jq cs (rR c f iter) (xv (c.block scope x cs)) ((sub (c.block scope x cs)).1 elt) else bI
  | none=>bI) else bI
def Ct.qa(c:Ct)(scope:Scope)(xs:List Str)(cs:dm):Ct:={ c with N:=xs++cs.map (·.1),names:=mS c scope.names,loop:=false,top:=false }
def tO(c:Ct)(sub:Ct->(Expr->GE)×(Expr->GT))(f:Expr->GE)(elt:Expr)(es:List Expr)(iter:Expr)(xv:Ct->GT)(scope:Scope):GE:=match mR es with
 | some (x::xr)=>if(x::xr).all (dA scope)=true/\c.free=true/\isSet iter=false then(match kh c scope.names with
  | some cs=>if((x::xr)++cs.map (·.1)).Nodup then kK (x::xr).length cs (tN c f iter) (xv (c.qa scope (x::xr) cs)) ((sub (c.qa scope (x::xr) cs)).1 elt) else bI
  | none=>bI) else bI
 | _=>bI
def Qz(c:Ct)(sub:Ct->(Expr->GE)×(Expr->GT))(f:Expr->GE)(elt:Expr)(scope:Scope):List Comprehension->GE
 | [⟨.Name x _,iter,[],0⟩]=>yY c sub f elt x iter (λ_=>λ_ st=> .ok true st) scope
 | [⟨.Tuple es _ _,iter,[],0⟩]=>tO c sub f elt es iter (λ_=>λ_ st=> .ok true st) scope
 | _=>bI
theorem qb{c:Ct}{k:Nat}(G:Good c k X){scope:Scope}{x:Str}{cs:dm}(hs:dA scope x=true)(nd:(x::cs.map (·.1)).Nodup)(C:Zk)(s0:Zp)(H0:Hp)(fp:List Zk)(pn:List (Zk×Obj))(E:Zq->Zp->Prop)(hA:zZ X.A H0) :
  Good (c.block scope x cs) k (eF X scope x cs C s0 H0 fp pn E):=by
 unfold dA at hs
 simp only[cH,decide_eq_true_eq] at hs
 have hk:scope.kind= .function:=by
  have:=hs.1.1.1
  revert this
  cases scope.kind<;>intro z<;>first | rfl | cases z
 refine⟨rfl,?_,nd,G.un,G.free,(λz=>by cases z),G.cst,G.bl,G.fns,(λz=>by cases z),(λz=>by cases z),hk,G.tab,G.cls,G.vo,G.xn,⟨G.rm.d,G.rm.u⟩,G.AG,⟨G.x.lam,G.x.AH,G.x.GF,(λz=>by cases z),G.x.sk⟩,G.fr,hA⟩
 show(relabel scope X.env).names=mS c scope.names
 unfold relabel mS Env.kindOf
 rw[G.kind,G.sc]
 simp
theorem nE{c:Ct}{k:Nat}(G:Good c k X){scope:Scope}{x:Str}{xr:List Str}{cs:dm}(hs:dA scope x=true)(hf:c.free=true)(nd:((x::xr)++cs.map (·.1)).Nodup)(C:Zk)(s0:Zp)(H0:Hp)(fp:List Zk)(pn:List (Zk×Obj)) :
  Good (c.qa scope (x::xr) cs) k (dR X scope (x::xr) cs C s0 H0 fp pn):=by
 unfold dA at hs
 simp only[cH,decide_eq_true_eq] at hs
 have hk:scope.kind= .function:=by
  have:=hs.1.1.1
  revert this
  cases scope.kind<;>intro z<;>first | rfl | cases z
 refine⟨rfl,?_,nd,G.un,G.free,(λz=>by cases z),G.cst,G.bl,G.fns,(λz=>by cases z),(λz=>by cases z),hk,G.tab,G.cls,G.vo,G.xn,⟨G.rm.d,G.rm.u⟩,G.AG,⟨G.x.lam,G.x.AH,G.x.GF,(λz=>by cases z),G.x.sk⟩,G.fr,.inl (G.free hf).1.hd⟩
 show(relabel scope X.env).names=mS c scope.names
 unfold relabel mS Env.kindOf
 rw[G.kind,G.sc]
 simp
theorem vw{c:Ct}{k:Nat}(G:Good c k X){scope:Scope}{x:Str}{cs:dm}(hs:dA scope x=true)(hcs:kh c scope.names=some cs)(nd:(x::cs.map (·.1)).Nodup):dE X scope x cs:=by
 unfold dA at hs
 simp only[cH,decide_eq_true_eq,DV] at hs
 obtain⟨⟨⟨h1,h2⟩,h3⟩,h4⟩:=hs
 have hk:scope.kind= .function:=by
  revert h1
  cases scope.kind<;>intro z<;>first | rfl | cases z
 obtain⟨q1,q2⟩:=p_ hcs
 refine⟨hk,h2,h3,h4,λy hy e=>?_,λp hp=>⟨by rw[G.N];exact(q2 p hp).2,h2 _ (q2 p hp).1⟩,nd⟩
 show X.env.scope.names.lookup y.1=_\/X.env.scope.names.lookup y.1=_
 rw[G.sc];exact q1 y hy e
def Iu(X:Cx)(e:Expr)(g:GE):Prop:=∀(i:Nat)(y:Str)(py spos:Pos),X.N.Nodup->X.N[i]? =some y->Loc X.env.scope y->(X.fn y=true\/X.env.scope.names.lookup y=some .local)->JS X (.Assign [.Name y py] e spos) (bQ i g)
theorem AR{i:Nat}{s:Stmt}:JS X s (bQ i bI):=λρ st σ H m D S R p=>aa p
theorem c4{e:Expr}:Iu X e bI:=λi y py spos _ _ _ _=>AR
theorem yZ{c:Ct}{k:Nat}(G:Good c k X){sub:Ct->(Expr->GE)×(Expr->GT)}(hb:∀c X,Good c k X->(∀e,JE X e ((sub c).1 e))/\∀e,JT X e ((sub c).2 e)){f:Expr->GE}(h:∀e,JE X e (f e))(elt:Expr)(scope:Scope)(gens:List Comprehension)(pos:Pos) :
  JE X (.ListComp elt gens scope pos) (Qz c sub f elt scope gens)/\Iu X (.ListComp elt gens scope pos) (Qz c sub f elt scope gens):=by
 have core:∀(x:Str)(px:Pos)(iter:Expr)(ifs:List Expr)(xv:Ct->GT),(∀c X,Good c k X->Ac X ifs (xv c))->
   JE X (.ListComp elt [⟨.Name x px,iter,ifs,0⟩] scope pos) (yY c sub f elt x iter xv scope)/\Iu X (.ListComp elt [⟨.Name x px,iter,ifs,0⟩] scope pos) (yY c sub f elt x iter xv scope):=by
  intro x px iter ifs xv hg
  unfold yY
  by_cases g:dA scope x=true/\c.free=true/\isSet iter=false
  ·rw[if_pos g]
   obtain⟨g1,g2,g3⟩:=g
   cases ec:kh c scope.names with
   | none=>exact⟨aA,c4⟩
   | some cs=>
    dsimp only
    by_cases nd:(x::cs.map (·.1)).Nodup
    ·rw[if_pos nd]
     have CS:=vw G g1 ec nd
     have hE:∀C s0 H0 fp pn E,zZ X.A H0->JE (eF X scope x cs C s0 H0 fp pn E) elt ((sub (c.block scope x cs)).1 elt):=λC s0 H0 fp pn E z=>(hb _ _ (qb G g1 nd C s0 H0 fp pn E z)).1 elt
     have hT:∀C s0 H0 fp pn E,zZ X.A H0->Ac (eF X scope x cs C s0 H0 fp pn E) ifs (xv (c.block scope x cs)):=λC s0 H0 fp pn E z=>hg _ _ (qb G g1 nd C s0 H0 fp pn E z)
     exact⟨yj G.fr CS (uS (G.free g2).2) G.hd (lY G h _ iter).y hE hT (gS g3),λi y py spos hN hi hl hf=>FT i hN G.fr CS (uS (G.free g2).2) G.hd (lY G h _ iter).y hE hT (gS g3) hi hl hf⟩
    ·rw[if_neg nd];exact⟨aA,c4⟩
  ·rw[if_neg g];exact⟨aA,c4⟩
 have Pp:∀(es:List Expr)(kt:Nat)(pt:Pos)(iter:Expr)(ifs:List Expr)(xv:Ct->GT),(∀c X,Good c k X->Ac X ifs (xv c))->
   JE X (.ListComp elt [⟨.Tuple es kt pt,iter,ifs,0⟩] scope pos) (tO c sub f elt es iter xv scope)/\Iu X (.ListComp elt [⟨.Tuple es kt pt,iter,ifs,0⟩] scope pos) (tO c sub f elt es iter xv scope):=by
  intro es kt pt iter ifs xv hg
  unfold tO
  cases en:mR es with
  | none=>exact⟨aA,c4⟩
  | some xs=>
   cases xs with
   | nil=>exact⟨aA,c4⟩
   | cons x xr=>
    dsimp only
    by_cases g:(x::xr).all (dA scope)=true/\c.free=true/\isSet iter=false
    ·rw[if_pos g]
     obtain⟨g1,g2,g3⟩:=g
     have gx:∀y∈x::xr,dA scope y=true:=List.all_eq_true.mp g1
     cases ec:kh c scope.names with
     | none=>exact⟨aA,c4⟩
     | some cs=>
      dsimp only
      by_cases nd:((x::xr)++cs.map (·.1)).Nodup
      ·rw[if_pos nd]
       have Xo:(x::cs.map (·.1)).Nodup:=nd.sublist (List.Sublist.cons₂ x (List.sublist_append_right xr _))
       have vr:∀y∈x::xr,scope.names.lookup y=some .local:=λy hy=>by
        have q:=gx y hy
        unfold dA at q
        simp only[cH,decide_eq_true_eq] at q
        exact q.2
       have CS:jV X scope x xr cs:=⟨vw G (gx x aI) ec Xo,vr,nd⟩
       have sl:=rS en
       have hE:∀C s0 H0 fp pn,JE (dR X scope (x::xr) cs C s0 H0 fp pn) elt ((sub (c.qa scope (x::xr) cs)).1 elt):=λC s0 H0 fp pn=>(hb _ _ (nE G (gx x aI) g2 nd C s0 H0 fp pn)).1 elt
       have hT:∀C s0 H0 fp pn,Ac (dR X scope (x::xr) cs C s0 H0 fp pn) ifs (xv (c.qa scope (x::xr) cs)):=λC s0 H0 fp pn=>hg _ _ (nE G (gx x aI) g2 nd C s0 H0 fp pn)
       exact⟨u6 CS sl (G.free g2).2 (p9 G h es kt pt iter) hE hT (gS g3),λi y py spos hN hi hl hf=>C3 i hN CS sl (G.free g2).2 (p9 G h es kt pt iter) hE hT (gS g3) hi hl hf⟩
      ·rw[if_neg nd];exact⟨aA,c4⟩
    ·rw[if_neg g];exact⟨aA,c4⟩
 unfold Qz
 split
 ·exact core _ _ _ _ _ λ_ _ _=>yf
 ·exact Pp _ _ _ _ _ _ λ_ _ _=>yf
 ·exact⟨aA,c4⟩
def Ct.Iw(c:Ct)(N:List Str)(ns:List (Str×Zn)):Ct:={ c with N:=N,names:=ns,fns:=c.fns.filter (λp=>c.LS.contains p.1),AG:=[],loop:=false,top:=false,free:=true,AH:=[],lam:=none,Xl:=[],Xm:=[],self:="",sk:=0 }
theorem nG{α:Type}{l:List (Str×α)}{q:Str->Bool}{x:Str}{a:α}(h:(l.filter λp=>q p.1).lookup x=some a):l.lookup x=some a/\q x=true:=by
 induction l with
 | nil=>cases h
 | cons p l ih=>
  obtain⟨y,b⟩:=p
  rw[eK]
  by_cases hq:q y=true
  ·rw[xa (by simpa using hq),eK] at h
   cases e:x == y with
   | true=>
    rw[e] at h
    cases h
    exact⟨rfl,by rw[eq_of_beq e];exact hq⟩
   | false=>rw[e] at h;exact ih h
  ·rw[tF (by simpa using hq)] at h
   obtain⟨h1,h2⟩:=ih h
   cases e:x == y with
   | true=>rw[eq_of_beq e] at h2;exact absurd h2 hq
   | false=>exact⟨h1,h2⟩
def tP(sc:Scope)(x y:Str):Bool:=Ir sc.kind&& !sc.isCoroutine&& !sc.isGenerator&&sc.names.all (λp=>decide (p.2≠.cell))&&decide (sc.names.lookup x=some .local)&&decide (sc.names.lookup y=some .free)&&decide (x≠y)
theorem AS{sc:Scope}{x y:Str}(h:tP sc x y=true)(hf:freeOf sc=[y]):vc sc x y:=by
 unfold tP at h
 simp only[cH,decide_eq_true_eq,DV,Bool.not_eq_true'] at h
 obtain⟨⟨⟨⟨⟨⟨h1,h2⟩,h3⟩,h4⟩,h5⟩,h6⟩,h7⟩:=h
 have hk:sc.kind= .function:=by
  revert h1
  cases sc.kind<;>intro z<;>first | rfl | cases z
 exact⟨hk,h2,h3,h4,h5,hf,h6,h7⟩
def L7:Expr->Option (Str×Expr×Scope)
 | .Lambda a b s _=>if(a.posonlyargs.isEmpty&&a.vararg.isNone&&a.kwonlyargs.isEmpty&&a.kw_defaults.isEmpty&&a.kwarg.isNone&&a.defaults.isEmpty)=true then(match a.args with | [u]=>some (u.arg,b,s) | _=>none) else none
 | _=>none
theorem GU{e:Expr}{x:Str}{b:Expr}{s:Scope}(h:L7 e=some (x,b,s)):∃a q p,e= .Lambda (nz x a q) b s p:=by
 cases e with
 | Lambda a b' s' p=>
  obtain⟨po,ar,va,ko,kd,kw,df⟩:=a
  cases po with
  | cons _ _=>cases h
  | nil=>cases va with
   | some _=>cases h
   | none=>cases ko with
    | cons _ _=>cases h
    | nil=>cases kd with
     | cons _ _=>cases h
     | nil=>cases kw with
      | some _=>cases h
      | none=>cases df with
       | cons _ _=>cases h
       | nil=>
        rcases ar with _ | ⟨⟨y1,a1,q1⟩,_ | ⟨_,_⟩⟩<;>cases h
        exact⟨a1,q1,p,rfl⟩
 | _=>cases h
def Iy:List Keyword->Option (Expr×Bool)
 | [⟨some n,l,_⟩]=>if n="key" then some (l,false) else none
 | [⟨some n,l,_⟩,⟨some r,.Constant (.bool true) _ _,_⟩]=>if n="key"/\r="reverse" then some (l,true) else none
 | _=>none
def DW(c:Ct)(sub:Ct->(Expr->GE)×(Expr->GT))(f:Expr->GE)(z:Str)(e:Expr)(x:Str)(body:Expr)(scope:Scope)(b:Bool):GE:=match freeOf scope with
 | [y]=>(match ke y c.N with
  | some iy=>if z="sorted"/\plain e=true/\c.names.lookup z=some .globalImplicit/\c.bl.contains z=true/\tP scope x y=true/\c.names.lookup y=some .cell/\c.top=true/\c.free=true/\a8.contains c.self=true/\c.lj+3<=c.sk then rO b iy (f e) ((sub (c.Iw [x,y] scope.names)).1 body) else bI
  | none=>bI)
 | _=>bI
theorem vx{c:Ct}{k:Nat}(G:Good c k X){sub:Ct->(Expr->GE)×(Expr->GT)}(hb:∀k c X,Good c k X->(∀e,JE X e ((sub c).1 e))/\∀e,JT X e ((sub c).2 e)){f:Expr->GE}(h:∀e,JE X e (f e))(z:Str)(e:Expr)(x:Str)(a:Option Expr)(q:Pos)(body:Expr)(scope:Scope)(b:Bool)(p jd pos kp rp cp:Pos)(kk:Nat) :
  JE X (.Call (.Name z p) [e] (Vw (.Lambda (nz x a q) body scope jd) kp::if b then[Vx kk cp rp] else[]) pos) (DW c sub f z e x body scope b):=by
 unfold DW
 cases ef:freeOf scope with
 | nil=>exact aA
 | cons y r=>
  cases r with
  | cons z r=>exact aA
  | nil=>
   cases ei:ke y c.N with
   | none=>dsimp only;rw[ei];exact aA
   | some iy=>
    dsimp only
    rw[ei]
    dsimp only
    by_cases g:z="sorted"/\plain e=true/\c.names.lookup z=some .globalImplicit/\c.bl.contains z=true/\tP scope x y=true/\c.names.lookup y=some .cell/\c.top=true/\c.free=true/\a8.contains c.self=true/\c.lj+3<=c.sk
    ·rw[if_pos g]
     obtain⟨rfl,g2,g3,g4,g5,g6,g7,g8,g9,RE⟩:=g
     have S:=AS g5 ef
     have hg:Gl X "sorted":=by
      show X.env.scope.names.lookup _=_
      rw[G.sc];exact g3
     obtain⟨P,D⟩:=G.x.at' g7 (by simpa using g9)
     have st:=G.stk g7
     have nd:[x,y].Nodup:=by simp[S.nd]
     refine Gs (j:=c.lj) (P:=P) b ((G.free g8).1.mono (by have:=G.x.sk;omega)) hg (G.bl _ g4) (h e) D S (by rw[G.N];exact fk ei) (.inl (by rw[G.sc];exact g6)) (G.fn g7 y) (by rw[st.st];exact List.mem_filterMap.mpr ⟨X.env,aI,st.fr⟩) (λbase pl cy A outer s H E M hr=>?_) (aF g2)
     refine(hb c.lj (c.Iw [x,y] scope.names) (Dd X.prog X.w X.K X.mg base [x,y] pl scope [(y,cy)] A outer s H E) ⟨rfl,rfl,nd,tK hr,λ_=>⟨hr,rfl⟩,(λz=>by cases z),G.cst,G.bl,λx n F h=>?_,(λz=>by cases z),(λz=>by cases z),S.kind,G.tab,G.cls,G.vo,G.xn,pO.of hr,(λx n F h=>by cases h),⟨(λp L z=>by cases z),(λx F z=>by cases z),λx n F h hx=>?_,(λz=>by cases z),bF _⟩,⟨_,_,_,rfl,rfl,rfl⟩,.inl hr.hd⟩).1 body
     ·obtain⟨h1,h2⟩:=nG (q:=λn=>c.LS.contains n) h
      exact G.x.GF x n F h1 h2 base M
     ·obtain⟨h1,h2⟩:=nG (q:=λn=>c.LS.contains n) h
      exact G.x.GF x n F h1 h2
    ·rw[if_neg g];exact aA
def DX(c:Ct)(sub:Ct->(Expr->GE)×(Expr->GT))(f:Expr->GE)(g:Expr)(e:Expr)(ks:List Keyword)(d:GE):GE:=match g,Iy ks with
 | .Name z _,some (l,b)=>(match L7 l with | some (x,body,scope)=>DW c sub f z e x body scope b | none=>d)
 | _,_=>d
theorem DY{c:Ct}{k:Nat}(G:Good c k X){sub:Ct->(Expr->GE)×(Expr->GT)}(hb:∀k c X,Good c k X->(∀e,JE X e ((sub c).1 e))/\∀e,JT X e ((sub c).2 e)){f:Expr->GE}(h:∀e,JE X e (f e))(g e:Expr)(ks:List Keyword)(pos:Pos){d:GE}(hd:JE X (.Call g [e] ks pos) d):JE X (.Call g [e] ks pos) (DX c sub f g e ks d):=by
 unfold DX
 split
 ·rename_i z p l b hk
  cases el:L7 l with
  | none=>exact hd
  | some q=>
   obtain⟨x,body,scope⟩:=q
   obtain⟨a,q,lp,rfl⟩:=GU el
   dsimp only
   unfold Iy at hk
   split at hk
   ·split at hk
    ·rename_i e1
     cases hk
     subst e1
     exact vx (b:=false) (kk:=0) (cp:=⟨0,0,0,0⟩) (rp:=⟨0,0,0,0⟩) G hb h _ _ _ _ _ _ _ _ _ _ _
    ·cases hk
   ·split at hk
    ·rename_i e1
     cases hk
     obtain⟨rfl,rfl⟩:=e1
     exact vx (b:=true) G hb h _ _ _ _ _ _ _ _ _ _ _ _ _ _
    ·cases hk
   ·cases hk
 ·exact hd
def DZ(c:Ct)(sub:Ct->(Expr->GE)×(Expr->GT))(fE:Expr->GE)(pos:Pos)(f:Expr)(as:List Expr)(ks:List Keyword):GE:=match as with
 | [e]=>DX c sub fE f e ks (yU c fE pos f [e] ks)
 | _=>yU c fE pos f as ks
theorem AU{c:Ct}{k:Nat}(G:Good c k X){sub:Ct->(Expr->GE)×(Expr->GT)}(hb:∀k c X,Good c k X->(∀e,JE X e ((sub c).1 e))/\∀e,JT X e ((sub c).2 e)){fE:Expr->GE}(h:∀e,JE X e (fE e))(f:Expr)(as:List Expr)(ks:List Keyword)(pos:Pos):JE X (.Call f as ks pos) (DZ c sub fE pos f as ks):=by
 have d:=DP G h f as ks pos
 rcases as with _ | ⟨e,_ | ⟨l,_ | ⟨l2,r⟩⟩⟩
 ·exact d
 ·exact DY G hb h f e ks pos d
 ·exact d
 ·exact d
def D0(c:Ct)(sub:Ct->(Expr->GE)×(Expr->GT))(f:Expr->GE)(t:Expr->GT):Expr->GE
 | .Name x _=>DH c x
 | .Constant k _ _=>DJ k
 | .BinOp a o b _=>ao (Pn o) (f a) (f b)
 | .UnaryOp o a _=>Xn f o a
 | .BoolOp .And es _=>L0 f es
 | .BoolOp .Or es _=>SG f es
 | .Compare a os bs _=>LW f a os bs
 | .IfExp q a b _=>Fl (t q) (f a) (f b)
 | .Tuple es _ _=>AQ f ml es
 | .List es _=>AQ f bT es
 | .Subscript a b _=>LZ c f a b
 | .Call g as ks p=>DZ c sub f p g as ks
 | .ListComp elt gens scope _=>Qz c sub f elt scope gens
 | _=>bI
def stepT(c:Ct)(f:Expr->GE)(t:Expr->GT):Expr->GT
 | .UnaryOp .Not a _=>wG (t a)
 | .BoolOp .And es _=>L4 t es
 | .BoolOp .Or es _=>SH t es
 | .Compare a os bs _=>LY f a os bs
 | .Name x p=>nQ (f (.Name x p))
 | .Call g as ks p=>nQ (f (.Call g as ks p))
 | .Subscript a b p=>nQ (f (.Subscript a b p))
 | .Constant k j p=>nQ (f (.Constant k j p))
 | .BinOp a o b p=>nQ (f (.BinOp a o b p))
 | _=>lF
theorem vz{c:Ct}{k:Nat}(G:Good c k X){sub:Ct->(Expr->GE)×(Expr->GT)}(hb:∀k c X,Good c k X->(∀e,JE X e ((sub c).1 e))/\∀e,JT X e ((sub c).2 e)){f:Expr->GE}{t:Expr->GT}(h:∀e,JE X e (f e))(ht:∀e,JT X e (t e))(e:Expr):JE X e (D0 c sub f t e):=by
 have hu:X.A.units+64 < cLine:=G.un
 cases e with
 | Name x p=>exact DI G x p
 | Constant v j p=>exact AI v j p
 | BinOp a o b p=>exact J_ (GJ o) (h a) (h b)
 | UnaryOp o a p=>
  cases o with
  | USub=>exact Kd (h a)
  | Not=>exact Kj (h a)
  | _=>exact aA
 | BoolOp o es p=>
  cases o with
  | And=>exact yW h p es
  | Or=>exact DS h p es
 | Compare a os bs p=>exact LX G.un h a os bs p
 | IfExp q a b p=>exact N6 (ht q) (h a) (h b)
 | Tuple es j p=>
  show JE X _ (AQ f ml es)
  unfold AQ
  by_cases g:es.all plain=true
  ·rw[if_pos g];exact Kk (dz h es g)
  ·rw[if_neg g];exact aA
 | List es p=>
  show JE X _ (AQ f bT es)
  unfold AQ
  by_cases g:es.all plain=true
  ·rw[if_pos g];exact Kl (dz h es g)
  ·rw[if_neg g];exact aA
 | Subscript a b p=>exact GQ G h a b p
 | Call g as ks p=>exact AU G hb h g as ks p
 | ListComp elt gens scope p=>exact(yZ G (hb k) h elt scope gens p).1
 | _=>exact aA
def AV:Expr->Bool
 | .ListComp .. =>true
 | .SetComp .. =>true
 | .DictComp .. =>true
 | .Set .. =>true
 | _=>false
theorem tQ{e:Expr}{t:Option Expr}{n:Nat}{env:Env}(h:AV e=false):swapsWith e t n env=pure false:=by
 cases e<;>first | rfl | cases h
theorem D3{c:Ct}{k:Nat}(G:Good c k X){sub:Ct->(Expr->GE)×(Expr->GT)}(hb:∀k c X,Good c k X->(∀e,JE X e ((sub c).1 e))/\∀e,JT X e ((sub c).2 e)){f:Expr->GE}{t:Expr->GT}(h:∀e,JE X e (f e))(ht:∀e,JT X e (t e))(e:Expr):Iu X e (D0 c sub f t e):=by
 by_cases g:AV e=false
 ·exact λi y py spos hN hi hl hf=>wL i hN (vz G hb h ht e) hi hl (tQ g) hf
 ·cases e with
  | ListComp elt gens scope p=>exact(yZ G (hb k) h elt scope gens p).2
  | SetComp=>exact c4
  | DictComp=>exact c4
  | Set=>exact c4
  | _=>exact absurd rfl g
theorem D4{c:Ct}{k:Nat}(G:Good c k X){f:Expr->GE}{t:Expr->GT}(h:∀e,JE X e (f e))(ht:∀e,JT X e (t e))(e:Expr):JT X e (stepT c f t e):=by
 have hu:X.A.units+64 < cLine:=G.un
 cases e with
 | UnaryOp o a p=>
  cases o with
  | Not=>exact Kh (ht a)
  | _=>exact mI
 | BoolOp o es p=>
  cases o with
  | And=>exact(yX ht p es).jt
  | Or=>exact(DU ht p es).jt
 | Compare a os bs p=>exact GP G.un h a os bs p
 | Name x p=>exact pf (h _) (λ_=>rfl)
 | Call g as ks p=>exact pf (h _) (λ_=>rfl)
 | Subscript a b p=>exact pf (h _) (λ_=>rfl)
 | Constant v j p=>exact pf (h _) (λ_=>rfl)
 | BinOp a o b p=>exact pf (h _) (λ_=>rfl)
 | _=>exact mI
end
def kq:Nat->Ct->(Expr->GE)×(Expr->GT)
 | 0,_=>(λ_=>bI,λ_=>lF)
 | n+1,c=>(D0 c (kq n) (kq n c).1 (kq n c).2,stepT c (kq n c).1 (kq n c).2)
section
variable {X:Cx}
theorem du:∀(n:Nat)(k:Nat)(c:Ct)(X:Cx),Good c k X->(∀e,JE X e ((kq n c).1 e))/\∀e,JT X e ((kq n c).2 e)
 | 0,_,_,_,_=>⟨λ_=>aA,λ_=>mI⟩
 | n+1,k,c,X,G=>⟨λe=>vz G (λk c X G=>du n k c X G) (du n k c X G).1 (du n k c X G).2 e,λe=>D4 G (du n k c X G).1 (du n k c X G).2 e⟩
theorem D5{k:Nat}:∀(n:Nat)(c:Ct)(X:Cx),Good c k X->∀e,Iu X e ((kq n c).1 e)
 | 0,_,_,_,_=>c4
 | n+1,c,X,G,e=>D3 G (λk c X G=>du n k c X G) (du n k c X G).1 (du n k c X G).2 e
def slot(c:Ct)(x:Str):Option Nat:=if c.names.lookup x=some .local\/(c.names.lookup x=some .cell/\c.top=true) then ke x c.N else none
def y0(c:Ct)(x:Str):Option Nat:=if c.names.lookup x=some .local then ke x c.N else none
theorem D6{c:Ct}{k:Nat}(G:Good c k X){x:Str}{i:Nat}(h:y0 c x=some i):X.N[i]? =some x/\X.env.scope.names.lookup x=some .local:=by
 unfold y0 at h
 by_cases e:c.names.lookup x=some .local
 ·rw[if_pos e] at h
  exact⟨by rw[G.N];exact fk h,by rw[G.sc];exact e⟩
 ·rw[if_neg e] at h;cases h
theorem tR{c:Ct}{k:Nat}(G:Good c k X){x:Str}{i:Nat}(h:slot c x=some i):X.N[i]? =some x/\(Loc X.env.scope x/\(X.fn x=true\/X.env.scope.names.lookup x=some .local)):=by
 unfold slot at h
 by_cases e:c.names.lookup x=some .local\/(c.names.lookup x=some .cell/\c.top=true)
 ·rw[if_pos e] at h
  refine⟨by rw[G.N];exact fk h,?_⟩
  rcases e with e | ⟨e,e2⟩
  ·have q:X.env.scope.names.lookup x=some .local:=by rw[G.sc];exact e
   exact⟨.inl q,.inr q⟩
  ·have q:X.env.scope.names.lookup x=some .cell:=by rw[G.sc];exact e
   exact⟨.inr q,.inl (G.fn e2 x)⟩
 ·rw[if_neg e] at h;cases h
def slots(c:Ct):List Expr->Option (List Nat)
 | []=>some []
 | .Name x _::es=>(match slot c x,slots c es with | some i,some is=>some (i::is) | _,_=>none)
 | _=>none
theorem qc{c:Ct}{k:Nat}(G:Good c k X):∀{es:List Expr}{is:List Nat},slots c es=some is->Slots X es is
 | [],is,h=>by cases h;exact .nil
 | e::es,is,h=>by
  cases e with
  | Name x p=>
   have h:(match slot c x,slots c es with | some i,some is=>some (i::is) | _,_=>none)=some is:=h
   cases e1:slot c x with
   | none=>rw[e1] at h;cases h
   | some i=>
    cases e2:slots c es with
    | none=>rw[e1,e2] at h;cases h
    | some js=>
     rw[e1,e2] at h
     cases h
     obtain⟨q1,q2⟩:=tR G e1
     exact .cons q1 q2 (qc G e2)
  | _=>cases h
def L8(c:Ct)(f:Expr->GE)(v:Expr):List Expr->GS
 | [.Name x _]=>(match slot c x with | some i=>bQ i (f v) | none=>cD)
 | [.Subscript o i _]=>if AV v=false/\GL i=false then nh (f v) (f o) (f i) else cD
 | _=>cD
theorem L9{c:Ct}{k:Nat}(G:Good c k X){f:Expr->GE}(h:∀e,JE X e (f e))(ha:∀e,Iu X e (f e))(v:Expr)(ts:List Expr)(pos:Pos):JS X (.Assign ts v pos) (L8 c f v ts):=by
 unfold L8
 split
 ·rename_i x p
  cases e:slot c x with
  | none=>exact bN
  | some i=>
   obtain⟨e1,e2⟩:=tR G e
   dsimp only
   exact ha v i x _ _ (by rw[G.N];exact G.nd) e1 e2.1 e2.2
 ·rename_i o i p
  by_cases g:AV v=false/\GL i=false
  ·rw[if_pos g]
   have g2:=g.2
   refine FC (h v) (h o) (h i) (by unfold swapsWithSole;exact tQ g.1) ?_ rfl ?_
   ·cases v<;>rfl
   ·intro _
    cases i<;>first | rfl | cases g2
  ·rw[if_neg g];exact bN
 ·exact bN
def L_(c:Ct)(f:Expr->GE)(i:Nat)(gb:GS):Expr->GS
 | .Call (.Name x p) [a] [] q=>if jY c x=true then(if plain a=true then kF i (i8 f [a]) gb else cD) else Cc i (f (.Call (.Name x p) [a] [] q)) gb
 | e=>if isSet e=false then Cc i (f e) gb else cD
theorem L'{c:Ct}{k:Nat}(G:Good c k X)(hl:c.loop=true){f:Expr->GE}(h:∀e,JE X e (f e)){x:Str}{i:Nat}(hx:slot c x=some i){body:List Stmt}{gb:GS}(hb:mE X body gb)(e:Expr)(pos pos':Pos):JS X (.For (.Name x pos') e body [] pos) (L_ c f i gb e):=by
 have nd:X.N.Nodup:=by rw[G.N];exact G.nd
 obtain⟨e1,e2⟩:=tR G hx
 have rg:=vq G
 unfold L_
 split
 ·rename_i y p a q
  by_cases g:jY c y=true
  ·rw[if_pos g]
   obtain⟨rfl,g2,g3⟩:=rg y g
   by_cases ga:plain a=true
   ·rw[if_pos ga]
    exact Cf i nd (G.loop hl).2 (G.loop hl).1 g2 g3 (dz h [a] (by simp[ga])) hb e1 e2.1 e2.2 (aF ga)
   ·rw[if_neg ga];exact bN
  ·rw[if_neg g];exact Cd i nd (G.loop hl).2 (G.loop hl).1 (h _) hb e1 e2.1 e2.2 (gS rfl)
 ·by_cases g:isSet e=false
  ·rw[if_pos g];exact Cd i nd (G.loop hl).2 (G.loop hl).1 (h _) hb e1 e2.1 e2.2 (gS g)
  ·rw[if_neg g];exact bN
def xw(c:Ct)(f:Expr->GE):Expr->GS
 | .Call (.Name x _) (e::es) [] _=>if okN x=true/\(e::es).all plain=true/\c.names.lookup x=some .globalImplicit/\c.clss.contains x=true/\c.free=true then sS x (i8 f (e::es)) else cD
 | _=>cD
theorem D7{c:Ct}{k:Nat}(G:Good c k X){f:Expr->GE}(h:∀e,JE X e (f e))(e:Expr)(pos:Pos):JS X (.Raise (some e) none pos) (xw c f e):=by
 unfold xw
 split
 ·rename_i x p e es q
  by_cases g:okN x=true/\(e::es).all plain=true/\c.names.lookup x=some .globalImplicit/\c.clss.contains x=true/\c.free=true
  ·rw[if_pos g]
   obtain⟨g1,g2,g3,g4,g5⟩:=g
   have hg:Gl X x:=by
    show X.env.scope.names.lookup x=_
    rw[G.sc];exact g3
   have gp:plain e=true/\es.all plain=true:=by rw[cQ,cH] at g2;exact g2
   obtain⟨C,q1,q2⟩:=G.cls x g4
   exact Ci (G.free g5).2 q2 hg q1 (dz h (e::es) g2) (gj g1) (aF gp.1) (eL gp.2)
  ·rw[if_neg g];exact bN
 ·exact bN
def Ma(c:Ct)(b:Ct->List Stmt->GS)(body:List Stmt):List ExceptHandler->GS
 | [.ExceptHandler (some (.Name x _)) (some n) (b0::suite) _]=>if okN x=true/\c.names.lookup x=some .globalImplicit/\c.clss.contains x=true/\c.free=true/\c.top=true then
   (match y0 c n with
   | some i=>z_ (λy=>c.tc.lookup (y,x)) i (b c.Il body) (b c.yS (b0::suite))
   | none=>cD) else cD
 | _=>cD
theorem Mb{c:Ct}{k:Nat}(G:Good c k X){b:Ct->List Stmt->GS}(hb:∀c X,Good c k X->∀s,mE X s (b c s))(body:List Stmt)(hs:List ExceptHandler)(pos:Pos):JS X (.Try body hs [] [] pos) (Ma c b body hs):=by
 unfold Ma
 split
 ·rename_i x p n b0 suite q
  by_cases g:okN x=true/\c.names.lookup x=some .globalImplicit/\c.clss.contains x=true/\c.free=true/\c.top=true
  ·rw[if_pos g]
   obtain⟨g1,g3,g4,g5,g6⟩:=g
   have hg:Gl X x:=by
    show X.env.scope.names.lookup x=_
    rw[G.sc];exact g3
   obtain⟨D,q1,q2⟩:=G.cls x g4
   cases e1:y0 c n with
   | none=>exact bN
   | some i=>
    obtain⟨e2,e3⟩:=D6 G e1
    exact KP (G.stk g6) (by rw[G.N];exact G.nd) e2 e3 (G.free g5).2 G.tab hg q1 q2.cls (gj g1) (λpn E=>hb _ _ (G.body g5 pn E) _) λa o u pn E nx=>hb _ _ (G.suite nx pn E) _
  ·rw[if_neg g];exact bN
 ·exact bN
def D8(c:Ct)(f:Expr->GE)(t:Expr->GT)(b:Ct->List Stmt->GS):Stmt->GS
 | .Return (some e) _=>cC (f e)
 | .Return none _=>cC (gC .aP)
 | .Expr e _=>if AV e=false then ng (f e) else cD
 | .If q x y _=>rh (t q) (b c x) (b c y)
 | .Assign ts v _=>L8 c f v ts
 | .For (.Name x _) e body [] _=>if c.loop=true then(match slot c x with | some i=>L_ c f i (b c body) e | none=>cD) else cD
 | .For (.Tuple es _ _) e body [] _=>if c.loop=true/\isSet e=false then(match slots c es with | some is=>(if Iq c e=true then yC is (tN c f e) (b c body) else rC is (f e) (b c body)) | none=>cD) else cD
 | .Raise (some e) none _=>xw c f e
 | .Try body hs [] [] _=>Ma c b body hs
 | .Pass _=>dH
 | _=>cD
theorem D9{c:Ct}{k:Nat}(G:Good c k X){f:Expr->GE}{t:Expr->GT}{b:Ct->List Stmt->GS}(h:∀e,JE X e (f e))(ha:∀e,Iu X e (f e))(ht:∀e,JT X e (t e))(hb:∀c X,Good c k X->∀s,mE X s (b c s))(s:Stmt):JS X s (D8 c f t b s):=by
 unfold D8
 split
 ·exact Kx (h _)
 ·exact FI
 ·rename_i e p
  by_cases g:AV e=false
  ·rw[if_pos g];exact FA (h _) (tQ g)
  ·rw[if_neg g];exact bN
 ·exact Ov (ht _) (hb c X G _) (hb c X G _)
 ·exact L9 G h ha _ _ _
 ·rename_i x p e body q
  by_cases g:c.loop=true
  ·rw[if_pos g]
   cases e1:slot c x with
   | none=>exact bN
   | some i=>exact L' G g h e1 (hb c X G body) e _ _
  ·rw[if_neg g];exact bN
 ·rename_i es kk p e body q
  by_cases g:c.loop=true/\isSet e=false
  ·rw[if_pos g]
   cases e1:slots c es with
   | none=>exact bN
   | some is=>
    dsimp only
    by_cases ge:Iq c e=true
    ·rw[if_pos ge];exact Ga (by rw[G.N];exact G.nd) (G.loop g.1).2 (G.loop g.1).1 (qc G e1) (p9 G h es kk p e) (hb c X G body) (gS g.2)
    ·rw[if_neg ge]
     exact FO (by rw[G.N];exact G.nd) (G.loop g.1).2 (G.loop g.1).1 (qc G e1) (h e) (hb c X G body) (gS g.2)
  ·rw[if_neg g];exact bN
 ·exact D7 G h _ _
 ·exact Mb G hb _ _ _
 ·exact Fz
 ·exact bN
end
def xx(f:Stmt->GS):List Stmt->GS
 | []=>dH
 | [s]=>f s
 | s::s'::r=>bb (f s) (xx f (s'::r))
theorem vA{X:Cx}{f:Stmt->GS}(h:∀s,JS X s (f s)):∀ss,mE X ss (xx f ss)
 | []=>Fx
 | [s]=>Fy (h s)
 | s::s'::r=>B2 (h s) (vA h (s'::r))
def cR:Nat->Ct->List Stmt->GS
 | 0,_=>λ_=>cD
 | n+1,c=>xx (D8 c (kq 40 c).1 (kq 40 c).2 (cR n))
theorem qd{k:Nat}:∀(n:Nat)(c:Ct)(X:Cx),Good c k X->∀ss:List Stmt,mE X ss (cR n c ss)
 | 0,_,_,_,_=>zR
 | n+1,c,X,G,ss=>vA (λs=>D9 G (du 40 k c X G).1 (D5 40 c X G) (du 40 k c X G).2 (qd n) s) ss
structure xy(K:PySem.W.Frag)(mg:Str->Option Zq)(q:Str)(P:Zk):Prop where
 tab:bq K q=some P
 code:∃c o vs file tf flags tg M6 text tt,PySem.W.tabIn K q=some (c,P)/\K.lookup c=some o/\o.cls= .type "code"/\o.data= .fields vs/\vs[11]? =some (.ref P)/\vs.getD 11 .none= .ref P/\vs.getD 18 .none= .str file tf/\
  vs.getD 7 .none= .int flags tg/\vs.getD 9 .none= .bool M6/\vs.getD 10 .none= .int text tt/\c≠P
 mem:q∈a8
 uniq:∀q',q'∈a8->bq K q'=some P->q'=q
theorem xy.at'{X:Cx}{q:Str}{P f:Zk}{cdv:Zq}(h:xy X.K X.mg q P)(M:ka X.K X.mg X.base)(hn:PySem.W.nsIn X.K ZA q=some (some (.ref f)))(hc:B7 X.K f cdv)(e1:X.env.code=cdv)(e2:X.env.qual=q++".<locals>."):u_ X q P:=by
 obtain⟨c,o,vs,file,tf,flags,tg,M6,text,tt,t,l,r⟩:=h.code
 refine⟨⟨c,?_,o,vs,file,tf,flags,tg,M6,text,tt,M.1.EM _ _ l,r⟩,e2,h.tab,h.mem,h.uniq,M.2⟩
 ·obtain⟨of,lf,fd,d,cd⟩:=hc
  rw[e1,<-cd]
  unfold PySem.W.tabIn at t
  rw[hn] at t
  dsimp only at t
  rw[lf] at t
  obtain⟨oc,od,da,sl⟩:=of
  dsimp only at d
  subst d
  dsimp only at t
  cases q1:fd.code with
  | ref c2=>
   rw[q1] at t
   dsimp only at t
   split at t
   ·split at t
    ·cases t;rfl
    ·cases t
   ·cases t
  | _=>rw[q1] at t;cases t
structure vB(c:Ct)(k:Nat)(P:Zo)(w:Zr)(K:PySem.W.Frag)(mg:Str->Option Zq)(base:Heap):Prop where
 lam:∀p L,c.lam=some (p,L)->w_ P w K mg base k p 3 L
 AH:∀x F,c.AH.lookup x=some F->Sh P w K mg k c.lj x F
 GF:∀x n F,c.fns.lookup x=some (n,F)->c.LS.contains x=true->∀base,ka K mg base->uI P w K mg base c.lj x n F
 at':c.self∈a8->∃P,xy K mg c.self P
 sk:c.sk<=k
theorem vB.no{c:Ct}{k:Nat}{P:Zo}{w:Zr}{K:PySem.W.Frag}{mg:Str->Option Zq}{base:Heap}(h1:c.lam=none)(h2:c.AH=[])(h3:c.LS=[])(h4:c.self="")(h5:c.sk=0:=by rfl):vB c k P w K mg base :=
 ⟨(λp L e=>by rw[h1] at e;cases e),(λx F e=>by rw[h2] at e;cases e),(λx n F _ e=>by rw[h3] at e;cases e),(λe=>by rw[h4] at e;exact absurd e (by decide)),by rw[h5];exact bF _⟩
structure vC(c:Ct)(k:Nat)(P:Zo)(w:Zr)(K:PySem.W.Frag)(mg:Str->Option Zq)(base:Heap):Prop where
 cst:∀x w,c.consts.lookup x=some w->yR K mg x w
 bl:∀x,c.bl.contains x=true->mg x=none
 fns:∀x n F,c.fns.lookup x=some (n,F)->uI P w K mg base k x n F
 tab:TabOk K c.tb c.tt c.tc
 cls:∀x,c.clss.contains x=true->∃C,mg x=some (.ref C)/\Cg K x C
 vo:∀x,c.vo.contains x=true->∃C,mg x=some (.ref C)/\ClsAt K x C
 xn:∀x kvs,c.xn.lookup x=some kvs->uW K w mg x kvs
 AG:∀x n F,c.AG.contains x=true->c.fns.lookup x=some (n,F)->F_ P w K mg base k x n F
 x:vB c k P w K mg base
theorem GV{P:Zo}{w:Zr}{K:PySem.W.Frag}{mg:Str->Option Zq}{base:Heap}{h:Heap}{k:Nat}{c:Ct}{x:Str}{st:Stmt}{ps:List Str}{g:GS}(KX:K.In h)(NS:h.Ns ZA mg)(D:dq K x st)(T:vC c k P w K mg base)
  (S:FnScope c.N ps (defScope st))(hn:(defScope st).names=c.names)(hg:cR 30 c (defBody st)=g)
  (hb:∀(kV doc pm:Zq)(an:Option Zk)(cdv ct:Zq)(us:List Zq),us.length=ps.length->bindArgs (PySem.W.fnOf x x (defArgs st) (defBody st) (defScope st) .none kV doc pm an cdv ct) ⟨us,[]⟩=pure (ps.zip us))(hM:c.self∈a8->ka K mg base/\c.self=x:=by exact λz=>absurd (show("":Str)∈a8 from z) (by decide)) :
  uI P w K mg base (k+1) x ps.length (mH c.N.length g):=by
 obtain⟨f,fd,a,F⟩:=D
 refine⟨f,fd,ps,?_,PySem.W.mg_of KX NS a,F.kp,F.binds hb⟩
 subst hg
 refine HP F S λcdv SI A outer s H E hr=>?_
 refine qd (k:=k) 30 c _ ⟨rfl,hn,S.nd,tK hr,λ_=>⟨hr,rfl⟩,λ_=>⟨rfl,GW⟩,T.cst,T.bl,T.fns,λ_=>⟨rfl,rfl,rfl⟩,λ_ _=>rfl,S.kind,T.tab,T.cls,T.vo,T.xn,pO.of hr,T.AG,⟨T.x.lam,T.x.AH,T.x.GF,λ_ z=>?_,T.x.sk⟩,⟨_,_,_,rfl,rfl,rfl⟩,.inl hr.hd⟩ _
 obtain⟨P',L⟩:=T.x.at' z
 obtain⟨M,e⟩:=hM z
 exact⟨P',xy.at' L M (by rw[e];exact a) SI rfl (by rw[e];rfl)⟩
theorem Mc{P:Zo}{w:Zr}{K:PySem.W.Frag}{mg:Str->Option Zq}{base:Heap}{k:Nat}{c:Ct}{x:Str}{st:Stmt}{ps:List Str}{g:GS}{f:Zk}{fd:Zm}(F:J0 K x x st f fd)(T:vC c k P w K mg base)
  (S:FnScope c.N ps (defScope st))(hn:(defScope st).names=c.names)(hg:cR 30 c (defBody st)=g)(hs:c.self∉a8:=by exact(show("":Str)∉a8 by decide)):FnOk P w K mg base (CXJ P w) (k+1) f fd ps (spW K ps.length (mH c.N.length g)):=by
 subst hg
 refine HP F S λcdv _ A outer s H E hr=>?_
 exact qd (k:=k) 30 c _ ⟨rfl,hn,S.nd,tK hr,λ_=>⟨hr,rfl⟩,λ_=>⟨rfl,GW⟩,T.cst,T.bl,T.fns,λ_=>⟨rfl,rfl,rfl⟩,λ_ _=>rfl,S.kind,T.tab,T.cls,T.vo,T.xn,pO.of hr,T.AG,⟨T.x.lam,T.x.AH,T.x.GF,λ_ z=>absurd z hs,T.x.sk⟩,⟨_,_,_,rfl,rfl,rfl⟩,.inl hr.hd⟩ _
def AllP{α:Type}(P:α->Prop):List α->Prop
 | []=>True
 | a::l=>P a/\AllP P l
theorem AllP.look{κ β:Type}[BEq κ][LawfulBEq κ]{P:κ×β->Prop}:∀{l:List (κ×β)}{x:κ}{b:β},AllP P l->l.lookup x=some b->P (x,b)
 | [],_,_,_,h=>by cases h
 | (y,c)::l,x,b,a,h=>by
  rw[eK] at h
  cases e:x == y with
  | true=>
   rw[e] at h
   cases h
   have e':=eq_of_beq e
   subst e'
   exact a.1
  | false=>rw[e] at h;exact AllP.look a.2 h
theorem AllP.mem{P:Str->Prop}:∀{l:List Str}{x:Str},AllP P l->l.contains x=true->P x
 | [],_,_,h=>by cases h
 | y::l,x,a,h=>by
  rw[wO,Bool.or_eq_true] at h
  rcases h with e | h
  ·have e':=eq_of_beq e
   subst e'
   exact a.1
  ·exact AllP.mem a.2 h
theorem lZ{K:PySem.W.Frag}{c:PySem.Str}{C D:Zk}(h:ClsAt K c C)(k:ClsAt K c D):C=D:=by
 unfold ClsAt at h k
 rw[h] at k
 cases k
 rfl
theorem Md{K:PySem.W.Frag}{tb:Tab}{tt:uO}{tc:Tab}(h:AllP (λp=>∃C D,ClsAt K p.1.1 C/\ClsAt K p.1.2 D/\lG K C/\PySem.W.kitOne K (.ref C) (.ref D)=some p.2) tb)
  (g:AllP (λp=>∃C,ClsAt K p.1.1 C/\lG K C/\PySem.W.kitOne K (.ref C) (.type p.1.2)=some p.2) tt)
  (f:AllP (λp=>∃C D,ClsAt K p.1.1 C/\ClsAt K p.1.2 D/\PySem.W.excIn K C zU zV=true/\PySem.W.excIn K D zU zV=true/\PySem.W.mroIn K C (.ref D)=some p.2) tc):TabOk K tb tt tc :=
 ⟨λc d b C D e hC hD=>by
  obtain⟨C',D',q1,q2,r⟩:=AllP.look h e
  cases lZ hC q1
  cases lZ hD q2
  exact r,λc d b C D e hC hD=>by
  obtain⟨C',D',q1,q2,r⟩:=AllP.look f e
  cases lZ hC q1
  cases lZ hD q2
  exact r,λc T b C e hC=>by
  obtain⟨C',q1,r⟩:=AllP.look g e
  cases lZ hC q1
  exact r⟩
theorem vD{c:Ct}{k:Nat}{P:Zo}{w:Zr}{K:PySem.W.Frag}{mg:Str->Option Zq}{base:Heap}(hc:AllP (λp=>yR K mg p.1 p.2) c.consts)(hb:AllP (λx=>mg x=none) c.bl)(hf:AllP (λp=>uI P w K mg base k p.1 p.2.1 p.2.2) c.fns)
  (ht:TabOk K c.tb c.tt c.tc)(hk:AllP (λx=>∃C,mg x=some (.ref C)/\Cg K x C) c.clss)(hn:AllP (λx=>∃C,mg x=some (.ref C)/\ClsAt K x C) c.vo)(hd:AllP (λp=>uW K w mg p.1 p.2) c.xn)
  (hu:AllP (λx=>∀n F,c.fns.lookup x=some (n,F)->F_ P w K mg base k x n F) c.AG:=by exact trivial)(hx:vB c k P w K mg base:=by exact vB.no rfl rfl rfl rfl):vC c k P w K mg base :=
 ⟨λ_ _ h=>hc.look h,λ_ h=>hb.mem h,λx n F h=>hf.look (b:=(n,F)) h,ht,λ_ h=>hk.mem h,λ_ h=>hn.mem h,λx kvs h=>hd.look (b:=kvs) h,λx n F h k=>hu.mem h n F k,hx⟩
def eM(K:PySem.W.Frag):List Zk:=a8.filterMap (bq K)
def y3(K:PySem.W.Frag)(ts:List Zk):Prop:=∀q P,q∈a8->bq K q=some P->P∈ts/\∃c o vs,K.lookup c=some o/\o.cls= .type "code"/\o.data= .fields vs/\vs[11]? =some (.ref P)
theorem qe{K:PySem.W.Frag}{P:Zk}(h:P∈eM K):∃q,q∈a8/\bq K q=some P:=by
 unfold eM at h
 obtain⟨q,hq,e⟩:=List.mem_filterMap.mp h
 exact⟨q,hq,e⟩
theorem AW{K:PySem.W.Frag}{q:Str}{P:Zk}(h:bq K q=some P):K.lookup P=none/\∃c,PySem.W.tabIn K q=some (c,P):=by
 unfold bq at h
 cases t:PySem.W.tabIn K q with
 | none=>rw[t] at h;cases h
 | some cp=>
  obtain⟨c,P'⟩:=cp
  rw[t] at h
  dsimp only at h
  split at h
  ·rename_i z;cases h;exact⟨by simpa using z,c,rfl⟩
  ·cases h
theorem y6{K:PySem.W.Frag}{q:Str}{c P:Zk}(t:PySem.W.tabIn K q=some (c,P))(h:K.lookup P=none):bq K q=some P:=by
 unfold bq
 rw[t]
 dsimp only
 rw[h]
 rfl
theorem GX{K:PySem.W.Frag}{mg:Str->Option Zq}{q:Str}{c P:Zk}{o:Obj}{vs:Array Zq}{file:Str}{tf tg tt:Tok}{flags text:Int}{M6:Bool}(hq:q∈a8)(ht:PySem.W.tabIn K q=some (c,P))(hn:K.lookup P=none)(hc:K.lookup c=some o)(h1:o.cls= .type "code")(h2:o.data= .fields vs)
  (h3:vs[11]? =some (.ref P))(h4:vs.getD 11 .none= .ref P)(h5:vs.getD 18 .none= .str file tf)(h6:vs.getD 7 .none= .int flags tg)(h7:vs.getD 9 .none= .bool M6)(h8:vs.getD 10 .none= .int text tt)(hne:c≠P)
  (hu:∀q',q'∈a8->bq K q'=some P->q'=q):xy K mg q P :=
 ⟨y6 ht hn,⟨c,o,vs,file,tf,flags,tg,M6,text,tt,ht,hc,h1,h2,h3,h4,h5,h6,h7,h8,hne⟩,hq,hu⟩
theorem D_{P:Zo}{w:Zr}{K:PySem.W.Frag}{mg:Str->Option Zq}{h:Heap}{k:Nat}{F:List Wv->Hs->Re Wv}{fa:Zk}{st:Stmt}(KX:K.In h)(NS:h.Ns ZA mg)(hmg:mg "law"=some (.ref fa))(D:dq K "law" st)
  (hp:∀(kV doc pm:Zq)(an:Option Zk)(cdv ct:Zq)(s:Zp)(u:Zq),BindsTo s (PySem.W.fnOf "law" "law" (defArgs st) (defBody st) (defScope st) .none kV doc pm an cdv ct) ⟨[u],[]⟩ [("script",u)])
  (FN:∀(f:Zk)(fd:Zm),J0 K "law" "law" st f fd->∀base:Heap,ka K mg base->FnOk P w K mg base (CXJ P w) k f fd ["script"] (spW K 1 F)) :
  ∃fd:Zm,(∀(s:Zp)(u:Zq),BindsTo s fd ⟨[u],[]⟩ [("script",u)])/\∀base:Heap,ka K mg base->FnOk P w K mg base (CXJ P w) k fa fd ["script"] (spW K 1 F):=by
 obtain⟨f,fd,a,Fu⟩:=D
 have e:=hmg.symm.trans (PySem.W.mg_of KX NS a)
 cases e
 refine⟨fd,λs u=>?_,FN fa fd Fu⟩
 obtain⟨oc,od,kV,doc,pm,an,cdv,ct,osl,rfl,lk,hcd⟩:=Fu.ex
 exact hp kV doc pm an cdv ct s u
theorem GY{c:Ct}{k:Nat}{P:Zo}{w:Zr}{K:PySem.W.Frag}{mg:Str->Option Zq}{base:Heap}(hl:c.lam=none)(hf:AllP (λq=>Sh P w K mg k c.lj q.1 q.2) c.AH)
  (hj:AllP (λx=>∀n F,c.fns.lookup x=some (n,F)->∀base,ka K mg base->uI P w K mg base c.lj x n F) c.LS)(ha:c.self∈a8->∃P,xy K mg c.self P)(hk:c.sk<=k:=by exact bF _):vB c k P w K mg base :=
 ⟨(λp L e=>by rw[hl] at e;cases e),λx F e=>hf.look (b:=F) e,λx n F e h=>hj.mem h n F e,ha,hk⟩
theorem AX{P:Zo}{w:Zr}{K:PySem.W.Frag}{mg mb:Str->Option Zq}{CX:A7}{k:Nat}{fa a:Zk}{fd:Zm}{x:Str}{sp:Sp}{s₁:Zp}{vs:List Zq}{ns:List Int}{ts:List Zk}
  (KX:K.In s₁.heap)(T:y3 K ts)(TH:∀P∈ts,s₁.heap.get? P=some (PySem.W.tabObj #[]))(hbm:Gd mg s₁.heap)(hns:s₁.heap.Ns ZA mg)(hb:s₁.heap.Ns builtinsNs mb)(Xp:∀x:Str,x≠"__name__"->mb x=Zu x)(hlim:s₁.heap.NoLimit)(hg:s₁.gens=#[])
  (ha:s₁.heap.get? a=some { cls:=.type "list",data:=.seq vs.toArray })(hi:IntsAre vs ns)(hl:ns.length<=ZE)(hr:dD k callerA)
  (F:∀base:Heap,ka K mg base->FnOk P w K mg base CX k fa fd [x] sp)(hbind:∀(s:Zp)(u:Zq),BindsTo s fd ⟨[u],[]⟩ [(x,u)])
  (Hw:∀H:Hp,yc H->fB K H a (ns.map V.int)->kD K H->sp [.ref a] H (λv _=>v= .bl true) λ_ _ _=>False)
  (SJ:∀H e s',CX [] H s₁ (λ_ _ _=>False) e s'->False) :
  Zv (model P w) callerA (.call (.ref fa) ⟨[.ref a],[]⟩) (λr s'=>r= .ok (.ret (.bool true))/\OldK s₁.heap s'.heap/\s'.os=s₁.os/\AllBare s'.gens) s₁:=by
 have rv:=ra hi
 have SK:=hi.length
 have GZ:∀b∈eM K,s₁.heap.get? b=some (PySem.W.tabObj #[]):=λb M7=>by
  obtain⟨q,hq,t⟩:=qe M7
  exact TH _ (T q b hq t).1
 have Xq:a∉eM K:=λz=>by
  have e:=GZ a z
  rw[ha] at e;cases e
 have core:∀S:Option HO,(S=none\/S=some (.fu { cls:=.type "list",data:=.seq vs.toArray } (.lst (ns.map V.int))))->(S=none->fB K (λb=>if b=a then S else if b∈eM K then some (.jf #[]) else none) a (ns.map V.int))->(S≠none->K.lookup a=none)->
   Zv (model P w) callerA (.call (.ref fa) ⟨[.ref a],[]⟩) (λr s'=>r= .ok (.ret (.bool true))/\OldK s₁.heap s'.heap/\s'.os=s₁.os/\AllBare s'.gens) s₁:=by
  intro S hS Xr hK
  let H:Hp:=λb=>if b=a then S else if b∈eM K then some (.jf #[]) else none
  have Ha:H a=S:=if_pos rfl
  have Ht:∀b∈eM K,H b=some (.jf #[]):=λb M7=>by
   show(if b=a then S else _)=_
   rw[if_neg (λe=>Xq (by rw[<-e];exact M7)),if_pos M7]
  have Hn:∀b,b≠a->b∉eM K->H b=none:=λb h1 h2=>by
   show(if b=a then S else _)=_
   rw[if_neg h1,if_neg h2]
  have hO:yc H:=λb=>by
   by_cases e:b=a
   ·subst e
    rw[Ha]
    rcases hS with z | z
    ·exact .inl z
    ·exact .inr (.inl ⟨_,_,z⟩)
   ·by_cases e2:b∈eM K
    ·exact .inr (.inr (Ht b e2))
    ·exact .inl (Hn b e e2)
  have hok:j9 P w H s₁.heap:=λb u z=>by
   by_cases e:b=a
   ·subst e
    rw[Ha] at z
    rcases hS with q | q
    ·rw[q] at z;cases z
    ·rw[q] at z
     cases z
     exact⟨ha,by rw[aH];exact hl,vs,_,rv,ha⟩
   ·by_cases e2:b∈eM K
    ·rw[Ht b e2] at z
     cases z
     exact GZ b e2
    ·rw[Hn b e e2] at z;cases z
  have Xs:fB K H a (ns.map V.int):=by
   rcases hS with z | z
   ·exact Xr z
   ·exact .inl (.inr ⟨_,Ha.trans z⟩)
  have tb:kD K H:=λq P' hq e=>⟨#[],Ht _ (List.mem_filterMap.mpr ⟨q,hq,e⟩),trivial,λpos cv z=>by simp[codeAmong] at z⟩
  have Pq:∀{b:Zk}{o:Obj}{es:Array DictEntry}{ep:Nat},s₁.heap.get? b=some o->o.data= .dict es ep->H b=none:=λ{b o es ep} e d=>by
   refine Hn b (λz=>?_) (λz=>?_)
   ·rw[z,ha] at e;cases e;cases d
   ·rw[GZ b z] at e;cases e;cases d
  have SN:∀{b:Zk}{m:Str->Option Zq},s₁.heap.Ns b m->(qx s₁.heap H).Ns b m:=λ{b m} ⟨o,es,ep,e,d,r⟩=>⟨o,es,ep,kW e (Pq e d),d,r⟩
  have Xt:K.In (qx s₁.heap H):=λb o e1=>by
   have e2:b∉eM K:=λz=>by
    obtain⟨q,hq,t⟩:=qe z
    rw[(AW t).1] at e1;cases e1
   refine kW (KX b o e1) ?_
   by_cases z:b=a
   ·subst z
    rw[Ha]
    rcases hS with q | q
    ·exact q
    ·rw[hK (by rw[q];simp)] at e1;cases e1
   ·exact Hn b z e2
  have hM:Mod K mg (qx s₁.heap H):=⟨Xt,SN hns,⟨mb,SN hb,Xp⟩,let ⟨mc,h1,h2⟩:=hlim;⟨mc,SN h1,h2⟩⟩
  have e0:mv P w K mg (qx s₁.heap H) callerA [] s₁ H:=⟨rfl,hM,λb o e=>xN e,sR (qT _ _),trivial,λb z=>absurd (show b∈([]:List Zk) from z) (by simp),hok,.of_eq hg⟩
  have hB:Gd mg (qx s₁.heap H):=by
   obtain⟨bm,ob,b1,b2,b3,b4,b5,b6,b7⟩:=hbm
   refine⟨bm,ob,b1,b2,b3,kW b4 (Hn bm (λz=>?_) λz=>?_),b5,b6,b7⟩
   ·rw[z,ha] at b4;cases b4;cases b7
   ·rw[GZ bm z] at b4;cases b4;cases b7
  refine codeAny_mono ((F _ ⟨hM,hB⟩).run callerA [] s₁ H ⟨[.ref a],[]⟩ [.ref a] [.ref a] _ _ hr e0 (hbind s₁ (.ref a)) (.cons rfl .nil) (Hw H hO Xs tb)) λr s' h=>?_
  cases r with
  | error e=>exact(SJ H e s' h).elim
  | ok fl=>
   cases fl with
   | next=>exact aa h
   | brk=>exact aa h
   | cont=>exact aa h
   | ret u=>
    obtain⟨v,H',os,bare,un,Gb,r',q⟩:=h
    have q':v= .bl true:=q
    subst q'
    obtain rfl:u=iH true:=r'
    have old:∀b o,s₁.heap.get? b=some o->asItWas s₁.heap s'.heap b o:=λb o e=>by
     cases q:H b with
     | none=>exact .inl (un.keep b o e q (λz=>absurd (show b∈([]:List Zk) from z) (by simp)) (by simp))
     | some u=>
      rcases hO b with z | ⟨ob,xs,z⟩ | z
      ·rw[q] at z;cases z
      ·obtain⟨e1,_⟩:=hok b _ z
       obtain⟨e2,_⟩:=Gb b _ (un.iI b ob _ z)
       rw[e] at e1;cases e1
       exact .inl e2
      ·obtain⟨more,m1⟩:=un.ja b _ z
       have e1:s₁.heap.get? b=some (PySem.W.tabObj #[]):=hok b _ z
       have e2:s'.heap.get? b=some (PySem.W.tabObj (#[]++more)):=Gb b _ m1
       rw[e] at e1
       cases e1
       have M7:b∈eM K:=by
        by_cases e3:b∈eM K
        ·exact e3
        ·by_cases e4:b=a
         ·rw[e4,ha] at e;cases e
         ·rw[Hn b e4 e3] at z;cases z
       obtain⟨qq,hq,t⟩:=qe M7
       obtain⟨_,c,o2,Xu,l1,l2,l3,l4⟩:=T qq b hq t
       exact .inr (.inl ⟨⟨c,o2,Xu,KX _ _ l1,l2,l3,l4⟩,rfl,#[],more,rfl,e2⟩)
    exact⟨rfl,⟨old,λb o e=>un.there b o e (by simp)⟩,os,bare⟩
 cases hk:K.lookup a with
 | some o=>
  have e:=KX a o hk
  rw[ha] at e
  cases e
  refine core none (.inl rfl) (λ_=> .inr ⟨_,vs.toArray,_,hk,rfl,rfl,rfl,by rw[aT,SK];exact hl,by simpa using rv⟩) (λz=>absurd rfl z)
 | none=>exact core _ (.inr rfl) (λz=>by cases z) λ_=>hk
theorem walk_ofT{l:PySem.W.OpenLaw}{n k:Nat}{q:Zo}{loose:List Str}{XP:(Str->Option Zq)->Heap->Prop}{YP:Zr->Heap->Prop}{d:DefRec}{K:Params->PySem.W.Frag}{CX:Zr->A7}{sp:Zr->Sp}{x:Str}{ts:List Zk}
  (hn:l.most=some n)(hn2:n<=ZE)(hdf:d.params.defaults=[])(hr:dD k callerA)(hY:∀(w:Zr)(h:Heap),YP w h->(K w.params).In h/\∀P∈ts,h.get? P=some (PySem.W.tabObj #[]))
  (F:∀(w:Zr)(mg:Str->Option Zq)(fa:Zk)(h:Heap),(K w.params).In h->h.Ns ZA mg->mg d.name=some (.ref fa)->y3 (K w.params) ts/\
   ∃fd:Zm,(∀(s:Zp)(u:Zq),BindsTo s fd ⟨[u],[]⟩ [(x,u)])/\∀base:Heap,ka (K w.params) mg base->FnOk l.prog w (K w.params) mg base (CX w) k fa fd [x] (sp w))
  (Hw:∀(w:Zr)(H:Hp)(a:Zk)(ns:List Int),ns.length<=n->yc H->fB (K w.params) H a (ns.map V.int)->kD (K w.params) H->sp w [.ref a] H (λv _=>v= .bl true) λ_ _ _=>False)
  (SJ:∀(w:Zr)(H:Hp)(s:Zp)(e:Zq)(s':Zp),CX w [] H s (λ_ _ _=>False) e s'->False) :
  PySem.W.WalkO q loose XP YP l.row.toRowW d [] (λf vs=>PySem.call f vs):=by
 refine Att.uA hn hdf λw s₀ s₁ mg mb fa o pm cd doc a vs ns G Y ho hd hcd hmg hobj hints hlen hg=>?_
 obtain⟨KX,TH⟩:=hY w _ Y
 obtain⟨T,fd,hb,hF⟩:=F w mg fa _ KX G.T.g hmg
 have hbm:Gd mg s₁.heap:=by
  obtain⟨bm,ob,b1,b2,b3,b4,b5,b6⟩:=G.T.bmain
  refine⟨bm,ob,b1,b2,λq=>?_,b3,b4,b5,b6⟩
  obtain⟨o,es,ep,e,hd,_⟩:=G.T.g
  rw[q,e] at b3;cases b3;rw[hd] at b6;cases b6
 exact AX KX T TH hbm G.T.g G.T.b G.T.builtins G.T.nolimit hg hobj hints (bE hlen hn2) hr hF hb (λH hO hS hT=>Hw w H a ns hlen hO hS hT) λH e s'=>SJ w H s₁ e s'
def Rs.sq(r:Rs)(h:GS):Rs:=match r with
 | .nx ρ st=>h ρ st
 | r=>r
section
variable {α β:Type} {ρ ρ':bA} {st:Hs} {h g YY YZ:GS} {ga gb gc:GE} {gt gu:GT} {w:Wv} {c:PySem.Str} {f:α->Hs->Re β} {k:α->Hs->Rs} {a:α} {i:Nat}
@[simp] theorem nH:(Rs.nx ρ st).sq h=h ρ st:=rfl
@[simp] theorem VA:(Rs.rt w st).sq h= .rt w st:=rfl
@[simp] theorem VB:(Rs.bk ρ st).sq h= .bk ρ st:=rfl
@[simp] theorem VC:(Rs.ct ρ st).sq h= .ct ρ st:=rfl
@[simp] theorem SQ:(Rs.err c ρ st).sq h= .err c ρ st:=rfl
@[simp] theorem SR:Rs.bad.sq h= .bad:=rfl
@[simp] theorem y7:(Re.ok a st).bind f=f a st:=rfl
@[simp] theorem Pr:(Re.err c st).bind f= .err c st:=rfl
@[simp] theorem Pt:(Re.bad:Re α).bind f= .bad:=rfl
@[simp] theorem Me:(Re.ok a st).bH ρ k=k a st:=rfl
@[simp] theorem QA:(Re.err c st:Re α).bH ρ k= .err c ρ st:=rfl
@[simp] theorem Mf:(Re.ok a st).je= .ok a st:=rfl
@[simp] theorem QB:(Re.bad:Re α).je= .bad:=rfl
@[simp] theorem QC:(Re.bad:Re α).bH ρ k= .bad:=rfl
@[simp] theorem nJ:bb g h ρ st=(g ρ st).sq h:=by unfold bb Rs.sq;cases g ρ st<;>rfl
@[simp] theorem e_next:dH ρ st= .nx ρ st:=rfl
@[simp] theorem Ea:cC ga ρ st=(ga ρ st).bH ρ λw st'=> .rt w st':=rfl
@[simp] theorem e_expr:ng ga ρ st=(ga ρ st).bH ρ λ_ st'=> .nx ρ st':=rfl
@[simp] theorem Iz:bQ i ga ρ st=(ga ρ st).bH ρ λw st'=> .nx (ρ.set i (some w)) st':=rfl
def SU(ga gb:GS)(ρ:bA):Bool->Hs->Rs:=λb st'=>if b=true then ga ρ st' else gb ρ st'
@[simp] theorem VD:SU g h ρ true st=g ρ st:=rfl
@[simp] theorem VE:SU g h ρ false st=h ρ st:=rfl
@[simp] theorem Xv:rh gt g h ρ st=(gt ρ st).bH ρ (SU g h ρ):=rfl
def VF(o:Option (Option Wv))(st:Hs):Re Wv:=match o with
 | some (some w)=> .ok w st
 | _=> .bad
@[simp] theorem VG:VF (some (some w)) st= .ok w st:=rfl
@[simp] theorem VH:ag i ρ st=VF ρ[i]? st:=rfl
@[simp] theorem e_c:gC w ρ st= .ok w st:=rfl
def kB(op:gv)(gb:GE)(ρ:bA):Wv->Hs->Re Wv:=λx st1=>(gb ρ st1).bind λy st2=>(op x y st2).je
@[simp] theorem SV{op:gv}{x:Wv}:kB op gb ρ x st=(gb ρ st).bind λy st2=>(op x y st2).je:=rfl
@[simp] theorem Pu{op:gv}:ao op ga gb ρ st=(ga ρ st).bind (kB op gb ρ):=rfl
@[simp] theorem VI:ik ga ρ st=(ga ρ st).bind HG:=rfl
@[simp] theorem VJ{b:Bool}:HG (.bl b) st= .ok b st:=rfl
@[simp] theorem VL:nQ ga ρ st=(ga ρ st).bind KC:=rfl
@[simp] theorem SX{b:Bool}:KC (.bl b) st= .ok b st:=rfl
@[simp] theorem VM:wG gt ρ st=(gt ρ st).bind λb st1=> .ok (!b) st1:=rfl
def Pw(gb:GT)(ρ:bA):Bool->Hs->Re Bool:=λb st1=>if b=true then gb ρ st1 else .ok false st1
@[simp] theorem SY:Pw gu ρ true st=gu ρ st:=rfl
@[simp] theorem S8:Pw gu ρ false st= .ok false st:=rfl
def S_(gb:GT)(ρ:bA):Bool->Hs->Re Bool:=λb st1=>if b=true then .ok true st1 else gb ρ st1
@[simp] theorem VN:S_ gu ρ true st= .ok true st:=rfl
@[simp] theorem VO:S_ gu ρ false st=gu ρ st:=rfl
@[simp] theorem Xw:MV gt gu ρ st=(gt ρ st).bind (S_ gu ρ):=rfl
def Eb(gb:GE)(ρ:bA):Wv->Hs->Re Wv:=λw st1=>match w with
 | .bl true=>gb ρ st1
 | .bl false=> .ok (.bl false) st1
 | _=> .bad
@[simp] theorem QD:Eb gb ρ (.bl true) st=gb ρ st:=rfl
@[simp] theorem QE:Eb gb ρ (.bl false) st= .ok (.bl false) st:=rfl
@[simp] theorem Ta:ya ga gb ρ st=(ga ρ st).bind (Eb gb ρ):=rfl
def Px:Wv->Hs->Re Wv:=λw st1=>match w with
 | .bl b=> .ok (.bl (!b)) st1
 | _=> .bad
@[simp] theorem QF{b:Bool}:Px (.bl b) st= .ok (.bl (!b)) st:=rfl
def Mi(ga gb:GE)(ρ:bA):Bool->Hs->Re Wv:=λb st1=>if b=true then ga ρ st1 else gb ρ st1
@[simp] theorem Tc:Mi ga gb ρ true st=ga ρ st:=rfl
@[simp] theorem Td:Mi ga gb ρ false st=gb ρ st:=rfl
@[simp] theorem VP:Fl gt ga gb ρ st=(gt ρ st).bind (Mi ga gb ρ):=rfl
@[simp] theorem VQ:aq ρ st= .ok [] st:=rfl
def IB(gr:GA)(ρ:bA):Wv->Hs->Re (List Wv):=λx st1=>(gr ρ st1).bind λxs st2=> .ok (x::xs) st2
@[simp] theorem QG{gr:GA}{x:Wv}:IB gr ρ x st=(gr ρ st).bind λxs st2=> .ok (x::xs) st2:=rfl
@[simp] theorem Te{gr:GA}:ae ga gr ρ st=(ga ρ st).bind (IB gr ρ):=rfl
def Mj:List Wv->Hs->Re Wv:=λws st1=>if ws.length<=lim then .ok (.tup ws) st1 else .bad
theorem Mk{ws:List Wv}(hl:ws.length<=lim):Mj ws st= .ok (.tup ws) st:=if_pos hl
@[simp] theorem VR{gr:GA}:ml gr ρ st=(gr ρ st).bind Mj:=rfl
def tS:List Wv->Hs->Re Wv:=λws st1=>if ws.length<=lim then .ok (.ref st1.length) (st1++[.lst ws]) else .bad
theorem kM{ws:List Wv}(hl:ws.length<=lim):tS ws st= .ok (.ref st.length) (st++[.lst ws]):=if_pos hl
@[simp] theorem VS{gr:GA}:bT gr ρ st=(gr ρ st).bind tS:=rfl
section
variable {x x0 x1 x2 x3 x4 x5 x6 x7:Wv}
@[simp] theorem Tf:Mj [x0,x1] st= .ok (.tup [x0,x1]) st:=Mk (by simp[lim])
@[simp] theorem Tg:tS [] st= .ok (.ref st.length) (st++[.lst []]):=kM (by simp[lim])
@[simp] theorem Th:tS [x0] st= .ok (.ref st.length) (st++[.lst [x0]]):=kM (by simp[lim])
@[simp] theorem Ti:tS [x0,x1] st= .ok (.ref st.length) (st++[.lst [x0,x1]]):=kM (by simp[lim])
@[simp] theorem Ml:tS [x0,x1,x2,x3] st= .ok (.ref st.length) (st++[.lst [x0,x1,x2,x3]]):=kM (by simp[lim])
end
def rT(n:Nat)(F:List Wv->Hs->Re Wv):List Wv->Hs->Re Wv:=λws st1=>if ws.length=n then F ws st1 else .bad
section
variable {F:List Wv->Hs->Re Wv} {x0 x1 x2 x3:Wv} {gr:GA}
@[simp] theorem QH:rT 1 F [x0] st=F [x0] st:=rfl
@[simp] theorem QI:rT 2 F [x0,x1] st=F [x0,x1] st:=rfl
@[simp] theorem QJ:rT 3 F [x0,x1,x2] st=F [x0,x1,x2] st:=rfl
@[simp] theorem QK:rT 4 F [x0,x1,x2,x3] st=F [x0,x1,x2,x3] st:=rfl
@[simp] theorem Tj{n:Nat}:bV n F gr ρ st=(gr ρ st).bind (rT n F):=rfl
@[simp] theorem QL{op:List Wv->Hs->Re Wv}:ay op gr ρ st=(gr ρ st).bind λws st1=>(op ws st1).je:=rfl
end
@[simp] theorem Xx{op:Wv->Hs->Re Wv}:x_ op ga ρ st=(ga ρ st).bind op:=rfl
@[simp] theorem VT{i:Int}:gM (.int i) st= .ok (.int (-i)) st:=rfl
@[simp] theorem VU{i j:Int}:bU (.int i) (.int j) st= .ok (.int (i+j)) st:=rfl
@[simp] theorem VV{i j:Int}:Km (.int i) (.int j) st= .ok (.int (i - j)) st:=rfl
@[simp] theorem Xy{i j:Int}:oLt (.int i) (.int j) st= .ok (.bl (decide (i < j))) st:=rfl
@[simp] theorem Xz{i j:Int}:oLe (.int i) (.int j) st= .ok (.bl (decide (i<=j))) st:=rfl
@[simp] theorem XA{i j:Int}:N9 (.int i) (.int j) st= .ok (.bl (decide (j < i))) st:=rfl
@[simp] theorem XB{i j:Int}:RA (.int i) (.int j) st= .ok (.bl (decide (j<=i))) st:=rfl
@[simp] theorem XC{i j:Int}:oEq (.int i) (.int j) st= .ok (.bl (i == j)) st:=rfl
@[simp] theorem XD{i j:Int}:uF (.int i) (.int j) st= .ok (.bl (!(i == j))) st:=rfl
@[simp] theorem XE{i j:PySem.Str}:oEq (.str i) (.str j) st= .ok (.bl (i == j)) st:=rfl
@[simp] theorem XF{i j:PySem.Str}:uF (.str i) (.str j) st= .ok (.bl (!(i == j))) st:=rfl
@[simp] theorem XG{i j:Bool}:oEq (.bl i) (.bl j) st= .ok (.bl (i == j)) st:=by cases i<;>cases j<;>rfl
@[simp] theorem XH{i j:Bool}:uF (.bl i) (.bl j) st= .ok (.bl (!(i == j))) st:=by cases i<;>cases j<;>rfl
theorem ir{i j:Int}(h:j≠0/\j.natAbs.log2 < 9000):ff (.int i) (.int j) st= .ok (.int (i.fdiv j)) st:=by show(if _ then _ else _)=_;rw[if_pos h]
theorem gm{i j:Int}(h:j≠0):oMod (.int i) (.int j) st= .ok (.int (i.fmod j)) st:=by show(if _ then _ else _)=_;rw[if_pos h]
theorem IC{i j:Int}(h:IntMulOk i j):dU (.int i) (.int j) st= .ok (.int (i * j)) st:=by show(if _ then _ else _)=_;rw[if_pos h]
theorem qf{i j:Int}(h1:-(2 ^ 64) < i)(h2:i < 2 ^ 64):dU (.int i) (.int j) st= .ok (.int (i * j)) st:=IC (IntMulOk.of_left (intBits_le_64 h1 h2))
theorem mul_r{i j:Int}(h1:-(2 ^ 64) < j)(h2:j < 2 ^ 64):dU (.int i) (.int j) st= .ok (.int (i * j)) st:=IC (IntMulOk.of_right (intBits_le_64 h1 h2))
theorem Py{i j:Int}(h:0<=j/\j<=1000000/\i.natAbs < 2 ^ 64):wH (.int i) (.int j) st= .ok (.int (i ^ j.toNat)) st:=by show(if _ then _ else _)=_;rw[if_pos h]
theorem vE{l:Nat}{i:Int}{ws:List Wv}{v:Wv}(h:ai st l=some ws)(h2:qu ws i=some v):cP (.ref l) (.int i) st= .ok v st:=by
 show(match ai st l with | some ws=>(match qu ws i with | some w=>Re.ok w st | none=> .bad) | none=> .bad)=_
 rw[h]
 dsimp only
 rw[h2]
theorem add_l{l k:Nat}{xs ys:List Wv}(h1:ai st l=some xs)(h2:ai st k=some ys)(hl:xs.length+ys.length<=lim):bU (.ref l) (.ref k) st= .ok (.ref st.length) (st++[.lst (xs++ys)]):=by
 show(match ai st l,ai st k with | some i,some j=>if i.length+j.length<=lim then Re.ok (Wv.ref st.length) (st++[Ob.lst (i++j)]) else .bad | _,_=> .bad)=_
 rw[h1,h2]
 exact if_pos hl
theorem vF{i:Int}{ws:List Wv}{v:Wv}(h2:qu ws i=some v):cP (.tup ws) (.int i) st= .ok v st:=by
 show(match qu ws i with | some w=>Re.ok w st | none=> .bad)=_
 rw[h2]
end
theorem dv{n:Nat}{g:GS}{ws:List Wv}{st st':Hs}{w:Wv}(h:g (ws.map some++aG (n - ws.length) none) st= .rt w st'):mH n g ws st= .ok w st':=by unfold mH;rw[h]
theorem tT{n:Nat}{g:GS}{ws:List Wv}{st st':Hs}{ρ:bA}{c:PySem.Str}(h:g (ws.map some++aG (n - ws.length) none) st= .err c ρ st'):mH n g ws st= .err c st':=by unfold mH;rw[h]
section
variable {ρ:bA} {st:Hs} {ga gb gc:GE} {gl gh:GO}
def VW(gl gh:GO)(ρ:bA):Wv->Hs->Re Wv:=λx st1=>(gl ρ st1).bind λlo st2=>(gh ρ st2).bind λhi st3=>CK x lo hi st3
@[simp] theorem QM:aV ga gl gh ρ st=(ga ρ st).bind (VW gl gh ρ):=rfl
@[simp] theorem VX{x:Wv}:VW gl gh ρ x st=(gl ρ st).bind λlo st2=>(gh ρ st2).bind λhi st3=>CK x lo hi st3:=rfl
@[simp] theorem Pz:bx ρ st= .ok none st:=rfl
def ID:Wv->Hs->Re (Option Int):=λw st1=>match w with
 | .int i=> .ok (some i) st1
 | _=> .bad
@[simp] theorem To:cI ga ρ st=(ga ρ st).bind ID:=rfl
@[simp] theorem QN{i:Int}:ID (.int i) st= .ok (some i) st:=rfl
theorem vG{l:Nat}{ws:List Wv}{lo hi:Option Int}(h:ai st l=some ws):CK (.ref l) lo hi st= .ok (.ref st.length) (st++[.lst (iE ws lo hi)]):=by
 show(match ai st l with | some ws=>Re.ok (Wv.ref st.length) (st++[Ob.lst (iE ws lo hi)]) | none=> .bad)=_
 rw[h]
theorem y8{l:Nat}{ws:List Wv}(h:ai st l=some ws):eJ [.ref l] st= .ok (.int ws.length) st:=by
 show(match ai st l with | some ws=>Re.ok (Wv.int ws.length) st | none=> .bad)=_
 rw[h]
def Tp(op':gv)(gc:GE)(y:Wv)(ρ:bA):Wv->Hs->Re Wv:=λz st3=>match z with
 | .bl true=>(gc ρ st3).bind λu Kc=>(op' y u Kc).je
 | .bl false=> .ok (.bl false) st3
 | _=> .bad
def Tq(op' Mm:gv)(gc gd:GE)(y:Wv)(ρ:bA):Wv->Hs->Re Wv:=λz st3=>match z with
 | .bl true=>(gc ρ st3).bind λu Kc=>(op' y u Kc).je.bind (Tp Mm gd u ρ)
 | .bl false=> .ok (.bl false) st3
 | _=> .bad
@[simp] theorem Tr{op' Mm:gv}{gd:GE}{y:Wv}:Tq op' Mm gc gd y ρ (.bl false) st= .ok (.bl false) st:=rfl
def AY(cat:PySem.Str->Option Bool)(i:Nat)(gs:GS)(r:Rs):Rs:=match r with
 | .err c ρ' st'=>(match cat c with
  | some true=>(match gs (ρ'.set i (some (.lC c))) st' with
   | .nx ρ2 st2=> .nx (ρ2.set i none) st2
   | .rt w st2=> .rt w st2
   | _=> .bad)
  | _=> .bad)
 | r=>r
@[simp] theorem VY{cat:PySem.Str->Option Bool}{i:Nat}{g gs:GS}:z_ cat i g gs ρ st=AY cat i gs (g ρ st):=by
 unfold z_ AY
 cases g ρ st<;>rfl
@[simp] theorem QO{cat:PySem.Str->Option Bool}{i:Nat}{gs:GS}:AY cat i gs (.nx ρ st)= .nx ρ st:=rfl
@[simp] theorem QP{cat:PySem.Str->Option Bool}{i:Nat}{gs:GS}{w:Wv}:AY cat i gs (.rt w st)= .rt w st:=rfl
def IE(cat:PySem.Str->Option Bool)(gs:GS)(r:Rs):Rs:=match r with
 | .err c ρ' st'=>(match cat c with
  | some true=>(match gs ρ' st' with
   | .nx ρ2 st2=> .nx ρ2 st2
   | .rt w st2=> .rt w st2
   | _=> .bad)
  | _=> .bad)
 | r=>r
@[simp] theorem PB{cat:PySem.Str->Option Bool}{gs:GS}:IE cat gs (.nx ρ st)= .nx ρ st:=rfl
@[simp] theorem PC{cat:PySem.Str->Option Bool}{gs:GS}{w:Wv}:IE cat gs (.rt w st)= .rt w st:=rfl
theorem Ec{cat:PySem.Str->Option Bool}{i:Nat}{gs:GS}{c:PySem.Str}{ρ2:bA}{st2:Hs}(h:cat c=some true)(k:gs (ρ.set i (some (.lC c))) st= .nx ρ2 st2):AY cat i gs (.err c ρ st)= .nx (ρ2.set i none) st2:=by
 unfold AY
 simp only[h,k]
end
theorem az{st:Hs}{ws:List Wv}:ai (st++[.lst ws]) st.length=some ws:=by unfold ai;simp
theorem dI{st:Hs}{o:Ob}{l:Nat}{ws:List Wv}(h:ai st l=some ws):ai (st++[o]) l=some ws:=by
 have hl:l < st.length:=by
  unfold ai at h
  cases e:st[l]? with
  | none=>rw[e] at h;cases h
  | some o=>exact(List.getElem?_eq_some_iff.mp e).1
 unfold ai at h ⊢
 rw[dj hl]
 exact h
theorem jx{st:Hs}{l:Nat}{ws:List Wv}(h:ai st l=some ws):l < st.length:=by
 unfold ai at h
 cases e:st[l]? with
 | none=>rw[e] at h;cases h
 | some o=>exact(List.getElem?_eq_some_iff.mp e).1
def bP(l:Nat)(st st':Hs):Prop:=st.length<=st'.length/\∀k,k < st.length->k≠l->st'[k]? =st[k]?
theorem bP.refl{l:Nat}{st:Hs}:bP l st st:=⟨ak _,λ_ _ _=>rfl⟩
theorem bP.trans{l:Nat}{a b c:Hs}(h:bP l a b)(k:bP l b c):bP l a c:=⟨bE h.1 k.1,λj h1 h2=>(k.2 j (aM h1 h.1) h2).trans (h.2 j h1 h2)⟩
theorem bP.push{l:Nat}{st:Hs}{o:Ob}:bP l st (st++[o]):=⟨by simp,λk h _=>dj h⟩
theorem bP.set{l:Nat}{st:Hs}{o:Ob}:bP l st (st.set l o):=⟨by simp,λk _ h=>fX (λz=>h z.symm)⟩
theorem bP.lst{l:Nat}{st st':Hs}(k:bP l st st'){j:Nat}{ws:List Wv}(h:ai st j=some ws)(hj:j≠l):ai st' j=some ws:=by
 unfold ai at h ⊢
 rw[k.2 j (jx (st:=st) (ws:=ws) (by unfold ai;exact h)) hj]
 exact h
@[simp] theorem QQ{i:Nat}{ga:GA}{gb:GS}{ρ:bA}{st:Hs}:kF i ga gb ρ st=(ga ρ st).bH ρ λws st1=>match ws with
 | [.int j]=>if j_ j then gD i gb (cE 0 j.toNat) ρ st1 else .bad
 | _=> .bad:=rfl
@[simp] theorem QR{c:PySem.Str}{ga:GA}{ρ:bA}{st:Hs}:sS c ga ρ st=(ga ρ st).bH ρ λws st1=>if ws.length<=lim then .err c ρ st1 else .bad:=rfl
def IF(mt:Wv->Wv->Hs->Re Wv)(ga:GE)(ρ:bA):Wv->Hs->Re Wv:=λo st1=>match o with
 | .ref l=>(match ai st1 l with
  | some _=>(ga ρ st1).bind λv st2=>(mt o v st2).je
  | none=> .bad)
 | _=> .bad
@[simp] theorem Ts{mt:Wv->Wv->Hs->Re Wv}{go ga:GE}{ρ:bA}{st:Hs}:i7 mt go ga ρ st=(go ρ st).bind (IF mt ga ρ):=rfl
theorem oH{mt:Wv->Wv->Hs->Re Wv}{ga:GE}{ρ:bA}{st:Hs}{l:Nat}{ws:List Wv}(h:ai st l=some ws):IF mt ga ρ (.ref l) st=(ga ρ st).bind λv st2=>(mt (.ref l) v st2).je:=by
 show(match ai st l with | some _=>(ga ρ st).bind λv st2=>(mt (.ref l) v st2).je | none=> .bad)=_
 rw[h]
theorem qg{st:Hs}{l:Nat}{v:Wv}{ws:List Wv}(h:st[l]? =some (.lst ws))(hl:ws.length < lim):j' (.ref l) v st= .ok .aP (st.set l (.lst (ws++[v]))):=by
 show(match st[l]? with | some (.lst ws)=>if ws.length < lim then Re.ok Wv.aP (st.set l (.lst (ws++[v]))) else .bad | _=> .bad)=_
 rw[h]
 exact if_pos hl
def kFor(i:Nat)(gb:GS)(ρ:bA):Wv->Hs->Rs:=λw st1=>match w with
 | .ref l=>(match ai st1 l with | some ws=>forL i gb l ws ws ρ st1 | none=> .bad)
 | .tup ws=>gD i gb ws ρ st1
 | .oY ws=>gD i gb ws ρ st1
 | _=> .bad
@[simp] theorem VZ{i:Nat}{ga:GE}{gb:GS}{ρ:bA}{st:Hs}:Cc i ga gb ρ st=(ga ρ st).bH ρ (kFor i gb ρ):=rfl
theorem Mn{i:Nat}{gb:GS}{ρ:bA}{st:Hs}{l:Nat}{ws:List Wv}(h:ai st l=some ws):kFor i gb ρ (.ref l) st=forL i gb l ws ws ρ st:=by
 show(match ai st l with | some ws=>forL i gb l ws ws ρ st | none=> .bad)=_
 rw[h]
@[simp] theorem Tt{i:Nat}{gb:GS}{ρ:bA}{st:Hs}{ws:List Wv}:kFor i gb ρ (.tup ws) st=gD i gb ws ρ st:=rfl
theorem tU{i:Nat}{gb:GS}(P:Nat->bA->Hs->Prop):∀(ws:List Wv)(k:Nat)(ρ:bA)(st:Hs),P k ρ st->
  (∀(j:Nat)(w:Wv),ws[j]? =some w->∀ρ st,P (k+j) ρ st->∃ρ' st',gb (ρ.set i (some w)) st= .nx ρ' st'/\P (k+j+1) ρ' st')->∃ρ' st',gD i gb ws ρ st= .nx ρ' st'/\P (k+ws.length) ρ' st'
 | [],k,ρ,st,h,_=>⟨ρ,st,rfl,h⟩
 | w::r,k,ρ,st,h,step=>by
  obtain⟨ρ1,st1,e1,p1⟩:=step 0 w rfl ρ st h
  obtain⟨ρ2,st2,e2,p2⟩:=tU P r (k+1) ρ1 st1 p1 λj w hw ρ st hp=>by
   have e:k+(j+1)=k+1+j:=by omega
   have q:=step (j+1) w hw ρ st (by rw[e];exact hp)
   rw[e] at q
   exact q
  refine⟨ρ2,st2,?_,?_⟩
  ·unfold gD
   rw[e1]
   exact e2
  ·have e:k+(w::r).length=k+1+r.length:=by simp;omega
   rw[e]
   exact p2
@[simp] theorem Tu{i:Int}{st:Hs}:OF [.int i] st=OD [.int i] st:=rfl
@[simp] theorem Tv{cs:dm}{gi:GI}{gt:GT}{ge:GE}{ρ:bA}{st:Hs}:jq cs gi gt ge ρ st=(gi ρ st).bind (cY cs gt ge ρ):=rfl
@[simp] theorem QS{g:GE}{ρ:bA}{st:Hs}:iP g ρ st=(g ρ st).bind nr:=rfl
@[simp] theorem Tw{g:GA}{ρ:bA}{st:Hs}:Cy g ρ st=(g ρ st).bind yh:=rfl
@[simp] theorem Tz{g:GA}{ρ:bA}{st:Hs}:RZ g ρ st=(g ρ st).bind HU:=rfl
@[simp] theorem TF{g:GA}{ρ:bA}{st:Hs}:Sk g ρ st=(g ρ st).bind Ig:=rfl
theorem Ed{j:Int}{st:Hs}(h:j_ j):yh [.int j] st= .ok (none,cE 0 j.toNat) st:=if_pos h
theorem mU{l:Nat}{st:Hs}{ws:List Wv}(h:ai st l=some ws):nr (.ref l) st= .ok (some l,ws) st:=by
 show(match ai st l with | some ws=>Re.ok (some l,ws) st | none=> .bad)=_
 rw[h]
@[simp] theorem TJ{st:Hs}{z:PySem.Str}:nr (.str z) st= .ok (none,ip z) st:=rfl
@[simp] theorem Mo{st:Hs}{ws:List Wv}:nr (.tup ws) st= .ok (none,ws) st:=rfl
theorem tV{st:Hs}{acc:List Wv}{v:Wv}(h:acc.length < lim):j' (.ref st.length) v (st++[.lst acc])= .ok .aP (st++[.lst (acc++[v])]):=by
 rw[qg (ws:=acc) (by simp) h]
 congr 1
 simp
theorem kN{w:Wk}{gt:Wv->Hs->Re Bool}{ge:Wv->Hs->Re Wv}{st:Hs}{t:Wv->Bool}{f:Wv->Wv}(ck:fg w st):∀(ws acc:List Wv),(∀v∈ws,∀acc,gt v (st++[.lst acc])= .ok (t v) (st++[.lst acc]))->
  (∀v∈ws,t v=true->∀acc,ge v (st++[.lst acc])= .ok (f v) (st++[.lst acc]))->acc.length+ws.length < lim->fA (fg w) gt ge st.length ws (st++[.lst acc])=some (st++[.lst (acc++(ws.filter t).map f)])
 | [],acc,_,_,_=>by simp[fA]
 | v::r,acc,h1,h2,hl=>by
  have hl':acc.length+(r.length+1) < lim:=hl
  unfold fA
  rw[h1 v aI acc]
  cases e:t v with
  | false=>
   dsimp only
   rw[if_pos (lN ck),kN ck r acc (λv hv=>h1 v (aD _ hv)) (λv hv=>h2 v (aD _ hv)) (by omega),tF (by simp[e])]
  | true=>
   dsimp only
   rw[h2 v aI e acc]
   dsimp only
   rw[tV (by omega)]
   dsimp only
   rw[if_pos (lN ck),kN ck r (acc++[f v]) (λv hv=>h1 v (aD _ hv)) (λv hv=>h2 v (aD _ hv)) (by simp;omega),xa e]
   simp
theorem jZ{cs:dm}{gt:GT}{ge:GE}{ρ:bA}{w:Wk}{st:Hs}{t:Wv->Bool}{f:Wv->Wv}(ck:fg w st)(h1:∀v∈w.2,∀acc,gt (some v::cL cs ρ) (st++[.lst acc])= .ok (t v) (st++[.lst acc]))
  (h2:∀v∈w.2,t v=true->∀acc,ge (some v::cL cs ρ) (st++[.lst acc])= .ok (f v) (st++[.lst acc]))(hl:w.2.length < lim):cY cs gt ge ρ w st= .ok (.ref st.length) (st++[.lst ((w.2.filter t).map f)]):=by
 unfold cY
 rw[kN ck w.2 [] h1 h2 (by simpa using hl)]
 simp
theorem Ee{α:Type}{ws:List α}{d:Int}(h0:0<=d)(h1:d < ws.length):∃v,L2.qu ws d=some v/\v∈ws:=by
 have hk:d.toNat < ws.length:=by omega
 have ek:d=((d.toNat:Nat):Int):=by omega
 refine⟨ws[d.toNat],?_,pK hk⟩
 have q:=L2.fF (cq hk)
 rw[<-ek] at q
 exact q
theorem j0{st:Hs}{l:Nat}{o o':Ob}(h:st[l]? =some o):(st.set l o')[l]? =some o':=ku (List.getElem?_eq_some_iff.mp h).1
theorem Ef{st:Hs}{l:Nat}{o o':Ob}(h:st[l]? =some o):(st++[o'])[l]? =some o:=by rw[dj (List.getElem?_eq_some_iff.mp h).1];exact h
theorem aB{st:Hs}{l:Nat}{ws:List Wv}(h:st[l]? =some (.lst ws)):ai st l=some ws:=by unfold ai;rw[h]
theorem jy{st:Hs}{l:Nat}{o:Ob}(h:st[l]? =some o):l < st.length:=(List.getElem?_eq_some_iff.mp h).1
theorem cn{st:Hs}{o:Ob}:(st++[o])[st.length]? =some o:=by simp
theorem Mq{i b:Int}{k:Nat}(h1:-b<=i)(h2:i<=b)(hb:b.natAbs < 2 ^ k)(hk:0 < k):i.natAbs.log2 < k:=by
 by_cases e:i.natAbs=0
 ·rw[e]
  exact hk
 ·exact(Nat.log2_lt e).mpr (by omega)
def xA(mt:PySem.Str->List Wv->Hs->Re Wv)(ga:GA)(ρ:bA):Wv->Hs->Re Wv:=λo st1=>match o with
 | .str z=>(ga ρ st1).bind λws st2=>(mt z ws st2).je
 | _=> .bad
@[simp] theorem QT{mt:PySem.Str->List Wv->Hs->Re Wv}{go:GE}{ga:GA}{ρ:bA}{st:Hs}:pI mt go ga ρ st=(go ρ st).bind (xA mt ga ρ):=rfl
@[simp] theorem PD{mt:PySem.Str->List Wv->Hs->Re Wv}{ga:GA}{ρ:bA}{st:Hs}{z:PySem.Str}:xA mt ga ρ (.str z) st=(ga ρ st).bind λws st2=>(mt z ws st2).je:=rfl
@[simp] theorem V0{i:Int}{st:Hs}:RC [.int i] st= .ok (.int (if i < 0 then -i else i)) st:=rfl
@[simp] theorem IG{l:Nat}{st:Hs}{ns:List Int}(h:ai st l=some (ns.map Wv.int)):Ah [.ref l] st= .ok (.int ns.sum) st:=by
 show(match ai st l with | some ws=>(match intsOf ws with | some ns=>Re.ok (Wv.int ns.sum) st | none=> .bad) | none=> .bad)=_
 rw[h]
 dsimp only
 rw[kI]
theorem y9{lo:Int}{n:Nat}{w:Wv}(h:w∈cE lo n):∃k:Int,w= .int k/\lo<=k/\k < lo+n:=by
 unfold cE at h
 obtain⟨k,hk,rfl⟩:=List.mem_map.mp h
 have:=List.mem_range.mp hk
 exact⟨lo+k,rfl,by omega,by omega⟩
theorem Eg{i:Int}(h1:-1000000<=i)(h2:i<=1000000):j_ i:=⟨by omega,by omega⟩
@[simp] theorem QU{F:List Wv->Hs->Re Wv}{st:Hs}:rT 0 F [] st=F [] st:=rfl
theorem Eh{ga gb:GE}{ρ:bA}{st:Hs}(h:ga ρ st= .bad):qH ga gb ρ st=gb ρ st:=by unfold qH;rw[h]
theorem rV{w:Wk}{gt:Wv->Hs->Re Bool}{ge:Wv->Hs->Re Wv}{rr:Nat}(P:Hs->Prop)(E:Wv->Prop)(hP:∀st acc,P st->P (st.set rr (.lst acc)))(hck:∀st,P st->fg w st) :
  ∀(ws:List Wv),(∀v∈ws,∀st acc,P st->st[rr]? =some (.lst acc)->∃st1,gt v st= .ok true st1/\P st1/\st1[rr]? =some (.lst acc)/\∃u st2,ge v st1= .ok u st2/\E u/\P st2/\st2[rr]? =some (.lst acc))->
   ∀(acc:List Wv)(st:Hs),P st->st[rr]? =some (.lst acc)->acc.length+ws.length < lim->(∀a∈acc,E a)->∃st' acc',fA (fg w) gt ge rr ws st=some st'/\P st'/\st'[rr]? =some (.lst acc')/\(∀a∈acc',E a)/\acc'.length=acc.length+ws.length
 | [],_,acc,st,hp,hg,_,ha=>⟨st,acc,rfl,hp,hg,ha,rfl⟩
 | v::r,step,acc,st,hp,hg,hl,ha=>by
  obtain⟨st1,e1,p1,g1,u,st2,e2,hu,p2,g2⟩:=step v aI st acc hp hg
  have hl':acc.length+(r.length+1) < lim:=hl
  obtain⟨st3,TK,f1,f2,f3,f4,f5⟩:=rV P E hP hck r (λv hv=>step v (aD _ hv)) (acc++[u]) (st2.set rr (.lst (acc++[u]))) (hP _ _ p2) (j0 g2) (by simp;omega) (by
   intro a h
   rcases List.mem_append.mp h with z | z
   ·exact ha a z
   ·simp at z;rw[z];exact hu)
  refine⟨st3,TK,?_,f2,f3,f4,?_⟩
  ·unfold fA
   rw[e1]
   dsimp only
   rw[e2]
   dsimp only
   rw[qg g2 (by omega)]
   dsimp only
   rw[if_pos (hck _ (hP _ _ p2)),f1]
  ·rw[f5];simp;omega
def Gr(st st':Hs):Prop:=st.length<=st'.length/\∀k,k < st.length->st'[k]? =st[k]?
theorem Gr.refl{st:Hs}:Gr st st:=⟨ak _,λ_ _=>rfl⟩
theorem Gr.trans{a b c:Hs}(h:Gr a b)(k:Gr b c):Gr a c:=⟨bE h.1 k.1,λj h1=>(k.2 j (aM h1 h.1)).trans (h.2 j h1)⟩
theorem Gr.push{st:Hs}{o:Ob}:Gr st (st++[o]):=⟨by simp,λk h=>dj h⟩
theorem Gr.app{st xs:Hs}:Gr st (st++xs):=⟨by simp,λk h=>dj h⟩
theorem Gr.lst{st st':Hs}(k:Gr st st'){j:Nat}{ws:List Wv}(h:ai st j=some ws):ai st' j=some ws:=by
 unfold ai at h ⊢
 rw[k.2 j (jx (st:=st) (ws:=ws) (by unfold ai;exact h))]
 exact h
theorem Gr.get{st st':Hs}(k:Gr st st'){j:Nat}{o:Ob}(h:st[j]? =some o):st'[j]? =some o:=by rw[k.2 j (jy h)];exact h
theorem Gr.keep{st st':Hs}{l:Nat}(k:Gr st st'):bP l st st':=⟨k.1,λj h _=>k.2 j h⟩
theorem bP.gr{st st':Hs}{l:Nat}(h:st.length<=l)(k:bP l st st'):Gr st st':=⟨k.1,λj h1=>k.2 j h1 (by omega)⟩
theorem Gr.tW{st s1 s2:Hs}{l:Nat}(h:st.length<=l)(g:Gr st s1)(k:bP l s1 s2):Gr st s2:=⟨bE g.1 k.1,λj h1=>(k.2 j (aM h1 g.1) (by omega)).trans (g.2 j h1)⟩
theorem vH{α:Type}(f:α->Wv){i:Nat}{gb:GS}{l:Nat}{all:List Wv}(full:List α)(P:List α->bA->Hs->Prop)
  (step:∀a pre post ρ st,full=pre++a::post->P pre ρ st->ai st l=some all->∃ρ' st',gb (ρ.set i (some (f a))) st= .nx ρ' st'/\ai st' l=some all/\P (pre++[a]) ρ' st') :
  ∀(post pre:List α)(ρ:bA)(st:Hs),full=pre++post->P pre ρ st->ai st l=some all->∃ρ' st',forL i gb l all (post.map f) ρ st= .nx ρ' st'/\P full ρ' st'/\ai st' l=some all
 | [],pre,ρ,st,hf,h,hl=>⟨ρ,st,rfl,by rw[hf];simpa using h,hl⟩
 | a::r,pre,ρ,st,hf,h,hl=>by
  obtain⟨ρ1,st1,e1,l1,p1⟩:=step a pre r ρ st hf h hl
  obtain⟨ρ2,st2,e2,p2,l2⟩:=vH f full P step r (pre++[a]) ρ1 st1 (by rw[hf];simp) p1 l1
  refine⟨ρ2,st2,?_,p2,l2⟩
  rw[aZ]
  unfold forL
  rw[e1]
  simp only[if_pos l1]
  exact e2
theorem y_{st:Hs}{n l:Nat}{ws:List Wv}(h:ai st l=some ws):bM st (n+1) (.ref l)=(jb (bM st n) ws).map sO:=by
 show(match ai st l with | some ws=>(jb (bM st n) ws).map sO | none=>none)=_
 rw[h]
theorem rW{α:Type}{f:α->Wv}{xs:List α}{lo hi:Option Int}:∃ys:List α,iE (xs.map f) lo hi=ys.map f/\ys.length<=xs.length:=by
 unfold iE
 rw[<-mV,<-oI]
 exact⟨_,rfl,by simp;omega⟩
theorem PF{l:Nat}{st:Hs}{ns:List Int}(h:ai st l=some (ns.map Wv.int))(hn:ns.length < 64):Aj [.ref l] st= .ok (.ref st.length) (st++[.lst ((gE ns).map Wv.int)]):=by
 unfold Aj
 simp only[h,kI]
 rw[if_pos hn]
@[simp] theorem V1{i j:Int}{st:Hs}:OW [.int i,.int j] st= .ok (.int (if j > i then j else i)) st:=rfl
@[simp] theorem V2{i j:Int}{st:Hs}:OX [.int i,.int j] st= .ok (.int (if j < i then j else i)) st:=rfl
open PySem L2
theorem XI{fd:Zm}{ps:List Str}(us:List Zq)(hl:us.length=1)(h:∀a0:Zq,bindArgs fd { pos:=[a0] }=pure (ps.zip [a0])):bindArgs fd { pos:=us }=pure (ps.zip us):=match us,hl with | [a0],_=>h a0
theorem ln2{fd:Zm}{ps:List Str}(us:List Zq)(hl:us.length=2)(h:∀a0 a1:Zq,bindArgs fd { pos:=[a0,a1] }=pure (ps.zip [a0,a1])):bindArgs fd { pos:=us }=pure (ps.zip us):=match us,hl with | [a0,a1],_=>h a0 a1
theorem XJ{fd:Zm}{ps:List Str}(us:List Zq)(hl:us.length=3)(h:∀a0 a1 a2:Zq,bindArgs fd { pos:=[a0,a1,a2] }=pure (ps.zip [a0,a1,a2])):bindArgs fd { pos:=us }=pure (ps.zip us):=match us,hl with | [a0,a1,a2],_=>h a0 a1 a2
theorem XM{fd:Zm}{ps:List Str}(us:List Zq)(hl:us.length=4)(h:∀a0 a1 a2 a3:Zq,bindArgs fd { pos:=[a0,a1,a2,a3] }=pure (ps.zip [a0,a1,a2,a3])):bindArgs fd { pos:=us }=pure (ps.zip us):=match us,hl with | [a0,a1,a2,a3],_=>h a0 a1 a2 a3
abbrev HB(P:Zo)(w:Zr)(K:PySem.W.Frag)(mg:Str->Option Zq)(k:Nat)(x:Str)(n:Nat)(F:List Wv->Hs->Re Wv):Prop:=∀base:Heap,ka K mg base->uI P w K mg base k x n F
theorem uI.mo{P:Zo}{w:Zr}{K:PySem.W.Frag}{mg:Str->Option Zq}{base:Heap}{j k:Nat}{x:Str}{n:Nat}{F:List Wv->Hs->Re Wv}(h:uI P w K mg base j x n F)(l:j<=k:=by first | decide | omega):uI P w K mg base k x n F:=h.mono l
theorem hdf{P:Zo}{w:Zr}{K:PySem.W.Frag}{mg:Str->Option Zq}{base:Heap}{h:Heap}{k:Nat}{c:Ct}{x:Str}{st:Stmt}{ps:List Str}{g:GS}(KX:K.In h)(NS:h.Ns ZA mg)(D:dq K x st)(T:vC c k P w K mg base)
  (S:FnScope c.N ps (defScope st))(hg:cR 30 c (defBody st)=g)(hM:c.self∈a8->ka K mg base/\c.self=x:=by exact λz=>absurd (show("":Str)∈a8 from z) (by decide))(hn:(defScope st).names=c.names:=by exact rfl)
  (hb:∀(kV doc pm:Zq)(an:Option Zk)(cdv ct:Zq)(us:List Zq),us.length=ps.length->bindArgs (PySem.W.fnOf x x (defArgs st) (defBody st) (defScope st) .none kV doc pm an cdv ct) ⟨us,[]⟩=pure (ps.zip us):=by intro _ _ _ _ _ _ us hl;first | exact XI us hl λ_=>rfl | exact ln2 us hl λ_ _=>rfl | exact XJ us hl λ_ _ _=>rfl | exact XM us hl λ_ _ _ _=>rfl | exact Y0 us hl λ_ _ _ _ _=>rfl | exact Y1 us hl λ_ _ _ _ _ _=>rfl | exact Y2 us hl λ_ _ _ _ _ _ _=>rfl) :
  uI P w K mg base (k+1) x ps.length (mH c.N.length g):=GV KX NS D T S hn hg hb hM
theorem tk{c:Ct}{k:Nat}{P:Zo}{w:Zr}{K:PySem.W.Frag}{mg:Str->Option Zq}{base:Heap}(ht:TabOk K c.tb c.tt c.tc)(hf:AllP (λp=>uI P w K mg base k p.1 p.2.1 p.2.2) c.fns:=by exact trivial)(hc:AllP (λp=>yR K mg p.1 p.2) c.consts:=by exact trivial)(hb:AllP (λx=>mg x=none) c.bl:=by exact trivial)
  (hk:AllP (λx=>∃C,mg x=some (.ref C)/\Cg K x C) c.clss:=by exact trivial)(hn:AllP (λx=>∃C,mg x=some (.ref C)/\ClsAt K x C) c.vo:=by exact trivial)(hd:AllP (λp=>uW K w mg p.1 p.2) c.xn:=by exact trivial)
  (hu:AllP (λx=>∀n F,c.fns.lookup x=some (n,F)->F_ P w K mg base k x n F) c.AG:=by exact trivial)(hx:vB c k P w K mg base:=by exact vB.no rfl rfl rfl rfl):vC c k P w K mg base:=vD hc hb hf ht hk hn hd hu hx
end J
namespace K73
open PySem J
open L2 (defScope defBody defArgs FnScope CX0 FnOk XK Hp)
def top (i:Nat):Stmt:=PySem.Challenge.pw_onelook_k73_rows_in_order.main.body.getD i (.Pass ⟨0,0,0,0⟩)
def jf:Tab:=[(("NoColumn","NoColumn"),true),(("NoColumn","SheetError"),true)]
def mW:uO:=[(("NoColumn","ValueError"),true)]
def Ei:Tab:=[(("NoColumn","SheetError"),true)]
def cB(s:Stmt)(n b:List Str)(f:List (Str×Nat×(List Wv->Hs->Re Wv))):Ct:={ N:=n,names:=(defScope s).names,consts:=[],bl:=b,fns:=f,tb:=jf,tt:=mW,tc:=Ei }
theorem uq{N P:List Str}{sc:Scope}(h:sc.kind= .function/\sc.isCoroutine=false/\sc.isGenerator=false/\N.take P.length=P)(k:N.Nodup/\(∀x∈P,sc.names.lookup x=some .local\/sc.names.lookup x=some .cell)/\∀y∈sc.names,y.2≠.free):FnScope N P sc:=⟨h.1,h.2.1,h.2.2.1,k.1,h.2.2.2,k.2.1,k.2.2⟩
abbrev iS:Stmt:=top 13
def iT:GS:=(bb (bQ 2 (ao oMod (ao bU (ao dU (ao oMod (ag 0) (gC (.int 1000000007))) (gC (.int 48271))) (ao dU (ao dU (ao bU (ag 1) (gC (.int 1))) (ao bU (ag 1) (gC (.int 1)))) (gC (.int 69621)))) (gC (.int 2147483647))))
  (cC (ao ff (ao oMod (ao dU (ag 2) (ag 2)) (gC (.int 2147483629))) (gC (.int 8)))))
def eN:List Wv->Hs->Re Wv:=mH 3 iT
def kO:Ct:=cB iS ["cell","k","m"] [] []
theorem xB:cR 30 (kO) (defBody iS)=iT:=by kernel_rfl
theorem vI:FnScope (kO).N ["cell","k"] (defScope iS):=uq ⟨rfl,rfl,rfl,rfl⟩ (by decide+kernel)
abbrev eT:Stmt:=top 14
def eO:GS:=(bb (ng (i7 j' (ag 3) (ao oMod (ag 4) (ag 1))))
  (bQ 4 (ao ff (ag 4) (ag 1))))
def gU:GT:=(λ_ st=> .ok true st)
def dW:GE:=(ao oMod (bV 2 eN (ae (ag 1) (ae (ag 0) aq))) (ag 2))
def cK:GS:=(bb (bQ 3 (bT aq))
  (bb (rh (ik (ao oEq (ao oMod (ag 0) (gC (.int 2))) (gC (.int 1)))) (bb (bQ 4 (ao ff (ag 0) (gC (.int 2))))
    (kF 5 (ae (ag 2) aq) eO)) (bQ 3 (jq [("cell",0),("size",1)] (Cy (ae (ag 2) aq)) gU dW)))
  (cC (ag 3))))
def eV:List Wv->Hs->Re Wv:=mH 6 cK
def iu:Ct:=cB eT ["cell","size","many","found","rest","k"] ["range"] [("_law_mix",2,eN)]
theorem qL:cR 30 (iu) (defBody eT)=cK:=by kernel_rfl
theorem qh:FnScope (iu).N ["cell","size","many"] (defScope eT):=uq ⟨rfl,rfl,rfl,rfl⟩ (by decide+kernel)
abbrev eW:Stmt:=top 15
def gW:GT:=(λ_ st=> .ok true st)
def dX:GE:=(ao cP (ag 1) (ag 0))
def eX:GS:=(bb (bQ 2 (bT (ae (gC .aP) (ae (gC (.int 0)) (ae (gC (.int 1)) (ae (gC (.int 2)) (ae (x_ gM (gC (.int 1))) (ae (gC (.str "a")) (ae (gC (.str "b")) (ae (gC (.str "ab")) (ae (gC (.str "")) (ae (ao wH (gC (.int 10)) (gC (.int 60))) (ae (x_ gM (ao wH (gC (.int 10)) (gC (.int 60)))) (ae (gC (.str "1")) (ae (ao dU (gC (.str "x")) (gC (.int 200))) aq)))))))))))))))
  (cC (jq [("some",2)] (iP (bV 3 eV (ae (ag 0) (ae (ay eJ (ae (ag 2) aq)) (ae (ag 1) aq))))) gW dX)))
def eZ:List Wv->Hs->Re Wv:=mH 3 eX
def iz:Ct:=cB eW ["cell","many","some"] ["len"] [("_law_digits",3,eV)]
theorem qM:cR 30 (iz) (defBody eW)=eX:=by kernel_rfl
theorem qi:FnScope (iz).N ["cell","many"] (defScope eW):=uq ⟨rfl,rfl,rfl,rfl⟩ (by decide+kernel)
abbrev fH:Stmt:=top 16
def eP:GT:=(λ_ st=> .ok true st)
def c_:GE:=(ay nk (ae (aV (ag 1) (cI (ao dU (ag 0) (ag 2))) (cI (ao bU (ao dU (ag 0) (ag 2)) (ag 2)))) aq))
def fI:GS:=(bb (bQ 3 (ao cP (ao bU (ag 0) (ao dU (bT (ae (gC (.int 0)) aq)) (gC (.int 4)))) (ag 1)))
  (bb (bQ 4 (ao bU (gC (.int 1)) (ao oMod (ag 3) (gC (.int 4)))))
  (bb (bQ 5 (ao oMod (ao ff (ag 3) (gC (.int 4))) (ao bU (ag 2) (gC (.int 1)))))
  (bb (bQ 6 (aV (ay nk (ae (ao bU (aV (bT (ae (gC (.str "b")) (ae (gC (.str "a")) (ae (gC (.str "ab")) (ae (gC (.str "c")) aq))))) (cI (ao oMod (ao ff (ag 3) (gC (.int 64))) (gC (.int 4)))) bx) (aV (bT (ae (gC (.str "b")) (ae (gC (.str "a")) (ae (gC (.str "ab")) (ae (gC (.str "c")) aq))))) bx (cI (ao oMod (ao ff (ag 3) (gC (.int 64))) (gC (.int 4)))))) aq)) bx (cI (ag 4))))
  (bb (bQ 7 (bV 2 eZ (ae (ay Ah (ae (aV (ag 0) (cI (ao bU (ag 1) (gC (.int 1)))) bx) aq)) (ae (ao dU (ag 4) (ag 5)) aq))))
  (bb (bQ 8 (ay nk (ae (jq [("worths",7),("wide",4)] (Cy (ae (ag 5) aq)) eP c_) aq)))
  (cC (ml (ae (ag 6) (ae (ag 8) aq))))))))))
def dY:List Wv->Hs->Re Wv:=mH 9 fI
def iU:Ct:=cB fH ["script","at","rows_most","cell","wide","high","heads","worths","rows"] ["tuple","sum","range"] [("_law_worths",2,eZ)]
theorem tX:cR 30 (iU) (defBody fH)=fI:=by kernel_rfl
theorem qN:FnScope (iU).N ["script","at","rows_most"] (defScope fH):=uq ⟨rfl,rfl,rfl,rfl⟩ (by decide+kernel)
abbrev j3:Stmt:=top 17
def fJ:GS:=(bb (bQ 4 (ao ff (ag 0) (ao bU (gC (.int 5)) (ao dU (ao dU (gC (.int 7)) (ag 3)) (ag 3)))))
  (ng (i7 j' (ag 2) (ml (ae (ao cP (ag 1) (ao oMod (ag 4) (ay eJ (ae (ag 1) aq)))) (ae (ao cP (bT (ae (gC (.int 1)) (ae (x_ gM (gC (.int 1))) aq))) (ao oMod (ao ff (ag 4) (gC (.int 7))) (gC (.int 2)))) aq))))))
def j4:GS:=(bb (bQ 2 (bT aq))
  (bb (kF 3 (ae (ao oMod (ag 0) (gC (.int 5))) aq) fJ)
  (cC (ag 2))))
def j5:List Wv->Hs->Re Wv:=mH 5 j4
def mX:Ct:=cB j3 ["cell","heads","by","k","digit"] ["range","len"] []
theorem AZ:cR 30 (mX) (defBody j3)=j4:=by kernel_rfl
theorem xC:FnScope (mX).N ["cell","heads"] (defScope j3):=uq ⟨rfl,rfl,rfl,rfl⟩ (by decide+kernel)
abbrev gX:Stmt:=top 6
def gY:GS:=(bb (rh (ik (ao Of (ag 0) (gC .aP))) (cC (ml (ae (gC (.int 2)) (ae (gC (.int 0)) aq)))) dH)
  (cC (Fl (nQ (ay (lH jf mW) (ae (ag 0) (ae (gC (.ty "str")) aq)))) (ml (ae (gC (.int 1)) (ae (ag 0) aq))) (ml (ae (gC (.int 0)) (ae (ag 0) aq))))))
def gZ:List Wv->Hs->Re Wv:=mH 1 gY
def jz:Ct:=cB gX ["worth"] ["isinstance","str"] []
theorem vJ:cR 30 (jz) (defBody gX)=gY:=by kernel_rfl
theorem tY:FnScope (jz).N ["worth"] (defScope gX):=uq ⟨rfl,rfl,rfl,rfl⟩ (by decide+kernel)
abbrev g0:Stmt:=top 5
def i9:GT:=(λ_ st=> .ok true st)
def ft:GE:=(ao cP (ag 0) (ag 1))
def dJ:GS:=(bb (rh (ik (ao lP (ag 1) (ao cP (ag 0) (gC (.int 0))))) (sS "NoColumn" (ae (gC (.str "no head of the table")) aq)) dH)
  (bb (bQ 2 (qH bI (i7 gO (ay gf (ae (ao cP (ag 0) (gC (.int 0))) aq)) (ag 1))))
  (cC (jq [("number",2)] (iP (ao cP (ag 0) (gC (.int 1)))) i9 ft))))
def fm:List Wv->Hs->Re Wv:=mH 3 dJ
def jA:Ct:={ cB g0 ["table","head","number"] ["list"] [] with clss:=["NoColumn"] }
theorem vL:cR 30 (jA) (defBody g0)=dJ:=by kernel_rfl
theorem tZ:FnScope (jA).N ["table","head"] (defScope g0):=uq ⟨rfl,rfl,rfl,rfl⟩ (by decide+kernel)
abbrev fK:Stmt:=top 9
def eQ:GT:=(λ_ st=> .ok true st)
def dc:GE:=(bV 1 gZ (ae (ag 0) aq))
def cx:GT:=(λ_ st=> .ok true st)
def a7:GE:=(ml (ae (jq [] (iP (bV 2 fm (ae (ag 1) (ae (ao cP (ag 0) (gC (.int 0))) aq)))) eQ dc) (ae (ao cP (ag 0) (gC (.int 1))) aq)))
def de:GS:=(cC (jq [("table",0)] (iP (ag 1)) cx a7))
def cF:List Wv->Hs->Re Wv:=mH 2 de
def iV:Ct:=cB fK ["table","by"] [] [("order_key",1,gZ),("column_of",2,fm)]
theorem t_:cR 30 (iV) (defBody fK)=de:=by kernel_rfl
theorem qO:FnScope (iV).N ["table","by"] (defScope fK):=uq ⟨rfl,rfl,rfl,rfl⟩ (by decide+kernel)
abbrev fV:Stmt:=top 8
def l5:GE:=(ao cP (ag 1) (ag 0))
def l_:GE:=(ao cP (ag 1) (ag 0))
def j6:GS:=(bb (rh (ik (ao oEq (ag 2) (gC (.int 1)))) (cC (rO false 1 (ag 0) l_)) dH)
  (cC (rO true 1 (ag 0) l5)))
def j7:List Wv->Hs->Re Wv:=mH 3 j6
def mY:Ct:={ cB fV ["numbers","keys","way"] ["sorted"] [] with lj:=0,self:="ordered",sk:=3 }
theorem A0:cR 30 (mY) (defBody fV)=j6:=by kernel_rfl
theorem xD:FnScope (mY).N ["numbers","keys","way"] (defScope fV):=uq ⟨rfl,rfl,rfl,rfl⟩ (by decide+kernel)
abbrev iW:Stmt:=top 7
def e_:GS:=(bQ 3 (bV 3 j7 (ae (ag 3) (ae (ag 4) (ae (ag 5) aq)))))
def eR:GS:=(bb (bQ 2 (bV 2 cF (ae (ag 0) (ae (ag 1) aq))))
  (bb (bQ 3 (ay nB (ae (ay eJ (ae (ao cP (ag 0) (gC (.int 1))) aq)) aq)))
  (bb (yC [4,5] (tJ (ae (ag 2) aq)) e_)
  (cC (ag 3)))))
def cS:List Wv->Hs->Re Wv:=mH 6 eR
def kP:Ct:=cB iW ["table","by","columns","numbers","keys","way"] ["list","reversed","range","len"] [("columns_by",2,cF),("ordered",3,j7)]
theorem xE:cR 30 (kP) (defBody iW)=eR:=by kernel_rfl
theorem vM:FnScope (kP).N ["table","by"] (defScope iW):=uq ⟨rfl,rfl,rfl,rfl⟩ (by decide+kernel)
abbrev g_:Stmt:=top 21
def cT:GS:=(bb (rh (ik (ao oEq (ag 0) (bT aq))) (cC (bT (ae (bT (ae (gC (.int 0)) aq)) (ae (bT (ae (x_ gM (gC (.int 1))) aq)) aq)))) dH)
  (bb (bQ 2 (ao oMod (ag 1) (ay eJ (ae (ag 0) aq))))
  (bb (bQ 3 (ao oMod (ao ff (ag 1) (gC (.int 13))) (ay eJ (ae (ag 0) aq))))
  (bb (bQ 4 (ay gf (ae (ag 0) aq)))
  (bb (nh (ao cP (ag 0) (ag 3)) (ag 4) (ag 2))
  (bb (nh (ao cP (ag 0) (ag 2)) (ag 4) (ag 3))
  (bb (bQ 5 (ao bU (aV (ag 0) bx (cI (ag 2))) (aV (ag 0) (cI (ao bU (ag 2) (gC (.int 1)))) bx)))
  (bb (bQ 6 (bT (ae (ag 4) (ae (ag 5) (ae (ao bU (ag 5) (bT (ae (ao cP (ag 0) (ag 3)) aq))) (ae (ao bU (ag 5) (bT (ae (ay eJ (ae (ag 0) aq)) aq))) (ae (ao bU (ag 5) (bT (ae (x_ gM (gC (.int 1))) aq))) (ae (ay lW (ae (ag 0) aq)) (ae (ay jr (ae (ag 0) aq)) aq)))))))))
  (cC (ao bU (ag 6) (bT (ae (ao bU (ag 0) (bT (ae (ao cP (ag 0) (ag 2)) aq))) (ae (ao bU (ao bU (aV (ag 0) bx (cI (ag 3))) (aV (ag 5) (cI (ag 3)) bx)) (bT (ae (ao cP (ag 0) (ag 2)) aq))) aq)))))))))))))
def hG:List Wv->Hs->Re Wv:=mH 7 cT
def jB:Ct:=cB g_ ["order","n","i","j","swapped","rest","some"] ["list","len","sorted","reversed"] []
theorem vN:cR 30 (jB) (defBody g_)=cT:=by kernel_rfl
theorem ua:FnScope (jB).N ["order","n"] (defScope g_):=uq ⟨rfl,rfl,rfl,rfl⟩ (by decide+kernel)
abbrev fL:Stmt:=top 11
def bJ:GS:=(rh (ik (ao uF (ao cP (ag 3) (ag 1)) (ao cP (ag 3) (ag 2)))) (cC (ao oEq (ao oLt (ao cP (ag 3) (ag 1)) (ao cP (ag 3) (ag 2))) (ao oEq (ag 4) (gC (.int 1))))) dH)
def fM:GS:=(bb (rC [3,4] (ag 0) bJ)
  (cC (ao oLt (ag 1) (ag 2))))
def dZ:List Wv->Hs->Re Wv:=mH 5 fM
def iX:Ct:=cB fL ["columns","one","other","keys","way"] [] []
theorem ub:cR 30 (iX) (defBody fL)=fM:=by kernel_rfl
theorem qP:FnScope (iX).N ["columns","one","other"] (defScope fL):=uq ⟨rfl,rfl,rfl,rfl⟩ (by decide+kernel)
abbrev fb:Stmt:=top 10
def d0:GT:=(λ_ st=> .ok true st)
def cM:GE:=(bV 3 dZ (ae (ag 2) (ae (ag 0) (ae (ag 1) aq))))
def bR:GS:=(bb (bQ 3 (bV 2 cF (ae (ag 0) (ae (ag 1) aq))))
  (bb (rh (ik (ao uF (ay jr (ae (ag 2) aq)) (ay nB (ae (ay eJ (ae (ao cP (ag 0) (gC (.int 1))) aq)) aq)))) (cC (gC (.bl false))) dH)
  (cC (ay CC (ae (kK 2 [("columns",3)] (pY (ae (ag 2) (ae (aV (ag 2) (cI (gC (.int 1))) bx) aq))) d0 cM) aq)))))
def bS:List Wv->Hs->Re Wv:=mH 4 bR
def iA:Ct:=cB fb ["table","by","numbers","columns"] ["all","sorted","list","range","len","zip"] [("columns_by",2,cF),("goes_ahead",3,dZ)]
theorem qQ:cR 30 (iA) (defBody fb)=bR:=by kernel_rfl
theorem qj:FnScope (iA).N ["table","by","numbers"] (defScope fb):=uq ⟨rfl,rfl,rfl,rfl⟩ (by decide+kernel)
abbrev d_:Stmt:=top 22
def cN:GS:=(rh (ik (ao oEq (ag 0) (gC (.int 0)))) (ng (bV 2 cS (ae (ag 1) (ae (ag 2) aq)))) (ng (bV 3 bS (ae (ag 1) (ae (ag 2) (ae (bT aq) aq))))))
def cO:GS:=(bQ 3 (ag 4))
def eh:GS:=(bb (bQ 3 (gC .aP))
  (bb (z_ (λy=>Ei.lookup (y,("SheetError":PySem.Str))) 4 cN cO)
  (cC (ay (lH jf mW) (ae (ag 3) (ae (gC (.cls "NoColumn")) aq))))))
def cz:List Wv->Hs->Re Wv:=mH 5 eh
def gn:Ct:={ cB d_ ["way","table","by","caught","e"] ["isinstance"] [("order_by",2,cS),("right_order",3,bS)] with clss:=["SheetError"],vo:=["NoColumn"] }
theorem qk:cR 30 (gn) (defBody d_)=eh:=by kernel_rfl
theorem nR:FnScope (gn).N ["way","table","by"] (defScope d_):=uq ⟨rfl,rfl,rfl,rfl⟩ (by decide+kernel)
abbrev hJ:Stmt:=top 18
def hU:GS:=(bb (rh (ik (ao Of (ag 0) (gC .aP))) (cC (gC (.int 2))) dH)
  (cC (ay yt (ae (ay (lH jf mW) (ae (ag 0) (ae (gC (.ty "str")) aq))) aq))))
def cU:List Wv->Hs->Re Wv:=mH 1 hU
def jC:Ct:=cB hJ ["worth"] ["int","isinstance","str"] []
theorem vO:cR 30 (jC) (defBody hJ)=hU:=by kernel_rfl
theorem ud:FnScope (jC).N ["worth"] (defScope hJ):=uq ⟨rfl,rfl,rfl,rfl⟩ (by decide+kernel)
abbrev fN:Stmt:=top 19
def bK:GS:=(bb (bQ 6 (qH (pI mL (ao cP (ag 0) (gC (.int 0))) (ae (ag 4) aq)) (pQ jW (ao cP (ag 0) (gC (.int 0))) (ag 4))))
  (bb (bQ 7 (ao cP (ao cP (ao cP (ag 0) (gC (.int 1))) (ag 2)) (ag 6)))
  (bb (bQ 8 (ao cP (ao cP (ao cP (ag 0) (gC (.int 1))) (ag 3)) (ag 6)))
  (rh (ik (ao uF (ag 7) (ag 8))) (bb (rh (ik (ao uF (bV 1 cU (ae (ag 7) aq)) (bV 1 cU (ae (ag 8) aq)))) (cC (ao oEq (ao oLt (bV 1 cU (ae (ag 7) aq)) (bV 1 cU (ae (ag 8) aq))) (ao N9 (ag 5) (gC (.int 0))))) dH)
    (cC (ao oEq (ao oLt (ag 7) (ag 8)) (ao N9 (ag 5) (gC (.int 0)))))) dH))))
def fO:GS:=(bb (rC [4,5] (ag 1) bK)
  (cC (ao oLt (ag 2) (ag 3))))
def fP:List Wv->Hs->Re Wv:=mH 9 fO
def iY:Ct:=cB fN ["table","by","one","other","head","way","at","mine","yours"] [] [("_law_rank",1,cU)]
theorem ue:cR 30 (iY) (defBody fN)=fO:=by kernel_rfl
theorem qR:FnScope (iY).N ["table","by","one","other"] (defScope fN):=uq ⟨rfl,rfl,rfl,rfl⟩ (by decide+kernel)
abbrev fQ:Stmt:=top 20
def dB:GS:=(rh (wG (nQ (bV 4 fP (ae (ag 0) (ae (ag 1) (ae (ao cP (ag 2) (ag 4)) (ae (ao cP (ag 2) (ag 3)) aq))))))) (cC (gC (.bl false))) dH)
def b9:GS:=(kF 4 (ae (ag 3) aq) dB)
def eB:GS:=(bb (rh (ik (ao uF (ay jr (ae (ag 2) aq)) (ay nB (ae (ay eJ (ae (ao cP (ag 0) (gC (.int 1))) aq)) aq)))) (cC (gC (.bl false))) dH)
  (bb (kF 3 (ae (ay eJ (ae (ag 2) aq)) aq) b9)
  (cC (gC (.bl true)))))
def eD:List Wv->Hs->Re Wv:=mH 5 eB
def iZ:Ct:=cB fQ ["table","by","numbers","k","j"] ["range","sorted","list","len"] [("_law_ahead",4,fP)]
theorem uf:cR 30 (iZ) (defBody fQ)=eB:=by kernel_rfl
theorem qS:FnScope (iZ).N ["table","by","numbers"] (defScope fQ):=uq ⟨rfl,rfl,rfl,rfl⟩ (by decide+kernel)
abbrev za:Stmt:=top 23
def ma:GS:=(bb (bQ 7 (bV 3 bS (ae (ag 1) (ae (ag 3) (ae (ag 6) aq)))))
  (rh (MV (wG (nQ (ay (lH jf mW) (ae (ag 7) (ae (gC (.ty "bool")) aq))))) (ik (ao uF (ag 7) (bV 3 eD (ae (ag 1) (ae (ag 3) (ae (ag 6) aq))))))) (cC (gC (.bl false))) dH))
def zb:GS:=(bb (bQ 1 (bV 3 dY (ae (ag 0) (ae (gC (.int 0)) (ae (gC (.int 12)) aq)))))
  (bb (bQ 2 (bV 2 eN (ae (ay Ah (ae (ag 0) aq)) (ae (gC (.int 5)) aq))))
  (bb (bQ 3 (bV 2 j5 (ae (ag 2) (ae (ao cP (ag 1) (gC (.int 0))) aq))))
  (bb (bQ 4 (bV 2 cS (ae (ag 1) (ae (ay gf (ae (ag 3) aq)) aq))))
  (bb (rh (MV (wG (nQ (ay (lH jf mW) (ae (ag 4) (ae (gC (.ty "list")) aq))))) (wG (nQ (bV 3 eD (ae (ag 1) (ae (ag 3) (ae (ag 4) aq))))))) (cC (gC (.bl false))) dH)
  (bb (bQ 5 (ay gf (ae (ag 4) aq)))
  (bb (ng (i7 j' (ag 4) (gC (.int 5))))
  (bb (rh (MV (ik (ao uF (bV 2 cS (ae (ag 1) (ae (ay nk (ae (ag 3) aq)) aq))) (ag 5))) (ik (ao yQ (bV 3 bS (ae (ag 1) (ae (ag 3) (ae (ag 5) aq)))) (gC (.bl true))))) (cC (gC (.bl false))) dH)
  (bb (Cc 6 (bV 2 hG (ae (ag 5) (ae (ao ff (ag 2) (gC (.int 1000))) aq))) ma)
  (bb (bQ 8 (ao oMod (ao ff (ag 2) (gC (.int 7))) (ao bU (ay eJ (ae (ag 3) aq)) (gC (.int 1)))))
  (bb (bQ 9 (ao bU (ao bU (aV (ag 3) bx (cI (ag 8))) (bT (ae (ml (ae (gC (.str "z")) (ae (gC (.int 1)) aq))) aq))) (aV (ag 3) (cI (ag 8)) bx)))
  (cC (ya (bV 3 cz (ae (gC (.int 0)) (ae (ag 1) (ae (ag 9) aq)))) (bV 3 cz (ae (gC (.int 1)) (ae (ag 1) (ae (ag 9) aq)))))))))))))))))
def F_law:List Wv->Hs->Re Wv:=mH 10 zb
def Ej:Ct:=cB za ["script","table","n","by","order","due","numbers","found","at","bad"] ["list","sum","isinstance","len","tuple","bool"] [("_law_table",3,dY),("_law_mix",2,eN),("_law_by",2,j5),("order_by",2,cS),("_law_bent",2,hG),("right_order",3,bS),("_law_refused",3,cz),("_law_right",3,eD)]
theorem PH:cR 30 (Ej) (defBody za)=zb:=by kernel_rfl
theorem Mr:FnScope (Ej).N ["script"] (defScope za):=uq ⟨rfl,rfl,rfl,rfl⟩ (by decide+kernel)
theorem vP{n:Nat}{c:Option (Nat×List Wv)}{gt:List Wv->Hs->Re Bool}{ge:List Wv->Hs->Re Wv}{st:Hs}{t:Wv->Bool}{f:Wv->Wv}(ck:qJ c st):∀(ws acc:List Wv),(∀v∈ws,∃us,yD n v=some us/\(∀acc,gt us (st++[.lst acc])= .ok (t v) (st++[.lst acc]))/\(t v=true->∀acc,ge us (st++[.lst acc])= .ok (f v) (st++[.lst acc])))->
  acc.length+ws.length < lim->gg (qJ c) n gt ge st.length ws (st++[.lst acc])=some (st++[.lst (acc++(ws.filter t).map f)])
 | [],acc,_,_=>by simp[gg]
 | v::r,acc,h,hl=>by
  obtain⟨us,e1,e2,e3⟩:=h v aI
  have hl':acc.length+(r.length+1) < lim:=hl
  have ih:=λacc' hh=>vP (gt:=gt) (ge:=ge) (f:=f) ck r acc' (λv hv=>h v (aD _ hv)) hh
  unfold gg
  rw[e1]
  dsimp only
  rw[e2 acc]
  cases e:t v with
  | false=>
   dsimp only
   rw[if_pos (tw ck),ih acc (by omega),tF (by simp[e])]
  | true=>
   dsimp only
   rw[e3 e acc]
   dsimp only
   rw[tV (by omega)]
   dsimp only
   rw[if_pos (tw ck),ih (acc++[f v]) (by simp;omega),xa (by simp[e])]
   simp
theorem xF{n:Nat}{cs:dm}{gt:GT}{ge:GE}{ρ:bA}{w:HX}{st:Hs}{t:Wv->Bool}{f:Wv->Wv}(ck:qJ w.1 st)
  (h:∀v∈w.2,∃us,yD n v=some us/\(∀acc,gt (us.map some++cL cs ρ) (st++[.lst acc])= .ok (t v) (st++[.lst acc]))/\(t v=true->∀acc,ge (us.map some++cL cs ρ) (st++[.lst acc])= .ok (f v) (st++[.lst acc])))(hl:w.2.length < lim) :
  ju n cs gt ge ρ w st= .ok (.ref st.length) (st++[.lst ((w.2.filter t).map f)]):=by
 unfold ju
 rw[vP ck w.2 [] h (by simpa using hl)]
 simp
inductive Wo
 | aP
 | int (i:Int)
 | str (z:PySem.Str)
def Wo.w:Wo->Wv
 | .aP=> .aP
 | .int i=> .int i
 | .str z=> .str z
def Wo.eq:Wo->Wo->Bool
 | .aP,.aP=>true
 | .int i,.int j=>i == j
 | .str x,.str y=>x == y
 | _,_=>false
def Wo.lt:Wo->Wo->Bool
 | .int i,.int j=>decide (i < j)
 | .str x,.str y=>decide (x.cps.toList < y.cps.toList)
 | _,_=>false
def Wo.nn:Wo->Bool
 | .aP=>false
 | _=>true
def TL:Wv->Wo
 | .int i=> .int i
 | .str z=> .str z
 | _=> .aP
theorem IH(a:Wo):TL a.w=a:=by cases a<;>rfl
section
variable {st:Hs}
theorem V3(a:Wo):Of a.w .aP st= .ok (.bl (!a.nn)) st:=by cases a<;>rfl
theorem Ms{x:Wv}{T:String}{b:Bool}(hT:wK T=true)(h:MW st T x=some b)(hx:∀c,x≠.lC c):lH jf mW [x,.ty T] st= .ok (.bl b) st:=by
 have e:lH jf mW [x,.ty T] st=Ku [x,.ty T] st:=by
  cases x<;>first | rfl | exact absurd rfl (hx _)
 rw[e]
 show(if wK T=true then(match MW st T x with | some b=>Re.ok (Wv.bl b) st | none=> .bad) else .bad)=_
 rw[if_pos hT,h]
def Wo.Mt:Wo->Bool
 | .str _=>true
 | _=>false
theorem aS(a:Wo):lH jf mW [a.w,.ty "str"] st= .ok (.bl a.Mt) st:=Ms (by decide) (by cases a<;>rfl) (by cases a<;>intro c h<;>cases h)
end
def gG(r:List Wo):Wv:=.tup (r.map Wo.w)
def aX(hs:List PySem.Str)(rows:List (List Wo)):Wv:=.tup [.tup (hs.map Wv.str),.tup (rows.map gG)]
structure Tb(hs:List PySem.Str)(rows:List (List Wo)):Prop where
 nd:hs.Nodup
 lo:1<=hs.length
 hi:hs.length<=4
 of:∀h∈hs,h="b"\/h="a"\/h="ab"\/h="c"
 rw':rows.length<=12
 wd:∀r∈rows,r.length=hs.length
def col(rows:List (List Wo))(at':Nat):List Wo:=rows.map λr=>r.getD at' .aP
section
variable {hs:List PySem.Str} {rows:List (List Wo)} {st:Hs}
theorem M8:cP (aX hs rows) (.int 0) st= .ok (.tup (hs.map Wv.str)) st:=vF rfl
theorem EI:cP (aX hs rows) (.int 1) st= .ok (.tup (rows.map gG)) st:=vF rfl
theorem xG(l:List PySem.Str):(l.map Wv.str).all bG=true:=by
 rw[DV]
 intro w hw
 obtain⟨z,_,rfl⟩:=List.mem_map.mp hw
 rfl
theorem PJ(l:List PySem.Str)(h:PySem.Str):((l.map Wv.str).any λz=>vW z (.str h))=decide (h∈l):=by
 rw[Ek]
 simp only[List.any_eq_true,List.mem_map,decide_eq_true_eq]
 constructor
 ·rintro⟨_,⟨z,hz,rfl⟩,e⟩
  have e':(z == h)=true:=e
  have:=eq_of_beq e'
  subst this
  exact hz
 ·intro hm
  exact⟨_,⟨h,hm,rfl⟩,show(h == h)=true from beq_self_eq_true h⟩
theorem IJ{h:PySem.Str}:lP (.str h) (.tup (hs.map Wv.str)) st= .ok (.bl (!(decide (h∈hs)))) st:=by
 show(if bG (.str h)=true/\(hs.map Wv.str).all bG=true then Re.ok (Wv.bl (!((hs.map Wv.str).any λz=>vW z (.str h)))) st else .bad)=_
 rw[if_pos ⟨rfl,xG hs⟩,PJ]
theorem El{at':Nat}{h:PySem.Str}(nd:hs.Nodup)(e:hs[at']? =some h):(hs.map Wv.str).findIdx? (λz=>vW z (.str h))=some at':=by
 obtain⟨hl,e'⟩:=List.getElem?_eq_some_iff.mp e
 rw[CN]
 refine⟨by simpa using hl,?_,λj hj=>?_⟩
 ·rw[List.getElem_map,e']
  exact show(h == h)=true from beq_self_eq_true h
 ·rw[List.getElem_map]
  intro c
  have c':(hs[j] == h)=true:=c
  have:=eq_of_beq c'
  rw[<-e'] at this
  have:=(List.getElem_inj nd).mp this
  omega
theorem Mu{at':Nat}{h:PySem.Str}(nd:hs.Nodup)(e:hs[at']? =some h):jW (.tup (hs.map Wv.str)) (.str h) st= .ok (.int at') st:=by
 show(if bG (.str h)=true/\(hs.map Wv.str).all bG=true then(match(hs.map Wv.str).findIdx? (λz=>vW z (.str h)) with | some j=>Re.ok (Wv.int (j:Nat)) st | none=> .bad) else .bad)=_
 rw[if_pos ⟨rfl,xG hs⟩,El nd e]
theorem Mv{l at':Nat}{h:PySem.Str}(hl:ai st l=some (hs.map Wv.str))(nd:hs.Nodup)(e:hs[at']? =some h):gO (.ref l) (.str h) st= .ok (.int at') st:=by
 show(match ai st l with | some ws=>(if bG (.str h)=true/\ws.all bG=true then(match ws.findIdx? (λz=>vW z (.str h)) with | some j=>Re.ok (Wv.int (j:Nat)) st | none=> .bad) else .bad) | none=> .bad)=_
 rw[hl]
 dsimp only
 rw[if_pos ⟨rfl,xG hs⟩,El nd e]
def pick(at':Nat):Wv->Wv
 | .tup us=>us.getD at' .aP
 | _=> .aP
theorem ql{at':Nat}{r:List Wo}:pick at' (gG r)=(r.getD at' .aP).w:=by
 show(r.map Wo.w).getD at' .aP=_
 simp only[a_,ie]
 cases r[at']?<;>rfl
theorem Em{at':Nat}{r:List Wo}(h:at' < r.length):cP (gG r) (.int at') st= .ok (pick at' (gG r)) st:=by
 refine vF ?_
 rw[L2.fF (v:=(r.map Wo.w)[at']'(by simpa using h)) (cq _),ql]
 simp[h]
theorem En{at':Nat}:((rows.map gG).filter λ_=>true).map (pick at')=(col rows at').map Wo.w:=by
 rw[List.filter_eq_self.mpr (λ_ _=>rfl),bW]
 unfold col
 rw[bW]
 exact pW λr _=>ql
theorem column{at':Nat}{h:PySem.Str}(T:Tb hs rows)(e:hs[at']? =some h):fm [aX hs rows,.str h] st= .ok (.ref (st.length+1)) (st++[.lst (hs.map Wv.str),.lst ((col rows at').map Wo.w)]):=by
 have hl:=(List.getElem?_eq_some_iff.mp e).1
 have hm:h∈hs:=xP e
 have li:gf [.tup (hs.map Wv.str)] st= .ok (.ref st.length) (st++[.lst (hs.map Wv.str)]):=rfl
 have ix:=Mv (st:=st++[.lst (hs.map Wv.str)]) az T.nd e
 have km:=λga ρ=>oH (mt:=gO) (ga:=ga) (ρ:=ρ) (st:=st++[.lst (hs.map Wv.str)]) az
 have nb:∀(ρ:bA)(st:Hs),bI ρ st= .bad:=λ_ _=>rfl
 have q:=jZ (cs:=[("number",2)]) (gt:=i9) (ge:=ft) (ρ:=[some (aX hs rows),some (.str h),some (.int at')]) (w:=(none,rows.map gG)) (st:=st++[.lst (hs.map Wv.str)]) (t:=λ_=>true) (f:=pick at') trivial
  (λv _ acc=>rfl) (λv hv _ acc=>by
   obtain⟨r,hr,rfl⟩:=List.mem_map.mp hv
   unfold ft
   simp[cL,Em (show at' < r.length by rw[T.wd r hr];exact hl)])
  (by show(rows.map gG).length < lim;rw[aH];have:=T.rw';unfold lim;omega)
 rw[show((none,rows.map gG):Wk).2=rows.map gG from rfl,En] at q
 refine dv (n:=3) (g:=dJ) ?_
 have ga:qH bI (i7 gO (ay gf (ae (ao cP (ag 0) (gC (.int 0))) aq)) (ag 1)) [some (aX hs rows),some (.str h),none] st= .ok (.int at') (st++[.lst (hs.map Wv.str)]):=by
  rw[Eh (nb _ _)]
  simp[M8,li,km,ix]
 unfold dJ
 simp[M8,EI,IJ,hm,ga,q]
theorem A1{h:PySem.Str}(hn:h∉hs):fm [aX hs rows,.str h] st= .err "NoColumn" st:=by
 refine tT (n:=3) (g:=dJ) (ρ:=[some (aX hs rows),some (.str h),none]) ?_
 unfold dJ
 simp[M8,IJ,hn,lim]
end
section
variable {st:Hs}
theorem Mw{l k:Nat}{c:List Wo}(h:ai st l=some (c.map Wo.w))(hk:k < c.length):cP (.ref l) (.int (k:Int)) st= .ok (c.getD k .aP).w st:=by
 refine vE h ?_
 rw[L2.fF (v:=(c.map Wo.w)[k]'(by simpa using hk)) (cq _)]
 simp[hk]
theorem PK{l:Nat}{c:List Wo}(h:ai st l=some (c.map Wo.w)):eJ [.ref l] st= .ok (.int (c.length:Int)) st:=by
 have:eJ [.ref l] st= .ok (.int ((c.map Wo.w).length:Int)) st:=by
  show(match ai st l with | some ws=>Re.ok (Wv.int ws.length) st | none=> .bad)=_
  rw[h]
 rw[this,aH]
end
section
variable {st:Hs}
theorem i5{x m:Int}(h:0 < m):0<=x.fmod m/\x.fmod m < m:=⟨Int.fmod_nonneg_of_pos x h,Int.fmod_lt_of_pos x h⟩
def qm(c k:Int):Int:=(c.fmod 1000000007 * 48271+(k+1) * (k+1) * 69621).fmod 2147483647
def xH(c k:Int):Int:=((qm c k * qm c k).fmod 2147483629).fdiv 8
theorem mix{c k:Int}(h0:0<=k)(h1:k<=100):eN [.int c,.int k] st= .ok (.int (xH c k)) st:=by
 have b1:=i5 (x:=c) (m:=1000000007) (by omega)
 have b2:=i5 (x:=c.fmod 1000000007 * 48271+(k+1) * (k+1) * 69621) (m:=2147483647) (by omega)
 have k1:(k+1) * (k+1)<=101 * 101:=Int.mul_le_mul (by omega) (by omega) (by omega) (by omega)
 have k2:0<=(k+1) * (k+1):=Int.mul_nonneg (by omega) (by omega)
 have m1:=qf (st:=st) (i:=c.fmod 1000000007) (j:=48271) (by omega) (by omega)
 have m2:=qf (st:=st) (i:=k+1) (j:=k+1) (by omega) (by omega)
 have m3:=qf (st:=st) (i:=(k+1) * (k+1)) (j:=69621) (by omega) (by omega)
 have m4:=qf (st:=st) (i:=qm c k) (j:=qm c k) (by unfold qm;omega) (by unfold qm;omega)
 have a1:=gm (st:=st) (i:=c) (j:=1000000007) (by decide)
 have a2:oMod (.int (c.fmod 1000000007 * 48271+(k+1) * (k+1) * 69621)) (.int 2147483647) st= .ok (.int (qm c k)) st:=gm (by decide)
 have a3:=gm (st:=st) (i:=qm c k * qm c k) (j:=2147483629) (by decide)
 have a4:=ir (st:=st) (i:=(qm c k * qm c k).fmod 2147483629) (j:=8) ⟨by decide,by decide⟩
 refine dv (n:=3) (g:=iT) ?_
 unfold iT
 simp[a1,m1,m2,m3,a2,m4,a3,a4,xH]
def IK:Wv->Int
 | .int i=>i
 | _=>0
theorem digits{c:Int}{many:Nat}(hm:many<=60):∃(l:Nat)(st':Hs)(ds:List Int),eV [.int c,.int 13,.int (many:Int)] st= .ok (.ref l) st'/\ai st' l=some (ds.map Wv.int)/\ds.length=many/\(∀d∈ds,0<=d/\d < 13)/\Gr st st':=by
 have cr:j_ (many:Int):=Eg (by omega) (by omega)
 have TM:(13:Int)≠0/\(13:Int).natAbs.log2 < 9000:=⟨by decide,by decide⟩
 have md:=gm (st:=st++[.lst []]) (i:=c) (j:=2) (by decide)
 have fd:=ir (st:=st++[.lst []]) (i:=c) (j:=2) ⟨by decide,by decide⟩
 by_cases odd:c.fmod 2=1
 ·obtain⟨ρ',s1,e1,rest,o5,ds,rfl,rfl,hl,hb⟩:=tU (i:=5) (gb:=eO) (λk ρ st'=>∃(rest:Int)(o5:Option Wv)(ds:List Int),ρ=[some (.int c),some (.int 13),some (.int (many:Int)),some (.ref st.length),some (.int rest),o5]/\st'=st++[.lst (ds.map Wv.int)]/\ds.length=k/\∀d∈ds,0<=d/\d < 13)
   (cE 0 many) 0 [some (.int c),some (.int 13),some (.int (many:Int)),some (.ref st.length),some (.int (c.fdiv 2)),none] (st++[.lst []]) ⟨_,_,[],rfl,rfl,rfl,λd h=>by cases h⟩ (λj w hw ρ st' hP=>by
    obtain⟨rest,o5,ds,rfl,rfl,hl,hb⟩:=hP
    have hj:j < many:=by
     have q:=(List.getElem?_eq_some_iff.mp hw).1
     rw[cJ] at q
     exact q
    have km:=λga ρ=>oH (mt:=j') (ga:=ga) (ρ:=ρ) (st:=st++[.lst (ds.map Wv.int)]) az
    have ap:=tV (st:=st) (acc:=ds.map Wv.int) (v:=.int (rest.fmod 13)) (by rw[aH];unfold lim;omega)
    have ed:ds.map Wv.int++[.int (rest.fmod 13)]=(ds++[rest.fmod 13]).map Wv.int:=by simp
    rw[ed] at ap
    refine⟨[some (.int c),some (.int 13),some (.int (many:Int)),some (.ref st.length),some (.int (rest.fdiv 13)),some w],st++[.lst ((ds++[rest.fmod 13]).map Wv.int)],?_,_,_,ds++[rest.fmod 13],rfl,rfl,by simp[hl],λd hd=>?_⟩
    ·unfold eO
     simp[-ug,km,gm TM.1,ap,ir TM]
    ·rcases List.mem_append.mp hd with z | z
     ·exact hb d z
     ·simp at z
      rw[z]
      exact i5 (by omega))
  rw[cJ,Nat.zero_add] at hl
  refine⟨st.length,st++[.lst (ds.map Wv.int)],ds,?_,az,hl,hb,Gr.push⟩
  refine dv (n:=6) (g:=cK) ?_
  unfold cK
  simp[md,odd,fd,cr,e1]
 ·have zf:(c.fmod 2 == 1)=false:=by simpa using odd
  have q:=jZ (cs:=[("cell",0),("size",1)]) (gt:=gU) (ge:=dW) (ρ:=[some (.int c),some (.int 13),some (.int (many:Int)),some (.ref st.length),none,none]) (w:=(none,cE 0 many)) (st:=st++[.lst []]) (t:=λ_=>true) (f:=λv=> .int ((xH c (IK v)).fmod 13)) trivial
   (λv _ acc=>rfl) (λv hv _ acc=>by
    obtain⟨k,rfl,h0,h1⟩:=y9 hv
    unfold dW
    simp[cL,mix (c:=c) (k:=k) (by omega) (by omega),gm TM.1,IK])
   (by show(cE 0 many).length < lim;rw[cJ];unfold lim;omega)
  rw[show((none,cE 0 many):Wk).2=cE 0 many from rfl,List.filter_eq_self.mpr (λ_ _=>rfl)] at q
  have e2:(cE 0 many).map (λv=>Wv.int ((xH c (IK v)).fmod 13))=((cE 0 many).map λv=>(xH c (IK v)).fmod 13).map Wv.int:=by rw[bW];rfl
  rw[e2] at q
  refine⟨(st++[Ob.lst []]).length,(st++[.lst []])++[.lst (((cE 0 many).map λv=>(xH c (IK v)).fmod 13).map Wv.int)],_,?_,az,by rw[aH,cJ],λd hd=>?_,Gr.push.trans Gr.push⟩
  ·refine dv (n:=6) (g:=cK) ?_
   unfold cK
   simp[-ij,-dk,-bW,md,zf,Ed cr,q]
  ·obtain⟨v,_,rfl⟩:=List.mem_map.mp hd
   exact i5 (by omega)
def xS:PySem.Str:=qG 200 "x"
def SM:List Wo:=[.aP,.int 0,.int 1,.int 2,.int (-1),.str "a",.str "b",.str "ab",.str "",.int 1000000000000000000000000000000000000000000000000000000000000,.int (-1000000000000000000000000000000000000000000000000000000000000),.str "1",.str xS]
theorem TN:dU (.str "x") (.int 200) st= .ok (.str xS) st:=by
 show(if nj "x" 200 then Re.ok (Wv.str (qG (200:Int).toNat "x")) st else .bad)=_
 rw[if_pos (by unfold nj lim;decide)]
 rfl
theorem XN:wH (.int 10) (.int 60) st= .ok (.int 1000000000000000000000000000000000000000000000000000000000000) st:=Py (i:=10) (j:=60) (st:=st) (by decide)
theorem Eo{c:Int}{many:Nat}(hm:many<=60):∃(l:Nat)(st':Hs)(ws:List Wo),eZ [.int c,.int (many:Int)] st= .ok (.ref l) st'/\ai st' l=some (ws.map Wo.w)/\ws.length=many/\Gr st st':=by
 have QV:tS [.aP,.int 0,.int 1,.int 2,.int (-1),.str "a",.str "b",.str "ab",.str "",.int 1000000000000000000000000000000000000000000000000000000000000,.int (-1000000000000000000000000000000000000000000000000000000000000),.str "1",.str xS] st= .ok (.ref st.length) (st++[.lst (SM.map Wo.w)]):=kM (by simp[lim])
 obtain⟨s0,hs0⟩:∃s0,st++[Ob.lst (SM.map Wo.w)]=s0:=⟨_,rfl⟩
 rw[hs0] at QV
 have ls:ai s0 st.length=some (SM.map Wo.w):=by rw[<-hs0];exact az
 have ln:eJ [.ref st.length] s0= .ok (.int 13) s0:=PK ls
 obtain⟨l,s1,ds,e1,l1,n1,b1,g1⟩:=digits (c:=c) (many:=many) hm (st:=s0)
 have XO:=g1.lst ls
 have q:=jZ (cs:=[("some",2)]) (gt:=gW) (ge:=dX) (ρ:=[some (.int c),some (.int (many:Int)),some (.ref st.length)]) (w:=(some l,ds.map Wv.int)) (st:=s1) (t:=λ_=>true) (f:=λv=>(SM.getD (IK v).toNat .aP).w) l1
  (λv _ acc=>rfl) (λv hv _ acc=>by
   obtain⟨d,hd,rfl⟩:=List.mem_map.mp hv
   have b:=b1 d hd
   have ix:=Mw (st:=s1++[.lst acc]) (k:=d.toNat) (dI XO) (show d.toNat < 13 by omega)
   rw[show((d.toNat:Nat):Int)=d by omega] at ix
   unfold dX
   simp[-a_,cL,ix,IK])
  (by show(ds.map Wv.int).length < lim;rw[aH];unfold lim;omega)
 rw[show((some l,ds.map Wv.int):Wk).2=ds.map Wv.int from rfl,List.filter_eq_self.mpr (λ_ _=>rfl)] at q
 have e2:(ds.map Wv.int).map (λv=>(SM.getD (IK v).toNat .aP).w)=(ds.map λd=>SM.getD d.toNat .aP).map Wo.w:=by rw[bW,bW];rfl
 rw[e2] at q
 refine⟨s1.length,s1++[.lst ((ds.map λd=>SM.getD d.toNat .aP).map Wo.w)],_,?_,az,by rw[aH];exact n1,by rw[<-hs0] at g1;exact Gr.push.trans (g1.trans Gr.push)⟩
 refine dv (n:=3) (g:=eX) ?_
 unfold eX
 simp[-a_,-bW,XN,TN,QV,ln,e1,mU l1,q]
end
section
variable {st:Hs}
def HA:List PySem.Str:=["b","a","ab","c"]
def Bb(r:Nat):List PySem.Str:=HA.drop r++HA.take r
theorem Mx{l:Nat}{n:Int}{ws:List Wv}(h:st[l]? =some (.lst ws))(hc:Ad ws.length n):dU (.ref l) (.int n) st= .ok (.ref st.length) (st++[.lst (aG n.toNat ws).flatten]):=by
 show(match st[l]? with | some (.lst ws)=>if Ad ws.length n then Re.ok (Wv.ref st.length) (st++[Ob.lst (aG n.toNat ws).flatten]) else .bad | _=> .bad)=_
 rw[h]
 exact if_pos hc
theorem zc{l:Nat}{ws:List Wv}(h:ai st l=some ws):nk [.ref l] st= .ok (.tup ws) st:=by
 show(match ai st l with | some ws=>Re.ok (Wv.tup ws) st | none=> .bad)=_
 rw[h]
theorem TQ:∀r:Fin 4,iE (HA.map Wv.str) (some (r.1:Int)) none=(HA.drop r.1).map Wv.str:=λr=>by
 obtain⟨r,h⟩:=r
 match r,h with
 | 0,_=>rfl
 | 1,_=>rfl
 | 2,_=>rfl
 | 3,_=>rfl
theorem TR:∀r:Fin 4,iE (HA.map Wv.str) none (some (r.1:Int))=(HA.take r.1).map Wv.str:=λr=>by
 obtain⟨r,h⟩:=r
 match r,h with
 | 0,_=>rfl
 | 1,_=>rfl
 | 2,_=>rfl
 | 3,_=>rfl
theorem TU{r w:Nat}(hr:r < 4)(h1:1<=w)(h4:w<=4):CK (.tup ((Bb r).map Wv.str)) none (some (w:Int)) st= .ok (.tup (((Bb r).take w).map Wv.str)) st:=by
 match r,hr with
 | 0,_=>match w,h1,h4 with
  | 1,_,_=>rfl
  | 2,_,_=>rfl
  | 3,_,_=>rfl
  | 4,_,_=>rfl
 | 1,_=>match w,h1,h4 with
  | 1,_,_=>rfl
  | 2,_,_=>rfl
  | 3,_,_=>rfl
  | 4,_,_=>rfl
 | 2,_=>match w,h1,h4 with
  | 1,_,_=>rfl
  | 2,_,_=>rfl
  | 3,_,_=>rfl
  | 4,_,_=>rfl
 | 3,_=>match w,h1,h4 with
  | 1,_,_=>rfl
  | 2,_,_=>rfl
  | 3,_,_=>rfl
  | 4,_,_=>rfl
theorem Mz:∀r:Fin 4,(Bb r.1).Nodup:=by decide
theorem G0:∀r:Fin 4,(Bb r.1).length=4:=by decide
theorem MA:∀r:Fin 4,∀h∈Bb r.1,h="b"\/h="a"\/h="ab"\/h="c":=by decide
theorem PL{ws:List Wo}{a n:Nat}(h:a+n<=ws.length):iE (ws.map Wo.w) (some (a:Int)) (some ((a:Int)+(n:Int)))=((ws.drop a).take n).map Wo.w:=by
 have i1:HT.cu (ws.map Wo.w).length 0 (some (a:Int))=a:=by
  unfold HT.cu
  simp
  rw[if_neg (by omega)]
  omega
 have i2:HT.cu (ws.map Wo.w).length (ws.map Wo.w).length (some ((a:Int)+(n:Int)))=a+n:=by
  unfold HT.cu
  simp
  rw[if_neg (by omega)]
  omega
 unfold iE
 rw[i1,i2,<-mV,<-oI,Nat.add_sub_cancel_left]
theorem zd{w:Nat}:∀{us:List Wv},(∀u∈us,∃r:List Wo,r.length=w/\u=gG r)->∃rows:List (List Wo),us=rows.map gG/\∀r∈rows,r.length=w
 | [],_=>⟨[],rfl,λ_ h=>by cases h⟩
 | u::t,h=>by
  obtain⟨r,hr,rfl⟩:=h u aI
  obtain⟨rows,rfl,k⟩:=zd (us:=t) λu hu=>h u (aD _ hu)
  refine⟨r::rows,rfl,λx hx=>?_⟩
  rcases List.mem_cons.mp hx with z | z
  ·rw[z];exact hr
  ·exact k x z
theorem cells{at':Nat}{ns:List Int}(h:at' < 4):∃c:Int,L2.qu ((ns.map Wv.int)++[.int 0,.int 0,.int 0,.int 0]) (at':Int)=some (.int c):=by
 have hl:at' < ((ns.map Wv.int)++[Wv.int 0,.int 0,.int 0,.int 0]).length:=by simp;omega
 obtain⟨v,e,hv⟩:=Ee (ws:=(ns.map Wv.int)++[Wv.int 0,.int 0,.int 0,.int 0]) (d:=(at':Int)) (by omega) (by omega)
 rcases List.mem_append.mp hv with z | z
 ·obtain⟨c,_,rfl⟩:=List.mem_map.mp z
  exact⟨c,e⟩
 ·simp at z
  exact⟨0,by rw[e,z]⟩
theorem table{ns:List Int}{at' most:Nat}(hs:st[0]? =some (.nZ ns))(hn:ns.length<=63)(ha:at' < 4)(hm:most<=12):∃(hs':List PySem.Str)(rows:List (List Wo))(st':Hs),dY [.ref 0,.int (at':Int),.int (most:Int)] st= .ok (aX hs' rows) st'/\Tb hs' rows/\Gr st st':=by
 have l0:ai st 0=some (ns.map Wv.int):=by unfold ai;rw[hs]
 have b0:=jy hs
 obtain⟨s1,hs1⟩:∃s1,st++[Ob.lst [.int 0]]=s1:=⟨_,rfl⟩
 have g1:s1[st.length]? =some (.lst [.int 0]):=by rw[<-hs1];exact cn
 have G1:Gr st s1:=by rw[<-hs1];exact Gr.push
 have mu:dU (.ref st.length) (.int 4) s1= .ok (.ref s1.length) (s1++[.lst [.int 0,.int 0,.int 0,.int 0]]):=Mx g1 (by unfold Ad lim;simp)
 obtain⟨s2,hs2⟩:∃s2,s1++[Ob.lst [.int 0,.int 0,.int 0,.int 0]]=s2:=⟨_,rfl⟩
 rw[hs2] at mu
 have G2:Gr s1 s2:=by rw[<-hs2];exact Gr.push
 have k2:ai s2 s1.length=some [.int 0,.int 0,.int 0,.int 0]:=by rw[<-hs2];exact az
 have ad:=add_l (st:=s2) ((G1.trans G2).lst l0) k2 (by simp;unfold lim;omega)
 obtain⟨s3,om⟩:∃s3,s2++[Ob.lst ((ns.map Wv.int)++[.int 0,.int 0,.int 0,.int 0])]=s3:=⟨_,rfl⟩
 rw[om] at ad
 have G3:Gr s2 s3:=by rw[<-om];exact Gr.push
 have k3:ai s3 s2.length=some ((ns.map Wv.int)++[.int 0,.int 0,.int 0,.int 0]):=by rw[<-om];exact az
 obtain⟨c,ec⟩:=cells (ns:=ns) ha
 have ix:=vE k3 ec
 have w1:=gm (st:=s3) (i:=c) (j:=4) (by decide)
 have bw:=i5 (x:=c) (m:=4) (by omega)
 obtain⟨w,hw⟩:∃w:Nat,(1+c.fmod 4)=(w:Int):=⟨(1+c.fmod 4).toNat,by omega⟩
 have f1:=ir (st:=s3) (i:=c) (j:=4) ⟨by decide,by decide⟩
 have h1:=gm (st:=s3) (i:=c.fdiv 4) (j:=(most:Int)+1) (by omega)
 have bh:=i5 (x:=c.fdiv 4) (m:=(most:Int)+1) (by omega)
 obtain⟨hg,hh⟩:∃hg:Nat,(c.fdiv 4).fmod ((most:Int)+1)=(hg:Int):=⟨((c.fdiv 4).fmod ((most:Int)+1)).toNat,by omega⟩
 rw[hh] at h1 bh
 obtain⟨r,hr⟩:∃r:Nat,(c.fdiv 64).fmod 4=(r:Int):=⟨((c.fdiv 64).fmod 4).toNat,by have:=i5 (x:=c.fdiv 64) (m:=4) (by omega);omega⟩
 have br:r < 4:=by have:=i5 (x:=c.fdiv 64) (m:=4) (by omega);omega
 have fr:∀st:Hs,ff (.int c) (.int 64) st= .ok (.int (c.fdiv 64)) st:=λst=>ir ⟨by decide,by decide⟩
 have mr:∀st:Hs,oMod (.int (c.fdiv 64)) (.int 4) st= .ok (.int (r:Int)) st:=λst=>by rw[<-hr];exact gm (by decide)
 -- the heads
 obtain⟨s4,Ep⟩:∃s4,s3++[Ob.lst (HA.map Wv.str)]=s4:=⟨_,rfl⟩
 have k4:ai s4 s3.length=some (HA.map Wv.str):=by rw[<-Ep];exact az
 have sa:=vG (lo:=some (r:Int)) (hi:=none) k4
 rw[TQ ⟨r,br⟩] at sa
 obtain⟨s5,M9⟩:∃s5,s4++[Ob.lst ((HA.drop r).map Wv.str)]=s5:=⟨_,rfl⟩
 rw[M9] at sa
 have k5:ai s5 s4.length=some ((HA.drop r).map Wv.str):=by rw[<-M9];exact az
 obtain⟨s6,MB⟩:∃s6,s5++[Ob.lst (HA.map Wv.str)]=s6:=⟨_,rfl⟩
 have k6:ai s6 s5.length=some (HA.map Wv.str):=by rw[<-MB];exact az
 have sb:=vG (lo:=none) (hi:=some (r:Int)) k6
 rw[TR ⟨r,br⟩] at sb
 obtain⟨s7,MC⟩:∃s7,s6++[Ob.lst ((HA.take r).map Wv.str)]=s7:=⟨_,rfl⟩
 rw[MC] at sb
 have k7:ai s7 s6.length=some ((HA.take r).map Wv.str):=by rw[<-MC];exact az
 have G4:Gr s3 s4:=by rw[<-Ep];exact Gr.push
 have G5:Gr s4 s5:=by rw[<-M9];exact Gr.push
 have G6:Gr s5 s6:=by rw[<-MB];exact Gr.push
 have G7:Gr s6 s7:=by rw[<-MC];exact Gr.push
 have ah:=add_l (st:=s7) ((G6.trans G7).lst k5) k7 (by rw[aH,aH,jk,h_];unfold lim HA;simp;omega)
 have er:(HA.drop r).map Wv.str++(HA.take r).map Wv.str=(Bb r).map Wv.str:=by unfold Bb;rw[ug]
 rw[er] at ah
 obtain⟨s8,TV⟩:∃s8,s7++[Ob.lst ((Bb r).map Wv.str)]=s8:=⟨_,rfl⟩
 rw[TV] at ah
 have G8:Gr s7 s8:=by rw[<-TV];exact Gr.push
 have k8:ai s8 s7.length=some ((Bb r).map Wv.str):=by rw[<-TV];exact az
 have tc:=zc k8
 have ch:=TU (st:=s8) br (show 1<=w by omega) (show w<=4 by omega)
 -- the Eo
 have V4:Gr st s8:=G1.trans (G2.trans (G3.trans (G4.trans (G5.trans (G6.trans (G7.trans G8))))))
 have sc:=vG (lo:=some ((at':Int)+1)) (hi:=none) (V4.lst l0)
 obtain⟨ys,ey,_⟩:=rW (f:=Wv.int) (xs:=ns) (lo:=some ((at':Int)+1)) (hi:=none)
 rw[ey] at sc
 obtain⟨s9,TX⟩:∃s9,s8++[Ob.lst (ys.map Wv.int)]=s9:=⟨_,rfl⟩
 rw[TX] at sc
 have G9:Gr s8 s9:=by rw[<-TX];exact Gr.push
 have k9:ai s9 s8.length=some (ys.map Wv.int):=by rw[<-TX];exact az
 have su:=IG k9
 have wh:((w:Int) * (hg:Int))=((w * hg:Nat):Int):=by push_cast;rfl
 have XQ:w * hg<=60:=bE (Nat.mul_le_mul (show w<=4 by omega) (show hg<=12 by omega)) (by omega)
 have mw:=qf (st:=s9) (i:=(w:Int)) (j:=(hg:Int)) (by omega) (by omega)
 obtain⟨lw,yg,ws,FR,PM,XR,TY⟩:=Eo (c:=ys.sum) (many:=w * hg) XQ (st:=s9)
 rw[<-wh] at FR
 -- the rows
 have cr:j_ (hg:Int):=Eg (by omega) (by omega)
 obtain⟨ρ,hρ⟩:∃ρ:bA,[some (.ref 0),some (.int (at':Int)),some (.int (most:Int)),some (.int c),some (.int (w:Int)),some (.int (hg:Int)),some (.tup (((Bb r).take w).map Wv.str)),some (.ref lw),none]=ρ:=⟨_,rfl⟩
 have bl:=jx PM
 obtain⟨EF,us,XS,V5,XT,XU,V6⟩:=rV (w:=(none,cE 0 hg)) (gt:=λv=>eP (some v::cL [("worths",7),("wide",4)] ρ)) (ge:=λv=>c_ (some v::cL [("worths",7),("wide",4)] ρ)) (rr:=yg.length)
  (λst=>ai st lw=some (ws.map Wo.w)/\yg.length < st.length/\∀k,k < yg.length->st[k]? =yg[k]?) (λu=>∃r:List Wo,r.length=w/\u=gG r)
  (λst acc h=>by
   refine⟨?_,by rw[Bw];exact h.2.1,λk hk=>by rw[fX (by omega)];exact h.2.2 k hk⟩
   have q:=h.1
   unfold ai at q ⊢
   rw[fX (by omega)]
   exact q)
  (λst h=>trivial) (cE 0 hg)
  (λv hv st acc hp hg'=>by
   obtain⟨k,rfl,h0,h1⟩:=y9 hv
   refine⟨st,rfl,hp,hg',?_⟩
   obtain⟨kn,rfl⟩:∃kn:Nat,k=(kn:Int):=⟨k.toNat,by omega⟩
   have m1:=qf (st:=st) (i:=(kn:Int)) (j:=(w:Int)) (by omega) (by omega)
   have em:(kn:Int) * (w:Int)=((kn * w:Nat):Int):=by push_cast;rfl
   have le:kn * w+w<=ws.length:=by
    rw[XR]
    have:(kn+1) * w<=hg * w:=Nat.mul_le_mul_right w (by omega)
    rw[Nat.succ_mul] at this
    rw[Nat.mul_comm w hg]
    exact this
   have sl:=vG (lo:=some ((kn * w:Nat):Int)) (hi:=some (((kn * w:Nat):Int)+(w:Int))) hp.1
   rw[PL le] at sl
   rw[<-em] at sl
   have tt:=zc (st:=st++[.lst (((ws.drop (kn * w)).take w).map Wo.w)]) az
   refine⟨gG ((ws.drop (kn * w)).take w),st++[.lst (((ws.drop (kn * w)).take w).map Wo.w)],?_,⟨_,by rw[h_,jk];omega,rfl⟩,⟨dI hp.1,by rw[dk];have:=hp.2.1;omega,λk hk=>by rw[dj (by have:=hp.2.1;omega)];exact hp.2.2 k hk⟩,Ef hg'⟩
   rw[<-hρ]
   unfold c_
   simp[-oI,-mV,cL,m1,sl,tt,gG])
  [] (yg++[.lst []]) ⟨dI PM,by simp,λk hk=>dj hk⟩ cn (by rw[cJ];simp;unfold lim;omega) (λa h=>by cases h)
 obtain⟨rows,rfl,wd⟩:=zd XU
 rw[aH,cJ] at V6
 simp at V6
 have PN:cY [("worths",7),("wide",4)] eP c_ ρ (none,cE 0 hg) yg= .ok (.ref yg.length) EF:=by
  unfold cY
  rw[show((none,cE 0 hg):Wk).2=cE 0 hg from rfl,XS]
 have tr:=zc (aB XT)
 have XW:((Bb r).take w).length=w:=by rw[h_,G0 ⟨r,br⟩];omega
 refine⟨(Bb r).take w,rows,EF,?_,⟨(Mz ⟨r,br⟩).sublist (sv _ _),by omega,by omega,λh hm=>MA ⟨r,br⟩ h (G_ hm),by omega,λx hx=>by rw[XW];exact wd x hx⟩,?_⟩
 ·refine dv (n:=9) (g:=fI) ?_
  have kA:∀st:Hs,tS [.str "b",.str "a",.str "ab",.str "c"] st= .ok (.ref st.length) (st++[.lst (HA.map Wv.str)]):=λst=>kM (by simp[lim])
  rw[<-hρ] at PN
  unfold fI
  simp[-ij,-dk,-oI,-Ml,kA,hs1,mu,ad,ix,w1,hw,f1,h1,fr,mr,Ep,sa,MB,sb,ah,tc,ch,sc,su,mw,FR,Ed cr,PN,tr,aX]
 ·have XX:=V4.trans (G9.trans TY)
  exact XX.trans ⟨by have:=V5.2.1;omega,V5.2.2⟩
end
def fo:Wo->Kw
 | .aP=>(2,.inl 0)
 | .int i=>(0,.inl i)
 | .str z=>(1,.inr z)
def dF:Wo->Wv
 | .aP=> .tup [.int 2,.int 0]
 | .int i=> .tup [.int 0,.int i]
 | .str z=> .tup [.int 1,.str z]
theorem MD(a:Wo):jv (fo a)=true:=by cases a<;>rfl
theorem Hd(a:Wo):xj (dF a)=some (fo a):=by cases a<;>rfl
theorem ze:∀l:List Wo,lU (l.map dF)=some (l.map fo)
 | []=>rfl
 | a::l=>by rw[aZ,lU,Hd,ze l];rfl
abbrev nT:=List (List Wo×Bool)
def fc(c:List Wo)(i:Nat):Kw:=fo (c.getD i .aP)
def jD:nT->Nat->Nat->Bool
 | [],i,j=>decide (i < j)
 | (c,up)::r,i,j=>if fc c i=fc c j then jD r i j else(fj (fc c i) (fc c j) == up)
def stp(c:List Wo)(up:Bool)(ns:List Nat):List Nat:=(iq (!up) (ns.map (fc c))).map λp=>ns.getD p 0
def uh(n:Nat):nT->List Nat
 | []=>aJ n
 | (c,up)::r=>stp c up (uh n r)
theorem mZ(c:List Wo)(i:Nat):jv (fc c i)=true:=MD _
theorem Hf(p:Kw)(h:jv p=true):fj p p=false:=by
 cases e:fj p p with
 | false=>rfl
 | true=>have:=pS h h e;rw[e] at this;cases this
theorem ME{p q r:Kw}(hp:jv p=true)(hq:jv q=true)(hr:jv r=true)(h:fj p q=true)(k:fj q r=true):fj p r=true:=by
 cases e:fj p r with
 | true=>rfl
 | false=>have:=tG hp hr hq e (pS hq hr k);rw[h] at this;cases this
theorem Er:∀(cs:nT){i j k:Nat},jD cs i j=true->jD cs j k=true->jD cs i k=true
 | [],i,j,k,h1,h2=>by simp[jD] at *;omega
 | (c,up)::r,i,j,k,h1,h2=>by
  unfold jD at h1 h2 ⊢
  have oi:=mZ c i
  have oj:=mZ c j
  have ok:=mZ c k
  by_cases e1:fc c i=fc c j
  ·rw[if_pos e1] at h1
   by_cases e2:fc c j=fc c k
   ·rw[if_pos e2] at h2
    rw[if_pos (e1.trans e2)]
    exact Er r h1 h2
   ·rw[if_neg e2] at h2
    rw[if_neg (by rw[e1];exact e2),e1]
    exact h2
  ·rw[if_neg e1] at h1
   by_cases e2:fc c j=fc c k
   ·rw[if_neg (by rw[<-e2];exact e1),<-e2]
    exact h1
   ·rw[if_neg e2] at h2
    cases up with
    | true=>
     have a1:fj (fc c i) (fc c j)=true:=by simpa using h1
     have a2:fj (fc c j) (fc c k)=true:=by simpa using h2
     rw[if_neg (λz=>by rw[z] at a1;rw[pS ok oj a1] at a2;cases a2),ME oi oj ok a1 a2]
     rfl
    | false=>
     have a1:fj (fc c i) (fc c j)=false:=by simpa using h1
     have a2:fj (fc c j) (fc c k)=false:=by simpa using h2
     rw[if_neg (λz=>e1 (Dr oi oj a1 (by rw[z];exact a2))),tG oi oj ok a1 a2]
     rfl
theorem qo{c:List Wo}{up:Bool}{ns:List Nat}:(stp c up ns).Perm ns:=by
 have h:=(fT (b:=!up) (ks:=ns.map (fc c)) (aJ (ns.map (fc c)).length)).map λp=>ns.getD p 0
 rw[aH,range_getD] at h
 unfold stp iq
 rw[aH]
 exact h
theorem MF{c:List Wo}{up:Bool}{r:nT}{ns:List Nat}(h:ns.Pairwise λi j=>jD r i j=true):(stp c up ns).Pairwise λi j=>jD ((c,up)::r) i j=true:=by
 have Pd:∀k∈ns.map (fc c),jv k=true:=λk hk=>by
  obtain⟨i,_,rfl⟩:=List.mem_map.mp hk
  exact mZ c i
 have pw:=tH (b:=!up) Pd (aJ (ns.map (fc c)).length) tI
 have mem:∀p∈iq (!up) (ns.map (fc c)),p < ns.length:=λp hp=>by have:=oE hp;simpa using this
 unfold stp
 rw[ou]
 refine List.Pairwise.imp_of_mem (λ{p q} hp hq a=>?_) pw
 have lp:=mem p hp
 have lq:=mem q hq
 have gk:∀x,x < ns.length->(ns.map (fc c)).getD x kd=fc c (ns.getD x 0):=λx hx=>by simp[a_,hx]
 unfold jD
 have op:=mZ c (ns.getD p 0)
 have oq:=mZ c (ns.getD q 0)
 obtain⟨a1,a2⟩:=a
 unfold ltB at a1 a2
 rw[gk p lp,gk q lq] at a1 a2
 by_cases e:fc c (ns.getD p 0)=fc c (ns.getD q 0)
 ·rw[if_pos e]
  have hlt:p < q:=a2 (by rw[e,Hf _ oq];cases up<;>rfl)
  have:=List.pairwise_iff_getElem.mp h p q lp lq hlt
  simpa [a_,lp,lq] using this
 ·rw[if_neg e]
  cases up with
  | true=>
   have a1:fj (fc c (ns.getD q 0)) (fc c (ns.getD p 0))=false:=a1
   cases z:fj (fc c (ns.getD p 0)) (fc c (ns.getD q 0)) with
   | true=>rfl
   | false=>exact absurd (Dr op oq z a1) e
  | false=>
   have a1:fj (fc c (ns.getD p 0)) (fc c (ns.getD q 0))=false:=a1
   rw[a1];rfl
theorem m6(n:Nat):∀cs:nT,(uh n cs).Perm (aJ n)
 | []=> .refl _
 | (c,up)::r=>qo.trans (m6 n r)
theorem zg(n:Nat):∀cs:nT,(uh n cs).Pairwise λi j=>jD cs i j=true
 | []=>by
  unfold uh
  refine List.pairwise_lt_range.imp λh=>?_
  simpa [jD] using h
 | (c,up)::r=>MF (zg n r)
def Bc(cs:nT):List Nat->Bool
 | []=>true
 | [_]=>true
 | i::j::r=>jD cs i j&&Bc cs (j::r)
theorem uj{cs:nT}:∀ns:List Nat,Bc cs ns=true↔ns.Pairwise λi j=>jD cs i j=true
 | []=>by simp[Bc]
 | [i]=>by simp[Bc]
 | i::j::r=>by
  unfold Bc
  rw[cH,uj (j::r),fG (a:=i)]
  constructor
  ·rintro⟨h1,h2⟩
   refine⟨λk hk=>?_,h2⟩
   rcases List.mem_cons.mp hk with z | z
   ·rw[z];exact h1
   ·exact Er cs h1 ((List.pairwise_cons.mp h2).1 k z)
  ·rintro⟨h1,h2⟩
   exact⟨h1 j aI,h2⟩
theorem vQ{α β:Type}{ck:Hs->Prop}{gt:Wv->Hs->Re Bool}{ge:Wv->Hs->Re Wv}{rr:Nat}(f:α->Wv)(v:β->Wv)(E:β->α->Hs->Prop)(s0:Hs)(hck:∀st,bP rr s0 st->ck st)(mono:∀b a st st',E b a st->bP rr st st'->E b a st') :
  ∀(ws:List α),(∀a∈ws,∀st,bP rr s0 st->rr < st.length->gt (f a) st= .ok true st/\∃b st',ge (f a) st= .ok (v b) st'/\Gr st st'/\E b a st')->∀(acc:List Wv)(st:Hs),bP rr s0 st->st[rr]? =some (.lst acc)->acc.length+ws.length < lim->
   ∃bs st',fA ck gt ge rr (ws.map f) st=some st'/\st'[rr]? =some (.lst (acc++bs.map v))/\bP rr st st'/\Paired (λb a=>E b a st') bs ws
 | [],_,acc,st,_,hg,_=>⟨[],st,rfl,by simpa using hg,bP.refl,.nil⟩
 | a::t,h,acc,st,hk,hg,hl=>by
  have hl':acc.length+(t.length+1) < lim:=hl
  obtain⟨e0,b,s1,e1,g1,x1⟩:=h a aI st hk (jy hg)
  have yN:=g1.get hg
  have K1:bP rr st (s1.set rr (.lst (acc++[v b]))):=g1.keep.trans bP.set
  obtain⟨bs,s2,e2,g2,K2,p2⟩:=vQ f v E s0 hck mono t (λa ha=>h a (aD _ ha)) (acc++[v b]) (s1.set rr (.lst (acc++[v b]))) (hk.trans K1) (j0 yN) (by simp;omega)
  refine⟨b::bs,s2,?_,by simpa using g2,K1.trans K2,.cons (mono _ _ _ _ x1 (bP.set.trans K2)) p2⟩
  rw[aZ,fA,e0]
  dsimp only
  rw[e1]
  dsimp only
  rw[qg yN (by omega)]
  dsimp only
  rw[if_pos (hck _ (hk.trans K1))]
  exact e2
theorem vR{α β:Type}{ck:Hs->Prop}{gt:Wv->Hs->Re Bool}{ge:Wv->Hs->Re Wv}{rr:Nat}{c:PySem.Str}(f:α->Wv)(v:β->Wv)(s0:Hs)(hck:∀st,bP rr s0 st->ck st)(a:α)(post:List α) :
  ∀(pre:List α),(∀a∈pre,∀st,bP rr s0 st->rr < st.length->gt (f a) st= .ok true st/\∃b st',ge (f a) st= .ok (v b) st'/\Gr st st')->(∀st,bP rr s0 st->rr < st.length->gt (f a) st= .ok true st/\∃st',ge (f a) st= .err c st'/\Gr st st')->
   ∀(acc:List Wv)(st:Hs),bP rr s0 st->st[rr]? =some (.lst acc)->acc.length+pre.length < lim->fA ck gt ge rr ((pre++a::post).map f) st=none/\∃st',iF ck gt ge rr ((pre++a::post).map f) st= .err c st'/\bP rr st st'
 | [],_,h,acc,st,hk,hg,_=>by
  obtain⟨e0,s1,e1,g1⟩:=h st hk (jy hg)
  refine⟨?_,s1,?_,g1.keep⟩
  ·rw[nX,aZ,fA,e0];dsimp only;rw[e1]
  ·rw[nX,aZ,iF,e0];dsimp only;rw[e1]
 | x::t,hp,h,acc,st,hk,hg,hl=>by
  have hl':acc.length+(t.length+1) < lim:=hl
  obtain⟨e0,b,s1,e1,g1⟩:=hp x aI st hk (jy hg)
  have yN:=g1.get hg
  have K1:bP rr st (s1.set rr (.lst (acc++[v b]))):=g1.keep.trans bP.set
  obtain⟨q1,s2,q2,K2⟩:=vR f v s0 hck a post t (λa ha=>hp a (aD _ ha)) h (acc++[v b]) (s1.set rr (.lst (acc++[v b]))) (hk.trans K1) (j0 yN) (by simp;omega)
  refine⟨?_,s2,?_,K1.trans K2⟩
  ·rw[Dg,aZ,fA,e0];dsimp only;rw[e1];dsimp only;rw[qg yN (by omega)];dsimp only;rw[if_pos (hck _ (hk.trans K1))];exact q1
  ·rw[Dg,aZ,iF,e0];dsimp only;rw[e1];dsimp only;rw[qg yN (by omega)];dsimp only;rw[if_pos (hck _ (hk.trans K1))];exact q2
theorem qp{α β:Type}{F G:α->β->Prop}(h:∀a b,F a b->G a b):∀{l:List α}{k:List β},Paired F l k->Paired G l k
 | _,_,.nil=> .nil
 | _,_,.cons x t=> .cons (h _ _ x) (qp h t)
def i_(hs:List PySem.Str)(b:Nat×Bool):Wv:=.tup [.str (hs.getD b.1 ""),.int (if b.2 then 1 else -1)]
abbrev Qc:=Nat×(List Wo×Bool)
def kQ(q:Qc):Wv:=.tup [.ref q.1,.int (if q.2.2 then 1 else -1)]
section
variable {hs:List PySem.Str} {rows:List (List Wo)} {st:Hs}
theorem TZ(a:Wo):gZ [a.w] st= .ok (dF a) st:=by
 refine dv (n:=1) (g:=gY) ?_
 have i:=V3 (st:=st) a
 have s:=aS (st:=st) a
 unfold gY
 cases a with
 | aP=>simp only[Wo.w,Wo.nn,Wo.Mt] at i s ⊢;simp[i,dF]
 | int n=>simp only[Wo.w,Wo.nn,Wo.Mt] at i s ⊢;simp[i,s,dF]
 | str z=>simp only[Wo.w,Wo.nn,Wo.Mt] at i s ⊢;simp[i,s,dF]
theorem A2{l:Nat}{c:List Wo}{ρ:bA}(h:ai st l=some (c.map Wo.w))(hc:c.length<=1000):cY [] eQ dc ρ (some l,c.map Wo.w) st= .ok (.ref st.length) (st++[.lst (c.map dF)]):=by
 have q:=jZ (cs:=[]) (gt:=eQ) (ge:=dc) (ρ:=ρ) (w:=(some l,c.map Wo.w)) (st:=st) (t:=λ_=>true) (f:=λw=>dF (TL w)) h
  (λv _ acc=>rfl) (λv hv _ acc=>by
   obtain⟨a,_,rfl⟩:=List.mem_map.mp hv
   unfold dc
   simp[cL,TZ,IH])
  (by show(c.map Wo.w).length < lim;rw[aH];unfold lim;omega)
 rw[show((some l,c.map Wo.w):Wk).2=c.map Wo.w from rfl,List.filter_eq_self.mpr (λ_ _=>rfl),bW] at q
 have e:(λw=>dF (TL w)) ∘ Wo.w=dF:=by funext a;simp[IH]
 rw[e] at q
 exact q
theorem uk{b:Nat}(h:b < hs.length):hs[b]? =some (hs.getD b ""):=by simp[a_,h]
theorem vS(T:Tb hs rows){b:Nat×Bool}(hb:b.1 < hs.length):∃st',a7 [some (i_ hs b),some (aX hs rows)] st= .ok (kQ (st.length+2,(col rows b.1,b.2))) st'/\Gr st st'/\st'[st.length+2]? =some (.lst ((col rows b.1).map dF)):=by
 have co:=column (st:=st) T (uk hb)
 obtain⟨s1,hs1⟩:∃s1,st++[Ob.lst (hs.map Wv.str),Ob.lst ((col rows b.1).map Wo.w)]=s1:=⟨_,rfl⟩
 rw[hs1] at co
 have l1:s1.length=st.length+2:=by rw[<-hs1];simp
 have k1:ai s1 (st.length+1)=some ((col rows b.1).map Wo.w):=aB (by rw[<-hs1];simp)
 have kc:=A2 (ρ:=[some (i_ hs b),some (aX hs rows)]) k1 (by unfold col;rw[aH];have:=T.rw';omega)
 have i0:∀st:Hs,cP (i_ hs b) (.int 0) st= .ok (.str (hs.getD b.1 "")) st:=λ_=>vF rfl
 have i1:∀st:Hs,cP (i_ hs b) (.int 1) st= .ok (.int (if b.2 then 1 else -1)) st:=λ_=>vF rfl
 refine⟨s1++[.lst ((col rows b.1).map dF)],?_,?_,?_⟩
 ·unfold a7
  simp[-a_,i0,i1,co,mU k1,kc,kQ,l1]
 ·rw[<-hs1];exact Gr.app.trans Gr.push
 ·rw[<-l1];exact cn
theorem columns(T:Tb hs rows){w:Wv}{o:Option Nat}{bs:List (Nat×Bool)}(hw:nr w st= .ok (o,bs.map (i_ hs)) st)(ho:fg (o,bs.map (i_ hs)) st)(hb:∀b∈bs,b.1 < hs.length)(hl:bs.length<=10) :
  ∃qs st',cF [aX hs rows,w] st= .ok (.ref st.length) st'/\st'[st.length]? =some (.lst (qs.map kQ))/\Gr st st'/\Paired (λ(q:Qc) b=>ai st' q.1=some (q.2.1.map dF)/\q.2=(col rows b.1,b.2)) qs bs:=by
 have T1:∀s,bP st.length (st++[.lst []]) s->fg (o,bs.map (i_ hs)) s:=λs K=>by
  cases o with
  | none=>trivial
  | some l=>
   have ho:ai st l=some (bs.map (i_ hs)):=ho
   exact K.lst (dI ho) (by have:=jx ho;omega)
 obtain⟨qs,s2,e2,g2,K2,p2⟩:=vQ (ck:=fg (o,bs.map (i_ hs))) (gt:=λv=>cx (some v::[some (aX hs rows)])) (ge:=λv=>a7 (some v::[some (aX hs rows)])) (rr:=st.length) (i_ hs) kQ
  (λ(q:Qc) b s=>ai s q.1=some (q.2.1.map dF)/\q.2=(col rows b.1,b.2)/\q.1≠st.length) (st++[.lst []]) T1 (λq b s s' ⟨h1,h2,h3⟩ K=>⟨K.lst h1 h3,h2,h3⟩) bs
  (λb hbm s K hr=>⟨rfl,by
   obtain⟨s',e,G,g⟩:=vS (st:=s) T (hb b hbm)
   exact⟨_,s',e,G,aB g,rfl,by show s.length+2≠st.length;omega⟩⟩) [] (st++[.lst []]) bP.refl cn (by simp[lim];omega)
 have cr:cY [("table",0)] cx a7 [some (aX hs rows),some w] (o,bs.map (i_ hs)) st= .ok (.ref st.length) s2:=by
  unfold cY
  have ec:cL [("table",0)] [some (aX hs rows),some w]=[some (aX hs rows)]:=rfl
  rw[ec,show((o,bs.map (i_ hs)):Wk).2=bs.map (i_ hs) from rfl,e2]
 refine⟨qs,s2,?_,by simpa using g2,?_,?_⟩
 ·refine dv (n:=2) (g:=de) ?_
  unfold de
  simp[hw,cr]
 ·exact bP.gr (ak _) (bP.push.trans K2)
 ·exact qp (λq b h=>⟨h.1,h.2.1⟩) p2
end
abbrev nW(ms:List Nat):List Wv:=ms.map λi=>Wv.int (i:Nat)
section
variable {hs:List PySem.Str} {rows:List (List Wo)} {st:Hs}
theorem xI{l i:Nat}{c:List Wo}(h:ai st l=some (c.map dF))(hi:i < c.length):cP (.ref l) (.int (i:Nat)) st= .ok (dF (c.getD i .aP)) st:=by
 refine vE h ?_
 rw[L2.fF (v:=(c.map dF)[i]'(by simpa using hi)) (cq _)]
 simp[hi]
theorem vT{lk:Nat}{c:List Wo}{gb:GE}(h:ai st lk=some (c.map dF))(hg:gb=ao cP (ag 1) (ag 0)):∀{ms:List Nat},(∀i∈ms,i < c.length)->lV gb (.ref lk) st (nW ms)=some ((ms.map λi=>c.getD i .aP).map dF)
 | [],_=>rfl
 | i::r,hm=>by
  have e:gb [some (.int (i:Nat)),some (.ref lk)] st= .ok (dF (c.getD i .aP)) st:=by
   rw[hg]
   simp[-a_,xI h (hm i aI)]
  have ih:=vT h hg (ms:=r) λj hj=>hm j (aD _ hj)
  show lV gb (.ref lk) st (.int (i:Nat)::nW r)=_
  unfold lV
  rw[e]
  dsimp only
  rw[if_pos rfl,ih]
  rfl
theorem Hg{ms:List Nat}{p:Nat}(h:p < ms.length):(nW ms).getD p .aP= .int ((ms.getD p 0:Nat):Int):=by simp[a_,h]
theorem zh{b:Bool}{ln lk:Nat}{ms:List Nat}{c:List Wo}{gb:GE}(h1:ai st ln=some (nW ms))(h2:ai st lk=some (c.map dF))(hg:gb=ao cP (ag 1) (ag 0))(hm:∀i∈ms,i < c.length)(hl:ms.length < 64) :
  AE b gb (some (some (.ref lk))) (.ref ln) st= .ok (.ref st.length) (st++[.lst (nW (stp c (!b) ms))]):=by
 have e1:=vT (ms:=ms) h2 hg hm
 have e2:=ze (ms.map λi=>c.getD i .aP)
 have l1:(nW ms).length < 64:=by simpa using hl
 have e3:(ms.map λi=>c.getD i .aP).map fo=ms.map (fc c):=by rw[bW];rfl
 rw[e3] at e2
 unfold AE
 dsimp only
 rw[h1]
 dsimp only
 rw[if_pos l1,e1]
 dsimp only
 rw[e2]
 dsimp only
 congr 3
 unfold stp
 rw[Bool.not_not]
 show Ob.lst _=Ob.lst (((iq b (ms.map (fc c))).map λp=>ms.getD p 0).map λi=>Wv.int (i:Nat))
 rw[bW]
 congr 1
 refine pW λp hp=>?_
 have:=oE hp
 rw[aH] at this
 exact Hg this
theorem ordered{ln lk:Nat}{ms:List Nat}{c:List Wo}{up:Bool}(h1:ai st ln=some (nW ms))(h2:ai st lk=some (c.map dF))(hm:∀i∈ms,i < c.length)(hl:ms.length < 64) :
  j7 [.ref ln,.ref lk,.int (if up then 1 else -1)] st= .ok (.ref st.length) (st++[.lst (nW (stp c up ms))]):=by
 refine dv (n:=3) (g:=j6) ?_
 have s1:=zh (b:=false) (gb:=l_) h1 h2 rfl hm hl
 have s2:=zh (b:=true) (gb:=l5) h1 h2 rfl hm hl
 unfold j6 rO
 cases up with
 | true=>simp[s1]
 | false=>simp[s2]
theorem vU{lc:Nat}{all:List Wv}{n:Nat}{o1 o2:Option Wv}:∀(rs:List Qc)(ms:List Nat)(ln:Nat)(o4 o5:Option Wv)(st:Hs),(∀q∈rs,ai st q.1=some (q.2.1.map dF)/\q.2.1.length=n)->ai st lc=some all->st[ln]? =some (.lst (nW ms))->(∀i∈ms,i < n)->ms.length < 64->
  ∃ln' p4 p5 st',pP [4,5] e_ (some (lc,all)) (rs.map kQ) [o1,o2,some (.ref lc),some (.ref ln),o4,o5] st= .nx [o1,o2,some (.ref lc),some (.ref ln'),p4,p5] st'/\st'[ln']? =some (.lst (nW (rs.foldl (λms q=>stp q.2.1 q.2.2 ms) ms)))/\Gr st st'/\(ln'=ln\/st.length<=ln')
 | [],ms,ln,o4,o5,st,_,_,hg,_,_=>⟨ln,o4,o5,st,rfl,hg,Gr.refl,.inl rfl⟩
 | q::rs,ms,ln,o4,o5,st,hq,hc,hg,hm,hl=>by
  obtain⟨k1,n1⟩:=hq q aI
  have s:=ordered (up:=q.2.2) (aB hg) k1 (λi hi=>by rw[n1];exact hm i hi) hl
  have mem:∀i∈stp q.2.1 q.2.2 ms,i < n:=λi hi=>hm i (qo.mem_iff.mp hi)
  have len:(stp q.2.1 q.2.2 ms).length < 64:=by rw[qo.length_eq];exact hl
  have G:Gr st (st++[.lst (nW (stp q.2.1 q.2.2 ms))]):=Gr.push
  obtain⟨ln',p4,p5,st',e,g,G',hn⟩:=vU (lc:=lc) (all:=all) (n:=n) (o1:=o1) (o2:=o2) rs (stp q.2.1 q.2.2 ms) st.length (some (.ref q.1)) (some (.int (if q.2.2 then 1 else -1))) (st++[.lst (nW (stp q.2.1 q.2.2 ms))]) (λr hr=>⟨G.lst (hq r (aD _ hr)).1,(hq r (aD _ hr)).2⟩) (G.lst hc) cn mem len
  refine⟨ln',p4,p5,st',?_,g,G.trans G',.inr ?_⟩
  ·have bd:KS [4,5] (kQ q) [o1,o2,some (.ref lc),some (.ref ln),o4,o5]=some [o1,o2,some (.ref lc),some (.ref ln),some (.ref q.1),some (.int (if q.2.2 then 1 else -1))]:=rfl
   have bo:e_ [o1,o2,some (.ref lc),some (.ref ln),some (.ref q.1),some (.int (if q.2.2 then 1 else -1))] st= .nx [o1,o2,some (.ref lc),some (.ref st.length),some (.ref q.1),some (.int (if q.2.2 then 1 else -1))] (st++[.lst (nW (stp q.2.1 q.2.2 ms))]):=by
    unfold e_
    simp[s]
   rw[aZ,pP,bd]
   dsimp only
   rw[bo]
   dsimp only
   rw[if_pos (show qJ (some (lc,all)) _ from G.lst hc)]
   exact e
  ·rcases hn with z | z
   ·rw[z];exact ak _
   ·have:=G.1;omega
theorem rX{n:Nat}:∀qs:List Qc,qs.reverse.foldl (λms q=>stp q.2.1 q.2.2 ms) (aJ n)=uh n (qs.map (·.2))
 | []=>rfl
 | q::r=>by
  rw[oB,List.foldl_append,rX r]
  rfl
def bB(rows:List (List Wo))(bs:List (Nat×Bool)):nT:=bs.map λb=>(col rows b.1,b.2)
theorem jE{st:Hs}{rows:List (List Wo)}:∀{qs:List Qc}{bs:List (Nat×Bool)},Paired (λ(q:Qc) b=>ai st q.1=some (q.2.1.map dF)/\q.2=(col rows b.1,b.2)) qs bs->qs.map (·.2)=bB rows bs/\∀q∈qs,ai st q.1=some (q.2.1.map dF)/\q.2.1.length=rows.length
 | _,_,.nil=>⟨rfl,λ_ h=>by cases h⟩
 | _,_,.cons (a:=q) (b:=b) h t=>by
  obtain⟨i1,i2⟩:=jE t
  refine⟨by unfold bB at *;rw[aZ,aZ,i1,h.2],λr hr=>?_⟩
  rcases List.mem_cons.mp hr with z | z
  ·rw[z];exact⟨h.1,by rw[h.2];unfold col;simp⟩
  ·exact i2 r z
theorem iG:eJ [.tup (rows.map gG)] st= .ok (.int (rows.length:Int)) st:=by
 have:eJ [.tup (rows.map gG)] st= .ok (.int ((rows.map gG).length:Int)) st:=rfl
 rw[this,aH]
theorem qr(h:rows.length<=12):nB [.int (rows.length:Int)] st= .ok (.ref st.length) (st++[.lst (nW (aJ rows.length))]):=by
 unfold nB
 dsimp only
 rw[if_pos ⟨by omega,by omega⟩]
 simp
theorem vV(T:Tb hs rows){w:Wv}{o:Option Nat}{bs:List (Nat×Bool)}(hw:nr w st= .ok (o,bs.map (i_ hs)) st)(ho:fg (o,bs.map (i_ hs)) st)(hb:∀b∈bs,b.1 < hs.length)(hl:bs.length<=10) :
  ∃l st',cS [aX hs rows,w] st= .ok (.ref l) st'/\st'[l]? =some (.lst (nW (uh rows.length (bB rows bs))))/\st.length<=l/\Gr st st':=by
 obtain⟨qs,s1,e1,g1,G1,p1⟩:=columns (st:=st) T hw ho hb hl
 obtain⟨c1,c2⟩:=jE p1
 have lr:=qr (st:=s1) T.rw'
 obtain⟨s2,hs2⟩:∃s2,s1++[Ob.lst (nW (aJ rows.length))]=s2:=⟨_,rfl⟩
 rw[hs2] at lr
 have G2:Gr s1 s2:=by rw[<-hs2];exact Gr.push
 have g2:s2[s1.length]? =some (.lst (nW (aJ rows.length))):=by rw[<-hs2];exact cn
 have k2:=G2.lst (aB g1)
 have rv:Gx [.ref st.length] s2= .ok (some (st.length,qs.map kQ),(qs.map kQ).reverse) s2:=by
  unfold Gx
  simp only[k2]
 obtain⟨ln,p4,p5,s3,e3,g3,G3,hn⟩:=vU (lc:=st.length) (all:=qs.map kQ) (n:=rows.length) (o1:=some (aX hs rows)) (o2:=some w) qs.reverse (aJ rows.length) s1.length none none s2 (λq hq=>⟨G2.lst (c2 q (List.mem_reverse.mp hq)).1,(c2 q (List.mem_reverse.mp hq)).2⟩) k2 g2 (λi hi=>List.mem_range.mp hi) (by rw[List.length_range];have:=T.rw';omega)
 rw[rX,c1] at g3
 rw[oD] at e3
 refine⟨ln,s3,?_,g3,?_,G1.trans (G2.trans G3)⟩
 ·refine dv (n:=6) (g:=eR) ?_
  unfold eR yC tJ
  simp[-oD,e1,EI,iG,lr,rv,e3]
 ·have:=G1.1
  have:=G2.1
  rcases hn with z | z
  ·omega
  ·omega
end
theorem jF{st:Hs}{n:Nat}:∀l:List Int,jb (bM st (n+1)) (l.map Wv.int)=some (l.map j8)
 | []=>rfl
 | i::r=>by
  rw[aZ]
  unfold jb
  rw[jF r]
  rfl
theorem kR:∀a b:List Int,me (a.map j8) (b.map j8)=decide (a=b)
 | [],[]=>by simp[me]
 | [],_::_=>by simp[me]
 | _::_,[]=>by simp[me]
 | i::a,j::b=>by
  have ih:=kR a b
  simp only[aZ,me,ih]
  rw[Ek]
  simp[jM]
theorem um{st:Hs}{a b:Nat}{xs ys:List Int}(h:ai st a=some (xs.map Wv.int))(k:ai st b=some (ys.map Wv.int)):uF (.ref a) (.ref b) st= .ok (.bl (!decide (xs=ys))) st:=by
 have d1:bM st 20 (.ref a)=some (.list (xs.map j8)):=by rw[y_ (n:=19) h,jF];rfl
 have d2:bM st 20 (.ref b)=some (.list (ys.map j8)):=by rw[y_ (n:=19) k,jF];rfl
 unfold uF
 rw[d1,d2]
 dsimp only
 congr 3
 simp[jM,kR]
section
variable {hs:List PySem.Str} {rows:List (List Wo)} {st:Hs}
theorem V7(a b:Wo):uF (dF a) (dF b) st= .ok (.bl (!decide (fo a=fo b))) st:=by
 cases a<;>cases b<;>(show Re.ok (Wv.bl (!PyData.eqv _ _)) st=_;simp[jM,me,fo];try (rw[Ek];simp))
theorem XY(a b:Wo):oLt (dF a) (dF b) st= .ok (.bl (fj (fo a) (fo b))) st:=by
 cases a with
 | aP=>
  cases b with
  | aP=>rfl
  | int j=>rfl
  | str y=>rfl
 | int i=>
  cases b with
  | aP=>rfl
  | int j=>
   show Re.ok (Wv.bl (HT.lexLt [0,i] [0,j])) st=_
   congr 2
   by_cases e:i=j
   ·subst e;simp[HT.lexLt,fo,fj]
   ·simp[HT.lexLt,fo,fj,e]
  | str y=>rfl
 | str x=>
  cases b with
  | aP=>rfl
  | int j=>rfl
  | str y=>
   show GB [.int 1,.str x] [.int 1,.str y] st=_
   unfold GB
   by_cases e:x=y
   ·subst e
    have z:xh x x=false:=by
     cases q:xh x x with
     | false=>rfl
     | true=>have:=xi q;rw[q] at this;cases this
    simp[lX,vZ,mQ,fo,fj,z]
   ·simp[lX,vZ,mQ,fo,fj,e,Qx]
theorem Hh(up:Bool):((if up then(1:Int) else -1) == 1)=up:=by cases up<;>rfl
theorem zi(up:Bool):decide ((0:Int) < (if up then(1:Int) else -1))=up:=by cases up<;>rfl
theorem zj{lc i j:Nat}{all:List Wv}(hc:ai st lc=some all):∀(rs:List Qc)(o3 o4:Option Wv),(∀q∈rs,ai st q.1=some (q.2.1.map dF)/\i < q.2.1.length/\j < q.2.1.length)->
  gN [3,4] bJ lc all (rs.map kQ) [some (.ref lc),some (.int (i:Nat)),some (.int (j:Nat)),o3,o4] st= .rt (.bl (jD (rs.map (·.2)) i j)) st\/
   ((∃p3 p4,gN [3,4] bJ lc all (rs.map kQ) [some (.ref lc),some (.int (i:Nat)),some (.int (j:Nat)),o3,o4] st= .nx [some (.ref lc),some (.int (i:Nat)),some (.int (j:Nat)),p3,p4] st)/\jD (rs.map (·.2)) i j=decide (i < j))
 | [],o3,o4,_=> .inr ⟨⟨o3,o4,rfl⟩,rfl⟩
 | q::rs,o3,o4,h=>by
  obtain⟨k,hi,hj⟩:=h q aI
  have i1:=xI k hi
  have j1:=xI k hj
  have bd:KS [3,4] (kQ q) [some (.ref lc),some (.int (i:Nat)),some (.int (j:Nat)),o3,o4]=some [some (.ref lc),some (.int (i:Nat)),some (.int (j:Nat)),some (.ref q.1),some (.int (if q.2.2 then 1 else -1))]:=rfl
  have ea:jD ((q::rs).map (·.2)) i j=if fc q.2.1 i=fc q.2.1 j then jD (rs.map (·.2)) i j else(fj (fc q.2.1 i) (fc q.2.1 j) == q.2.2):=rfl
  by_cases e:fc q.2.1 i=fc q.2.1 j
  ·have bo:bJ [some (.ref lc),some (.int (i:Nat)),some (.int (j:Nat)),some (.ref q.1),some (.int (if q.2.2 then 1 else -1))] st= .nx [some (.ref lc),some (.int (i:Nat)),some (.int (j:Nat)),some (.ref q.1),some (.int (if q.2.2 then 1 else -1))] st:=by
    have e':fo (q.2.1.getD i .aP)=fo (q.2.1.getD j .aP):=e
    unfold bJ
    simp[-a_,i1,j1,V7,e']
   rw[ea,if_pos e,aZ,gN,bd]
   dsimp only
   rw[bo]
   dsimp only
   rw[if_pos hc]
   exact zj hc rs _ _ λr hr=>h r (aD _ hr)
  ·left
   have bo:bJ [some (.ref lc),some (.int (i:Nat)),some (.int (j:Nat)),some (.ref q.1),some (.int (if q.2.2 then 1 else -1))] st= .rt (.bl (fj (fc q.2.1 i) (fc q.2.1 j) == q.2.2)) st:=by
    have e':¬fo (q.2.1.getD i .aP)=fo (q.2.1.getD j .aP):=e
    unfold bJ
    simp[-a_,i1,j1,V7,XY,e',Hh,fc]
   rw[ea,if_neg e,aZ,gN,bd]
   dsimp only
   rw[bo]
theorem goes{lc i j:Nat}{qs:List Qc}(hc:ai st lc=some (qs.map kQ))(h:∀q∈qs,ai st q.1=some (q.2.1.map dF)/\i < q.2.1.length/\j < q.2.1.length):dZ [.ref lc,.int (i:Nat),.int (j:Nat)] st= .ok (.bl (jD (qs.map (·.2)) i j)) st:=by
 refine dv (n:=5) (g:=fM) ?_
 have gl:=zj (i:=i) (j:=j) hc qs none none h
 unfold fM rC
 rcases gl with e | ⟨⟨p3,p4,e⟩,ea⟩
 ·simp[hc,e]
 ·simp[hc,e,ea]
theorem rank(a:Wo):cU [a.w] st= .ok (.int (fo a).1) st:=by
 refine dv (n:=1) (g:=hU) ?_
 have i:=V3 (st:=st) a
 have s:=aS (st:=st) a
 have b:∀(b:Bool)(st:Hs),yt [.bl b] st= .ok (.int (if b=true then 1 else 0)) st:=λ_ _=>rfl
 unfold hU
 cases a with
 | aP=>simp only[Wo.w,Wo.nn,Wo.Mt] at i s ⊢;simp[i,fo]
 | int n=>simp only[Wo.w,Wo.nn,Wo.Mt] at i s ⊢;simp[i,s,b,fo]
 | str z=>simp only[Wo.w,Wo.nn,Wo.Mt] at i s ⊢;simp[i,s,b,fo]
theorem T3(a b:Wo):uF a.w b.w st= .ok (.bl (!decide (fo a=fo b))) st:=by
 cases a<;>cases b<;>(show Re.ok (Wv.bl (!PyData.eqv _ _)) st=_;simp[jM,fo];try (rw[Ek];simp))
theorem XZ{a b:Wo}(h:(fo a).1=(fo b).1)(n:fo a≠fo b):oLt a.w b.w st= .ok (.bl (fj (fo a) (fo b))) st:=by
 cases a with
 | aP=>cases b<;>first | exact absurd rfl n | (simp[fo] at h)
 | int i=>cases b with
  | int j=>show Re.ok (Wv.bl (decide (i < j))) st=_;simp[fo,fj]
  | _=>simp[fo] at h
 | str x=>cases b with
  | str y=>show Re.ok (Wv.bl (decide (x.cps.toList < y.cps.toList))) st=_;simp[fo,fj,xh]
  | _=>simp[fo] at h
theorem PQ{a b:Wo}(h:(fo a).1≠(fo b).1):decide ((fo a).1 < (fo b).1)=fj (fo a) (fo b):=by
 cases a<;>cases b<;>simp[fo,fj] at *
theorem Es{i:Nat}(hi:i < rows.length):cP (.tup (rows.map gG)) (.int (i:Nat)) st= .ok (gG (rows.getD i [])) st:=by
 refine vF ?_
 rw[L2.fF (v:=(rows.map gG)[i]'(by simpa using hi)) (cq _)]
 simp[hi]
theorem zk(T:Tb hs rows){b i:Nat}(hb:b < hs.length)(hi:i < rows.length):cP (gG (rows.getD i [])) (.int (b:Nat)) st= .ok ((col rows b).getD i .aP).w st:=by
 have hr:rows.getD i []∈rows:=by
  have e:rows.getD i []=rows[i]:=by simp[a_,hi]
  rw[e];exact pK hi
 rw[Em (show b < (rows.getD i []).length by rw[T.wd _ hr];exact hb),ql]
 congr 2
 unfold col
 simp[a_,hi]
theorem MG{b:Nat}{o1 o2 o3 o5 o6 o7 o8:Option Wv}(T:Tb hs rows)(hb:b < hs.length):qH (pI mL (ao cP (ag 0) (gC (.int 0))) (ae (ag 4) aq)) (pQ jW (ao cP (ag 0) (gC (.int 0))) (ag 4)) [some (aX hs rows),o1,o2,o3,some (.str (hs.getD b "")),o5,o6,o7,o8] st= .ok (.int (b:Nat)) st:=by
 have z:∀ga ρ st,xA mL ga ρ (.tup (hs.map Wv.str)) st= .bad:=λ_ _ _=>rfl
 rw[Eh (by simp[M8,z,Re.bind])]
 have ti:=Mu (st:=st) T.nd (uk hb)
 unfold pQ
 simp[-a_,M8,ti]
theorem zl(T:Tb hs rows){lb i j:Nat}{all:List Wv}(hc:ai st lb=some all)(hi:i < rows.length)(hj:j < rows.length):∀(rs:List (Nat×Bool))(o4 o5 o6 o7 o8:Option Wv),(∀b∈rs,b.1 < hs.length)->
  gN [4,5] bK lb all (rs.map (i_ hs)) [some (aX hs rows),some (.ref lb),some (.int (i:Nat)),some (.int (j:Nat)),o4,o5,o6,o7,o8] st= .rt (.bl (jD (bB rows rs) i j)) st\/
   ((∃p4 p5 p6 p7 p8,gN [4,5] bK lb all (rs.map (i_ hs)) [some (aX hs rows),some (.ref lb),some (.int (i:Nat)),some (.int (j:Nat)),o4,o5,o6,o7,o8] st= .nx [some (aX hs rows),some (.ref lb),some (.int (i:Nat)),some (.int (j:Nat)),p4,p5,p6,p7,p8] st)/\jD (bB rows rs) i j=decide (i < j))
 | [],o4,o5,o6,o7,o8,_=> .inr ⟨⟨o4,o5,o6,o7,o8,rfl⟩,rfl⟩
 | b::rs,o4,o5,o6,o7,o8,h=>by
  have hb:=h b aI
  have bd:KS [4,5] (i_ hs b) [some (aX hs rows),some (.ref lb),some (.int (i:Nat)),some (.int (j:Nat)),o4,o5,o6,o7,o8]=some [some (aX hs rows),some (.ref lb),some (.int (i:Nat)),some (.int (j:Nat)),some (.str (hs.getD b.1 "")),some (.int (if b.2 then 1 else -1)),o6,o7,o8]:=rfl
  have ea:jD (bB rows (b::rs)) i j=if fc (col rows b.1) i=fc (col rows b.1) j then jD (bB rows rs) i j else(fj (fc (col rows b.1) i) (fc (col rows b.1) j) == b.2):=rfl
  obtain⟨x,hx⟩:∃x,(col rows b.1).getD i .aP=x:=⟨_,rfl⟩
  obtain⟨y,hy⟩:∃y,(col rows b.1).getD j .aP=y:=⟨_,rfl⟩
  have al:=MG (st:=st) (o1:=some (.ref lb)) (o2:=some (.int (i:Nat))) (o3:=some (.int (j:Nat))) (o5:=some (.int (if b.2 then 1 else -1))) (o6:=o6) (o7:=o7) (o8:=o8) T hb
  have r1:=Es (st:=st) hi
  have r2:=Es (st:=st) hj
  have c1:=zk (st:=st) T hb hi
  have c2:=zk (st:=st) T hb hj
  rw[hx] at c1
  rw[hy] at c2
  have ki:fc (col rows b.1) i=fo x:=by unfold fc;rw[hx]
  have kj:fc (col rows b.1) j=fo y:=by unfold fc;rw[hy]
  rw[ki,kj] at ea
  by_cases e:fo x=fo y
  ·have bo:bK [some (aX hs rows),some (.ref lb),some (.int (i:Nat)),some (.int (j:Nat)),some (.str (hs.getD b.1 "")),some (.int (if b.2 then 1 else -1)),o6,o7,o8] st= .nx [some (aX hs rows),some (.ref lb),some (.int (i:Nat)),some (.int (j:Nat)),some (.str (hs.getD b.1 "")),some (.int (if b.2 then 1 else -1)),some (.int (b.1:Nat)),some x.w,some y.w] st:=by
    unfold bK
    simp[-a_,al,EI,r1,r2,c1,c2,T3,e]
   rw[ea,if_pos e,aZ,gN,bd]
   dsimp only
   rw[bo]
   dsimp only
   rw[if_pos hc]
   exact zl T hc hi hj rs _ _ _ _ _ λr hr=>h r (aD _ hr)
  ·left
   have bo:bK [some (aX hs rows),some (.ref lb),some (.int (i:Nat)),some (.int (j:Nat)),some (.str (hs.getD b.1 "")),some (.int (if b.2 then 1 else -1)),o6,o7,o8] st= .rt (.bl (fj (fo x) (fo y) == b.2)) st:=by
    unfold bK
    by_cases er:(fo x).1=(fo y).1
    ·simp[-a_,al,EI,r1,r2,c1,c2,T3,e,rank,er,XZ er e,zi]
    ·have Sf:((fo x).1 == (fo y).1)=false:=by simpa using er
     simp[-a_,al,EI,r1,r2,c1,c2,T3,e,rank,Sf,PQ er,zi]
   rw[ea,if_neg e,aZ,gN,bd]
   dsimp only
   rw[bo]
theorem A3(T:Tb hs rows){lb i j:Nat}{bs:List (Nat×Bool)}(hc:ai st lb=some (bs.map (i_ hs)))(hb:∀b∈bs,b.1 < hs.length)(hi:i < rows.length)(hj:j < rows.length):fP [aX hs rows,.ref lb,.int (i:Nat),.int (j:Nat)] st= .ok (.bl (jD (bB rows bs) i j)) st:=by
 refine dv (n:=9) (g:=fO) ?_
 have gl:=zl (st:=st) T hc hi hj bs none none none none none hb
 unfold fO rC
 rcases gl with e | ⟨⟨p4,p5,p6,p7,p8,e⟩,ea⟩
 ·simp[hc,e]
 ·simp[hc,e,ea]
end
def rI(n:Nat):List Int:=(aJ n).map λi=>((i:Nat):Int)
def iB(cs:nT)(n:Nat)(xs:List Int):Bool:=decide (gE xs=rI n)&&Bc cs (xs.map kT)
theorem PR(n:Nat):(rI n).map Wv.int=nW (aJ n):=by unfold rI;rw[bW];rfl
theorem Et{xs:List Int}{n:Nat}(h:gE xs=rI n):(∀i∈xs.map kT,i < n)/\xs.map Wv.int=nW (xs.map kT):=by
 have p:=fR xs
 rw[h] at p
 have m:∀x∈xs,∃k:Nat,x=(k:Int)/\k < n:=λx hx=>by
  have:=p.mem_iff.mpr hx
  unfold rI at this
  obtain⟨k,hk,rfl⟩:=List.mem_map.mp this
  exact⟨k,rfl,List.mem_range.mp hk⟩
 refine⟨λi hi=>?_,?_⟩
 ·obtain⟨x,hx,rfl⟩:=List.mem_map.mp hi
  obtain⟨k,rfl,hk⟩:=m x hx
  simpa using hk
 ·show _=(xs.map kT).map λi=>Wv.int (i:Nat)
  rw[bW]
  refine pW λx hx=>?_
  obtain⟨k,rfl,_⟩:=m x hx
  simp
theorem zm:∀bs:List Bool,lO (bs.map Wv.bl)=some bs
 | []=>rfl
 | b::r=>by
  rw[aZ]
  unfold lO
  rw[zm r]
theorem MH{l:Nat}{bs:List Bool}{st:Hs}(h:ai st l=some (bs.map Wv.bl)):CC [.ref l] st= .ok (.bl (bs.all id)) st:=by
 show(match ai st l with | some ws=>(match lO ws with | some bs=>Re.ok (Wv.bl (bs.all id)) st | none=> .bad) | none=> .bad)=_
 rw[h]
 dsimp only
 rw[zm]
theorem xJ{l:Nat}{xs:List Int}{st:Hs}(h:ai st l=some (xs.map Wv.int))(hl:xs.length < 64):jr [.ref l] st= .ok (.ref st.length) (st++[.lst ((gE xs).map Wv.int)]):=by
 have o:=PF h (show xs.length < 64 by omega)
 unfold jr
 simp only[h]
 match xs,h,o with
 | [],h,o=>rfl
 | [x],h,o=>rfl
 | x::y::r,h,o=>
  rw[if_neg (by simp)]
  exact o
section
variable {hs:List PySem.Str} {rows:List (List Wo)} {st:Hs}
theorem Eu:∀(a b:List Nat),fh (nW a) (nW b)=(a.zip b).map λp=>Wv.tup [.int (p.1:Nat),.int (p.2:Nat)]
 | [],b=>rfl
 | a::r,[]=>rfl
 | a::r,b::t=>by
  have:=Eu r t
  unfold fh at this ⊢
  simp only[nW,aZ,List.zipWith_cons_cons,lh] at this ⊢
  rw[this]
theorem zo{cs:nT}:∀ms:List Nat,((ms.zip (ms.drop 1)).map λp=>jD cs p.1 p.2).all id=Bc cs ms
 | []=>rfl
 | [i]=>rfl
 | i::j::r=>by
  have:=zo (cs:=cs) (j::r)
  unfold Bc
  rw[<-this]
  rfl
theorem PU{xs:List Int}:iE (xs.map Wv.int) (some 1) none=(xs.drop 1).map Wv.int:=by
 have i1:HT.cu (xs.map Wv.int).length 0 (some 1)=min 1 xs.length:=by
  unfold HT.cu
  simp
 have i2:HT.cu (xs.map Wv.int).length (xs.map Wv.int).length none=xs.length:=by
  unfold HT.cu
  simp
 unfold iE
 rw[i1,i2,<-mV]
 cases xs with
 | nil=>rfl
 | cons x r=>
  have:min 1 (x::r).length=1:=by simp
  rw[this,jS (by simp)]
theorem nL(T:Tb hs rows){w:Wv}{o:Option Nat}{bs:List (Nat×Bool)}{ln:Nat}{xs:List Int}(hw:nr w st= .ok (o,bs.map (i_ hs)) st)(ho:fg (o,bs.map (i_ hs)) st)(hb:∀b∈bs,b.1 < hs.length)(hl:bs.length<=10)(hx:st[ln]? =some (.lst (xs.map Wv.int)))(lx:xs.length < 64) :
  ∃st',bS [aX hs rows,w,.ref ln] st= .ok (.bl (iB (bB rows bs) rows.length xs)) st'/\Gr st st':=by
 obtain⟨qs,s1,e1,g1,G1,p1⟩:=columns (st:=st) T hw ho hb hl
 obtain⟨c1,c2⟩:=jE p1
 have sr:=xJ (st:=s1) (aB (G1.get hx)) lx
 obtain⟨s2,hs2⟩:∃s2,s1++[Ob.lst ((gE xs).map Wv.int)]=s2:=⟨_,rfl⟩
 rw[hs2] at sr
 have G2:Gr s1 s2:=by rw[<-hs2];exact Gr.push
 have k2:ai s2 s1.length=some ((gE xs).map Wv.int):=by rw[<-hs2];exact az
 have lr:=qr (st:=s2) T.rw'
 obtain⟨s3,om⟩:∃s3,s2++[Ob.lst (nW (aJ rows.length))]=s3:=⟨_,rfl⟩
 rw[om] at lr
 have G3:Gr s2 s3:=by rw[<-om];exact Gr.push
 have k3:ai s3 s2.length=some ((rI rows.length).map Wv.int):=by rw[PR,<-om];exact az
 have ne:=um (G3.lst k2) k3
 by_cases c:gE xs=rI rows.length
 ·obtain⟨m1,m2⟩:=Et c
  have g3:s3[ln]? =some (.lst (xs.map Wv.int)):=(G1.trans (G2.trans G3)).get hx
  have sl:=vG (lo:=some 1) (hi:=none) (aB g3)
  rw[PU] at sl
  obtain⟨s4,Ep⟩:∃s4,s3++[Ob.lst ((xs.drop 1).map Wv.int)]=s4:=⟨_,rfl⟩
  rw[Ep] at sl
  have G4:Gr s3 s4:=by rw[<-Ep];exact Gr.push
  have g4:s4[s3.length]? =some (.lst ((xs.drop 1).map Wv.int)):=by rw[<-Ep];exact cn
  have iw:∀ys:List Int,bO (ys.map Wv.int)=some ys:=λys=>by
   induction ys with
   | nil=>rfl
   | cons y r ih=>rw[aZ,bO,ih];rfl
  obtain⟨s5,M9⟩:∃s5,s4.set s3.length (.nZ (xs.drop 1))=s5:=⟨_,rfl⟩
  have G5:Gr s3 s5:=by rw[<-M9];exact G4.tW (ak _) bP.set
  have zw:yP [.ref ln,.ref s3.length] s4= .ok (some (ln,xs.map Wv.int),fh (xs.map Wv.int) ((xs.drop 1).map Wv.int)) s5:=by
   unfold yP
   simp only[G4.get g3,g4,iw,M9]
   rw[if_pos (by have:=jy g3;omega)]
  have d1:(xs.drop 1).map Wv.int=nW ((xs.map kT).drop 1):=by rw[mV,m2,<-mV]
  obtain⟨ms,hms⟩:∃ms,xs.map kT=ms:=⟨_,rfl⟩
  have zz:fh (xs.map Wv.int) ((xs.drop 1).map Wv.int)=(ms.zip (ms.drop 1)).map λp=>Wv.tup [.int (p.1:Nat),.int (p.2:Nat)]:=by rw[d1,m2,hms,Eu]
  have lm:ms.length=xs.length:=by rw[<-hms,aH]
  have k5:ai s5 st.length=some (qs.map kQ):=(G2.trans (G3.trans G5)).lst (aB g1)
  have ga:∀(acc:List Wv)(i j:Nat),i∈ms->j∈ms->dZ [.ref st.length,.int (i:Nat),.int (j:Nat)] (s5++[.lst acc])= .ok (.bl (jD (bB rows bs) i j)) (s5++[.lst acc]):=λacc i j hi hj=>by
   rw[<-c1]
   rw[hms] at m1
   exact goes (dI k5) λq hq=>⟨dI ((G2.trans (G3.trans G5)).lst (c2 q hq).1),by rw[(c2 q hq).2];exact m1 i hi,by rw[(c2 q hq).2];exact m1 j hj⟩
  have q:=xF (n:=2) (cs:=[("columns",3)]) (gt:=d0) (ge:=cM) (ρ:=[some (aX hs rows),some w,some (.ref ln),some (.ref st.length)]) (w:=(some (ln,xs.map Wv.int),fh (xs.map Wv.int) ((xs.drop 1).map Wv.int))) (st:=s5) (t:=λ_=>true)
   (f:=λv=>match v with | .tup [.int i,.int j]=> .bl (jD (bB rows bs) i.toNat j.toNat) | _=> .aP) (G5.lst (aB g3))
   (λv hv=>by
    have hv:v∈fh (xs.map Wv.int) ((xs.drop 1).map Wv.int):=hv
    rw[zz] at hv
    obtain⟨p,hp,rfl⟩:=List.mem_map.mp hv
    refine⟨[.int (p.1:Nat),.int (p.2:Nat)],rfl,λacc=>rfl,λ_ acc=>?_⟩
    have hz:=sj (a:=p.1) (b:=p.2) hp
    unfold cM
    simp[cL,ga acc p.1 p.2 hz.1 (List.mem_of_mem_drop hz.2)])
   (by show(fh (xs.map Wv.int) ((xs.drop 1).map Wv.int)).length < lim;rw[zz,aH,List.length_zip,lm];unfold lim;omega)
  have e6:((fh (xs.map Wv.int) ((xs.drop 1).map Wv.int)).filter λ_=>true).map (λv=>match v with | .tup [.int i,.int j]=>Wv.bl (jD (bB rows bs) i.toNat j.toNat) | _=> .aP)=((ms.zip (ms.drop 1)).map λp=>jD (bB rows bs) p.1 p.2).map Wv.bl:=by
   rw[List.filter_eq_self.mpr (λ_ _=>rfl),zz,bW,bW]
   refine pW λp _=>?_
   simp
  rw[show((some (ln,xs.map Wv.int),fh (xs.map Wv.int) ((xs.drop 1).map Wv.int)):HX).2=fh (xs.map Wv.int) ((xs.drop 1).map Wv.int) from rfl,e6] at q
  have al:=MH (st:=s5++[.lst (((ms.zip (ms.drop 1)).map λp=>jD (bB rows bs) p.1 p.2).map Wv.bl)]) az
  rw[zo] at al
  obtain⟨Z,hZ⟩:∃Z,fh (xs.map Wv.int) ((xs.drop 1).map Wv.int)=Z:=⟨_,rfl⟩
  obtain⟨B,hB⟩:∃B,((ms.zip (ms.drop 1)).map λp=>jD (bB rows bs) p.1 p.2).map Wv.bl=B:=⟨_,rfl⟩
  rw[hZ] at zw q
  rw[hB] at q al
  refine⟨s5++[.lst B],?_,G1.trans (G2.trans (G3.trans (G5.trans Gr.push)))⟩
  refine dv (n:=4) (g:=bR) ?_
  have cg:kK 2 [("columns",3)] (pY (ae (ag 2) (ae (aV (ag 2) (cI (gC (.int 1))) bx) aq))) d0 cM [some (aX hs rows),some w,some (.ref ln),some (.ref st.length)] s3= .ok (.ref s5.length) (s5++[.lst B]):=by
   unfold kK pY
   simp[-bW,sl,zw,q]
  unfold bR iB
  simp[-bW,e1,sr,EI,iG,lr,ne,c,cg,al,hms]
 ·refine⟨s3,?_,G1.trans (G2.trans G3)⟩
  refine dv (n:=4) (g:=bR) ?_
  unfold bR iB
  simp[e1,sr,EI,iG,lr,ne,c]
theorem qt{i:Nat}{gb:GS}{st:Hs}(ok:Nat->Bool)(P:bA->Prop):∀(n k:Nat)(ρ:bA),P ρ->
  (∀j,k<=j->j < k+n->∀ρ,P ρ->(ok j=true->∃ρ',gb (ρ.set i (some (.int (j:Nat)))) st= .nx ρ' st/\P ρ')/\(ok j=false->gb (ρ.set i (some (.int (j:Nat)))) st= .rt (.bl false) st))->
   ((∀j,k<=j->j < k+n->ok j=true)/\∃ρ',gD i gb ((cZ k n).map λj=> .int (j:Nat)) ρ st= .nx ρ' st/\P ρ')\/((¬∀j,k<=j->j < k+n->ok j=true)/\gD i gb ((cZ k n).map λj=> .int (j:Nat)) ρ st= .rt (.bl false) st)
 | 0,k,ρ,hP,_=> .inl ⟨λj h1 h2=>by omega,ρ,rfl,hP⟩
 | n+1,k,ρ,hP,step=>by
  obtain⟨s1,s2⟩:=step k (ak _) (by omega) ρ hP
  cases e:ok k with
  | false=>
   refine .inr ⟨(λh=>by rw[h k (ak _) (by omega)] at e;cases e),?_⟩
   rw[tD,aZ,gD,s2 e]
  | true=>
   obtain⟨ρ1,e1,P1⟩:=s1 e
   have st':gD i gb ((cZ k (n+1)).map λj=> .int (j:Nat)) ρ st=gD i gb ((cZ (k+1) n).map λj=> .int (j:Nat)) ρ1 st:=by
    rw[tD,aZ,gD,e1]
   rw[st']
   rcases qt ok P n (k+1) ρ1 P1 λj h1 h2=>step j (by omega) (by omega) with ⟨h,r⟩ | ⟨h,r⟩
   ·refine .inl ⟨λj h1 h2=>?_,r⟩
    by_cases z:j=k
    ·rw[z];exact e
    ·exact h j (by omega) (by omega)
   ·exact .inr ⟨λz=>h λj h1 h2=>z j (by omega) (by omega),r⟩
theorem zp(n:Nat):cE 0 n=(cZ 0 n).map λj=>Wv.int (j:Nat):=by
 unfold cE
 rw[<-Gu]
 refine pW λk _=>?_
 simp
theorem rY(T:Tb hs rows){lb:Nat}{bs:List (Nat×Bool)}{ln:Nat}{xs:List Int}(hc:ai st lb=some (bs.map (i_ hs)))(hb:∀b∈bs,b.1 < hs.length)(hx:ai st ln=some (xs.map Wv.int))(lx:xs.length < 64) :
  ∃st',eD [aX hs rows,.ref lb,.ref ln] st= .ok (.bl (iB (bB rows bs) rows.length xs)) st'/\Gr st st':=by
 have sr:=xJ (st:=st) hx lx
 obtain⟨s2,hs2⟩:∃s2,st++[Ob.lst ((gE xs).map Wv.int)]=s2:=⟨_,rfl⟩
 rw[hs2] at sr
 have G2:Gr st s2:=by rw[<-hs2];exact Gr.push
 have k2:ai s2 st.length=some ((gE xs).map Wv.int):=by rw[<-hs2];exact az
 have lr:=qr (st:=s2) T.rw'
 obtain⟨s3,om⟩:∃s3,s2++[Ob.lst (nW (aJ rows.length))]=s3:=⟨_,rfl⟩
 rw[om] at lr
 have G3:Gr s2 s3:=by rw[<-om];exact Gr.push
 have k3:ai s3 s2.length=some ((rI rows.length).map Wv.int):=by rw[PR,<-om];exact az
 have ne:=um (G3.lst k2) k3
 have G:=G2.trans G3
 refine⟨s3,?_,G⟩
 refine dv (n:=5) (g:=eB) ?_
 by_cases c:gE xs=rI rows.length
 ·obtain⟨m1,m2⟩:=Et c
  obtain⟨ms,hms⟩:∃ms,xs.map kT=ms:=⟨_,rfl⟩
  rw[hms] at m1 m2
  have lm:ms.length=xs.length:=by rw[<-hms,aH]
  have kx:ai s3 ln=some (nW ms):=by rw[<-m2];exact G.lst hx
  have ix:∀k,k < ms.length->cP (.ref ln) (.int (k:Nat)) s3= .ok (.int ((ms.getD k 0:Nat):Int)) s3:=λk hk=>by
   refine vE kx ?_
   rw[L2.fF (v:=(nW ms)[k]'(by simpa using hk)) (cq _)]
   simp[hk]
  have inr:∀k,k < ms.length->ms.getD k 0 < rows.length:=λk hk=>m1 _ (by
   have e:ms.getD k 0=ms[k]:=by simp[a_,hk]
   rw[e];exact pK hk)
  have inner:∀(k:Nat),k < ms.length->∀o4:Option Wv,((∀j,j < k->jD (bB rows bs) (ms.getD j 0) (ms.getD k 0)=true)/\∃p4,b9 [some (aX hs rows),some (.ref lb),some (.ref ln),some (.int (k:Nat)),o4] s3= .nx [some (aX hs rows),some (.ref lb),some (.ref ln),some (.int (k:Nat)),p4] s3)\/
    ((¬∀j,j < k->jD (bB rows bs) (ms.getD j 0) (ms.getD k 0)=true)/\b9 [some (aX hs rows),some (.ref lb),some (.ref ln),some (.int (k:Nat)),o4] s3= .rt (.bl false) s3):=λk hk o4=>by
   have cr:j_ (k:Int):=Eg (by omega) (by omega)
   have run:=qt (i:=4) (gb:=dB) (st:=s3) (λj=>jD (bB rows bs) (ms.getD j 0) (ms.getD k 0)) (λρ=>∃o4,ρ=[some (aX hs rows),some (.ref lb),some (.ref ln),some (.int (k:Nat)),o4]) k 0 [some (aX hs rows),some (.ref lb),some (.ref ln),some (.int (k:Nat)),o4] ⟨_,rfl⟩ (λj _ hj ρ ⟨o,ho⟩=>by
    subst ho
    have la:=A3 (st:=s3) T (G.lst hc) hb (inr j (by omega)) (inr k hk)
    have i1:=ix j (by omega)
    have i2:=ix k hk
    refine⟨λe=>⟨[some (aX hs rows),some (.ref lb),some (.ref ln),some (.int (k:Nat)),some (.int (j:Nat))],?_,_,rfl⟩,λe=>?_⟩
    ·rw[e] at la
     unfold dB
     simp[-a_,i1,i2,la]
    ·rw[e] at la
     unfold dB
     simp[-a_,i1,i2,la])
   rw[<-zp] at run
   rcases run with ⟨h,ρ',e,p4,rfl⟩ | ⟨h,e⟩
   ·refine .inl ⟨λj hj=>h j (by omega) (by omega),p4,?_⟩
    unfold b9
    simp[cr,e]
   ·refine .inr ⟨λz=>h λj _ hj=>z j (by omega),?_⟩
    unfold b9
    simp[cr,e]
  have run:=qt (i:=3) (gb:=b9) (st:=s3) (λk=>decide (∀j,j < k->jD (bB rows bs) (ms.getD j 0) (ms.getD k 0)=true)) (λρ=>∃o3 o4,ρ=[some (aX hs rows),some (.ref lb),some (.ref ln),o3,o4]) ms.length 0 [some (aX hs rows),some (.ref lb),some (.ref ln),none,none] ⟨_,_,rfl⟩ (λk _ hk ρ ⟨o3,o4,ho⟩=>by
   subst ho
   have q:=inner k (by omega) o4
   refine⟨λe=>?_,λe=>?_⟩
   ·rcases q with ⟨_,p4,q⟩ | ⟨q,_⟩
    ·exact⟨_,q,_,_,rfl⟩
    ·exact absurd (of_decide_eq_true e) q
   ·rcases q with ⟨q,_⟩ | ⟨_,q⟩
    ·exact absurd q (of_decide_eq_false e)
    ·exact q)
  rw[<-zp] at run
  have pw:Bc (bB rows bs) ms=true↔∀k,0<=k->k < 0+ms.length->(λk=>decide (∀j,j < k->jD (bB rows bs) (ms.getD j 0) (ms.getD k 0)=true)) k=true:=by
   rw[uj,s_]
   simp only[decide_eq_true_eq]
   constructor
   ·intro h k _ hk j hj
    have:=h j k (by omega) (by omega) hj
    simpa [a_,show j < ms.length by omega,show k < ms.length by omega] using this
   ·intro h j k hj hk hjk
    have:=h k (by omega) (by omega) j hjk
    simpa [a_,hj,hk] using this
  have ln':eJ [.ref ln] s3= .ok (.int (ms.length:Int)) s3:=by
   have:=y8 kx
   rw[aH] at this
   exact this
  have cr:j_ (ms.length:Int):=Eg (by omega) (by omega)
  unfold eB iB
  rcases run with ⟨h,ρ',e,o3,o4,rfl⟩ | ⟨h,e⟩
  ·have ea:Bc (bB rows bs) ms=true:=pw.mpr h
   simp[-bW,sr,EI,iG,lr,ne,c,ln',cr,e,hms,ea]
  ·have ea:Bc (bB rows bs) ms=false:=by
    cases z:Bc (bB rows bs) ms with
    | false=>rfl
    | true=>exact absurd (pw.mp z) h
   simp[-bW,sr,EI,iG,lr,ne,c,ln',cr,e,hms,ea]
 ·unfold eB iB
  simp[sr,EI,iG,lr,ne,c]
end
def IL(g:GE)(ρ:bA)(b:Hs)(n:Nat):Prop:=∀s,Gr b s->∃(l:Nat)(s':Hs)(xs:List Int),g ρ s= .ok (.ref l) s'/\Gr s s'/\s'[l]? =some (.lst (xs.map Wv.int))/\xs.length<=n
def II(g:GE)(ρ:bA)(b:Hs):Prop:=∀s,Gr b s->∃i:Int,g ρ s= .ok (.int i) s
section
variable {ρ:bA} {b:Hs}
theorem II.c{i:Int}:II (gC (.int i)) ρ b:=λs _=>⟨i,rfl⟩
theorem II.neg{g:GE}(h:II g ρ b):II (x_ gM g) ρ b:=λs k=>by
 obtain⟨i,e⟩:=h s k
 exact⟨-i,by simp[e]⟩
theorem II.ix{j k l:Nat}{d:Nat}{xs:List Int}(h:ρ[j]? =some (some (.ref l)))(h2:ρ[k]? =some (some (.int (d:Nat))))(hb:ai b l=some (xs.map Wv.int))(hd:d < xs.length):II (ao cP (ag j) (ag k)) ρ b:=λs G=>by
 have e:cP (.ref l) (.int (d:Nat)) s= .ok (.int xs[d]) s:=by
  refine vE (G.lst hb) ?_
  rw[L2.fF (v:=(xs.map Wv.int)[d]'(by simpa using hd)) (cq _)]
  simp
 exact⟨xs[d],by simp[h,h2,e]⟩
theorem II.len{j l:Nat}{xs:List Int}(h:ρ[j]? =some (some (.ref l)))(hb:ai b l=some (xs.map Wv.int)):II (ay eJ (ae (ag j) aq)) ρ b:=λs G=>⟨(xs.map Wv.int).length,by simp[h,y8 (G.lst hb)]⟩
theorem IL.var{j l:Nat}{xs:List Int}(h:ρ[j]? =some (some (.ref l)))(hb:b[l]? =some (.lst (xs.map Wv.int))):IL (ag j) ρ b xs.length:=λs G=>⟨l,s,xs,by simp[h],Gr.refl,G.get hb,ak _⟩
theorem IL.one{g:GE}(h:II g ρ b):IL (bT (ae g aq)) ρ b 1:=λs G=>by
 obtain⟨i,e⟩:=h s G
 exact⟨s.length,s++[.lst [.int i]],[i],by simp[e],Gr.push,cn,ak _⟩
theorem IL.add{g h:GE}{n m:Nat}(hg:IL g ρ b n)(hh:IL h ρ b m)(hz:n+m<=1000):IL (ao bU g h) ρ b (n+m):=λs G=>by
 obtain⟨l1,s1,xs,e1,G1,k1,n1⟩:=hg s G
 obtain⟨l2,s2,ys,e2,G2,k2,n2⟩:=hh s1 (G.trans G1)
 have ad:=add_l (G2.lst (aB k1)) (aB k2) (by rw[aH,aH];unfold lim;omega)
 refine⟨s2.length,s2++[.lst ((xs++ys).map Wv.int)],xs++ys,?_,G1.trans (G2.trans Gr.push),cn,by rw[dk];omega⟩
 simp[e1,e2,ad]
theorem IL.cut{j l:Nat}{xs:List Int}{gl gh:GO}{lo hi:Option Int}(h:ρ[j]? =some (some (.ref l)))(hb:ai b l=some (xs.map Wv.int))(h1:∀s,gl ρ s= .ok lo s)(h2:∀s,gh ρ s= .ok hi s):IL (aV (ag j) gl gh) ρ b xs.length:=λs G=>by
 have sl:=vG (lo:=lo) (hi:=hi) (G.lst hb)
 obtain⟨ys,ey,ly⟩:=rW (f:=Wv.int) (xs:=xs) (lo:=lo) (hi:=hi)
 rw[ey] at sl
 exact⟨s.length,s++[.lst (ys.map Wv.int)],ys,by simp[h,h1,h2,sl],Gr.push,cn,ly⟩
theorem IL.rev{j l:Nat}{xs:List Int}(h:ρ[j]? =some (some (.ref l)))(hb:ai b l=some (xs.map Wv.int))(hz:xs.length < 64):IL (ay lW (ae (ag j) aq)) ρ b xs.length:=λs G=>by
 have e:lW [.ref l] s= .ok (.ref s.length) (s++[.lst (xs.reverse.map Wv.int)]):=by
  unfold lW
  simp only[G.lst hb]
  rw[if_pos (by rw[aH];omega),oD]
 exact⟨s.length,s++[.lst (xs.reverse.map Wv.int)],xs.reverse,by simp[-oD,h,e],Gr.push,cn,by simp⟩
theorem IL.X3{j l:Nat}{xs:List Int}(h:ρ[j]? =some (some (.ref l)))(hb:ai b l=some (xs.map Wv.int))(hz:xs.length < 64):IL (ay jr (ae (ag j) aq)) ρ b xs.length:=λs G=>by
 have e:=xJ (G.lst hb) hz
 exact⟨s.length,s++[.lst ((gE xs).map Wv.int)],gE xs,by simp[h,e],Gr.push,cn,by rw[(fR xs).length_eq];exact ak _⟩
def Ls(s:Hs)(ls:List Nat):Prop:=∀l∈ls,∃xs:List Int,s[l]? =some (.lst (xs.map Wv.int))/\xs.length < 64
theorem Ls.gr{s s':Hs}{ls:List Nat}(h:Ls s ls)(G:Gr s s'):Ls s' ls:=λl hl=>let ⟨xs,e,n⟩:=h l hl;⟨xs,G.get e,n⟩
def IA(g:GA)(ρ:bA)(b:Hs)(n:Nat):Prop:=∀s,Gr b s->∃ls s',g ρ s= .ok (ls.map Wv.ref) s'/\Gr s s'/\Ls s' ls/\ls.length=n
theorem IA.nil:IA aq ρ b 0:=λs _=>⟨[],s,rfl,Gr.refl,(λ_ h=>by cases h),rfl⟩
theorem IA.cons{g:GE}{r:GA}{n k:Nat}(h:IL g ρ b n)(hz:n < 64)(t:IA r ρ b k):IA (ae g r) ρ b (k+1):=λs G=>by
 obtain⟨l,s1,xs,e1,G1,k1,n1⟩:=h s G
 obtain⟨ls,s2,e2,G2,k2,n2⟩:=t s1 (G.trans G1)
 refine⟨l::ls,s2,by simp[e1,e2],G1.trans G2,λx hx=>?_,by simp[n2]⟩
 rcases List.mem_cons.mp hx with z | z
 ·rw[z];exact⟨xs,G2.get k1,by omega⟩
 ·exact k2 x z
theorem IA.lst{g:GA}{n:Nat}(h:IA g ρ b n)(hz:n<=100):∀s,Gr b s->∃l s' ls,bT g ρ s= .ok (.ref l) s'/\Gr s s'/\s'[l]? =some (.lst (ls.map Wv.ref))/\Ls s' ls/\ls.length=n:=λs G=>by
 obtain⟨ls,s1,e1,G1,k1,n1⟩:=h s G
 have kl:tS (ls.map Wv.ref) s1= .ok (.ref s1.length) (s1++[.lst (ls.map Wv.ref)]):=kM (by rw[aH];unfold lim;omega)
 exact⟨s1.length,s1++[.lst (ls.map Wv.ref)],ls,by simp[e1,kl],G1.trans Gr.push,cn,k1.gr Gr.push,n1⟩
end
theorem Hj{st:Hs}{a b:Nat}{xs ys:List Int}(h:ai st a=some (xs.map Wv.int))(k:ai st b=some (ys.map Wv.int)):oEq (.ref a) (.ref b) st= .ok (.bl (decide (xs=ys))) st:=by
 have d1:bM st 20 (.ref a)=some (.list (xs.map j8)):=by rw[y_ (n:=19) h,jF];rfl
 have d2:bM st 20 (.ref b)=some (.list (ys.map j8)):=by rw[y_ (n:=19) k,jF];rfl
 unfold oEq
 rw[d1,d2]
 dsimp only
 congr 2
 simp[jM,kR]
theorem Hk{n k:Nat}(h:k < n):L2.zI n ((k:Nat):Int)=some k:=by
 unfold L2.zI
 rw[if_pos (by omega),if_pos (by omega)]
 simp
theorem Ew{l d:Nat}{xs:List Int}{v:Int}{ρ:bA}{st:Hs}(h:st[l]? =some (.lst (xs.map Wv.int)))(hd:d < xs.length):Ky (.ref l) (.int (d:Nat)) (.int v) ρ st= .nx ρ (st.set l (.lst ((xs.set d v).map Wv.int))):=by
 unfold Ky
 simp only[h]
 rw[Hk (by simpa using hd),List.map_set]
theorem xK{l:Nat}{ws:List Wv}{st:Hs}(h:ai st l=some ws):gf [.ref l] st= .ok (.ref st.length) (st++[.lst ws]):=by
 have e:sY [.ref l] st= .ok (.ref st.length) (st++[.lst ws]):=by
  show(match ai st l with | some ws=>Re.ok (Wv.ref st.length) (st++[Ob.lst ws]) | none=> .bad)=_
  rw[h]
 unfold gf
 unfold ai at h
 cases q:st[l]? with
 | none=>rw[q] at h;cases h
 | some o=>
  rw[q] at h
  cases o with
  | lst zs=>first | (simp only[q];exact e) | exact e
  | nZ zs=>first | (simp only[q];exact e) | exact e
  | _=>cases h
theorem T4{ld:Nat}{xs:List Int}{m:Int}{st:Hs}(h:st[ld]? =some (.lst (xs.map Wv.int)))(hz:xs.length<=12):∃(l:Nat)(st':Hs)(ls:List Nat),hG [.ref ld,.int m] st= .ok (.ref l) st'/\ai st' l=some (ls.map Wv.ref)/\Ls st' ls/\Gr st st'/\ls.length<=20:=by
 obtain⟨s1,hs1⟩:∃s1,st++[Ob.lst []]=s1:=⟨_,rfl⟩
 have G1:Gr st s1:=by rw[<-hs1];exact Gr.push
 have k1:ai s1 st.length=some (([]:List Int).map Wv.int):=by rw[<-hs1];exact az
 have eq:=Hj (G1.lst (aB h)) k1
 by_cases c:xs=[]
 ·subst c
  have ia:IA (ae (bT (ae (gC (.int 0)) aq)) (ae (bT (ae (x_ gM (gC (.int 1))) aq)) aq)) [some (.ref ld),some (.int m),none,none,none,none,none] s1 2:=.cons (.one .c) (by omega) (.cons (.one (.neg .c)) (by omega) .nil)
  obtain⟨l,s2,ls,e2,G2,k2,n2,l2⟩:=ia.lst (by omega) s1 Gr.refl
  refine⟨l,s2,ls,?_,aB k2,n2,G1.trans G2,by omega⟩
  refine dv (n:=7) (g:=cT) ?_
  have er:cC (bT (ae (bT (ae (gC (.int 0)) aq)) (ae (bT (ae (x_ gM (gC (.int 1))) aq)) aq))) [some (.ref ld),some (.int m),none,none,none,none,none] s1= .rt (.ref l) s2:=by rw[Ea,e2];rfl
  unfold cT
  simp[-Ea,hs1,eq,er]
 ·have n0:0 < xs.length:=List.length_pos_iff.mpr c
  have ln:=y8 (st:=s1) (G1.lst (aB h))
  rw[aH] at ln
  obtain⟨i,hi,bi⟩:∃i:Nat,m.fmod (xs.length:Int)=(i:Int)/\i < xs.length:=⟨(m.fmod (xs.length:Int)).toNat,by have:=i5 (x:=m) (m:=(xs.length:Int)) (by omega);omega,by have:=i5 (x:=m) (m:=(xs.length:Int)) (by omega);omega⟩
  obtain⟨j,hj,bj⟩:∃j:Nat,(m.fdiv 13).fmod (xs.length:Int)=(j:Int)/\j < xs.length:=⟨((m.fdiv 13).fmod (xs.length:Int)).toNat,by have:=i5 (x:=m.fdiv 13) (m:=(xs.length:Int)) (by omega);omega,by have:=i5 (x:=m.fdiv 13) (m:=(xs.length:Int)) (by omega);omega⟩
  have mi:=gm (st:=s1) (i:=m) (j:=(xs.length:Int)) (by omega)
  have fi:=ir (st:=s1) (i:=m) (j:=13) ⟨by decide,by decide⟩
  have mj:=gm (st:=s1) (i:=m.fdiv 13) (j:=(xs.length:Int)) (by omega)
  rw[hi] at mi
  rw[hj] at mj
  have cp:=xK (st:=s1) (G1.lst (aB h))
  obtain⟨s2,hs2⟩:∃s2,s1++[Ob.lst (xs.map Wv.int)]=s2:=⟨_,rfl⟩
  rw[hs2] at cp
  have G2:Gr s1 s2:=by rw[<-hs2];exact Gr.push
  have k2:s2[s1.length]? =some (.lst (xs.map Wv.int)):=by rw[<-hs2];exact cn
  have at':∀{s:Hs}{d:Nat},ai s ld=some (xs.map Wv.int)->d < xs.length->cP (.ref ld) (.int (d:Nat)) s= .ok (.int (xs.getD d 0)) s:=λ{s d} hs hd=>by
   refine vE hs ?_
   rw[L2.fF (v:=(xs.map Wv.int)[d]'(by simpa using hd)) (cq _)]
   simp[hd]
  have ll:ld < s1.length:=jy (G1.get h)
  have h2:=(G1.trans G2).get h
  have x1:=at' (s:=s2) (aB h2) bj
  have t1:=λρ=>Ew (ρ:=ρ) (v:=xs.getD j 0) k2 bi
  obtain⟨s3,om⟩:∃s3,s2.set s1.length (.lst ((xs.set i (xs.getD j 0)).map Wv.int))=s3:=⟨_,rfl⟩
  rw[om] at t1
  have G3:Gr s1 s3:=by rw[<-om];exact G2.tW (ak _) bP.set
  have k3:s3[s1.length]? =some (.lst ((xs.set i (xs.getD j 0)).map Wv.int)):=by rw[<-om];exact j0 k2
  have h3:=G3.get (G1.get h)
  have x2:=at' (s:=s3) (aB h3) bi
  have t2:=λρ=>Ew (ρ:=ρ) (v:=xs.getD i 0) k3 (show j < (xs.set i (xs.getD j 0)).length by rw[Bw];exact bj)
  obtain⟨ys,hys⟩:∃ys,(xs.set i (xs.getD j 0)).set j (xs.getD i 0)=ys:=⟨_,rfl⟩
  have ly:ys.length=xs.length:=by rw[<-hys];simp
  rw[hys] at t2
  obtain⟨s4,Ep⟩:∃s4,s3.set s1.length (.lst (ys.map Wv.int))=s4:=⟨_,rfl⟩
  rw[Ep] at t2
  have G4:Gr s1 s4:=by rw[<-Ep];exact G3.tW (ak _) bP.set
  have k4:s4[s1.length]? =some (.lst (ys.map Wv.int)):=by rw[<-Ep];exact j0 k3
  have h4:=G4.get (G1.get h)
  -- the rest
  have X4:IL (ao bU (aV (ag 0) bx (cI (ag 2))) (aV (ag 0) (cI (ao bU (ag 2) (gC (.int 1)))) bx)) [some (.ref ld),some (.int m),some (.int (i:Nat)),some (.int (j:Nat)),some (.ref s1.length),none,none] s4 (xs.length+xs.length) :=
   .add (.cut rfl (aB h4) (λ_=>rfl) (λ_=>rfl)) (.cut rfl (aB h4) (λ_=>rfl) (λ_=>rfl)) (by omega)
  obtain⟨lr,s5,rs,e5,G5,k5,n5⟩:=X4 s4 Gr.refl
  have h5:=G5.get h4
  let ρ6:bA:=[some (.ref ld),some (.int m),some (.int (i:Nat)),some (.int (j:Nat)),some (.ref s1.length),some (.ref lr),none]
  have v5:IL (ag 5) ρ6 s5 rs.length:=.var rfl k5
  have oi:II (ao cP (ag 0) (ag 2)) ρ6 s5:=.ix rfl rfl (aB h5) bi
  have oj:II (ao cP (ag 0) (ag 3)) ρ6 s5:=.ix rfl rfl (aB h5) bj
  have ia:IA (ae (ag 4) (ae (ag 5) (ae (ao bU (ag 5) (bT (ae (ao cP (ag 0) (ag 3)) aq))) (ae (ao bU (ag 5) (bT (ae (ay eJ (ae (ag 0) aq)) aq))) (ae (ao bU (ag 5) (bT (ae (x_ gM (gC (.int 1))) aq))) (ae (ay lW (ae (ag 0) aq)) (ae (ay jr (ae (ag 0) aq)) aq))))))) ρ6 s5 7 :=
   .cons (.var rfl (G5.get k4)) (by omega) (.cons v5 (by omega) (.cons (.add v5 (.one oj) (by omega)) (by omega) (.cons (.add v5 (.one (.len rfl (aB h5))) (by omega)) (by omega) (.cons (.add v5 (.one (.neg .c)) (by omega)) (by omega) (.cons (.rev rfl (aB h5) (by omega)) (by omega) (.cons (.X3 rfl (aB h5) (by omega)) (by omega) .nil))))))
  obtain⟨l6,s6,T5,e6,G6,k6,n6,c6⟩:=ia.lst (by omega) s5 Gr.refl
  let ρ7:bA:=[some (.ref ld),some (.int m),some (.int (i:Nat)),some (.int (j:Nat)),some (.ref s1.length),some (.ref lr),some (.ref l6)]
  have h6:=G6.get h5
  have ib:IA (ae (ao bU (ag 0) (bT (ae (ao cP (ag 0) (ag 2)) aq))) (ae (ao bU (ao bU (aV (ag 0) bx (cI (ag 3))) (aV (ag 5) (cI (ag 3)) bx)) (bT (ae (ao cP (ag 0) (ag 2)) aq))) aq)) ρ7 s6 2 :=
   .cons (.add (.var rfl h6) (.one (.ix rfl rfl (aB h6) bi)) (by omega)) (by omega) (.cons (.add (.add (.cut rfl (aB h6) (λ_=>rfl) (λ_=>rfl)) (.cut rfl (aB (G6.get k5)) (λ_=>rfl) (λ_=>rfl)) (by omega)) (.one (.ix rfl rfl (aB h6) bi)) (by omega)) (by omega) .nil)
  obtain⟨l7,s7,T6,e7,G7,k7,n7,c7⟩:=ib.lst (by omega) s6 Gr.refl
  have ad:=add_l (aB (G7.get k6)) (aB k7) (by rw[aH,aH];unfold lim;omega)
  rw[<-ug] at ad
  refine⟨s7.length,s7++[.lst ((T5++T6).map Wv.ref)],T5++T6,?_,az,λl hl=>?_,G1.trans (G4.trans (G5.trans (G6.trans (G7.trans Gr.push)))),by rw[dk];omega⟩
  ·refine dv (n:=7) (g:=cT) ?_
   have f5:bQ 5 (ao bU (aV (ag 0) bx (cI (ag 2))) (aV (ag 0) (cI (ao bU (ag 2) (gC (.int 1)))) bx)) [some (.ref ld),some (.int m),some (.int (i:Nat)),some (.int (j:Nat)),some (.ref s1.length),none,none] s4= .nx ρ6 s5:=by rw[Iz,e5];rfl
   have f6:bQ 6 (bT (ae (ag 4) (ae (ag 5) (ae (ao bU (ag 5) (bT (ae (ao cP (ag 0) (ag 3)) aq))) (ae (ao bU (ag 5) (bT (ae (ay eJ (ae (ag 0) aq)) aq))) (ae (ao bU (ag 5) (bT (ae (x_ gM (gC (.int 1))) aq))) (ae (ay lW (ae (ag 0) aq)) (ae (ay jr (ae (ag 0) aq)) aq)))))))) ρ6 s5= .nx ρ7 s6:=by rw[Iz,e6];rfl
   have f7:cC (ao bU (ag 6) (bT (ae (ao bU (ag 0) (bT (ae (ao cP (ag 0) (ag 2)) aq))) (ae (ao bU (ao bU (aV (ag 0) bx (cI (ag 3))) (aV (ag 5) (cI (ag 3)) bx)) (bT (ae (ao cP (ag 0) (ag 2)) aq))) aq)))) ρ7 s6= .rt (.ref s7.length) (s7++[.lst ((T5++T6).map Wv.ref)]):=by
    have v6:ag 6 ρ7 s6= .ok (.ref l6) s6:=rfl
    rw[Ea,Pu,v6]
    simp only[y7,SV]
    rw[e7]
    simp only[y7,ad,Mf,Me]
   have f0:rh (ik (ao oEq (ag 0) (bT aq))) (cC (bT (ae (bT (ae (gC (.int 0)) aq)) (ae (bT (ae (x_ gM (gC (.int 1))) aq)) aq)))) dH [some (.ref ld),some (.int m),none,none,none,none,none] st= .nx [some (.ref ld),some (.int m),none,none,none,none,none] s1:=by simp[hs1,eq,c]
   have f2:bQ 2 (ao oMod (ag 1) (ay eJ (ae (ag 0) aq))) [some (.ref ld),some (.int m),none,none,none,none,none] s1= .nx [some (.ref ld),some (.int m),some (.int (i:Nat)),none,none,none,none] s1:=by simp[ln,mi]
   have f3:bQ 3 (ao oMod (ao ff (ag 1) (gC (.int 13))) (ay eJ (ae (ag 0) aq))) [some (.ref ld),some (.int m),some (.int (i:Nat)),none,none,none,none] s1= .nx [some (.ref ld),some (.int m),some (.int (i:Nat)),some (.int (j:Nat)),none,none,none] s1:=by simp[fi,ln,mj]
   have f4:bQ 4 (ay gf (ae (ag 0) aq)) [some (.ref ld),some (.int m),some (.int (i:Nat)),some (.int (j:Nat)),none,none,none] s1= .nx [some (.ref ld),some (.int m),some (.int (i:Nat)),some (.int (j:Nat)),some (.ref s1.length),none,none] s2:=by simp[cp]
   have g1:nh (ao cP (ag 0) (ag 3)) (ag 4) (ag 2) [some (.ref ld),some (.int m),some (.int (i:Nat)),some (.int (j:Nat)),some (.ref s1.length),none,none] s2= .nx [some (.ref ld),some (.int m),some (.int (i:Nat)),some (.int (j:Nat)),some (.ref s1.length),none,none] s3:=by
    unfold nh
    simp[-a_,x1,t1]
   have g2:nh (ao cP (ag 0) (ag 2)) (ag 4) (ag 3) [some (.ref ld),some (.int m),some (.int (i:Nat)),some (.int (j:Nat)),some (.ref s1.length),none,none] s3= .nx [some (.ref ld),some (.int m),some (.int (i:Nat)),some (.int (j:Nat)),some (.ref s1.length),none,none] s4:=by
    unfold nh
    simp[-a_,x2,t2]
   show cT [some (.ref ld),some (.int m),none,none,none,none,none] st=_
   unfold cT
   rw[nJ,f0,nH,nJ,f2,nH,nJ,f3,nH,nJ,f4,nH,nJ,g1,nH,nJ,g2,nH,nJ,f5,nH,nJ,f6,nH]
   exact f7
  ·rcases List.mem_append.mp hl with z | z
   ·exact n6.gr (G7.trans Gr.push) l z
   ·exact n7.gr Gr.push l z
section
variable {hs:List PySem.Str} {rows:List (List Wo)} {st:Hs}
theorem MI:eJ [.tup (hs.map Wv.str)] st= .ok (.int (hs.length:Int)) st:=by
 have:eJ [.tup (hs.map Wv.str)] st= .ok (.int ((hs.map Wv.str).length:Int)) st:=rfl
 rw[this,aH]
theorem Hl(lo:1<=hs.length){n:Int}{r k:Nat}{bs:List (Nat×Bool)}{o4:Option Wv}(hk:k < 5)(h:st[r]? =some (.lst (bs.map (i_ hs))))(hl:bs.length < 5) :
  ∃(b:Nat×Bool)(p4:Option Wv)(st':Hs),fJ [some (.int n),some (.tup (hs.map Wv.str)),some (.ref r),some (.int (k:Int)),o4] st= .nx [some (.int n),some (.tup (hs.map Wv.str)),some (.ref r),some (.int (k:Int)),p4] st'/\st'[r]? =some (.lst ((bs++[b]).map (i_ hs)))/\b.1 < hs.length/\bP r st st':=by
 have m1:=qf (st:=st) (i:=7) (j:=(k:Int)) (by decide) (by decide)
 have m2:=mul_r (st:=st) (i:=7 * (k:Int)) (j:=(k:Int)) (by omega) (by omega)
 obtain⟨d,hd,bd⟩:∃d:Int,5+7 * (k:Int) * (k:Int)=d/\(0 < d/\d < 1000):=⟨_,rfl,by
  have:k=0\/k=1\/k=2\/k=3\/k=4:=by omega
  rcases this with rfl | rfl | rfl | rfl | rfl<;>decide⟩
 have fd:=ir (st:=st) (i:=n) (j:=d) ⟨by omega,aM (Mq (b:=1000) (k:=10) (by omega) (by omega) (by decide) (by decide)) (by decide)⟩
 obtain⟨q,hq⟩:∃q,n.fdiv d=q:=⟨_,rfl⟩
 rw[hq] at fd
 have mh:=gm (st:=st) (i:=q) (j:=(hs.length:Int)) (by omega)
 obtain⟨a,ha,la⟩:∃a:Nat,q.fmod (hs.length:Int)=(a:Int)/\a < hs.length:=⟨(q.fmod (hs.length:Int)).toNat,by have:=i5 (x:=q) (m:=(hs.length:Int)) (by omega);omega,by have:=i5 (x:=q) (m:=(hs.length:Int)) (by omega);omega⟩
 rw[ha] at mh
 have ih:cP (.tup (hs.map Wv.str)) (.int (a:Int)) st= .ok (.str (hs.getD a "")) st:=vF (L2.fF (by rw[ie,uk la];rfl))
 obtain⟨s1,hs1⟩:∃s1,st++[Ob.lst [.int 1,.int (-1)]]=s1:=⟨_,rfl⟩
 have G1:Gr st s1:=by rw[<-hs1];exact Gr.push
 have f7:=ir (st:=s1) (i:=q) (j:=7) ⟨by decide,by decide⟩
 have m7:=gm (st:=s1) (i:=q.fdiv 7) (j:=2) (by decide)
 have b7:=i5 (x:=q.fdiv 7) (m:=2) (by decide)
 obtain⟨up,eu⟩:∃up:Bool,cP (.ref st.length) (.int ((q.fdiv 7).fmod 2)) s1= .ok (.int (if up then 1 else -1)) s1:=by
  have k1:ai s1 st.length=some [.int 1,.int (-1)]:=by rw[<-hs1];exact az
  have:(q.fdiv 7).fmod 2=0\/(q.fdiv 7).fmod 2=1:=by omega
  rcases this with z | z
  ·exact⟨true,by rw[z];exact vE k1 rfl⟩
  ·exact⟨false,by rw[z];exact vE k1 rfl⟩
 have h1:=G1.get h
 have ap:=qg (v:=i_ hs (a,up)) h1 (by rw[aH];unfold lim;omega)
 have km:=λga ρ=>oH (mt:=j') (ga:=ga) (ρ:=ρ) (aB h)
 refine⟨(a,up),some (.int q),s1.set r (.lst (bs.map (i_ hs)++[i_ hs (a,up)])),?_,by rw[ug];exact j0 h1,la,G1.keep.trans bP.set⟩
 have eb:Wv.tup [.str (hs.getD a ""),.int (if up then 1 else -1)]=i_ hs (a,up):=rfl
 unfold fJ
 simp[-a_,m1,m2,hd,fd,km,MI,mh,ih,hs1,f7,m7,eu,eb,ap]
theorem MJ(lo:1<=hs.length){n:Int}:∃(bs:List (Nat×Bool))(st':Hs),j5 [.int n,.tup (hs.map Wv.str)] st= .ok (.ref st.length) st'/\st'[st.length]? =some (.lst (bs.map (i_ hs)))/\(∀b∈bs,b.1 < hs.length)/\bs.length<=5/\Gr st st':=by
 have m5:=gm (st:=st++[.lst []]) (i:=n) (j:=5) (by decide)
 obtain⟨t,ht,bt⟩:∃t:Nat,n.fmod 5=(t:Int)/\t < 5:=⟨(n.fmod 5).toNat,by have:=i5 (x:=n) (m:=5) (by decide);omega,by have:=i5 (x:=n) (m:=5) (by decide);omega⟩
 rw[ht] at m5
 have cr:j_ (t:Int):=Eg (by omega) (by omega)
 obtain⟨ρ',s1,e1,bs,o3,o4,rfl,k1,n1,b1,K1⟩:=tU (i:=3) (gb:=fJ) (λk ρ st'=>∃(bs:List (Nat×Bool))(o3 o4:Option Wv),ρ=[some (.int n),some (.tup (hs.map Wv.str)),some (.ref st.length),o3,o4]/\st'[st.length]? =some (.lst (bs.map (i_ hs)))/\bs.length=k/\(∀b∈bs,b.1 < hs.length)/\bP st.length st st')
  (cE 0 t) 0 [some (.int n),some (.tup (hs.map Wv.str)),some (.ref st.length),none,none] (st++[.lst []]) ⟨[],none,none,rfl,cn,rfl,(λ_ h=>by cases h),bP.push⟩ (λj w hw ρ st' hP=>by
   obtain⟨bs,o3,o4,rfl,k1,n1,b1,K1⟩:=hP
   have hj:j < t:=by
    have q:=(List.getElem?_eq_some_iff.mp hw).1
    rw[cJ] at q
    exact q
   rw[rl hj] at hw
   cases hw
   have ej:(0:Int)+(j:Int)=(j:Int):=by omega
   obtain⟨b,p4,s2,e2,k2,l2,K2⟩:=Hl (n:=n) (k:=j) (o4:=o4) lo (by omega) k1 (by omega)
   refine⟨_,s2,by rw[ej];exact e2,bs++[b],_,p4,rfl,k2,by rw[dk,n1];rfl,λx hx=>?_,K1.trans K2⟩
   rcases List.mem_append.mp hx with z | z
   ·exact b1 x z
   ·simp at z;rw[z];exact l2)
 rw[cJ,Nat.zero_add] at n1
 refine⟨bs,s1,?_,k1,b1,by omega,bP.gr (ak _) K1⟩
 refine dv (n:=5) (g:=j4) ?_
 unfold j4
 simp[m5,cr,e1]
def Bd(hs:List PySem.Str):Option (Nat×Bool)->Wv
 | some b=>i_ hs b
 | none=> .tup [.str "z",.int 1]
theorem MK(T:Tb hs rows):("z":PySem.Str)∉hs:=λc=>by
 rcases T.of _ c with z | z | z | z<;>exact absurd z (by decide)
theorem zq(T:Tb hs rows){lb:Nat}{pre post:List (Nat×Bool)}(h:ai st lb=some ((pre.map some++none::post.map some).map (Bd hs)))(hp:∀b∈pre,b.1 < hs.length)(hl:pre.length<=10):∃st',cF [aX hs rows,.ref lb] st= .err "NoColumn" st'/\Gr st st':=by
 have T1:∀s,bP st.length (st++[.lst []]) s->fg (some lb,(pre.map some++none::post.map some).map (Bd hs)) s:=λs K=>K.lst (dI h) (by have:=jx h;omega)
 obtain⟨q1,s1,q2,K⟩:=vR (ck:=fg (some lb,(pre.map some++none::post.map some).map (Bd hs))) (gt:=λv=>cx (some v::[some (aX hs rows)])) (ge:=λv=>a7 (some v::[some (aX hs rows)])) (rr:=st.length) (c:="NoColumn") (Bd hs) kQ (st++[.lst []]) T1 none (post.map some) (pre.map some)
  (λa ha s K hr=>⟨rfl,by
   obtain⟨b,hb,rfl⟩:=List.mem_map.mp ha
   obtain⟨s',e,G,g⟩:=vS (st:=s) T (hp b hb)
   exact⟨_,s',e,G⟩⟩)
  (λs K hr=>⟨rfl,s,by
   have nc:=A1 (rows:=rows) (st:=s) (MK T)
   have i0:cP (Bd hs none) (.int 0) s= .ok (.str "z") s:=vF rfl
   unfold a7
   simp[i0,nc],Gr.refl⟩) [] (st++[.lst []]) bP.refl cn (by simp[lim];omega)
 have cr:cY [("table",0)] cx a7 [some (aX hs rows),some (.ref lb)] (some lb,(pre.map some++none::post.map some).map (Bd hs)) st= .err "NoColumn" s1:=by
  unfold cY
  have ec:cL [("table",0)] [some (aX hs rows),some (Wv.ref lb)]=[some (aX hs rows)]:=rfl
  rw[ec,show((some lb,(pre.map some++none::post.map some).map (Bd hs)):Wk).2=(pre.map some++none::post.map some).map (Bd hs) from rfl,q1]
  dsimp only
  rw[q2]
 refine⟨s1,tT (n:=2) (g:=de) (ρ:=[some (aX hs rows),some (.ref lb)]) ?_,bP.gr (ak _) (bP.push.trans K)⟩
 have sq:=mU h
 obtain⟨W,hW⟩:∃W,(pre.map some++none::post.map some).map (Bd hs)=W:=⟨_,rfl⟩
 rw[hW] at cr sq
 unfold de
 simp[sq,cr]
theorem refused(T:Tb hs rows){way:Int}(hw:way=0\/way=1){lb:Nat}{pre post:List (Nat×Bool)}(h:ai st lb=some ((pre.map some++none::post.map some).map (Bd hs)))(hp:∀b∈pre,b.1 < hs.length)(hl:pre.length<=10):∃st',cz [.int way,aX hs rows,.ref lb] st= .ok (.bl true) st'/\Gr st st':=by
 have tc:Ei.lookup (("NoColumn":PySem.Str),("SheetError":PySem.Str))=some true:=by decide+kernel
 have ia:∀st:Hs,lH jf mW [.lC "NoColumn",.cls "NoColumn"] st= .ok (.bl true) st:=λ_=>rfl
 have main:∀st',Gr st st'->cN [some (.int way),some (aX hs rows),some (.ref lb),some .aP,none] st= .err "NoColumn" [some (.int way),some (aX hs rows),some (.ref lb),some .aP,none] st'->∃st',cz [.int way,aX hs rows,.ref lb] st= .ok (.bl true) st'/\Gr st st':=by
  intro st' G eb
  have su:cO [some (.int way),some (aX hs rows),some (.ref lb),some .aP,some (.lC "NoColumn")] st'= .nx [some (.int way),some (aX hs rows),some (.ref lb),some (.lC "NoColumn"),some (.lC "NoColumn")] st':=by
   unfold cO
   simp
  have tr:=Ec (cat:=λy=>Ei.lookup (y,("SheetError":PySem.Str))) (i:=4) (gs:=cO) (ρ:=[some (.int way),some (aX hs rows),some (.ref lb),some .aP,none]) (st:=st') tc su
  refine⟨st',?_,G⟩
  refine dv (n:=5) (g:=eh) ?_
  unfold eh
  simp[eb,tr,ia]
 rcases hw with rfl | rfl
 ·obtain⟨s1,e1,G1⟩:=zq (st:=st) T h hp hl
  refine main s1 G1 ?_
  have eo:cS [aX hs rows,.ref lb] st= .err "NoColumn" s1:=by
   refine tT (n:=6) (g:=eR) (ρ:=[some (aX hs rows),some (.ref lb),none,none,none,none]) ?_
   unfold eR
   simp[e1]
  unfold cN
  simp[eo]
 ·obtain⟨s1,e1,G1⟩:=zq (st:=st++[.lst []]) T (dI h) hp hl
  refine main s1 (Gr.push.trans G1) ?_
  have eo:bS [aX hs rows,.ref lb,.ref st.length] (st++[.lst []])= .err "NoColumn" s1:=by
   refine tT (n:=4) (g:=bR) (ρ:=[some (aX hs rows),some (.ref lb),some (.ref st.length),none]) ?_
   unfold bR
   simp[e1]
  unfold cN
  simp[eo]
end
theorem Ex{ms:List Nat}{n:Nat}(h:ms.Perm (aJ n)):gE (ms.map λi=>((i:Nat):Int))=rI n:=by
 have p:(gE (ms.map λi=>((i:Nat):Int))).Perm (rI n):=(fR _).trans (h.map _)
 have s:(rI n).Pairwise (· <=·):=by
  unfold rI
  rw[ou]
  exact List.pairwise_lt_range.imp λ{a b}(h:a < b)=>by omega
 exact wU (λa b _ _ h1 h2=>Int.le_antisymm h1 h2) (pH _) s p
theorem A4(ms:List Nat):(ms.map λi=>((i:Nat):Int)).map kT=ms:=by rw[bW];simp[LK]
theorem xM{n:Nat}{cs:nT}:iB cs n ((uh n cs).map λi=>((i:Nat):Int))=true:=by
 unfold iB
 rw[Ex (m6 n cs),A4,(uj _).mpr (zg n cs)]
 simp
theorem ML(ms:List Nat):nW ms=(ms.map λi=>((i:Nat):Int)).map Wv.int:=by rw[bW];rfl
theorem Ey{ws:List Wv}{a:Nat}(h:a<=ws.length):iE ws none (some (a:Int))=ws.take a:=by
 have i1:HT.cu ws.length 0 none=0:=by
  unfold HT.cu
  simp
 have i2:HT.cu ws.length ws.length (some (a:Int))=a:=by
  unfold HT.cu
  simp
  rw[if_neg (by omega)]
  omega
 unfold iE
 rw[i1,i2,il,Nat.sub_zero]
theorem Ez{ws:List Wv}{a:Nat}(h:a<=ws.length):iE ws (some (a:Int)) none=ws.drop a:=by
 have i1:HT.cu ws.length 0 (some (a:Int))=a:=by
  unfold HT.cu
  simp
  rw[if_neg (by omega)]
  omega
 have i2:HT.cu ws.length ws.length none=ws.length:=by
  unfold HT.cu
  simp
 unfold iE
 rw[i1,i2,jS (by rw[jk];omega)]
section
variable {hs:List PySem.Str} {rows:List (List Wo)} {st:Hs}
theorem X5{l:Nat}{ws:List Wv}(h:ai st l=some ws):lH jf mW [.ref l,.ty "list"] st= .ok (.bl true) st:=Ms (by decide) (by show(ai st l).map (λ_=>"list" == "list")=_;rw[h];rfl) (λc z=>by cases z)
theorem X6{b:Bool}:lH jf mW [.bl b,.ty "bool"] st= .ok (.bl true) st:=Ms (by decide) rfl (λc z=>by cases z)
theorem A5(T:Tb hs rows){lb r:Nat}{bs:List (Nat×Bool)}{o0 o2 o4 o5 o7 o8 o9:Option Wv}(hc:ai st lb=some (bs.map (i_ hs)))(hb:∀b∈bs,b.1 < hs.length)(hl:bs.length<=10){xs:List Int}(hx:st[r]? =some (.lst (xs.map Wv.int)))(lx:xs.length < 64) :
  ∃(p7:Option Wv)(st':Hs),ma [o0,some (aX hs rows),o2,some (.ref lb),o4,o5,some (.ref r),o7,o8,o9] st= .nx [o0,some (aX hs rows),o2,some (.ref lb),o4,o5,some (.ref r),p7,o8,o9] st'/\Gr st st':=by
 obtain⟨s1,e1,G1⟩:=nL (st:=st) (w:=.ref lb) (o:=some lb) T (mU hc) hc hb hl hx lx
 obtain⟨s2,e2,G2⟩:=rY (st:=s1) T (G1.lst hc) hb (G1.lst (aB hx)) lx
 refine⟨some (.bl (iB (bB rows bs) rows.length xs)),s2,?_,G1.trans G2⟩
 unfold ma
 simp[e1,X6,e2]
end
theorem law_true(ns:List Int)(hn:ns.length<=63):∃st,F_law [.ref 0] [.nZ ns]= .ok (.bl true) st:=by
 obtain⟨hs,rows,s1,e1,T,G1⟩:=table (st:=[.nZ ns]) (ns:=ns) (at':=0) (most:=12) rfl hn (by omega) (by omega)
 have EE:dY [.ref 0,.int 0,.int 12] [.nZ ns]= .ok (aX hs rows) s1:=e1
 have l0:ai s1 0=some (ns.map Wv.int):=G1.lst (st:=[.nZ ns]) rfl
 have su:=IG l0
 have mx:=mix (c:=ns.sum) (k:=5) (st:=s1) (by omega) (by omega)
 obtain⟨n,hN⟩:∃n,xH ns.sum 5=n:=⟨_,rfl⟩
 rw[hN] at mx
 obtain⟨bs,s2,e2,g2,b2,n2,G2⟩:=MJ (st:=s1) (n:=n) T.lo
 have k2:=aB g2
 have c3:=xK k2
 obtain⟨s3,om⟩:∃s3,s2++[Ob.lst (bs.map (i_ hs))]=s3:=⟨_,rfl⟩
 rw[om] at c3
 have G3:Gr s2 s3:=by rw[<-om];exact Gr.push
 have L3:s3.length=s2.length+1:=by rw[<-om];simp
 have k3:ai s3 s2.length=some (bs.map (i_ hs)):=by rw[<-om];exact az
 obtain⟨lo,s4,e4,g4,b4,G4⟩:=vV (st:=s3) (w:=.ref s2.length) (o:=some s2.length) T (mU k3) k3 b2 (by omega)
 obtain⟨cs,hcs⟩:∃cs,bB rows bs=cs:=⟨_,rfl⟩
 rw[hcs] at g4
 obtain⟨od,hod⟩:∃od:List Int,(uh rows.length cs).map (λi=>((i:Nat):Int))=od:=⟨_,rfl⟩
 have oW:nW (uh rows.length cs)=od.map Wv.int:=by rw[ML,hod]
 have X7:od.length<=12:=by rw[<-hod,aH,(m6 _ _).length_eq,List.length_range];exact T.rw'
 have ro:iB (bB rows bs) rows.length od=true:=by rw[hcs,<-hod];exact xM
 rw[oW] at g4
 have k4:=(G3.trans G4).lst k2
 obtain⟨s5,e5,G5⟩:=rY (st:=s4) T k4 b2 (aB g4) (by omega)
 rw[ro] at e5
 have i4:=X5 (aB g4)
 have g5:=G5.get g4
 have c6:=xK (aB g5)
 obtain⟨s6,MB⟩:∃s6,s5++[Ob.lst (od.map Wv.int)]=s6:=⟨_,rfl⟩
 rw[MB] at c6
 have G6:Gr s5 s6:=by rw[<-MB];exact Gr.push
 have d6:s6[s5.length]? =some (.lst (od.map Wv.int)):=by rw[<-MB];exact cn
 have g6:=G6.get g5
 have km:=λga ρ=>oH (mt:=j') (ga:=ga) (ρ:=ρ) (aB g6)
 have ap:=qg (v:=.int 5) g6 (by rw[aH];unfold lim;omega)
 obtain⟨s7,MC⟩:∃s7,s6.set lo (.lst (od.map Wv.int++[.int 5]))=s7:=⟨_,rfl⟩
 rw[MC] at ap
 have K7:bP lo s6 s7:=by rw[<-MC];exact bP.set
 have G7:Gr s3 s7:=(G4.trans (G5.trans G6)).tW b4 K7
 have Y3:=jy g5
 have d7:s7[s5.length]? =some (.lst (od.map Wv.int)):=by rw[<-MC,fX (by omega)];exact d6
 have k7:ai s7 s1.length=some (bs.map (i_ hs)):=(G3.trans G7).lst k2
 have t7:=zc k7
 obtain⟨l8,s8,e8,g8,b8,G8⟩:=vV (st:=s7) (w:=.tup (bs.map (i_ hs))) (o:=none) T Mo trivial b2 (by omega)
 rw[hcs,oW] at g8
 have d8:=G8.get d7
 have n8:=um (aB g8) (aB d8)
 have k8:=G8.lst k7
 obtain⟨s9,e9,G9⟩:=nL (st:=s8) (w:=.ref s1.length) (o:=some s1.length) T (mU k8) k8 b2 (by omega) d8 (by omega)
 rw[ro] at e9
 have iN:∀st:Hs,yQ (.bl true) (.bl true) st= .ok (.bl false) st:=λ_=>rfl
 have d9:=G9.get d8
 have fq:=ir (st:=s9) (i:=n) (j:=1000) ⟨by decide,by decide⟩
 obtain⟨X8,yg,ls,FR,PM,X9,TY,Y4⟩:=T4 (st:=s9) (m:=n.fdiv 1000) d9 X7
 have kb:=(G9.trans TY).lst k8
 obtain⟨X_,EF,M0,⟨p6,p7,rfl,X'⟩,Y5⟩:=vH (i:=6) (gb:=ma) (l:=X8) (all:=ls.map Wv.ref) Wv.ref ls (λ_ ρ st'=>∃p6 p7:Option Wv,ρ=[some (.ref 0),some (aX hs rows),some (.int n),some (.ref s1.length),some (.ref lo),some (.ref s5.length),p6,p7,none,none]/\Gr yg st')
  (λa pre post ρ st' hf hP hl=>by
   obtain⟨p6,p7,rfl,G⟩:=hP
   obtain⟨xs,ex,lx⟩:=X9 a (by rw[hf];simp)
   obtain⟨q7,s12,Ya,QW⟩:=A5 (o0:=some (.ref 0)) (o2:=some (.int n)) (o4:=some (.ref lo)) (o5:=some (.ref s5.length)) (o7:=p7) (o8:=none) (o9:=none) T (G.lst kb) b2 (by omega) (G.get ex) lx
   exact⟨_,s12,Ya,QW.lst hl,_,_,rfl,G.trans QW⟩)
  ls [] [some (.ref 0),some (aX hs rows),some (.int n),some (.ref s1.length),some (.ref lo),some (.ref s5.length),none,none,none,none] yg rfl ⟨_,_,rfl,Gr.refl⟩ PM
 have kc:=X'.lst kb
 have ln:=y8 kc
 rw[aH] at ln
 have f7:=ir (st:=EF) (i:=n) (j:=7) ⟨by decide,by decide⟩
 have m7:=gm (st:=EF) (i:=n.fdiv 7) (j:=(bs.length:Int)+1) (by omega)
 obtain⟨a,ha,la⟩:∃a:Nat,(n.fdiv 7).fmod ((bs.length:Int)+1)=(a:Int)/\a<=bs.length:=⟨((n.fdiv 7).fmod ((bs.length:Int)+1)).toNat,by have:=i5 (x:=n.fdiv 7) (m:=(bs.length:Int)+1) (by omega);omega,by have:=i5 (x:=n.fdiv 7) (m:=(bs.length:Int)+1) (by omega);omega⟩
 rw[ha] at m7
 have sa:=vG (lo:=none) (hi:=some (a:Int)) kc
 rw[Ey (by rw[aH];exact la)] at sa
 obtain⟨A,hA⟩:∃A,(bs.map (i_ hs)).take a=A:=⟨_,rfl⟩
 rw[hA] at sa
 obtain⟨s12,MM⟩:∃s12,EF++[Ob.lst A]=s12:=⟨_,rfl⟩
 rw[MM] at sa
 have QW:Gr EF s12:=by rw[<-MM];exact Gr.push
 have Yb:ai s12 EF.length=some A:=by rw[<-MM];exact az
 obtain⟨MN,MO⟩:∃MN,s12++[Ob.lst [.tup [.str "z",.int 1]]]=MN:=⟨_,rfl⟩
 have V8:Gr s12 MN:=by rw[<-MO];exact Gr.push
 have QV:ai MN s12.length=some [.tup [.str "z",.int 1]]:=by rw[<-MO];exact az
 have lA:A.length<=10:=by rw[<-hA,h_,aH];omega
 have a1:=add_l (V8.lst Yb) QV (by simp;unfold lim;omega)
 obtain⟨MP,MQ⟩:∃MP,MN++[Ob.lst (A++[.tup [.str "z",.int 1]])]=MP:=⟨_,rfl⟩
 rw[MQ] at a1
 have Yc:Gr MN MP:=by rw[<-MQ];exact Gr.push
 have Yd:ai MP MN.length=some (A++[.tup [.str "z",.int 1]]):=by rw[<-MQ];exact az
 have sb:=vG (lo:=some (a:Int)) (hi:=none) ((QW.trans (V8.trans Yc)).lst kc)
 rw[Ez (by rw[aH];exact la)] at sb
 obtain⟨B,hB⟩:∃B,(bs.map (i_ hs)).drop a=B:=⟨_,rfl⟩
 rw[hB] at sb
 obtain⟨M_,MR⟩:∃M_,MP++[Ob.lst B]=M_:=⟨_,rfl⟩
 rw[MR] at sb
 have Ye:Gr MP M_:=by rw[<-MR];exact Gr.push
 have Yf:ai M_ MP.length=some B:=by rw[<-MR];exact az
 have lB:B.length<=10:=by rw[<-hB,jk,aH];omega
 have a2:=add_l (Ye.lst Yd) Yf (by simp;unfold lim;omega)
 obtain⟨QX,PV⟩:∃QX,M_++[Ob.lst (A++[.tup [.str "z",.int 1]]++B)]=QX:=⟨_,rfl⟩
 rw[PV] at a2
 have V9:ai QX M_.length=some (((bs.take a).map some++none::(bs.drop a).map some).map (Bd hs)):=by
  have e:((bs.take a).map some++none::(bs.drop a).map some).map (Bd hs)=A++[.tup [.str "z",.int 1]]++B:=by
   rw[<-hA,<-hB,ug,aZ,bW,bW,ij,<-oI,<-mV]
   rfl
  rw[e,<-PV]
  exact az
 have bp:∀b∈bs.take a,b.1 < hs.length:=λb hb=>b2 b (G_ hb)
 have lp:(bs.take a).length<=10:=by rw[h_];omega
 obtain⟨Yg,Yh,Yi⟩:=refused (st:=QX) (way:=0) T (.inl rfl) V9 bp lp
 obtain⟨Yj,Yk,Y6⟩:=refused (st:=Yg) (way:=1) T (.inr rfl) (Yi.lst V9) bp lp
 refine⟨Yj,dv (n:=10) (g:=zb) ?_⟩
 unfold zb
 simp[EE,su,mx,M8,e2,c3,e4,i4,e5,c6,km,ap,t7,e8,n8,e9,iN,fq,FR,Mn PM,M0,f7,ln,m7,sa,MO,a1,sb,a2,Yh,Yk]
end K73
namespace PySem.W.Fast
def tw4828577460777612149:=()
def tw17038330105662381347:=()
def tw7016114787781779389:=()
def tw12010928473328092331:=()
def tw12703568202277416429:=()
def tw12612883367073743180:=()
def tw11027102145811466913:=()
def tw10104595800279999849:=()
def tw9286924386377204572:=()
def tw11527493001668066170:=()
def tw9212834103661835467:=()
def tw2372171192275702976:=()
def tw8947487736939625924:=()
def tw4859909569750866202:=()
def tw9191651102242861165:=()
def tw18091983333067814132:=()
def tw17768137413141491984:=()
def tw12567155151240661912:=()
def tw6047016880294050836:=()
def tw17781231595181849153:=()
def tw9327543881033473463:=()
def tw2478029660756852716:=()
def tw10348633949920443779:=()
def tw6108490885206692019:=()
def tw9163931525947625449:=()
def tw17541177810939745802:=()
def tw11724783280437978339:=()
def tw16015064355890516600:=()
def tw11587642142649288393:=()
def tw11849708324434599401:=()
def tw18288849767255941877:=()
def tw17619323609023250839:=()
def tw12215038864086509332:=()
def tw11318270019524695870:=()
def tw1541811278642004636:=()
def tw7620314045949431764:=()
def tw11346294946204278796:=()
def tw14131708725715352665:=()
def tw17348381867555775634:=()
def tw139363612737444930:=()
def tw8115007292211594320:=()
def tw1730551140950441401:=()
def tw4578827051748752812:=()
def tw8803845999160525342:=()
def tw8187373040010632759:=()
def tw8230363359395159793:=()
def tw11220717014015864701:=()
def tw12288318390164692382:=()
def tw5967380346206622579:=()
def tw9010396192608920554:=()
def tw11913039161612079865:=()
def tw14032519167607013317:=()
def tw1770669292905135970:=()
def tw2860257185113037416:=()
def tw10371793679005221903:=()
def tw5701199474851766712:=()
def tw2717069552194486324:=()
def tw15770618597205669820:=()
def tw15449113149172257186:=()
def tw13650563938889936402:=()
def tw12001136287309289768:=()
def tw10950036378873055080:=()
def tw15017498841441807414:=()
def tw10043194078269136611:=()
def tw12733742035892677413:=()
def tw11600445540460585812:=()
def tw16027911427481262733:=()
def tw17776285504464036397:=()
def tw6420882916844519541:=()
def tw554633956952973464:=()
def tw184992004371792362:=()
def tw14519271109223670872:=()
def tw2080287959690058604:=()
def tw7153026427592397333:=()
def tw17160349969412749818:=()
def tw15358118421479649743:=()
def tw11304536717714127115:=()
def tw13430725312798451108:=()
def tw18318358248533353926:=()
def tw2929726808714207159:=()
def tw16565838192849761524:=()
def tw13534202491296632091:=()
def tw10796139421522002095:=()
def tw6371309588572285903:=()
def tw16175924573361471376:=()
def tw1764147969108068437:=()
def tw10998065013464459431:=()
def tw11911270283945473630:=()
def tw2976762287262538365:=()
def tw4774066409588904322:=()
def tw11388416006893656584:=()
def tw12245977020815622843:=()
def tw15011820694110925406:=()
def tw13453541255587648809:=()
def tw10014379056501793106:=()
def tw12587139609303993273:=()
def tw11551578922301772701:=()
def tw9004560493607119172:=()
def tw13641658681754057957:=()
def tw11380985780259342290:=()
def tw10839062698700442703:=()
def tw12182550644489949345:=()
def tw12481708726131024318:=()
def tw12204754784652498584:=()
def tw18259040634428214641:=()
def tw6946949687027066375:=()
def tw16710612043876072141:=()
def tw18366011041781055058:=()
def tw13980668419177977252:=()
def tw15878170161634393813:=()
def tw574567810195615575:=()
def tw11843426991302168353:=()
def tw4020839458880519028:=()
def tw10513445306134313791:=()
def tw4227482182248856037:=()
def tw8362481545320911897:=()
def tw5028097417729823270:=()
def tw5833001847635135149:=()
def tw4597469210147195543:=()
def tw17315781907316752878:=()
def tw16010844236615387447:=()
def tw17739127124219151488:=()
def tw11267530746031688161:=()
def tw11100063178552750195:=()
def tw4014865248275792076:=()
def tw6680422092673469956:=()
def tw9139340846447398903:=()
def tw3322957846736388409:=()
def tw15679567930930066406:=()
def tw5278240611949404047:=()
def tw12328769891323809286:=()
def tw11442959076497554801:=()
def tw13360850259371806976:=()
def tw16981003450849757327:=()
def tw2510573022030480778:=()
def tw8097830931032800082:=()
def tw2376818257641788204:=()
def tw16510636566825510116:=()
def tw11206039112101688298:=()
def tw3189127552831811194:=()
def tw146895376403636110:=()
def tw15178025704405076633:=()
def tw8845511204873878279:=()
def tw8675009543751045189:=()
def tw8394189334610555130:=()
def tw3197748217087471058:=()
def tw14617948677182106386:=()
def tw12210620507080731891:=()
def tw13803264151629462636:=()
def tw9769339215812979559:=()
def tw11361655171180751729:=()
def tw9894375549188223544:=()
def tw14367749464926880685:=()
end PySem.W.Fast
namespace K73
open PySem PySem.W PyProof.Rows
set_option maxHeartbeats 0 in
open_top head for PySem.Challenge.rw_onelook_k73_rows_in_order
open PySem J
open PySem.W (nsIn kitOne findIn excIn mroIn codeIn keepIn fnOf mg_of mg_none_of tabIn)
open L2 (defScope defBody defArgs FnScope CX0 FnOk XK Hp)
set_option autoImplicit true in
theorem all_mk{l:PySem.W.OpenLaw}{w:Zr}{K:PySem.W.Frag}{h:Heap}{mg:Str->Option Zq}{fa:Zk}(X:K.In h)(G:h.Ns ZA mg)(Yl:mg "law"=some (.ref fa))
    (d1:J.dq K "_law_mix" iS)
    (d2:J.dq K "_law_digits" eT)
    (d3:J.dq K "_law_worths" eW)
    (d4:J.dq K "_law_table" fH)
    (d5:J.dq K "_law_by" j3)
    (d6:J.dq K "order_key" gX)
    (d7:J.dq K "column_of" g0)
    (d8:J.dq K "columns_by" fK)
    (a9:nsIn K ZA "ordered"=some (some (.ref f9)))(l9:K.lookup f9=some ⟨Y7,Y8,.func (fnOf "ordered" "ordered" (defArgs fV) (defBody fV) (defScope fV) .none Y9 Y_ Y' Za (.ref QY) Zb),Zc⟩)(c9:codeIn K (.ref QY) "ordered"=true)(k9:keepIn K (.ref f9)=true)
    (T7:J.dq K "order_by" iW)
    (T8:J.dq K "_law_bent" g_)
    (T9:J.dq K "goes_ahead" fL)
    (T_:J.dq K "right_order" fb)
    (Ua:J.dq K "_law_refused" d_)
    (Ub:J.dq K "_law_rank" hJ)
    (Uc:J.dq K "_law_ahead" fN)
    (Ud:J.dq K "_law_right" fQ)
    (Ue:J.dq K "law" za)
    (z0:nsIn K ZA "range"=some none)
    (z1:nsIn K ZA "len"=some none)
    (z2:nsIn K ZA "tuple"=some none)
    (z3:nsIn K ZA "sum"=some none)
    (z4:nsIn K ZA "isinstance"=some none)
    (z5:nsIn K ZA "str"=some none)
    (z6:nsIn K ZA "list"=some none)
    (z7:nsIn K ZA "sorted"=some none)
    (z8:nsIn K ZA "reversed"=some none)
    (z9:nsIn K ZA "all"=some none)
    (Ug:nsIn K ZA "zip"=some none)
    (Uh:nsIn K ZA "int"=some none)
    (Ui:nsIn K ZA "bool"=some none)
    (EJ:nsIn K ZA "NoColumn"=some (some (.ref X0)))(PX:excIn K X0 zU zV=true)(Uj:findIn K (.ref X0) "__getattribute__"=some (some (.builtin "BaseException.__getattribute__")))(Uk:findIn K (.ref X0) "__getattr__"=some none)(Ul:findIn K (.ref X0) "__class__"=some (some (.builtin "object.__class__")))
    (M':nsIn K ZA "SheetError"=some (some (.ref X1)))(QZ:excIn K X1 zU zV=true)
    (Um:kitOne K (.ref X0) (.ref X0)=some true)
    (Uo:kitOne K (.ref X0) (.ref X1)=some true)
    (Uq:mroIn K X0 (.ref X1)=some true)
    (Ur:kitOne K (.ref X0) (.type "ValueError")=some true)
    (PY:K.lookup QY=some ⟨.type "code",Zd,.fields Na,Ze⟩)(PZ:Na[11]? =some (.ref IM))(Us:Na.getD 11 .none= .ref IM)(Ut:Na.getD 18 .none= .str Zf Zg)(Uu:Na.getD 7 .none= .int Ym Zh)(Uv:Na.getD 9 .none= .bool Zi)(Uw:Na.getD 10 .none= .int Yn Zj)(Ux:QY≠IM)(Q0:K.lookup IM=none)(Uy:IM∈ts)
    (Uz:nsIn K ZA "form_of"=some none)
    (UA:nsIn K ZA "formula_by"=some none)
    (UB:nsIn K ZA "turned"=some none)
    (UC:nsIn K ZA "readied_content"=some none) :
    J.y3 K ts/\∃fd:Zm,(∀(s:Zp)(u:Zq),BindsTo s fd ⟨[u],[]⟩ [("script",u)])/\∀base:Heap,J.ka K mg base->FnOk l.prog w K mg base (CXJ l.prog w) 7 fa fd ["script"] (spW K 1 F_law):=by
  have V_:tabIn K "ordered"=some (QY,IM):=by
    unfold tabIn
    rw[a9]
    dsimp only
    rw[l9]
    dsimp only
    rw[PY]
    dsimp only
    rw[PZ]
  have UD:tabIn K "form_of"=none:=by
    unfold tabIn
    rw[Uz]
  have UE:tabIn K "formula_by"=none:=by
    unfold tabIn
    rw[UA]
  have UG:tabIn K "turned"=none:=by
    unfold tabIn
    rw[UB]
  have UH:tabIn K "readied_content"=none:=by
    unfold tabIn
    rw[UC]
  have Yo:J.bq K "ordered"=some IM:=J.y6 V_ Q0
  have P0:J.bq K "form_of"=none:=by
    unfold J.bq
    rw[UD]
  have P4:J.bq K "formula_by"=none:=by
    unfold J.bq
    rw[UE]
  have P5:J.bq K "turned"=none:=by
    unfold J.bq
    rw[UG]
  have P6:J.bq K "readied_content"=none:=by
    unfold J.bq
    rw[UH]
  have T:J.y3 K ts:=λq P hq t=>by
    simp only[J.a8,gQ,gR,or_false] at hq
    rcases hq with rfl | rfl | rfl | rfl | rfl
    · rw[P0] at t;cases t
    · rw[P4] at t;cases t
    · rw[P5] at t;cases t
    · rw[P6] at t;cases t
    · rw[Yo] at t;cases t;exact⟨Uy,_,_,_,PY,rfl,rfl,PZ⟩
  have U9:∀q,q∈J.a8->J.bq K q=some IM->q="ordered":=λq hq t=>by
    simp only[J.a8,gQ,gR,or_false] at hq
    rcases hq with rfl | rfl | rfl | rfl | rfl
    · rw[P0] at t;cases t
    · rw[P4] at t;cases t
    · rw[P5] at t;cases t
    · rw[P6] at t;cases t
    · rfl
  have Yp:J.xy K mg "ordered" IM:=J.GX (by decide) V_ Q0 PY rfl rfl PZ Us Ut Uu Uv Uw Ux U9
  refine⟨T,?_⟩
  refine J.D_ X G Yl Ue (λ_ _ _ _ _ _ s u=> .of_eq rfl) (λf fd Fu base M=>?_)
  have Z0:=mg_none_of X G z0
  have Z1:=mg_none_of X G z1
  have Z2:=mg_none_of X G z2
  have Z3:=mg_none_of X G z3
  have Z4:=mg_none_of X G z4
  have Z5:=mg_none_of X G z5
  have Z6:=mg_none_of X G z6
  have Z7:=mg_none_of X G z7
  have Z8:=mg_none_of X G z8
  have Z9:=mg_none_of X G z9
  have Yq:=mg_none_of X G Ug
  have Yr:=mg_none_of X G Uh
  have Ys:=mg_none_of X G Ui
  have E0:J.lG K X0:=⟨PX,Uj,Uk,Ul⟩
  have cl:∀{x:Str}{C:Zk},J.ClsAt K x C->∃C,mg x=some (.ref C)/\J.ClsAt K x C:=λh=>⟨_,mg_of X G h,h⟩
  have TB:TabOk K jf mW Ei:=J.Md ⟨⟨X0,X0,EJ,EJ,E0,Um⟩,⟨X0,X1,EJ,M',E0,Uo⟩,trivial⟩ ⟨⟨X0,EJ,E0,Ur⟩,trivial⟩ ⟨⟨X0,X1,EJ,M',PX,QZ,Uq⟩,trivial⟩
  have H1:J.HB l.prog w K mg 1 "_law_mix" 2 eN:=λbase M=>J.hdf X G d1 (J.tk (c:=kO) (k:=0) TB) vI xB
  have H2:J.HB l.prog w K mg 2 "_law_digits" 3 eV:=λbase M=>J.hdf X G d2 (J.tk (c:=iu) (k:=1) TB ⟨(H1 base M).mo,trivial⟩ (hb:=⟨Z0,trivial⟩)) qh qL
  have H3:J.HB l.prog w K mg 3 "_law_worths" 2 eZ:=λbase M=>J.hdf X G d3 (J.tk (c:=iz) (k:=2) TB ⟨(H2 base M).mo,trivial⟩ (hb:=⟨Z1,trivial⟩)) qi qM
  have H4:J.HB l.prog w K mg 4 "_law_table" 3 dY:=λbase M=>J.hdf X G d4 (J.tk (c:=iU) (k:=3) TB ⟨(H3 base M).mo,trivial⟩ (hb:=⟨Z2,Z3,Z0,trivial⟩)) qN tX
  have H5:J.HB l.prog w K mg 1 "_law_by" 2 j5:=λbase M=>J.hdf X G d5 (J.tk (c:=mX) (k:=0) TB (hb:=⟨Z0,Z1,trivial⟩)) xC AZ
  have H6:J.HB l.prog w K mg 1 "order_key" 1 gZ:=λbase M=>J.hdf X G d6 (J.tk (c:=jz) (k:=0) TB (hb:=⟨Z4,Z5,trivial⟩)) tY vJ
  have H7:J.HB l.prog w K mg 1 "column_of" 2 fm:=λbase M=>J.hdf X G d7 (J.tk (c:=jA) (k:=0) TB (hb:=⟨Z6,trivial⟩) (hk:=⟨⟨X0,mg_of X G EJ,⟨EJ,PX⟩⟩,trivial⟩)) tZ vL
  have H8:J.HB l.prog w K mg 2 "columns_by" 2 cF:=λbase M=>J.hdf X G d8 (J.tk (c:=iV) (k:=1) TB ⟨(H6 base M).mo,(H7 base M).mo,trivial⟩) qO t_
  have H9:J.HB l.prog w K mg 4 "ordered" 3 j7:=λbase M=>J.hdf X G (J.wN a9 l9 c9 k9) (J.tk (c:=mY) (k:=3) TB (hb:=⟨Z7,trivial⟩) (hx:=J.GY rfl trivial trivial (λ_=>⟨_,Yp⟩) (by decide))) xD A0 (λ_=>⟨M,rfl⟩)
  have A_:J.HB l.prog w K mg 5 "order_by" 2 cS:=λbase M=>J.hdf X G T7 (J.tk (c:=kP) (k:=4) TB ⟨(H8 base M).mo,(H9 base M).mo,trivial⟩ (hb:=⟨Z6,Z8,Z0,Z1,trivial⟩)) vM xE
  have RU:J.HB l.prog w K mg 1 "_law_bent" 2 hG:=λbase M=>J.hdf X G T8 (J.tk (c:=jB) (k:=0) TB (hb:=⟨Z6,Z1,Z7,Z8,trivial⟩)) ua vN
  have Yt:J.HB l.prog w K mg 1 "goes_ahead" 3 dZ:=λbase M=>J.hdf X G T9 (J.tk (c:=iX) (k:=0) TB) qP ub
  have V':J.HB l.prog w K mg 3 "right_order" 3 bS:=λbase M=>J.hdf X G T_ (J.tk (c:=iA) (k:=2) TB ⟨(H8 base M).mo,(Yt base M).mo,trivial⟩ (hb:=⟨Z9,Z7,Z6,Z0,Z1,Yq,trivial⟩)) qj qQ
  have Yu:J.HB l.prog w K mg 6 "_law_refused" 3 cz:=λbase M=>J.hdf X G Ua (J.tk (c:=gn) (k:=5) TB ⟨(A_ base M).mo,(V' base M).mo,trivial⟩ (hb:=⟨Z4,trivial⟩) (hk:=⟨⟨X1,mg_of X G M',⟨M',QZ⟩⟩,trivial⟩) (hn:=⟨cl EJ,trivial⟩)) nR qk
  have Yv:J.HB l.prog w K mg 1 "_law_rank" 1 cU:=λbase M=>J.hdf X G Ub (J.tk (c:=jC) (k:=0) TB (hb:=⟨Yr,Z4,Z5,trivial⟩)) ud vO
  have Yw:J.HB l.prog w K mg 2 "_law_ahead" 4 fP:=λbase M=>J.hdf X G Uc (J.tk (c:=iY) (k:=1) TB ⟨(Yv base M).mo,trivial⟩) qR ue
  have Yx:J.HB l.prog w K mg 3 "_law_right" 3 eD:=λbase M=>J.hdf X G Ud (J.tk (c:=iZ) (k:=2) TB ⟨(Yw base M).mo,trivial⟩ (hb:=⟨Z0,Z7,Z6,Z1,trivial⟩)) qS uf
  exact J.Mc Fu (J.vD (c:=Ej) (k:=6) trivial ⟨Z6,Z3,Z4,Z1,Z2,Ys,trivial⟩ ⟨(H4 base M).mono (by decide),(H1 base M).mono (by decide),(H5 base M).mono (by decide),(A_ base M).mono (by decide),(RU base M).mono (by decide),(V' base M).mono (by decide),(Yu base M).mono (by decide),(Yx base M).mono (by decide),trivial⟩ TB trivial trivial trivial) Mr rfl PH
end K73
open PySem PySem.W PyProof.Rows
set_option maxRecDepth 100000 in
set_option maxHeartbeats 0 in
theorem PySem.Challenge.cw_onelook_k73_rows_in_order_holds : PySem.Challenge.rw_onelook_k73_rows_in_order.Holds := by
  refine K73.head ?_
  k_fill
  refine J.walk_ofT (l:=PySem.Challenge.rw_onelook_k73_rows_in_order) (n:=63) (k:=7) (x:="script") (CX:=fun w => J.CXJ PySem.Challenge.rw_onelook_k73_rows_in_order.prog w) (sp:=fun w => J.spW _ 1 K73.F_law) rfl (by decide) rfl ⟨rfl,by decide,by decide⟩ (fun w h Y => ⟨PySem.W.km_in_of Y,PySem.W.km_tabs_of Y⟩) ?F (fun w H a ns hl hO hS hT => J.law_sp K73.law_true H a ns hl hO hS hT) (fun _ _ _ _ _ z => z.elim fun _ y => y.elim fun _ x => x.2)
  case F=>
    intro w mg fa h KX G hmg
    refine' K73.all_mk KX G hmg ?d1 ?d2 ?d3 ?d4 ?d5 ?d6 ?d7 ?d8 ?a9 ?l9 ?c9 ?k9 ?T7 ?T8 ?T9 ?T_ ?Ua ?Ub ?Uc ?Ud ?Ue ?z0 ?z1 ?z2 ?z3 ?z4 ?z5 ?z6 ?z7 ?z8 ?z9 ?Ug ?Uh ?Ui ?EJ ?PX ?Uj ?Uk ?Ul ?M' ?QZ ?Um ?Uo ?Uq ?Ur ?PY ?PZ ?Us ?Ut ?Uu ?Uv ?Uw ?Ux ?Q0 ?Uy ?Uz ?UA ?UB ?UC
    case d1 | d2 | d3 | d4 | d5 | d6 | d7 | d8=>refine' J.wN ?a ?l ?c ?k;(case a=>k_is);(case l=>k_is);(case c=>k_is);(case k=>k_is)
    case a9 | l9 | c9 | k9=>k_is
    case T7 | T8 | T9 | T_ | Ua | Ub | Uc | Ud | Ue=>refine' J.wN ?a ?l ?c ?k;(case a=>k_is);(case l=>k_is);(case c=>k_is);(case k=>k_is)
    case z0 | z1 | z2 | z3 | z4 | z5 | z6 | z7 | z8 | z9 | Ug | Uh | Ui | EJ=>k_is
    case PX=>k_exc
    case Uj | Uk | Ul | M'=>k_is
    case QZ=>k_exc
    case Um | Uo=>kit_is
    case Uq=>k_is
    case Ur=>kit_is
    case PY=>k_is
    case PZ | Us | Ut | Uu | Uv | Uw=>rfl
    case Ux=>decide
    case Q0=>rfl
    case Uy=>decide
    case Uz | UA | UB | UC=>k_is
