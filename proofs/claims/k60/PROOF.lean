import PyProof.Rows.All
import Wide.All
import OpenK.AllK
import Wide.FinOn
import Lean
import PyProof.EqAt
import PyProof.EqKinds
import PyProof.TupleCall
import PySem.Challenge.RW_onelook_k60_blocks_refused
open PySem.Around renaming frames_deeper→R7
open Array renaming all_eq_true_iff_forall_mem→SV,getD_eq_getD_getElem?→TR,getElem?_eq_getElem→TK,length_toList→DH
open Bool renaming and_eq_true→cO,false_and→Al,false_eq_true→pD,false_ne_true→cT,not_false→Be,not_true→rA,or_eq_true→Eu,true_and→F1
open PySem.Builtin.Dict renaming addKeywords→OJ,dictSlotArgs→zm,merge→OG,mergeDict→OI,readDirectly→OH,samePairs→OL,selfAndRest→OF,showsAll→FX,updateFrom→zj
open PySem.Builtin.List renaming listTooLong→qF
open PySem.Builtin.Range renaming rangeSize→qy,small→OC
open PySem.Builtin.Slice renaming sliceAdjust→DS,sliceApplied→MX,slicePlaces→yp
open PySem.Builtin.SmallTypes renaming nextOf→my,ownedTupleHandOut→Oz,ownedTupleIsFree→zc
open PySem.Builtin.Str renaming occurrences→yh
open PySem.Builtin.Tuple renaming tupleExact→yq,tupleHashOf→OK,tupleIsExact→Od,tupleItemsOf→MY
open PySem.Builtin renaming divisionGoesByPylong→OD
open PySem.Calls renaming Name_function_global→Mt,callWith_builtin→yv,evalArgs_plain→uP,spliced_cons→l_,spliced_nil→uE
open Classical renaming propDecidable→EH
open PySem.EntryCells renaming newEntry→Nj
open PySem.F renaming args_tuple_iterator_next_1→Oy,entry_tuple_iterator_next→Ox,slot_tuple_iterator_next→y9,slot_zip_next→zd,typeOf_object_class→EM
open False renaming elim→ae
open ForInStep renaming yield→ml
open PySem.Heap renaming IsTuple→FG,MadeExcOf→uV,SameBut→jW,get?_none_of_le→Ml,get?_push_of_some→aF,get?_push_size→br,get?_update_other→n9,get?_update_self→n8,lt_size→aC,size_push→rf
open PySem.Heap.IsTuple renaming push→FH
open PySem.Heap.SameBut renaming update→y_
open PySem.Heap.UpToSlots renaming refl→NJ
open Int renaming fmod_lt_of_pos→oZ,fmod_nonneg_of_pos→kK,le_refl→yS,le_trans→yJ,toNat_natCast→FE
open PySem.IsRange renaming new→DM
open List renaming all_cons→eI,all_eq_true→rJ,any_cons→iG,append_assoc→n_,append_nil→fk,cons_append→yZ,contains_cons→yM,drop_eq_getElem_cons→mj,drop_length→oo,drop_of_length_le→E7,drop_sublist→E6,drop_zero→jk,eq_nil_of_length_eq_zero→Em,filterMap_cons→uB,filter_cons→uS,filter_cons_of_neg→yX,filter_cons_of_pos→FA,find?_cons→og,flatten_cons→qD,foldl_cons→DW,forIn_cons→oA,forIn_nil→yW,getD_eq_getElem?_getD→N_,getElem?_append_left→eG,getElem?_append_right→fW,getElem?_cons_succ→vW,getElem?_cons_zero→vV,getElem?_eq_getElem→fm,getElem?_map→iF,getElem?_replicate→uH,getElem?_set_ne→fB,getElem?_set_self→jb,length→jf,length_append→bZ,length_cons→p_,length_drop→p5,length_map→hU,length_nil→Av,length_replicate→jg,length_singleton→IX,length_take→kZ,lookup→nB,lookup_cons→cq,map_append→nZ,map_cons→aK,map_map→ij,map_nil→m6,mem_append_left→mU,mem_append_right→dq,mem_cons→aP,mem_cons_of_mem→aO,mem_cons_self→bw,mem_of_getElem?→An,nil_append→mZ,nodup_cons→jn,nodup_nil→hZ,not_mem_nil→aR,of_mem_zip→uG,pairwise_append→ve,perm_append_comm→JD,range→gn,range'→jl,range_succ→BI,replicate→aH,replicate_succ→hX,set_cons_succ→qp,set_cons_zero→qo,size_toArray→aT,take_append_drop→AZ,take_of_length_le→qg,take_sublist→Am
open PySem.NameKind renaming cell→qd,free→du
open Nat renaming le_add_left→A0,le_of_eq→nr,le_of_lt→mS,le_refl→au,le_trans→bu,lt_irrefl→cI,lt_of_lt_of_le→aY,mul_comm→Au,ne_of_gt→kX,ne_of_lt→aZ,sub_eq_zero_of_le→JF,sub_self→ni,succ_le_succ→uY,succ_mul→As,zero_add→lL,zero_le→bG
open Ne renaming symm→ay
open PySem.Obj renaming data_mapFields→qa,isFreed_of_fields→Ay,mapFields→ng,mapSeq→k_
open Option renaming map_some→qf
open Or renaming inr→lp
open PUnit renaming unit→qi
open PySem.PassesOwn renaming leaving→KA
open PySem.PyData renaming eqv→bI,eqvAll→iD,list→uZ,strOk→bg,tuple→uX
open PyProof.Rows renaming callWith_type1→kY,intBits_le→KH,slot_tuple_getitem→uI,Keyed→afY,SortSt→afZ
open PySem.SeqAt.EqAt renaming int_str→Io,str_int→Ip
open PySem.Shared renaming TypeIs→qj,heap→Bb
open Std.Legacy.Range renaming forIn_eq_forIn_range'→Kc
open PySem.Str renaming ofString→hV
open Sum renaming inl→hJ,inr→kT
open True renaming intro→uQ
open PySem.Txt renaming slice→lC
open PySem.Value renaming builtin→lz,int→pY,none→bY,ref→aN,str→pZ,type→uA
open PySem renaming Addr→afw,Around→afx,FuncData→afy,NameKind→afz,Program→afA,Shared→afB,Value→afC,World→afD,behindInMarks→afE,binaryOp→afF,bootBuiltins→afG,codeAny→afH,compPost→afI,compareOp→afJ,foldedSetIterable→afK,isSubtype_type→afL,mainGlobals→afM,sizeLine→afN,starEach→afO,wpAny→afP,wpAny_bind→afQ,wpAny_dictEntries→afR,wpAny_holding→afS,wpAny_mono→afT,wpAny_newList→afU,wpAny_newObj_type→afV,wpAny_pure→afW,wpAny_truthy_bool→afX
noncomputable section
set_option Elab.async false
set_option linter.all false
set_option maxRecDepth 100000
namespace L2
open PySem PySem.Spec PyProof.Rows
abbrev Key:=Sum Int Str
def sW:Key->afC->Bool
 | .inl k,v=>Value.isInt k v
 | .inr x,v=>Value.isStrOf x v
def Wa(w:afD):Key->Int
 | .inl k=>hashInt k
 | .inr x=>hashStr w x
theorem cb:∀{k:Key}{v:afC},sW k v=true->(∃i t,k=hJ i/\v=pY i t)\/(∃x t,k=kT x/\v=pZ x t)
 | .inl i,v,h=>by
  obtain⟨t,e⟩:=Value.isInt_shape (k:=i) (v:=v) h
  exact .inl ⟨i,t,rfl,e⟩
 | .inr x,v,h=>by
  obtain⟨t,e⟩:=Value.isStrOf_shape (x:=x) (v:=v) h
  exact .inr ⟨x,t,rfl,e⟩
theorem BO(i:Int)(t:Tok):sW (.inl i) (.int i t)=true:=by simp[sW,Value.isInt]
theorem BP(x:Str)(t:Tok):sW (.inr x) (.str x t)=true:=by simp[sW,Value.isStrOf]
theorem Md(a b:Int):decide ((hJ a:Key)=hJ b)=(a == b):=by
 by_cases e:a=b
 ·subst e;simp
 ·have h:¬(hJ a:Key)=hJ b:=λq=>e (Sum.inl.inj q)
  rw[decide_eq_false h]
  exact(beq_eq_false_iff_ne.mpr e).symm
theorem Me(a b:Str):decide ((kT a:Key)=kT b)=decide (a=b):=by
 by_cases e:a=b
 ·subst e;simp
 ·have h:¬(kT a:Key)=kT b:=λq=>e (Sum.inr.inj q)
  rw[decide_eq_false h,decide_eq_false e]
theorem Mf(a:Int)(b:Str):decide ((hJ a:Key)=kT b)=false:=decide_eq_false (λq=>nomatch q)
theorem Mi(a:Str)(b:Int):decide ((kT a:Key)=hJ b)=false:=decide_eq_false (λq=>nomatch q)
def bo(prog:afA)(w:afD):PySem.KeyKind prog w Key where
 is:=sW
 hash:=Wa w
 inj:=λv a b ha hb=>by
  rcases cb ha with ⟨i,t,rfl,rfl⟩ | ⟨x,t,rfl,rfl⟩
  ·rcases cb hb with ⟨j,u,rfl,e⟩ | ⟨y,u,rfl,e⟩
   ·injection e with e1 _;rw[e1]
   ·exact nomatch e
  ·rcases cb hb with ⟨j,u,rfl,e⟩ | ⟨y,u,rfl,e⟩
   ·exact nomatch e
   ·injection e with e1 _;rw[e1]
 byValue:=λk v h=>by
  rcases cb h with ⟨i,t,rfl,rfl⟩ | ⟨x,t,rfl,rfl⟩<;>rfl
 pyHash:=λhv h=>by
  rcases cb hv with ⟨i,t,rfl,rfl⟩ | ⟨x,t,rfl,rfl⟩
  ·exact wpAny_pyHash_int h
  ·exact wpAny_pyHash_str h
 eqBool:=λhu hv h=>by
  rcases cb hu with ⟨i,t,rfl,rfl⟩ | ⟨x,t,rfl,rfl⟩
  ·rcases cb hv with ⟨j,u,rfl,rfl⟩ | ⟨y,u,rfl,rfl⟩
   ·rw[Md] at h;exact wpAny_eqBool_int h
   ·rw[Mf] at h;exact Io i t y u _ _ _ _ h
  ·rcases cb hv with ⟨j,u,rfl,rfl⟩ | ⟨y,u,rfl,rfl⟩
   ·rw[Mi] at h;exact Ip x t j u _ _ _ _ h
   ·rw[Me] at h;exact wpAny_eqBool_str h
 «strs»:=λk x t v h=>by
  rcases cb h with ⟨i,u,rfl,e⟩ | ⟨y,u,rfl,e⟩
  ·exact nomatch e
  ·injection e with e1 _
   subst e1
   cases v<;>rfl
theorem wd(prog:afA)(w:afD)(i:Int)(t:Tok):(bo prog w).is (.inl i) (.int i t)=true:=BO i t
theorem we(prog:afA)(w:afD)(x:Str)(t:Tok):(bo prog w).is (.inr x) (.str x t)=true:=BP x t
inductive V where
 | bO | bl (b:Bool) | int (i:Int) | str (x:Str) | QZ (b:Array UInt8) | U9 (b:UInt64) | ref (a:afw) | ty (n:String)
 deriving DecidableEq
def RelV:V->afC->Prop
 | .bO,u=>u=bY
 | .bl b,u=>u=Value.bool b
 | .int i,u=>∃t,u=pY i t
 | .str x,u=>∃t,u=pZ x t
 | .QZ b,u=>∃t,u=Value.bytes b t
 | .U9 b,u=>∃t,u=Value.float b t
 | .ref a,u=>u=aN a
 | .ty n,u=>u=uA n
abbrev Vals:List V->List afC->Prop:=Paired RelV
theorem Vals.length{xs:List V}{us:List afC}(r:Vals xs us):xs.length=us.length:=Paired.length r
theorem Vals.get:∀{xs:List V}{us:List afC}{i:Nat}{x:V},Vals xs us->xs[i]? =some x->∃u,us[i]? =some u/\RelV x u
 | _,_,_,_,.nil,e=>by simp at e
 | _,_,0,_,.cons r _,e=>by simp at e;subst e;exact⟨_,rfl,r⟩
 | _,_,i+1,x,.cons _ t,e=>by
  obtain⟨u,h1,h2⟩:=Vals.get (i:=i) (x:=x) t (by simpa using e)
  exact⟨u,by simpa using h1,h2⟩
theorem Vals.set{x:V}{u:afC}(r:RelV x u):∀{xs:List V}{us:List afC}(i:Nat),Vals xs us->Vals (xs.set i x) (us.set i u)
 | _,_,_,.nil=> .nil
 | _,_,0,.cons _ t=> .cons r t
 | _,_,i+1,.cons q t=> .cons q (Vals.set r i t)
theorem Vals.append:∀{xs ys:List V}{us ws:List afC},Vals xs us->Vals ys ws->Vals (xs++ys) (us++ws)
 | _,_,_,_,.nil,s=>s
 | _,_,_,_,.cons r t,s=> .cons r (Vals.append t s)
theorem Vals.take:∀{xs:List V}{us:List afC}(n:Nat),Vals xs us->Vals (xs.take n) (us.take n)
 | _,_,0,_=> .nil
 | _,_,_+1,.nil=> .nil
 | _,_,n+1,.cons r t=> .cons r (Vals.take n t)
theorem Vals.drop:∀{xs:List V}{us:List afC}(n:Nat),Vals xs us->Vals (xs.drop n) (us.drop n)
 | _,_,0,r=>r
 | _,_,_+1,.nil=> .nil
 | _,_,n+1,.cons _ t=>Vals.drop n t
def n5:Option V->Option afC->Prop
 | some v,some u=>RelV v u
 | none,none=>True
 | _,_=>False
def KV{κ:Type}:List (κ×V)->List (κ×afC)->Prop:=Paired λ(p:κ×V)(q:κ×afC)=>p.1=q.1/\RelV p.2 q.2
def kV:Key->V
 | .inl i=> .int i
 | .inr x=> .str x
inductive HO where
  | lst (xs:List V)
  | tup (xs:List V)
  | dK (kvs:List (Key×V)) | dT (kvs:List (List Key×V))
  | set (S:Int->Bool) (n:Nat)
  | ins (C dx:afw) (fs:List (Str×V))
  | own (x:afw)
  | xd (fs:List (Str×V))
  | met (f x:afw)
  | U_ (lo hi:Int)
  | hR (o:Obj) (u:HO)
  | gP (ps:Array afC)
  | ext (φ:Heap->Prop)
abbrev Hp:=afw->Option HO
def upd(H:Hp)(a:afw)(o:HO):Hp:=λb=>if b=a then some o else H b
theorem aJ{H:Hp}{a:afw}{o:HO}:upd H a o a=some o:=by unfold upd;rw[if_pos rfl]
theorem aA{H:Hp}{a b:afw}{o:HO}(h:b≠a):upd H a o b=H b:=by unfold upd;rw[if_neg h]
theorem Rz{H:Hp}{a b:afw}{o u:HO}(h:H a=some o)(h':H b=some u)(d:o≠u):a≠b:=by
 intro e;subst e;rw[h] at h';exact d (Option.some.inj h')
theorem bt{H:Hp}{a b:afw}{o:HO}(h:H a=some o)(h':H b=none):a≠b:=by
 intro e;subst e;rw[h] at h';cases h'
def ye(h:Heap)(a:afw):Prop:=∀o,h.get? a=some o->o.dict=none
theorem ye.new(h:Heap)(us:Array afC):ye (h.push { cls:=.type "tuple",data:=.seq us }) h.objs.size:=λo q=>by
 rw[br _ rfl] at q
 cases q
 rfl
section
variable (P:afA) (w:afD)
def dc(H:Hp)(h:Heap)(a:afw):HO->Prop
 | .lst xs=>xs.length<=afN/\∃(its:List afC)(n:Nat),Vals xs its/\h.get? a=some { cls:=.type "list",data:=.seq its.toArray n }
 | .tup xs=>xs.length<=afN/\∃its:List afC,Vals xs its/\IsTup h a its.toArray/\ye h a
 | .dK kvs=>kvs.length<=afN/\(a == sysModules)=false/\∃vs,KV kvs vs/\h.DictOf (bo P w) a vs
 | .dT kvs=>kvs.length<=afN/\(a == sysModules)=false/\∃xs:List (List Key×afw×afC),
   Paired (λ(p:List Key×V)(q:List Key×afw×afC)=>p.1=q.1/\H q.2.1=some (.tup (p.1.map kV))/\RelV p.2 q.2.2) kvs xs/\
   ∃o es ep,h.get? a=some o/\o.ExactDict/\o.data= .dict es ep/\es.toList=xs.map (entryOfKey (tupleKind (bo P w)))/\(xs.map (·.1)).Nodup
 | .set S n=>h.SetOf (intKind P w) a S n
 | .ins C dx fs=>H dx=some (.own a)/\fs.length<=1000/\dx≠a/\h.get? a=some (PySem.W.instObj C dx)/\
   ∃mA,h.Ns1 dx mA/\(∀f,n5 (fs.lookup f) (mA f))/\PySem.Within mA (fs.map (·.1))
 | .own _=>∃o,h.get? a=some o
 | .xd fs=>∃mA,h.Ns1 a mA/\∀f,n5 (fs.lookup f) (mA f)
 | .U_ lo hi=>∃t u v,h.get? a=some { cls:=.type "range",data:=.fields #[.int lo t,.int hi u,.int 1 v] }
 | .hR o u=>h.get? a=some o/\dc H h a u
 | .gP ps=>h.get? a=some { cls:=.none,data:=.fields ps }
 | .met f x=>h.get? a=some (PySem.W.methodObj (.ref f) (.ref x))
 | .ext φ=>φ h/\(∃o,h.get? a=some o)/\∀h1 h2:Heap,φ h1->(∀o,h1.get? a=some o->h2.get? a=some o)->φ h2
def jI(H:Hp)(h:Heap):Prop:=∀a o,H a=some o->dc P w H h a o
end
section
variable {P:afA} {w:afD} {H H':Hp} {h h':Heap} {a:afw} {o:HO}
theorem dc.lt(x:dc P w H h a o):a < h.objs.size:=by
 cases o with
 | lst xs=>obtain⟨_,_,_,_,e⟩:=x;exact aC e
 | tup xs=>obtain⟨_,_,_,p,_⟩:=x;exact p.lt
 | dK kvs=>obtain⟨_,_,_,_,o,_,_,e,_⟩:=x;exact aC e
 | dT kvs=>obtain⟨_,_,_,_,o,_,_,e,_⟩:=x;exact aC e
 | set S n=>obtain⟨o,_,_,_,e,_⟩:=x;exact aC e
 | ins C dx fs=>obtain⟨_,_,_,e,_⟩:=x;exact aC e
 | own y=>obtain⟨_,e⟩:=x;exact aC e
 | xd fs=>obtain⟨_,⟨_,_,_,e,_⟩,_⟩:=x;exact aC e
 | U_ lo hi=>obtain⟨_,_,_,e⟩:=x;exact aC e
 | hR ob u=>obtain⟨e,_⟩:=x;exact aC e
 | gP ps=>exact aC (show h.get? a=some _ from x)
 | met f y=>exact aC (show h.get? a=some _ from x)
 | ext φ=>obtain⟨_,⟨_,e⟩,_⟩:=x;exact aC e
theorem Paired.Mj{α β:Type}{F G:α->β->Prop}:∀{l₁:List α}{l₂:List β},Paired F l₁ l₂->(∀a b,F a b->G a b)->Paired G l₁ l₂
 | _,_,.nil,_=> .nil
 | _,_,.cons r t,f=> .cons (f _ _ r) (Paired.Mj t f)
theorem dc.stay(x:dc P w H h a o)(k:∀b u,(b=a\/H b=some (.own a))->h.get? b=some u->h'.get? b=some u)
  (ho:∀b,H b=some (.own a)->H' b=some (.own a))(ht:∀b xs,H b=some (.tup xs)->H' b=some (.tup xs)):dc P w H' h' a o:=by
 induction o with
 | lst xs=>obtain⟨z,its,n,r,e⟩:=x;exact⟨z,its,n,r,k _ _ (.inl rfl) e⟩
 | tup xs=>obtain⟨z,us,r,⟨ob,e,c⟩,nd⟩:=x;exact⟨z,us,r,⟨ob,k _ _ (.inl rfl) e,c⟩,λo q=>by rw[k _ _ (.inl rfl) e] at q;cases q;exact nd _ e⟩
 | dK kvs=>obtain⟨z,y,vs,r,ob,es,ep,e,c⟩:=x;exact⟨z,y,vs,r,ob,es,ep,k _ _ (.inl rfl) e,c⟩
 | dT kvs=>
  obtain⟨z,y,xs,r,ob,es,ep,e,c⟩:=x
  exact⟨z,y,xs,Paired.Mj r λp q z=>⟨z.1,ht _ _ z.2.1,z.2.2⟩,ob,es,ep,k _ _ (.inl rfl) e,c⟩
 | set S n=>obtain⟨ob,es,ep,t,e,c⟩:=x;exact⟨ob,es,ep,t,k _ _ (.inl rfl) e,c⟩
 | ins C dx fs=>
  obtain⟨d,z,ne,e,mA,⟨od,es,ep,e2,c⟩,r⟩:=x
  exact⟨ho _ d,z,ne,k _ _ (.inl rfl) e,mA,⟨od,es,ep,k _ _ (.inr d) e2,c⟩,r⟩
 | own y=>obtain⟨ob,e⟩:=x;exact⟨ob,k _ _ (.inl rfl) e⟩
 | xd fs=>obtain⟨mA,⟨od,es,ep,e,c⟩,r⟩:=x;exact⟨mA,⟨od,es,ep,k _ _ (.inl rfl) e,c⟩,r⟩
 | U_ lo hi=>obtain⟨t,u,v,e⟩:=x;exact⟨t,u,v,k _ _ (.inl rfl) e⟩
 | hR ob u ih=>obtain⟨e,q⟩:=x;exact⟨k _ _ (.inl rfl) e,ih q⟩
 | gP ps=>
  have e:h.get? a=some { cls:=.none,data:=.fields ps }:=x
  show h'.get? a=some { cls:=.none,data:=.fields ps }
  exact k a _ (.inl rfl) e
 | met f y=>
  have e:h.get? a=some (PySem.W.methodObj (.ref f) (.ref y)):=x
  show h'.get? a=some (PySem.W.methodObj (.ref f) (.ref y))
  exact k a _ (.inl rfl) e
 | ext φ=>obtain⟨p,⟨o,e⟩,st⟩:=x;exact⟨st _ _ p λo q=>k _ _ (.inl rfl) q,⟨o,k _ _ (.inl rfl) e⟩,st⟩
theorem jI.lt(x:jI P w H h)(e:H a=some o):a < h.objs.size:=(x a o e).lt
theorem jI.fresh(x:jI P w H h)(e:h.objs.size<=a):H a=none:=by
 cases q:H a with
 | none=>rfl
 | some u=>exact absurd (aY (x.lt q) e) (cI _)
theorem jI.kept(x:jI P w H h)(k:∀b u,h.get? b=some u->h'.get? b=some u):jI P w H h':=λa o e=>
 (x a o e).stay (λb u _ q=>k b u q) (λ_ q=>q) λ_ _ q=>q
theorem jI.laid(x:jI P w H h)(k:∀b u,h.get? b=some u->h'.get? b=some u)(hp:h.objs.size<=a)(new:dc P w (upd H a o) h' a o):jI P w (upd H a o) h':=λb u e=>by
 have hn:=x.fresh hp
 by_cases hb:b=a
 ·subst hb;rw[aJ] at e;cases e;exact new
 ·rw[aA hb] at e
  exact(x b u e).stay (λc v _ q=>k c v q) (λc q=>by rw[aA (bt q hn)];exact q) λc xs q=>by rw[aA (bt q hn)];exact q
end
def Rd(H:Hp)(a:afw)(u:HO):Prop:=H a=some u\/∃o,H a=some (.hR o u)
theorem Rd.ok{P:afA}{w:afD}{H:Hp}{h:Heap}{a:afw}{u:HO}(r:Rd H a u)(x:jI P w H h):dc P w H h a u:=by
 rcases r with r | ⟨o,r⟩
 ·exact x a u r
 ·obtain⟨_,q⟩:=x a _ r
  exact q
def RA:Option HO->Prop
 | some (.lst _)=>True
 | some (.dK _)=>True
 | some (.dT _)=>True
 | some (.set _ _)=>True
 | some (.ins _ _ _)=>True
 | some (.ext _)=>True
 | _=>False
section
variable {P:afA} {w:afD} {H:Hp} {h h':Heap} {x e:afw} {o':HO}
theorem jI.write(ok:jI P w H h)(mu:RA (H x))(he:e=x\/H e=some (.own x))(k:∀b u,b≠e->h.get? b=some u->h'.get? b=some u)(Q0:∃u,h'.get? e=some u)
  (new:dc P w (upd H x o') h' x o'):jI P w (upd H x o') h':=λb u q=>by
 have RB:∀c y,H c=some (.own y)->c≠x:=λc y r z=>by subst z;rw[r] at mu;exact mu
 have Wb:∀c xs,H c=some (.tup xs)->c≠x:=λc xs r z=>by subst z;rw[r] at mu;exact mu
 by_cases hb:b=x
 ·subst hb;rw[aJ] at q;cases q;exact new
 ·rw[aA hb] at q
  by_cases Mk:b=e
  ·have q':H b=some (.own x):=by
    rcases he with z | z
    ·exact absurd (Mk.trans z) hb
    ·rw[Mk];exact z
   rw[q] at q';cases q'
   obtain⟨v,hv⟩:=Q0
   exact⟨v,by rw[Mk];exact hv⟩
  ·refine(ok b u q).stay (λc v hc r=>k c v ?_ r) (λc r=>by rw[aA (RB c b r)];exact r) λc xs r=>by rw[aA (Wb c xs r)];exact r
   rcases hc with rfl | hc
   ·exact Mk
   ·rintro rfl
    rcases he with z | z
    ·exact RB c b hc z
    ·rw[hc] at z;cases z;exact hb rfl
end
structure Un(fs ex:List afw)(H H':Hp)(h h':Heap):Prop where
 keep:∀b o,h.get? b=some o->H b=none->b∉fs->b∉ex->h'.get? b=some o
 slot:∀b o,h.get? b=some o->H b=none->b∈fs->b∉ex->∃sl,h'.get? b=some { o with slots:=sl }
 free:∀b o,h.get? b=some o->H b=none->b∉ex->H' b=none
 there:∀b o,h.get? b=some o->b∉ex->∃o',h'.get? b=some o'
 tups:∀b xs,H b=some (.tup xs)->H' b=some (.tup xs)
 jN:∀b o u,H b=some (.hR o u)->H' b=some (.hR o u)
 jU:∀b ps,H b=some (.gP ps)->∃more,H' b=some (.gP (ps++more))
section
variable {fs fs' ex ex':List afw} {H H1 H2:Hp} {h h1 h2 h':Heap} {a x e:afw} {o:HO}
theorem Un.any(u:Un fs ex H H1 h h1){b:afw}{ob:Obj}(q:h.get? b=some ob)(n:H b=none)(hx:b∉ex):∃sl,h1.get? b=some { ob with slots:=sl }:=by
 by_cases hb:b∈fs
 ·exact u.slot b ob q n hb hx
 ·exact⟨ob.slots,u.keep b ob q n hb hx⟩
theorem Un.kept(k:∀b u,h.get? b=some u->h'.get? b=some u):Un fs ex H H h h' :=
 ⟨λb ob q _ _ _=>k b ob q,λb ob q _ _ _=>⟨ob.slots,k b ob q⟩,λ_ _ _ n _=>n,λb ob q _=>⟨ob,k b ob q⟩,λ_ _ q=>q,λ_ _ _ q=>q,λ_ ps q=>⟨#[],by rw[q];simp⟩⟩
theorem Un.refl:Un fs ex H H h h:=Un.kept λ_ _ q=>q
theorem Un.laid(k:∀b u,h.get? b=some u->h'.get? b=some u)(hp:h.objs.size<=a)(hn:H a=none):Un fs ex H (upd H a o) h h' where
 keep:=λb u q _ _ _=>k b u q
 slot:=λb u q _ _ _=>⟨u.slots,k b u q⟩
 free:=λb u q n _=>by rw[aA (aZ (aY (aC q) hp))];exact n
 there:=λb u q _=>⟨u,k b u q⟩
 tups:=λb xs q=>by rw[aA (bt q hn)];exact q
 jN:=λb u xs q=>by rw[aA (bt q hn)];exact q
 jU:=λb ps q=>⟨#[],by rw[aA (bt q hn),q];simp⟩
theorem Un.write(mu:RA (H x))(he:e=x\/H e=some (.own x))(k:∀b u,b≠e->h.get? b=some u->h'.get? b=some u)(Q0:∃u,h'.get? e=some u):Un fs ex H (upd H x o) h h':=by
 have hx:∀b,H b=none->b≠x:=λb n z=>by subst z;rw[n] at mu;exact mu
 have hb:∀b,H b=none->b≠e:=λb n z=>by
  subst z
  rcases he with r | r
  ·exact hx b n r
  ·rw[n] at r;cases r
 have hm:∀b u,H b=some u->¬RA (some u)->b≠x:=λb u q nm z=>by subst z;rw[q] at mu;exact nm mu
 refine⟨λb u q n _ _=>k b u (hb b n) q,λb u q n _ _=>⟨u.slots,k b u (hb b n) q⟩,λb u q n _=>by rw[aA (hx b n)];exact n,λb u q _=>?_,
  λb xs q=>by rw[aA (hm b _ q λz=>z)];exact q,λb u xs q=>by rw[aA (hm b _ q λz=>z)];exact q,λb ps q=>⟨#[],by rw[aA (hm b _ q λz=>z),q];simp⟩⟩
 by_cases Mk:b=e
 ·subst Mk;exact Q0
 ·exact⟨u,k b u Mk q⟩
end
def U'(h:Heap)(H:Hp):List afw:=(gn h.objs.size).filter λa=>(H a).isSome
def sv(h:Heap)(H:Hp):Heap:=PySem.W.hideAll h (U' h H)
theorem sX(h:Heap)(H:Hp):(sv h H).objs.size=h.objs.size:=PySem.W.hideAll_size _ _
theorem mR{h:Heap}{H:Hp}{b:afw}{o:Obj}(e:h.get? b=some o)(n:H b=none):(sv h H).get? b=some o :=
 PySem.W.hideAll_get _ e λhm=>by
  have q:(H b).isSome=true:=(List.mem_filter.mp hm).2
  rw[n] at q;simp at q
theorem Aj{h:Heap}{H:Hp}{b:afw}{o:Obj}(e:(sv h H).get? b=some o):h.get? b=some o/\H b=none:=by
 have e':h.get? b=some o:=PySem.W.of_hideAll (U' h H) e
 refine⟨e',?_⟩
 cases q:H b with
 | none=>rfl
 | some x=>
  have hm:b∈U' h H:=List.mem_filter.mpr ⟨List.mem_range.mpr (aC e'),by simp[q]⟩
  have z:(sv h H).get? b=none:=PySem.W.hideAll_none (U' h H) hm
  rw[z] at e;cases e
structure Mod(K:PySem.W.Frag)(mg:Str->Option afC)(base:Heap):Prop where
 Iq:K.In base
 glob:base.Ns afM mg
 blt:∃mb,base.Ns builtinsNs mb/\∀x:Str,x≠"__name__"->mb x=afG x
 nolimit:base.NoLimit
structure Cx where
 prog:afA
 w:afD
 K:PySem.W.Frag
 mg:Str->Option afC
 base:Heap
 A:afx
 N:List Str
 s₀:afB
 H₀:Hp
 env:Env
 outer:List Env
 stack:List Env
 ex:List afw
 fn:Str->Bool
 calm:Bool
 pn:List (afw×Obj)
 xe:afC->afB->Prop
def frs(l:List Env):List afw:=l.filterMap (·.frame)
abbrev Cx.fs(X:Cx):List afw:=frs X.outer
def Q1(sc:Scope)(x:Str):Prop:=sc.names.lookup x=some .local\/sc.names.lookup x=some .cell\/sc.names.lookup x=some .free
def Loc(sc:Scope)(x:Str):Prop:=sc.names.lookup x=some .local\/sc.names.lookup x=some .cell
def Look(env:Env)(h:Heap)(m:Str->Option afC)(x:Str)(u:afC):Prop :=
 (env.kindOf x=some .local/\m x=some u)\/((env.kindOf x=some .cell\/env.kindOf x=some .free)/\∃c,env.cells.lookup x=some c/\h.IsCell c (some u))
structure Cx.Ok(X:Cx):Prop where
 mod:Mod X.K X.mg X.base
 kind:X.env.scope.kind= .function
 glob:X.env.globals=afM
 blt:X.env.builtins=builtinsNs
 above:X.s₀.heap.objs.size<=X.env.locals
 inj:∀x y c,X.env.cells.lookup x=some c->X.env.cells.lookup y=some c->x=y
 has:∀x,(X.env.kindOf x=some .cell\/X.env.kindOf x=some .free)->∃c,X.env.cells.lookup x=some c
 KY:∀x c,X.fn x=true->X.env.cells.lookup x=some c->X.s₀.heap.objs.size<=c
 hd:X.calm=true->X.A.handled=none
 frames:X.A.frames=some X.stack
 stk:X.stack=X.outer\/(X.stack=X.env::X.outer/\X.env.frame=some X.env.locals)
 Va:∀b∈X.ex,b≠X.env.locals/\∀x c,X.env.cells.lookup x=some c->c≠b
 bs:∀b o,X.base.get? b=some o->X.s₀.heap.get? b=some o/\X.H₀ b=none
 BQ:X.base.objs.size<=X.s₀.heap.objs.size
 yf:∀b o,X.base.get? b=some o->b∉X.ex
 BR:∀b∈X.ex,b∉X.fs
 jO:X.s₀.heap.FunFrames X.base X.outer
 DD:∀b∈X.fs,X.H₀ b=none
structure Inv(X:Cx)(pins:List (afw×Obj))(σ:List (Option V))(H:Hp)(s:afB):Prop where
 ok:X.Ok
 os:s.os=X.s₀.os
 bare:AllBare s.gens
 base:Un X.fs X.ex X.H₀ H X.s₀.heap s.heap
 loc:∃m,s.heap.Ns X.env.locals m/\∀(i:Nat)(x:Str)(v:V),X.N[i]? =some x->σ[i]? =some (some v)->Q1 X.env.scope x->∃u,RelV v u/\Look X.env s.heap m x u
 cell:∀x c,X.env.cells.lookup x=some c->∃v,s.heap.IsCell c v
 free:H X.env.locals=none
 f9:∀x c,X.env.cells.lookup x=some c->H c=none
 pin:∀p∈X.pn++pins,s.heap.get? p.1=some p.2/\H p.1=none/\p.1≠X.env.locals/\p.1∉X.fs/\∀v,p.2.data≠.cell v
 hok:jI X.prog X.w H s.heap
 len:σ.length=X.N.length
section
variable {X:Cx} {pins:List (afw×Obj)} {σ:List (Option V)} {H H':Hp} {s:afB} {h':Heap}
theorem Cx.Ok.RC(ok:X.Ok){b:afw}{o:Obj}(e:X.base.get? b=some o):b∉X.fs:=λhb=>by
 have:=(ok.jO.mem hb).1
 rw[e] at this;cases this
theorem Inv.bs(I:Inv X pins σ H s):∀b o,X.base.get? b=some o->s.heap.get? b=some o/\H b=none:=λb o e=>
 ⟨I.base.keep b o (I.ok.bs b o e).1 (I.ok.bs b o e).2 (I.ok.RC e) (I.ok.yf b o e),I.base.free b o (I.ok.bs b o e).1 (I.ok.bs b o e).2 (I.ok.yf b o e)⟩
theorem Inv.bk(I:Inv X pins σ H s):∀b o,X.base.get? b=some o->s.heap.get? b=some o:=λb o e=>(I.bs b o e).1
theorem Inv.mod(I:Inv X pins σ H s):Mod X.K X.mg X.base:=I.ok.mod
theorem Inv.v9(I:Inv X pins σ H s):X.K.In s.heap:=I.ok.mod.Iq.keeps I.bk
theorem Inv.lt(I:Inv X pins σ H s):X.env.locals < s.heap.objs.size:=let ⟨_,hn,_⟩:=I.loc;hn.lt
theorem Inv.sz(I:Inv X pins σ H s):X.s₀.heap.objs.size<=s.heap.objs.size:=bu I.ok.above (mS I.lt)
theorem Inv.RD(I:Inv X pins σ H s){a:afw}(h:s.heap.objs.size<=a):a∉X.fs:=λhb=>by
 obtain⟨_,o,ho,_⟩:=I.ok.jO.mem hb
 exact absurd (aY (aC ho) (bu I.sz h)) (cI _)
theorem Inv.HY(I:Inv X pins σ H s):∀x c,X.env.cells.lookup x=some c->c≠X.env.locals:=λx c e z=>by
 obtain⟨v,o,ho,hd⟩:=I.cell x c e
 obtain⟨m,⟨o',es,ep,ho',hd',_⟩,_⟩:=I.loc
 rw[z,ho'] at ho;cases ho;rw[hd'] at hd;cases hd
theorem Inv.jO(I:Inv X pins σ H s):s.heap.FunFrames X.base X.outer:=by
 have all:∀(l:List Env),(∀b∈frs l,b∈X.fs)->X.s₀.heap.FunFrames X.base l->s.heap.FunFrames X.base l:=by
  intro l
  induction l with
  | nil=>intro _ _;trivial
  | cons env r ih=>
   intro hs hl
   obtain⟨hk,⟨L,o,hf,hn,ho,hd⟩,hr⟩:=hl
   have hL:L∈X.fs:=hs L (by unfold frs;rw[uB,hf];exact bw)
   obtain⟨sl,e⟩:=I.base.slot L o ho (I.ok.DD L hL) hL λz=>I.ok.BR L z hL
   exact⟨hk,⟨L,_,hf,hn,e,hd⟩,ih (λb hb=>hs b (by unfold frs;rw[uB,hf];exact aO _ hb)) hr⟩
 exact all X.outer (λ_ hb=>hb) I.ok.jO
theorem Inv.stack(I:Inv X pins σ H s):s.heap.FunFrames X.base X.stack:=by
 rcases I.ok.stk with e | ⟨e,hf⟩
 ·rw[e];exact I.jO
 ·rw[e]
  obtain⟨m,hn,_⟩:=I.loc
  refine .cons (by rw[I.ok.kind];decide) hf hn ?_ I.jO
  exact Ml (bu I.ok.BQ I.ok.above)
theorem Inv.jV(I:Inv X pins σ H s):∀b∈frs X.stack,b∈X.env.locals::X.fs:=λb hb=>by
 rcases I.ok.stk with e | ⟨e,hf⟩
 ·rw[e] at hb;exact aO _ hb
 ·rw[e] at hb
  unfold frs at hb
  rw[uB,hf] at hb
  exact hb
theorem Inv.kU(I:Inv X pins σ H s):∀b∈frs X.stack,H b=none:=λb hb=>by
 rcases List.mem_cons.mp (I.jV b hb) with e | hb
 ·rw[e];exact I.free
 ·obtain⟨_,o,ho,_⟩:=I.ok.jO.mem hb
  exact I.base.free b o ho (I.ok.DD b hb) λz=>I.ok.BR b z hb
theorem Inv.step{g':Array GenState}{t':Nat}{d':Drawn}{ch:List afw}(I:Inv X pins σ H s)
  (hch:∀b∈ch,(b∈X.ex\/X.s₀.heap.objs.size<=b)/\b≠X.env.locals/\(∀x c,X.env.cells.lookup x=some c->c≠b)/\∀p∈X.pn++pins,p.1≠b)
  (keep:∀b o,b≠X.env.locals->b∉X.fs->b∉ch->s.heap.get? b=some o->H b=none->h'.get? b=some o)
  (slot:∀b o,b≠X.env.locals->b∈X.fs->b∉ch->s.heap.get? b=some o->H b=none->∃sl,h'.get? b=some { o with slots:=sl })(free:∀b o,b∉ch->s.heap.get? b=some o->H b=none->H' b=none)
  (there:∀b o,b∉ch->s.heap.get? b=some o->∃o',h'.get? b=some o')
  (tups:∀b xs,H b=some (.tup xs)->H' b=some (.tup xs))(jN:∀b o u,H b=some (.hR o u)->H' b=some (.hR o u))(jU:∀b ps,H b=some (.gP ps)->∃more,H' b=some (.gP (ps++more)))
  (ns:∀m,s.heap.Ns X.env.locals m->h'.Ns X.env.locals m)(hok:jI X.prog X.w H' h')(hg:AllBare g') :
  Inv X pins σ H' { s with heap:=h',gens:=g',drawn:=d',toks:=t' }:=by
 have ZS:∀b o,X.s₀.heap.get? b=some o->b≠X.env.locals:=λb o e=>aZ (aY (aC e) I.ok.above)
 have Vb:∀b o,X.s₀.heap.get? b=some o->b∉X.ex->b∉ch:=λb o e hx hb=>by
  rcases(hch b hb).1 with z | z
  ·exact hx z
  ·exact absurd (aY (aC e) z) (cI _)
 have cellK:∀x c,X.env.cells.lookup x=some c->∀v,s.heap.IsCell c v->h'.IsCell c v:=λx c e v ⟨o,ho,hd⟩=>by
  have Mm:c∉ch:=λz=>(hch c z).2.2.1 x c e rfl
  by_cases hc:c∈X.fs
  ·obtain⟨sl,q⟩:=slot c o (I.HY x c e) hc Mm ho (I.f9 x c e)
   exact⟨_,q,hd⟩
  ·exact⟨o,keep c o (I.HY x c e) hc Mm ho (I.f9 x c e),hd⟩
 refine⟨I.ok,I.os,hg,⟨λb o e n hb hx=>?_,λb o e n hb hx=>?_,λb o e n hx=>?_,λb o e hx=>?_,λb xs e=>tups b xs (I.base.tups b xs e),λb o xs e=>jN b o xs (I.base.jN b o xs e),λb ps e=>?_⟩,?_,λx c e=>?_,?_,λx c e=>?_,λp hp=>?_,hok,I.len⟩
 ·exact keep b o (ZS b o e) hb (Vb b o e hx) (I.base.keep b o e n hb hx) (I.base.free b o e n hx)
 ·obtain⟨sl,e1⟩:=I.base.slot b o e n hb hx
  obtain⟨sl',e2⟩:=slot b _ (ZS b o e) hb (Vb b o e hx) e1 (I.base.free b o e n hx)
  exact⟨sl',e2⟩
 ·obtain⟨o',e1⟩:=I.base.there b o e hx
  exact free b o' (Vb b o e hx) e1 (I.base.free b o e n hx)
 ·obtain⟨o',e1⟩:=I.base.there b o e hx
  exact there b o' (Vb b o e hx) e1
 ·obtain⟨m1,e1⟩:=I.base.jU b ps e
  obtain⟨m2,e2⟩:=jU b _ e1
  exact⟨m1++m2,by rw[e2,Array.append_assoc]⟩
 ·obtain⟨m,hn,hl⟩:=I.loc
  refine⟨m,ns m hn,λi x v e1 e2 e3=>?_⟩
  obtain⟨u,r,l⟩:=hl i x v e1 e2 e3
  refine⟨u,r,?_⟩
  rcases l with l | ⟨k,c,e,z⟩
  ·exact .inl l
  ·exact .inr ⟨k,c,e,cellK x c e _ z⟩
 ·obtain⟨v,z⟩:=I.cell x c e
  exact⟨v,cellK x c e v z⟩
 ·obtain⟨m,⟨o,_,_,ho,_⟩,_⟩:=I.loc
  exact free _ o (λz=>(hch _ z).2.1 rfl) ho I.free
 ·obtain⟨v,o,ho,hd⟩:=I.cell x c e
  exact free c o (λz=>(hch c z).2.2.1 x c e rfl) ho (I.f9 x c e)
 ·obtain⟨e,n,ne,nf,d⟩:=I.pin p hp
  have Mm:p.1∉ch:=λz=>(hch p.1 z).2.2.2 p hp rfl
  exact⟨keep p.1 p.2 ne nf Mm e n,free p.1 p.2 Mm e n,ne,nf,d⟩
theorem Inv.un{t':Nat}(I:Inv X pins σ H s)(u:Un X.fs [] H H' s.heap h')(hok:jI X.prog X.w H' h'):Inv X pins σ H' { s with heap:=h',toks:=t' }:=by
 obtain⟨m,⟨o,es,ep,ho,r⟩,_⟩:=id I.loc
 obtain⟨sl,hL⟩:=u.any ho I.free (by simp)
 exact I.step (g':=s.gens) (d':=s.drawn) (ch:=[]) (λ_ z=>nomatch z) (λb o _ hb _ e n=>u.keep b o e n hb (by simp)) (λb o _ hb _ e n=>u.slot b o e n hb (by simp)) (λb o _ e n=>u.free b o e n (by simp)) (λb o _ e=>u.there b o e (by simp)) u.tups u.jN u.jU (λm' hm=>by
  obtain⟨o',es',Mn,ho',r'⟩:=hm
  rw[ho] at ho';cases ho'
  exact⟨_,es',Mn,hL,r'⟩) hok I.bare
theorem Inv.call{g':Array GenState}{t':Nat}{d':Drawn}{ch:List afw}(I:Inv X pins σ H s)(u:Un (frs X.stack) ch H H' s.heap h')(hok:jI X.prog X.w H' h')(hg:AllBare g')
  (hch:∀b∈ch,(b∈X.ex\/X.s₀.heap.objs.size<=b)/\b≠X.env.locals/\(∀x c,X.env.cells.lookup x=some c->c≠b)/\∀p∈X.pn++pins,p.1≠b) :
  Inv X pins σ H' { s with heap:=h',gens:=g',drawn:=d',toks:=t' }:=by
 obtain⟨m,⟨o,es,ep,ho,r⟩,_⟩:=id I.loc
 obtain⟨sl,hL⟩:=u.any ho I.free λz=>(hch _ z).2.1 rfl
 exact I.step (ch:=ch) hch (λb o hL hb hc e n=>u.keep b o e n (λz=>(List.mem_cons.mp (I.jV b z)).elim hL hb) hc) (λb o _ _ hc e n=>u.any e n hc) (λb o hc e n=>u.free b o e n hc) (λb o hc e=>u.there b o e hc) u.tups u.jN u.jU (λm' hm=>by
  obtain⟨o',es',Mn,ho',r'⟩:=hm
  rw[ho] at ho';cases ho'
  exact⟨_,es',Mn,hL,r'⟩) hok hg
theorem Inv.turned{t':Nat}{it:afw}(I:Inv X pins σ H s)(k:∀b o,b≠it->s.heap.get? b=some o->h'.get? b=some o)(hn:H it=none)(hL:it≠X.env.locals)
  (h1:it∈X.ex\/X.s₀.heap.objs.size<=it)(h2:∀x c,X.env.cells.lookup x=some c->c≠it)(h3:∀p∈X.pn++pins,p.1≠it):Inv X pins σ H { s with heap:=h',toks:=t' }:=by
 have ZT:∀b u,H b=some u->b≠it:=λb u e z=>by rw[z,hn] at e;cases e
 refine I.step (g':=s.gens) (d':=s.drawn) (ch:=[it]) (λb hb=>?_) (λb o _ _ hc e _=>k b o (λz=>hc (by simp[z])) e) (λb o _ _ hc e _=>⟨o.slots,k b o (λz=>hc (by simp[z])) e⟩) (λ_ _ _ _ n=>n)
  (λb o hc e=>⟨o,k b o (λz=>hc (by simp[z])) e⟩) (λ_ _ e=>e) (λ_ _ _ e=>e) (λb ps e=>⟨#[],by rw[e];simp⟩) (λm hm=>?_) (λb u e=>?_) I.bare
 ·have e:b=it:=by simpa using hb
  subst e
  exact⟨h1,hL,h2,h3⟩
 ·obtain⟨o,es,ep,ho,r⟩:=hm
  exact⟨o,es,ep,k _ o (ay hL) ho,r⟩
 ·refine(I.hok b u e).stay (λc v hc q=>k c v ?_ q) (λ_ q=>q) λ_ _ q=>q
  rcases hc with z | z
  ·rw[z];exact ZT b u e
  ·exact ZT c _ z
theorem Inv.tok(I:Inv X pins σ H s)(t:Nat):Inv X pins σ H { s with toks:=t }:=I.un (h':=s.heap) (t':=t) Un.refl I.hok
theorem Inv.kept{t':Nat}(I:Inv X pins σ H s)(k:∀b u,s.heap.get? b=some u->h'.get? b=some u):Inv X pins σ H { s with heap:=h',toks:=t' }:=I.un (Un.kept k) (I.hok.kept k)
theorem Inv.laid{a:afw}{o:HO}{t':Nat}(I:Inv X pins σ H s)(k:∀b u,s.heap.get? b=some u->h'.get? b=some u)(hp:s.heap.objs.size<=a)(new:dc X.prog X.w (upd H a o) h' a o) :
  Inv X pins σ (upd H a o) { s with heap:=h',toks:=t' }:=I.un (Un.laid k hp (I.hok.fresh hp)) (I.hok.laid k hp new)
theorem Inv.write{x e:afw}{o:HO}{t':Nat}(I:Inv X pins σ H s)(mu:RA (H x))(he:e=x\/H e=some (.own x))(k:∀b u,b≠e->s.heap.get? b=some u->h'.get? b=some u)(Q0:∃u,h'.get? e=some u)
  (new:dc X.prog X.w (upd H x o) h' x o):Inv X pins σ (upd H x o) { s with heap:=h',toks:=t' }:=I.un (Un.write mu he k Q0) (I.hok.write mu he k Q0 new)
theorem Inv.Ak{iS:List (afw×Obj)}(I:Inv X pins σ H s)(h:∀p∈iS,s.heap.get? p.1=some p.2/\H p.1=none/\p.1≠X.env.locals/\p.1∉X.fs/\∀v,p.2.data≠.cell v):Inv X iS σ H s :=
 ⟨I.ok,I.os,I.bare,I.base,I.loc,I.cell,I.free,I.f9,λp hp=>(List.mem_append.mp hp).elim (λz=>I.pin p (mU _ z)) (h p),I.hok,I.len⟩
theorem qu{N:List Str}(hN:N.Nodup){i j:Nat}{x:Str}(a:N[i]? =some x)(b:N[j]? =some x):i=j:=by
 obtain⟨h1,e1⟩:=List.getElem?_eq_some_iff.mp a
 obtain⟨h2,e2⟩:=List.getElem?_eq_some_iff.mp b
 exact(List.getElem_inj hN).mp (e1.trans e2.symm)
theorem n6{M:Model}{A:afx}{E:afC->afB->Prop}{i:Nat}{x:Str}{v:V}{u:afC}{Q:Unit->afB->Prop}(I:Inv X pins σ H s)(hN:X.N.Nodup)(hi:X.N[i]? =some x)(hx:Loc X.env.scope x)(r:RelV v u)
  (h:∀s',Inv X pins (σ.set i (some v)) H s'->(∃a,jW a s.heap s'.heap/\(a=X.env.locals\/X.env.cells.lookup x=some a))->Q () s')(hf:X.fn x=true\/X.env.scope.names.lookup x=some .local:=by first | exact .inl rfl | exact .inr rfl | assumption):afP M A (storeName X.env x u) Q E s:=by
 obtain⟨m,hn,hl⟩:=id I.loc
 have hcls:(X.env.scope.kind == .class||(X.env.scope.kind == .module&&X.env.locals != X.env.globals))=false:=by rw[I.ok.kind];rfl
 have RE:i < σ.length:=by rw[I.len];exact(List.getElem?_eq_some_iff.mp hi).1
 have HY:=I.HY
 have tracked:∀{a:afw}{h':Heap},(∃o,s.heap.get? a=some o/\H a=none)->jW a s.heap h'->jI X.prog X.w H h':=λ{a h'} ha hs b ob e=>by
  obtain⟨_,_,hfree⟩:=ha
  refine(I.hok b ob e).stay (λc w' hc q=>(hs.2 c ?_).trans q) (λ_ q=>q) λ_ _ q=>q
  rintro rfl
  rcases hc with rfl | hc
  ·rw[hfree] at e;cases e
  ·rw[hfree] at hc;cases hc
 rcases hx with hk | hk
 ·refine wpAny_storeName_local hk hn (λh' hn' hs=>?_) hcls
  obtain⟨oL,_,_,ZU,_⟩:=id hn
  refine h _ ⟨I.ok,I.os,I.bare,⟨λb o e n hb hx=>?_,λb o e n hb hx=>?_,I.base.free,λb o e hx=>?_,I.base.tups,I.base.jN,I.base.jU⟩,⟨_,hn',λj y v' e1 e2 e3=>?_⟩,λy c e=>?_,I.free,I.f9,λp hp=>?_,tracked ⟨oL,ZU,I.free⟩ hs,by simpa using I.len⟩ ⟨_,hs,.inl rfl⟩
  ·exact(hs.2 b (aZ (aY (aC e) I.ok.above))).trans (I.base.keep b o e n hb hx)
  ·obtain⟨sl,e1⟩:=I.base.slot b o e n hb hx
   exact⟨sl,(hs.2 b (aZ (aY (aC e) I.ok.above))).trans e1⟩
  ·obtain⟨o',e1⟩:=I.base.there b o e hx
   exact⟨o',(hs.2 b (aZ (aY (aC e) I.ok.above))).trans e1⟩
  ·by_cases hj:j=i
   ·subst hj
    rw[hi] at e1;cases e1
    rw[jb RE] at e2
    cases e2
    exact⟨u,r,.inl ⟨hk,by simp⟩⟩
   ·rw[fB (ay hj)] at e2
    obtain⟨u',r',q⟩:=hl j y v' e1 e2 e3
    refine⟨u',r',?_⟩
    rcases q with ⟨k,e⟩ | ⟨k,c,e,z⟩
    ·refine .inl ⟨k,?_⟩
     have:y≠x:=λe=>hj (qu hN e1 (e ▸ hi))
     simp[this,e]
    ·exact .inr ⟨k,c,e,z.sameBut hs (HY y c e)⟩
  ·obtain⟨w',z⟩:=I.cell y c e
   exact⟨w',z.sameBut hs (HY y c e)⟩
  ·obtain⟨e,n,ne,nf,d⟩:=I.pin p hp
   exact⟨(hs.2 p.1 ne).trans e,n,ne,nf,d⟩
 ·have hfn:X.fn x=true:=by
   rcases hf with z | z
   ·exact z
   ·rw[z] at hk;cases hk
  obtain⟨c,hc⟩:=I.ok.has x (.inl hk)
  obtain⟨w',z⟩:=I.cell x c hc
  refine wpAny_storeName_cell I.ok.kind hk hc z (λh' hc' hs=>?_)
  obtain⟨oc,hoc,Mo⟩:=id z
  refine h { s with heap:=h' } ⟨I.ok,I.os,I.bare,⟨λb o e n hb hx=>?_,λb o e n hb hx=>?_,I.base.free,λb o e hx=>?_,I.base.tups,I.base.jN,I.base.jU⟩,⟨m,hn.sameBut hs (ay (HY x c hc)),λj y v' e1 e2 e3=>?_⟩,λy c' e=>?_,I.free,I.f9,λp hp=>?_,tracked ⟨oc,hoc,I.f9 x c hc⟩ hs,by simpa using I.len⟩ ⟨c,hs,.inr hc⟩
  ·exact(hs.2 b (aZ (aY (aC e) (I.ok.KY x c hfn hc)))).trans (I.base.keep b o e n hb hx)
  ·obtain⟨sl,e1⟩:=I.base.slot b o e n hb hx
   exact⟨sl,(hs.2 b (aZ (aY (aC e) (I.ok.KY x c hfn hc)))).trans e1⟩
  ·obtain⟨o',e1⟩:=I.base.there b o e hx
   exact⟨o',(hs.2 b (aZ (aY (aC e) (I.ok.KY x c hfn hc)))).trans e1⟩
  ·by_cases hj:j=i
   ·subst hj
    rw[hi] at e1;cases e1
    rw[jb RE] at e2
    cases e2
    exact⟨u,r,.inr ⟨.inl hk,c,hc,hc'⟩⟩
   ·rw[fB (ay hj)] at e2
    obtain⟨u',r',q⟩:=hl j y v' e1 e2 e3
    refine⟨u',r',?_⟩
    rcases q with q | ⟨k,c',e,z'⟩
    ·exact .inl q
    ·refine .inr ⟨k,c',e,z'.sameBut hs ?_⟩
     rintro rfl
     exact hj (qu hN e1 (I.ok.inj _ _ _ e hc ▸ hi))
  ·by_cases hcc:c'=c
   ·subst hcc;exact⟨_,hc'⟩
   ·obtain⟨w2,z2⟩:=I.cell y c' e
    exact⟨w2,z2.sameBut hs hcc⟩
  ·obtain⟨e,n,ne,nf,d⟩:=I.pin p hp
   refine⟨(hs.2 p.1 ?_).trans e,n,ne,nf,d⟩
   intro q
   rw[q,hoc] at e
   have q':oc=p.2:=Option.some.inj e
   exact d w' (by rw[<-q'];exact Mo)
theorem mV{M:Model}{A:afx}{E:afC->afB->Prop}{i:Nat}{x:Str}{v:V}{u:afC}{Q:Unit->afB->Prop}(I:Inv X pins σ H s)(hN:X.N.Nodup)(hi:X.N[i]? =some x)(hx:Loc X.env.scope x)(r:RelV v u)
  (h:∀s',Inv X pins (σ.set i (some v)) H s'->Q () s')(hf:X.fn x=true\/X.env.scope.names.lookup x=some .local:=by first | exact .inl rfl | exact .inr rfl | assumption):afP M A (storeName X.env x u) Q E s :=
 n6 I hN hi hx r (λs' I' _=>h s' I') hf
theorem Inv.qv{s':afB}{ch:List afw}(I:Inv X pins σ H s)(ho:s'.os=s.os)(u:Un (frs X.stack) ch H H' s.heap s'.heap)(hok:jI X.prog X.w H' s'.heap)(hg:AllBare s'.gens)
  (hch:∀b∈ch,(b∈X.ex\/X.s₀.heap.objs.size<=b)/\b≠X.env.locals/\(∀x c,X.env.cells.lookup x=some c->c≠b)/\∀p∈X.pn++pins,p.1≠b):Inv X pins σ H' s':=by
 obtain⟨h',g',d',t',o'⟩:=s'
 have e:o'=s.os:=ho
 subst e
 exact I.call (g':=g') (t':=t') (d':=d') u hok hg hch
end
abbrev XK:=afC->Option afw->Hp->Prop
abbrev St:=List (Option V)
abbrev VK:=V->Hp->Prop
abbrev TE:=St->Hp->VK->Prop
abbrev TT:=St->Hp->(Bool->Hp->Prop)->Prop
abbrev TA:=St->Hp->(List V->Hp->Prop)->Prop
structure Ends where
 nx:St->Hp->Prop
 rt:VK
 bk:St->Hp->Prop:=λ_ _=>False
 ct:St->Hp->Prop:=λ_ _=>False
abbrev TS:=Ends->St->Hp->Prop
def EP(X:Cx)(pins:List (afw×Obj))(σ:St)(Q:VK)(u:afC)(s':afB):Prop:=∃v H',Inv X pins σ H' s'/\RelV v u/\Q v H'
def TP(X:Cx)(pins:List (afw×Obj))(σ:St)(Q:Bool->Hp->Prop)(b:Bool)(s':afB):Prop:=∃H',Inv X pins σ H' s'/\Q b H'
def AP(X:Cx)(pins:List (afw×Obj))(σ:St)(Q:List V->Hp->Prop)(us:List afC)(s':afB):Prop:=∃vs H',Inv X pins σ H' s'/\Vals vs us/\Q vs H'
def SP(X:Cx)(pins:List (afw×Obj))(D:Ends)(f:Flow)(s':afB):Prop :=
 match f with
 | .next=>∃σ' H',Inv X pins σ' H' s'/\D.nx σ' H'
 | .brk=>∃σ' H',Inv X pins σ' H' s'/\D.bk σ' H'
 | .cont=>∃σ' H',Inv X pins σ' H' s'/\D.ct σ' H'
 | .ret u=>∃v σ' H',Inv X pins σ' H' s'/\RelV v u/\D.rt v H'
def PE(X:Cx)(e:Expr)(t:TE):Prop :=
 ∀(pins:List (afw×Obj))(s:afB)(σ:St)(H:Hp)(Q:VK),Inv X pins σ H s->t σ H Q->afP (model X.prog X.w) X.A (eval e X.env) (EP X pins σ Q) X.xe s
def PT(X:Cx)(e:Expr)(t:TT):Prop :=
 ∀(pins:List (afw×Obj))(s:afB)(σ:St)(H:Hp)(Q:Bool->Hp->Prop),Inv X pins σ H s->t σ H Q->afP (model X.prog X.w) X.A (isTrue e X.env (eval e X.env)) (TP X pins σ Q) X.xe s
def PW(X:Cx)(e:Expr)(t:TT):Prop :=
 ∀(whole:Sem afC)(pins:List (afw×Obj))(s:afB)(σ:St)(H:Hp)(Q:Bool->Hp->Prop),Inv X pins σ H s->t σ H Q->afP (model X.prog X.w) X.A (isTrue e X.env whole) (TP X pins σ Q) X.xe s
def PA(X:Cx)(es:List Expr)(t:TA):Prop :=
 ∀(pos:Pos)(pins:List (afw×Obj))(s:afB)(σ:St)(H:Hp)(Q:List V->Hp->Prop),Inv X pins σ H s->t σ H Q->afP (model X.prog X.w) X.A (spliced (backTo pos (afO es X.env))) (AP X pins σ Q) X.xe s
def PS(X:Cx)(st:Stmt)(t:TS):Prop :=
 ∀(pins:List (afw×Obj))(s:afB)(σ:St)(H:Hp)(D:Ends),Inv X pins σ H s->t D σ H->afP (model X.prog X.w) X.A (exec st X.env) (SP X pins D) X.xe s
def DE(X:Cx)(st:List Stmt)(t:TS):Prop :=
 ∀(pins:List (afw×Obj))(s:afB)(σ:St)(H:Hp)(D:Ends),Inv X pins σ H s->t D σ H->afP (model X.prog X.w) X.A (execs st X.env) (SP X pins D) X.xe s
theorem bp{α:Type}{t:Sem α}{Q Q':α->afB->Prop}{M:Model}{A:afx}{E:afC->afB->Prop}{s:afB}(h:afP M A t Q E s)(hQ:∀a s,Q a s->Q' a s):afP M A t Q' E s:=afT h hQ λ_ _ x=>x
section
variable {X:Cx}
def Wc(i:Nat):TE:=λσ H Q=>∃v,σ[i]? =some (some v)/\Q v H
def tC(v:V):TE:=λ_ H Q=>Q v H
theorem DF{i:Nat}{x:Str}{pos:Pos}(hN:X.N[i]? =some x)(hv:Q1 X.env.scope x)(hd:(x == ("__debug__":Str))=false:=by decide)(hcd:(x == ("__classdict__":Str))=false:=by decide):PE X (.Name x pos) (Wc i):=by
 intro pins s σ H Q I h
 obtain⟨v,e,h⟩:=h
 obtain⟨m,hn,hl⟩:=I.loc
 obtain⟨u,r,l⟩:=hl i x v hN e hv
 have fin:EP X pins σ Q u s:=⟨v,H,I,r,h⟩
 rcases l with ⟨hk,hm⟩ | ⟨hk,c,hc,hcell⟩
 ·exact wpAny_Name (wpAny_loadName_local I.ok.kind hk hn hm fin) hd
 ·rcases hk with hk | hk
  ·exact wpAny_Name (wpAny_loadName_cell I.ok.kind hk hc hcell fin) hd
  ·exact wpAny_Name (wpAny_loadName_free I.ok.kind hk hc hcell fin hcd) hd
theorem Mq{i j pos}:PE X (.Constant (.int i) j pos) (tC (.int i)):=λ_ _ _ H _ I h=>wpAny_Constant_int ⟨.int i,H,I.tok _,⟨_,rfl⟩,h⟩
theorem RF{b j pos}:PE X (.Constant (.bool b) j pos) (tC (.bl b)):=λ_ _ _ H _ I h=>Constant_bool ⟨.bl b,H,I,rfl,h⟩
theorem Mr{j pos}:PE X (.Constant .none j pos) (tC .bO):=λ_ _ _ H _ I h=>Constant_none ⟨.bO,H,I,rfl,h⟩
theorem Ms{x j pos}:PE X (.Constant (.str x) j pos) (tC (.str x)):=λ_ _ _ H _ I h=>Calls.Constant_str ⟨.str x,H,I.tok _,⟨_,rfl⟩,h⟩
def Gl(X:Cx)(x:Str):Prop:=X.env.kindOf x=some .globalImplicit
theorem kW{E:afC->afB->Prop}{pins:List (afw×Obj)}{s:afB}{σ:St}{H:Hp}{x:Str}{u:afC}{pos:Pos}{Q:afC->afB->Prop}(I:Inv X pins σ H s)(hg:Gl X x)(hm:X.mg x=some u)(h:Q u s)
  (hd:(x == ("__debug__":Str))=false:=by decide):afP (model X.prog X.w) X.A (eval (.Name x pos) X.env) Q E s :=
 Mt I.ok.kind hg (Calls.loadGlobal_global (by rw[I.ok.glob];exact I.mod.glob.keeps I.bk) hm h) hd
theorem jc{E:afC->afB->Prop}{pins:List (afw×Obj)}{s:afB}{σ:St}{H:Hp}{x:Str}{u:afC}{pos:Pos}{Q:afC->afB->Prop}(I:Inv X pins σ H s)(hg:Gl X x)(hm:X.mg x=none)(hv:afG x=some u)(h:Q u s)
  (hn:x≠"__name__":=by decide)(hd:(x == ("__debug__":Str))=false:=by decide):afP (model X.prog X.w) X.A (eval (.Name x pos) X.env) Q E s:=by
 obtain⟨mb,h1,h2⟩:=I.mod.blt
 exact Mt I.ok.kind hg (Calls.loadGlobal_builtin (by rw[I.ok.glob];exact I.mod.glob.keeps I.bk) hm (by rw[I.ok.blt];exact h1.keeps I.bk) ((h2 x hn).trans hv) h) hd
theorem jd{x:Str}{v:V}{u:afC}{pos:Pos}(hg:Gl X x)(hm:X.mg x=some u)(r:RelV v u)(hd:(x == ("__debug__":Str))=false:=by decide):PE X (.Name x pos) (tC v) :=
 λ_ _ _ H _ I h=>kW I hg hm ⟨v,H,I,r,h⟩ hd
theorem Ir{x:Str}{v:V}{u:afC}{pos:Pos}(hg:Gl X x)(hm:X.mg x=none)(hv:afG x=some u)(r:RelV v u)(hn:x≠"__name__":=by decide)(hd:(x == ("__debug__":Str))=false:=by decide):PE X (.Name x pos) (tC v) :=
 λ_ _ _ H _ I h=>jc I hg hm hv ⟨v,H,I,r,h⟩ hn hd
variable {a b:Expr} {ta tb:TE} {pos:Pos}
variable {tA Vc:TT} {rest:List Expr}
def We(t u:TT):TT:=λσ H Q=>t σ H λc H1=>if c=true then u σ H1 Q else Q false H1
def tOr(t u:TT):TT:=λσ H Q=>t σ H λc H1=>if c=true then Q true H1 else u σ H1 Q
def Wf(t:TT):TT:=λσ H Q=>t σ H λc H1=>Q (!c) H1
theorem Iu(ha:PT X a tA):PW X (.BoolOp .And [a] pos) tA:=by
 intro wh pins s σ H Q I h
 refine isTrue_and (bp (ha pins s σ H Q I h) λc s1 e=>?_)
 cases c with
 | true=>exact isTrue_and_nil e
 | false=>exact e
theorem Mu(ha:PT X a tA):PW X (.BoolOp .Or [a] pos) tA:=by
 intro wh pins s σ H Q I h
 refine isTrue_or (bp (ha pins s σ H Q I h) λc s1 e=>?_)
 cases c with
 | false=>exact isTrue_or_nil e
 | true=>exact e
theorem Mv(ha:PT X a tA)(hb:PW X (.BoolOp .And (b::rest) pos) Vc):PW X (.BoolOp .And (a::b::rest) pos) (We tA Vc):=by
 intro wh pins s σ H Q I h
 refine isTrue_and (bp (ha pins s σ H _ I h) λc s1 ⟨H1,I1,q1⟩=>?_)
 cases c with
 | true=>exact hb wh pins s1 σ H1 Q I1 q1
 | false=>exact⟨H1,I1,q1⟩
theorem RG(ha:PT X a tA)(hb:PW X (.BoolOp .Or (b::rest) pos) Vc):PW X (.BoolOp .Or (a::b::rest) pos) (tOr tA Vc):=by
 intro wh pins s σ H Q I h
 refine isTrue_or (bp (ha pins s σ H _ I h) λc s1 ⟨H1,I1,q1⟩=>?_)
 cases c with
 | true=>exact⟨H1,I1,q1⟩
 | false=>exact hb wh pins s1 σ H1 Q I1 q1
theorem Mw(ha:PT X a tA):PT X (.UnaryOp .Not a pos) (Wf tA):=by
 intro pins s σ H Q I h
 exact isTrue_not (ha pins s σ H (λc H1=>Q (!c) H1) I h)
def RH(ta tb:TE):TE:=λσ H Q=>ta σ H λx H1=>∃c,x= .bl c/\if c=true then tb σ H1 Q else Q (.bl false) H1
def Wg(ta tb:TE):TE:=λσ H Q=>ta σ H λx H1=>∃c,x= .bl c/\if c=true then Q (.bl true) H1 else tb σ H1 Q
def RI(ta:TE):TE:=λσ H Q=>ta σ H λx H1=>∃c,x= .bl c/\Q (.bl (!c)) H1
theorem Mx{op}{t:TE}(h:PE X a t):PE X (.BoolOp op [a] pos) t:=λpins s σ H Q I hw=>BoolOp_one (h pins s σ H Q I hw)
theorem Mz(ha:PE X a ta)(hb:PE X (.BoolOp .And (b::rest) pos) tb):PE X (.BoolOp .And (a::b::rest) pos) (RH ta tb):=by
 intro pins s σ H Q I h
 refine BoolOp_and (bp (ha pins s σ H _ I h) λv s1 ⟨x,H1,I1,r1,q1⟩=>?_)
 obtain⟨c,rfl,q1⟩:=q1
 cases r1
 refine afX ?_
 cases c with
 | true=>exact hb pins s1 σ H1 Q I1 q1
 | false=>exact⟨.bl false,H1,I1,rfl,q1⟩
theorem RJ(ha:PE X a ta)(hb:PE X (.BoolOp .Or (b::rest) pos) tb):PE X (.BoolOp .Or (a::b::rest) pos) (Wg ta tb):=by
 intro pins s σ H Q I h
 refine BoolOp_or (bp (ha pins s σ H _ I h) λv s1 ⟨x,H1,I1,r1,q1⟩=>?_)
 obtain⟨c,rfl,q1⟩:=q1
 cases r1
 refine afX ?_
 cases c with
 | false=>exact hb pins s1 σ H1 Q I1 q1
 | true=>exact⟨.bl true,H1,I1,rfl,q1⟩
theorem MA(ha:PE X a ta):PE X (.UnaryOp .Not a pos) (RI ta):=by
 intro pins s σ H Q I h
 refine UnaryOp_ (bp (ha pins s σ H _ I h) λv s1 ⟨x,H1,I1,r1,q1⟩=>?_)
 obtain⟨c,rfl,q1⟩:=q1
 cases r1
 exact not_of (afX ⟨.bl (!c),H1,I1,rfl,q1⟩)
def tIf(t:TT)(ta tb:TE):TE:=λσ H Q=>t σ H λc H1=>if c=true then ta σ H1 Q else tb σ H1 Q
theorem DG{c:Expr}(hc:PT X c tA)(ha:PE X a ta)(hb:PE X b tb):PE X (.IfExp c a b pos) (tIf tA ta tb):=by
 intro pins s σ H Q I h
 refine wpAny_IfExp (bp (hc pins s σ H _ I h) λd s1 ⟨H1,I1,q1⟩=>?_)
 cases d with
 | true=>exact ha pins s1 σ H1 Q I1 q1
 | false=>exact hb pins s1 σ H1 Q I1 q1
end
def jT(K:PySem.W.Frag)(H:Hp)(a:afw)(xs:List V):Prop :=
 Rd H a (.lst xs)\/
  ∃(o:Obj)(its:Array afC)(n:Nat),K.lookup a=some o/\o.cls= .type "list"/\o.dict=none/\o.data= .seq its n/\its.size<=afN/\Vals xs its.toList
def eF(K:PySem.W.Frag)(H:Hp)(a:afw)(xs:List V):Prop :=
 Rd H a (.tup xs)\/
  ∃(o:Obj)(its:Array afC)(n:Nat),K.lookup a=some o/\o.cls= .type "tuple"/\o.data= .seq its n/\its.size<=afN/\Vals xs its.toList
def Wh:afC->Option V
 | .none=>some .bO
 | .bool b=>some (.bl b)
 | .int i _=>some (.int i)
 | .str x _=>some (.str x)
 | .bytes b _=>some (.QZ b)
 | .float b _=>some (.U9 b)
 | .ref a=>some (.ref a)
 | .type n=>some (.ty n)
 | _=>none
theorem RelV.abs{x:V}{u:afC}(r:RelV x u):Wh u=some x:=by
 cases x with
 | bO=>cases r;rfl
 | bl _=>cases r;rfl
 | int _=>obtain⟨t,rfl⟩:=r;rfl
 | str _=>obtain⟨t,rfl⟩:=r;rfl
 | QZ _=>obtain⟨t,rfl⟩:=r;rfl
 | U9 _=>obtain⟨t,rfl⟩:=r;rfl
 | ref _=>cases r;rfl
 | ty _=>cases r;rfl
theorem RelV.inj{x y:V}{u:afC}(r:RelV x u)(q:RelV y u):x=y:=Option.some.inj (r.abs.symm.trans q.abs)
theorem Vals.inj:∀{xs ys:List V}{us:List afC},Vals xs us->Vals ys us->xs=ys
 | _,_,_,.nil,.nil=>rfl
 | _,_,_,.cons r t,.cons r' t'=>by rw[r.inj r',Vals.inj t t']
section
variable {X:Cx} {pins:List (afw×Obj)} {σ:St} {H:Hp} {s:afB} {a:afw} {xs ys:List V}
theorem jT.of{K:PySem.W.Frag}(h:H a=some (.lst xs)):jT K H a xs:=.inl (.inl h)
theorem eF.of{K:PySem.W.Frag}(h:H a=some (.tup xs)):eF K H a xs:=.inl (.inl h)
theorem Inv.list(I:Inv X pins σ H s)(h:jT X.K H a xs):∃its:List afC,Vals xs its/\PlainL s.heap a its.toArray/\xs.length<=afN:=by
 rcases h with h | ⟨o,its,n,hk,hc,hd,hs,hz,r⟩
 ·obtain⟨z,its,n,r,e⟩:=h.ok I.hok
  exact⟨its,r,⟨_,n,e,rfl,rfl,rfl⟩,z⟩
 ·refine⟨its.toList,r,⟨o,n,I.v9 a o hk,hc,hd,by simpa using hs⟩,?_⟩
  have e:=r.length
  simp only[DH] at e
  omega
theorem Inv.tuple(I:Inv X pins σ H s)(h:eF X.K H a xs):∃its:List afC,Vals xs its/\IsTup s.heap a its.toArray/\xs.length<=afN:=by
 rcases h with h | ⟨o,its,n,hk,hc,hs,hz,r⟩
 ·obtain⟨z,its,r,p,_⟩:=h.ok I.hok
  exact⟨its,r,p,z⟩
 ·refine⟨its.toList,r,⟨o,I.v9 a o hk,hc,n,by simpa using hs⟩,?_⟩
  have e:=r.length
  simp only[DH] at e
  omega
theorem Inv.qw(I:Inv X pins σ H s)(h:jT X.K H a xs)(h':jT X.K H a ys):xs=ys:=by
 obtain⟨its,r,⟨o,n,e,_,_,d⟩,_⟩:=I.list h
 obtain⟨its',r',⟨o',n',e',_,_,d'⟩,_⟩:=I.list h'
 rw[e] at e';cases e'
 rw[d] at d'
 injection d' with d1 _
 have:its=its':=by simpa using congrArg Array.toList d1
 subst this
 exact r.inj r'
theorem Inv.BS(I:Inv X pins σ H s)(h:eF X.K H a xs)(h':eF X.K H a ys):xs=ys:=by
 obtain⟨its,r,⟨o,e,_,n,d⟩,_⟩:=I.tuple h
 obtain⟨its',r',⟨o',e',_,n',d'⟩,_⟩:=I.tuple h'
 rw[e] at e';cases e'
 rw[d] at d'
 injection d' with d1 _
 have:its=its':=by simpa using congrArg Array.toList d1
 subst this
 exact r.inj r'
end
abbrev Cx.Wi(X:Cx)(E:afC->afB->Prop):Cx:={ X with xe:=E }
abbrev Cx.n4(X:Cx):Cx:=X.Wi λ_ _=>False
section
variable {X:Cx} {pins:List (afw×Obj)} {σ:St} {H:Hp} {s:afB} {E:afC->afB->Prop}
end
section
variable {X:Cx} {st:Stmt} {rest:List Stmt} {t u:TS} {e:Expr} {te:TE} {pos:Pos}
def KZ:TS:=λD σ H=>D.nx σ H
def Wj(t u:TS):TS:=λD σ H=>t { D with nx:=u D } σ H
theorem Iw:DE X [] KZ:=λ_ _ σ H _ I h=>wpAny_execs_nil ⟨σ,H,I,h⟩
theorem DI(h1:PS X st t)(h2:DE X rest u):DE X (st::rest) (Wj t u):=by
 intro pins s σ H D I h
 refine wpAny_execs_cons (bp (h1 pins s σ H { D with nx:=u D } I h) λf s1 q=>?_)
 cases f with
 | next=>
  obtain⟨σ',H',I',q⟩:=q
  exact h2 pins s1 σ' H' D I' q
 | ret v=>exact q
 | brk=>exact q
 | cont=>exact q
theorem Iy(h1:PS X st t):DE X [st] t:=by
 intro pins s σ H D I h
 refine wpAny_execs_cons (bp (h1 pins s σ H D I h) λf s1 q=>?_)
 cases f with
 | next=>exact wpAny_execs_nil q
 | ret v=>exact q
 | brk=>exact q
 | cont=>exact q
theorem Iz:PS X (.Pass pos) KZ:=λ_ _ σ H _ I h=>wpAny_Pass ⟨σ,H,I,h⟩
theorem Inv.quiet{pins:List (afw×Obj)}{σ:St}{H:Hp}{s:afB}(I:Inv X pins σ H s):interactive X.env=false:=by simp[interactive,I.ok.kind]
def RK(te:TE):TS:=λD σ H=>te σ H λ_ H1=>D.nx σ H1
theorem IA(he:PE X e te)(hs:swapsWith e none pos.line X.env=pure false:=by rfl):PS X (.Expr e pos) (RK te):=by
 intro pins s σ H D I h
 exact wpAny_Expr_any (bp (he pins s σ H _ I h) λv s1 ⟨x,H1,I1,r1,q1⟩=>⟨σ,H1,I1,q1⟩) I.quiet hs
def Wl(te:TE):TS:=λD σ H=>te σ H D.rt
theorem MB(he:PE X e te):PS X (.Return (some e) pos) (Wl te):=by
 intro pins s σ H D I h
 exact wpAny_Return_some (bp (he pins s σ H _ I h) λv s1 ⟨x,H1,I1,r1,q1⟩=>⟨x,σ,H1,I1,r1,q1⟩)
def RL:TS:=λD _ H=>D.rt .bO H
theorem IB:PS X (.Return none pos) RL:=λ_ _ σ H _ I h=>wpAny_Return_none ⟨.bO,σ,H,I,rfl,h⟩
def Wm(c:TT)(t u:TS):TS:=λD σ H=>c σ H λb H1=>if b=true then t D σ H1 else u D σ H1
theorem RM{c:Expr}{a b:List Stmt}{tc:TT}(hc:PT X c tc)(ha:DE X a t)(hb:DE X b u):PS X (.If c a b pos) (Wm tc t u):=by
 intro pins s σ H D I h
 refine wpAny_If (bp (hc pins s σ H _ I h) λd s1 ⟨H1,I1,q1⟩=>?_)
 cases d with
 | true=>exact ha pins s1 σ H1 D I1 q1
 | false=>exact hb pins s1 σ H1 D I1 q1
def DJ:TS:=λ_ _ _=>False
theorem DK:PS X st DJ:=λ_ _ _ _ _ _ h=>h.elim
theorem BU{sts:List Stmt}:DE X sts DJ:=λ_ _ _ _ _ _ h=>h.elim
end
abbrev TG:=V->St->Hp->(St->Hp->Prop)->Prop
abbrev K2:=List V->St->Hp->(St->Hp->Prop)->Prop
def PG(X:Cx)(target:Expr)(t:TG):Prop :=
 ∀(pins:List (afw×Obj))(s:afB)(σ:St)(H:Hp)(v:V)(u:afC)(Q:St->Hp->Prop),Inv X pins σ H s->RelV v u->t v σ H Q->
  afP (model X.prog X.w) X.A (assign target X.env u) (λ_ s'=>∃σ' H',Inv X pins σ' H' s'/\Q σ' H') X.xe s
def RN(X:Cx)(ts:List Expr)(t:K2):Prop :=
 ∀(pins:List (afw×Obj))(s:afB)(σ:St)(H:Hp)(vs:List V)(us:List afC)(Q:St->Hp->Prop),Inv X pins σ H s->Vals vs us->t vs σ H Q->
  afP (model X.prog X.w) X.A (assignInOrder ((assignEach ts X.env).map (·.2)) us) (λ_ s'=>∃σ' H',Inv X pins σ' H' s'/\Q σ' H') X.xe s
abbrev MC:=V->V->V->Hp->(Hp->Prop)->Prop
def RO(X:Cx)(t:MC):Prop :=
 ∀(pins:List (afw×Obj))(s:afB)(σ:St)(H:Hp)(o i v:V)(ov iv u:afC)(Q:Hp->Prop),Inv X pins σ H s->RelV o ov->RelV i iv->RelV v u->t o i v H Q->
  afP (model X.prog X.w) X.A (setItem ov iv u) (λ_ s'=>∃H',Inv X pins σ H' s'/\Q H') X.xe s
section
variable {X:Cx} {pos:Pos}
def wg(i:Nat):TG:=λv σ H Q=>Q (σ.set i (some v)) H
theorem mW{i:Nat}{x:Str}(hN:X.N.Nodup)(hi:X.N[i]? =some x)(hx:Loc X.env.scope x)(hf:X.fn x=true\/X.env.scope.names.lookup x=some .local:=by first | exact .inl rfl | exact .inr rfl | assumption):PG X (.Name x pos) (wg i):=by
 intro pins s σ H v u Q I r h
 exact wpAny_assign_Name (mV I hN hi hx r (λs' I'=>⟨_,H,I',h⟩) hf)
def aj:K2:=λvs σ H Q=>vs=[]/\Q σ H
def aa(t:TG)(u:K2):K2:=λvs σ H Q=>∃v r,vs=v::r/\t v σ H λσ' H'=>u r σ' H' Q
theorem IC:RN X [] aj:=by
 intro pins s σ H vs us Q I r h
 obtain⟨e,h⟩:=h
 subst e
 cases r
 exact assignInOrder_nil ⟨σ,H,I,h⟩
theorem DL{e:Expr}{es:List Expr}{t:TG}{u:K2}(h1:PG X e t)(h2:RN X es u)
  (hs:(assignEach (e::es) X.env).map (·.2)=assign e X.env::(assignEach es X.env).map (·.2):=by rfl):RN X (e::es) (aa t u):=by
 intro pins s σ H vs us Q I r h
 obtain⟨v,vr,e1,h⟩:=h
 subst e1
 cases r with
 | cons r rr=>
  rw[hs]
  refine assignInOrder_cons (bp (h1 pins s σ H _ _ _ I r h) λ_ s1 ⟨σ1,H1,I1,q1⟩=>?_)
  exact h2 pins s1 σ1 H1 _ _ Q I1 rr q1
def bz(K:PySem.W.Frag)(n:Nat)(t:K2):TG:=λv σ H Q=>∃a xs,v= .ref a/\eF K H a xs/\xs.length=n/\t xs σ H Q
theorem uC{es:List Expr}{k:Nat}{t:K2}{n:Nat}(hc:X.calm=true)(h:RN X es t)
  (hn:(assignEach es X.env).length=n:=by rfl)(hst:(assignEach es X.env).findIdx? (·.1)=none:=by rfl):PG X (.Tuple es k pos) (bz X.K n t):=by
 intro pins s σ H v u Q I r hw
 obtain⟨a,xs,e1,hq,hl,hw⟩:=hw
 subst e1
 cases r
 obtain⟨its,rv,ht,hz⟩:=I.tuple hq
 refine assign_Tuple_tuple (I.ok.hd hc) ht (by simp[hn,<-hl,rv.length]) hst λh' hx=>?_
 have I1:Inv X pins σ H { s with heap:=h' }:=I.kept (t':=s.toks) λb o e=>hx b o (aZ (aC e)) e
 exact h pins _ σ H xs _ Q I1 (by simpa using rv) hw
def Wn(to ti:TE)(t:MC):TG:=λv σ H Q=>to σ H λo H1=>ti σ H1 λi H2=>t o i v H2 λH3=>Q σ H3
theorem MD{o i:Expr}{to ti:TE}{t:MC}(ho:PE X o to)(hi:PE X i ti)(hs:RO X t)
  (ha:∀v,assign (.Subscript o i pos) X.env v=(do
   let ov <-holding [v] (eval o X.env)
   let iv <-holding [v,ov] (eval i X.env)
   standAt pos
   holding [v,ov,iv] (setItem ov iv v)
   release [v,ov,iv] []):=by intro _;rfl):PG X (.Subscript o i pos) (Wn to ti t):=by
 intro pins s σ H v u Q I r h
 rw[ha]
 refine afQ (afS (bp (ho pins s σ H _ I h) λov s1 ⟨x,H1,I1,r1,q1⟩=>?_))
 refine afQ (afS (bp (hi pins s1 σ H1 _ I1 q1) λiv s2 ⟨y,H2,I2,r2,q2⟩=>?_))
 refine afQ (wpAny_standAt (afQ (afS (bp (hs pins s2 σ H2 x y v ov iv u _ I2 r1 r2 r q2) λ_ s3 ⟨H3,I3,q3⟩=>?_))))
 exact wpAny_release ⟨σ,H3,I3,q3⟩
def RP(te:TE)(g:TG):TS:=λD σ H=>te σ H λx H1=>g x σ H1 D.nx
theorem ME{tg e:Expr}{te:TE}{g:TG}(he:PE X e te)(hg:PG X tg g)(hs:swapsWithSole [tg] e pos.line X.env=pure false:=by rfl)(hw:swappedStores [tg] e X.env=pure none:=by rfl)
  (h1:(assignEach [tg] X.env).map (·.2)=[assign tg X.env]:=by rfl):PS X (.Assign [tg] e pos) (RP te g):=by
 intro pins s σ H D I h
 refine wpAny_Assign_stores (bp (he pins s σ H _ I h) λv s1 ⟨x,H1,I1,r1,q1⟩=>?_) hs hw
 rw[h1]
 exact bp (hg pins s1 σ H1 x v _ I1 r1 q1) λ_ s2 q=>q
theorem MF{i:Nat}{x:Str}{e:Expr}{te:TE}{pos':Pos}(hN:X.N.Nodup)(hi:X.N[i]? =some x)(hx:Loc X.env.scope x)(he:PE X e te)(hs:swapsWith e (some (.Name x pos')) pos.line X.env=pure false:=by rfl)(hf:X.fn x=true\/X.env.scope.names.lookup x=some .local:=by first | exact .inl rfl | exact .inr rfl | assumption) :
  PS X (.Assign [.Name x pos'] e pos) (RP te (wg i)):=by
 intro pins s σ H D I h
 refine wpAny_Assign_Name (bp (he pins s σ H _ I h) λv s1 ⟨y,H1,I1,r1,q1⟩=>?_) hs
 exact mV I1 hN hi hx r1 (λs2 I2=>⟨_,H1,I2,q1⟩) hf
end
section
variable {X:Cx} {pos:Pos}
end
structure It where
 go:Nat->Hp->Prop
 v_:Nat->Hp->V->Hp->Prop
 stop:Nat->Hp->Prop
def dY(X:Cx)(pins:List (afw×Obj))(H:Hp)(b:afw):Prop :=
 H b=none/\b≠X.env.locals/\b∉X.fs/\(b∈X.ex\/X.s₀.heap.objs.size<=b)/\(∀x c,X.env.cells.lookup x=some c->c≠b)/\∀p∈X.pn++pins,p.1≠b
theorem Inv.sx{X:Cx}{pins:List (afw×Obj)}{σ:St}{H H':Hp}{s:afB}{b:afw}(I:Inv X pins σ H s)(hb:s.heap.objs.size<=b)(hn:H' b=none):dY X pins H' b:=by
 refine⟨hn,kX (aY I.lt hb),I.RD hb,.inr (bu I.sz hb),λx c e z=>?_,λp hp z=>?_⟩
 ·obtain⟨v,q⟩:=I.cell x c e
  exact absurd (aY q.lt (by rw[z];exact hb)) (cI _)
 ·exact absurd (aY (aC (I.pin p hp).1) (by rw[z];exact hb)) (cI _)
structure Turn(P:afA)(w:afD)(K:PySem.W.Frag)(tg:Expr)(J:It)(fp:List afw)(it:afw)(tn:Nat->Heap->Prop):Prop where
 mem:it∈fp
 obj:∀i h,tn i h->∀b∈fp,∃o,h.get? b=some o/\∀v,o.data≠.cell v
 keep:∀i h h',tn i h->(∀b∈fp,∀o,h.get? b=some o->h'.get? b=some o)->tn i h'
 item:∀(X:Cx),X.prog=P->X.w=w->X.K=K->X.calm=true->∀(i:Nat)(pins:List (afw×Obj))(s:afB)(σ:St)(H:Hp)(E:afC->afB->Prop),Inv X pins σ H s->(∀b∈fp,dY X pins H b)->tn i s.heap->J.go i H->
  afP (model P w) X.A (pyNext (.ref it)) (λr s1=>∃u,r=some u/\
   afP (model P w) X.A (letOwnedTupleGo tg (.ref it) u) (λ_ s2=>∃x H',Inv X pins σ H' s2/\RelV x u/\J.v_ i H x H'/\tn (i+1) s2.heap/\∀b∈fp,H' b=none) E s1) E s
 done:∀(X:Cx),X.prog=P->X.w=w->X.K=K->X.calm=true->∀(i:Nat)(pins:List (afw×Obj))(s:afB)(σ:St)(H:Hp)(E:afC->afB->Prop),Inv X pins σ H s->(∀b∈fp,dY X pins H b)->tn i s.heap->J.stop i H->
  afP (model P w) X.A (pyNext (.ref it)) (λr s1=>r=none/\Inv X pins σ H s1) E s
 self:∀(A:afx)(i:Nat)(s:afB)(Q:afC->afB->Prop)(E:afC->afB->Prop),tn i s.heap->Q (.ref it) s->afP (model P w) A (pyIter (.ref it)) Q E s
abbrev TI:=St->Hp->(It->Hp->Prop)->Prop
def ZV(X:Cx)(pins:List (afw×Obj))(σ:St)(tg:Expr)(R:It->Hp->Prop)(itv:afC)(s2:afB):Prop :=
 ∃(it:afw)(fp:List afw)(tn:Nat->Heap->Prop)(J:It)(H':Hp),itv= .ref it/\Inv X pins σ H' s2/\Turn X.prog X.w X.K tg J fp it tn/\tn 0 s2.heap/\(∀b∈fp,dY X pins H' b)/\R J H'
def PI(X:Cx)(tg iter:Expr)(wi:TI):Prop :=
 ∀(pins:List (afw×Obj))(s:afB)(σ:St)(H:Hp)(R:It->Hp->Prop),Inv X pins σ H s->wi σ H R->
  afP (model X.prog X.w) X.A (eval iter X.env) (λv s1=>afP (model X.prog X.w) X.A (pyIter v) (ZV X pins σ tg R) X.xe s1) X.xe s
theorem qx{M:Model}{A:afx}{E:afC->afB->Prop}{s:afB}{tg:Expr}{it:afw}{u:afC}{o:Obj}{n:String}{vs:Array afC}{Q:Unit->afB->Prop}(ho:s.heap.get? it=some o)(hc:o.cls= .type n)(hd:o.data= .fields vs)
    (hn:["enumerate","zip","dict_itemiterator","dict_reverseitemiterator","odict_iterator","itertools.zip_longest","itertools.pairwise"].contains n=false)(hQ:Q () s):afP M A (letOwnedTupleGo tg (.ref it) u) Q E s:=by
  unfold letOwnedTupleGo
  cases tg<;>first
    | exact afW hQ
    | (cases u<;>first
        | exact afW hQ
        | (refine afQ (wpAny_load ho ?_)
           rw[hc,hd]
           show afP M A (if(["enumerate","zip","dict_itemiterator","dict_reverseitemiterator","odict_iterator","itertools.zip_longest","itertools.pairwise"].contains n&&vs[0]? == some (rawInt _))=true then _ else _) Q E s
           rw[if_neg (by intro h;rw[hn,Al] at h;cases h)]
           exact afW hQ))
def Wo(K:PySem.W.Frag)(a:afw):It :=
 ⟨λi H=>∃xs x,jT K H a xs/\xs[i]? =some x,λi H x H'=>H'=H/\∀xs,jT K H a xs->xs[i]? =some x,λi H=>∃xs,jT K H a xs/\xs.length<=i⟩
def ZW(K:PySem.W.Frag)(a:afw):It :=
 ⟨λi H=>∃xs x,eF K H a xs/\xs[i]? =some x,λi H x H'=>H'=H/\∀xs,eF K H a xs->xs[i]? =some x,λi H=>∃xs,eF K H a xs/\xs.length<=i⟩
def HZ(lo:Int)(n:Nat):It:=⟨λi _=>i < n,λi H x H'=>H'=H/\x= .int (lo+i),λi _=>n<=i⟩
theorem sY{P:afA}{w:afD}{K:PySem.W.Frag}{tg:Expr}(a it:afw):Turn P w K tg (Wo K a) [it] it (λi h=>h.IsListIter it a i) where
 mem:=by simp
 obj:=λi h st b hb=>by
  have e:b=it:=by simpa using hb
  subst e
  obtain⟨o,e,c,d⟩:=st
  exact⟨o,e,λv z=>by rw[d] at z;cases z⟩
 keep:=λi h h' st k=>st.at λo e=>k it (by simp) o e
 item:=by
  intro X hP hw hK hc i pins s σ H E I hf st hg
  subst hP hw hK
  obtain⟨xs,x,hq,hx⟩:=hg
  obtain⟨its,rv,p,hz⟩:=I.list hq
  obtain⟨u,hu,ru⟩:=rv.get hx
  obtain⟨f0,f1,f2,f3,f4,f5⟩:=hf it (by simp)
  refine wpAny_pyNext_list_item st p.isList (x:=u) (by simpa using hu) λh' st' sb=>?_
  have I1:Inv X pins σ H { s with heap:=h' }:=I.turned (t':=s.toks) (λb o hb e=>(sb.2 b hb).trans e) f0 f1 f3 f4 f5
  obtain⟨o,e,c,d⟩:=id st'
  exact⟨u,rfl,qx (s:={ s with heap:=h' }) e c d (by decide) ⟨x,H,I1,ru,⟨rfl,λys hy=>by rw[I.qw hy hq];exact hx⟩,st',λb hb=>(hf b hb).1⟩⟩
 done:=by
  intro X hP hw hK hc i pins s σ H E I hf st hg
  subst hP hw hK
  obtain⟨xs,hq,hx⟩:=hg
  obtain⟨its,rv,p,hz⟩:=I.list hq
  obtain⟨f0,f1,f2,f3,f4,f5⟩:=hf it (by simp)
  have hl:=rv.length
  exact wpAny_pyNext_list_end (I.ok.hd hc) st p.isList (by simp;omega) λh' eb=>⟨rfl,I.turned (t':=s.toks) (λb o hb e=>eb b o hb e) f0 f1 f3 f4 f5⟩
 self:=λ_ _ _ _ _ st h=>wpAny_pyIter_listiter st h
theorem yg{P:afA}{w:afD}{K:PySem.W.Frag}{tg:Expr}(a it:afw):Turn P w K tg (ZW K a) [it] it (λi h=>h.IsTupleIter it a i) where
 mem:=by simp
 obj:=λi h st b hb=>by
  have e:b=it:=by simpa using hb
  subst e
  obtain⟨o,e,c,d⟩:=st
  exact⟨o,e,λv z=>by rw[d] at z;cases z⟩
 keep:=λi h h' st k=>st.at λo e=>k it (by simp) o e
 item:=by
  intro X hP hw hK hc i pins s σ H E I hf st hg
  subst hP hw hK
  obtain⟨xs,x,hq,hx⟩:=hg
  obtain⟨its,rv,p,hz⟩:=I.tuple hq
  obtain⟨u,hu,ru⟩:=rv.get hx
  obtain⟨f0,f1,f2,f3,f4,f5⟩:=hf it (by simp)
  refine wpAny_pyNext_tuple_item st (show s.heap.IsTuple a its.toArray from p) (x:=u) (by simpa using hu) λh' st' sb=>?_
  have I1:Inv X pins σ H { s with heap:=h' }:=I.turned (t':=s.toks) (λb o hb e=>(sb.2 b hb).trans e) f0 f1 f3 f4 f5
  obtain⟨o,e,c,d⟩:=id st'
  exact⟨u,rfl,qx (s:={ s with heap:=h' }) e c d (by decide) ⟨x,H,I1,ru,⟨rfl,λys hy=>by rw[I.BS hy hq];exact hx⟩,st',λb hb=>(hf b hb).1⟩⟩
 done:=by
  intro X hP hw hK hc i pins s σ H E I hf st hg
  subst hP hw hK
  obtain⟨xs,hq,hx⟩:=hg
  obtain⟨its,rv,p,hz⟩:=I.tuple hq
  obtain⟨f0,f1,f2,f3,f4,f5⟩:=hf it (by simp)
  have hl:=rv.length
  exact wpAny_pyNext_tuple_end (I.ok.hd hc) st (show s.heap.IsTuple a its.toArray from p) (by simp;omega) λh' eb=>⟨rfl,I.turned (t':=s.toks) (λb o hb e=>eb b o hb e) f0 f1 f3 f4 f5⟩
 self:=λ_ _ _ _ _ st h=>wpAny_pyIter_tupleiter st h
theorem je{P:afA}{w:afD}{K:PySem.W.Frag}{tg:Expr}(it:afw)(lo:Int)(n:Nat):Turn P w K tg (HZ lo n) [it] it (λi h=>IsRangeIter h it (lo+(i:Nat) * 1) ((n:Int) - (i:Nat)) 1) where
 mem:=by simp
 obj:=λi h st b hb=>by
  have e:b=it:=by simpa using hb
  subst e
  exact⟨_,st,λv z=>by
   have z':Data.fields _=Data.cell v:=z
   cases z'⟩
 keep:=λi h h' st k=>k it (by simp) _ st
 item:=by
  intro X hP hw hK hc i pins s σ H E I hf st hg
  subst hP hw hK
  obtain⟨f0,f1,f2,f3,f4,f5⟩:=hf it (by simp)
  have W:=Walks.range (prog:=X.prog) (w:=X.w) (I.ok.hd hc) it lo 1 n
  refine W.item i s _ _ hg st λv h' tk hv st' kk=>?_
  obtain⟨t,rfl⟩:=hv
  have I1:Inv X pins σ H { s with heap:=h',toks:=tk }:=I.turned (λb o hb e=>kk b o (by simpa using hb) e) f0 f1 f3 f4 f5
  refine⟨_,rfl,qx (s:={ s with heap:=h',toks:=tk }) (n:="range_iterator") st' rfl rfl (by decide) ⟨.int (lo+i),H,I1,⟨t,?_⟩,⟨rfl,rfl⟩,st',λb hb=>(hf b hb).1⟩⟩
  rw[Int.mul_one]
 done:=by
  intro X hP hw hK hc i pins s σ H E I hf st hg
  subst hP hw hK
  obtain⟨f0,f1,f2,f3,f4,f5⟩:=hf it (by simp)
  exact wpAny_pyNext_range_end (I.ok.hd hc) st (by have:n<=i:=hg;omega) λh' eb=>⟨rfl,I.turned (t':=s.toks) (λb o hb e=>eb b o hb e) f0 f1 f3 f4 f5⟩
 self:=λ_ _ _ _ _ st h=>wpAny_pyIter_rangeiter st h
section
variable {X:Cx} {tg:Expr}
def RQ(K:PySem.W.Frag)(tl:TE):TI:=λσ H R=>tl σ H λx H1=>∃a,x= .ref a/\(∃xs,jT K H1 a xs)/\R (Wo K a) H1
theorem ID{l:Expr}{tl:TE}(hl:PE X l tl):PI X tg l (RQ X.K tl):=by
 intro pins s σ H R I h
 refine bp (hl pins s σ H _ I h) λv s1 ⟨x,H1,I1,r1,q1⟩=>?_
 obtain⟨a,e,⟨xs,hq⟩,q⟩:=q1
 subst e
 cases r1
 obtain⟨its,rv,p,hz⟩:=I1.list hq
 refine wpAny_pyIter_list p.isList ?_
 refine⟨s1.heap.objs.size,[s1.heap.objs.size],_,_,H1,rfl,I1.kept (t':=s1.toks) λb o e=>aF _ e,sY a _,⟨_,br _ rfl,rfl,rfl⟩,λb hb=>?_,q⟩
 have e:b=s1.heap.objs.size:=by simpa using hb
 subst e
 exact I1.sx (au _) (I1.hok.fresh (au _))
theorem wj{pins:List (afw×Obj)}{σ:St}{H:Hp}{s:afB}{R:It->Hp->Prop}{E:afC->afB->Prop}{lo hi:Int}{t u v:Tok}{tk:Nat}(I:Inv X pins σ H s)(h1:-(2 ^ 62)<=lo)(h2:lo < 2 ^ 62)(h3:-(2 ^ 62)<=hi)(h4:hi < 2 ^ 62)
  (q:R (HZ lo (hi - lo).toNat) H):afP (model X.prog X.w) X.A (pyIter (.ref s.heap.objs.size)) (ZV X pins σ tg R) E { s with heap:=s.heap.push { cls:=.type "range",data:=.fields #[.int lo t,.int hi u,.int 1 v] },toks:=tk }:=by
 refine wpAny_pyIter_range (DM ..) (small_one h1 h2 h3 h4) ?_
 have I1:Inv X pins σ H { s with heap:=s.heap.push { cls:=.type "range",data:=.fields #[.int lo t,.int hi u,.int 1 v] },toks:=tk }:=I.kept λb o e=>aF _ e
 refine⟨(s.heap.push { cls:=.type "range",data:=.fields #[.int lo t,.int hi u,.int 1 v] }).objs.size,[(s.heap.push { cls:=.type "range",data:=.fields #[.int lo t,.int hi u,.int 1 v] }).objs.size],_,_,H,rfl,
  I1.kept (t':=tk) λb o e=>aF _ e,je _ lo (hi - lo).toNat,?_,λb hb=>?_,q⟩
 ·have e1:lo+((0:Nat):Int) * 1=lo:=by simp
  have e2:(((hi - lo).toNat:Nat):Int) - ((0:Nat):Int)=qy lo hi 1:=by rw[rangeSize_one];split<;>omega
  show IsRangeIter _ _ (lo+((0:Nat):Int) * 1) ((((hi - lo).toNat:Nat):Int) - ((0:Nat):Int)) 1
  rw[e1,e2]
  exact br _ rfl
 ·have e:b=(s.heap.push { cls:=.type "range",data:=.fields #[.int lo t,.int hi u,.int 1 v] }).objs.size:=by simpa using hb
  subst e
  exact I1.sx (au _) (I1.hok.fresh (au _))
def K3(ta:TA):TI:=λσ H R=>ta σ H λvs H1=>∃j:Int,vs=[.int j]/\-(2 ^ 62)<=j/\j < 2 ^ 62/\R (HZ 0 j.toNat) H1
def RS(ta:TA):TI:=λσ H R=>ta σ H λvs H1=>∃i j:Int,vs=[.int i,.int j]/\(-(2 ^ 62)<=i/\i < 2 ^ 62/\-(2 ^ 62)<=j/\j < 2 ^ 62)/\R (HZ i (j - i).toNat) H1
theorem sZ{a:Expr}{ta:TA}{p pos:Pos}(hg:Gl X "range")(hm:X.mg "range"=none)(ha:PA X [a] ta)(hs:afO [a] X.env=[(false,eval a X.env)]:=by rfl):PI X tg (.Call (.Name "range" p) [a] [] pos) (K3 ta):=by
 intro pins s σ H R I h
 refine Call_ (jc I hg hm boot_range (kY (bp (ha pos pins s σ H _ I h) λus s1 ⟨vs,H1,I1,r1,q1⟩=>?_) hs rfl))
 obtain⟨j,e,q1,q2,q⟩:=q1
 subst e
 cases r1 with
 | cons r rr=>
  cases rr
  obtain⟨t,rfl⟩:=r
  exact call_range_1 (wj I1 (by omega) (by omega) q1 q2 (by simpa using q))
theorem s_{a b:Expr}{ta:TA}{p pos:Pos}(hg:Gl X "range")(hm:X.mg "range"=none)(ha:PA X [a,b] ta)(hs:afO [a,b] X.env=[(false,eval a X.env),(false,eval b X.env)]:=by rfl)(hs2:afO [b] X.env=[(false,eval b X.env)]:=by rfl) :
  PI X tg (.Call (.Name "range" p) [a,b] [] pos) (RS ta):=by
 intro pins s σ H R I h
 refine Call_ (jc I hg hm boot_range (kY (bp (ha pos pins s σ H _ I h) λus s1 ⟨vs,H1,I1,r1,q1⟩=>?_) (by rw[hs,hs2]) (by rw[hs2];rfl)))
 obtain⟨i,j,e,⟨q1,q2,q3,q4⟩,q⟩:=q1
 subst e
 cases r1 with
 | cons r rr=>
  cases rr with
  | cons r' rr=>
   cases rr
   obtain⟨t,rfl⟩:=r
   obtain⟨t',rfl⟩:=r'
   exact call_range_2 (wj I1 q1 q2 q3 q4 q)
def Wq(wi:TI)(g:TG)(tb:TS):TS:=λD σ H=>wi σ H λJ H1=>∃W:Nat->Nat->St->Hp->Prop,(∃m,W 0 m σ H1)/\∀i m σ H,W i m σ H->
 (J.stop i H/\D.nx σ H)\/(J.go i H/\∃N:St->Hp->Prop,(∀σ' H',N σ' H'->∃m',m' < m/\W (i+1) m' σ' H')/\∀x H',J.v_ i H x H'->g x σ H' λσ2 H2=>tb { D with nx:=N,ct:=N,bk:=D.nx } σ2 H2)
def dG(fp:List afw)(h:Heap):List (afw×Obj):=fp.filterMap λb=>(h.get? b).map λo=>(b,o)
theorem fj{fp:List afw}{h:Heap}{b:afw}{o:Obj}(hb:b∈fp)(e:h.get? b=some o):(b,o)∈dG fp h:=List.mem_filterMap.mpr ⟨b,hb,by rw[e];rfl⟩
theorem BV{fp:List afw}{h:Heap}{p:afw×Obj}(hp:p∈dG fp h):p.1∈fp/\h.get? p.1=some p.2:=by
 obtain⟨b,hb,e⟩:=List.mem_filterMap.mp hp
 cases q:h.get? b with
 | none=>rw[q] at e;cases e
 | some o=>
  rw[q] at e
  have e':(b,o)=p:=Option.some.inj e
  subst e'
  exact⟨hb,q⟩
theorem Inv.pinned{pins:List (afw×Obj)}{σ:St}{H:Hp}{s:afB}{fp:List afw}(I:Inv X pins σ H s)(hf:∀b∈fp,dY X pins H b)(ho:∀b∈fp,∃o,s.heap.get? b=some o/\∀v,o.data≠.cell v):Inv X (pins++dG fp s.heap) σ H s :=
 I.Ak λp hp=>(List.mem_append.mp hp).elim (λz=>I.pin p (dq _ z)) λz=>by
  obtain⟨hb,e⟩:=BV z
  obtain⟨f0,f1,f2,_⟩:=hf p.1 hb
  obtain⟨o,e',d⟩:=ho p.1 hb
  rw[e] at e';cases e'
  exact⟨e,f0,f1,f2,d⟩
theorem Inv.jX{pins pl:List (afw×Obj)}{σ:St}{H:Hp}{s:afB}(I:Inv X (pins++pl) σ H s):Inv X pins σ H s:=I.Ak λp hp=>I.pin p (dq _ (mU _ hp))
theorem lZ{iter:Expr}{body:List Stmt}{wi:TI}{g:TG}{tb:TS}{pos:Pos}(hp:PassesOwn (model X.prog X.w) X.A X.env X.xe)(hc:X.calm=true)(hi:PI X tg iter wi)(hg:PG X tg g)(hb:DE X body tb)
  (hs:∀x,afK iter X.env x=pure x:=by intro _;rfl):PS X (.For tg iter body [] pos) (Wq wi g tb):=by
 intro pins s σ H D I h
 refine wpAny_For (bp (hi pins s σ H _ I h) λv s1 h1=>bp h1 λitv s2 h2=>?_) hs
 obtain⟨it,fp,tn,J,H2,e,I2,T,st2,f2,W,⟨m0,w0⟩,turn⟩:=h2
 subst e
 -- what stays true of the MG objects through the loop
 have MH:∀{H':Hp},(∀b∈fp,H' b=none)->∀b∈fp,dY X pins H' b:=λhn b hb=>⟨hn b hb,(f2 b hb).2⟩
 refine codeAny_forLoop_any (λn s'=>∃i σ' H',Inv X pins σ' H' s'/\tn i s'.heap/\(∀b∈fp,H' b=none)/\W i n σ' H') ?_ m0 ⟨0,σ,H2,I2,st2,λb hb=>(f2 b hb).1,w0⟩
 rintro n s3 ⟨i,σ3,H3,I3,st3,ZX,w3⟩
 rcases turn i n σ3 H3 w3 with ⟨stop,qn⟩ | ⟨go,N,hN,step⟩
 ·refine wpAny_passesOwn hp (bp (T.done X rfl rfl rfl hc i pins s3 σ3 H3 X.xe I3 (MH ZX) st3 stop) λr s4 ⟨hr,I4⟩=>?_)
  subst hr
  exact wpAny_execs_nil ⟨σ3,H3,I4,qn⟩
 ·refine wpAny_passesOwn hp (bp (T.item X rfl rfl rfl hc i pins s3 σ3 H3 X.xe I3 (MH ZX) st3 go) λr s4 ⟨u,hr,h4⟩=>?_)
  subst hr
  refine wpAny_passesOwn hp (bp h4 λ_ s5 ⟨x,H5,I5,r5,y5,wk,MI⟩=>?_)
  have I5':=I5.pinned (MH MI) (T.obj _ _ wk)
  refine wpAny_passesOwn hp (bp (hg _ s5 σ3 H5 x u _ I5' r5 (step x H5 y5)) λ_ s6 ⟨σ6,H6,I6,q6⟩=>?_)
  refine wpAny_passesOwn hp (bp (hb _ s6 σ6 H6 _ I6 q6) λf s7 q7=>?_)
  have again:∀{σ7:St}{H7:Hp},Inv X (pins++dG fp s5.heap) σ7 H7 s7->N σ7 H7->∃m,m < n/\∃i σ' H',Inv X pins σ' H' s7/\tn i s7.heap/\(∀b∈fp,H' b=none)/\W i m σ' H':=λ{σ7 H7} I7 n7=>by
   obtain⟨m',hm,w7⟩:=hN σ7 H7 n7
   refine⟨m',hm,i+1,σ7,H7,I7.jX,T.keep _ _ _ wk λb hb o e=>(I7.pin (b,o) (dq _ (dq _ (fj hb e)))).1,λb hb=>?_,w7⟩
   obtain⟨o,e,d⟩:=T.obj _ _ wk b hb
   exact(I7.pin (b,o) (dq _ (dq _ (fj hb e)))).2.1
  cases f with
  | next=>obtain⟨σ7,H7,I7,n7⟩:=q7;exact again I7 n7
  | cont=>obtain⟨σ7,H7,I7,n7⟩:=q7;exact again I7 n7
  | brk=>obtain⟨σ7,H7,I7,q7⟩:=q7;exact⟨σ7,H7,I7.jX,q7⟩
  | ret v=>obtain⟨x7,σ7,H7,I7,r7,q7⟩:=q7;exact⟨x7,σ7,H7,I7.jX,r7,q7⟩
end
abbrev R2:=V->V->Hp->VK->Prop
def fD(X:Cx)(f:afC->afC->Sem afC)(r:R2):Prop :=
 ∀(pins:List (afw×Obj))(s:afB)(σ:St)(H:Hp)(x y:V)(v u:afC)(Q:VK),Inv X pins σ H s->RelV x v->RelV y u->r x y H Q->
  afP (model X.prog X.w) X.A (f v u) (EP X pins σ Q) X.xe s
def Ws(X:Cx)(f:afC->Sem afC)(r:V->Hp->VK->Prop):Prop :=
 ∀(pins:List (afw×Obj))(s:afB)(σ:St)(H:Hp)(x:V)(v:afC)(Q:VK),Inv X pins σ H s->RelV x v->r x H Q->
  afP (model X.prog X.w) X.A (f v) (EP X pins σ Q) X.xe s
def fN(X:Cx)(f:afC)(r:List V->Hp->VK->Prop):Prop :=
 ∀(pins:List (afw×Obj))(s:afB)(σ:St)(H:Hp)(xs:List V)(us:List afC)(Q:VK),Inv X pins σ H s->Vals xs us->r xs H Q->
  afP (model X.prog X.w) X.A (call f us) (EP X pins σ Q) X.xe s
def Wt(X:Cx)(r:V->Hp->(Bool->Hp->Prop)->Prop):Prop :=
 ∀(pins:List (afw×Obj))(s:afB)(σ:St)(H:Hp)(x:V)(v:afC)(Q:Bool->Hp->Prop),Inv X pins σ H s->RelV x v->r x H Q->
  afP (model X.prog X.w) X.A (truthy v) (TP X pins σ Q) X.xe s
def RT(r:R2)(ta tb:TE):TE:=λσ H Q=>ta σ H λx H1=>tb σ H1 λy H2=>r x y H2 Q
def tUn(r:V->Hp->VK->Prop)(ta:TE):TE:=λσ H Q=>ta σ H λx H1=>r x H1 Q
def rI(C:Int->Int->Prop)(g:Int->Int->V):R2:=λx y H Q=>∃i j,x= .int i/\y= .int j/\C i j/\Q (g i j) H
def K4(g:Int->Int->V):R2:=λx y H Q=>∃i j,x= .int i/\y= .int j/\Q (g i j) H
def rU(g:Int->V):V->Hp->VK->Prop:=λx H Q=>∃i,x= .int i/\Q (g i) H
section
variable {X:Cx} {a b c:Expr} {ta tb tc:TE} {pos:Pos}
theorem MJ(ha:PE X a ta)(hb:PE X b tb){pins:List (afw×Obj)}{s:afB}{σ:St}{H:Hp}{R:V->V->Hp->Prop}(I:Inv X pins σ H s)
  (h:ta σ H λx H1=>tb σ H1 λy H2=>R x y H2){Q:afC->afB->Prop}{f:afC->afC->Sem afC}
  (hf:∀v u s2 x y H2,Inv X pins σ H2 s2->RelV x v->RelV y u->R x y H2->afP (model X.prog X.w) X.A (f v u) Q X.xe s2) :
  afP (model X.prog X.w) X.A (eval a X.env) (λv s₁=>afP (model X.prog X.w) X.A (eval b X.env) (λu s₂=>afP (model X.prog X.w) X.A (f v u) Q X.xe s₂) X.xe s₁) X.xe s:=by
 refine bp (ha pins s σ H _ I h) λv s1 ⟨x,H1,I1,r1,q1⟩=>?_
 refine bp (hb pins s1 σ H1 _ I1 q1) λu s2 ⟨y,H2,I2,r2,q2⟩=>?_
 exact hf v u s2 x y H2 I2 r1 r2 q2
theorem RU{op:Operator}{r:R2}(ho:fD X (afF op) r)(ha:PE X a ta)(hb:PE X b tb):PE X (.BinOp a op b pos) (RT r ta tb):=by
 intro pins s σ H Q I h
 exact wpAny_BinOp (MJ ha hb I h λv u s2 x y H2 I2 rx ry q=>ho pins s2 σ H2 x y v u Q I2 rx ry q)
theorem RV{op:UnaryOp}{r:V->Hp->VK->Prop}(ho:Ws X (unaryOp op) r)(ha:PE X a ta):PE X (.UnaryOp op a pos) (tUn r ta):=by
 intro pins s σ H Q I h
 exact UnaryOp_ (bp (ha pins s σ H _ I h) λv s1 ⟨x,H1,I1,r1,q1⟩=>ho pins s1 σ H1 x v Q I1 r1 q1)
theorem Vd{f:afC->afC->Sem afC}{C:Int->Int->Prop}{g:Int->Int->Int}
  (rule:∀(i j:Int)(t u:Tok)(s:afB)(Q:afC->afB->Prop)(E:afC->afB->Prop),C i j->Q (.int (g i j) s.toks) { s with toks:=s.toks+1 }->afP (model X.prog X.w) X.A (f (.int i t) (.int j u)) Q E s) :
  fD X f (rI C λi j=> .int (g i j)):=by
 intro pins s σ H x y v u Q I rx ry h
 obtain⟨i,j,rfl,rfl,hc,q⟩:=h
 obtain⟨t,rfl⟩:=rx
 obtain⟨t',rfl⟩:=ry
 exact rule i j t t' s _ _ hc ⟨.int (g i j),H,I.tok _,⟨_,rfl⟩,q⟩
theorem RW{f:afC->afC->Sem afC}{g:Int->Int->Int}
  (rule:∀(i j:Int)(t u:Tok)(s:afB)(Q:afC->afB->Prop)(E:afC->afB->Prop),Q (.int (g i j) s.toks) { s with toks:=s.toks+1 }->afP (model X.prog X.w) X.A (f (.int i t) (.int j u)) Q E s) :
  fD X f (K4 λi j=> .int (g i j)):=by
 intro pins s σ H x y v u Q I rx ry h
 obtain⟨i,j,rfl,rfl,q⟩:=h
 obtain⟨t,rfl⟩:=rx
 obtain⟨t',rfl⟩:=ry
 exact rule i j t t' s _ _ ⟨.int (g i j),H,I.tok _,⟨_,rfl⟩,q⟩
theorem IE{f:afC->afC->Sem afC}{g:Int->Int->Bool}
  (rule:∀(i j:Int)(t u:Tok)(s:afB)(Q:afC->afB->Prop)(E:afC->afB->Prop),Q (.bool (g i j)) s->afP (model X.prog X.w) X.A (f (.int i t) (.int j u)) Q E s) :
  fD X f (K4 λi j=> .bl (g i j)):=by
 intro pins s σ H x y v u Q I rx ry h
 obtain⟨i,j,rfl,rfl,q⟩:=h
 obtain⟨t,rfl⟩:=rx
 obtain⟨t',rfl⟩:=ry
 exact rule i j t t' s _ _ ⟨.bl (g i j),H,I,rfl,q⟩
def Wu(i j:Int):Prop:=0<=j/\j<=1000000/\i.natAbs < 2 ^ 64
theorem MK:fD X (afF .Add) (K4 λi j=> .int (i+j)):=RW λ_ _ _ _ _ _ _ q=>add_int q
theorem ML:fD X (afF .Sub) (K4 λi j=> .int (i - j)):=RW λ_ _ _ _ _ _ _ q=>sub_int q
theorem MM:fD X (afF .Pow) (rI Wu λi j=> .int (i ^ j.toNat)):=Vd λ_ _ _ _ _ _ _ hc q=>pow_int_small hc.1 hc.2.1 hc.2.2 q
theorem unI{f:afC->Sem afC}{g:Int->Int}
  (rule:∀(i:Int)(t:Tok)(s:afB)(Q:afC->afB->Prop)(E:afC->afB->Prop),Q (.int (g i) s.toks) { s with toks:=s.toks+1 }->afP (model X.prog X.w) X.A (f (.int i t)) Q E s) :
  Ws X f (rU λi=> .int (g i)):=by
 intro pins s σ H x v Q I rx h
 obtain⟨i,rfl,q⟩:=h
 obtain⟨t,rfl⟩:=rx
 exact rule i t s _ _ ⟨.int (g i),H,I.tok _,⟨_,rfl⟩,q⟩
theorem MN:Ws X (unaryOp .USub) (rU λi=> .int (-i)):=unI λ_ _ _ _ _ q=>neg_int q
end
section
variable {X:Cx} {a b c:Expr} {ta tb tc:TE} {pos:Pos}
theorem uD{pins:List (afw×Obj)}{σ:St}{H:Hp}{s:afB}{Q:VK}{k k':Bool}(I:Inv X pins σ H s)(q:Q (.bl k) H)(e:k=k'):EP X pins σ Q (.bool k') s:=by
 subst e
 exact⟨.bl k,H,I,rfl,q⟩
theorem RX:fD X (afJ .Lt) (K4 λi j=> .bl (decide (i < j))):=IE λ_ _ _ _ _ _ _ q=>lt_int q
theorem RY:fD X (afJ .LtE) (K4 λi j=> .bl (decide (i<=j))):=IE λ_ _ _ _ _ _ _ q=>le_int q
theorem RZ:fD X (afJ .Gt) (K4 λi j=> .bl (decide (j < i))):=IE λ_ _ _ _ _ _ _ q=>gt_int q
theorem R0:fD X (afJ .GtE) (K4 λi j=> .bl (decide (j<=i))):=IE λ_ _ _ _ _ _ _ q=>ge_int q
theorem BW:fD X (afJ .Lt) (λx y H Q=>∃i j,x= .str i/\y= .str j/\Q (.bl (decide (i.cps.toList < j.cps.toList))) H):=by
 intro pins s σ H x y v u Q I rx ry h
 obtain⟨i,j,rfl,rfl,q⟩:=h
 obtain⟨t,rfl⟩:=rx
 obtain⟨t',rfl⟩:=ry
 exact lt_str (uD I q rfl)
theorem BX:fD X (afJ .In) (λx y H Q=>∃i j,x= .str i/\y= .str j/\Q (.bl (!(yh j i 0 j.length 1).isEmpty)) H):=by
 intro pins s σ H x y v u Q I rx ry h
 obtain⟨i,j,rfl,rfl,q⟩:=h
 obtain⟨t,rfl⟩:=rx
 obtain⟨t',rfl⟩:=ry
 exact in_str (uD I q rfl)
theorem MO:fD X (afJ .Is) (λx y H Q=>y= .bO/\Q (.bl (decide (x= .bO))) H):=by
 intro pins s σ H x y v u Q I rx ry h
 obtain⟨rfl,q⟩:=h
 cases ry
 refine is_none_gen (uD I q ?_)
 cases x<;>first
  | (cases rx;rfl)
  | (obtain⟨t,rfl⟩:=rx;rfl)
theorem IF:fD X (afJ .IsNot) (λx y H Q=>y= .bO/\Q (.bl (!decide (x= .bO))) H):=by
 intro pins s σ H x y v u Q I rx ry h
 obtain⟨rfl,q⟩:=h
 cases ry
 refine isnot_none_gen (uD I q ?_)
 cases x<;>first
  | (cases rx;rfl)
  | (obtain⟨t,rfl⟩:=rx;rfl)
theorem IG{op:CmpOp}{r:R2}(ho:fD X (afJ op) r)(ha:PE X a ta)(hb:PE X b tb)(hm:afE op b=false):PE X (.Compare a [op] [b] pos) (RT r ta tb):=by
 intro pins s σ H Q I h
 exact wpAny_Compare1 (MJ ha hb I h λv u s2 x y H2 I2 rx ry q=>ho pins s2 σ H2 x y v u Q I2 rx ry q) hm
def K5(t:TE):TT:=λσ H Q=>t σ H λx H'=>∃k,x= .bl k/\Q k H'
theorem IH{op:CmpOp}{r:R2}(ho:fD X (afJ op) r)(ha:PE X a ta)(hb:PE X b tb)(hm:afE op b=false):PT X (.Compare a [op] [b] pos) (K5 (RT r ta tb)):=by
 intro pins s σ H Q I h
 refine wpAny_isTrue_Compare1 (bp (ha pins s σ H _ I h) λv s1 ⟨x,H1,I1,r1,q1⟩=>bp (hb pins s1 σ H1 _ I1 q1) λu s2 ⟨y,H2,I2,r2,q2⟩=>
  bp (ho pins s2 σ H2 x y v u _ I2 r1 r2 q2) λc s3 ⟨z,H3,I3,r3,k,e,q3⟩=>?_) hm
 subst e
 cases r3
 exact afX ⟨H3,I3,q3⟩
def yi(r r':R2)(ta tb tc:TE):TE:=λσ H Q=>ta σ H λx H1=>tb σ H1 λy H2=>r x y H2 λz H3=>∃k,z= .bl k/\
 (if k=true then tc σ H3 λw' H4=>r' y w' H4 Q else Q (.bl false) H3)
theorem DN{op op':CmpOp}{r r':R2}(ho:fD X (afJ op) r)(ho':fD X (afJ op') r')(ha:PE X a ta)(hb:PE X b tb)(hc:PE X c tc)
  (hm:lastMarks [op,op'] [b,c]=false:=by with_unfolding_all rfl):PE X (.Compare a [op,op'] [b,c] pos) (yi r r' ta tb tc):=by
 intro pins s σ H Q I h
 refine Compare_chain (bp (ha pins s σ H _ I h) λv s1 ⟨x,H1,I1,r1,q1⟩=>chain_link (bp (hb pins s1 σ H1 _ I1 q1) λu s2 ⟨y,H2,I2,r2,q2⟩=>
  bp (ho pins s2 σ H2 x y v u _ I2 r1 r2 q2) λd s3 ⟨z,H3,I3,r3,k,e,q3⟩=>?_)) hm
 subst e
 cases r3
 refine afX ?_
 cases k with
 | false=>exact ite_ff ⟨.bl false,H3,I3,rfl,q3⟩
 | true=>exact ite_tt (chain_last (bp (hc pins s3 σ H3 _ I3 q3) λw' s4 ⟨z',H4,I4,r4,q4⟩=>ho' pins s4 σ H4 y z' u w' Q I4 r2 r4 q4))
theorem DO{op op':CmpOp}{r r':R2}(ho:fD X (afJ op) r)(ho':fD X (afJ op') r')(ha:PE X a ta)(hb:PE X b tb)(hc:PE X c tc)
  (hm:lastMarks [op,op'] [b,c]=false:=by with_unfolding_all rfl):PT X (.Compare a [op,op'] [b,c] pos) (K5 (yi r r' ta tb tc)):=by
 intro pins s σ H Q I h
 refine isTrue_chain (bp (ha pins s σ H _ I h) λv s1 ⟨x,H1,I1,r1,q1⟩=>test_link (bp (hb pins s1 σ H1 _ I1 q1) λu s2 ⟨y,H2,I2,r2,q2⟩=>
  bp (ho pins s2 σ H2 x y v u _ I2 r1 r2 q2) λd s3 ⟨z,H3,I3,r3,k,e,q3⟩=>?_)) hm
 subst e
 cases r3
 refine afX ?_
 cases k with
 | false=>
  obtain⟨k',e',q'⟩:=q3
  cases e'
  exact ite_ff ⟨H3,I3,q'⟩
 | true=>
  refine ite_tt (test_last (bp (hc pins s3 σ H3 _ I3 q3) λw' s4 ⟨z',H4,I4,r4,q4⟩=>bp (ho' pins s4 σ H4 y z' u w' _ I4 r2 r4 q4) λd' s5 ⟨z2,H5,I5,r5,k2,e2,q5⟩=>?_))
  subst e2
  cases r5
  exact afX ⟨H5,I5,q5⟩
def R4(K:PySem.W.Frag)(x:V)(H:Hp)(k:Bool):Prop :=
 match x with
 | .bO=>k=false
 | .bl b=>k=b
 | .int i=>k=(i != 0)
 | .str y=>y.length<=afN/\k=((y.length:Int) != 0)
 | .QZ y=>y.size<=afN/\k=((y.size:Int) != 0)
 | .ref p=>(∃xs,jT K H p xs/\k= !xs.isEmpty)\/(∃xs,eF K H p xs/\k= !xs.isEmpty)\/∃kvs,H p=some (.dK kvs)/\k= !kvs.isEmpty
 | _=>False
theorem yj{κ:Type}{kvs:List (κ×V)}{vs:List (κ×afC)}(r:KV kvs vs):(!vs.isEmpty)= !kvs.isEmpty:=by
 cases r<;>rfl
theorem qz{xs:List V}{its:List afC}(r:Vals xs its):(!its.toArray.isEmpty)= !xs.isEmpty:=by
 cases r<;>simp
theorem l8:(afN:Nat) < 2 ^ 63:=by rw[sizeLine_eq];decide
theorem MP:Wt X (λx H Q=>∃k,R4 X.K x H k/\Q k H):=by
 intro pins s σ H x v Q I rx h
 obtain⟨k,e,q⟩:=h
 have hl:=l8
 have hs:afN=16777216:=sizeLine_eq
 cases x with
 | bO=>
  cases rx
  have e':k=false:=e
  subst e'
  exact truthy_none ⟨H,I,q⟩
 | bl b=>
  cases rx
  have e':k=b:=e
  subst e'
  exact afX ⟨H,I,q⟩
 | int i=>
  obtain⟨t,rfl⟩:=rx
  have e':k=(i != 0):=e
  subst e'
  exact PySem.P.truthy_int ⟨H,I,q⟩
 | str y=>
  obtain⟨t,rfl⟩:=rx
  obtain⟨hy,e'⟩:y.length<=afN/\k=((y.length:Int) != 0):=e
  subst e'
  exact PySem.P.truthy_str (by omega) ⟨H,I.tok _,q⟩
 | QZ y=>
  obtain⟨t,rfl⟩:=rx
  obtain⟨hy,e'⟩:y.size<=afN/\k=((y.size:Int) != 0):=e
  subst e'
  exact PySem.W.truthy_bytes (by omega) ⟨H,I.tok _,q⟩
 | ref p=>
  cases rx
  have e':(∃xs,jT X.K H p xs/\k= !xs.isEmpty)\/(∃xs,eF X.K H p xs/\k= !xs.isEmpty)\/∃kvs,H p=some (.dK kvs)/\k= !kvs.isEmpty:=e
  rcases e' with ⟨xs,hx,e'⟩ | ⟨xs,hx,e'⟩ | ⟨kvs,hx,e'⟩
  ·subst e'
   obtain⟨its,r,pl,hz⟩:=I.list hx
   have hlen:=r.length
   exact wpAny_truthy_list pl.isList (by simp only[aT];omega) ⟨H,I.tok _,by rw[qz r];exact q⟩
  ·subst e'
   obtain⟨its,r,pl,hz⟩:=I.tuple hx
   have hlen:=r.length
   exact truthy_tuple pl (by simp only[aT];omega) ⟨H,I.tok _,by rw[qz r];exact q⟩
  ·subst e'
   obtain⟨hz,hS,vs,r,m⟩:kvs.length<=afN/\(p == sysModules)=false/\∃vs,KV kvs vs/\s.heap.DictOf (bo X.prog X.w) p vs:=I.hok p _ hx
   have hlen:kvs.length=vs.length:=Paired.length r
   exact wpAny_truthy_dict hS m (by omega) ⟨H,I.tok _,by rw[yj r];exact q⟩
 | _=>exact(show False from e).elim
theorem DP(ha:PE X a ta)(he:∀whole,isTrue a X.env whole=(do let v <-whole;standAt a.pos;holding [v] (truthy v))) :
  PT X a (λσ H Q=>ta σ H λx H'=>∃k,R4 X.K x H' k/\Q k H'):=by
 intro pins s σ H Q I h
 exact isTrue_plain (bp (ha pins s σ H _ I h) λv s1 ⟨x,H1,I1,r1,q1⟩=>MP pins s1 σ H1 x v Q I1 r1 q1) (he _)
theorem yk:fD X (afF .Add) (λx y H Q=>∃i j,x= .str i/\y= .str j/\i.length+j.length<=afN/\Q (.str (i++j)) H):=by
 intro pins s σ H x y v u Q I rx ry h
 obtain⟨i,j,rfl,rfl,hz,q⟩:=h
 obtain⟨t,rfl⟩:=rx
 obtain⟨t',rfl⟩:=ry
 exact add_str (λt' tk=>⟨.str (i++j),H,I.tok _,⟨_,rfl⟩,q⟩) hz
theorem vals1{x:V}{us:List afC}(r:Vals [x] us):∃u,us=[u]/\RelV x u:=by
 cases r with
 | cons r1 r2=>cases r2;exact⟨_,rfl,r1⟩
theorem vals2{x y:V}{us:List afC}(r:Vals [x,y] us):∃u w',us=[u,w']/\RelV x u/\RelV y w':=by
 cases r with
 | cons r1 r2=>
  cases r2 with
  | cons r3 r4=>cases r4;exact⟨_,_,rfl,r1,r3⟩
theorem BY:fN X (.type "int") (λxs H Q=>(∃i,xs=[.int i]/\Q (.int i) H)\/∃k,xs=[.bl k]/\Q (.int (if k then 1 else 0)) H):=by
 intro pins s σ H xs us Q I r h
 rcases h with ⟨i,rfl,q⟩ | ⟨k,rfl,q⟩
 ·obtain⟨u,rfl,t,rfl⟩:=vals1 r
  exact call_int_int ⟨.int i,H,I,⟨_,rfl⟩,q⟩
 ·obtain⟨u,rfl,r1⟩:=vals1 r
  cases r1
  exact call_int_bool ⟨.int (if k then 1 else 0),H,I.tok _,⟨_,rfl⟩,q⟩
end
section
variable {prog:afA} {w:afD} {A:afx} {E:afC->afB->Prop} {s:afB} {K:PySem.W.Frag} {x dx C f:afw} {mA:Str->Option afC} {name:Str} {v:afC}
end
theorem n5.some_of{v:V}{o:Option afC}(r:n5 (some v) o):∃u,o=some u/\RelV v u:=by
 cases o with
 | none=>exact(show False from r).elim
 | some u=>exact⟨u,rfl,r⟩
section
variable {P:afA} {w:afD} {H H':Hp} {h h':Heap} {a C dx:afw} {fs fs':List (Str×V)}
end
section
variable {X:Cx} {pins:List (afw×Obj)} {σ:St} {H:Hp} {s:afB} {a C dx:afw} {fs:List (Str×V)} {f:Str} {v:V} {A:afx} {E:afC->afB->Prop}
end
section
variable {X:Cx} {o e value:Expr} {f:Str} {pos pos' tpos:Pos} {ta tv:TE}
end
section
variable {X:Cx} {pins:List (afw×Obj)} {σ:St} {H:Hp} {s:afB} {A:afx} {E:afC->afB->Prop} {Q:afC->afB->Prop} {c:afC} {b:Bool}
end
structure iE(k:Nat)(A:afx):Prop where
 hd:A.handled=none
 dp:A.depth+3 * k+5 < recursionLimit
 un:A.units+16 * k+200 < cLine
theorem iE.mono{j k:Nat}{A:afx}(r:iE k A)(h:j<=k):iE j A:=⟨r.hd,by have:=r.dp;omega,by have:=r.un;omega⟩
theorem iE.deeper{k:Nat}{A:afx}(r:iE (k+1) A)(env:Env):iE k (A.deeper env) :=
 ⟨r.hd,by have:=r.dp;show A.depth+1+3 * k+5 < _;omega,by have:=r.un;show A.units+3+16 * k+200 < _;omega⟩
theorem iE.depth{k:Nat}{A:afx}(r:iE k A):A.depth < recursionLimit:=by have:=r.dp;omega
def Ww:TA:=λ_ H Q=>Q [] H
def R6(ta:TE)(tr:TA):TA:=λσ H Q=>ta σ H λx H1=>tr σ H1 λxs H2=>Q (x::xs) H2
section
variable {X:Cx} {e:Expr} {es:List Expr} {te:TE} {t:TA} {pos:Pos}
theorem MQ:PA X [] Ww:=λ_ _ _ _ H Q I h=>uE ⟨[],H,I,.nil,h⟩
theorem II(ha:PE X e te)(hr:PA X es t)(hs:afO (e::es) X.env=(false,eval e X.env)::afO es X.env:=by rfl):PA X (e::es) (R6 te t):=by
 intro pos pins s σ H Q I h
 rw[hs]
 show afP _ _ (spliced ((false,eval e X.env)::backTo pos (afO es X.env))) _ _ s
 refine l_ (bp (ha pins s σ H _ I h) λu s1 ⟨x,H1,I1,r1,q1⟩=>?_)
 exact bp (hr pos pins s1 σ H1 _ I1 q1) λus s2 ⟨xs,H2,I2,r2,q2⟩=>⟨x::xs,H2,I2,.cons r1 r2,q2⟩
def Wx(t:TA):TE:=λσ H Q=>t σ H λxs H1=>xs.length<=afN/\∀p,H1 p=none->Q (.ref p) (upd H1 p (.tup xs))
def Wy(t:TA):TE:=λσ H Q=>t σ H λxs H1=>xs.length<=afN/\∀p,H1 p=none->Q (.ref p) (upd H1 p (.lst xs))
theorem MR{x1}(h:PA X es t):PE X (.Tuple es x1 pos) (Wx t):=by
 intro pins s σ H Q I hq
 refine wpAny_Tuple_spliced (bp (h pos pins s σ H _ I hq) λus s1 ⟨xs,H1,I1,r,z,q⟩=>⟨by rw[<-r.length];exact z,?_⟩)
 have hf:H1 s1.heap.objs.size=none:=I1.hok.fresh (au _)
 refine⟨.ref s1.heap.objs.size,upd H1 s1.heap.objs.size (.tup xs),I1.laid (t':=s1.toks) (λb u e=>aF _ e) (au _) ?_,rfl,q _ hf⟩
 exact⟨z,us,r,⟨_,br _ rfl,rfl,_,rfl⟩,ye.new _ _⟩
theorem MS(h:PA X es t):PE X (.List es pos) (Wy t):=by
 intro pins s σ H Q I hq
 refine wpAny_List_spliced (bp (h pos pins s σ H _ I hq) λus s1 ⟨xs,H1,I1,r,z,q⟩=>⟨by rw[<-r.length];exact z,?_⟩)
 have hf:H1 s1.heap.objs.size=none:=I1.hok.fresh (au _)
 refine⟨.ref s1.heap.objs.size,upd H1 s1.heap.objs.size (.lst xs),I1.laid (t':=s1.toks) (λb u e=>aF _ e) (au _) ?_,rfl,q _ hf⟩
 exact⟨z,us,0,r,br _ rfl⟩
end
abbrev Sp:=List V->Hp->VK->XK->Prop
abbrev Du:=List Env->Hp->afB->XK->afC->afB->Prop
structure uF(P:afA)(w:afD)(K:PySem.W.Frag)(mg:Str->Option afC)(base:Heap)(A:afx)(outer:List Env)(s:afB)(H:Hp):Prop where
 frames:A.frames=some outer
 mod:Mod K mg base
 bs:∀b o,base.get? b=some o->s.heap.get? b=some o/\H b=none
 BQ:base.objs.size<=s.heap.objs.size
 jO:s.heap.FunFrames base outer
 DD:∀b∈frs outer,H b=none
 hok:jI P w H s.heap
 bare:AllBare s.gens
def CE(outer:List Env)(P:afA)(w:afD)(H:Hp)(s:afB)(Q:VK)(u:afC)(s':afB):Prop :=
 ∃v H',s'.os=s.os/\AllBare s'.gens/\Un (frs outer) [] H H' s.heap s'.heap/\jI P w H' s'.heap/\RelV v u/\Q v H'
def CR(CX:Du)(outer:List Env)(P:afA)(w:afD)(H:Hp)(s:afB)(Q:VK)(E:XK)(r:Result)(s':afB):Prop :=
 match r with
 | .ok (.ret u)=>CE outer P w H s Q u s'
 | .ok _=>False
 | .error e=>CX outer H s E e s'
structure FnOk(P:afA)(w:afD)(K:PySem.W.Frag)(mg:Str->Option afC)(base:Heap)(CX:Du)(k:Nat)(f:afw)(fd:afy)(ps:List Str)(sp:Sp):Prop where
 len:∀vs H Q E,sp vs H Q E->vs.length=ps.length
 run:∀(A:afx)(outer:List Env)(s:afB)(H:Hp)(args:Args)(us:List afC)(vs:List V)(Q:VK)(E:XK),iE k A->uF P w K mg base A outer s H->BindsTo s fd args (ps.zip us)->Vals vs us->sp vs H Q E->
  afH (model P w) A (.call (.ref f) args) (CR CX outer P w H s Q E) s
theorem FnOk.mono{P:afA}{w:afD}{K:PySem.W.Frag}{mg:Str->Option afC}{base:Heap}{CX:Du}{j k:Nat}{f:afw}{fd:afy}{ps:List Str}{sp:Sp}(F:FnOk P w K mg base CX j f fd ps sp)(h:j<=k) :
  FnOk P w K mg base CX k f fd ps sp:=⟨F.len,λA outer s H args us vs Q E hr=>F.run A outer s H args us vs Q E (hr.mono h)⟩
section
variable {X:Cx} {pins:List (afw×Obj)} {σ:St} {H:Hp} {s s':afB}
theorem Inv.MT(I:Inv X pins σ H s):uF X.prog X.w X.K X.mg X.base X.A X.stack s H :=
 ⟨I.ok.frames,I.ok.mod,I.bs,bu I.ok.BQ I.sz,I.stack,I.kU,I.hok,I.bare⟩
theorem Inv.after{Q:VK}{u:afC}(I:Inv X pins σ H s)(h:CE X.stack X.prog X.w H s Q u s'):EP X pins σ Q u s':=by
 obtain⟨v,H',os,bare,un,hok,r,q⟩:=h
 obtain⟨hh,g,d,t,os'⟩:=s'
 obtain rfl:os'=s.os:=os
 exact⟨v,H',I.call (h':=hh) (g':=g) (d':=d) (t':=t) (ch:=[]) un hok bare (λb z=>absurd z (by simp)),r,q⟩
end
def Binds(K:PySem.W.Frag)(fd:afy)(ps:List Str)(ds:List afC):Prop :=
 ∀(s:afB)(us:List afC),K.In s.heap->(us++ds).length=ps.length->BindsTo s fd ⟨us,[]⟩ (ps.zip (us++ds))
theorem Binds.all{K:PySem.W.Frag}{fd:afy}{ps:List Str}(h:∀us:List afC,us.length=ps.length->bindArgs fd ⟨us,[]⟩=pure (ps.zip us)):Binds K fd ps []:=λs us _ hl=>by
 rw[fk] at hl ⊢
 exact .of_eq (h us hl)
section
variable {X:Cx} {CX:Du} {k:Nat} {f C:afw} {fd:afy} {ps:List Str} {sp:Sp} {dvs:List V} {ds:List afC} {E:XK} {x m:Str} {p pos apos:Pos} {e o:Expr} {es:List Expr} {ta:TE} {t:TA}
end
section
variable {X:Cx} {CX:Du} {k:Nat} {f C:afw} {fd:afy} {ps ks:List Str} {sp:Sp} {E:XK} {x m:Str} {p pos apos kpos:Pos} {e o:Expr} {es:List Expr} {kws:List Keyword} {te ta:TE} {t tk:TA} {nm:Option Str}
variable {g:List afC->List afC->List afC} {gV:List V->List V->List V}
end
structure FnScope(N P:List Str)(sc:Scope):Prop where
 kind:sc.kind= .function
 co:sc.isCoroutine=false
 gen:sc.isGenerator=false
 nd:N.Nodup
 pre:N.take P.length=P
 par:∀x∈P,sc.names.lookup x=some .local\/sc.names.lookup x=some .cell
 MU:∀y∈sc.names,y.2≠.free
theorem tm{kindOf:Str->Option afz}{x:Str}:∀{binds:List (Str×afC)}{m:Str->Option afC},(∀v,(x,v)∉binds)->bindL kindOf binds m x=m x
 | [],_,_=>rfl
 | (n,v)::r,m,h=>by
  unfold bindL
  rw[tm λw hw=>h w (aO _ hw)]
  split
  ·have:x≠n:=by rintro rfl;exact h v bw
   simp[this]
  ·rfl
theorem tq{kindOf:Str->Option afz}{x:Str}:∀{binds:List (Str×afC)}{m:Str->Option afC},(∀v,(x,v)∉binds)->bindC kindOf binds m x=m x
 | [],_,_=>rfl
 | (n,v)::r,m,h=>by
  unfold bindC
  rw[tq λw hw=>h w (aO _ hw)]
  split
  ·rfl
  ·have:x≠n:=by rintro rfl;exact h v bw
   simp[this]
theorem tu{kindOf:Str->Option afz}{x:Str}{v:afC}:∀{P:List Str}{vs:List afC}{i:Nat}{m:Str->Option afC},P.Nodup->P[i]? =some x->vs[i]? =some v->kindOf x=some .local->
  bindL kindOf (P.zip vs) m x=some v
 | [],_,_,_,_,h,_,_=>by simp at h
 | _::_,[],_,_,_,_,h,_=>by simp at h
 | p::P,w::vs,0,m,nd,h1,h2,hk=>by
  simp at h1 h2;subst h1;subst h2
  show bindL kindOf ((p,w)::P.zip vs) m p=_
  unfold bindL
  rw[tm λv hv=>(List.nodup_cons.mp nd).1 (uG hv).1,if_pos hk]
  simp
 | p::P,w::vs,i+1,m,nd,h1,h2,hk=>by
  show bindL kindOf ((p,w)::P.zip vs) m x=_
  unfold bindL
  exact tu (i:=i) (List.nodup_cons.mp nd).2 (by simpa using h1) (by simpa using h2) hk
theorem tw{kindOf:Str->Option afz}{x:Str}{v:afC}:∀{P:List Str}{vs:List afC}{i:Nat}{m:Str->Option afC},P.Nodup->P[i]? =some x->vs[i]? =some v->kindOf x≠some .local->
  bindC kindOf (P.zip vs) m x=some v
 | [],_,_,_,_,h,_,_=>by simp at h
 | _::_,[],_,_,_,_,h,_=>by simp at h
 | p::P,w::vs,0,m,nd,h1,h2,hk=>by
  simp at h1 h2;subst h1;subst h2
  show bindC kindOf ((p,w)::P.zip vs) m p=_
  unfold bindC
  rw[tq λv hv=>(List.nodup_cons.mp nd).1 (uG hv).1,if_neg hk]
  simp
 | p::P,w::vs,i+1,m,nd,h1,h2,hk=>by
  show bindC kindOf ((p,w)::P.zip vs) m x=_
  unfold bindC
  exact tw (i:=i) (List.nodup_cons.mp nd).2 (by simpa using h1) (by simpa using h2) hk
def start(N:List Str)(vs:List V):St:=vs.map some++aH (N.length - vs.length) none
def qA(CX:Du)(P:afA)(w:afD)(K:PySem.W.Frag)(mg:Str->Option afC)(base:Heap)(N:List Str)(qual:Str)(scope:Scope)(f:afw)(cd:afC)(A:afx)(outer:List Env)(s:afB)(H:Hp)(E:XK):Cx where
 prog:=P
 w:=w
 K:=K
 mg:=mg
 base:=base
 A:=A.deeper (envOfC qual scope s.heap.objs.size f cd)
 N:=N
 s₀:=s
 H₀:=H
 env:=envOfC qual scope s.heap.objs.size f cd
 outer:=outer
 stack:=envOfC qual scope s.heap.objs.size f cd::outer
 ex:=[]
 calm:=true
 fn:=λ_=>true
 pn:=[]
 xe:=λe s'=>afP (model P w) (A.deeper (envOfC qual scope s.heap.objs.size f cd)) (leaving (envOfC qual scope s.heap.objs.size f cd) e) (λ_ s''=>CX outer H s E e s'') (λe' s''=>CX outer H s E e' s'') s'
theorem wo{sc:Scope}{n:Nat}{x:Str}(h:sc.names.lookup x=some .cell):∃c,(cellsFrom n sc.names []).lookup x=some c:=by
 have q:=PySem.W.cellsFrom_some sc.names n [] (.inl h)
 exact Option.isSome_iff_exists.mp q
theorem tD{CX:Du}{P:afA}{w:afD}{K:PySem.W.Frag}{mg:Str->Option afC}{base:Heap}{N ps:List Str}{qual:Str}{scope:Scope}{f:afw}{cd:afC}{A:afx}{outer:List Env}{s s1:afB}{H:Hp}{E:XK}{us:List afC}{vs:List V}
  (S:FnScope N ps scope)(hd:A.handled=none)(e0:uF P w K mg base A outer s H)(hl:vs.length=ps.length)(r:Vals vs us)
  (x:InCallC s s.heap.objs.size (bindL (envOfC qual scope s.heap.objs.size f cd).kindOf (ps.zip us) λ_=>none) (cellsFrom (s.heap.objs.size+1) scope.names []) (bindC (envOfC qual scope s.heap.objs.size f cd).kindOf (ps.zip us) λ_=>none) s1) :
  Inv (qA CX P w K mg base N qual scope f cd A outer s H E) [] (start N vs) H s1:=by
 have hpl:ps.length<=N.length:=by have:=congrArg jf S.pre;rw[kZ] at this;omega
 obtain⟨h1,tk,rfl,hk⟩:=x.done
 have MV:∀b:afw,b∉(qA CX P w K mg base N qual scope f cd A outer s H E).ex:=λb z=>absurd (show b∈([]:List afw) from z) (by simp)
 refine⟨⟨e0.mod,S.kind,rfl,rfl,au _,λy z c h1 h2=>?_,λy hy=>?_,λy c _ h=>?_,λ_=>hd,R7 e0.frames,.inr ⟨rfl,rfl⟩,λb z=>absurd z (MV b),e0.bs,e0.BQ,λb _ _=>MV b,λb z=>absurd z (MV b),e0.jO,e0.DD⟩,
  rfl,e0.bare,Un.kept hk,⟨_,x.toInCall.ns,λi y v h1 h2 h3=>?_⟩,λy c h=>⟨_,x.cell y c h⟩,e0.hok.fresh (au _),λy c h=>?_,λp hp=>absurd (show p∈([]:List (afw×Obj)) from hp) (by simp),e0.hok.kept hk,?_⟩
 ·exact name_of_addr x.apart (PySem.mem_of_lookup h1) (PySem.mem_of_lookup h2)
 ·have hy:scope.names.lookup y=some .cell\/scope.names.lookup y=some .free:=hy
  rcases hy with hy | hy
  ·exact wo hy
  ·exact absurd rfl (S.MU _ (PySem.mem_of_lookup hy))
 ·exact mS (x.above y c (PySem.mem_of_lookup h))
 ·have hi:i < vs.length:=by
   unfold start at h2
   by_cases hi:i < vs.length
   ·exact hi
   ·rw[fW (by simpa using hi)] at h2
    rw[uH] at h2
    split at h2<;>cases h2
  have ha:vs[i]? =some v:=by
   unfold start at h2
   rw[eG (by simpa using hi),iF] at h2
   cases e:vs[i]? with
   | none=>rw[e] at h2;cases h2
   | some a=>rw[e] at h2;cases h2;rfl
  obtain⟨u,hu,rv⟩:=r.get ha
  have hp:ps[i]? =some y:=by
   rw[<-S.pre,List.getElem?_take_of_lt (by omega)];exact h1
  have ZY:ps.Nodup:=by rw[<-S.pre];exact S.nd.sublist (Am _ _)
  refine⟨u,rv,?_⟩
  rcases S.par y (An hp) with k | k
  ·exact .inl ⟨k,tu ZY hp hu k⟩
  ·obtain⟨c,e⟩:=wo (n:=s.heap.objs.size+1) k
   refine .inr ⟨.inl k,c,e,?_⟩
   have q:=x.cell y c e
   rw[tw ZY hp hu (by show scope.names.lookup y≠_;rw[k];decide)] at q
   exact q
 ·exact e0.hok.fresh (mS (x.above y c (PySem.mem_of_lookup h)))
 ·unfold start
  show _=N.length
  rw[bZ,hU,jg]
  omega
theorem R9{CX:Du}{P:afA}{w:afD}{K:PySem.W.Frag}{mg:Str->Option afC}{base:Heap}{k:Nat}{f:afw}{name qual:Str}{params:Arguments}{body:List Stmt}{scope:Scope}{dV kV doc pm cdv ct oc:afC}{an od:Option afw}
  {osl:Array (Option afC)}{N ps:List Str}{sp:Sp}(lk:K.lookup f=some ⟨oc,od,.func (PySem.W.fnOf name qual params body scope dV kV doc pm an cdv ct),osl⟩)(hcd:PySem.W.codeIn K cdv qual=true)(S:FnScope N ps scope)
  (len:∀vs H Q E,sp vs H Q E->vs.length=ps.length)
  (hbody:∀(A:afx)(outer:List Env)(s:afB)(H:Hp)(vs:List V)(Q:VK)(E:XK),iE k (A.deeper (envOfC qual scope s.heap.objs.size f cdv))->sp vs H Q E->
   ∃t,DE (qA CX P w K mg base N qual scope f cdv A outer s H E) body t/\t { nx:=λ_ H'=>Q .bO H',rt:=Q } (start N vs) H) :
  FnOk P w K mg base CX (k+1) f (PySem.W.fnOf name qual params body scope dV kV doc pm an cdv ct) ps sp:=by
 refine⟨len,λA outer s H args us vs Q E hr e0 hb r DQ=>?_⟩
 have hl:=len _ _ _ _ DQ
 have KX:K.In s.heap:=e0.mod.Iq.keeps λb o e=>(e0.bs b o e).1
 have lim:s.heap.NoLimit:=e0.mod.nolimit.keeps λb o e=>(e0.bs b o e).1
 have hkind:∀y∈ps.zip us,scope.names.lookup y.1=some .local\/(scope.names.lookup y.1=some .cell/\((cellsFrom (s.heap.objs.size+1) scope.names []).lookup y.1).isSome=true):=λ⟨n,v⟩ hy=>by
  rcases S.par n (uG hy).1 with q | q
  ·exact .inl q
  ·exact .inr ⟨q,PySem.W.cellsFrom_some _ _ _ (.inl q)⟩
 refine codeAny_call_function hr.depth (KX _ _ lk) rfl S.co S.gen rfl (PySem.W.codeRec_of KX hcd) (hb _ _ _ _ ?_)
 refine wpAny_newFunctionEnv_cells S.kind hkind λenv he s1 x=>?_
 subst he
 refine⟨lim.keeps x.toInCall.keep,codeAny_func ?_⟩
 obtain⟨t,ht,hq⟩:=hbody A outer s H vs Q E (hr.deeper _) DQ
 have I:Inv (qA CX P w K mg base N qual scope f cdv A outer s H E) [] (start N vs) H s1:=tD S hr.hd e0 hl r x
 refine afT (ht [] s1 (start N vs) H _ I hq) (λfl s' hs=>?_) λe s' hs=>hs
 have fin:∀{σ':St}{H':Hp}{v:V}{u:afC},Inv (qA CX P w K mg base N qual scope f cdv A outer s H E) [] σ' H' s'->RelV v u->Q v H'->CE outer P w H s Q u s' :=
  λ{σ' H' v u} J rv q=>⟨v,H',J.os,J.bare,J.base,J.hok,rv,q⟩
 cases fl with
 | ret u=>
  obtain⟨v,σ',H',J,rv,q⟩:=hs
  exact fin J rv q
 | next=>
  obtain⟨σ',H',J,q⟩:=hs
  exact fin (v:=V.bO) (u:=bY) J rfl q
 | brk=>
  obtain⟨_,_,_,q⟩:=hs
  exact ae q
 | cont=>
  obtain⟨_,_,_,q⟩:=hs
  exact ae q
section
variable {X:Cx} {x:Str} {p pos:Pos} {e:Expr} {es:List Expr} {t:TA} {id T:String} {r:List V->Hp->VK->Prop}
def ZZ(r:List V->Hp->VK->Prop)(t:TA):TE:=λσ H Q=>t σ H λvs H1=>r vs H1 Q
theorem DR(hc:fN X (.builtin id) r)(hg:Gl X x)(hm:X.mg x=none)(hv:afG x=some (.builtin id))(ha:PA X (e::es) t)(hn:x≠"__name__":=by decide)(hdb:(x == ("__debug__":Str))=false:=by decide)
  (he:afO (e::es) X.env=(false,eval e X.env)::afO es X.env:=by rfl)(hpl:(backTo pos (afO es X.env)).any (·.1)=false:=by rfl):PE X (.Call (.Name x p) (e::es) [] pos) (ZZ r t):=by
 intro pins s σ H Q I h
 refine wpAny_Call_Name_kw (jc I hg hm hv ?_ hn hdb)
 exact PyProof.Rows.callWith_builtin1 (bp (ha pos pins s σ H _ I h) λus s1 ⟨vs,H1,I1,r1,q1⟩=>hc pins s1 σ H1 vs us Q I1 r1 q1) he hpl
theorem BZ(hc:fN X (.type T) r)(hg:Gl X x)(hm:X.mg x=none)(hv:afG x=some (.type T))(ha:PA X (e::es) t)(hn:x≠"__name__":=by decide)(hdb:(x == ("__debug__":Str))=false:=by decide)
  (he:afO (e::es) X.env=(false,eval e X.env)::afO es X.env:=by rfl)(hpl:(backTo pos (afO es X.env)).any (·.1)=false:=by rfl):PE X (.Call (.Name x p) (e::es) [] pos) (ZZ r t):=by
 intro pins s σ H Q I h
 refine wpAny_Call_Name_kw (jc I hg hm hv ?_ hn hdb)
 exact kY (bp (ha pos pins s σ H _ I h) λus s1 ⟨vs,H1,I1,r1,q1⟩=>hc pins s1 σ H1 vs us Q I1 r1 q1) he hpl
end
end L2
namespace HT
open PySem PyProof.Rows
section
open PySem.SeqAt
open PySem.AutoSeq1 (wpAny_loadPart')
open PySem.MeetsSeq PySem.MeetsSeq2 PySem.MeetsSeq3
end
section
variable {prog:afA} {w:afD} {A:afx} {E:afC->afB->Prop} {s:afB}
theorem IJ{t b:afw}{vs ws:List afC}{Q:afC->afB->Prop}(ht:IsTup s.heap t vs.toArray)(hb:IsTup s.heap b ws.toArray)(hv:vs≠[])
  (h1:ws=[]->Q (.ref t) s)(h2:ws≠[]->Q (.ref s.heap.objs.size) { s with heap:=s.heap.push { cls:=.type "tuple",data:=.seq (vs++ws).toArray } })
  (hsz:vs.length+ws.length<=afN):afP (model prog w) A (afF .Add (.ref t) (.ref b)) Q E s:=by
 obtain⟨⟨cls,dd,data,sl⟩,ho,hc,n,hd⟩:=id ht
 obtain⟨⟨Wz,dd2,data2,sl2⟩,ho2,hc2,n2,hd2⟩:=id hb
 simp only at hc hd hc2 hd2
 subst hc hd hc2 hd2
 have e:vs.toArray++ws.toArray=(vs++ws).toArray:=by simp
 by_cases hw:ws=[]
 ·exact concat_meets ⟨_,ho,rfl⟩ ⟨_,ho2,rfl⟩ noFill_tuple_add seq_tuple_add PySem.F.slot_tuple_add PySem.F.entry_tuple_add (PySem.F.args_tuple_add_2 _ _)
   (tuple_addW1 t b vs.toArray ws.toArray n n2 dd dd2 sl sl2 (by simpa using hv) (by simp[hw])) ⟨ho,ho2,h1 hw⟩
 ·refine concat_meets ⟨_,ho,rfl⟩ ⟨_,ho2,rfl⟩ noFill_tuple_add seq_tuple_add PySem.F.slot_tuple_add PySem.F.entry_tuple_add (PySem.F.args_tuple_add_2 _ _)
   (tuple_addW2 t b vs.toArray ws.toArray n n2 dd dd2 sl sl2 (by simpa using hv) (by simpa using hw) (by rw[aT,aT];exact hsz)) ⟨ho,ho2,?_⟩
  rw[e]
  exact h2 hw
def dF(n d:Nat):Option Int->Nat
 | none=>d
 | some v=>if v < 0 then(v+(n:Int)).toNat else min v.toNat n
theorem MW(n d:Nat)(hd:d<=n)(o:Option Int):dF n d o<=n:=by
 cases o with
 | none=>exact hd
 | some v=>
  show(if v < 0 then(v+(n:Int)).toNat else min v.toNat n)<=n
  by_cases hv:v < 0
  ·rw[if_pos hv];omega
  ·rw[if_neg hv];exact Nat.min_le_right _ _
theorem Ao(v:Int)(n d:Nat):(if v < 0 then max (v+(n:Int)) 0 else min v (n:Int))=((dF n d (some v):Nat):Int):=by
 show(if v < 0 then max (v+(n:Int)) 0 else min v (n:Int))=(((if v < 0 then(v+(n:Int)).toNat else min v.toNat n):Nat):Int)
 by_cases hv:v < 0
 ·simp only[if_pos hv];omega
 ·simp only[if_neg hv];omega
theorem ym(lo hi:Option Int)(n:Nat):DS lo hi 1 (n:Int)=(((dF n 0 lo:Nat):Int),((dF n n hi:Nat):Int)):=by
 have h1:¬((1:Int) < 0):=by omega
 unfold DS
 simp only[h1,if_false]
 refine Prod.ext ?_ ?_
 ·cases lo with
  | none=>rfl
  | some v=>exact Ao v n 0
 ·cases hi with
  | none=>rfl
  | some v=>exact Ao v n n
theorem yo(i j:Nat):yp (i:Int) (j:Int) 1=j - i:=by
 unfold yp
 have h1:(1:Int) > 0:=by omega
 simp only[h1,if_true,Int.ediv_one]
 split<;>omega
theorem qB{v:afC}{o:Option Int}{Q:Option Int->afB->Prop}(p:IsPart v o)(h:Q o s):afP (model prog w) A (Builtin.Slice.slicePartIndex v) Q E s:=by
 cases p with
 | none=>exact slicePart_none h
 | int i t=>exact slicePart_int h
theorem iT{sl:afw}{vl vu:afC}{lo hi:Option Int}{n:Nat}{Q:Int×Int×Nat->afB->Prop}(hs:s.heap.IsSliceOf sl vl vu .none)(pl:IsPart vl lo)(pu:IsPart vu hi)
  (h:Q (((dF n 0 lo:Nat):Int),1,dF n n hi - dF n 0 lo) s):afP (model prog w) A (MX (.ref sl) (pure (n:Int))) Q E s:=by
 obtain⟨os,hos,hcs,hds⟩:=id hs
 unfold MX Builtin.Slice.sliceFields
 refine afQ (afQ (wpAny_field hos hds (x:=vl) rfl (afQ (wpAny_field hos hds (x:=vu) rfl (afQ (wpAny_field hos hds (x:=.none) rfl (afW ?_)))))))
 refine afQ (slicePart_none ?_)
 show afP _ _ (if((1:Int) == 0)=true then _ else _) _ _ s
 rw[if_neg (by decide)]
 refine afQ (qB pl (afQ (qB pu (afQ (afW ?_)))))
 show afP _ _ (match DS lo hi 1 (n:Int) with | (lo,hi)=>pure (lo,(1:Int),yp lo hi 1)) _ _ s
 rw[ym lo hi n]
 show afP _ _ (pure (((dF n 0 lo:Nat):Int),(1:Int),yp ((dF n 0 lo:Nat):Int) ((dF n n hi:Nat):Int) 1)) _ _ s
 rw[yo]
 exact afW h
theorem DT(xs:Array afC)(i k:Nat):((gn k).filterMap λ(m:Nat)=>xs[((i:Int)+(m:Int) * 1).toNat]?).toArray=((xs.toList.drop i).take k).toArray:=by
 have e:(λ(m:Nat)=>xs[((i:Int)+(m:Int) * 1).toNat]?)=λm=>xs[i+m]?:=by
  funext m
  have:((i:Int)+(m:Int) * 1).toNat=i+m:=by omega
  rw[this]
 rw[e]
 have:=pick_run xs i k
 rw[List.filterMap_map] at this
 have e2:((λx=>xs[x]?) ∘ λx=>i+x)=λm=>xs[i+m]?:=rfl
 rw[e2] at this
 rw[this]
theorem mX{t sl:afw}{items:Array afC}{vl vu:afC}{lo hi:Option Int}{Q:afC->afB->Prop}(ht:IsTup s.heap t items)(hs:s.heap.IsSliceOf sl vl vu .none)(pl:IsPart vl lo)(pu:IsPart vu hi)
  (hw:¬(dF items.size 0 lo=0/\dF items.size items.size hi=items.size))
  (h:Q (.ref s.heap.objs.size) { s with heap:=s.heap.push { cls:=.type "tuple",data:=.seq ((items.toList.drop (dF items.size 0 lo)).take (dF items.size items.size hi - dF items.size 0 lo)).toArray } })
  (hsz:items.size<=afN):afP (model prog w) A (getItem (.ref t) (.ref sl)) Q E s:=by
 have Ap:sizeOk (.seq ((items.toList.drop (dF items.size 0 lo)).take (dF items.size items.size hi - dF items.size 0 lo)).toArray):=by
  show((items.toList.drop (dF items.size 0 lo)).take (dF items.size items.size hi - dF items.size 0 lo)).toArray.size<=afN
  rw[aT,kZ,p5,DH]
  omega
 have hj:dF items.size items.size hi<=items.size:=MW _ _ (au _) hi
 obtain⟨os,hos,hcs,hds⟩:=id hs
 have hTs:s.TypeIs (.ref sl) "slice":=⟨os,hos,hcs⟩
 unfold getItem
 try with_reducible refine afS ?_
 first | refine afQ (afW ?_) | skip
 refine afQ (wpAny_sequenceKey ht.typeIs (by decide) ?_)
 refine afQ (wpAny_callSpecial?_slot (name:=hV "__getitem__") ht.typeIs uI
  (wpAny_call_entry uI ht.typeIs entry_tuple_getitem ?_ (args_tuple_getitem _ _)))
 show afP _ _ (MY (.ref t) >>= _) _ _ s
 refine afQ (tupleItemsOf_ ht ?_)
 refine afQ (wpAny_typeOf hTs ?_)
 rw[if_pos (by decide)]
 refine afQ (iT hs pl pu ?_)
 have hno:¬((((dF items.size 0 lo:Nat):Int) == 0&&(1:Int) == 1&&(dF items.size items.size hi - dF items.size 0 lo) == items.size)=true):=by
  intro q
  rw[cO,cO] at q
  have q1:((dF items.size 0 lo:Nat):Int)=0:=eq_of_beq q.1.1
  have q2:dF items.size items.size hi - dF items.size 0 lo=items.size:=eq_of_beq q.2
  exact hw ⟨by omega,by omega⟩
 show afP _ _ (if(((dF items.size 0 lo:Nat):Int) == 0&&(1:Int) == 1&&(dF items.size items.size hi - dF items.size 0 lo) == items.size)=true then _ else _) _ _ s
 rw[if_neg hno,DT]
 first
  | exact afQ (m:=yq _) (afV (afW ⟨_,rfl,afW h⟩) Ap)
  | exact afQ (m:=yq _) (afV (afQ (afW (afW ⟨_,rfl,afW h⟩))) Ap)
  | exact afQ (afQ (m:=yq _) (afV (afW (afW ⟨_,rfl,afW h⟩)) Ap))
  | exact afQ (afQ (m:=yq _) (afV (afW ⟨_,rfl,afW h⟩) Ap))
end
end HT
namespace L2
open PySem PySem.Spec PyProof.Rows
abbrev TO:=St->Hp->(Option Int->Hp->Prop)->Prop
def PO(X:Cx)(e:Option Expr)(t:TO):Prop :=
 ∀(pins:List (afw×Obj))(s:afB)(σ:St)(H:Hp)(Q:Option Int->Hp->Prop),Inv X pins σ H s->t σ H Q->
  afP (model X.prog X.w) X.A (evalPart e X.env) (λu s'=>∃o H',Inv X pins σ H' s'/\IsPart u o/\Q o H') X.xe s
def IK:TO:=λ_ H Q=>Q none H
def R_(t:TE):TO:=λσ H Q=>t σ H λx H1=>∃i,x= .int i/\Q (some i) H1
section
variable {X:Cx} {e:Expr} {te:TE} {lo hi:Option Expr} {tl th:TO} {pos p2:Pos}
theorem IL:PO X none IK:=by
 intro pins s σ H Q I h
 rw[evalPart_none]
 exact afW ⟨none,H,I,.none,h⟩
theorem IM(h:PE X e te):PO X (some e) (R_ te):=by
 intro pins s σ H Q I hw
 rw[evalPart_some]
 refine bp (h pins s σ H _ I hw) λu s1 ⟨x,H1,I1,r1,q1⟩=>?_
 obtain⟨i,rfl,q⟩:=q1
 obtain⟨t,rfl⟩:=r1
 exact⟨some i,H1,I1,.int i t,q⟩
def H_(X:Cx)(r:V->Option Int->Option Int->Hp->VK->Prop):Prop :=
 ∀(pins:List (afw×Obj))(s:afB)(σ:St)(H:Hp)(x:V)(v vl vu:afC)(lo hi:Option Int)(sl:afw)(Q:VK),Inv X pins σ H s->RelV x v->s.heap.IsSliceOf sl vl vu .none->IsPart vl lo->IsPart vu hi->r x lo hi H Q->
  ∃T id,typeLookup (.type T) "__getitem__"=pure (some (.builtin id))/\s.TypeIs v T/\afP (model X.prog X.w) X.A (getItem v (.ref sl)) (EP X pins σ Q) X.xe s
theorem H_.or{r r':V->Option Int->Option Int->Hp->VK->Prop}(h:H_ X r)(h':H_ X r'):H_ X (λx lo hi H Q=>r x lo hi H Q\/r' x lo hi H Q):=by
 intro pins s σ H x v vl vu lo hi sl Q I rx hs pl pu q
 rcases q with q | q
 ·exact h pins s σ H x v vl vu lo hi sl Q I rx hs pl pu q
 ·exact h' pins s σ H x v vl vu lo hi sl Q I rx hs pl pu q
def tSl(r:V->Option Int->Option Int->Hp->VK->Prop)(te:TE)(tl th:TO):TE:=λσ H Q=>te σ H λx H1=>tl σ H1 λl H2=>th σ H2 λu H3=>r x l u H3 Q
theorem qC{r:V->Option Int->Option Int->Hp->VK->Prop}(hr:H_ X r)(he:PE X e te)(hl:PO X lo tl)(hu:PO X hi th):PE X (.Subscript e (.Slice lo hi none p2) pos) (tSl r te tl th):=by
 intro pins s σ H Q I h
 refine Subscript_ (bp (he pins s σ H _ I h) λv s1 ⟨x,H1,I1,r1,q1⟩=>?_)
 refine wpAny_Slice (bp (hl pins s1 σ H1 _ I1 q1) λvl s2 ⟨l,H2,I2,pl,q2⟩=>bp (hu pins s2 σ H2 _ I2 q2) λvu s3 ⟨u,H3,I3,pu,q3⟩=>?_)
 rw[evalPart_none]
 refine afW ?_
 have I4:Inv X pins σ H3 { s3 with heap:=s3.heap.push { cls:=.type "slice",data:=.fields #[vl,vu,.none] } }:=I3.kept (t':=s3.toks) λb ob q=>aF _ q
 obtain⟨T,id,hT,ht,hg⟩:=hr pins { s3 with heap:=s3.heap.push { cls:=.type "slice",data:=.fields #[vl,vu,.none] } } σ H3 x v vl vu l u s3.heap.objs.size Q I4 r1 (Heap.IsSliceOf.new ..) pl pu q3
 show afP (model X.prog X.w) X.A (subscriptTail e (.Slice lo hi none p2) v (.ref s3.heap.objs.size)) (EP X pins σ Q) X.xe { s3 with heap:=s3.heap.push { cls:=.type "slice",data:=.fields #[vl,vu,.none] } }
 exact tail_any (ops:=[.ref s3.heap.objs.size,v]) ht hT hg (by with_unfolding_all rfl)
def sy(xs:List V)(lo hi:Option Int):List V:=(xs.drop (HT.dF xs.length 0 lo)).take (HT.dF xs.length xs.length hi - HT.dF xs.length 0 lo)
theorem pk(xs:List V)(lo hi:Option Int):(sy xs lo hi).length<=xs.length:=by
 unfold sy
 rw[kZ,p5]
 omega
def WA(K:PySem.W.Frag):V->Option Int->Option Int->Hp->VK->Prop:=λx lo hi H Q=>∃a xs,x= .ref a/\eF K H a xs/\
 ¬(HT.dF xs.length 0 lo=0/\HT.dF xs.length xs.length hi=xs.length)/\∀p,H p=none->Q (.ref p) (upd H p (.tup (sy xs lo hi)))
theorem DU:H_ X (WA X.K):=by
 intro pins s σ H x v vl vu lo hi sl Q I rx hs pl pu h
 obtain⟨a,xs,rfl,hx,hw,q⟩:=h
 cases rx
 obtain⟨its,r,ht,hz⟩:=I.tuple hx
 have hlen:its.toArray.size=xs.length:=by rw[aT];exact r.length.symm
 refine⟨"tuple",_,PyProof.Rows.slot_tuple_getitem.lookup,ht.typeIs,?_⟩
 refine HT.mX ht hs pl pu (by rw[hlen];exact hw) ?_ (by rw[hlen];exact hz)
 rw[hlen]
 refine⟨.ref s.heap.objs.size,_,I.laid (t':=s.toks) (o:=.tup (sy xs lo hi)) (λb ob q=>aF _ q) (au _) ?_,rfl,q _ (I.hok.fresh (au _))⟩
 exact⟨bu (pk xs lo hi) hz,_,(r.drop (HT.dF xs.length 0 lo)).take (HT.dF xs.length xs.length hi - HT.dF xs.length 0 lo),IsTup.new _ _,ye.new _ _⟩
def Sa(K:PySem.W.Frag):R2:=λx y H Q=>∃a b xs ys,x= .ref a/\y= .ref b/\eF K H a xs/\eF K H b ys/\xs≠[]/\xs.length+ys.length<=afN/\
 (ys=[]->Q (.ref a) H)/\(ys≠[]->∀p,H p=none->Q (.ref p) (upd H p (.tup (xs++ys))))
theorem Vals.uJ{xs:List V}{us:List afC}(r:Vals xs us):us=[]↔xs=[]:=by
 cases r with
 | nil=>simp
 | cons _ _=>simp
theorem IP:fD X (afF .Add) (Sa X.K):=by
 intro pins s σ H x y v u Q I rx ry h
 obtain⟨a,b,xs,ys,rfl,rfl,ha,hb,hx,hz,q1,q2⟩:=h
 cases rx
 cases ry
 obtain⟨its,r1,p1,_⟩:=I.tuple ha
 obtain⟨its2,r2,p2,_⟩:=I.tuple hb
 refine HT.IJ p1 p2 (λz=>hx (r1.uJ.mp z)) (λz=>⟨.ref a,H,I,rfl,q1 (r2.uJ.mp z)⟩) (λz=>?_) (by rw[<-r1.length,<-r2.length];exact hz)
 refine⟨.ref s.heap.objs.size,_,I.laid (t':=s.toks) (o:=.tup (xs++ys)) (λb ob q=>aF _ q) (au _) ?_,rfl,q2 (λw=>z (r2.uJ.mpr w)) _ (I.hok.fresh (au _))⟩
 exact⟨by rw[bZ];exact hz,_,r1.append r2,IsTup.new _ _,ye.new _ _⟩
end
def Dv(n:Nat)(i:Int):Option Nat:=if 0<=i then(if i < n then some i.toNat else none) else if -(n:Int)<=i then some (i+n).toNat else none
def pv{α:Type}(xs:List α)(i:Int):Option α:=(Dv xs.length i).bind λj=>xs[j]?
theorem Aq{n:Nat}{i:Int}{j:Nat}(h:Dv n i=some j):seqIndex? i n=some j/\j < n/\-(n:Int)<=i/\i < n:=by
 unfold Dv at h
 by_cases h0:0<=i
 ·rw[if_pos h0] at h
  by_cases h1:i < n
  ·rw[if_pos h1] at h
   have e:i.toNat=j:=Option.some.inj h
   exact⟨by rw[seqIndex_of h0 h1,e],by omega,by omega,h1⟩
  ·rw[if_neg h1] at h;cases h
 ·rw[if_neg h0] at h
  by_cases h1:-(n:Int)<=i
  ·rw[if_pos h1] at h
   have e:(i+n).toNat=j:=Option.some.inj h
   exact⟨by rw[seqIndex_neg (by omega) h1,e],by omega,h1,by omega⟩
  ·rw[if_neg h1] at h;cases h
theorem p8{α:Type}{xs:List α}{i:Int}{v:α}(h:pv xs i=some v):∃j,seqIndex? i xs.length=some j/\xs[j]? =some v/\j < xs.length/\-(xs.length:Int)<=i/\i < xs.length:=by
 unfold pv at h
 cases e:Dv xs.length i with
 | none=>rw[e] at h;cases h
 | some j=>
  rw[e] at h
  obtain⟨h1,h2,h3,h4⟩:=Aq e
  exact⟨j,h1,h,h2,h3,h4⟩
theorem gq{α:Type}{xs:List α}{j:Nat}{v:α}(h:xs[j]? =some v):pv xs (j:Int)=some v:=by
 have hj:j < xs.length:=(List.getElem?_eq_some_iff.mp h).1
 have e:Dv xs.length (j:Int)=some j:=by
  unfold Dv
  rw[if_pos (by omega),if_pos (by omega)];simp
 unfold pv;rw[e];exact h
def Ar(b:Expr):Prop:=∀o i,subscripted b false o i=operate [o,i] (getItem o i)
def IQ(X:Cx)(r:R2):Prop :=
 ∀(value slice:Expr)(pins:List (afw×Obj))(s:afB)(σ:St)(H:Hp)(x y:V)(v u:afC)(Q:VK),Inv X pins σ H s->RelV x v->RelV y u->r x y H Q->
  subscripted slice false v u=operate [v,u] (getItem v u)->afP (model X.prog X.w) X.A (subscriptTail value slice v u) (EP X pins σ Q) X.xe s
def WB(X:Cx)(id:String)(r:V->List V->Hp->VK->Prop):Prop :=
 ∀(pins:List (afw×Obj))(s:afB)(σ:St)(H:Hp)(x:V)(xs:List V)(v:afC)(us:List afC)(Q:VK),Inv X pins σ H s->RelV x v->Vals xs us->r x xs H Q->
  afP (model X.prog X.w) X.A (call (.builtin id) (v::us)) (EP X pins σ Q) X.xe s
section
variable {X:Cx} {a b:Expr} {ta tb:TE} {pos:Pos}
theorem IQ.or{r r':R2}(h:IQ X r)(h':IQ X r'):IQ X (λx y H Q=>r x y H Q\/r' x y H Q):=by
 intro value slice pins s σ H x y v u Q I rx ry q hs
 rcases q with q | q
 ·exact h value slice pins s σ H x y v u Q I rx ry q hs
 ·exact h' value slice pins s σ H x y v u Q I rx ry q hs
theorem Sb{r:R2}(hr:IQ X r)(ha:PE X a ta)(hb:PE X b tb)(hs:Ar b):PE X (.Subscript a b pos) (RT r ta tb):=by
 intro pins s σ H Q I h
 exact Subscript_ (MJ ha hb I h λv u s2 x y H2 I2 rx ry q=>hr a b pins s2 σ H2 x y v u Q I2 rx ry q (hs _ _))
def Sd(K:PySem.W.Frag):R2:=λx y H Q=>∃p xs i v,x= .ref p/\y= .int i/\jT K H p xs/\pv xs i=some v/\Q v H
def Se(K:PySem.W.Frag):R2:=λx y H Q=>∃p xs i v,x= .ref p/\y= .int i/\eF K H p xs/\pv xs i=some v/\Q v H
def Sf:R2:=λx y H Q=>∃z i c,x= .str z/\y= .int i/\z.length<=afN/\pv z.cps.toList i=some c/\Q (.str ⟨#[c]⟩) H
theorem IS:IQ X (Sd X.K):=by
 intro value slice pins s σ H x y v u Q I rx ry h hs
 obtain⟨p,xs,i,z,rfl,rfl,hq,he,q⟩:=h
 cases rx
 obtain⟨t,rfl⟩:=ry
 obtain⟨its,r,pl,hz⟩:=I.list hq
 obtain⟨j,h1,h2,h3,h4,h5⟩:=p8 he
 obtain⟨w,ew,rw'⟩:=r.get h2
 have hl:=r.length
 have hn:=l8
 have fin:EP X pins σ Q w s:=⟨z,H,I,rw',q⟩
 by_cases h0:0<=i
 ·have hj:i.toNat=j:=by
   rw[seqIndex_of h0 h5] at h1
   exact Option.some.inj h1
  exact item_listR pl.isList h0 (by omega) (by rw[hj];simpa using ew) fin hs
 ·have hj:(i+(its.toArray.size:Int)).toNat=j:=by
   rw[seqIndex_neg (by omega) h4] at h1
   rw[aT,<-hl]
   exact Option.some.inj h1
  exact subscriptTail_builtinR (x:=w) pl.isList.typeIs slot_list_getitem.lookup
   (wpAny_getItem_list_neg (Q:=λr s'=>r=w/\EP X pins σ Q r s') pl.isList (by omega) (by rw[aT]<;>omega) (by omega) (by rw[hj];simpa using ew) ⟨rfl,fin⟩) hs
theorem MZ:IQ X (Se X.K):=by
 intro value slice pins s σ H x y v u Q I rx ry h hs
 obtain⟨p,xs,i,z,rfl,rfl,hq,he,q⟩:=h
 cases rx
 obtain⟨t,rfl⟩:=ry
 obtain⟨its,r,pl,hz⟩:=I.tuple hq
 obtain⟨j,h1,h2,h3,h4,h5⟩:=p8 he
 obtain⟨w,ew,rw'⟩:=r.get h2
 have hl:=r.length
 have hn:=l8
 have fin:EP X pins σ Q w s:=⟨z,H,I,rw',q⟩
 exact subscriptTail_builtinR (x:=w) pl.typeIs slot_tuple_getitem.lookup
  (getItem_tuple (j:=j) (Q:=λr s'=>r=w/\EP X pins σ Q r s') pl (by omega) (by omega) (by rw[aT,<-hl];exact h1) (by simpa using ew) ⟨rfl,fin⟩) hs
theorem M0:IQ X Sf:=by
 intro value slice pins s σ H x y v u Q I rx ry h hs
 obtain⟨z,i,c,rfl,rfl,hz,he,q⟩:=h
 obtain⟨t,rfl⟩:=rx
 obtain⟨t',rfl⟩:=ry
 obtain⟨j,h1,h2,h3,h4,h5⟩:=p8 he
 have hl:z.cps.toList.length=z.length:=by simp[Str.length]
 rw[hl] at h1 h4 h5
 have hn:=l8
 exact tail_any (typeIs_str s z t) slot_str_getitem.lookup (getItem_str (c:=c) (by
  have e1:decide (i < -(2 ^ 63:Int))=false:=decide_eq_false (by omega)
  have e2:decide (i >= 2 ^ 63)=false:=decide_eq_false (by omega)
  rw[e1,e2,Bool.or_false]) (by rw[h1];simpa using h2) ⟨.str ⟨#[c]⟩,H,I.tok _,⟨_,rfl⟩,q⟩) hs
def Z9(K:PySem.W.Frag):R2:=λx y H Q=>Sd K x y H Q\/Se K x y H Q\/Sf x y H Q
theorem M3:IQ X (Z9 X.K):=IS.or (MZ.or M0)
theorem yt(its:List afC)(n j:Nat)(u:afC):k_ (·.setIfInBounds j u) { cls:=.type "list",data:=.seq its.toArray n }={ cls:=.type "list",data:=.seq (its.set j u).toArray n }:=by
 simp[k_]
theorem Inv.lst{pins:List (afw×Obj)}{σ:St}{H:Hp}{s:afB}{p:afw}{xs:List V}(I:Inv X pins σ H s)(h:H p=some (.lst xs)) :
  ∃(its:List afC)(n:Nat),Vals xs its/\s.heap.get? p=some { cls:=.type "list",data:=.seq its.toArray n }/\xs.length<=afN:=by
 obtain⟨z,its,n,r,e⟩:=I.hok p _ h
 exact⟨its,n,r,e,z⟩
theorem Inv.M4{pins:List (afw×Obj)}{σ:St}{H:Hp}{s:afB}{p:afw}{xs ys:List V}{its its':List afC}{n n':Nat}{f:Obj->Obj}(I:Inv X pins σ H s)(h:H p=some (.lst xs))
  (ho:s.heap.get? p=some { cls:=.type "list",data:=.seq its.toArray n })(hf:f { cls:=.type "list",data:=.seq its.toArray n }={ cls:=.type "list",data:=.seq its'.toArray n' })(r:Vals ys its')(hz:ys.length<=afN)(t:Nat) :
  Inv X pins σ (upd H p (.lst ys)) { s with heap:=s.heap.update p f,toks:=t }:=by
 have e:(s.heap.update p f).get? p=some { cls:=.type "list",data:=.seq its'.toArray n' }:=by
  rw[n8 f ho (by rw[hf]<;>rfl),hf]
 refine I.write (x:=p) (e:=p) (by rw[h];trivial) (.inl rfl) (λb u hb q=>(n9 _ _ (ay hb)).trans q) ⟨_,e⟩ ?_
 exact⟨hz,its',n',r,e⟩
def Sg:V->V->V->Hp->(Hp->Prop)->Prop:=λo i v H Q=>∃p xs k j,o= .ref p/\i= .int k/\H p=some (.lst xs)/\Dv xs.length k=some j/\Q (upd H p (.lst (xs.set j v)))
theorem set_list:RO X Sg:=by
 intro pins s σ H o i v ov iv u Q I ro ri rv h
 obtain⟨p,xs,k,j,rfl,rfl,hp,hj,q⟩:=h
 cases ro
 obtain⟨t,rfl⟩:=ri
 obtain⟨its,n,r,ho,hz⟩:=I.lst hp
 obtain⟨h1,h2,h3,h4⟩:=Aq hj
 have hl:=r.length
 have hn:=l8
 have I':Inv X pins σ (upd H p (.lst (xs.set j v))) { s with heap:=s.heap.update p (k_ (·.setIfInBounds j u)) } :=
  I.M4 hp ho (yt its n j u) (r.set rv j) (by rw[List.length_set];exact hz) s.toks
 by_cases h0:0<=k
 ·have hk:k.toNat=j:=by
   rw[seqIndex_of h0 h4] at h1
   exact Option.some.inj h1
  exact PySem.W.ki_setAt ho h0 (by omega) (by rw[aT,<-hl];exact h4) (by rw[hk];exact⟨_,I',q⟩)
 ·have hk:(k+(its.toArray.size:Int)).toNat=j:=by
   rw[seqIndex_neg (by omega) h3] at h1
   rw[aT,<-hl]
   exact Option.some.inj h1
  exact PySem.W.ki_setBack ho (by omega) (by rw[aT,<-hl];exact h3) (by omega) (by rw[hk];exact⟨_,I',q⟩)
theorem uK(lo hi:Option Int)(n:Nat):(sliceBounds lo hi none n).1=((HT.dF n 0 lo:Nat):Int)/\(sliceBounds lo hi none n).2.1=((HT.dF n n hi:Nat):Int)/\(sliceBounds lo hi none n).2.2=1:=by
 refine⟨?_,?_,rfl⟩
 ·cases lo with
  | none=>simp[sliceBounds,HT.dF]
  | some i=>
   simp only[sliceBounds,HT.dF,Option.getD_none,show(1:Int) > 0 by decide,if_true]
   by_cases h:i < 0
   ·simp only[h,if_true]<;>omega
   ·simp only[h,if_false]<;>omega
 ·cases hi with
  | none=>simp[sliceBounds,HT.dF]
  | some i=>
   simp only[sliceBounds,HT.dF,Option.getD_none,show(1:Int) > 0 by decide,if_true]
   by_cases h:i < 0
   ·simp only[h,if_true]<;>omega
   ·simp only[h,if_false]<;>omega
theorem sA(its:List afC)(lo hi:Option Int):slicePick its.toArray lo hi none=((its.drop (HT.dF its.length 0 lo)).take (HT.dF its.length its.length hi - HT.dF its.length 0 lo)).toArray:=by
 obtain⟨h1,h2,h3⟩:=uK lo hi its.toArray.size
 unfold slicePick
 rw[h1,h2,h3]
 simp only[sliceRange_one,pick_run,aT]<;>rfl
def WC(K:PySem.W.Frag):V->Option Int->Option Int->Hp->VK->Prop:=λx lo hi H Q=>∃a xs,x= .ref a/\jT K H a xs/\∀p,H p=none->Q (.ref p) (upd H p (.lst (sy xs lo hi)))
theorem IT:H_ X (WC X.K):=by
 intro pins s σ H x v vl vu lo hi sl Q I rx hs pl pu h
 obtain⟨a,xs,rfl,hx,q⟩:=h
 cases rx
 obtain⟨its,r,ht,hz⟩:=I.list hx
 have hlen:=r.length
 refine⟨"list",_,slot_list_getitem.lookup,ht.isList.typeIs,?_⟩
 refine wpAny_getItem_list_slice ht.isList hs pl pu .none (by simp) ?_ (by rw[aT]<;>omega)
 rw[sA,<-hlen]
 refine⟨.ref s.heap.objs.size,_,I.laid (t':=s.toks) (o:=.lst (sy xs lo hi)) (λb ob q=>aF _ q) (au _) ?_,rfl,q _ (I.hok.fresh (au _))⟩
 exact⟨bu (pk xs lo hi) hz,_,0,(r.drop (HT.dF xs.length 0 lo)).take (HT.dF xs.length xs.length hi - HT.dF xs.length 0 lo),br _ rfl⟩
def lS:V->Bool
 | .bO=>true
 | .bl _=>true
 | .int _=>true
 | .str _=>true
 | _=>false
def IU:V->V->Bool
 | .bO,.bO=>true
 | .bl a,.bl b=>a == b
 | .bl a,.int b=>(if a then 1 else 0) == b
 | .int a,.bl b=>a == (if b then 1 else 0)
 | .int a,.int b=>a == b
 | .str a,.str b=>a == b
 | _,_=>false
theorem M5{A:afx}{s:afB}{y x:V}{u v:afC}(ry:RelV y u)(rx:RelV x v)(fy:lS y=true)(fx:lS x=true):SeqAt.EqAt A s u v (IU y x):=by
 cases y with
 | bO=>
  cases ry
  cases x with
  | bO=>cases rx;exact SeqAt.EqAt.same _
  | bl b=>cases rx;exact SeqAt.EqAt.none_bool b
  | int b=>obtain⟨t,rfl⟩:=rx;exact SeqAt.EqAt.none_int b t
  | str b=>obtain⟨t,rfl⟩:=rx;exact SeqAt.EqAt.none_str b t
  | _=>exact absurd (show false=true from fx) cT
 | bl a=>
  cases ry
  cases x with
  | bO=>cases rx;exact SeqAt.EqAt.bool_none a
  | bl b=>cases rx;exact SeqAt.EqAt.bool_bool a b
  | int b=>obtain⟨t,rfl⟩:=rx;exact SeqAt.EqAt.bool_int a b t
  | str b=>obtain⟨t,rfl⟩:=rx;exact SeqAt.EqAt.bool_str a b t
  | _=>exact absurd (show false=true from fx) cT
 | int a=>
  obtain⟨t',rfl⟩:=ry
  cases x with
  | bO=>cases rx;exact SeqAt.EqAt.int_none a t'
  | bl b=>cases rx;exact SeqAt.EqAt.int_bool a t' b
  | int b=>obtain⟨t,rfl⟩:=rx;exact SeqAt.EqAt.int_int a t' b t
  | str b=>obtain⟨t,rfl⟩:=rx;exact Io a t' b t
  | _=>exact absurd (show false=true from fx) cT
 | str a=>
  obtain⟨t',rfl⟩:=ry
  cases x with
  | bO=>cases rx;exact SeqAt.EqAt.str_none a t'
  | bl b=>cases rx;exact SeqAt.EqAt.str_bool a t' b
  | int b=>obtain⟨t,rfl⟩:=rx;exact Ip a t' b t
  | str b=>obtain⟨t,rfl⟩:=rx;exact SeqAt.EqAt.str_str a t' b t
  | _=>exact absurd (show false=true from fx) cT
 | _=>exact absurd (show false=true from fy) cT
def yu(x:V)(u:afC):Bool:=match u with
 | .none=>IU .bO x
 | .bool b=>IU (.bl b) x
 | .int i _=>IU (.int i) x
 | .str z _=>IU (.str z) x
 | _=>false
theorem DV{x y:V}{u:afC}(r:RelV y u)(f:lS y=true):yu x u=IU y x:=by
 cases y with
 | bO=>cases r;rfl
 | bl b=>cases r;rfl
 | int i=>obtain⟨t,rfl⟩:=r;rfl
 | str z=>obtain⟨t,rfl⟩:=r;rfl
 | _=>exact absurd (show false=true from f) cT
theorem mY{x:V}:∀{xs:List V}{us:List afC},Vals xs us->xs.all lS=true->us.any (yu x)=xs.any λy=>IU y x
 | _,_,.nil,_=>rfl
 | y::xs,u::us,.cons r t,f=>by
  rw[eI,cO] at f
  rw[iG,iG,DV r f.1,mY t f.2]
theorem jY{A:afx}{s:afB}{x:V}{v:afC}(rx:RelV x v)(fx:lS x=true):∀{xs:List V}{us:List afC},Vals xs us->xs.all lS=true->∀u∈us,SeqAt.EqAt A s u v (yu x u)
 | _,_,.nil,_=>λu hu=>by cases hu
 | y::xs,u::us,.cons r t,f=>λu' hu=>by
  rw[eI,cO] at f
  rcases List.mem_cons.mp hu with rfl | hu
  ·rw[DV r f.1];exact M5 r rx f.1 fx
  ·exact jY rx fx t f.2 u' hu
def Ve(x:V)(xs:List V):Bool:=xs.any λy=>IU y x
def Z_(K:PySem.W.Frag)(neg:Bool):R2:=λx y H Q=>∃p xs,y= .ref p/\(jT K H p xs\/eF K H p xs)/\lS x=true/\xs.all lS=true/\Q (.bl (if neg then !Ve x xs else Ve x xs)) H
theorem B0:fD X (afJ .In) (Z_ X.K false):=by
 intro pins s σ H x y v u Q I rx ry h
 obtain⟨p,xs,rfl,hq,fx,fs,q⟩:=h
 cases ry
 rcases hq with hq | hq
 ·obtain⟨its,r,pl,hz⟩:=I.list hq
  refine SeqAt.in_listAt (yu x) pl.isList (λw hw=>jY rx fx r fs w (by simpa using hw)) ⟨.bl _,H,I,rfl,?_⟩
  rw[show its.toArray.any (yu x)=its.any (yu x) by simp,mY r fs]
  exact q
 ·obtain⟨its,r,pl,hz⟩:=I.tuple hq
  refine SeqAt.in_tupleAt (yu x) pl (λw hw=>jY rx fx r fs w (by simpa using hw)) ⟨.bl _,H,I,rfl,?_⟩
  rw[show its.toArray.any (yu x)=its.any (yu x) by simp,mY r fs]
  exact q
theorem uL:fD X (afJ .NotIn) (Z_ X.K true):=by
 intro pins s σ H x y v u Q I rx ry h
 obtain⟨p,xs,rfl,hq,fx,fs,q⟩:=h
 cases ry
 rcases hq with hq | hq
 ·obtain⟨its,r,pl,hz⟩:=I.list hq
  refine SeqAt.notIn_listAt (yu x) pl.isList (λw hw=>jY rx fx r fs w (by simpa using hw)) ⟨.bl _,H,I,rfl,?_⟩
  rw[show its.toArray.any (yu x)=its.any (yu x) by simp,mY r fs]
  exact q
 ·obtain⟨its,r,pl,hz⟩:=I.tuple hq
  refine SeqAt.notIn_tupleAt (yu x) pl (λw hw=>jY rx fx r fs w (by simpa using hw)) ⟨.bl _,H,I,rfl,?_⟩
  rw[show its.toArray.any (yu x)=its.any (yu x) by simp,mY r fs]
  exact q
theorem uM:fD X (afJ .NotIn) (λx y H Q=>∃i j,x= .str i/\y= .str j/\Q (.bl (!(!(yh j i 0 j.length 1).isEmpty))) H):=by
 intro pins s σ H x y v u Q I rx ry h
 obtain⟨i,j,rfl,rfl,q⟩:=h
 obtain⟨t,rfl⟩:=rx
 obtain⟨t',rfl⟩:=ry
 exact notIn_str ⟨.bl _,H,I,rfl,q⟩
theorem uN:fN X (.builtin "len") (λxs H Q=>∃p ys,xs=[.ref p]/\(jT X.K H p ys\/eF X.K H p ys)/\Q (.int ys.length) H):=by
 intro pins s σ H xs us Q I r h
 obtain⟨p,ys,rfl,hq,q⟩:=h
 obtain⟨u,rfl,rx⟩:=vals1 r
 cases rx
 have hn:=l8
 rcases hq with hq | hq
 ·obtain⟨its,r',pl,hz⟩:=I.list hq
  have hlen:=r'.length
  exact Calls.call_len_list pl.isList (by simp only[aT]<;>omega) ⟨.int ys.length,H,I.tok _,⟨s.toks+1,by rw[aT,hlen]⟩,q⟩
 ·obtain⟨its,r',pl,hz⟩:=I.tuple hq
  have hlen:=r'.length
  exact len_tuple pl (by simp only[aT]<;>omega) ⟨.int ys.length,H,I.tok _,⟨s.toks+1,by rw[aT,hlen]⟩,q⟩
theorem uO:fN X (.builtin "len") (λxs H Q=>∃z,xs=[.str z]/\z.length<=afN/\Q (.int z.length) H):=by
 intro pins s σ H xs us Q I r h
 obtain⟨z,rfl,hz,q⟩:=h
 obtain⟨u,rfl,t,rfl⟩:=vals1 r
 have hn:=l8
 exact len_str (by omega) ⟨.int z.length,H,I.tok _,⟨_,rfl⟩,q⟩
theorem fN.or{f:afC}{r r':List V->Hp->VK->Prop}(h:fN X f r)(h':fN X f r'):fN X f (λxs H Q=>r xs H Q\/r' xs H Q):=by
 intro pins s σ H xs us Q I rs q
 rcases q with q | q
 ·exact h pins s σ H xs us Q I rs q
 ·exact h' pins s σ H xs us Q I rs q
theorem sC:fN X (.type "tuple") (λxs H Q=>∃p ys,xs=[.ref p]/\((jT X.K H p ys/\∀l,H l=none->Q (.ref l) (upd H l (.tup ys)))\/(eF X.K H p ys/\Q (.ref p) H))):=by
 intro pins s σ H xs us Q I r h
 obtain⟨p,ys,rfl,h⟩:=h
 obtain⟨u,rfl,rx⟩:=vals1 r
 cases rx
 rcases h with ⟨hq,q⟩ | ⟨hq,q⟩
 ·obtain⟨its,r',pl,hz⟩:=I.list hq
  have hlen:=r'.length
  refine call_tuple_list pl.isList (λh' kp=>?_) (by simp only[aT]<;>omega)
  have I1:Inv X pins σ H { s with heap:=h' }:=I.kept (t':=s.toks) kp
  have I2:Inv X pins σ (upd H h'.objs.size (.tup ys)) { s with heap:=h'.push { cls:=.type "tuple",data:=.seq its.toArray } } :=
   I1.laid (t':=s.toks) (λb o e=>aF _ e) (au _) (show dc X.prog X.w _ _ _ (.tup ys) from⟨hz,its,r',IsTup.new _ _,ye.new _ _⟩)
  exact⟨.ref h'.objs.size,_,I2,rfl,q _ (I1.hok.fresh (au _))⟩
 ·obtain⟨its,r',pl,hz⟩:=I.tuple hq
  exact call_tuple_same pl ⟨.ref p,H,I,rfl,q⟩
def Z'(K:PySem.W.Frag)(T:String)(x:V)(H:Hp):Prop:=match x with
 | .str _=>T="str"
 | .int _=>T="int"
 | .ref p=>(T="list"/\∃xs,jT K H p xs)\/(T="tuple"/\((∃o,K.lookup p=some o/\o.cls= .type "tuple"/\o.dict=none)\/∃xs,H p=some (.tup xs)))\/
   (T="dict"/\((∃kvs,H p=some (.dK kvs))\/∃kvs,H p=some (.dT kvs)))\/(T="set"/\∃S n,H p=some (.set S n))
 | _=>False
theorem M6{pins:List (afw×Obj)}{σ:St}{H:Hp}{s:afB}{T:String}{x:V}{v:afC}(I:Inv X pins σ H s)(r:RelV x v)(ty:Z' X.K T x H) :
  s.TypeIs v T/\∀a,v= .ref a->∃ob,s.heap.get? a=some ob/\ob.dict=none:=by
 cases x with
 | str z=>
  obtain⟨t,rfl⟩:=r
  cases (show T="str" from ty)
  exact⟨typeIs_str s z t,λ_ e=>nomatch e⟩
 | int i=>
  obtain⟨t,rfl⟩:=r
  cases (show T="int" from ty)
  exact⟨typeIs_int s i t,λ_ e=>nomatch e⟩
 | ref p=>
  cases r
  rcases ty with ⟨rfl,xs,hq⟩ | ⟨rfl,⟨o,hk,hc,hd⟩ | ⟨xs,hk⟩⟩ | ⟨rfl,hk⟩ | ⟨rfl,S,n,hk⟩
  ·obtain⟨its,_,pl,_⟩:=I.list hq
   refine⟨pl.isList.typeIs,λa e=>?_⟩
   cases e
   obtain⟨o,n,e,c,hd,_⟩:=pl
   exact⟨o,e,hd⟩
  ·refine⟨⟨o,I.v9 p o hk,hc⟩,λa e=>?_⟩
   cases e
   exact⟨o,I.v9 _ o hk,hd⟩
  ·obtain⟨_,_,_,⟨o,e1,e2,_⟩,nd⟩:=I.hok p _ hk
   refine⟨⟨o,e1,e2⟩,λa e=>?_⟩
   cases e
   exact⟨o,e1,nd o e1⟩
  ·have z:∃o,s.heap.get? p=some o/\o.ExactDict:=by
    rcases hk with ⟨kvs,hk⟩ | ⟨kvs,hk⟩
    ·obtain⟨_,_,_,_,o,_,_,e,ex,_⟩:=I.hok p _ hk
     exact⟨o,e,ex⟩
    ·obtain⟨_,_,_,_,o,_,_,e,ex,_⟩:=I.hok p _ hk
     exact⟨o,e,ex⟩
   obtain⟨o,e,ex⟩:=z
   refine⟨⟨o,e,ex.1⟩,λa e2=>?_⟩
   cases e2
   exact⟨o,e,ex.2.1⟩
  ·obtain⟨o,_,_,_,e,ex,_⟩:=I.hok p _ hk
   refine⟨⟨o,e,ex.1⟩,λa e2=>?_⟩
   cases e2
   exact⟨o,e,ex.2.1⟩
 | _=>exact ae ty
def tBM(K:PySem.W.Frag)(T:String)(r:V->List V->Hp->VK->Prop)(to:TE)(t:TA):TE:=λσ H Q=>to σ H λx H1=>Z' K T x H1/\t σ H1 λxs H2=>r x xs H2 Q
variable {o e:Expr} {es:List Expr} {to:TE} {t:TA} {name:Str} {apos cpos:Pos} {T id:String} {r:V->List V->Hp->VK->Prop}
theorem Sh(pa:PlainAttrs T)(slot:Slot T name id)(hty:typeOf (.builtin id)=pure (.type "method_descriptor"))(hm:WB X id r)(ho:PE X o to)(ha:PA X (e::es) t)
  (hbase:attributeBase o name X.env (eval o X.env)=eval o X.env:=by rfl)
  (hfew:((backTo cpos (afO (e::es) X.env)).all (λx=> !x.1)&&(backToKw cpos (keywordEach [] X.env)).all (λx=>x.1.isSome)
   &&decide ((e::es).length+([]:List Keyword).length+(if([]:List Keyword).isEmpty then 0 else 1) < 30))=true:=by rfl)
  (hline:(apos.endLine == cpos.line)=true:=by rfl)(hs:afO (e::es) X.env=(false,eval e X.env)::afO es X.env:=by rfl)(hplain:(backTo cpos (afO es X.env)).any (·.1)=false:=by rfl) :
  PE X (.Call (.Attribute o name apos) (e::es) [] cpos) (tBM X.K T r to t):=by
 intro pins s σ H Q I h
 refine wpAny_Call_method_late hbase hfew hline rfl (bp (ho pins s σ H _ I h) λv s1 ⟨x,H1,I1,r1,ty,q1⟩=>?_)
 obtain⟨h1,h2⟩:=M6 I1 r1 ty
 refine⟨T,id,pa,slot,hty,h1,h2,?_⟩
 have hA:=ha cpos pins s1 σ H1 _ I1 q1
 rw[hs] at hA ⊢
 refine yv (by show(false||(backTo cpos (afO es X.env)).any (·.1))=false;rw[hplain]<;>rfl) (uP ?_)
 exact bp hA λus s2 ⟨vs,H2,I2,r2,q2⟩=>hm pins s2 σ H2 x vs v us Q I2 r1 r2 q2
/- xs.append(e),list.index on a Si tuple .. are WB facts of 06m -/
end
def WD(X:Cx)(id:String)(r:V->List V->Hp->VK->Prop):Prop :=
 ∀(pins:List (afw×Obj))(s:afB)(σ:St)(H:Hp)(x:V)(xs:List V)(v:afC)(us:List afC)(Q:VK),Inv X pins σ H s->RelV x v->Vals xs us->r x xs H Q->
  afP (model X.prog X.w) X.A (call (.builtin id) (v::us)) (EP X pins σ Q) X.xe s
theorem Vals.one:∀{x:V}{us:List afC},Vals [x] us->∃u,us=[u]/\RelV x u
 | _,_,.cons r .nil=>⟨_,rfl,r⟩
theorem Vals.rep{xs:List V}{us:List afC}(h:Vals xs us):∀k:Nat,Vals (aH k xs).flatten (aH k us).flatten
 | 0=> .nil
 | k+1=>by
  rw[hX,hX,qD,qD]
  exact Vals.append h (Vals.rep h k)
theorem foldl_rep(its:List afC):∀(k:Nat)(acc:List afC),
  List.foldl (λx1 x2=>x1++x2) acc.toArray (aH k its.toArray)=(acc++(aH k its).flatten).toArray
 | 0,acc=>by simp
 | k+1,acc=>by
  have e:acc.toArray++its.toArray=(acc++its).toArray:=by simp
  have e2:(acc++its)++(aH k its).flatten=acc++(aH (k+1) its).flatten:=by
   rw[hX,qD,n_]
  rw[<-e2,<-foldl_rep its k (acc++its),<-e,hX,DW]
section
variable {X:Cx} {pins:List (afw×Obj)} {σ:St} {H:Hp} {s:afB} {l b:afw} {xs ys zs:List V}
theorem Inv.M7{its its':List afC}{n:Nat}{f:Array afC->Array afC}{t':Nat}(I:Inv X pins σ H s)(hH:H l=some (.lst xs))
  (e:s.heap.get? l=some { cls:=.type "list",data:=.seq its.toArray n })(hf:f its.toArray=its'.toArray)(hv:Vals ys its')(hz:ys.length<=afN) :
  Inv X pins σ (upd H l (.lst ys)) { s with heap:=s.heap.update l (k_ f),toks:=t' }:=by
 have q:=PySem.IsL.update e f
 rw[hf] at q
 refine I.write (x:=l) (e:=l) (by rw[hH];exact trivial) (.inl rfl) (λb' u hb hu=>(n9 s.heap (k_ f) (ay hb)).trans hu) ⟨_,q⟩ ?_
 exact⟨hz,its',_,hv,q⟩
theorem Inv.IV{its:List afC}{t':Nat}(I:Inv X pins σ H s)(hv:Vals ys its)(hz:ys.length<=afN) :
  Inv X pins σ (upd H s.heap.objs.size (.lst ys)) { s with heap:=s.heap.push { cls:=.type "list",data:=.seq its.toArray },toks:=t' } :=
 I.laid (λ_ _ q=>aF _ q) (au _) ⟨hz,its,0,hv,br _ rfl⟩
theorem Inv.fresh(I:Inv X pins σ H s):H s.heap.objs.size=none:=I.hok.fresh (au _)
theorem Inv.DX(I:Inv X pins σ H s)(hH:H l=some (.lst xs)):xs.length<=afN/\∃(its:List afC)(n:Nat),Vals xs its/\xs.length=its.length/\s.heap.get? l=some { cls:=.type "list",data:=.seq its.toArray n }:=by
 obtain⟨z,its,n,r,e⟩:=I.hok l _ hH
 exact⟨z,its,n,r,r.length,e⟩
theorem qE{n:Nat}(h:n<=afN):qF n=false:=by
 unfold qF
 exact decide_eq_false (by omega)
end
section
variable {X:Cx}
def IW:V->List V->Hp->VK->Prop:=λx vs H Q=>∃l xs y,x= .ref l/\vs=[y]/\H l=some (.lst xs)/\xs.length < afN/\Q .bO (upd H l (.lst (xs++[y])))
theorem B1:WD X "list.append" IW:=by
 intro pins s σ H x vs v us Q I rx rv h
 obtain⟨l,xs,y,rfl,rfl,hH,hz,q⟩:=h
 cases rx
 obtain⟨u,rfl,ru⟩:=rv.one
 obtain⟨z,its,n,r,hl,e⟩:=I.DX hH
 refine call_meets F.slot_list_append ⟨_,e,rfl⟩ F.entry_list_append (F.args_list_append_2 _ _) (PySem.list_append l its.toArray n u (by rw[aT];omega)) ⟨e,?_⟩
 refine⟨.bO,_,I.M7 (its':=its++[u]) hH e (by simp) (r.append (.cons ru .nil)) ?_,rfl,q⟩
 rw[bZ,IX]
 omega
def IY:V->List V->Hp->VK->Prop:=λx vs H Q=>∃l b xs zs,x= .ref l/\vs=[.ref b]/\H l=some (.lst xs)/\H b=some (.lst zs)/\xs.length+zs.length<=afN/\Q .bO (upd H l (.lst (xs++zs)))
theorem B2:WD X "list.extend" IY:=by
 intro pins s σ H x vs v us Q I rx rv h
 obtain⟨l,b,xs,zs,rfl,rfl,hH,hB,hz,q⟩:=h
 cases rx
 obtain⟨u,rfl,ru⟩:=rv.one
 cases ru
 obtain⟨z,its,n,r,hl,e⟩:=I.DX hH
 obtain⟨z2,its2,n2,r2,hl2,e2⟩:=I.DX hB
 have hsz:its.toArray.size+its2.toArray.size<=afN:=by rw[aT,aT];omega
 have wq:¬(!its.toArray.isEmpty&&qF (its.toArray.size+its2.toArray.size))=true:=by
  rw[qE hsz,Bool.and_false]
  exact cT
 refine call_meets F.slot_list_extend ⟨_,e,rfl⟩ F.entry_list_extend (F.args_list_extend_2 _ _)
  (AutoSeq1.list_extend_list_list_0 l its.toArray n b its2.toArray n2 wq (by rw[aT];omega) (by omega)) ⟨e,e2,?_⟩
 refine⟨.bO,_,I.M7 (its':=its++its2) hH e (by simp) (r.append r2) ?_,rfl,q⟩
 rw[bZ]
 omega
def WE:R2:=λx y H Q=>∃l k xs,x= .ref l/\y= .int k/\H l=some (.lst xs)/\-(2 ^ 63)<=k/\k < 2 ^ 63/\xs.length * k.toNat<=afN/\
 ∀p,H p=none->Q (.ref p) (upd H p (.lst (aH k.toNat xs).flatten))
theorem len_rep{α:Type}(xs:List α)(k:Nat):(aH k xs).flatten.length=k * xs.length:=by
 induction k with
 | zero=>simp
 | succ k ih=>rw[hX,qD,bZ,ih,As,Nat.add_comm]
theorem M8:fD X (afF .Mult) WE:=by
 intro pins s σ H x y v u Q I rx ry h
 obtain⟨l,k,xs,rfl,rfl,hH,h1,h2,hz,q⟩:=h
 cases rx
 obtain⟨t,rfl⟩:=ry
 obtain⟨z,its,n,r,hl,e⟩:=I.DX hH
 have hlen:its.toArray.size * k.toNat<=afN:=by rw[aT,<-hl];exact hz
 have hcap:¬its.toArray.size * k.toNat > (2 ^ 63 - 1) / 8:=by
  have:(afN:Nat)<=(2 ^ 63 - 1) / 8:=by decide
  omega
 have hfit:¬(!Builtin.List.listFitsIndex k)=true:=by
  rw[fitsIndex_both h1 h2]
  exact cT
 have wq:¬qF (its.toArray.size * k.toNat)=true:=by
  rw[qE hlen]
  exact cT
 have hnew:List.foldl (λx1 x2=>x1++x2) #[] (aH (if its.toArray.isEmpty=true then 0 else k.toNat) its.toArray)=(aH k.toNat its).flatten.toArray:=by
  have f0:∀m:Nat,List.foldl (λx1 x2=>x1++x2) #[] (aH m its.toArray)=(aH m its).flatten.toArray:=λm=>by
   have:=foldl_rep its m []
   rw[mZ] at this
   exact this
  rw[f0]
  cases its with
  | nil=>simp
  | cons a r'=>rw[if_neg (by simp)]
 refine wpAny_binaryOp_repeat_ref (T:="list") (U:="int") (by decide) ⟨_,e,rfl⟩ (λs'=>typeIs_int s' k t) noFill_list_mul F.fills_int_mul F.slot_int_rmul repeat_list F.slot_int_index.lookup
  (call_meets F.slot_int_rmul (typeIs_int s k t) F.entry_int_rmul (F.args_int_rmul_2 _ _) (int___rmul___int_list k t l its.toArray n)
   ⟨e,rfl,⟨_,e,rfl⟩,call_meets F.slot_list_mul ⟨_,e,rfl⟩ F.entry_list_mul (F.args_list_mul_2 _ _) (AutoListH.list___mul___list_int_3 l its.toArray n k t hfit hcap wq) ⟨e,?_⟩⟩)
 rw[hnew]
 exact⟨.ref _,_,I.IV (t':=s.toks) (r.rep k.toNat) (by rw[len_rep,Au];exact hz),rfl,q _ I.fresh⟩
end
section
variable {prog:afA} {w:afD} {A:afx} {E:afC->afB->Prop} {s:afB}
set_option maxRecDepth 100000 in
end
section
variable {X:Cx}
end
end L2
namespace Att
open PySem PySem.W PySem.Calls PyProof.Rows
theorem pM{P:Params}{h:Heap}:∀(ns:List Int)(vs:List afC),WellAll P h vs (ns.map WData.int)->IntsAre vs ns:=by
 intro ns
 induction ns with
 | nil=>
  intro vs w
  rw[m6] at w
  cases w
  exact .nil
 | cons n ns ih=>
  intro vs w
  rw[aK] at w
  cases w with
  | cons a b=>
   cases a
   exact .cons _ _ (ih _ b)
theorem B3{l:OpenLaw}{n:Nat}(hn:l.most=some n){P:Params}{h:Heap}{args:List WData}{vals:List afC}
  (hpre:l.row.toRowW.claim.pre args=true)(hwl:WellAll P h vals args) :
  ∃a vs ns,vals=[aN a]/\args=[WData.list (ns.map WData.int)]/\h.get? a=some { cls:=.type "list",data:=.seq vs.toArray }/\IntsAre vs ns/\ns.length<=n:=by
 have hsh:WShape.hasAll [] args [.list .int]=true:=(pre_splitW hpre).1
 have hc:l.pre.holds [] { args:=args }=true:=(pre_splitW hpre).2
 obtain⟨d,r,rfl,h1,h2⟩:=hasAllW_cons hsh
 obtain rfl:=hasAllW_nil h2
 obtain⟨xs,rfl,h3⟩:=hasW_list h1
 obtain⟨ns,rfl⟩:=items_int h3
 have hlen:ns.length<=n:=by
  unfold OpenLaw.pre at hc
  have h4:(WTm.not (.lt (.lit (.int (n:Int))) (.len (.arg 0)))).holds [] { args:=[.list (ns.map .int)] }=true:=by
   have h4:=(holds_andW hc).1
   rw[hn] at h4
   exact h4
  have h5:=condW_of h4 (w_not (w_lt w_lit (w_len_list (w_arg rfl))))
  rw[hU] at h5
  refine Nat.le_of_not_lt λq=>?_
  have q':(n:Int) < ((ns.length:Nat):Int):=by omega
  first
   | (rw[decide_eq_true q'] at h5;exact absurd h5 (by decide))
   | (simp at h5;omega)
 cases hwl with
 | cons w1 w2=>
  cases w2
  cases w1 with
  | list ho hall=>exact⟨_,_,ns,rfl,rfl,ho,pM ns _ hall,hlen⟩
theorem B4(l:OpenLaw)(args:List WData):l.row.toRowW.claim.post args (.bool true) args=true :=
 postW_of (r:=l.row.toRowW) (X:=(true == true))
  (show WShape.has [] (.bool true) .bool=true by first | rfl | decide | simp[WShape.has,WShape.arms,WShape.armsAll])
  (show(WTm.eq .res (.lit (.bool true))).value [] { args:=args,res:=some (.bool true),after:=args }=some (.bool (true == true)) from w_eq_bool (w_res rfl) w_lit) rfl
theorem wt{l:OpenLaw}{n:Nat}{q:afA}{loose:List Str}{XP:(Str->Option afC)->Heap->Prop}{YP:afD->Heap->Prop}{d:DefRec}
  (hn:l.most=some n)(hdf:d.params.defaults=[])
  (call:∀(w:afD)(s₀ s₁:afB)(mg mb:Str->Option afC)(fa:afw)(o:Obj)(pm cd doc:afC)(a:afw)(vs:List afC)(ns:List Int),
   Ground q loose [] XP w s₀ mg mb s₁.heap->YP w s₁.heap->
   s₁.heap.get? fa=some o->o.data= .func (docDef d.name d.params d.body d.scope pm cd doc)->s₁.heap.CodeRec cd d.name->mg d.name=some (.ref fa)->
   s₁.heap.get? a=some { cls:=.type "list",data:=.seq vs.toArray }->IntsAre vs ns->ns.length<=n->s₁.gens=#[]->
   afH (model l.prog w) callerA (.call (.ref fa) ⟨[.ref a],[]⟩) (λr s'=>r= .ok (.ret (.bool true))/\OldK s₁.heap s'.heap/\s'.os=s₁.os/\AllBare s'.gens) s₁) :
  WalkO q loose XP YP l.row.toRowW d [] (λf vs=>PySem.call f vs):=by
 intro w s₀ s₁ mg mb G Y fa o pm cd doc dV kV ho hd hcd hD hmg hg args vals as hpre hlay hrd hwl hlo
 obtain rfl:dV= .none:=Dflts.none hD hdf
 obtain rfl:kV= .none:=Dflts.noKw hD
 obtain⟨a,vs,ns,rfl,rfl,hobj,hints,hlen⟩:=B3 hn hpre hwl
 refine enter_call (codeAny_mono (call w s₀ s₁ mg mb fa o pm cd doc a vs ns G Y ho (fd_plain hd) hcd hmg hobj hints hlen hg) λr s' hq=>?_)
 obtain⟨rfl,h2,h3,h4⟩:=hq
 exact⟨.inl ⟨.bool true,.bool true,[],rfl,λ_=>rfl,.bool true,B4 l _,λ_=>⟨List.Pairwise.nil,λ_ hm=>(nomatch hm)⟩⟩,h2,h3,h4⟩
section
variable {prog:afA} {w:afD} {A:afx} {E:afC->afB->Prop} {s:afB} {K:Frag}
end
end Att
namespace L2
open PySem PySem.Spec PyProof.Rows
theorem tE:∀{vs:List afC}{ns:List Int},IntsAre vs ns->Vals (ns.map V.int) vs
 | _,_,.nil=> .nil
 | _,_,.cons n t h=> .cons ⟨t,rfl⟩ (tE h)
abbrev KOf{K:PySem.W.Frag}{h:Heap}(_:K.In h):PySem.W.Frag:=K
end L2
/- THE ab7 Vf (shape;LID,My.* are aaa):
   My.Adr: a structure of the addresses ab8 your aab names (classes,Q2);My.Txt K t: a structure (Prop) of the equations over K;
   My.M9:{K} {implicit addresses ..} (e1:nsIn K afM "law"=some (some (.ref f))) (e2:K.lookup f=some ⟨oc,od,.func (fnOf "law" "law" params body scope dV kV doc pm an cdv ct),sl⟩) (e3:codeIn K cdv "law"=true) ..:∃t,My.Txt K t
set_option maxRecDepth 100000 in
set_option maxHeartbeats 0 in
theorem PySem.Challenge.cw_LID_holds:PySem.Challenge.rw_LID.Holds:=by
 w_on;o_law;k_head;(case hw=>w_witness2)
 k_fill
 refine L2.walk_of (l:=PySem.Challenge.rw_LID) (n:=63) (k:=40) (x:="script") (CX:=fun w => ..) (sp:=fun _ => My.sp_law) rfl (by decide) rfl ⟨rfl,by decide,by decide⟩ (fun w h Y => PySem.W.kIn_of Y) ?F ?S ?C
 case F=>
  intro w mg fa h KX G hmg
  have T:∃t,My.Txt (L2.KOf KX) t:=by
   dsimp only[L2.KOf] -- K ab9 stand as «<heap const> w.params» for k_is
   refine' My.M9 ?e1 ?e2 ?e3 ..
   (case e1=>PySem.W.k_is) -- in the order: a name -> its address -> its object -> its parts
   (case e2=>PySem.W.k_is)
   ..
  obtain⟨t,T⟩:=T
  have e0:=hmg.symm.trans (PySem.W.mg_of KX G T.law)
  cases e0 -- fa is the aac own address
  exact⟨_,λs u=> .of_eq rfl,λbase kb nb=>My.M_ T kb nb⟩ -- if «.of_eq rfl» comes too early: refine' ⟨_,?b,λbase kb nb=>My.M_ T kb nb⟩;exact λs u=> .of_eq rfl
 case S=>exact λw H a ns hl hO hS=> ..
 case C=>exact ..
(the tactic k_is has no namespace: write k_is) -/
namespace L2
open PySem PySem.Spec PyProof.Rows
def defArgs(s:Stmt):Arguments:=match s with
 | .FunctionDef _ a _ _ _ _ _ _ _ _=>a
 | _=>{ posonlyargs:=[],args:=[],vararg:=none,kwonlyargs:=[],kw_defaults:=[],kwarg:=none,defaults:=[] }
def defBody(s:Stmt):List Stmt:=match s with
 | .FunctionDef _ _ b _ _ _ _ _ _ _=>b
 | _=>[]
def defScope(s:Stmt):Scope:=match s with
 | .FunctionDef _ _ _ _ _ _ sc _ _ _=>sc
 | _=>{ kind:=.function,names:=[],isGenerator:=false,isCoroutine:=false }
abbrev CX0:Du:=λ_ _ _ _ _ _=>False
abbrev E0:XK:=λ_ _ _=>False
structure K6(K:PySem.W.Frag)(x qual:Str)(st:Stmt)(f:afw)(fd:afy):Prop where
 ex:∃(oc:afC)(od:Option afw)(kV doc pm:afC)(an:Option afw)(cdv ct:afC)(osl:Array (Option afC)),
  fd=PySem.W.fnOf x qual (defArgs st) (defBody st) (defScope st) .none kV doc pm an cdv ct/\K.lookup f=some ⟨oc,od,.func fd,osl⟩/\PySem.W.codeIn K cdv qual=true
 kp:PySem.W.keepIn K (.ref f)=true
section
variable {P:afA} {w:afD} {K:PySem.W.Frag} {mg:Str->Option afC} {base:Heap}
theorem K6.binds{x qual:Str}{st:Stmt}{f:afw}{fd:afy}{ps:List Str}(F:K6 K x qual st f fd)
  (h:∀(kV doc pm:afC)(an:Option afw)(cdv ct:afC)(us:List afC),us.length=ps.length->bindArgs (PySem.W.fnOf x qual (defArgs st) (defBody st) (defScope st) .none kV doc pm an cdv ct) ⟨us,[]⟩=pure (ps.zip us)):Binds K fd ps []:=by
 obtain⟨oc,od,kV,doc,pm,an,cdv,ct,osl,rfl,lk,hcd⟩:=F.ex
 exact .all (h kV doc pm an cdv ct)
theorem M'{x qual:Str}{st:Stmt}{f:afw}{oc:afC}{od an:Option afw}{osl:Array (Option afC)}{kV doc pm cdv ct:afC}(l:K.lookup f=some ⟨oc,od,.func (PySem.W.fnOf x qual (defArgs st) (defBody st) (defScope st) .none kV doc pm an cdv ct),osl⟩)
  (c:PySem.W.codeIn K cdv qual=true)(k:PySem.W.keepIn K (.ref f)=true):K6 K x qual st f (PySem.W.fnOf x qual (defArgs st) (defBody st) (defScope st) .none kV doc pm an cdv ct):=⟨⟨oc,od,kV,doc,pm,an,cdv,ct,osl,rfl,l,c⟩,k⟩
end
section
variable {X:Cx}
end
section
variable {κ : Type} [DecidableEq κ]
def m7(kvs : List (κ×V))(k : κ) : Option V := (kvs.find? λkv=>decide (kv.1=k)).map (·.2)
def putK(kvs : List (κ×V))(k : κ)(v : V) : List (κ×V) :=
 if(kvs.any λkv=>decide (kv.1=k))=true then kvs.map (λkv=>if kv.1=k then(kv.1, v) else kv) else kvs++[(k, v)]
def qG(kvs : List (κ×V))(k : κ) : List (κ×V) := kvs.filter λkv=>decide (kv.1≠k)
theorem m8{p : κ×V}{r : List (κ×V)}{k : κ}(e : p.1=k) : m7 (p::r) k=some p.2 := by simp[m7, og, e]
theorem m_{p : κ×V}{r : List (κ×V)}{k : κ}(e : ¬p.1=k) : m7 (p::r) k=m7 r k := by simp[m7, og, e]
theorem wu(k : κ) : ∀kvs : List (κ×V), (kvs.any λkv=>decide (kv.1=k))=(m7 kvs k).isSome
 | []=>rfl
 | p::r=>by
  rw[iG]
  by_cases e : p.1=k
  ·simp only[m8 e, decide_eq_true e, Bool.true_or, Option.isSome_some]
  ·rw[m_ e, decide_eq_false e, Bool.false_or];exact wu k r
theorem pz(kvs : List (κ×V))(k : κ)(v : V) : (putK kvs k v).length<=kvs.length+1 := by
 unfold putK
 split
 ·rw[hU];omega
 ·rw[bZ, p_, Av];omega
theorem n5.tF{o : Option V}{u : Option afC}(r : n5 o u) : o.isSome=u.isSome := by
 cases o with
 | none=>cases u with
  | none=>rfl
  | some _=>exact(show False from r).elim
 | some _=>cases u with
  | none=>exact(show False from r).elim
  | some _=>rfl
theorem n5.getD{o : Option V}{u : Option afC}{d : V}{d' : afC}(r : n5 o u)(rd : RelV d d') : RelV (o.getD d) (u.getD d') := by
 cases o with
 | none=>cases u with
  | none=>exact rd
  | some _=>exact(show False from r).elim
 | some _=>cases u with
  | none=>exact(show False from r).elim
  | some _=>exact r
theorem KV.val{kvs : List (κ×V)}{vs : List (κ×afC)}(r : KV kvs vs)(k : κ) : n5 (m7 kvs k) (valueAt vs k) := by
 unfold KV at r
 induction r with
 | nil=>exact uQ
 | @cons p q ps qs h t ih=>
  obtain⟨h1, h2⟩ := h
  by_cases e : p.1=k
  ·have e' : q.1=k := h1.symm.trans e
   have b : valueAt (q::qs) k=some q.2 := by simp[valueAt, og, e']
   rw[m8 e, b];exact h2
  ·have e' : ¬q.1=k := λz=>e (h1.trans z)
   have b : valueAt (q::qs) k=valueAt qs k := by simp[valueAt, og, e']
   rw[m_ e, b];exact ih
theorem KV.any{kvs : List (κ×V)}{vs : List (κ×afC)}(r : KV kvs vs)(k : κ) : (kvs.any λkv=>decide (kv.1=k))=vs.any λkv=>decide (kv.1=k) := by
 unfold KV at r
 induction r with
 | nil=>rfl
 | cons h t ih=>rw[iG, iG, ih, h.1]
theorem KV.repl{kvs : List (κ×V)}{vs : List (κ×afC)}(r : KV kvs vs)(k : κ){y : V}{u : afC}(ry : RelV y u) :
  KV (kvs.map λkv=>if kv.1=k then(kv.1, y) else kv) (vs.map λkv=>if kv.1=k then(kv.1, u) else kv) := by
 unfold KV at r ⊢
 induction r with
 | nil=>exact .nil
 | @cons p q ps qs h t ih=>
  rw[aK, aK]
  refine .cons ?_ ih
  obtain⟨h1, h2⟩ := h
  by_cases e : p.1=k
  ·rw[if_pos e, if_pos (h1.symm.trans e)];exact⟨h1, ry⟩
  ·rw[if_neg e, if_neg (λz=>e (h1.trans z))];exact⟨h1, h2⟩
theorem KV.put{kvs : List (κ×V)}{vs : List (κ×afC)}(r : KV kvs vs)(k : κ){y : V}{u : afC}(ry : RelV y u) : KV (putK kvs k y) (stored vs k u) := by
 unfold putK stored
 rw[r.any k]
 by_cases e : (vs.any λkv=>decide (kv.1=k))=true
 ·rw[if_pos e, if_pos e];exact r.repl k ry
 ·rw[if_neg e, if_neg e];exact Paired.snoc r ⟨rfl, ry⟩
theorem KV.length{kvs : List (κ×V)}{vs : List (κ×afC)}(r : KV kvs vs) : kvs.length=vs.length := Paired.length r
end
theorem wx{P : afA}{w : afD}{k : Key}{u : afC}(r : RelV (kV k) u) : (bo P w).is k u=true := by
 cases k with
 | inl i=>obtain⟨t, e⟩ := (show ∃t, u=pY i t from r);subst e;exact wd P w i t
 | inr x=>obtain⟨t, e⟩ := (show ∃t, u=pZ x t from r);subst e;exact we P w x t
theorem tG{P : afA}{w : afD} : ∀{ks : List Key}{us : List afC}, Vals (ks.map kV) us->ItemsAre (bo P w) ks us
 | [], _, r=>by rw[m6] at r;cases r;exact .nil
 | k::ks, _, r=>by
  rw[aK] at r
  cases r with
  | cons h t=>exact .cons (wx h) (tG t)
abbrev KT(H : Hp) : List (List Key×V)->List (List Key×afw×afC)->Prop := Paired λp q=>p.1=q.1/\H q.2.1=some (.tup (p.1.map kV))/\RelV p.2 q.2.2
theorem KT.val{H : Hp}{kvs : List (List Key×V)}{xs : List (List Key×afw×afC)}(r : KT H kvs xs)(k : List Key) : n5 (m7 kvs k) ((atKey xs k).map (·.2)) := by
 induction r with
 | nil=>exact uQ
 | @cons p q ps qs h t ih=>
  obtain⟨h1, _, h2⟩ := h
  by_cases e : p.1=k
  ·have e' : q.1=k := h1.symm.trans e
   have b : atKey (q::qs) k=some q.2 := by simp[atKey, og, e']
   rw[m8 e, b];exact h2
  ·have e' : ¬q.1=k := λz=>e (h1.trans z)
   have b : atKey (q::qs) k=atKey qs k := by simp[atKey, og, e']
   rw[m_ e, b];exact ih
theorem KT.repl{H : Hp}{kvs : List (List Key×V)}{xs : List (List Key×afw×afC)}(r : KT H kvs xs)(k : List Key){y : V}{u : afC}(ry : RelV y u) :
  KT H (kvs.map λkv=>if kv.1=k then(kv.1, y) else kv) (xs.map (putAt k u)) := by
 induction r with
 | nil=>exact .nil
 | @cons p q ps qs h t ih=>
  rw[aK, aK]
  refine .cons ?_ ih
  obtain⟨h1, h2, h3⟩ := h
  unfold putAt
  by_cases e : p.1=k
  ·rw[if_pos e, if_pos (h1.symm.trans e)];exact⟨h1, h2, ry⟩
  ·rw[if_neg e, if_neg (λz=>e (h1.trans z))];exact⟨h1, h2, h3⟩
theorem KT.put{H : Hp}{kvs : List (List Key×V)}{xs : List (List Key×afw×afC)}(r : KT H kvs xs)(k : List Key){b : afw}{y : V}{u : afC}(hb : H b=some (.tup (k.map kV)))(ry : RelV y u) :
  KT H (putK kvs k y) (storedH xs k b u) := by
 have e : (kvs.any λkv=>decide (kv.1=k))=(atKey xs k).isSome := by
  rw[wu, (r.val k).tF, Option.isSome_map]
 unfold putK storedH
 rw[e]
 by_cases q : (atKey xs k).isSome=true
 ·rw[if_pos q, if_pos q];exact r.repl k ry
 ·rw[if_neg q, if_neg q];exact Paired.snoc r ⟨rfl, hb, ry⟩
theorem KT.keeps{H H' : Hp}{kvs : List (List Key×V)}{xs : List (List Key×afw×afC)}(r : KT H kvs xs)(ht : ∀b ys, H b=some (.tup ys)->H' b=some (.tup ys)) : KT H' kvs xs :=
 Paired.Mj r λ_ _ z=>⟨z.1, ht _ _ z.2.1, z.2.2⟩
section
variable {P : afA} {w : afD} {H : Hp} {h : Heap} {a : afw}
theorem DY{u : HO}(ok : jI P w H h)(e : Rd H a u) : dc P w H h a u := e.ok ok
theorem tH{kvs : List (Key×V)}(ok : jI P w H h)(e : Rd H a (.dK kvs)) : kvs.length<=afN/\(a == sysModules)=false/\∃vs, KV kvs vs/\h.DictOf (bo P w) a vs :=
 show dc P w H h a (.dK kvs) from DY ok e
theorem Sj{kvs : List (Key×V)}(ok : jI P w H h)(e : H a=some (.dK kvs)) : kvs.length<=afN/\(a == sysModules)=false/\∃vs, KV kvs vs/\h.DictOf (bo P w) a vs := tH ok (.inl e)
theorem oh{ks : List Key}(ok : jI P w H h)(e : H a=some (.tup (ks.map kV))) : (tupleKind (bo P w)).is h ks a := by
 obtain⟨_, its, r, ⟨o, h1, h2, n, h3⟩, _⟩ := (show dc P w H h a (.tup (ks.map kV)) from ok a _ e)
 exact⟨o, its.toArray, n, h1, h2, h3, by simpa using tG r⟩
theorem pA{kvs : List (List Key×V)}(ok : jI P w H h)(e : Rd H a (.dT kvs)) : kvs.length<=afN/\(a == sysModules)=false/\
  ∃xs, KT H kvs xs/\h.DictOfH (tupleKind (bo P w)) a xs := by
 obtain⟨z, y, xs, r, o, es, ep, h1, h2, h3, h4, h5⟩ := (show dc P w H h a (.dT kvs) from DY ok e)
 refine⟨z, y, xs, r, o, es, ep, h1, h2, h3, h4, λx hx=>?_, h5⟩
 have all : ∀{l : List (List Key×V)}{m : List (List Key×afw×afC)}, KT H l m->∀x∈m, (tupleKind (bo P w)).is h x.1 x.2.1 := by
  intro l m q
  induction q with
  | nil=>intro x hx;exact nomatch hx
  | @cons p q ps qs hq t ih=>
   intro x hx
   rcases List.mem_cons.mp hx with e | hx
   ·subst e
    exact oh ok (by rw[<-hq.1];exact hq.2.1)
   ·exact ih x hx
 exact all r x hx
theorem Sk{kvs : List (List Key×V)}(ok : jI P w H h)(e : H a=some (.dT kvs)) : kvs.length<=afN/\(a == sysModules)=false/\
  ∃xs, KT H kvs xs/\h.DictOfH (tupleKind (bo P w)) a xs := pA ok (.inl e)
end
def ma(H : Hp)(a : afw)(y : V)(r : Option V) : Prop :=
 (∃kvs k, Rd H a (.dK kvs)/\y=kV k/\r=m7 kvs k)\/∃kvs k b, Rd H a (.dT kvs)/\y= .ref b/\H b=some (.tup (k.map kV))/\r=m7 kvs k
def uR(H : Hp)(a : afw)(y v : V)(H' : Hp) : Prop :=
 (∃kvs k, H a=some (.dK kvs)/\y=kV k/\kvs.length < afN/\H'=upd H a (.dK (putK kvs k v)))\/
 ∃kvs k b, H a=some (.dT kvs)/\y= .ref b/\H b=some (.tup (k.map kV))/\kvs.length < afN/\H'=upd H a (.dT (putK kvs k v))
theorem ma.k{H : Hp}{a : afw}{kvs : List (Key×V)}{k : Key}(e : H a=some (.dK kvs)) : ma H a (kV k) (m7 kvs k) := .inl ⟨kvs, k, .inl e, rfl, rfl⟩
theorem ma.t{H : Hp}{a b : afw}{kvs : List (List Key×V)}{k : List Key}(e : H a=some (.dT kvs))(eb : H b=some (.tup (k.map kV))) : ma H a (.ref b) (m7 kvs k) := .inr ⟨kvs, k, b, .inl e, rfl, eb, rfl⟩
theorem uR.k{H : Hp}{a : afw}{kvs : List (Key×V)}{k : Key}{v : V}(e : H a=some (.dK kvs))(hl : kvs.length < afN) : uR H a (kV k) v (upd H a (.dK (putK kvs k v))) := .inl ⟨kvs, k, e, rfl, hl, rfl⟩
theorem uR.t{H : Hp}{a b : afw}{kvs : List (List Key×V)}{k : List Key}{v : V}(e : H a=some (.dT kvs))(eb : H b=some (.tup (k.map kV)))(hl : kvs.length < afN) :
  uR H a (.ref b) v (upd H a (.dT (putK kvs k v))) := .inr ⟨kvs, k, b, e, rfl, eb, hl, rfl⟩
section
variable {X : Cx} {pins : List (afw×Obj)} {σ : St} {H : Hp} {s : afB} {a : afw} {y v : V} {u r : afC} {o : Option V} {A : afx} {E : afC->afB->Prop}
theorem Inv.big(I : Inv X pins σ H s) : sysModules < s.heap.objs.size := by
 have h : afM < s.heap.objs.size := (I.mod.glob.keeps I.bk).lt
 exact Nat.lt_trans (by decide) h
theorem B5{Q : afC->afB->Prop}(hu : A.units+1 < cLine)(I : Inv X pins σ H s)(g : ma H a y (some v))(ry : RelV y u)(h : ∀w' s', Inv X pins σ H s'->RelV v w'->Q w' s') :
  afP (model X.prog X.w) A (getItem (.ref a) u) Q E s := by
 rcases g with ⟨kvs, k, e, ey, l⟩ | ⟨kvs, k, b, e, ey, eb, l⟩
 ·subst ey
  obtain⟨z, hd, vs, rel, dd⟩ := tH I.hok e
  obtain⟨w', hw, rw'⟩ := n5.some_of (v := v) (o := valueAt vs k) (by rw[l];exact rel.val k)
  exact wpAny_getItem_of (wx ry) dd.mapOf hw (h w' _ (I.tok _) rw')
 ·subst ey
  cases (show u=aN b from ry)
  obtain⟨z, hd, xs, rel, dd⟩ := pA I.hok e
  obtain⟨w', hw, rw'⟩ := n5.some_of (v := v) (o := (atKey xs k).map (·.2)) (by rw[l];exact rel.val k)
  obtain⟨p, hp, hp2⟩ := Option.map_eq_some_iff.mp hw
  refine wpAny_getItem_heap (tupleKind_room_in1 hu) (oh I.hok eb) dd hp ?_
  rw[hp2]
  exact h w' _ (I.tok _) rw'
theorem Aw{h' : Heap}{t' : Nat}{ob : HO}(I : Inv X pins σ H s)(mu : RA (H a))(hs : jW a s.heap h')(he : ∃q, h'.get? a=some q)(new : dc X.prog X.w (upd H a ob) h' a ob) :
  Inv X pins σ (upd H a ob) { s with heap := h', toks := t' } :=
 I.write (x := a) (e := a) mu (.inl rfl) (λb q hb z=>(hs.2 b hb).trans z) he new
theorem Na{P : afA}{w : afD}{H' : Hp}{h' : Heap}{kvs : List (Key×V)}{vs : List (Key×afC)}(z : kvs.length<=afN)(hd : (a == sysModules)=false)(rel : KV kvs vs)(dd : h'.DictOf (bo P w) a vs) :
  dc P w H' h' a (.dK kvs) :=⟨z, hd, vs, rel, dd⟩
theorem B6{H' : Hp}{Q : Unit->afB->Prop}(hu : A.units+1 < cLine)(I : Inv X pins σ H s)(g : uR H a y v H')(ry : RelV y u)(rv : RelV v r)(h : ∀s', Inv X pins σ H' s'->Q () s') :
  afP (model X.prog X.w) A (setItem (.ref a) u r) Q E s := by
 rcases g with ⟨kvs, k, e, ey, l, eH⟩ | ⟨kvs, k, b, e, ey, eb, l, eH⟩
 ·subst ey eH
  obtain⟨z, hd, vs, rel, dd⟩ := Sj I.hok e
  have hz : vs.length<=afN := by rw[<-rel.length];exact z
  have hl : (putK kvs k v).length<=afN := by have := pz kvs k v;omega
  refine wpAny_setItem_pairs (hsz := hz) (wx ry) dd λh' Q3 hs=>h _ ?_
  have he : ∃q, h'.get? a=some q := let ⟨q, _, _, hq, _⟩ := Q3;⟨q, hq⟩
  exact Aw I (by rw[e];exact uQ) hs he (Na hl hd (rel.put k rv) Q3)
 ·subst ey eH
  cases (show u=aN b from ry)
  obtain⟨z, hd, xs, rel, dd⟩ := Sk I.hok e
  have hz : xs.length<=afN := by rw[<-Paired.length rel];exact z
  have hl : (putK kvs k v).length<=afN := by have := pz kvs k v;omega
  refine wpAny_setItem_heap (hsz := hz) (tupleKind_room_in1 hu) (oh I.hok eb) dd λh' Q3 hs=>h _ ?_
  obtain⟨q, es, ep, hq, h2, h3, h4, _, h5⟩ := Q3
  refine Aw I (by rw[e];exact uQ) hs ⟨q, hq⟩ ⟨hl, hd, _, (rel.put k eb rv).keeps λc ys ec=>?_, q, es, ep, hq, h2, h3, h4, h5⟩
  rw[aA (Rz ec e (λz=>nomatch z))]
  exact ec
end
section
variable {X : Cx} {pins : List (afw×Obj)} {σ : St} {H : Hp} {s : afB} {a : afw} {kvs : List (Key×V)} {k : Key} {u : afC} {A : afx} {E : afC->afB->Prop}
end
def DZ(i : Expr) : Prop := ∀ov iv, subscripted i false ov iv=operate [ov, iv] (getItem ov iv)
theorem Ax{prog : afA}{w : afD}{A : afx}{E : afC->afB->Prop}{s : afB}{env : Env}{value slice : Expr}{pos : Pos}{T id : String}{Q : afC->afB->Prop}
  (hl : typeLookup (.type T) "__getitem__"=pure (some (.builtin id)))(hs : DZ slice)
  (h : afP (model prog w) A (eval value env) (λo s₁=>afP (model prog w) A (eval slice env) (λi s₂=>s₂.TypeIs o T/\afP (model prog w) A (getItem o i) Q E s₂) E s₁) E s) :
  afP (model prog w) A (eval (.Subscript value slice pos) env) Q E s := by
 refine Subscript_ (afT h (λo s₁ h₁=>afT h₁ (λi s₂ h₂=>?_) λ_ _ x=>x) λ_ _ x=>x)
 obtain⟨hT, h₂⟩ := h₂
 unfold subscriptTail
 refine afQ ?_
 rw[getitemInPython_of_ne hT.not_modules]
 refine afQ (wpAny_specialOf hT hl ?_)
 have fin : afP (model prog w) A (subscripted slice false o i) (λr s₃=>afP (model prog w) A (letTemporaryGo value o r >>= λ_=>pure r) Q E s₃) E s₂ := by
  rw[hs o i]
  exact wpAny_operating (afT h₂ (λr s₃ h₃=>afQ (wpAny_letTemporaryGo (afW h₃))) λ_ _ x=>x)
 first
  | exact afW (afQ fin)
  | exact afQ (afW (afQ fin))
  | exact afQ fin
theorem wA{X : Cx}{pins : List (afw×Obj)}{σ : St}{H : Hp}{s : afB}{a : afw}{y : V}{o : Option V}(I : Inv X pins σ H s)(g : ma H a y o) : s.TypeIs (.ref a) "dict" := by
 rcases g with ⟨kvs, k, e, _, _⟩ | ⟨kvs, k, b, e, _, _, _⟩
 ·obtain⟨_, _, vs, _, dd⟩ := tH I.hok e
  exact dd.typeIs
 ·obtain⟨_, _, xs, _, dd⟩ := pA I.hok e
  exact dd.typeIs
def Sl(td ty : TE) : TE := λσ H Q=>td σ H λx H1=>ty σ H1 λy H2=>∃a v, x= .ref a/\ma H2 a y (some v)/\Q v H2
def Sn(td ty tv : TE) : TS := λD σ H=>tv σ H λv H1=>td σ H1 λx H2=>ty σ H2 λy H3=>∃a H4, x= .ref a/\uR H3 a y v H4/\D.nx σ H4
section
variable {X : Cx} {o i e value : Expr} {pos pos' tpos : Pos} {td ty tv : TE}
theorem IZ(hu : X.A.units+1 < cLine)(ho : PE X o td)(hi : PE X i ty)(hs : DZ i) : PE X (.Subscript o i pos) (Sl td ty) := by
 intro pins s σ H Q I h
 refine Ax PySem.F.slot_dict_getitem.lookup hs (bp (ho pins s σ H _ I h) λu s1 ⟨x, H1, I1, rx, q1⟩=>bp (hi pins s1 σ H1 _ I1 q1) λiv s2 ⟨y, H2, I2, ry, a, v, ex, g, q2⟩=>?_)
 subst ex
 obtain rfl : u=aN a := rx
 exact⟨wA I2 g, B5 hu I2 g ry λw' s3 I3 rw'=>⟨v, H2, I3, rw', q2⟩⟩
theorem I_(hu : X.A.units+1 < cLine)(ho : PE X o td)(hi : PE X i ty)(hv : PE X value tv)(hs : swapsWith value (some (.Subscript o i pos')) pos.line X.env=pure false) :
  PS X (.Assign [.Subscript o i pos'] value pos) (Sn td ty tv) := by
 intro pins s σ H D I h
 refine wpAny_Assign_Subscript (bp (hv pins s σ H _ I h) λr s1 ⟨v, H1, I1, rv, q1⟩=>bp (ho pins s1 σ H1 _ I1 q1) λu s2 ⟨x, H2, I2, rx, q2⟩=>bp (hi pins s2 σ H2 _ I2 q2) λiv s3 ⟨y, H3, I3, ry, a, H4, ex, g, q3⟩=>?_) hs
 subst ex
 obtain rfl : u=aN a := rx
 exact B6 hu I3 g ry rv λs4 I4=>⟨σ, H4, I4, q3⟩
end
theorem D0{P : afA}{w : afD}{H : Hp}(h : Heap)(hb : sysModules < h.objs.size) : dc P w H (h.push { cls := .type "dict", data := .dict #[] }) h.objs.size (.dK []) :=
 ⟨bG _, beq_eq_false_iff_ne.mpr (ay (aZ hb)), [], .nil, Heap.DictOf.new h⟩
theorem D3{P : afA}{w : afD}{H : Hp}(h : Heap)(hb : sysModules < h.objs.size) : dc P w H (h.push { cls := .type "dict", data := .dict #[] }) h.objs.size (.dT []) :=
 ⟨bG _, beq_eq_false_iff_ne.mpr (ay (aZ hb)), [], .nil, _, #[], 0, br _ rfl, ⟨rfl, rfl, rfl⟩, rfl, rfl, hZ⟩
def Nb : TE := λ_ H Q=>∀p, H p=none->Q (.ref p) (upd H p (.dK []))
def Nc : TE := λ_ H Q=>∀p, H p=none->Q (.ref p) (upd H p (.dT []))
section
variable {X : Cx} {pos : Pos}
theorem D4 : PE X (.Dict [] [] pos) Nb := λpins s σ H Q I h=>
 wpAny_Dict_empty ⟨.ref s.heap.objs.size, _, I.laid (a := s.heap.objs.size) (o := .dK []) (t' := s.toks) (λ_ _ q=>aF _ q) (au _) (D0 s.heap I.big), rfl, h _ (I.hok.fresh (au _))⟩
theorem D5 : PE X (.Dict [] [] pos) Nc := λpins s σ H Q I h=>
 wpAny_Dict_empty ⟨.ref s.heap.objs.size, _, I.laid (a := s.heap.objs.size) (o := .dT []) (t' := s.toks) (λ_ _ q=>aF _ q) (au _) (D3 s.heap I.big), rfl, h _ (I.hok.fresh (au _))⟩
end
def Nd(kvs more : List (Key×V)) : List (Key×V) := more.foldl (λacc kv=>putK acc kv.1 kv.2) kvs
structure M1(X : Cx)(o : Expr)(m : Str)(apos : Pos)(e : Expr)(cpos : Pos) : Prop where
 base : attributeBase o m X.env (eval o X.env)=eval o X.env
 few : ((backTo cpos (afO [e] X.env)).all (λx=> !x.1)&&(backToKw cpos (keywordEach [] X.env)).all (λx=>x.1.isSome)
  &&decide (([e] : List Expr).length+([] : List Keyword).length+(if([] : List Keyword).isEmpty then 0 else 1) < 30))=true
 line : (apos.endLine == cpos.line)=true
 trees : backTo cpos (afO [e] X.env)=[(false, eval e X.env)]
structure M2(X : Cx)(o : Expr)(m : Str)(apos : Pos)(e f : Expr)(cpos : Pos) : Prop where
 base : attributeBase o m X.env (eval o X.env)=eval o X.env
 few : ((backTo cpos (afO [e, f] X.env)).all (λx=> !x.1)&&(backToKw cpos (keywordEach [] X.env)).all (λx=>x.1.isSome)
  &&decide (([e, f] : List Expr).length+([] : List Keyword).length+(if([] : List Keyword).isEmpty then 0 else 1) < 30))=true
 line : (apos.endLine == cpos.line)=true
 trees : backTo cpos (afO [e, f] X.env)=[(false, eval e X.env), (false, eval f X.env)]
def Vg(H : Hp)(a : afw) : Prop := (∃kvs, Rd H a (.dK kvs))\/∃kvs, Rd H a (.dT kvs)
theorem D6{X : Cx}{pins : List (afw×Obj)}{σ : St}{H : Hp}{s : afB}{a : afw}(I : Inv X pins σ H s)(d : Vg H a) :
  s.TypeIs (.ref a) "dict"/\(∀b, aN a= .ref b->∃ob, s.heap.get? b=some ob/\ob.dict=none)/\(a == sysModules)=false := by
 rcases d with ⟨kvs, e⟩ | ⟨kvs, e⟩
 ·obtain⟨_, hd, vs, _, dd⟩ := tH I.hok e
  refine⟨dd.typeIs, λb q=>?_, hd⟩
  cases q
  obtain⟨ob, _, _, h1, h2, _⟩ := dd
  exact⟨ob, h1, h2.2.1⟩
 ·obtain⟨_, hd, xs, _, dd⟩ := pA I.hok e
  refine⟨dd.typeIs, λb q=>?_, hd⟩
  cases q
  obtain⟨ob, _, _, h1, h2, _⟩ := dd
  exact⟨ob, h1, h2.2.1⟩
section
variable {X : Cx} {pins : List (afw×Obj)} {σ : St} {H : Hp} {s : afB} {a : afw} {y d : V} {u r : afC} {o : Option V} {A : afx} {E : afC->afB->Prop}
theorem Nf{Q : afC->afB->Prop}(hu : A.units+1 < cLine)(I : Inv X pins σ H s)(g : ma H a y o)(ry : RelV y u)(h : ∀w' s', Inv X pins σ H s'->RelV (o.getD .bO) w'->Q w' s') :
  afP (model X.prog X.w) A (call (.builtin "dict.get") [.ref a, u]) Q E s := by
 rcases g with ⟨kvs, k, e, ey, l⟩ | ⟨kvs, k, b, e, ey, eb, l⟩
 ·subst ey
  obtain⟨z, hd, vs, rel, dd⟩ := tH I.hok e
  refine call_meetsIn PySem.F.slot_dict_get dd.typeIs PySem.F.entry_dict_get (PySem.F.args_dict_get_2 _ _) (meets_dict_get (bo X.prog X.w) a (wx ry) hd) ⟨_, dd.mapOf, h _ _ (I.tok _) ?_⟩
  rw[l]
  exact(rel.val k).getD rfl
 ·subst ey
  cases (show u=aN b from ry)
  obtain⟨z, hd, xs, rel, dd⟩ := pA I.hok e
  refine call_meetsIn PySem.F.slot_dict_get dd.typeIs PySem.F.entry_dict_get (PySem.F.args_dict_get_2 _ _) (meetsH_dict_get (tupleKind (bo X.prog X.w)) a b hd) ⟨tupleKind_room_in1 hu, k, xs, oh I.hok eb, dd, h _ _ (I.tok _) ?_⟩
  rw[l]
  exact(rel.val k).getD rfl
theorem Ng{Q : afC->afB->Prop}(hu : A.units+1 < cLine)(I : Inv X pins σ H s)(g : ma H a y o)(ry : RelV y u)(rd : RelV d r)(h : ∀w' s', Inv X pins σ H s'->RelV (o.getD d) w'->Q w' s') :
  afP (model X.prog X.w) A (call (.builtin "dict.get") [.ref a, u, r]) Q E s := by
 rcases g with ⟨kvs, k, e, ey, l⟩ | ⟨kvs, k, b, e, ey, eb, l⟩
 ·subst ey
  obtain⟨z, hd, vs, rel, dd⟩ := tH I.hok e
  refine call_meetsIn PySem.F.slot_dict_get dd.typeIs PySem.F.entry_dict_get (PySem.F.args_dict_get_3 _ _ _) (meets_dict_get_default (bo X.prog X.w) a (wx ry) hd r) ⟨_, dd.mapOf, h _ _ (I.tok _) ?_⟩
  rw[l]
  exact(rel.val k).getD rd
 ·subst ey
  cases (show u=aN b from ry)
  obtain⟨z, hd, xs, rel, dd⟩ := pA I.hok e
  refine call_meetsIn PySem.F.slot_dict_get dd.typeIs PySem.F.entry_dict_get (PySem.F.args_dict_get_3 _ _ _) (meetsH_dict_get_default (tupleKind (bo X.prog X.w)) a b hd r) ⟨tupleKind_room_in1 hu, k, xs, oh I.hok eb, dd, h _ _ (I.tok _) ?_⟩
  rw[l]
  exact(rel.val k).getD rd
end
def Nh(td ty : TE) : TE := λσ H Q=>td σ H λx H1=>∃a, x= .ref a/\Vg H1 a/\ty σ H1 λy H2=>∃o, ma H2 a y o/\Q (o.getD .bO) H2
def Ni(td ty tx : TE) : TE := λσ H Q=>td σ H λx H1=>∃a, x= .ref a/\Vg H1 a/\ty σ H1 λy H2=>tx σ H2 λz H3=>∃o, ma H3 a y o/\Q (o.getD z) H3
section
variable {X : Cx} {o e f : Expr} {apos cpos : Pos} {td ty tx : TE}
theorem D7(hu : X.A.units+1 < cLine)(ho : PE X o td)(he : PE X e ty)(m : M1 X o "get" apos e cpos) : PE X (.Call (.Attribute o "get" apos) [e] [] cpos) (Nh td ty) := by
 intro pins s σ H Q I h
 refine wpAny_Call_method m.base m.few m.line PySem.F.plainAttrs_dict PySem.F.slot_dict_get PySem.F.type_dict_get (bp (ho pins s σ H _ I h) λu s1 ⟨x, H1, I1, rx, a, ex, d, q1⟩=>?_)
 subst ex
 obtain rfl : u=aN a := rx
 obtain⟨t1, t2, _⟩ := D6 I1 d
 refine⟨t1, t2, ?_⟩
 rw[m.trees]
 refine yv rfl (uP (l_ (bp (he pins s1 σ H1 _ I1 q1) λiv s2 ⟨y, H2, I2, ry, ov, g, q2⟩=>uE ?_)))
 exact Nf hu I2 g ry λw' s3 I3 rw'=>⟨_, H2, I3, rw', q2⟩
theorem D8(hu : X.A.units+1 < cLine)(ho : PE X o td)(he : PE X e ty)(hf : PE X f tx)(m : M2 X o "get" apos e f cpos) : PE X (.Call (.Attribute o "get" apos) [e, f] [] cpos) (Ni td ty tx) := by
 intro pins s σ H Q I h
 refine wpAny_Call_method m.base m.few m.line PySem.F.plainAttrs_dict PySem.F.slot_dict_get PySem.F.type_dict_get (bp (ho pins s σ H _ I h) λu s1 ⟨x, H1, I1, rx, a, ex, d, q1⟩=>?_)
 subst ex
 obtain rfl : u=aN a := rx
 obtain⟨t1, t2, _⟩ := D6 I1 d
 refine⟨t1, t2, ?_⟩
 rw[m.trees]
 refine yv rfl (uP (l_ (bp (he pins s1 σ H1 _ I1 q1) λiv s2 ⟨y, H2, I2, ry, q2⟩=>
  l_ (bp (hf pins s2 σ H2 _ I2 q2) λfv s3 ⟨z, H3, I3, rz, ov, g, q3⟩=>uE ?_))))
 exact Ng hu I3 g ry rz λw' s4 I4 rw'=>⟨_, H3, I4, rw', q3⟩
end
section
variable {X : Cx} {pins : List (afw×Obj)} {σ : St} {H : Hp} {s : afB} {a : afw} {kvs : List (Key×V)} {A : afx} {E : afC->afB->Prop}
end
section
variable {X : Cx} {pins : List (afw×Obj)} {σ : St} {H : Hp} {s : afB} {a : afw} {y : V} {u : afC} {A : afx} {E : afC->afB->Prop}
end
end L2
namespace Att
open PySem PySem.W PySem.Calls PyProof.Rows
end Att
namespace L2
open PySem PySem.Spec PyProof.Rows
section
variable {X : Cx}
end
section
variable {κ : Type} [DecidableEq κ]
theorem B7{p : κ×V}{r : List (κ×V)}{k : κ}(e : p.1=k) : qG (p::r) k=qG r k := by
 unfold qG
 rw[uS, if_neg (by simp[e])]
theorem B8{p : κ×V}{r : List (κ×V)}{k : κ}(e : ¬p.1=k) : qG (p::r) k=p::qG r k := by
 unfold qG
 rw[uS, if_pos (by simp[e])]
end
end L2
set_option maxHeartbeats 4000000
namespace J
open PySem PySem.Spec PyProof.Rows L2
def Vh(h base:Heap)(e:afw)(cls a0 fl:afC):Prop :=
 ∃ox us T ot ws,h.get? e=some ox/\(ox.cls=cls/\us[2]? =some bY)/\ox.data= .fields us/\us[1]? =some (.ref T)/\base.get? T=none/\T≠e/\h.get? T=some ot/\ot.data= .fields ws/\ws[3]? =some fl
abbrev Ja(base:Heap)(l:List Env)(e:afw)(cls a0 fl:afC)(h:Heap):Prop:=base.StaysIn h/\base.get? e=none/\h.FunFrames base l/\Vh h base e cls a0 fl
def D9(base:Heap)(l:List Env)(e:afw)(cls a0:afC)(L:afw)(h:Heap):Prop:=Ja base l e cls a0 (rawInt L) h
def uT(base:Heap)(l:List Env)(e:afw)(cls a0:afC)(h:Heap):Prop:=Ja base l e cls a0 .none h
theorem uT.first{base h:Heap}{l:List Env}{e:afw}{cls a0:afC}(x:uT base l e cls a0 h):∃ox us,h.get? e=some ox/\ox.cls=cls/\ox.data= .fields us/\us[2]? =some bY :=
 let ⟨_,_,_,ox,us,_,_,_,g1,g2,g3,_⟩:=x;⟨ox,us,g1,g2.1,g3,g2.2⟩
section
variable {M:Model} {A:afx} {E:afC->afB->Prop} {s:afB} {base:Heap} {env:Env} {outer l:List Env} {L e:afw} {cls a0 nt:afC} {Q:Unit->afB->Prop}
theorem yw{h h1:Heap}{S:List afw}{ox ob:Obj}{us ws:Array afC}(so:Heap.SlotsOnly S h h1)(hS:S=l.filterMap (·.frame))(fs:h.FunFrames base l)(g1:h.get? e=some ox)(g3:ox.data= .fields us)(st:base.StaysIn h)(ne:base.get? e=none)(sz:1 < us.size)(g2:us[2]? =some bY)
  (d:ob.data= .fields ws)(w3:ws[3]? =some nt)(nf:ob.isFreed=false) :
  Ja base l e ox.cls a0 nt ((h1.push ob).update e (ng (·.setIfInBounds 1 (.ref h1.objs.size))))/\h.UpToSlots ((h1.push ob).update e (ng (·.setIfInBounds 1 (.ref h1.objs.size)))):=by
 have nS:e∉S:=λz=>by
  rw[hS] at z
  obtain⟨_,o2,q2,d2⟩:=fs.mem z
  rw[g1] at q2
  cases q2
  exact d2 us g3
 have q1:h1.get? e=some ox:=(so.2.1 e nS).trans g1
 have lt:e≠h1.objs.size:=aZ (aC q1)
 have oth:∀b o,b≠e->h1.get? b=some o->((h1.push ob).update e (ng (·.setIfInBounds 1 (.ref h1.objs.size)))).get? b=some o:=λb o n q=>(n9 _ _ (ay n)).trans (aF _ q)
 have up:h.UpToSlots ((h1.push ob).update e (ng (·.setIfInBounds 1 (.ref h1.objs.size)))):=λb o q n=>by
  obtain⟨sl,q2⟩:=so.2.2 b o q
  exact⟨sl,oth b _ (λz=>by rw[z,g1] at q;cases q;exact n us g3) q2⟩
 have stay:base.StaysIn h1:=λb o q=>(so.2.1 b λz=>by
  rw[hS] at z
  rw[(fs.mem z).1] at q
  cases q).trans (st b o q)
 have fresh:base.get? h1.objs.size=none:=by
  cases z:base.get? h1.objs.size with
  | none=>rfl
  | some o=>exact absurd (aC (stay _ _ z)) (cI _)
 have d1:=qa g3 (·.setIfInBounds 1 (aN h1.objs.size))
 refine⟨⟨λb o q=>oth b o (λz=>by rw[z,ne] at q;cases q) (stay b o q),ne,fs.of_keeps λb o q n=>?_,_,_,h1.objs.size,ob,ws,n8 _ (aF _ q1) (Ay d1),⟨Obj.cls_mapFields _ _,?_⟩,d1,by simp[sz],fresh,ay lt,?_,d,w3⟩,up⟩
 ·obtain⟨sl,q2⟩:=up b o q n
  exact⟨_,q2,rfl⟩
 ·rw[Array.getElem?_setIfInBounds_ne (by decide)];exact g2
 ·exact(n9 _ _ lt).trans (br _ nf)
theorem D_{ox:Obj}{us:Array afC}{head:afC}{had:Bool}(hfr:A.frames=some (env::outer))(fs:s.heap.FunFrames base (env::outer))(hf:env.frame=some L)(g1:s.heap.get? e=some ox)(st:base.StaysIn s.heap)(ne:base.get? e=none)(g3:ox.data= .fields us)(sz:1 < us.size)(g2:us[2]? =some bY)
  (k:∀h',D9 base (env::outer) e ox.cls a0 L h'->s.heap.UpToSlots h'->Q () { s with heap:=h' }) :
  afP M A (do let a <-frameOf env;let pl <-entryPlaceOf L had;let b <-Nj head a .none (rawInt L) .none pl;setField (.ref e) 1 b) Q E s:=by
 refine afQ (wpAny_frameOf_fun hfr fs hf λh1 so=>afQ (wpAny_entryPlaceOf λpl pp=>?_))
 have nS:e∉(env::outer).filterMap (·.frame):=λz=>by
  obtain⟨_,o2,q2,d2⟩:=fs.mem z
  rw[g1] at q2
  cases q2
  exact d2 us g3
 have q1:h1.get? e=some ox:=(so.2.1 e nS).trans g1
 simp only[Nj,newFields]
 refine afQ (afV (wpAny_setField (aF _ q1) g3 sz ?_) (pp.sizeOk5 _ _ _ _ _))
 obtain⟨m,up⟩:=yw (a0:=a0) (nt:=rawInt L) so rfl fs g1 g3 st ne sz g2 (ob:={ cls:=.type "traceback",dict:=none,data:=.fields ([head,.ref L,.none,rawInt L,.none]++(if pl.isEmpty then aH 6 bY else pl)).toArray }) rfl (by first | (simp;done) | (rcases pp with rfl | ⟨_,_,_,_,_,_,_,rfl⟩<;>simp)) rfl
 exact k _ m up
theorem Nk(hf:env.frame=some L)(x:Vh s.heap base e cls a0 (rawInt L))(k:Q () s):afP M A (noteFrame (.ref e) env) Q E s:=by
 obtain⟨ox,us,T,ot,ws,g1,g2,g3,g4,g5,g6,g7,g8,g9⟩:=x
 unfold noteFrame
 simp only[hf]
 refine afQ (wpAny_field g1 g3 g4 ?_)
 rw[if_pos (by simp)]
 refine afQ (wpAny_field g7 g8 g9 ?_)
 rw[if_pos (by simp)]
 exact afW k
theorem wB(x:Ja base l e cls a0 nt s.heap)(k:∀h',uT base l e cls a0 h'->s.heap.UpToSlots h'->Q () { s with heap:=h' }):afP M A (setFlight (.ref e) none) Q E s:=by
 obtain⟨x1,x2,x3,ox,us,T,ot,ws,g1,g2,g3,g4,g5,g6,g7,g8,g9⟩:=x
 have sz:3 < ws.size:=(Array.getElem?_eq_some_iff.mp g9).1
 unfold setFlight
 refine afQ (wpAny_field g1 g3 g4 ?_)
 rw[if_pos (by simp)]
 refine wpAny_setField g7 g8 sz ?_
 generalize hu:s.heap.update T _=h'
 have ap:∀b,b≠T->h'.get? b=s.heap.get? b:=λb n=>by rw[<-hu];exact n9 _ _ (ay n)
 have pl:∀b o,s.heap.get? b=some o->(∀vs,o.data≠.fields vs)->h'.get? b=some o:=λb o q n=>(ap b λz=>by rw[z,g7] at q;cases q;exact n ws g8).trans q
 refine k h' ⟨λb o q=>(ap b λz=>by rw[z,g5] at q;cases q).trans (x1 b o q),x2,x3.of_keeps λb o q n=>⟨o,pl b o q n,rfl⟩,ox,us,T,ng (·.setIfInBounds 3 .none) ot,ws.setIfInBounds 3 .none,(ap e (ay g6)).trans g1,g2,g3,g4,g5,g6,?_,qa g8 _,?_⟩ λb o q n=>⟨o.slots,pl b o q n⟩
 ·rw[<-hu];exact n8 _ g7 (Ay (qa g8 _))
 ·simp[sz]
end
structure Lm where
 a:afw
 c:afw
 q:PySem.Str
 xs:List V
inductive Wv where
 | bO
 | bl (b:Bool)
 | int (i:Int)
 | str (x:PySem.Str)
 | tup (ws:List Wv)
 | pB (ws:List Wv)
 | ref (l:Nat)
 | ty (n:String)
 | cls (c:PySem.Str)
 | lh (c:PySem.Str)
 | fn (p:Lm) (ws:List Wv)
inductive Ob where
 | lst (ws:List Wv)
 | tJ (ns:List Int)
 | dct (kvs:List (L2.Key×Wv))
 | ja (kvs:List (List L2.Key×Wv))
 | yd (kvs:List (List L2.Key×Wv))
abbrev Hs:=List Ob
abbrev St:=L2.St
abbrev bC:=List (Option Wv)
abbrev Mp:=List afw
def jZ(a C:afw):Heap->Prop:=λh=>∃o,h.get? a=some o/\o.cls= .ref C/\∃vs,o.data= .fields vs
def Vi(a C:afw)(u:Option HO):Prop:=∃o vs,u=some (.hR o (.ext (jZ a C)))/\o.data= .fields vs/\vs[2]? =some bY
theorem K7{P:afA}{w:afD}{H:Hp}{h:Heap}{a C:afw}(ok:jI P w H h)(x:Vi a C (H a)):jZ a C h:=let ⟨_,_,e,_⟩:=x;(ok a _ e).2.1
def ClsAt(K:PySem.W.Frag)(c:PySem.Str)(C:afw):Prop:=PySem.W.nsIn K afM c=some (some (.ref C))
def qH(c:afw)(q:PySem.Str):Heap->Prop:=λh=>h.CodeRec (.ref c) q
def aU:List PySem.Str:=["form_of","formula_by","turned","readied_content"]
def bH(K:PySem.W.Frag)(q:PySem.Str):Option afw:=match PySem.W.tabIn K q with
 | some (_,P)=>if(K.lookup P).isNone=true then some P else none
 | none=>none
def oi(q:PySem.Str):PySem.Str:=(q++".<locals>.")++"<lambda>"
def md(K:PySem.W.Frag)(H:Hp):Prop:=∀q P,q∈aU->bH K q=some P->∃ps,H P=some (.gP ps)/\TriplesOk ps.toList/\∀pos cv,codeAmong pos ps.toList=some cv->∃c,cv= .ref c/\H c=some (.ext (qH c (oi q)))
theorem md.keep{K:PySem.W.Frag}{H H':Hp}(t:md K H)(h1:∀a ps,H a=some (.gP ps)->H' a=some (.gP ps))(h2:∀a φ,H a=some (.ext φ)->H' a=some (.ext φ)):md K H':=λq P hq hP=>by
 obtain⟨ps,e1,e2,e3⟩:=t q P hq hP
 refine⟨ps,h1 _ _ e1,e2,λpos cv e=>?_⟩
 obtain⟨c,f1,f2⟩:=e3 pos cv e
 exact⟨c,f1,h2 _ _ f2⟩
def WG(K:PySem.W.Frag)(a:afw)(xs:List V):Prop:=∃(o:Obj)(its:Array afC)(n:Nat),K.lookup a=some o/\o.cls= .type "tuple"/\o.data= .seq its n/\its.size<=afN/\Vals xs its.toList
mutual
def ag(K:PySem.W.Frag)(m:Mp)(H:Hp):Wv->V->Prop
 | .bO,v=>v= .bO
 | .bl b,v=>v= .bl b
 | .int i,v=>v= .int i
 | .str x,v=>v= .str x/\bg x=true
 | .tup ws,v=>∃a xs,v= .ref a/\H a=some (.tup xs)/\ah K m H ws xs
 | .pB ws,v=>∃a xs,v= .ref a/\WG K a xs/\ah K m H ws xs
 | .ref l,v=>∃a,v= .ref a/\m[l]? =some a
 | .ty n,v=>v= .ty n
 | .cls c,v=>∃C,v= .ref C/\ClsAt K c C
 | .lh c,v=>∃a C,v= .ref a/\ClsAt K c C/\Vi a C (H a)
 | .fn p ws,v=>v= .ref p.a/\H p.c=some (.ext (qH p.c p.q))/\ah K m H ws p.xs
def ah(K:PySem.W.Frag)(m:Mp)(H:Hp):List Wv->List V->Prop
 | [],xs=>xs=[]
 | w::ws,xs=>∃x r,xs=x::r/\ag K m H w x/\ah K m H ws r
end
structure Ext(K:PySem.W.Frag)(m:Mp)(H:Hp)(m':Mp)(H':Hp):Prop where
 pre:∀(l:Nat)(a:afw),m[l]? =some a->m'[l]? =some a
 tup:∀(a:afw)(xs:List V),H a=some (.tup xs)->H' a=some (.tup xs)
 ext:∀(a:afw)(φ:Heap->Prop),H a=some (.ext φ)->H' a=some (.ext φ)
 hR:∀(a:afw)(o:Obj)(u:HO),H a=some (.hR o u)->H' a=some (.hR o u)
section
variable {K:PySem.W.Frag} {m m1 m2:Mp} {H H1 H2:Hp}
theorem Ext.refl:Ext K m H m H:=⟨λ_ _ h=>h,λ_ _ h=>h,λ_ _ h=>h,λ_ _ _ h=>h⟩
theorem Ext.trans(a:Ext K m H m1 H1)(b:Ext K m1 H1 m2 H2):Ext K m H m2 H2 :=
 ⟨λl x h=>b.pre l x (a.pre l x h),λx xs h=>b.tup x xs (a.tup x xs h),λx φ h=>b.ext x φ (a.ext x φ h),λx o u h=>b.hR x o u (a.hR x o u h)⟩
structure Ea(K:PySem.W.Frag)(m:Mp)(H:Hp)(m':Mp)(H':Hp):Prop where
 pre:∀(l:Nat)(a:afw),m[l]? =some a->m'[l]? =some a
 tup:∀(a:afw)(xs:List V),H a=some (.tup xs)->H' a=some (.tup xs)
 ext:∀(a:afw)(φ:Heap->Prop),H a=some (.ext φ)->H' a=some (.ext φ)
 fx:∀(a:afw)(o:Obj)(φ:Heap->Prop),H a=some (.hR o (.ext φ))->H' a=some (.hR o (.ext φ))
theorem Ext.z(e:Ext K m H m1 H1):Ea K m H m1 H1:=⟨e.pre,e.tup,e.ext,λa o φ h=>e.hR a o _ h⟩
mutual
theorem ag.jJ(e:Ea K m H m1 H1):∀(w:Wv)(v:V),ag K m H w v->ag K m1 H1 w v
 | .bO,v,h=>by unfold ag at h ⊢;exact h
 | .bl b,v,h=>by unfold ag at h ⊢;exact h
 | .int i,v,h=>by unfold ag at h ⊢;exact h
 | .str x,v,h=>by unfold ag at h ⊢;exact h
 | .ty n,v,h=>by unfold ag at h ⊢;exact h
 | .cls c,v,h=>by unfold ag at h ⊢;exact h
 | .lh c,v,h=>by
  unfold ag at h ⊢
  obtain⟨a,C,e1,e2,o,vs,e3,e4⟩:=h
  exact⟨a,C,e1,e2,o,vs,e.fx _ _ _ e3,e4⟩
 | .ref l,v,h=>by
  unfold ag at h ⊢
  obtain⟨a,e1,e2⟩:=h
  exact⟨a,e1,e.pre _ _ e2⟩
 | .tup ws,v,h=>by
  unfold ag at h ⊢
  obtain⟨a,xs,e1,e2,e3⟩:=h
  exact⟨a,xs,e1,e.tup _ _ e2,ah.jJ e ws xs e3⟩
 | .pB ws,v,h=>by
  unfold ag at h ⊢
  obtain⟨a,xs,e1,e2,e3⟩:=h
  exact⟨a,xs,e1,e2,ah.jJ e ws xs e3⟩
 | .fn p ws,v,h=>by
  unfold ag at h ⊢
  obtain⟨e1,e2,e3⟩:=h
  exact⟨e1,e.ext _ _ e2,ah.jJ e ws p.xs e3⟩
theorem ah.jJ(e:Ea K m H m1 H1):∀(ws:List Wv)(xs:List V),ah K m H ws xs->ah K m1 H1 ws xs
 | [],xs,h=>by unfold ah at h ⊢;exact h
 | w::ws,xs,h=>by
  unfold ah at h ⊢
  obtain⟨x,r,e1,e2,e3⟩:=h
  exact⟨x,r,e1,ag.jJ e w x e2,ah.jJ e ws r e3⟩
end
theorem ag.mono(e:Ext K m H m1 H1)(w:Wv)(v:V)(h:ag K m H w v):ag K m1 H1 w v:=ag.jJ e.z w v h
theorem ah.mono(e:Ext K m H m1 H1)(ws:List Wv)(xs:List V)(h:ah K m H ws xs):ah K m1 H1 ws xs:=ah.jJ e.z ws xs h
theorem ah.nil:ah K m H [] []:=by unfold ah;rfl
theorem ah.cons{w:Wv}{x:V}{ws:List Wv}{xs:List V}(h:ag K m H w x)(t:ah K m H ws xs):ah K m H (w::ws) (x::xs):=by unfold ah;exact⟨x,xs,rfl,h,t⟩
theorem ah.length:∀{ws:List Wv}{xs:List V},ah K m H ws xs->ws.length=xs.length
 | [],xs,h=>by unfold ah at h;subst h;rfl
 | w::ws,xs,h=>by
  unfold ah at h
  obtain⟨x,r,e1,_,e3⟩:=h
  subst e1
  simp[ah.length e3]
theorem ah.get:∀{ws:List Wv}{xs:List V}{i:Nat}{w:Wv},ah K m H ws xs->ws[i]? =some w->∃x,xs[i]? =some x/\ag K m H w x
 | [],_,i,w,_,e=>by simp at e
 | a::ws,xs,0,w,h,e=>by
  unfold ah at h
  obtain⟨x,r,e1,e2,_⟩:=h
  subst e1
  simp at e
  subst e
  exact⟨x,rfl,e2⟩
 | a::ws,xs,i+1,w,h,e=>by
  unfold ah at h
  obtain⟨x,r,e1,_,e3⟩:=h
  subst e1
  obtain⟨y,f1,f2⟩:=ah.get (i:=i) (w:=w) e3 (by simpa using e)
  exact⟨y,by simpa using f1,f2⟩
theorem ah.append:∀{ws zs:List Wv}{xs ys:List V},ah K m H ws xs->ah K m H zs ys->ah K m H (ws++zs) (xs++ys)
 | [],_,xs,_,h,g=>by unfold ah at h;subst h;exact g
 | w::ws,zs,xs,ys,h,g=>by
  unfold ah at h
  obtain⟨x,r,e1,e2,e3⟩:=h
  subst e1
  exact ah.cons e2 (ah.append e3 g)
theorem ah.set:∀{ws:List Wv}{xs:List V}(i:Nat){w:Wv}{x:V},ah K m H ws xs->ag K m H w x->ah K m H (ws.set i w) (xs.set i x)
 | [],xs,i,w,x,h,_=>by unfold ah at h;subst h;exact ah.nil
 | a::ws,xs,0,w,x,h,g=>by
  unfold ah at h
  obtain⟨y,r,e1,e2,e3⟩:=h
  subst e1
  exact ah.cons g e3
 | a::ws,xs,i+1,w,x,h,g=>by
  unfold ah at h
  obtain⟨y,r,e1,e2,e3⟩:=h
  subst e1
  exact ah.cons e2 (ah.set i e3 g)
theorem ah.drop:∀{ws:List Wv}{xs:List V}(i:Nat),ah K m H ws xs->ah K m H (ws.drop i) (xs.drop i)
 | ws,xs,0,h=>by simpa using h
 | [],xs,i+1,h=>by unfold ah at h;subst h;simpa using ah.nil
 | a::ws,xs,i+1,h=>by
  unfold ah at h
  obtain⟨y,r,e1,e2,e3⟩:=h
  subst e1
  simpa using ah.drop i e3
theorem ah.take:∀{ws:List Wv}{xs:List V}(i:Nat),ah K m H ws xs->ah K m H (ws.take i) (xs.take i)
 | ws,xs,0,h=>by simpa using ah.nil
 | [],xs,i+1,h=>by unfold ah at h;subst h;simpa using ah.nil
 | a::ws,xs,i+1,h=>by
  unfold ah at h
  obtain⟨y,r,e1,e2,e3⟩:=h
  subst e1
  simpa using ah.cons e2 (ah.take i e3)
theorem ah.ints:∀(ns:List Int),ah K m H (ns.map Wv.int) (ns.map V.int)
 | []=>ah.nil
 | n::ns=>ah.cons (by unfold ag;rfl) (ah.ints ns)
end
def wC(K:PySem.W.Frag)(H:Hp)(a:afw)(ns:List Int):Prop :=
 (∃o,H a=some (.hR o (.lst (ns.map V.int))))\/
  ∃(o:Obj)(its:Array afC)(n:Nat),K.lookup a=some o/\o.cls= .type "list"/\o.dict=none/\o.data= .seq its n/\its.size<=afN/\Vals (ns.map V.int) its.toList
def RelK{κ:Type}(K:PySem.W.Frag)(m:Mp)(H:Hp)(kvs:List (κ×Wv))(xs:List (κ×V)):Prop:=kvs.map (·.1)=xs.map (·.1)/\ah K m H (kvs.map (·.2)) (xs.map (·.2))
def sD(K:PySem.W.Frag)(m:Mp)(H:Hp)(a:afw):Ob->Prop
 | .lst ws=>∃xs,H a=some (.lst xs)/\ah K m H ws xs
 | .tJ ns=>wC K H a ns
 | .dct kvs=>∃xs,H a=some (.dK xs)/\RelK K m H kvs xs
 | .ja kvs=>∃xs,H a=some (.dT xs)/\RelK K m H kvs xs
 | .yd kvs=>∃o xs,H a=some (.hR o (.dT xs))/\RelK K m H kvs xs
def Ob.mu:Ob->Bool
 | .tJ _=>false
 | _=>true
def Ob.wm:Ob->Bool
 | .tJ _=>false
 | .yd _=>false
 | _=>true
theorem Ob.So{o:Ob}(h:o.wm=true):o.mu=true:=by cases o<;>first | rfl | cases h
structure bb(K:PySem.W.Frag)(m:Mp)(st:Hs)(H:Hp):Prop where
 len:m.length=st.length
 obj:∀(l:Nat)(a:afw)(o:Ob),m[l]? =some a->st[l]? =some o->sD K m H a o
 inj:∀(l l':Nat)(a:afw)(o o':Ob),m[l]? =some a->m[l']? =some a->st[l]? =some o->st[l']? =some o'->o.mu=true->o'.mu=true->l=l'
 tab:md K H
def aq(st:Hs)(l:Nat):Option (List Wv):=match st[l]? with
 | some (.lst ws)=>some ws
 | some (.tJ ns)=>some (ns.map Wv.int)
 | _=>none
section
variable {K:PySem.W.Frag} {m:Mp} {H:Hp} {st:Hs}
def Wr(u:Option HO):Prop:=u=none\/(∃ys,u=some (.lst ys))\/(∃ys,u=some (.dK ys))\/∃ys,u=some (.dT ys)
theorem Wr.ne{p a:afw}{u:HO}(hp:Wr (H p))(e:H a=some u)(n1:∀ys,u≠.lst ys)(n2:∀ys,u≠.dK ys)(n3:∀ys,u≠.dT ys):a≠p:=λz=>by
 subst z
 rcases hp with q | ⟨ys,q⟩ | ⟨ys,q⟩ | ⟨ys,q⟩
 ·rw[q] at e;cases e
 ·rw[q] at e;cases e;exact n1 ys rfl
 ·rw[q] at e;cases e;exact n2 ys rfl
 ·rw[q] at e;cases e;exact n3 ys rfl
theorem Eb{p a:afw}{o:HO}{xs:List V}(hp:Wr (H p))(h:H a=some (.tup xs)):upd H p o a=some (.tup xs):=by
 rw[aA (hp.ne h (by intro ys z;cases z) (by intro ys z;cases z) (by intro ys z;cases z))];exact h
theorem Ec{p a:afw}{o:HO}{ns:List Int}(hp:Wr (H p))(h:wC K H a ns):wC K (upd H p o) a ns:=by
 rcases h with ⟨o',h⟩ | h
 ·exact .inl ⟨o',by rw[aA (hp.ne h (by intro ys z;cases z) (by intro ys z;cases z) (by intro ys z;cases z))];exact h⟩
 ·exact .inr h
theorem Wr.of{u:Option HO}(h:u=none\/∃ys,u=some (.lst ys)):Wr u:=by
 rcases h with q | q
 ·exact .inl q
 ·exact .inr (.inl q)
theorem Ext.jP{p:afw}{o:HO}(hp:Wr (H p)):Ext K m H m (upd H p o):=⟨λ_ _ h=>h,λ_ _ h=>Eb hp h,λa φ h=>by
 rw[aA (hp.ne h (by intro ys z;cases z) (by intro ys z;cases z) (by intro ys z;cases z))]
 exact h,λa o u h=>by
 rw[aA (hp.ne h (by intro ys z;cases z) (by intro ys z;cases z) (by intro ys z;cases z))]
 exact h⟩
theorem Ext.upd{p:afw}{o:HO}(hp:H p=none\/∃ys,H p=some (.lst ys)):Ext K m H m (upd H p o):=Ext.jP (Wr.of hp)
theorem RelK.mono{κ:Type}{m1:Mp}{H1:Hp}{kvs:List (κ×Wv)}{xs:List (κ×V)}(e:Ext K m H m1 H1)(h:RelK K m H kvs xs):RelK K m1 H1 kvs xs:=⟨h.1,ah.mono e _ _ h.2⟩
theorem sD.keep{m1:Mp}{b p:afw}{u:HO}{o:Ob}(ex:Ext K m H m1 (L2.upd H p u))(hp:Wr (H p))(hb:o.mu=true->b≠p)(h:sD K m H b o):sD K m1 (L2.upd H p u) b o:=by
 cases o with
 | lst ws=>
  obtain⟨xs,e1,e2⟩:=h
  exact⟨xs,by rw[aA (hb rfl)];exact e1,ah.mono ex _ _ e2⟩
 | dct kvs=>
  obtain⟨xs,e1,e2⟩:=h
  exact⟨xs,by rw[aA (hb rfl)];exact e1,e2.mono ex⟩
 | ja kvs=>
  obtain⟨xs,e1,e2⟩:=h
  exact⟨xs,by rw[aA (hb rfl)];exact e1,e2.mono ex⟩
 | yd kvs=>
  obtain⟨o,xs,e1,e2⟩:=h
  exact⟨o,xs,by rw[aA (hb rfl)];exact e1,e2.mono ex⟩
 | tJ ns=>exact Ec hp h
theorem sD.at{b:afw}{o:Ob}(h:sD K m H b o)(hm:o.mu=true):∃u,H b=some u:=by
 cases o with
 | lst ws=>obtain⟨xs,e1,e2⟩:=h;exact⟨_,e1⟩
 | dct kvs=>obtain⟨xs,e1,e2⟩:=h;exact⟨_,e1⟩
 | ja kvs=>obtain⟨xs,e1,e2⟩:=h;exact⟨_,e1⟩
 | yd kvs=>obtain⟨o,xs,e1,e2⟩:=h;exact⟨_,e1⟩
 | tJ ns=>simp[Ob.mu] at hm
theorem sD.wr{b:afw}{o:Ob}(h:sD K m H b o)(hm:o.wm=true):Wr (H b):=by
 cases o with
 | lst ws=>obtain⟨xs,e1,e2⟩:=h;exact .inr (.inl ⟨_,e1⟩)
 | dct kvs=>obtain⟨xs,e1,e2⟩:=h;exact .inr (.inr (.inl ⟨_,e1⟩))
 | ja kvs=>obtain⟨xs,e1,e2⟩:=h;exact .inr (.inr (.inr ⟨_,e1⟩))
 | yd kvs=>cases hm
 | tJ ns=>cases hm
theorem md.jP{p:afw}{o:HO}(t:md K H)(hp:Wr (H p)):md K (L2.upd H p o):=t.keep
 (λa ps h=>by rw[aA (hp.ne h (by intro ys z;cases z) (by intro ys z;cases z) (by intro ys z;cases z))];exact h)
 λa φ h=>by rw[aA (hp.ne h (by intro ys z;cases z) (by intro ys z;cases z) (by intro ys z;cases z))];exact h
theorem Ext.more{p:afw}:Ext K m H (m++[p]) H:=⟨λl a h=>by
 rw[eG]
 ·exact h
 ·exact(List.getElem?_eq_some_iff.mp h).1,λ_ _ h=>h,λ_ _ h=>h,λ_ _ _ h=>h⟩
theorem bb.fresh{p:afw}{o:HO}(S:bb K m st H)(hp:H p=none):bb K m st (upd H p o) :=
 ⟨S.len,λl a ob h1 h2=>by
  have q:=S.obj l a ob h1 h2
  refine q.keep (Ext.jP (.inl hp)) (.inl hp) λhm=>?_
  obtain⟨u,e⟩:=q.at hm
  exact bt e hp,S.inj,S.tab.jP (.inl hp)⟩
theorem bb.nh{l:Nat}{a:afw}{ws:List Wv}(S:bb K m st H)(h1:m[l]? =some a)(h2:st[l]? =some (.lst ws)):∃xs,H a=some (.lst xs)/\ah K m H ws xs:=S.obj l a _ h1 h2
theorem bb.read{l:Nat}{a:afw}{ws:List Wv}(S:bb K m st H)(h1:m[l]? =some a)(h2:aq st l=some ws):∃xs,jT K H a xs/\ah K m H ws xs:=by
 unfold aq at h2
 cases e:st[l]? with
 | none=>rw[e] at h2;cases h2
 | some o=>
  rw[e] at h2
  cases o with
  | lst zs=>
   cases h2
   obtain⟨xs,e1,e2⟩:=S.nh h1 e
   exact⟨xs,jT.of e1,e2⟩
  | dct kvs=>cases h2
  | ja kvs=>cases h2
  | yd kvs=>cases h2
  | tJ ns=>
   cases h2
   have q:wC K H a ns:=S.obj l a _ h1 e
   refine⟨ns.map V.int,?_,ah.ints ns⟩
   rcases q with ⟨o,q⟩ | q
   ·exact .inl (.inr ⟨o,q⟩)
   ·exact .inr q
theorem bb.uU{p:afw}{ob:Ob}{u:HO}(S:bb K m st H)(hp:H p=none)(r:sD K (m++[p]) (L2.upd H p u) p ob):bb K (m++[p]) (st++[ob]) (L2.upd H p u):=by
 have ex:Ext K m H (m++[p]) (L2.upd H p u):=Ext.more.trans (Ext.jP (.inl hp))
 have Ed:∀(l:Nat)(o:Ob),m[l]? =some p->st[l]? =some o->o.mu=true->False:=λl o h1 h2 hm=>by
  obtain⟨v,e⟩:=(S.obj l p o h1 h2).at hm
  rw[hp] at e;cases e
 have old:∀(l:Nat)(a:afw),(m++[p])[l]? =some a->(l < m.length/\m[l]? =some a)\/(l=m.length/\a=p):=λl a h=>by
  by_cases hl:l < m.length
  ·exact .inl ⟨hl,by rw[eG hl] at h;exact h⟩
  ·have h':=h
   rw[fW (by omega)] at h'
   have z:=List.getElem?_eq_some_iff.mp h'
   have z1:l - m.length < 1:=by simpa using z.1
   refine .inr ⟨by omega,?_⟩
   have e0:l - m.length=0:=by omega
   rw[e0] at h'
   simpa using h'.symm
 have olds:∀(l:Nat)(o:Ob),l < m.length->(st++[ob])[l]? =some o->st[l]? =some o:=λl o hl h=>by
  rw[eG (by rw[<-S.len];exact hl)] at h
  exact h
 refine⟨by simp[S.len],λl a o h1 h2=>?_,λl l' a zs zs' h1 Ia h2 h2' k k'=>?_,S.tab.jP (.inl hp)⟩
 ·rcases old l a h1 with ⟨hl,h1⟩ | ⟨hl,rfl⟩
  ·have q:=S.obj l a o h1 (olds l o hl h2)
   refine q.keep ex (.inl hp) λhm=>?_
   obtain⟨v,e⟩:=q.at hm
   exact bt e hp
  ·have e:o=ob:=by
    rw[hl,S.len,fW (au _),ni] at h2
    simpa using h2.symm
   subst e
   exact r
 ·rcases old l a h1 with ⟨hl,g1⟩ | ⟨hl,ea⟩
  ·rcases old l' a Ia with ⟨hl',Q4⟩ | ⟨hl',ea'⟩
   ·exact S.inj l l' a zs zs' g1 Q4 (olds l _ hl h2) (olds l' _ hl' h2') k k'
   ·rw[ea'] at g1
    exact(Ed l zs g1 (olds l _ hl h2) k).elim
  ·rcases old l' a Ia with ⟨hl',Q4⟩ | ⟨hl',_⟩
   ·rw[ea] at Q4
    exact(Ed l' zs' Q4 (olds l' _ hl' h2') k').elim
   ·omega
theorem bb.alloc{p:afw}{ws:List Wv}{xs:List V}(S:bb K m st H)(hp:H p=none)(r:ah K m H ws xs):bb K (m++[p]) (st++[.lst ws]) (upd H p (.lst xs)) :=
 S.uU hp ⟨xs,aJ,ah.mono (Ext.more.trans (Ext.jP (.inl hp))) _ _ r⟩
theorem bb.yx{l:Nat}{a:afw}{o0 ob:Ob}{u:HO}(S:bb K m st H)(h1:m[l]? =some a)(h2:st[l]? =some o0)(hw:o0.wm=true)(r:sD K m (L2.upd H a u) a ob):bb K m (st.set l ob) (L2.upd H a u):=by
 have wr:Wr (H a):=(S.obj l a o0 h1 h2).wr hw
 have hm:=Ob.So hw
 have ex:Ext K m H m (L2.upd H a u):=Ext.jP wr
 have hl:l < st.length:=(List.getElem?_eq_some_iff.mp h2).1
 have at':∀(k:Nat)(o:Ob),(st.set l ob)[k]? =some o->(k=l/\o=ob)\/(k≠l/\st[k]? =some o):=λk o h=>by
  by_cases e:l=k
  ·subst e
   rw[jb hl] at h
   exact .inl ⟨rfl,(Option.some.inj h).symm⟩
  ·rw[fB e] at h
   exact .inr ⟨λz=>e z.symm,h⟩
 refine⟨by simp[S.len],λk b o g1 g2=>?_,λk k' b us us' g1 Q4 g2 g2' q q'=>?_,S.tab.jP wr⟩
 ·rcases at' k o g2 with ⟨rfl,rfl⟩ | ⟨hk,g2⟩
  ·rw[h1] at g1;cases g1
   exact r
  ·have q:=S.obj k b o g1 g2
   refine q.keep ex wr λho z=>?_
   subst z
   exact hk (S.inj k l b o o0 g1 h1 g2 h2 ho hm)
 ·have back:∀(k:Nat)(o:Ob),(st.set l ob)[k]? =some o->o.mu=true->∃o',st[k]? =some o'/\o'.mu=true:=λk o h ho=>by
   rcases at' k _ h with ⟨rfl,_⟩ | ⟨_,h⟩
   ·exact⟨o0,h2,hm⟩
   ·exact⟨o,h,ho⟩
  obtain⟨u1,e1,f1⟩:=back k us g2 q
  obtain⟨u2,e2,f2⟩:=back k' us' g2' q'
  exact S.inj k k' b u1 u2 g1 Q4 e1 e2 f1 f2
theorem bb.write{l:Nat}{a:afw}{ws zs:List Wv}{xs:List V}(S:bb K m st H)(h1:m[l]? =some a)(h2:st[l]? =some (.lst ws))(r:ah K m H zs xs):bb K m (st.set l (.lst zs)) (upd H a (.lst xs)) :=
 S.yx h1 h2 rfl ⟨xs,aJ,ah.mono (Ext.jP ((S.obj l a _ h1 h2).wr rfl)) _ _ r⟩
end
structure aw(K:PySem.W.Frag)(m:Mp)(H:Hp)(ρ:bC)(σ:St):Prop where
 len:ρ.length=σ.length
 get:∀(i:Nat)(w:Wv),ρ[i]? =some (some w)->∃v,σ[i]? =some (some v)/\ag K m H w v
section
variable {K:PySem.W.Frag} {m m1:Mp} {H H1:Hp} {ρ:bC} {σ:St}
theorem aw.mono(R:aw K m H ρ σ)(e:Ext K m H m1 H1):aw K m1 H1 ρ σ:=⟨R.len,λi w h=>let ⟨v,h1,h2⟩:=R.get i w h;⟨v,h1,ag.mono e _ _ h2⟩⟩
theorem aw.set(R:aw K m H ρ σ)(i:Nat){w:Wv}{v:V}(h:ag K m H w v):aw K m H (ρ.set i (some w)) (σ.set i (some v)):=by
 refine⟨by simp[R.len],λj u e=>?_⟩
 by_cases hj:i=j
 ·subst hj
  have hi:i < ρ.length:=by
   have:=(List.getElem?_eq_some_iff.mp e).1
   simpa using this
  rw[jb hi] at e
  have e':w=u:=Option.some.inj (Option.some.inj e)
  subst e'
  exact⟨v,by rw[jb (by rw[<-R.len];exact hi)],h⟩
 ·rw[fB hj] at e
  obtain⟨x,h1,h2⟩:=R.get j u e
  exact⟨x,by rw[fB hj];exact h1,h2⟩
end
inductive Re(α:Type) where
 | ok (a:α) (st:Hs)
 | err (c:PySem.Str) (st:Hs)
 | bad
def Re.bind{α β:Type}(r:Re α)(f:α->Hs->Re β):Re β:=match r with
 | .ok a st=>f a st
 | .err c st=> .err c st
 | .bad=> .bad
inductive Rs where
 | nx (ρ:bC) (st:Hs)
 | rt (w:Wv) (st:Hs)
 | bk (ρ:bC) (st:Hs)
 | ct (ρ:bC) (st:Hs)
 | err (c:PySem.Str) (ρ:bC) (st:Hs)
 | bad
def Re.bp{α:Type}(ρ:bC)(r:Re α)(f:α->Hs->Rs):Rs:=match r with
 | .ok a st=>f a st
 | .err c st=> .err c ρ st
 | .bad=> .bad
def Re.n4{α:Type}(r:Re α):Re α:=match r with
 | .ok a st=> .ok a st
 | _=> .bad
abbrev GE:=bC->Hs->Re Wv
abbrev GT:=bC->Hs->Re Bool
abbrev GA:=bC->Hs->Re (List Wv)
abbrev GS:=bC->Hs->Rs
def wD(P:afA)(w:afD)(outer:List Env)(H:Hp)(s:afB)(H':Hp)(cls:afC)(e:afC)(s':afB):Prop :=
 ∃(a:afw)(a0:afC)(B:Heap),e= .ref a/\s'.os=s.os/\AllBare s'.gens/\Un (frs outer) [] H H' s.heap s'.heap/\jI P w H' B/\uT B outer a cls a0 s'.heap/\
  (∀b o,s.heap.get? b=some o->b∉frs outer->∃o',B.get? b=some o'/\(H b=none->o'=o))
def j4(X:Cx)(pins:List (afw×Obj))(H:Hp)(s:afB)(H':Hp)(cls:afC)(e:afC)(s':afB):Prop :=
 ∃(a:afw)(a0 nt:afC)(B:Heap)(ch:List afw),e= .ref a/\s'.os=s.os/\AllBare s'.gens/\(∀b∈ch,dY X pins H b)/\Un (frs X.stack) ch H H' s.heap s'.heap/\jI X.prog X.w H' B/\
  (B.StaysIn s'.heap/\B.get? a=none/\s'.heap.FunFrames B X.stack/\Vh s'.heap B a cls a0 nt)/\
  (∀b o,s.heap.get? b=some o->b∉frs X.stack->b∉ch->∃o',B.get? b=some o'/\(H b=none->o'=o))
theorem wD.any{X:Cx}{pins:List (afw×Obj)}{H H':Hp}{s s':afB}{cls e:afC}(f:wD X.prog X.w X.stack H s H' cls e s'):j4 X pins H s H' cls e s' :=
 let ⟨a,a0,B,e1,e2,e3,un,hok,fl,wF⟩:=f
 ⟨a,a0,.none,B,[],e1,e2,e3,(λb z=>by cases z),un,hok,fl,λb o q hb _=>wF b o q hb⟩
def qI(X:Cx)(σ:St)(H':Hp)(c:PySem.Str)(e:afC)(s':afB):Prop :=
 ∃(C:afw)(pins:List (afw×Obj))(Hc:Hp)(sc:afB),ClsAt X.K c C/\Inv X pins σ Hc sc/\
  (j4 X pins Hc sc H' (.ref C) e s'\/(H'=Hc/\∃a args,e= .ref a/\s'.os=sc.os/\s'.gens=sc.gens/\uV sc.heap s'.heap a (.ref C) args))
def Q5(X:Cx)(σ:St)(m:Mp)(H:Hp)(c:PySem.Str)(st:Hs):Prop :=
 ∀(m':Mp)(H':Hp)(e:afC)(s':afB),Ext X.K m H m' H'->bb X.K m' st H'->qI X σ H' c e s'->X.xe e s'
theorem Q5.mono{X:Cx}{σ:St}{m m1:Mp}{H H1:Hp}{c:PySem.Str}{st:Hs}(h:Q5 X σ m H c st)(e:Ext X.K m H m1 H1):Q5 X σ m1 H1 c st :=
 λm' H' x s' e' S r=>h m' H' x s' (e.trans e') S r
def ax{α:Type}(X:Cx)(σ:St)(m:Mp)(H:Hp)(r:Re α)(ok:α->Hs->Prop):Prop:=match r with
 | .ok a st=>ok a st
 | .err c st=>Q5 X σ m H c st
 | .bad=>False
def qJ{α:Type}(r:Re α)(ok:α->Hs->Prop):Prop:=match r with
 | .ok a st=>ok a st
 | _=>False
theorem ax.n4{α:Type}{X:Cx}{σ:St}{m:Mp}{H:Hp}{r:Re α}{ok:α->Hs->Prop}(h:ax X σ m H r.n4 ok):qJ r ok:=by
 cases r with
 | ok a st=>exact h
 | err c st=>exact h
 | bad=>exact h
theorem ax.bind{α β:Type}{X:Cx}{σ:St}{m:Mp}{H:Hp}{r:Re α}{f:α->Hs->Re β}{ok:β->Hs->Prop}(h:ax X σ m H (r.bind f) ok):ax X σ m H r (λa st=>ax X σ m H (f a st) ok):=by
 cases r with
 | ok a st=>exact h
 | err c st=>exact h
 | bad=>exact h
theorem ax.imp{α:Type}{X:Cx}{σ:St}{m m1:Mp}{H H1:Hp}{r:Re α}{ok ok':α->Hs->Prop}(h:ax X σ m H r ok)(e:Ext X.K m H m1 H1)(k:∀a st,ok a st->ok' a st):ax X σ m1 H1 r ok':=by
 cases r with
 | ok a st=>exact k a st h
 | err c st=>exact Q5.mono (c:=c) (st:=st) h e
 | bad=>exact h
theorem qJ.imp{α:Type}{r:Re α}{ok ok':α->Hs->Prop}(h:qJ r ok)(k:∀a st,ok a st->ok' a st):qJ r ok':=by
 cases r with
 | ok a st=>exact k a st h
 | err c st=>exact h
 | bad=>exact h
def Q6(K:PySem.W.Frag)(m:Mp)(H:Hp)(Q:VK)(w:Wv)(st:Hs):Prop:=∀(v:V)(m':Mp)(H':Hp),Ext K m H m' H'->bb K m' st H'->ag K m' H' w v->Q v H'
def okT(K:PySem.W.Frag)(m:Mp)(H:Hp)(Q:Bool->Hp->Prop)(b:Bool)(st:Hs):Prop:=∀(m':Mp)(H':Hp),Ext K m H m' H'->bb K m' st H'->Q b H'
def okA(K:PySem.W.Frag)(m:Mp)(H:Hp)(Q:List V->Hp->Prop)(ws:List Wv)(st:Hs):Prop:=∀(vs:List V)(m':Mp)(H':Hp),Ext K m H m' H'->bb K m' st H'->ah K m' H' ws vs->Q vs H'
abbrev cU(X:Cx)(σ:St)(m:Mp)(H:Hp)(r:Re Wv)(Q:VK):Prop:=ax X σ m H r (Q6 X.K m H Q)
abbrev iU(X:Cx)(σ:St)(m:Mp)(H:Hp)(r:Re Bool)(Q:Bool->Hp->Prop):Prop:=ax X σ m H r (okT X.K m H Q)
abbrev K8(X:Cx)(σ:St)(m:Mp)(H:Hp)(r:Re (List Wv))(Q:List V->Hp->Prop):Prop:=ax X σ m H r (okA X.K m H Q)
theorem cU.shift{X:Cx}{σ:St}{m m1:Mp}{H H1:Hp}{r:Re Wv}{Q:VK}(h:cU X σ m H r Q)(e:Ext X.K m H m1 H1):cU X σ m1 H1 r Q:=h.imp e λ_ _ k v m' H' e'=>k v m' H' (e.trans e')
theorem iU.shift{X:Cx}{σ:St}{m m1:Mp}{H H1:Hp}{r:Re Bool}{Q:Bool->Hp->Prop}(h:iU X σ m H r Q)(e:Ext X.K m H m1 H1):iU X σ m1 H1 r Q:=h.imp e λ_ _ k m' H' e'=>k m' H' (e.trans e')
abbrev eo(K:PySem.W.Frag)(m:Mp)(H:Hp)(r:Re Wv)(Q:VK):Prop:=qJ r (Q6 K m H Q)
theorem eo.shift{K:PySem.W.Frag}{m m1:Mp}{H H1:Hp}{r:Re Wv}{Q:VK}(h:eo K m H r Q)(e:Ext K m H m1 H1):eo K m1 H1 r Q:=qJ.imp h λ_ _ k v m' H' e'=>k v m' H' (e.trans e')
def aE(X:Cx)(m:Mp)(H:Hp)(r:Rs)(D:Ends):Prop:=match r with
 | .nx ρ st=>∀(σ:St)(m':Mp)(H':Hp),Ext X.K m H m' H'->bb X.K m' st H'->aw X.K m' H' ρ σ->D.nx σ H'
 | .rt w st=>∀(v:V)(m':Mp)(H':Hp),Ext X.K m H m' H'->bb X.K m' st H'->ag X.K m' H' w v->D.rt v H'
 | .bk ρ st=>∀(σ:St)(m':Mp)(H':Hp),Ext X.K m H m' H'->bb X.K m' st H'->aw X.K m' H' ρ σ->D.bk σ H'
 | .ct ρ st=>∀(σ:St)(m':Mp)(H':Hp),Ext X.K m H m' H'->bb X.K m' st H'->aw X.K m' H' ρ σ->D.ct σ H'
 | .err c ρ st=>∀(σ:St)(m':Mp)(H':Hp)(e:afC)(s':afB),Ext X.K m H m' H'->bb X.K m' st H'->aw X.K m' H' ρ σ->qI X σ H' c e s'->X.xe e s'
 | .bad=>False
theorem aE.shift{X:Cx}{m m1:Mp}{H H1:Hp}{r:Rs}{D:Ends}(h:aE X m H r D)(e:Ext X.K m H m1 H1):aE X m1 H1 r D:=by
 cases r with
 | nx ρ st=>exact λσ m' H' e'=>h σ m' H' (e.trans e')
 | rt w st=>exact λv m' H' e'=>h v m' H' (e.trans e')
 | bk ρ st=>exact λσ m' H' e'=>h σ m' H' (e.trans e')
 | ct ρ st=>exact λσ m' H' e'=>h σ m' H' (e.trans e')
 | err c ρ st=>exact λσ m' H' x s' e'=>h σ m' H' x s' (e.trans e')
 | bad=>exact h
theorem aE.cK{α:Type}{X:Cx}{m:Mp}{H:Hp}{ρ:bC}{σ:St}{r:Re α}{f:α->Hs->Rs}{D:Ends}(R:aw X.K m H ρ σ)(h:aE X m H (r.bp ρ f) D):ax X σ m H r (λa st=>aE X m H (f a st) D):=by
 cases r with
 | ok a st=>exact h
 | err c st=>exact λm' H' x s' e' S r=>h σ m' H' x s' e' S (R.mono e') r
 | bad=>exact h
def SE(X:Cx)(e:Expr):TE:=λσ H Q=>∀(pins:List (afw×Obj))(s:afB),Inv X pins σ H s->afP (model X.prog X.w) X.A (eval e X.env) (EP X pins σ Q) X.xe s
def ST(X:Cx)(e:Expr):TT:=λσ H Q=>∀(pins:List (afw×Obj))(s:afB),Inv X pins σ H s->afP (model X.prog X.w) X.A (isTrue e X.env (eval e X.env)) (TP X pins σ Q) X.xe s
def SA(X:Cx)(es:List Expr):TA:=λσ H Q=>∀(pos:Pos)(pins:List (afw×Obj))(s:afB),Inv X pins σ H s->afP (model X.prog X.w) X.A (spliced (backTo pos (afO es X.env))) (AP X pins σ Q) X.xe s
def SS(X:Cx)(st:Stmt):TS:=λD σ H=>∀(pins:List (afw×Obj))(s:afB),Inv X pins σ H s->afP (model X.prog X.w) X.A (exec st X.env) (SP X pins D) X.xe s
def Sq(X:Cx)(st:List Stmt):TS:=λD σ H=>∀(pins:List (afw×Obj))(s:afB),Inv X pins σ H s->afP (model X.prog X.w) X.A (execs st X.env) (SP X pins D) X.xe s
section
variable {X:Cx}
theorem aM{e:Expr}:PE X e (SE X e):=λpins s _ _ _ I h=>h pins s I
theorem qK{e:Expr}:PT X e (ST X e):=λpins s _ _ _ I h=>h pins s I
theorem h_{es:List Expr}:PA X es (SA X es):=λpos pins s _ _ _ I h=>h pos pins s I
theorem K9{st:Stmt}:PS X st (SS X st):=λpins s _ _ _ I h=>h pins s I
theorem dN{st:List Stmt}:DE X st (Sq X st):=λpins s _ _ _ I h=>h pins s I
end
def JE(X:Cx)(e:Expr)(g:GE):Prop:=∀(ρ:bC)(st:Hs)(σ:St)(H:Hp)(m:Mp)(Q:VK),bb X.K m st H->aw X.K m H ρ σ->cU X σ m H (g ρ st) Q->SE X e σ H Q
def JT(X:Cx)(e:Expr)(g:GT):Prop:=∀(ρ:bC)(st:Hs)(σ:St)(H:Hp)(m:Mp)(Q:Bool->Hp->Prop),bb X.K m st H->aw X.K m H ρ σ->iU X σ m H (g ρ st) Q->ST X e σ H Q
def JA(X:Cx)(es:List Expr)(g:GA):Prop:=∀(ρ:bC)(st:Hs)(σ:St)(H:Hp)(m:Mp)(Q:List V->Hp->Prop),bb X.K m st H->aw X.K m H ρ σ->K8 X σ m H (g ρ st) Q->SA X es σ H Q
def JS(X:Cx)(s:Stmt)(g:GS):Prop:=∀(ρ:bC)(st:Hs)(σ:St)(H:Hp)(m:Mp)(D:Ends),bb X.K m st H->aw X.K m H ρ σ->aE X m H (g ρ st) D->SS X s D σ H
def lT(X:Cx)(s:List Stmt)(g:GS):Prop:=∀(ρ:bC)(st:Hs)(σ:St)(H:Hp)(m:Mp)(D:Ends),bb X.K m st H->aw X.K m H ρ σ->aE X m H (g ρ st) D->Sq X s D σ H
section
variable {X:Cx}
theorem JE.of{e:Expr}{g:GE}{t:TE}(h:PE X e t)(k:∀(ρ:bC)(st:Hs)(σ:St)(H:Hp)(m:Mp)(Q:VK),bb X.K m st H->aw X.K m H ρ σ->cU X σ m H (g ρ st) Q->t σ H Q):JE X e g :=
 λρ st σ H m Q S R p pins s I=>h pins s σ H Q I (k ρ st σ H m Q S R p)
theorem JT.of{e:Expr}{g:GT}{t:TT}(h:PT X e t)(k:∀(ρ:bC)(st:Hs)(σ:St)(H:Hp)(m:Mp)(Q:Bool->Hp->Prop),bb X.K m st H->aw X.K m H ρ σ->iU X σ m H (g ρ st) Q->t σ H Q):JT X e g :=
 λρ st σ H m Q S R p pins s I=>h pins s σ H Q I (k ρ st σ H m Q S R p)
theorem JA.of{es:List Expr}{g:GA}{t:TA}(h:PA X es t)(k:∀(ρ:bC)(st:Hs)(σ:St)(H:Hp)(m:Mp)(Q:List V->Hp->Prop),bb X.K m st H->aw X.K m H ρ σ->K8 X σ m H (g ρ st) Q->t σ H Q):JA X es g :=
 λρ st σ H m Q S R p pos pins s I=>h pos pins s σ H Q I (k ρ st σ H m Q S R p)
theorem JS.of{e:Stmt}{g:GS}{t:TS}(h:PS X e t)(k:∀(ρ:bC)(st:Hs)(σ:St)(H:Hp)(m:Mp)(D:Ends),bb X.K m st H->aw X.K m H ρ σ->aE X m H (g ρ st) D->t D σ H):JS X e g :=
 λρ st σ H m D S R p pins s I=>h pins s σ H D I (k ρ st σ H m D S R p)
theorem lT.of{e:List Stmt}{g:GS}{t:TS}(h:DE X e t)(k:∀(ρ:bC)(st:Hs)(σ:St)(H:Hp)(m:Mp)(D:Ends),bb X.K m st H->aw X.K m H ρ σ->aE X m H (g ρ st) D->t D σ H):lT X e g :=
 λρ st σ H m D S R p pins s I=>h pins s σ H D I (k ρ st σ H m D S R p)
theorem JE.go{e:Expr}{g:GE}{ρ:bC}{st:Hs}{σ:St}{H:Hp}{m:Mp}{T:VK}{ok:Wv->Hs->Prop}(h:JE X e g)(S:bb X.K m st H)(R:aw X.K m H ρ σ)(p:ax X σ m H (g ρ st) ok)
  (k:∀(w:Wv)(st1:Hs)(v:V)(m1:Mp)(H1:Hp),ok w st1->Ext X.K m H m1 H1->bb X.K m1 st1 H1->ag X.K m1 H1 w v->T v H1):SE X e σ H T :=
 h ρ st σ H m T S R (p.imp Ext.refl λw st1 q v m1 H1 e1 s1 r1=>k w st1 v m1 H1 q e1 s1 r1)
theorem JT.go{e:Expr}{g:GT}{ρ:bC}{st:Hs}{σ:St}{H:Hp}{m:Mp}{T:Bool->Hp->Prop}{ok:Bool->Hs->Prop}(h:JT X e g)(S:bb X.K m st H)(R:aw X.K m H ρ σ)(p:ax X σ m H (g ρ st) ok)
  (k:∀(b:Bool)(st1:Hs)(m1:Mp)(H1:Hp),ok b st1->Ext X.K m H m1 H1->bb X.K m1 st1 H1->T b H1):ST X e σ H T :=
 h ρ st σ H m T S R (p.imp Ext.refl λb st1 q m1 H1 e1 s1=>k b st1 m1 H1 q e1 s1)
theorem JA.go{es:List Expr}{g:GA}{ρ:bC}{st:Hs}{σ:St}{H:Hp}{m:Mp}{T:List V->Hp->Prop}{ok:List Wv->Hs->Prop}(h:JA X es g)(S:bb X.K m st H)(R:aw X.K m H ρ σ)(p:ax X σ m H (g ρ st) ok)
  (k:∀(ws:List Wv)(st1:Hs)(vs:List V)(m1:Mp)(H1:Hp),ok ws st1->Ext X.K m H m1 H1->bb X.K m1 st1 H1->ah X.K m1 H1 ws vs->T vs H1):SA X es σ H T :=
 h ρ st σ H m T S R (p.imp Ext.refl λw st1 q v m1 H1 e1 s1 r1=>k w st1 v m1 H1 q e1 s1 r1)
end
end J
namespace J
open PySem PySem.Spec PyProof.Rows L2
def lim:Nat:=1000000
theorem dZ{n:Nat}(h:n<=lim):n<=afN:=bu h (by unfold lim;rw[sizeLine_eq];decide)
theorem yz{n:Nat}(h:n < lim):n < afN:=aY h (by unfold lim;rw[sizeLine_eq];decide)
def af(i:Nat):GE:=λρ st=>match ρ[i]? with
 | some (some w)=> .ok w st
 | _=> .bad
def gC(w:Wv):GE:=λ_ st=> .ok w st
section
variable {X:Cx}
theorem yA(i:Nat){x:Str}{pos:Pos}(hN:X.N[i]? =some x:=by rfl)(hv:Q1 X.env.scope x:=by first | exact Or.inl rfl | exact lp (Or.inl rfl) | exact lp (lp rfl))(hd:(x == ("__debug__":Str))=false:=by decide)
  (hcd:(x == ("__classdict__":Str))=false:=by decide):JE X (.Name x pos) (af i):=JE.of (DF hN hv hd hcd) λρ st σ H m Q S R p=>by
 unfold af at p
 cases e:ρ[i]? with
 | none=>rw[e] at p;exact ae p
 | some o=>
  cases o with
  | none=>rw[e] at p;exact ae p
  | some w=>
   rw[e] at p
   obtain⟨v,h1,h2⟩:=R.get i w e
   exact⟨v,h1,p v m H Ext.refl S h2⟩
theorem Nl{i:Int}{j pos}:JE X (.Constant (.int i) j pos) (gC (.int i)):=JE.of Mq λρ st σ H m Q S R p=>p (.int i) m H Ext.refl S (by unfold ag;rfl)
theorem Sr{b:Bool}{j pos}:JE X (.Constant (.bool b) j pos) (gC (.bl b)):=JE.of RF λρ st σ H m Q S R p=>p (.bl b) m H Ext.refl S (by unfold ag;rfl)
theorem Nm{j pos}:JE X (.Constant .none j pos) (gC .bO):=JE.of Mr λρ st σ H m Q S R p=>p .bO m H Ext.refl S (by unfold ag;rfl)
theorem Nn{x:PySem.Str}{j pos}(hx:bg x=true:=by decide+kernel):JE X (.Constant (.str x) j pos) (gC (.str x)):=JE.of Ms λρ st σ H m Q S R p=>p (.str x) m H Ext.refl S (by unfold ag;exact⟨rfl,hx⟩)
theorem Ee{x:Str}{i:Int}{t:Tok}{pos:Pos}(hg:Gl X x)(hm:X.mg x=some (.int i t))(hd:(x == ("__debug__":Str))=false:=by decide):JE X (.Name x pos) (gC (.int i)) :=
 JE.of (jd (v:=.int i) hg hm ⟨t,rfl⟩ hd) λρ st σ H m Q S R p=>p (.int i) m H Ext.refl S (by unfold ag;rfl)
theorem Ef{x y:Str}{t:Tok}{pos:Pos}(hg:Gl X x)(hm:X.mg x=some (.str y t))(hy:bg y=true:=by decide+kernel)(hd:(x == ("__debug__":Str))=false:=by decide):JE X (.Name x pos) (gC (.str y)) :=
 JE.of (jd (v:=.str y) hg hm ⟨t,rfl⟩ hd) λρ st σ H m Q S R p=>p (.str y) m H Ext.refl S (by unfold ag;exact⟨rfl,hy⟩)
theorem Ss{x:Str}{T:String}{pos:Pos}(hg:Gl X x)(hm:X.mg x=none)(hv:afG x=some (.type T))(hn:x≠"__name__":=by decide)(hd:(x == ("__debug__":Str))=false:=by decide):JE X (.Name x pos) (gC (.ty T)) :=
 JE.of (Ir (v:=.ty T) hg hm hv rfl hn hd) λρ st σ H m Q S R p=>p (.ty T) m H Ext.refl S (by unfold ag;rfl)
abbrev gA:=Wv->Wv->Hs->Re Wv
def ai(op:gA)(ga gb:GE):GE:=λρ st=>(ga ρ st).bind λx st1=>(gb ρ st1).bind λy st2=>(op x y st2).n4
def Az(X:Cx)(op:gA)(r:R2):Prop:=∀(x y:Wv)(a b:V)(st:Hs)(H:Hp)(m:Mp)(Q:VK),bb X.K m st H->ag X.K m H x a->ag X.K m H y b->eo X.K m H (op x y st) Q->r a b H Q
def lq(X:Cx)(f:afC->afC->Sem afC)(op:gA):Prop:=∃r,fD X f r/\Az X op r
theorem AA{a b:Expr}{ga gb:GE}{op:gA}{r:R2}(h2:Az X op r)(ha:JE X a ga)(hb:JE X b gb){ρ:bC}{st:Hs}{σ:St}{H:Hp}{m:Mp}{Q:VK}(S:bb X.K m st H)(R:aw X.K m H ρ σ)(p:cU X σ m H (ai op ga gb ρ st) Q) :
  RT r (SE X a) (SE X b) σ H Q:=by
 refine ha.go S R (ax.bind p) λx st1 v m1 H1 p1 e1 S1 rx=>?_
 refine hb.go S1 (R.mono e1) ((ax.bind p1).imp e1 λ_ _ q=>q) λy st2 u m2 H2 p2 e2 S2 ry=>?_
 exact h2 x y v u st2 H2 m2 Q S2 (ag.mono e2 _ _ rx) ry (eo.shift (ax.n4 p2) (e1.trans e2))
theorem Np{a b:Expr}{ga gb:GE}{o:Operator}{op:gA}{pos:Pos}(ho:lq X (afF o) op)(ha:JE X a ga)(hb:JE X b gb):JE X (.BinOp a o b pos) (ai op ga gb):=by
 obtain⟨r,h1,h2⟩:=ho
 exact JE.of (RU h1 aM aM) λρ st σ H m Q S R p=>AA h2 ha hb S R p
theorem yB{a b:Expr}{ga gb:GE}{o:CmpOp}{op:gA}{pos:Pos}(ho:lq X (afJ o) op)(ha:JE X a ga)(hb:JE X b gb)(hm:afE o b=false):JE X (.Compare a [o] [b] pos) (ai op ga gb):=by
 obtain⟨r,h1,h2⟩:=ho
 exact JE.of (IG h1 aM aM hm) λρ st σ H m Q S R p=>AA h2 ha hb S R p
def K_(w:Wv)(st:Hs):Re Bool:=match w with
 | .bl b=> .ok b st
 | _=> .bad
def cZ(g:GE):GT:=λρ st=>(g ρ st).bind K_
theorem wG{σ:St}{m:Mp}{H:Hp}{r:Re Wv}{Q:Bool->Hp->Prop}(p:iU X σ m H (r.bind K_) Q):cU X σ m H r (λx H'=>∃k,x= .bl k/\Q k H'):=by
 cases r with
 | ok w st=>
  cases w with
  | bl b=>
   intro v m' H' e S rw'
   unfold ag at rw'
   exact⟨b,rw',p m' H' e S⟩
  | _=>exact ae p
 | err c st=>exact p
 | bad=>exact p
theorem yC{a b:Expr}{ga gb:GE}{o:CmpOp}{op:gA}{pos:Pos}(ho:lq X (afJ o) op)(ha:JE X a ga)(hb:JE X b gb)(hm:afE o b=false):JT X (.Compare a [o] [b] pos) (cZ (ai op ga gb)):=by
 obtain⟨r,h1,h2⟩:=ho
 exact JT.of (IH h1 aM aM hm) λρ st σ H m Q S R p=>AA h2 ha hb S R (wG p)
def j5(op op':gA)(ga gb gc:GE):GE:=λρ st=>(ga ρ st).bind λx st1=>(gb ρ st1).bind λy st2=>(op x y st2).n4.bind λz st3=>match z with
 | .bl true=>(gc ρ st3).bind λu AB=>(op' y u AB).n4
 | .bl false=> .ok (.bl false) st3
 | _=> .bad
theorem K'{a b c:Expr}{ga gb gc:GE}{op op':gA}{r r':R2}(h2:Az X op r)(h2':Az X op' r')(ha:JE X a ga)(hb:JE X b gb)(hc:JE X c gc){ρ:bC}{st:Hs}{σ:St}{H:Hp}{m:Mp}{Q:VK}
  (S:bb X.K m st H)(R:aw X.K m H ρ σ)(p:cU X σ m H (j5 op op' ga gb gc ρ st) Q):yi r r' (SE X a) (SE X b) (SE X c) σ H Q:=by
 refine ha.go S R (ax.bind p) λx st1 v m1 H1 p1 e1 S1 rx=>?_
 refine hb.go S1 (R.mono e1) ((ax.bind p1).imp e1 λ_ _ q=>q) λy st2 u m2 H2 p2 e2 S2 ry=>?_
 refine h2 x y v u st2 H2 m2 _ S2 (ag.mono e2 _ _ rx) ry (qJ.imp (ax.n4 (ax.bind p2)) λz st3 p3=>?_)
 intro z' m3 H3 e3 S3 rz
 cases z with
 | bl k=>
  unfold ag at rz
  refine⟨k,rz,?_⟩
  cases k with
  | true=>
   rw[if_pos rfl]
   refine hc.go S3 (R.mono (e1.trans (e2.trans e3))) ((ax.bind p3).imp (e1.trans (e2.trans e3)) λ_ _ q=>q) λq AB u' m4 H4 p4 e4 S4 rq=>?_
   exact h2' y q u u' AB H4 m4 Q S4 (ag.mono (e3.trans e4) _ _ ry) rq (eo.shift (ax.n4 p4) (e1.trans (e2.trans (e3.trans e4))))
  | false=>
   rw[if_neg cT]
   exact p3 (.bl false) m3 H3 (e1.trans (e2.trans e3)) S3 (by unfold ag;rfl)
 | _=>exact ae p3
theorem Eg{a b c:Expr}{ga gb gc:GE}{o o':CmpOp}{op op':gA}{pos:Pos}(ho:lq X (afJ o) op)(ho':lq X (afJ o') op')(ha:JE X a ga)(hb:JE X b gb)(hc:JE X c gc)
  (hm:lastMarks [o,o'] [b,c]=false:=by with_unfolding_all rfl):JE X (.Compare a [o,o'] [b,c] pos) (j5 op op' ga gb gc):=by
 obtain⟨r,h1,h2⟩:=ho
 obtain⟨r',Ia,h2'⟩:=ho'
 exact JE.of (DN h1 Ia aM aM aM hm) λρ st σ H m Q S R p=>K' h2 h2' ha hb hc S R p
theorem Eh{a b c:Expr}{ga gb gc:GE}{o o':CmpOp}{op op':gA}{pos:Pos}(ho:lq X (afJ o) op)(ho':lq X (afJ o') op')(ha:JE X a ga)(hb:JE X b gb)(hc:JE X c gc)
  (hm:lastMarks [o,o'] [b,c]=false:=by with_unfolding_all rfl):JT X (.Compare a [o,o'] [b,c] pos) (cZ (j5 op op' ga gb gc)):=by
 obtain⟨r,h1,h2⟩:=ho
 obtain⟨r',Ia,h2'⟩:=ho'
 exact JT.of (DO h1 Ia aM aM aM hm) λρ st σ H m Q S R p=>K' h2 h2' ha hb hc S R (wG p)
def Dx(op:Wv->Hs->Re Wv)(ga:GE):GE:=λρ st=>(ga ρ st).bind op
def jK:Wv->Hs->Re Wv
 | .int i,st=> .ok (.int (-i)) st
 | _,_=> .bad
theorem Nq{a:Expr}{ga:GE}{pos:Pos}(ha:JE X a ga):JE X (.UnaryOp .USub a pos) (Dx jK ga):=by
 refine JE.of (RV MN aM) λρ st σ H m Q S R p=>?_
 refine ha.go S R (ax.bind p) λx st1 v m1 H1 p1 e1 S1 rx=>?_
 cases x with
 | int i=>
  unfold ag at rx
  exact⟨i,rx,p1 _ m1 H1 e1 S1 (by unfold ag;rfl)⟩
 | _=>exact ae p1
def SW(X:Cx)(e:Expr):TT:=λσ H Q=>∀(wh:Sem afC)(pins:List (afw×Obj))(s:afB),Inv X pins σ H s->afP (model X.prog X.w) X.A (isTrue e X.env wh) (TP X pins σ Q) X.xe s
theorem La{e:Expr}:PW X e (SW X e):=λwh pins s _ _ _ I h=>h wh pins s I
def JW(X:Cx)(e:Expr)(g:GT):Prop:=∀(ρ:bC)(st:Hs)(σ:St)(H:Hp)(m:Mp)(Q:Bool->Hp->Prop),bb X.K m st H->aw X.K m H ρ σ->iU X σ m H (g ρ st) Q->SW X e σ H Q
theorem JW.of{e:Expr}{g:GT}{t:TT}(h:PW X e t)(k:∀(ρ:bC)(st:Hs)(σ:St)(H:Hp)(m:Mp)(Q:Bool->Hp->Prop),bb X.K m st H->aw X.K m H ρ σ->iU X σ m H (g ρ st) Q->t σ H Q):JW X e g :=
 λρ st σ H m Q S R p wh pins s I=>h wh pins s σ H Q I (k ρ st σ H m Q S R p)
theorem JW.jt{e:Expr}{g:GT}(h:JW X e g):JT X e g:=λρ st σ H m Q S R p pins s I=>h ρ st σ H m Q S R p _ pins s I
def B9(ga gb:GT):GT:=λρ st=>(ga ρ st).bind λb st1=>if b=true then gb ρ st1 else .ok false st1
def Su(ga gb:GT):GT:=λρ st=>(ga ρ st).bind λb st1=>if b=true then .ok true st1 else gb ρ st1
def B_(ga:GT):GT:=λρ st=>(ga ρ st).bind λb st1=> .ok (!b) st1
theorem Jb{a:Expr}{ga:GT}{pos:Pos}(ha:JT X a ga):JW X (.BoolOp .And [a] pos) ga:=JW.of (Iu qK) λρ st σ H m Q S R p=>ha ρ st σ H m Q S R p
theorem Nr{a:Expr}{ga:GT}{pos:Pos}(ha:JT X a ga):JW X (.BoolOp .Or [a] pos) ga:=JW.of (Mu qK) λρ st σ H m Q S R p=>ha ρ st σ H m Q S R p
theorem Nt{a b:Expr}{rest:List Expr}{ga gb:GT}{pos:Pos}(ha:JT X a ga)(hb:JW X (.BoolOp .And (b::rest) pos) gb):JW X (.BoolOp .And (a::b::rest) pos) (B9 ga gb):=by
 refine JW.of (Mv qK La) λρ st σ H m Q S R p=>?_
 refine ha.go S R (ax.bind p) λc st1 m1 H1 p1 e1 S1=>?_
 cases c with
 | true=>rw[if_pos rfl] at p1 ⊢;exact hb ρ st1 σ H1 m1 Q S1 (R.mono e1) (iU.shift p1 e1)
 | false=>rw[if_neg cT] at p1 ⊢;exact p1 m1 H1 e1 S1
theorem Sv{a b:Expr}{rest:List Expr}{ga gb:GT}{pos:Pos}(ha:JT X a ga)(hb:JW X (.BoolOp .Or (b::rest) pos) gb):JW X (.BoolOp .Or (a::b::rest) pos) (Su ga gb):=by
 refine JW.of (RG qK La) λρ st σ H m Q S R p=>?_
 refine ha.go S R (ax.bind p) λc st1 m1 H1 p1 e1 S1=>?_
 cases c with
 | true=>rw[if_pos rfl] at p1 ⊢;exact p1 m1 H1 e1 S1
 | false=>rw[if_neg cT] at p1 ⊢;exact hb ρ st1 σ H1 m1 Q S1 (R.mono e1) (iU.shift p1 e1)
theorem Nu{a:Expr}{ga:GT}{pos:Pos}(ha:JT X a ga):JT X (.UnaryOp .Not a pos) (B_ ga):=by
 refine JT.of (Mw qK) λρ st σ H m Q S R p=>?_
 exact ha.go S R (ax.bind p) λc st1 m1 H1 p1 e1 S1=>p1 m1 H1 e1 S1
def lU(ga gb:GE):GE:=λρ st=>(ga ρ st).bind λw st1=>match w with
 | .bl true=>gb ρ st1
 | .bl false=> .ok (.bl false) st1
 | _=> .bad
def Sw(ga gb:GE):GE:=λρ st=>(ga ρ st).bind λw st1=>match w with
 | .bl true=> .ok (.bl true) st1
 | .bl false=>gb ρ st1
 | _=> .bad
def Lb(ga:GE):GE:=λρ st=>(ga ρ st).bind λw st1=>match w with
 | .bl b=> .ok (.bl (!b)) st1
 | _=> .bad
theorem Ei{op}{a:Expr}{ga:GE}{pos:Pos}(ha:JE X a ga):JE X (.BoolOp op [a] pos) ga:=JE.of (Mx aM) λρ st σ H m Q S R p=>ha ρ st σ H m Q S R p
theorem Nv{a b:Expr}{rest:List Expr}{ga gb:GE}{pos:Pos}(ha:JE X a ga)(hb:JE X (.BoolOp .And (b::rest) pos) gb):JE X (.BoolOp .And (a::b::rest) pos) (lU ga gb):=by
 refine JE.of (Mz aM aM) λρ st σ H m Q S R p=>?_
 refine ha.go S R (ax.bind p) λx st1 v m1 H1 p1 e1 S1 rx=>?_
 cases x with
 | bl c=>
  unfold ag at rx
  refine⟨c,rx,?_⟩
  cases c with
  | true=>rw[if_pos rfl];exact hb ρ st1 σ H1 m1 Q S1 (R.mono e1) (cU.shift p1 e1)
  | false=>rw[if_neg cT];exact p1 _ m1 H1 e1 S1 (by unfold ag;rfl)
 | _=>exact ae p1
theorem Sx{a b:Expr}{rest:List Expr}{ga gb:GE}{pos:Pos}(ha:JE X a ga)(hb:JE X (.BoolOp .Or (b::rest) pos) gb):JE X (.BoolOp .Or (a::b::rest) pos) (Sw ga gb):=by
 refine JE.of (RJ aM aM) λρ st σ H m Q S R p=>?_
 refine ha.go S R (ax.bind p) λx st1 v m1 H1 p1 e1 S1 rx=>?_
 cases x with
 | bl c=>
  unfold ag at rx
  refine⟨c,rx,?_⟩
  cases c with
  | true=>rw[if_pos rfl];exact p1 _ m1 H1 e1 S1 (by unfold ag;rfl)
  | false=>rw[if_neg cT];exact hb ρ st1 σ H1 m1 Q S1 (R.mono e1) (cU.shift p1 e1)
 | _=>exact ae p1
theorem Nw{a:Expr}{ga:GE}{pos:Pos}(ha:JE X a ga):JE X (.UnaryOp .Not a pos) (Lb ga):=by
 refine JE.of (MA aM) λρ st σ H m Q S R p=>?_
 refine ha.go S R (ax.bind p) λx st1 v m1 H1 p1 e1 S1 rx=>?_
 cases x with
 | bl c=>
  unfold ag at rx
  exact⟨c,rx,p1 _ m1 H1 e1 S1 (by unfold ag;rfl)⟩
 | _=>exact ae p1
def wH(gt:GT)(ga gb:GE):GE:=λρ st=>(gt ρ st).bind λb st1=>if b=true then ga ρ st1 else gb ρ st1
theorem Sy{c a b:Expr}{gt:GT}{ga gb:GE}{pos:Pos}(hc:JT X c gt)(ha:JE X a ga)(hb:JE X b gb):JE X (.IfExp c a b pos) (wH gt ga gb):=by
 refine JE.of (DG qK aM aM) λρ st σ H m Q S R p=>?_
 refine hc.go S R (ax.bind p) λk st1 m1 H1 p1 e1 S1=>?_
 cases k with
 | true=>rw[if_pos rfl] at p1 ⊢;exact ha ρ st1 σ H1 m1 Q S1 (R.mono e1) (cU.shift p1 e1)
 | false=>rw[if_neg cT] at p1 ⊢;exact hb ρ st1 σ H1 m1 Q S1 (R.mono e1) (cU.shift p1 e1)
def aj:GA:=λ_ st=> .ok [] st
def aa(ga:GE)(gr:GA):GA:=λρ st=>(ga ρ st).bind λx st1=>(gr ρ st1).bind λxs st2=> .ok (x::xs) st2
theorem Ej:JA X [] aj:=JA.of MQ λρ st σ H m Q S R p=>p [] m H Ext.refl S ah.nil
theorem AD{e:Expr}{es:List Expr}{ga:GE}{gr:GA}(ha:JE X e ga)(hr:JA X es gr)(hs:afO (e::es) X.env=(false,eval e X.env)::afO es X.env:=by rfl):JA X (e::es) (aa ga gr):=by
 refine JA.of (II aM h_ hs) λρ st σ H m Q S R p=>?_
 refine ha.go S R (ax.bind p) λx st1 v m1 H1 p1 e1 S1 rx=>?_
 refine hr.go S1 (R.mono e1) ((ax.bind p1).imp e1 λ_ _ q=>q) λxs st2 vs m2 H2 p2 e2 S2 rs=>?_
 exact p2 (v::vs) m2 H2 (e1.trans e2) S2 (ah.cons (ag.mono e2 _ _ rx) rs)
def bz(g:GA):GE:=λρ st=>(g ρ st).bind λws st1=>if ws.length<=lim then .ok (.tup ws) st1 else .bad
def cH(g:GA):GE:=λρ st=>(g ρ st).bind λws st1=>if ws.length<=lim then .ok (.ref st1.length) (st1++[.lst ws]) else .bad
theorem Nx{es:List Expr}{g:GA}{x1 pos}(h:JA X es g):JE X (.Tuple es x1 pos) (bz g):=by
 refine JE.of (MR h_) λρ st σ H m Q S R p=>?_
 refine h.go S R (ax.bind p) λws st1 vs m1 H1 p1 e1 S1 rs=>?_
 by_cases hl:ws.length<=lim
 ·rw[if_pos hl] at p1
  refine⟨by rw[<-rs.length];exact dZ hl,λq hq=>?_⟩
  have e2:Ext X.K m1 H1 m1 (upd H1 q (.tup vs)):=Ext.upd (.inl hq)
  exact p1 (.ref q) m1 _ (e1.trans e2) (S1.fresh hq) (by unfold ag;exact⟨q,vs,rfl,aJ,ah.mono e2 _ _ rs⟩)
 ·rw[if_neg hl] at p1;exact ae p1
theorem bb.newest{K:PySem.W.Frag}{m:Mp}{st:Hs}{H:Hp}(S:bb K m st H)(q:afw)(H':Hp):ag K (m++[q]) H' (.ref st.length) (.ref q):=by
 unfold ag
 refine⟨q,rfl,?_⟩
 rw[<-S.len,fW (au _),ni]
 rfl
theorem nj{m m1:Mp}{H H1:Hp}{st1:Hs}{ws:List Wv}{vs:List V}{Q:VK}(p1:Q6 X.K m H Q (.ref st1.length) (st1++[.lst ws]))(e1:Ext X.K m H m1 H1)(S1:bb X.K m1 st1 H1)(rs:ah X.K m1 H1 ws vs)(q:afw)(hq:H1 q=none) :
  Q (.ref q) (upd H1 q (.lst vs)) :=
 p1 (.ref q) (m1++[q]) _ (e1.trans (Ext.more.trans (Ext.upd (.inl hq)))) (S1.alloc hq rs) (S1.newest q _)
theorem Ny{es:List Expr}{g:GA}{pos}(h:JA X es g):JE X (.List es pos) (cH g):=by
 refine JE.of (MS h_) λρ st σ H m Q S R p=>?_
 refine h.go S R (ax.bind p) λws st1 vs m1 H1 p1 e1 S1 rs=>?_
 by_cases hl:ws.length<=lim
 ·rw[if_pos hl] at p1
  exact⟨by rw[<-rs.length];exact dZ hl,λq hq=>nj p1 e1 S1 rs q hq⟩
 ·rw[if_neg hl] at p1;exact ae p1
end
section
variable {X:Cx}
theorem fD.or{f:afC->afC->Sem afC}{r r':R2}(h:fD X f r)(h':fD X f r'):fD X f (λx y H Q=>r x y H Q\/r' x y H Q):=by
 intro pins s σ H x y v u Q I rx ry q
 rcases q with q | q
 ·exact h pins s σ H x y v u Q I rx ry q
 ·exact h' pins s σ H x y v u Q I rx ry q
theorem Ek:fD X (afF .FloorDiv) (rI (λ_ j=>j≠0/\j.natAbs.log2 < 9000) λi j=> .int (i.fdiv j)):=Vd λi j _ _ _ _ _ hc q=>floordiv_int hc.1 q (.inl (PyProof.noPylong_of_log2 hc.2))
theorem Jc:fD X (afF .Mod) (rI (λ_ j=>j≠0) λi j=> .int (i.fmod j)):=Vd λi j _ _ _ _ _ hc q=>mod_int' hc q
theorem Jd:fD X (afF .Mult) (rI (λi j=>IntMulOk i j) λi j=> .int (i * j)):=Vd λ_ _ _ _ _ _ _ hc q=>mul_int q hc
instance WH{a b:Int}:Decidable (IntMulOk a b):=by unfold IntMulOk;infer_instance
def eJ:gA
 | .int i,.int j,st=> .ok (.int (i - j)) st
 | _,_,_=> .bad
def f_:gA
 | .int i,.int j,st=>if j≠0/\j.natAbs.log2 < 9000 then .ok (.int (i.fdiv j)) st else .bad
 | _,_,_=> .bad
def oMod:gA
 | .int i,.int j,st=>if j≠0 then .ok (.int (i.fmod j)) st else .bad
 | _,_,_=> .bad
def lM:gA
 | .int i,.int j,st=>if 0<=j/\j<=1000000/\i.natAbs < 2 ^ 64 then .ok (.int (i ^ j.toNat)) st else .bad
 | _,_,_=> .bad
def Sz:gA
 | .int i,.int j,st=> .ok (.bl (decide (i < j))) st
 | .str i,.str j,st=> .ok (.bl (decide (i.cps.toList < j.cps.toList))) st
 | _,_,_=> .bad
def SD:gA
 | .int i,.int j,st=> .ok (.bl (decide (i<=j))) st
 | _,_,_=> .bad
def WI:gA
 | .int i,.int j,st=> .ok (.bl (decide (j < i))) st
 | _,_,_=> .bad
def WJ:gA
 | .int i,.int j,st=> .ok (.bl (decide (j<=i))) st
 | _,_,_=> .bad
theorem aL{m:Mp}{H:Hp}{i:Int}{a:V}(h:ag X.K m H (.int i) a):a= .int i:=by unfold ag at h;exact h
theorem SF{m:Mp}{H:Hp}{b:Bool}{a:V}(h:ag X.K m H (.bl b) a):a= .bl b:=by unfold ag at h;exact h
theorem eK{m:Mp}{H:Hp}{x:PySem.Str}{a:V}(h:ag X.K m H (.str x) a):a= .str x/\bg x=true:=by unfold ag at h;exact h
theorem mkInt{m:Mp}{H:Hp}{i:Int}:ag X.K m H (.int i) (.int i):=by unfold ag;rfl
theorem jh{m:Mp}{H:Hp}{i:Bool}:ag X.K m H (.bl i) (.bl i):=by unfold ag;rfl
theorem AE{m:Mp}{H:Hp}:ag X.K m H .bO .bO:=by unfold ag;rfl
theorem mkStr{m:Mp}{H:Hp}{x:PySem.Str}(h:bg x=true):ag X.K m H (.str x) (.str x):=by unfold ag;exact⟨rfl,h⟩
theorem Nz:lq X (afF .Sub) eJ:=⟨_,ML,λx y a b st H m Q S rx ry p=>by
 cases x with
 | int i=>
  cases y with
  | int j=>exact⟨i,j,aL rx,aL ry,p _ m H Ext.refl S mkInt⟩
  | _=>exact ae p
 | _=>cases y<;>exact ae p⟩
theorem Je:lq X (afF .FloorDiv) f_:=⟨_,Ek,λx y a b st H m Q S rx ry p=>by
 cases x with
 | int i=>
  cases y with
  | int j=>
   dsimp only[f_] at p
   by_cases c:j≠0/\j.natAbs.log2 < 9000
   ·rw[if_pos c] at p;exact⟨i,j,aL rx,aL ry,c,p _ m H Ext.refl S mkInt⟩
   ·rw[if_neg c] at p;exact ae p
  | _=>exact ae p
 | _=>cases y<;>exact ae p⟩
theorem NA:lq X (afF .Mod) oMod:=⟨_,Jc,λx y a b st H m Q S rx ry p=>by
 cases x with
 | int i=>
  cases y with
  | int j=>
   dsimp only[oMod] at p
   by_cases c:j≠0
   ·rw[if_pos c] at p;exact⟨i,j,aL rx,aL ry,c,p _ m H Ext.refl S mkInt⟩
   ·rw[if_neg c] at p;exact ae p
  | _=>exact ae p
 | _=>cases y<;>exact ae p⟩
theorem NC:lq X (afF .Pow) lM:=⟨_,MM,λx y a b st H m Q S rx ry p=>by
 cases x with
 | int i=>
  cases y with
  | int j=>
   dsimp only[lM] at p
   by_cases c:0<=j/\j<=1000000/\i.natAbs < 2 ^ 64
   ·rw[if_pos c] at p;exact⟨i,j,aL rx,aL ry,c,p _ m H Ext.refl S mkInt⟩
   ·rw[if_neg c] at p;exact ae p
  | _=>exact ae p
 | _=>cases y<;>exact ae p⟩
theorem SG:lq X (afJ .Lt) Sz:=⟨_,fD.or RX BW,λx y a b st H m Q S rx ry p=>by
 cases x with
 | int i=>
  cases y with
  | int j=>exact .inl ⟨i,j,aL rx,aL ry,p _ m H Ext.refl S jh⟩
  | _=>exact ae p
 | str i=>
  cases y with
  | str j=>exact .inr ⟨i,j,(eK rx).1,(eK ry).1,p _ m H Ext.refl S jh⟩
  | _=>exact ae p
 | _=>cases y<;>exact ae p⟩
theorem SH:lq X (afJ .LtE) SD:=⟨_,RY,λx y a b st H m Q S rx ry p=>by
 cases x with
 | int i=>
  cases y with
  | int j=>exact⟨i,j,aL rx,aL ry,p _ m H Ext.refl S jh⟩
  | _=>exact ae p
 | _=>cases y<;>exact ae p⟩
theorem SI:lq X (afJ .Gt) WI:=⟨_,RZ,λx y a b st H m Q S rx ry p=>by
 cases x with
 | int i=>
  cases y with
  | int j=>exact⟨i,j,aL rx,aL ry,p _ m H Ext.refl S jh⟩
  | _=>exact ae p
 | _=>cases y<;>exact ae p⟩
theorem SJ:lq X (afJ .GtE) WJ:=⟨_,R0,λx y a b st H m Q S rx ry p=>by
 cases x with
 | int i=>
  cases y with
  | int j=>exact⟨i,j,aL rx,aL ry,p _ m H Ext.refl S jh⟩
  | _=>exact ae p
 | _=>cases y<;>exact ae p⟩
def SK:gA
 | x,.bO,st=> .ok (.bl (match x with | .bO=>true | _=>false)) st
 | _,_,_=> .bad
def qL:gA
 | x,.bO,st=> .ok (.bl (match x with | .bO=>false | _=>true)) st
 | _,_,_=> .bad
theorem Lc{m:Mp}{H:Hp}{x:Wv}{a:V}(h:ag X.K m H x a):decide (a=V.bO)=(match x with | .bO=>true | _=>false):=by
 cases x with
 | bO=>unfold ag at h;subst h;rfl
 | bl b=>unfold ag at h;subst h;rfl
 | int b=>unfold ag at h;subst h;rfl
 | str b=>unfold ag at h;obtain⟨h,_⟩:=h;subst h;rfl
 | tup b=>unfold ag at h;obtain⟨q,xs,h,_⟩:=h;subst h;rfl
 | pB b=>unfold ag at h;obtain⟨q,xs,h,_⟩:=h;subst h;rfl
 | ref b=>unfold ag at h;obtain⟨q,h,_⟩:=h;subst h;rfl
 | ty b=>unfold ag at h;subst h;rfl
 | cls b=>unfold ag at h;obtain⟨q,h,_⟩:=h;subst h;rfl
 | lh b=>unfold ag at h;obtain⟨q,C,h,_⟩:=h;subst h;rfl
 | fn fp b=>unfold ag at h;obtain⟨h,_⟩:=h;subst h;rfl
theorem SM:lq X (afJ .Is) SK:=⟨_,MO,λx y a b st H m Q S rx ry p=>by
 cases y with
 | bO=>
  refine⟨by unfold ag at ry;exact ry,?_⟩
  rw[Lc rx]
  cases x<;>exact p _ m H Ext.refl S jh
 | _=>cases x<;>exact ae p⟩
theorem El:lq X (afJ .IsNot) qL:=⟨_,IF,λx y a b st H m Q S rx ry p=>by
 cases y with
 | bO=>
  refine⟨by unfold ag at ry;exact ry,?_⟩
  rw[Lc rx]
  cases x<;>exact p _ m H Ext.refl S jh
 | _=>cases x<;>exact ae p⟩
theorem uW{a b:PySem.Str}(ha:bg a=true)(hb:bg b=true):bg (a++b)=true:=by
 unfold bg at *
 show((a.cps++b.cps).all _)=true
 rw[Array.all_append,ha,hb]
 rfl
def SN(K:PySem.W.Frag):R2:=λx y H Q=>∃l b xs zs,x= .ref l/\y= .ref b/\jT K H l xs/\jT K H b zs/\xs.length+zs.length<=afN/\∀p,H p=none->Q (.ref p) (upd H p (.lst (xs++zs)))
theorem Jf:fD X (afF .Add) (SN X.K):=by
 intro pins s σ H x y v u Q I rx ry h
 obtain⟨l,b,xs,zs,rfl,rfl,hH,hB,hz,q⟩:=h
 cases rx
 cases ry
 obtain⟨its,r,pl,hs⟩:=I.list hH
 obtain⟨its2,r2,pl2,hs2⟩:=I.list hB
 have hl:=r.length
 have hl2:=r2.length
 obtain⟨⟨cls,dd,data,sl⟩,ho,hc,n,hd⟩:=id pl.isList
 obtain⟨⟨Wz,dd2,data2,sl2⟩,ho2,hc2,n2,hd2⟩:=id pl2.isList
 simp only at hc hd hc2 hd2
 subst hc hd hc2 hd2
 have e:its.toArray++its2.toArray=(its++its2).toArray:=by simp
 refine PySem.concat_meets ⟨_,ho,rfl⟩ ⟨_,ho2,rfl⟩ PySem.noFill_list_add PySem.seq_list_add PySem.F.slot_list_add PySem.F.entry_list_add (PySem.F.args_list_add_2 _ _) (list_addW l b its.toArray its2.toArray n n2 dd dd2 sl sl2 (by simp;omega)) ⟨ho,ho2,?_⟩
 rw[e]
 exact⟨.ref _,_,I.IV (t':=s.toks) (r.append r2) (by rw[bZ];omega),rfl,q _ I.fresh⟩
def SQ(K:PySem.W.Frag):R2:=λx y H Q=>∃a b ys,x= .ref a/\y= .ref b/\eF K H a []/\eF K H b ys/\Q (.ref b) H
theorem Jg:fD X (afF .Add) (SQ X.K):=by
 intro pins s σ H x y v u Q I rx ry h
 obtain⟨a,b,ys,rfl,rfl,ha,hb,q⟩:=h
 cases rx
 cases ry
 obtain⟨its,r1,p1,_⟩:=I.tuple ha
 obtain⟨its2,r2,p2,_⟩:=I.tuple hb
 cases r1
 obtain⟨⟨c1,d1,t1,l1⟩,g1,k1,n1,j1⟩:=id p1
 obtain⟨⟨c2,d2,t2,l2⟩,g2,k2,n2,j2⟩:=id p2
 simp only at k1 j1 k2 j2
 subst k1 j1 k2 j2
 exact PySem.concat_meets ⟨_,g1,rfl⟩ ⟨_,g2,rfl⟩ PySem.noFill_tuple_add PySem.seq_tuple_add PySem.F.slot_tuple_add PySem.F.entry_tuple_add (PySem.F.args_tuple_add_2 _ _) (tuple_addW0 a b #[] its2.toArray n1 n2 d1 d2 l1 l2 (by simp)) ⟨g1,g2,⟨.ref b,H,I,rfl,q⟩⟩
def a9:gA
 | .int i,.int j,st=> .ok (.int (i+j)) st
 | .str i,.str j,st=>if i.length+j.length<=lim then .ok (.str (i++j)) st else .bad
 | .tup i,.tup j,st=>if i.length+j.length<=lim then .ok (.tup (i++j)) st else .bad
 | .ref l,.ref k,st=>match aq st l,aq st k with
  | some i,some j=>if i.length+j.length<=lim then .ok (.ref st.length) (st++[.lst (i++j)]) else .bad
  | _,_=> .bad
 | _,_,_=> .bad
instance {α:Type}{xs:List α}:Decidable (xs≠[]):=match xs with
 | []=>isFalse (λh=>h rfl)
 | _::_=>isTrue (λh=>by cases h)
theorem ND:lq X (afF .Add) a9:=⟨_,fD.or MK (fD.or yk (fD.or IP (fD.or Jf Jg))),λx y a b st H m Q S rx ry p=>by
 cases x with
 | int i=>
  cases y with
  | int j=>exact .inl ⟨i,j,aL rx,aL ry,p _ m H Ext.refl S mkInt⟩
  | _=>exact ae p
 | str i=>
  cases y with
  | str j=>
   dsimp only[a9] at p
   by_cases c:i.length+j.length<=lim
   ·rw[if_pos c] at p
    exact .inr (.inl ⟨i,j,(eK rx).1,(eK ry).1,dZ c,p _ m H Ext.refl S (mkStr (uW (eK rx).2 (eK ry).2))⟩)
   ·rw[if_neg c] at p;exact ae p
  | _=>exact ae p
 | tup i=>
  cases y with
  | tup j=>
   dsimp only[a9] at p
   by_cases c:i.length+j.length<=lim
   ·rw[if_pos c] at p
    by_cases c0:i=[]
    ·subst c0
     unfold ag at rx ry
     obtain⟨a1,xs,rfl,h1,h2⟩:=rx
     obtain⟨a2,ys,rfl,h3,h4⟩:=ry
     have l1:xs=[]:=Em h2.length.symm
     subst l1
     exact .inr (.inr (.inr (.inr ⟨a1,a2,ys,rfl,rfl,eF.of h1,eF.of h3,p (.ref a2) m H Ext.refl S (by rw[mZ];unfold ag;exact⟨a2,ys,rfl,h3,h4⟩)⟩)))
    unfold ag at rx ry
    obtain⟨a1,xs,rfl,h1,h2⟩:=rx
    obtain⟨a2,ys,rfl,h3,h4⟩:=ry
    have l1:=h2.length
    have l2:=h4.length
    have n1:xs≠[]:=λz=>by rw[z] at l1;exact c0 (Em l1)
    refine .inr (.inr (.inl ⟨a1,a2,xs,ys,rfl,rfl,eF.of h1,eF.of h3,n1,by rw[<-l1,<-l2];exact dZ c,λz=>?_,λ_ q hq=>?_⟩))
    ·rw[z] at l2
     rw[Em l2,fk] at p
     exact p (.ref a1) m H Ext.refl S (by unfold ag;exact⟨a1,xs,rfl,h1,h2⟩)
    have e2:Ext X.K m H m (upd H q (.tup (xs++ys))):=Ext.upd (.inl hq)
    exact p (.ref q) m _ e2 (S.fresh hq) (by unfold ag;exact⟨q,xs++ys,rfl,aJ,ah.mono e2 _ _ (h2.append h4)⟩)
   ·rw[if_neg c] at p;exact ae p
  | _=>exact ae p
 | ref l=>
  cases y with
  | ref k=>
   dsimp only[a9] at p
   unfold ag at rx ry
   obtain⟨a1,rfl,h1⟩:=rx
   obtain⟨a2,rfl,h2⟩:=ry
   cases e1:aq st l with
   | none=>rw[e1] at p;exact ae p
   | some i=>
    cases e2:aq st k with
    | none=>rw[e1,e2] at p;exact ae p
    | some j=>
     rw[e1,e2] at p
     by_cases c:i.length+j.length<=lim
     ·simp only[if_pos c] at p
      obtain⟨xs,q1,q2⟩:=S.read h1 e1
      obtain⟨ys,q3,q4⟩:=S.read h2 e2
      exact .inr (.inr (.inr (.inl ⟨a1,a2,xs,ys,rfl,rfl,q1,q3,by rw[<-q2.length,<-q4.length];exact dZ c,λq hq=>nj p Ext.refl S (q2.append q4) q hq⟩)))
     ·simp only[if_neg c] at p;exact ae p
  | _=>exact ae p
 | _=>cases y<;>exact ae p⟩
def wI(n:Nat)(x:PySem.Str):PySem.Str:=⟨(aH n x.cps).foldl (· ++·) #[]⟩
end
open PySem PySem.Spec PySem.SeqAt PyProof.Rows L2
def gQ{α β:Type}(f:α->Option β):List α->Option (List β)
 | []=>some []
 | w::ws=>match f w,gQ f ws with
  | some d,some ds=>some (d::ds)
  | _,_=>none
def aS(st:Hs):Nat->Wv->Option PyData
 | 0,w=>match w with
  | .bO=>some .none
  | .bl b=>some (.bool b)
  | .int i=>some (.int i)
  | .str x=>some (.str x)
  | _=>none
 | n+1,w=>match w with
  | .bO=>some .none
  | .bl b=>some (.bool b)
  | .int i=>some (.int i)
  | .str x=>some (.str x)
  | .tup ws=>(gQ (aS st n) ws).map .tuple
  | .pB ws=>(gQ (aS st n) ws).map .tuple
  | .ref l=>match aq st l with
   | some ws=>(gQ (aS st n) ws).map .list
   | none=>none
  | .ty _=>none
  | .cls _=>none
  | .lh _=>none
  | .fn _ _=>none
section
variable {X:Cx} {pins:List (afw×Obj)} {σ:St} {H:Hp} {s:afB} {m:Mp} {st:Hs}
def Ld(h:Heap)(n:Nat)(u:afC)(d:PyData):Prop:=∃as,Reads h u d as/\d.canLay0=true/\d.depth<=n
theorem lr{n:Nat}(ih:∀(w:Wv)(a:V)(u:afC)(d:PyData),ag X.K m H w a->RelV a u->aS st n w=some d->Ld s.heap n u d) :
  ∀(ws:List Wv)(xs:List V)(us:List afC)(ds:List PyData),ah X.K m H ws xs->Vals xs us->gQ (aS st n) ws=some ds->∃as,ReadsAll s.heap us ds as/\PyData.canLayAll0 ds=true/\PyData.depthAll ds<=n
 | [],xs,us,ds,h,r,e=>by
  unfold ah at h
  subst h
  cases r
  cases e
  exact⟨[],.nil,rfl,bG _⟩
 | w::ws,xs,us,ds,h,r,e=>by
  unfold ah at h
  obtain⟨x,xr,rfl,h1,h2⟩:=h
  cases r with
  | cons r1 r2=>
   unfold gQ at e
   cases e1:aS st n w with
   | none=>rw[e1] at e;cases e
   | some d=>
    cases e2:gQ (aS st n) ws with
    | none=>rw[e1,e2] at e;cases e
    | some dr=>
     rw[e1,e2] at e
     cases e
     obtain⟨as,q1,q2,q3⟩:=ih w x _ d h1 r1 e1
     obtain⟨bs,p1,p2,p3⟩:=lr ih ws xr _ dr h2 r2 e2
     refine⟨as++bs,.cons q1 p1,?_,?_⟩
     ·show(PyData.canLay0 d&&PyData.canLayAll0 dr)=true
      rw[q2,p2];rfl
     ·show max d.depth (PyData.depthAll dr)<=n
      omega
theorem iV(I:Inv X pins σ H s)(S:bb X.K m st H):∀(n:Nat)(w:Wv)(a:V)(u:afC)(d:PyData),ag X.K m H w a->RelV a u->aS st n w=some d->Ld s.heap n u d:=by
 intro n
 induction n with
 | zero=>
  intro w a u d h r e
  cases w with
  | bO=>unfold ag at h;subst h;cases r;cases e;exact⟨[],.none,rfl,au _⟩
  | bl b=>unfold ag at h;subst h;cases r;cases e;exact⟨[],.bool b,rfl,au _⟩
  | int i=>unfold ag at h;subst h;obtain⟨t,rfl⟩:=r;cases e;exact⟨[],.int i t,rfl,au _⟩
  | str x=>unfold ag at h;obtain⟨rfl,hx⟩:=h;obtain⟨t,rfl⟩:=r;cases e;exact⟨[],.str x t,hx,au _⟩
  | tup ws=>cases e
  | pB ws=>cases e
  | ref l=>cases e
  | ty t=>cases e
  | cls t=>cases e
  | lh t=>cases e
  | fn fp t=>cases e
 | succ n ih=>
  intro w a u d h r e
  cases w with
  | bO=>unfold ag at h;subst h;cases r;cases e;exact⟨[],.none,rfl,bG _⟩
  | bl b=>unfold ag at h;subst h;cases r;cases e;exact⟨[],.bool b,rfl,bG _⟩
  | int i=>unfold ag at h;subst h;obtain⟨t,rfl⟩:=r;cases e;exact⟨[],.int i t,rfl,bG _⟩
  | str x=>unfold ag at h;obtain⟨rfl,hx⟩:=h;obtain⟨t,rfl⟩:=r;cases e;exact⟨[],.str x t,hx,bG _⟩
  | ty t=>cases e
  | cls t=>cases e
  | lh t=>cases e
  | fn fp t=>cases e
  | tup ws=>
   unfold ag at h
   obtain⟨p,xs,rfl,h1,h2⟩:=h
   cases r
   have e':(gQ (aS st n) ws).map uX=some d:=e
   cases e2:gQ (aS st n) ws with
   | none=>rw[e2] at e';cases e'
   | some ds=>
    rw[e2] at e'
    cases e'
    obtain⟨its,rv,ht,hz⟩:=I.tuple (eF.of h1)
    obtain⟨as,q1,q2,q3⟩:=lr ih ws xs its ds h2 rv e2
    obtain⟨o,ho,hc,k,hd⟩:=ht
    exact⟨as,.tuple ho hc hd (by simpa using q1),q2,uY q3⟩
  | pB ws=>
   unfold ag at h
   obtain⟨p,xs,rfl,h1,h2⟩:=h
   cases r
   have e':(gQ (aS st n) ws).map uX=some d:=e
   cases e2:gQ (aS st n) ws with
   | none=>rw[e2] at e';cases e'
   | some ds=>
    rw[e2] at e'
    cases e'
    obtain⟨its,rv,ht,hz⟩:=I.tuple (.inr h1)
    obtain⟨as,q1,q2,q3⟩:=lr ih ws xs its ds h2 rv e2
    obtain⟨o,ho,hc,k,hd⟩:=ht
    exact⟨as,.tuple ho hc hd (by simpa using q1),q2,uY q3⟩
  | ref l=>
   unfold ag at h
   obtain⟨p,rfl,h1⟩:=h
   cases r
   have e':(match aq st l with | some ws=>(gQ (aS st n) ws).map uZ | none=>none)=some d:=e
   cases e1:aq st l with
   | none=>rw[e1] at e';cases e'
   | some ws=>
    rw[e1] at e'
    have e'':(gQ (aS st n) ws).map uZ=some d:=e'
    cases e2:gQ (aS st n) ws with
    | none=>rw[e2] at e'';cases e''
    | some ds=>
     rw[e2] at e''
     cases e''
     obtain⟨xs,hq,h2⟩:=S.read h1 e1
     obtain⟨its,rv,ht,hz⟩:=I.list hq
     obtain⟨as,q1,q2,q3⟩:=lr ih ws xs its ds h2 rv e2
     obtain⟨o,ho,hc,k,hd⟩:=ht.isList
     exact⟨_,.list ho hc hd (by simpa using q1),q2,uY q3⟩
end
def oEq:gA:=λx y st=>match aS st 20 x,aS st 20 y with
 | some a,some b=> .ok (.bl (bI a b)) st
 | _,_=> .bad
def yD:gA:=λx y st=>match aS st 20 x,aS st 20 y with
 | some a,some b=> .ok (.bl (!PyData.eqv a b)) st
 | _,_=> .bad
section
variable {X:Cx}
def SR(K:PySem.W.Frag)(neg:Bool):R2:=λa b H Q=>∃m st x y da db,bb K m st H/\ag K m H x a/\ag K m H y b/\aS st 20 x=some da/\aS st 20 y=some db/\Q (.bl (if neg then !PyData.eqv da db else bI da db)) H
theorem lu{n:Nat}{d:PyData}(hn:n<=64)(h:d.canLay0=true)(k:d.depth<=n):shaped d=true:=by
 unfold shaped
 rw[h,decide_eq_true (bu k hn)]
 rfl
theorem NF(hu:X.A.units+64 < cLine):fD X (afJ .Eq) (SR X.K false):=by
 intro pins s σ H a b v u Q I rx ry h
 obtain⟨m,st,x,y,da,db,S,h1,h2,e1,e2,q⟩:=h
 obtain⟨as,q1,q2,q3⟩:=iV I S 20 x a v da h1 rx e1
 obtain⟨bs,p1,p2,p3⟩:=iV I S 20 y b u db h2 ry e2
 exact eq_dataH q1 p1 (lu (by decide) q2 q3) (lu (by decide) p2 p3) hu ⟨.bl _,H,I,rfl,q⟩
theorem NG(hu:X.A.units+64 < cLine):fD X (afJ .NotEq) (SR X.K true):=by
 intro pins s σ H a b v u Q I rx ry h
 obtain⟨m,st,x,y,da,db,S,h1,h2,e1,e2,q⟩:=h
 obtain⟨as,q1,q2,q3⟩:=iV I S 20 x a v da h1 rx e1
 obtain⟨bs,p1,p2,p3⟩:=iV I S 20 y b u db h2 ry e2
 exact ne_dataH q1 p1 (lu (by decide) q2 q3) (lu (by decide) p2 p3) hu ⟨.bl _,H,I,rfl,q⟩
theorem Le(hu:X.A.units+64 < cLine):lq X (afJ .Eq) oEq:=⟨_,NF hu,λx y a b st H m Q S rx ry p=>by
 unfold oEq at p
 cases e1:aS st 20 x with
 | none=>rw[e1] at p;exact ae p
 | some da=>
  cases e2:aS st 20 y with
  | none=>rw[e1,e2] at p;exact ae p
  | some db=>
   rw[e1,e2] at p
   exact⟨m,st,x,y,da,db,S,rx,ry,e1,e2,p _ m H Ext.refl S jh⟩⟩
theorem Lf(hu:X.A.units+64 < cLine):lq X (afJ .NotEq) yD:=⟨_,NG hu,λx y a b st H m Q S rx ry p=>by
 unfold yD at p
 cases e1:aS st 20 x with
 | none=>rw[e1] at p;exact ae p
 | some da=>
  cases e2:aS st 20 y with
  | none=>rw[e1,e2] at p;exact ae p
  | some db=>
   rw[e1,e2] at p
   exact⟨m,st,x,y,da,db,S,rx,ry,e1,e2,p _ m H Ext.refl S jh⟩⟩
def gj:Wv->Bool
 | .bO=>true
 | .bl _=>true
 | .int _=>true
 | .str _=>true
 | _=>false
def Q7:Wv->Wv->Bool
 | .bO,.bO=>true
 | .bl a,.bl b=>a == b
 | .bl a,.int b=>(if a then 1 else 0) == b
 | .int a,.bl b=>a == (if b then 1 else 0)
 | .int a,.int b=>a == b
 | .str a,.str b=>a == b
 | _,_=>false
def j6(st:Hs):Wv->Option (List Wv)
 | .tup ws=>some ws
 | .pB ws=>some ws
 | .ref l=>aq st l
 | _=>none
def WK:gA:=λx y st=>match j6 st y with
 | some ws=>if gj x=true/\ws.all gj=true then .ok (.bl (ws.any λz=>Q7 z x)) st else .bad
 | none=> .bad
def yE:gA:=λx y st=>match j6 st y with
 | some ws=>if gj x=true/\ws.all gj=true then .ok (.bl (!(ws.any λz=>Q7 z x))) st else .bad
 | none=> .bad
theorem qM{m:Mp}{H:Hp}{x:Wv}{a:V}(h:ag X.K m H x a)(f:gj x=true):lS a=true:=by
 cases x with
 | bO=>unfold ag at h;subst h;rfl
 | bl b=>unfold ag at h;subst h;rfl
 | int b=>unfold ag at h;subst h;rfl
 | str b=>unfold ag at h;obtain⟨h,_⟩:=h;subst h;rfl
 | _=>cases f
theorem Jh{m:Mp}{H:Hp}{x y:Wv}{a b:V}(h:ag X.K m H x a)(k:ag X.K m H y b)(f:gj x=true)(g:gj y=true):IU a b=Q7 x y:=by
 cases x with
 | bO=>
  unfold ag at h;subst h
  cases y with
  | str j=>unfold ag at k;obtain⟨k,_⟩:=k;subst k;rfl
  | tup j=>cases g
  | pB j=>cases g
  | ref j=>cases g
  | ty j=>cases g
  | cls j=>cases g
  | lh j=>cases g
  | fn fp j=>cases g
  | _=>unfold ag at k;subst k;rfl
 | bl i=>
  unfold ag at h;subst h
  cases y with
  | str j=>unfold ag at k;obtain⟨k,_⟩:=k;subst k;rfl
  | tup j=>cases g
  | pB j=>cases g
  | ref j=>cases g
  | ty j=>cases g
  | cls j=>cases g
  | lh j=>cases g
  | fn fp j=>cases g
  | _=>unfold ag at k;subst k;rfl
 | int i=>
  unfold ag at h;subst h
  cases y with
  | str j=>unfold ag at k;obtain⟨k,_⟩:=k;subst k;rfl
  | tup j=>cases g
  | pB j=>cases g
  | ref j=>cases g
  | ty j=>cases g
  | cls j=>cases g
  | lh j=>cases g
  | fn fp j=>cases g
  | _=>unfold ag at k;subst k;rfl
 | str i=>
  unfold ag at h;obtain⟨h,_⟩:=h;subst h
  cases y with
  | str j=>unfold ag at k;obtain⟨k,_⟩:=k;subst k;rfl
  | tup j=>cases g
  | pB j=>cases g
  | ref j=>cases g
  | ty j=>cases g
  | cls j=>cases g
  | lh j=>cases g
  | fn fp j=>cases g
  | _=>unfold ag at k;subst k;rfl
 | _=>cases f
theorem om{m:Mp}{H:Hp}{x:Wv}{a:V}(h:ag X.K m H x a)(f:gj x=true):∀{ws:List Wv}{xs:List V},ah X.K m H ws xs->ws.all gj=true->xs.all lS=true/\Ve a xs=ws.any λz=>Q7 z x
 | [],xs,r,_=>by unfold ah at r;subst r;exact⟨rfl,rfl⟩
 | w::ws,xs,r,g=>by
  unfold ah at r
  obtain⟨y,yr,rfl,r1,r2⟩:=r
  rw[eI,cO] at g
  obtain⟨q1,q2⟩:=om h f r2 g.2
  constructor
  ·rw[eI,qM r1 g.1,q1];rfl
  ·unfold Ve at q2 ⊢
   rw[iG,iG,Jh r1 h g.1 f,q2]
theorem qb{m:Mp}{H:Hp}{st:Hs}{y:Wv}{b:V}{ws:List Wv}(S:bb X.K m st H)(h:ag X.K m H y b)(e:j6 st y=some ws):∃p xs,b= .ref p/\(jT X.K H p xs\/eF X.K H p xs)/\ah X.K m H ws xs:=by
 cases y with
 | tup zs=>
  cases e
  unfold ag at h
  obtain⟨p,xs,e1,e2,e3⟩:=h
  exact⟨p,xs,e1,.inr (eF.of e2),e3⟩
 | pB zs=>
  cases e
  unfold ag at h
  obtain⟨p,xs,e1,e2,e3⟩:=h
  exact⟨p,xs,e1,.inr (.inr e2),e3⟩
 | ref l=>
  unfold ag at h
  obtain⟨p,e1,e2⟩:=h
  obtain⟨xs,q1,q2⟩:=S.read e2 e
  exact⟨p,xs,e1,.inl q1,q2⟩
 | _=>cases e
theorem SU:lq X (afJ .In) WK:=⟨_,B0,λx y a b st H m Q S rx ry p=>by
 unfold WK at p
 cases e:j6 st y with
 | none=>rw[e] at p;exact ae p
 | some ws=>
  rw[e] at p
  by_cases c:gj x=true/\ws.all gj=true
  ·simp only[if_pos c] at p
   obtain⟨q,xs,e1,e2,e3⟩:=qb S ry e
   obtain⟨f1,f2⟩:=om rx c.1 e3 c.2
   refine⟨q,xs,e1,e2,qM rx c.1,f1,?_⟩
   rw[f2]
   exact p _ m H Ext.refl S jh
  ·simp only[if_neg c] at p;exact ae p⟩
theorem En:lq X (afJ .NotIn) yE:=⟨_,uL,λx y a b st H m Q S rx ry p=>by
 unfold yE at p
 cases e:j6 st y with
 | none=>rw[e] at p;exact ae p
 | some ws=>
  rw[e] at p
  by_cases c:gj x=true/\ws.all gj=true
  ·simp only[if_pos c] at p
   obtain⟨q,xs,e1,e2,e3⟩:=qb S ry e
   obtain⟨f1,f2⟩:=om rx c.1 e3 c.2
   refine⟨q,xs,e1,e2,qM rx c.1,f1,?_⟩
   rw[f2]
   exact p _ m H Ext.refl S jh
  ·simp only[if_neg c] at p;exact ae p⟩
def bF:gA
 | .str z,.int i,st=>if z.length<=lim then(match pv z.cps.toList i with | some c=> .ok (.str ⟨#[c]⟩) st | none=> .bad) else .bad
 | x,.int i,st=>match j6 st x with
  | some ws=>(match pv ws i with | some w=> .ok w st | none=> .bad)
  | none=> .bad
 | _,_,_=> .bad
theorem Ji{m:Mp}{H:Hp}{ws:List Wv}{xs:List V}{i:Int}{w:Wv}(r:ah X.K m H ws xs)(h:pv ws i=some w):∃x,pv xs i=some x/\ag X.K m H w x:=by
 unfold pv at h ⊢
 rw[<-r.length]
 cases e:Dv ws.length i with
 | none=>rw[e] at h;cases h
 | some j=>rw[e] at h;exact r.get h
theorem Jj{α:Type}{xs:List α}{i:Int}{v:α}(h:pv xs i=some v):v∈xs:=by
 obtain⟨j,_,h2,_⟩:=p8 h
 exact An h2
theorem Ca{z:PySem.Str}{c:Nat}(h:bg z=true)(hc:c∈z.cps.toList):bg ⟨#[c]⟩=true:=by
 unfold bg at h ⊢
 rw[SV] at h
 have q:=h c (by simpa using hc)
 simpa using q
theorem SX{a b:Expr}{ga gb:GE}{pos:Pos}(ha:JE X a ga)(hb:JE X b gb)(hs:Ar b:=by exact λ_ _=>rfl):JE X (.Subscript a b pos) (ai bF ga gb) :=
 JE.of (Sb M3 aM aM hs) λρ st σ H m Q S R p=>AA (op:=bF) (λx y a b st H m Q S rx ry p=>by
  have seqs:∀(i:Int),y= .int i->(match j6 st x with | some ws=>(match pv ws i with | some w=>Re.ok w st | none=> .bad) | none=> .bad)=bF x y st->Z9 X.K a b H Q:=λi hy hp=>by
   subst hy
   rw[<-hp] at p
   cases e:j6 st x with
   | none=>rw[e] at p;exact ae p
   | some ws=>
    rw[e] at p
    dsimp only at p
    cases e1:pv ws i with
    | none=>rw[e1] at p;exact ae p
    | some w=>
     rw[e1] at p
     obtain⟨q,xs,e2,e3,e4⟩:=qb S rx e
     obtain⟨v,f1,f2⟩:=Ji e4 e1
     rcases e3 with e3 | e3
     ·exact .inl ⟨q,xs,i,v,e2,aL ry,e3,f1,p v m H Ext.refl S f2⟩
     ·exact .inr (.inl ⟨q,xs,i,v,e2,aL ry,e3,f1,p v m H Ext.refl S f2⟩)
  cases y with
  | int i=>
   cases x with
   | str z=>
    dsimp only[bF] at p
    by_cases c:z.length<=lim
    ·simp only[if_pos c] at p
     cases e1:pv z.cps.toList i with
     | none=>rw[e1] at p;exact ae p
     | some ch=>
      rw[e1] at p
      exact .inr (.inr ⟨z,i,ch,(eK rx).1,aL ry,dZ c,e1,p _ m H Ext.refl S (mkStr (Ca (eK rx).2 (Jj e1)))⟩)
    ·simp only[if_neg c] at p;exact ae p
   | _=>exact seqs i rfl rfl
  | _=>cases x<;>exact ae p) ha hb S R p
abbrev GO:=bC->Hs->Re (Option Int)
def SO(X:Cx)(e:Option Expr):TO:=λσ H Q=>∀(pins:List (afw×Obj))(s:afB),Inv X pins σ H s->afP (model X.prog X.w) X.A (evalPart e X.env) (λu s'=>∃o H',Inv X pins σ H' s'/\IsPart u o/\Q o H') X.xe s
theorem tK{e:Option Expr}:PO X e (SO X e):=λpins s _ _ _ I h=>h pins s I
def okO(K:PySem.W.Frag)(m:Mp)(H:Hp)(Q:Option Int->Hp->Prop)(o:Option Int)(st:Hs):Prop:=∀(m':Mp)(H':Hp),Ext K m H m' H'->bb K m' st H'->Q o H'
def JO(X:Cx)(e:Option Expr)(g:GO):Prop:=∀(ρ:bC)(st:Hs)(σ:St)(H:Hp)(m:Mp)(Q:Option Int->Hp->Prop),bb X.K m st H->aw X.K m H ρ σ->ax X σ m H (g ρ st) (okO X.K m H Q)->SO X e σ H Q
def lx:GO:=λ_ st=> .ok none st
def pC(g:GE):GO:=λρ st=>(g ρ st).bind λw st1=>match w with
 | .int i=> .ok (some i) st1
 | _=> .bad
theorem Jk:JO X none lx:=λρ st σ H m Q S R p pins s I=>IL pins s σ H Q I (p m H Ext.refl S)
theorem Jl{e:Expr}{g:GE}(h:JE X e g):JO X (some e) (pC g):=λρ st σ H m Q S R p pins s I=>
 IM aM pins s σ H Q I (h.go S R (ax.bind p) λw st1 v m1 H1 p1 e1 S1 r1=>by
  cases w with
  | int i=>exact⟨i,aL r1,p1 m1 H1 e1 S1⟩
  | _=>exact ae p1)
theorem JO.go{e:Option Expr}{g:GO}{ρ:bC}{st:Hs}{σ:St}{H:Hp}{m:Mp}{T:Option Int->Hp->Prop}{ok:Option Int->Hs->Prop}(h:JO X e g)(S:bb X.K m st H)(R:aw X.K m H ρ σ)(p:ax X σ m H (g ρ st) ok)
  (k:∀(b:Option Int)(st1:Hs)(m1:Mp)(H1:Hp),ok b st1->Ext X.K m H m1 H1->bb X.K m1 st1 H1->T b H1):SO X e σ H T :=
 h ρ st σ H m T S R (p.imp Ext.refl λb st1 q m1 H1 e1 s1=>k b st1 m1 H1 q e1 s1)
def sE(xs:List Wv)(lo hi:Option Int):List Wv:=(xs.drop (HT.dF xs.length 0 lo)).take (HT.dF xs.length xs.length hi - HT.dF xs.length 0 lo)
def Q8(x:Wv)(lo hi:Option Int)(st:Hs):Re Wv:=match x with
 | .tup ws=>if HT.dF ws.length 0 lo=0/\HT.dF ws.length ws.length hi=ws.length then .bad else .ok (.tup (sE ws lo hi)) st
 | .ref l=>match aq st l with
  | some ws=> .ok (.ref st.length) (st++[.lst (sE ws lo hi)])
  | none=> .bad
 | _=> .bad
theorem u0{m:Mp}{H:Hp}{ws:List Wv}{xs:List V}{lo hi:Option Int}(r:ah X.K m H ws xs):ah X.K m H (sE ws lo hi) (sy xs lo hi):=by
 unfold sE sy
 rw[<-r.length]
 exact(r.drop _).take _
def yF(ga:GE)(gl gh:GO):GE:=λρ st=>(ga ρ st).bind λx st1=>(gl ρ st1).bind λlo st2=>(gh ρ st2).bind λhi st3=>Q8 x lo hi st3
theorem wJ{a:Expr}{lo hi:Option Expr}{ga:GE}{gl gh:GO}{pos p2:Pos}(ha:JE X a ga)(hl:JO X lo gl)(hh:JO X hi gh):JE X (.Subscript a (.Slice lo hi none p2) pos) (yF ga gl gh):=by
 refine JE.of (qC (DU.or IT) aM tK tK) λρ st σ H m Q S R p=>?_
 refine ha.go S R (ax.bind p) λx st1 v m1 H1 p1 e1 S1 rx=>?_
 refine hl.go S1 (R.mono e1) ((ax.bind p1).imp e1 λ_ _ q=>q) λl st2 m2 H2 p2 e2 S2=>?_
 refine hh.go S2 (R.mono (e1.trans e2)) ((ax.bind p2).imp (e1.trans e2) λ_ _ q=>q) λh st3 m3 H3 p3 e3 S3=>?_
 have yG:=e1.trans (e2.trans e3)
 have Vj:=ag.mono (e2.trans e3) _ _ rx
 cases x with
 | tup ws=>
  have pN:cU X σ m H (if HT.dF ws.length 0 l=0/\HT.dF ws.length ws.length h=ws.length then .bad else .ok (.tup (sE ws l h)) st3) Q:=p3
  by_cases c:HT.dF ws.length 0 l=0/\HT.dF ws.length ws.length h=ws.length
  ·rw[if_pos c] at pN;exact ae pN
  ·rw[if_neg c] at pN
   unfold ag at Vj
   obtain⟨q,xs,rfl,f1,f2⟩:=Vj
   refine .inl ⟨q,xs,rfl,eF.of f1,by rw[<-f2.length];exact c,λr hr=>?_⟩
   have e4:Ext X.K m3 H3 m3 (upd H3 r (.tup (sy xs l h))):=Ext.upd (.inl hr)
   exact pN (.ref r) m3 _ (yG.trans e4) (S3.fresh hr) (by unfold ag;exact⟨r,_,rfl,aJ,ah.mono e4 _ _ (u0 f2)⟩)
 | ref k=>
  have pN:cU X σ m H (match aq st3 k with | some ws=> .ok (.ref st3.length) (st3++[.lst (sE ws l h)]) | none=> .bad) Q:=p3
  unfold ag at Vj
  obtain⟨q,rfl,f1⟩:=Vj
  cases e:aq st3 k with
  | none=>rw[e] at pN;exact ae pN
  | some ws=>
   rw[e] at pN
   obtain⟨xs,g1,g2⟩:=S3.read f1 e
   exact .inr ⟨q,xs,rfl,g1,λr hr=>nj pN yG S3 (u0 g2) r hr⟩
 | _=>exact ae p3
end
section
variable {X:Cx}
def fO(X:Cx)(f:afC)(op:List Wv->Hs->Re Wv):Prop:=∃r,fN X f r/\∀(ws:List Wv)(vs:List V)(st:Hs)(H:Hp)(m:Mp)(Q:VK),bb X.K m st H->ah X.K m H ws vs->eo X.K m H (op ws st) Q->r vs H Q
def aQ(op:List Wv->Hs->Re Wv)(g:GA):GE:=λρ st=>(g ρ st).bind λws st1=>(op ws st1).n4
theorem Eo{x:Str}{id:String}{p pos:Pos}{e:Expr}{es:List Expr}{g:GA}{op:List Wv->Hs->Re Wv}(hc:fO X (.builtin id) op)(hg:Gl X x)(hm:X.mg x=none)(hv:afG x=some (.builtin id))(ha:JA X (e::es) g)
  (hn:x≠"__name__":=by decide)(hdb:(x == ("__debug__":Str))=false:=by decide)(he:afO (e::es) X.env=(false,eval e X.env)::afO es X.env:=by rfl)(hpl:(backTo pos (afO es X.env)).any (·.1)=false:=by rfl) :
  JE X (.Call (.Name x p) (e::es) [] pos) (aQ op g):=by
 obtain⟨r,h1,h2⟩:=hc
 refine JE.of (DR h1 hg hm hv h_ hn hdb he hpl) λρ st σ H m Q S R p=>?_
 exact ha.go S R (ax.bind p) λws st1 vs m1 H1 p1 e1 S1 rs=>h2 ws vs st1 H1 m1 Q S1 rs (eo.shift (ax.n4 p1) e1)
theorem Cb{x:Str}{T:String}{p pos:Pos}{e:Expr}{es:List Expr}{g:GA}{op:List Wv->Hs->Re Wv}(hc:fO X (.type T) op)(hg:Gl X x)(hm:X.mg x=none)(hv:afG x=some (.type T))(ha:JA X (e::es) g)
  (hn:x≠"__name__":=by decide)(hdb:(x == ("__debug__":Str))=false:=by decide)(he:afO (e::es) X.env=(false,eval e X.env)::afO es X.env:=by rfl)(hpl:(backTo pos (afO es X.env)).any (·.1)=false:=by rfl) :
  JE X (.Call (.Name x p) (e::es) [] pos) (aQ op g):=by
 obtain⟨r,h1,h2⟩:=hc
 refine JE.of (BZ h1 hg hm hv h_ hn hdb he hpl) λρ st σ H m Q S R p=>?_
 exact ha.go S R (ax.bind p) λws st1 vs m1 H1 p1 e1 S1 rs=>h2 ws vs st1 H1 m1 Q S1 rs (eo.shift (ax.n4 p1) e1)
theorem qN{m:Mp}{H:Hp}{w:Wv}{vs:List V}(r:ah X.K m H [w] vs):∃v,vs=[v]/\ag X.K m H w v:=by
 unfold ah at r
 obtain⟨v,t,rfl,h1,h2⟩:=r
 unfold ah at h2
 subst h2
 exact⟨v,rfl,h1⟩
theorem yH{m:Mp}{H:Hp}{w w':Wv}{vs:List V}(r:ah X.K m H [w,w'] vs):∃v v',vs=[v,v']/\ag X.K m H w v/\ag X.K m H w' v':=by
 unfold ah at r
 obtain⟨v,t,rfl,h1,h2⟩:=r
 obtain⟨v',rfl,h3⟩:=qN h2
 exact⟨v,v',rfl,h1,h3⟩
def me:List Wv->Hs->Re Wv
 | [.str z],st=>if z.length<=lim then .ok (.int z.length) st else .bad
 | [x],st=>match j6 st x with
  | some ws=> .ok (.int ws.length) st
  | none=> .bad
 | _,_=> .bad
theorem Ep:fO X (.builtin "len") me:=⟨_,uN.or uO,λws vs st H m Q S r p=>by
 match ws,r,p with
 | [],r,p=>exact ae p
 | x::y::t,r,p=>cases x<;>exact ae p
 | [x],r,p=>
  obtain⟨v,rfl,rx⟩:=qN r
  have seqs:(match j6 st x with | some ws=>Re.ok (Wv.int ws.length) st | none=> .bad)=me [x] st->(∃p ys,[v]=[V.ref p]/\(jT X.K H p ys\/eF X.K H p ys)/\Q (.int ys.length) H):=λhp=>by
   rw[<-hp] at p
   cases e:j6 st x with
   | none=>rw[e] at p;exact ae p
   | some ws=>
    rw[e] at p
    obtain⟨q,xs,rfl,e2,e3⟩:=qb S rx e
    refine⟨q,xs,rfl,e2,?_⟩
    rw[<-e3.length]
    exact p _ m H Ext.refl S mkInt
  cases x with
  | str z=>
   have p':eo X.K m H (if z.length<=lim then .ok (.int z.length) st else .bad) Q:=p
   by_cases c:z.length<=lim
   ·rw[if_pos c] at p'
    obtain⟨rfl,_⟩:=eK rx
    exact .inr ⟨z,rfl,dZ c,p' _ m H Ext.refl S mkInt⟩
   ·rw[if_neg c] at p';exact ae p'
  | _=>exact .inl (seqs rfl)⟩
def WL:List Wv->Hs->Re Wv
 | [.int i],st=> .ok (.int (if i < 0 then -i else i)) st
 | _,_=> .bad
def Vk(st:Hs)(T:String):Wv->Option Bool
 | .bO=>some false
 | .bl _=>some (T == "bool"||T == "int")
 | .int _=>some (T == "int")
 | .str _=>some (T == "str")
 | .tup _=>some (T == "tuple")
 | .pB _=>none
 | .ref l=>(aq st l).map λ_=>T == "list"
 | .ty _=>none
 | .cls _=>none
 | .lh _=>none
 | .fn _ _=>none
def Er(T:String):Bool:=T == "int"||T == "str"||T == "bool"||T == "tuple"||T == "list"
def SY:List Wv->Hs->Re Wv
 | [x,.ty T],st=>if Er T=true then(match Vk st T x with | some b=> .ok (.bl b) st | none=> .bad) else .bad
 | _,_=> .bad
def WM(K:PySem.W.Frag):List V->Hp->VK->Prop:=λvs H Q=>∃m st x T v b,vs=[v,.ty T]/\bb K m st H/\ag K m H x v/\Er T=true/\Vk st T x=some b/\Q (.bl b) H
theorem Es:fN X (.builtin "isinstance") (WM X.K):=by
 intro pins s σ H xs us Q I r h
 obtain⟨m,st,x,T,v,b,rfl,S,rx,hT,hb,q⟩:=h
 obtain⟨u,u',rfl,r1,r2⟩:=vals2 r
 cases r2
 have fin:∀tk,EP X pins σ Q (.bool b) { s with toks:=tk }:=λtk=>⟨.bl b,H,I.tok tk,rfl,q⟩
 have Et:EP X pins σ Q (.bool b) s:=⟨.bl b,H,I,rfl,q⟩
 unfold Er at hT
 simp only[Eu,beq_iff_eq] at hT
 cases x with
 | bO=>
  unfold ag at rx;subst rx;cases r1
  cases hb
  rcases hT with (((rfl | rfl) | rfl) | rfl) | rfl<;>
   exact call_isinstance (isinstance_false_none (by decide) (by kernel_rfl) (by rw[afL];kernel_rfl)) (fin _)
 | bl c=>
  unfold ag at rx;subst rx;cases r1
  rcases hT with (((rfl | rfl) | rfl) | rfl) | rfl<;>cases hb<;>first
   | exact call_isinstance_yes (Tx:="bool") rfl (by kernel_rfl) (by rw[afL];kernel_rfl) Et
   | exact call_isinstance (isinstance_false_bool (by decide) (by kernel_rfl) (by rw[afL];kernel_rfl)) (fin _)
 | int c=>
  unfold ag at rx;subst rx;obtain⟨t,rfl⟩:=r1
  rcases hT with (((rfl | rfl) | rfl) | rfl) | rfl<;>cases hb<;>first
   | exact call_isinstance_yes (Tx:="int") (typeIs_int s c t) (by kernel_rfl) (by rw[afL];kernel_rfl) Et
   | exact call_isinstance (isinstance_false_int (by decide) (by kernel_rfl) (by rw[afL];kernel_rfl)) (fin _)
 | str c=>
  obtain⟨rfl,_⟩:=eK rx;obtain⟨t,rfl⟩:=r1
  rcases hT with (((rfl | rfl) | rfl) | rfl) | rfl<;>cases hb<;>first
   | exact call_isinstance_yes (Tx:="str") (typeIs_str s c t) (by kernel_rfl) (by rw[afL];kernel_rfl) Et
   | exact call_isinstance (isinstance_false_str (by decide) (by kernel_rfl) (by rw[afL];kernel_rfl)) (fin _)
 | pB ws=>cases hb
 | tup ws=>
  unfold ag at rx;obtain⟨a,xs,rfl,h1,h2⟩:=rx;cases r1
  obtain⟨its,rv,ht,hz⟩:=I.tuple (eF.of h1)
  have hty:=ht.typeIs
  obtain⟨o,ho,hc,k,hd⟩:=ht
  rcases hT with (((rfl | rfl) | rfl) | rfl) | rfl<;>cases hb<;>first
   | exact call_isinstance_yes (Tx:="tuple") hty (by kernel_rfl) (by rw[afL];kernel_rfl) Et
   | exact call_isinstance (isinstance_false_tuple (by decide) (by kernel_rfl) (by rw[afL];kernel_rfl)) ⟨⟨o,ho,hc⟩,fin _⟩
 | ref l=>
  unfold ag at rx;obtain⟨a,rfl,h1⟩:=rx;cases r1
  have hb':(aq st l).map (λ_=>T == "list")=some b:=hb
  cases e:aq st l with
  | none=>rw[e] at hb';cases hb'
  | some ws=>
   rw[e] at hb'
   obtain⟨xs,hq,h2⟩:=S.read h1 e
   obtain⟨its,rv,ht,hz⟩:=I.list hq
   have hty:=ht.isList.typeIs
   obtain⟨o,ho,hc,k,hd⟩:=ht.isList
   rcases hT with (((rfl | rfl) | rfl) | rfl) | rfl<;>cases hb'<;>first
    | exact call_isinstance_yes (Tx:="list") hty (by kernel_rfl) (by rw[afL];kernel_rfl) Et
    | exact call_isinstance (isinstance_false_list (by decide) (by kernel_rfl) (by rw[afL];kernel_rfl)) ⟨⟨o,ho,hc⟩,fin _⟩
 | ty t=>cases hb
 | cls t=>cases hb
 | lh t=>cases hb
 | fn fp t=>cases hb
theorem NH:fO X (.builtin "isinstance") SY:=⟨_,Es,λws vs st H m Q S r p=>by
 match ws,r,p with
 | [],r,p=>exact ae p
 | [x],r,p=>cases x<;>exact ae p
 | x::y::z::t,r,p=>cases y<;>exact ae p
 | [x,y],r,p=>
  obtain⟨v,v',rfl,rx,ry⟩:=yH r
  cases y with
  | ty T=>
   unfold ag at ry
   subst ry
   have p':eo X.K m H (if Er T=true then(match Vk st T x with | some b=> .ok (.bl b) st | none=> .bad) else .bad) Q:=p
   by_cases c:Er T=true
   ·rw[if_pos c] at p'
    cases e:Vk st T x with
    | none=>rw[e] at p';exact ae p'
    | some b=>rw[e] at p';exact⟨m,st,x,T,v,b,rfl,S,rx,c,e,p' _ m H Ext.refl S jh⟩
   ·rw[if_neg c] at p';exact ae p'
  | _=>exact ae p⟩
def bQ:GS:=λρ st=> .nx ρ st
def aG(g h:GS):GS:=λρ st=>match g ρ st with
 | .nx ρ' st'=>h ρ' st'
 | r=>r
theorem Jm:lT X [] bQ:=lT.of Iw λρ st σ H m D S R p=>p σ m H Ext.refl S R
theorem Ew{s:Stmt}{rest:List Stmt}{g h:GS}(h1:JS X s g)(h2:lT X rest h):lT X (s::rest) (aG g h) :=
 lT.of (DI K9 dN) λρ st σ H m D S R p=>h1 ρ st σ H m _ S R (by
  unfold aG at p
  cases e:g ρ st with
  | nx ρ' st'=>rw[e] at p;exact λσ' m' H' e' S' R'=>h2 ρ' st' σ' H' m' D S' R' (aE.shift p e')
  | rt w st'=>rw[e] at p;exact p
  | bk ρ' st'=>rw[e] at p;exact p
  | ct ρ' st'=>rw[e] at p;exact p
  | err c ρ' st'=>rw[e] at p;exact p
  | bad=>rw[e] at p;exact p)
theorem Jn{s:Stmt}{g:GS}(h1:JS X s g):lT X [s] g:=lT.of (Iy K9) λρ st σ H m D S R p=>h1 ρ st σ H m D S R p
def bj(g:GE):GS:=λρ st=>(g ρ st).bp ρ λw st'=> .rt w st'
theorem NI{e:Expr}{g:GE}{pos:Pos}(h:JE X e g):JS X (.Return (some e) pos) (bj g) :=
 JS.of (MB aM) λρ st σ H m D S R p=>h.go S R (aE.cK R p) λw st1 v m1 H1 q e1 S1 r1=>q v m1 H1 e1 S1 r1
theorem Jo{pos:Pos}:JS X (.Pass pos) bQ:=JS.of Iz λρ st σ H m D S R p=>p σ m H Ext.refl S R
def AG(g:GE):GS:=λρ st=>(g ρ st).bp ρ λ_ st'=> .nx ρ st'
theorem Jp{e:Expr}{g:GE}{pos:Pos}(h:JE X e g)(hs:swapsWith e none pos.line X.env=pure false:=by rfl):JS X (.Expr e pos) (AG g) :=
 JS.of (IA aM hs) λρ st σ H m D S R p=>h.go S R (aE.cK R p) λw st1 v m1 H1 q e1 S1 r1=>q σ m1 H1 e1 S1 (R.mono e1)
def mf(gt:GT)(ga gb:GS):GS:=λρ st=>(gt ρ st).bp ρ λb st'=>if b=true then ga ρ st' else gb ρ st'
theorem S8{c:Expr}{a b:List Stmt}{gt:GT}{ga gb:GS}{pos:Pos}(hc:JT X c gt)(ha:lT X a ga)(hb:lT X b gb):JS X (.If c a b pos) (mf gt ga gb) :=
 JS.of (RM qK dN dN) λρ st σ H m D S R p=>hc.go S R (aE.cK R p) λk st1 m1 H1 q e1 S1=>by
  cases k with
  | true=>rw[if_pos rfl] at q ⊢;exact ha ρ st1 σ H1 m1 D S1 (R.mono e1) (aE.shift q e1)
  | false=>rw[if_neg cT] at q ⊢;exact hb ρ st1 σ H1 m1 D S1 (R.mono e1) (aE.shift q e1)
def aX(i:Nat)(g:GE):GS:=λρ st=>(g ρ st).bp ρ λw st'=> .nx (ρ.set i (some w)) st'
theorem u5(i:Nat){x:Str}{e:Expr}{g:GE}{pos pos':Pos}(hN:X.N.Nodup)(h:JE X e g)(hi:X.N[i]? =some x:=by rfl)(hx:Loc X.env.scope x:=by first | exact Or.inl rfl | exact lp rfl)(hs:swapsWith e (some (.Name x pos')) pos.line X.env=pure false:=by rfl)
  (hf:X.fn x=true\/X.env.scope.names.lookup x=some .local:=by first | exact .inl rfl | exact .inr rfl | assumption):JS X (.Assign [.Name x pos'] e pos) (aX i g) :=
 JS.of (MF hN hi hx aM hs hf) λρ st σ H m D S R p=>h.go S R (aE.cK R p) λw st1 v m1 H1 q e1 S1 r1=>q _ m1 H1 e1 S1 ((R.mono e1).set i r1)
def b_:GS:=λ_ _=> .bad
theorem bE{s:Stmt}:JS X s b_:=JS.of DK λρ st σ H m D S R p=>p
theorem Cc{s:List Stmt}:lT X s b_:=lT.of BU λρ st σ H m D S R p=>p
def S_(o i v:Wv)(ρ:bC)(st:Hs):Rs:=match o,i with
 | .ref l,.int k=>match st[l]? with
  | some (.lst ws)=>(match Dv ws.length k with | some j=> .nx ρ (st.set l (.lst (ws.set j v))) | none=> .bad)
  | _=> .bad
 | _,_=> .bad
def AH(ge go gi:GE):GS:=λρ st=>(ge ρ st).bp ρ λv st1=>(go ρ st1).bp ρ λo st2=>(gi ρ st2).bp ρ λi st3=>S_ o i v ρ st3
theorem Jq{o i e:Expr}{go gi ge:GE}{pos pos':Pos}(he:JE X e ge)(ho:JE X o go)(hi:JE X i gi)(hs:swapsWithSole [.Subscript o i pos'] e pos.line X.env=pure false:=by rfl)(hw:swappedStores [.Subscript o i pos'] e X.env=pure none:=by rfl)
  (h1:(assignEach [.Subscript o i pos'] X.env).map (·.2)=[assign (.Subscript o i pos') X.env]:=by rfl)
  (ha:∀v,assign (.Subscript o i pos') X.env v=(do
   let ov <-holding [v] (eval o X.env)
   let iv <-holding [v,ov] (eval i X.env)
   standAt pos'
   holding [v,ov,iv] (setItem ov iv v)
   release [v,ov,iv] []):=by intro _;rfl):JS X (.Assign [.Subscript o i pos'] e pos) (AH ge go gi):=by
 refine JS.of (ME aM (MD aM aM set_list ha) hs hw h1) λρ st σ H m D S R p=>?_
 refine he.go S R (aE.cK R p) λv st1 vv m1 H1 p1 e1 S1 rv=>?_
 refine ho.go S1 (R.mono e1) ((aE.cK (m:=m) (H:=H) R p1).imp e1 λ_ _ q=>q) λo' st2 ov m2 H2 p2 e2 S2 ro=>?_
 refine hi.go S2 (R.mono (e1.trans e2)) ((aE.cK (m:=m) (H:=H) R p2).imp (e1.trans e2) λ_ _ q=>q) λi' st3 iv m3 H3 p3 e3 S3 ri=>?_
 have yG:=e1.trans (e2.trans e3)
 cases o' with
 | ref l=>
  cases i' with
  | int k=>
   have pN:aE X m H (match st3[l]? with | some (.lst ws)=>(match Dv ws.length k with | some j=> .nx ρ (st3.set l (.lst (ws.set j v))) | none=> .bad) | _=> .bad) D:=p3
   have ro3:=ag.mono e3 _ _ ro
   unfold ag at ro3
   obtain⟨a,rfl,f1⟩:=ro3
   cases e:st3[l]? with
   | none=>rw[e] at pN;exact ae pN
   | some ob=>
    cases ob with
    | dct kvs=>rw[e] at pN;exact ae pN
    | ja kvs=>rw[e] at pN;exact ae pN
    | yd kvs=>rw[e] at pN;exact ae pN
    | tJ ns=>rw[e] at pN;exact ae pN
    | lst ws=>
     rw[e] at pN
     cases ej:Dv ws.length k with
     | none=>simp only[ej] at pN;exact ae pN
     | some j=>
      simp only[ej] at pN
      obtain⟨xs,g1,g2⟩:=S3.nh f1 e
      refine⟨a,xs,k,j,rfl,aL ri,g1,by rw[<-g2.length];exact ej,?_⟩
      have rv3:=ag.mono (e2.trans e3) _ _ rv
      have e4:Ext X.K m3 H3 m3 (upd H3 a (.lst (xs.set j vv))):=Ext.upd (.inr ⟨xs,g1⟩)
      exact pN σ m3 _ (yG.trans e4) (S3.write f1 e (g2.set j rv3)) (R.mono (yG.trans e4))
  | _=>exact ae p3
 | _=>cases i'<;>exact ae p3
open Classical in
def forL(i:Nat)(gb:GS)(l:Nat)(all:List Wv):List Wv->bC->Hs->Rs
 | [],ρ,st=> .nx ρ st
 | w::r,ρ,st=>match gb (ρ.set i (some w)) st with
  | .nx ρ' st'=>if aq st' l=some all then forL i gb l all r ρ' st' else .bad
  | .ct ρ' st'=>if aq st' l=some all then forL i gb l all r ρ' st' else .bad
  | .bk ρ' st'=> .nx ρ' st'
  | .rt w st'=> .rt w st'
  | .err c ρ' st'=> .err c ρ' st'
  | .bad=> .bad
end
def CXJ(P:afA)(w:afD):Du:=λouter H s E e s'=>∃H' C,wD P w outer H s H' (.ref C) e s'/\E (.ref C) none H'
section
variable {X:Cx} {pins:List (afw×Obj)} {σ:St} {Hc H':Hp} {sc s':afB} {cls e:afC} {E:afC->afB->Prop} {Q:Unit->afB->Prop}
theorem old_ne(I:Inv X pins σ Hc sc){b:afw}{o:Obj}(q:X.s₀.heap.get? b=some o):b≠X.env.locals:=λz=>by
 have h1:=aC q
 have h2:=I.ok.above
 rw[z] at h1
 exact absurd (aY h1 h2) (cI _)
theorem Jr(I:Inv X pins σ Hc sc)(hst:X.stack=X.env::X.outer)(hf:X.env.frame=some X.env.locals){b:afw}{o:Obj}(q:X.s₀.heap.get? b=some o)(hb:b∉frs X.outer):b∉frs X.stack:=λz=>by
 rw[hst] at z
 unfold frs at z
 rw[uB,hf] at z
 rcases List.mem_cons.mp z with z | z
 ·exact old_ne I q z
 ·exact hb z
theorem Ex(hst:X.stack=X.env::X.outer)(hf:X.env.frame=some X.env.locals){b:afw}(hb:b∈frs X.outer):b∈frs X.stack:=by
 rw[hst]
 unfold frs
 rw[uB,hf]
 exact aO _ hb
theorem wK{M:Model}{A:afx}{E:afC->afB->Prop}{s:afB}{base:Heap}{env:Env}{outer:List Env}{L e:afw}{cls a0 nt:afC}{Q:Unit->afB->Prop}(hfr:A.frames=some (env::outer))(hf:env.frame=some L)
  (x:base.StaysIn s.heap/\base.get? e=none/\s.heap.FunFrames base (env::outer)/\Vh s.heap base e cls a0 nt)(k:∀h',D9 base (env::outer) e cls a0 L h'->s.heap.UpToSlots h'->Q () { s with heap:=h' }) :
  afP M A (noteFrame (.ref e) env) Q E s:=by
 obtain⟨x1,x2,x3,x4⟩:=x
 by_cases z:nt=rawInt L
 ·subst z
  exact Nk hf x4 (k s.heap ⟨x1,x2,x3,x4⟩ (NJ _))
 ·obtain⟨ox,us,T,ot,ws,g1,⟨g2,g3⟩,g4,g5,g6,g7,g8,g9,g10⟩:=x4
  subst g2
  have apart:∀b,b≠T->(s.heap.update T (ng (·.setIfInBounds 3 bY))).get? b=s.heap.get? b:=λb hb=>n9 _ _ (ay hb)
  have plain:∀b o,s.heap.get? b=some o->(∀vs,o.data≠.fields vs)->b≠T:=λb o hb hd q=>by
   subst q
   rw[g8] at hb
   cases hb
   exact hd ws g9
  unfold noteFrame
  simp only[hf]
  refine afQ (wpAny_field g1 g4 g5 ?_)
  rw[if_pos (show(aN T != bY)=true from by simp)]
  refine afQ (wpAny_field g8 g9 g10 ?_)
  rw[if_neg (show ¬((nt == rawInt L)=true) from by simpa using z)]
  refine afQ (wpAny_setField g8 g9 (Array.getElem?_eq_some_iff.mp g10).1 ?_)
  refine D_ (a0:=a0) hfr (x3.of_keeps λb o hb hd=>⟨o,(apart b (plain b o hb hd)).trans hb,rfl⟩) hf ((apart e (ay g7)).trans g1) (λb o hb=>(apart b λq=>by rw[q,g6] at hb;cases hb).trans (x1 b o hb)) x2 g4 (Array.getElem?_eq_some_iff.mp g5).1 g3 λh' y y4=>?_
  exact k h' y λb o hb hd=>y4 b o ((apart b (plain b o hb hd)).trans hb) hd
theorem tL{M:Model}{A:afx}{E:afC->afB->Prop}{s:afB}{base h:Heap}{env:Env}{outer:List Env}{L a:afw}{cls:afC}{args:List afC}{Q:Unit->afB->Prop}(hfr:A.frames=some (env::outer))(hf:env.frame=some L)
  (st:base.StaysIn h)(fs:h.FunFrames base (env::outer))(mk:uV h s.heap a cls args)(k:∀h' a0,D9 base (env::outer) a cls a0 L h'->s.heap.UpToSlots h'->Q () { s with heap:=h' }) :
  afP M A (noteFrame (.ref a) env) Q E s:=by
 obtain⟨t,e1,e2,e3⟩:=mk.there
 have fresh:∀b,h.get? b=none->base.get? b=none:=λb hb=>by
  cases q:base.get? b with
  | none=>rfl
  | some o'=>have z:=st b o' q;rw[hb] at z;cases z
 have fs':=fs.of_keeps (h':=s.heap) λb o hb _=>⟨o,mk.keeps b o hb,rfl⟩
 unfold noteFrame
 simp only[hf]
 refine afQ (wpAny_field e1 rfl (x:=.none) rfl ?_)
 rw[if_neg (by decide)]
 exact D_ hfr fs' hf e1 (λb o hb=>mk.keeps b o (st b o hb)) (fresh a mk.new) rfl (by simp) (a0:=.ref t) rfl λh' l1 l4=>k h' (.ref t) l1 l4
theorem Ey{ch:List afw}(hx:X.ex=[])(hst:X.stack=X.env::X.outer)(hf:X.env.frame=some X.env.locals)(I:Inv X pins σ Hc sc){B h2:Heap}(hch:∀b∈ch,dY X pins Hc b)(un:Un (frs X.stack) ch Hc H' sc.heap s'.heap)(up:s'.heap.UpToSlots h2)(stay:B.StaysIn h2)
  (wF:∀b o,sc.heap.get? b=some o->b∉frs X.stack->b∉ch->∃o',B.get? b=some o'/\(Hc b=none->o'=o)) :
  Un (frs X.outer) [] X.H₀ H' X.s₀.heap h2/\(∀b o,X.s₀.heap.get? b=some o->b∉frs X.outer->∃o',B.get? b=some o'/\(X.H₀ b=none->o'=o)):=by
 have nx:∀b:afw,b∉X.ex:=λb=>by rw[hx];simp
 have nc:∀b o,X.s₀.heap.get? b=some o->b∉ch:=λb o q z=>by
  rcases(hch b z).2.2.2.1 with y | y
  ·exact nx b y
  ·exact absurd (aY (aC q) y) (cI _)
 have NK:∀b o,X.s₀.heap.get? b=some o->b∉frs X.outer->∃o',B.get? b=some o'/\(X.H₀ b=none->o'=o):=λb o q hb=>by
  obtain⟨o1,q1⟩:=I.base.there b o q (nx b)
  obtain⟨o2,q2,q3⟩:=wF b o1 q1 (Jr I hst hf q hb) (nc b o q)
  refine⟨o2,q2,λn=>?_⟩
  have q4:=I.base.keep b o q n hb (nx b)
  rw[q4] at q1
  cases q1
  exact q3 (I.base.free b o q n (nx b))
 have sl:∀b o,X.s₀.heap.get? b=some o->X.H₀ b=none->b∈frs X.outer->∃sl,h2.get? b=some { o with slots:=sl }:=λb o q n hb=>by
  obtain⟨s1,q1⟩:=I.base.slot b o q n hb (nx b)
  obtain⟨s2,q2⟩:=un.slot b _ q1 (I.base.free b o q n (nx b)) (Ex hst hf hb) (nc b o q)
  obtain⟨_,o3,q3,q4⟩:=I.ok.jO.mem hb
  rw[q] at q3
  cases q3
  obtain⟨s3,q5⟩:=up b _ q2 q4
  exact⟨s3,q5⟩
 refine⟨⟨λb o q n hb _=>?_,λb o q n hb _=>sl b o q n hb,λb o q n _=>?_,λb o q _=>?_,λb xs h=>un.tups b xs (I.base.tups b xs h),λb o u h=>un.jN b o u (I.base.jN b o u h),λb ps h=>?_⟩,NK⟩
 ·obtain⟨o2,q2,q3⟩:=NK b o q hb
  rw[q3 n] at q2
  exact stay b o q2
 ·obtain⟨o1,q1⟩:=I.base.there b o q (nx b)
  exact un.free b o1 q1 (I.base.free b o q n (nx b)) (nc b o q)
 ·by_cases hb:b∈frs X.outer
  ·obtain⟨s3,q3⟩:=sl b o q (I.ok.DD b hb) hb
   exact⟨_,q3⟩
  ·obtain⟨o2,q2,_⟩:=NK b o q hb
   exact⟨o2,stay b o2 q2⟩
 ·obtain⟨m1,t1⟩:=I.base.jU b ps h
  obtain⟨m2,t2⟩:=un.jU b _ t1
  exact⟨m1++m2,by rw[<-Array.append_assoc];exact t2⟩
theorem j7(hx:X.ex=[])(hst:X.stack=X.env::X.outer)(hf:X.env.frame=some X.env.locals)(I:Inv X pins σ Hc sc)(F:j4 X pins Hc sc H' cls e s')
  (k:∀s2,wD X.prog X.w X.outer X.H₀ X.s₀ H' cls e s2->Q () s2):afP (model X.prog X.w) X.A (leaving X.env e) Q E s':=by
 obtain⟨a,a0,nt,B,ch,rfl,os,bare,hch,un,hok,fl,wF⟩:=F
 have hfr:X.A.frames=some (X.env::X.outer):=by rw[I.ok.frames,hst]
 rw[hst] at fl
 unfold leaving
 refine afQ (wK hfr hf fl λh1 hd1 up1=>?_)
 refine wB hd1 λh2 tM Ta=>k _ ?_
 obtain⟨k1,k2,⟨_,_,k3⟩,k4⟩:=tM
 obtain⟨u2,c2⟩:=Ey hx hst hf I hch un (up1.trans Ta) k1 wF
 exact⟨a,a0,B,rfl,os.trans I.os,bare,u2,hok,⟨k1,k2,k3,k4⟩,c2⟩
theorem wL{P:afA}{w:afD}{H:Hp}{h:Heap}{l:List afw}(ok:jI P w H h)(fr:∀b∈l,H b=none):jI P w H (PySem.W.hideAll h l):=λa o q=>
 (ok a o q).stay (λb u hb r=>PySem.W.hideAll_get _ r λz=>by
  have n:=fr b z
  rcases hb with hb | hb
  ·rw[hb,q] at n;cases n
  ·rw[hb] at n;cases n) (λ_ r=>r) λ_ _ r=>r
theorem mh{a C:afw}{args:List afC}(hx:X.ex=[])(hst:X.stack=X.env::X.outer)(hf:X.env.frame=some X.env.locals)(I:Inv X pins σ Hc sc)(ho:s'.os=sc.os)(hgn:s'.gens=sc.gens)
  (M:uV sc.heap s'.heap a (.ref C) args)(k:∀s2,wD X.prog X.w X.outer X.H₀ X.s₀ Hc (.ref C) (.ref a) s2->Q () s2):afP (model X.prog X.w) X.A (leaving X.env (.ref a)) Q E s':=by
 have hfr:X.A.frames=some (X.env::X.outer):=by rw[I.ok.frames,hst]
 have fs:sc.heap.FunFrames (PySem.W.hideAll sc.heap (frs X.stack)) (X.env::X.outer):=by
  rw[<-hst]
  exact PySem.W.funFrames_hide I.stack λenv he b hb=>List.mem_filterMap.mpr ⟨env,he,hb⟩
 unfold leaving
 refine afQ (tL (base:=PySem.W.hideAll sc.heap (frs X.stack)) hfr hf (λb o q=>PySem.W.of_hideAll _ q) fs M λh1 t hd1 up1=>?_)
 refine wB hd1 λh2 tM Ta=>k _ ?_
 have up:=up1.trans Ta
 replace tM:uT (PySem.W.hideAll sc.heap (frs X.stack)) X.outer a (.ref C) t h2:=let ⟨k1,k2,⟨_,_,k3⟩,k4⟩:=tM;⟨k1,k2,k3,k4⟩
 obtain⟨u2,c2⟩:=Ey (H':=Hc) (s':=s') (ch:=[]) hx hst hf I (λb z=>by cases z) (Un.kept M.keeps) up tM.1 λb o q hb _=>⟨o,PySem.W.hideAll_get _ q hb,λ_=>rfl⟩
 exact⟨a,t,_,rfl,ho.trans I.os,by rw[show({ s' with heap:=h2 }:afB).gens=sc.gens from hgn];exact I.bare,u2,wL I.hok I.kU,tM,c2⟩
end
def Ez(K:PySem.W.Frag)(m:Mp)(H:Hp)(r:Re Wv)(Q:VK)(E:XK):Prop:=match r with
 | .ok w st=>Q6 K m H Q w st
 | .err c st=>∀(m':Mp)(H':Hp)(C:afw),Ext K m H m' H'->bb K m' st H'->ClsAt K c C->E (.ref C) none H'
 | .bad=>False
def spW(K:PySem.W.Frag)(n:Nat)(F:List Wv->Hs->Re Wv):Sp:=λvs H Q E=>∃m st ws,bb K m st H/\ah K m H ws vs/\ws.length=n/\Ez K m H (F ws st) Q E
def av(n:Nat)(F:List Wv->Hs->Re Wv)(g:GA):GE:=λρ st=>(g ρ st).bind λws st1=>if ws.length=n then F ws st1 else .bad
section
variable {X:Cx}
theorem Js{k n:Nat}{f:afw}{fd:afy}{ps:List Str}{F:List Wv->Hs->Re Wv}{x:Str}{p pos:Pos}{e:Expr}{es:List Expr}{g:GA}
  (G:FnOk X.prog X.w X.K X.mg X.base (CXJ X.prog X.w) k f fd ps (spW X.K n F))(hr:iE k X.A)(hm:X.mg x=some (.ref f))(hk:PySem.W.keepIn X.K (.ref f)=true)(hb:Binds X.K fd ps [])(ha:JA X (e::es) g)(hg:Gl X x:=by rfl)
  (hdb:(x == ("__debug__":Str))=false:=by decide)(he:afO (e::es) X.env=(false,eval e X.env)::afO es X.env:=by rfl)(hpl:(backTo pos (afO es X.env)).any (·.1)=false:=by rfl) :
  JE X (.Call (.Name x p) (e::es) [] pos) (av n F g):=by
 intro ρ st σ H m Q S R p pins s I
 have args:=ha.go (T:=λvs H1=>∃ws st1 m1,cU X σ m H (if ws.length=n then F ws st1 else .bad) Q/\Ext X.K m H m1 H1/\bb X.K m1 st1 H1/\ah X.K m1 H1 ws vs) S R (ax.bind p)
  λws st1 vs m1 H1 p1 e1 S1 rs=>⟨ws,st1,m1,p1,e1,S1,rs⟩
 refine wpAny_Call_Name_kw (kW I hg hm ?_ hdb)
 refine PySem.W.callWith_K (h₀:=X.base) I.ok.mod.Iq hk (bp (args pos pins s I) λus s1 ⟨vs,H1,I1,r,ws,st1,m1,p1,e1,S1,rs⟩=>⟨I1.v9,?_⟩) he hpl
 by_cases c:ws.length=n
 ·rw[if_pos c] at p1
  let E:XK:=λcl _ H2=>∃c' st2 m2 C,cl= .ref C/\ClsAt X.K c' C/\F ws st1= .err c' st2/\Ext X.K m1 H1 m2 H2/\bb X.K m2 st2 H2
  have sp:spW X.K n F vs H1 Q E:=by
   refine⟨m1,st1,ws,S1,rs,c,?_⟩
   cases er:F ws st1 with
   | ok w st2=>rw[er] at p1;exact cU.shift (r:=.ok w st2) p1 e1
   | err c' st2=>exact λm2 H2 C e2 S2 hC=>⟨c',st2,m2,C,rfl,hC,er,e2,S2⟩
   | bad=>rw[er] at p1;exact ae p1
  have hl:us.length=ps.length:=by rw[<-r.length];exact G.len _ _ _ _ sp
  have bd:=hb s1 us I1.v9 (by rw[fk];exact hl)
  rw[fk] at bd
  refine wpAny_call (codeAny_mono (G.run X.A X.stack s1 H1 ⟨us,[]⟩ us vs Q E hr I1.MT bd r sp) λrr s2 hq=>?_)
  cases rr with
  | error x=>
   obtain⟨H2,C,fl,c',st2,m2,C',ec,hC,er,e2,S2⟩:=hq
   cases ec
   rw[er] at p1
   exact p1 m2 H2 x s2 (e1.trans e2) S2 ⟨C,pins,H1,s1,hC,I1,.inl fl.any⟩
  | ok fw=>
   cases fw with
   | ret u=>exact I1.after hq
   | next=>exact ae hq
   | brk=>exact ae hq
   | cont=>exact ae hq
 ·rw[if_neg c] at p1;exact ae p1
end
def cg(n:Nat)(g:GS):List Wv->Hs->Re Wv:=λws st=>match g (ws.map some++aH (n - ws.length) none) st with
 | .nx _ st'=> .ok .bO st'
 | .rt w st'=> .ok w st'
 | .err c _ st'=> .err c st'
 | _=> .bad
theorem wM{K:PySem.W.Frag}{m:Mp}{H:Hp}{N:List Str}{ws:List Wv}{vs:List V}(r:ah K m H ws vs)(h:ws.length<=N.length):aw K m H (ws.map some++aH (N.length - ws.length) none) (L2.start N vs):=by
 have hl:=r.length
 refine⟨by unfold L2.start;simp[hl],λi w e=>?_⟩
 by_cases hi:i < ws.length
 ·rw[eG (by simpa using hi),iF] at e
  cases q:ws[i]? with
  | none=>rw[q] at e;cases e
  | some w'=>
   rw[q] at e
   cases e
   obtain⟨x,h1,h2⟩:=r.get q
   refine⟨x,?_,h2⟩
   unfold L2.start
   rw[eG (by simp;omega),iF,h1]
   rfl
 ·rw[fW (by simpa using hi),uH] at e
  split at e<;>cases e
section
variable {P:afA} {w:afD} {K:PySem.W.Frag} {mg:Str->Option afC} {base:Heap}
theorem yI{N:List Str}{qual:Str}{scope:Scope}{f:afw}{cdv:afC}{A:afx}{outer:List Env}{s s':afB}{H H':Hp}{E:XK}{σ:St}{c:PySem.Str}{e:afC}
  (r:qI (qA (CXJ P w) P w K mg base N qual scope f cdv A outer s H E) σ H' c e s')(h:∀C,ClsAt K c C->E (.ref C) none H'):(qA (CXJ P w) P w K mg base N qual scope f cdv A outer s H E).xe e s':=by
 obtain⟨C,pins,Hc,sc,hC,I,r⟩:=r
 rcases r with fl | ⟨rfl,a,args,rfl,ho,hg,M⟩
 ·exact j7 (X:=qA (CXJ P w) P w K mg base N qual scope f cdv A outer s H E) rfl rfl rfl I fl λs2 tM=>⟨H',C,tM,h C hC⟩
 ·exact mh (X:=qA (CXJ P w) P w K mg base N qual scope f cdv A outer s H E) rfl rfl rfl I ho hg M λs2 tM=>⟨H',C,tM,h C hC⟩
def EA(K:PySem.W.Frag)(f:afw)(cdv:afC):Prop:=∃o,K.lookup f=some o/\∃fd,o.data= .func fd/\fd.code=cdv
theorem Lg{x qual:Str}{st:Stmt}{f:afw}{fd:afy}{N ps:List Str}{k:Nat}{g:GS}(F:K6 K x qual st f fd)(S:FnScope N ps (defScope st))
  (body:∀(cdv:afC),EA K f cdv->∀(A:afx)(outer:List Env)(s:afB)(H:Hp)(E:XK),iE k (A.deeper (envOfC qual (defScope st) s.heap.objs.size f cdv))->lT (qA (CXJ P w) P w K mg base N qual (defScope st) f cdv A outer s H E) (defBody st) g) :
  FnOk P w K mg base (CXJ P w) (k+1) f fd ps (spW K ps.length (cg N.length g)):=by
 have hpl:ps.length<=N.length:=by have:=congrArg jf S.pre;rw[kZ] at this;omega
 obtain⟨oc,od,kV,doc,pm,an,cdv,ct,osl,rfl,lk,hcd⟩:=F.ex
 refine R9 lk hcd S (λvs H Q E h=>?_) λA outer s H vs Q E hr h=>?_
 ·obtain⟨m,st',ws,_,r,hl,_⟩:=h
  rw[<-r.length];exact hl
 ·obtain⟨m,st',ws,S',r,hl,p⟩:=h
  refine⟨_,dN,?_⟩
  refine body cdv ⟨_,lk,_,rfl,rfl⟩ A outer s H E hr _ st' _ H m _ S' (wM r (by omega)) ?_
  unfold cg at p
  cases e:g (ws.map some++aH (N.length - ws.length) none) st' with
  | nx ρ st2=>rw[e] at p;exact λσ m' H' e' S2 R2=>p _ m' H' e' S2 (by unfold ag;rfl)
  | rt w' st2=>rw[e] at p;exact p
  | bk ρ st2=>rw[e] at p;exact ae p
  | ct ρ st2=>rw[e] at p;exact ae p
  | err c ρ st2=>rw[e] at p;exact λσ m' H' x s' e' S2 R2 rz=>yI rz λC hC=>p m' H' C e' S2 hC
  | bad=>rw[e] at p;exact ae p
end
def AI(H:Hp):Prop:=∀b,H b=none\/(∃o xs,H b=some (.hR o (.lst xs)))\/H b=some (.gP #[])
theorem law_sp{K:PySem.W.Frag}{F:List Wv->Hs->Re Wv}(h:∀ns:List Int,ns.length<=63->∃st,F [.ref 0] [.tJ ns]= .ok (.bl true) st)(H:Hp)(a:afw)(ns:List Int)(hl:ns.length<=63)(hO:AI H)(hS:jT K H a (ns.map V.int))(hT:md K H) :
  spW K 1 F [.ref a] H (λv _=>v= .bl true) λ_ _ _=>False:=by
 obtain⟨st,e⟩:=h ns hl
 refine⟨[a],[.tJ ns],[.ref 0],⟨rfl,λl b o h1 h2=>?_,λl l' b ws ws' _ _ h2 _ k _=>?_,hT⟩,ah.cons (by unfold ag;exact⟨a,rfl,rfl⟩) ah.nil,rfl,?_⟩
 ·cases l with
  | zero=>
   simp at h1 h2
   subst h1 h2
   show wC K H a ns
   rcases hS with (q | ⟨o',q⟩) | q
   ·rcases hO a with z | ⟨o',xs,z⟩ | z
    ·rw[z] at q;cases q
    ·rw[z] at q;cases q
    ·rw[z] at q;cases q
   ·exact .inl ⟨o',q⟩
   ·exact .inr q
  | succ l=>simp at h1
 ·cases l with
  | zero=>simp at h2;subst h2;simp[Ob.mu] at k
  | succ l=>simp at h2
 ·rw[e]
  intro v m' H' _ _ r
  unfold ag at r
  exact r
def NL(w:Wv)(st:Hs):Re Bool:=match w with
 | .bO=> .ok false st
 | .bl b=> .ok b st
 | .int i=> .ok (i != 0) st
 | .str y=>if y.length<=lim then .ok ((y.length:Int) != 0) st else .bad
 | .tup ws=> .ok (!ws.isEmpty) st
 | .pB _=> .bad
 | .ref l=>match aq st l with
  | some ws=> .ok (!ws.isEmpty) st
  | none=> .bad
 | .ty _=> .bad
 | .cls _=> .bad
 | .lh _=> .bad
 | .fn _ _=> .bad
def lN(g:GE):GT:=λρ st=>(g ρ st).bind NL
section
variable {X:Cx}
theorem wa{m:Mp}{H:Hp}{ws:List Wv}{xs:List V}(r:ah X.K m H ws xs):(!ws.isEmpty)= !xs.isEmpty:=by
 have h:=r.length
 cases ws<;>cases xs<;>simp_all
theorem qO{e:Expr}{g:GE}(h:JE X e g)(he:∀whole,isTrue e X.env whole=(do let v <-whole;standAt e.pos;holding [v] (truthy v))):JT X e (lN g) :=
 JT.of (DP aM he) λρ st σ H m Q S R p=>h.go S R (ax.bind p) λw st1 v m1 H1 p1 e1 S1 r1=>by
  cases w with
  | bO=>unfold ag at r1;subst r1;exact⟨false,rfl,p1 m1 H1 e1 S1⟩
  | bl b=>unfold ag at r1;subst r1;exact⟨b,rfl,p1 m1 H1 e1 S1⟩
  | int i=>unfold ag at r1;subst r1;exact⟨_,rfl,p1 m1 H1 e1 S1⟩
  | str y=>
   obtain⟨rfl,_⟩:=eK r1
   have p2:iU X σ m H (if y.length<=lim then .ok ((y.length:Int) != 0) st1 else .bad) Q:=p1
   by_cases c:y.length<=lim
   ·rw[if_pos c] at p2;exact⟨_,⟨dZ c,rfl⟩,p2 m1 H1 e1 S1⟩
   ·rw[if_neg c] at p2;exact ae p2
  | pB ws=>exact ae p1
  | tup ws=>
   unfold ag at r1
   obtain⟨a,xs,rfl,h1,h2⟩:=r1
   refine⟨!xs.isEmpty,.inr (.inl ⟨xs,eF.of h1,rfl⟩),?_⟩
   rw[<-wa h2]
   exact p1 m1 H1 e1 S1
  | ref l=>
   unfold ag at r1
   obtain⟨a,rfl,h1⟩:=r1
   have p2:iU X σ m H (match aq st1 l with | some ws=> .ok (!ws.isEmpty) st1 | none=> .bad) Q:=p1
   cases el:aq st1 l with
   | none=>rw[el] at p2;exact ae p2
   | some ws=>
    rw[el] at p2
    obtain⟨xs,hq,h2⟩:=S1.read h1 el
    refine⟨!xs.isEmpty,.inl ⟨xs,hq,rfl⟩,?_⟩
    rw[<-wa h2]
    exact p2 m1 H1 e1 S1
  | ty T=>exact ae p1
  | cls T=>exact ae p1
  | lh T=>exact ae p1
  | fn fp T=>exact ae p1
theorem wN{p:Nat->Bool}{x:Array Nat}(hx:x.all p=true):∀(n:Nat)(a:Array Nat),a.all p=true->((aH n x).foldl (· ++·) a).all p=true
 | 0,a,h=>h
 | n+1,a,h=>by
  rw[hX,DW]
  refine wN hx n _ ?_
  rw[Array.all_append,h,hx]
  rfl
theorem Cd{x:PySem.Str}{n:Nat}(h:bg x=true):bg (wI n x)=true:=by
 unfold bg at h ⊢
 unfold wI
 exact wN h n #[] (by simp)
theorem tN{x:Array Nat}:∀(n:Nat)(a:Array Nat),((aH n x).foldl (· ++·) a).size=a.size+x.size * n
 | 0,a=>by simp
 | n+1,a=>by
  rw[hX,DW,tN n,Array.size_append,Nat.mul_succ]
  omega
theorem EB{x:PySem.Str}{n:Nat}:(wI n x).length=x.length * n:=by
 show((aH n x.cps).foldl (· ++·) #[]).size=x.cps.size * n
 rw[tN]
 simp
def tO(x:PySem.Str)(n:Int):Prop:=1 < n/\n<=100000/\x.length≠0/\x.length * n.toNat<=lim
instance {x n}:Decidable (tO x n):=by unfold tO;infer_instance
theorem Jt:fD X (afF .Mult) (λx y H Q=>∃z n,x= .str z/\y= .int n/\tO z n/\Q (.str (wI n.toNat z)) H):=by
 intro pins s σ H x y v u Q I rx ry h
 obtain⟨z,n,rfl,rfl,⟨h1,h2,h3,h4⟩,q⟩:=h
 obtain⟨t,rfl⟩:=rx
 obtain⟨t',rfl⟩:=ry
 have n1:¬n < 1:=by omega
 have hlen:z.length<=lim:=by
  refine bu ?_ h4
  exact Nat.le_mul_of_pos_right _ (by omega)
 have hne:(n == 1||z.length == 0)=false:=by
  have e1:(n == 1)=false:=by rw[beq_eq_false_iff_ne];omega
  have e2:(z.length == 0)=false:=by rw[beq_eq_false_iff_ne];exact h3
  rw[e1,e2];rfl
 have hl:PySem.Builtin.Str.tooLong (z.length * n.toNat)=false:=by
  unfold PySem.Builtin.Str.tooLong
  have q:=dZ h4
  first
   | exact decide_eq_false (by omega)
   | simp only[decide_eq_false_iff_not];omega
 refine PySem.P.mul_str (by
   have e1:¬n < -(2 ^ 63:Int):=by omega
   have e2:¬n >= 2 ^ 63:=by omega
   rw[decide_eq_false e1,decide_eq_false e2];rfl) (λ_ _=>?_) (λ_ _=>hl) ?_
 ·have e:((2:Int) ^ 63 - 1) / 100000<=(2 ^ 63 - 1) / n:=by
   refine Int.le_ediv_of_mul_le (by omega) ?_
   have:((2:Int) ^ 63 - 1) / 100000 * n<=((2:Int) ^ 63 - 1) / 100000 * 100000:=Int.mul_le_mul_of_nonneg_left h2 (by decide)
   exact yJ this (by decide)
  have e':(1000000:Int)<=(2 ^ 63 - 1) / 100000:=by decide
  unfold lim at hlen
  omega
 ·rw[if_neg n1,if_neg (by rw[hne];exact cT)]
  exact⟨by show(wI n.toNat z).length<=_;rw[EB];exact dZ h4,.str (wI n.toNat z),H,I.tok _,⟨_,rfl⟩,q⟩
def Lh:gA
 | .int i,.int j,st=>if IntMulOk i j then .ok (.int (i * j)) st else .bad
 | .str z,.int n,st=>if tO z n then .ok (.str (wI n.toNat z)) st else .bad
 | _,_,_=> .bad
theorem Ju:lq X (afF .Mult) Lh:=⟨_,fD.or Jd Jt,λx y a b st H m Q S rx ry p=>by
 cases x with
 | int i=>
  cases y with
  | int j=>
   cases aL rx;cases aL ry
   have p':eo X.K m H (if IntMulOk i j then .ok (.int (i * j)) st else .bad) Q:=p
   by_cases c:IntMulOk i j
   ·rw[if_pos c] at p';exact .inl ⟨i,j,rfl,rfl,c,p' _ m H Ext.refl S mkInt⟩
   ·rw[if_neg c] at p';exact ae p'
  | _=>exact ae p
 | str z=>
  cases y with
  | int n=>
   obtain⟨rfl,hz⟩:=eK rx
   cases aL ry
   have p':eo X.K m H (if tO z n then .ok (.str (wI n.toNat z)) st else .bad) Q:=p
   by_cases c:tO z n
   ·rw[if_pos c] at p';exact .inr ⟨z,n,rfl,rfl,c,p' _ m H Ext.refl S (mkStr (Cd hz))⟩
   ·rw[if_neg c] at p';exact ae p'
  | _=>exact ae p
 | _=>exact ae p⟩
def bL:GE:=λ_ _=> .bad
def j8:GT:=λ_ _=> .bad
theorem aB{e:Expr}:JE X e bL:=λρ st σ H m Q S R p=>ae p
theorem j9{e:Expr}:JT X e j8:=λρ st σ H m Q S R p=>ae p
end
def tP(P:afA)(w:afD)(K:PySem.W.Frag)(mg:Str->Option afC)(base:Heap)(k:Nat)(x:Str)(n:Nat)(F:List Wv->Hs->Re Wv):Prop :=
 ∃f fd ps,FnOk P w K mg base (CXJ P w) k f fd ps (spW K n F)/\mg x=some (.ref f)/\PySem.W.keepIn K (.ref f)=true/\Binds K fd ps []
theorem tP.mono{P:afA}{w:afD}{K:PySem.W.Frag}{mg:Str->Option afC}{base:Heap}{j k:Nat}{x:Str}{n:Nat}{F:List Wv->Hs->Re Wv}(h:tP P w K mg base j x n F)(l:j<=k):tP P w K mg base k x n F:=by
 obtain⟨f,fd,ps,G,r⟩:=h
 exact⟨f,fd,ps,G.mono l,r⟩
def bq(K:PySem.W.Frag)(x:Str)(st:Stmt):Prop:=∃f fd,PySem.W.nsIn K afM x=some (some (.ref f))/\K6 K x x st f fd
theorem mi{K:PySem.W.Frag}{x:Str}{st:Stmt}{f:afw}{oc:afC}{od an:Option afw}{osl:Array (Option afC)}{kV doc pm cdv ct:afC}(a:PySem.W.nsIn K afM x=some (some (.ref f)))
  (l:K.lookup f=some ⟨oc,od,.func (PySem.W.fnOf x x (defArgs st) (defBody st) (defScope st) .none kV doc pm an cdv ct),osl⟩)(c:PySem.W.codeIn K cdv x=true)(k:PySem.W.keepIn K (.ref f)=true):bq K x st:=⟨f,_,a,M' l c k⟩
theorem EC:afG "isinstance"=some (.builtin "isinstance"):=by decide+kernel
theorem Ce:afG "len"=some (.builtin "len"):=by decide+kernel
theorem wO:afG "int"=some (.type "int"):=by decide+kernel
theorem ED:afG "str"=some (.type "str"):=by decide+kernel
theorem EE:afG "bool"=some (.type "bool"):=by decide+kernel
theorem wQ:afG "tuple"=some (.type "tuple"):=by decide+kernel
theorem EF:afG "list"=some (.type "list"):=by decide+kernel
def fP(i:Nat)(gb:GS):List Wv->bC->Hs->Rs
 | [],ρ,st=> .nx ρ st
 | w::r,ρ,st=>match gb (ρ.set i (some w)) st with
  | .nx ρ' st'=>fP i gb r ρ' st'
  | .ct ρ' st'=>fP i gb r ρ' st'
  | .bk ρ' st'=> .nx ρ' st'
  | .rt w st'=> .rt w st'
  | .err c ρ' st'=> .err c ρ' st'
  | .bad=> .bad
section
variable {X:Cx}
theorem nk(i:Nat){body:List Stmt}{gb:GS}(hb:lT X body gb){J':It}{ws:List Wv}{m1:Mp}{H1:Hp}{st1:Hs}{ρ:bC}{σ:St}{D:Ends}(S1:bb X.K m1 st1 H1)(R:aw X.K m1 H1 ρ σ)(p1:aE X m1 H1 (fP i gb ws ρ st1) D)
  (hgo:∀(k:Nat)(H:Hp)(m':Mp),Ext X.K m1 H1 m' H->k < ws.length->J'.go k H)(hstop:∀(k:Nat)(H:Hp)(m':Mp),Ext X.K m1 H1 m' H->k=ws.length->J'.stop k H)
  (hy:∀(k:Nat)(hk:k < ws.length)(H:Hp)(x:V)(H':Hp)(m':Mp),Ext X.K m1 H1 m' H->J'.v_ k H x H'->H'=H/\ag X.K m' H ws[k] x) :
  ∃W:Nat->Nat->St->Hp->Prop,(∃m,W 0 m σ H1)/\∀k n σ H,W k n σ H->
   (J'.stop k H/\D.nx σ H)\/(J'.go k H/\∃N:St->Hp->Prop,(∀σ' H',N σ' H'->∃m',m' < n/\W (k+1) m' σ' H')/\∀x H',J'.v_ k H x H'->wg i x σ H' λσ2 H2=>Sq X body { D with nx:=N,ct:=N,bk:=D.nx } σ2 H2):=by
 let Pv:Nat->St->Hp->Prop:=λk σ H=>∃ρ st m',Ext X.K m1 H1 m' H/\bb X.K m' st H/\aw X.K m' H ρ σ/\aE X m' H (fP i gb (ws.drop k) ρ st) D
 refine⟨λk n σ H=>n=ws.length - k/\k<=ws.length/\Pv k σ H,⟨ws.length,by simp,bG _,ρ,st1,m1,Ext.refl,S1,R,p1⟩,?_⟩
 rintro k n σ2 H2 ⟨rfl,hk,ρ2,st2,m2,e2,S2,R2,p2⟩
 by_cases hlt:k < ws.length
 ·refine .inr ⟨hgo k H2 m2 e2 hlt,Pv (k+1),λσ' H' p'=>⟨ws.length - (k+1),by omega,rfl,hlt,p'⟩,λx H' y=>?_⟩
  obtain⟨ee,pO⟩:=hy k hlt H2 x H' m2 e2 y
  subst ee
  have ed:ws.drop k=ws[k]::ws.drop (k+1):=mj hlt
  rw[ed] at p2
  refine hb _ st2 _ _ m2 _ S2 (R2.set i pO) ?_
  unfold fP at p2
  cases eg:gb (ρ2.set i (some ws[k])) st2 with
  | nx ρ3 st3=>rw[eg] at p2;exact λσ3 m3 H3 e3 S3 R3=>⟨ρ3,st3,m3,e2.trans e3,S3,R3,aE.shift p2 e3⟩
  | ct ρ3 st3=>rw[eg] at p2;exact λσ3 m3 H3 e3 S3 R3=>⟨ρ3,st3,m3,e2.trans e3,S3,R3,aE.shift p2 e3⟩
  | bk ρ3 st3=>rw[eg] at p2;exact p2
  | rt w3 st3=>rw[eg] at p2;exact p2
  | err c3 ρ3 st3=>rw[eg] at p2;exact p2
  | bad=>rw[eg] at p2;exact p2
 ·have e:k=ws.length:=by omega
  subst e
  rw[oo] at p2
  exact .inl ⟨hstop _ H2 m2 e2 rfl,p2 σ2 m2 H2 Ext.refl S2 R2⟩
def WN(K:PySem.W.Frag)(tl:TE):TI:=λσ H R=>tl σ H λx H1=>∃a,x= .ref a/\(((∃xs,jT K H1 a xs)/\R (Wo K a) H1)\/((∃xs,eF K H1 a xs)/\R (ZW K a) H1))
theorem EG{tg l:Expr}{tl:TE}(hl:PE X l tl):PI X tg l (WN X.K tl):=by
 intro pins s σ H R I h
 refine bp (hl pins s σ H _ I h) λv s1 ⟨x,H1,I1,r1,q1⟩=>?_
 obtain⟨a,e,q1⟩:=q1
 subst e
 cases r1
 have frs:∀b∈[s1.heap.objs.size],dY X pins H1 b:=λb hb=>by
  have e:b=s1.heap.objs.size:=by simpa using hb
  subst e
  exact I1.sx (au _) (I1.hok.fresh (au _))
 rcases q1 with ⟨⟨xs,hq⟩,q⟩ | ⟨⟨xs,hq⟩,q⟩
 ·obtain⟨its,rv,p,hz⟩:=I1.list hq
  refine wpAny_pyIter_list p.isList ?_
  exact⟨s1.heap.objs.size,[s1.heap.objs.size],_,_,H1,rfl,I1.kept (t':=s1.toks) λb o e=>aF _ e,sY a _,⟨_,br _ rfl,rfl,rfl⟩,frs,q⟩
 ·obtain⟨its,rv,p,hz⟩:=I1.tuple hq
  refine wpAny_pyIter_tuple (show s1.heap.IsTuple a its.toArray from p) ?_
  exact⟨s1.heap.objs.size,[s1.heap.objs.size],_,_,H1,rfl,I1.kept (t':=s1.toks) λb o e=>aF _ e,yg a _,⟨_,br _ rfl,rfl,rfl⟩,frs,q⟩
def pP(i:Nat)(gi:GE)(gb:GS):GS:=λρ st=>(gi ρ st).bp ρ λw st1=>match w with
 | .ref l=>(match aq st1 l with | some ws=>forL i gb l ws ws ρ st1 | none=> .bad)
 | .tup ws=>fP i gb ws ρ st1
 | .pB ws=>fP i gb ws ρ st1
 | _=> .bad
theorem u6(i:Nat){x:Str}{iter:Expr}{body:List Stmt}{gi:GE}{gb:GS}{pos pos':Pos}(hN:X.N.Nodup)(hp:PassesOwn (model X.prog X.w) X.A X.env X.xe)(hc:X.calm=true)(hi:JE X iter gi)(hb:lT X body gb)
  (hx:X.N[i]? =some x)(hlo:Loc X.env.scope x)(NM:X.fn x=true\/X.env.scope.names.lookup x=some .local)
  (hs:∀x,afK iter X.env x=pure x):JS X (.For (.Name x pos') iter body [] pos) (pP i gi gb):=by
 refine JS.of (lZ hp hc (EG aM) (mW hN hx hlo NM) dN hs) λρ st σ H m D S R p=>?_
 refine hi.go S R (aE.cK R p) λw st1 v m1 H1 p1 e1 S1 rw'=>?_
 cases w with
 | ref l=>
  have p1':aE X m H (match aq st1 l with | some ws=>forL i gb l ws ws ρ st1 | none=> .bad) D:=p1
  unfold ag at rw'
  obtain⟨a,rfl,hla⟩:=rw'
  cases el:aq st1 l with
  | none=>rw[el] at p1';exact ae p1'
  | some ws=>
   rw[el] at p1'
   obtain⟨Tb,q0,_⟩:=S1.read hla el
   refine⟨a,rfl,.inl ⟨⟨Tb,q0⟩,?_⟩⟩
   let Pv:Nat->St->Hp->Prop:=λk σ H=>∃ρ st m',Ext X.K m1 H1 m' H/\bb X.K m' st H/\aw X.K m' H ρ σ/\aq st l=some ws/\aE X m' H (forL i gb l ws (ws.drop k) ρ st) D
   refine⟨λk n σ H=>n=ws.length - k/\k<=ws.length/\Pv k σ H,⟨ws.length,by simp,bG _,ρ,st1,m1,Ext.refl,S1,R.mono e1,el,aE.shift p1' e1⟩,?_⟩
   rintro k n σ2 H2 ⟨rfl,hk,ρ2,st2,m2,e2,S2,R2,l2,p2⟩
   obtain⟨xs,hq,rws⟩:=S2.read (e2.pre _ _ hla) l2
   have hlen:=rws.length
   by_cases hlt:k < ws.length
   ·have hx':k < xs.length:=by omega
    refine .inr ⟨⟨xs,xs[k],hq,by simp[hx']⟩,Pv (k+1),λσ' H' p'=>⟨ws.length - (k+1),by omega,rfl,hlt,p'⟩,λx H' y=>?_⟩
    obtain⟨ee,y⟩:=y
    subst ee
    have ey:=y xs hq
    have ed:ws.drop k=ws[k]::ws.drop (k+1):=mj hlt
    obtain⟨x',ex',pO⟩:=rws.get (i:=k) (w:=ws[k]) (fm hlt)
    rw[ey] at ex'
    cases ex'
    rw[ed] at p2
    refine hb _ st2 _ _ m2 _ S2 (R2.set i pO) ?_
    unfold forL at p2
    cases eg:gb (ρ2.set i (some ws[k])) st2 with
    | nx ρ3 st3=>
     rw[eg] at p2
     by_cases c:aq st3 l=some ws
     ·simp only[if_pos c] at p2
      exact λσ3 m3 H3 e3 S3 R3=>⟨ρ3,st3,m3,e2.trans e3,S3,R3,c,aE.shift p2 e3⟩
     ·simp only[if_neg c] at p2;exact ae p2
    | ct ρ3 st3=>
     rw[eg] at p2
     by_cases c:aq st3 l=some ws
     ·simp only[if_pos c] at p2
      exact λσ3 m3 H3 e3 S3 R3=>⟨ρ3,st3,m3,e2.trans e3,S3,R3,c,aE.shift p2 e3⟩
     ·simp only[if_neg c] at p2;exact ae p2
    | bk ρ3 st3=>rw[eg] at p2;exact p2
    | rt w3 st3=>rw[eg] at p2;exact p2
    | err c3 ρ3 st3=>rw[eg] at p2;exact p2
    | bad=>rw[eg] at p2;exact p2
   ·have e:k=ws.length:=by omega
    subst e
    rw[oo] at p2
    exact .inl ⟨⟨xs,hq,by omega⟩,p2 σ2 m2 H2 Ext.refl S2 R2⟩
 | tup ws=>
  unfold ag at rw'
  obtain⟨a,xs,rfl,hq,rws⟩:=rw'
  have hlen:=rws.length
  refine⟨a,rfl,.inr ⟨⟨xs,eF.of hq⟩,?_⟩⟩
  refine nk i hb (ws:=ws) S1 (R.mono e1) (aE.shift p1 e1) (λk H m' e hk=>?_) (λk H m' e hk=>?_) λk hk H x H' m' e y=>?_
  ·have hx':k < xs.length:=by omega
   exact⟨xs,xs[k],eF.of (e.tup _ _ hq),by simp[hx']⟩
  ·exact⟨xs,eF.of (e.tup _ _ hq),by omega⟩
  ·obtain⟨ee,y⟩:=y
   refine⟨ee,?_⟩
   obtain⟨x',ex',pO⟩:=(ah.mono e _ _ rws).get (i:=k) (w:=ws[k]) (fm hk)
   rw[y xs (eF.of (e.tup _ _ hq))] at ex'
   cases ex'
   exact pO
 | pB ws=>
  unfold ag at rw'
  obtain⟨a,xs,rfl,hq,rws⟩:=rw'
  have hlen:=rws.length
  refine⟨a,rfl,.inr ⟨⟨xs,.inr hq⟩,?_⟩⟩
  refine nk i hb (ws:=ws) S1 (R.mono e1) (aE.shift p1 e1) (λk H m' e hk=>?_) (λk H m' e hk=>?_) λk hk H x H' m' e y=>?_
  ·have hx':k < xs.length:=by omega
   exact⟨xs,xs[k],.inr hq,by simp[hx']⟩
  ·exact⟨xs,.inr hq,by omega⟩
  ·obtain⟨ee,y⟩:=y
   refine⟨ee,?_⟩
   obtain⟨x',ex',pO⟩:=(ah.mono e _ _ rws).get (i:=k) (w:=ws[k]) (fm hk)
   rw[y xs (.inr hq)] at ex'
   cases ex'
   exact pO
 | _=>exact ae p1
def bR(lo:Int)(n:Nat):List Wv:=(gn n).map λk:Nat=>Wv.int (lo+k)
theorem ly{lo:Int}{n k:Nat}(h:k < n):(bR lo n)[k]? =some (.int (lo+k)):=by
 unfold bR
 rw[iF,List.getElem?_range h]
 rfl
theorem wR{lo:Int}{n k:Nat}(h:k < (bR lo n).length):(bR lo n)[k]= .int (lo+k):=by
 have q:=ly (lo:=lo) (n:=n) (k:=k) (by unfold bR at h;simpa using h)
 rw[fm h] at q
 exact Option.some.inj q
theorem cL{lo:Int}{n:Nat}:(bR lo n).length=n:=by unfold bR;simp
def cV(i:Int):Prop:=-(2 ^ 62)<=i/\i < 2 ^ 62
instance {i}:Decidable (cV i):=EH _
def oq(i:Nat)(ga:GA)(gb:GS):GS:=λρ st=>(ga ρ st).bp ρ λws st1=>match ws with
 | [.int j]=>if cV j then fP i gb (bR 0 j.toNat) ρ st1 else .bad
 | _=> .bad
def u7(i:Nat)(ga:GA)(gb:GS):GS:=λρ st=>(ga ρ st).bp ρ λws st1=>match ws with
 | [.int a,.int j]=>if cV a/\cV j then fP i gb (bR a (j - a).toNat) ρ st1 else .bad
 | _=> .bad
theorem AJ(i:Nat){body:List Stmt}{gb:GS}(hb:lT X body gb){lo:Int}{n:Nat}{m1:Mp}{H1:Hp}{st1:Hs}{ρ:bC}{σ:St}{D:Ends}(S1:bb X.K m1 st1 H1)(R:aw X.K m1 H1 ρ σ)(p1:aE X m1 H1 (fP i gb (bR lo n) ρ st1) D) :
  ∃W:Nat->Nat->St->Hp->Prop,(∃m,W 0 m σ H1)/\∀k n' σ H,W k n' σ H->
   ((HZ lo n).stop k H/\D.nx σ H)\/((HZ lo n).go k H/\∃N:St->Hp->Prop,(∀σ' H',N σ' H'->∃m',m' < n'/\W (k+1) m' σ' H')/\∀x H',(HZ lo n).v_ k H x H'->wg i x σ H' λσ2 H2=>Sq X body { D with nx:=N,ct:=N,bk:=D.nx } σ2 H2) :=
 nk i hb S1 R p1 (λk H m' e hk=>by rw[cL] at hk;exact hk) (λk H m' e hk=>by rw[cL] at hk;exact nr hk.symm) λk hk H x H' m' e y=>by
  obtain⟨y1,y2⟩:=y
  refine⟨y1,?_⟩
  rw[wR,y2]
  exact mkInt
theorem EI(i:Nat){x:Str}{a:Expr}{body:List Stmt}{ga:GA}{gb:GS}{pos pos' p q:Pos}(hN:X.N.Nodup)(hp:PassesOwn (model X.prog X.w) X.A X.env X.xe)(hc:X.calm=true)(hg:Gl X "range")(hm:X.mg "range"=none)(ha:JA X [a] ga)(hb:lT X body gb)
  (hx:X.N[i]? =some x)(hlo:Loc X.env.scope x)(NM:X.fn x=true\/X.env.scope.names.lookup x=some .local)(hst:afO [a] X.env=[(false,eval a X.env)]):JS X (.For (.Name x pos') (.Call (.Name "range" p) [a] [] q) body [] pos) (oq i ga gb):=by
 refine JS.of (lZ hp hc (sZ hg hm h_ hst) (mW hN hx hlo NM) dN (λ_=>rfl)) λρ st σ H m D S R p=>?_
 refine ha.go S R (aE.cK R p) λws st1 vs m1 H1 p1 e1 S1 rs=>?_
 match ws,rs,p1 with
 | [],rs,p1=>exact ae p1
 | x::y::t,rs,p1=>cases x<;>exact ae p1
 | [x],rs,p1=>
  obtain⟨v,rfl,r1⟩:=qN rs
  cases x with
  | int j=>
   cases aL r1
   have p2:aE X m H (if cV j then fP i gb (bR 0 j.toNat) ρ st1 else .bad) D:=p1
   by_cases c:cV j
   ·rw[if_pos c] at p2
    exact⟨j,rfl,c.1,c.2,AJ i hb S1 (R.mono e1) (aE.shift p2 e1)⟩
   ·rw[if_neg c] at p2;exact ae p2
  | _=>exact ae p1
theorem EJ(i:Nat){x:Str}{a b:Expr}{body:List Stmt}{ga:GA}{gb:GS}{pos pos' p q:Pos}(hN:X.N.Nodup)(hp:PassesOwn (model X.prog X.w) X.A X.env X.xe)(hc:X.calm=true)(hg:Gl X "range")(hm:X.mg "range"=none)(ha:JA X [a,b] ga)(hb:lT X body gb)
  (hx:X.N[i]? =some x)(hlo:Loc X.env.scope x)(NM:X.fn x=true\/X.env.scope.names.lookup x=some .local)(hst:afO [a,b] X.env=[(false,eval a X.env),(false,eval b X.env)])(NN:afO [b] X.env=[(false,eval b X.env)]):JS X (.For (.Name x pos') (.Call (.Name "range" p) [a,b] [] q) body [] pos) (u7 i ga gb):=by
 refine JS.of (lZ hp hc (s_ hg hm h_ hst NN) (mW hN hx hlo NM) dN (λ_=>rfl)) λρ st σ H m D S R p=>?_
 refine ha.go S R (aE.cK R p) λws st1 vs m1 H1 p1 e1 S1 rs=>?_
 match ws,rs,p1 with
 | [],rs,p1=>exact ae p1
 | [x],rs,p1=>cases x<;>exact ae p1
 | x::y::z::t,rs,p1=>cases x<;>cases y<;>exact ae p1
 | [x,y],rs,p1=>
  obtain⟨v,v',rfl,r1,r2⟩:=yH rs
  cases x with
  | int a=>
   cases y with
   | int j=>
    cases aL r1;cases aL r2
    have p2:aE X m H (if cV a/\cV j then fP i gb (bR a (j - a).toNat) ρ st1 else .bad) D:=p1
    by_cases c:cV a/\cV j
    ·rw[if_pos c] at p2
     exact⟨a,j,rfl,⟨c.1.1,c.1.2,c.2.1,c.2.2⟩,AJ i hb S1 (R.mono e1) (aE.shift p2 e1)⟩
    ·rw[if_neg c] at p2;exact ae p2
   | _=>exact ae p1
  | _=>cases y<;>exact ae p1
theorem Jv{pos:Pos}:JS X (.Return none pos) (bj (gC .bO)):=JS.of IB λρ st σ H m D S R p=>p .bO m H Ext.refl S AE
end
abbrev yK:List afC:=[.type "ValueError",.type "Exception",.type "BaseException",.type "object"]
abbrev yL:String:="ValueError.__new__"
structure EK(K:PySem.W.Frag)(c:PySem.Str)(C:afw):Prop where
 cls:ClsAt K c C
 exc:PySem.W.excIn K C yK yL=true
theorem jj{K:PySem.W.Frag}{h:Heap}{C:afw}(KX:K.In h)(q:PySem.W.excIn K C yK yL=true) :
  ∃(bm:List afC)(N:afw)(nm qn:Str)(bs:List afC)(hd:Bool)(sn:List Str)(sub:List afC)(ab:Bool)(col:Option Bool)(dd:Option afw)(k0 k1 k2 k3 k5:Option afC)(mN:Str->Option afC),
   h.get? C=some (excClassObj nm qn C N bs bm hd sn sub ab col dd k0 k1 k2 k3 k5 yL)/\h.Ns N mN/\mN "__init__"=none/\OwnTail h yK bm/\(∀v r,PySem.W.mroIn K C v=some r->(aN C::bm).contains v=r):=by
 unfold PySem.W.excIn at q
 split at q
 ·rename_i dd cd sl lk
  split at q
  ·rename_i C1 bm k0 k1 k2 k3 n1 k5 em es
   simp only[cO,beq_iff_eq,Bool.not_eq_true'] at q
   obtain⟨⟨⟨⟨⟨q1,q2⟩,q3⟩,q4⟩,q5⟩,q6⟩:=q
   subst q1 q2
   obtain⟨nm,bs,mro,N,qn,hd,sn,sub,ab,col,del⟩:=cd
   dsimp only at em q3 q5 q6
   subst em q3
   have esl:sl=#[k0,k1,k2,k3,some (.builtin yL),k5]:=by
    cases sl with
    | mk l=>exact congrArg Array.mk es
   subst esl
   refine⟨bm,N,nm,qn,bs,hd,sn,sub,ab,col,dd,k0,k1,k2,k3,k5,_,KX _ _ lk,.of_isNs (PySem.W.isNs_of_in KX q5),PySem.W.nsMap_none_of_in KX q5 q6,PySem.W.tail_of_in KX q4,λv r e=>?_⟩
   unfold PySem.W.mroIn PySem.W.clsIn at e
   rw[lk] at e
   first
    | exact Option.some.inj e
    | (simp at e;exact e)
  ·cases q
 ·cases q
section
variable {X:Cx}
def ou(c:PySem.Str)(ga:GA):GS:=λρ st=>(ga ρ st).bp ρ λws st1=>if ws.length<=lim then .err c ρ st1 else .bad
theorem EL{c:Str}{C:afw}{e:Expr}{es:List Expr}{ga:GA}{np cpos pos:Pos}(hc:X.calm=true)(O:EK X.K c C)(hg:Gl X c)(hm:X.mg c=some (.ref C))(ha:JA X (e::es) ga)(hd:(c == ("__debug__":Str))=false)
  (he:afO (e::es) X.env=(false,eval e X.env)::afO es X.env)(hpl:(backTo cpos (afO es X.env)).any (·.1)=false):JS X (.Raise (some (.Call (.Name c np) (e::es) [] cpos)) none pos) (ou c ga):=by
 intro ρ st σ H m D S R p pins s I
 have args:=ha.go (T:=λvs H1=>∃ws st1 m1,aE X m H (if ws.length<=lim then .err c ρ st1 else .bad) D/\Ext X.K m H m1 H1/\bb X.K m1 st1 H1/\ah X.K m1 H1 ws vs) S R (aE.cK R p)
  λws st1 vs m1 H1 p1 e1 S1 rs=>⟨ws,st1,m1,p1,e1,S1,rs⟩
 obtain⟨bm,N,nm,qn,bs,Q9,sn,sub,ab,col,dd,k0,k1,k2,k3,k5,mN,hC,hN,hni,T,_⟩:=jj I.ok.mod.Iq O.exc
 refine wpAny_Raise_call_subU (C:=C) (nm:=nm) (q:=qn) (N:=N) (bs:=bs) (bm:=bm) (hdct:=Q9) (sn:=sn) (sub:=sub) (ab:=ab) (col:=col) (dd:=dd) (k0:=k0) (k1:=k1) (k2:=k2) (k3:=k3) (k5:=k5) (bmB:=yK)
  F.excBase_ValueError (by decide) F.excBase_ValueError (mN:=mN) (T.hasType F.excBase_ValueError.hasBase) (I.ok.hd hc) ?_ hni (kW I hg hm ⟨rfl,?_⟩ hd)
 ·rw[he]
  show(false||(backTo cpos (afO es X.env)).any (·.1))=false
  rw[hpl]
  rfl
 ·have go:=args cpos pins s I
  rw[he] at go ⊢
  refine uP (bp go λus s1 ⟨vs,H1,I1,r,ws,st1,m1,p1,e1,S1,rs⟩=>?_)
  by_cases cl:ws.length<=lim
  ·rw[if_pos cl] at p1
   refine⟨rfl,by rw[<-r.length,<-rs.length];exact dZ cl,I1.bk _ _ hC,hN.keeps I1.bk,T.keeps I1.bk,λh2 a M=>?_⟩
   exact p1 σ m1 H1 _ _ e1 S1 (R.mono e1) ⟨C,pins,H1,s1,O.cls,I1,.inr ⟨rfl,a,us,rfl,rfl,rfl,M⟩⟩
  ·rw[if_neg cl] at p1;exact ae p1
end
structure lO(K:PySem.W.Frag)(C:afw):Prop where
 exc:PySem.W.excIn K C yK yL=true
 ga:PySem.W.findIn K (.ref C) "__getattribute__"=some (some (.builtin "BaseException.__getattribute__"))
 gx:PySem.W.findIn K (.ref C) "__getattr__"=some none
 cl:PySem.W.findIn K (.ref C) "__class__"=some (some (.builtin "object.__class__"))
section
variable {prog:afA} {w:afD} {A:afx} {E:afC->afB->Prop} {h:Heap} {g:Array GenState} {d:Drawn} {t:Nat} {os:OsState} {a C:afw} {o:Obj} {K:PySem.W.Frag}
theorem NO{R:Result->afB->Prop}(Y:K.In h)(Z:lO K C)(ha:h.get? a=some o)(hc:o.cls= .ref C)(k:R (.ok (.ret (.ref C))) ⟨h,g,d,t,os⟩) :
  afH (model prog w) A (.call (.builtin "getset_descriptor.__get__") ⟨[.builtin "object.__class__",.ref a,.ref C],[]⟩) R ⟨h,g,d,t,os⟩:=by
 obtain⟨bm,N,nm,qn,bs,Q9,sn,sub,ab,col,dd,k0,k1,k2,k3,k5,mN,hC,hN,hni,T,_⟩:=jj Y Z.exc
 have ty:(⟨h,g,d,t,os⟩:afB).TypeIs (.builtin "object.__class__") "getset_descriptor":=EM
 have own:(aN C::bm).contains (.type (".".intercalate ("object.__class__".cutAt '.').dropLast))=true:=by
  rw[F.owner_object_class,yM,T.hasType (X:="object") (b:=true) (by decide)];rfl
 refine codeAny_call_builtin F.slot_gs_get.plain F.entry_gs_get (F.slot_gs_get.check _ _ _ _ _ _ _ _ ty (F.args_gs_get _ _ _) ?_)
 repeat (any_goals (first | assumption | (with_reducible refine wpAny_loadPart_at ha ?_;rw[hc]) | (with_reducible refine wpAny_isSubtype_exc hC ?_;rw[own]) | wp_step))
 refine⟨Code.quiet_builtin _ (by decide+kernel),codeAny_builtin F.entry_object_class ?_⟩
 repeat (any_goals (first | assumption | (with_reducible refine wpAny_loadPart_at ha ?_;rw[hc]) | wp_step))
theorem EN{tk:Tok}{Q:Fin->afB->Prop}(Y:K.In h)(Z:lO K C)(ha:h.get? a=some o)(hc:o.cls= .ref C)(k:Q (.done (.ret (.ref C))) ⟨h,g,d,t,os⟩) :
  afP (model prog w) A (Builtin.«object.__getattribute__» ⟨[.ref a,.str "__class__" tk],[]⟩) Q E ⟨h,g,d,t,os⟩:=by
 have ty:(⟨h,g,d,t,os⟩:afB).TypeIs (.builtin "object.__class__") "getset_descriptor":=EM
 have t1:=EM
 have t2:=F.slot_gs_get.lookup
 have t3:=F.slot_gs_set.lookup
 have L:=PySem.W.looks_findIn (M:=model prog w) Y Z.cl
 repeat (any_goals (first | assumption | (with_reducible refine wpAny_loadPart_at ha ?_;rw[hc]) | with_reducible refine L.at ?_ | wp_step))
 refine NO Y Z ha hc ?_
 repeat (any_goals (first | assumption | wp_step))
theorem EO{M:Model}{nv:afC}{Q:Unit->afB->Prop}(Y:K.In h)(Z:lO K C)(ha:h.get? a=some o)(hc:o.cls= .ref C)(k:Q () ⟨h,g,d,t,os⟩) :
  afP M A (checkBuiltinCall "BaseException.__getattribute__" ⟨[.ref a,nv],[]⟩) Q E ⟨h,g,d,t,os⟩:=by
 obtain⟨bm,N,nm,qn,bs,Q9,sn,sub,ab,col,dd,k0,k1,k2,k3,k5,mN,hC,hN,hni,T,_⟩:=jj Y Z.exc
 have u1:builtinKind "BaseException.__getattribute__"=some .slot:=by decide+kernel
 have u2:splitId "BaseException.__getattribute__"=some ("BaseException","__getattribute__"):=by decide+kernel
 have u3:(aN C::bm).contains (.type "BaseException")=true:=by rw[yM,T.hasType (X:="BaseException") (b:=true) (by decide)];rfl
 have u4:=F.args_bexc_ga (.ref a) nv
 simp only[checkBuiltinCall,u1,u2]
 refine afQ ?_
 unfold isInstance
 repeat (first | (with_reducible refine wpAny_loadPart_at ha ?_;rw[hc]) | (with_reducible refine wpAny_isSubtype_exc hC ?_;rw[u3]) | wp_step)
 exact k
theorem Tc{tk:Tok}{Q:afC->afB->Prop}(Y:K.In h)(Z:lO K C)(ha:h.get? a=some o)(hc:o.cls= .ref C)(k:Q (.ref C) ⟨h,g,d,t,os⟩) :
  afP (model prog w) A (getAttrBy (.ref a) (.str "__class__" tk) false) Q E ⟨h,g,d,t,os⟩:=by
 have v1:=F.excAttr_ValueError.ga.bind (.ref a)
 have v2:(lz "BaseException.__getattribute__" == lz "object.__getattribute__")=false:=by decide+kernel
 have v3:(onTheHeap (aN C)&&lz "BaseException.__getattribute__" == lz "object.__getattribute__")=false:=by rw[v2];rfl
 have v4:(false&&onTheHeap (lz "BaseException.__getattribute__"))=false:=rfl
 have L1:=PySem.W.looks_findIn (M:=model prog w) Y Z.ga
 have L2:=PySem.W.looks_findIn (M:=model prog w) Y Z.gx
 repeat (any_goals (first | assumption | (with_reducible refine wpAny_loadPart_at ha ?_;rw[hc]) | with_reducible refine L1.at ?_ | with_reducible refine L2.at ?_ | wp_step))
 refine codeAny_call_builtin F.excAttr_ValueError.ga.plain F.entry_bexc_ga (EO Y Z ha hc (EN Y Z ha hc ?_))
 repeat (any_goals (first | assumption | wp_step))
theorem Jw{Q:Option afC->afB->Prop}(Y:K.In h)(Z:lO K C)(ha:h.get? a=some o)(hc:o.cls= .ref C)(k:Q (some (.ref C)) ⟨h,g,d,t+1,os⟩) :
  afP (model prog w) A (getAttr? (.ref a) "__class__") Q E ⟨h,g,d,t,os⟩:=by
 unfold getAttr? getAttrBy?
 repeat (any_goals (first | assumption | with_reducible apply Tc Y Z ha hc | wp_step))
end
structure WO(X:Cx):Prop where
 st:X.stack=X.env::X.outer
 fr:X.env.frame=some X.env.locals
 ex:X.ex=[]
theorem Cf{P:afA}{w:afD}{H:Hp}{h:Heap}{a:afw}{o:HO}(x:dc P w H h a o):∃u,h.get? a=some u:=by
 cases o with
 | lst xs=>obtain⟨_,_,_,_,e⟩:=x;exact⟨_,e⟩
 | tup xs=>obtain⟨_,_,_,⟨ob,e,_⟩,_⟩:=x;exact⟨_,e⟩
 | dK kvs=>obtain⟨_,_,_,_,ob,_,_,e,_⟩:=x;exact⟨_,e⟩
 | dT kvs=>obtain⟨_,_,_,_,ob,_,_,e,_⟩:=x;exact⟨_,e⟩
 | set S n=>obtain⟨ob,_,_,_,e,_⟩:=x;exact⟨_,e⟩
 | ins C dx fs=>obtain⟨_,_,_,e,_⟩:=x;exact⟨_,e⟩
 | own y=>exact x
 | xd fs=>obtain⟨_,⟨_,_,_,e,_⟩,_⟩:=x;exact⟨_,e⟩
 | U_ lo hi=>obtain⟨_,_,_,e⟩:=x;exact⟨_,e⟩
 | hR ob u=>obtain⟨e,_⟩:=x;exact⟨_,e⟩
 | gP ps=>exact⟨_,x⟩
 | met f y=>exact⟨_,x⟩
 | ext φ=>exact x.2.1
def NP(X:Cx)(a:afw):Prop:=X.s₀.heap.get? a=none/\(∀xs,X.H₀ a≠some (.tup xs))/\(∀o u,X.H₀ a≠some (.hR o u))/\∀ps,X.H₀ a≠some (.gP ps)
def Cg(o:Obj):Prop:=∃vs,o.data= .fields vs/\vs[2]? =some bY
section
variable {X:Cx} {pins:List (afw×Obj)} {σ:St} {Hc H':Hp} {sc s':afB} {B h2:Heap} {a C:afw} {a0:afC} {ch:List afw}
theorem lA(I:Inv X pins σ Hc sc)(os:s'.os=sc.os)(bare:AllBare s'.gens)(hch:∀b∈ch,dY X pins Hc b)(un:Un (frs X.stack) ch Hc H' sc.heap s'.heap)(hok:jI X.prog X.w H' B)(fl:uT B X.stack a (.ref C) a0 h2)(up:s'.heap.UpToSlots h2)
  (wF:∀b o,sc.heap.get? b=some o->b∉frs X.stack->b∉ch->∃o',B.get? b=some o'/\(Hc b=none->o'=o)){tk:Nat} :
  (∃o,Cg o/\Inv X pins σ (upd H' a (.hR o (.ext (jZ a C)))) { s' with heap:=h2,toks:=tk })/\H' a=none/\(X.ex=[]->NP X a):=by
 have stay:=fl.1
 obtain⟨oe,vs,Vl,hcl,hda,WQ⟩:=fl.first
 have isx:jZ a C h2:=⟨oe,Vl,hcl,vs,hda⟩
 have ha:H' a=none:=by
  cases q:H' a with
  | none=>rfl
  | some u=>
   obtain⟨z,e⟩:=Cf (hok a u q)
   rw[fl.2.1] at e
   cases e
 have Q_:a∉frs X.stack:=λz=>by
  obtain⟨_,o1,e1,d1⟩:=fl.2.2.1.mem z
  rw[Vl] at e1
  cases e1
  exact d1 vs hda
 have Mm:∀b∈frs X.stack,b∉ch:=λb hb z=>by
  rcases List.mem_cons.mp (I.jV b hb) with q | q
  ·exact(hch b z).2.1 q
  ·exact(hch b z).2.2.1 q
 have new:a∉ch->∀o,sc.heap.get? a≠some o:=λhx o e=>by
  obtain⟨o1,e1,_⟩:=wF a o e Q_ hx
  rw[fl.2.1] at e1
  cases e1
 have ne:∀b u,H' b=some u->b≠a:=λb u e=>bt e ha
 have sl:∀b o,sc.heap.get? b=some o->Hc b=none->b∈frs X.stack->∃sl,h2.get? b=some { o with slots:=sl }:=λb o e n hb=>by
  obtain⟨s1,e1⟩:=un.slot b o e n hb (Mm b hb)
  obtain⟨_,o1,e2,d1⟩:=I.stack.mem hb
  rw[e] at e2
  cases e2
  obtain⟨s2,e3⟩:=up b _ e1 d1
  exact⟨s2,e3⟩
 refine⟨⟨oe,⟨vs,hda,WQ⟩,?_⟩,ha,λhex=>?_⟩
 rotate_left
 ·refine⟨?_,λxs q=>?_,λo u q=>?_,λps q=>?_⟩
  rotate_left
  ·have z:=un.tups _ _ (I.base.tups _ _ q)
   rw[ha] at z;cases z
  ·have z:=un.jN _ _ _ (I.base.jN _ _ _ q)
   rw[ha] at z;cases z
  ·obtain⟨_,z⟩:=I.base.jU _ _ q
   obtain⟨_,z⟩:=un.jU _ _ z
   rw[ha] at z;cases z
  cases q:X.s₀.heap.get? a with
  | none=>rfl
  | some o0=>
   obtain⟨o1,q1⟩:=I.base.there a o0 q (by rw[hex];simp)
   refine absurd q1 (new (λz=>?_) o1)
   rcases(hch a z).2.2.2.1 with y | y
   ·rw[hex] at y;cases y
   ·exact absurd (aY (aC q) y) (cI _)
 refine I.qv (s':={ s' with heap:=h2,toks:=tk }) (ch:=ch) os ?_ ?_ bare (λb z=>⟨(hch b z).2.2.2.1,(hch b z).2.1,(hch b z).2.2.2.2.1,(hch b z).2.2.2.2.2⟩)
 ·refine⟨λb o e n hb hx=>?_,λb o e n hb _=>sl b o e n hb,λb o e n hx=>?_,λb o e hx=>?_,λb xs h=>?_,λb o u h=>?_,λb ps h=>?_⟩
  ·obtain⟨o1,e1,e2⟩:=wF b o e hb hx
   rw[e2 n] at e1
   exact stay b o e1
  ·have ba:b≠a:=λz=>by subst z;exact new hx o e
   rw[aA ba]
   exact un.free b o e n hx
  ·by_cases hb:b∈frs X.stack
   ·obtain⟨s2,e2⟩:=sl b o e (I.kU b hb) hb
    exact⟨_,e2⟩
   ·obtain⟨o1,e1,_⟩:=wF b o e hb hx
    exact⟨o1,stay b o1 e1⟩
  ·have q:=un.tups b xs h
   rw[aA (ne b _ q)]
   exact q
  ·have q:=un.jN b o u h
   rw[aA (ne b _ q)]
   exact q
  ·obtain⟨m1,q⟩:=un.jU b ps h
   refine⟨m1,?_⟩
   rw[aA (ne b _ q)]
   exact q
 ·intro b u e
  by_cases hb:b=a
  ·subst hb
   rw[aJ] at e
   cases e
   exact⟨Vl,isx,⟨oe,Vl⟩,λh3 h4 p k=>let ⟨o1,q1,q2,q3⟩:=p;⟨o1,k o1 q1,q2,q3⟩⟩
  ·rw[aA hb] at e
   exact(hok b u e).stay (λc v _ q=>stay c v q) (λc q=>by rw[aA (ne c _ q)];exact q) λc xs q=>by rw[aA (ne c _ q)];exact q
end
theorem Ci{M:Model}{A:afx}{E:afC->afB->Prop}{s:afB}{K:PySem.W.Frag}{a C D:afw}{o:Obj}{b:Bool}{Q:Bool->afB->Prop}(Y:K.In s.heap)(ZC:PySem.W.excIn K C yK yL=true)(ZD:PySem.W.excIn K D yK yL=true)
  (hm:PySem.W.mroIn K C (.ref D)=some b)(ha:s.heap.get? a=some o)(hc:o.cls= .ref C)(k:Q b s):afP M A (excMatches (.ref a) (.ref D)) Q E s:=by
 obtain⟨h,g,d,t,os⟩:=s
 obtain⟨bm,N,nm,qn,bs,Q9,sn,sub,ab,col,dd,k0,k1,k2,k3,k5,mN,hC,hN,hni,T,mr⟩:=jj Y ZC
 obtain⟨bm',N',nm',qn',bs',ack,sn',sub',ab',col',Q3,k0',k1',k2',k3',k5',mN',hD,hN',acm,T',mr'⟩:=jj Y ZD
 have e1:(aN C::bm).contains (.ref D)=b:=mr _ _ hm
 have e2:(aN D::bm').contains (.type "BaseException")=true:=by rw[yM,T'.hasType (X:="BaseException") (b:=true) (by decide)];rfl
 have f:=tc_notTuple
 unfold excMatches
 repeat (first | (with_reducible refine wpAny_loadPart_at ha ?_;rw[hc]) | with_reducible refine wpAny_loadPart_at hD ?_ | (with_reducible refine wpAny_isSubtype_exc hD ?_;rw[e2]) | (with_reducible refine wpAny_isSubtype_exc hC ?_;rw[e1]) | wp_step)
 cases b<;>(wp_walk;exact k)
theorem wU{K:PySem.W.Frag}{a C:afw}(Z:lO K C):PySem.W.KitX K (.ref a) (.ref C) (jZ a C) where
 ty:=λM h _ p=>by
  obtain⟨o,h1,h2,_⟩:=p
  rw[<-h2]
  exact(PySem.W.Looks.ld h1).andThen .now
 it:=λM h Y _=>by
  obtain⟨bm,N,nm,qn,bs,Q9,sn,sub,ab,col,dd,k0,k1,k2,k3,k5,mN,hC,_⟩:=jj Y Z.exc
  intro A' Q' E' s' k q
  unfold isType loadHead
  exact afQ (wpAny_loadPart (k _ _ hC) (afW q))
 ne:=λh tp dd its n sl Y e=>by
  obtain⟨bm,N,nm,qn,bs,Q9,sn,sub,ab,col,Q3,k0,k1,k2,k3,k5,mN,hC,_⟩:=jj Y Z.exc
  refine Bool.eq_false_iff.mpr λq=>?_
  have z:C=tp:=Value.ref.inj (beq_iff_eq.mp q)
  subst z
  rw[hC] at e
  have z2:uA "type"=uA "tuple":=congrArg Obj.cls (Option.some.inj e)
  exact absurd z2 (by decide)
 ca:=λ{prog w A E Q s} Y p k=>by
  obtain⟨o,h1,h2,_⟩:=p
  obtain⟨h,g,d,t,os⟩:=s
  exact Jw Y Z h1 h2 k
abbrev Tab:=List ((PySem.Str×PySem.Str)×Bool)
abbrev wV:=List ((PySem.Str×String)×Bool)
structure TabOk(K:PySem.W.Frag)(tb:Tab)(tt:wV)(tc:Tab):Prop where
 own:∀c d b C D,tb.lookup (c,d)=some b->ClsAt K c C->ClsAt K d D->lO K C/\PySem.W.kitOne K (.ref C) (.ref D)=some b
 cat:∀c d b C D,tc.lookup (c,d)=some b->ClsAt K c C->ClsAt K d D->PySem.W.excIn K C yK yL=true/\PySem.W.excIn K D yK yL=true/\PySem.W.mroIn K C (.ref D)=some b
 typ:∀c T b C,tt.lookup (c,T)=some b->ClsAt K c C->lO K C/\PySem.W.kitOne K (.ref C) (.type T)=some b
def oz(tb:Tab)(c:PySem.Str):List Wv->Option Bool
 | []=>some false
 | .cls d::r=>(match tb.lookup (c,d) with
  | some true=>some true
  | some false=>oz tb c r
  | none=>none)
 | _=>none
theorem tQ{K:PySem.W.Frag}{m:Mp}{H:Hp}{tb:Tab}{tt:wV}{tc:Tab}(O:TabOk K tb tt tc){c:PySem.Str}{C:afw}(hC:ClsAt K c C):∀{ds:List Wv}{vs:List V}{its:List afC}{b:Bool},ah K m H ds vs->Vals vs its->oz tb c ds=some b->PySem.W.kitAny K (.ref C) its=some b
 | [],vs,its,b,r,v,e=>by
  unfold ah at r
  subst r
  cases v
  cases e
  rfl
 | w::ds,vs,its,b,r,v,e=>by
  unfold ah at r
  obtain⟨x,t,rfl,r1,r2⟩:=r
  cases v with
  | cons h1 h2=>
   cases w with
   | cls d=>
    unfold ag at r1
    obtain⟨D,rfl,hD⟩:=r1
    cases h1
    unfold oz at e
    unfold PySem.W.kitAny
    cases q:tb.lookup (c,d) with
    | none=>rw[q] at e;cases e
    | some k=>
     rw[q] at e
     obtain⟨_,z3⟩:=O.own c d k C D q hC hD
     rw[z3]
     cases k with
     | true=>cases e;rfl
     | false=>exact tQ O hC r2 h2 e
   | _=>cases e
def gR(tb:Tab)(tt:wV):List Wv->Hs->Re Wv
 | [.lh c,.cls d],st=>(match tb.lookup (c,d) with | some b=> .ok (.bl b) st | none=> .bad)
 | [.lh c,.ty T],st=>(match tt.lookup (c,T) with | some b=> .ok (.bl b) st | none=> .bad)
 | [.lh c,.tup (.cls d::ds)],st=>(match oz tb c (.cls d::ds) with | some b=> .ok (.bl b) st | none=> .bad)
 | ws,st=>SY ws st
section
variable {X:Cx}
theorem ER:fN X (.builtin "isinstance") (λvs H Q=>∃a C v c b,vs=[.ref a,v]/\Vi a C (H a)/\lO X.K C/\RelV v c/\PySem.W.kitOne X.K (.ref C) c=some b/\Q (.bl b) H):=by
 intro pins s σ H xs us Q I r h
 obtain⟨a,C,v,c,b,rfl,ha,Z,rc,e,q⟩:=h
 obtain⟨u,u',rfl,r1,r2⟩:=vals2 r
 cases r1
 have uc:u'=c:=by
  cases v with
  | int i=>obtain⟨t,rfl⟩:=rc;cases e
  | str i=>obtain⟨t,rfl⟩:=rc;cases e
  | QZ i=>obtain⟨t,rfl⟩:=rc;cases e
  | U9 i=>obtain⟨t,rfl⟩:=rc;cases e
  | bO=>cases rc;cases r2;rfl
  | bl i=>cases rc;cases r2;rfl
  | ref i=>cases rc;cases r2;rfl
  | ty i=>cases rc;cases r2;rfl
 subst uc
 exact PySem.W.kia_one (wU Z) I.v9 (K7 I.hok ha) e (by intro z;cases z) λtk=>⟨.bl b,H,I.tok tk,rfl,q⟩
theorem Cj:fN X (.builtin "isinstance") (λvs H Q=>∃a C p xs b,vs=[.ref a,.ref p]/\Vi a C (H a)/\lO X.K C/\eF X.K H p xs/\(∀its,Vals xs its->PySem.W.kitAny X.K (.ref C) its=some b)/\Q (.bl b) H):=by
 intro pins s σ H xs us Q I r h
 obtain⟨a,C,p,ys,b,rfl,ha,Z,hT,e,q⟩:=h
 obtain⟨u,u',rfl,r1,r2⟩:=vals2 r
 cases r1
 cases r2
 obtain⟨its,rv,⟨o,g1,g2,n,g3⟩,z⟩:=I.tuple hT
 obtain⟨oc,od,oda,osl⟩:=o
 cases g2
 cases g3
 exact PySem.W.kia_tup (wU Z) I.v9 (K7 I.hok ha) g1 (e its rv) (by intro z;cases z) λtk=>⟨.bl b,H,I.tok tk,rfl,q⟩
theorem NQ{tb:Tab}{tt:wV}{tc:Tab}(O:TabOk X.K tb tt tc):fO X (.builtin "isinstance") (gR tb tt):=by
 obtain⟨r,h1,h2⟩:=NH (X:=X)
 refine⟨_,ER.or (Cj.or h1),λws vs st H m Q S rs p=>?_⟩
 unfold gR at p
 split at p
 ·rename_i _ c d
  cases e:tb.lookup (c,d) with
  | none=>rw[e] at p;exact ae p
  | some b=>
   rw[e] at p
   obtain⟨v,v',rfl,r1,r2⟩:=yH rs
   unfold ag at r1 r2
   obtain⟨a,C,rfl,hC,ha⟩:=r1
   obtain⟨D,rfl,hD⟩:=r2
   obtain⟨z1,z3⟩:=O.own c d b C D e hC hD
   exact .inl ⟨a,C,.ref D,.ref D,b,rfl,ha,z1,rfl,z3,p _ m H Ext.refl S jh⟩
 ·rename_i _ c T
  cases e:tt.lookup (c,T) with
  | none=>rw[e] at p;exact ae p
  | some b=>
   rw[e] at p
   obtain⟨v,v',rfl,r1,r2⟩:=yH rs
   unfold ag at r1 r2
   obtain⟨a,C,rfl,hC,ha⟩:=r1
   subst r2
   obtain⟨z1,z3⟩:=O.typ c T b C e hC
   exact .inl ⟨a,C,.ty T,.type T,b,rfl,ha,z1,rfl,z3,p _ m H Ext.refl S jh⟩
 ·rename_i _ c d ds
  cases e:oz tb c (.cls d::ds) with
  | none=>rw[e] at p;exact ae p
  | some b=>
   rw[e] at p
   obtain⟨v,v',rfl,r1,r2⟩:=yH rs
   unfold ag at r1
   obtain⟨a,C,rfl,hC,ha⟩:=r1
   have r2':=r2
   unfold ag at r2'
   obtain⟨t,xs,rfl,hT,rx⟩:=r2'
   have Z:lO X.K C:=by
    have pO:=rx
    unfold ah at pO
    obtain⟨x,r,_,rd,_⟩:=pO
    unfold ag at rd
    obtain⟨D,_,hD⟩:=rd
    unfold oz at e
    cases q:tb.lookup (c,d) with
    | none=>rw[q] at e;cases e
    | some k=>exact(O.own c d k C D q hC hD).1
   exact .inr (.inl ⟨a,C,t,xs,b,rfl,ha,Z,eF.of hT,λits hv=>tQ O hC rx hv e,p _ m H Ext.refl S jh⟩)
 ·exact .inr (.inr (h2 ws vs st H m Q S rs p))
end
section
variable {X:Cx} {pins:List (afw×Obj)} {σ:St} {H:Hp} {s:afB}
abbrev Jx(X:Cx)(A':afx)(cm:Bool)(pn:List (afw×Obj))(E:afC->afB->Prop):Cx:={ X with A:=A',calm:=cm,pn:=pn,xe:=E }
theorem Td{A':afx}{cm:Bool}{pn:List (afw×Obj)}{E:afC->afB->Prop}(ok:X.Ok)(hf:A'.frames=X.A.frames)(hd:cm=true->A'.handled=none):(Jx X A' cm pn E).Ok :=
 ⟨ok.mod,ok.kind,ok.glob,ok.blt,ok.above,ok.inj,ok.has,ok.KY,hd,hf.trans ok.frames,ok.stk,ok.Va,ok.bs,ok.BQ,ok.yf,ok.BR,ok.jO,ok.DD⟩
theorem ES{A':afx}{cm:Bool}{E:afC->afB->Prop}(I:Inv X pins σ H s)(hf:A'.frames=X.A.frames)(hd:cm=true->A'.handled=none):Inv (Jx X A' cm (X.pn++pins) E) [] σ H s :=
 ⟨Td I.ok hf hd,I.os,I.bare,I.base,I.loc,I.cell,I.free,I.f9,λp hp=>I.pin p (by simpa using hp),I.hok,I.len⟩
theorem qP{A':afx}{cm:Bool}{E:afC->afB->Prop}{iS:List (afw×Obj)}(ok:X.Ok)(I:Inv (Jx X A' cm (X.pn++pins) E) iS σ H s):Inv X pins σ H s :=
 ⟨ok,I.os,I.bare,I.base,I.loc,I.cell,I.free,I.f9,λp hp=>I.pin p (mU _ hp),I.hok,I.len⟩
abbrev Te(X:Cx)(a:afw)(u:HO)(pn:List (afw×Obj))(E:afC->afB->Prop):Cx:={ X with A:=X.A.mark (some (.ref a)),calm:=false,pn:=pn,xe:=E,H₀:=upd X.H₀ a u }
theorem NR{a:afw}{o:Obj}{u:HO}{E:afC->afB->Prop}(I:Inv X pins σ H s)(e:H a=some (.hR o u))(n:X.s₀.heap.get? a=none):Inv (Te X a (.hR o u) (X.pn++pins) E) [] σ H s:=by
 have k:=I.ok
 have ne:∀b o,X.s₀.heap.get? b=some o->b≠a:=λb o q z=>by rw[z,n] at q;cases q
 have nf:∀b∈X.fs,b≠a:=λb hb=>let ⟨_,o,q,_⟩:=k.jO.mem hb;ne b o q
 have up:∀b,b≠a->upd X.H₀ a (.hR o u) b=X.H₀ b:=λb h=>aA h
 have dn:∀{b:afw}{w:Option HO},upd X.H₀ a (.hR o u) b=w->w≠some (.hR o u)->X.H₀ b=w:=λ{b w} q h=>by
  by_cases z:b=a
  ·rw[z,aJ] at q;exact absurd q.symm h
  ·rw[up b z] at q;exact q
 have nn:∀{b:afw},upd X.H₀ a (.hR o u) b=none->X.H₀ b=none:=λq=>dn q (by intro z;cases z)
 refine⟨⟨k.mod,k.kind,k.glob,k.blt,k.above,k.inj,k.has,k.KY,(λz=>by cases z),k.frames,k.stk,k.Va,λb ob q=>⟨(k.bs b ob q).1,(up b (ne b ob (k.bs b ob q).1)).trans (k.bs b ob q).2⟩,k.BQ,k.yf,k.BR,k.jO,λb hb=>(up b (nf b hb)).trans (k.DD b hb)⟩,I.os,I.bare,?_,I.loc,I.cell,I.free,I.f9,λp hp=>I.pin p (by simpa using hp),I.hok,I.len⟩
 have g:=I.base
 exact⟨λb ob q h=>g.keep b ob q (nn h),λb ob q h=>g.slot b ob q (nn h),λb ob q h=>g.free b ob q (nn h),g.there,λb xs q=>g.tups b xs (dn q (by intro z;cases z)),λb ob v q=>by
  by_cases z:b=a
  ·subst z
   have q':upd X.H₀ b (.hR o u) b=some (.hR ob v):=q
   rw[aJ] at q'
   cases q'
   exact e
  ·exact g.jN b ob v ((up b z).symm.trans q),λb ps q=>g.jU b ps (dn q (by intro z;cases z))⟩
theorem ET{a:afw}{o:Obj}{u:HO}{E:afC->afB->Prop}{iS:List (afw×Obj)}(ok:X.Ok)(n:NP X a)(I:Inv (Te X a (.hR o u) (X.pn++pins) E) iS σ H s):Inv X pins σ H s:=by
 have ne:∀b o,X.s₀.heap.get? b=some o->b≠a:=λb o q z=>by rw[z,n.1] at q;cases q
 have up:∀b,b≠a->(Te X a (.hR o u) (X.pn++pins) E).H₀ b=X.H₀ b:=λb h=>aA h
 have g:=I.base
 exact⟨ok,I.os,I.bare,⟨λb ob q h=>g.keep b ob q ((up b (ne b ob q)).trans h),λb ob q h=>g.slot b ob q ((up b (ne b ob q)).trans h),λb ob q h=>g.free b ob q ((up b (ne b ob q)).trans h),g.there,λb xs q=>g.tups b xs ((up b λz=>n.2.1 xs (z ▸ q)).trans q),λb ob v q=>g.jN b ob v ((up b λz=>n.2.2.1 ob v (z ▸ q)).trans q),λb ps q=>g.jU b ps ((up b λz=>n.2.2.2 ps (z ▸ q)).trans q)⟩,I.loc,I.cell,I.free,I.f9,λp hp=>I.pin p (mU _ hp),I.hok,I.len⟩
def yN(X:Cx):Prop:=X.A.handled=none\/∃a o u,X.A.handled=some (.ref a)/\Cg o/\X.H₀ a=some (.hR o u)
def Ck(A:afx)(H:Hp):Prop:=A.handled=none\/∃a o u,A.handled=some (.ref a)/\Cg o/\H a=some (.hR o u)
theorem yN.at(h:yN X)(I:Inv X pins σ H s):Ck X.A H:=h.imp id λ⟨a,o,u,h1,h2,h3⟩=>⟨a,o,u,h1,h2,I.base.jN _ _ _ h3⟩
theorem Tf{A':afx}{cm:Bool}{E:afC->afB->Prop}{D:Ends}{f:Flow}(ok:X.Ok)(h:SP (Jx X A' cm (X.pn++pins) E) [] D f s):SP X pins D f s:=by
 cases f with
 | next=>obtain⟨σ',H',I,q⟩:=h;exact⟨σ',H',qP ok I,q⟩
 | brk=>obtain⟨σ',H',I,q⟩:=h;exact⟨σ',H',qP ok I,q⟩
 | cont=>obtain⟨σ',H',I,q⟩:=h;exact⟨σ',H',qP ok I,q⟩
 | ret u=>obtain⟨v,σ',H',I,r,q⟩:=h;exact⟨v,σ',H',qP ok I,r,q⟩
end
theorem tR{X:Cx}{pins:List (afw×Obj)}{σ:St}{H:Hp}{s:afB}{M:Model}{A:afx}{E:afC->afB->Prop}{i:Nat}{n:Str}{pos:Pos}{Q:Unit->afB->Prop}(I:Inv X pins σ H s)(hN:X.N.Nodup)(hi:X.N[i]? =some n)(hx:X.env.scope.names.lookup n=some .local)
  (k:∀s',Inv X pins (σ.set i none) H s'->Q () s'):afP M A (do bindName X.env n .none;unbindBehindTheSuite X.env n pos) Q E s:=by
 obtain⟨m,ns,lk⟩:=id I.loc
 have pl:(X.env.scope.kind == .class||(X.env.scope.kind == .module&&X.env.locals != X.env.globals))=false:=by rw[I.ok.kind];rfl
 have up:∀b o,X.s₀.heap.get? b=some o->b≠X.env.locals:=λb o e=>old_ne I e
 refine wpAny_nameGoes_keeps hx ns pl λh2 v ns2 sb=>k _ ?_
 obtain⟨oL,_,_,ZU,_⟩:=id ns
 refine⟨I.ok,I.os,I.bare,⟨λb o e f hb hx=>(sb.2 b (up b o e)).trans (I.base.keep b o e f hb hx),λb o e f hb hx=>?_,I.base.free,λb o e hx=>?_,I.base.tups,I.base.jN,I.base.jU⟩,⟨_,ns2,λj y w e1 e2 e3=>?_⟩,λy c e=>?_,I.free,I.f9,λp hp=>?_,λb u e=>?_,by simpa using I.len⟩
 ·obtain⟨sl,e1⟩:=I.base.slot b o e f hb hx
  exact⟨sl,(sb.2 b (up b o e)).trans e1⟩
 ·obtain⟨o1,e1⟩:=I.base.there b o e hx
  exact⟨o1,(sb.2 b (up b o e)).trans e1⟩
 ·have ji:j≠i:=λz=>by
   subst z
   have:j < σ.length:=by have q:=(List.getElem?_eq_some_iff.mp e2).1;simpa using q
   rw[jb this] at e2
   cases e2
  rw[fB (ay ji)] at e2
  obtain⟨u,r,q⟩:=lk j y w e1 e2 e3
  refine⟨u,r,?_⟩
  rcases q with ⟨q1,q2⟩ | ⟨q1,c,q2,z⟩
  ·have yn:y≠n:=λz=>ji (qu hN e1 (z ▸ hi))
   exact .inl ⟨q1,by simp[yn,q2]⟩
  ·exact .inr ⟨q1,c,q2,z.sameBut sb (I.HY y c q2)⟩
 ·obtain⟨w,z⟩:=I.cell y c e
  exact⟨w,z.sameBut sb (I.HY y c e)⟩
 ·obtain⟨e,f,ne,nf,d⟩:=I.pin p hp
  exact⟨(sb.2 p.1 ne).trans e,f,ne,nf,d⟩
 ·refine(I.hok b u e).stay (λc w hc q=>(sb.2 c λz=>?_).trans q) (λ_ q=>q) λ_ _ q=>q
  have fr:=I.free
  rcases hc with hc | hc
  ·rw[<-z,hc,e] at fr;cases fr
  ·rw[<-z,hc] at fr;cases fr
def Cm(cat:PySem.Str->Option Bool)(i:Nat)(gb gs:GS):GS:=λρ st=>match gb ρ st with
 | .err c ρ' st'=>(match cat c with
  | some true=>(match gs (ρ'.set i (some (.lh c))) st' with
   | .nx ρ2 st2=> .nx (ρ2.set i none) st2
   | .rt w st2=> .rt w st2
   | _=> .bad)
  | _=> .bad)
 | r=>r
theorem aw.unset{K:PySem.W.Frag}{m:Mp}{H:Hp}{ρ:bC}{σ:St}(R:aw K m H ρ σ)(i:Nat):aw K m H (ρ.set i none) (σ.set i none):=by
 refine⟨by simp[R.len],λj w e=>?_⟩
 have ji:i≠j:=λz=>by
  subst z
  have:i < ρ.length:=by have q:=(List.getElem?_eq_some_iff.mp e).1;simpa using q
  rw[jb this] at e
  cases e
 rw[fB ji] at e ⊢
 exact R.get j w e
section
variable {X:Cx}
theorem Cp{M:Model}{A:afx}{E:afC->afB->Prop}{s:afB}{base h:Heap}{env:Env}{outer:List Env}{L a:afw}{cls:afC}{args:List afC}{Q:Unit->afB->Prop}(hfr:A.frames=some (env::outer))(hf:env.frame=some L)
  (st:base.StaysIn h)(fs:h.FunFrames base (env::outer))(mk:uV h s.heap a cls args)(k:∀h' a0,uT base (env::outer) a cls a0 h'->s.heap.UpToSlots h'->Q () { s with heap:=h' }) :
  afP M A (noteFrame (.ref a) env) (λ_ s2=>afP M A (setFlight (.ref a) none) Q E s2) E s:=by
 exact tL hfr hf st fs mk λh1 t hd1 up1=>wB hd1 λh2 tM Ta=>k h2 t tM (up1.trans Ta)
theorem j4.er{A:afx}{b:Bool}{E:afC->afB->Prop}{pins iS:List (afw×Obj)}{H H':Hp}{s s':afB}{cls e:afC}(f:j4 (Jx X A b (X.pn++pins) E) iS H s H' cls e s'):j4 X pins H s H' cls e s' :=
 let ⟨a,a0,nt,B,ch,e1,e2,e3,hch,r⟩:=f
 ⟨a,a0,nt,B,ch,e1,e2,e3,λb hb=>let ⟨h1,h2,h3,h4,h5,h6⟩:=hch b hb;⟨h1,h2,h3,h4,h5,λp hp=>h6 p (mU _ hp)⟩,r⟩
theorem land{pins:List (afw×Obj)}{σ:St}{Hc H':Hp}{sc s':afB}{C:afw}{e:afC}{E:afC->afB->Prop}{Q:Unit->afB->Prop}(K0:WO X)(I:Inv X pins σ Hc sc)
  (r:j4 X pins Hc sc H' (.ref C) e s'\/(H'=Hc/\∃a args,e= .ref a/\s'.os=sc.os/\s'.gens=sc.gens/\uV sc.heap s'.heap a (.ref C) args))
  (k:∀(a:afw)(a0:afC)(B h5:Heap),e= .ref a->uT B X.stack a (.ref C) a0 h5->(∀h6 tk,uT B X.stack a (.ref C) a0 h6->h5.UpToSlots h6->∃o,Cg o/\Inv X pins σ (upd H' a (.hR o (.ext (jZ a C)))) { s' with heap:=h6,toks:=tk })->H' a=none->NP X a->Q () { s' with heap:=h5 }) :
  afP (model X.prog X.w) X.A (noteFrame e X.env) (λ_ s2=>afP (model X.prog X.w) X.A (setFlight e none) Q E s2) E s':=by
 have hfr:X.A.frames=some (X.env::X.outer):=by rw[I.ok.frames,K0.st]
 rcases r with ⟨a,a0,nt,B,ch,rfl,os,bare,hch,un,hok,fl,wF⟩ | ⟨rfl,a,args,rfl,ho,hg,M⟩
 ·rw[K0.st] at fl
  refine wK hfr K0.fr fl λh4 WR WS=>?_
  refine wB WR λh5 Dy NT=>?_
  rw[<-K0.st] at Dy
  exact k a a0 B h5 rfl Dy (λh6 tk Tg Th=>(lA I os bare hch un hok Tg ((WS.trans NT).trans Th) wF).1) (lA (tk:=0) I os bare hch un hok Dy (WS.trans NT) wF).2.1 ((lA (tk:=0) I os bare hch un hok Dy (WS.trans NT) wF).2.2 K0.ex)
 ·have fs:sc.heap.FunFrames (PySem.W.hideAll sc.heap (frs X.stack)) (X.env::X.outer):=by
   rw[<-K0.st]
   exact PySem.W.funFrames_hide I.stack λenv he b hb=>List.mem_filterMap.mpr ⟨env,he,hb⟩
  refine Cp (base:=PySem.W.hideAll sc.heap (frs X.stack)) hfr K0.fr (λb o q=>PySem.W.of_hideAll _ q) fs M λh5 a0 Dy NT=>?_
  rw[<-K0.st] at Dy
  have bare:AllBare s'.gens:=by rw[hg];exact I.bare
  have hok:jI X.prog X.w H' (PySem.W.hideAll sc.heap (frs X.stack)):=wL I.hok I.kU
  have wF:∀b o,sc.heap.get? b=some o->b∉frs X.stack->b∉([]:List afw)->∃o',(PySem.W.hideAll sc.heap (frs X.stack)).get? b=some o'/\(H' b=none->o'=o):=λb o q hb _=>⟨o,PySem.W.hideAll_get _ q hb,λ_=>rfl⟩
  have nil:∀b∈([]:List afw),dY X pins H' b:=λb z=>by cases z
  exact k a a0 _ h5 rfl Dy (λh6 tk Tg Th=>(lA I ho bare nil (Un.kept M.keeps) hok Tg (NT.trans Th) wF).1) (lA (tk:=0) I ho bare nil (Un.kept M.keeps) hok Dy NT wF).2.1 ((lA (tk:=0) I ho bare nil (Un.kept M.keeps) hok Dy NT wF).2.2 K0.ex)
theorem NU{x n:Str}{D:afw}{i:Nat}{body suite:List Stmt}{b₀:Stmt}{gb gs:GS}{np hp pos:Pos}{tb:Tab}{tt:wV}{tc:Tab}(K0:WO X)(hN:X.N.Nodup)(hi:X.N[i]? =some n)(hx:X.env.scope.names.lookup n=some .local)(hc:X.calm=true)(O:TabOk X.K tb tt tc)
  (hg:Gl X x)(hm:X.mg x=some (.ref D))(hD:ClsAt X.K x D)(hd:(x == ("__debug__":Str))=false)
  (hb:∀(pn:List (afw×Obj))(E:afC->afB->Prop),lT (Jx X X.A true pn E) body gb)(hs:∀(a:afw)(o:Obj)(u:HO)(pn:List (afw×Obj))(E:afC->afB->Prop),Cg o->lT (Te X a (.hR o u) pn E) (b₀::suite) gs) :
  JS X (.Try body [.ExceptHandler (some (.Name x np)) (some n) (b₀::suite) hp] [] [] pos) (Cm (λc=>tc.lookup (c,x)) i gb gs):=by
 intro ρ st σ H m D' S R p pins s I
 refine wpAny_Try_except ?_
 let hx':afC->afB->Prop:=λe s1=>afP (model X.prog X.w) X.A (noteFrame e X.env) (λ_ s2=>afP (model X.prog X.w) X.A (setFlight e none) (λ_ s3=>
  afP (model X.prog X.w) X.A (handleBy e X.env [.ExceptHandler (some (.Name x np)) (some n) (b₀::suite) hp]) (SP X pins D') X.xe s3) X.xe s2) X.xe s1
 have hA:X.A.handled=none:=I.ok.hd hc
 have Ib:Inv (Jx X X.A true (X.pn++pins) hx') [] σ H s:=ES I rfl λ_=>hA
 have post:aE (Jx X X.A true (X.pn++pins) hx') m H (gb ρ st) D':=by
  unfold Cm at p
  cases eb:gb ρ st with
  | nx ρ1 st1=>rw[eb] at p;exact p
  | rt w1 st1=>rw[eb] at p;exact p
  | bk ρ1 st1=>rw[eb] at p;exact p
  | ct ρ1 st1=>rw[eb] at p;exact p
  | bad=>rw[eb] at p;exact p
  | err c ρ1 st1=>
   rw[eb] at p
   dsimp only at p
   cases ec:tc.lookup (c,x) with
   | none=>rw[ec] at p;exact ae p
   | some bc=>
    cases bc with
    | false=>rw[ec] at p;exact ae p
    | true=>
     rw[ec] at p
     dsimp only at p
     intro σ1 m1 H1 e s1 e1 S1 R1 rz
     obtain⟨C,iS,Hc,sc,hC,Ic,rz⟩:=rz
     obtain⟨zC,zD,WT⟩:=O.cat c x true C D ec hC hD
     refine land K0 (qP I.ok Ic) (rz.imp j4.er id) λa a0 B h5 ea Dy inv hn hnew=>?_
     subst ea
     obtain⟨ox,_,I5⟩:=inv h5 s1.toks Dy (NJ _)
     obtain⟨o5,ho5,hc5,_⟩:=(I5.hok a _ aJ).2.1
     have Im:=ES (A':=X.A.mark (some (.ref a))) (cm:=false) (E:=λ_ _=>False) I5 rfl (λz=>by cases z)
     refine wpAny_handleBy_cons (codeAny_handlers_test (kW Im hg hm ?_ hd)) (by intro q;cases q)
     refine Ci (b:=true) Im.v9 zC zD WT ho5 hc5 ?_
     refine codeAny_handlers_suite_as ?_
     refine wB Dy λh6 Tg Th=>?_
     obtain⟨oy,nx,I6⟩:=inv h6 s1.toks Tg Th
     have e6:Ext X.K m1 H1 m1 (upd H1 a (.hR oy (.ext (jZ a C)))):=Ext.upd (.inl hn)
     have S6:bb X.K m1 st1 (upd H1 a (.hR oy (.ext (jZ a C)))):=S1.fresh hn
     have rv:ag X.K m1 (upd H1 a (.hR oy (.ext (jZ a C)))) (.lh c) (.ref a):=by unfold ag;obtain⟨vs,d1,d2⟩:=nx;exact⟨a,C,rfl,hC,oy,vs,aJ,d1,d2⟩
     refine mV (v:=.ref a) I6 hN hi (.inl hx) rfl (λs7 I7=>?_) (.inr hx)
     have Ra:=NR (E:=λ_ _=>False) I7 aJ hnew.1
     cases es:gs (ρ1.set i (some (.lh c))) st1 with
     | nx ρ2 st2=>
      rw[es] at p
      let D2:Ends:={ nx:=λσ' H'=>D'.nx (σ'.set i none) H',rt:=λ_ _=>False,bk:=λ_ _=>False,ct:=λ_ _=>False }
      have go:=hs a oy (.ext (jZ a C)) (X.pn++pins) (λ_ _=>False) nx (ρ1.set i (some (.lh c))) st1 (σ1.set i (some (.ref a))) _ m1 D2 S6 ((R1.mono e6).set i rv) (by
       rw[es]
       exact λσ' m' H' e' S' R'=>p (σ'.set i none) m' H' (e1.trans (e6.trans e')) S' (aw.unset R' i)) [] s7 Ra
      refine afT go (λf s8 h8=>?_) λ_ _ z=>z.elim
      cases f with
      | next=>
       obtain⟨σ8,H8,I8,q8⟩:=h8
       exact tR (ET I.ok hnew I8) hN hi hx λs9 I9=>⟨_,H8,I9,q8⟩
      | brk=>obtain⟨_,_,_,q8⟩:=h8;exact q8.elim
      | cont=>obtain⟨_,_,_,q8⟩:=h8;exact q8.elim
      | ret u=>obtain⟨_,_,_,_,_,q8⟩:=h8;exact q8.elim
     | rt w2 st2=>
      rw[es] at p
      let D2:Ends:={ nx:=λ_ _=>False,rt:=D'.rt,bk:=λ_ _=>False,ct:=λ_ _=>False }
      have go:=hs a oy (.ext (jZ a C)) (X.pn++pins) (λ_ _=>False) nx (ρ1.set i (some (.lh c))) st1 (σ1.set i (some (.ref a))) _ m1 D2 S6 ((R1.mono e6).set i rv) (by
       rw[es]
       exact λv' m' H' e' S' R'=>p v' m' H' (e1.trans (e6.trans e')) S' R') [] s7 Ra
      refine afT go (λf s8 h8=>?_) λ_ _ z=>z.elim
      cases f with
      | next=>obtain⟨_,_,_,q8⟩:=h8;exact q8.elim
      | brk=>obtain⟨_,_,_,q8⟩:=h8;exact q8.elim
      | cont=>obtain⟨_,_,_,q8⟩:=h8;exact q8.elim
      | ret u=>
       obtain⟨v8,σ8,H8,I8,r8,q8⟩:=h8
       exact tR (ET I.ok hnew I8) hN hi hx λs9 I9=>⟨v8,_,H8,I9,r8,q8⟩
     | bk ρ2 st2=>rw[es] at p;exact ae p
     | ct ρ2 st2=>rw[es] at p;exact ae p
     | err c2 ρ2 st2=>rw[es] at p;exact ae p
     | bad=>rw[es] at p;exact ae p
 refine afT (hb (X.pn++pins) hx' ρ st σ H m D' S R post [] s Ib) (λf s1 h1=>?_) λe s1 h1=>h1
 have h2:=Tf I.ok h1
 cases f with
 | next=>exact wpAny_execs_nil h2
 | brk=>exact h2
 | cont=>exact h2
 | ret u=>exact h2
end
section
variable {X:Cx}
def Ti:List Wv->Hs->Re Wv
 | [.int i],st=>if i.natAbs.log2 < 1920 then .ok (.str (toString i:String)) st else .bad
 | _,_=> .bad
def sF(o v:Wv)(st:Hs):Re Wv:=match o with
 | .ref l=>(match st[l]? with
  | some (.lst ws)=>if ws.length < lim then .ok .bO (st.set l (.lst (ws++[v]))) else .bad
  | _=> .bad)
 | _=> .bad
def NV(o v:Wv)(st:Hs):Re Wv:=match o,v with
 | .ref l,.ref k=>(match st[l]?,st[k]? with
  | some (.lst ws),some (.lst zs)=>if ws.length+zs.length<=lim then .ok .bO (st.set l (.lst (ws++zs))) else .bad
  | _,_=> .bad)
 | _,_=> .bad
def wW(mt:Wv->Wv->Hs->Re Wv)(go ga:GE):GE:=λρ st=>(go ρ st).bind λo st1=>match o with
 | .ref l=>(match aq st1 l with
  | some _=>(ga ρ st1).bind λv st2=>(mt o v st2).n4
  | none=> .bad)
 | _=> .bad
def Vm(X:Cx)(id:String)(mt:Wv->Wv->Hs->Re Wv):Prop:=∃r,WB X id r/\∀(o w:Wv)(x v:V)(st:Hs)(H:Hp)(m:Mp)(Q:VK),bb X.K m st H->ag X.K m H o x->ag X.K m H w v->eo X.K m H (mt o w st) Q->r x [v] H Q
theorem yO:Vm X "list.append" sF:=⟨_,B1,λo w x v st H m Q S ro rw' p=>by
 cases o with
 | ref l=>
  unfold ag at ro
  obtain⟨a,rfl,ha⟩:=ro
  have p':eo X.K m H (match st[l]? with | some (.lst ws)=>if ws.length < lim then .ok .bO (st.set l (.lst (ws++[w]))) else .bad | _=> .bad) Q:=p
  cases e:st[l]? with
  | none=>rw[e] at p';exact ae p'
  | some ob=>
   cases ob with
   | dct kvs=>rw[e] at p';exact ae p'
   | ja kvs=>rw[e] at p';exact ae p'
   | yd kvs=>rw[e] at p';exact ae p'
   | tJ ns=>rw[e] at p';exact ae p'
   | lst ws=>
    rw[e] at p'
    dsimp only at p'
    by_cases c:ws.length < lim
    ·rw[if_pos c] at p'
     obtain⟨xs,h1,h2⟩:=S.nh ha e
     have e4:Ext X.K m H m (upd H a (.lst (xs++[v]))):=Ext.upd (.inr ⟨xs,h1⟩)
     exact⟨a,xs,v,rfl,rfl,h1,by rw[<-h2.length];exact yz c,p' _ m _ e4 (S.write ha e (h2.append (ah.cons rw' ah.nil))) AE⟩
    ·rw[if_neg c] at p';exact ae p'
 | _=>exact ae p⟩
theorem NW:Vm X "list.extend" NV:=⟨_,B2,λo w x v st H m Q S ro rw' p=>by
 cases o with
 | ref l=>
  cases w with
  | ref k=>
   unfold ag at ro rw'
   obtain⟨a,rfl,ha⟩:=ro
   obtain⟨b,rfl,hb⟩:=rw'
   have p':eo X.K m H (match st[l]?,st[k]? with | some (.lst ws),some (.lst zs)=>if ws.length+zs.length<=lim then .ok .bO (st.set l (.lst (ws++zs))) else .bad | _,_=> .bad) Q:=p
   cases e:st[l]? with
   | none=>rw[e] at p';exact ae p'
   | some ob=>
    cases ob with
    | dct kvs=>rw[e] at p';exact ae p'
    | ja kvs=>rw[e] at p';exact ae p'
    | yd kvs=>rw[e] at p';exact ae p'
    | tJ ns=>rw[e] at p';exact ae p'
    | lst ws=>
     cases e2:st[k]? with
     | none=>rw[e,e2] at p';exact ae p'
     | some ob2=>
      cases ob2 with
      | dct kvs=>rw[e,e2] at p';exact ae p'
      | ja kvs=>rw[e,e2] at p';exact ae p'
      | yd kvs=>rw[e,e2] at p';exact ae p'
      | tJ ns=>rw[e,e2] at p';exact ae p'
      | lst zs=>
       rw[e,e2] at p'
       dsimp only at p'
       by_cases c:ws.length+zs.length<=lim
       ·rw[if_pos c] at p'
        obtain⟨xs,h1,h2⟩:=S.nh ha e
        obtain⟨ys,g1,g2⟩:=S.nh hb e2
        have e4:Ext X.K m H m (upd H a (.lst (xs++ys))):=Ext.upd (.inr ⟨xs,h1⟩)
        exact⟨a,b,xs,ys,rfl,rfl,h1,g1,by rw[<-h2.length,<-g2.length];exact dZ c,p' _ m _ e4 (S.write ha e (h2.append g2)) AE⟩
       ·rw[if_neg c] at p';exact ae p'
  | _=>exact ae p
 | _=>exact ae p⟩
theorem AK{x name:Str}{id:String}{e:Expr}{go ga:GE}{p apos cpos:Pos}{mt:Wv->Wv->Hs->Re Wv}(hm:Vm X id mt)(slot:Slot "list" name id)(hty:typeOf (.builtin id)=pure (.type "method_descriptor"))(ho:JE X (.Name x p) go)(ha:JE X e ga)
  (hst:afO [e] X.env=[(false,eval e X.env)])(hline:(apos.endLine == cpos.line)=true):JE X (.Call (.Attribute (.Name x p) name apos) [e] [] cpos) (wW mt go ga):=by
 obtain⟨r,h1,h2⟩:=hm
 have hfew:((backTo cpos (afO [e] X.env)).all (λx=> !x.1)&&(backToKw cpos (keywordEach [] X.env)).all (λx=>x.1.isSome)&&decide ([e].length+([]:List Keyword).length+(if([]:List Keyword).isEmpty then 0 else 1) < 30))=true:=by
  rw[hst];rfl
 refine JE.of (Sh PySem.F.plainAttrs_list slot hty h1 aM h_ rfl hfew hline hst rfl) λρ st σ H m Q S R p=>?_
 refine ho.go S R (ax.bind p) λo st1 v m1 H1 p1 e1 S1 ro=>?_
 cases o with
 | ref l=>
  dsimp only at p1
  cases el:aq st1 l with
  | none=>rw[el] at p1;exact ae p1
  | some ws0=>
   rw[el] at p1
   dsimp only at p1
   have ro':=ro
   unfold ag at ro'
   obtain⟨a,rfl,hla⟩:=ro'
   obtain⟨xs,hq,_⟩:=S1.read hla el
   refine⟨.inl ⟨rfl,xs,hq⟩,?_⟩
   refine(AD ha Ej hst).go S1 (R.mono e1) (ok:=λws st2=>ax X σ m H (match ws with | [w]=>(mt (.ref l) w st2).n4 | _=> .bad) (Q6 X.K m H Q)) ?_ λws st2 vs m2 H2 p2 e2 S2 rs=>?_
   ·have p3:=(ax.bind p1).imp e1 (λ_ _ q=>q)
    show ax X σ m1 H1 ((ga ρ st1).bind λx st1=>(aj ρ st1).bind λxs st2=> .ok (x::xs) st2) _
    cases eg:ga ρ st1 with
    | ok w st2=>rw[eg] at p3;exact p3
    | err c st2=>rw[eg] at p3;exact p3
    | bad=>rw[eg] at p3;exact p3
   ·match ws,rs,p2 with
    | [],rs,p2=>exact ae p2
    | [w],rs,p2=>
     obtain⟨v2,rfl,Vn⟩:=qN rs
     exact h2 (.ref l) w (.ref a) v2 st2 H2 m2 Q S2 (ag.mono e2 _ _ ro) Vn (eo.shift (ax.n4 p2) (e1.trans e2))
    | _::_::_,rs,p2=>exact ae p2
 | _=>exact ae p1
end
section
variable {X:Cx}
def Tj:List Wv->Hs->Re Wv
 | [.str z],st=> .ok (.str z) st
 | ws,st=>Ti ws st
def To:List Wv->Hs->Re Wv
 | [.int i],st=> .ok (.int i) st
 | [.bl b],st=> .ok (.int (if b then 1 else 0)) st
 | _,_=> .bad
theorem NX:fO X (.type "int") To:=⟨_,BY,λws vs st H m Q S rs p=>by
 match ws,rs,p with
 | [],rs,p=>exact ae p
 | x::y::t,rs,p=>cases x<;>exact ae p
 | [x],rs,p=>
  obtain⟨v,rfl,r1⟩:=qN rs
  cases x with
  | int i=>cases aL r1;exact .inl ⟨i,rfl,p _ m H Ext.refl S mkInt⟩
  | bl b=>cases SF r1;exact .inr ⟨b,rfl,p _ m H Ext.refl S mkInt⟩
  | _=>exact ae p⟩
def WU:List Wv->Hs->Re Wv
 | [.int i,.int j],st=> .ok (.int (if j > i then j else i)) st
 | _,_=> .bad
def WV:List Wv->Hs->Re Wv
 | [.int i,.int j],st=> .ok (.int (if j < i then j else i)) st
 | _,_=> .bad
def qQ:List Nat->List Wv->bC->Option bC
 | [],[],ρ=>some ρ
 | i::is,w::ws,ρ=>qQ is ws (ρ.set i (some w))
 | _,_,_=>none
def NY(is:List Nat)(w:Wv)(ρ:bC):Option bC:=match w with
 | .tup ws=>qQ is ws ρ
 | _=>none
def WW:List Nat->K2
 | []=>L2.aj
 | i::is=>L2.aa (wg i) (WW is)
theorem j_{m:Mp}{H:Hp}{Q:St->Hp->Prop}:∀{is:List Nat}{ws:List Wv}{xs:List V}{ρ ρ':bC}{σ:St},ah X.K m H ws xs->aw X.K m H ρ σ->qQ is ws ρ=some ρ'->(∀σ',aw X.K m H ρ' σ'->Q σ' H)->WW is xs σ H Q
 | [],[],xs,ρ,ρ',σ,r,R,e,k=>by
  unfold ah at r
  subst r
  cases e
  exact⟨rfl,k σ R⟩
 | i::is,w::ws,xs,ρ,ρ',σ,r,R,e,k=>by
  unfold ah at r
  obtain⟨x,rr,rfl,h1,h2⟩:=r
  exact⟨x,rr,rfl,j_ (is:=is) h2 (R.set i h1) e k⟩
 | [],_::_,_,_,_,_,_,_,e,_=>by cases e
 | _::_,[],_,_,_,_,_,_,e,_=>by cases e
theorem nu:∀{is:List Nat}{ws:List Wv}{ρ ρ':bC},qQ is ws ρ=some ρ'->ws.length=is.length
 | [],[],_,_,_=>rfl
 | _::is,_::ws,_,_,e=>congrArg (· +1) (nu (is:=is) (ws:=ws) e)
 | [],_::_,_,_,e=>by cases e
 | _::_,[],_,_,e=>by cases e
inductive Slots(X:Cx):List Expr->List Nat->Prop
 | nil:Slots X [] []
 | cons {x:Str} {p:Pos} {i:Nat} {es:List Expr} {is:List Nat}:X.N[i]? =some x->(Loc X.env.scope x/\(X.fn x=true\/X.env.scope.names.lookup x=some .local))->Slots X es is->Slots X (.Name x p::es) (i::is)
theorem iW(hN:X.N.Nodup):∀{es:List Expr}{is:List Nat},Slots X es is->RN X es (WW is)
 | _,_,.nil=>IC
 | _,_,.cons h1 h2 r=>DL (mW hN h1 h2.1 h2.2) (iW hN r) rfl
theorem ka:∀{es:List Expr}{is:List Nat},Slots X es is->(assignEach es X.env).length=is.length
 | _,_,.nil=>rfl
 | _,_,.cons _ _ r=>congrArg (· +1) (ka r)
theorem iX:∀{es:List Expr}{is:List Nat},Slots X es is->(assignEach es X.env).findIdx? (·.1)=none
 | _,_,.nil=>rfl
 | _,_,.cons (x:=x) (p:=p) (es:=es) _ _ r=>by
  have q:=iX r
  show List.findIdx? _ ((false,assign (.Name x p) X.env)::assignEach es X.env)=none
  rw[List.findIdx?_cons]
  simp[q]
open Classical in
def tS(is:List Nat)(gb:GS)(l:Nat)(all:List Wv):List Wv->bC->Hs->Rs
 | [],ρ,st=> .nx ρ st
 | w::r,ρ,st=>match NY is w ρ with
  | none=> .bad
  | some ρ1=>match gb ρ1 st with
   | .nx ρ' st'=>if aq st' l=some all then tS is gb l all r ρ' st' else .bad
   | .ct ρ' st'=>if aq st' l=some all then tS is gb l all r ρ' st' else .bad
   | .bk ρ' st'=> .nx ρ' st'
   | .rt w st'=> .rt w st'
   | .err c ρ' st'=> .err c ρ' st'
   | .bad=> .bad
def Li(is:List Nat)(gi:GE)(gb:GS):GS:=λρ st=>(gi ρ st).bp ρ λw st1=>match w with
 | .ref l=>(match aq st1 l with | some ws=>tS is gb l ws ws ρ st1 | none=> .bad)
 | _=> .bad
theorem Jy{es:List Expr}{is:List Nat}{k:Nat}{iter:Expr}{body:List Stmt}{gi:GE}{gb:GS}{pos pos':Pos}(hN:X.N.Nodup)(hp:PassesOwn (model X.prog X.w) X.A X.env X.xe)(hc:X.calm=true)(sl:Slots X es is)(hi:JE X iter gi)(hb:lT X body gb)
  (hs:∀x,afK iter X.env x=pure x):JS X (.For (.Tuple es k pos') iter body [] pos) (Li is gi gb):=by
 refine JS.of (lZ hp hc (ID aM) (uC hc (iW hN sl) (ka sl) (iX sl)) dN hs) λρ st σ H m D S R p=>?_
 refine hi.go S R (aE.cK R p) λw st1 v m1 H1 p1 e1 S1 rw'=>?_
 cases w with
 | ref l=>
  have p1':aE X m H (match aq st1 l with | some ws=>tS is gb l ws ws ρ st1 | none=> .bad) D:=p1
  unfold ag at rw'
  obtain⟨a,rfl,hla⟩:=rw'
  cases el:aq st1 l with
  | none=>rw[el] at p1';exact ae p1'
  | some ws=>
   rw[el] at p1'
   obtain⟨Tb,q0,_⟩:=S1.read hla el
   refine⟨a,rfl,⟨Tb,q0⟩,?_⟩
   let Pv:Nat->St->Hp->Prop:=λk σ H=>∃ρ st m',Ext X.K m1 H1 m' H/\bb X.K m' st H/\aw X.K m' H ρ σ/\aq st l=some ws/\aE X m' H (tS is gb l ws (ws.drop k) ρ st) D
   refine⟨λk n σ H=>n=ws.length - k/\k<=ws.length/\Pv k σ H,⟨ws.length,by simp,bG _,ρ,st1,m1,Ext.refl,S1,R.mono e1,el,aE.shift p1' e1⟩,?_⟩
   rintro k n σ2 H2 ⟨rfl,hk,ρ2,st2,m2,e2,S2,R2,l2,p2⟩
   obtain⟨xs,hq,rws⟩:=S2.read (e2.pre _ _ hla) l2
   have hlen:=rws.length
   by_cases hlt:k < ws.length
   ·have hx':k < xs.length:=by omega
    refine .inr ⟨⟨xs,xs[k],hq,by simp[hx']⟩,Pv (k+1),λσ' H' p'=>⟨ws.length - (k+1),by omega,rfl,hlt,p'⟩,λx H' y=>?_⟩
    obtain⟨ee,y⟩:=y
    subst ee
    have ey:=y xs hq
    have ed:ws.drop k=ws[k]::ws.drop (k+1):=mj hlt
    obtain⟨x',ex',pO⟩:=rws.get (i:=k) (w:=ws[k]) (fm hlt)
    rw[ey] at ex'
    cases ex'
    rw[ed] at p2
    unfold tS at p2
    cases eb:ws[k] with
    | tup us=>
     rw[eb] at p2 pO
     dsimp only[NY] at p2
     cases e5:qQ is us ρ2 with
     | none=>rw[e5] at p2;exact ae p2
     | some ρ5=>
      rw[e5] at p2
      dsimp only at p2
      unfold ag at pO
      obtain⟨b,ys,rfl,f1,f2⟩:=pO
      refine⟨b,ys,rfl,eF.of f1,by rw[<-f2.length];exact nu e5,j_ f2 R2 e5 λσ5 R5=>?_⟩
      refine hb _ st2 _ _ m2 _ S2 R5 ?_
      cases eg:gb ρ5 st2 with
      | nx ρ3 st3=>
       rw[eg] at p2
       by_cases c:aq st3 l=some ws
       ·simp only[if_pos c] at p2
        exact λσ3 m3 H3 e3 S3 R3=>⟨ρ3,st3,m3,e2.trans e3,S3,R3,c,aE.shift p2 e3⟩
       ·simp only[if_neg c] at p2;exact ae p2
      | ct ρ3 st3=>
       rw[eg] at p2
       by_cases c:aq st3 l=some ws
       ·simp only[if_pos c] at p2
        exact λσ3 m3 H3 e3 S3 R3=>⟨ρ3,st3,m3,e2.trans e3,S3,R3,c,aE.shift p2 e3⟩
       ·simp only[if_neg c] at p2;exact ae p2
      | bk ρ3 st3=>rw[eg] at p2;exact p2
      | rt w3 st3=>rw[eg] at p2;exact p2
      | err c3 ρ3 st3=>rw[eg] at p2;exact p2
      | bad=>rw[eg] at p2;exact p2
    | _=>rw[eb] at p2;exact ae p2
   ·have e:k=ws.length:=by omega
    subst e
    rw[oo] at p2
    exact .inl ⟨⟨xs,hq,by omega⟩,p2 σ2 m2 H2 Ext.refl S2 R2⟩
 | _=>exact ae p1
end
def mM(env:Env):List (Str×afz)->List (Str×afw)->List (Str×afw)
 | [],acc=>acc
 | (n,k)::r,acc=>if k= .free then mM env r ((n,(env.cells.lookup n).getD 0)::acc) else mM env r acc
theorem wX(env:Env):∀(names:List (Str×afz))(acc:List (Str×afw)),(∀y∈names,y.2= .free->∃c,env.cells.lookup y.1=some c)->
  (forIn names acc λx r=>match x with
   | (name,kind)=>if(kind == du)=true then do let c <-cellOf env name;pure (ml ((name,c)::r)) else(pure (ml r):Sem _))=pure (mM env names acc)
 | [],acc,_=>rfl
 | (n,k)::r,acc,h=>by
  have ih:=λacc=>wX env r acc λy hy=>h y (aO _ hy)
  rw[oA]
  by_cases hk:k= .free
  ·subst hk
   obtain⟨c,e⟩:=h (n,.free) bw rfl
   have e':env.cells.lookup n=some c:=e
   have cc:cellOf env n=pure c:=by unfold cellOf;rw[e']
   simp only[beq_self_eq_true,if_true,cc]
   have q:mM env ((n,.free)::r) acc=mM env r ((n,c)::acc):=by
    show(if du= .free then mM env r ((n,(env.cells.lookup n).getD 0)::acc) else _)=_
    rw[if_pos rfl,e']
    rfl
   rw[q,<-ih]
   rfl
  ·have hb:(k == du)=false:=by simpa using hk
   simp only[hb,pD,if_false]
   have q:mM env ((n,k)::r) acc=mM env r acc:=by
    show(if k= .free then _ else mM env r acc)=_
    rw[if_neg hk]
   rw[q,<-ih]
   rfl
theorem AL{env:Env}{scope:Scope}(h:∀y∈scope.names,y.2= .free->∃c,env.cells.lookup y.1=some c):closureFor scope env=pure (mM env scope.names []):=by
 have q:=wX env scope.names [] h
 unfold closureFor
 first
  | (rw[<-q];rfl)
  | (simp only[bind_pure];exact q)
theorem u9{env:Env}:∀{names:List (Str×afz)}{acc:List (Str×afw)}{y:Str}{c:afw},(∀y∈names,y.2= .free->∃c,env.cells.lookup y.1=some c)->(∀y c,acc.lookup y=some c->env.cells.lookup y=some c)->(mM env names acc).lookup y=some c->env.cells.lookup y=some c
 | [],acc,y,c,_,ha,e=>ha y c e
 | (n,k)::r,acc,y,c,h,ha,e=>by
  unfold mM at e
  by_cases hk:k= .free
  ·rw[if_pos hk] at e
   subst hk
   obtain⟨c0,e0⟩:=h (n,.free) bw rfl
   have e0':env.cells.lookup n=some c0:=e0
   refine u9 (λy hy=>h y (aO _ hy)) (λy' c' e'=>?_) e
   rw[cq] at e'
   cases q:y' == n with
   | true=>
    rw[q] at e'
    have q':=eq_of_beq q
    subst q'
    rw[e0'] at e' ⊢
    exact e'
   | false=>rw[q] at e';exact ha y' c' e'
  ·rw[if_neg hk] at e
   exact u9 (λy hy=>h y (aO _ hy)) ha e
theorem qc{env:Env}{y:Str}:∀{names:List (Str×afz)}{acc:List (Str×afw)},((∃c,acc.lookup y=some c)\/(y,du)∈names)->∃c,(mM env names acc).lookup y=some c
 | [],acc,h=>by
  rcases h with h | h
  ·exact h
  ·cases h
 | (n,k)::r,acc,h=>by
  unfold mM
  by_cases hk:k= .free
  ·rw[if_pos hk]
   refine qc ?_
   rw[cq]
   cases q:y == n with
   | true=>exact .inl ⟨_,rfl⟩
   | false=>
    rcases h with h | h
    ·exact .inl h
    ·rcases List.mem_cons.mp h with h | h
     ·cases h;simp at q
     ·exact .inr h
  ·rw[if_neg hk]
   refine qc ?_
   rcases h with h | h
   ·exact .inl h
   ·rcases List.mem_cons.mp h with h | h
    ·cases h;exact absurd rfl hk
    ·exact .inr h
theorem lookup_mem{α β:Type}[BEq α][LawfulBEq α]{y:α}{k:β}:∀{names:List (α×β)},names.lookup y=some k->(y,k)∈names
 | [],h=>by cases h
 | (n,j)::r,h=>by
  rw[cq] at h
  cases q:y == n with
  | true=>
   rw[q] at h
   cases h
   have q':=eq_of_beq q
   subst q'
   exact bw
  | false=>rw[q] at h;exact aO _ (lookup_mem h)
theorem qR{env:Env}:∀{names:List (Str×afz)}{y:Str},(names.map λ(n,k)=>if(k == du&&env.scope.kind == .function&&env.kindOf n == some .cell) then(n,qd) else(n,k)).lookup y=
  (names.lookup y).map λk=>if(k == du&&env.scope.kind == .function&&env.kindOf y == some .cell)=true then qd else k
 | [],y=>rfl
 | (n,k)::r,y=>by
  have ih:=qR (env:=env) (names:=r) (y:=y)
  show nB y ((if(k == du&&env.scope.kind == .function&&env.kindOf n == some .cell)=true then(n,qd) else(n,k))::_)=_
  cases q:y == n with
  | true=>
   have q':=eq_of_beq q
   subst q'
   by_cases hc:(k == du&&env.scope.kind == .function&&env.kindOf y == some .cell)=true
   ·rw[if_pos hc]
    simp only[cq,beq_self_eq_true,qf]
    rw[if_pos hc]
   ·rw[if_neg hc]
    simp only[cq,beq_self_eq_true,qf]
    rw[if_neg hc]
  | false=>
   by_cases hc:(k == du&&env.scope.kind == .function&&env.kindOf n == some .cell)=true
   ·rw[if_pos hc];simp only[cq,q];exact ih
   ·rw[if_neg hc];simp only[cq,q];exact ih
open Classical in
def iY(ck:Hs->Prop)(gt:Wv->Hs->Re Bool)(ge:Wv->Hs->Re Wv)(l:Nat):List Wv->Hs->Option Hs
 | [],st=>some st
 | w::r,st=>match gt w st with
  | .ok false st1=>if ck st1 then iY ck gt ge l r st1 else none
  | .ok true st1=>(match ge w st1 with
   | .ok v st2=>(match sF (.ref l) v st2 with
    | .ok _ st3=>if ck st3 then iY ck gt ge l r st3 else none
    | _=>none)
   | _=>none)
  | _=>none
open Classical in
def pE(ck:Hs->Prop)(gt:Wv->Hs->Re Bool)(ge:Wv->Hs->Re Wv)(l:Nat):List Wv->Hs->Re Unit
 | [],st=> .ok () st
 | w::r,st=>match gt w st with
  | .ok false st1=>if ck st1 then pE ck gt ge l r st1 else .bad
  | .ok true st1=>(match ge w st1 with
   | .ok v st2=>(match sF (.ref l) v st2 with
    | .ok _ st3=>if ck st3 then pE ck gt ge l r st3 else .bad
    | _=> .bad)
   | .err c st2=> .err c st2
   | .bad=> .bad)
  | .err c st1=> .err c st1
  | .bad=> .bad
theorem qS{ck:Hs->Prop}{gt:Wv->Hs->Re Bool}{ge:Wv->Hs->Re Wv}{l:Nat}{mO:Hs}:∀(ws:List Wv)(st:Hs),iY ck gt ge l ws st=some mO->pE ck gt ge l ws st= .ok () mO
 | [],st,h=>by cases h;rfl
 | w::r,st,h=>by
  unfold iY at h
  unfold pE
  cases eg:gt w st with
  | err c st1=>rw[eg] at h;cases h
  | bad=>rw[eg] at h;cases h
  | ok b st1=>
   rw[eg] at h
   cases b with
   | false=>
    dsimp only at h ⊢
    by_cases c:ck st1
    ·rw[if_pos c] at h ⊢;exact qS r st1 h
    ·rw[if_neg c] at h;cases h
   | true=>
    dsimp only at h ⊢
    cases ee:ge w st1 with
    | err c st2=>rw[ee] at h;cases h
    | bad=>rw[ee] at h;cases h
    | ok v st2=>
     rw[ee] at h
     dsimp only at h ⊢
     cases ea:sF (.ref l) v st2 with
     | err c st3=>rw[ea] at h;cases h
     | bad=>rw[ea] at h;cases h
     | ok u st3=>
      rw[ea] at h
      dsimp only at h ⊢
      by_cases c:ck st3
      ·rw[if_pos c] at h ⊢;exact qS r st3 h
      ·rw[if_neg c] at h;cases h
abbrev dH:=List (Str×Nat)
def ff(cs:dH)(ρ:bC):bC:=cs.map λp=>(ρ[p.2]?).getD none
def nC(cs:dH)(σ:St):St:=cs.map λp=>(σ[p.2]?).getD none
theorem AM{K:PySem.W.Frag}{m:Mp}{H:Hp}{ρ:bC}{σ:St}(cs:dH)(R:aw K m H ρ σ):aw K m H (ff cs ρ) (nC cs σ):=by
 refine⟨by unfold ff nC;simp,λi w e=>?_⟩
 unfold ff at e
 rw[iF] at e
 cases q:cs[i]? with
 | none=>rw[q] at e;cases e
 | some p=>
  rw[q] at e
  have e':(ρ[p.2]?).getD none=some w:=by simpa using e
  cases q2:ρ[p.2]? with
  | none=>rw[q2] at e';cases e'
  | some o=>
   rw[q2] at e'
   have e2:o=some w:=e'
   subst e2
   obtain⟨v,h1,h2⟩:=R.get _ _ q2
   refine⟨v,?_,h2⟩
   unfold nC
   rw[iF,q]
   simp[h1]
def fQ(X:Cx)(scope:Scope)(x:Str)(cs:dH)(C:afw)(s0:afB)(H0:Hp)(fp:List afw)(pn:List (afw×Obj))(E:afC->afB->Prop):Cx where
 prog:=X.prog
 w:=X.w
 K:=X.K
 mg:=X.mg
 base:=X.base
 A:=X.A
 N:=x::cs.map (·.1)
 s₀:=s0
 H₀:=H0
 env:=compEnvC scope (mM X.env scope.names []) C X.env
 outer:=X.stack
 stack:=X.stack
 ex:=fp
 fn:=λ_=>false
 calm:=X.calm
 pn:=pn
 xe:=E
structure d_(X:Cx)(scope:Scope)(x:Str)(cs:dH):Prop where
 kind:scope.kind= .function
 look:∀y∈scope.names,scope.names.lookup y.1=some y.2
 cell:∀y∈scope.names,y.2≠.cell
 var:scope.names.lookup x=some .local
 cap:∀y∈scope.names,y.2= .free->X.env.kindOf y.1=some .cell\/X.env.kindOf y.1=some .free
 at_:∀p∈cs,X.N[p.2]? =some p.1/\scope.names.lookup p.1=some .free
 nd:(x::cs.map (·.1)).Nodup
section
variable {X:Cx} {pins:List (afw×Obj)} {σ:St} {H:Hp} {s:afB} {scope:Scope} {x:Str} {cs:dH}
theorem qT(I:Inv X pins σ H s){b:afw}(f:dY X pins H b):b∉frs X.stack:=λz=>by
 rcases List.mem_cons.mp (I.jV b z) with q | q
 ·exact f.2.1 q
 ·exact f.2.2.1 q
theorem d_.has(S:d_ X scope x cs)(ok:X.Ok):∀y∈scope.names,y.2= .free->∃c,X.env.cells.lookup y.1=some c:=λy hy e=>ok.has y.1 (S.cap y hy e)
theorem d_.sub(S:d_ X scope x cs)(ok:X.Ok){y:Str}{c:afw}(e:(mM X.env scope.names []).lookup y=some c):X.env.cells.lookup y=some c :=
 u9 (S.has ok) (λ_ _ z=>by cases z) e
theorem d_.NZ(S:d_ X scope x cs)(ok:X.Ok){C:afw}{y:Str}(h:(compEnvC scope (mM X.env scope.names []) C X.env).kindOf y=some .cell\/(compEnvC scope (mM X.env scope.names []) C X.env).kindOf y=some .free):scope.names.lookup y=some .free:=by
 have q:(compEnvC scope (mM X.env scope.names []) C X.env).kindOf y=(scope.names.lookup y).map λk=>if(k == du&&X.env.scope.kind == .function&&X.env.kindOf y == some .cell)=true then qd else k:=qR
 rw[q] at h
 cases e:scope.names.lookup y with
 | none=>rw[e] at h;simp at h
 | some k=>
  rw[e] at h
  simp only[qf,Option.some.injEq] at h
  by_cases hk:k= .free
  ·rw[hk]
  ·have hb:(k == du)=false:=by simpa using hk
   rw[hb] at h
   simp only[Al,pD,if_false] at h
   rcases h with h | h
   ·exact absurd h (S.cell (y,k) (lookup_mem e))
   ·exact absurd h hk
theorem d_.EU(S:d_ X scope x cs){C:afw}{y:Str}(e:scope.names.lookup y=some .free):(compEnvC scope (mM X.env scope.names []) C X.env).kindOf y=some .cell\/(compEnvC scope (mM X.env scope.names []) C X.env).kindOf y=some .free:=by
 have q:(compEnvC scope (mM X.env scope.names []) C X.env).kindOf y=(scope.names.lookup y).map λk=>if(k == du&&X.env.scope.kind == .function&&X.env.kindOf y == some .cell)=true then qd else k:=qR
 rw[q,e]
 simp only[qf]
 split
 ·exact .inl rfl
 ·exact .inr rfl
theorem wY{fp:List afw}{h2:Heap}{tk:Nat}{E:afC->afB->Prop}(S:d_ X scope x cs)(I:Inv X pins σ H s)(hf:∀b∈fp,dY X pins H b)(hl:∀b∈fp,b < s.heap.objs.size)
  (ns:h2.Ns s.heap.objs.size (λy=>([]:List (Str×afC)).reverse.lookup y))(sb:jW s.heap.objs.size (s.heap.push { cls:=.type "dict",data:=.dict #[] }) h2) :
  Inv (fQ X scope x cs s.heap.objs.size s H fp (X.pn++pins) E) [] (none::nC cs σ) H { s with heap:=h2,toks:=tk }:=by
 have keep:∀b o,s.heap.get? b=some o->h2.get? b=some o:=λb o e=>(sb.2 b (aZ (aC e))).trans (aF _ e)
 have sub:∀{y:Str}{c:afw},(mM X.env scope.names []).lookup y=some c->X.env.cells.lookup y=some c:=λe=>S.sub I.ok e
 have cellK:∀y c,X.env.cells.lookup y=some c->∀v,s.heap.IsCell c v->h2.IsCell c v:=λy c _ v ⟨o,ho,hd⟩=>⟨o,keep c o ho,hd⟩
 refine⟨⟨I.ok.mod,S.kind,I.ok.glob,I.ok.blt,au _,(λy z c e1 e2=>I.ok.inj y z c (sub e1) (sub e2)),λy h=>qc (.inr (lookup_mem (S.NZ I.ok h))),(λy c e=>by cases e),I.ok.hd,I.ok.frames,.inl rfl,λb hb=>⟨aZ (hl b hb),λy c e=>(hf b hb).2.2.2.2.1 y c (sub e)⟩,I.bs,bu I.ok.BQ I.sz,λb o e hb=>?_,λb hb=>qT I (hf b hb),I.stack,I.kU⟩,rfl,I.bare,Un.kept keep,⟨_,ns,λi y v e1 e2 e3=>?_⟩,(λy c e=>?_),I.fresh,(λy c e=>I.f9 y c (sub e)),λp hp=>?_,I.hok.kept keep,by unfold fQ nC;simp⟩
 ·rcases(hf b hb).2.2.2.1 with z | z
  ·exact I.ok.yf b o e z
  ·exact absurd (aY (aC e) (bu I.ok.BQ z)) (cI _)
 ·cases i with
  | zero=>cases e2
  | succ i=>
   have Ie:(cs.map (·.1))[i]? =some y:=e1
   have AN:(nC cs σ)[i]? =some (some v):=e2
   unfold nC at AN
   rw[iF] at Ie AN
   cases q:cs[i]? with
   | none=>rw[q] at Ie;cases Ie
   | some p=>
    rw[q] at Ie AN
    have y1:p.1=y:=by simpa using Ie
    have e4:(σ[p.2]?).getD none=some v:=by simpa using AN
    have e5:σ[p.2]? =some (some v):=by
     cases q2:σ[p.2]? with
     | none=>rw[q2] at e4;cases e4
     | some o=>
      rw[q2] at e4
      have:o=some v:=e4
      rw[this]
    have hp:=S.at_ p (List.mem_iff_getElem?.mpr ⟨i,q⟩)
    rw[y1] at hp
    have kd:=S.cap (y,.free) (lookup_mem hp.2) rfl
    obtain⟨m,hn,hl'⟩:=I.loc
    obtain⟨u,r,l⟩:=hl' p.2 y v hp.1 e5 (.inr kd)
    refine⟨u,r,.inr ⟨S.EU hp.2,?_⟩⟩
    rcases l with ⟨l,_⟩ | ⟨_,c,e,z⟩
    ·rcases kd with kd | kd
     ·have WX:X.env.kindOf y=some .cell:=kd
      rw[WX] at l;cases l
     ·have WX:X.env.kindOf y=some .free:=kd
      rw[WX] at l;cases l
    ·obtain⟨c',e'⟩:=qc (env:=X.env) (y:=y) (names:=scope.names) (acc:=[]) (.inr (lookup_mem hp.2))
     have:=sub e'
     rw[e] at this
     cases this
     exact⟨c,e',cellK y c e _ z⟩
 ·obtain⟨v,z⟩:=I.cell y c (sub e)
  exact⟨v,cellK y c (sub e) v z⟩
 ·rw[fk] at hp
  obtain⟨e,n,ne,nf,d⟩:=I.pin p hp
  refine⟨keep _ _ e,n,aZ (aC e),λz=>?_,d⟩
  rcases List.mem_cons.mp (I.jV p.1 z) with q | q
  ·exact ne q
  ·exact nf q
theorem EV{fp:List afw}{E:afC->afB->Prop}{Hb He:Hp}{sb se:afB}{C:afw}{σ':St}{iS:List (afw×Obj)}(I:Inv X pins σ Hb sb)(hf:∀b∈fp,dY X pins Hb b)(J:Inv (fQ X scope x cs C sb Hb fp (X.pn++pins) E) iS σ' He se):Inv X pins σ He se:=by
 have un:Un (frs X.stack) fp Hb He sb.heap se.heap:=J.base
 exact I.qv (ch:=fp) J.os un J.hok J.bare λb hb=>⟨(hf b hb).2.2.2.1,(hf b hb).2.1,(hf b hb).2.2.2.2.1,λp hp=>(hf b hb).2.2.2.2.2 p hp⟩
theorem lB{He:Hp}{se:afB}{C:afw}{h2:Heap}(I:Inv X pins σ He se)(f:dY X pins He C)(same:jW C se.heap h2):Inv X pins σ He { se with heap:=h2 } :=
 I.turned (t':=se.toks) (it:=C) (λb o hb e=>(same.2 b hb).trans e) f.1 f.2.1 f.2.2.2.1 f.2.2.2.2.1 f.2.2.2.2.2
end
def EW(X:Cx):Prop:=∃(env:Env)(outer:List Env)(L:afw),X.stack=env::outer/\env.frame=some L/\X.env.frame=some L
section
variable {X:Cx} {pins:List (afw×Obj)} {σ:St} {scope:Scope} {x:Str} {cs:dH}
end
structure AO(Y:Cx->Prop)(P:afA)(w:afD)(K:PySem.W.Frag)(tg:Expr)(J:It)(fp:List afw)(it:afw)(tn:Nat->Heap->Prop):Prop where
 obj:∀i h,tn i h->∀b∈fp,∃o,h.get? b=some o/\∀v,o.data≠.cell v
 keep:∀i h h',tn i h->(∀b∈fp,∀o,h.get? b=some o->h'.get? b=some o)->tn i h'
 item:∀(X:Cx),X.prog=P->X.w=w->X.K=K->Y X->∀(i:Nat)(pins:List (afw×Obj))(s:afB)(σ:St)(H:Hp)(E:afC->afB->Prop),Inv X pins σ H s->(∀b∈fp,dY X pins H b)->tn i s.heap->J.go i H->afP (model P w) X.A (pyNext (.ref it)) (λr s1=>∃u,r=some u/\
  afP (model P w) X.A (letOwnedTupleGo tg (.ref it) u) (λ_ s2=>∃x H',Inv X pins σ H' s2/\RelV x u/\J.v_ i H x H'/\tn (i+1) s2.heap/\∀b∈fp,H' b=none) E s1) E s
 done:∀(X:Cx),X.prog=P->X.w=w->X.K=K->Y X->∀(i:Nat)(pins:List (afw×Obj))(s:afB)(σ:St)(H:Hp)(E:afC->afB->Prop),Inv X pins σ H s->(∀b∈fp,dY X pins H b)->tn i s.heap->J.stop i H->afP (model P w) X.A (pyNext (.ref it)) (λr s1=>r=none/\Inv X pins σ H s1) E s
 self:∀(A:afx)(i:Nat)(s:afB)(Q:afC->afB->Prop)(E:afC->afB->Prop),tn i s.heap->Q (.ref it) s->afP (model P w) A (pyIter (.ref it)) Q E s
abbrev Calm(X:Cx):Prop:=X.calm=true
theorem _root_.L2.Turn.y{P:afA}{w:afD}{K:PySem.W.Frag}{tg:Expr}{J:It}{fp:List afw}{it:afw}{tn:Nat->Heap->Prop}(T:Turn P w K tg J fp it tn):AO Calm P w K tg J fp it tn:=⟨T.obj,T.keep,T.item,T.done,T.self⟩
def Rc(Y:Cx->Prop)(X:Cx):Prop:=∀{pins:List (afw×Obj)}{σ:St}{H:Hp}{s:afB}(scope:Scope)(x:Str)(cs:dH)(C:afw)(s0:afB)(fp:List afw)(pn:List (afw×Obj))(E:afC->afB->Prop),Inv X pins σ H s->Y (fQ X scope x cs C s0 H fp pn E)
theorem wZ{X:Cx}(hc:X.calm=true):Rc Calm X:=λ_ _ _ _ _ _ _ _ _=>hc
def AQ(X:Cx)(ifs:List Expr)(g:GT):Prop:=∀(ρ:bC)(st:Hs)(σ:St)(H:Hp)(m:Mp)(Q:Bool->Hp->Prop),bb X.K m st H->aw X.K m H ρ σ->iU X σ m H (g ρ st) Q->∀(pins:List (afw×Obj))(s:afB),Inv X pins σ H s->
 afP (model X.prog X.w) X.A (forIn ifs true λc r=>if r=true then do let ok <-isTrue c X.env (eval c X.env);pure (ml ok) else pure (ml r)) (TP X pins σ Q) X.xe s
section
variable {X:Cx}
theorem AR:AQ X [] (λ_ st=> .ok true st):=λρ st σ H m Q S R p pins s I=>wpAny_tests_nil ⟨H,I,p m H Ext.refl S⟩
theorem AS{c:Expr}{g:GT}(h:JT X c g):AQ X [c] g:=λρ st σ H m Q S R p pins s I=>wpAny_tests_one (h ρ st σ H m Q S R p pins s I)
theorem yP{pins:List (afw×Obj)}{σ:St}{ρ:bC}{scope:Scope}{x:Str}{cs:dH}{px pos:Pos}{elt iter:Expr}{ifs:List Expr}{gt:GT}{ge:GE}{ck:Hs->Prop}{ws:List Wv}{E:afC->afB->Prop}
  {use:Option (afC->Sem Unit)}{Q:afC->afB->Prop}{res:Re Unit}
  {it:afw}{fp:List afw}{tn:Nat->Heap->Prop}{J':It}{H2:Hp}{s2:afB}{m1:Mp}{st1:Hs}{Y:Cx->Prop}(fr:EW X)(S:d_ X scope x cs)(hY:Rc Y X)(hH:yN X)(I2:Inv X pins σ H2 s2)(T:AO Y X.prog X.w X.K (.Name x px) J' fp it tn)(t0:tn 0 s2.heap)(f2:∀b∈fp,dY X pins H2 b)
  (S1:bb X.K m1 st1 H2)(R:aw X.K m1 H2 ρ σ)(hck:ck (st1++[.lst []]))(run:pE ck (λw=>gt (some w::ff cs ρ)) (λw=>ge (some w::ff cs ρ)) st1.length ws (st1++[.lst []])=res)(nb:res≠.bad)(hx:∀c stE,res≠.err c stE)
  (hE:∀C s0 H0 pn E,Ck X.A H0->JE (fQ X scope x cs C s0 H0 fp pn E) elt ge)(hT:∀C s0 H0 pn E,Ck X.A H0->AQ (fQ X scope x cs C s0 H0 fp pn E) ifs gt)
  (hgo:∀(k:Nat)(H:Hp)(m':Mp)(st:Hs),Ext X.K m1 H2 m' H->bb X.K m' st H->ck st->k < ws.length->J'.go k H)(hstop:∀(k:Nat)(H:Hp)(m':Mp)(st:Hs),Ext X.K m1 H2 m' H->bb X.K m' st H->ck st->k=ws.length->J'.stop k H)
  (hy:∀(k:Nat)(hk:k < ws.length)(H:Hp)(v:V)(H':Hp)(m':Mp)(st:Hs),Ext X.K m1 H2 m' H->bb X.K m' st H->ck st->J'.v_ k H v H'->H'=H/\ag X.K m' H ws[k] v)
  (fin:∀(mO:Hs),res= .ok () mO->∀(D C:afw)(mm:Str->Option afC)(m':Mp)(H':Hp)(s':afB),Ext X.K m1 H2 m' H'->bb X.K m' mO H'->m'[st1.length]? =some D->Inv X pins σ H' s'->dY X pins H' C->s'.heap.Ns C mm->(∀y c,X.env.cells.lookup y=some c->c≠C)->afI (model X.prog X.w) X.A X.xe use Q (.ref D) C (.ok .next) s') :
  afP (model X.prog X.w) X.A (newList []) (λacc s3=>afP (model X.prog X.w) X.A (newFunctionEnv scope X.env.globals (mM X.env scope.names []) [] X.env.qual none .none (some X.env)) (λcenv s4=>
   afH (model X.prog X.w) X.A (.compStart (.ListComp elt [⟨.Name x px,iter,ifs,0⟩] scope pos) 0 (.ref it) acc { cenv with scope:=relabel scope X.env }) (afI (model X.prog X.w) X.A X.xe use Q acc cenv.locals) s4) E s3) E s2:=by
 refine afU ?_
 have I3:Inv X pins σ (upd H2 s2.heap.objs.size (.lst [])) { s2 with heap:=s2.heap.push { cls:=.type "list",data:=.seq ([]:List afC).toArray } }:=I2.IV (ys:=[]) (its:=[]) (t':=s2.toks) .nil (bG _)
 have Tp:∀b∈fp,b < s2.heap.objs.size:=λb hb=>by
  obtain⟨o,e,_⟩:=T.obj _ _ t0 b hb
  exact aC e
 have hD:H2 s2.heap.objs.size=none:=I2.fresh
 have f3:∀b∈fp,dY X pins (upd H2 s2.heap.objs.size (.lst [])) b:=λb hb=>⟨by rw[aA (aZ (Tp b hb))];exact(f2 b hb).1,(f2 b hb).2⟩
 have S3:=S1.alloc (ws:=[]) (xs:=[]) hD ah.nil
 have e3:Ext X.K m1 H2 (m1++[s2.heap.objs.size]) (upd H2 s2.heap.objs.size (.lst [])):=Ext.more.trans (Ext.upd (.inl hD))
 have Jz:(m1++[s2.heap.objs.size])[st1.length]? =some s2.heap.objs.size:=by
  rw[<-S1.len,fW (au _),ni];rfl
 generalize u_:({ s2 with heap:=s2.heap.push { cls:=.type "list",data:=.seq ([]:List afC).toArray } }:afB)=s3 at I3
 have Tq:∀b o,s2.heap.get? b=some o->s3.heap.get? b=some o:=λb o e=>by rw[<-u_];exact aF _ e
 have Tr:∀b∈fp,b < s3.heap.objs.size:=λb hb=>by
  obtain⟨o,e,_⟩:=T.obj _ _ t0 b hb
  exact aC (Tq b o e)
 generalize hDD:s2.heap.objs.size=D at *
 generalize hH3:upd H2 D (.lst [])=H3 at *
 generalize hm3:m1++[D]=m3 at *
 have R3:aw X.K m3 H3 (ff cs ρ) (nC cs σ):=(AM cs R).mono e3
 generalize hrr:ff cs ρ=ρc at *
 generalize hss:nC cs σ=σc at *
 refine wpAny_newFunctionEnv S.cell (λ_ z=>nomatch z) (λh4 WY Ts=>?_) S.kind
 have Ic:=λE=>wY (E:=E) (tk:=s3.toks+([]:List (Str×afC)).length) S I3 f3 Tr WY Ts
 have WZ:∀b o,s3.heap.get? b=some o->h4.get? b=some o:=λb o e=>(Ts.2 b (aZ (aC e))).trans (aF _ e)
 have t4:tn 0 h4:=T.keep _ _ _ t0 λb _ o e=>WZ b o (Tq b o e)
 let EX:afC->afB->Prop:=notedBy (model X.prog X.w) X.A (compEnvC scope (mM X.env scope.names []) s3.heap.objs.size X.env) λe s'=>afI (model X.prog X.w) X.A X.xe use Q (.ref D) s3.heap.objs.size (.error e) s'
 let Xc:=fQ X scope x cs s3.heap.objs.size s3 H3 fp (X.pn++pins) EX
 have noted:∀{σ':St}{m:Mp}{H:Hp}{c:Str}{st:Hs},Ext X.K m1 H2 m H->res= .err c st->Q5 Xc σ' m H c st:=λ_ er=>(hx _ _ er).elim
 have vis:Xc.env.scope.names.lookup x=some .local:=lookup_relabel_local S.var
 have N0:∀(H':Hp),(∀b∈fp,H' b=none)->∀b∈fp,dY Xc [] H' b:=λH' hn b hb=>⟨hn b hb,aZ (Tr b hb),qT I3 (f3 b hb),.inl hb,λy c e=>(f3 b hb).2.2.2.2.1 y c (S.sub I3.ok e),λp hp=>(f2 b hb).2.2.2.2.2 p (by have Tt:p∈(X.pn++pins)++[]:=hp;rw[fk] at Tt;exact Tt)⟩
 let Pv:Nat->afB->Prop:=λk s'=>∃z H' st m',Inv Xc [] (z::σc) H' s'/\tn k s'.heap/\(∀b∈fp,H' b=none)/\Ext X.K m3 H3 m' H'/\bb X.K m' st H'/\ck st/\pE ck (λw=>gt (some w::ρc)) (λw=>ge (some w::ρc)) st1.length (ws.drop k) st=res
 have loop:∀s4:afB,Pv 0 s4->afH (model X.prog X.w) X.A (.compLoop (.ListComp elt [⟨.Name x px,iter,ifs,0⟩] scope pos) 0 (.ref it) (.ref D) (compEnvC scope (mM X.env scope.names []) s3.heap.objs.size X.env)) (afI (model X.prog X.w) X.A X.xe use Q (.ref D) s3.heap.objs.size) s4:=λs4 p0=>by
  refine codeAny_compLoop_tests (λn s'=>∃k,n=ws.length - k/\k<=ws.length/\Pv k s') ?_ ws.length ⟨0,by simp,bG _,p0⟩
  rintro n s5 ⟨k,rfl,hk,z5,H5,wk,m5,I5,Tu,MI,e5,S5,c5,bf⟩
  have EY:=e3.trans e5
  by_cases hlt:k < ws.length
  ·refine bp (T.item Xc rfl rfl rfl (hY _ _ _ _ _ _ _ _ I3) k [] s5 (z5::σc) H5 _ I5 (N0 H5 MI) Tu (hgo k H5 m5 wk EY S5 c5 hlt)) λr s6 h6=>?_
   obtain⟨u,rfl,h6⟩:=h6
   show afP (model X.prog X.w) X.A (pure () >>= λ_=>assign (.Name x px) Xc.env u) _ _ s6
   refine afQ (bp h6 λ_ s7 h7=>?_)
   obtain⟨v,H7,I7,rv,yl,N1,W0⟩:=h7
   obtain⟨rfl,Tv⟩:=hy k hlt H5 v H7 m5 wk EY S5 c5 yl
   have Ra:=I7.pinned (N0 H7 W0) (T.obj _ _ N1)
   refine wpAny_assign_Name (mV (i:=0) Ra S.nd rfl (.inl vis) rv (λs8 I8=>?_) (.inr vis))
   have Vo:Inv Xc ([]++dG fp s7.heap) (some v::σc) H7 s8:=I8
   have R8:aw X.K m5 H7 (some ws[k]::ρc) (some v::σc):=by
    have R5:=R3.mono e5
    refine⟨by simp[R5.len],λi w e=>?_⟩
    cases i with
    | zero=>
     cases e
     exact⟨v,rfl,Tv⟩
    | succ i=>exact R5.get i w e
   have ed:ws.drop k=ws[k]::ws.drop (k+1):=mj hlt
   rw[ed] at bf
   unfold pE at bf
   have back:∀{H':Hp}{s':afB}{m':Mp}{st:Hs},Inv Xc ([]++dG fp s7.heap) (some v::σc) H' s'->Ext X.K m3 H3 m' H'->bb X.K m' st H'->ck st->pE ck (λw=>gt (some w::ρc)) (λw=>ge (some w::ρc)) st1.length (ws.drop (k+1)) st=res->∃n',n' < ws.length - k/\∃k',n'=ws.length - k'/\k'<=ws.length/\Pv k' s' :=
    λ{H' s' m' st} I' e' S' c' r'=>⟨ws.length - (k+1),by omega,k+1,rfl,hlt,some v,H',st,m',I'.jX,T.keep _ _ _ N1 λb hb o e=>(I'.pin (b,o) (dq _ (dq _ (fj hb e)))).1,λb hb=>by
     obtain⟨o,e,_⟩:=T.obj _ _ N1 b hb
     exact(I'.pin (b,o) (dq _ (dq _ (fj hb e)))).2.1,e',S',c',r'⟩
   cases eg:gt (some ws[k]::ρc) wk with
   | err c Dz=>
    rw[eg] at bf
    refine afT (hT s3.heap.objs.size s3 H3 (X.pn++pins) EX (hH.at I3) (some ws[k]::ρc) wk (some v::σc) H7 m5 (λ_ _=>False) S5 R8 (by rw[eg];exact noted EY bf.symm) ([]++dG fp s7.heap) s8 Vo) (λ_ _ h9=>?_) λ_ _ z=>z
    obtain⟨_,_,z⟩:=h9
    exact z.elim
   | bad=>rw[eg] at bf;exact absurd bf.symm nb
   | ok b Dz=>
    rw[eg] at bf
    have K_:=hT s3.heap.objs.size s3 H3 (X.pn++pins) EX (hH.at I3) (some ws[k]::ρc) wk (some v::σc) H7 m5 (λb' H'=>b'=b/\∃m',Ext X.K m5 H7 m' H'/\bb X.K m' Dz H') S5 R8 (by rw[eg];exact λm' H' e' S'=>⟨rfl,m',e',S'⟩) ([]++dG fp s7.heap) s8 Vo
    refine afT K_ (λok s9 h9=>?_) λ_ _ z=>z
    obtain⟨H9,I9,rfl,m9,e9,S9⟩:=h9
    cases ok with
    | false=>
     dsimp only at bf
     by_cases c6:ck Dz
     ·rw[if_pos c6] at bf
      rw[if_neg cT]
      exact back I9 (e5.trans e9) S9 c6 bf
     ·rw[if_neg c6] at bf;exact absurd bf.symm nb
    | true=>
     dsimp only at bf
     rw[if_pos rfl]
     cases ee:ge (some ws[k]::ρc) Dz with
     | err c JB=>
      rw[ee] at bf
      refine afT (hE s3.heap.objs.size s3 H3 (X.pn++pins) EX (hH.at I3) (some ws[k]::ρc) Dz (some v::σc) H9 m9 (λ_ _=>False) S9 (R8.mono e9) (by rw[ee];exact noted (EY.trans e9) bf.symm) ([]++dG fp s7.heap) s9 I9) (λ_ _ Tw=>?_) λ_ _ z=>z
      obtain⟨_,_,_,_,z⟩:=Tw
      exact z.elim
     | bad=>rw[ee] at bf;exact absurd bf.symm nb
     | ok w JB=>
      rw[ee] at bf
      dsimp only at bf
      cases ea:sF (.ref st1.length) w JB with
      | err c N2=>rw[ea] at bf;exact absurd bf.symm nb
      | bad=>rw[ea] at bf;exact absurd bf.symm nb
      | ok w2 N2=>
       rw[ea] at bf
       dsimp only at bf
       by_cases c8:ck N2
       ·rw[if_pos c8] at bf
        have el:=hE s3.heap.objs.size s3 H3 (X.pn++pins) EX (hH.at I3) (some ws[k]::ρc) Dz (some v::σc) H9 m9 (λv' H'=>∃m',Ext X.K m9 H9 m' H'/\bb X.K m' JB H'/\ag X.K m' H' w v') S9 (R8.mono e9) (by rw[ee];exact λv' m' H' e' S' r'=>⟨m',e',S',r'⟩) ([]++dG fp s7.heap) s9 I9
        refine afT el (λu2 W3 Tw=>?_) λ_ _ z=>z
        obtain⟨v2,EZ,W4,r2,N3,Vp,W5,N4⟩:=Tw
        obtain⟨r,h1,h2⟩:=yO (X:=Xc)
        have eA:=(e5.trans e9).trans Vp
        have ro:ag X.K N3 EZ (.ref st1.length) (.ref D):=by unfold ag;exact⟨D,rfl,eA.pre _ _ Jz⟩
        have rd:=h2 (.ref st1.length) w (.ref D) v2 JB EZ N3 (λ_ H'=>∃m',Ext X.K N3 EZ m' H'/\bb X.K m' N2 H') W5 ro N4 (by rw[ea];exact λv' m' H' e' S' r'=>⟨m',e',S'⟩)
        refine afT (h1 ([]++dG fp s7.heap) W3 (some v::σc) EZ (.ref D) [v2] (.ref D) [u2] _ W4 rfl (.cons r2 .nil) rd) (λ_ s11 h11=>?_) λ_ _ z=>z
        obtain⟨_,W6,W7,_,m11,Vq,W8⟩:=h11
        exact back W7 (eA.trans Vq) W8 c8 bf
       ·rw[if_neg c8] at bf;exact absurd bf.symm nb
  ·have ek:k=ws.length:=by omega
   subst ek
   refine bp (T.done Xc rfl rfl rfl (hY _ _ _ _ _ _ _ _ I3) _ [] s5 (z5::σc) H5 _ I5 (N0 H5 MI) Tu (hstop _ H5 m5 wk EY S5 c5 rfl)) λr s6 h6=>?_
   obtain⟨rfl,I6⟩:=h6
   rw[oo] at bf
   obtain⟨mm,W9,_⟩:=id I6.loc
   have fC:=I3.sx (H':=H5) (au _) I6.free
   exact fin wk bf.symm D _ mm m5 H5 _ EY S5 (e5.pre _ _ Jz) (EV I3 f3 I6) fC W9 fC.2.2.2.2.1
 have p0:Pv 0 { s3 with heap:=h4,toks:=s3.toks+([]:List (Str×afC)).length }:=⟨none,H3,st1++[Ob.lst []],m3,hss ▸ Ic EX,t4,λb hb=>(f3 b hb).1,Ext.refl,S3,hck,by rw[jk];exact run⟩
 exact codeAny_compStart_list (loop _ p0) (T.self X.A 0 _ _ _ t4 (loop _ p0))
end
abbrev Wk:=Option Nat×List Wv
def jQ(w:Wk)(st:Hs):Prop:=match w.1 with
 | some l=>aq st l=some w.2
 | none=>True
structure w_(X:Cx)(w:Wk)(m1:Mp)(H1:Hp)(J':It):Prop where
 go:∀(k:Nat)(H:Hp)(m':Mp)(st:Hs),Ext X.K m1 H1 m' H->bb X.K m' st H->jQ w st->k < w.2.length->J'.go k H
 stop:∀(k:Nat)(H:Hp)(m':Mp)(st:Hs),Ext X.K m1 H1 m' H->bb X.K m' st H->jQ w st->k=w.2.length->J'.stop k H
 v_:∀(k:Nat)(hk:k < w.2.length)(H:Hp)(v:V)(H':Hp)(m':Mp)(st:Hs),Ext X.K m1 H1 m' H->bb X.K m' st H->jQ w st->J'.v_ k H v H'->H'=H/\ag X.K m' H w.2[k] v
abbrev GI:=bC->Hs->Re Wk
def W_(Y:Cx->Prop)(X:Cx)(pins:List (afw×Obj))(σ:St)(tg:Expr)(R:It->Hp->Prop)(itv:afC)(s2:afB):Prop :=
 ∃(it:afw)(fp:List afw)(tn:Nat->Heap->Prop)(J:It)(H':Hp),itv= .ref it/\Inv X pins σ H' s2/\AO Y X.prog X.w X.K tg J fp it tn/\tn 0 s2.heap/\(∀b∈fp,dY X pins H' b)/\R J H'
def W'(Y:Cx->Prop)(X:Cx)(tg iter:Expr)(wi:TI):Prop:=∀(pins:List (afw×Obj))(s:afB)(σ:St)(H:Hp)(R:It->Hp->Prop),Inv X pins σ H s->wi σ H R->
 afP (model X.prog X.w) X.A (eval iter X.env) (λv s1=>afP (model X.prog X.w) X.A (pyIter v) (W_ Y X pins σ tg R) X.xe s1) X.xe s
theorem _root_.L2.PI.y{X:Cx}{tg iter:Expr}{wi:TI}(h:PI X tg iter wi):W' Calm X tg iter wi:=λpins s σ H R I q=>bp (h pins s σ H R I q) λ_ _ h1=>bp h1 λ_ _ h2=>
 let ⟨it,fp,tn,J,H',e,I',T,r⟩:=h2;⟨it,fp,tn,J,H',e,I',T.y,r⟩
def Rf(Y:Cx->Prop)(X:Cx)(tg iter:Expr)(gi:GI):Prop:=∃wi,W' Y X tg iter wi/\∀(ρ:bC)(st:Hs)(σ:St)(H:Hp)(m:Mp)(R:It->Hp->Prop),bb X.K m st H->aw X.K m H ρ σ->
 ax X σ m H (gi ρ st) (λw st1=>∀(m1:Mp)(H1:Hp)(J':It),Ext X.K m H m1 H1->bb X.K m1 st1 H1->jQ w st1->w_ X w m1 H1 J'->R J' H1)->wi σ H R
def JI(X:Cx)(tg iter:Expr)(gi:GI):Prop:=∃wi,PI X tg iter wi/\∀(ρ:bC)(st:Hs)(σ:St)(H:Hp)(m:Mp)(R:It->Hp->Prop),bb X.K m st H->aw X.K m H ρ σ->
 ax X σ m H (gi ρ st) (λw st1=>∀(m1:Mp)(H1:Hp)(J':It),Ext X.K m H m1 H1->bb X.K m1 st1 H1->jQ w st1->w_ X w m1 H1 J'->R J' H1)->wi σ H R
theorem JI.y{X:Cx}{tg iter:Expr}{gi:GI}(h:JI X tg iter gi):Rf Calm X tg iter gi:=let ⟨wi,h1,h2⟩:=h;⟨wi,h1.y,h2⟩
def N5(w:Wv)(st:Hs):Re Wk:=match w with
 | .ref l=>(match aq st l with | some ws=> .ok (some l,ws) st | none=> .bad)
 | .tup ws=> .ok (none,ws) st
 | .pB ws=> .ok (none,ws) st
 | _=> .bad
def E3(g:GE):GI:=λρ st=>(g ρ st).bind N5
section
variable {X:Cx}
theorem N6{tg iter:Expr}{g:GE}(h:JE X iter g):JI X tg iter (E3 g):=by
 refine⟨_,EG aM,λρ st σ H m Q S R p=>?_⟩
 refine h.go S R (ax.bind p) λw st1 v m1 H1 p1 e1 S1 rw'=>?_
 cases w with
 | ref l=>
  unfold ag at rw'
  obtain⟨a,rfl,hla⟩:=rw'
  unfold N5 at p1
  cases el:aq st1 l with
  | none=>simp only[el] at p1;exact ae p1
  | some ws=>
   simp only[el] at p1
   obtain⟨Tb,q0,_⟩:=S1.read hla el
   refine⟨a,rfl,.inl ⟨⟨Tb,q0⟩,p1 m1 H1 _ e1 S1 el ⟨λk H' m' st' e S' c hk=>?_,λk H' m' st' e S' c hk=>?_,λk hk H' v Xa m' st' e S' c y=>?_⟩⟩⟩
   ·obtain⟨xs,hq,rws⟩:=S'.read (e.pre _ _ hla) c
    have hx':k < xs.length:=by rw[<-rws.length];exact hk
    exact⟨xs,xs[k],hq,by simp[hx']⟩
   ·obtain⟨xs,hq,rws⟩:=S'.read (e.pre _ _ hla) c
    exact⟨xs,hq,by rw[<-rws.length,hk];exact au _⟩
   ·obtain⟨xs,hq,rws⟩:=S'.read (e.pre _ _ hla) c
    obtain⟨ee,y⟩:=y
    refine⟨ee,?_⟩
    obtain⟨x',ex',pO⟩:=rws.get (i:=k) (w:=ws[k]) (fm hk)
    rw[y xs hq] at ex'
    cases ex'
    exact pO
 | tup ws=>
  unfold ag at rw'
  obtain⟨a,xs,rfl,hq,rws⟩:=rw'
  refine⟨a,rfl,.inr ⟨⟨xs,eF.of hq⟩,p1 m1 H1 _ e1 S1 trivial ⟨λk H' m' st' e S' c hk=>?_,λk H' m' st' e S' c hk=>?_,λk hk H' v Xa m' st' e S' c y=>?_⟩⟩⟩
  ·have hx':k < xs.length:=by rw[<-rws.length];exact hk
   exact⟨xs,xs[k],eF.of (e.tup _ _ hq),by simp[hx']⟩
  ·exact⟨xs,eF.of (e.tup _ _ hq),by rw[<-rws.length,hk];exact au _⟩
  ·obtain⟨ee,y⟩:=y
   refine⟨ee,?_⟩
   obtain⟨x',ex',pO⟩:=(ah.mono e _ _ rws).get (i:=k) (w:=ws[k]) (fm hk)
   rw[y xs (eF.of (e.tup _ _ hq))] at ex'
   cases ex'
   exact pO
 | pB ws=>
  unfold ag at rw'
  obtain⟨a,xs,rfl,hq,rws⟩:=rw'
  refine⟨a,rfl,.inr ⟨⟨xs,.inr hq⟩,p1 m1 H1 _ e1 S1 trivial ⟨λk H' m' st' e S' c hk=>?_,λk H' m' st' e S' c hk=>?_,λk hk H' v Xa m' st' e S' c y=>?_⟩⟩⟩
  ·have hx':k < xs.length:=by rw[<-rws.length];exact hk
   exact⟨xs,xs[k],.inr hq,by simp[hx']⟩
  ·exact⟨xs,.inr hq,by rw[<-rws.length,hk];exact au _⟩
  ·obtain⟨ee,y⟩:=y
   refine⟨ee,?_⟩
   obtain⟨x',ex',pO⟩:=(ah.mono e _ _ rws).get (i:=k) (w:=ws[k]) (fm hk)
   rw[y xs (.inr hq)] at ex'
   cases ex'
   exact pO
 | _=>exact ae p1
theorem yQ{lo:Int}{n:Nat}{m1:Mp}{H1:Hp}:w_ X (none,bR lo n) m1 H1 (HZ lo n) where
 go:=λk H m' st e S c hk=>by
  have:(bR lo n).length=n:=cL
  have hk':k < (bR lo n).length:=hk
  rw[this] at hk';exact hk'
 stop:=λk H m' st e S c hk=>by
  have:(bR lo n).length=n:=cL
  have hk':k=(bR lo n).length:=hk
  rw[this] at hk';exact nr hk'.symm
 v_:=λk hk H v H' m' st e S c y=>by
  obtain⟨y1,y2⟩:=y
  refine⟨y1,?_⟩
  have q:(bR lo n)[k]'hk= .int (lo+k):=wR hk
  show ag X.K m' H ((bR lo n)[k]'hk) v
  rw[q,y2]
  exact mkInt
def tT(ws:List Wv)(st:Hs):Re Wk:=match ws with
 | [.int j]=>if cV j then .ok (none,bR 0 j.toNat) st else .bad
 | _=> .bad
def AU(ws:List Wv)(st:Hs):Re Wk:=match ws with
 | [.int a,.int j]=>if cV a/\cV j then .ok (none,bR a (j - a).toNat) st else .bad
 | _=> .bad
def Cq(g:GA):GI:=λρ st=>(g ρ st).bind tT
def E4(g:GA):GI:=λρ st=>(g ρ st).bind AU
theorem Tz{tg a:Expr}{ga:GA}{p q:Pos}(hg:Gl X "range")(hm:X.mg "range"=none)(ha:JA X [a] ga)(hst:afO [a] X.env=[(false,eval a X.env)]):JI X tg (.Call (.Name "range" p) [a] [] q) (Cq ga):=by
 refine⟨_,sZ hg hm h_ hst,λρ st σ H m Q S R p=>?_⟩
 refine ha.go S R (ax.bind p) λws st1 vs m1 H1 p1 e1 S1 rs=>?_
 match ws,rs,p1 with
 | [],rs,p1=>exact ae p1
 | x::y::t,rs,p1=>cases x<;>exact ae p1
 | [x],rs,p1=>
  obtain⟨v,rfl,r1⟩:=qN rs
  cases x with
  | int j=>
   cases aL r1
   unfold tT at p1
   by_cases c:cV j
   ·simp only[if_pos c] at p1
    exact⟨j,rfl,c.1,c.2,p1 m1 H1 _ e1 S1 trivial yQ⟩
   ·simp only[if_neg c] at p1;exact ae p1
  | _=>exact ae p1
theorem TC{tg a b:Expr}{ga:GA}{p q:Pos}(hg:Gl X "range")(hm:X.mg "range"=none)(ha:JA X [a,b] ga)(hst:afO [a,b] X.env=[(false,eval a X.env),(false,eval b X.env)])(NN:afO [b] X.env=[(false,eval b X.env)]):JI X tg (.Call (.Name "range" p) [a,b] [] q) (E4 ga):=by
 refine⟨_,s_ hg hm h_ hst NN,λρ st σ H m Q S R p=>?_⟩
 refine ha.go S R (ax.bind p) λws st1 vs m1 H1 p1 e1 S1 rs=>?_
 match ws,rs,p1 with
 | [],rs,p1=>exact ae p1
 | [x],rs,p1=>cases x<;>exact ae p1
 | x::y::z::t,rs,p1=>cases x<;>cases y<;>exact ae p1
 | [x,y],rs,p1=>
  obtain⟨v,v',rfl,r1,r2⟩:=yH rs
  cases x with
  | int a=>
   cases y with
   | int j=>
    cases aL r1;cases aL r2
    unfold AU at p1
    by_cases c:cV a/\cV j
    ·simp only[if_pos c] at p1
     exact⟨a,j,rfl,⟨c.1.1,c.1.2,c.2.1,c.2.2⟩,p1 m1 H1 _ e1 S1 trivial yQ⟩
    ·simp only[if_neg c] at p1;exact ae p1
   | _=>exact ae p1
  | _=>cases y<;>exact ae p1
def AV:GI:=λ_ _=> .bad
theorem xa{tg iter:Expr}:PI X tg iter (λ_ _ _=>False):=λ_ _ _ _ _ _ h=>h.elim
theorem yR{tg iter:Expr}:JI X tg iter AV:=⟨_,xa,λρ st σ H m Q S R p=>p⟩
def fF(cs:dH)(gt:GT)(ge:GE)(ρ:bC)(w:Wk)(st:Hs):Re Wv:=match iY (jQ w) (λv=>gt (some v::ff cs ρ)) (λv=>ge (some v::ff cs ρ)) st.length w.2 (st++[.lst []]) with
 | some mO=> .ok (.ref st.length) mO
 | none=> .bad
def lV(cs:dH)(gi:GI)(gt:GT)(ge:GE):GE:=λρ st=>(gi ρ st).bind λw st1=>fF cs gt ge ρ w st1
theorem tU{st:Hs}{l:Nat}{ws:List Wv}{more:Hs}(h:aq st l=some ws):aq (st++more) l=some ws:=by
 unfold aq at h ⊢
 cases e:st[l]? with
 | none=>rw[e] at h;cases h
 | some o=>
  have hl:=(List.getElem?_eq_some_iff.mp e).1
  rw[eG hl,e]
  rw[e] at h
  exact h
theorem qU{w:Wk}{st more:Hs}(h:jQ w st):jQ w (st++more):=by
 obtain⟨o,ws⟩:=w
 cases o with
 | none=>trivial
 | some l=>exact tU h
theorem AX{scope:Scope}{x:Str}{cs:dH}{px pos:Pos}{elt iter:Expr}{ifs:List Expr}{gi:GI}{gt:GT}{ge:GE}{use:Option (afC->Sem Unit)}{Q:afC->afB->Prop}{P:Wv->Hs->Prop}
  {ρ:bC}{st:Hs}{σ:St}{H:Hp}{m:Mp}{pins:List (afw×Obj)}{s:afB}{ps:Pos}
  {Y:Cx->Prop}(fr:EW X)(CS:d_ X scope x cs)(hc:Rc Y X)(hH:yN X)(hi:Rf Y X (.Name x px) iter gi)(hE:∀C s0 H0 fp pn E,Ck X.A H0->JE (fQ X scope x cs C s0 H0 fp pn E) elt ge)(hT:∀C s0 H0 fp pn E,Ck X.A H0->AQ (fQ X scope x cs C s0 H0 fp pn E) ifs gt)(hs:∀x,afK iter X.env x=pure x)
  (S:bb X.K m st H)(R:aw X.K m H ρ σ)(I:Inv X pins σ H s)(p:ax X σ m H (lV cs gi gt ge ρ st) P)
  (fin:∀(w:Wv)(mO:Hs)(v:V)(D C:afw)(mm:Str->Option afC)(m':Mp)(H':Hp)(s':afB),P w mO->Ext X.K m H m' H'->bb X.K m' mO H'->ag X.K m' H' w v->v= .ref D->Inv X pins σ H' s'->dY X pins H' C->s'.heap.Ns C mm->afI (model X.prog X.w) X.A X.xe use Q (.ref D) C (.ok .next) s') :
  afP (model X.prog X.w) X.A (comprehension (.ListComp elt [⟨.Name x px,iter,ifs,0⟩] scope pos) scope X.env ps (newList []) false (eval iter X.env) use) Q X.xe s:=by
 obtain⟨wi,TF,hw⟩:=hi
 let R':It->Hp->Prop:=λJ' H1=>∃(w:Wk)(st1:Hs)(m1:Mp),ax X σ m H (fF cs gt ge ρ w st1) P/\Ext X.K m H m1 H1/\bb X.K m1 st1 H1/\jQ w st1/\w_ X w m1 H1 J'
 have hr:=hw ρ st σ H m R' S R ((ax.bind p).imp Ext.refl λw st1 q m1 H1 J' e1 S1 c1 vb=>⟨w,st1,m1,q,e1,S1,c1,vb⟩)
 refine wpAny_comprehension_free (g:=⟨.Name x px,iter,ifs,0⟩) (gs:=[]) (cl:=mM X.env scope.names []) rfl hs (AL (CS.has I.ok)) CS.kind (λy hy e=>by rw[CS.look y hy,e]) (bp (TF pins s σ H R' I hr) λv s1 h1=>bp h1 λitv s2 h2=>?_)
 obtain⟨it,fp,tn,J',H1,rfl,I2,T,t0,f2,w,st1,m1,q,e1,S1,c1,vb⟩:=h2
 unfold fF at q
 cases run:iY (jQ w) (λv=>gt (some v::ff cs ρ)) (λv=>ge (some v::ff cs ρ)) st1.length w.2 (st1++[.lst []]) with
 | none=>
  rw[run] at q
  exact ae q
 | some mO=>
  rw[run] at q
  refine yP (use:=use) (Q:=Q) fr CS hc hH I2 T t0 f2 S1 (R.mono e1) (qU c1) (qS _ _ run) (by intro z;cases z) (λc' acy z=>by cases z) (λC s0 H0 pn E=>hE C s0 H0 fp pn E) (λC s0 H0 pn E=>hT C s0 H0 fp pn E) vb.go vb.stop vb.v_ ?_
  intro acz z D C mm m' H' s' e' S' Jz I' fC ns _
  cases z
  exact fin _ mO (.ref D) D C mm m' H' s' q (e1.trans e') S' (by unfold ag;exact⟨D,rfl,Jz⟩) rfl I' fC ns
theorem vc{scope:Scope}{x:Str}{cs:dH}{px pos:Pos}{elt iter:Expr}{ifs:List Expr}{gi:GI}{gt:GT}{ge:GE}
  {Y:Cx->Prop}(fr:EW X)(CS:d_ X scope x cs)(hc:Rc Y X)(hH:yN X)(hi:Rf Y X (.Name x px) iter gi)(hE:∀C s0 H0 fp pn E,Ck X.A H0->JE (fQ X scope x cs C s0 H0 fp pn E) elt ge)(hT:∀C s0 H0 fp pn E,Ck X.A H0->AQ (fQ X scope x cs C s0 H0 fp pn E) ifs gt)(hs:∀x,afK iter X.env x=pure x) :
  JE X (.ListComp elt [⟨.Name x px,iter,ifs,0⟩] scope pos) (lV cs gi gt ge):=λρ st σ H m Q S R p pins s I=>by
 rw[eval_ListComp]
 refine AX (use:=none) fr CS hc hH hi hE hT hs S R I p ?_
 intro w mO v D C mm m' H' s' q e' S' rw' ev I' fC ns
 exact⟨mm,ns,λh' same=>⟨.ref D,H',lB I' fC same,rfl,ev ▸ q v m' H' e' S' rw'⟩⟩
theorem AY(i:Nat){scope:Scope}{x y:Str}{cs:dH}{px pos spos py:Pos}{elt iter:Expr}{ifs:List Expr}{gi:GI}{gt:GT}{ge:GE}(hN:X.N.Nodup)
  {Y:Cx->Prop}(fr:EW X)(CS:d_ X scope x cs)(hc:Rc Y X)(hH:yN X)(hi:Rf Y X (.Name x px) iter gi)(hE:∀C s0 H0 fp pn E,Ck X.A H0->JE (fQ X scope x cs C s0 H0 fp pn E) elt ge)(hT:∀C s0 H0 fp pn E,Ck X.A H0->AQ (fQ X scope x cs C s0 H0 fp pn E) ifs gt)(hs:∀x,afK iter X.env x=pure x)
  (hx:X.N[i]? =some y)(hl:Loc X.env.scope y)(hf:X.fn y=true\/X.env.scope.names.lookup y=some .local) :
  JS X (.Assign [.Name y py] (.ListComp elt [⟨.Name x px,iter,ifs,0⟩] scope pos) spos) (aX i (lV cs gi gt ge)):=by
 have sw:∃b,swapsWith (.ListComp elt [⟨.Name x px,iter,ifs,0⟩] scope pos) (some (.Name y py)) spos.line X.env=pure b:=⟨_,rfl⟩
 obtain⟨b,sw⟩:=sw
 cases b with
 | false=>exact u5 i hN (vc fr CS hc hH hi hE hT hs) hx hl sw hf
 | true=>
  intro ρ st σ H m D S R p pins s I
  rw[exec_Assign_Name_used _ _ _ _ sw]
  refine afQ (wpAny_standAt (afQ ?_))
  show afP _ X.A (do let _ <-comprehension (.ListComp elt [⟨.Name x px,iter,ifs,0⟩] scope pos) scope X.env _ (newList []) false (eval iter X.env) (some (assign (.Name y py) X.env))) _ _ s
  refine afQ (afT (AX (use:=some (assign (.Name y py) X.env)) (Q:=λ_ s'=>SP X pins D .next s') fr CS hc hH hi hE hT hs S R I (aE.cK R p) ?_) (λ_ s' hq=>afW (afW hq)) λ_ _ e=>e)
  intro w mO v D' C mm m' H' s' q e' S' rw' ev I' fC ns
  refine wpAny_assign_Name (n6 (i:=i) I' hN hx hl (show RelV v (.ref D') by rw[ev];rfl) (λs2 I2 h2=>?_) hf)
  obtain⟨a,sb,ha⟩:=h2
  have hca:C≠a:=by
   rcases ha with z | z
   ·rw[z];exact fC.2.1
   ·exact ay (fC.2.2.2.2.1 y a z)
  exact⟨mm,ns.sameBut sb hca,λh' same=>⟨_,_,lB I2 fC same,q _ m' H' e' S' ((R.mono e').set i rw')⟩⟩
end
section
variable {X:Cx}
def N7(n:Nat)(k:Int):Prop:=-(2 ^ 62)<=k/\k < 2 ^ 62/\n * k.toNat<=lim
instance {n k}:Decidable (N7 n k):=EH _
def qV:gA
 | .ref l,.int n,st=>match st[l]? with
  | some (.lst ws)=>if N7 ws.length n then .ok (.ref st.length) (st++[.lst (aH n.toNat ws).flatten]) else .bad
  | _=> .bad
 | x,y,st=>Lh x y st
theorem tV{K:PySem.W.Frag}{m:Mp}{H:Hp}{ws:List Wv}{xs:List V}(r:ah K m H ws xs):∀n:Nat,ah K m H (aH n ws).flatten (aH n xs).flatten
 | 0=>ah.nil
 | n+1=>by
  rw[hX,qD,hX,qD]
  exact r.append (tV r n)
theorem JC:lq X (afF .Mult) qV:=by
 obtain⟨r,h1,h2⟩:=Ju (X:=X)
 refine⟨_,fD.or M8 h1,λx y a b st H m Q S rx ry p=>?_⟩
 unfold qV at p
 split at p
 ·rename_i l n
  unfold ag at rx
  obtain⟨a1,rfl,hl⟩:=rx
  cases aL ry
  cases e:st[l]? with
  | none=>rw[e] at p;exact ae p
  | some o=>
   cases o with
   | dct kvs=>rw[e] at p;exact ae p
   | ja kvs=>rw[e] at p;exact ae p
   | yd kvs=>rw[e] at p;exact ae p
   | tJ ns=>rw[e] at p;exact ae p
   | lst ws=>
    rw[e] at p
    dsimp only at p
    by_cases c:N7 ws.length n
    ·rw[if_pos c] at p
     obtain⟨xs,q1,q2⟩:=S.nh hl e
     refine .inl ⟨a1,n,xs,rfl,rfl,q1,by have:=c.1;omega,by have:=c.2.1;omega,by rw[<-q2.length];exact dZ c.2.2,λq hq=>?_⟩
     exact nj p Ext.refl S (tV q2 n.toNat) q hq
    ·rw[if_neg c] at p;exact ae p
 ·exact .inr (h2 x y a b st H m Q S rx ry p)
def nD:List Wv->Hs->Re Wv
 | [.ref l],st=>match aq st l with
  | some ws=> .ok (.tup ws) st
  | none=> .bad
 | [.tup ws],st=> .ok (.tup ws) st
 | _,_=> .bad
theorem N8:fO X (.type "tuple") nD:=⟨_,sC,λws vs st H m Q S rs p=>by
 match ws,rs,p with
 | [],rs,p=>exact ae p
 | x::y::t,rs,p=>cases x<;>exact ae p
 | [x],rs,p=>
  obtain⟨v,rfl,r1⟩:=qN rs
  cases x with
  | ref l=>
   unfold nD at p
   unfold ag at r1
   obtain⟨a,rfl,hl⟩:=r1
   cases e:aq st l with
   | none=>simp only[e] at p;exact ae p
   | some ws=>
    simp only[e] at p
    obtain⟨xs,q1,q2⟩:=S.read hl e
    refine⟨a,xs,rfl,.inl ⟨q1,λq hq=>?_⟩⟩
    have e2:Ext X.K m H m (upd H q (.tup xs)):=Ext.upd (.inl hq)
    exact p (.ref q) m _ e2 (S.fresh hq) (by unfold ag;exact⟨q,xs,rfl,aJ,ah.mono e2 _ _ q2⟩)
  | tup ws=>
   have r1':=r1
   unfold ag at r1'
   obtain⟨a,xs,rfl,q1,q2⟩:=r1'
   exact⟨a,xs,rfl,.inr ⟨eF.of q1,p _ m H Ext.refl S r1⟩⟩
  | _=>exact ae p⟩
end
end J
namespace JL
open PySem PyProof.Rows
def kn(p:afY):Int:=numOf p.1
section
variable {prog:afA} {w:afD} {A:afx} {E:afC->afB->Prop} {s:afB}
def gp(left:Bool)(key:afY)(arr:Array afY)(base i:Nat):Bool:=if left then decide (K arr (base+i) < kn key) else !decide (kn key < K arr (base+i))
end
section
variable {α:Type} {f:α->Int} {A B:List α}
structure Mg(f:α->Int)(A B out:List α)(ia ib:Nat):Prop where
 pm:out.Perm (A.take ia++B.take ib)
 so:out.Pairwise (f · <=f ·)
 la:∀p∈out,∀q∈A.drop ia,f p<=f q
 lb:∀p∈out,∀q∈B.drop ib,f p<=f q
theorem Mg.swap{out:List α}{ia ib:Nat}(h:Mg f A B out ia ib):Mg f B A out ib ia:=⟨h.pm.trans JD,h.so,h.lb,h.la⟩
theorem Mg.E5{out:List α}{ia ib:Nat}(h:Mg f A B out ia ib)(sa:A.Pairwise (f · <=f ·))(k:Nat)(hk:∀p∈(A.drop ia).take k,∀q∈B.drop ib,f p<=f q):Mg f A B (out++(A.drop ia).take k) (ia+k) ib:=by
 have sd:((A.drop ia).take k++(A.drop ia).drop k).Pairwise (f · <=f ·):=by rw[AZ];exact sa.sublist (E6 _ _)
 rw[ve] at sd
 have e:A.take (ia+k)=A.take ia++(A.drop ia).take k:=List.take_add
 have mT:∀p∈(A.drop ia).take k,p∈A.drop ia:=λp hp=>(Am _ _).mem hp
 have mD:∀p∈(A.drop ia).drop k,p∈A.drop ia:=λp hp=>(E6 _ _).mem hp
 refine⟨?_,?_,?_,?_⟩
 ·rw[e]
  refine(h.pm.append_right _).trans ?_
  rw[n_,n_]
  exact List.perm_append_comm.append_left _
 ·rw[ve]
  exact⟨h.so,sd.1,λp hp q hq=>h.la p hp q (mT q hq)⟩
 ·intro p hp q hq
  rw[<-List.drop_drop] at hq
  rcases List.mem_append.mp hp with z | z
  ·exact h.la p z q (mD q hq)
  ·exact sd.2.2 p z q hq
 ·intro p hp q hq
  rcases List.mem_append.mp hp with z | z
  ·exact h.lb p z q hq
  ·exact hk p z q hq
theorem Mg.N9{out:List α}{ia ib:Nat}(h:Mg f A B out ia ib)(sb:B.Pairwise (f · <=f ·))(k:Nat)(hk:∀q∈(B.drop ib).take k,∀p∈A.drop ia,f q<=f p):Mg f A B (out++(B.drop ib).take k) ia (ib+k) :=
 (h.swap.E5 sb k hk).swap
theorem Mg.fin{out:List α}{ia ib:Nat}(h:Mg f A B out ia ib)(sa:A.Pairwise (f · <=f ·))(sb:B.Pairwise (f · <=f ·))(hk:∀p∈A.drop ia,∀q∈B.drop ib,f p<=f q):(out++A.drop ia++B.drop ib).Perm (A++B)/\(out++A.drop ia++B.drop ib).Pairwise (f · <=f ·):=by
 have tA:(A.drop ia).take A.length=A.drop ia:=qg (by rw[p5];exact Nat.sub_le _ _)
 have tB:(B.drop ib).take B.length=B.drop ib:=qg (by rw[p5];exact Nat.sub_le _ _)
 have h1:=h.E5 sa A.length (by rw[tA];exact hk)
 have nA:A.drop (ia+A.length)=[]:=E7 (by exact A0 _ _)
 have h2:=h1.N9 sb B.length (by rw[nA];intro _ _ _ z;cases z)
 rw[tA,tB] at h2
 have k1:A.take (ia+A.length)=A:=qg (by exact A0 _ _)
 have k2:B.take (ib+B.length)=B:=qg (by exact A0 _ _)
 have pm:=h2.pm
 rw[k1,k2] at pm
 exact⟨pm,h2.so⟩
end
abbrev Vr(st:afZ)(g:Nat):afZ:=SortSt.mk' (kindOf st) (arrOf st) (pendingOf st) g (failedOf st)
def Up(l:List afY):Prop:=l.Pairwise (kn · <=kn ·)
def Fin'(a b:List afY)(r:Array afY):Prop:=r.toList.Perm (a++b)/\Up r.toList
theorem TJ{a:Array afY}{i:Nat}{p:afY}(e:a[i]? =some p):K a i=kn p:=by unfold K;rw[e];rfl
section
variable {prog:afA} {w:afD} {A:afx} {E:afC->afB->Prop} {s:afB}
structure Lo(a b out:Array afY)(ia ib:Nat):Prop where
 mg:Mg kn a.toList b.toList out.toList ia ib
 ha:ia+1 < a.size
 hb:ib < b.size
abbrev LoC:=Option (Array afY)×Array afY×Nat×Nat×Nat×Nat×Nat
def LoQ(a b:Array afY)(st:afZ)(n:Nat)(r:ForInStep LoC)(st':afZ):Prop :=
 (∃g,st'=Vr st g)/\match r with
 | .done c=>(∃r t,c=(some r,t)/\Fin' a.toList b.toList r)\/∃out ia ib mg ac bc,c=(none,out,ia,ib,mg,ac,bc)/\n<=ia+ib/\Lo a b out ia ib
 | .yield c=>∃out ia ib mg ac bc,c=(none,out,ia,ib,mg,ac,bc)/\n<=ia+ib/\Lo a b out ia ib
theorem LoQ.fin{a b:Array afY}{st:afZ}{n g:Nat}{r:Array afY}{t:Array afY×Nat×Nat×Nat×Nat×Nat}(h:Fin' a.toList b.toList r):LoQ a b st n (.done (some r,t)) (Vr st g):=⟨⟨g,rfl⟩,.inl ⟨r,t,rfl,h⟩⟩
end
section
variable {α:Type} {f:α->Int} {A B:List α}
structure Mh(f:α->Int)(A B R:List α)(na nb:Nat):Prop where
 pm:R.Perm (A.drop na++B.drop nb)
 so:R.Pairwise (f · <=f ·)
 la:∀q∈A.take na,∀p∈R,f q<=f p
 lb:∀q∈B.take nb,∀p∈R,f q<=f p
theorem Mh.swap{R:List α}{na nb:Nat}(h:Mh f A B R na nb):Mh f B A R nb na:=⟨h.pm.trans JD,h.so,h.lb,h.la⟩
theorem take_take{i n:Nat}(h:i<=n):A.take n=A.take i++(A.take n).drop i:=by
 have:=AZ i (A.take n)
 rw[List.take_take,Nat.min_eq_left h] at this
 exact this.symm
theorem drop_take{i n:Nat}(h:i<=n):A.drop i=(A.take n).drop i++A.drop n:=by
 have h1:=AZ n A
 have h2:=congrArg (List.drop i) h1
 rw[List.drop_append] at h2
 rw[<-h2]
 by_cases c:n<=A.length
 ·rw[kZ,Nat.min_eq_left c,JF h,jk]
 ·rw[E7 (show A.length<=n by exact Nat.le_of_not_le ‹_›),List.drop_nil]
theorem Mh.E5{R:List α}{na nb:Nat}(h:Mh f A B R na nb)(sa:A.Pairwise (f · <=f ·))(k:Nat)(k1:k<=na)(hk:∀p∈(A.take na).drop k,∀q∈B.take nb,f q<=f p):Mh f A B ((A.take na).drop k++R) k nb:=by
 have e:=take_take (A:=A) k1
 have st:(A.take na).Pairwise (f · <=f ·):=sa.sublist (Am _ _)
 rw[e,ve] at st
 have mT:∀p∈(A.take na).drop k,p∈A.take na:=λp hp=>(E6 _ _).mem hp
 have mD:∀p∈A.take k,p∈A.take na:=λp hp=>by rw[e];exact mU _ hp
 refine⟨?_,?_,?_,?_⟩
 ·rw[drop_take (A:=A) k1,n_]
  exact h.pm.append_left _
 ·rw[ve]
  exact⟨st.2.1,h.so,λp hp q hq=>h.la p (mT p hp) q hq⟩
 ·intro q hq p hp
  rcases List.mem_append.mp hp with z | z
  ·exact st.2.2 q hq p z
  ·exact h.la q (mD q hq) p z
 ·intro q hq p hp
  rcases List.mem_append.mp hp with z | z
  ·exact hk p z q hq
  ·exact h.lb q hq p z
theorem Mh.N9{R:List α}{na nb:Nat}(h:Mh f A B R na nb)(sb:B.Pairwise (f · <=f ·))(k:Nat)(k1:k<=nb)(hk:∀p∈(B.take nb).drop k,∀q∈A.take na,f q<=f p):Mh f A B ((B.take nb).drop k++R) na k :=
 (h.swap.E5 sb k k1 hk).swap
theorem Mh.fin{R:List α}{na nb:Nat}(h:Mh f A B R na nb)(sa:A.Pairwise (f · <=f ·))(sb:B.Pairwise (f · <=f ·))(hk:∀p∈B.take nb,∀q∈A.take na,f q<=f p):(A.take na++B.take nb++R).Perm (A++B)/\(A.take na++B.take nb++R).Pairwise (f · <=f ·):=by
 have h1:=h.N9 sb 0 (bG _) (by rw[jk];exact hk)
 have h2:=h1.E5 sa 0 (bG _) (by intro _ _ _ z;cases z)
 have pm:=h2.pm
 have so:=h2.so
 rw[jk,jk,<-n_] at so
 rw[jk,jk,jk,jk,<-n_] at pm
 exact⟨pm,so⟩
end
theorem A1{a:Array afY}(i n:Nat):(a.extract i n).toList=(a.toList.take n).drop i:=by
 rw[Array.toList_extract,List.extract_eq_take_drop,List.drop_take]
abbrev MhO(a b out:Array afY)(na nb:Nat):Prop:=Mh kn a.toList b.toList out.toList.reverse na nb
structure Hi(a b out:Array afY)(na nb:Nat):Prop where
 mg:MhO a b out na nb
 a0:1<=na
 a1:na<=a.size
 b0:2<=nb
 b1:nb<=b.size
section
variable {prog:afA} {w:afD} {A:afx} {E:afC->afB->Prop} {s:afB}
abbrev HiC:=Option (Array afY)×Nat×Nat×Array afY×Nat×Nat×Nat
def HiQ(a b:Array afY)(st:afZ)(n:Nat)(r:ForInStep HiC)(st':afZ):Prop :=
 (∃g,st'=Vr st g)/\match r with
 | .done c=>(∃r t,c=(some r,t)/\Fin' a.toList b.toList r)\/∃na nb out mg ac bc,c=(none,na,nb,out,mg,ac,bc)/\na+nb<=n/\Hi a b out na nb
 | .yield c=>∃na nb out mg ac bc,c=(none,na,nb,out,mg,ac,bc)/\na+nb<=n/\Hi a b out na nb
theorem HiQ.fin{a b:Array afY}{st:afZ}{n g:Nat}{r:Array afY}{t:Nat×Nat×Array afY×Nat×Nat×Nat}(h:Fin' a.toList b.toList r):HiQ a b st n (.done (some r,t)) (Vr st g):=⟨⟨g,rfl⟩,.inl ⟨r,t,rfl,h⟩⟩
end
section
variable {prog:afA} {w:afD} {A₀:afx} {E:afC->afB->Prop} {s:afB}
end
def Sm(lo:Nat)(xs ys:Array afY):Prop:=ys.Perm xs/\∀i,i < lo->ys[i]? =xs[i]?
theorem Sm.refl{lo:Nat}{xs:Array afY}:Sm lo xs xs:=⟨.refl _,λ_ _=>rfl⟩
theorem Sm.trans{lo:Nat}{xs ys zs:Array afY}(h1:Sm lo xs ys)(h2:Sm lo ys zs):Sm lo xs zs:=⟨h2.1.trans h1.1,λi hi=>(h2.2 i hi).trans (h1.2 i hi)⟩
theorem Sm.size{lo:Nat}{xs ys:Array afY}(h:Sm lo xs ys):ys.size=xs.size:=h.1.size_eq
theorem Sm.mirror{lo i j:Nat}{xs:Array afY}(h:lo<=i)(hj:j<=xs.size):Sm lo xs (mirror xs i j ((j - i) / 2)) :=
 ⟨mirror_perm _ _ _ _,λk hk=>by rw[getElem?_mirror_all hj,if_neg (by omega)]⟩
def JG(xs:Array afY)(lo n:Nat):Prop:=∀i j,i<=j->j < n->K xs (lo+i)<=K xs (lo+j)
def Vs(xs:Array afY)(lo n:Nat):Prop:=∀i j,i<=j->j < n->K xs (lo+j)<=K xs (lo+i)
theorem JG.step{xs:Array afY}{lo n:Nat}(h:JG xs lo n)(h1:1<=n)(c:¬K xs (lo+n) < K xs (lo+n - 1)):JG xs lo (n+1):=λi j hij hj=>by
 by_cases z:j < n
 ·exact h i j hij z
 ·have:j=n:=by omega
  subst this
  by_cases y:i=j
  ·subst y;exact yS _
  ·have:=h i (j - 1) (by omega) (by omega)
   rw[show lo+(j - 1)=lo+j - 1 by omega] at this
   omega
theorem Vs.step{xs:Array afY}{lo n:Nat}(h:Vs xs lo n)(h1:1<=n)(c:K xs (lo+n)<=K xs (lo+n - 1)):Vs xs lo (n+1):=λi j hij hj=>by
 by_cases z:j < n
 ·exact h i j hij z
 ·have:j=n:=by omega
  subst this
  by_cases y:i=j
  ·subst y;exact yS _
  ·have:=h i (j - 1) (by omega) (by omega)
   rw[show lo+(j - 1)=lo+j - 1 by omega] at this
   exact yJ ‹_› ‹_›
theorem JG.one{xs:Array afY}{lo:Nat}:JG xs lo 1:=λi j h1 h2=>by
 have:i=j:=by omega
 subst this;exact yS _
theorem JG.turn{xs:Array afY}{lo n:Nat}(h:Vs xs lo n)(hn:lo+n<=xs.size):JG (mirror xs lo (lo+n) ((lo+n - lo) / 2)) lo n:=λi j h1 h2=>by
 rw[K_mirror hn,K_mirror hn,if_pos (by omega),if_pos (by omega)]
 have:=h (n - 1 - j) (n - 1 - i) (by omega) (by omega)
 rw[show lo+(lo+n) - 1 - (lo+i)=lo+(n - 1 - i) by omega,show lo+(lo+n) - 1 - (lo+j)=lo+(n - 1 - j) by omega]
 exact this
section
variable {prog:afA} {w:afD} {A:afx} {E:afC->afB->Prop} {s:afB} {P:Array (Nat×Nat×Nat)} {g:Nat}
end
section
variable {prog:afA} {w:afD} {A:afx} {E:afC->afB->Prop} {s:afB} {P:Array (Nat×Nat×Nat)} {g:Nat}
end
inductive Rn:Nat->List (Nat×Nat×Nat)->List afY->Prop
 | nil {s:Nat}:Rn s [] []
 | cons {s n p:Nat} {P:List (Nat×Nat×Nat)} {A X:List afY}:A.length=n->1<=n->Up A->Rn (s+n) P X->Rn s ((s,n,p)::P) (A++X)
theorem Rn.split:∀{pre r:List (Nat×Nat×Nat)}{s:Nat}{X:List afY},Rn s (pre++r) X->∃X1 X2,X=X1++X2/\Rn s pre X1/\Rn (s+X1.length) r X2
 | [],r,s,X,h=>⟨[],X,rfl,.nil,h⟩
 | a::pre,r,s,X,h=>by
  cases h with
  | cons h1 h2 h3 h4=>
   obtain⟨X1,X2,rfl,k1,k2⟩:=h4.split
   refine⟨_++X1,X2,(n_ _ _ _).symm,.cons h1 h2 h3 k1,?_⟩
   rw[bZ,h1,<-Nat.add_assoc]
   exact k2
theorem Rn.len:∀{P:List (Nat×Nat×Nat)}{s:Nat}{X:List afY},Rn s P X->P.length<=X.length
 | [],s,X,h=>bG _
 | a::P,s,X,h=>by
  cases h with
  | cons h1 h2 h3 h4=>
   have:=h4.len
   rw[bZ,p_]
   omega
theorem Rn.few{P:List (Nat×Nat×Nat)}{s:Nat}{X:List afY}(h:Rn s P X)(l:P.length<=1):Up X:=by
 cases h with
 | nil=>exact .nil
 | cons h1 h2 h3 h4=>
  cases h4 with
  | nil=>rw[fk];exact h3
  | cons _ _ _ _=>simp at l
section
variable {prog:afA} {w:afD} {A₀:afx} {E:afC->afB->Prop} {s:afB}
end
section
variable {prog:afA} {w:afD} {A₀:afx} {E:afC->afB->Prop} {s:afB}
theorem JG.up{zs:Array afY}{lo n:Nat}(as:JG zs lo n)(h:lo+n<=zs.size):Up ((zs.toList.drop lo).take n):=by
 unfold Up
 rw[List.pairwise_iff_getElem]
 intro i j hi hj hij
 rw[kZ,p5] at hi hj
 have hz:zs.toList.length=zs.size:=rfl
 have:=as i j (by exact mS ‹_›) (by omega)
 rw[TJ (TK (by omega)),TJ (TK (by omega))] at this
 simpa using this
end
section
variable {prog:afA} {w:afD} {A:afx} {E:afC->afB->Prop} {s:afB}
end
end JL
namespace J
open PySem PySem.Spec PyProof.Rows L2
section
variable {X:Cx}
def intsOf:List Wv->Option (List Int)
  | []=>some []
  | .int b::r=>(match intsOf r with | some l=>some (b::l) | none=>none)
  | _=>none
theorem qW:∀ns:List Int,intsOf (ns.map Wv.int)=some ns
  | []=>rfl
  | n::r=>by rw[aK];unfold intsOf;rw[qW r]
theorem qX{K:PySem.W.Frag}{m:Mp}{H:Hp}:∀{ws:List Wv}{xs:List V}{bs:List Int},ah K m H ws xs->intsOf ws=some bs->xs=bs.map V.int
  | [],xs,bs,r,h=>by
    unfold ah at r
    cases h
    exact r
  | w::ws,xs,bs,r,h=>by
    unfold ah at r
    obtain⟨x,t,rfl,r1,r2⟩:=r
    cases w with
    | int b=>
      unfold intsOf at h
      cases e:intsOf ws with
      | none=>rw[e] at h;cases h
      | some l=>
        rw[e] at h
        cases h
        unfold ag at r1
        rw[r1,qX r2 e]
        rfl
    | _=>cases h
theorem xb:∀{ns:List Int}{its:List afC},Vals (ns.map V.int) its->∃xs:List (Int×Tok),its=xs.map (λp=>pY p.1 p.2)/\xs.map (·.1)=ns
  | [],its,r=>by cases r;exact⟨[],rfl,rfl⟩
  | n::ns,its,r=>by
    cases r with
    | cons h t=>
      obtain⟨tk,rfl⟩:=h
      obtain⟨xs,e1,e2⟩:=xb t
      exact⟨(n,tk)::xs,by rw[e1];rfl,by rw[<-e2];rfl⟩
theorem Cr(xs:List (Int×Tok))(i:Nat):numAt xs.toArray i=(xs.map (·.1)).getD i 0:=by
  unfold numAt
  rw[List.getElem?_toArray,N_,iF]
theorem qY(xs:List (Int×Tok)):∀k,preSum (numAt xs.toArray) k=((xs.map (·.1)).take k).sum
  | 0=>by simp[preSum]
  | k+1=>by
    unfold preSum
    rw[qY xs k,Cr]
    rw[PySem.sum_take_succ]
theorem Cs(hc:X.calm=true):fN X (.builtin "sum") (λxs H Q=>∃(p:afw)(ns:List Int),xs=[.ref p]/\jT X.K H p (ns.map V.int)/\Q (.int ns.sum) H):=by
  intro pins s σ H xs us Q I r h
  obtain⟨p,ns,rfl,hq,q⟩:=h
  obtain⟨u,rfl,rx⟩:=vals1 r
  cases rx
  obtain⟨its,r',pl,hz⟩:=I.list hq
  obtain⟨xs,rfl,rfl⟩:=xb r'
  have hl:=pl.isList
  have e:(xs.map λp=>pY p.1 p.2).toArray=intItems xs.toArray:=by unfold intItems;simp
  rw[e] at hl
  refine sum_intListG (I.ok.hd hc) hl λh' tk t' hk=>⟨.int _,H,I.kept hk,⟨t',?_⟩,q⟩
  rw[qY,qg (by simp)]
def E8:List Wv->Hs->Re Wv
  | [.ref l],st=>match aq st l with
    | some ws=>(match intsOf ws with | some ns=> .ok (.int ns.sum) st | none=> .bad)
    | none=> .bad
  | _,_=> .bad
theorem Oa(hc:X.calm=true):fO X (.builtin "sum") E8:=⟨_,Cs hc,λws vs st H m Q S rs p=>by
  match ws,rs,p with
  | [],rs,p=>exact ae p
  | x::y::t,rs,p=>cases x<;>exact ae p
  | [x],rs,p=>
    obtain⟨v,rfl,r1⟩:=qN rs
    cases x with
    | ref l=>
      unfold E8 at p
      unfold ag at r1
      obtain⟨a,rfl,hl⟩:=r1
      cases e:aq st l with
      | none=>simp only[e] at p;exact ae p
      | some ws=>
        simp only[e] at p
        cases e2:intsOf ws with
        | none=>simp only[e2] at p;exact ae p
        | some bs=>
          simp only[e2] at p
          obtain⟨xs,q1,q2⟩:=S.read hl e
          have q3:=qX q2 e2
          subst q3
          exact⟨a,bs,rfl,q1,p _ m H Ext.refl S mkInt⟩
    | _=>exact ae p⟩
def mxI(n:Int)(r:List Int):Int:=r.foldl (λa b=>if b > a then b else a) n
def TL:List Wv->Hs->Re Wv
  | [.ref l],st=>match aq st l with
    | some ws=>(match intsOf ws with | some (n::r)=> .ok (.int (mxI n r)) st | _=> .bad)
    | none=> .bad
  | ws,st=>WU ws st
def TM:List Wv->Hs->Re Wv:=λws st=>WV ws st
theorem fO.or{f:afC}{op op':List Wv->Hs->Re Wv}(g:List Wv->Hs->Re Wv)(h:fO X f op)(h':fO X f op')(k:∀ws st,g ws st=op ws st\/g ws st=op' ws st):fO X f g:=by
  obtain⟨r,h1,h2⟩:=h
  obtain⟨r',Ia,h2'⟩:=h'
  refine⟨_,h1.or Ia,λws vs st H m Q S rs p=>?_⟩
  rcases k ws st with e | e
  · rw[e] at p;exact .inl (h2 ws vs st H m Q S rs p)
  · rw[e] at p;exact .inr (h2' ws vs st H m Q S rs p)
end
section
variable {X:Cx}
theorem tW{z:PySem.Str}:bg z=true↔∀c∈z.cps.toList,c < 1114112:=by
 unfold bg
 rw[SV]
 constructor
 ·intro h c hc
  simpa using h c (Array.mem_toList_iff.mp hc)
 ·intro h c hc
  simpa using h c (Array.mem_toList_iff.mpr hc)
end
section
variable {X:Cx}
theorem Oc:H_ X (λx lo hi H Q=>∃z,x= .str z/\z.length<=afN/\Q (.str (lC z lo hi)) H):=by
 intro pins s σ H x v vl vu lo hi sl Q I rx hs pl pu h
 obtain⟨z,rfl,hz,q⟩:=h
 obtain⟨t,rfl⟩:=rx
 have fin:∀t' k,EP X pins σ Q (.str (lC z lo hi) t') { s with toks:=k }:=λt' k=>⟨.str _,H,I.tok k,⟨t',rfl⟩,q⟩
 refine⟨"str",_,PySem.F.slot_str_getitem.lookup,typeIs_str _ _ _,?_⟩
 have hl:=bu (Txt.slice_le z lo hi) hz
 cases pl with
 | none=>
  cases pu with
  | none=>exact wpAny_getItem_str_slice (l:=none) (u:=none) (st:=none) hs rfl (post_val_or_str ⟨hl,fin⟩)
  | int j tj=>exact wpAny_getItem_str_slice (l:=none) (u:=some (j,tj)) (st:=none) hs rfl (post_val_or_str ⟨hl,fin⟩)
 | int i ti=>
  cases pu with
  | none=>exact wpAny_getItem_str_slice (l:=some (i,ti)) (u:=none) (st:=none) hs rfl (post_val_or_str ⟨hl,fin⟩)
  | int j tj=>exact wpAny_getItem_str_slice (l:=some (i,ti)) (u:=some (j,tj)) (st:=none) hs rfl (post_val_or_str ⟨hl,fin⟩)
theorem Cu{z:PySem.Str}{lo hi:Option Int}{c:Nat}(h:c∈(lC z lo hi).cps.toList):c∈z.cps.toList:=by
 unfold lC at h
 split at h
 ·exact h
 ·simp only[List.mem_filterMap] at h
  obtain⟨i,_,e⟩:=h
  rw[Array.getElem?_eq_some_iff] at e
  obtain⟨hi,rfl⟩:=e
  exact Array.mem_toList_iff.mpr (Array.getElem_mem hi)
theorem xc{z:PySem.Str}{lo hi:Option Int}(h:bg z=true):bg (lC z lo hi)=true:=by
 rw[tW] at h ⊢
 exact λc hc=>h c (Cu hc)
end
section
open HT
theorem sG{prog:afA}{w:afD}{A:afx}{E:afC->afB->Prop}{s:afB}{t sl:afw}{us:Array afC}{vl vu:afC}{lo hi:Option Int}{Q:afC->afB->Prop}(ht:IsTup s.heap t us)(hs:s.heap.IsSliceOf sl vl vu .none)(pl:IsPart vl lo)(pu:IsPart vu hi)
  (hw:dF us.size 0 lo=0/\dF us.size us.size hi=us.size)(h:Q (.ref t) s):afP (model prog w) A (getItem (.ref t) (.ref sl)) Q E s:=by
 obtain⟨os,o1,o2,o3⟩:=id hs
 have tys:s.TypeIs (.ref sl) "slice":=⟨os,o1,o2⟩
 unfold getItem;try with_reducible refine afS ?_
 first | refine afQ (afW ?_) | skip
 refine afQ (wpAny_sequenceKey ht.typeIs (by decide) ?_);refine afQ (wpAny_callSpecial?_slot (name:=hV "__getitem__") ht.typeIs uI (wpAny_call_entry uI ht.typeIs entry_tuple_getitem ?_ (args_tuple_getitem _ _)))
 show afP _ _ (MY (.ref t) >>= _) _ _ _;refine afQ (tupleItemsOf_ ht ?_);refine afQ (wpAny_typeOf tys ?_)
 rw[if_pos (by decide)];refine afQ (iT hs pl pu ?_)
 rw[hw.1,hw.2]
 have yes:((((0:Nat):Int)) == 0&&(1:Int) == 1&&(us.size - 0) == us.size)=true:=by simp
 show afP _ _ (if((((0:Nat):Int)) == 0&&(1:Int) == 1&&(us.size - 0) == us.size)=true then _ else _) _ _ s
 rw[if_pos yes]
 refine afQ (m:=Od _) ?_
 unfold Od
 refine afQ (wpAny_typeOf ht.typeIs (afW ?_))
 rw[if_pos (by decide)]
 exact afQ (wpAny_rule (afW ⟨_,rfl,afW h⟩))
end
section
variable {X:Cx}
def Xb(K:PySem.W.Frag):V->Option Int->Option Int->Hp->VK->Prop:=λx lo hi H Q=>∃a xs,x= .ref a/\eF K H a xs/\(HT.dF xs.length 0 lo=0/\HT.dF xs.length xs.length hi=xs.length)/\Q (.ref a) H
theorem E9:H_ X (Xb X.K):=by
 intro pins s σ H x v vl vu lo hi sl Q I rx hs pl pu h
 obtain⟨a,xs,rfl,hx,hw,q⟩:=h
 cases rx
 obtain⟨its,r,ht,hz⟩:=I.tuple hx
 have n:its.toArray.size=xs.length:=by rw[aT];exact r.length.symm
 exact⟨"tuple",_,PyProof.Rows.slot_tuple_getitem.lookup,ht.typeIs,sG ht hs pl pu (by rw[n];exact hw) ⟨.ref a,H,I,rfl,q⟩⟩
def eL(n:Nat)(lo hi:Option Int):Prop:=HT.dF n 0 lo=0/\HT.dF n n hi=n
instance {n:Nat}{lo hi:Option Int}:Decidable (eL n lo hi):=inferInstanceAs (Decidable (HT.dF n 0 lo=0/\HT.dF n n hi=n))
def Cv(x:Wv)(lo hi:Option Int)(st:Hs):Re Wv:=match x with
 | .str z=>if z.length<=lim then .ok (.str (lC z lo hi)) st else .bad
 | .tup ws=>if eL ws.length lo hi then .ok (.tup ws) st else Q8 (.tup ws) lo hi st
 | x=>Q8 x lo hi st
def ic(ga:GE)(gl gh:GO):GE:=λρ st=>(ga ρ st).bind λx st1=>(gl ρ st1).bind λlo st2=>(gh ρ st2).bind λhi st3=>Cv x lo hi st3
theorem Cw{a:Expr}{lo hi:Option Expr}{ga:GE}{gl gh:GO}{pos p2:Pos}(ha:JE X a ga)(hl:JO X lo gl)(hh:JO X hi gh):JE X (.Subscript a (.Slice lo hi none p2) pos) (ic ga gl gh):=by
 have hS:JE X (.Subscript a (.Slice lo hi none p2) pos) (λρ st=>(ga ρ st).bind λx st1=>(gl ρ st1).bind λlo st2=>(gh ρ st2).bind λhi st3=>match x with | .str z=>if z.length<=lim then .ok (.str (lC z lo hi)) st3 else .bad | _=> .bad):=by
  refine JE.of (qC Oc aM tK tK) λρ st σ H m Q S R p=>?_
  refine ha.go S R (ax.bind p) λx st1 v m1 H1 p1 e1 S1 rx=>?_
  refine hl.go S1 (R.mono e1) ((ax.bind p1).imp e1 λ_ _ q=>q) λl st2 m2 H2 p2 e2 S2=>?_
  refine hh.go S2 (R.mono (e1.trans e2)) ((ax.bind p2).imp (e1.trans e2) λ_ _ q=>q) λh st3 m3 H3 p3 e3 S3=>?_
  have yG:=e1.trans (e2.trans e3)
  cases x with
  | str z=>
   dsimp only at p3
   by_cases c:z.length<=lim
   ·rw[if_pos c] at p3
    unfold ag at rx
    obtain⟨rfl,hz⟩:=rx
    exact⟨z,rfl,dZ c,p3 _ m3 H3 yG S3 (mkStr (xc hz))⟩
   ·rw[if_neg c] at p3;exact ae p3
  | _=>exact ae p3
 have hW:JE X (.Subscript a (.Slice lo hi none p2) pos) (λρ st=>(ga ρ st).bind λx st1=>(gl ρ st1).bind λlo st2=>(gh ρ st2).bind λhi st3=>match x with | .tup ws=>if eL ws.length lo hi then .ok (.tup ws) st3 else Q8 (.tup ws) lo hi st3 | _=> .bad):=by
  refine JE.of (qC (H_.or E9 DU) aM tK tK) λρ st σ H m Q S R p=>?_
  refine ha.go S R (ax.bind p) λx st1 v m1 H1 p1 e1 S1 rx=>?_
  refine hl.go S1 (R.mono e1) ((ax.bind p1).imp e1 λ_ _ q=>q) λl st2 m2 H2 p2 e2 S2=>?_
  refine hh.go S2 (R.mono (e1.trans e2)) ((ax.bind p2).imp (e1.trans e2) λ_ _ q=>q) λh st3 m3 H3 p3 e3 S3=>?_
  have yG:=e1.trans (e2.trans e3)
  cases x with
  | tup ws=>
   dsimp only at p3
   have pO:=ag.mono (e2.trans e3) _ _ rx
   unfold ag at pO
   obtain⟨a',xs,rfl,f1,f2⟩:=pO
   by_cases c:eL ws.length l h
   ·rw[if_pos c] at p3
    unfold eL at c
    rw[f2.length] at c
    exact .inl ⟨a',xs,rfl,eF.of f1,c,p3 _ m3 H3 yG S3 (by unfold ag;exact⟨a',xs,rfl,f1,f2⟩)⟩
   ·rw[if_neg c] at p3
    unfold Q8 at p3
    dsimp only at p3
    unfold eL at c
    rw[if_neg c] at p3
    rw[f2.length] at c
    refine .inr ⟨a',xs,rfl,eF.of f1,c,λq hq=>?_⟩
    have eU:Ext X.K m3 H3 m3 (L2.upd H3 q (.tup (sy xs l h))):=Ext.jP (.inl hq)
    exact p3 (.ref q) m3 _ (yG.trans eU) (S3.fresh hq) (by unfold ag;exact⟨q,_,rfl,L2.aJ,ah.mono eU _ _ (u0 f2)⟩)
  | _=>exact ae p3
 intro ρ st σ H m Q S R p
 unfold ic at p
 cases e1:ga ρ st with
 | bad=>rw[e1] at p;exact ae p
 | err c st1=>rw[e1] at p;exact wJ ha hl hh ρ st σ H m Q S R (by unfold yF;rw[e1];exact p)
 | ok x st1=>
  rw[e1] at p
  cases x with
  | str z=>exact hS ρ st σ H m Q S R (by dsimp only;rw[e1];exact p)
  | tup ws=>exact hW ρ st σ H m Q S R (by dsimp only;rw[e1];exact p)
  | _=>exact wJ ha hl hh ρ st σ H m Q S R (by unfold yF;rw[e1];exact p)
def Cy:gA
 | .str i,.str j,st=> .ok (.bl (!(yh j i 0 j.length 1).isEmpty)) st
 | x,y,st=>WK x y st
def vf:gA
 | .str i,.str j,st=> .ok (.bl (!(!(yh j i 0 j.length 1).isEmpty))) st
 | x,y,st=>yE x y st
theorem Oe:lq X (afJ .In) Cy:=by
 obtain⟨r,h1,h2⟩:=SU (X:=X)
 refine⟨_,fD.or BX h1,λx y a b st H m Q S rx ry p=>?_⟩
 unfold Cy at p
 split at p
 ·rename_i i j
  unfold ag at rx ry
  obtain⟨rfl,_⟩:=rx
  obtain⟨rfl,_⟩:=ry
  exact .inl ⟨i,j,rfl,rfl,p _ m H Ext.refl S jh⟩
 ·exact .inr (h2 x y a b st H m Q S rx ry p)
theorem Cz:lq X (afJ .NotIn) vf:=by
 obtain⟨r,h1,h2⟩:=En (X:=X)
 refine⟨_,fD.or uM h1,λx y a b st H m Q S rx ry p=>?_⟩
 unfold vf at p
 split at p
 ·rename_i i j
  unfold ag at rx ry
  obtain⟨rfl,_⟩:=rx
  obtain⟨rfl,_⟩:=ry
  exact .inl ⟨i,j,rfl,rfl,p _ m H Ext.refl S jh⟩
 ·exact .inr (h2 x y a b st H m Q S rx ry p)
end
open PySem PySem.Spec PyProof.Rows L2 PySem.W
section
variable {X:Cx}
end
section
variable {X:Cx}
end
section
variable {X:Cx}
end
def TN(x:Str):It:=⟨λi _=>i < x.cps.size,λi H v H'=>H'=H/\∃c,x.cps[i]? =some c/\v= .str ⟨#[c]⟩,λi _=>x.cps.size<=i⟩
theorem yT{P:afA}{w:afD}{K:PySem.W.Frag}{tg:Expr}(x:Str)(t:Tok)(it:afw):Turn P w K tg (TN x) [it] it (λi h=>h.IsStrIter it "str_ascii_iterator" x t i) where
 mem:=List.mem_singleton.mpr rfl
 obj:=λi h st b hb=>by
  cases List.mem_singleton.mp hb
  obtain⟨o,e,c,d⟩:=st
  exact⟨o,e,λv z=>by rw[d] at z;cases z⟩
 keep:=λi h h' st k=>let ⟨o,e,r⟩:=st;⟨o,k it (List.mem_singleton.mpr rfl) o e,r⟩
 item:=by
  intro X hP hw hK hc i pins s σ H E I hf st hg
  subst hP;subst hw;subst hK
  obtain⟨f0,f1,f2,f3,f4,f5⟩:=hf it (List.mem_singleton.mpr rfl)
  have hi:i < x.cps.size:=hg
  refine wpAny_pyNext_ascii_item st (c:=x.cps[i]) (by simp[hi]) λh' st' sb=>?_
  have I1:L2.Inv X pins σ H { s with heap:=h',toks:=s.toks+1 }:=I.turned (t':=s.toks+1) (λb o hb e=>sb.extBut b o hb e) f0 f1 f3 f4 f5
  obtain⟨o,e,c,d⟩:=id st'
  exact⟨_,rfl,qx (s:={ s with heap:=h',toks:=s.toks+1 }) e c d (by decide) ⟨.str ⟨#[x.cps[i]]⟩,H,I1,⟨_,rfl⟩,⟨rfl,_,by simp[hi],rfl⟩,st',λb hb=>(hf b hb).1⟩⟩
 done:=by
  intro X hP hw hK hc i pins s σ H E I hf st hg
  subst hP;subst hw;subst hK
  obtain⟨f0,f1,f2,f3,f4,f5⟩:=hf it (List.mem_singleton.mpr rfl)
  have hi:x.cps.size<=i:=hg
  exact wpAny_pyNext_ascii_end (I.ok.hd hc) st (by simp[hi]) λh' eb=>⟨rfl,I.turned (t':=s.toks) (λb o hb e=>eb b o hb e) f0 f1 f3 f4 f5⟩
 self:=λ_ _ _ _ _ st h=>wpAny_pyIter_striter_ascii st h
theorem CA{P:afA}{w:afD}{K:PySem.W.Frag}{tg:Expr}(x:Str)(t:Tok)(it:afw):Turn P w K tg (TN x) [it] it (λi h=>h.IsStrIter it "str_iterator" x t i) where
 mem:=List.mem_singleton.mpr rfl
 obj:=λi h st b hb=>by
  cases List.mem_singleton.mp hb
  obtain⟨o,e,c,d⟩:=st
  exact⟨o,e,λv z=>by rw[d] at z;cases z⟩
 keep:=λi h h' st k=>let ⟨o,e,r⟩:=st;⟨o,k it (List.mem_singleton.mpr rfl) o e,r⟩
 item:=by
  intro X hP hw hK hc i pins s σ H E I hf st hg
  subst hP;subst hw;subst hK
  obtain⟨f0,f1,f2,f3,f4,f5⟩:=hf it (List.mem_singleton.mpr rfl)
  have hi:i < x.cps.size:=hg
  refine wpAny_pyNext_wide_item st (c:=x.cps[i]) (by simp[hi]) λh' st' sb=>?_
  have I1:L2.Inv X pins σ H { s with heap:=h',toks:=s.toks+1 }:=I.turned (t':=s.toks+1) (λb o hb e=>sb.extBut b o hb e) f0 f1 f3 f4 f5
  obtain⟨o,e,c,d⟩:=id st'
  exact⟨_,rfl,qx (s:={ s with heap:=h',toks:=s.toks+1 }) e c d (by decide) ⟨.str ⟨#[x.cps[i]]⟩,H,I1,⟨_,rfl⟩,⟨rfl,_,by simp[hi],rfl⟩,st',λb hb=>(hf b hb).1⟩⟩
 done:=by
  intro X hP hw hK hc i pins s σ H E I hf st hg
  subst hP;subst hw;subst hK
  obtain⟨f0,f1,f2,f3,f4,f5⟩:=hf it (List.mem_singleton.mpr rfl)
  have hi:x.cps.size<=i:=hg
  exact wpAny_pyNext_wide_end (I.ok.hd hc) st (by simp[hi]) λh' eb=>⟨rfl,I.turned (t':=s.toks) (λb o hb e=>eb b o hb e) f0 f1 f3 f4 f5⟩
 self:=λ_ _ _ _ _ st h=>wpAny_pyIter_striter_wide st h
section
variable {X:Cx}
theorem Of{tg l:Expr}{tl:TE}(hl:PE X l tl):PI X tg l (λσ H R=>tl σ H λv H1=>∃z,v= .str z/\R (TN z) H1):=by
 intro pins s σ H R I h
 refine bp (hl pins s σ H _ I h) λv s1 ⟨x,H1,I1,r1,z,e,q⟩=>?_
 subst e
 obtain⟨t,rfl⟩:=r1
 have frs:∀b∈[s1.heap.objs.size],dY X pins H1 b:=λb hb=>by
  cases List.mem_singleton.mp hb
  exact I1.sx (au _) (I1.hok.fresh (au _))
 cases ha:z.cps.all (· < 128)
 ·exact wpAny_pyIter_wide ha ⟨s1.heap.objs.size,[s1.heap.objs.size],_,_,H1,rfl,I1.kept (t':=s1.toks) λb o e=>aF _ e,CA z t _,⟨_,br _ rfl,rfl,rfl⟩,frs,q⟩
 ·exact wpAny_pyIter_ascii ha ⟨s1.heap.objs.size,[s1.heap.objs.size],_,_,H1,rfl,I1.kept (t':=s1.toks) λb o e=>aF _ e,yT z t _,⟨_,br _ rfl,rfl,rfl⟩,frs,q⟩
def iH(z:PySem.Str):List Wv:=z.cps.toList.map λc=>Wv.str ⟨#[c]⟩
def A2(w:Wv)(st:Hs):Re Wk:=match w with
 | .str z=> .ok (none,iH z) st
 | w=>N5 w st
def mq(g:GE):GI:=λρ st=>(g ρ st).bind A2
theorem Og{z:PySem.Str}{m1:Mp}{H1:Hp}(hz:bg z=true):w_ X (none,iH z) m1 H1 (TN z) where
 go:=λk H m' st _ _ _ hk=>by
  have:k < z.cps.size:=by simpa [iH] using hk
  exact this
 stop:=λk H m' st _ _ _ hk=>by
  have:k=z.cps.size:=by simpa [iH] using hk
  exact nr this.symm
 v_:=λk hk H v H' m' st _ _ _ y=>by
  obtain⟨rfl,c,hc,rfl⟩:=y
  refine⟨rfl,?_⟩
  have hk':k < z.cps.size:=by simpa [iH] using hk
  have e:∀h:k < (iH z).length,(iH z)[k]'h= .str ⟨#[z.cps[k]]⟩:=by intro h;simp[iH]
  have hc':z.cps[k]=c:=by simpa [hk'] using hc
  show ag X.K m' H' ((iH z)[k]'hk) _
  rw[e hk,hc']
  refine mkStr ?_
  rw[tW] at hz ⊢
  intro d hd
  simp at hd
  rw[hd,<-hc']
  exact hz _ (by simp)
theorem vg{tg iter:Expr}{g:GE}(h:JE X iter g):JI X tg iter (mq g):=by
 obtain⟨w1,h1,k1⟩:=N6 (tg:=tg) h
 refine⟨λσ H R=>w1 σ H R\/(SE X iter σ H λv H1=>∃z,v= .str z/\R (TN z) H1),λpins s σ H R I q=>?_,λρ st σ H m R S RR p=>?_⟩
 ·rcases q with q | q
  ·exact h1 pins s σ H R I q
  ·exact Of aM pins s σ H R I q
 ·unfold mq at p
  cases e:g ρ st with
  | bad=>rw[e] at p;exact ae p
  | err c st'=>rw[e] at p;exact .inl (k1 ρ st σ H m R S RR (by unfold E3;rw[e];exact p))
  | ok w st'=>
   rw[e] at p
   cases w with
   | str z=>
    refine .inr ?_
    refine h.go (ok:=λw st1=>w= .str z/\st1=st') S RR (by rw[e];exact⟨rfl,rfl⟩) λw st1 v m1 H1 q e1 S1 r1=>?_
    obtain⟨rfl,rfl⟩:=q
    unfold ag at r1
    obtain⟨rfl,hz⟩:=r1
    exact⟨z,rfl,p m1 H1 _ e1 S1 trivial (Og hz)⟩
   | _=>exact .inl (k1 ρ st σ H m R S RR (by unfold E3;rw[e];exact p))
def nE:List Wv->Hs->Re Wv:=λws st=>To ws st
theorem JH:fO X (.type "int") nE:=NX
end
section
variable {X:Cx}
end
def keyOf:Wv->Option L2.Key
 | .int i=>some (.inl i)
 | .str x=>some (.inr x)
 | _=>none
theorem lD{K:PySem.W.Frag}{m:Mp}{H:Hp}{w:Wv}{v:V}{k:L2.Key}(r:ag K m H w v)(e:keyOf w=some k):v=kV k:=by
 cases w with
 | int i=>cases e;unfold ag at r;rw[r];rfl
 | str x=>cases e;unfold ag at r;rw[r.1];rfl
 | _=>cases e
def cW{κ:Type}[DecidableEq κ](kvs:List (κ×Wv))(k:κ):Option Wv:=match kvs with
 | []=>none
 | p::r=>if p.1=k then some p.2 else cW r k
def oB{κ:Type}[DecidableEq κ](kvs:List (κ×Wv))(k:κ)(v:Wv):List (κ×Wv):=if(kvs.any λkv=>decide (kv.1=k))=true then kvs.map (λkv=>if kv.1=k then(kv.1,v) else kv) else kvs++[(k,v)]
def Oh(kvs more:List (L2.Key×Wv)):List (L2.Key×Wv):=more.foldl (λacc kv=>oB acc kv.1 kv.2) kvs
section
variable {K:PySem.W.Frag} {m:Mp} {H:Hp} {κ:Type}
theorem RelK.nil:RelK (κ:=κ) K m H [] []:=⟨rfl,ah.nil⟩
theorem RelK.cons{k:κ}{w:Wv}{v:V}{kvs:List (κ×Wv)}{xs:List (κ×V)}(h:ag K m H w v)(t:RelK K m H kvs xs):RelK K m H ((k,w)::kvs) ((k,v)::xs) :=
 ⟨by simp[t.1],by simpa using ah.cons h t.2⟩
theorem RelK.nil_inv{xs:List (κ×V)}(h:RelK K m H [] xs):xs=[]:=by
 have:=h.1
 cases xs with
 | nil=>rfl
 | cons a b=>simp at this
theorem RelK.cons_inv{p:κ×Wv}{kvs:List (κ×Wv)}{xs:List (κ×V)}(h:RelK K m H (p::kvs) xs):∃v t,xs=(p.1,v)::t/\ag K m H p.2 v/\RelK K m H kvs t:=by
 obtain⟨h1,h2⟩:=h
 cases xs with
 | nil=>simp at h1
 | cons q t=>
  simp at h1 h2
  unfold ah at h2
  obtain⟨x,r,e1,e2,e3⟩:=h2
  cases e1
  exact⟨q.2,t,by rw[h1.1],e2,h1.2,e3⟩
theorem RelK.length{kvs:List (κ×Wv)}{xs:List (κ×V)}(h:RelK K m H kvs xs):kvs.length=xs.length:=by
 have:=congrArg jf h.1
 simpa using this
variable [DecidableEq κ]
theorem RelK.val:∀{kvs:List (κ×Wv)}{xs:List (κ×V)}(k:κ),RelK K m H kvs xs->(cW kvs k=none->m7 xs k=none)/\∀w,cW kvs k=some w->∃v,m7 xs k=some v/\ag K m H w v
 | [],xs,k,h=>by
  rw[h.nil_inv]
  exact⟨λ_=>rfl,(λw e=>by cases e)⟩
 | p::r,xs,k,h=>by
  obtain⟨v,t,rfl,h1,h2⟩:=h.cons_inv
  obtain⟨i1,i2⟩:=RelK.val k h2
  unfold cW
  by_cases e:p.1=k
  ·rw[if_pos e,m8 (by exact e)]
   exact⟨(λz=>by cases z),λw z=>⟨v,rfl,by cases z;exact h1⟩⟩
  ·rw[if_neg e,m_ (by exact e)]
   exact⟨i1,i2⟩
theorem RelK.any:∀{kvs:List (κ×Wv)}{xs:List (κ×V)}(k:κ),RelK K m H kvs xs->(kvs.any λkv=>decide (kv.1=k))=xs.any λkv=>decide (kv.1=k)
 | [],xs,k,h=>by rw[h.nil_inv];rfl
 | p::r,xs,k,h=>by
  obtain⟨v,t,rfl,h1,h2⟩:=h.cons_inv
  rw[iG,iG,RelK.any k h2]
theorem RelK.repl:∀{kvs:List (κ×Wv)}{xs:List (κ×V)}(k:κ){w:Wv}{v:V},RelK K m H kvs xs->ag K m H w v->RelK K m H (kvs.map λkv=>if kv.1=k then(kv.1,w) else kv) (xs.map λkv=>if kv.1=k then(kv.1,v) else kv)
 | [],xs,k,w,v,h,r=>by rw[h.nil_inv];exact RelK.nil
 | p::kvs,xs,k,w,v,h,r=>by
  obtain⟨u,t,rfl,h1,h2⟩:=h.cons_inv
  rw[aK,aK]
  by_cases e:p.1=k
  ·rw[if_pos e,if_pos (by exact e)]
   exact RelK.cons r (RelK.repl k h2 r)
  ·rw[if_neg e,if_neg (by exact e)]
   exact RelK.cons h1 (RelK.repl k h2 r)
theorem RelK.snoc:∀{kvs:List (κ×Wv)}{xs:List (κ×V)}(k:κ){w:Wv}{v:V},RelK K m H kvs xs->ag K m H w v->RelK K m H (kvs++[(k,w)]) (xs++[(k,v)])
 | [],xs,k,w,v,h,r=>by rw[h.nil_inv];exact RelK.cons r RelK.nil
 | p::kvs,xs,k,w,v,h,r=>by
  obtain⟨u,t,rfl,h1,h2⟩:=h.cons_inv
  exact RelK.cons h1 (RelK.snoc k h2 r)
theorem RelK.put{kvs:List (κ×Wv)}{xs:List (κ×V)}(k:κ){w:Wv}{v:V}(h:RelK K m H kvs xs)(r:ag K m H w v):RelK K m H (oB kvs k w) (putK xs k v):=by
 unfold oB putK
 rw[h.any k]
 split
 ·exact h.repl k r
 ·exact h.snoc k r
end
section
variable {K:PySem.W.Frag} {m:Mp} {H:Hp}
theorem RelK.merge:∀{more:List (L2.Key×Wv)}{ms:List (L2.Key×V)}{kvs:List (L2.Key×Wv)}{xs:List (L2.Key×V)},RelK K m H kvs xs->RelK K m H more ms->RelK K m H (Oh kvs more) (Nd xs ms)
 | [],ms,kvs,xs,h,g=>by rw[g.nil_inv];exact h
 | p::more,ms,kvs,xs,h,g=>by
  obtain⟨u,t,rfl,h1,h2⟩:=g.cons_inv
  have:=RelK.merge (more:=more) (ms:=t) (kvs:=oB kvs p.1 p.2) (xs:=putK xs p.1 u) (RelK.put p.1 h h1) h2
  exact this
end
section
variable {X:Cx}
def A3(st:Hs)(l:Nat):Bool:=match st[l]? with
 | some (.dct _)=>true
 | _=>false
def E_(gd gk gx:GE):GE:=λρ st=>(gd ρ st).bind λd st1=>match d with
 | .ref l=>if A3 st1 l=true then(gk ρ st1).bind λk st2=>(gx ρ st2).bind λx st3=>(match keyOf k,st3[l]? with
  | some kk,some (.dct kvs)=> .ok ((cW kvs kk).getD x) st3
  | _,_=> .bad) else .bad
 | _=> .bad
theorem Fb{m:Mp}{st:Hs}{H:Hp}{l:Nat}{a:afw}(S:bb X.K m st H)(ha:m[l]? =some a)(h:A3 st l=true):Vg H a:=by
 unfold A3 at h
 cases e:st[l]? with
 | none=>rw[e] at h;cases h
 | some o=>
  rw[e] at h
  cases o with
  | dct kvs=>
   obtain⟨xs,e1,_⟩:=(show ∃ys,H a=some (.dK ys)/\RelK X.K m H kvs ys from S.obj _ _ _ ha e)
   exact .inl ⟨xs,.inl e1⟩
  | _=>cases h
theorem Fc{o e f:Expr}{gd gk gx:GE}{apos cpos:Pos}(hu:X.A.units+1 < cLine)(ho:JE X o gd)(he:JE X e gk)(hf:JE X f gx)(M:M2 X o "get" apos e f cpos):JE X (.Call (.Attribute o "get" apos) [e,f] [] cpos) (E_ gd gk gx) :=
 JE.of (D8 hu aM aM aM M) λρ st σ H m Q S R p=>by
  refine ho.go S R (ax.bind p) λd st1 v m1 H1 p1 e1 S1 r1=>?_
  cases d with
  | ref l=>
   dsimp only at p1
   by_cases hd:A3 st1 l=true
   ·rw[if_pos hd] at p1
    unfold ag at r1
    obtain⟨a,rfl,ha⟩:=r1
    refine⟨a,rfl,Fb S1 ha hd,?_⟩
    refine he.go S1 (R.mono e1) ((ax.bind p1).imp e1 λ_ _ q=>q) λk st2 y m2 H2 p2 e2 S2 r2=>?_
    refine hf.go S2 (R.mono (e1.trans e2)) ((ax.bind p2).imp (e1.trans e2) λ_ _ q=>q) λx st3 z m3 H3 p3 e3 S3 r3=>?_
    cases q1:keyOf k with
    | none=>rw[q1] at p3;exact ae p3
    | some kk=>
     cases q2:st3[l]? with
     | none=>rw[q1,q2] at p3;exact ae p3
     | some ob=>
      rw[q1,q2] at p3
      cases ob with
      | dct kvs=>
       have ha3:m3[l]? =some a:=(e2.trans e3).pre _ _ ha
       obtain⟨xs,y1,y2⟩:=(show ∃ys,H3 a=some (.dK ys)/\RelK X.K m3 H3 kvs ys from S3.obj _ _ _ ha3 q2)
       dsimp only at p3
       refine⟨_,by rw[lD r2 q1];exact ma.k y1,?_⟩
       obtain⟨i1,i2⟩:=y2.val kk
       cases q3:cW kvs kk with
       | none=>
        rw[i1 q3]
        rw[q3] at p3
        exact p3 z m3 H3 (e1.trans (e2.trans e3)) S3 r3
       | some w=>
        obtain⟨u,j1,j2⟩:=i2 w q3
        rw[j1]
        rw[q3] at p3
        exact p3 u m3 H3 (e1.trans (e2.trans e3)) S3 j2
      | _=>exact ae p3
   ·rw[if_neg hd] at p1;exact ae p1
  | _=>exact ae p1
end
def A4:Wv->afC->Prop
 | .int i,u=>∃t,u= .int i t
 | .str x,u=>(∃t,u= .str x t)/\bg x=true
 | _,_=>False
abbrev Dc:=List (PySem.Str×Wv)
def vh(w:afD):Dc->List DictEntry->Prop
 | [],[]=>True
 | (k,v)::r,e::t=>(e.hash=hashStr w k/\(∃tk,e.key= .str k tk)/\A4 v e.val)/\vh w r t
 | _,_=>False
def xf(K:PySem.W.Frag)(w:afD)(mg:Str->Option afC)(x:Str)(kvs:Dc):Prop :=
 ∃(a:afw)(es:Array DictEntry)(ep:Nat),mg x=some (.ref a)/\K.lookup a=some ⟨.type "dict",none,.dict es ep,#[]⟩/\(a == sysModules)=false/\vh w kvs es.toList/\(kvs.map (·.1)).Nodup
theorem nG{P:afA}{w:afD}:∀{kvs:Dc}{l:List DictEntry},vh w kvs l->∃vs:List (PySem.Str×afC),vs.map (·.1)=kvs.map (·.1)/\Pairs (PySem.strKind P w) l vs/\(∀e∈l,∃k,(PySem.strKind P w).is k e.key=true/\e.hash=(PySem.strKind P w).hash k)/\
  ∀k,(kvs.lookup k=none->valueAt vs k=none)/\∀v,kvs.lookup k=some v->∃u,valueAt vs k=some u/\A4 v u
 | [],[],_=>⟨[],rfl,.nil,(λ_ z=>by cases z),λk=>⟨λ_=>rfl,(λv z=>by cases z)⟩⟩
 | (k,v)::r,e::t,h=>by
  obtain⟨⟨h1,⟨tk,h2⟩,h3⟩,h4⟩:=h
  obtain⟨vs,i1,i2,i3,i4⟩:=nG (P:=P) h4
  have his:(PySem.strKind P w).is k e.key=true:=by rw[h2];exact strKind_is P w k tk
  refine⟨(k,e.val)::vs,by simp[i1],.cons his rfl i2,λe' he=>?_,λk'=>?_⟩
  ·rcases List.mem_cons.mp he with z | z
   ·subst z;exact⟨k,his,h1⟩
   ·exact i3 e' z
  ·rw[cq]
   unfold valueAt
   rw[og]
   by_cases ek:k=k'
   ·subst ek
    have b1:(k == k)=true:=by simp
    rw[b1]
    simp only[decide_true,qf]
    exact⟨(λz=>by cases z),λv' z=>⟨e.val,rfl,by cases z;exact h3⟩⟩
   ·have b1:(k' == k)=false:=beq_eq_false_iff_ne.mpr λz=>ek z.symm
    rw[b1]
    simp only[ek,decide_false]
    exact i4 k'
 | [],_::_,h=>ae h
 | _::_,[],h=>ae h
theorem A5{P:afA}{w:afD}{K:PySem.W.Frag}{h:Heap}{a:afw}{es:Array DictEntry}{ep:Nat}{kvs:Dc}(KX:K.In h)(hl:K.lookup a=some ⟨.type "dict",none,.dict es ep,#[]⟩)(he:vh w kvs es.toList)(nd:(kvs.map (·.1)).Nodup) :
  ∃vs:List (PySem.Str×afC),h.DictOf (PySem.strKind P w) a vs/\∀k,(kvs.lookup k=none->valueAt vs k=none)/\∀v,kvs.lookup k=some v->∃u,valueAt vs k=some u/\A4 v u:=by
 obtain⟨vs,i1,i2,i3,i4⟩:=nG (P:=P) he
 exact⟨vs,⟨_,es,ep,KX a _ hl,⟨rfl,rfl,rfl⟩,rfl,λe hm=>i3 e (by simpa using hm),i2,by rw[i1];exact nd⟩,i4⟩
section
variable {X:Cx}
def A6(kvs:Dc)(ga:GE):GE:=λρ st=>(ga ρ st).bind λa st1=>match a with
 | .str k=>(match kvs.lookup k with | some w=> .ok w st1 | none=> .bad)
 | _=> .bad
def TQ(kvs:Dc)(ty:TE):TE:=λσ H Q=>ty σ H λy H1=>∃z w v,y= .str z/\kvs.lookup z=some w/\(∀u,A4 w u->RelV v u)/\Q v H1
theorem JJ{b:Expr}{ty:TE}{x:Str}{p pos:Pos}{kvs:Dc}(hb:PE X b ty)(hs:DZ b)(hg:Gl X x)(hd:(x == ("__debug__":Str))=false)(D:xf X.K X.w X.mg x kvs):PE X (.Subscript (.Name x p) b pos) (TQ kvs ty):=by
 intro pins s σ H Q I h
 obtain⟨a,es,ep,g1,g2,g3,g4,g5⟩:=D
 refine Ax PySem.F.slot_dict_getitem.lookup hs (bp (jd (v:=.ref a) hg g1 rfl hd pins s σ H (λv H2=>v= .ref a/\H2=H) I ⟨rfl,rfl⟩) λu s1 ⟨v,H1,I1,rv,ev,eH⟩=>?_)
 subst ev eH
 obtain rfl:u=aN a:=rv
 refine bp (hb pins s1 σ H1 _ I1 h) λiv s2 ⟨y,H2,I2,ry,z,w,v,ey,ew,ev,q⟩=>?_
 subst ey
 obtain⟨t,rfl⟩:=(show ∃t,iv=pZ z t from ry)
 obtain⟨vs,dd,look⟩:=A5 (P:=X.prog) (w:=X.w) I2.v9 g2 g4 g5
 obtain⟨u,e1,e2⟩:=(look z).2 w ew
 exact⟨dd.typeIs,wpAny_getItem_of (strKind_is X.prog X.w z t) dd.mapOf e1 ⟨v,H2,I2.tok _,ev u e2,q⟩⟩
theorem JK{b:Expr}{gb:GE}{x:Str}{p pos:Pos}{kvs:Dc}(hb:JE X b gb)(hs:DZ b)(hg:Gl X x)(hd:(x == ("__debug__":Str))=false)(D:xf X.K X.w X.mg x kvs):JE X (.Subscript (.Name x p) b pos) (A6 kvs gb) :=
 JE.of (JJ aM hs hg hd D) λρ st σ H m Q S R p=>by
  refine hb.go S R (ax.bind p) λw st1 v m1 H1 p1 e1 S1 r1=>?_
  cases w with
  | str k=>
   dsimp only at p1
   cases e:kvs.lookup k with
   | none=>rw[e] at p1;exact ae p1
   | some u=>
    rw[e] at p1
    unfold ag at r1
    cases u with
    | int i=>exact⟨k,.int i,.int i,r1.1,e,λu h=>h,p1 _ m1 H1 e1 S1 (by unfold ag;rfl)⟩
    | str y=>
     by_cases hy:bg y=true
     ·exact⟨k,.str y,.str y,r1.1,e,λu h=>h.1,p1 _ m1 H1 e1 S1 (by unfold ag;exact⟨rfl,hy⟩)⟩
     ·obtain⟨a,es,ep,_,_,_,g4,_⟩:=D
      obtain⟨vs,_,_,_,i4⟩:=nG (P:=X.prog) g4
      obtain⟨u,_,e2⟩:=(i4 k).2 _ e
      exact absurd e2.2 hy
    | _=>
     obtain⟨a,es,ep,_,_,_,g4,_⟩:=D
     obtain⟨vs,_,_,_,i4⟩:=nG (P:=X.prog) g4
     obtain⟨u,_,e2⟩:=(i4 k).2 _ e
     exact ae e2
  | _=>exact ae p1
end
open PySem PySem.Spec PyProof.Rows PySem.W L2
section
variable (lt:Nat->Nat->Bool) (N:Nat)
def Kg{α:Type}:KasT α->(α->Prop)->Prop
 | .ret a,Q=>Q a
 | .ask i j k,Q=>(i < N/\j < N)/\Kg (k (lt i j)) Q
end
section
variable {lt:Nat->Nat->Bool} {N:Nat}
theorem Kg.bind{α β:Type}{f:α->KasT β}{Q:β->Prop}:∀{t:KasT α},Kg lt N t (λa=>Kg lt N (f a) Q)->Kg lt N (t.bind f) Q
 | .ret a,h=>h
 | .ask i j k,h=>⟨h.1,Kg.bind (t:=k (lt i j)) h.2⟩
theorem Kg.imp{α:Type}{Q R:α->Prop}(hq:∀a,Q a->R a):∀{t:KasT α},Kg lt N t Q->Kg lt N t R
 | .ret a,h=>hq a h
 | .ask i j k,h=>⟨h.1,Kg.imp hq (t:=k (lt i j)) h.2⟩
structure Ord(lt:Nat->Nat->Bool):Prop where
 as:∀a b,lt a b=true->lt b a=false
 tr:∀a b c,lt a b=false->lt b c=false->lt a c=false
theorem Ord.irr(o:Ord lt)(a:Nat):lt a a=false:=by
 cases h:lt a a with
 | false=>rfl
 | true=>have:=o.as a a h;rw[h] at this;cases this
abbrev at_(p:Array Nat)(i:Nat):Nat:=p.getD i 0
structure Pm(N:Nat)(p:Array Nat):Prop where
 sz:p.size=N
 pm:p.toList.Perm (gn N)
theorem Pm.bd{p:Array Nat}(h:Pm N p){i:Nat}(hi:i < N):at_ p i < N:=by
 have e:at_ p i=p[i]'(by rw[h.sz];exact hi):=by simp[at_,Array.getD,h.sz,hi]
 rw[e]
 have:p[i]'(by rw[h.sz];exact hi)∈p.toList:=by simp
 exact List.mem_range.mp (h.pm.mem_iff.mp this)
theorem A7{p q:Array Nat}{i j:Nat}(h:p[i]? =q[j]?):at_ p i=at_ q j:=by
 unfold at_
 rw[TR,TR,h]
theorem Fd{p:Array Nat}(h:Pm N p){i j:Nat}(hj:j<=N)(k:Nat):at_ (kas_rev p i j) k=if i<=k/\k < j then at_ p (i+j - 1 - k) else at_ p k:=by
 have q:=getElem?_mirror_all (xs:=p) (i:=i) (j:=j) (by rw[h.sz];exact hj) k
 unfold kas_rev
 split
 ·rename_i c;rw[if_pos c] at q;exact A7 q
 ·rename_i c;rw[if_neg c] at q;exact A7 q
def Up(lt:Nat->Nat->Bool)(p:Array Nat)(k:Nat):Prop:=∀i j,i<=j->j < k->lt (at_ p j) (at_ p i)=false
def Dn(lt:Nat->Nat->Bool)(p:Array Nat)(k:Nat):Prop:=∀i j,i<=j->j < k->lt (at_ p i) (at_ p j)=false
theorem Up.succ(o:Ord lt){p:Array Nat}{k:Nat}(h:Up lt p k)(hk:1<=k)(e:lt (at_ p k) (at_ p (k - 1))=false):Up lt p (k+1):=by
 intro i j hij hj
 by_cases c:j < k
 ·exact h i j hij c
 ·have:j=k:=by omega
  subst this
  by_cases c2:i=j
  ·subst c2;exact o.irr _
  ·exact o.tr _ _ _ e (h i (j - 1) (by omega) (by omega))
theorem Dn.succ(o:Ord lt){p:Array Nat}{k:Nat}(h:Dn lt p k)(hk:1<=k)(e:lt (at_ p (k - 1)) (at_ p k)=false):Dn lt p (k+1):=by
 intro i j hij hj
 by_cases c:j < k
 ·exact h i j hij c
 ·have:j=k:=by omega
  subst this
  by_cases c2:i=j
  ·subst c2;exact o.irr _
  ·exact o.tr _ _ _ (h i (j - 1) (by omega) (by omega)) e
theorem Dn.up{p:Array Nat}(hp:Pm N p){n:Nat}(hn:n<=N)(h:Dn lt p n):Up lt (kas_rev p 0 n) n:=by
 intro i j hij hj
 rw[Fd hp hn,Fd hp hn,if_pos ⟨by omega,hj⟩,if_pos ⟨by omega,by omega⟩]
 exact h _ _ (by omega) (by omega)
end
section
variable {prog:afA} {w:afD} {A:afx} {E:afC->afB->Prop} {s:afB}
end
section
variable {X:Cx} {pins:List (afw×Obj)} {σ:St} {H:Hp} {s:afB}
end
section
variable {X:Cx}
end
section
variable {prog:afA} {w:afD} {A:afx} {E:afC->afB->Prop} {s:afB}
end
section
variable {X:Cx}
abbrev pw(p:Int×Int):Wv:=.tup [.int p.1,.int p.2]
end
def keysOf:List Wv->Option (List L2.Key)
 | []=>some []
 | w::r=>(match keyOf w,keysOf r with | some k,some l=>some (k::l) | _,_=>none)
def oC:Wv->Option (List L2.Key)
 | .tup ws=>keysOf ws
 | _=>none
theorem qZ{K:PySem.W.Frag}{m:Mp}{H:Hp}:∀{ws:List Wv}{xs:List V}{ks:List L2.Key},ah K m H ws xs->keysOf ws=some ks->xs=ks.map kV
 | [],xs,ks,r,e=>by unfold ah at r;subst r;cases e;rfl
 | w::ws,xs,ks,r,e=>by
  unfold ah at r
  obtain⟨x,t,rfl,r1,r2⟩:=r
  unfold keysOf at e
  cases e1:keyOf w with
  | none=>rw[e1] at e;cases e
  | some k=>
   cases e2:keysOf ws with
   | none=>rw[e1,e2] at e;cases e
   | some l=>
    rw[e1,e2] at e
    cases e
    rw[lD r1 e1,qZ r2 e2]
    rfl
theorem nH{K:PySem.W.Frag}{m:Mp}{H:Hp}{w:Wv}{v:V}{ks:List L2.Key}(r:ag K m H w v)(e:oC w=some ks):∃b,v= .ref b/\H b=some (.tup (ks.map kV)):=by
 cases w with
 | tup ws=>
  unfold ag at r
  obtain⟨a,xs,rfl,h1,h2⟩:=r
  rw[qZ h2 e] at h1
  exact⟨a,rfl,h1⟩
 | _=>cases e
def tX:GE:=λ_ st=> .ok (.ref st.length) (st++[.ja []])
def Lj:GE:=λ_ st=> .ok (.ref st.length) (st++[.dct []])
section
variable {X:Cx}
theorem JM{pos:Pos}:JE X (.Dict [] [] pos) tX:=JE.of D5 λρ st σ H m Q S R p=>λq hq=>
 p (.ref q) (m++[q]) _ (Ext.more.trans (Ext.jP (.inl hq))) (S.uU hq ⟨[],aJ,RelK.nil⟩) (S.newest q _)
theorem JN{pos:Pos}:JE X (.Dict [] [] pos) Lj:=JE.of D4 λρ st σ H m Q S R p=>λq hq=>
 p (.ref q) (m++[q]) _ (Ext.more.trans (Ext.jP (.inl hq))) (S.uU hq ⟨[],aJ,RelK.nil⟩) (S.newest q _)
def putD(d k v:Wv)(st:Hs):Option Hs:=match d with
 | .ref l=>(match st[l]? with
  | some (.dct kvs)=>(match keyOf k with | some kk=>if kvs.length < lim then some (st.set l (.dct (oB kvs kk v))) else none | none=>none)
  | some (.ja kvs)=>(match oC k with | some kk=>if kvs.length < lim then some (st.set l (.ja (oB kvs kk v))) else none | none=>none)
  | _=>none)
 | _=>none
def tY(gv gd gk:GE):GS:=λρ st=>(gv ρ st).bp ρ λv st1=>(gd ρ st1).bp ρ λd st2=>(gk ρ st2).bp ρ λk st3=>match putD d k v st3 with
 | some AB=> .nx ρ AB
 | none=> .bad
theorem JP{m:Mp}{st st':Hs}{H:Hp}{d k v:Wv}{x y z:V}(S:bb X.K m st H)(rd:ag X.K m H d x)(rk:ag X.K m H k y)(rv:ag X.K m H v z)(e:putD d k v st=some st'):∃a H',x= .ref a/\uR H a y z H'/\Ext X.K m H m H'/\bb X.K m st' H':=by
 unfold putD at e
 cases d with
 | ref l=>
  dsimp only at e
  unfold ag at rd
  obtain⟨a,rfl,ha⟩:=rd
  cases e1:st[l]? with
  | none=>rw[e1] at e;cases e
  | some o=>
   rw[e1] at e
   cases o with
   | dct kvs=>
    dsimp only at e
    cases e2:keyOf k with
    | none=>rw[e2] at e;cases e
    | some kk=>
     rw[e2] at e
     dsimp only at e
     by_cases c:kvs.length < lim
     ·rw[if_pos c] at e
      cases e
      obtain⟨xs,h1,h2⟩:=(show ∃ys,H a=some (.dK ys)/\RelK X.K m H kvs ys from S.obj _ _ _ ha e1)
      have ex:Ext X.K m H m (upd H a (.dK (putK xs kk z))):=Ext.jP (.inr (.inr (.inl ⟨_,h1⟩)))
      refine⟨a,_,rfl,by rw[lD rk e2];exact uR.k h1 (by rw[<-h2.length];exact yz c),ex,?_⟩
      exact S.yx ha e1 rfl ⟨_,aJ,(h2.put kk rv).mono ex⟩
     ·rw[if_neg c] at e;cases e
   | ja kvs=>
    dsimp only at e
    cases e2:oC k with
    | none=>rw[e2] at e;cases e
    | some kk=>
     rw[e2] at e
     dsimp only at e
     by_cases c:kvs.length < lim
     ·rw[if_pos c] at e
      cases e
      obtain⟨xs,h1,h2⟩:=(show ∃ys,H a=some (.dT ys)/\RelK X.K m H kvs ys from S.obj _ _ _ ha e1)
      obtain⟨b,rfl,hb⟩:=nH rk e2
      have ex:Ext X.K m H m (upd H a (.dT (putK xs kk z))):=Ext.jP (.inr (.inr (.inr ⟨_,h1⟩)))
      refine⟨a,_,rfl,uR.t h1 hb (by rw[<-h2.length];exact yz c),ex,?_⟩
      exact S.yx ha e1 rfl ⟨_,aJ,(h2.put kk rv).mono ex⟩
     ·rw[if_neg c] at e;cases e
   | _=>cases e
 | _=>cases e
theorem JQ{o i e:Expr}{go gi ge:GE}{pos pos':Pos}(hu:X.A.units+1 < cLine)(he:JE X e ge)(ho:JE X o go)(hi:JE X i gi)(hs:swapsWith e (some (.Subscript o i pos')) pos.line X.env=pure false):JS X (.Assign [.Subscript o i pos'] e pos) (tY ge go gi) :=
 JS.of (I_ hu aM aM aM hs) λρ st σ H m D S R p=>by
  refine he.go S R (aE.cK R p) λv st1 vv m1 H1 p1 e1 S1 rv=>?_
  refine ho.go S1 (R.mono e1) ((aE.cK (m:=m) (H:=H) R p1).imp e1 λ_ _ q=>q) λd st2 vd m2 H2 p2 e2 S2 rd=>?_
  refine hi.go S2 (R.mono (e1.trans e2)) ((aE.cK (m:=m) (H:=H) R p2).imp (e1.trans e2) λ_ _ q=>q) λk st3 vk m3 H3 p3 e3 S3 rk=>?_
  have yG:=e1.trans (e2.trans e3)
  cases e4:putD d k v st3 with
  | none=>rw[e4] at p3;exact ae p3
  | some AB=>
   rw[e4] at p3
   obtain⟨a,H4,f1,f2,f3,f4⟩:=JP (X:=X) S3 (ag.mono e3 _ _ rd) rk (ag.mono (e2.trans e3) _ _ rv) e4
   exact⟨a,H4,f1,f2,p3 σ m3 H4 (yG.trans f3) f4 (R.mono (yG.trans f3))⟩
end
def CB(h:Heap)(d:afw)(es:Array DictEntry)(ep:Nat):Prop:=∃o,h.get? d=some o/\o.cls= .type "dict"/\o.data= .dict es ep
section
variable {prog:afA} {w:afD} {A:afx} {E:afC->afB->Prop} {s:afB} {d it:afw} {es:Array DictEntry} {ep i:Nat}
theorem CB.ty(x:CB s.heap d es ep):s.TypeIs (.ref d) "dict":=let ⟨o,h1,h2,_⟩:=x;⟨o,h1,h2⟩
end
section
variable {X:Cx}
end
def yU:List L2.Key->Option (List Int)
 | []=>some []
 | .inl i::r=>(match yU r with | some l=>some (i::l) | none=>none)
 | _=>none
section
variable {X:Cx}
end
open PySem L2 PyProof.Rows
section
open PySem.SeqAt PySem.MeetsSeq PySem.MeetsSeq2 PySem.MeetsSeq3
end
variable {X:Cx}
def oLe:gA:=λx y st=>SD x y st
theorem Oi(hu:X.A.units+64 < cLine):lq X (afJ .LtE) oLe:=SH
def oLt:gA:=λx y st=>Sz x y st
theorem Oj(hu:X.A.units+64 < cLine):lq X (afJ .Lt) oLt:=SG
structure fR(k:Nat)(A:afx):Prop where
 d:A.depth+3 * k+5 < recursionLimit
 u:A.units+16 * k+200 < cLine
theorem fR.of{k:Nat}{A:afx}(r:iE k A):fR k A:=⟨r.dp,r.un⟩
theorem fR.less{j k:Nat}{A:afx}(r:fR k A)(h:j<=k):fR j A:=⟨by have:=r.d;omega,by have:=r.u;omega⟩
theorem fR.down{k:Nat}{A:afx}(r:fR (k+1) A)(env:Env):fR k (A.deeper env) :=
 ⟨by have q:=r.d;show A.depth+1+3 * k+5 < _;omega,by have q:=r.u;show A.units+3+16 * k+200 < _;omega⟩
theorem fR.u64{k:Nat}{A:afx}(r:fR k A):A.units+64 < cLine:=by have:=r.u;omega
structure Fe(P:afA)(w:afD)(K:PySem.W.Frag)(mg:Str->Option afC)(base:Heap)(k:Nat)(f:afw)(fd:afy)(ps:List Str)(sp:Sp):Prop where
 n:∀vs H Q E,sp vs H Q E->vs.length=ps.length
 go:∀(A:afx)(outer:List Env)(s:afB)(H:Hp)(args:Args)(us:List afC)(vs:List V)(Q:VK)(E:XK),fR k A->Ck A H->uF P w K mg base A outer s H->
  BindsTo s fd args (ps.zip us)->Vals vs us->sp vs H Q E->afH (model P w) A (.call (.ref f) args) (CR (CXJ P w) outer P w H s Q E) s
section
variable {P:afA} {w:afD} {K:PySem.W.Frag} {mg:Str->Option afC} {base:Heap}
def JR(P:afA)(w:afD)(K:PySem.W.Frag)(mg:Str->Option afC)(base:Heap)(N:List Str)(qual:Str)(scope:Scope)(f:afw)(cd:afC)(A:afx)(outer:List Env)(s:afB)(H:Hp)(E:XK):Cx :=
 { qA (CXJ P w) P w K mg base N qual scope f cd A outer s H E with calm:=false }
theorem Ol{N ps:List Str}{qual:Str}{scope:Scope}{f:afw}{cd:afC}{A:afx}{outer:List Env}{s s1:afB}{H:Hp}{E:XK}{us:List afC}{vs:List V}(S:FnScope N ps scope)(z:uF P w K mg base A outer s H)(ln:vs.length=ps.length)(r:Vals vs us)
  (x:InCallC s s.heap.objs.size (bindL (envOfC qual scope s.heap.objs.size f cd).kindOf (ps.zip us) λ_=>none) (cellsFrom (s.heap.objs.size+1) scope.names []) (bindC (envOfC qual scope s.heap.objs.size f cd).kindOf (ps.zip us) λ_=>none) s1) :
  Inv (JR P w K mg base N qual scope f cd A outer s H E) [] (start N vs) H s1:=by
 have z':uF P w K mg base { A with handled:=none } outer s H:=⟨z.frames,z.mod,z.bs,z.BQ,z.jO,z.DD,z.hok,z.bare⟩
 have I:=tD (CX:=CXJ P w) (E:=E) (cd:=cd) (A:={ A with handled:=none }) S rfl z' ln r x
 have o:=I.ok
 exact⟨⟨o.mod,o.kind,o.glob,o.blt,o.above,o.inj,o.has,o.KY,(λh=>by cases h),o.frames,o.stk,o.Va,o.bs,o.BQ,o.yf,o.BR,o.jO,o.DD⟩,I.os,I.bare,I.base,I.loc,I.cell,I.free,I.f9,I.pin,I.hok,I.len⟩
theorem TU{N:List Str}{qual:Str}{scope:Scope}{f:afw}{cdv:afC}{A:afx}{outer:List Env}{s s':afB}{H H':Hp}{E:XK}{σ:St}{c:PySem.Str}{e:afC}
  (r:qI (JR P w K mg base N qual scope f cdv A outer s H E) σ H' c e s')(h:∀C,ClsAt K c C->E (.ref C) none H'):(JR P w K mg base N qual scope f cdv A outer s H E).xe e s':=by
 obtain⟨C,pins,Hc,sc,hC,I,r⟩:=r
 rcases r with fl | ⟨rfl,a,args,rfl,ho,hg,M⟩
 ·exact j7 (X:=JR P w K mg base N qual scope f cdv A outer s H E) rfl rfl rfl I fl λs2 tM=>⟨H',C,tM,h C hC⟩
 ·exact mh (X:=JR P w K mg base N qual scope f cdv A outer s H E) rfl rfl rfl I ho hg M λs2 tM=>⟨H',C,tM,h C hC⟩
theorem Xd{x qual:Str}{st:Stmt}{f:afw}{fd:afy}{N ps:List Str}{k:Nat}{g:GS}(F:K6 K x qual st f fd)(S:FnScope N ps (defScope st))
  (body:∀(cdv:afC)(A:afx)(outer:List Env)(s:afB)(H:Hp)(E:XK),fR k (A.deeper (envOfC qual (defScope st) s.heap.objs.size f cdv))->yN (JR P w K mg base N qual (defScope st) f cdv A outer s H E)->lT (JR P w K mg base N qual (defScope st) f cdv A outer s H E) (defBody st) g) :
  Fe P w K mg base (k+1) f fd ps (spW K ps.length (cg N.length g)):=by
 have hpl:ps.length<=N.length:=by have:=congrArg jf S.pre;rw[kZ] at this;omega
 obtain⟨oc,od,kV,doc,pm,an,cdv,ct,osl,rfl,lk,hcd⟩:=F.ex
 have len:∀vs H Q E,spW K ps.length (cg N.length g) vs H Q E->vs.length=ps.length:=λvs H Q E h=>by
  obtain⟨m,st',ws,_,r,hl,_⟩:=h
  rw[<-r.length];exact hl
 refine⟨len,λA outer s H args us vs Q E hr ha z hb r DQ=>?_⟩
 have ln:=len _ _ _ _ DQ
 have kx:K.In s.heap:=z.mod.Iq.keeps λb o q=>(z.bs b o q).1
 have nl:s.heap.NoLimit:=z.mod.nolimit.keeps λb o q=>(z.bs b o q).1
 have kinds:∀y∈ps.zip us,(defScope st).names.lookup y.1=some .local\/((defScope st).names.lookup y.1=some .cell/\((cellsFrom (s.heap.objs.size+1) (defScope st).names []).lookup y.1).isSome=true):=λy hy=>by
  rcases S.par y.1 (uG hy).1 with t | t
  ·exact .inl t
  ·exact .inr ⟨t,PySem.W.cellsFrom_some _ _ _ (.inl t)⟩
 refine codeAny_call_function (by have:=hr.d;omega) (kx _ _ lk) rfl S.co S.gen rfl (PySem.W.codeRec_of kx hcd) (hb _ _ _ _ ?_)
 refine wpAny_newFunctionEnv_cells S.kind kinds λenv he s1 y=>?_
 subst he
 refine⟨nl.keeps y.toInCall.keep,codeAny_func ?_⟩
 obtain⟨m,st',ws,S',rs,hl,p⟩:=DQ
 have I:=Ol (E:=E) (cd:=cdv) S z ln r y
 have go:Sq (JR P w K mg base N qual (defScope st) f cdv A outer s H E) (defBody st) { nx:=λ_ H'=>Q .bO H',rt:=Q } (start N vs) H:=by
  refine body cdv A outer s H E (hr.down _) ha _ st' _ H m _ S' (wM rs (by omega)) ?_
  unfold cg at p
  cases e:g (ws.map some++aH (N.length - ws.length) none) st' with
  | nx ρ st2=>rw[e] at p;exact λσ m' H' e' S2 R2=>p _ m' H' e' S2 (by unfold ag;rfl)
  | rt w' st2=>rw[e] at p;exact p
  | bk ρ st2=>rw[e] at p;exact ae p
  | ct ρ st2=>rw[e] at p;exact ae p
  | err c ρ st2=>rw[e] at p;exact λσ m' H' x s' e' S2 R2 rz=>TU rz λC hC=>p m' H' C e' S2 hC
  | bad=>rw[e] at p;exact ae p
 refine afT (dN [] s1 (start N vs) H _ I go) (λfl s' hs=>?_) λe s' hs=>hs
 cases fl with
 | ret u=>obtain⟨v,σ',H',I',rv,q⟩:=hs;exact⟨v,H',I'.os,I'.bare,I'.base,I'.hok,rv,q⟩
 | next=>obtain⟨σ',H',I',q⟩:=hs;exact⟨.bO,H',I'.os,I'.bare,I'.base,I'.hok,rfl,q⟩
 | brk=>obtain⟨_,_,_,q⟩:=hs;exact ae q
 | cont=>obtain⟨_,_,_,q⟩:=hs;exact ae q
end
section
variable {X:Cx}
theorem Ff{k n:Nat}{f:afw}{fd:afy}{ps:List Str}{F:List Wv->Hs->Re Wv}{x:Str}{p pos:Pos}{e:Expr}{es:List Expr}{g:GA}
  (G:Fe X.prog X.w X.K X.mg X.base k f fd ps (spW X.K n F))(hr:fR k X.A)(hH:yN X)(hm:X.mg x=some (.ref f))(hk:PySem.W.keepIn X.K (.ref f)=true)(hb:Binds X.K fd ps [])(ha:JA X (e::es) g)(hg:Gl X x)
  (hdb:(x == ("__debug__":Str))=false)(he:afO (e::es) X.env=(false,eval e X.env)::afO es X.env)(hpl:(backTo pos (afO es X.env)).any (·.1)=false) :
  JE X (.Call (.Name x p) (e::es) [] pos) (av n F g):=by
 intro ρ st σ H m Q S R p pins s I
 have args:=ha.go (T:=λvs H1=>∃ws st1 m1,cU X σ m H (if ws.length=n then F ws st1 else .bad) Q/\Ext X.K m H m1 H1/\bb X.K m1 st1 H1/\ah X.K m1 H1 ws vs) S R (ax.bind p)
  λws st1 vs m1 H1 p1 e1 S1 rs=>⟨ws,st1,m1,p1,e1,S1,rs⟩
 refine wpAny_Call_Name_kw (kW I hg hm ?_ hdb)
 refine PySem.W.callWith_K (h₀:=X.base) I.ok.mod.Iq hk (bp (args pos pins s I) λus s1 ⟨vs,H1,I1,r,ws,st1,m1,p1,e1,S1,rs⟩=>⟨I1.v9,?_⟩) he hpl
 by_cases c:ws.length=n
 ·rw[if_pos c] at p1
  let E:XK:=λcl _ H2=>∃c' st2 m2 C,cl= .ref C/\ClsAt X.K c' C/\F ws st1= .err c' st2/\Ext X.K m1 H1 m2 H2/\bb X.K m2 st2 H2
  have sp:spW X.K n F vs H1 Q E:=by
   refine⟨m1,st1,ws,S1,rs,c,?_⟩
   cases er:F ws st1 with
   | ok w st2=>rw[er] at p1;exact cU.shift (r:=.ok w st2) p1 e1
   | err c' st2=>exact λm2 H2 C e2 S2 hC=>⟨c',st2,m2,C,rfl,hC,er,e2,S2⟩
   | bad=>rw[er] at p1;exact ae p1
  have hl:us.length=ps.length:=by rw[<-r.length];exact G.n _ _ _ _ sp
  have bd:=hb s1 us I1.v9 (by rw[fk];exact hl)
  rw[fk] at bd
  refine wpAny_call (codeAny_mono (G.go X.A X.stack s1 H1 ⟨us,[]⟩ us vs Q E hr (hH.at I1) I1.MT bd r sp) λrr s2 hq=>?_)
  cases rr with
  | error x=>
   obtain⟨H2,C,fl,c',st2,m2,C',ec,hC,er,e2,S2⟩:=hq
   cases ec
   rw[er] at p1
   exact p1 m2 H2 x s2 (e1.trans e2) S2 ⟨C,pins,H1,s1,hC,I1,.inl fl.any⟩
  | ok fw=>
   cases fw with
   | ret u=>exact I1.after hq
   | next=>exact ae hq
   | brk=>exact ae hq
   | cont=>exact ae hq
 ·rw[if_neg c] at p1;exact ae p1
end
def vi(P:afA)(w:afD)(K:PySem.W.Frag)(mg:Str->Option afC)(base:Heap)(k:Nat)(x:Str)(n:Nat)(F:List Wv->Hs->Re Wv):Prop :=
 ∃f fd ps,Fe P w K mg base k f fd ps (spW K n F)/\mg x=some (.ref f)/\PySem.W.keepIn K (.ref f)=true/\Binds K fd ps []
theorem vi.mono{P:afA}{w:afD}{K:PySem.W.Frag}{mg:Str->Option afC}{base:Heap}{j k:Nat}{x:Str}{n:Nat}{F:List Wv->Hs->Re Wv}(h:vi P w K mg base j x n F)(l:j<=k):vi P w K mg base k x n F:=by
 obtain⟨f,fd,ps,G,r⟩:=h
 exact⟨f,fd,ps,⟨G.n,λA outer s H args us vs Q E hr=>G.go A outer s H args us vs Q E (hr.less l)⟩,r⟩
section
variable {X:Cx}
end
section
variable {X:Cx}
end
abbrev TV:=Option (Nat×List Wv)×List Wv
def vj(c:Option (Nat×List Wv))(st:Hs):Prop:=match c with
 | some (l,ws)=>aq st l=some ws
 | none=>True
structure Fg(X:Cx)(w:TV)(m1:Mp)(H1:Hp)(J':It):Prop where
 go:∀(k:Nat)(H:Hp)(m':Mp)(st:Hs),Ext X.K m1 H1 m' H->bb X.K m' st H->vj w.1 st->k < w.2.length->J'.go k H
 stop:∀(k:Nat)(H:Hp)(m':Mp)(st:Hs),Ext X.K m1 H1 m' H->bb X.K m' st H->vj w.1 st->k=w.2.length->J'.stop k H
 v_:∀(k:Nat)(hk:k < w.2.length)(H:Hp)(v:V)(H':Hp)(m':Mp)(st:Hs),Ext X.K m1 H1 m' H->bb X.K m' st H->vj w.1 st->J'.v_ k H v H'->Ext X.K m' H m' H'/\bb X.K m' st H'/\ag X.K m' H' w.2[k] v
abbrev Fh:=bC->Hs->Re TV
def Lk(X:Cx)(tg iter:Expr)(gi:Fh):Prop:=∃wi,PI X tg iter wi/\∀(ρ:bC)(st:Hs)(σ:St)(H:Hp)(m:Mp)(R:It->Hp->Prop),bb X.K m st H->aw X.K m H ρ σ->
 ax X σ m H (gi ρ st) (λw st1=>∀(m1:Mp)(H1:Hp)(J':It),Ext X.K m H m1 H1->bb X.K m1 st1 H1->vj w.1 st1->Fg X w m1 H1 J'->R J' H1)->wi σ H R
def Fi:Fh:=λ_ _=> .bad
section
variable {X:Cx}
theorem JU{tg iter:Expr}:Lk X tg iter Fi:=⟨_,xa,λρ st σ H m Q S R p=>p⟩
theorem Om{tg iter:Expr}{gi:GI}(h:JI X tg iter gi):Lk X tg iter (λρ st=>(gi ρ st).bind λw st1=> .ok (w.1.map λl=>(l,w.2),w.2) st1):=by
 obtain⟨wi,hp,hw⟩:=h
 refine⟨wi,hp,λρ st σ H m R S r p=>hw ρ st σ H m R S r ((ax.bind p).imp Ext.refl λw st1 q m1 H1 J' e1 S1 c1 vb=>?_)⟩
 obtain⟨o,ws⟩:=w
 have cc:∀st,vj (o.map λl=>(l,ws)) st->jQ (o,ws) st:=λst c=>by cases o<;>exact c
 have cc':jQ (o,ws) st1->vj (o.map λl=>(l,ws)) st1:=λc=>by cases o<;>exact c
 refine q m1 H1 J' e1 S1 (cc' c1) ⟨λk H2 m' st2 e S2 c=>vb.go k H2 m' st2 e S2 (cc _ c),λk H2 m' st2 e S2 c=>vb.stop k H2 m' st2 e S2 (cc _ c),λk hk H2 v H3 m' st2 e S2 c y=>?_⟩
 obtain⟨rfl,rr⟩:=vb.v_ k hk H2 v H3 m' st2 e S2 (cc _ c) y
 exact⟨Ext.refl,S2,rr⟩
end
open Classical in
def xg(is:List Nat)(gb:GS)(c:Option (Nat×List Wv)):List Wv->bC->Hs->Rs
 | [],ρ,st=> .nx ρ st
 | w::r,ρ,st=>match NY is w ρ with
  | none=> .bad
  | some ρ1=>match gb ρ1 st with
   | .nx ρ' st'=>if vj c st' then xg is gb c r ρ' st' else .bad
   | .ct ρ' st'=>if vj c st' then xg is gb c r ρ' st' else .bad
   | .bk ρ' st'=> .nx ρ' st'
   | .rt w st'=> .rt w st'
   | .err c ρ' st'=> .err c ρ' st'
   | .bad=> .bad
def Ll(is:List Nat)(gi:Fh)(gb:GS):GS:=λρ st=>(gi ρ st).bp ρ λw st1=>xg is gb w.1 w.2 ρ st1
section
variable {X:Cx}
theorem JV{es:List Expr}{is:List Nat}{k:Nat}{iter:Expr}{body:List Stmt}{gi:Fh}{gb:GS}{pos pos':Pos}(hN:X.N.Nodup)(hp:PassesOwn (model X.prog X.w) X.A X.env X.xe)(hc:X.calm=true)(sl:Slots X es is)(hi:Lk X (.Tuple es k pos') iter gi)(hb:lT X body gb)
  (hs:∀x,afK iter X.env x=pure x):JS X (.For (.Tuple es k pos') iter body [] pos) (Ll is gi gb):=by
 obtain⟨wi,TF,hw⟩:=hi
 refine JS.of (lZ hp hc TF (uC hc (iW hN sl) (ka sl) (iX sl)) dN hs) λρ st σ H m D S R p=>?_
 refine hw ρ st σ H m _ S R ((aE.cK R p).imp Ext.refl λw st1 p1 m1 H1 J' e1 S1 c1 vb=>?_)
 obtain⟨cc,ws⟩:=w
 let Pv:Nat->St->Hp->Prop:=λk σ H=>∃ρ st m',Ext X.K m1 H1 m' H/\bb X.K m' st H/\aw X.K m' H ρ σ/\vj cc st/\aE X m' H (xg is gb cc (ws.drop k) ρ st) D
 refine⟨λk n σ H=>n=ws.length - k/\k<=ws.length/\Pv k σ H,⟨ws.length,by simp,bG _,ρ,st1,m1,Ext.refl,S1,R.mono e1,c1,aE.shift p1 e1⟩,?_⟩
 rintro k n σ2 H2 ⟨rfl,hk,ρ2,st2,m2,e2,S2,R2,c2,p2⟩
 by_cases hlt:k < ws.length
 ·refine .inr ⟨vb.go k H2 m2 st2 e2 S2 c2 hlt,Pv (k+1),λσ' H' p'=>⟨ws.length - (k+1),by omega,rfl,hlt,p'⟩,λx H' y=>?_⟩
  obtain⟨eY,Xe,pO⟩:=vb.v_ k hlt H2 x H' m2 st2 e2 S2 c2 y
  have ed:ws.drop k=ws[k]::ws.drop (k+1):=mj hlt
  rw[ed] at p2
  unfold xg at p2
  replace p2:=aE.shift p2 eY
  have Xf:=R2.mono eY
  have AN:=e2.trans eY
  have Xg:ag X.K m2 H' ws[k] x:=pO
  cases eb:ws[k] with
  | tup us=>
   rw[eb] at p2 Xg
   dsimp only[NY] at p2
   cases e5:qQ is us ρ2 with
   | none=>rw[e5] at p2;exact ae p2
   | some ρ5=>
    rw[e5] at p2
    dsimp only at p2
    unfold ag at Xg
    obtain⟨b,ys,rfl,f1,f2⟩:=Xg
    refine⟨b,ys,rfl,eF.of f1,by rw[<-f2.length];exact nu e5,j_ f2 Xf e5 λσ5 R5=>?_⟩
    refine hb _ st2 _ _ m2 _ Xe R5 ?_
    cases eg:gb ρ5 st2 with
    | nx ρ3 st3=>
     rw[eg] at p2
     by_cases c:vj cc st3
     ·simp only[if_pos c] at p2
      exact λσ3 m3 H3 e3 S3 R3=>⟨ρ3,st3,m3,AN.trans e3,S3,R3,c,aE.shift p2 e3⟩
     ·simp only[if_neg c] at p2;exact ae p2
    | ct ρ3 st3=>
     rw[eg] at p2
     by_cases c:vj cc st3
     ·simp only[if_pos c] at p2
      exact λσ3 m3 H3 e3 S3 R3=>⟨ρ3,st3,m3,AN.trans e3,S3,R3,c,aE.shift p2 e3⟩
     ·simp only[if_neg c] at p2;exact ae p2
    | bk ρ3 st3=>rw[eg] at p2;exact p2
    | rt w3 st3=>rw[eg] at p2;exact p2
    | err c3 ρ3 st3=>rw[eg] at p2;exact p2
    | bad=>rw[eg] at p2;exact p2
  | _=>rw[eb] at p2;exact ae p2
 ·have e:k=ws.length:=by omega
  subst e
  rw[oo] at p2
  exact .inl ⟨vb.stop _ H2 m2 st2 e2 S2 c2 rfl,p2 σ2 m2 H2 Ext.refl S2 R2⟩
end
def Fj(n:Nat):Wv->Option (List Wv)
 | .tup us=>if us.length=n then some us else none
 | _=>none
open Classical in
def fX(ck:Hs->Prop)(n:Nat)(gt:List Wv->Hs->Re Bool)(ge:List Wv->Hs->Re Wv)(l:Nat):List Wv->Hs->Option Hs
 | [],st=>some st
 | w::r,st=>match Fj n w with
  | none=>none
  | some us=>match gt us st with
   | .ok false st1=>if ck st1 then fX ck n gt ge l r st1 else none
   | .ok true st1=>(match ge us st1 with
    | .ok v st2=>(match sF (.ref l) v st2 with
     | .ok _ st3=>if ck st3 then fX ck n gt ge l r st3 else none
     | _=>none)
    | _=>none)
   | _=>none
def eM(X:Cx)(scope:Scope)(xs:List Str)(cs:dH)(C:afw)(s0:afB)(H0:Hp)(fp:List afw)(pn:List (afw×Obj)):Cx :=
 { fQ X scope "" cs C s0 H0 fp pn (λ_ _=>False) with N:=xs++cs.map (·.1) }
structure lE(X:Cx)(scope:Scope)(x:Str)(xr:List Str)(cs:dH):Prop where
 one:d_ X scope x cs
 var:∀y∈x::xr,scope.names.lookup y=some .local
 nd:((x::xr)++cs.map (·.1)).Nodup
inductive eN:List Expr->List Str->Prop
 | nil:eN [] []
 | cons {x:Str} {p:Pos} {es:List Expr} {xs:List Str}:eN es xs->eN (.Name x p::es) (x::xs)
section
variable {X:Cx} {pins:List (afw×Obj)} {σ:St} {H:Hp} {s:afB} {scope:Scope} {x:Str} {xr:List Str} {cs:dH}
theorem inv2{fp:List afw}{h2:Heap}{tk:Nat}(S:lE X scope x xr cs)(hc:X.calm=true)(I:Inv X pins σ H s)(hf:∀b∈fp,dY X pins H b)(hl:∀b∈fp,b < s.heap.objs.size)
  (ns:h2.Ns s.heap.objs.size (λy=>([]:List (Str×afC)).reverse.lookup y))(sb:jW s.heap.objs.size (s.heap.push { cls:=.type "dict",data:=.dict #[] }) h2) :
  Inv (eM X scope (x::xr) cs s.heap.objs.size s H fp (X.pn++pins)) [] (aH (x::xr).length none++nC cs σ) H { s with heap:=h2,toks:=tk }:=by
 have J:=wY (E:=λ_ _=>False) (tk:=tk) S.one I hf hl ns sb
 have o:=J.ok
 obtain⟨m,hn,hv⟩:=J.loc
 refine⟨⟨o.mod,o.kind,o.glob,o.blt,o.above,o.inj,o.has,o.KY,o.hd,o.frames,o.stk,o.Va,o.bs,o.BQ,o.yf,o.BR,o.jO,o.DD⟩,J.os,J.bare,J.base,⟨m,hn,λi y v e1 e2 e3=>?_⟩,J.cell,J.free,J.f9,J.pin,J.hok,?_⟩
 ·have Ie:((x::xr)++cs.map (·.1))[i]? =some y:=e1
  by_cases hi:i < (x::xr).length
  ·rw[eG (by rw[jg];exact hi),uH,if_pos hi] at e2
   cases e2
  ·rw[fW (by rw[jg];omega),jg] at e2
   rw[fW (by omega)] at Ie
   exact hv (i - (x::xr).length+1) y v Ie e2 e3
 ·show(aH (x::xr).length none++nC cs σ).length=((x::xr)++cs.map (·.1)).length
  unfold nC
  simp
  omega
theorem Xh{fp:List afw}{Hb He:Hp}{sb se:afB}{C:afw}{σ':St}{iS:List (afw×Obj)}(I:Inv X pins σ Hb sb)(hf:∀b∈fp,dY X pins Hb b)(J:Inv (eM X scope (x::xr) cs C sb Hb fp (X.pn++pins)) iS σ' He se):Inv X pins σ He se:=by
 have un:Un (frs X.stack) fp Hb He sb.heap se.heap:=J.base
 exact I.qv (ch:=fp) J.os un J.hok J.bare λb hb=>⟨(hf b hb).2.2.2.1,(hf b hb).2.1,(hf b hb).2.2.2.2.1,λp hp=>(hf b hb).2.2.2.2.2 p hp⟩
end
theorem Fl{Y:Cx}:∀{es:List Expr}{xs:List Str}(pre:List Str)(post:List Str),eN es xs->Y.N=pre++(xs++post)->(∀y∈xs,Y.env.scope.names.lookup y=some .local)->Slots Y es (jl pre.length xs.length)
 | _,_,pre,post,.nil,hN,hv=> .nil
 | _,_,pre,post,.cons (x:=x) (xs:=xs) t,hN,hv=>by
  show Slots Y _ (pre.length::jl (pre.length+1) xs.length)
  have hx:=hv x bw
  refine .cons (by rw[hN];simp) ⟨.inl hx,.inr hx⟩ ?_
  have:=Fl (pre++[x]) post t (by rw[hN];simp) λy hy=>hv y (aO _ hy)
  rw[bZ] at this
  exact this
theorem Ln:∀(us:List Wv)(pre:bC)(zs:bC)(post:bC),zs.length=us.length->qQ (jl pre.length us.length) us (pre++(zs++post))=some (pre++(us.map some++post))
 | [],pre,zs,post,h=>by
  have:zs=[]:=List.length_eq_zero_iff.mp h
  subst this
  rfl
 | u::us,pre,[],post,h=>by cases h
 | u::us,pre,z::zs,post,h=>by
  show qQ (jl (pre.length+1) us.length) us ((pre++(z::zs++post)).set pre.length (some u))=_
  have e:(pre++(z::zs++post)).set pre.length (some u)=(pre++[some u])++(zs++post):=by
   rw[List.set_append_right _ _ (au _)]
   simp
  have q:=Ln us (pre++[some u]) zs post (by simpa using h)
  rw[bZ,IX] at q
  rw[e,q]
  simp
theorem Xi{K:PySem.W.Frag}{m:Mp}{H:Hp}{us:List Wv}{ρ:bC}{σ:St}(R:aw K m H (us.map some++ρ) σ):aw K m H (aH us.length none++ρ) σ:=by
 refine⟨by rw[<-R.len];simp,λi w e=>?_⟩
 by_cases hi:i < us.length
 ·rw[eG (by simpa using hi),uH,if_pos hi] at e
  cases e
 ·refine R.get i w ?_
  rw[fW (by simpa using Nat.le_of_not_lt hi)] at e ⊢
  simpa using e
section
variable {prog:afA} {w:afD} {A:afx} {R:Result->afB->Prop} {s:afB}
abbrev NB(prog:afA)(w:afD)(A:afx)(env:Env)(R:Result->afB->Prop):afC->afB->Prop:=notedBy (model prog w) A env λe s'=>R (.error e) s'
theorem Oo{elt tg iter:Expr}{ifs:List Expr}{scope:Scope}{pos:Pos}{it acc:afC}{env:Env}(Iv:Nat->afB->Prop)
  (turn:∀n t,Iv n t->afP (model prog w) A (pyNext it) (λr t1=>match r with
   | none=>R (.ok .next) t1
   | some v=>afP (model prog w) A (letOwnedTupleGo tg it v) (λ_ t2=>afP (model prog w) A (assign tg env v) (λ_ t3=>
     afP (model prog w) A (forIn ifs true λc r=>if r=true then do let ok <-isTrue c env (eval c env);pure (ml ok) else pure (ml r)) (λok t4=>
      if ok=true then afP (model prog w) A (eval elt env) (λx t5=>afP (model prog w) A (call (.builtin "list.append") [acc,x]) (λ_ t6=>∃m,m < n/\Iv m t6) (NB prog w A env R) t5) (NB prog w A env R) t4
      else ∃m,m < n/\Iv m t4) (NB prog w A env R) t3) (NB prog w A env R) t2) (NB prog w A env R) t1) (NB prog w A env R) t)
  (n:Nat) (h:Iv n s):afH (model prog w) A (.compLoop (.ListComp elt [⟨tg,iter,ifs,0⟩] scope pos) 0 it acc env) R s:=by
 refine codeAny_loop rfl Iv (λn t hI=>?_) n h
 show afP _ A ((compTurn (.ListComp elt [⟨tg,iter,ifs,0⟩] scope pos) 0 it acc env).onRaise (λx=>do noteFrame x env;theTreesLotGoes x)) _ _ t
 refine wpAny_noted ?_
 rw[compTurn_list]
 refine afQ (wpAny_standAt (afQ (afT (turn n t hI) (λr t1 g1=>?_) λ_ _ z=>z)))
 cases r with
 | none=>exact afW g1
 | some v=>
  refine afQ (afT g1 (λ_ t2 g2=>afQ (afT g2 (λ_ t3 g3=>afQ (afT g3 (λok t4 g4=>?_) λ_ _ z=>z)) λ_ _ z=>z)) λ_ _ z=>z)
  cases ok with
  | false=>exact afW ⟨rfl,g4⟩
  | true=>exact afQ (afQ (afT g4 (λx t5 g5=>afQ (afT g5 (λ_ t6 g6=>afW (afW ⟨rfl,g6⟩)) λ_ _ z=>z)) λ_ _ z=>z))
end
section
variable {X:Cx}
theorem xh{pins:List (afw×Obj)}{σ:St}{ρ:bC}{scope:Scope}{x:Str}{xr:List Str}{cs:dH}{es:List Expr}{kt:Nat}{pt pos:Pos}{elt iter:Expr}{ifs:List Expr}{gt:GT}{ge:GE}{ck:Hs->Prop}{ws:List Wv}{E:afC->afB->Prop}
  {RR:afC->afw->Result->afB->Prop}
  {it:afw}{fp:List afw}{tn:Nat->Heap->Prop}{J':It}{H2:Hp}{s2:afB}{m1:Mp}{st1 mO:Hs}(S:lE X scope x xr cs)(sl:eN es (x::xr))(hc:X.calm=true)(I2:Inv X pins σ H2 s2)(T:Turn X.prog X.w X.K (.Tuple es kt pt) J' fp it tn)(t0:tn 0 s2.heap)(f2:∀b∈fp,dY X pins H2 b)
  (S1:bb X.K m1 st1 H2)(R:aw X.K m1 H2 ρ σ)(hck:ck (st1++[.lst []]))(run:fX ck (x::xr).length (λw=>gt (w.map some++ff cs ρ)) (λw=>ge (w.map some++ff cs ρ)) st1.length ws (st1++[.lst []])=some mO)
  (hE:∀C s0 H0 pn,JE (eM X scope (x::xr) cs C s0 H0 fp pn) elt ge)(hT:∀C s0 H0 pn,AQ (eM X scope (x::xr) cs C s0 H0 fp pn) ifs gt)
  (hgo:∀(k:Nat)(H:Hp)(m':Mp)(st:Hs),Ext X.K m1 H2 m' H->bb X.K m' st H->ck st->k < ws.length->J'.go k H)(hstop:∀(k:Nat)(H:Hp)(m':Mp)(st:Hs),Ext X.K m1 H2 m' H->bb X.K m' st H->ck st->k=ws.length->J'.stop k H)
  (hy:∀(k:Nat)(hk:k < ws.length)(H:Hp)(v:V)(H':Hp)(m':Mp)(st:Hs),Ext X.K m1 H2 m' H->bb X.K m' st H->ck st->J'.v_ k H v H'->Ext X.K m' H m' H'/\bb X.K m' st H'/\ag X.K m' H' ws[k] v)
  (fin:∀(D C:afw)(mm:Str->Option afC)(m':Mp)(H':Hp)(s':afB),Ext X.K m1 H2 m' H'->bb X.K m' mO H'->m'[st1.length]? =some D->Inv X pins σ H' s'->dY X pins H' C->s'.heap.Ns C mm->(∀y c,X.env.cells.lookup y=some c->c≠C)->RR (.ref D) C (.ok .next) s') :
  afP (model X.prog X.w) X.A (newList []) (λacc s3=>afP (model X.prog X.w) X.A (newFunctionEnv scope X.env.globals (mM X.env scope.names []) [] X.env.qual none .none (some X.env)) (λcenv s4=>
   afH (model X.prog X.w) X.A (.compStart (.ListComp elt [⟨.Tuple es kt pt,iter,ifs,0⟩] scope pos) 0 (.ref it) acc { cenv with scope:=relabel scope X.env }) (RR acc cenv.locals) s4) E s3) E s2:=by
 refine afU ?_
 have I3:Inv X pins σ (upd H2 s2.heap.objs.size (.lst [])) { s2 with heap:=s2.heap.push { cls:=.type "list",data:=.seq ([]:List afC).toArray } }:=I2.IV (ys:=[]) (its:=[]) (t':=s2.toks) .nil (bG _)
 have Tp:∀b∈fp,b < s2.heap.objs.size:=λb hb=>by
  obtain⟨o,e,_⟩:=T.obj _ _ t0 b hb
  exact aC e
 have hD:H2 s2.heap.objs.size=none:=I2.fresh
 have f3:∀b∈fp,dY X pins (upd H2 s2.heap.objs.size (.lst [])) b:=λb hb=>⟨by rw[aA (aZ (Tp b hb))];exact(f2 b hb).1,(f2 b hb).2⟩
 have S3:=S1.alloc (ws:=[]) (xs:=[]) hD ah.nil
 have e3:Ext X.K m1 H2 (m1++[s2.heap.objs.size]) (upd H2 s2.heap.objs.size (.lst [])):=Ext.more.trans (Ext.upd (.inl hD))
 have Jz:(m1++[s2.heap.objs.size])[st1.length]? =some s2.heap.objs.size:=by
  rw[<-S1.len,fW (au _),ni];rfl
 generalize u_:({ s2 with heap:=s2.heap.push { cls:=.type "list",data:=.seq ([]:List afC).toArray } }:afB)=s3 at I3
 have Tq:∀b o,s2.heap.get? b=some o->s3.heap.get? b=some o:=λb o e=>by rw[<-u_];exact aF _ e
 have Tr:∀b∈fp,b < s3.heap.objs.size:=λb hb=>by
  obtain⟨o,e,_⟩:=T.obj _ _ t0 b hb
  exact aC (Tq b o e)
 generalize hDD:s2.heap.objs.size=D at *
 generalize hH3:upd H2 D (.lst [])=H3 at *
 generalize hm3:m1++[D]=m3 at *
 have R3:aw X.K m3 H3 (ff cs ρ) (nC cs σ):=(AM cs R).mono e3
 generalize hrr:ff cs ρ=ρc at *
 generalize hss:nC cs σ=σc at *
 refine wpAny_newFunctionEnv S.one.cell (λ_ z=>nomatch z) (λh4 WY Ts=>?_) S.one.kind
 have Ic:=inv2 (tk:=s3.toks+([]:List (Str×afC)).length) S hc I3 f3 Tr WY Ts
 rw[hss] at Ic
 have WZ:∀b o,s3.heap.get? b=some o->h4.get? b=some o:=λb o e=>(Ts.2 b (aZ (aC e))).trans (aF _ e)
 have t4:tn 0 h4:=T.keep _ _ _ t0 λb _ o e=>WZ b o (Tq b o e)
 let Xc:=eM X scope (x::xr) cs s3.heap.objs.size s3 H3 fp (X.pn++pins)
 have vis:∀y∈x::xr,Xc.env.scope.names.lookup y=some .local:=λy hy=>lookup_relabel_local (S.var y hy)
 have Xj:Slots Xc es (jl 0 (x::xr).length):=Fl (Y:=Xc) [] (cs.map (·.1)) sl rfl vis
 have N0:∀(H':Hp),(∀b∈fp,H' b=none)->∀b∈fp,dY Xc [] H' b:=λH' hn b hb=>⟨hn b hb,aZ (Tr b hb),qT I3 (f3 b hb),.inl hb,λy c e=>(f3 b hb).2.2.2.2.1 y c (S.one.sub I3.ok e),λp hp=>(f2 b hb).2.2.2.2.2 p (by have Tt:p∈(X.pn++pins)++[]:=hp;rw[fk] at Tt;exact Tt)⟩
 let Pv:Nat->afB->Prop:=λk s'=>∃σ' H' st m',Inv Xc [] σ' H' s'/\aw X.K m' H' (aH (x::xr).length none++ρc) σ'/\tn k s'.heap/\(∀b∈fp,H' b=none)/\Ext X.K m3 H3 m' H'/\bb X.K m' st H'/\ck st/\fX ck (x::xr).length (λw=>gt (w.map some++ρc)) (λw=>ge (w.map some++ρc)) st1.length (ws.drop k) st=some mO
 have loop:∀s4:afB,Pv 0 s4->afH (model X.prog X.w) X.A (.compLoop (.ListComp elt [⟨.Tuple es kt pt,iter,ifs,0⟩] scope pos) 0 (.ref it) (.ref D) (compEnvC scope (mM X.env scope.names []) s3.heap.objs.size X.env)) (RR (.ref D) s3.heap.objs.size) s4:=λs4 p0=>by
  refine Oo (λn s'=>∃k,n=ws.length - k/\k<=ws.length/\Pv k s') ?_ ws.length ⟨0,by simp,bG _,p0⟩
  rintro n s5 ⟨k,rfl,hk,σ5,H5,wk,m5,I5,R5,Tu,MI,e5,S5,c5,bf⟩
  have EY:=e3.trans e5
  by_cases hlt:k < ws.length
  ·refine bp (T.item Xc rfl rfl rfl hc k [] s5 σ5 H5 _ I5 (N0 H5 MI) Tu (hgo k H5 m5 wk EY S5 c5 hlt)) λr s6 h6=>?_
   obtain⟨u,rfl,h6⟩:=h6
   refine bp h6 λ_ s7 h7=>?_
   obtain⟨v,H7,I7,rv,yl,N1,W0⟩:=h7
   obtain⟨eY,S7,Tv⟩:=hy k hlt H5 v H7 m5 wk EY S5 c5 yl
   have Ra:=I7.pinned (N0 H7 W0) (T.obj _ _ N1)
   have e57:=e5.trans eY
   have ed:ws.drop k=ws[k]::ws.drop (k+1):=mj hlt
   rw[ed] at bf
   unfold fX at bf
   cases ep:Fj (x::xr).length ws[k] with
   | none=>rw[ep] at bf;cases bf
   | some us=>
   rw[ep] at bf
   dsimp only at bf
   have ht:ws[k]= .tup us/\us.length=(x::xr).length:=by
    cases eb:ws[k] with
    | tup vs=>
     rw[eb] at ep
     replace ep:(if vs.length=(x::xr).length then some vs else none)=some us:=ep
     by_cases cl:vs.length=(x::xr).length
     ·rw[if_pos cl] at ep;cases ep;exact⟨rfl,cl⟩
     ·rw[if_neg cl] at ep;cases ep
    | _=>rw[eb] at ep;cases ep
   rw[ht.1] at Tv
   unfold ag at Tv
   obtain⟨tb,ys,rfl,f1,f2'⟩:=Tv
   have e5s:qQ (jl 0 (x::xr).length) us (aH (x::xr).length none++ρc)=some (us.map some++ρc):=by
    have q:=Ln us [] (aH (x::xr).length none) ρc (by rw[jg];exact ht.2.symm)
    rw[ht.2] at q
    exact q
   have asg:=uC (X:=Xc) (k:=kt) (pos:=pt) hc (iW S.nd Xj) (ka Xj) (iX Xj) ([]++dG fp s7.heap) s7 σ5 H7 (.ref tb) u (λσ' H'=>H'=H7/\aw X.K m5 H' (us.map some++ρc) σ') Ra rv ⟨tb,ys,rfl,eF.of f1,by rw[<-f2'.length,ht.2];simp,j_ (X:=Xc) f2' (R5.mono eY) e5s λσ' R'=>⟨rfl,R'⟩⟩
   refine afT asg (λ_ s8 h8=>?_) λ_ _ z=>ae z
   obtain⟨σ8,H8,Vo,rfl,R8⟩:=h8
   have back:∀{H':Hp}{s':afB}{m':Mp}{st:Hs},Inv Xc ([]++dG fp s7.heap) σ8 H' s'->Ext X.K m3 H3 m' H'->Ext X.K m5 H8 m' H'->bb X.K m' st H'->ck st->fX ck (x::xr).length (λw=>gt (w.map some++ρc)) (λw=>ge (w.map some++ρc)) st1.length (ws.drop (k+1)) st=some mO->∃n',n' < ws.length - k/\∃k',n'=ws.length - k'/\k'<=ws.length/\Pv k' s' :=
    λ{H' s' m' st} I' e' e8 S' c' r'=>⟨ws.length - (k+1),by omega,k+1,rfl,hlt,σ8,H',st,m',I'.jX,by have q:=Xi (R8.mono e8);rw[ht.2] at q;exact q,T.keep _ _ _ N1 λb hb o e=>(I'.pin (b,o) (dq _ (dq _ (fj hb e)))).1,λb hb=>by
     obtain⟨o,e,_⟩:=T.obj _ _ N1 b hb
     exact(I'.pin (b,o) (dq _ (dq _ (fj hb e)))).2.1,e',S',c',r'⟩
   cases eg:gt (us.map some++ρc) wk with
   | err c Dz=>rw[eg] at bf;cases bf
   | bad=>rw[eg] at bf;cases bf
   | ok b Dz=>
    rw[eg] at bf
    have K_:=hT s3.heap.objs.size s3 H3 (X.pn++pins) (us.map some++ρc) wk σ8 H8 m5 (λb' H'=>b'=b/\∃m',Ext X.K m5 H8 m' H'/\bb X.K m' Dz H') S7 R8 (by rw[eg];exact λm' H' e' S'=>⟨rfl,m',e',S'⟩) ([]++dG fp s7.heap) s8 Vo
    refine afT K_ (λok s9 h9=>?_) λ_ _ z=>ae z
    obtain⟨H9,I9,rfl,m9,e9,S9⟩:=h9
    cases ok with
    | false=>
     dsimp only at bf
     by_cases c6:ck Dz
     ·rw[if_pos c6] at bf
      rw[if_neg cT]
      exact back I9 (e57.trans e9) e9 S9 c6 bf
     ·rw[if_neg c6] at bf;cases bf
    | true=>
     dsimp only at bf
     rw[if_pos rfl]
     cases ee:ge (us.map some++ρc) Dz with
     | err c JB=>rw[ee] at bf;cases bf
     | bad=>rw[ee] at bf;cases bf
     | ok w JB=>
      rw[ee] at bf
      dsimp only at bf
      cases ea:sF (.ref st1.length) w JB with
      | err c N2=>rw[ea] at bf;cases bf
      | bad=>rw[ea] at bf;cases bf
      | ok w2 N2=>
       rw[ea] at bf
       dsimp only at bf
       by_cases c8:ck N2
       ·rw[if_pos c8] at bf
        have el:=hE s3.heap.objs.size s3 H3 (X.pn++pins) (us.map some++ρc) Dz σ8 H9 m9 (λv' H'=>∃m',Ext X.K m9 H9 m' H'/\bb X.K m' JB H'/\ag X.K m' H' w v') S9 (R8.mono e9) (by rw[ee];exact λv' m' H' e' S' r'=>⟨m',e',S',r'⟩) ([]++dG fp s7.heap) s9 I9
        refine afT el (λu2 W3 Tw=>?_) λ_ _ z=>ae z
        obtain⟨v2,EZ,W4,r2,N3,Vp,W5,N4⟩:=Tw
        obtain⟨r,h1,h2⟩:=yO (X:=Xc)
        have eA:=(e57.trans e9).trans Vp
        have ro:ag X.K N3 EZ (.ref st1.length) (.ref D):=by unfold ag;exact⟨D,rfl,eA.pre _ _ Jz⟩
        have rd:=h2 (.ref st1.length) w (.ref D) v2 JB EZ N3 (λ_ H'=>∃m',Ext X.K N3 EZ m' H'/\bb X.K m' N2 H') W5 ro N4 (by rw[ea];exact λv' m' H' e' S' r'=>⟨m',e',S'⟩)
        refine afT (h1 ([]++dG fp s7.heap) W3 σ8 EZ (.ref D) [v2] (.ref D) [u2] _ W4 rfl (.cons r2 .nil) rd) (λ_ s11 h11=>?_) λ_ _ z=>ae z
        obtain⟨_,W6,W7,_,m11,Vq,W8⟩:=h11
        exact back W7 (eA.trans Vq) ((e9.trans Vp).trans Vq) W8 c8 bf
       ·rw[if_neg c8] at bf;cases bf
  ·have ek:k=ws.length:=by omega
   subst ek
   refine bp (T.done Xc rfl rfl rfl hc _ [] s5 σ5 H5 _ I5 (N0 H5 MI) Tu (hstop _ H5 m5 wk EY S5 c5 rfl)) λr s6 h6=>?_
   obtain⟨rfl,I6⟩:=h6
   rw[oo] at bf
   cases bf
   obtain⟨mm,W9,_⟩:=id I6.loc
   have fC:=I3.sx (H':=H5) (au _) I6.free
   exact fin D _ mm m5 H5 _ EY S5 (e5.pre _ _ Jz) (Xh I3 f3 I6) fC W9 fC.2.2.2.2.1
 have Rn:aw X.K m3 H3 (aH (x::xr).length none++ρc) (aH (x::xr).length none++σc):=by
  refine⟨by rw[bZ,bZ,R3.len];simp,λi w e=>?_⟩
  by_cases hi:i < (x::xr).length
  ·rw[eG (by rw[jg];exact hi),uH,if_pos hi] at e
   cases e
  ·rw[fW (by rw[jg];omega),jg] at e ⊢
   exact R3.get _ w e
 have p0:Pv 0 { s3 with heap:=h4,toks:=s3.toks+([]:List (Str×afC)).length }:=⟨_,H3,st1++[Ob.lst []],m3,Ic,Rn,t4,λb hb=>(f3 b hb).1,Ext.refl,S3,hck,by rw[jk];exact run⟩
 exact codeAny_compStart_list (loop _ p0) (T.self X.A 0 _ _ _ t4 (loop _ p0))
def kc(n:Nat)(cs:dH)(gt:GT)(ge:GE)(ρ:bC)(w:TV)(st:Hs):Re Wv:=match fX (vj w.1) n (λv=>gt (v.map some++ff cs ρ)) (λv=>ge (v.map some++ff cs ρ)) st.length w.2 (st++[.lst []]) with
 | some mO=> .ok (.ref st.length) mO
 | none=> .bad
def mv(n:Nat)(cs:dH)(gi:Fh)(gt:GT)(ge:GE):GE:=λρ st=>(gi ρ st).bind λw st1=>kc n cs gt ge ρ w st1
theorem JX{c:Option (Nat×List Wv)}{st more:Hs}(h:vj c st):vj c (st++more):=by
 cases c with
 | none=>trivial
 | some p=>exact tU h
theorem xi{scope:Scope}{x:Str}{xr:List Str}{cs:dH}{es:List Expr}{kt:Nat}{pt pos:Pos}{elt iter:Expr}{ifs:List Expr}{gi:Fh}{gt:GT}{ge:GE}{use:Option (afC->Sem Unit)}{Q:afC->afB->Prop}{P:Wv->Hs->Prop}
  {ρ:bC}{st:Hs}{σ:St}{H:Hp}{m:Mp}{pins:List (afw×Obj)}{s:afB}{ps:Pos}
  (CS:lE X scope x xr cs)(sl:eN es (x::xr))(hc:X.calm=true)(hi:Lk X (.Tuple es kt pt) iter gi)(hE:∀C s0 H0 fp pn,JE (eM X scope (x::xr) cs C s0 H0 fp pn) elt ge)(hT:∀C s0 H0 fp pn,AQ (eM X scope (x::xr) cs C s0 H0 fp pn) ifs gt)(hs:∀x,afK iter X.env x=pure x)
  (S:bb X.K m st H)(R:aw X.K m H ρ σ)(I:Inv X pins σ H s)(p:ax X σ m H (mv (x::xr).length cs gi gt ge ρ st) P)
  (fin:∀(w:Wv)(mO:Hs)(v:V)(D C:afw)(mm:Str->Option afC)(m':Mp)(H':Hp)(s':afB),P w mO->Ext X.K m H m' H'->bb X.K m' mO H'->ag X.K m' H' w v->v= .ref D->Inv X pins σ H' s'->dY X pins H' C->s'.heap.Ns C mm->afI (model X.prog X.w) X.A X.xe use Q (.ref D) C (.ok .next) s') :
  afP (model X.prog X.w) X.A (comprehension (.ListComp elt [⟨.Tuple es kt pt,iter,ifs,0⟩] scope pos) scope X.env ps (newList []) false (eval iter X.env) use) Q X.xe s:=by
 obtain⟨wi,TF,hw⟩:=hi
 let R':It->Hp->Prop:=λJ' H1=>∃(w:TV)(st1:Hs)(m1:Mp),ax X σ m H (kc (x::xr).length cs gt ge ρ w st1) P/\Ext X.K m H m1 H1/\bb X.K m1 st1 H1/\vj w.1 st1/\Fg X w m1 H1 J'
 have hr:=hw ρ st σ H m R' S R ((ax.bind p).imp Ext.refl λw st1 q m1 H1 J' e1 S1 c1 vb=>⟨w,st1,m1,q,e1,S1,c1,vb⟩)
 refine wpAny_comprehension_free (g:=⟨.Tuple es kt pt,iter,ifs,0⟩) (gs:=[]) (cl:=mM X.env scope.names []) rfl hs (AL (CS.one.has I.ok)) CS.one.kind (λy hy e=>by rw[CS.one.look y hy,e]) (bp (TF pins s σ H R' I hr) λv s1 h1=>bp h1 λitv s2 h2=>?_)
 obtain⟨it,fp,tn,J',H1,rfl,I2,T,t0,f2,w,st1,m1,q,e1,S1,c1,vb⟩:=h2
 unfold kc at q
 cases run:fX (vj w.1) (x::xr).length (λv=>gt (v.map some++ff cs ρ)) (λv=>ge (v.map some++ff cs ρ)) st1.length w.2 (st1++[.lst []]) with
 | none=>rw[run] at q;exact ae q
 | some mO=>
  rw[run] at q
  refine xh (RR:=λacc C=>afI (model X.prog X.w) X.A X.xe use Q acc C) CS sl hc I2 T t0 f2 S1 (R.mono e1) (JX c1) run (λC s0 H0 pn=>hE C s0 H0 fp pn) (λC s0 H0 pn=>hT C s0 H0 fp pn) vb.go vb.stop vb.v_ ?_
  intro D C mm m' H' s' e' S' Jz I' fC ns _
  exact fin _ mO (.ref D) D C mm m' H' s' q (e1.trans e') S' (by unfold ag;exact⟨D,rfl,Jz⟩) rfl I' fC ns
theorem xj{scope:Scope}{x:Str}{xr:List Str}{cs:dH}{es:List Expr}{kt:Nat}{pt pos:Pos}{elt iter:Expr}{ifs:List Expr}{gi:Fh}{gt:GT}{ge:GE}
  (CS:lE X scope x xr cs)(sl:eN es (x::xr))(hc:X.calm=true)(hi:Lk X (.Tuple es kt pt) iter gi)(hE:∀C s0 H0 fp pn,JE (eM X scope (x::xr) cs C s0 H0 fp pn) elt ge)(hT:∀C s0 H0 fp pn,AQ (eM X scope (x::xr) cs C s0 H0 fp pn) ifs gt)(hs:∀x,afK iter X.env x=pure x) :
  JE X (.ListComp elt [⟨.Tuple es kt pt,iter,ifs,0⟩] scope pos) (mv (x::xr).length cs gi gt ge):=λρ st σ H m Q S R p pins s I=>by
 rw[eval_ListComp]
 refine xi (use:=none) CS sl hc hi hE hT hs S R I p ?_
 intro w mO v D C mm m' H' s' q e' S' rw' ev I' fC ns
 exact⟨mm,ns,λh' same=>⟨.ref D,H',lB I' fC same,rfl,ev ▸ q v m' H' e' S' rw'⟩⟩
theorem Fn(i:Nat){scope:Scope}{x y:Str}{xr:List Str}{cs:dH}{es:List Expr}{kt:Nat}{pt pos spos py:Pos}{elt iter:Expr}{ifs:List Expr}{gi:Fh}{gt:GT}{ge:GE}(hN:X.N.Nodup)
  (CS:lE X scope x xr cs)(sl:eN es (x::xr))(hc:X.calm=true)(hi:Lk X (.Tuple es kt pt) iter gi)(hE:∀C s0 H0 fp pn,JE (eM X scope (x::xr) cs C s0 H0 fp pn) elt ge)(hT:∀C s0 H0 fp pn,AQ (eM X scope (x::xr) cs C s0 H0 fp pn) ifs gt)(hs:∀x,afK iter X.env x=pure x)
  (hx:X.N[i]? =some y)(hl:Loc X.env.scope y)(hf:X.fn y=true\/X.env.scope.names.lookup y=some .local) :
  JS X (.Assign [.Name y py] (.ListComp elt [⟨.Tuple es kt pt,iter,ifs,0⟩] scope pos) spos) (aX i (mv (x::xr).length cs gi gt ge)):=by
 have sw:∃b,swapsWith (.ListComp elt [⟨.Tuple es kt pt,iter,ifs,0⟩] scope pos) (some (.Name y py)) spos.line X.env=pure b:=⟨_,rfl⟩
 obtain⟨b,sw⟩:=sw
 cases b with
 | false=>exact u5 i hN (xj CS sl hc hi hE hT hs) hx hl sw hf
 | true=>
  intro ρ st σ H m D S R p pins s I
  rw[exec_Assign_Name_used _ _ _ _ sw]
  refine afQ (wpAny_standAt (afQ ?_))
  show afP _ X.A (do let _ <-comprehension (.ListComp elt [⟨.Tuple es kt pt,iter,ifs,0⟩] scope pos) scope X.env _ (newList []) false (eval iter X.env) (some (assign (.Name y py) X.env))) _ _ s
  refine afQ (afT (xi (use:=some (assign (.Name y py) X.env)) (Q:=λ_ s'=>SP X pins D .next s') CS sl hc hi hE hT hs S R I (aE.cK R p) ?_) (λ_ s' hq=>afW (afW hq)) λ_ _ e=>e)
  intro w mO v D' C mm m' H' s' q e' S' rw' ev I' fC ns
  refine wpAny_assign_Name (n6 (i:=i) I' hN hx hl (show RelV v (.ref D') by rw[ev];rfl) (λs2 I2 h2=>?_) hf)
  obtain⟨a,sb,ha⟩:=h2
  have hca:C≠a:=by
   rcases ha with z | z
   ·rw[z];exact fC.2.1
   ·exact ay (fC.2.2.2.2.1 y a z)
  exact⟨mm,ns.sameBut sb hca,λh' same=>⟨_,_,lB I2 fC same,q _ m' H' e' S' ((R.mono e').set i rw')⟩⟩
end
section
variable {X:Cx}
end
section
open PySem.SeqAt PySem.MeetsSeq PySem.MeetsSeq2 PySem.MeetsSeq3
end
section
variable {X:Cx}
end
section
variable {X:Cx}
end
section
variable {X:Cx}
def Fo(kvs:Dc)(gk gx:GE):GE:=λρ st=>(gk ρ st).bind λk st1=>(gx ρ st1).bind λx st2=>match k with
 | .str z=> .ok ((kvs.lookup z).getD x) st2
 | _=> .bad
theorem Fp{e f:Expr}{gk gx:GE}{x:Str}{p apos cpos:Pos}{kvs:Dc}(he:JE X e gk)(hf:JE X f gx)(M:M2 X (.Name x p) "get" apos e f cpos)(hg:Gl X x)(hd:(x == ("__debug__":Str))=false)(D:xf X.K X.w X.mg x kvs):JE X (.Call (.Attribute (.Name x p) "get" apos) [e,f] [] cpos) (Fo kvs gk gx):=by
 intro ρ st σ H m Q S R pp pins s I
 obtain⟨a,es,ep,g1,g2,g3,g4,g5⟩:=D
 have k1:=he.go (T:=λy H2=>∃k st1 m1,cU X σ m H ((gx ρ st1).bind λx st2=>match k with | .str z=> .ok ((kvs.lookup z).getD x) st2 | _=> .bad) Q/\Ext X.K m H m1 H2/\bb X.K m1 st1 H2/\ag X.K m1 H2 k y) S R (ax.bind pp) λw st1 v m1 H1 p1 e1 S1 rw'=>⟨w,st1,m1,p1,e1,S1,rw'⟩
 refine wpAny_Call_method M.base M.few M.line PySem.F.plainAttrs_dict PySem.F.slot_dict_get PySem.F.type_dict_get (bp (jd (v:=.ref a) hg g1 rfl hd pins s σ H (λv H2=>v= .ref a/\H2=H) I ⟨rfl,rfl⟩) λu s1 ⟨v,H1,I1,rv,ev,eH⟩=>?_)
 subst ev
 cases eH
 obtain rfl:u=aN a:=rv
 refine⟨⟨_,I1.v9 _ _ g2,rfl⟩,λa' e=>by cases e;exact⟨_,I1.v9 _ _ g2,rfl⟩,?_⟩
 rw[M.trees]
 refine yv rfl (uP (l_ (bp (k1 pins s1 I1) λiv s2 ⟨y,H2,I2,ry,k,st1,m1,p1,e1,S1,rk⟩=>?_)))
 have k2:=hf.go (T:=λz H3=>∃x' st2 m2,cU X σ m H (match k with | .str z=> .ok ((kvs.lookup z).getD x') st2 | _=> .bad) Q/\Ext X.K m H m2 H3/\bb X.K m2 st2 H3/\ag X.K m2 H3 x' z) S1 (R.mono e1) ((ax.bind p1).imp e1 λ_ _ q=>q) λw st2 v m2 H3 p2 e2 S2 rw'=>⟨w,st2,m2,p2,e1.trans e2,S2,rw'⟩
 refine l_ (bp (k2 pins s2 I2) λfv s3 ⟨z,H3,I3,rz,x',st2,m2,p2,e2,S2,rx⟩=>uE ?_)
 cases k with
 | str zs=>
  obtain⟨rfl,_⟩:=eK rk
  obtain⟨t,rfl⟩:=(show ∃t,iv=pZ zs t from ry)
  obtain⟨vs,dd,look⟩:=A5 (P:=X.prog) (w:=X.w) I3.v9 g2 g4 g5
  refine call_meetsIn PySem.F.slot_dict_get dd.typeIs PySem.F.entry_dict_get (PySem.F.args_dict_get_3 _ _ _) (meets_dict_get_default (PySem.strKind X.prog X.w) a (strKind_is X.prog X.w zs t) g3 fv) ⟨_,dd.mapOf,?_⟩
  have p2':Q6 X.K m H Q ((kvs.lookup zs).getD x') st2:=p2
  cases e:kvs.lookup zs with
  | none=>
   rw[e] at p2'
   have q:=(look zs).1 e
   show EP X pins σ Q ((valueAt vs zs).getD fv) _
   rw[q]
   exact⟨z,H3,I3.tok _,rz,p2' z m2 H3 e2 S2 rx⟩
  | some u=>
   rw[e] at p2'
   obtain⟨u',q1,q2⟩:=(look zs).2 u e
   show EP X pins σ Q ((valueAt vs zs).getD fv) _
   rw[q1]
   cases u with
   | int i=>exact⟨.int i,H3,I3.tok _,q2,p2' _ m2 H3 e2 S2 (by unfold ag;rfl)⟩
   | str y=>exact⟨.str y,H3,I3.tok _,q2.1,p2' _ m2 H3 e2 S2 (by unfold ag;exact⟨rfl,q2.2⟩)⟩
   | _=>exact ae q2
 | _=>exact ae p2
end
def Oq:List Wv->Hs->Re Wv:=λ_ _=> .bad
theorem A8{P:afA}{w:afD}{K:PySem.W.Frag}{mg:Str->Option afC}{base:Heap}{h:Heap}{k:Nat}{x:Str}{st:Stmt}{ps:List Str}(KX:K.In h)(NS:h.Ns afM mg)(D:bq K x st)
  (hb:∀(kV doc pm:afC)(an:Option afw)(cdv ct:afC)(us:List afC),us.length=ps.length->bindArgs (PySem.W.fnOf x x (defArgs st) (defBody st) (defScope st) .none kV doc pm an cdv ct) ⟨us,[]⟩=pure (ps.zip us)) :
  tP P w K mg base k x ps.length Oq:=by
 obtain⟨f,fd,a,F⟩:=D
 exact⟨f,fd,ps,⟨λvs H Q E ⟨_,_,_,_,_,_,p⟩=>ae p,λA outer s H args us vs Q E hr e0 hb r ⟨_,_,_,_,_,_,p⟩=>ae p⟩,PySem.W.mg_of KX NS a,F.kp,F.binds hb⟩
section
variable {X:Cx}
theorem Fq:fD X (afF .Mult) (λx y H Q=>∃z n,x= .str z/\y= .int n/\(n=0\/n=1)/\Q (.str (if n=0 then PySem.Str.empty else z)) H):=by
 intro pins s σ H x y v u Q I rx ry h
 obtain⟨z,n,rfl,rfl,hn,q⟩:=h
 obtain⟨t,rfl⟩:=rx
 obtain⟨t',rfl⟩:=ry
 rcases hn with rfl | rfl
 ·exact PySem.P.mul_str_none (by omega) (by omega) ⟨.str PySem.Str.empty,H,I.tok _,⟨_,rfl⟩,q⟩
 ·refine PySem.P.mul_str (by decide) (λ_ h=>by cases h) (λ_ h=>by cases h) ?_
  rw[if_neg (by omega),if_pos (by rfl)]
  exact⟨.str z,H,I,⟨t,rfl⟩,q⟩
def cG:gA:=λx y st=>match x,y with
 | .str z,.int n=>if n=0\/n=1 then .ok (.str (if n=0 then PySem.Str.empty else z)) st else qV (.str z) (.int n) st
 | x,y=>qV x y st
theorem Fs:lq X (afF .Mult) cG:=by
 obtain⟨r,h1,h2⟩:=JC (X:=X)
 refine⟨_,fD.or Fq h1,λx y a b st H m Q S rx ry p=>?_⟩
 cases x with
 | str z=>
  cases y with
  | int n=>
   have p':eo X.K m H (if n=0\/n=1 then .ok (.str (if n=0 then PySem.Str.empty else z)) st else qV (.str z) (.int n) st) Q:=p
   by_cases c:n=0\/n=1
   ·rw[if_pos c] at p'
    obtain⟨rfl,ok⟩:=eK rx
    refine .inl ⟨z,n,rfl,aL ry,c,p' _ m H Ext.refl S (mkStr ?_)⟩
    by_cases c0:n=0
    ·rw[if_pos c0];decide+kernel
    ·rw[if_neg c0];exact ok
   ·rw[if_neg c] at p'
    exact .inr (h2 _ _ _ _ st H m Q S rx ry p')
  | _=>exact .inr (h2 _ _ _ _ st H m Q S rx ry p)
 | _=>exact .inr (h2 _ _ _ _ st H m Q S rx ry p)
end
abbrev LF:=List Wv->List Wv->Hs->Re Wv
def ie(X:Cx)(H:Hp)(s:afB):Heap:=PySem.W.hideAll (sv s.heap H) (frs X.stack)
section
variable {X:Cx} {pins:List (afw×Obj)} {σ:St} {H:Hp} {s:afB}
theorem TX{b:afw}{o:Obj}(e:(ie X H s).get? b=some o):s.heap.get? b=some o/\H b=none:=Aj (PySem.W.of_hideAll _ e)
theorem yV{b:afw}{o:Obj}(e:s.heap.get? b=some o)(n:H b=none)(hf:b∉frs X.stack):(ie X H s).get? b=some o:=PySem.W.hideAll_get _ (mR e n) hf
theorem q_(I:Inv X pins σ H s):∀b o,X.base.get? b=some o->(ie X H s).get? b=some o:=λb o e=>by
 obtain⟨e1,e2⟩:=I.bs b o e
 refine yV e1 e2 λz=>?_
 rcases List.mem_cons.mp (I.jV b z) with q | q
 ·have h1:X.base.get? b=none:=by
   rw[q]
   exact Ml (bu I.ok.BQ I.ok.above)
  rw[e] at h1;cases h1
 ·exact I.ok.RC e q
theorem Ft(I:Inv X pins σ H s):Mod X.K X.mg (ie X H s) :=
 ⟨I.mod.Iq.keeps (q_ I),I.mod.glob.keeps (q_ I),let ⟨mb,h1,h2⟩:=I.mod.blt;⟨mb,h1.keeps (q_ I),h2⟩,I.mod.nolimit.keeps (q_ I)⟩
theorem A9{h B B':Heap}:∀{l:List Env},(∀env∈l,∀L,env.frame=some L->B'.get? L=none)->h.FunFrames B l->h.FunFrames B' l
 | [],_,_=>trivial
 | env::r,hn,⟨hk,⟨L,o,hf,_,ho,hd⟩,hr⟩=>⟨hk,⟨L,o,hf,hn env (.head _) L hf,ho,hd⟩,A9 (λe he=>hn e (.tail _ he)) hr⟩
theorem JY(I:Inv X pins σ H s):uF X.prog X.w X.K X.mg (ie X H s) X.A X.stack s H :=
 ⟨I.ok.frames,Ft I,λb o e=>TX e,by unfold ie;rw[PySem.W.hideAll_size,sX];exact au _,
  A9 (λenv he L hL=>PySem.W.hideAll_none _ (List.mem_filterMap.mpr ⟨env,he,hL⟩)) I.stack,I.kU,I.hok,I.bare⟩
end
def spL(K:PySem.W.Frag)(n:Nat)(p:Lm)(L:LF):Sp:=λvs H Q E=>∃m st ws caps,bb K m st H/\ah K m H ws vs/\ah K m H caps p.xs/\H p.c=some (.ext (qH p.c p.q))/\ws.length=n/\Ez K m H (L caps ws st) Q E
def rb(P:afA)(w:afD)(K:PySem.W.Frag)(mg:Str->Option afC)(base:Heap)(k:Nat)(p:Lm)(n:Nat)(L:LF):Prop :=
 ∃fd ps ob,FnOk P w K mg base (CXJ P w) k p.a fd ps (spL K n p L)/\base.get? p.a=some ob/\ob.data= .func fd/\Binds K fd ps []
open Classical in
def mw(p:Lm)(n:Nat)(L:LF)(i:Nat)(g:GA):GE:=λρ st=>match ρ[i]? with
 | some (some (.fn p' caps))=>if p'=p then(g ρ st).bind λws st1=>if ws.length=n then L caps ws st1 else .bad else .bad
 | _=> .bad
section
variable {X:Cx}
theorem Fv{k n:Nat}{p:Lm}{L:LF}{x:Str}{i:Nat}{pp pos:Pos}{e:Expr}{es:List Expr}{g:GA}(G:rb X.prog X.w X.K X.mg X.base k p n L)(hr:iE k X.A)(hN:X.N[i]? =some x)(hv:Q1 X.env.scope x)(ha:JA X (e::es) g)
  (hd:(x == ("__debug__":Str))=false)(hcd:(x == ("__classdict__":Str))=false)(he:afO (e::es) X.env=(false,eval e X.env)::afO es X.env:=by rfl)(hpl:(backTo pos (afO es X.env)).any (·.1)=false:=by rfl) :
  JE X (.Call (.Name x pp) (e::es) [] pos) (mw p n L i g):=by
 intro ρ st σ H m Q S R pq pins s I
 unfold mw at pq
 cases er:ρ[i]? with
 | none=>rw[er] at pq;exact ae pq
 | some ow=>
  rw[er] at pq
  cases ow with
  | none=>exact ae pq
  | some w=>
   cases w with
   | fn p' caps=>
    dsimp only at pq
    by_cases ep:p'=p
    ·rw[if_pos ep] at pq
     subst ep
     obtain⟨v,ev,rv⟩:=R.get i _ er
     have rv0:=rv
     unfold ag at rv
     obtain⟨rfl,hc,rc⟩:=rv
     obtain⟨fd,ps,ob,F,ho,hod,hb⟩:=G
     have args:=ha.go (T:=λvs H1=>∃ws st1 m1,cU X σ m H (if ws.length=n then L caps ws st1 else .bad) Q/\Ext X.K m H m1 H1/\bb X.K m1 st1 H1/\ah X.K m1 H1 ws vs) S R (ax.bind pq)
      λws st1 vs m1 H1 p1 e1 S1 rs=>⟨ws,st1,m1,p1,e1,S1,rs⟩
     refine wpAny_Call_Name_kw (bp (DF hN hv hd hcd pins s σ H (λv H'=>v= .ref p'.a/\H'=H) I ⟨_,ev,rfl,rfl⟩) λu s0 ⟨v,H0,I0,r0,hv0,hH0⟩=>?_)
     subst hv0 hH0
     obtain rfl:u=aN p'.a:=r0
     let K1:PySem.W.Frag:=[(p'.a,ob)]
     have k1:PySem.W.keepIn K1 (.ref p'.a)=true:=by
      obtain⟨oc,od,da,sl⟩:=ob
      dsimp only at hod
      subst hod
      simp[PySem.W.keepIn,K1]
     have TY:∀{h:Heap},h.get? p'.a=some ob->K1.In h:=λ{h} q a o e=>by
      simp only[K1,cq,List.lookup_nil] at e
      cases q2:a == p'.a with
      | true=>rw[q2] at e;cases e;rw[eq_of_beq q2];exact q
      | false=>rw[q2] at e;cases e
     refine PySem.W.callWith_K (K:=K1) (h₀:=X.base) (TY ho) k1 (bp (args pos pins s0 I0) λus s1 ⟨vs,H1,I1,r,ws,st1,m1,p1,e1,S1,rs⟩=>⟨TY (I1.bk _ _ ho),?_⟩) he hpl
     by_cases c:ws.length=n
     ·rw[if_pos c] at p1
      let E:XK:=λcl _ H2=>∃c' st2 m2 C,cl= .ref C/\ClsAt X.K c' C/\L caps ws st1= .err c' st2/\Ext X.K m1 H1 m2 H2/\bb X.K m2 st2 H2
      have sp:spL X.K n p' L vs H1 Q E:=by
       refine⟨m1,st1,ws,caps,S1,rs,ah.mono e1 _ _ rc,e1.ext _ _ hc,c,?_⟩
       cases er:L caps ws st1 with
       | ok w st2=>rw[er] at p1;exact cU.shift (r:=.ok w st2) p1 e1
       | err c' st2=>exact λm2 H2 C e2 S2 hC=>⟨c',st2,m2,C,rfl,hC,er,e2,S2⟩
       | bad=>rw[er] at p1;exact ae p1
      have hl:us.length=ps.length:=by rw[<-r.length];exact F.len _ _ _ _ sp
      have bd:=hb s1 us I1.v9 (by rw[fk];exact hl)
      rw[fk] at bd
      refine wpAny_call (codeAny_mono (F.run X.A X.stack s1 H1 ⟨us,[]⟩ us vs Q E hr I1.MT bd r sp) λrr s2 hq=>?_)
      cases rr with
      | error x=>
       obtain⟨H2,C,fl,c',st2,m2,C',ec,hC,er,e2,S2⟩:=hq
       cases ec
       rw[er] at p1
       exact p1 m2 H2 x s2 (e1.trans e2) S2 ⟨C,pins,H1,s1,hC,I1,.inl fl.any⟩
      | ok fw=>
       cases fw with
       | ret u=>exact I1.after hq
       | next=>exact ae hq
       | brk=>exact ae hq
       | cont=>exact ae hq
     ·rw[if_neg c] at p1;exact ae p1
    ·rw[if_neg ep] at pq;exact ae pq
   | _=>exact ae pq
end
def freeOf(sc:Scope):List Str:=(sc.names.filter λp=>decide (p.2= .free)).map (·.1)
structure A_(sc:Scope)(x1 x2 x3 y:Str):Prop where
 kind:sc.kind= .function
 co:sc.isCoroutine=false
 gen:sc.isGenerator=false
 Fw:∀p∈sc.names,p.2≠.cell
 p1:sc.names.lookup x1=some .local
 p2:sc.names.lookup x2=some .local
 p3:sc.names.lookup x3=some .local
 fr:freeOf sc=[y]
 fy:sc.names.lookup y=some .free
 nd:[x1,x2,x3,y].Nodup
abbrev jm(x1 x2 x3:Str)(a1 a2 a3:Option Expr)(q1 q2 q3:Pos):Arguments:=⟨[],[⟨x1,a1,q1⟩,⟨x2,a2,q2⟩,⟨x3,a3,q3⟩],none,[],[],none,[]⟩
theorem Fx{x1 x2 x3:Str}{a1 a2 a3:Option Expr}{q1 q2 q3:Pos}{name qual:Str}{body:Expr}{scope:Scope}{cl:List (Str×afw)}{pm cdv ct:afC}(TZ:x1≠x2)(T4:x1≠x3)(T5:x2≠x3)(u1 u2 u3:afC) :
  bindArgs (PySem.W.kla_fn name qual (jm x1 x2 x3 a1 a2 a3 q1 q2 q3) body scope cl pm cdv ct) ⟨[u1,u2,u3],[]⟩=pure [(x1,u1),(x2,u2),(x3,u3)]:=by
 have h:([x1,x2,x3]:List Str).filter (λn=>(nB n [(x1,u1),(x2,u2),(x3,u3)]).isNone)=[]:=by
  rw[List.filter_eq_nil_iff]
  intro n hn
  simp only[aP,aR,or_false] at hn
  simp only[cq,List.lookup_nil]
  rcases hn with rfl | rfl | rfl
  ·simp
  ·split<;>simp
  ·split
   ·simp
   ·split<;>simp
 have e21:(x2 == x1)=false:=beq_eq_false_iff_ne.mpr (ay TZ)
 have e31:(x3 == x1)=false:=beq_eq_false_iff_ne.mpr (ay T4)
 have e32:(x3 == x2)=false:=beq_eq_false_iff_ne.mpr (ay T5)
 have hs:notAStandIn bY=pure ():=rfl
 unfold bindArgs
 simp[seqItems?,h,hs,cq,e21,e31,e32]
abbrev xk(p:Lm)(scope:Scope)(L:afw)(cl:List (Str×afw)):Env:=PySem.W.envX p.q scope L p.a (.ref p.c) cl
def Ig(P:afA)(w:afD)(K:PySem.W.Frag)(mg:Str->Option afC)(base:Heap)(N:List Str)(p:Lm)(scope:Scope)(cl:List (Str×afw))(A:afx)(outer:List Env)(s:afB)(H:Hp)(E:XK):Cx where
 prog:=P
 w:=w
 K:=K
 mg:=mg
 base:=base
 A:=A.deeper (xk p scope s.heap.objs.size cl)
 N:=N
 s₀:=s
 H₀:=H
 env:=xk p scope s.heap.objs.size cl
 outer:=outer
 stack:=xk p scope s.heap.objs.size cl::outer
 ex:=[]
 fn:=λ_=>false
 calm:=true
 pn:=[]
 xe:=λe s'=>afP (model P w) (A.deeper (xk p scope s.heap.objs.size cl)) (leaving (xk p scope s.heap.objs.size cl) e) (λ_ s''=>CXJ P w outer H s E e s'') (λe' s''=>CXJ P w outer H s E e' s'') s'
theorem Fy{y x:Str}{c c':afw}(h:nB x [(y,c)]=some c'):x=y/\c'=c:=by
 rw[cq] at h
 cases q:x == y with
 | true=>rw[q] at h;cases h;exact⟨eq_of_beq q,rfl⟩
 | false=>rw[q] at h;cases h
theorem Fz{l:List (Str×afz)}{x:Str}(h:l.lookup x=some .free):x∈(l.filter λp=>decide (p.2= .free)).map (·.1) :=
 List.mem_map.mpr ⟨(x,.free),List.mem_filter.mpr ⟨PySem.mem_of_lookup h,by simp⟩,rfl⟩
section
variable {P:afA} {w:afD} {K:PySem.W.Frag} {mg:Str->Option afC} {base:Heap} {p:Lm} {scope:Scope} {x1 x2 x3 y:Str} {cy:afw}
theorem xl{N:List Str}{cl:List (Str×afw)}{A:afx}{outer:List Env}{s s':afB}{H H':Hp}{E:XK}{σ:St}{c:PySem.Str}{e:afC}
  (r:qI (Ig P w K mg base N p scope cl A outer s H E) σ H' c e s')(h:∀C,ClsAt K c C->E (.ref C) none H'):(Ig P w K mg base N p scope cl A outer s H E).xe e s':=by
 obtain⟨C,pins,Hc,sc,hC,I,r⟩:=r
 rcases r with fl | ⟨rfl,a,args,rfl,ho,hg,M⟩
 ·exact j7 (X:=Ig P w K mg base N p scope cl A outer s H E) rfl rfl rfl I fl λs2 tM=>⟨H',C,tM,h C hC⟩
 ·exact mh (X:=Ig P w K mg base N p scope cl A outer s H E) rfl rfl rfl I ho hg M λs2 tM=>⟨H',C,tM,h C hC⟩
theorem JZ{A:afx}{outer:List Env}{s:afB}{H:Hp}{E:XK}{v1 v2 v3 vy:V}{u1 u2 u3 uy:afC}{oc:Obj}{h1:Heap}{tk:Nat}(S:A_ scope x1 x2 x3 y)(hd:A.handled=none)(e0:uF P w K mg base A outer s H)
  (r1:RelV v1 u1)(r2:RelV v2 u2)(r3:RelV v3 u3)(ry:RelV vy uy)(hc:base.get? cy=some oc)(hcd:oc.data= .cell (some uy))
  (hns:h1.Ns s.heap.objs.size (λx=>([(x1,u1),(x2,u2),(x3,u3)]:List (Str×afC)).reverse.lookup x))(hk:∀b o,s.heap.get? b=some o->h1.get? b=some o) :
  Inv (Ig P w K mg base [x1,x2,x3,y] p scope [(y,cy)] A outer s H E) [] [some v1,some v2,some v3,some vy] H { s with heap:=h1,toks:=tk }:=by
 have MV:∀b:afw,b∉(Ig P w K mg base [x1,x2,x3,y] p scope [(y,cy)] A outer s H E).ex:=λb z=>absurd (show b∈([]:List afw) from z) (by simp)
 have nd:=S.nd
 simp only[jn,aP,aR,or_false,not_or,hZ,and_true,not_false_eq_true] at nd
 obtain⟨⟨TZ,T4,_⟩,⟨T5,_⟩,_⟩:=nd
 have e12:(x1 == x2)=false:=beq_eq_false_iff_ne.mpr TZ
 have yG:(x1 == x3)=false:=beq_eq_false_iff_ne.mpr T4
 have e23:(x2 == x3)=false:=beq_eq_false_iff_ne.mpr T5
 have Lp:∀x c,nB x [(y,cy)]=some c->s.heap.get? c=some oc/\H c=none:=λx c h=>by
  obtain⟨_,rfl⟩:=Fy h
  exact e0.bs _ _ hc
 refine⟨⟨e0.mod,S.kind,rfl,rfl,au _,λa b c h1 h2=>?_,λa ha=>?_,(λa c h=>by cases h),λ_=>hd,R7 e0.frames,.inr ⟨rfl,rfl⟩,λb z=>absurd z (MV b),e0.bs,e0.BQ,λb _ _=>MV b,λb z=>absurd z (MV b),e0.jO,e0.DD⟩,
  rfl,e0.bare,Un.kept hk,⟨_,hns,λi a v h1 h2 h3=>?_⟩,λa c h=>⟨some uy,oc,hk _ _ (Lp a c h).1,hcd⟩,e0.hok.fresh (au _),λa c h=>(Lp a c h).2,λq hq=>absurd (show q∈([]:List (afw×Obj)) from hq) (by simp),e0.hok.kept hk,rfl⟩
 ·exact(Fy h1).1.trans (Fy h2).1.symm
 ·have ha:scope.names.lookup a=some .cell\/scope.names.lookup a=some .free:=ha
  rcases ha with ha | ha
  ·exact absurd rfl (S.Fw _ (PySem.mem_of_lookup ha))
  ·have q:=Fz ha
   have q2:a∈freeOf scope:=q
   rw[S.fr] at q2
   simp at q2
   subst q2
   exact⟨cy,by show nB a [(a,cy)]=_;simp⟩
 ·match i,h1,h2 with
  | 0,h1,h2=>
   cases h1;cases h2
   exact⟨u1,r1,.inl ⟨S.p1,by simp[cq,e12,yG]⟩⟩
  | 1,h1,h2=>
   cases h1;cases h2
   exact⟨u2,r2,.inl ⟨S.p2,by simp[cq,e23]⟩⟩
  | 2,h1,h2=>
   cases h1;cases h2
   exact⟨u3,r3,.inl ⟨S.p3,by simp[cq]⟩⟩
  | 3,h1,h2=>
   cases h1;cases h2
   exact⟨uy,ry,.inr ⟨.inr S.fy,cy,by show nB y [(y,cy)]=_;simp,oc,hk _ _ (e0.bs _ _ hc).1,hcd⟩⟩
  | i+4,h1,h2=>simp[Ig] at h1
def lP(g:GE):LF:=λcaps ws st=>g (ws.map some++caps.map some) st
theorem Ot{m:Mp}{H:Hp}{ws:List Wv}{vs:List V}(r:ah K m H ws vs)(h:ws.length=3):∃w1 w2 w3 v1 v2 v3,ws=[w1,w2,w3]/\vs=[v1,v2,v3]/\ag K m H w1 v1/\ag K m H w2 v2/\ag K m H w3 v3:=by
 match ws,h with
 | [w1,w2,w3],_=>
  unfold ah at r
  obtain⟨v1,t1,rfl,r1,r⟩:=r
  unfold ah at r
  obtain⟨v2,t2,rfl,r2,r⟩:=r
  unfold ah at r
  obtain⟨v3,t3,rfl,r3,r⟩:=r
  unfold ah at r
  subst r
  exact⟨w1,w2,w3,v1,v2,v3,rfl,rfl,r1,r2,r3⟩
theorem Ou{k:Nat}{a1 a2 a3:Option Expr}{q1 q2 q3:Pos}{body:Expr}{pm ctv uy:afC}{vy:V}{oc:Obj}{gb:GE}(S:A_ scope x1 x2 x3 y)(hxs:p.xs=[vy])
  (hf:base.get? p.a=some (PySem.W.kla_obj "<lambda>" p.q (jm x1 x2 x3 a1 a2 a3 q1 q2 q3) body scope [(y,cy)] pm p.c ctv))(hc:base.get? cy=some oc)(hcd:oc.data= .cell (some uy))(ry:RelV vy uy)
  (hb:∀(A:afx)(outer:List Env)(s:afB)(H:Hp)(E:XK),iE k (A.deeper (xk p scope s.heap.objs.size [(y,cy)]))->JE (Ig P w K mg base [x1,x2,x3,y] p scope [(y,cy)] A outer s H E) body gb) :
  rb P w K mg base (k+1) p 3 (lP gb):=by
 have nd:=S.nd
 simp only[jn,aP,aR,or_false,not_or,hZ,and_true,not_false_eq_true] at nd
 obtain⟨⟨TZ,T4,_⟩,⟨T5,_⟩,_⟩:=nd
 refine⟨_,[x1,x2,x3],_,⟨λvs H Q E h=>?_,λA outer s H args us vs Q E hr e0 hbi r DQ=>?_⟩,hf,rfl,Binds.all λus hl=>?_⟩
 ·obtain⟨m,st,ws,caps,_,r,_,_,hl,_⟩:=h
  rw[<-r.length];exact hl
 ·obtain⟨m,st,ws,caps,S',rs,rc,WQ,hl,post⟩:=DQ
  obtain⟨w1,w2,w3,v1,v2,v3,rfl,rfl,s1,s2,s3⟩:=Ot rs hl
  rw[hxs] at rc
  have rc0:=rc
  have hcl:=rc.length
  obtain⟨wy,rfl⟩:∃wy,caps=[wy]:=by
   match caps,hcl with
   | [wy],_=>exact⟨wy,rfl⟩
  unfold ah at rc
  obtain⟨vy',t,e,ryw,_⟩:=rc
  cases e
  rcases r with _ | ⟨r1,r⟩
  rcases r with _ | ⟨r2,r⟩
  rcases r with _ | ⟨r3,r⟩
  cases r
  rename_i u1 u2 u3
  have lim:s.heap.NoLimit:=e0.mod.nolimit.keeps λb o e=>(e0.bs b o e).1
  have code:s.heap.CodeRec (.ref p.c) p.q:=(e0.hok p.c _ WQ).1
  refine PySem.W.kla_callFunE hr.depth (e0.bs _ _ hf).1 rfl S.co S.gen rfl code (hbi _ _ _ _ ?_)
  refine wpAny_newFunctionEnv S.Fw (λz hz=>?_) (λh1 hns hsb=>⟨lim.fresh _ hsb,?_⟩) S.kind
  ·simp only[List.zip_cons_cons,List.zip_nil_right,aP,aR,or_false] at hz
   rcases hz with rfl | rfl | rfl
   ·exact S.p1
   ·exact S.p2
   ·exact S.p3
  ·have hk:∀b o,s.heap.get? b=some o->h1.get? b=some o:=λb o e=>hsb.extBut b o (aZ (aC e)) (aF _ e)
   show afH _ _ (.expr body (xk p scope s.heap.objs.size [(y,cy)])) _ _
   have I:=JZ (p:=p) (E:=E) (tk:=s.toks+([x1,x2,x3].zip [u1,u2,u3]).length) S hr.hd e0 r1 r2 r3 ry hc hcd hns hk
   have R:aw K m H [some w1,some w2,some w3,some wy] [some v1,some v2,some v3,some vy]:=⟨rfl,λi z h=>by
    match i,h with
    | 0,h=>cases h;exact⟨_,rfl,s1⟩
    | 1,h=>cases h;exact⟨_,rfl,s2⟩
    | 2,h=>cases h;exact⟨_,rfl,s3⟩
    | 3,h=>cases h;exact⟨_,rfl,ryw⟩
    | i+4,h=>simp at h⟩
   have run:=hb A outer s H E (hr.deeper _) [some w1,some w2,some w3,some wy] st [some v1,some v2,some v3,some vy] H m Q S' R (by
    have post':Ez K m H (gb [some w1,some w2,some w3,some wy] st) Q E:=post
    cases er:gb [some w1,some w2,some w3,some wy] st with
    | ok z st2=>rw[er] at post';exact post'
    | err c st2=>rw[er] at post';exact λm' H' x s' e' S2 rz=>xl rz λC hC=>post' m' H' C e' S2 hC
    | bad=>rw[er] at post';exact ae post') [] _ I
   refine PySem.W.kla_codeExpr (afT run (λu s' hs=>?_) λe s' hs=>hs)
   obtain⟨v,H',J,rv,q⟩:=hs
   exact⟨v,H',J.os,J.bare,J.base,J.hok,rv,q⟩
 ·match us,hl with
  | [u1,u2,u3],_=>exact Fx TZ T4 T5 u1 u2 u3
end
structure Ba(X:Cx)(q:Str)(P:afw):Prop where
 code:∃c,X.env.code= .ref c/\PySem.W.CodeHd X.base c P
 qual:X.env.qual=q++".<locals>."
 tab:bH X.K q=some P
 mem:q∈aU
 uniq:∀q',q'∈aU->bH X.K q'=some P->q'=q
 bm:∃bm ob,X.mg "__builtins__"=some (.ref bm)/\bm≠builtinsNs/\bm≠afM/\X.base.get? bm=some ob/\ob.cls= .type "module"/\ob.dict=some builtinsNs/\ob.data= .plain
theorem Lq{env:Env}{f:Str×afz->List (Str×afw)->Sem (ForInStep (List (Str×afw)))}(hf:∀x k acc,k≠.free->f (x,k) acc=pure (.yield acc)) :
  ∀(l:List (Str×afz))(acc:List (Str×afw)),(l.filter λp=>decide (p.2= .free)).map (·.1)=[]->forIn l acc f=pure acc
 | [],acc,_=>by rw[yW]
 | (x,k)::l,acc,h=>by
  have hk:k≠.free:=λz=>by subst z;simp at h
  rw[oA,hf x k acc hk,pure_bind]
  refine Lq (env:=env) hf l acc ?_
  rw[yX (by simpa using hk)] at h
  exact h
theorem Lr{env:Env}{y:Str}{cy:afw}{f:Str×afz->List (Str×afw)->Sem (ForInStep (List (Str×afw)))}(hf:∀x k acc,k≠.free->f (x,k) acc=pure (.yield acc))(hg:∀acc,f (y,.free) acc=pure (.yield ((y,cy)::acc))) :
  ∀(l:List (Str×afz))(acc:List (Str×afw)),(l.filter λp=>decide (p.2= .free)).map (·.1)=[y]->forIn l acc f=pure ((y,cy)::acc)
 | [],acc,h=>by simp at h
 | (x,k)::l,acc,h=>by
  by_cases hk:k= .free
  ·subst hk
   rw[FA (by simp),aK] at h
   obtain⟨e,h9⟩:=List.cons.inj h
   have e':x=y:=e
   subst e'
   rw[oA,hg acc,pure_bind]
   exact Lq (env:=env) hf l _ h9
  ·rw[oA,hf x k acc hk,pure_bind]
   refine Lr (env:=env) hf hg l acc ?_
   rw[yX (by simpa using hk)] at h
   exact h
theorem xm{scope:Scope}{env:Env}{y:Str}{cy:afw}(h:freeOf scope=[y])(hc:env.cells.lookup y=some cy):closureFor scope env=pure [(y,cy)]:=by
 unfold closureFor
 dsimp only
 rw[Lr (env:=env) (y:=y) (cy:=cy) (λx k acc hk=>?_) (λacc=>?_) scope.names [] h,pure_bind]
 ·have:(k == du)=false:=by simpa using hk
  simp only[this,pD,if_false]
 ·have e:cellOf env y=pure cy:=by unfold cellOf;rw[hc]
  simp[e]
theorem yY{pos pos':Pos}{c cv:afC}(l:List afC)(h:TriplesOk l)(e:codeAmong pos' (l++[rawInt pos.line,rawInt pos.col,c])=some cv):codeAmong pos' l=some cv\/cv=c:=by
 fun_induction TriplesOk l with
 | case1=>
  simp only[mZ,rawInt,codeAmong] at e
  split at e
  ·exact .inr (Option.some.inj e).symm
  ·cases e
 | case2 a t b u x rest ih=>
  simp only[yZ,codeAmong] at e ⊢
  split at e
  ·rename_i q;rw[if_pos q];exact .inl e
  ·rename_i q;rw[if_neg q];exact ih h e
 | case3 l h1 h2=>exact h.elim
section
variable {X:Cx} {pins:List (afw×Obj)} {σ:St} {H:Hp} {s:afB} {q:Str} {P:afw}
theorem FC(I:Inv X pins σ H s)(T:md X.K H)(D:Ba X q P){args:Arguments}{body:Expr}{scope:Scope}{lQ:Pos}{y:Str}{cy:afw}(hfr:freeOf scope=[y])(Ov:X.env.cells.lookup y=some cy){Q:afC->afB->Prop}{E:afC->afB->Prop}
  (h:∀(f c':afw)(ctv:afC)(H':Hp)(s':afB),Inv X pins σ H' s'->s'.heap.get? f=some (PySem.W.kla_obj "<lambda>" (oi q) args body scope [(y,cy)] ((X.mg "__name__").getD .none) c' ctv)->H' f=none->f∉frs X.stack->
   H' c'=some (.ext (qH c' (oi q)))->md X.K H'->(∀b u,H b=some u->(∀ps,u≠.gP ps)->H' b=some u)->Q (.ref f) s') :
  afP (model X.prog X.w) X.A (makeFunction "<lambda>" (X.env.qual++"<lambda>") args (.expr body) scope X.env [] [] [] lQ lQ.line) Q E s:=by
 obtain⟨c,hcode,CH⟩:=D.code
 obtain⟨ps,hP,htr,hits⟩:=T q P D.mem D.tab
 obtain⟨bm,ob,b1,b2,b3,b4,b5,b6,b7⟩:=D.bm
 have T6:s.heap.get? P=some (PySem.W.tabObj ps):=I.hok P _ hP
 have gl:s.heap.Ns afM X.mg:=I.mod.glob.keeps I.bk
 have CH':PySem.W.CodeHd s.heap c P:=CH.keeps I.bk
 have hgP:afM≠P:=λz=>by
  obtain⟨o,es,ep,e,hd,_⟩:=gl
  rw[z,T6] at e;cases e;cases hd
 have hbP:bm≠P:=λz=>by
  have e:=I.bk _ _ b4
  rw[z,T6] at e;cases e;cases b5
 have bAt:s.heap.BuiltinsAt X.mg P:=⟨bm,ob,b1,b2,b3,hbP,I.bk _ _ b4,b5,b6,b7⟩
 have hcl:=xm (scope:=scope) (env:=X.env) hfr Ov
 have Q_:∀a,s.heap.objs.size<=a->a∉frs X.stack:=λa ha z=>by
  rcases List.mem_cons.mp (I.jV a z) with e | e
  ·rw[e] at ha;exact absurd (aY I.lt ha) (cI _)
  ·exact I.RD ha e
 have hq:X.env.qual++"<lambda>"=oi q:=by rw[D.qual];rfl
 rw[hq]
 cases hit:codeAmong lQ ps.toList with
 | some cv=>
  obtain⟨c',rfl,hc'⟩:=hits lQ cv hit
  refine PySem.W.kla_makeFunctionHit (mg:=X.mg) hcl I.ok.glob gl hcode CH' T6 htr hit bAt λctv h' tk hk hsz=>?_
  have k2:∀b o,s.heap.get? b=some o->(h'.push (PySem.W.kla_obj "<lambda>" (oi q) args body scope [(y,cy)] ((X.mg "__name__").getD .none) c' ctv)).get? b=some o:=λb o e=>aF _ (hk b o e)
  refine h h'.objs.size c' ctv H _ (I.un (Un.kept k2) (I.hok.kept k2)) (br _ rfl) (I.hok.fresh hsz) (Q_ _ hsz) hc' T λb u e _=>e
 | none=>
  refine PySem.W.kla_makeFunction (mg:=X.mg) hcl I.ok.glob gl hcode CH' T6 htr hit hgP bAt λc' ctv h' tk hx hge hlt hrec htb=>?_
  have hPs:P < s.heap.objs.size:=aC T6
  have hcP:c'≠P:=kX (aY hPs hge)
  have hnc:H c'=none:=I.hok.fresh hge
  have hfc:h'.objs.size≠c':=kX hlt
  have hfP:h'.objs.size≠P:=kX (aY hPs (bu hge (mS hlt)))
  have hsf:s.heap.objs.size<=h'.objs.size:=bu hge (mS hlt)
  let ps':Array afC:=ps++#[rawInt lQ.line,rawInt lQ.col,.ref c']
  let H':Hp:=upd (upd H P (.gP ps')) c' (.ext (qH c' (oi q)))
  have T7:H' c'=some (.ext (qH c' (oi q))):=aJ
  have at2:H' P=some (.gP ps'):=by show upd _ _ _ P=_;rw[aA (ay hcP),aJ]
  have Ls:∀b,b≠c'->b≠P->H' b=H b:=λb n1 n2=>by show upd _ _ _ b=_;rw[aA n1,aA n2]
  have nI:∀b u,H b=some u->(∀ps,u≠.gP ps)->H' b=some u:=λb u e nt=>by
   rw[Ls b (bt e hnc) (λz=>by rw[z,hP] at e;cases e;exact nt _ rfl)];exact e
  have kp:∀b o,b≠P->s.heap.get? b=some o->(h'.push (PySem.W.kla_obj "<lambda>" (oi q) args body scope [(y,cy)] ((X.mg "__name__").getD .none) c' ctv)).get? b=some o:=λb o n e=>aF _ (hx b o n e)
  have Vt:∀b,H b=none->b≠P:=λb n z=>by rw[z,hP] at n;cases n
  have Lu:qH c' (oi q) (h'.push (PySem.W.kla_obj "<lambda>" (oi q) args body scope [(y,cy)] ((X.mg "__name__").getD .none) c' ctv)):=by
   obtain⟨c₂,oc,vs,t,e2,hoc,hd,hv⟩:=hrec
   exact⟨c₂,oc,vs,t,e2,aF _ hoc,hd,hv⟩
  have J0:jI X.prog X.w H' (h'.push (PySem.W.kla_obj "<lambda>" (oi q) args body scope [(y,cy)] ((X.mg "__name__").getD .none) c' ctv)):=λa o e=>by
   by_cases e1:a=c'
   ·subst e1
    rw[T7] at e
    cases e
    obtain⟨c₂,oc,vs,t,e2,hoc,hd,hv⟩:=id Lu
    cases e2
    refine⟨Lu,⟨oc,hoc⟩,λh1 h2 φ k=>?_⟩
    obtain⟨c₃,o3,vs3,t3,e3,g1,g2,g3⟩:=φ
    cases e3
    exact⟨_,o3,vs3,t3,rfl,k _ g1,g2,g3⟩
   ·by_cases e2:a=P
    ·subst e2
     rw[at2] at e
     cases e
     exact aF _ htb
    ·rw[Ls a e1 e2] at e
     refine(I.hok a o e).stay (λb u hb r=>kp b u ?_ r) (λb r=>nI b _ r (λ_ z=>by cases z)) λb xs r=>nI b _ r (λ_ z=>by cases z)
     rcases hb with rfl | hb
     ·exact e2
     ·exact λz=>by rw[z,hP] at hb;cases hb
  have T':md X.K H':=λq2 P2 hq2 hP2=>by
   obtain⟨ps2,g1,g2,g3⟩:=T q2 P2 hq2 hP2
   by_cases e:P2=P
   ·subst e
    have eq:=D.uniq q2 hq2 hP2
    subst eq
    rw[hP] at g1
    cases g1
    refine⟨ps',at2,by simpa [ps'] using TriplesOk_snoc _ _ (.ref c') ps.toList g2,λpos cv e=>?_⟩
    have e':codeAmong pos (ps.toList++[rawInt lQ.line,rawInt lQ.col,.ref c'])=some cv:=by simpa [ps'] using e
    rcases yY ps.toList g2 e' with z | z
    ·obtain⟨c2,f1,f2⟩:=g3 pos cv z
     exact⟨c2,f1,nI _ _ f2 (λ_ z=>by cases z)⟩
    ·exact⟨c',z,T7⟩
   ·refine⟨ps2,?_,g2,λpos cv e=>?_⟩
    ·rw[Ls P2 (bt g1 hnc) e];exact g1
    ·obtain⟨c2,f1,f2⟩:=g3 pos cv e
     exact⟨c2,f1,nI _ _ f2 (λ_ z=>by cases z)⟩
  have hL:X.env.locals≠P:=Vt _ I.free
  have I':Inv X pins σ H' { s with heap:=h'.push (PySem.W.kla_obj "<lambda>" (oi q) args body scope [(y,cy)] ((X.mg "__name__").getD .none) c' ctv),toks:=tk }:=by
   refine I.step (g':=s.gens) (d':=s.drawn) (ch:=[]) (λ_ z=>nomatch z) (λb o _ _ _ e n=>kp b o (Vt b n) e) (λb o _ _ _ e n=>⟨o.slots,kp b o (Vt b n) e⟩) (λb o _ e n=>?_) (λb o _ e=>?_)
    (λb xs e=>nI b _ e (λ_ z=>by cases z)) (λb o u e=>nI b _ e (λ_ z=>by cases z)) (λb ps2 e=>?_) (λm hm=>(hm.extBut hx hL).push _) J0 I.bare
   ·rw[Ls b (λz=>by rw[z] at e;exact absurd (aY (aC e) hge) (cI _)) (Vt b n)];exact n
   ·by_cases z:b=P
    ·exact⟨_,by rw[z];exact aF _ htb⟩
    ·exact⟨o,kp b o z e⟩
   ·by_cases z:b=P
    ·rw[z,hP] at e
     cases e
     exact⟨#[rawInt lQ.line,rawInt lQ.col,.ref c'],by rw[z];exact at2⟩
    ·exact⟨#[],by rw[Ls b (bt e hnc) z,e];simp⟩
  refine h h'.objs.size c' ctv H' _ I' (br _ rfl) ?_ (Q_ _ hsf) T7 T' nI
  rw[Ls _ hfc hfP]
  exact I.hok.fresh hsf
theorem bb.nI{K:PySem.W.Frag}{m:Mp}{st:Hs}{H H':Hp}(S:bb K m st H)(k:∀b u,H b=some u->(∀ps,u≠.gP ps)->H' b=some u)(T:md K H'):Ext K m H m H'/\bb K m st H':=by
 have ex:Ext K m H m H':=⟨λ_ _ h=>h,λa xs h=>k a _ h (λ_ z=>by cases z),λa φ h=>k a _ h (λ_ z=>by cases z),λa o u h=>k a _ h (λ_ z=>by cases z)⟩
 refine⟨ex,S.len,λl a o h1 h2=>?_,S.inj,T⟩
 have q:=S.obj l a o h1 h2
 cases o with
 | lst ws=>obtain⟨xs,e1,e2⟩:=q;exact⟨xs,k _ _ e1 (λ_ z=>by cases z),ah.mono ex _ _ e2⟩
 | dct kvs=>obtain⟨xs,e1,e2⟩:=q;exact⟨xs,k _ _ e1 (λ_ z=>by cases z),e2.mono ex⟩
 | ja kvs=>obtain⟨xs,e1,e2⟩:=q;exact⟨xs,k _ _ e1 (λ_ z=>by cases z),e2.mono ex⟩
 | yd kvs=>obtain⟨o,xs,e1,e2⟩:=q;exact⟨o,xs,k _ _ e1 (λ_ z=>by cases z),e2.mono ex⟩
 | tJ ns=>
  rcases q with ⟨o',q⟩ | q
  ·exact .inl ⟨o',k _ _ q (λ_ z=>by cases z)⟩
  ·exact .inr q
end
def tZ(G:Lm->Re Wv):Re Wv:=open Classical in if h:∃r,∀p,G p=r then h.choose else .bad
theorem FD{G:Lm->Re Wv}{r:Re Wv}(h:∀p,G p=r):tZ G=r:=by
 have e:∃r,∀p,G p=r:=⟨r,h⟩
 unfold tZ
 rw[dif_pos e]
 exact(e.choose_spec ⟨0,0,"",[]⟩).symm.trans (h _)
abbrev Rg:=Lm->LF->List Wv->Hs->Re Wv
def y6(FL:Rg)(iy:Nat)(g gb:GE):GE:=λρ st=>(g ρ st).bind λw st1=>match ρ[iy]? with
 | some (some wy)=>tZ λp=>FL p (lP gb) [w,.fn p [wy]] st1
 | _=> .bad
def J1(mg:Str->Option afC)(base:Heap):Prop:=∃bm ob,mg "__builtins__"=some (.ref bm)/\bm≠builtinsNs/\bm≠afM/\base.get? bm=some ob/\ob.cls= .type "module"/\ob.dict=some builtinsNs/\ob.data= .plain
def jR(K:PySem.W.Frag)(mg:Str->Option afC)(base:Heap):Prop:=Mod K mg base/\J1 mg base
def Vu(P:afA)(w:afD)(K:PySem.W.Frag)(mg:Str->Option afC)(k j:Nat)(x:Str)(FL:Rg):Prop :=
 (∃f,mg x=some (.ref f)/\PySem.W.keepIn K (.ref f)=true)/\∀(base:Heap)(p:Lm)(L:LF),jR K mg base->rb P w K mg base (j+1) p 3 L->tP P w K mg base k x 2 (FL p L)
section
variable {X:Cx}
theorem Ow{k j:Nat}{x q y x1 x2 x3:Str}{P:afw}{FL:Rg}{iy:Nat}{p pos lQ q1 q2 q3:Pos}{a1 a2 a3:Option Expr}{e body:Expr}{scope:Scope}{g gb:GE}(hF:Vu X.prog X.w X.K X.mg k j x FL)(hr:iE k X.A)(hg:Gl X x)(hdb:(x == ("__debug__":Str))=false)
  (he:JE X e g)(D:Ba X q P)(S:A_ scope x1 x2 x3 y)(hy:X.N[iy]? =some y)(hyv:X.env.scope.names.lookup y=some .cell\/X.env.scope.names.lookup y=some .free)(hfn:X.fn y=true)
  (hb:∀(base:Heap)(p:Lm)(cy:afw)(A:afx)(outer:List Env)(s:afB)(H:Hp)(E:XK),jR X.K X.mg base->iE j (A.deeper (xk p scope s.heap.objs.size [(y,cy)]))->JE (Ig X.prog X.w X.K X.mg base [x1,x2,x3,y] p scope [(y,cy)] A outer s H E) body gb)
  (hs:∀r,afO (e::r) X.env=(false,eval e X.env)::afO r X.env):JE X (.Call (.Name x p) [e,.Lambda (jm x1 x2 x3 a1 a2 a3 q1 q2 q3) body scope lQ] [] pos) (y6 FL iy g gb):=by
 intro ρ st σ H m Q S0 R pq pins s I
 obtain⟨⟨f,hm,hk⟩,HF⟩:=hF
 unfold y6 at pq
 have first:=he.go (T:=λv H1=>∃w st1 m1,cU X σ m H (match ρ[iy]? with
  | some (some wy)=>tZ λp=>FL p (lP gb) [w,.fn p [wy]] st1
  | _=> .bad) Q/\Ext X.K m H m1 H1/\bb X.K m1 st1 H1/\ag X.K m1 H1 w v) S0 R (ax.bind pq) λw st1 v m1 H1 p1 e1 S1 r1=>⟨w,st1,m1,p1,e1,S1,r1⟩
 refine wpAny_Call_Name_kw (kW I hg hm ?_ hdb)
 refine PySem.W.callWith_K (h₀:=X.base) I.ok.mod.Iq hk ?_ (hs _) rfl
 rw[hs]
 show afP _ _ (spliced ((false,eval e X.env)::backTo pos (afO [.Lambda (jm x1 x2 x3 a1 a2 a3 q1 q2 q3) body scope lQ] X.env))) _ _ s
 refine l_ (bp (first pins s I) λu s1 ⟨v,H1,I1,r1,w,st1,m1,p1,e1,S1,Vv⟩=>?_)
 show afP _ _ (spliced ((false,eval (.Lambda (jm x1 x2 x3 a1 a2 a3 q1 q2 q3) body scope lQ) X.env)::backTo pos (afO [] X.env))) _ _ s1
 cases er:ρ[iy]? with
 | none=>rw[er] at p1;exact ae p1
 | some ow=>
  rw[er] at p1
  cases ow with
  | none=>exact ae p1
  | some wy=>
   dsimp only at p1
   obtain⟨vy,evy,rvy⟩:=R.get iy wy er
   have vis:Q1 X.env.scope y:=.inr hyv
   have hcell:∀{H':Hp}{s':afB},Inv X pins σ H' s'->∃uy cy,RelV vy uy/\X.env.cells.lookup y=some cy/\s'.heap.IsCell cy (some uy):=λ{H' s'} I'=>by
    obtain⟨mm,hn,hl⟩:=I'.loc
    obtain⟨uy,ry,lk⟩:=hl iy y vy hy evy vis
    rcases lk with ⟨hkk,_⟩ | ⟨_,c,hc,hcl⟩
    ·have hkk:X.env.scope.names.lookup y=some .local:=hkk
     rcases hyv with z | z<;>rw[z] at hkk<;>cases hkk
    ·exact⟨uy,c,ry,hc,hcl⟩
   obtain⟨_,cy,_,Ov,_⟩:=hcell I1
   refine l_ (PySem.W.kla_eval rfl (FC I1 S1.tab D S.fr Ov λf2 c' ctv H2 s2 I2 hf2 nf2 Q_ hc2 T2 kH=>?_))
   refine uE ⟨I2.v9,?_⟩
   obtain⟨Vw,S2⟩:=S1.nI kH T2
   obtain⟨uy,cy',ryv,T8,oc,hoc,Mo⟩:=hcell I2
   rw[Ov] at T8
   cases T8
   have ncy:cy∉frs X.stack:=λz=>by
    rcases List.mem_cons.mp (I2.jV cy z) with e | e
    ·exact I2.HY y cy Ov e
    ·obtain⟨_,o,ho,_⟩:=I2.ok.jO.mem e
     exact absurd (aY (aC ho) (I2.ok.KY y cy hfn Ov)) (cI _)
   let pl:Lm:=⟨f2,c',oi q,[vy]⟩
   have mB:jR X.K X.mg (ie X H2 s2):=⟨Ft I2,let ⟨bm,ob,b1,b2,b3,b4,b5⟩:=D.bm;⟨bm,ob,b1,b2,b3,q_ I2 _ _ b4,b5⟩⟩
   have HL:rb X.prog X.w X.K X.mg (ie X H2 s2) (j+1) pl 3 (lP gb):=Ou (p:=pl) (vy:=vy) S rfl (yV hf2 nf2 Q_) (yV hoc (I2.f9 y cy Ov) ncy) Mo ryv λA outer s H E hr=>hb _ pl cy A outer s H E mB hr
   obtain⟨f',fd,ps,G,hm',hk',hbn⟩:=HF _ pl (lP gb) mB HL
   rw[hm] at hm'
   cases hm'
   have p2:cU X σ m H (FL pl (lP gb) [w,.fn pl [wy]] st1) Q:=by
    unfold tZ at p1
    by_cases ee:∃r,∀p,FL p (lP gb) [w,.fn p [wy]] st1=r
    ·rw[dif_pos ee] at p1
     rw[ee.choose_spec pl]
     exact p1
    ·rw[dif_neg ee] at p1;exact ae p1
   let E:XK:=λcl _ H3=>∃c' st2 m2 C,cl= .ref C/\ClsAt X.K c' C/\FL pl (lP gb) [w,.fn pl [wy]] st1= .err c' st2/\Ext X.K m1 H2 m2 H3/\bb X.K m2 st2 H3
   have sp:spW X.K 2 (FL pl (lP gb)) [v,.ref f2] H2 Q E:=by
    refine⟨m1,st1,[w,.fn pl [wy]],S2,ah.cons (ag.mono Vw _ _ Vv) (ah.cons ?_ ah.nil),rfl,?_⟩
    ·unfold ag
     exact⟨rfl,hc2,ah.cons (ag.mono (e1.trans Vw) _ _ rvy) ah.nil⟩
    ·cases er:FL pl (lP gb) [w,.fn pl [wy]] st1 with
     | ok w st2=>rw[er] at p2;exact cU.shift (r:=.ok w st2) p2 (e1.trans Vw)
     | err c' st2=>exact λm2 H2 C e2 S2 hC=>⟨c',st2,m2,C,rfl,hC,er,e2,S2⟩
     | bad=>rw[er] at p2;exact ae p2
   have rv:Vals [v,.ref f2] [u,.ref f2]:=.cons r1 (.cons rfl .nil)
   have hl:[u,aN f2].length=ps.length:=by rw[<-rv.length];exact G.len _ _ _ _ sp
   have bd:=hbn s2 [u,.ref f2] I2.v9 (by rw[fk];exact hl)
   rw[fk] at bd
   refine wpAny_call (codeAny_mono (G.run X.A X.stack s2 H2 ⟨[u,.ref f2],[]⟩ [u,.ref f2] [v,.ref f2] Q E hr (JY I2) bd rv sp) λrr s3 hq=>?_)
   cases rr with
   | error z=>
    obtain⟨H3,C,fl,c',st2,m2,C',ec,hC,er,e2,S3⟩:=hq
    cases ec
    rw[er] at p2
    exact p2 m2 H3 z s3 ((e1.trans Vw).trans e2) S3 ⟨C,pins,H2,s2,hC,I2,.inl fl.any⟩
   | ok fw=>
    cases fw with
    | ret u=>exact I2.after hq
    | next=>exact ae hq
    | brk=>exact ae hq
    | cont=>exact ae hq
end
section
variable {P:afA} {w:afD} {A:afx} {E:afC->afB->Prop} {s:afB}
theorem mx{j t:afw}{i:Nat}{vs:Array afC}{u:afC}{Q:afC->afB->Prop}(hj:s.heap.IsTupleIter j t i)(ht:s.heap.IsTuple t vs)(hu:vs[i]? =some u)
  (k:∀g,g.IsTupleIter j t (i+1)->jW j s.heap g->Q u { s with heap:=g }):afP (model P w) A (my (.ref j)) Q E s:=by
 obtain⟨oj,ej,cj,dj⟩:=id hj
 obtain⟨ot,et,_,nt,dt⟩:=ht
 unfold my
 refine afQ (wpAny_callSpecial?_slot (name:=hV "__next__") hj.typeIs y9 (wpAny_call_entry y9 hj.typeIs Ox ?_ (Oy _)))
 show afP _ _ (field (.ref j) 0 >>= _) _ _ s
 refine afQ (wpAny_field ej dj (x:=.ref t) rfl ?_)
 show afP _ _ (if(aN t == bY)=true then _ else _) _ _ s
 rw[if_neg (by intro z;exact cT z)]
 show afP _ _ (field (.ref j) 1 >>= _) _ _ s
 refine afQ (wpAny_field ej dj (x:=.int i 0) rfl ?_)
 show afP _ _ (seqItems? (.ref t) >>= _) _ _ s
 refine afQ (wpAny_seqItems et dt ?_)
 simp only[FE,hu]
 refine afQ (wpAny_setField ej dj (by simp) (afW ⟨u,rfl,afW (k _ ?_ (y_ ..))⟩))
 refine⟨_,n8 _ ej (Ay (qa dj _)),(Obj.cls_mapFields ..).trans cj,?_⟩
 rw[qa dj];simp[rawInt]
theorem CC{j t:afw}{i:Nat}{vs:Array afC}{Q:afC->afB->Prop}(hh:A.handled=none)(hj:s.heap.IsTupleIter j t i)(ht:s.heap.IsTuple t vs)(hu:vs[i]? =none)
  (k:∀g e,Heap.ExtBut j s.heap g->(∃o,g.get? e=some o/\o.cls= .type "StopIteration")->E (.ref e) { s with heap:=g }):afP (model P w) A (my (.ref j)) Q E s:=by
 obtain⟨oj,ej,cj,dj⟩:=id hj
 obtain⟨ot,et,_,nt,dt⟩:=ht
 unfold my
 refine afQ (wpAny_callSpecial?_slot (name:=hV "__next__") hj.typeIs y9 (wpAny_call_entry y9 hj.typeIs Ox ?_ (Oy _)))
 show afP _ _ (field (.ref j) 0 >>= _) _ _ s
 refine afQ (wpAny_field ej dj (x:=.ref t) rfl ?_)
 show afP _ _ (if(aN t == bY)=true then _ else _) _ _ s
 rw[if_neg (by intro z;exact cT z)]
 show afP _ _ (field (.ref j) 1 >>= _) _ _ s
 refine afQ (wpAny_field ej dj (x:=.int i 0) rfl ?_)
 show afP _ _ (seqItems? (.ref t) >>= _) _ _ s
 refine afQ (wpAny_seqItems et dt ?_)
 simp only[FE,hu]
 refine afQ (wpAny_rule (afQ (wpAny_setField ej dj (by simp) ?_)))
 show afP _ _ (newExc (.type "StopIteration") [] >>= _) _ _ _
 refine afQ ?_
 simp only[newExc,newTuple]
 refine afQ (afV ?_ (by size_fits))
 refine afQ (m:=firstArgMember _ _) (wpAny_of_eq (a:=bY) (by first | rfl | (simp only[firstArgMember];rfl)) ?_)
 refine afV ?_ (by size_fits)
 simp only[raiseNew]
 refine afQ (wpAny_handled ?_)
 first | rw[show A.in1.handled=none from hh] | rw[hh]
 refine afQ (afW (wpAny_throw ?_))
 exact k _ _ (((y_ ..).extBut.push _).push _) ⟨_,br _ rfl,rfl⟩
abbrev qh(h:Heap)(t:afw)(a b c:afC):Prop:=h.get? t=some { cls:=.type "tuple",data:=.seq #[a,b,c] }
theorem vm{t:afw}{a b c v:afC}{k:Nat}{Q:Unit->afB->Prop}(ht:qh s.heap t a b c)
  (q:∀g,g.get? t=some { cls:=.type "tuple",data:=.seq ((#[a,b,c]:Array afC).setIfInBounds k v) }->jW t s.heap g->Q () { s with heap:=g }):afP (model P w) A (updateSeq t (·.setIfInBounds k v)) Q E s:=by
 refine wpAny_updateSeq ht rfl (q _ ?_ (y_ ..))
 rw[n8 _ ht rfl]
 simp[k_]
structure Zd(z T O j1 j2 j3 t1 t2 t3:afw):Prop where
 nd:[z,T,O,j1,j2,j3].Nodup
 a1:t1∉[z,O,j1,j2,j3]
 a2:t2∉[z,O,j1,j2,j3]
 a3:t3∉[z,O,j1,j2,j3]
theorem CD{z T O j1 j2 j3 t1 t2 t3:afw}{i:Nat}{v1 v2 v3:Array afC}{u1 u2 u3 a b c:afC}{Q:afC->afB->Prop}(D:Zd z T O j1 j2 j3 t1 t2 t3)(hz:IsZip s.heap z T O .none)(hT:qh s.heap T (.ref j1) (.ref j2) (.ref j3))(hO:qh s.heap O a b c)
  (h1:s.heap.IsTupleIter j1 t1 i)(h2:s.heap.IsTupleIter j2 t2 i)(h3:s.heap.IsTupleIter j3 t3 i)(w1:s.heap.IsTuple t1 v1)(w2:s.heap.IsTuple t2 v2)(w3:s.heap.IsTuple t3 v3)(e1:v1[i]? =some u1)(e2:v2[i]? =some u2)(e3:v3[i]? =some u3)
  (k:∀g,IsZip g z T O (rawInt s.heap.objs.size)->qh g O u1 u2 u3->g.IsTupleIter j1 t1 (i+1)->g.IsTupleIter j2 t2 (i+1)->g.IsTupleIter j3 t3 (i+1)->qh g s.heap.objs.size u1 u2 u3->g.objs.size=s.heap.objs.size+1->
   (∀y o,y∉[z,O,j1,j2,j3]->s.heap.get? y=some o->g.get? y=some o)->Q (.ref s.heap.objs.size) { s with heap:=g }) :
  afP (model P w) A (Builtin.«zip.__next__» ⟨[.ref z],[]⟩) (λfin s'=>∃v,fin= .done (.ret v)/\Q v s') E s:=by
 obtain⟨nd,n1,n2,n3⟩:=D
 simp only[jn,aP,aR,or_false,not_or,hZ,and_true,not_false_eq_true] at nd n1 n2 n3
 obtain⟨⟨zT,zO,z1,z2,z3⟩,⟨TO,T1,T2,T3⟩,⟨O1,O2,O3⟩,⟨Ri,Rj⟩,Rk⟩:=nd
 obtain⟨p1z,p1O,Vx,Vy,CF⟩:=n1
 obtain⟨p2z,p2O,p21,p22,p23⟩:=n2
 obtain⟨p3z,p3O,p31,p32,p33⟩:=n3
 show afP _ _ (field (.ref z) 2 >>= _) _ _ s
 refine afQ (wpAny_field hz rfl (x:=.bool false) rfl ?_)
 show afP _ _ (field (.ref z) 3 >>= _) _ _ s
 refine afQ (wpAny_field hz rfl (x:=.ref T) rfl ?_)
 refine afQ (wpAny_seqItems hT rfl ?_)
 show afP _ _ (zc (.ref z) >>= _) _ _ s
 refine afQ ?_
 unfold zc
 refine afQ (wpAny_field hz rfl (x:=.none) rfl (afW ?_))
 simp only[if_true]
 refine afQ (wpAny_rule ?_)
 refine afQ (wpAny_field hz rfl (x:=.ref O) rfl ?_)
 refine afQ (wpAny_setField_rec hz (by simp) λg0 y0 b0=>?_)
 replace y0:IsZip g0 z T O .ellipsis:=y0
 refine afQ ?_
 simp only[List.zipIdx_cons,List.zipIdx_nil,oA,yW]
 refine afQ (afQ (wpAny_onRaise ?_))
 show afP _ _ (my (.ref j1) >>= _) _ _ _
 refine afQ (mx (h1.extBut b0.extBut (ay z1)) (w1.extBut b0.extBut p1z) e1 λg1 Ia b1=>afW ?_)
 have O1':qh g1 O a b c:=b1.extBut _ _ O1 (b0.extBut _ _ (ay zO) hO)
 refine afQ (wpAny_seqItems O1' rfl ?_)
 refine afQ (vm O1' λg2 Xk b2=>?_)
 replace Xk:qh g2 O u1 b c:=Xk
 refine afQ (wpAny_letGo (afW ?_))
 refine afQ (afQ (wpAny_onRaise ?_))
 show afP _ _ (my (.ref j2) >>= _) _ _ _
 refine afQ (mx (((h2.extBut b0.extBut (ay z2)).extBut b1.extBut (ay Ri)).extBut b2.extBut (ay O2)) (((w2.extBut b0.extBut p2z).extBut b1.extBut p21).extBut b2.extBut p2O) e2 λg3 h2' b3=>afW ?_)
 have O3':qh g3 O u1 b c:=b3.extBut _ _ O2 Xk
 refine afQ (wpAny_seqItems O3' rfl ?_)
 refine afQ (vm O3' λg4 Xl b4=>?_)
 replace Xl:qh g4 O u1 u2 c:=Xl
 refine afQ (wpAny_letGo (afW ?_))
 refine afQ (afQ (wpAny_onRaise ?_))
 show afP _ _ (my (.ref j3) >>= _) _ _ _
 refine afQ (mx (((((h3.extBut b0.extBut (ay z3)).extBut b1.extBut (ay Rj)).extBut b2.extBut (ay O3)).extBut b3.extBut (ay Rk)).extBut b4.extBut (ay O3))
  (((((w3.extBut b0.extBut p3z).extBut b1.extBut p31).extBut b2.extBut p3O).extBut b3.extBut p32).extBut b4.extBut p3O) e3 λg5 h3' b5=>afW ?_)
 have O5':qh g5 O u1 u2 c:=b5.extBut _ _ O3 Xl
 refine afQ (wpAny_seqItems O5' rfl ?_)
 refine afQ (vm O5' λg6 Vz b6=>?_)
 replace Vz:qh g6 O u1 u2 u3:=Vz
 refine afQ (wpAny_letGo (afW (afW ?_)))
 refine afQ (wpAny_seqItems Vz rfl ?_)
 refine afQ (wpAny_newTuple ?_)
 have sz:g6.objs.size=s.heap.objs.size:=by rw[b6.1,b5.1,b4.1,b3.1,b2.1,b1.1,b0.1]
 have keep:∀y o,y∉[z,O,j1,j2,j3]->s.heap.get? y=some o->g6.get? y=some o:=λy o hy q=>by
  simp only[aP,aR,or_false,not_or] at hy
  obtain⟨y1,y2,y3,y4,y5⟩:=hy
  exact b6.extBut _ _ y2 (b5.extBut _ _ y5 (b4.extBut _ _ y2 (b3.extBut _ _ y4 (b2.extBut _ _ y2 (b1.extBut _ _ y3 (b0.extBut _ _ y1 q))))))
 have z6:IsZip g6 z T O .ellipsis:=b6.extBut _ _ zO (b5.extBut _ _ z3 (b4.extBut _ _ zO (b3.extBut _ _ z2 (b2.extBut _ _ zO (b1.extBut _ _ z1 y0)))))
 have k1:g6.IsTupleIter j1 t1 (i+1):=((((Ia.extBut b2.extBut (ay O1)).extBut b3.extBut Ri).extBut b4.extBut (ay O1)).extBut b5.extBut Rj).extBut b6.extBut (ay O1)
 have k2:g6.IsTupleIter j2 t2 (i+1):=((h2'.extBut b4.extBut (ay O2)).extBut b5.extBut Rk).extBut b6.extBut (ay O2)
 have k3:g6.IsTupleIter j3 t3 (i+1):=h3'.extBut b6.extBut (ay O3)
 have Lv:z < g6.objs.size:=aC z6
 show afP _ _ (Oz (.ref z) (.ref g6.objs.size) >>= _) _ _ _
 refine afQ ?_
 unfold Oz
 have z7:IsZip (g6.push { cls:=.type "tuple",data:=.seq #[u1,u2,u3] }) z T O .ellipsis:=aF _ z6
 refine afQ (wpAny_setField_rec z7 (by simp) λg7 y7 b7=>?_)
 replace y7:IsZip g7 z T O (rawInt g6.objs.size):=y7
 refine wpAny_setField_rec y7 (by simp) λg8 y8 b8=>?_
 replace y8:IsZip g8 z T O (rawInt g6.objs.size):=y8
 have up:∀y o,y≠z->g6.get? y=some o->g8.get? y=some o:=λy o n q=>b8.extBut _ _ n (b7.extBut _ _ n (aF _ q))
 have tn:qh g8 g6.objs.size u1 u2 u3:=b8.extBut _ _ (kX Lv) (b7.extBut _ _ (kX Lv) (br _ rfl))
 have s8:g8.objs.size=g6.objs.size+1:=by rw[b8.1,b7.1,rf]
 rw[sz] at y8 tn s8
 refine afW ⟨_,rfl,?_⟩
 show Q (.ref g6.objs.size) _
 rw[sz]
 have at':∀{j t:afw}{n:Nat},j≠z->g6.IsTupleIter j t n->g8.IsTupleIter j t n:=λn ⟨o,q,r⟩=>⟨o,up _ o n q,r⟩
 exact k g8 y8 (up _ _ (ay zO) Vz) (at' (ay z1) k1) (at' (ay z2) k2) (at' (ay z3) k3) tn s8 λy o hy q=>up y o (λe=>hy (by simp[e])) (keep y o hy q)
theorem FF{z T O j1 j2 j3 t1 t2 t3:afw}{i:Nat}{v1:Array afC}{a b c:afC}{Q:Fin->afB->Prop}(hh:A.handled=none)(D:Zd z T O j1 j2 j3 t1 t2 t3)(hz:IsZip s.heap z T O .none)(hT:qh s.heap T (.ref j1) (.ref j2) (.ref j3))(hO:qh s.heap O a b c)
  (h1:s.heap.IsTupleIter j1 t1 i)(w1:s.heap.IsTuple t1 v1)(e1:v1[i]? =none)
  (k:∀g e,(∀y o,y∉[z,O,j1,j2,j3]->s.heap.get? y=some o->g.get? y=some o)->(∃o,g.get? e=some o/\o.cls= .type "StopIteration")->E (.ref e) { s with heap:=g }) :
  afP (model P w) A (Builtin.«zip.__next__» ⟨[.ref z],[]⟩) Q E s:=by
 obtain⟨nd,n1,n2,n3⟩:=D
 simp only[jn,aP,aR,or_false,not_or,hZ,and_true,not_false_eq_true] at nd n1
 obtain⟨⟨zT,zO,z1,z2,z3⟩,_⟩:=nd
 show afP _ _ (field (.ref z) 2 >>= _) _ _ s
 refine afQ (wpAny_field hz rfl (x:=.bool false) rfl ?_)
 show afP _ _ (field (.ref z) 3 >>= _) _ _ s
 refine afQ (wpAny_field hz rfl (x:=.ref T) rfl ?_)
 refine afQ (wpAny_seqItems hT rfl ?_)
 show afP _ _ (zc (.ref z) >>= _) _ _ s
 refine afQ ?_
 unfold zc
 refine afQ (wpAny_field hz rfl (x:=.none) rfl (afW ?_))
 simp only[if_true]
 refine afQ (wpAny_rule ?_)
 refine afQ (wpAny_field hz rfl (x:=.ref O) rfl ?_)
 refine afQ (wpAny_setField_rec hz (by simp) λg0 y0 b0=>?_)
 replace y0:IsZip g0 z T O .ellipsis:=y0
 refine afQ ?_
 simp only[List.zipIdx_cons,List.zipIdx_nil,oA,yW]
 refine afQ (afQ (wpAny_onRaise ?_))
 show afP _ _ (my (.ref j1) >>= _) _ _ _
 refine afQ (CC hh (h1.extBut b0.extBut (ay z1)) (w1.extBut b0.extBut n1.1) e1 λg1 e b1 he=>?_)
 obtain⟨oe,qe,ce⟩:=he
 have y1:IsZip g1 z T O .ellipsis:=b1 _ _ z1 y0
 have ez:e≠z:=λq=>by subst q;rw[y1] at qe;cases qe;simp at ce
 refine wpAny_setField_rec y1 (by simp) λg2 _ b2=>k g2 e (λy o hy q=>?_) ⟨oe,b2.extBut _ _ ez qe,ce⟩
 simp only[aP,aR,or_false,not_or] at hy
 exact b2.extBut _ _ hy.1 (b1 _ _ hy.2.2.1 (b0.extBut _ _ hy.1 q))
end
theorem boot_zip:afG "zip"=some (.type "zip"):=by decide+kernel
theorem J2(a b c:afC):checkTypeCall "zip" ⟨[a,b,c],[]⟩=pure ():=by kernel_rfl
theorem J3(a b c:afC):checkBuiltinCall "zip.__new__" ⟨[.type "zip",a,b,c],[]⟩=pure ():=by kernel_rfl
theorem T9(a b c d:afC):argsOk "object.__init__" ⟨[a,b,c,d],[]⟩:=by
 unfold argsOk;rw[signature?_of (id:="object.__init__") (n:=['_','_','t','i','n','i','_','_']) (o:=['t','c','e','j','b','o']) (by kernel_rfl) F.owner_object];kernel_rfl
abbrev zA(h:Heap)(t1:afw):Heap:=h.push { cls:=.type "tuple_iterator",data:=.fields #[.ref t1,.int 0 0] }
abbrev zB(h:Heap)(t1 t2:afw):Heap:=zA (zA h t1) t2
abbrev zC(h:Heap)(t1 t2 t3:afw):Heap:=zA (zB h t1 t2) t3
abbrev zD(h:Heap)(t1 t2 t3:afw):Heap:=(zC h t1 t2 t3).push { cls:=.type "tuple",data:=.seq #[.ref h.objs.size,.ref (zA h t1).objs.size,.ref (zB h t1 t2).objs.size] }
abbrev zE(h:Heap)(t1 t2 t3:afw):Heap:=(zD h t1 t2 t3).push { cls:=.type "tuple",data:=.seq #[.none,.none,.none] }
abbrev zF(h:Heap)(t1 t2 t3:afw):Heap:=(zE h t1 t2 t3).push { cls:=.type "zip",data:=.fields #[.none,.bool false,.bool false,.ref (zC h t1 t2 t3).objs.size,.ref (zD h t1 t2 t3).objs.size] }
theorem J4(t1 t2 t3:afw)(v1 v2 v3:Array afC):Meets (Builtin.«zip.__new__» ⟨[.type "zip",.ref t1,.ref t2,.ref t3],[]⟩) (λ_ R s=>s.heap.IsTuple t1 v1/\s.heap.IsTuple t2 v2/\s.heap.IsTuple t3 v3/\
   R (.ok (.ret (.ref (zE s.heap t1 t2 t3).objs.size))) { s with heap:=zF s.heap t1 t2 t3 }) :=
 .of_wp λprog w A R s h=>by
  obtain⟨hp,g,d,tk,os⟩:=s;obtain⟨q1,q2,q3,h⟩:=h
  have hsub:=sub_zip
  have r1:FG (Bb ⟨hp,g,d,tk,os⟩) t1 v1:=q1
  have r2:FG (Bb ⟨zA hp t1,g,d,tk,os⟩) t2 v2:=FH q2 _
  have r3:FG (Bb ⟨zB hp t1 t2,g,d,tk,os⟩) t3 v3:=FH (FH q3 _) _
  wp_walk using wpAny_pyIter_tuple r1,wpAny_pyIter_tuple r2,wpAny_pyIter_tuple r3
  exact⟨_,rfl,h⟩
section
variable {P:afA} {w:afD} {A:afx} {E:afC->afB->Prop} {s:afB}
theorem CG{t1 t2 t3:afw}{v1 v2 v3:Array afC}{Q:afC->afB->Prop}(q1:s.heap.IsTuple t1 v1)(q2:s.heap.IsTuple t2 v2)(q3:s.heap.IsTuple t3 v3)
  (k:∀g,IsZip g (s.heap.objs.size+5) (s.heap.objs.size+3) (s.heap.objs.size+4) .none->qh g (s.heap.objs.size+3) (.ref s.heap.objs.size) (.ref (s.heap.objs.size+1)) (.ref (s.heap.objs.size+2))->qh g (s.heap.objs.size+4) .none .none .none->
   g.IsTupleIter s.heap.objs.size t1 0->g.IsTupleIter (s.heap.objs.size+1) t2 0->g.IsTupleIter (s.heap.objs.size+2) t3 0->(∀b o,s.heap.get? b=some o->g.get? b=some o)->Q (.ref (s.heap.objs.size+5)) { s with heap:=g }) :
  afP (model P w) A (call (.type "zip") [.ref t1,.ref t2,.ref t3]) Q E s:=by
 refine callType_new F.called_zip (by decide) (J2 _ _ _) (J3 _ _ _) (λobj=>T9 obj _ _ _) F.entry_zip_new (J4 t1 t2 t3 v1 v2 v3) ⟨q1,q2,q3,?_⟩
 have s1:(zA s.heap t1).objs.size=s.heap.objs.size+1:=rf ..
 have s2:(zB s.heap t1 t2).objs.size=s.heap.objs.size+2:=by rw[rf,s1]
 have s3:(zC s.heap t1 t2 t3).objs.size=s.heap.objs.size+3:=by rw[rf,s2]
 have s4:(zD s.heap t1 t2 t3).objs.size=s.heap.objs.size+4:=by rw[rf,s3]
 have s5:(zE s.heap t1 t2 t3).objs.size=s.heap.objs.size+5:=by rw[rf,s4]
 have up:∀{h:Heap}{b:afw}{o o':Obj},h.get? b=some o->(h.push o').get? b=some o:=λe=>aF _ e
 have g6:(zF s.heap t1 t2 t3).get? (zE s.heap t1 t2 t3).objs.size=some _:=br _ rfl
 have g5:(zF s.heap t1 t2 t3).get? (zD s.heap t1 t2 t3).objs.size=some _:=up (br _ rfl)
 have g4:(zF s.heap t1 t2 t3).get? (zC s.heap t1 t2 t3).objs.size=some _:=up (up (br _ rfl))
 have g3:(zF s.heap t1 t2 t3).get? (zB s.heap t1 t2).objs.size=some _:=up (up (up (br _ rfl)))
 have g2:(zF s.heap t1 t2 t3).get? (zA s.heap t1).objs.size=some _:=up (up (up (up (br _ rfl))))
 have g1:(zF s.heap t1 t2 t3).get? s.heap.objs.size=some _:=up (up (up (up (up (br _ rfl)))))
 show _/\_
 rw[s3,s4,s5] at g6
 rw[s1,s2,s3] at g4
 rw[s4] at g5
 rw[s2] at g3
 rw[s1] at g2
 rw[s5]
 exact⟨⟨_,g6,rfl⟩,k _ g6 g4 g5 ⟨_,g1,rfl,rfl⟩ ⟨_,g2,rfl,rfl⟩ ⟨_,g3,rfl,rfl⟩ λb o e=>up (up (up (up (up (up e)))))⟩
end
section
variable {P:afA} {w:afD} {A:afx} {E:afC->afB->Prop} {s:afB}
theorem J5{z T O j1 j2 j3 t1 t2 t3:afw}{i:Nat}{v1 v2 v3:Array afC}{u1 u2 u3 a b c:afC}{Q:Option afC->afB->Prop}(D:Zd z T O j1 j2 j3 t1 t2 t3)(hz:IsZip s.heap z T O .none)(hT:qh s.heap T (.ref j1) (.ref j2) (.ref j3))(hO:qh s.heap O a b c)
  (h1:s.heap.IsTupleIter j1 t1 i)(h2:s.heap.IsTupleIter j2 t2 i)(h3:s.heap.IsTupleIter j3 t3 i)(w1:s.heap.IsTuple t1 v1)(w2:s.heap.IsTuple t2 v2)(w3:s.heap.IsTuple t3 v3)(e1:v1[i]? =some u1)(e2:v2[i]? =some u2)(e3:v3[i]? =some u3)
  (k:∀g,IsZip g z T O (rawInt s.heap.objs.size)->qh g O u1 u2 u3->g.IsTupleIter j1 t1 (i+1)->g.IsTupleIter j2 t2 (i+1)->g.IsTupleIter j3 t3 (i+1)->qh g s.heap.objs.size u1 u2 u3->g.objs.size=s.heap.objs.size+1->
   (∀y o,y∉[z,O,j1,j2,j3]->s.heap.get? y=some o->g.get? y=some o)->Q (some (.ref s.heap.objs.size)) { s with heap:=g }):afP (model P w) A (pyNext (.ref z)) Q E s:=by
 have ty:s.TypeIs (.ref z) "zip":=⟨_,hz,rfl⟩
 unfold pyNext
 refine afQ (wpAny_attempt (wpAny_callSpecial?_slot (name:=hV "__next__") ty zd (wpAny_call_entry zd ty F.entry_zip_next ?_ (F.args_zip_next_1 _))))
 exact CD D hz hT hO h1 h2 h3 w1 w2 w3 e1 e2 e3 λg a1 a2 a3 a4 a5 a6 a7 a8=>afW (k g a1 a2 a3 a4 a5 a6 a7 a8)
theorem FI{z T O j1 j2 j3 t1 t2 t3:afw}{i:Nat}{v1:Array afC}{a b c:afC}{Q:Option afC->afB->Prop}(hh:A.handled=none)(D:Zd z T O j1 j2 j3 t1 t2 t3)(hz:IsZip s.heap z T O .none)(hT:qh s.heap T (.ref j1) (.ref j2) (.ref j3))(hO:qh s.heap O a b c)
  (h1:s.heap.IsTupleIter j1 t1 i)(w1:s.heap.IsTuple t1 v1)(e1:v1[i]? =none)
  (k:∀g,(∀y o,y∉[z,O,j1,j2,j3]->s.heap.get? y=some o->g.get? y=some o)->Q none { s with heap:=g }):afP (model P w) A (pyNext (.ref z)) Q E s:=by
 have ty:s.TypeIs (.ref z) "zip":=⟨_,hz,rfl⟩
 unfold pyNext
 refine afQ (wpAny_attempt (wpAny_callSpecial?_slot (name:=hV "__next__") ty zd (wpAny_call_entry zd ty F.entry_zip_next ?_ (F.args_zip_next_1 _))))
 refine FF hh D hz hT hO h1 w1 e1 λg e kp he=>?_
 obtain⟨o,q,c⟩:=he
 exact afQ (wpAny_isInstance (T:="StopIteration") (b:=true) ⟨o,q,c⟩ isSubtype_stop (afW (k g kp)))
end
def Itz(t1 t2 t3:afw):It :=
 ⟨λi H=>∃xs ys zs x y z,H t1=some (.tup xs)/\H t2=some (.tup ys)/\H t3=some (.tup zs)/\xs[i]? =some x/\ys[i]? =some y/\zs[i]? =some z,
  λi H v H'=>∃p,v= .ref p/\H p=none/\∃xs ys zs x y z,H t1=some (.tup xs)/\H t2=some (.tup ys)/\H t3=some (.tup zs)/\xs[i]? =some x/\ys[i]? =some y/\zs[i]? =some z/\H'=upd H p (.tup [x,y,z]),
  λi H=>∃xs,H t1=some (.tup xs)/\xs.length<=i⟩
def Lw(z T O j1 j2 j3 t1 t2 t3:afw)(i:Nat)(h:Heap):Prop:=IsZip h z T O .none/\qh h T (.ref j1) (.ref j2) (.ref j3)/\(∃a b c,qh h O a b c)/\h.IsTupleIter j1 t1 i/\h.IsTupleIter j2 t2 i/\h.IsTupleIter j3 t3 i
theorem FJ{b z T O j1 j2 j3:afw}(h:b∈[z,O,j1,j2,j3]):b∈[z,T,O,j1,j2,j3]:=(List.mem_cons.mp h).elim (λe=>e ▸ bw) λh=>aO _ (aO _ h)
theorem FK{P:afA}{w:afD}{K:PySem.W.Frag}{es:List Expr}{kt:Nat}{pt:Pos}{z T O j1 j2 j3 t1 t2 t3:afw}(nd:[z,T,O,j1,j2,j3].Nodup):Turn P w K (.Tuple es kt pt) (Itz t1 t2 t3) [z,T,O,j1,j2,j3] z (Lw z T O j1 j2 j3 t1 t2 t3) where
 mem:=by simp
 obj:=λi h st b hb=>by
  obtain⟨a1,a2,⟨a,b',c,a3⟩,⟨o1,q1,_,d1⟩,⟨o2,q2,_,d2⟩,⟨o3,q3,_,d3⟩⟩:=st
  simp only[aP,aR,or_false] at hb
  rcases hb with rfl | rfl | rfl | rfl | rfl | rfl
  ·exact⟨_,a1,λv z=>by cases z⟩
  ·exact⟨_,a2,λv z=>by cases z⟩
  ·exact⟨_,a3,λv z=>by cases z⟩
  ·exact⟨o1,q1,λv z=>by rw[d1] at z;cases z⟩
  ·exact⟨o2,q2,λv z=>by rw[d2] at z;cases z⟩
  ·exact⟨o3,q3,λv z=>by rw[d3] at z;cases z⟩
 keep:=λi h h' st k=>by
  obtain⟨a1,a2,⟨a,b,c,a3⟩,⟨o1,q1,r1⟩,⟨o2,q2,r2⟩,⟨o3,q3,r3⟩⟩:=st
  exact⟨k z (by simp) _ a1,k T (by simp) _ a2,⟨a,b,c,k O (by simp) _ a3⟩,⟨o1,k j1 (by simp) _ q1,r1⟩,⟨o2,k j2 (by simp) _ q2,r2⟩,⟨o3,k j3 (by simp) _ q3,r3⟩⟩
 item:=by
  intro X hP hw hK hc i pins s σ H E I hf st hg
  subst hP hw hK
  obtain⟨xs,ys,zs,x,y,v,H1,H2,H3,x1,x2,x3⟩:=hg
  obtain⟨i1,r1,p1,_⟩:=I.tuple (eF.of H1)
  obtain⟨i2,r2,p2,_⟩:=I.tuple (eF.of H2)
  obtain⟨i3,r3,p3,_⟩:=I.tuple (eF.of H3)
  obtain⟨u1,e1,m1⟩:=r1.get x1
  obtain⟨u2,e2,m2⟩:=r2.get x2
  obtain⟨u3,e3,m3⟩:=r3.get x3
  obtain⟨a1,a2,⟨a,b,c,a3⟩,a4,a5,a6⟩:=st
  have no:∀{t:afw}{ws:List V},H t=some (.tup ws)->t∉[z,O,j1,j2,j3]:=λ{t ws} q hb=>by
   have n:=(hf t (FJ hb)).1
   rw[q] at n;cases n
  refine J5 ⟨nd,no H1,no H2,no H3⟩ a1 a2 a3 a4 a5 a6 p1 p2 p3 (by simpa using e1) (by simpa using e2) (by simpa using e3) λg b1 b2 b3 b4 b5 b6 b7 b8=>?_
  refine⟨.ref s.heap.objs.size,rfl,?_⟩
  refine wpAny_letOwnedTupleGo_zip b1 λh2 c1 sb=>?_
  have hfr:H s.heap.objs.size=none:=I.hok.fresh (au _)
  have nd':=nd
  simp only[jn,aP,aR,or_false,not_or,hZ,and_true,not_false_eq_true] at nd'
  obtain⟨⟨zT,zO,z1,z2,z3⟩,⟨TO,T1,T2,T3⟩,_⟩:=nd'
  have lt:∀b o,s.heap.get? b=some o->b≠s.heap.objs.size:=λb o q=>aZ (aC q)
  have Lv:z≠s.heap.objs.size:=lt _ _ a1
  have kp:∀b o,b∉[z,O,j1,j2,j3]->s.heap.get? b=some o->h2.get? b=some o:=λb o hb q=>sb.extBut _ _ (λe=>hb (by simp[e])) (b8 b o hb q)
  have FO:∀b u,H b=some u->b∉[z,O,j1,j2,j3]:=λb u q hb=>by
   have n:=(hf b (FJ hb)).1
   rw[q] at n;cases n
  have mz:∀b,b∉[z,T,O,j1,j2,j3]->b∉[z,O,j1,j2,j3]:=λb h hb=>h (FJ hb)
  have kt:∀b u,H b=some u->b≠s.heap.objs.size:=λb u q=>bt q hfr
  have Tn:h2.get? s.heap.objs.size=some { cls:=.type "tuple",data:=.seq #[u1,u2,u3] }:=sb.extBut _ _ (ay Lv) b6
  have Xm:∀b∈[z,T,O,j1,j2,j3],b≠s.heap.objs.size:=λb hb=>by
   simp only[aP,aR,or_false] at hb
   rcases hb with rfl | rfl | rfl | rfl | rfl | rfl
   ·exact Lv
   ·exact lt _ _ a2
   ·exact lt _ _ a3
   ·obtain⟨o,q,_⟩:=a4;exact lt _ _ q
   ·obtain⟨o,q,_⟩:=a5;exact lt _ _ q
   ·obtain⟨o,q,_⟩:=a6;exact lt _ _ q
  have at':∀{j t:afw}{n:Nat},j≠z->g.IsTupleIter j t n->h2.IsTupleIter j t n:=λn ⟨o,q,r⟩=>⟨o,sb.extBut _ _ n q,r⟩
  refine⟨.ref s.heap.objs.size,upd H s.heap.objs.size (.tup [x,y,v]),?_,rfl,⟨s.heap.objs.size,rfl,hfr,xs,ys,zs,x,y,v,H1,H2,H3,x1,x2,x3,rfl⟩,⟨c1,?_,⟨u1,u2,u3,sb.extBut _ _ (ay zO) b2⟩,at' (ay z1) b3,at' (ay z2) b4,at' (ay z3) b5⟩,λb hb=>?_⟩
  ·refine I.qv (s':={ s with heap:=h2 }) (ch:=[z,T,O,j1,j2,j3]) rfl ?_ ?_ I.bare (λb hb=>⟨(hf b hb).2.2.2.1,(hf b hb).2.1,(hf b hb).2.2.2.2.1,(hf b hb).2.2.2.2.2⟩)
   ·refine⟨λb o q _ _ hx=>kp b o (mz b hx) q,λb o q _ _ hx=>⟨o.slots,kp b o (mz b hx) q⟩,λb o q n _=>by rw[aA (lt b o q)];exact n,λb o q hx=>⟨o,kp b o (mz b hx) q⟩,λb ys q=>by rw[aA (kt b _ q)];exact q,λb o y q=>by rw[aA (kt b _ q)];exact q,λb ps q=>⟨#[],by rw[aA (kt b _ q),q];simp⟩⟩
   ·intro b o q
    by_cases hb:b=s.heap.objs.size
    ·subst hb
     rw[aJ] at q
     cases q
     exact⟨by show 3<=afN;decide,[u1,u2,u3],.cons m1 (.cons m2 (.cons m3 .nil)),⟨_,Tn,rfl,0,rfl⟩,λo q=>by rw[Tn] at q;cases q;rfl⟩
    ·rw[aA hb] at q
     refine(I.hok b o q).stay (λc v hc g=>?_) (λc g=>by rw[aA (kt c _ g)];exact g) λc ys g=>by rw[aA (kt c _ g)];exact g
     rcases hc with e | e
     ·subst e;exact kp _ _ (FO _ _ q) g
     ·exact kp _ _ (FO _ _ e) g
  ·refine kp T _ ?_ a2
   simp only[aP,aR,or_false,not_or]
   exact⟨ay zT,TO,T1,T2,T3⟩
  ·rw[aA (Xm b hb)];exact(hf b hb).1
 done:=by
  intro X hP hw hK hc i pins s σ H E I hf st hg
  subst hP hw hK
  obtain⟨xs,H1,hl⟩:=hg
  obtain⟨i1,r1,p1,_⟩:=I.tuple (eF.of H1)
  obtain⟨a1,a2,⟨a,b,c,a3⟩,a4,a5,a6⟩:=st
  have no:t1∉[z,O,j1,j2,j3]:=λhb=>by
   have n:=(hf t1 (by simp only[aP,aR,or_false] at hb ⊢;rcases hb with h | h | h | h | h<;>simp[h])).1
   rw[H1] at n;cases n
  have hlen:=r1.length
  have FO:∀b u,H b=some u->b∉[z,O,j1,j2,j3]:=λb u q hb=>by
   have n:=(hf b (FJ hb)).1
   rw[q] at n;cases n
  have mz:∀b,b∉[z,T,O,j1,j2,j3]->b∉[z,O,j1,j2,j3]:=λb h hb=>h (FJ hb)
  refine FI (I.ok.hd hc) (t2:=t1) (t3:=t1) ⟨nd,no,no,no⟩ a1 a2 a3 a4 p1 (by simp;omega) λg kp=>⟨rfl,?_⟩
  refine I.qv (s':={ s with heap:=g }) (ch:=[z,T,O,j1,j2,j3]) rfl ?_ ?_ I.bare (λb hb=>⟨(hf b hb).2.2.2.1,(hf b hb).2.1,(hf b hb).2.2.2.2.1,(hf b hb).2.2.2.2.2⟩)
  ·exact⟨λb o q _ _ hx=>kp b o (mz b hx) q,λb o q _ _ hx=>⟨o.slots,kp b o (mz b hx) q⟩,λb o q n _=>n,λb o q hx=>⟨o,kp b o (mz b hx) q⟩,λb ys q=>q,λb o y q=>q,λb ps q=>⟨#[],by rw[q];simp⟩⟩
  ·intro b o q
   refine(I.hok b o q).stay (λc v hc g=>?_) (λc g=>g) λc ys g=>g
   rcases hc with e | e
   ·subst e;exact kp _ _ (FO _ _ q) g
   ·exact kp _ _ (FO _ _ e) g
 self:=λ_ _ _ _ _ st h=>wpAny_pyIter_zip st.1 h
section
variable {X:Cx}
def Xn(ta:TA):TI:=λσ H R=>ta σ H λvs H1=>∃t1 t2 t3 xs ys zs,vs=[.ref t1,.ref t2,.ref t3]/\H1 t1=some (.tup xs)/\H1 t2=some (.tup ys)/\H1 t3=some (.tup zs)/\R (Itz t1 t2 t3) H1
theorem T_{a b c:afw}{us:List afC}(r:Vals [.ref a,.ref b,.ref c] us):∃u v w,us=[u,v,w]/\u= .ref a/\v= .ref b/\w= .ref c:=by
 cases r with
 | cons r1 r=>
  cases r with
  | cons r2 r=>
   cases r with
   | cons r3 r=>
    cases r
    exact⟨_,_,_,rfl,r1,r2,r3⟩
theorem OA{es:List Expr}{kt:Nat}{pt p q:Pos}{l:Expr}{ls:List Expr}{ta:TA}(hg:Gl X "zip")(hm:X.mg "zip"=none)(ha:PA X (l::ls) ta)(hst:afO (l::ls) X.env=(false,eval l X.env)::afO ls X.env)(hpl:(backTo q (afO ls X.env)).any (·.1)=false) :
  PI X (.Tuple es kt pt) (.Call (.Name "zip" p) (l::ls) [] q) (Xn ta):=by
 intro pins s σ H R I h
 refine wpAny_Call_Name_kw (jc I hg hm boot_zip ?_)
 refine kY (bp (ha q pins s σ H _ I h) λus s1 ⟨vs,H1,I1,r1,q1⟩=>?_) hst hpl
 obtain⟨t1,t2,t3,xs,ys,zs,e,h1,h2,h3,k⟩:=q1
 subst e
 obtain⟨v1,v2,v3,rfl,rfl,rfl,rfl⟩:=T_ r1
 ·
  obtain⟨i1,_,p1,_⟩:=I1.tuple (eF.of h1)
  obtain⟨i2,_,p2,_⟩:=I1.tuple (eF.of h2)
  obtain⟨i3,_,p3,_⟩:=I1.tuple (eF.of h3)
  refine CG p1 p2 p3 λg b1 b2 b3 b4 b5 b6 kp=>wpAny_pyIter_zip b1 ?_
  have nd:[s1.heap.objs.size+5,s1.heap.objs.size+3,s1.heap.objs.size+4,s1.heap.objs.size,s1.heap.objs.size+1,s1.heap.objs.size+2].Nodup:=by
   simp only[jn,aP,aR,or_false,not_or,hZ,and_true,not_false_eq_true]
   refine⟨⟨?_,?_,?_,?_,?_⟩,⟨?_,?_,?_,?_⟩,⟨?_,?_,?_⟩,⟨?_,?_⟩,?_⟩<;>omega
  have zs:Lw (s1.heap.objs.size+5) (s1.heap.objs.size+3) (s1.heap.objs.size+4) s1.heap.objs.size (s1.heap.objs.size+1) (s1.heap.objs.size+2) t1 t2 t3 0 g:=⟨b1,b2,⟨_,_,_,b3⟩,b4,b5,b6⟩
  have tz:=FK (P:=X.prog) (w:=X.w) (K:=X.K) (es:=es) (kt:=kt) (pt:=pt) (t1:=t1) (t2:=t2) (t3:=t3) nd
  refine⟨s1.heap.objs.size+5,_,_,_,H1,rfl,I1.kept (t':=s1.toks) kp,tz,zs,λb hb=>?_,k⟩
  have ge:s1.heap.objs.size<=b:=by
   simp only[aP,aR,or_false] at hb
   rcases hb with rfl | rfl | rfl | rfl | rfl | rfl<;>omega
  exact I1.sx (pins:=pins) (H':=H1) (b:=b) ge (I1.hok.fresh ge)
def rh:List Wv->List Wv->List Wv->List Wv
 | a::as,b::bs,c::cs=> .tup [a,b,c]::rh as bs cs
 | _,_,_=>[]
theorem rj:∀{as bs cs:List Wv}{i:Nat},as.length<=bs.length->as.length<=cs.length->(h:i < as.length)->∃a b c,as[i]? =some a/\bs[i]? =some b/\cs[i]? =some c/\(rh as bs cs)[i]? =some (.tup [a,b,c])
 | a::as,b::bs,c::cs,0,_,_,_=>⟨a,b,c,rfl,rfl,rfl,rfl⟩
 | a::as,b::bs,c::cs,i+1,h1,h2,h=>by
  obtain⟨x,y,z,e⟩:=rj (as:=as) (bs:=bs) (cs:=cs) (i:=i) (by simpa using h1) (by simpa using h2) (by simpa using h)
  exact⟨x,y,z,by simpa [rh] using e⟩
 | [],_,_,_,_,_,h=>by simp at h
 | _::_,[],_,_,h,_,_=>by simp at h
 | _::_,_::_,[],_,_,h,_=>by simp at h
theorem xn:∀{as bs cs:List Wv},as.length<=bs.length->as.length<=cs.length->(rh as bs cs).length=as.length
 | a::as,b::bs,c::cs,h1,h2=>by simp only[rh,p_];rw[xn (by simpa using h1) (by simpa using h2)]
 | [],_,_,_,_=>by simp[rh]
 | _::_,[],_,h,_=>by simp at h
 | _::_,_::_,[],_,h=>by simp at h
def OB(ws:List Wv)(st:Hs):Re TV:=match ws with
 | [.tup as,.tup bs,.tup cs]=>if as.length<=bs.length/\as.length<=cs.length then .ok (none,rh as bs cs) st else .bad
 | _=> .bad
def t_(g:GA):Fh:=λρ st=>(g ρ st).bind OB
theorem J6{es:List Expr}{kt:Nat}{pt p q:Pos}{l:Expr}{ls:List Expr}{ga:GA}(hg:Gl X "zip")(hm:X.mg "zip"=none)(ha:JA X (l::ls) ga)(hst:afO (l::ls) X.env=(false,eval l X.env)::afO ls X.env)(hpl:(backTo q (afO ls X.env)).any (·.1)=false) :
  Lk X (.Tuple es kt pt) (.Call (.Name "zip" p) (l::ls) [] q) (t_ ga):=by
 refine⟨_,OA hg hm h_ hst hpl,λρ st σ H m Q S R p=>?_⟩
 refine ha.go S R (ax.bind p) λws st1 vs m1 H1 p1 e1 S1 rs=>?_
 unfold OB at p1
 split at p1
 ·rename_i as bs cs
  by_cases c:as.length<=bs.length/\as.length<=cs.length
  ·rw[if_pos c] at p1
   obtain⟨w1,w2,w3,v1,v2,v3,e,rfl,r1,r2,r3⟩:=Ot rs rfl
   cases e
   unfold ag at r1 r2 r3
   obtain⟨t1,xs,rfl,f1,g1⟩:=r1
   obtain⟨t2,ys,rfl,f2,g2⟩:=r2
   obtain⟨t3,zs,rfl,f3,g3⟩:=r3
   have len:=xn c.1 c.2
   refine⟨t1,t2,t3,xs,ys,zs,rfl,f1,f2,f3,p1 m1 H1 _ e1 S1 trivial ⟨λk H' m' st' e S' _ hk=>?_,λk H' m' st' e S' _ hk=>?_,λk hk H' v Xa m' st' e S' _ y=>?_⟩⟩
   ·have hk':k < as.length:=by rw[<-len];exact hk
    obtain⟨a,b,c',q1,q2,q3,_⟩:=rj c.1 c.2 hk'
    obtain⟨x,y1,_⟩:=g1.get q1
    obtain⟨y,y2,_⟩:=g2.get q2
    obtain⟨z,y3,_⟩:=g3.get q3
    exact⟨xs,ys,zs,x,y,z,e.tup _ _ f1,e.tup _ _ f2,e.tup _ _ f3,y1,y2,y3⟩
   ·exact⟨xs,e.tup _ _ f1,by rw[<-g1.length,hk];exact nr len.symm⟩
   ·have hk':k < as.length:=by rw[<-len];exact hk
    obtain⟨a,b,c',q1,q2,q3,q4⟩:=rj c.1 c.2 hk'
    obtain⟨x,y1,z1⟩:=(ah.mono e _ _ g1).get q1
    obtain⟨x',y2,z2⟩:=(ah.mono e _ _ g2).get q2
    obtain⟨x'',y3,z3⟩:=(ah.mono e _ _ g3).get q3
    obtain⟨p',rfl,fr,xs',ys',zs',a1,a2,a3,d1,d2,d3,d4,d5,d6,rfl⟩:=y
    rw[e.tup _ _ f1] at d1
    rw[e.tup _ _ f2] at d2
    rw[e.tup _ _ f3] at d3
    cases d1
    cases d2
    cases d3
    rw[y1] at d4
    rw[y2] at d5
    rw[y3] at d6
    cases d4
    cases d5
    cases d6
    have eU:Ext X.K m' H' m' (upd H' p' (.tup [x,x',x''])):=Ext.jP (.inl fr)
    refine⟨eU,S'.fresh fr,?_⟩
    have q5:(rh as bs cs)[k]'hk= .tup [a,b,c']:=by
     have:=fm hk
     rw[q4] at this
     exact(Option.some.inj this).symm
    show ag X.K m' (upd H' p' (.tup [x,x',x''])) ((rh as bs cs)[k]'hk) (.ref p')
    rw[q5]
    unfold ag
    exact⟨p',[x,x',x''],rfl,aJ,ah.cons (ag.mono eU _ _ z1) (ah.cons (ag.mono eU _ _ z2) (ah.cons (ag.mono eU _ _ z3) ah.nil))⟩
  ·rw[if_neg c] at p1;exact ae p1
 ·exact ae p1
end
def Xo(lo c:Int)(n:Nat):It:=⟨λi _=>i < n,λi H v H'=>H'=H/\v= .int (lo+i * c),λi _=>n<=i⟩
theorem xo{P:afA}{w:afD}{K:PySem.W.Frag}{tg:Expr}(it:afw)(lo c:Int)(n:Nat):Turn P w K tg (Xo lo c n) [it] it (λi h=>IsRangeIter h it (lo+(i:Nat) * c) ((n:Int) - (i:Nat)) c) where
 mem:=by simp
 obj:=λi h st b hb=>by
  have e:b=it:=by simpa using hb
  subst e
  exact⟨_,st,λv z=>by cases z⟩
 keep:=λi h h' st k=>k it (by simp) _ st
 item:=by
  intro X hP hw hK hc i pins s σ H E I hf st hg
  subst hP hw hK
  obtain⟨f0,f1,f2,f3,f4,f5⟩:=hf it (by simp)
  have W:=Walks.range (prog:=X.prog) (w:=X.w) (I.ok.hd hc) it lo c n
  refine W.item i s _ _ hg st λv h' tk hv st' kk=>?_
  obtain⟨t,rfl⟩:=hv
  have I1:Inv X pins σ H { s with heap:=h',toks:=tk }:=I.turned (λb o hb e=>kk b o (by simpa using hb) e) f0 f1 f3 f4 f5
  exact⟨_,rfl,qx (s:={ s with heap:=h',toks:=tk }) (n:="range_iterator") st' rfl rfl (by decide) ⟨.int (lo+i * c),H,I1,⟨t,rfl⟩,⟨rfl,rfl⟩,st',λb hb=>(hf b hb).1⟩⟩
 done:=by
  intro X hP hw hK hc i pins s σ H E I hf st hg
  subst hP hw hK
  obtain⟨f0,f1,f2,f3,f4,f5⟩:=hf it (by simp)
  exact wpAny_pyNext_range_end (I.ok.hd hc) st (by have:n<=i:=hg;omega) λh' eb=>⟨rfl,I.turned (t':=s.toks) (λb o hb e=>eb b o hb e) f0 f1 f3 f4 f5⟩
 self:=λ_ _ _ _ _ st h=>wpAny_pyIter_rangeiter st h
theorem CI(a b c:afC):checkTypeCall "range" ⟨[a,b,c],[]⟩=pure ():=by kernel_rfl
theorem CJ(a b c:afC):checkBuiltinCall "range.__new__" ⟨[.type "range",a,b,c],[]⟩=pure ():=by kernel_rfl
def FP(a b c:Int):Prop:=0<=a/\a < 2 ^ 30/\0<=b/\b < 2 ^ 30/\1<=c/\c < 2 ^ 30
instance {a b c}:Decidable (FP a b c):=EH _
def ig(a b c:Int):Nat:=(if a < b then(b - a - 1) / c+1 else 0).toNat
theorem CK{a b c:Int}(h:FP a b c):qy a b c=ig a b c:=by
 obtain⟨h1,h2,h3,h4,h5,h6⟩:=h
 unfold qy ig
 rw[if_pos (by omega)]
 by_cases e:a < b
 ·rw[if_pos e]
  have:0<=(b - a - 1) / c:=Int.ediv_nonneg (by omega) (by omega)
  omega
 ·rw[if_neg e];rfl
theorem ze{a b c:Int}(h:FP a b c):OC a b c=true:=by
 obtain⟨h1,h2,h3,h4,h5,h6⟩:=h
 unfold OC qy
 have d1:0<=(b - a - 1) / c\/¬a < b:=by
  by_cases e:a < b
  ·exact .inl (Int.ediv_nonneg (by omega) (by omega))
  ·exact .inr e
 have d2:a < b->(b - a - 1) / c<=b - a - 1:=λe=>Int.ediv_le_self _ (by omega)
 simp only[Builtin.Range.rangeFitsLong,cO,Eu,decide_eq_true_eq,beq_iff_eq,show c > 0 by omega,if_true]
 split<;>omega
theorem Ua{a b c:Int}(h:FP a b c):OD (b - a) c=false:=by
 obtain⟨h1,h2,h3,h4,h5,h6⟩:=h
 have e0:(c == 0)=false:=by rw[beq_eq_false_iff_ne];omega
 have e1:c.natAbs.log2 < 30:=(Nat.log2_lt (by omega)).mpr (by omega)
 have e2:c.natAbs.log2 / 30=0:=Nat.div_eq_of_lt e1
 simp[OD,e0,e2]
theorem xp{P:afA}{w:afD}{A:afx}{E:afC->afB->Prop}{s:afB}{a b c:Int}{t u v:Tok}{Q:afC->afB->Prop}(h:FP a b c)
  (k:Q (.ref s.heap.objs.size) { s with heap:=s.heap.push { cls:=.type "range",data:=.fields #[.int a t,.int b u,.int c v] } }):afP (model P w) A (call (.type "range") [.int a t,.int b u,.int c v]) Q E s:=by
 refine callType_new F.called_range (by decide) (CI _ _ _) (CJ _ _ _) (λobj=>T9 obj _ _ _) F.entry_range_new (AutoRange.range___new___type_int_int_int_1 a b c t u v F.called_range.sub ?_) ⟨Ua h,⟨_,br _ rfl,rfl⟩,k⟩
 have:c≠0:=by have:=h.2.2.2.2.1;omega
 simpa using this
section
variable {X:Cx} {tg:Expr}
def Ub(ta:TA):TI:=λσ H R=>ta σ H λvs H1=>∃a b c:Int,vs=[.int a,.int b,.int c]/\FP a b c/\R (Xo a c (ig a b c)) H1
theorem ints3{a b c:Int}{us:List afC}(r:Vals [.int a,.int b,.int c] us):∃t u v,us=[.int a t,.int b u,.int c v]:=by
 cases r with
 | cons r1 r=>
  cases r with
  | cons r2 r=>
   cases r with
   | cons r3 r=>
    cases r
    obtain⟨t,rfl⟩:=r1
    obtain⟨u,rfl⟩:=r2
    obtain⟨v,rfl⟩:=r3
    exact⟨t,u,v,rfl⟩
theorem CL{l:Expr}{ls:List Expr}{ta:TA}{p pos:Pos}(hg:Gl X "range")(hm:X.mg "range"=none)(ha:PA X (l::ls) ta)(hst:afO (l::ls) X.env=(false,eval l X.env)::afO ls X.env)(hpl:(backTo pos (afO ls X.env)).any (·.1)=false) :
  PI X tg (.Call (.Name "range" p) (l::ls) [] pos) (Ub ta):=by
 intro pins s σ H R I h
 refine wpAny_Call_Name_kw (jc I hg hm boot_range ?_)
 refine kY (bp (ha pos pins s σ H _ I h) λus s1 ⟨vs,H1,I1,r1,q1⟩=>?_) hst hpl
 obtain⟨a,b,c,rfl,hc,q⟩:=q1
 obtain⟨t,u,v,rfl⟩:=ints3 r1
 refine xp hc ?_
 refine wpAny_pyIter_range (DM ..) (ze hc) ?_
 have I2:Inv X pins σ H1 { s1 with heap:=s1.heap.push { cls:=.type "range",data:=.fields #[.int a t,.int b u,.int c v] } }:=I1.kept (t':=s1.toks) λb o e=>aF _ e
 refine⟨(s1.heap.push { cls:=.type "range",data:=.fields #[.int a t,.int b u,.int c v] }).objs.size,[(s1.heap.push { cls:=.type "range",data:=.fields #[.int a t,.int b u,.int c v] }).objs.size],_,_,H1,rfl,I2.kept (t':=s1.toks) λb o e=>aF _ e,xo _ a c (ig a b c),?_,λy hy=>?_,q⟩
 ·have e1:a+((0:Nat):Int) * c=a:=by simp
  have e2:((ig a b c:Nat):Int) - ((0:Nat):Int)=qy a b c:=by rw[CK hc];simp
  show IsRangeIter _ _ (a+((0:Nat):Int) * c) (((ig a b c:Nat):Int) - ((0:Nat):Int)) c
  rw[e1,e2]
  exact br _ rfl
 ·have e:y=(s1.heap.push { cls:=.type "range",data:=.fields #[.int a t,.int b u,.int c v] }).objs.size:=by simpa using hy
  subst e
  exact I2.sx (au _) (I2.hok.fresh (au _))
def rl(lo c:Int)(n:Nat):List Wv:=(gn n).map λk:Nat=>Wv.int (lo+k * c)
theorem nJ{lo c:Int}{n:Nat}:(rl lo c n).length=n:=by unfold rl;simp
theorem ua{lo c:Int}{n k:Nat}(h:k < n):(rl lo c n)[k]? =some (.int (lo+k * c)):=by
 unfold rl
 rw[iF,List.getElem?_range h]
 rfl
theorem FQ{lo c:Int}{n k:Nat}(h:k < (rl lo c n).length):(rl lo c n)[k]= .int (lo+k * c):=by
 have q:=ua (lo:=lo) (c:=c) (n:=n) (k:=k) (by rw[nJ] at h;exact h)
 rw[fm h] at q
 exact Option.some.inj q
def rp(i:Nat)(ga:GA)(gb:GS):GS:=λρ st=>(ga ρ st).bp ρ λws st1=>match ws with
 | [.int a,.int b,.int c]=>if FP a b c then fP i gb (rl a c (ig a b c)) ρ st1 else .bad
 | _=> .bad
theorem FR(i:Nat){x:Str}{l:Expr}{ls:List Expr}{body:List Stmt}{ga:GA}{gb:GS}{pos pos' p q:Pos}(hN:X.N.Nodup)(hp:PassesOwn (model X.prog X.w) X.A X.env X.xe)(hc:X.calm=true)(hg:Gl X "range")(hm:X.mg "range"=none)(ha:JA X (l::ls) ga)(hb:lT X body gb)
  (hx:X.N[i]? =some x)(hlo:Loc X.env.scope x)(NM:X.fn x=true\/X.env.scope.names.lookup x=some .local)(hst:afO (l::ls) X.env=(false,eval l X.env)::afO ls X.env)(hpl:(backTo q (afO ls X.env)).any (·.1)=false) :
  JS X (.For (.Name x pos') (.Call (.Name "range" p) (l::ls) [] q) body [] pos) (rp i ga gb):=by
 refine JS.of (lZ hp hc (CL hg hm h_ hst hpl) (mW hN hx hlo NM) dN (λ_=>rfl)) λρ st σ H m D S R p=>?_
 refine ha.go S R (aE.cK R p) λws st1 vs m1 H1 p1 e1 S1 rs=>?_
 split at p1
 ·rename_i a b c
  by_cases cc:FP a b c
  ·rw[if_pos cc] at p1
   obtain⟨w1,w2,w3,v1,v2,v3,e,rfl,r1,r2,r3⟩:=Ot rs rfl
   cases e
   cases aL r1
   cases aL r2
   cases aL r3
   refine⟨a,b,c,rfl,cc,nk (J':=Xo a c (ig a b c)) i hb S1 (R.mono e1) (aE.shift p1 e1) (λk H m' e hk=>by rw[nJ] at hk;exact hk) (λk H m' e hk=>by rw[nJ] at hk;exact nr hk.symm) λk hk H x H' m' e y=>?_⟩
   obtain⟨y1,y2⟩:=y
   refine⟨y1,?_⟩
   rw[FQ,y2]
   exact mkInt
  ·rw[if_neg cc] at p1;exact ae p1
 ·exact ae p1
end
section
variable {X:Cx}
end
section
variable {X:Cx}
end
theorem J7(l:afw)(items:Array afC)(n:Nat)(b:afw)(items2:Array afC)(n2:Nat)(dd:Option afw)(sl:Array (Option afC))(hs0:¬(!items.isEmpty&&qF (items.size+items2.size))=true)(hs1:items.size<=afN)(hs2:items.size+items2.size<=afN+1) :
  Meets (Builtin.«list.extend» ⟨[.ref l,.ref b],[]⟩) (λ_ R s=>s.heap.get? l=some { cls:=.type "list",dict:=none,data:=.seq items n,slots:=#[] }/\s.heap.get? b=some ⟨.type "tuple",dd,.seq items2 n2,sl⟩/\R (.ok (.ret bY)) { s with heap:=s.heap.update l (k_ λx=>x++items2),toks:=s.toks }) :=
 .of_wp λprog w A R s h=>by
  obtain⟨hp,g,d,tk,os⟩:=s;obtain⟨hl,hb,h⟩:=h;have f1:=AutoSeq1.idx_int;have f2:=AutoSeq1.sub_tuple_tuple;have f3:=AutoSeq1.sub_list_list;have f4:=AutoSeq1.sub_tuple_list;have f5:=AutoSeq1.sub_list_tuple;
  have hz':(items++items2).size<=afN+1:=by rw[Array.size_append];exact hs2
  wp_walk using (wpAny_updateSeq hl rfl (hz:=hs1) (_hz':=hz')),wpAny_loadPart' hl,wpAny_loadPart' hb;exact⟨_,rfl,h⟩
def xq(K:PySem.W.Frag):V->List V->Hp->VK->Prop:=λx vs H Q=>∃l b xs zs,x= .ref l/\vs=[.ref b]/\H l=some (.lst xs)/\eF K H b zs/\xs.length+zs.length<=afN/\Q .bO (upd H l (.lst (xs++zs)))
section
variable {X:Cx}
theorem zf:WD X "list.extend" (xq X.K):=by
 intro pins s σ H x vs v us Q I rx rv h
 obtain⟨l,b,xs,zs,rfl,rfl,hH,hB,hz,q⟩:=h
 cases rx
 obtain⟨u,rfl,ru⟩:=rv.one
 cases ru
 obtain⟨z,its,n,r,hl,e⟩:=I.DX hH
 obtain⟨its2,r2,⟨o,e2,oc,n2,od⟩,z2⟩:=I.tuple hB
 obtain⟨oc',dd,od',sl⟩:=o
 dsimp only at oc od
 subst oc od
 have l1:xs.length=its.length:=r.length
 have l2:zs.length=its2.length:=r2.length
 have hsz:its.toArray.size+its2.toArray.size<=afN:=by rw[aT,aT];omega
 have wq:¬(!its.toArray.isEmpty&&qF (its.toArray.size+its2.toArray.size))=true:=by
  rw[qE hsz,Bool.and_false]
  exact cT
 refine call_meets F.slot_list_extend ⟨_,e,rfl⟩ F.entry_list_extend (F.args_list_extend_2 _ _)
  (J7 l its.toArray n b its2.toArray n2 dd sl wq (by rw[aT];omega) (by omega)) ⟨e,e2,?_⟩
 refine⟨.bO,_,I.M7 (its':=its++its2) hH e (by simp) (r.append r2) ?_,rfl,q⟩
 rw[bZ]
 omega
def xt(o v:Wv)(st:Hs):Re Wv:=match v with
 | .tup zs=>(match o with
  | .ref l=>(match st[l]? with
   | some (.lst ws)=>if ws.length+zs.length<=lim then .ok .bO (st.set l (.lst (ws++zs))) else .bad
   | _=> .bad)
  | _=> .bad)
 | v=>NV o v st
theorem J8:Vm X "list.extend" xt:=by
 obtain⟨r0,m0,h0⟩:=NW (X:=X)
 refine⟨λx vs H Q=>r0 x vs H Q\/xq X.K x vs H Q,?_,λo w x v st H m Q S ro rw' p=>?_⟩
 ·intro pins s σ H x vs v us Q I rx rv h
  rcases h with h | h
  ·exact m0 pins s σ H x vs v us Q I rx rv h
  ·exact zf pins s σ H x vs v us Q I rx rv h
 ·cases w with
  | tup zs=>
   refine .inr ?_
   cases o with
   | ref l=>
    unfold ag at ro rw'
    obtain⟨a,rfl,ha⟩:=ro
    obtain⟨b,ys,rfl,hb,g2⟩:=rw'
    have p':eo X.K m H (match st[l]? with | some (.lst ws)=>if ws.length+zs.length<=lim then .ok .bO (st.set l (.lst (ws++zs))) else .bad | _=> .bad) Q:=p
    cases e:st[l]? with
    | none=>rw[e] at p';exact ae p'
    | some ob=>
     cases ob with
     | dct kvs=>rw[e] at p';exact ae p'
     | ja kvs=>rw[e] at p';exact ae p'
     | yd kvs=>rw[e] at p';exact ae p'
     | tJ ns=>rw[e] at p';exact ae p'
     | lst ws=>
      rw[e] at p'
      dsimp only at p'
      by_cases c:ws.length+zs.length<=lim
      ·rw[if_pos c] at p'
       obtain⟨xs,h1,h2⟩:=S.nh ha e
       have e4:Ext X.K m H m (upd H a (.lst (xs++ys))):=Ext.upd (.inr ⟨xs,h1⟩)
       exact⟨a,b,xs,ys,rfl,rfl,h1,eF.of hb,by rw[<-h2.length,<-g2.length];exact dZ c,p' _ m _ e4 (S.write ha e (h2.append g2)) AE⟩
      ·rw[if_neg c] at p';exact ae p'
   | _=>exact ae p
  | _=>exact .inl (h0 o _ x v st H m Q S ro rw' p)
end
section
variable {X:Cx}
end
theorem sH:entryFor table "proto.unchain"=some Builtin.«proto.unchain»:=entryFor_of_fast (by kernel_rfl)
section
variable {prog:afA} {w:afD} {A:afx} {E:afC->afB->Prop} {s:afB}
theorem zg{b:afw}{o:Obj}{vs:Array afC}{e:afC}{Q:afC->afB->Prop}(h1:s.heap.get? b=some o)(h2:o.data= .fields vs)(h3:vs[2]? =some bY)(k:Q .none s) :
  afP (model prog w) A (runValue (.builtin "proto.unchain" ⟨[e,.ref b,.ref b,.bool false],[]⟩)) Q E s:=by
 refine wpAny_runValue (codeAny_builtin sH ?_)
 unfold Builtin.«proto.unchain»
 refine(show afP _ _ (field (.ref b) 2 >>= _) _ _ s from afQ (wpAny_field h1 h2 h3 ?_))
 rw[if_pos (by rfl)]
 exact afW k
theorem zh{it b:afw}{o:Obj}{vs:Array afC}{x left step:Int}{Q:Option afC->afB->Prop}(hh:A.handled=some (.ref b))(h1:s.heap.get? b=some o)(h2:o.data= .fields vs)(h3:vs[2]? =some bY)(hit:IsRangeIter s.heap it x left step)(hl:left<=0)
  (k:∀h',Heap.ExtBut it s.heap h'->Q none { s with heap:=h' }):afP (model prog w) A (pyNext (.ref it)) Q E s:=by
 have ty:s.TypeIs (.ref it) "range_iterator":=⟨_,hit,rfl⟩
 unfold pyNext
 refine afQ (wpAny_attempt (wpAny_callSpecial?_slot (name:=hV "__next__") ty PySem.F.slot_range_iterator_next (wpAny_call_entry PySem.F.slot_range_iterator_next ty PySem.F.entry_range_iterator_next ?_ (PySem.F.args_range_iterator_next_1 _))))
 refine(show afP _ _ (field (.ref it) 0 >>= _) _ _ s from afQ (wpAny_field hit rfl (x:=rawInt x) rfl ?_))
 refine(show afP _ _ (field (.ref it) 1 >>= _) _ _ s from afQ (wpAny_field hit rfl (x:=rawInt left) rfl ?_))
 refine(show afP _ _ (field (.ref it) 2 >>= _) _ _ s from afQ (wpAny_field hit rfl (x:=rawInt step) rfl ?_))
 refine(show afP _ _ (if left<=0 then _ else _) _ _ s from ?_)
 rw[if_pos hl]
 refine afQ (wpAny_rule (afQ ?_))
 refine(show afP _ _ (newExc (.type "StopIteration") [] >>= _) _ _ _ from ?_)
 simp only[newExc,newTuple,raiseNew]
 refine afQ (afQ (afV (afQ (m:=firstArgMember _ _) (wpAny_of_eq (a:=bY) (by first | rfl | (simp only[firstArgMember];rfl)) (afV ?_ (by size_fits)))) (by size_fits)))
 refine(afQ (wpAny_handled ?_))
 rw[show A.in1.handled=some (.ref b) from hh]
 dsimp only
 have lt:b≠(s.heap.push { cls:=.type "tuple",data:=.seq #[] }).objs.size:=λz=>by
  have q:=aC (aF (h:=s.heap) { cls:=.type "tuple",data:=.seq #[] } h1)
  rw[<-z] at q
  exact cI _ q
 rw[if_pos (by simpa using lt)]
 refine afQ (afS (zg (aF _ (aF _ h1)) h2 h3 ?_))
 refine afQ ((show afP (model prog w) A.in1 (setField (.ref (s.heap.push { cls:=.type "tuple",data:=.seq #[] }).objs.size) 2 (.ref b)) _ _ _ from wpAny_setField (br _ rfl) rfl (by simp[ownMembersOf]) (wpAny_throw ?_)))
 refine afQ (wpAny_isInstance (b:=true) (T:="StopIteration") ⟨_,n8 _ (br _ rfl) rfl,rfl⟩ isSubtype_stop (afW ?_))
 refine k _ λc q hc e=>?_
 have e':((s.heap.push { cls:=.type "tuple",data:=.seq #[] }).push { cls:=uA "StopIteration",data:=.fields (#[.ref s.heap.objs.size,.none,.none,.none,.bool false,.none]++ownMembersOf (.type "StopIteration") []) }).get? c=some q:=(((Heap.ExtBut.refl it s.heap).push _).push _) c q hc e
 have ne:c≠(s.heap.push { cls:=.type "tuple",data:=.seq #[] }).objs.size:=λz=>by
  have q':=aC (aF (h:=s.heap) { cls:=.type "tuple",data:=.seq #[] } e)
  rw[<-z] at q'
  exact cI _ q'
 exact(n9 _ _ (ay ne)).trans e'
end
theorem FT{X:Cx}(h:yN X):Rc yN X:=λ_ _ _ _ _ _ _ _ I=>h.at I
theorem xu{P:afA}{w:afD}{K:PySem.W.Frag}{tg:Expr}(it:afw)(lo:Int)(n:Nat):AO yN P w K tg (HZ lo n) [it] it (λi h=>IsRangeIter h it (lo+(i:Nat) * 1) ((n:Int) - (i:Nat)) 1) where
 obj:=(je (P:=P) (w:=w) (K:=K) (tg:=tg) it lo n).obj
 keep:=(je (P:=P) (w:=w) (K:=K) (tg:=tg) it lo n).keep
 self:=(je (P:=P) (w:=w) (K:=K) (tg:=tg) it lo n).self
 item:=by
  intro X hP hw hK hc i pins s σ H E I hf st hg
  subst hP hw hK
  have hg':i < n:=hg
  obtain⟨f0,f1,f2,f3,f4,f5⟩:=hf it (by simp)
  refine wpAny_pyNext_range_item st (by omega) λh' st' sb=>?_
  have st2:IsRangeIter h' it (lo+((i+1:Nat):Int) * 1) ((n:Int) - ((i+1:Nat):Int)) 1:=by
   have e1:lo+((i+1:Nat):Int) * 1=lo+(i:Int) * 1+1:=by push_cast;omega
   have e2:(n:Int) - ((i+1:Nat):Int)=(n:Int) - (i:Int) - 1:=by push_cast;omega
   rw[e1,e2];exact st'
  have I1:Inv X pins σ H { s with heap:=h',toks:=s.toks+1 }:=I.turned (λb o hb e=>sb.extBut b o hb e) f0 f1 f3 f4 f5
  exact⟨_,rfl,qx (s:={ s with heap:=h',toks:=s.toks+1 }) (n:="range_iterator") st2 rfl rfl (by decide) ⟨.int (lo+i),H,I1,⟨s.toks,by rw[Int.mul_one]⟩,⟨rfl,rfl⟩,st2,λb hb=>(hf b hb).1⟩⟩
 done:=by
  intro X hP hw hK hc i pins s σ H E I hf st hg
  subst hP hw hK
  have hg':n<=i:=hg
  obtain⟨f0,f1,f2,f3,f4,f5⟩:=hf it (by simp)
  rcases hc.at I with h0 | ⟨b,o,u,h1,⟨vs,d1,d2⟩,h3⟩
  ·exact wpAny_pyNext_range_end h0 st (by omega) λh' eb=>⟨rfl,I.turned (t':=s.toks) (λb o hb e=>eb b o hb e) f0 f1 f3 f4 f5⟩
  exact zh h1 (I.hok _ _ h3).1 d1 d2 st (by omega) λh' eb=>⟨rfl,I.turned (t':=s.toks) (λb o hb e=>eb b o hb e) f0 f1 f3 f4 f5⟩
section
variable {X:Cx} {tg:Expr}
theorem zi{a:Expr}{ta:TA}{p pos:Pos}(hg:Gl X "range")(hm:X.mg "range"=none)(ha:PA X [a] ta)(hs:afO [a] X.env=[(false,eval a X.env)]):W' yN X tg (.Call (.Name "range" p) [a] [] pos) (K3 ta):=by
 intro pins s σ H R I h
 refine Call_ (jc I hg hm boot_range (kY (bp (ha pos pins s σ H _ I h) λus s1 ⟨vs,H1,I1,r1,j,e,q1,q2,q⟩=>?_) hs rfl))
 subst e
 obtain⟨u,rfl,t,rfl⟩:=vals1 r1
 refine call_range_1 (wpAny_pyIter_range (DM ..) (small_one (by omega) (by omega) q1 q2) ?_)
 generalize hh:s1.heap.push { cls:=.type "range",data:=.fields _ }=h2
 have I2:∀tk,Inv X pins σ H1 { s1 with heap:=h2,toks:=tk }:=λtk=>I1.kept λb o e=>by rw[<-hh];exact aF _ e
 refine⟨h2.objs.size,[h2.objs.size],_,HZ 0 j.toNat,H1,rfl,(I2 _).kept (t':=_) λb o e=>aF _ e,xu _ 0 j.toNat,?_,λb hb=>?_,q⟩
 ·have e2:((j.toNat:Nat):Int) - ((0:Nat):Int)=qy 0 j 1:=by rw[rangeSize_one];split<;>omega
  refine(show IsRangeIter _ _ ((0:Int)+((0:Nat):Int) * 1) (((j.toNat:Nat):Int) - ((0:Nat):Int)) 1 from ?_)
  rw[e2]
  exact br _ rfl
 ·rw[List.mem_singleton.mp hb]
  exact(I2 s1.toks).sx (au _) ((I2 s1.toks).hok.fresh (au _))
theorem OE{a:Expr}{ga:GA}{p q:Pos}(hg:Gl X "range")(hm:X.mg "range"=none)(ha:JA X [a] ga)(hst:afO [a] X.env=[(false,eval a X.env)]):Rf yN X tg (.Call (.Name "range" p) [a] [] q) (Cq ga):=by
 refine⟨_,zi hg hm h_ hst,λρ st σ H m Q S R p=>?_⟩
 refine ha.go S R (ax.bind p) λws st1 vs m1 H1 p1 e1 S1 rs=>?_
 match ws,rs,p1 with
 | [],rs,p1=>exact ae p1
 | x::y::t,rs,p1=>cases x<;>exact ae p1
 | [x],rs,p1=>
  obtain⟨v,rfl,r1⟩:=qN rs
  cases x with
  | int j=>
   cases aL r1
   unfold tT at p1
   by_cases c:cV j
   ·simp only[if_pos c] at p1
    exact⟨j,rfl,c.1,c.2,p1 m1 H1 _ e1 S1 trivial yQ⟩
   ·simp only[if_neg c] at p1;exact ae p1
  | _=>exact ae p1
end
section
variable {X:Cx} {a b c d:Expr} {pos:Pos}
end
section
variable {X:Cx} {pins:List (afw×Obj)} {σ:St} {E:afC->afB->Prop} {p:afw}
end
section
variable {X:Cx} {pos:Pos}
abbrev Bc(K:PySem.W.Frag)(m:Mp)(H:Hp):List (Wv×Wv)->List (V×V)->Prop:=Paired λp q=>ag K m H p.1 q.1/\ag K m H p.2 q.2
theorem Bc.mono{K:PySem.W.Frag}{m m1:Mp}{H H1:Hp}(e:Ext K m H m1 H1):∀{a:List (Wv×Wv)}{b:List (V×V)},Bc K m H a b->Bc K m1 H1 a b
 | _,_,.nil=> .nil
 | _,_,.cons h t=> .cons ⟨ag.mono e _ _ h.1,ag.mono e _ _ h.2⟩ (Bc.mono e t)
end
def getD(d k:Wv)(st:Hs):Option Wv:=match d with
 | .ref l=>(match st[l]? with
  | some (.dct kvs)=>(match keyOf k with | some kk=>cW kvs kk | none=>none)
  | some (.ja kvs)=>(match oC k with | some kk=>cW kvs kk | none=>none)
  | some (.yd kvs)=>(match oC k with | some kk=>cW kvs kk | none=>none)
  | _=>none)
 | _=>none
def VA(d k:Wv)(st:Hs):Re Wv:=match getD d k st with
 | some w=> .ok w st
 | none=> .bad
def xv(gd gk:GE):GE:=λρ st=>(gd ρ st).bind λd st1=>(gk ρ st1).bind λk st2=>VA d k st2
section
variable {X:Cx}
theorem J9{m:Mp}{st:Hs}{H:Hp}{d k w:Wv}{x y:V}(S:bb X.K m st H)(rd:ag X.K m H d x)(rk:ag X.K m H k y)(e:getD d k st=some w):∃a v,x= .ref a/\ma H a y (some v)/\ag X.K m H w v:=by
 unfold getD at e
 cases d with
 | ref l=>
  dsimp only at e
  unfold ag at rd
  obtain⟨a,rfl,ha⟩:=rd
  cases e1:st[l]? with
  | none=>rw[e1] at e;cases e
  | some o=>
   rw[e1] at e
   cases o with
   | dct kvs=>
    dsimp only at e
    cases e2:keyOf k with
    | none=>rw[e2] at e;cases e
    | some kk=>
     rw[e2] at e
     obtain⟨xs,h1,h2⟩:=(show ∃ys,H a=some (.dK ys)/\RelK X.K m H kvs ys from S.obj _ _ _ ha e1)
     obtain⟨u,j1,j2⟩:=(h2.val kk).2 w e
     exact⟨a,u,rfl,by rw[lD rk e2,<-j1];exact ma.k h1,j2⟩
   | ja kvs=>
    dsimp only at e
    cases e2:oC k with
    | none=>rw[e2] at e;cases e
    | some kk=>
     rw[e2] at e
     obtain⟨xs,h1,h2⟩:=(show ∃ys,H a=some (.dT ys)/\RelK X.K m H kvs ys from S.obj _ _ _ ha e1)
     obtain⟨b,rfl,hb⟩:=nH rk e2
     obtain⟨u,j1,j2⟩:=(h2.val kk).2 w e
     exact⟨a,u,rfl,by rw[<-j1];exact ma.t h1 hb,j2⟩
   | yd kvs=>
    dsimp only at e
    cases e2:oC k with
    | none=>rw[e2] at e;cases e
    | some kk=>
     rw[e2] at e
     obtain⟨o,xs,h1,h2⟩:=(show ∃o ys,H a=some (.hR o (.dT ys))/\RelK X.K m H kvs ys from S.obj _ _ _ ha e1)
     obtain⟨b,rfl,hb⟩:=nH rk e2
     obtain⟨u,j1,j2⟩:=(h2.val kk).2 w e
     exact⟨a,u,rfl,by rw[<-j1];exact .inr ⟨xs,kk,b,.inr ⟨o,h1⟩,rfl,hb,rfl⟩,j2⟩
   | _=>cases e
 | _=>cases e
theorem J_{o i:Expr}{go gi:GE}{pos:Pos}(hu:X.A.units+1 < cLine)(ho:JE X o go)(hi:JE X i gi)(hs:DZ i):JE X (.Subscript o i pos) (xv go gi) :=
 JE.of (IZ hu aM aM hs) λρ st σ H m Q S R p=>by
  refine ho.go S R (ax.bind p) λd st1 v m1 H1 p1 e1 S1 rd=>?_
  refine hi.go S1 (R.mono e1) ((ax.bind p1).imp e1 λ_ _ q=>q) λk st2 u m2 H2 p2 e2 S2 rk=>?_
  unfold VA at p2
  cases e:getD d k st2 with
  | none=>rw[e] at p2;exact ae p2
  | some w=>
   rw[e] at p2
   obtain⟨a,v',ex,g,rw'⟩:=J9 (X:=X) S2 (ag.mono e2 _ _ rd) rk e
   exact⟨a,v',ex,g,p2 v' m2 H2 (e1.trans e2) S2 rw'⟩
end
section
variable {X:Cx} {pins:List (afw×Obj)} {σ:St} {H:Hp} {s:afB} {a:afw} {xs:List (List L2.Key×V)}
end
section
variable {K:PySem.W.Frag} {m:Mp} {st:Hs} {H:Hp}
theorem RelK.jJ{κ:Type}{m1:Mp}{H1:Hp}{kvs:List (κ×Wv)}{xs:List (κ×V)}(e:Ea K m H m1 H1)(h:RelK K m H kvs xs):RelK K m1 H1 kvs xs:=⟨h.1,ah.jJ e _ _ h.2⟩
theorem aw.jJ{m1:Mp}{H1:Hp}{ρ:bC}{σ:St}(R:aw K m H ρ σ)(e:Ea K m H m1 H1):aw K m1 H1 ρ σ:=⟨R.len,λi w h=>let ⟨v,h1,h2⟩:=R.get i w h;⟨v,h1,ag.jJ e _ _ h2⟩⟩
end
section
variable {X:Cx}
end
theorem FU{H:Hp}:∀{xs:List (List L2.Key×V)}{ys:List (List L2.Key×afw×afC)},KT H xs ys->∀{i:Nat}{y:List L2.Key×afw×afC},ys[i]? =some y->∃x,xs[i]? =some x/\x.1=y.1/\H y.2.1=some (.tup (x.1.map kV))/\RelV x.2 y.2.2
 | _,_,.nil,i,y,h=>by cases h
 | _,_,.cons h t,0,y,e=>by cases e;exact⟨_,rfl,h⟩
 | _,_,.cons h t,i+1,y,e=>FU t (i:=i) e
section
variable {X:Cx} {tg:Expr}
end
section
variable {prog:afA} {w:afD} {A:afx} {E:afC->afB->Prop} {s:afB} {d:afw} {es:Array DictEntry} {ep:Nat}
theorem Ka{Q:afC->afB->Prop}(lo:(d == sysModules)=false)(x:CB s.heap d es ep)(hz:es.size<=afN)(h:Q (.int es.size (s.toks+1)) { s with toks:=s.toks+1+1 }):afP (model prog w) A (call (.builtin "len") [.ref d]) Q E s:=by
 have ty:=x.ty
 obtain⟨o,g1,g2,g3⟩:=x
 refine Calls.call_function_entry kind_len plain_len entry_len (args_len1 _) ?_
 have n0:¬((es.size:Int) < 0):=by omega
 have n1:¬((es.size:Int) >= 2 ^ 63):=by rw[sizeLine_eq] at hz;omega
 have M:MeetsIn prog w (Builtin.«dict.__len__» ⟨[.ref d],[]⟩) (λ_ R s'=>s'=s/\R (.ok (.ret (.int es.size s.toks))) { s with toks:=s.toks+1 }):=.of_wp λA R s' ⟨e,h⟩=>by
  subst e
  refine(show afP _ _ (dictSize d >>= _) _ _ s' from ?_)
  unfold dictSize
  refine afQ (afQ (afR g1 g3 (afW ?_)))
  exact(show afP _ _ (Builtin.Dict.pendingCount d >>= _) _ _ s' from afQ (wpAny_pendingCount_other lo (wpAny_ret_mkInt (by rw[Nat.add_zero];exact h))))
 unfold Builtin.«len»
 refine afQ (m:=oneArg "len" _) (afW (afQ (m:=callSpecial? (.ref d) (hV "__len__")) (wpAny_callSpecial?_slot (name:=hV "__len__") ty PySem.F.slot_dict_len
  (call_meetsIn PySem.F.slot_dict_len ty PySem.F.entry_dict_len (PySem.F.args_dict_len_1 _) M ⟨rfl,?_⟩))))
 refine(show afP _ _ _ _ _ { s with toks:=s.toks+1 } from afQ (afS (afW (afQ (wpAny_letGo ?_)))))
 refine(show afP _ _ (if((es.size:Nat):Int) < 0 then _ else _) _ _ _ from ?_);rw[if_neg n0]
 refine(show afP _ _ (if((es.size:Nat):Int) >= 2 ^ 63 then _ else _) _ _ _ from ?_);rw[if_neg n1]
 exact afQ (wpAny_mkInt (afW ⟨_,rfl,h⟩))
end
section
variable {prog:afA} {w:afD} {K:Type} [DecidableEq K] {knd:HeapKind prog w K} {A:afx} {E:afC->afB->Prop} {s:afB} {d a:afw} {xs:List (K×afw×afC)} {k:K}
end
section
variable {prog:afA} {w:afD} {A:afx} {E:afC->afB->Prop} {s:afB}
theorem Bd{b:DictEntry->PUnit->Sem (ForInStep PUnit)}{Q:PUnit->afB->Prop}:∀{l:List DictEntry},(∀e∈l,∀Q':ForInStep PUnit->afB->Prop,Q' (.yield qi) s->afP (model prog w) A (b e qi) Q' E s)->Q qi s->afP (model prog w) A (forIn l qi b) Q E s
 | [],_,q=>by rw[yW];exact afW q
 | e::r,h,q=>by
  rw[oA]
  exact afQ (h e (.head _) _ (Bd (λe' he'=>h e' (.tail _ he')) q))
theorem FV{es:List DictEntry}(n:(es.map (·.hash)).Nodup)(c:Int):(es.filter λe=>e.hash == c).length<=1:=by
 induction es with
 | nil=>simp
 | cons e r ih=>
  have n:=List.nodup_cons.mp (show(e.hash::r.map (·.hash)).Nodup from n)
  rw[uS]
  by_cases h:(e.hash == c)=true
  ·rw[if_pos h]
   have:(r.filter λe=>e.hash == c)=[]:=List.filter_eq_nil_iff.mpr λy hy q=>n.1 (List.mem_map.mpr ⟨y,hy,by rw[eq_of_beq q,eq_of_beq h]⟩)
   rw[this]
   exact au 1
  ·rw[if_neg h];exact ih n.2
theorem pQ:typeLookup (.type "tuple") "__eq__"=pure (some (.builtin "tuple.__eq__")):=PySem.F.slot_tuple_eq.lookup
theorem FW{o:afw}{es:Array DictEntry}{ep:Nat}{Q:afC->afB->Prop}(lo:(o == sysModules)=false)(x:CB s.heap o es ep)(hz:es.size<=afN)(he:es.size≠0)(hn:(es.toList.map (·.hash)).Nodup)(ht:∀e∈es,∃b,e.key= .ref b/\s.TypeIs (.ref b) "tuple")
  (h:∀h',(∃q,h'.get? s.heap.objs.size=some q/\q.cls= .type "dict"/\q.dict=none/\q.slots=#[]/\∃e',q.data= .dict es e')->jW s.heap.objs.size (s.heap.push { cls:=.type "dict",data:=.dict #[] }) h'->Q (.ref s.heap.objs.size) { s with heap:=h' }) :
  afP (model prog w) A (call (.type "dict") [.ref o]) Q E s:=by
 refine callType_codes (Q₁:=λobj s₁=>obj= .ref s.heap.objs.size/\s₁={ s with heap:=s.heap.push { cls:=.type "dict",data:=.dict #[] } }) F.kt_called_dict (F.kt_typeCall_dict_1 _) F.entry_dict_init (kt_code_dict_new _ ⟨rfl,rfl⟩) ?_
 rintro obj s₁ ⟨rfl,rfl⟩
 obtain⟨q,g1,g2,g3⟩:=x
 have hne:s.heap.objs.size≠o:=λe=>absurd (aC g1) (by rw[e];exact cI _)
 have n1:(s.heap.push { cls:=.type "dict",data:=.dict #[] }).get? s.heap.objs.size=some { cls:=.type "dict",data:=.dict #[] }:=br _ rfl
 have o1:(s.heap.push { cls:=.type "dict",data:=.dict #[] }).get? o=some q:=aF _ g1
 have tn:qj { s with heap:=s.heap.push { cls:=.type "dict",data:=.dict #[] } } (.ref s.heap.objs.size) "dict":=⟨_,n1,rfl⟩
 have to:qj { s with heap:=s.heap.push { cls:=.type "dict",data:=.dict #[] } } (.ref o) "dict":=⟨_,o1,g2⟩
 refine⟨tn,F.args_dict_init_2 _ _,?_⟩
 unfold Builtin.«dict.__init__»
 refine afQ ?_
 unfold OF
 refine afQ (wpAny_notOrdered_dict tn (show afP _ _ (pure (s.heap.objs.size,[aN o])) _ _ _ from afW ?_))
 refine(show afP _ _ (zj "dict.__init__" s.heap.objs.size (.ref o) [] .none) _ _ _ from ?_)
 unfold zj
 refine afQ (wpAny_typeOf to ?_)
 rw[if_neg (by decide)]
 refine afQ ?_
 unfold OG
 refine afQ ?_
 unfold OH
 refine afQ (wpAny_isInstance to isSubtype_dict_dict ?_)
 simp only[rA,pD,if_false]
 refine afQ (wpAny_specialOf to F.slot_dict_iter.lookup (afW ?_))
 simp only[beq_self_eq_true,if_true]
 refine afQ (afW ?_)
 unfold OI
 rw[if_neg (by simpa using hne)]
 unfold FX
 rw[if_neg (by rw[lo];exact cT)]
 refine afQ (afW (afQ (afR o1 g3 ?_)))
 have few:(decide (es.size<=8)&&es.all λe=>(keyPart e.key).isSome)=false:=by
  rw[Bool.and_eq_false_iff]
  refine .inr ?_
  rw[<-Bool.not_eq_true,Array.all_eq_true]
  intro al
  have:=al 0 (by omega)
  obtain⟨b,e1,_⟩:=ht es[0] (by simp)
  rw[e1] at this
  cases this
 simp only[few,Be,if_true]
 refine afQ (afR n1 rfl ?_)
 simp only[show(#[]:Array DictEntry).isEmpty=true from rfl,if_true]
 refine afQ ?_
 unfold Builtin.Dict.entriesForEmpty
 refine afQ (afR o1 g3 ?_)
 rw[<-Array.forIn_toList]
 refine afQ (Bd (λe hm Q' q'=>?_) (afW ?_))
 ·obtain⟨b,e1,e2⟩:=ht e (Array.mem_toList_iff.mp hm)
  rw[e1]
  obtain⟨ob,f1,f2⟩:=e2
  have tb:qj { s with heap:=s.heap.push { cls:=.type "dict",data:=.dict #[] } } (.ref b) "tuple":=⟨_,aF _ f1,f2⟩
  unfold Builtin.Dict.quietEq
  refine afQ (afQ (wpAny_specialOf tb pQ (afW ?_)))
  have nq:(some (lz "tuple.__eq__") == some (lz "object.__eq__"))=false:=by decide
  have sz:¬(es.filter (λx=>x.hash == e.hash)).size > 1:=by
   have q1:=FV hn e.hash
   have q2:(es.filter (λx=>x.hash == e.hash)).size=(es.toList.filter (λx=>x.hash == e.hash)).length:=by rw[<-DH,Array.toList_filter]
   rw[q2]
   omega
  simp only[nq,Be,if_true,if_neg sz]
  exact afW q'
 ·have ne:es.isEmpty=false:=by simpa [Array.isEmpty] using he
  simp only[ne,Be,if_true]
  refine afQ (wpAny_updateDictKeysTo (hz':=by show es.size<=afN+1;omega) n1 rfl (afW ?_))
  refine(show afP _ _ (OJ s.heap.objs.size [] >>= _) _ _ _ from afQ (afW (afW ⟨rfl,h _ ?_ (y_ ..)⟩)))
  exact⟨_,n8 _ n1 (Obj.isFreed_of_dict (Obj.data_mapDictKeys rfl _)),rfl,rfl,rfl,_,rfl⟩
end
section
variable {prog:afA} {w:afD} {A:afx} {E:afC->afB->Prop} {s:afB} {d it:afw} {i:Nat} {es:Array DictEntry} {ep:Nat} {ok ov:afC}
end
section
variable {X:Cx}
theorem FY{P:afA}{w:afD}{H:Hp}{h:Heap}{a:afw}{xs:List (List L2.Key×V)}(ok:jI P w H h)(e:Rd H a (.dT xs)) :
  ∃es ep ys,xs.length<=afN/\(a == sysModules)=false/\CB h a es ep/\es.size=xs.length/\KT H xs ys/\es.toList=ys.map (entryOfKey (tupleKind (bo P w)))/\(ys.map (·.1)).Nodup:=by
 obtain⟨z,lo,ys,kt,o,es,ep,g1,g2,g3,g4,g5⟩:=(show dc P w H h a (.dT xs) from DY ok e)
 have len:es.size=ys.length:=by have:=congrArg jf g4;simpa using this
 exact⟨es,ep,ys,z,lo,⟨o,g1,g2.1,g3⟩,by rw[len];exact(Paired.length kt).symm,kt,g4,g5⟩
theorem CM:fN X (.builtin "len") (λxs H Q=>∃a kvs,xs=[.ref a]/\Rd H a (.dT kvs)/\Q (.int kvs.length) H):=by
 intro pins s σ H xs us Q I rs q
 obtain⟨a,kvs,rfl,e,q⟩:=q
 cases rs with
 | cons r rr=>
  cases rr
  cases r
  obtain⟨es,ep,ys,z,lo,raw,sz,_⟩:=FY I.hok e
  refine Ka lo raw (by rw[sz];exact z) ⟨.int kvs.length,H,I.tok _,⟨_,by rw[sz]⟩,q⟩
def fg:Option Ob->Option (List (List L2.Key×Wv))
 | some (.ja kvs)=>some kvs
 | some (.yd kvs)=>some kvs
 | _=>none
theorem nK{m:Mp}{st:Hs}{H:Hp}{l:Nat}{a:afw}{kvs:List (List L2.Key×Wv)}(S:bb X.K m st H)(ha:m[l]? =some a)(h:fg st[l]? =some kvs):∃xs,Rd H a (.dT xs)/\RelK X.K m H kvs xs:=by
 unfold fg at h
 split at h
 ·rename_i k' e
  cases h
  obtain⟨xs,h1,h2⟩:=(show ∃ys,H a=some (.dT ys)/\RelK X.K m H kvs ys from S.obj _ _ _ ha e)
  exact⟨xs,.inl h1,h2⟩
 ·rename_i k' e
  cases h
  obtain⟨o,xs,h1,h2⟩:=(show ∃o ys,H a=some (.hR o (.dT ys))/\RelK X.K m H kvs ys from S.obj _ _ _ ha e)
  exact⟨xs,.inr ⟨o,h1⟩,h2⟩
 ·cases h
def ub:List Wv->Hs->Re Wv
 | [.ref l],st=>(match fg st[l]? with | some kvs=> .ok (.int kvs.length) st | none=>me [.ref l] st)
 | ws,st=>me ws st
theorem Kb:fO X (.builtin "len") ub:=by
 obtain⟨r0,c0,k0⟩:=Ep (X:=X)
 refine⟨_,CM.or c0,λws vs st H m Q S r p=>?_⟩
 have old:eo X.K m H (me ws st) Q->r0 vs H Q:=λp=>k0 ws vs st H m Q S r p
 unfold ub at p
 split at p
 ·rename_i l
  cases e:fg st[l]? with
  | none=>rw[e] at p;exact .inr (old p)
  | some kvs=>
   rw[e] at p
   obtain⟨v,rfl,rx⟩:=qN r
   unfold ag at rx
   obtain⟨a,rfl,ha⟩:=rx
   obtain⟨xs,h1,h2⟩:=nK (X:=X) S ha e
   refine .inl ⟨a,xs,rfl,h1,?_⟩
   rw[<-h2.length]
   exact p _ m H Ext.refl S mkInt
 ·exact .inr (old p)
def Bf(ns:List Int):Int:=reduceHash (OK (ns.map hashInt))
def pF:List (List L2.Key)->Option (List (List Int))
 | []=>some []
 | k::r=>(match yU k,pF r with | some ns,some l=>some (ns::l) | _,_=>none)
theorem xw:∀{ks:List L2.Key}{ns:List Int},yU ks=some ns->ks=ns.map hJ
 | [],ns,e=>by cases e;rfl
 | .inl i::r,ns,e=>by
  unfold yU at e
  cases q:yU r with
  | none=>rw[q] at e;cases e
  | some l=>rw[q] at e;cases e;rw[aK,<-xw q]
theorem FZ{P:afA}{w:afD}{ks:List L2.Key}{ns:List Int}(h:yU ks=some ns):(tupleKind (bo P w)).hash ks=Bf ns:=by
 rw[xw h]
 show reduceHash (OK ((ns.map hJ).map (bo P w).hash))=_
 rw[ij]
 rfl
theorem rB{P:afA}{w:afD}:∀{kss:List (List L2.Key)}{nss:List (List Int)},pF kss=some nss->kss.map (tupleKind (bo P w)).hash=nss.map Bf
 | [],nss,e=>by cases e;rfl
 | k::r,nss,e=>by
  unfold pF at e
  cases q1:yU k with
  | none=>rw[q1] at e;cases e
  | some ns=>
   cases q2:pF r with
   | none=>rw[q1,q2] at e;cases e
   | some l=>rw[q1,q2] at e;cases e;rw[aK,aK,FZ q1,rB q2]
def mC(ks:List (List L2.Key)):Bool:=match pF ks with
 | some nss=>decide ((nss.map Bf).Nodup)
 | none=>false
theorem CN{prog:afA}{w:afD}{A:afx}{E:afC->afB->Prop}{s:afB}{o:afw}{ep:Nat}{Q:afC->afB->Prop}(lo:(o == sysModules)=false)(x:CB s.heap o #[] ep)(h:Q (.ref s.heap.objs.size) { s with heap:=s.heap.push { cls:=.type "dict",data:=.dict #[] } }) :
  afP (model prog w) A (call (.type "dict") [.ref o]) Q E s:=by
 refine callType_codes (Q₁:=λobj s₁=>obj= .ref s.heap.objs.size/\s₁={ s with heap:=s.heap.push { cls:=.type "dict",data:=.dict #[] } }) F.kt_called_dict (F.kt_typeCall_dict_1 _) F.entry_dict_init (kt_code_dict_new _ ⟨rfl,rfl⟩) ?_
 rintro obj s₁ ⟨rfl,rfl⟩
 obtain⟨q,g1,g2,g3⟩:=x
 have hne:s.heap.objs.size≠o:=λe=>absurd (aC g1) (by rw[e];exact cI _)
 have n1:(s.heap.push { cls:=.type "dict",data:=.dict #[] }).get? s.heap.objs.size=some { cls:=.type "dict",data:=.dict #[] }:=br _ rfl
 have o1:(s.heap.push { cls:=.type "dict",data:=.dict #[] }).get? o=some q:=aF _ g1
 have tn:qj { s with heap:=s.heap.push { cls:=.type "dict",data:=.dict #[] } } (.ref s.heap.objs.size) "dict":=⟨_,n1,rfl⟩
 have to:qj { s with heap:=s.heap.push { cls:=.type "dict",data:=.dict #[] } } (.ref o) "dict":=⟨_,o1,g2⟩
 refine⟨tn,F.args_dict_init_2 _ _,?_⟩
 unfold Builtin.«dict.__init__»
 refine afQ ?_
 unfold OF
 refine afQ (wpAny_notOrdered_dict tn (show afP _ _ (pure (s.heap.objs.size,[aN o])) _ _ _ from afW ?_))
 refine(show afP _ _ (zj "dict.__init__" s.heap.objs.size (.ref o) [] .none) _ _ _ from ?_)
 unfold zj
 refine afQ (wpAny_typeOf to ?_)
 rw[if_neg (by decide)]
 refine afQ ?_
 unfold OG
 refine afQ ?_
 unfold OH
 refine afQ (wpAny_isInstance to isSubtype_dict_dict ?_)
 simp only[rA,pD,if_false]
 refine afQ (wpAny_specialOf to F.slot_dict_iter.lookup (afW ?_))
 simp only[beq_self_eq_true,if_true]
 refine afQ (afW ?_)
 unfold OI
 rw[if_neg (by simpa using hne)]
 unfold FX
 rw[if_neg (by rw[lo];exact cT)]
 refine afQ (afW (afQ (afR o1 g3 ?_)))
 have few:(decide ((#[]:Array DictEntry).size<=8)&&(#[]:Array DictEntry).all λe=>(keyPart e.key).isSome)=true:=by simp
 simp only[few,rA,pD,if_false]
 refine afQ (wpAny_dictEpoch o1 g3 (afQ (afR o1 g3 (afQ ?_))))
 rw[Kc]
 refine(show afP _ _ (pure qi) _ _ _ from afW (afW ?_))
 exact(show afP _ _ (OJ s.heap.objs.size [] >>= _) _ _ _ from afQ (afW (afW ⟨rfl,h⟩)))
theorem zk:fN X (.type "dict") (λxs H Q=>∃a kvs,xs=[.ref a]/\Rd H a (.dT kvs)/\((kvs.map (·.1)).map (tupleKind (bo X.prog X.w)).hash).Nodup/\∀p,H p=none->Q (.ref p) (upd H p (.dT kvs))):=by
 intro pins s σ H xs us Q I rs q
 obtain⟨a,kvs,rfl,e,hn,q⟩:=q
 cases rs with
 | cons r rr=>
  cases rr
  cases r
  obtain⟨es,ep,ys,z,lo,raw,sz,kt,g4,g5⟩:=FY I.hok e
  by_cases ne:kvs=[]
  ·subst ne
   cases kt
   have l0:es=#[]:=Array.eq_empty_of_size_eq_zero (by rw[sz];rfl)
   subst l0
   have fr:H s.heap.objs.size=none:=I.hok.fresh (au _)
   refine CN lo raw ⟨.ref s.heap.objs.size,_,I.laid (a:=s.heap.objs.size) (o:=.dT []) (t':=s.toks) (λb ob hq=>aF _ hq) (au _) ?_,rfl,q _ fr⟩
   exact⟨z,beq_eq_false_iff_ne.mpr (ay (aZ I.big)),[],.nil,_,#[],_,br _ rfl,⟨rfl,rfl,rfl⟩,rfl,g4,g5⟩
  have keys:kvs.map (·.1)=ys.map (·.1):=by
   clear q hn ne g5 g4 e sz z
   induction kt with
   | nil=>rfl
   | cons h t ih=>rw[aK,aK,ih,h.1]
  have hs:es.toList.map (·.hash)=(kvs.map (·.1)).map (tupleKind (bo X.prog X.w)).hash:=by
   rw[g4,keys,ij,ij]
   rfl
  have ht:∀e∈es,∃b,e.key= .ref b/\s.TypeIs (.ref b) "tuple":=λe' he=>by
   have:e'∈ys.map (entryOfKey (tupleKind (bo X.prog X.w))):=by rw[<-g4];exact Array.mem_toList_iff.mpr he
   obtain⟨y,hy,rfl⟩:=List.mem_map.mp this
   obtain⟨j,hj⟩:=List.mem_iff_getElem?.mp hy
   obtain⟨x,_,_,hx,_⟩:=FU kt hj
   have kk:=oh (P:=X.prog) (w:=X.w) I.hok hx
   obtain⟨ob,its,n,f1,f2,_⟩:=kk
   exact⟨y.2.1,rfl,ob,f1,f2⟩
  have l0:es.size≠0:=by rw[sz];exact λz0=>ne (List.length_eq_zero_iff.mp z0)
  refine FW lo raw (by rw[sz];exact z) l0 (by rw[hs];exact hn) ht λh' nw sb=>?_
  obtain⟨o',f1,f2,f3,f4,Mn,f5⟩:=nw
  have fr:H s.heap.objs.size=none:=I.hok.fresh (au _)
  refine⟨.ref s.heap.objs.size,_,I.laid (a:=s.heap.objs.size) (o:=.dT kvs) (t':=s.toks) (λb ob hq=>(sb.2 b (aZ (aC hq))).trans (aF _ hq)) (au _) ?_,rfl,q _ fr⟩
  refine⟨z,beq_eq_false_iff_ne.mpr (ay (aZ I.big)),ys,kt.keeps λc zs ec=>?_,o',es,Mn,f1,⟨f2,f3,f4⟩,f5,g4,g5⟩
  rw[aA (bt ec fr)]
  exact ec
def ud:List Wv->Hs->Re Wv
 | [.ref l],st=>(match fg st[l]? with | some kvs=>if mC (kvs.map (·.1))=true then .ok (.ref st.length) (st++[.ja kvs]) else .bad | none=> .bad)
 | _,_=> .bad
theorem Kd:fO X (.type "dict") ud:=⟨_,zk,λws vs st H m Q S r p=>by
 unfold ud at p
 split at p
 ·rename_i l
  cases e:fg st[l]? with
  | none=>rw[e] at p;exact ae p
  | some kvs=>
   rw[e] at p
   dsimp only at p
   by_cases c:mC (kvs.map (·.1))=true
   ·rw[if_pos c] at p
    obtain⟨v,rfl,rx⟩:=qN r
    unfold ag at rx
    obtain⟨a,rfl,ha⟩:=rx
    obtain⟨xs,h1,h2⟩:=nK (X:=X) S ha e
    refine⟨a,xs,rfl,h1,?_,λq hq=>?_⟩
    ·have c2:=c
     unfold mC at c2
     rw[<-h2.1]
     cases ek:pF (kvs.map (·.1)) with
     | none=>rw[ek] at c2;cases c2
     | some nss=>rw[ek] at c2;rw[rB ek];exact of_decide_eq_true c2
    ·have ex:Ext X.K m H (m++[q]) (upd H q (.dT xs)):=Ext.more.trans (Ext.jP (.inl hq))
     exact p (.ref q) (m++[q]) _ ex (S.uU hq ⟨xs,aJ,h2.mono ex⟩) (by unfold ag;exact⟨q,rfl,by rw[<-S.len,fW (au _),ni];rfl⟩)
   ·rw[if_neg c] at p;exact ae p
 ·exact ae p⟩
end
theorem CO{o:Option V}{u:afC}(r:n5 o (some u)):∃v,o=some v/\RelV v u:=by
 cases o with
 | none=>exact(show False from r).elim
 | some v=>exact⟨v,rfl,r⟩
section
variable {X:Cx} {o e f:Expr} {apos cpos:Pos} {td ty tx:TE}
def F0{κ:Type}[DecidableEq κ](kvs:List (κ×Wv))(k:κ):List (κ×Wv):=kvs.filter λkv=>decide (kv.1≠k)
theorem RelK.drop{κ:Type}[DecidableEq κ]{K:PySem.W.Frag}{m:Mp}{H:Hp}(k:κ):∀{kvs:List (κ×Wv)}{xs:List (κ×V)},RelK K m H kvs xs->RelK K m H (F0 kvs k) (qG xs k)
 | [],xs,h=>by rw[h.nil_inv];exact RelK.nil
 | p::r,xs,h=>by
  obtain⟨v,t,rfl,h1,h2⟩:=h.cons_inv
  by_cases e:p.1=k
  ·rw[B7 e]
   unfold F0
   rw[uS,if_neg (by simp[e])]
   exact h2.drop k
  ·rw[B8 e]
   unfold F0
   rw[uS,if_pos (by simp[e])]
   exact RelK.cons h1 (h2.drop k)
end
section
variable {X:Cx} {es':List Expr} {kt:Nat} {pt:Pos}
end
section
variable {X:Cx}
end
section
variable {prog:afA} {w:afD} {K:Type} [DecidableEq K] {knd:HeapKind prog w K} {A:afx} {E:afC->afB->Prop} {s:afB} {a b:afw} {xs ys:List (K×afw×afC)}
theorem ue{id:String}{f:K->Bool}{Q:Bool->afB->Prop}(hu:knd.room A)(la:(a == sysModules)=false)(lb:(b == sysModules)=false)(hA:s.heap.DictOfH knd a xs)(hB:s.heap.DictOfH knd b ys)
  (hf:∀x∈xs,∀y∈ys,x.1=y.1->∀Q:Bool->afB->Prop,Q (f x.1) s->afP (model prog w) A (eqBool x.2.2 y.2.2) Q E s)
  (hQ:Q (decide (xs.length=ys.length)&&xs.all λx=>(atKey ys x.1).isSome&&f x.1) s):afP (model prog w) A (OL id a b) Q E s:=by
 obtain⟨oa,ea,epa,a1,a2,a3,a4,a5,a6⟩:=hA
 obtain⟨ob,eb,epb,b1,b2,b3,b4,b5,b6⟩:=hB
 have za:ea.size=xs.length:=size_of_entries a4
 have zb:eb.size=ys.length:=size_of_entries b4
 unfold OL FX
 rw[if_neg (by rw[la];exact cT),if_neg (by rw[lb];exact cT)]
 refine afQ (afW (afQ (afW (afQ (afR a1 a3 (afQ (afR b1 b3 ?_)))))))
 by_cases hl:xs.length=ys.length
 ·rw[if_neg (by rw[za,zb,hl];simp)]
  rw[decide_eq_true hl,F1] at hQ
  refine afQ (wpAny_dictEpoch a1 a3 (afQ ?_))
  rw[Kc]
  simp only[Std.Legacy.Range.size,Nat.sub_zero,Nat.add_sub_cancel,Nat.div_one]
  generalize hg:(λx:K×afw×afC=>(atKey ys x.1).isSome&&f x.1)=g at hQ
  refine wpAny_forIn_list _ (λrest st s'=>s'=s/\st=(none,())/\∃i,rest=jl i (xs.length - i)/\i<=xs.length/\xs.all g=(xs.drop i).all g) _ ?_ ?_ _ _ ⟨rfl,rfl,0,by rw[za,Nat.sub_zero],bG _,rfl⟩
  ·rintro x rest st s' ⟨rfl,rfl,i,hr,hi,hall⟩
   have hlt:i < xs.length:=by
    rcases Nat.lt_or_ge i xs.length with h | h
    ·exact h
    ·rw[JF h] at hr;simp at hr
   obtain⟨rfl,hrest⟩:x=i/\rest=jl (i+1) (xs.length - (i+1)):=by
    have e:xs.length - i=(xs.length - (i+1))+1:=by omega
    rw[e,List.range'_succ] at hr
    injection hr with h1 h2
    exact⟨h1,h2⟩
   rw[mj hlt,eI] at hall
   have hm:xs[x]∈xs:=List.getElem_mem hlt
   refine afQ (afR a1 a3 ?_)
   rw[entry_at a4 x,fm hlt]
   refine afQ (afS ?_)
   have next:xs.all g=(xs.drop (x+1)).all g->∀Q':ForInStep (Option Bool×Unit)->afB->Prop,Q' (.yield (none,())) s'->afP (model prog w) A (do
     let Mn <-dictEpoch a
     if(Mn != epa)=true then do
       (unsupported (toString id++toString ":changed-during-callback"):Sem PUnit)
       pure (ml (none,()))
      else pure (ml (none,()))) Q' E s':=λ_ Q' q'=>by
    refine afQ (wpAny_dictEpoch a1 a3 ?_)
    rw[if_neg (by simp)]
    exact afW q'
   refine afQ (wpAny_dictFind_heap (k:=xs[x].1) hu (a5 _ hm) b1 b3 b4 b5 b6 (λno=>afW ?_) λj p hj=>?_)
   ·simp only[Be,if_true]
    have gf:g xs[x]=false:=by rw[<-hg];simp only[atKey_none_of_get no];rfl
    rw[gf,Al] at hall
    rw[hall] at hQ
    exact afW (afW hQ)
   ·refine afQ (afR b1 b3 ?_)
    rw[entry_at b4 j,hj]
    refine afS (hf _ hm _ (An hj) rfl _ ?_)
    have gf:g xs[x]=f xs[x].1:=by rw[<-hg];simp only[atKey_of_get b6 hj];rfl
    cases hv:f xs[x].1 with
    | false=>
     simp only[Be,if_true]
     rw[gf,hv,Al] at hall
     rw[hall] at hQ
     exact afW (afW hQ)
    | true=>
     simp only[rA,pD,if_false]
     rw[gf,hv,F1] at hall
     exact next hall _ ⟨rfl,rfl,x+1,hrest,hlt,hall⟩
  ·rintro st s' ⟨rfl,rfl,i,hr,hi,hall⟩
   have h0:xs.length - i=0:=by
    have:=congrArg jf hr
    simpa using this.symm
   rw[E7 (by omega),List.all_nil] at hall
   rw[hall] at hQ
   exact afW hQ
 ·rw[if_pos (by rw[za,zb];simpa using hl)]
  rw[decide_eq_false hl,Al] at hQ
  exact afQ (wpAny_rule (afW hQ))
end
section
variable {prog:afA} {w:afD} {K:Type} [DecidableEq K] {knd:HeapKind prog w K} {A:afx} {E:afC->afB->Prop} {s:afB} {a b:afw} {xs ys:List (K×afw×afC)}
theorem Ke{f:K->Bool}{Q:afC->afB->Prop}(hr:A.units < cLine)(hu:knd.room A.in1)(la:(a == sysModules)=false)(lb:(b == sysModules)=false)(hA:s.heap.DictOfH knd a xs)(hB:s.heap.DictOfH knd b ys)
  (hf:∀E:afC->afB->Prop,∀x∈xs,∀y∈ys,x.1=y.1->∀Q:Bool->afB->Prop,Q (f x.1) s->afP (model prog w) A.in1 (eqBool x.2.2 y.2.2) Q E s)
  (hQ:Q (.bool (decide (xs.length=ys.length)&&xs.all λx=>(atKey ys x.1).isSome&&f x.1)) s):afP (model prog w) A (afJ .Eq (.ref a) (.ref b)) Q E s:=by
 have tA:s.TypeIs (.ref a) "dict":=hA.typeIs
 have tB:s.TypeIs (.ref b) "dict":=hB.typeIs
 refine(show afP (model prog w) A (richCompare .Eq (.ref a) (.ref b)) Q E s from wpAny_richCompare_same_room tA tB PySem.F.slot_dict_eq (wpAny_call_entry PySem.F.slot_dict_eq tA PySem.F.entry_dict_eq ?_ (PySem.F.args_dict_eq_2 _ _)) hr)
 refine(show afP _ _ (zm "__eq__" ⟨[.ref a,.ref b],[]⟩ >>= _) _ _ s from afQ ?_)
 unfold zm
 refine afQ (wpAny_notOrdered_dict tA (show afP _ _ (pure (aN a,aN b)) _ _ s from afW ?_))
 refine afQ (wpAny_isInstance tB isSubtype_dict_dict ?_)
 simp only[rA,pD,if_false]
 refine afQ (afW (afQ (afW (afQ (ue hu la lb hA hB (hf _) ?_)))))
 refine afW ⟨_,rfl,(λz=>nomatch z),?_⟩
 rw[show ∀c:Bool,(c == true)=c from by decide]
 exact hQ
theorem slot_dict_ne:Slot "dict" (cmpInfo .NotEq).2.1 "dict.__ne__" :=
 .of (owner:="dict") (n:="__ne__") (by rw[typeLookup_type,builtinLookup_eq_fast];kernel_rfl) (by decide+kernel) (by decide+kernel) (by decide+kernel) (by first | exact .inl (by decide+kernel) | exact .inr (by decide+kernel)) (by rw[afL];kernel_rfl)
theorem entry_dict_ne:entryFor table "dict.__ne__"=some Builtin.«dict.__ne__»:=entryFor_of_tree (by kernel_rfl)
theorem args_dict_ne_2(a b:afC):argsOk "dict.__ne__" ⟨[a,b],[]⟩:=by
 unfold argsOk;rw[signature?_of (id:="dict.__ne__") (n:=['_','_','e','n','_','_']) (o:=['t','c','i','d']) (by kernel_rfl) PySem.F.owner_dict];kernel_rfl
theorem Kf{f:K->Bool}{Q:afC->afB->Prop}(hr:A.units < cLine)(hu:knd.room A.in1)(la:(a == sysModules)=false)(lb:(b == sysModules)=false)(hA:s.heap.DictOfH knd a xs)(hB:s.heap.DictOfH knd b ys)
  (hf:∀E:afC->afB->Prop,∀x∈xs,∀y∈ys,x.1=y.1->∀Q:Bool->afB->Prop,Q (f x.1) s->afP (model prog w) A.in1 (eqBool x.2.2 y.2.2) Q E s)
  (hQ:Q (.bool (!(decide (xs.length=ys.length)&&xs.all λx=>(atKey ys x.1).isSome&&f x.1))) s):afP (model prog w) A (afJ .NotEq (.ref a) (.ref b)) Q E s:=by
 have tA:s.TypeIs (.ref a) "dict":=hA.typeIs
 have tB:s.TypeIs (.ref b) "dict":=hB.typeIs
 refine(show afP (model prog w) A (richCompare .NotEq (.ref a) (.ref b)) Q E s from wpAny_richCompare_same_room tA tB slot_dict_ne (wpAny_call_entry slot_dict_ne tA entry_dict_ne ?_ (args_dict_ne_2 _ _)) hr)
 refine(show afP _ _ (zm "__ne__" ⟨[.ref a,.ref b],[]⟩ >>= _) _ _ s from afQ ?_)
 unfold zm
 refine afQ (wpAny_notOrdered_dict tA (show afP _ _ (pure (aN a,aN b)) _ _ s from afW ?_))
 refine afQ (wpAny_isInstance tB isSubtype_dict_dict ?_)
 simp only[rA,pD,if_false]
 refine afQ (afW (afQ (afW (afQ (ue hu la lb hA hB (hf _) ?_)))))
 refine afW ⟨_,rfl,(λz=>nomatch z),?_⟩
 rw[show ∀c:Bool,(c == false)= !c from by decide]
 exact hQ
end
abbrev OM:=List (List L2.Key×Wv)
def oD(st:Hs)(kvs:OM):Bool:=kvs.all λkv=>(aS st 20 kv.2).isSome
def Lx(st:Hs)(k1 k2:OM)(k:List L2.Key):Bool:=match cW k1 k,cW k2 k with
 | some v,some w=>(match aS st 20 v,aS st 20 w with | some a,some b=>bI a b | _,_=>false)
 | _,_=>false
def pG(st:Hs)(k1 k2:OM):Bool:=decide (k1.length=k2.length)&&(k1.map (·.1)).all λk=>(cW k2 k).isSome&&Lx st k1 k2 k
def Xp(K:PySem.W.Frag)(neg:Bool):R2:=λa b H Q=>∃m st p q k1 k2 l1 l2,bb K m st H/\a= .ref p/\b= .ref q/\Rd H p (.dT l1)/\Rd H q (.dT l2)/\RelK K m H k1 l1/\RelK K m H k2 l2/\oD st k1=true/\oD st k2=true/\Q (.bl (if neg then !pG st k1 k2 else pG st k1 k2)) H
theorem F2{H:Hp}:∀{xs:List (List L2.Key×V)}{ys:List (List L2.Key×afw×afC)},KT H xs ys->xs.map (·.1)=ys.map (·.1)
 | _,_,.nil=>rfl
 | _,_,.cons h t=>by rw[aK,aK,F2 t,h.1]
theorem nL{κ:Type}[DecidableEq κ]{k:κ}{w:Wv}:∀{kvs:List (κ×Wv)},cW kvs k=some w->(k,w)∈kvs
 | [],e=>by cases e
 | p::r,e=>by
  unfold cW at e
  by_cases h:p.1=k
  ·rw[if_pos h] at e
   cases e
   rw[<-h]
   exact bw
  ·rw[if_neg h] at e
   exact aO _ (nL e)
section
variable {X:Cx}
theorem Bg{m:Mp}{st:Hs}{H:Hp}{kvs:OM}{xs:List (List L2.Key×V)}{ys:List (List L2.Key×afw×afC)}{k:List L2.Key}{p:afw×afC}(r:RelK X.K m H kvs xs)(kt:KT H xs ys)(nd:(ys.map (·.1)).Nodup)(hd:oD st kvs=true)(h:(k,p)∈ys) :
  ∃w v d,cW kvs k=some w/\ag X.K m H w v/\RelV v p.2/\aS st 20 w=some d:=by
 obtain⟨j,hj⟩:=List.mem_iff_getElem?.mp h
 have ak:=atKey_of_get nd hj
 have vl:=kt.val k
 rw[ak] at vl
 obtain⟨v,ev,rv⟩:=CO vl
 obtain⟨i1,i2⟩:=r.val k
 cases e:cW kvs k with
 | none=>rw[i1 e] at ev;cases ev
 | some w=>
  obtain⟨u,j1,j2⟩:=i2 w e
  rw[ev] at j1
  cases j1
  obtain⟨d,e2⟩:=Option.isSome_iff_exists.mp (List.all_eq_true.mp hd _ (nL e))
  exact⟨w,v,d,rfl,j2,rv,e2⟩
theorem xx{m:Mp}{st:Hs}{H:Hp}{k1 k2:OM}{l1 l2:List (List L2.Key×V)}{y1 y2:List (List L2.Key×afw×afC)}(r1:RelK X.K m H k1 l1)(r2:RelK X.K m H k2 l2)(t1:KT H l1 y1)(t2:KT H l2 y2) :
  (decide (y1.length=y2.length)&&y1.all λx=>(atKey y2 x.1).isSome&&Lx st k1 k2 x.1)=pG st k1 k2:=by
 have e1:y1.length=k1.length:=by rw[<-Paired.length t1,r1.length]
 have e2:y2.length=k2.length:=by rw[<-Paired.length t2,r2.length]
 have ks:k1.map (·.1)=y1.map (·.1):=by rw[r1.1,F2 t1]
 have at2:∀k,(atKey y2 k).isSome=(cW k2 k).isSome:=λk=>by
  have q:=(t2.val k).tF
  rw[Option.isSome_map] at q
  rw[<-q]
  obtain⟨i1,i2⟩:=r2.val k
  cases e:cW k2 k with
  | none=>rw[i1 e];rfl
  | some w=>obtain⟨u,j1,_⟩:=i2 w e;rw[j1];rfl
 unfold pG
 rw[e1,e2,ks,List.all_map]
 congr 1
 refine List.all_congr rfl λx=>?_
 show((atKey y2 x.1).isSome&&Lx st k1 k2 x.1)=((cW k2 x.1).isSome&&Lx st k1 k2 x.1)
 rw[at2]
theorem F3(neg:Bool)(hu:X.A.units+64 < cLine):fD X (afJ (if neg then .NotEq else .Eq)) (Xp X.K neg):=by
 intro pins s σ H a b v u Q I rx ry h
 obtain⟨m,st,p,q,k1,k2,l1,l2,S,rfl,rfl,d1,d2,r1,r2,h1,h2,hq⟩:=h
 cases rx
 cases ry
 obtain⟨z1,lo1,y1,t1,D1⟩:=pA I.hok d1
 obtain⟨z2,lo2,y2,t2,D2⟩:=pA I.hok d2
 have n1:(y1.map (·.1)).Nodup:=let ⟨_,_,_,_,_,_,_,_,n⟩:=D1;n
 have n2:(y2.map (·.1)).Nodup:=let ⟨_,_,_,_,_,_,_,_,n⟩:=D2;n
 have hf:∀E:afC->afB->Prop,∀x∈y1,∀y∈y2,x.1=y.1->∀Q:Bool->afB->Prop,Q (Lx st k1 k2 x.1) s->afP (model X.prog X.w) X.A.in1 (eqBool x.2.2 y.2.2) Q E s:=λE x hx y hy e Q' q'=>by
  obtain⟨w,v,dw,a1,a2,a3,a4⟩:=Bg (k:=x.1) (p:=x.2) (st:=st) r1 t1 n1 h1 hx
  obtain⟨w',v',VB,b1,b2,b3,b4⟩:=Bg (k:=y.1) (p:=y.2) (st:=st) r2 t2 n2 h2 hy
  rw[<-e] at b1
  obtain⟨as,q1,q2,q3⟩:=iV I S 20 w v _ dw a2 a3 a4
  obtain⟨bs,p1,p2,p3⟩:=iV I S 20 w' v' _ VB b2 b3 b4
  have ee:Lx st k1 k2 x.1=bI dw VB:=by unfold Lx;rw[a1,b1];dsimp only;rw[a4,b4]
  rw[ee] at q'
  exact SeqAt.eqBoolOverData X.prog X.w X.A.in1 E s _ _ dw VB as bs Q' q1 p1 q2 p2 (by
   have:X.A.in1.units=X.A.units+1:=rfl
   have:min dw.depth VB.depth<=dw.depth:=Nat.min_le_left _ _
   omega) q'
 cases neg with
 | false=>
  refine Ke (by omega) (tupleKind_room_in1 (by omega)) lo1 lo2 D1 D2 hf ?_
  rw[xx r1 r2 t1 t2]
  exact⟨.bl _,H,I,rfl,hq⟩
 | true=>
  refine Kf (by omega) (tupleKind_room_in1 (by omega)) lo1 lo2 D1 D2 hf ?_
  rw[xx r1 r2 t1 t2]
  exact⟨.bl _,H,I,rfl,hq⟩
def rC(st:Hs):Wv->Option OM
 | .ref l=>fg st[l]?
 | _=>none
def zo:gA:=λx y st=>match rC st x,rC st y with
 | some k1,some k2=>if oD st k1=true/\oD st k2=true then .ok (.bl (pG st k1 k2)) st else .bad
 | _,_=>oEq x y st
def CP:gA:=λx y st=>match rC st x,rC st y with
 | some k1,some k2=>if oD st k1=true/\oD st k2=true then .ok (.bl (!pG st k1 k2)) st else .bad
 | _,_=>yD x y st
theorem qk{m:Mp}{st:Hs}{H:Hp}{x:Wv}{a:V}{kvs:OM}(S:bb X.K m st H)(r:ag X.K m H x a)(h:rC st x=some kvs):∃p l,a= .ref p/\Rd H p (.dT l)/\RelK X.K m H kvs l:=by
 cases x with
 | ref j=>
  unfold ag at r
  obtain⟨p,rfl,hp⟩:=r
  obtain⟨l,h1,h2⟩:=nK (X:=X) S hp h
  exact⟨p,l,rfl,h1,h2⟩
 | _=>cases h
theorem F4(hu:X.A.units+64 < cLine):lq X (afJ .Eq) zo:=by
 obtain⟨r0,c0,k0⟩:=Le (X:=X) hu
 refine⟨_,fD.or (F3 (X:=X) false hu) c0,λx y a b st H m Q S rx ry p=>?_⟩
 unfold zo at p
 cases e1:rC st x with
 | none=>rw[e1] at p;exact .inr (k0 x y a b st H m Q S rx ry p)
 | some k1=>
  cases e2:rC st y with
  | none=>rw[e1,e2] at p;exact .inr (k0 x y a b st H m Q S rx ry p)
  | some k2=>
   rw[e1,e2] at p
   dsimp only at p
   by_cases c:oD st k1=true/\oD st k2=true
   ·rw[if_pos c] at p
    obtain⟨p1,l1,rfl,d1,r1⟩:=qk (X:=X) S rx e1
    obtain⟨p2,l2,rfl,d2,r2⟩:=qk (X:=X) S ry e2
    exact .inl ⟨m,st,p1,p2,k1,k2,l1,l2,S,rfl,rfl,d1,d2,r1,r2,c.1,c.2,p _ m H Ext.refl S jh⟩
   ·rw[if_neg c] at p;exact ae p
theorem F5(hu:X.A.units+64 < cLine):lq X (afJ .NotEq) CP:=by
 obtain⟨r0,c0,k0⟩:=Lf (X:=X) hu
 refine⟨_,fD.or (F3 (X:=X) true hu) c0,λx y a b st H m Q S rx ry p=>?_⟩
 unfold CP at p
 cases e1:rC st x with
 | none=>rw[e1] at p;exact .inr (k0 x y a b st H m Q S rx ry p)
 | some k1=>
  cases e2:rC st y with
  | none=>rw[e1,e2] at p;exact .inr (k0 x y a b st H m Q S rx ry p)
  | some k2=>
   rw[e1,e2] at p
   dsimp only at p
   by_cases c:oD st k1=true/\oD st k2=true
   ·rw[if_pos c] at p
    obtain⟨p1,l1,rfl,d1,r1⟩:=qk (X:=X) S rx e1
    obtain⟨p2,l2,rfl,d2,r2⟩:=qk (X:=X) S ry e2
    exact .inl ⟨m,st,p1,p2,k1,k2,l1,l2,S,rfl,rfl,d1,d2,r1,r2,c.1,c.2,p _ m H Ext.refl S jh⟩
   ·rw[if_neg c] at p;exact ae p
end
section
variable {X:Cx}
end
section
variable {prog:afA} {w:afD} {K:Type} [DecidableEq K] {knd:HeapKind prog w K} {A:afx} {E:afC->afB->Prop} {s:afB} {d:afw} {xs:List (K×afw×afC)}
end
section
variable {X:Cx}
end
def mE(gd gk:GE):GE:=λρ st=>(gd ρ st).bind λd st1=>match d with
 | .ref l=>if(fg st1[l]?).isSome=true then(gk ρ st1).bind λk st2=>(match oC k,fg st2[l]? with
  | some kk,some kvs=> .ok ((cW kvs kk).getD .bO) st2
  | _,_=> .bad) else .bad
 | _=> .bad
section
variable {X:Cx}
theorem F6{o e:Expr}{gd gk:GE}{apos cpos:Pos}(hu:X.A.units+1 < cLine)(ho:JE X o gd)(he:JE X e gk)(M:M1 X o "get" apos e cpos):JE X (.Call (.Attribute o "get" apos) [e] [] cpos) (mE gd gk) :=
 JE.of (D7 hu aM aM M) λρ st σ H m Q S R p=>by
  refine ho.go S R (ax.bind p) λd st1 v m1 H1 p1 e1 S1 r1=>?_
  cases d with
  | ref l=>
   dsimp only at p1
   by_cases hd:(fg st1[l]?).isSome=true
   ·rw[if_pos hd] at p1
    unfold ag at r1
    obtain⟨a,rfl,ha⟩:=r1
    obtain⟨kv1,hk1⟩:=Option.isSome_iff_exists.mp hd
    obtain⟨xs1,rd1,_⟩:=nK S1 ha hk1
    refine⟨a,rfl,.inr ⟨xs1,rd1⟩,?_⟩
    refine he.go S1 (R.mono e1) ((ax.bind p1).imp e1 λ_ _ q=>q) λk st2 y m2 H2 p2 e2 S2 r2=>?_
    cases q1:oC k with
    | none=>rw[q1] at p2;exact ae p2
    | some kk=>
     cases q2:fg st2[l]? with
     | none=>rw[q1,q2] at p2;exact ae p2
     | some kvs=>
      rw[q1,q2] at p2
      have ha2:m2[l]? =some a:=e2.pre _ _ ha
      obtain⟨xs,y1,y2⟩:=nK S2 ha2 q2
      obtain⟨b,rfl,hb⟩:=nH r2 q1
      dsimp only at p2
      refine⟨_,.inr ⟨xs,kk,b,y1,rfl,hb,rfl⟩,?_⟩
      obtain⟨i1,i2⟩:=y2.val kk
      cases q3:cW kvs kk with
      | none=>
       rw[i1 q3]
       rw[q3] at p2
       exact p2 .bO m2 H2 (e1.trans e2) S2 (by unfold ag;rfl)
      | some w=>
       obtain⟨u,j1,j2⟩:=i2 w q3
       rw[j1]
       rw[q3] at p2
       exact p2 u m2 H2 (e1.trans e2) S2 j2
   ·rw[if_neg hd] at p1;exact ae p1
  | _=>exact ae p1
end
def Uc(K:PySem.W.Frag)(l1 l2:afw):It :=
 ⟨λi H=>∃xs ys x y,jT K H l1 xs/\jT K H l2 ys/\xs[i]? =some x/\ys[i]? =some y,
  λi H v H'=>∃p,v= .ref p/\H p=none/\∀xs ys,jT K H l1 xs->jT K H l2 ys->∃x y,xs[i]? =some x/\ys[i]? =some y/\H'=upd H p (.tup [x,y]),
  λi H=>∃xs ys,jT K H l1 xs/\jT K H l2 ys/\(xs.length<=i\/ys.length<=i)⟩
def ON(z T O j1 j2 l1 l2:afw)(i:Nat)(h:Heap):Prop:=IsZip h z T O .none/\IsPair h T (.ref j1) (.ref j2)/\(∃a b,IsPair h O a b)/\h.IsListIter j1 l1 i/\h.IsListIter j2 l2 i
theorem CQ{P:afA}{w:afD}{K:PySem.W.Frag}{es:List Expr}{kt:Nat}{pt:Pos}{z T O j1 j2 l1 l2:afw}(D:ZipApart z T O j1 j2 l1 l2):Turn P w K (.Tuple es kt pt) (Uc K l1 l2) [z,T,O,j1,j2] z (ON z T O j1 j2 l1 l2) where
 mem:=by simp
 obj:=λi h st b hb=>by
  obtain⟨a1,a2,⟨a,b',a3⟩,⟨o1,q1,_,d1⟩,⟨o2,q2,_,d2⟩⟩:=st
  simp only[aP,aR,or_false] at hb
  rcases hb with rfl | rfl | rfl | rfl | rfl
  ·exact⟨_,a1,λv z=>by cases z⟩
  ·exact⟨_,a2,λv z=>by cases z⟩
  ·exact⟨_,a3,λv z=>by cases z⟩
  ·exact⟨o1,q1,λv z=>by rw[d1] at z;cases z⟩
  ·exact⟨o2,q2,λv z=>by rw[d2] at z;cases z⟩
 keep:=λi h h' st k=>by
  obtain⟨a1,a2,⟨a,b,a3⟩,⟨o1,q1,r1⟩,⟨o2,q2,r2⟩⟩:=st
  exact⟨k z (by simp) _ a1,k T (by simp) _ a2,⟨a,b,k O (by simp) _ a3⟩,⟨o1,k j1 (by simp) _ q1,r1⟩,⟨o2,k j2 (by simp) _ q2,r2⟩⟩
 item:=by
  intro X hP hw hK hc i pins s σ H E I hf st hg
  subst hP hw hK
  obtain⟨xs,ys,x,y,H1,H2,x1,x2⟩:=hg
  obtain⟨i1,r1,p1,_⟩:=I.list H1
  obtain⟨i2,r2,p2,_⟩:=I.list H2
  obtain⟨u1,e1,m1⟩:=r1.get x1
  obtain⟨u2,e2,m2⟩:=r2.get x2
  obtain⟨a1,a2,⟨a,b,a3⟩,a4,a5⟩:=st
  refine wpAny_pyNext_zip_item D a1 a2 a3 a4 a5 p1.isList p2.isList (x:=u1) (y:=u2) (by simpa using e1) (by simpa using e2) λg b1 b2 b3 b4 b6 b7 b8=>?_
  refine⟨.ref s.heap.objs.size,rfl,?_⟩
  refine wpAny_letOwnedTupleGo_zip b1 λh2 c1 sb=>?_
  have hfr:H s.heap.objs.size=none:=I.hok.fresh (au _)
  have lt:∀b o,s.heap.get? b=some o->b≠s.heap.objs.size:=λb o q=>aZ (aC q)
  have Lv:z≠s.heap.objs.size:=lt _ _ a1
  have kp:∀b o,b∉[z,O,j1,j2]->s.heap.get? b=some o->h2.get? b=some o:=λb o hb q=>by
   simp only[aP,aR,or_false,not_or] at hb
   exact sb.extBut _ _ hb.1 (b8 b o hb.1 hb.2.1 hb.2.2.1 hb.2.2.2 q)
  have sub:∀b,b∈[z,O,j1,j2]->b∈[z,T,O,j1,j2]:=λb h=>(List.mem_cons.mp h).elim (λe=>e ▸ bw) λh=>aO _ (aO _ h)
  have FO:∀b u,H b=some u->b∉[z,O,j1,j2]:=λb u q hb=>by
   have n:=(hf b (sub b hb)).1
   rw[q] at n;cases n
  have mz:∀b,b∉[z,T,O,j1,j2]->b∉[z,O,j1,j2]:=λb h hb=>h (sub b hb)
  have kt:∀b u,H b=some u->b≠s.heap.objs.size:=λb u q=>bt q hfr
  have Tn:h2.get? s.heap.objs.size=some { cls:=.type "tuple",data:=.seq #[u1,u2] }:=sb.extBut _ _ (ay Lv) b6
  have Xm:∀b∈[z,T,O,j1,j2],b≠s.heap.objs.size:=λb hb=>by
   simp only[aP,aR,or_false] at hb
   rcases hb with rfl | rfl | rfl | rfl | rfl
   ·exact Lv
   ·exact lt _ _ a2
   ·exact lt _ _ a3
   ·obtain⟨o,q,_⟩:=a4;exact lt _ _ q
   ·obtain⟨o,q,_⟩:=a5;exact lt _ _ q
  have at':∀{j t:afw}{n:Nat},j≠z->g.IsListIter j t n->h2.IsListIter j t n:=λn ⟨o,q,r⟩=>⟨o,sb.extBut _ _ n q,r⟩
  refine⟨.ref s.heap.objs.size,upd H s.heap.objs.size (.tup [x,y]),?_,rfl,⟨s.heap.objs.size,rfl,hfr,λxs' ys' hx' hy'=>⟨x,y,by rw[I.qw hx' H1];exact x1,by rw[I.qw hy' H2];exact x2,rfl⟩⟩,⟨c1,?_,⟨u1,u2,sb.extBut _ _ D.TOz b2⟩,at' D.i1z b3,at' D.i2z b4⟩,λb hb=>?_⟩
  ·refine I.qv (s':={ s with heap:=h2 }) (ch:=[z,T,O,j1,j2]) rfl ?_ ?_ I.bare (λb hb=>⟨(hf b hb).2.2.2.1,(hf b hb).2.1,(hf b hb).2.2.2.2.1,(hf b hb).2.2.2.2.2⟩)
   ·refine⟨λb o q _ _ hx=>kp b o (mz b hx) q,λb o q _ _ hx=>⟨o.slots,kp b o (mz b hx) q⟩,λb o q n _=>by rw[aA (lt b o q)];exact n,λb o q hx=>⟨o,kp b o (mz b hx) q⟩,λb ys q=>by rw[aA (kt b _ q)];exact q,λb o y q=>by rw[aA (kt b _ q)];exact q,λb ps q=>⟨#[],by rw[aA (kt b _ q),q];simp⟩⟩
   ·intro b o q
    by_cases hb:b=s.heap.objs.size
    ·subst hb
     rw[aJ] at q
     cases q
     exact⟨by show 2<=afN;decide,[u1,u2],.cons m1 (.cons m2 .nil),⟨_,Tn,rfl,0,rfl⟩,λo q=>by rw[Tn] at q;cases q;rfl⟩
    ·rw[aA hb] at q
     refine(I.hok b o q).stay (λc v hc g=>?_) (λc g=>by rw[aA (kt c _ g)];exact g) λc ys g=>by rw[aA (kt c _ g)];exact g
     rcases hc with e | e
     ·subst e;exact kp _ _ (FO _ _ q) g
     ·exact kp _ _ (FO _ _ e) g
  ·refine kp T _ ?_ a2
   simp only[aP,aR,or_false,not_or]
   exact⟨D.TIz,D.TITO,D.TIi1,D.TIi2⟩
  ·rw[aA (Xm b hb)];exact(hf b hb).1
 done:=by
  intro X hP hw hK hc i pins s σ H E I hf st hg
  subst hP hw hK
  obtain⟨xs,ys,H1,H2,hl⟩:=hg
  obtain⟨i1,r1,p1,_⟩:=I.list H1
  obtain⟨i2,r2,p2,_⟩:=I.list H2
  obtain⟨a1,a2,⟨a,b,a3⟩,a4,a5⟩:=st
  have q1:=r1.length
  have q2:=r2.length
  have sub:∀b,b∈[z,O,j1,j2]->b∈[z,T,O,j1,j2]:=λb h=>(List.mem_cons.mp h).elim (λe=>e ▸ bw) λh=>aO _ (aO _ h)
  have FO:∀b u,H b=some u->b∉[z,O,j1,j2]:=λb u q hb=>by
   have n:=(hf b (sub b hb)).1
   rw[q] at n;cases n
  have mz:∀b,b∉[z,T,O,j1,j2]->b∉[z,O,j1,j2]:=λb h hb=>h (sub b hb)
  refine wpAny_pyNext_zip_end (I.ok.hd hc) D a1 a2 a3 a4 a5 p1.isList p2.isList (by
   rcases hl with hl | hl
   ·exact .inl (by simp;omega)
   ·exact .inr (by simp;omega)) λg k8=>⟨rfl,?_⟩
  have kp:∀b o,b∉[z,O,j1,j2]->s.heap.get? b=some o->g.get? b=some o:=λb o hb q=>by
   simp only[aP,aR,or_false,not_or] at hb
   exact k8 b o hb.1 hb.2.1 hb.2.2.1 hb.2.2.2 q
  refine I.qv (s':={ s with heap:=g }) (ch:=[z,T,O,j1,j2]) rfl ?_ ?_ I.bare (λb hb=>⟨(hf b hb).2.2.2.1,(hf b hb).2.1,(hf b hb).2.2.2.2.1,(hf b hb).2.2.2.2.2⟩)
  ·exact⟨λb o q _ _ hx=>kp b o (mz b hx) q,λb o q _ _ hx=>⟨o.slots,kp b o (mz b hx) q⟩,λb o q n _=>n,λb o q hx=>⟨o,kp b o (mz b hx) q⟩,λb ys q=>q,λb o y q=>q,λb ps q=>⟨#[],by rw[q];simp⟩⟩
  ·intro b o q
   refine(I.hok b o q).stay (λc v hc g=>?_) (λc g=>g) λc ys g=>g
   rcases hc with e | e
   ·subst e;exact kp _ _ (FO _ _ q) g
   ·exact kp _ _ (FO _ _ e) g
 self:=λ_ _ _ _ _ st h=>wpAny_pyIter_zip st.1 h
theorem F7{I l1 l2:Nat}(h1:l1 < I)(h2:l2 < I):ZipApart (I+4) (I+2) (I+3) I (I+1) l1 l2:=by
 constructor<;>first | exact aZ (by omega) | exact kX (by omega)
section
variable {X:Cx}
def Ud(K:PySem.W.Frag)(ta:TA):TI:=λσ H R=>ta σ H λvs H1=>∃a b,vs=[.ref a,.ref b]/\(∃xs,H1 a=some (.lst xs))/\(∃ys,H1 b=some (.lst ys))/\R (Uc K a b) H1
theorem Kh{es:List Expr}{kt:Nat}{pt p q:Pos}{l:Expr}{ls:List Expr}{ta:TA}(hg:Gl X "zip")(hm:X.mg "zip"=none)(ha:PA X (l::ls) ta)(hst:afO (l::ls) X.env=(false,eval l X.env)::afO ls X.env)(hpl:(backTo q (afO ls X.env)).any (·.1)=false) :
  PI X (.Tuple es kt pt) (.Call (.Name "zip" p) (l::ls) [] q) (Ud X.K ta):=by
 intro pins s σ H R I h
 refine wpAny_Call_Name_kw (jc I hg hm boot_zip ?_)
 refine kY (bp (ha q pins s σ H _ I h) λus s1 ⟨vs,H1,I1,r1,q1⟩=>?_) hst hpl
 obtain⟨l1,l2,e,⟨xs,h1⟩,⟨ys,h2⟩,k⟩:=q1
 subst e
 cases r1 with
 | cons r rr=>
  cases rr with
  | cons r' rr=>
   cases rr
   cases r
   cases r'
   obtain⟨_,i1,n1,_,p1⟩:=I1.hok l1 _ h1
   obtain⟨_,i2,n2,_,p2⟩:=I1.hok l2 _ h2
   have lt1:l1 < s1.heap.objs.size:=aC p1
   have Tp:l2 < s1.heap.objs.size:=aC p2
   refine call_zip_2 (xs:=i1.toArray) (ys:=i2.toArray) ⟨_,p1,rfl,_,rfl⟩ ⟨_,p2,rfl,_,rfl⟩ λg b1 b2 b3 b4 b5 b6 kp=>wpAny_pyIter_zip b1 ?_
   have D:ZipApart (s1.heap.objs.size+4) (s1.heap.objs.size+2) (s1.heap.objs.size+3) s1.heap.objs.size (s1.heap.objs.size+1) l1 l2:=by
    exact F7 lt1 Tp
   have tz:=CQ (P:=X.prog) (w:=X.w) (K:=X.K) (es:=es) (kt:=kt) (pt:=pt) D
   refine⟨s1.heap.objs.size+4,_,_,_,H1,rfl,I1.kept (t':=s1.toks) kp,tz,⟨b1,b2,⟨_,_,b3⟩,b4,b5⟩,λb hb=>?_,k⟩
   have ge:s1.heap.objs.size<=b:=by
    simp only[aP,aR,or_false] at hb
    rcases hb with rfl | rfl | rfl | rfl | rfl<;>omega
   exact I1.sx (pins:=pins) (H':=H1) (b:=b) ge (I1.hok.fresh ge)
def pH(as bs:List Wv):List Wv:=List.zipWith (λa b=> .tup [a,b]) as bs
def Rl(i:Nat)(as:List Wv)(j:Nat)(bs:List Wv)(st:Hs):Prop:=aq st i=some as/\aq st j=some bs
open Classical in
def zp(is:List Nat)(gb:GS)(ck:Hs->Prop):List Wv->bC->Hs->Rs
 | [],ρ,st=> .nx ρ st
 | w::r,ρ,st=>match NY is w ρ with
  | none=> .bad
  | some ρ1=>match gb ρ1 st with
   | .nx ρ' st'=>if ck st' then zp is gb ck r ρ' st' else .bad
   | .ct ρ' st'=>if ck st' then zp is gb ck r ρ' st' else .bad
   | .bk ρ' st'=> .nx ρ' st'
   | .rt w st'=> .rt w st'
   | .err c ρ' st'=> .err c ρ' st'
   | .bad=> .bad
def Ki(is:List Nat)(gb:GS)(ρ:bC)(ws:List Wv)(st:Hs):Rs:=match ws with
 | [.ref i,.ref j]=>(match st[i]?,st[j]? with
  | some (.lst as),some (.lst bs)=>zp is gb (Rl i as j bs) (pH as bs) ρ st
  | _,_=> .bad)
 | _=> .bad
def Bh(is:List Nat)(ga:GA)(gb:GS):GS:=λρ st=>(ga ρ st).bp ρ λws st1=>Ki is gb ρ ws st1
theorem Kj{es:List Expr}{is:List Nat}{k:Nat}{p q:Pos}{l:Expr}{ls:List Expr}{ga:GA}{body:List Stmt}{gb:GS}{pos pos':Pos}(hN:X.N.Nodup)(hp:PassesOwn (model X.prog X.w) X.A X.env X.xe)(hc:X.calm=true)(sl:Slots X es is)
  (hg:Gl X "zip")(hm:X.mg "zip"=none)(ha:JA X (l::ls) ga)(hst:afO (l::ls) X.env=(false,eval l X.env)::afO ls X.env)(hpl:(backTo q (afO ls X.env)).any (·.1)=false)(hb:lT X body gb)
  (hs:∀x,afK (.Call (.Name "zip" p) (l::ls) [] q) X.env x=pure x):JS X (.For (.Tuple es k pos') (.Call (.Name "zip" p) (l::ls) [] q) body [] pos) (Bh is ga gb):=by
 refine JS.of (lZ hp hc (Kh hg hm h_ hst hpl) (uC hc (iW hN sl) (ka sl) (iX sl)) dN hs) λρ st σ H m D S R p=>?_
 refine ha.go S R (aE.cK R p) λwz st1 vs m1 H1 p1 e1 S1 rs=>?_
 unfold Ki at p1
 split at p1
 case h_2=>exact ae p1
 rename_i i j
 split at p1
 case h_2=>exact ae p1
 rename_i as bs so1 so2
 have la:aq st1 i=some as:=by unfold aq;rw[so1]
 have lb:aq st1 j=some bs:=by unfold aq;rw[so2]
 obtain⟨v1,v2,rfl,r1,r2⟩:=yH rs
 unfold ag at r1 r2
 obtain⟨a,rfl,hi⟩:=r1
 obtain⟨b,rfl,hj⟩:=r2
 obtain⟨_,f1,_⟩:=S1.nh hi so1
 obtain⟨_,f2,_⟩:=S1.nh hj so2
 refine⟨a,b,rfl,⟨_,f1⟩,⟨_,f2⟩,?_⟩
 have len:(pH as bs).length=min as.length bs.length:=by unfold pH;simp
 let ws:=pH as bs
 have get:∀k (hk:k < ws.length),∃x y,as[k]? =some x/\bs[k]? =some y/\ws[k]= .tup [x,y]:=λk hk=>by
  have hk':k < min as.length bs.length:=by rw[<-len];exact hk
  refine⟨as[k]'(by omega),bs[k]'(by omega),by simp,by simp,?_⟩
  exact List.getElem_zipWith
 let Pv:Nat->St->Hp->Prop:=λk σ H=>∃ρ st m',Ext X.K m1 H1 m' H/\bb X.K m' st H/\aw X.K m' H ρ σ/\Rl i as j bs st/\aE X m' H (zp is gb (Rl i as j bs) (ws.drop k) ρ st) D
 refine⟨λk n σ H=>n=ws.length - k/\k<=ws.length/\Pv k σ H,⟨ws.length,by simp,bG _,ρ,st1,m1,Ext.refl,S1,R.mono e1,⟨la,lb⟩,aE.shift p1 e1⟩,?_⟩
 rintro k n σ2 H2 ⟨rfl,hk,ρ2,st2,m2,e2,S2,R2,c2,p2⟩
 obtain⟨xs,hq1,Vv⟩:=S2.read (e2.pre _ _ hi) c2.1
 obtain⟨ys,hq2,Vn⟩:=S2.read (e2.pre _ _ hj) c2.2
 by_cases hlt:k < ws.length
 ·obtain⟨x,y,gx,gy,gw⟩:=get k hlt
  obtain⟨x',gx',rx⟩:=Vv.get gx
  obtain⟨y',gy',ry⟩:=Vn.get gy
  refine .inr ⟨⟨xs,ys,x',y',hq1,hq2,gx',gy'⟩,Pv (k+1),λσ' H' p'=>⟨ws.length - (k+1),by omega,rfl,hlt,p'⟩,λv H' yy=>?_⟩
  obtain⟨p',rfl,fr,yy⟩:=yy
  obtain⟨x'',y'',Ue,Ug,rfl⟩:=yy xs ys hq1 hq2
  rw[gx'] at Ue
  rw[gy'] at Ug
  cases Ue
  cases Ug
  have eY:Ext X.K m2 H2 m2 (upd H2 p' (.tup [x',y'])):=Ext.jP (.inl fr)
  have Xe:=S2.fresh (o:=.tup [x',y']) fr
  have ed:ws.drop k=ws[k]::ws.drop (k+1):=mj hlt
  rw[ed,gw] at p2
  unfold zp at p2
  replace p2:=aE.shift p2 eY
  have Xf:=R2.mono eY
  have AN:=e2.trans eY
  dsimp only[NY] at p2
  cases e5:qQ is [x,y] ρ2 with
  | none=>rw[e5] at p2;exact ae p2
  | some ρ5=>
   rw[e5] at p2
   dsimp only at p2
   have f2:ah X.K m2 (upd H2 p' (.tup [x',y'])) [x,y] [x',y']:=ah.cons (ag.mono eY _ _ rx) (ah.cons (ag.mono eY _ _ ry) ah.nil)
   refine⟨p',[x',y'],rfl,eF.of aJ,by rw[<-f2.length];exact nu e5,j_ f2 Xf e5 λσ5 R5=>?_⟩
   refine hb _ st2 _ _ m2 _ Xe R5 ?_
   cases eg:gb ρ5 st2 with
   | nx ρ3 st3=>
    rw[eg] at p2
    by_cases c:Rl i as j bs st3
    ·simp only[if_pos c] at p2
     exact λσ3 m3 H3 e3 S3 R3=>⟨ρ3,st3,m3,AN.trans e3,S3,R3,c,aE.shift p2 e3⟩
    ·simp only[if_neg c] at p2;exact ae p2
   | ct ρ3 st3=>
    rw[eg] at p2
    by_cases c:Rl i as j bs st3
    ·simp only[if_pos c] at p2
     exact λσ3 m3 H3 e3 S3 R3=>⟨ρ3,st3,m3,AN.trans e3,S3,R3,c,aE.shift p2 e3⟩
    ·simp only[if_neg c] at p2;exact ae p2
   | bk ρ3 st3=>rw[eg] at p2;exact p2
   | rt w3 st3=>rw[eg] at p2;exact p2
   | err c3 ρ3 st3=>rw[eg] at p2;exact p2
   | bad=>rw[eg] at p2;exact p2
 ·have e:k=ws.length:=by omega
  subst e
  rw[oo] at p2
  refine .inl ⟨⟨xs,ys,hq1,hq2,?_⟩,p2 σ2 m2 H2 Ext.refl S2 R2⟩
  have z1:=Vv.length
  have z2:=Vn.length
  have z3:ws.length=min as.length bs.length:=len
  omega
end
structure Ct where
 N:List Str
 names:List (Str×afz)
 consts:List (Str×Wv)
 bl:List Str
 fns:List (Str×Nat×(List Wv->Hs->Re Wv))
 tb:Tab:=[]
 tt:wV:=[]
 clss:List Str:=[]
 wb:List Str:=[]
 tc:Tab:=[]
 xy:List (Str×Dc):=[]
 vn:List Str:=[]
 dks:List Str:=[]
 dis:List Str:=[]
 wc:List Str:=[]
 loop:Bool:=true
 free:Bool:=true
 top:Bool:=true
 lam:Option (Lm×LF):=none
 uf:List (Str×Rg):=[]
 Ih:List Str:=[]
 lj:Nat:=0
 self:Str:=""
def jS(x:Str):List Str->Option Nat
 | []=>none
 | y::r=>if x=y then some 0 else match jS x r with
  | some i=>some (i+1)
  | none=>none
theorem eO{x:Str}:∀{N:List Str}{i:Nat},jS x N=some i->N[i]? =some x
 | [],i,h=>by cases h
 | y::r,i,h=>by
  unfold jS at h
  by_cases e:x=y
  ·rw[if_pos e] at h;cases h;subst e;rfl
  ·rw[if_neg e] at h
   cases q:jS x r with
   | none=>rw[q] at h;cases h
   | some j=>rw[q] at h;cases h;simpa using eO q
def okN(x:Str):Bool:=!(x == ("__debug__":Str))&& !(x == ("__classdict__":Str))&& !(decide (x="__name__"))
theorem fi{x:Str}(h:okN x=true):(x == ("__debug__":Str))=false:=by unfold okN at h;revert h;cases (x == ("__debug__":Str))<;>simp
theorem Bi{x:Str}(h:okN x=true):(x == ("__classdict__":Str))=false:=by unfold okN at h;revert h;cases (x == ("__classdict__":Str))<;>simp
theorem F8{x:Str}(h:okN x=true):x≠"__name__":=by
 intro e
 subst e
 unfold okN at h
 simp at h
def xA:List Wv->List V->Prop
 | [],[]=>True
 | .int i::r,.int j::t=>i=j/\xA r t
 | .str x::r,.str y::t=>(x=y/\bg x=true)/\xA r t
 | _,_=>False
theorem xA.rel{K:PySem.W.Frag}{m:Mp}{H:Hp}:∀{ws:List Wv}{vs:List V},xA ws vs->ah K m H ws vs
 | [],[],_=>ah.nil
 | .int i::r,.int j::t,h=>by
  obtain⟨rfl,h⟩:=h
  exact ah.cons (by unfold ag;rfl) h.rel
 | .str x::r,.str y::t,h=>by
  obtain⟨⟨rfl,hx⟩,h⟩:=h
  exact ah.cons (by unfold ag;exact⟨rfl,hx⟩) h.rel
 | [],_::_,h=>ae h
 | .int i::r,[],h=>ae h
 | .str i::r,[],h=>ae h
 | .int i::r,.str _::_,h=>ae h
 | .str i::r,.int _::_,h=>ae h
def Bj(K:PySem.W.Frag)(mg:Str->Option afC)(x:Str):Wv->Prop
 | .int i=>∃t,mg x=some (.int i t)
 | .str y=>(∃t,mg x=some (.str y t))/\bg y=true
 | .pB ws=>∃(a:afw)(vs:List V)(o:Obj)(its:Array afC)(n:Nat),mg x=some (.ref a)/\K.lookup a=some o/\o.cls= .type "tuple"/\o.data= .seq its n/\its.size<=afN/\Vals vs its.toList/\xA ws vs
 | _=>False
structure Uh(c:Ct)(k:Nat)(X:Cx):Prop where
 lam:∀p L,c.lam=some (p,L)->rb X.prog X.w X.K X.mg X.base k p 3 L
 uf:∀x F,c.uf.lookup x=some F->Vu X.prog X.w X.K X.mg k c.lj x F
 Ii:∀x n F,c.fns.lookup x=some (n,F)->c.Ih.contains x=true->∀base,jR X.K X.mg base->tP X.prog X.w X.K X.mg base c.lj x n F
 at':c.top=true->c.self∈aU->∃P,Ba X c.self P
structure Good(c:Ct)(k:Nat)(X:Cx):Prop where
 N:X.N=c.N
 sc:X.env.scope.names=c.names
 nd:c.N.Nodup
 un:X.A.units+64 < cLine
 free:c.free=true->iE k X.A/\X.calm=true
 loop:c.loop=true->X.calm=true/\PassesOwn (model X.prog X.w) X.A X.env X.xe
 cst:∀x w,c.consts.lookup x=some w->Bj X.K X.mg x w
 bl:∀x,c.bl.contains x=true->X.mg x=none
 fns:∀x n F,c.fns.lookup x=some (n,F)->tP X.prog X.w X.K X.mg X.base k x n F
 stk:c.top=true->WO X
 fn:c.top=true->∀x,X.fn x=true
 kind:X.env.scope.kind= .function
 tab:TabOk X.K c.tb c.tt c.tc
 cls:∀x,c.clss.contains x=true->∃C,X.mg x=some (.ref C)/\EK X.K x C
 wb:∀x,c.wb.contains x=true->∃C,X.mg x=some (.ref C)/\ClsAt X.K x C
 xy:∀x kvs,c.xy.lookup x=some kvs->xf X.K X.w X.mg x kvs
 rm:fR k X.A
 wc:∀x n F,c.wc.contains x=true->c.fns.lookup x=some (n,F)->vi X.prog X.w X.K X.mg X.base k x n F
 x:Uh c k X
 fr:EW X
 hd:yN X
theorem vo{k:Nat}{A:afx}(hr:iE k A):A.units+64 < cLine:=by have:=hr.un;omega
def Ct.Ly(c:Ct):Ct:={ c with loop:=false }
def Ct.vp(c:Ct):Ct:={ c with loop:=false,free:=false }
abbrev Ct.un(c:Ct):Ct:=c.vp
theorem Good.body{c:Ct}{k:Nat}{X:Cx}(G:Good c k X)(hf:c.free=true)(pn:List (afw×Obj))(E:afC->afB->Prop):Good c.Ly k (Jx X X.A true pn E) :=
 ⟨G.N,G.sc,G.nd,G.un,λ_=>⟨(G.free hf).1,rfl⟩,(λz=>by cases z),G.cst,G.bl,G.fns,λz=>⟨(G.stk z).st,(G.stk z).fr,(G.stk z).ex⟩,G.fn,G.kind,G.tab,G.cls,G.wb,G.xy,⟨G.rm.d,G.rm.u⟩,G.wc,⟨G.x.lam,G.x.uf,G.x.Ii,λt m=>(G.x.at' t m).imp λP L=>⟨L.code,L.qual,L.tab,L.mem,L.uniq,L.bm⟩⟩,G.fr,G.hd⟩
theorem Good.suite{c:Ct}{k:Nat}{X:Cx}(G:Good c k X){a:afw}{o:Obj}{u:HO}(nx:Cg o)(pn:List (afw×Obj))(E:afC->afB->Prop):Good c.vp k (Te X a (.hR o u) pn E) :=
 ⟨G.N,G.sc,G.nd,G.un,(λz=>by cases z),(λz=>by cases z),G.cst,G.bl,G.fns,λz=>⟨(G.stk z).st,(G.stk z).fr,(G.stk z).ex⟩,G.fn,G.kind,G.tab,G.cls,G.wb,G.xy,⟨G.rm.d,G.rm.u⟩,G.wc,⟨G.x.lam,G.x.uf,G.x.Ii,λt m=>(G.x.at' t m).imp λP L=>⟨L.code,L.qual,L.tab,L.mem,L.uniq,L.bm⟩⟩,G.fr,.inr ⟨a,o,u,rfl,nx,aJ⟩⟩
theorem F9:afG "ValueError"=some (.type "ValueError"):=by decide+kernel
theorem xB:afG "dict"=some (.type "dict"):=by decide+kernel
def Kk(x:Str):Option String :=
 if x="int" then some "int" else if x="str" then some "str" else if x="bool" then some "bool" else if x="tuple" then some "tuple" else if x="list" then some "list" else if x="ValueError" then some "ValueError" else if x="dict" then some "dict" else none
theorem Kl{x:Str}{T:String}(h:Kk x=some T):afG x=some (.type T):=by
 unfold Kk at h
 by_cases e:x="int"
 ·rw[if_pos e] at h;cases h;subst e;exact wO
 rw[if_neg e] at h
 by_cases e:x="str"
 ·rw[if_pos e] at h;cases h;subst e;exact ED
 rw[if_neg e] at h
 by_cases e:x="bool"
 ·rw[if_pos e] at h;cases h;subst e;exact EE
 rw[if_neg e] at h
 by_cases e:x="tuple"
 ·rw[if_pos e] at h;cases h;subst e;exact wQ
 rw[if_neg e] at h
 by_cases e:x="list"
 ·rw[if_pos e] at h;cases h;subst e;exact EF
 rw[if_neg e] at h
 by_cases e:x="ValueError"
 ·rw[if_pos e] at h;cases h;subst e;exact F9
 rw[if_neg e] at h
 by_cases e:x="dict"
 ·rw[if_pos e] at h;cases h;subst e;exact xB
 rw[if_neg e] at h
 cases h
section
variable {X:Cx}
def Ui:gA:=λ_ _ _=> .bad
theorem OO{f:afC->afC->Sem afC}:lq X f Ui:=⟨λ_ _ _ _=>False,λ_ _ _ _ _ _ _ _ _ _ _ _ h=>h.elim,λ_ _ _ _ _ _ _ _ _ _ _ p=>p⟩
def Uj:Operator->gA
 | .Add=>a9
 | .Sub=>eJ
 | .Mult=>cG
 | .FloorDiv=>f_
 | .Mod=>oMod
 | .Pow=>lM
 | _=>Ui
theorem Km(o:Operator):lq X (afF o) (Uj o):=by
 cases o<;>first | exact ND | exact Nz | exact Fs | exact Je | exact NA | exact NC | exact OO
def zq:CmpOp->gA
 | .Eq=>oEq
 | .NotEq=>yD
 | .Lt=>oLt
 | .LtE=>oLe
 | .Gt=>WI
 | .GtE=>WJ
 | .Is=>SK
 | .IsNot=>qL
 | .In=>Cy
 | .NotIn=>vf
theorem lF(hu:X.A.units+64 < cLine)(o:CmpOp):lq X (afJ o) (zq o):=by
 cases o<;>first | exact Le hu | exact Lf hu | exact Oj hu | exact Oi hu | exact SI | exact SJ | exact SM | exact El | exact Oe | exact Cz
def F_(c:Ct)(x:Str):GE:=if okN x=true then
  match c.names.lookup x with
  | some .local=>(match jS x c.N with | some i=>af i | none=>bL)
  | some .cell=>(match jS x c.N with | some i=>af i | none=>bL)
  | some .free=>(match jS x c.N with | some i=>af i | none=>bL)
  | some .globalImplicit=>(match c.consts.lookup x with
   | some w=>gC w
   | none=>if c.clss.contains x=true then gC (.cls x) else if c.wb.contains x=true then gC (.cls x) else if c.bl.contains x=true then(match Kk x with | some T=>gC (.ty T) | none=>bL) else bL)
  | _=>bL
 else bL
theorem F'{c:Ct}{k:Nat}(G:Good c k X)(x:Str)(pos:Pos):JE X (.Name x pos) (F_ c x):=by
 unfold F_
 by_cases hx:okN x=true
 ·rw[if_pos hx]
  cases e:c.names.lookup x with
  | none=>exact aB
  | some kd=>
   have el:X.env.scope.names.lookup x=some kd:=by rw[G.sc];exact e
   cases kd with
   | «local»=>
    dsimp only
    cases e2:jS x c.N with
    | none=>exact aB
    | some i=>exact yA i (by rw[G.N];exact eO e2) (Or.inl el) (fi hx) (Bi hx)
   | cell=>
    dsimp only
    cases e2:jS x c.N with
    | none=>exact aB
    | some i=>exact yA i (by rw[G.N];exact eO e2) (lp (Or.inl el)) (fi hx) (Bi hx)
   | free=>
    dsimp only
    cases e2:jS x c.N with
    | none=>exact aB
    | some i=>exact yA i (by rw[G.N];exact eO e2) (lp (lp el)) (fi hx) (Bi hx)
   | globalImplicit=>
    dsimp only
    have hg:Gl X x:=el
    cases e2:c.consts.lookup x with
    | some w=>
     have q:=G.cst x w e2
     cases w with
     | int i=>obtain⟨t,q⟩:=q;exact Ee hg q (fi hx)
     | str y=>obtain⟨⟨t,q⟩,z⟩:=q;exact Ef hg q z (fi hx)
     | pB ws=>
      obtain⟨a,vs,o,its,n,q1,q2,q3,q4,q5,q6,q7⟩:=q
      exact JE.of (jd (v:=.ref a) hg q1 rfl (fi hx)) λρ st σ H m Q S R p=>p (.ref a) m H Ext.refl S (by unfold ag;exact⟨a,vs,rfl,⟨o,its,n,q2,q3,q4,q5,q6⟩,q7.rel⟩)
     | _=>exact ae q
    | none=>
     dsimp only
     by_cases e5:c.clss.contains x=true
     ·rw[if_pos e5]
      obtain⟨C,q1,q2⟩:=G.cls x e5
      exact JE.of (jd (v:=.ref C) hg q1 rfl (fi hx)) λρ st σ H m Q S R p=>p (.ref C) m H Ext.refl S (by unfold ag;exact⟨C,rfl,q2.cls⟩)
     rw[if_neg e5]
     by_cases e6:c.wb.contains x=true
     ·rw[if_pos e6]
      obtain⟨C,q1,q2⟩:=G.wb x e6
      exact JE.of (jd (v:=.ref C) hg q1 rfl (fi hx)) λρ st σ H m Q S R p=>p (.ref C) m H Ext.refl S (by unfold ag;exact⟨C,rfl,q2⟩)
     rw[if_neg e6]
     by_cases e3:c.bl.contains x=true
     ·rw[if_pos e3]
      cases e4:Kk x with
      | none=>exact aB
      | some T=>exact Ss hg (G.bl x e3) (Kl e4) (F8 hx) (fi hx)
     ·rw[if_neg e3];exact aB
   | _=>exact aB
 ·rw[if_neg hx];exact aB
def Ga:Const->GE
 | .none=>gC .bO
 | .bool b=>gC (.bl b)
 | .int i=>gC (.int i)
 | .str x=>if bg x=true then gC (.str x) else bL
 | _=>bL
theorem CT(k:Const)(j:Nat)(pos:Pos):JE X (.Constant k j pos) (Ga k):=by
 cases k with
 | none=>exact Nm
 | bool b=>exact Sr
 | int i=>exact Nl
 | str x=>
  show JE X _ (if bg x=true then gC (.str x) else bL)
  by_cases h:bg x=true
  ·rw[if_pos h];exact Nn h
  ·rw[if_neg h];exact aB
 | _=>exact aB
def plain:Expr->Bool
 | .Starred .. =>false
 | _=>true
theorem az{e:Expr}{es:List Expr}{env:Env}(h:plain e=true):afO (e::es) env=(false,eval e env)::afO es env:=by
 cases e<;>first | rfl | cases h
theorem cX{pos:Pos}{env:Env}:∀{es:List Expr},es.all plain=true->(backTo pos (afO es env)).any (·.1)=false
 | [],_=>rfl
 | e::es,h=>by
  rw[eI,cO] at h
  rw[az h.1]
  have q:=cX (pos:=pos) (env:=env) h.2
  unfold backTo at q ⊢
  rw[aK,iG,q]
  rfl
def gS(f:Expr->GE):List Expr->GA
 | []=>aj
 | e::es=>aa (f e) (gS f es)
theorem c9{f:Expr->GE}(h:∀e,JE X e (f e)):∀es:List Expr,es.all plain=true->JA X es (gS f es)
 | [],_=>Ej
 | e::es,g=>by
  rw[eI,cO] at g
  exact AD (h e) (c9 h es g.2) (az g.1)
def VC(c:Ct)(x:Str):Option (afC×(List Wv->Hs->Re Wv)) :=
 if x="len" then some (.builtin "len",if c.vn.isEmpty=true then me else ub) else if x="isinstance" then some (.builtin "isinstance",gR c.tb c.tt) else if x="int" then some (.type "int",nE) else if x="tuple" then some (.type "tuple",nD) else if x="sum"/\c.free=true then some (.builtin "sum",E8) else if x="dict" then some (.type "dict",ud) else none
theorem CU:afG "sum"=some (.builtin "sum"):=by decide+kernel
theorem OP(c:Ct):fO X (.builtin "len") (if c.vn.isEmpty=true then me else ub):=by
 by_cases e2:c.vn.isEmpty=true
 ·rw[if_pos e2];exact Ep
 ·rw[if_neg e2];exact Kb
theorem OQ{c:Ct}{x:Str}{v:afC}{op:List Wv->Hs->Re Wv}(O:TabOk X.K c.tb c.tt c.tc)(hc:c.free=true->X.calm=true)(h:VC c x=some (v,op)):afG x=some v/\fO X v op/\((∃id,v= .builtin id)\/∃T,v= .type T):=by
 unfold VC at h
 by_cases e:x="len"
 ·rw[if_pos e] at h;cases h;subst e;exact⟨Ce,OP c,.inl ⟨_,rfl⟩⟩
 rw[if_neg e] at h
 by_cases e:x="isinstance"
 ·rw[if_pos e] at h;cases h;subst e;exact⟨EC,NQ O,.inl ⟨_,rfl⟩⟩
 rw[if_neg e] at h
 by_cases e:x="int"
 ·rw[if_pos e] at h;cases h;subst e;exact⟨wO,JH,.inr ⟨_,rfl⟩⟩
 rw[if_neg e] at h
 by_cases e:x="tuple"
 ·rw[if_pos e] at h;cases h;subst e;exact⟨wQ,N8,.inr ⟨_,rfl⟩⟩
 rw[if_neg e] at h
 by_cases e:x="sum"/\c.free=true
 ·rw[if_pos e] at h;cases h;obtain⟨rfl,e2⟩:=e;exact⟨CU,Oa (hc e2),.inl ⟨_,rfl⟩⟩
 rw[if_neg e] at h
 by_cases e:x="dict"
 ·rw[if_pos e] at h;cases h;subst e;exact⟨xB,Kd,.inr ⟨_,rfl⟩⟩
 rw[if_neg e] at h
 cases h
def zr(c:Ct)(fE:Expr->GE)(x:Str)(es:List Expr):GE:=match c.lam,jS x c.N with
 | some (p,L),some i=>if okN x=true/\es.all plain=true/\(c.names.lookup x=some .local\/c.names.lookup x=some .cell\/c.names.lookup x=some .free)/\c.free=true then mw p 3 L i (gS fE es) else bL
 | _,_=>bL
theorem CV{c:Ct}{k:Nat}(G:Good c k X){fE:Expr->GE}(h:∀e,JE X e (fE e))(x:Str)(e:Expr)(es:List Expr)(p pos:Pos):JE X (.Call (.Name x p) (e::es) [] pos) (zr c fE x (e::es)):=by
 unfold zr
 cases el:c.lam with
 | none=>exact aB
 | some pL=>
  obtain⟨pl,L⟩:=pL
  cases ei:jS x c.N with
  | none=>exact aB
  | some i=>
   dsimp only
   by_cases g:okN x=true/\(e::es).all plain=true/\(c.names.lookup x=some .local\/c.names.lookup x=some .cell\/c.names.lookup x=some .free)/\c.free=true
   ·rw[if_pos g]
    obtain⟨g1,g2,g3,g4⟩:=g
    have gp:plain e=true/\es.all plain=true:=by rw[eI,cO] at g2;exact g2
    refine Fv (G.x.lam pl L el) (G.free g4).1 (by rw[G.N];exact eO ei) ?_ (c9 h (e::es) g2) (fi g1) (Bi g1) (az gp.1) (cX gp.2)
    unfold Q1
    rw[G.sc]
    exact g3
   ·rw[if_neg g];exact aB
def zt(c:Ct)(fE:Expr->GE)(x:Str)(es:List Expr):GE:=if okN x=true/\es.all plain=true/\c.names.lookup x=some .globalImplicit then
   (match c.fns.lookup x with
   | some (n,F)=>if c.free=true then av n F (gS fE es) else if c.wc.contains x=true then av n F (gS fE es) else bL
   | none=>if c.bl.contains x=true then(match VC c x with | some (_,op)=>aQ op (gS fE es) | none=>bL) else bL)
  else zr c fE x es
def Gb(fE:Expr->GE)(o:Expr)(name:Str)(e:Expr)(apos cpos:Pos):GE:=if plain e=true/\(apos.endLine == cpos.line)=true then
   (if name="append" then wW sF (fE o) (fE e) else if name="extend" then wW xt (fE o) (fE e) else bL)
  else bL
def vq(fE:Expr->GE)(o:Expr)(name:Str)(es:List Expr)(apos cpos:Pos):GE:=bL
theorem all_plain{pos:Pos}{env:Env}:∀{es:List Expr},es.all plain=true->(backTo pos (afO es env)).all (λx=> !x.1)=true
 | [],_=>rfl
 | e::es,h=>by
  rw[eI,cO] at h
  rw[az h.1]
  have q:=all_plain (pos:=pos) (env:=env) h.2
  unfold backTo at q ⊢
  rw[aK,eI,q]
  rfl
theorem oE{fE:Expr->GE}(h:∀e,JE X e (fE e))(o:Expr)(name:Str)(e:Expr)(es:List Expr)(apos cpos:Pos):JE X (.Call (.Attribute o name apos) (e::es) [] cpos) (vq fE o name (e::es) apos cpos):=by
 exact aB
def Gd(fE:Expr->GE)(o:Expr)(e f:Expr)(apos cpos:Pos):GE:=if plain e=true/\plain f=true/\(apos.endLine == cpos.line)=true then E_ (fE o) (fE e) (fE f) else bL
theorem Ge{c:Ct}{k:Nat}(G:Good c k X){fE:Expr->GE}(h:∀e,JE X e (fE e))(o:Expr)(ho:attributeBase o "get" X.env (eval o X.env)=eval o X.env)(e f:Expr)(apos cpos:Pos):JE X (.Call (.Attribute o "get" apos) [e,f] [] cpos) (Gd fE o e f apos cpos):=by
 unfold Gd
 by_cases g:plain e=true/\plain f=true/\(apos.endLine == cpos.line)=true
 ·rw[if_pos g]
  obtain⟨g1,g2,g3⟩:=g
  refine Fc (by have:=G.un;omega) (h _) (h e) (h f) ⟨ho,?_,g3,?_⟩
  ·rw[all_plain (es:=[e,f]) (by simp[g1,g2])]
   rfl
  ·rw[az g1,az g2]
   rfl
 ·rw[if_neg g];exact aB
def CW(c:Ct)(x:Str):Option Dc:=if okN x=true/\c.names.lookup x=some .globalImplicit then c.xy.lookup x else none
theorem Bk{c:Ct}{k:Nat}(G:Good c k X){x:Str}{kvs:Dc}(h:CW c x=some kvs):Gl X x/\(x == ("__debug__":Str))=false/\xf X.K X.w X.mg x kvs:=by
 unfold CW at h
 by_cases g:okN x=true/\c.names.lookup x=some .globalImplicit
 ·rw[if_pos g] at h
  refine⟨?_,fi g.1,G.xy x kvs h⟩
  show X.env.scope.names.lookup x=_
  rw[G.sc];exact g.2
 ·rw[if_neg g] at h;cases h
def Gf(c:Ct)(fE:Expr->GE)(x:Str)(p:Pos)(e:Expr)(apos cpos:Pos):GE:=if c.vn.contains x=true/\plain e=true/\(apos.endLine == cpos.line)=true then mE (fE (.Name x p)) (fE e) else bL
theorem Gg{c:Ct}{k:Nat}(G:Good c k X){fE:Expr->GE}(h:∀e,JE X e (fE e))(x:Str)(p:Pos)(e:Expr)(apos cpos:Pos):JE X (.Call (.Attribute (.Name x p) "get" apos) [e] [] cpos) (Gf c fE x p e apos cpos):=by
 unfold Gf
 by_cases g:c.vn.contains x=true/\plain e=true/\(apos.endLine == cpos.line)=true
 ·rw[if_pos g]
  obtain⟨_,g1,g3⟩:=g
  refine F6 (by have:=G.un;omega) (h _) (h e) ⟨rfl,?_,g3,?_⟩
  ·rw[all_plain (es:=[e]) (by simp[g1])]
   rfl
  ·rw[az g1]
   rfl
 ·rw[if_neg g];exact aB
def ug(c:Ct)(fE:Expr->GE)(cpos:Pos):Expr->List Expr->List Keyword->GE
 | .Name x _,e::es,[]=>zt c fE x (e::es)
 | .Attribute (.Name x p) name apos,[e],[]=>if name="get" then Gf c fE x p e apos cpos else if name="append"\/name="extend" then Gb fE (.Name x p) name e apos cpos else vq fE (.Name x p) name [e] apos cpos
 | .Attribute (.Name x p) name apos,[e,f],[]=>if name="get" then(match CW c x with | some kvs=>(if plain e=true/\plain f=true/\(apos.endLine == cpos.line)=true then Fo kvs (fE e) (fE f) else bL) | none=>Gd fE (.Name x p) e f apos cpos) else vq fE (.Name x p) name [e,f] apos cpos
 | .Attribute o name apos,e::es,[]=>vq fE o name (e::es) apos cpos
 | _,_,_=>bL
theorem CY{c:Ct}{k:Nat}(G:Good c k X){fE:Expr->GE}(h:∀e,JE X e (fE e))(x:Str)(e:Expr)(es:List Expr)(p pos:Pos):JE X (.Call (.Name x p) (e::es) [] pos) (zt c fE x (e::es)):=by
 unfold zt
 by_cases g:okN x=true/\(e::es).all plain=true/\c.names.lookup x=some .globalImplicit
 ·rw[if_pos g]
  obtain⟨g1,g2,g3⟩:=g
  have hg:Gl X x:=by
   show X.env.scope.names.lookup x=_
   rw[G.sc];exact g3
  have gp:plain e=true/\es.all plain=true:=by rw[eI,cO] at g2;exact g2
  have ha:=c9 h (e::es) g2
  cases e1:c.fns.lookup x with
  | some nF=>
   obtain⟨n,F⟩:=nF
   dsimp only
   by_cases cf:c.free=true
   ·rw[if_pos cf]
    obtain⟨a,fd,ps,G1,G2,G3,G4⟩:=G.fns x n F e1
    exact Js G1 (G.free cf).1 G2 G3 G4 ha hg (fi g1) (az gp.1) (cX gp.2)
   ·rw[if_neg cf]
    by_cases cu:c.wc.contains x=true
    ·rw[if_pos cu]
     obtain⟨a,fd,ps,G1,G2,G3,G4⟩:=G.wc x n F cu e1
     exact Ff G1 G.rm G.hd G2 G3 G4 ha hg (fi g1) (az gp.1) (cX gp.2)
    ·rw[if_neg cu];exact aB
  | none=>
   dsimp only
   by_cases e3:c.bl.contains x=true
   ·rw[if_pos e3]
    cases e4:VC c x with
    | none=>exact aB
    | some io=>
     obtain⟨v,op⟩:=io
     obtain⟨b1,b2,b3⟩:=OQ (X:=X) G.tab (λz=>(G.free z).2) e4
     rcases b3 with ⟨id,rfl⟩ | ⟨T,rfl⟩
     ·exact Eo b2 hg (G.bl x e3) b1 ha (F8 g1) (fi g1) (az gp.1) (cX gp.2)
     ·exact Cb b2 hg (G.bl x e3) b1 ha (F8 g1) (fi g1) (az gp.1) (cX gp.2)
   ·rw[if_neg e3]
    exact aB
 ·rw[if_neg g];exact CV G h x e es p pos
theorem Gh{fE:Expr->GE}(h:∀e,JE X e (fE e))(x name:Str)(e:Expr)(p apos cpos:Pos):JE X (.Call (.Attribute (.Name x p) name apos) [e] [] cpos) (Gb fE (.Name x p) name e apos cpos):=by
 unfold Gb
 by_cases g:plain e=true/\(apos.endLine == cpos.line)=true
 ·rw[if_pos g]
  by_cases n1:name="append"
  ·rw[if_pos n1]
   subst n1
   exact AK yO PySem.F.slot_list_append PySem.F.type_list_append (h _) (h e) (az g.1) g.2
  rw[if_neg n1]
  by_cases n2:name="extend"
  ·rw[if_pos n2]
   subst n2
   exact AK J8 PySem.F.slot_list_extend PySem.F.type_list_extend (h _) (h e) (az g.1) g.2
  rw[if_neg n2]
  exact aB
 ·rw[if_neg g];exact aB
theorem Gi{c:Ct}{k:Nat}(G:Good c k X){fE:Expr->GE}(h:∀e,JE X e (fE e))(f:Expr)(as:List Expr)(ks:List Keyword)(pos:Pos):JE X (.Call f as ks pos) (ug c fE pos f as ks):=by
 unfold ug
 split
 ·exact CY G h _ _ _ _ _
 ·rename_i x p name apos e
  by_cases gg:name="get"
  ·rw[if_pos gg];subst gg;exact Gg G h _ _ _ _ _
  rw[if_neg gg]
  by_cases g:name="append"\/name="extend"
  ·rw[if_pos g];exact Gh h _ _ _ _ _ _
  ·rw[if_neg g]
   exact oE h _ _ _ _ _ _
 ·rename_i x p name apos e f
  by_cases g:name="get"
  ·rw[if_pos g]
   subst g
   cases ed:CW c x with
   | none=>exact Ge G h _ rfl _ _ _ _
   | some kvs=>
    dsimp only
    by_cases g:plain e=true/\plain f=true/\(apos.endLine == pos.line)=true
    ·rw[if_pos g]
     obtain⟨g1,g2,g3⟩:=g
     obtain⟨q1,q2,q3⟩:=Bk G ed
     refine Fp (h e) (h f) ⟨rfl,?_,g3,?_⟩ q1 q2 q3
     ·rw[all_plain (es:=[e,f]) (by simp[g1,g2])]
      rfl
     ·rw[az g1,az g2]
      rfl
    ·rw[if_neg g];exact aB
  ·rw[if_neg g]
   exact oE h _ _ _ _ _ _
 ·exact oE h _ _ _ _ _ _
 ·exact aB
def CZ:Expr->Bool
 | .Slice .. =>true
 | _=>false
def Gj(f:Expr->GE):Option Expr->GO
 | none=>lx
 | some e=>pC (f e)
theorem Bl{f:Expr->GE}(h:∀e,JE X e (f e))(o:Option Expr):JO X o (Gj f o):=by
 cases o with
 | none=>exact Jk
 | some e=>exact Jl (h e)
def Kn(f:Expr->GE)(a:Expr):Expr->GE
 | .Slice lo hi none _=>ic (f a) (Gj f lo) (Gj f hi)
 | .Slice .. =>bL
 | b=>ai bF (f a) (f b)
theorem Gk{f:Expr->GE}(h:∀e,JE X e (f e))(a b:Expr)(pos:Pos):JE X (.Subscript a b pos) (Kn f a b):=by
 unfold Kn
 split
 ·exact Cw (h a) (Bl h _) (Bl h _)
 ·exact aB
 ·rename_i n1 n2
  refine SX (h a) (h b) ?_
  intro o i
  cases b<;>first | rfl | (rename_i lo hi st p;exact(n2 _ _ _ _ rfl).elim)
def Ko(f:Expr->GE)(a:Expr):List CmpOp->List Expr->GE
 | [o],[b]=>if afE o b=false then ai (zq o) (f a) (f b) else bL
 | [o,o'],[b,b']=>if lastMarks [o,o'] [b,b']=false then j5 (zq o) (zq o') (f a) (f b) (f b') else bL
 | _,_=>bL
theorem Gm(hu:X.A.units+64 < cLine){f:Expr->GE}(h:∀e,JE X e (f e))(a:Expr)(os:List CmpOp)(bs:List Expr)(pos:Pos):JE X (.Compare a os bs pos) (Ko f a os bs):=by
 unfold Ko
 split
 ·rename_i o b
  by_cases g:afE o b=false
  ·rw[if_pos g];exact yB (lF hu o) (h a) (h b) g
  ·rw[if_neg g];exact aB
 ·rename_i o o' b b'
  by_cases g:lastMarks [o,o'] [b,b']=false
  ·rw[if_pos g];exact Eg (lF hu o) (lF hu o') (h a) (h b) (h b') g
  ·rw[if_neg g];exact aB
 ·exact aB
def Kp(f:Expr->GE)(a:Expr):List CmpOp->List Expr->GT
 | [o],[b]=>if afE o b=false then cZ (ai (zq o) (f a) (f b)) else j8
 | [o,o'],[b,b']=>if lastMarks [o,o'] [b,b']=false then cZ (j5 (zq o) (zq o') (f a) (f b) (f b')) else j8
 | _,_=>j8
theorem Bm(hu:X.A.units+64 < cLine){f:Expr->GE}(h:∀e,JE X e (f e))(a:Expr)(os:List CmpOp)(bs:List Expr)(pos:Pos):JT X (.Compare a os bs pos) (Kp f a os bs):=by
 unfold Kp
 split
 ·rename_i o b
  by_cases g:afE o b=false
  ·rw[if_pos g];exact yC (lF hu o) (h a) (h b) g
  ·rw[if_neg g];exact j9
 ·rename_i o o' b b'
  by_cases g:lastMarks [o,o'] [b,b']=false
  ·rw[if_pos g];exact Eh (lF hu o) (lF hu o') (h a) (h b) (h b') g
  ·rw[if_neg g];exact j9
 ·exact j9
def Xq(c:Ct):Expr->Bool
 | .Name x _=>c.vn.contains x
 | _=>false
def Kq(c:Ct):Expr->Bool
 | .Subscript (.Name x _) (.Constant (.int 0) _ _) _=>c.vn.contains (x++"[]")
 | .Subscript (.Call (.Name x _) _ _ _) (.Constant (.int 0) _ _) _=>c.vn.contains (x++"()[]")
 | .Call (.Name x _) _ _ _=>c.vn.contains (x++"()")
 | e=>Xq c e
def OR(c:Ct)(f:Expr->GE)(a:Expr)(os:List CmpOp)(bs:List Expr):GE:=if Kq c a=true then(match os,bs with
 | [.Eq],[b]=>if afE .Eq b=false then ai zo (f a) (f b) else bL
 | [.NotEq],[b]=>if afE .NotEq b=false then ai CP (f a) (f b) else bL
 | os,bs=>Ko f a os bs) else Ko f a os bs
theorem Kr{c:Ct}{k:Nat}(G:Good c k X){f:Expr->GE}(h:∀e,JE X e (f e))(a:Expr)(os:List CmpOp)(bs:List Expr)(pos:Pos):JE X (.Compare a os bs pos) (OR c f a os bs):=by
 unfold OR
 by_cases g:Kq c a=true
 ·rw[if_pos g]
  split
  ·rename_i b
   by_cases gm:afE .Eq b=false
   ·rw[if_pos gm];exact yB (F4 G.un) (h a) (h b) gm
   ·rw[if_neg gm];exact aB
  ·rename_i b
   by_cases gm:afE .NotEq b=false
   ·rw[if_pos gm];exact yB (F5 G.un) (h a) (h b) gm
   ·rw[if_neg gm];exact aB
  ·exact Gm G.un h a _ _ pos
 ·rw[if_neg g];exact Gm G.un h a os bs pos
def Gn(c:Ct)(f:Expr->GE)(a:Expr)(os:List CmpOp)(bs:List Expr):GT:=if Kq c a=true then(match os,bs with
 | [.Eq],[b]=>if afE .Eq b=false then cZ (ai zo (f a) (f b)) else j8
 | [.NotEq],[b]=>if afE .NotEq b=false then cZ (ai CP (f a) (f b)) else j8
 | os,bs=>Kp f a os bs) else Kp f a os bs
theorem Gp{c:Ct}{k:Nat}(G:Good c k X){f:Expr->GE}(h:∀e,JE X e (f e))(a:Expr)(os:List CmpOp)(bs:List Expr)(pos:Pos):JT X (.Compare a os bs pos) (Gn c f a os bs):=by
 unfold Gn
 by_cases g:Kq c a=true
 ·rw[if_pos g]
  split
  ·rename_i b
   by_cases gm:afE .Eq b=false
   ·rw[if_pos gm];exact yC (F4 G.un) (h a) (h b) gm
   ·rw[if_neg gm];exact j9
  ·rename_i b
   by_cases gm:afE .NotEq b=false
   ·rw[if_pos gm];exact yC (F5 G.un) (h a) (h b) gm
   ·rw[if_neg gm];exact j9
  ·exact Bm G.un h a _ _ pos
 ·rw[if_neg g];exact Bm G.un h a os bs pos
def Kt(c:Ct):Expr->Bool
 | .Name x _=>c.vn.contains x||c.dks.contains x
 | _=>false
def OS(c:Ct)(f:Expr->GE):Expr->Expr->GE
 | .Name x p,b=>(match CW c x with | some kvs=>if CZ b=false then A6 kvs (f b) else bL | none=>if Kt c (.Name x p)=true/\CZ b=false then xv (f (.Name x p)) (f b) else Kn f (.Name x p) b)
 | a,b=>Kn f a b
theorem Ku{c:Ct}{k:Nat}(G:Good c k X){f:Expr->GE}(h:∀e,JE X e (f e))(a b:Expr)(pos:Pos):JE X (.Subscript a b pos) (OS c f a b):=by
 unfold OS
 split
 ·rename_i x p
  cases e:CW c x with
  | none=>
   dsimp only
   by_cases g:Kt c (.Name x p)=true/\CZ b=false
   ·rw[if_pos g]
    refine J_ (by have:=G.un;omega) (h _) (h b) ?_
    intro o i
    cases b<;>first | rfl | cases g.2
   ·rw[if_neg g];exact Gk h _ b pos
  | some kvs=>
   dsimp only
   by_cases g:CZ b=false
   ·rw[if_pos g]
    obtain⟨g1,g2,g3⟩:=Bk G e
    refine JK (h b) ?_ g1 g2 g3
    intro o i
    cases b<;>first | rfl | cases g
   ·rw[if_neg g];exact aB
 ·exact Gk h _ b pos
def pairsOf(f:Expr->GE):List (Option Expr)->List Expr->Option (List (GE×GE))
 | [],[]=>some []
 | some k::ks,v::vs=>(match pairsOf f ks vs with | some r=>some ((f k,f v)::r) | none=>none)
 | _,_=>none
def Uk:List (Option Expr)->Bool
 | some (.Tuple ..)::_=>true
 | _=>false
def Ul(c:Ct):List (Option Expr)->Bool
 | some (.Name x _)::_=>c.vn.contains x
 | _=>false
def Gq(b:Bool)(f:Expr->GE)(ks:List (Option Expr))(vs:List Expr):GE:=if(!ks.isEmpty&&decide (ks.length<=15))=true then(match pairsOf f ks vs with | some gs=>if b=true then bL else bL | none=>bL) else bL
theorem Bn(hu:X.A.units+1 < cLine)(b:Bool){f:Expr->GE}(h:∀e,JE X e (f e))(ks:List (Option Expr))(vs:List Expr)(pos:Pos):JE X (.Dict ks vs pos) (Gq b f ks vs):=by
 unfold Gq
 by_cases g:(!ks.isEmpty&&decide (ks.length<=15))=true
 ·rw[if_pos g]
  simp only[cO,decide_eq_true_eq] at g
  cases e:pairsOf f ks vs with
  | none=>exact aB
  | some gs=>
   dsimp only
   by_cases t:b=true
   ·rw[if_pos t];exact aB
   ·rw[if_neg t];exact aB
 ·rw[if_neg g];exact aB
def OT(f:Expr->GE):List Expr->GE
 | []=>bL
 | [a]=>f a
 | a::b::r=>lU (f a) (OT f (b::r))
def Xr(f:Expr->GE):List Expr->GE
 | []=>bL
 | [a]=>f a
 | a::b::r=>Sw (f a) (Xr f (b::r))
theorem Bo{f:Expr->GE}(h:∀e,JE X e (f e))(pos:Pos):∀es,JE X (.BoolOp .And es pos) (OT f es)
 | []=>aB
 | [a]=>Ei (h a)
 | a::b::r=>Nv (h a) (Bo h pos (b::r))
theorem Gs{f:Expr->GE}(h:∀e,JE X e (f e))(pos:Pos):∀es,JE X (.BoolOp .Or es pos) (Xr f es)
 | []=>aB
 | [a]=>Ei (h a)
 | a::b::r=>Sx (h a) (Gs h pos (b::r))
def OU(f:Expr->GT):List Expr->GT
 | []=>j8
 | [a]=>f a
 | a::b::r=>B9 (f a) (OU f (b::r))
def Xs(f:Expr->GT):List Expr->GT
 | []=>j8
 | [a]=>f a
 | a::b::r=>Su (f a) (Xs f (b::r))
theorem Gu{e:Expr}:JW X e j8:=λρ st σ H m Q S R p=>ae p
theorem Bp{f:Expr->GT}(h:∀e,JT X e (f e))(pos:Pos):∀es,JW X (.BoolOp .And es pos) (OU f es)
 | []=>Gu
 | [a]=>Jb (h a)
 | a::b::r=>Nt (h a) (Bp h pos (b::r))
theorem Gv{f:Expr->GT}(h:∀e,JT X e (f e))(pos:Pos):∀es,JW X (.BoolOp .Or es pos) (Xs f es)
 | []=>Gu
 | [a]=>Nr (h a)
 | a::b::r=>Sv (h a) (Gv h pos (b::r))
def unG(f:Expr->GE):UnaryOp->Expr->GE
 | .USub,a=>Dx jK (f a)
 | .Not,a=>Lb (f a)
 | _,_=>bL
def C0(f:Expr->GE)(g:GA->GE)(es:List Expr):GE:=if es.all plain=true then g (gS f es) else bL
def isSet:Expr->Bool
 | .Set .. =>true
 | _=>false
theorem dv{e:Expr}{env:Env}(h:isSet e=false)(x:afC):afK e env x=pure x:=by
 cases e<;>first | rfl | cases h
def dy(c:Ct)(x:Str):Bool:=decide (x="range")&&decide (c.names.lookup x=some .globalImplicit)&&c.bl.contains x&&(match c.fns.lookup x with | some _=>false | none=>true)
theorem nM{c:Ct}{k:Nat}(G:Good c k X)(y:Str)(hy:dy c y=true):y="range"/\Gl X y/\X.mg y=none:=by
 unfold dy at hy
 simp only[cO,decide_eq_true_eq] at hy
 refine⟨hy.1.1.1,?_,G.bl y hy.1.2⟩
 show X.env.scope.names.lookup y=_
 rw[G.sc];exact hy.1.1.2
def uh(c:Ct)(f:Expr->GE):Expr->GI
 | .Call (.Name x p) [a] [] q=>if dy c x=true then(if plain a=true then Cq (gS f [a]) else AV) else mq (f (.Call (.Name x p) [a] [] q))
 | .Call (.Name x p) [a,b] [] q=>if dy c x=true then(if plain a=true/\plain b=true then E4 (gS f [a,b]) else AV) else mq (f (.Call (.Name x p) [a,b] [] q))
 | e=>if isSet e=false then mq (f e) else AV
theorem vt{c:Ct}{k:Nat}(G:Good c k X){f:Expr->GE}(h:∀e,JE X e (f e))(tg e:Expr):JI X tg e (uh c f e):=by
 unfold uh
 split
 ·rename_i y p a q
  by_cases g:dy c y=true
  ·rw[if_pos g]
   obtain⟨rfl,g2,g3⟩:=nM G y g
   by_cases ga:plain a=true
   ·rw[if_pos ga]
    exact Tz g2 g3 (c9 h [a] (by simp[ga])) (az ga)
   ·rw[if_neg ga];exact yR
  ·rw[if_neg g];exact vg (h _)
 ·rename_i y p a b q
  by_cases g:dy c y=true
  ·rw[if_pos g]
   obtain⟨rfl,g2,g3⟩:=nM G y g
   by_cases ga:plain a=true/\plain b=true
   ·rw[if_pos ga]
    exact TC g2 g3 (c9 h [a,b] (by simp[ga])) (by rw[az ga.1,az ga.2];rfl) (by rw[az ga.2];rfl)
   ·rw[if_neg ga];exact yR
  ·rw[if_neg g];exact vg (h _)
 ·by_cases g:isSet e=false
  ·rw[if_pos g];exact vg (h _)
  ·rw[if_neg g];exact yR
def Kv(c:Ct):Expr->Bool
 | .Call (.Name x _) [a] [] _=>dy c x&&plain a
 | _=>false
theorem xC{c:Ct}{k:Nat}(G:Good c k X){f:Expr->GE}(h:∀e,JE X e (f e))(tg e:Expr)(g:Kv c e=true):Rf yN X tg e (uh c f e):=by
 unfold Kv at g
 split at g
 ·rename_i y p a q
  simp only[cO] at g
  obtain⟨rfl,g2,g3⟩:=nM G y g.1
  unfold uh
  dsimp only
  rw[if_pos g.1,if_pos g.2]
  exact OE g2 g3 (c9 h [a] (by simp[g.2])) (az g.2)
 ·cases g
def Xt(c:Ct)(x:Str):Bool:=decide (x="enumerate")&&decide (c.names.lookup x=some .globalImplicit)&&c.bl.contains x&&(match c.fns.lookup x with | some _=>false | none=>true)
def Xu(gi:GI):Fh:=λρ st=>(gi ρ st).bind λw st1=> .ok (w.1.map λl=>(l,w.2),w.2) st1
def Gw(c:Ct)(x:Str):Bool:=decide (x="zip")&&decide (c.names.lookup x=some .globalImplicit)&&c.bl.contains x
theorem Lz{c:Ct}{k:Nat}(G:Good c k X)(x:Str)(h:Gw c x=true):x="zip"/\Gl X "zip"/\X.mg "zip"=none:=by
 unfold Gw at h
 simp only[cO,decide_eq_true_eq] at h
 obtain⟨⟨rfl,h2⟩,h3⟩:=h
 exact⟨rfl,by show X.env.scope.names.lookup _=_;rw[G.sc];exact h2,G.bl _ h3⟩
def vw(c:Ct)(f:Expr->GE):Expr->Fh
 | .Call (.Name x p) [a,b,d] [] q=>if Gw c x=true/\[a,b,d].all plain=true then t_ (gS f [a,b,d]) else Fi
 | e=>Xu (uh c f e)
theorem rD{c:Ct}{k:Nat}(G:Good c k X){f:Expr->GE}(h:∀e,JE X e (f e))(es:List Expr)(kt:Nat)(pt:Pos)(e:Expr):Lk X (.Tuple es kt pt) e (vw c f e):=by
 unfold vw
 split
 ·rename_i y p a b d q
  by_cases g:Gw c y=true/\[a,b,d].all plain=true
  ·rw[if_pos g]
   obtain⟨g1,g2⟩:=g
   obtain⟨rfl,g3,g4⟩:=Lz G y g1
   have gp:plain a=true/\[b,d].all plain=true:=by rw[eI,cO] at g2;exact g2
   exact J6 g3 g4 (c9 h [a,b,d] g2) (az gp.1) (cX gp.2)
  ·rw[if_neg g];exact JU
 ·exact Om (vt G h _ _)
def LA(c:Ct):Expr->Bool
 | .Call (.Name x _) [_] [] _=>Xt c x
 | _=>false
def oF:List Expr->Option (List Str)
 | []=>some []
 | .Name x _::r=>(oF r).map (x::·)
 | _=>none
theorem ui:∀{es:List Expr}{xs:List Str},oF es=some xs->eN es xs
 | [],xs,h=>by cases h;exact .nil
 | e::r,xs,h=>by
  cases e with
  | Name x p=>
   unfold oF at h
   cases e1:oF r with
   | none=>rw[e1] at h;cases h
   | some ys=>
    rw[e1] at h
    cases h
    exact .cons (ui e1)
  | _=>cases h
def lW(c:Ct):List (Str×afz)->Option dH
 | []=>some []
 | (n,.free)::r=>if c.names.lookup n=some .cell\/c.names.lookup n=some .free then(match jS n c.N,lW c r with | some i,some l=>some ((n,i)::l) | _,_=>none) else none
 | _::r=>lW c r
theorem rE{c:Ct}:∀{ns:List (Str×afz)}{cs:dH},lW c ns=some cs->(∀y∈ns,y.2= .free->c.names.lookup y.1=some .cell\/c.names.lookup y.1=some .free)/\∀p∈cs,(p.1,du)∈ns/\c.N[p.2]? =some p.1
 | [],cs,h=>by cases h;exact⟨(λ_ z=>by cases z),(λ_ z=>by cases z)⟩
 | (n,k)::r,cs,h=>by
  unfold lW at h
  split at h
  ·cases ‹_::_=[]›
  ·rename_i n' r' he
   cases he
   by_cases g:c.names.lookup n=some .cell\/c.names.lookup n=some .free
   ·rw[if_pos g] at h
    cases e1:jS n c.N with
    | none=>rw[e1] at h;cases h
    | some i=>
     cases e2:lW c r with
     | none=>rw[e1,e2] at h;cases h
     | some l=>
      rw[e1,e2] at h
      cases h
      obtain⟨q1,q2⟩:=rE e2
      refine⟨λy hy e=>?_,λp hp=>?_⟩
      ·rcases List.mem_cons.mp hy with z | z
       ·subst z;exact g
       ·exact q1 y z e
      ·rcases List.mem_cons.mp hp with z | z
       ·subst z;exact⟨bw,eO e1⟩
       ·exact⟨aO _ (q2 p z).1,(q2 p z).2⟩
   ·rw[if_neg g] at h;cases h
  ·rename_i kk r' hk he
   cases he
   obtain⟨q1,q2⟩:=rE h
   refine⟨λy hy e=>?_,λp hp=>⟨aO _ (q2 p hp).1,(q2 p hp).2⟩⟩
   rcases List.mem_cons.mp hy with z | z
   ·subst z
    have e':k= .free:=e
    subst e'
    exact(hk n rfl).elim
   ·exact q1 y z e
def oG(c:Ct)(ns:List (Str×afz)):List (Str×afz):=ns.map λ(n,k)=>if(k == .free&&c.names.lookup n == some .cell) then(n,.cell) else(n,k)
def LB:ScopeKind->Bool
 | .function=>true
 | _=>false
def dO(scope:Scope)(x:Str):Bool:=LB scope.kind&&scope.names.all (λy=>decide (scope.names.lookup y.1=some y.2))&&scope.names.all (λy=>decide (y.2≠.cell))&&decide (scope.names.lookup x=some .local)
def Ct.block(c:Ct)(scope:Scope)(x:Str)(cs:dH):Ct:={ c with N:=x::cs.map (·.1),names:=oG c scope.names,loop:=false,top:=false }
def xD(c:Ct)(sub:Ct->(Expr->GE)×(Expr->GT))(f:Expr->GE)(elt:Expr)(x:Str)(iter:Expr)(zu:Ct->GT)(scope:Scope):GE :=
 if dO scope x=true/\(c.free=true\/Kv c iter=true)/\isSet iter=false then(match lW c scope.names with
  | some cs=>if(x::cs.map (·.1)).Nodup then lV cs (uh c f iter) (zu (c.block scope x cs)) ((sub (c.block scope x cs)).1 elt) else bL
  | none=>bL) else bL
def Ct.rF(c:Ct)(scope:Scope)(xs:List Str)(cs:dH):Ct:={ c with N:=xs++cs.map (·.1),names:=oG c scope.names,loop:=false,top:=false }
def rG(c:Ct)(sub:Ct->(Expr->GE)×(Expr->GT))(f:Expr->GE)(elt:Expr)(es:List Expr)(iter:Expr)(zu:Ct->GT)(scope:Scope):GE:=match oF es with
 | some (x::xr)=>if(x::xr).all (dO scope)=true/\c.free=true/\isSet iter=false then(match lW c scope.names with
  | some cs=>if((x::xr)++cs.map (·.1)).Nodup then mv (x::xr).length cs (vw c f iter) (zu (c.rF scope (x::xr) cs)) ((sub (c.rF scope (x::xr) cs)).1 elt) else bL
  | none=>bL) else bL
 | _=>bL
def VD(c:Ct)(sub:Ct->(Expr->GE)×(Expr->GT))(f:Expr->GE)(elt:Expr)(scope:Scope):List Comprehension->GE
 | [⟨.Name x _,iter,[],0⟩]=>xD c sub f elt x iter (λ_=>λ_ st=> .ok true st) scope
 | [⟨.Name x _,iter,[q],0⟩]=>xD c sub f elt x iter (λc'=>(sub c').2 q) scope
 | [⟨.Tuple es _ _,iter,[],0⟩]=>rG c sub f elt es iter (λ_=>λ_ st=> .ok true st) scope
 | [⟨.Tuple es _ _,iter,[q],0⟩]=>rG c sub f elt es iter (λc'=>(sub c').2 q) scope
 | _=>bL
theorem rH{c:Ct}{k:Nat}(G:Good c k X){scope:Scope}{x:Str}{cs:dH}(hs:dO scope x=true)(nd:(x::cs.map (·.1)).Nodup)(C:afw)(s0:afB)(H0:Hp)(fp:List afw)(pn:List (afw×Obj))(E:afC->afB->Prop)(hA:Ck X.A H0) :
  Good (c.block scope x cs) k (fQ X scope x cs C s0 H0 fp pn E):=by
 unfold dO at hs
 simp only[cO,decide_eq_true_eq] at hs
 have hk:scope.kind= .function:=by
  have:=hs.1.1.1
  revert this
  cases scope.kind<;>intro z<;>first | rfl | cases z
 refine⟨rfl,?_,nd,G.un,G.free,(λz=>by cases z),G.cst,G.bl,G.fns,(λz=>by cases z),(λz=>by cases z),hk,G.tab,G.cls,G.wb,G.xy,⟨G.rm.d,G.rm.u⟩,G.wc,⟨G.x.lam,G.x.uf,G.x.Ii,(λz=>by cases z)⟩,G.fr,hA⟩
 show(relabel scope X.env).names=oG c scope.names
 unfold relabel oG Env.kindOf
 rw[G.kind,G.sc]
 simp
theorem pI{c:Ct}{k:Nat}(G:Good c k X){scope:Scope}{x:Str}{xr:List Str}{cs:dH}(hs:dO scope x=true)(hf:c.free=true)(nd:((x::xr)++cs.map (·.1)).Nodup)(C:afw)(s0:afB)(H0:Hp)(fp:List afw)(pn:List (afw×Obj)) :
  Good (c.rF scope (x::xr) cs) k (eM X scope (x::xr) cs C s0 H0 fp pn):=by
 unfold dO at hs
 simp only[cO,decide_eq_true_eq] at hs
 have hk:scope.kind= .function:=by
  have:=hs.1.1.1
  revert this
  cases scope.kind<;>intro z<;>first | rfl | cases z
 refine⟨rfl,?_,nd,G.un,G.free,(λz=>by cases z),G.cst,G.bl,G.fns,(λz=>by cases z),(λz=>by cases z),hk,G.tab,G.cls,G.wb,G.xy,⟨G.rm.d,G.rm.u⟩,G.wc,⟨G.x.lam,G.x.uf,G.x.Ii,(λz=>by cases z)⟩,G.fr,.inl (G.free hf).1.hd⟩
 show(relabel scope X.env).names=oG c scope.names
 unfold relabel oG Env.kindOf
 rw[G.kind,G.sc]
 simp
theorem xE{c:Ct}{k:Nat}(G:Good c k X){scope:Scope}{x:Str}{cs:dH}(hs:dO scope x=true)(hcs:lW c scope.names=some cs)(nd:(x::cs.map (·.1)).Nodup):d_ X scope x cs:=by
 unfold dO at hs
 simp only[cO,decide_eq_true_eq,rJ] at hs
 obtain⟨⟨⟨h1,h2⟩,h3⟩,h4⟩:=hs
 have hk:scope.kind= .function:=by
  revert h1
  cases scope.kind<;>intro z<;>first | rfl | cases z
 obtain⟨q1,q2⟩:=rE hcs
 refine⟨hk,h2,h3,h4,λy hy e=>?_,λp hp=>⟨by rw[G.N];exact(q2 p hp).2,h2 _ (q2 p hp).1⟩,nd⟩
 show X.env.scope.names.lookup y.1=_\/X.env.scope.names.lookup y.1=_
 rw[G.sc];exact q1 y hy e
def LC(X:Cx)(e:Expr)(g:GE):Prop:=∀(i:Nat)(y:Str)(py spos:Pos),X.N.Nodup->X.N[i]? =some y->Loc X.env.scope y->(X.fn y=true\/X.env.scope.names.lookup y=some .local)->JS X (.Assign [.Name y py] e spos) (aX i g)
theorem C2{i:Nat}{s:Stmt}:JS X s (aX i bL):=λρ st σ H m D S R p=>ae p
theorem dz{e:Expr}:LC X e bL:=λi y py spos _ _ _ _=>C2
theorem Bq{c:Ct}{k:Nat}(G:Good c k X){sub:Ct->(Expr->GE)×(Expr->GT)}(hb:∀c X,Good c k X->(∀e,JE X e ((sub c).1 e))/\∀e,JT X e ((sub c).2 e)){f:Expr->GE}(h:∀e,JE X e (f e))(elt:Expr)(scope:Scope)(gens:List Comprehension)(pos:Pos) :
  JE X (.ListComp elt gens scope pos) (VD c sub f elt scope gens)/\LC X (.ListComp elt gens scope pos) (VD c sub f elt scope gens):=by
 have core:∀(x:Str)(px:Pos)(iter:Expr)(ifs:List Expr)(zu:Ct->GT),(∀c X,Good c k X->AQ X ifs (zu c))->
   JE X (.ListComp elt [⟨.Name x px,iter,ifs,0⟩] scope pos) (xD c sub f elt x iter zu scope)/\LC X (.ListComp elt [⟨.Name x px,iter,ifs,0⟩] scope pos) (xD c sub f elt x iter zu scope):=by
  intro x px iter ifs zu hg
  unfold xD
  by_cases g:dO scope x=true/\(c.free=true\/Kv c iter=true)/\isSet iter=false
  ·rw[if_pos g]
   obtain⟨g1,g2,g3⟩:=g
   cases ec:lW c scope.names with
   | none=>exact⟨aB,dz⟩
   | some cs=>
    dsimp only
    by_cases nd:(x::cs.map (·.1)).Nodup
    ·rw[if_pos nd]
     have CS:=xE G g1 ec nd
     have hE:∀C s0 H0 fp pn E,Ck X.A H0->JE (fQ X scope x cs C s0 H0 fp pn E) elt ((sub (c.block scope x cs)).1 elt):=λC s0 H0 fp pn E z=>(hb _ _ (rH G g1 nd C s0 H0 fp pn E z)).1 elt
     have hT:∀C s0 H0 fp pn E,Ck X.A H0->AQ (fQ X scope x cs C s0 H0 fp pn E) ifs (zu (c.block scope x cs)):=λC s0 H0 fp pn E z=>hg _ _ (rH G g1 nd C s0 H0 fp pn E z)
     rcases g2 with g2 | g2
     ·exact⟨vc G.fr CS (wZ (G.free g2).2) G.hd (vt G h _ iter).y hE hT (dv g3),λi y py spos hN hi hl hf=>AY i hN G.fr CS (wZ (G.free g2).2) G.hd (vt G h _ iter).y hE hT (dv g3) hi hl hf⟩
     ·exact⟨vc G.fr CS (FT G.hd) G.hd (xC G h _ iter g2) hE hT (dv g3),λi y py spos hN hi hl hf=>AY i hN G.fr CS (FT G.hd) G.hd (xC G h _ iter g2) hE hT (dv g3) hi hl hf⟩
    ·rw[if_neg nd];exact⟨aB,dz⟩
  ·rw[if_neg g];exact⟨aB,dz⟩
 have LD:∀(es:List Expr)(kt:Nat)(pt:Pos)(iter:Expr)(ifs:List Expr)(zu:Ct->GT),(∀c X,Good c k X->AQ X ifs (zu c))->
   JE X (.ListComp elt [⟨.Tuple es kt pt,iter,ifs,0⟩] scope pos) (rG c sub f elt es iter zu scope)/\LC X (.ListComp elt [⟨.Tuple es kt pt,iter,ifs,0⟩] scope pos) (rG c sub f elt es iter zu scope):=by
  intro es kt pt iter ifs zu hg
  unfold rG
  cases en:oF es with
  | none=>exact⟨aB,dz⟩
  | some xs=>
   cases xs with
   | nil=>exact⟨aB,dz⟩
   | cons x xr=>
    dsimp only
    by_cases g:(x::xr).all (dO scope)=true/\c.free=true/\isSet iter=false
    ·rw[if_pos g]
     obtain⟨g1,g2,g3⟩:=g
     have gx:∀y∈x::xr,dO scope y=true:=List.all_eq_true.mp g1
     cases ec:lW c scope.names with
     | none=>exact⟨aB,dz⟩
     | some cs=>
      dsimp only
      by_cases nd:((x::xr)++cs.map (·.1)).Nodup
      ·rw[if_pos nd]
       have nd1:(x::cs.map (·.1)).Nodup:=nd.sublist (List.Sublist.cons₂ x (List.sublist_append_right xr _))
       have vr:∀y∈x::xr,scope.names.lookup y=some .local:=λy hy=>by
        have q:=gx y hy
        unfold dO at q
        simp only[cO,decide_eq_true_eq] at q
        exact q.2
       have CS:lE X scope x xr cs:=⟨xE G (gx x bw) ec nd1,vr,nd⟩
       have sl:=ui en
       have hE:∀C s0 H0 fp pn,JE (eM X scope (x::xr) cs C s0 H0 fp pn) elt ((sub (c.rF scope (x::xr) cs)).1 elt):=λC s0 H0 fp pn=>(hb _ _ (pI G (gx x bw) g2 nd C s0 H0 fp pn)).1 elt
       have hT:∀C s0 H0 fp pn,AQ (eM X scope (x::xr) cs C s0 H0 fp pn) ifs (zu (c.rF scope (x::xr) cs)):=λC s0 H0 fp pn=>hg _ _ (pI G (gx x bw) g2 nd C s0 H0 fp pn)
       exact⟨xj CS sl (G.free g2).2 (rD G h es kt pt iter) hE hT (dv g3),λi y py spos hN hi hl hf=>Fn i hN CS sl (G.free g2).2 (rD G h es kt pt iter) hE hT (dv g3) hi hl hf⟩
      ·rw[if_neg nd];exact⟨aB,dz⟩
    ·rw[if_neg g];exact⟨aB,dz⟩
 unfold VD
 split
 ·exact core _ _ _ _ _ λ_ _ _=>AR
 ·exact core _ _ _ _ _ λc X G'=>AS ((hb c X G').2 _)
 ·exact LD _ _ _ _ _ _ λ_ _ _=>AR
 ·exact LD _ _ _ _ _ _ λc X G'=>AS ((hb c X G').2 _)
 ·exact⟨aB,dz⟩
def vx(sc:Scope)(x1 x2 x3 y:Str):Bool:=LB sc.kind&& !sc.isCoroutine&& !sc.isGenerator&&sc.names.all (λp=>decide (p.2≠.cell))&&decide (sc.names.lookup x1=some .local)&&decide (sc.names.lookup x2=some .local)&&decide (sc.names.lookup x3=some .local)&&decide (sc.names.lookup y=some .free)&&decide ([x1,x2,x3,y].Nodup)
theorem C3{sc:Scope}{x1 x2 x3 y:Str}(h:vx sc x1 x2 x3 y=true)(hf:freeOf sc=[y]):A_ sc x1 x2 x3 y:=by
 unfold vx at h
 simp only[cO,decide_eq_true_eq,rJ,Bool.not_eq_true'] at h
 obtain⟨⟨⟨⟨⟨⟨⟨⟨h1,h2⟩,h3⟩,h4⟩,h5⟩,h6⟩,h7⟩,h8⟩,h9⟩:=h
 have hk:sc.kind= .function:=by
  revert h1
  cases sc.kind<;>intro z<;>first | rfl | cases z
 exact⟨hk,h2,h3,h4,h5,h6,h7,hf,h8,h9⟩
def Ct.LG(c:Ct)(N:List Str)(ns:List (Str×afz)):Ct:={ c with N:=N,names:=ns,fns:=c.fns.filter (λp=>c.Ih.contains p.1),wc:=[],loop:=false,top:=false,free:=true,uf:=[],lam:=none,vn:=[],dks:=[],self:="" }
theorem pJ{α:Type}{l:List (Str×α)}{q:Str->Bool}{x:Str}{a:α}(h:(l.filter λp=>q p.1).lookup x=some a):l.lookup x=some a/\q x=true:=by
 induction l with
 | nil=>cases h
 | cons p l ih=>
  obtain⟨y,b⟩:=p
  rw[cq]
  by_cases hq:q y=true
  ·rw[FA (by simpa using hq),cq] at h
   cases e:x == y with
   | true=>
    rw[e] at h
    cases h
    exact⟨rfl,by rw[eq_of_beq e];exact hq⟩
   | false=>rw[e] at h;exact ih h
  ·rw[yX (by simpa using hq)] at h
   obtain⟨h1,h2⟩:=ih h
   cases e:x == y with
   | true=>rw[eq_of_beq e] at h2;exact absurd h2 hq
   | false=>exact⟨h1,h2⟩
def OV(c:Ct)(sub:Ct->(Expr->GE)×(Expr->GT))(f:Expr->GE)(x:Str)(e:Expr)(x1 x2 x3:Str)(body:Expr)(scope:Scope):GE:=match freeOf scope,c.uf.lookup x with
 | [y],some FL=>(match jS y c.N with
  | some iy=>if okN x=true/\plain e=true/\c.names.lookup x=some .globalImplicit/\vx scope x1 x2 x3 y=true/\c.names.lookup y=some .cell/\c.top=true/\c.free=true/\aU.contains c.self=true then y6 FL iy (f e) ((sub (c.LG [x1,x2,x3,y] scope.names)).1 body) else bL
  | none=>bL)
 | _,_=>bL
theorem Kw{c:Ct}{k:Nat}(G:Good c k X){sub:Ct->(Expr->GE)×(Expr->GT)}(hb:∀k c X,Good c k X->(∀e,JE X e ((sub c).1 e))/\∀e,JT X e ((sub c).2 e)){f:Expr->GE}(h:∀e,JE X e (f e))(x:Str)(e:Expr)(x1 x2 x3:Str)(a1 a2 a3:Option Expr)(q1 q2 q3:Pos)(body:Expr)(scope:Scope)(p lQ pos:Pos) :
  JE X (.Call (.Name x p) [e,.Lambda (jm x1 x2 x3 a1 a2 a3 q1 q2 q3) body scope lQ] [] pos) (OV c sub f x e x1 x2 x3 body scope):=by
 unfold OV
 cases ef:freeOf scope with
 | nil=>exact aB
 | cons y r=>
  cases r with
  | cons z r=>exact aB
  | nil=>
   cases el:c.uf.lookup x with
   | none=>exact aB
   | some FL=>
    cases ei:jS y c.N with
    | none=>dsimp only;rw[ei];exact aB
    | some iy=>
     dsimp only
     rw[ei]
     dsimp only
     by_cases g:okN x=true/\plain e=true/\c.names.lookup x=some .globalImplicit/\vx scope x1 x2 x3 y=true/\c.names.lookup y=some .cell/\c.top=true/\c.free=true/\aU.contains c.self=true
     ·rw[if_pos g]
      obtain⟨g1,g2,g3,g4,g5,g6,g7,g8⟩:=g
      have S:=C3 g4 ef
      have hg:Gl X x:=by
       show X.env.scope.names.lookup x=_
       rw[G.sc];exact g3
      obtain⟨P,D⟩:=G.x.at' g6 (by simpa using g8)
      refine Ow (j:=c.lj) (P:=P) (G.x.uf x FL el) (G.free g7).1 hg (fi g1) (h e) D S (by rw[G.N];exact eO ei) (.inl (by rw[G.sc];exact g5)) (G.fn g6 y) (λbase pl cy A outer s H E M hr=>?_) (λr=>az g2)
      refine(hb c.lj (c.LG [x1,x2,x3,y] scope.names) (Ig X.prog X.w X.K X.mg base [x1,x2,x3,y] pl scope [(y,cy)] A outer s H E) ⟨rfl,rfl,S.nd,vo hr,λ_=>⟨hr,rfl⟩,(λz=>by cases z),G.cst,G.bl,λx n F h=>?_,(λz=>by cases z),(λz=>by cases z),S.kind,G.tab,G.cls,G.wb,G.xy,fR.of hr,(λx n F h=>by cases h),⟨(λp L z=>by cases z),(λx F z=>by cases z),λx n F h hx=>?_,(λz=>by cases z)⟩,⟨_,_,_,rfl,rfl,rfl⟩,.inl hr.hd⟩).1 body
      ·obtain⟨h1,h2⟩:=pJ (q:=λn=>c.Ih.contains n) h
       exact G.x.Ii x n F h1 h2 base M
      ·obtain⟨h1,h2⟩:=pJ (q:=λn=>c.Ih.contains n) h
       exact G.x.Ii x n F h1 h2
     ·rw[if_neg g];exact aB
def OW:Expr->Option (Str×Str×Str×Expr×Scope)
 | .Lambda a b s _=>if(a.posonlyargs.isEmpty&&a.vararg.isNone&&a.kwonlyargs.isEmpty&&a.kw_defaults.isEmpty&&a.kwarg.isNone&&a.defaults.isEmpty)=true then(match a.args with | [u,v,w]=>some (u.arg,v.arg,w.arg,b,s) | _=>none) else none
 | _=>none
theorem Kx{e:Expr}{x1 x2 x3:Str}{b:Expr}{s:Scope}(h:OW e=some (x1,x2,x3,b,s)):∃a1 a2 a3 q1 q2 q3 p,e= .Lambda (jm x1 x2 x3 a1 a2 a3 q1 q2 q3) b s p:=by
 cases e with
 | Lambda a b' s' p=>
  obtain⟨po,ar,va,ko,kd,kw,df⟩:=a
  cases po with
  | cons _ _=>cases h
  | nil=>cases va with
   | some _=>cases h
   | none=>cases ko with
    | cons _ _=>cases h
    | nil=>cases kd with
     | cons _ _=>cases h
     | nil=>cases kw with
      | some _=>cases h
      | none=>cases df with
       | cons _ _=>cases h
       | nil=>
        rcases ar with _ | ⟨⟨y1,a1,q1⟩,_ | ⟨⟨y2,a2,q2⟩,_ | ⟨⟨y3,a3,q3⟩,_ | ⟨_,_⟩⟩⟩⟩<;>cases h
        exact⟨a1,a2,a3,q1,q2,q3,p,rfl⟩
 | _=>cases h
def zv(c:Ct)(sub:Ct->(Expr->GE)×(Expr->GT))(fE:Expr->GE)(pos:Pos)(f:Expr)(as:List Expr)(ks:List Keyword):GE:=match as with
 | [e,l]=>(match OW l with
  | some (x1,x2,x3,body,scope)=>(match f with
   | .Name x _=>(match ks with
    | []=>OV c sub fE x e x1 x2 x3 body scope
    | _::_=>ug c fE pos f [e,l] ks)
   | _=>ug c fE pos f [e,l] ks)
  | none=>ug c fE pos f [e,l] ks)
 | _=>ug c fE pos f as ks
theorem C4{c:Ct}{k:Nat}(G:Good c k X){sub:Ct->(Expr->GE)×(Expr->GT)}(hb:∀k c X,Good c k X->(∀e,JE X e ((sub c).1 e))/\∀e,JT X e ((sub c).2 e)){fE:Expr->GE}(h:∀e,JE X e (fE e))(f:Expr)(as:List Expr)(ks:List Keyword)(pos:Pos):JE X (.Call f as ks pos) (zv c sub fE pos f as ks):=by
 have d:=Gi G h f as ks pos
 rcases as with _ | ⟨e,_ | ⟨l,_ | ⟨l2,r⟩⟩⟩
 ·exact d
 ·exact d
 ·unfold zv
  dsimp only
  cases hl:OW l with
  | none=>exact d
  | some q=>
   obtain⟨x1,x2,x3,b,s⟩:=q
   obtain⟨a1,a2,a3,q1,q2,q3,p,rfl⟩:=Kx hl
   dsimp only
   cases f with
   | Name x px=>
    cases ks with
    | nil=>exact Kw G hb h _ _ _ _ _ _ _ _ _ _ _ _ _ _ _ _
    | cons _ _=>exact d
   | _=>exact d
 ·exact d
def xF(c:Ct)(sub:Ct->(Expr->GE)×(Expr->GT))(f:Expr->GE)(t:Expr->GT):Expr->GE
 | .Name x _=>F_ c x
 | .Constant k _ _=>Ga k
 | .BinOp a o b _=>ai (Uj o) (f a) (f b)
 | .UnaryOp o a _=>unG f o a
 | .BoolOp .And es _=>OT f es
 | .BoolOp .Or es _=>Xr f es
 | .Compare a os bs _=>OR c f a os bs
 | .IfExp q a b _=>wH (t q) (f a) (f b)
 | .Tuple es _ _=>C0 f bz es
 | .List es _=>C0 f cH es
 | .Subscript a b _=>OS c f a b
 | .Dict [] [] _=>Lj
 | .Dict ks vs _=>Gq (Uk ks||Ul c ks) f ks vs
 | .Call g as ks p=>zv c sub f p g as ks
 | .ListComp elt gens scope _=>VD c sub f elt scope gens
 | _=>bL
def stepT(c:Ct)(f:Expr->GE)(t:Expr->GT):Expr->GT
 | .UnaryOp .Not a _=>B_ (t a)
 | .BoolOp .And es _=>OU t es
 | .BoolOp .Or es _=>Xs t es
 | .Compare a os bs _=>Gn c f a os bs
 | .Name x p=>lN (f (.Name x p))
 | .Call g as ks p=>lN (f (.Call g as ks p))
 | .Subscript a b p=>lN (f (.Subscript a b p))
 | .Constant k j p=>lN (f (.Constant k j p))
 | .BinOp a o b p=>lN (f (.BinOp a o b p))
 | _=>j8
theorem xG{c:Ct}{k:Nat}(G:Good c k X){sub:Ct->(Expr->GE)×(Expr->GT)}(hb:∀k c X,Good c k X->(∀e,JE X e ((sub c).1 e))/\∀e,JT X e ((sub c).2 e)){f:Expr->GE}{t:Expr->GT}(h:∀e,JE X e (f e))(ht:∀e,JT X e (t e))(e:Expr):JE X e (xF c sub f t e):=by
 have hu:X.A.units+64 < cLine:=G.un
 cases e with
 | Name x p=>exact F' G x p
 | Constant v j p=>exact CT v j p
 | BinOp a o b p=>exact Np (Km o) (h a) (h b)
 | UnaryOp o a p=>
  cases o with
  | USub=>exact Nq (h a)
  | Not=>exact Nw (h a)
  | _=>exact aB
 | BoolOp o es p=>
  cases o with
  | And=>exact Bo h p es
  | Or=>exact Gs h p es
 | Compare a os bs p=>exact Kr G h a os bs p
 | IfExp q a b p=>exact Sy (ht q) (h a) (h b)
 | Tuple es j p=>
  show JE X _ (C0 f bz es)
  unfold C0
  by_cases g:es.all plain=true
  ·rw[if_pos g];exact Nx (c9 h es g)
  ·rw[if_neg g];exact aB
 | List es p=>
  show JE X _ (C0 f cH es)
  unfold C0
  by_cases g:es.all plain=true
  ·rw[if_pos g];exact Ny (c9 h es g)
  ·rw[if_neg g];exact aB
 | Subscript a b p=>exact Ku G h a b p
 | Dict ks vs p=>
  cases ks with
  | cons k ks=>exact Bn (by have:=G.un;omega) _ h (k::ks) vs p
  | nil=>
   cases vs with
   | nil=>exact JN
   | cons v vs=>exact Bn (by have:=G.un;omega) (Uk []||Ul c []) h [] (v::vs) p
 | Call g as ks p=>exact C4 G hb h g as ks p
 | ListComp elt gens scope p=>exact(Bq G (hb k) h elt scope gens p).1
 | _=>exact aB
def C5:Expr->Bool
 | .ListComp .. =>true
 | .SetComp .. =>true
 | .DictComp .. =>true
 | .Set .. =>true
 | _=>false
theorem ql{e:Expr}{t:Option Expr}{n:Nat}{env:Env}(h:C5 e=false):swapsWith e t n env=pure false:=by
 cases e<;>first | rfl | cases h
theorem Gx{c:Ct}{k:Nat}(G:Good c k X){sub:Ct->(Expr->GE)×(Expr->GT)}(hb:∀k c X,Good c k X->(∀e,JE X e ((sub c).1 e))/\∀e,JT X e ((sub c).2 e)){f:Expr->GE}{t:Expr->GT}(h:∀e,JE X e (f e))(ht:∀e,JT X e (t e))(e:Expr):LC X e (xF c sub f t e):=by
 by_cases g:C5 e=false
 ·exact λi y py spos hN hi hl hf=>u5 i hN (xG G hb h ht e) hi hl (ql g) hf
 ·cases e with
  | ListComp elt gens scope p=>exact(Bq G (hb k) h elt scope gens p).2
  | SetComp=>exact dz
  | DictComp=>exact dz
  | Set=>exact dz
  | _=>exact absurd rfl g
theorem Gy{c:Ct}{k:Nat}(G:Good c k X){f:Expr->GE}{t:Expr->GT}(h:∀e,JE X e (f e))(ht:∀e,JT X e (t e))(e:Expr):JT X e (stepT c f t e):=by
 have hu:X.A.units+64 < cLine:=G.un
 cases e with
 | UnaryOp o a p=>
  cases o with
  | Not=>exact Nu (ht a)
  | _=>exact j9
 | BoolOp o es p=>
  cases o with
  | And=>exact(Bp ht p es).jt
  | Or=>exact(Gv ht p es).jt
 | Compare a os bs p=>exact Gp G h a os bs p
 | Name x p=>exact qO (h _) (λ_=>rfl)
 | Call g as ks p=>exact qO (h _) (λ_=>rfl)
 | Subscript a b p=>exact qO (h _) (λ_=>rfl)
 | Constant v j p=>exact qO (h _) (λ_=>rfl)
 | BinOp a o b p=>exact qO (h _) (λ_=>rfl)
 | _=>exact j9
end
def lX:Nat->Ct->(Expr->GE)×(Expr->GT)
 | 0,_=>(λ_=>bL,λ_=>j8)
 | n+1,c=>(xF c (lX n) (lX n c).1 (lX n c).2,stepT c (lX n c).1 (lX n c).2)
section
variable {X:Cx}
theorem dI:∀(n:Nat)(k:Nat)(c:Ct)(X:Cx),Good c k X->(∀e,JE X e ((lX n c).1 e))/\∀e,JT X e ((lX n c).2 e)
 | 0,_,_,_,_=>⟨λ_=>aB,λ_=>j9⟩
 | n+1,k,c,X,G=>⟨λe=>xG G (λk c X G=>dI n k c X G) (dI n k c X G).1 (dI n k c X G).2 e,λe=>Gy G (dI n k c X G).1 (dI n k c X G).2 e⟩
theorem Gz{k:Nat}:∀(n:Nat)(c:Ct)(X:Cx),Good c k X->∀e,LC X e ((lX n c).1 e)
 | 0,_,_,_,_=>dz
 | n+1,c,X,G,e=>Gx G (λk c X G=>dI n k c X G) (dI n k c X G).1 (dI n k c X G).2 e
def slot(c:Ct)(x:Str):Option Nat:=if c.names.lookup x=some .local\/(c.names.lookup x=some .cell/\c.top=true) then jS x c.N else none
def Br(c:Ct)(x:Str):Option Nat:=if c.names.lookup x=some .local then jS x c.N else none
theorem GB{c:Ct}{k:Nat}(G:Good c k X){x:Str}{i:Nat}(h:Br c x=some i):X.N[i]? =some x/\X.env.scope.names.lookup x=some .local:=by
 unfold Br at h
 by_cases e:c.names.lookup x=some .local
 ·rw[if_pos e] at h
  exact⟨by rw[G.N];exact eO h,by rw[G.sc];exact e⟩
 ·rw[if_neg e] at h;cases h
theorem vz{c:Ct}{k:Nat}(G:Good c k X){x:Str}{i:Nat}(h:slot c x=some i):X.N[i]? =some x/\(Loc X.env.scope x/\(X.fn x=true\/X.env.scope.names.lookup x=some .local)):=by
 unfold slot at h
 by_cases e:c.names.lookup x=some .local\/(c.names.lookup x=some .cell/\c.top=true)
 ·rw[if_pos e] at h
  refine⟨by rw[G.N];exact eO h,?_⟩
  rcases e with e | ⟨e,e2⟩
  ·have q:X.env.scope.names.lookup x=some .local:=by rw[G.sc];exact e
   exact⟨.inl q,.inr q⟩
  ·have q:X.env.scope.names.lookup x=some .cell:=by rw[G.sc];exact e
   exact⟨.inr q,.inl (G.fn e2 x)⟩
 ·rw[if_neg e] at h;cases h
def slots(c:Ct):List Expr->Option (List Nat)
 | []=>some []
 | .Name x _::es=>(match slot c x,slots c es with | some i,some is=>some (i::is) | _,_=>none)
 | _=>none
theorem nN{c:Ct}{k:Nat}(G:Good c k X):∀{es:List Expr}{is:List Nat},slots c es=some is->Slots X es is
 | [],is,h=>by cases h;exact .nil
 | e::es,is,h=>by
  cases e with
  | Name x p=>
   have h:(match slot c x,slots c es with | some i,some is=>some (i::is) | _,_=>none)=some is:=h
   cases e1:slot c x with
   | none=>rw[e1] at h;cases h
   | some i=>
    cases e2:slots c es with
    | none=>rw[e1,e2] at h;cases h
    | some js=>
     rw[e1,e2] at h
     cases h
     obtain⟨q1,q2⟩:=vz G e1
     exact .cons q1 q2 (nN G e2)
  | _=>cases h
def OX:Expr->Bool
 | .Dict [] [] _=>true
 | _=>false
def OY(c:Ct)(f:Expr->GE)(v:Expr):List Expr->GS
 | [.Name x _]=>(match slot c x with | some i=>if OX v=true/\c.vn.contains x=true then aX i tX else aX i (f v) | none=>b_)
 | [.Subscript o i _]=>if C5 v=false/\CZ i=false then(if Kt c o=true then tY (f v) (f o) (f i) else AH (f v) (f o) (f i)) else b_
 | _=>b_
theorem OZ{c:Ct}{k:Nat}(G:Good c k X){f:Expr->GE}(h:∀e,JE X e (f e))(ha:∀e,LC X e (f e))(v:Expr)(ts:List Expr)(pos:Pos):JS X (.Assign ts v pos) (OY c f v ts):=by
 unfold OY
 split
 ·rename_i x p
  cases e:slot c x with
  | none=>exact bE
  | some i=>
   obtain⟨e1,e2⟩:=vz G e
   dsimp only
   by_cases g:OX v=true/\c.vn.contains x=true
   ·rw[if_pos g]
    have gv:=g.1
    unfold OX at gv
    split at gv
    ·exact u5 i (by rw[G.N];exact G.nd) JM e1 e2.1 rfl e2.2
    ·cases gv
   ·rw[if_neg g];exact ha v i x _ _ (by rw[G.N];exact G.nd) e1 e2.1 e2.2
 ·rename_i o i p
  by_cases g:C5 v=false/\CZ i=false
  ·rw[if_pos g]
   have g2:=g.2
   by_cases gd:Kt c o=true
   ·rw[if_pos gd];exact JQ (by have:=G.un;omega) (h v) (h o) (h i) (ql g.1)
   rw[if_neg gd]
   refine Jq (h v) (h o) (h i) (by unfold swapsWithSole;exact ql g.1) ?_ rfl ?_
   ·cases v<;>rfl
   ·intro _
    cases i<;>first | rfl | cases g2
  ·rw[if_neg g];exact bE
 ·exact bE
def O0(c:Ct)(f:Expr->GE)(i:Nat)(gb:GS):Expr->GS
 | .Call (.Name x p) [a] [] q=>if dy c x=true then(if plain a=true then oq i (gS f [a]) gb else b_) else pP i (f (.Call (.Name x p) [a] [] q)) gb
 | .Call (.Name x p) [a,b] [] q=>if dy c x=true then(if plain a=true/\plain b=true then u7 i (gS f [a,b]) gb else b_) else pP i (f (.Call (.Name x p) [a,b] [] q)) gb
 | .Call (.Name x p) [a,b,d] [] q=>if dy c x=true then(if[a,b,d].all plain=true then rp i (gS f [a,b,d]) gb else b_) else pP i (f (.Call (.Name x p) [a,b,d] [] q)) gb
 | e=>if isSet e=false then pP i (f e) gb else b_
theorem O4{c:Ct}{k:Nat}(G:Good c k X)(hl:c.loop=true){f:Expr->GE}(h:∀e,JE X e (f e)){x:Str}{i:Nat}(hx:slot c x=some i){body:List Stmt}{gb:GS}(hb:lT X body gb)(e:Expr)(pos pos':Pos):JS X (.For (.Name x pos') e body [] pos) (O0 c f i gb e):=by
 have nd:X.N.Nodup:=by rw[G.N];exact G.nd
 obtain⟨e1,e2⟩:=vz G hx
 have rg:=nM G
 unfold O0
 split
 ·rename_i y p a q
  by_cases g:dy c y=true
  ·rw[if_pos g]
   obtain⟨rfl,g2,g3⟩:=rg y g
   by_cases ga:plain a=true
   ·rw[if_pos ga]
    exact EI i nd (G.loop hl).2 (G.loop hl).1 g2 g3 (c9 h [a] (by simp[ga])) hb e1 e2.1 e2.2 (az ga)
   ·rw[if_neg ga];exact bE
  ·rw[if_neg g];exact u6 i nd (G.loop hl).2 (G.loop hl).1 (h _) hb e1 e2.1 e2.2 (dv rfl)
 ·rename_i y p a b q
  by_cases g:dy c y=true
  ·rw[if_pos g]
   obtain⟨rfl,g2,g3⟩:=rg y g
   by_cases ga:plain a=true/\plain b=true
   ·rw[if_pos ga]
    exact EJ i nd (G.loop hl).2 (G.loop hl).1 g2 g3 (c9 h [a,b] (by simp[ga])) hb e1 e2.1 e2.2 (by rw[az ga.1,az ga.2];rfl) (by rw[az ga.2];rfl)
   ·rw[if_neg ga];exact bE
  ·rw[if_neg g];exact u6 i nd (G.loop hl).2 (G.loop hl).1 (h _) hb e1 e2.1 e2.2 (dv rfl)
 ·rename_i y p a b d q
  by_cases g:dy c y=true
  ·rw[if_pos g]
   obtain⟨rfl,g2,g3⟩:=rg y g
   by_cases ga:[a,b,d].all plain=true
   ·rw[if_pos ga]
    have gp:plain a=true/\[b,d].all plain=true:=by rw[eI,cO] at ga;exact ga
    exact FR i nd (G.loop hl).2 (G.loop hl).1 g2 g3 (c9 h [a,b,d] ga) hb e1 e2.1 e2.2 (az gp.1) (cX gp.2)
   ·rw[if_neg ga];exact bE
  ·rw[if_neg g];exact u6 i nd (G.loop hl).2 (G.loop hl).1 (h _) hb e1 e2.1 e2.2 (dv rfl)
 ·by_cases g:isSet e=false
  ·rw[if_pos g];exact u6 i nd (G.loop hl).2 (G.loop hl).1 (h _) hb e1 e2.1 e2.2 (dv g)
  ·rw[if_neg g];exact bE
def zw(c:Ct)(f:Expr->GE):Expr->GS
 | .Call (.Name x _) (e::es) [] _=>if okN x=true/\(e::es).all plain=true/\c.names.lookup x=some .globalImplicit/\c.clss.contains x=true/\c.free=true then ou x (gS f (e::es)) else b_
 | _=>b_
theorem GC{c:Ct}{k:Nat}(G:Good c k X){f:Expr->GE}(h:∀e,JE X e (f e))(e:Expr)(pos:Pos):JS X (.Raise (some e) none pos) (zw c f e):=by
 unfold zw
 split
 ·rename_i x p e es q
  by_cases g:okN x=true/\(e::es).all plain=true/\c.names.lookup x=some .globalImplicit/\c.clss.contains x=true/\c.free=true
  ·rw[if_pos g]
   obtain⟨g1,g2,g3,g4,g5⟩:=g
   have hg:Gl X x:=by
    show X.env.scope.names.lookup x=_
    rw[G.sc];exact g3
   have gp:plain e=true/\es.all plain=true:=by rw[eI,cO] at g2;exact g2
   obtain⟨C,q1,q2⟩:=G.cls x g4
   exact EL (G.free g5).2 q2 hg q1 (c9 h (e::es) g2) (fi g1) (az gp.1) (cX gp.2)
  ·rw[if_neg g];exact bE
 ·exact bE
def O5(c:Ct)(b:Ct->List Stmt->GS)(body:List Stmt):List ExceptHandler->GS
 | [.ExceptHandler (some (.Name x _)) (some n) (b0::suite) _]=>if okN x=true/\c.names.lookup x=some .globalImplicit/\c.clss.contains x=true/\c.free=true/\c.top=true then
   (match Br c n with
   | some i=>Cm (λy=>c.tc.lookup (y,x)) i (b c.Ly body) (b c.vp (b0::suite))
   | none=>b_) else b_
 | _=>b_
theorem O6{c:Ct}{k:Nat}(G:Good c k X){b:Ct->List Stmt->GS}(hb:∀c X,Good c k X->∀s,lT X s (b c s))(body:List Stmt)(hs:List ExceptHandler)(pos:Pos):JS X (.Try body hs [] [] pos) (O5 c b body hs):=by
 unfold O5
 split
 ·rename_i x p n b0 suite q
  by_cases g:okN x=true/\c.names.lookup x=some .globalImplicit/\c.clss.contains x=true/\c.free=true/\c.top=true
  ·rw[if_pos g]
   obtain⟨g1,g3,g4,g5,g6⟩:=g
   have hg:Gl X x:=by
    show X.env.scope.names.lookup x=_
    rw[G.sc];exact g3
   obtain⟨D,q1,q2⟩:=G.cls x g4
   cases e1:Br c n with
   | none=>exact bE
   | some i=>
    obtain⟨e2,e3⟩:=GB G e1
    exact NU (G.stk g6) (by rw[G.N];exact G.nd) e2 e3 (G.free g5).2 G.tab hg q1 q2.cls (fi g1) (λpn E=>hb _ _ (G.body g5 pn E) _) λa o u pn E nx=>hb _ _ (G.suite nx pn E) _
  ·rw[if_neg g];exact bE
 ·exact bE
def Ky(c:Ct):Expr->Bool
 | .Call (.Name x _) [a,b] [] _=>Gw c x&&[a,b].all plain
 | _=>false
def LH(f:Expr->GE)(is:List Nat)(gb:GS):Expr->GS
 | .Call (.Name _ _) [a,b] [] _=>Bh is (gS f [a,b]) gb
 | _=>b_
theorem Um{c:Ct}{k:Nat}(G:Good c k X)(gl:c.loop=true){f:Expr->GE}(h:∀e,JE X e (f e)){es:List Expr}{is:List Nat}(e1:slots c es=some is){body:List Stmt}{gb:GS}(hb:lT X body gb)(e:Expr)(hs:∀x,afK e X.env x=pure x)(g:Ky c e=true){kk:Nat}{p q:Pos}:JS X (.For (.Tuple es kk p) e body [] q) (LH f is gb e):=by
 unfold Ky at g
 split at g
 ·rename_i x p1 a b cpos
  rw[cO] at g
  obtain⟨g1,g2⟩:=g
  obtain⟨rfl,g3,g4⟩:=Lz G x g1
  have gp:plain a=true/\[b].all plain=true:=by rw[eI,cO] at g2;exact g2
  exact Kj (by rw[G.N];exact G.nd) (G.loop gl).2 (G.loop gl).1 (nN G e1) g3 g4 (c9 h [a,b] g2) (az gp.1) (cX gp.2) hb hs
 ·cases g
def GD(c:Ct)(f:Expr->GE)(t:Expr->GT)(b:Ct->List Stmt->GS):Stmt->GS
 | .Return (some e) _=>bj (f e)
 | .Return none _=>bj (gC .bO)
 | .Expr e _=>if C5 e=false then AG (f e) else b_
 | .If q x y _=>mf (t q) (b c x) (b c y)
 | .Assign ts v _=>OY c f v ts
 | .For (.Name x _) e body [] _=>if c.loop=true then(match slot c x with | some i=>O0 c f i (b c body) e | none=>b_) else b_
 | .For (.Tuple es _ _) e body [] _=>if c.loop=true/\isSet e=false then(match slots c es with | some is=>(if Ky c e=true then LH f is (b c body) e else if LA c e=true then Ll is (vw c f e) (b c body) else Li is (f e) (b c body)) | none=>b_) else b_
 | .Raise (some e) none _=>zw c f e
 | .Try body hs [] [] _=>O5 c b body hs
 | .Pass _=>bQ
 | _=>b_
theorem GF{c:Ct}{k:Nat}(G:Good c k X){f:Expr->GE}{t:Expr->GT}{b:Ct->List Stmt->GS}(h:∀e,JE X e (f e))(ha:∀e,LC X e (f e))(ht:∀e,JT X e (t e))(hb:∀c X,Good c k X->∀s,lT X s (b c s))(s:Stmt):JS X s (GD c f t b s):=by
 unfold GD
 split
 ·exact NI (h _)
 ·exact Jv
 ·rename_i e p
  by_cases g:C5 e=false
  ·rw[if_pos g];exact Jp (h _) (ql g)
  ·rw[if_neg g];exact bE
 ·exact S8 (ht _) (hb c X G _) (hb c X G _)
 ·exact OZ G h ha _ _ _
 ·rename_i x p e body q
  by_cases g:c.loop=true
  ·rw[if_pos g]
   cases e1:slot c x with
   | none=>exact bE
   | some i=>exact O4 G g h e1 (hb c X G body) e _ _
  ·rw[if_neg g];exact bE
 ·rename_i es kk p e body q
  by_cases g:c.loop=true/\isSet e=false
  ·rw[if_pos g]
   cases e1:slots c es with
   | none=>exact bE
   | some is=>
    dsimp only
    by_cases gz:Ky c e=true
    ·rw[if_pos gz];exact Um G g.1 h e1 (hb c X G body) e (dv g.2) gz
    rw[if_neg gz]
    by_cases ge:LA c e=true
    ·rw[if_pos ge];exact JV (by rw[G.N];exact G.nd) (G.loop g.1).2 (G.loop g.1).1 (nN G e1) (rD G h es kk p e) (hb c X G body) (dv g.2)
    ·rw[if_neg ge]
     exact Jy (by rw[G.N];exact G.nd) (G.loop g.1).2 (G.loop g.1).1 (nN G e1) (h e) (hb c X G body) (dv g.2)
  ·rw[if_neg g];exact bE
 ·exact GC G h _ _
 ·exact O6 G hb _ _ _
 ·exact Jo
 ·exact bE
end
def zx(f:Stmt->GS):List Stmt->GS
 | []=>bQ
 | [s]=>f s
 | s::s'::r=>aG (f s) (zx f (s'::r))
theorem xH{X:Cx}{f:Stmt->GS}(h:∀s,JS X s (f s)):∀ss,lT X ss (zx f ss)
 | []=>Jm
 | [s]=>Jn (h s)
 | s::s'::r=>Ew (h s) (xH h (s'::r))
def a_:Nat->Ct->List Stmt->GS
 | 0,_=>λ_=>b_
 | n+1,c=>zx (GD c (lX 40 c).1 (lX 40 c).2 (a_ n))
theorem nO{k:Nat}:∀(n:Nat)(c:Ct)(X:Cx),Good c k X->∀ss:List Stmt,lT X ss (a_ n c ss)
 | 0,_,_,_,_=>Cc
 | n+1,c,X,G,ss=>xH (λs=>GF G (dI 40 k c X G).1 (Gz 40 c X G) (dI 40 k c X G).2 (nO n) s) ss
structure xI(K:PySem.W.Frag)(mg:Str->Option afC)(q:Str)(P:afw):Prop where
 tab:bH K q=some P
 code:∃c o vs file tf flags tg Rm text tt,PySem.W.tabIn K q=some (c,P)/\K.lookup c=some o/\o.cls= .type "code"/\o.data= .fields vs/\vs[11]? =some (.ref P)/\vs.getD 11 .none= .ref P/\vs.getD 18 .none= .str file tf/\
  vs.getD 7 .none= .int flags tg/\vs.getD 9 .none= .bool Rm/\vs.getD 10 .none= .int text tt/\c≠P
 mem:q∈aU
 uniq:∀q',q'∈aU->bH K q'=some P->q'=q
theorem xI.at'{X:Cx}{q:Str}{P f:afw}{cdv:afC}(h:xI X.K X.mg q P)(M:jR X.K X.mg X.base)(hn:PySem.W.nsIn X.K afM q=some (some (.ref f)))(hc:EA X.K f cdv)(e1:X.env.code=cdv)(e2:X.env.qual=q++".<locals>."):Ba X q P:=by
 obtain⟨c,o,vs,file,tf,flags,tg,Rm,text,tt,t,l,r⟩:=h.code
 refine⟨⟨c,?_,o,vs,file,tf,flags,tg,Rm,text,tt,M.1.Iq _ _ l,r⟩,e2,h.tab,h.mem,h.uniq,M.2⟩
 ·obtain⟨of,lf,fd,d,cd⟩:=hc
  rw[e1,<-cd]
  unfold PySem.W.tabIn at t
  rw[hn] at t
  dsimp only at t
  rw[lf] at t
  obtain⟨oc,od,da,sl⟩:=of
  dsimp only at d
  subst d
  dsimp only at t
  cases q1:fd.code with
  | ref c2=>
   rw[q1] at t
   dsimp only at t
   split at t
   ·split at t
    ·cases t;rfl
    ·cases t
   ·cases t
  | _=>rw[q1] at t;cases t
structure vA(c:Ct)(k:Nat)(P:afA)(w:afD)(K:PySem.W.Frag)(mg:Str->Option afC)(base:Heap):Prop where
 lam:∀p L,c.lam=some (p,L)->rb P w K mg base k p 3 L
 uf:∀x F,c.uf.lookup x=some F->Vu P w K mg k c.lj x F
 Ii:∀x n F,c.fns.lookup x=some (n,F)->c.Ih.contains x=true->∀base,jR K mg base->tP P w K mg base c.lj x n F
 at':c.self∈aU->∃P,xI K mg c.self P
theorem vA.no{c:Ct}{k:Nat}{P:afA}{w:afD}{K:PySem.W.Frag}{mg:Str->Option afC}{base:Heap}(h1:c.lam=none)(h2:c.uf=[])(h3:c.Ih=[])(h4:c.self=""):vA c k P w K mg base :=
 ⟨(λp L e=>by rw[h1] at e;cases e),(λx F e=>by rw[h2] at e;cases e),(λx n F _ e=>by rw[h3] at e;cases e),(λe=>by rw[h4] at e;exact absurd e (by decide))⟩
structure uj(c:Ct)(k:Nat)(P:afA)(w:afD)(K:PySem.W.Frag)(mg:Str->Option afC)(base:Heap):Prop where
 cst:∀x w,c.consts.lookup x=some w->Bj K mg x w
 bl:∀x,c.bl.contains x=true->mg x=none
 fns:∀x n F,c.fns.lookup x=some (n,F)->tP P w K mg base k x n F
 tab:TabOk K c.tb c.tt c.tc
 cls:∀x,c.clss.contains x=true->∃C,mg x=some (.ref C)/\EK K x C
 wb:∀x,c.wb.contains x=true->∃C,mg x=some (.ref C)/\ClsAt K x C
 xy:∀x kvs,c.xy.lookup x=some kvs->xf K w mg x kvs
 wc:∀x n F,c.wc.contains x=true->c.fns.lookup x=some (n,F)->vi P w K mg base k x n F
 x:vA c k P w K mg base
theorem Kz{P:afA}{w:afD}{K:PySem.W.Frag}{mg:Str->Option afC}{base:Heap}{h:Heap}{k:Nat}{c:Ct}{x:Str}{st:Stmt}{ps:List Str}{g:GS}(KX:K.In h)(NS:h.Ns afM mg)(D:bq K x st)(T:uj c k P w K mg base)
  (S:FnScope c.N ps (defScope st))(hn:(defScope st).names=c.names)(hg:a_ 30 c (defBody st)=g)
  (hb:∀(kV doc pm:afC)(an:Option afw)(cdv ct:afC)(us:List afC),us.length=ps.length->bindArgs (PySem.W.fnOf x x (defArgs st) (defBody st) (defScope st) .none kV doc pm an cdv ct) ⟨us,[]⟩=pure (ps.zip us))(hM:c.self∈aU->jR K mg base/\c.self=x:=by exact λz=>absurd (show("":Str)∈aU from z) (by decide)) :
  tP P w K mg base (k+1) x ps.length (cg c.N.length g):=by
 obtain⟨f,fd,a,F⟩:=D
 refine⟨f,fd,ps,?_,PySem.W.mg_of KX NS a,F.kp,F.binds hb⟩
 subst hg
 refine Lg F S λcdv Xv A outer s H E hr=>?_
 refine nO (k:=k) 30 c _ ⟨rfl,hn,S.nd,vo hr,λ_=>⟨hr,rfl⟩,λ_=>⟨rfl,KA⟩,T.cst,T.bl,T.fns,λ_=>⟨rfl,rfl,rfl⟩,λ_ _=>rfl,S.kind,T.tab,T.cls,T.wb,T.xy,fR.of hr,T.wc,⟨T.x.lam,T.x.uf,T.x.Ii,λ_ z=>?_⟩,⟨_,_,_,rfl,rfl,rfl⟩,.inl hr.hd⟩ _
 obtain⟨P',L⟩:=T.x.at' z
 obtain⟨M,e⟩:=hM z
 exact⟨P',xI.at' L M (by rw[e];exact a) Xv rfl (by rw[e];rfl)⟩
theorem GG{P:afA}{w:afD}{K:PySem.W.Frag}{mg:Str->Option afC}{base:Heap}{h:Heap}{k:Nat}{c:Ct}{x:Str}{st:Stmt}{ps:List Str}{g:GS}(KX:K.In h)(NS:h.Ns afM mg)(D:bq K x st)(T:uj c k P w K mg base)
  (S:FnScope c.N ps (defScope st))(hn:(defScope st).names=c.names)(hg:a_ 30 c.un (defBody st)=g)
  (hb:∀(kV doc pm:afC)(an:Option afw)(cdv ct:afC)(us:List afC),us.length=ps.length->bindArgs (PySem.W.fnOf x x (defArgs st) (defBody st) (defScope st) .none kV doc pm an cdv ct) ⟨us,[]⟩=pure (ps.zip us))(hs:c.self∉aU:=by exact(show("":Str)∉aU by decide)) :
  vi P w K mg base (k+1) x ps.length (cg c.N.length g):=by
 obtain⟨f,fd,a,F⟩:=D
 refine⟨f,fd,ps,?_,PySem.W.mg_of KX NS a,F.kp,F.binds hb⟩
 subst hg
 refine Xd F S λcdv A outer s H E hr hz=>?_
 exact nO (k:=k) 30 c.un (JR P w K mg base c.N x (defScope st) f cdv A outer s H E) ⟨rfl,hn,S.nd,hr.u64,(λz=>by cases z),(λz=>by cases z),T.cst,T.bl,T.fns,λ_=>⟨rfl,rfl,rfl⟩,λ_ _=>rfl,S.kind,T.tab,T.cls,T.wb,T.xy,hr,T.wc,⟨T.x.lam,T.x.uf,T.x.Ii,λ_ z=>absurd z hs⟩,⟨_,_,_,rfl,rfl,rfl⟩,hz⟩ _
theorem O7{P:afA}{w:afD}{K:PySem.W.Frag}{mg:Str->Option afC}{base:Heap}{k:Nat}{c:Ct}{x:Str}{st:Stmt}{ps:List Str}{g:GS}{f:afw}{fd:afy}(F:K6 K x x st f fd)(T:uj c k P w K mg base)
  (S:FnScope c.N ps (defScope st))(hn:(defScope st).names=c.names)(hg:a_ 30 c (defBody st)=g)(hs:c.self∉aU:=by exact(show("":Str)∉aU by decide)):FnOk P w K mg base (CXJ P w) (k+1) f fd ps (spW K ps.length (cg c.N.length g)):=by
 subst hg
 refine Lg F S λcdv _ A outer s H E hr=>?_
 exact nO (k:=k) 30 c _ ⟨rfl,hn,S.nd,vo hr,λ_=>⟨hr,rfl⟩,λ_=>⟨rfl,KA⟩,T.cst,T.bl,T.fns,λ_=>⟨rfl,rfl,rfl⟩,λ_ _=>rfl,S.kind,T.tab,T.cls,T.wb,T.xy,fR.of hr,T.wc,⟨T.x.lam,T.x.uf,T.x.Ii,λ_ z=>absurd z hs⟩,⟨_,_,_,rfl,rfl,rfl⟩,.inl hr.hd⟩ _
def AllP{α:Type}(P:α->Prop):List α->Prop
 | []=>True
 | a::l=>P a/\AllP P l
theorem AllP.look{κ β:Type}[BEq κ][LawfulBEq κ]{P:κ×β->Prop}:∀{l:List (κ×β)}{x:κ}{b:β},AllP P l->l.lookup x=some b->P (x,b)
 | [],_,_,_,h=>by cases h
 | (y,c)::l,x,b,a,h=>by
  rw[cq] at h
  cases e:x == y with
  | true=>
   rw[e] at h
   cases h
   have e':=eq_of_beq e
   subst e'
   exact a.1
  | false=>rw[e] at h;exact AllP.look a.2 h
theorem AllP.mem{P:Str->Prop}:∀{l:List Str}{x:Str},AllP P l->l.contains x=true->P x
 | [],_,_,h=>by cases h
 | y::l,x,a,h=>by
  rw[yM,Eu] at h
  rcases h with e | h
  ·have e':=eq_of_beq e
   subst e'
   exact a.1
  ·exact AllP.mem a.2 h
theorem nP{K:PySem.W.Frag}{c:PySem.Str}{C D:afw}(h:ClsAt K c C)(k:ClsAt K c D):C=D:=by
 unfold ClsAt at h k
 rw[h] at k
 cases k
 rfl
theorem O8{K:PySem.W.Frag}{tb:Tab}{tt:wV}{tc:Tab}(h:AllP (λp=>∃C D,ClsAt K p.1.1 C/\ClsAt K p.1.2 D/\lO K C/\PySem.W.kitOne K (.ref C) (.ref D)=some p.2) tb)
  (g:AllP (λp=>∃C,ClsAt K p.1.1 C/\lO K C/\PySem.W.kitOne K (.ref C) (.type p.1.2)=some p.2) tt)
  (f:AllP (λp=>∃C D,ClsAt K p.1.1 C/\ClsAt K p.1.2 D/\PySem.W.excIn K C yK yL=true/\PySem.W.excIn K D yK yL=true/\PySem.W.mroIn K C (.ref D)=some p.2) tc):TabOk K tb tt tc :=
 ⟨λc d b C D e hC hD=>by
  obtain⟨C',D',q1,q2,r⟩:=AllP.look h e
  cases nP hC q1
  cases nP hD q2
  exact r,λc d b C D e hC hD=>by
  obtain⟨C',D',q1,q2,r⟩:=AllP.look f e
  cases nP hC q1
  cases nP hD q2
  exact r,λc T b C e hC=>by
  obtain⟨C',q1,r⟩:=AllP.look g e
  cases nP hC q1
  exact r⟩
theorem rK{c:Ct}{k:Nat}{P:afA}{w:afD}{K:PySem.W.Frag}{mg:Str->Option afC}{base:Heap}(hc:AllP (λp=>Bj K mg p.1 p.2) c.consts)(hb:AllP (λx=>mg x=none) c.bl)(hf:AllP (λp=>tP P w K mg base k p.1 p.2.1 p.2.2) c.fns)
  (ht:TabOk K c.tb c.tt c.tc)(hk:AllP (λx=>∃C,mg x=some (.ref C)/\EK K x C) c.clss)(hn:AllP (λx=>∃C,mg x=some (.ref C)/\ClsAt K x C) c.wb)(hd:AllP (λp=>xf K w mg p.1 p.2) c.xy)
  (hu:AllP (λx=>∀n F,c.fns.lookup x=some (n,F)->vi P w K mg base k x n F) c.wc:=by exact trivial)(hx:vA c k P w K mg base:=by exact vA.no rfl rfl rfl rfl):uj c k P w K mg base :=
 ⟨λ_ _ h=>hc.look h,λ_ h=>hb.mem h,λx n F h=>hf.look (b:=(n,F)) h,ht,λ_ h=>hk.mem h,λ_ h=>hn.mem h,λx kvs h=>hd.look (b:=kvs) h,λx n F h k=>hu.mem h n F k,hx⟩
def fo(K:PySem.W.Frag):List afw:=aU.filterMap (bH K)
def Bs(K:PySem.W.Frag)(ts:List afw):Prop:=∀q P,q∈aU->bH K q=some P->P∈ts/\∃c o vs,K.lookup c=some o/\o.cls= .type "code"/\o.data= .fields vs/\vs[11]? =some (.ref P)
theorem rL{K:PySem.W.Frag}{P:afw}(h:P∈fo K):∃q,q∈aU/\bH K q=some P:=by
 unfold fo at h
 obtain⟨q,hq,e⟩:=List.mem_filterMap.mp h
 exact⟨q,hq,e⟩
theorem C6{K:PySem.W.Frag}{q:Str}{P:afw}(h:bH K q=some P):K.lookup P=none/\∃c,PySem.W.tabIn K q=some (c,P):=by
 unfold bH at h
 cases t:PySem.W.tabIn K q with
 | none=>rw[t] at h;cases h
 | some cp=>
  obtain⟨c,P'⟩:=cp
  rw[t] at h
  dsimp only at h
  split at h
  ·rename_i z;cases h;exact⟨by simpa using z,c,rfl⟩
  ·cases h
theorem vB{K:PySem.W.Frag}{q:Str}{c P:afw}(t:PySem.W.tabIn K q=some (c,P))(h:K.lookup P=none):bH K q=some P:=by
 unfold bH
 rw[t]
 dsimp only
 rw[h]
 rfl
theorem Bt{K:PySem.W.Frag}{mg:Str->Option afC}{q:Str}{c P:afw}{o:Obj}{vs:Array afC}{file:Str}{tf tg tt:Tok}{flags text:Int}{Rm:Bool}(hq:q∈aU)(ht:PySem.W.tabIn K q=some (c,P))(hn:K.lookup P=none)(hc:K.lookup c=some o)(h1:o.cls= .type "code")(h2:o.data= .fields vs)
  (h3:vs[11]? =some (.ref P))(h4:vs.getD 11 .none= .ref P)(h5:vs.getD 18 .none= .str file tf)(h6:vs.getD 7 .none= .int flags tg)(h7:vs.getD 9 .none= .bool Rm)(h8:vs.getD 10 .none= .int text tt)(hne:c≠P)
  (hu:∀q',q'∈aU->bH K q'=some P->q'=q):xI K mg q P :=
 ⟨vB ht hn,⟨c,o,vs,file,tf,flags,tg,Rm,text,tt,ht,hc,h1,h2,h3,h4,h5,h6,h7,h8,hne⟩,hq,hu⟩
theorem GH{P:afA}{w:afD}{K:PySem.W.Frag}{mg:Str->Option afC}{h:Heap}{k:Nat}{F:List Wv->Hs->Re Wv}{fa:afw}{st:Stmt}(KX:K.In h)(NS:h.Ns afM mg)(hmg:mg "law"=some (.ref fa))(D:bq K "law" st)
  (hp:∀(kV doc pm:afC)(an:Option afw)(cdv ct:afC)(s:afB)(u:afC),BindsTo s (PySem.W.fnOf "law" "law" (defArgs st) (defBody st) (defScope st) .none kV doc pm an cdv ct) ⟨[u],[]⟩ [("script",u)])
  (FN:∀(f:afw)(fd:afy),K6 K "law" "law" st f fd->∀base:Heap,jR K mg base->FnOk P w K mg base (CXJ P w) k f fd ["script"] (spW K 1 F)) :
  ∃fd:afy,(∀(s:afB)(u:afC),BindsTo s fd ⟨[u],[]⟩ [("script",u)])/\∀base:Heap,jR K mg base->FnOk P w K mg base (CXJ P w) k fa fd ["script"] (spW K 1 F):=by
 obtain⟨f,fd,a,Fu⟩:=D
 have e:=hmg.symm.trans (PySem.W.mg_of KX NS a)
 cases e
 refine⟨fd,λs u=>?_,FN fa fd Fu⟩
 obtain⟨oc,od,kV,doc,pm,an,cdv,ct,osl,rfl,lk,hcd⟩:=Fu.ex
 exact hp kV doc pm an cdv ct s u
theorem rb.mono{P:afA}{w:afD}{K:PySem.W.Frag}{mg:Str->Option afC}{base:Heap}{j k:Nat}{p:Lm}{n:Nat}{L:LF}(h:rb P w K mg base j p n L)(l:j<=k):rb P w K mg base k p n L:=by
 obtain⟨fd,ps,ob,G,r⟩:=h
 exact⟨fd,ps,ob,G.mono l,r⟩
theorem Bu{c:Ct}{k:Nat}{P:afA}{w:afD}{K:PySem.W.Frag}{mg:Str->Option afC}{base:Heap}(hl:c.lam=none)(hf:AllP (λq=>Vu P w K mg k c.lj q.1 q.2) c.uf)
  (hj:AllP (λx=>∀n F,c.fns.lookup x=some (n,F)->∀base,jR K mg base->tP P w K mg base c.lj x n F) c.Ih)(ha:c.self∈aU->∃P,xI K mg c.self P):vA c k P w K mg base :=
 ⟨(λp L e=>by rw[hl] at e;cases e),λx F e=>hf.look (b:=F) e,λx n F e h=>hj.mem h n F e,ha⟩
theorem GJ{c:Ct}{k:Nat}{P:afA}{w:afD}{K:PySem.W.Frag}{mg:Str->Option afC}{base:Heap}{p:Lm}{L:LF}(hl:c.lam=some (p,L))(H:rb P w K mg base k p 3 L)(h2:c.uf=[])(h3:c.Ih=[])(h4:c.self=""):vA c k P w K mg base :=
 ⟨(λp' L' e=>by rw[hl] at e;cases e;exact H),(λx F e=>by rw[h2] at e;cases e),(λx n F _ e=>by rw[h3] at e;cases e),(λe=>by rw[h4] at e;exact absurd e (by decide))⟩
theorem C7{P:afA}{w:afD}{K:PySem.W.Frag}{mg mb:Str->Option afC}{CX:Du}{k:Nat}{fa a:afw}{fd:afy}{x:Str}{sp:Sp}{s₁:afB}{vs:List afC}{ns:List Int}{ts:List afw}
  (KX:K.In s₁.heap)(T:Bs K ts)(TH:∀P∈ts,s₁.heap.get? P=some (PySem.W.tabObj #[]))(hbm:J1 mg s₁.heap)(hns:s₁.heap.Ns afM mg)(hb:s₁.heap.Ns builtinsNs mb)(hbb:∀x:Str,x≠"__name__"->mb x=afG x)(hlim:s₁.heap.NoLimit)(hg:s₁.gens=#[])
  (ha:s₁.heap.get? a=some { cls:=.type "list",data:=.seq vs.toArray })(hi:IntsAre vs ns)(hl:ns.length<=afN)(hr:iE k callerA)
  (F:∀base:Heap,jR K mg base->FnOk P w K mg base CX k fa fd [x] sp)(hbind:∀(s:afB)(u:afC),BindsTo s fd ⟨[u],[]⟩ [(x,u)])
  (DQ:∀H:Hp,AI H->jT K H a (ns.map V.int)->md K H->sp [.ref a] H (λv _=>v= .bl true) λ_ _ _=>False)
  (Xw:∀H e s',CX [] H s₁ (λ_ _ _=>False) e s'->False) :
  afH (model P w) callerA (.call (.ref fa) ⟨[.ref a],[]⟩) (λr s'=>r= .ok (.ret (.bool true))/\OldK s₁.heap s'.heap/\s'.os=s₁.os/\AllBare s'.gens) s₁:=by
 have rv:=tE hi
 have Xx:=hi.length
 have KC:∀b∈fo K,s₁.heap.get? b=some (PySem.W.tabObj #[]):=λb Rp=>by
  obtain⟨q,hq,t⟩:=rL Rp
  exact TH _ (T q b hq t).1
 have nta:a∉fo K:=λz=>by
  have e:=KC a z
  rw[ha] at e;cases e
 have core:∀S:Option HO,(S=none\/S=some (.hR { cls:=.type "list",data:=.seq vs.toArray } (.lst (ns.map V.int))))->(S=none->jT K (λb=>if b=a then S else if b∈fo K then some (.gP #[]) else none) a (ns.map V.int))->(S≠none->K.lookup a=none)->
   afH (model P w) callerA (.call (.ref fa) ⟨[.ref a],[]⟩) (λr s'=>r= .ok (.ret (.bool true))/\OldK s₁.heap s'.heap/\s'.os=s₁.os/\AllBare s'.gens) s₁:=by
  intro S hS hS0 hK
  let H:Hp:=λb=>if b=a then S else if b∈fo K then some (.gP #[]) else none
  have Ha:H a=S:=if_pos rfl
  have Ht:∀b∈fo K,H b=some (.gP #[]):=λb Rp=>by
   show(if b=a then S else _)=_
   rw[if_neg (λe=>nta (by rw[<-e];exact Rp)),if_pos Rp]
  have Hn:∀b,b≠a->b∉fo K->H b=none:=λb h1 h2=>by
   show(if b=a then S else _)=_
   rw[if_neg h1,if_neg h2]
  have hO:AI H:=λb=>by
   by_cases e:b=a
   ·subst e
    rw[Ha]
    rcases hS with z | z
    ·exact .inl z
    ·exact .inr (.inl ⟨_,_,z⟩)
   ·by_cases e2:b∈fo K
    ·exact .inr (.inr (Ht b e2))
    ·exact .inl (Hn b e e2)
  have hok:jI P w H s₁.heap:=λb u z=>by
   by_cases e:b=a
   ·subst e
    rw[Ha] at z
    rcases hS with q | q
    ·rw[q] at z;cases z
    ·rw[q] at z
     cases z
     exact⟨ha,by rw[hU];exact hl,vs,_,rv,ha⟩
   ·by_cases e2:b∈fo K
    ·rw[Ht b e2] at z
     cases z
     exact KC b e2
    ·rw[Hn b e e2] at z;cases z
  have hSq:jT K H a (ns.map V.int):=by
   rcases hS with z | z
   ·exact hS0 z
   ·exact .inl (.inr ⟨_,Ha.trans z⟩)
  have tb:md K H:=λq P' hq e=>⟨#[],Ht _ (List.mem_filterMap.mpr ⟨q,hq,e⟩),trivial,λpos cv z=>by simp[codeAmong] at z⟩
  have Uo:∀{b:afw}{o:Obj}{es:Array DictEntry}{ep:Nat},s₁.heap.get? b=some o->o.data= .dict es ep->H b=none:=λ{b o es ep} e d=>by
   refine Hn b (λz=>?_) (λz=>?_)
   ·rw[z,ha] at e;cases e;cases d
   ·rw[KC b z] at e;cases e;cases d
  have Xy:∀{b:afw}{m:Str->Option afC},s₁.heap.Ns b m->(sv s₁.heap H).Ns b m:=λ{b m} ⟨o,es,ep,e,d,r⟩=>⟨o,es,ep,mR e (Uo e d),d,r⟩
  have hKb:K.In (sv s₁.heap H):=λb o e1=>by
   have e2:b∉fo K:=λz=>by
    obtain⟨q,hq,t⟩:=rL z
    rw[(C6 t).1] at e1;cases e1
   refine mR (KX b o e1) ?_
   by_cases z:b=a
   ·subst z
    rw[Ha]
    rcases hS with q | q
    ·exact q
    ·rw[hK (by rw[q];simp)] at e1;cases e1
   ·exact Hn b z e2
  have hM:Mod K mg (sv s₁.heap H):=⟨hKb,Xy hns,⟨mb,Xy hb,hbb⟩,let ⟨mc,h1,h2⟩:=hlim;⟨mc,Xy h1,h2⟩⟩
  have e0:uF P w K mg (sv s₁.heap H) callerA [] s₁ H:=⟨rfl,hM,λb o e=>Aj e,nr (sX _ _),trivial,λb z=>absurd (show b∈([]:List afw) from z) (by simp),hok,.of_eq hg⟩
  have hB:J1 mg (sv s₁.heap H):=by
   obtain⟨bm,ob,b1,b2,b3,b4,b5,b6,b7⟩:=hbm
   refine⟨bm,ob,b1,b2,b3,mR b4 (Hn bm (λz=>?_) λz=>?_),b5,b6,b7⟩
   ·rw[z,ha] at b4;cases b4;cases b7
   ·rw[KC bm z] at b4;cases b4;cases b7
  refine codeAny_mono ((F _ ⟨hM,hB⟩).run callerA [] s₁ H ⟨[.ref a],[]⟩ [.ref a] [.ref a] _ _ hr e0 (hbind s₁ (.ref a)) (.cons rfl .nil) (DQ H hO hSq tb)) λr s' h=>?_
  cases r with
  | error e=>exact(Xw H e s' h).elim
  | ok fl=>
   cases fl with
   | next=>exact ae h
   | brk=>exact ae h
   | cont=>exact ae h
   | ret u=>
    obtain⟨v,H',os,bare,un,J0,r',q⟩:=h
    have q':v= .bl true:=q
    subst q'
    obtain rfl:u=Value.bool true:=r'
    have old:∀b o,s₁.heap.get? b=some o->asItWas s₁.heap s'.heap b o:=λb o e=>by
     cases q:H b with
     | none=>exact .inl (un.keep b o e q (λz=>absurd (show b∈([]:List afw) from z) (by simp)) (by simp))
     | some u=>
      rcases hO b with z | ⟨ob,xs,z⟩ | z
      ·rw[q] at z;cases z
      ·obtain⟨e1,_⟩:=hok b _ z
       obtain⟨e2,_⟩:=J0 b _ (un.jN b ob _ z)
       rw[e] at e1;cases e1
       exact .inl e2
      ·obtain⟨more,m1⟩:=un.jU b _ z
       have e1:s₁.heap.get? b=some (PySem.W.tabObj #[]):=hok b _ z
       have e2:s'.heap.get? b=some (PySem.W.tabObj (#[]++more)):=J0 b _ m1
       rw[e] at e1
       cases e1
       have Rp:b∈fo K:=by
        by_cases e3:b∈fo K
        ·exact e3
        ·by_cases e4:b=a
         ·rw[e4,ha] at e;cases e
         ·rw[Hn b e4 e3] at z;cases z
       obtain⟨qq,hq,t⟩:=rL Rp
       obtain⟨_,c,o2,vs2,l1,l2,l3,l4⟩:=T qq b hq t
       exact .inr (.inl ⟨⟨c,o2,vs2,KX _ _ l1,l2,l3,l4⟩,rfl,#[],more,rfl,e2⟩)
    exact⟨rfl,⟨old,λb o e=>un.there b o e (by simp)⟩,os,bare⟩
 cases hk:K.lookup a with
 | some o=>
  have e:=KX a o hk
  rw[ha] at e
  cases e
  refine core none (.inl rfl) (λ_=> .inr ⟨_,vs.toArray,_,hk,rfl,rfl,rfl,by rw[aT,Xx];exact hl,by simpa using rv⟩) (λz=>absurd rfl z)
 | none=>exact core _ (.inr rfl) (λz=>by cases z) λ_=>hk
theorem walk_ofT{l:PySem.W.OpenLaw}{n k:Nat}{q:afA}{loose:List Str}{XP:(Str->Option afC)->Heap->Prop}{YP:afD->Heap->Prop}{d:DefRec}{K:Params->PySem.W.Frag}{CX:afD->Du}{sp:afD->Sp}{x:Str}{ts:List afw}
  (hn:l.most=some n)(hn2:n<=afN)(hdf:d.params.defaults=[])(hr:iE k callerA)(hY:∀(w:afD)(h:Heap),YP w h->(K w.params).In h/\∀P∈ts,h.get? P=some (PySem.W.tabObj #[]))
  (F:∀(w:afD)(mg:Str->Option afC)(fa:afw)(h:Heap),(K w.params).In h->h.Ns afM mg->mg d.name=some (.ref fa)->Bs (K w.params) ts/\
   ∃fd:afy,(∀(s:afB)(u:afC),BindsTo s fd ⟨[u],[]⟩ [(x,u)])/\∀base:Heap,jR (K w.params) mg base->FnOk l.prog w (K w.params) mg base (CX w) k fa fd [x] (sp w))
  (DQ:∀(w:afD)(H:Hp)(a:afw)(ns:List Int),ns.length<=n->AI H->jT (K w.params) H a (ns.map V.int)->md (K w.params) H->sp w [.ref a] H (λv _=>v= .bl true) λ_ _ _=>False)
  (Xw:∀(w:afD)(H:Hp)(s:afB)(e:afC)(s':afB),CX w [] H s (λ_ _ _=>False) e s'->False) :
  PySem.W.WalkO q loose XP YP l.row.toRowW d [] (λf vs=>PySem.call f vs):=by
 refine Att.wt hn hdf λw s₀ s₁ mg mb fa o pm cd doc a vs ns G Y ho hd hcd hmg hobj hints hlen hg=>?_
 obtain⟨KX,TH⟩:=hY w _ Y
 obtain⟨T,fd,hb,hF⟩:=F w mg fa _ KX G.T.g hmg
 have hbm:J1 mg s₁.heap:=by
  obtain⟨bm,ob,b1,b2,b3,b4,b5,b6⟩:=G.T.bmain
  refine⟨bm,ob,b1,b2,λq=>?_,b3,b4,b5,b6⟩
  obtain⟨o,es,ep,e,hd,_⟩:=G.T.g
  rw[q,e] at b3;cases b3;rw[hd] at b6;cases b6
 exact C7 KX T TH hbm G.T.g G.T.b G.T.builtins G.T.nolimit hg hobj hints (bu hlen hn2) hr hF hb (λH hO hS hT=>DQ w H a ns hlen hO hS hT) λH e s'=>Xw w H s₁ e s'
def Rs.sq(r:Rs)(h:GS):Rs:=match r with
 | .nx ρ st=>h ρ st
 | r=>r
section
variable {α β:Type} {ρ ρ':bC} {st:Hs} {h g ga' gb':GS} {ga gb gc:GE} {gt gu:GT} {w:Wv} {c:PySem.Str} {f:α->Hs->Re β} {k:α->Hs->Rs} {a:α} {i:Nat}
@[simp] theorem GK:(Rs.nx ρ st).sq h=h ρ st:=rfl
@[simp] theorem aaG:(Rs.rt w st).sq h= .rt w st:=rfl
@[simp] theorem aaH:(Rs.bk ρ st).sq h= .bk ρ st:=rfl
@[simp] theorem aaI:(Rs.ct ρ st).sq h= .ct ρ st:=rfl
@[simp] theorem Xz:(Rs.err c ρ st).sq h= .err c ρ st:=rfl
@[simp] theorem XA:Rs.bad.sq h= .bad:=rfl
@[simp] theorem qm:(Re.ok a st).bind f=f a st:=rfl
@[simp] theorem Uq:(Re.err c st).bind f= .err c st:=rfl
@[simp] theorem Ur:(Re.bad:Re α).bind f= .bad:=rfl
@[simp] theorem rM:(Re.ok a st).bp ρ k=k a st:=rfl
@[simp] theorem VE:(Re.err c st:Re α).bp ρ k= .err c ρ st:=rfl
@[simp] theorem vC:(Re.ok a st).n4= .ok a st:=rfl
@[simp] theorem VF:(Re.bad:Re α).n4= .bad:=rfl
@[simp] theorem VG:(Re.bad:Re α).bp ρ k= .bad:=rfl
@[simp] theorem xJ:aG g h ρ st=(g ρ st).sq h:=by unfold aG Rs.sq;cases g ρ st<;>rfl
@[simp] theorem e_next:bQ ρ st= .nx ρ st:=rfl
@[simp] theorem LI:bj ga ρ st=(ga ρ st).bp ρ λw st'=> .rt w st':=rfl
@[simp] theorem e_expr:AG ga ρ st=(ga ρ st).bp ρ λ_ st'=> .nx ρ st':=rfl
@[simp] theorem GL:aX i ga ρ st=(ga ρ st).bp ρ λw st'=> .nx (ρ.set i (some w)) st':=rfl
def XB(ga gb:GS)(ρ:bC):Bool->Hs->Rs:=λb st'=>if b=true then ga ρ st' else gb ρ st'
@[simp] theorem aaJ:XB g h ρ true st=g ρ st:=rfl
@[simp] theorem aaK:XB g h ρ false st=h ρ st:=rfl
@[simp] theorem adj:mf gt g h ρ st=(gt ρ st).bp ρ (XB g h ρ):=rfl
def rdV(o:Option (Option Wv))(st:Hs):Re Wv:=match o with
 | some (some w)=> .ok w st
 | _=> .bad
@[simp] theorem xK:rdV (some (some w)) st= .ok w st:=rfl
@[simp] theorem xM:af i ρ st=rdV ρ[i]? st:=rfl
@[simp] theorem e_c:gC w ρ st= .ok w st:=rfl
def kB(op:gA)(gb:GE)(ρ:bC):Wv->Hs->Re Wv:=λx st1=>(gb ρ st1).bind λy st2=>(op x y st2).n4
@[simp] theorem O9{op:gA}{x:Wv}:kB op gb ρ x st=(gb ρ st).bind λy st2=>(op x y st2).n4:=rfl
@[simp] theorem GN{op:gA}:ai op ga gb ρ st=(ga ρ st).bind (kB op gb ρ):=rfl
@[simp] theorem aaM:cZ ga ρ st=(ga ρ st).bind K_:=rfl
@[simp] theorem aaN{b:Bool}:K_ (.bl b) st= .ok b st:=rfl
@[simp] theorem aaO:lN ga ρ st=(ga ρ st).bind NL:=rfl
@[simp] theorem XC{b:Bool}:NL (.bl b) st= .ok b st:=rfl
@[simp] theorem aaP:B_ gt ρ st=(gt ρ st).bind λb st1=> .ok (!b) st1:=rfl
def O_(gb:GT)(ρ:bC):Bool->Hs->Re Bool:=λb st1=>if b=true then gb ρ st1 else .ok false st1
@[simp] theorem XD:O_ gu ρ true st=gu ρ st:=rfl
@[simp] theorem XE:O_ gu ρ false st= .ok false st:=rfl
@[simp] theorem aaQ:B9 gt gu ρ st=(gt ρ st).bind (O_ gu ρ):=rfl
def XF(gb:GT)(ρ:bC):Bool->Hs->Re Bool:=λb st1=>if b=true then .ok true st1 else gb ρ st1
@[simp] theorem aaR:XF gu ρ true st= .ok true st:=rfl
@[simp] theorem aaS:XF gu ρ false st=gu ρ st:=rfl
@[simp] theorem Us:Su gt gu ρ st=(gt ρ st).bind (XF gu ρ):=rfl
def GP(gb:GE)(ρ:bC):Wv->Hs->Re Wv:=λw st1=>match w with
 | .bl true=>gb ρ st1
 | .bl false=> .ok (.bl false) st1
 | _=> .bad
@[simp] theorem VH:GP gb ρ (.bl true) st=gb ρ st:=rfl
@[simp] theorem VI:GP gb ρ (.bl false) st= .ok (.bl false) st:=rfl
@[simp] theorem XG:lU ga gb ρ st=(ga ρ st).bind (GP gb ρ):=rfl
def Ut:Wv->Hs->Re Wv:=λw st1=>match w with
 | .bl b=> .ok (.bl (!b)) st1
 | _=> .bad
@[simp] theorem VJ{b:Bool}:Ut (.bl b) st= .ok (.bl (!b)) st:=rfl
def O'(ga gb:GE)(ρ:bC):Bool->Hs->Re Wv:=λb st1=>if b=true then ga ρ st1 else gb ρ st1
@[simp] theorem XH:O' ga gb ρ true st=ga ρ st:=rfl
@[simp] theorem XI:O' ga gb ρ false st=gb ρ st:=rfl
@[simp] theorem aaT:wH gt ga gb ρ st=(gt ρ st).bind (O' ga gb ρ):=rfl
@[simp] theorem LJ:aj ρ st= .ok [] st:=rfl
def LK(gr:GA)(ρ:bC):Wv->Hs->Re (List Wv):=λx st1=>(gr ρ st1).bind λxs st2=> .ok (x::xs) st2
@[simp] theorem Bv{gr:GA}{x:Wv}:LK gr ρ x st=(gr ρ st).bind λxs st2=> .ok (x::xs) st2:=rfl
@[simp] theorem GQ{gr:GA}:aa ga gr ρ st=(ga ρ st).bind (LK gr ρ):=rfl
def rN:List Wv->Hs->Re Wv:=λws st1=>if ws.length<=lim then .ok (.tup ws) st1 else .bad
theorem vD{ws:List Wv}(hl:ws.length<=lim):rN ws st= .ok (.tup ws) st:=if_pos hl
@[simp] theorem Uu{gr:GA}:bz gr ρ st=(gr ρ st).bind rN:=rfl
def gB:List Wv->Hs->Re Wv:=λws st1=>if ws.length<=lim then .ok (.ref st1.length) (st1++[.lst ws]) else .bad
theorem eP{ws:List Wv}(hl:ws.length<=lim):gB ws st= .ok (.ref st.length) (st++[.lst ws]):=if_pos hl
@[simp] theorem LL{gr:GA}:cH gr ρ st=(gr ρ st).bind gB:=rfl
section
variable {x x0 x1 x2 x3 x4 x5 x6 x7:Wv}
@[simp] theorem XJ:rN [x0] st= .ok (.tup [x0]) st:=vD (by simp[lim])
@[simp] theorem jo:rN [x0,x1] st= .ok (.tup [x0,x1]) st:=vD (by simp[lim])
@[simp] theorem XM:rN [x0,x1,x2] st= .ok (.tup [x0,x1,x2]) st:=vD (by simp[lim])
@[simp] theorem Pa:rN [x0,x1,x2,x3] st= .ok (.tup [x0,x1,x2,x3]) st:=vD (by simp[lim])
@[simp] theorem XN:gB [] st= .ok (.ref st.length) (st++[.lst []]):=eP (by simp[lim])
@[simp] theorem vE:gB [x0] st= .ok (.ref st.length) (st++[.lst [x0]]):=eP (by simp[lim])
@[simp] theorem fY:gB [x0,x1] st= .ok (.ref st.length) (st++[.lst [x0,x1]]):=eP (by simp[lim])
@[simp] theorem oH:gB [x0,x1,x2] st= .ok (.ref st.length) (st++[.lst [x0,x1,x2]]):=eP (by simp[lim])
@[simp] theorem XO:gB [x0,x1,x2,x3] st= .ok (.ref st.length) (st++[.lst [x0,x1,x2,x3]]):=eP (by simp[lim])
@[simp] theorem GR:gB [x0,x1,x2,x3,x4,x5] st= .ok (.ref st.length) (st++[.lst [x0,x1,x2,x3,x4,x5]]):=eP (by simp[lim])
@[simp] theorem XQ:gB [x0,x1,x2,x3,x4,x5,x6] st= .ok (.ref st.length) (st++[.lst [x0,x1,x2,x3,x4,x5,x6]]):=eP (by simp[lim])
end
def uk(n:Nat)(F:List Wv->Hs->Re Wv):List Wv->Hs->Re Wv:=λws st1=>if ws.length=n then F ws st1 else .bad
section
variable {F:List Wv->Hs->Re Wv} {x0 x1 x2 x3:Wv} {gr:GA}
@[simp] theorem VL:uk 1 F [x0] st=F [x0] st:=rfl
@[simp] theorem VM:uk 2 F [x0,x1] st=F [x0,x1] st:=rfl
@[simp] theorem VN:uk 3 F [x0,x1,x2] st=F [x0,x1,x2] st:=rfl
@[simp] theorem VO:uk 4 F [x0,x1,x2,x3] st=F [x0,x1,x2,x3] st:=rfl
@[simp] theorem XR{n:Nat}:av n F gr ρ st=(gr ρ st).bind (uk n F):=rfl
@[simp] theorem Bw{op:List Wv->Hs->Re Wv}:aQ op gr ρ st=(gr ρ st).bind λws st1=>(op ws st1).n4:=rfl
end
@[simp] theorem XS{op:Wv->Hs->Re Wv}:Dx op ga ρ st=(ga ρ st).bind op:=rfl
@[simp] theorem Uv{i:Int}:jK (.int i) st= .ok (.int (-i)) st:=rfl
@[simp] theorem LM{i j:Int}:a9 (.int i) (.int j) st= .ok (.int (i+j)) st:=rfl
@[simp] theorem Uw{i j:Int}:eJ (.int i) (.int j) st= .ok (.int (i - j)) st:=rfl
@[simp] theorem adk{i j:Int}:oLt (.int i) (.int j) st= .ok (.bl (decide (i < j))) st:=rfl
@[simp] theorem adl{i j:Int}:oLe (.int i) (.int j) st= .ok (.bl (decide (i<=j))) st:=rfl
@[simp] theorem adm{i j:Int}:WI (.int i) (.int j) st= .ok (.bl (decide (j < i))) st:=rfl
@[simp] theorem adn{i j:Int}:WJ (.int i) (.int j) st= .ok (.bl (decide (j<=i))) st:=rfl
@[simp] theorem ado{i j:Int}:oEq (.int i) (.int j) st= .ok (.bl (i == j)) st:=rfl
@[simp] theorem adp{i j:Int}:yD (.int i) (.int j) st= .ok (.bl (!(i == j))) st:=rfl
@[simp] theorem adq{i j:PySem.Str}:oEq (.str i) (.str j) st= .ok (.bl (i == j)) st:=rfl
@[simp] theorem ads{i j:PySem.Str}:yD (.str i) (.str j) st= .ok (.bl (!(i == j))) st:=rfl
@[simp] theorem adt{i j:Bool}:oEq (.bl i) (.bl j) st= .ok (.bl (i == j)) st:=by cases i<;>cases j<;>rfl
@[simp] theorem adu{i j:Bool}:yD (.bl i) (.bl j) st= .ok (.bl (!(i == j))) st:=by cases i<;>cases j<;>rfl
theorem oI{i j:Int}(h:j≠0/\j.natAbs.log2 < 9000):f_ (.int i) (.int j) st= .ok (.int (i.fdiv j)) st:=by show(if _ then _ else _)=_;rw[if_pos h]
theorem nQ{i j:Int}(h:j≠0):oMod (.int i) (.int j) st= .ok (.int (i.fmod j)) st:=by show(if _ then _ else _)=_;rw[if_pos h]
theorem Bx{i j:Int}(h:IntMulOk i j):cG (.int i) (.int j) st= .ok (.int (i * j)) st:=by show(if _ then _ else _)=_;rw[if_pos h]
theorem um{i j:Int}(h1:-(2 ^ 64) < i)(h2:i < 2 ^ 64):cG (.int i) (.int j) st= .ok (.int (i * j)) st:=Bx (IntMulOk.of_left (intBits_le_64 h1 h2))
theorem mul_r{i j:Int}(h1:-(2 ^ 64) < j)(h2:j < 2 ^ 64):cG (.int i) (.int j) st= .ok (.int (i * j)) st:=Bx (IntMulOk.of_right (intBits_le_64 h1 h2))
theorem GU{i j:Int}(h:0<=j/\j<=1000000/\i.natAbs < 2 ^ 64):lM (.int i) (.int j) st= .ok (.int (i ^ j.toNat)) st:=by show(if _ then _ else _)=_;rw[if_pos h]
theorem oJ{l:Nat}{i:Int}{ws:List Wv}{v:Wv}(h:aq st l=some ws)(h2:pv ws i=some v):bF (.ref l) (.int i) st= .ok v st:=by
 show(match aq st l with | some ws=>(match pv ws i with | some w=>Re.ok w st | none=> .bad) | none=> .bad)=_
 rw[h]
 dsimp only
 rw[h2]
theorem add_l{l k:Nat}{xs ys:List Wv}(h1:aq st l=some xs)(h2:aq st k=some ys)(hl:xs.length+ys.length<=lim):a9 (.ref l) (.ref k) st= .ok (.ref st.length) (st++[.lst (xs++ys)]):=by
 show(match aq st l,aq st k with | some i,some j=>if i.length+j.length<=lim then Re.ok (Wv.ref st.length) (st++[Ob.lst (i++j)]) else .bad | _,_=> .bad)=_
 rw[h1,h2]
 exact if_pos hl
theorem xN{i:Int}{ws:List Wv}{v:Wv}(h2:pv ws i=some v):bF (.tup ws) (.int i) st= .ok v st:=by
 show(match pv ws i with | some w=>Re.ok w st | none=> .bad)=_
 rw[h2]
end
theorem nR{n:Nat}{g:GS}{ws:List Wv}{st st':Hs}{w:Wv}(h:g (ws.map some++aH (n - ws.length) none) st= .rt w st'):cg n g ws st= .ok w st':=by unfold cg;rw[h]
theorem zy{n:Nat}{g:GS}{ws:List Wv}{st st':Hs}{ρ:bC}{c:PySem.Str}(h:g (ws.map some++aH (n - ws.length) none) st= .err c ρ st'):cg n g ws st= .err c st':=by unfold cg;rw[h]
section
variable {ρ:bC} {st:Hs} {ga gb gc:GE} {gl gh:GO}
def kSl(gl gh:GO)(ρ:bC):Wv->Hs->Re Wv:=λx st1=>(gl ρ st1).bind λlo st2=>(gh ρ st2).bind λhi st3=>Cv x lo hi st3
@[simp] theorem VP:ic ga gl gh ρ st=(ga ρ st).bind (kSl gl gh ρ):=rfl
@[simp] theorem aaV{x:Wv}:kSl gl gh ρ x st=(gl ρ st).bind λlo st2=>(gh ρ st2).bind λhi st3=>Cv x lo hi st3:=rfl
@[simp] theorem Ux:lx ρ st= .ok none st:=rfl
def LN:Wv->Hs->Re (Option Int):=λw st1=>match w with
 | .int i=> .ok (some i) st1
 | _=> .bad
@[simp] theorem XT:pC ga ρ st=(ga ρ st).bind LN:=rfl
@[simp] theorem VQ{i:Int}:LN (.int i) st= .ok (some i) st:=rfl
theorem LO{l:Nat}{ws:List Wv}(h:aq st l=some ws):me [.ref l] st= .ok (.int ws.length) st:=by
 show(match aq st l with | some ws=>Re.ok (Wv.int ws.length) st | none=> .bad)=_
 rw[h]
def GV(op':gA)(gc:GE)(y:Wv)(ρ:bC):Wv->Hs->Re Wv:=λz st3=>match z with
 | .bl true=>(gc ρ st3).bind λu AB=>(op' y u AB).n4
 | .bl false=> .ok (.bl false) st3
 | _=> .bad
@[simp] theorem XU{op':gA}{y:Wv}:GV op' gc y ρ (.bl true) st=(gc ρ st).bind λu AB=>(op' y u AB).n4:=rfl
@[simp] theorem XW{op':gA}{y:Wv}:GV op' gc y ρ (.bl false) st= .ok (.bl false) st:=rfl
@[simp] theorem VR{op op':gA}:j5 op op' ga gb gc ρ st=(ga ρ st).bind λx st1=>(gb ρ st1).bind λy st2=>(op x y st2).n4.bind (GV op' gc y ρ):=rfl
def Uy(op' C8:gA)(gc gd:GE)(y:Wv)(ρ:bC):Wv->Hs->Re Wv:=λz st3=>match z with
 | .bl true=>(gc ρ st3).bind λu AB=>(op' y u AB).n4.bind (GV C8 gd u ρ)
 | .bl false=> .ok (.bl false) st3
 | _=> .bad
@[simp] theorem XX{op' C8:gA}{gd:GE}{y:Wv}:Uy op' C8 gc gd y ρ (.bl true) st=(gc ρ st).bind λu AB=>(op' y u AB).n4.bind (GV C8 gd u ρ):=rfl
@[simp] theorem XY{op' C8:gA}{gd:GE}{y:Wv}:Uy op' C8 gc gd y ρ (.bl false) st= .ok (.bl false) st:=rfl
def C9(cat:PySem.Str->Option Bool)(i:Nat)(gs:GS)(r:Rs):Rs:=match r with
 | .err c ρ' st'=>(match cat c with
  | some true=>(match gs (ρ'.set i (some (.lh c))) st' with
   | .nx ρ2 st2=> .nx (ρ2.set i none) st2
   | .rt w st2=> .rt w st2
   | _=> .bad)
  | _=> .bad)
 | r=>r
@[simp] theorem aaW{cat:PySem.Str->Option Bool}{i:Nat}{g gs:GS}:Cm cat i g gs ρ st=C9 cat i gs (g ρ st):=by
 unfold Cm C9
 cases g ρ st<;>rfl
@[simp] theorem VS{cat:PySem.Str->Option Bool}{i:Nat}{gs:GS}:C9 cat i gs (.nx ρ st)= .nx ρ st:=rfl
@[simp] theorem VT{cat:PySem.Str->Option Bool}{i:Nat}{gs:GS}{w:Wv}:C9 cat i gs (.rt w st)= .rt w st:=rfl
def LP(cat:PySem.Str->Option Bool)(gs:GS)(r:Rs):Rs:=match r with
 | .err c ρ' st'=>(match cat c with
  | some true=>(match gs ρ' st' with
   | .nx ρ2 st2=> .nx ρ2 st2
   | .rt w st2=> .rt w st2
   | _=> .bad)
  | _=> .bad)
 | r=>r
@[simp] theorem Uz{cat:PySem.Str->Option Bool}{gs:GS}:LP cat gs (.nx ρ st)= .nx ρ st:=rfl
@[simp] theorem UA{cat:PySem.Str->Option Bool}{gs:GS}{w:Wv}:LP cat gs (.rt w st)= .rt w st:=rfl
theorem GW{cat:PySem.Str->Option Bool}{i:Nat}{gs:GS}{c:PySem.Str}{ρ2:bC}{st2:Hs}(h:cat c=some true)(k:gs (ρ.set i (some (.lh c))) st= .nx ρ2 st2):C9 cat i gs (.err c ρ st)= .nx (ρ2.set i none) st2:=by
 unfold C9
 simp only[h,k]
end
theorem aD{st:Hs}{ws:List Wv}:aq (st++[.lst ws]) st.length=some ws:=by unfold aq;simp
theorem lG{st:Hs}{o:Ob}{l:Nat}{ws:List Wv}(h:aq st l=some ws):aq (st++[o]) l=some ws:=by
 have hl:l < st.length:=by
  unfold aq at h
  cases e:st[l]? with
  | none=>rw[e] at h;cases h
  | some o=>exact(List.getElem?_eq_some_iff.mp e).1
 unfold aq at h ⊢
 rw[eG hl]
 exact h
theorem nT{st:Hs}{l:Nat}{ws:List Wv}(h:aq st l=some ws):l < st.length:=by
 unfold aq at h
 cases e:st[l]? with
 | none=>rw[e] at h;cases h
 | some o=>exact(List.getElem?_eq_some_iff.mp e).1
def fh(l:Nat)(st st':Hs):Prop:=st.length<=st'.length/\∀k,k < st.length->k≠l->st'[k]? =st[k]?
theorem fh.refl{l:Nat}{st:Hs}:fh l st st:=⟨au _,λ_ _ _=>rfl⟩
theorem fh.trans{l:Nat}{a b c:Hs}(h:fh l a b)(k:fh l b c):fh l a c:=⟨bu h.1 k.1,λj h1 h2=>(k.2 j (aY h1 h.1) h2).trans (h.2 j h1 h2)⟩
theorem fh.push{l:Nat}{st:Hs}{o:Ob}:fh l st (st++[o]):=⟨by simp,λk h _=>eG h⟩
theorem fh.set{l:Nat}{st:Hs}{o:Ob}:fh l st (st.set l o):=⟨by simp,λk _ h=>fB (λz=>h z.symm)⟩
theorem fh.lst{l:Nat}{st st':Hs}(k:fh l st st'){j:Nat}{ws:List Wv}(h:aq st j=some ws)(hj:j≠l):aq st' j=some ws:=by
 unfold aq at h ⊢
 rw[k.2 j (nT (st:=st) (ws:=ws) (by unfold aq;exact h)) hj]
 exact h
@[simp] theorem VU{i:Nat}{ga:GA}{gb:GS}{ρ:bC}{st:Hs}:oq i ga gb ρ st=(ga ρ st).bp ρ λws st1=>match ws with
 | [.int j]=>if cV j then fP i gb (bR 0 j.toNat) ρ st1 else .bad
 | _=> .bad:=rfl
@[simp] theorem VV{i:Nat}{ga:GA}{gb:GS}{ρ:bC}{st:Hs}:u7 i ga gb ρ st=(ga ρ st).bp ρ λws st1=>match ws with
 | [.int a,.int j]=>if cV a/\cV j then fP i gb (bR a (j - a).toNat) ρ st1 else .bad
 | _=> .bad:=rfl
@[simp] theorem VW{c:PySem.Str}{ga:GA}{ρ:bC}{st:Hs}:ou c ga ρ st=(ga ρ st).bp ρ λws st1=>if ws.length<=lim then .err c ρ st1 else .bad:=rfl
def LQ(mt:Wv->Wv->Hs->Re Wv)(ga:GE)(ρ:bC):Wv->Hs->Re Wv:=λo st1=>match o with
 | .ref l=>(match aq st1 l with
  | some _=>(ga ρ st1).bind λv st2=>(mt o v st2).n4
  | none=> .bad)
 | _=> .bad
@[simp] theorem Pb{mt:Wv->Wv->Hs->Re Wv}{go ga:GE}{ρ:bC}{st:Hs}:wW mt go ga ρ st=(go ρ st).bind (LQ mt ga ρ):=rfl
theorem KD{mt:Wv->Wv->Hs->Re Wv}{ga:GE}{ρ:bC}{st:Hs}{l:Nat}{ws:List Wv}(h:aq st l=some ws):LQ mt ga ρ (.ref l) st=(ga ρ st).bind λv st2=>(mt (.ref l) v st2).n4:=by
 show(match aq st l with | some _=>(ga ρ st).bind λv st2=>(mt (.ref l) v st2).n4 | none=> .bad)=_
 rw[h]
theorem GX{st:Hs}{l:Nat}{v:Wv}{ws:List Wv}(h:st[l]? =some (.lst ws))(hl:ws.length < lim):sF (.ref l) v st= .ok .bO (st.set l (.lst (ws++[v]))):=by
 show(match st[l]? with | some (.lst ws)=>if ws.length < lim then Re.ok Wv.bO (st.set l (.lst (ws++[v]))) else .bad | _=> .bad)=_
 rw[h]
 exact if_pos hl
def kFor(i:Nat)(gb:GS)(ρ:bC):Wv->Hs->Rs:=λw st1=>match w with
 | .ref l=>(match aq st1 l with | some ws=>forL i gb l ws ws ρ st1 | none=> .bad)
 | .tup ws=>fP i gb ws ρ st1
 | .pB ws=>fP i gb ws ρ st1
 | _=> .bad
@[simp] theorem aaX{i:Nat}{ga:GE}{gb:GS}{ρ:bC}{st:Hs}:pP i ga gb ρ st=(ga ρ st).bp ρ (kFor i gb ρ):=rfl
theorem vF{i:Nat}{gb:GS}{ρ:bC}{st:Hs}{l:Nat}{ws:List Wv}(h:aq st l=some ws):kFor i gb ρ (.ref l) st=forL i gb l ws ws ρ st:=by
 show(match aq st l with | some ws=>forL i gb l ws ws ρ st | none=> .bad)=_
 rw[h]
@[simp] theorem XZ{i:Nat}{gb:GS}{ρ:bC}{st:Hs}{ws:List Wv}:kFor i gb ρ (.tup ws) st=fP i gb ws ρ st:=rfl
theorem ke{i:Nat}{gb:GS}{l:Nat}{all:List Wv}(P:bC->Hs->Prop):∀(ws:List Wv)(ρ:bC)(st:Hs),P ρ st->aq st l=some all->
  (∀w∈ws,∀ρ st,P ρ st->aq st l=some all->∃ρ' st',gb (ρ.set i (some w)) st= .nx ρ' st'/\aq st' l=some all/\P ρ' st')->
  ∃ρ' st',forL i gb l all ws ρ st= .nx ρ' st'/\P ρ' st'/\aq st' l=some all
 | [],ρ,st,h,hl,_=>⟨ρ,st,rfl,h,hl⟩
 | w::r,ρ,st,h,hl,step=>by
  obtain⟨ρ1,st1,e1,l1,p1⟩:=step w bw ρ st h hl
  obtain⟨ρ2,st2,e2,p2,l2⟩:=ke P r ρ1 st1 p1 l1 λw hw=>step w (aO _ hw)
  refine⟨ρ2,st2,?_,p2,l2⟩
  unfold forL
  rw[e1]
  simp only[if_pos l1]
  exact e2
theorem nU{i:Nat}{gb:GS}(P:Nat->bC->Hs->Prop):∀(ws:List Wv)(k:Nat)(ρ:bC)(st:Hs),P k ρ st->
  (∀(j:Nat)(w:Wv),ws[j]? =some w->∀ρ st,P (k+j) ρ st->∃ρ' st',gb (ρ.set i (some w)) st= .nx ρ' st'/\P (k+j+1) ρ' st')->∃ρ' st',fP i gb ws ρ st= .nx ρ' st'/\P (k+ws.length) ρ' st'
 | [],k,ρ,st,h,_=>⟨ρ,st,rfl,h⟩
 | w::r,k,ρ,st,h,step=>by
  obtain⟨ρ1,st1,e1,p1⟩:=step 0 w rfl ρ st h
  obtain⟨ρ2,st2,e2,p2⟩:=nU P r (k+1) ρ1 st1 p1 λj w hw ρ st hp=>by
   have e:k+(j+1)=k+1+j:=by omega
   have q:=step (j+1) w hw ρ st (by rw[e];exact hp)
   rw[e] at q
   exact q
  refine⟨ρ2,st2,?_,?_⟩
  ·unfold fP
   rw[e1]
   exact e2
  ·have e:k+(w::r).length=k+1+r.length:=by simp;omega
   rw[e]
   exact p2
theorem xO{i:Nat}{gb:GS}(P:bC->Hs->Prop):∀(ws:List Wv)(ρ:bC)(st:Hs),P ρ st->
  (∀w∈ws,∀ρ st,P ρ st->∃ρ' st',gb (ρ.set i (some w)) st= .nx ρ' st'/\P ρ' st')->∃ρ' st',fP i gb ws ρ st= .nx ρ' st'/\P ρ' st'
 | [],ρ,st,h,_=>⟨ρ,st,rfl,h⟩
 | w::r,ρ,st,h,step=>by
  obtain⟨ρ1,st1,e1,p1⟩:=step w bw ρ st h
  obtain⟨ρ2,st2,e2,p2⟩:=xO P r ρ1 st1 p1 λw hw=>step w (aO _ hw)
  refine⟨ρ2,st2,?_,p2⟩
  unfold fP
  rw[e1]
  exact e2
@[simp] theorem X_{i:Int}{st:Hs}:Tj [.int i] st=Ti [.int i] st:=rfl
@[simp] theorem Pc{cs:dH}{gi:GI}{gt:GT}{ge:GE}{ρ:bC}{st:Hs}:lV cs gi gt ge ρ st=(gi ρ st).bind (fF cs gt ge ρ):=rfl
@[simp] theorem VX{g:GE}{ρ:bC}{st:Hs}:mq g ρ st=(g ρ st).bind A2:=rfl
@[simp] theorem Pd{g:GA}{ρ:bC}{st:Hs}:Cq g ρ st=(g ρ st).bind tT:=rfl
@[simp] theorem X'{g:GA}{ρ:bC}{st:Hs}:E4 g ρ st=(g ρ st).bind AU:=rfl
theorem GY{j:Int}{st:Hs}(h:cV j):tT [.int j] st= .ok (none,bR 0 j.toNat) st:=if_pos h
theorem Pe{i j:Int}{st:Hs}(h:cV i)(k:cV j):AU [.int i,.int j] st= .ok (none,bR i (j - i).toNat) st:=if_pos ⟨h,k⟩
@[simp] theorem Ya{st:Hs}{z:PySem.Str}:A2 (.str z) st= .ok (none,iH z) st:=rfl
@[simp] theorem Yb{st:Hs}{ws:List Wv}:A2 (.tup ws) st= .ok (none,ws) st:=rfl
theorem By{st:Hs}{acc:List Wv}{v:Wv}(h:acc.length < lim):sF (.ref st.length) v (st++[.lst acc])= .ok .bO (st++[.lst (acc++[v])]):=by
 rw[GX (ws:=acc) (by simp) h]
 congr 1
 simp
theorem mF{w:Wk}{gt:Wv->Hs->Re Bool}{ge:Wv->Hs->Re Wv}{st:Hs}{t:Wv->Bool}{f:Wv->Wv}(ck:jQ w st):∀(ws acc:List Wv),(∀v∈ws,∀acc,gt v (st++[.lst acc])= .ok (t v) (st++[.lst acc]))->
  (∀v∈ws,t v=true->∀acc,ge v (st++[.lst acc])= .ok (f v) (st++[.lst acc]))->acc.length+ws.length < lim->iY (jQ w) gt ge st.length ws (st++[.lst acc])=some (st++[.lst (acc++(ws.filter t).map f)])
 | [],acc,_,_,_=>by simp[iY]
 | v::r,acc,h1,h2,hl=>by
  have hl':acc.length+(r.length+1) < lim:=hl
  unfold iY
  rw[h1 v bw acc]
  cases e:t v with
  | false=>
   dsimp only
   rw[if_pos (qU ck),mF ck r acc (λv hv=>h1 v (aO _ hv)) (λv hv=>h2 v (aO _ hv)) (by omega),yX (by simp[e])]
  | true=>
   dsimp only
   rw[h2 v bw e acc]
   dsimp only
   rw[By (by omega)]
   dsimp only
   rw[if_pos (qU ck),mF ck r (acc++[f v]) (λv hv=>h1 v (aO _ hv)) (λv hv=>h2 v (aO _ hv)) (by simp;omega),FA e]
   simp
theorem uo{cs:dH}{gt:GT}{ge:GE}{ρ:bC}{w:Wk}{st:Hs}{t:Wv->Bool}{f:Wv->Wv}(ck:jQ w st)(h1:∀v∈w.2,∀acc,gt (some v::ff cs ρ) (st++[.lst acc])= .ok (t v) (st++[.lst acc]))
  (h2:∀v∈w.2,t v=true->∀acc,ge (some v::ff cs ρ) (st++[.lst acc])= .ok (f v) (st++[.lst acc]))(hl:w.2.length < lim):fF cs gt ge ρ w st= .ok (.ref st.length) (st++[.lst ((w.2.filter t).map f)]):=by
 unfold fF
 rw[mF ck w.2 [] h1 h2 (by simpa using hl)]
 simp
theorem rO{α:Type}{ws:List α}{d:Int}(h0:0<=d)(h1:d < ws.length):∃v,L2.pv ws d=some v/\v∈ws:=by
 have hk:d.toNat < ws.length:=by omega
 have ek:d=((d.toNat:Nat):Int):=by omega
 refine⟨ws[d.toNat],?_,List.getElem_mem hk⟩
 have q:=L2.gq (fm hk)
 rw[<-ek] at q
 exact q
theorem jq{st:Hs}{l:Nat}{o o':Ob}(h:st[l]? =some o):(st.set l o')[l]? =some o':=jb (List.getElem?_eq_some_iff.mp h).1
theorem GZ{st:Hs}{l:Nat}{o o':Ob}(h:st[l]? =some o):(st++[o'])[l]? =some o:=by rw[eG (List.getElem?_eq_some_iff.mp h).1];exact h
theorem vG{st:Hs}{l:Nat}{ws:List Wv}(h:st[l]? =some (.lst ws)):aq st l=some ws:=by unfold aq;rw[h]
theorem eh{st:Hs}{l:Nat}{o:Ob}(h:st[l]? =some o):l < st.length:=(List.getElem?_eq_some_iff.mp h).1
theorem ik{st:Hs}{o:Ob}:(st++[o])[st.length]? =some o:=by simp
@[simp] theorem aaY{i:Int}{st:Hs}:WL [.int i] st= .ok (.int (if i < 0 then -i else i)) st:=rfl
@[simp] theorem UB{l:Nat}{st:Hs}{ns:List Int}(h:aq st l=some (ns.map Wv.int)):E8 [.ref l] st= .ok (.int ns.sum) st:=by
 show(match aq st l with | some ws=>(match intsOf ws with | some ns=>Re.ok (Wv.int ns.sum) st | none=> .bad) | none=> .bad)=_
 rw[h]
 dsimp only
 rw[qW]
theorem Bz{lo:Int}{n:Nat}{w:Wv}(h:w∈bR lo n):∃k:Int,w= .int k/\lo<=k/\k < lo+n:=by
 unfold bR at h
 obtain⟨k,hk,rfl⟩:=List.mem_map.mp h
 have:=List.mem_range.mp hk
 exact⟨lo+k,rfl,by omega,by omega⟩
theorem G0{i:Int}(h1:-1000000<=i)(h2:i<=1000000):cV i:=⟨by omega,by omega⟩
@[simp] theorem VY{F:List Wv->Hs->Re Wv}{st:Hs}:uk 0 F [] st=F [] st:=rfl
theorem ur{w:Wk}{gt:Wv->Hs->Re Bool}{ge:Wv->Hs->Re Wv}{rr:Nat}(P:Hs->Prop)(E:Wv->Prop)(hP:∀st acc,P st->P (st.set rr (.lst acc)))(hck:∀st,P st->jQ w st) :
  ∀(ws:List Wv),(∀v∈ws,∀st acc,P st->st[rr]? =some (.lst acc)->∃st1,gt v st= .ok true st1/\P st1/\st1[rr]? =some (.lst acc)/\∃u st2,ge v st1= .ok u st2/\E u/\P st2/\st2[rr]? =some (.lst acc))->
   ∀(acc:List Wv)(st:Hs),P st->st[rr]? =some (.lst acc)->acc.length+ws.length < lim->(∀a∈acc,E a)->∃st' acc',iY (jQ w) gt ge rr ws st=some st'/\P st'/\st'[rr]? =some (.lst acc')/\(∀a∈acc',E a)/\acc'.length=acc.length+ws.length
 | [],_,acc,st,hp,hg,_,ha=>⟨st,acc,rfl,hp,hg,ha,rfl⟩
 | v::r,step,acc,st,hp,hg,hl,ha=>by
  obtain⟨st1,e1,p1,g1,u,st2,e2,hu,p2,g2⟩:=step v bw st acc hp hg
  have hl':acc.length+(r.length+1) < lim:=hl
  obtain⟨st3,Yc,f1,f2,f3,f4,f5⟩:=ur P E hP hck r (λv hv=>step v (aO _ hv)) (acc++[u]) (st2.set rr (.lst (acc++[u]))) (hP _ _ p2) (jq g2) (by simp;omega) (by
   intro a h
   rcases List.mem_append.mp h with z | z
   ·exact ha a z
   ·simp at z;rw[z];exact hu)
  refine⟨st3,Yc,?_,f2,f3,f4,?_⟩
  ·unfold iY
   rw[e1]
   dsimp only
   rw[e2]
   dsimp only
   rw[GX g2 (by omega)]
   dsimp only
   rw[if_pos (hck _ (hP _ _ p2)),f1]
  ·rw[f5];simp;omega
def Gr(st st':Hs):Prop:=st.length<=st'.length/\∀k,k < st.length->st'[k]? =st[k]?
theorem Gr.refl{st:Hs}:Gr st st:=⟨au _,λ_ _=>rfl⟩
theorem Gr.trans{a b c:Hs}(h:Gr a b)(k:Gr b c):Gr a c:=⟨bu h.1 k.1,λj h1=>(k.2 j (aY h1 h.1)).trans (h.2 j h1)⟩
theorem Gr.push{st:Hs}{o:Ob}:Gr st (st++[o]):=⟨by simp,λk h=>eG h⟩
theorem Gr.app{st xs:Hs}:Gr st (st++xs):=⟨by simp,λk h=>eG h⟩
theorem Gr.lst{st st':Hs}(k:Gr st st'){j:Nat}{ws:List Wv}(h:aq st j=some ws):aq st' j=some ws:=by
 unfold aq at h ⊢
 rw[k.2 j (nT (st:=st) (ws:=ws) (by unfold aq;exact h))]
 exact h
theorem Gr.get{st st':Hs}(k:Gr st st'){j:Nat}{o:Ob}(h:st[j]? =some o):st'[j]? =some o:=by rw[k.2 j (eh h)];exact h
theorem Gr.keep{st st':Hs}{l:Nat}(k:Gr st st'):fh l st st':=⟨k.1,λj h _=>k.2 j h⟩
theorem Gr.G5{st s1 s2:Hs}{l:Nat}(h:st.length<=l)(g:Gr st s1)(k:fh l s1 s2):Gr st s2:=⟨bu g.1 k.1,λj h1=>(k.2 j (aY h1 g.1) (by omega)).trans (g.2 j h1)⟩
theorem G6{i:Int}:bI (.int i) (.int i)=true:=by simp[bI]
theorem G7{x:PySem.Str}:bI (.str x) (.str x)=true:=by simp[bI]
theorem G8{st:Hs}{x y:Wv}{d:PyData}(h1:aS st 20 x=some d)(h2:aS st 20 y=some d)(h:bI d d=true):yD x y st= .ok (.bl false) st:=by
 unfold yD
 rw[h1,h2]
 show Re.ok (Wv.bl (!PyData.eqv d d)) st=_
 rw[h]
 rfl
theorem BA{st:Hs}{n l:Nat}{ws:List Wv}(h:aq st l=some ws):aS st (n+1) (.ref l)=(gQ (aS st n) ws).map uZ:=by
 show(match aq st l with | some ws=>(gQ (aS st n) ws).map uZ | none=>none)=_
 rw[h]
@[simp] theorem aaZ{i j:Int}{st:Hs}:TL [.int i,.int j] st= .ok (.int (if j > i then j else i)) st:=rfl
@[simp] theorem aa0{i j:Int}{st:Hs}:TM [.int i,.int j] st= .ok (.int (if j < i then j else i)) st:=rfl
def LR(kvs:Dc):Wv->Hs->Re Wv:=λa st1=>match a with
 | .str k=>(match kvs.lookup k with | some w=> .ok w st1 | none=> .bad)
 | _=> .bad
@[simp] theorem Yd{kvs:Dc}{ga:GE}{ρ:bC}{st:Hs}:A6 kvs ga ρ st=(ga ρ st).bind (LR kvs):=rfl
theorem KG{kvs:Dc}{k:PySem.Str}{w:Wv}{st:Hs}(h:kvs.lookup k=some w):LR kvs (.str k) st= .ok w st:=by
 show(match kvs.lookup k with | some w=>Re.ok w st | none=> .bad)=_
 rw[h]
open PySem L2
theorem ln1{fd:afy}{ps:List Str}(us:List afC)(hl:us.length=1)(h:∀a0:afC,bindArgs fd { pos:=[a0] }=pure (ps.zip [a0])):bindArgs fd { pos:=us }=pure (ps.zip us):=match us,hl with | [a0],_=>h a0
theorem ln2{fd:afy}{ps:List Str}(us:List afC)(hl:us.length=2)(h:∀a0 a1:afC,bindArgs fd { pos:=[a0,a1] }=pure (ps.zip [a0,a1])):bindArgs fd { pos:=us }=pure (ps.zip us):=match us,hl with | [a0,a1],_=>h a0 a1
theorem ln3{fd:afy}{ps:List Str}(us:List afC)(hl:us.length=3)(h:∀a0 a1 a2:afC,bindArgs fd { pos:=[a0,a1,a2] }=pure (ps.zip [a0,a1,a2])):bindArgs fd { pos:=us }=pure (ps.zip us):=match us,hl with | [a0,a1,a2],_=>h a0 a1 a2
theorem ln4{fd:afy}{ps:List Str}(us:List afC)(hl:us.length=4)(h:∀a0 a1 a2 a3:afC,bindArgs fd { pos:=[a0,a1,a2,a3] }=pure (ps.zip [a0,a1,a2,a3])):bindArgs fd { pos:=us }=pure (ps.zip us):=match us,hl with | [a0,a1,a2,a3],_=>h a0 a1 a2 a3
abbrev HB(P:afA)(w:afD)(K:PySem.W.Frag)(mg:Str->Option afC)(k:Nat)(x:Str)(n:Nat)(F:List Wv->Hs->Re Wv):Prop:=∀base:Heap,jR K mg base->tP P w K mg base k x n F
theorem tP.mo{P:afA}{w:afD}{K:PySem.W.Frag}{mg:Str->Option afC}{base:Heap}{j k:Nat}{x:Str}{n:Nat}{F:List Wv->Hs->Re Wv}(h:tP P w K mg base j x n F)(l:j<=k:=by first | decide | omega):tP P w K mg base k x n F:=h.mono l
theorem hdf{P:afA}{w:afD}{K:PySem.W.Frag}{mg:Str->Option afC}{base:Heap}{h:Heap}{k:Nat}{c:Ct}{x:Str}{st:Stmt}{ps:List Str}{g:GS}(KX:K.In h)(NS:h.Ns afM mg)(D:bq K x st)(T:uj c k P w K mg base)
  (S:FnScope c.N ps (defScope st))(hg:a_ 30 c (defBody st)=g)(hM:c.self∈aU->jR K mg base/\c.self=x:=by exact λz=>absurd (show("":Str)∈aU from z) (by decide))(hn:(defScope st).names=c.names:=by exact rfl)
  (hb:∀(kV doc pm:afC)(an:Option afw)(cdv ct:afC)(us:List afC),us.length=ps.length->bindArgs (PySem.W.fnOf x x (defArgs st) (defBody st) (defScope st) .none kV doc pm an cdv ct) ⟨us,[]⟩=pure (ps.zip us):=by intro _ _ _ _ _ _ us hl;first | exact ln1 us hl λ_=>rfl | exact ln2 us hl λ_ _=>rfl | exact ln3 us hl λ_ _ _=>rfl | exact ln4 us hl λ_ _ _ _=>rfl | exact ln5 us hl λ_ _ _ _ _=>rfl | exact ln6 us hl λ_ _ _ _ _ _=>rfl | exact ln7 us hl λ_ _ _ _ _ _ _=>rfl) :
  tP P w K mg base (k+1) x ps.length (cg c.N.length g):=Kz KX NS D T S hn hg hb hM
theorem tk{c:Ct}{k:Nat}{P:afA}{w:afD}{K:PySem.W.Frag}{mg:Str->Option afC}{base:Heap}(ht:TabOk K c.tb c.tt c.tc)(hf:AllP (λp=>tP P w K mg base k p.1 p.2.1 p.2.2) c.fns:=by exact trivial)(hc:AllP (λp=>Bj K mg p.1 p.2) c.consts:=by exact trivial)(hb:AllP (λx=>mg x=none) c.bl:=by exact trivial)
  (hk:AllP (λx=>∃C,mg x=some (.ref C)/\EK K x C) c.clss:=by exact trivial)(hn:AllP (λx=>∃C,mg x=some (.ref C)/\ClsAt K x C) c.wb:=by exact trivial)(hd:AllP (λp=>xf K w mg p.1 p.2) c.xy:=by exact trivial)
  (hu:AllP (λx=>∀n F,c.fns.lookup x=some (n,F)->vi P w K mg base k x n F) c.wc:=by exact trivial)(hx:vA c k P w K mg base:=by exact vA.no rfl rfl rfl rfl):uj c k P w K mg base:=rK hc hb hf ht hk hn hd hu hx
end J
namespace K60
open PySem J
open L2 (defScope defBody defArgs FnScope CX0 FnOk XK Hp)
def top (i:Nat):Stmt:=PySem.Challenge.pw_onelook_k60_blocks_refused.main.body.getD i (.Pass ⟨0,0,0,0⟩)
def gP:Tab:=(("BadArea","BadArea"),true)::(("BadArea","BadPlace"),false)::(("BadArea","NoRoom"),false)::(("BadArea","BadText"),false)::(("BadArea","BadFormula"),false)::(("BadArea","BadContent"),false)::(("BadArea","Full"),false)::(("BadArea","NoCell"),false)::(("BadArea","NotWaiting"),false)::(("BadArea","BadCount"),false)::(("BadArea","BadTable"),false)::(("BadArea","NoTable"),false)::(("BadArea","NoColumn"),false)::(("BadArea","NoDeed"),false)::(("BadArea","Clash"),false)::(("BadArea","SheetError"),true)::(("BadPlace","BadArea"),false)::(("BadPlace","BadPlace"),true)::(("BadPlace","NoRoom"),false)::(("BadPlace","BadText"),false)::(("BadPlace","BadFormula"),false)::(("BadPlace","BadContent"),false)::(("BadPlace","Full"),false)::(("BadPlace","NoCell"),false)::(("BadPlace","NotWaiting"),false)::(("BadPlace","BadCount"),false)::(("BadPlace","BadTable"),false)::(("BadPlace","NoTable"),false)::(("BadPlace","NoColumn"),false)::(("BadPlace","NoDeed"),false)::(("BadPlace","Clash"),false)::(("BadPlace","SheetError"),true)::(("NoRoom","BadArea"),false)::(("NoRoom","BadPlace"),false)::(("NoRoom","NoRoom"),true)::(("NoRoom","BadText"),false)::(("NoRoom","BadFormula"),false)::(("NoRoom","BadContent"),false)::(("NoRoom","Full"),false)::(("NoRoom","NoCell"),false)::(("NoRoom","NotWaiting"),false)::(("NoRoom","BadCount"),false)::(("NoRoom","BadTable"),false)::(("NoRoom","NoTable"),false)::(("NoRoom","NoColumn"),false)::(("NoRoom","NoDeed"),false)::(("NoRoom","Clash"),false)::(("NoRoom","SheetError"),true)::[]
def fq:wV:=[(("BadArea","ValueError"),true),(("BadPlace","ValueError"),true),(("NoRoom","ValueError"),true)]
def bJ:Dc:=[("num",.int 0),("text",.int 0),("lost",.int 0),("at",.int 0),("minus",.int 1),("not",.int 1),("+",.int 2),("-",.int 2),("*",.int 2),("/",.int 2),("&",.int 2),("<",.int 2),("=",.int 2),("rest",.int 2),("if",.int 3),("else",.int 2),("sum",.int 0),("count",.int 0),("least",.int 0),("greatest",.int 0),("find",.int 1)]
def zz:Tab:=[(("BadArea","SheetError"),true),(("BadPlace","SheetError"),true),(("NoRoom","SheetError"),true)]
def cB(s:Stmt)(n b:List Str)(f:List (Str×Nat×(List Wv->Hs->Re Wv))):Ct:={ N:=n,names:=(defScope s).names,consts:=[],bl:=b,fns:=f,tb:=gP,tt:=fq,tc:=zz }
theorem jL{N P:List Str}{sc:Scope}(h:sc.kind= .function/\sc.isCoroutine=false/\sc.isGenerator=false/\N.take P.length=P)(k:N.Nodup/\(∀x∈P,sc.names.lookup x=some .local\/sc.names.lookup x=some .cell)/\∀y∈sc.names,y.2≠.free):FnScope N P sc:=⟨h.1,h.2.1,h.2.2.1,k.1,h.2.2.2,k.2.1,k.2.2⟩
abbrev eQ:Stmt:=top 51
def gT:GS:=(aG (mf (cZ (ai oLt (af 1) (aQ me (aa (af 0) aj)))) (bj (ai bF (af 0) (af 1))) bQ)
  (bj (gC (.int 0))))
def bW:List Wv->Hs->Re Wv:=cg 2 gT
def gU:Ct:=cB eQ ["script","k"] ["len"] []
theorem rP:a_ 30 (gU) (defBody eQ)=gT:=by kernel_rfl
theorem pR:FnScope (gU).N ["script","k"] (defScope eQ):=jL ⟨rfl,rfl,rfl,rfl⟩ (by decide+kernel)
abbrev il:Stmt:=top 62
def kg:GS:=(aG (aX 1 (ai f_ (av 2 bW (aa (af 0) (aa (gC (.int 0)) aj))) (gC (.int 2))))
  (bj (bz (aa (ai bF (cH (aa (gC (.int 0)) (aa (ai oMod (ai f_ (af 1) (gC (.int 4))) (gC (.int 97))) aj))) (ai oMod (af 1) (gC (.int 2)))) (aa (ai bF (cH (aa (gC (.int 0)) (aa (ai oMod (ai f_ (af 1) (gC (.int 400))) (gC (.int 23))) aj))) (ai oMod (ai f_ (af 1) (gC (.int 2))) (gC (.int 2)))) aj)))))
def eB:List Wv->Hs->Re Wv:=cg 2 kg
def kh:Ct:=cB il ["script","first"] [] [("_law_cell_at",2,bW)]
theorem xP:a_ 30 (kh) (defBody il)=kg:=by kernel_rfl
theorem vH:FnScope (kh).N ["script"] (defScope il):=jL ⟨rfl,rfl,rfl,rfl⟩ (by decide+kernel)
abbrev gD:Stmt:=top 54
def jr:GS:=(aG (aX 2 (ai oMod (ai bF (af 0) (gC (.int 0))) (af 1)))
  (aG (AH (ai f_ (ai bF (af 0) (gC (.int 0))) (af 1)) (af 0) (gC (.int 0)))
  (bj (af 2))))
def ao:List Wv->Hs->Re Wv:=cg 3 jr
def ju:Ct:=cB gD ["row","many","digit"] [] []
theorem vI:a_ 30 (ju) (defBody gD)=jr:=by kernel_rfl
theorem sI:FnScope (ju).N ["row","many"] (defScope gD):=jL ⟨rfl,rfl,rfl,rfl⟩ (by decide+kernel)
abbrev iq:Stmt:=top 56
def ki:GS:=(aG (aX 2 (av 2 ao (aa (af 0) (aa (gC (.int 3)) aj))))
  (aG (aX 3 (av 2 ao (aa (af 0) (aa (gC (.int 4)) aj))))
  (aG (aX 4 (ai a9 (af 2) (av 2 ao (aa (af 0) (aa (ai eJ (gC (.int 3)) (af 2)) aj)))))
  (aG (aX 5 (ai a9 (af 3) (av 2 ao (aa (af 0) (aa (ai eJ (gC (.int 4)) (af 3)) aj)))))
  (bj (bz (aa (ai a9 (ai bF (af 1) (gC (.int 0))) (af 2)) (aa (ai a9 (ai bF (af 1) (gC (.int 1))) (af 3)) (aa (ai a9 (ai bF (af 1) (gC (.int 0))) (af 4)) (aa (ai a9 (ai bF (af 1) (gC (.int 1))) (af 5)) aj))))))))))
def cP:List Wv->Hs->Re Wv:=cg 6 ki
def kj:Ct:=cB iq ["row","spot","top","left","bottom","right"] [] [("_law_digit",2,ao)]
theorem xQ:a_ 30 (kj) (defBody iq)=ki:=by kernel_rfl
theorem vJ:FnScope (kj).N ["row","spot"] (defScope iq):=jL ⟨rfl,rfl,rfl,rfl⟩ (by decide+kernel)
abbrev ir:Stmt:=top 57
def fZ:GT:=(λ_ st=> .ok true st)
def dP:GE:=(av 2 ao (aa (af 1) (aa (gC (.int 2)) aj)))
def kl:GS:=(bj (aQ nD (aa (lV [("row",0)] (Cq (aa (af 1) aj)) fZ dP) aj)))
def bM:List Wv->Hs->Re Wv:=cg 2 kl
def kq:Ct:=cB ir ["row","many"] ["tuple","range"] [("_law_digit",2,ao)]
theorem xR:a_ 30 (kq) (defBody ir)=kl:=by kernel_rfl
theorem vK:FnScope (kq).N ["row","many"] (defScope ir):=jL ⟨rfl,rfl,rfl,rfl⟩ (by decide+kernel)
abbrev fG:Stmt:=top 58
def iI:GS:=(aG (mf (cZ (ai oEq (av 2 ao (aa (af 0) (aa (gC (.int 5)) aj))) (gC (.int 0)))) (bj (ai eJ (ai lM (gC (.int 10)) (gC (.int 60))) (av 2 ao (aa (af 0) (aa (gC (.int 3)) aj))))) bQ)
  (bj (av 2 ao (aa (af 0) (aa (gC (.int 6)) aj)))))
def dJ:List Wv->Hs->Re Wv:=cg 1 iI
def iJ:Ct:=cB fG ["row"] [] [("_law_digit",2,ao)]
theorem sJ:a_ 30 (iJ) (defBody fG)=iI:=by kernel_rfl
theorem rQ:FnScope (iJ).N ["row"] (defScope fG):=jL ⟨rfl,rfl,rfl,rfl⟩ (by decide+kernel)
abbrev gE:Stmt:=top 55
def jv:GS:=(bj (bz (aa (ai a9 (ai bF (af 1) (gC (.int 0))) (av 2 ao (aa (af 0) (aa (gC (.int 3)) aj)))) (aa (ai a9 (ai bF (af 1) (gC (.int 1))) (av 2 ao (aa (af 0) (aa (gC (.int 4)) aj)))) aj))))
def cQ:List Wv->Hs->Re Wv:=cg 2 jv
def jw:Ct:=cB gE ["row","spot"] [] [("_law_digit",2,ao)]
theorem vL:a_ 30 (jw) (defBody gE)=jv:=by kernel_rfl
theorem sL:FnScope (jw).N ["row","spot"] (defScope gE):=jL ⟨rfl,rfl,rfl,rfl⟩ (by decide+kernel)
abbrev iu:Stmt:=top 59
def kr:GS:=(aG (aX 2 (av 2 ao (aa (af 0) (aa (gC (.int 8)) aj))))
  (aG (mf (cZ (ai oEq (af 2) (gC (.int 0)))) (bj (bz (aa (gC (.str "num")) (aa (av 1 dJ (aa (af 0) aj)) aj)))) bQ)
  (aG (mf (cZ (ai oEq (af 2) (gC (.int 1)))) (bj (bz (aa (gC (.str "text")) (aa (ai bF (cH (aa (gC (.str "")) (aa (gC (.str "a")) (aa (gC (.str "b7")) (aa (gC (.str "no")) aj))))) (av 2 ao (aa (af 0) (aa (gC (.int 4)) aj)))) aj)))) bQ)
  (aG (mf (B9 (cZ (ai oEq (af 2) (gC (.int 2)))) (cZ (ai oEq (av 2 ao (aa (af 0) (aa (gC (.int 3)) aj))) (gC (.int 0))))) (bj (bz (aa (gC (.str "lost")) aj))) bQ)
  (aG (mf (cZ (ai oLt (af 2) (gC (.int 6)))) (bj (bz (aa (gC (.str "at")) (aa (av 2 cQ (aa (af 0) (aa (af 1) aj))) (aa (av 2 bM (aa (af 0) (aa (gC (.int 2)) aj))) aj))))) bQ)
  (bj (bz (aa (ai bF (cH (aa (gC (.str "sum")) (aa (gC (.str "count")) (aa (gC (.str "least")) (aa (gC (.str "greatest")) aj))))) (av 2 ao (aa (af 0) (aa (gC (.int 4)) aj)))) (aa (av 2 cP (aa (af 0) (aa (af 1) aj))) (aa (av 2 bM (aa (af 0) (aa (gC (.int 4)) aj))) aj))))))))))
def eC:List Wv->Hs->Re Wv:=cg 3 kr
def ku:Ct:=cB iu ["row","spot","way"] [] [("_law_digit",2,ao),("_law_area",2,cP),("_law_pins",2,bM),("_law_number",1,dJ),("_law_place",2,cQ)]
theorem xS:a_ 30 (ku) (defBody iu)=kr:=by kernel_rfl
theorem vM:FnScope (ku).N ["row","spot"] (defScope iu):=jL ⟨rfl,rfl,rfl,rfl⟩ (by decide+kernel)
abbrev eR:Stmt:=top 60
def eS(aI:List Wv->Hs->Re Wv):GS:=(aG (mf (cZ (ai oEq (af 2) (gC (.int 0)))) (bj (av 2 eC (aa (af 0) (aa (af 1) aj)))) bQ)
  (aG (aX 3 (av 2 ao (aa (af 0) (aa (gC (.int 16)) aj))))
  (aG (mf (cZ (ai oLt (af 3) (gC (.int 3)))) (bj (av 2 eC (aa (af 0) (aa (af 1) aj)))) bQ)
  (aG (aX 4 (av 3 aI (aa (af 0) (aa (af 1) (aa (ai eJ (af 2) (gC (.int 1))) aj)))))
  (aG (mf (cZ (ai oLt (af 3) (gC (.int 5)))) (bj (bz (aa (ai bF (cH (aa (gC (.str "minus")) (aa (gC (.str "not")) aj))) (ai eJ (af 3) (gC (.int 3)))) (aa (af 4) aj)))) bQ)
  (aG (mf (cZ (ai oEq (af 3) (gC (.int 5)))) (bj (bz (aa (gC (.str "find")) (aa (af 4) (aa (av 2 cP (aa (af 0) (aa (af 1) aj))) (aa (av 2 bM (aa (af 0) (aa (gC (.int 4)) aj))) aj)))))) bQ)
  (aG (aX 5 (av 3 aI (aa (af 0) (aa (af 1) (aa (ai eJ (af 2) (gC (.int 1))) aj)))))
  (aG (mf (cZ (ai oLt (af 3) (gC (.int 8)))) (bj (bz (aa (gC (.str "if")) (aa (af 4) (aa (af 5) (aa (av 3 aI (aa (af 0) (aa (af 1) (aa (ai eJ (af 2) (gC (.int 1))) aj)))) aj)))))) bQ)
  (aG (mf (cZ (ai oEq (af 3) (gC (.int 15)))) (bj (bz (aa (ai bF (cH (aa (gC (.str "=")) (aa (gC (.str "&")) aj))) (av 2 ao (aa (af 0) (aa (gC (.int 2)) aj)))) (aa (af 4) (aa (af 5) aj))))) bQ)
  (bj (bz (aa (ai bF (cH (aa (gC (.str "else")) (aa (gC (.str "rest")) (aa (gC (.str "+")) (aa (gC (.str "-")) (aa (gC (.str "*")) (aa (gC (.str "/")) (aa (gC (.str "<")) aj)))))))) (ai eJ (af 3) (gC (.int 8)))) (aa (af 4) (aa (af 5) aj))))))))))))))
def kC(aI:List Wv->Hs->Re Wv):Ct where
  N:=["row","spot","deep","way","one","other"]
  names:=(defScope eR).names
  consts:=[]
  bl:=[]
  fns:=[("_law_digit",2,ao),("_law_formula",3,aI),("_law_leaf",2,eC),("_law_area",2,cP),("_law_pins",2,bM)]
  tb:=gP
  tt:=fq
  tc:=zz
theorem rR(aI:List Wv->Hs->Re Wv):a_ 30 (kC aI) (defBody eR)=eS aI:=by kernel_rfl
theorem pS(aI:List Wv->Hs->Re Wv):FnScope ["row","spot","deep","way","one","other"] ["row","spot","deep"] (defScope eR):=jL ⟨rfl,rfl,rfl,rfl⟩ (by decide+kernel)
def jM:Nat->(List Wv->Hs->Re Wv)
  | 0=>Oq
  | n+1=>cg 6 (eS ((jM n)))
def bN(n:Nat):List Wv->Hs->Re Wv:=(jM n)
theorem lR(n:Nat):bN (n+1)=cg 6 (eS (bN n)):=rfl
def aI:List Wv->Hs->Re Wv:=bN 6
abbrev eT:Stmt:=top 61
def gW:GS:=(aG (aX 3 (av 2 ao (aa (af 0) (aa (gC (.int 8)) aj))))
  (aG (mf (cZ (ai oEq (af 3) (gC (.int 0)))) (bj (gC .bO)) bQ)
  (aG (mf (cZ (ai oEq (af 3) (gC (.int 1)))) (bj (ai eJ (av 2 ao (aa (af 0) (aa (ai a9 (ai cG (gC (.int 2)) (ai lM (gC (.int 10)) (gC (.int 60)))) (gC (.int 1))) aj))) (ai lM (gC (.int 10)) (gC (.int 60))))) bQ)
  (aG (mf (cZ (ai oEq (af 3) (gC (.int 2)))) (bj (ai eJ (av 2 ao (aa (af 0) (aa (gC (.int 5)) aj))) (gC (.int 1)))) bQ)
  (aG (mf (cZ (ai oEq (af 3) (gC (.int 3)))) (bj (ai bF (cH (aa (gC (.str "")) (aa (gC (.str "a")) (aa (gC (.str "b7")) (aa (gC (.str "no")) aj))))) (av 2 ao (aa (af 0) (aa (gC (.int 4)) aj))))) bQ)
  (bj (av 3 aI (aa (af 0) (aa (af 1) (aa (af 2) aj))))))))))
def cM:List Wv->Hs->Re Wv:=cg 4 gW
def gX:Ct:=cB eT ["row","spot","deep","way"] [] [("_law_digit",2,ao),("_law_formula",3,aI)]
theorem rS:a_ 30 (gX) (defBody eT)=gW:=by kernel_rfl
theorem pT:FnScope (gX).N ["row","spot","deep"] (defScope eT):=jL ⟨rfl,rfl,rfl,rfl⟩ (by decide+kernel)
abbrev gF:Stmt:=top 52
def jy:GS:=(aG (aX 2 (ai oMod (ai cG (ai a9 (ai a9 (ai oMod (af 0) (gC (.int 1000000007))) (ai cG (gC (.int 7919)) (af 1))) (gC (.int 1))) (gC (.int 48271))) (gC (.int 2147483647))))
  (bj (ai oMod (ai cG (ai oMod (ai cG (af 2) (af 2)) (gC (.int 2147483629))) (gC (.int 69621))) (gC (.int 2147483647)))))
def eV:List Wv->Hs->Re Wv:=cg 3 jy
def jz:Ct:=cB gF ["cell","k","stir"] [] []
theorem vN:a_ 30 (jz) (defBody gF)=jy:=by kernel_rfl
theorem sM:FnScope (jz).N ["cell","k"] (defScope gF):=jL ⟨rfl,rfl,rfl,rfl⟩ (by decide+kernel)
abbrev fH:Stmt:=top 53
def dA:GS:=(aX 4 (ai a9 (ai cG (af 4) (gC (.int 2147483647))) (av 2 eV (aa (ai a9 (af 2) (aQ E8 (aa (af 0) aj))) (aa (ai a9 (ai cG (gC (.int 8)) (af 1)) (af 3)) aj)))))
def bV:GS:=(aX 2 (ai a9 (ai cG (af 2) (ai lM (gC (.int 10)) (gC (.int 60)))) (ai oMod (ai bF (af 0) (af 3)) (ai lM (gC (.int 10)) (gC (.int 60))))))
def iK:GS:=(aG (aX 2 (gC (.int 0)))
  (aG (rp 3 (aa (ai a9 (af 1) (gC (.int 1))) (aa (aQ me (aa (af 0) aj)) (aa (gC (.int 13)) aj))) bV)
  (aG (mf (cZ (ai oEq (ai oMod (av 2 bW (aa (af 0) (aa (gC (.int 0)) aj))) (gC (.int 2))) (gC (.int 1)))) (bj (cH (aa (af 2) aj))) bQ)
  (aG (aX 4 (gC (.int 0)))
  (aG (oq 3 (aa (gC (.int 8)) aj) dA)
  (bj (cH (aa (ai f_ (af 4) (gC (.int 8))) aj))))))))
def cE:List Wv->Hs->Re Wv:=cg 5 iK
def iL:Ct:=cB fH ["script","k","cell","j","found"] ["range","len","sum"] [("_law_cell_at",2,bW),("_law_mixed",2,eV)]
theorem sN:a_ 30 (iL) (defBody fH)=iK:=by kernel_rfl
theorem rT:FnScope (iL).N ["script","k"] (defScope fH):=jL ⟨rfl,rfl,rfl,rfl⟩ (by decide+kernel)
abbrev gG:Stmt:=top 63
def dQ:GS:=(aG (aX 5 (av 3 cM (aa (av 2 cE (aa (af 0) (aa (af 4) aj))) (aa (af 2) (aa (af 1) aj)))))
  (mf (cZ (ai qL (af 5) (gC .bO))) (tY (af 5) (af 3) (bz (aa (ai a9 (ai bF (af 2) (gC (.int 0))) (ai f_ (af 4) (gC (.int 4)))) (aa (ai a9 (ai bF (af 2) (gC (.int 1))) (ai oMod (af 4) (gC (.int 4)))) aj)))) bQ))
def gH:GS:=(aG (aX 2 (av 1 eB (aa (af 0) aj)))
  (aG (aX 3 tX)
  (aG (oq 4 (aa (gC (.int 12)) aj) dQ)
  (bj (af 3)))))
def eW:List Wv->Hs->Re Wv:=cg 6 gH
def jA:Ct:={ cB gG ["script","deep","spot","cells","k","content"] ["range"] [("_law_spot",1,eB),("_law_content",3,cM),("_law_stream",2,cE)] with vn:=["cells"] }
theorem vO:a_ 30 (jA) (defBody gG)=gH:=by kernel_rfl
theorem sO:FnScope (jA).N ["script","deep"] (defScope gG):=jL ⟨rfl,rfl,rfl,rfl⟩ (by decide+kernel)
abbrev dR:Stmt:=top 66
def dS:GS:=(aG (aX 1 (cH (aa (bz (aa (gC (.int 3)) (aa (gC (.int 1)) (aa (gC (.int 2)) (aa (gC (.int 1)) aj))))) (aa (bz (aa (gC (.int 3)) (aa (gC (.int 2)) (aa (gC (.int 3)) (aa (gC (.int 1)) aj))))) (aa (bz (aa (gC (.int 0)) (aa (gC (.int 0)) (aa (gC (.int 99)) (aa (gC (.int 0)) aj))))) (aa (bz (aa (gC (.int 0)) (aa (gC (.int 0)) (aa (gC (.int 0)) (aa (gC (.int 26)) aj))))) (aa (bz (aa (Dx jK (gC (.int 1))) (aa (gC (.int 0)) (aa (gC (.int 0)) (aa (gC (.int 0)) aj))))) (aa (bz (aa (gC (.int 0)) (aa (Dx jK (gC (.int 1))) (aa (gC (.int 0)) (aa (gC (.int 0)) aj))))) (aa (bz (aa (gC (.int 0)) (aa (gC (.int 0)) (aa (gC (.int 42)) (aa (gC (.int 6)) aj))))) aj)))))))))
  (aG (aX 1 (ai a9 (af 1) (cH (aa (bz (aa (gC (.int 0)) (aa (gC (.int 0)) (aa (ai a9 (gC (.int 99)) (af 0)) (aa (gC (.int 0)) aj))))) (aa (bz (aa (ai eJ (Dx jK (gC (.int 1))) (af 0)) (aa (gC (.int 0)) (aa (gC (.int 0)) (aa (gC (.int 0)) aj))))) (aa (bz (aa (gC (.int 0)) (aa (ai a9 (gC (.int 26)) (af 0)) (aa (gC (.int 0)) (aa (ai a9 (gC (.int 27)) (af 0)) aj))))) (aa (bz (aa (gC (.int 9)) (aa (gC (.int 0)) (aa (gC (.int 0)) (aa (gC (.int 25)) aj))))) (aa (bz (aa (gC (.int 0)) (aa (gC (.int 0)) (aa (gC (.int 98)) (aa (gC (.int 3)) aj))))) aj))))))))
  (bj (ai a9 (af 1) (cH (aa (bz (aa (gC (.int 0)) (aa (gC (.int 0)) (aa (gC (.int 24)) (aa (gC (.int 12)) aj))))) (aa (bz (aa (gC (.int 0)) (aa (gC (.int 0)) (aa (ai lM (gC (.int 10)) (gC (.int 59))) (aa (ai lM (gC (.int 10)) (gC (.int 59))) aj))))) aj)))))))
def dU:List Wv->Hs->Re Wv:=cg 2 dS
def f6:Ct:=cB dR ["far","some"] [] []
theorem pU:a_ 30 (f6) (defBody dR)=dS:=by kernel_rfl
theorem oK:FnScope (f6).N ["far"] (defScope dR):=jL ⟨rfl,rfl,rfl,rfl⟩ (by decide+kernel)
abbrev jB:Stmt:=top 21
def mG:GS:=(bj (lU (j5 oLe oLt (gC (.int 0)) (ai bF (af 0) (gC (.int 0))) (gC (.int 99))) (j5 oLe oLt (gC (.int 0)) (ai bF (af 0) (gC (.int 1))) (gC (.int 26)))))
def bX:List Wv->Hs->Re Wv:=cg 1 mG
def mH:Ct:={ cB jB ["place"] [] [] with consts:=[("ROWS",(.int 99)),("COLUMNS",(.int 26))] }
theorem zG:a_ 30 (mH) (defBody jB)=mG:=by kernel_rfl
theorem xT:FnScope (mH).N ["place"] (defScope jB):=jL ⟨rfl,rfl,rfl,rfl⟩ (by decide+kernel)
abbrev fI:Stmt:=top 27
def iM:GS:=(aG (aX 1 (lU (ai oLe (ai bF (af 0) (gC (.int 0))) (ai bF (af 0) (gC (.int 2)))) (ai oLe (ai bF (af 0) (gC (.int 1))) (ai bF (af 0) (gC (.int 3))))))
  (bj (lU (af 1) (lU (av 1 bX (aa (ic (af 0) lx (pC (gC (.int 2)))) aj)) (av 1 bX (aa (ic (af 0) (pC (gC (.int 2))) lx) aj))))))
def cF:List Wv->Hs->Re Wv:=cg 2 iM
def iN:Ct:=cB fI ["area","in_order"] [] [("is_place",1,bX)]
theorem sP:a_ 30 (iN) (defBody fI)=iM:=by kernel_rfl
theorem rV:FnScope (iN).N ["area"] (defScope fI):=jL ⟨rfl,rfl,rfl,rfl⟩ (by decide+kernel)
abbrev iw:Stmt:=top 28
def kD:GS:=(bj (ai cG (ai a9 (ai eJ (ai bF (af 0) (gC (.int 2))) (ai bF (af 0) (gC (.int 0)))) (gC (.int 1))) (ai a9 (ai eJ (ai bF (af 0) (gC (.int 3))) (ai bF (af 0) (gC (.int 1)))) (gC (.int 1)))))
def fS:List Wv->Hs->Re Wv:=cg 1 kD
def kE:Ct:=cB iw ["area"] [] []
theorem xU:a_ 30 (kE) (defBody iw)=kD:=by kernel_rfl
theorem vP:FnScope (kE).N ["area"] (defScope iw):=jL ⟨rfl,rfl,rfl,rfl⟩ (by decide+kernel)
abbrev lH:Stmt:=top 26
def oM:GS:=(bj (lU (av 1 cF (aa (af 0) aj)) (ai oLe (av 1 fS (aa (af 0) aj)) (gC (.int 300)))))
def ft:List Wv->Hs->Re Wv:=cg 1 oM
def oN:Ct:={ cB lH ["area"] [] [("has_corners",1,cF),("area_many",1,fS)] with consts:=[("MOST_PLACES",(.int 300))] }
theorem C_:a_ 30 (oN) (defBody lH)=oM:=by kernel_rfl
theorem zH:FnScope (oN).N ["area"] (defScope lH):=jL ⟨rfl,rfl,rfl,rfl⟩ (by decide+kernel)
abbrev iz:Stmt:=top 25
def iA:GS:=(aG (aX 4 (bz (aa (af 0) (aa (af 1) (aa (af 2) (aa (af 3) aj))))))
  (aG (mf (B_ (lN (av 1 ft (aa (af 4) aj)))) (ou "BadArea" (aa (gC (.str "corners that are none, or more than 300 places")) aj)) bQ)
  (bj (af 4))))
def cz:List Wv->Hs->Re Wv:=cg 5 iA
def kF:Ct:={ cB iz ["top","left","bottom","right","area"] [] [("is_area",1,ft)] with clss:=["BadArea"] }
theorem xV:a_ 30 (kF) (defBody iz)=iA:=by kernel_rfl
theorem vQ:FnScope (kF).N ["top","left","bottom","right"] (defScope iz):=jL ⟨rfl,rfl,rfl,rfl⟩ (by decide+kernel)
abbrev gI:Stmt:=top 22
def gJ:GS:=(aG (mf (B_ (lN (av 1 bX (aa (bz (aa (af 0) (aa (af 1) aj))) aj)))) (ou "BadPlace" (aa (gC (.str "the row or the column is beyond the sheet")) aj)) bQ)
  (bj (bz (aa (af 0) (aa (af 1) aj)))))
def cR:List Wv->Hs->Re Wv:=cg 2 gJ
def jC:Ct:={ cB gI ["row","column"] [] [("is_place",1,bX)] with clss:=["BadPlace"] }
theorem vR:a_ 30 (jC) (defBody gI)=gJ:=by kernel_rfl
theorem sQ:FnScope (jC).N ["row","column"] (defScope gI):=jL ⟨rfl,rfl,rfl,rfl⟩ (by decide+kernel)
abbrev eX:Stmt:=top 49
def de:GS:=(aG (aX 2 (av 4 cz (aa (ai bF (af 0) (gC (.int 0))) (aa (ai bF (af 0) (gC (.int 1))) (aa (ai bF (af 0) (gC (.int 2))) (aa (ai bF (af 0) (gC (.int 3))) aj))))))
  (aG (aX 3 (av 2 cR (aa (ai bF (af 1) (gC (.int 0))) (aa (ai bF (af 1) (gC (.int 1))) aj))))
  (aG (aX 4 (ai a9 (af 3) (bz (aa (ai eJ (ai a9 (ai bF (af 3) (gC (.int 0))) (ai bF (af 2) (gC (.int 2)))) (ai bF (af 2) (gC (.int 0)))) (aa (ai eJ (ai a9 (ai bF (af 3) (gC (.int 1))) (ai bF (af 2) (gC (.int 3)))) (ai bF (af 2) (gC (.int 1)))) aj)))))
  (aG (mf (B_ (lN (av 1 cF (aa (af 4) aj)))) (ou "NoRoom" (aa (gC (.str "the block would go beyond the last row or column")) aj)) bQ)
  (bj (af 4))))))
def bA:List Wv->Hs->Re Wv:=cg 5 de
def gY:Ct:={ cB eX ["area","place","made","first","area_now"] [] [("made_area",4,cz),("made_place",2,cR),("has_corners",1,cF)] with clss:=["NoRoom"] }
theorem rW:a_ 30 (gY) (defBody eX)=de:=by kernel_rfl
theorem pV:FnScope (gY).N ["area","place"] (defScope eX):=jL ⟨rfl,rfl,rfl,rfl⟩ (by decide+kernel)
abbrev dB:Stmt:=top 30
def dh:GT:=(λ_ st=> .ok true st)
def cA:GE:=(bz (aa (af 1) (aa (af 0) aj)))
def cJ:GS:=(AG (wW xt (af 1) (lV [("row",2)] (E4 (aa (ai bF (af 0) (gC (.int 1))) (aa (ai a9 (ai bF (af 0) (gC (.int 3))) (gC (.int 1))) aj))) dh cA)))
def dC:GS:=(aG (aX 1 (cH aj))
  (aG (u7 2 (aa (ai bF (af 0) (gC (.int 0))) (aa (ai a9 (ai bF (af 0) (gC (.int 2))) (gC (.int 1))) aj)) cJ)
  (bj (af 1))))
def dD:List Wv->Hs->Re Wv:=cg 3 dC
def fu:Ct:=cB dB ["area","places","row"] ["range"] []
theorem oO:a_ 30 (fu) (defBody dB)=dC:=by kernel_rfl
theorem nV:FnScope (fu).N ["area"] (defScope dB):=jL ⟨rfl,rfl,rfl,rfl⟩ (by decide+kernel)
abbrev fJ:Stmt:=top 29
def fK:GS:=(bj (av 1 dD (aa (av 4 cz (aa (ai bF (af 0) (gC (.int 0))) (aa (ai bF (af 0) (gC (.int 1))) (aa (ai bF (af 0) (gC (.int 2))) (aa (ai bF (af 0) (gC (.int 3))) aj))))) aj)))
def dM:List Wv->Hs->Re Wv:=cg 1 fK
def iO:Ct:=cB fJ ["area"] [] [("places_between",1,dD),("made_area",4,cz)]
theorem sR:a_ 30 (iO) (defBody fJ)=fK:=by kernel_rfl
theorem rX:FnScope (iO).N ["area"] (defScope fJ):=jL ⟨rfl,rfl,rfl,rfl⟩ (by decide+kernel)
abbrev fL:Stmt:=top 40
def iP:GS:=(bj (aQ (gR gP fq) (aa (mE (af 0) (af 1)) (aa (gC (.ty "tuple")) aj))))
def bK:List Wv->Hs->Re Wv:=cg 2 iP
def iQ:Ct:={ cB fL ["sheet","place"] ["isinstance","tuple"] [] with vn:=["sheet"] }
theorem sS:a_ 30 (iQ) (defBody fL)=iP:=by kernel_rfl
theorem rY:FnScope (iQ).N ["sheet","place"] (defScope fL):=jL ⟨rfl,rfl,rfl,rfl⟩ (by decide+kernel)
abbrev iB:Stmt:=top 34
def kG:GS:=(bj (A6 bJ (af 0)))
def di:List Wv->Hs->Re Wv:=cg 1 kG
def kI:Ct:={ cB iB ["word"] [] [] with xy:=[("PART_COUNTS",bJ)] }
theorem xW:a_ 30 (kI) (defBody iB)=kG:=by kernel_rfl
theorem vS:FnScope (kI).N ["word"] (defScope iB):=jL ⟨rfl,rfl,rfl,rfl⟩ (by decide+kernel)
abbrev lI:Stmt:=top 37
def oP:GS:=(bj (ic (af 0) (pC (ai a9 (gC (.int 1)) (av 1 di (aa (ai bF (af 0) (gC (.int 0))) aj)))) lx))
def eD:List Wv->Hs->Re Wv:=cg 1 oP
def oQ:Ct:=cB lI ["formula"] [] [("part_many",1,di)]
theorem Dd:a_ 30 (oQ) (defBody lI)=oP:=by kernel_rfl
theorem zI:FnScope (oQ).N ["formula"] (defScope lI):=jL ⟨rfl,rfl,rfl,rfl⟩ (by decide+kernel)
abbrev jD:Stmt:=top 35
def mI:GS:=(bj (ai Cy (af 0) (gC (.pB [.str "sum",.str "count",.str "least",.str "greatest",.str "find"]))))
def fz:List Wv->Hs->Re Wv:=cg 1 mI
def mJ:Ct:={ cB jD ["word"] [] [] with consts:=[("AREA_WORDS",(.pB [.str "sum",.str "count",.str "least",.str "greatest",.str "find"]))] }
theorem zJ:a_ 30 (mJ) (defBody jD)=mI:=by kernel_rfl
theorem xX:FnScope (mJ).N ["word"] (defScope jD):=jL ⟨rfl,rfl,rfl,rfl⟩ (by decide+kernel)
abbrev jE:Stmt:=top 36
def mK:GS:=(bj (ic (af 0) (pC (gC (.int 1))) (pC (ai a9 (gC (.int 1)) (av 1 di (aa (ai bF (af 0) (gC (.int 0))) aj))))))
def dm:List Wv->Hs->Re Wv:=cg 1 mK
def mL:Ct:=cB jE ["formula"] [] [("part_many",1,di)]
theorem zK:a_ 30 (mL) (defBody jE)=mK:=by kernel_rfl
theorem xY:FnScope (mL).N ["formula"] (defScope jE):=jL ⟨rfl,rfl,rfl,rfl⟩ (by decide+kernel)
abbrev gM:Stmt:=top 38
def iR(p:Lm)(L:LF)(bh:List Wv->Hs->Re Wv):GT:=(λ_ st=> .ok true st)
def fM(p:Lm)(L:LF)(bh:List Wv->Hs->Re Wv):GE:=(av 2 bh (aa (af 0) (aa (af 1) aj)))
def gN(p:Lm)(L:LF)(bh:List Wv->Hs->Re Wv):GS:=(aG (aX 2 (ai bF (af 0) (gC (.int 0))))
  (aG (aX 3 (av 1 eD (aa (af 0) aj)))
  (aG (mf (Su (cZ (ai oEq (af 2) (gC (.str "at")))) (lN (av 1 fz (aa (af 2) aj)))) (aG (aX 4 (mw p 3 L 1 (aa (af 2) (aa (ai bF (af 3) (gC (.int 0))) (aa (ai bF (af 3) (gC (.int 1))) aj)))))
    (aG (mf (cZ (ai SK (af 4) (gC .bO))) (bj (bz (aa (gC (.str "lost")) aj))) bQ)
    (aX 3 (bz (aa (af 4) (aa (ai bF (af 3) (gC (.int 1))) aj)))))) bQ)
  (bj (ai a9 (ai a9 (bz (aa (af 2) aj)) (aQ nD (aa (lV [("goes",1)] (mq (av 1 dm (aa (af 0) aj))) (iR p L bh) (fM p L bh)) aj))) (af 3))))))
def uu(p:Lm)(L:LF)(bh:List Wv->Hs->Re Wv):Ct where
  N:=["formula","goes","word","tail","spot"]
  names:=(defScope gM).names
  consts:=[]
  bl:=["tuple"]
  fns:=[("tail_of",1,eD),("has_area",1,fz),("rebuilt",2,bh),("parts_of",1,dm)]
  tb:=gP
  tt:=fq
  tc:=zz
  lam:=some (p,L)
theorem De(p:Lm)(L:LF)(bh:List Wv->Hs->Re Wv):a_ 30 (uu p L bh) (defBody gM)=gN p L bh:=by kernel_rfl
theorem zL(p:Lm)(L:LF)(bh:List Wv->Hs->Re Wv):FnScope ["formula","goes","word","tail","spot"] ["formula","goes"] (defScope gM):=jL ⟨rfl,rfl,rfl,rfl⟩ (by decide+kernel)
def rZ(p:Lm)(L:LF):Nat->(List Wv->Hs->Re Wv)
  | 0=>Oq
  | n+1=>cg 5 (gN p L ((rZ p L n)))
def bB(p:Lm)(L:LF)(n:Nat):List Wv->Hs->Re Wv:=(rZ p L n)
theorem gZ(p:Lm)(L:LF)(n:Nat):bB p L (n+1)=cg 5 (gN p L (bB p L n)):=rfl
def bh:Rg:=λp L=>bB p L 8
abbrev lJ:Stmt:=top 45
def oR:GS:=(aG (aX 1 (wH (cZ (ai oEq (aQ me (aa (af 0) aj)) (gC (.int 2)))) (av 1 bX (aa (af 0) aj)) (av 1 ft (aa (af 0) aj))))
  (bj (wH (lN (af 1)) (af 0) (gC .bO))))
def iZ:List Wv->Hs->Re Wv:=cg 2 oR
def oS:Ct:=cB lJ ["spot","is_one"] ["len"] [("is_place",1,bX),("is_area",1,ft)]
theorem Df:a_ 30 (oS) (defBody lJ)=oR:=by kernel_rfl
theorem zM:FnScope (oS).N ["spot"] (defScope lJ):=jL ⟨rfl,rfl,rfl,rfl⟩ (by decide+kernel)
abbrev lK:Stmt:=top 44
def cY:GT:=(λ_ st=> .ok true st)
def bT:GE:=(wH (cZ (ai oEq (af 1) (gC (.int 1)))) (af 0) (ai a9 (af 0) (af 2)))
def oT:GS:=(bj (aQ nD (aa (mv 3 [] (t_ (aa (af 0) (aa (af 1) (aa (ai a9 (af 2) (af 2)) aj)))) cY bT) aj)))
def eE:List Wv->Hs->Re Wv:=cg 3 oT
def oU:Ct:=cB lK ["spot","pins","steps"] ["tuple","zip"] []
theorem Dg:a_ 30 (oU) (defBody lK)=oT:=by kernel_rfl
theorem zN:FnScope (oU).N ["spot","pins","steps"] (defScope lK):=jL ⟨rfl,rfl,rfl,rfl⟩ (by decide+kernel)
abbrev dE:Stmt:=top 43
def dW:GE:=(av 1 iZ (aa (av 3 eE (aa (af 1) (aa (af 2) (aa (af 3) aj)))) aj))
def jF:GS:=(bj (y6 bh 1 (af 0) dW))
def eZ:List Wv->Hs->Re Wv:=cg 2 jF
def jG:Ct:={ cB dE ["form","place"] [] [("spot_by",1,iZ),("stepped",3,eE)] with uf:=[("rebuilt",bh)],Ih:=["spot_by","stepped"],lj:=4,self:="formula_by" }
theorem vT:a_ 30 (jG) (defBody dE)=jF:=by kernel_rfl
theorem sT:FnScope (jG).N ["form","place"] (defScope dE):=jL ⟨rfl,rfl,rfl,rfl⟩ (by decide+kernel)
abbrev gO:Stmt:=top 42
def gK:GE:=(av 3 eE (aa (af 1) (aa (af 2) (aa (af 3) aj))))
def oV:GS:=(aG (aX 2 (bz (aa (Dx jK (ai bF (af 1) (gC (.int 0)))) (aa (Dx jK (ai bF (af 1) (gC (.int 1)))) aj))))
  (bj (y6 bh 2 (af 0) gK)))
def i5:List Wv->Hs->Re Wv:=cg 3 oV
def oX:Ct:={ cB gO ["formula","place","back"] [] [("stepped",3,eE)] with uf:=[("rebuilt",bh)],Ih:=["stepped"],lj:=4,self:="form_of" }
theorem Dh:a_ 30 (oX) (defBody gO)=oV:=by kernel_rfl
theorem zP:FnScope (oX).N ["formula","place"] (defScope gO):=jL ⟨rfl,rfl,rfl,rfl⟩ (by decide+kernel)
abbrev nW:Stmt:=top 47
def r6:GS:=(bj (av 2 eZ (aa (av 2 i5 (aa (af 0) (aa (af 1) aj))) (aa (af 2) aj))))
def i6:List Wv->Hs->Re Wv:=cg 3 r6
def r9:Ct:=cB nW ["formula","here","there"] [] [("formula_by",2,eZ),("form_of",2,i5)]
theorem G_:a_ 30 (r9) (defBody nW)=r6:=by kernel_rfl
theorem Di:FnScope (r9).N ["formula","here","there"] (defScope nW):=jL ⟨rfl,rfl,rfl,rfl⟩ (by decide+kernel)
abbrev dX:Stmt:=top 48
def cS:GS:=(tY (wH (lN (av 2 bK (aa (af 0) (aa (af 5) aj)))) (av 3 i6 (aa (xv (af 0) (af 5)) (aa (af 5) (aa (af 6) aj)))) (mE (af 0) (af 5))) (af 4) (af 6))
def aW:GS:=(aG (aX 3 (av 2 bA (aa (af 1) (aa (af 2) aj))))
  (aG (aX 4 tX)
  (aG (Bh [5,6] (aa (av 1 dM (aa (af 1) aj)) (aa (av 1 dM (aa (af 3) aj)) aj)) cS)
  (bj (af 4)))))
def bD:List Wv->Hs->Re Wv:=cg 7 aW
def f7:Ct:={ cB dX ["sheet","area","place","area_now","changes","here","there"] ["zip"] [("area_come_to",2,bA),("area_places",1,dM),("has_formula",2,bK),("copied",3,i6)] with vn:=["sheet","changes"] }
theorem pW:a_ 30 (f7) (defBody dX)=aW:=by kernel_rfl
theorem oY:FnScope (f7).N ["sheet","area","place"] (defScope dX):=jL ⟨rfl,rfl,rfl,rfl⟩ (by decide+kernel)
abbrev e_:Stmt:=top 64
def fA:GT:=(lN (ai bF (af 1) (af 0)))
def i7:GE:=(af 0)
def fb:GS:=(aG (aX 1 (cH (aa (aQ (gR gP fq) (aa (af 0) (aa (gC (.cls "BadPlace")) aj))) (aa (aQ (gR gP fq) (aa (af 0) (aa (gC (.cls "BadArea")) aj))) (aa (aQ (gR gP fq) (aa (af 0) (aa (gC (.cls "BadText")) aj))) (aa (aQ (gR gP fq) (aa (af 0) (aa (gC (.cls "BadFormula")) aj))) aj))))))
  (aG (aX 2 (cH (aa (aQ (gR gP fq) (aa (af 0) (aa (gC (.cls "BadContent")) aj))) (aa (aQ (gR gP fq) (aa (af 0) (aa (gC (.cls "Full")) aj))) (aa (aQ (gR gP fq) (aa (af 0) (aa (gC (.cls "NoCell")) aj))) (aa (aQ (gR gP fq) (aa (af 0) (aa (gC (.cls "NotWaiting")) aj))) aj))))))
  (aG (aX 3 (cH (aa (aQ (gR gP fq) (aa (af 0) (aa (gC (.cls "BadCount")) aj))) (aa (aQ (gR gP fq) (aa (af 0) (aa (gC (.cls "NoRoom")) aj))) (aa (aQ (gR gP fq) (aa (af 0) (aa (gC (.cls "BadTable")) aj))) (aa (aQ (gR gP fq) (aa (af 0) (aa (gC (.cls "NoTable")) aj))) aj))))))
  (aG (aX 4 (cH (aa (aQ (gR gP fq) (aa (af 0) (aa (gC (.cls "NoColumn")) aj))) (aa (aQ (gR gP fq) (aa (af 0) (aa (gC (.cls "NoDeed")) aj))) (aa (aQ (gR gP fq) (aa (af 0) (aa (gC (.cls "Clash")) aj))) (aa (aQ (gR gP fq) (aa (af 0) (aa (gC (.ty "ValueError")) aj))) aj))))))
  (aG (aX 5 (ai a9 (ai a9 (ai a9 (af 1) (af 2)) (af 3)) (af 4)))
  (bj (lV [("heard",5)] (Cq (aa (gC (.int 16)) aj)) fA i7)))))))
def bS:List Wv->Hs->Re Wv:=cg 6 fb
def fc:Ct:={ cB e_ ["e","one","two","three","four","heard"] ["isinstance","ValueError","range"] [] with wb:=["BadPlace","BadArea","BadText","BadFormula","BadContent","Full","NoCell","NotWaiting","BadCount","NoRoom","BadTable","NoTable","NoColumn","NoDeed","Clash"] }
theorem vU:a_ 30 (fc) (defBody e_)=fb:=by kernel_rfl
theorem sU:a_ 30 (fc).un (defBody e_)=fb:=by kernel_rfl
theorem lY:FnScope (fc).N ["e"] (defScope e_):=jL ⟨rfl,rfl,rfl,rfl⟩ (by decide+kernel)
abbrev fe:Stmt:=top 65
def cC:GS:=(aX 3 (cH (aa (aQ ub (aa (av 3 bD (aa (af 0) (aa (af 1) (aa (af 2) aj)))) aj)) aj)))
def c_:GS:=(aX 3 (ai a9 (cH (aa (gC (.str "refused")) aj)) (av 1 bS (aa (af 4) aj))))
def cN:GS:=(aG (aX 3 (cH (aa (Dx jK (gC (.int 1))) aj)))
  (aG (Cm (λy=>zz.lookup (y,("SheetError":PySem.Str))) 4 cC c_)
  (bj (af 3))))
def aV:List Wv->Hs->Re Wv:=cg 5 cN
def g_:Ct:={ cB fe ["sheet","area","place","heard","e"] ["len"] [("block_changes",3,bD),("_law_kinds",1,bS)] with clss:=["SheetError"],vn:=["sheet"],wc:=["_law_kinds"] }
theorem r_:a_ 30 (g_) (defBody fe)=cN:=by kernel_rfl
theorem pX:FnScope (g_).N ["sheet","area","place"] (defScope fe):=jL ⟨rfl,rfl,rfl,rfl⟩ (by decide+kernel)
abbrev BB:Stmt:=top 67
def i8:GS:=(aG (aX 13 (lU (ai oLe (ai a9 (ai bF (af 7) (gC (.int 0))) (af 9)) (gC (.int 98))) (ai oLe (ai a9 (ai bF (af 7) (gC (.int 1))) (af 10)) (gC (.int 25)))))
  (aG (aX 14 (ai bF (cH (aa (cH (aa (gC (.str "refused")) (aa (gC (.int 9)) (aa (gC (.int 15)) aj)))) (aa (cH (aa (ai cG (ai a9 (af 9) (gC (.int 1))) (ai a9 (af 10) (gC (.int 1)))) aj)) aj))) (aQ nE (aa (af 13) aj))))
  (mf (B9 (cZ (ai oLe (ai bF (af 7) (gC (.int 0))) (gC (.int 98)))) (B9 (cZ (ai oLe (ai bF (af 7) (gC (.int 1))) (gC (.int 25)))) (cZ (ai yD (av 3 aV (aa (af 1) (aa (af 6) (aa (af 7) aj)))) (af 14))))) (bj (gC (.bl false))) bQ)))
def kJ:GS:=(mf (cZ (ai yD (av 3 aV (aa (af 1) (aa (af 6) (aa (af 7) aj)))) (cH (aa (gC (.str "refused")) (aa (gC (.int 0)) (aa (gC (.int 15)) aj)))))) (bj (gC (.bl false))) bQ)
def nX:GS:=(aG (aX 9 (ai bF (cH (aa (av 2 ao (aa (af 3) (aa (gC (.int 12)) aj))) (aa (gC (.int 98)) aj))) (aQ nE (aa (ai oEq (af 8) (gC (.int 3))) aj))))
  (aG (aX 10 (ai bF (cH (aa (av 2 ao (aa (af 3) (aa (gC (.int 20)) aj))) (aa (av 2 ao (aa (af 3) (aa (gC (.int 3)) aj))) aj))) (aQ nE (aa (ai oEq (af 8) (gC (.int 3))) aj))))
  (aG (aX 11 (av 2 ao (aa (af 3) (aa (ai eJ (gC (.int 99)) (af 9)) aj))))
  (aG (aX 12 (av 2 ao (aa (af 3) (aa (ai eJ (gC (.int 26)) (af 10)) aj))))
  (aG (aX 6 (bz (aa (af 11) (aa (af 12) (aa (ai a9 (af 11) (af 9)) (aa (ai a9 (af 12) (af 10)) aj))))))
  (aG (pP 7 (af 5) kJ)
  (aG (pP 7 (cH (aa (bz (aa (ai eJ (gC (.int 99)) (af 9)) (aa (gC (.int 0)) aj))) (aa (bz (aa (gC (.int 0)) (aa (ai eJ (gC (.int 26)) (af 10)) aj))) (aa (bz (aa (gC (.int 98)) (aa (gC (.int 25)) aj))) aj)))) i8)
  (mf (cZ (ai yD (av 3 aV (aa (af 1) (aa (af 6) (aa (bz (aa (ai eJ (gC (.int 98)) (af 9)) (aa (ai eJ (gC (.int 25)) (af 10)) aj))) aj)))) (cH (aa (ai cG (ai a9 (af 9) (gC (.int 1))) (ai a9 (af 10) (gC (.int 1)))) aj)))) (bj (gC (.bl false))) bQ))))))))
def nY:GS:=(mf (cZ (ai yD (av 3 aV (aa (af 1) (aa (af 6) (aa (af 7) aj)))) (cH (aa (gC (.str "refused")) (aa (gC (.int 1)) (aa (gC (.int 15)) aj)))))) (bj (gC (.bl false))) bQ)
def i9:GS:=(pP 7 (cH (aa (bz (aa (gC (.int 0)) (aa (gC (.int 0)) aj))) (aa (ai bF (af 5) (av 2 ao (aa (af 3) (aa (gC (.int 6)) aj)))) aj))) nY)
def BC:GS:=(aG (aX 1 (av 2 eW (aa (af 0) (aa (gC (.int 1)) aj))))
  (aG (aX 2 (aQ ud (aa (af 1) aj)))
  (aG (aX 3 (av 2 cE (aa (af 0) (aa (gC (.int 12)) aj))))
  (aG (aX 4 (av 2 ao (aa (af 3) (aa (ai lM (gC (.int 10)) (gC (.int 20))) aj))))
  (aG (aX 5 (cH (aa (bz (aa (Dx jK (gC (.int 1))) (aa (gC (.int 0)) aj))) (aa (bz (aa (gC (.int 0)) (aa (Dx jK (gC (.int 1))) aj))) (aa (bz (aa (gC (.int 99)) (aa (gC (.int 0)) aj))) (aa (bz (aa (gC (.int 0)) (aa (gC (.int 26)) aj))) (aa (bz (aa (ai a9 (gC (.int 99)) (af 4)) (aa (gC (.int 3)) aj))) (aa (bz (aa (gC (.int 3)) (aa (ai eJ (Dx jK (gC (.int 1))) (af 4)) aj))) aj))))))))
  (aG (pP 6 (av 1 dU (aa (af 4) aj)) i9)
  (aG (oq 8 (aa (gC (.int 4)) aj) nX)
  (bj (ai zo (af 1) (af 2))))))))))
def F_law:List Wv->Hs->Re Wv:=cg 15 BC
def Hd:Ct:={ cB BB ["script","sheet","kept","row","far","no_places","area","place","turn","high","wide","top","left","goes_in","due"] ["dict","range","int"] [("_law_cells",2,eW),("_law_stream",2,cE),("_law_digit",2,ao),("_law_no_areas",1,dU),("_law_refusal",3,aV)] with vn:=["sheet","kept"] }
theorem UC:a_ 30 (Hd) (defBody BB)=BC:=by kernel_rfl
theorem Pf:FnScope (Hd).N ["script"] (defScope BB):=jL ⟨rfl,rfl,rfl,rfl⟩ (by decide+kernel)
abbrev S:=PySem.Str
def Ro(r:Nat)(st:Hs):Prop:=∃v:Int,st[r]? =some (.lst [.int v])
def Dw(r:Nat)(st st':Hs):Prop:=fh r st st'/\Ro r st'
theorem Dw.trans{r:Nat}{a b c:Hs}(h:Dw r a b)(k:Dw r b c):Dw r a c:=⟨h.1.trans k.1,k.2⟩
theorem Ro.push{r:Nat}{st:Hs}{o:Ob}(h:Ro r st):Ro r (st++[o]):=let ⟨v,e⟩:=h;⟨v,GZ e⟩
theorem Ro.gr{r:Nat}{st st':Hs}(h:Ro r st)(g:Gr st st'):Ro r st':=let ⟨v,e⟩:=h;⟨v,g.get e⟩
theorem Dw.of{r:Nat}{st:Hs}(h:Ro r st):Dw r st st:=⟨fh.refl,h⟩
theorem Dw.gr{r:Nat}{st st':Hs}(h:Ro r st)(g:Gr st st'):Dw r st st':=⟨g.keep,h.gr g⟩
theorem digit{st:Hs}{l:Nat}{n many:Int}(h:st[l]? =some (.lst [.int n]))(hm:many≠0/\many.natAbs.log2 < 9000) :
  ao [.ref l,.int many] st= .ok (.int (n.fmod many)) (st.set l (.lst [.int (n.fdiv many)])):=by
 have hl:aq st l=some [.int n]:=by unfold aq;rw[h]
 have h0:L2.pv [Wv.int n] 0=some (.int n):=rfl
 unfold ao cg jr
 simp[oJ hl h0,nQ hm.1,oI hm,AH,S_,h,L2.Dv]
theorem dig{r:Nat}{st:Hs}{m:Int}(h:Ro r st)(h0:0 < m)(h1:m < 1000000):∃d st',ao [.ref r,.int m] st= .ok (.int d) st'/\0<=d/\d < m/\Dw r st st':=by
 obtain⟨v,e⟩:=h
 have hl:m.natAbs.log2 < 9000:=Nat.lt_trans ((Nat.log2_lt (k:=20) (by omega)).mpr (by omega)) (by decide)
 exact⟨_,_,digit e ⟨by omega,hl⟩,kK _ h0,oZ _ h0,fh.set,_,jq e⟩
def tI(l:List Int):Wv:=.tup (l.map Wv.int)
def c7(a b c d:Int):Prop:=0<=a/\a<=c/\c<=98/\0<=b/\b<=d/\d<=25/\(c - a+1) * (d - b+1)<=300
theorem Hf{x y p q:Int}(h0:0<=x)(h1:x<=p)(k0:0<=y)(k1:y<=q):x * y<=p * q:=Int.mul_le_mul h1 k1 k0 (by omega)
theorem LS{st:Hs}{a b:Wv}:bF (.tup [a,b]) (.int 0) st= .ok a st:=rfl
theorem LU{st:Hs}{a b:Wv}:bF (.tup [a,b]) (.int 1) st= .ok b st:=rfl
theorem place{r:Nat}{st:Hs}{a b:Int}(h:Ro r st):∃c d st',cQ [.ref r,tI [a,b]] st= .ok (tI [a+c,b+d]) st'/\(0<=c/\c < 3/\0<=d/\d < 4)/\Dw r st st':=by
 obtain⟨c,s1,e1,c0,c1,d1⟩:=dig (m:=3) h (by decide) (by decide)
 obtain⟨d,s2,e2,a0,a1,d2⟩:=dig (m:=4) d1.2 (by decide) (by decide)
 unfold cQ cg jv
 exact⟨c,d,s2,by simp[e1,e2,tI,LS,LU],⟨c0,c1,a0,a1⟩,d1.trans d2⟩
theorem o_{r:Nat}{st:Hs}{a b:Int}(h:Ro r st):∃t l p q st',cP [.ref r,tI [a,b]] st= .ok (tI [a+t,b+l,a+p,b+q]) st'/\(0<=t/\t<=p/\p < 3/\0<=l/\l<=q/\q < 4)/\Dw r st st':=by
 obtain⟨t,s1,e1,t0,t1,d1⟩:=dig (m:=3) h (by decide) (by decide)
 obtain⟨l,s2,e2,l0,l1,d2⟩:=dig (m:=4) d1.2 (by decide) (by decide)
 obtain⟨p,s3,e3,p0,p1,d3⟩:=dig (m:=3 - t) d2.2 (by omega) (by omega)
 obtain⟨q,s4,e4,q0,q1,d4⟩:=dig (m:=4 - l) d3.2 (by omega) (by omega)
 unfold cP cg ki
 exact⟨t,l,t+p,l+q,s4,by simp[e1,e2,e3,e4,tI,LS,LU],by omega,((d1.trans d2).trans d3).trans d4⟩
theorem pins{r:Nat}{st:Hs}(h:Ro r st){n:Nat}(hn:n<=4):∃p st',bM [.ref r,.int n] st= .ok (tI p) st'/\p.length=n/\(∀q∈p,q=0\/q=1)/\Dw r st st':=by
 have hr:r < st.length:=let ⟨v,e⟩:=h;eh e
 have cn:cV (n:Int):=G0 (by omega) (by omega)
 obtain⟨st',acc,e,⟨p1,p2⟩,hg,ha,hl⟩:=ur (w:=(none,bR 0 n)) (gt:=λv=>fZ (some v::ff [("row",0)] [some (.ref r),some (.int (n:Int))])) (ge:=λv=>dP (some v::ff [("row",0)] [some (.ref r),some (.int (n:Int))])) (rr:=st.length)
  (λs=>fh r st s/\Ro r s) (λu=>∃q:Int,u= .int q/\(q=0\/q=1))
  (λs acc ⟨k,v,e⟩=>⟨⟨by simpa using k.1,λj hj hne=>by rw[fB (by omega)];exact k.2 j hj hne⟩,v,by rw[fB (by omega)];exact e⟩) (λ_ _=>trivial) (bR 0 n)
  (λv hv s acc ⟨k,ro⟩ hg=>by
   obtain⟨q,s2,e2,q0,q1,k2,Ye⟩:=dig (m:=2) ro (by decide) (by decide)
   refine⟨s,rfl,⟨k,ro⟩,hg,.int q,s2,?_,⟨q,rfl,by omega⟩,⟨k.trans k2,Ye⟩,?_⟩
   ·unfold dP
    simp[ff,e2]
   ·rw[k2.2 _ (eh hg) (by omega)];exact hg)
  [] (st++[.lst []]) ⟨fh.push,h.push⟩ ik (by rw[cL];simp[lim];omega) (by simp)
 obtain⟨p,hp⟩:∃p:List Int,acc=p.map Wv.int/\∀q∈p,q=0\/q=1:=by
  clear e hg hl
  induction acc with
  | nil=>exact⟨[],rfl,by simp⟩
  | cons a t ih=>
   obtain⟨p,e1,e2⟩:=ih λu hu=>ha u (aO _ hu)
   obtain⟨q,e3,e4⟩:=ha a bw
   exact⟨q::p,by rw[e1,e3];rfl,by simpa using ⟨e4,e2⟩⟩
 obtain⟨rfl,hp⟩:=hp
 refine⟨p,st',?_,by simpa [cL] using hl,hp,p1,p2⟩
 have run:fF [("row",0)] fZ dP [some (.ref r),some (.int (n:Int))] (none,bR 0 n) st= .ok (.ref st.length) st':=by
  unfold fF
  rw[e]
 have tc:nD [.ref st.length] st'= .ok (.tup (p.map Wv.int)) st':=by
  show(match aq st' st.length with | some ws=>Re.ok (Wv.tup ws) st' | none=> .bad)=_
  rw[vG hg]
 unfold bM cg kl
 have r1:tT [.int (n:Int)] st= .ok (none,bR 0 n) st:=by rw[GY cn];simp
 simp[r1,run,tc,tI]
theorem mixed{st:Hs}{c k:Int}(h0:0<=k)(h1:k < 1000000):∃v:Int,0<=v/\eV [.int c,.int k] st= .ok (.int v) st:=by
 have z1:cG (.int 7919) (.int k) st= .ok (.int (7919 * k)) st:=um (by decide) (by decide)
 have z2:∀i:Int,cG (.int i) (.int 48271) st= .ok (.int (i * 48271)) st:=λi=>mul_r (by decide) (by decide)
 have z3:∀i:Int,cG (.int i) (.int 69621) st= .ok (.int (i * 69621)) st:=λi=>mul_r (by decide) (by decide)
 generalize hs:((c.fmod 1000000007+7919 * k+1) * 48271).fmod 2147483647=s
 have s0:0<=s:=by rw[<-hs];exact kK _ (by decide)
 have s1:s < 2147483647:=by rw[<-hs];exact oZ _ (by decide)
 have z4:cG (.int s) (.int s) st= .ok (.int (s * s)) st:=um (by omega) (by omega)
 refine⟨((s * s).fmod 2147483629 * 69621).fmod 2147483647,kK _ (by decide),?_⟩
 unfold eV cg jy
 simp[z1,z2,z3,z4,hs,nQ]
theorem Hg{ns:List Int}{k:Int}(h0:0<=k)(c:k < ns.length):L2.pv (ns.map Wv.int) k=some (.int (ns.getD k.toNat 0)):=by
 have hk:k.toNat < ns.length:=by omega
 have ek:k=((k.toNat:Nat):Int):=by omega
 have q:=L2.gq (xs:=ns.map Wv.int) (j:=k.toNat) (v:=.int (ns.getD k.toNat 0)) (by simp[hk])
 rw[<-ek] at q
 exact q
theorem BD{st:Hs}{l:Nat}{ns:List Int}(h:aq st l=some (ns.map Wv.int)){k:Int}(h0:0<=k):∃v:Int,bW [.ref l,.int k] st= .ok (.int v) st:=by
 have ln:=LO h
 rw[hU] at ln
 unfold bW cg gT
 by_cases c:k < ns.length
 ·exact⟨_,by simp[ln,c,oJ h (Hg h0 c)];rfl⟩
 ·exact⟨0,by simp[ln,c]⟩
theorem LV{st:Hs}:lM (.int 10) (.int 60) st= .ok (.int (10 ^ 60)) st:=GU (by decide)
theorem Hh{lo c:Int}{n:Nat}{j:Nat}{w:Wv}(h:(rl lo c n)[j]? =some w):w= .int (lo+j * c)/\j < n:=by
 have hj:j < n:=by
  have:=(List.getElem?_eq_some_iff.mp h).1
  rw[nJ] at this
  exact this
 rw[ua hj] at h
 exact⟨(Option.some.inj h).symm,hj⟩
theorem Pg{c:Int}{k:Nat}(h0:0<=c)(h1:c < (10 ^ 60) ^ k)(hk:k<=5):IntMulOk c (10 ^ 60):=by
 have b:c.natAbs < 2 ^ 1000:=by
  have e:(10 ^ 60:Int) ^ k < 2 ^ 1000:=by
   have hk':k=0\/k=1\/k=2\/k=3\/k=4\/k=5:=by omega
   rcases hk' with rfl | rfl | rfl | rfl | rfl | rfl<;>decide+kernel
  have e2:((2 ^ 1000:Nat):Int)=2 ^ 1000:=by norm_cast
  omega
 exact IntMulOk.of_bits (bu (KH b) (by decide)) (bu (KH (k:=200) (by decide+kernel)) (by decide))
theorem stream{st:Hs}{l:Nat}{ns:List Int}(h:aq st l=some (ns.map Wv.int))(hn:ns.length<=63){k:Int}(h0:0<=k)(h1:k<=12):∃n:Int,cE [.ref l,.int k] st= .ok (.ref st.length) (st++[.lst [.int n]]):=by
 obtain⟨v0,ev0⟩:=BD h (k:=0) (yS _)
 have ln:=LO h
 rw[hU] at ln
 have sm:=UB h
 have cr:FP (k+1) ns.length 13:=⟨by omega,by omega,by omega,by omega,by decide,by decide⟩
 have sn:ig (k+1) ns.length 13<=5:=by
  unfold ig
  split<;>omega
 have l1:∃(o3:Option Wv)(c:Int),fP 3 bV (rl (k+1) 13 (ig (k+1) ns.length 13)) [some (.ref l),some (.int k),some (.int 0),none,none] st= .nx [some (.ref l),some (.int k),some (.int c),o3,none] st:=by
  obtain⟨ρ,st',e,o3,c,rfl,rfl,_,_⟩:=nU (i:=3) (gb:=bV) (λi ρ st'=>∃(o3:Option Wv)(c:Int),ρ=[some (.ref l),some (.int k),some (.int c),o3,none]/\st'=st/\0<=c/\c < (10 ^ 60) ^ i) (rl (k+1) 13 (ig (k+1) ns.length 13)) 0 [some (.ref l),some (.int k),some (.int 0),none,none] st ⟨none,0,rfl,rfl,by decide,by decide⟩ (by
   rintro j w hw _ s ⟨o3,c,rfl,rfl,c0,c1⟩
   obtain⟨rfl,hj⟩:=Hh hw
   have hj5:0+j<=5:=by omega
   have jx:k+1+(j:Int) * 13 < ns.length:=by
    unfold ig at hj
    split at hj<;>omega
   have m1:cG (.int c) (.int (10 ^ 60)) s= .ok (.int (c * 10 ^ 60)) s:=Bx (Pg c0 c1 hj5)
   have m2:oMod (.int (ns.getD (k+1+(j:Int) * 13).toNat 0)) (.int (10 ^ 60)) s= .ok (.int ((ns.getD (k+1+(j:Int) * 13).toNat 0).fmod (10 ^ 60))) s:=nQ (by decide)
   have x1:=oJ h (Hg (k:=k+1+(j:Int) * 13) (by omega) jx)
   have q0:=kK (ns.getD (k+1+(j:Int) * 13).toNat 0) (b:=10 ^ 60) (by decide)
   have q1:=oZ (ns.getD (k+1+(j:Int) * 13).toNat 0) (b:=10 ^ 60) (by decide)
   generalize (ns.getD (k+1+(j:Int) * 13).toNat 0).fmod (10 ^ 60)=q at m2 q0 q1
   refine⟨_,_,?_,⟨some (.int (k+1+(j:Int) * 13)),c * 10 ^ 60+q,rfl,rfl,?_,?_⟩⟩
   ·unfold bV
    simp only[GL,GN,xM,e_c,vV,vW,qo,qp,xK,qm,O9,LV,vC,m1,x1,m2,LM,rM]
   ·have:=Int.mul_nonneg c0 (show(0:Int)<=10 ^ 60 by decide)
    omega
   ·have e:(10 ^ 60:Int) ^ (0+j+1)=(10 ^ 60) ^ (0+j) * 10 ^ 60:=Int.pow_succ ..
    rw[e]
    have:(c+1) * 10 ^ 60<=(10 ^ 60) ^ (0+j) * 10 ^ 60:=Int.mul_le_mul_of_nonneg_right (by omega) (by decide)
    rw[Int.add_mul] at this
    omega)
  exact⟨o3,c,e⟩
 obtain⟨o3,c,e1⟩:=l1
 have l2:∃(VZ:Option Wv)(g':Int),fP 3 dA (bR 0 8) [some (.ref l),some (.int k),some (.int c),o3,some (.int 0)] st= .nx [some (.ref l),some (.int k),some (.int c),VZ,some (.int g')] st:=by
  obtain⟨ρ,st',e,VZ,g',rfl,rfl⟩:=xO (i:=3) (gb:=dA) (λρ st'=>∃(o3:Option Wv)(g:Int),ρ=[some (.ref l),some (.int k),some (.int c),o3,some (.int g)]/\st'=st) (bR 0 8) [some (.ref l),some (.int k),some (.int c),o3,some (.int 0)] st ⟨o3,0,rfl,rfl⟩ (by
   rintro w hw _ s ⟨o3,g,rfl,rfl⟩
   obtain⟨j,rfl,j0,j1⟩:=Bz hw
   obtain⟨u,_,eu⟩:=mixed (st:=s) (c:=c+ns.sum) (k:=8 * k+j) (by omega) (by omega)
   have z1:cG (.int 8) (.int k) s= .ok (.int (8 * k)) s:=um (by decide) (by decide)
   have z3:cG (.int g) (.int 2147483647) s= .ok (.int (g * 2147483647)) s:=mul_r (by decide) (by decide)
   refine⟨_,_,?_,⟨some (.int j),g * 2147483647+u,rfl,rfl⟩⟩
   unfold dA
   simp[sm,z1,z3,eu])
  exact⟨VZ,g',e⟩
 obtain⟨VZ,g',e2⟩:=l2
 have f8:∀i:Int,f_ (.int i) (.int 8) st= .ok (.int (i.fdiv 8)) st:=λi=>oI (by decide)
 have c8:cV 8:=G0 (by decide) (by decide)
 have er3:∀(ga:GA)(ρ:bC)(s s1:Hs)(a b c:Int),ga ρ s= .ok [.int a,.int b,.int c] s1->FP a b c->rp 3 ga bV ρ s=fP 3 bV (rl a c (ig a b c)) ρ s1:=λga ρ s s1 a b c h1 h2=>by
  unfold rp
  rw[h1]
  show(if FP a b c then _ else _)=_
  rw[if_pos h2]
 have e3:=er3 (aa (ai a9 (af 1) (gC (.int 1))) (aa (aQ me (aa (af 0) aj)) (aa (gC (.int 13)) aj))) [some (.ref l),some (.int k),some (.int 0),none,none] st st (k+1) ns.length 13 (by simp[ln]) cr
 rw[e1] at e3
 unfold cE cg iK
 by_cases b:v0.fmod 2=1
 ·exact⟨c,by simp[e3,ev0,nQ,b]⟩
 ·have b':(v0.fmod 2 == 1)=false:=beq_false_of_ne b
  exact⟨g'.fdiv 8,by simp[e3,ev0,nQ,b',c8,e2,f8]⟩
inductive Fm
 | lit (x:S) (ws:List Wv)
 | pt (x:S) (l p:List Int)
 | fd (a:Fm) (l p:List Int)
 | o1 (x:S) (a:Fm)
 | o2 (x:S) (a b:Fm)
 | o3 (a b c:Fm)
def Fm.v:Fm->S×List Wv
 | .lit x ws=>(x,ws)
 | .pt x l p=>(x,[tI l,tI p])
 | .fd a l p=>("find",[.tup (.str a.v.1::a.v.2),tI l,tI p])
 | .o1 x a=>(x,[.tup (.str a.v.1::a.v.2)])
 | .o2 x a b=>(x,[.tup (.str a.v.1::a.v.2),.tup (.str b.v.1::b.v.2)])
 | .o3 a b c=>("if",[.tup (.str a.v.1::a.v.2),.tup (.str b.v.1::b.v.2),.tup (.str c.v.1::c.v.2)])
def Fm.w(f:Fm):Wv:=.tup (.str f.v.1::f.v.2)
def Fm.dp:Fm->Nat
 | .lit _ _=>1
 | .pt _ _ _=>1
 | .fd a _ _=>a.dp+1
 | .o1 _ a=>a.dp+1
 | .o2 _ a b=>max a.dp b.dp+1
 | .o3 a b c=>max a.dp (max b.dp c.dp)+1
def UD(x:S)(ws:List Wv):Prop:=(x="num"/\∃i,ws=[.int i])\/(x="text"/\∃s,ws=[.str s])\/(x="lost"/\ws=[])
def BE(q:Int):Prop:=q=0\/q=1
def KI(l p:List Int):Prop:=∃a b q r,l=[a,b]/\p=[q,r]/\BE q/\BE r
def Ij(l p:List Int):Prop:=∃a b c d q r s t,l=[a,b,c,d]/\p=[q,r,s,t]/\BE q/\BE r/\BE s/\BE t
def AW:List S:=["sum","count","least","greatest"]
def W1:List S:=["minus","not"]
def W2:List S:=["else","rest","+","-","*","/","&","<","="]
def Fm.sh:Fm->Prop
 | .lit x ws=>UD x ws
 | .pt x l p=>(x="at"/\KI l p)\/(x∈AW/\Ij l p)
 | .fd a l p=>a.sh/\Ij l p
 | .o1 x a=>x∈W1/\a.sh
 | .o2 x a b=>x∈W2/\a.sh/\b.sh
 | .o3 a b c=>a.sh/\b.sh/\c.sh
def cD(a b:Int):Prop:=0<=a/\a<=98/\0<=b/\b<=25
def Fits:List Int->Prop
 | [a,b]=>cD a b
 | [a,b,c,d]=>c7 a b c d
 | _=>False
def Fm.fit:Fm->Prop
 | .lit _ _=>True
 | .pt _ l _=>Fits l
 | .fd a l _=>a.fit/\Fits l
 | .o1 _ a=>a.fit
 | .o2 _ a b=>a.fit/\b.fit
 | .o3 a b c=>a.fit/\b.fit/\c.fit
def Ik:Int:=10 ^ 60
theorem Hj{st:Hs}:lM (.int 10) (.int 60) st= .ok (.int Ik) st:=LV
theorem pick{r:Nat}{st:Hs}{ws:List Wv}{m:Int}(h:Ro r st)(hw:(ws.length:Int)=m)(h0:0 < m)(h1:m < 1000000) :
  ∃d v st',ao [.ref r,.int m] (st++[.lst ws])= .ok (.int d) st'/\bF (.ref st.length) (.int d) st'= .ok v st'/\v∈ws/\Dw r st st':=by
 have hr:r < st.length:=let ⟨v,e⟩:=h;eh e
 obtain⟨d,s2,e2,d0,d1,k2,Ye⟩:=dig (m:=m) (h.push (o:=.lst ws)) h0 h1
 obtain⟨v,e3,e4⟩:=rO (ws:=ws) (d:=d) d0 (by omega)
 exact⟨d,v,s2,e2,oJ (k2.lst aD (by omega)) e3,e4,fh.push.trans k2,Ye⟩
theorem UE{r:Nat}{st:Hs}(h:Ro r st):∃q s st',bM [.ref r,.int 2] st= .ok (tI [q,s]) st'/\BE q/\BE s/\Dw r st st':=by
 obtain⟨p,st',e,hl,hp,d⟩:=pins h (n:=2) (by decide)
 match p,hl with
 | [q,s],_=>exact⟨q,s,st',e,hp q (by simp),hp s (by simp),d⟩
theorem LW{r:Nat}{st:Hs}(h:Ro r st):∃q s t u st',bM [.ref r,.int 4] st= .ok (tI [q,s,t,u]) st'/\BE q/\BE s/\BE t/\BE u/\Dw r st st':=by
 obtain⟨p,st',e,hl,hp,d⟩:=pins h (n:=4) (by decide)
 match p,hl with
 | [q,s,t,u],_=>exact⟨q,s,t,u,st',e,hp q (by simp),hp s (by simp),hp t (by simp),hp u (by simp),d⟩
theorem number{r:Nat}{st:Hs}(h:Ro r st):∃n st',dJ [.ref r] st= .ok (.int n) st'/\Dw r st st':=by
 obtain⟨w,s1,e1,w0,w1,d1⟩:=dig (m:=5) h (by decide) (by decide)
 unfold dJ cg iI
 by_cases c0:w=0
 ·obtain⟨d,s2,e2,a0,a1,d2⟩:=dig (m:=3) d1.2 (by decide) (by decide)
  subst c0
  exact⟨Ik - d,s2,by simp[e1,e2,Hj],d1.trans d2⟩
 have b0:(w == 0)=false:=beq_false_of_ne c0
 obtain⟨d,s2,e2,a0,a1,d2⟩:=dig (m:=6) d1.2 (by decide) (by decide)
 exact⟨d,s2,by simp[e1,e2,b0],d1.trans d2⟩
def sf(a b:Int):Prop:=0<=a/\a<=96/\0<=b/\b<=22
theorem Ph{r:Nat}{st:Hs}{a b:Int}(h:Ro r st)(k:sf a b):∃c d st',cQ [.ref r,tI [a,b]] st= .ok (tI [c,d]) st'/\Fits [c,d]/\Dw r st st':=by
 obtain⟨c,d,s1,e,hc,d1⟩:=place (a:=a) (b:=b) h
 exact⟨_,_,s1,e,by unfold sf at k;show cD _ _;unfold cD;omega,d1⟩
theorem LX{r:Nat}{st:Hs}{a b:Int}(h:Ro r st)(k:sf a b):∃c d e f st',cP [.ref r,tI [a,b]] st= .ok (tI [c,d,e,f]) st'/\Fits [c,d,e,f]/\Dw r st st':=by
 obtain⟨t,l,p,q,s1,e,hc,d1⟩:=o_ (a:=a) (b:=b) h
 refine⟨_,_,_,_,s1,e,?_,d1⟩
 unfold sf at k
 show c7 _ _ _ _
 unfold c7
 have:=Hf (x:=a+p - (a+t)+1) (y:=b+q - (b+l)+1) (p:=3) (q:=4) (by omega) (by omega) (by omega) (by omega)
 omega
theorem leaf{r:Nat}{st:Hs}{a b:Int}(h:Ro r st)(hs:sf a b):∃f st',eC [.ref r,tI [a,b]] st= .ok (Fm.w f) st'/\f.sh/\f.fit/\f.dp=1/\Dw r st st':=by
 obtain⟨w,s1,e1,w0,w1,d1⟩:=dig (m:=8) h (by decide) (by decide)
 unfold eC cg kr
 by_cases c0:w=0
 ·subst c0
  obtain⟨i,s2,e2,d2⟩:=number d1.2
  exact⟨.lit "num" [.int i],s2,by simp[e1,e2,Fm.w,Fm.v],.inl ⟨rfl,i,rfl⟩,trivial,rfl,d1.trans d2⟩
 have b0:(w == 0)=false:=beq_false_of_ne c0
 by_cases c1:w=1
 ·subst c1
  obtain⟨d,v,s4,e4,e5,hv,d4⟩:=pick (m:=4) (ws:=[.str "",.str "a",.str "b7",.str "no"]) d1.2 rfl (by decide) (by decide)
  obtain⟨i,rfl⟩:∃i:S,v= .str i:=by simp at hv;rcases hv with rfl | rfl | rfl | rfl<;>exact⟨_,rfl⟩
  exact⟨.lit "text" [.str i],s4,by simp[e1,e4,e5,Fm.w,Fm.v],.inr (.inl ⟨rfl,i,rfl⟩),trivial,rfl,d1.trans d4⟩
 have b1:(w == 1)=false:=beq_false_of_ne c1
 have at':∀s2,Dw r s1 s2->∃(c d q s:Int)(s4 s5:Hs),cQ [.ref r,tI [a,b]] s2= .ok (tI [c,d]) s4/\bM [.ref r,.int 2] s4= .ok (tI [q,s]) s5/\Fits [c,d]/\BE q/\BE s/\Dw r st s5:=λs2 d2=>by
  obtain⟨c,d,s4,e4,hf,d4⟩:=Ph d2.2 hs
  obtain⟨q,s,s5,e5,q1,q2,d5⟩:=UE d4.2
  exact⟨c,d,q,s,s4,s5,e4,e5,hf,q1,q2,((d1.trans d2).trans d4).trans d5⟩
 by_cases c2:w=2
 ·subst c2
  obtain⟨x,s2,e2,x0,x1,d2⟩:=dig (m:=3) d1.2 (by decide) (by decide)
  by_cases cx:x=0
  ·subst cx
   exact⟨.lit "lost" [],s2,by simp[e1,e2,Fm.w,Fm.v],.inr (.inr ⟨rfl,rfl⟩),trivial,rfl,d1.trans d2⟩
  ·have bx:(x == 0)=false:=beq_false_of_ne cx
   obtain⟨c,d,q,s,s4,s5,e4,e5,hf,q1,q2,d5⟩:=at' s2 d2
   exact⟨.pt "at" [c,d] [q,s],s5,by simp[e1,e2,bx,e4,e5,Fm.w,Fm.v],.inl ⟨rfl,c,d,q,s,rfl,rfl,q1,q2⟩,hf,rfl,d5⟩
 have b2:(w == 2)=false:=beq_false_of_ne c2
 by_cases c3:w < 6
 ·obtain⟨c,d,q,s,s4,s5,e4,e5,hf,q1,q2,d5⟩:=at' s1 (Dw.of d1.2)
  exact⟨.pt "at" [c,d] [q,s],s5,by simp[e1,b0,b1,b2,c3,e4,e5,Fm.w,Fm.v],.inl ⟨rfl,c,d,q,s,rfl,rfl,q1,q2⟩,hf,rfl,d5⟩
 ·obtain⟨d,v,s2,e2,e3,hv,d2⟩:=pick (m:=4) (ws:=[.str "sum",.str "count",.str "least",.str "greatest"]) d1.2 rfl (by decide) (by decide)
  obtain⟨x,rfl,hx⟩:∃x:S,v= .str x/\x∈AW:=by simp at hv;rcases hv with rfl | rfl | rfl | rfl<;>exact⟨_,rfl,by decide+kernel⟩
  obtain⟨a',b',c',d',s3,e4,har,d3⟩:=LX d2.2 hs
  obtain⟨q,s,t,u,s4,e5,q1,q2,q3,q4,d4⟩:=LW d3.2
  exact⟨.pt x [a',b',c',d'] [q,s,t,u],s4,by simp[e1,b0,b1,b2,c3,e2,e3,e4,e5,Fm.w,Fm.v],.inr ⟨hx,a',b',c',d',q,s,t,u,rfl,rfl,q1,q2,q3,q4⟩,har,rfl,((d1.trans d2).trans d3).trans d4⟩
theorem BF{st:Hs}{ws:List Wv}{d:Int}(h0:0<=d)(h1:d < ws.length):∃v,bF (.ref st.length) (.int d) (st++[.lst ws])= .ok v (st++[.lst ws])/\v∈ws:=by
 obtain⟨v,e3,e4⟩:=rO (ws:=ws) (d:=d) h0 h1
 exact⟨v,oJ aD e3,e4⟩
theorem Dw.push{r:Nat}{st:Hs}{o:Ob}(h:Ro r st):Dw r st (st++[o]):=⟨fh.push,h.push⟩
theorem qr{r:Nat}{a b:Int}(hs:sf a b):∀(n:Nat){st:Hs}{k:Nat},Ro r st->k<=n->∃f st',bN (n+1) [.ref r,tI [a,b],.int k] st= .ok (Fm.w f) st'/\f.sh/\f.fit/\f.dp<=k+1/\Dw r st st'
 | n,st,k,h,hk=>by
  rw[lR]
  unfold cg eS
  by_cases c0:k=0
  ·obtain⟨f,s2,e2,h1,h2,h3,d2⟩:=leaf h hs
   subst c0
   exact⟨f,s2,by simp[e2],h1,h2,by omega,d2⟩
  obtain⟨w,s1,e1,w0,w1,d1⟩:=dig (m:=16) h (by decide) (by decide)
  have bk:((k:Int) == 0)=false:=beq_false_of_ne (by omega)
  by_cases cw:w < 3
  ·obtain⟨f,s2,e2,h1,h2,h3,d2⟩:=leaf d1.2 hs
   exact⟨f,s2,by simp[e1,e2,bk,cw],h1,h2,by omega,d1.trans d2⟩
  obtain⟨n',rfl⟩:∃n',n=n'+1:=⟨n - 1,by omega⟩
  have ek:((k:Int) - 1)=((k - 1:Nat):Int):=by omega
  obtain⟨x,s2,e2,a1,a2,a3,d2⟩:=qr hs n' (k:=k - 1) d1.2 (by omega)
  by_cases c5:w < 5
  ·obtain⟨v,e3,hv⟩:=BF (st:=s2) (ws:=[.str "minus",.str "not"]) (d:=w - 3) (by omega) (by simp;omega)
   obtain⟨y,rfl,hy⟩:∃y:S,v= .str y/\y∈W1:=by simp at hv;rcases hv with rfl | rfl<;>exact⟨_,rfl,by decide+kernel⟩
   refine⟨.o1 y x,s2++[.lst [.str "minus",.str "not"]],?_,⟨hy,a1⟩,a2,by simp only[Fm.dp];omega,(d1.trans d2).trans (Dw.push d2.2)⟩
   simp[e1,bk,cw,ek,e2,c5,e3]
   rfl
  by_cases c6:w=5
  ·subst c6
   obtain⟨a',b',c',d',s3,e3,har,d3⟩:=LX d2.2 hs
   obtain⟨q,s,t,u,s4,e4,q1,q2,q3,q4,d4⟩:=LW d3.2
   refine⟨.fd x [a',b',c',d'] [q,s,t,u],s4,?_,⟨a1,a',b',c',d',q,s,t,u,rfl,rfl,q1,q2,q3,q4⟩,⟨a2,har⟩,by simp only[Fm.dp];omega,((d1.trans d2).trans d3).trans d4⟩
   simp[e1,bk,ek,e2,e3,e4]
   rfl
  have b6:(w == 5)=false:=beq_false_of_ne c6
  obtain⟨y,s3,e3,b1,b2,b3,d3⟩:=qr hs n' (k:=k - 1) d2.2 (by omega)
  by_cases c8:w < 8
  ·obtain⟨z,s4,e4,z1,z2,z3,d4⟩:=qr hs n' (k:=k - 1) d3.2 (by omega)
   refine⟨.o3 x y z,s4,?_,⟨a1,b1,z1⟩,⟨a2,b2,z2⟩,by simp only[Fm.dp];omega,((d1.trans d2).trans d3).trans d4⟩
   simp[e1,bk,cw,c5,b6,ek,e2,e3,c8,e4]
   rfl
  by_cases c15:w=15
  ·subst c15
   obtain⟨d,v,s4,e4,e5,hv,d4⟩:=pick (m:=2) (ws:=[.str "=",.str "&"]) d3.2 rfl (by decide) (by decide)
   obtain⟨o,rfl,ho⟩:∃y:S,v= .str y/\y∈W2:=by simp at hv;rcases hv with rfl | rfl<;>exact⟨_,rfl,by decide+kernel⟩
   refine⟨.o2 o x y,s4,?_,⟨ho,a1,b1⟩,⟨a2,b2⟩,by simp only[Fm.dp];omega,((d1.trans d2).trans d3).trans d4⟩
   simp[e1,bk,ek,e2,e3,e4,e5]
   rfl
  have KJ:(w == 15)=false:=beq_false_of_ne c15
  obtain⟨v,e4,hv⟩:=BF (st:=s3) (ws:=[.str "else",.str "rest",.str "+",.str "-",.str "*",.str "/",.str "<"]) (d:=w - 8) (by omega) (by simp;omega)
  obtain⟨o,rfl,ho⟩:∃y:S,v= .str y/\y∈W2:=by simp at hv;rcases hv with rfl | rfl | rfl | rfl | rfl | rfl | rfl<;>exact⟨_,rfl,by decide+kernel⟩
  refine⟨.o2 o x y,s3++[.lst [.str "else",.str "rest",.str "+",.str "-",.str "*",.str "/",.str "<"]],?_,⟨ho,a1,b1⟩,⟨a2,b2⟩,by simp only[Fm.dp];omega,((d1.trans d2).trans d3).trans (Dw.push d3.2)⟩
  simp[e1,bk,cw,c5,b6,ek,e2,e3,c8,KJ,e4]
  rfl
def Cn(v:Wv):Prop:=(∃i:Int,v= .int i)\/(∃x:S,v= .str x)\/∃f:Fm,v=f.w/\f.sh/\f.fit/\f.dp<=3
theorem UG:IntMulOk 2 Ik:=by unfold Ik;decide+kernel
theorem content{r:Nat}{st:Hs}{a b:Int}{k:Nat}(h:Ro r st)(hs:sf a b)(hk:k<=2):∃v st',cM [.ref r,tI [a,b],.int k] st= .ok v st'/\(v= .bO\/Cn v)/\Dw r st st':=by
 obtain⟨w,s1,e1,w0,w1,d1⟩:=dig (m:=8) h (by decide) (by decide)
 unfold cM cg gW
 by_cases c0:w=0
 ·subst c0
  exact⟨.bO,s1,by simp[e1],.inl rfl,d1⟩
 have b0:(w == 0)=false:=beq_false_of_ne c0
 by_cases c1:w=1
 ·subst c1
  obtain⟨v,e⟩:=id d1.2
  have e2:=digit (many:=2 * Ik+1) e ⟨by unfold Ik;decide+kernel,by unfold Ik;decide+kernel⟩
  refine⟨.int (v.fmod (2 * Ik+1) - Ik),s1.set r (.lst [.int (v.fdiv (2 * Ik+1))]),?_,.inr (.inl ⟨_,rfl⟩),d1.trans ⟨fh.set,_,jq e⟩⟩
  simp[e1,Hj,Bx UG,e2]
 have b1:(w == 1)=false:=beq_false_of_ne c1
 by_cases c2:w=2
 ·subst c2
  obtain⟨d,s2,e2,_,_,d2⟩:=dig (m:=5) d1.2 (by decide) (by decide)
  exact⟨.int (d - 1),s2,by simp[e1,e2],.inr (.inl ⟨_,rfl⟩),d1.trans d2⟩
 have b2:(w == 2)=false:=beq_false_of_ne c2
 by_cases c3:w=3
 ·subst c3
  obtain⟨d,v,s4,e4,e5,hv,d4⟩:=pick (m:=4) (ws:=[.str "",.str "a",.str "b7",.str "no"]) d1.2 rfl (by decide) (by decide)
  obtain⟨i,rfl⟩:∃i:S,v= .str i:=by simp at hv;rcases hv with rfl | rfl | rfl | rfl<;>exact⟨_,rfl⟩
  exact⟨.str i,s4,by simp[e1,e4,e5],.inr (.inr (.inl ⟨i,rfl⟩)),d1.trans d4⟩
 have b3:(w == 3)=false:=beq_false_of_ne c3
 obtain⟨f,s2,e2,h1,h2,h3,d2⟩:=qr hs 5 (k:=k) d1.2 (by omega)
 have AN:aI [.ref r,tI [a,b],.int k] s1= .ok f.w s2:=e2
 exact⟨f.w,s2,by simp[e1,b0,b1,b2,b3,AN],.inr (.inr (.inr ⟨f,rfl,h1,h2,by omega⟩)),d1.trans d2⟩
theorem spot{st:Hs}{l:Nat}{ns:List Int}(h:aq st l=some (ns.map Wv.int)):∃a b st',eB [.ref l] st= .ok (tI [a,b]) st'/\sf a b/\∃more,st'=st++more:=by
 obtain⟨v,e⟩:=BD h (k:=0) (by decide)
 have lg:∀j:Int,(j=2\/j=4\/j=400)->j≠0/\j.natAbs.log2 < 9000:=by rintro j (rfl | rfl | rfl)<;>decide+kernel
 let f:=v.fdiv 2
 let x:=(f.fdiv 4).fmod 97
 let y:=(f.fdiv 400).fmod 23
 have x0:0<=x:=kK _ (by decide)
 have x1:x < 97:=oZ _ (by decide)
 have y0:0<=y:=kK _ (by decide)
 have y1:y < 23:=oZ _ (by decide)
 let s1:=st++[.lst [.int 0,.int x]]
 let s2:=s1++[.lst [.int 0,.int y]]
 obtain⟨p,e2,hp⟩:=BF (st:=st) (ws:=[.int 0,.int x]) (d:=f.fmod 2) (kK _ (by decide)) (by simpa using oZ f (by decide))
 obtain⟨q,e3,hq⟩:=BF (st:=s1) (ws:=[.int 0,.int y]) (d:=(f.fdiv 2).fmod 2) (kK _ (by decide)) (by simpa using oZ (f.fdiv 2) (by decide))
 obtain⟨a,rfl,ha⟩:∃a:Int,p= .int a/\0<=a/\a<=96:=by
  simp at hp
  rcases hp with rfl | rfl
  ·exact⟨0,rfl,by omega⟩
  ·exact⟨x,rfl,by omega⟩
 obtain⟨b,rfl,hb⟩:∃b:Int,q= .int b/\0<=b/\b<=22:=by
  simp at hq
  rcases hq with rfl | rfl
  ·exact⟨0,rfl,by omega⟩
  ·exact⟨y,rfl,by omega⟩
 refine⟨a,b,s2,?_,⟨ha.1,ha.2,hb.1,hb.2⟩,[.lst [.int 0,.int x],.lst [.int 0,.int y]],by simp[s2,s1]⟩
 have m1:∀{i:Int}{s:Hs},oMod (.int i) (.int 97) s= .ok (.int (i.fmod 97)) s:=nQ (by decide)
 have m2:∀{i:Int}{s:Hs},oMod (.int i) (.int 23) s= .ok (.int (i.fmod 23)) s:=nQ (by decide)
 have m3:∀{i:Int}{s:Hs},oMod (.int i) (.int 2) s= .ok (.int (i.fmod 2)) s:=nQ (by decide)
 have f2:∀{i:Int}{s:Hs},f_ (.int i) (.int 2) s= .ok (.int (i.fdiv 2)) s:=oI (lg 2 (by simp))
 have f4:∀{i:Int}{s:Hs},f_ (.int i) (.int 4) s= .ok (.int (i.fdiv 4)) s:=oI (lg 4 (by simp))
 have Yf:∀{i:Int}{s:Hs},f_ (.int i) (.int 400) s= .ok (.int (i.fdiv 400)) s:=oI (lg 400 (by simp))
 unfold eB cg kg
 dsimp only[s1,x,y,f] at e2 e3 ⊢
 simp[e,m1,m2,m3,f2,f4,Yf,e2]
 simp at e3
 simp[e3,tI,s2,s1,x,y,f]
theorem Yg{x:S}{ys:List S}{st:Hs}:Cy (.str x) (.tup (ys.map Wv.str)) st= .ok (.bl (decide (x∈ys))) st:=by
 have e1:(ys.map Wv.str).all gj=true:=by
  rw[rJ]
  intro w hw
  obtain⟨y,_,rfl⟩:=List.mem_map.mp hw
  rfl
 have e2:((ys.map Wv.str).any λz=>Q7 z (.str x))=decide (x∈ys):=by
  rw[List.any_map]
  induction ys with
  | nil=>rfl
  | cons y r ih=>
   rw[iG,ih (by rw[rJ];intro w hw;obtain⟨y,_,rfl⟩:=List.mem_map.mp hw;rfl)]
   show((y == x)||decide (x∈r))=_
   by_cases c:y=x
   ·subst c;simp
   ·have:(y == x)=false:=beq_false_of_ne c
    rw[this]
    simp[ay c]
 show(if gj (.str x)=true/\(ys.map Wv.str).all gj=true then Re.ok (Wv.bl ((ys.map Wv.str).any λz=>Q7 z (.str x))) st else .bad)=_
 rw[if_pos ⟨rfl,e1⟩,e2]
def AF:List S:=["sum","count","least","greatest","find"]
theorem xZ{x:S}{st:Hs}:fz [.str x] st= .ok (.bl (decide (x∈AF))) st:=by
 have e:Cy (.str x) (.pB [.str "sum",.str "count",.str "least",.str "greatest",.str "find"]) st= .ok (.bl (decide (x∈AF))) st:=Yg (ys:=AF)
 unfold fz cg mI
 simp[e]
theorem DA{x:Wv}{ws:List Wv}{st:Hs}:bF (.tup (x::ws)) (.int 0) st= .ok x st:=xN (L2.gq (j:=0) rfl)
theorem LY{x y:Wv}{ws:List Wv}{st:Hs}:bF (.tup (x::y::ws)) (.int 1) st= .ok y st:=xN (L2.gq (j:=1) rfl)
theorem KL{ws us:List Wv}{lo hi:Option Int}{st:Hs}(h:¬eL ws.length lo hi)(h2:sE ws lo hi=us):Cv (.tup ws) lo hi st= .ok (.tup us) st:=by
 show(if eL ws.length lo hi then Re.ok (Wv.tup ws) st else Q8 (.tup ws) lo hi st)=_
 rw[if_neg h]
 show(if eL ws.length lo hi then Re.bad else Re.ok (Wv.tup (sE ws lo hi)) st)=_
 rw[if_neg h,h2]
theorem uv{x:S}{k:Int}{st:Hs}(h:bJ.lookup x=some (.int k)):di [.str x] st= .ok (.int k) st:=by
 unfold di cg kG
 simp[KG h]
theorem fT{x:S}{k:Int}{ws us:List Wv}(h:bJ.lookup x=some (.int k))(n1:¬eL (ws.length+1) (some 1) (some (1+k)))(hc:sE (.str x::ws) (some 1) (some (1+k))=us)(st:Hs):dm [.tup (.str x::ws)] st= .ok (.tup us) st:=by
 unfold dm cg mK
 have s:=KL (ws:=.str x::ws) (us:=us) (lo:=some 1) (hi:=some (1+k)) (st:=st) n1 hc
 simp[DA,uv h,s]
theorem iC{x:S}{k:Int}{ws us:List Wv}(h:bJ.lookup x=some (.int k))(n1:¬eL (ws.length+1) (some (1+k)) none)(hc:sE (.str x::ws) (some (1+k)) none=us)(st:Hs):eD [.tup (.str x::ws)] st= .ok (.tup us) st:=by
 unfold eD cg oP
 have s:=KL (ws:=.str x::ws) (us:=us) (lo:=some (1+k)) (hi:=none) (st:=st) n1 hc
 simp[DA,uv h,s]
def Fm.kids:Fm->List Fm
 | .lit _ _=>[]
 | .pt _ _ _=>[]
 | .fd a _ _=>[a]
 | .o1 _ a=>[a]
 | .o2 _ a b=>[a,b]
 | .o3 a b c=>[a,b,c]
def Fm.tl:Fm->List Wv
 | .lit _ ws=>ws
 | .pt _ l p=>[tI l,tI p]
 | .fd _ l p=>[tI l,tI p]
 | _=>[]
theorem lk1{x:S}(h:x∈W1):bJ.lookup x=some (.int 1):=by
 simp only[W1,aP,aR,or_false] at h
 rcases h with rfl | rfl<;>rfl
theorem lk2{x:S}(h:x∈W2):bJ.lookup x=some (.int 2):=by
 simp only[W2,aP,aR,or_false] at h
 rcases h with rfl | rfl | rfl | rfl | rfl | rfl | rfl | rfl | rfl<;>rfl
theorem lk0{x:S}(h:x∈AW):bJ.lookup x=some (.int 0):=by
 simp only[AW,aP,aR,or_false] at h
 rcases h with rfl | rfl | rfl | rfl<;>rfl
theorem node{f:Fm}(h:f.sh):(∀st,dm [f.w] st= .ok (.tup (f.kids.map Fm.w)) st)/\∀st,eD [f.w] st= .ok (.tup f.tl) st:=by
 cases f with
 | lit x ws=>
  rcases h with ⟨rfl,i,rfl⟩ | ⟨rfl,s,rfl⟩ | ⟨rfl,rfl⟩
  ·exact⟨fT (k:=0) rfl (by show ¬eL 2 (some 1) (some (1+0));decide+kernel) rfl,iC (k:=0) rfl (by show ¬eL 2 (some (1+0)) none;decide+kernel) rfl⟩
  ·exact⟨fT (k:=0) rfl (by show ¬eL 2 (some 1) (some (1+0));decide+kernel) rfl,iC (k:=0) rfl (by show ¬eL 2 (some (1+0)) none;decide+kernel) rfl⟩
  ·exact⟨fT (k:=0) rfl (by show ¬eL 1 (some 1) (some (1+0));decide+kernel) rfl,iC (k:=0) rfl (by show ¬eL 1 (some (1+0)) none;decide+kernel) rfl⟩
 | pt x l p=>
  have lk:bJ.lookup x=some (.int 0):=by
   rcases h with ⟨rfl,_⟩ | ⟨hx,_⟩
   ·rfl
   ·exact lk0 hx
  exact⟨fT (k:=0) lk (by show ¬eL 3 (some 1) (some (1+0));decide+kernel) rfl,iC (k:=0) lk (by show ¬eL 3 (some (1+0)) none;decide+kernel) rfl⟩
 | fd a l p=>exact⟨fT (k:=1) rfl (by show ¬eL 4 (some 1) (some (1+1));decide+kernel) rfl,iC (k:=1) rfl (by show ¬eL 4 (some (1+1)) none;decide+kernel) rfl⟩
 | o1 x a=>exact⟨fT (k:=1) (lk1 h.1) (by show ¬eL 2 (some 1) (some (1+1));decide+kernel) rfl,iC (k:=1) (lk1 h.1) (by show ¬eL 2 (some (1+1)) none;decide+kernel) rfl⟩
 | o2 x a b=>exact⟨fT (k:=2) (lk2 h.1) (by show ¬eL 3 (some 1) (some (1+2));decide+kernel) rfl,iC (k:=2) (lk2 h.1) (by show ¬eL 3 (some (1+2)) none;decide+kernel) rfl⟩
 | o3 a b c=>exact⟨fT (k:=3) rfl (by show ¬eL 4 (some 1) (some (1+3));decide+kernel) rfl,iC (k:=3) rfl (by show ¬eL 4 (some (1+3)) none;decide+kernel) rfl⟩
theorem Gr.Hk{base st:Hs}{rr:Nat}{o:Ob}(h:base.length<=rr)(g:Gr base st):Gr base (st.set rr o):=⟨by simpa using g.1,λj hj=>by rw[fB (by omega)];exact g.2 j hj⟩
theorem uw{α ι:Type}{ck:Hs->Prop}{gt:ι->Wv->Hs->Re Bool}{ge:ι->Wv->Hs->Re Wv}{rr:Nat}(f g:α->Wv)(hck:∀st,ck st)(ht:∀i v st,gt i v st= .ok true st) :
  ∀(ws:List α),(∀a∈ws,∀st,∃st',Gr st st'/\∀i,ge i (f a) st= .ok (g a) st')->∀(acc:List Wv)(st:Hs),st[rr]? =some (.lst acc)->acc.length+ws.length < lim->
   ∃st',st'[rr]? =some (.lst (acc++ws.map g))/\(∀base:Hs,base.length<=rr->Gr base st->Gr base st')/\∀i,iY ck (gt i) (ge i) rr (ws.map f) st=some st'
 | [],_,acc,st,hg,_=>⟨st,by simpa using hg,λ_ _ h=>h,λ_=>rfl⟩
 | a::r,h,acc,st,hg,hl=>by
  have hl':acc.length+(r.length+1) < lim:=hl
  obtain⟨s1,g1,e1⟩:=h a bw st
  have hg1:=g1.get hg
  obtain⟨s2,g2,k2,e2⟩:=uw (ck:=ck) (gt:=gt) (ge:=ge) f g hck ht r (λb hb=>h b (aO _ hb)) (acc++[g a]) (s1.set rr (.lst (acc++[g a]))) (jq hg1) (by simp;omega)
  refine⟨s2,by simpa using g2,λbase hb k=>k2 base hb (Gr.Hk hb (k.trans g1)),λi=>?_⟩
  rw[aK]
  unfold iY
  rw[ht]
  dsimp only
  rw[e1 i]
  dsimp only
  rw[GX hg1 (by omega)]
  dsimp only
  rw[if_pos (hck _)]
  exact e2 i
theorem Pj{l:Nat}{st:Hs}{ws:List Wv}(h:st[l]? =some (.lst ws)):nD [.ref l] st= .ok (.tup ws) st:=by
 show(match aq st l with | some ws=>Re.ok (Wv.tup ws) st | none=> .bad)=_
 rw[vG h]
theorem cat{x:Wv}{xs ys:List Wv}{st:Hs}(h:xs.length+ys.length<=100):a9 (.tup (x::xs)) (.tup ys) st= .ok (.tup (x::(xs++ys))) st:=by
 show(if(x::xs).length+ys.length<=lim then Re.ok (Wv.tup (x::xs++ys)) st else .bad)=_
 rw[if_pos (by simp[lim];omega)]
 rfl
section
variable {L:LF} {wy:Wv}
def Rb(L:LF)(wy:Wv)(n:Nat)(f f':Fm):Prop:=∀st:Hs,∃st',Gr st st'/\∀p:Lm,bB p L n [f.w,.fn p [wy]] st= .ok f'.w st'
theorem LZ{n:Nat}{ks:List (Fm×Fm)}(h:∀q∈ks,Rb L wy n q.1 q.2)(hl:ks.length<=3)(st:Hs):∃st',Gr st st'/\st'[st.length]? =some (.lst (ks.map λq=>q.2.w))/\
  ∀(p:Lm)(ρ:bC),ρ[1]? =some (some (.fn p [wy]))->fF [("goes",1)] (iR p L (bB p L n)) (fM p L (bB p L n)) ρ (none,ks.map λq=>q.1.w) st= .ok (.ref st.length) st':=by
 obtain⟨st',g1,g2,e⟩:=uw (ι:=Lm) (ck:=jQ (none,ks.map λq=>q.1.w)) (gt:=λp v=>iR p L (bB p L n) (some v::[some (.fn p [wy])])) (ge:=λp v=>fM p L (bB p L n) (some v::[some (.fn p [wy])])) (rr:=st.length) (λq:Fm×Fm=>q.1.w) (λq=>q.2.w) (λ_=>trivial) (λ_ _ _=>rfl) ks
  (λq hq s=>by
   obtain⟨s',k,e⟩:=h q hq s
   refine⟨s',k,λp=>?_⟩
   unfold fM
   simp[e p]) [] (st++[.lst []]) ik (by simp[lim];omega)
 refine⟨st',g2 st (au _) Gr.push,by simpa using g1,λp ρ hρ=>?_⟩
 have ec:ff [("goes",1)] ρ=[some (.fn p [wy])]:=by
  unfold ff
  simp[hρ]
 unfold fF
 rw[ec]
 have:=e p
 simp only[this]
theorem BG{n:Nat}{x:S}{ks:List (Fm×Fm)}{ws tl:List Wv}(hp:∀st,dm [.tup (.str x::ws)] st= .ok (.tup (ks.map λq=>q.1.w)) st)(ht:∀st,eD [.tup (.str x::ws)] st= .ok (.tup tl) st)(hx:x≠"at")(ha:x∉AF)
  (h:∀q∈ks,Rb L wy n q.1 q.2)(hl:ks.length<=3)(hl2:tl.length<=3)(st:Hs):∃st',Gr st st'/\∀p:Lm,bB p L (n+1) [.tup (.str x::ws),.fn p [wy]] st= .ok (.tup (.str x::((ks.map λq=>q.2.w)++tl))) st':=by
 obtain⟨s1,g1,l1,e1⟩:=LZ h hl st
 refine⟨s1,g1,λp=>?_⟩
 have bx:(x == ("at":S))=false:=beq_false_of_ne hx
 have c1:=cat (x:=.str x) (xs:=[]) (ys:=ks.map λq=>q.2.w) (st:=s1) (by simp;omega)
 have c2:=cat (x:=.str x) (xs:=ks.map λq=>q.2.w) (ys:=tl) (st:=s1) (by simp;omega)
 have e2:=e1 p [some (.tup (.str x::ws)),some (.fn p [wy]),some (.str x),some (.tup tl),none] rfl
 rw[gZ]
 unfold cg gN
 simp[DA,ht,bx,xZ,ha,hp,e2,Pj l1,c1,c2]
def oW:Option (List Int)->Wv
 | none=> .bO
 | some l=>tI l
theorem UH{p:Lm}{n i:Nat}{g:GA}{ρ:bC}{st st1:Hs}{caps ws:List Wv}(h:ρ[i]? =some (some (.fn p caps)))(h1:g ρ st= .ok ws st1)(hn:ws.length=n):mw p n L i g ρ st=L caps ws st1:=by
 unfold mw
 rw[h]
 dsimp only
 rw[if_pos rfl,h1]
 show(if ws.length=n then L caps ws st1 else .bad)=_
 rw[if_pos hn]
def Pk(x:S)(us:List Wv)(p':List Int):Option (List Int)->Wv
 | none=> .tup [.str "lost"]
 | some l'=> .tup (.str x::(us++[tI l',tI p']))
theorem L0{n:Nat}{x:S}{ks:List (Fm×Fm)}{ws:List Wv}{l p':List Int}{o:Option (List Int)}(hp:∀st,dm [.tup (.str x::ws)] st= .ok (.tup (ks.map λq=>q.1.w)) st)(ht:∀st,eD [.tup (.str x::ws)] st= .ok (.tup [tI l,tI p']) st)(hx:x="at"\/x∈AF)
  (hL:∀st,∃st',Gr st st'/\L [wy] [.str x,tI l,tI p'] st= .ok (oW o) st')(h:∀q∈ks,Rb L wy n q.1 q.2)(hl:ks.length<=3)(st:Hs) :
  ∃st',Gr st st'/\∀p:Lm,bB p L (n+1) [.tup (.str x::ws),.fn p [wy]] st= .ok (Pk x (ks.map λq=>q.2.w) p' o) st':=by
 obtain⟨s0,g0,e0⟩:=hL st
 have cond:∀(p:Lm)(st:Hs),Su (cZ (ai oEq (af 2) (gC (Wv.str "at")))) (lN (av 1 fz (aa (af 2) aj))) [some (.tup (.str x::ws)),some (.fn p [wy]),some (.str x),some (.tup [tI l,tI p']),none] st= .ok true st:=λp st=>by
  by_cases c:x="at"
  ·subst c;simp
  ·have b:(x == ("at":S))=false:=beq_false_of_ne c
   have ha:x∈AF:=hx.resolve_left c
   simp[b,xZ,ha]
 have cf:∀p:Lm,mw p 3 L 1 (aa (af 2) (aa (ai bF (af 3) (gC (.int 0))) (aa (ai bF (af 3) (gC (.int 1))) aj))) [some (.tup (.str x::ws)),some (.fn p [wy]),some (.str x),some (.tup [tI l,tI p']),none] st= .ok (oW o) s0:=λp=>by
  rw[UH (n:=3) (caps:=[wy]) (ws:=[.str x,tI l,tI p']) (st1:=st) rfl (by simp[DA,LY]) rfl]
  exact e0
 cases o with
 | none=>
  refine⟨s0,g0,λp=>?_⟩
  have V4:=cf p
  have is:SK (oW none) .bO s0= .ok (.bl true) s0:=rfl
  rw[gZ]
  unfold cg gN
  simp[DA,ht,-Us,cond,V4,is,Pk]
 | some l'=>
  obtain⟨s1,g1,l1,e1⟩:=LZ h hl s0
  refine⟨s1,g0.trans g1,λp=>?_⟩
  have V4:=cf p
  have is:SK (oW (some l')) .bO s0= .ok (.bl false) s0:=rfl
  have c1:=cat (x:=.str x) (xs:=[]) (ys:=ks.map λq=>q.2.w) (st:=s1) (by simp;omega)
  have c2:=cat (x:=.str x) (xs:=ks.map λq=>q.2.w) (ys:=[tI l',tI p']) (st:=s1) (by simp;omega)
  have e2:=e1 p [some (.tup (.str x::ws)),some (.fn p [wy]),some (.str x),some (.tup [tI l',tI p']),some (tI l')] rfl
  have oWs:oW (some l')=tI l':=rfl
  rw[oWs] at V4 is
  rw[gZ]
  unfold cg gN
  simp[DA,LY,ht,-Us,cond,V4,is,hp,e2,Pj l1,c1,c2,Pk]
def Fm.mP(g:S->List Int->List Int->Option (List Int)):Fm->Fm
 | .lit x ws=> .lit x ws
 | .pt x l p=>match g x l p with | none=> .lit "lost" [] | some l'=> .pt x l' p
 | .fd a l p=>match g "find" l p with | none=> .lit "lost" [] | some l'=> .fd (a.mP g) l' p
 | .o1 x a=> .o1 x (a.mP g)
 | .o2 x a b=> .o2 x (a.mP g) (b.mP g)
 | .o3 a b c=> .o3 (a.mP g) (b.mP g) (c.mP g)
theorem L6{x:S}(h:x∈W1):x≠"at"/\x∉AF:=by
 have:∀x∈W1,x≠"at"/\x∉AF:=by decide+kernel
 exact this x h
theorem L7{x:S}(h:x∈W2):x≠"at"/\x∉AF:=by
 have:∀x∈W2,x≠"at"/\x∉AF:=by decide+kernel
 exact this x h
theorem UI{x:S}(h:x∈AW):x∈AF:=by
 have:∀x∈AW,x∈AF:=by decide+kernel
 exact this x h
theorem gL{g:S->List Int->List Int->Option (List Int)}(hL:∀x l p,(KI l p\/Ij l p)->∀st,∃st',Gr st st'/\L [wy] [.str x,tI l,tI p] st= .ok (oW (g x l p)) st') :
  ∀(f:Fm)(n:Nat),f.sh->f.dp<=n->Rb L wy n f (f.mP g)
 | f,0,_,hd=>by cases f<;>simp[Fm.dp] at hd
 | .lit x ws,n+1,h,_=>λst=>by
  obtain⟨n1,n2⟩:=node (f:=.lit x ws) h
  have hx:x≠"at"/\x∉AF:=by
   rcases h with ⟨rfl,_⟩ | ⟨rfl,_⟩ | ⟨rfl,_⟩<;>decide+kernel
  have hl:ws.length<=3:=by
   rcases h with ⟨_,i,rfl⟩ | ⟨_,i,rfl⟩ | ⟨_,rfl⟩<;>simp
  exact BG (ks:=[]) n1 n2 hx.1 hx.2 (λ_ z=>by cases z) (bG _) hl st
 | .pt x l p,n+1,h,_=>λst=>by
  obtain⟨n1,n2⟩:=node (f:=.pt x l p) h
  have hx:x="at"\/x∈AF:=h.imp (λz=>z.1) λz=>UI z.1
  have hs:KI l p\/Ij l p:=h.imp (λz=>z.2) λz=>z.2
  obtain⟨s1,g1,e1⟩:=L0 (n:=n) (x:=x) (ws:=[tI l,tI p]) (ks:=[]) (o:=g x l p) n1 n2 hx (hL x l p hs) (λ_ z=>by cases z) (bG _) st
  refine⟨s1,g1,λq=>?_⟩
  show bB q L (n+1) [.tup (.str x::[tI l,tI p]),.fn q [wy]] st=_
  rw[e1 q]
  simp only[Fm.mP]
  cases g x l p<;>rfl
 | .fd a l p,n+1,h,hd=>λst=>by
  obtain⟨n1,n2⟩:=node (f:=.fd a l p) h
  have ih:=gL hL a n h.1 (by simp[Fm.dp] at hd;omega)
  obtain⟨s1,g1,e1⟩:=L0 (n:=n) (x:="find") (ws:=[a.w,tI l,tI p]) (ks:=[(a,a.mP g)]) (o:=g "find" l p) n1 n2 (.inr (by decide+kernel)) (hL "find" l p (.inr h.2)) (λq z=>by rw[List.mem_singleton.mp z];exact ih) (by simp) st
  refine⟨s1,g1,λq=>?_⟩
  show bB q L (n+1) [.tup (.str "find"::[a.w,tI l,tI p]),.fn q [wy]] st=_
  rw[e1 q]
  simp only[Fm.mP]
  cases g "find" l p<;>rfl
 | .o1 x a,n+1,h,hd=>λst=>by
  obtain⟨n1,n2⟩:=node (f:=.o1 x a) h
  have ih:=gL hL a n h.2 (by simp[Fm.dp] at hd;omega)
  exact BG (ks:=[(a,a.mP g)]) n1 n2 (L6 h.1).1 (L6 h.1).2 (λq z=>by rw[List.mem_singleton.mp z];exact ih) (by simp) (by simp[Fm.tl]) st
 | .o2 x a b,n+1,h,hd=>λst=>by
  obtain⟨n1,n2⟩:=node (f:=.o2 x a b) h
  have i1:=gL hL a n h.2.1 (by simp[Fm.dp] at hd;omega)
  have i2:=gL hL b n h.2.2 (by simp[Fm.dp] at hd;omega)
  exact BG (ks:=[(a,a.mP g),(b,b.mP g)]) n1 n2 (L7 h.1).1 (L7 h.1).2 (List.forall_mem_cons.mpr ⟨i1,List.forall_mem_cons.mpr ⟨i2,λ_ z=>by cases z⟩⟩) (by simp) (by simp[Fm.tl]) st
 | .o3 a b c,n+1,h,hd=>λst=>by
  obtain⟨n1,n2⟩:=node (f:=.o3 a b c) h
  have i1:=gL hL a n h.1 (by simp[Fm.dp] at hd;omega)
  have i2:=gL hL b n h.2.1 (by simp[Fm.dp] at hd;omega)
  have i3:=gL hL c n h.2.2 (by simp[Fm.dp] at hd;omega)
  exact BG (x:="if") (ks:=[(a,a.mP g),(b,b.mP g),(c,c.mP g)]) n1 n2 (by decide+kernel) (by decide+kernel) (List.forall_mem_cons.mpr ⟨i1,List.forall_mem_cons.mpr ⟨i2,List.forall_mem_cons.mpr ⟨i3,λ_ z=>by cases z⟩⟩⟩) (by simp) (by simp[Fm.tl]) st
end
def nx(n q s:Int):Int:=if q=1 then n else n+s
def zQ(t:Int×Int×Int):Wv:=.tup [.int t.1,.int t.2.1,.int t.2.2]
theorem xF{n q s:Int}{st:Hs}:bT [some (.int n),some (.int q),some (.int s)] st= .ok (.int (nx n q s)) st:=by
 unfold bT nx
 by_cases c:q=1
 ·subst c;simp
 ·have b:(q == 1)=false:=beq_false_of_ne c
  simp[b,c]
theorem L8:∀(ts:List (Int×Int×Int))(acc:List Wv)(st:Hs),acc.length+ts.length < lim->fX (vj none) 3 (λv=>cY (v.map some++[])) (λv=>bT (v.map some++[])) st.length (ts.map zQ) (st++[.lst acc])=some (st++[.lst (acc++ts.map λt=> .int (nx t.1 t.2.1 t.2.2))])
 | [],acc,st,_=>by simp[fX]
 | t::r,acc,st,hl=>by
  have hl':acc.length+(r.length+1) < lim:=hl
  rw[aK]
  unfold fX
  have e1:Fj 3 (zQ t)=some [.int t.1,.int t.2.1,.int t.2.2]:=rfl
  rw[e1]
  dsimp only
  have e2:cY (List.map some [Wv.int t.1,.int t.2.1,.int t.2.2]++[]) (st++[.lst acc])= .ok true (st++[.lst acc]):=rfl
  rw[e2]
  dsimp only
  have e3:bT (List.map some [Wv.int t.1,.int t.2.1,.int t.2.2]++[]) (st++[.lst acc])= .ok (.int (nx t.1 t.2.1 t.2.2)) (st++[.lst acc]):=xF
  rw[e3]
  dsimp only
  rw[By (by omega)]
  dsimp only
  rw[if_pos (show vj none _ from trivial),L8 r (acc++[Wv.int (nx t.1 t.2.1 t.2.2)]) st (by simp;omega)]
  simp
theorem stepped{l p s:List Int}{ts:List (Int×Int×Int)}{a b:Int}(h1:l.length<=p.length/\l.length<=4)(hz:rh (l.map Wv.int) (p.map Wv.int) ([a,b,a,b].map Wv.int)=ts.map zQ)(hl:ts.length<=4)(st:Hs) :
  eE [tI l,tI p,tI [a,b]] st= .ok (tI (ts.map λt=>nx t.1 t.2.1 t.2.2)) (st++[.lst (ts.map λt=> .int (nx t.1 t.2.1 t.2.2))]):=by
 have c1:a9 (tI [a,b]) (tI [a,b]) st= .ok (.tup [.int a,.int b,.int a,.int b]) st:=cat (x:=.int a) (xs:=[.int b]) (ys:=[.int a,.int b]) (by simp)
 have z:OB [tI l,tI p,.tup [.int a,.int b,.int a,.int b]] st= .ok (none,ts.map zQ) st:=by
  show(if(l.map Wv.int).length<=(p.map Wv.int).length/\(l.map Wv.int).length<=([a,b,a,b].map Wv.int).length then Re.ok (none,rh (l.map Wv.int) (p.map Wv.int) ([a,b,a,b].map Wv.int)) st else .bad)=_
  rw[if_pos (by simpa using h1),hz]
 have r:kc 3 [] cY bT [some (tI l),some (tI p),some (tI [a,b])] (none,ts.map zQ) st= .ok (.ref st.length) (st++[.lst (ts.map λt=> .int (nx t.1 t.2.1 t.2.2))]):=by
  unfold kc
  have:=L8 ts [] st (by simp[lim];omega)
  show(match fX (vj none) 3 (λv=>cY (v.map some++[])) (λv=>bT (v.map some++[])) st.length (ts.map zQ) (st++[.lst []]) with | some mO=>Re.ok (Wv.ref st.length) mO | none=> .bad)=_
  rw[this]
  simp
 have gz:t_ (aa (af 0) (aa (af 1) (aa (ai a9 (af 2) (af 2)) aj))) [some (tI l),some (tI p),some (tI [a,b])] st= .ok (none,ts.map zQ) st:=by
  unfold t_
  simp[c1,z]
 have gc:mv 3 [] (t_ (aa (af 0) (aa (af 1) (aa (ai a9 (af 2) (af 2)) aj)))) cY bT [some (tI l),some (tI p),some (tI [a,b])] st= .ok (.ref st.length) (st++[.lst (ts.map λt=> .int (nx t.1 t.2.1 t.2.2))]):=by
  unfold mv
  rw[gz]
  exact r
 have tc:nD [.ref st.length] (st++[.lst (ts.map λt=> .int (nx t.1 t.2.1 t.2.2))])= .ok (tI (ts.map λt=>nx t.1 t.2.1 t.2.2)) (st++[.lst (ts.map λt=> .int (nx t.1 t.2.1 t.2.2))]):=by
  rw[Pj ik]
  unfold tI
  simp
 unfold eE cg oT
 simp[gc,tc]
def stp:List Int->List Int->Int->Int->List Int
 | x::l,q::p,a,b=>nx x q a::stp l p b a
 | _,_,_,_=>[]
theorem sg{l p:List Int}{a b:Int}(h:KI l p\/Ij l p)(st:Hs):∃st',Gr st st'/\eE [tI l,tI p,tI [a,b]] st= .ok (tI (stp l p a b)) st':=by
 rcases h with ⟨x,y,q,r,rfl,rfl,_⟩ | ⟨x,y,z,w,q,r,s,t,rfl,rfl,_⟩
 ·exact⟨_,Gr.push,stepped (s:=[]) (ts:=[(x,q,a),(y,r,b)]) ⟨by simp,by simp⟩ rfl (by simp) st⟩
 ·exact⟨_,Gr.push,stepped (s:=[]) (ts:=[(x,q,a),(y,r,b),(z,s,a),(w,t,b)]) ⟨by simp,by simp⟩ rfl (by simp) st⟩
theorem Hl{l p:List Int}{a b:Int}(h:KI l p):KI (stp l p a b) p:=by
 obtain⟨x,y,q,r,rfl,rfl,h⟩:=h
 exact⟨_,_,q,r,rfl,rfl,h⟩
theorem vX{l p:List Int}{a b:Int}(h:Ij l p):Ij (stp l p a b) p:=by
 obtain⟨x,y,z,w,q,r,s,t,rfl,rfl,h⟩:=h
 exact⟨_,_,_,_,q,r,s,t,rfl,rfl,h⟩
instance {a b:Int}:Decidable (cD a b):=by unfold cD;infer_instance
instance {a b c d:Int}:Decidable (c7 a b c d):=by unfold c7;infer_instance
instance:∀l:List Int,Decidable (Fits l)
 | []=>isFalse (λh=>h)
 | [_]=>isFalse (λh=>h)
 | [a,b]=>inferInstanceAs (Decidable (cD a b))
 | [_,_,_]=>isFalse (λh=>h)
 | [a,b,c,d]=>inferInstanceAs (Decidable (c7 a b c d))
 | _::_::_::_::_::_=>isFalse (λh=>h)
theorem kL{a b:Int}{ws:List Wv}{st:Hs}:bX [.tup (.int a:: .int b::ws)] st= .ok (.bl (decide (cD a b))) st:=by
 unfold bX cg mG
 by_cases c1:0<=a
 ·by_cases c2:a < 99
  ·by_cases c3:0<=b
   ·by_cases c4:b < 26
    ·have e:decide (cD a b)=true:=decide_eq_true ⟨c1,by omega,c3,by omega⟩
     simp[DA,LY,c1,c2,c3,c4,e]
    ·have e:decide (cD a b)=false:=decide_eq_false λh=>c4 (by have:=h.2.2.2;omega)
     simp[DA,LY,c1,c2,c3,c4,e]
   ·have e:decide (cD a b)=false:=decide_eq_false λh=>c3 h.2.2.1
    simp[DA,LY,c1,c2,c3,e]
  ·have e:decide (cD a b)=false:=decide_eq_false λh=>c2 (by have:=h.2.1;omega)
   simp[DA,LY,c1,c2,e]
 ·have e:decide (cD a b)=false:=decide_eq_false λh=>c1 h.1
  simp[DA,LY,c1,e]
theorem Yh{i j:Int}{st:Hs}(h:(-1000000<=i/\i<=1000000)\/(-1000000<=j/\j<=1000000)):cG (.int i) (.int j) st= .ok (.int (i * j)) st:=by
 rcases h with h | h
 ·exact um (by omega) (by omega)
 ·exact mul_r (by omega) (by omega)
theorem L9{a b c d:Wv}{st:Hs}:Cv (.tup [a,b,c,d]) none (some 2) st= .ok (.tup [a,b]) st:=KL (by show ¬eL 4 none (some 2);decide+kernel) rfl
theorem L_{a b c d:Wv}{st:Hs}:Cv (.tup [a,b,c,d]) (some 2) none st= .ok (.tup [c,d]) st:=KL (by show ¬eL 4 (some 2) none;decide+kernel) rfl
def Co(a b c d:Int):Prop:=(a<=c/\b<=d)/\cD a b/\cD c d
instance {a b c d:Int}:Decidable (Co a b c d):=by unfold Co;infer_instance
theorem ix4{a b c d:Wv}{st:Hs}:bF (.tup [a,b,c,d]) (.int 0) st= .ok a st/\bF (.tup [a,b,c,d]) (.int 1) st= .ok b st/\bF (.tup [a,b,c,d]) (.int 2) st= .ok c st/\bF (.tup [a,b,c,d]) (.int 3) st= .ok d st :=
 ⟨xN (L2.gq (j:=0) rfl),xN (L2.gq (j:=1) rfl),xN (L2.gq (j:=2) rfl),xN (L2.gq (j:=3) rfl)⟩
theorem kM{a b c d:Int}{st:Hs}:cF [tI [a,b,c,d]] st= .ok (.bl (decide (Co a b c d))) st:=by
 obtain⟨i0,i1,i2,i3⟩:=ix4 (a:=.int a) (b:=.int b) (c:=.int c) (d:=.int d) (st:=st)
 unfold cF cg iM tI
 simp only[aK,m6]
 by_cases c1:a<=c
 ·by_cases c2:b<=d
  ·by_cases c3:cD a b
   ·have e:decide (Co a b c d)=decide (cD c d):=by unfold Co;simp[c1,c2,c3]
    simp[i0,i1,i2,i3,c1,c2,L9,L_,kL,c3,e]
   ·have e:decide (Co a b c d)=false:=decide_eq_false λh=>c3 h.2.1
    simp[i0,i1,i2,i3,c1,c2,L9,L_,kL,c3,e]
  ·have e:decide (Co a b c d)=false:=decide_eq_false λh=>c2 h.1.2
   simp[i0,i1,i2,i3,c1,c2,e]
 ·have e:decide (Co a b c d)=false:=decide_eq_false λh=>c1 h.1.1
  simp[i0,i1,i2,i3,c1,e]
theorem vY{a b c d:Int}{st:Hs}:ft [tI [a,b,c,d]] st= .ok (.bl (decide (c7 a b c d))) st:=by
 obtain⟨i0,i1,i2,i3⟩:=ix4 (a:=.int a) (b:=.int b) (c:=.int c) (d:=.int d) (st:=st)
 unfold ft cg oM
 by_cases h:Co a b c d
 ·have hm:cG (.int (c - a+1)) (.int (d - b+1)) st= .ok (.int ((c - a+1) * (d - b+1))) st:=by
   obtain⟨⟨h1,h2⟩,h3,h4⟩:=h
   exact Yh (.inl ⟨by omega,by have:=h3.1;have:=h4.2.1;omega⟩)
  have am:fS [tI [a,b,c,d]] st= .ok (.int ((c - a+1) * (d - b+1))) st:=by
   unfold fS cg kD tI
   simp only[aK,m6]
   simp[i0,i1,i2,i3,hm]
  have e:decide (c7 a b c d)=decide ((c - a+1) * (d - b+1)<=300):=by
   obtain⟨⟨h1,h2⟩,h3,h4⟩:=h
   unfold cD at h3 h4
   unfold c7
   congr 1
   apply propext
   constructor
   ·exact λz=>z.2.2.2.2.2.2
   ·exact λz=>⟨h3.1,h1,h4.2.1,h3.2.2.1,h2,h4.2.2.2,z⟩
  have hc:=kM (a:=a) (b:=b) (c:=c) (d:=d) (st:=st)
  rw[decide_eq_true h] at hc
  simp[hc,am,e]
 ·have hc:=kM (a:=a) (b:=b) (c:=c) (d:=d) (st:=st)
  rw[decide_eq_false h] at hc
  have e:decide (c7 a b c d)=false:=decide_eq_false λz=>h (by
   obtain⟨z1,z2,z3,z4,z5,z6,_⟩:=z
   exact⟨⟨z2,z5⟩,⟨z1,by omega,z4,by omega⟩,⟨by omega,z3,by omega,z6⟩⟩)
  simp[hc,e]
def Pl(l:List Int):Option (List Int):=if Fits l then some l else none
theorem KN{l p:List Int}(h:KI l p\/Ij l p)(st:Hs):iZ [tI l] st= .ok (oW (Pl l)) st:=by
 unfold iZ cg oR Pl
 rcases h with ⟨x,y,q,r,rfl,rfl,_⟩ | ⟨x,y,z,w,q,r,s,t,rfl,rfl,_⟩
 ·have ln:me [tI [x,y]] st= .ok (.int 2) st:=rfl
  have ip:bX [tI [x,y]] st= .ok (.bl (decide (cD x y))) st:=kL (ws:=[])
  by_cases c:cD x y
  ·rw[decide_eq_true c] at ip
   rw[if_pos (show Fits [x,y] from c)]
   simp[ln,ip,oW]
  ·rw[decide_eq_false c] at ip
   rw[if_neg (show ¬Fits [x,y] from c)]
   simp[ln,ip,oW]
 ·have ln:me [tI [x,y,z,w]] st= .ok (.int 4) st:=rfl
  have ip:=vY (a:=x) (b:=y) (c:=z) (d:=w) (st:=st)
  by_cases c:c7 x y z w
  ·rw[decide_eq_true c] at ip
   rw[if_pos (show Fits [x,y,z,w] from c)]
   simp[ln,ip,oW]
  ·rw[decide_eq_false c] at ip
   rw[if_neg (show ¬Fits [x,y,z,w] from c)]
   simp[ln,ip,oW]
def g1(a b:Int):S->List Int->List Int->Option (List Int):=λ_ l p=>some (stp l p (-a) (-b))
def g2(a b:Int):S->List Int->List Int->Option (List Int):=λ_ l p=>Pl (stp l p a b)
theorem kN(g:S->List Int->List Int->Option (List Int)):∀f:Fm,(f.mP g).dp<=f.dp
 | .lit _ _=>au _
 | .pt x l p=>by simp only[Fm.mP];cases g x l p<;>simp[Fm.dp]
 | .fd a l p=>by
  have:=kN g a
  simp only[Fm.mP]
  cases g "find" l p<;>simp only[Fm.dp]<;>omega
 | .o1 x a=>by have:=kN g a;simp only[Fm.mP,Fm.dp];omega
 | .o2 x a b=>by have:=kN g a;have:=kN g b;simp only[Fm.mP,Fm.dp];omega
 | .o3 a b c=>by have:=kN g a;have:=kN g b;have:=kN g c;simp only[Fm.mP,Fm.dp];omega
theorem kO(a b:Int):∀f:Fm,f.sh->(f.mP (g1 a b)).sh
 | .lit _ _,h=>h
 | .pt x l p,h=>h.imp (λz=>⟨z.1,Hl z.2⟩) λz=>⟨z.1,vX z.2⟩
 | .fd f l p,h=>⟨kO a b f h.1,vX h.2⟩
 | .o1 x f,h=>⟨h.1,kO a b f h.2⟩
 | .o2 x f g,h=>⟨h.1,kO a b f h.2.1,kO a b g h.2.2⟩
 | .o3 f g k,h=>⟨kO a b f h.1,kO a b g h.2.1,kO a b k h.2.2⟩
theorem UJ{FL:Rg}{i:Nat}{g gb:GE}{ρ:bC}{st st1:Hs}{w wy:Wv}{r:Re Wv}(h1:g ρ st= .ok w st1)(h2:ρ[i]? =some (some wy))(h3:∀p,FL p (lP gb) [w,.fn p [wy]] st1=r):y6 FL i g gb ρ st=r:=by
 unfold y6
 rw[h1]
 show(match ρ[i]? with | some (some wy)=>tZ λp=>FL p (lP gb) [w,.fn p [wy]] st1 | _=> .bad)=r
 rw[h2]
 exact FD h3
theorem KO{f:Fm}{a b:Int}(h:f.sh)(hd:f.dp<=8)(st:Hs):∃st',Gr st st'/\i5 [f.w,tI [a,b]] st= .ok (f.mP (g1 a b)).w st':=by
 have hL:∀x l p,(KI l p\/Ij l p)->∀st,∃st',Gr st st'/\lP gK [tI [-a,-b]] [.str x,tI l,tI p] st= .ok (oW (g1 a b x l p)) st':=λx l p hs st=>by
  obtain⟨s1,k1,e1⟩:=sg (a:=-a) (b:=-b) hs st
  refine⟨s1,k1,?_⟩
  unfold lP gK
  simp[e1,g1,oW]
 obtain⟨s1,k1,e1⟩:=gL hL f 8 h hd st
 refine⟨s1,k1,?_⟩
 have gl:=UJ (FL:=bh) (i:=2) (g:=af 0) (gb:=gK) (ρ:=[some f.w,some (tI [a,b]),some (tI [-a,-b])]) (st:=st) rfl rfl e1
 have i0:bF (tI [a,b]) (.int 0) st= .ok (.int a) st:=DA
 have i1:bF (tI [a,b]) (.int 1) st= .ok (.int b) st:=LY
 have t2:rN [.int (-a),.int (-b)] st= .ok (tI [-a,-b]) st:=jo
 unfold i5 cg oV
 simp[i0,i1,-jo,t2,gl]
theorem zR{f:Fm}{a b:Int}(h:f.sh)(hd:f.dp<=8)(st:Hs):∃st',Gr st st'/\eZ [f.w,tI [a,b]] st= .ok (f.mP (g2 a b)).w st':=by
 have hL:∀x l p,(KI l p\/Ij l p)->∀st,∃st',Gr st st'/\lP dW [tI [a,b]] [.str x,tI l,tI p] st= .ok (oW (g2 a b x l p)) st':=λx l p hs st=>by
  obtain⟨s1,k1,e1⟩:=sg (a:=a) (b:=b) hs st
  have e2:=KN (l:=stp l p a b) (p:=p) (hs.imp Hl vX) s1
  refine⟨s1,k1,?_⟩
  unfold lP dW
  simp[e1,e2,g2]
 obtain⟨s1,k1,e1⟩:=gL hL f 8 h hd st
 refine⟨s1,k1,?_⟩
 have gl:=UJ (FL:=bh) (i:=1) (g:=af 0) (gb:=dW) (ρ:=[some f.w,some (tI [a,b])]) (st:=st) rfl rfl e1
 unfold eZ cg jF
 simp[gl]
theorem Pn{f:Fm}{a b c d:Int}(h:f.sh)(hd:f.dp<=8)(st:Hs):∃st',Gr st st'/\i6 [f.w,tI [a,b],tI [c,d]] st= .ok ((f.mP (g1 a b)).mP (g2 c d)).w st':=by
 obtain⟨s1,k1,e1⟩:=KO (a:=a) (b:=b) h hd st
 obtain⟨s2,k2,e2⟩:=zR (a:=c) (b:=d) (kO a b f h) (bu (kN _ f) hd) s1
 refine⟨s2,k1.trans k2,?_⟩
 unfold i6 cg r6
 simp[e1,e2]
theorem made_place{a b:Int}{st:Hs}(h:cD a b):cR [.int a,.int b] st= .ok (tI [a,b]) st:=by
 unfold cR cg gJ
 simp[kL,h,tI]
theorem x8{a b:Int}{st:Hs}(h:¬cD a b):cR [.int a,.int b] st= .err "BadPlace" st:=by
 unfold cR cg gJ
 simp[kL,h,lim]
theorem pb{a b c d:Int}{st:Hs}(h:c7 a b c d):cz [.int a,.int b,.int c,.int d] st= .ok (tI [a,b,c,d]) st:=by
 have e:=vY (a:=a) (b:=b) (c:=c) (d:=d) (st:=st)
 simp[tI] at e
 unfold cz cg iA
 simp[e,h,tI]
theorem zS{a b c d:Int}{st:Hs}(h:¬c7 a b c d):cz [.int a,.int b,.int c,.int d] st= .err "BadArea" st:=by
 have e:=vY (a:=a) (b:=b) (c:=c) (d:=d) (st:=st)
 simp[tI] at e
 unfold cz cg iA
 simp[e,h,lim]
theorem Rq{a b c d:Wv}{st:Hs}:bF (.tup [a,b,c,d]) (.int 0) st= .ok a st/\bF (.tup [a,b,c,d]) (.int 1) st= .ok b st/\bF (.tup [a,b,c,d]) (.int 2) st= .ok c st/\bF (.tup [a,b,c,d]) (.int 3) st= .ok d st:=⟨rfl,rfl,rfl,rfl⟩
theorem Hm{a b c d p q:Int}{st:Hs}(h:¬c7 a b c d):bA [tI [a,b,c,d],tI [p,q]] st= .err "BadArea" st:=by
 unfold bA cg de
 simp[tI,Rq,zS h]
theorem Ho{a b c d p q:Int}{st:Hs}(h:c7 a b c d)(k:¬cD p q):bA [tI [a,b,c,d],tI [p,q]] st= .err "BadPlace" st:=by
 have e:=pb (st:=st) h
 simp[tI] at e
 unfold bA cg de
 simp[tI,Rq,LS,LU,e,x8 k]
theorem BH{a b c d p q:Int}{st:Hs}(h:c7 a b c d)(k:cD p q):bA [tI [a,b,c,d],tI [p,q]] st=if Co p q (p+c - a) (q+d - b) then .ok (tI [p,q,p+c - a,q+d - b]) st else .err "NoRoom" st:=by
 have e:=pb (st:=st) h
 have e2:=made_place (st:=st) k
 have e3:=kM (a:=p) (b:=q) (c:=p+c - a) (d:=q+d - b) (st:=st)
 have e4:=cat (x:=.int p) (xs:=[.int q]) (ys:=[.int (p+c - a),.int (q+d - b)]) (st:=st) (by simp)
 simp[tI] at e e2 e3 e4
 unfold bA cg de
 by_cases hc:Co p q (p+c - a) (q+d - b)
 ·simp[tI,Rq,LS,LU,e,e2,e4,e3,hc]
 ·simp[tI,Rq,LS,LU,e,e2,e4,e3,hc,lim]
def ky(p q:Int):List L2.Key:=[.inl p,.inl q]
theorem Yi{p q:Int}:oC (tI [p,q])=some (ky p q):=rfl
theorem UK{st:Hs}{l:Nat}{kvs:List (List L2.Key×Wv)}{p q:Int}{i j:Nat}{ρ:bC}(hi:ρ[i]? =some (some (.ref l)))(hj:ρ[j]? =some (some (tI [p,q])))(h:fg st[l]? =some kvs) :
  mE (af i) (af j) ρ st= .ok ((cW kvs (ky p q)).getD .bO) st:=by
 have e1:af i ρ st= .ok (.ref l) st:=by unfold af;rw[hi]
 have e2:af j ρ st= .ok (tI [p,q]) st:=by unfold af;rw[hj]
 unfold mE
 rw[e1]
 show(if _ then _ else _)=_
 rw[h,if_pos (show(some kvs).isSome=true from rfl),e2]
 show(match oC (tI [p,q]),fg st[l]? with | some kk,some kvs=>Re.ok ((cW kvs kk).getD .bO) st | _,_=> .bad)=_
 rw[Yi,h]
def Yj:Wv->Bool
 | .tup _=>true
 | _=>false
theorem isT{v:Wv}{st:Hs}(h:v= .bO\/Cn v):gR gP fq [v,.ty "tuple"] st= .ok (.bl (Yj v)) st:=by
 rcases h with rfl | ⟨i,rfl⟩ | ⟨x,rfl⟩ | ⟨f,rfl,_⟩<;>rfl
theorem x9{st:Hs}{l:Nat}{kvs:List (List L2.Key×Wv)}{p q:Int}(h:fg st[l]? =some kvs)(hk:∀v,cW kvs (ky p q)=some v->Cn v) :
  bK [.ref l,tI [p,q]] st= .ok (.bl (Yj ((cW kvs (ky p q)).getD .bO))) st:=by
 have e:=UK (i:=0) (j:=1) (ρ:=[some (.ref l),some (tI [p,q])]) rfl rfl h
 have t:=isT (st:=st) (v:=(cW kvs (ky p q)).getD .bO) (by
  cases c:cW kvs (ky p q) with
  | none=>exact .inl rfl
  | some v=>exact .inr (hk v c))
 unfold bK cg iP
 simp[e,t]
theorem pe{st:Hs}{xs:List Ob}{ws:List Wv}:aq (st++ .lst ws::xs) st.length=some ws:=by unfold aq;simp
section
variable {a b c d:Int} {st:Hs}
theorem T7:L2.pv [Wv.int a,.int b,.int c,.int d] 1=some (.int b):=rfl
theorem at2:L2.pv [Wv.int a,.int b,.int c,.int d] 2=some (.int c):=rfl
theorem Ls:L2.pv [Wv.int a,.int b,.int c,.int d] 3=some (.int d):=rfl
def pf(r b:Int)(n:Nat):List Wv:=(gn n).map λk:Nat=> .tup [.int r,.int (b+k)]
def bU(a b:Int)(m n:Nat):List Wv:=((gn m).map λk:Nat=>pf (a+k) b n).flatten
theorem Dj{m n:Nat}:(bU a b m n).length=m * n:=by
 unfold bU
 rw[List.length_flatten,ij]
 have:(jf ∘ λk:Nat=>pf (a+k) b n)=λ_=>n:=by funext k;simp[pf]
 rw[this]
 clear this
 induction m with
 | zero=>simp
 | succ m ih=>rw[BI,nZ,List.sum_append,ih,As];simp
theorem si{m n:Nat}:bU a b (m+1) n=bU a b m n++pf (a+m) b n:=by
 unfold bU
 rw[BI,nZ,List.flatten_append]
 simp
theorem Hq{o:Wv}{r:Int}{st:Hs}(hb:cV b)(hd:cV (d+1))(hn:(d+1 - b).toNat<=300) :
  lV [("row",2)] (E4 (aa (ai bF (af 0) (gC (.int 1))) (aa (ai a9 (ai bF (af 0) (gC (.int 3))) (gC (.int 1))) aj))) dh cA [some (.tup [.int a,.int b,.int c,.int d]),some o,some (.int r)] st=
   .ok (.ref st.length) (st++[.lst (pf r b (d+1 - b).toNat)]):=by
 have q:=uo (cs:=[("row",2)]) (gt:=dh) (ge:=cA) (ρ:=[some (.tup [.int a,.int b,.int c,.int d]),some o,some (.int r)]) (w:=(none,bR b (d+1 - b).toNat)) (st:=st) (t:=λ_=>true) (f:=λv=> .tup [.int r,v]) trivial
  (λv _ acc=>rfl) (λv _ _ acc=>by unfold cA;simp[ff]) (by rw[show((none,bR b (d+1 - b).toNat):Wk).2=bR b (d+1 - b).toNat from rfl,cL];unfold lim;omega)
 have e:((bR b (d+1 - b).toNat).filter λ_=>true).map (λv=>Wv.tup [.int r,v])=pf r b (d+1 - b).toNat:=by
  rw[List.filter_eq_self.mpr (λ_ _=>rfl)]
  unfold bR pf
  rw[ij]
  rfl
 rw[show((none,bR b (d+1 - b).toNat):Wk).2=bR b (d+1 - b).toNat from rfl,e] at q
 simp[xN T7,xN Ls,Pe hb hd,q]
theorem A1{st more:Hs}{acc row:List Wv}(h:acc.length+row.length<=lim):NV (.ref st.length) (.ref (st++ .lst acc::more).length) ((st++ .lst acc::more)++[.lst row])= .ok .bO (st++ .lst (acc++row)::(more++[.lst row])):=by
 have g1:((st++Ob.lst acc::more)++[Ob.lst row])[st.length]? =some (.lst acc):=by simp
 have g2:((st++Ob.lst acc::more)++[Ob.lst row])[(st++Ob.lst acc::more).length]? =some (.lst row):=by rw[fW (au _),ni];rfl
 show(match((st++Ob.lst acc::more)++[Ob.lst row])[st.length]?,((st++Ob.lst acc::more)++[Ob.lst row])[(st++Ob.lst acc::more).length]? with
  | some (.lst ws),some (.lst zs)=>if ws.length+zs.length<=lim then Re.ok Wv.bO (((st++Ob.lst acc::more)++[Ob.lst row]).set st.length (.lst (ws++zs))) else .bad
  | _,_=> .bad)=_
 rw[g1,g2]
 dsimp only
 rw[if_pos h]
 congr 1
 simp
theorem Hr{st more:Hs}{acc row:List Wv}(h:acc.length+row.length<=lim):xt (.ref st.length) (.ref (st++ .lst acc::more).length) ((st++ .lst acc::more)++[.lst row])= .ok .bO (st++ .lst (acc++row)::(more++[.lst row])):=A1 h
theorem Dk(hb:cV b)(hd:cV (d+1))(hn:(d+1 - b).toNat<=300){m:Nat}(hm:m<=100){ρ0:Option Wv}:∃(o:Option Wv)(more:Hs),
  fP 2 cJ (bR a m) [some (.tup [.int a,.int b,.int c,.int d]),some (.ref st.length),ρ0] (st++[.lst []])= .nx [some (.tup [.int a,.int b,.int c,.int d]),some (.ref st.length),o] (st++ .lst (bU a b m (d+1 - b).toNat)::more):=by
 obtain⟨ρ1,st1,e1,o,more,rfl,rfl⟩:=nU (i:=2) (gb:=cJ) (λk ρ st'=>∃(o:Option Wv)(more:Hs),ρ=[some (.tup [.int a,.int b,.int c,.int d]),some (.ref st.length),o]/\st'=st++ .lst (bU a b k (d+1 - b).toNat)::more)
  (bR a m) 0 [some (.tup [.int a,.int b,.int c,.int d]),some (.ref st.length),ρ0] (st++[.lst []]) ⟨ρ0,[],rfl,rfl⟩ (λj w hw ρ st' hP=>by
   obtain⟨o,more,rfl,rfl⟩:=hP
   have hj:j < m:=by
    have q:=(List.getElem?_eq_some_iff.mp hw).1
    rw[cL] at q
    exact q
   rw[ly hj] at hw
   cases hw
   have ln:(bU a b (0+j) (d+1 - b).toNat).length+(pf (a+j) b (d+1 - b).toNat).length<=lim:=by
    rw[Dj]
    have z:(pf (a+(j:Int)) b (d+1 - b).toNat).length=(d+1 - b).toNat:=by unfold pf;simp
    rw[z]
    have:(0+j) * (d+1 - b).toNat<=100 * 300:=Nat.mul_le_mul (by omega) hn
    unfold lim
    omega
   refine⟨_,_,?_,some (.int (a+(j:Int))),more++[.lst (pf (a+j) b (d+1 - b).toNat)],rfl,rfl⟩
   have e:bU a b (0+j+1) (d+1 - b).toNat=bU a b (0+j) (d+1 - b).toNat++pf (a+j) b (d+1 - b).toNat:=by rw[lL];exact si
   rw[e]
   have rc:=Hq (a:=a) (c:=c) (o:=.ref st.length) (r:=a+(j:Int)) (st:=st++ .lst (bU a b (0+j) (d+1 - b).toNat)::more) hb hd hn
   have km:=λga ρ=>KD (mt:=xt) (ga:=ga) (ρ:=ρ) (st:=st++ .lst (bU a b (0+j) (d+1 - b).toNat)::more) (l:=st.length) pe
   have em:=Hr (st:=st) (more:=more) ln
   unfold cJ
   simp only[e_expr,Pb,xM,qp,qo,vW,vV,xK,qm,km,rc,em,vC,rM])
 exact⟨o,more,by rw[e1,cL,lL]⟩
theorem sj(h:c7 a b c d):∃more:Hs,dD [tI [a,b,c,d]] st= .ok (.ref st.length) (st++ .lst (bU a b (c+1 - a).toNat (d+1 - b).toNat)::more):=by
 unfold c7 at h
 obtain⟨o,more,e⟩:=Dk (a:=a) (c:=c) (st:=st) (b:=b) (d:=d) (ρ0:=none) (by unfold cV;omega) (by unfold cV;omega) (by omega) (m:=(c+1 - a).toNat) (by omega)
 have ca:cV a:=by unfold cV;omega
 have cc:cV (c+1):=by unfold cV;omega
 refine⟨more,nR (n:=3) (g:=dC) ?_⟩
 unfold dC
 simp[tI,Rq,ca,cc]
 simp[e]
theorem pK{st:Hs}(h:c7 a b c d):∃more:Hs,dM [tI [a,b,c,d]] st= .ok (.ref st.length) (st++ .lst (bU a b (c+1 - a).toNat (d+1 - b).toNat)::more):=by
 obtain⟨more,e⟩:=sj (st:=st) h
 have m:=pb (st:=st) h
 refine⟨more,nR (n:=1) (g:=fK) ?_⟩
 unfold fK
 simp[tI] at e m
 simp[tI,Rq,m,e]
end
theorem Hu{x:S}{n:Nat}{st:Hs}:aS st n (.str x)=some (.str x):=by cases n<;>rfl
theorem Hv{i:Int}{n:Nat}{st:Hs}:aS st n (.int i)=some (.int i):=by cases n<;>rfl
theorem Hw:∀(l:List Int)(n:Nat),∃ds:List PyData,(∀st:Hs,gQ (aS st n) (l.map Wv.int)=some ds)/\iD ds ds=true
 | [],n=>⟨[],λ_=>rfl,by simp[iD]⟩
 | i::r,n=>by
  obtain⟨ds,e1,e2⟩:=Hw r n
  refine⟨.int i::ds,λst=>?_,by simp[iD,G6,e2]⟩
  rw[aK]
  unfold gQ
  rw[Hv,e1]
theorem vZ(l:List Int)(n:Nat):∃d:PyData,(∀st:Hs,aS st (n+1) (tI l)=some d)/\bI d d=true:=by
 obtain⟨ds,e1,e2⟩:=Hw l n
 refine⟨.tuple ds,λst=>?_,by simpa [bI] using e2⟩
 show(gQ (aS st n) (l.map Wv.int)).map uX=_
 rw[e1]
 rfl
theorem ux{x:S}{n:Nat}{ws:List Wv}(h:∀w∈ws,∃d:PyData,(∀st:Hs,aS st n w=some d)/\bI d d=true):∃d:PyData,(∀st:Hs,aS st (n+1) (.tup (.str x::ws))=some d)/\bI d d=true:=by
 have key:∀ws:List Wv,(∀w∈ws,∃d:PyData,(∀st:Hs,aS st n w=some d)/\bI d d=true)->∃ds:List PyData,(∀st:Hs,gQ (aS st n) ws=some ds)/\iD ds ds=true:=by
  intro ws
  induction ws with
  | nil=>exact λ_=>⟨[],λ_=>rfl,by simp[iD]⟩
  | cons w r ih=>
   intro h
   obtain⟨d,d1,d2⟩:=h w bw
   obtain⟨ds,e1,e2⟩:=ih λv hv=>h v (aO _ hv)
   refine⟨d::ds,λst=>?_,by simp[iD,d2,e2]⟩
   unfold gQ
   rw[d1,e1]
 obtain⟨ds,e1,e2⟩:=key ws h
 refine⟨.tuple (.str x::ds),λst=>?_,by simp[bI,iD,G7,e2]⟩
 show(gQ (aS st n) (.str x::ws)).map uX=_
 unfold gQ
 rw[Hu,e1]
 rfl
theorem all1{P:Wv->Prop}{a:Wv}(h:P a):∀w∈[a],P w:=List.forall_mem_cons.mpr ⟨h,λ_ z=>by cases z⟩
theorem all2{P:Wv->Prop}{a b:Wv}(h:P a)(k:P b):∀w∈[a,b],P w:=List.forall_mem_cons.mpr ⟨h,all1 k⟩
theorem UL{P:Wv->Prop}{a b c:Wv}(h:P a)(k:P b)(j:P c):∀w∈[a,b,c],P w:=List.forall_mem_cons.mpr ⟨h,all2 k j⟩
theorem dat:∀(f:Fm)(n:Nat),f.sh->f.dp<=n->∃d:PyData,(∀st:Hs,aS st (n+1) f.w=some d)/\bI d d=true
 | f,0,_,hd=>by cases f<;>simp[Fm.dp] at hd
 | .lit x ws,n+1,h,_=>by
  refine ux (ws:=ws) λw hw=>?_
  rcases h with ⟨_,i,rfl⟩ | ⟨_,s,rfl⟩ | ⟨_,rfl⟩
  ·rw[List.mem_singleton.mp hw];exact⟨.int i,λ_=>Hv,G6⟩
  ·rw[List.mem_singleton.mp hw];exact⟨.str s,λ_=>Hu,G7⟩
  ·cases hw
 | .pt x l p,n+1,_,_=>ux (ws:=[tI l,tI p]) (all2 (vZ l n) (vZ p n))
 | .fd f l p,n+1,h,hd=>ux (ws:=[f.w,tI l,tI p]) (UL (dat f n h.1 (by simp[Fm.dp] at hd;omega)) (vZ l n) (vZ p n))
 | .o1 x f,n+1,h,hd=>ux (ws:=[f.w]) (all1 (dat f n h.2 (by simp[Fm.dp] at hd;omega)))
 | .o2 x f g,n+1,h,hd=>ux (ws:=[f.w,g.w]) (all2 (dat f n h.2.1 (by simp[Fm.dp] at hd;omega)) (dat g n h.2.2 (by simp[Fm.dp] at hd;omega)))
 | .o3 f g k,n+1,h,hd=>ux (ws:=[f.w,g.w,k.w]) (UL (dat f n h.1 (by simp[Fm.dp] at hd;omega)) (dat g n h.2.1 (by simp[Fm.dp] at hd;omega)) (dat k n h.2.2 (by simp[Fm.dp] at hd;omega)))
abbrev Ks:=List (List L2.Key×Wv)
abbrev Pt:=Int×Int
def Ma(p:Pt):List L2.Key:=ky p.1 p.2
def UM:List Pt:=(gn 2574).map λk=>(((k / 26:Nat):Int),((k % 26:Nat):Int))
def uq{α:Type}(f:α->Nat):List α->Nat->Bool
 | [],_=>true
 | x::r,acc=> !(acc.testBit (f x))&&uq f r (acc||| 2 ^ f x)
theorem Mb{α:Type}{f:α->Nat}:∀{l:List α}{acc:Nat},uq f l acc=true->(∀x∈l,∀y∈l,f x=f y->x=y)/\∀x∈l,acc.testBit (f x)=false
 | [],_,_=>⟨λx hx=>(by cases hx),λx hx=>by cases hx⟩
 | x::r,acc,h=>by
  unfold uq at h
  rw[cO] at h
  obtain⟨h1,h2⟩:=Mb h.2
  have no:∀y∈r,acc.testBit (f y)=false/\f x≠f y:=λy hy=>by
   have q:=h2 y hy
   rw[Nat.testBit_or,Nat.testBit_two_pow,Bool.or_eq_false_iff] at q
   exact⟨q.1,of_decide_eq_false q.2⟩
  refine⟨λa ha b hb e=>?_,λy hy=>?_⟩
  ·rcases List.mem_cons.mp ha with ea | ha'
   ·rcases List.mem_cons.mp hb with eb | hb'
    ·rw[ea,eb]
    ·rw[ea] at e
     exact absurd e (no b hb').2
   ·rcases List.mem_cons.mp hb with eb | hb'
    ·rw[eb] at e
     exact absurd e.symm (no a ha').2
    ·exact h1 a ha' b hb' e
  ·rcases List.mem_cons.mp hy with rfl | hy
   ·simpa using h.1
   ·exact(no y hy).1
def hs(p:Pt):Int:=Bf [p.1,p.2]
def hm(p:Pt):Nat:=(hs p % 19291).toNat
theorem Po:uq hm UM 0=true:=by decide+kernel
theorem x_{p:Pt}(h:cD p.1 p.2):p∈UM:=by
 obtain⟨a,b⟩:=p
 obtain⟨h1,h2,h3,h4⟩:=h
 dsimp only at h1 h2 h3 h4
 refine List.mem_map.mpr ⟨a.toNat * 26+b.toNat,List.mem_range.mpr (by omega),?_⟩
 refine Prod.ext ?_ ?_
 ·show(((a.toNat * 26+b.toNat) / 26:Nat):Int)=a
  omega
 ·show(((a.toNat * 26+b.toNat) % 26:Nat):Int)=b
  omega
theorem Pp{p q:Pt}(hp:cD p.1 p.2)(hq:cD q.1 q.2)(h:hs p=hs q):p=q :=
 (Mb Po).1 p (x_ hp) q (x_ hq) (by unfold hm;rw[h])
theorem BJ:∀l:List Pt,pF (l.map Ma)=some (l.map λp=>[p.1,p.2])
 | []=>rfl
 | p::r=>by
  rw[aK,aK]
  unfold pF
  rw[BJ r]
  rfl
theorem ya:∀{l:List Pt},l.Nodup->(∀p∈l,cD p.1 p.2)->(l.map hs).Nodup
 | [],_,_=>hZ
 | p::r,h,k=>by
  rw[jn] at h
  rw[aK,jn]
  refine⟨λz=>?_,ya h.2 λq hq=>k q (aO _ hq)⟩
  obtain⟨q,hq,e⟩:=List.mem_map.mp z
  exact h.1 (Pp (k q (aO _ hq)) (k p bw) e ▸ hq)
theorem Pq{kvs:Ks}{ps:List Pt}(h:kvs.map (·.1)=ps.map Ma)(hn:ps.Nodup)(hp:∀p∈ps,cD p.1 p.2):mC (kvs.map (·.1))=true:=by
 unfold mC
 rw[h,BJ]
 refine decide_eq_true ?_
 rw[ij]
 exact ya hn hp
theorem Hx{a b c d:Int}(h:ky a b=ky c d):a=c/\b=d:=by
 unfold ky at h
 injection h with h1 h2
 injection h2 with h2
 injection h1 with h1
 injection h2 with h2
 exact⟨h1,h2⟩
theorem BK{kvs:Ks}{k:List L2.Key}{v:Wv}(h:k∉kvs.map (·.1)):oB kvs k v=kvs++[(k,v)]:=by
 unfold oB
 rw[if_neg]
 intro q
 obtain⟨p,hp,e⟩:=List.any_eq_true.mp q
 exact h (List.mem_map.mpr ⟨p,hp,of_decide_eq_true e⟩)
theorem Hy{d:Nat}{kvs:Ks}{a b:Int}{v:Wv}{st:Hs}(h:st[d]? =some (.ja kvs))(hl:kvs.length < 1000):putD (.ref d) (.tup [.int a,.int b]) v st=some (st.set d (.ja (oB kvs (ky a b) v))):=by
 have hk:oC (.tup [.int a,.int b])=some (ky a b):=rfl
 unfold putD
 dsimp only
 rw[h]
 dsimp only
 rw[hk]
 dsimp only
 rw[if_pos (by unfold lim;omega)]
def gp(a b:Int)(k:Nat):Pt:=(a+((k / 4:Nat):Int),b+((k % 4:Nat):Int))
def yb(a b:Int)(n:Nat)(kvs:Ks):Prop:=∃js:List Nat,kvs.map (·.1)=js.map (λj=>Ma (gp a b j))/\js.Nodup/\(∀j∈js,j < n)/\js.length<=n/\∀kv∈kvs,Cn kv.2
theorem Hz{a b:Int}{i j:Nat}(h:Ma (gp a b i)=Ma (gp a b j)):i=j:=by
 obtain⟨h1,h2⟩:=Hx h
 have h1:a+((i / 4:Nat):Int)=a+((j / 4:Nat):Int):=h1
 have h2:b+((i % 4:Nat):Int)=b+((j % 4:Nat):Int):=h2
 omega
theorem UN{a b:Int}{k:Nat}(h:sf a b)(hk:k < 12):cD (gp a b k).1 (gp a b k).2:=by
 obtain⟨h1,h2,h3,h4⟩:=h
 show cD (a+((k / 4:Nat):Int)) (b+((k % 4:Nat):Int))
 unfold cD
 omega
theorem yb.put{a b:Int}{n:Nat}{kvs:Ks}{v:Wv}(h:yb a b n kvs)(hv:Cn v):yb a b (n+1) (oB kvs (Ma (gp a b n)) v):=by
 obtain⟨js,h1,h2,h3,hl,h4⟩:=h
 have no:Ma (gp a b n)∉kvs.map (·.1):=λz=>by
  rw[h1] at z
  obtain⟨j,hj,e⟩:=List.mem_map.mp z
  have:=Hz e
  have:=h3 j hj
  omega
 rw[BK no]
 refine⟨js++[n],by rw[nZ,h1,nZ];rfl,?_,?_,by rw[bZ];exact uY hl,?_⟩
 ·rw[List.nodup_append]
  refine⟨h2,by simp,λx hx y hy=>?_⟩
  have:=h3 x hx
  rw[List.mem_singleton.mp hy]
  omega
 ·intro j hj
  rcases List.mem_append.mp hj with z | z
  ·have:=h3 j z;omega
  ·rw[List.mem_singleton.mp z];omega
 ·intro kv hkv
  rcases List.mem_append.mp hkv with z | z
  ·exact h4 kv z
  ·rw[List.mem_singleton.mp z];exact hv
theorem yb.le{a b:Int}{n m:Nat}{kvs:Ks}(h:yb a b n kvs)(k:n<=m):yb a b m kvs:=by
 obtain⟨js,h1,h2,h3,hl,h4⟩:=h
 exact⟨js,h1,h2,λj hj=>aY (h3 j hj) k,bu hl k,h4⟩
theorem yb.len{a b:Int}{n:Nat}{kvs:Ks}(h:yb a b n kvs):kvs.length<=n:=by
 obtain⟨js,h1,h2,h3,hl,h4⟩:=h
 have:=congrArg jf h1
 rw[hU,hU] at this
 omega
theorem yb.nil{a b:Int}:yb a b 0 []:=⟨[],rfl,hZ,λj hj=>(by cases hj),au _,λkv h=>by cases h⟩
theorem yb.hash{a b:Int}{kvs:Ks}(k:sf a b)(h:yb a b 12 kvs):mC (kvs.map (·.1))=true:=by
 obtain⟨js,h1,h2,h3,hl,h4⟩:=h
 refine Pq (ps:=js.map (gp a b)) (by rw[h1,ij];rfl) ?_ λp hp=>?_
 ·rw[List.nodup_iff_pairwise_ne,List.pairwise_map]
  exact(List.nodup_iff_pairwise_ne.mp h2).imp λhne e=>hne (Hz (by rw[e]))
 ·obtain⟨j,hj,rfl⟩:=List.mem_map.mp hp
  exact UN k (h3 j hj)
theorem yb.val{a b:Int}{n:Nat}{kvs:Ks}{k:List L2.Key}{v:Wv}(h:yb a b n kvs)(e:cW kvs k=some v):Cn v:=by
 obtain⟨js,h1,h2,h3,hl,h4⟩:=h
 exact h4 _ (nL e)
theorem UO{v:Wv}(h:v= .bO\/Cn v):∃d:PyData,(∀st:Hs,aS st 20 v=some d)/\bI d d=true:=by
 rcases h with rfl | ⟨i,rfl⟩ | ⟨x,rfl⟩ | ⟨f,rfl,h1,_,h2⟩
 ·exact⟨.none,λ_=>rfl,by simp[bI]⟩
 ·exact⟨.int i,λ_=>Hv,G6⟩
 ·exact⟨.str x,λ_=>Hu,G7⟩
 ·exact dat f 19 h1 (by omega)
theorem uz{k:List L2.Key}:∀{kvs:Ks},k∈kvs.map (·.1)->∃v,cW kvs k=some v
 | [],h=>by cases h
 | p::r,h=>by
  unfold cW
  by_cases e:p.1=k
  ·exact⟨p.2,if_pos e⟩
  ·rw[if_neg e]
   rw[aK,aP] at h
   exact uz (h.resolve_left λz=>e z.symm)
theorem same_self{kvs:Ks}{st:Hs}(h:∀kv∈kvs,∃d:PyData,(∀st:Hs,aS st 20 kv.2=some d)/\bI d d=true):oD st kvs=true/\pG st kvs kvs=true:=by
 refine⟨?_,?_⟩
 ·unfold oD
  rw[rJ]
  intro kv hk
  obtain⟨d,h1,_⟩:=h kv hk
  rw[h1]
  rfl
 ·unfold pG
  rw[decide_eq_true rfl,F1,rJ]
  intro k hk
  obtain⟨v,e⟩:=uz hk
  obtain⟨d,h1,h2⟩:=h _ (nL e)
  unfold Lx
  rw[e]
  dsimp only
  rw[h1]
  simpa using h2
theorem eq_self{kvs:Ks}{l k:Nat}{st:Hs}(h1:fg st[l]? =some kvs)(h2:fg st[k]? =some kvs)(h:∀kv∈kvs,∃d:PyData,(∀st:Hs,aS st 20 kv.2=some d)/\bI d d=true):zo (.ref l) (.ref k) st= .ok (.bl true) st/\CP (.ref l) (.ref k) st= .ok (.bl false) st:=by
 obtain⟨a,b⟩:=same_self (st:=st) h
 have d1:rC st (.ref l)=some kvs:=h1
 have d2:rC st (.ref k)=some kvs:=h2
 unfold zo CP
 rw[d1,d2]
 dsimp only
 rw[if_pos ⟨a,a⟩,if_pos ⟨a,a⟩,b]
 exact⟨rfl,rfl⟩
theorem KP{d:Nat}{kvs:Ks}{st:Hs}(hd:fg st[d]? =some kvs)(hk:mC (kvs.map (·.1))=true):ud [.ref d] st= .ok (.ref st.length) (st++[.ja kvs]):=by
 unfold ud
 dsimp only
 rw[hd]
 dsimp only
 rw[if_pos hk]
theorem Pr{v:Wv}{st:Hs}(h:Cn v):qL v .bO st= .ok (.bl true) st:=by
 rcases h with ⟨i,rfl⟩ | ⟨x,rfl⟩ | ⟨f,rfl,_⟩<;>rfl
theorem cells{st:Hs}{l:Nat}{ns:List Int}{dp:Nat}(h:aq st l=some (ns.map Wv.int))(hn:ns.length<=63)(hd:dp<=2):∃(a b:Int)(kvs:Ks)(d:Nat)(st':Hs),eW [.ref l,.int dp] st= .ok (.ref d) st'/\st'[d]? =some (.ja kvs)/\sf a b/\yb a b 12 kvs/\Gr st st'/\(∃s,eB [.ref l] st= .ok (tI [a,b]) s):=by
 obtain⟨a,b,s0,e0,hs,more,rfl⟩:=spot h
 have g0:Gr st (st++more):=Gr.app
 generalize hs0:st++more=s0 at e0 g0
 have g1:Gr st (s0++[.ja []]):=g0.trans Gr.push
 have f4:∀(k:Nat)(s:Hs),f_ (.int k) (.int 4) s= .ok (.int ((k / 4:Nat):Int)) s:=λk s=>by
  rw[oI (by decide+kernel),Int.fdiv_eq_ediv_of_nonneg _ (by decide)]
  rfl
 have m4:∀(k:Nat)(s:Hs),oMod (.int k) (.int 4) s= .ok (.int ((k % 4:Nat):Int)) s:=λk s=>by
  rw[nQ (by decide),Int.fmod_eq_emod_of_nonneg _ (by decide)]
  rfl
 obtain⟨ρ1,s1,e1,o4,o5,kvs,rfl,hk,hg,hsh⟩:=nU (i:=4) (gb:=dQ) (λk ρ s=>∃(o4 o5:Option Wv)(kvs:Ks),ρ=[some (.ref l),some (.int dp),some (tI [a,b]),some (.ref s0.length),o4,o5]/\s[s0.length]? =some (.ja kvs)/\Gr st s/\yb a b k kvs)
  (bR 0 12) 0 [some (.ref l),some (.int dp),some (tI [a,b]),some (.ref s0.length),none,none] (s0++[.ja []]) ⟨none,none,[],rfl,ik,g1,yb.nil⟩ (λk w hw ρ s hP=>by
   obtain⟨o4,o5,kvs,rfl,hk,hg,hsh⟩:=hP
   have hj:k < 12:=by
    have q:=(List.getElem?_eq_some_iff.mp hw).1
    rw[cL] at q
    exact q
   rw[ly hj] at hw
   cases hw
   rw[lL] at hsh
   obtain⟨n,es⟩:=stream (hg.lst h) hn (k:=k) (by omega) (by omega)
   have ro:Ro s.length (s++[.lst [.int n]]):=⟨n,ik⟩
   obtain⟨v,s2,e2,hv,dw⟩:=content ro hs hd
   have g2:Gr s s2:=Gr.push.G5 (au _) dw.1
   have hk2:=g2.get hk
   have lt:st.length<=s0.length:=g0.1
   rw[show((0:Int)+(k:Nat))=(k:Int) from Int.zero_add _]
   rcases hv with rfl | hv
   ·refine⟨_,_,?_,some (.int k),some .bO,kvs,rfl,hk2,hg.trans g2,hsh.le (by omega)⟩
    unfold dQ
    simp[es,e2,qL]
   ·have pd:=Hy (a:=a+((k / 4:Nat):Int)) (b:=b+((k % 4:Nat):Int)) (v:=v) hk2 (by have:=hsh.len;omega)
    refine⟨_,_,?_,some (.int k),some v,oB kvs (Ma (gp a b k)) v,rfl,jq hk2,Gr.Hk lt (hg.trans g2),?_⟩
    rotate_left
    ·rw[lL]
     exact hsh.put hv
    show _=Rs.nx _ (s2.set s0.length (.ja (oB kvs (ky (a+((k / 4:Nat):Int)) (b+((k % 4:Nat):Int))) v)))
    have f4':=f4 k s2
    have m4':=m4 k s2
    generalize ((k / 4:Nat):Int)=x at f4' pd ⊢
    generalize ((k % 4:Nat):Int)=y at m4' pd ⊢
    have AN:cM [.ref s.length,.tup [.int a,.int b],.int dp] (s++[.lst [.int n]])= .ok v s2:=e2
    unfold dQ
    simp[es,AN,Pr hv,tY,tI,LS,LU,f4',m4',pd])
 refine⟨a,b,kvs,s0.length,s1,nR (n:=6) (g:=gH) ?_,hk,hs,by simpa [cL] using hsh,hg,s0,e0⟩
 have c12:cV 12:=G0 (by decide) (by decide)
 unfold gH
 simp[e0,tX,c12,e1]
theorem kQ{a b:Int}{n:Nat}(hn:0 < n):∀m:Nat,bU a b m n=(gn (m * n)).map λk=>tI [a+((k / n:Nat):Int),b+((k % n:Nat):Int)]
 | 0=>by simp[bU]
 | m+1=>by
  rw[si,kQ hn m,As,List.range_add,nZ,ij]
  congr 1
  unfold pf
  refine List.map_congr_left λj hj=>?_
  have hj:=List.mem_range.mp hj
  have e1:(m * n+j) / n=m:=by rw[Au,Nat.mul_add_div hn,Nat.div_eq_of_lt hj,Nat.add_zero]
  have e2:(m * n+j) % n=j:=by rw[Au,Nat.mul_add_mod,Nat.mod_eq_of_lt hj]
  show Wv.tup [.int (a+(m:Nat)),.int (b+(j:Nat))]=tI [a+(((m * n+j) / n:Nat):Int),b+(((m * n+j) % n:Nat):Int)]
  rw[e1,e2]
  rfl
theorem zip_map{α:Type}{f g:α->Wv}:∀l:List α,pH (l.map f) (l.map g)=l.map λx=> .tup [f x,g x]
 | []=>rfl
 | x::r=>by
  have:=zip_map (f:=f) (g:=g) r
  unfold pH at this ⊢
  rw[aK,aK,List.zipWith_cons_cons,this]
  rfl
theorem BL{is:List Nat}{gb:GS}{ck:Hs->Prop}(P:Nat->bC->Hs->Prop):∀(ws:List Wv)(k:Nat)(ρ:bC)(st:Hs),P k ρ st->
  (∀(j:Nat)(w:Wv),ws[j]? =some w->∀ρ st,P (k+j) ρ st->∃ρ1 ρ' st',NY is w ρ=some ρ1/\gb ρ1 st= .nx ρ' st'/\ck st'/\P (k+j+1) ρ' st')->∃ρ' st',zp is gb ck ws ρ st= .nx ρ' st'/\P (k+ws.length) ρ' st'
 | [],k,ρ,st,h,_=>⟨ρ,st,rfl,h⟩
 | w::r,k,ρ,st,h,step=>by
  obtain⟨ρ0,ρ1,st1,e0,e1,c1,p1⟩:=step 0 w rfl ρ st h
  obtain⟨ρ2,st2,e2,p2⟩:=BL P r (k+1) ρ1 st1 p1 λj w hw ρ st hp=>by
   have e:k+(j+1)=k+1+j:=by omega
   have q:=step (j+1) w hw ρ st (by rw[e];exact hp)
   rw[e] at q
   exact q
  refine⟨ρ2,st2,?_,?_⟩
  ·unfold zp
   rw[e0]
   dsimp only
   rw[e1]
   dsimp only
   rw[if_pos c1]
   exact e2
  ·have e:k+(w::r).length=k+1+r.length:=by simp;omega
   rw[e]
   exact p2
open Classical in
def Pu(v:Wv)(a b p q:Int):Wv:=if h:∃f:Fm,v=f.w/\f.sh/\f.fit/\f.dp<=3 then((h.choose.mP (g1 a b)).mP (g2 p q)).w else v
def Dl(kvs:Ks)(a b p q:Int):Wv:=match cW kvs (ky a b) with
 | some v=>Pu v a b p q
 | none=> .bO
theorem UP{l:Nat}{kvs:Ks}{a b:Int}{v:Wv}{st:Hs}(h:fg st[l]? =some kvs)(e:cW kvs (ky a b)=some v):VA (.ref l) (tI [a,b]) st= .ok v st:=by
 have hk:oC (tI [a,b])=some (ky a b):=rfl
 unfold VA getD
 unfold fg at h
 split at h
 ·rename_i k' q
  cases h
  dsimp only
  rw[q,hk]
  dsimp only
  rw[e]
 ·rename_i k' q
  cases h
  dsimp only
  rw[q,hk]
  dsimp only
  rw[e]
 ·cases h
theorem HA{l:Nat}{kvs:Ks}{a b p q:Int}{o1 o2 o3 o4:Option Wv}{st:Hs}(h:fg st[l]? =some kvs)(hC:∀v,cW kvs (ky a b)=some v->Cn v) :
  ∃st',wH (lN (av 2 bK (aa (af 0) (aa (af 5) aj)))) (av 3 i6 (aa (xv (af 0) (af 5)) (aa (af 5) (aa (af 6) aj)))) (mE (af 0) (af 5)) [some (.ref l),o1,o2,o3,o4,some (tI [a,b]),some (tI [p,q])] st= .ok (Dl kvs a b p q) st'/\Gr st st':=by
 have hf:=x9 (p:=a) (q:=b) h hC
 have dg:=UK (i:=0) (j:=5) (p:=a) (q:=b) (ρ:=[some (.ref l),o1,o2,o3,o4,some (tI [a,b]),some (tI [p,q])]) rfl rfl h
 unfold Dl
 cases e:cW kvs (ky a b) with
 | none=>
  rw[e] at hf dg
  refine⟨st,?_,Gr.refl⟩
  have hf':bK [.ref l,tI [a,b]] st= .ok (.bl false) st:=hf
  simp[hf',dg]
 | some v=>
  rw[e] at hf dg
  have cv:=hC v e
  dsimp only
  by_cases c:∃f:Fm,v=f.w/\f.sh/\f.fit/\f.dp<=3
  ·unfold Pu
   rw[dif_pos c]
   obtain⟨h1,h2,h3,h4⟩:=c.choose_spec
   generalize c.choose=f at h1 h2 h3 h4
   obtain⟨s1,k1,e1⟩:=Pn (a:=a) (b:=b) (c:=p) (d:=q) h2 (by omega) st
   have hf':bK [.ref l,tI [a,b]] st= .ok (.bl true) st:=by rw[hf,h1];rfl
   have ix:=UP h e
   rw[h1] at ix
   refine⟨s1,?_,k1⟩
   simp[hf',xv,ix,e1]
  ·have hv:Yj v=false:=by
    rcases cv with ⟨i,rfl⟩ | ⟨x,rfl⟩ | z
    ·rfl
    ·rfl
    ·exact absurd z c
   have hf':bK [.ref l,tI [a,b]] st= .ok (.bl false) st:=by rw[hf];simp[hv]
   unfold Pu
   rw[dif_neg c]
   refine⟨st,?_,Gr.refl⟩
   simp[hf',dg]
def Il(kvs:Ks)(a b p q:Int)(n K:Nat):Ks:=(gn K).map λk:Nat=>(ky (p+((k / n:Nat):Int)) (q+((k % n:Nat):Int)),Dl kvs (a+((k / n:Nat):Int)) (b+((k % n:Nat):Int)) (p+((k / n:Nat):Int)) (q+((k % n:Nat):Int)))
theorem BM{kvs:Ks}{a b p q:Int}{n K:Nat}:(Il kvs a b p q n K).length=K:=by unfold Il;simp
theorem KQ{kvs:Ks}{a b p q:Int}{n K:Nat}:oB (Il kvs a b p q n K) (ky (p+((K / n:Nat):Int)) (q+((K % n:Nat):Int))) (Dl kvs (a+((K / n:Nat):Int)) (b+((K % n:Nat):Int)) (p+((K / n:Nat):Int)) (q+((K % n:Nat):Int)))=Il kvs a b p q n (K+1):=by
 rw[BK]
 ·unfold Il
  rw[BI,nZ]
  rfl
 ·unfold Il
  rw[ij]
  intro z
  obtain⟨k,hk,e⟩:=List.mem_map.mp z
  obtain⟨e1,e2⟩:=Hx e
  have e1:k / n=K / n:=by omega
  have e2:k % n=K % n:=by omega
  have q1:=Nat.div_add_mod k n
  have q2:=Nat.div_add_mod K n
  rw[e1,e2,q2] at q1
  have:=List.mem_range.mp hk
  omega
theorem Pw{a b c d p q:Int}(ha:c7 a b c d)(hc:Co p q (p+c - a) (q+d - b)):c7 p q (p+c - a) (q+d - b):=by
 obtain⟨h1,h2,h3,h4,h5,h6,h7⟩:=ha
 obtain⟨⟨k1,k2⟩,⟨k3,k4,k5,k6⟩,⟨k7,k8,k9,k10⟩⟩:=hc
 refine⟨k3,k1,k8,k5,k2,k10,?_⟩
 rw[show p+c - a - p+1=c - a+1 by omega,show q+d - b - q+1=d - b+1 by omega]
 exact h7
theorem block{l:Nat}{kvs:Ks}{a b c d p q:Int}{st:Hs}(h:fg st[l]? =some kvs)(hC:∀k v,cW kvs k=some v->Cn v)(ha:c7 a b c d)(hp:cD p q)(hc:Co p q (p+c - a) (q+d - b)) :
  ∃(e:Nat)(st':Hs),bD [.ref l,tI [a,b,c,d],tI [p,q]] st= .ok (.ref e) st'/\st'[e]? =some (.ja (Il kvs a b p q (d+1 - b).toNat ((c+1 - a).toNat * (d+1 - b).toNat)))/\Gr st st'/\st.length<=e:=by
 have ct:=BH (st:=st) ha hp
 rw[if_pos hc] at ct
 have hn:=Pw ha hc
 have ll:l < st.length:=by
  unfold fg at h
  split at h
  ·rename_i q;exact eh q
  ·rename_i q;exact eh q
  ·cases h
 obtain⟨s1,hs1⟩:∃s1,st++[Ob.ja []]=s1:=⟨_,rfl⟩
 have g1:Gr st s1:=by rw[<-hs1];exact Gr.push
 have hd1:s1[st.length]? =some (.ja []):=by rw[<-hs1];exact ik
 have l1:s1.length=st.length+1:=by rw[<-hs1];simp
 obtain⟨m2,e2⟩:=pK (st:=s1) ha
 have a2:=pe (st:=s1) (xs:=m2) (ws:=bU a b (c+1 - a).toNat (d+1 - b).toNat)
 have r2:(s1++ .lst (bU a b (c+1 - a).toNat (d+1 - b).toNat)::m2)[s1.length]? =some (.lst (bU a b (c+1 - a).toNat (d+1 - b).toNat)):=by simp
 have g2:Gr s1 (s1++ .lst (bU a b (c+1 - a).toNat (d+1 - b).toNat)::m2):=Gr.app
 generalize s1++ .lst (bU a b (c+1 - a).toNat (d+1 - b).toNat)::m2=s2 at e2 a2 g2 r2
 obtain⟨m3,e3⟩:=pK (st:=s2) hn
 rw[show(p+c - a+1 - p).toNat=(c+1 - a).toNat by congr 1;omega,show(q+d - b+1 - q).toNat=(d+1 - b).toNat by congr 1;omega] at e3
 have a3:=pe (st:=s2) (xs:=m3) (ws:=bU p q (c+1 - a).toNat (d+1 - b).toNat)
 have r3:(s2++ .lst (bU p q (c+1 - a).toNat (d+1 - b).toNat)::m3)[s2.length]? =some (.lst (bU p q (c+1 - a).toNat (d+1 - b).toNat)):=by simp
 have g3:Gr s2 (s2++ .lst (bU p q (c+1 - a).toNat (d+1 - b).toNat)::m3):=Gr.app
 generalize s2++ .lst (bU p q (c+1 - a).toNat (d+1 - b).toNat)::m3=s3 at e3 a3 g3 r3
 obtain⟨M,hM⟩:∃M,(c+1 - a).toNat=M:=⟨_,rfl⟩
 obtain⟨N,hN⟩:∃N,(d+1 - b).toNat=N:=⟨_,rfl⟩
 have n0:0 < N:=by have:=ha.2.2.2.2.1;omega
 have mn:M * N<=300:=by
  have:=ha.2.2.2.2.2.2
  have e1:c - a+1=(M:Int):=by have:=ha.2.1;omega
  have e2:d - b+1=(N:Int):=by have:=ha.2.2.2.2.1;omega
  rw[e1,e2] at this
  exact_mod_cast this
 rw[hM,hN] at a2 a3 r2 r3 ⊢
 have l2:s1.length < s2.length:=nT a2
 have l3:s2.length < s3.length:=nT a3
 have a2':=g3.lst a2
 obtain⟨ρ4,s4,e4,o5,o6,rfl,h4,k4⟩:=BL (is:=[5,6]) (gb:=cS) (ck:=Rl s1.length (bU a b M N) s2.length (bU p q M N)) (λk ρ s=>∃(o5 o6:Option Wv),ρ=[some (.ref l),some (tI [a,b,c,d]),some (tI [p,q]),some (tI [p,q,p+c - a,q+d - b]),some (.ref st.length),o5,o6]/\s[st.length]? =some (.ja (Il kvs a b p q N k))/\fh st.length s3 s)
  (pH (bU a b M N) (bU p q M N)) 0 [some (.ref l),some (tI [a,b,c,d]),some (tI [p,q]),some (tI [p,q,p+c - a,q+d - b]),some (.ref st.length),none,none] s3 ⟨none,none,rfl,(g2.trans g3).get hd1,fh.refl⟩ (λj w hw ρ s hP=>by
   obtain⟨o5,o6,rfl,hd,hk⟩:=hP
   rw[kQ n0,kQ n0,zip_map,iF] at hw
   obtain⟨j',hj',rfl⟩:=Option.map_eq_some_iff.mp hw
   obtain⟨hj,rfl⟩:j < M * N/\j'=j:=by
    have q:=List.getElem?_eq_some_iff.mp hj'
    obtain⟨q1,q2⟩:=q
    rw[List.length_range] at q1
    rw[List.getElem_range] at q2
    exact⟨q1,q2.symm⟩
   have hl:fg s[l]? =some kvs:=by
    rw[hk.2 l (by omega) (by omega),((g1.trans g2).trans g3).2 l ll]
    exact h
   obtain⟨s5,e5,g5⟩:=HA (a:=a+((j' / N:Nat):Int)) (b:=b+((j' % N:Nat):Int)) (p:=p+((j' / N:Nat):Int)) (q:=q+((j' % N:Nat):Int)) (o1:=some (tI [a,b,c,d])) (o2:=some (tI [p,q])) (o3:=some (tI [p,q,p+c - a,q+d - b])) (o4:=some (.ref st.length)) hl (hC _)
   have hd5:=g5.get hd
   have pd:=Hy (a:=p+((j' / N:Nat):Int)) (b:=q+((j' % N:Nat):Int)) (v:=Dl kvs (a+((j' / N:Nat):Int)) (b+((j' % N:Nat):Int)) (p+((j' / N:Nat):Int)) (q+((j' % N:Nat):Int))) hd5 (by rw[BM];omega)
   rw[lL,KQ] at pd
   have kp:fh st.length s3 (s5.set st.length (.ja (Il kvs a b p q N (j'+1)))):=(hk.trans g5.keep).trans fh.set
   refine⟨_,_,_,rfl,?_,⟨kp.lst a2' (by omega),kp.lst a3 (by omega)⟩,some (tI [a+((j' / N:Nat):Int),b+((j' % N:Nat):Int)]),some (tI [p+((j' / N:Nat):Int),q+((j' % N:Nat):Int)]),rfl,by rw[lL];exact jq hd5,kp⟩
   unfold cS tY
   dsimp only[qQ,qp,qo]
   rw[e5]
   have pd':putD (.ref st.length) (tI [p+((j' / N:Nat):Int),q+((j' % N:Nat):Int)]) (Dl kvs (a+((j' / N:Nat):Int)) (b+((j' % N:Nat):Int)) (p+((j' / N:Nat):Int)) (q+((j' % N:Nat):Int))) s5=some (s5.set st.length (.ja (Il kvs a b p q N (j'+1)))):=pd
   simp only[xM,vW,vV,xK,rM,pd'])
 have zl:(pH (bU a b M N) (bU p q M N)).length=M * N:=by
  rw[kQ n0,kQ n0,zip_map,hU,List.length_range]
 rw[zl,lL] at h4
 refine⟨st.length,s4,nR (n:=7) (g:=aW) ?_,h4,((g1.trans g2).trans g3).G5 (au _) k4,au _⟩
 have zs:Ki [5,6] cS [some (.ref l),some (tI [a,b,c,d]),some (tI [p,q]),some (tI [p,q,p+c - a,q+d - b]),some (.ref st.length),none,none] [.ref s1.length,.ref s2.length] s3= .nx [some (.ref l),some (tI [a,b,c,d]),some (tI [p,q]),some (tI [p,q,p+c - a,q+d - b]),some (.ref st.length),o5,o6] s4:=by
  unfold Ki
  dsimp only
  rw[g3.get r2,r3]
  exact e4
 unfold aW
 simp[ct,tX,hs1,Bh,e2,e3,zs]
theorem Dm{l:Nat}{a b c d p q:Int}{st:Hs}(h:¬c7 a b c d):bD [.ref l,tI [a,b,c,d],tI [p,q]] st= .err "BadArea" st:=by
 refine zy (n:=7) (g:=aW) (ρ:=[some (.ref l),some (tI [a,b,c,d]),some (tI [p,q]),none,none,none,none]) ?_
 unfold aW
 simp[Hm h]
theorem Dp{l:Nat}{a b c d p q:Int}{st:Hs}(h:c7 a b c d)(k:¬cD p q):bD [.ref l,tI [a,b,c,d],tI [p,q]] st= .err "BadPlace" st:=by
 refine zy (n:=7) (g:=aW) (ρ:=[some (.ref l),some (tI [a,b,c,d]),some (tI [p,q]),none,none,none,none]) ?_
 unfold aW
 simp[Ho h k]
theorem Dq{l:Nat}{a b c d p q:Int}{st:Hs}(h:c7 a b c d)(k:cD p q)(hc:¬Co p q (p+c - a) (q+d - b)):bD [.ref l,tI [a,b,c,d],tI [p,q]] st= .err "NoRoom" st:=by
 have ct:=BH (st:=st) h k
 rw[if_neg hc] at ct
 refine zy (n:=7) (g:=aW) (ρ:=[some (.ref l),some (tI [a,b,c,d]),some (tI [p,q]),none,none,none,none]) ?_
 unfold aW
 simp[ct]
def yc(c d:PySem.Str):Option Bool:=gP.lookup (c,d)
theorem wa{c d:PySem.Str}{b:Bool}(h:yc c d=some b)(st:Hs):gR gP fq [.lh c,.cls d] st= .ok (.bl b) st:=by
 show(match yc c d with | some b=>Re.ok (Wv.bl b) st | none=> .bad)=_
 rw[h]
theorem isV{c:PySem.Str}{b:Bool}(h:fq.lookup (c,("ValueError":String))=some b)(st:Hs):gR gP fq [.lh c,.ty "ValueError"] st= .ok (.bl b) st:=by
 show(match fq.lookup (c,("ValueError":String)) with | some b=>Re.ok (Wv.bl b) st | none=> .bad)=_
 rw[h]
def hv(hb:List Bool):Wv->Bool
 | .int i=>hb.getD i.toNat false
 | _=>false
theorem kinds{c:PySem.Str}{b0 b1 b2 b3 b4 b5 b6 b7 b8 b9 Px Py Pz PB PC KJ:Bool}{st:Hs}
  (t0:yc c "BadPlace"=some b0)(t1:yc c "BadArea"=some b1)(t2:yc c "BadText"=some b2)(t3:yc c "BadFormula"=some b3)
  (t4:yc c "BadContent"=some b4)(t5:yc c "Full"=some b5)(t6:yc c "NoCell"=some b6)(t7:yc c "NotWaiting"=some b7)
  (t8:yc c "BadCount"=some b8)(t9:yc c "NoRoom"=some b9)(t10:yc c "BadTable"=some Px)(t11:yc c "NoTable"=some Py)
  (t12:yc c "NoColumn"=some Pz)(t13:yc c "NoDeed"=some PB)(t14:yc c "Clash"=some PC)(t15:fq.lookup (c,("ValueError":String))=some KJ) :
  ∃(l:Nat)(st':Hs),bS [.lh c] st= .ok (.ref l) st'/\aq st' l=some (((bR 0 (16:Int).toNat).filter (hv [b0,b1,b2,b3,b4,b5,b6,b7,b8,b9,Px,Py,Pz,PB,PC,KJ])).map id)/\Gr st st':=by
 obtain⟨x,hx⟩:∃x:List Wv,[Wv.bl b0,.bl b1,.bl b2,.bl b3]=x:=⟨_,rfl⟩
 obtain⟨y,hy⟩:∃y:List Wv,[Wv.bl b4,.bl b5,.bl b6,.bl b7]=y:=⟨_,rfl⟩
 obtain⟨z,hz⟩:∃z:List Wv,[Wv.bl b8,.bl b9,.bl Px,.bl Py]=z:=⟨_,rfl⟩
 obtain⟨w,hw⟩:∃w:List Wv,[Wv.bl Pz,.bl PB,.bl PC,.bl KJ]=w:=⟨_,rfl⟩
 obtain⟨hb,Yk⟩:∃hb,[b0,b1,b2,b3,b4,b5,b6,b7,b8,b9,Px,Py,Pz,PB,PC,KJ]=hb:=⟨_,rfl⟩
 have nb:hb.length=16:=by rw[<-Yk];rfl
 have nx:x.length=4:=by rw[<-hx];rfl
 have ny:y.length=4:=by rw[<-hy];rfl
 have nz:z.length=4:=by rw[<-hz];rfl
 have nw:w.length=4:=by rw[<-hw];rfl
 have kx:∀st:Hs,gB x st= .ok (.ref st.length) (st++[.lst x]):=λst=>eP (by rw[nx];unfold lim;omega)
 have ky:∀st:Hs,gB y st= .ok (.ref st.length) (st++[.lst y]):=λst=>eP (by rw[ny];unfold lim;omega)
 have kz:∀st:Hs,gB z st= .ok (.ref st.length) (st++[.lst z]):=λst=>eP (by rw[nz];unfold lim;omega)
 have kw:∀st:Hs,gB w st= .ok (.ref st.length) (st++[.lst w]):=λst=>eP (by rw[nw];unfold lim;omega)
 obtain⟨s1,hs1⟩:∃s1,st++[Ob.lst x]=s1:=⟨_,rfl⟩
 obtain⟨s2,hs2⟩:∃s2,s1++[Ob.lst y]=s2:=⟨_,rfl⟩
 obtain⟨s3,u_⟩:∃s3,s2++[Ob.lst z]=s3:=⟨_,rfl⟩
 obtain⟨s4,DB⟩:∃s4,s3++[Ob.lst w]=s4:=⟨_,rfl⟩
 have g1:Gr st s1:=by rw[<-hs1];exact Gr.push
 have g2:Gr s1 s2:=by rw[<-hs2];exact Gr.push
 have g3:Gr s2 s3:=by rw[<-u_];exact Gr.push
 have g4:Gr s3 s4:=by rw[<-DB];exact Gr.push
 have l1:aq s4 st.length=some x:=(g2.trans (g3.trans g4)).lst (by rw[<-hs1];exact aD)
 have l2:aq s4 s1.length=some y:=(g3.trans g4).lst (by rw[<-hs2];exact aD)
 have l3:aq s4 s2.length=some z:=g4.lst (by rw[<-u_];exact aD)
 have l4:aq s4 s3.length=some w:=by rw[<-DB];exact aD
 have a1:=add_l l1 l2 (by unfold lim;omega)
 obtain⟨s5,PD⟩:∃s5,s4++[Ob.lst (x++y)]=s5:=⟨_,rfl⟩
 rw[PD] at a1
 have g5:Gr s4 s5:=by rw[<-PD];exact Gr.push
 have l5:aq s5 s4.length=some (x++y):=by rw[<-PD];exact aD
 have a2:=add_l l5 (g5.lst l3) (by rw[bZ];unfold lim;omega)
 obtain⟨s6,PF⟩:∃s6,s5++[Ob.lst (x++y++z)]=s6:=⟨_,rfl⟩
 rw[PF] at a2
 have g6:Gr s5 s6:=by rw[<-PF];exact Gr.push
 have l6:aq s6 s5.length=some (x++y++z):=by rw[<-PF];exact aD
 have a3:=add_l l6 ((g5.trans g6).lst l4) (by rw[bZ,bZ];unfold lim;omega)
 obtain⟨s7,Yl⟩:∃s7,s6++[Ob.lst (x++y++z++w)]=s7:=⟨_,rfl⟩
 rw[Yl] at a3
 have g7:Gr s6 s7:=by rw[<-Yl];exact Gr.push
 have l7:aq s7 s6.length=some (hb.map Wv.bl):=by rw[<-Yl,aD,<-hx,<-hy,<-hz,<-hw,<-Yk];rfl
 have cp:=uo (cs:=[("heard",5)]) (gt:=fA) (ge:=i7) (ρ:=[some (.lh c),some (.ref st.length),some (.ref s1.length),some (.ref s2.length),some (.ref s3.length),some (.ref s6.length)]) (w:=(none,bR 0 (16:Int).toNat)) (st:=s7) (t:=hv hb) (f:=id) trivial
  (λv hv' acc=>by
   obtain⟨i,rfl,i0,i1⟩:=Bz hv'
   have i2:i < 16:=by have:((16:Int).toNat:Int)=16:=rfl;omega
   have e:bF (.ref s6.length) (.int i) (s7++[.lst acc])= .ok (.bl (hb.getD i.toNat false)) (s7++[.lst acc]):=by
    refine oJ (lG l7) ?_
    obtain⟨n,rfl⟩:=Int.eq_ofNat_of_zero_le i0
    have ln:n < hb.length:=by rw[nb];omega
    refine L2.gq ?_
    rw[iF,fm ln,FE,N_,fm ln]
    rfl
   unfold fA
   simp[ff,e,hv])
  (λv hv' _ acc=>rfl) (by show(bR 0 (16:Int).toNat).length < lim;rw[cL];unfold lim;omega)
 have r1:=GY (j:=16) (st:=s7) (G0 (by omega) (by omega))
 rw[show((none,bR 0 (16:Int).toNat):Wk).2=bR 0 (16:Int).toNat from rfl] at cp
 rw[Yk]
 obtain⟨res,hres⟩:∃res,((bR 0 (16:Int).toNat).filter (hv hb)).map id=res:=⟨_,rfl⟩
 rw[hres] at cp ⊢
 refine⟨s7.length,s7++[.lst res],?_,aD,g1.trans (g2.trans (g3.trans (g4.trans (g5.trans (g6.trans (g7.trans Gr.push))))))⟩
 refine nR (n:=6) (g:=fb) ?_
 unfold fb
 simp only[xJ,GL,LL,GQ,Bw,xM,e_c,LJ,GN,O9,Bv,LI,Pc,Pd,aK,m6,p_,Av,aH,yZ,mZ,vV,vW,qo,qp,xK,qm,vC,rM,GK,wa t0,wa t1,wa t2,wa t3,wa t4,wa t5,wa t6,wa t7,wa t8,wa t9,wa t10,wa t11,wa t12,wa t13,wa t14,isV t15,hx,hy,hz,hw,kx,ky,kz,kw,hs1,hs2,u_,DB,a1,a2,a3,r1,cp]
theorem kS{c:PySem.Str}{o_ place:Wv}{l:Nat}{res:List Wv}{st:Hs}(hc:zz.lookup (c,("SheetError":PySem.Str))=some true)
  (hk:∀st:Hs,∃(l:Nat)(st':Hs),bS [.lh c] st= .ok (.ref l) st'/\aq st' l=some res/\Gr st st')(hr:res.length<=16)
  (h:∀st:Hs,bD [.ref l,o_,place] st= .err c st):∃(m:Nat)(st':Hs),aV [.ref l,o_,place] st= .ok (.ref m) st'/\aq st' m=some (.str "refused"::res)/\Gr st st':=by
 obtain⟨s1,hs1⟩:∃s1,st++[Ob.lst [.int (-1)]]=s1:=⟨_,rfl⟩
 have g1:Gr st s1:=by rw[<-hs1];exact Gr.push
 obtain⟨s2,hs2⟩:∃s2,s1++[Ob.lst [.str "refused"]]=s2:=⟨_,rfl⟩
 have g2:Gr s1 s2:=by rw[<-hs2];exact Gr.push
 have l2:aq s2 s1.length=some [.str "refused"]:=by rw[<-hs2];exact aD
 obtain⟨k,s3,e3,l3,g3⟩:=hk s2
 have a3:=add_l (g3.lst l2) l3 (by show 1+res.length<=lim;unfold lim;omega)
 have bd:cC [some (.ref l),some o_,some place,some (.ref st.length),none] s1= .err c [some (.ref l),some o_,some place,some (.ref st.length),none] s1:=by
  unfold cC
  simp[h]
 have su:c_ [some (.ref l),some o_,some place,some (.ref st.length),some (.lh c)] s1= .nx [some (.ref l),some o_,some place,some (.ref s3.length),some (.lh c)] (s3++[.lst ([.str "refused"]++res)]):=by
  unfold c_
  simp[hs2,e3,a3]
 have tr:=GW (cat:=λy=>zz.lookup (y,("SheetError":PySem.Str))) (i:=4) (gs:=c_) (ρ:=[some (.ref l),some o_,some place,some (.ref st.length),none]) (st:=s1) hc su
 refine⟨s3.length,s3++[.lst ([.str "refused"]++res)],?_,aD,g1.trans (g2.trans (g3.trans Gr.push))⟩
 refine nR (n:=5) (g:=cN) ?_
 unfold cN
 simp only[List.singleton_append] at tr
 simp[hs1,bd,tr]
theorem kA(st:Hs):∃(l:Nat)(st':Hs),bS [.lh "BadArea"] st= .ok (.ref l) st'/\aq st' l=some [.int 1,.int 15]/\Gr st st' :=
 kinds (b0:=false) (b1:=true) (b2:=false) (b3:=false) (b4:=false) (b5:=false) (b6:=false) (b7:=false) (b8:=false) (b9:=false) (Px:=false) (Py:=false) (Pz:=false) (PB:=false) (PC:=false) (KJ:=true) (by decide+kernel) (by decide+kernel) (by decide+kernel) (by decide+kernel) (by decide+kernel) (by decide+kernel) (by decide+kernel) (by decide+kernel) (by decide+kernel) (by decide+kernel) (by decide+kernel) (by decide+kernel) (by decide+kernel) (by decide+kernel) (by decide+kernel) (by decide+kernel)
theorem kP(st:Hs):∃(l:Nat)(st':Hs),bS [.lh "BadPlace"] st= .ok (.ref l) st'/\aq st' l=some [.int 0,.int 15]/\Gr st st' :=
 kinds (b0:=true) (b1:=false) (b2:=false) (b3:=false) (b4:=false) (b5:=false) (b6:=false) (b7:=false) (b8:=false) (b9:=false) (Px:=false) (Py:=false) (Pz:=false) (PB:=false) (PC:=false) (KJ:=true) (by decide+kernel) (by decide+kernel) (by decide+kernel) (by decide+kernel) (by decide+kernel) (by decide+kernel) (by decide+kernel) (by decide+kernel) (by decide+kernel) (by decide+kernel) (by decide+kernel) (by decide+kernel) (by decide+kernel) (by decide+kernel) (by decide+kernel) (by decide+kernel)
theorem kR(st:Hs):∃(l:Nat)(st':Hs),bS [.lh "NoRoom"] st= .ok (.ref l) st'/\aq st' l=some [.int 9,.int 15]/\Gr st st' :=
 kinds (b0:=false) (b1:=false) (b2:=false) (b3:=false) (b4:=false) (b5:=false) (b6:=false) (b7:=false) (b8:=false) (b9:=true) (Px:=false) (Py:=false) (Pz:=false) (PB:=false) (PC:=false) (KJ:=true) (by decide+kernel) (by decide+kernel) (by decide+kernel) (by decide+kernel) (by decide+kernel) (by decide+kernel) (by decide+kernel) (by decide+kernel) (by decide+kernel) (by decide+kernel) (by decide+kernel) (by decide+kernel) (by decide+kernel) (by decide+kernel) (by decide+kernel) (by decide+kernel)
theorem Ym{a b c d p q:Int}{l:Nat}{st:Hs}(h:¬c7 a b c d):∃(m:Nat)(st':Hs),aV [.ref l,tI [a,b,c,d],tI [p,q]] st= .ok (.ref m) st'/\aq st' m=some [.str "refused",.int 1,.int 15]/\Gr st st' :=
 kS (c:="BadArea") (by decide+kernel) kA (by decide) λst=>Dm h
theorem Yn{a b c d p q:Int}{l:Nat}{st:Hs}(h:c7 a b c d)(k:¬cD p q):∃(m:Nat)(st':Hs),aV [.ref l,tI [a,b,c,d],tI [p,q]] st= .ok (.ref m) st'/\aq st' m=some [.str "refused",.int 0,.int 15]/\Gr st st' :=
 kS (c:="BadPlace") (by decide+kernel) kP (by decide) λst=>Dp h k
theorem Yo{a b c d p q:Int}{l:Nat}{st:Hs}(h:c7 a b c d)(k:cD p q)(hc:¬Co p q (p+c - a) (q+d - b)):∃(m:Nat)(st':Hs),aV [.ref l,tI [a,b,c,d],tI [p,q]] st= .ok (.ref m) st'/\aq st' m=some [.str "refused",.int 9,.int 15]/\Gr st st' :=
 kS (c:="NoRoom") (by decide+kernel) kR (by decide) λst=>Dq h k hc
theorem HC{l:Nat}{kvs:Ks}{a b c d p q:Int}{st:Hs}(h:fg st[l]? =some kvs)(hC:∀k v,cW kvs k=some v->Cn v)(ha:c7 a b c d)(hp:cD p q)(hc:Co p q (p+c - a) (q+d - b)) :
  ∃(m:Nat)(st':Hs),aV [.ref l,tI [a,b,c,d],tI [p,q]] st= .ok (.ref m) st'/\aq st' m=some [.int ((c - a+1) * (d - b+1))]/\Gr st st':=by
 obtain⟨s1,hs1⟩:∃s1,st++[Ob.lst [.int (-1)]]=s1:=⟨_,rfl⟩
 have g1:Gr st s1:=by rw[<-hs1];exact Gr.push
 have h1:fg s1[l]? =some kvs:=by
  have ll:l < st.length:=by
   unfold fg at h
   split at h
   ·rename_i q;exact eh q
   ·rename_i q;exact eh q
   ·cases h
  rw[g1.2 l ll];exact h
 obtain⟨e,s2,e2,h2,g2,_⟩:=block h1 hC ha hp hc
 have ln:ub [.ref e] s2= .ok (.int ((c - a+1) * (d - b+1))) s2:=by
  show(match fg s2[e]? with | some kvs=>Re.ok (Wv.int kvs.length) s2 | none=>me [.ref e] s2)=_
  rw[h2]
  dsimp only[fg]
  rw[BM]
  have e1:c - a+1=((c+1 - a).toNat:Int):=by have:=ha.2.1;omega
  have e2:d - b+1=((d+1 - b).toNat:Int):=by have:=ha.2.2.2.2.1;omega
  rw[e1,e2,Int.natCast_mul]
 refine⟨s2.length,s2++[.lst [.int ((c - a+1) * (d - b+1))]],?_,aD,g1.trans (g2.trans Gr.push)⟩
 refine nR (n:=5) (g:=cN) ?_
 have bd:cC [some (.ref l),some (tI [a,b,c,d]),some (tI [p,q]),some (.ref st.length),none] s1= .nx [some (.ref l),some (tI [a,b,c,d]),some (tI [p,q]),some (.ref s2.length),none] (s2++[.lst [.int ((c - a+1) * (d - b+1))]]):=by
  unfold cC
  simp[e2,ln]
 unfold cN
 simp[hs1,bd]
theorem sk{b:Bool}{st:Hs}:nE [.bl b] st= .ok (.int (if b=true then 1 else 0)) st:=rfl
theorem sr{t:GT}{g:GS}{ρ:bC}{st st':Hs}(h:t ρ st= .ok false st'):mf t g bQ ρ st= .nx ρ st':=by simp[h]
theorem zU{l k:Nat}{i:Int}{st:Hs}(h:aq st l=some [.str "refused",.int i,.int 15])(h':aq st k=some [.str "refused",.int i,.int 15]):yD (.ref l) (.ref k) st= .ok (.bl false) st :=
 G8 (by rw[BA h];rfl) (by rw[BA h'];rfl) (by simp[bI,iD])
theorem HD{l k:Nat}{i:Int}{st:Hs}(h:aq st l=some [.int i])(h':aq st k=some [.int i]):yD (.ref l) (.ref k) st= .ok (.bl false) st :=
 G8 (by rw[BA h];rfl) (by rw[BA h'];rfl) (by simp[bI,iD])
def Mc(bP:Int):List Wv:=[tI [-1,0],tI [0,-1],tI [99,0],tI [0,26],tI [99+bP,3],tI [3,-1 - bP]]
theorem HE{bP:Int}(hf:0<=bP){w:Wv}(h:w∈Mc bP):∃p q:Int,w=tI [p,q]/\¬cD p q:=by
 unfold Mc at h
 simp only[aP,aR,or_false] at h
 rcases h with rfl | rfl | rfl | rfl | rfl | rfl<;>exact⟨_,_,rfl,λz=>by obtain⟨z1,z2,z3,z4⟩:=z;omega⟩
structure Wd(d e r np:Nat)(kvs:Ks)(bP:Int)(s:Hs):Prop where
 hd:s[d]? =some (.ja kvs)
 he:s[e]? =some (.ja kvs)
 hr:Ro r s
 hn:aq s np=some (Mc bP)
 nd:d≠r
 ne:e≠r
 nn:np≠r
theorem Wd.gr{d e r np:Nat}{kvs:Ks}{bP:Int}{s s':Hs}(w:Wd d e r np kvs bP s)(g:Gr s s'):Wd d e r np kvs bP s':=⟨g.get w.hd,g.get w.he,w.hr.gr g,g.lst w.hn,w.nd,w.ne,w.nn⟩
theorem Wd.dw{d e r np:Nat}{kvs:Ks}{bP:Int}{s s':Hs}(w:Wd d e r np kvs bP s)(g:Dw r s s'):Wd d e r np kvs bP s' :=
 ⟨by rw[g.1.2 d (eh w.hd) w.nd];exact w.hd,by rw[g.1.2 e (eh w.he) w.ne];exact w.he,g.2,g.1.lst w.hn w.nn,w.nd,w.ne,w.nn⟩
abbrev Rh(d e r np:Nat)(bP:Int)(o6 o7 o8 o9 mQ jH i_ fU fV:Option Wv):bC:=[some (.ref 0),some (.ref d),some (.ref e),some (.ref r),some (.int bP),some (.ref np),o6,o7,o8,o9,mQ,jH,i_,fU,fV]
section
variable {d e r np:Nat} {kvs:Ks} {bP:Int} {o6 o7 o8 o9 mQ jH i_ fU fV:Option Wv} {s:Hs}
theorem L5{a b c f p q:Int}(h:¬c7 a b c f):∃s',nY (Rh d e r np bP (some (tI [a,b,c,f])) (some (tI [p,q])) o8 o9 mQ jH i_ fU fV) s= .nx (Rh d e r np bP (some (tI [a,b,c,f])) (some (tI [p,q])) o8 o9 mQ jH i_ fU fV) s'/\Gr s s':=by
 obtain⟨m,s1,e1,l1,g1⟩:=Ym (p:=p) (q:=q) (l:=d) (st:=s) h
 have n:=zU (lG (o:=.lst [.str "refused",.int 1,.int 15]) l1) aD
 exact⟨_,sr (by simp[e1,n];rfl),g1.trans Gr.push⟩
theorem L3{a b c f p q:Int}(h:c7 a b c f)(k:¬cD p q):∃s',kJ (Rh d e r np bP (some (tI [a,b,c,f])) (some (tI [p,q])) o8 o9 mQ jH i_ fU fV) s= .nx (Rh d e r np bP (some (tI [a,b,c,f])) (some (tI [p,q])) o8 o9 mQ jH i_ fU fV) s'/\Gr s s':=by
 obtain⟨m,s1,e1,l1,g1⟩:=Yn (p:=p) (q:=q) (l:=d) (st:=s) h k
 have n:=zU (lG (o:=.lst [.str "refused",.int 0,.int 15]) l1) aD
 exact⟨_,sr (by simp[e1,n];rfl),g1.trans Gr.push⟩
theorem HG{bP:Int}(hf:0<=bP):∃(l:Nat)(s':Hs)(ws:List Wv),dU [.int bP] s= .ok (.ref l) s'/\aq s' l=some ws/\(∀w∈ws,∃a b c f:Int,w=tI [a,b,c,f]/\¬c7 a b c f)/\Gr s s':=by
 have pw:∀st:Hs,lM (.int 10) (.int 59) st= .ok (.int (10 ^ 59)) st:=λst=>GU (by decide)
 obtain⟨big,hb⟩:∃big:Int,big=10 ^ 59/\98 < big:=⟨10 ^ 59,rfl,by decide+kernel⟩
 rw[<-hb.1] at pw
 obtain⟨x,hx⟩:∃x:List Wv,[tI [3,1,2,1],tI [3,2,3,1],tI [0,0,99,0],tI [0,0,0,26],tI [-1,0,0,0],tI [0,-1,0,0],tI [0,0,42,6]]=x:=⟨_,rfl⟩
 obtain⟨y,hy⟩:∃y:List Wv,[tI [0,0,99+bP,0],tI [-1 - bP,0,0,0],tI [0,26+bP,0,27+bP],tI [9,0,0,25],tI [0,0,98,3]]=y:=⟨_,rfl⟩
 obtain⟨z,hz⟩:∃z:List Wv,[tI [0,0,24,12],tI [0,0,big,big]]=z:=⟨_,rfl⟩
 have nx:x.length=7:=by rw[<-hx];rfl
 have ny:y.length=5:=by rw[<-hy];rfl
 have nz:z.length=2:=by rw[<-hz];rfl
 have kx:∀st:Hs,gB x st= .ok (.ref st.length) (st++[.lst x]):=λst=>eP (by rw[nx];unfold lim;omega)
 have ky:∀st:Hs,gB y st= .ok (.ref st.length) (st++[.lst y]):=λst=>eP (by rw[ny];unfold lim;omega)
 have kz:∀st:Hs,gB z st= .ok (.ref st.length) (st++[.lst z]):=λst=>eP (by rw[nz];unfold lim;omega)
 have t4:∀{a b c f:Int}{st:Hs},rN [.int a,.int b,.int c,.int f] st= .ok (tI [a,b,c,f]) st:=Pa
 obtain⟨s1,hs1⟩:∃s1,s++[Ob.lst x]=s1:=⟨_,rfl⟩
 obtain⟨s2,hs2⟩:∃s2,s1++[Ob.lst y]=s2:=⟨_,rfl⟩
 have g1:Gr s s1:=by rw[<-hs1];exact Gr.push
 have g2:Gr s1 s2:=by rw[<-hs2];exact Gr.push
 have a2:=add_l (g2.lst (by rw[<-hs1];exact aD)) (show aq s2 s1.length=some y by rw[<-hs2];exact aD) (by rw[nx,ny];unfold lim;omega)
 obtain⟨s3,u_⟩:∃s3,s2++[Ob.lst (x++y)]=s3:=⟨_,rfl⟩
 rw[u_] at a2
 have g3:Gr s2 s3:=by rw[<-u_];exact Gr.push
 obtain⟨s4,DB⟩:∃s4,s3++[Ob.lst z]=s4:=⟨_,rfl⟩
 have g4:Gr s3 s4:=by rw[<-DB];exact Gr.push
 have a4:=add_l (g4.lst (by rw[<-u_];exact aD)) (show aq s4 s3.length=some z by rw[<-DB];exact aD) (by rw[bZ,nx,ny,nz];unfold lim;omega)
 refine⟨s4.length,s4++[.lst (x++y++z)],x++y++z,nR (n:=2) (g:=dS) ?_,aD,λw hw=>?_,g1.trans (g2.trans (g3.trans (g4.trans Gr.push)))⟩
 ·unfold dS
  simp only[xJ,GL,LL,GQ,Uu,XS,Uv,LM,Uw,Bw,xM,e_c,LJ,GN,O9,Bv,LI,aK,m6,p_,Av,aH,yZ,mZ,vV,vW,qo,qp,xK,qm,vC,rM,GK,t4,pw,hx,hy,hz,kx,ky,kz,hs1,hs2,DB,a2,a4]
 ·have no:∀{a b c f:Int},¬c7 a b c f->∃a' b' c' f':Int,tI [a,b,c,f]=tI [a',b',c',f']/\¬c7 a' b' c' f':=λ{a b c f} h=>⟨a,b,c,f,rfl,h⟩
  rw[<-hx,<-hy,<-hz] at hw
  simp only[yZ,mZ,aP,aR,or_false] at hw
  rcases hw with rfl | rfl | rfl | rfl | rfl | rfl | rfl | rfl | rfl | rfl | rfl | rfl | rfl | rfl<;>refine no λq=>?_<;>obtain⟨q1,q2,q3,q4,q5,q6,q7⟩:=q<;>omega
theorem L4{a b c f:Int}(hf:0<=bP)(w:Wd d e r np kvs bP s)(h:¬c7 a b c f):∃(p7:Option Wv)(s':Hs),i9 (Rh d e r np bP (some (tI [a,b,c,f])) o7 o8 o9 mQ jH i_ fU fV) s= .nx (Rh d e r np bP (some (tI [a,b,c,f])) p7 o8 o9 mQ jH i_ fU fV) s'/\Dw r s s':=by
 obtain⟨x,s1,e1,x0,x1,d1⟩:=dig (m:=6) w.hr (by decide) (by decide)
 have w1:=w.dw d1
 obtain⟨v,e2,hv⟩:=rO (ws:=Mc bP) (d:=x) x0 x1
 have i2:=oJ w1.hn e2
 obtain⟨p,q,rfl,_⟩:=HE hf hv
 obtain⟨s2,hs2⟩:∃s2,s1++[Ob.lst [tI [0,0],tI [p,q]]]=s2:=⟨_,rfl⟩
 have g2:Gr s1 s2:=by rw[<-hs2];exact Gr.push
 have l2:aq s2 s1.length=some [tI [0,0],tI [p,q]]:=by rw[<-hs2];exact aD
 obtain⟨ρ3,s3,e3,⟨p7,rfl,w3,g3⟩,_⟩:=ke (i:=7) (gb:=nY) (l:=s1.length) (all:=[tI [0,0],tI [p,q]]) (λρ s'=>∃p7,ρ=Rh d e r np bP (some (tI [a,b,c,f])) p7 o8 o9 mQ jH i_ fU fV/\Wd d e r np kvs bP s'/\Gr s2 s') [tI [0,0],tI [p,q]] (Rh d e r np bP (some (tI [a,b,c,f])) o7 o8 o9 mQ jH i_ fU fV) s2 ⟨o7,rfl,w1.gr g2,Gr.refl⟩ l2 (λv hv ρ s' hP hl=>by
  obtain⟨p7,rfl,w3,g3⟩:=hP
  obtain⟨p',q',rfl⟩:∃p' q':Int,v=tI [p',q']:=by
   rcases List.mem_cons.mp hv with rfl | hv
   ·exact⟨0,0,rfl⟩
   ·exact⟨p,q,List.mem_singleton.mp hv⟩
  obtain⟨s4,e4,g4⟩:=L5 (d:=d) (e:=e) (r:=r) (np:=np) (bP:=bP) (p:=p') (q:=q') (o8:=o8) (o9:=o9) (mQ:=mQ) (jH:=jH) (i_:=i_) (fU:=fU) (fV:=fV) (s:=s') h
  exact⟨_,s4,e4,g4.lst hl,some (tI [p',q']),rfl,w3.gr g4,g3.trans g4⟩)
 refine⟨p7,s3,?_,d1.1.trans (g2.trans g3).keep,w3.hr⟩
 have t0:∀st:Hs,rN [.int 0,.int 0] st= .ok (tI [0,0]) st:=λst=>jo
 have k2:gB [tI [0,0],tI [p,q]] s1= .ok (.ref s1.length) s2:=by rw[<-hs2];exact fY
 have kf:kFor 7 nY (Rh d e r np bP (some (tI [a,b,c,f])) o7 o8 o9 mQ jH i_ fU fV) (.ref s1.length) s2= .nx (Rh d e r np bP (some (tI [a,b,c,f])) p7 o8 o9 mQ jH i_ fU fV) s3:=by rw[vF l2];exact e3
 unfold i9
 simp[-jo,-fY,t0,e1,i2,k2,kf]
theorem Yp{high wide p q:Int}{o_:Wv}(hh:0<=high/\high<=98) :
  ∃(k:Nat)(s':Hs),aG (aX 13 (lU (ai oLe (ai a9 (ai bF (af 7) (gC (.int 0))) (af 9)) (gC (.int 98))) (ai oLe (ai a9 (ai bF (af 7) (gC (.int 1))) (af 10)) (gC (.int 25)))))
   (aX 14 (ai bF (cH (aa (cH (aa (gC (.str "refused")) (aa (gC (.int 9)) (aa (gC (.int 15)) aj)))) (aa (cH (aa (ai cG (ai a9 (af 9) (gC (.int 1))) (ai a9 (af 10) (gC (.int 1)))) aj)) aj))) (aQ nE (aa (af 13) aj)))) (Rh d e r np bP (some o_) (some (tI [p,q])) o8 (some (.int high)) (some (.int wide)) jH i_ fU fV) s=
   .nx (Rh d e r np bP (some o_) (some (tI [p,q])) o8 (some (.int high)) (some (.int wide)) jH i_ (some (.bl (decide (p+high<=98)&&decide (q+wide<=25)))) (some (.ref k))) s'/\Gr s s'/\aq s' k=some (if p+high<=98/\q+wide<=25 then[.int ((high+1) * (wide+1))] else[.str "refused",.int 9,.int 15]):=by
 have mu:∀st:Hs,cG (.int (high+1)) (.int (wide+1)) st= .ok (.int ((high+1) * (wide+1))) st:=λst=>um (by omega) (by omega)
 obtain⟨M,hM⟩:∃M:Int,(high+1) * (wide+1)=M:=⟨_,rfl⟩
 rw[hM] at mu ⊢
 obtain⟨s1,hs1⟩:∃s1,s++[Ob.lst [.str "refused",.int 9,.int 15]]=s1:=⟨_,rfl⟩
 have g1:Gr s s1:=by rw[<-hs1];exact Gr.push
 have l1:aq s1 s.length=some [.str "refused",.int 9,.int 15]:=by rw[<-hs1];exact aD
 obtain⟨s2,hs2⟩:∃s2,s1++[Ob.lst [.int M]]=s2:=⟨_,rfl⟩
 have g2:Gr s1 s2:=by rw[<-hs2];exact Gr.push
 have l2:aq s2 s1.length=some [.int M]:=by rw[<-hs2];exact aD
 obtain⟨s3,u_⟩:∃s3,s2++[Ob.lst [.ref s.length,.ref s1.length]]=s3:=⟨_,rfl⟩
 have g3:Gr s2 s3:=by rw[<-u_];exact Gr.push
 have l3:aq s3 s2.length=some [.ref s.length,.ref s1.length]:=by rw[<-u_];exact aD
 have i0:bF (tI [p,q]) (.int 0) s= .ok (.int p) s:=LS
 have i1:bF (tI [p,q]) (.int 1) s= .ok (.int q) s:=LU
 have x0:bF (.ref s2.length) (.int 0) s3= .ok (.ref s.length) s3:=oJ l3 rfl
 have x1:bF (.ref s2.length) (.int 1) s3= .ok (.ref s1.length) s3:=oJ l3 rfl
 have k1:gB [.str "refused",.int 9,.int 15] s= .ok (.ref s.length) s1:=by rw[<-hs1];exact oH
 have k2:gB [.int M] s1= .ok (.ref s1.length) s2:=by rw[<-hs2];exact vE
 have k3:gB [.ref s.length,.ref s1.length] s2= .ok (.ref s2.length) s3:=by rw[<-u_];exact fY
 by_cases c1:p+high<=98
 ·by_cases c2:q+wide<=25
  ·refine⟨s1.length,s3,?_,g1.trans (g2.trans g3),by rw[if_pos ⟨c1,c2⟩];exact g3.lst l2⟩
   simp[-vE,-fY,-oH,i0,i1,c1,c2,k1,mu,k2,k3,sk,x1]
  ·refine⟨s.length,s3,?_,g1.trans (g2.trans g3),by rw[if_neg λz=>c2 z.2];exact(g2.trans g3).lst l1⟩
   simp[-vE,-fY,-oH,i0,i1,c1,c2,k1,mu,k2,k3,sk,x0]
 ·refine⟨s.length,s3,?_,g1.trans (g2.trans g3),by rw[if_neg λz=>c1 z.1];exact(g2.trans g3).lst l1⟩
  simp[-vE,-fY,-oH,i0,i1,c1,k1,mu,k2,k3,sk,x0]
theorem Yq{a b c:GS}{ρ ρ':bC}{st st':Hs}(h:aG a b ρ st= .nx ρ' st'):aG a (aG b c) ρ st=c ρ' st':=by
 rw[xJ] at h ⊢
 cases ea:a ρ st with
 | nx ρ1 s1=>rw[ea] at h;simp only[GK] at h ⊢;rw[xJ,h];rfl
 | _=>rw[ea] at h;cases h
theorem L2{high wide top left p q:Int}(hC:∀k v,cW kvs k=some v->Cn v)(w:Wd d e r np kvs bP s)(ha:c7 top left (top+high) (left+wide))(hh:0<=high/\high<=98)(hw:0<=wide)(p0:0<=p)(q0:0<=q) :
  ∃(CF DC:Option Wv)(s':Hs),i8 (Rh d e r np bP (some (tI [top,left,top+high,left+wide])) (some (tI [p,q])) o8 (some (.int high)) (some (.int wide)) jH i_ fU fV) s= .nx (Rh d e r np bP (some (tI [top,left,top+high,left+wide])) (some (tI [p,q])) o8 (some (.int high)) (some (.int wide)) jH i_ CF DC) s'/\Gr s s':=by
 obtain⟨k,s1,e1,g1,l1⟩:=Yp (d:=d) (e:=e) (r:=r) (np:=np) (bP:=bP) (high:=high) (wide:=wide) (p:=p) (q:=q) (o_:=tI [top,left,top+high,left+wide]) (o8:=o8) (jH:=jH) (i_:=i_) (fU:=fU) (fV:=fV) (s:=s) hh
 have w1:=w.gr g1
 have i0:∀st:Hs,bF (tI [p,q]) (.int 0) st= .ok (.int p) st:=λ_=>LS
 have i1:∀st:Hs,bF (tI [p,q]) (.int 1) st= .ok (.int q) st:=λ_=>LU
 unfold i8
 rw[Yq e1]
 generalize hG:(decide (p+high<=98)&&decide (q+wide<=25))=G
 by_cases c3:p<=98
 ·by_cases c4:q<=25
  ·have hp:cD p q:=⟨p0,c3,q0,c4⟩
   by_cases c:p+high<=98/\q+wide<=25
   ·rw[if_pos c] at l1
    obtain⟨m,s2,e2,l2,g2⟩:=HC (l:=d) (kvs:=kvs) (p:=p) (q:=q) (st:=s1) (by rw[w1.hd];rfl) hC ha hp (by unfold Co cD;omega)
    rw[show top+high - top+1=high+1 by omega,show left+wide - left+1=wide+1 by omega] at l2
    have n:=HD l2 (g2.lst l1)
    refine⟨_,_,s2,sr ?_,g1.trans g2⟩
    simp[i0,i1,c3,c4,e2,n]
   ·rw[if_neg c] at l1
    obtain⟨m,s2,e2,l2,g2⟩:=Yo (l:=d) (p:=p) (q:=q) (st:=s1) ha hp (by unfold Co cD;omega)
    have n:=zU l2 (g2.lst l1)
    refine⟨_,_,s2,sr ?_,g1.trans g2⟩
    simp[i0,i1,c3,c4,e2,n]
  ·exact⟨_,_,s1,sr (by simp[i0,i1,c3,c4]),g1⟩
 ·exact⟨_,_,s1,sr (by simp[i0,i1,c3]),g1⟩
end
section
variable {d e r np:Nat} {kvs:Ks} {bP:Int} {o6 o7 o8 o9 mQ jH i_ fU fV:Option Wv} {s:Hs}
theorem st9{k:Nat}(w:Wd d e r np kvs bP s):∃(high:Int)(s':Hs),aX 9 (ai bF (cH (aa (av 2 ao (aa (af 3) (aa (gC (.int 12)) aj))) (aa (gC (.int 98)) aj))) (aQ nE (aa (ai oEq (af 8) (gC (.int 3))) aj))) (Rh d e r np bP o6 o7 (some (.int (k:Nat))) o9 mQ jH i_ fU fV) s= .nx (Rh d e r np bP o6 o7 (some (.int (k:Nat))) (some (.int high)) mQ jH i_ fU fV) s'/\Wd d e r np kvs bP s'/\(k=3->high=98)/\(k≠3->0<=high/\high < 12):=by
 obtain⟨x,s1,e1,x0,x1,d1⟩:=dig (m:=12) w.hr (by decide) (by decide)
 obtain⟨s2,hs2⟩:∃s2,s1++[Ob.lst [.int x,.int 98]]=s2:=⟨_,rfl⟩
 have g2:Gr s1 s2:=by rw[<-hs2];exact Gr.push
 have l2:aq s2 s1.length=some [.int x,.int 98]:=by rw[<-hs2];exact aD
 have k2:gB [.int x,.int 98] s1= .ok (.ref s1.length) s2:=by rw[<-hs2];exact fY
 have i0:bF (.ref s1.length) (.int 0) s2= .ok (.int x) s2:=oJ l2 rfl
 have i1:bF (.ref s1.length) (.int 1) s2= .ok (.int 98) s2:=oJ l2 rfl
 by_cases c:k=3
 ·subst c
  refine⟨98,s2,?_,(w.dw d1).gr g2,λ_=>rfl,λz=>absurd rfl z⟩
  simp[-fY,e1,k2,sk,i1]
 ·have c':((k:Int) == 3)=false:=beq_false_of_ne (by omega)
  refine⟨x,s2,?_,(w.dw d1).gr g2,λz=>absurd z c,λ_=>⟨x0,x1⟩⟩
  simp[-fY,e1,k2,sk,c',i0]
theorem Yr{k:Nat}(w:Wd d e r np kvs bP s):∃(wide:Int)(s':Hs),aX 10 (ai bF (cH (aa (av 2 ao (aa (af 3) (aa (gC (.int 20)) aj))) (aa (av 2 ao (aa (af 3) (aa (gC (.int 3)) aj))) aj))) (aQ nE (aa (ai oEq (af 8) (gC (.int 3))) aj))) (Rh d e r np bP o6 o7 (some (.int (k:Nat))) o9 mQ jH i_ fU fV) s= .nx (Rh d e r np bP o6 o7 (some (.int (k:Nat))) o9 (some (.int wide)) jH i_ fU fV) s'/\Wd d e r np kvs bP s'/\(k=3->0<=wide/\wide < 3)/\(k≠3->0<=wide/\wide < 20):=by
 obtain⟨x,s0,e0,x0,x1,d0⟩:=dig (m:=20) w.hr (by decide) (by decide)
 obtain⟨y,s1,e1,y0,y1,d1⟩:=dig (m:=3) d0.2 (by decide) (by decide)
 obtain⟨s2,hs2⟩:∃s2,s1++[Ob.lst [.int x,.int y]]=s2:=⟨_,rfl⟩
 have g2:Gr s1 s2:=by rw[<-hs2];exact Gr.push
 have l2:aq s2 s1.length=some [.int x,.int y]:=by rw[<-hs2];exact aD
 have k2:gB [.int x,.int y] s1= .ok (.ref s1.length) s2:=by rw[<-hs2];exact fY
 have i0:bF (.ref s1.length) (.int 0) s2= .ok (.int x) s2:=oJ l2 rfl
 have i1:bF (.ref s1.length) (.int 1) s2= .ok (.int y) s2:=oJ l2 rfl
 by_cases c:k=3
 ·subst c
  refine⟨y,s2,?_,((w.dw d0).dw d1).gr g2,λ_=>⟨y0,y1⟩,λz=>absurd rfl z⟩
  simp[-fY,e0,e1,k2,sk,i1]
 ·have c':((k:Int) == 3)=false:=beq_false_of_ne (by omega)
  refine⟨x,s2,?_,((w.dw d0).dw d1).gr g2,λz=>absurd z c,λ_=>⟨x0,x1⟩⟩
  simp[-fY,e0,e1,k2,sk,c',i0]
theorem PH{a b:GS}{ρ ρ':bC}{st st':Hs}(h:a ρ st= .nx ρ' st'):aG a b ρ st=b ρ' st':=by rw[xJ,h];rfl
theorem L1{k:Nat}(hf:0<=bP)(hC:∀k v,cW kvs k=some v->Cn v)(w:Wd d e r np kvs bP s):∃(p6 p7 p9 Ys Vx Vy CF DC:Option Wv)(s':Hs),nX (Rh d e r np bP o6 o7 (some (.int (k:Nat))) o9 mQ jH i_ fU fV) s= .nx (Rh d e r np bP p6 p7 (some (.int (k:Nat))) p9 Ys Vx Vy CF DC) s'/\Wd d e r np kvs bP s':=by
 obtain⟨high,s1,e1,w1,h3,hn3⟩:=st9 (o6:=o6) (o7:=o7) (o9:=o9) (mQ:=mQ) (jH:=jH) (i_:=i_) (fU:=fU) (fV:=fV) (k:=k) w
 obtain⟨wide,s2,e2,w2,v3,vn3⟩:=Yr (o6:=o6) (o7:=o7) (o9:=some (.int high)) (mQ:=mQ) (jH:=jH) (i_:=i_) (fU:=fU) (fV:=fV) (k:=k) w1
 have hh:0<=high/\high<=98:=by
  by_cases c:k=3
  ·have:=h3 c;omega
  ·have:=hn3 c;omega
 have hw:0<=wide/\wide < 20:=by
  by_cases c:k=3
  ·have:=v3 c;omega
  ·have:=vn3 c;omega
 have many:(high+1) * (wide+1)<=300:=by
  by_cases c:k=3
  ·have:=h3 c;have:=v3 c
   exact yJ (Hf (p:=99) (q:=3) (by omega) (by omega) (by omega) (by omega)) (by decide)
  ·have:=hn3 c;have:=vn3 c
   exact yJ (Hf (p:=12) (q:=20) (by omega) (by omega) (by omega) (by omega)) (by decide)
 obtain⟨top,s3,e3,t0,t1,d3⟩:=dig (m:=99 - high) w2.hr (by omega) (by omega)
 obtain⟨left,s4,e4,f0,f1,d4⟩:=dig (m:=26 - wide) d3.2 (by omega) (by omega)
 have w4:=(w2.dw d3).dw d4
 have ha:c7 top left (top+high) (left+wide):=by
  refine⟨t0,by omega,by omega,f0,by omega,by omega,?_⟩
  rw[show top+high - top+1=high+1 by omega,show left+wide - left+1=wide+1 by omega]
  exact many
 unfold nX
 rw[PH e1,PH e2]
 have h11:aX 11 (av 2 ao (aa (af 3) (aa (ai eJ (gC (.int 99)) (af 9)) aj))) (Rh d e r np bP o6 o7 (some (.int (k:Nat))) (some (.int high)) (some (.int wide)) jH i_ fU fV) s2= .nx (Rh d e r np bP o6 o7 (some (.int (k:Nat))) (some (.int high)) (some (.int wide)) (some (.int top)) i_ fU fV) s3:=by simp[e3]
 have h12:aX 12 (av 2 ao (aa (af 3) (aa (ai eJ (gC (.int 26)) (af 10)) aj))) (Rh d e r np bP o6 o7 (some (.int (k:Nat))) (some (.int high)) (some (.int wide)) (some (.int top)) i_ fU fV) s3= .nx (Rh d e r np bP o6 o7 (some (.int (k:Nat))) (some (.int high)) (some (.int wide)) (some (.int top)) (some (.int left)) fU fV) s4:=by simp[e4]
 have h6:aX 6 (bz (aa (af 11) (aa (af 12) (aa (ai a9 (af 11) (af 9)) (aa (ai a9 (af 12) (af 10)) aj))))) (Rh d e r np bP o6 o7 (some (.int (k:Nat))) (some (.int high)) (some (.int wide)) (some (.int top)) (some (.int left)) fU fV) s4= .nx (Rh d e r np bP (some (tI [top,left,top+high,left+wide])) o7 (some (.int (k:Nat))) (some (.int high)) (some (.int wide)) (some (.int top)) (some (.int left)) fU fV) s4:=by simp[tI]
 rw[PH h11,PH h12,PH h6]
 obtain⟨ρ5,s5,e5,⟨p7,rfl,w5⟩,_⟩:=ke (i:=7) (gb:=kJ) (l:=np) (all:=Mc bP) (λρ s'=>∃p7,ρ=Rh d e r np bP (some (tI [top,left,top+high,left+wide])) p7 (some (.int (k:Nat))) (some (.int high)) (some (.int wide)) (some (.int top)) (some (.int left)) fU fV/\Wd d e r np kvs bP s') (Mc bP) (Rh d e r np bP (some (tI [top,left,top+high,left+wide])) o7 (some (.int (k:Nat))) (some (.int high)) (some (.int wide)) (some (.int top)) (some (.int left)) fU fV) s4 ⟨o7,rfl,w4⟩ w4.hn (λv hv ρ s' hP hl=>by
  obtain⟨p7,rfl,w3⟩:=hP
  obtain⟨p',q',rfl,no⟩:=HE hf hv
  obtain⟨s6,e6,g6⟩:=L3 (d:=d) (e:=e) (r:=r) (np:=np) (bP:=bP) (p:=p') (q:=q') (o8:=some (.int (k:Nat))) (o9:=some (.int high)) (mQ:=some (.int wide)) (jH:=some (.int top)) (i_:=some (.int left)) (fU:=fU) (fV:=fV) (s:=s') ha no
  exact⟨_,s6,e6,g6.lst hl,some (tI [p',q']),rfl,w3.gr g6⟩)
 have h7:pP 7 (af 5) kJ (Rh d e r np bP (some (tI [top,left,top+high,left+wide])) o7 (some (.int (k:Nat))) (some (.int high)) (some (.int wide)) (some (.int top)) (some (.int left)) fU fV) s4= .nx (Rh d e r np bP (some (tI [top,left,top+high,left+wide])) p7 (some (.int (k:Nat))) (some (.int high)) (some (.int wide)) (some (.int top)) (some (.int left)) fU fV) s5:=by
  have kf:=vF (i:=7) (gb:=kJ) (ρ:=Rh d e r np bP (some (tI [top,left,top+high,left+wide])) o7 (some (.int (k:Nat))) (some (.int high)) (some (.int wide)) (some (.int top)) (some (.int left)) fU fV) w4.hn
  rw[e5] at kf
  simp[kf]
 rw[PH h7]
 obtain⟨ps,hps⟩:∃ps:List Wv,[tI [99 - high,0],tI [0,26 - wide],tI [98,25]]=ps:=⟨_,rfl⟩
 obtain⟨s6,PF⟩:∃s6,s5++[Ob.lst ps]=s6:=⟨_,rfl⟩
 have g6:Gr s5 s6:=by rw[<-PF];exact Gr.push
 have l6:aq s6 s5.length=some ps:=by rw[<-PF];exact aD
 obtain⟨ρ8,s8,e8,⟨p7',CF,DC,rfl,w8⟩,_⟩:=ke (i:=7) (gb:=i8) (l:=s5.length) (all:=ps) (λρ s'=>∃p7 CF DC,ρ=Rh d e r np bP (some (tI [top,left,top+high,left+wide])) p7 (some (.int (k:Nat))) (some (.int high)) (some (.int wide)) (some (.int top)) (some (.int left)) CF DC/\Wd d e r np kvs bP s'/\aq s' s5.length=some ps) ps (Rh d e r np bP (some (tI [top,left,top+high,left+wide])) p7 (some (.int (k:Nat))) (some (.int high)) (some (.int wide)) (some (.int top)) (some (.int left)) fU fV) s6 ⟨p7,fU,fV,rfl,w5.gr g6,l6⟩ l6 (λv hv ρ s' hP hl=>by
  obtain⟨p7,CF,DC,rfl,w3,_⟩:=hP
  obtain⟨p',q',rfl,p0,q0⟩:∃p' q':Int,v=tI [p',q']/\0<=p'/\0<=q':=by
   rw[<-hps] at hv
   simp only[aP,aR,or_false] at hv
   rcases hv with rfl | rfl | rfl
   ·exact⟨_,_,rfl,by omega,by omega⟩
   ·exact⟨_,_,rfl,by omega,by omega⟩
   ·exact⟨_,_,rfl,by omega,by omega⟩
  have rn:s5.length≠r:=by have:r < s5.length:=let ⟨v,e⟩:=w5.hr;eh e;omega
  obtain⟨q13,q14,s9,e9,g9⟩:=L2 (o8:=some (.int (k:Nat))) (jH:=some (.int top)) (i_:=some (.int left)) (fU:=CF) (fV:=DC) hC w3 ha hh hw.1 p0 q0
  exact⟨_,s9,e9,g9.lst hl,some (tI [p',q']),q13,q14,rfl,w3.gr g9,g9.lst hl⟩)
 have t2:∀{a b:Int}{st:Hs},rN [.int a,.int b] st= .ok (tI [a,b]) st:=jo
 have k6:gB [tI [99 - high,0],tI [0,26 - wide],tI [98,25]] s5= .ok (.ref s5.length) s6:=by rw[<-PF,<-hps];exact oH
 have h8:pP 7 (cH (aa (bz (aa (ai eJ (gC (.int 99)) (af 9)) (aa (gC (.int 0)) aj))) (aa (bz (aa (gC (.int 0)) (aa (ai eJ (gC (.int 26)) (af 10)) aj))) (aa (bz (aa (gC (.int 98)) (aa (gC (.int 25)) aj))) aj)))) i8 (Rh d e r np bP (some (tI [top,left,top+high,left+wide])) p7 (some (.int (k:Nat))) (some (.int high)) (some (.int wide)) (some (.int top)) (some (.int left)) fU fV) s5= .nx (Rh d e r np bP (some (tI [top,left,top+high,left+wide])) p7' (some (.int (k:Nat))) (some (.int high)) (some (.int wide)) (some (.int top)) (some (.int left)) CF DC) s8:=by
  have kf:=vF (i:=7) (gb:=i8) (ρ:=Rh d e r np bP (some (tI [top,left,top+high,left+wide])) p7 (some (.int (k:Nat))) (some (.int high)) (some (.int wide)) (some (.int top)) (some (.int left)) fU fV) l6
  rw[e8] at kf
  simp[-jo,-oH,t2,k6,kf]
 rw[PH h8]
 obtain⟨m,s9,e9,l9,g9⟩:=HC (l:=d) (kvs:=kvs) (p:=98 - high) (q:=25 - wide) (st:=s8) (by rw[w8.1.hd];rfl) hC ha (by unfold cD;omega) (by unfold Co cD;omega)
 rw[show top+high - top+1=high+1 by omega,show left+wide - left+1=wide+1 by omega] at l9
 have mu:∀st:Hs,cG (.int (high+1)) (.int (wide+1)) st= .ok (.int ((high+1) * (wide+1))) st:=λst=>um (by omega) (by omega)
 have n:=HD (lG (o:=.lst [.int ((high+1) * (wide+1))]) l9) aD
 refine⟨_,p7',_,_,_,_,CF,DC,_,sr ?_,w8.1.gr (g9.trans (Gr.push (o:=.lst [.int ((high+1) * (wide+1))])))⟩
 generalize (high+1) * (wide+1)=M at mu n ⊢
 simp[-jo,t2,e9,mu,n]
end
theorem law_true:∀ns:List Int,ns.length<=63->∃st,F_law [.ref 0] [.tJ ns]= .ok (.bl true) st:=by
 intro ns hn
 have l0:aq [Ob.tJ ns] 0=some (ns.map Wv.int):=rfl
 obtain⟨a,b,kvs,d,s1,e1,h1,hs,hk,g1,_⟩:=cells l0 hn (dp:=1) (by decide)
 have dk:=KP (d:=d) (st:=s1) (by rw[h1];rfl) (hk.hash hs)
 obtain⟨s2,hs2⟩:∃s2,s1++[Ob.ja kvs]=s2:=⟨_,rfl⟩
 rw[hs2] at dk
 have g2:Gr s1 s2:=by rw[<-hs2];exact Gr.push
 have h2:s2[s1.length]? =some (.ja kvs):=by rw[<-hs2];exact ik
 obtain⟨n,e3⟩:=stream ((g1.trans g2).lst l0) hn (k:=12) (by decide) (by decide)
 obtain⟨s3,u_⟩:∃s3,s2++[Ob.lst [.int n]]=s3:=⟨_,rfl⟩
 rw[u_] at e3
 have g3:Gr s2 s3:=by rw[<-u_];exact Gr.push
 have h3:s3[s2.length]? =some (.lst [.int n]):=by rw[<-u_];exact ik
 obtain⟨T,pw,T0,T1⟩:∃T:Int,(∀st:Hs,lM (.int 10) (.int 20) st= .ok (.int T) st)/\0 < T/\T.natAbs.log2 < 9000:=⟨10 ^ 20,λst=>GU (by decide),by decide,by decide+kernel⟩
 have e4:=digit (many:=T) h3 ⟨by omega,T1⟩
 obtain⟨bP,UQ⟩:∃bP,n.fmod T=bP:=⟨_,rfl⟩
 have hf:0<=bP:=by rw[<-UQ];exact kK _ T0
 rw[UQ] at e4
 obtain⟨s4,DB⟩:∃s4,s3.set s2.length (.lst [.int (n.fdiv T)])=s4:=⟨_,rfl⟩
 rw[DB] at e4
 have r4:Ro s2.length s4:=⟨_,by rw[<-DB];exact jq h3⟩
 have kp:fh s2.length s3 s4:=by rw[<-DB];exact fh.set
 have dlt:d < s1.length:=eh h1
 have l2:s1.length < s2.length:=eh h2
 have l3:s2.length < s3.length:=eh h3
 have WR:s4[d]? =some (.ja kvs):=by rw[kp.2 d (by omega) (by omega)];exact(g2.trans g3).get h1
 have he4:s4[s1.length]? =some (.ja kvs):=by rw[kp.2 _ (by omega) (by omega)];exact g3.get h2
 obtain⟨s5,PD⟩:∃s5,s4++[Ob.lst (Mc bP)]=s5:=⟨_,rfl⟩
 have g5:Gr s4 s5:=by rw[<-PD];exact Gr.push
 have l5:aq s5 s4.length=some (Mc bP):=by rw[<-PD];exact aD
 have l4:s3.length=s4.length:=by rw[<-DB];simp
 have w5:Wd d s1.length s2.length s4.length kvs bP s5:=⟨g5.get WR,g5.get he4,r4.gr g5,l5,by omega,by omega,by omega⟩
 obtain⟨la,s6,ws,e6,l6,hw6,g6⟩:=HG (s:=s5) hf
 have w6:=w5.gr g6
 have ra:s2.length < s6.length:=let ⟨v,e⟩:=w6.hr;eh e
 obtain⟨ρ7,s7,e7,o6,o7,rfl,w7⟩:∃(ρ7:bC)(s7:Hs),forL 6 i9 la ws ws (Rh d s1.length s2.length s4.length bP none none none none none none none none none) s6= .nx ρ7 s7/\∃o6 o7,ρ7=Rh d s1.length s2.length s4.length bP o6 o7 none none none none none none none/\Wd d s1.length s2.length s4.length kvs bP s7:=by
  have nla:la≠s2.length:=λz=>by
   have q:Ro s2.length s6:=w6.hr
   obtain⟨v,q⟩:=q
   rw[z] at l6
   rw[vG q] at l6
   cases l6
   obtain⟨_,_,_,_,q,_⟩:=hw6 _ (List.mem_singleton.mpr rfl)
   cases q
  obtain⟨ρ7,s7,e7,⟨o6,o7,rfl,w7,_⟩,_⟩:=ke (i:=6) (gb:=i9) (l:=la) (all:=ws) (λρ s'=>∃o6 o7,ρ=Rh d s1.length s2.length s4.length bP o6 o7 none none none none none none none/\Wd d s1.length s2.length s4.length kvs bP s'/\True) ws (Rh d s1.length s2.length s4.length bP none none none none none none none none none) s6 ⟨none,none,rfl,w6,trivial⟩ l6 (λv hv ρ s' hP hl=>by
   obtain⟨o6,o7,rfl,w3,_⟩:=hP
   obtain⟨a',b',c',f',rfl,no⟩:=hw6 v hv
   obtain⟨p7,s9,e9,g9⟩:=L4 (o7:=o7) (o8:=none) (o9:=none) (mQ:=none) (jH:=none) (i_:=none) (fU:=none) (fV:=none) hf w3 no
   exact⟨_,s9,e9,g9.1.lst hl nla,some (tI [a',b',c',f']),p7,rfl,w3.dw g9,trivial⟩)
  exact⟨_,s7,e7,o6,o7,rfl,w7⟩
 obtain⟨ρ8,s8,e8,q6,q7,q8,q9,q10,q11,q12,q13,q14,rfl,w8⟩:=nU (i:=8) (gb:=nX) (λ_ ρ s'=>∃o6 o7 o8 o9 mQ jH i_ fU fV,ρ=Rh d s1.length s2.length s4.length bP o6 o7 o8 o9 mQ jH i_ fU fV/\Wd d s1.length s2.length s4.length kvs bP s') (bR 0 4) 0 (Rh d s1.length s2.length s4.length bP o6 o7 none none none none none none none) s7 ⟨_,_,_,_,_,_,_,_,_,rfl,w7⟩ (λk w hw ρ s' hP=>by
  obtain⟨o6,o7,o8,o9,mQ,jH,i_,fU,fV,rfl,w3⟩:=hP
  have hj:k < 4:=by
   have q:=(List.getElem?_eq_some_iff.mp hw).1
   rw[cL] at q
   exact q
  rw[ly hj] at hw
  cases hw
  rw[show((0:Int)+(k:Nat))=(k:Int) from Int.zero_add _]
  obtain⟨p6,p7,p9,Ys,Vx,Vy,CF,DC,s9,e9,w9⟩:=L1 (k:=k) (o6:=o6) (o7:=o7) (o9:=o9) (mQ:=mQ) (jH:=jH) (i_:=i_) (fU:=fU) (fV:=fV) hf (λk v=>hk.val) w3
  exact⟨_,s9,e9,p6,p7,_,p9,Ys,Vx,Vy,CF,DC,rfl,w9⟩)
 have eq:=(eq_self (l:=d) (k:=s1.length) (st:=s8) (by rw[w8.hd];rfl) (by rw[w8.he];rfl) λkv h=>by
  obtain⟨js,_,_,_,_,h4⟩:=hk
  exact UO (.inr (h4 kv h))).1
 have c4:cV 4:=G0 (by decide) (by decide)
 have kf:kFor 6 i9 (Rh d s1.length s2.length s4.length bP none none none none none none none none none) (.ref la) s6= .nx (Rh d s1.length s2.length s4.length bP o6 o7 none none none none none none none) s7:=by rw[vF l6];exact e7
 have t2:∀{a b:Int}{st:Hs},rN [.int a,.int b] st= .ok (tI [a,b]) st:=jo
 have k5:gB [tI [-1,0],tI [0,-1],tI [99,0],tI [0,26],tI [99+bP,3],tI [3,-1 - bP]] s4= .ok (.ref s4.length) s5:=by rw[<-PD];exact GR
 have Ie:eW [.ref 0,.int 1] [Ob.tJ ns]= .ok (.ref d) s1:=e1
 refine⟨s8,nR (n:=15) (g:=BC) ?_⟩
 unfold BC
 simp[-jo,-GR,Ie,dk,e3,pw,e4,t2,k5,e6,kf,c4,e8,eq]
end K60
namespace PySem.W.Fast
def tw15817407687793741523:=()
def tw11268485332075820187:=()
def tw13656922540650777094:=()
def tw1959643130837925180:=()
def tw8673234514175193324:=()
def tw136307167199399841:=()
def tw7430500090916912906:=()
def tw6862229518624559007:=()
def tw13170230659209517804:=()
def tw3881680326290751849:=()
def tw15629086435171545480:=()
def tw16277559350387386529:=()
def tw474077115805474230:=()
def tw1235530628071526047:=()
def tw13055257188493807695:=()
def tw9722194194434588857:=()
def tw13306666887561586784:=()
def tw4921624780003069281:=()
def tw6708133707057397363:=()
def tw10221808039643379461:=()
def tw15093176550307594014:=()
def tw1740956055916767624:=()
def tw2462446166856348970:=()
def tw6182288062038622818:=()
def tw7825722197662822371:=()
def tw10956288630513158575:=()
def tw8254921210777819112:=()
def tw18168928467481857484:=()
def tw9964464951366005892:=()
def tw15329642229450303819:=()
def tw3414160550234712425:=()
def tw13483080259685171788:=()
def tw11856095745562302618:=()
def tw136032308671024840:=()
def tw18124025544995584382:=()
def tw15830491352696004241:=()
def tw1068059905415009487:=()
def tw14926165310171591514:=()
def tw11834452627658377674:=()
def tw7090759670499960746:=()
def tw11763808560515289783:=()
def tw9888083746107450182:=()
def tw15603082733268011772:=()
def tw3142709905895999541:=()
def tw18137426405570704886:=()
def tw14406202893633207801:=()
def tw10663658527747271832:=()
def tw9245770356252548710:=()
def tw3442337106639757904:=()
def tw9469072980220262124:=()
def tw12091323022725074771:=()
def tw6730821930805266673:=()
def tw6899397811687993441:=()
def tw14681007189344514960:=()
def tw16445424156612452043:=()
def tw8396050032774174423:=()
def tw8407805117352854194:=()
def tw11596249077622707048:=()
def tw4762717344226780947:=()
def tw13490729630782031414:=()
def tw13826428969351125601:=()
def tw11259759001402232068:=()
def tw898104013587384906:=()
def tw8619585809881772632:=()
def tw15521039211133963040:=()
def tw2605060849624806905:=()
def tw11122207589464865325:=()
def tw7087338708577631971:=()
def tw13941876952287584849:=()
def tw1394593353435026549:=()
def tw4352094299109572315:=()
def tw3258626373608651841:=()
def tw5636004680730171196:=()
def tw2149051475005388234:=()
def tw10979554390307487464:=()
def tw10546948663360574618:=()
def tw11078021879590928040:=()
def tw265103311581148448:=()
def tw14331706044602365975:=()
def tw12141417649476697780:=()
def tw5895348417590509963:=()
def tw3188255709760792980:=()
def tw16063355916511561535:=()
def tw13720594057132701810:=()
def tw12586309926991789978:=()
def tw12410418116041135244:=()
def tw2962844815170840673:=()
def tw67760558654185822:=()
def tw3245472731276548166:=()
def tw4434144142675453683:=()
def tw1825576503396157375:=()
def tw16108199880463387585:=()
def tw10986301877697181834:=()
def tw9159789162947089335:=()
def tw12950572122440898638:=()
def tw18307906613042646627:=()
def tw6840641562335793083:=()
def tw17391961078148030775:=()
def tw2023748943459602180:=()
def tw11299973574238541189:=()
def tw16856508279752231944:=()
def tw9818830089203217228:=()
def tw17418991503469743870:=()
def tw185524436851576123:=()
def tw5515426097111138105:=()
def tw1318085511452404632:=()
def tw9465955320915796616:=()
def tw11808901184361342383:=()
def tw15086301164585821784:=()
def tw1215136143722461866:=()
def tw14143758101581712080:=()
def tw11904675663522631946:=()
def tw9936400740391437531:=()
def tw1789801449647284247:=()
def tw7975191593464291343:=()
def tw16212291263854261161:=()
def tw10609187948227621749:=()
def tw13214041191661680196:=()
def tw5297112598670276082:=()
def tw17383282018886870124:=()
def tw10372011321058622193:=()
def tw10967581457913181962:=()
def tw8726024616259766185:=()
def tw8864153564253333545:=()
def tw5225551452013110819:=()
def tw5363008439464670106:=()
def tw12098532492843213691:=()
def tw13879607697828244690:=()
def tw11614341686788639718:=()
def tw2005260814486705740:=()
def tw5007296889138571023:=()
def tw153766015342701923:=()
def tw5220437963657224798:=()
def tw13277588748203231745:=()
def tw12283269523282004045:=()
def tw10761714636027471137:=()
def tw16188137936664087537:=()
def tw8165307562242864628:=()
def tw2757595914563137282:=()
def tw14693527122546701974:=()
def tw14086319237843404480:=()
def tw15471277836483203225:=()
def tw5387351422001663008:=()
def tw10288705945251193383:=()
def tw16473437127207928605:=()
def tw1701567465471589526:=()
def tw3636588141371933945:=()
def tw1045712319426077911:=()
def tw16746978933955380755:=()
def tw2073162633811969484:=()
def tw954631509785101383:=()
def tw18239287891841628501:=()
def tw9955665711909003113:=()
def tw7956542581852383513:=()
def tw6536963747785402855:=()
def tw2550166293996019667:=()
def tw4317927389949479586:=()
def tw15886508023332837316:=()
def tw6078806949671096461:=()
def tw12796093663859720793:=()
def tw11080561859712323141:=()
def tw863873754193590528:=()
def tw10932821144344758336:=()
def tw9666370110186934975:=()
def tw11684716285800180491:=()
def tw12329080281744532499:=()
def tw14963670158472320678:=()
def tw11010197335032055419:=()
def tw17478282230022852698:=()
def tw13879828786777380248:=()
def tw6120440198170872197:=()
def tw8266372656592560350:=()
def tw15380897717813773872:=()
def tw6232571926106368015:=()
def tw11774206839972304425:=()
def tw15739807138346448752:=()
end PySem.W.Fast
namespace K60
open PySem PySem.W PyProof.Rows
set_option maxHeartbeats 0 in
open_top head for PySem.Challenge.rw_onelook_k60_blocks_refused
open PySem J
open PySem.W (nsIn kitOne findIn excIn mroIn codeIn keepIn fnOf mg_of mg_none_of tabIn)
open L2 (defScope defBody defArgs FnScope CX0 FnOk XK Hp)
set_option autoImplicit true in
theorem all_mk{l:PySem.W.OpenLaw}{w:afD}{K:PySem.W.Frag}{h:Heap}{mg:Str->Option afC}{fa:afw}(X:K.In h)(G:h.Ns afM mg)(hfa:mg "law"=some (.ref fa))
    (d1:J.bq K "_law_cell_at" eQ)
    (d2:J.bq K "_law_spot" il)
    (d3:J.bq K "_law_digit" gD)
    (d4:J.bq K "_law_area" iq)
    (d5:J.bq K "_law_pins" ir)
    (d6:J.bq K "_law_number" fG)
    (d7:J.bq K "_law_place" gE)
    (d8:J.bq K "_law_leaf" iu)
    (d9:J.bq K "_law_formula" eR)
    (Yt:J.bq K "_law_content" eT)
    (Yu:J.bq K "_law_mixed" gF)
    (Ri:J.bq K "_law_stream" fH)
    (Rj:J.bq K "_law_cells" gG)
    (Yv:J.bq K "_law_no_areas" dR)
    (Yw:J.bq K "is_place" jB)
    (Yx:J.bq K "has_corners" fI)
    (Yy:J.bq K "area_many" iw)
    (Yz:J.bq K "is_area" lH)
    (YA:J.bq K "made_area" iz)
    (YB:J.bq K "made_place" gI)
    (YC:J.bq K "area_come_to" eX)
    (YD:J.bq K "places_between" dB)
    (Rk:J.bq K "area_places" fJ)
    (YE:J.bq K "has_formula" fL)
    (YF:J.bq K "part_many" iB)
    (YG:J.bq K "tail_of" lI)
    (YH:J.bq K "has_area" jD)
    (YI:J.bq K "parts_of" jE)
    (Rr:nsIn K afM "rebuilt"=some (some (.ref f29)))(V5:K.lookup f29=some ⟨adO,adP,.func (fnOf "rebuilt" "rebuilt" (defArgs gM) (defBody gM) (defScope gM) .none adQ adR adS adT YJ adU),adV⟩)(V6:codeIn K YJ "rebuilt"=true)(Rt:keepIn K (.ref f29)=true)
    (YK:J.bq K "spot_by" lJ)
    (YL:J.bq K "stepped" lK)
    (a32:nsIn K afM "formula_by"=some (some (.ref f32)))(V7:K.lookup f32=some ⟨adW,adX,.func (fnOf "formula_by" "formula_by" (defArgs dE) (defBody dE) (defScope dE) .none adY adZ ad0 ad1 (.ref KR) ad2),ad3⟩)(YM:codeIn K (.ref KR) "formula_by"=true)(YN:keepIn K (.ref f32)=true)
    (V8:nsIn K afM "form_of"=some (some (.ref f33)))(V9:K.lookup f33=some ⟨ad4,ad5,.func (fnOf "form_of" "form_of" (defArgs gO) (defBody gO) (defScope gO) .none ad6 ad7 ad8 ad9 (.ref KS) aea),aeb⟩)(YO:codeIn K (.ref KS) "form_of"=true)(YQ:keepIn K (.ref f33)=true)
    (YR:J.bq K "copied" nW)
    (YS:J.bq K "block_changes" dX)
    (V_:J.bq K "_law_kinds" e_)
    (YT:J.bq K "_law_refusal" fe)
    (YU:J.bq K "law" BB)
    (z0:nsIn K afM "len"=some none)
    (z1:nsIn K afM "tuple"=some none)
    (z2:nsIn K afM "range"=some none)
    (z3:nsIn K afM "sum"=some none)
    (z4:nsIn K afM "isinstance"=some none)
    (z5:nsIn K afM "zip"=some none)
    (z6:nsIn K afM "ValueError"=some none)
    (z7:nsIn K afM "dict"=some none)
    (z8:nsIn K afM "int"=some none)
    (v0:nsIn K afM "ROWS"=some (some (.int 99 tk0)))
    (v1:nsIn K afM "COLUMNS"=some (some (.int 26 tk1)))
    (v2:nsIn K afM "MOST_PLACES"=some (some (.int 300 tk2)))
    (v3:nsIn K afM "AREA_WORDS"=some (some (.ref ca3)))(w3:K.lookup ca3=some ⟨.type "tuple",aed,.seq #[.str "sum" abk,.str "count" abl,.str "least" abm,.str "greatest" abn,.str "find" abo] cn3,cs3⟩)
    (YV:nsIn K afM "PART_COUNTS"=some (some (.ref da0)))(YW:K.lookup da0=some ⟨.type "dict",none,.dict #[⟨UR,.str "num" abq,.int 0 abr⟩,⟨US,.str "text" abt,.int 0 abu⟩,⟨UT,.str "lost" abv,.int 0 abw⟩,⟨UU,.str "at" abx,.int 0 aby⟩,⟨UW,.str "minus" abz,.int 1 abA⟩,⟨UX,.str "not" abB,.int 1 abC⟩,⟨UY,.str "+" abD,.int 2 abE⟩,⟨UZ,.str "-" abF,.int 2 abG⟩,⟨U0,.str "*" abH,.int 2 abI⟩,⟨U1,.str "/" abJ,.int 2 abK⟩,⟨PJ,.str "&" YX,.int 2 YY⟩,⟨PK,.str "<" YZ,.int 2 Y0⟩,⟨PL,.str "=" Y1,.int 2 Y2⟩,⟨PM,.str "rest" Y3,.int 2 Y4⟩,⟨PN,.str "if" Y5,.int 3 Y6⟩,⟨PQ,.str "else" Y7,.int 2 Y8⟩,⟨PR,.str "sum" Y9,.int 0 Y_⟩,⟨PU,.str "count" Y',.int 0 Za⟩,⟨PV,.str "least" Zb,.int 0 Zc⟩,⟨PX,.str "greatest" Ze,.int 0 Zf⟩,⟨PY,.str "find" Zg,.int 1 Zh⟩] de0,#[]⟩)(Zi:(da0 == sysModules)=false)(HH:UR=hashStr w "num")(HI:US=hashStr w "text")(HJ:UT=hashStr w "lost")(HK:UU=hashStr w "at")(HM:UW=hashStr w "minus")(HN:UX=hashStr w "not")(HP:UY=hashStr w "+")(HQ:UZ=hashStr w "-")(HR:U0=hashStr w "*")(HS:U1=hashStr w "/")(zV:PJ=hashStr w "&")(zW:PK=hashStr w "<")(zX:PL=hashStr w "=")(zY:PM=hashStr w "rest")(zZ:PN=hashStr w "if")(z9:PQ=hashStr w "else")(z_:PR=hashStr w "sum")(Aa:PU=hashStr w "count")(Ab:PV=hashStr w "least")(Ac:PX=hashStr w "greatest")(Ad:PY=hashStr w "find")
    (pg:nsIn K afM "BadArea"=some (some (.ref X0)))(U2:excIn K X0 yK yL=true)(Zj:findIn K (.ref X0) "__getattribute__"=some (some (.builtin "BaseException.__getattribute__")))(Zk:findIn K (.ref X0) "__getattr__"=some none)(Zl:findIn K (.ref X0) "__class__"=some (some (.builtin "object.__class__")))
    (ph:nsIn K afM "BadPlace"=some (some (.ref X1)))(U3:excIn K X1 yK yL=true)(Zm:findIn K (.ref X1) "__getattribute__"=some (some (.builtin "BaseException.__getattribute__")))(Zn:findIn K (.ref X1) "__getattr__"=some none)(Zo:findIn K (.ref X1) "__class__"=some (some (.builtin "object.__class__")))
    (pj:nsIn K afM "NoRoom"=some (some (.ref X2)))(U4:excIn K X2 yK yL=true)(Zp:findIn K (.ref X2) "__getattribute__"=some (some (.builtin "BaseException.__getattribute__")))(Zq:findIn K (.ref X2) "__getattr__"=some none)(Zr:findIn K (.ref X2) "__class__"=some (some (.builtin "object.__class__")))
    (PZ:nsIn K afM "BadText"=some (some (.ref X3)))
    (P0:nsIn K afM "BadFormula"=some (some (.ref X4)))
    (P1:nsIn K afM "BadContent"=some (some (.ref X5)))
    (P4:nsIn K afM "Full"=some (some (.ref X6)))
    (P5:nsIn K afM "NoCell"=some (some (.ref X7)))
    (P6:nsIn K afM "NotWaiting"=some (some (.ref X8)))
    (P7:nsIn K afM "BadCount"=some (some (.ref X9)))
    (Ae:nsIn K afM "BadTable"=some (some (.ref Ru)))
    (Af:nsIn K afM "NoTable"=some (some (.ref Rv)))
    (Ag:nsIn K afM "NoColumn"=some (some (.ref Rw)))
    (Ah:nsIn K afM "NoDeed"=some (some (.ref Rx)))
    (Ai:nsIn K afM "Clash"=some (some (.ref Ry)))
    (sV:nsIn K afM "SheetError"=some (some (.ref BN)))(Dr:excIn K BN yK yL=true)
    (Zs:kitOne K (.ref X0) (.ref X0)=some true)
    (Zt:kitOne K (.ref X0) (.ref X1)=some false)
    (Zu:kitOne K (.ref X0) (.ref X2)=some false)
    (Zv:kitOne K (.ref X0) (.ref X3)=some false)
    (Zw:kitOne K (.ref X0) (.ref X4)=some false)
    (Zx:kitOne K (.ref X0) (.ref X5)=some false)
    (Zy:kitOne K (.ref X0) (.ref X6)=some false)
    (Zz:kitOne K (.ref X0) (.ref X7)=some false)
    (ZA:kitOne K (.ref X0) (.ref X8)=some false)
    (ZE:kitOne K (.ref X0) (.ref X9)=some false)
    (P8:kitOne K (.ref X0) (.ref Ru)=some false)
    (P9:kitOne K (.ref X0) (.ref Rv)=some false)
    (P_:kitOne K (.ref X0) (.ref Rw)=some false)
    (Qa:kitOne K (.ref X0) (.ref Rx)=some false)
    (Qb:kitOne K (.ref X0) (.ref Ry)=some false)
    (Qc:kitOne K (.ref X0) (.ref BN)=some true)
    (Qd:kitOne K (.ref X1) (.ref X0)=some false)
    (Qe:kitOne K (.ref X1) (.ref X1)=some true)
    (Qf:kitOne K (.ref X1) (.ref X2)=some false)
    (Qg:kitOne K (.ref X1) (.ref X3)=some false)
    (Qh:kitOne K (.ref X1) (.ref X4)=some false)
    (Qi:kitOne K (.ref X1) (.ref X5)=some false)
    (Qj:kitOne K (.ref X1) (.ref X6)=some false)
    (Qk:kitOne K (.ref X1) (.ref X7)=some false)
    (Ql:kitOne K (.ref X1) (.ref X8)=some false)
    (Qm:kitOne K (.ref X1) (.ref X9)=some false)
    (Qn:kitOne K (.ref X1) (.ref Ru)=some false)
    (Qo:kitOne K (.ref X1) (.ref Rv)=some false)
    (Qp:kitOne K (.ref X1) (.ref Rw)=some false)
    (Qq:kitOne K (.ref X1) (.ref Rx)=some false)
    (Qr:kitOne K (.ref X1) (.ref Ry)=some false)
    (Qs:kitOne K (.ref X1) (.ref BN)=some true)
    (Qt:kitOne K (.ref X2) (.ref X0)=some false)
    (Qu:kitOne K (.ref X2) (.ref X1)=some false)
    (Qv:kitOne K (.ref X2) (.ref X2)=some true)
    (Qw:kitOne K (.ref X2) (.ref X3)=some false)
    (Qx:kitOne K (.ref X2) (.ref X4)=some false)
    (Qy:kitOne K (.ref X2) (.ref X5)=some false)
    (Qz:kitOne K (.ref X2) (.ref X6)=some false)
    (QA:kitOne K (.ref X2) (.ref X7)=some false)
    (QB:kitOne K (.ref X2) (.ref X8)=some false)
    (QC:kitOne K (.ref X2) (.ref X9)=some false)
    (QD:kitOne K (.ref X2) (.ref Ru)=some false)
    (QE:kitOne K (.ref X2) (.ref Rv)=some false)
    (QF:kitOne K (.ref X2) (.ref Rw)=some false)
    (QG:kitOne K (.ref X2) (.ref Rx)=some false)
    (QH:kitOne K (.ref X2) (.ref Ry)=some false)
    (QI:kitOne K (.ref X2) (.ref BN)=some true)
    (ZF:mroIn K X0 (.ref BN)=some true)
    (ZG:mroIn K X1 (.ref BN)=some true)
    (ZH:mroIn K X2 (.ref BN)=some true)
    (ZI:kitOne K (.ref X0) (.type "ValueError")=some true)
    (ZJ:kitOne K (.ref X1) (.type "ValueError")=some true)
    (ZK:kitOne K (.ref X2) (.type "ValueError")=some true)
    (HU:K.lookup KR=some ⟨.type "code",aee,.fields Ds,aef⟩)(HV:Ds[11]? =some (.ref v5))(QJ:Ds.getD 11 .none= .ref v5)(QK:Ds.getD 18 .none= .str aeg aeh)(QL:Ds.getD 7 .none= .int abL aei)(QM:Ds.getD 9 .none= .bool aej)(QN:Ds.getD 10 .none= .int abM aek)(QO:KR≠v5)(KU:K.lookup v5=none)(QP:v5∈ts)
    (HW:K.lookup KS=some ⟨.type "code",ael,.fields Dt,aem⟩)(HX:Dt[11]? =some (.ref v7))(QQ:Dt.getD 11 .none= .ref v7)(QR:Dt.getD 18 .none= .str aen aeo)(QS:Dt.getD 7 .none= .int abN aep)(QT:Dt.getD 9 .none= .bool aeq)(QU:Dt.getD 10 .none= .int abO aer)(QV:KS≠v7)(KW:K.lookup v7=none)(QW:v7∈ts)
    (ZL:nsIn K afM "turned"=some none)
    (ZM:nsIn K afM "readied_content"=some none)
    (qt:v5≠v7) :
    J.Bs K ts/\∃fd:afy,(∀(s:afB)(u:afC),BindsTo s fd ⟨[u],[]⟩ [("script",u)])/\∀base:Heap,J.jR K mg base->FnOk l.prog w K mg base (CXJ l.prog w) 18 fa fd ["script"] (spW K 1 F_law):=by
  have U5:tabIn K "formula_by"=some (KR,v5):=by
    unfold tabIn
    rw[a32]
    dsimp only
    rw[V7]
    dsimp only
    rw[HU]
    dsimp only
    rw[HV]
  have U6:tabIn K "form_of"=some (KS,v7):=by
    unfold tabIn
    rw[V8]
    dsimp only
    rw[V9]
    dsimp only
    rw[HW]
    dsimp only
    rw[HX]
  have ZN:tabIn K "turned"=none:=by
    unfold tabIn
    rw[ZL]
  have ZO:tabIn K "readied_content"=none:=by
    unfold tabIn
    rw[ZM]
  have U7:J.bH K "formula_by"=some v5:=J.vB U5 KU
  have U8:J.bH K "form_of"=some v7:=J.vB U6 KW
  have QX:J.bH K "turned"=none:=by
    unfold J.bH
    rw[ZN]
  have QY:J.bH K "readied_content"=none:=by
    unfold J.bH
    rw[ZO]
  have T:J.Bs K ts:=λq P hq t=>by
    simp only[J.aU,aP,aR,or_false] at hq
    rcases hq with rfl | rfl | rfl | rfl
    · rw[U8] at t;cases t;exact⟨QW,_,_,_,HW,rfl,rfl,HX⟩
    · rw[U7] at t;cases t;exact⟨QP,_,_,_,HU,rfl,rfl,HV⟩
    · rw[QX] at t;cases t
    · rw[QY] at t;cases t
  have U32:∀q,q∈J.aU->J.bH K q=some v5->q="formula_by":=λq hq t=>by
    simp only[J.aU,aP,aR,or_false] at hq
    rcases hq with rfl | rfl | rfl | rfl
    · rw[U8] at t;cases t;exact absurd rfl qt
    · rfl
    · rw[QX] at t;cases t
    · rw[QY] at t;cases t
  have U33:∀q,q∈J.aU->J.bH K q=some v7->q="form_of":=λq hq t=>by
    simp only[J.aU,aP,aR,or_false] at hq
    rcases hq with rfl | rfl | rfl | rfl
    · rfl
    · rw[U7] at t;cases t;exact absurd rfl qt
    · rw[QX] at t;cases t
    · rw[QY] at t;cases t
  have ZP:J.xI K mg "formula_by" v5:=J.Bt (by decide) U5 KU HU rfl rfl HV QJ QK QL QM QN QO U32
  have ZQ:J.xI K mg "form_of" v7:=J.Bt (by decide) U6 KW HW rfl rfl HX QQ QR QS QT QU QV U33
  refine⟨T,?_⟩
  refine J.GH X G hfa YU (λ_ _ _ _ _ _ s u=> .of_eq rfl) (λf fd Fu base M=>?_)
  have Z0:=mg_none_of X G z0
  have Z1:=mg_none_of X G z1
  have Z2:=mg_none_of X G z2
  have Z3:=mg_none_of X G z3
  have Z4:=mg_none_of X G z4
  have Z5:=mg_none_of X G z5
  have Z6:=mg_none_of X G z6
  have Z7:=mg_none_of X G z7
  have Z8:=mg_none_of X G z8
  have V0:=mg_of X G v0
  have V1:=mg_of X G v1
  have V2:=mg_of X G v2
  have V3:=mg_of X G v3
  have E0:J.lO K X0:=⟨U2,Zj,Zk,Zl⟩
  have E1:J.lO K X1:=⟨U3,Zm,Zn,Zo⟩
  have E2:J.lO K X2:=⟨U4,Zp,Zq,Zr⟩
  have cl:∀{x:Str}{C:afw},J.ClsAt K x C->∃C,mg x=some (.ref C)/\J.ClsAt K x C:=λh=>⟨_,mg_of X G h,h⟩
  have TB:TabOk K gP fq zz:=J.O8 ⟨⟨X0,X0,pg,pg,E0,Zs⟩,⟨X0,X1,pg,ph,E0,Zt⟩,⟨X0,X2,pg,pj,E0,Zu⟩,⟨X0,X3,pg,PZ,E0,Zv⟩,⟨X0,X4,pg,P0,E0,Zw⟩,⟨X0,X5,pg,P1,E0,Zx⟩,⟨X0,X6,pg,P4,E0,Zy⟩,⟨X0,X7,pg,P5,E0,Zz⟩,⟨X0,X8,pg,P6,E0,ZA⟩,⟨X0,X9,pg,P7,E0,ZE⟩,⟨X0,Ru,pg,Ae,E0,P8⟩,⟨X0,Rv,pg,Af,E0,P9⟩,⟨X0,Rw,pg,Ag,E0,P_⟩,⟨X0,Rx,pg,Ah,E0,Qa⟩,⟨X0,Ry,pg,Ai,E0,Qb⟩,⟨X0,BN,pg,sV,E0,Qc⟩,⟨X1,X0,ph,pg,E1,Qd⟩,⟨X1,X1,ph,ph,E1,Qe⟩,⟨X1,X2,ph,pj,E1,Qf⟩,⟨X1,X3,ph,PZ,E1,Qg⟩,⟨X1,X4,ph,P0,E1,Qh⟩,⟨X1,X5,ph,P1,E1,Qi⟩,⟨X1,X6,ph,P4,E1,Qj⟩,⟨X1,X7,ph,P5,E1,Qk⟩,⟨X1,X8,ph,P6,E1,Ql⟩,⟨X1,X9,ph,P7,E1,Qm⟩,⟨X1,Ru,ph,Ae,E1,Qn⟩,⟨X1,Rv,ph,Af,E1,Qo⟩,⟨X1,Rw,ph,Ag,E1,Qp⟩,⟨X1,Rx,ph,Ah,E1,Qq⟩,⟨X1,Ry,ph,Ai,E1,Qr⟩,⟨X1,BN,ph,sV,E1,Qs⟩,⟨X2,X0,pj,pg,E2,Qt⟩,⟨X2,X1,pj,ph,E2,Qu⟩,⟨X2,X2,pj,pj,E2,Qv⟩,⟨X2,X3,pj,PZ,E2,Qw⟩,⟨X2,X4,pj,P0,E2,Qx⟩,⟨X2,X5,pj,P1,E2,Qy⟩,⟨X2,X6,pj,P4,E2,Qz⟩,⟨X2,X7,pj,P5,E2,QA⟩,⟨X2,X8,pj,P6,E2,QB⟩,⟨X2,X9,pj,P7,E2,QC⟩,⟨X2,Ru,pj,Ae,E2,QD⟩,⟨X2,Rv,pj,Af,E2,QE⟩,⟨X2,Rw,pj,Ag,E2,QF⟩,⟨X2,Rx,pj,Ah,E2,QG⟩,⟨X2,Ry,pj,Ai,E2,QH⟩,⟨X2,BN,pj,sV,E2,QI⟩,trivial⟩ ⟨⟨X0,pg,E0,ZI⟩,⟨X1,ph,E1,ZJ⟩,⟨X2,pj,E2,ZK⟩,trivial⟩ ⟨⟨X0,BN,pg,sV,U2,Dr,ZF⟩,⟨X1,BN,ph,sV,U3,Dr,ZG⟩,⟨X2,BN,pj,sV,U4,Dr,ZH⟩,trivial⟩
  have H1:J.HB l.prog w K mg 1 "_law_cell_at" 2 bW:=λbase M=>J.hdf X G d1 (J.tk (c:=gU) (k:=0) TB (hb:=⟨Z0,trivial⟩)) pR rP
  have H2:J.HB l.prog w K mg 2 "_law_spot" 1 eB:=λbase M=>J.hdf X G d2 (J.tk (c:=kh) (k:=1) TB ⟨(H1 base M).mo,trivial⟩) vH xP
  have H3:J.HB l.prog w K mg 1 "_law_digit" 2 ao:=λbase M=>J.hdf X G d3 (J.tk (c:=ju) (k:=0) TB) sI vI
  have H4:J.HB l.prog w K mg 2 "_law_area" 2 cP:=λbase M=>J.hdf X G d4 (J.tk (c:=kj) (k:=1) TB ⟨(H3 base M).mo,trivial⟩) vJ xQ
  have H5:J.HB l.prog w K mg 2 "_law_pins" 2 bM:=λbase M=>J.hdf X G d5 (J.tk (c:=kq) (k:=1) TB ⟨(H3 base M).mo,trivial⟩ (hb:=⟨Z1,Z2,trivial⟩)) vK xR
  have H6:J.HB l.prog w K mg 2 "_law_number" 1 dJ:=λbase M=>J.hdf X G d6 (J.tk (c:=iJ) (k:=1) TB ⟨(H3 base M).mo,trivial⟩) rQ sJ
  have H7:J.HB l.prog w K mg 2 "_law_place" 2 cQ:=λbase M=>J.hdf X G d7 (J.tk (c:=jw) (k:=1) TB ⟨(H3 base M).mo,trivial⟩) sL vL
  have H8:J.HB l.prog w K mg 3 "_law_leaf" 2 eC:=λbase M=>J.hdf X G d8 (J.tk (c:=ku) (k:=2) TB ⟨(H3 base M).mo,(H4 base M).mo,(H5 base M).mo,(H6 base M).mo,(H7 base M).mo,trivial⟩) vM xS
  have G9:∀base:Heap,J.jR K mg base->∀n:Nat,J.tP l.prog w K mg base (3+n) "_law_formula" 3 (bN n):=λbase M n=>by
    induction n with
    | zero=>exact J.A8 (ps:=["row","spot","deep"]) X G d9 (λ_ _ _ _ _ _ us hl=>J.ln3 us hl λ_ _ _=>rfl)
    | succ n ih=>exact J.hdf X G d9 (J.tk (c:=(kC (bN n))) (k:=(3+n)) TB ⟨(H3 base M).mo,ih,(H8 base M).mo,(H4 base M).mo,(H5 base M).mo,trivial⟩) (pS (bN n)) (rR (bN n))
  have H9:J.HB l.prog w K mg 9 "_law_formula" 3 aI:=λbase M=>(G9 base M 6)
  have EZ:J.HB l.prog w K mg 10 "_law_content" 3 cM:=λbase M=>J.hdf X G Yt (J.tk (c:=gX) (k:=9) TB ⟨(H3 base M).mo,(H9 base M).mo,trivial⟩) pT rS
  have W6:J.HB l.prog w K mg 1 "_law_mixed" 2 eV:=λbase M=>J.hdf X G Yu (J.tk (c:=jz) (k:=0) TB) sM vN
  have H12:J.HB l.prog w K mg 2 "_law_stream" 2 cE:=λbase M=>J.hdf X G Ri (J.tk (c:=iL) (k:=1) TB ⟨(H1 base M).mo,(W6 base M).mo,trivial⟩ (hb:=⟨Z2,Z0,Z3,trivial⟩)) rT sN
  have H13:J.HB l.prog w K mg 11 "_law_cells" 2 eW:=λbase M=>J.hdf X G Rj (J.tk (c:=jA) (k:=10) TB ⟨(H2 base M).mo,(EZ base M).mo,(H12 base M).mo,trivial⟩ (hb:=⟨Z2,trivial⟩)) sO vO
  have H14:J.HB l.prog w K mg 1 "_law_no_areas" 1 dU:=λbase M=>J.hdf X G Yv (J.tk (c:=f6) (k:=0) TB) oK pU
  have ZR:J.HB l.prog w K mg 1 "is_place" 1 bX:=λbase M=>J.hdf X G Yw (J.tk (c:=mH) (k:=0) TB (hc:=⟨⟨_,V0⟩,⟨_,V1⟩,trivial⟩)) xT zG
  have H16:J.HB l.prog w K mg 2 "has_corners" 1 cF:=λbase M=>J.hdf X G Yx (J.tk (c:=iN) (k:=1) TB ⟨(ZR base M).mo,trivial⟩) rV sP
  have H17:J.HB l.prog w K mg 1 "area_many" 1 fS:=λbase M=>J.hdf X G Yy (J.tk (c:=kE) (k:=0) TB) vP xU
  have H18:J.HB l.prog w K mg 3 "is_area" 1 ft:=λbase M=>J.hdf X G Yz (J.tk (c:=oN) (k:=2) TB ⟨(H16 base M).mo,(H17 base M).mo,trivial⟩ (hc:=⟨⟨_,V2⟩,trivial⟩)) zH C_
  have H19:J.HB l.prog w K mg 4 "made_area" 4 cz:=λbase M=>J.hdf X G YA (J.tk (c:=kF) (k:=3) TB ⟨(H18 base M).mo,trivial⟩ (hk:=⟨⟨X0,mg_of X G pg,⟨pg,U2⟩⟩,trivial⟩)) vQ xV
  have H20:J.HB l.prog w K mg 2 "made_place" 2 cR:=λbase M=>J.hdf X G YB (J.tk (c:=jC) (k:=1) TB ⟨(ZR base M).mo,trivial⟩ (hk:=⟨⟨X1,mg_of X G ph,⟨ph,U3⟩⟩,trivial⟩)) sQ vR
  have H21:J.HB l.prog w K mg 5 "area_come_to" 2 bA:=λbase M=>J.hdf X G YC (J.tk (c:=gY) (k:=4) TB ⟨(H19 base M).mo,(H20 base M).mo,(H16 base M).mo,trivial⟩ (hk:=⟨⟨X2,mg_of X G pj,⟨pj,U4⟩⟩,trivial⟩)) pV rW
  have H22:J.HB l.prog w K mg 1 "places_between" 1 dD:=λbase M=>J.hdf X G YD (J.tk (c:=fu) (k:=0) TB (hb:=⟨Z2,trivial⟩)) nV oO
  have H23:J.HB l.prog w K mg 5 "area_places" 1 dM:=λbase M=>J.hdf X G Rk (J.tk (c:=iO) (k:=4) TB ⟨(H22 base M).mo,(H19 base M).mo,trivial⟩) rX sR
  have H24:J.HB l.prog w K mg 1 "has_formula" 2 bK:=λbase M=>J.hdf X G YE (J.tk (c:=iQ) (k:=0) TB (hb:=⟨Z4,Z1,trivial⟩)) rY sS
  have H25:J.HB l.prog w K mg 1 "part_many" 1 di:=λbase M=>J.hdf X G YF (J.tk (c:=kI) (k:=0) TB (hd:=⟨⟨_,_,_,mg_of X G YV,YW,Zi,⟨⟨HH,⟨_,rfl⟩,⟨_,rfl⟩⟩,⟨HI,⟨_,rfl⟩,⟨_,rfl⟩⟩,⟨HJ,⟨_,rfl⟩,⟨_,rfl⟩⟩,⟨HK,⟨_,rfl⟩,⟨_,rfl⟩⟩,⟨HM,⟨_,rfl⟩,⟨_,rfl⟩⟩,⟨HN,⟨_,rfl⟩,⟨_,rfl⟩⟩,⟨HP,⟨_,rfl⟩,⟨_,rfl⟩⟩,⟨HQ,⟨_,rfl⟩,⟨_,rfl⟩⟩,⟨HR,⟨_,rfl⟩,⟨_,rfl⟩⟩,⟨HS,⟨_,rfl⟩,⟨_,rfl⟩⟩,⟨zV,⟨_,rfl⟩,⟨_,rfl⟩⟩,⟨zW,⟨_,rfl⟩,⟨_,rfl⟩⟩,⟨zX,⟨_,rfl⟩,⟨_,rfl⟩⟩,⟨zY,⟨_,rfl⟩,⟨_,rfl⟩⟩,⟨zZ,⟨_,rfl⟩,⟨_,rfl⟩⟩,⟨z9,⟨_,rfl⟩,⟨_,rfl⟩⟩,⟨z_,⟨_,rfl⟩,⟨_,rfl⟩⟩,⟨Aa,⟨_,rfl⟩,⟨_,rfl⟩⟩,⟨Ab,⟨_,rfl⟩,⟨_,rfl⟩⟩,⟨Ac,⟨_,rfl⟩,⟨_,rfl⟩⟩,⟨Ad,⟨_,rfl⟩,⟨_,rfl⟩⟩,trivial⟩,by decide+kernel⟩,trivial⟩)) vS xW
  have H26:J.HB l.prog w K mg 2 "tail_of" 1 eD:=λbase M=>J.hdf X G YG (J.tk (c:=oQ) (k:=1) TB ⟨(H25 base M).mo,trivial⟩) zI Dd
  have H27:J.HB l.prog w K mg 1 "has_area" 1 fz:=λbase M=>J.hdf X G YH (J.tk (c:=mJ) (k:=0) TB (hc:=⟨⟨_,[.str "sum",.str "count",.str "least",.str "greatest",.str "find"],_,_,_,V3,w3,rfl,rfl,(show(5:Nat)<=afN by decide),(.cons ⟨_,rfl⟩ (.cons ⟨_,rfl⟩ (.cons ⟨_,rfl⟩ (.cons ⟨_,rfl⟩ (.cons ⟨_,rfl⟩ .nil))))),⟨⟨rfl,by decide+kernel⟩,⟨⟨rfl,by decide+kernel⟩,⟨⟨rfl,by decide+kernel⟩,⟨⟨rfl,by decide+kernel⟩,⟨⟨rfl,by decide+kernel⟩,trivial⟩⟩⟩⟩⟩⟩,trivial⟩)) xX zJ
  have H28:J.HB l.prog w K mg 2 "parts_of" 1 dm:=λbase M=>J.hdf X G YI (J.tk (c:=mL) (k:=1) TB ⟨(H25 base M).mo,trivial⟩) xY zK
  have G29:∀base:Heap,J.jR K mg base->∀(p:Lm)(L:LF),J.rb l.prog w K mg base 5 p 3 L->∀n:Nat,J.tP l.prog w K mg base (5+n) "rebuilt" 2 (bB p L n):=λbase M p L HL n=>by
    induction n with
    | zero=>exact J.A8 (ps:=["formula","goes"]) X G (J.mi Rr V5 V6 Rt) (λ_ _ _ _ _ _ us hl=>J.ln2 us hl λ_ _=>rfl)
    | succ n ih=>exact J.hdf X G (J.mi Rr V5 V6 Rt) (J.tk (c:=(uu p L (bB p L n))) (k:=(5+n)) TB ⟨(H26 base M).mo,(H27 base M).mo,ih,(H28 base M).mo,trivial⟩ (hb:=⟨Z1,trivial⟩) (hx:=J.GJ rfl (HL.mono (by omega)) rfl rfl rfl)) (zL p L (bB p L n)) (De p L (bB p L n))
  have H30:J.HB l.prog w K mg 4 "spot_by" 1 iZ:=λbase M=>J.hdf X G YK (J.tk (c:=oS) (k:=3) TB ⟨(ZR base M).mo,(H18 base M).mo,trivial⟩ (hb:=⟨Z0,trivial⟩)) zM Df
  have V':J.HB l.prog w K mg 1 "stepped" 3 eE:=λbase M=>J.hdf X G YL (J.tk (c:=oU) (k:=0) TB (hb:=⟨Z1,Z5,trivial⟩)) zN Dg
  have H32:J.HB l.prog w K mg 14 "formula_by" 2 eZ:=λbase M=>J.hdf X G (J.mi a32 V7 YM YN) (J.tk (c:=jG) (k:=13) TB ⟨(H30 base M).mo,(V' base M).mo,trivial⟩ (hx:=J.Bu rfl ⟨⟨⟨_,mg_of X G Rr,Rt⟩,λbase p L M HL=>(G29 base M p L HL 8).mono (by decide)⟩,trivial⟩ ⟨(λ_ _ e base M=>by cases e;exact(H30 base M).mono (by decide)),(λ_ _ e base M=>by cases e;exact(V' base M).mono (by decide)),trivial⟩ (λ_=>⟨_,ZP⟩))) sT vT (λ_=>⟨M,rfl⟩)
  have H33:J.HB l.prog w K mg 14 "form_of" 2 i5:=λbase M=>J.hdf X G (J.mi V8 V9 YO YQ) (J.tk (c:=oX) (k:=13) TB ⟨(V' base M).mo,trivial⟩ (hx:=J.Bu rfl ⟨⟨⟨_,mg_of X G Rr,Rt⟩,λbase p L M HL=>(G29 base M p L HL 8).mono (by decide)⟩,trivial⟩ ⟨(λ_ _ e base M=>by cases e;exact(V' base M).mono (by decide)),trivial⟩ (λ_=>⟨_,ZQ⟩))) zP Dh (λ_=>⟨M,rfl⟩)
  have H34:J.HB l.prog w K mg 15 "copied" 3 i6:=λbase M=>J.hdf X G YR (J.tk (c:=r9) (k:=14) TB ⟨(H32 base M).mo,(H33 base M).mo,trivial⟩) Di G_
  have H35:J.HB l.prog w K mg 16 "block_changes" 3 bD:=λbase M=>J.hdf X G YS (J.tk (c:=f7) (k:=15) TB ⟨(H21 base M).mo,(H23 base M).mo,(H24 base M).mo,(H34 base M).mo,trivial⟩ (hb:=⟨Z5,trivial⟩)) oY pW
  have H36:J.HB l.prog w K mg 1 "_law_kinds" 1 bS:=λbase M=>J.hdf X G V_ (J.tk (c:=fc) (k:=0) TB (hb:=⟨Z4,Z6,Z2,trivial⟩) (hn:=⟨cl ph,cl pg,cl PZ,cl P0,cl P1,cl P4,cl P5,cl P6,cl P7,cl pj,cl Ae,cl Af,cl Ag,cl Ah,cl Ai,trivial⟩)) lY vU
  have U36:∀base:Heap,J.jR K mg base->J.vi l.prog w K mg base 1 "_law_kinds" 1 bS:=λbase M=>J.GG (ps:=["e"]) X G V_ (J.rK (c:=fc) (k:=0) trivial ⟨Z4,Z6,Z2,trivial⟩ trivial TB trivial ⟨cl ph,cl pg,cl PZ,cl P0,cl P1,cl P4,cl P5,cl P6,cl P7,cl pj,cl Ae,cl Af,cl Ag,cl Ah,cl Ai,trivial⟩ trivial) lY rfl sU (λ_ _ _ _ _ _ us hl=>J.ln1 us hl λ_=>rfl)
  have H37:J.HB l.prog w K mg 17 "_law_refusal" 3 aV:=λbase M=>J.hdf X G YT (J.tk (c:=g_) (k:=16) TB ⟨(H35 base M).mo,(H36 base M).mo,trivial⟩ (hb:=⟨Z0,trivial⟩) (hk:=⟨⟨BN,mg_of X G sV,⟨sV,Dr⟩⟩,trivial⟩) (hu:=⟨(λ_ _ h=>by cases h;exact(U36 base M).mono (by decide)),trivial⟩)) pX r_
  exact J.O7 Fu (J.rK (c:=Hd) (k:=17) trivial ⟨Z7,Z2,Z8,trivial⟩ ⟨(H13 base M).mono (by decide),(H12 base M).mono (by decide),(H3 base M).mono (by decide),(H14 base M).mono (by decide),(H37 base M).mono (by decide),trivial⟩ TB trivial trivial trivial) Pf rfl UC
end K60
open PySem PySem.W PyProof.Rows
set_option maxRecDepth 100000 in
set_option maxHeartbeats 0 in
theorem PySem.Challenge.cw_onelook_k60_blocks_refused_holds : PySem.Challenge.rw_onelook_k60_blocks_refused.Holds := by
  refine K60.head ?_
  k_fill
  refine J.walk_ofT (l:=PySem.Challenge.rw_onelook_k60_blocks_refused) (n:=63) (k:=18) (x:="script") (CX:=fun w => J.CXJ PySem.Challenge.rw_onelook_k60_blocks_refused.prog w) (sp:=fun w => J.spW _ 1 K60.F_law) rfl (by decide) rfl ⟨rfl,by decide,by decide⟩ (fun w h Y => ⟨PySem.W.km_in_of Y,PySem.W.km_tabs_of Y⟩) ?F (fun w H a ns hl hO hS hT => J.law_sp K60.law_true H a ns hl hO hS hT) (fun _ _ _ _ _ z => z.elim fun _ y => y.elim fun _ x => x.2)
  case F=>
    intro w mg fa h KX G hmg
    refine' K60.all_mk KX G hmg ?d1 ?d2 ?d3 ?d4 ?d5 ?d6 ?d7 ?d8 ?d9 ?Yt ?Yu ?Ri ?Rj ?Yv ?Yw ?Yx ?Yy ?Yz ?YA ?YB ?YC ?YD ?Rk ?YE ?YF ?YG ?YH ?YI ?Rr ?V5 ?V6 ?Rt ?YK ?YL ?a32 ?V7 ?YM ?YN ?V8 ?V9 ?YO ?YQ ?YR ?YS ?V_ ?YT ?YU ?z0 ?z1 ?z2 ?z3 ?z4 ?z5 ?z6 ?z7 ?z8 ?v0 ?v1 ?v2 ?v3 ?w3 ?YV ?YW ?Zi ?HH ?HI ?HJ ?HK ?HM ?HN ?HP ?HQ ?HR ?HS ?zV ?zW ?zX ?zY ?zZ ?z9 ?z_ ?Aa ?Ab ?Ac ?Ad ?pg ?U2 ?Zj ?Zk ?Zl ?ph ?U3 ?Zm ?Zn ?Zo ?pj ?U4 ?Zp ?Zq ?Zr ?PZ ?P0 ?P1 ?P4 ?P5 ?P6 ?P7 ?Ae ?Af ?Ag ?Ah ?Ai ?sV ?Dr ?Zs ?Zt ?Zu ?Zv ?Zw ?Zx ?Zy ?Zz ?ZA ?ZE ?P8 ?P9 ?P_ ?Qa ?Qb ?Qc ?Qd ?Qe ?Qf ?Qg ?Qh ?Qi ?Qj ?Qk ?Ql ?Qm ?Qn ?Qo ?Qp ?Qq ?Qr ?Qs ?Qt ?Qu ?Qv ?Qw ?Qx ?Qy ?Qz ?QA ?QB ?QC ?QD ?QE ?QF ?QG ?QH ?QI ?ZF ?ZG ?ZH ?ZI ?ZJ ?ZK ?HU ?HV ?QJ ?QK ?QL ?QM ?QN ?QO ?KU ?QP ?HW ?HX ?QQ ?QR ?QS ?QT ?QU ?QV ?KW ?QW ?ZL ?ZM ?qt
    case d1 | d2 | d3 | d4 | d5 | d6 | d7 | d8 | d9 | Yt | Yu | Ri | Rj | Yv | Yw | Yx | Yy | Yz | YA | YB | YC | YD | Rk | YE | YF | YG | YH | YI=>refine' J.mi ?a ?l ?c ?k;(case a=>k_is);(case l=>k_is);(case c=>k_is);(case k=>k_is)
    case Rr | V5 | V6 | Rt=>k_is
    case YK | YL=>refine' J.mi ?a ?l ?c ?k;(case a=>k_is);(case l=>k_is);(case c=>k_is);(case k=>k_is)
    case a32 | V7 | YM | YN | V8 | V9 | YO | YQ=>k_is
    case YR | YS | V_ | YT | YU=>refine' J.mi ?a ?l ?c ?k;(case a=>k_is);(case l=>k_is);(case c=>k_is);(case k=>k_is)
    case z0 | z1 | z2 | z3 | z4 | z5 | z6 | z7 | z8 | v0 | v1 | v2 | v3 | w3 | YV | YW=>k_is
    case Zi | HH | HI | HJ | HK | HM | HN | HP | HQ | HR | HS | zV | zW | zX | zY | zZ | z9 | z_ | Aa | Ab | Ac | Ad=>rfl
    case pg=>k_is
    case U2=>k_exc
    case Zj | Zk | Zl | ph=>k_is
    case U3=>k_exc
    case Zm | Zn | Zo | pj=>k_is
    case U4=>k_exc
    case Zp | Zq | Zr | PZ | P0 | P1 | P4 | P5 | P6 | P7 | Ae | Af | Ag | Ah | Ai | sV=>k_is
    case Dr=>k_exc
    case Zs | Zt | Zu | Zv | Zw | Zx | Zy | Zz | ZA | ZE | P8 | P9 | P_ | Qa | Qb | Qc | Qd | Qe | Qf | Qg | Qh | Qi | Qj | Qk | Ql | Qm | Qn | Qo | Qp | Qq | Qr | Qs | Qt | Qu | Qv | Qw | Qx | Qy | Qz | QA | QB | QC | QD | QE | QF | QG | QH | QI=>kit_is
    case ZF | ZG | ZH=>k_is
    case ZI | ZJ | ZK=>kit_is
    case HU=>k_is
    case HV | QJ | QK | QL | QM | QN=>rfl
    case QO=>decide
    case KU=>rfl
    case QP=>decide
    case HW=>k_is
    case HX | QQ | QR | QS | QT | QU=>rfl
    case QV=>decide
    case KW=>rfl
    case QW=>decide
    case ZL | ZM=>k_is
    case qt=>decide
