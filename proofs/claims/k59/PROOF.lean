import PyProof.Rows.All
import Wide.All
import OpenK.AllK
import Wide.FinOn
import Lean
import PyProof.EqAt
import PyProof.EqKinds
import PyProof.TupleCall
import PySem.Challenge.RW_onelook_k59_blocks_copied
open PySem.Around renaming frames_deeper→PM
open Array renaming all_eq_true_iff_forall_mem→Qr,getD_eq_getD_getElem?→QU,getElem?_eq_getElem→QQ,length_toList→Ck
open Bool renaming and_eq_true→cQ,false_and→yP,false_eq_true→oI,false_ne_true→cR,not_false→zU,not_true→qJ,or_eq_true→Dj,true_and→ER
open PySem.Builtin.Dict renaming addKeywords→Nu,dictSlotArgs→xW,merge→Nq,mergeDict→Nt,readDirectly→Nr,samePairs→Nx,selfAndRest→Np,showsAll→EM,updateFrom→xU
open PySem.Builtin.List renaming listTooLong→qb
open PySem.Builtin.Range renaming rangeSize→tO,small→Nm
open PySem.Builtin.Slice renaming sliceAdjust→Cz,sliceApplied→LN,slicePlaces→xl
open PySem.Builtin.SmallTypes renaming nextOf→lW,ownedTupleHandOut→Nj,ownedTupleIsFree→xQ
open PySem.Builtin.Str renaming occurrences→xc
open PySem.Builtin.Tuple renaming tupleExact→xm,tupleHashOf→Nw,tupleIsExact→M5,tupleItemsOf→LO
open PySem.Builtin renaming divisionGoesByPylong→Nn
open PySem.Calls renaming Name_function_global→Lg,callWith_builtin→pZ,evalArgs_plain→t7,spliced_cons→lL,spliced_nil→tR
open Classical renaming propDecidable→DD
open PySem.EntryCells renaming newEntry→Mb
open PySem.F renaming args_tuple_iterator_next_1→Ni,entry_tuple_iterator_next→Nh,slot_tuple_iterator_next→xP,slot_zip_next→xR,typeOf_object_class→DI
open False renaming elim→ae
open ForInStep renaming yield→lR
open PySem.Heap renaming IsTuple→EA,MadeExcOf→C2,SameBut→iu,get?_none_of_le→La,get?_push_of_some→aK,get?_push_size→bB,get?_update_other→pY,get?_update_self→nG,lt_size→aF,size_push→qE
open PySem.Heap.IsTuple renaming push→EB
open PySem.Heap.SameBut renaming update→uC
open Int renaming fmod_lt_of_pos→oz,fmod_nonneg_of_pos→me,le_refl→xG,le_trans→qo
open List renaming all_cons→eP,all_eq_true→qR,any_cons→iz,append_assoc→nH,append_nil→gJ,contains_cons→DJ,drop_eq_getElem_cons→lQ,drop_length→nN,drop_of_length_le→D0,drop_sublist→DZ,drop_zero→jc,eq_nil_of_length_eq_zero→Dd,filterMap_cons→tK,filter_cons→t_,filter_cons_of_neg→xM,filter_cons_of_pos→Ew,find?_cons→nI,flatten_cons→p_,foldl_cons→CD,forIn_cons→nR,forIn_nil→xK,getD_eq_getElem?_getD→D3,getElem?_append_left→eO,getElem?_append_right→fV,getElem?_cons_succ→FZ,getElem?_cons_zero→FY,getElem?_eq_getElem→fm,getElem?_map→i8,getElem?_replicate→tS,getElem?_set_ne→jR,getElem?_set_self→pS,getElem_mem→D7,length→nE,length_append→cW,length_cons→yY,length_drop→pw,length_map→gT,length_replicate→i9,length_singleton→Hw,length_take→mw,lookup→mR,lookup_cons→b_,map_append→nu,map_cons→aL,map_map→hG,map_nil→mC,mem_append_left→tL,mem_append_right→dq,mem_cons→aV,mem_cons_of_mem→aN,mem_cons_self→bu,mem_of_getElem?→yS,nil_append→yX,nodup_cons→jh,nodup_nil→gX,not_mem_nil→bb,of_mem_zip→yQ,pairwise_append→uv,perm_append_comm→Im,range→f9,range'→jf,range_succ→AA,replicate→aJ,replicate_succ→gW,set_cons_succ→Aw,set_cons_zero→Av,size_toArray→aO,take_append_drop→zv,take_of_length_le→pI,take_sublist→yR
open PySem.NameKind renaming cell→pG,free→du
open Nat renaming div_eq_of_lt→zQ,le_add_left→zw,le_of_eq→mO,le_of_lt→mq,le_refl→aq,le_trans→bp,lt_irrefl→dn,lt_of_lt_of_le→a9,mul_comm→pB,ne_of_gt→kJ,ne_of_lt→aR,sub_eq_zero_of_le→Io,sub_self→mJ,succ_le_succ→ug,succ_mul→pA,zero_add→fQ,zero_le→bq
open Ne renaming symm→ax
open PySem.Obj renaming data_mapDictKeys→zV,data_mapFields→pD,isFreed_of_fields→y6,mapFields→mH,mapSeq→kK
open Option renaming map_some→pH
open Or renaming inr→kL
open PUnit renaming unit→pK
open PySem.PassesOwn renaming leaving→Jt
open PySem.PyData renaming eqv→bE,eqvAll→lp,strOk→ba,tuple→uf
open PyProof.Rows renaming callWith_type1→mv,intBits_le→Jx,slot_tuple_getitem→tT,Keyed→adA,SortSt→adB
open PySem.SeqAt.EqAt renaming int_str→GN,str_int→GP
open PySem.Shared renaming TypeIs→pM,heap→zP
open Std.Legacy.Range renaming forIn_eq_forIn_range'→IY
open PySem.Str renaming ofString→my
open Sum renaming inl→gS,inr→kI
open True renaming intro→pC
open PySem.Txt renaming slice→kS
open PySem.Value renaming builtin→kQ,int→mj,none→cJ,ref→aQ,str→pj
open PySem renaming Addr→ac5,Around→ac6,FuncData→ac7,NameKind→ac8,Program→ac9,Shared→ada,Value→adb,World→ade,behindInMarks→adf,binaryOp→adg,bootBuiltins→adh,codeAny→adi,compPost→adj,compareOp→adk,foldedSetIterable→adl,isSubtype_type→adm,mainGlobals→adn,sizeLine→ado,starEach→adp,wpAny→adq,wpAny_bind→ads,wpAny_dictEntries→adt,wpAny_holding→adu,wpAny_mono→adv,wpAny_newList→adw,wpAny_newObj_type→adx,wpAny_pure→ady,wpAny_truthy_bool→adz
noncomputable section
set_option Elab.async false
set_option linter.all false
set_option maxRecDepth 100000
namespace L2
open PySem PySem.Spec PyProof.Rows
abbrev Key:=Sum Int Str
def si:Key->adb->Bool
 | .inl k,v=>Value.isInt k v
 | .inr x,v=>Value.isStrOf x v
def TY(w:ade):Key->Int
 | .inl k=>hashInt k
 | .inr x=>hashStr w x
theorem bZ:∀{k:Key}{v:adb},si k v=true->(∃i t,k=gS i/\v=mj i t)\/(∃x t,k=kI x/\v=pj x t)
 | .inl i,v,h=>by
  obtain⟨t,e⟩:=Value.isInt_shape (k:=i) (v:=v) h
  exact .inl ⟨i,t,rfl,e⟩
 | .inr x,v,h=>by
  obtain⟨t,e⟩:=Value.isStrOf_shape (x:=x) (v:=v) h
  exact .inr ⟨x,t,rfl,e⟩
theorem AM(i:Int)(t:Tok):si (.inl i) (.int i t)=true:=by simp[si,Value.isInt]
theorem AN(x:Str)(t:Tok):si (.inr x) (.str x t)=true:=by simp[si,Value.isStrOf]
theorem K3(a b:Int):decide ((gS a:Key)=gS b)=(a == b):=by
 by_cases e:a=b
 ·subst e;simp
 ·have h:¬(gS a:Key)=gS b:=λq=>e (Sum.inl.inj q)
  rw[decide_eq_false h]
  exact(beq_eq_false_iff_ne.mpr e).symm
theorem K4(a b:Str):decide ((kI a:Key)=kI b)=decide (a=b):=by
 by_cases e:a=b
 ·subst e;simp
 ·have h:¬(kI a:Key)=kI b:=λq=>e (Sum.inr.inj q)
  rw[decide_eq_false h,decide_eq_false e]
theorem K5(a:Int)(b:Str):decide ((gS a:Key)=kI b)=false:=decide_eq_false (λq=>nomatch q)
theorem K6(a:Str)(b:Int):decide ((kI a:Key)=gS b)=false:=decide_eq_false (λq=>nomatch q)
def bh(prog:ac9)(w:ade):PySem.KeyKind prog w Key where
 is:=si
 hash:=TY w
 inj:=λv a b ha hb=>by
  rcases bZ ha with ⟨i,t,rfl,rfl⟩ | ⟨x,t,rfl,rfl⟩
  ·rcases bZ hb with ⟨j,u,rfl,e⟩ | ⟨y,u,rfl,e⟩
   ·injection e with e1 _;rw[e1]
   ·exact nomatch e
  ·rcases bZ hb with ⟨j,u,rfl,e⟩ | ⟨y,u,rfl,e⟩
   ·exact nomatch e
   ·injection e with e1 _;rw[e1]
 byValue:=λk v h=>by
  rcases bZ h with ⟨i,t,rfl,rfl⟩ | ⟨x,t,rfl,rfl⟩<;>rfl
 pyHash:=λhv h=>by
  rcases bZ hv with ⟨i,t,rfl,rfl⟩ | ⟨x,t,rfl,rfl⟩
  ·exact wpAny_pyHash_int h
  ·exact wpAny_pyHash_str h
 eqBool:=λhu hv h=>by
  rcases bZ hu with ⟨i,t,rfl,rfl⟩ | ⟨x,t,rfl,rfl⟩
  ·rcases bZ hv with ⟨j,u,rfl,rfl⟩ | ⟨y,u,rfl,rfl⟩
   ·rw[K3] at h;exact wpAny_eqBool_int h
   ·rw[K5] at h;exact GN i t y u _ _ _ _ h
  ·rcases bZ hv with ⟨j,u,rfl,rfl⟩ | ⟨y,u,rfl,rfl⟩
   ·rw[K6] at h;exact GP x t j u _ _ _ _ h
   ·rw[K4] at h;exact wpAny_eqBool_str h
 «strs»:=λk x t v h=>by
  rcases bZ h with ⟨i,u,rfl,e⟩ | ⟨y,u,rfl,e⟩
  ·exact nomatch e
  ·injection e with e1 _
   subst e1
   cases v<;>rfl
theorem vn(prog:ac9)(w:ade)(i:Int)(t:Tok):(bh prog w).is (.inl i) (.int i t)=true:=AM i t
theorem vo(prog:ac9)(w:ade)(x:Str)(t:Tok):(bh prog w).is (.inr x) (.str x t)=true:=AN x t
inductive V where
 | bz | bl (b:Bool) | int (i:Int) | str (x:Str) | OL (b:Array UInt8) | Sh (b:UInt64) | ref (a:ac5) | ty (n:String)
 deriving DecidableEq
def RelV:V->adb->Prop
 | .bz,u=>u=cJ
 | .bl b,u=>u=Value.bool b
 | .int i,u=>∃t,u=mj i t
 | .str x,u=>∃t,u=pj x t
 | .OL b,u=>∃t,u=Value.bytes b t
 | .Sh b,u=>∃t,u=Value.float b t
 | .ref a,u=>u=aQ a
 | .ty n,u=>u=Value.type n
abbrev Vals:List V->List adb->Prop:=Paired RelV
theorem Vals.length{xs:List V}{us:List adb}(r:Vals xs us):xs.length=us.length:=Paired.length r
theorem Vals.get:∀{xs:List V}{us:List adb}{i:Nat}{x:V},Vals xs us->xs[i]? =some x->∃u,us[i]? =some u/\RelV x u
 | _,_,_,_,.nil,e=>by simp at e
 | _,_,0,_,.cons r _,e=>by simp at e;subst e;exact⟨_,rfl,r⟩
 | _,_,i+1,x,.cons _ t,e=>by
  obtain⟨u,h1,h2⟩:=Vals.get (i:=i) (x:=x) t (by simpa using e)
  exact⟨u,by simpa using h1,h2⟩
theorem Vals.set{x:V}{u:adb}(r:RelV x u):∀{xs:List V}{us:List adb}(i:Nat),Vals xs us->Vals (xs.set i x) (us.set i u)
 | _,_,_,.nil=> .nil
 | _,_,0,.cons _ t=> .cons r t
 | _,_,i+1,.cons q t=> .cons q (Vals.set r i t)
theorem Vals.append:∀{xs ys:List V}{us ws:List adb},Vals xs us->Vals ys ws->Vals (xs++ys) (us++ws)
 | _,_,_,_,.nil,s=>s
 | _,_,_,_,.cons r t,s=> .cons r (Vals.append t s)
theorem Vals.take:∀{xs:List V}{us:List adb}(n:Nat),Vals xs us->Vals (xs.take n) (us.take n)
 | _,_,0,_=> .nil
 | _,_,_+1,.nil=> .nil
 | _,_,n+1,.cons r t=> .cons r (Vals.take n t)
theorem Vals.drop:∀{xs:List V}{us:List adb}(n:Nat),Vals xs us->Vals (xs.drop n) (us.drop n)
 | _,_,0,r=>r
 | _,_,_+1,.nil=> .nil
 | _,_,n+1,.cons _ t=>Vals.drop n t
def nB:Option V->Option adb->Prop
 | some v,some u=>RelV v u
 | none,none=>True
 | _,_=>False
def KV{κ:Type}:List (κ×V)->List (κ×adb)->Prop:=Paired λ(p:κ×V)(q:κ×adb)=>p.1=q.1/\RelV p.2 q.2
def kV:Key->V
 | .inl i=> .int i
 | .inr x=> .str x
inductive HO where
  | lst (xs:List V)
  | tup (xs:List V)
  | dK (kvs:List (Key×V)) | dT (kvs:List (List Key×V))
  | set (S:Int->Bool) (n:Nat)
  | ins (C dx:ac5) (fs:List (Str×V))
  | own (x:ac5)
  | xd (fs:List (Str×V))
  | met (f x:ac5)
  | TZ (lo hi:Int)
  | oS (o:Obj) (u:HO)
  | lr (ps:Array adb)
  | ext (φ:Heap->Prop)
abbrev Hp:=ac5->Option HO
def upd(H:Hp)(a:ac5)(o:HO):Hp:=λb=>if b=a then some o else H b
theorem aW{H:Hp}{a:ac5}{o:HO}:upd H a o a=some o:=by unfold upd;rw[if_pos rfl]
theorem aG{H:Hp}{a b:ac5}{o:HO}(h:b≠a):upd H a o b=H b:=by unfold upd;rw[if_neg h]
theorem O8{H:Hp}{a b:ac5}{o u:HO}(h:H a=some o)(h':H b=some u)(d:o≠u):a≠b:=by
 intro e;subst e;rw[h] at h';exact d (Option.some.inj h')
theorem bA{H:Hp}{a b:ac5}{o:HO}(h:H a=some o)(h':H b=none):a≠b:=by
 intro e;subst e;rw[h] at h';cases h'
def w9(h:Heap)(a:ac5):Prop:=∀o,h.get? a=some o->o.dict=none
theorem w9.new(h:Heap)(us:Array adb):w9 (h.push { cls:=.type "tuple",data:=.seq us }) h.objs.size:=λo q=>by
 rw[bB _ rfl] at q
 cases q
 rfl
section
variable (P:ac9) (w:ade)
def dH(H:Hp)(h:Heap)(a:ac5):HO->Prop
 | .lst xs=>xs.length<=ado/\∃(its:List adb)(n:Nat),Vals xs its/\h.get? a=some { cls:=.type "list",data:=.seq its.toArray n }
 | .tup xs=>xs.length<=ado/\∃its:List adb,Vals xs its/\IsTup h a its.toArray/\w9 h a
 | .dK kvs=>kvs.length<=ado/\(a == sysModules)=false/\∃vs,KV kvs vs/\h.DictOf (bh P w) a vs
 | .dT kvs=>kvs.length<=ado/\(a == sysModules)=false/\∃xs:List (List Key×ac5×adb),
   Paired (λ(p:List Key×V)(q:List Key×ac5×adb)=>p.1=q.1/\H q.2.1=some (.tup (p.1.map kV))/\RelV p.2 q.2.2) kvs xs/\
   ∃o es ep,h.get? a=some o/\o.ExactDict/\o.data= .dict es ep/\es.toList=xs.map (entryOfKey (tupleKind (bh P w)))/\(xs.map (·.1)).Nodup
 | .set S n=>h.SetOf (intKind P w) a S n
 | .ins C dx fs=>H dx=some (.own a)/\fs.length<=1000/\dx≠a/\h.get? a=some (PySem.W.instObj C dx)/\
   ∃mA,h.Ns1 dx mA/\(∀f,nB (fs.lookup f) (mA f))/\PySem.Within mA (fs.map (·.1))
 | .own _=>∃o,h.get? a=some o
 | .xd fs=>∃mA,h.Ns1 a mA/\∀f,nB (fs.lookup f) (mA f)
 | .TZ lo hi=>∃t u v,h.get? a=some { cls:=.type "range",data:=.fields #[.int lo t,.int hi u,.int 1 v] }
 | .oS o u=>h.get? a=some o/\dH H h a u
 | .lr ps=>h.get? a=some { cls:=.none,data:=.fields ps }
 | .met f x=>h.get? a=some (PySem.W.methodObj (.ref f) (.ref x))
 | .ext φ=>φ h/\(∃o,h.get? a=some o)/\∀h1 h2:Heap,φ h1->(∀o,h1.get? a=some o->h2.get? a=some o)->φ h2
def jQ(H:Hp)(h:Heap):Prop:=∀a o,H a=some o->dH P w H h a o
end
section
variable {P:ac9} {w:ade} {H H':Hp} {h h':Heap} {a:ac5} {o:HO}
theorem dH.lt(x:dH P w H h a o):a < h.objs.size:=by
 cases o with
 | lst xs=>obtain⟨_,_,_,_,e⟩:=x;exact aF e
 | tup xs=>obtain⟨_,_,_,p,_⟩:=x;exact p.lt
 | dK kvs=>obtain⟨_,_,_,_,o,_,_,e,_⟩:=x;exact aF e
 | dT kvs=>obtain⟨_,_,_,_,o,_,_,e,_⟩:=x;exact aF e
 | set S n=>obtain⟨o,_,_,_,e,_⟩:=x;exact aF e
 | ins C dx fs=>obtain⟨_,_,_,e,_⟩:=x;exact aF e
 | own y=>obtain⟨_,e⟩:=x;exact aF e
 | xd fs=>obtain⟨_,⟨_,_,_,e,_⟩,_⟩:=x;exact aF e
 | TZ lo hi=>obtain⟨_,_,_,e⟩:=x;exact aF e
 | oS ob u=>obtain⟨e,_⟩:=x;exact aF e
 | lr ps=>exact aF (show h.get? a=some _ from x)
 | met f y=>exact aF (show h.get? a=some _ from x)
 | ext φ=>obtain⟨_,⟨_,e⟩,_⟩:=x;exact aF e
theorem Paired.K7{α β:Type}{F G:α->β->Prop}:∀{l₁:List α}{l₂:List β},Paired F l₁ l₂->(∀a b,F a b->G a b)->Paired G l₁ l₂
 | _,_,.nil,_=> .nil
 | _,_,.cons r t,f=> .cons (f _ _ r) (Paired.K7 t f)
theorem dH.stay(x:dH P w H h a o)(k:∀b u,(b=a\/H b=some (.own a))->h.get? b=some u->h'.get? b=some u)
  (ho:∀b,H b=some (.own a)->H' b=some (.own a))(ht:∀b xs,H b=some (.tup xs)->H' b=some (.tup xs)):dH P w H' h' a o:=by
 induction o with
 | lst xs=>obtain⟨z,its,n,r,e⟩:=x;exact⟨z,its,n,r,k _ _ (.inl rfl) e⟩
 | tup xs=>obtain⟨z,us,r,⟨ob,e,c⟩,nd⟩:=x;exact⟨z,us,r,⟨ob,k _ _ (.inl rfl) e,c⟩,λo q=>by rw[k _ _ (.inl rfl) e] at q;cases q;exact nd _ e⟩
 | dK kvs=>obtain⟨z,y,vs,r,ob,es,ep,e,c⟩:=x;exact⟨z,y,vs,r,ob,es,ep,k _ _ (.inl rfl) e,c⟩
 | dT kvs=>
  obtain⟨z,y,xs,r,ob,es,ep,e,c⟩:=x
  exact⟨z,y,xs,Paired.K7 r λp q z=>⟨z.1,ht _ _ z.2.1,z.2.2⟩,ob,es,ep,k _ _ (.inl rfl) e,c⟩
 | set S n=>obtain⟨ob,es,ep,t,e,c⟩:=x;exact⟨ob,es,ep,t,k _ _ (.inl rfl) e,c⟩
 | ins C dx fs=>
  obtain⟨d,z,ne,e,mA,⟨od,es,ep,e2,c⟩,r⟩:=x
  exact⟨ho _ d,z,ne,k _ _ (.inl rfl) e,mA,⟨od,es,ep,k _ _ (.inr d) e2,c⟩,r⟩
 | own y=>obtain⟨ob,e⟩:=x;exact⟨ob,k _ _ (.inl rfl) e⟩
 | xd fs=>obtain⟨mA,⟨od,es,ep,e,c⟩,r⟩:=x;exact⟨mA,⟨od,es,ep,k _ _ (.inl rfl) e,c⟩,r⟩
 | TZ lo hi=>obtain⟨t,u,v,e⟩:=x;exact⟨t,u,v,k _ _ (.inl rfl) e⟩
 | oS ob u ih=>obtain⟨e,q⟩:=x;exact⟨k _ _ (.inl rfl) e,ih q⟩
 | lr ps=>
  have e:h.get? a=some { cls:=.none,data:=.fields ps }:=x
  show h'.get? a=some { cls:=.none,data:=.fields ps }
  exact k a _ (.inl rfl) e
 | met f y=>
  have e:h.get? a=some (PySem.W.methodObj (.ref f) (.ref y)):=x
  show h'.get? a=some (PySem.W.methodObj (.ref f) (.ref y))
  exact k a _ (.inl rfl) e
 | ext φ=>obtain⟨p,⟨o,e⟩,st⟩:=x;exact⟨st _ _ p λo q=>k _ _ (.inl rfl) q,⟨o,k _ _ (.inl rfl) e⟩,st⟩
theorem jQ.lt(x:jQ P w H h)(e:H a=some o):a < h.objs.size:=(x a o e).lt
theorem jQ.fresh(x:jQ P w H h)(e:h.objs.size<=a):H a=none:=by
 cases q:H a with
 | none=>rfl
 | some u=>exact absurd (a9 (x.lt q) e) (dn _)
theorem jQ.kept(x:jQ P w H h)(k:∀b u,h.get? b=some u->h'.get? b=some u):jQ P w H h':=λa o e=>
 (x a o e).stay (λb u _ q=>k b u q) (λ_ q=>q) λ_ _ q=>q
theorem jQ.laid(x:jQ P w H h)(k:∀b u,h.get? b=some u->h'.get? b=some u)(hp:h.objs.size<=a)(new:dH P w (upd H a o) h' a o):jQ P w (upd H a o) h':=λb u e=>by
 have hn:=x.fresh hp
 by_cases hb:b=a
 ·subst hb;rw[aW] at e;cases e;exact new
 ·rw[aG hb] at e
  exact(x b u e).stay (λc v _ q=>k c v q) (λc q=>by rw[aG (bA q hn)];exact q) λc xs q=>by rw[aG (bA q hn)];exact q
end
def Rd(H:Hp)(a:ac5)(u:HO):Prop:=H a=some u\/∃o,H a=some (.oS o u)
theorem Rd.ok{P:ac9}{w:ade}{H:Hp}{h:Heap}{a:ac5}{u:HO}(r:Rd H a u)(x:jQ P w H h):dH P w H h a u:=by
 rcases r with r | ⟨o,r⟩
 ·exact x a u r
 ·obtain⟨_,q⟩:=x a _ r
  exact q
def O9:Option HO->Prop
 | some (.lst _)=>True
 | some (.dK _)=>True
 | some (.dT _)=>True
 | some (.set _ _)=>True
 | some (.ins _ _ _)=>True
 | some (.ext _)=>True
 | _=>False
section
variable {P:ac9} {w:ade} {H:Hp} {h h':Heap} {x e:ac5} {o':HO}
theorem jQ.write(ok:jQ P w H h)(mu:O9 (H x))(he:e=x\/H e=some (.own x))(k:∀b u,b≠e->h.get? b=some u->h'.get? b=some u)(OM:∃u,h'.get? e=some u)
  (new:dH P w (upd H x o') h' x o'):jQ P w (upd H x o') h':=λb u q=>by
 have O_:∀c y,H c=some (.own y)->c≠x:=λc y r z=>by subst z;rw[r] at mu;exact mu
 have T4:∀c xs,H c=some (.tup xs)->c≠x:=λc xs r z=>by subst z;rw[r] at mu;exact mu
 by_cases hb:b=x
 ·subst hb;rw[aW] at q;cases q;exact new
 ·rw[aG hb] at q
  by_cases K8:b=e
  ·have q':H b=some (.own x):=by
    rcases he with z | z
    ·exact absurd (K8.trans z) hb
    ·rw[K8];exact z
   rw[q] at q';cases q'
   obtain⟨v,hv⟩:=OM
   exact⟨v,by rw[K8];exact hv⟩
  ·refine(ok b u q).stay (λc v hc r=>k c v ?_ r) (λc r=>by rw[aG (O_ c b r)];exact r) λc xs r=>by rw[aG (T4 c xs r)];exact r
   rcases hc with rfl | hc
   ·exact K8
   ·rintro rfl
    rcases he with z | z
    ·exact O_ c b hc z
    ·rw[hc] at z;cases z;exact hb rfl
end
structure Un(fs ex:List ac5)(H H':Hp)(h h':Heap):Prop where
 keep:∀b o,h.get? b=some o->H b=none->b∉fs->b∉ex->h'.get? b=some o
 slot:∀b o,h.get? b=some o->H b=none->b∈fs->b∉ex->∃sl,h'.get? b=some { o with slots:=sl }
 free:∀b o,h.get? b=some o->H b=none->b∉ex->H' b=none
 there:∀b o,h.get? b=some o->b∉ex->∃o',h'.get? b=some o'
 tups:∀b xs,H b=some (.tup xs)->H' b=some (.tup xs)
 oT:∀b o u,H b=some (.oS o u)->H' b=some (.oS o u)
 pR:∀b ps,H b=some (.lr ps)->∃more,H' b=some (.lr (ps++more))
section
variable {fs fs' ex ex':List ac5} {H H1 H2:Hp} {h h1 h2 h':Heap} {a x e:ac5} {o:HO}
theorem Un.any(u:Un fs ex H H1 h h1){b:ac5}{ob:Obj}(q:h.get? b=some ob)(n:H b=none)(hx:b∉ex):∃sl,h1.get? b=some { ob with slots:=sl }:=by
 by_cases hb:b∈fs
 ·exact u.slot b ob q n hb hx
 ·exact⟨ob.slots,u.keep b ob q n hb hx⟩
theorem Un.kept(k:∀b u,h.get? b=some u->h'.get? b=some u):Un fs ex H H h h' :=
 ⟨λb ob q _ _ _=>k b ob q,λb ob q _ _ _=>⟨ob.slots,k b ob q⟩,λ_ _ _ n _=>n,λb ob q _=>⟨ob,k b ob q⟩,λ_ _ q=>q,λ_ _ _ q=>q,λ_ ps q=>⟨#[],by rw[q];simp⟩⟩
theorem Un.refl:Un fs ex H H h h:=Un.kept λ_ _ q=>q
theorem Un.laid(k:∀b u,h.get? b=some u->h'.get? b=some u)(hp:h.objs.size<=a)(hn:H a=none):Un fs ex H (upd H a o) h h' where
 keep:=λb u q _ _ _=>k b u q
 slot:=λb u q _ _ _=>⟨u.slots,k b u q⟩
 free:=λb u q n _=>by rw[aG (aR (a9 (aF q) hp))];exact n
 there:=λb u q _=>⟨u,k b u q⟩
 tups:=λb xs q=>by rw[aG (bA q hn)];exact q
 oT:=λb u xs q=>by rw[aG (bA q hn)];exact q
 pR:=λb ps q=>⟨#[],by rw[aG (bA q hn),q];simp⟩
theorem Un.write(mu:O9 (H x))(he:e=x\/H e=some (.own x))(k:∀b u,b≠e->h.get? b=some u->h'.get? b=some u)(OM:∃u,h'.get? e=some u):Un fs ex H (upd H x o) h h':=by
 have hx:∀b,H b=none->b≠x:=λb n z=>by subst z;rw[n] at mu;exact mu
 have hb:∀b,H b=none->b≠e:=λb n z=>by
  subst z
  rcases he with r | r
  ·exact hx b n r
  ·rw[n] at r;cases r
 have hm:∀b u,H b=some u->¬O9 (some u)->b≠x:=λb u q nm z=>by subst z;rw[q] at mu;exact nm mu
 refine⟨λb u q n _ _=>k b u (hb b n) q,λb u q n _ _=>⟨u.slots,k b u (hb b n) q⟩,λb u q n _=>by rw[aG (hx b n)];exact n,λb u q _=>?_,
  λb xs q=>by rw[aG (hm b _ q λz=>z)];exact q,λb u xs q=>by rw[aG (hm b _ q λz=>z)];exact q,λb ps q=>⟨#[],by rw[aG (hm b _ q λz=>z),q];simp⟩⟩
 by_cases K8:b=e
 ·subst K8;exact OM
 ·exact⟨u,k b u K8 q⟩
end
def Si(h:Heap)(H:Hp):List ac5:=(f9 h.objs.size).filter λa=>(H a).isSome
def rD(h:Heap)(H:Hp):Heap:=PySem.W.hideAll h (Si h H)
theorem sj(h:Heap)(H:Hp):(rD h H).objs.size=h.objs.size:=PySem.W.hideAll_size _ _
theorem ml{h:Heap}{H:Hp}{b:ac5}{o:Obj}(e:h.get? b=some o)(n:H b=none):(rD h H).get? b=some o :=
 PySem.W.hideAll_get _ e λhm=>by
  have q:(H b).isSome=true:=(List.mem_filter.mp hm).2
  rw[n] at q;simp at q
theorem yN{h:Heap}{H:Hp}{b:ac5}{o:Obj}(e:(rD h H).get? b=some o):h.get? b=some o/\H b=none:=by
 have e':h.get? b=some o:=PySem.W.of_hideAll (Si h H) e
 refine⟨e',?_⟩
 cases q:H b with
 | none=>rfl
 | some x=>
  have hm:b∈Si h H:=List.mem_filter.mpr ⟨List.mem_range.mpr (aF e'),by simp[q]⟩
  have z:(rD h H).get? b=none:=PySem.W.hideAll_none (Si h H) hm
  rw[z] at e;cases e
structure Mod(K:PySem.W.Frag)(mg:Str->Option adb)(base:Heap):Prop where
 K9:K.In base
 glob:base.Ns adn mg
 blt:∃mb,base.Ns builtinsNs mb/\∀x:Str,x≠"__name__"->mb x=adh x
 nolimit:base.NoLimit
structure Cx where
 prog:ac9
 w:ade
 K:PySem.W.Frag
 mg:Str->Option adb
 base:Heap
 A:ac6
 N:List Str
 s₀:ada
 H₀:Hp
 env:Env
 outer:List Env
 stack:List Env
 ex:List ac5
 fn:Str->Bool
 calm:Bool
 pn:List (ac5×Obj)
 xe:adb->ada->Prop
def frs(l:List Env):List ac5:=l.filterMap (·.frame)
abbrev Cx.fs(X:Cx):List ac5:=frs X.outer
def ON(sc:Scope)(x:Str):Prop:=sc.names.lookup x=some .local\/sc.names.lookup x=some .cell\/sc.names.lookup x=some .free
def Loc(sc:Scope)(x:Str):Prop:=sc.names.lookup x=some .local\/sc.names.lookup x=some .cell
def Look(env:Env)(h:Heap)(m:Str->Option adb)(x:Str)(u:adb):Prop :=
 (env.kindOf x=some .local/\m x=some u)\/((env.kindOf x=some .cell\/env.kindOf x=some .free)/\∃c,env.cells.lookup x=some c/\h.IsCell c (some u))
structure Cx.Ok(X:Cx):Prop where
 mod:Mod X.K X.mg X.base
 kind:X.env.scope.kind= .function
 glob:X.env.globals=adn
 blt:X.env.builtins=builtinsNs
 above:X.s₀.heap.objs.size<=X.env.locals
 inj:∀x y c,X.env.cells.lookup x=some c->X.env.cells.lookup y=some c->x=y
 has:∀x,(X.env.kindOf x=some .cell\/X.env.kindOf x=some .free)->∃c,X.env.cells.lookup x=some c
 O':∀x c,X.fn x=true->X.env.cells.lookup x=some c->X.s₀.heap.objs.size<=c
 hd:X.calm=true->X.A.handled=none
 frames:X.A.frames=some X.stack
 stk:X.stack=X.outer\/(X.stack=X.env::X.outer/\X.env.frame=some X.env.locals)
 Zt:∀b∈X.ex,b≠X.env.locals/\∀x c,X.env.cells.lookup x=some c->c≠b
 bs:∀b o,X.base.get? b=some o->X.s₀.heap.get? b=some o/\X.H₀ b=none
 GQ:X.base.objs.size<=X.s₀.heap.objs.size
 GR:∀b o,X.base.get? b=some o->b∉X.ex
 K_:∀b∈X.ex,b∉X.fs
 nC:X.s₀.heap.FunFrames X.base X.outer
 K':∀b∈X.fs,X.H₀ b=none
structure Inv(X:Cx)(pins:List (ac5×Obj))(σ:List (Option V))(H:Hp)(s:ada):Prop where
 ok:X.Ok
 os:s.os=X.s₀.os
 bare:AllBare s.gens
 base:Un X.fs X.ex X.H₀ H X.s₀.heap s.heap
 loc:∃m,s.heap.Ns X.env.locals m/\∀(i:Nat)(x:Str)(v:V),X.N[i]? =some x->σ[i]? =some (some v)->ON X.env.scope x->∃u,RelV v u/\Look X.env s.heap m x u
 cell:∀x c,X.env.cells.lookup x=some c->∃v,s.heap.IsCell c v
 free:H X.env.locals=none
 lB:∀x c,X.env.cells.lookup x=some c->H c=none
 pin:∀p∈X.pn++pins,s.heap.get? p.1=some p.2/\H p.1=none/\p.1≠X.env.locals/\p.1∉X.fs/\∀v,p.2.data≠.cell v
 hok:jQ X.prog X.w H s.heap
 len:σ.length=X.N.length
section
variable {X:Cx} {pins:List (ac5×Obj)} {σ:List (Option V)} {H H':Hp} {s:ada} {h':Heap}
theorem Cx.Ok.Pa(ok:X.Ok){b:ac5}{o:Obj}(e:X.base.get? b=some o):b∉X.fs:=λhb=>by
 have:=(ok.nC.mem hb).1
 rw[e] at this;cases this
theorem Inv.bs(I:Inv X pins σ H s):∀b o,X.base.get? b=some o->s.heap.get? b=some o/\H b=none:=λb o e=>
 ⟨I.base.keep b o (I.ok.bs b o e).1 (I.ok.bs b o e).2 (I.ok.Pa e) (I.ok.GR b o e),I.base.free b o (I.ok.bs b o e).1 (I.ok.bs b o e).2 (I.ok.GR b o e)⟩
theorem Inv.bk(I:Inv X pins σ H s):∀b o,X.base.get? b=some o->s.heap.get? b=some o:=λb o e=>(I.bs b o e).1
theorem Inv.mod(I:Inv X pins σ H s):Mod X.K X.mg X.base:=I.ok.mod
theorem Inv.w_(I:Inv X pins σ H s):X.K.In s.heap:=I.ok.mod.K9.keeps I.bk
theorem Inv.lt(I:Inv X pins σ H s):X.env.locals < s.heap.objs.size:=let ⟨_,hn,_⟩:=I.loc;hn.lt
theorem Inv.sz(I:Inv X pins σ H s):X.s₀.heap.objs.size<=s.heap.objs.size:=bp I.ok.above (mq I.lt)
theorem Inv.Pb(I:Inv X pins σ H s){a:ac5}(h:s.heap.objs.size<=a):a∉X.fs:=λhb=>by
 obtain⟨_,o,ho,_⟩:=I.ok.nC.mem hb
 exact absurd (a9 (aF ho) (bp I.sz h)) (dn _)
theorem Inv.JM(I:Inv X pins σ H s):∀x c,X.env.cells.lookup x=some c->c≠X.env.locals:=λx c e z=>by
 obtain⟨v,o,ho,hd⟩:=I.cell x c e
 obtain⟨m,⟨o',es,ep,ho',hd',_⟩,_⟩:=I.loc
 rw[z,ho'] at ho;cases ho;rw[hd'] at hd;cases hd
theorem Inv.nC(I:Inv X pins σ H s):s.heap.FunFrames X.base X.outer:=by
 have all:∀(l:List Env),(∀b∈frs l,b∈X.fs)->X.s₀.heap.FunFrames X.base l->s.heap.FunFrames X.base l:=by
  intro l
  induction l with
  | nil=>intro _ _;trivial
  | cons env r ih=>
   intro hs hl
   obtain⟨hk,⟨L,o,hf,hn,ho,hd⟩,hr⟩:=hl
   have hL:L∈X.fs:=hs L (by unfold frs;rw[tK,hf];exact bu)
   obtain⟨sl,e⟩:=I.base.slot L o ho (I.ok.K' L hL) hL λz=>I.ok.K_ L z hL
   exact⟨hk,⟨L,_,hf,hn,e,hd⟩,ih (λb hb=>hs b (by unfold frs;rw[tK,hf];exact aN _ hb)) hr⟩
 exact all X.outer (λ_ hb=>hb) I.ok.nC
theorem Inv.stack(I:Inv X pins σ H s):s.heap.FunFrames X.base X.stack:=by
 rcases I.ok.stk with e | ⟨e,hf⟩
 ·rw[e];exact I.nC
 ·rw[e]
  obtain⟨m,hn,_⟩:=I.loc
  refine .cons (by rw[I.ok.kind];decide) hf hn ?_ I.nC
  exact La (bp I.ok.GQ I.ok.above)
theorem Inv.lI(I:Inv X pins σ H s):∀b∈frs X.stack,b∈X.env.locals::X.fs:=λb hb=>by
 rcases I.ok.stk with e | ⟨e,hf⟩
 ·rw[e] at hb;exact aN _ hb
 ·rw[e] at hb
  unfold frs at hb
  rw[tK,hf] at hb
  exact hb
theorem Inv.pk(I:Inv X pins σ H s):∀b∈frs X.stack,H b=none:=λb hb=>by
 rcases List.mem_cons.mp (I.lI b hb) with e | hb
 ·rw[e];exact I.free
 ·obtain⟨_,o,ho,_⟩:=I.ok.nC.mem hb
  exact I.base.free b o ho (I.ok.K' b hb) λz=>I.ok.K_ b z hb
theorem Inv.step{g':Array GenState}{t':Nat}{d':Drawn}{ch:List ac5}(I:Inv X pins σ H s)
  (hch:∀b∈ch,(b∈X.ex\/X.s₀.heap.objs.size<=b)/\b≠X.env.locals/\(∀x c,X.env.cells.lookup x=some c->c≠b)/\∀p∈X.pn++pins,p.1≠b)
  (keep:∀b o,b≠X.env.locals->b∉X.fs->b∉ch->s.heap.get? b=some o->H b=none->h'.get? b=some o)
  (slot:∀b o,b≠X.env.locals->b∈X.fs->b∉ch->s.heap.get? b=some o->H b=none->∃sl,h'.get? b=some { o with slots:=sl })(free:∀b o,b∉ch->s.heap.get? b=some o->H b=none->H' b=none)
  (there:∀b o,b∉ch->s.heap.get? b=some o->∃o',h'.get? b=some o')
  (tups:∀b xs,H b=some (.tup xs)->H' b=some (.tup xs))(oT:∀b o u,H b=some (.oS o u)->H' b=some (.oS o u))(pR:∀b ps,H b=some (.lr ps)->∃more,H' b=some (.lr (ps++more)))
  (ns:∀m,s.heap.Ns X.env.locals m->h'.Ns X.env.locals m)(hok:jQ X.prog X.w H' h')(hg:AllBare g') :
  Inv X pins σ H' { s with heap:=h',gens:=g',drawn:=d',toks:=t' }:=by
 have Xv:∀b o,X.s₀.heap.get? b=some o->b≠X.env.locals:=λb o e=>aR (a9 (aF e) I.ok.above)
 have Sj:∀b o,X.s₀.heap.get? b=some o->b∉X.ex->b∉ch:=λb o e hx hb=>by
  rcases(hch b hb).1 with z | z
  ·exact hx z
  ·exact absurd (a9 (aF e) z) (dn _)
 have cellK:∀x c,X.env.cells.lookup x=some c->∀v,s.heap.IsCell c v->h'.IsCell c v:=λx c e v ⟨o,ho,hd⟩=>by
  have Pc:c∉ch:=λz=>(hch c z).2.2.1 x c e rfl
  by_cases hc:c∈X.fs
  ·obtain⟨sl,q⟩:=slot c o (I.JM x c e) hc Pc ho (I.lB x c e)
   exact⟨_,q,hd⟩
  ·exact⟨o,keep c o (I.JM x c e) hc Pc ho (I.lB x c e),hd⟩
 refine⟨I.ok,I.os,hg,⟨λb o e n hb hx=>?_,λb o e n hb hx=>?_,λb o e n hx=>?_,λb o e hx=>?_,λb xs e=>tups b xs (I.base.tups b xs e),λb o xs e=>oT b o xs (I.base.oT b o xs e),λb ps e=>?_⟩,?_,λx c e=>?_,?_,λx c e=>?_,λp hp=>?_,hok,I.len⟩
 ·exact keep b o (Xv b o e) hb (Sj b o e hx) (I.base.keep b o e n hb hx) (I.base.free b o e n hx)
 ·obtain⟨sl,e1⟩:=I.base.slot b o e n hb hx
  obtain⟨Zu,e2⟩:=slot b _ (Xv b o e) hb (Sj b o e hx) e1 (I.base.free b o e n hx)
  exact⟨Zu,e2⟩
 ·obtain⟨o',e1⟩:=I.base.there b o e hx
  exact free b o' (Sj b o e hx) e1 (I.base.free b o e n hx)
 ·obtain⟨o',e1⟩:=I.base.there b o e hx
  exact there b o' (Sj b o e hx) e1
 ·obtain⟨m1,e1⟩:=I.base.pR b ps e
  obtain⟨m2,e2⟩:=pR b _ e1
  exact⟨m1++m2,by rw[e2,Array.append_assoc]⟩
 ·obtain⟨m,hn,hl⟩:=I.loc
  refine⟨m,ns m hn,λi x v e1 e2 e3=>?_⟩
  obtain⟨u,r,l⟩:=hl i x v e1 e2 e3
  refine⟨u,r,?_⟩
  rcases l with l | ⟨k,c,e,z⟩
  ·exact .inl l
  ·exact .inr ⟨k,c,e,cellK x c e _ z⟩
 ·obtain⟨v,z⟩:=I.cell x c e
  exact⟨v,cellK x c e v z⟩
 ·obtain⟨m,⟨o,_,_,ho,_⟩,_⟩:=I.loc
  exact free _ o (λz=>(hch _ z).2.1 rfl) ho I.free
 ·obtain⟨v,o,ho,hd⟩:=I.cell x c e
  exact free c o (λz=>(hch c z).2.2.1 x c e rfl) ho (I.lB x c e)
 ·obtain⟨e,n,ne,nf,d⟩:=I.pin p hp
  have Pc:p.1∉ch:=λz=>(hch p.1 z).2.2.2 p hp rfl
  exact⟨keep p.1 p.2 ne nf Pc e n,free p.1 p.2 Pc e n,ne,nf,d⟩
theorem Inv.un{t':Nat}(I:Inv X pins σ H s)(u:Un X.fs [] H H' s.heap h')(hok:jQ X.prog X.w H' h'):Inv X pins σ H' { s with heap:=h',toks:=t' }:=by
 obtain⟨m,⟨o,es,ep,ho,r⟩,_⟩:=id I.loc
 obtain⟨sl,hL⟩:=u.any ho I.free (by simp)
 exact I.step (g':=s.gens) (d':=s.drawn) (ch:=[]) (λ_ z=>nomatch z) (λb o _ hb _ e n=>u.keep b o e n hb (by simp)) (λb o _ hb _ e n=>u.slot b o e n hb (by simp)) (λb o _ e n=>u.free b o e n (by simp)) (λb o _ e=>u.there b o e (by simp)) u.tups u.oT u.pR (λm' hm=>by
  obtain⟨o',es',Lb,ho',r'⟩:=hm
  rw[ho] at ho';cases ho'
  exact⟨_,es',Lb,hL,r'⟩) hok I.bare
theorem Inv.call{g':Array GenState}{t':Nat}{d':Drawn}{ch:List ac5}(I:Inv X pins σ H s)(u:Un (frs X.stack) ch H H' s.heap h')(hok:jQ X.prog X.w H' h')(hg:AllBare g')
  (hch:∀b∈ch,(b∈X.ex\/X.s₀.heap.objs.size<=b)/\b≠X.env.locals/\(∀x c,X.env.cells.lookup x=some c->c≠b)/\∀p∈X.pn++pins,p.1≠b) :
  Inv X pins σ H' { s with heap:=h',gens:=g',drawn:=d',toks:=t' }:=by
 obtain⟨m,⟨o,es,ep,ho,r⟩,_⟩:=id I.loc
 obtain⟨sl,hL⟩:=u.any ho I.free λz=>(hch _ z).2.1 rfl
 exact I.step (ch:=ch) hch (λb o hL hb hc e n=>u.keep b o e n (λz=>(List.mem_cons.mp (I.lI b z)).elim hL hb) hc) (λb o _ _ hc e n=>u.any e n hc) (λb o hc e n=>u.free b o e n hc) (λb o hc e=>u.there b o e hc) u.tups u.oT u.pR (λm' hm=>by
  obtain⟨o',es',Lb,ho',r'⟩:=hm
  rw[ho] at ho';cases ho'
  exact⟨_,es',Lb,hL,r'⟩) hok hg
theorem Inv.turned{t':Nat}{it:ac5}(I:Inv X pins σ H s)(k:∀b o,b≠it->s.heap.get? b=some o->h'.get? b=some o)(hn:H it=none)(hL:it≠X.env.locals)
  (h1:it∈X.ex\/X.s₀.heap.objs.size<=it)(h2:∀x c,X.env.cells.lookup x=some c->c≠it)(h3:∀p∈X.pn++pins,p.1≠it):Inv X pins σ H { s with heap:=h',toks:=t' }:=by
 have Xw:∀b u,H b=some u->b≠it:=λb u e z=>by rw[z,hn] at e;cases e
 refine I.step (g':=s.gens) (d':=s.drawn) (ch:=[it]) (λb hb=>?_) (λb o _ _ hc e _=>k b o (λz=>hc (by simp[z])) e) (λb o _ _ hc e _=>⟨o.slots,k b o (λz=>hc (by simp[z])) e⟩) (λ_ _ _ _ n=>n)
  (λb o hc e=>⟨o,k b o (λz=>hc (by simp[z])) e⟩) (λ_ _ e=>e) (λ_ _ _ e=>e) (λb ps e=>⟨#[],by rw[e];simp⟩) (λm hm=>?_) (λb u e=>?_) I.bare
 ·have e:b=it:=by simpa using hb
  subst e
  exact⟨h1,hL,h2,h3⟩
 ·obtain⟨o,es,ep,ho,r⟩:=hm
  exact⟨o,es,ep,k _ o (ax hL) ho,r⟩
 ·refine(I.hok b u e).stay (λc v hc q=>k c v ?_ q) (λ_ q=>q) λ_ _ q=>q
  rcases hc with z | z
  ·rw[z];exact Xw b u e
  ·exact Xw c _ z
theorem Inv.tok(I:Inv X pins σ H s)(t:Nat):Inv X pins σ H { s with toks:=t }:=I.un (h':=s.heap) (t':=t) Un.refl I.hok
theorem Inv.kept{t':Nat}(I:Inv X pins σ H s)(k:∀b u,s.heap.get? b=some u->h'.get? b=some u):Inv X pins σ H { s with heap:=h',toks:=t' }:=I.un (Un.kept k) (I.hok.kept k)
theorem Inv.laid{a:ac5}{o:HO}{t':Nat}(I:Inv X pins σ H s)(k:∀b u,s.heap.get? b=some u->h'.get? b=some u)(hp:s.heap.objs.size<=a)(new:dH X.prog X.w (upd H a o) h' a o) :
  Inv X pins σ (upd H a o) { s with heap:=h',toks:=t' }:=I.un (Un.laid k hp (I.hok.fresh hp)) (I.hok.laid k hp new)
theorem Inv.write{x e:ac5}{o:HO}{t':Nat}(I:Inv X pins σ H s)(mu:O9 (H x))(he:e=x\/H e=some (.own x))(k:∀b u,b≠e->s.heap.get? b=some u->h'.get? b=some u)(OM:∃u,h'.get? e=some u)
  (new:dH X.prog X.w (upd H x o) h' x o):Inv X pins σ (upd H x o) { s with heap:=h',toks:=t' }:=I.un (Un.write mu he k OM) (I.hok.write mu he k OM new)
theorem Inv.yO{oD:List (ac5×Obj)}(I:Inv X pins σ H s)(h:∀p∈oD,s.heap.get? p.1=some p.2/\H p.1=none/\p.1≠X.env.locals/\p.1∉X.fs/\∀v,p.2.data≠.cell v):Inv X oD σ H s :=
 ⟨I.ok,I.os,I.bare,I.base,I.loc,I.cell,I.free,I.lB,λp hp=>(List.mem_append.mp hp).elim (λz=>I.pin p (tL _ z)) (h p),I.hok,I.len⟩
theorem vp{N:List Str}(hN:N.Nodup){i j:Nat}{x:Str}(a:N[i]? =some x)(b:N[j]? =some x):i=j:=by
 obtain⟨h1,e1⟩:=List.getElem?_eq_some_iff.mp a
 obtain⟨h2,e2⟩:=List.getElem?_eq_some_iff.mp b
 exact(List.getElem_inj hN).mp (e1.trans e2.symm)
theorem nD{M:Model}{A:ac6}{E:adb->ada->Prop}{i:Nat}{x:Str}{v:V}{u:adb}{Q:Unit->ada->Prop}(I:Inv X pins σ H s)(hN:X.N.Nodup)(hi:X.N[i]? =some x)(hx:Loc X.env.scope x)(r:RelV v u)
  (h:∀s',Inv X pins (σ.set i (some v)) H s'->(∃a,iu a s.heap s'.heap/\(a=X.env.locals\/X.env.cells.lookup x=some a))->Q () s')(hf:X.fn x=true\/X.env.scope.names.lookup x=some .local:=by first | exact .inl rfl | exact .inr rfl | assumption):adq M A (storeName X.env x u) Q E s:=by
 obtain⟨m,hn,hl⟩:=id I.loc
 have hcls:(X.env.scope.kind == .class||(X.env.scope.kind == .module&&X.env.locals != X.env.globals))=false:=by rw[I.ok.kind];rfl
 have Pd:i < σ.length:=by rw[I.len];exact(List.getElem?_eq_some_iff.mp hi).1
 have JM:=I.JM
 have tracked:∀{a:ac5}{h':Heap},(∃o,s.heap.get? a=some o/\H a=none)->iu a s.heap h'->jQ X.prog X.w H h':=λ{a h'} ha hs b ob e=>by
  obtain⟨_,_,hfree⟩:=ha
  refine(I.hok b ob e).stay (λc w' hc q=>(hs.2 c ?_).trans q) (λ_ q=>q) λ_ _ q=>q
  rintro rfl
  rcases hc with rfl | hc
  ·rw[hfree] at e;cases e
  ·rw[hfree] at hc;cases hc
 rcases hx with hk | hk
 ·refine wpAny_storeName_local hk hn (λh' hn' hs=>?_) hcls
  obtain⟨oL,_,_,Zv,_⟩:=id hn
  refine h _ ⟨I.ok,I.os,I.bare,⟨λb o e n hb hx=>?_,λb o e n hb hx=>?_,I.base.free,λb o e hx=>?_,I.base.tups,I.base.oT,I.base.pR⟩,⟨_,hn',λj y v' e1 e2 e3=>?_⟩,λy c e=>?_,I.free,I.lB,λp hp=>?_,tracked ⟨oL,Zv,I.free⟩ hs,by simpa using I.len⟩ ⟨_,hs,.inl rfl⟩
  ·exact(hs.2 b (aR (a9 (aF e) I.ok.above))).trans (I.base.keep b o e n hb hx)
  ·obtain⟨sl,e1⟩:=I.base.slot b o e n hb hx
   exact⟨sl,(hs.2 b (aR (a9 (aF e) I.ok.above))).trans e1⟩
  ·obtain⟨o',e1⟩:=I.base.there b o e hx
   exact⟨o',(hs.2 b (aR (a9 (aF e) I.ok.above))).trans e1⟩
  ·by_cases hj:j=i
   ·subst hj
    rw[hi] at e1;cases e1
    rw[pS Pd] at e2
    cases e2
    exact⟨u,r,.inl ⟨hk,by simp⟩⟩
   ·rw[jR (ax hj)] at e2
    obtain⟨u',r',q⟩:=hl j y v' e1 e2 e3
    refine⟨u',r',?_⟩
    rcases q with ⟨k,e⟩ | ⟨k,c,e,z⟩
    ·refine .inl ⟨k,?_⟩
     have:y≠x:=λe=>hj (vp hN e1 (e ▸ hi))
     simp[this,e]
    ·exact .inr ⟨k,c,e,z.sameBut hs (JM y c e)⟩
  ·obtain⟨w',z⟩:=I.cell y c e
   exact⟨w',z.sameBut hs (JM y c e)⟩
  ·obtain⟨e,n,ne,nf,d⟩:=I.pin p hp
   exact⟨(hs.2 p.1 ne).trans e,n,ne,nf,d⟩
 ·have hfn:X.fn x=true:=by
   rcases hf with z | z
   ·exact z
   ·rw[z] at hk;cases hk
  obtain⟨c,hc⟩:=I.ok.has x (.inl hk)
  obtain⟨w',z⟩:=I.cell x c hc
  refine wpAny_storeName_cell I.ok.kind hk hc z (λh' hc' hs=>?_)
  obtain⟨oc,hoc,Lc⟩:=id z
  refine h { s with heap:=h' } ⟨I.ok,I.os,I.bare,⟨λb o e n hb hx=>?_,λb o e n hb hx=>?_,I.base.free,λb o e hx=>?_,I.base.tups,I.base.oT,I.base.pR⟩,⟨m,hn.sameBut hs (ax (JM x c hc)),λj y v' e1 e2 e3=>?_⟩,λy c' e=>?_,I.free,I.lB,λp hp=>?_,tracked ⟨oc,hoc,I.lB x c hc⟩ hs,by simpa using I.len⟩ ⟨c,hs,.inr hc⟩
  ·exact(hs.2 b (aR (a9 (aF e) (I.ok.O' x c hfn hc)))).trans (I.base.keep b o e n hb hx)
  ·obtain⟨sl,e1⟩:=I.base.slot b o e n hb hx
   exact⟨sl,(hs.2 b (aR (a9 (aF e) (I.ok.O' x c hfn hc)))).trans e1⟩
  ·obtain⟨o',e1⟩:=I.base.there b o e hx
   exact⟨o',(hs.2 b (aR (a9 (aF e) (I.ok.O' x c hfn hc)))).trans e1⟩
  ·by_cases hj:j=i
   ·subst hj
    rw[hi] at e1;cases e1
    rw[pS Pd] at e2
    cases e2
    exact⟨u,r,.inr ⟨.inl hk,c,hc,hc'⟩⟩
   ·rw[jR (ax hj)] at e2
    obtain⟨u',r',q⟩:=hl j y v' e1 e2 e3
    refine⟨u',r',?_⟩
    rcases q with q | ⟨k,c',e,z'⟩
    ·exact .inl q
    ·refine .inr ⟨k,c',e,z'.sameBut hs ?_⟩
     rintro rfl
     exact hj (vp hN e1 (I.ok.inj _ _ _ e hc ▸ hi))
  ·by_cases hcc:c'=c
   ·subst hcc;exact⟨_,hc'⟩
   ·obtain⟨w2,z2⟩:=I.cell y c' e
    exact⟨w2,z2.sameBut hs hcc⟩
  ·obtain⟨e,n,ne,nf,d⟩:=I.pin p hp
   refine⟨(hs.2 p.1 ?_).trans e,n,ne,nf,d⟩
   intro q
   rw[q,hoc] at e
   have q':oc=p.2:=Option.some.inj e
   exact d w' (by rw[<-q'];exact Lc)
theorem pT{M:Model}{A:ac6}{E:adb->ada->Prop}{i:Nat}{x:Str}{v:V}{u:adb}{Q:Unit->ada->Prop}(I:Inv X pins σ H s)(hN:X.N.Nodup)(hi:X.N[i]? =some x)(hx:Loc X.env.scope x)(r:RelV v u)
  (h:∀s',Inv X pins (σ.set i (some v)) H s'->Q () s')(hf:X.fn x=true\/X.env.scope.names.lookup x=some .local:=by first | exact .inl rfl | exact .inr rfl | assumption):adq M A (storeName X.env x u) Q E s :=
 nD I hN hi hx r (λs' I' _=>h s' I') hf
theorem Inv.sk{s':ada}{ch:List ac5}(I:Inv X pins σ H s)(ho:s'.os=s.os)(u:Un (frs X.stack) ch H H' s.heap s'.heap)(hok:jQ X.prog X.w H' s'.heap)(hg:AllBare s'.gens)
  (hch:∀b∈ch,(b∈X.ex\/X.s₀.heap.objs.size<=b)/\b≠X.env.locals/\(∀x c,X.env.cells.lookup x=some c->c≠b)/\∀p∈X.pn++pins,p.1≠b):Inv X pins σ H' s':=by
 obtain⟨h',g',d',t',o'⟩:=s'
 have e:o'=s.os:=ho
 subst e
 exact I.call (g':=g') (t':=t') (d':=d') u hok hg hch
end
abbrev XK:=adb->Option ac5->Hp->Prop
abbrev St:=List (Option V)
abbrev VK:=V->Hp->Prop
abbrev TE:=St->Hp->VK->Prop
abbrev TT:=St->Hp->(Bool->Hp->Prop)->Prop
abbrev TA:=St->Hp->(List V->Hp->Prop)->Prop
structure Ends where
 nx:St->Hp->Prop
 rt:VK
 bk:St->Hp->Prop:=λ_ _=>False
 ct:St->Hp->Prop:=λ_ _=>False
abbrev TS:=Ends->St->Hp->Prop
def EP(X:Cx)(pins:List (ac5×Obj))(σ:St)(Q:VK)(u:adb)(s':ada):Prop:=∃v H',Inv X pins σ H' s'/\RelV v u/\Q v H'
def TP(X:Cx)(pins:List (ac5×Obj))(σ:St)(Q:Bool->Hp->Prop)(b:Bool)(s':ada):Prop:=∃H',Inv X pins σ H' s'/\Q b H'
def AP(X:Cx)(pins:List (ac5×Obj))(σ:St)(Q:List V->Hp->Prop)(us:List adb)(s':ada):Prop:=∃vs H',Inv X pins σ H' s'/\Vals vs us/\Q vs H'
def SP(X:Cx)(pins:List (ac5×Obj))(D:Ends)(f:Flow)(s':ada):Prop :=
 match f with
 | .next=>∃σ' H',Inv X pins σ' H' s'/\D.nx σ' H'
 | .brk=>∃σ' H',Inv X pins σ' H' s'/\D.bk σ' H'
 | .cont=>∃σ' H',Inv X pins σ' H' s'/\D.ct σ' H'
 | .ret u=>∃v σ' H',Inv X pins σ' H' s'/\RelV v u/\D.rt v H'
def PE(X:Cx)(e:Expr)(t:TE):Prop :=
 ∀(pins:List (ac5×Obj))(s:ada)(σ:St)(H:Hp)(Q:VK),Inv X pins σ H s->t σ H Q->adq (model X.prog X.w) X.A (eval e X.env) (EP X pins σ Q) X.xe s
def PT(X:Cx)(e:Expr)(t:TT):Prop :=
 ∀(pins:List (ac5×Obj))(s:ada)(σ:St)(H:Hp)(Q:Bool->Hp->Prop),Inv X pins σ H s->t σ H Q->adq (model X.prog X.w) X.A (isTrue e X.env (eval e X.env)) (TP X pins σ Q) X.xe s
def PW(X:Cx)(e:Expr)(t:TT):Prop :=
 ∀(whole:Sem adb)(pins:List (ac5×Obj))(s:ada)(σ:St)(H:Hp)(Q:Bool->Hp->Prop),Inv X pins σ H s->t σ H Q->adq (model X.prog X.w) X.A (isTrue e X.env whole) (TP X pins σ Q) X.xe s
def PA(X:Cx)(es:List Expr)(t:TA):Prop :=
 ∀(pos:Pos)(pins:List (ac5×Obj))(s:ada)(σ:St)(H:Hp)(Q:List V->Hp->Prop),Inv X pins σ H s->t σ H Q->adq (model X.prog X.w) X.A (spliced (backTo pos (adp es X.env))) (AP X pins σ Q) X.xe s
def PS(X:Cx)(st:Stmt)(t:TS):Prop :=
 ∀(pins:List (ac5×Obj))(s:ada)(σ:St)(H:Hp)(D:Ends),Inv X pins σ H s->t D σ H->adq (model X.prog X.w) X.A (exec st X.env) (SP X pins D) X.xe s
def Cg(X:Cx)(st:List Stmt)(t:TS):Prop :=
 ∀(pins:List (ac5×Obj))(s:ada)(σ:St)(H:Hp)(D:Ends),Inv X pins σ H s->t D σ H->adq (model X.prog X.w) X.A (execs st X.env) (SP X pins D) X.xe s
theorem bo{α:Type}{t:Sem α}{Q Q':α->ada->Prop}{M:Model}{A:ac6}{E:adb->ada->Prop}{s:ada}(h:adq M A t Q E s)(hQ:∀a s,Q a s->Q' a s):adq M A t Q' E s:=adv h hQ λ_ _ x=>x
section
variable {X:Cx}
def T5(i:Nat):TE:=λσ H Q=>∃v,σ[i]? =some (some v)/\Q v H
def tC(v:V):TE:=λ_ H Q=>Q v H
theorem Ci{i:Nat}{x:Str}{pos:Pos}(hN:X.N[i]? =some x)(hv:ON X.env.scope x)(hd:(x == ("__debug__":Str))=false:=by decide)(hcd:(x == ("__classdict__":Str))=false:=by decide):PE X (.Name x pos) (T5 i):=by
 intro pins s σ H Q I h
 obtain⟨v,e,h⟩:=h
 obtain⟨m,hn,hl⟩:=I.loc
 obtain⟨u,r,l⟩:=hl i x v hN e hv
 have fin:EP X pins σ Q u s:=⟨v,H,I,r,h⟩
 rcases l with ⟨hk,hm⟩ | ⟨hk,c,hc,hcell⟩
 ·exact wpAny_Name (wpAny_loadName_local I.ok.kind hk hn hm fin) hd
 ·rcases hk with hk | hk
  ·exact wpAny_Name (wpAny_loadName_cell I.ok.kind hk hc hcell fin) hd
  ·exact wpAny_Name (wpAny_loadName_free I.ok.kind hk hc hcell fin hcd) hd
theorem Ld{i j pos}:PE X (.Constant (.int i) j pos) (tC (.int i)):=λ_ _ _ H _ I h=>wpAny_Constant_int ⟨.int i,H,I.tok _,⟨_,rfl⟩,h⟩
theorem Pe{b j pos}:PE X (.Constant (.bool b) j pos) (tC (.bl b)):=λ_ _ _ H _ I h=>Constant_bool ⟨.bl b,H,I,rfl,h⟩
theorem Le{j pos}:PE X (.Constant .none j pos) (tC .bz):=λ_ _ _ H _ I h=>Constant_none ⟨.bz,H,I,rfl,h⟩
theorem Lf{x j pos}:PE X (.Constant (.str x) j pos) (tC (.str x)):=λ_ _ _ H _ I h=>Calls.Constant_str ⟨.str x,H,I.tok _,⟨_,rfl⟩,h⟩
def Gl(X:Cx)(x:Str):Prop:=X.env.kindOf x=some .globalImplicit
theorem pv{E:adb->ada->Prop}{pins:List (ac5×Obj)}{s:ada}{σ:St}{H:Hp}{x:Str}{u:adb}{pos:Pos}{Q:adb->ada->Prop}(I:Inv X pins σ H s)(hg:Gl X x)(hm:X.mg x=some u)(h:Q u s)
  (hd:(x == ("__debug__":Str))=false:=by decide):adq (model X.prog X.w) X.A (eval (.Name x pos) X.env) Q E s :=
 Lg I.ok.kind hg (Calls.loadGlobal_global (by rw[I.ok.glob];exact I.mod.glob.keeps I.bk) hm h) hd
theorem jS{E:adb->ada->Prop}{pins:List (ac5×Obj)}{s:ada}{σ:St}{H:Hp}{x:Str}{u:adb}{pos:Pos}{Q:adb->ada->Prop}(I:Inv X pins σ H s)(hg:Gl X x)(hm:X.mg x=none)(hv:adh x=some u)(h:Q u s)
  (hn:x≠"__name__":=by decide)(hd:(x == ("__debug__":Str))=false:=by decide):adq (model X.prog X.w) X.A (eval (.Name x pos) X.env) Q E s:=by
 obtain⟨mb,h1,h2⟩:=I.mod.blt
 exact Lg I.ok.kind hg (Calls.loadGlobal_builtin (by rw[I.ok.glob];exact I.mod.glob.keeps I.bk) hm (by rw[I.ok.blt];exact h1.keeps I.bk) ((h2 x hn).trans hv) h) hd
theorem i7{x:Str}{v:V}{u:adb}{pos:Pos}(hg:Gl X x)(hm:X.mg x=some u)(r:RelV v u)(hd:(x == ("__debug__":Str))=false:=by decide):PE X (.Name x pos) (tC v) :=
 λ_ _ _ H _ I h=>pv I hg hm ⟨v,H,I,r,h⟩ hd
theorem GU{x:Str}{v:V}{u:adb}{pos:Pos}(hg:Gl X x)(hm:X.mg x=none)(hv:adh x=some u)(r:RelV v u)(hn:x≠"__name__":=by decide)(hd:(x == ("__debug__":Str))=false:=by decide):PE X (.Name x pos) (tC v) :=
 λ_ _ _ H _ I h=>jS I hg hm hv ⟨v,H,I,r,h⟩ hn hd
variable {a b:Expr} {ta tb:TE} {pos:Pos}
variable {tA Sk:TT} {rest:List Expr}
def T6(t u:TT):TT:=λσ H Q=>t σ H λc H1=>if c=true then u σ H1 Q else Q false H1
def Zw(t u:TT):TT:=λσ H Q=>t σ H λc H1=>if c=true then Q true H1 else u σ H1 Q
def T7(t:TT):TT:=λσ H Q=>t σ H λc H1=>Q (!c) H1
theorem GV(ha:PT X a tA):PW X (.BoolOp .And [a] pos) tA:=by
 intro wh pins s σ H Q I h
 refine isTrue_and (bo (ha pins s σ H Q I h) λc s1 e=>?_)
 cases c with
 | true=>exact isTrue_and_nil e
 | false=>exact e
theorem Lh(ha:PT X a tA):PW X (.BoolOp .Or [a] pos) tA:=by
 intro wh pins s σ H Q I h
 refine isTrue_or (bo (ha pins s σ H Q I h) λc s1 e=>?_)
 cases c with
 | false=>exact isTrue_or_nil e
 | true=>exact e
theorem Li(ha:PT X a tA)(hb:PW X (.BoolOp .And (b::rest) pos) Sk):PW X (.BoolOp .And (a::b::rest) pos) (T6 tA Sk):=by
 intro wh pins s σ H Q I h
 refine isTrue_and (bo (ha pins s σ H _ I h) λc s1 ⟨H1,I1,q1⟩=>?_)
 cases c with
 | true=>exact hb wh pins s1 σ H1 Q I1 q1
 | false=>exact⟨H1,I1,q1⟩
theorem Pf(ha:PT X a tA)(hb:PW X (.BoolOp .Or (b::rest) pos) Sk):PW X (.BoolOp .Or (a::b::rest) pos) (Zw tA Sk):=by
 intro wh pins s σ H Q I h
 refine isTrue_or (bo (ha pins s σ H _ I h) λc s1 ⟨H1,I1,q1⟩=>?_)
 cases c with
 | true=>exact⟨H1,I1,q1⟩
 | false=>exact hb wh pins s1 σ H1 Q I1 q1
theorem Lj(ha:PT X a tA):PT X (.UnaryOp .Not a pos) (T7 tA):=by
 intro pins s σ H Q I h
 exact isTrue_not (ha pins s σ H (λc H1=>Q (!c) H1) I h)
def Pg(ta tb:TE):TE:=λσ H Q=>ta σ H λx H1=>∃c,x= .bl c/\if c=true then tb σ H1 Q else Q (.bl false) H1
def T8(ta tb:TE):TE:=λσ H Q=>ta σ H λx H1=>∃c,x= .bl c/\if c=true then Q (.bl true) H1 else tb σ H1 Q
def Ph(ta:TE):TE:=λσ H Q=>ta σ H λx H1=>∃c,x= .bl c/\Q (.bl (!c)) H1
theorem Lk{op}{t:TE}(h:PE X a t):PE X (.BoolOp op [a] pos) t:=λpins s σ H Q I hw=>BoolOp_one (h pins s σ H Q I hw)
theorem Ll(ha:PE X a ta)(hb:PE X (.BoolOp .And (b::rest) pos) tb):PE X (.BoolOp .And (a::b::rest) pos) (Pg ta tb):=by
 intro pins s σ H Q I h
 refine BoolOp_and (bo (ha pins s σ H _ I h) λv s1 ⟨x,H1,I1,r1,q1⟩=>?_)
 obtain⟨c,rfl,q1⟩:=q1
 cases r1
 refine adz ?_
 cases c with
 | true=>exact hb pins s1 σ H1 Q I1 q1
 | false=>exact⟨.bl false,H1,I1,rfl,q1⟩
theorem Pj(ha:PE X a ta)(hb:PE X (.BoolOp .Or (b::rest) pos) tb):PE X (.BoolOp .Or (a::b::rest) pos) (T8 ta tb):=by
 intro pins s σ H Q I h
 refine BoolOp_or (bo (ha pins s σ H _ I h) λv s1 ⟨x,H1,I1,r1,q1⟩=>?_)
 obtain⟨c,rfl,q1⟩:=q1
 cases r1
 refine adz ?_
 cases c with
 | false=>exact hb pins s1 σ H1 Q I1 q1
 | true=>exact⟨.bl true,H1,I1,rfl,q1⟩
theorem Ln(ha:PE X a ta):PE X (.UnaryOp .Not a pos) (Ph ta):=by
 intro pins s σ H Q I h
 refine UnaryOp_ (bo (ha pins s σ H _ I h) λv s1 ⟨x,H1,I1,r1,q1⟩=>?_)
 obtain⟨c,rfl,q1⟩:=q1
 cases r1
 exact not_of (adz ⟨.bl (!c),H1,I1,rfl,q1⟩)
def Zx(t:TT)(ta tb:TE):TE:=λσ H Q=>t σ H λc H1=>if c=true then ta σ H1 Q else tb σ H1 Q
theorem Cj{c:Expr}(hc:PT X c tA)(ha:PE X a ta)(hb:PE X b tb):PE X (.IfExp c a b pos) (Zx tA ta tb):=by
 intro pins s σ H Q I h
 refine wpAny_IfExp (bo (hc pins s σ H _ I h) λd s1 ⟨H1,I1,q1⟩=>?_)
 cases d with
 | true=>exact ha pins s1 σ H1 Q I1 q1
 | false=>exact hb pins s1 σ H1 Q I1 q1
end
def jN(K:PySem.W.Frag)(H:Hp)(a:ac5)(xs:List V):Prop :=
 Rd H a (.lst xs)\/
  ∃(o:Obj)(its:Array adb)(n:Nat),K.lookup a=some o/\o.cls= .type "list"/\o.dict=none/\o.data= .seq its n/\its.size<=ado/\Vals xs its.toList
def eJ(K:PySem.W.Frag)(H:Hp)(a:ac5)(xs:List V):Prop :=
 Rd H a (.tup xs)\/
  ∃(o:Obj)(its:Array adb)(n:Nat),K.lookup a=some o/\o.cls= .type "tuple"/\o.data= .seq its n/\its.size<=ado/\Vals xs its.toList
def T9:adb->Option V
 | .none=>some .bz
 | .bool b=>some (.bl b)
 | .int i _=>some (.int i)
 | .str x _=>some (.str x)
 | .bytes b _=>some (.OL b)
 | .float b _=>some (.Sh b)
 | .ref a=>some (.ref a)
 | .type n=>some (.ty n)
 | _=>none
theorem RelV.abs{x:V}{u:adb}(r:RelV x u):T9 u=some x:=by
 cases x with
 | bz=>cases r;rfl
 | bl _=>cases r;rfl
 | int _=>obtain⟨t,rfl⟩:=r;rfl
 | str _=>obtain⟨t,rfl⟩:=r;rfl
 | OL _=>obtain⟨t,rfl⟩:=r;rfl
 | Sh _=>obtain⟨t,rfl⟩:=r;rfl
 | ref _=>cases r;rfl
 | ty _=>cases r;rfl
theorem RelV.inj{x y:V}{u:adb}(r:RelV x u)(q:RelV y u):x=y:=Option.some.inj (r.abs.symm.trans q.abs)
theorem Vals.inj:∀{xs ys:List V}{us:List adb},Vals xs us->Vals ys us->xs=ys
 | _,_,_,.nil,.nil=>rfl
 | _,_,_,.cons r t,.cons r' t'=>by rw[r.inj r',Vals.inj t t']
section
variable {X:Cx} {pins:List (ac5×Obj)} {σ:St} {H:Hp} {s:ada} {a:ac5} {xs ys:List V}
theorem jN.of{K:PySem.W.Frag}(h:H a=some (.lst xs)):jN K H a xs:=.inl (.inl h)
theorem eJ.of{K:PySem.W.Frag}(h:H a=some (.tup xs)):eJ K H a xs:=.inl (.inl h)
theorem Inv.list(I:Inv X pins σ H s)(h:jN X.K H a xs):∃its:List adb,Vals xs its/\PlainL s.heap a its.toArray/\xs.length<=ado:=by
 rcases h with h | ⟨o,its,n,hk,hc,hd,hs,hz,r⟩
 ·obtain⟨z,its,n,r,e⟩:=h.ok I.hok
  exact⟨its,r,⟨_,n,e,rfl,rfl,rfl⟩,z⟩
 ·refine⟨its.toList,r,⟨o,n,I.w_ a o hk,hc,hd,by simpa using hs⟩,?_⟩
  have e:=r.length
  simp only[Ck] at e
  omega
theorem Inv.tuple(I:Inv X pins σ H s)(h:eJ X.K H a xs):∃its:List adb,Vals xs its/\IsTup s.heap a its.toArray/\xs.length<=ado:=by
 rcases h with h | ⟨o,its,n,hk,hc,hs,hz,r⟩
 ·obtain⟨z,its,r,p,_⟩:=h.ok I.hok
  exact⟨its,r,p,z⟩
 ·refine⟨its.toList,r,⟨o,I.w_ a o hk,hc,n,by simpa using hs⟩,?_⟩
  have e:=r.length
  simp only[Ck] at e
  omega
theorem Inv.pU(I:Inv X pins σ H s)(h:jN X.K H a xs)(h':jN X.K H a ys):xs=ys:=by
 obtain⟨its,r,⟨o,n,e,_,_,d⟩,_⟩:=I.list h
 obtain⟨its',r',⟨o',n',e',_,_,d'⟩,_⟩:=I.list h'
 rw[e] at e';cases e'
 rw[d] at d'
 injection d' with d1 _
 have:its=its':=by simpa using congrArg Array.toList d1
 subst this
 exact r.inj r'
theorem Inv.AO(I:Inv X pins σ H s)(h:eJ X.K H a xs)(h':eJ X.K H a ys):xs=ys:=by
 obtain⟨its,r,⟨o,e,_,n,d⟩,_⟩:=I.tuple h
 obtain⟨its',r',⟨o',e',_,n',d'⟩,_⟩:=I.tuple h'
 rw[e] at e';cases e'
 rw[d] at d'
 injection d' with d1 _
 have:its=its':=by simpa using congrArg Array.toList d1
 subst this
 exact r.inj r'
end
abbrev Cx.T_(X:Cx)(E:adb->ada->Prop):Cx:={ X with xe:=E }
abbrev Cx.ny(X:Cx):Cx:=X.T_ λ_ _=>False
section
variable {X:Cx} {pins:List (ac5×Obj)} {σ:St} {H:Hp} {s:ada} {E:adb->ada->Prop}
end
section
variable {X:Cx} {st:Stmt} {rest:List Stmt} {t u:TS} {e:Expr} {te:TE} {pos:Pos}
def JN:TS:=λD σ H=>D.nx σ H
def Ua(t u:TS):TS:=λD σ H=>t { D with nx:=u D } σ H
theorem GW:Cg X [] JN:=λ_ _ σ H _ I h=>wpAny_execs_nil ⟨σ,H,I,h⟩
theorem Cm(h1:PS X st t)(h2:Cg X rest u):Cg X (st::rest) (Ua t u):=by
 intro pins s σ H D I h
 refine wpAny_execs_cons (bo (h1 pins s σ H { D with nx:=u D } I h) λf s1 q=>?_)
 cases f with
 | next=>
  obtain⟨σ',H',I',q⟩:=q
  exact h2 pins s1 σ' H' D I' q
 | ret v=>exact q
 | brk=>exact q
 | cont=>exact q
theorem GX(h1:PS X st t):Cg X [st] t:=by
 intro pins s σ H D I h
 refine wpAny_execs_cons (bo (h1 pins s σ H D I h) λf s1 q=>?_)
 cases f with
 | next=>exact wpAny_execs_nil q
 | ret v=>exact q
 | brk=>exact q
 | cont=>exact q
theorem GY:PS X (.Pass pos) JN:=λ_ _ σ H _ I h=>wpAny_Pass ⟨σ,H,I,h⟩
theorem Inv.quiet{pins:List (ac5×Obj)}{σ:St}{H:Hp}{s:ada}(I:Inv X pins σ H s):interactive X.env=false:=by simp[interactive,I.ok.kind]
def Pk(te:TE):TS:=λD σ H=>te σ H λ_ H1=>D.nx σ H1
theorem GZ(he:PE X e te)(hs:swapsWith e none pos.line X.env=pure false:=by rfl):PS X (.Expr e pos) (Pk te):=by
 intro pins s σ H D I h
 exact wpAny_Expr_any (bo (he pins s σ H _ I h) λv s1 ⟨x,H1,I1,r1,q1⟩=>⟨σ,H1,I1,q1⟩) I.quiet hs
def Ub(te:TE):TS:=λD σ H=>te σ H D.rt
theorem Lp(he:PE X e te):PS X (.Return (some e) pos) (Ub te):=by
 intro pins s σ H D I h
 exact wpAny_Return_some (bo (he pins s σ H _ I h) λv s1 ⟨x,H1,I1,r1,q1⟩=>⟨x,σ,H1,I1,r1,q1⟩)
def Pl:TS:=λD _ H=>D.rt .bz H
theorem G0:PS X (.Return none pos) Pl:=λ_ _ σ H _ I h=>wpAny_Return_none ⟨.bz,σ,H,I,rfl,h⟩
def Uc(c:TT)(t u:TS):TS:=λD σ H=>c σ H λb H1=>if b=true then t D σ H1 else u D σ H1
theorem Pn{c:Expr}{a b:List Stmt}{tc:TT}(hc:PT X c tc)(ha:Cg X a t)(hb:Cg X b u):PS X (.If c a b pos) (Uc tc t u):=by
 intro pins s σ H D I h
 refine wpAny_If (bo (hc pins s σ H _ I h) λd s1 ⟨H1,I1,q1⟩=>?_)
 cases d with
 | true=>exact ha pins s1 σ H1 D I1 q1
 | false=>exact hb pins s1 σ H1 D I1 q1
def Cq:TS:=λ_ _ _=>False
theorem Cr:PS X st Cq:=λ_ _ _ _ _ _ h=>h.elim
theorem AQ{sts:List Stmt}:Cg X sts Cq:=λ_ _ _ _ _ _ h=>h.elim
end
abbrev TG:=V->St->Hp->(St->Hp->Prop)->Prop
abbrev JP:=List V->St->Hp->(St->Hp->Prop)->Prop
def PG(X:Cx)(target:Expr)(t:TG):Prop :=
 ∀(pins:List (ac5×Obj))(s:ada)(σ:St)(H:Hp)(v:V)(u:adb)(Q:St->Hp->Prop),Inv X pins σ H s->RelV v u->t v σ H Q->
  adq (model X.prog X.w) X.A (assign target X.env u) (λ_ s'=>∃σ' H',Inv X pins σ' H' s'/\Q σ' H') X.xe s
def Po(X:Cx)(ts:List Expr)(t:JP):Prop :=
 ∀(pins:List (ac5×Obj))(s:ada)(σ:St)(H:Hp)(vs:List V)(us:List adb)(Q:St->Hp->Prop),Inv X pins σ H s->Vals vs us->t vs σ H Q->
  adq (model X.prog X.w) X.A (assignInOrder ((assignEach ts X.env).map (·.2)) us) (λ_ s'=>∃σ' H',Inv X pins σ' H' s'/\Q σ' H') X.xe s
abbrev Lq:=V->V->V->Hp->(Hp->Prop)->Prop
def Pp(X:Cx)(t:Lq):Prop :=
 ∀(pins:List (ac5×Obj))(s:ada)(σ:St)(H:Hp)(o i v:V)(ov iv u:adb)(Q:Hp->Prop),Inv X pins σ H s->RelV o ov->RelV i iv->RelV v u->t o i v H Q->
  adq (model X.prog X.w) X.A (setItem ov iv u) (λ_ s'=>∃H',Inv X pins σ H' s'/\Q H') X.xe s
section
variable {X:Cx} {pos:Pos}
def vq(i:Nat):TG:=λv σ H Q=>Q (σ.set i (some v)) H
theorem mr{i:Nat}{x:Str}(hN:X.N.Nodup)(hi:X.N[i]? =some x)(hx:Loc X.env.scope x)(hf:X.fn x=true\/X.env.scope.names.lookup x=some .local:=by first | exact .inl rfl | exact .inr rfl | assumption):PG X (.Name x pos) (vq i):=by
 intro pins s σ H v u Q I r h
 exact wpAny_assign_Name (pT I hN hi hx r (λs' I'=>⟨_,H,I',h⟩) hf)
def aj:JP:=λvs σ H Q=>vs=[]/\Q σ H
def aa(t:TG)(u:JP):JP:=λvs σ H Q=>∃v r,vs=v::r/\t v σ H λσ' H'=>u r σ' H' Q
theorem G5:Po X [] aj:=by
 intro pins s σ H vs us Q I r h
 obtain⟨e,h⟩:=h
 subst e
 cases r
 exact assignInOrder_nil ⟨σ,H,I,h⟩
theorem Cs{e:Expr}{es:List Expr}{t:TG}{u:JP}(h1:PG X e t)(h2:Po X es u)
  (hs:(assignEach (e::es) X.env).map (·.2)=assign e X.env::(assignEach es X.env).map (·.2):=by rfl):Po X (e::es) (aa t u):=by
 intro pins s σ H vs us Q I r h
 obtain⟨v,vr,e1,h⟩:=h
 subst e1
 cases r with
 | cons r rr=>
  rw[hs]
  refine assignInOrder_cons (bo (h1 pins s σ H _ _ _ I r h) λ_ s1 ⟨σ1,H1,I1,q1⟩=>?_)
  exact h2 pins s1 σ1 H1 _ _ Q I1 rr q1
def cA(K:PySem.W.Frag)(n:Nat)(t:JP):TG:=λv σ H Q=>∃a xs,v= .ref a/\eJ K H a xs/\xs.length=n/\t xs σ H Q
theorem tM{es:List Expr}{k:Nat}{t:JP}{n:Nat}(hc:X.calm=true)(h:Po X es t)
  (hn:(assignEach es X.env).length=n:=by rfl)(hst:(assignEach es X.env).findIdx? (·.1)=none:=by rfl):PG X (.Tuple es k pos) (cA X.K n t):=by
 intro pins s σ H v u Q I r hw
 obtain⟨a,xs,e1,hq,hl,hw⟩:=hw
 subst e1
 cases r
 obtain⟨its,rv,ht,hz⟩:=I.tuple hq
 refine assign_Tuple_tuple (I.ok.hd hc) ht (by simp[hn,<-hl,rv.length]) hst λh' hx=>?_
 have I1:Inv X pins σ H { s with heap:=h' }:=I.kept (t':=s.toks) λb o e=>hx b o (aR (aF e)) e
 exact h pins _ σ H xs _ Q I1 (by simpa using rv) hw
def Ud(to ti:TE)(t:Lq):TG:=λv σ H Q=>to σ H λo H1=>ti σ H1 λi H2=>t o i v H2 λH3=>Q σ H3
theorem Lr{o i:Expr}{to ti:TE}{t:Lq}(ho:PE X o to)(hi:PE X i ti)(hs:Pp X t)
  (ha:∀v,assign (.Subscript o i pos) X.env v=(do
   let ov <-holding [v] (eval o X.env)
   let iv <-holding [v,ov] (eval i X.env)
   standAt pos
   holding [v,ov,iv] (setItem ov iv v)
   release [v,ov,iv] []):=by intro _;rfl):PG X (.Subscript o i pos) (Ud to ti t):=by
 intro pins s σ H v u Q I r h
 rw[ha]
 refine ads (adu (bo (ho pins s σ H _ I h) λov s1 ⟨x,H1,I1,r1,q1⟩=>?_))
 refine ads (adu (bo (hi pins s1 σ H1 _ I1 q1) λiv s2 ⟨y,H2,I2,r2,q2⟩=>?_))
 refine ads (wpAny_standAt (ads (adu (bo (hs pins s2 σ H2 x y v ov iv u _ I2 r1 r2 r q2) λ_ s3 ⟨H3,I3,q3⟩=>?_))))
 exact wpAny_release ⟨σ,H3,I3,q3⟩
def Pq(te:TE)(g:TG):TS:=λD σ H=>te σ H λx H1=>g x σ H1 D.nx
theorem Ls{tg e:Expr}{te:TE}{g:TG}(he:PE X e te)(hg:PG X tg g)(hs:swapsWithSole [tg] e pos.line X.env=pure false:=by rfl)(hw:swappedStores [tg] e X.env=pure none:=by rfl)
  (h1:(assignEach [tg] X.env).map (·.2)=[assign tg X.env]:=by rfl):PS X (.Assign [tg] e pos) (Pq te g):=by
 intro pins s σ H D I h
 refine wpAny_Assign_stores (bo (he pins s σ H _ I h) λv s1 ⟨x,H1,I1,r1,q1⟩=>?_) hs hw
 rw[h1]
 exact bo (hg pins s1 σ H1 x v _ I1 r1 q1) λ_ s2 q=>q
theorem Lu{i:Nat}{x:Str}{e:Expr}{te:TE}{pos':Pos}(hN:X.N.Nodup)(hi:X.N[i]? =some x)(hx:Loc X.env.scope x)(he:PE X e te)(hs:swapsWith e (some (.Name x pos')) pos.line X.env=pure false:=by rfl)(hf:X.fn x=true\/X.env.scope.names.lookup x=some .local:=by first | exact .inl rfl | exact .inr rfl | assumption) :
  PS X (.Assign [.Name x pos'] e pos) (Pq te (vq i)):=by
 intro pins s σ H D I h
 refine wpAny_Assign_Name (bo (he pins s σ H _ I h) λv s1 ⟨y,H1,I1,r1,q1⟩=>?_) hs
 exact pT I1 hN hi hx r1 (λs2 I2=>⟨_,H1,I2,q1⟩) hf
end
section
variable {X:Cx} {pos:Pos}
end
structure It where
 go:Nat->Hp->Prop
 vh:Nat->Hp->V->Hp->Prop
 stop:Nat->Hp->Prop
def eK(X:Cx)(pins:List (ac5×Obj))(H:Hp)(b:ac5):Prop :=
 H b=none/\b≠X.env.locals/\b∉X.fs/\(b∈X.ex\/X.s₀.heap.objs.size<=b)/\(∀x c,X.env.cells.lookup x=some c->c≠b)/\∀p∈X.pn++pins,p.1≠b
theorem Inv.tN{X:Cx}{pins:List (ac5×Obj)}{σ:St}{H H':Hp}{s:ada}{b:ac5}(I:Inv X pins σ H s)(hb:s.heap.objs.size<=b)(hn:H' b=none):eK X pins H' b:=by
 refine⟨hn,kJ (a9 I.lt hb),I.Pb hb,.inr (bp I.sz hb),λx c e z=>?_,λp hp z=>?_⟩
 ·obtain⟨v,q⟩:=I.cell x c e
  exact absurd (a9 q.lt (by rw[z];exact hb)) (dn _)
 ·exact absurd (a9 (aF (I.pin p hp).1) (by rw[z];exact hb)) (dn _)
structure Turn(P:ac9)(w:ade)(K:PySem.W.Frag)(tg:Expr)(J:It)(fp:List ac5)(it:ac5)(tn:Nat->Heap->Prop):Prop where
 mem:it∈fp
 obj:∀i h,tn i h->∀b∈fp,∃o,h.get? b=some o/\∀v,o.data≠.cell v
 keep:∀i h h',tn i h->(∀b∈fp,∀o,h.get? b=some o->h'.get? b=some o)->tn i h'
 item:∀(X:Cx),X.prog=P->X.w=w->X.K=K->X.calm=true->∀(i:Nat)(pins:List (ac5×Obj))(s:ada)(σ:St)(H:Hp)(E:adb->ada->Prop),Inv X pins σ H s->(∀b∈fp,eK X pins H b)->tn i s.heap->J.go i H->
  adq (model P w) X.A (pyNext (.ref it)) (λr s1=>∃u,r=some u/\
   adq (model P w) X.A (letOwnedTupleGo tg (.ref it) u) (λ_ s2=>∃x H',Inv X pins σ H' s2/\RelV x u/\J.vh i H x H'/\tn (i+1) s2.heap/\∀b∈fp,H' b=none) E s1) E s
 done:∀(X:Cx),X.prog=P->X.w=w->X.K=K->X.calm=true->∀(i:Nat)(pins:List (ac5×Obj))(s:ada)(σ:St)(H:Hp)(E:adb->ada->Prop),Inv X pins σ H s->(∀b∈fp,eK X pins H b)->tn i s.heap->J.stop i H->
  adq (model P w) X.A (pyNext (.ref it)) (λr s1=>r=none/\Inv X pins σ H s1) E s
 self:∀(A:ac6)(i:Nat)(s:ada)(Q:adb->ada->Prop)(E:adb->ada->Prop),tn i s.heap->Q (.ref it) s->adq (model P w) A (pyIter (.ref it)) Q E s
abbrev TI:=St->Hp->(It->Hp->Prop)->Prop
def Xx(X:Cx)(pins:List (ac5×Obj))(σ:St)(tg:Expr)(R:It->Hp->Prop)(itv:adb)(s2:ada):Prop :=
 ∃(it:ac5)(fp:List ac5)(tn:Nat->Heap->Prop)(J:It)(H':Hp),itv= .ref it/\Inv X pins σ H' s2/\Turn X.prog X.w X.K tg J fp it tn/\tn 0 s2.heap/\(∀b∈fp,eK X pins H' b)/\R J H'
def PI(X:Cx)(tg iter:Expr)(wi:TI):Prop :=
 ∀(pins:List (ac5×Obj))(s:ada)(σ:St)(H:Hp)(R:It->Hp->Prop),Inv X pins σ H s->wi σ H R->
  adq (model X.prog X.w) X.A (eval iter X.env) (λv s1=>adq (model X.prog X.w) X.A (pyIter v) (Xx X pins σ tg R) X.xe s1) X.xe s
theorem sr{M:Model}{A:ac6}{E:adb->ada->Prop}{s:ada}{tg:Expr}{it:ac5}{u:adb}{o:Obj}{n:String}{vs:Array adb}{Q:Unit->ada->Prop}(ho:s.heap.get? it=some o)(hc:o.cls= .type n)(hd:o.data= .fields vs)
    (hn:["enumerate","zip","dict_itemiterator","dict_reverseitemiterator","odict_iterator","itertools.zip_longest","itertools.pairwise"].contains n=false)(hQ:Q () s):adq M A (letOwnedTupleGo tg (.ref it) u) Q E s:=by
  unfold letOwnedTupleGo
  cases tg<;>first
    | exact ady hQ
    | (cases u<;>first
        | exact ady hQ
        | (refine ads (wpAny_load ho ?_)
           rw[hc,hd]
           show adq M A (if(["enumerate","zip","dict_itemiterator","dict_reverseitemiterator","odict_iterator","itertools.zip_longest","itertools.pairwise"].contains n&&vs[0]? == some (rawInt _))=true then _ else _) Q E s
           rw[if_neg (by intro h;rw[hn,yP] at h;cases h)]
           exact ady hQ))
def Ue(K:PySem.W.Frag)(a:ac5):It :=
 ⟨λi H=>∃xs x,jN K H a xs/\xs[i]? =some x,λi H x H'=>H'=H/\∀xs,jN K H a xs->xs[i]? =some x,λi H=>∃xs,jN K H a xs/\xs.length<=i⟩
def Xy(K:PySem.W.Frag)(a:ac5):It :=
 ⟨λi H=>∃xs x,eJ K H a xs/\xs[i]? =some x,λi H x H'=>H'=H/\∀xs,eJ K H a xs->xs[i]? =some x,λi H=>∃xs,eJ K H a xs/\xs.length<=i⟩
def JQ(lo:Int)(n:Nat):It:=⟨λi _=>i < n,λi H x H'=>H'=H/\x= .int (lo+i),λi _=>n<=i⟩
theorem su{P:ac9}{w:ade}{K:PySem.W.Frag}{tg:Expr}(a it:ac5):Turn P w K tg (Ue K a) [it] it (λi h=>h.IsListIter it a i) where
 mem:=by simp
 obj:=λi h st b hb=>by
  have e:b=it:=by simpa using hb
  subst e
  obtain⟨o,e,c,d⟩:=st
  exact⟨o,e,λv z=>by rw[d] at z;cases z⟩
 keep:=λi h h' st k=>st.at λo e=>k it (by simp) o e
 item:=by
  intro X hP hw hK hc i pins s σ H E I hf st hg
  subst hP hw hK
  obtain⟨xs,x,hq,hx⟩:=hg
  obtain⟨its,rv,p,hz⟩:=I.list hq
  obtain⟨u,hu,ru⟩:=rv.get hx
  obtain⟨f0,f1,f2,f3,f4,f5⟩:=hf it (by simp)
  refine wpAny_pyNext_list_item st p.isList (x:=u) (by simpa using hu) λh' st' sb=>?_
  have I1:Inv X pins σ H { s with heap:=h' }:=I.turned (t':=s.toks) (λb o hb e=>(sb.2 b hb).trans e) f0 f1 f3 f4 f5
  obtain⟨o,e,c,d⟩:=id st'
  exact⟨u,rfl,sr (s:={ s with heap:=h' }) e c d (by decide) ⟨x,H,I1,ru,⟨rfl,λys hy=>by rw[I.pU hy hq];exact hx⟩,st',λb hb=>(hf b hb).1⟩⟩
 done:=by
  intro X hP hw hK hc i pins s σ H E I hf st hg
  subst hP hw hK
  obtain⟨xs,hq,hx⟩:=hg
  obtain⟨its,rv,p,hz⟩:=I.list hq
  obtain⟨f0,f1,f2,f3,f4,f5⟩:=hf it (by simp)
  have hl:=rv.length
  exact wpAny_pyNext_list_end (I.ok.hd hc) st p.isList (by simp;omega) λh' eb=>⟨rfl,I.turned (t':=s.toks) (λb o hb e=>eb b o hb e) f0 f1 f3 f4 f5⟩
 self:=λ_ _ _ _ _ st h=>wpAny_pyIter_listiter st h
theorem xa{P:ac9}{w:ade}{K:PySem.W.Frag}{tg:Expr}(a it:ac5):Turn P w K tg (Xy K a) [it] it (λi h=>h.IsTupleIter it a i) where
 mem:=by simp
 obj:=λi h st b hb=>by
  have e:b=it:=by simpa using hb
  subst e
  obtain⟨o,e,c,d⟩:=st
  exact⟨o,e,λv z=>by rw[d] at z;cases z⟩
 keep:=λi h h' st k=>st.at λo e=>k it (by simp) o e
 item:=by
  intro X hP hw hK hc i pins s σ H E I hf st hg
  subst hP hw hK
  obtain⟨xs,x,hq,hx⟩:=hg
  obtain⟨its,rv,p,hz⟩:=I.tuple hq
  obtain⟨u,hu,ru⟩:=rv.get hx
  obtain⟨f0,f1,f2,f3,f4,f5⟩:=hf it (by simp)
  refine wpAny_pyNext_tuple_item st (show s.heap.IsTuple a its.toArray from p) (x:=u) (by simpa using hu) λh' st' sb=>?_
  have I1:Inv X pins σ H { s with heap:=h' }:=I.turned (t':=s.toks) (λb o hb e=>(sb.2 b hb).trans e) f0 f1 f3 f4 f5
  obtain⟨o,e,c,d⟩:=id st'
  exact⟨u,rfl,sr (s:={ s with heap:=h' }) e c d (by decide) ⟨x,H,I1,ru,⟨rfl,λys hy=>by rw[I.AO hy hq];exact hx⟩,st',λb hb=>(hf b hb).1⟩⟩
 done:=by
  intro X hP hw hK hc i pins s σ H E I hf st hg
  subst hP hw hK
  obtain⟨xs,hq,hx⟩:=hg
  obtain⟨its,rv,p,hz⟩:=I.tuple hq
  obtain⟨f0,f1,f2,f3,f4,f5⟩:=hf it (by simp)
  have hl:=rv.length
  exact wpAny_pyNext_tuple_end (I.ok.hd hc) st (show s.heap.IsTuple a its.toArray from p) (by simp;omega) λh' eb=>⟨rfl,I.turned (t':=s.toks) (λb o hb e=>eb b o hb e) f0 f1 f3 f4 f5⟩
 self:=λ_ _ _ _ _ st h=>wpAny_pyIter_tupleiter st h
theorem xb{P:ac9}{w:ade}{K:PySem.W.Frag}{tg:Expr}(it:ac5)(lo:Int)(n:Nat):Turn P w K tg (JQ lo n) [it] it (λi h=>IsRangeIter h it (lo+(i:Nat) * 1) ((n:Int) - (i:Nat)) 1) where
 mem:=by simp
 obj:=λi h st b hb=>by
  have e:b=it:=by simpa using hb
  subst e
  exact⟨_,st,λv z=>by
   have z':Data.fields _=Data.cell v:=z
   cases z'⟩
 keep:=λi h h' st k=>k it (by simp) _ st
 item:=by
  intro X hP hw hK hc i pins s σ H E I hf st hg
  subst hP hw hK
  obtain⟨f0,f1,f2,f3,f4,f5⟩:=hf it (by simp)
  have W:=Walks.range (prog:=X.prog) (w:=X.w) (I.ok.hd hc) it lo 1 n
  refine W.item i s _ _ hg st λv h' tk hv st' kk=>?_
  obtain⟨t,rfl⟩:=hv
  have I1:Inv X pins σ H { s with heap:=h',toks:=tk }:=I.turned (λb o hb e=>kk b o (by simpa using hb) e) f0 f1 f3 f4 f5
  refine⟨_,rfl,sr (s:={ s with heap:=h',toks:=tk }) (n:="range_iterator") st' rfl rfl (by decide) ⟨.int (lo+i),H,I1,⟨t,?_⟩,⟨rfl,rfl⟩,st',λb hb=>(hf b hb).1⟩⟩
  rw[Int.mul_one]
 done:=by
  intro X hP hw hK hc i pins s σ H E I hf st hg
  subst hP hw hK
  obtain⟨f0,f1,f2,f3,f4,f5⟩:=hf it (by simp)
  exact wpAny_pyNext_range_end (I.ok.hd hc) st (by have:n<=i:=hg;omega) λh' eb=>⟨rfl,I.turned (t':=s.toks) (λb o hb e=>eb b o hb e) f0 f1 f3 f4 f5⟩
 self:=λ_ _ _ _ _ st h=>wpAny_pyIter_rangeiter st h
section
variable {X:Cx} {tg:Expr}
def Pr(K:PySem.W.Frag)(tl:TE):TI:=λσ H R=>tl σ H λx H1=>∃a,x= .ref a/\(∃xs,jN K H1 a xs)/\R (Ue K a) H1
theorem G6{l:Expr}{tl:TE}(hl:PE X l tl):PI X tg l (Pr X.K tl):=by
 intro pins s σ H R I h
 refine bo (hl pins s σ H _ I h) λv s1 ⟨x,H1,I1,r1,q1⟩=>?_
 obtain⟨a,e,⟨xs,hq⟩,q⟩:=q1
 subst e
 cases r1
 obtain⟨its,rv,p,hz⟩:=I1.list hq
 refine wpAny_pyIter_list p.isList ?_
 refine⟨s1.heap.objs.size,[s1.heap.objs.size],_,_,H1,rfl,I1.kept (t':=s1.toks) λb o e=>aK _ e,su a _,⟨_,bB _ rfl,rfl,rfl⟩,λb hb=>?_,q⟩
 have e:b=s1.heap.objs.size:=by simpa using hb
 subst e
 exact I1.tN (aq _) (I1.hok.fresh (aq _))
theorem vt{pins:List (ac5×Obj)}{σ:St}{H:Hp}{s:ada}{R:It->Hp->Prop}{E:adb->ada->Prop}{lo hi:Int}{t u v:Tok}{tk:Nat}(I:Inv X pins σ H s)(h1:-(2 ^ 62)<=lo)(h2:lo < 2 ^ 62)(h3:-(2 ^ 62)<=hi)(h4:hi < 2 ^ 62)
  (q:R (JQ lo (hi - lo).toNat) H):adq (model X.prog X.w) X.A (pyIter (.ref s.heap.objs.size)) (Xx X pins σ tg R) E { s with heap:=s.heap.push { cls:=.type "range",data:=.fields #[.int lo t,.int hi u,.int 1 v] },toks:=tk }:=by
 refine wpAny_pyIter_range (IsRange.new ..) (small_one h1 h2 h3 h4) ?_
 have I1:Inv X pins σ H { s with heap:=s.heap.push { cls:=.type "range",data:=.fields #[.int lo t,.int hi u,.int 1 v] },toks:=tk }:=I.kept λb o e=>aK _ e
 refine⟨(s.heap.push { cls:=.type "range",data:=.fields #[.int lo t,.int hi u,.int 1 v] }).objs.size,[(s.heap.push { cls:=.type "range",data:=.fields #[.int lo t,.int hi u,.int 1 v] }).objs.size],_,_,H,rfl,
  I1.kept (t':=tk) λb o e=>aK _ e,xb _ lo (hi - lo).toNat,?_,λb hb=>?_,q⟩
 ·have e1:lo+((0:Nat):Int) * 1=lo:=by simp
  have e2:(((hi - lo).toNat:Nat):Int) - ((0:Nat):Int)=tO lo hi 1:=by rw[rangeSize_one];split<;>omega
  show IsRangeIter _ _ (lo+((0:Nat):Int) * 1) ((((hi - lo).toNat:Nat):Int) - ((0:Nat):Int)) 1
  rw[e1,e2]
  exact bB _ rfl
 ·have e:b=(s.heap.push { cls:=.type "range",data:=.fields #[.int lo t,.int hi u,.int 1 v] }).objs.size:=by simpa using hb
  subst e
  exact I1.tN (aq _) (I1.hok.fresh (aq _))
def Pu(ta:TA):TI:=λσ H R=>ta σ H λvs H1=>∃j:Int,vs=[.int j]/\-(2 ^ 62)<=j/\j < 2 ^ 62/\R (JQ 0 j.toNat) H1
def Pw(ta:TA):TI:=λσ H R=>ta σ H λvs H1=>∃i j:Int,vs=[.int i,.int j]/\(-(2 ^ 62)<=i/\i < 2 ^ 62/\-(2 ^ 62)<=j/\j < 2 ^ 62)/\R (JQ i (j - i).toNat) H1
theorem sv{a:Expr}{ta:TA}{p pos:Pos}(hg:Gl X "range")(hm:X.mg "range"=none)(ha:PA X [a] ta)(hs:adp [a] X.env=[(false,eval a X.env)]:=by rfl):PI X tg (.Call (.Name "range" p) [a] [] pos) (Pu ta):=by
 intro pins s σ H R I h
 refine Call_ (jS I hg hm boot_range (mv (bo (ha pos pins s σ H _ I h) λus s1 ⟨vs,H1,I1,r1,q1⟩=>?_) hs rfl))
 obtain⟨j,e,q1,q2,q⟩:=q1
 subst e
 cases r1 with
 | cons r rr=>
  cases rr
  obtain⟨t,rfl⟩:=r
  exact call_range_1 (vt I1 (by omega) (by omega) q1 q2 (by simpa using q))
theorem sx{a b:Expr}{ta:TA}{p pos:Pos}(hg:Gl X "range")(hm:X.mg "range"=none)(ha:PA X [a,b] ta)(hs:adp [a,b] X.env=[(false,eval a X.env),(false,eval b X.env)]:=by rfl)(hs2:adp [b] X.env=[(false,eval b X.env)]:=by rfl) :
  PI X tg (.Call (.Name "range" p) [a,b] [] pos) (Pw ta):=by
 intro pins s σ H R I h
 refine Call_ (jS I hg hm boot_range (mv (bo (ha pos pins s σ H _ I h) λus s1 ⟨vs,H1,I1,r1,q1⟩=>?_) (by rw[hs,hs2]) (by rw[hs2];rfl)))
 obtain⟨i,j,e,⟨q1,q2,q3,q4⟩,q⟩:=q1
 subst e
 cases r1 with
 | cons r rr=>
  cases rr with
  | cons r' rr=>
   cases rr
   obtain⟨t,rfl⟩:=r
   obtain⟨t',rfl⟩:=r'
   exact call_range_2 (vt I1 q1 q2 q3 q4 q)
def Ug(wi:TI)(g:TG)(tb:TS):TS:=λD σ H=>wi σ H λJ H1=>∃W:Nat->Nat->St->Hp->Prop,(∃m,W 0 m σ H1)/\∀i m σ H,W i m σ H->
 (J.stop i H/\D.nx σ H)\/(J.go i H/\∃N:St->Hp->Prop,(∀σ' H',N σ' H'->∃m',m' < m/\W (i+1) m' σ' H')/\∀x H',J.vh i H x H'->g x σ H' λσ2 H2=>tb { D with nx:=N,ct:=N,bk:=D.nx } σ2 H2)
def dJ(fp:List ac5)(h:Heap):List (ac5×Obj):=fp.filterMap λb=>(h.get? b).map λo=>(b,o)
theorem fk{fp:List ac5}{h:Heap}{b:ac5}{o:Obj}(hb:b∈fp)(e:h.get? b=some o):(b,o)∈dJ fp h:=List.mem_filterMap.mpr ⟨b,hb,by rw[e];rfl⟩
theorem AR{fp:List ac5}{h:Heap}{p:ac5×Obj}(hp:p∈dJ fp h):p.1∈fp/\h.get? p.1=some p.2:=by
 obtain⟨b,hb,e⟩:=List.mem_filterMap.mp hp
 cases q:h.get? b with
 | none=>rw[q] at e;cases e
 | some o=>
  rw[q] at e
  have e':(b,o)=p:=Option.some.inj e
  subst e'
  exact⟨hb,q⟩
theorem Inv.pinned{pins:List (ac5×Obj)}{σ:St}{H:Hp}{s:ada}{fp:List ac5}(I:Inv X pins σ H s)(hf:∀b∈fp,eK X pins H b)(ho:∀b∈fp,∃o,s.heap.get? b=some o/\∀v,o.data≠.cell v):Inv X (pins++dJ fp s.heap) σ H s :=
 I.yO λp hp=>(List.mem_append.mp hp).elim (λz=>I.pin p (dq _ z)) λz=>by
  obtain⟨hb,e⟩:=AR z
  obtain⟨f0,f1,f2,_⟩:=hf p.1 hb
  obtain⟨o,e',d⟩:=ho p.1 hb
  rw[e] at e';cases e'
  exact⟨e,f0,f1,f2,d⟩
theorem Inv.jT{pins pl:List (ac5×Obj)}{σ:St}{H:Hp}{s:ada}(I:Inv X (pins++pl) σ H s):Inv X pins σ H s:=I.yO λp hp=>I.pin p (dq _ (tL _ hp))
theorem lJ{iter:Expr}{body:List Stmt}{wi:TI}{g:TG}{tb:TS}{pos:Pos}(hp:PassesOwn (model X.prog X.w) X.A X.env X.xe)(hc:X.calm=true)(hi:PI X tg iter wi)(hg:PG X tg g)(hb:Cg X body tb)
  (hs:∀x,adl iter X.env x=pure x:=by intro _;rfl):PS X (.For tg iter body [] pos) (Ug wi g tb):=by
 intro pins s σ H D I h
 refine wpAny_For (bo (hi pins s σ H _ I h) λv s1 h1=>bo h1 λitv s2 h2=>?_) hs
 obtain⟨it,fp,tn,J,H2,e,I2,T,st2,f2,W,⟨m0,w0⟩,turn⟩:=h2
 subst e
 -- what stays true of the Lv objects through the loop
 have Lw:∀{H':Hp},(∀b∈fp,H' b=none)->∀b∈fp,eK X pins H' b:=λhn b hb=>⟨hn b hb,(f2 b hb).2⟩
 refine codeAny_forLoop_any (λn s'=>∃i σ' H',Inv X pins σ' H' s'/\tn i s'.heap/\(∀b∈fp,H' b=none)/\W i n σ' H') ?_ m0 ⟨0,σ,H2,I2,st2,λb hb=>(f2 b hb).1,w0⟩
 rintro n s3 ⟨i,σ3,H3,I3,st3,Xz,w3⟩
 rcases turn i n σ3 H3 w3 with ⟨stop,qn⟩ | ⟨go,N,hN,step⟩
 ·refine wpAny_passesOwn hp (bo (T.done X rfl rfl rfl hc i pins s3 σ3 H3 X.xe I3 (Lw Xz) st3 stop) λr s4 ⟨hr,I4⟩=>?_)
  subst hr
  exact wpAny_execs_nil ⟨σ3,H3,I4,qn⟩
 ·refine wpAny_passesOwn hp (bo (T.item X rfl rfl rfl hc i pins s3 σ3 H3 X.xe I3 (Lw Xz) st3 go) λr s4 ⟨u,hr,h4⟩=>?_)
  subst hr
  refine wpAny_passesOwn hp (bo h4 λ_ s5 ⟨x,H5,I5,r5,y5,tP,Lx⟩=>?_)
  have Zy:=I5.pinned (Lw Lx) (T.obj _ _ tP)
  refine wpAny_passesOwn hp (bo (hg _ s5 σ3 H5 x u _ Zy r5 (step x H5 y5)) λ_ s6 ⟨σ6,H6,I6,q6⟩=>?_)
  refine wpAny_passesOwn hp (bo (hb _ s6 σ6 H6 _ I6 q6) λf s7 q7=>?_)
  have again:∀{σ7:St}{H7:Hp},Inv X (pins++dJ fp s5.heap) σ7 H7 s7->N σ7 H7->∃m,m < n/\∃i σ' H',Inv X pins σ' H' s7/\tn i s7.heap/\(∀b∈fp,H' b=none)/\W i m σ' H':=λ{σ7 H7} I7 n7=>by
   obtain⟨m',hm,w7⟩:=hN σ7 H7 n7
   refine⟨m',hm,i+1,σ7,H7,I7.jT,T.keep _ _ _ tP λb hb o e=>(I7.pin (b,o) (dq _ (dq _ (fk hb e)))).1,λb hb=>?_,w7⟩
   obtain⟨o,e,d⟩:=T.obj _ _ tP b hb
   exact(I7.pin (b,o) (dq _ (dq _ (fk hb e)))).2.1
  cases f with
  | next=>obtain⟨σ7,H7,I7,n7⟩:=q7;exact again I7 n7
  | cont=>obtain⟨σ7,H7,I7,n7⟩:=q7;exact again I7 n7
  | brk=>obtain⟨σ7,H7,I7,q7⟩:=q7;exact⟨σ7,H7,I7.jT,q7⟩
  | ret v=>obtain⟨x7,σ7,H7,I7,r7,q7⟩:=q7;exact⟨x7,σ7,H7,I7.jT,r7,q7⟩
end
abbrev R2:=V->V->Hp->VK->Prop
def fB(X:Cx)(f:adb->adb->Sem adb)(r:R2):Prop :=
 ∀(pins:List (ac5×Obj))(s:ada)(σ:St)(H:Hp)(x y:V)(v u:adb)(Q:VK),Inv X pins σ H s->RelV x v->RelV y u->r x y H Q->
  adq (model X.prog X.w) X.A (f v u) (EP X pins σ Q) X.xe s
def Uh(X:Cx)(f:adb->Sem adb)(r:V->Hp->VK->Prop):Prop :=
 ∀(pins:List (ac5×Obj))(s:ada)(σ:St)(H:Hp)(x:V)(v:adb)(Q:VK),Inv X pins σ H s->RelV x v->r x H Q->
  adq (model X.prog X.w) X.A (f v) (EP X pins σ Q) X.xe s
def eL(X:Cx)(f:adb)(r:List V->Hp->VK->Prop):Prop :=
 ∀(pins:List (ac5×Obj))(s:ada)(σ:St)(H:Hp)(xs:List V)(us:List adb)(Q:VK),Inv X pins σ H s->Vals xs us->r xs H Q->
  adq (model X.prog X.w) X.A (call f us) (EP X pins σ Q) X.xe s
def Ui(X:Cx)(r:V->Hp->(Bool->Hp->Prop)->Prop):Prop :=
 ∀(pins:List (ac5×Obj))(s:ada)(σ:St)(H:Hp)(x:V)(v:adb)(Q:Bool->Hp->Prop),Inv X pins σ H s->RelV x v->r x H Q->
  adq (model X.prog X.w) X.A (truthy v) (TP X pins σ Q) X.xe s
def Px(r:R2)(ta tb:TE):TE:=λσ H Q=>ta σ H λx H1=>tb σ H1 λy H2=>r x y H2 Q
def Zz(r:V->Hp->VK->Prop)(ta:TE):TE:=λσ H Q=>ta σ H λx H1=>r x H1 Q
def rI(C:Int->Int->Prop)(g:Int->Int->V):R2:=λx y H Q=>∃i j,x= .int i/\y= .int j/\C i j/\Q (g i j) H
def JR(g:Int->Int->V):R2:=λx y H Q=>∃i j,x= .int i/\y= .int j/\Q (g i j) H
def rU(g:Int->V):V->Hp->VK->Prop:=λx H Q=>∃i,x= .int i/\Q (g i) H
section
variable {X:Cx} {a b c:Expr} {ta tb tc:TE} {pos:Pos}
theorem Ly(ha:PE X a ta)(hb:PE X b tb){pins:List (ac5×Obj)}{s:ada}{σ:St}{H:Hp}{R:V->V->Hp->Prop}(I:Inv X pins σ H s)
  (h:ta σ H λx H1=>tb σ H1 λy H2=>R x y H2){Q:adb->ada->Prop}{f:adb->adb->Sem adb}
  (hf:∀v u s2 x y H2,Inv X pins σ H2 s2->RelV x v->RelV y u->R x y H2->adq (model X.prog X.w) X.A (f v u) Q X.xe s2) :
  adq (model X.prog X.w) X.A (eval a X.env) (λv s₁=>adq (model X.prog X.w) X.A (eval b X.env) (λu s₂=>adq (model X.prog X.w) X.A (f v u) Q X.xe s₂) X.xe s₁) X.xe s:=by
 refine bo (ha pins s σ H _ I h) λv s1 ⟨x,H1,I1,r1,q1⟩=>?_
 refine bo (hb pins s1 σ H1 _ I1 q1) λu s2 ⟨y,H2,I2,r2,q2⟩=>?_
 exact hf v u s2 x y H2 I2 r1 r2 q2
theorem Py{op:Operator}{r:R2}(ho:fB X (adg op) r)(ha:PE X a ta)(hb:PE X b tb):PE X (.BinOp a op b pos) (Px r ta tb):=by
 intro pins s σ H Q I h
 exact wpAny_BinOp (Ly ha hb I h λv u s2 x y H2 I2 rx ry q=>ho pins s2 σ H2 x y v u Q I2 rx ry q)
theorem Pz{op:UnaryOp}{r:V->Hp->VK->Prop}(ho:Uh X (unaryOp op) r)(ha:PE X a ta):PE X (.UnaryOp op a pos) (Zz r ta):=by
 intro pins s σ H Q I h
 exact UnaryOp_ (bo (ha pins s σ H _ I h) λv s1 ⟨x,H1,I1,r1,q1⟩=>ho pins s1 σ H1 x v Q I1 r1 q1)
theorem Sl{f:adb->adb->Sem adb}{C:Int->Int->Prop}{g:Int->Int->Int}
  (rule:∀(i j:Int)(t u:Tok)(s:ada)(Q:adb->ada->Prop)(E:adb->ada->Prop),C i j->Q (.int (g i j) s.toks) { s with toks:=s.toks+1 }->adq (model X.prog X.w) X.A (f (.int i t) (.int j u)) Q E s) :
  fB X f (rI C λi j=> .int (g i j)):=by
 intro pins s σ H x y v u Q I rx ry h
 obtain⟨i,j,rfl,rfl,hc,q⟩:=h
 obtain⟨t,rfl⟩:=rx
 obtain⟨t',rfl⟩:=ry
 exact rule i j t t' s _ _ hc ⟨.int (g i j),H,I.tok _,⟨_,rfl⟩,q⟩
theorem PB{f:adb->adb->Sem adb}{g:Int->Int->Int}
  (rule:∀(i j:Int)(t u:Tok)(s:ada)(Q:adb->ada->Prop)(E:adb->ada->Prop),Q (.int (g i j) s.toks) { s with toks:=s.toks+1 }->adq (model X.prog X.w) X.A (f (.int i t) (.int j u)) Q E s) :
  fB X f (JR λi j=> .int (g i j)):=by
 intro pins s σ H x y v u Q I rx ry h
 obtain⟨i,j,rfl,rfl,q⟩:=h
 obtain⟨t,rfl⟩:=rx
 obtain⟨t',rfl⟩:=ry
 exact rule i j t t' s _ _ ⟨.int (g i j),H,I.tok _,⟨_,rfl⟩,q⟩
theorem G7{f:adb->adb->Sem adb}{g:Int->Int->Bool}
  (rule:∀(i j:Int)(t u:Tok)(s:ada)(Q:adb->ada->Prop)(E:adb->ada->Prop),Q (.bool (g i j)) s->adq (model X.prog X.w) X.A (f (.int i t) (.int j u)) Q E s) :
  fB X f (JR λi j=> .bl (g i j)):=by
 intro pins s σ H x y v u Q I rx ry h
 obtain⟨i,j,rfl,rfl,q⟩:=h
 obtain⟨t,rfl⟩:=rx
 obtain⟨t',rfl⟩:=ry
 exact rule i j t t' s _ _ ⟨.bl (g i j),H,I,rfl,q⟩
def Uj(i j:Int):Prop:=0<=j/\j<=1000000/\i.natAbs < 2 ^ 64
theorem Lz:fB X (adg .Add) (JR λi j=> .int (i+j)):=PB λ_ _ _ _ _ _ _ q=>add_int q
theorem LA:fB X (adg .Sub) (JR λi j=> .int (i - j)):=PB λ_ _ _ _ _ _ _ q=>sub_int q
theorem LB:fB X (adg .Pow) (rI Uj λi j=> .int (i ^ j.toNat)):=Sl λ_ _ _ _ _ _ _ hc q=>pow_int_small hc.1 hc.2.1 hc.2.2 q
theorem ZA{f:adb->Sem adb}{g:Int->Int}
  (rule:∀(i:Int)(t:Tok)(s:ada)(Q:adb->ada->Prop)(E:adb->ada->Prop),Q (.int (g i) s.toks) { s with toks:=s.toks+1 }->adq (model X.prog X.w) X.A (f (.int i t)) Q E s) :
  Uh X f (rU λi=> .int (g i)):=by
 intro pins s σ H x v Q I rx h
 obtain⟨i,rfl,q⟩:=h
 obtain⟨t,rfl⟩:=rx
 exact rule i t s _ _ ⟨.int (g i),H,I.tok _,⟨_,rfl⟩,q⟩
theorem LC:Uh X (unaryOp .USub) (rU λi=> .int (-i)):=ZA λ_ _ _ _ _ q=>neg_int q
end
section
variable {X:Cx} {a b c:Expr} {ta tb tc:TE} {pos:Pos}
theorem tQ{pins:List (ac5×Obj)}{σ:St}{H:Hp}{s:ada}{Q:VK}{k k':Bool}(I:Inv X pins σ H s)(q:Q (.bl k) H)(e:k=k'):EP X pins σ Q (.bool k') s:=by
 subst e
 exact⟨.bl k,H,I,rfl,q⟩
theorem PC:fB X (adk .Lt) (JR λi j=> .bl (decide (i < j))):=G7 λ_ _ _ _ _ _ _ q=>lt_int q
theorem PD:fB X (adk .LtE) (JR λi j=> .bl (decide (i<=j))):=G7 λ_ _ _ _ _ _ _ q=>le_int q
theorem PF:fB X (adk .Gt) (JR λi j=> .bl (decide (j < i))):=G7 λ_ _ _ _ _ _ _ q=>gt_int q
theorem PH:fB X (adk .GtE) (JR λi j=> .bl (decide (j<=i))):=G7 λ_ _ _ _ _ _ _ q=>ge_int q
theorem AS:fB X (adk .Lt) (λx y H Q=>∃i j,x= .str i/\y= .str j/\Q (.bl (decide (i.cps.toList < j.cps.toList))) H):=by
 intro pins s σ H x y v u Q I rx ry h
 obtain⟨i,j,rfl,rfl,q⟩:=h
 obtain⟨t,rfl⟩:=rx
 obtain⟨t',rfl⟩:=ry
 exact lt_str (tQ I q rfl)
theorem AU:fB X (adk .In) (λx y H Q=>∃i j,x= .str i/\y= .str j/\Q (.bl (!(xc j i 0 j.length 1).isEmpty)) H):=by
 intro pins s σ H x y v u Q I rx ry h
 obtain⟨i,j,rfl,rfl,q⟩:=h
 obtain⟨t,rfl⟩:=rx
 obtain⟨t',rfl⟩:=ry
 exact in_str (tQ I q rfl)
theorem LD:fB X (adk .Is) (λx y H Q=>y= .bz/\Q (.bl (decide (x= .bz))) H):=by
 intro pins s σ H x y v u Q I rx ry h
 obtain⟨rfl,q⟩:=h
 cases ry
 refine is_none_gen (tQ I q ?_)
 cases x<;>first
  | (cases rx;rfl)
  | (obtain⟨t,rfl⟩:=rx;rfl)
theorem G8:fB X (adk .IsNot) (λx y H Q=>y= .bz/\Q (.bl (!decide (x= .bz))) H):=by
 intro pins s σ H x y v u Q I rx ry h
 obtain⟨rfl,q⟩:=h
 cases ry
 refine isnot_none_gen (tQ I q ?_)
 cases x<;>first
  | (cases rx;rfl)
  | (obtain⟨t,rfl⟩:=rx;rfl)
theorem G_{op:CmpOp}{r:R2}(ho:fB X (adk op) r)(ha:PE X a ta)(hb:PE X b tb)(hm:adf op b=false):PE X (.Compare a [op] [b] pos) (Px r ta tb):=by
 intro pins s σ H Q I h
 exact wpAny_Compare1 (Ly ha hb I h λv u s2 x y H2 I2 rx ry q=>ho pins s2 σ H2 x y v u Q I2 rx ry q) hm
def JU(t:TE):TT:=λσ H Q=>t σ H λx H'=>∃k,x= .bl k/\Q k H'
theorem G'{op:CmpOp}{r:R2}(ho:fB X (adk op) r)(ha:PE X a ta)(hb:PE X b tb)(hm:adf op b=false):PT X (.Compare a [op] [b] pos) (JU (Px r ta tb)):=by
 intro pins s σ H Q I h
 refine wpAny_isTrue_Compare1 (bo (ha pins s σ H _ I h) λv s1 ⟨x,H1,I1,r1,q1⟩=>bo (hb pins s1 σ H1 _ I1 q1) λu s2 ⟨y,H2,I2,r2,q2⟩=>
  bo (ho pins s2 σ H2 x y v u _ I2 r1 r2 q2) λc s3 ⟨z,H3,I3,r3,k,e,q3⟩=>?_) hm
 subst e
 cases r3
 exact adz ⟨H3,I3,q3⟩
def xf(r r':R2)(ta tb tc:TE):TE:=λσ H Q=>ta σ H λx H1=>tb σ H1 λy H2=>r x y H2 λz H3=>∃k,z= .bl k/\
 (if k=true then tc σ H3 λw' H4=>r' y w' H4 Q else Q (.bl false) H3)
theorem Cu{op op':CmpOp}{r r':R2}(ho:fB X (adk op) r)(ho':fB X (adk op') r')(ha:PE X a ta)(hb:PE X b tb)(hc:PE X c tc)
  (hm:lastMarks [op,op'] [b,c]=false:=by with_unfolding_all rfl):PE X (.Compare a [op,op'] [b,c] pos) (xf r r' ta tb tc):=by
 intro pins s σ H Q I h
 refine Compare_chain (bo (ha pins s σ H _ I h) λv s1 ⟨x,H1,I1,r1,q1⟩=>chain_link (bo (hb pins s1 σ H1 _ I1 q1) λu s2 ⟨y,H2,I2,r2,q2⟩=>
  bo (ho pins s2 σ H2 x y v u _ I2 r1 r2 q2) λd s3 ⟨z,H3,I3,r3,k,e,q3⟩=>?_)) hm
 subst e
 cases r3
 refine adz ?_
 cases k with
 | false=>exact ite_ff ⟨.bl false,H3,I3,rfl,q3⟩
 | true=>exact ite_tt (chain_last (bo (hc pins s3 σ H3 _ I3 q3) λw' s4 ⟨z',H4,I4,r4,q4⟩=>ho' pins s4 σ H4 y z' u w' Q I4 r2 r4 q4))
theorem Cv{op op':CmpOp}{r r':R2}(ho:fB X (adk op) r)(ho':fB X (adk op') r')(ha:PE X a ta)(hb:PE X b tb)(hc:PE X c tc)
  (hm:lastMarks [op,op'] [b,c]=false:=by with_unfolding_all rfl):PT X (.Compare a [op,op'] [b,c] pos) (JU (xf r r' ta tb tc)):=by
 intro pins s σ H Q I h
 refine isTrue_chain (bo (ha pins s σ H _ I h) λv s1 ⟨x,H1,I1,r1,q1⟩=>test_link (bo (hb pins s1 σ H1 _ I1 q1) λu s2 ⟨y,H2,I2,r2,q2⟩=>
  bo (ho pins s2 σ H2 x y v u _ I2 r1 r2 q2) λd s3 ⟨z,H3,I3,r3,k,e,q3⟩=>?_)) hm
 subst e
 cases r3
 refine adz ?_
 cases k with
 | false=>
  obtain⟨k',e',q'⟩:=q3
  cases e'
  exact ite_ff ⟨H3,I3,q'⟩
 | true=>
  refine ite_tt (test_last (bo (hc pins s3 σ H3 _ I3 q3) λw' s4 ⟨z',H4,I4,r4,q4⟩=>bo (ho' pins s4 σ H4 y z' u w' _ I4 r2 r4 q4) λd' s5 ⟨z2,H5,I5,r5,k2,e2,q5⟩=>?_))
  subst e2
  cases r5
  exact adz ⟨H5,I5,q5⟩
def PJ(K:PySem.W.Frag)(x:V)(H:Hp)(k:Bool):Prop :=
 match x with
 | .bz=>k=false
 | .bl b=>k=b
 | .int i=>k=(i != 0)
 | .str y=>y.length<=ado/\k=((y.length:Int) != 0)
 | .OL y=>y.size<=ado/\k=((y.size:Int) != 0)
 | .ref p=>(∃xs,jN K H p xs/\k= !xs.isEmpty)\/(∃xs,eJ K H p xs/\k= !xs.isEmpty)\/∃kvs,H p=some (.dK kvs)/\k= !kvs.isEmpty
 | _=>False
theorem xg{κ:Type}{kvs:List (κ×V)}{vs:List (κ×adb)}(r:KV kvs vs):(!vs.isEmpty)= !kvs.isEmpty:=by
 cases r<;>rfl
theorem pV{xs:List V}{its:List adb}(r:Vals xs its):(!its.toArray.isEmpty)= !xs.isEmpty:=by
 cases r<;>simp
theorem lK:(ado:Nat) < 2 ^ 63:=by rw[sizeLine_eq];decide
theorem LG:Ui X (λx H Q=>∃k,PJ X.K x H k/\Q k H):=by
 intro pins s σ H x v Q I rx h
 obtain⟨k,e,q⟩:=h
 have hl:=lK
 have hs:ado=16777216:=sizeLine_eq
 cases x with
 | bz=>
  cases rx
  have e':k=false:=e
  subst e'
  exact truthy_none ⟨H,I,q⟩
 | bl b=>
  cases rx
  have e':k=b:=e
  subst e'
  exact adz ⟨H,I,q⟩
 | int i=>
  obtain⟨t,rfl⟩:=rx
  have e':k=(i != 0):=e
  subst e'
  exact PySem.P.truthy_int ⟨H,I,q⟩
 | str y=>
  obtain⟨t,rfl⟩:=rx
  obtain⟨hy,e'⟩:y.length<=ado/\k=((y.length:Int) != 0):=e
  subst e'
  exact PySem.P.truthy_str (by omega) ⟨H,I.tok _,q⟩
 | OL y=>
  obtain⟨t,rfl⟩:=rx
  obtain⟨hy,e'⟩:y.size<=ado/\k=((y.size:Int) != 0):=e
  subst e'
  exact PySem.W.truthy_bytes (by omega) ⟨H,I.tok _,q⟩
 | ref p=>
  cases rx
  have e':(∃xs,jN X.K H p xs/\k= !xs.isEmpty)\/(∃xs,eJ X.K H p xs/\k= !xs.isEmpty)\/∃kvs,H p=some (.dK kvs)/\k= !kvs.isEmpty:=e
  rcases e' with ⟨xs,hx,e'⟩ | ⟨xs,hx,e'⟩ | ⟨kvs,hx,e'⟩
  ·subst e'
   obtain⟨its,r,pl,hz⟩:=I.list hx
   have hlen:=r.length
   exact wpAny_truthy_list pl.isList (by simp only[aO];omega) ⟨H,I.tok _,by rw[pV r];exact q⟩
  ·subst e'
   obtain⟨its,r,pl,hz⟩:=I.tuple hx
   have hlen:=r.length
   exact truthy_tuple pl (by simp only[aO];omega) ⟨H,I.tok _,by rw[pV r];exact q⟩
  ·subst e'
   obtain⟨hz,hS,vs,r,m⟩:kvs.length<=ado/\(p == sysModules)=false/\∃vs,KV kvs vs/\s.heap.DictOf (bh X.prog X.w) p vs:=I.hok p _ hx
   have hlen:kvs.length=vs.length:=Paired.length r
   exact wpAny_truthy_dict hS m (by omega) ⟨H,I.tok _,by rw[xg r];exact q⟩
 | _=>exact(show False from e).elim
theorem Cw(ha:PE X a ta)(he:∀whole,isTrue a X.env whole=(do let v <-whole;standAt a.pos;holding [v] (truthy v))) :
  PT X a (λσ H Q=>ta σ H λx H'=>∃k,PJ X.K x H' k/\Q k H'):=by
 intro pins s σ H Q I h
 exact isTrue_plain (bo (ha pins s σ H _ I h) λv s1 ⟨x,H1,I1,r1,q1⟩=>LG pins s1 σ H1 x v Q I1 r1 q1) (he _)
theorem xh:fB X (adg .Add) (λx y H Q=>∃i j,x= .str i/\y= .str j/\i.length+j.length<=ado/\Q (.str (i++j)) H):=by
 intro pins s σ H x y v u Q I rx ry h
 obtain⟨i,j,rfl,rfl,hz,q⟩:=h
 obtain⟨t,rfl⟩:=rx
 obtain⟨t',rfl⟩:=ry
 exact add_str (λt' tk=>⟨.str (i++j),H,I.tok _,⟨_,rfl⟩,q⟩) hz
theorem vals1{x:V}{us:List adb}(r:Vals [x] us):∃u,us=[u]/\RelV x u:=by
 cases r with
 | cons r1 r2=>cases r2;exact⟨_,rfl,r1⟩
theorem vals2{x y:V}{us:List adb}(r:Vals [x,y] us):∃u w',us=[u,w']/\RelV x u/\RelV y w':=by
 cases r with
 | cons r1 r2=>
  cases r2 with
  | cons r3 r4=>cases r4;exact⟨_,_,rfl,r1,r3⟩
theorem AV(hc:X.calm=true):eL X (.builtin "max") (λxs H Q=>∃i j,xs=[.int i,.int j]/\Q (.int (if j > i then j else i)) H):=by
 intro pins s σ H xs us Q I r h
 obtain⟨i,j,rfl,q⟩:=h
 obtain⟨u,w',rfl,⟨t,rfl⟩,⟨t',rfl⟩⟩:=vals2 r
 refine max_two_ints (I.ok.hd hc) λh' tk k=>⟨_,H,I.kept k,?_,q⟩
 by_cases hj:j > i
 ·rw[if_pos hj,if_pos hj];exact⟨_,rfl⟩
 ·rw[if_neg hj,if_neg hj];exact⟨_,rfl⟩
theorem AX(hc:X.calm=true):eL X (.builtin "min") (λxs H Q=>∃i j,xs=[.int i,.int j]/\Q (.int (if j < i then j else i)) H):=by
 intro pins s σ H xs us Q I r h
 obtain⟨i,j,rfl,q⟩:=h
 obtain⟨u,w',rfl,⟨t,rfl⟩,⟨t',rfl⟩⟩:=vals2 r
 refine min_two_ints (I.ok.hd hc) λh' tk k=>⟨_,H,I.kept k,?_,q⟩
 by_cases hj:j < i
 ·rw[if_pos hj,if_pos hj];exact⟨_,rfl⟩
 ·rw[if_neg hj,if_neg hj];exact⟨_,rfl⟩
end
section
variable {prog:ac9} {w:ade} {A:ac6} {E:adb->ada->Prop} {s:ada} {K:PySem.W.Frag} {x dx C f:ac5} {mA:Str->Option adb} {name:Str} {v:adb}
end
theorem nB.some_of{v:V}{o:Option adb}(r:nB (some v) o):∃u,o=some u/\RelV v u:=by
 cases o with
 | none=>exact(show False from r).elim
 | some u=>exact⟨u,rfl,r⟩
section
variable {P:ac9} {w:ade} {H H':Hp} {h h':Heap} {a C dx:ac5} {fs fs':List (Str×V)}
end
section
variable {X:Cx} {pins:List (ac5×Obj)} {σ:St} {H:Hp} {s:ada} {a C dx:ac5} {fs:List (Str×V)} {f:Str} {v:V} {A:ac6} {E:adb->ada->Prop}
end
section
variable {X:Cx} {o e value:Expr} {f:Str} {pos pos' tpos:Pos} {ta tv:TE}
end
section
variable {X:Cx} {pins:List (ac5×Obj)} {σ:St} {H:Hp} {s:ada} {A:ac6} {E:adb->ada->Prop} {Q:adb->ada->Prop} {c:adb} {b:Bool}
end
structure iw(k:Nat)(A:ac6):Prop where
 hd:A.handled=none
 dp:A.depth+3 * k+5 < recursionLimit
 un:A.units+16 * k+200 < cLine
theorem iw.mono{j k:Nat}{A:ac6}(r:iw k A)(h:j<=k):iw j A:=⟨r.hd,by have:=r.dp;omega,by have:=r.un;omega⟩
theorem iw.deeper{k:Nat}{A:ac6}(r:iw (k+1) A)(env:Env):iw k (A.deeper env) :=
 ⟨r.hd,by have:=r.dp;show A.depth+1+3 * k+5 < _;omega,by have:=r.un;show A.units+3+16 * k+200 < _;omega⟩
theorem iw.depth{k:Nat}{A:ac6}(r:iw k A):A.depth < recursionLimit:=by have:=r.dp;omega
def Uk:TA:=λ_ H Q=>Q [] H
def PK(ta:TE)(tr:TA):TA:=λσ H Q=>ta σ H λx H1=>tr σ H1 λxs H2=>Q (x::xs) H2
section
variable {X:Cx} {e:Expr} {es:List Expr} {te:TE} {t:TA} {pos:Pos}
theorem LH:PA X [] Uk:=λ_ _ _ _ H Q I h=>tR ⟨[],H,I,.nil,h⟩
theorem Hd(ha:PE X e te)(hr:PA X es t)(hs:adp (e::es) X.env=(false,eval e X.env)::adp es X.env:=by rfl):PA X (e::es) (PK te t):=by
 intro pos pins s σ H Q I h
 rw[hs]
 show adq _ _ (spliced ((false,eval e X.env)::backTo pos (adp es X.env))) _ _ s
 refine lL (bo (ha pins s σ H _ I h) λu s1 ⟨x,H1,I1,r1,q1⟩=>?_)
 exact bo (hr pos pins s1 σ H1 _ I1 q1) λus s2 ⟨xs,H2,I2,r2,q2⟩=>⟨x::xs,H2,I2,.cons r1 r2,q2⟩
def Ul(t:TA):TE:=λσ H Q=>t σ H λxs H1=>xs.length<=ado/\∀p,H1 p=none->Q (.ref p) (upd H1 p (.tup xs))
def Um(t:TA):TE:=λσ H Q=>t σ H λxs H1=>xs.length<=ado/\∀p,H1 p=none->Q (.ref p) (upd H1 p (.lst xs))
theorem LI{x1}(h:PA X es t):PE X (.Tuple es x1 pos) (Ul t):=by
 intro pins s σ H Q I hq
 refine wpAny_Tuple_spliced (bo (h pos pins s σ H _ I hq) λus s1 ⟨xs,H1,I1,r,z,q⟩=>⟨by rw[<-r.length];exact z,?_⟩)
 have hf:H1 s1.heap.objs.size=none:=I1.hok.fresh (aq _)
 refine⟨.ref s1.heap.objs.size,upd H1 s1.heap.objs.size (.tup xs),I1.laid (t':=s1.toks) (λb u e=>aK _ e) (aq _) ?_,rfl,q _ hf⟩
 exact⟨z,us,r,⟨_,bB _ rfl,rfl,_,rfl⟩,w9.new _ _⟩
theorem LJ(h:PA X es t):PE X (.List es pos) (Um t):=by
 intro pins s σ H Q I hq
 refine wpAny_List_spliced (bo (h pos pins s σ H _ I hq) λus s1 ⟨xs,H1,I1,r,z,q⟩=>⟨by rw[<-r.length];exact z,?_⟩)
 have hf:H1 s1.heap.objs.size=none:=I1.hok.fresh (aq _)
 refine⟨.ref s1.heap.objs.size,upd H1 s1.heap.objs.size (.lst xs),I1.laid (t':=s1.toks) (λb u e=>aK _ e) (aq _) ?_,rfl,q _ hf⟩
 exact⟨z,us,0,r,bB _ rfl⟩
end
abbrev Sp:=List V->Hp->VK->XK->Prop
abbrev Ca:=List Env->Hp->ada->XK->adb->ada->Prop
structure xi(P:ac9)(w:ade)(K:PySem.W.Frag)(mg:Str->Option adb)(base:Heap)(A:ac6)(outer:List Env)(s:ada)(H:Hp):Prop where
 frames:A.frames=some outer
 mod:Mod K mg base
 bs:∀b o,base.get? b=some o->s.heap.get? b=some o/\H b=none
 GQ:base.objs.size<=s.heap.objs.size
 nC:s.heap.FunFrames base outer
 K':∀b∈frs outer,H b=none
 hok:jQ P w H s.heap
 bare:AllBare s.gens
def CE(outer:List Env)(P:ac9)(w:ade)(H:Hp)(s:ada)(Q:VK)(u:adb)(s':ada):Prop :=
 ∃v H',s'.os=s.os/\AllBare s'.gens/\Un (frs outer) [] H H' s.heap s'.heap/\jQ P w H' s'.heap/\RelV v u/\Q v H'
def CR(CX:Ca)(outer:List Env)(P:ac9)(w:ade)(H:Hp)(s:ada)(Q:VK)(E:XK)(r:Result)(s':ada):Prop :=
 match r with
 | .ok (.ret u)=>CE outer P w H s Q u s'
 | .ok _=>False
 | .error e=>CX outer H s E e s'
structure FnOk(P:ac9)(w:ade)(K:PySem.W.Frag)(mg:Str->Option adb)(base:Heap)(CX:Ca)(k:Nat)(f:ac5)(fd:ac7)(ps:List Str)(sp:Sp):Prop where
 len:∀vs H Q E,sp vs H Q E->vs.length=ps.length
 run:∀(A:ac6)(outer:List Env)(s:ada)(H:Hp)(args:Args)(us:List adb)(vs:List V)(Q:VK)(E:XK),iw k A->xi P w K mg base A outer s H->BindsTo s fd args (ps.zip us)->Vals vs us->sp vs H Q E->
  adi (model P w) A (.call (.ref f) args) (CR CX outer P w H s Q E) s
theorem FnOk.mono{P:ac9}{w:ade}{K:PySem.W.Frag}{mg:Str->Option adb}{base:Heap}{CX:Ca}{j k:Nat}{f:ac5}{fd:ac7}{ps:List Str}{sp:Sp}(F:FnOk P w K mg base CX j f fd ps sp)(h:j<=k) :
  FnOk P w K mg base CX k f fd ps sp:=⟨F.len,λA outer s H args us vs Q E hr=>F.run A outer s H args us vs Q E (hr.mono h)⟩
section
variable {X:Cx} {pins:List (ac5×Obj)} {σ:St} {H:Hp} {s s':ada}
theorem Inv.PL(I:Inv X pins σ H s):xi X.prog X.w X.K X.mg X.base X.A X.stack s H :=
 ⟨I.ok.frames,I.ok.mod,I.bs,bp I.ok.GQ I.sz,I.stack,I.pk,I.hok,I.bare⟩
theorem Inv.after{Q:VK}{u:adb}(I:Inv X pins σ H s)(h:CE X.stack X.prog X.w H s Q u s'):EP X pins σ Q u s':=by
 obtain⟨v,H',os,bare,un,hok,r,q⟩:=h
 obtain⟨hh,g,d,t,os'⟩:=s'
 obtain rfl:os'=s.os:=os
 exact⟨v,H',I.call (h':=hh) (g':=g) (d':=d) (t':=t) (ch:=[]) un hok bare (λb z=>absurd z (by simp)),r,q⟩
end
def Binds(K:PySem.W.Frag)(fd:ac7)(ps:List Str)(ds:List adb):Prop :=
 ∀(s:ada)(us:List adb),K.In s.heap->(us++ds).length=ps.length->BindsTo s fd ⟨us,[]⟩ (ps.zip (us++ds))
theorem Binds.all{K:PySem.W.Frag}{fd:ac7}{ps:List Str}(h:∀us:List adb,us.length=ps.length->bindArgs fd ⟨us,[]⟩=pure (ps.zip us)):Binds K fd ps []:=λs us _ hl=>by
 rw[gJ] at hl ⊢
 exact .of_eq (h us hl)
section
variable {X:Cx} {CX:Ca} {k:Nat} {f C:ac5} {fd:ac7} {ps:List Str} {sp:Sp} {dvs:List V} {ds:List adb} {E:XK} {x m:Str} {p pos apos:Pos} {e o:Expr} {es:List Expr} {ta:TE} {t:TA}
end
section
variable {X:Cx} {CX:Ca} {k:Nat} {f C:ac5} {fd:ac7} {ps ks:List Str} {sp:Sp} {E:XK} {x m:Str} {p pos apos kpos:Pos} {e o:Expr} {es:List Expr} {kws:List Keyword} {te ta:TE} {t tk:TA} {nm:Option Str}
variable {g:List adb->List adb->List adb} {gV:List V->List V->List V}
end
structure FnScope(N P:List Str)(sc:Scope):Prop where
 kind:sc.kind= .function
 co:sc.isCoroutine=false
 gen:sc.isGenerator=false
 nd:N.Nodup
 pre:N.take P.length=P
 par:∀x∈P,sc.names.lookup x=some .local\/sc.names.lookup x=some .cell
 LK:∀y∈sc.names,y.2≠.free
theorem sy{kindOf:Str->Option ac8}{x:Str}:∀{binds:List (Str×adb)}{m:Str->Option adb},(∀v,(x,v)∉binds)->bindL kindOf binds m x=m x
 | [],_,_=>rfl
 | (n,v)::r,m,h=>by
  unfold bindL
  rw[sy λw hw=>h w (aN _ hw)]
  split
  ·have:x≠n:=by rintro rfl;exact h v bu
   simp[this]
  ·rfl
theorem sA{kindOf:Str->Option ac8}{x:Str}:∀{binds:List (Str×adb)}{m:Str->Option adb},(∀v,(x,v)∉binds)->bindC kindOf binds m x=m x
 | [],_,_=>rfl
 | (n,v)::r,m,h=>by
  unfold bindC
  rw[sA λw hw=>h w (aN _ hw)]
  split
  ·rfl
  ·have:x≠n:=by rintro rfl;exact h v bu
   simp[this]
theorem sC{kindOf:Str->Option ac8}{x:Str}{v:adb}:∀{P:List Str}{vs:List adb}{i:Nat}{m:Str->Option adb},P.Nodup->P[i]? =some x->vs[i]? =some v->kindOf x=some .local->
  bindL kindOf (P.zip vs) m x=some v
 | [],_,_,_,_,h,_,_=>by simp at h
 | _::_,[],_,_,_,_,h,_=>by simp at h
 | p::P,w::vs,0,m,nd,h1,h2,hk=>by
  simp at h1 h2;subst h1;subst h2
  show bindL kindOf ((p,w)::P.zip vs) m p=_
  unfold bindL
  rw[sy λv hv=>(List.nodup_cons.mp nd).1 (yQ hv).1,if_pos hk]
  simp
 | p::P,w::vs,i+1,m,nd,h1,h2,hk=>by
  show bindL kindOf ((p,w)::P.zip vs) m x=_
  unfold bindL
  exact sC (i:=i) (List.nodup_cons.mp nd).2 (by simpa using h1) (by simpa using h2) hk
theorem sD{kindOf:Str->Option ac8}{x:Str}{v:adb}:∀{P:List Str}{vs:List adb}{i:Nat}{m:Str->Option adb},P.Nodup->P[i]? =some x->vs[i]? =some v->kindOf x≠some .local->
  bindC kindOf (P.zip vs) m x=some v
 | [],_,_,_,_,h,_,_=>by simp at h
 | _::_,[],_,_,_,_,h,_=>by simp at h
 | p::P,w::vs,0,m,nd,h1,h2,hk=>by
  simp at h1 h2;subst h1;subst h2
  show bindC kindOf ((p,w)::P.zip vs) m p=_
  unfold bindC
  rw[sA λv hv=>(List.nodup_cons.mp nd).1 (yQ hv).1,if_neg hk]
  simp
 | p::P,w::vs,i+1,m,nd,h1,h2,hk=>by
  show bindC kindOf ((p,w)::P.zip vs) m x=_
  unfold bindC
  exact sD (i:=i) (List.nodup_cons.mp nd).2 (by simpa using h1) (by simpa using h2) hk
def start(N:List Str)(vs:List V):St:=vs.map some++aJ (N.length - vs.length) none
def rE(CX:Ca)(P:ac9)(w:ade)(K:PySem.W.Frag)(mg:Str->Option adb)(base:Heap)(N:List Str)(qual:Str)(scope:Scope)(f:ac5)(cd:adb)(A:ac6)(outer:List Env)(s:ada)(H:Hp)(E:XK):Cx where
 prog:=P
 w:=w
 K:=K
 mg:=mg
 base:=base
 A:=A.deeper (envOfC qual scope s.heap.objs.size f cd)
 N:=N
 s₀:=s
 H₀:=H
 env:=envOfC qual scope s.heap.objs.size f cd
 outer:=outer
 stack:=envOfC qual scope s.heap.objs.size f cd::outer
 ex:=[]
 calm:=true
 fn:=λ_=>true
 pn:=[]
 xe:=λe s'=>adq (model P w) (A.deeper (envOfC qual scope s.heap.objs.size f cd)) (leaving (envOfC qual scope s.heap.objs.size f cd) e) (λ_ s''=>CX outer H s E e s'') (λe' s''=>CX outer H s E e' s'') s'
theorem vw{sc:Scope}{n:Nat}{x:Str}(h:sc.names.lookup x=some .cell):∃c,(cellsFrom n sc.names []).lookup x=some c:=by
 have q:=PySem.W.cellsFrom_some sc.names n [] (.inl h)
 exact Option.isSome_iff_exists.mp q
theorem AY{CX:Ca}{P:ac9}{w:ade}{K:PySem.W.Frag}{mg:Str->Option adb}{base:Heap}{N ps:List Str}{qual:Str}{scope:Scope}{f:ac5}{cd:adb}{A:ac6}{outer:List Env}{s s1:ada}{H:Hp}{E:XK}{us:List adb}{vs:List V}
  (S:FnScope N ps scope)(hd:A.handled=none)(e0:xi P w K mg base A outer s H)(hl:vs.length=ps.length)(r:Vals vs us)
  (x:InCallC s s.heap.objs.size (bindL (envOfC qual scope s.heap.objs.size f cd).kindOf (ps.zip us) λ_=>none) (cellsFrom (s.heap.objs.size+1) scope.names []) (bindC (envOfC qual scope s.heap.objs.size f cd).kindOf (ps.zip us) λ_=>none) s1) :
  Inv (rE CX P w K mg base N qual scope f cd A outer s H E) [] (start N vs) H s1:=by
 have hpl:ps.length<=N.length:=by have:=congrArg nE S.pre;rw[mw] at this;omega
 obtain⟨h1,tk,rfl,hk⟩:=x.done
 have LL:∀b:ac5,b∉(rE CX P w K mg base N qual scope f cd A outer s H E).ex:=λb z=>absurd (show b∈([]:List ac5) from z) (by simp)
 refine⟨⟨e0.mod,S.kind,rfl,rfl,aq _,λy z c h1 h2=>?_,λy hy=>?_,λy c _ h=>?_,λ_=>hd,PM e0.frames,.inr ⟨rfl,rfl⟩,λb z=>absurd z (LL b),e0.bs,e0.GQ,λb _ _=>LL b,λb z=>absurd z (LL b),e0.nC,e0.K'⟩,
  rfl,e0.bare,Un.kept hk,⟨_,x.toInCall.ns,λi y v h1 h2 h3=>?_⟩,λy c h=>⟨_,x.cell y c h⟩,e0.hok.fresh (aq _),λy c h=>?_,λp hp=>absurd (show p∈([]:List (ac5×Obj)) from hp) (by simp),e0.hok.kept hk,?_⟩
 ·exact name_of_addr x.apart (PySem.mem_of_lookup h1) (PySem.mem_of_lookup h2)
 ·have hy:scope.names.lookup y=some .cell\/scope.names.lookup y=some .free:=hy
  rcases hy with hy | hy
  ·exact vw hy
  ·exact absurd rfl (S.LK _ (PySem.mem_of_lookup hy))
 ·exact mq (x.above y c (PySem.mem_of_lookup h))
 ·have hi:i < vs.length:=by
   unfold start at h2
   by_cases hi:i < vs.length
   ·exact hi
   ·rw[fV (by simpa using hi)] at h2
    rw[tS] at h2
    split at h2<;>cases h2
  have ha:vs[i]? =some v:=by
   unfold start at h2
   rw[eO (by simpa using hi),i8] at h2
   cases e:vs[i]? with
   | none=>rw[e] at h2;cases h2
   | some a=>rw[e] at h2;cases h2;rfl
  obtain⟨u,hu,rv⟩:=r.get ha
  have hp:ps[i]? =some y:=by
   rw[<-S.pre,List.getElem?_take_of_lt (by omega)];exact h1
  have XA:ps.Nodup:=by rw[<-S.pre];exact S.nd.sublist (yR _ _)
  refine⟨u,rv,?_⟩
  rcases S.par y (yS hp) with k | k
  ·exact .inl ⟨k,sC XA hp hu k⟩
  ·obtain⟨c,e⟩:=vw (n:=s.heap.objs.size+1) k
   refine .inr ⟨.inl k,c,e,?_⟩
   have q:=x.cell y c e
   rw[sD XA hp hu (by show scope.names.lookup y≠_;rw[k];decide)] at q
   exact q
 ·exact e0.hok.fresh (mq (x.above y c (PySem.mem_of_lookup h)))
 ·unfold start
  show _=N.length
  rw[cW,gT,i9]
  omega
theorem PN{CX:Ca}{P:ac9}{w:ade}{K:PySem.W.Frag}{mg:Str->Option adb}{base:Heap}{k:Nat}{f:ac5}{name qual:Str}{params:Arguments}{body:List Stmt}{scope:Scope}{dV kV doc pm cdv ct oc:adb}{an od:Option ac5}
  {osl:Array (Option adb)}{N ps:List Str}{sp:Sp}(lk:K.lookup f=some ⟨oc,od,.func (PySem.W.fnOf name qual params body scope dV kV doc pm an cdv ct),osl⟩)(hcd:PySem.W.codeIn K cdv qual=true)(S:FnScope N ps scope)
  (len:∀vs H Q E,sp vs H Q E->vs.length=ps.length)
  (hbody:∀(A:ac6)(outer:List Env)(s:ada)(H:Hp)(vs:List V)(Q:VK)(E:XK),iw k (A.deeper (envOfC qual scope s.heap.objs.size f cdv))->sp vs H Q E->
   ∃t,Cg (rE CX P w K mg base N qual scope f cdv A outer s H E) body t/\t { nx:=λ_ H'=>Q .bz H',rt:=Q } (start N vs) H) :
  FnOk P w K mg base CX (k+1) f (PySem.W.fnOf name qual params body scope dV kV doc pm an cdv ct) ps sp:=by
 refine⟨len,λA outer s H args us vs Q E hr e0 hb r JV=>?_⟩
 have hl:=len _ _ _ _ JV
 have KX:K.In s.heap:=e0.mod.K9.keeps λb o e=>(e0.bs b o e).1
 have lim:s.heap.NoLimit:=e0.mod.nolimit.keeps λb o e=>(e0.bs b o e).1
 have hkind:∀y∈ps.zip us,scope.names.lookup y.1=some .local\/(scope.names.lookup y.1=some .cell/\((cellsFrom (s.heap.objs.size+1) scope.names []).lookup y.1).isSome=true):=λ⟨n,v⟩ hy=>by
  rcases S.par n (yQ hy).1 with q | q
  ·exact .inl q
  ·exact .inr ⟨q,PySem.W.cellsFrom_some _ _ _ (.inl q)⟩
 refine codeAny_call_function hr.depth (KX _ _ lk) rfl S.co S.gen rfl (PySem.W.codeRec_of KX hcd) (hb _ _ _ _ ?_)
 refine wpAny_newFunctionEnv_cells S.kind hkind λenv he s1 x=>?_
 subst he
 refine⟨lim.keeps x.toInCall.keep,codeAny_func ?_⟩
 obtain⟨t,ht,hq⟩:=hbody A outer s H vs Q E (hr.deeper _) JV
 have I:Inv (rE CX P w K mg base N qual scope f cdv A outer s H E) [] (start N vs) H s1:=AY S hr.hd e0 hl r x
 refine adv (ht [] s1 (start N vs) H _ I hq) (λfl s' hs=>?_) λe s' hs=>hs
 have fin:∀{σ':St}{H':Hp}{v:V}{u:adb},Inv (rE CX P w K mg base N qual scope f cdv A outer s H E) [] σ' H' s'->RelV v u->Q v H'->CE outer P w H s Q u s' :=
  λ{σ' H' v u} J rv q=>⟨v,H',J.os,J.bare,J.base,J.hok,rv,q⟩
 cases fl with
 | ret u=>
  obtain⟨v,σ',H',J,rv,q⟩:=hs
  exact fin J rv q
 | next=>
  obtain⟨σ',H',J,q⟩:=hs
  exact fin (v:=V.bz) (u:=cJ) J rfl q
 | brk=>
  obtain⟨_,_,_,q⟩:=hs
  exact ae q
 | cont=>
  obtain⟨_,_,_,q⟩:=hs
  exact ae q
section
variable {X:Cx} {x:Str} {p pos:Pos} {e:Expr} {es:List Expr} {t:TA} {id T:String} {r:List V->Hp->VK->Prop}
def XB(r:List V->Hp->VK->Prop)(t:TA):TE:=λσ H Q=>t σ H λvs H1=>r vs H1 Q
theorem Cy(hc:eL X (.builtin id) r)(hg:Gl X x)(hm:X.mg x=none)(hv:adh x=some (.builtin id))(ha:PA X (e::es) t)(hn:x≠"__name__":=by decide)(hdb:(x == ("__debug__":Str))=false:=by decide)
  (he:adp (e::es) X.env=(false,eval e X.env)::adp es X.env:=by rfl)(hpl:(backTo pos (adp es X.env)).any (·.1)=false:=by rfl):PE X (.Call (.Name x p) (e::es) [] pos) (XB r t):=by
 intro pins s σ H Q I h
 refine wpAny_Call_Name_kw (jS I hg hm hv ?_ hn hdb)
 exact PyProof.Rows.callWith_builtin1 (bo (ha pos pins s σ H _ I h) λus s1 ⟨vs,H1,I1,r1,q1⟩=>hc pins s1 σ H1 vs us Q I1 r1 q1) he hpl
theorem AZ(hc:eL X (.type T) r)(hg:Gl X x)(hm:X.mg x=none)(hv:adh x=some (.type T))(ha:PA X (e::es) t)(hn:x≠"__name__":=by decide)(hdb:(x == ("__debug__":Str))=false:=by decide)
  (he:adp (e::es) X.env=(false,eval e X.env)::adp es X.env:=by rfl)(hpl:(backTo pos (adp es X.env)).any (·.1)=false:=by rfl):PE X (.Call (.Name x p) (e::es) [] pos) (XB r t):=by
 intro pins s σ H Q I h
 refine wpAny_Call_Name_kw (jS I hg hm hv ?_ hn hdb)
 exact mv (bo (ha pos pins s σ H _ I h) λus s1 ⟨vs,H1,I1,r1,q1⟩=>hc pins s1 σ H1 vs us Q I1 r1 q1) he hpl
end
end L2
namespace HT
open PySem PyProof.Rows
section
open PySem.SeqAt
open PySem.AutoSeq1 (wpAny_loadPart')
open PySem.MeetsSeq PySem.MeetsSeq2 PySem.MeetsSeq3
end
section
variable {prog:ac9} {w:ade} {A:ac6} {E:adb->ada->Prop} {s:ada}
theorem Hf{t b:ac5}{vs ws:List adb}{Q:adb->ada->Prop}(ht:IsTup s.heap t vs.toArray)(hb:IsTup s.heap b ws.toArray)(hv:vs≠[])
  (h1:ws=[]->Q (.ref t) s)(h2:ws≠[]->Q (.ref s.heap.objs.size) { s with heap:=s.heap.push { cls:=.type "tuple",data:=.seq (vs++ws).toArray } })
  (hsz:vs.length+ws.length<=ado):adq (model prog w) A (adg .Add (.ref t) (.ref b)) Q E s:=by
 obtain⟨⟨cls,dd,data,sl⟩,ho,hc,n,hd⟩:=id ht
 obtain⟨⟨Uo,dd2,data2,sl2⟩,ho2,hc2,n2,hd2⟩:=id hb
 simp only at hc hd hc2 hd2
 subst hc hd hc2 hd2
 have e:vs.toArray++ws.toArray=(vs++ws).toArray:=by simp
 by_cases hw:ws=[]
 ·exact concat_meets ⟨_,ho,rfl⟩ ⟨_,ho2,rfl⟩ noFill_tuple_add seq_tuple_add PySem.F.slot_tuple_add PySem.F.entry_tuple_add (PySem.F.args_tuple_add_2 _ _)
   (tuple_addW1 t b vs.toArray ws.toArray n n2 dd dd2 sl sl2 (by simpa using hv) (by simp[hw])) ⟨ho,ho2,h1 hw⟩
 ·refine concat_meets ⟨_,ho,rfl⟩ ⟨_,ho2,rfl⟩ noFill_tuple_add seq_tuple_add PySem.F.slot_tuple_add PySem.F.entry_tuple_add (PySem.F.args_tuple_add_2 _ _)
   (tuple_addW2 t b vs.toArray ws.toArray n n2 dd dd2 sl sl2 (by simpa using hv) (by simpa using hw) (by rw[aO,aO];exact hsz)) ⟨ho,ho2,?_⟩
  rw[e]
  exact h2 hw
def dI(n d:Nat):Option Int->Nat
 | none=>d
 | some v=>if v < 0 then(v+(n:Int)).toNat else min v.toNat n
theorem LM(n d:Nat)(hd:d<=n)(o:Option Int):dI n d o<=n:=by
 cases o with
 | none=>exact hd
 | some v=>
  show(if v < 0 then(v+(n:Int)).toNat else min v.toNat n)<=n
  by_cases hv:v < 0
  ·rw[if_pos hv];omega
  ·rw[if_neg hv];exact Nat.min_le_right _ _
theorem yT(v:Int)(n d:Nat):(if v < 0 then max (v+(n:Int)) 0 else min v (n:Int))=((dI n d (some v):Nat):Int):=by
 show(if v < 0 then max (v+(n:Int)) 0 else min v (n:Int))=(((if v < 0 then(v+(n:Int)).toNat else min v.toNat n):Nat):Int)
 by_cases hv:v < 0
 ·simp only[if_pos hv];omega
 ·simp only[if_neg hv];omega
theorem xj(lo hi:Option Int)(n:Nat):Cz lo hi 1 (n:Int)=(((dI n 0 lo:Nat):Int),((dI n n hi:Nat):Int)):=by
 have h1:¬((1:Int) < 0):=by omega
 unfold Cz
 simp only[h1,if_false]
 refine Prod.ext ?_ ?_
 ·cases lo with
  | none=>rfl
  | some v=>exact yT v n 0
 ·cases hi with
  | none=>rfl
  | some v=>exact yT v n n
theorem xk(i j:Nat):xl (i:Int) (j:Int) 1=j - i:=by
 unfold xl
 have h1:(1:Int) > 0:=by omega
 simp only[h1,if_true,Int.ediv_one]
 split<;>omega
theorem pW{v:adb}{o:Option Int}{Q:Option Int->ada->Prop}(p:IsPart v o)(h:Q o s):adq (model prog w) A (Builtin.Slice.slicePartIndex v) Q E s:=by
 cases p with
 | none=>exact slicePart_none h
 | int i t=>exact slicePart_int h
theorem iQ{sl:ac5}{vl vu:adb}{lo hi:Option Int}{n:Nat}{Q:Int×Int×Nat->ada->Prop}(hs:s.heap.IsSliceOf sl vl vu .none)(pl:IsPart vl lo)(pu:IsPart vu hi)
  (h:Q (((dI n 0 lo:Nat):Int),1,dI n n hi - dI n 0 lo) s):adq (model prog w) A (LN (.ref sl) (pure (n:Int))) Q E s:=by
 obtain⟨os,hos,hcs,hds⟩:=id hs
 unfold LN Builtin.Slice.sliceFields
 refine ads (ads (wpAny_field hos hds (x:=vl) rfl (ads (wpAny_field hos hds (x:=vu) rfl (ads (wpAny_field hos hds (x:=.none) rfl (ady ?_)))))))
 refine ads (slicePart_none ?_)
 show adq _ _ (if((1:Int) == 0)=true then _ else _) _ _ s
 rw[if_neg (by decide)]
 refine ads (pW pl (ads (pW pu (ads (ady ?_)))))
 show adq _ _ (match Cz lo hi 1 (n:Int) with | (lo,hi)=>pure (lo,(1:Int),xl lo hi 1)) _ _ s
 rw[xj lo hi n]
 show adq _ _ (pure (((dI n 0 lo:Nat):Int),(1:Int),xl ((dI n 0 lo:Nat):Int) ((dI n n hi:Nat):Int) 1)) _ _ s
 rw[xk]
 exact ady h
theorem CA(xs:Array adb)(i k:Nat):((f9 k).filterMap λ(m:Nat)=>xs[((i:Int)+(m:Int) * 1).toNat]?).toArray=((xs.toList.drop i).take k).toArray:=by
 have e:(λ(m:Nat)=>xs[((i:Int)+(m:Int) * 1).toNat]?)=λm=>xs[i+m]?:=by
  funext m
  have:((i:Int)+(m:Int) * 1).toNat=i+m:=by omega
  rw[this]
 rw[e]
 have:=pick_run xs i k
 rw[List.filterMap_map] at this
 have e2:((λx=>xs[x]?) ∘ λx=>i+x)=λm=>xs[i+m]?:=rfl
 rw[e2] at this
 rw[this]
theorem mx{t sl:ac5}{items:Array adb}{vl vu:adb}{lo hi:Option Int}{Q:adb->ada->Prop}(ht:IsTup s.heap t items)(hs:s.heap.IsSliceOf sl vl vu .none)(pl:IsPart vl lo)(pu:IsPart vu hi)
  (hw:¬(dI items.size 0 lo=0/\dI items.size items.size hi=items.size))
  (h:Q (.ref s.heap.objs.size) { s with heap:=s.heap.push { cls:=.type "tuple",data:=.seq ((items.toList.drop (dI items.size 0 lo)).take (dI items.size items.size hi - dI items.size 0 lo)).toArray } })
  (hsz:items.size<=ado):adq (model prog w) A (getItem (.ref t) (.ref sl)) Q E s:=by
 have yU:sizeOk (.seq ((items.toList.drop (dI items.size 0 lo)).take (dI items.size items.size hi - dI items.size 0 lo)).toArray):=by
  show((items.toList.drop (dI items.size 0 lo)).take (dI items.size items.size hi - dI items.size 0 lo)).toArray.size<=ado
  rw[aO,mw,pw,Ck]
  omega
 have hj:dI items.size items.size hi<=items.size:=LM _ _ (aq _) hi
 obtain⟨os,hos,hcs,hds⟩:=id hs
 have ZC:s.TypeIs (.ref sl) "slice":=⟨os,hos,hcs⟩
 unfold getItem
 try with_reducible refine adu ?_
 first | refine ads (ady ?_) | skip
 refine ads (wpAny_sequenceKey ht.typeIs (by decide) ?_)
 refine ads (wpAny_callSpecial?_slot (name:=my "__getitem__") ht.typeIs tT
  (wpAny_call_entry tT ht.typeIs entry_tuple_getitem ?_ (args_tuple_getitem _ _)))
 show adq _ _ (LO (.ref t) >>= _) _ _ s
 refine ads (tupleItemsOf_ ht ?_)
 refine ads (wpAny_typeOf ZC ?_)
 rw[if_pos (by decide)]
 refine ads (iQ hs pl pu ?_)
 have hno:¬((((dI items.size 0 lo:Nat):Int) == 0&&(1:Int) == 1&&(dI items.size items.size hi - dI items.size 0 lo) == items.size)=true):=by
  intro q
  rw[cQ,cQ] at q
  have q1:((dI items.size 0 lo:Nat):Int)=0:=eq_of_beq q.1.1
  have q2:dI items.size items.size hi - dI items.size 0 lo=items.size:=eq_of_beq q.2
  exact hw ⟨by omega,by omega⟩
 show adq _ _ (if(((dI items.size 0 lo:Nat):Int) == 0&&(1:Int) == 1&&(dI items.size items.size hi - dI items.size 0 lo) == items.size)=true then _ else _) _ _ s
 rw[if_neg hno,CA]
 first
  | exact ads (m:=xm _) (adx (ady ⟨_,rfl,ady h⟩) yU)
  | exact ads (m:=xm _) (adx (ads (ady (ady ⟨_,rfl,ady h⟩))) yU)
  | exact ads (ads (m:=xm _) (adx (ady (ady ⟨_,rfl,ady h⟩)) yU))
  | exact ads (ads (m:=xm _) (adx (ady ⟨_,rfl,ady h⟩) yU))
end
end HT
namespace L2
open PySem PySem.Spec PyProof.Rows
abbrev TO:=St->Hp->(Option Int->Hp->Prop)->Prop
def PO(X:Cx)(e:Option Expr)(t:TO):Prop :=
 ∀(pins:List (ac5×Obj))(s:ada)(σ:St)(H:Hp)(Q:Option Int->Hp->Prop),Inv X pins σ H s->t σ H Q->
  adq (model X.prog X.w) X.A (evalPart e X.env) (λu s'=>∃o H',Inv X pins σ H' s'/\IsPart u o/\Q o H') X.xe s
def Hg:TO:=λ_ H Q=>Q none H
def PQ(t:TE):TO:=λσ H Q=>t σ H λx H1=>∃i,x= .int i/\Q (some i) H1
section
variable {X:Cx} {e:Expr} {te:TE} {lo hi:Option Expr} {tl th:TO} {pos p2:Pos}
theorem Hh:PO X none Hg:=by
 intro pins s σ H Q I h
 rw[evalPart_none]
 exact ady ⟨none,H,I,.none,h⟩
theorem Hj(h:PE X e te):PO X (some e) (PQ te):=by
 intro pins s σ H Q I hw
 rw[evalPart_some]
 refine bo (h pins s σ H _ I hw) λu s1 ⟨x,H1,I1,r1,q1⟩=>?_
 obtain⟨i,rfl,q⟩:=q1
 obtain⟨t,rfl⟩:=r1
 exact⟨some i,H1,I1,.int i t,q⟩
def GC(X:Cx)(r:V->Option Int->Option Int->Hp->VK->Prop):Prop :=
 ∀(pins:List (ac5×Obj))(s:ada)(σ:St)(H:Hp)(x:V)(v vl vu:adb)(lo hi:Option Int)(sl:ac5)(Q:VK),Inv X pins σ H s->RelV x v->s.heap.IsSliceOf sl vl vu .none->IsPart vl lo->IsPart vu hi->r x lo hi H Q->
  ∃T id,typeLookup (.type T) "__getitem__"=pure (some (.builtin id))/\s.TypeIs v T/\adq (model X.prog X.w) X.A (getItem v (.ref sl)) (EP X pins σ Q) X.xe s
theorem GC.or{r r':V->Option Int->Option Int->Hp->VK->Prop}(h:GC X r)(h':GC X r'):GC X (λx lo hi H Q=>r x lo hi H Q\/r' x lo hi H Q):=by
 intro pins s σ H x v vl vu lo hi sl Q I rx hs pl pu q
 rcases q with q | q
 ·exact h pins s σ H x v vl vu lo hi sl Q I rx hs pl pu q
 ·exact h' pins s σ H x v vl vu lo hi sl Q I rx hs pl pu q
def ZD(r:V->Option Int->Option Int->Hp->VK->Prop)(te:TE)(tl th:TO):TE:=λσ H Q=>te σ H λx H1=>tl σ H1 λl H2=>th σ H2 λu H3=>r x l u H3 Q
theorem pX{r:V->Option Int->Option Int->Hp->VK->Prop}(hr:GC X r)(he:PE X e te)(hl:PO X lo tl)(hu:PO X hi th):PE X (.Subscript e (.Slice lo hi none p2) pos) (ZD r te tl th):=by
 intro pins s σ H Q I h
 refine Subscript_ (bo (he pins s σ H _ I h) λv s1 ⟨x,H1,I1,r1,q1⟩=>?_)
 refine wpAny_Slice (bo (hl pins s1 σ H1 _ I1 q1) λvl s2 ⟨l,H2,I2,pl,q2⟩=>bo (hu pins s2 σ H2 _ I2 q2) λvu s3 ⟨u,H3,I3,pu,q3⟩=>?_)
 rw[evalPart_none]
 refine ady ?_
 have I4:Inv X pins σ H3 { s3 with heap:=s3.heap.push { cls:=.type "slice",data:=.fields #[vl,vu,.none] } }:=I3.kept (t':=s3.toks) λb ob q=>aK _ q
 obtain⟨T,id,hT,ht,hg⟩:=hr pins { s3 with heap:=s3.heap.push { cls:=.type "slice",data:=.fields #[vl,vu,.none] } } σ H3 x v vl vu l u s3.heap.objs.size Q I4 r1 (Heap.IsSliceOf.new ..) pl pu q3
 show adq (model X.prog X.w) X.A (subscriptTail e (.Slice lo hi none p2) v (.ref s3.heap.objs.size)) (EP X pins σ Q) X.xe { s3 with heap:=s3.heap.push { cls:=.type "slice",data:=.fields #[vl,vu,.none] } }
 exact tail_any (ops:=[.ref s3.heap.objs.size,v]) ht hT hg (by with_unfolding_all rfl)
def rF(xs:List V)(lo hi:Option Int):List V:=(xs.drop (HT.dI xs.length 0 lo)).take (HT.dI xs.length xs.length hi - HT.dI xs.length 0 lo)
theorem oE(xs:List V)(lo hi:Option Int):(rF xs lo hi).length<=xs.length:=by
 unfold rF
 rw[mw,pw]
 omega
def Uq(K:PySem.W.Frag):V->Option Int->Option Int->Hp->VK->Prop:=λx lo hi H Q=>∃a xs,x= .ref a/\eJ K H a xs/\
 ¬(HT.dI xs.length 0 lo=0/\HT.dI xs.length xs.length hi=xs.length)/\∀p,H p=none->Q (.ref p) (upd H p (.tup (rF xs lo hi)))
theorem CB:GC X (Uq X.K):=by
 intro pins s σ H x v vl vu lo hi sl Q I rx hs pl pu h
 obtain⟨a,xs,rfl,hx,hw,q⟩:=h
 cases rx
 obtain⟨its,r,ht,hz⟩:=I.tuple hx
 have hlen:its.toArray.size=xs.length:=by rw[aO];exact r.length.symm
 refine⟨"tuple",_,PyProof.Rows.slot_tuple_getitem.lookup,ht.typeIs,?_⟩
 refine HT.mx ht hs pl pu (by rw[hlen];exact hw) ?_ (by rw[hlen];exact hz)
 rw[hlen]
 refine⟨.ref s.heap.objs.size,_,I.laid (t':=s.toks) (o:=.tup (rF xs lo hi)) (λb ob q=>aK _ q) (aq _) ?_,rfl,q _ (I.hok.fresh (aq _))⟩
 exact⟨bp (oE xs lo hi) hz,_,(r.drop (HT.dI xs.length 0 lo)).take (HT.dI xs.length xs.length hi - HT.dI xs.length 0 lo),IsTup.new _ _,w9.new _ _⟩
def PR(K:PySem.W.Frag):R2:=λx y H Q=>∃a b xs ys,x= .ref a/\y= .ref b/\eJ K H a xs/\eJ K H b ys/\xs≠[]/\xs.length+ys.length<=ado/\
 (ys=[]->Q (.ref a) H)/\(ys≠[]->∀p,H p=none->Q (.ref p) (upd H p (.tup (xs++ys))))
theorem Vals.tU{xs:List V}{us:List adb}(r:Vals xs us):us=[]↔xs=[]:=by
 cases r with
 | nil=>simp
 | cons _ _=>simp
theorem Hk:fB X (adg .Add) (PR X.K):=by
 intro pins s σ H x y v u Q I rx ry h
 obtain⟨a,b,xs,ys,rfl,rfl,ha,hb,hx,hz,q1,q2⟩:=h
 cases rx
 cases ry
 obtain⟨its,r1,p1,_⟩:=I.tuple ha
 obtain⟨its2,r2,p2,_⟩:=I.tuple hb
 refine HT.Hf p1 p2 (λz=>hx (r1.tU.mp z)) (λz=>⟨.ref a,H,I,rfl,q1 (r2.tU.mp z)⟩) (λz=>?_) (by rw[<-r1.length,<-r2.length];exact hz)
 refine⟨.ref s.heap.objs.size,_,I.laid (t':=s.toks) (o:=.tup (xs++ys)) (λb ob q=>aK _ q) (aq _) ?_,rfl,q2 (λw=>z (r2.tU.mpr w)) _ (I.hok.fresh (aq _))⟩
 exact⟨by rw[cW];exact hz,_,r1.append r2,IsTup.new _ _,w9.new _ _⟩
end
def Cb(n:Nat)(i:Int):Option Nat:=if 0<=i then(if i < n then some i.toNat else none) else if -(n:Int)<=i then some (i+n).toNat else none
def lM{α:Type}(xs:List α)(i:Int):Option α:=(Cb xs.length i).bind λj=>xs[j]?
theorem yV{n:Nat}{i:Int}{j:Nat}(h:Cb n i=some j):seqIndex? i n=some j/\j < n/\-(n:Int)<=i/\i < n:=by
 unfold Cb at h
 by_cases h0:0<=i
 ·rw[if_pos h0] at h
  by_cases h1:i < n
  ·rw[if_pos h1] at h
   have e:i.toNat=j:=Option.some.inj h
   exact⟨by rw[seqIndex_of h0 h1,e],by omega,by omega,h1⟩
  ·rw[if_neg h1] at h;cases h
 ·rw[if_neg h0] at h
  by_cases h1:-(n:Int)<=i
  ·rw[if_pos h1] at h
   have e:(i+n).toNat=j:=Option.some.inj h
   exact⟨by rw[seqIndex_neg (by omega) h1,e],by omega,h1,by omega⟩
  ·rw[if_neg h1] at h;cases h
theorem pz{α:Type}{xs:List α}{i:Int}{v:α}(h:lM xs i=some v):∃j,seqIndex? i xs.length=some j/\xs[j]? =some v/\j < xs.length/\-(xs.length:Int)<=i/\i < xs.length:=by
 unfold lM at h
 cases e:Cb xs.length i with
 | none=>rw[e] at h;cases h
 | some j=>
  rw[e] at h
  obtain⟨h1,h2,h3,h4⟩:=yV e
  exact⟨j,h1,h,h2,h3,h4⟩
theorem gU{α:Type}{xs:List α}{j:Nat}{v:α}(h:xs[j]? =some v):lM xs (j:Int)=some v:=by
 have hj:j < xs.length:=(List.getElem?_eq_some_iff.mp h).1
 have e:Cb xs.length (j:Int)=some j:=by
  unfold Cb
  rw[if_pos (by omega),if_pos (by omega)];simp
 unfold lM;rw[e];exact h
def yW(b:Expr):Prop:=∀o i,subscripted b false o i=operate [o,i] (getItem o i)
def Hl(X:Cx)(r:R2):Prop :=
 ∀(value slice:Expr)(pins:List (ac5×Obj))(s:ada)(σ:St)(H:Hp)(x y:V)(v u:adb)(Q:VK),Inv X pins σ H s->RelV x v->RelV y u->r x y H Q->
  subscripted slice false v u=operate [v,u] (getItem v u)->adq (model X.prog X.w) X.A (subscriptTail value slice v u) (EP X pins σ Q) X.xe s
def Ur(X:Cx)(id:String)(r:V->List V->Hp->VK->Prop):Prop :=
 ∀(pins:List (ac5×Obj))(s:ada)(σ:St)(H:Hp)(x:V)(xs:List V)(v:adb)(us:List adb)(Q:VK),Inv X pins σ H s->RelV x v->Vals xs us->r x xs H Q->
  adq (model X.prog X.w) X.A (call (.builtin id) (v::us)) (EP X pins σ Q) X.xe s
section
variable {X:Cx} {a b:Expr} {ta tb:TE} {pos:Pos}
theorem Hl.or{r r':R2}(h:Hl X r)(h':Hl X r'):Hl X (λx y H Q=>r x y H Q\/r' x y H Q):=by
 intro value slice pins s σ H x y v u Q I rx ry q hs
 rcases q with q | q
 ·exact h value slice pins s σ H x y v u Q I rx ry q hs
 ·exact h' value slice pins s σ H x y v u Q I rx ry q hs
theorem PU{r:R2}(hr:Hl X r)(ha:PE X a ta)(hb:PE X b tb)(hs:yW b):PE X (.Subscript a b pos) (Px r ta tb):=by
 intro pins s σ H Q I h
 exact Subscript_ (Ly ha hb I h λv u s2 x y H2 I2 rx ry q=>hr a b pins s2 σ H2 x y v u Q I2 rx ry q (hs _ _))
def PV(K:PySem.W.Frag):R2:=λx y H Q=>∃p xs i v,x= .ref p/\y= .int i/\jN K H p xs/\lM xs i=some v/\Q v H
def PX(K:PySem.W.Frag):R2:=λx y H Q=>∃p xs i v,x= .ref p/\y= .int i/\eJ K H p xs/\lM xs i=some v/\Q v H
def PY:R2:=λx y H Q=>∃z i c,x= .str z/\y= .int i/\z.length<=ado/\lM z.cps.toList i=some c/\Q (.str ⟨#[c]⟩) H
theorem Hm:Hl X (PV X.K):=by
 intro value slice pins s σ H x y v u Q I rx ry h hs
 obtain⟨p,xs,i,z,rfl,rfl,hq,he,q⟩:=h
 cases rx
 obtain⟨t,rfl⟩:=ry
 obtain⟨its,r,pl,hz⟩:=I.list hq
 obtain⟨j,h1,h2,h3,h4,h5⟩:=pz he
 obtain⟨w,ew,rw'⟩:=r.get h2
 have hl:=r.length
 have hn:=lK
 have fin:EP X pins σ Q w s:=⟨z,H,I,rw',q⟩
 by_cases h0:0<=i
 ·have hj:i.toNat=j:=by
   rw[seqIndex_of h0 h5] at h1
   exact Option.some.inj h1
  exact item_listR pl.isList h0 (by omega) (by rw[hj];simpa using ew) fin hs
 ·have hj:(i+(its.toArray.size:Int)).toNat=j:=by
   rw[seqIndex_neg (by omega) h4] at h1
   rw[aO,<-hl]
   exact Option.some.inj h1
  exact subscriptTail_builtinR (x:=w) pl.isList.typeIs slot_list_getitem.lookup
   (wpAny_getItem_list_neg (Q:=λr s'=>r=w/\EP X pins σ Q r s') pl.isList (by omega) (by rw[aO]<;>omega) (by omega) (by rw[hj];simpa using ew) ⟨rfl,fin⟩) hs
theorem LP:Hl X (PX X.K):=by
 intro value slice pins s σ H x y v u Q I rx ry h hs
 obtain⟨p,xs,i,z,rfl,rfl,hq,he,q⟩:=h
 cases rx
 obtain⟨t,rfl⟩:=ry
 obtain⟨its,r,pl,hz⟩:=I.tuple hq
 obtain⟨j,h1,h2,h3,h4,h5⟩:=pz he
 obtain⟨w,ew,rw'⟩:=r.get h2
 have hl:=r.length
 have hn:=lK
 have fin:EP X pins σ Q w s:=⟨z,H,I,rw',q⟩
 exact subscriptTail_builtinR (x:=w) pl.typeIs slot_tuple_getitem.lookup
  (getItem_tuple (j:=j) (Q:=λr s'=>r=w/\EP X pins σ Q r s') pl (by omega) (by omega) (by rw[aO,<-hl];exact h1) (by simpa using ew) ⟨rfl,fin⟩) hs
theorem LQ:Hl X PY:=by
 intro value slice pins s σ H x y v u Q I rx ry h hs
 obtain⟨z,i,c,rfl,rfl,hz,he,q⟩:=h
 obtain⟨t,rfl⟩:=rx
 obtain⟨t',rfl⟩:=ry
 obtain⟨j,h1,h2,h3,h4,h5⟩:=pz he
 have hl:z.cps.toList.length=z.length:=by simp[Str.length]
 rw[hl] at h1 h4 h5
 have hn:=lK
 exact tail_any (typeIs_str s z t) slot_str_getitem.lookup (getItem_str (c:=c) (by
  have e1:decide (i < -(2 ^ 63:Int))=false:=decide_eq_false (by omega)
  have e2:decide (i >= 2 ^ 63)=false:=decide_eq_false (by omega)
  rw[e1,e2,Bool.or_false]) (by rw[h1];simpa using h2) ⟨.str ⟨#[c]⟩,H,I.tok _,⟨_,rfl⟩,q⟩) hs
def XC(K:PySem.W.Frag):R2:=λx y H Q=>PV K x y H Q\/PX K x y H Q\/PY x y H Q
theorem LR:Hl X (XC X.K):=Hm.or (LP.or LQ)
theorem xn(its:List adb)(n j:Nat)(u:adb):kK (·.setIfInBounds j u) { cls:=.type "list",data:=.seq its.toArray n }={ cls:=.type "list",data:=.seq (its.set j u).toArray n }:=by
 simp[kK]
theorem Inv.lst{pins:List (ac5×Obj)}{σ:St}{H:Hp}{s:ada}{p:ac5}{xs:List V}(I:Inv X pins σ H s)(h:H p=some (.lst xs)) :
  ∃(its:List adb)(n:Nat),Vals xs its/\s.heap.get? p=some { cls:=.type "list",data:=.seq its.toArray n }/\xs.length<=ado:=by
 obtain⟨z,its,n,r,e⟩:=I.hok p _ h
 exact⟨its,n,r,e,z⟩
theorem Inv.LS{pins:List (ac5×Obj)}{σ:St}{H:Hp}{s:ada}{p:ac5}{xs ys:List V}{its its':List adb}{n n':Nat}{f:Obj->Obj}(I:Inv X pins σ H s)(h:H p=some (.lst xs))
  (ho:s.heap.get? p=some { cls:=.type "list",data:=.seq its.toArray n })(hf:f { cls:=.type "list",data:=.seq its.toArray n }={ cls:=.type "list",data:=.seq its'.toArray n' })(r:Vals ys its')(hz:ys.length<=ado)(t:Nat) :
  Inv X pins σ (upd H p (.lst ys)) { s with heap:=s.heap.update p f,toks:=t }:=by
 have e:(s.heap.update p f).get? p=some { cls:=.type "list",data:=.seq its'.toArray n' }:=by
  rw[nG f ho (by rw[hf]<;>rfl),hf]
 refine I.write (x:=p) (e:=p) (by rw[h];trivial) (.inl rfl) (λb u hb q=>(pY _ _ (ax hb)).trans q) ⟨_,e⟩ ?_
 exact⟨hz,its',n',r,e⟩
def PZ:V->V->V->Hp->(Hp->Prop)->Prop:=λo i v H Q=>∃p xs k j,o= .ref p/\i= .int k/\H p=some (.lst xs)/\Cb xs.length k=some j/\Q (upd H p (.lst (xs.set j v)))
theorem set_list:Pp X PZ:=by
 intro pins s σ H o i v ov iv u Q I ro ri rv h
 obtain⟨p,xs,k,j,rfl,rfl,hp,hj,q⟩:=h
 cases ro
 obtain⟨t,rfl⟩:=ri
 obtain⟨its,n,r,ho,hz⟩:=I.lst hp
 obtain⟨h1,h2,h3,h4⟩:=yV hj
 have hl:=r.length
 have hn:=lK
 have I':Inv X pins σ (upd H p (.lst (xs.set j v))) { s with heap:=s.heap.update p (kK (·.setIfInBounds j u)) } :=
  I.LS hp ho (xn its n j u) (r.set rv j) (by rw[List.length_set];exact hz) s.toks
 by_cases h0:0<=k
 ·have hk:k.toNat=j:=by
   rw[seqIndex_of h0 h4] at h1
   exact Option.some.inj h1
  exact PySem.W.ki_setAt ho h0 (by omega) (by rw[aO,<-hl];exact h4) (by rw[hk];exact⟨_,I',q⟩)
 ·have hk:(k+(its.toArray.size:Int)).toNat=j:=by
   rw[seqIndex_neg (by omega) h3] at h1
   rw[aO,<-hl]
   exact Option.some.inj h1
  exact PySem.W.ki_setBack ho (by omega) (by rw[aO,<-hl];exact h3) (by omega) (by rw[hk];exact⟨_,I',q⟩)
theorem tV(lo hi:Option Int)(n:Nat):(sliceBounds lo hi none n).1=((HT.dI n 0 lo:Nat):Int)/\(sliceBounds lo hi none n).2.1=((HT.dI n n hi:Nat):Int)/\(sliceBounds lo hi none n).2.2=1:=by
 refine⟨?_,?_,rfl⟩
 ·cases lo with
  | none=>simp[sliceBounds,HT.dI]
  | some i=>
   simp only[sliceBounds,HT.dI,Option.getD_none,show(1:Int) > 0 by decide,if_true]
   by_cases h:i < 0
   ·simp only[h,if_true]<;>omega
   ·simp only[h,if_false]<;>omega
 ·cases hi with
  | none=>simp[sliceBounds,HT.dI]
  | some i=>
   simp only[sliceBounds,HT.dI,Option.getD_none,show(1:Int) > 0 by decide,if_true]
   by_cases h:i < 0
   ·simp only[h,if_true]<;>omega
   ·simp only[h,if_false]<;>omega
theorem rG(its:List adb)(lo hi:Option Int):slicePick its.toArray lo hi none=((its.drop (HT.dI its.length 0 lo)).take (HT.dI its.length its.length hi - HT.dI its.length 0 lo)).toArray:=by
 obtain⟨h1,h2,h3⟩:=tV lo hi its.toArray.size
 unfold slicePick
 rw[h1,h2,h3]
 simp only[sliceRange_one,pick_run,aO]<;>rfl
def Us(K:PySem.W.Frag):V->Option Int->Option Int->Hp->VK->Prop:=λx lo hi H Q=>∃a xs,x= .ref a/\jN K H a xs/\∀p,H p=none->Q (.ref p) (upd H p (.lst (rF xs lo hi)))
theorem Ho:GC X (Us X.K):=by
 intro pins s σ H x v vl vu lo hi sl Q I rx hs pl pu h
 obtain⟨a,xs,rfl,hx,q⟩:=h
 cases rx
 obtain⟨its,r,ht,hz⟩:=I.list hx
 have hlen:=r.length
 refine⟨"list",_,slot_list_getitem.lookup,ht.isList.typeIs,?_⟩
 refine wpAny_getItem_list_slice ht.isList hs pl pu .none (by simp) ?_ (by rw[aO]<;>omega)
 rw[rG,<-hlen]
 refine⟨.ref s.heap.objs.size,_,I.laid (t':=s.toks) (o:=.lst (rF xs lo hi)) (λb ob q=>aK _ q) (aq _) ?_,rfl,q _ (I.hok.fresh (aq _))⟩
 exact⟨bp (oE xs lo hi) hz,_,0,(r.drop (HT.dI xs.length 0 lo)).take (HT.dI xs.length xs.length hi - HT.dI xs.length 0 lo),bB _ rfl⟩
def lC:V->Bool
 | .bz=>true
 | .bl _=>true
 | .int _=>true
 | .str _=>true
 | _=>false
def Hq:V->V->Bool
 | .bz,.bz=>true
 | .bl a,.bl b=>a == b
 | .bl a,.int b=>(if a then 1 else 0) == b
 | .int a,.bl b=>a == (if b then 1 else 0)
 | .int a,.int b=>a == b
 | .str a,.str b=>a == b
 | _,_=>false
theorem LU{A:ac6}{s:ada}{y x:V}{u v:adb}(ry:RelV y u)(rx:RelV x v)(fy:lC y=true)(fx:lC x=true):SeqAt.EqAt A s u v (Hq y x):=by
 cases y with
 | bz=>
  cases ry
  cases x with
  | bz=>cases rx;exact SeqAt.EqAt.same _
  | bl b=>cases rx;exact SeqAt.EqAt.none_bool b
  | int b=>obtain⟨t,rfl⟩:=rx;exact SeqAt.EqAt.none_int b t
  | str b=>obtain⟨t,rfl⟩:=rx;exact SeqAt.EqAt.none_str b t
  | _=>exact absurd (show false=true from fx) cR
 | bl a=>
  cases ry
  cases x with
  | bz=>cases rx;exact SeqAt.EqAt.bool_none a
  | bl b=>cases rx;exact SeqAt.EqAt.bool_bool a b
  | int b=>obtain⟨t,rfl⟩:=rx;exact SeqAt.EqAt.bool_int a b t
  | str b=>obtain⟨t,rfl⟩:=rx;exact SeqAt.EqAt.bool_str a b t
  | _=>exact absurd (show false=true from fx) cR
 | int a=>
  obtain⟨t',rfl⟩:=ry
  cases x with
  | bz=>cases rx;exact SeqAt.EqAt.int_none a t'
  | bl b=>cases rx;exact SeqAt.EqAt.int_bool a t' b
  | int b=>obtain⟨t,rfl⟩:=rx;exact SeqAt.EqAt.int_int a t' b t
  | str b=>obtain⟨t,rfl⟩:=rx;exact GN a t' b t
  | _=>exact absurd (show false=true from fx) cR
 | str a=>
  obtain⟨t',rfl⟩:=ry
  cases x with
  | bz=>cases rx;exact SeqAt.EqAt.str_none a t'
  | bl b=>cases rx;exact SeqAt.EqAt.str_bool a t' b
  | int b=>obtain⟨t,rfl⟩:=rx;exact GP a t' b t
  | str b=>obtain⟨t,rfl⟩:=rx;exact SeqAt.EqAt.str_str a t' b t
  | _=>exact absurd (show false=true from fx) cR
 | _=>exact absurd (show false=true from fy) cR
def xo(x:V)(u:adb):Bool:=match u with
 | .none=>Hq .bz x
 | .bool b=>Hq (.bl b) x
 | .int i _=>Hq (.int i) x
 | .str z _=>Hq (.str z) x
 | _=>false
theorem CC{x y:V}{u:adb}(r:RelV y u)(f:lC y=true):xo x u=Hq y x:=by
 cases y with
 | bz=>cases r;rfl
 | bl b=>cases r;rfl
 | int i=>obtain⟨t,rfl⟩:=r;rfl
 | str z=>obtain⟨t,rfl⟩:=r;rfl
 | _=>exact absurd (show false=true from f) cR
theorem mz{x:V}:∀{xs:List V}{us:List adb},Vals xs us->xs.all lC=true->us.any (xo x)=xs.any λy=>Hq y x
 | _,_,.nil,_=>rfl
 | y::xs,u::us,.cons r t,f=>by
  rw[eP,cQ] at f
  rw[iz,iz,CC r f.1,mz t f.2]
theorem jU{A:ac6}{s:ada}{x:V}{v:adb}(rx:RelV x v)(fx:lC x=true):∀{xs:List V}{us:List adb},Vals xs us->xs.all lC=true->∀u∈us,SeqAt.EqAt A s u v (xo x u)
 | _,_,.nil,_=>λu hu=>by cases hu
 | y::xs,u::us,.cons r t,f=>λu' hu=>by
  rw[eP,cQ] at f
  rcases List.mem_cons.mp hu with rfl | hu
  ·rw[CC r f.1];exact LU r rx f.1 fx
  ·exact jU rx fx t f.2 u' hu
def Sn(x:V)(xs:List V):Bool:=xs.any λy=>Hq y x
def XD(K:PySem.W.Frag)(neg:Bool):R2:=λx y H Q=>∃p xs,y= .ref p/\(jN K H p xs\/eJ K H p xs)/\lC x=true/\xs.all lC=true/\Q (.bl (if neg then !Sn x xs else Sn x xs)) H
theorem A1:fB X (adk .In) (XD X.K false):=by
 intro pins s σ H x y v u Q I rx ry h
 obtain⟨p,xs,rfl,hq,fx,fs,q⟩:=h
 cases ry
 rcases hq with hq | hq
 ·obtain⟨its,r,pl,hz⟩:=I.list hq
  refine SeqAt.in_listAt (xo x) pl.isList (λw hw=>jU rx fx r fs w (by simpa using hw)) ⟨.bl _,H,I,rfl,?_⟩
  rw[show its.toArray.any (xo x)=its.any (xo x) by simp,mz r fs]
  exact q
 ·obtain⟨its,r,pl,hz⟩:=I.tuple hq
  refine SeqAt.in_tupleAt (xo x) pl (λw hw=>jU rx fx r fs w (by simpa using hw)) ⟨.bl _,H,I,rfl,?_⟩
  rw[show its.toArray.any (xo x)=its.any (xo x) by simp,mz r fs]
  exact q
theorem tW:fB X (adk .NotIn) (XD X.K true):=by
 intro pins s σ H x y v u Q I rx ry h
 obtain⟨p,xs,rfl,hq,fx,fs,q⟩:=h
 cases ry
 rcases hq with hq | hq
 ·obtain⟨its,r,pl,hz⟩:=I.list hq
  refine SeqAt.notIn_listAt (xo x) pl.isList (λw hw=>jU rx fx r fs w (by simpa using hw)) ⟨.bl _,H,I,rfl,?_⟩
  rw[show its.toArray.any (xo x)=its.any (xo x) by simp,mz r fs]
  exact q
 ·obtain⟨its,r,pl,hz⟩:=I.tuple hq
  refine SeqAt.notIn_tupleAt (xo x) pl (λw hw=>jU rx fx r fs w (by simpa using hw)) ⟨.bl _,H,I,rfl,?_⟩
  rw[show its.toArray.any (xo x)=its.any (xo x) by simp,mz r fs]
  exact q
theorem tX:fB X (adk .NotIn) (λx y H Q=>∃i j,x= .str i/\y= .str j/\Q (.bl (!(!(xc j i 0 j.length 1).isEmpty))) H):=by
 intro pins s σ H x y v u Q I rx ry h
 obtain⟨i,j,rfl,rfl,q⟩:=h
 obtain⟨t,rfl⟩:=rx
 obtain⟨t',rfl⟩:=ry
 exact notIn_str ⟨.bl _,H,I,rfl,q⟩
theorem tY:eL X (.builtin "len") (λxs H Q=>∃p ys,xs=[.ref p]/\(jN X.K H p ys\/eJ X.K H p ys)/\Q (.int ys.length) H):=by
 intro pins s σ H xs us Q I r h
 obtain⟨p,ys,rfl,hq,q⟩:=h
 obtain⟨u,rfl,rx⟩:=vals1 r
 cases rx
 have hn:=lK
 rcases hq with hq | hq
 ·obtain⟨its,r',pl,hz⟩:=I.list hq
  have hlen:=r'.length
  exact Calls.call_len_list pl.isList (by simp only[aO]<;>omega) ⟨.int ys.length,H,I.tok _,⟨s.toks+1,by rw[aO,hlen]⟩,q⟩
 ·obtain⟨its,r',pl,hz⟩:=I.tuple hq
  have hlen:=r'.length
  exact len_tuple pl (by simp only[aO]<;>omega) ⟨.int ys.length,H,I.tok _,⟨s.toks+1,by rw[aO,hlen]⟩,q⟩
theorem tZ:eL X (.builtin "len") (λxs H Q=>∃z,xs=[.str z]/\z.length<=ado/\Q (.int z.length) H):=by
 intro pins s σ H xs us Q I r h
 obtain⟨z,rfl,hz,q⟩:=h
 obtain⟨u,rfl,t,rfl⟩:=vals1 r
 have hn:=lK
 exact len_str (by omega) ⟨.int z.length,H,I.tok _,⟨_,rfl⟩,q⟩
theorem eL.or{f:adb}{r r':List V->Hp->VK->Prop}(h:eL X f r)(h':eL X f r'):eL X f (λxs H Q=>r xs H Q\/r' xs H Q):=by
 intro pins s σ H xs us Q I rs q
 rcases q with q | q
 ·exact h pins s σ H xs us Q I rs q
 ·exact h' pins s σ H xs us Q I rs q
theorem rH:eL X (.type "tuple") (λxs H Q=>∃p ys,xs=[.ref p]/\((jN X.K H p ys/\∀l,H l=none->Q (.ref l) (upd H l (.tup ys)))\/(eJ X.K H p ys/\Q (.ref p) H))):=by
 intro pins s σ H xs us Q I r h
 obtain⟨p,ys,rfl,h⟩:=h
 obtain⟨u,rfl,rx⟩:=vals1 r
 cases rx
 rcases h with ⟨hq,q⟩ | ⟨hq,q⟩
 ·obtain⟨its,r',pl,hz⟩:=I.list hq
  have hlen:=r'.length
  refine call_tuple_list pl.isList (λh' kp=>?_) (by simp only[aO]<;>omega)
  have I1:Inv X pins σ H { s with heap:=h' }:=I.kept (t':=s.toks) kp
  have I2:Inv X pins σ (upd H h'.objs.size (.tup ys)) { s with heap:=h'.push { cls:=.type "tuple",data:=.seq its.toArray } } :=
   I1.laid (t':=s.toks) (λb o e=>aK _ e) (aq _) (show dH X.prog X.w _ _ _ (.tup ys) from⟨hz,its,r',IsTup.new _ _,w9.new _ _⟩)
  exact⟨.ref h'.objs.size,_,I2,rfl,q _ (I1.hok.fresh (aq _))⟩
 ·obtain⟨its,r',pl,hz⟩:=I.tuple hq
  exact call_tuple_same pl ⟨.ref p,H,I,rfl,q⟩
def So(K:PySem.W.Frag)(T:String)(x:V)(H:Hp):Prop:=match x with
 | .str _=>T="str"
 | .int _=>T="int"
 | .ref p=>(T="list"/\∃xs,jN K H p xs)\/(T="tuple"/\((∃o,K.lookup p=some o/\o.cls= .type "tuple"/\o.dict=none)\/∃xs,H p=some (.tup xs)))\/
   (T="dict"/\((∃kvs,H p=some (.dK kvs))\/∃kvs,H p=some (.dT kvs)))\/(T="set"/\∃S n,H p=some (.set S n))
 | _=>False
theorem xp{pins:List (ac5×Obj)}{σ:St}{H:Hp}{s:ada}{T:String}{x:V}{v:adb}(I:Inv X pins σ H s)(r:RelV x v)(ty:So X.K T x H) :
  s.TypeIs v T/\∀a,v= .ref a->∃ob,s.heap.get? a=some ob/\ob.dict=none:=by
 cases x with
 | str z=>
  obtain⟨t,rfl⟩:=r
  cases (show T="str" from ty)
  exact⟨typeIs_str s z t,λ_ e=>nomatch e⟩
 | int i=>
  obtain⟨t,rfl⟩:=r
  cases (show T="int" from ty)
  exact⟨typeIs_int s i t,λ_ e=>nomatch e⟩
 | ref p=>
  cases r
  rcases ty with ⟨rfl,xs,hq⟩ | ⟨rfl,⟨o,hk,hc,hd⟩ | ⟨xs,hk⟩⟩ | ⟨rfl,hk⟩ | ⟨rfl,S,n,hk⟩
  ·obtain⟨its,_,pl,_⟩:=I.list hq
   refine⟨pl.isList.typeIs,λa e=>?_⟩
   cases e
   obtain⟨o,n,e,c,hd,_⟩:=pl
   exact⟨o,e,hd⟩
  ·refine⟨⟨o,I.w_ p o hk,hc⟩,λa e=>?_⟩
   cases e
   exact⟨o,I.w_ _ o hk,hd⟩
  ·obtain⟨_,_,_,⟨o,e1,e2,_⟩,nd⟩:=I.hok p _ hk
   refine⟨⟨o,e1,e2⟩,λa e=>?_⟩
   cases e
   exact⟨o,e1,nd o e1⟩
  ·have z:∃o,s.heap.get? p=some o/\o.ExactDict:=by
    rcases hk with ⟨kvs,hk⟩ | ⟨kvs,hk⟩
    ·obtain⟨_,_,_,_,o,_,_,e,ex,_⟩:=I.hok p _ hk
     exact⟨o,e,ex⟩
    ·obtain⟨_,_,_,_,o,_,_,e,ex,_⟩:=I.hok p _ hk
     exact⟨o,e,ex⟩
   obtain⟨o,e,ex⟩:=z
   refine⟨⟨o,e,ex.1⟩,λa e2=>?_⟩
   cases e2
   exact⟨o,e,ex.2.1⟩
  ·obtain⟨o,_,_,_,e,ex,_⟩:=I.hok p _ hk
   refine⟨⟨o,e,ex.1⟩,λa e2=>?_⟩
   cases e2
   exact⟨o,e,ex.2.1⟩
 | _=>exact ae ty
def ZE(K:PySem.W.Frag)(T:String)(r:V->List V->Hp->VK->Prop)(to:TE)(t:TA):TE:=λσ H Q=>to σ H λx H1=>So K T x H1/\t σ H1 λxs H2=>r x xs H2 Q
variable {o e:Expr} {es:List Expr} {to:TE} {t:TA} {name:Str} {apos cpos:Pos} {T id:String} {r:V->List V->Hp->VK->Prop}
theorem P0(pa:PlainAttrs T)(slot:Slot T name id)(hty:typeOf (.builtin id)=pure (.type "method_descriptor"))(hm:Ur X id r)(ho:PE X o to)(ha:PA X (e::es) t)
  (hbase:attributeBase o name X.env (eval o X.env)=eval o X.env:=by rfl)
  (hfew:((backTo cpos (adp (e::es) X.env)).all (λx=> !x.1)&&(backToKw cpos (keywordEach [] X.env)).all (λx=>x.1.isSome)
   &&decide ((e::es).length+([]:List Keyword).length+(if([]:List Keyword).isEmpty then 0 else 1) < 30))=true:=by rfl)
  (hline:(apos.endLine == cpos.line)=true:=by rfl)(hs:adp (e::es) X.env=(false,eval e X.env)::adp es X.env:=by rfl)(hplain:(backTo cpos (adp es X.env)).any (·.1)=false:=by rfl) :
  PE X (.Call (.Attribute o name apos) (e::es) [] cpos) (ZE X.K T r to t):=by
 intro pins s σ H Q I h
 refine wpAny_Call_method_late hbase hfew hline rfl (bo (ho pins s σ H _ I h) λv s1 ⟨x,H1,I1,r1,ty,q1⟩=>?_)
 obtain⟨h1,h2⟩:=xp I1 r1 ty
 refine⟨T,id,pa,slot,hty,h1,h2,?_⟩
 have hA:=ha cpos pins s1 σ H1 _ I1 q1
 rw[hs] at hA ⊢
 refine pZ (by show(false||(backTo cpos (adp es X.env)).any (·.1))=false;rw[hplain]<;>rfl) (t7 ?_)
 exact bo hA λus s2 ⟨vs,H2,I2,r2,q2⟩=>hm pins s2 σ H2 x vs v us Q I2 r1 r2 q2
/- xs.append(e),list.index on a P1 tuple .. are Ur facts of 06m -/
end
def P4(X:Cx)(id:String)(r:V->List V->Hp->VK->Prop):Prop :=
 ∀(pins:List (ac5×Obj))(s:ada)(σ:St)(H:Hp)(x:V)(xs:List V)(v:adb)(us:List adb)(Q:VK),Inv X pins σ H s->RelV x v->Vals xs us->r x xs H Q->
  adq (model X.prog X.w) X.A (call (.builtin id) (v::us)) (EP X pins σ Q) X.xe s
theorem Vals.one:∀{x:V}{us:List adb},Vals [x] us->∃u,us=[u]/\RelV x u
 | _,_,.cons r .nil=>⟨_,rfl,r⟩
theorem Vals.zero:∀{us:List adb},Vals [] us->us=[]
 | _,.nil=>rfl
theorem Vals.rep{xs:List V}{us:List adb}(h:Vals xs us):∀k:Nat,Vals (aJ k xs).flatten (aJ k us).flatten
 | 0=> .nil
 | k+1=>by
  rw[gW,gW,p_,p_]
  exact Vals.append h (Vals.rep h k)
theorem foldl_rep(its:List adb):∀(k:Nat)(acc:List adb),
  List.foldl (λx1 x2=>x1++x2) acc.toArray (aJ k its.toArray)=(acc++(aJ k its).flatten).toArray
 | 0,acc=>by simp
 | k+1,acc=>by
  have e:acc.toArray++its.toArray=(acc++its).toArray:=by simp
  have e2:(acc++its)++(aJ k its).flatten=acc++(aJ (k+1) its).flatten:=by
   rw[gW,p_,nH]
  rw[<-e2,<-foldl_rep its k (acc++its),<-e,gW,CD]
section
variable {X:Cx} {pins:List (ac5×Obj)} {σ:St} {H:Hp} {s:ada} {l b:ac5} {xs ys zs:List V}
theorem Inv.Hr{its its':List adb}{n:Nat}{f:Array adb->Array adb}{t':Nat}(I:Inv X pins σ H s)(hH:H l=some (.lst xs))
  (e:s.heap.get? l=some { cls:=.type "list",data:=.seq its.toArray n })(hf:f its.toArray=its'.toArray)(hv:Vals ys its')(hz:ys.length<=ado) :
  Inv X pins σ (upd H l (.lst ys)) { s with heap:=s.heap.update l (kK f),toks:=t' }:=by
 have q:=PySem.IsL.update e f
 rw[hf] at q
 refine I.write (x:=l) (e:=l) (by rw[hH];exact trivial) (.inl rfl) (λb' u hb hu=>(pY s.heap (kK f) (ax hb)).trans hu) ⟨_,q⟩ ?_
 exact⟨hz,its',_,hv,q⟩
theorem Inv.Hu{its:List adb}{t':Nat}(I:Inv X pins σ H s)(hv:Vals ys its)(hz:ys.length<=ado) :
  Inv X pins σ (upd H s.heap.objs.size (.lst ys)) { s with heap:=s.heap.push { cls:=.type "list",data:=.seq its.toArray },toks:=t' } :=
 I.laid (λ_ _ q=>aK _ q) (aq _) ⟨hz,its,0,hv,bB _ rfl⟩
theorem Inv.fresh(I:Inv X pins σ H s):H s.heap.objs.size=none:=I.hok.fresh (aq _)
theorem Inv.A2(I:Inv X pins σ H s)(hH:H l=some (.lst xs)):xs.length<=ado/\∃(its:List adb)(n:Nat),Vals xs its/\xs.length=its.length/\s.heap.get? l=some { cls:=.type "list",data:=.seq its.toArray n }:=by
 obtain⟨z,its,n,r,e⟩:=I.hok l _ hH
 exact⟨z,its,n,r,r.length,e⟩
theorem qa{n:Nat}(h:n<=ado):qb n=false:=by
 unfold qb
 exact decide_eq_false (by omega)
end
section
variable {X:Cx}
def Hv:V->List V->Hp->VK->Prop:=λx vs H Q=>∃l xs y,x= .ref l/\vs=[y]/\H l=some (.lst xs)/\xs.length < ado/\Q .bz (upd H l (.lst (xs++[y])))
theorem A3:P4 X "list.append" Hv:=by
 intro pins s σ H x vs v us Q I rx rv h
 obtain⟨l,xs,y,rfl,rfl,hH,hz,q⟩:=h
 cases rx
 obtain⟨u,rfl,ru⟩:=rv.one
 obtain⟨z,its,n,r,hl,e⟩:=I.A2 hH
 refine call_meets F.slot_list_append ⟨_,e,rfl⟩ F.entry_list_append (F.args_list_append_2 _ _) (PySem.list_append l its.toArray n u (by rw[aO];omega)) ⟨e,?_⟩
 refine⟨.bz,_,I.Hr (its':=its++[u]) hH e (by simp) (r.append (.cons ru .nil)) ?_,rfl,q⟩
 rw[cW,Hw]
 omega
def Hx:V->List V->Hp->VK->Prop:=λx vs H Q=>∃l b xs zs,x= .ref l/\vs=[.ref b]/\H l=some (.lst xs)/\H b=some (.lst zs)/\xs.length+zs.length<=ado/\Q .bz (upd H l (.lst (xs++zs)))
theorem A4:P4 X "list.extend" Hx:=by
 intro pins s σ H x vs v us Q I rx rv h
 obtain⟨l,b,xs,zs,rfl,rfl,hH,hB,hz,q⟩:=h
 cases rx
 obtain⟨u,rfl,ru⟩:=rv.one
 cases ru
 obtain⟨z,its,n,r,hl,e⟩:=I.A2 hH
 obtain⟨z2,its2,n2,r2,hl2,e2⟩:=I.A2 hB
 have hsz:its.toArray.size+its2.toArray.size<=ado:=by rw[aO,aO];omega
 have vx:¬(!its.toArray.isEmpty&&qb (its.toArray.size+its2.toArray.size))=true:=by
  rw[qa hsz,Bool.and_false]
  exact cR
 refine call_meets F.slot_list_extend ⟨_,e,rfl⟩ F.entry_list_extend (F.args_list_extend_2 _ _)
  (AutoSeq1.list_extend_list_list_0 l its.toArray n b its2.toArray n2 vx (by rw[aO];omega) (by omega)) ⟨e,e2,?_⟩
 refine⟨.bz,_,I.Hr (its':=its++its2) hH e (by simp) (r.append r2) ?_,rfl,q⟩
 rw[cW]
 omega
def CF:V->List V->Hp->VK->Prop:=λx vs H Q=>∃l xs,x= .ref l/\vs=[]/\H l=some (.lst xs)/\Q .bz (upd H l (.lst []))
theorem CG:P4 X "list.clear" CF:=by
 intro pins s σ H x vs v us Q I rx rv h
 obtain⟨l,xs,rfl,rfl,hH,q⟩:=h
 cases rx
 have Ut:=rv.zero
 subst Ut
 obtain⟨z,its,n,r,hl,e⟩:=I.A2 hH
 refine call_meets F.slot_list_clear ⟨_,e,rfl⟩ F.entry_list_clear (F.args_list_clear_1 _) (AutoSeq1.list_clear_list_0 l its.toArray n (by rw[aO];omega)) ⟨e,?_⟩
 exact⟨.bz,_,I.Hr (its':=[]) (ys:=[]) hH e rfl .nil (bq _),rfl,q⟩
def Uu:R2:=λx y H Q=>∃l k xs,x= .ref l/\y= .int k/\H l=some (.lst xs)/\-(2 ^ 63)<=k/\k < 2 ^ 63/\xs.length * k.toNat<=ado/\
 ∀p,H p=none->Q (.ref p) (upd H p (.lst (aJ k.toNat xs).flatten))
theorem len_rep{α:Type}(xs:List α)(k:Nat):(aJ k xs).flatten.length=k * xs.length:=by
 induction k with
 | zero=>simp
 | succ k ih=>rw[gW,p_,cW,ih,pA,Nat.add_comm]
theorem LV:fB X (adg .Mult) Uu:=by
 intro pins s σ H x y v u Q I rx ry h
 obtain⟨l,k,xs,rfl,rfl,hH,h1,h2,hz,q⟩:=h
 cases rx
 obtain⟨t,rfl⟩:=ry
 obtain⟨z,its,n,r,hl,e⟩:=I.A2 hH
 have hlen:its.toArray.size * k.toNat<=ado:=by rw[aO,<-hl];exact hz
 have hcap:¬its.toArray.size * k.toNat > (2 ^ 63 - 1) / 8:=by
  have:(ado:Nat)<=(2 ^ 63 - 1) / 8:=by decide
  omega
 have hfit:¬(!Builtin.List.listFitsIndex k)=true:=by
  rw[fitsIndex_both h1 h2]
  exact cR
 have vx:¬qb (its.toArray.size * k.toNat)=true:=by
  rw[qa hlen]
  exact cR
 have hnew:List.foldl (λx1 x2=>x1++x2) #[] (aJ (if its.toArray.isEmpty=true then 0 else k.toNat) its.toArray)=(aJ k.toNat its).flatten.toArray:=by
  have f0:∀m:Nat,List.foldl (λx1 x2=>x1++x2) #[] (aJ m its.toArray)=(aJ m its).flatten.toArray:=λm=>by
   have:=foldl_rep its m []
   rw[yX] at this
   exact this
  rw[f0]
  cases its with
  | nil=>simp
  | cons a r'=>rw[if_neg (by simp)]
 refine wpAny_binaryOp_repeat_ref (T:="list") (U:="int") (by decide) ⟨_,e,rfl⟩ (λs'=>typeIs_int s' k t) noFill_list_mul F.fills_int_mul F.slot_int_rmul repeat_list F.slot_int_index.lookup
  (call_meets F.slot_int_rmul (typeIs_int s k t) F.entry_int_rmul (F.args_int_rmul_2 _ _) (int___rmul___int_list k t l its.toArray n)
   ⟨e,rfl,⟨_,e,rfl⟩,call_meets F.slot_list_mul ⟨_,e,rfl⟩ F.entry_list_mul (F.args_list_mul_2 _ _) (AutoListH.list___mul___list_int_3 l its.toArray n k t hfit hcap vx) ⟨e,?_⟩⟩)
 rw[hnew]
 exact⟨.ref _,_,I.Hu (t':=s.toks) (r.rep k.toNat) (by rw[len_rep,pB];exact hz),rfl,q _ I.fresh⟩
end
section
variable {prog:ac9} {w:ade} {A:ac6} {E:adb->ada->Prop} {s:ada}
set_option maxRecDepth 100000 in
end
section
variable {X:Cx}
end
end L2
namespace Att
open PySem PySem.W PySem.Calls PyProof.Rows
theorem oU{P:Params}{h:Heap}:∀(ns:List Int)(vs:List adb),WellAll P h vs (ns.map WData.int)->IntsAre vs ns:=by
 intro ns
 induction ns with
 | nil=>
  intro vs w
  rw[mC] at w
  cases w
  exact .nil
 | cons n ns ih=>
  intro vs w
  rw[aL] at w
  cases w with
  | cons a b=>
   cases a
   exact .cons _ _ (ih _ b)
theorem A5{l:OpenLaw}{n:Nat}(hn:l.most=some n){P:Params}{h:Heap}{args:List WData}{vals:List adb}
  (hpre:l.row.toRowW.claim.pre args=true)(hwl:WellAll P h vals args) :
  ∃a vs ns,vals=[aQ a]/\args=[WData.list (ns.map WData.int)]/\h.get? a=some { cls:=.type "list",data:=.seq vs.toArray }/\IntsAre vs ns/\ns.length<=n:=by
 have hsh:WShape.hasAll [] args [.list .int]=true:=(pre_splitW hpre).1
 have hc:l.pre.holds [] { args:=args }=true:=(pre_splitW hpre).2
 obtain⟨d,r,rfl,h1,h2⟩:=hasAllW_cons hsh
 obtain rfl:=hasAllW_nil h2
 obtain⟨xs,rfl,h3⟩:=hasW_list h1
 obtain⟨ns,rfl⟩:=items_int h3
 have hlen:ns.length<=n:=by
  unfold OpenLaw.pre at hc
  have h4:(WTm.not (.lt (.lit (.int (n:Int))) (.len (.arg 0)))).holds [] { args:=[.list (ns.map .int)] }=true:=by
   have h4:=(holds_andW hc).1
   rw[hn] at h4
   exact h4
  have h5:=condW_of h4 (w_not (w_lt w_lit (w_len_list (w_arg rfl))))
  rw[gT] at h5
  refine Nat.le_of_not_lt λq=>?_
  have q':(n:Int) < ((ns.length:Nat):Int):=by omega
  first
   | (rw[decide_eq_true q'] at h5;exact absurd h5 (by decide))
   | (simp at h5;omega)
 cases hwl with
 | cons w1 w2=>
  cases w2
  cases w1 with
  | list ho hall=>exact⟨_,_,ns,rfl,rfl,ho,oU ns _ hall,hlen⟩
theorem A6(l:OpenLaw)(args:List WData):l.row.toRowW.claim.post args (.bool true) args=true :=
 postW_of (r:=l.row.toRowW) (X:=(true == true))
  (show WShape.has [] (.bool true) .bool=true by first | rfl | decide | simp[WShape.has,WShape.arms,WShape.armsAll])
  (show(WTm.eq .res (.lit (.bool true))).value [] { args:=args,res:=some (.bool true),after:=args }=some (.bool (true == true)) from w_eq_bool (w_res rfl) w_lit) rfl
theorem vz{l:OpenLaw}{n:Nat}{q:ac9}{loose:List Str}{XP:(Str->Option adb)->Heap->Prop}{YP:ade->Heap->Prop}{d:DefRec}
  (hn:l.most=some n)(hdf:d.params.defaults=[])
  (call:∀(w:ade)(s₀ s₁:ada)(mg mb:Str->Option adb)(fa:ac5)(o:Obj)(pm cd doc:adb)(a:ac5)(vs:List adb)(ns:List Int),
   Ground q loose [] XP w s₀ mg mb s₁.heap->YP w s₁.heap->
   s₁.heap.get? fa=some o->o.data= .func (docDef d.name d.params d.body d.scope pm cd doc)->s₁.heap.CodeRec cd d.name->mg d.name=some (.ref fa)->
   s₁.heap.get? a=some { cls:=.type "list",data:=.seq vs.toArray }->IntsAre vs ns->ns.length<=n->s₁.gens=#[]->
   adi (model l.prog w) callerA (.call (.ref fa) ⟨[.ref a],[]⟩) (λr s'=>r= .ok (.ret (.bool true))/\OldK s₁.heap s'.heap/\s'.os=s₁.os/\AllBare s'.gens) s₁) :
  WalkO q loose XP YP l.row.toRowW d [] (λf vs=>PySem.call f vs):=by
 intro w s₀ s₁ mg mb G Y fa o pm cd doc dV kV ho hd hcd hD hmg hg args vals as hpre hlay hrd hwl hlo
 obtain rfl:dV= .none:=Dflts.none hD hdf
 obtain rfl:kV= .none:=Dflts.noKw hD
 obtain⟨a,vs,ns,rfl,rfl,hobj,hints,hlen⟩:=A5 hn hpre hwl
 refine enter_call (codeAny_mono (call w s₀ s₁ mg mb fa o pm cd doc a vs ns G Y ho (fd_plain hd) hcd hmg hobj hints hlen hg) λr s' hq=>?_)
 obtain⟨rfl,h2,h3,h4⟩:=hq
 exact⟨.inl ⟨.bool true,.bool true,[],rfl,λ_=>rfl,.bool true,A6 l _,λ_=>⟨List.Pairwise.nil,λ_ hm=>(nomatch hm)⟩⟩,h2,h3,h4⟩
section
variable {prog:ac9} {w:ade} {A:ac6} {E:adb->ada->Prop} {s:ada} {K:Frag}
end
end Att
namespace L2
open PySem PySem.Spec PyProof.Rows
theorem sE:∀{vs:List adb}{ns:List Int},IntsAre vs ns->Vals (ns.map V.int) vs
 | _,_,.nil=> .nil
 | _,_,.cons n t h=> .cons ⟨t,rfl⟩ (sE h)
abbrev KOf{K:PySem.W.Frag}{h:Heap}(_:K.In h):PySem.W.Frag:=K
end L2
/- THE ZF Sq (shape;LID,My.* are XE):
   My.Adr: a structure of the addresses ZG your XF names (classes,OO);My.Txt K t: a structure (Prop) of the equations over K;
   My.LX:{K} {implicit addresses ..} (e1:nsIn K adn "law"=some (some (.ref f))) (e2:K.lookup f=some ⟨oc,od,.func (fnOf "law" "law" params body scope dV kV doc pm an cdv ct),sl⟩) (e3:codeIn K cdv "law"=true) ..:∃t,My.Txt K t
set_option maxRecDepth 100000 in
set_option maxHeartbeats 0 in
theorem PySem.Challenge.cw_LID_holds:PySem.Challenge.rw_LID.Holds:=by
 w_on;o_law;k_head;(case hw=>w_witness2)
 k_fill
 refine L2.walk_of (l:=PySem.Challenge.rw_LID) (n:=63) (k:=40) (x:="script") (CX:=fun w => ..) (sp:=fun _ => My.sp_law) rfl (by decide) rfl ⟨rfl,by decide,by decide⟩ (fun w h Y => PySem.W.kIn_of Y) ?F ?S ?C
 case F=>
  intro w mg fa h KX G hmg
  have T:∃t,My.Txt (L2.KOf KX) t:=by
   dsimp only[L2.KOf] -- K ZH stand as «<heap const> w.params» for k_is
   refine' My.LX ?e1 ?e2 ?e3 ..
   (case e1=>PySem.W.k_is) -- in the order: a name -> its address -> its object -> its parts
   (case e2=>PySem.W.k_is)
   ..
  obtain⟨t,T⟩:=T
  have e0:=hmg.symm.trans (PySem.W.mg_of KX G T.law)
  cases e0 -- fa is the XG own address
  exact⟨_,λs u=> .of_eq rfl,λbase kb nb=>My.LY T kb nb⟩ -- if «.of_eq rfl» comes too early: refine' ⟨_,?b,λbase kb nb=>My.LY T kb nb⟩;exact λs u=> .of_eq rfl
 case S=>exact λw H a ns hl hO hS=> ..
 case C=>exact ..
(the tactic k_is has no namespace: write k_is) -/
namespace L2
open PySem PySem.Spec PyProof.Rows
def defArgs(s:Stmt):Arguments:=match s with
 | .FunctionDef _ a _ _ _ _ _ _ _ _=>a
 | _=>{ posonlyargs:=[],args:=[],vararg:=none,kwonlyargs:=[],kw_defaults:=[],kwarg:=none,defaults:=[] }
def defBody(s:Stmt):List Stmt:=match s with
 | .FunctionDef _ _ b _ _ _ _ _ _ _=>b
 | _=>[]
def defScope(s:Stmt):Scope:=match s with
 | .FunctionDef _ _ _ _ _ _ sc _ _ _=>sc
 | _=>{ kind:=.function,names:=[],isGenerator:=false,isCoroutine:=false }
abbrev CX0:Ca:=λ_ _ _ _ _ _=>False
abbrev E0:XK:=λ_ _ _=>False
structure LZ(K:PySem.W.Frag)(x qual:Str)(st:Stmt)(f:ac5)(fd:ac7):Prop where
 ex:∃(oc:adb)(od:Option ac5)(kV doc pm:adb)(an:Option ac5)(cdv ct:adb)(osl:Array (Option adb)),
  fd=PySem.W.fnOf x qual (defArgs st) (defBody st) (defScope st) .none kV doc pm an cdv ct/\K.lookup f=some ⟨oc,od,.func fd,osl⟩/\PySem.W.codeIn K cdv qual=true
 kp:PySem.W.keepIn K (.ref f)=true
section
variable {P:ac9} {w:ade} {K:PySem.W.Frag} {mg:Str->Option adb} {base:Heap}
theorem LZ.binds{x qual:Str}{st:Stmt}{f:ac5}{fd:ac7}{ps:List Str}(F:LZ K x qual st f fd)
  (h:∀(kV doc pm:adb)(an:Option ac5)(cdv ct:adb)(us:List adb),us.length=ps.length->bindArgs (PySem.W.fnOf x qual (defArgs st) (defBody st) (defScope st) .none kV doc pm an cdv ct) ⟨us,[]⟩=pure (ps.zip us)):Binds K fd ps []:=by
 obtain⟨oc,od,kV,doc,pm,an,cdv,ct,osl,rfl,lk,hcd⟩:=F.ex
 exact .all (h kV doc pm an cdv ct)
theorem L0{x qual:Str}{st:Stmt}{f:ac5}{oc:adb}{od an:Option ac5}{osl:Array (Option adb)}{kV doc pm cdv ct:adb}(l:K.lookup f=some ⟨oc,od,.func (PySem.W.fnOf x qual (defArgs st) (defBody st) (defScope st) .none kV doc pm an cdv ct),osl⟩)
  (c:PySem.W.codeIn K cdv qual=true)(k:PySem.W.keepIn K (.ref f)=true):LZ K x qual st f (PySem.W.fnOf x qual (defArgs st) (defBody st) (defScope st) .none kV doc pm an cdv ct):=⟨⟨oc,od,kV,doc,pm,an,cdv,ct,osl,rfl,l,c⟩,k⟩
end
section
variable {X:Cx}
end
section
variable {κ : Type} [DecidableEq κ]
def mE(kvs : List (κ×V))(k : κ) : Option V := (kvs.find? λkv=>decide (kv.1=k)).map (·.2)
def putK(kvs : List (κ×V))(k : κ)(v : V) : List (κ×V) :=
 if(kvs.any λkv=>decide (kv.1=k))=true then kvs.map (λkv=>if kv.1=k then(kv.1, v) else kv) else kvs++[(k, v)]
def qc(kvs : List (κ×V))(k : κ) : List (κ×V) := kvs.filter λkv=>decide (kv.1≠k)
theorem mF{p : κ×V}{r : List (κ×V)}{k : κ}(e : p.1=k) : mE (p::r) k=some p.2 := by simp[mE, nI, e]
theorem mG{p : κ×V}{r : List (κ×V)}{k : κ}(e : ¬p.1=k) : mE (p::r) k=mE r k := by simp[mE, nI, e]
theorem vA(k : κ) : ∀kvs : List (κ×V), (kvs.any λkv=>decide (kv.1=k))=(mE kvs k).isSome
 | []=>rfl
 | p::r=>by
  rw[iz]
  by_cases e : p.1=k
  ·simp only[mF e, decide_eq_true e, Bool.true_or, Option.isSome_some]
  ·rw[mG e, decide_eq_false e, Bool.false_or];exact vA k r
theorem oF(kvs : List (κ×V))(k : κ)(v : V) : (putK kvs k v).length<=kvs.length+1 := by
 unfold putK
 split
 ·rw[gT];omega
 ·rw[cW, yY, List.length_nil];omega
theorem nB.sF{o : Option V}{u : Option adb}(r : nB o u) : o.isSome=u.isSome := by
 cases o with
 | none=>cases u with
  | none=>rfl
  | some _=>exact(show False from r).elim
 | some _=>cases u with
  | none=>exact(show False from r).elim
  | some _=>rfl
theorem nB.getD{o : Option V}{u : Option adb}{d : V}{d' : adb}(r : nB o u)(rd : RelV d d') : RelV (o.getD d) (u.getD d') := by
 cases o with
 | none=>cases u with
  | none=>exact rd
  | some _=>exact(show False from r).elim
 | some _=>cases u with
  | none=>exact(show False from r).elim
  | some _=>exact r
theorem KV.val{kvs : List (κ×V)}{vs : List (κ×adb)}(r : KV kvs vs)(k : κ) : nB (mE kvs k) (valueAt vs k) := by
 unfold KV at r
 induction r with
 | nil=>exact pC
 | @cons p q ps qs h t ih=>
  obtain⟨h1, h2⟩ := h
  by_cases e : p.1=k
  ·have e' : q.1=k := h1.symm.trans e
   have b : valueAt (q::qs) k=some q.2 := by simp[valueAt, nI, e']
   rw[mF e, b];exact h2
  ·have e' : ¬q.1=k := λz=>e (h1.trans z)
   have b : valueAt (q::qs) k=valueAt qs k := by simp[valueAt, nI, e']
   rw[mG e, b];exact ih
theorem KV.any{kvs : List (κ×V)}{vs : List (κ×adb)}(r : KV kvs vs)(k : κ) : (kvs.any λkv=>decide (kv.1=k))=vs.any λkv=>decide (kv.1=k) := by
 unfold KV at r
 induction r with
 | nil=>rfl
 | cons h t ih=>rw[iz, iz, ih, h.1]
theorem KV.repl{kvs : List (κ×V)}{vs : List (κ×adb)}(r : KV kvs vs)(k : κ){y : V}{u : adb}(ry : RelV y u) :
  KV (kvs.map λkv=>if kv.1=k then(kv.1, y) else kv) (vs.map λkv=>if kv.1=k then(kv.1, u) else kv) := by
 unfold KV at r ⊢
 induction r with
 | nil=>exact .nil
 | @cons p q ps qs h t ih=>
  rw[aL, aL]
  refine .cons ?_ ih
  obtain⟨h1, h2⟩ := h
  by_cases e : p.1=k
  ·rw[if_pos e, if_pos (h1.symm.trans e)];exact⟨h1, ry⟩
  ·rw[if_neg e, if_neg (λz=>e (h1.trans z))];exact⟨h1, h2⟩
theorem KV.put{kvs : List (κ×V)}{vs : List (κ×adb)}(r : KV kvs vs)(k : κ){y : V}{u : adb}(ry : RelV y u) : KV (putK kvs k y) (stored vs k u) := by
 unfold putK stored
 rw[r.any k]
 by_cases e : (vs.any λkv=>decide (kv.1=k))=true
 ·rw[if_pos e, if_pos e];exact r.repl k ry
 ·rw[if_neg e, if_neg e];exact Paired.snoc r ⟨rfl, ry⟩
theorem KV.length{kvs : List (κ×V)}{vs : List (κ×adb)}(r : KV kvs vs) : kvs.length=vs.length := Paired.length r
end
theorem vB{P : ac9}{w : ade}{k : Key}{u : adb}(r : RelV (kV k) u) : (bh P w).is k u=true := by
 cases k with
 | inl i=>obtain⟨t, e⟩ := (show ∃t, u=mj i t from r);subst e;exact vn P w i t
 | inr x=>obtain⟨t, e⟩ := (show ∃t, u=pj x t from r);subst e;exact vo P w x t
theorem sG{P : ac9}{w : ade} : ∀{ks : List Key}{us : List adb}, Vals (ks.map kV) us->ItemsAre (bh P w) ks us
 | [], _, r=>by rw[mC] at r;cases r;exact .nil
 | k::ks, _, r=>by
  rw[aL] at r
  cases r with
  | cons h t=>exact .cons (vB h) (sG t)
abbrev KT(H : Hp) : List (List Key×V)->List (List Key×ac5×adb)->Prop := Paired λp q=>p.1=q.1/\H q.2.1=some (.tup (p.1.map kV))/\RelV p.2 q.2.2
theorem KT.val{H : Hp}{kvs : List (List Key×V)}{xs : List (List Key×ac5×adb)}(r : KT H kvs xs)(k : List Key) : nB (mE kvs k) ((atKey xs k).map (·.2)) := by
 induction r with
 | nil=>exact pC
 | @cons p q ps qs h t ih=>
  obtain⟨h1, _, h2⟩ := h
  by_cases e : p.1=k
  ·have e' : q.1=k := h1.symm.trans e
   have b : atKey (q::qs) k=some q.2 := by simp[atKey, nI, e']
   rw[mF e, b];exact h2
  ·have e' : ¬q.1=k := λz=>e (h1.trans z)
   have b : atKey (q::qs) k=atKey qs k := by simp[atKey, nI, e']
   rw[mG e, b];exact ih
theorem KT.repl{H : Hp}{kvs : List (List Key×V)}{xs : List (List Key×ac5×adb)}(r : KT H kvs xs)(k : List Key){y : V}{u : adb}(ry : RelV y u) :
  KT H (kvs.map λkv=>if kv.1=k then(kv.1, y) else kv) (xs.map (putAt k u)) := by
 induction r with
 | nil=>exact .nil
 | @cons p q ps qs h t ih=>
  rw[aL, aL]
  refine .cons ?_ ih
  obtain⟨h1, h2, h3⟩ := h
  unfold putAt
  by_cases e : p.1=k
  ·rw[if_pos e, if_pos (h1.symm.trans e)];exact⟨h1, h2, ry⟩
  ·rw[if_neg e, if_neg (λz=>e (h1.trans z))];exact⟨h1, h2, h3⟩
theorem KT.put{H : Hp}{kvs : List (List Key×V)}{xs : List (List Key×ac5×adb)}(r : KT H kvs xs)(k : List Key){b : ac5}{y : V}{u : adb}(hb : H b=some (.tup (k.map kV)))(ry : RelV y u) :
  KT H (putK kvs k y) (storedH xs k b u) := by
 have e : (kvs.any λkv=>decide (kv.1=k))=(atKey xs k).isSome := by
  rw[vA, (r.val k).sF, Option.isSome_map]
 unfold putK storedH
 rw[e]
 by_cases q : (atKey xs k).isSome=true
 ·rw[if_pos q, if_pos q];exact r.repl k ry
 ·rw[if_neg q, if_neg q];exact Paired.snoc r ⟨rfl, hb, ry⟩
theorem KT.keeps{H H' : Hp}{kvs : List (List Key×V)}{xs : List (List Key×ac5×adb)}(r : KT H kvs xs)(ht : ∀b ys, H b=some (.tup ys)->H' b=some (.tup ys)) : KT H' kvs xs :=
 Paired.K7 r λ_ _ z=>⟨z.1, ht _ _ z.2.1, z.2.2⟩
section
variable {P : ac9} {w : ade} {H : Hp} {h : Heap} {a : ac5}
theorem CI{u : HO}(ok : jQ P w H h)(e : Rd H a u) : dH P w H h a u := e.ok ok
theorem sH{kvs : List (Key×V)}(ok : jQ P w H h)(e : Rd H a (.dK kvs)) : kvs.length<=ado/\(a == sysModules)=false/\∃vs, KV kvs vs/\h.DictOf (bh P w) a vs :=
 show dH P w H h a (.dK kvs) from CI ok e
theorem P5{kvs : List (Key×V)}(ok : jQ P w H h)(e : H a=some (.dK kvs)) : kvs.length<=ado/\(a == sysModules)=false/\∃vs, KV kvs vs/\h.DictOf (bh P w) a vs := sH ok (.inl e)
theorem nJ{ks : List Key}(ok : jQ P w H h)(e : H a=some (.tup (ks.map kV))) : (tupleKind (bh P w)).is h ks a := by
 obtain⟨_, its, r, ⟨o, h1, h2, n, h3⟩, _⟩ := (show dH P w H h a (.tup (ks.map kV)) from ok a _ e)
 exact⟨o, its.toArray, n, h1, h2, h3, by simpa using sG r⟩
theorem oG{kvs : List (List Key×V)}(ok : jQ P w H h)(e : Rd H a (.dT kvs)) : kvs.length<=ado/\(a == sysModules)=false/\
  ∃xs, KT H kvs xs/\h.DictOfH (tupleKind (bh P w)) a xs := by
 obtain⟨z, y, xs, r, o, es, ep, h1, h2, h3, h4, h5⟩ := (show dH P w H h a (.dT kvs) from CI ok e)
 refine⟨z, y, xs, r, o, es, ep, h1, h2, h3, h4, λx hx=>?_, h5⟩
 have all : ∀{l : List (List Key×V)}{m : List (List Key×ac5×adb)}, KT H l m->∀x∈m, (tupleKind (bh P w)).is h x.1 x.2.1 := by
  intro l m q
  induction q with
  | nil=>intro x hx;exact nomatch hx
  | @cons p q ps qs hq t ih=>
   intro x hx
   rcases List.mem_cons.mp hx with e | hx
   ·subst e
    exact nJ ok (by rw[<-hq.1];exact hq.2.1)
   ·exact ih x hx
 exact all r x hx
theorem JX{kvs : List (List Key×V)}(ok : jQ P w H h)(e : H a=some (.dT kvs)) : kvs.length<=ado/\(a == sysModules)=false/\
  ∃xs, KT H kvs xs/\h.DictOfH (tupleKind (bh P w)) a xs := oG ok (.inl e)
end
def lN(H : Hp)(a : ac5)(y : V)(r : Option V) : Prop :=
 (∃kvs k, Rd H a (.dK kvs)/\y=kV k/\r=mE kvs k)\/∃kvs k b, Rd H a (.dT kvs)/\y= .ref b/\H b=some (.tup (k.map kV))/\r=mE kvs k
def t8(H : Hp)(a : ac5)(y v : V)(H' : Hp) : Prop :=
 (∃kvs k, H a=some (.dK kvs)/\y=kV k/\kvs.length < ado/\H'=upd H a (.dK (putK kvs k v)))\/
 ∃kvs k b, H a=some (.dT kvs)/\y= .ref b/\H b=some (.tup (k.map kV))/\kvs.length < ado/\H'=upd H a (.dT (putK kvs k v))
theorem lN.k{H : Hp}{a : ac5}{kvs : List (Key×V)}{k : Key}(e : H a=some (.dK kvs)) : lN H a (kV k) (mE kvs k) := .inl ⟨kvs, k, .inl e, rfl, rfl⟩
theorem lN.t{H : Hp}{a b : ac5}{kvs : List (List Key×V)}{k : List Key}(e : H a=some (.dT kvs))(eb : H b=some (.tup (k.map kV))) : lN H a (.ref b) (mE kvs k) := .inr ⟨kvs, k, b, .inl e, rfl, eb, rfl⟩
theorem t8.k{H : Hp}{a : ac5}{kvs : List (Key×V)}{k : Key}{v : V}(e : H a=some (.dK kvs))(hl : kvs.length < ado) : t8 H a (kV k) v (upd H a (.dK (putK kvs k v))) := .inl ⟨kvs, k, e, rfl, hl, rfl⟩
theorem t8.t{H : Hp}{a b : ac5}{kvs : List (List Key×V)}{k : List Key}{v : V}(e : H a=some (.dT kvs))(eb : H b=some (.tup (k.map kV)))(hl : kvs.length < ado) :
  t8 H a (.ref b) v (upd H a (.dT (putK kvs k v))) := .inr ⟨kvs, k, b, e, rfl, eb, hl, rfl⟩
section
variable {X : Cx} {pins : List (ac5×Obj)} {σ : St} {H : Hp} {s : ada} {a : ac5} {y v : V} {u r : adb} {o : Option V} {A : ac6} {E : adb->ada->Prop}
theorem Inv.big(I : Inv X pins σ H s) : sysModules < s.heap.objs.size := by
 have h : adn < s.heap.objs.size := (I.mod.glob.keeps I.bk).lt
 exact Nat.lt_trans (by decide) h
theorem A7{Q : adb->ada->Prop}(hu : A.units+1 < cLine)(I : Inv X pins σ H s)(g : lN H a y (some v))(ry : RelV y u)(h : ∀w' s', Inv X pins σ H s'->RelV v w'->Q w' s') :
  adq (model X.prog X.w) A (getItem (.ref a) u) Q E s := by
 rcases g with ⟨kvs, k, e, ey, l⟩ | ⟨kvs, k, b, e, ey, eb, l⟩
 ·subst ey
  obtain⟨z, hd, vs, rel, dd⟩ := sH I.hok e
  obtain⟨w', hw, rw'⟩ := nB.some_of (v := v) (o := valueAt vs k) (by rw[l];exact rel.val k)
  exact wpAny_getItem_of (vB ry) dd.mapOf hw (h w' _ (I.tok _) rw')
 ·subst ey
  cases (show u=aQ b from ry)
  obtain⟨z, hd, xs, rel, dd⟩ := oG I.hok e
  obtain⟨w', hw, rw'⟩ := nB.some_of (v := v) (o := (atKey xs k).map (·.2)) (by rw[l];exact rel.val k)
  obtain⟨p, hp, hp2⟩ := Option.map_eq_some_iff.mp hw
  refine wpAny_getItem_heap (tupleKind_room_in1 hu) (nJ I.hok eb) dd hp ?_
  rw[hp2]
  exact h w' _ (I.tok _) rw'
theorem t9{h' : Heap}{t' : Nat}{ob : HO}(I : Inv X pins σ H s)(mu : O9 (H a))(hs : iu a s.heap h')(he : ∃q, h'.get? a=some q)(new : dH X.prog X.w (upd H a ob) h' a ob) :
  Inv X pins σ (upd H a ob) { s with heap := h', toks := t' } :=
 I.write (x := a) (e := a) mu (.inl rfl) (λb q hb z=>(hs.2 b hb).trans z) he new
theorem L3{P : ac9}{w : ade}{H' : Hp}{h' : Heap}{kvs : List (Key×V)}{vs : List (Key×adb)}(z : kvs.length<=ado)(hd : (a == sysModules)=false)(rel : KV kvs vs)(dd : h'.DictOf (bh P w) a vs) :
  dH P w H' h' a (.dK kvs) :=⟨z, hd, vs, rel, dd⟩
theorem A8{H' : Hp}{Q : Unit->ada->Prop}(hu : A.units+1 < cLine)(I : Inv X pins σ H s)(g : t8 H a y v H')(ry : RelV y u)(rv : RelV v r)(h : ∀s', Inv X pins σ H' s'->Q () s') :
  adq (model X.prog X.w) A (setItem (.ref a) u r) Q E s := by
 rcases g with ⟨kvs, k, e, ey, l, eH⟩ | ⟨kvs, k, b, e, ey, eb, l, eH⟩
 ·subst ey eH
  obtain⟨z, hd, vs, rel, dd⟩ := P5 I.hok e
  have hz : vs.length<=ado := by rw[<-rel.length];exact z
  have hl : (putK kvs k v).length<=ado := by have := oF kvs k v;omega
  refine wpAny_setItem_pairs (hsz := hz) (vB ry) dd λh' L4 hs=>h _ ?_
  have he : ∃q, h'.get? a=some q := let ⟨q, _, _, hq, _⟩ := L4;⟨q, hq⟩
  exact t9 I (by rw[e];exact pC) hs he (L3 hl hd (rel.put k rv) L4)
 ·subst ey eH
  cases (show u=aQ b from ry)
  obtain⟨z, hd, xs, rel, dd⟩ := JX I.hok e
  have hz : xs.length<=ado := by rw[<-Paired.length rel];exact z
  have hl : (putK kvs k v).length<=ado := by have := oF kvs k v;omega
  refine wpAny_setItem_heap (hsz := hz) (tupleKind_room_in1 hu) (nJ I.hok eb) dd λh' L4 hs=>h _ ?_
  obtain⟨q, es, ep, hq, h2, h3, h4, _, h5⟩ := L4
  refine t9 I (by rw[e];exact pC) hs ⟨q, hq⟩ ⟨hl, hd, _, (rel.put k eb rv).keeps λc ys ec=>?_, q, es, ep, hq, h2, h3, h4, h5⟩
  rw[aG (O8 ec e (λz=>nomatch z))]
  exact ec
end
section
variable {X : Cx} {pins : List (ac5×Obj)} {σ : St} {H : Hp} {s : ada} {a : ac5} {kvs : List (Key×V)} {k : Key} {u : adb} {A : ac6} {E : adb->ada->Prop}
end
def CJ(i : Expr) : Prop := ∀ov iv, subscripted i false ov iv=operate [ov, iv] (getItem ov iv)
theorem yZ{prog : ac9}{w : ade}{A : ac6}{E : adb->ada->Prop}{s : ada}{env : Env}{value slice : Expr}{pos : Pos}{T id : String}{Q : adb->ada->Prop}
  (hl : typeLookup (.type T) "__getitem__"=pure (some (.builtin id)))(hs : CJ slice)
  (h : adq (model prog w) A (eval value env) (λo s₁=>adq (model prog w) A (eval slice env) (λi s₂=>s₂.TypeIs o T/\adq (model prog w) A (getItem o i) Q E s₂) E s₁) E s) :
  adq (model prog w) A (eval (.Subscript value slice pos) env) Q E s := by
 refine Subscript_ (adv h (λo s₁ h₁=>adv h₁ (λi s₂ h₂=>?_) λ_ _ x=>x) λ_ _ x=>x)
 obtain⟨hT, h₂⟩ := h₂
 unfold subscriptTail
 refine ads ?_
 rw[getitemInPython_of_ne hT.not_modules]
 refine ads (wpAny_specialOf hT hl ?_)
 have fin : adq (model prog w) A (subscripted slice false o i) (λr s₃=>adq (model prog w) A (letTemporaryGo value o r >>= λ_=>pure r) Q E s₃) E s₂ := by
  rw[hs o i]
  exact wpAny_operating (adv h₂ (λr s₃ h₃=>ads (wpAny_letTemporaryGo (ady h₃))) λ_ _ x=>x)
 first
  | exact ady (ads fin)
  | exact ads (ady (ads fin))
  | exact ads fin
theorem vC{X : Cx}{pins : List (ac5×Obj)}{σ : St}{H : Hp}{s : ada}{a : ac5}{y : V}{o : Option V}(I : Inv X pins σ H s)(g : lN H a y o) : s.TypeIs (.ref a) "dict" := by
 rcases g with ⟨kvs, k, e, _, _⟩ | ⟨kvs, k, b, e, _, _, _⟩
 ·obtain⟨_, _, vs, _, dd⟩ := sH I.hok e
  exact dd.typeIs
 ·obtain⟨_, _, xs, _, dd⟩ := oG I.hok e
  exact dd.typeIs
def P6(td ty : TE) : TE := λσ H Q=>td σ H λx H1=>ty σ H1 λy H2=>∃a v, x= .ref a/\lN H2 a y (some v)/\Q v H2
def P7(td ty tv : TE) : TS := λD σ H=>tv σ H λv H1=>td σ H1 λx H2=>ty σ H2 λy H3=>∃a H4, x= .ref a/\t8 H3 a y v H4/\D.nx σ H4
section
variable {X : Cx} {o i e value : Expr} {pos pos' tpos : Pos} {td ty tv : TE}
theorem Hy(hu : X.A.units+1 < cLine)(ho : PE X o td)(hi : PE X i ty)(hs : CJ i) : PE X (.Subscript o i pos) (P6 td ty) := by
 intro pins s σ H Q I h
 refine yZ PySem.F.slot_dict_getitem.lookup hs (bo (ho pins s σ H _ I h) λu s1 ⟨x, H1, I1, rx, q1⟩=>bo (hi pins s1 σ H1 _ I1 q1) λiv s2 ⟨y, H2, I2, ry, a, v, ex, g, q2⟩=>?_)
 subst ex
 obtain rfl : u=aQ a := rx
 exact⟨vC I2 g, A7 hu I2 g ry λw' s3 I3 rw'=>⟨v, H2, I3, rw', q2⟩⟩
theorem Hz(hu : X.A.units+1 < cLine)(ho : PE X o td)(hi : PE X i ty)(hv : PE X value tv)(hs : swapsWith value (some (.Subscript o i pos')) pos.line X.env=pure false) :
  PS X (.Assign [.Subscript o i pos'] value pos) (P7 td ty tv) := by
 intro pins s σ H D I h
 refine wpAny_Assign_Subscript (bo (hv pins s σ H _ I h) λr s1 ⟨v, H1, I1, rv, q1⟩=>bo (ho pins s1 σ H1 _ I1 q1) λu s2 ⟨x, H2, I2, rx, q2⟩=>bo (hi pins s2 σ H2 _ I2 q2) λiv s3 ⟨y, H3, I3, ry, a, H4, ex, g, q3⟩=>?_) hs
 subst ex
 obtain rfl : u=aQ a := rx
 exact A8 hu I3 g ry rv λs4 I4=>⟨σ, H4, I4, q3⟩
end
theorem CK{P : ac9}{w : ade}{H : Hp}(h : Heap)(hb : sysModules < h.objs.size) : dH P w H (h.push { cls := .type "dict", data := .dict #[] }) h.objs.size (.dK []) :=
 ⟨bq _, beq_eq_false_iff_ne.mpr (ax (aR hb)), [], .nil, Heap.DictOf.new h⟩
theorem CL{P : ac9}{w : ade}{H : Hp}(h : Heap)(hb : sysModules < h.objs.size) : dH P w H (h.push { cls := .type "dict", data := .dict #[] }) h.objs.size (.dT []) :=
 ⟨bq _, beq_eq_false_iff_ne.mpr (ax (aR hb)), [], .nil, _, #[], 0, bB _ rfl, ⟨rfl, rfl, rfl⟩, rfl, rfl, gX⟩
def L5 : TE := λ_ H Q=>∀p, H p=none->Q (.ref p) (upd H p (.dK []))
def L6 : TE := λ_ H Q=>∀p, H p=none->Q (.ref p) (upd H p (.dT []))
section
variable {X : Cx} {pos : Pos}
theorem CM : PE X (.Dict [] [] pos) L5 := λpins s σ H Q I h=>
 wpAny_Dict_empty ⟨.ref s.heap.objs.size, _, I.laid (a := s.heap.objs.size) (o := .dK []) (t' := s.toks) (λ_ _ q=>aK _ q) (aq _) (CK s.heap I.big), rfl, h _ (I.hok.fresh (aq _))⟩
theorem CN : PE X (.Dict [] [] pos) L6 := λpins s σ H Q I h=>
 wpAny_Dict_empty ⟨.ref s.heap.objs.size, _, I.laid (a := s.heap.objs.size) (o := .dT []) (t' := s.toks) (λ_ _ q=>aK _ q) (aq _) (CL s.heap I.big), rfl, h _ (I.hok.fresh (aq _))⟩
end
def L7(kvs more : List (Key×V)) : List (Key×V) := more.foldl (λacc kv=>putK acc kv.1 kv.2) kvs
structure M1(X : Cx)(o : Expr)(m : Str)(apos : Pos)(e : Expr)(cpos : Pos) : Prop where
 base : attributeBase o m X.env (eval o X.env)=eval o X.env
 few : ((backTo cpos (adp [e] X.env)).all (λx=> !x.1)&&(backToKw cpos (keywordEach [] X.env)).all (λx=>x.1.isSome)
  &&decide (([e] : List Expr).length+([] : List Keyword).length+(if([] : List Keyword).isEmpty then 0 else 1) < 30))=true
 line : (apos.endLine == cpos.line)=true
 trees : backTo cpos (adp [e] X.env)=[(false, eval e X.env)]
structure M2(X : Cx)(o : Expr)(m : Str)(apos : Pos)(e f : Expr)(cpos : Pos) : Prop where
 base : attributeBase o m X.env (eval o X.env)=eval o X.env
 few : ((backTo cpos (adp [e, f] X.env)).all (λx=> !x.1)&&(backToKw cpos (keywordEach [] X.env)).all (λx=>x.1.isSome)
  &&decide (([e, f] : List Expr).length+([] : List Keyword).length+(if([] : List Keyword).isEmpty then 0 else 1) < 30))=true
 line : (apos.endLine == cpos.line)=true
 trees : backTo cpos (adp [e, f] X.env)=[(false, eval e X.env), (false, eval f X.env)]
def Sr(H : Hp)(a : ac5) : Prop := (∃kvs, Rd H a (.dK kvs))\/∃kvs, Rd H a (.dT kvs)
theorem xq{X : Cx}{pins : List (ac5×Obj)}{σ : St}{H : Hp}{s : ada}{a : ac5}(I : Inv X pins σ H s)(d : Sr H a) :
  s.TypeIs (.ref a) "dict"/\(∀b, aQ a= .ref b->∃ob, s.heap.get? b=some ob/\ob.dict=none)/\(a == sysModules)=false := by
 rcases d with ⟨kvs, e⟩ | ⟨kvs, e⟩
 ·obtain⟨_, hd, vs, _, dd⟩ := sH I.hok e
  refine⟨dd.typeIs, λb q=>?_, hd⟩
  cases q
  obtain⟨ob, _, _, h1, h2, _⟩ := dd
  exact⟨ob, h1, h2.2.1⟩
 ·obtain⟨_, hd, xs, _, dd⟩ := oG I.hok e
  refine⟨dd.typeIs, λb q=>?_, hd⟩
  cases q
  obtain⟨ob, _, _, h1, h2, _⟩ := dd
  exact⟨ob, h1, h2.2.1⟩
section
variable {X : Cx} {pins : List (ac5×Obj)} {σ : St} {H : Hp} {s : ada} {a : ac5} {y d : V} {u r : adb} {o : Option V} {A : ac6} {E : adb->ada->Prop}
theorem L8{Q : adb->ada->Prop}(hu : A.units+1 < cLine)(I : Inv X pins σ H s)(g : lN H a y o)(ry : RelV y u)(h : ∀w' s', Inv X pins σ H s'->RelV (o.getD .bz) w'->Q w' s') :
  adq (model X.prog X.w) A (call (.builtin "dict.get") [.ref a, u]) Q E s := by
 rcases g with ⟨kvs, k, e, ey, l⟩ | ⟨kvs, k, b, e, ey, eb, l⟩
 ·subst ey
  obtain⟨z, hd, vs, rel, dd⟩ := sH I.hok e
  refine call_meetsIn PySem.F.slot_dict_get dd.typeIs PySem.F.entry_dict_get (PySem.F.args_dict_get_2 _ _) (meets_dict_get (bh X.prog X.w) a (vB ry) hd) ⟨_, dd.mapOf, h _ _ (I.tok _) ?_⟩
  rw[l]
  exact(rel.val k).getD rfl
 ·subst ey
  cases (show u=aQ b from ry)
  obtain⟨z, hd, xs, rel, dd⟩ := oG I.hok e
  refine call_meetsIn PySem.F.slot_dict_get dd.typeIs PySem.F.entry_dict_get (PySem.F.args_dict_get_2 _ _) (meetsH_dict_get (tupleKind (bh X.prog X.w)) a b hd) ⟨tupleKind_room_in1 hu, k, xs, nJ I.hok eb, dd, h _ _ (I.tok _) ?_⟩
  rw[l]
  exact(rel.val k).getD rfl
theorem L9{Q : adb->ada->Prop}(hu : A.units+1 < cLine)(I : Inv X pins σ H s)(g : lN H a y o)(ry : RelV y u)(rd : RelV d r)(h : ∀w' s', Inv X pins σ H s'->RelV (o.getD d) w'->Q w' s') :
  adq (model X.prog X.w) A (call (.builtin "dict.get") [.ref a, u, r]) Q E s := by
 rcases g with ⟨kvs, k, e, ey, l⟩ | ⟨kvs, k, b, e, ey, eb, l⟩
 ·subst ey
  obtain⟨z, hd, vs, rel, dd⟩ := sH I.hok e
  refine call_meetsIn PySem.F.slot_dict_get dd.typeIs PySem.F.entry_dict_get (PySem.F.args_dict_get_3 _ _ _) (meets_dict_get_default (bh X.prog X.w) a (vB ry) hd r) ⟨_, dd.mapOf, h _ _ (I.tok _) ?_⟩
  rw[l]
  exact(rel.val k).getD rd
 ·subst ey
  cases (show u=aQ b from ry)
  obtain⟨z, hd, xs, rel, dd⟩ := oG I.hok e
  refine call_meetsIn PySem.F.slot_dict_get dd.typeIs PySem.F.entry_dict_get (PySem.F.args_dict_get_3 _ _ _) (meetsH_dict_get_default (tupleKind (bh X.prog X.w)) a b hd r) ⟨tupleKind_room_in1 hu, k, xs, nJ I.hok eb, dd, h _ _ (I.tok _) ?_⟩
  rw[l]
  exact(rel.val k).getD rd
end
def L_(td ty : TE) : TE := λσ H Q=>td σ H λx H1=>∃a, x= .ref a/\Sr H1 a/\ty σ H1 λy H2=>∃o, lN H2 a y o/\Q (o.getD .bz) H2
def Ma(td ty tx : TE) : TE := λσ H Q=>td σ H λx H1=>∃a, x= .ref a/\Sr H1 a/\ty σ H1 λy H2=>tx σ H2 λz H3=>∃o, lN H3 a y o/\Q (o.getD z) H3
section
variable {X : Cx} {o e f : Expr} {apos cpos : Pos} {td ty tx : TE}
theorem CO(hu : X.A.units+1 < cLine)(ho : PE X o td)(he : PE X e ty)(m : M1 X o "get" apos e cpos) : PE X (.Call (.Attribute o "get" apos) [e] [] cpos) (L_ td ty) := by
 intro pins s σ H Q I h
 refine wpAny_Call_method m.base m.few m.line PySem.F.plainAttrs_dict PySem.F.slot_dict_get PySem.F.type_dict_get (bo (ho pins s σ H _ I h) λu s1 ⟨x, H1, I1, rx, a, ex, d, q1⟩=>?_)
 subst ex
 obtain rfl : u=aQ a := rx
 obtain⟨t1, t2, _⟩ := xq I1 d
 refine⟨t1, t2, ?_⟩
 rw[m.trees]
 refine pZ rfl (t7 (lL (bo (he pins s1 σ H1 _ I1 q1) λiv s2 ⟨y, H2, I2, ry, ov, g, q2⟩=>tR ?_)))
 exact L8 hu I2 g ry λw' s3 I3 rw'=>⟨_, H2, I3, rw', q2⟩
theorem CP(hu : X.A.units+1 < cLine)(ho : PE X o td)(he : PE X e ty)(hf : PE X f tx)(m : M2 X o "get" apos e f cpos) : PE X (.Call (.Attribute o "get" apos) [e, f] [] cpos) (Ma td ty tx) := by
 intro pins s σ H Q I h
 refine wpAny_Call_method m.base m.few m.line PySem.F.plainAttrs_dict PySem.F.slot_dict_get PySem.F.type_dict_get (bo (ho pins s σ H _ I h) λu s1 ⟨x, H1, I1, rx, a, ex, d, q1⟩=>?_)
 subst ex
 obtain rfl : u=aQ a := rx
 obtain⟨t1, t2, _⟩ := xq I1 d
 refine⟨t1, t2, ?_⟩
 rw[m.trees]
 refine pZ rfl (t7 (lL (bo (he pins s1 σ H1 _ I1 q1) λiv s2 ⟨y, H2, I2, ry, q2⟩=>
  lL (bo (hf pins s2 σ H2 _ I2 q2) λfv s3 ⟨z, H3, I3, rz, ov, g, q3⟩=>tR ?_))))
 exact L9 hu I3 g ry rz λw' s4 I4 rw'=>⟨_, H3, I4, rw', q3⟩
end
section
variable {X : Cx} {pins : List (ac5×Obj)} {σ : St} {H : Hp} {s : ada} {a : ac5} {kvs : List (Key×V)} {A : ac6} {E : adb->ada->Prop}
end
section
variable {X : Cx} {pins : List (ac5×Obj)} {σ : St} {H : Hp} {s : ada} {a : ac5} {y : V} {u : adb} {A : ac6} {E : adb->ada->Prop}
end
end L2
namespace Att
open PySem PySem.W PySem.Calls PyProof.Rows
end Att
namespace L2
open PySem PySem.Spec PyProof.Rows
section
variable {X : Cx}
end
section
variable {κ : Type} [DecidableEq κ]
theorem A9{p : κ×V}{r : List (κ×V)}{k : κ}(e : p.1=k) : qc (p::r) k=qc r k := by
 unfold qc
 rw[t_, if_neg (by simp[e])]
theorem A_{p : κ×V}{r : List (κ×V)}{k : κ}(e : ¬p.1=k) : qc (p::r) k=p::qc r k := by
 unfold qc
 rw[t_, if_pos (by simp[e])]
end
end L2
set_option maxHeartbeats 4000000
namespace J
open PySem PySem.Spec PyProof.Rows L2
def Ss(h base:Heap)(e:ac5)(cls a0 fl:adb):Prop :=
 ∃ox us T ot ws,h.get? e=some ox/\(ox.cls=cls/\us[2]? =some cJ)/\ox.data= .fields us/\us[1]? =some (.ref T)/\base.get? T=none/\T≠e/\h.get? T=some ot/\ot.data= .fields ws/\ws[3]? =some fl
abbrev HA(base:Heap)(l:List Env)(e:ac5)(cls a0 fl:adb)(h:Heap):Prop:=base.StaysIn h/\base.get? e=none/\h.FunFrames base l/\Ss h base e cls a0 fl
def CQ(base:Heap)(l:List Env)(e:ac5)(cls a0:adb)(L:ac5)(h:Heap):Prop:=HA base l e cls a0 (rawInt L) h
def CT(base:Heap)(l:List Env)(e:ac5)(cls a0:adb)(h:Heap):Prop:=HA base l e cls a0 .none h
theorem CT.first{base h:Heap}{l:List Env}{e:ac5}{cls a0:adb}(x:CT base l e cls a0 h):∃ox us,h.get? e=some ox/\ox.cls=cls/\ox.data= .fields us/\us[2]? =some cJ :=
 let ⟨_,_,_,ox,us,_,_,_,g1,g2,g3,_⟩:=x;⟨ox,us,g1,g2.1,g3,g2.2⟩
section
variable {M:Model} {A:ac6} {E:adb->ada->Prop} {s:ada} {base:Heap} {env:Env} {outer l:List Env} {L e:ac5} {cls a0 nt:adb} {Q:Unit->ada->Prop}
theorem xt{h h1:Heap}{S:List ac5}{ox ob:Obj}{us ws:Array adb}(so:Heap.SlotsOnly S h h1)(hS:S=l.filterMap (·.frame))(fs:h.FunFrames base l)(g1:h.get? e=some ox)(g3:ox.data= .fields us)(st:base.StaysIn h)(ne:base.get? e=none)(sz:1 < us.size)(g2:us[2]? =some cJ)
  (d:ob.data= .fields ws)(w3:ws[3]? =some nt)(nf:ob.isFreed=false) :
  HA base l e ox.cls a0 nt ((h1.push ob).update e (mH (·.setIfInBounds 1 (.ref h1.objs.size))))/\h.UpToSlots ((h1.push ob).update e (mH (·.setIfInBounds 1 (.ref h1.objs.size)))):=by
 have nS:e∉S:=λz=>by
  rw[hS] at z
  obtain⟨_,o2,q2,d2⟩:=fs.mem z
  rw[g1] at q2
  cases q2
  exact d2 us g3
 have q1:h1.get? e=some ox:=(so.2.1 e nS).trans g1
 have lt:e≠h1.objs.size:=aR (aF q1)
 have XH:∀b o,b≠e->h1.get? b=some o->((h1.push ob).update e (mH (·.setIfInBounds 1 (.ref h1.objs.size)))).get? b=some o:=λb o n q=>(pY _ _ (ax n)).trans (aK _ q)
 have up:h.UpToSlots ((h1.push ob).update e (mH (·.setIfInBounds 1 (.ref h1.objs.size)))):=λb o q n=>by
  obtain⟨sl,q2⟩:=so.2.2 b o q
  exact⟨sl,XH b _ (λz=>by rw[z,g1] at q;cases q;exact n us g3) q2⟩
 have stay:base.StaysIn h1:=λb o q=>(so.2.1 b λz=>by
  rw[hS] at z
  rw[(fs.mem z).1] at q
  cases q).trans (st b o q)
 have fresh:base.get? h1.objs.size=none:=by
  cases z:base.get? h1.objs.size with
  | none=>rfl
  | some o=>exact absurd (aF (stay _ _ z)) (dn _)
 have d1:=pD g3 (·.setIfInBounds 1 (aQ h1.objs.size))
 refine⟨⟨λb o q=>XH b o (λz=>by rw[z,ne] at q;cases q) (stay b o q),ne,fs.of_keeps λb o q n=>?_,_,_,h1.objs.size,ob,ws,nG _ (aK _ q1) (y6 d1),⟨Obj.cls_mapFields _ _,?_⟩,d1,by simp[sz],fresh,ax lt,?_,d,w3⟩,up⟩
 ·obtain⟨sl,q2⟩:=up b o q n
  exact⟨_,q2,rfl⟩
 ·rw[Array.getElem?_setIfInBounds_ne (by decide)];exact g2
 ·exact(pY _ _ lt).trans (bB _ nf)
theorem CU{ox:Obj}{us:Array adb}{head:adb}{had:Bool}(hfr:A.frames=some (env::outer))(fs:s.heap.FunFrames base (env::outer))(hf:env.frame=some L)(g1:s.heap.get? e=some ox)(st:base.StaysIn s.heap)(ne:base.get? e=none)(g3:ox.data= .fields us)(sz:1 < us.size)(g2:us[2]? =some cJ)
  (k:∀h',CQ base (env::outer) e ox.cls a0 L h'->s.heap.UpToSlots h'->Q () { s with heap:=h' }) :
  adq M A (do let a <-frameOf env;let pl <-entryPlaceOf L had;let b <-Mb head a .none (rawInt L) .none pl;setField (.ref e) 1 b) Q E s:=by
 refine ads (wpAny_frameOf_fun hfr fs hf λh1 so=>ads (wpAny_entryPlaceOf λpl pp=>?_))
 have nS:e∉(env::outer).filterMap (·.frame):=λz=>by
  obtain⟨_,o2,q2,d2⟩:=fs.mem z
  rw[g1] at q2
  cases q2
  exact d2 us g3
 have q1:h1.get? e=some ox:=(so.2.1 e nS).trans g1
 simp only[Mb,newFields]
 refine ads (adx (wpAny_setField (aK _ q1) g3 sz ?_) (pp.sizeOk5 _ _ _ _ _))
 obtain⟨m,up⟩:=xt (a0:=a0) (nt:=rawInt L) so rfl fs g1 g3 st ne sz g2 (ob:={ cls:=.type "traceback",dict:=none,data:=.fields ([head,.ref L,.none,rawInt L,.none]++(if pl.isEmpty then aJ 6 cJ else pl)).toArray }) rfl (by first | (simp;done) | (rcases pp with rfl | ⟨_,_,_,_,_,_,_,rfl⟩<;>simp)) rfl
 exact k _ m up
theorem Mc(hf:env.frame=some L)(x:Ss s.heap base e cls a0 (rawInt L))(k:Q () s):adq M A (noteFrame (.ref e) env) Q E s:=by
 obtain⟨ox,us,T,ot,ws,g1,g2,g3,g4,g5,g6,g7,g8,g9⟩:=x
 unfold noteFrame
 simp only[hf]
 refine ads (wpAny_field g1 g3 g4 ?_)
 rw[if_pos (by simp)]
 refine ads (wpAny_field g7 g8 g9 ?_)
 rw[if_pos (by simp)]
 exact ady k
theorem JY(x:HA base l e cls a0 nt s.heap)(k:∀h',CT base l e cls a0 h'->s.heap.UpToSlots h'->Q () { s with heap:=h' }):adq M A (setFlight (.ref e) none) Q E s:=by
 obtain⟨x1,x2,x3,ox,us,T,ot,ws,g1,g2,g3,g4,g5,g6,g7,g8,g9⟩:=x
 have sz:3 < ws.size:=(Array.getElem?_eq_some_iff.mp g9).1
 unfold setFlight
 refine ads (wpAny_field g1 g3 g4 ?_)
 rw[if_pos (by simp)]
 refine wpAny_setField g7 g8 sz ?_
 generalize hu:s.heap.update T _=h'
 have ap:∀b,b≠T->h'.get? b=s.heap.get? b:=λb n=>by rw[<-hu];exact pY _ _ (ax n)
 have pl:∀b o,s.heap.get? b=some o->(∀vs,o.data≠.fields vs)->h'.get? b=some o:=λb o q n=>(ap b λz=>by rw[z,g7] at q;cases q;exact n ws g8).trans q
 refine k h' ⟨λb o q=>(ap b λz=>by rw[z,g5] at q;cases q).trans (x1 b o q),x2,x3.of_keeps λb o q n=>⟨o,pl b o q n,rfl⟩,ox,us,T,mH (·.setIfInBounds 3 .none) ot,ws.setIfInBounds 3 .none,(ap e (ax g6)).trans g1,g2,g3,g4,g5,g6,?_,pD g8 _,?_⟩ λb o q n=>⟨o.slots,pl b o q n⟩
 ·rw[<-hu];exact nG _ g7 (y6 (pD g8 _))
 ·simp[sz]
end
structure Lm where
 a:ac5
 c:ac5
 q:PySem.Str
 xs:List V
inductive Wv where
 | bz
 | bl (b:Bool)
 | int (i:Int)
 | str (x:PySem.Str)
 | tup (ws:List Wv)
 | oV (ws:List Wv)
 | ref (l:Nat)
 | ty (n:String)
 | cls (c:PySem.Str)
 | vD (c:PySem.Str)
 | fn (p:Lm) (ws:List Wv)
inductive Ob where
 | lst (ws:List Wv)
 | sI (ns:List Int)
 | dct (kvs:List (L2.Key×Wv))
 | eQ (kvs:List (List L2.Key×Wv))
 | w5 (kvs:List (List L2.Key×Wv))
abbrev Hs:=List Ob
abbrev St:=L2.St
abbrev bH:=List (Option Wv)
abbrev Mp:=List ac5
def CV(a C:ac5):Heap->Prop:=λh=>∃o,h.get? a=some o/\o.cls= .ref C/\∃vs,o.data= .fields vs
def Su(a C:ac5)(u:Option HO):Prop:=∃o vs,u=some (.oS o (.ext (CV a C)))/\o.data= .fields vs/\vs[2]? =some cJ
theorem JZ{P:ac9}{w:ade}{H:Hp}{h:Heap}{a C:ac5}(ok:jQ P w H h)(x:Su a C (H a)):CV a C h:=let ⟨_,_,e,_⟩:=x;(ok a _ e).2.1
def ClsAt(K:PySem.W.Frag)(c:PySem.Str)(C:ac5):Prop:=PySem.W.nsIn K adn c=some (some (.ref C))
def qd(c:ac5)(q:PySem.Str):Heap->Prop:=λh=>h.CodeRec (.ref c) q
def a_:List PySem.Str:=["form_of","formula_by","turned","readied_content"]
def bD(K:PySem.W.Frag)(q:PySem.Str):Option ac5:=match PySem.W.tabIn K q with
 | some (_,P)=>if(K.lookup P).isNone=true then some P else none
 | none=>none
def nK(q:PySem.Str):PySem.Str:=(q++".<locals>.")++"<lambda>"
def lO(K:PySem.W.Frag)(H:Hp):Prop:=∀q P,q∈a_->bD K q=some P->∃ps,H P=some (.lr ps)/\TriplesOk ps.toList/\∀pos cv,codeAmong pos ps.toList=some cv->∃c,cv= .ref c/\H c=some (.ext (qd c (nK q)))
theorem lO.keep{K:PySem.W.Frag}{H H':Hp}(t:lO K H)(h1:∀a ps,H a=some (.lr ps)->H' a=some (.lr ps))(h2:∀a φ,H a=some (.ext φ)->H' a=some (.ext φ)):lO K H':=λq P hq hP=>by
 obtain⟨ps,e1,e2,e3⟩:=t q P hq hP
 refine⟨ps,h1 _ _ e1,e2,λpos cv e=>?_⟩
 obtain⟨c,f1,f2⟩:=e3 pos cv e
 exact⟨c,f1,h2 _ _ f2⟩
def Uv(K:PySem.W.Frag)(a:ac5)(xs:List V):Prop:=∃(o:Obj)(its:Array adb)(n:Nat),K.lookup a=some o/\o.cls= .type "tuple"/\o.data= .seq its n/\its.size<=ado/\Vals xs its.toList
mutual
def ah(K:PySem.W.Frag)(m:Mp)(H:Hp):Wv->V->Prop
 | .bz,v=>v= .bz
 | .bl b,v=>v= .bl b
 | .int i,v=>v= .int i
 | .str x,v=>v= .str x/\ba x=true
 | .tup ws,v=>∃a xs,v= .ref a/\H a=some (.tup xs)/\ai K m H ws xs
 | .oV ws,v=>∃a xs,v= .ref a/\Uv K a xs/\ai K m H ws xs
 | .ref l,v=>∃a,v= .ref a/\m[l]? =some a
 | .ty n,v=>v= .ty n
 | .cls c,v=>∃C,v= .ref C/\ClsAt K c C
 | .vD c,v=>∃a C,v= .ref a/\ClsAt K c C/\Su a C (H a)
 | .fn p ws,v=>v= .ref p.a/\H p.c=some (.ext (qd p.c p.q))/\ai K m H ws p.xs
def ai(K:PySem.W.Frag)(m:Mp)(H:Hp):List Wv->List V->Prop
 | [],xs=>xs=[]
 | w::ws,xs=>∃x r,xs=x::r/\ah K m H w x/\ai K m H ws r
end
structure Ext(K:PySem.W.Frag)(m:Mp)(H:Hp)(m':Mp)(H':Hp):Prop where
 pre:∀(l:Nat)(a:ac5),m[l]? =some a->m'[l]? =some a
 tup:∀(a:ac5)(xs:List V),H a=some (.tup xs)->H' a=some (.tup xs)
 ext:∀(a:ac5)(φ:Heap->Prop),H a=some (.ext φ)->H' a=some (.ext φ)
 oS:∀(a:ac5)(o:Obj)(u:HO),H a=some (.oS o u)->H' a=some (.oS o u)
section
variable {K:PySem.W.Frag} {m m1 m2:Mp} {H H1 H2:Hp}
theorem Ext.refl:Ext K m H m H:=⟨λ_ _ h=>h,λ_ _ h=>h,λ_ _ h=>h,λ_ _ _ h=>h⟩
theorem Ext.trans(a:Ext K m H m1 H1)(b:Ext K m1 H1 m2 H2):Ext K m H m2 H2 :=
 ⟨λl x h=>b.pre l x (a.pre l x h),λx xs h=>b.tup x xs (a.tup x xs h),λx φ h=>b.ext x φ (a.ext x φ h),λx o u h=>b.oS x o u (a.oS x o u h)⟩
structure CW(K:PySem.W.Frag)(m:Mp)(H:Hp)(m':Mp)(H':Hp):Prop where
 pre:∀(l:Nat)(a:ac5),m[l]? =some a->m'[l]? =some a
 tup:∀(a:ac5)(xs:List V),H a=some (.tup xs)->H' a=some (.tup xs)
 ext:∀(a:ac5)(φ:Heap->Prop),H a=some (.ext φ)->H' a=some (.ext φ)
 fx:∀(a:ac5)(o:Obj)(φ:Heap->Prop),H a=some (.oS o (.ext φ))->H' a=some (.oS o (.ext φ))
theorem Ext.z(e:Ext K m H m1 H1):CW K m H m1 H1:=⟨e.pre,e.tup,e.ext,λa o φ h=>e.oS a o _ h⟩
mutual
theorem ah.jI(e:CW K m H m1 H1):∀(w:Wv)(v:V),ah K m H w v->ah K m1 H1 w v
 | .bz,v,h=>by unfold ah at h ⊢;exact h
 | .bl b,v,h=>by unfold ah at h ⊢;exact h
 | .int i,v,h=>by unfold ah at h ⊢;exact h
 | .str x,v,h=>by unfold ah at h ⊢;exact h
 | .ty n,v,h=>by unfold ah at h ⊢;exact h
 | .cls c,v,h=>by unfold ah at h ⊢;exact h
 | .vD c,v,h=>by
  unfold ah at h ⊢
  obtain⟨a,C,e1,e2,o,vs,e3,e4⟩:=h
  exact⟨a,C,e1,e2,o,vs,e.fx _ _ _ e3,e4⟩
 | .ref l,v,h=>by
  unfold ah at h ⊢
  obtain⟨a,e1,e2⟩:=h
  exact⟨a,e1,e.pre _ _ e2⟩
 | .tup ws,v,h=>by
  unfold ah at h ⊢
  obtain⟨a,xs,e1,e2,e3⟩:=h
  exact⟨a,xs,e1,e.tup _ _ e2,ai.jI e ws xs e3⟩
 | .oV ws,v,h=>by
  unfold ah at h ⊢
  obtain⟨a,xs,e1,e2,e3⟩:=h
  exact⟨a,xs,e1,e2,ai.jI e ws xs e3⟩
 | .fn p ws,v,h=>by
  unfold ah at h ⊢
  obtain⟨e1,e2,e3⟩:=h
  exact⟨e1,e.ext _ _ e2,ai.jI e ws p.xs e3⟩
theorem ai.jI(e:CW K m H m1 H1):∀(ws:List Wv)(xs:List V),ai K m H ws xs->ai K m1 H1 ws xs
 | [],xs,h=>by unfold ai at h ⊢;exact h
 | w::ws,xs,h=>by
  unfold ai at h ⊢
  obtain⟨x,r,e1,e2,e3⟩:=h
  exact⟨x,r,e1,ah.jI e w x e2,ai.jI e ws r e3⟩
end
theorem ah.mono(e:Ext K m H m1 H1)(w:Wv)(v:V)(h:ah K m H w v):ah K m1 H1 w v:=ah.jI e.z w v h
theorem ai.mono(e:Ext K m H m1 H1)(ws:List Wv)(xs:List V)(h:ai K m H ws xs):ai K m1 H1 ws xs:=ai.jI e.z ws xs h
theorem ai.nil:ai K m H [] []:=by unfold ai;rfl
theorem ai.cons{w:Wv}{x:V}{ws:List Wv}{xs:List V}(h:ah K m H w x)(t:ai K m H ws xs):ai K m H (w::ws) (x::xs):=by unfold ai;exact⟨x,xs,rfl,h,t⟩
theorem ai.length:∀{ws:List Wv}{xs:List V},ai K m H ws xs->ws.length=xs.length
 | [],xs,h=>by unfold ai at h;subst h;rfl
 | w::ws,xs,h=>by
  unfold ai at h
  obtain⟨x,r,e1,_,e3⟩:=h
  subst e1
  simp[ai.length e3]
theorem ai.get:∀{ws:List Wv}{xs:List V}{i:Nat}{w:Wv},ai K m H ws xs->ws[i]? =some w->∃x,xs[i]? =some x/\ah K m H w x
 | [],_,i,w,_,e=>by simp at e
 | a::ws,xs,0,w,h,e=>by
  unfold ai at h
  obtain⟨x,r,e1,e2,_⟩:=h
  subst e1
  simp at e
  subst e
  exact⟨x,rfl,e2⟩
 | a::ws,xs,i+1,w,h,e=>by
  unfold ai at h
  obtain⟨x,r,e1,_,e3⟩:=h
  subst e1
  obtain⟨y,f1,f2⟩:=ai.get (i:=i) (w:=w) e3 (by simpa using e)
  exact⟨y,by simpa using f1,f2⟩
theorem ai.append:∀{ws zs:List Wv}{xs ys:List V},ai K m H ws xs->ai K m H zs ys->ai K m H (ws++zs) (xs++ys)
 | [],_,xs,_,h,g=>by unfold ai at h;subst h;exact g
 | w::ws,zs,xs,ys,h,g=>by
  unfold ai at h
  obtain⟨x,r,e1,e2,e3⟩:=h
  subst e1
  exact ai.cons e2 (ai.append e3 g)
theorem ai.set:∀{ws:List Wv}{xs:List V}(i:Nat){w:Wv}{x:V},ai K m H ws xs->ah K m H w x->ai K m H (ws.set i w) (xs.set i x)
 | [],xs,i,w,x,h,_=>by unfold ai at h;subst h;exact ai.nil
 | a::ws,xs,0,w,x,h,g=>by
  unfold ai at h
  obtain⟨y,r,e1,e2,e3⟩:=h
  subst e1
  exact ai.cons g e3
 | a::ws,xs,i+1,w,x,h,g=>by
  unfold ai at h
  obtain⟨y,r,e1,e2,e3⟩:=h
  subst e1
  exact ai.cons e2 (ai.set i e3 g)
theorem ai.drop:∀{ws:List Wv}{xs:List V}(i:Nat),ai K m H ws xs->ai K m H (ws.drop i) (xs.drop i)
 | ws,xs,0,h=>by simpa using h
 | [],xs,i+1,h=>by unfold ai at h;subst h;simpa using ai.nil
 | a::ws,xs,i+1,h=>by
  unfold ai at h
  obtain⟨y,r,e1,e2,e3⟩:=h
  subst e1
  simpa using ai.drop i e3
theorem ai.take:∀{ws:List Wv}{xs:List V}(i:Nat),ai K m H ws xs->ai K m H (ws.take i) (xs.take i)
 | ws,xs,0,h=>by simpa using ai.nil
 | [],xs,i+1,h=>by unfold ai at h;subst h;simpa using ai.nil
 | a::ws,xs,i+1,h=>by
  unfold ai at h
  obtain⟨y,r,e1,e2,e3⟩:=h
  subst e1
  simpa using ai.cons e2 (ai.take i e3)
theorem ai.ints:∀(ns:List Int),ai K m H (ns.map Wv.int) (ns.map V.int)
 | []=>ai.nil
 | n::ns=>ai.cons (by unfold ah;rfl) (ai.ints ns)
end
def vE(K:PySem.W.Frag)(H:Hp)(a:ac5)(ns:List Int):Prop :=
 (∃o,H a=some (.oS o (.lst (ns.map V.int))))\/
  ∃(o:Obj)(its:Array adb)(n:Nat),K.lookup a=some o/\o.cls= .type "list"/\o.dict=none/\o.data= .seq its n/\its.size<=ado/\Vals (ns.map V.int) its.toList
def RelK{κ:Type}(K:PySem.W.Frag)(m:Mp)(H:Hp)(kvs:List (κ×Wv))(xs:List (κ×V)):Prop:=kvs.map (·.1)=xs.map (·.1)/\ai K m H (kvs.map (·.2)) (xs.map (·.2))
def rJ(K:PySem.W.Frag)(m:Mp)(H:Hp)(a:ac5):Ob->Prop
 | .lst ws=>∃xs,H a=some (.lst xs)/\ai K m H ws xs
 | .sI ns=>vE K H a ns
 | .dct kvs=>∃xs,H a=some (.dK xs)/\RelK K m H kvs xs
 | .eQ kvs=>∃xs,H a=some (.dT xs)/\RelK K m H kvs xs
 | .w5 kvs=>∃o xs,H a=some (.oS o (.dT xs))/\RelK K m H kvs xs
def Ob.mu:Ob->Bool
 | .sI _=>false
 | _=>true
def Ob.wm:Ob->Bool
 | .sI _=>false
 | .w5 _=>false
 | _=>true
theorem Ob.P8{o:Ob}(h:o.wm=true):o.mu=true:=by cases o<;>first | rfl | cases h
structure bf(K:PySem.W.Frag)(m:Mp)(st:Hs)(H:Hp):Prop where
 len:m.length=st.length
 obj:∀(l:Nat)(a:ac5)(o:Ob),m[l]? =some a->st[l]? =some o->rJ K m H a o
 inj:∀(l l':Nat)(a:ac5)(o o':Ob),m[l]? =some a->m[l']? =some a->st[l]? =some o->st[l']? =some o'->o.mu=true->o'.mu=true->l=l'
 tab:lO K H
def av(st:Hs)(l:Nat):Option (List Wv):=match st[l]? with
 | some (.lst ws)=>some ws
 | some (.sI ns)=>some (ns.map Wv.int)
 | _=>none
section
variable {K:PySem.W.Frag} {m:Mp} {H:Hp} {st:Hs}
def Wr(u:Option HO):Prop:=u=none\/(∃ys,u=some (.lst ys))\/(∃ys,u=some (.dK ys))\/∃ys,u=some (.dT ys)
theorem Wr.ne{p a:ac5}{u:HO}(hp:Wr (H p))(e:H a=some u)(n1:∀ys,u≠.lst ys)(n2:∀ys,u≠.dK ys)(n3:∀ys,u≠.dT ys):a≠p:=λz=>by
 subst z
 rcases hp with q | ⟨ys,q⟩ | ⟨ys,q⟩ | ⟨ys,q⟩
 ·rw[q] at e;cases e
 ·rw[q] at e;cases e;exact n1 ys rfl
 ·rw[q] at e;cases e;exact n2 ys rfl
 ·rw[q] at e;cases e;exact n3 ys rfl
theorem CY{p a:ac5}{o:HO}{xs:List V}(hp:Wr (H p))(h:H a=some (.tup xs)):upd H p o a=some (.tup xs):=by
 rw[aG (hp.ne h (by intro ys z;cases z) (by intro ys z;cases z) (by intro ys z;cases z))];exact h
theorem CZ{p a:ac5}{o:HO}{ns:List Int}(hp:Wr (H p))(h:vE K H a ns):vE K (upd H p o) a ns:=by
 rcases h with ⟨o',h⟩ | h
 ·exact .inl ⟨o',by rw[aG (hp.ne h (by intro ys z;cases z) (by intro ys z;cases z) (by intro ys z;cases z))];exact h⟩
 ·exact .inr h
theorem Wr.of{u:Option HO}(h:u=none\/∃ys,u=some (.lst ys)):Wr u:=by
 rcases h with q | q
 ·exact .inl q
 ·exact .inr (.inl q)
theorem Ext.iR{p:ac5}{o:HO}(hp:Wr (H p)):Ext K m H m (upd H p o):=⟨λ_ _ h=>h,λ_ _ h=>CY hp h,λa φ h=>by
 rw[aG (hp.ne h (by intro ys z;cases z) (by intro ys z;cases z) (by intro ys z;cases z))]
 exact h,λa o u h=>by
 rw[aG (hp.ne h (by intro ys z;cases z) (by intro ys z;cases z) (by intro ys z;cases z))]
 exact h⟩
theorem Ext.upd{p:ac5}{o:HO}(hp:H p=none\/∃ys,H p=some (.lst ys)):Ext K m H m (upd H p o):=Ext.iR (Wr.of hp)
theorem RelK.mono{κ:Type}{m1:Mp}{H1:Hp}{kvs:List (κ×Wv)}{xs:List (κ×V)}(e:Ext K m H m1 H1)(h:RelK K m H kvs xs):RelK K m1 H1 kvs xs:=⟨h.1,ai.mono e _ _ h.2⟩
theorem rJ.keep{m1:Mp}{b p:ac5}{u:HO}{o:Ob}(ex:Ext K m H m1 (L2.upd H p u))(hp:Wr (H p))(hb:o.mu=true->b≠p)(h:rJ K m H b o):rJ K m1 (L2.upd H p u) b o:=by
 cases o with
 | lst ws=>
  obtain⟨xs,e1,e2⟩:=h
  exact⟨xs,by rw[aG (hb rfl)];exact e1,ai.mono ex _ _ e2⟩
 | dct kvs=>
  obtain⟨xs,e1,e2⟩:=h
  exact⟨xs,by rw[aG (hb rfl)];exact e1,e2.mono ex⟩
 | eQ kvs=>
  obtain⟨xs,e1,e2⟩:=h
  exact⟨xs,by rw[aG (hb rfl)];exact e1,e2.mono ex⟩
 | w5 kvs=>
  obtain⟨o,xs,e1,e2⟩:=h
  exact⟨o,xs,by rw[aG (hb rfl)];exact e1,e2.mono ex⟩
 | sI ns=>exact CZ hp h
theorem rJ.at{b:ac5}{o:Ob}(h:rJ K m H b o)(hm:o.mu=true):∃u,H b=some u:=by
 cases o with
 | lst ws=>obtain⟨xs,e1,e2⟩:=h;exact⟨_,e1⟩
 | dct kvs=>obtain⟨xs,e1,e2⟩:=h;exact⟨_,e1⟩
 | eQ kvs=>obtain⟨xs,e1,e2⟩:=h;exact⟨_,e1⟩
 | w5 kvs=>obtain⟨o,xs,e1,e2⟩:=h;exact⟨_,e1⟩
 | sI ns=>simp[Ob.mu] at hm
theorem rJ.wr{b:ac5}{o:Ob}(h:rJ K m H b o)(hm:o.wm=true):Wr (H b):=by
 cases o with
 | lst ws=>obtain⟨xs,e1,e2⟩:=h;exact .inr (.inl ⟨_,e1⟩)
 | dct kvs=>obtain⟨xs,e1,e2⟩:=h;exact .inr (.inr (.inl ⟨_,e1⟩))
 | eQ kvs=>obtain⟨xs,e1,e2⟩:=h;exact .inr (.inr (.inr ⟨_,e1⟩))
 | w5 kvs=>cases hm
 | sI ns=>cases hm
theorem lO.iR{p:ac5}{o:HO}(t:lO K H)(hp:Wr (H p)):lO K (L2.upd H p o):=t.keep
 (λa ps h=>by rw[aG (hp.ne h (by intro ys z;cases z) (by intro ys z;cases z) (by intro ys z;cases z))];exact h)
 λa φ h=>by rw[aG (hp.ne h (by intro ys z;cases z) (by intro ys z;cases z) (by intro ys z;cases z))];exact h
theorem Ext.more{p:ac5}:Ext K m H (m++[p]) H:=⟨λl a h=>by
 rw[eO]
 ·exact h
 ·exact(List.getElem?_eq_some_iff.mp h).1,λ_ _ h=>h,λ_ _ h=>h,λ_ _ _ h=>h⟩
theorem bf.fresh{p:ac5}{o:HO}(S:bf K m st H)(hp:H p=none):bf K m st (upd H p o) :=
 ⟨S.len,λl a ob h1 h2=>by
  have q:=S.obj l a ob h1 h2
  refine q.keep (Ext.iR (.inl hp)) (.inl hp) λhm=>?_
  obtain⟨u,e⟩:=q.at hm
  exact bA e hp,S.inj,S.tab.iR (.inl hp)⟩
theorem bf.mI{l:Nat}{a:ac5}{ws:List Wv}(S:bf K m st H)(h1:m[l]? =some a)(h2:st[l]? =some (.lst ws)):∃xs,H a=some (.lst xs)/\ai K m H ws xs:=S.obj l a _ h1 h2
theorem bf.read{l:Nat}{a:ac5}{ws:List Wv}(S:bf K m st H)(h1:m[l]? =some a)(h2:av st l=some ws):∃xs,jN K H a xs/\ai K m H ws xs:=by
 unfold av at h2
 cases e:st[l]? with
 | none=>rw[e] at h2;cases h2
 | some o=>
  rw[e] at h2
  cases o with
  | lst zs=>
   cases h2
   obtain⟨xs,e1,e2⟩:=S.mI h1 e
   exact⟨xs,jN.of e1,e2⟩
  | dct kvs=>cases h2
  | eQ kvs=>cases h2
  | w5 kvs=>cases h2
  | sI ns=>
   cases h2
   have q:vE K H a ns:=S.obj l a _ h1 e
   refine⟨ns.map V.int,?_,ai.ints ns⟩
   rcases q with ⟨o,q⟩ | q
   ·exact .inl (.inr ⟨o,q⟩)
   ·exact .inr q
theorem bf.ua{p:ac5}{ob:Ob}{u:HO}(S:bf K m st H)(hp:H p=none)(r:rJ K (m++[p]) (L2.upd H p u) p ob):bf K (m++[p]) (st++[ob]) (L2.upd H p u):=by
 have ex:Ext K m H (m++[p]) (L2.upd H p u):=Ext.more.trans (Ext.iR (.inl hp))
 have C0:∀(l:Nat)(o:Ob),m[l]? =some p->st[l]? =some o->o.mu=true->False:=λl o h1 h2 hm=>by
  obtain⟨v,e⟩:=(S.obj l p o h1 h2).at hm
  rw[hp] at e;cases e
 have old:∀(l:Nat)(a:ac5),(m++[p])[l]? =some a->(l < m.length/\m[l]? =some a)\/(l=m.length/\a=p):=λl a h=>by
  by_cases hl:l < m.length
  ·exact .inl ⟨hl,by rw[eO hl] at h;exact h⟩
  ·have h':=h
   rw[fV (by omega)] at h'
   have z:=List.getElem?_eq_some_iff.mp h'
   have z1:l - m.length < 1:=by simpa using z.1
   refine .inr ⟨by omega,?_⟩
   have e0:l - m.length=0:=by omega
   rw[e0] at h'
   simpa using h'.symm
 have olds:∀(l:Nat)(o:Ob),l < m.length->(st++[ob])[l]? =some o->st[l]? =some o:=λl o hl h=>by
  rw[eO (by rw[<-S.len];exact hl)] at h
  exact h
 refine⟨by simp[S.len],λl a o h1 h2=>?_,λl l' a zs zs' h1 GD h2 h2' k k'=>?_,S.tab.iR (.inl hp)⟩
 ·rcases old l a h1 with ⟨hl,h1⟩ | ⟨hl,rfl⟩
  ·have q:=S.obj l a o h1 (olds l o hl h2)
   refine q.keep ex (.inl hp) λhm=>?_
   obtain⟨v,e⟩:=q.at hm
   exact bA e hp
  ·have e:o=ob:=by
    rw[hl,S.len,fV (aq _),mJ] at h2
    simpa using h2.symm
   subst e
   exact r
 ·rcases old l a h1 with ⟨hl,g1⟩ | ⟨hl,ea⟩
  ·rcases old l' a GD with ⟨hl',OP⟩ | ⟨hl',ea'⟩
   ·exact S.inj l l' a zs zs' g1 OP (olds l _ hl h2) (olds l' _ hl' h2') k k'
   ·rw[ea'] at g1
    exact(C0 l zs g1 (olds l _ hl h2) k).elim
  ·rcases old l' a GD with ⟨hl',OP⟩ | ⟨hl',_⟩
   ·rw[ea] at OP
    exact(C0 l' zs' OP (olds l' _ hl' h2') k').elim
   ·omega
theorem bf.alloc{p:ac5}{ws:List Wv}{xs:List V}(S:bf K m st H)(hp:H p=none)(r:ai K m H ws xs):bf K (m++[p]) (st++[.lst ws]) (upd H p (.lst xs)) :=
 S.ua hp ⟨xs,aW,ai.mono (Ext.more.trans (Ext.iR (.inl hp))) _ _ r⟩
theorem bf.qf{l:Nat}{a:ac5}{o0 ob:Ob}{u:HO}(S:bf K m st H)(h1:m[l]? =some a)(h2:st[l]? =some o0)(hw:o0.wm=true)(r:rJ K m (L2.upd H a u) a ob):bf K m (st.set l ob) (L2.upd H a u):=by
 have wr:Wr (H a):=(S.obj l a o0 h1 h2).wr hw
 have hm:=Ob.P8 hw
 have ex:Ext K m H m (L2.upd H a u):=Ext.iR wr
 have hl:l < st.length:=(List.getElem?_eq_some_iff.mp h2).1
 have at':∀(k:Nat)(o:Ob),(st.set l ob)[k]? =some o->(k=l/\o=ob)\/(k≠l/\st[k]? =some o):=λk o h=>by
  by_cases e:l=k
  ·subst e
   rw[pS hl] at h
   exact .inl ⟨rfl,(Option.some.inj h).symm⟩
  ·rw[jR e] at h
   exact .inr ⟨λz=>e z.symm,h⟩
 refine⟨by simp[S.len],λk b o g1 g2=>?_,λk k' b us us' g1 OP g2 ZI q q'=>?_,S.tab.iR wr⟩
 ·rcases at' k o g2 with ⟨rfl,rfl⟩ | ⟨hk,g2⟩
  ·rw[h1] at g1;cases g1
   exact r
  ·have q:=S.obj k b o g1 g2
   refine q.keep ex wr λho z=>?_
   subst z
   exact hk (S.inj k l b o o0 g1 h1 g2 h2 ho hm)
 ·have back:∀(k:Nat)(o:Ob),(st.set l ob)[k]? =some o->o.mu=true->∃o',st[k]? =some o'/\o'.mu=true:=λk o h ho=>by
   rcases at' k _ h with ⟨rfl,_⟩ | ⟨_,h⟩
   ·exact⟨o0,h2,hm⟩
   ·exact⟨o,h,ho⟩
  obtain⟨u1,e1,f1⟩:=back k us g2 q
  obtain⟨u2,e2,f2⟩:=back k' us' ZI q'
  exact S.inj k k' b u1 u2 g1 OP e1 e2 f1 f2
theorem bf.write{l:Nat}{a:ac5}{ws zs:List Wv}{xs:List V}(S:bf K m st H)(h1:m[l]? =some a)(h2:st[l]? =some (.lst ws))(r:ai K m H zs xs):bf K m (st.set l (.lst zs)) (upd H a (.lst xs)) :=
 S.qf h1 h2 rfl ⟨xs,aW,ai.mono (Ext.iR ((S.obj l a _ h1 h2).wr rfl)) _ _ r⟩
end
structure ay(K:PySem.W.Frag)(m:Mp)(H:Hp)(ρ:bH)(σ:St):Prop where
 len:ρ.length=σ.length
 get:∀(i:Nat)(w:Wv),ρ[i]? =some (some w)->∃v,σ[i]? =some (some v)/\ah K m H w v
section
variable {K:PySem.W.Frag} {m m1:Mp} {H H1:Hp} {ρ:bH} {σ:St}
theorem ay.mono(R:ay K m H ρ σ)(e:Ext K m H m1 H1):ay K m1 H1 ρ σ:=⟨R.len,λi w h=>let ⟨v,h1,h2⟩:=R.get i w h;⟨v,h1,ah.mono e _ _ h2⟩⟩
theorem ay.set(R:ay K m H ρ σ)(i:Nat){w:Wv}{v:V}(h:ah K m H w v):ay K m H (ρ.set i (some w)) (σ.set i (some v)):=by
 refine⟨by simp[R.len],λj u e=>?_⟩
 by_cases hj:i=j
 ·subst hj
  have hi:i < ρ.length:=by
   have:=(List.getElem?_eq_some_iff.mp e).1
   simpa using this
  rw[pS hi] at e
  have e':w=u:=Option.some.inj (Option.some.inj e)
  subst e'
  exact⟨v,by rw[pS (by rw[<-R.len];exact hi)],h⟩
 ·rw[jR hj] at e
  obtain⟨x,h1,h2⟩:=R.get j u e
  exact⟨x,by rw[jR hj];exact h1,h2⟩
end
inductive Re(α:Type) where
 | ok (a:α) (st:Hs)
 | err (c:PySem.Str) (st:Hs)
 | bad
def Re.bind{α β:Type}(r:Re α)(f:α->Hs->Re β):Re β:=match r with
 | .ok a st=>f a st
 | .err c st=> .err c st
 | .bad=> .bad
inductive Rs where
 | nx (ρ:bH) (st:Hs)
 | rt (w:Wv) (st:Hs)
 | bk (ρ:bH) (st:Hs)
 | ct (ρ:bH) (st:Hs)
 | err (c:PySem.Str) (ρ:bH) (st:Hs)
 | bad
def Re.bo{α:Type}(ρ:bH)(r:Re α)(f:α->Hs->Rs):Rs:=match r with
 | .ok a st=>f a st
 | .err c st=> .err c ρ st
 | .bad=> .bad
def Re.ny{α:Type}(r:Re α):Re α:=match r with
 | .ok a st=> .ok a st
 | _=> .bad
abbrev GE:=bH->Hs->Re Wv
abbrev GT:=bH->Hs->Re Bool
abbrev GA:=bH->Hs->Re (List Wv)
abbrev GS:=bH->Hs->Rs
def vF(P:ac9)(w:ade)(outer:List Env)(H:Hp)(s:ada)(H':Hp)(cls:adb)(e:adb)(s':ada):Prop :=
 ∃(a:ac5)(a0:adb)(B:Heap),e= .ref a/\s'.os=s.os/\AllBare s'.gens/\Un (frs outer) [] H H' s.heap s'.heap/\jQ P w H' B/\CT B outer a cls a0 s'.heap/\
  (∀b o,s.heap.get? b=some o->b∉frs outer->∃o',B.get? b=some o'/\(H b=none->o'=o))
def nL(X:Cx)(pins:List (ac5×Obj))(H:Hp)(s:ada)(H':Hp)(cls:adb)(e:adb)(s':ada):Prop :=
 ∃(a:ac5)(a0 nt:adb)(B:Heap)(ch:List ac5),e= .ref a/\s'.os=s.os/\AllBare s'.gens/\(∀b∈ch,eK X pins H b)/\Un (frs X.stack) ch H H' s.heap s'.heap/\jQ X.prog X.w H' B/\
  (B.StaysIn s'.heap/\B.get? a=none/\s'.heap.FunFrames B X.stack/\Ss s'.heap B a cls a0 nt)/\
  (∀b o,s.heap.get? b=some o->b∉frs X.stack->b∉ch->∃o',B.get? b=some o'/\(H b=none->o'=o))
theorem vF.any{X:Cx}{pins:List (ac5×Obj)}{H H':Hp}{s s':ada}{cls e:adb}(f:vF X.prog X.w X.stack H s H' cls e s'):nL X pins H s H' cls e s' :=
 let ⟨a,a0,B,e1,e2,e3,un,hok,fl,P9⟩:=f
 ⟨a,a0,.none,B,[],e1,e2,e3,(λb z=>by cases z),un,hok,fl,λb o q hb _=>P9 b o q hb⟩
def ub(X:Cx)(σ:St)(H':Hp)(c:PySem.Str)(e:adb)(s':ada):Prop :=
 ∃(C:ac5)(pins:List (ac5×Obj))(Hc:Hp)(sc:ada),ClsAt X.K c C/\Inv X pins σ Hc sc/\
  (nL X pins Hc sc H' (.ref C) e s'\/(H'=Hc/\∃a args,e= .ref a/\s'.os=sc.os/\s'.gens=sc.gens/\C2 sc.heap s'.heap a (.ref C) args))
def OQ(X:Cx)(σ:St)(m:Mp)(H:Hp)(c:PySem.Str)(st:Hs):Prop :=
 ∀(m':Mp)(H':Hp)(e:adb)(s':ada),Ext X.K m H m' H'->bf X.K m' st H'->ub X σ H' c e s'->X.xe e s'
theorem OQ.mono{X:Cx}{σ:St}{m m1:Mp}{H H1:Hp}{c:PySem.Str}{st:Hs}(h:OQ X σ m H c st)(e:Ext X.K m H m1 H1):OQ X σ m1 H1 c st :=
 λm' H' x s' e' S r=>h m' H' x s' (e.trans e') S r
def aw{α:Type}(X:Cx)(σ:St)(m:Mp)(H:Hp)(r:Re α)(ok:α->Hs->Prop):Prop:=match r with
 | .ok a st=>ok a st
 | .err c st=>OQ X σ m H c st
 | .bad=>False
def qg{α:Type}(r:Re α)(ok:α->Hs->Prop):Prop:=match r with
 | .ok a st=>ok a st
 | _=>False
theorem aw.ny{α:Type}{X:Cx}{σ:St}{m:Mp}{H:Hp}{r:Re α}{ok:α->Hs->Prop}(h:aw X σ m H r.ny ok):qg r ok:=by
 cases r with
 | ok a st=>exact h
 | err c st=>exact h
 | bad=>exact h
theorem aw.bind{α β:Type}{X:Cx}{σ:St}{m:Mp}{H:Hp}{r:Re α}{f:α->Hs->Re β}{ok:β->Hs->Prop}(h:aw X σ m H (r.bind f) ok):aw X σ m H r (λa st=>aw X σ m H (f a st) ok):=by
 cases r with
 | ok a st=>exact h
 | err c st=>exact h
 | bad=>exact h
theorem aw.imp{α:Type}{X:Cx}{σ:St}{m m1:Mp}{H H1:Hp}{r:Re α}{ok ok':α->Hs->Prop}(h:aw X σ m H r ok)(e:Ext X.K m H m1 H1)(k:∀a st,ok a st->ok' a st):aw X σ m1 H1 r ok':=by
 cases r with
 | ok a st=>exact k a st h
 | err c st=>exact OQ.mono (c:=c) (st:=st) h e
 | bad=>exact h
theorem qg.imp{α:Type}{r:Re α}{ok ok':α->Hs->Prop}(h:qg r ok)(k:∀a st,ok a st->ok' a st):qg r ok':=by
 cases r with
 | ok a st=>exact k a st h
 | err c st=>exact h
 | bad=>exact h
def OR(K:PySem.W.Frag)(m:Mp)(H:Hp)(Q:VK)(w:Wv)(st:Hs):Prop:=∀(v:V)(m':Mp)(H':Hp),Ext K m H m' H'->bf K m' st H'->ah K m' H' w v->Q v H'
def ZJ(K:PySem.W.Frag)(m:Mp)(H:Hp)(Q:Bool->Hp->Prop)(b:Bool)(st:Hs):Prop:=∀(m':Mp)(H':Hp),Ext K m H m' H'->bf K m' st H'->Q b H'
def ZK(K:PySem.W.Frag)(m:Mp)(H:Hp)(Q:List V->Hp->Prop)(ws:List Wv)(st:Hs):Prop:=∀(vs:List V)(m':Mp)(H':Hp),Ext K m H m' H'->bf K m' st H'->ai K m' H' ws vs->Q vs H'
abbrev cY(X:Cx)(σ:St)(m:Mp)(H:Hp)(r:Re Wv)(Q:VK):Prop:=aw X σ m H r (OR X.K m H Q)
abbrev iS(X:Cx)(σ:St)(m:Mp)(H:Hp)(r:Re Bool)(Q:Bool->Hp->Prop):Prop:=aw X σ m H r (ZJ X.K m H Q)
abbrev J0(X:Cx)(σ:St)(m:Mp)(H:Hp)(r:Re (List Wv))(Q:List V->Hp->Prop):Prop:=aw X σ m H r (ZK X.K m H Q)
theorem cY.shift{X:Cx}{σ:St}{m m1:Mp}{H H1:Hp}{r:Re Wv}{Q:VK}(h:cY X σ m H r Q)(e:Ext X.K m H m1 H1):cY X σ m1 H1 r Q:=h.imp e λ_ _ k v m' H' e'=>k v m' H' (e.trans e')
theorem iS.shift{X:Cx}{σ:St}{m m1:Mp}{H H1:Hp}{r:Re Bool}{Q:Bool->Hp->Prop}(h:iS X σ m H r Q)(e:Ext X.K m H m1 H1):iS X σ m1 H1 r Q:=h.imp e λ_ _ k m' H' e'=>k m' H' (e.trans e')
abbrev eE(K:PySem.W.Frag)(m:Mp)(H:Hp)(r:Re Wv)(Q:VK):Prop:=qg r (OR K m H Q)
theorem eE.shift{K:PySem.W.Frag}{m m1:Mp}{H H1:Hp}{r:Re Wv}{Q:VK}(h:eE K m H r Q)(e:Ext K m H m1 H1):eE K m1 H1 r Q:=qg.imp h λ_ _ k v m' H' e'=>k v m' H' (e.trans e')
def aE(X:Cx)(m:Mp)(H:Hp)(r:Rs)(D:Ends):Prop:=match r with
 | .nx ρ st=>∀(σ:St)(m':Mp)(H':Hp),Ext X.K m H m' H'->bf X.K m' st H'->ay X.K m' H' ρ σ->D.nx σ H'
 | .rt w st=>∀(v:V)(m':Mp)(H':Hp),Ext X.K m H m' H'->bf X.K m' st H'->ah X.K m' H' w v->D.rt v H'
 | .bk ρ st=>∀(σ:St)(m':Mp)(H':Hp),Ext X.K m H m' H'->bf X.K m' st H'->ay X.K m' H' ρ σ->D.bk σ H'
 | .ct ρ st=>∀(σ:St)(m':Mp)(H':Hp),Ext X.K m H m' H'->bf X.K m' st H'->ay X.K m' H' ρ σ->D.ct σ H'
 | .err c ρ st=>∀(σ:St)(m':Mp)(H':Hp)(e:adb)(s':ada),Ext X.K m H m' H'->bf X.K m' st H'->ay X.K m' H' ρ σ->ub X σ H' c e s'->X.xe e s'
 | .bad=>False
theorem aE.shift{X:Cx}{m m1:Mp}{H H1:Hp}{r:Rs}{D:Ends}(h:aE X m H r D)(e:Ext X.K m H m1 H1):aE X m1 H1 r D:=by
 cases r with
 | nx ρ st=>exact λσ m' H' e'=>h σ m' H' (e.trans e')
 | rt w st=>exact λv m' H' e'=>h v m' H' (e.trans e')
 | bk ρ st=>exact λσ m' H' e'=>h σ m' H' (e.trans e')
 | ct ρ st=>exact λσ m' H' e'=>h σ m' H' (e.trans e')
 | err c ρ st=>exact λσ m' H' x s' e'=>h σ m' H' x s' (e.trans e')
 | bad=>exact h
theorem aE.cF{α:Type}{X:Cx}{m:Mp}{H:Hp}{ρ:bH}{σ:St}{r:Re α}{f:α->Hs->Rs}{D:Ends}(R:ay X.K m H ρ σ)(h:aE X m H (r.bo ρ f) D):aw X σ m H r (λa st=>aE X m H (f a st) D):=by
 cases r with
 | ok a st=>exact h
 | err c st=>exact λm' H' x s' e' S r=>h σ m' H' x s' e' S (R.mono e') r
 | bad=>exact h
def SE(X:Cx)(e:Expr):TE:=λσ H Q=>∀(pins:List (ac5×Obj))(s:ada),Inv X pins σ H s->adq (model X.prog X.w) X.A (eval e X.env) (EP X pins σ Q) X.xe s
def ST(X:Cx)(e:Expr):TT:=λσ H Q=>∀(pins:List (ac5×Obj))(s:ada),Inv X pins σ H s->adq (model X.prog X.w) X.A (isTrue e X.env (eval e X.env)) (TP X pins σ Q) X.xe s
def SA(X:Cx)(es:List Expr):TA:=λσ H Q=>∀(pos:Pos)(pins:List (ac5×Obj))(s:ada),Inv X pins σ H s->adq (model X.prog X.w) X.A (spliced (backTo pos (adp es X.env))) (AP X pins σ Q) X.xe s
def SS(X:Cx)(st:Stmt):TS:=λD σ H=>∀(pins:List (ac5×Obj))(s:ada),Inv X pins σ H s->adq (model X.prog X.w) X.A (exec st X.env) (SP X pins D) X.xe s
def Sv(X:Cx)(st:List Stmt):TS:=λD σ H=>∀(pins:List (ac5×Obj))(s:ada),Inv X pins σ H s->adq (model X.prog X.w) X.A (execs st X.env) (SP X pins D) X.xe s
section
variable {X:Cx}
theorem aM{e:Expr}:PE X e (SE X e):=λpins s _ _ _ I h=>h pins s I
theorem qh{e:Expr}:PT X e (ST X e):=λpins s _ _ _ I h=>h pins s I
theorem iT{es:List Expr}:PA X es (SA X es):=λpos pins s _ _ _ I h=>h pos pins s I
theorem J1{st:Stmt}:PS X st (SS X st):=λpins s _ _ _ I h=>h pins s I
theorem eR{st:List Stmt}:Cg X st (Sv X st):=λpins s _ _ _ I h=>h pins s I
end
def JE(X:Cx)(e:Expr)(g:GE):Prop:=∀(ρ:bH)(st:Hs)(σ:St)(H:Hp)(m:Mp)(Q:VK),bf X.K m st H->ay X.K m H ρ σ->cY X σ m H (g ρ st) Q->SE X e σ H Q
def JT(X:Cx)(e:Expr)(g:GT):Prop:=∀(ρ:bH)(st:Hs)(σ:St)(H:Hp)(m:Mp)(Q:Bool->Hp->Prop),bf X.K m st H->ay X.K m H ρ σ->iS X σ m H (g ρ st) Q->ST X e σ H Q
def JA(X:Cx)(es:List Expr)(g:GA):Prop:=∀(ρ:bH)(st:Hs)(σ:St)(H:Hp)(m:Mp)(Q:List V->Hp->Prop),bf X.K m st H->ay X.K m H ρ σ->J0 X σ m H (g ρ st) Q->SA X es σ H Q
def JS(X:Cx)(s:Stmt)(g:GS):Prop:=∀(ρ:bH)(st:Hs)(σ:St)(H:Hp)(m:Mp)(D:Ends),bf X.K m st H->ay X.K m H ρ σ->aE X m H (g ρ st) D->SS X s D σ H
def nz(X:Cx)(s:List Stmt)(g:GS):Prop:=∀(ρ:bH)(st:Hs)(σ:St)(H:Hp)(m:Mp)(D:Ends),bf X.K m st H->ay X.K m H ρ σ->aE X m H (g ρ st) D->Sv X s D σ H
section
variable {X:Cx}
theorem JE.of{e:Expr}{g:GE}{t:TE}(h:PE X e t)(k:∀(ρ:bH)(st:Hs)(σ:St)(H:Hp)(m:Mp)(Q:VK),bf X.K m st H->ay X.K m H ρ σ->cY X σ m H (g ρ st) Q->t σ H Q):JE X e g :=
 λρ st σ H m Q S R p pins s I=>h pins s σ H Q I (k ρ st σ H m Q S R p)
theorem JT.of{e:Expr}{g:GT}{t:TT}(h:PT X e t)(k:∀(ρ:bH)(st:Hs)(σ:St)(H:Hp)(m:Mp)(Q:Bool->Hp->Prop),bf X.K m st H->ay X.K m H ρ σ->iS X σ m H (g ρ st) Q->t σ H Q):JT X e g :=
 λρ st σ H m Q S R p pins s I=>h pins s σ H Q I (k ρ st σ H m Q S R p)
theorem JA.of{es:List Expr}{g:GA}{t:TA}(h:PA X es t)(k:∀(ρ:bH)(st:Hs)(σ:St)(H:Hp)(m:Mp)(Q:List V->Hp->Prop),bf X.K m st H->ay X.K m H ρ σ->J0 X σ m H (g ρ st) Q->t σ H Q):JA X es g :=
 λρ st σ H m Q S R p pos pins s I=>h pos pins s σ H Q I (k ρ st σ H m Q S R p)
theorem JS.of{e:Stmt}{g:GS}{t:TS}(h:PS X e t)(k:∀(ρ:bH)(st:Hs)(σ:St)(H:Hp)(m:Mp)(D:Ends),bf X.K m st H->ay X.K m H ρ σ->aE X m H (g ρ st) D->t D σ H):JS X e g :=
 λρ st σ H m D S R p pins s I=>h pins s σ H D I (k ρ st σ H m D S R p)
theorem nz.of{e:List Stmt}{g:GS}{t:TS}(h:Cg X e t)(k:∀(ρ:bH)(st:Hs)(σ:St)(H:Hp)(m:Mp)(D:Ends),bf X.K m st H->ay X.K m H ρ σ->aE X m H (g ρ st) D->t D σ H):nz X e g :=
 λρ st σ H m D S R p pins s I=>h pins s σ H D I (k ρ st σ H m D S R p)
theorem JE.go{e:Expr}{g:GE}{ρ:bH}{st:Hs}{σ:St}{H:Hp}{m:Mp}{T:VK}{ok:Wv->Hs->Prop}(h:JE X e g)(S:bf X.K m st H)(R:ay X.K m H ρ σ)(p:aw X σ m H (g ρ st) ok)
  (k:∀(w:Wv)(st1:Hs)(v:V)(m1:Mp)(H1:Hp),ok w st1->Ext X.K m H m1 H1->bf X.K m1 st1 H1->ah X.K m1 H1 w v->T v H1):SE X e σ H T :=
 h ρ st σ H m T S R (p.imp Ext.refl λw st1 q v m1 H1 e1 s1 r1=>k w st1 v m1 H1 q e1 s1 r1)
theorem JT.go{e:Expr}{g:GT}{ρ:bH}{st:Hs}{σ:St}{H:Hp}{m:Mp}{T:Bool->Hp->Prop}{ok:Bool->Hs->Prop}(h:JT X e g)(S:bf X.K m st H)(R:ay X.K m H ρ σ)(p:aw X σ m H (g ρ st) ok)
  (k:∀(b:Bool)(st1:Hs)(m1:Mp)(H1:Hp),ok b st1->Ext X.K m H m1 H1->bf X.K m1 st1 H1->T b H1):ST X e σ H T :=
 h ρ st σ H m T S R (p.imp Ext.refl λb st1 q m1 H1 e1 s1=>k b st1 m1 H1 q e1 s1)
theorem JA.go{es:List Expr}{g:GA}{ρ:bH}{st:Hs}{σ:St}{H:Hp}{m:Mp}{T:List V->Hp->Prop}{ok:List Wv->Hs->Prop}(h:JA X es g)(S:bf X.K m st H)(R:ay X.K m H ρ σ)(p:aw X σ m H (g ρ st) ok)
  (k:∀(ws:List Wv)(st1:Hs)(vs:List V)(m1:Mp)(H1:Hp),ok ws st1->Ext X.K m H m1 H1->bf X.K m1 st1 H1->ai X.K m1 H1 ws vs->T vs H1):SA X es σ H T :=
 h ρ st σ H m T S R (p.imp Ext.refl λw st1 q v m1 H1 e1 s1 r1=>k w st1 v m1 H1 q e1 s1 r1)
end
end J
namespace J
open PySem PySem.Spec PyProof.Rows L2
def lim:Nat:=1000000
theorem eC{n:Nat}(h:n<=lim):n<=ado:=bp h (by unfold lim;rw[sizeLine_eq];decide)
theorem xu{n:Nat}(h:n < lim):n < ado:=a9 h (by unfold lim;rw[sizeLine_eq];decide)
def af(i:Nat):GE:=λρ st=>match ρ[i]? with
 | some (some w)=> .ok w st
 | _=> .bad
def gC(w:Wv):GE:=λ_ st=> .ok w st
section
variable {X:Cx}
theorem xv(i:Nat){x:Str}{pos:Pos}(hN:X.N[i]? =some x:=by rfl)(hv:ON X.env.scope x:=by first | exact Or.inl rfl | exact kL (Or.inl rfl) | exact kL (kL rfl))(hd:(x == ("__debug__":Str))=false:=by decide)
  (hcd:(x == ("__classdict__":Str))=false:=by decide):JE X (.Name x pos) (af i):=JE.of (Ci hN hv hd hcd) λρ st σ H m Q S R p=>by
 unfold af at p
 cases e:ρ[i]? with
 | none=>rw[e] at p;exact ae p
 | some o=>
  cases o with
  | none=>rw[e] at p;exact ae p
  | some w=>
   rw[e] at p
   obtain⟨v,h1,h2⟩:=R.get i w e
   exact⟨v,h1,p v m H Ext.refl S h2⟩
theorem Md{i:Int}{j pos}:JE X (.Constant (.int i) j pos) (gC (.int i)):=JE.of Ld λρ st σ H m Q S R p=>p (.int i) m H Ext.refl S (by unfold ah;rfl)
theorem P_{b:Bool}{j pos}:JE X (.Constant (.bool b) j pos) (gC (.bl b)):=JE.of Pe λρ st σ H m Q S R p=>p (.bl b) m H Ext.refl S (by unfold ah;rfl)
theorem Me{j pos}:JE X (.Constant .none j pos) (gC .bz):=JE.of Le λρ st σ H m Q S R p=>p .bz m H Ext.refl S (by unfold ah;rfl)
theorem Mf{x:PySem.Str}{j pos}(hx:ba x=true:=by decide+kernel):JE X (.Constant (.str x) j pos) (gC (.str x)):=JE.of Lf λρ st σ H m Q S R p=>p (.str x) m H Ext.refl S (by unfold ah;exact⟨rfl,hx⟩)
theorem C3{x:Str}{i:Int}{t:Tok}{pos:Pos}(hg:Gl X x)(hm:X.mg x=some (.int i t))(hd:(x == ("__debug__":Str))=false:=by decide):JE X (.Name x pos) (gC (.int i)) :=
 JE.of (i7 (v:=.int i) hg hm ⟨t,rfl⟩ hd) λρ st σ H m Q S R p=>p (.int i) m H Ext.refl S (by unfold ah;rfl)
theorem C4{x y:Str}{t:Tok}{pos:Pos}(hg:Gl X x)(hm:X.mg x=some (.str y t))(hy:ba y=true:=by decide+kernel)(hd:(x == ("__debug__":Str))=false:=by decide):JE X (.Name x pos) (gC (.str y)) :=
 JE.of (i7 (v:=.str y) hg hm ⟨t,rfl⟩ hd) λρ st σ H m Q S R p=>p (.str y) m H Ext.refl S (by unfold ah;exact⟨rfl,hy⟩)
theorem Qa{x:Str}{T:String}{pos:Pos}(hg:Gl X x)(hm:X.mg x=none)(hv:adh x=some (.type T))(hn:x≠"__name__":=by decide)(hd:(x == ("__debug__":Str))=false:=by decide):JE X (.Name x pos) (gC (.ty T)) :=
 JE.of (GU (v:=.ty T) hg hm hv rfl hn hd) λρ st σ H m Q S R p=>p (.ty T) m H Ext.refl S (by unfold ah;rfl)
abbrev f_:=Wv->Wv->Hs->Re Wv
def ag(op:f_)(ga gb:GE):GE:=λρ st=>(ga ρ st).bind λx st1=>(gb ρ st1).bind λy st2=>(op x y st2).ny
def y9(X:Cx)(op:f_)(r:R2):Prop:=∀(x y:Wv)(a b:V)(st:Hs)(H:Hp)(m:Mp)(Q:VK),bf X.K m st H->ah X.K m H x a->ah X.K m H y b->eE X.K m H (op x y st) Q->r a b H Q
def kM(X:Cx)(f:adb->adb->Sem adb)(op:f_):Prop:=∃r,fB X f r/\y9 X op r
theorem y_{a b:Expr}{ga gb:GE}{op:f_}{r:R2}(h2:y9 X op r)(ha:JE X a ga)(hb:JE X b gb){ρ:bH}{st:Hs}{σ:St}{H:Hp}{m:Mp}{Q:VK}(S:bf X.K m st H)(R:ay X.K m H ρ σ)(p:cY X σ m H (ag op ga gb ρ st) Q) :
  Px r (SE X a) (SE X b) σ H Q:=by
 refine ha.go S R (aw.bind p) λx st1 v m1 H1 p1 e1 S1 rx=>?_
 refine hb.go S1 (R.mono e1) ((aw.bind p1).imp e1 λ_ _ q=>q) λy st2 u m2 H2 p2 e2 S2 ry=>?_
 exact h2 x y v u st2 H2 m2 Q S2 (ah.mono e2 _ _ rx) ry (eE.shift (aw.ny p2) (e1.trans e2))
theorem Mi{a b:Expr}{ga gb:GE}{o:Operator}{op:f_}{pos:Pos}(ho:kM X (adg o) op)(ha:JE X a ga)(hb:JE X b gb):JE X (.BinOp a o b pos) (ag op ga gb):=by
 obtain⟨r,h1,h2⟩:=ho
 exact JE.of (Py h1 aM aM) λρ st σ H m Q S R p=>y_ h2 ha hb S R p
theorem xw{a b:Expr}{ga gb:GE}{o:CmpOp}{op:f_}{pos:Pos}(ho:kM X (adk o) op)(ha:JE X a ga)(hb:JE X b gb)(hm:adf o b=false):JE X (.Compare a [o] [b] pos) (ag op ga gb):=by
 obtain⟨r,h1,h2⟩:=ho
 exact JE.of (G_ h1 aM aM hm) λρ st σ H m Q S R p=>y_ h2 ha hb S R p
def J2(w:Wv)(st:Hs):Re Bool:=match w with
 | .bl b=> .ok b st
 | _=> .bad
def cC(g:GE):GT:=λρ st=>(g ρ st).bind J2
theorem vG{σ:St}{m:Mp}{H:Hp}{r:Re Wv}{Q:Bool->Hp->Prop}(p:iS X σ m H (r.bind J2) Q):cY X σ m H r (λx H'=>∃k,x= .bl k/\Q k H'):=by
 cases r with
 | ok w st=>
  cases w with
  | bl b=>
   intro v m' H' e S rw'
   unfold ah at rw'
   exact⟨b,rw',p m' H' e S⟩
  | _=>exact ae p
 | err c st=>exact p
 | bad=>exact p
theorem xx{a b:Expr}{ga gb:GE}{o:CmpOp}{op:f_}{pos:Pos}(ho:kM X (adk o) op)(ha:JE X a ga)(hb:JE X b gb)(hm:adf o b=false):JT X (.Compare a [o] [b] pos) (cC (ag op ga gb)):=by
 obtain⟨r,h1,h2⟩:=ho
 exact JT.of (G' h1 aM aM hm) λρ st σ H m Q S R p=>y_ h2 ha hb S R (vG p)
def i_(op op':f_)(ga gb gc:GE):GE:=λρ st=>(ga ρ st).bind λx st1=>(gb ρ st1).bind λy st2=>(op x y st2).ny.bind λz st3=>match z with
 | .bl true=>(gc ρ st3).bind λu zc=>(op' y u zc).ny
 | .bl false=> .ok (.bl false) st3
 | _=> .bad
theorem J3{a b c:Expr}{ga gb gc:GE}{op op':f_}{r r':R2}(h2:y9 X op r)(h2':y9 X op' r')(ha:JE X a ga)(hb:JE X b gb)(hc:JE X c gc){ρ:bH}{st:Hs}{σ:St}{H:Hp}{m:Mp}{Q:VK}
  (S:bf X.K m st H)(R:ay X.K m H ρ σ)(p:cY X σ m H (i_ op op' ga gb gc ρ st) Q):xf r r' (SE X a) (SE X b) (SE X c) σ H Q:=by
 refine ha.go S R (aw.bind p) λx st1 v m1 H1 p1 e1 S1 rx=>?_
 refine hb.go S1 (R.mono e1) ((aw.bind p1).imp e1 λ_ _ q=>q) λy st2 u m2 H2 p2 e2 S2 ry=>?_
 refine h2 x y v u st2 H2 m2 _ S2 (ah.mono e2 _ _ rx) ry (qg.imp (aw.ny (aw.bind p2)) λz st3 p3=>?_)
 intro z' m3 H3 e3 S3 rz
 cases z with
 | bl k=>
  unfold ah at rz
  refine⟨k,rz,?_⟩
  cases k with
  | true=>
   rw[if_pos rfl]
   refine hc.go S3 (R.mono (e1.trans (e2.trans e3))) ((aw.bind p3).imp (e1.trans (e2.trans e3)) λ_ _ q=>q) λq zc u' m4 H4 p4 e4 S4 rq=>?_
   exact h2' y q u u' zc H4 m4 Q S4 (ah.mono (e3.trans e4) _ _ ry) rq (eE.shift (aw.ny p4) (e1.trans (e2.trans (e3.trans e4))))
  | false=>
   rw[if_neg cR]
   exact p3 (.bl false) m3 H3 (e1.trans (e2.trans e3)) S3 (by unfold ah;rfl)
 | _=>exact ae p3
theorem C5{a b c:Expr}{ga gb gc:GE}{o o':CmpOp}{op op':f_}{pos:Pos}(ho:kM X (adk o) op)(ho':kM X (adk o') op')(ha:JE X a ga)(hb:JE X b gb)(hc:JE X c gc)
  (hm:lastMarks [o,o'] [b,c]=false:=by with_unfolding_all rfl):JE X (.Compare a [o,o'] [b,c] pos) (i_ op op' ga gb gc):=by
 obtain⟨r,h1,h2⟩:=ho
 obtain⟨r',GD,h2'⟩:=ho'
 exact JE.of (Cu h1 GD aM aM aM hm) λρ st σ H m Q S R p=>J3 h2 h2' ha hb hc S R p
theorem C6{a b c:Expr}{ga gb gc:GE}{o o':CmpOp}{op op':f_}{pos:Pos}(ho:kM X (adk o) op)(ho':kM X (adk o') op')(ha:JE X a ga)(hb:JE X b gb)(hc:JE X c gc)
  (hm:lastMarks [o,o'] [b,c]=false:=by with_unfolding_all rfl):JT X (.Compare a [o,o'] [b,c] pos) (cC (i_ op op' ga gb gc)):=by
 obtain⟨r,h1,h2⟩:=ho
 obtain⟨r',GD,h2'⟩:=ho'
 exact JT.of (Cv h1 GD aM aM aM hm) λρ st σ H m Q S R p=>J3 h2 h2' ha hb hc S R (vG p)
def HC(op:Wv->Hs->Re Wv)(ga:GE):GE:=λρ st=>(ga ρ st).bind op
def mK:Wv->Hs->Re Wv
 | .int i,st=> .ok (.int (-i)) st
 | _,_=> .bad
theorem Mj{a:Expr}{ga:GE}{pos:Pos}(ha:JE X a ga):JE X (.UnaryOp .USub a pos) (HC mK ga):=by
 refine JE.of (Pz LC aM) λρ st σ H m Q S R p=>?_
 refine ha.go S R (aw.bind p) λx st1 v m1 H1 p1 e1 S1 rx=>?_
 cases x with
 | int i=>
  unfold ah at rx
  exact⟨i,rx,p1 _ m1 H1 e1 S1 (by unfold ah;rfl)⟩
 | _=>exact ae p1
def SW(X:Cx)(e:Expr):TT:=λσ H Q=>∀(wh:Sem adb)(pins:List (ac5×Obj))(s:ada),Inv X pins σ H s->adq (model X.prog X.w) X.A (isTrue e X.env wh) (TP X pins σ Q) X.xe s
theorem J4{e:Expr}:PW X e (SW X e):=λwh pins s _ _ _ I h=>h wh pins s I
def JW(X:Cx)(e:Expr)(g:GT):Prop:=∀(ρ:bH)(st:Hs)(σ:St)(H:Hp)(m:Mp)(Q:Bool->Hp->Prop),bf X.K m st H->ay X.K m H ρ σ->iS X σ m H (g ρ st) Q->SW X e σ H Q
theorem JW.of{e:Expr}{g:GT}{t:TT}(h:PW X e t)(k:∀(ρ:bH)(st:Hs)(σ:St)(H:Hp)(m:Mp)(Q:Bool->Hp->Prop),bf X.K m st H->ay X.K m H ρ σ->iS X σ m H (g ρ st) Q->t σ H Q):JW X e g :=
 λρ st σ H m Q S R p wh pins s I=>h wh pins s σ H Q I (k ρ st σ H m Q S R p)
theorem JW.jt{e:Expr}{g:GT}(h:JW X e g):JT X e g:=λρ st σ H m Q S R p pins s I=>h ρ st σ H m Q S R p _ pins s I
def HD(ga gb:GT):GT:=λρ st=>(ga ρ st).bind λb st1=>if b=true then gb ρ st1 else .ok false st1
def Mk(ga gb:GT):GT:=λρ st=>(ga ρ st).bind λb st1=>if b=true then .ok true st1 else gb ρ st1
def ud(ga:GT):GT:=λρ st=>(ga ρ st).bind λb st1=> .ok (!b) st1
theorem HE{a:Expr}{ga:GT}{pos:Pos}(ha:JT X a ga):JW X (.BoolOp .And [a] pos) ga:=JW.of (GV qh) λρ st σ H m Q S R p=>ha ρ st σ H m Q S R p
theorem Ml{a:Expr}{ga:GT}{pos:Pos}(ha:JT X a ga):JW X (.BoolOp .Or [a] pos) ga:=JW.of (Lh qh) λρ st σ H m Q S R p=>ha ρ st σ H m Q S R p
theorem Mm{a b:Expr}{rest:List Expr}{ga gb:GT}{pos:Pos}(ha:JT X a ga)(hb:JW X (.BoolOp .And (b::rest) pos) gb):JW X (.BoolOp .And (a::b::rest) pos) (HD ga gb):=by
 refine JW.of (Li qh J4) λρ st σ H m Q S R p=>?_
 refine ha.go S R (aw.bind p) λc st1 m1 H1 p1 e1 S1=>?_
 cases c with
 | true=>rw[if_pos rfl] at p1 ⊢;exact hb ρ st1 σ H1 m1 Q S1 (R.mono e1) (iS.shift p1 e1)
 | false=>rw[if_neg cR] at p1 ⊢;exact p1 m1 H1 e1 S1
theorem Qb{a b:Expr}{rest:List Expr}{ga gb:GT}{pos:Pos}(ha:JT X a ga)(hb:JW X (.BoolOp .Or (b::rest) pos) gb):JW X (.BoolOp .Or (a::b::rest) pos) (Mk ga gb):=by
 refine JW.of (Pf qh J4) λρ st σ H m Q S R p=>?_
 refine ha.go S R (aw.bind p) λc st1 m1 H1 p1 e1 S1=>?_
 cases c with
 | true=>rw[if_pos rfl] at p1 ⊢;exact p1 m1 H1 e1 S1
 | false=>rw[if_neg cR] at p1 ⊢;exact hb ρ st1 σ H1 m1 Q S1 (R.mono e1) (iS.shift p1 e1)
theorem Mn{a:Expr}{ga:GT}{pos:Pos}(ha:JT X a ga):JT X (.UnaryOp .Not a pos) (ud ga):=by
 refine JT.of (Lj qh) λρ st σ H m Q S R p=>?_
 exact ha.go S R (aw.bind p) λc st1 m1 H1 p1 e1 S1=>p1 m1 H1 e1 S1
def lD(ga gb:GE):GE:=λρ st=>(ga ρ st).bind λw st1=>match w with
 | .bl true=>gb ρ st1
 | .bl false=> .ok (.bl false) st1
 | _=> .bad
def Qc(ga gb:GE):GE:=λρ st=>(ga ρ st).bind λw st1=>match w with
 | .bl true=> .ok (.bl true) st1
 | .bl false=>gb ρ st1
 | _=> .bad
def J5(ga:GE):GE:=λρ st=>(ga ρ st).bind λw st1=>match w with
 | .bl b=> .ok (.bl (!b)) st1
 | _=> .bad
theorem C7{op}{a:Expr}{ga:GE}{pos:Pos}(ha:JE X a ga):JE X (.BoolOp op [a] pos) ga:=JE.of (Lk aM) λρ st σ H m Q S R p=>ha ρ st σ H m Q S R p
theorem Mo{a b:Expr}{rest:List Expr}{ga gb:GE}{pos:Pos}(ha:JE X a ga)(hb:JE X (.BoolOp .And (b::rest) pos) gb):JE X (.BoolOp .And (a::b::rest) pos) (lD ga gb):=by
 refine JE.of (Ll aM aM) λρ st σ H m Q S R p=>?_
 refine ha.go S R (aw.bind p) λx st1 v m1 H1 p1 e1 S1 rx=>?_
 cases x with
 | bl c=>
  unfold ah at rx
  refine⟨c,rx,?_⟩
  cases c with
  | true=>rw[if_pos rfl];exact hb ρ st1 σ H1 m1 Q S1 (R.mono e1) (cY.shift p1 e1)
  | false=>rw[if_neg cR];exact p1 _ m1 H1 e1 S1 (by unfold ah;rfl)
 | _=>exact ae p1
theorem Qd{a b:Expr}{rest:List Expr}{ga gb:GE}{pos:Pos}(ha:JE X a ga)(hb:JE X (.BoolOp .Or (b::rest) pos) gb):JE X (.BoolOp .Or (a::b::rest) pos) (Qc ga gb):=by
 refine JE.of (Pj aM aM) λρ st σ H m Q S R p=>?_
 refine ha.go S R (aw.bind p) λx st1 v m1 H1 p1 e1 S1 rx=>?_
 cases x with
 | bl c=>
  unfold ah at rx
  refine⟨c,rx,?_⟩
  cases c with
  | true=>rw[if_pos rfl];exact p1 _ m1 H1 e1 S1 (by unfold ah;rfl)
  | false=>rw[if_neg cR];exact hb ρ st1 σ H1 m1 Q S1 (R.mono e1) (cY.shift p1 e1)
 | _=>exact ae p1
theorem Mq{a:Expr}{ga:GE}{pos:Pos}(ha:JE X a ga):JE X (.UnaryOp .Not a pos) (J5 ga):=by
 refine JE.of (Ln aM) λρ st σ H m Q S R p=>?_
 refine ha.go S R (aw.bind p) λx st1 v m1 H1 p1 e1 S1 rx=>?_
 cases x with
 | bl c=>
  unfold ah at rx
  exact⟨c,rx,p1 _ m1 H1 e1 S1 (by unfold ah;rfl)⟩
 | _=>exact ae p1
def vH(gt:GT)(ga gb:GE):GE:=λρ st=>(gt ρ st).bind λb st1=>if b=true then ga ρ st1 else gb ρ st1
theorem Qe{c a b:Expr}{gt:GT}{ga gb:GE}{pos:Pos}(hc:JT X c gt)(ha:JE X a ga)(hb:JE X b gb):JE X (.IfExp c a b pos) (vH gt ga gb):=by
 refine JE.of (Cj qh aM aM) λρ st σ H m Q S R p=>?_
 refine hc.go S R (aw.bind p) λk st1 m1 H1 p1 e1 S1=>?_
 cases k with
 | true=>rw[if_pos rfl] at p1 ⊢;exact ha ρ st1 σ H1 m1 Q S1 (R.mono e1) (cY.shift p1 e1)
 | false=>rw[if_neg cR] at p1 ⊢;exact hb ρ st1 σ H1 m1 Q S1 (R.mono e1) (cY.shift p1 e1)
def aj:GA:=λ_ st=> .ok [] st
def aa(ga:GE)(gr:GA):GA:=λρ st=>(ga ρ st).bind λx st1=>(gr ρ st1).bind λxs st2=> .ok (x::xs) st2
theorem C8:JA X [] aj:=JA.of LH λρ st σ H m Q S R p=>p [] m H Ext.refl S ai.nil
theorem zd{e:Expr}{es:List Expr}{ga:GE}{gr:GA}(ha:JE X e ga)(hr:JA X es gr)(hs:adp (e::es) X.env=(false,eval e X.env)::adp es X.env:=by rfl):JA X (e::es) (aa ga gr):=by
 refine JA.of (Hd aM iT hs) λρ st σ H m Q S R p=>?_
 refine ha.go S R (aw.bind p) λx st1 v m1 H1 p1 e1 S1 rx=>?_
 refine hr.go S1 (R.mono e1) ((aw.bind p1).imp e1 λ_ _ q=>q) λxs st2 vs m2 H2 p2 e2 S2 rs=>?_
 exact p2 (v::vs) m2 H2 (e1.trans e2) S2 (ai.cons (ah.mono e2 _ _ rx) rs)
def cA(g:GA):GE:=λρ st=>(g ρ st).bind λws st1=>if ws.length<=lim then .ok (.tup ws) st1 else .bad
def jV(g:GA):GE:=λρ st=>(g ρ st).bind λws st1=>if ws.length<=lim then .ok (.ref st1.length) (st1++[.lst ws]) else .bad
theorem Mr{es:List Expr}{g:GA}{x1 pos}(h:JA X es g):JE X (.Tuple es x1 pos) (cA g):=by
 refine JE.of (LI iT) λρ st σ H m Q S R p=>?_
 refine h.go S R (aw.bind p) λws st1 vs m1 H1 p1 e1 S1 rs=>?_
 by_cases hl:ws.length<=lim
 ·rw[if_pos hl] at p1
  refine⟨by rw[<-rs.length];exact eC hl,λq hq=>?_⟩
  have e2:Ext X.K m1 H1 m1 (upd H1 q (.tup vs)):=Ext.upd (.inl hq)
  exact p1 (.ref q) m1 _ (e1.trans e2) (S1.fresh hq) (by unfold ah;exact⟨q,vs,rfl,aW,ai.mono e2 _ _ rs⟩)
 ·rw[if_neg hl] at p1;exact ae p1
theorem bf.newest{K:PySem.W.Frag}{m:Mp}{st:Hs}{H:Hp}(S:bf K m st H)(q:ac5)(H':Hp):ah K (m++[q]) H' (.ref st.length) (.ref q):=by
 unfold ah
 refine⟨q,rfl,?_⟩
 rw[<-S.len,fV (aq _),mJ]
 rfl
theorem mL{m m1:Mp}{H H1:Hp}{st1:Hs}{ws:List Wv}{vs:List V}{Q:VK}(p1:OR X.K m H Q (.ref st1.length) (st1++[.lst ws]))(e1:Ext X.K m H m1 H1)(S1:bf X.K m1 st1 H1)(rs:ai X.K m1 H1 ws vs)(q:ac5)(hq:H1 q=none) :
  Q (.ref q) (upd H1 q (.lst vs)) :=
 p1 (.ref q) (m1++[q]) _ (e1.trans (Ext.more.trans (Ext.upd (.inl hq)))) (S1.alloc hq rs) (S1.newest q _)
theorem Ms{es:List Expr}{g:GA}{pos}(h:JA X es g):JE X (.List es pos) (jV g):=by
 refine JE.of (LJ iT) λρ st σ H m Q S R p=>?_
 refine h.go S R (aw.bind p) λws st1 vs m1 H1 p1 e1 S1 rs=>?_
 by_cases hl:ws.length<=lim
 ·rw[if_pos hl] at p1
  exact⟨by rw[<-rs.length];exact eC hl,λq hq=>mL p1 e1 S1 rs q hq⟩
 ·rw[if_neg hl] at p1;exact ae p1
end
section
variable {X:Cx}
theorem fB.or{f:adb->adb->Sem adb}{r r':R2}(h:fB X f r)(h':fB X f r'):fB X f (λx y H Q=>r x y H Q\/r' x y H Q):=by
 intro pins s σ H x y v u Q I rx ry q
 rcases q with q | q
 ·exact h pins s σ H x y v u Q I rx ry q
 ·exact h' pins s σ H x y v u Q I rx ry q
theorem C9:fB X (adg .FloorDiv) (rI (λ_ j=>j≠0/\j.natAbs.log2 < 9000) λi j=> .int (i.fdiv j)):=Sl λi j _ _ _ _ _ hc q=>floordiv_int hc.1 q (.inl (PyProof.noPylong_of_log2 hc.2))
theorem HG:fB X (adg .Mod) (rI (λ_ j=>j≠0) λi j=> .int (i.fmod j)):=Sl λi j _ _ _ _ _ hc q=>mod_int' hc q
theorem HH:fB X (adg .Mult) (rI (λi j=>IntMulOk i j) λi j=> .int (i * j)):=Sl λ_ _ _ _ _ _ _ hc q=>mul_int q hc
instance Uw{a b:Int}:Decidable (IntMulOk a b):=by unfold IntMulOk;infer_instance
def cV:f_
 | .int i,.int j,st=> .ok (.int (i - j)) st
 | _,_,_=> .bad
def fZ:f_
 | .int i,.int j,st=>if j≠0/\j.natAbs.log2 < 9000 then .ok (.int (i.fdiv j)) st else .bad
 | _,_,_=> .bad
def oMod:f_
 | .int i,.int j,st=>if j≠0 then .ok (.int (i.fmod j)) st else .bad
 | _,_,_=> .bad
def qi:f_
 | .int i,.int j,st=>if 0<=j/\j<=1000000/\i.natAbs < 2 ^ 64 then .ok (.int (i ^ j.toNat)) st else .bad
 | _,_,_=> .bad
def Qf:f_
 | .int i,.int j,st=> .ok (.bl (decide (i < j))) st
 | .str i,.str j,st=> .ok (.bl (decide (i.cps.toList < j.cps.toList))) st
 | _,_,_=> .bad
def Qg:f_
 | .int i,.int j,st=> .ok (.bl (decide (i<=j))) st
 | _,_,_=> .bad
def Ux:f_
 | .int i,.int j,st=> .ok (.bl (decide (j < i))) st
 | _,_,_=> .bad
def Uy:f_
 | .int i,.int j,st=> .ok (.bl (decide (j<=i))) st
 | _,_,_=> .bad
theorem aI{m:Mp}{H:Hp}{i:Int}{a:V}(h:ah X.K m H (.int i) a):a= .int i:=by unfold ah at h;exact h
theorem eS{m:Mp}{H:Hp}{x:PySem.Str}{a:V}(h:ah X.K m H (.str x) a):a= .str x/\ba x=true:=by unfold ah at h;exact h
theorem mkInt{m:Mp}{H:Hp}{i:Int}:ah X.K m H (.int i) (.int i):=by unfold ah;rfl
theorem ja{m:Mp}{H:Hp}{i:Bool}:ah X.K m H (.bl i) (.bl i):=by unfold ah;rfl
theorem ze{m:Mp}{H:Hp}:ah X.K m H .bz .bz:=by unfold ah;rfl
theorem mkStr{m:Mp}{H:Hp}{x:PySem.Str}(h:ba x=true):ah X.K m H (.str x) (.str x):=by unfold ah;exact⟨rfl,h⟩
theorem Mt:kM X (adg .Sub) cV:=⟨_,LA,λx y a b st H m Q S rx ry p=>by
 cases x with
 | int i=>
  cases y with
  | int j=>exact⟨i,j,aI rx,aI ry,p _ m H Ext.refl S mkInt⟩
  | _=>exact ae p
 | _=>cases y<;>exact ae p⟩
theorem HI:kM X (adg .FloorDiv) fZ:=⟨_,C9,λx y a b st H m Q S rx ry p=>by
 cases x with
 | int i=>
  cases y with
  | int j=>
   dsimp only[fZ] at p
   by_cases c:j≠0/\j.natAbs.log2 < 9000
   ·rw[if_pos c] at p;exact⟨i,j,aI rx,aI ry,c,p _ m H Ext.refl S mkInt⟩
   ·rw[if_neg c] at p;exact ae p
  | _=>exact ae p
 | _=>cases y<;>exact ae p⟩
theorem Mu:kM X (adg .Mod) oMod:=⟨_,HG,λx y a b st H m Q S rx ry p=>by
 cases x with
 | int i=>
  cases y with
  | int j=>
   dsimp only[oMod] at p
   by_cases c:j≠0
   ·rw[if_pos c] at p;exact⟨i,j,aI rx,aI ry,c,p _ m H Ext.refl S mkInt⟩
   ·rw[if_neg c] at p;exact ae p
  | _=>exact ae p
 | _=>cases y<;>exact ae p⟩
theorem Mv:kM X (adg .Pow) qi:=⟨_,LB,λx y a b st H m Q S rx ry p=>by
 cases x with
 | int i=>
  cases y with
  | int j=>
   dsimp only[qi] at p
   by_cases c:0<=j/\j<=1000000/\i.natAbs < 2 ^ 64
   ·rw[if_pos c] at p;exact⟨i,j,aI rx,aI ry,c,p _ m H Ext.refl S mkInt⟩
   ·rw[if_neg c] at p;exact ae p
  | _=>exact ae p
 | _=>cases y<;>exact ae p⟩
theorem Qh:kM X (adk .Lt) Qf:=⟨_,fB.or PC AS,λx y a b st H m Q S rx ry p=>by
 cases x with
 | int i=>
  cases y with
  | int j=>exact .inl ⟨i,j,aI rx,aI ry,p _ m H Ext.refl S ja⟩
  | _=>exact ae p
 | str i=>
  cases y with
  | str j=>exact .inr ⟨i,j,(eS rx).1,(eS ry).1,p _ m H Ext.refl S ja⟩
  | _=>exact ae p
 | _=>cases y<;>exact ae p⟩
theorem Qi:kM X (adk .LtE) Qg:=⟨_,PD,λx y a b st H m Q S rx ry p=>by
 cases x with
 | int i=>
  cases y with
  | int j=>exact⟨i,j,aI rx,aI ry,p _ m H Ext.refl S ja⟩
  | _=>exact ae p
 | _=>cases y<;>exact ae p⟩
theorem Qj:kM X (adk .Gt) Ux:=⟨_,PF,λx y a b st H m Q S rx ry p=>by
 cases x with
 | int i=>
  cases y with
  | int j=>exact⟨i,j,aI rx,aI ry,p _ m H Ext.refl S ja⟩
  | _=>exact ae p
 | _=>cases y<;>exact ae p⟩
theorem Qk:kM X (adk .GtE) Uy:=⟨_,PH,λx y a b st H m Q S rx ry p=>by
 cases x with
 | int i=>
  cases y with
  | int j=>exact⟨i,j,aI rx,aI ry,p _ m H Ext.refl S ja⟩
  | _=>exact ae p
 | _=>cases y<;>exact ae p⟩
def Ql:f_
 | x,.bz,st=> .ok (.bl (match x with | .bz=>true | _=>false)) st
 | _,_,_=> .bad
def qj:f_
 | x,.bz,st=> .ok (.bl (match x with | .bz=>false | _=>true)) st
 | _,_,_=> .bad
theorem J6{m:Mp}{H:Hp}{x:Wv}{a:V}(h:ah X.K m H x a):decide (a=V.bz)=(match x with | .bz=>true | _=>false):=by
 cases x with
 | bz=>unfold ah at h;subst h;rfl
 | bl b=>unfold ah at h;subst h;rfl
 | int b=>unfold ah at h;subst h;rfl
 | str b=>unfold ah at h;obtain⟨h,_⟩:=h;subst h;rfl
 | tup b=>unfold ah at h;obtain⟨q,xs,h,_⟩:=h;subst h;rfl
 | oV b=>unfold ah at h;obtain⟨q,xs,h,_⟩:=h;subst h;rfl
 | ref b=>unfold ah at h;obtain⟨q,h,_⟩:=h;subst h;rfl
 | ty b=>unfold ah at h;subst h;rfl
 | cls b=>unfold ah at h;obtain⟨q,h,_⟩:=h;subst h;rfl
 | vD b=>unfold ah at h;obtain⟨q,C,h,_⟩:=h;subst h;rfl
 | fn fp b=>unfold ah at h;obtain⟨h,_⟩:=h;subst h;rfl
theorem Qm:kM X (adk .Is) Ql:=⟨_,LD,λx y a b st H m Q S rx ry p=>by
 cases y with
 | bz=>
  refine⟨by unfold ah at ry;exact ry,?_⟩
  rw[J6 rx]
  cases x<;>exact p _ m H Ext.refl S ja
 | _=>cases x<;>exact ae p⟩
theorem C_:kM X (adk .IsNot) qj:=⟨_,G8,λx y a b st H m Q S rx ry p=>by
 cases y with
 | bz=>
  refine⟨by unfold ah at ry;exact ry,?_⟩
  rw[J6 rx]
  cases x<;>exact p _ m H Ext.refl S ja
 | _=>cases x<;>exact ae p⟩
theorem ue{a b:PySem.Str}(ha:ba a=true)(hb:ba b=true):ba (a++b)=true:=by
 unfold ba at *
 show((a.cps++b.cps).all _)=true
 rw[Array.all_append,ha,hb]
 rfl
def Qn(K:PySem.W.Frag):R2:=λx y H Q=>∃l b xs zs,x= .ref l/\y= .ref b/\jN K H l xs/\jN K H b zs/\xs.length+zs.length<=ado/\∀p,H p=none->Q (.ref p) (upd H p (.lst (xs++zs)))
theorem HJ:fB X (adg .Add) (Qn X.K):=by
 intro pins s σ H x y v u Q I rx ry h
 obtain⟨l,b,xs,zs,rfl,rfl,hH,hB,hz,q⟩:=h
 cases rx
 cases ry
 obtain⟨its,r,pl,hs⟩:=I.list hH
 obtain⟨its2,r2,ZL,hs2⟩:=I.list hB
 have hl:=r.length
 have hl2:=r2.length
 obtain⟨⟨cls,dd,data,sl⟩,ho,hc,n,hd⟩:=id pl.isList
 obtain⟨⟨Uo,dd2,data2,sl2⟩,ho2,hc2,n2,hd2⟩:=id ZL.isList
 simp only at hc hd hc2 hd2
 subst hc hd hc2 hd2
 have e:its.toArray++its2.toArray=(its++its2).toArray:=by simp
 refine PySem.concat_meets ⟨_,ho,rfl⟩ ⟨_,ho2,rfl⟩ PySem.noFill_list_add PySem.seq_list_add PySem.F.slot_list_add PySem.F.entry_list_add (PySem.F.args_list_add_2 _ _) (list_addW l b its.toArray its2.toArray n n2 dd dd2 sl sl2 (by simp;omega)) ⟨ho,ho2,?_⟩
 rw[e]
 exact⟨.ref _,_,I.Hu (t':=s.toks) (r.append r2) (by rw[cW];omega),rfl,q _ I.fresh⟩
def Qo(K:PySem.W.Frag):R2:=λx y H Q=>∃a b ys,x= .ref a/\y= .ref b/\eJ K H a []/\eJ K H b ys/\Q (.ref b) H
theorem HK:fB X (adg .Add) (Qo X.K):=by
 intro pins s σ H x y v u Q I rx ry h
 obtain⟨a,b,ys,rfl,rfl,ha,hb,q⟩:=h
 cases rx
 cases ry
 obtain⟨its,r1,p1,_⟩:=I.tuple ha
 obtain⟨its2,r2,p2,_⟩:=I.tuple hb
 cases r1
 obtain⟨⟨c1,d1,t1,l1⟩,g1,k1,n1,j1⟩:=id p1
 obtain⟨⟨c2,d2,t2,l2⟩,g2,k2,n2,j2⟩:=id p2
 simp only at k1 j1 k2 j2
 subst k1 j1 k2 j2
 exact PySem.concat_meets ⟨_,g1,rfl⟩ ⟨_,g2,rfl⟩ PySem.noFill_tuple_add PySem.seq_tuple_add PySem.F.slot_tuple_add PySem.F.entry_tuple_add (PySem.F.args_tuple_add_2 _ _) (tuple_addW0 a b #[] its2.toArray n1 n2 d1 d2 l1 l2 (by simp)) ⟨g1,g2,⟨.ref b,H,I,rfl,q⟩⟩
def br:f_
 | .int i,.int j,st=> .ok (.int (i+j)) st
 | .str i,.str j,st=>if i.length+j.length<=lim then .ok (.str (i++j)) st else .bad
 | .tup i,.tup j,st=>if i.length+j.length<=lim then .ok (.tup (i++j)) st else .bad
 | .ref l,.ref k,st=>match av st l,av st k with
  | some i,some j=>if i.length+j.length<=lim then .ok (.ref st.length) (st++[.lst (i++j)]) else .bad
  | _,_=> .bad
 | _,_,_=> .bad
instance {α:Type}{xs:List α}:Decidable (xs≠[]):=match xs with
 | []=>isFalse (λh=>h rfl)
 | _::_=>isTrue (λh=>by cases h)
theorem Mw:kM X (adg .Add) br:=⟨_,fB.or Lz (fB.or xh (fB.or Hk (fB.or HJ HK))),λx y a b st H m Q S rx ry p=>by
 cases x with
 | int i=>
  cases y with
  | int j=>exact .inl ⟨i,j,aI rx,aI ry,p _ m H Ext.refl S mkInt⟩
  | _=>exact ae p
 | str i=>
  cases y with
  | str j=>
   dsimp only[br] at p
   by_cases c:i.length+j.length<=lim
   ·rw[if_pos c] at p
    exact .inr (.inl ⟨i,j,(eS rx).1,(eS ry).1,eC c,p _ m H Ext.refl S (mkStr (ue (eS rx).2 (eS ry).2))⟩)
   ·rw[if_neg c] at p;exact ae p
  | _=>exact ae p
 | tup i=>
  cases y with
  | tup j=>
   dsimp only[br] at p
   by_cases c:i.length+j.length<=lim
   ·rw[if_pos c] at p
    by_cases c0:i=[]
    ·subst c0
     unfold ah at rx ry
     obtain⟨a1,xs,rfl,h1,h2⟩:=rx
     obtain⟨a2,ys,rfl,h3,h4⟩:=ry
     have l1:xs=[]:=Dd h2.length.symm
     subst l1
     exact .inr (.inr (.inr (.inr ⟨a1,a2,ys,rfl,rfl,eJ.of h1,eJ.of h3,p (.ref a2) m H Ext.refl S (by rw[yX];unfold ah;exact⟨a2,ys,rfl,h3,h4⟩)⟩)))
    unfold ah at rx ry
    obtain⟨a1,xs,rfl,h1,h2⟩:=rx
    obtain⟨a2,ys,rfl,h3,h4⟩:=ry
    have l1:=h2.length
    have l2:=h4.length
    have n1:xs≠[]:=λz=>by rw[z] at l1;exact c0 (Dd l1)
    refine .inr (.inr (.inl ⟨a1,a2,xs,ys,rfl,rfl,eJ.of h1,eJ.of h3,n1,by rw[<-l1,<-l2];exact eC c,λz=>?_,λ_ q hq=>?_⟩))
    ·rw[z] at l2
     rw[Dd l2,gJ] at p
     exact p (.ref a1) m H Ext.refl S (by unfold ah;exact⟨a1,xs,rfl,h1,h2⟩)
    have e2:Ext X.K m H m (upd H q (.tup (xs++ys))):=Ext.upd (.inl hq)
    exact p (.ref q) m _ e2 (S.fresh hq) (by unfold ah;exact⟨q,xs++ys,rfl,aW,ai.mono e2 _ _ (h2.append h4)⟩)
   ·rw[if_neg c] at p;exact ae p
  | _=>exact ae p
 | ref l=>
  cases y with
  | ref k=>
   dsimp only[br] at p
   unfold ah at rx ry
   obtain⟨a1,rfl,h1⟩:=rx
   obtain⟨a2,rfl,h2⟩:=ry
   cases e1:av st l with
   | none=>rw[e1] at p;exact ae p
   | some i=>
    cases e2:av st k with
    | none=>rw[e1,e2] at p;exact ae p
    | some j=>
     rw[e1,e2] at p
     by_cases c:i.length+j.length<=lim
     ·simp only[if_pos c] at p
      obtain⟨xs,q1,q2⟩:=S.read h1 e1
      obtain⟨ys,q3,q4⟩:=S.read h2 e2
      exact .inr (.inr (.inr (.inl ⟨a1,a2,xs,ys,rfl,rfl,q1,q3,by rw[<-q2.length,<-q4.length];exact eC c,λq hq=>mL p Ext.refl S (q2.append q4) q hq⟩)))
     ·simp only[if_neg c] at p;exact ae p
  | _=>exact ae p
 | _=>cases y<;>exact ae p⟩
def vI(n:Nat)(x:PySem.Str):PySem.Str:=⟨(aJ n x.cps).foldl (· ++·) #[]⟩
end
open PySem PySem.Spec PySem.SeqAt PyProof.Rows L2
def iA{α β:Type}(f:α->Option β):List α->Option (List β)
 | []=>some []
 | w::ws=>match f w,iA f ws with
  | some d,some ds=>some (d::ds)
  | _,_=>none
def aT(st:Hs):Nat->Wv->Option PyData
 | 0,w=>match w with
  | .bz=>some .none
  | .bl b=>some (.bool b)
  | .int i=>some (.int i)
  | .str x=>some (.str x)
  | _=>none
 | n+1,w=>match w with
  | .bz=>some .none
  | .bl b=>some (.bool b)
  | .int i=>some (.int i)
  | .str x=>some (.str x)
  | .tup ws=>(iA (aT st n) ws).map .tuple
  | .oV ws=>(iA (aT st n) ws).map .tuple
  | .ref l=>match av st l with
   | some ws=>(iA (aT st n) ws).map .list
   | none=>none
  | .ty _=>none
  | .cls _=>none
  | .vD _=>none
  | .fn _ _=>none
section
variable {X:Cx} {pins:List (ac5×Obj)} {σ:St} {H:Hp} {s:ada} {m:Mp} {st:Hs}
def J7(h:Heap)(n:Nat)(u:adb)(d:PyData):Prop:=∃as,Reads h u d as/\d.canLay0=true/\d.depth<=n
theorem kN{n:Nat}(ih:∀(w:Wv)(a:V)(u:adb)(d:PyData),ah X.K m H w a->RelV a u->aT st n w=some d->J7 s.heap n u d) :
  ∀(ws:List Wv)(xs:List V)(us:List adb)(ds:List PyData),ai X.K m H ws xs->Vals xs us->iA (aT st n) ws=some ds->∃as,ReadsAll s.heap us ds as/\PyData.canLayAll0 ds=true/\PyData.depthAll ds<=n
 | [],xs,us,ds,h,r,e=>by
  unfold ai at h
  subst h
  cases r
  cases e
  exact⟨[],.nil,rfl,bq _⟩
 | w::ws,xs,us,ds,h,r,e=>by
  unfold ai at h
  obtain⟨x,xr,rfl,h1,h2⟩:=h
  cases r with
  | cons r1 r2=>
   unfold iA at e
   cases e1:aT st n w with
   | none=>rw[e1] at e;cases e
   | some d=>
    cases e2:iA (aT st n) ws with
    | none=>rw[e1,e2] at e;cases e
    | some dr=>
     rw[e1,e2] at e
     cases e
     obtain⟨as,q1,q2,q3⟩:=ih w x _ d h1 r1 e1
     obtain⟨bs,p1,p2,p3⟩:=kN ih ws xr _ dr h2 r2 e2
     refine⟨as++bs,.cons q1 p1,?_,?_⟩
     ·show(PyData.canLay0 d&&PyData.canLayAll0 dr)=true
      rw[q2,p2];rfl
     ·show max d.depth (PyData.depthAll dr)<=n
      omega
theorem iU(I:Inv X pins σ H s)(S:bf X.K m st H):∀(n:Nat)(w:Wv)(a:V)(u:adb)(d:PyData),ah X.K m H w a->RelV a u->aT st n w=some d->J7 s.heap n u d:=by
 intro n
 induction n with
 | zero=>
  intro w a u d h r e
  cases w with
  | bz=>unfold ah at h;subst h;cases r;cases e;exact⟨[],.none,rfl,aq _⟩
  | bl b=>unfold ah at h;subst h;cases r;cases e;exact⟨[],.bool b,rfl,aq _⟩
  | int i=>unfold ah at h;subst h;obtain⟨t,rfl⟩:=r;cases e;exact⟨[],.int i t,rfl,aq _⟩
  | str x=>unfold ah at h;obtain⟨rfl,hx⟩:=h;obtain⟨t,rfl⟩:=r;cases e;exact⟨[],.str x t,hx,aq _⟩
  | tup ws=>cases e
  | oV ws=>cases e
  | ref l=>cases e
  | ty t=>cases e
  | cls t=>cases e
  | vD t=>cases e
  | fn fp t=>cases e
 | succ n ih=>
  intro w a u d h r e
  cases w with
  | bz=>unfold ah at h;subst h;cases r;cases e;exact⟨[],.none,rfl,bq _⟩
  | bl b=>unfold ah at h;subst h;cases r;cases e;exact⟨[],.bool b,rfl,bq _⟩
  | int i=>unfold ah at h;subst h;obtain⟨t,rfl⟩:=r;cases e;exact⟨[],.int i t,rfl,bq _⟩
  | str x=>unfold ah at h;obtain⟨rfl,hx⟩:=h;obtain⟨t,rfl⟩:=r;cases e;exact⟨[],.str x t,hx,bq _⟩
  | ty t=>cases e
  | cls t=>cases e
  | vD t=>cases e
  | fn fp t=>cases e
  | tup ws=>
   unfold ah at h
   obtain⟨p,xs,rfl,h1,h2⟩:=h
   cases r
   have e':(iA (aT st n) ws).map uf=some d:=e
   cases e2:iA (aT st n) ws with
   | none=>rw[e2] at e';cases e'
   | some ds=>
    rw[e2] at e'
    cases e'
    obtain⟨its,rv,ht,hz⟩:=I.tuple (eJ.of h1)
    obtain⟨as,q1,q2,q3⟩:=kN ih ws xs its ds h2 rv e2
    obtain⟨o,ho,hc,k,hd⟩:=ht
    exact⟨as,.tuple ho hc hd (by simpa using q1),q2,ug q3⟩
  | oV ws=>
   unfold ah at h
   obtain⟨p,xs,rfl,h1,h2⟩:=h
   cases r
   have e':(iA (aT st n) ws).map uf=some d:=e
   cases e2:iA (aT st n) ws with
   | none=>rw[e2] at e';cases e'
   | some ds=>
    rw[e2] at e'
    cases e'
    obtain⟨its,rv,ht,hz⟩:=I.tuple (.inr h1)
    obtain⟨as,q1,q2,q3⟩:=kN ih ws xs its ds h2 rv e2
    obtain⟨o,ho,hc,k,hd⟩:=ht
    exact⟨as,.tuple ho hc hd (by simpa using q1),q2,ug q3⟩
  | ref l=>
   unfold ah at h
   obtain⟨p,rfl,h1⟩:=h
   cases r
   have e':(match av st l with | some ws=>(iA (aT st n) ws).map PyData.list | none=>none)=some d:=e
   cases e1:av st l with
   | none=>rw[e1] at e';cases e'
   | some ws=>
    rw[e1] at e'
    have e'':(iA (aT st n) ws).map PyData.list=some d:=e'
    cases e2:iA (aT st n) ws with
    | none=>rw[e2] at e'';cases e''
    | some ds=>
     rw[e2] at e''
     cases e''
     obtain⟨xs,hq,h2⟩:=S.read h1 e1
     obtain⟨its,rv,ht,hz⟩:=I.list hq
     obtain⟨as,q1,q2,q3⟩:=kN ih ws xs its ds h2 rv e2
     obtain⟨o,ho,hc,k,hd⟩:=ht.isList
     exact⟨_,.list ho hc hd (by simpa using q1),q2,ug q3⟩
end
def oEq:f_:=λx y st=>match aT st 20 x,aT st 20 y with
 | some a,some b=> .ok (.bl (bE a b)) st
 | _,_=> .bad
def Mx:f_:=λx y st=>match aT st 20 x,aT st 20 y with
 | some a,some b=> .ok (.bl (!PyData.eqv a b)) st
 | _,_=> .bad
section
variable {X:Cx}
def Qp(K:PySem.W.Frag)(neg:Bool):R2:=λa b H Q=>∃m st x y da db,bf K m st H/\ah K m H x a/\ah K m H y b/\aT st 20 x=some da/\aT st 20 y=some db/\Q (.bl (if neg then !PyData.eqv da db else bE da db)) H
theorem kO{n:Nat}{d:PyData}(hn:n<=64)(h:d.canLay0=true)(k:d.depth<=n):shaped d=true:=by
 unfold shaped
 rw[h,decide_eq_true (bp k hn)]
 rfl
theorem Mz(hu:X.A.units+64 < cLine):fB X (adk .Eq) (Qp X.K false):=by
 intro pins s σ H a b v u Q I rx ry h
 obtain⟨m,st,x,y,da,db,S,h1,h2,e1,e2,q⟩:=h
 obtain⟨as,q1,q2,q3⟩:=iU I S 20 x a v da h1 rx e1
 obtain⟨bs,p1,p2,p3⟩:=iU I S 20 y b u db h2 ry e2
 exact eq_dataH q1 p1 (kO (by decide) q2 q3) (kO (by decide) p2 p3) hu ⟨.bl _,H,I,rfl,q⟩
theorem MA(hu:X.A.units+64 < cLine):fB X (adk .NotEq) (Qp X.K true):=by
 intro pins s σ H a b v u Q I rx ry h
 obtain⟨m,st,x,y,da,db,S,h1,h2,e1,e2,q⟩:=h
 obtain⟨as,q1,q2,q3⟩:=iU I S 20 x a v da h1 rx e1
 obtain⟨bs,p1,p2,p3⟩:=iU I S 20 y b u db h2 ry e2
 exact ne_dataH q1 p1 (kO (by decide) q2 q3) (kO (by decide) p2 p3) hu ⟨.bl _,H,I,rfl,q⟩
theorem J8(hu:X.A.units+64 < cLine):kM X (adk .Eq) oEq:=⟨_,Mz hu,λx y a b st H m Q S rx ry p=>by
 unfold oEq at p
 cases e1:aT st 20 x with
 | none=>rw[e1] at p;exact ae p
 | some da=>
  cases e2:aT st 20 y with
  | none=>rw[e1,e2] at p;exact ae p
  | some db=>
   rw[e1,e2] at p
   exact⟨m,st,x,y,da,db,S,rx,ry,e1,e2,p _ m H Ext.refl S ja⟩⟩
theorem J9(hu:X.A.units+64 < cLine):kM X (adk .NotEq) Mx:=⟨_,MA hu,λx y a b st H m Q S rx ry p=>by
 unfold Mx at p
 cases e1:aT st 20 x with
 | none=>rw[e1] at p;exact ae p
 | some da=>
  cases e2:aT st 20 y with
  | none=>rw[e1,e2] at p;exact ae p
  | some db=>
   rw[e1,e2] at p
   exact⟨m,st,x,y,da,db,S,rx,ry,e1,e2,p _ m H Ext.refl S ja⟩⟩
def f6:Wv->Bool
 | .bz=>true
 | .bl _=>true
 | .int _=>true
 | .str _=>true
 | _=>false
def OS:Wv->Wv->Bool
 | .bz,.bz=>true
 | .bl a,.bl b=>a == b
 | .bl a,.int b=>(if a then 1 else 0) == b
 | .int a,.bl b=>a == (if b then 1 else 0)
 | .int a,.int b=>a == b
 | .str a,.str b=>a == b
 | _,_=>false
def jW(st:Hs):Wv->Option (List Wv)
 | .tup ws=>some ws
 | .oV ws=>some ws
 | .ref l=>av st l
 | _=>none
def Uz:f_:=λx y st=>match jW st y with
 | some ws=>if f6 x=true/\ws.all f6=true then .ok (.bl (ws.any λz=>OS z x)) st else .bad
 | none=> .bad
def xy:f_:=λx y st=>match jW st y with
 | some ws=>if f6 x=true/\ws.all f6=true then .ok (.bl (!(ws.any λz=>OS z x))) st else .bad
 | none=> .bad
theorem qk{m:Mp}{H:Hp}{x:Wv}{a:V}(h:ah X.K m H x a)(f:f6 x=true):lC a=true:=by
 cases x with
 | bz=>unfold ah at h;subst h;rfl
 | bl b=>unfold ah at h;subst h;rfl
 | int b=>unfold ah at h;subst h;rfl
 | str b=>unfold ah at h;obtain⟨h,_⟩:=h;subst h;rfl
 | _=>cases f
theorem HM{m:Mp}{H:Hp}{x y:Wv}{a b:V}(h:ah X.K m H x a)(k:ah X.K m H y b)(f:f6 x=true)(g:f6 y=true):Hq a b=OS x y:=by
 cases x with
 | bz=>
  unfold ah at h;subst h
  cases y with
  | str j=>unfold ah at k;obtain⟨k,_⟩:=k;subst k;rfl
  | tup j=>cases g
  | oV j=>cases g
  | ref j=>cases g
  | ty j=>cases g
  | cls j=>cases g
  | vD j=>cases g
  | fn fp j=>cases g
  | _=>unfold ah at k;subst k;rfl
 | bl i=>
  unfold ah at h;subst h
  cases y with
  | str j=>unfold ah at k;obtain⟨k,_⟩:=k;subst k;rfl
  | tup j=>cases g
  | oV j=>cases g
  | ref j=>cases g
  | ty j=>cases g
  | cls j=>cases g
  | vD j=>cases g
  | fn fp j=>cases g
  | _=>unfold ah at k;subst k;rfl
 | int i=>
  unfold ah at h;subst h
  cases y with
  | str j=>unfold ah at k;obtain⟨k,_⟩:=k;subst k;rfl
  | tup j=>cases g
  | oV j=>cases g
  | ref j=>cases g
  | ty j=>cases g
  | cls j=>cases g
  | vD j=>cases g
  | fn fp j=>cases g
  | _=>unfold ah at k;subst k;rfl
 | str i=>
  unfold ah at h;obtain⟨h,_⟩:=h;subst h
  cases y with
  | str j=>unfold ah at k;obtain⟨k,_⟩:=k;subst k;rfl
  | tup j=>cases g
  | oV j=>cases g
  | ref j=>cases g
  | ty j=>cases g
  | cls j=>cases g
  | vD j=>cases g
  | fn fp j=>cases g
  | _=>unfold ah at k;subst k;rfl
 | _=>cases f
theorem nM{m:Mp}{H:Hp}{x:Wv}{a:V}(h:ah X.K m H x a)(f:f6 x=true):∀{ws:List Wv}{xs:List V},ai X.K m H ws xs->ws.all f6=true->xs.all lC=true/\Sn a xs=ws.any λz=>OS z x
 | [],xs,r,_=>by unfold ai at r;subst r;exact⟨rfl,rfl⟩
 | w::ws,xs,r,g=>by
  unfold ai at r
  obtain⟨y,yr,rfl,r1,r2⟩:=r
  rw[eP,cQ] at g
  obtain⟨q1,q2⟩:=nM h f r2 g.2
  constructor
  ·rw[eP,qk r1 g.1,q1];rfl
  ·unfold Sn at q2 ⊢
   rw[iz,iz,HM r1 h g.1 f,q2]
theorem pE{m:Mp}{H:Hp}{st:Hs}{y:Wv}{b:V}{ws:List Wv}(S:bf X.K m st H)(h:ah X.K m H y b)(e:jW st y=some ws):∃p xs,b= .ref p/\(jN X.K H p xs\/eJ X.K H p xs)/\ai X.K m H ws xs:=by
 cases y with
 | tup zs=>
  cases e
  unfold ah at h
  obtain⟨p,xs,e1,e2,e3⟩:=h
  exact⟨p,xs,e1,.inr (eJ.of e2),e3⟩
 | oV zs=>
  cases e
  unfold ah at h
  obtain⟨p,xs,e1,e2,e3⟩:=h
  exact⟨p,xs,e1,.inr (.inr e2),e3⟩
 | ref l=>
  unfold ah at h
  obtain⟨p,e1,e2⟩:=h
  obtain⟨xs,q1,q2⟩:=S.read e2 e
  exact⟨p,xs,e1,.inl q1,q2⟩
 | _=>cases e
theorem Qq:kM X (adk .In) Uz:=⟨_,A1,λx y a b st H m Q S rx ry p=>by
 unfold Uz at p
 cases e:jW st y with
 | none=>rw[e] at p;exact ae p
 | some ws=>
  rw[e] at p
  by_cases c:f6 x=true/\ws.all f6=true
  ·simp only[if_pos c] at p
   obtain⟨q,xs,e1,e2,e3⟩:=pE S ry e
   obtain⟨f1,f2⟩:=nM rx c.1 e3 c.2
   refine⟨q,xs,e1,e2,qk rx c.1,f1,?_⟩
   rw[f2]
   exact p _ m H Ext.refl S ja
  ·simp only[if_neg c] at p;exact ae p⟩
theorem De:kM X (adk .NotIn) xy:=⟨_,tW,λx y a b st H m Q S rx ry p=>by
 unfold xy at p
 cases e:jW st y with
 | none=>rw[e] at p;exact ae p
 | some ws=>
  rw[e] at p
  by_cases c:f6 x=true/\ws.all f6=true
  ·simp only[if_pos c] at p
   obtain⟨q,xs,e1,e2,e3⟩:=pE S ry e
   obtain⟨f1,f2⟩:=nM rx c.1 e3 c.2
   refine⟨q,xs,e1,e2,qk rx c.1,f1,?_⟩
   rw[f2]
   exact p _ m H Ext.refl S ja
  ·simp only[if_neg c] at p;exact ae p⟩
def aS:f_
 | .str z,.int i,st=>if z.length<=lim then(match lM z.cps.toList i with | some c=> .ok (.str ⟨#[c]⟩) st | none=> .bad) else .bad
 | x,.int i,st=>match jW st x with
  | some ws=>(match lM ws i with | some w=> .ok w st | none=> .bad)
  | none=> .bad
 | _,_,_=> .bad
theorem HN{m:Mp}{H:Hp}{ws:List Wv}{xs:List V}{i:Int}{w:Wv}(r:ai X.K m H ws xs)(h:lM ws i=some w):∃x,lM xs i=some x/\ah X.K m H w x:=by
 unfold lM at h ⊢
 rw[<-r.length]
 cases e:Cb ws.length i with
 | none=>rw[e] at h;cases h
 | some j=>rw[e] at h;exact r.get h
theorem HP{α:Type}{xs:List α}{i:Int}{v:α}(h:lM xs i=some v):v∈xs:=by
 obtain⟨j,_,h2,_⟩:=pz h
 exact yS h2
theorem Ba{z:PySem.Str}{c:Nat}(h:ba z=true)(hc:c∈z.cps.toList):ba ⟨#[c]⟩=true:=by
 unfold ba at h ⊢
 rw[Qr] at h
 have q:=h c (by simpa using hc)
 simpa using q
theorem Qs{a b:Expr}{ga gb:GE}{pos:Pos}(ha:JE X a ga)(hb:JE X b gb)(hs:yW b:=by exact λ_ _=>rfl):JE X (.Subscript a b pos) (ag aS ga gb) :=
 JE.of (PU LR aM aM hs) λρ st σ H m Q S R p=>y_ (op:=aS) (λx y a b st H m Q S rx ry p=>by
  have seqs:∀(i:Int),y= .int i->(match jW st x with | some ws=>(match lM ws i with | some w=>Re.ok w st | none=> .bad) | none=> .bad)=aS x y st->XC X.K a b H Q:=λi hy hp=>by
   subst hy
   rw[<-hp] at p
   cases e:jW st x with
   | none=>rw[e] at p;exact ae p
   | some ws=>
    rw[e] at p
    dsimp only at p
    cases e1:lM ws i with
    | none=>rw[e1] at p;exact ae p
    | some w=>
     rw[e1] at p
     obtain⟨q,xs,e2,e3,e4⟩:=pE S rx e
     obtain⟨v,f1,f2⟩:=HN e4 e1
     rcases e3 with e3 | e3
     ·exact .inl ⟨q,xs,i,v,e2,aI ry,e3,f1,p v m H Ext.refl S f2⟩
     ·exact .inr (.inl ⟨q,xs,i,v,e2,aI ry,e3,f1,p v m H Ext.refl S f2⟩)
  cases y with
  | int i=>
   cases x with
   | str z=>
    dsimp only[aS] at p
    by_cases c:z.length<=lim
    ·simp only[if_pos c] at p
     cases e1:lM z.cps.toList i with
     | none=>rw[e1] at p;exact ae p
     | some ch=>
      rw[e1] at p
      exact .inr (.inr ⟨z,i,ch,(eS rx).1,aI ry,eC c,e1,p _ m H Ext.refl S (mkStr (Ba (eS rx).2 (HP e1)))⟩)
    ·simp only[if_neg c] at p;exact ae p
   | _=>exact seqs i rfl rfl
  | _=>cases x<;>exact ae p) ha hb S R p
abbrev GO:=bH->Hs->Re (Option Int)
def SO(X:Cx)(e:Option Expr):TO:=λσ H Q=>∀(pins:List (ac5×Obj))(s:ada),Inv X pins σ H s->adq (model X.prog X.w) X.A (evalPart e X.env) (λu s'=>∃o H',Inv X pins σ H' s'/\IsPart u o/\Q o H') X.xe s
theorem sJ{e:Option Expr}:PO X e (SO X e):=λpins s _ _ _ I h=>h pins s I
def ZM(K:PySem.W.Frag)(m:Mp)(H:Hp)(Q:Option Int->Hp->Prop)(o:Option Int)(st:Hs):Prop:=∀(m':Mp)(H':Hp),Ext K m H m' H'->bf K m' st H'->Q o H'
def JO(X:Cx)(e:Option Expr)(g:GO):Prop:=∀(ρ:bH)(st:Hs)(σ:St)(H:Hp)(m:Mp)(Q:Option Int->Hp->Prop),bf X.K m st H->ay X.K m H ρ σ->aw X σ m H (g ρ st) (ZM X.K m H Q)->SO X e σ H Q
def jb:GO:=λ_ st=> .ok none st
def jX(g:GE):GO:=λρ st=>(g ρ st).bind λw st1=>match w with
 | .int i=> .ok (some i) st1
 | _=> .bad
theorem HQ:JO X none jb:=λρ st σ H m Q S R p pins s I=>Hh pins s σ H Q I (p m H Ext.refl S)
theorem HR{e:Expr}{g:GE}(h:JE X e g):JO X (some e) (jX g):=λρ st σ H m Q S R p pins s I=>
 Hj aM pins s σ H Q I (h.go S R (aw.bind p) λw st1 v m1 H1 p1 e1 S1 r1=>by
  cases w with
  | int i=>exact⟨i,aI r1,p1 m1 H1 e1 S1⟩
  | _=>exact ae p1)
theorem JO.go{e:Option Expr}{g:GO}{ρ:bH}{st:Hs}{σ:St}{H:Hp}{m:Mp}{T:Option Int->Hp->Prop}{ok:Option Int->Hs->Prop}(h:JO X e g)(S:bf X.K m st H)(R:ay X.K m H ρ σ)(p:aw X σ m H (g ρ st) ok)
  (k:∀(b:Option Int)(st1:Hs)(m1:Mp)(H1:Hp),ok b st1->Ext X.K m H m1 H1->bf X.K m1 st1 H1->T b H1):SO X e σ H T :=
 h ρ st σ H m T S R (p.imp Ext.refl λb st1 q m1 H1 e1 s1=>k b st1 m1 H1 q e1 s1)
def rK(xs:List Wv)(lo hi:Option Int):List Wv:=(xs.drop (HT.dI xs.length 0 lo)).take (HT.dI xs.length xs.length hi - HT.dI xs.length 0 lo)
def OT(x:Wv)(lo hi:Option Int)(st:Hs):Re Wv:=match x with
 | .tup ws=>if HT.dI ws.length 0 lo=0/\HT.dI ws.length ws.length hi=ws.length then .bad else .ok (.tup (rK ws lo hi)) st
 | .ref l=>match av st l with
  | some ws=> .ok (.ref st.length) (st++[.lst (rK ws lo hi)])
  | none=> .bad
 | _=> .bad
theorem uh{m:Mp}{H:Hp}{ws:List Wv}{xs:List V}{lo hi:Option Int}(r:ai X.K m H ws xs):ai X.K m H (rK ws lo hi) (rF xs lo hi):=by
 unfold rK rF
 rw[<-r.length]
 exact(r.drop _).take _
def xA(ga:GE)(gl gh:GO):GE:=λρ st=>(ga ρ st).bind λx st1=>(gl ρ st1).bind λlo st2=>(gh ρ st2).bind λhi st3=>OT x lo hi st3
theorem vJ{a:Expr}{lo hi:Option Expr}{ga:GE}{gl gh:GO}{pos p2:Pos}(ha:JE X a ga)(hl:JO X lo gl)(hh:JO X hi gh):JE X (.Subscript a (.Slice lo hi none p2) pos) (xA ga gl gh):=by
 refine JE.of (pX (CB.or Ho) aM sJ sJ) λρ st σ H m Q S R p=>?_
 refine ha.go S R (aw.bind p) λx st1 v m1 H1 p1 e1 S1 rx=>?_
 refine hl.go S1 (R.mono e1) ((aw.bind p1).imp e1 λ_ _ q=>q) λl st2 m2 H2 p2 e2 S2=>?_
 refine hh.go S2 (R.mono (e1.trans e2)) ((aw.bind p2).imp (e1.trans e2) λ_ _ q=>q) λh st3 m3 H3 p3 e3 S3=>?_
 have xB:=e1.trans (e2.trans e3)
 have Sw:=ah.mono (e2.trans e3) _ _ rx
 cases x with
 | tup ws=>
  have oX:cY X σ m H (if HT.dI ws.length 0 l=0/\HT.dI ws.length ws.length h=ws.length then .bad else .ok (.tup (rK ws l h)) st3) Q:=p3
  by_cases c:HT.dI ws.length 0 l=0/\HT.dI ws.length ws.length h=ws.length
  ·rw[if_pos c] at oX;exact ae oX
  ·rw[if_neg c] at oX
   unfold ah at Sw
   obtain⟨q,xs,rfl,f1,f2⟩:=Sw
   refine .inl ⟨q,xs,rfl,eJ.of f1,by rw[<-f2.length];exact c,λr hr=>?_⟩
   have e4:Ext X.K m3 H3 m3 (upd H3 r (.tup (rF xs l h))):=Ext.upd (.inl hr)
   exact oX (.ref r) m3 _ (xB.trans e4) (S3.fresh hr) (by unfold ah;exact⟨r,_,rfl,aW,ai.mono e4 _ _ (uh f2)⟩)
 | ref k=>
  have oX:cY X σ m H (match av st3 k with | some ws=> .ok (.ref st3.length) (st3++[.lst (rK ws l h)]) | none=> .bad) Q:=p3
  unfold ah at Sw
  obtain⟨q,rfl,f1⟩:=Sw
  cases e:av st3 k with
  | none=>rw[e] at oX;exact ae oX
  | some ws=>
   rw[e] at oX
   obtain⟨xs,g1,g2⟩:=S3.read f1 e
   exact .inr ⟨q,xs,rfl,g1,λr hr=>mL oX xB S3 (uh g2) r hr⟩
 | _=>exact ae p3
end
section
variable {X:Cx}
def dM(X:Cx)(f:adb)(op:List Wv->Hs->Re Wv):Prop:=∃r,eL X f r/\∀(ws:List Wv)(vs:List V)(st:Hs)(H:Hp)(m:Mp)(Q:VK),bf X.K m st H->ai X.K m H ws vs->eE X.K m H (op ws st) Q->r vs H Q
def aU(op:List Wv->Hs->Re Wv)(g:GA):GE:=λρ st=>(g ρ st).bind λws st1=>(op ws st1).ny
theorem Df{x:Str}{id:String}{p pos:Pos}{e:Expr}{es:List Expr}{g:GA}{op:List Wv->Hs->Re Wv}(hc:dM X (.builtin id) op)(hg:Gl X x)(hm:X.mg x=none)(hv:adh x=some (.builtin id))(ha:JA X (e::es) g)
  (hn:x≠"__name__":=by decide)(hdb:(x == ("__debug__":Str))=false:=by decide)(he:adp (e::es) X.env=(false,eval e X.env)::adp es X.env:=by rfl)(hpl:(backTo pos (adp es X.env)).any (·.1)=false:=by rfl) :
  JE X (.Call (.Name x p) (e::es) [] pos) (aU op g):=by
 obtain⟨r,h1,h2⟩:=hc
 refine JE.of (Cy h1 hg hm hv iT hn hdb he hpl) λρ st σ H m Q S R p=>?_
 exact ha.go S R (aw.bind p) λws st1 vs m1 H1 p1 e1 S1 rs=>h2 ws vs st1 H1 m1 Q S1 rs (eE.shift (aw.ny p1) e1)
theorem Bb{x:Str}{T:String}{p pos:Pos}{e:Expr}{es:List Expr}{g:GA}{op:List Wv->Hs->Re Wv}(hc:dM X (.type T) op)(hg:Gl X x)(hm:X.mg x=none)(hv:adh x=some (.type T))(ha:JA X (e::es) g)
  (hn:x≠"__name__":=by decide)(hdb:(x == ("__debug__":Str))=false:=by decide)(he:adp (e::es) X.env=(false,eval e X.env)::adp es X.env:=by rfl)(hpl:(backTo pos (adp es X.env)).any (·.1)=false:=by rfl) :
  JE X (.Call (.Name x p) (e::es) [] pos) (aU op g):=by
 obtain⟨r,h1,h2⟩:=hc
 refine JE.of (AZ h1 hg hm hv iT hn hdb he hpl) λρ st σ H m Q S R p=>?_
 exact ha.go S R (aw.bind p) λws st1 vs m1 H1 p1 e1 S1 rs=>h2 ws vs st1 H1 m1 Q S1 rs (eE.shift (aw.ny p1) e1)
theorem ui{m:Mp}{H:Hp}{w:Wv}{vs:List V}(r:ai X.K m H [w] vs):∃v,vs=[v]/\ah X.K m H w v:=by
 unfold ai at r
 obtain⟨v,t,rfl,h1,h2⟩:=r
 unfold ai at h2
 subst h2
 exact⟨v,rfl,h1⟩
theorem rL{m:Mp}{H:Hp}{w w':Wv}{vs:List V}(r:ai X.K m H [w,w'] vs):∃v v',vs=[v,v']/\ah X.K m H w v/\ah X.K m H w' v':=by
 unfold ai at r
 obtain⟨v,t,rfl,h1,h2⟩:=r
 obtain⟨v',rfl,h3⟩:=ui h2
 exact⟨v,v',rfl,h1,h3⟩
def jY:List Wv->Hs->Re Wv
 | [.str z],st=>if z.length<=lim then .ok (.int z.length) st else .bad
 | [x],st=>match jW st x with
  | some ws=> .ok (.int ws.length) st
  | none=> .bad
 | _,_=> .bad
theorem MB:dM X (.builtin "len") jY:=⟨_,tY.or tZ,λws vs st H m Q S r p=>by
 match ws,r,p with
 | [],r,p=>exact ae p
 | x::y::t,r,p=>cases x<;>exact ae p
 | [x],r,p=>
  obtain⟨v,rfl,rx⟩:=ui r
  have seqs:(match jW st x with | some ws=>Re.ok (Wv.int ws.length) st | none=> .bad)=jY [x] st->(∃p ys,[v]=[V.ref p]/\(jN X.K H p ys\/eJ X.K H p ys)/\Q (.int ys.length) H):=λhp=>by
   rw[<-hp] at p
   cases e:jW st x with
   | none=>rw[e] at p;exact ae p
   | some ws=>
    rw[e] at p
    obtain⟨q,xs,rfl,e2,e3⟩:=pE S rx e
    refine⟨q,xs,rfl,e2,?_⟩
    rw[<-e3.length]
    exact p _ m H Ext.refl S mkInt
  cases x with
  | str z=>
   have p':eE X.K m H (if z.length<=lim then .ok (.int z.length) st else .bad) Q:=p
   by_cases c:z.length<=lim
   ·rw[if_pos c] at p'
    obtain⟨rfl,_⟩:=eS rx
    exact .inr ⟨z,rfl,eC c,p' _ m H Ext.refl S mkInt⟩
   ·rw[if_neg c] at p';exact ae p'
  | _=>exact .inl (seqs rfl)⟩
def UA:List Wv->Hs->Re Wv
 | [.int i],st=> .ok (.int (if i < 0 then -i else i)) st
 | _,_=> .bad
def Sx(st:Hs)(T:String):Wv->Option Bool
 | .bz=>some false
 | .bl _=>some (T == "bool"||T == "int")
 | .int _=>some (T == "int")
 | .str _=>some (T == "str")
 | .tup _=>some (T == "tuple")
 | .oV _=>none
 | .ref l=>(av st l).map λ_=>T == "list"
 | .ty _=>none
 | .cls _=>none
 | .vD _=>none
 | .fn _ _=>none
def Dg(T:String):Bool:=T == "int"||T == "str"||T == "bool"||T == "tuple"||T == "list"
def Qt:List Wv->Hs->Re Wv
 | [x,.ty T],st=>if Dg T=true then(match Sx st T x with | some b=> .ok (.bl b) st | none=> .bad) else .bad
 | _,_=> .bad
def UB(K:PySem.W.Frag):List V->Hp->VK->Prop:=λvs H Q=>∃m st x T v b,vs=[v,.ty T]/\bf K m st H/\ah K m H x v/\Dg T=true/\Sx st T x=some b/\Q (.bl b) H
theorem Dh:eL X (.builtin "isinstance") (UB X.K):=by
 intro pins s σ H xs us Q I r h
 obtain⟨m,st,x,T,v,b,rfl,S,rx,hT,hb,q⟩:=h
 obtain⟨u,u',rfl,r1,r2⟩:=vals2 r
 cases r2
 have fin:∀tk,EP X pins σ Q (.bool b) { s with toks:=tk }:=λtk=>⟨.bl b,H,I.tok tk,rfl,q⟩
 have Di:EP X pins σ Q (.bool b) s:=⟨.bl b,H,I,rfl,q⟩
 unfold Dg at hT
 simp only[Dj,beq_iff_eq] at hT
 cases x with
 | bz=>
  unfold ah at rx;subst rx;cases r1
  cases hb
  rcases hT with (((rfl | rfl) | rfl) | rfl) | rfl<;>
   exact call_isinstance (isinstance_false_none (by decide) (by kernel_rfl) (by rw[adm];kernel_rfl)) (fin _)
 | bl c=>
  unfold ah at rx;subst rx;cases r1
  rcases hT with (((rfl | rfl) | rfl) | rfl) | rfl<;>cases hb<;>first
   | exact call_isinstance_yes (Tx:="bool") rfl (by kernel_rfl) (by rw[adm];kernel_rfl) Di
   | exact call_isinstance (isinstance_false_bool (by decide) (by kernel_rfl) (by rw[adm];kernel_rfl)) (fin _)
 | int c=>
  unfold ah at rx;subst rx;obtain⟨t,rfl⟩:=r1
  rcases hT with (((rfl | rfl) | rfl) | rfl) | rfl<;>cases hb<;>first
   | exact call_isinstance_yes (Tx:="int") (typeIs_int s c t) (by kernel_rfl) (by rw[adm];kernel_rfl) Di
   | exact call_isinstance (isinstance_false_int (by decide) (by kernel_rfl) (by rw[adm];kernel_rfl)) (fin _)
 | str c=>
  obtain⟨rfl,_⟩:=eS rx;obtain⟨t,rfl⟩:=r1
  rcases hT with (((rfl | rfl) | rfl) | rfl) | rfl<;>cases hb<;>first
   | exact call_isinstance_yes (Tx:="str") (typeIs_str s c t) (by kernel_rfl) (by rw[adm];kernel_rfl) Di
   | exact call_isinstance (isinstance_false_str (by decide) (by kernel_rfl) (by rw[adm];kernel_rfl)) (fin _)
 | oV ws=>cases hb
 | tup ws=>
  unfold ah at rx;obtain⟨a,xs,rfl,h1,h2⟩:=rx;cases r1
  obtain⟨its,rv,ht,hz⟩:=I.tuple (eJ.of h1)
  have hty:=ht.typeIs
  obtain⟨o,ho,hc,k,hd⟩:=ht
  rcases hT with (((rfl | rfl) | rfl) | rfl) | rfl<;>cases hb<;>first
   | exact call_isinstance_yes (Tx:="tuple") hty (by kernel_rfl) (by rw[adm];kernel_rfl) Di
   | exact call_isinstance (isinstance_false_tuple (by decide) (by kernel_rfl) (by rw[adm];kernel_rfl)) ⟨⟨o,ho,hc⟩,fin _⟩
 | ref l=>
  unfold ah at rx;obtain⟨a,rfl,h1⟩:=rx;cases r1
  have hb':(av st l).map (λ_=>T == "list")=some b:=hb
  cases e:av st l with
  | none=>rw[e] at hb';cases hb'
  | some ws=>
   rw[e] at hb'
   obtain⟨xs,hq,h2⟩:=S.read h1 e
   obtain⟨its,rv,ht,hz⟩:=I.list hq
   have hty:=ht.isList.typeIs
   obtain⟨o,ho,hc,k,hd⟩:=ht.isList
   rcases hT with (((rfl | rfl) | rfl) | rfl) | rfl<;>cases hb'<;>first
    | exact call_isinstance_yes (Tx:="list") hty (by kernel_rfl) (by rw[adm];kernel_rfl) Di
    | exact call_isinstance (isinstance_false_list (by decide) (by kernel_rfl) (by rw[adm];kernel_rfl)) ⟨⟨o,ho,hc⟩,fin _⟩
 | ty t=>cases hb
 | cls t=>cases hb
 | vD t=>cases hb
 | fn fp t=>cases hb
theorem MC:dM X (.builtin "isinstance") Qt:=⟨_,Dh,λws vs st H m Q S r p=>by
 match ws,r,p with
 | [],r,p=>exact ae p
 | [x],r,p=>cases x<;>exact ae p
 | x::y::z::t,r,p=>cases y<;>exact ae p
 | [x,y],r,p=>
  obtain⟨v,v',rfl,rx,ry⟩:=rL r
  cases y with
  | ty T=>
   unfold ah at ry
   subst ry
   have p':eE X.K m H (if Dg T=true then(match Sx st T x with | some b=> .ok (.bl b) st | none=> .bad) else .bad) Q:=p
   by_cases c:Dg T=true
   ·rw[if_pos c] at p'
    cases e:Sx st T x with
    | none=>rw[e] at p';exact ae p'
    | some b=>rw[e] at p';exact⟨m,st,x,T,v,b,rfl,S,rx,c,e,p' _ m H Ext.refl S ja⟩
   ·rw[if_neg c] at p';exact ae p'
  | _=>exact ae p⟩
def bt:GS:=λρ st=> .nx ρ st
def aD(g h:GS):GS:=λρ st=>match g ρ st with
 | .nx ρ' st'=>h ρ' st'
 | r=>r
theorem HS:nz X [] bt:=nz.of GW λρ st σ H m D S R p=>p σ m H Ext.refl S R
theorem Dk{s:Stmt}{rest:List Stmt}{g h:GS}(h1:JS X s g)(h2:nz X rest h):nz X (s::rest) (aD g h) :=
 nz.of (Cm J1 eR) λρ st σ H m D S R p=>h1 ρ st σ H m _ S R (by
  unfold aD at p
  cases e:g ρ st with
  | nx ρ' st'=>rw[e] at p;exact λσ' m' H' e' S' R'=>h2 ρ' st' σ' H' m' D S' R' (aE.shift p e')
  | rt w st'=>rw[e] at p;exact p
  | bk ρ' st'=>rw[e] at p;exact p
  | ct ρ' st'=>rw[e] at p;exact p
  | err c ρ' st'=>rw[e] at p;exact p
  | bad=>rw[e] at p;exact p)
theorem HU{s:Stmt}{g:GS}(h1:JS X s g):nz X [s] g:=nz.of (GX J1) λρ st σ H m D S R p=>h1 ρ st σ H m D S R p
def aP(g:GE):GS:=λρ st=>(g ρ st).bo ρ λw st'=> .rt w st'
theorem MD{e:Expr}{g:GE}{pos:Pos}(h:JE X e g):JS X (.Return (some e) pos) (aP g) :=
 JS.of (Lp aM) λρ st σ H m D S R p=>h.go S R (aE.cF R p) λw st1 v m1 H1 q e1 S1 r1=>q v m1 H1 e1 S1 r1
theorem HV{pos:Pos}:JS X (.Pass pos) bt:=JS.of GY λρ st σ H m D S R p=>p σ m H Ext.refl S R
def sL(g:GE):GS:=λρ st=>(g ρ st).bo ρ λ_ st'=> .nx ρ st'
theorem HW{e:Expr}{g:GE}{pos:Pos}(h:JE X e g)(hs:swapsWith e none pos.line X.env=pure false:=by rfl):JS X (.Expr e pos) (sL g) :=
 JS.of (GZ aM hs) λρ st σ H m D S R p=>h.go S R (aE.cF R p) λw st1 v m1 H1 q e1 S1 r1=>q σ m1 H1 e1 S1 (R.mono e1)
def jJ(gt:GT)(ga gb:GS):GS:=λρ st=>(gt ρ st).bo ρ λb st'=>if b=true then ga ρ st' else gb ρ st'
theorem Qu{c:Expr}{a b:List Stmt}{gt:GT}{ga gb:GS}{pos:Pos}(hc:JT X c gt)(ha:nz X a ga)(hb:nz X b gb):JS X (.If c a b pos) (jJ gt ga gb) :=
 JS.of (Pn qh eR eR) λρ st σ H m D S R p=>hc.go S R (aE.cF R p) λk st1 m1 H1 q e1 S1=>by
  cases k with
  | true=>rw[if_pos rfl] at q ⊢;exact ha ρ st1 σ H1 m1 D S1 (R.mono e1) (aE.shift q e1)
  | false=>rw[if_neg cR] at q ⊢;exact hb ρ st1 σ H1 m1 D S1 (R.mono e1) (aE.shift q e1)
def aY(i:Nat)(g:GE):GS:=λρ st=>(g ρ st).bo ρ λw st'=> .nx (ρ.set i (some w)) st'
theorem uj(i:Nat){x:Str}{e:Expr}{g:GE}{pos pos':Pos}(hN:X.N.Nodup)(h:JE X e g)(hi:X.N[i]? =some x:=by rfl)(hx:Loc X.env.scope x:=by first | exact Or.inl rfl | exact kL rfl)(hs:swapsWith e (some (.Name x pos')) pos.line X.env=pure false:=by rfl)
  (hf:X.fn x=true\/X.env.scope.names.lookup x=some .local:=by first | exact .inl rfl | exact .inr rfl | assumption):JS X (.Assign [.Name x pos'] e pos) (aY i g) :=
 JS.of (Lu hN hi hx aM hs hf) λρ st σ H m D S R p=>h.go S R (aE.cF R p) λw st1 v m1 H1 q e1 S1 r1=>q _ m1 H1 e1 S1 ((R.mono e1).set i r1)
def cK:GS:=λ_ _=> .bad
theorem bV{s:Stmt}:JS X s cK:=JS.of Cr λρ st σ H m D S R p=>p
theorem Bc{s:List Stmt}:nz X s cK:=nz.of AQ λρ st σ H m D S R p=>p
def Qv(o i v:Wv)(ρ:bH)(st:Hs):Rs:=match o,i with
 | .ref l,.int k=>match st[l]? with
  | some (.lst ws)=>(match Cb ws.length k with | some j=> .nx ρ (st.set l (.lst (ws.set j v))) | none=> .bad)
  | _=> .bad
 | _,_=> .bad
def zf(ge go gi:GE):GS:=λρ st=>(ge ρ st).bo ρ λv st1=>(go ρ st1).bo ρ λo st2=>(gi ρ st2).bo ρ λi st3=>Qv o i v ρ st3
theorem HX{o i e:Expr}{go gi ge:GE}{pos pos':Pos}(he:JE X e ge)(ho:JE X o go)(hi:JE X i gi)(hs:swapsWithSole [.Subscript o i pos'] e pos.line X.env=pure false:=by rfl)(hw:swappedStores [.Subscript o i pos'] e X.env=pure none:=by rfl)
  (h1:(assignEach [.Subscript o i pos'] X.env).map (·.2)=[assign (.Subscript o i pos') X.env]:=by rfl)
  (ha:∀v,assign (.Subscript o i pos') X.env v=(do
   let ov <-holding [v] (eval o X.env)
   let iv <-holding [v,ov] (eval i X.env)
   standAt pos'
   holding [v,ov,iv] (setItem ov iv v)
   release [v,ov,iv] []):=by intro _;rfl):JS X (.Assign [.Subscript o i pos'] e pos) (zf ge go gi):=by
 refine JS.of (Ls aM (Lr aM aM set_list ha) hs hw h1) λρ st σ H m D S R p=>?_
 refine he.go S R (aE.cF R p) λv st1 vv m1 H1 p1 e1 S1 rv=>?_
 refine ho.go S1 (R.mono e1) ((aE.cF (m:=m) (H:=H) R p1).imp e1 λ_ _ q=>q) λo' st2 ov m2 H2 p2 e2 S2 ro=>?_
 refine hi.go S2 (R.mono (e1.trans e2)) ((aE.cF (m:=m) (H:=H) R p2).imp (e1.trans e2) λ_ _ q=>q) λi' st3 iv m3 H3 p3 e3 S3 ri=>?_
 have xB:=e1.trans (e2.trans e3)
 cases o' with
 | ref l=>
  cases i' with
  | int k=>
   have oX:aE X m H (match st3[l]? with | some (.lst ws)=>(match Cb ws.length k with | some j=> .nx ρ (st3.set l (.lst (ws.set j v))) | none=> .bad) | _=> .bad) D:=p3
   have XI:=ah.mono e3 _ _ ro
   unfold ah at XI
   obtain⟨a,rfl,f1⟩:=XI
   cases e:st3[l]? with
   | none=>rw[e] at oX;exact ae oX
   | some ob=>
    cases ob with
    | dct kvs=>rw[e] at oX;exact ae oX
    | eQ kvs=>rw[e] at oX;exact ae oX
    | w5 kvs=>rw[e] at oX;exact ae oX
    | sI ns=>rw[e] at oX;exact ae oX
    | lst ws=>
     rw[e] at oX
     cases ej:Cb ws.length k with
     | none=>simp only[ej] at oX;exact ae oX
     | some j=>
      simp only[ej] at oX
      obtain⟨xs,g1,g2⟩:=S3.mI f1 e
      refine⟨a,xs,k,j,rfl,aI ri,g1,by rw[<-g2.length];exact ej,?_⟩
      have ZN:=ah.mono (e2.trans e3) _ _ rv
      have e4:Ext X.K m3 H3 m3 (upd H3 a (.lst (xs.set j vv))):=Ext.upd (.inr ⟨xs,g1⟩)
      exact oX σ m3 _ (xB.trans e4) (S3.write f1 e (g2.set j ZN)) (R.mono (xB.trans e4))
  | _=>exact ae p3
 | _=>cases i'<;>exact ae p3
open Classical in
def forL(i:Nat)(gb:GS)(l:Nat)(all:List Wv):List Wv->bH->Hs->Rs
 | [],ρ,st=> .nx ρ st
 | w::r,ρ,st=>match gb (ρ.set i (some w)) st with
  | .nx ρ' st'=>if av st' l=some all then forL i gb l all r ρ' st' else .bad
  | .ct ρ' st'=>if av st' l=some all then forL i gb l all r ρ' st' else .bad
  | .bk ρ' st'=> .nx ρ' st'
  | .rt w st'=> .rt w st'
  | .err c ρ' st'=> .err c ρ' st'
  | .bad=> .bad
end
def CXJ(P:ac9)(w:ade):Ca:=λouter H s E e s'=>∃H' C,vF P w outer H s H' (.ref C) e s'/\E (.ref C) none H'
section
variable {X:Cx} {pins:List (ac5×Obj)} {σ:St} {Hc H':Hp} {sc s':ada} {cls e:adb} {E:adb->ada->Prop} {Q:Unit->ada->Prop}
theorem old_ne(I:Inv X pins σ Hc sc){b:ac5}{o:Obj}(q:X.s₀.heap.get? b=some o):b≠X.env.locals:=λz=>by
 have h1:=aF q
 have h2:=I.ok.above
 rw[z] at h1
 exact absurd (a9 h1 h2) (dn _)
theorem HY(I:Inv X pins σ Hc sc)(hst:X.stack=X.env::X.outer)(hf:X.env.frame=some X.env.locals){b:ac5}{o:Obj}(q:X.s₀.heap.get? b=some o)(hb:b∉frs X.outer):b∉frs X.stack:=λz=>by
 rw[hst] at z
 unfold frs at z
 rw[tK,hf] at z
 rcases List.mem_cons.mp z with z | z
 ·exact old_ne I q z
 ·exact hb z
theorem Dl(hst:X.stack=X.env::X.outer)(hf:X.env.frame=some X.env.locals){b:ac5}(hb:b∈frs X.outer):b∈frs X.stack:=by
 rw[hst]
 unfold frs
 rw[tK,hf]
 exact aN _ hb
theorem Dm{M:Model}{A:ac6}{E:adb->ada->Prop}{s:ada}{base:Heap}{env:Env}{outer:List Env}{L e:ac5}{cls a0 nt:adb}{Q:Unit->ada->Prop}(hfr:A.frames=some (env::outer))(hf:env.frame=some L)
  (x:base.StaysIn s.heap/\base.get? e=none/\s.heap.FunFrames base (env::outer)/\Ss s.heap base e cls a0 nt)(k:∀h',CQ base (env::outer) e cls a0 L h'->s.heap.UpToSlots h'->Q () { s with heap:=h' }) :
  adq M A (noteFrame (.ref e) env) Q E s:=by
 obtain⟨x1,x2,x3,x4⟩:=x
 by_cases z:nt=rawInt L
 ·subst z
  exact Mc hf x4 (k s.heap ⟨x1,x2,x3,x4⟩ (Heap.UpToSlots.refl _))
 ·obtain⟨ox,us,T,ot,ws,g1,⟨g2,g3⟩,g4,g5,g6,g7,g8,g9,XJ⟩:=x4
  subst g2
  have apart:∀b,b≠T->(s.heap.update T (mH (·.setIfInBounds 3 cJ))).get? b=s.heap.get? b:=λb hb=>pY _ _ (ax hb)
  have plain:∀b o,s.heap.get? b=some o->(∀vs,o.data≠.fields vs)->b≠T:=λb o hb hd q=>by
   subst q
   rw[g8] at hb
   cases hb
   exact hd ws g9
  unfold noteFrame
  simp only[hf]
  refine ads (wpAny_field g1 g4 g5 ?_)
  rw[if_pos (show(aQ T != cJ)=true from by simp)]
  refine ads (wpAny_field g8 g9 XJ ?_)
  rw[if_neg (show ¬((nt == rawInt L)=true) from by simpa using z)]
  refine ads (wpAny_setField g8 g9 (Array.getElem?_eq_some_iff.mp XJ).1 ?_)
  refine CU (a0:=a0) hfr (x3.of_keeps λb o hb hd=>⟨o,(apart b (plain b o hb hd)).trans hb,rfl⟩) hf ((apart e (ax g7)).trans g1) (λb o hb=>(apart b λq=>by rw[q,g6] at hb;cases hb).trans (x1 b o hb)) x2 g4 (Array.getElem?_eq_some_iff.mp g5).1 g3 λh' y y4=>?_
  exact k h' y λb o hb hd=>y4 b o ((apart b (plain b o hb hd)).trans hb) hd
theorem Bd{M:Model}{A:ac6}{E:adb->ada->Prop}{s:ada}{base h:Heap}{env:Env}{outer:List Env}{L a:ac5}{cls:adb}{args:List adb}{Q:Unit->ada->Prop}(hfr:A.frames=some (env::outer))(hf:env.frame=some L)
  (st:base.StaysIn h)(fs:h.FunFrames base (env::outer))(mk:C2 h s.heap a cls args)(k:∀h' a0,CQ base (env::outer) a cls a0 L h'->s.heap.UpToSlots h'->Q () { s with heap:=h' }) :
  adq M A (noteFrame (.ref a) env) Q E s:=by
 obtain⟨t,e1,e2,e3⟩:=mk.there
 have fresh:∀b,h.get? b=none->base.get? b=none:=λb hb=>by
  cases q:base.get? b with
  | none=>rfl
  | some o'=>have z:=st b o' q;rw[hb] at z;cases z
 have fs':=fs.of_keeps (h':=s.heap) λb o hb _=>⟨o,mk.keeps b o hb,rfl⟩
 unfold noteFrame
 simp only[hf]
 refine ads (wpAny_field e1 rfl (x:=.none) rfl ?_)
 rw[if_neg (by decide)]
 exact CU hfr fs' hf e1 (λb o hb=>mk.keeps b o (st b o hb)) (fresh a mk.new) rfl (by simp) (a0:=.ref t) rfl λh' l1 l4=>k h' (.ref t) l1 l4
theorem Dp{ch:List ac5}(hx:X.ex=[])(hst:X.stack=X.env::X.outer)(hf:X.env.frame=some X.env.locals)(I:Inv X pins σ Hc sc){B h2:Heap}(hch:∀b∈ch,eK X pins Hc b)(un:Un (frs X.stack) ch Hc H' sc.heap s'.heap)(up:s'.heap.UpToSlots h2)(stay:B.StaysIn h2)
  (P9:∀b o,sc.heap.get? b=some o->b∉frs X.stack->b∉ch->∃o',B.get? b=some o'/\(Hc b=none->o'=o)) :
  Un (frs X.outer) [] X.H₀ H' X.s₀.heap h2/\(∀b o,X.s₀.heap.get? b=some o->b∉frs X.outer->∃o',B.get? b=some o'/\(X.H₀ b=none->o'=o)):=by
 have nx:∀b:ac5,b∉X.ex:=λb=>by rw[hx];simp
 have nc:∀b o,X.s₀.heap.get? b=some o->b∉ch:=λb o q z=>by
  rcases(hch b z).2.2.2.1 with y | y
  ·exact nx b y
  ·exact absurd (a9 (aF q) y) (dn _)
 have ME:∀b o,X.s₀.heap.get? b=some o->b∉frs X.outer->∃o',B.get? b=some o'/\(X.H₀ b=none->o'=o):=λb o q hb=>by
  obtain⟨o1,q1⟩:=I.base.there b o q (nx b)
  obtain⟨o2,q2,q3⟩:=P9 b o1 q1 (HY I hst hf q hb) (nc b o q)
  refine⟨o2,q2,λn=>?_⟩
  have q4:=I.base.keep b o q n hb (nx b)
  rw[q4] at q1
  cases q1
  exact q3 (I.base.free b o q n (nx b))
 have sl:∀b o,X.s₀.heap.get? b=some o->X.H₀ b=none->b∈frs X.outer->∃sl,h2.get? b=some { o with slots:=sl }:=λb o q n hb=>by
  obtain⟨s1,q1⟩:=I.base.slot b o q n hb (nx b)
  obtain⟨s2,q2⟩:=un.slot b _ q1 (I.base.free b o q n (nx b)) (Dl hst hf hb) (nc b o q)
  obtain⟨_,o3,q3,q4⟩:=I.ok.nC.mem hb
  rw[q] at q3
  cases q3
  obtain⟨s3,q5⟩:=up b _ q2 q4
  exact⟨s3,q5⟩
 refine⟨⟨λb o q n hb _=>?_,λb o q n hb _=>sl b o q n hb,λb o q n _=>?_,λb o q _=>?_,λb xs h=>un.tups b xs (I.base.tups b xs h),λb o u h=>un.oT b o u (I.base.oT b o u h),λb ps h=>?_⟩,ME⟩
 ·obtain⟨o2,q2,q3⟩:=ME b o q hb
  rw[q3 n] at q2
  exact stay b o q2
 ·obtain⟨o1,q1⟩:=I.base.there b o q (nx b)
  exact un.free b o1 q1 (I.base.free b o q n (nx b)) (nc b o q)
 ·by_cases hb:b∈frs X.outer
  ·obtain⟨s3,q3⟩:=sl b o q (I.ok.K' b hb) hb
   exact⟨_,q3⟩
  ·obtain⟨o2,q2,_⟩:=ME b o q hb
   exact⟨o2,stay b o2 q2⟩
 ·obtain⟨m1,t1⟩:=I.base.pR b ps h
  obtain⟨m2,t2⟩:=un.pR b _ t1
  exact⟨m1++m2,by rw[<-Array.append_assoc];exact t2⟩
theorem oH(hx:X.ex=[])(hst:X.stack=X.env::X.outer)(hf:X.env.frame=some X.env.locals)(I:Inv X pins σ Hc sc)(F:nL X pins Hc sc H' cls e s')
  (k:∀s2,vF X.prog X.w X.outer X.H₀ X.s₀ H' cls e s2->Q () s2):adq (model X.prog X.w) X.A (leaving X.env e) Q E s':=by
 obtain⟨a,a0,nt,B,ch,rfl,os,bare,hch,un,hok,fl,P9⟩:=F
 have hfr:X.A.frames=some (X.env::X.outer):=by rw[I.ok.frames,hst]
 rw[hst] at fl
 unfold leaving
 refine ads (Dm hfr hf fl λh1 hd1 up1=>?_)
 refine JY hd1 λh2 zg UC=>k _ ?_
 obtain⟨k1,k2,⟨_,_,k3⟩,k4⟩:=zg
 obtain⟨u2,c2⟩:=Dp hx hst hf I hch un (up1.trans UC) k1 P9
 exact⟨a,a0,B,rfl,os.trans I.os,bare,u2,hok,⟨k1,k2,k3,k4⟩,c2⟩
theorem Dq{P:ac9}{w:ade}{H:Hp}{h:Heap}{l:List ac5}(ok:jQ P w H h)(fr:∀b∈l,H b=none):jQ P w H (PySem.W.hideAll h l):=λa o q=>
 (ok a o q).stay (λb u hb r=>PySem.W.hideAll_get _ r λz=>by
  have n:=fr b z
  rcases hb with hb | hb
  ·rw[hb,q] at n;cases n
  ·rw[hb] at n;cases n) (λ_ r=>r) λ_ _ r=>r
theorem ql{a C:ac5}{args:List adb}(hx:X.ex=[])(hst:X.stack=X.env::X.outer)(hf:X.env.frame=some X.env.locals)(I:Inv X pins σ Hc sc)(ho:s'.os=sc.os)(ZO:s'.gens=sc.gens)
  (M:C2 sc.heap s'.heap a (.ref C) args)(k:∀s2,vF X.prog X.w X.outer X.H₀ X.s₀ Hc (.ref C) (.ref a) s2->Q () s2):adq (model X.prog X.w) X.A (leaving X.env (.ref a)) Q E s':=by
 have hfr:X.A.frames=some (X.env::X.outer):=by rw[I.ok.frames,hst]
 have fs:sc.heap.FunFrames (PySem.W.hideAll sc.heap (frs X.stack)) (X.env::X.outer):=by
  rw[<-hst]
  exact PySem.W.funFrames_hide I.stack λenv he b hb=>List.mem_filterMap.mpr ⟨env,he,hb⟩
 unfold leaving
 refine ads (Bd (base:=PySem.W.hideAll sc.heap (frs X.stack)) hfr hf (λb o q=>PySem.W.of_hideAll _ q) fs M λh1 t hd1 up1=>?_)
 refine JY hd1 λh2 zg UC=>k _ ?_
 have up:=up1.trans UC
 replace zg:CT (PySem.W.hideAll sc.heap (frs X.stack)) X.outer a (.ref C) t h2:=let ⟨k1,k2,⟨_,_,k3⟩,k4⟩:=zg;⟨k1,k2,k3,k4⟩
 obtain⟨u2,c2⟩:=Dp (H':=Hc) (s':=s') (ch:=[]) hx hst hf I (λb z=>by cases z) (Un.kept M.keeps) up zg.1 λb o q hb _=>⟨o,PySem.W.hideAll_get _ q hb,λ_=>rfl⟩
 exact⟨a,t,_,rfl,ho.trans I.os,by rw[show({ s' with heap:=h2 }:ada).gens=sc.gens from ZO];exact I.bare,u2,Dq I.hok I.pk,zg,c2⟩
end
def Dr(K:PySem.W.Frag)(m:Mp)(H:Hp)(r:Re Wv)(Q:VK)(E:XK):Prop:=match r with
 | .ok w st=>OR K m H Q w st
 | .err c st=>∀(m':Mp)(H':Hp)(C:ac5),Ext K m H m' H'->bf K m' st H'->ClsAt K c C->E (.ref C) none H'
 | .bad=>False
def spW(K:PySem.W.Frag)(n:Nat)(F:List Wv->Hs->Re Wv):Sp:=λvs H Q E=>∃m st ws,bf K m st H/\ai K m H ws vs/\ws.length=n/\Dr K m H (F ws st) Q E
def au(n:Nat)(F:List Wv->Hs->Re Wv)(g:GA):GE:=λρ st=>(g ρ st).bind λws st1=>if ws.length=n then F ws st1 else .bad
section
variable {X:Cx}
theorem HZ{k n:Nat}{f:ac5}{fd:ac7}{ps:List Str}{F:List Wv->Hs->Re Wv}{x:Str}{p pos:Pos}{e:Expr}{es:List Expr}{g:GA}
  (G:FnOk X.prog X.w X.K X.mg X.base (CXJ X.prog X.w) k f fd ps (spW X.K n F))(hr:iw k X.A)(hm:X.mg x=some (.ref f))(hk:PySem.W.keepIn X.K (.ref f)=true)(hb:Binds X.K fd ps [])(ha:JA X (e::es) g)(hg:Gl X x:=by rfl)
  (hdb:(x == ("__debug__":Str))=false:=by decide)(he:adp (e::es) X.env=(false,eval e X.env)::adp es X.env:=by rfl)(hpl:(backTo pos (adp es X.env)).any (·.1)=false:=by rfl) :
  JE X (.Call (.Name x p) (e::es) [] pos) (au n F g):=by
 intro ρ st σ H m Q S R p pins s I
 have args:=ha.go (T:=λvs H1=>∃ws st1 m1,cY X σ m H (if ws.length=n then F ws st1 else .bad) Q/\Ext X.K m H m1 H1/\bf X.K m1 st1 H1/\ai X.K m1 H1 ws vs) S R (aw.bind p)
  λws st1 vs m1 H1 p1 e1 S1 rs=>⟨ws,st1,m1,p1,e1,S1,rs⟩
 refine wpAny_Call_Name_kw (pv I hg hm ?_ hdb)
 refine PySem.W.callWith_K (h₀:=X.base) I.ok.mod.K9 hk (bo (args pos pins s I) λus s1 ⟨vs,H1,I1,r,ws,st1,m1,p1,e1,S1,rs⟩=>⟨I1.w_,?_⟩) he hpl
 by_cases c:ws.length=n
 ·rw[if_pos c] at p1
  let E:XK:=λcl _ H2=>∃c' st2 m2 C,cl= .ref C/\ClsAt X.K c' C/\F ws st1= .err c' st2/\Ext X.K m1 H1 m2 H2/\bf X.K m2 st2 H2
  have sp:spW X.K n F vs H1 Q E:=by
   refine⟨m1,st1,ws,S1,rs,c,?_⟩
   cases er:F ws st1 with
   | ok w st2=>rw[er] at p1;exact cY.shift (r:=.ok w st2) p1 e1
   | err c' st2=>exact λm2 H2 C e2 S2 hC=>⟨c',st2,m2,C,rfl,hC,er,e2,S2⟩
   | bad=>rw[er] at p1;exact ae p1
  have hl:us.length=ps.length:=by rw[<-r.length];exact G.len _ _ _ _ sp
  have bd:=hb s1 us I1.w_ (by rw[gJ];exact hl)
  rw[gJ] at bd
  refine wpAny_call (codeAny_mono (G.run X.A X.stack s1 H1 ⟨us,[]⟩ us vs Q E hr I1.PL bd r sp) λrr s2 hq=>?_)
  cases rr with
  | error x=>
   obtain⟨H2,C,fl,c',st2,m2,C',ec,hC,er,e2,S2⟩:=hq
   cases ec
   rw[er] at p1
   exact p1 m2 H2 x s2 (e1.trans e2) S2 ⟨C,pins,H1,s1,hC,I1,.inl fl.any⟩
  | ok fw=>
   cases fw with
   | ret u=>exact I1.after hq
   | next=>exact ae hq
   | brk=>exact ae hq
   | cont=>exact ae hq
 ·rw[if_neg c] at p1;exact ae p1
end
def bY(n:Nat)(g:GS):List Wv->Hs->Re Wv:=λws st=>match g (ws.map some++aJ (n - ws.length) none) st with
 | .nx _ st'=> .ok .bz st'
 | .rt w st'=> .ok w st'
 | .err c _ st'=> .err c st'
 | _=> .bad
theorem Ds{K:PySem.W.Frag}{m:Mp}{H:Hp}{N:List Str}{ws:List Wv}{vs:List V}(r:ai K m H ws vs)(h:ws.length<=N.length):ay K m H (ws.map some++aJ (N.length - ws.length) none) (L2.start N vs):=by
 have hl:=r.length
 refine⟨by unfold L2.start;simp[hl],λi w e=>?_⟩
 by_cases hi:i < ws.length
 ·rw[eO (by simpa using hi),i8] at e
  cases q:ws[i]? with
  | none=>rw[q] at e;cases e
  | some w'=>
   rw[q] at e
   cases e
   obtain⟨x,h1,h2⟩:=r.get q
   refine⟨x,?_,h2⟩
   unfold L2.start
   rw[eO (by simp;omega),i8,h1]
   rfl
 ·rw[fV (by simpa using hi),tS] at e
  split at e<;>cases e
section
variable {P:ac9} {w:ade} {K:PySem.W.Frag} {mg:Str->Option adb} {base:Heap}
theorem xC{N:List Str}{qual:Str}{scope:Scope}{f:ac5}{cdv:adb}{A:ac6}{outer:List Env}{s s':ada}{H H':Hp}{E:XK}{σ:St}{c:PySem.Str}{e:adb}
  (r:ub (rE (CXJ P w) P w K mg base N qual scope f cdv A outer s H E) σ H' c e s')(h:∀C,ClsAt K c C->E (.ref C) none H'):(rE (CXJ P w) P w K mg base N qual scope f cdv A outer s H E).xe e s':=by
 obtain⟨C,pins,Hc,sc,hC,I,r⟩:=r
 rcases r with fl | ⟨rfl,a,args,rfl,ho,hg,M⟩
 ·exact oH (X:=rE (CXJ P w) P w K mg base N qual scope f cdv A outer s H E) rfl rfl rfl I fl λs2 zg=>⟨H',C,zg,h C hC⟩
 ·exact ql (X:=rE (CXJ P w) P w K mg base N qual scope f cdv A outer s H E) rfl rfl rfl I ho hg M λs2 zg=>⟨H',C,zg,h C hC⟩
def Dt(K:PySem.W.Frag)(f:ac5)(cdv:adb):Prop:=∃o,K.lookup f=some o/\∃fd,o.data= .func fd/\fd.code=cdv
theorem J_{x qual:Str}{st:Stmt}{f:ac5}{fd:ac7}{N ps:List Str}{k:Nat}{g:GS}(F:LZ K x qual st f fd)(S:FnScope N ps (defScope st))
  (body:∀(cdv:adb),Dt K f cdv->∀(A:ac6)(outer:List Env)(s:ada)(H:Hp)(E:XK),iw k (A.deeper (envOfC qual (defScope st) s.heap.objs.size f cdv))->nz (rE (CXJ P w) P w K mg base N qual (defScope st) f cdv A outer s H E) (defBody st) g) :
  FnOk P w K mg base (CXJ P w) (k+1) f fd ps (spW K ps.length (bY N.length g)):=by
 have hpl:ps.length<=N.length:=by have:=congrArg nE S.pre;rw[mw] at this;omega
 obtain⟨oc,od,kV,doc,pm,an,cdv,ct,osl,rfl,lk,hcd⟩:=F.ex
 refine PN lk hcd S (λvs H Q E h=>?_) λA outer s H vs Q E hr h=>?_
 ·obtain⟨m,st',ws,_,r,hl,_⟩:=h
  rw[<-r.length];exact hl
 ·obtain⟨m,st',ws,S',r,hl,p⟩:=h
  refine⟨_,eR,?_⟩
  refine body cdv ⟨_,lk,_,rfl,rfl⟩ A outer s H E hr _ st' _ H m _ S' (Ds r (by omega)) ?_
  unfold bY at p
  cases e:g (ws.map some++aJ (N.length - ws.length) none) st' with
  | nx ρ st2=>rw[e] at p;exact λσ m' H' e' S2 R2=>p _ m' H' e' S2 (by unfold ah;rfl)
  | rt w' st2=>rw[e] at p;exact p
  | bk ρ st2=>rw[e] at p;exact ae p
  | ct ρ st2=>rw[e] at p;exact ae p
  | err c ρ st2=>rw[e] at p;exact λσ m' H' x s' e' S2 R2 rz=>xC rz λC hC=>p m' H' C e' S2 hC
  | bad=>rw[e] at p;exact ae p
end
def zh(H:Hp):Prop:=∀b,H b=none\/(∃o xs,H b=some (.oS o (.lst xs)))\/H b=some (.lr #[])
theorem law_sp{K:PySem.W.Frag}{F:List Wv->Hs->Re Wv}(h:∀ns:List Int,ns.length<=63->∃st,F [.ref 0] [.sI ns]= .ok (.bl true) st)(H:Hp)(a:ac5)(ns:List Int)(hl:ns.length<=63)(hO:zh H)(hS:jN K H a (ns.map V.int))(hT:lO K H) :
  spW K 1 F [.ref a] H (λv _=>v= .bl true) λ_ _ _=>False:=by
 obtain⟨st,e⟩:=h ns hl
 refine⟨[a],[.sI ns],[.ref 0],⟨rfl,λl b o h1 h2=>?_,λl l' b ws ws' _ _ h2 _ k _=>?_,hT⟩,ai.cons (by unfold ah;exact⟨a,rfl,rfl⟩) ai.nil,rfl,?_⟩
 ·cases l with
  | zero=>
   simp at h1 h2
   subst h1 h2
   show vE K H a ns
   rcases hS with (q | ⟨o',q⟩) | q
   ·rcases hO a with z | ⟨o',xs,z⟩ | z
    ·rw[z] at q;cases q
    ·rw[z] at q;cases q
    ·rw[z] at q;cases q
   ·exact .inl ⟨o',q⟩
   ·exact .inr q
  | succ l=>simp at h1
 ·cases l with
  | zero=>simp at h2;subst h2;simp[Ob.mu] at k
  | succ l=>simp at h2
 ·rw[e]
  intro v m' H' _ _ r
  unfold ah at r
  exact r
def MF(w:Wv)(st:Hs):Re Bool:=match w with
 | .bz=> .ok false st
 | .bl b=> .ok b st
 | .int i=> .ok (i != 0) st
 | .str y=>if y.length<=lim then .ok ((y.length:Int) != 0) st else .bad
 | .tup ws=> .ok (!ws.isEmpty) st
 | .oV _=> .bad
 | .ref l=>match av st l with
  | some ws=> .ok (!ws.isEmpty) st
  | none=> .bad
 | .ty _=> .bad
 | .cls _=> .bad
 | .vD _=> .bad
 | .fn _ _=> .bad
def jO(g:GE):GT:=λρ st=>(g ρ st).bind MF
section
variable {X:Cx}
theorem XM{m:Mp}{H:Hp}{ws:List Wv}{xs:List V}(r:ai X.K m H ws xs):(!ws.isEmpty)= !xs.isEmpty:=by
 have h:=r.length
 cases ws<;>cases xs<;>simp_all
theorem qm{e:Expr}{g:GE}(h:JE X e g)(he:∀whole,isTrue e X.env whole=(do let v <-whole;standAt e.pos;holding [v] (truthy v))):JT X e (jO g) :=
 JT.of (Cw aM he) λρ st σ H m Q S R p=>h.go S R (aw.bind p) λw st1 v m1 H1 p1 e1 S1 r1=>by
  cases w with
  | bz=>unfold ah at r1;subst r1;exact⟨false,rfl,p1 m1 H1 e1 S1⟩
  | bl b=>unfold ah at r1;subst r1;exact⟨b,rfl,p1 m1 H1 e1 S1⟩
  | int i=>unfold ah at r1;subst r1;exact⟨_,rfl,p1 m1 H1 e1 S1⟩
  | str y=>
   obtain⟨rfl,_⟩:=eS r1
   have p2:iS X σ m H (if y.length<=lim then .ok ((y.length:Int) != 0) st1 else .bad) Q:=p1
   by_cases c:y.length<=lim
   ·rw[if_pos c] at p2;exact⟨_,⟨eC c,rfl⟩,p2 m1 H1 e1 S1⟩
   ·rw[if_neg c] at p2;exact ae p2
  | oV ws=>exact ae p1
  | tup ws=>
   unfold ah at r1
   obtain⟨a,xs,rfl,h1,h2⟩:=r1
   refine⟨!xs.isEmpty,.inr (.inl ⟨xs,eJ.of h1,rfl⟩),?_⟩
   rw[<-XM h2]
   exact p1 m1 H1 e1 S1
  | ref l=>
   unfold ah at r1
   obtain⟨a,rfl,h1⟩:=r1
   have p2:iS X σ m H (match av st1 l with | some ws=> .ok (!ws.isEmpty) st1 | none=> .bad) Q:=p1
   cases el:av st1 l with
   | none=>rw[el] at p2;exact ae p2
   | some ws=>
    rw[el] at p2
    obtain⟨xs,hq,h2⟩:=S1.read h1 el
    refine⟨!xs.isEmpty,.inl ⟨xs,hq,rfl⟩,?_⟩
    rw[<-XM h2]
    exact p2 m1 H1 e1 S1
  | ty T=>exact ae p1
  | cls T=>exact ae p1
  | vD T=>exact ae p1
  | fn fp T=>exact ae p1
theorem vK{p:Nat->Bool}{x:Array Nat}(hx:x.all p=true):∀(n:Nat)(a:Array Nat),a.all p=true->((aJ n x).foldl (· ++·) a).all p=true
 | 0,a,h=>h
 | n+1,a,h=>by
  rw[gW,CD]
  refine vK hx n _ ?_
  rw[Array.all_append,h,hx]
  rfl
theorem Be{x:PySem.Str}{n:Nat}(h:ba x=true):ba (vI n x)=true:=by
 unfold ba at h ⊢
 unfold vI
 exact vK h n #[] (by simp)
theorem sM{x:Array Nat}:∀(n:Nat)(a:Array Nat),((aJ n x).foldl (· ++·) a).size=a.size+x.size * n
 | 0,a=>by simp
 | n+1,a=>by
  rw[gW,CD,sM n,Array.size_append,Nat.mul_succ]
  omega
theorem Du{x:PySem.Str}{n:Nat}:(vI n x).length=x.length * n:=by
 show((aJ n x.cps).foldl (· ++·) #[]).size=x.cps.size * n
 rw[sM]
 simp
def sN(x:PySem.Str)(n:Int):Prop:=1 < n/\n<=100000/\x.length≠0/\x.length * n.toNat<=lim
instance {x n}:Decidable (sN x n):=by unfold sN;infer_instance
theorem H_:fB X (adg .Mult) (λx y H Q=>∃z n,x= .str z/\y= .int n/\sN z n/\Q (.str (vI n.toNat z)) H):=by
 intro pins s σ H x y v u Q I rx ry h
 obtain⟨z,n,rfl,rfl,⟨h1,h2,h3,h4⟩,q⟩:=h
 obtain⟨t,rfl⟩:=rx
 obtain⟨t',rfl⟩:=ry
 have n1:¬n < 1:=by omega
 have hlen:z.length<=lim:=by
  refine bp ?_ h4
  exact Nat.le_mul_of_pos_right _ (by omega)
 have hne:(n == 1||z.length == 0)=false:=by
  have e1:(n == 1)=false:=by rw[beq_eq_false_iff_ne];omega
  have e2:(z.length == 0)=false:=by rw[beq_eq_false_iff_ne];exact h3
  rw[e1,e2];rfl
 have hl:PySem.Builtin.Str.tooLong (z.length * n.toNat)=false:=by
  unfold PySem.Builtin.Str.tooLong
  have q:=eC h4
  first
   | exact decide_eq_false (by omega)
   | simp only[decide_eq_false_iff_not];omega
 refine PySem.P.mul_str (by
   have e1:¬n < -(2 ^ 63:Int):=by omega
   have e2:¬n >= 2 ^ 63:=by omega
   rw[decide_eq_false e1,decide_eq_false e2];rfl) (λ_ _=>?_) (λ_ _=>hl) ?_
 ·have e:((2:Int) ^ 63 - 1) / 100000<=(2 ^ 63 - 1) / n:=by
   refine Int.le_ediv_of_mul_le (by omega) ?_
   have:((2:Int) ^ 63 - 1) / 100000 * n<=((2:Int) ^ 63 - 1) / 100000 * 100000:=Int.mul_le_mul_of_nonneg_left h2 (by decide)
   exact qo this (by decide)
  have e':(1000000:Int)<=(2 ^ 63 - 1) / 100000:=by decide
  unfold lim at hlen
  omega
 ·rw[if_neg n1,if_neg (by rw[hne];exact cR)]
  exact⟨by show(vI n.toNat z).length<=_;rw[Du];exact eC h4,.str (vI n.toNat z),H,I.tok _,⟨_,rfl⟩,q⟩
def Ka:f_
 | .int i,.int j,st=>if IntMulOk i j then .ok (.int (i * j)) st else .bad
 | .str z,.int n,st=>if sN z n then .ok (.str (vI n.toNat z)) st else .bad
 | _,_,_=> .bad
theorem Ia:kM X (adg .Mult) Ka:=⟨_,fB.or HH H_,λx y a b st H m Q S rx ry p=>by
 cases x with
 | int i=>
  cases y with
  | int j=>
   cases aI rx;cases aI ry
   have p':eE X.K m H (if IntMulOk i j then .ok (.int (i * j)) st else .bad) Q:=p
   by_cases c:IntMulOk i j
   ·rw[if_pos c] at p';exact .inl ⟨i,j,rfl,rfl,c,p' _ m H Ext.refl S mkInt⟩
   ·rw[if_neg c] at p';exact ae p'
  | _=>exact ae p
 | str z=>
  cases y with
  | int n=>
   obtain⟨rfl,hz⟩:=eS rx
   cases aI ry
   have p':eE X.K m H (if sN z n then .ok (.str (vI n.toNat z)) st else .bad) Q:=p
   by_cases c:sN z n
   ·rw[if_pos c] at p';exact .inr ⟨z,n,rfl,rfl,c,p' _ m H Ext.refl S (mkStr (Be hz))⟩
   ·rw[if_neg c] at p';exact ae p'
  | _=>exact ae p
 | _=>exact ae p⟩
def bC:GE:=λ_ _=> .bad
def jZ:GT:=λ_ _=> .bad
theorem aA{e:Expr}:JE X e bC:=λρ st σ H m Q S R p=>ae p
theorem j4{e:Expr}:JT X e jZ:=λρ st σ H m Q S R p=>ae p
end
def rM(P:ac9)(w:ade)(K:PySem.W.Frag)(mg:Str->Option adb)(base:Heap)(k:Nat)(x:Str)(n:Nat)(F:List Wv->Hs->Re Wv):Prop :=
 ∃f fd ps,FnOk P w K mg base (CXJ P w) k f fd ps (spW K n F)/\mg x=some (.ref f)/\PySem.W.keepIn K (.ref f)=true/\Binds K fd ps []
theorem rM.mono{P:ac9}{w:ade}{K:PySem.W.Frag}{mg:Str->Option adb}{base:Heap}{j k:Nat}{x:Str}{n:Nat}{F:List Wv->Hs->Re Wv}(h:rM P w K mg base j x n F)(l:j<=k):rM P w K mg base k x n F:=by
 obtain⟨f,fd,ps,G,r⟩:=h
 exact⟨f,fd,ps,G.mono l,r⟩
def bj(K:PySem.W.Frag)(x:Str)(st:Stmt):Prop:=∃f fd,PySem.W.nsIn K adn x=some (some (.ref f))/\LZ K x x st f fd
theorem lP{K:PySem.W.Frag}{x:Str}{st:Stmt}{f:ac5}{oc:adb}{od an:Option ac5}{osl:Array (Option adb)}{kV doc pm cdv ct:adb}(a:PySem.W.nsIn K adn x=some (some (.ref f)))
  (l:K.lookup f=some ⟨oc,od,.func (PySem.W.fnOf x x (defArgs st) (defBody st) (defScope st) .none kV doc pm an cdv ct),osl⟩)(c:PySem.W.codeIn K cdv x=true)(k:PySem.W.keepIn K (.ref f)=true):bj K x st:=⟨f,_,a,L0 l c k⟩
theorem Dv:adh "isinstance"=some (.builtin "isinstance"):=by decide+kernel
theorem Bf:adh "len"=some (.builtin "len"):=by decide+kernel
theorem Dx:adh "int"=some (.type "int"):=by decide+kernel
theorem Dy:adh "str"=some (.type "str"):=by decide+kernel
theorem Dz:adh "bool"=some (.type "bool"):=by decide+kernel
theorem vL:adh "tuple"=some (.type "tuple"):=by decide+kernel
theorem DA:adh "list"=some (.type "list"):=by decide+kernel
def cZ(i:Nat)(gb:GS):List Wv->bH->Hs->Rs
 | [],ρ,st=> .nx ρ st
 | w::r,ρ,st=>match gb (ρ.set i (some w)) st with
  | .nx ρ' st'=>cZ i gb r ρ' st'
  | .ct ρ' st'=>cZ i gb r ρ' st'
  | .bk ρ' st'=> .nx ρ' st'
  | .rt w st'=> .rt w st'
  | .err c ρ' st'=> .err c ρ' st'
  | .bad=> .bad
section
variable {X:Cx}
theorem mM(i:Nat){body:List Stmt}{gb:GS}(hb:nz X body gb){J':It}{ws:List Wv}{m1:Mp}{H1:Hp}{st1:Hs}{ρ:bH}{σ:St}{D:Ends}(S1:bf X.K m1 st1 H1)(R:ay X.K m1 H1 ρ σ)(p1:aE X m1 H1 (cZ i gb ws ρ st1) D)
  (hgo:∀(k:Nat)(H:Hp)(m':Mp),Ext X.K m1 H1 m' H->k < ws.length->J'.go k H)(hstop:∀(k:Nat)(H:Hp)(m':Mp),Ext X.K m1 H1 m' H->k=ws.length->J'.stop k H)
  (hy:∀(k:Nat)(hk:k < ws.length)(H:Hp)(x:V)(H':Hp)(m':Mp),Ext X.K m1 H1 m' H->J'.vh k H x H'->H'=H/\ah X.K m' H ws[k] x) :
  ∃W:Nat->Nat->St->Hp->Prop,(∃m,W 0 m σ H1)/\∀k n σ H,W k n σ H->
   (J'.stop k H/\D.nx σ H)\/(J'.go k H/\∃N:St->Hp->Prop,(∀σ' H',N σ' H'->∃m',m' < n/\W (k+1) m' σ' H')/\∀x H',J'.vh k H x H'->vq i x σ H' λσ2 H2=>Sv X body { D with nx:=N,ct:=N,bk:=D.nx } σ2 H2):=by
 let Pv:Nat->St->Hp->Prop:=λk σ H=>∃ρ st m',Ext X.K m1 H1 m' H/\bf X.K m' st H/\ay X.K m' H ρ σ/\aE X m' H (cZ i gb (ws.drop k) ρ st) D
 refine⟨λk n σ H=>n=ws.length - k/\k<=ws.length/\Pv k σ H,⟨ws.length,by simp,bq _,ρ,st1,m1,Ext.refl,S1,R,p1⟩,?_⟩
 rintro k n σ2 H2 ⟨rfl,hk,ρ2,st2,m2,e2,S2,R2,p2⟩
 by_cases hlt:k < ws.length
 ·refine .inr ⟨hgo k H2 m2 e2 hlt,Pv (k+1),λσ' H' p'=>⟨ws.length - (k+1),by omega,rfl,hlt,p'⟩,λx H' y=>?_⟩
  obtain⟨ee,oY⟩:=hy k hlt H2 x H' m2 e2 y
  subst ee
  have ed:ws.drop k=ws[k]::ws.drop (k+1):=lQ hlt
  rw[ed] at p2
  refine hb _ st2 _ _ m2 _ S2 (R2.set i oY) ?_
  unfold cZ at p2
  cases eg:gb (ρ2.set i (some ws[k])) st2 with
  | nx ρ3 st3=>rw[eg] at p2;exact λσ3 m3 H3 e3 S3 R3=>⟨ρ3,st3,m3,e2.trans e3,S3,R3,aE.shift p2 e3⟩
  | ct ρ3 st3=>rw[eg] at p2;exact λσ3 m3 H3 e3 S3 R3=>⟨ρ3,st3,m3,e2.trans e3,S3,R3,aE.shift p2 e3⟩
  | bk ρ3 st3=>rw[eg] at p2;exact p2
  | rt w3 st3=>rw[eg] at p2;exact p2
  | err c3 ρ3 st3=>rw[eg] at p2;exact p2
  | bad=>rw[eg] at p2;exact p2
 ·have e:k=ws.length:=by omega
  subst e
  rw[nN] at p2
  exact .inl ⟨hstop _ H2 m2 e2 rfl,p2 σ2 m2 H2 Ext.refl S2 R2⟩
def UD(K:PySem.W.Frag)(tl:TE):TI:=λσ H R=>tl σ H λx H1=>∃a,x= .ref a/\(((∃xs,jN K H1 a xs)/\R (Ue K a) H1)\/((∃xs,eJ K H1 a xs)/\R (Xy K a) H1))
theorem DB{tg l:Expr}{tl:TE}(hl:PE X l tl):PI X tg l (UD X.K tl):=by
 intro pins s σ H R I h
 refine bo (hl pins s σ H _ I h) λv s1 ⟨x,H1,I1,r1,q1⟩=>?_
 obtain⟨a,e,q1⟩:=q1
 subst e
 cases r1
 have frs:∀b∈[s1.heap.objs.size],eK X pins H1 b:=λb hb=>by
  have e:b=s1.heap.objs.size:=by simpa using hb
  subst e
  exact I1.tN (aq _) (I1.hok.fresh (aq _))
 rcases q1 with ⟨⟨xs,hq⟩,q⟩ | ⟨⟨xs,hq⟩,q⟩
 ·obtain⟨its,rv,p,hz⟩:=I1.list hq
  refine wpAny_pyIter_list p.isList ?_
  exact⟨s1.heap.objs.size,[s1.heap.objs.size],_,_,H1,rfl,I1.kept (t':=s1.toks) λb o e=>aK _ e,su a _,⟨_,bB _ rfl,rfl,rfl⟩,frs,q⟩
 ·obtain⟨its,rv,p,hz⟩:=I1.tuple hq
  refine wpAny_pyIter_tuple (show s1.heap.IsTuple a its.toArray from p) ?_
  exact⟨s1.heap.objs.size,[s1.heap.objs.size],_,_,H1,rfl,I1.kept (t':=s1.toks) λb o e=>aK _ e,xa a _,⟨_,bB _ rfl,rfl,rfl⟩,frs,q⟩
def DC(i:Nat)(gi:GE)(gb:GS):GS:=λρ st=>(gi ρ st).bo ρ λw st1=>match w with
 | .ref l=>(match av st1 l with | some ws=>forL i gb l ws ws ρ st1 | none=> .bad)
 | .tup ws=>cZ i gb ws ρ st1
 | .oV ws=>cZ i gb ws ρ st1
 | _=> .bad
theorem uk(i:Nat){x:Str}{iter:Expr}{body:List Stmt}{gi:GE}{gb:GS}{pos pos':Pos}(hN:X.N.Nodup)(hp:PassesOwn (model X.prog X.w) X.A X.env X.xe)(hc:X.calm=true)(hi:JE X iter gi)(hb:nz X body gb)
  (hx:X.N[i]? =some x)(hlo:Loc X.env.scope x)(MG:X.fn x=true\/X.env.scope.names.lookup x=some .local)
  (hs:∀x,adl iter X.env x=pure x):JS X (.For (.Name x pos') iter body [] pos) (DC i gi gb):=by
 refine JS.of (lJ hp hc (DB aM) (mr hN hx hlo MG) eR hs) λρ st σ H m D S R p=>?_
 refine hi.go S R (aE.cF R p) λw st1 v m1 H1 p1 e1 S1 rw'=>?_
 cases w with
 | ref l=>
  have p1':aE X m H (match av st1 l with | some ws=>forL i gb l ws ws ρ st1 | none=> .bad) D:=p1
  unfold ah at rw'
  obtain⟨a,rfl,hla⟩:=rw'
  cases el:av st1 l with
  | none=>rw[el] at p1';exact ae p1'
  | some ws=>
   rw[el] at p1'
   obtain⟨Qw,q0,_⟩:=S1.read hla el
   refine⟨a,rfl,.inl ⟨⟨Qw,q0⟩,?_⟩⟩
   let Pv:Nat->St->Hp->Prop:=λk σ H=>∃ρ st m',Ext X.K m1 H1 m' H/\bf X.K m' st H/\ay X.K m' H ρ σ/\av st l=some ws/\aE X m' H (forL i gb l ws (ws.drop k) ρ st) D
   refine⟨λk n σ H=>n=ws.length - k/\k<=ws.length/\Pv k σ H,⟨ws.length,by simp,bq _,ρ,st1,m1,Ext.refl,S1,R.mono e1,el,aE.shift p1' e1⟩,?_⟩
   rintro k n σ2 H2 ⟨rfl,hk,ρ2,st2,m2,e2,S2,R2,l2,p2⟩
   obtain⟨xs,hq,rws⟩:=S2.read (e2.pre _ _ hla) l2
   have hlen:=rws.length
   by_cases hlt:k < ws.length
   ·have hx':k < xs.length:=by omega
    refine .inr ⟨⟨xs,xs[k],hq,by simp[hx']⟩,Pv (k+1),λσ' H' p'=>⟨ws.length - (k+1),by omega,rfl,hlt,p'⟩,λx H' y=>?_⟩
    obtain⟨ee,y⟩:=y
    subst ee
    have ey:=y xs hq
    have ed:ws.drop k=ws[k]::ws.drop (k+1):=lQ hlt
    obtain⟨x',ex',oY⟩:=rws.get (i:=k) (w:=ws[k]) (fm hlt)
    rw[ey] at ex'
    cases ex'
    rw[ed] at p2
    refine hb _ st2 _ _ m2 _ S2 (R2.set i oY) ?_
    unfold forL at p2
    cases eg:gb (ρ2.set i (some ws[k])) st2 with
    | nx ρ3 st3=>
     rw[eg] at p2
     by_cases c:av st3 l=some ws
     ·simp only[if_pos c] at p2
      exact λσ3 m3 H3 e3 S3 R3=>⟨ρ3,st3,m3,e2.trans e3,S3,R3,c,aE.shift p2 e3⟩
     ·simp only[if_neg c] at p2;exact ae p2
    | ct ρ3 st3=>
     rw[eg] at p2
     by_cases c:av st3 l=some ws
     ·simp only[if_pos c] at p2
      exact λσ3 m3 H3 e3 S3 R3=>⟨ρ3,st3,m3,e2.trans e3,S3,R3,c,aE.shift p2 e3⟩
     ·simp only[if_neg c] at p2;exact ae p2
    | bk ρ3 st3=>rw[eg] at p2;exact p2
    | rt w3 st3=>rw[eg] at p2;exact p2
    | err c3 ρ3 st3=>rw[eg] at p2;exact p2
    | bad=>rw[eg] at p2;exact p2
   ·have e:k=ws.length:=by omega
    subst e
    rw[nN] at p2
    exact .inl ⟨⟨xs,hq,by omega⟩,p2 σ2 m2 H2 Ext.refl S2 R2⟩
 | tup ws=>
  unfold ah at rw'
  obtain⟨a,xs,rfl,hq,rws⟩:=rw'
  have hlen:=rws.length
  refine⟨a,rfl,.inr ⟨⟨xs,eJ.of hq⟩,?_⟩⟩
  refine mM i hb (ws:=ws) S1 (R.mono e1) (aE.shift p1 e1) (λk H m' e hk=>?_) (λk H m' e hk=>?_) λk hk H x H' m' e y=>?_
  ·have hx':k < xs.length:=by omega
   exact⟨xs,xs[k],eJ.of (e.tup _ _ hq),by simp[hx']⟩
  ·exact⟨xs,eJ.of (e.tup _ _ hq),by omega⟩
  ·obtain⟨ee,y⟩:=y
   refine⟨ee,?_⟩
   obtain⟨x',ex',oY⟩:=(ai.mono e _ _ rws).get (i:=k) (w:=ws[k]) (fm hk)
   rw[y xs (eJ.of (e.tup _ _ hq))] at ex'
   cases ex'
   exact oY
 | oV ws=>
  unfold ah at rw'
  obtain⟨a,xs,rfl,hq,rws⟩:=rw'
  have hlen:=rws.length
  refine⟨a,rfl,.inr ⟨⟨xs,.inr hq⟩,?_⟩⟩
  refine mM i hb (ws:=ws) S1 (R.mono e1) (aE.shift p1 e1) (λk H m' e hk=>?_) (λk H m' e hk=>?_) λk hk H x H' m' e y=>?_
  ·have hx':k < xs.length:=by omega
   exact⟨xs,xs[k],.inr hq,by simp[hx']⟩
  ·exact⟨xs,.inr hq,by omega⟩
  ·obtain⟨ee,y⟩:=y
   refine⟨ee,?_⟩
   obtain⟨x',ex',oY⟩:=(ai.mono e _ _ rws).get (i:=k) (w:=ws[k]) (fm hk)
   rw[y xs (.inr hq)] at ex'
   cases ex'
   exact oY
 | _=>exact ae p1
def bO(lo:Int)(n:Nat):List Wv:=(f9 n).map λk:Nat=>Wv.int (lo+k)
theorem kP{lo:Int}{n k:Nat}(h:k < n):(bO lo n)[k]? =some (.int (lo+k)):=by
 unfold bO
 rw[i8,List.getElem?_range h]
 rfl
theorem vM{lo:Int}{n k:Nat}(h:k < (bO lo n).length):(bO lo n)[k]= .int (lo+k):=by
 have q:=kP (lo:=lo) (n:=n) (k:=k) (by unfold bO at h;simpa using h)
 rw[fm h] at q
 exact Option.some.inj q
theorem b9{lo:Int}{n:Nat}:(bO lo n).length=n:=by unfold bO;simp
def cg(i:Int):Prop:=-(2 ^ 62)<=i/\i < 2 ^ 62
instance {i}:Decidable (cg i):=DD _
def iB(i:Nat)(ga:GA)(gb:GS):GS:=λρ st=>(ga ρ st).bo ρ λws st1=>match ws with
 | [.int j]=>if cg j then cZ i gb (bO 0 j.toNat) ρ st1 else .bad
 | _=> .bad
def um(i:Nat)(ga:GA)(gb:GS):GS:=λρ st=>(ga ρ st).bo ρ λws st1=>match ws with
 | [.int a,.int j]=>if cg a/\cg j then cZ i gb (bO a (j - a).toNat) ρ st1 else .bad
 | _=> .bad
theorem zi(i:Nat){body:List Stmt}{gb:GS}(hb:nz X body gb){lo:Int}{n:Nat}{m1:Mp}{H1:Hp}{st1:Hs}{ρ:bH}{σ:St}{D:Ends}(S1:bf X.K m1 st1 H1)(R:ay X.K m1 H1 ρ σ)(p1:aE X m1 H1 (cZ i gb (bO lo n) ρ st1) D) :
  ∃W:Nat->Nat->St->Hp->Prop,(∃m,W 0 m σ H1)/\∀k n' σ H,W k n' σ H->
   ((JQ lo n).stop k H/\D.nx σ H)\/((JQ lo n).go k H/\∃N:St->Hp->Prop,(∀σ' H',N σ' H'->∃m',m' < n'/\W (k+1) m' σ' H')/\∀x H',(JQ lo n).vh k H x H'->vq i x σ H' λσ2 H2=>Sv X body { D with nx:=N,ct:=N,bk:=D.nx } σ2 H2) :=
 mM i hb S1 R p1 (λk H m' e hk=>by rw[b9] at hk;exact hk) (λk H m' e hk=>by rw[b9] at hk;exact mO hk.symm) λk hk H x H' m' e y=>by
  obtain⟨y1,y2⟩:=y
  refine⟨y1,?_⟩
  rw[vM,y2]
  exact mkInt
theorem DE(i:Nat){x:Str}{a:Expr}{body:List Stmt}{ga:GA}{gb:GS}{pos pos' p q:Pos}(hN:X.N.Nodup)(hp:PassesOwn (model X.prog X.w) X.A X.env X.xe)(hc:X.calm=true)(hg:Gl X "range")(hm:X.mg "range"=none)(ha:JA X [a] ga)(hb:nz X body gb)
  (hx:X.N[i]? =some x)(hlo:Loc X.env.scope x)(MG:X.fn x=true\/X.env.scope.names.lookup x=some .local)(hst:adp [a] X.env=[(false,eval a X.env)]):JS X (.For (.Name x pos') (.Call (.Name "range" p) [a] [] q) body [] pos) (iB i ga gb):=by
 refine JS.of (lJ hp hc (sv hg hm iT hst) (mr hN hx hlo MG) eR (λ_=>rfl)) λρ st σ H m D S R p=>?_
 refine ha.go S R (aE.cF R p) λws st1 vs m1 H1 p1 e1 S1 rs=>?_
 match ws,rs,p1 with
 | [],rs,p1=>exact ae p1
 | x::y::t,rs,p1=>cases x<;>exact ae p1
 | [x],rs,p1=>
  obtain⟨v,rfl,r1⟩:=ui rs
  cases x with
  | int j=>
   cases aI r1
   have p2:aE X m H (if cg j then cZ i gb (bO 0 j.toNat) ρ st1 else .bad) D:=p1
   by_cases c:cg j
   ·rw[if_pos c] at p2
    exact⟨j,rfl,c.1,c.2,zi i hb S1 (R.mono e1) (aE.shift p2 e1)⟩
   ·rw[if_neg c] at p2;exact ae p2
  | _=>exact ae p1
theorem DF(i:Nat){x:Str}{a b:Expr}{body:List Stmt}{ga:GA}{gb:GS}{pos pos' p q:Pos}(hN:X.N.Nodup)(hp:PassesOwn (model X.prog X.w) X.A X.env X.xe)(hc:X.calm=true)(hg:Gl X "range")(hm:X.mg "range"=none)(ha:JA X [a,b] ga)(hb:nz X body gb)
  (hx:X.N[i]? =some x)(hlo:Loc X.env.scope x)(MG:X.fn x=true\/X.env.scope.names.lookup x=some .local)(hst:adp [a,b] X.env=[(false,eval a X.env),(false,eval b X.env)])(MH:adp [b] X.env=[(false,eval b X.env)]):JS X (.For (.Name x pos') (.Call (.Name "range" p) [a,b] [] q) body [] pos) (um i ga gb):=by
 refine JS.of (lJ hp hc (sx hg hm iT hst MH) (mr hN hx hlo MG) eR (λ_=>rfl)) λρ st σ H m D S R p=>?_
 refine ha.go S R (aE.cF R p) λws st1 vs m1 H1 p1 e1 S1 rs=>?_
 match ws,rs,p1 with
 | [],rs,p1=>exact ae p1
 | [x],rs,p1=>cases x<;>exact ae p1
 | x::y::z::t,rs,p1=>cases x<;>cases y<;>exact ae p1
 | [x,y],rs,p1=>
  obtain⟨v,v',rfl,r1,r2⟩:=rL rs
  cases x with
  | int a=>
   cases y with
   | int j=>
    cases aI r1;cases aI r2
    have p2:aE X m H (if cg a/\cg j then cZ i gb (bO a (j - a).toNat) ρ st1 else .bad) D:=p1
    by_cases c:cg a/\cg j
    ·rw[if_pos c] at p2
     exact⟨a,j,rfl,⟨c.1.1,c.1.2,c.2.1,c.2.2⟩,zi i hb S1 (R.mono e1) (aE.shift p2 e1)⟩
    ·rw[if_neg c] at p2;exact ae p2
   | _=>exact ae p1
  | _=>cases y<;>exact ae p1
theorem Ib{pos:Pos}:JS X (.Return none pos) (aP (gC .bz)):=JS.of G0 λρ st σ H m D S R p=>p .bz m H Ext.refl S ze
end
abbrev Cc:List adb:=[.type "ValueError",.type "Exception",.type "BaseException",.type "object"]
abbrev Cd:String:="ValueError.__new__"
structure DG(K:PySem.W.Frag)(c:PySem.Str)(C:ac5):Prop where
 cls:ClsAt K c C
 exc:PySem.W.excIn K C Cc Cd=true
theorem mP{K:PySem.W.Frag}{h:Heap}{C:ac5}(KX:K.In h)(q:PySem.W.excIn K C Cc Cd=true) :
  ∃(bm:List adb)(N:ac5)(nm qn:Str)(bs:List adb)(hd:Bool)(sn:List Str)(sub:List adb)(ab:Bool)(col:Option Bool)(dd:Option ac5)(k0 k1 k2 k3 k5:Option adb)(mN:Str->Option adb),
   h.get? C=some (excClassObj nm qn C N bs bm hd sn sub ab col dd k0 k1 k2 k3 k5 Cd)/\h.Ns N mN/\mN "__init__"=none/\OwnTail h Cc bm/\(∀v r,PySem.W.mroIn K C v=some r->(aQ C::bm).contains v=r):=by
 unfold PySem.W.excIn at q
 split at q
 ·rename_i dd cd sl lk
  split at q
  ·rename_i C1 bm k0 k1 k2 k3 n1 k5 em es
   simp only[cQ,beq_iff_eq,Bool.not_eq_true'] at q
   obtain⟨⟨⟨⟨⟨q1,q2⟩,q3⟩,q4⟩,q5⟩,q6⟩:=q
   subst q1 q2
   obtain⟨nm,bs,mro,N,qn,hd,sn,sub,ab,col,del⟩:=cd
   dsimp only at em q3 q5 q6
   subst em q3
   have ZP:sl=#[k0,k1,k2,k3,some (.builtin Cd),k5]:=by
    cases sl with
    | mk l=>exact congrArg Array.mk es
   subst ZP
   refine⟨bm,N,nm,qn,bs,hd,sn,sub,ab,col,dd,k0,k1,k2,k3,k5,_,KX _ _ lk,.of_isNs (PySem.W.isNs_of_in KX q5),PySem.W.nsMap_none_of_in KX q5 q6,PySem.W.tail_of_in KX q4,λv r e=>?_⟩
   unfold PySem.W.mroIn PySem.W.clsIn at e
   rw[lk] at e
   first
    | exact Option.some.inj e
    | (simp at e;exact e)
  ·cases q
 ·cases q
section
variable {X:Cx}
def nO(c:PySem.Str)(ga:GA):GS:=λρ st=>(ga ρ st).bo ρ λws st1=>if ws.length<=lim then .err c ρ st1 else .bad
theorem DH{c:Str}{C:ac5}{e:Expr}{es:List Expr}{ga:GA}{np cpos pos:Pos}(hc:X.calm=true)(O:DG X.K c C)(hg:Gl X c)(hm:X.mg c=some (.ref C))(ha:JA X (e::es) ga)(hd:(c == ("__debug__":Str))=false)
  (he:adp (e::es) X.env=(false,eval e X.env)::adp es X.env)(hpl:(backTo cpos (adp es X.env)).any (·.1)=false):JS X (.Raise (some (.Call (.Name c np) (e::es) [] cpos)) none pos) (nO c ga):=by
 intro ρ st σ H m D S R p pins s I
 have args:=ha.go (T:=λvs H1=>∃ws st1 m1,aE X m H (if ws.length<=lim then .err c ρ st1 else .bad) D/\Ext X.K m H m1 H1/\bf X.K m1 st1 H1/\ai X.K m1 H1 ws vs) S R (aE.cF R p)
  λws st1 vs m1 H1 p1 e1 S1 rs=>⟨ws,st1,m1,p1,e1,S1,rs⟩
 obtain⟨bm,N,nm,qn,bs,Qx,sn,sub,ab,col,dd,k0,k1,k2,k3,k5,mN,hC,hN,hni,T,_⟩:=mP I.ok.mod.K9 O.exc
 refine wpAny_Raise_call_subU (C:=C) (nm:=nm) (q:=qn) (N:=N) (bs:=bs) (bm:=bm) (hdct:=Qx) (sn:=sn) (sub:=sub) (ab:=ab) (col:=col) (dd:=dd) (k0:=k0) (k1:=k1) (k2:=k2) (k3:=k3) (k5:=k5) (bmB:=Cc)
  F.excBase_ValueError (by decide) F.excBase_ValueError (mN:=mN) (T.hasType F.excBase_ValueError.hasBase) (I.ok.hd hc) ?_ hni (pv I hg hm ⟨rfl,?_⟩ hd)
 ·rw[he]
  show(false||(backTo cpos (adp es X.env)).any (·.1))=false
  rw[hpl]
  rfl
 ·have go:=args cpos pins s I
  rw[he] at go ⊢
  refine t7 (bo go λus s1 ⟨vs,H1,I1,r,ws,st1,m1,p1,e1,S1,rs⟩=>?_)
  by_cases cl:ws.length<=lim
  ·rw[if_pos cl] at p1
   refine⟨rfl,by rw[<-r.length,<-rs.length];exact eC cl,I1.bk _ _ hC,hN.keeps I1.bk,T.keeps I1.bk,λh2 a M=>?_⟩
   exact p1 σ m1 H1 _ _ e1 S1 (R.mono e1) ⟨C,pins,H1,s1,O.cls,I1,.inr ⟨rfl,a,us,rfl,rfl,rfl,M⟩⟩
  ·rw[if_neg cl] at p1;exact ae p1
end
structure lu(K:PySem.W.Frag)(C:ac5):Prop where
 exc:PySem.W.excIn K C Cc Cd=true
 ga:PySem.W.findIn K (.ref C) "__getattribute__"=some (some (.builtin "BaseException.__getattribute__"))
 gx:PySem.W.findIn K (.ref C) "__getattr__"=some none
 cl:PySem.W.findIn K (.ref C) "__class__"=some (some (.builtin "object.__class__"))
section
variable {prog:ac9} {w:ade} {A:ac6} {E:adb->ada->Prop} {h:Heap} {g:Array GenState} {d:Drawn} {t:Nat} {os:OsState} {a C:ac5} {o:Obj} {K:PySem.W.Frag}
theorem MI{R:Result->ada->Prop}(Y:K.In h)(Z:lu K C)(ha:h.get? a=some o)(hc:o.cls= .ref C)(k:R (.ok (.ret (.ref C))) ⟨h,g,d,t,os⟩) :
  adi (model prog w) A (.call (.builtin "getset_descriptor.__get__") ⟨[.builtin "object.__class__",.ref a,.ref C],[]⟩) R ⟨h,g,d,t,os⟩:=by
 obtain⟨bm,N,nm,qn,bs,Qx,sn,sub,ab,col,dd,k0,k1,k2,k3,k5,mN,hC,hN,hni,T,_⟩:=mP Y Z.exc
 have ty:(⟨h,g,d,t,os⟩:ada).TypeIs (.builtin "object.__class__") "getset_descriptor":=DI
 have own:(aQ C::bm).contains (.type (".".intercalate ("object.__class__".cutAt '.').dropLast))=true:=by
  rw[F.owner_object_class,DJ,T.hasType (X:="object") (b:=true) (by decide)];rfl
 refine codeAny_call_builtin F.slot_gs_get.plain F.entry_gs_get (F.slot_gs_get.check _ _ _ _ _ _ _ _ ty (F.args_gs_get _ _ _) ?_)
 repeat (any_goals (first | assumption | (with_reducible refine wpAny_loadPart_at ha ?_;rw[hc]) | (with_reducible refine wpAny_isSubtype_exc hC ?_;rw[own]) | wp_step))
 refine⟨Code.quiet_builtin _ (by decide+kernel),codeAny_builtin F.entry_object_class ?_⟩
 repeat (any_goals (first | assumption | (with_reducible refine wpAny_loadPart_at ha ?_;rw[hc]) | wp_step))
theorem DK{tk:Tok}{Q:Fin->ada->Prop}(Y:K.In h)(Z:lu K C)(ha:h.get? a=some o)(hc:o.cls= .ref C)(k:Q (.done (.ret (.ref C))) ⟨h,g,d,t,os⟩) :
  adq (model prog w) A (Builtin.«object.__getattribute__» ⟨[.ref a,.str "__class__" tk],[]⟩) Q E ⟨h,g,d,t,os⟩:=by
 have ty:(⟨h,g,d,t,os⟩:ada).TypeIs (.builtin "object.__class__") "getset_descriptor":=DI
 have t1:=DI
 have t2:=F.slot_gs_get.lookup
 have t3:=F.slot_gs_set.lookup
 have L:=PySem.W.looks_findIn (M:=model prog w) Y Z.cl
 repeat (any_goals (first | assumption | (with_reducible refine wpAny_loadPart_at ha ?_;rw[hc]) | with_reducible refine L.at ?_ | wp_step))
 refine MI Y Z ha hc ?_
 repeat (any_goals (first | assumption | wp_step))
theorem DL{M:Model}{nv:adb}{Q:Unit->ada->Prop}(Y:K.In h)(Z:lu K C)(ha:h.get? a=some o)(hc:o.cls= .ref C)(k:Q () ⟨h,g,d,t,os⟩) :
  adq M A (checkBuiltinCall "BaseException.__getattribute__" ⟨[.ref a,nv],[]⟩) Q E ⟨h,g,d,t,os⟩:=by
 obtain⟨bm,N,nm,qn,bs,Qx,sn,sub,ab,col,dd,k0,k1,k2,k3,k5,mN,hC,hN,hni,T,_⟩:=mP Y Z.exc
 have u1:builtinKind "BaseException.__getattribute__"=some .slot:=by decide+kernel
 have u2:splitId "BaseException.__getattribute__"=some ("BaseException","__getattribute__"):=by decide+kernel
 have u3:(aQ C::bm).contains (.type "BaseException")=true:=by rw[DJ,T.hasType (X:="BaseException") (b:=true) (by decide)];rfl
 have u4:=F.args_bexc_ga (.ref a) nv
 simp only[checkBuiltinCall,u1,u2]
 refine ads ?_
 unfold isInstance
 repeat (first | (with_reducible refine wpAny_loadPart_at ha ?_;rw[hc]) | (with_reducible refine wpAny_isSubtype_exc hC ?_;rw[u3]) | wp_step)
 exact k
theorem Qy{tk:Tok}{Q:adb->ada->Prop}(Y:K.In h)(Z:lu K C)(ha:h.get? a=some o)(hc:o.cls= .ref C)(k:Q (.ref C) ⟨h,g,d,t,os⟩) :
  adq (model prog w) A (getAttrBy (.ref a) (.str "__class__" tk) false) Q E ⟨h,g,d,t,os⟩:=by
 have v1:=F.excAttr_ValueError.ga.bind (.ref a)
 have v2:(kQ "BaseException.__getattribute__" == kQ "object.__getattribute__")=false:=by decide+kernel
 have v3:(onTheHeap (aQ C)&&kQ "BaseException.__getattribute__" == kQ "object.__getattribute__")=false:=by rw[v2];rfl
 have v4:(false&&onTheHeap (kQ "BaseException.__getattribute__"))=false:=rfl
 have L1:=PySem.W.looks_findIn (M:=model prog w) Y Z.ga
 have L2:=PySem.W.looks_findIn (M:=model prog w) Y Z.gx
 repeat (any_goals (first | assumption | (with_reducible refine wpAny_loadPart_at ha ?_;rw[hc]) | with_reducible refine L1.at ?_ | with_reducible refine L2.at ?_ | wp_step))
 refine codeAny_call_builtin F.excAttr_ValueError.ga.plain F.entry_bexc_ga (DL Y Z ha hc (DK Y Z ha hc ?_))
 repeat (any_goals (first | assumption | wp_step))
theorem Ie{Q:Option adb->ada->Prop}(Y:K.In h)(Z:lu K C)(ha:h.get? a=some o)(hc:o.cls= .ref C)(k:Q (some (.ref C)) ⟨h,g,d,t+1,os⟩) :
  adq (model prog w) A (getAttr? (.ref a) "__class__") Q E ⟨h,g,d,t,os⟩:=by
 unfold getAttr? getAttrBy?
 repeat (any_goals (first | assumption | with_reducible apply Qy Y Z ha hc | wp_step))
end
structure ZQ(X:Cx):Prop where
 st:X.stack=X.env::X.outer
 fr:X.env.frame=some X.env.locals
 ex:X.ex=[]
def Qz(o:Obj):Prop:=∃vs,o.data= .fields vs/\vs[2]? =some cJ
section
variable {X:Cx} {pins:List (ac5×Obj)} {σ:St} {Hc H':Hp} {sc s':ada} {B h2:Heap} {a C:ac5} {a0:adb} {ch:List ac5}
end
theorem vN{K:PySem.W.Frag}{a C:ac5}(Z:lu K C):PySem.W.KitX K (.ref a) (.ref C) (CV a C) where
 ty:=λM h _ p=>by
  obtain⟨o,h1,h2,_⟩:=p
  rw[<-h2]
  exact(PySem.W.Looks.ld h1).andThen .now
 it:=λM h Y _=>by
  obtain⟨bm,N,nm,qn,bs,Qx,sn,sub,ab,col,dd,k0,k1,k2,k3,k5,mN,hC,_⟩:=mP Y Z.exc
  intro A' Q' E' s' k q
  unfold isType loadHead
  exact ads (wpAny_loadPart (k _ _ hC) (ady q))
 ne:=λh tp dd its n sl Y e=>by
  obtain⟨bm,N,nm,qn,bs,Qx,sn,sub,ab,col,L4,k0,k1,k2,k3,k5,mN,hC,_⟩:=mP Y Z.exc
  refine Bool.eq_false_iff.mpr λq=>?_
  have z:C=tp:=Value.ref.inj (beq_iff_eq.mp q)
  subst z
  rw[hC] at e
  have z2:Value.type "type"=Value.type "tuple":=congrArg Obj.cls (Option.some.inj e)
  exact absurd z2 (by decide)
 ca:=λ{prog w A E Q s} Y p k=>by
  obtain⟨o,h1,h2,_⟩:=p
  obtain⟨h,g,d,t,os⟩:=s
  exact Ie Y Z h1 h2 k
abbrev Tab:=List ((PySem.Str×PySem.Str)×Bool)
abbrev uo:=List ((PySem.Str×String)×Bool)
structure TabOk(K:PySem.W.Frag)(tb:Tab)(tt:uo)(tc:Tab):Prop where
 own:∀c d b C D,tb.lookup (c,d)=some b->ClsAt K c C->ClsAt K d D->lu K C/\PySem.W.kitOne K (.ref C) (.ref D)=some b
 cat:∀c d b C D,tc.lookup (c,d)=some b->ClsAt K c C->ClsAt K d D->PySem.W.excIn K C Cc Cd=true/\PySem.W.excIn K D Cc Cd=true/\PySem.W.mroIn K C (.ref D)=some b
 typ:∀c T b C,tt.lookup (c,T)=some b->ClsAt K c C->lu K C/\PySem.W.kitOne K (.ref C) (.type T)=some b
def nP(tb:Tab)(c:PySem.Str):List Wv->Option Bool
 | []=>some false
 | .cls d::r=>(match tb.lookup (c,d) with
  | some true=>some true
  | some false=>nP tb c r
  | none=>none)
 | _=>none
theorem sO{K:PySem.W.Frag}{m:Mp}{H:Hp}{tb:Tab}{tt:uo}{tc:Tab}(O:TabOk K tb tt tc){c:PySem.Str}{C:ac5}(hC:ClsAt K c C):∀{ds:List Wv}{vs:List V}{its:List adb}{b:Bool},ai K m H ds vs->Vals vs its->nP tb c ds=some b->PySem.W.kitAny K (.ref C) its=some b
 | [],vs,its,b,r,v,e=>by
  unfold ai at r
  subst r
  cases v
  cases e
  rfl
 | w::ds,vs,its,b,r,v,e=>by
  unfold ai at r
  obtain⟨x,t,rfl,r1,r2⟩:=r
  cases v with
  | cons h1 h2=>
   cases w with
   | cls d=>
    unfold ah at r1
    obtain⟨D,rfl,hD⟩:=r1
    cases h1
    unfold nP at e
    unfold PySem.W.kitAny
    cases q:tb.lookup (c,d) with
    | none=>rw[q] at e;cases e
    | some k=>
     rw[q] at e
     obtain⟨_,z3⟩:=O.own c d k C D q hC hD
     rw[z3]
     cases k with
     | true=>cases e;rfl
     | false=>exact sO O hC r2 h2 e
   | _=>cases e
def nQ(tb:Tab)(tt:uo):List Wv->Hs->Re Wv
 | [.vD c,.cls d],st=>(match tb.lookup (c,d) with | some b=> .ok (.bl b) st | none=> .bad)
 | [.vD c,.ty T],st=>(match tt.lookup (c,T) with | some b=> .ok (.bl b) st | none=> .bad)
 | [.vD c,.tup (.cls d::ds)],st=>(match nP tb c (.cls d::ds) with | some b=> .ok (.bl b) st | none=> .bad)
 | ws,st=>Qt ws st
section
variable {X:Cx}
theorem DM:eL X (.builtin "isinstance") (λvs H Q=>∃a C v c b,vs=[.ref a,v]/\Su a C (H a)/\lu X.K C/\RelV v c/\PySem.W.kitOne X.K (.ref C) c=some b/\Q (.bl b) H):=by
 intro pins s σ H xs us Q I r h
 obtain⟨a,C,v,c,b,rfl,ha,Z,rc,e,q⟩:=h
 obtain⟨u,u',rfl,r1,r2⟩:=vals2 r
 cases r1
 have uc:u'=c:=by
  cases v with
  | int i=>obtain⟨t,rfl⟩:=rc;cases e
  | str i=>obtain⟨t,rfl⟩:=rc;cases e
  | OL i=>obtain⟨t,rfl⟩:=rc;cases e
  | Sh i=>obtain⟨t,rfl⟩:=rc;cases e
  | bz=>cases rc;cases r2;rfl
  | bl i=>cases rc;cases r2;rfl
  | ref i=>cases rc;cases r2;rfl
  | ty i=>cases rc;cases r2;rfl
 subst uc
 exact PySem.W.kia_one (vN Z) I.w_ (JZ I.hok ha) e (by intro z;cases z) λtk=>⟨.bl b,H,I.tok tk,rfl,q⟩
theorem Bg:eL X (.builtin "isinstance") (λvs H Q=>∃a C p xs b,vs=[.ref a,.ref p]/\Su a C (H a)/\lu X.K C/\eJ X.K H p xs/\(∀its,Vals xs its->PySem.W.kitAny X.K (.ref C) its=some b)/\Q (.bl b) H):=by
 intro pins s σ H xs us Q I r h
 obtain⟨a,C,p,ys,b,rfl,ha,Z,hT,e,q⟩:=h
 obtain⟨u,u',rfl,r1,r2⟩:=vals2 r
 cases r1
 cases r2
 obtain⟨its,rv,⟨o,g1,g2,n,g3⟩,z⟩:=I.tuple hT
 obtain⟨oc,od,oda,osl⟩:=o
 cases g2
 cases g3
 exact PySem.W.kia_tup (vN Z) I.w_ (JZ I.hok ha) g1 (e its rv) (by intro z;cases z) λtk=>⟨.bl b,H,I.tok tk,rfl,q⟩
theorem DN{tb:Tab}{tt:uo}{tc:Tab}(O:TabOk X.K tb tt tc):dM X (.builtin "isinstance") (nQ tb tt):=by
 obtain⟨r,h1,h2⟩:=MC (X:=X)
 refine⟨_,DM.or (Bg.or h1),λws vs st H m Q S rs p=>?_⟩
 unfold nQ at p
 split at p
 ·rename_i _ c d
  cases e:tb.lookup (c,d) with
  | none=>rw[e] at p;exact ae p
  | some b=>
   rw[e] at p
   obtain⟨v,v',rfl,r1,r2⟩:=rL rs
   unfold ah at r1 r2
   obtain⟨a,C,rfl,hC,ha⟩:=r1
   obtain⟨D,rfl,hD⟩:=r2
   obtain⟨z1,z3⟩:=O.own c d b C D e hC hD
   exact .inl ⟨a,C,.ref D,.ref D,b,rfl,ha,z1,rfl,z3,p _ m H Ext.refl S ja⟩
 ·rename_i _ c T
  cases e:tt.lookup (c,T) with
  | none=>rw[e] at p;exact ae p
  | some b=>
   rw[e] at p
   obtain⟨v,v',rfl,r1,r2⟩:=rL rs
   unfold ah at r1 r2
   obtain⟨a,C,rfl,hC,ha⟩:=r1
   subst r2
   obtain⟨z1,z3⟩:=O.typ c T b C e hC
   exact .inl ⟨a,C,.ty T,.type T,b,rfl,ha,z1,rfl,z3,p _ m H Ext.refl S ja⟩
 ·rename_i _ c d ds
  cases e:nP tb c (.cls d::ds) with
  | none=>rw[e] at p;exact ae p
  | some b=>
   rw[e] at p
   obtain⟨v,v',rfl,r1,r2⟩:=rL rs
   unfold ah at r1
   obtain⟨a,C,rfl,hC,ha⟩:=r1
   have r2':=r2
   unfold ah at r2'
   obtain⟨t,xs,rfl,hT,rx⟩:=r2'
   have Z:lu X.K C:=by
    have oY:=rx
    unfold ai at oY
    obtain⟨x,r,_,rd,_⟩:=oY
    unfold ah at rd
    obtain⟨D,_,hD⟩:=rd
    unfold nP at e
    cases q:tb.lookup (c,d) with
    | none=>rw[q] at e;cases e
    | some k=>exact(O.own c d k C D q hC hD).1
   exact .inr (.inl ⟨a,C,t,xs,b,rfl,ha,Z,eJ.of hT,λits hv=>sO O hC rx hv e,p _ m H Ext.refl S ja⟩)
 ·exact .inr (.inr (h2 ws vs st H m Q S rs p))
end
section
variable {X:Cx} {pins:List (ac5×Obj)} {σ:St} {H:Hp} {s:ada}
abbrev XN(X:Cx)(A':ac6)(cm:Bool)(pn:List (ac5×Obj))(E:adb->ada->Prop):Cx:={ X with A:=A',calm:=cm,pn:=pn,xe:=E }
def MJ(X:Cx):Prop:=X.A.handled=none\/∃a o u,X.A.handled=some (.ref a)/\Qz o/\X.H₀ a=some (.oS o u)
def Bh(A:ac6)(H:Hp):Prop:=A.handled=none\/∃a o u,A.handled=some (.ref a)/\Qz o/\H a=some (.oS o u)
theorem MJ.at(h:MJ X)(I:Inv X pins σ H s):Bh X.A H:=h.imp id λ⟨a,o,u,h1,h2,h3⟩=>⟨a,o,u,h1,h2,I.base.oT _ _ _ h3⟩
end
section
variable {X:Cx}
theorem nL.er{A:ac6}{b:Bool}{E:adb->ada->Prop}{pins oD:List (ac5×Obj)}{H H':Hp}{s s':ada}{cls e:adb}(f:nL (XN X A b (X.pn++pins) E) oD H s H' cls e s'):nL X pins H s H' cls e s' :=
 let ⟨a,a0,nt,B,ch,e1,e2,e3,hch,r⟩:=f
 ⟨a,a0,nt,B,ch,e1,e2,e3,λb hb=>let ⟨h1,h2,h3,h4,h5,h6⟩:=hch b hb;⟨h1,h2,h3,h4,h5,λp hp=>h6 p (tL _ hp)⟩,r⟩
end
section
variable {X:Cx}
def QA:List Wv->Hs->Re Wv
 | [.int i],st=>if i.natAbs.log2 < 1920 then .ok (.str (toString i:String)) st else .bad
 | _,_=> .bad
def oZ(o v:Wv)(st:Hs):Re Wv:=match o with
 | .ref l=>(match st[l]? with
  | some (.lst ws)=>if ws.length < lim then .ok .bz (st.set l (.lst (ws++[v]))) else .bad
  | _=> .bad)
 | _=> .bad
def MK(o v:Wv)(st:Hs):Re Wv:=match o,v with
 | .ref l,.ref k=>(match st[l]?,st[k]? with
  | some (.lst ws),some (.lst zs)=>if ws.length+zs.length<=lim then .ok .bz (st.set l (.lst (ws++zs))) else .bad
  | _,_=> .bad)
 | _,_=> .bad
def sP(mt:Wv->Wv->Hs->Re Wv)(go ga:GE):GE:=λρ st=>(go ρ st).bind λo st1=>match o with
 | .ref l=>(match av st1 l with
  | some _=>(ga ρ st1).bind λv st2=>(mt o v st2).ny
  | none=> .bad)
 | _=> .bad
def Sy(X:Cx)(id:String)(mt:Wv->Wv->Hs->Re Wv):Prop:=∃r,Ur X id r/\∀(o w:Wv)(x v:V)(st:Hs)(H:Hp)(m:Mp)(Q:VK),bf X.K m st H->ah X.K m H o x->ah X.K m H w v->eE X.K m H (mt o w st) Q->r x [v] H Q
theorem xD:Sy X "list.append" oZ:=⟨_,A3,λo w x v st H m Q S ro rw' p=>by
 cases o with
 | ref l=>
  unfold ah at ro
  obtain⟨a,rfl,ha⟩:=ro
  have p':eE X.K m H (match st[l]? with | some (.lst ws)=>if ws.length < lim then .ok .bz (st.set l (.lst (ws++[w]))) else .bad | _=> .bad) Q:=p
  cases e:st[l]? with
  | none=>rw[e] at p';exact ae p'
  | some ob=>
   cases ob with
   | dct kvs=>rw[e] at p';exact ae p'
   | eQ kvs=>rw[e] at p';exact ae p'
   | w5 kvs=>rw[e] at p';exact ae p'
   | sI ns=>rw[e] at p';exact ae p'
   | lst ws=>
    rw[e] at p'
    dsimp only at p'
    by_cases c:ws.length < lim
    ·rw[if_pos c] at p'
     obtain⟨xs,h1,h2⟩:=S.mI ha e
     have e4:Ext X.K m H m (upd H a (.lst (xs++[v]))):=Ext.upd (.inr ⟨xs,h1⟩)
     exact⟨a,xs,v,rfl,rfl,h1,by rw[<-h2.length];exact xu c,p' _ m _ e4 (S.write ha e (h2.append (ai.cons rw' ai.nil))) ze⟩
    ·rw[if_neg c] at p';exact ae p'
 | _=>exact ae p⟩
theorem ML:Sy X "list.extend" MK:=⟨_,A4,λo w x v st H m Q S ro rw' p=>by
 cases o with
 | ref l=>
  cases w with
  | ref k=>
   unfold ah at ro rw'
   obtain⟨a,rfl,ha⟩:=ro
   obtain⟨b,rfl,hb⟩:=rw'
   have p':eE X.K m H (match st[l]?,st[k]? with | some (.lst ws),some (.lst zs)=>if ws.length+zs.length<=lim then .ok .bz (st.set l (.lst (ws++zs))) else .bad | _,_=> .bad) Q:=p
   cases e:st[l]? with
   | none=>rw[e] at p';exact ae p'
   | some ob=>
    cases ob with
    | dct kvs=>rw[e] at p';exact ae p'
    | eQ kvs=>rw[e] at p';exact ae p'
    | w5 kvs=>rw[e] at p';exact ae p'
    | sI ns=>rw[e] at p';exact ae p'
    | lst ws=>
     cases e2:st[k]? with
     | none=>rw[e,e2] at p';exact ae p'
     | some ZR=>
      cases ZR with
      | dct kvs=>rw[e,e2] at p';exact ae p'
      | eQ kvs=>rw[e,e2] at p';exact ae p'
      | w5 kvs=>rw[e,e2] at p';exact ae p'
      | sI ns=>rw[e,e2] at p';exact ae p'
      | lst zs=>
       rw[e,e2] at p'
       dsimp only at p'
       by_cases c:ws.length+zs.length<=lim
       ·rw[if_pos c] at p'
        obtain⟨xs,h1,h2⟩:=S.mI ha e
        obtain⟨ys,g1,g2⟩:=S.mI hb e2
        have e4:Ext X.K m H m (upd H a (.lst (xs++ys))):=Ext.upd (.inr ⟨xs,h1⟩)
        exact⟨a,b,xs,ys,rfl,rfl,h1,g1,by rw[<-h2.length,<-g2.length];exact eC c,p' _ m _ e4 (S.write ha e (h2.append g2)) ze⟩
       ·rw[if_neg c] at p';exact ae p'
  | _=>exact ae p
 | _=>exact ae p⟩
theorem zj{x name:Str}{id:String}{e:Expr}{go ga:GE}{p apos cpos:Pos}{mt:Wv->Wv->Hs->Re Wv}(hm:Sy X id mt)(slot:Slot "list" name id)(hty:typeOf (.builtin id)=pure (.type "method_descriptor"))(ho:JE X (.Name x p) go)(ha:JE X e ga)
  (hst:adp [e] X.env=[(false,eval e X.env)])(hline:(apos.endLine == cpos.line)=true):JE X (.Call (.Attribute (.Name x p) name apos) [e] [] cpos) (sP mt go ga):=by
 obtain⟨r,h1,h2⟩:=hm
 have hfew:((backTo cpos (adp [e] X.env)).all (λx=> !x.1)&&(backToKw cpos (keywordEach [] X.env)).all (λx=>x.1.isSome)&&decide ([e].length+([]:List Keyword).length+(if([]:List Keyword).isEmpty then 0 else 1) < 30))=true:=by
  rw[hst];rfl
 refine JE.of (P0 PySem.F.plainAttrs_list slot hty h1 aM iT rfl hfew hline hst rfl) λρ st σ H m Q S R p=>?_
 refine ho.go S R (aw.bind p) λo st1 v m1 H1 p1 e1 S1 ro=>?_
 cases o with
 | ref l=>
  dsimp only at p1
  cases el:av st1 l with
  | none=>rw[el] at p1;exact ae p1
  | some ws0=>
   rw[el] at p1
   dsimp only at p1
   have XO:=ro
   unfold ah at XO
   obtain⟨a,rfl,hla⟩:=XO
   obtain⟨xs,hq,_⟩:=S1.read hla el
   refine⟨.inl ⟨rfl,xs,hq⟩,?_⟩
   refine(zd ha C8 hst).go S1 (R.mono e1) (ok:=λws st2=>aw X σ m H (match ws with | [w]=>(mt (.ref l) w st2).ny | _=> .bad) (OR X.K m H Q)) ?_ λws st2 vs m2 H2 p2 e2 S2 rs=>?_
   ·have p3:=(aw.bind p1).imp e1 (λ_ _ q=>q)
    show aw X σ m1 H1 ((ga ρ st1).bind λx st1=>(aj ρ st1).bind λxs st2=> .ok (x::xs) st2) _
    cases eg:ga ρ st1 with
    | ok w st2=>rw[eg] at p3;exact p3
    | err c st2=>rw[eg] at p3;exact p3
    | bad=>rw[eg] at p3;exact p3
   ·match ws,rs,p2 with
    | [],rs,p2=>exact ae p2
    | [w],rs,p2=>
     obtain⟨v2,rfl,GF⟩:=ui rs
     exact h2 (.ref l) w (.ref a) v2 st2 H2 m2 Q S2 (ah.mono e2 _ _ ro) GF (eE.shift (aw.ny p2) (e1.trans e2))
    | _::_::_,rs,p2=>exact ae p2
 | _=>exact ae p1
end
section
variable {X:Cx}
def QB:List Wv->Hs->Re Wv
 | [.str z],st=> .ok (.str z) st
 | ws,st=>QA ws st
def QC:List Wv->Hs->Re Wv
 | [.int i,.int j],st=> .ok (.int (if j > i then j else i)) st
 | _,_=> .bad
def QD:List Wv->Hs->Re Wv
 | [.int i,.int j],st=> .ok (.int (if j < i then j else i)) st
 | _,_=> .bad
theorem MM(hc:X.calm=true):dM X (.builtin "max") QC:=⟨_,AV hc,λws vs st H m Q S rs p=>by
 match ws,rs,p with
 | [],rs,p=>exact ae p
 | [x],rs,p=>cases x<;>exact ae p
 | x::y::z::t,rs,p=>cases x<;>cases y<;>exact ae p
 | [x,y],rs,p=>
  obtain⟨v,v',rfl,r1,r2⟩:=rL rs
  cases x with
  | int i=>
   cases y with
   | int j=>cases aI r1;cases aI r2;exact⟨i,j,rfl,p _ m H Ext.refl S mkInt⟩
   | _=>exact ae p
  | _=>cases y<;>exact ae p⟩
theorem MN(hc:X.calm=true):dM X (.builtin "min") QD:=⟨_,AX hc,λws vs st H m Q S rs p=>by
 match ws,rs,p with
 | [],rs,p=>exact ae p
 | [x],rs,p=>cases x<;>exact ae p
 | x::y::z::t,rs,p=>cases x<;>cases y<;>exact ae p
 | [x,y],rs,p=>
  obtain⟨v,v',rfl,r1,r2⟩:=rL rs
  cases x with
  | int i=>
   cases y with
   | int j=>cases aI r1;cases aI r2;exact⟨i,j,rfl,p _ m H Ext.refl S mkInt⟩
   | _=>exact ae p
  | _=>cases y<;>exact ae p⟩
def qp:List Nat->List Wv->bH->Option bH
 | [],[],ρ=>some ρ
 | i::is,w::ws,ρ=>qp is ws (ρ.set i (some w))
 | _,_,_=>none
def MO(is:List Nat)(w:Wv)(ρ:bH):Option bH:=match w with
 | .tup ws=>qp is ws ρ
 | _=>none
def UE:List Nat->JP
 | []=>L2.aj
 | i::is=>L2.aa (vq i) (UE is)
theorem j5{m:Mp}{H:Hp}{Q:St->Hp->Prop}:∀{is:List Nat}{ws:List Wv}{xs:List V}{ρ ρ':bH}{σ:St},ai X.K m H ws xs->ay X.K m H ρ σ->qp is ws ρ=some ρ'->(∀σ',ay X.K m H ρ' σ'->Q σ' H)->UE is xs σ H Q
 | [],[],xs,ρ,ρ',σ,r,R,e,k=>by
  unfold ai at r
  subst r
  cases e
  exact⟨rfl,k σ R⟩
 | i::is,w::ws,xs,ρ,ρ',σ,r,R,e,k=>by
  unfold ai at r
  obtain⟨x,rr,rfl,h1,h2⟩:=r
  exact⟨x,rr,rfl,j5 (is:=is) h2 (R.set i h1) e k⟩
 | [],_::_,_,_,_,_,_,_,e,_=>by cases e
 | _::_,[],_,_,_,_,_,_,e,_=>by cases e
theorem mQ:∀{is:List Nat}{ws:List Wv}{ρ ρ':bH},qp is ws ρ=some ρ'->ws.length=is.length
 | [],[],_,_,_=>rfl
 | _::is,_::ws,_,_,e=>congrArg (· +1) (mQ (is:=is) (ws:=ws) e)
 | [],_::_,_,_,e=>by cases e
 | _::_,[],_,_,e=>by cases e
inductive Slots(X:Cx):List Expr->List Nat->Prop
 | nil:Slots X [] []
 | cons {x:Str} {p:Pos} {i:Nat} {es:List Expr} {is:List Nat}:X.N[i]? =some x->(Loc X.env.scope x/\(X.fn x=true\/X.env.scope.names.lookup x=some .local))->Slots X es is->Slots X (.Name x p::es) (i::is)
theorem iV(hN:X.N.Nodup):∀{es:List Expr}{is:List Nat},Slots X es is->Po X es (UE is)
 | _,_,.nil=>G5
 | _,_,.cons h1 h2 r=>Cs (mr hN h1 h2.1 h2.2) (iV hN r) rfl
theorem j6:∀{es:List Expr}{is:List Nat},Slots X es is->(assignEach es X.env).length=is.length
 | _,_,.nil=>rfl
 | _,_,.cons _ _ r=>congrArg (· +1) (j6 r)
theorem iW:∀{es:List Expr}{is:List Nat},Slots X es is->(assignEach es X.env).findIdx? (·.1)=none
 | _,_,.nil=>rfl
 | _,_,.cons (x:=x) (p:=p) (es:=es) _ _ r=>by
  have q:=iW r
  show List.findIdx? _ ((false,assign (.Name x p) X.env)::assignEach es X.env)=none
  rw[List.findIdx?_cons]
  simp[q]
open Classical in
def sQ(is:List Nat)(gb:GS)(l:Nat)(all:List Wv):List Wv->bH->Hs->Rs
 | [],ρ,st=> .nx ρ st
 | w::r,ρ,st=>match MO is w ρ with
  | none=> .bad
  | some ρ1=>match gb ρ1 st with
   | .nx ρ' st'=>if av st' l=some all then sQ is gb l all r ρ' st' else .bad
   | .ct ρ' st'=>if av st' l=some all then sQ is gb l all r ρ' st' else .bad
   | .bk ρ' st'=> .nx ρ' st'
   | .rt w st'=> .rt w st'
   | .err c ρ' st'=> .err c ρ' st'
   | .bad=> .bad
def Kb(is:List Nat)(gi:GE)(gb:GS):GS:=λρ st=>(gi ρ st).bo ρ λw st1=>match w with
 | .ref l=>(match av st1 l with | some ws=>sQ is gb l ws ws ρ st1 | none=> .bad)
 | _=> .bad
theorem Ig{es:List Expr}{is:List Nat}{k:Nat}{iter:Expr}{body:List Stmt}{gi:GE}{gb:GS}{pos pos':Pos}(hN:X.N.Nodup)(hp:PassesOwn (model X.prog X.w) X.A X.env X.xe)(hc:X.calm=true)(sl:Slots X es is)(hi:JE X iter gi)(hb:nz X body gb)
  (hs:∀x,adl iter X.env x=pure x):JS X (.For (.Tuple es k pos') iter body [] pos) (Kb is gi gb):=by
 refine JS.of (lJ hp hc (G6 aM) (tM hc (iV hN sl) (j6 sl) (iW sl)) eR hs) λρ st σ H m D S R p=>?_
 refine hi.go S R (aE.cF R p) λw st1 v m1 H1 p1 e1 S1 rw'=>?_
 cases w with
 | ref l=>
  have p1':aE X m H (match av st1 l with | some ws=>sQ is gb l ws ws ρ st1 | none=> .bad) D:=p1
  unfold ah at rw'
  obtain⟨a,rfl,hla⟩:=rw'
  cases el:av st1 l with
  | none=>rw[el] at p1';exact ae p1'
  | some ws=>
   rw[el] at p1'
   obtain⟨Qw,q0,_⟩:=S1.read hla el
   refine⟨a,rfl,⟨Qw,q0⟩,?_⟩
   let Pv:Nat->St->Hp->Prop:=λk σ H=>∃ρ st m',Ext X.K m1 H1 m' H/\bf X.K m' st H/\ay X.K m' H ρ σ/\av st l=some ws/\aE X m' H (sQ is gb l ws (ws.drop k) ρ st) D
   refine⟨λk n σ H=>n=ws.length - k/\k<=ws.length/\Pv k σ H,⟨ws.length,by simp,bq _,ρ,st1,m1,Ext.refl,S1,R.mono e1,el,aE.shift p1' e1⟩,?_⟩
   rintro k n σ2 H2 ⟨rfl,hk,ρ2,st2,m2,e2,S2,R2,l2,p2⟩
   obtain⟨xs,hq,rws⟩:=S2.read (e2.pre _ _ hla) l2
   have hlen:=rws.length
   by_cases hlt:k < ws.length
   ·have hx':k < xs.length:=by omega
    refine .inr ⟨⟨xs,xs[k],hq,by simp[hx']⟩,Pv (k+1),λσ' H' p'=>⟨ws.length - (k+1),by omega,rfl,hlt,p'⟩,λx H' y=>?_⟩
    obtain⟨ee,y⟩:=y
    subst ee
    have ey:=y xs hq
    have ed:ws.drop k=ws[k]::ws.drop (k+1):=lQ hlt
    obtain⟨x',ex',oY⟩:=rws.get (i:=k) (w:=ws[k]) (fm hlt)
    rw[ey] at ex'
    cases ex'
    rw[ed] at p2
    unfold sQ at p2
    cases eb:ws[k] with
    | tup us=>
     rw[eb] at p2 oY
     dsimp only[MO] at p2
     cases e5:qp is us ρ2 with
     | none=>rw[e5] at p2;exact ae p2
     | some ρ5=>
      rw[e5] at p2
      dsimp only at p2
      unfold ah at oY
      obtain⟨b,ys,rfl,f1,f2⟩:=oY
      refine⟨b,ys,rfl,eJ.of f1,by rw[<-f2.length];exact mQ e5,j5 f2 R2 e5 λσ5 R5=>?_⟩
      refine hb _ st2 _ _ m2 _ S2 R5 ?_
      cases eg:gb ρ5 st2 with
      | nx ρ3 st3=>
       rw[eg] at p2
       by_cases c:av st3 l=some ws
       ·simp only[if_pos c] at p2
        exact λσ3 m3 H3 e3 S3 R3=>⟨ρ3,st3,m3,e2.trans e3,S3,R3,c,aE.shift p2 e3⟩
       ·simp only[if_neg c] at p2;exact ae p2
      | ct ρ3 st3=>
       rw[eg] at p2
       by_cases c:av st3 l=some ws
       ·simp only[if_pos c] at p2
        exact λσ3 m3 H3 e3 S3 R3=>⟨ρ3,st3,m3,e2.trans e3,S3,R3,c,aE.shift p2 e3⟩
       ·simp only[if_neg c] at p2;exact ae p2
      | bk ρ3 st3=>rw[eg] at p2;exact p2
      | rt w3 st3=>rw[eg] at p2;exact p2
      | err c3 ρ3 st3=>rw[eg] at p2;exact p2
      | bad=>rw[eg] at p2;exact p2
    | _=>rw[eb] at p2;exact ae p2
   ·have e:k=ws.length:=by omega
    subst e
    rw[nN] at p2
    exact .inl ⟨⟨xs,hq,by omega⟩,p2 σ2 m2 H2 Ext.refl S2 R2⟩
 | _=>exact ae p1
end
def mh(env:Env):List (Str×ac8)->List (Str×ac5)->List (Str×ac5)
 | [],acc=>acc
 | (n,k)::r,acc=>if k= .free then mh env r ((n,(env.cells.lookup n).getD 0)::acc) else mh env r acc
theorem vO(env:Env):∀(names:List (Str×ac8))(acc:List (Str×ac5)),(∀y∈names,y.2= .free->∃c,env.cells.lookup y.1=some c)->
  (forIn names acc λx r=>match x with
   | (name,kind)=>if(kind == du)=true then do let c <-cellOf env name;pure (lR ((name,c)::r)) else(pure (lR r):Sem _))=pure (mh env names acc)
 | [],acc,_=>rfl
 | (n,k)::r,acc,h=>by
  have ih:=λacc=>vO env r acc λy hy=>h y (aN _ hy)
  rw[nR]
  by_cases hk:k= .free
  ·subst hk
   obtain⟨c,e⟩:=h (n,.free) bu rfl
   have e':env.cells.lookup n=some c:=e
   have cc:cellOf env n=pure c:=by unfold cellOf;rw[e']
   simp only[beq_self_eq_true,if_true,cc]
   have q:mh env ((n,.free)::r) acc=mh env r ((n,c)::acc):=by
    show(if du= .free then mh env r ((n,(env.cells.lookup n).getD 0)::acc) else _)=_
    rw[if_pos rfl,e']
    rfl
   rw[q,<-ih]
   rfl
  ·have hb:(k == du)=false:=by simpa using hk
   simp only[hb,oI,if_false]
   have q:mh env ((n,k)::r) acc=mh env r acc:=by
    show(if k= .free then _ else mh env r acc)=_
    rw[if_neg hk]
   rw[q,<-ih]
   rfl
theorem zk{env:Env}{scope:Scope}(h:∀y∈scope.names,y.2= .free->∃c,env.cells.lookup y.1=some c):closureFor scope env=pure (mh env scope.names []):=by
 have q:=vO env scope.names [] h
 unfold closureFor
 first
  | (rw[<-q];rfl)
  | (simp only[bind_pure];exact q)
theorem ur{env:Env}:∀{names:List (Str×ac8)}{acc:List (Str×ac5)}{y:Str}{c:ac5},(∀y∈names,y.2= .free->∃c,env.cells.lookup y.1=some c)->(∀y c,acc.lookup y=some c->env.cells.lookup y=some c)->(mh env names acc).lookup y=some c->env.cells.lookup y=some c
 | [],acc,y,c,_,ha,e=>ha y c e
 | (n,k)::r,acc,y,c,h,ha,e=>by
  unfold mh at e
  by_cases hk:k= .free
  ·rw[if_pos hk] at e
   subst hk
   obtain⟨c0,e0⟩:=h (n,.free) bu rfl
   have ZS:env.cells.lookup n=some c0:=e0
   refine ur (λy hy=>h y (aN _ hy)) (λy' c' e'=>?_) e
   rw[b_] at e'
   cases q:y' == n with
   | true=>
    rw[q] at e'
    have q':=eq_of_beq q
    subst q'
    rw[ZS] at e' ⊢
    exact e'
   | false=>rw[q] at e';exact ha y' c' e'
  ·rw[if_neg hk] at e
   exact ur (λy hy=>h y (aN _ hy)) ha e
theorem pF{env:Env}{y:Str}:∀{names:List (Str×ac8)}{acc:List (Str×ac5)},((∃c,acc.lookup y=some c)\/(y,du)∈names)->∃c,(mh env names acc).lookup y=some c
 | [],acc,h=>by
  rcases h with h | h
  ·exact h
  ·cases h
 | (n,k)::r,acc,h=>by
  unfold mh
  by_cases hk:k= .free
  ·rw[if_pos hk]
   refine pF ?_
   rw[b_]
   cases q:y == n with
   | true=>exact .inl ⟨_,rfl⟩
   | false=>
    rcases h with h | h
    ·exact .inl h
    ·rcases List.mem_cons.mp h with h | h
     ·cases h;simp at q
     ·exact .inr h
  ·rw[if_neg hk]
   refine pF ?_
   rcases h with h | h
   ·exact .inl h
   ·rcases List.mem_cons.mp h with h | h
    ·cases h;exact absurd rfl hk
    ·exact .inr h
theorem lookup_mem{α β:Type}[BEq α][LawfulBEq α]{y:α}{k:β}:∀{names:List (α×β)},names.lookup y=some k->(y,k)∈names
 | [],h=>by cases h
 | (n,j)::r,h=>by
  rw[b_] at h
  cases q:y == n with
  | true=>
   rw[q] at h
   cases h
   have q':=eq_of_beq q
   subst q'
   exact bu
  | false=>rw[q] at h;exact aN _ (lookup_mem h)
theorem qr{env:Env}:∀{names:List (Str×ac8)}{y:Str},(names.map λ(n,k)=>if(k == du&&env.scope.kind == .function&&env.kindOf n == some .cell) then(n,pG) else(n,k)).lookup y=
  (names.lookup y).map λk=>if(k == du&&env.scope.kind == .function&&env.kindOf y == some .cell)=true then pG else k
 | [],y=>rfl
 | (n,k)::r,y=>by
  have ih:=qr (env:=env) (names:=r) (y:=y)
  show mR y ((if(k == du&&env.scope.kind == .function&&env.kindOf n == some .cell)=true then(n,pG) else(n,k))::_)=_
  cases q:y == n with
  | true=>
   have q':=eq_of_beq q
   subst q'
   by_cases hc:(k == du&&env.scope.kind == .function&&env.kindOf y == some .cell)=true
   ·rw[if_pos hc]
    simp only[b_,beq_self_eq_true,pH]
    rw[if_pos hc]
   ·rw[if_neg hc]
    simp only[b_,beq_self_eq_true,pH]
    rw[if_neg hc]
  | false=>
   by_cases hc:(k == du&&env.scope.kind == .function&&env.kindOf n == some .cell)=true
   ·rw[if_pos hc];simp only[b_,q];exact ih
   ·rw[if_neg hc];simp only[b_,q];exact ih
open Classical in
def iX(ck:Hs->Prop)(gt:Wv->Hs->Re Bool)(ge:Wv->Hs->Re Wv)(l:Nat):List Wv->Hs->Option Hs
 | [],st=>some st
 | w::r,st=>match gt w st with
  | .ok false st1=>if ck st1 then iX ck gt ge l r st1 else none
  | .ok true st1=>(match ge w st1 with
   | .ok v st2=>(match oZ (.ref l) v st2 with
    | .ok _ st3=>if ck st3 then iX ck gt ge l r st3 else none
    | _=>none)
   | _=>none)
  | _=>none
open Classical in
def oJ(ck:Hs->Prop)(gt:Wv->Hs->Re Bool)(ge:Wv->Hs->Re Wv)(l:Nat):List Wv->Hs->Re Unit
 | [],st=> .ok () st
 | w::r,st=>match gt w st with
  | .ok false st1=>if ck st1 then oJ ck gt ge l r st1 else .bad
  | .ok true st1=>(match ge w st1 with
   | .ok v st2=>(match oZ (.ref l) v st2 with
    | .ok _ st3=>if ck st3 then oJ ck gt ge l r st3 else .bad
    | _=> .bad)
   | .err c st2=> .err c st2
   | .bad=> .bad)
  | .err c st1=> .err c st1
  | .bad=> .bad
theorem qt{ck:Hs->Prop}{gt:Wv->Hs->Re Bool}{ge:Wv->Hs->Re Wv}{l:Nat}{mi:Hs}:∀(ws:List Wv)(st:Hs),iX ck gt ge l ws st=some mi->oJ ck gt ge l ws st= .ok () mi
 | [],st,h=>by cases h;rfl
 | w::r,st,h=>by
  unfold iX at h
  unfold oJ
  cases eg:gt w st with
  | err c st1=>rw[eg] at h;cases h
  | bad=>rw[eg] at h;cases h
  | ok b st1=>
   rw[eg] at h
   cases b with
   | false=>
    dsimp only at h ⊢
    by_cases c:ck st1
    ·rw[if_pos c] at h ⊢;exact qt r st1 h
    ·rw[if_neg c] at h;cases h
   | true=>
    dsimp only at h ⊢
    cases ee:ge w st1 with
    | err c st2=>rw[ee] at h;cases h
    | bad=>rw[ee] at h;cases h
    | ok v st2=>
     rw[ee] at h
     dsimp only at h ⊢
     cases ea:oZ (.ref l) v st2 with
     | err c st3=>rw[ea] at h;cases h
     | bad=>rw[ea] at h;cases h
     | ok u st3=>
      rw[ea] at h
      dsimp only at h ⊢
      by_cases c:ck st3
      ·rw[if_pos c] at h ⊢;exact qt r st3 h
      ·rw[if_neg c] at h;cases h
abbrev dN:=List (Str×Nat)
def eT(cs:dN)(ρ:bH):bH:=cs.map λp=>(ρ[p.2]?).getD none
def mS(cs:dN)(σ:St):St:=cs.map λp=>(σ[p.2]?).getD none
theorem zm{K:PySem.W.Frag}{m:Mp}{H:Hp}{ρ:bH}{σ:St}(cs:dN)(R:ay K m H ρ σ):ay K m H (eT cs ρ) (mS cs σ):=by
 refine⟨by unfold eT mS;simp,λi w e=>?_⟩
 unfold eT at e
 rw[i8] at e
 cases q:cs[i]? with
 | none=>rw[q] at e;cases e
 | some p=>
  rw[q] at e
  have e':(ρ[p.2]?).getD none=some w:=by simpa using e
  cases q2:ρ[p.2]? with
  | none=>rw[q2] at e';cases e'
  | some o=>
   rw[q2] at e'
   have e2:o=some w:=e'
   subst e2
   obtain⟨v,h1,h2⟩:=R.get _ _ q2
   refine⟨v,?_,h2⟩
   unfold mS
   rw[i8,q]
   simp[h1]
def fR(X:Cx)(scope:Scope)(x:Str)(cs:dN)(C:ac5)(s0:ada)(H0:Hp)(fp:List ac5)(pn:List (ac5×Obj))(E:adb->ada->Prop):Cx where
 prog:=X.prog
 w:=X.w
 K:=X.K
 mg:=X.mg
 base:=X.base
 A:=X.A
 N:=x::cs.map (·.1)
 s₀:=s0
 H₀:=H0
 env:=compEnvC scope (mh X.env scope.names []) C X.env
 outer:=X.stack
 stack:=X.stack
 ex:=fp
 fn:=λ_=>false
 calm:=X.calm
 pn:=pn
 xe:=E
structure eD(X:Cx)(scope:Scope)(x:Str)(cs:dN):Prop where
 kind:scope.kind= .function
 look:∀y∈scope.names,scope.names.lookup y.1=some y.2
 cell:∀y∈scope.names,y.2≠.cell
 var:scope.names.lookup x=some .local
 cap:∀y∈scope.names,y.2= .free->X.env.kindOf y.1=some .cell\/X.env.kindOf y.1=some .free
 at_:∀p∈cs,X.N[p.2]? =some p.1/\scope.names.lookup p.1=some .free
 nd:(x::cs.map (·.1)).Nodup
section
variable {X:Cx} {pins:List (ac5×Obj)} {σ:St} {H:Hp} {s:ada} {scope:Scope} {x:Str} {cs:dN}
theorem qu(I:Inv X pins σ H s){b:ac5}(f:eK X pins H b):b∉frs X.stack:=λz=>by
 rcases List.mem_cons.mp (I.lI b z) with q | q
 ·exact f.2.1 q
 ·exact f.2.2.1 q
theorem eD.has(S:eD X scope x cs)(ok:X.Ok):∀y∈scope.names,y.2= .free->∃c,X.env.cells.lookup y.1=some c:=λy hy e=>ok.has y.1 (S.cap y hy e)
theorem eD.sub(S:eD X scope x cs)(ok:X.Ok){y:Str}{c:ac5}(e:(mh X.env scope.names []).lookup y=some c):X.env.cells.lookup y=some c :=
 ur (S.has ok) (λ_ _ z=>by cases z) e
theorem eD.MP(S:eD X scope x cs)(ok:X.Ok){C:ac5}{y:Str}(h:(compEnvC scope (mh X.env scope.names []) C X.env).kindOf y=some .cell\/(compEnvC scope (mh X.env scope.names []) C X.env).kindOf y=some .free):scope.names.lookup y=some .free:=by
 have q:(compEnvC scope (mh X.env scope.names []) C X.env).kindOf y=(scope.names.lookup y).map λk=>if(k == du&&X.env.scope.kind == .function&&X.env.kindOf y == some .cell)=true then pG else k:=qr
 rw[q] at h
 cases e:scope.names.lookup y with
 | none=>rw[e] at h;simp at h
 | some k=>
  rw[e] at h
  simp only[pH,Option.some.injEq] at h
  by_cases hk:k= .free
  ·rw[hk]
  ·have hb:(k == du)=false:=by simpa using hk
   rw[hb] at h
   simp only[yP,oI,if_false] at h
   rcases h with h | h
   ·exact absurd h (S.cell (y,k) (lookup_mem e))
   ·exact absurd h hk
theorem eD.DO(S:eD X scope x cs){C:ac5}{y:Str}(e:scope.names.lookup y=some .free):(compEnvC scope (mh X.env scope.names []) C X.env).kindOf y=some .cell\/(compEnvC scope (mh X.env scope.names []) C X.env).kindOf y=some .free:=by
 have q:(compEnvC scope (mh X.env scope.names []) C X.env).kindOf y=(scope.names.lookup y).map λk=>if(k == du&&X.env.scope.kind == .function&&X.env.kindOf y == some .cell)=true then pG else k:=qr
 rw[q,e]
 simp only[pH]
 split
 ·exact .inl rfl
 ·exact .inr rfl
theorem vP{fp:List ac5}{h2:Heap}{tk:Nat}{E:adb->ada->Prop}(S:eD X scope x cs)(I:Inv X pins σ H s)(hf:∀b∈fp,eK X pins H b)(hl:∀b∈fp,b < s.heap.objs.size)
  (ns:h2.Ns s.heap.objs.size (λy=>([]:List (Str×adb)).reverse.lookup y))(sb:iu s.heap.objs.size (s.heap.push { cls:=.type "dict",data:=.dict #[] }) h2) :
  Inv (fR X scope x cs s.heap.objs.size s H fp (X.pn++pins) E) [] (none::mS cs σ) H { s with heap:=h2,toks:=tk }:=by
 have keep:∀b o,s.heap.get? b=some o->h2.get? b=some o:=λb o e=>(sb.2 b (aR (aF e))).trans (aK _ e)
 have sub:∀{y:Str}{c:ac5},(mh X.env scope.names []).lookup y=some c->X.env.cells.lookup y=some c:=λe=>S.sub I.ok e
 have cellK:∀y c,X.env.cells.lookup y=some c->∀v,s.heap.IsCell c v->h2.IsCell c v:=λy c _ v ⟨o,ho,hd⟩=>⟨o,keep c o ho,hd⟩
 refine⟨⟨I.ok.mod,S.kind,I.ok.glob,I.ok.blt,aq _,(λy z c e1 e2=>I.ok.inj y z c (sub e1) (sub e2)),λy h=>pF (.inr (lookup_mem (S.MP I.ok h))),(λy c e=>by cases e),I.ok.hd,I.ok.frames,.inl rfl,λb hb=>⟨aR (hl b hb),λy c e=>(hf b hb).2.2.2.2.1 y c (sub e)⟩,I.bs,bp I.ok.GQ I.sz,λb o e hb=>?_,λb hb=>qu I (hf b hb),I.stack,I.pk⟩,rfl,I.bare,Un.kept keep,⟨_,ns,λi y v e1 e2 e3=>?_⟩,(λy c e=>?_),I.fresh,(λy c e=>I.lB y c (sub e)),λp hp=>?_,I.hok.kept keep,by unfold fR mS;simp⟩
 ·rcases(hf b hb).2.2.2.1 with z | z
  ·exact I.ok.GR b o e z
  ·exact absurd (a9 (aF e) (bp I.ok.GQ z)) (dn _)
 ·cases i with
  | zero=>cases e2
  | succ i=>
   have GG:(cs.map (·.1))[i]? =some y:=e1
   have zo:(mS cs σ)[i]? =some (some v):=e2
   unfold mS at zo
   rw[i8] at GG zo
   cases q:cs[i]? with
   | none=>rw[q] at GG;cases GG
   | some p=>
    rw[q] at GG zo
    have y1:p.1=y:=by simpa using GG
    have e4:(σ[p.2]?).getD none=some v:=by simpa using zo
    have e5:σ[p.2]? =some (some v):=by
     cases q2:σ[p.2]? with
     | none=>rw[q2] at e4;cases e4
     | some o=>
      rw[q2] at e4
      have:o=some v:=e4
      rw[this]
    have hp:=S.at_ p (List.mem_iff_getElem?.mpr ⟨i,q⟩)
    rw[y1] at hp
    have kd:=S.cap (y,.free) (lookup_mem hp.2) rfl
    obtain⟨m,hn,hl'⟩:=I.loc
    obtain⟨u,r,l⟩:=hl' p.2 y v hp.1 e5 (.inr kd)
    refine⟨u,r,.inr ⟨S.DO hp.2,?_⟩⟩
    rcases l with ⟨l,_⟩ | ⟨_,c,e,z⟩
    ·rcases kd with kd | kd
     ·have UG:X.env.kindOf y=some .cell:=kd
      rw[UG] at l;cases l
     ·have UG:X.env.kindOf y=some .free:=kd
      rw[UG] at l;cases l
    ·obtain⟨c',e'⟩:=pF (env:=X.env) (y:=y) (names:=scope.names) (acc:=[]) (.inr (lookup_mem hp.2))
     have:=sub e'
     rw[e] at this
     cases this
     exact⟨c,e',cellK y c e _ z⟩
 ·obtain⟨v,z⟩:=I.cell y c (sub e)
  exact⟨v,cellK y c (sub e) v z⟩
 ·rw[gJ] at hp
  obtain⟨e,n,ne,nf,d⟩:=I.pin p hp
  refine⟨keep _ _ e,n,aR (aF e),λz=>?_,d⟩
  rcases List.mem_cons.mp (I.lI p.1 z) with q | q
  ·exact ne q
  ·exact nf q
theorem DP{fp:List ac5}{E:adb->ada->Prop}{Hb He:Hp}{sb se:ada}{C:ac5}{σ':St}{oD:List (ac5×Obj)}(I:Inv X pins σ Hb sb)(hf:∀b∈fp,eK X pins Hb b)(J:Inv (fR X scope x cs C sb Hb fp (X.pn++pins) E) oD σ' He se):Inv X pins σ He se:=by
 have un:Un (frs X.stack) fp Hb He sb.heap se.heap:=J.base
 exact I.sk (ch:=fp) J.os un J.hok J.bare λb hb=>⟨(hf b hb).2.2.2.1,(hf b hb).2.1,(hf b hb).2.2.2.2.1,λp hp=>(hf b hb).2.2.2.2.2 p hp⟩
theorem kR{He:Hp}{se:ada}{C:ac5}{h2:Heap}(I:Inv X pins σ He se)(f:eK X pins He C)(same:iu C se.heap h2):Inv X pins σ He { se with heap:=h2 } :=
 I.turned (t':=se.toks) (it:=C) (λb o hb e=>(same.2 b hb).trans e) f.1 f.2.1 f.2.2.2.1 f.2.2.2.2.1 f.2.2.2.2.2
end
def DQ(X:Cx):Prop:=∃(env:Env)(outer:List Env)(L:ac5),X.stack=env::outer/\env.frame=some L/\X.env.frame=some L
section
variable {X:Cx} {pins:List (ac5×Obj)} {σ:St} {scope:Scope} {x:Str} {cs:dN}
end
structure DR(Y:Cx->Prop)(P:ac9)(w:ade)(K:PySem.W.Frag)(tg:Expr)(J:It)(fp:List ac5)(it:ac5)(tn:Nat->Heap->Prop):Prop where
 obj:∀i h,tn i h->∀b∈fp,∃o,h.get? b=some o/\∀v,o.data≠.cell v
 keep:∀i h h',tn i h->(∀b∈fp,∀o,h.get? b=some o->h'.get? b=some o)->tn i h'
 item:∀(X:Cx),X.prog=P->X.w=w->X.K=K->Y X->∀(i:Nat)(pins:List (ac5×Obj))(s:ada)(σ:St)(H:Hp)(E:adb->ada->Prop),Inv X pins σ H s->(∀b∈fp,eK X pins H b)->tn i s.heap->J.go i H->adq (model P w) X.A (pyNext (.ref it)) (λr s1=>∃u,r=some u/\
  adq (model P w) X.A (letOwnedTupleGo tg (.ref it) u) (λ_ s2=>∃x H',Inv X pins σ H' s2/\RelV x u/\J.vh i H x H'/\tn (i+1) s2.heap/\∀b∈fp,H' b=none) E s1) E s
 done:∀(X:Cx),X.prog=P->X.w=w->X.K=K->Y X->∀(i:Nat)(pins:List (ac5×Obj))(s:ada)(σ:St)(H:Hp)(E:adb->ada->Prop),Inv X pins σ H s->(∀b∈fp,eK X pins H b)->tn i s.heap->J.stop i H->adq (model P w) X.A (pyNext (.ref it)) (λr s1=>r=none/\Inv X pins σ H s1) E s
 self:∀(A:ac6)(i:Nat)(s:ada)(Q:adb->ada->Prop)(E:adb->ada->Prop),tn i s.heap->Q (.ref it) s->adq (model P w) A (pyIter (.ref it)) Q E s
abbrev Calm(X:Cx):Prop:=X.calm=true
theorem _root_.L2.Turn.y{P:ac9}{w:ade}{K:PySem.W.Frag}{tg:Expr}{J:It}{fp:List ac5}{it:ac5}{tn:Nat->Heap->Prop}(T:Turn P w K tg J fp it tn):DR Calm P w K tg J fp it tn:=⟨T.obj,T.keep,T.item,T.done,T.self⟩
def QE(Y:Cx->Prop)(X:Cx):Prop:=∀{pins:List (ac5×Obj)}{σ:St}{H:Hp}{s:ada}(scope:Scope)(x:Str)(cs:dN)(C:ac5)(s0:ada)(fp:List ac5)(pn:List (ac5×Obj))(E:adb->ada->Prop),Inv X pins σ H s->Y (fR X scope x cs C s0 H fp pn E)
theorem vQ{X:Cx}(hc:X.calm=true):QE Calm X:=λ_ _ _ _ _ _ _ _ _=>hc
def Bi(X:Cx)(ifs:List Expr)(g:GT):Prop:=∀(ρ:bH)(st:Hs)(σ:St)(H:Hp)(m:Mp)(Q:Bool->Hp->Prop),bf X.K m st H->ay X.K m H ρ σ->iS X σ m H (g ρ st) Q->∀(pins:List (ac5×Obj))(s:ada),Inv X pins σ H s->
 adq (model X.prog X.w) X.A (forIn ifs true λc r=>if r=true then do let ok <-isTrue c X.env (eval c X.env);pure (lR ok) else pure (lR r)) (TP X pins σ Q) X.xe s
section
variable {X:Cx}
theorem zp:Bi X [] (λ_ st=> .ok true st):=λρ st σ H m Q S R p pins s I=>wpAny_tests_nil ⟨H,I,p m H Ext.refl S⟩
theorem xE{pins:List (ac5×Obj)}{σ:St}{ρ:bH}{scope:Scope}{x:Str}{cs:dN}{px pos:Pos}{elt iter:Expr}{ifs:List Expr}{gt:GT}{ge:GE}{ck:Hs->Prop}{ws:List Wv}{E:adb->ada->Prop}
  {use:Option (adb->Sem Unit)}{Q:adb->ada->Prop}{res:Re Unit}
  {it:ac5}{fp:List ac5}{tn:Nat->Heap->Prop}{J':It}{H2:Hp}{s2:ada}{m1:Mp}{st1:Hs}{Y:Cx->Prop}(fr:DQ X)(S:eD X scope x cs)(hY:QE Y X)(hH:MJ X)(I2:Inv X pins σ H2 s2)(T:DR Y X.prog X.w X.K (.Name x px) J' fp it tn)(t0:tn 0 s2.heap)(f2:∀b∈fp,eK X pins H2 b)
  (S1:bf X.K m1 st1 H2)(R:ay X.K m1 H2 ρ σ)(hck:ck (st1++[.lst []]))(run:oJ ck (λw=>gt (some w::eT cs ρ)) (λw=>ge (some w::eT cs ρ)) st1.length ws (st1++[.lst []])=res)(nb:res≠.bad)(hx:∀c ZT,res≠.err c ZT)
  (hE:∀C s0 H0 pn E,Bh X.A H0->JE (fR X scope x cs C s0 H0 fp pn E) elt ge)(hT:∀C s0 H0 pn E,Bh X.A H0->Bi (fR X scope x cs C s0 H0 fp pn E) ifs gt)
  (hgo:∀(k:Nat)(H:Hp)(m':Mp)(st:Hs),Ext X.K m1 H2 m' H->bf X.K m' st H->ck st->k < ws.length->J'.go k H)(hstop:∀(k:Nat)(H:Hp)(m':Mp)(st:Hs),Ext X.K m1 H2 m' H->bf X.K m' st H->ck st->k=ws.length->J'.stop k H)
  (hy:∀(k:Nat)(hk:k < ws.length)(H:Hp)(v:V)(H':Hp)(m':Mp)(st:Hs),Ext X.K m1 H2 m' H->bf X.K m' st H->ck st->J'.vh k H v H'->H'=H/\ah X.K m' H ws[k] v)
  (fin:∀(mi:Hs),res= .ok () mi->∀(D C:ac5)(mm:Str->Option adb)(m':Mp)(H':Hp)(s':ada),Ext X.K m1 H2 m' H'->bf X.K m' mi H'->m'[st1.length]? =some D->Inv X pins σ H' s'->eK X pins H' C->s'.heap.Ns C mm->(∀y c,X.env.cells.lookup y=some c->c≠C)->adj (model X.prog X.w) X.A X.xe use Q (.ref D) C (.ok .next) s') :
  adq (model X.prog X.w) X.A (newList []) (λacc s3=>adq (model X.prog X.w) X.A (newFunctionEnv scope X.env.globals (mh X.env scope.names []) [] X.env.qual none .none (some X.env)) (λcenv s4=>
   adi (model X.prog X.w) X.A (.compStart (.ListComp elt [⟨.Name x px,iter,ifs,0⟩] scope pos) 0 (.ref it) acc { cenv with scope:=relabel scope X.env }) (adj (model X.prog X.w) X.A X.xe use Q acc cenv.locals) s4) E s3) E s2:=by
 refine adw ?_
 have I3:Inv X pins σ (upd H2 s2.heap.objs.size (.lst [])) { s2 with heap:=s2.heap.push { cls:=.type "list",data:=.seq ([]:List adb).toArray } }:=I2.Hu (ys:=[]) (its:=[]) (t':=s2.toks) .nil (bq _)
 have QF:∀b∈fp,b < s2.heap.objs.size:=λb hb=>by
  obtain⟨o,e,_⟩:=T.obj _ _ t0 b hb
  exact aF e
 have hD:H2 s2.heap.objs.size=none:=I2.fresh
 have f3:∀b∈fp,eK X pins (upd H2 s2.heap.objs.size (.lst [])) b:=λb hb=>⟨by rw[aG (aR (QF b hb))];exact(f2 b hb).1,(f2 b hb).2⟩
 have S3:=S1.alloc (ws:=[]) (xs:=[]) hD ai.nil
 have e3:Ext X.K m1 H2 (m1++[s2.heap.objs.size]) (upd H2 s2.heap.objs.size (.lst [])):=Ext.more.trans (Ext.upd (.inl hD))
 have Ih:(m1++[s2.heap.objs.size])[st1.length]? =some s2.heap.objs.size:=by
  rw[<-S1.len,fV (aq _),mJ];rfl
 generalize DS:({ s2 with heap:=s2.heap.push { cls:=.type "list",data:=.seq ([]:List adb).toArray } }:ada)=s3 at I3
 have QG:∀b o,s2.heap.get? b=some o->s3.heap.get? b=some o:=λb o e=>by rw[<-DS];exact aK _ e
 have OU:∀b∈fp,b < s3.heap.objs.size:=λb hb=>by
  obtain⟨o,e,_⟩:=T.obj _ _ t0 b hb
  exact aF (QG b o e)
 generalize ZU:s2.heap.objs.size=D at *
 generalize ZV:upd H2 D (.lst [])=H3 at *
 generalize ZW:m1++[D]=m3 at *
 have R3:ay X.K m3 H3 (eT cs ρ) (mS cs σ):=(zm cs R).mono e3
 generalize hrr:eT cs ρ=ρc at *
 generalize hss:mS cs σ=σc at *
 refine wpAny_newFunctionEnv S.cell (λ_ z=>nomatch z) (λh4 UH QH=>?_) S.kind
 have Ic:=λE=>vP (E:=E) (tk:=s3.toks+([]:List (Str×adb)).length) S I3 f3 OU UH QH
 have UI:∀b o,s3.heap.get? b=some o->h4.get? b=some o:=λb o e=>(QH.2 b (aR (aF e))).trans (aK _ e)
 have t4:tn 0 h4:=T.keep _ _ _ t0 λb _ o e=>UI b o (QG b o e)
 let EX:adb->ada->Prop:=notedBy (model X.prog X.w) X.A (compEnvC scope (mh X.env scope.names []) s3.heap.objs.size X.env) λe s'=>adj (model X.prog X.w) X.A X.xe use Q (.ref D) s3.heap.objs.size (.error e) s'
 let Xc:=fR X scope x cs s3.heap.objs.size s3 H3 fp (X.pn++pins) EX
 have noted:∀{σ':St}{m:Mp}{H:Hp}{c:Str}{st:Hs},Ext X.K m1 H2 m H->res= .err c st->OQ Xc σ' m H c st:=λ_ er=>(hx _ _ er).elim
 have vis:Xc.env.scope.names.lookup x=some .local:=lookup_relabel_local S.var
 have MQ:∀(H':Hp),(∀b∈fp,H' b=none)->∀b∈fp,eK Xc [] H' b:=λH' hn b hb=>⟨hn b hb,aR (OU b hb),qu I3 (f3 b hb),.inl hb,λy c e=>(f3 b hb).2.2.2.2.1 y c (S.sub I3.ok e),λp hp=>(f2 b hb).2.2.2.2.2 p (by have QI:p∈(X.pn++pins)++[]:=hp;rw[gJ] at QI;exact QI)⟩
 let Pv:Nat->ada->Prop:=λk s'=>∃z H' st m',Inv Xc [] (z::σc) H' s'/\tn k s'.heap/\(∀b∈fp,H' b=none)/\Ext X.K m3 H3 m' H'/\bf X.K m' st H'/\ck st/\oJ ck (λw=>gt (some w::ρc)) (λw=>ge (some w::ρc)) st1.length (ws.drop k) st=res
 have loop:∀s4:ada,Pv 0 s4->adi (model X.prog X.w) X.A (.compLoop (.ListComp elt [⟨.Name x px,iter,ifs,0⟩] scope pos) 0 (.ref it) (.ref D) (compEnvC scope (mh X.env scope.names []) s3.heap.objs.size X.env)) (adj (model X.prog X.w) X.A X.xe use Q (.ref D) s3.heap.objs.size) s4:=λs4 p0=>by
  refine codeAny_compLoop_tests (λn s'=>∃k,n=ws.length - k/\k<=ws.length/\Pv k s') ?_ ws.length ⟨0,by simp,bq _,p0⟩
  rintro n s5 ⟨k,rfl,hk,z5,H5,tP,m5,I5,QJ,Lx,e5,S5,c5,aZ⟩
  have DT:=e3.trans e5
  by_cases hlt:k < ws.length
  ·refine bo (T.item Xc rfl rfl rfl (hY _ _ _ _ _ _ _ _ I3) k [] s5 (z5::σc) H5 _ I5 (MQ H5 Lx) QJ (hgo k H5 m5 tP DT S5 c5 hlt)) λr s6 h6=>?_
   obtain⟨u,rfl,h6⟩:=h6
   show adq (model X.prog X.w) X.A (pure () >>= λ_=>assign (.Name x px) Xc.env u) _ _ s6
   refine ads (bo h6 λ_ s7 h7=>?_)
   obtain⟨v,H7,I7,rv,yl,MR,UJ⟩:=h7
   obtain⟨rfl,QK⟩:=hy k hlt H5 v H7 m5 tP DT S5 c5 yl
   have UK:=I7.pinned (MQ H7 UJ) (T.obj _ _ MR)
   refine wpAny_assign_Name (pT (i:=0) UK S.nd rfl (.inl vis) rv (λs8 I8=>?_) (.inr vis))
   have Sz:Inv Xc ([]++dJ fp s7.heap) (some v::σc) H7 s8:=I8
   have R8:ay X.K m5 H7 (some ws[k]::ρc) (some v::σc):=by
    have R5:=R3.mono e5
    refine⟨by simp[R5.len],λi w e=>?_⟩
    cases i with
    | zero=>
     cases e
     exact⟨v,rfl,QK⟩
    | succ i=>exact R5.get i w e
   have ed:ws.drop k=ws[k]::ws.drop (k+1):=lQ hlt
   rw[ed] at aZ
   unfold oJ at aZ
   have back:∀{H':Hp}{s':ada}{m':Mp}{st:Hs},Inv Xc ([]++dJ fp s7.heap) (some v::σc) H' s'->Ext X.K m3 H3 m' H'->bf X.K m' st H'->ck st->oJ ck (λw=>gt (some w::ρc)) (λw=>ge (some w::ρc)) st1.length (ws.drop (k+1)) st=res->∃n',n' < ws.length - k/\∃k',n'=ws.length - k'/\k'<=ws.length/\Pv k' s' :=
    λ{H' s' m' st} I' e' S' c' r'=>⟨ws.length - (k+1),by omega,k+1,rfl,hlt,some v,H',st,m',I'.jT,T.keep _ _ _ MR λb hb o e=>(I'.pin (b,o) (dq _ (dq _ (fk hb e)))).1,λb hb=>by
     obtain⟨o,e,_⟩:=T.obj _ _ MR b hb
     exact(I'.pin (b,o) (dq _ (dq _ (fk hb e)))).2.1,e',S',c',r'⟩
   cases eg:gt (some ws[k]::ρc) tP with
   | err c Ce=>
    rw[eg] at aZ
    refine adv (hT s3.heap.objs.size s3 H3 (X.pn++pins) EX (hH.at I3) (some ws[k]::ρc) tP (some v::σc) H7 m5 (λ_ _=>False) S5 R8 (by rw[eg];exact noted DT aZ.symm) ([]++dJ fp s7.heap) s8 Sz) (λ_ _ h9=>?_) λ_ _ z=>z
    obtain⟨_,_,z⟩:=h9
    exact z.elim
   | bad=>rw[eg] at aZ;exact absurd aZ.symm nb
   | ok b Ce=>
    rw[eg] at aZ
    have J2:=hT s3.heap.objs.size s3 H3 (X.pn++pins) EX (hH.at I3) (some ws[k]::ρc) tP (some v::σc) H7 m5 (λb' H'=>b'=b/\∃m',Ext X.K m5 H7 m' H'/\bf X.K m' Ce H') S5 R8 (by rw[eg];exact λm' H' e' S'=>⟨rfl,m',e',S'⟩) ([]++dJ fp s7.heap) s8 Sz
    refine adv J2 (λok s9 h9=>?_) λ_ _ z=>z
    obtain⟨H9,I9,rfl,m9,e9,S9⟩:=h9
    cases ok with
    | false=>
     dsimp only at aZ
     by_cases c6:ck Ce
     ·rw[if_pos c6] at aZ
      rw[if_neg cR]
      exact back I9 (e5.trans e9) S9 c6 aZ
     ·rw[if_neg c6] at aZ;exact absurd aZ.symm nb
    | true=>
     dsimp only at aZ
     rw[if_pos rfl]
     cases ee:ge (some ws[k]::ρc) Ce with
     | err c Ii=>
      rw[ee] at aZ
      refine adv (hE s3.heap.objs.size s3 H3 (X.pn++pins) EX (hH.at I3) (some ws[k]::ρc) Ce (some v::σc) H9 m9 (λ_ _=>False) S9 (R8.mono e9) (by rw[ee];exact noted (DT.trans e9) aZ.symm) ([]++dJ fp s7.heap) s9 I9) (λ_ _ QL=>?_) λ_ _ z=>z
      obtain⟨_,_,_,_,z⟩:=QL
      exact z.elim
     | bad=>rw[ee] at aZ;exact absurd aZ.symm nb
     | ok w Ii=>
      rw[ee] at aZ
      dsimp only at aZ
      cases ea:oZ (.ref st1.length) w Ii with
      | err c MS=>rw[ea] at aZ;exact absurd aZ.symm nb
      | bad=>rw[ea] at aZ;exact absurd aZ.symm nb
      | ok w2 MS=>
       rw[ea] at aZ
       dsimp only at aZ
       by_cases c8:ck MS
       ·rw[if_pos c8] at aZ
        have el:=hE s3.heap.objs.size s3 H3 (X.pn++pins) EX (hH.at I3) (some ws[k]::ρc) Ce (some v::σc) H9 m9 (λv' H'=>∃m',Ext X.K m9 H9 m' H'/\bf X.K m' Ii H'/\ah X.K m' H' w v') S9 (R8.mono e9) (by rw[ee];exact λv' m' H' e' S' r'=>⟨m',e',S',r'⟩) ([]++dJ fp s7.heap) s9 I9
        refine adv el (λu2 UL QL=>?_) λ_ _ z=>z
        obtain⟨v2,DU,UM,r2,MT,SD,UN,MU⟩:=QL
        obtain⟨r,h1,h2⟩:=xD (X:=Xc)
        have eA:=(e5.trans e9).trans SD
        have ro:ah X.K MT DU (.ref st1.length) (.ref D):=by unfold ah;exact⟨D,rfl,eA.pre _ _ Ih⟩
        have rd:=h2 (.ref st1.length) w (.ref D) v2 Ii DU MT (λ_ H'=>∃m',Ext X.K MT DU m' H'/\bf X.K m' MS H') UN ro MU (by rw[ea];exact λv' m' H' e' S' r'=>⟨m',e',S'⟩)
        refine adv (h1 ([]++dJ fp s7.heap) UL (some v::σc) DU (.ref D) [v2] (.ref D) [u2] _ UM rfl (.cons r2 .nil) rd) (λ_ ZX h11=>?_) λ_ _ z=>z
        obtain⟨_,UO,UP,_,ZY,SF,UQ⟩:=h11
        exact back UP (eA.trans SF) UQ c8 aZ
       ·rw[if_neg c8] at aZ;exact absurd aZ.symm nb
  ·have ek:k=ws.length:=by omega
   subst ek
   refine bo (T.done Xc rfl rfl rfl (hY _ _ _ _ _ _ _ _ I3) _ [] s5 (z5::σc) H5 _ I5 (MQ H5 Lx) QJ (hstop _ H5 m5 tP DT S5 c5 rfl)) λr s6 h6=>?_
   obtain⟨rfl,I6⟩:=h6
   rw[nN] at aZ
   obtain⟨mm,UR,_⟩:=id I6.loc
   have fC:=I3.tN (H':=H5) (aq _) I6.free
   exact fin tP aZ.symm D _ mm m5 H5 _ DT S5 (e5.pre _ _ Ih) (DP I3 f3 I6) fC UR fC.2.2.2.2.1
 have p0:Pv 0 { s3 with heap:=h4,toks:=s3.toks+([]:List (Str×adb)).length }:=⟨none,H3,st1++[Ob.lst []],m3,hss ▸ Ic EX,t4,λb hb=>(f3 b hb).1,Ext.refl,S3,hck,by rw[jc];exact run⟩
 exact codeAny_compStart_list (loop _ p0) (T.self X.A 0 _ _ _ t4 (loop _ p0))
end
abbrev Wk:=Option Nat×List Wv
def jd(w:Wk)(st:Hs):Prop:=match w.1 with
 | some l=>av st l=some w.2
 | none=>True
structure vR(X:Cx)(w:Wk)(m1:Mp)(H1:Hp)(J':It):Prop where
 go:∀(k:Nat)(H:Hp)(m':Mp)(st:Hs),Ext X.K m1 H1 m' H->bf X.K m' st H->jd w st->k < w.2.length->J'.go k H
 stop:∀(k:Nat)(H:Hp)(m':Mp)(st:Hs),Ext X.K m1 H1 m' H->bf X.K m' st H->jd w st->k=w.2.length->J'.stop k H
 vh:∀(k:Nat)(hk:k < w.2.length)(H:Hp)(v:V)(H':Hp)(m':Mp)(st:Hs),Ext X.K m1 H1 m' H->bf X.K m' st H->jd w st->J'.vh k H v H'->H'=H/\ah X.K m' H w.2[k] v
abbrev GI:=bH->Hs->Re Wk
def US(Y:Cx->Prop)(X:Cx)(pins:List (ac5×Obj))(σ:St)(tg:Expr)(R:It->Hp->Prop)(itv:adb)(s2:ada):Prop :=
 ∃(it:ac5)(fp:List ac5)(tn:Nat->Heap->Prop)(J:It)(H':Hp),itv= .ref it/\Inv X pins σ H' s2/\DR Y X.prog X.w X.K tg J fp it tn/\tn 0 s2.heap/\(∀b∈fp,eK X pins H' b)/\R J H'
def XQ(Y:Cx->Prop)(X:Cx)(tg iter:Expr)(wi:TI):Prop:=∀(pins:List (ac5×Obj))(s:ada)(σ:St)(H:Hp)(R:It->Hp->Prop),Inv X pins σ H s->wi σ H R->
 adq (model X.prog X.w) X.A (eval iter X.env) (λv s1=>adq (model X.prog X.w) X.A (pyIter v) (US Y X pins σ tg R) X.xe s1) X.xe s
theorem _root_.L2.PI.y{X:Cx}{tg iter:Expr}{wi:TI}(h:PI X tg iter wi):XQ Calm X tg iter wi:=λpins s σ H R I q=>bo (h pins s σ H R I q) λ_ _ h1=>bo h1 λ_ _ h2=>
 let ⟨it,fp,tn,J,H',e,I',T,r⟩:=h2;⟨it,fp,tn,J,H',e,I',T.y,r⟩
def SG(Y:Cx->Prop)(X:Cx)(tg iter:Expr)(gi:GI):Prop:=∃wi,XQ Y X tg iter wi/\∀(ρ:bH)(st:Hs)(σ:St)(H:Hp)(m:Mp)(R:It->Hp->Prop),bf X.K m st H->ay X.K m H ρ σ->
 aw X σ m H (gi ρ st) (λw st1=>∀(m1:Mp)(H1:Hp)(J':It),Ext X.K m H m1 H1->bf X.K m1 st1 H1->jd w st1->vR X w m1 H1 J'->R J' H1)->wi σ H R
def JI(X:Cx)(tg iter:Expr)(gi:GI):Prop:=∃wi,PI X tg iter wi/\∀(ρ:bH)(st:Hs)(σ:St)(H:Hp)(m:Mp)(R:It->Hp->Prop),bf X.K m st H->ay X.K m H ρ σ->
 aw X σ m H (gi ρ st) (λw st1=>∀(m1:Mp)(H1:Hp)(J':It),Ext X.K m H m1 H1->bf X.K m1 st1 H1->jd w st1->vR X w m1 H1 J'->R J' H1)->wi σ H R
theorem JI.y{X:Cx}{tg iter:Expr}{gi:GI}(h:JI X tg iter gi):SG Calm X tg iter gi:=let ⟨wi,h1,h2⟩:=h;⟨wi,h1.y,h2⟩
def MV(w:Wv)(st:Hs):Re Wk:=match w with
 | .ref l=>(match av st l with | some ws=> .ok (some l,ws) st | none=> .bad)
 | .tup ws=> .ok (none,ws) st
 | .oV ws=> .ok (none,ws) st
 | _=> .bad
def DV(g:GE):GI:=λρ st=>(g ρ st).bind MV
section
variable {X:Cx}
theorem MW{tg iter:Expr}{g:GE}(h:JE X iter g):JI X tg iter (DV g):=by
 refine⟨_,DB aM,λρ st σ H m Q S R p=>?_⟩
 refine h.go S R (aw.bind p) λw st1 v m1 H1 p1 e1 S1 rw'=>?_
 cases w with
 | ref l=>
  unfold ah at rw'
  obtain⟨a,rfl,hla⟩:=rw'
  unfold MV at p1
  cases el:av st1 l with
  | none=>simp only[el] at p1;exact ae p1
  | some ws=>
   simp only[el] at p1
   obtain⟨Qw,q0,_⟩:=S1.read hla el
   refine⟨a,rfl,.inl ⟨⟨Qw,q0⟩,p1 m1 H1 _ e1 S1 el ⟨λk H' m' st' e S' c hk=>?_,λk H' m' st' e S' c hk=>?_,λk hk H' v UT m' st' e S' c y=>?_⟩⟩⟩
   ·obtain⟨xs,hq,rws⟩:=S'.read (e.pre _ _ hla) c
    have hx':k < xs.length:=by rw[<-rws.length];exact hk
    exact⟨xs,xs[k],hq,by simp[hx']⟩
   ·obtain⟨xs,hq,rws⟩:=S'.read (e.pre _ _ hla) c
    exact⟨xs,hq,by rw[<-rws.length,hk];exact aq _⟩
   ·obtain⟨xs,hq,rws⟩:=S'.read (e.pre _ _ hla) c
    obtain⟨ee,y⟩:=y
    refine⟨ee,?_⟩
    obtain⟨x',ex',oY⟩:=rws.get (i:=k) (w:=ws[k]) (fm hk)
    rw[y xs hq] at ex'
    cases ex'
    exact oY
 | tup ws=>
  unfold ah at rw'
  obtain⟨a,xs,rfl,hq,rws⟩:=rw'
  refine⟨a,rfl,.inr ⟨⟨xs,eJ.of hq⟩,p1 m1 H1 _ e1 S1 trivial ⟨λk H' m' st' e S' c hk=>?_,λk H' m' st' e S' c hk=>?_,λk hk H' v UT m' st' e S' c y=>?_⟩⟩⟩
  ·have hx':k < xs.length:=by rw[<-rws.length];exact hk
   exact⟨xs,xs[k],eJ.of (e.tup _ _ hq),by simp[hx']⟩
  ·exact⟨xs,eJ.of (e.tup _ _ hq),by rw[<-rws.length,hk];exact aq _⟩
  ·obtain⟨ee,y⟩:=y
   refine⟨ee,?_⟩
   obtain⟨x',ex',oY⟩:=(ai.mono e _ _ rws).get (i:=k) (w:=ws[k]) (fm hk)
   rw[y xs (eJ.of (e.tup _ _ hq))] at ex'
   cases ex'
   exact oY
 | oV ws=>
  unfold ah at rw'
  obtain⟨a,xs,rfl,hq,rws⟩:=rw'
  refine⟨a,rfl,.inr ⟨⟨xs,.inr hq⟩,p1 m1 H1 _ e1 S1 trivial ⟨λk H' m' st' e S' c hk=>?_,λk H' m' st' e S' c hk=>?_,λk hk H' v UT m' st' e S' c y=>?_⟩⟩⟩
  ·have hx':k < xs.length:=by rw[<-rws.length];exact hk
   exact⟨xs,xs[k],.inr hq,by simp[hx']⟩
  ·exact⟨xs,.inr hq,by rw[<-rws.length,hk];exact aq _⟩
  ·obtain⟨ee,y⟩:=y
   refine⟨ee,?_⟩
   obtain⟨x',ex',oY⟩:=(ai.mono e _ _ rws).get (i:=k) (w:=ws[k]) (fm hk)
   rw[y xs (.inr hq)] at ex'
   cases ex'
   exact oY
 | _=>exact ae p1
theorem DW{lo:Int}{n:Nat}{m1:Mp}{H1:Hp}:vR X (none,bO lo n) m1 H1 (JQ lo n) where
 go:=λk H m' st e S c hk=>by
  have:(bO lo n).length=n:=b9
  have hk':k < (bO lo n).length:=hk
  rw[this] at hk';exact hk'
 stop:=λk H m' st e S c hk=>by
  have:(bO lo n).length=n:=b9
  have hk':k=(bO lo n).length:=hk
  rw[this] at hk';exact mO hk'.symm
 vh:=λk hk H v H' m' st e S c y=>by
  obtain⟨y1,y2⟩:=y
  refine⟨y1,?_⟩
  have q:(bO lo n)[k]'hk= .int (lo+k):=vM hk
  show ah X.K m' H ((bO lo n)[k]'hk) v
  rw[q,y2]
  exact mkInt
def vS(ws:List Wv)(st:Hs):Re Wk:=match ws with
 | [.int j]=>if cg j then .ok (none,bO 0 j.toNat) st else .bad
 | _=> .bad
def zq(ws:List Wv)(st:Hs):Re Wk:=match ws with
 | [.int a,.int j]=>if cg a/\cg j then .ok (none,bO a (j - a).toNat) st else .bad
 | _=> .bad
def Ij(g:GA):GI:=λρ st=>(g ρ st).bind vS
def DX(g:GA):GI:=λρ st=>(g ρ st).bind zq
theorem QM{tg a:Expr}{ga:GA}{p q:Pos}(hg:Gl X "range")(hm:X.mg "range"=none)(ha:JA X [a] ga)(hst:adp [a] X.env=[(false,eval a X.env)]):JI X tg (.Call (.Name "range" p) [a] [] q) (Ij ga):=by
 refine⟨_,sv hg hm iT hst,λρ st σ H m Q S R p=>?_⟩
 refine ha.go S R (aw.bind p) λws st1 vs m1 H1 p1 e1 S1 rs=>?_
 match ws,rs,p1 with
 | [],rs,p1=>exact ae p1
 | x::y::t,rs,p1=>cases x<;>exact ae p1
 | [x],rs,p1=>
  obtain⟨v,rfl,r1⟩:=ui rs
  cases x with
  | int j=>
   cases aI r1
   unfold vS at p1
   by_cases c:cg j
   ·simp only[if_pos c] at p1
    exact⟨j,rfl,c.1,c.2,p1 m1 H1 _ e1 S1 trivial DW⟩
   ·simp only[if_neg c] at p1;exact ae p1
  | _=>exact ae p1
theorem QN{tg a b:Expr}{ga:GA}{p q:Pos}(hg:Gl X "range")(hm:X.mg "range"=none)(ha:JA X [a,b] ga)(hst:adp [a,b] X.env=[(false,eval a X.env),(false,eval b X.env)])(MH:adp [b] X.env=[(false,eval b X.env)]):JI X tg (.Call (.Name "range" p) [a,b] [] q) (DX ga):=by
 refine⟨_,sx hg hm iT hst MH,λρ st σ H m Q S R p=>?_⟩
 refine ha.go S R (aw.bind p) λws st1 vs m1 H1 p1 e1 S1 rs=>?_
 match ws,rs,p1 with
 | [],rs,p1=>exact ae p1
 | [x],rs,p1=>cases x<;>exact ae p1
 | x::y::z::t,rs,p1=>cases x<;>cases y<;>exact ae p1
 | [x,y],rs,p1=>
  obtain⟨v,v',rfl,r1,r2⟩:=rL rs
  cases x with
  | int a=>
   cases y with
   | int j=>
    cases aI r1;cases aI r2
    unfold zq at p1
    by_cases c:cg a/\cg j
    ·simp only[if_pos c] at p1
     exact⟨a,j,rfl,⟨c.1.1,c.1.2,c.2.1,c.2.2⟩,p1 m1 H1 _ e1 S1 trivial DW⟩
    ·simp only[if_neg c] at p1;exact ae p1
   | _=>exact ae p1
  | _=>cases y<;>exact ae p1
def zr:GI:=λ_ _=> .bad
theorem vT{tg iter:Expr}:PI X tg iter (λ_ _ _=>False):=λ_ _ _ _ _ _ h=>h.elim
theorem xF{tg iter:Expr}:JI X tg iter zr:=⟨_,vT,λρ st σ H m Q S R p=>p⟩
def dU(cs:dN)(gt:GT)(ge:GE)(ρ:bH)(w:Wk)(st:Hs):Re Wv:=match iX (jd w) (λv=>gt (some v::eT cs ρ)) (λv=>ge (some v::eT cs ρ)) st.length w.2 (st++[.lst []]) with
 | some mi=> .ok (.ref st.length) mi
 | none=> .bad
def j7(cs:dN)(gi:GI)(gt:GT)(ge:GE):GE:=λρ st=>(gi ρ st).bind λw st1=>dU cs gt ge ρ w st1
theorem sR{st:Hs}{l:Nat}{ws:List Wv}{more:Hs}(h:av st l=some ws):av (st++more) l=some ws:=by
 unfold av at h ⊢
 cases e:st[l]? with
 | none=>rw[e] at h;cases h
 | some o=>
  have hl:=(List.getElem?_eq_some_iff.mp e).1
  rw[eO hl,e]
  rw[e] at h
  exact h
theorem qv{w:Wk}{st more:Hs}(h:jd w st):jd w (st++more):=by
 obtain⟨o,ws⟩:=w
 cases o with
 | none=>trivial
 | some l=>exact sR h
theorem zt{scope:Scope}{x:Str}{cs:dN}{px pos:Pos}{elt iter:Expr}{ifs:List Expr}{gi:GI}{gt:GT}{ge:GE}{use:Option (adb->Sem Unit)}{Q:adb->ada->Prop}{P:Wv->Hs->Prop}
  {ρ:bH}{st:Hs}{σ:St}{H:Hp}{m:Mp}{pins:List (ac5×Obj)}{s:ada}{ps:Pos}
  {Y:Cx->Prop}(fr:DQ X)(CS:eD X scope x cs)(hc:QE Y X)(hH:MJ X)(hi:SG Y X (.Name x px) iter gi)(hE:∀C s0 H0 fp pn E,Bh X.A H0->JE (fR X scope x cs C s0 H0 fp pn E) elt ge)(hT:∀C s0 H0 fp pn E,Bh X.A H0->Bi (fR X scope x cs C s0 H0 fp pn E) ifs gt)(hs:∀x,adl iter X.env x=pure x)
  (S:bf X.K m st H)(R:ay X.K m H ρ σ)(I:Inv X pins σ H s)(p:aw X σ m H (j7 cs gi gt ge ρ st) P)
  (fin:∀(w:Wv)(mi:Hs)(v:V)(D C:ac5)(mm:Str->Option adb)(m':Mp)(H':Hp)(s':ada),P w mi->Ext X.K m H m' H'->bf X.K m' mi H'->ah X.K m' H' w v->v= .ref D->Inv X pins σ H' s'->eK X pins H' C->s'.heap.Ns C mm->adj (model X.prog X.w) X.A X.xe use Q (.ref D) C (.ok .next) s') :
  adq (model X.prog X.w) X.A (comprehension (.ListComp elt [⟨.Name x px,iter,ifs,0⟩] scope pos) scope X.env ps (newList []) false (eval iter X.env) use) Q X.xe s:=by
 obtain⟨wi,QO,hw⟩:=hi
 let R':It->Hp->Prop:=λJ' H1=>∃(w:Wk)(st1:Hs)(m1:Mp),aw X σ m H (dU cs gt ge ρ w st1) P/\Ext X.K m H m1 H1/\bf X.K m1 st1 H1/\jd w st1/\vR X w m1 H1 J'
 have hr:=hw ρ st σ H m R' S R ((aw.bind p).imp Ext.refl λw st1 q m1 H1 J' e1 S1 c1 uu=>⟨w,st1,m1,q,e1,S1,c1,uu⟩)
 refine wpAny_comprehension_free (g:=⟨.Name x px,iter,ifs,0⟩) (gs:=[]) (cl:=mh X.env scope.names []) rfl hs (zk (CS.has I.ok)) CS.kind (λy hy e=>by rw[CS.look y hy,e]) (bo (QO pins s σ H R' I hr) λv s1 h1=>bo h1 λitv s2 h2=>?_)
 obtain⟨it,fp,tn,J',H1,rfl,I2,T,t0,f2,w,st1,m1,q,e1,S1,c1,uu⟩:=h2
 unfold dU at q
 cases run:iX (jd w) (λv=>gt (some v::eT cs ρ)) (λv=>ge (some v::eT cs ρ)) st1.length w.2 (st1++[.lst []]) with
 | none=>
  rw[run] at q
  exact ae q
 | some mi=>
  rw[run] at q
  refine xE (use:=use) (Q:=Q) fr CS hc hH I2 T t0 f2 S1 (R.mono e1) (qv c1) (qt _ _ run) (by intro z;cases z) (λc' ZZ z=>by cases z) (λC s0 H0 pn E=>hE C s0 H0 fp pn E) (λC s0 H0 pn E=>hT C s0 H0 fp pn E) uu.go uu.stop uu.vh ?_
  intro Z9 z D C mm m' H' s' e' S' Ih I' fC ns _
  cases z
  exact fin _ mi (.ref D) D C mm m' H' s' q (e1.trans e') S' (by unfold ah;exact⟨D,rfl,Ih⟩) rfl I' fC ns
theorem zu{scope:Scope}{x:Str}{cs:dN}{px pos:Pos}{elt iter:Expr}{ifs:List Expr}{gi:GI}{gt:GT}{ge:GE}
  {Y:Cx->Prop}(fr:DQ X)(CS:eD X scope x cs)(hc:QE Y X)(hH:MJ X)(hi:SG Y X (.Name x px) iter gi)(hE:∀C s0 H0 fp pn E,Bh X.A H0->JE (fR X scope x cs C s0 H0 fp pn E) elt ge)(hT:∀C s0 H0 fp pn E,Bh X.A H0->Bi (fR X scope x cs C s0 H0 fp pn E) ifs gt)(hs:∀x,adl iter X.env x=pure x) :
  JE X (.ListComp elt [⟨.Name x px,iter,ifs,0⟩] scope pos) (j7 cs gi gt ge):=λρ st σ H m Q S R p pins s I=>by
 rw[eval_ListComp]
 refine zt (use:=none) fr CS hc hH hi hE hT hs S R I p ?_
 intro w mi v D C mm m' H' s' q e' S' rw' ev I' fC ns
 exact⟨mm,ns,λh' same=>⟨.ref D,H',kR I' fC same,rfl,ev ▸ q v m' H' e' S' rw'⟩⟩
theorem Ik(i:Nat){scope:Scope}{x y:Str}{cs:dN}{px pos spos py:Pos}{elt iter:Expr}{ifs:List Expr}{gi:GI}{gt:GT}{ge:GE}(hN:X.N.Nodup)
  {Y:Cx->Prop}(fr:DQ X)(CS:eD X scope x cs)(hc:QE Y X)(hH:MJ X)(hi:SG Y X (.Name x px) iter gi)(hE:∀C s0 H0 fp pn E,Bh X.A H0->JE (fR X scope x cs C s0 H0 fp pn E) elt ge)(hT:∀C s0 H0 fp pn E,Bh X.A H0->Bi (fR X scope x cs C s0 H0 fp pn E) ifs gt)(hs:∀x,adl iter X.env x=pure x)
  (hx:X.N[i]? =some y)(hl:Loc X.env.scope y)(hf:X.fn y=true\/X.env.scope.names.lookup y=some .local) :
  JS X (.Assign [.Name y py] (.ListComp elt [⟨.Name x px,iter,ifs,0⟩] scope pos) spos) (aY i (j7 cs gi gt ge)):=by
 have sw:∃b,swapsWith (.ListComp elt [⟨.Name x px,iter,ifs,0⟩] scope pos) (some (.Name y py)) spos.line X.env=pure b:=⟨_,rfl⟩
 obtain⟨b,sw⟩:=sw
 cases b with
 | false=>exact uj i hN (zu fr CS hc hH hi hE hT hs) hx hl sw hf
 | true=>
  intro ρ st σ H m D S R p pins s I
  rw[exec_Assign_Name_used _ _ _ _ sw]
  refine ads (wpAny_standAt (ads ?_))
  show adq _ X.A (do let _ <-comprehension (.ListComp elt [⟨.Name x px,iter,ifs,0⟩] scope pos) scope X.env _ (newList []) false (eval iter X.env) (some (assign (.Name y py) X.env))) _ _ s
  refine ads (adv (zt (use:=some (assign (.Name y py) X.env)) (Q:=λ_ s'=>SP X pins D .next s') fr CS hc hH hi hE hT hs S R I (aE.cF R p) ?_) (λ_ s' hq=>ady (ady hq)) λ_ _ e=>e)
  intro w mi v D' C mm m' H' s' q e' S' rw' ev I' fC ns
  refine wpAny_assign_Name (nD (i:=i) I' hN hx hl (show RelV v (.ref D') by rw[ev];rfl) (λs2 I2 h2=>?_) hf)
  obtain⟨a,sb,ha⟩:=h2
  have hca:C≠a:=by
   rcases ha with z | z
   ·rw[z];exact fC.2.1
   ·exact ax (fC.2.2.2.2.1 y a z)
  exact⟨mm,ns.sameBut sb hca,λh' same=>⟨_,_,kR I2 fC same,q _ m' H' e' S' ((R.mono e').set i rw')⟩⟩
end
section
variable {X:Cx}
def MX(n:Nat)(k:Int):Prop:=-(2 ^ 62)<=k/\k < 2 ^ 62/\n * k.toNat<=lim
instance {n k}:Decidable (MX n k):=DD _
def qw:f_
 | .ref l,.int n,st=>match st[l]? with
  | some (.lst ws)=>if MX ws.length n then .ok (.ref st.length) (st++[.lst (aJ n.toNat ws).flatten]) else .bad
  | _=> .bad
 | x,y,st=>Ka x y st
theorem sS{K:PySem.W.Frag}{m:Mp}{H:Hp}{ws:List Wv}{xs:List V}(r:ai K m H ws xs):∀n:Nat,ai K m H (aJ n ws).flatten (aJ n xs).flatten
 | 0=>ai.nil
 | n+1=>by
  rw[gW,p_,gW,p_]
  exact r.append (sS r n)
theorem Il:kM X (adg .Mult) qw:=by
 obtain⟨r,h1,h2⟩:=Ia (X:=X)
 refine⟨_,fB.or LV h1,λx y a b st H m Q S rx ry p=>?_⟩
 unfold qw at p
 split at p
 ·rename_i l n
  unfold ah at rx
  obtain⟨a1,rfl,hl⟩:=rx
  cases aI ry
  cases e:st[l]? with
  | none=>rw[e] at p;exact ae p
  | some o=>
   cases o with
   | dct kvs=>rw[e] at p;exact ae p
   | eQ kvs=>rw[e] at p;exact ae p
   | w5 kvs=>rw[e] at p;exact ae p
   | sI ns=>rw[e] at p;exact ae p
   | lst ws=>
    rw[e] at p
    dsimp only at p
    by_cases c:MX ws.length n
    ·rw[if_pos c] at p
     obtain⟨xs,q1,q2⟩:=S.mI hl e
     refine .inl ⟨a1,n,xs,rfl,rfl,q1,by have:=c.1;omega,by have:=c.2.1;omega,by rw[<-q2.length];exact eC c.2.2,λq hq=>?_⟩
     exact mL p Ext.refl S (sS q2 n.toNat) q hq
    ·rw[if_neg c] at p;exact ae p
 ·exact .inr (h2 x y a b st H m Q S rx ry p)
def gY:List Wv->Hs->Re Wv
 | [.ref l],st=>match av st l with
  | some ws=> .ok (.tup ws) st
  | none=> .bad
 | [.tup ws],st=> .ok (.tup ws) st
 | _,_=> .bad
theorem MY:dM X (.type "tuple") gY:=⟨_,rH,λws vs st H m Q S rs p=>by
 match ws,rs,p with
 | [],rs,p=>exact ae p
 | x::y::t,rs,p=>cases x<;>exact ae p
 | [x],rs,p=>
  obtain⟨v,rfl,r1⟩:=ui rs
  cases x with
  | ref l=>
   unfold gY at p
   unfold ah at r1
   obtain⟨a,rfl,hl⟩:=r1
   cases e:av st l with
   | none=>simp only[e] at p;exact ae p
   | some ws=>
    simp only[e] at p
    obtain⟨xs,q1,q2⟩:=S.read hl e
    refine⟨a,xs,rfl,.inl ⟨q1,λq hq=>?_⟩⟩
    have e2:Ext X.K m H m (upd H q (.tup xs)):=Ext.upd (.inl hq)
    exact p (.ref q) m _ e2 (S.fresh hq) (by unfold ah;exact⟨q,xs,rfl,aW,ai.mono e2 _ _ q2⟩)
  | tup ws=>
   have r1':=r1
   unfold ah at r1'
   obtain⟨a,xs,rfl,q1,q2⟩:=r1'
   exact⟨a,xs,rfl,.inr ⟨eJ.of q1,p _ m H Ext.refl S r1⟩⟩
  | _=>exact ae p⟩
end
end J
namespace JL
open PySem PyProof.Rows
def kn(p:adA):Int:=numOf p.1
section
variable {prog:ac9} {w:ade} {A:ac6} {E:adb->ada->Prop} {s:ada}
def gp(left:Bool)(key:adA)(arr:Array adA)(base i:Nat):Bool:=if left then decide (K arr (base+i) < kn key) else !decide (kn key < K arr (base+i))
end
section
variable {α:Type} {f:α->Int} {A B:List α}
structure Mg(f:α->Int)(A B out:List α)(ia ib:Nat):Prop where
 pm:out.Perm (A.take ia++B.take ib)
 so:out.Pairwise (f · <=f ·)
 la:∀p∈out,∀q∈A.drop ia,f p<=f q
 lb:∀p∈out,∀q∈B.drop ib,f p<=f q
theorem Mg.swap{out:List α}{ia ib:Nat}(h:Mg f A B out ia ib):Mg f B A out ib ia:=⟨h.pm.trans Im,h.so,h.lb,h.la⟩
theorem Mg.DY{out:List α}{ia ib:Nat}(h:Mg f A B out ia ib)(sa:A.Pairwise (f · <=f ·))(k:Nat)(hk:∀p∈(A.drop ia).take k,∀q∈B.drop ib,f p<=f q):Mg f A B (out++(A.drop ia).take k) (ia+k) ib:=by
 have sd:((A.drop ia).take k++(A.drop ia).drop k).Pairwise (f · <=f ·):=by rw[zv];exact sa.sublist (DZ _ _)
 rw[uv] at sd
 have e:A.take (ia+k)=A.take ia++(A.drop ia).take k:=List.take_add
 have mT:∀p∈(A.drop ia).take k,p∈A.drop ia:=λp hp=>(yR _ _).mem hp
 have mD:∀p∈(A.drop ia).drop k,p∈A.drop ia:=λp hp=>(DZ _ _).mem hp
 refine⟨?_,?_,?_,?_⟩
 ·rw[e]
  refine(h.pm.append_right _).trans ?_
  rw[nH,nH]
  exact List.perm_append_comm.append_left _
 ·rw[uv]
  exact⟨h.so,sd.1,λp hp q hq=>h.la p hp q (mT q hq)⟩
 ·intro p hp q hq
  rw[<-List.drop_drop] at hq
  rcases List.mem_append.mp hp with z | z
  ·exact h.la p z q (mD q hq)
  ·exact sd.2.2 p z q hq
 ·intro p hp q hq
  rcases List.mem_append.mp hp with z | z
  ·exact h.lb p z q hq
  ·exact hk p z q hq
theorem Mg.MZ{out:List α}{ia ib:Nat}(h:Mg f A B out ia ib)(sb:B.Pairwise (f · <=f ·))(k:Nat)(hk:∀q∈(B.drop ib).take k,∀p∈A.drop ia,f q<=f p):Mg f A B (out++(B.drop ib).take k) ia (ib+k) :=
 (h.swap.DY sb k hk).swap
theorem Mg.fin{out:List α}{ia ib:Nat}(h:Mg f A B out ia ib)(sa:A.Pairwise (f · <=f ·))(sb:B.Pairwise (f · <=f ·))(hk:∀p∈A.drop ia,∀q∈B.drop ib,f p<=f q):(out++A.drop ia++B.drop ib).Perm (A++B)/\(out++A.drop ia++B.drop ib).Pairwise (f · <=f ·):=by
 have tA:(A.drop ia).take A.length=A.drop ia:=pI (by rw[pw];exact Nat.sub_le _ _)
 have tB:(B.drop ib).take B.length=B.drop ib:=pI (by rw[pw];exact Nat.sub_le _ _)
 have h1:=h.DY sa A.length (by rw[tA];exact hk)
 have nA:A.drop (ia+A.length)=[]:=D0 (by exact zw _ _)
 have h2:=h1.MZ sb B.length (by rw[nA];intro _ _ _ z;cases z)
 rw[tA,tB] at h2
 have k1:A.take (ia+A.length)=A:=pI (by exact zw _ _)
 have k2:B.take (ib+B.length)=B:=pI (by exact zw _ _)
 have pm:=h2.pm
 rw[k1,k2] at pm
 exact⟨pm,h2.so⟩
end
abbrev SH(st:adB)(g:Nat):adB:=SortSt.mk' (kindOf st) (arrOf st) (pendingOf st) g (failedOf st)
def Up(l:List adA):Prop:=l.Pairwise (kn · <=kn ·)
def Fin'(a b:List adA)(r:Array adA):Prop:=r.toList.Perm (a++b)/\Up r.toList
theorem QP{a:Array adA}{i:Nat}{p:adA}(e:a[i]? =some p):K a i=kn p:=by unfold K;rw[e];rfl
section
variable {prog:ac9} {w:ade} {A:ac6} {E:adb->ada->Prop} {s:ada}
structure Lo(a b out:Array adA)(ia ib:Nat):Prop where
 mg:Mg kn a.toList b.toList out.toList ia ib
 ha:ia+1 < a.size
 hb:ib < b.size
abbrev Z_:=Option (Array adA)×Array adA×Nat×Nat×Nat×Nat×Nat
def XR(a b:Array adA)(st:adB)(n:Nat)(r:ForInStep Z_)(st':adB):Prop :=
 (∃g,st'=SH st g)/\match r with
 | .done c=>(∃r t,c=(some r,t)/\Fin' a.toList b.toList r)\/∃out ia ib mg ac bc,c=(none,out,ia,ib,mg,ac,bc)/\n<=ia+ib/\Lo a b out ia ib
 | .yield c=>∃out ia ib mg ac bc,c=(none,out,ia,ib,mg,ac,bc)/\n<=ia+ib/\Lo a b out ia ib
theorem XR.fin{a b:Array adA}{st:adB}{n g:Nat}{r:Array adA}{t:Array adA×Nat×Nat×Nat×Nat×Nat}(h:Fin' a.toList b.toList r):XR a b st n (.done (some r,t)) (SH st g):=⟨⟨g,rfl⟩,.inl ⟨r,t,rfl,h⟩⟩
end
section
variable {α:Type} {f:α->Int} {A B:List α}
structure Mh(f:α->Int)(A B R:List α)(na nb:Nat):Prop where
 pm:R.Perm (A.drop na++B.drop nb)
 so:R.Pairwise (f · <=f ·)
 la:∀q∈A.take na,∀p∈R,f q<=f p
 lb:∀q∈B.take nb,∀p∈R,f q<=f p
theorem Mh.swap{R:List α}{na nb:Nat}(h:Mh f A B R na nb):Mh f B A R nb na:=⟨h.pm.trans Im,h.so,h.lb,h.la⟩
theorem take_take{i n:Nat}(h:i<=n):A.take n=A.take i++(A.take n).drop i:=by
 have:=zv i (A.take n)
 rw[List.take_take,Nat.min_eq_left h] at this
 exact this.symm
theorem drop_take{i n:Nat}(h:i<=n):A.drop i=(A.take n).drop i++A.drop n:=by
 have h1:=zv n A
 have h2:=congrArg (List.drop i) h1
 rw[List.drop_append] at h2
 rw[<-h2]
 by_cases c:n<=A.length
 ·rw[mw,Nat.min_eq_left c,Io h,jc]
 ·rw[D0 (show A.length<=n by exact Nat.le_of_not_le ‹_›),List.drop_nil]
theorem Mh.DY{R:List α}{na nb:Nat}(h:Mh f A B R na nb)(sa:A.Pairwise (f · <=f ·))(k:Nat)(k1:k<=na)(hk:∀p∈(A.take na).drop k,∀q∈B.take nb,f q<=f p):Mh f A B ((A.take na).drop k++R) k nb:=by
 have e:=take_take (A:=A) k1
 have st:(A.take na).Pairwise (f · <=f ·):=sa.sublist (yR _ _)
 rw[e,uv] at st
 have mT:∀p∈(A.take na).drop k,p∈A.take na:=λp hp=>(DZ _ _).mem hp
 have mD:∀p∈A.take k,p∈A.take na:=λp hp=>by rw[e];exact tL _ hp
 refine⟨?_,?_,?_,?_⟩
 ·rw[drop_take (A:=A) k1,nH]
  exact h.pm.append_left _
 ·rw[uv]
  exact⟨st.2.1,h.so,λp hp q hq=>h.la p (mT p hp) q hq⟩
 ·intro q hq p hp
  rcases List.mem_append.mp hp with z | z
  ·exact st.2.2 q hq p z
  ·exact h.la q (mD q hq) p z
 ·intro q hq p hp
  rcases List.mem_append.mp hp with z | z
  ·exact hk p z q hq
  ·exact h.lb q hq p z
theorem Mh.MZ{R:List α}{na nb:Nat}(h:Mh f A B R na nb)(sb:B.Pairwise (f · <=f ·))(k:Nat)(k1:k<=nb)(hk:∀p∈(B.take nb).drop k,∀q∈A.take na,f q<=f p):Mh f A B ((B.take nb).drop k++R) na k :=
 (h.swap.DY sb k k1 hk).swap
theorem Mh.fin{R:List α}{na nb:Nat}(h:Mh f A B R na nb)(sa:A.Pairwise (f · <=f ·))(sb:B.Pairwise (f · <=f ·))(hk:∀p∈B.take nb,∀q∈A.take na,f q<=f p):(A.take na++B.take nb++R).Perm (A++B)/\(A.take na++B.take nb++R).Pairwise (f · <=f ·):=by
 have h1:=h.MZ sb 0 (bq _) (by rw[jc];exact hk)
 have h2:=h1.DY sa 0 (bq _) (by intro _ _ _ z;cases z)
 have pm:=h2.pm
 have so:=h2.so
 rw[jc,jc,<-nH] at so
 rw[jc,jc,jc,jc,<-nH] at pm
 exact⟨pm,so⟩
end
theorem zx{a:Array adA}(i n:Nat):(a.extract i n).toList=(a.toList.take n).drop i:=by
 rw[Array.toList_extract,List.extract_eq_take_drop,List.drop_take]
abbrev Z'(a b out:Array adA)(na nb:Nat):Prop:=Mh kn a.toList b.toList out.toList.reverse na nb
structure Hi(a b out:Array adA)(na nb:Nat):Prop where
 mg:Z' a b out na nb
 a0:1<=na
 a1:na<=a.size
 b0:2<=nb
 b1:nb<=b.size
section
variable {prog:ac9} {w:ade} {A:ac6} {E:adb->ada->Prop} {s:ada}
abbrev HiC:=Option (Array adA)×Nat×Nat×Array adA×Nat×Nat×Nat
def XS(a b:Array adA)(st:adB)(n:Nat)(r:ForInStep HiC)(st':adB):Prop :=
 (∃g,st'=SH st g)/\match r with
 | .done c=>(∃r t,c=(some r,t)/\Fin' a.toList b.toList r)\/∃na nb out mg ac bc,c=(none,na,nb,out,mg,ac,bc)/\na+nb<=n/\Hi a b out na nb
 | .yield c=>∃na nb out mg ac bc,c=(none,na,nb,out,mg,ac,bc)/\na+nb<=n/\Hi a b out na nb
theorem XS.fin{a b:Array adA}{st:adB}{n g:Nat}{r:Array adA}{t:Nat×Nat×Array adA×Nat×Nat×Nat}(h:Fin' a.toList b.toList r):XS a b st n (.done (some r,t)) (SH st g):=⟨⟨g,rfl⟩,.inl ⟨r,t,rfl,h⟩⟩
end
section
variable {prog:ac9} {w:ade} {A₀:ac6} {E:adb->ada->Prop} {s:ada}
end
def Sm(lo:Nat)(xs ys:Array adA):Prop:=ys.Perm xs/\∀i,i < lo->ys[i]? =xs[i]?
theorem Sm.refl{lo:Nat}{xs:Array adA}:Sm lo xs xs:=⟨.refl _,λ_ _=>rfl⟩
theorem Sm.trans{lo:Nat}{xs ys zs:Array adA}(h1:Sm lo xs ys)(h2:Sm lo ys zs):Sm lo xs zs:=⟨h2.1.trans h1.1,λi hi=>(h2.2 i hi).trans (h1.2 i hi)⟩
theorem Sm.size{lo:Nat}{xs ys:Array adA}(h:Sm lo xs ys):ys.size=xs.size:=h.1.size_eq
theorem Sm.mirror{lo i j:Nat}{xs:Array adA}(h:lo<=i)(hj:j<=xs.size):Sm lo xs (mirror xs i j ((j - i) / 2)) :=
 ⟨mirror_perm _ _ _ _,λk hk=>by rw[getElem?_mirror_all hj,if_neg (by omega)]⟩
def Ip(xs:Array adA)(lo n:Nat):Prop:=∀i j,i<=j->j < n->K xs (lo+i)<=K xs (lo+j)
def SI(xs:Array adA)(lo n:Nat):Prop:=∀i j,i<=j->j < n->K xs (lo+j)<=K xs (lo+i)
theorem Ip.step{xs:Array adA}{lo n:Nat}(h:Ip xs lo n)(h1:1<=n)(c:¬K xs (lo+n) < K xs (lo+n - 1)):Ip xs lo (n+1):=λi j hij hj=>by
 by_cases z:j < n
 ·exact h i j hij z
 ·have:j=n:=by omega
  subst this
  by_cases y:i=j
  ·subst y;exact xG _
  ·have:=h i (j - 1) (by omega) (by omega)
   rw[show lo+(j - 1)=lo+j - 1 by omega] at this
   omega
theorem SI.step{xs:Array adA}{lo n:Nat}(h:SI xs lo n)(h1:1<=n)(c:K xs (lo+n)<=K xs (lo+n - 1)):SI xs lo (n+1):=λi j hij hj=>by
 by_cases z:j < n
 ·exact h i j hij z
 ·have:j=n:=by omega
  subst this
  by_cases y:i=j
  ·subst y;exact xG _
  ·have:=h i (j - 1) (by omega) (by omega)
   rw[show lo+(j - 1)=lo+j - 1 by omega] at this
   exact qo ‹_› ‹_›
theorem Ip.one{xs:Array adA}{lo:Nat}:Ip xs lo 1:=λi j h1 h2=>by
 have:i=j:=by omega
 subst this;exact xG _
theorem Ip.turn{xs:Array adA}{lo n:Nat}(h:SI xs lo n)(hn:lo+n<=xs.size):Ip (mirror xs lo (lo+n) ((lo+n - lo) / 2)) lo n:=λi j h1 h2=>by
 rw[K_mirror hn,K_mirror hn,if_pos (by omega),if_pos (by omega)]
 have:=h (n - 1 - j) (n - 1 - i) (by omega) (by omega)
 rw[show lo+(lo+n) - 1 - (lo+i)=lo+(n - 1 - i) by omega,show lo+(lo+n) - 1 - (lo+j)=lo+(n - 1 - j) by omega]
 exact this
section
variable {prog:ac9} {w:ade} {A:ac6} {E:adb->ada->Prop} {s:ada} {P:Array (Nat×Nat×Nat)} {g:Nat}
end
section
variable {prog:ac9} {w:ade} {A:ac6} {E:adb->ada->Prop} {s:ada} {P:Array (Nat×Nat×Nat)} {g:Nat}
end
inductive Rn:Nat->List (Nat×Nat×Nat)->List adA->Prop
 | nil {s:Nat}:Rn s [] []
 | cons {s n p:Nat} {P:List (Nat×Nat×Nat)} {A X:List adA}:A.length=n->1<=n->Up A->Rn (s+n) P X->Rn s ((s,n,p)::P) (A++X)
theorem Rn.split:∀{pre r:List (Nat×Nat×Nat)}{s:Nat}{X:List adA},Rn s (pre++r) X->∃X1 X2,X=X1++X2/\Rn s pre X1/\Rn (s+X1.length) r X2
 | [],r,s,X,h=>⟨[],X,rfl,.nil,h⟩
 | a::pre,r,s,X,h=>by
  cases h with
  | cons h1 h2 h3 h4=>
   obtain⟨X1,X2,rfl,k1,k2⟩:=h4.split
   refine⟨_++X1,X2,(nH _ _ _).symm,.cons h1 h2 h3 k1,?_⟩
   rw[cW,h1,<-Nat.add_assoc]
   exact k2
theorem Rn.len:∀{P:List (Nat×Nat×Nat)}{s:Nat}{X:List adA},Rn s P X->P.length<=X.length
 | [],s,X,h=>bq _
 | a::P,s,X,h=>by
  cases h with
  | cons h1 h2 h3 h4=>
   have:=h4.len
   rw[cW,yY]
   omega
theorem Rn.few{P:List (Nat×Nat×Nat)}{s:Nat}{X:List adA}(h:Rn s P X)(l:P.length<=1):Up X:=by
 cases h with
 | nil=>exact .nil
 | cons h1 h2 h3 h4=>
  cases h4 with
  | nil=>rw[gJ];exact h3
  | cons _ _ _ _=>simp at l
section
variable {prog:ac9} {w:ade} {A₀:ac6} {E:adb->ada->Prop} {s:ada}
end
section
variable {prog:ac9} {w:ade} {A₀:ac6} {E:adb->ada->Prop} {s:ada}
theorem Ip.up{zs:Array adA}{lo n:Nat}(as:Ip zs lo n)(h:lo+n<=zs.size):Up ((zs.toList.drop lo).take n):=by
 unfold Up
 rw[List.pairwise_iff_getElem]
 intro i j hi hj hij
 rw[mw,pw] at hi hj
 have hz:zs.toList.length=zs.size:=rfl
 have:=as i j (by exact mq ‹_›) (by omega)
 rw[QP (QQ (by omega)),QP (QQ (by omega))] at this
 simpa using this
end
section
variable {prog:ac9} {w:ade} {A:ac6} {E:adb->ada->Prop} {s:ada}
end
end JL
namespace J
open PySem PySem.Spec PyProof.Rows L2
section
variable {X:Cx}
def intsOf:List Wv->Option (List Int)
  | []=>some []
  | .int b::r=>(match intsOf r with | some l=>some (b::l) | none=>none)
  | _=>none
theorem qx:∀ns:List Int,intsOf (ns.map Wv.int)=some ns
  | []=>rfl
  | n::r=>by rw[aL];unfold intsOf;rw[qx r]
theorem lS{K:PySem.W.Frag}{m:Mp}{H:Hp}:∀{ws:List Wv}{xs:List V}{bs:List Int},ai K m H ws xs->intsOf ws=some bs->xs=bs.map V.int
  | [],xs,bs,r,h=>by
    unfold ai at r
    cases h
    exact r
  | w::ws,xs,bs,r,h=>by
    unfold ai at r
    obtain⟨x,t,rfl,r1,r2⟩:=r
    cases w with
    | int b=>
      unfold intsOf at h
      cases e:intsOf ws with
      | none=>rw[e] at h;cases h
      | some l=>
        rw[e] at h
        cases h
        unfold ah at r1
        rw[r1,lS r2 e]
        rfl
    | _=>cases h
theorem qy:∀{ns:List Int}{its:List adb},Vals (ns.map V.int) its->∃xs:List (Int×Tok),its=xs.map (λp=>mj p.1 p.2)/\xs.map (·.1)=ns
  | [],its,r=>by cases r;exact⟨[],rfl,rfl⟩
  | n::ns,its,r=>by
    cases r with
    | cons h t=>
      obtain⟨tk,rfl⟩:=h
      obtain⟨xs,e1,e2⟩:=qy t
      exact⟨(n,tk)::xs,by rw[e1];rfl,by rw[<-e2];rfl⟩
theorem sT(xs:List (Int×Tok))(i:Nat):numAt xs.toArray i=(xs.map (·.1)).getD i 0:=by
  unfold numAt
  rw[List.getElem?_toArray,D3,i8]
theorem qz(xs:List (Int×Tok)):∀k,preSum (numAt xs.toArray) k=((xs.map (·.1)).take k).sum
  | 0=>by simp[preSum]
  | k+1=>by
    unfold preSum
    rw[qz xs k,sT]
    rw[PySem.sum_take_succ]
theorem Bj(hc:X.calm=true):eL X (.builtin "sum") (λxs H Q=>∃(p:ac5)(ns:List Int),xs=[.ref p]/\jN X.K H p (ns.map V.int)/\Q (.int ns.sum) H):=by
  intro pins s σ H xs us Q I r h
  obtain⟨p,ns,rfl,hq,q⟩:=h
  obtain⟨u,rfl,rx⟩:=vals1 r
  cases rx
  obtain⟨its,r',pl,hz⟩:=I.list hq
  obtain⟨xs,rfl,rfl⟩:=qy r'
  have hl:=pl.isList
  have e:(xs.map λp=>mj p.1 p.2).toArray=intItems xs.toArray:=by unfold intItems;simp
  rw[e] at hl
  refine sum_intListG (I.ok.hd hc) hl λh' tk t' hk=>⟨.int _,H,I.kept hk,⟨t',?_⟩,q⟩
  rw[qz,pI (by simp)]
def D4:List Wv->Hs->Re Wv
  | [.ref l],st=>match av st l with
    | some ws=>(match intsOf ws with | some ns=> .ok (.int ns.sum) st | none=> .bad)
    | none=> .bad
  | _,_=> .bad
theorem M3(hc:X.calm=true):dM X (.builtin "sum") D4:=⟨_,Bj hc,λws vs st H m Q S rs p=>by
  match ws,rs,p with
  | [],rs,p=>exact ae p
  | x::y::t,rs,p=>cases x<;>exact ae p
  | [x],rs,p=>
    obtain⟨v,rfl,r1⟩:=ui rs
    cases x with
    | ref l=>
      unfold D4 at p
      unfold ah at r1
      obtain⟨a,rfl,hl⟩:=r1
      cases e:av st l with
      | none=>simp only[e] at p;exact ae p
      | some ws=>
        simp only[e] at p
        cases e2:intsOf ws with
        | none=>simp only[e2] at p;exact ae p
        | some bs=>
          simp only[e2] at p
          obtain⟨xs,q1,q2⟩:=S.read hl e
          have q3:=lS q2 e2
          subst q3
          exact⟨a,bs,rfl,q1,p _ m H Ext.refl S mkInt⟩
    | _=>exact ae p⟩
def D5(n:Int)(r:List Int):Int:=r.foldl (λa b=>if b > a then b else a) n
theorem D6:∀(r:List Int)(n:Int),D5 n r∈n::r/\∀a∈n::r,a<=D5 n r
  | [],n=>by simp[D5]
  | b::r,n=>by
    have e:D5 n (b::r)=D5 (if b > n then b else n) r:=rfl
    obtain⟨h1,h2⟩:=D6 r (if b > n then b else n)
    rw[e]
    constructor
    · rcases List.mem_cons.mp h1 with z | z
      · rw[z];split<;>simp
      · simp[z]
    · intro a ha
      have hn:n<=D5 (if b > n then b else n) r/\b<=D5 (if b > n then b else n) r:=by
        have q:=h2 _ bu
        revert q
        split<;>intro q<;>constructor<;>omega
      rcases List.mem_cons.mp ha with z | z
      · rw[z];exact hn.1
      · rcases List.mem_cons.mp z with z | z
        · rw[z];exact hn.2
        · exact h2 a (aN _ z)
theorem QR{n M:Int}{r:List Int}(h:M∈n::r)(k:∀a∈n::r,a<=M):M=D5 n r:=by
  obtain⟨h1,h2⟩:=D6 r n
  have:=h2 M h
  have:=k _ h1
  omega
theorem Bk{l:List Int}{i:Nat}(h:i < l.length):l.getD i 0∈l:=by
  rw[D3,fm h]
  exact D7 h
theorem Bl(hc:X.calm=true):eL X (.builtin "max") (λxs H Q=>∃(p:ac5)(n:Int)(ns:List Int),xs=[.ref p]/\jN X.K H p ((n::ns).map V.int)/\Q (.int (D5 n ns)) H):=by
  intro pins s σ H xs us Q I r h
  obtain⟨p,n,ns,rfl,hq,q⟩:=h
  obtain⟨u,rfl,rx⟩:=vals1 r
  cases rx
  obtain⟨its,r',pl,hz⟩:=I.list hq
  obtain⟨xs,rfl,e0⟩:=qy r'
  have hl:=pl.isList
  have e:(xs.map λp=>mj p.1 p.2).toArray=intItems xs.toArray:=by unfold intItems;simp
  rw[e] at hl
  have hsz:xs.length=(n::ns).length:=by rw[<-e0];simp
  have hs0:0 < xs.toArray.size:=by simp[hsz]
  refine max_intList (I.ok.hd hc) hl hs0 λv h' tk hv hk=>?_
  obtain⟨t,rfl⟩:=intItems_at hv
  obtain⟨h1,h2⟩:=PySem.argBest_gt (numAt xs.toArray) (xs.toArray.size - 1)
  refine⟨.int _,H,I.kept hk,⟨t,?_⟩,q⟩
  congr 1
  have hn:=λi=>sT xs i
  rw[e0] at hn
  refine QR ?_ λa ha=>?_
  · rw[hn]
    refine Bk ?_
    have:xs.toArray.size=(n::ns).length:=by simp[hsz]
    omega
  · obtain⟨j,hj,rfl⟩:=List.mem_iff_getElem.mp ha
    have q2 := h2 j (by have : xs.toArray.size = (n :: ns).length := by simp [hsz]
                        omega)
    rw[hn j,D3,fm hj] at q2
    exact q2
def jK:List Wv->Hs->Re Wv
  | [.ref l],st=>match av st l with
    | some ws=>(match intsOf ws with | some (n::r)=> .ok (.int (D5 n r)) st | _=> .bad)
    | none=> .bad
  | ws,st=>QC ws st
def lE:List Wv->Hs->Re Wv:=λws st=>QD ws st
theorem dM.or{f:adb}{op op':List Wv->Hs->Re Wv}(g:List Wv->Hs->Re Wv)(h:dM X f op)(h':dM X f op')(k:∀ws st,g ws st=op ws st\/g ws st=op' ws st):dM X f g:=by
  obtain⟨r,h1,h2⟩:=h
  obtain⟨r',GD,h2'⟩:=h'
  refine⟨_,h1.or GD,λws vs st H m Q S rs p=>?_⟩
  rcases k ws st with e | e
  · rw[e] at p;exact .inl (h2 ws vs st H m Q S rs p)
  · rw[e] at p;exact .inr (h2' ws vs st H m Q S rs p)
def D8:List Wv->Hs->Re Wv
  | [.ref l],st=>match av st l with
    | some ws=>(match intsOf ws with | some (n::r)=> .ok (.int (D5 n r)) st | _=> .bad)
    | none=> .bad
  | _,_=> .bad
theorem Iq(hc:X.calm=true):dM X (.builtin "max") D8:=⟨_,Bl hc,λws vs st H m Q S rs p=>by
  match ws,rs,p with
  | [],rs,p=>exact ae p
  | x::y::t,rs,p=>cases x<;>exact ae p
  | [x],rs,p=>
    obtain⟨v,rfl,r1⟩:=ui rs
    cases x with
    | ref l=>
      unfold D8 at p
      unfold ah at r1
      obtain⟨a,rfl,hl⟩:=r1
      cases e:av st l with
      | none=>simp only[e] at p;exact ae p
      | some ws=>
        simp only[e] at p
        cases e2:intsOf ws with
        | none=>simp only[e2] at p;exact ae p
        | some bs=>
          cases bs with
          | nil=>simp only[e2] at p;exact ae p
          | cons n bs=>
            simp only[e2] at p
            obtain⟨xs,q1,q2⟩:=S.read hl e
            have q3:=lS q2 e2
            subst q3
            exact⟨a,n,bs,rfl,q1,p _ m H Ext.refl S mkInt⟩
    | _=>exact ae p⟩
theorem Ir(hc:X.calm=true):dM X (.builtin "max") jK:=dM.or jK (Iq hc) (MM hc) λws st=>by
  unfold jK D8
  split
  · exact .inl rfl
  · exact .inr rfl
theorem Iu(hc:X.calm=true):dM X (.builtin "min") lE:=MN hc
end
section
variable {X:Cx}
theorem sU{z:PySem.Str}:ba z=true↔∀c∈z.cps.toList,c < 1114112:=by
 unfold ba
 rw[Qr]
 constructor
 ·intro h c hc
  simpa using h c (Array.mem_toList_iff.mp hc)
 ·intro h c hc
  simpa using h c (Array.mem_toList_iff.mpr hc)
end
section
variable {X:Cx}
theorem M4:GC X (λx lo hi H Q=>∃z,x= .str z/\z.length<=ado/\Q (.str (kS z lo hi)) H):=by
 intro pins s σ H x v vl vu lo hi sl Q I rx hs pl pu h
 obtain⟨z,rfl,hz,q⟩:=h
 obtain⟨t,rfl⟩:=rx
 have fin:∀t' k,EP X pins σ Q (.str (kS z lo hi) t') { s with toks:=k }:=λt' k=>⟨.str _,H,I.tok k,⟨t',rfl⟩,q⟩
 refine⟨"str",_,PySem.F.slot_str_getitem.lookup,typeIs_str _ _ _,?_⟩
 have hl:=bp (Txt.slice_le z lo hi) hz
 cases pl with
 | none=>
  cases pu with
  | none=>exact wpAny_getItem_str_slice (l:=none) (u:=none) (st:=none) hs rfl (post_val_or_str ⟨hl,fin⟩)
  | int j tj=>exact wpAny_getItem_str_slice (l:=none) (u:=some (j,tj)) (st:=none) hs rfl (post_val_or_str ⟨hl,fin⟩)
 | int i ti=>
  cases pu with
  | none=>exact wpAny_getItem_str_slice (l:=some (i,ti)) (u:=none) (st:=none) hs rfl (post_val_or_str ⟨hl,fin⟩)
  | int j tj=>exact wpAny_getItem_str_slice (l:=some (i,ti)) (u:=some (j,tj)) (st:=none) hs rfl (post_val_or_str ⟨hl,fin⟩)
theorem Bm{z:PySem.Str}{lo hi:Option Int}{c:Nat}(h:c∈(kS z lo hi).cps.toList):c∈z.cps.toList:=by
 unfold kS at h
 split at h
 ·exact h
 ·simp only[List.mem_filterMap] at h
  obtain⟨i,_,e⟩:=h
  rw[Array.getElem?_eq_some_iff] at e
  obtain⟨hi,rfl⟩:=e
  exact Array.mem_toList_iff.mpr (Array.getElem_mem hi)
theorem vU{z:PySem.Str}{lo hi:Option Int}(h:ba z=true):ba (kS z lo hi)=true:=by
 rw[sU] at h ⊢
 exact λc hc=>h c (Bm hc)
end
section
open HT
theorem rN{prog:ac9}{w:ade}{A:ac6}{E:adb->ada->Prop}{s:ada}{t sl:ac5}{us:Array adb}{vl vu:adb}{lo hi:Option Int}{Q:adb->ada->Prop}(ht:IsTup s.heap t us)(hs:s.heap.IsSliceOf sl vl vu .none)(pl:IsPart vl lo)(pu:IsPart vu hi)
  (hw:dI us.size 0 lo=0/\dI us.size us.size hi=us.size)(h:Q (.ref t) s):adq (model prog w) A (getItem (.ref t) (.ref sl)) Q E s:=by
 obtain⟨os,o1,o2,o3⟩:=id hs
 have tys:s.TypeIs (.ref sl) "slice":=⟨os,o1,o2⟩
 unfold getItem;try with_reducible refine adu ?_
 first | refine ads (ady ?_) | skip
 refine ads (wpAny_sequenceKey ht.typeIs (by decide) ?_);refine ads (wpAny_callSpecial?_slot (name:=my "__getitem__") ht.typeIs tT (wpAny_call_entry tT ht.typeIs entry_tuple_getitem ?_ (args_tuple_getitem _ _)))
 show adq _ _ (LO (.ref t) >>= _) _ _ _;refine ads (tupleItemsOf_ ht ?_);refine ads (wpAny_typeOf tys ?_)
 rw[if_pos (by decide)];refine ads (iQ hs pl pu ?_)
 rw[hw.1,hw.2]
 have yes:((((0:Nat):Int)) == 0&&(1:Int) == 1&&(us.size - 0) == us.size)=true:=by simp
 show adq _ _ (if((((0:Nat):Int)) == 0&&(1:Int) == 1&&(us.size - 0) == us.size)=true then _ else _) _ _ s
 rw[if_pos yes]
 refine ads (m:=M5 _) ?_
 unfold M5
 refine ads (wpAny_typeOf ht.typeIs (ady ?_))
 rw[if_pos (by decide)]
 exact ads (wpAny_rule (ady ⟨_,rfl,ady h⟩))
end
section
variable {X:Cx}
def UU(K:PySem.W.Frag):V->Option Int->Option Int->Hp->VK->Prop:=λx lo hi H Q=>∃a xs,x= .ref a/\eJ K H a xs/\(HT.dI xs.length 0 lo=0/\HT.dI xs.length xs.length hi=xs.length)/\Q (.ref a) H
theorem D9:GC X (UU X.K):=by
 intro pins s σ H x v vl vu lo hi sl Q I rx hs pl pu h
 obtain⟨a,xs,rfl,hx,hw,q⟩:=h
 cases rx
 obtain⟨its,r,ht,hz⟩:=I.tuple hx
 have n:its.toArray.size=xs.length:=by rw[aO];exact r.length.symm
 exact⟨"tuple",_,PyProof.Rows.slot_tuple_getitem.lookup,ht.typeIs,rN ht hs pl pu (by rw[n];exact hw) ⟨.ref a,H,I,rfl,q⟩⟩
def dv(n:Nat)(lo hi:Option Int):Prop:=HT.dI n 0 lo=0/\HT.dI n n hi=n
instance {n:Nat}{lo hi:Option Int}:Decidable (dv n lo hi):=inferInstanceAs (Decidable (HT.dI n 0 lo=0/\HT.dI n n hi=n))
def vV(x:Wv)(lo hi:Option Int)(st:Hs):Re Wv:=match x with
 | .str z=>if z.length<=lim then .ok (.str (kS z lo hi)) st else .bad
 | .tup ws=>if dv ws.length lo hi then .ok (.tup ws) st else OT (.tup ws) lo hi st
 | x=>OT x lo hi st
def fD(ga:GE)(gl gh:GO):GE:=λρ st=>(ga ρ st).bind λx st1=>(gl ρ st1).bind λlo st2=>(gh ρ st2).bind λhi st3=>vV x lo hi st3
theorem Bn{a:Expr}{lo hi:Option Expr}{ga:GE}{gl gh:GO}{pos p2:Pos}(ha:JE X a ga)(hl:JO X lo gl)(hh:JO X hi gh):JE X (.Subscript a (.Slice lo hi none p2) pos) (fD ga gl gh):=by
 have hS:JE X (.Subscript a (.Slice lo hi none p2) pos) (λρ st=>(ga ρ st).bind λx st1=>(gl ρ st1).bind λlo st2=>(gh ρ st2).bind λhi st3=>match x with | .str z=>if z.length<=lim then .ok (.str (kS z lo hi)) st3 else .bad | _=> .bad):=by
  refine JE.of (pX M4 aM sJ sJ) λρ st σ H m Q S R p=>?_
  refine ha.go S R (aw.bind p) λx st1 v m1 H1 p1 e1 S1 rx=>?_
  refine hl.go S1 (R.mono e1) ((aw.bind p1).imp e1 λ_ _ q=>q) λl st2 m2 H2 p2 e2 S2=>?_
  refine hh.go S2 (R.mono (e1.trans e2)) ((aw.bind p2).imp (e1.trans e2) λ_ _ q=>q) λh st3 m3 H3 p3 e3 S3=>?_
  have xB:=e1.trans (e2.trans e3)
  cases x with
  | str z=>
   dsimp only at p3
   by_cases c:z.length<=lim
   ·rw[if_pos c] at p3
    unfold ah at rx
    obtain⟨rfl,hz⟩:=rx
    exact⟨z,rfl,eC c,p3 _ m3 H3 xB S3 (mkStr (vU hz))⟩
   ·rw[if_neg c] at p3;exact ae p3
  | _=>exact ae p3
 have hW:JE X (.Subscript a (.Slice lo hi none p2) pos) (λρ st=>(ga ρ st).bind λx st1=>(gl ρ st1).bind λlo st2=>(gh ρ st2).bind λhi st3=>match x with | .tup ws=>if dv ws.length lo hi then .ok (.tup ws) st3 else OT (.tup ws) lo hi st3 | _=> .bad):=by
  refine JE.of (pX (GC.or D9 CB) aM sJ sJ) λρ st σ H m Q S R p=>?_
  refine ha.go S R (aw.bind p) λx st1 v m1 H1 p1 e1 S1 rx=>?_
  refine hl.go S1 (R.mono e1) ((aw.bind p1).imp e1 λ_ _ q=>q) λl st2 m2 H2 p2 e2 S2=>?_
  refine hh.go S2 (R.mono (e1.trans e2)) ((aw.bind p2).imp (e1.trans e2) λ_ _ q=>q) λh st3 m3 H3 p3 e3 S3=>?_
  have xB:=e1.trans (e2.trans e3)
  cases x with
  | tup ws=>
   dsimp only at p3
   have oY:=ah.mono (e2.trans e3) _ _ rx
   unfold ah at oY
   obtain⟨a',xs,rfl,f1,f2⟩:=oY
   by_cases c:dv ws.length l h
   ·rw[if_pos c] at p3
    unfold dv at c
    rw[f2.length] at c
    exact .inl ⟨a',xs,rfl,eJ.of f1,c,p3 _ m3 H3 xB S3 (by unfold ah;exact⟨a',xs,rfl,f1,f2⟩)⟩
   ·rw[if_neg c] at p3
    unfold OT at p3
    dsimp only at p3
    unfold dv at c
    rw[if_neg c] at p3
    rw[f2.length] at c
    refine .inr ⟨a',xs,rfl,eJ.of f1,c,λq hq=>?_⟩
    have eU:Ext X.K m3 H3 m3 (L2.upd H3 q (.tup (rF xs l h))):=Ext.iR (.inl hq)
    exact p3 (.ref q) m3 _ (xB.trans eU) (S3.fresh hq) (by unfold ah;exact⟨q,_,rfl,L2.aW,ai.mono eU _ _ (uh f2)⟩)
  | _=>exact ae p3
 intro ρ st σ H m Q S R p
 unfold fD at p
 cases e1:ga ρ st with
 | bad=>rw[e1] at p;exact ae p
 | err c st1=>rw[e1] at p;exact vJ ha hl hh ρ st σ H m Q S R (by unfold xA;rw[e1];exact p)
 | ok x st1=>
  rw[e1] at p
  cases x with
  | str z=>exact hS ρ st σ H m Q S R (by dsimp only;rw[e1];exact p)
  | tup ws=>exact hW ρ st σ H m Q S R (by dsimp only;rw[e1];exact p)
  | _=>exact vJ ha hl hh ρ st σ H m Q S R (by unfold xA;rw[e1];exact p)
def rO:f_
 | .str i,.str j,st=> .ok (.bl (!(xc j i 0 j.length 1).isEmpty)) st
 | x,y,st=>Uz x y st
def uw:f_
 | .str i,.str j,st=> .ok (.bl (!(!(xc j i 0 j.length 1).isEmpty))) st
 | x,y,st=>xy x y st
theorem M6:kM X (adk .In) rO:=by
 obtain⟨r,h1,h2⟩:=Qq (X:=X)
 refine⟨_,fB.or AU h1,λx y a b st H m Q S rx ry p=>?_⟩
 unfold rO at p
 split at p
 ·rename_i i j
  unfold ah at rx ry
  obtain⟨rfl,_⟩:=rx
  obtain⟨rfl,_⟩:=ry
  exact .inl ⟨i,j,rfl,rfl,p _ m H Ext.refl S ja⟩
 ·exact .inr (h2 x y a b st H m Q S rx ry p)
theorem Bo:kM X (adk .NotIn) uw:=by
 obtain⟨r,h1,h2⟩:=De (X:=X)
 refine⟨_,fB.or tX h1,λx y a b st H m Q S rx ry p=>?_⟩
 unfold uw at p
 split at p
 ·rename_i i j
  unfold ah at rx ry
  obtain⟨rfl,_⟩:=rx
  obtain⟨rfl,_⟩:=ry
  exact .inl ⟨i,j,rfl,rfl,p _ m H Ext.refl S ja⟩
 ·exact .inr (h2 x y a b st H m Q S rx ry p)
end
open PySem PySem.Spec PyProof.Rows L2 PySem.W
section
variable {X:Cx}
end
section
variable {X:Cx}
end
section
variable {X:Cx}
end
def QS(x:Str):It:=⟨λi _=>i < x.cps.size,λi H v H'=>H'=H/\∃c,x.cps[i]? =some c/\v= .str ⟨#[c]⟩,λi _=>x.cps.size<=i⟩
theorem xH{P:ac9}{w:ade}{K:PySem.W.Frag}{tg:Expr}(x:Str)(t:Tok)(it:ac5):Turn P w K tg (QS x) [it] it (λi h=>h.IsStrIter it "str_ascii_iterator" x t i) where
 mem:=List.mem_singleton.mpr rfl
 obj:=λi h st b hb=>by
  cases List.mem_singleton.mp hb
  obtain⟨o,e,c,d⟩:=st
  exact⟨o,e,λv z=>by rw[d] at z;cases z⟩
 keep:=λi h h' st k=>let ⟨o,e,r⟩:=st;⟨o,k it (List.mem_singleton.mpr rfl) o e,r⟩
 item:=by
  intro X hP hw hK hc i pins s σ H E I hf st hg
  subst hP;subst hw;subst hK
  obtain⟨f0,f1,f2,f3,f4,f5⟩:=hf it (List.mem_singleton.mpr rfl)
  have hi:i < x.cps.size:=hg
  refine wpAny_pyNext_ascii_item st (c:=x.cps[i]) (by simp[hi]) λh' st' sb=>?_
  have I1:L2.Inv X pins σ H { s with heap:=h',toks:=s.toks+1 }:=I.turned (t':=s.toks+1) (λb o hb e=>sb.extBut b o hb e) f0 f1 f3 f4 f5
  obtain⟨o,e,c,d⟩:=id st'
  exact⟨_,rfl,sr (s:={ s with heap:=h',toks:=s.toks+1 }) e c d (by decide) ⟨.str ⟨#[x.cps[i]]⟩,H,I1,⟨_,rfl⟩,⟨rfl,_,by simp[hi],rfl⟩,st',λb hb=>(hf b hb).1⟩⟩
 done:=by
  intro X hP hw hK hc i pins s σ H E I hf st hg
  subst hP;subst hw;subst hK
  obtain⟨f0,f1,f2,f3,f4,f5⟩:=hf it (List.mem_singleton.mpr rfl)
  have hi:x.cps.size<=i:=hg
  exact wpAny_pyNext_ascii_end (I.ok.hd hc) st (by simp[hi]) λh' eb=>⟨rfl,I.turned (t':=s.toks) (λb o hb e=>eb b o hb e) f0 f1 f3 f4 f5⟩
 self:=λ_ _ _ _ _ st h=>wpAny_pyIter_striter_ascii st h
theorem Bp{P:ac9}{w:ade}{K:PySem.W.Frag}{tg:Expr}(x:Str)(t:Tok)(it:ac5):Turn P w K tg (QS x) [it] it (λi h=>h.IsStrIter it "str_iterator" x t i) where
 mem:=List.mem_singleton.mpr rfl
 obj:=λi h st b hb=>by
  cases List.mem_singleton.mp hb
  obtain⟨o,e,c,d⟩:=st
  exact⟨o,e,λv z=>by rw[d] at z;cases z⟩
 keep:=λi h h' st k=>let ⟨o,e,r⟩:=st;⟨o,k it (List.mem_singleton.mpr rfl) o e,r⟩
 item:=by
  intro X hP hw hK hc i pins s σ H E I hf st hg
  subst hP;subst hw;subst hK
  obtain⟨f0,f1,f2,f3,f4,f5⟩:=hf it (List.mem_singleton.mpr rfl)
  have hi:i < x.cps.size:=hg
  refine wpAny_pyNext_wide_item st (c:=x.cps[i]) (by simp[hi]) λh' st' sb=>?_
  have I1:L2.Inv X pins σ H { s with heap:=h',toks:=s.toks+1 }:=I.turned (t':=s.toks+1) (λb o hb e=>sb.extBut b o hb e) f0 f1 f3 f4 f5
  obtain⟨o,e,c,d⟩:=id st'
  exact⟨_,rfl,sr (s:={ s with heap:=h',toks:=s.toks+1 }) e c d (by decide) ⟨.str ⟨#[x.cps[i]]⟩,H,I1,⟨_,rfl⟩,⟨rfl,_,by simp[hi],rfl⟩,st',λb hb=>(hf b hb).1⟩⟩
 done:=by
  intro X hP hw hK hc i pins s σ H E I hf st hg
  subst hP;subst hw;subst hK
  obtain⟨f0,f1,f2,f3,f4,f5⟩:=hf it (List.mem_singleton.mpr rfl)
  have hi:x.cps.size<=i:=hg
  exact wpAny_pyNext_wide_end (I.ok.hd hc) st (by simp[hi]) λh' eb=>⟨rfl,I.turned (t':=s.toks) (λb o hb e=>eb b o hb e) f0 f1 f3 f4 f5⟩
 self:=λ_ _ _ _ _ st h=>wpAny_pyIter_striter_wide st h
section
variable {X:Cx}
theorem M7{tg l:Expr}{tl:TE}(hl:PE X l tl):PI X tg l (λσ H R=>tl σ H λv H1=>∃z,v= .str z/\R (QS z) H1):=by
 intro pins s σ H R I h
 refine bo (hl pins s σ H _ I h) λv s1 ⟨x,H1,I1,r1,z,e,q⟩=>?_
 subst e
 obtain⟨t,rfl⟩:=r1
 have frs:∀b∈[s1.heap.objs.size],eK X pins H1 b:=λb hb=>by
  cases List.mem_singleton.mp hb
  exact I1.tN (aq _) (I1.hok.fresh (aq _))
 cases ha:z.cps.all (· < 128)
 ·exact wpAny_pyIter_wide ha ⟨s1.heap.objs.size,[s1.heap.objs.size],_,_,H1,rfl,I1.kept (t':=s1.toks) λb o e=>aK _ e,Bp z t _,⟨_,bB _ rfl,rfl,rfl⟩,frs,q⟩
 ·exact wpAny_pyIter_ascii ha ⟨s1.heap.objs.size,[s1.heap.objs.size],_,_,H1,rfl,I1.kept (t':=s1.toks) λb o e=>aK _ e,xH z t _,⟨_,bB _ rfl,rfl,rfl⟩,frs,q⟩
def iC(z:PySem.Str):List Wv:=z.cps.toList.map λc=>Wv.str ⟨#[c]⟩
def zy(w:Wv)(st:Hs):Re Wk:=match w with
 | .str z=> .ok (none,iC z) st
 | w=>MV w st
def je(g:GE):GI:=λρ st=>(g ρ st).bind zy
theorem M8{z:PySem.Str}{m1:Mp}{H1:Hp}(hz:ba z=true):vR X (none,iC z) m1 H1 (QS z) where
 go:=λk H m' st _ _ _ hk=>by
  have:k < z.cps.size:=by simpa [iC] using hk
  exact this
 stop:=λk H m' st _ _ _ hk=>by
  have:k=z.cps.size:=by simpa [iC] using hk
  exact mO this.symm
 vh:=λk hk H v H' m' st _ _ _ y=>by
  obtain⟨rfl,c,hc,rfl⟩:=y
  refine⟨rfl,?_⟩
  have hk':k < z.cps.size:=by simpa [iC] using hk
  have e:∀h:k < (iC z).length,(iC z)[k]'h= .str ⟨#[z.cps[k]]⟩:=by intro h;simp[iC]
  have hc':z.cps[k]=c:=by simpa [hk'] using hc
  show ah X.K m' H' ((iC z)[k]'hk) _
  rw[e hk,hc']
  refine mkStr ?_
  rw[sU] at hz ⊢
  intro d hd
  simp at hd
  rw[hd,<-hc']
  exact hz _ (by simp)
theorem ux{tg iter:Expr}{g:GE}(h:JE X iter g):JI X tg iter (je g):=by
 obtain⟨w1,h1,k1⟩:=MW (tg:=tg) h
 refine⟨λσ H R=>w1 σ H R\/(SE X iter σ H λv H1=>∃z,v= .str z/\R (QS z) H1),λpins s σ H R I q=>?_,λρ st σ H m R S RR p=>?_⟩
 ·rcases q with q | q
  ·exact h1 pins s σ H R I q
  ·exact M7 aM pins s σ H R I q
 ·unfold je at p
  cases e:g ρ st with
  | bad=>rw[e] at p;exact ae p
  | err c st'=>rw[e] at p;exact .inl (k1 ρ st σ H m R S RR (by unfold DV;rw[e];exact p))
  | ok w st'=>
   rw[e] at p
   cases w with
   | str z=>
    refine .inr ?_
    refine h.go (ok:=λw st1=>w= .str z/\st1=st') S RR (by rw[e];exact⟨rfl,rfl⟩) λw st1 v m1 H1 q e1 S1 r1=>?_
    obtain⟨rfl,rfl⟩:=q
    unfold ah at r1
    obtain⟨rfl,hz⟩:=r1
    exact⟨z,rfl,p m1 H1 _ e1 S1 trivial (M8 hz)⟩
   | _=>exact .inl (k1 ρ st σ H m R S RR (by unfold DV;rw[e];exact p))
end
section
variable {X:Cx}
end
def keyOf:Wv->Option L2.Key
 | .int i=>some (.inl i)
 | .str x=>some (.inr x)
 | _=>none
theorem kT{K:PySem.W.Frag}{m:Mp}{H:Hp}{w:Wv}{v:V}{k:L2.Key}(r:ah K m H w v)(e:keyOf w=some k):v=kV k:=by
 cases w with
 | int i=>cases e;unfold ah at r;rw[r];rfl
 | str x=>cases e;unfold ah at r;rw[r.1];rfl
 | _=>cases e
def cD{κ:Type}[DecidableEq κ](kvs:List (κ×Wv))(k:κ):Option Wv:=match kvs with
 | []=>none
 | p::r=>if p.1=k then some p.2 else cD r k
def iY{κ:Type}[DecidableEq κ](kvs:List (κ×Wv))(k:κ)(v:Wv):List (κ×Wv):=if(kvs.any λkv=>decide (kv.1=k))=true then kvs.map (λkv=>if kv.1=k then(kv.1,v) else kv) else kvs++[(k,v)]
def M9(kvs more:List (L2.Key×Wv)):List (L2.Key×Wv):=more.foldl (λacc kv=>iY acc kv.1 kv.2) kvs
section
variable {K:PySem.W.Frag} {m:Mp} {H:Hp} {κ:Type}
theorem RelK.nil:RelK (κ:=κ) K m H [] []:=⟨rfl,ai.nil⟩
theorem RelK.cons{k:κ}{w:Wv}{v:V}{kvs:List (κ×Wv)}{xs:List (κ×V)}(h:ah K m H w v)(t:RelK K m H kvs xs):RelK K m H ((k,w)::kvs) ((k,v)::xs) :=
 ⟨by simp[t.1],by simpa using ai.cons h t.2⟩
theorem RelK.nil_inv{xs:List (κ×V)}(h:RelK K m H [] xs):xs=[]:=by
 have:=h.1
 cases xs with
 | nil=>rfl
 | cons a b=>simp at this
theorem RelK.cons_inv{p:κ×Wv}{kvs:List (κ×Wv)}{xs:List (κ×V)}(h:RelK K m H (p::kvs) xs):∃v t,xs=(p.1,v)::t/\ah K m H p.2 v/\RelK K m H kvs t:=by
 obtain⟨h1,h2⟩:=h
 cases xs with
 | nil=>simp at h1
 | cons q t=>
  simp at h1 h2
  unfold ai at h2
  obtain⟨x,r,e1,e2,e3⟩:=h2
  cases e1
  exact⟨q.2,t,by rw[h1.1],e2,h1.2,e3⟩
theorem RelK.length{kvs:List (κ×Wv)}{xs:List (κ×V)}(h:RelK K m H kvs xs):kvs.length=xs.length:=by
 have:=congrArg nE h.1
 simpa using this
variable [DecidableEq κ]
theorem RelK.val:∀{kvs:List (κ×Wv)}{xs:List (κ×V)}(k:κ),RelK K m H kvs xs->(cD kvs k=none->mE xs k=none)/\∀w,cD kvs k=some w->∃v,mE xs k=some v/\ah K m H w v
 | [],xs,k,h=>by
  rw[h.nil_inv]
  exact⟨λ_=>rfl,(λw e=>by cases e)⟩
 | p::r,xs,k,h=>by
  obtain⟨v,t,rfl,h1,h2⟩:=h.cons_inv
  obtain⟨i1,i2⟩:=RelK.val k h2
  unfold cD
  by_cases e:p.1=k
  ·rw[if_pos e,mF (by exact e)]
   exact⟨(λz=>by cases z),λw z=>⟨v,rfl,by cases z;exact h1⟩⟩
  ·rw[if_neg e,mG (by exact e)]
   exact⟨i1,i2⟩
theorem RelK.any:∀{kvs:List (κ×Wv)}{xs:List (κ×V)}(k:κ),RelK K m H kvs xs->(kvs.any λkv=>decide (kv.1=k))=xs.any λkv=>decide (kv.1=k)
 | [],xs,k,h=>by rw[h.nil_inv];rfl
 | p::r,xs,k,h=>by
  obtain⟨v,t,rfl,h1,h2⟩:=h.cons_inv
  rw[iz,iz,RelK.any k h2]
theorem RelK.repl:∀{kvs:List (κ×Wv)}{xs:List (κ×V)}(k:κ){w:Wv}{v:V},RelK K m H kvs xs->ah K m H w v->RelK K m H (kvs.map λkv=>if kv.1=k then(kv.1,w) else kv) (xs.map λkv=>if kv.1=k then(kv.1,v) else kv)
 | [],xs,k,w,v,h,r=>by rw[h.nil_inv];exact RelK.nil
 | p::kvs,xs,k,w,v,h,r=>by
  obtain⟨u,t,rfl,h1,h2⟩:=h.cons_inv
  rw[aL,aL]
  by_cases e:p.1=k
  ·rw[if_pos e,if_pos (by exact e)]
   exact RelK.cons r (RelK.repl k h2 r)
  ·rw[if_neg e,if_neg (by exact e)]
   exact RelK.cons h1 (RelK.repl k h2 r)
theorem RelK.snoc:∀{kvs:List (κ×Wv)}{xs:List (κ×V)}(k:κ){w:Wv}{v:V},RelK K m H kvs xs->ah K m H w v->RelK K m H (kvs++[(k,w)]) (xs++[(k,v)])
 | [],xs,k,w,v,h,r=>by rw[h.nil_inv];exact RelK.cons r RelK.nil
 | p::kvs,xs,k,w,v,h,r=>by
  obtain⟨u,t,rfl,h1,h2⟩:=h.cons_inv
  exact RelK.cons h1 (RelK.snoc k h2 r)
theorem RelK.put{kvs:List (κ×Wv)}{xs:List (κ×V)}(k:κ){w:Wv}{v:V}(h:RelK K m H kvs xs)(r:ah K m H w v):RelK K m H (iY kvs k w) (putK xs k v):=by
 unfold iY putK
 rw[h.any k]
 split
 ·exact h.repl k r
 ·exact h.snoc k r
end
section
variable {K:PySem.W.Frag} {m:Mp} {H:Hp}
theorem RelK.merge:∀{more:List (L2.Key×Wv)}{ms:List (L2.Key×V)}{kvs:List (L2.Key×Wv)}{xs:List (L2.Key×V)},RelK K m H kvs xs->RelK K m H more ms->RelK K m H (M9 kvs more) (L7 xs ms)
 | [],ms,kvs,xs,h,g=>by rw[g.nil_inv];exact h
 | p::more,ms,kvs,xs,h,g=>by
  obtain⟨u,t,rfl,h1,h2⟩:=g.cons_inv
  have:=RelK.merge (more:=more) (ms:=t) (kvs:=iY kvs p.1 p.2) (xs:=putK xs p.1 u) (RelK.put p.1 h h1) h2
  exact this
end
section
variable {X:Cx}
def zG(st:Hs)(l:Nat):Bool:=match st[l]? with
 | some (.dct _)=>true
 | _=>false
def D_(gd gk gx:GE):GE:=λρ st=>(gd ρ st).bind λd st1=>match d with
 | .ref l=>if zG st1 l=true then(gk ρ st1).bind λk st2=>(gx ρ st2).bind λx st3=>(match keyOf k,st3[l]? with
  | some kk,some (.dct kvs)=> .ok ((cD kvs kk).getD x) st3
  | _,_=> .bad) else .bad
 | _=> .bad
theorem Ea{m:Mp}{st:Hs}{H:Hp}{l:Nat}{a:ac5}(S:bf X.K m st H)(ha:m[l]? =some a)(h:zG st l=true):Sr H a:=by
 unfold zG at h
 cases e:st[l]? with
 | none=>rw[e] at h;cases h
 | some o=>
  rw[e] at h
  cases o with
  | dct kvs=>
   obtain⟨xs,e1,_⟩:=(show ∃ys,H a=some (.dK ys)/\RelK X.K m H kvs ys from S.obj _ _ _ ha e)
   exact .inl ⟨xs,.inl e1⟩
  | _=>cases h
theorem Eb{o e f:Expr}{gd gk gx:GE}{apos cpos:Pos}(hu:X.A.units+1 < cLine)(ho:JE X o gd)(he:JE X e gk)(hf:JE X f gx)(M:M2 X o "get" apos e f cpos):JE X (.Call (.Attribute o "get" apos) [e,f] [] cpos) (D_ gd gk gx) :=
 JE.of (CP hu aM aM aM M) λρ st σ H m Q S R p=>by
  refine ho.go S R (aw.bind p) λd st1 v m1 H1 p1 e1 S1 r1=>?_
  cases d with
  | ref l=>
   dsimp only at p1
   by_cases hd:zG st1 l=true
   ·rw[if_pos hd] at p1
    unfold ah at r1
    obtain⟨a,rfl,ha⟩:=r1
    refine⟨a,rfl,Ea S1 ha hd,?_⟩
    refine he.go S1 (R.mono e1) ((aw.bind p1).imp e1 λ_ _ q=>q) λk st2 y m2 H2 p2 e2 S2 r2=>?_
    refine hf.go S2 (R.mono (e1.trans e2)) ((aw.bind p2).imp (e1.trans e2) λ_ _ q=>q) λx st3 z m3 H3 p3 e3 S3 r3=>?_
    cases q1:keyOf k with
    | none=>rw[q1] at p3;exact ae p3
    | some kk=>
     cases q2:st3[l]? with
     | none=>rw[q1,q2] at p3;exact ae p3
     | some ob=>
      rw[q1,q2] at p3
      cases ob with
      | dct kvs=>
       have ha3:m3[l]? =some a:=(e2.trans e3).pre _ _ ha
       obtain⟨xs,y1,y2⟩:=(show ∃ys,H3 a=some (.dK ys)/\RelK X.K m3 H3 kvs ys from S3.obj _ _ _ ha3 q2)
       dsimp only at p3
       refine⟨_,by rw[kT r2 q1];exact lN.k y1,?_⟩
       obtain⟨i1,i2⟩:=y2.val kk
       cases q3:cD kvs kk with
       | none=>
        rw[i1 q3]
        rw[q3] at p3
        exact p3 z m3 H3 (e1.trans (e2.trans e3)) S3 r3
       | some w=>
        obtain⟨u,j1,j2⟩:=i2 w q3
        rw[j1]
        rw[q3] at p3
        exact p3 u m3 H3 (e1.trans (e2.trans e3)) S3 j2
      | _=>exact ae p3
   ·rw[if_neg hd] at p1;exact ae p1
  | _=>exact ae p1
end
def zH:Wv->adb->Prop
 | .int i,u=>∃t,u= .int i t
 | .str x,u=>(∃t,u= .str x t)/\ba x=true
 | _,_=>False
abbrev Dc:=List (PySem.Str×Wv)
def uz(w:ade):Dc->List DictEntry->Prop
 | [],[]=>True
 | (k,v)::r,e::t=>(e.hash=hashStr w k/\(∃tk,e.key= .str k tk)/\zH v e.val)/\uz w r t
 | _,_=>False
def vW(K:PySem.W.Frag)(w:ade)(mg:Str->Option adb)(x:Str)(kvs:Dc):Prop :=
 ∃(a:ac5)(es:Array DictEntry)(ep:Nat),mg x=some (.ref a)/\K.lookup a=some ⟨.type "dict",none,.dict es ep,#[]⟩/\(a == sysModules)=false/\uz w kvs es.toList/\(kvs.map (·.1)).Nodup
theorem mU{P:ac9}{w:ade}:∀{kvs:Dc}{l:List DictEntry},uz w kvs l->∃vs:List (PySem.Str×adb),vs.map (·.1)=kvs.map (·.1)/\Pairs (PySem.strKind P w) l vs/\(∀e∈l,∃k,(PySem.strKind P w).is k e.key=true/\e.hash=(PySem.strKind P w).hash k)/\
  ∀k,(kvs.lookup k=none->valueAt vs k=none)/\∀v,kvs.lookup k=some v->∃u,valueAt vs k=some u/\zH v u
 | [],[],_=>⟨[],rfl,.nil,(λ_ z=>by cases z),λk=>⟨λ_=>rfl,(λv z=>by cases z)⟩⟩
 | (k,v)::r,e::t,h=>by
  obtain⟨⟨h1,⟨tk,h2⟩,h3⟩,h4⟩:=h
  obtain⟨vs,i1,i2,i3,i4⟩:=mU (P:=P) h4
  have his:(PySem.strKind P w).is k e.key=true:=by rw[h2];exact strKind_is P w k tk
  refine⟨(k,e.val)::vs,by simp[i1],.cons his rfl i2,λe' he=>?_,λk'=>?_⟩
  ·rcases List.mem_cons.mp he with z | z
   ·subst z;exact⟨k,his,h1⟩
   ·exact i3 e' z
  ·rw[b_]
   unfold valueAt
   rw[nI]
   by_cases ek:k=k'
   ·subst ek
    have b1:(k == k)=true:=by simp
    rw[b1]
    simp only[decide_true,pH]
    exact⟨(λz=>by cases z),λv' z=>⟨e.val,rfl,by cases z;exact h3⟩⟩
   ·have b1:(k' == k)=false:=beq_eq_false_iff_ne.mpr λz=>ek z.symm
    rw[b1]
    simp only[ek,decide_false]
    exact i4 k'
 | [],_::_,h=>ae h
 | _::_,[],h=>ae h
theorem zI{P:ac9}{w:ade}{K:PySem.W.Frag}{h:Heap}{a:ac5}{es:Array DictEntry}{ep:Nat}{kvs:Dc}(KX:K.In h)(hl:K.lookup a=some ⟨.type "dict",none,.dict es ep,#[]⟩)(he:uz w kvs es.toList)(nd:(kvs.map (·.1)).Nodup) :
  ∃vs:List (PySem.Str×adb),h.DictOf (PySem.strKind P w) a vs/\∀k,(kvs.lookup k=none->valueAt vs k=none)/\∀v,kvs.lookup k=some v->∃u,valueAt vs k=some u/\zH v u:=by
 obtain⟨vs,i1,i2,i3,i4⟩:=mU (P:=P) he
 exact⟨vs,⟨_,es,ep,KX a _ hl,⟨rfl,rfl,rfl⟩,rfl,λe hm=>i3 e (by simpa using hm),i2,by rw[i1];exact nd⟩,i4⟩
section
variable {X:Cx}
def zJ(kvs:Dc)(ga:GE):GE:=λρ st=>(ga ρ st).bind λa st1=>match a with
 | .str k=>(match kvs.lookup k with | some w=> .ok w st1 | none=> .bad)
 | _=> .bad
def QT(kvs:Dc)(ty:TE):TE:=λσ H Q=>ty σ H λy H1=>∃z w v,y= .str z/\kvs.lookup z=some w/\(∀u,zH w u->RelV v u)/\Q v H1
theorem Iw{b:Expr}{ty:TE}{x:Str}{p pos:Pos}{kvs:Dc}(hb:PE X b ty)(hs:CJ b)(hg:Gl X x)(hd:(x == ("__debug__":Str))=false)(D:vW X.K X.w X.mg x kvs):PE X (.Subscript (.Name x p) b pos) (QT kvs ty):=by
 intro pins s σ H Q I h
 obtain⟨a,es,ep,g1,g2,g3,g4,g5⟩:=D
 refine yZ PySem.F.slot_dict_getitem.lookup hs (bo (i7 (v:=.ref a) hg g1 rfl hd pins s σ H (λv H2=>v= .ref a/\H2=H) I ⟨rfl,rfl⟩) λu s1 ⟨v,H1,I1,rv,ev,eH⟩=>?_)
 subst ev eH
 obtain rfl:u=aQ a:=rv
 refine bo (hb pins s1 σ H1 _ I1 h) λiv s2 ⟨y,H2,I2,ry,z,w,v,ey,ew,ev,q⟩=>?_
 subst ey
 obtain⟨t,rfl⟩:=(show ∃t,iv=pj z t from ry)
 obtain⟨vs,dd,look⟩:=zI (P:=X.prog) (w:=X.w) I2.w_ g2 g4 g5
 obtain⟨u,e1,e2⟩:=(look z).2 w ew
 exact⟨dd.typeIs,wpAny_getItem_of (strKind_is X.prog X.w z t) dd.mapOf e1 ⟨v,H2,I2.tok _,ev u e2,q⟩⟩
theorem Iy{b:Expr}{gb:GE}{x:Str}{p pos:Pos}{kvs:Dc}(hb:JE X b gb)(hs:CJ b)(hg:Gl X x)(hd:(x == ("__debug__":Str))=false)(D:vW X.K X.w X.mg x kvs):JE X (.Subscript (.Name x p) b pos) (zJ kvs gb) :=
 JE.of (Iw aM hs hg hd D) λρ st σ H m Q S R p=>by
  refine hb.go S R (aw.bind p) λw st1 v m1 H1 p1 e1 S1 r1=>?_
  cases w with
  | str k=>
   dsimp only at p1
   cases e:kvs.lookup k with
   | none=>rw[e] at p1;exact ae p1
   | some u=>
    rw[e] at p1
    unfold ah at r1
    cases u with
    | int i=>exact⟨k,.int i,.int i,r1.1,e,λu h=>h,p1 _ m1 H1 e1 S1 (by unfold ah;rfl)⟩
    | str y=>
     by_cases hy:ba y=true
     ·exact⟨k,.str y,.str y,r1.1,e,λu h=>h.1,p1 _ m1 H1 e1 S1 (by unfold ah;exact⟨rfl,hy⟩)⟩
     ·obtain⟨a,es,ep,_,_,_,g4,_⟩:=D
      obtain⟨vs,_,_,_,i4⟩:=mU (P:=X.prog) g4
      obtain⟨u,_,e2⟩:=(i4 k).2 _ e
      exact absurd e2.2 hy
    | _=>
     obtain⟨a,es,ep,_,_,_,g4,_⟩:=D
     obtain⟨vs,_,_,_,i4⟩:=mU (P:=X.prog) g4
     obtain⟨u,_,e2⟩:=(i4 k).2 _ e
     exact ae e2
  | _=>exact ae p1
end
open PySem PySem.Spec PyProof.Rows PySem.W L2
section
variable (lt:Nat->Nat->Bool) (N:Nat)
def Kg{α:Type}:KasT α->(α->Prop)->Prop
 | .ret a,Q=>Q a
 | .ask i j k,Q=>(i < N/\j < N)/\Kg (k (lt i j)) Q
end
section
variable {lt:Nat->Nat->Bool} {N:Nat}
theorem Kg.bind{α β:Type}{f:α->KasT β}{Q:β->Prop}:∀{t:KasT α},Kg lt N t (λa=>Kg lt N (f a) Q)->Kg lt N (t.bind f) Q
 | .ret a,h=>h
 | .ask i j k,h=>⟨h.1,Kg.bind (t:=k (lt i j)) h.2⟩
theorem Kg.imp{α:Type}{Q R:α->Prop}(hq:∀a,Q a->R a):∀{t:KasT α},Kg lt N t Q->Kg lt N t R
 | .ret a,h=>hq a h
 | .ask i j k,h=>⟨h.1,Kg.imp hq (t:=k (lt i j)) h.2⟩
structure Ord(lt:Nat->Nat->Bool):Prop where
 as:∀a b,lt a b=true->lt b a=false
 tr:∀a b c,lt a b=false->lt b c=false->lt a c=false
theorem Ord.XT(o:Ord lt)(a:Nat):lt a a=false:=by
 cases h:lt a a with
 | false=>rfl
 | true=>have:=o.as a a h;rw[h] at this;cases this
abbrev at_(p:Array Nat)(i:Nat):Nat:=p.getD i 0
structure Pm(N:Nat)(p:Array Nat):Prop where
 sz:p.size=N
 pm:p.toList.Perm (f9 N)
theorem Pm.bd{p:Array Nat}(h:Pm N p){i:Nat}(hi:i < N):at_ p i < N:=by
 have e:at_ p i=p[i]'(by rw[h.sz];exact hi):=by simp[at_,Array.getD,h.sz,hi]
 rw[e]
 have:p[i]'(by rw[h.sz];exact hi)∈p.toList:=by simp
 exact List.mem_range.mp (h.pm.mem_iff.mp this)
theorem zK{p q:Array Nat}{i j:Nat}(h:p[i]? =q[j]?):at_ p i=at_ q j:=by
 unfold at_
 rw[QU,QU,h]
theorem Ec{p:Array Nat}(h:Pm N p){i j:Nat}(hj:j<=N)(k:Nat):at_ (kas_rev p i j) k=if i<=k/\k < j then at_ p (i+j - 1 - k) else at_ p k:=by
 have q:=getElem?_mirror_all (xs:=p) (i:=i) (j:=j) (by rw[h.sz];exact hj) k
 unfold kas_rev
 split
 ·rename_i c;rw[if_pos c] at q;exact zK q
 ·rename_i c;rw[if_neg c] at q;exact zK q
def Up(lt:Nat->Nat->Bool)(p:Array Nat)(k:Nat):Prop:=∀i j,i<=j->j < k->lt (at_ p j) (at_ p i)=false
def Dn(lt:Nat->Nat->Bool)(p:Array Nat)(k:Nat):Prop:=∀i j,i<=j->j < k->lt (at_ p i) (at_ p j)=false
theorem Up.succ(o:Ord lt){p:Array Nat}{k:Nat}(h:Up lt p k)(hk:1<=k)(e:lt (at_ p k) (at_ p (k - 1))=false):Up lt p (k+1):=by
 intro i j hij hj
 by_cases c:j < k
 ·exact h i j hij c
 ·have:j=k:=by omega
  subst this
  by_cases c2:i=j
  ·subst c2;exact o.XT _
  ·exact o.tr _ _ _ e (h i (j - 1) (by omega) (by omega))
theorem Dn.succ(o:Ord lt){p:Array Nat}{k:Nat}(h:Dn lt p k)(hk:1<=k)(e:lt (at_ p (k - 1)) (at_ p k)=false):Dn lt p (k+1):=by
 intro i j hij hj
 by_cases c:j < k
 ·exact h i j hij c
 ·have:j=k:=by omega
  subst this
  by_cases c2:i=j
  ·subst c2;exact o.XT _
  ·exact o.tr _ _ _ (h i (j - 1) (by omega) (by omega)) e
theorem Dn.up{p:Array Nat}(hp:Pm N p){n:Nat}(hn:n<=N)(h:Dn lt p n):Up lt (kas_rev p 0 n) n:=by
 intro i j hij hj
 rw[Ec hp hn,Ec hp hn,if_pos ⟨by omega,hj⟩,if_pos ⟨by omega,by omega⟩]
 exact h _ _ (by omega) (by omega)
end
section
variable {prog:ac9} {w:ade} {A:ac6} {E:adb->ada->Prop} {s:ada}
end
section
variable {X:Cx} {pins:List (ac5×Obj)} {σ:St} {H:Hp} {s:ada}
end
section
variable {X:Cx}
end
section
variable {prog:ac9} {w:ade} {A:ac6} {E:adb->ada->Prop} {s:ada}
end
section
variable {X:Cx}
end
def keysOf:List Wv->Option (List L2.Key)
 | []=>some []
 | w::r=>(match keyOf w,keysOf r with | some k,some l=>some (k::l) | _,_=>none)
def nT:Wv->Option (List L2.Key)
 | .tup ws=>keysOf ws
 | _=>none
theorem qA{K:PySem.W.Frag}{m:Mp}{H:Hp}:∀{ws:List Wv}{xs:List V}{ks:List L2.Key},ai K m H ws xs->keysOf ws=some ks->xs=ks.map kV
 | [],xs,ks,r,e=>by unfold ai at r;subst r;cases e;rfl
 | w::ws,xs,ks,r,e=>by
  unfold ai at r
  obtain⟨x,t,rfl,r1,r2⟩:=r
  unfold keysOf at e
  cases e1:keyOf w with
  | none=>rw[e1] at e;cases e
  | some k=>
   cases e2:keysOf ws with
   | none=>rw[e1,e2] at e;cases e
   | some l=>
    rw[e1,e2] at e
    cases e
    rw[kT r1 e1,qA r2 e2]
    rfl
theorem mV{K:PySem.W.Frag}{m:Mp}{H:Hp}{w:Wv}{v:V}{ks:List L2.Key}(r:ah K m H w v)(e:nT w=some ks):∃b,v= .ref b/\H b=some (.tup (ks.map kV)):=by
 cases w with
 | tup ws=>
  unfold ah at r
  obtain⟨a,xs,rfl,h1,h2⟩:=r
  rw[qA h2 e] at h1
  exact⟨a,rfl,h1⟩
 | _=>cases e
def oK:GE:=λ_ st=> .ok (.ref st.length) (st++[.eQ []])
def Kc:GE:=λ_ st=> .ok (.ref st.length) (st++[.dct []])
section
variable {X:Cx}
theorem Iz{pos:Pos}:JE X (.Dict [] [] pos) oK:=JE.of CN λρ st σ H m Q S R p=>λq hq=>
 p (.ref q) (m++[q]) _ (Ext.more.trans (Ext.iR (.inl hq))) (S.ua hq ⟨[],aW,RelK.nil⟩) (S.newest q _)
theorem IA{pos:Pos}:JE X (.Dict [] [] pos) Kc:=JE.of CM λρ st σ H m Q S R p=>λq hq=>
 p (.ref q) (m++[q]) _ (Ext.more.trans (Ext.iR (.inl hq))) (S.ua hq ⟨[],aW,RelK.nil⟩) (S.newest q _)
def putD(d k v:Wv)(st:Hs):Option Hs:=match d with
 | .ref l=>(match st[l]? with
  | some (.dct kvs)=>(match keyOf k with | some kk=>if kvs.length < lim then some (st.set l (.dct (iY kvs kk v))) else none | none=>none)
  | some (.eQ kvs)=>(match nT k with | some kk=>if kvs.length < lim then some (st.set l (.eQ (iY kvs kk v))) else none | none=>none)
  | _=>none)
 | _=>none
def mW(gv gd gk:GE):GS:=λρ st=>(gv ρ st).bo ρ λv st1=>(gd ρ st1).bo ρ λd st2=>(gk ρ st2).bo ρ λk st3=>match putD d k v st3 with
 | some zc=> .nx ρ zc
 | none=> .bad
theorem IB{m:Mp}{st st':Hs}{H:Hp}{d k v:Wv}{x y z:V}(S:bf X.K m st H)(rd:ah X.K m H d x)(rk:ah X.K m H k y)(rv:ah X.K m H v z)(e:putD d k v st=some st'):∃a H',x= .ref a/\t8 H a y z H'/\Ext X.K m H m H'/\bf X.K m st' H':=by
 unfold putD at e
 cases d with
 | ref l=>
  dsimp only at e
  unfold ah at rd
  obtain⟨a,rfl,ha⟩:=rd
  cases e1:st[l]? with
  | none=>rw[e1] at e;cases e
  | some o=>
   rw[e1] at e
   cases o with
   | dct kvs=>
    dsimp only at e
    cases e2:keyOf k with
    | none=>rw[e2] at e;cases e
    | some kk=>
     rw[e2] at e
     dsimp only at e
     by_cases c:kvs.length < lim
     ·rw[if_pos c] at e
      cases e
      obtain⟨xs,h1,h2⟩:=(show ∃ys,H a=some (.dK ys)/\RelK X.K m H kvs ys from S.obj _ _ _ ha e1)
      have ex:Ext X.K m H m (upd H a (.dK (putK xs kk z))):=Ext.iR (.inr (.inr (.inl ⟨_,h1⟩)))
      refine⟨a,_,rfl,by rw[kT rk e2];exact t8.k h1 (by rw[<-h2.length];exact xu c),ex,?_⟩
      exact S.qf ha e1 rfl ⟨_,aW,(h2.put kk rv).mono ex⟩
     ·rw[if_neg c] at e;cases e
   | eQ kvs=>
    dsimp only at e
    cases e2:nT k with
    | none=>rw[e2] at e;cases e
    | some kk=>
     rw[e2] at e
     dsimp only at e
     by_cases c:kvs.length < lim
     ·rw[if_pos c] at e
      cases e
      obtain⟨xs,h1,h2⟩:=(show ∃ys,H a=some (.dT ys)/\RelK X.K m H kvs ys from S.obj _ _ _ ha e1)
      obtain⟨b,rfl,hb⟩:=mV rk e2
      have ex:Ext X.K m H m (upd H a (.dT (putK xs kk z))):=Ext.iR (.inr (.inr (.inr ⟨_,h1⟩)))
      refine⟨a,_,rfl,t8.t h1 hb (by rw[<-h2.length];exact xu c),ex,?_⟩
      exact S.qf ha e1 rfl ⟨_,aW,(h2.put kk rv).mono ex⟩
     ·rw[if_neg c] at e;cases e
   | _=>cases e
 | _=>cases e
theorem IC{o i e:Expr}{go gi ge:GE}{pos pos':Pos}(hu:X.A.units+1 < cLine)(he:JE X e ge)(ho:JE X o go)(hi:JE X i gi)(hs:swapsWith e (some (.Subscript o i pos')) pos.line X.env=pure false):JS X (.Assign [.Subscript o i pos'] e pos) (mW ge go gi) :=
 JS.of (Hz hu aM aM aM hs) λρ st σ H m D S R p=>by
  refine he.go S R (aE.cF R p) λv st1 vv m1 H1 p1 e1 S1 rv=>?_
  refine ho.go S1 (R.mono e1) ((aE.cF (m:=m) (H:=H) R p1).imp e1 λ_ _ q=>q) λd st2 vd m2 H2 p2 e2 S2 rd=>?_
  refine hi.go S2 (R.mono (e1.trans e2)) ((aE.cF (m:=m) (H:=H) R p2).imp (e1.trans e2) λ_ _ q=>q) λk st3 vk m3 H3 p3 e3 S3 rk=>?_
  have xB:=e1.trans (e2.trans e3)
  cases e4:putD d k v st3 with
  | none=>rw[e4] at p3;exact ae p3
  | some zc=>
   rw[e4] at p3
   obtain⟨a,H4,f1,f2,f3,f4⟩:=IB (X:=X) S3 (ah.mono e3 _ _ rd) rk (ah.mono (e2.trans e3) _ _ rv) e4
   exact⟨a,H4,f1,f2,p3 σ m3 H4 (xB.trans f3) f4 (R.mono (xB.trans f3))⟩
end
def Ed(h:Heap)(d:ac5)(es:Array DictEntry)(ep:Nat):Prop:=∃o,h.get? d=some o/\o.cls= .type "dict"/\o.data= .dict es ep
section
variable {prog:ac9} {w:ade} {A:ac6} {E:adb->ada->Prop} {s:ada} {d it:ac5} {es:Array DictEntry} {ep i:Nat}
theorem Ed.ty(x:Ed s.heap d es ep):s.TypeIs (.ref d) "dict":=let ⟨o,h1,h2,_⟩:=x;⟨o,h1,h2⟩
end
section
variable {X:Cx}
end
def xI:List L2.Key->Option (List Int)
 | []=>some []
 | .inl i::r=>(match xI r with | some l=>some (i::l) | none=>none)
 | _=>none
section
variable {X:Cx}
end
open PySem L2 PyProof.Rows
section
open PySem.SeqAt PySem.MeetsSeq PySem.MeetsSeq2 PySem.MeetsSeq3
end
variable {X:Cx}
def oLe:f_:=λx y st=>Qg x y st
theorem M_(hu:X.A.units+64 < cLine):kM X (adk .LtE) oLe:=Qi
def oLt:f_:=λx y st=>Qf x y st
theorem M'(hu:X.A.units+64 < cLine):kM X (adk .Lt) oLt:=Qh
structure qB(k:Nat)(A:ac6):Prop where
 d:A.depth+3 * k+5 < recursionLimit
 u:A.units+16 * k+200 < cLine
theorem qB.of{k:Nat}{A:ac6}(r:iw k A):qB k A:=⟨r.dp,r.un⟩
structure QV(P:ac9)(w:ade)(K:PySem.W.Frag)(mg:Str->Option adb)(base:Heap)(k:Nat)(f:ac5)(fd:ac7)(ps:List Str)(sp:Sp):Prop where
 n:∀vs H Q E,sp vs H Q E->vs.length=ps.length
 go:∀(A:ac6)(outer:List Env)(s:ada)(H:Hp)(args:Args)(us:List adb)(vs:List V)(Q:VK)(E:XK),qB k A->Bh A H->xi P w K mg base A outer s H->
  BindsTo s fd args (ps.zip us)->Vals vs us->sp vs H Q E->adi (model P w) A (.call (.ref f) args) (CR (CXJ P w) outer P w H s Q E) s
section
variable {P:ac9} {w:ade} {K:PySem.W.Frag} {mg:Str->Option adb} {base:Heap}
end
section
variable {X:Cx}
end
def ID(P:ac9)(w:ade)(K:PySem.W.Frag)(mg:Str->Option adb)(base:Heap)(k:Nat)(x:Str)(n:Nat)(F:List Wv->Hs->Re Wv):Prop :=
 ∃f fd ps,QV P w K mg base k f fd ps (spW K n F)/\mg x=some (.ref f)/\PySem.W.keepIn K (.ref f)=true/\Binds K fd ps []
section
variable {X:Cx}
end
section
variable {X:Cx}
end
abbrev QW:=Option (Nat×List Wv)×List Wv
def uA(c:Option (Nat×List Wv))(st:Hs):Prop:=match c with
 | some (l,ws)=>av st l=some ws
 | none=>True
structure Ee(X:Cx)(w:QW)(m1:Mp)(H1:Hp)(J':It):Prop where
 go:∀(k:Nat)(H:Hp)(m':Mp)(st:Hs),Ext X.K m1 H1 m' H->bf X.K m' st H->uA w.1 st->k < w.2.length->J'.go k H
 stop:∀(k:Nat)(H:Hp)(m':Mp)(st:Hs),Ext X.K m1 H1 m' H->bf X.K m' st H->uA w.1 st->k=w.2.length->J'.stop k H
 vh:∀(k:Nat)(hk:k < w.2.length)(H:Hp)(v:V)(H':Hp)(m':Mp)(st:Hs),Ext X.K m1 H1 m' H->bf X.K m' st H->uA w.1 st->J'.vh k H v H'->Ext X.K m' H m' H'/\bf X.K m' st H'/\ah X.K m' H' w.2[k] v
abbrev Ef:=bH->Hs->Re QW
def Kd(X:Cx)(tg iter:Expr)(gi:Ef):Prop:=∃wi,PI X tg iter wi/\∀(ρ:bH)(st:Hs)(σ:St)(H:Hp)(m:Mp)(R:It->Hp->Prop),bf X.K m st H->ay X.K m H ρ σ->
 aw X σ m H (gi ρ st) (λw st1=>∀(m1:Mp)(H1:Hp)(J':It),Ext X.K m H m1 H1->bf X.K m1 st1 H1->uA w.1 st1->Ee X w m1 H1 J'->R J' H1)->wi σ H R
def Eg:Ef:=λ_ _=> .bad
section
variable {X:Cx}
theorem IE{tg iter:Expr}:Kd X tg iter Eg:=⟨_,vT,λρ st σ H m Q S R p=>p⟩
theorem Na{tg iter:Expr}{gi:GI}(h:JI X tg iter gi):Kd X tg iter (λρ st=>(gi ρ st).bind λw st1=> .ok (w.1.map λl=>(l,w.2),w.2) st1):=by
 obtain⟨wi,hp,hw⟩:=h
 refine⟨wi,hp,λρ st σ H m R S r p=>hw ρ st σ H m R S r ((aw.bind p).imp Ext.refl λw st1 q m1 H1 J' e1 S1 c1 uu=>?_)⟩
 obtain⟨o,ws⟩:=w
 have cc:∀st,uA (o.map λl=>(l,ws)) st->jd (o,ws) st:=λst c=>by cases o<;>exact c
 have cc':jd (o,ws) st1->uA (o.map λl=>(l,ws)) st1:=λc=>by cases o<;>exact c
 refine q m1 H1 J' e1 S1 (cc' c1) ⟨λk H2 m' st2 e S2 c=>uu.go k H2 m' st2 e S2 (cc _ c),λk H2 m' st2 e S2 c=>uu.stop k H2 m' st2 e S2 (cc _ c),λk hk H2 v H3 m' st2 e S2 c y=>?_⟩
 obtain⟨rfl,rr⟩:=uu.vh k hk H2 v H3 m' st2 e S2 (cc _ c) y
 exact⟨Ext.refl,S2,rr⟩
end
open Classical in
def vX(is:List Nat)(gb:GS)(c:Option (Nat×List Wv)):List Wv->bH->Hs->Rs
 | [],ρ,st=> .nx ρ st
 | w::r,ρ,st=>match MO is w ρ with
  | none=> .bad
  | some ρ1=>match gb ρ1 st with
   | .nx ρ' st'=>if uA c st' then vX is gb c r ρ' st' else .bad
   | .ct ρ' st'=>if uA c st' then vX is gb c r ρ' st' else .bad
   | .bk ρ' st'=> .nx ρ' st'
   | .rt w st'=> .rt w st'
   | .err c ρ' st'=> .err c ρ' st'
   | .bad=> .bad
def Ke(is:List Nat)(gi:Ef)(gb:GS):GS:=λρ st=>(gi ρ st).bo ρ λw st1=>vX is gb w.1 w.2 ρ st1
section
variable {X:Cx}
theorem IF{es:List Expr}{is:List Nat}{k:Nat}{iter:Expr}{body:List Stmt}{gi:Ef}{gb:GS}{pos pos':Pos}(hN:X.N.Nodup)(hp:PassesOwn (model X.prog X.w) X.A X.env X.xe)(hc:X.calm=true)(sl:Slots X es is)(hi:Kd X (.Tuple es k pos') iter gi)(hb:nz X body gb)
  (hs:∀x,adl iter X.env x=pure x):JS X (.For (.Tuple es k pos') iter body [] pos) (Ke is gi gb):=by
 obtain⟨wi,QO,hw⟩:=hi
 refine JS.of (lJ hp hc QO (tM hc (iV hN sl) (j6 sl) (iW sl)) eR hs) λρ st σ H m D S R p=>?_
 refine hw ρ st σ H m _ S R ((aE.cF R p).imp Ext.refl λw st1 p1 m1 H1 J' e1 S1 c1 uu=>?_)
 obtain⟨cc,ws⟩:=w
 let Pv:Nat->St->Hp->Prop:=λk σ H=>∃ρ st m',Ext X.K m1 H1 m' H/\bf X.K m' st H/\ay X.K m' H ρ σ/\uA cc st/\aE X m' H (vX is gb cc (ws.drop k) ρ st) D
 refine⟨λk n σ H=>n=ws.length - k/\k<=ws.length/\Pv k σ H,⟨ws.length,by simp,bq _,ρ,st1,m1,Ext.refl,S1,R.mono e1,c1,aE.shift p1 e1⟩,?_⟩
 rintro k n σ2 H2 ⟨rfl,hk,ρ2,st2,m2,e2,S2,R2,c2,p2⟩
 by_cases hlt:k < ws.length
 ·refine .inr ⟨uu.go k H2 m2 st2 e2 S2 c2 hlt,Pv (k+1),λσ' H' p'=>⟨ws.length - (k+1),by omega,rfl,hlt,p'⟩,λx H' y=>?_⟩
  obtain⟨eY,UW,oY⟩:=uu.vh k hlt H2 x H' m2 st2 e2 S2 c2 y
  have ed:ws.drop k=ws[k]::ws.drop (k+1):=lQ hlt
  rw[ed] at p2
  unfold vX at p2
  replace p2:=aE.shift p2 eY
  have UX:=R2.mono eY
  have zo:=e2.trans eY
  have UY:ah X.K m2 H' ws[k] x:=oY
  cases eb:ws[k] with
  | tup us=>
   rw[eb] at p2 UY
   dsimp only[MO] at p2
   cases e5:qp is us ρ2 with
   | none=>rw[e5] at p2;exact ae p2
   | some ρ5=>
    rw[e5] at p2
    dsimp only at p2
    unfold ah at UY
    obtain⟨b,ys,rfl,f1,f2⟩:=UY
    refine⟨b,ys,rfl,eJ.of f1,by rw[<-f2.length];exact mQ e5,j5 f2 UX e5 λσ5 R5=>?_⟩
    refine hb _ st2 _ _ m2 _ UW R5 ?_
    cases eg:gb ρ5 st2 with
    | nx ρ3 st3=>
     rw[eg] at p2
     by_cases c:uA cc st3
     ·simp only[if_pos c] at p2
      exact λσ3 m3 H3 e3 S3 R3=>⟨ρ3,st3,m3,zo.trans e3,S3,R3,c,aE.shift p2 e3⟩
     ·simp only[if_neg c] at p2;exact ae p2
    | ct ρ3 st3=>
     rw[eg] at p2
     by_cases c:uA cc st3
     ·simp only[if_pos c] at p2
      exact λσ3 m3 H3 e3 S3 R3=>⟨ρ3,st3,m3,zo.trans e3,S3,R3,c,aE.shift p2 e3⟩
     ·simp only[if_neg c] at p2;exact ae p2
    | bk ρ3 st3=>rw[eg] at p2;exact p2
    | rt w3 st3=>rw[eg] at p2;exact p2
    | err c3 ρ3 st3=>rw[eg] at p2;exact p2
    | bad=>rw[eg] at p2;exact p2
  | _=>rw[eb] at p2;exact ae p2
 ·have e:k=ws.length:=by omega
  subst e
  rw[nN] at p2
  exact .inl ⟨uu.stop _ H2 m2 st2 e2 S2 c2 rfl,p2 σ2 m2 H2 Ext.refl S2 R2⟩
end
def Eh(n:Nat):Wv->Option (List Wv)
 | .tup us=>if us.length=n then some us else none
 | _=>none
open Classical in
def fW(ck:Hs->Prop)(n:Nat)(gt:List Wv->Hs->Re Bool)(ge:List Wv->Hs->Re Wv)(l:Nat):List Wv->Hs->Option Hs
 | [],st=>some st
 | w::r,st=>match Eh n w with
  | none=>none
  | some us=>match gt us st with
   | .ok false st1=>if ck st1 then fW ck n gt ge l r st1 else none
   | .ok true st1=>(match ge us st1 with
    | .ok v st2=>(match oZ (.ref l) v st2 with
     | .ok _ st3=>if ck st3 then fW ck n gt ge l r st3 else none
     | _=>none)
    | _=>none)
   | _=>none
def eV(X:Cx)(scope:Scope)(xs:List Str)(cs:dN)(C:ac5)(s0:ada)(H0:Hp)(fp:List ac5)(pn:List (ac5×Obj)):Cx :=
 { fR X scope "" cs C s0 H0 fp pn (λ_ _=>False) with N:=xs++cs.map (·.1) }
structure kU(X:Cx)(scope:Scope)(x:Str)(xr:List Str)(cs:dN):Prop where
 one:eD X scope x cs
 var:∀y∈x::xr,scope.names.lookup y=some .local
 nd:((x::xr)++cs.map (·.1)).Nodup
inductive eW:List Expr->List Str->Prop
 | nil:eW [] []
 | cons {x:Str} {p:Pos} {es:List Expr} {xs:List Str}:eW es xs->eW (.Name x p::es) (x::xs)
section
variable {X:Cx} {pins:List (ac5×Obj)} {σ:St} {H:Hp} {s:ada} {scope:Scope} {x:Str} {xr:List Str} {cs:dN}
theorem inv2{fp:List ac5}{h2:Heap}{tk:Nat}(S:kU X scope x xr cs)(hc:X.calm=true)(I:Inv X pins σ H s)(hf:∀b∈fp,eK X pins H b)(hl:∀b∈fp,b < s.heap.objs.size)
  (ns:h2.Ns s.heap.objs.size (λy=>([]:List (Str×adb)).reverse.lookup y))(sb:iu s.heap.objs.size (s.heap.push { cls:=.type "dict",data:=.dict #[] }) h2) :
  Inv (eV X scope (x::xr) cs s.heap.objs.size s H fp (X.pn++pins)) [] (aJ (x::xr).length none++mS cs σ) H { s with heap:=h2,toks:=tk }:=by
 have J:=vP (E:=λ_ _=>False) (tk:=tk) S.one I hf hl ns sb
 have o:=J.ok
 obtain⟨m,hn,hv⟩:=J.loc
 refine⟨⟨o.mod,o.kind,o.glob,o.blt,o.above,o.inj,o.has,o.O',o.hd,o.frames,o.stk,o.Zt,o.bs,o.GQ,o.GR,o.K_,o.nC,o.K'⟩,J.os,J.bare,J.base,⟨m,hn,λi y v e1 e2 e3=>?_⟩,J.cell,J.free,J.lB,J.pin,J.hok,?_⟩
 ·have GG:((x::xr)++cs.map (·.1))[i]? =some y:=e1
  by_cases hi:i < (x::xr).length
  ·rw[eO (by rw[i9];exact hi),tS,if_pos hi] at e2
   cases e2
  ·rw[fV (by rw[i9];omega),i9] at e2
   rw[fV (by omega)] at GG
   exact hv (i - (x::xr).length+1) y v GG e2 e3
 ·show(aJ (x::xr).length none++mS cs σ).length=((x::xr)++cs.map (·.1)).length
  unfold mS
  simp
  omega
theorem UZ{fp:List ac5}{Hb He:Hp}{sb se:ada}{C:ac5}{σ':St}{oD:List (ac5×Obj)}(I:Inv X pins σ Hb sb)(hf:∀b∈fp,eK X pins Hb b)(J:Inv (eV X scope (x::xr) cs C sb Hb fp (X.pn++pins)) oD σ' He se):Inv X pins σ He se:=by
 have un:Un (frs X.stack) fp Hb He sb.heap se.heap:=J.base
 exact I.sk (ch:=fp) J.os un J.hok J.bare λb hb=>⟨(hf b hb).2.2.2.1,(hf b hb).2.1,(hf b hb).2.2.2.2.1,λp hp=>(hf b hb).2.2.2.2.2 p hp⟩
end
theorem Ei{Y:Cx}:∀{es:List Expr}{xs:List Str}(pre:List Str)(post:List Str),eW es xs->Y.N=pre++(xs++post)->(∀y∈xs,Y.env.scope.names.lookup y=some .local)->Slots Y es (jf pre.length xs.length)
 | _,_,pre,post,.nil,hN,hv=> .nil
 | _,_,pre,post,.cons (x:=x) (xs:=xs) t,hN,hv=>by
  show Slots Y _ (pre.length::jf (pre.length+1) xs.length)
  have hx:=hv x bu
  refine .cons (by rw[hN];simp) ⟨.inl hx,.inr hx⟩ ?_
  have:=Ei (pre++[x]) post t (by rw[hN];simp) λy hy=>hv y (aN _ hy)
  rw[cW] at this
  exact this
theorem Kf:∀(us:List Wv)(pre:bH)(zs:bH)(post:bH),zs.length=us.length->qp (jf pre.length us.length) us (pre++(zs++post))=some (pre++(us.map some++post))
 | [],pre,zs,post,h=>by
  have:zs=[]:=List.length_eq_zero_iff.mp h
  subst this
  rfl
 | u::us,pre,[],post,h=>by cases h
 | u::us,pre,z::zs,post,h=>by
  show qp (jf (pre.length+1) us.length) us ((pre++(z::zs++post)).set pre.length (some u))=_
  have e:(pre++(z::zs++post)).set pre.length (some u)=(pre++[some u])++(zs++post):=by
   rw[List.set_append_right _ _ (aq _)]
   simp
  have q:=Kf us (pre++[some u]) zs post (by simpa using h)
  rw[cW,Hw] at q
  rw[e,q]
  simp
theorem U0{K:PySem.W.Frag}{m:Mp}{H:Hp}{us:List Wv}{ρ:bH}{σ:St}(R:ay K m H (us.map some++ρ) σ):ay K m H (aJ us.length none++ρ) σ:=by
 refine⟨by rw[<-R.len];simp,λi w e=>?_⟩
 by_cases hi:i < us.length
 ·rw[eO (by simpa using hi),tS,if_pos hi] at e
  cases e
 ·refine R.get i w ?_
  rw[fV (by simpa using Nat.le_of_not_lt hi)] at e ⊢
  simpa using e
section
variable {prog:ac9} {w:ade} {A:ac6} {R:Result->ada->Prop} {s:ada}
abbrev NB(prog:ac9)(w:ade)(A:ac6)(env:Env)(R:Result->ada->Prop):adb->ada->Prop:=notedBy (model prog w) A env λe s'=>R (.error e) s'
theorem Nb{elt tg iter:Expr}{ifs:List Expr}{scope:Scope}{pos:Pos}{it acc:adb}{env:Env}(Iv:Nat->ada->Prop)
  (turn:∀n t,Iv n t->adq (model prog w) A (pyNext it) (λr t1=>match r with
   | none=>R (.ok .next) t1
   | some v=>adq (model prog w) A (letOwnedTupleGo tg it v) (λ_ t2=>adq (model prog w) A (assign tg env v) (λ_ t3=>
     adq (model prog w) A (forIn ifs true λc r=>if r=true then do let ok <-isTrue c env (eval c env);pure (lR ok) else pure (lR r)) (λok t4=>
      if ok=true then adq (model prog w) A (eval elt env) (λx t5=>adq (model prog w) A (call (.builtin "list.append") [acc,x]) (λ_ t6=>∃m,m < n/\Iv m t6) (NB prog w A env R) t5) (NB prog w A env R) t4
      else ∃m,m < n/\Iv m t4) (NB prog w A env R) t3) (NB prog w A env R) t2) (NB prog w A env R) t1) (NB prog w A env R) t)
  (n:Nat) (h:Iv n s):adi (model prog w) A (.compLoop (.ListComp elt [⟨tg,iter,ifs,0⟩] scope pos) 0 it acc env) R s:=by
 refine codeAny_loop rfl Iv (λn t hI=>?_) n h
 show adq _ A ((compTurn (.ListComp elt [⟨tg,iter,ifs,0⟩] scope pos) 0 it acc env).onRaise (λx=>do noteFrame x env;theTreesLotGoes x)) _ _ t
 refine wpAny_noted ?_
 rw[compTurn_list]
 refine ads (wpAny_standAt (ads (adv (turn n t hI) (λr t1 g1=>?_) λ_ _ z=>z)))
 cases r with
 | none=>exact ady g1
 | some v=>
  refine ads (adv g1 (λ_ t2 g2=>ads (adv g2 (λ_ t3 g3=>ads (adv g3 (λok t4 g4=>?_) λ_ _ z=>z)) λ_ _ z=>z)) λ_ _ z=>z)
  cases ok with
  | false=>exact ady ⟨rfl,g4⟩
  | true=>exact ads (ads (adv g4 (λx t5 g5=>ads (adv g5 (λ_ t6 g6=>ady (ady ⟨rfl,g6⟩)) λ_ _ z=>z)) λ_ _ z=>z))
end
section
variable {X:Cx}
theorem vY{pins:List (ac5×Obj)}{σ:St}{ρ:bH}{scope:Scope}{x:Str}{xr:List Str}{cs:dN}{es:List Expr}{kt:Nat}{pt pos:Pos}{elt iter:Expr}{ifs:List Expr}{gt:GT}{ge:GE}{ck:Hs->Prop}{ws:List Wv}{E:adb->ada->Prop}
  {RR:adb->ac5->Result->ada->Prop}
  {it:ac5}{fp:List ac5}{tn:Nat->Heap->Prop}{J':It}{H2:Hp}{s2:ada}{m1:Mp}{st1 mi:Hs}(S:kU X scope x xr cs)(sl:eW es (x::xr))(hc:X.calm=true)(I2:Inv X pins σ H2 s2)(T:Turn X.prog X.w X.K (.Tuple es kt pt) J' fp it tn)(t0:tn 0 s2.heap)(f2:∀b∈fp,eK X pins H2 b)
  (S1:bf X.K m1 st1 H2)(R:ay X.K m1 H2 ρ σ)(hck:ck (st1++[.lst []]))(run:fW ck (x::xr).length (λw=>gt (w.map some++eT cs ρ)) (λw=>ge (w.map some++eT cs ρ)) st1.length ws (st1++[.lst []])=some mi)
  (hE:∀C s0 H0 pn,JE (eV X scope (x::xr) cs C s0 H0 fp pn) elt ge)(hT:∀C s0 H0 pn,Bi (eV X scope (x::xr) cs C s0 H0 fp pn) ifs gt)
  (hgo:∀(k:Nat)(H:Hp)(m':Mp)(st:Hs),Ext X.K m1 H2 m' H->bf X.K m' st H->ck st->k < ws.length->J'.go k H)(hstop:∀(k:Nat)(H:Hp)(m':Mp)(st:Hs),Ext X.K m1 H2 m' H->bf X.K m' st H->ck st->k=ws.length->J'.stop k H)
  (hy:∀(k:Nat)(hk:k < ws.length)(H:Hp)(v:V)(H':Hp)(m':Mp)(st:Hs),Ext X.K m1 H2 m' H->bf X.K m' st H->ck st->J'.vh k H v H'->Ext X.K m' H m' H'/\bf X.K m' st H'/\ah X.K m' H' ws[k] v)
  (fin:∀(D C:ac5)(mm:Str->Option adb)(m':Mp)(H':Hp)(s':ada),Ext X.K m1 H2 m' H'->bf X.K m' mi H'->m'[st1.length]? =some D->Inv X pins σ H' s'->eK X pins H' C->s'.heap.Ns C mm->(∀y c,X.env.cells.lookup y=some c->c≠C)->RR (.ref D) C (.ok .next) s') :
  adq (model X.prog X.w) X.A (newList []) (λacc s3=>adq (model X.prog X.w) X.A (newFunctionEnv scope X.env.globals (mh X.env scope.names []) [] X.env.qual none .none (some X.env)) (λcenv s4=>
   adi (model X.prog X.w) X.A (.compStart (.ListComp elt [⟨.Tuple es kt pt,iter,ifs,0⟩] scope pos) 0 (.ref it) acc { cenv with scope:=relabel scope X.env }) (RR acc cenv.locals) s4) E s3) E s2:=by
 refine adw ?_
 have I3:Inv X pins σ (upd H2 s2.heap.objs.size (.lst [])) { s2 with heap:=s2.heap.push { cls:=.type "list",data:=.seq ([]:List adb).toArray } }:=I2.Hu (ys:=[]) (its:=[]) (t':=s2.toks) .nil (bq _)
 have QF:∀b∈fp,b < s2.heap.objs.size:=λb hb=>by
  obtain⟨o,e,_⟩:=T.obj _ _ t0 b hb
  exact aF e
 have hD:H2 s2.heap.objs.size=none:=I2.fresh
 have f3:∀b∈fp,eK X pins (upd H2 s2.heap.objs.size (.lst [])) b:=λb hb=>⟨by rw[aG (aR (QF b hb))];exact(f2 b hb).1,(f2 b hb).2⟩
 have S3:=S1.alloc (ws:=[]) (xs:=[]) hD ai.nil
 have e3:Ext X.K m1 H2 (m1++[s2.heap.objs.size]) (upd H2 s2.heap.objs.size (.lst [])):=Ext.more.trans (Ext.upd (.inl hD))
 have Ih:(m1++[s2.heap.objs.size])[st1.length]? =some s2.heap.objs.size:=by
  rw[<-S1.len,fV (aq _),mJ];rfl
 generalize DS:({ s2 with heap:=s2.heap.push { cls:=.type "list",data:=.seq ([]:List adb).toArray } }:ada)=s3 at I3
 have QG:∀b o,s2.heap.get? b=some o->s3.heap.get? b=some o:=λb o e=>by rw[<-DS];exact aK _ e
 have OU:∀b∈fp,b < s3.heap.objs.size:=λb hb=>by
  obtain⟨o,e,_⟩:=T.obj _ _ t0 b hb
  exact aF (QG b o e)
 generalize ZU:s2.heap.objs.size=D at *
 generalize ZV:upd H2 D (.lst [])=H3 at *
 generalize ZW:m1++[D]=m3 at *
 have R3:ay X.K m3 H3 (eT cs ρ) (mS cs σ):=(zm cs R).mono e3
 generalize hrr:eT cs ρ=ρc at *
 generalize hss:mS cs σ=σc at *
 refine wpAny_newFunctionEnv S.one.cell (λ_ z=>nomatch z) (λh4 UH QH=>?_) S.one.kind
 have Ic:=inv2 (tk:=s3.toks+([]:List (Str×adb)).length) S hc I3 f3 OU UH QH
 rw[hss] at Ic
 have UI:∀b o,s3.heap.get? b=some o->h4.get? b=some o:=λb o e=>(QH.2 b (aR (aF e))).trans (aK _ e)
 have t4:tn 0 h4:=T.keep _ _ _ t0 λb _ o e=>UI b o (QG b o e)
 let Xc:=eV X scope (x::xr) cs s3.heap.objs.size s3 H3 fp (X.pn++pins)
 have vis:∀y∈x::xr,Xc.env.scope.names.lookup y=some .local:=λy hy=>lookup_relabel_local (S.var y hy)
 have U1:Slots Xc es (jf 0 (x::xr).length):=Ei (Y:=Xc) [] (cs.map (·.1)) sl rfl vis
 have MQ:∀(H':Hp),(∀b∈fp,H' b=none)->∀b∈fp,eK Xc [] H' b:=λH' hn b hb=>⟨hn b hb,aR (OU b hb),qu I3 (f3 b hb),.inl hb,λy c e=>(f3 b hb).2.2.2.2.1 y c (S.one.sub I3.ok e),λp hp=>(f2 b hb).2.2.2.2.2 p (by have QI:p∈(X.pn++pins)++[]:=hp;rw[gJ] at QI;exact QI)⟩
 let Pv:Nat->ada->Prop:=λk s'=>∃σ' H' st m',Inv Xc [] σ' H' s'/\ay X.K m' H' (aJ (x::xr).length none++ρc) σ'/\tn k s'.heap/\(∀b∈fp,H' b=none)/\Ext X.K m3 H3 m' H'/\bf X.K m' st H'/\ck st/\fW ck (x::xr).length (λw=>gt (w.map some++ρc)) (λw=>ge (w.map some++ρc)) st1.length (ws.drop k) st=some mi
 have loop:∀s4:ada,Pv 0 s4->adi (model X.prog X.w) X.A (.compLoop (.ListComp elt [⟨.Tuple es kt pt,iter,ifs,0⟩] scope pos) 0 (.ref it) (.ref D) (compEnvC scope (mh X.env scope.names []) s3.heap.objs.size X.env)) (RR (.ref D) s3.heap.objs.size) s4:=λs4 p0=>by
  refine Nb (λn s'=>∃k,n=ws.length - k/\k<=ws.length/\Pv k s') ?_ ws.length ⟨0,by simp,bq _,p0⟩
  rintro n s5 ⟨k,rfl,hk,σ5,H5,tP,m5,I5,R5,QJ,Lx,e5,S5,c5,aZ⟩
  have DT:=e3.trans e5
  by_cases hlt:k < ws.length
  ·refine bo (T.item Xc rfl rfl rfl hc k [] s5 σ5 H5 _ I5 (MQ H5 Lx) QJ (hgo k H5 m5 tP DT S5 c5 hlt)) λr s6 h6=>?_
   obtain⟨u,rfl,h6⟩:=h6
   refine bo h6 λ_ s7 h7=>?_
   obtain⟨v,H7,I7,rv,yl,MR,UJ⟩:=h7
   obtain⟨eY,S7,QK⟩:=hy k hlt H5 v H7 m5 tP DT S5 c5 yl
   have UK:=I7.pinned (MQ H7 UJ) (T.obj _ _ MR)
   have XU:=e5.trans eY
   have ed:ws.drop k=ws[k]::ws.drop (k+1):=lQ hlt
   rw[ed] at aZ
   unfold fW at aZ
   cases ep:Eh (x::xr).length ws[k] with
   | none=>rw[ep] at aZ;cases aZ
   | some us=>
   rw[ep] at aZ
   dsimp only at aZ
   have ht:ws[k]= .tup us/\us.length=(x::xr).length:=by
    cases eb:ws[k] with
    | tup vs=>
     rw[eb] at ep
     replace ep:(if vs.length=(x::xr).length then some vs else none)=some us:=ep
     by_cases cl:vs.length=(x::xr).length
     ·rw[if_pos cl] at ep;cases ep;exact⟨rfl,cl⟩
     ·rw[if_neg cl] at ep;cases ep
    | _=>rw[eb] at ep;cases ep
   rw[ht.1] at QK
   unfold ah at QK
   obtain⟨tb,ys,rfl,f1,XW⟩:=QK
   have e5s:qp (jf 0 (x::xr).length) us (aJ (x::xr).length none++ρc)=some (us.map some++ρc):=by
    have q:=Kf us [] (aJ (x::xr).length none) ρc (by rw[i9];exact ht.2.symm)
    rw[ht.2] at q
    exact q
   have asg:=tM (X:=Xc) (k:=kt) (pos:=pt) hc (iV S.nd U1) (j6 U1) (iW U1) ([]++dJ fp s7.heap) s7 σ5 H7 (.ref tb) u (λσ' H'=>H'=H7/\ay X.K m5 H' (us.map some++ρc) σ') UK rv ⟨tb,ys,rfl,eJ.of f1,by rw[<-XW.length,ht.2];simp,j5 (X:=Xc) XW (R5.mono eY) e5s λσ' R'=>⟨rfl,R'⟩⟩
   refine adv asg (λ_ s8 h8=>?_) λ_ _ z=>ae z
   obtain⟨σ8,H8,Sz,rfl,R8⟩:=h8
   have back:∀{H':Hp}{s':ada}{m':Mp}{st:Hs},Inv Xc ([]++dJ fp s7.heap) σ8 H' s'->Ext X.K m3 H3 m' H'->Ext X.K m5 H8 m' H'->bf X.K m' st H'->ck st->fW ck (x::xr).length (λw=>gt (w.map some++ρc)) (λw=>ge (w.map some++ρc)) st1.length (ws.drop (k+1)) st=some mi->∃n',n' < ws.length - k/\∃k',n'=ws.length - k'/\k'<=ws.length/\Pv k' s' :=
    λ{H' s' m' st} I' e' e8 S' c' r'=>⟨ws.length - (k+1),by omega,k+1,rfl,hlt,σ8,H',st,m',I'.jT,by have q:=U0 (R8.mono e8);rw[ht.2] at q;exact q,T.keep _ _ _ MR λb hb o e=>(I'.pin (b,o) (dq _ (dq _ (fk hb e)))).1,λb hb=>by
     obtain⟨o,e,_⟩:=T.obj _ _ MR b hb
     exact(I'.pin (b,o) (dq _ (dq _ (fk hb e)))).2.1,e',S',c',r'⟩
   cases eg:gt (us.map some++ρc) tP with
   | err c Ce=>rw[eg] at aZ;cases aZ
   | bad=>rw[eg] at aZ;cases aZ
   | ok b Ce=>
    rw[eg] at aZ
    have J2:=hT s3.heap.objs.size s3 H3 (X.pn++pins) (us.map some++ρc) tP σ8 H8 m5 (λb' H'=>b'=b/\∃m',Ext X.K m5 H8 m' H'/\bf X.K m' Ce H') S7 R8 (by rw[eg];exact λm' H' e' S'=>⟨rfl,m',e',S'⟩) ([]++dJ fp s7.heap) s8 Sz
    refine adv J2 (λok s9 h9=>?_) λ_ _ z=>ae z
    obtain⟨H9,I9,rfl,m9,e9,S9⟩:=h9
    cases ok with
    | false=>
     dsimp only at aZ
     by_cases c6:ck Ce
     ·rw[if_pos c6] at aZ
      rw[if_neg cR]
      exact back I9 (XU.trans e9) e9 S9 c6 aZ
     ·rw[if_neg c6] at aZ;cases aZ
    | true=>
     dsimp only at aZ
     rw[if_pos rfl]
     cases ee:ge (us.map some++ρc) Ce with
     | err c Ii=>rw[ee] at aZ;cases aZ
     | bad=>rw[ee] at aZ;cases aZ
     | ok w Ii=>
      rw[ee] at aZ
      dsimp only at aZ
      cases ea:oZ (.ref st1.length) w Ii with
      | err c MS=>rw[ea] at aZ;cases aZ
      | bad=>rw[ea] at aZ;cases aZ
      | ok w2 MS=>
       rw[ea] at aZ
       dsimp only at aZ
       by_cases c8:ck MS
       ·rw[if_pos c8] at aZ
        have el:=hE s3.heap.objs.size s3 H3 (X.pn++pins) (us.map some++ρc) Ce σ8 H9 m9 (λv' H'=>∃m',Ext X.K m9 H9 m' H'/\bf X.K m' Ii H'/\ah X.K m' H' w v') S9 (R8.mono e9) (by rw[ee];exact λv' m' H' e' S' r'=>⟨m',e',S',r'⟩) ([]++dJ fp s7.heap) s9 I9
        refine adv el (λu2 UL QL=>?_) λ_ _ z=>ae z
        obtain⟨v2,DU,UM,r2,MT,SD,UN,MU⟩:=QL
        obtain⟨r,h1,h2⟩:=xD (X:=Xc)
        have eA:=(XU.trans e9).trans SD
        have ro:ah X.K MT DU (.ref st1.length) (.ref D):=by unfold ah;exact⟨D,rfl,eA.pre _ _ Ih⟩
        have rd:=h2 (.ref st1.length) w (.ref D) v2 Ii DU MT (λ_ H'=>∃m',Ext X.K MT DU m' H'/\bf X.K m' MS H') UN ro MU (by rw[ea];exact λv' m' H' e' S' r'=>⟨m',e',S'⟩)
        refine adv (h1 ([]++dJ fp s7.heap) UL σ8 DU (.ref D) [v2] (.ref D) [u2] _ UM rfl (.cons r2 .nil) rd) (λ_ ZX h11=>?_) λ_ _ z=>ae z
        obtain⟨_,UO,UP,_,ZY,SF,UQ⟩:=h11
        exact back UP (eA.trans SF) ((e9.trans SD).trans SF) UQ c8 aZ
       ·rw[if_neg c8] at aZ;cases aZ
  ·have ek:k=ws.length:=by omega
   subst ek
   refine bo (T.done Xc rfl rfl rfl hc _ [] s5 σ5 H5 _ I5 (MQ H5 Lx) QJ (hstop _ H5 m5 tP DT S5 c5 rfl)) λr s6 h6=>?_
   obtain⟨rfl,I6⟩:=h6
   rw[nN] at aZ
   cases aZ
   obtain⟨mm,UR,_⟩:=id I6.loc
   have fC:=I3.tN (H':=H5) (aq _) I6.free
   exact fin D _ mm m5 H5 _ DT S5 (e5.pre _ _ Ih) (UZ I3 f3 I6) fC UR fC.2.2.2.2.1
 have Rn:ay X.K m3 H3 (aJ (x::xr).length none++ρc) (aJ (x::xr).length none++σc):=by
  refine⟨by rw[cW,cW,R3.len];simp,λi w e=>?_⟩
  by_cases hi:i < (x::xr).length
  ·rw[eO (by rw[i9];exact hi),tS,if_pos hi] at e
   cases e
  ·rw[fV (by rw[i9];omega),i9] at e ⊢
   exact R3.get _ w e
 have p0:Pv 0 { s3 with heap:=h4,toks:=s3.toks+([]:List (Str×adb)).length }:=⟨_,H3,st1++[Ob.lst []],m3,Ic,Rn,t4,λb hb=>(f3 b hb).1,Ext.refl,S3,hck,by rw[jc];exact run⟩
 exact codeAny_compStart_list (loop _ p0) (T.self X.A 0 _ _ _ t4 (loop _ p0))
def j8(n:Nat)(cs:dN)(gt:GT)(ge:GE)(ρ:bH)(w:QW)(st:Hs):Re Wv:=match fW (uA w.1) n (λv=>gt (v.map some++eT cs ρ)) (λv=>ge (v.map some++eT cs ρ)) st.length w.2 (st++[.lst []]) with
 | some mi=> .ok (.ref st.length) mi
 | none=> .bad
def lT(n:Nat)(cs:dN)(gi:Ef)(gt:GT)(ge:GE):GE:=λρ st=>(gi ρ st).bind λw st1=>j8 n cs gt ge ρ w st1
theorem IG{c:Option (Nat×List Wv)}{st more:Hs}(h:uA c st):uA c (st++more):=by
 cases c with
 | none=>trivial
 | some p=>exact sR h
theorem vZ{scope:Scope}{x:Str}{xr:List Str}{cs:dN}{es:List Expr}{kt:Nat}{pt pos:Pos}{elt iter:Expr}{ifs:List Expr}{gi:Ef}{gt:GT}{ge:GE}{use:Option (adb->Sem Unit)}{Q:adb->ada->Prop}{P:Wv->Hs->Prop}
  {ρ:bH}{st:Hs}{σ:St}{H:Hp}{m:Mp}{pins:List (ac5×Obj)}{s:ada}{ps:Pos}
  (CS:kU X scope x xr cs)(sl:eW es (x::xr))(hc:X.calm=true)(hi:Kd X (.Tuple es kt pt) iter gi)(hE:∀C s0 H0 fp pn,JE (eV X scope (x::xr) cs C s0 H0 fp pn) elt ge)(hT:∀C s0 H0 fp pn,Bi (eV X scope (x::xr) cs C s0 H0 fp pn) ifs gt)(hs:∀x,adl iter X.env x=pure x)
  (S:bf X.K m st H)(R:ay X.K m H ρ σ)(I:Inv X pins σ H s)(p:aw X σ m H (lT (x::xr).length cs gi gt ge ρ st) P)
  (fin:∀(w:Wv)(mi:Hs)(v:V)(D C:ac5)(mm:Str->Option adb)(m':Mp)(H':Hp)(s':ada),P w mi->Ext X.K m H m' H'->bf X.K m' mi H'->ah X.K m' H' w v->v= .ref D->Inv X pins σ H' s'->eK X pins H' C->s'.heap.Ns C mm->adj (model X.prog X.w) X.A X.xe use Q (.ref D) C (.ok .next) s') :
  adq (model X.prog X.w) X.A (comprehension (.ListComp elt [⟨.Tuple es kt pt,iter,ifs,0⟩] scope pos) scope X.env ps (newList []) false (eval iter X.env) use) Q X.xe s:=by
 obtain⟨wi,QO,hw⟩:=hi
 let R':It->Hp->Prop:=λJ' H1=>∃(w:QW)(st1:Hs)(m1:Mp),aw X σ m H (j8 (x::xr).length cs gt ge ρ w st1) P/\Ext X.K m H m1 H1/\bf X.K m1 st1 H1/\uA w.1 st1/\Ee X w m1 H1 J'
 have hr:=hw ρ st σ H m R' S R ((aw.bind p).imp Ext.refl λw st1 q m1 H1 J' e1 S1 c1 uu=>⟨w,st1,m1,q,e1,S1,c1,uu⟩)
 refine wpAny_comprehension_free (g:=⟨.Tuple es kt pt,iter,ifs,0⟩) (gs:=[]) (cl:=mh X.env scope.names []) rfl hs (zk (CS.one.has I.ok)) CS.one.kind (λy hy e=>by rw[CS.one.look y hy,e]) (bo (QO pins s σ H R' I hr) λv s1 h1=>bo h1 λitv s2 h2=>?_)
 obtain⟨it,fp,tn,J',H1,rfl,I2,T,t0,f2,w,st1,m1,q,e1,S1,c1,uu⟩:=h2
 unfold j8 at q
 cases run:fW (uA w.1) (x::xr).length (λv=>gt (v.map some++eT cs ρ)) (λv=>ge (v.map some++eT cs ρ)) st1.length w.2 (st1++[.lst []]) with
 | none=>rw[run] at q;exact ae q
 | some mi=>
  rw[run] at q
  refine vY (RR:=λacc C=>adj (model X.prog X.w) X.A X.xe use Q acc C) CS sl hc I2 T t0 f2 S1 (R.mono e1) (IG c1) run (λC s0 H0 pn=>hE C s0 H0 fp pn) (λC s0 H0 pn=>hT C s0 H0 fp pn) uu.go uu.stop uu.vh ?_
  intro D C mm m' H' s' e' S' Ih I' fC ns _
  exact fin _ mi (.ref D) D C mm m' H' s' q (e1.trans e') S' (by unfold ah;exact⟨D,rfl,Ih⟩) rfl I' fC ns
theorem v5{scope:Scope}{x:Str}{xr:List Str}{cs:dN}{es:List Expr}{kt:Nat}{pt pos:Pos}{elt iter:Expr}{ifs:List Expr}{gi:Ef}{gt:GT}{ge:GE}
  (CS:kU X scope x xr cs)(sl:eW es (x::xr))(hc:X.calm=true)(hi:Kd X (.Tuple es kt pt) iter gi)(hE:∀C s0 H0 fp pn,JE (eV X scope (x::xr) cs C s0 H0 fp pn) elt ge)(hT:∀C s0 H0 fp pn,Bi (eV X scope (x::xr) cs C s0 H0 fp pn) ifs gt)(hs:∀x,adl iter X.env x=pure x) :
  JE X (.ListComp elt [⟨.Tuple es kt pt,iter,ifs,0⟩] scope pos) (lT (x::xr).length cs gi gt ge):=λρ st σ H m Q S R p pins s I=>by
 rw[eval_ListComp]
 refine vZ (use:=none) CS sl hc hi hE hT hs S R I p ?_
 intro w mi v D C mm m' H' s' q e' S' rw' ev I' fC ns
 exact⟨mm,ns,λh' same=>⟨.ref D,H',kR I' fC same,rfl,ev ▸ q v m' H' e' S' rw'⟩⟩
theorem Ej(i:Nat){scope:Scope}{x y:Str}{xr:List Str}{cs:dN}{es:List Expr}{kt:Nat}{pt pos spos py:Pos}{elt iter:Expr}{ifs:List Expr}{gi:Ef}{gt:GT}{ge:GE}(hN:X.N.Nodup)
  (CS:kU X scope x xr cs)(sl:eW es (x::xr))(hc:X.calm=true)(hi:Kd X (.Tuple es kt pt) iter gi)(hE:∀C s0 H0 fp pn,JE (eV X scope (x::xr) cs C s0 H0 fp pn) elt ge)(hT:∀C s0 H0 fp pn,Bi (eV X scope (x::xr) cs C s0 H0 fp pn) ifs gt)(hs:∀x,adl iter X.env x=pure x)
  (hx:X.N[i]? =some y)(hl:Loc X.env.scope y)(hf:X.fn y=true\/X.env.scope.names.lookup y=some .local) :
  JS X (.Assign [.Name y py] (.ListComp elt [⟨.Tuple es kt pt,iter,ifs,0⟩] scope pos) spos) (aY i (lT (x::xr).length cs gi gt ge)):=by
 have sw:∃b,swapsWith (.ListComp elt [⟨.Tuple es kt pt,iter,ifs,0⟩] scope pos) (some (.Name y py)) spos.line X.env=pure b:=⟨_,rfl⟩
 obtain⟨b,sw⟩:=sw
 cases b with
 | false=>exact uj i hN (v5 CS sl hc hi hE hT hs) hx hl sw hf
 | true=>
  intro ρ st σ H m D S R p pins s I
  rw[exec_Assign_Name_used _ _ _ _ sw]
  refine ads (wpAny_standAt (ads ?_))
  show adq _ X.A (do let _ <-comprehension (.ListComp elt [⟨.Tuple es kt pt,iter,ifs,0⟩] scope pos) scope X.env _ (newList []) false (eval iter X.env) (some (assign (.Name y py) X.env))) _ _ s
  refine ads (adv (vZ (use:=some (assign (.Name y py) X.env)) (Q:=λ_ s'=>SP X pins D .next s') CS sl hc hi hE hT hs S R I (aE.cF R p) ?_) (λ_ s' hq=>ady (ady hq)) λ_ _ e=>e)
  intro w mi v D' C mm m' H' s' q e' S' rw' ev I' fC ns
  refine wpAny_assign_Name (nD (i:=i) I' hN hx hl (show RelV v (.ref D') by rw[ev];rfl) (λs2 I2 h2=>?_) hf)
  obtain⟨a,sb,ha⟩:=h2
  have hca:C≠a:=by
   rcases ha with z | z
   ·rw[z];exact fC.2.1
   ·exact ax (fC.2.2.2.2.1 y a z)
  exact⟨mm,ns.sameBut sb hca,λh' same=>⟨_,_,kR I2 fC same,q _ m' H' e' S' ((R.mono e').set i rw')⟩⟩
end
section
variable {X:Cx}
end
section
open PySem.SeqAt PySem.MeetsSeq PySem.MeetsSeq2 PySem.MeetsSeq3
end
section
variable {X:Cx}
end
section
variable {X:Cx}
end
section
variable {X:Cx}
def Ek(kvs:Dc)(gk gx:GE):GE:=λρ st=>(gk ρ st).bind λk st1=>(gx ρ st1).bind λx st2=>match k with
 | .str z=> .ok ((kvs.lookup z).getD x) st2
 | _=> .bad
theorem El{e f:Expr}{gk gx:GE}{x:Str}{p apos cpos:Pos}{kvs:Dc}(he:JE X e gk)(hf:JE X f gx)(M:M2 X (.Name x p) "get" apos e f cpos)(hg:Gl X x)(hd:(x == ("__debug__":Str))=false)(D:vW X.K X.w X.mg x kvs):JE X (.Call (.Attribute (.Name x p) "get" apos) [e,f] [] cpos) (Ek kvs gk gx):=by
 intro ρ st σ H m Q S R pp pins s I
 obtain⟨a,es,ep,g1,g2,g3,g4,g5⟩:=D
 have k1:=he.go (T:=λy H2=>∃k st1 m1,cY X σ m H ((gx ρ st1).bind λx st2=>match k with | .str z=> .ok ((kvs.lookup z).getD x) st2 | _=> .bad) Q/\Ext X.K m H m1 H2/\bf X.K m1 st1 H2/\ah X.K m1 H2 k y) S R (aw.bind pp) λw st1 v m1 H1 p1 e1 S1 rw'=>⟨w,st1,m1,p1,e1,S1,rw'⟩
 refine wpAny_Call_method M.base M.few M.line PySem.F.plainAttrs_dict PySem.F.slot_dict_get PySem.F.type_dict_get (bo (i7 (v:=.ref a) hg g1 rfl hd pins s σ H (λv H2=>v= .ref a/\H2=H) I ⟨rfl,rfl⟩) λu s1 ⟨v,H1,I1,rv,ev,eH⟩=>?_)
 subst ev
 cases eH
 obtain rfl:u=aQ a:=rv
 refine⟨⟨_,I1.w_ _ _ g2,rfl⟩,λa' e=>by cases e;exact⟨_,I1.w_ _ _ g2,rfl⟩,?_⟩
 rw[M.trees]
 refine pZ rfl (t7 (lL (bo (k1 pins s1 I1) λiv s2 ⟨y,H2,I2,ry,k,st1,m1,p1,e1,S1,rk⟩=>?_)))
 have k2:=hf.go (T:=λz H3=>∃x' st2 m2,cY X σ m H (match k with | .str z=> .ok ((kvs.lookup z).getD x') st2 | _=> .bad) Q/\Ext X.K m H m2 H3/\bf X.K m2 st2 H3/\ah X.K m2 H3 x' z) S1 (R.mono e1) ((aw.bind p1).imp e1 λ_ _ q=>q) λw st2 v m2 H3 p2 e2 S2 rw'=>⟨w,st2,m2,p2,e1.trans e2,S2,rw'⟩
 refine lL (bo (k2 pins s2 I2) λfv s3 ⟨z,H3,I3,rz,x',st2,m2,p2,e2,S2,rx⟩=>tR ?_)
 cases k with
 | str zs=>
  obtain⟨rfl,_⟩:=eS rk
  obtain⟨t,rfl⟩:=(show ∃t,iv=pj zs t from ry)
  obtain⟨vs,dd,look⟩:=zI (P:=X.prog) (w:=X.w) I3.w_ g2 g4 g5
  refine call_meetsIn PySem.F.slot_dict_get dd.typeIs PySem.F.entry_dict_get (PySem.F.args_dict_get_3 _ _ _) (meets_dict_get_default (PySem.strKind X.prog X.w) a (strKind_is X.prog X.w zs t) g3 fv) ⟨_,dd.mapOf,?_⟩
  have p2':OR X.K m H Q ((kvs.lookup zs).getD x') st2:=p2
  cases e:kvs.lookup zs with
  | none=>
   rw[e] at p2'
   have q:=(look zs).1 e
   show EP X pins σ Q ((valueAt vs zs).getD fv) _
   rw[q]
   exact⟨z,H3,I3.tok _,rz,p2' z m2 H3 e2 S2 rx⟩
  | some u=>
   rw[e] at p2'
   obtain⟨u',q1,q2⟩:=(look zs).2 u e
   show EP X pins σ Q ((valueAt vs zs).getD fv) _
   rw[q1]
   cases u with
   | int i=>exact⟨.int i,H3,I3.tok _,q2,p2' _ m2 H3 e2 S2 (by unfold ah;rfl)⟩
   | str y=>exact⟨.str y,H3,I3.tok _,q2.1,p2' _ m2 H3 e2 S2 (by unfold ah;exact⟨rfl,q2.2⟩)⟩
   | _=>exact ae q2
 | _=>exact ae p2
end
def IH:List Wv->Hs->Re Wv:=λ_ _=> .bad
theorem uB{P:ac9}{w:ade}{K:PySem.W.Frag}{mg:Str->Option adb}{base:Heap}{h:Heap}{k:Nat}{x:Str}{st:Stmt}{ps:List Str}(KX:K.In h)(NS:h.Ns adn mg)(D:bj K x st)
  (hb:∀(kV doc pm:adb)(an:Option ac5)(cdv ct:adb)(us:List adb),us.length=ps.length->bindArgs (PySem.W.fnOf x x (defArgs st) (defBody st) (defScope st) .none kV doc pm an cdv ct) ⟨us,[]⟩=pure (ps.zip us)) :
  rM P w K mg base k x ps.length IH:=by
 obtain⟨f,fd,a,F⟩:=D
 exact⟨f,fd,ps,⟨λvs H Q E ⟨_,_,_,_,_,_,p⟩=>ae p,λA outer s H args us vs Q E hr e0 hb r ⟨_,_,_,_,_,_,p⟩=>ae p⟩,PySem.W.mg_of KX NS a,F.kp,F.binds hb⟩
section
variable {X:Cx}
theorem Em:fB X (adg .Mult) (λx y H Q=>∃z n,x= .str z/\y= .int n/\(n=0\/n=1)/\Q (.str (if n=0 then PySem.Str.empty else z)) H):=by
 intro pins s σ H x y v u Q I rx ry h
 obtain⟨z,n,rfl,rfl,hn,q⟩:=h
 obtain⟨t,rfl⟩:=rx
 obtain⟨t',rfl⟩:=ry
 rcases hn with rfl | rfl
 ·exact PySem.P.mul_str_none (by omega) (by omega) ⟨.str PySem.Str.empty,H,I.tok _,⟨_,rfl⟩,q⟩
 ·refine PySem.P.mul_str (by decide) (λ_ h=>by cases h) (λ_ h=>by cases h) ?_
  rw[if_neg (by omega),if_pos (by rfl)]
  exact⟨.str z,H,I,⟨t,rfl⟩,q⟩
def cG:f_:=λx y st=>match x,y with
 | .str z,.int n=>if n=0\/n=1 then .ok (.str (if n=0 then PySem.Str.empty else z)) st else qw (.str z) (.int n) st
 | x,y=>qw x y st
theorem En:kM X (adg .Mult) cG:=by
 obtain⟨r,h1,h2⟩:=Il (X:=X)
 refine⟨_,fB.or Em h1,λx y a b st H m Q S rx ry p=>?_⟩
 cases x with
 | str z=>
  cases y with
  | int n=>
   have p':eE X.K m H (if n=0\/n=1 then .ok (.str (if n=0 then PySem.Str.empty else z)) st else qw (.str z) (.int n) st) Q:=p
   by_cases c:n=0\/n=1
   ·rw[if_pos c] at p'
    obtain⟨rfl,ok⟩:=eS rx
    refine .inl ⟨z,n,rfl,aI ry,c,p' _ m H Ext.refl S (mkStr ?_)⟩
    by_cases c0:n=0
    ·rw[if_pos c0];decide+kernel
    ·rw[if_neg c0];exact ok
   ·rw[if_neg c] at p'
    exact .inr (h2 _ _ _ _ st H m Q S rx ry p')
  | _=>exact .inr (h2 _ _ _ _ st H m Q S rx ry p)
 | _=>exact .inr (h2 _ _ _ _ st H m Q S rx ry p)
end
abbrev LF:=List Wv->List Wv->Hs->Re Wv
def gZ(X:Cx)(H:Hp)(s:ada):Heap:=PySem.W.hideAll (rD s.heap H) (frs X.stack)
section
variable {X:Cx} {pins:List (ac5×Obj)} {σ:St} {H:Hp} {s:ada}
theorem QX{b:ac5}{o:Obj}(e:(gZ X H s).get? b=some o):s.heap.get? b=some o/\H b=none:=yN (PySem.W.of_hideAll _ e)
theorem xJ{b:ac5}{o:Obj}(e:s.heap.get? b=some o)(n:H b=none)(hf:b∉frs X.stack):(gZ X H s).get? b=some o:=PySem.W.hideAll_get _ (ml e n) hf
theorem qC(I:Inv X pins σ H s):∀b o,X.base.get? b=some o->(gZ X H s).get? b=some o:=λb o e=>by
 obtain⟨e1,e2⟩:=I.bs b o e
 refine xJ e1 e2 λz=>?_
 rcases List.mem_cons.mp (I.lI b z) with q | q
 ·have h1:X.base.get? b=none:=by
   rw[q]
   exact La (bp I.ok.GQ I.ok.above)
  rw[e] at h1;cases h1
 ·exact I.ok.Pa e q
theorem Eo(I:Inv X pins σ H s):Mod X.K X.mg (gZ X H s) :=
 ⟨I.mod.K9.keeps (qC I),I.mod.glob.keeps (qC I),let ⟨mb,h1,h2⟩:=I.mod.blt;⟨mb,h1.keeps (qC I),h2⟩,I.mod.nolimit.keeps (qC I)⟩
theorem zL{h B B':Heap}:∀{l:List Env},(∀env∈l,∀L,env.frame=some L->B'.get? L=none)->h.FunFrames B l->h.FunFrames B' l
 | [],_,_=>trivial
 | env::r,hn,⟨hk,⟨L,o,hf,_,ho,hd⟩,hr⟩=>⟨hk,⟨L,o,hf,hn env (.head _) L hf,ho,hd⟩,zL (λe he=>hn e (.tail _ he)) hr⟩
theorem II(I:Inv X pins σ H s):xi X.prog X.w X.K X.mg (gZ X H s) X.A X.stack s H :=
 ⟨I.ok.frames,Eo I,λb o e=>QX e,by unfold gZ;rw[PySem.W.hideAll_size,sj];exact aq _,
  zL (λenv he L hL=>PySem.W.hideAll_none _ (List.mem_filterMap.mpr ⟨env,he,hL⟩)) I.stack,I.pk,I.hok,I.bare⟩
end
def XX(K:PySem.W.Frag)(n:Nat)(p:Lm)(L:LF):Sp:=λvs H Q E=>∃m st ws caps,bf K m st H/\ai K m H ws vs/\ai K m H caps p.xs/\H p.c=some (.ext (qd p.c p.q))/\ws.length=n/\Dr K m H (L caps ws st) Q E
def qD(P:ac9)(w:ade)(K:PySem.W.Frag)(mg:Str->Option adb)(base:Heap)(k:Nat)(p:Lm)(n:Nat)(L:LF):Prop :=
 ∃fd ps ob,FnOk P w K mg base (CXJ P w) k p.a fd ps (XX K n p L)/\base.get? p.a=some ob/\ob.data= .func fd/\Binds K fd ps []
open Classical in
def lU(p:Lm)(n:Nat)(L:LF)(i:Nat)(g:GA):GE:=λρ st=>match ρ[i]? with
 | some (some (.fn p' caps))=>if p'=p then(g ρ st).bind λws st1=>if ws.length=n then L caps ws st1 else .bad else .bad
 | _=> .bad
section
variable {X:Cx}
theorem Ep{k n:Nat}{p:Lm}{L:LF}{x:Str}{i:Nat}{pp pos:Pos}{e:Expr}{es:List Expr}{g:GA}(G:qD X.prog X.w X.K X.mg X.base k p n L)(hr:iw k X.A)(hN:X.N[i]? =some x)(hv:ON X.env.scope x)(ha:JA X (e::es) g)
  (hd:(x == ("__debug__":Str))=false)(hcd:(x == ("__classdict__":Str))=false)(he:adp (e::es) X.env=(false,eval e X.env)::adp es X.env:=by rfl)(hpl:(backTo pos (adp es X.env)).any (·.1)=false:=by rfl) :
  JE X (.Call (.Name x pp) (e::es) [] pos) (lU p n L i g):=by
 intro ρ st σ H m Q S R pq pins s I
 unfold lU at pq
 cases er:ρ[i]? with
 | none=>rw[er] at pq;exact ae pq
 | some ow=>
  rw[er] at pq
  cases ow with
  | none=>exact ae pq
  | some w=>
   cases w with
   | fn p' caps=>
    dsimp only at pq
    by_cases ep:p'=p
    ·rw[if_pos ep] at pq
     subst ep
     obtain⟨v,ev,rv⟩:=R.get i _ er
     have rv0:=rv
     unfold ah at rv
     obtain⟨rfl,hc,rc⟩:=rv
     obtain⟨fd,ps,ob,F,ho,hod,hb⟩:=G
     have args:=ha.go (T:=λvs H1=>∃ws st1 m1,cY X σ m H (if ws.length=n then L caps ws st1 else .bad) Q/\Ext X.K m H m1 H1/\bf X.K m1 st1 H1/\ai X.K m1 H1 ws vs) S R (aw.bind pq)
      λws st1 vs m1 H1 p1 e1 S1 rs=>⟨ws,st1,m1,p1,e1,S1,rs⟩
     refine wpAny_Call_Name_kw (bo (Ci hN hv hd hcd pins s σ H (λv H'=>v= .ref p'.a/\H'=H) I ⟨_,ev,rfl,rfl⟩) λu s0 ⟨v,H0,I0,r0,hv0,hH0⟩=>?_)
     subst hv0 hH0
     obtain rfl:u=aQ p'.a:=r0
     let K1:PySem.W.Frag:=[(p'.a,ob)]
     have k1:PySem.W.keepIn K1 (.ref p'.a)=true:=by
      obtain⟨oc,od,da,sl⟩:=ob
      dsimp only at hod
      subst hod
      simp[PySem.W.keepIn,K1]
     have QY:∀{h:Heap},h.get? p'.a=some ob->K1.In h:=λ{h} q a o e=>by
      simp only[K1,b_,List.lookup_nil] at e
      cases q2:a == p'.a with
      | true=>rw[q2] at e;cases e;rw[eq_of_beq q2];exact q
      | false=>rw[q2] at e;cases e
     refine PySem.W.callWith_K (K:=K1) (h₀:=X.base) (QY ho) k1 (bo (args pos pins s0 I0) λus s1 ⟨vs,H1,I1,r,ws,st1,m1,p1,e1,S1,rs⟩=>⟨QY (I1.bk _ _ ho),?_⟩) he hpl
     by_cases c:ws.length=n
     ·rw[if_pos c] at p1
      let E:XK:=λcl _ H2=>∃c' st2 m2 C,cl= .ref C/\ClsAt X.K c' C/\L caps ws st1= .err c' st2/\Ext X.K m1 H1 m2 H2/\bf X.K m2 st2 H2
      have sp:XX X.K n p' L vs H1 Q E:=by
       refine⟨m1,st1,ws,caps,S1,rs,ai.mono e1 _ _ rc,e1.ext _ _ hc,c,?_⟩
       cases er:L caps ws st1 with
       | ok w st2=>rw[er] at p1;exact cY.shift (r:=.ok w st2) p1 e1
       | err c' st2=>exact λm2 H2 C e2 S2 hC=>⟨c',st2,m2,C,rfl,hC,er,e2,S2⟩
       | bad=>rw[er] at p1;exact ae p1
      have hl:us.length=ps.length:=by rw[<-r.length];exact F.len _ _ _ _ sp
      have bd:=hb s1 us I1.w_ (by rw[gJ];exact hl)
      rw[gJ] at bd
      refine wpAny_call (codeAny_mono (F.run X.A X.stack s1 H1 ⟨us,[]⟩ us vs Q E hr I1.PL bd r sp) λrr s2 hq=>?_)
      cases rr with
      | error x=>
       obtain⟨H2,C,fl,c',st2,m2,C',ec,hC,er,e2,S2⟩:=hq
       cases ec
       rw[er] at p1
       exact p1 m2 H2 x s2 (e1.trans e2) S2 ⟨C,pins,H1,s1,hC,I1,.inl fl.any⟩
      | ok fw=>
       cases fw with
       | ret u=>exact I1.after hq
       | next=>exact ae hq
       | brk=>exact ae hq
       | cont=>exact ae hq
     ·rw[if_neg c] at p1;exact ae p1
    ·rw[if_neg ep] at pq;exact ae pq
   | _=>exact ae pq
end
def freeOf(sc:Scope):List Str:=(sc.names.filter λp=>decide (p.2= .free)).map (·.1)
structure zM(sc:Scope)(x1 x2 x3 y:Str):Prop where
 kind:sc.kind= .function
 co:sc.isCoroutine=false
 gen:sc.isGenerator=false
 Er:∀p∈sc.names,p.2≠.cell
 p1:sc.names.lookup x1=some .local
 p2:sc.names.lookup x2=some .local
 p3:sc.names.lookup x3=some .local
 fr:freeOf sc=[y]
 fy:sc.names.lookup y=some .free
 nd:[x1,x2,x3,y].Nodup
abbrev jg(x1 x2 x3:Str)(a1 a2 a3:Option Expr)(q1 q2 q3:Pos):Arguments:=⟨[],[⟨x1,a1,q1⟩,⟨x2,a2,q2⟩,⟨x3,a3,q3⟩],none,[],[],none,[]⟩
theorem Es{x1 x2 x3:Str}{a1 a2 a3:Option Expr}{q1 q2 q3:Pos}{name qual:Str}{body:Expr}{scope:Scope}{cl:List (Str×ac5)}{pm cdv ct:adb}(QZ:x1≠x2)(Q0:x1≠x3)(Q1:x2≠x3)(u1 u2 u3:adb) :
  bindArgs (PySem.W.kla_fn name qual (jg x1 x2 x3 a1 a2 a3 q1 q2 q3) body scope cl pm cdv ct) ⟨[u1,u2,u3],[]⟩=pure [(x1,u1),(x2,u2),(x3,u3)]:=by
 have h:([x1,x2,x3]:List Str).filter (λn=>(mR n [(x1,u1),(x2,u2),(x3,u3)]).isNone)=[]:=by
  rw[List.filter_eq_nil_iff]
  intro n hn
  simp only[aV,bb,or_false] at hn
  simp only[b_,List.lookup_nil]
  rcases hn with rfl | rfl | rfl
  ·simp
  ·split<;>simp
  ·split
   ·simp
   ·split<;>simp
 have e21:(x2 == x1)=false:=beq_eq_false_iff_ne.mpr (ax QZ)
 have e31:(x3 == x1)=false:=beq_eq_false_iff_ne.mpr (ax Q0)
 have e32:(x3 == x2)=false:=beq_eq_false_iff_ne.mpr (ax Q1)
 have hs:notAStandIn cJ=pure ():=rfl
 unfold bindArgs
 simp[seqItems?,h,hs,b_,e21,e31,e32]
abbrev v7(p:Lm)(scope:Scope)(L:ac5)(cl:List (Str×ac5)):Env:=PySem.W.envX p.q scope L p.a (.ref p.c) cl
def GH(P:ac9)(w:ade)(K:PySem.W.Frag)(mg:Str->Option adb)(base:Heap)(N:List Str)(p:Lm)(scope:Scope)(cl:List (Str×ac5))(A:ac6)(outer:List Env)(s:ada)(H:Hp)(E:XK):Cx where
 prog:=P
 w:=w
 K:=K
 mg:=mg
 base:=base
 A:=A.deeper (v7 p scope s.heap.objs.size cl)
 N:=N
 s₀:=s
 H₀:=H
 env:=v7 p scope s.heap.objs.size cl
 outer:=outer
 stack:=v7 p scope s.heap.objs.size cl::outer
 ex:=[]
 fn:=λ_=>false
 calm:=true
 pn:=[]
 xe:=λe s'=>adq (model P w) (A.deeper (v7 p scope s.heap.objs.size cl)) (leaving (v7 p scope s.heap.objs.size cl) e) (λ_ s''=>CXJ P w outer H s E e s'') (λe' s''=>CXJ P w outer H s E e' s'') s'
theorem Et{y x:Str}{c c':ac5}(h:mR x [(y,c)]=some c'):x=y/\c'=c:=by
 rw[b_] at h
 cases q:x == y with
 | true=>rw[q] at h;cases h;exact⟨eq_of_beq q,rfl⟩
 | false=>rw[q] at h;cases h
theorem Eu{l:List (Str×ac8)}{x:Str}(h:l.lookup x=some .free):x∈(l.filter λp=>decide (p.2= .free)).map (·.1) :=
 List.mem_map.mpr ⟨(x,.free),List.mem_filter.mpr ⟨PySem.mem_of_lookup h,by simp⟩,rfl⟩
section
variable {P:ac9} {w:ade} {K:PySem.W.Frag} {mg:Str->Option adb} {base:Heap} {p:Lm} {scope:Scope} {x1 x2 x3 y:Str} {cy:ac5}
theorem v8{N:List Str}{cl:List (Str×ac5)}{A:ac6}{outer:List Env}{s s':ada}{H H':Hp}{E:XK}{σ:St}{c:PySem.Str}{e:adb}
  (r:ub (GH P w K mg base N p scope cl A outer s H E) σ H' c e s')(h:∀C,ClsAt K c C->E (.ref C) none H'):(GH P w K mg base N p scope cl A outer s H E).xe e s':=by
 obtain⟨C,pins,Hc,sc,hC,I,r⟩:=r
 rcases r with fl | ⟨rfl,a,args,rfl,ho,hg,M⟩
 ·exact oH (X:=GH P w K mg base N p scope cl A outer s H E) rfl rfl rfl I fl λs2 zg=>⟨H',C,zg,h C hC⟩
 ·exact ql (X:=GH P w K mg base N p scope cl A outer s H E) rfl rfl rfl I ho hg M λs2 zg=>⟨H',C,zg,h C hC⟩
theorem IJ{A:ac6}{outer:List Env}{s:ada}{H:Hp}{E:XK}{v1 v2 v3 vy:V}{u1 u2 u3 uy:adb}{oc:Obj}{h1:Heap}{tk:Nat}(S:zM scope x1 x2 x3 y)(hd:A.handled=none)(e0:xi P w K mg base A outer s H)
  (r1:RelV v1 u1)(r2:RelV v2 u2)(r3:RelV v3 u3)(ry:RelV vy uy)(hc:base.get? cy=some oc)(hcd:oc.data= .cell (some uy))
  (hns:h1.Ns s.heap.objs.size (λx=>([(x1,u1),(x2,u2),(x3,u3)]:List (Str×adb)).reverse.lookup x))(hk:∀b o,s.heap.get? b=some o->h1.get? b=some o) :
  Inv (GH P w K mg base [x1,x2,x3,y] p scope [(y,cy)] A outer s H E) [] [some v1,some v2,some v3,some vy] H { s with heap:=h1,toks:=tk }:=by
 have LL:∀b:ac5,b∉(GH P w K mg base [x1,x2,x3,y] p scope [(y,cy)] A outer s H E).ex:=λb z=>absurd (show b∈([]:List ac5) from z) (by simp)
 have nd:=S.nd
 simp only[jh,aV,bb,or_false,not_or,gX,and_true,not_false_eq_true] at nd
 obtain⟨⟨QZ,Q0,_⟩,⟨Q1,_⟩,_⟩:=nd
 have e12:(x1 == x2)=false:=beq_eq_false_iff_ne.mpr QZ
 have xB:(x1 == x3)=false:=beq_eq_false_iff_ne.mpr Q0
 have e23:(x2 == x3)=false:=beq_eq_false_iff_ne.mpr Q1
 have Kh:∀x c,mR x [(y,cy)]=some c->s.heap.get? c=some oc/\H c=none:=λx c h=>by
  obtain⟨_,rfl⟩:=Et h
  exact e0.bs _ _ hc
 refine⟨⟨e0.mod,S.kind,rfl,rfl,aq _,λa b c h1 h2=>?_,λa ha=>?_,(λa c h=>by cases h),λ_=>hd,PM e0.frames,.inr ⟨rfl,rfl⟩,λb z=>absurd z (LL b),e0.bs,e0.GQ,λb _ _=>LL b,λb z=>absurd z (LL b),e0.nC,e0.K'⟩,
  rfl,e0.bare,Un.kept hk,⟨_,hns,λi a v h1 h2 h3=>?_⟩,λa c h=>⟨some uy,oc,hk _ _ (Kh a c h).1,hcd⟩,e0.hok.fresh (aq _),λa c h=>(Kh a c h).2,λq hq=>absurd (show q∈([]:List (ac5×Obj)) from hq) (by simp),e0.hok.kept hk,rfl⟩
 ·exact(Et h1).1.trans (Et h2).1.symm
 ·have ha:scope.names.lookup a=some .cell\/scope.names.lookup a=some .free:=ha
  rcases ha with ha | ha
  ·exact absurd rfl (S.Er _ (PySem.mem_of_lookup ha))
  ·have q:=Eu ha
   have q2:a∈freeOf scope:=q
   rw[S.fr] at q2
   simp at q2
   subst q2
   exact⟨cy,by show mR a [(a,cy)]=_;simp⟩
 ·match i,h1,h2 with
  | 0,h1,h2=>
   cases h1;cases h2
   exact⟨u1,r1,.inl ⟨S.p1,by simp[b_,e12,xB]⟩⟩
  | 1,h1,h2=>
   cases h1;cases h2
   exact⟨u2,r2,.inl ⟨S.p2,by simp[b_,e23]⟩⟩
  | 2,h1,h2=>
   cases h1;cases h2
   exact⟨u3,r3,.inl ⟨S.p3,by simp[b_]⟩⟩
  | 3,h1,h2=>
   cases h1;cases h2
   exact⟨uy,ry,.inr ⟨.inr S.fy,cy,by show mR y [(y,cy)]=_;simp,oc,hk _ _ (e0.bs _ _ hc).1,hcd⟩⟩
  | i+4,h1,h2=>simp[GH] at h1
def ly(g:GE):LF:=λcaps ws st=>g (ws.map some++caps.map some) st
theorem Nc{m:Mp}{H:Hp}{ws:List Wv}{vs:List V}(r:ai K m H ws vs)(h:ws.length=3):∃w1 w2 w3 v1 v2 v3,ws=[w1,w2,w3]/\vs=[v1,v2,v3]/\ah K m H w1 v1/\ah K m H w2 v2/\ah K m H w3 v3:=by
 match ws,h with
 | [w1,w2,w3],_=>
  unfold ai at r
  obtain⟨v1,t1,rfl,r1,r⟩:=r
  unfold ai at r
  obtain⟨v2,t2,rfl,r2,r⟩:=r
  unfold ai at r
  obtain⟨v3,t3,rfl,r3,r⟩:=r
  unfold ai at r
  subst r
  exact⟨w1,w2,w3,v1,v2,v3,rfl,rfl,r1,r2,r3⟩
theorem Nd{k:Nat}{a1 a2 a3:Option Expr}{q1 q2 q3:Pos}{body:Expr}{pm ctv uy:adb}{vy:V}{oc:Obj}{gb:GE}(S:zM scope x1 x2 x3 y)(hxs:p.xs=[vy])
  (hf:base.get? p.a=some (PySem.W.kla_obj "<lambda>" p.q (jg x1 x2 x3 a1 a2 a3 q1 q2 q3) body scope [(y,cy)] pm p.c ctv))(hc:base.get? cy=some oc)(hcd:oc.data= .cell (some uy))(ry:RelV vy uy)
  (hb:∀(A:ac6)(outer:List Env)(s:ada)(H:Hp)(E:XK),iw k (A.deeper (v7 p scope s.heap.objs.size [(y,cy)]))->JE (GH P w K mg base [x1,x2,x3,y] p scope [(y,cy)] A outer s H E) body gb) :
  qD P w K mg base (k+1) p 3 (ly gb):=by
 have nd:=S.nd
 simp only[jh,aV,bb,or_false,not_or,gX,and_true,not_false_eq_true] at nd
 obtain⟨⟨QZ,Q0,_⟩,⟨Q1,_⟩,_⟩:=nd
 refine⟨_,[x1,x2,x3],_,⟨λvs H Q E h=>?_,λA outer s H args us vs Q E hr e0 hbi r JV=>?_⟩,hf,rfl,Binds.all λus hl=>?_⟩
 ·obtain⟨m,st,ws,caps,_,r,_,_,hl,_⟩:=h
  rw[<-r.length];exact hl
 ·obtain⟨m,st,ws,caps,S',rs,rc,hcx,hl,post⟩:=JV
  obtain⟨w1,w2,w3,v1,v2,v3,rfl,rfl,s1,s2,s3⟩:=Nc rs hl
  rw[hxs] at rc
  have rc0:=rc
  have hcl:=rc.length
  obtain⟨wy,rfl⟩:∃wy,caps=[wy]:=by
   match caps,hcl with
   | [wy],_=>exact⟨wy,rfl⟩
  unfold ai at rc
  obtain⟨vy',t,e,ryw,_⟩:=rc
  cases e
  rcases r with _ | ⟨r1,r⟩
  rcases r with _ | ⟨r2,r⟩
  rcases r with _ | ⟨r3,r⟩
  cases r
  rename_i u1 u2 u3
  have lim:s.heap.NoLimit:=e0.mod.nolimit.keeps λb o e=>(e0.bs b o e).1
  have code:s.heap.CodeRec (.ref p.c) p.q:=(e0.hok p.c _ hcx).1
  refine PySem.W.kla_callFunE hr.depth (e0.bs _ _ hf).1 rfl S.co S.gen rfl code (hbi _ _ _ _ ?_)
  refine wpAny_newFunctionEnv S.Er (λz hz=>?_) (λh1 hns XY=>⟨lim.fresh _ XY,?_⟩) S.kind
  ·simp only[List.zip_cons_cons,List.zip_nil_right,aV,bb,or_false] at hz
   rcases hz with rfl | rfl | rfl
   ·exact S.p1
   ·exact S.p2
   ·exact S.p3
  ·have hk:∀b o,s.heap.get? b=some o->h1.get? b=some o:=λb o e=>XY.extBut b o (aR (aF e)) (aK _ e)
   show adi _ _ (.expr body (v7 p scope s.heap.objs.size [(y,cy)])) _ _
   have I:=IJ (p:=p) (E:=E) (tk:=s.toks+([x1,x2,x3].zip [u1,u2,u3]).length) S hr.hd e0 r1 r2 r3 ry hc hcd hns hk
   have R:ay K m H [some w1,some w2,some w3,some wy] [some v1,some v2,some v3,some vy]:=⟨rfl,λi z h=>by
    match i,h with
    | 0,h=>cases h;exact⟨_,rfl,s1⟩
    | 1,h=>cases h;exact⟨_,rfl,s2⟩
    | 2,h=>cases h;exact⟨_,rfl,s3⟩
    | 3,h=>cases h;exact⟨_,rfl,ryw⟩
    | i+4,h=>simp at h⟩
   have run:=hb A outer s H E (hr.deeper _) [some w1,some w2,some w3,some wy] st [some v1,some v2,some v3,some vy] H m Q S' R (by
    have post':Dr K m H (gb [some w1,some w2,some w3,some wy] st) Q E:=post
    cases er:gb [some w1,some w2,some w3,some wy] st with
    | ok z st2=>rw[er] at post';exact post'
    | err c st2=>rw[er] at post';exact λm' H' x s' e' S2 rz=>v8 rz λC hC=>post' m' H' C e' S2 hC
    | bad=>rw[er] at post';exact ae post') [] _ I
   refine PySem.W.kla_codeExpr (adv run (λu s' hs=>?_) λe s' hs=>hs)
   obtain⟨v,H',J,rv,q⟩:=hs
   exact⟨v,H',J.os,J.bare,J.base,J.hok,rv,q⟩
 ·match us,hl with
  | [u1,u2,u3],_=>exact Es QZ Q0 Q1 u1 u2 u3
end
structure zN(X:Cx)(q:Str)(P:ac5):Prop where
 code:∃c,X.env.code= .ref c/\PySem.W.CodeHd X.base c P
 qual:X.env.qual=q++".<locals>."
 tab:bD X.K q=some P
 mem:q∈a_
 uniq:∀q',q'∈a_->bD X.K q'=some P->q'=q
 bm:∃bm ob,X.mg "__builtins__"=some (.ref bm)/\bm≠builtinsNs/\bm≠adn/\X.base.get? bm=some ob/\ob.cls= .type "module"/\ob.dict=some builtinsNs/\ob.data= .plain
theorem Ki{env:Env}{f:Str×ac8->List (Str×ac5)->Sem (ForInStep (List (Str×ac5)))}(hf:∀x k acc,k≠.free->f (x,k) acc=pure (.yield acc)) :
  ∀(l:List (Str×ac8))(acc:List (Str×ac5)),(l.filter λp=>decide (p.2= .free)).map (·.1)=[]->forIn l acc f=pure acc
 | [],acc,_=>by rw[xK]
 | (x,k)::l,acc,h=>by
  have hk:k≠.free:=λz=>by subst z;simp at h
  rw[nR,hf x k acc hk,pure_bind]
  refine Ki (env:=env) hf l acc ?_
  rw[xM (by simpa using hk)] at h
  exact h
theorem Kj{env:Env}{y:Str}{cy:ac5}{f:Str×ac8->List (Str×ac5)->Sem (ForInStep (List (Str×ac5)))}(hf:∀x k acc,k≠.free->f (x,k) acc=pure (.yield acc))(hg:∀acc,f (y,.free) acc=pure (.yield ((y,cy)::acc))) :
  ∀(l:List (Str×ac8))(acc:List (Str×ac5)),(l.filter λp=>decide (p.2= .free)).map (·.1)=[y]->forIn l acc f=pure ((y,cy)::acc)
 | [],acc,h=>by simp at h
 | (x,k)::l,acc,h=>by
  by_cases hk:k= .free
  ·subst hk
   rw[Ew (by simp),aL] at h
   obtain⟨e,h9⟩:=List.cons.inj h
   have e':x=y:=e
   subst e'
   rw[nR,hg acc,pure_bind]
   exact Ki (env:=env) hf l _ h9
  ·rw[nR,hf x k acc hk,pure_bind]
   refine Kj (env:=env) hf hg l acc ?_
   rw[xM (by simpa using hk)] at h
   exact h
theorem v9{scope:Scope}{env:Env}{y:Str}{cy:ac5}(h:freeOf scope=[y])(hc:env.cells.lookup y=some cy):closureFor scope env=pure [(y,cy)]:=by
 unfold closureFor
 dsimp only
 rw[Kj (env:=env) (y:=y) (cy:=cy) (λx k acc hk=>?_) (λacc=>?_) scope.names [] h,pure_bind]
 ·have:(k == du)=false:=by simpa using hk
  simp only[this,oI,if_false]
 ·have e:cellOf env y=pure cy:=by unfold cellOf;rw[hc]
  simp[e]
theorem xN{pos pos':Pos}{c cv:adb}(l:List adb)(h:TriplesOk l)(e:codeAmong pos' (l++[rawInt pos.line,rawInt pos.col,c])=some cv):codeAmong pos' l=some cv\/cv=c:=by
 fun_induction TriplesOk l with
 | case1=>
  simp only[yX,rawInt,codeAmong] at e
  split at e
  ·exact .inr (Option.some.inj e).symm
  ·cases e
 | case2 a t b u x rest ih=>
  simp only[List.cons_append,codeAmong] at e ⊢
  split at e
  ·rename_i q;rw[if_pos q];exact .inl e
  ·rename_i q;rw[if_neg q];exact ih h e
 | case3 l h1 h2=>exact h.elim
section
variable {X:Cx} {pins:List (ac5×Obj)} {σ:St} {H:Hp} {s:ada} {q:Str} {P:ac5}
theorem Ex(I:Inv X pins σ H s)(T:lO X.K H)(D:zN X q P){args:Arguments}{body:Expr}{scope:Scope}{lz:Pos}{y:Str}{cy:ac5}(hfr:freeOf scope=[y])(Nf:X.env.cells.lookup y=some cy){Q:adb->ada->Prop}{E:adb->ada->Prop}
  (h:∀(f c':ac5)(ctv:adb)(H':Hp)(s':ada),Inv X pins σ H' s'->s'.heap.get? f=some (PySem.W.kla_obj "<lambda>" (nK q) args body scope [(y,cy)] ((X.mg "__name__").getD .none) c' ctv)->H' f=none->f∉frs X.stack->
   H' c'=some (.ext (qd c' (nK q)))->lO X.K H'->(∀b u,H b=some u->(∀ps,u≠.lr ps)->H' b=some u)->Q (.ref f) s') :
  adq (model X.prog X.w) X.A (makeFunction "<lambda>" (X.env.qual++"<lambda>") args (.expr body) scope X.env [] [] [] lz lz.line) Q E s:=by
 obtain⟨c,hcode,CH⟩:=D.code
 obtain⟨ps,hP,htr,hits⟩:=T q P D.mem D.tab
 obtain⟨bm,ob,b1,b2,b3,b4,b5,b6,b7⟩:=D.bm
 have Q2:s.heap.get? P=some (PySem.W.tabObj ps):=I.hok P _ hP
 have gl:s.heap.Ns adn X.mg:=I.mod.glob.keeps I.bk
 have XZ:PySem.W.CodeHd s.heap c P:=CH.keeps I.bk
 have hgP:adn≠P:=λz=>by
  obtain⟨o,es,ep,e,hd,_⟩:=gl
  rw[z,Q2] at e;cases e;cases hd
 have hbP:bm≠P:=λz=>by
  have e:=I.bk _ _ b4
  rw[z,Q2] at e;cases e;cases b5
 have X3:s.heap.BuiltinsAt X.mg P:=⟨bm,ob,b1,b2,b3,hbP,I.bk _ _ b4,b5,b6,b7⟩
 have hcl:=v9 (scope:=scope) (env:=X.env) hfr Nf
 have SJ:∀a,s.heap.objs.size<=a->a∉frs X.stack:=λa ha z=>by
  rcases List.mem_cons.mp (I.lI a z) with e | e
  ·rw[e] at ha;exact absurd (a9 I.lt ha) (dn _)
  ·exact I.Pb ha e
 have hq:X.env.qual++"<lambda>"=nK q:=by rw[D.qual];rfl
 rw[hq]
 cases hit:codeAmong lz ps.toList with
 | some cv=>
  obtain⟨c',rfl,hc'⟩:=hits lz cv hit
  refine PySem.W.kla_makeFunctionHit (mg:=X.mg) hcl I.ok.glob gl hcode XZ Q2 htr hit X3 λctv h' tk hk hsz=>?_
  have k2:∀b o,s.heap.get? b=some o->(h'.push (PySem.W.kla_obj "<lambda>" (nK q) args body scope [(y,cy)] ((X.mg "__name__").getD .none) c' ctv)).get? b=some o:=λb o e=>aK _ (hk b o e)
  refine h h'.objs.size c' ctv H _ (I.un (Un.kept k2) (I.hok.kept k2)) (bB _ rfl) (I.hok.fresh hsz) (SJ _ hsz) hc' T λb u e _=>e
 | none=>
  refine PySem.W.kla_makeFunction (mg:=X.mg) hcl I.ok.glob gl hcode XZ Q2 htr hit hgP X3 λc' ctv h' tk hx hge hlt hrec htb=>?_
  have X4:P < s.heap.objs.size:=aF Q2
  have hcP:c'≠P:=kJ (a9 X4 hge)
  have hnc:H c'=none:=I.hok.fresh hge
  have hfc:h'.objs.size≠c':=kJ hlt
  have hfP:h'.objs.size≠P:=kJ (a9 X4 (bp hge (mq hlt)))
  have X5:s.heap.objs.size<=h'.objs.size:=bp hge (mq hlt)
  let ps':Array adb:=ps++#[rawInt lz.line,rawInt lz.col,.ref c']
  let H':Hp:=upd (upd H P (.lr ps')) c' (.ext (qd c' (nK q)))
  have Q3:H' c'=some (.ext (qd c' (nK q))):=aW
  have at2:H' P=some (.lr ps'):=by show upd _ _ _ P=_;rw[aG (ax hcP),aW]
  have Kk:∀b,b≠c'->b≠P->H' b=H b:=λb n1 n2=>by show upd _ _ _ b=_;rw[aG n1,aG n2]
  have mX:∀b u,H b=some u->(∀ps,u≠.lr ps)->H' b=some u:=λb u e nt=>by
   rw[Kk b (bA e hnc) (λz=>by rw[z,hP] at e;cases e;exact nt _ rfl)];exact e
  have kp:∀b o,b≠P->s.heap.get? b=some o->(h'.push (PySem.W.kla_obj "<lambda>" (nK q) args body scope [(y,cy)] ((X.mg "__name__").getD .none) c' ctv)).get? b=some o:=λb o n e=>aK _ (hx b o n e)
  have SK:∀b,H b=none->b≠P:=λb n z=>by rw[z,hP] at n;cases n
  have Kl:qd c' (nK q) (h'.push (PySem.W.kla_obj "<lambda>" (nK q) args body scope [(y,cy)] ((X.mg "__name__").getD .none) c' ctv)):=by
   obtain⟨c₂,oc,vs,t,e2,hoc,hd,hv⟩:=hrec
   exact⟨c₂,oc,vs,t,e2,aK _ hoc,hd,hv⟩
  have IK:jQ X.prog X.w H' (h'.push (PySem.W.kla_obj "<lambda>" (nK q) args body scope [(y,cy)] ((X.mg "__name__").getD .none) c' ctv)):=λa o e=>by
   by_cases e1:a=c'
   ·subst e1
    rw[Q3] at e
    cases e
    obtain⟨c₂,oc,vs,t,e2,hoc,hd,hv⟩:=id Kl
    cases e2
    refine⟨Kl,⟨oc,hoc⟩,λh1 h2 φ k=>?_⟩
    obtain⟨c₃,o3,vs3,t3,e3,g1,g2,g3⟩:=φ
    cases e3
    exact⟨_,o3,vs3,t3,rfl,k _ g1,g2,g3⟩
   ·by_cases e2:a=P
    ·subst e2
     rw[at2] at e
     cases e
     exact aK _ htb
    ·rw[Kk a e1 e2] at e
     refine(I.hok a o e).stay (λb u hb r=>kp b u ?_ r) (λb r=>mX b _ r (λ_ z=>by cases z)) λb xs r=>mX b _ r (λ_ z=>by cases z)
     rcases hb with rfl | hb
     ·exact e2
     ·exact λz=>by rw[z,hP] at hb;cases hb
  have T':lO X.K H':=λq2 P2 hq2 X6=>by
   obtain⟨ps2,g1,g2,g3⟩:=T q2 P2 hq2 X6
   by_cases e:P2=P
   ·subst e
    have eq:=D.uniq q2 hq2 X6
    subst eq
    rw[hP] at g1
    cases g1
    refine⟨ps',at2,by simpa [ps'] using TriplesOk_snoc _ _ (.ref c') ps.toList g2,λpos cv e=>?_⟩
    have e':codeAmong pos (ps.toList++[rawInt lz.line,rawInt lz.col,.ref c'])=some cv:=by simpa [ps'] using e
    rcases xN ps.toList g2 e' with z | z
    ·obtain⟨c2,f1,f2⟩:=g3 pos cv z
     exact⟨c2,f1,mX _ _ f2 (λ_ z=>by cases z)⟩
    ·exact⟨c',z,Q3⟩
   ·refine⟨ps2,?_,g2,λpos cv e=>?_⟩
    ·rw[Kk P2 (bA g1 hnc) e];exact g1
    ·obtain⟨c2,f1,f2⟩:=g3 pos cv e
     exact⟨c2,f1,mX _ _ f2 (λ_ z=>by cases z)⟩
  have hL:X.env.locals≠P:=SK _ I.free
  have I':Inv X pins σ H' { s with heap:=h'.push (PySem.W.kla_obj "<lambda>" (nK q) args body scope [(y,cy)] ((X.mg "__name__").getD .none) c' ctv),toks:=tk }:=by
   refine I.step (g':=s.gens) (d':=s.drawn) (ch:=[]) (λ_ z=>nomatch z) (λb o _ _ _ e n=>kp b o (SK b n) e) (λb o _ _ _ e n=>⟨o.slots,kp b o (SK b n) e⟩) (λb o _ e n=>?_) (λb o _ e=>?_)
    (λb xs e=>mX b _ e (λ_ z=>by cases z)) (λb o u e=>mX b _ e (λ_ z=>by cases z)) (λb ps2 e=>?_) (λm hm=>(hm.extBut hx hL).push _) IK I.bare
   ·rw[Kk b (λz=>by rw[z] at e;exact absurd (a9 (aF e) hge) (dn _)) (SK b n)];exact n
   ·by_cases z:b=P
    ·exact⟨_,by rw[z];exact aK _ htb⟩
    ·exact⟨o,kp b o z e⟩
   ·by_cases z:b=P
    ·rw[z,hP] at e
     cases e
     exact⟨#[rawInt lz.line,rawInt lz.col,.ref c'],by rw[z];exact at2⟩
    ·exact⟨#[],by rw[Kk b (bA e hnc) z,e];simp⟩
  refine h h'.objs.size c' ctv H' _ I' (bB _ rfl) ?_ (SJ _ X5) Q3 T' mX
  rw[Kk _ hfc hfP]
  exact I.hok.fresh X5
theorem bf.mX{K:PySem.W.Frag}{m:Mp}{st:Hs}{H H':Hp}(S:bf K m st H)(k:∀b u,H b=some u->(∀ps,u≠.lr ps)->H' b=some u)(T:lO K H'):Ext K m H m H'/\bf K m st H':=by
 have ex:Ext K m H m H':=⟨λ_ _ h=>h,λa xs h=>k a _ h (λ_ z=>by cases z),λa φ h=>k a _ h (λ_ z=>by cases z),λa o u h=>k a _ h (λ_ z=>by cases z)⟩
 refine⟨ex,S.len,λl a o h1 h2=>?_,S.inj,T⟩
 have q:=S.obj l a o h1 h2
 cases o with
 | lst ws=>obtain⟨xs,e1,e2⟩:=q;exact⟨xs,k _ _ e1 (λ_ z=>by cases z),ai.mono ex _ _ e2⟩
 | dct kvs=>obtain⟨xs,e1,e2⟩:=q;exact⟨xs,k _ _ e1 (λ_ z=>by cases z),e2.mono ex⟩
 | eQ kvs=>obtain⟨xs,e1,e2⟩:=q;exact⟨xs,k _ _ e1 (λ_ z=>by cases z),e2.mono ex⟩
 | w5 kvs=>obtain⟨o,xs,e1,e2⟩:=q;exact⟨o,xs,k _ _ e1 (λ_ z=>by cases z),e2.mono ex⟩
 | sI ns=>
  rcases q with ⟨o',q⟩ | q
  ·exact .inl ⟨o',k _ _ q (λ_ z=>by cases z)⟩
  ·exact .inr q
end
def sV(G:Lm->Re Wv):Re Wv:=open Classical in if h:∃r,∀p,G p=r then h.choose else .bad
theorem Ey{G:Lm->Re Wv}{r:Re Wv}(h:∀p,G p=r):sV G=r:=by
 have e:∃r,∀p,G p=r:=⟨r,h⟩
 unfold sV
 rw[dif_pos e]
 exact(e.choose_spec ⟨0,0,"",[]⟩).symm.trans (h _)
abbrev OV:=Lm->LF->List Wv->Hs->Re Wv
def xO(FL:OV)(iy:Nat)(g gb:GE):GE:=λρ st=>(g ρ st).bind λw st1=>match ρ[iy]? with
 | some (some wy)=>sV λp=>FL p (ly gb) [w,.fn p [wy]] st1
 | _=> .bad
def IL(mg:Str->Option adb)(base:Heap):Prop:=∃bm ob,mg "__builtins__"=some (.ref bm)/\bm≠builtinsNs/\bm≠adn/\base.get? bm=some ob/\ob.cls= .type "module"/\ob.dict=some builtinsNs/\ob.data= .plain
def jP(K:PySem.W.Frag)(mg:Str->Option adb)(base:Heap):Prop:=Mod K mg base/\IL mg base
def SM(P:ac9)(w:ade)(K:PySem.W.Frag)(mg:Str->Option adb)(k j:Nat)(x:Str)(FL:OV):Prop :=
 (∃f,mg x=some (.ref f)/\PySem.W.keepIn K (.ref f)=true)/\∀(base:Heap)(p:Lm)(L:LF),jP K mg base->qD P w K mg base (j+1) p 3 L->rM P w K mg base k x 2 (FL p L)
section
variable {X:Cx}
theorem Ng{k j:Nat}{x q y x1 x2 x3:Str}{P:ac5}{FL:OV}{iy:Nat}{p pos lz q1 q2 q3:Pos}{a1 a2 a3:Option Expr}{e body:Expr}{scope:Scope}{g gb:GE}(hF:SM X.prog X.w X.K X.mg k j x FL)(hr:iw k X.A)(hg:Gl X x)(hdb:(x == ("__debug__":Str))=false)
  (he:JE X e g)(D:zN X q P)(S:zM scope x1 x2 x3 y)(hy:X.N[iy]? =some y)(X7:X.env.scope.names.lookup y=some .cell\/X.env.scope.names.lookup y=some .free)(hfn:X.fn y=true)
  (hb:∀(base:Heap)(p:Lm)(cy:ac5)(A:ac6)(outer:List Env)(s:ada)(H:Hp)(E:XK),jP X.K X.mg base->iw j (A.deeper (v7 p scope s.heap.objs.size [(y,cy)]))->JE (GH X.prog X.w X.K X.mg base [x1,x2,x3,y] p scope [(y,cy)] A outer s H E) body gb)
  (hs:∀r,adp (e::r) X.env=(false,eval e X.env)::adp r X.env):JE X (.Call (.Name x p) [e,.Lambda (jg x1 x2 x3 a1 a2 a3 q1 q2 q3) body scope lz] [] pos) (xO FL iy g gb):=by
 intro ρ st σ H m Q S0 R pq pins s I
 obtain⟨⟨f,hm,hk⟩,HF⟩:=hF
 unfold xO at pq
 have first:=he.go (T:=λv H1=>∃w st1 m1,cY X σ m H (match ρ[iy]? with
  | some (some wy)=>sV λp=>FL p (ly gb) [w,.fn p [wy]] st1
  | _=> .bad) Q/\Ext X.K m H m1 H1/\bf X.K m1 st1 H1/\ah X.K m1 H1 w v) S0 R (aw.bind pq) λw st1 v m1 H1 p1 e1 S1 r1=>⟨w,st1,m1,p1,e1,S1,r1⟩
 refine wpAny_Call_Name_kw (pv I hg hm ?_ hdb)
 refine PySem.W.callWith_K (h₀:=X.base) I.ok.mod.K9 hk ?_ (hs _) rfl
 rw[hs]
 show adq _ _ (spliced ((false,eval e X.env)::backTo pos (adp [.Lambda (jg x1 x2 x3 a1 a2 a3 q1 q2 q3) body scope lz] X.env))) _ _ s
 refine lL (bo (first pins s I) λu s1 ⟨v,H1,I1,r1,w,st1,m1,p1,e1,S1,SN⟩=>?_)
 show adq _ _ (spliced ((false,eval (.Lambda (jg x1 x2 x3 a1 a2 a3 q1 q2 q3) body scope lz) X.env)::backTo pos (adp [] X.env))) _ _ s1
 cases er:ρ[iy]? with
 | none=>rw[er] at p1;exact ae p1
 | some ow=>
  rw[er] at p1
  cases ow with
  | none=>exact ae p1
  | some wy=>
   dsimp only at p1
   obtain⟨vy,evy,rvy⟩:=R.get iy wy er
   have vis:ON X.env.scope y:=.inr X7
   have hcell:∀{H':Hp}{s':ada},Inv X pins σ H' s'->∃uy cy,RelV vy uy/\X.env.cells.lookup y=some cy/\s'.heap.IsCell cy (some uy):=λ{H' s'} I'=>by
    obtain⟨mm,hn,hl⟩:=I'.loc
    obtain⟨uy,ry,lk⟩:=hl iy y vy hy evy vis
    rcases lk with ⟨hkk,_⟩ | ⟨_,c,hc,hcl⟩
    ·have hkk:X.env.scope.names.lookup y=some .local:=hkk
     rcases X7 with z | z<;>rw[z] at hkk<;>cases hkk
    ·exact⟨uy,c,ry,hc,hcl⟩
   obtain⟨_,cy,_,Nf,_⟩:=hcell I1
   refine lL (PySem.W.kla_eval rfl (Ex I1 S1.tab D S.fr Nf λf2 c' ctv H2 s2 I2 hf2 nf2 SJ hc2 T2 kH=>?_))
   refine tR ⟨I2.w_,?_⟩
   obtain⟨SQ,S2⟩:=S1.mX kH T2
   obtain⟨uy,cy',ryv,Q4,oc,hoc,Lc⟩:=hcell I2
   rw[Nf] at Q4
   cases Q4
   have ncy:cy∉frs X.stack:=λz=>by
    rcases List.mem_cons.mp (I2.lI cy z) with e | e
    ·exact I2.JM y cy Nf e
    ·obtain⟨_,o,ho,_⟩:=I2.ok.nC.mem e
     exact absurd (a9 (aF ho) (I2.ok.O' y cy hfn Nf)) (dn _)
   let pl:Lm:=⟨f2,c',nK q,[vy]⟩
   have mB:jP X.K X.mg (gZ X H2 s2):=⟨Eo I2,let ⟨bm,ob,b1,b2,b3,b4,b5⟩:=D.bm;⟨bm,ob,b1,b2,b3,qC I2 _ _ b4,b5⟩⟩
   have HL:qD X.prog X.w X.K X.mg (gZ X H2 s2) (j+1) pl 3 (ly gb):=Nd (p:=pl) (vy:=vy) S rfl (xJ hf2 nf2 SJ) (xJ hoc (I2.lB y cy Nf) ncy) Lc ryv λA outer s H E hr=>hb _ pl cy A outer s H E mB hr
   obtain⟨f',fd,ps,G,hm',hk',hbn⟩:=HF _ pl (ly gb) mB HL
   rw[hm] at hm'
   cases hm'
   have p2:cY X σ m H (FL pl (ly gb) [w,.fn pl [wy]] st1) Q:=by
    unfold sV at p1
    by_cases ee:∃r,∀p,FL p (ly gb) [w,.fn p [wy]] st1=r
    ·rw[dif_pos ee] at p1
     rw[ee.choose_spec pl]
     exact p1
    ·rw[dif_neg ee] at p1;exact ae p1
   let E:XK:=λcl _ H3=>∃c' st2 m2 C,cl= .ref C/\ClsAt X.K c' C/\FL pl (ly gb) [w,.fn pl [wy]] st1= .err c' st2/\Ext X.K m1 H2 m2 H3/\bf X.K m2 st2 H3
   have sp:spW X.K 2 (FL pl (ly gb)) [v,.ref f2] H2 Q E:=by
    refine⟨m1,st1,[w,.fn pl [wy]],S2,ai.cons (ah.mono SQ _ _ SN) (ai.cons ?_ ai.nil),rfl,?_⟩
    ·unfold ah
     exact⟨rfl,hc2,ai.cons (ah.mono (e1.trans SQ) _ _ rvy) ai.nil⟩
    ·cases er:FL pl (ly gb) [w,.fn pl [wy]] st1 with
     | ok w st2=>rw[er] at p2;exact cY.shift (r:=.ok w st2) p2 (e1.trans SQ)
     | err c' st2=>exact λm2 H2 C e2 S2 hC=>⟨c',st2,m2,C,rfl,hC,er,e2,S2⟩
     | bad=>rw[er] at p2;exact ae p2
   have rv:Vals [v,.ref f2] [u,.ref f2]:=.cons r1 (.cons rfl .nil)
   have hl:[u,aQ f2].length=ps.length:=by rw[<-rv.length];exact G.len _ _ _ _ sp
   have bd:=hbn s2 [u,.ref f2] I2.w_ (by rw[gJ];exact hl)
   rw[gJ] at bd
   refine wpAny_call (codeAny_mono (G.run X.A X.stack s2 H2 ⟨[u,.ref f2],[]⟩ [u,.ref f2] [v,.ref f2] Q E hr (II I2) bd rv sp) λrr s3 hq=>?_)
   cases rr with
   | error z=>
    obtain⟨H3,C,fl,c',st2,m2,C',ec,hC,er,e2,S3⟩:=hq
    cases ec
    rw[er] at p2
    exact p2 m2 H3 z s3 ((e1.trans SQ).trans e2) S3 ⟨C,pins,H2,s2,hC,I2,.inl fl.any⟩
   | ok fw=>
    cases fw with
    | ret u=>exact I2.after hq
    | next=>exact ae hq
    | brk=>exact ae hq
    | cont=>exact ae hq
end
section
variable {P:ac9} {w:ade} {A:ac6} {E:adb->ada->Prop} {s:ada}
theorem lV{j t:ac5}{i:Nat}{vs:Array adb}{u:adb}{Q:adb->ada->Prop}(hj:s.heap.IsTupleIter j t i)(ht:s.heap.IsTuple t vs)(hu:vs[i]? =some u)
  (k:∀g,g.IsTupleIter j t (i+1)->iu j s.heap g->Q u { s with heap:=g }):adq (model P w) A (lW (.ref j)) Q E s:=by
 obtain⟨oj,ej,cj,dj⟩:=id hj
 obtain⟨ot,et,_,nt,dt⟩:=ht
 unfold lW
 refine ads (wpAny_callSpecial?_slot (name:=my "__next__") hj.typeIs xP (wpAny_call_entry xP hj.typeIs Nh ?_ (Ni _)))
 show adq _ _ (field (.ref j) 0 >>= _) _ _ s
 refine ads (wpAny_field ej dj (x:=.ref t) rfl ?_)
 show adq _ _ (if(aQ t == cJ)=true then _ else _) _ _ s
 rw[if_neg (by intro z;exact cR z)]
 show adq _ _ (field (.ref j) 1 >>= _) _ _ s
 refine ads (wpAny_field ej dj (x:=.int i 0) rfl ?_)
 show adq _ _ (seqItems? (.ref t) >>= _) _ _ s
 refine ads (wpAny_seqItems et dt ?_)
 simp only[Int.toNat_natCast,hu]
 refine ads (wpAny_setField ej dj (by simp) (ady ⟨u,rfl,ady (k _ ?_ (uC ..))⟩))
 refine⟨_,nG _ ej (y6 (pD dj _)),(Obj.cls_mapFields ..).trans cj,?_⟩
 rw[pD dj];simp[rawInt]
theorem Bq{j t:ac5}{i:Nat}{vs:Array adb}{Q:adb->ada->Prop}(hh:A.handled=none)(hj:s.heap.IsTupleIter j t i)(ht:s.heap.IsTuple t vs)(hu:vs[i]? =none)
  (k:∀g e,Heap.ExtBut j s.heap g->(∃o,g.get? e=some o/\o.cls= .type "StopIteration")->E (.ref e) { s with heap:=g }):adq (model P w) A (lW (.ref j)) Q E s:=by
 obtain⟨oj,ej,cj,dj⟩:=id hj
 obtain⟨ot,et,_,nt,dt⟩:=ht
 unfold lW
 refine ads (wpAny_callSpecial?_slot (name:=my "__next__") hj.typeIs xP (wpAny_call_entry xP hj.typeIs Nh ?_ (Ni _)))
 show adq _ _ (field (.ref j) 0 >>= _) _ _ s
 refine ads (wpAny_field ej dj (x:=.ref t) rfl ?_)
 show adq _ _ (if(aQ t == cJ)=true then _ else _) _ _ s
 rw[if_neg (by intro z;exact cR z)]
 show adq _ _ (field (.ref j) 1 >>= _) _ _ s
 refine ads (wpAny_field ej dj (x:=.int i 0) rfl ?_)
 show adq _ _ (seqItems? (.ref t) >>= _) _ _ s
 refine ads (wpAny_seqItems et dt ?_)
 simp only[Int.toNat_natCast,hu]
 refine ads (wpAny_rule (ads (wpAny_setField ej dj (by simp) ?_)))
 show adq _ _ (newExc (.type "StopIteration") [] >>= _) _ _ _
 refine ads ?_
 simp only[newExc,newTuple]
 refine ads (adx ?_ (by size_fits))
 refine ads (m:=firstArgMember _ _) (wpAny_of_eq (a:=cJ) (by first | rfl | (simp only[firstArgMember];rfl)) ?_)
 refine adx ?_ (by size_fits)
 simp only[raiseNew]
 refine ads (wpAny_handled ?_)
 first | rw[show A.in1.handled=none from hh] | rw[hh]
 refine ads (ady (wpAny_throw ?_))
 exact k _ _ (((uC ..).extBut.push _).push _) ⟨_,bB _ rfl,rfl⟩
abbrev pJ(h:Heap)(t:ac5)(a b c:adb):Prop:=h.get? t=some { cls:=.type "tuple",data:=.seq #[a,b,c] }
theorem uD{t:ac5}{a b c v:adb}{k:Nat}{Q:Unit->ada->Prop}(ht:pJ s.heap t a b c)
  (q:∀g,g.get? t=some { cls:=.type "tuple",data:=.seq ((#[a,b,c]:Array adb).setIfInBounds k v) }->iu t s.heap g->Q () { s with heap:=g }):adq (model P w) A (updateSeq t (·.setIfInBounds k v)) Q E s:=by
 refine wpAny_updateSeq ht rfl (q _ ?_ (uC ..))
 rw[nG _ ht rfl]
 simp[kK]
structure Zd(z T O j1 j2 j3 t1 t2 t3:ac5):Prop where
 nd:[z,T,O,j1,j2,j3].Nodup
 a1:t1∉[z,O,j1,j2,j3]
 a2:t2∉[z,O,j1,j2,j3]
 a3:t3∉[z,O,j1,j2,j3]
theorem Br{z T O j1 j2 j3 t1 t2 t3:ac5}{i:Nat}{v1 v2 v3:Array adb}{u1 u2 u3 a b c:adb}{Q:adb->ada->Prop}(D:Zd z T O j1 j2 j3 t1 t2 t3)(hz:IsZip s.heap z T O .none)(hT:pJ s.heap T (.ref j1) (.ref j2) (.ref j3))(hO:pJ s.heap O a b c)
  (h1:s.heap.IsTupleIter j1 t1 i)(h2:s.heap.IsTupleIter j2 t2 i)(h3:s.heap.IsTupleIter j3 t3 i)(w1:s.heap.IsTuple t1 v1)(w2:s.heap.IsTuple t2 v2)(w3:s.heap.IsTuple t3 v3)(e1:v1[i]? =some u1)(e2:v2[i]? =some u2)(e3:v3[i]? =some u3)
  (k:∀g,IsZip g z T O (rawInt s.heap.objs.size)->pJ g O u1 u2 u3->g.IsTupleIter j1 t1 (i+1)->g.IsTupleIter j2 t2 (i+1)->g.IsTupleIter j3 t3 (i+1)->pJ g s.heap.objs.size u1 u2 u3->g.objs.size=s.heap.objs.size+1->
   (∀y o,y∉[z,O,j1,j2,j3]->s.heap.get? y=some o->g.get? y=some o)->Q (.ref s.heap.objs.size) { s with heap:=g }) :
  adq (model P w) A (Builtin.«zip.__next__» ⟨[.ref z],[]⟩) (λfin s'=>∃v,fin= .done (.ret v)/\Q v s') E s:=by
 obtain⟨nd,n1,n2,n3⟩:=D
 simp only[jh,aV,bb,or_false,not_or,gX,and_true,not_false_eq_true] at nd n1 n2 n3
 obtain⟨⟨zT,zO,z1,z2,z3⟩,⟨TO,T1,T2,T3⟩,⟨O1,O2,O3⟩,⟨GJ,OW⟩,OX⟩:=nd
 obtain⟨p1z,p1O,p11,p12,p13⟩:=n1
 obtain⟨p2z,p2O,p21,p22,p23⟩:=n2
 obtain⟨p3z,X8,p31,p32,p33⟩:=n3
 show adq _ _ (field (.ref z) 2 >>= _) _ _ s
 refine ads (wpAny_field hz rfl (x:=.bool false) rfl ?_)
 show adq _ _ (field (.ref z) 3 >>= _) _ _ s
 refine ads (wpAny_field hz rfl (x:=.ref T) rfl ?_)
 refine ads (wpAny_seqItems hT rfl ?_)
 show adq _ _ (xQ (.ref z) >>= _) _ _ s
 refine ads ?_
 unfold xQ
 refine ads (wpAny_field hz rfl (x:=.none) rfl (ady ?_))
 simp only[if_true]
 refine ads (wpAny_rule ?_)
 refine ads (wpAny_field hz rfl (x:=.ref O) rfl ?_)
 refine ads (wpAny_setField_rec hz (by simp) λg0 y0 b0=>?_)
 replace y0:IsZip g0 z T O .ellipsis:=y0
 refine ads ?_
 simp only[List.zipIdx_cons,List.zipIdx_nil,nR,xK]
 refine ads (ads (wpAny_onRaise ?_))
 show adq _ _ (lW (.ref j1) >>= _) _ _ _
 refine ads (lV (h1.extBut b0.extBut (ax z1)) (w1.extBut b0.extBut p1z) e1 λg1 GD b1=>ady ?_)
 have X9:pJ g1 O a b c:=b1.extBut _ _ O1 (b0.extBut _ _ (ax zO) hO)
 refine ads (wpAny_seqItems X9 rfl ?_)
 refine ads (uD X9 λg2 U2 b2=>?_)
 replace U2:pJ g2 O u1 b c:=U2
 refine ads (wpAny_letGo (ady ?_))
 refine ads (ads (wpAny_onRaise ?_))
 show adq _ _ (lW (.ref j2) >>= _) _ _ _
 refine ads (lV (((h2.extBut b0.extBut (ax z2)).extBut b1.extBut (ax GJ)).extBut b2.extBut (ax O2)) (((w2.extBut b0.extBut p2z).extBut b1.extBut p21).extBut b2.extBut p2O) e2 λg3 h2' b3=>ady ?_)
 have X_:pJ g3 O u1 b c:=b3.extBut _ _ O2 U2
 refine ads (wpAny_seqItems X_ rfl ?_)
 refine ads (uD X_ λg4 U3 b4=>?_)
 replace U3:pJ g4 O u1 u2 c:=U3
 refine ads (wpAny_letGo (ady ?_))
 refine ads (ads (wpAny_onRaise ?_))
 show adq _ _ (lW (.ref j3) >>= _) _ _ _
 refine ads (lV (((((h3.extBut b0.extBut (ax z3)).extBut b1.extBut (ax OW)).extBut b2.extBut (ax O3)).extBut b3.extBut (ax OX)).extBut b4.extBut (ax O3))
  (((((w3.extBut b0.extBut p3z).extBut b1.extBut p31).extBut b2.extBut X8).extBut b3.extBut p32).extBut b4.extBut X8) e3 λg5 h3' b5=>ady ?_)
 have X':pJ g5 O u1 u2 c:=b5.extBut _ _ O3 U3
 refine ads (wpAny_seqItems X' rfl ?_)
 refine ads (uD X' λg6 SR b6=>?_)
 replace SR:pJ g6 O u1 u2 u3:=SR
 refine ads (wpAny_letGo (ady (ady ?_)))
 refine ads (wpAny_seqItems SR rfl ?_)
 refine ads (wpAny_newTuple ?_)
 have sz:g6.objs.size=s.heap.objs.size:=by rw[b6.1,b5.1,b4.1,b3.1,b2.1,b1.1,b0.1]
 have keep:∀y o,y∉[z,O,j1,j2,j3]->s.heap.get? y=some o->g6.get? y=some o:=λy o hy q=>by
  simp only[aV,bb,or_false,not_or] at hy
  obtain⟨y1,y2,y3,y4,y5⟩:=hy
  exact b6.extBut _ _ y2 (b5.extBut _ _ y5 (b4.extBut _ _ y2 (b3.extBut _ _ y4 (b2.extBut _ _ y2 (b1.extBut _ _ y3 (b0.extBut _ _ y1 q))))))
 have z6:IsZip g6 z T O .ellipsis:=b6.extBut _ _ zO (b5.extBut _ _ z3 (b4.extBut _ _ zO (b3.extBut _ _ z2 (b2.extBut _ _ zO (b1.extBut _ _ z1 y0)))))
 have k1:g6.IsTupleIter j1 t1 (i+1):=((((GD.extBut b2.extBut (ax O1)).extBut b3.extBut GJ).extBut b4.extBut (ax O1)).extBut b5.extBut OW).extBut b6.extBut (ax O1)
 have k2:g6.IsTupleIter j2 t2 (i+1):=((h2'.extBut b4.extBut (ax O2)).extBut b5.extBut OX).extBut b6.extBut (ax O2)
 have k3:g6.IsTupleIter j3 t3 (i+1):=h3'.extBut b6.extBut (ax O3)
 have Km:z < g6.objs.size:=aF z6
 show adq _ _ (Nj (.ref z) (.ref g6.objs.size) >>= _) _ _ _
 refine ads ?_
 unfold Nj
 have z7:IsZip (g6.push { cls:=.type "tuple",data:=.seq #[u1,u2,u3] }) z T O .ellipsis:=aK _ z6
 refine ads (wpAny_setField_rec z7 (by simp) λg7 y7 b7=>?_)
 replace y7:IsZip g7 z T O (rawInt g6.objs.size):=y7
 refine wpAny_setField_rec y7 (by simp) λg8 y8 b8=>?_
 replace y8:IsZip g8 z T O (rawInt g6.objs.size):=y8
 have up:∀y o,y≠z->g6.get? y=some o->g8.get? y=some o:=λy o n q=>b8.extBut _ _ n (b7.extBut _ _ n (aK _ q))
 have tn:pJ g8 g6.objs.size u1 u2 u3:=b8.extBut _ _ (kJ Km) (b7.extBut _ _ (kJ Km) (bB _ rfl))
 have s8:g8.objs.size=g6.objs.size+1:=by rw[b8.1,b7.1,qE]
 rw[sz] at y8 tn s8
 refine ady ⟨_,rfl,?_⟩
 show Q (.ref g6.objs.size) _
 rw[sz]
 have at':∀{j t:ac5}{n:Nat},j≠z->g6.IsTupleIter j t n->g8.IsTupleIter j t n:=λn ⟨o,q,r⟩=>⟨o,up _ o n q,r⟩
 exact k g8 y8 (up _ _ (ax zO) SR) (at' (ax z1) k1) (at' (ax z2) k2) (at' (ax z3) k3) tn s8 λy o hy q=>up y o (λe=>hy (by simp[e])) (keep y o hy q)
theorem Ez{z T O j1 j2 j3 t1 t2 t3:ac5}{i:Nat}{v1:Array adb}{a b c:adb}{Q:Fin->ada->Prop}(hh:A.handled=none)(D:Zd z T O j1 j2 j3 t1 t2 t3)(hz:IsZip s.heap z T O .none)(hT:pJ s.heap T (.ref j1) (.ref j2) (.ref j3))(hO:pJ s.heap O a b c)
  (h1:s.heap.IsTupleIter j1 t1 i)(w1:s.heap.IsTuple t1 v1)(e1:v1[i]? =none)
  (k:∀g e,(∀y o,y∉[z,O,j1,j2,j3]->s.heap.get? y=some o->g.get? y=some o)->(∃o,g.get? e=some o/\o.cls= .type "StopIteration")->E (.ref e) { s with heap:=g }) :
  adq (model P w) A (Builtin.«zip.__next__» ⟨[.ref z],[]⟩) Q E s:=by
 obtain⟨nd,n1,n2,n3⟩:=D
 simp only[jh,aV,bb,or_false,not_or,gX,and_true,not_false_eq_true] at nd n1
 obtain⟨⟨zT,zO,z1,z2,z3⟩,_⟩:=nd
 show adq _ _ (field (.ref z) 2 >>= _) _ _ s
 refine ads (wpAny_field hz rfl (x:=.bool false) rfl ?_)
 show adq _ _ (field (.ref z) 3 >>= _) _ _ s
 refine ads (wpAny_field hz rfl (x:=.ref T) rfl ?_)
 refine ads (wpAny_seqItems hT rfl ?_)
 show adq _ _ (xQ (.ref z) >>= _) _ _ s
 refine ads ?_
 unfold xQ
 refine ads (wpAny_field hz rfl (x:=.none) rfl (ady ?_))
 simp only[if_true]
 refine ads (wpAny_rule ?_)
 refine ads (wpAny_field hz rfl (x:=.ref O) rfl ?_)
 refine ads (wpAny_setField_rec hz (by simp) λg0 y0 b0=>?_)
 replace y0:IsZip g0 z T O .ellipsis:=y0
 refine ads ?_
 simp only[List.zipIdx_cons,List.zipIdx_nil,nR,xK]
 refine ads (ads (wpAny_onRaise ?_))
 show adq _ _ (lW (.ref j1) >>= _) _ _ _
 refine ads (Bq hh (h1.extBut b0.extBut (ax z1)) (w1.extBut b0.extBut n1.1) e1 λg1 e b1 he=>?_)
 obtain⟨oe,qe,ce⟩:=he
 have y1:IsZip g1 z T O .ellipsis:=b1 _ _ z1 y0
 have ez:e≠z:=λq=>by subst q;rw[y1] at qe;cases qe;simp at ce
 refine wpAny_setField_rec y1 (by simp) λg2 _ b2=>k g2 e (λy o hy q=>?_) ⟨oe,b2.extBut _ _ ez qe,ce⟩
 simp only[aV,bb,or_false,not_or] at hy
 exact b2.extBut _ _ hy.1 (b1 _ _ hy.2.2.1 (b0.extBut _ _ hy.1 q))
end
theorem boot_zip:adh "zip"=some (.type "zip"):=by decide+kernel
theorem IM(a b c:adb):checkTypeCall "zip" ⟨[a,b,c],[]⟩=pure ():=by kernel_rfl
theorem IP(a b c:adb):checkBuiltinCall "zip.__new__" ⟨[.type "zip",a,b,c],[]⟩=pure ():=by kernel_rfl
theorem Q5(a b c d:adb):argsOk "object.__init__" ⟨[a,b,c,d],[]⟩:=by
 unfold argsOk;rw[signature?_of (id:="object.__init__") (n:=['_','_','t','i','n','i','_','_']) (o:=['t','c','e','j','b','o']) (by kernel_rfl) F.owner_object];kernel_rfl
abbrev zA(h:Heap)(t1:ac5):Heap:=h.push { cls:=.type "tuple_iterator",data:=.fields #[.ref t1,.int 0 0] }
abbrev zB(h:Heap)(t1 t2:ac5):Heap:=zA (zA h t1) t2
abbrev zC(h:Heap)(t1 t2 t3:ac5):Heap:=zA (zB h t1 t2) t3
abbrev zD(h:Heap)(t1 t2 t3:ac5):Heap:=(zC h t1 t2 t3).push { cls:=.type "tuple",data:=.seq #[.ref h.objs.size,.ref (zA h t1).objs.size,.ref (zB h t1 t2).objs.size] }
abbrev zE(h:Heap)(t1 t2 t3:ac5):Heap:=(zD h t1 t2 t3).push { cls:=.type "tuple",data:=.seq #[.none,.none,.none] }
abbrev zF(h:Heap)(t1 t2 t3:ac5):Heap:=(zE h t1 t2 t3).push { cls:=.type "zip",data:=.fields #[.none,.bool false,.bool false,.ref (zC h t1 t2 t3).objs.size,.ref (zD h t1 t2 t3).objs.size] }
theorem IQ(t1 t2 t3:ac5)(v1 v2 v3:Array adb):Meets (Builtin.«zip.__new__» ⟨[.type "zip",.ref t1,.ref t2,.ref t3],[]⟩) (λ_ R s=>s.heap.IsTuple t1 v1/\s.heap.IsTuple t2 v2/\s.heap.IsTuple t3 v3/\
   R (.ok (.ret (.ref (zE s.heap t1 t2 t3).objs.size))) { s with heap:=zF s.heap t1 t2 t3 }) :=
 .of_wp λprog w A R s h=>by
  obtain⟨hp,g,d,tk,os⟩:=s;obtain⟨q1,q2,q3,h⟩:=h
  have hsub:=sub_zip
  have r1:EA (zP ⟨hp,g,d,tk,os⟩) t1 v1:=q1
  have r2:EA (zP ⟨zA hp t1,g,d,tk,os⟩) t2 v2:=EB q2 _
  have r3:EA (zP ⟨zB hp t1 t2,g,d,tk,os⟩) t3 v3:=EB (EB q3 _) _
  wp_walk using wpAny_pyIter_tuple r1,wpAny_pyIter_tuple r2,wpAny_pyIter_tuple r3
  exact⟨_,rfl,h⟩
section
variable {P:ac9} {w:ade} {A:ac6} {E:adb->ada->Prop} {s:ada}
theorem Bs{t1 t2 t3:ac5}{v1 v2 v3:Array adb}{Q:adb->ada->Prop}(q1:s.heap.IsTuple t1 v1)(q2:s.heap.IsTuple t2 v2)(q3:s.heap.IsTuple t3 v3)
  (k:∀g,IsZip g (s.heap.objs.size+5) (s.heap.objs.size+3) (s.heap.objs.size+4) .none->pJ g (s.heap.objs.size+3) (.ref s.heap.objs.size) (.ref (s.heap.objs.size+1)) (.ref (s.heap.objs.size+2))->pJ g (s.heap.objs.size+4) .none .none .none->
   g.IsTupleIter s.heap.objs.size t1 0->g.IsTupleIter (s.heap.objs.size+1) t2 0->g.IsTupleIter (s.heap.objs.size+2) t3 0->(∀b o,s.heap.get? b=some o->g.get? b=some o)->Q (.ref (s.heap.objs.size+5)) { s with heap:=g }) :
  adq (model P w) A (call (.type "zip") [.ref t1,.ref t2,.ref t3]) Q E s:=by
 refine callType_new F.called_zip (by decide) (IM _ _ _) (IP _ _ _) (λobj=>Q5 obj _ _ _) F.entry_zip_new (IQ t1 t2 t3 v1 v2 v3) ⟨q1,q2,q3,?_⟩
 have s1:(zA s.heap t1).objs.size=s.heap.objs.size+1:=qE ..
 have s2:(zB s.heap t1 t2).objs.size=s.heap.objs.size+2:=by rw[qE,s1]
 have s3:(zC s.heap t1 t2 t3).objs.size=s.heap.objs.size+3:=by rw[qE,s2]
 have s4:(zD s.heap t1 t2 t3).objs.size=s.heap.objs.size+4:=by rw[qE,s3]
 have s5:(zE s.heap t1 t2 t3).objs.size=s.heap.objs.size+5:=by rw[qE,s4]
 have up:∀{h:Heap}{b:ac5}{o o':Obj},h.get? b=some o->(h.push o').get? b=some o:=λe=>aK _ e
 have g6:(zF s.heap t1 t2 t3).get? (zE s.heap t1 t2 t3).objs.size=some _:=bB _ rfl
 have g5:(zF s.heap t1 t2 t3).get? (zD s.heap t1 t2 t3).objs.size=some _:=up (bB _ rfl)
 have g4:(zF s.heap t1 t2 t3).get? (zC s.heap t1 t2 t3).objs.size=some _:=up (up (bB _ rfl))
 have g3:(zF s.heap t1 t2 t3).get? (zB s.heap t1 t2).objs.size=some _:=up (up (up (bB _ rfl)))
 have g2:(zF s.heap t1 t2 t3).get? (zA s.heap t1).objs.size=some _:=up (up (up (up (bB _ rfl))))
 have g1:(zF s.heap t1 t2 t3).get? s.heap.objs.size=some _:=up (up (up (up (up (bB _ rfl)))))
 show _/\_
 rw[s3,s4,s5] at g6
 rw[s1,s2,s3] at g4
 rw[s4] at g5
 rw[s2] at g3
 rw[s1] at g2
 rw[s5]
 exact⟨⟨_,g6,rfl⟩,k _ g6 g4 g5 ⟨_,g1,rfl,rfl⟩ ⟨_,g2,rfl,rfl⟩ ⟨_,g3,rfl,rfl⟩ λb o e=>up (up (up (up (up (up e)))))⟩
end
section
variable {P:ac9} {w:ade} {A:ac6} {E:adb->ada->Prop} {s:ada}
theorem IS{z T O j1 j2 j3 t1 t2 t3:ac5}{i:Nat}{v1 v2 v3:Array adb}{u1 u2 u3 a b c:adb}{Q:Option adb->ada->Prop}(D:Zd z T O j1 j2 j3 t1 t2 t3)(hz:IsZip s.heap z T O .none)(hT:pJ s.heap T (.ref j1) (.ref j2) (.ref j3))(hO:pJ s.heap O a b c)
  (h1:s.heap.IsTupleIter j1 t1 i)(h2:s.heap.IsTupleIter j2 t2 i)(h3:s.heap.IsTupleIter j3 t3 i)(w1:s.heap.IsTuple t1 v1)(w2:s.heap.IsTuple t2 v2)(w3:s.heap.IsTuple t3 v3)(e1:v1[i]? =some u1)(e2:v2[i]? =some u2)(e3:v3[i]? =some u3)
  (k:∀g,IsZip g z T O (rawInt s.heap.objs.size)->pJ g O u1 u2 u3->g.IsTupleIter j1 t1 (i+1)->g.IsTupleIter j2 t2 (i+1)->g.IsTupleIter j3 t3 (i+1)->pJ g s.heap.objs.size u1 u2 u3->g.objs.size=s.heap.objs.size+1->
   (∀y o,y∉[z,O,j1,j2,j3]->s.heap.get? y=some o->g.get? y=some o)->Q (some (.ref s.heap.objs.size)) { s with heap:=g }):adq (model P w) A (pyNext (.ref z)) Q E s:=by
 have ty:s.TypeIs (.ref z) "zip":=⟨_,hz,rfl⟩
 unfold pyNext
 refine ads (wpAny_attempt (wpAny_callSpecial?_slot (name:=my "__next__") ty xR (wpAny_call_entry xR ty F.entry_zip_next ?_ (F.args_zip_next_1 _))))
 exact Br D hz hT hO h1 h2 h3 w1 w2 w3 e1 e2 e3 λg a1 a2 a3 a4 a5 a6 a7 a8=>ady (k g a1 a2 a3 a4 a5 a6 a7 a8)
theorem EC{z T O j1 j2 j3 t1 t2 t3:ac5}{i:Nat}{v1:Array adb}{a b c:adb}{Q:Option adb->ada->Prop}(hh:A.handled=none)(D:Zd z T O j1 j2 j3 t1 t2 t3)(hz:IsZip s.heap z T O .none)(hT:pJ s.heap T (.ref j1) (.ref j2) (.ref j3))(hO:pJ s.heap O a b c)
  (h1:s.heap.IsTupleIter j1 t1 i)(w1:s.heap.IsTuple t1 v1)(e1:v1[i]? =none)
  (k:∀g,(∀y o,y∉[z,O,j1,j2,j3]->s.heap.get? y=some o->g.get? y=some o)->Q none { s with heap:=g }):adq (model P w) A (pyNext (.ref z)) Q E s:=by
 have ty:s.TypeIs (.ref z) "zip":=⟨_,hz,rfl⟩
 unfold pyNext
 refine ads (wpAny_attempt (wpAny_callSpecial?_slot (name:=my "__next__") ty xR (wpAny_call_entry xR ty F.entry_zip_next ?_ (F.args_zip_next_1 _))))
 refine Ez hh D hz hT hO h1 w1 e1 λg e kp he=>?_
 obtain⟨o,q,c⟩:=he
 exact ads (wpAny_isInstance (T:="StopIteration") (b:=true) ⟨o,q,c⟩ isSubtype_stop (ady (k g kp)))
end
def Ya(t1 t2 t3:ac5):It :=
 ⟨λi H=>∃xs ys zs x y z,H t1=some (.tup xs)/\H t2=some (.tup ys)/\H t3=some (.tup zs)/\xs[i]? =some x/\ys[i]? =some y/\zs[i]? =some z,
  λi H v H'=>∃p,v= .ref p/\H p=none/\∃xs ys zs x y z,H t1=some (.tup xs)/\H t2=some (.tup ys)/\H t3=some (.tup zs)/\xs[i]? =some x/\ys[i]? =some y/\zs[i]? =some z/\H'=upd H p (.tup [x,y,z]),
  λi H=>∃xs,H t1=some (.tup xs)/\xs.length<=i⟩
def Kn(z T O j1 j2 j3 t1 t2 t3:ac5)(i:Nat)(h:Heap):Prop:=IsZip h z T O .none/\pJ h T (.ref j1) (.ref j2) (.ref j3)/\(∃a b c,pJ h O a b c)/\h.IsTupleIter j1 t1 i/\h.IsTupleIter j2 t2 i/\h.IsTupleIter j3 t3 i
theorem ED{b z T O j1 j2 j3:ac5}(h:b∈[z,O,j1,j2,j3]):b∈[z,T,O,j1,j2,j3]:=(List.mem_cons.mp h).elim (λe=>e ▸ bu) λh=>aN _ (aN _ h)
theorem EE{P:ac9}{w:ade}{K:PySem.W.Frag}{es:List Expr}{kt:Nat}{pt:Pos}{z T O j1 j2 j3 t1 t2 t3:ac5}(nd:[z,T,O,j1,j2,j3].Nodup):Turn P w K (.Tuple es kt pt) (Ya t1 t2 t3) [z,T,O,j1,j2,j3] z (Kn z T O j1 j2 j3 t1 t2 t3) where
 mem:=by simp
 obj:=λi h st b hb=>by
  obtain⟨a1,a2,⟨a,b',c,a3⟩,⟨o1,q1,_,d1⟩,⟨o2,q2,_,d2⟩,⟨o3,q3,_,d3⟩⟩:=st
  simp only[aV,bb,or_false] at hb
  rcases hb with rfl | rfl | rfl | rfl | rfl | rfl
  ·exact⟨_,a1,λv z=>by cases z⟩
  ·exact⟨_,a2,λv z=>by cases z⟩
  ·exact⟨_,a3,λv z=>by cases z⟩
  ·exact⟨o1,q1,λv z=>by rw[d1] at z;cases z⟩
  ·exact⟨o2,q2,λv z=>by rw[d2] at z;cases z⟩
  ·exact⟨o3,q3,λv z=>by rw[d3] at z;cases z⟩
 keep:=λi h h' st k=>by
  obtain⟨a1,a2,⟨a,b,c,a3⟩,⟨o1,q1,r1⟩,⟨o2,q2,r2⟩,⟨o3,q3,r3⟩⟩:=st
  exact⟨k z (by simp) _ a1,k T (by simp) _ a2,⟨a,b,c,k O (by simp) _ a3⟩,⟨o1,k j1 (by simp) _ q1,r1⟩,⟨o2,k j2 (by simp) _ q2,r2⟩,⟨o3,k j3 (by simp) _ q3,r3⟩⟩
 item:=by
  intro X hP hw hK hc i pins s σ H E I hf st hg
  subst hP hw hK
  obtain⟨xs,ys,zs,x,y,v,H1,H2,H3,x1,x2,x3⟩:=hg
  obtain⟨i1,r1,p1,_⟩:=I.tuple (eJ.of H1)
  obtain⟨i2,r2,p2,_⟩:=I.tuple (eJ.of H2)
  obtain⟨i3,r3,p3,_⟩:=I.tuple (eJ.of H3)
  obtain⟨u1,e1,m1⟩:=r1.get x1
  obtain⟨u2,e2,m2⟩:=r2.get x2
  obtain⟨u3,e3,m3⟩:=r3.get x3
  obtain⟨a1,a2,⟨a,b,c,a3⟩,a4,a5,a6⟩:=st
  have no:∀{t:ac5}{ws:List V},H t=some (.tup ws)->t∉[z,O,j1,j2,j3]:=λ{t ws} q hb=>by
   have n:=(hf t (ED hb)).1
   rw[q] at n;cases n
  refine IS ⟨nd,no H1,no H2,no H3⟩ a1 a2 a3 a4 a5 a6 p1 p2 p3 (by simpa using e1) (by simpa using e2) (by simpa using e3) λg b1 b2 b3 b4 b5 b6 b7 b8=>?_
  refine⟨.ref s.heap.objs.size,rfl,?_⟩
  refine wpAny_letOwnedTupleGo_zip b1 λh2 c1 sb=>?_
  have hfr:H s.heap.objs.size=none:=I.hok.fresh (aq _)
  have Yb:=nd
  simp only[jh,aV,bb,or_false,not_or,gX,and_true,not_false_eq_true] at Yb
  obtain⟨⟨zT,zO,z1,z2,z3⟩,⟨TO,T1,T2,T3⟩,_⟩:=Yb
  have lt:∀b o,s.heap.get? b=some o->b≠s.heap.objs.size:=λb o q=>aR (aF q)
  have Km:z≠s.heap.objs.size:=lt _ _ a1
  have kp:∀b o,b∉[z,O,j1,j2,j3]->s.heap.get? b=some o->h2.get? b=some o:=λb o hb q=>sb.extBut _ _ (λe=>hb (by simp[e])) (b8 b o hb q)
  have EF:∀b u,H b=some u->b∉[z,O,j1,j2,j3]:=λb u q hb=>by
   have n:=(hf b (ED hb)).1
   rw[q] at n;cases n
  have lX:∀b,b∉[z,T,O,j1,j2,j3]->b∉[z,O,j1,j2,j3]:=λb h hb=>h (ED hb)
  have kt:∀b u,H b=some u->b≠s.heap.objs.size:=λb u q=>bA q hfr
  have Tn:h2.get? s.heap.objs.size=some { cls:=.type "tuple",data:=.seq #[u1,u2,u3] }:=sb.extBut _ _ (ax Km) b6
  have U4:∀b∈[z,T,O,j1,j2,j3],b≠s.heap.objs.size:=λb hb=>by
   simp only[aV,bb,or_false] at hb
   rcases hb with rfl | rfl | rfl | rfl | rfl | rfl
   ·exact Km
   ·exact lt _ _ a2
   ·exact lt _ _ a3
   ·obtain⟨o,q,_⟩:=a4;exact lt _ _ q
   ·obtain⟨o,q,_⟩:=a5;exact lt _ _ q
   ·obtain⟨o,q,_⟩:=a6;exact lt _ _ q
  have at':∀{j t:ac5}{n:Nat},j≠z->g.IsTupleIter j t n->h2.IsTupleIter j t n:=λn ⟨o,q,r⟩=>⟨o,sb.extBut _ _ n q,r⟩
  refine⟨.ref s.heap.objs.size,upd H s.heap.objs.size (.tup [x,y,v]),?_,rfl,⟨s.heap.objs.size,rfl,hfr,xs,ys,zs,x,y,v,H1,H2,H3,x1,x2,x3,rfl⟩,⟨c1,?_,⟨u1,u2,u3,sb.extBut _ _ (ax zO) b2⟩,at' (ax z1) b3,at' (ax z2) b4,at' (ax z3) b5⟩,λb hb=>?_⟩
  ·refine I.sk (s':={ s with heap:=h2 }) (ch:=[z,T,O,j1,j2,j3]) rfl ?_ ?_ I.bare (λb hb=>⟨(hf b hb).2.2.2.1,(hf b hb).2.1,(hf b hb).2.2.2.2.1,(hf b hb).2.2.2.2.2⟩)
   ·refine⟨λb o q _ _ hx=>kp b o (lX b hx) q,λb o q _ _ hx=>⟨o.slots,kp b o (lX b hx) q⟩,λb o q n _=>by rw[aG (lt b o q)];exact n,λb o q hx=>⟨o,kp b o (lX b hx) q⟩,λb ys q=>by rw[aG (kt b _ q)];exact q,λb o y q=>by rw[aG (kt b _ q)];exact q,λb ps q=>⟨#[],by rw[aG (kt b _ q),q];simp⟩⟩
   ·intro b o q
    by_cases hb:b=s.heap.objs.size
    ·subst hb
     rw[aW] at q
     cases q
     exact⟨by show 3<=ado;decide,[u1,u2,u3],.cons m1 (.cons m2 (.cons m3 .nil)),⟨_,Tn,rfl,0,rfl⟩,λo q=>by rw[Tn] at q;cases q;rfl⟩
    ·rw[aG hb] at q
     refine(I.hok b o q).stay (λc v hc g=>?_) (λc g=>by rw[aG (kt c _ g)];exact g) λc ys g=>by rw[aG (kt c _ g)];exact g
     rcases hc with e | e
     ·subst e;exact kp _ _ (EF _ _ q) g
     ·exact kp _ _ (EF _ _ e) g
  ·refine kp T _ ?_ a2
   simp only[aV,bb,or_false,not_or]
   exact⟨ax zT,TO,T1,T2,T3⟩
  ·rw[aG (U4 b hb)];exact(hf b hb).1
 done:=by
  intro X hP hw hK hc i pins s σ H E I hf st hg
  subst hP hw hK
  obtain⟨xs,H1,hl⟩:=hg
  obtain⟨i1,r1,p1,_⟩:=I.tuple (eJ.of H1)
  obtain⟨a1,a2,⟨a,b,c,a3⟩,a4,a5,a6⟩:=st
  have no:t1∉[z,O,j1,j2,j3]:=λhb=>by
   have n:=(hf t1 (by simp only[aV,bb,or_false] at hb ⊢;rcases hb with h | h | h | h | h<;>simp[h])).1
   rw[H1] at n;cases n
  have hlen:=r1.length
  have EF:∀b u,H b=some u->b∉[z,O,j1,j2,j3]:=λb u q hb=>by
   have n:=(hf b (ED hb)).1
   rw[q] at n;cases n
  have lX:∀b,b∉[z,T,O,j1,j2,j3]->b∉[z,O,j1,j2,j3]:=λb h hb=>h (ED hb)
  refine EC (I.ok.hd hc) (t2:=t1) (t3:=t1) ⟨nd,no,no,no⟩ a1 a2 a3 a4 p1 (by simp;omega) λg kp=>⟨rfl,?_⟩
  refine I.sk (s':={ s with heap:=g }) (ch:=[z,T,O,j1,j2,j3]) rfl ?_ ?_ I.bare (λb hb=>⟨(hf b hb).2.2.2.1,(hf b hb).2.1,(hf b hb).2.2.2.2.1,(hf b hb).2.2.2.2.2⟩)
  ·exact⟨λb o q _ _ hx=>kp b o (lX b hx) q,λb o q _ _ hx=>⟨o.slots,kp b o (lX b hx) q⟩,λb o q n _=>n,λb o q hx=>⟨o,kp b o (lX b hx) q⟩,λb ys q=>q,λb o y q=>q,λb ps q=>⟨#[],by rw[q];simp⟩⟩
  ·intro b o q
   refine(I.hok b o q).stay (λc v hc g=>?_) (λc g=>g) λc ys g=>g
   rcases hc with e | e
   ·subst e;exact kp _ _ (EF _ _ q) g
   ·exact kp _ _ (EF _ _ e) g
 self:=λ_ _ _ _ _ st h=>wpAny_pyIter_zip st.1 h
section
variable {X:Cx}
def U5(ta:TA):TI:=λσ H R=>ta σ H λvs H1=>∃t1 t2 t3 xs ys zs,vs=[.ref t1,.ref t2,.ref t3]/\H1 t1=some (.tup xs)/\H1 t2=some (.tup ys)/\H1 t3=some (.tup zs)/\R (Ya t1 t2 t3) H1
theorem Q6{a b c:ac5}{us:List adb}(r:Vals [.ref a,.ref b,.ref c] us):∃u v w,us=[u,v,w]/\u= .ref a/\v= .ref b/\w= .ref c:=by
 cases r with
 | cons r1 r=>
  cases r with
  | cons r2 r=>
   cases r with
   | cons r3 r=>
    cases r
    exact⟨_,_,_,rfl,r1,r2,r3⟩
theorem Nk{es:List Expr}{kt:Nat}{pt p q:Pos}{l:Expr}{ls:List Expr}{ta:TA}(hg:Gl X "zip")(hm:X.mg "zip"=none)(ha:PA X (l::ls) ta)(hst:adp (l::ls) X.env=(false,eval l X.env)::adp ls X.env)(hpl:(backTo q (adp ls X.env)).any (·.1)=false) :
  PI X (.Tuple es kt pt) (.Call (.Name "zip" p) (l::ls) [] q) (U5 ta):=by
 intro pins s σ H R I h
 refine wpAny_Call_Name_kw (jS I hg hm boot_zip ?_)
 refine mv (bo (ha q pins s σ H _ I h) λus s1 ⟨vs,H1,I1,r1,q1⟩=>?_) hst hpl
 obtain⟨t1,t2,t3,xs,ys,zs,e,h1,h2,h3,k⟩:=q1
 subst e
 obtain⟨v1,v2,v3,rfl,rfl,rfl,rfl⟩:=Q6 r1
 ·
  obtain⟨i1,_,p1,_⟩:=I1.tuple (eJ.of h1)
  obtain⟨i2,_,p2,_⟩:=I1.tuple (eJ.of h2)
  obtain⟨i3,_,p3,_⟩:=I1.tuple (eJ.of h3)
  refine Bs p1 p2 p3 λg b1 b2 b3 b4 b5 b6 kp=>wpAny_pyIter_zip b1 ?_
  have nd:[s1.heap.objs.size+5,s1.heap.objs.size+3,s1.heap.objs.size+4,s1.heap.objs.size,s1.heap.objs.size+1,s1.heap.objs.size+2].Nodup:=by
   simp only[jh,aV,bb,or_false,not_or,gX,and_true,not_false_eq_true]
   refine⟨⟨?_,?_,?_,?_,?_⟩,⟨?_,?_,?_,?_⟩,⟨?_,?_,?_⟩,⟨?_,?_⟩,?_⟩<;>omega
  have zs:Kn (s1.heap.objs.size+5) (s1.heap.objs.size+3) (s1.heap.objs.size+4) s1.heap.objs.size (s1.heap.objs.size+1) (s1.heap.objs.size+2) t1 t2 t3 0 g:=⟨b1,b2,⟨_,_,_,b3⟩,b4,b5,b6⟩
  have tz:=EE (P:=X.prog) (w:=X.w) (K:=X.K) (es:=es) (kt:=kt) (pt:=pt) (t1:=t1) (t2:=t2) (t3:=t3) nd
  refine⟨s1.heap.objs.size+5,_,_,_,H1,rfl,I1.kept (t':=s1.toks) kp,tz,zs,λb hb=>?_,k⟩
  have ge:s1.heap.objs.size<=b:=by
   simp only[aV,bb,or_false] at hb
   rcases hb with rfl | rfl | rfl | rfl | rfl | rfl<;>omega
  exact I1.tN (pins:=pins) (H':=H1) (b:=b) ge (I1.hok.fresh ge)
def qF:List Wv->List Wv->List Wv->List Wv
 | a::as,b::bs,c::cs=> .tup [a,b,c]::qF as bs cs
 | _,_,_=>[]
theorem qG:∀{as bs cs:List Wv}{i:Nat},as.length<=bs.length->as.length<=cs.length->(h:i < as.length)->∃a b c,as[i]? =some a/\bs[i]? =some b/\cs[i]? =some c/\(qF as bs cs)[i]? =some (.tup [a,b,c])
 | a::as,b::bs,c::cs,0,_,_,_=>⟨a,b,c,rfl,rfl,rfl,rfl⟩
 | a::as,b::bs,c::cs,i+1,h1,h2,h=>by
  obtain⟨x,y,z,e⟩:=qG (as:=as) (bs:=bs) (cs:=cs) (i:=i) (by simpa using h1) (by simpa using h2) (by simpa using h)
  exact⟨x,y,z,by simpa [qF] using e⟩
 | [],_,_,_,_,_,h=>by simp at h
 | _::_,[],_,_,h,_,_=>by simp at h
 | _::_,_::_,[],_,_,h,_=>by simp at h
theorem v_:∀{as bs cs:List Wv},as.length<=bs.length->as.length<=cs.length->(qF as bs cs).length=as.length
 | a::as,b::bs,c::cs,h1,h2=>by simp only[qF,yY];rw[v_ (by simpa using h1) (by simpa using h2)]
 | [],_,_,_,_=>by simp[qF]
 | _::_,[],_,h,_=>by simp at h
 | _::_,_::_,[],_,h=>by simp at h
def Nl(ws:List Wv)(st:Hs):Re QW:=match ws with
 | [.tup as,.tup bs,.tup cs]=>if as.length<=bs.length/\as.length<=cs.length then .ok (none,qF as bs cs) st else .bad
 | _=> .bad
def sW(g:GA):Ef:=λρ st=>(g ρ st).bind Nl
theorem IT{es:List Expr}{kt:Nat}{pt p q:Pos}{l:Expr}{ls:List Expr}{ga:GA}(hg:Gl X "zip")(hm:X.mg "zip"=none)(ha:JA X (l::ls) ga)(hst:adp (l::ls) X.env=(false,eval l X.env)::adp ls X.env)(hpl:(backTo q (adp ls X.env)).any (·.1)=false) :
  Kd X (.Tuple es kt pt) (.Call (.Name "zip" p) (l::ls) [] q) (sW ga):=by
 refine⟨_,Nk hg hm iT hst hpl,λρ st σ H m Q S R p=>?_⟩
 refine ha.go S R (aw.bind p) λws st1 vs m1 H1 p1 e1 S1 rs=>?_
 unfold Nl at p1
 split at p1
 ·rename_i as bs cs
  by_cases c:as.length<=bs.length/\as.length<=cs.length
  ·rw[if_pos c] at p1
   obtain⟨w1,w2,w3,v1,v2,v3,e,rfl,r1,r2,r3⟩:=Nc rs rfl
   cases e
   unfold ah at r1 r2 r3
   obtain⟨t1,xs,rfl,f1,g1⟩:=r1
   obtain⟨t2,ys,rfl,f2,g2⟩:=r2
   obtain⟨t3,zs,rfl,f3,g3⟩:=r3
   have len:=v_ c.1 c.2
   refine⟨t1,t2,t3,xs,ys,zs,rfl,f1,f2,f3,p1 m1 H1 _ e1 S1 trivial ⟨λk H' m' st' e S' _ hk=>?_,λk H' m' st' e S' _ hk=>?_,λk hk H' v UT m' st' e S' _ y=>?_⟩⟩
   ·have hk':k < as.length:=by rw[<-len];exact hk
    obtain⟨a,b,c',q1,q2,q3,_⟩:=qG c.1 c.2 hk'
    obtain⟨x,y1,_⟩:=g1.get q1
    obtain⟨y,y2,_⟩:=g2.get q2
    obtain⟨z,y3,_⟩:=g3.get q3
    exact⟨xs,ys,zs,x,y,z,e.tup _ _ f1,e.tup _ _ f2,e.tup _ _ f3,y1,y2,y3⟩
   ·exact⟨xs,e.tup _ _ f1,by rw[<-g1.length,hk];exact mO len.symm⟩
   ·have hk':k < as.length:=by rw[<-len];exact hk
    obtain⟨a,b,c',q1,q2,q3,q4⟩:=qG c.1 c.2 hk'
    obtain⟨x,y1,z1⟩:=(ai.mono e _ _ g1).get q1
    obtain⟨x',y2,z2⟩:=(ai.mono e _ _ g2).get q2
    obtain⟨x'',y3,z3⟩:=(ai.mono e _ _ g3).get q3
    obtain⟨p',rfl,fr,xs',ys',zs',a1,a2,a3,d1,d2,d3,d4,d5,d6,rfl⟩:=y
    rw[e.tup _ _ f1] at d1
    rw[e.tup _ _ f2] at d2
    rw[e.tup _ _ f3] at d3
    cases d1
    cases d2
    cases d3
    rw[y1] at d4
    rw[y2] at d5
    rw[y3] at d6
    cases d4
    cases d5
    cases d6
    have eU:Ext X.K m' H' m' (upd H' p' (.tup [x,x',x''])):=Ext.iR (.inl fr)
    refine⟨eU,S'.fresh fr,?_⟩
    have q5:(qF as bs cs)[k]'hk= .tup [a,b,c']:=by
     have:=fm hk
     rw[q4] at this
     exact(Option.some.inj this).symm
    show ah X.K m' (upd H' p' (.tup [x,x',x''])) ((qF as bs cs)[k]'hk) (.ref p')
    rw[q5]
    unfold ah
    exact⟨p',[x,x',x''],rfl,aW,ai.cons (ah.mono eU _ _ z1) (ai.cons (ah.mono eU _ _ z2) (ai.cons (ah.mono eU _ _ z3) ai.nil))⟩
  ·rw[if_neg c] at p1;exact ae p1
 ·exact ae p1
end
def U6(lo c:Int)(n:Nat):It:=⟨λi _=>i < n,λi H v H'=>H'=H/\v= .int (lo+i * c),λi _=>n<=i⟩
theorem wa{P:ac9}{w:ade}{K:PySem.W.Frag}{tg:Expr}(it:ac5)(lo c:Int)(n:Nat):Turn P w K tg (U6 lo c n) [it] it (λi h=>IsRangeIter h it (lo+(i:Nat) * c) ((n:Int) - (i:Nat)) c) where
 mem:=by simp
 obj:=λi h st b hb=>by
  have e:b=it:=by simpa using hb
  subst e
  exact⟨_,st,λv z=>by cases z⟩
 keep:=λi h h' st k=>k it (by simp) _ st
 item:=by
  intro X hP hw hK hc i pins s σ H E I hf st hg
  subst hP hw hK
  obtain⟨f0,f1,f2,f3,f4,f5⟩:=hf it (by simp)
  have W:=Walks.range (prog:=X.prog) (w:=X.w) (I.ok.hd hc) it lo c n
  refine W.item i s _ _ hg st λv h' tk hv st' kk=>?_
  obtain⟨t,rfl⟩:=hv
  have I1:Inv X pins σ H { s with heap:=h',toks:=tk }:=I.turned (λb o hb e=>kk b o (by simpa using hb) e) f0 f1 f3 f4 f5
  exact⟨_,rfl,sr (s:={ s with heap:=h',toks:=tk }) (n:="range_iterator") st' rfl rfl (by decide) ⟨.int (lo+i * c),H,I1,⟨t,rfl⟩,⟨rfl,rfl⟩,st',λb hb=>(hf b hb).1⟩⟩
 done:=by
  intro X hP hw hK hc i pins s σ H E I hf st hg
  subst hP hw hK
  obtain⟨f0,f1,f2,f3,f4,f5⟩:=hf it (by simp)
  exact wpAny_pyNext_range_end (I.ok.hd hc) st (by have:n<=i:=hg;omega) λh' eb=>⟨rfl,I.turned (t':=s.toks) (λb o hb e=>eb b o hb e) f0 f1 f3 f4 f5⟩
 self:=λ_ _ _ _ _ st h=>wpAny_pyIter_rangeiter st h
theorem Bt(a b c:adb):checkTypeCall "range" ⟨[a,b,c],[]⟩=pure ():=by kernel_rfl
theorem Bu(a b c:adb):checkBuiltinCall "range.__new__" ⟨[.type "range",a,b,c],[]⟩=pure ():=by kernel_rfl
def EG(a b c:Int):Prop:=0<=a/\a < 2 ^ 30/\0<=b/\b < 2 ^ 30/\1<=c/\c < 2 ^ 30
instance {a b c}:Decidable (EG a b c):=DD _
def g_(a b c:Int):Nat:=(if a < b then(b - a - 1) / c+1 else 0).toNat
theorem Bv{a b c:Int}(h:EG a b c):tO a b c=g_ a b c:=by
 obtain⟨h1,h2,h3,h4,h5,h6⟩:=h
 unfold tO g_
 rw[if_pos (by omega)]
 by_cases e:a < b
 ·rw[if_pos e]
  have:0<=(b - a - 1) / c:=Int.ediv_nonneg (by omega) (by omega)
  omega
 ·rw[if_neg e];rfl
theorem xS{a b c:Int}(h:EG a b c):Nm a b c=true:=by
 obtain⟨h1,h2,h3,h4,h5,h6⟩:=h
 unfold Nm tO
 have d1:0<=(b - a - 1) / c\/¬a < b:=by
  by_cases e:a < b
  ·exact .inl (Int.ediv_nonneg (by omega) (by omega))
  ·exact .inr e
 have d2:a < b->(b - a - 1) / c<=b - a - 1:=λe=>Int.ediv_le_self _ (by omega)
 simp only[Builtin.Range.rangeFitsLong,cQ,Dj,decide_eq_true_eq,beq_iff_eq,show c > 0 by omega,if_true]
 split<;>omega
theorem Q7{a b c:Int}(h:EG a b c):Nn (b - a) c=false:=by
 obtain⟨h1,h2,h3,h4,h5,h6⟩:=h
 have e0:(c == 0)=false:=by rw[beq_eq_false_iff_ne];omega
 have e1:c.natAbs.log2 < 30:=(Nat.log2_lt (by omega)).mpr (by omega)
 have e2:c.natAbs.log2 / 30=0:=zQ e1
 simp[Nn,e0,e2]
theorem wb{P:ac9}{w:ade}{A:ac6}{E:adb->ada->Prop}{s:ada}{a b c:Int}{t u v:Tok}{Q:adb->ada->Prop}(h:EG a b c)
  (k:Q (.ref s.heap.objs.size) { s with heap:=s.heap.push { cls:=.type "range",data:=.fields #[.int a t,.int b u,.int c v] } }):adq (model P w) A (call (.type "range") [.int a t,.int b u,.int c v]) Q E s:=by
 refine callType_new F.called_range (by decide) (Bt _ _ _) (Bu _ _ _) (λobj=>Q5 obj _ _ _) F.entry_range_new (AutoRange.range___new___type_int_int_int_1 a b c t u v F.called_range.sub ?_) ⟨Q7 h,⟨_,bB _ rfl,rfl⟩,k⟩
 have:c≠0:=by have:=h.2.2.2.2.1;omega
 simpa using this
section
variable {X:Cx} {tg:Expr}
def Q8(ta:TA):TI:=λσ H R=>ta σ H λvs H1=>∃a b c:Int,vs=[.int a,.int b,.int c]/\EG a b c/\R (U6 a c (g_ a b c)) H1
theorem ints3{a b c:Int}{us:List adb}(r:Vals [.int a,.int b,.int c] us):∃t u v,us=[.int a t,.int b u,.int c v]:=by
 cases r with
 | cons r1 r=>
  cases r with
  | cons r2 r=>
   cases r with
   | cons r3 r=>
    cases r
    obtain⟨t,rfl⟩:=r1
    obtain⟨u,rfl⟩:=r2
    obtain⟨v,rfl⟩:=r3
    exact⟨t,u,v,rfl⟩
theorem Bw{l:Expr}{ls:List Expr}{ta:TA}{p pos:Pos}(hg:Gl X "range")(hm:X.mg "range"=none)(ha:PA X (l::ls) ta)(hst:adp (l::ls) X.env=(false,eval l X.env)::adp ls X.env)(hpl:(backTo pos (adp ls X.env)).any (·.1)=false) :
  PI X tg (.Call (.Name "range" p) (l::ls) [] pos) (Q8 ta):=by
 intro pins s σ H R I h
 refine wpAny_Call_Name_kw (jS I hg hm boot_range ?_)
 refine mv (bo (ha pos pins s σ H _ I h) λus s1 ⟨vs,H1,I1,r1,q1⟩=>?_) hst hpl
 obtain⟨a,b,c,rfl,hc,q⟩:=q1
 obtain⟨t,u,v,rfl⟩:=ints3 r1
 refine wb hc ?_
 refine wpAny_pyIter_range (IsRange.new ..) (xS hc) ?_
 have I2:Inv X pins σ H1 { s1 with heap:=s1.heap.push { cls:=.type "range",data:=.fields #[.int a t,.int b u,.int c v] } }:=I1.kept (t':=s1.toks) λb o e=>aK _ e
 refine⟨(s1.heap.push { cls:=.type "range",data:=.fields #[.int a t,.int b u,.int c v] }).objs.size,[(s1.heap.push { cls:=.type "range",data:=.fields #[.int a t,.int b u,.int c v] }).objs.size],_,_,H1,rfl,I2.kept (t':=s1.toks) λb o e=>aK _ e,wa _ a c (g_ a b c),?_,λy hy=>?_,q⟩
 ·have e1:a+((0:Nat):Int) * c=a:=by simp
  have e2:((g_ a b c:Nat):Int) - ((0:Nat):Int)=tO a b c:=by rw[Bv hc];simp
  show IsRangeIter _ _ (a+((0:Nat):Int) * c) (((g_ a b c:Nat):Int) - ((0:Nat):Int)) c
  rw[e1,e2]
  exact bB _ rfl
 ·have e:y=(s1.heap.push { cls:=.type "range",data:=.fields #[.int a t,.int b u,.int c v] }).objs.size:=by simpa using hy
  subst e
  exact I2.tN (aq _) (I2.hok.fresh (aq _))
def qH(lo c:Int)(n:Nat):List Wv:=(f9 n).map λk:Nat=>Wv.int (lo+k * c)
theorem mY{lo c:Int}{n:Nat}:(qH lo c n).length=n:=by unfold qH;simp
theorem sX{lo c:Int}{n k:Nat}(h:k < n):(qH lo c n)[k]? =some (.int (lo+k * c)):=by
 unfold qH
 rw[i8,List.getElem?_range h]
 rfl
theorem EH{lo c:Int}{n k:Nat}(h:k < (qH lo c n).length):(qH lo c n)[k]= .int (lo+k * c):=by
 have q:=sX (lo:=lo) (c:=c) (n:=n) (k:=k) (by rw[mY] at h;exact h)
 rw[fm h] at q
 exact Option.some.inj q
def qI(i:Nat)(ga:GA)(gb:GS):GS:=λρ st=>(ga ρ st).bo ρ λws st1=>match ws with
 | [.int a,.int b,.int c]=>if EG a b c then cZ i gb (qH a c (g_ a b c)) ρ st1 else .bad
 | _=> .bad
theorem EI(i:Nat){x:Str}{l:Expr}{ls:List Expr}{body:List Stmt}{ga:GA}{gb:GS}{pos pos' p q:Pos}(hN:X.N.Nodup)(hp:PassesOwn (model X.prog X.w) X.A X.env X.xe)(hc:X.calm=true)(hg:Gl X "range")(hm:X.mg "range"=none)(ha:JA X (l::ls) ga)(hb:nz X body gb)
  (hx:X.N[i]? =some x)(hlo:Loc X.env.scope x)(MG:X.fn x=true\/X.env.scope.names.lookup x=some .local)(hst:adp (l::ls) X.env=(false,eval l X.env)::adp ls X.env)(hpl:(backTo q (adp ls X.env)).any (·.1)=false) :
  JS X (.For (.Name x pos') (.Call (.Name "range" p) (l::ls) [] q) body [] pos) (qI i ga gb):=by
 refine JS.of (lJ hp hc (Bw hg hm iT hst hpl) (mr hN hx hlo MG) eR (λ_=>rfl)) λρ st σ H m D S R p=>?_
 refine ha.go S R (aE.cF R p) λws st1 vs m1 H1 p1 e1 S1 rs=>?_
 split at p1
 ·rename_i a b c
  by_cases cc:EG a b c
  ·rw[if_pos cc] at p1
   obtain⟨w1,w2,w3,v1,v2,v3,e,rfl,r1,r2,r3⟩:=Nc rs rfl
   cases e
   cases aI r1
   cases aI r2
   cases aI r3
   refine⟨a,b,c,rfl,cc,mM (J':=U6 a c (g_ a b c)) i hb S1 (R.mono e1) (aE.shift p1 e1) (λk H m' e hk=>by rw[mY] at hk;exact hk) (λk H m' e hk=>by rw[mY] at hk;exact mO hk.symm) λk hk H x H' m' e y=>?_⟩
   obtain⟨y1,y2⟩:=y
   refine⟨y1,?_⟩
   rw[EH,y2]
   exact mkInt
  ·rw[if_neg cc] at p1;exact ae p1
 ·exact ae p1
end
section
variable {X:Cx}
end
section
variable {X:Cx}
end
theorem IU(l:ac5)(items:Array adb)(n:Nat)(b:ac5)(items2:Array adb)(n2:Nat)(dd:Option ac5)(sl:Array (Option adb))(hs0:¬(!items.isEmpty&&qb (items.size+items2.size))=true)(hs1:items.size<=ado)(hs2:items.size+items2.size<=ado+1) :
  Meets (Builtin.«list.extend» ⟨[.ref l,.ref b],[]⟩) (λ_ R s=>s.heap.get? l=some { cls:=.type "list",dict:=none,data:=.seq items n,slots:=#[] }/\s.heap.get? b=some ⟨.type "tuple",dd,.seq items2 n2,sl⟩/\R (.ok (.ret cJ)) { s with heap:=s.heap.update l (kK λx=>x++items2),toks:=s.toks }) :=
 .of_wp λprog w A R s h=>by
  obtain⟨hp,g,d,tk,os⟩:=s;obtain⟨hl,hb,h⟩:=h;have f1:=AutoSeq1.idx_int;have f2:=AutoSeq1.sub_tuple_tuple;have f3:=AutoSeq1.sub_list_list;have f4:=AutoSeq1.sub_tuple_list;have f5:=AutoSeq1.sub_list_tuple;
  have hz':(items++items2).size<=ado+1:=by rw[Array.size_append];exact hs2
  wp_walk using (wpAny_updateSeq hl rfl (hz:=hs1) (_hz':=hz')),wpAny_loadPart' hl,wpAny_loadPart' hb;exact⟨_,rfl,h⟩
def wc(K:PySem.W.Frag):V->List V->Hp->VK->Prop:=λx vs H Q=>∃l b xs zs,x= .ref l/\vs=[.ref b]/\H l=some (.lst xs)/\eJ K H b zs/\xs.length+zs.length<=ado/\Q .bz (upd H l (.lst (xs++zs)))
section
variable {X:Cx}
theorem xT:P4 X "list.extend" (wc X.K):=by
 intro pins s σ H x vs v us Q I rx rv h
 obtain⟨l,b,xs,zs,rfl,rfl,hH,hB,hz,q⟩:=h
 cases rx
 obtain⟨u,rfl,ru⟩:=rv.one
 cases ru
 obtain⟨z,its,n,r,hl,e⟩:=I.A2 hH
 obtain⟨its2,r2,⟨o,e2,oc,n2,od⟩,z2⟩:=I.tuple hB
 obtain⟨oc',dd,od',sl⟩:=o
 dsimp only at oc od
 subst oc od
 have l1:xs.length=its.length:=r.length
 have l2:zs.length=its2.length:=r2.length
 have hsz:its.toArray.size+its2.toArray.size<=ado:=by rw[aO,aO];omega
 have vx:¬(!its.toArray.isEmpty&&qb (its.toArray.size+its2.toArray.size))=true:=by
  rw[qa hsz,Bool.and_false]
  exact cR
 refine call_meets F.slot_list_extend ⟨_,e,rfl⟩ F.entry_list_extend (F.args_list_extend_2 _ _)
  (IU l its.toArray n b its2.toArray n2 dd sl vx (by rw[aO];omega) (by omega)) ⟨e,e2,?_⟩
 refine⟨.bz,_,I.Hr (its':=its++its2) hH e (by simp) (r.append r2) ?_,rfl,q⟩
 rw[cW]
 omega
def wd(o v:Wv)(st:Hs):Re Wv:=match v with
 | .tup zs=>(match o with
  | .ref l=>(match st[l]? with
   | some (.lst ws)=>if ws.length+zs.length<=lim then .ok .bz (st.set l (.lst (ws++zs))) else .bad
   | _=> .bad)
  | _=> .bad)
 | v=>MK o v st
theorem IV:Sy X "list.extend" wd:=by
 obtain⟨r0,m0,h0⟩:=ML (X:=X)
 refine⟨λx vs H Q=>r0 x vs H Q\/wc X.K x vs H Q,?_,λo w x v st H m Q S ro rw' p=>?_⟩
 ·intro pins s σ H x vs v us Q I rx rv h
  rcases h with h | h
  ·exact m0 pins s σ H x vs v us Q I rx rv h
  ·exact xT pins s σ H x vs v us Q I rx rv h
 ·cases w with
  | tup zs=>
   refine .inr ?_
   cases o with
   | ref l=>
    unfold ah at ro rw'
    obtain⟨a,rfl,ha⟩:=ro
    obtain⟨b,ys,rfl,hb,g2⟩:=rw'
    have p':eE X.K m H (match st[l]? with | some (.lst ws)=>if ws.length+zs.length<=lim then .ok .bz (st.set l (.lst (ws++zs))) else .bad | _=> .bad) Q:=p
    cases e:st[l]? with
    | none=>rw[e] at p';exact ae p'
    | some ob=>
     cases ob with
     | dct kvs=>rw[e] at p';exact ae p'
     | eQ kvs=>rw[e] at p';exact ae p'
     | w5 kvs=>rw[e] at p';exact ae p'
     | sI ns=>rw[e] at p';exact ae p'
     | lst ws=>
      rw[e] at p'
      dsimp only at p'
      by_cases c:ws.length+zs.length<=lim
      ·rw[if_pos c] at p'
       obtain⟨xs,h1,h2⟩:=S.mI ha e
       have e4:Ext X.K m H m (upd H a (.lst (xs++ys))):=Ext.upd (.inr ⟨xs,h1⟩)
       exact⟨a,b,xs,ys,rfl,rfl,h1,eJ.of hb,by rw[<-h2.length,<-g2.length];exact eC c,p' _ m _ e4 (S.write ha e (h2.append g2)) ze⟩
      ·rw[if_neg c] at p';exact ae p'
   | _=>exact ae p
  | _=>exact .inl (h0 o _ x v st H m Q S ro rw' p)
end
section
variable {X:Cx}
end
section
variable {prog:ac9} {w:ade} {A:ac6} {E:adb->ada->Prop} {s:ada}
end
section
variable {X:Cx} {tg:Expr}
end
section
variable {X:Cx} {a b c d:Expr} {pos:Pos}
end
section
variable {X:Cx} {pins:List (ac5×Obj)} {σ:St} {E:adb->ada->Prop} {p:ac5}
end
section
variable {X:Cx} {pos:Pos}
abbrev zR(K:PySem.W.Frag)(m:Mp)(H:Hp):List (Wv×Wv)->List (V×V)->Prop:=Paired λp q=>ah K m H p.1 q.1/\ah K m H p.2 q.2
theorem zR.mono{K:PySem.W.Frag}{m m1:Mp}{H H1:Hp}(e:Ext K m H m1 H1):∀{a:List (Wv×Wv)}{b:List (V×V)},zR K m H a b->zR K m1 H1 a b
 | _,_,.nil=> .nil
 | _,_,.cons h t=> .cons ⟨ah.mono e _ _ h.1,ah.mono e _ _ h.2⟩ (zR.mono e t)
end
def getD(d k:Wv)(st:Hs):Option Wv:=match d with
 | .ref l=>(match st[l]? with
  | some (.dct kvs)=>(match keyOf k with | some kk=>cD kvs kk | none=>none)
  | some (.eQ kvs)=>(match nT k with | some kk=>cD kvs kk | none=>none)
  | some (.w5 kvs)=>(match nT k with | some kk=>cD kvs kk | none=>none)
  | _=>none)
 | _=>none
def SU(d k:Wv)(st:Hs):Re Wv:=match getD d k st with
 | some w=> .ok w st
 | none=> .bad
def we(gd gk:GE):GE:=λρ st=>(gd ρ st).bind λd st1=>(gk ρ st1).bind λk st2=>SU d k st2
section
variable {X:Cx}
theorem IW{m:Mp}{st:Hs}{H:Hp}{d k w:Wv}{x y:V}(S:bf X.K m st H)(rd:ah X.K m H d x)(rk:ah X.K m H k y)(e:getD d k st=some w):∃a v,x= .ref a/\lN H a y (some v)/\ah X.K m H w v:=by
 unfold getD at e
 cases d with
 | ref l=>
  dsimp only at e
  unfold ah at rd
  obtain⟨a,rfl,ha⟩:=rd
  cases e1:st[l]? with
  | none=>rw[e1] at e;cases e
  | some o=>
   rw[e1] at e
   cases o with
   | dct kvs=>
    dsimp only at e
    cases e2:keyOf k with
    | none=>rw[e2] at e;cases e
    | some kk=>
     rw[e2] at e
     obtain⟨xs,h1,h2⟩:=(show ∃ys,H a=some (.dK ys)/\RelK X.K m H kvs ys from S.obj _ _ _ ha e1)
     obtain⟨u,j1,j2⟩:=(h2.val kk).2 w e
     exact⟨a,u,rfl,by rw[kT rk e2,<-j1];exact lN.k h1,j2⟩
   | eQ kvs=>
    dsimp only at e
    cases e2:nT k with
    | none=>rw[e2] at e;cases e
    | some kk=>
     rw[e2] at e
     obtain⟨xs,h1,h2⟩:=(show ∃ys,H a=some (.dT ys)/\RelK X.K m H kvs ys from S.obj _ _ _ ha e1)
     obtain⟨b,rfl,hb⟩:=mV rk e2
     obtain⟨u,j1,j2⟩:=(h2.val kk).2 w e
     exact⟨a,u,rfl,by rw[<-j1];exact lN.t h1 hb,j2⟩
   | w5 kvs=>
    dsimp only at e
    cases e2:nT k with
    | none=>rw[e2] at e;cases e
    | some kk=>
     rw[e2] at e
     obtain⟨o,xs,h1,h2⟩:=(show ∃o ys,H a=some (.oS o (.dT ys))/\RelK X.K m H kvs ys from S.obj _ _ _ ha e1)
     obtain⟨b,rfl,hb⟩:=mV rk e2
     obtain⟨u,j1,j2⟩:=(h2.val kk).2 w e
     exact⟨a,u,rfl,by rw[<-j1];exact .inr ⟨xs,kk,b,.inr ⟨o,h1⟩,rfl,hb,rfl⟩,j2⟩
   | _=>cases e
 | _=>cases e
theorem IX{o i:Expr}{go gi:GE}{pos:Pos}(hu:X.A.units+1 < cLine)(ho:JE X o go)(hi:JE X i gi)(hs:CJ i):JE X (.Subscript o i pos) (we go gi) :=
 JE.of (Hy hu aM aM hs) λρ st σ H m Q S R p=>by
  refine ho.go S R (aw.bind p) λd st1 v m1 H1 p1 e1 S1 rd=>?_
  refine hi.go S1 (R.mono e1) ((aw.bind p1).imp e1 λ_ _ q=>q) λk st2 u m2 H2 p2 e2 S2 rk=>?_
  unfold SU at p2
  cases e:getD d k st2 with
  | none=>rw[e] at p2;exact ae p2
  | some w=>
   rw[e] at p2
   obtain⟨a,v',ex,g,rw'⟩:=IW (X:=X) S2 (ah.mono e2 _ _ rd) rk e
   exact⟨a,v',ex,g,p2 v' m2 H2 (e1.trans e2) S2 rw'⟩
end
section
variable {X:Cx} {pins:List (ac5×Obj)} {σ:St} {H:Hp} {s:ada} {a:ac5} {xs:List (List L2.Key×V)}
end
section
variable {K:PySem.W.Frag} {m:Mp} {st:Hs} {H:Hp}
theorem RelK.jI{κ:Type}{m1:Mp}{H1:Hp}{kvs:List (κ×Wv)}{xs:List (κ×V)}(e:CW K m H m1 H1)(h:RelK K m H kvs xs):RelK K m1 H1 kvs xs:=⟨h.1,ai.jI e _ _ h.2⟩
theorem ay.jI{m1:Mp}{H1:Hp}{ρ:bH}{σ:St}(R:ay K m H ρ σ)(e:CW K m H m1 H1):ay K m1 H1 ρ σ:=⟨R.len,λi w h=>let ⟨v,h1,h2⟩:=R.get i w h;⟨v,h1,ah.jI e _ _ h2⟩⟩
end
section
variable {X:Cx}
end
theorem EJ{H:Hp}:∀{xs:List (List L2.Key×V)}{ys:List (List L2.Key×ac5×adb)},KT H xs ys->∀{i:Nat}{y:List L2.Key×ac5×adb},ys[i]? =some y->∃x,xs[i]? =some x/\x.1=y.1/\H y.2.1=some (.tup (x.1.map kV))/\RelV x.2 y.2.2
 | _,_,.nil,i,y,h=>by cases h
 | _,_,.cons h t,0,y,e=>by cases e;exact⟨_,rfl,h⟩
 | _,_,.cons h t,i+1,y,e=>EJ t (i:=i) e
section
variable {X:Cx} {tg:Expr}
end
section
variable {prog:ac9} {w:ade} {A:ac6} {E:adb->ada->Prop} {s:ada} {d:ac5} {es:Array DictEntry} {ep:Nat}
end
section
variable {prog:ac9} {w:ade} {K:Type} [DecidableEq K] {knd:HeapKind prog w K} {A:ac6} {E:adb->ada->Prop} {s:ada} {d a:ac5} {xs:List (K×ac5×adb)} {k:K}
end
section
variable {prog:ac9} {w:ade} {A:ac6} {E:adb->ada->Prop} {s:ada}
theorem zS{b:DictEntry->PUnit->Sem (ForInStep PUnit)}{Q:PUnit->ada->Prop}:∀{l:List DictEntry},(∀e∈l,∀Q':ForInStep PUnit->ada->Prop,Q' (.yield pK) s->adq (model prog w) A (b e pK) Q' E s)->Q pK s->adq (model prog w) A (forIn l pK b) Q E s
 | [],_,q=>by rw[xK];exact ady q
 | e::r,h,q=>by
  rw[nR]
  exact ads (h e (.head _) _ (zS (λe' he'=>h e' (.tail _ he')) q))
theorem EK{es:List DictEntry}(n:(es.map (·.hash)).Nodup)(c:Int):(es.filter λe=>e.hash == c).length<=1:=by
 induction es with
 | nil=>simp
 | cons e r ih=>
  have n:=List.nodup_cons.mp (show(e.hash::r.map (·.hash)).Nodup from n)
  rw[t_]
  by_cases h:(e.hash == c)=true
  ·rw[if_pos h]
   have:(r.filter λe=>e.hash == c)=[]:=List.filter_eq_nil_iff.mpr λy hy q=>n.1 (List.mem_map.mpr ⟨y,hy,by rw[eq_of_beq q,eq_of_beq h]⟩)
   rw[this]
   exact aq 1
  ·rw[if_neg h];exact ih n.2
theorem o_:typeLookup (.type "tuple") "__eq__"=pure (some (.builtin "tuple.__eq__")):=PySem.F.slot_tuple_eq.lookup
theorem EL{o:ac5}{es:Array DictEntry}{ep:Nat}{Q:adb->ada->Prop}(lo:(o == sysModules)=false)(x:Ed s.heap o es ep)(hz:es.size<=ado)(he:es.size≠0)(hn:(es.toList.map (·.hash)).Nodup)(ht:∀e∈es,∃b,e.key= .ref b/\s.TypeIs (.ref b) "tuple")
  (h:∀h',(∃q,h'.get? s.heap.objs.size=some q/\q.cls= .type "dict"/\q.dict=none/\q.slots=#[]/\∃e',q.data= .dict es e')->iu s.heap.objs.size (s.heap.push { cls:=.type "dict",data:=.dict #[] }) h'->Q (.ref s.heap.objs.size) { s with heap:=h' }) :
  adq (model prog w) A (call (.type "dict") [.ref o]) Q E s:=by
 refine callType_codes (Q₁:=λobj s₁=>obj= .ref s.heap.objs.size/\s₁={ s with heap:=s.heap.push { cls:=.type "dict",data:=.dict #[] } }) F.kt_called_dict (F.kt_typeCall_dict_1 _) F.entry_dict_init (kt_code_dict_new _ ⟨rfl,rfl⟩) ?_
 rintro obj s₁ ⟨rfl,rfl⟩
 obtain⟨q,g1,g2,g3⟩:=x
 have hne:s.heap.objs.size≠o:=λe=>absurd (aF g1) (by rw[e];exact dn _)
 have n1:(s.heap.push { cls:=.type "dict",data:=.dict #[] }).get? s.heap.objs.size=some { cls:=.type "dict",data:=.dict #[] }:=bB _ rfl
 have o1:(s.heap.push { cls:=.type "dict",data:=.dict #[] }).get? o=some q:=aK _ g1
 have tn:pM { s with heap:=s.heap.push { cls:=.type "dict",data:=.dict #[] } } (.ref s.heap.objs.size) "dict":=⟨_,n1,rfl⟩
 have to:pM { s with heap:=s.heap.push { cls:=.type "dict",data:=.dict #[] } } (.ref o) "dict":=⟨_,o1,g2⟩
 refine⟨tn,F.args_dict_init_2 _ _,?_⟩
 unfold Builtin.«dict.__init__»
 refine ads ?_
 unfold Np
 refine ads (wpAny_notOrdered_dict tn (show adq _ _ (pure (s.heap.objs.size,[aQ o])) _ _ _ from ady ?_))
 refine(show adq _ _ (xU "dict.__init__" s.heap.objs.size (.ref o) [] .none) _ _ _ from ?_)
 unfold xU
 refine ads (wpAny_typeOf to ?_)
 rw[if_neg (by decide)]
 refine ads ?_
 unfold Nq
 refine ads ?_
 unfold Nr
 refine ads (wpAny_isInstance to isSubtype_dict_dict ?_)
 simp only[qJ,oI,if_false]
 refine ads (wpAny_specialOf to F.slot_dict_iter.lookup (ady ?_))
 simp only[beq_self_eq_true,if_true]
 refine ads (ady ?_)
 unfold Nt
 rw[if_neg (by simpa using hne)]
 unfold EM
 rw[if_neg (by rw[lo];exact cR)]
 refine ads (ady (ads (adt o1 g3 ?_)))
 have few:(decide (es.size<=8)&&es.all λe=>(keyPart e.key).isSome)=false:=by
  rw[Bool.and_eq_false_iff]
  refine .inr ?_
  rw[<-Bool.not_eq_true,Array.all_eq_true]
  intro al
  have:=al 0 (by omega)
  obtain⟨b,e1,_⟩:=ht es[0] (by simp)
  rw[e1] at this
  cases this
 simp only[few,zU,if_true]
 refine ads (adt n1 rfl ?_)
 simp only[show(#[]:Array DictEntry).isEmpty=true from rfl,if_true]
 refine ads ?_
 unfold Builtin.Dict.entriesForEmpty
 refine ads (adt o1 g3 ?_)
 rw[<-Array.forIn_toList]
 refine ads (zS (λe hm Q' q'=>?_) (ady ?_))
 ·obtain⟨b,e1,e2⟩:=ht e (Array.mem_toList_iff.mp hm)
  rw[e1]
  obtain⟨ob,f1,f2⟩:=e2
  have tb:pM { s with heap:=s.heap.push { cls:=.type "dict",data:=.dict #[] } } (.ref b) "tuple":=⟨_,aK _ f1,f2⟩
  unfold Builtin.Dict.quietEq
  refine ads (ads (wpAny_specialOf tb o_ (ady ?_)))
  have nq:(some (kQ "tuple.__eq__") == some (kQ "object.__eq__"))=false:=by decide
  have sz:¬(es.filter (λx=>x.hash == e.hash)).size > 1:=by
   have q1:=EK hn e.hash
   have q2:(es.filter (λx=>x.hash == e.hash)).size=(es.toList.filter (λx=>x.hash == e.hash)).length:=by rw[<-Ck,Array.toList_filter]
   rw[q2]
   omega
  simp only[nq,zU,if_true,if_neg sz]
  exact ady q'
 ·have ne:es.isEmpty=false:=by simpa [Array.isEmpty] using he
  simp only[ne,zU,if_true]
  refine ads (wpAny_updateDictKeysTo (hz':=by show es.size<=ado+1;omega) n1 rfl (ady ?_))
  refine(show adq _ _ (Nu s.heap.objs.size [] >>= _) _ _ _ from ads (ady (ady ⟨rfl,h _ ?_ (uC ..)⟩)))
  exact⟨_,nG _ n1 (Obj.isFreed_of_dict (zV rfl _)),rfl,rfl,rfl,_,rfl⟩
end
section
variable {prog:ac9} {w:ade} {A:ac6} {E:adb->ada->Prop} {s:ada} {d it:ac5} {i:Nat} {es:Array DictEntry} {ep:Nat} {ok ov:adb}
end
section
variable {X:Cx}
theorem Nv{P:ac9}{w:ade}{H:Hp}{h:Heap}{a:ac5}{xs:List (List L2.Key×V)}(ok:jQ P w H h)(e:Rd H a (.dT xs)) :
  ∃es ep ys,xs.length<=ado/\(a == sysModules)=false/\Ed h a es ep/\es.size=xs.length/\KT H xs ys/\es.toList=ys.map (entryOfKey (tupleKind (bh P w)))/\(ys.map (·.1)).Nodup:=by
 obtain⟨z,lo,ys,kt,o,es,ep,g1,g2,g3,g4,g5⟩:=(show dH P w H h a (.dT xs) from CI ok e)
 have len:es.size=ys.length:=by have:=congrArg nE g4;simpa using this
 exact⟨es,ep,ys,z,lo,⟨o,g1,g2.1,g3⟩,by rw[len];exact(Paired.length kt).symm,kt,g4,g5⟩
def eX:Option Ob->Option (List (List L2.Key×Wv))
 | some (.eQ kvs)=>some kvs
 | some (.w5 kvs)=>some kvs
 | _=>none
theorem mZ{m:Mp}{st:Hs}{H:Hp}{l:Nat}{a:ac5}{kvs:List (List L2.Key×Wv)}(S:bf X.K m st H)(ha:m[l]? =some a)(h:eX st[l]? =some kvs):∃xs,Rd H a (.dT xs)/\RelK X.K m H kvs xs:=by
 unfold eX at h
 split at h
 ·rename_i k' e
  cases h
  obtain⟨xs,h1,h2⟩:=(show ∃ys,H a=some (.dT ys)/\RelK X.K m H kvs ys from S.obj _ _ _ ha e)
  exact⟨xs,.inl h1,h2⟩
 ·rename_i k' e
  cases h
  obtain⟨o,xs,h1,h2⟩:=(show ∃o ys,H a=some (.oS o (.dT ys))/\RelK X.K m H kvs ys from S.obj _ _ _ ha e)
  exact⟨xs,.inr ⟨o,h1⟩,h2⟩
 ·cases h
def zW(ns:List Int):Int:=reduceHash (Nw (ns.map hashInt))
def oM:List (List L2.Key)->Option (List (List Int))
 | []=>some []
 | k::r=>(match xI k,oM r with | some ns,some l=>some (ns::l) | _,_=>none)
theorem wg:∀{ks:List L2.Key}{ns:List Int},xI ks=some ns->ks=ns.map gS
 | [],ns,e=>by cases e;rfl
 | .inl i::r,ns,e=>by
  unfold xI at e
  cases q:xI r with
  | none=>rw[q] at e;cases e
  | some l=>rw[q] at e;cases e;rw[aL,<-wg q]
theorem EN{P:ac9}{w:ade}{ks:List L2.Key}{ns:List Int}(h:xI ks=some ns):(tupleKind (bh P w)).hash ks=zW ns:=by
 rw[wg h]
 show reduceHash (Nw ((ns.map gS).map (bh P w).hash))=_
 rw[hG]
 rfl
theorem qK{P:ac9}{w:ade}:∀{Yc:List (List L2.Key)}{nss:List (List Int)},oM Yc=some nss->Yc.map (tupleKind (bh P w)).hash=nss.map zW
 | [],nss,e=>by cases e;rfl
 | k::r,nss,e=>by
  unfold oM at e
  cases q1:xI k with
  | none=>rw[q1] at e;cases e
  | some ns=>
   cases q2:oM r with
   | none=>rw[q1,q2] at e;cases e
   | some l=>rw[q1,q2] at e;cases e;rw[aL,aL,EN q1,qK q2]
def lY(ks:List (List L2.Key)):Bool:=match oM ks with
 | some nss=>decide ((nss.map zW).Nodup)
 | none=>false
theorem Bx{prog:ac9}{w:ade}{A:ac6}{E:adb->ada->Prop}{s:ada}{o:ac5}{ep:Nat}{Q:adb->ada->Prop}(lo:(o == sysModules)=false)(x:Ed s.heap o #[] ep)(h:Q (.ref s.heap.objs.size) { s with heap:=s.heap.push { cls:=.type "dict",data:=.dict #[] } }) :
  adq (model prog w) A (call (.type "dict") [.ref o]) Q E s:=by
 refine callType_codes (Q₁:=λobj s₁=>obj= .ref s.heap.objs.size/\s₁={ s with heap:=s.heap.push { cls:=.type "dict",data:=.dict #[] } }) F.kt_called_dict (F.kt_typeCall_dict_1 _) F.entry_dict_init (kt_code_dict_new _ ⟨rfl,rfl⟩) ?_
 rintro obj s₁ ⟨rfl,rfl⟩
 obtain⟨q,g1,g2,g3⟩:=x
 have hne:s.heap.objs.size≠o:=λe=>absurd (aF g1) (by rw[e];exact dn _)
 have n1:(s.heap.push { cls:=.type "dict",data:=.dict #[] }).get? s.heap.objs.size=some { cls:=.type "dict",data:=.dict #[] }:=bB _ rfl
 have o1:(s.heap.push { cls:=.type "dict",data:=.dict #[] }).get? o=some q:=aK _ g1
 have tn:pM { s with heap:=s.heap.push { cls:=.type "dict",data:=.dict #[] } } (.ref s.heap.objs.size) "dict":=⟨_,n1,rfl⟩
 have to:pM { s with heap:=s.heap.push { cls:=.type "dict",data:=.dict #[] } } (.ref o) "dict":=⟨_,o1,g2⟩
 refine⟨tn,F.args_dict_init_2 _ _,?_⟩
 unfold Builtin.«dict.__init__»
 refine ads ?_
 unfold Np
 refine ads (wpAny_notOrdered_dict tn (show adq _ _ (pure (s.heap.objs.size,[aQ o])) _ _ _ from ady ?_))
 refine(show adq _ _ (xU "dict.__init__" s.heap.objs.size (.ref o) [] .none) _ _ _ from ?_)
 unfold xU
 refine ads (wpAny_typeOf to ?_)
 rw[if_neg (by decide)]
 refine ads ?_
 unfold Nq
 refine ads ?_
 unfold Nr
 refine ads (wpAny_isInstance to isSubtype_dict_dict ?_)
 simp only[qJ,oI,if_false]
 refine ads (wpAny_specialOf to F.slot_dict_iter.lookup (ady ?_))
 simp only[beq_self_eq_true,if_true]
 refine ads (ady ?_)
 unfold Nt
 rw[if_neg (by simpa using hne)]
 unfold EM
 rw[if_neg (by rw[lo];exact cR)]
 refine ads (ady (ads (adt o1 g3 ?_)))
 have few:(decide ((#[]:Array DictEntry).size<=8)&&(#[]:Array DictEntry).all λe=>(keyPart e.key).isSome)=true:=by simp
 simp only[few,qJ,oI,if_false]
 refine ads (wpAny_dictEpoch o1 g3 (ads (adt o1 g3 (ads ?_))))
 rw[IY]
 refine(show adq _ _ (pure pK) _ _ _ from ady (ady ?_))
 exact(show adq _ _ (Nu s.heap.objs.size [] >>= _) _ _ _ from ads (ady (ady ⟨rfl,h⟩)))
theorem xV:eL X (.type "dict") (λxs H Q=>∃a kvs,xs=[.ref a]/\Rd H a (.dT kvs)/\((kvs.map (·.1)).map (tupleKind (bh X.prog X.w)).hash).Nodup/\∀p,H p=none->Q (.ref p) (upd H p (.dT kvs))):=by
 intro pins s σ H xs us Q I rs q
 obtain⟨a,kvs,rfl,e,hn,q⟩:=q
 cases rs with
 | cons r rr=>
  cases rr
  cases r
  obtain⟨es,ep,ys,z,lo,raw,sz,kt,g4,g5⟩:=Nv I.hok e
  by_cases ne:kvs=[]
  ·subst ne
   cases kt
   have l0:es=#[]:=Array.eq_empty_of_size_eq_zero (by rw[sz];rfl)
   subst l0
   have fr:H s.heap.objs.size=none:=I.hok.fresh (aq _)
   refine Bx lo raw ⟨.ref s.heap.objs.size,_,I.laid (a:=s.heap.objs.size) (o:=.dT []) (t':=s.toks) (λb ob hq=>aK _ hq) (aq _) ?_,rfl,q _ fr⟩
   exact⟨z,beq_eq_false_iff_ne.mpr (ax (aR I.big)),[],.nil,_,#[],_,bB _ rfl,⟨rfl,rfl,rfl⟩,rfl,g4,g5⟩
  have keys:kvs.map (·.1)=ys.map (·.1):=by
   clear q hn ne g5 g4 e sz z
   induction kt with
   | nil=>rfl
   | cons h t ih=>rw[aL,aL,ih,h.1]
  have hs:es.toList.map (·.hash)=(kvs.map (·.1)).map (tupleKind (bh X.prog X.w)).hash:=by
   rw[g4,keys,hG,hG]
   rfl
  have ht:∀e∈es,∃b,e.key= .ref b/\s.TypeIs (.ref b) "tuple":=λe' he=>by
   have:e'∈ys.map (entryOfKey (tupleKind (bh X.prog X.w))):=by rw[<-g4];exact Array.mem_toList_iff.mpr he
   obtain⟨y,hy,rfl⟩:=List.mem_map.mp this
   obtain⟨j,hj⟩:=List.mem_iff_getElem?.mp hy
   obtain⟨x,_,_,hx,_⟩:=EJ kt hj
   have kk:=nJ (P:=X.prog) (w:=X.w) I.hok hx
   obtain⟨ob,its,n,f1,f2,_⟩:=kk
   exact⟨y.2.1,rfl,ob,f1,f2⟩
  have l0:es.size≠0:=by rw[sz];exact λz0=>ne (List.length_eq_zero_iff.mp z0)
  refine EL lo raw (by rw[sz];exact z) l0 (by rw[hs];exact hn) ht λh' nw sb=>?_
  obtain⟨o',f1,f2,f3,f4,Lb,f5⟩:=nw
  have fr:H s.heap.objs.size=none:=I.hok.fresh (aq _)
  refine⟨.ref s.heap.objs.size,_,I.laid (a:=s.heap.objs.size) (o:=.dT kvs) (t':=s.toks) (λb ob hq=>(sb.2 b (aR (aF hq))).trans (aK _ hq)) (aq _) ?_,rfl,q _ fr⟩
  refine⟨z,beq_eq_false_iff_ne.mpr (ax (aR I.big)),ys,kt.keeps λc zs ec=>?_,o',es,Lb,f1,⟨f2,f3,f4⟩,f5,g4,g5⟩
  rw[aG (bA ec fr)]
  exact ec
def sY:List Wv->Hs->Re Wv
 | [.ref l],st=>(match eX st[l]? with | some kvs=>if lY (kvs.map (·.1))=true then .ok (.ref st.length) (st++[.eQ kvs]) else .bad | none=> .bad)
 | _,_=> .bad
theorem IZ:dM X (.type "dict") sY:=⟨_,xV,λws vs st H m Q S r p=>by
 unfold sY at p
 split at p
 ·rename_i l
  cases e:eX st[l]? with
  | none=>rw[e] at p;exact ae p
  | some kvs=>
   rw[e] at p
   dsimp only at p
   by_cases c:lY (kvs.map (·.1))=true
   ·rw[if_pos c] at p
    obtain⟨v,rfl,rx⟩:=ui r
    unfold ah at rx
    obtain⟨a,rfl,ha⟩:=rx
    obtain⟨xs,h1,h2⟩:=mZ (X:=X) S ha e
    refine⟨a,xs,rfl,h1,?_,λq hq=>?_⟩
    ·have c2:=c
     unfold lY at c2
     rw[<-h2.1]
     cases ek:oM (kvs.map (·.1)) with
     | none=>rw[ek] at c2;cases c2
     | some nss=>rw[ek] at c2;rw[qK ek];exact of_decide_eq_true c2
    ·have ex:Ext X.K m H (m++[q]) (upd H q (.dT xs)):=Ext.more.trans (Ext.iR (.inl hq))
     exact p (.ref q) (m++[q]) _ ex (S.ua hq ⟨xs,aW,h2.mono ex⟩) (by unfold ah;exact⟨q,rfl,by rw[<-S.len,fV (aq _),mJ];rfl⟩)
   ·rw[if_neg c] at p;exact ae p
 ·exact ae p⟩
end
theorem By{o:Option V}{u:adb}(r:nB o (some u)):∃v,o=some v/\RelV v u:=by
 cases o with
 | none=>exact(show False from r).elim
 | some v=>exact⟨v,rfl,r⟩
section
variable {X:Cx} {o e f:Expr} {apos cpos:Pos} {td ty tx:TE}
def EO{κ:Type}[DecidableEq κ](kvs:List (κ×Wv))(k:κ):List (κ×Wv):=kvs.filter λkv=>decide (kv.1≠k)
theorem RelK.drop{κ:Type}[DecidableEq κ]{K:PySem.W.Frag}{m:Mp}{H:Hp}(k:κ):∀{kvs:List (κ×Wv)}{xs:List (κ×V)},RelK K m H kvs xs->RelK K m H (EO kvs k) (qc xs k)
 | [],xs,h=>by rw[h.nil_inv];exact RelK.nil
 | p::r,xs,h=>by
  obtain⟨v,t,rfl,h1,h2⟩:=h.cons_inv
  by_cases e:p.1=k
  ·rw[A9 e]
   unfold EO
   rw[t_,if_neg (by simp[e])]
   exact h2.drop k
  ·rw[A_ e]
   unfold EO
   rw[t_,if_pos (by simp[e])]
   exact RelK.cons h1 (h2.drop k)
end
structure M0(X:Cx)(o:Expr)(m:Str)(apos cpos:Pos):Prop where
 base:attributeBase o m X.env (eval o X.env)=eval o X.env
 line:(apos.endLine == cpos.line)=true
section
variable {X:Cx} {es':List Expr} {kt:Nat} {pt:Pos}
end
section
variable {X:Cx}
end
section
variable {prog:ac9} {w:ade} {K:Type} [DecidableEq K] {knd:HeapKind prog w K} {A:ac6} {E:adb->ada->Prop} {s:ada} {a b:ac5} {xs ys:List (K×ac5×adb)}
theorem sZ{id:String}{f:K->Bool}{Q:Bool->ada->Prop}(hu:knd.room A)(la:(a == sysModules)=false)(lb:(b == sysModules)=false)(hA:s.heap.DictOfH knd a xs)(hB:s.heap.DictOfH knd b ys)
  (hf:∀x∈xs,∀y∈ys,x.1=y.1->∀Q:Bool->ada->Prop,Q (f x.1) s->adq (model prog w) A (eqBool x.2.2 y.2.2) Q E s)
  (hQ:Q (decide (xs.length=ys.length)&&xs.all λx=>(atKey ys x.1).isSome&&f x.1) s):adq (model prog w) A (Nx id a b) Q E s:=by
 obtain⟨oa,ea,epa,a1,a2,a3,a4,a5,a6⟩:=hA
 obtain⟨ob,eb,epb,b1,b2,b3,b4,b5,b6⟩:=hB
 have za:ea.size=xs.length:=size_of_entries a4
 have zb:eb.size=ys.length:=size_of_entries b4
 unfold Nx EM
 rw[if_neg (by rw[la];exact cR),if_neg (by rw[lb];exact cR)]
 refine ads (ady (ads (ady (ads (adt a1 a3 (ads (adt b1 b3 ?_)))))))
 by_cases hl:xs.length=ys.length
 ·rw[if_neg (by rw[za,zb,hl];simp)]
  rw[decide_eq_true hl,ER] at hQ
  refine ads (wpAny_dictEpoch a1 a3 (ads ?_))
  rw[IY]
  simp only[Std.Legacy.Range.size,Nat.sub_zero,Nat.add_sub_cancel,Nat.div_one]
  generalize hg:(λx:K×ac5×adb=>(atKey ys x.1).isSome&&f x.1)=g at hQ
  refine wpAny_forIn_list _ (λrest st s'=>s'=s/\st=(none,())/\∃i,rest=jf i (xs.length - i)/\i<=xs.length/\xs.all g=(xs.drop i).all g) _ ?_ ?_ _ _ ⟨rfl,rfl,0,by rw[za,Nat.sub_zero],bq _,rfl⟩
  ·rintro x rest st s' ⟨rfl,rfl,i,hr,hi,hall⟩
   have hlt:i < xs.length:=by
    rcases Nat.lt_or_ge i xs.length with h | h
    ·exact h
    ·rw[Io h] at hr;simp at hr
   obtain⟨rfl,hrest⟩:x=i/\rest=jf (i+1) (xs.length - (i+1)):=by
    have e:xs.length - i=(xs.length - (i+1))+1:=by omega
    rw[e,List.range'_succ] at hr
    injection hr with h1 h2
    exact⟨h1,h2⟩
   rw[lQ hlt,eP] at hall
   have hm:xs[x]∈xs:=D7 hlt
   refine ads (adt a1 a3 ?_)
   rw[entry_at a4 x,fm hlt]
   refine ads (adu ?_)
   have next:xs.all g=(xs.drop (x+1)).all g->∀Q':ForInStep (Option Bool×Unit)->ada->Prop,Q' (.yield (none,())) s'->adq (model prog w) A (do
     let Lb <-dictEpoch a
     if(Lb != epa)=true then do
       (unsupported (toString id++toString ":changed-during-callback"):Sem PUnit)
       pure (lR (none,()))
      else pure (lR (none,()))) Q' E s':=λ_ Q' q'=>by
    refine ads (wpAny_dictEpoch a1 a3 ?_)
    rw[if_neg (by simp)]
    exact ady q'
   refine ads (wpAny_dictFind_heap (k:=xs[x].1) hu (a5 _ hm) b1 b3 b4 b5 b6 (λno=>ady ?_) λj p hj=>?_)
   ·simp only[zU,if_true]
    have gf:g xs[x]=false:=by rw[<-hg];simp only[atKey_none_of_get no];rfl
    rw[gf,yP] at hall
    rw[hall] at hQ
    exact ady (ady hQ)
   ·refine ads (adt b1 b3 ?_)
    rw[entry_at b4 j,hj]
    refine adu (hf _ hm _ (yS hj) rfl _ ?_)
    have gf:g xs[x]=f xs[x].1:=by rw[<-hg];simp only[atKey_of_get b6 hj];rfl
    cases hv:f xs[x].1 with
    | false=>
     simp only[zU,if_true]
     rw[gf,hv,yP] at hall
     rw[hall] at hQ
     exact ady (ady hQ)
    | true=>
     simp only[qJ,oI,if_false]
     rw[gf,hv,ER] at hall
     exact next hall _ ⟨rfl,rfl,x+1,hrest,hlt,hall⟩
  ·rintro st s' ⟨rfl,rfl,i,hr,hi,hall⟩
   have h0:xs.length - i=0:=by
    have:=congrArg nE hr
    simpa using this.symm
   rw[D0 (by omega),List.all_nil] at hall
   rw[hall] at hQ
   exact ady hQ
 ·rw[if_pos (by rw[za,zb];simpa using hl)]
  rw[decide_eq_false hl,yP] at hQ
  exact ads (wpAny_rule (ady hQ))
end
section
variable {prog:ac9} {w:ade} {K:Type} [DecidableEq K] {knd:HeapKind prog w K} {A:ac6} {E:adb->ada->Prop} {s:ada} {a b:ac5} {xs ys:List (K×ac5×adb)}
theorem I_{f:K->Bool}{Q:adb->ada->Prop}(hr:A.units < cLine)(hu:knd.room A.in1)(la:(a == sysModules)=false)(lb:(b == sysModules)=false)(hA:s.heap.DictOfH knd a xs)(hB:s.heap.DictOfH knd b ys)
  (hf:∀E:adb->ada->Prop,∀x∈xs,∀y∈ys,x.1=y.1->∀Q:Bool->ada->Prop,Q (f x.1) s->adq (model prog w) A.in1 (eqBool x.2.2 y.2.2) Q E s)
  (hQ:Q (.bool (decide (xs.length=ys.length)&&xs.all λx=>(atKey ys x.1).isSome&&f x.1)) s):adq (model prog w) A (adk .Eq (.ref a) (.ref b)) Q E s:=by
 have tA:s.TypeIs (.ref a) "dict":=hA.typeIs
 have tB:s.TypeIs (.ref b) "dict":=hB.typeIs
 refine(show adq (model prog w) A (richCompare .Eq (.ref a) (.ref b)) Q E s from wpAny_richCompare_same_room tA tB PySem.F.slot_dict_eq (wpAny_call_entry PySem.F.slot_dict_eq tA PySem.F.entry_dict_eq ?_ (PySem.F.args_dict_eq_2 _ _)) hr)
 refine(show adq _ _ (xW "__eq__" ⟨[.ref a,.ref b],[]⟩ >>= _) _ _ s from ads ?_)
 unfold xW
 refine ads (wpAny_notOrdered_dict tA (show adq _ _ (pure (aQ a,aQ b)) _ _ s from ady ?_))
 refine ads (wpAny_isInstance tB isSubtype_dict_dict ?_)
 simp only[qJ,oI,if_false]
 refine ads (ady (ads (ady (ads (sZ hu la lb hA hB (hf _) ?_)))))
 refine ady ⟨_,rfl,(λz=>nomatch z),?_⟩
 rw[show ∀c:Bool,(c == true)=c from by decide]
 exact hQ
theorem slot_dict_ne:Slot "dict" (cmpInfo .NotEq).2.1 "dict.__ne__" :=
 .of (owner:="dict") (n:="__ne__") (by rw[typeLookup_type,builtinLookup_eq_fast];kernel_rfl) (by decide+kernel) (by decide+kernel) (by decide+kernel) (by first | exact .inl (by decide+kernel) | exact .inr (by decide+kernel)) (by rw[adm];kernel_rfl)
theorem entry_dict_ne:entryFor table "dict.__ne__"=some Builtin.«dict.__ne__»:=entryFor_of_tree (by kernel_rfl)
theorem args_dict_ne_2(a b:adb):argsOk "dict.__ne__" ⟨[a,b],[]⟩:=by
 unfold argsOk;rw[signature?_of (id:="dict.__ne__") (n:=['_','_','e','n','_','_']) (o:=['t','c','i','d']) (by kernel_rfl) PySem.F.owner_dict];kernel_rfl
theorem Ja{f:K->Bool}{Q:adb->ada->Prop}(hr:A.units < cLine)(hu:knd.room A.in1)(la:(a == sysModules)=false)(lb:(b == sysModules)=false)(hA:s.heap.DictOfH knd a xs)(hB:s.heap.DictOfH knd b ys)
  (hf:∀E:adb->ada->Prop,∀x∈xs,∀y∈ys,x.1=y.1->∀Q:Bool->ada->Prop,Q (f x.1) s->adq (model prog w) A.in1 (eqBool x.2.2 y.2.2) Q E s)
  (hQ:Q (.bool (!(decide (xs.length=ys.length)&&xs.all λx=>(atKey ys x.1).isSome&&f x.1))) s):adq (model prog w) A (adk .NotEq (.ref a) (.ref b)) Q E s:=by
 have tA:s.TypeIs (.ref a) "dict":=hA.typeIs
 have tB:s.TypeIs (.ref b) "dict":=hB.typeIs
 refine(show adq (model prog w) A (richCompare .NotEq (.ref a) (.ref b)) Q E s from wpAny_richCompare_same_room tA tB slot_dict_ne (wpAny_call_entry slot_dict_ne tA entry_dict_ne ?_ (args_dict_ne_2 _ _)) hr)
 refine(show adq _ _ (xW "__ne__" ⟨[.ref a,.ref b],[]⟩ >>= _) _ _ s from ads ?_)
 unfold xW
 refine ads (wpAny_notOrdered_dict tA (show adq _ _ (pure (aQ a,aQ b)) _ _ s from ady ?_))
 refine ads (wpAny_isInstance tB isSubtype_dict_dict ?_)
 simp only[qJ,oI,if_false]
 refine ads (ady (ads (ady (ads (sZ hu la lb hA hB (hf _) ?_)))))
 refine ady ⟨_,rfl,(λz=>nomatch z),?_⟩
 rw[show ∀c:Bool,(c == false)= !c from by decide]
 exact hQ
end
abbrev Ny:=List (List L2.Key×Wv)
def nU(st:Hs)(kvs:Ny):Bool:=kvs.all λkv=>(aT st 20 kv.2).isSome
def Ko(st:Hs)(k1 k2:Ny)(k:List L2.Key):Bool:=match cD k1 k,cD k2 k with
 | some v,some w=>(match aT st 20 v,aT st 20 w with | some a,some b=>bE a b | _,_=>false)
 | _,_=>false
def oN(st:Hs)(k1 k2:Ny):Bool:=decide (k1.length=k2.length)&&(k1.map (·.1)).all λk=>(cD k2 k).isSome&&Ko st k1 k2 k
def U7(K:PySem.W.Frag)(neg:Bool):R2:=λa b H Q=>∃m st p q k1 k2 l1 l2,bf K m st H/\a= .ref p/\b= .ref q/\Rd H p (.dT l1)/\Rd H q (.dT l2)/\RelK K m H k1 l1/\RelK K m H k2 l2/\nU st k1=true/\nU st k2=true/\Q (.bl (if neg then !oN st k1 k2 else oN st k1 k2)) H
theorem ES{H:Hp}:∀{xs:List (List L2.Key×V)}{ys:List (List L2.Key×ac5×adb)},KT H xs ys->xs.map (·.1)=ys.map (·.1)
 | _,_,.nil=>rfl
 | _,_,.cons h t=>by rw[aL,aL,ES t,h.1]
theorem m6{κ:Type}[DecidableEq κ]{k:κ}{w:Wv}:∀{kvs:List (κ×Wv)},cD kvs k=some w->(k,w)∈kvs
 | [],e=>by cases e
 | p::r,e=>by
  unfold cD at e
  by_cases h:p.1=k
  ·rw[if_pos h] at e
   cases e
   rw[<-h]
   exact bu
  ·rw[if_neg h] at e
   exact aN _ (m6 e)
section
variable {X:Cx}
theorem zX{m:Mp}{st:Hs}{H:Hp}{kvs:Ny}{xs:List (List L2.Key×V)}{ys:List (List L2.Key×ac5×adb)}{k:List L2.Key}{p:ac5×adb}(r:RelK X.K m H kvs xs)(kt:KT H xs ys)(nd:(ys.map (·.1)).Nodup)(hd:nU st kvs=true)(h:(k,p)∈ys) :
  ∃w v d,cD kvs k=some w/\ah X.K m H w v/\RelV v p.2/\aT st 20 w=some d:=by
 obtain⟨j,hj⟩:=List.mem_iff_getElem?.mp h
 have ak:=atKey_of_get nd hj
 have vl:=kt.val k
 rw[ak] at vl
 obtain⟨v,ev,rv⟩:=By vl
 obtain⟨i1,i2⟩:=r.val k
 cases e:cD kvs k with
 | none=>rw[i1 e] at ev;cases ev
 | some w=>
  obtain⟨u,j1,j2⟩:=i2 w e
  rw[ev] at j1
  cases j1
  obtain⟨d,e2⟩:=Option.isSome_iff_exists.mp (List.all_eq_true.mp hd _ (m6 e))
  exact⟨w,v,d,rfl,j2,rv,e2⟩
theorem wj{m:Mp}{st:Hs}{H:Hp}{k1 k2:Ny}{l1 l2:List (List L2.Key×V)}{y1 y2:List (List L2.Key×ac5×adb)}(r1:RelK X.K m H k1 l1)(r2:RelK X.K m H k2 l2)(t1:KT H l1 y1)(t2:KT H l2 y2) :
  (decide (y1.length=y2.length)&&y1.all λx=>(atKey y2 x.1).isSome&&Ko st k1 k2 x.1)=oN st k1 k2:=by
 have e1:y1.length=k1.length:=by rw[<-Paired.length t1,r1.length]
 have e2:y2.length=k2.length:=by rw[<-Paired.length t2,r2.length]
 have ks:k1.map (·.1)=y1.map (·.1):=by rw[r1.1,ES t1]
 have at2:∀k,(atKey y2 k).isSome=(cD k2 k).isSome:=λk=>by
  have q:=(t2.val k).sF
  rw[Option.isSome_map] at q
  rw[<-q]
  obtain⟨i1,i2⟩:=r2.val k
  cases e:cD k2 k with
  | none=>rw[i1 e];rfl
  | some w=>obtain⟨u,j1,_⟩:=i2 w e;rw[j1];rfl
 unfold oN
 rw[e1,e2,ks,List.all_map]
 congr 1
 refine List.all_congr rfl λx=>?_
 show((atKey y2 x.1).isSome&&Ko st k1 k2 x.1)=((cD k2 x.1).isSome&&Ko st k1 k2 x.1)
 rw[at2]
theorem ET(neg:Bool)(hu:X.A.units+64 < cLine):fB X (adk (if neg then .NotEq else .Eq)) (U7 X.K neg):=by
 intro pins s σ H a b v u Q I rx ry h
 obtain⟨m,st,p,q,k1,k2,l1,l2,S,rfl,rfl,d1,d2,r1,r2,h1,h2,hq⟩:=h
 cases rx
 cases ry
 obtain⟨z1,lo1,y1,t1,D1⟩:=oG I.hok d1
 obtain⟨z2,lo2,y2,t2,D2⟩:=oG I.hok d2
 have n1:(y1.map (·.1)).Nodup:=let ⟨_,_,_,_,_,_,_,_,n⟩:=D1;n
 have n2:(y2.map (·.1)).Nodup:=let ⟨_,_,_,_,_,_,_,_,n⟩:=D2;n
 have hf:∀E:adb->ada->Prop,∀x∈y1,∀y∈y2,x.1=y.1->∀Q:Bool->ada->Prop,Q (Ko st k1 k2 x.1) s->adq (model X.prog X.w) X.A.in1 (eqBool x.2.2 y.2.2) Q E s:=λE x hx y hy e Q' q'=>by
  obtain⟨w,v,dw,a1,a2,a3,a4⟩:=zX (k:=x.1) (p:=x.2) (st:=st) r1 t1 n1 h1 hx
  obtain⟨w',v',SV,b1,b2,b3,b4⟩:=zX (k:=y.1) (p:=y.2) (st:=st) r2 t2 n2 h2 hy
  rw[<-e] at b1
  obtain⟨as,q1,q2,q3⟩:=iU I S 20 w v _ dw a2 a3 a4
  obtain⟨bs,p1,p2,p3⟩:=iU I S 20 w' v' _ SV b2 b3 b4
  have ee:Ko st k1 k2 x.1=bE dw SV:=by unfold Ko;rw[a1,b1];dsimp only;rw[a4,b4]
  rw[ee] at q'
  exact SeqAt.eqBoolOverData X.prog X.w X.A.in1 E s _ _ dw SV as bs Q' q1 p1 q2 p2 (by
   have:X.A.in1.units=X.A.units+1:=rfl
   have:min dw.depth SV.depth<=dw.depth:=Nat.min_le_left _ _
   omega) q'
 cases neg with
 | false=>
  refine I_ (by omega) (tupleKind_room_in1 (by omega)) lo1 lo2 D1 D2 hf ?_
  rw[wj r1 r2 t1 t2]
  exact⟨.bl _,H,I,rfl,hq⟩
 | true=>
  refine Ja (by omega) (tupleKind_room_in1 (by omega)) lo1 lo2 D1 D2 hf ?_
  rw[wj r1 r2 t1 t2]
  exact⟨.bl _,H,I,rfl,hq⟩
def qL(st:Hs):Wv->Option Ny
 | .ref l=>eX st[l]?
 | _=>none
def Bz:f_:=λx y st=>match qL st x,qL st y with
 | some k1,some k2=>if nU st k1=true/\nU st k2=true then .ok (.bl (oN st k1 k2)) st else .bad
 | _,_=>oEq x y st
def uE:f_:=λx y st=>match qL st x,qL st y with
 | some k1,some k2=>if nU st k1=true/\nU st k2=true then .ok (.bl (!oN st k1 k2)) st else .bad
 | _,_=>Mx x y st
theorem pN{m:Mp}{st:Hs}{H:Hp}{x:Wv}{a:V}{kvs:Ny}(S:bf X.K m st H)(r:ah X.K m H x a)(h:qL st x=some kvs):∃p l,a= .ref p/\Rd H p (.dT l)/\RelK X.K m H kvs l:=by
 cases x with
 | ref j=>
  unfold ah at r
  obtain⟨p,rfl,hp⟩:=r
  obtain⟨l,h1,h2⟩:=mZ (X:=X) S hp h
  exact⟨p,l,rfl,h1,h2⟩
 | _=>cases h
theorem EU(hu:X.A.units+64 < cLine):kM X (adk .Eq) Bz:=by
 obtain⟨r0,c0,k0⟩:=J8 (X:=X) hu
 refine⟨_,fB.or (ET (X:=X) false hu) c0,λx y a b st H m Q S rx ry p=>?_⟩
 unfold Bz at p
 cases e1:qL st x with
 | none=>rw[e1] at p;exact .inr (k0 x y a b st H m Q S rx ry p)
 | some k1=>
  cases e2:qL st y with
  | none=>rw[e1,e2] at p;exact .inr (k0 x y a b st H m Q S rx ry p)
  | some k2=>
   rw[e1,e2] at p
   dsimp only at p
   by_cases c:nU st k1=true/\nU st k2=true
   ·rw[if_pos c] at p
    obtain⟨p1,l1,rfl,d1,r1⟩:=pN (X:=X) S rx e1
    obtain⟨p2,l2,rfl,d2,r2⟩:=pN (X:=X) S ry e2
    exact .inl ⟨m,st,p1,p2,k1,k2,l1,l2,S,rfl,rfl,d1,d2,r1,r2,c.1,c.2,p _ m H Ext.refl S ja⟩
   ·rw[if_neg c] at p;exact ae p
theorem EV(hu:X.A.units+64 < cLine):kM X (adk .NotEq) uE:=by
 obtain⟨r0,c0,k0⟩:=J9 (X:=X) hu
 refine⟨_,fB.or (ET (X:=X) true hu) c0,λx y a b st H m Q S rx ry p=>?_⟩
 unfold uE at p
 cases e1:qL st x with
 | none=>rw[e1] at p;exact .inr (k0 x y a b st H m Q S rx ry p)
 | some k1=>
  cases e2:qL st y with
  | none=>rw[e1,e2] at p;exact .inr (k0 x y a b st H m Q S rx ry p)
  | some k2=>
   rw[e1,e2] at p
   dsimp only at p
   by_cases c:nU st k1=true/\nU st k2=true
   ·rw[if_pos c] at p
    obtain⟨p1,l1,rfl,d1,r1⟩:=pN (X:=X) S rx e1
    obtain⟨p2,l2,rfl,d2,r2⟩:=pN (X:=X) S ry e2
    exact .inl ⟨m,st,p1,p2,k1,k2,l1,l2,S,rfl,rfl,d1,d2,r1,r2,c.1,c.2,p _ m H Ext.refl S ja⟩
   ·rw[if_neg c] at p;exact ae p
end
section
variable {X:Cx}
end
section
variable {prog:ac9} {w:ade} {K:Type} [DecidableEq K] {knd:HeapKind prog w K} {A:ac6} {E:adb->ada->Prop} {s:ada} {d:ac5} {xs:List (K×ac5×adb)}
theorem xX{Q:adb->ada->Prop}(hm:s.heap.DictOfH knd d xs)(hsz:xs.length<=ado)(k:∀h',h'.DictOfH knd d []->iu d s.heap h'->Q .none { s with heap:=h' }) :
  adq (model prog w) A (call (.builtin "dict.clear") [.ref d]) Q E s:=by
 have ty:s.TypeIs (.ref d) "dict":=hm.typeIs
 obtain⟨o,es,ep,ho,hc,hd,he,his,hnd⟩:=id hm
 have hes:es.size<=ado:=by have e:=size_of_entries he;omega
 have M:MeetsIn prog w (Builtin.«dict.clear» ⟨[.ref d],[]⟩) (λ_ R s'=>s'=s/\∀h',h'.DictOfH knd d []->iu d s.heap h'->R (.ok (.ret .none)) { s with heap:=h' }):=.of_wp λA' R s' ⟨e,k⟩=>by
  subst e
  unfold Builtin.«dict.clear»
  refine ads ?_
  unfold Builtin.Dict.noArgs
  refine ads (wpAny_notOrdered_dict ty (show adq _ _ (pure d) _ _ s' from ady ?_))
  refine ads (adt ho hd (ads ?_))
  unfold bearsInstanceDictMark
  refine ads (wpAny_load ho (ady ?_))
  refine ads (wpAny_updateDictKeys (hz:=hes) ho hd ?_)
  have fin:R (.ok (.ret .none)) { s' with heap:=s'.heap.update d (Obj.mapDictKeys λ_=>#[]) } :=
   k _ ⟨_,_,ep+1,nG _ ho (Obj.isFreed_of_dict (zV hd _)),hc.mapDictKeys _,zV hd _,rfl,(λ_ z=>by cases z),.nil⟩ (uC ..)
  split
  ·exact ads (wpAny_letGo (ady ⟨_,rfl,fin⟩))
  ·exact ady ⟨_,rfl,fin⟩
 exact call_meetsIn PySem.F.slot_dict_clear ty PySem.F.entry_dict_clear (PySem.F.args_dict_clear_1 _) M ⟨rfl,k⟩
end
section
variable {X:Cx}
def zY:V->List V->Hp->VK->Prop:=λx vs H Q=>∃l kvs,x= .ref l/\vs=[]/\H l=some (.dT kvs)/\Q .bz (upd H l (.dT []))
theorem BA:P4 X "dict.clear" zY:=by
 intro pins s σ H x vs v us Q I rx rv h
 obtain⟨l,kvs,rfl,rfl,hH,q⟩:=h
 cases rx
 have Ut:=rv.zero
 subst Ut
 obtain⟨zz,hd,xs,rel,dd⟩:=JX I.hok hH
 refine xX dd (by rw[<-Paired.length rel];exact zz) λh' L4 hs=>?_
 obtain⟨q',es,ep,hq,h2,h3,h4,_,h5⟩:=L4
 exact⟨.bz,_,t9 (ob:=.dT []) I (by rw[hH];exact pC) hs ⟨q',hq⟩ ⟨bq _,hd,[],.nil,q',es,ep,hq,h2,h3,h4,h5⟩,rfl,q⟩
def U8(to:TE):TE:=λσ H Q=>to σ H λx H1=>(So X.K "list" x H1/\CF x [] H1 Q)\/(So X.K "dict" x H1/\zY x [] H1 Q)
theorem Nz{o:Expr}{to:TE}{apos cpos:Pos}(ho:PE X o to)(m:M0 X o "clear" apos cpos):PE X (.Call (.Attribute o "clear" apos) [] [] cpos) (U8 (X:=X) to):=by
 intro pins s σ H Q I h
 refine wpAny_Call_method0_late m.base m.line (bo (ho pins s σ H _ I h) λv s1 ⟨x,H1,I1,r1,z⟩=>?_)
 rcases z with ⟨ty,q1⟩ | ⟨ty,q1⟩
 ·obtain⟨h1,h2⟩:=xp I1 r1 ty
  exact⟨"list","list.clear",F.plainAttrs_list,F.slot_list_clear,F.type_list_clear,h1,h2,pZ rfl (PySem.evalArgs_none (CG pins s1 σ H1 x [] v [] Q I1 r1 .nil q1))⟩
 ·obtain⟨h1,h2⟩:=xp I1 r1 ty
  exact⟨"dict","dict.clear",F.plainAttrs_dict,F.slot_dict_clear,F.type_dict_clear,h1,h2,pZ rfl (PySem.evalArgs_none (BA pins s1 σ H1 x [] v [] Q I1 r1 .nil q1))⟩
def Jb(w:Wv)(st:Hs):Re Wv:=match w with
 | .ref l=>(match st[l]? with
  | some (.lst _)=> .ok .bz (st.set l (.lst []))
  | some (.eQ _)=> .ok .bz (st.set l (.eQ []))
  | _=> .bad)
 | _=> .bad
def EW(g:GE):GE:=λρ st=>(g ρ st).bind Jb
theorem EY{o:Expr}{g:GE}{apos cpos:Pos}(h:JE X o g)(m:M0 X o "clear" apos cpos):JE X (.Call (.Attribute o "clear" apos) [] [] cpos) (EW g) :=
 JE.of (Nz aM m) λρ st σ H m Q S R p=>by
  refine h.go S R (aw.bind p) λw st1 v m1 H1 p1 e1 S1 r1=>?_
  cases w with
  | ref l=>
   unfold ah at r1
   obtain⟨a,rfl,ha⟩:=r1
   unfold Jb at p1
   dsimp only at p1
   cases q2:st1[l]? with
   | none=>rw[q2] at p1;exact ae p1
   | some ob=>
    rw[q2] at p1
    cases ob with
    | lst ws=>
     obtain⟨xs,y1,y2⟩:=(show ∃ys,H1 a=some (.lst ys)/\ai X.K m1 H1 ws ys from S1.obj _ _ _ ha q2)
     have ex:Ext X.K m1 H1 m1 (upd H1 a (.lst [])):=Ext.iR (.inr (.inl ⟨_,y1⟩))
     exact .inl ⟨.inl ⟨rfl,xs,.inl (.inl y1)⟩,a,xs,rfl,rfl,y1,p1 .bz m1 _ (e1.trans ex) (S1.qf ha q2 rfl ⟨[],aW,ai.nil⟩) (by unfold ah;rfl)⟩
    | eQ kvs=>
     obtain⟨xs,y1,y2⟩:=(show ∃ys,H1 a=some (.dT ys)/\RelK X.K m1 H1 kvs ys from S1.obj _ _ _ ha q2)
     have ex:Ext X.K m1 H1 m1 (upd H1 a (.dT [])):=Ext.iR (.inr (.inr (.inr ⟨_,y1⟩)))
     exact .inr ⟨.inr (.inr (.inl ⟨rfl,.inr ⟨xs,y1⟩⟩)),a,xs,rfl,rfl,y1,p1 .bz m1 _ (e1.trans ex) (S1.qf ha q2 rfl ⟨_,aW,RelK.nil⟩) (by unfold ah;rfl)⟩
    | _=>exact ae p1
  | _=>exact ae p1
def BB(tb:Tab)(tt:uo):List Wv->Hs->Re Wv
 | [.ref l,.ty T],st=>if T="dict"/\(eX st[l]?).isSome=true then .ok (.bl true) st else nQ tb tt [.ref l,.ty T] st
 | ws,st=>nQ tb tt ws st
theorem EZ:eL X (.builtin "isinstance") (λvs H Q=>∃a kvs,vs=[.ref a,.ty "dict"]/\Rd H a (.dT kvs)/\Q (.bl true) H):=by
 intro pins s σ H xs us Q I r h
 obtain⟨a,kvs,rfl,e,q⟩:=h
 obtain⟨u,u',rfl,r1,r2⟩:=vals2 r
 cases r1
 cases r2
 obtain⟨t1,_,_⟩:=xq I (.inr ⟨kvs,e⟩)
 exact call_isinstance_yes (Tx:="dict") t1 (by kernel_rfl) (by rw[adm];kernel_rfl) ⟨.bl true,H,I,rfl,q⟩
theorem NA{tb:Tab}{tt:uo}{tc:Tab}(O:TabOk X.K tb tt tc):dM X (.builtin "isinstance") (BB tb tt):=by
 obtain⟨r0,c0,k0⟩:=DN (X:=X) O
 refine⟨_,EZ.or c0,λws vs st H m Q S r p=>?_⟩
 have old:eE X.K m H (nQ tb tt ws st) Q->r0 vs H Q:=λp=>k0 ws vs st H m Q S r p
 unfold BB at p
 split at p
 ·rename_i l T
  by_cases c:T="dict"/\(eX st[l]?).isSome=true
  ·rw[if_pos c] at p
   obtain⟨rfl,c2⟩:=c
   obtain⟨kvs,e⟩:=Option.isSome_iff_exists.mp c2
   obtain⟨v,v',rfl,r1,r2⟩:=rL r
   unfold ah at r1 r2
   obtain⟨a,rfl,ha⟩:=r1
   subst r2
   obtain⟨xs,h1,_⟩:=mZ (X:=X) S ha e
   exact .inl ⟨a,xs,rfl,h1,p _ m H Ext.refl S (by unfold ah;rfl)⟩
  ·rw[if_neg c] at p
   exact .inr (old p)
 ·exact .inr (old p)
end
def iD(gd gk:GE):GE:=λρ st=>(gd ρ st).bind λd st1=>match d with
 | .ref l=>if(eX st1[l]?).isSome=true then(gk ρ st1).bind λk st2=>(match nT k,eX st2[l]? with
  | some kk,some kvs=> .ok ((cD kvs kk).getD .bz) st2
  | _,_=> .bad) else .bad
 | _=> .bad
section
variable {X:Cx}
theorem E3{o e:Expr}{gd gk:GE}{apos cpos:Pos}(hu:X.A.units+1 < cLine)(ho:JE X o gd)(he:JE X e gk)(M:M1 X o "get" apos e cpos):JE X (.Call (.Attribute o "get" apos) [e] [] cpos) (iD gd gk) :=
 JE.of (CO hu aM aM M) λρ st σ H m Q S R p=>by
  refine ho.go S R (aw.bind p) λd st1 v m1 H1 p1 e1 S1 r1=>?_
  cases d with
  | ref l=>
   dsimp only at p1
   by_cases hd:(eX st1[l]?).isSome=true
   ·rw[if_pos hd] at p1
    unfold ah at r1
    obtain⟨a,rfl,ha⟩:=r1
    obtain⟨kv1,hk1⟩:=Option.isSome_iff_exists.mp hd
    obtain⟨xs1,rd1,_⟩:=mZ S1 ha hk1
    refine⟨a,rfl,.inr ⟨xs1,rd1⟩,?_⟩
    refine he.go S1 (R.mono e1) ((aw.bind p1).imp e1 λ_ _ q=>q) λk st2 y m2 H2 p2 e2 S2 r2=>?_
    cases q1:nT k with
    | none=>rw[q1] at p2;exact ae p2
    | some kk=>
     cases q2:eX st2[l]? with
     | none=>rw[q1,q2] at p2;exact ae p2
     | some kvs=>
      rw[q1,q2] at p2
      have ha2:m2[l]? =some a:=e2.pre _ _ ha
      obtain⟨xs,y1,y2⟩:=mZ S2 ha2 q2
      obtain⟨b,rfl,hb⟩:=mV r2 q1
      dsimp only at p2
      refine⟨_,.inr ⟨xs,kk,b,y1,rfl,hb,rfl⟩,?_⟩
      obtain⟨i1,i2⟩:=y2.val kk
      cases q3:cD kvs kk with
      | none=>
       rw[i1 q3]
       rw[q3] at p2
       exact p2 .bz m2 H2 (e1.trans e2) S2 (by unfold ah;rfl)
      | some w=>
       obtain⟨u,j1,j2⟩:=i2 w q3
       rw[j1]
       rw[q3] at p2
       exact p2 u m2 H2 (e1.trans e2) S2 j2
   ·rw[if_neg hd] at p1;exact ae p1
  | _=>exact ae p1
end
def Q9(K:PySem.W.Frag)(l1 l2:ac5):It :=
 ⟨λi H=>∃xs ys x y,jN K H l1 xs/\jN K H l2 ys/\xs[i]? =some x/\ys[i]? =some y,
  λi H v H'=>∃p,v= .ref p/\H p=none/\∀xs ys,jN K H l1 xs->jN K H l2 ys->∃x y,xs[i]? =some x/\ys[i]? =some y/\H'=upd H p (.tup [x,y]),
  λi H=>∃xs ys,jN K H l1 xs/\jN K H l2 ys/\(xs.length<=i\/ys.length<=i)⟩
def NC(z T O j1 j2 l1 l2:ac5)(i:Nat)(h:Heap):Prop:=IsZip h z T O .none/\IsPair h T (.ref j1) (.ref j2)/\(∃a b,IsPair h O a b)/\h.IsListIter j1 l1 i/\h.IsListIter j2 l2 i
theorem BC{P:ac9}{w:ade}{K:PySem.W.Frag}{es:List Expr}{kt:Nat}{pt:Pos}{z T O j1 j2 l1 l2:ac5}(D:ZipApart z T O j1 j2 l1 l2):Turn P w K (.Tuple es kt pt) (Q9 K l1 l2) [z,T,O,j1,j2] z (NC z T O j1 j2 l1 l2) where
 mem:=by simp
 obj:=λi h st b hb=>by
  obtain⟨a1,a2,⟨a,b',a3⟩,⟨o1,q1,_,d1⟩,⟨o2,q2,_,d2⟩⟩:=st
  simp only[aV,bb,or_false] at hb
  rcases hb with rfl | rfl | rfl | rfl | rfl
  ·exact⟨_,a1,λv z=>by cases z⟩
  ·exact⟨_,a2,λv z=>by cases z⟩
  ·exact⟨_,a3,λv z=>by cases z⟩
  ·exact⟨o1,q1,λv z=>by rw[d1] at z;cases z⟩
  ·exact⟨o2,q2,λv z=>by rw[d2] at z;cases z⟩
 keep:=λi h h' st k=>by
  obtain⟨a1,a2,⟨a,b,a3⟩,⟨o1,q1,r1⟩,⟨o2,q2,r2⟩⟩:=st
  exact⟨k z (by simp) _ a1,k T (by simp) _ a2,⟨a,b,k O (by simp) _ a3⟩,⟨o1,k j1 (by simp) _ q1,r1⟩,⟨o2,k j2 (by simp) _ q2,r2⟩⟩
 item:=by
  intro X hP hw hK hc i pins s σ H E I hf st hg
  subst hP hw hK
  obtain⟨xs,ys,x,y,H1,H2,x1,x2⟩:=hg
  obtain⟨i1,r1,p1,_⟩:=I.list H1
  obtain⟨i2,r2,p2,_⟩:=I.list H2
  obtain⟨u1,e1,m1⟩:=r1.get x1
  obtain⟨u2,e2,m2⟩:=r2.get x2
  obtain⟨a1,a2,⟨a,b,a3⟩,a4,a5⟩:=st
  refine wpAny_pyNext_zip_item D a1 a2 a3 a4 a5 p1.isList p2.isList (x:=u1) (y:=u2) (by simpa using e1) (by simpa using e2) λg b1 b2 b3 b4 b6 b7 b8=>?_
  refine⟨.ref s.heap.objs.size,rfl,?_⟩
  refine wpAny_letOwnedTupleGo_zip b1 λh2 c1 sb=>?_
  have hfr:H s.heap.objs.size=none:=I.hok.fresh (aq _)
  have lt:∀b o,s.heap.get? b=some o->b≠s.heap.objs.size:=λb o q=>aR (aF q)
  have Km:z≠s.heap.objs.size:=lt _ _ a1
  have kp:∀b o,b∉[z,O,j1,j2]->s.heap.get? b=some o->h2.get? b=some o:=λb o hb q=>by
   simp only[aV,bb,or_false,not_or] at hb
   exact sb.extBut _ _ hb.1 (b8 b o hb.1 hb.2.1 hb.2.2.1 hb.2.2.2 q)
  have sub:∀b,b∈[z,O,j1,j2]->b∈[z,T,O,j1,j2]:=λb h=>(List.mem_cons.mp h).elim (λe=>e ▸ bu) λh=>aN _ (aN _ h)
  have EF:∀b u,H b=some u->b∉[z,O,j1,j2]:=λb u q hb=>by
   have n:=(hf b (sub b hb)).1
   rw[q] at n;cases n
  have lX:∀b,b∉[z,T,O,j1,j2]->b∉[z,O,j1,j2]:=λb h hb=>h (sub b hb)
  have kt:∀b u,H b=some u->b≠s.heap.objs.size:=λb u q=>bA q hfr
  have Tn:h2.get? s.heap.objs.size=some { cls:=.type "tuple",data:=.seq #[u1,u2] }:=sb.extBut _ _ (ax Km) b6
  have U4:∀b∈[z,T,O,j1,j2],b≠s.heap.objs.size:=λb hb=>by
   simp only[aV,bb,or_false] at hb
   rcases hb with rfl | rfl | rfl | rfl | rfl
   ·exact Km
   ·exact lt _ _ a2
   ·exact lt _ _ a3
   ·obtain⟨o,q,_⟩:=a4;exact lt _ _ q
   ·obtain⟨o,q,_⟩:=a5;exact lt _ _ q
  have at':∀{j t:ac5}{n:Nat},j≠z->g.IsListIter j t n->h2.IsListIter j t n:=λn ⟨o,q,r⟩=>⟨o,sb.extBut _ _ n q,r⟩
  refine⟨.ref s.heap.objs.size,upd H s.heap.objs.size (.tup [x,y]),?_,rfl,⟨s.heap.objs.size,rfl,hfr,λxs' ys' hx' hy'=>⟨x,y,by rw[I.pU hx' H1];exact x1,by rw[I.pU hy' H2];exact x2,rfl⟩⟩,⟨c1,?_,⟨u1,u2,sb.extBut _ _ D.TOz b2⟩,at' D.i1z b3,at' D.i2z b4⟩,λb hb=>?_⟩
  ·refine I.sk (s':={ s with heap:=h2 }) (ch:=[z,T,O,j1,j2]) rfl ?_ ?_ I.bare (λb hb=>⟨(hf b hb).2.2.2.1,(hf b hb).2.1,(hf b hb).2.2.2.2.1,(hf b hb).2.2.2.2.2⟩)
   ·refine⟨λb o q _ _ hx=>kp b o (lX b hx) q,λb o q _ _ hx=>⟨o.slots,kp b o (lX b hx) q⟩,λb o q n _=>by rw[aG (lt b o q)];exact n,λb o q hx=>⟨o,kp b o (lX b hx) q⟩,λb ys q=>by rw[aG (kt b _ q)];exact q,λb o y q=>by rw[aG (kt b _ q)];exact q,λb ps q=>⟨#[],by rw[aG (kt b _ q),q];simp⟩⟩
   ·intro b o q
    by_cases hb:b=s.heap.objs.size
    ·subst hb
     rw[aW] at q
     cases q
     exact⟨by show 2<=ado;decide,[u1,u2],.cons m1 (.cons m2 .nil),⟨_,Tn,rfl,0,rfl⟩,λo q=>by rw[Tn] at q;cases q;rfl⟩
    ·rw[aG hb] at q
     refine(I.hok b o q).stay (λc v hc g=>?_) (λc g=>by rw[aG (kt c _ g)];exact g) λc ys g=>by rw[aG (kt c _ g)];exact g
     rcases hc with e | e
     ·subst e;exact kp _ _ (EF _ _ q) g
     ·exact kp _ _ (EF _ _ e) g
  ·refine kp T _ ?_ a2
   simp only[aV,bb,or_false,not_or]
   exact⟨D.TIz,D.TITO,D.TIi1,D.TIi2⟩
  ·rw[aG (U4 b hb)];exact(hf b hb).1
 done:=by
  intro X hP hw hK hc i pins s σ H E I hf st hg
  subst hP hw hK
  obtain⟨xs,ys,H1,H2,hl⟩:=hg
  obtain⟨i1,r1,p1,_⟩:=I.list H1
  obtain⟨i2,r2,p2,_⟩:=I.list H2
  obtain⟨a1,a2,⟨a,b,a3⟩,a4,a5⟩:=st
  have q1:=r1.length
  have q2:=r2.length
  have sub:∀b,b∈[z,O,j1,j2]->b∈[z,T,O,j1,j2]:=λb h=>(List.mem_cons.mp h).elim (λe=>e ▸ bu) λh=>aN _ (aN _ h)
  have EF:∀b u,H b=some u->b∉[z,O,j1,j2]:=λb u q hb=>by
   have n:=(hf b (sub b hb)).1
   rw[q] at n;cases n
  have lX:∀b,b∉[z,T,O,j1,j2]->b∉[z,O,j1,j2]:=λb h hb=>h (sub b hb)
  refine wpAny_pyNext_zip_end (I.ok.hd hc) D a1 a2 a3 a4 a5 p1.isList p2.isList (by
   rcases hl with hl | hl
   ·exact .inl (by simp;omega)
   ·exact .inr (by simp;omega)) λg k8=>⟨rfl,?_⟩
  have kp:∀b o,b∉[z,O,j1,j2]->s.heap.get? b=some o->g.get? b=some o:=λb o hb q=>by
   simp only[aV,bb,or_false,not_or] at hb
   exact k8 b o hb.1 hb.2.1 hb.2.2.1 hb.2.2.2 q
  refine I.sk (s':={ s with heap:=g }) (ch:=[z,T,O,j1,j2]) rfl ?_ ?_ I.bare (λb hb=>⟨(hf b hb).2.2.2.1,(hf b hb).2.1,(hf b hb).2.2.2.2.1,(hf b hb).2.2.2.2.2⟩)
  ·exact⟨λb o q _ _ hx=>kp b o (lX b hx) q,λb o q _ _ hx=>⟨o.slots,kp b o (lX b hx) q⟩,λb o q n _=>n,λb o q hx=>⟨o,kp b o (lX b hx) q⟩,λb ys q=>q,λb o y q=>q,λb ps q=>⟨#[],by rw[q];simp⟩⟩
  ·intro b o q
   refine(I.hok b o q).stay (λc v hc g=>?_) (λc g=>g) λc ys g=>g
   rcases hc with e | e
   ·subst e;exact kp _ _ (EF _ _ q) g
   ·exact kp _ _ (EF _ _ e) g
 self:=λ_ _ _ _ _ st h=>wpAny_pyIter_zip st.1 h
theorem E4{I l1 l2:Nat}(h1:l1 < I)(h2:l2 < I):ZipApart (I+4) (I+2) (I+3) I (I+1) l1 l2:=by
 constructor<;>first | exact aR (by omega) | exact kJ (by omega)
section
variable {X:Cx}
def Q_(K:PySem.W.Frag)(ta:TA):TI:=λσ H R=>ta σ H λvs H1=>∃a b,vs=[.ref a,.ref b]/\(∃xs,H1 a=some (.lst xs))/\(∃ys,H1 b=some (.lst ys))/\R (Q9 K a b) H1
theorem Jc{es:List Expr}{kt:Nat}{pt p q:Pos}{l:Expr}{ls:List Expr}{ta:TA}(hg:Gl X "zip")(hm:X.mg "zip"=none)(ha:PA X (l::ls) ta)(hst:adp (l::ls) X.env=(false,eval l X.env)::adp ls X.env)(hpl:(backTo q (adp ls X.env)).any (·.1)=false) :
  PI X (.Tuple es kt pt) (.Call (.Name "zip" p) (l::ls) [] q) (Q_ X.K ta):=by
 intro pins s σ H R I h
 refine wpAny_Call_Name_kw (jS I hg hm boot_zip ?_)
 refine mv (bo (ha q pins s σ H _ I h) λus s1 ⟨vs,H1,I1,r1,q1⟩=>?_) hst hpl
 obtain⟨l1,l2,e,⟨xs,h1⟩,⟨ys,h2⟩,k⟩:=q1
 subst e
 cases r1 with
 | cons r rr=>
  cases rr with
  | cons r' rr=>
   cases rr
   cases r
   cases r'
   obtain⟨_,i1,n1,_,p1⟩:=I1.hok l1 _ h1
   obtain⟨_,i2,n2,_,p2⟩:=I1.hok l2 _ h2
   have lt1:l1 < s1.heap.objs.size:=aF p1
   have QF:l2 < s1.heap.objs.size:=aF p2
   refine call_zip_2 (xs:=i1.toArray) (ys:=i2.toArray) ⟨_,p1,rfl,_,rfl⟩ ⟨_,p2,rfl,_,rfl⟩ λg b1 b2 b3 b4 b5 b6 kp=>wpAny_pyIter_zip b1 ?_
   have D:ZipApart (s1.heap.objs.size+4) (s1.heap.objs.size+2) (s1.heap.objs.size+3) s1.heap.objs.size (s1.heap.objs.size+1) l1 l2:=by
    exact E4 lt1 QF
   have tz:=BC (P:=X.prog) (w:=X.w) (K:=X.K) (es:=es) (kt:=kt) (pt:=pt) D
   refine⟨s1.heap.objs.size+4,_,_,_,H1,rfl,I1.kept (t':=s1.toks) kp,tz,⟨b1,b2,⟨_,_,b3⟩,b4,b5⟩,λb hb=>?_,k⟩
   have ge:s1.heap.objs.size<=b:=by
    simp only[aV,bb,or_false] at hb
    rcases hb with rfl | rfl | rfl | rfl | rfl<;>omega
   exact I1.tN (pins:=pins) (H':=H1) (b:=b) ge (I1.hok.fresh ge)
def oO(as bs:List Wv):List Wv:=List.zipWith (λa b=> .tup [a,b]) as bs
def OY(i:Nat)(as:List Wv)(j:Nat)(bs:List Wv)(st:Hs):Prop:=av st i=some as/\av st j=some bs
open Classical in
def xY(is:List Nat)(gb:GS)(ck:Hs->Prop):List Wv->bH->Hs->Rs
 | [],ρ,st=> .nx ρ st
 | w::r,ρ,st=>match MO is w ρ with
  | none=> .bad
  | some ρ1=>match gb ρ1 st with
   | .nx ρ' st'=>if ck st' then xY is gb ck r ρ' st' else .bad
   | .ct ρ' st'=>if ck st' then xY is gb ck r ρ' st' else .bad
   | .bk ρ' st'=> .nx ρ' st'
   | .rt w st'=> .rt w st'
   | .err c ρ' st'=> .err c ρ' st'
   | .bad=> .bad
def Jd(is:List Nat)(gb:GS)(ρ:bH)(ws:List Wv)(st:Hs):Rs:=match ws with
 | [.ref i,.ref j]=>(match st[i]?,st[j]? with
  | some (.lst as),some (.lst bs)=>xY is gb (OY i as j bs) (oO as bs) ρ st
  | _,_=> .bad)
 | _=> .bad
def zZ(is:List Nat)(ga:GA)(gb:GS):GS:=λρ st=>(ga ρ st).bo ρ λws st1=>Jd is gb ρ ws st1
theorem Je{es:List Expr}{is:List Nat}{k:Nat}{p q:Pos}{l:Expr}{ls:List Expr}{ga:GA}{body:List Stmt}{gb:GS}{pos pos':Pos}(hN:X.N.Nodup)(hp:PassesOwn (model X.prog X.w) X.A X.env X.xe)(hc:X.calm=true)(sl:Slots X es is)
  (hg:Gl X "zip")(hm:X.mg "zip"=none)(ha:JA X (l::ls) ga)(hst:adp (l::ls) X.env=(false,eval l X.env)::adp ls X.env)(hpl:(backTo q (adp ls X.env)).any (·.1)=false)(hb:nz X body gb)
  (hs:∀x,adl (.Call (.Name "zip" p) (l::ls) [] q) X.env x=pure x):JS X (.For (.Tuple es k pos') (.Call (.Name "zip" p) (l::ls) [] q) body [] pos) (zZ is ga gb):=by
 refine JS.of (lJ hp hc (Jc hg hm iT hst hpl) (tM hc (iV hN sl) (j6 sl) (iW sl)) eR hs) λρ st σ H m D S R p=>?_
 refine ha.go S R (aE.cF R p) λwz st1 vs m1 H1 p1 e1 S1 rs=>?_
 unfold Jd at p1
 split at p1
 case h_2=>exact ae p1
 rename_i i j
 split at p1
 case h_2=>exact ae p1
 rename_i as bs Yd Ye
 have la:av st1 i=some as:=by unfold av;rw[Yd]
 have lb:av st1 j=some bs:=by unfold av;rw[Ye]
 obtain⟨v1,v2,rfl,r1,r2⟩:=rL rs
 unfold ah at r1 r2
 obtain⟨a,rfl,hi⟩:=r1
 obtain⟨b,rfl,hj⟩:=r2
 obtain⟨_,f1,_⟩:=S1.mI hi Yd
 obtain⟨_,f2,_⟩:=S1.mI hj Ye
 refine⟨a,b,rfl,⟨_,f1⟩,⟨_,f2⟩,?_⟩
 have len:(oO as bs).length=min as.length bs.length:=by unfold oO;simp
 let ws:=oO as bs
 have get:∀k (hk:k < ws.length),∃x y,as[k]? =some x/\bs[k]? =some y/\ws[k]= .tup [x,y]:=λk hk=>by
  have hk':k < min as.length bs.length:=by rw[<-len];exact hk
  refine⟨as[k]'(by omega),bs[k]'(by omega),by simp,by simp,?_⟩
  exact List.getElem_zipWith
 let Pv:Nat->St->Hp->Prop:=λk σ H=>∃ρ st m',Ext X.K m1 H1 m' H/\bf X.K m' st H/\ay X.K m' H ρ σ/\OY i as j bs st/\aE X m' H (xY is gb (OY i as j bs) (ws.drop k) ρ st) D
 refine⟨λk n σ H=>n=ws.length - k/\k<=ws.length/\Pv k σ H,⟨ws.length,by simp,bq _,ρ,st1,m1,Ext.refl,S1,R.mono e1,⟨la,lb⟩,aE.shift p1 e1⟩,?_⟩
 rintro k n σ2 H2 ⟨rfl,hk,ρ2,st2,m2,e2,S2,R2,c2,p2⟩
 obtain⟨xs,hq1,SN⟩:=S2.read (e2.pre _ _ hi) c2.1
 obtain⟨ys,hq2,GF⟩:=S2.read (e2.pre _ _ hj) c2.2
 by_cases hlt:k < ws.length
 ·obtain⟨x,y,gx,gy,gw⟩:=get k hlt
  obtain⟨x',Yf,rx⟩:=SN.get gx
  obtain⟨y',Yg,ry⟩:=GF.get gy
  refine .inr ⟨⟨xs,ys,x',y',hq1,hq2,Yf,Yg⟩,Pv (k+1),λσ' H' p'=>⟨ws.length - (k+1),by omega,rfl,hlt,p'⟩,λv H' yy=>?_⟩
  obtain⟨p',rfl,fr,yy⟩:=yy
  obtain⟨x'',y'',Ra,Rc,rfl⟩:=yy xs ys hq1 hq2
  rw[Yf] at Ra
  rw[Yg] at Rc
  cases Ra
  cases Rc
  have eY:Ext X.K m2 H2 m2 (upd H2 p' (.tup [x',y'])):=Ext.iR (.inl fr)
  have UW:=S2.fresh (o:=.tup [x',y']) fr
  have ed:ws.drop k=ws[k]::ws.drop (k+1):=lQ hlt
  rw[ed,gw] at p2
  unfold xY at p2
  replace p2:=aE.shift p2 eY
  have UX:=R2.mono eY
  have zo:=e2.trans eY
  dsimp only[MO] at p2
  cases e5:qp is [x,y] ρ2 with
  | none=>rw[e5] at p2;exact ae p2
  | some ρ5=>
   rw[e5] at p2
   dsimp only at p2
   have f2:ai X.K m2 (upd H2 p' (.tup [x',y'])) [x,y] [x',y']:=ai.cons (ah.mono eY _ _ rx) (ai.cons (ah.mono eY _ _ ry) ai.nil)
   refine⟨p',[x',y'],rfl,eJ.of aW,by rw[<-f2.length];exact mQ e5,j5 f2 UX e5 λσ5 R5=>?_⟩
   refine hb _ st2 _ _ m2 _ UW R5 ?_
   cases eg:gb ρ5 st2 with
   | nx ρ3 st3=>
    rw[eg] at p2
    by_cases c:OY i as j bs st3
    ·simp only[if_pos c] at p2
     exact λσ3 m3 H3 e3 S3 R3=>⟨ρ3,st3,m3,zo.trans e3,S3,R3,c,aE.shift p2 e3⟩
    ·simp only[if_neg c] at p2;exact ae p2
   | ct ρ3 st3=>
    rw[eg] at p2
    by_cases c:OY i as j bs st3
    ·simp only[if_pos c] at p2
     exact λσ3 m3 H3 e3 S3 R3=>⟨ρ3,st3,m3,zo.trans e3,S3,R3,c,aE.shift p2 e3⟩
    ·simp only[if_neg c] at p2;exact ae p2
   | bk ρ3 st3=>rw[eg] at p2;exact p2
   | rt w3 st3=>rw[eg] at p2;exact p2
   | err c3 ρ3 st3=>rw[eg] at p2;exact p2
   | bad=>rw[eg] at p2;exact p2
 ·have e:k=ws.length:=by omega
  subst e
  rw[nN] at p2
  refine .inl ⟨⟨xs,ys,hq1,hq2,?_⟩,p2 σ2 m2 H2 Ext.refl S2 R2⟩
  have z1:=SN.length
  have z2:=GF.length
  have z3:ws.length=min as.length bs.length:=len
  omega
end
structure Ct where
 N:List Str
 names:List (Str×ac8)
 consts:List (Str×Wv)
 bl:List Str
 fns:List (Str×Nat×(List Wv->Hs->Re Wv))
 tb:Tab:=[]
 tt:uo:=[]
 clss:List Str:=[]
 xZ:List Str:=[]
 tc:Tab:=[]
 x8:List (Str×Dc):=[]
 w6:List Str:=[]
 Yh:List Str:=[]
 dis:List Str:=[]
 Cf:List Str:=[]
 loop:Bool:=true
 free:Bool:=true
 top:Bool:=true
 lam:Option (Lm×LF):=none
 vi:List (Str×OV):=[]
 GK:List Str:=[]
 lj:Nat:=0
 self:Str:=""
def j9(x:Str):List Str->Option Nat
 | []=>none
 | y::r=>if x=y then some 0 else match j9 x r with
  | some i=>some (i+1)
  | none=>none
theorem fS{x:Str}:∀{N:List Str}{i:Nat},j9 x N=some i->N[i]? =some x
 | [],i,h=>by cases h
 | y::r,i,h=>by
  unfold j9 at h
  by_cases e:x=y
  ·rw[if_pos e] at h;cases h;subst e;rfl
  ·rw[if_neg e] at h
   cases q:j9 x r with
   | none=>rw[q] at h;cases h
   | some j=>rw[q] at h;cases h;simpa using fS q
def okN(x:Str):Bool:=!(x == ("__debug__":Str))&& !(x == ("__classdict__":Str))&& !(decide (x="__name__"))
theorem f7{x:Str}(h:okN x=true):(x == ("__debug__":Str))=false:=by unfold okN at h;revert h;cases (x == ("__debug__":Str))<;>simp
theorem z9{x:Str}(h:okN x=true):(x == ("__classdict__":Str))=false:=by unfold okN at h;revert h;cases (x == ("__classdict__":Str))<;>simp
theorem E5{x:Str}(h:okN x=true):x≠"__name__":=by
 intro e
 subst e
 unfold okN at h
 simp at h
def wk:List Wv->List V->Prop
 | [],[]=>True
 | .int i::r,.int j::t=>i=j/\wk r t
 | .str x::r,.str y::t=>(x=y/\ba x=true)/\wk r t
 | _,_=>False
theorem wk.rel{K:PySem.W.Frag}{m:Mp}{H:Hp}:∀{ws:List Wv}{vs:List V},wk ws vs->ai K m H ws vs
 | [],[],_=>ai.nil
 | .int i::r,.int j::t,h=>by
  obtain⟨rfl,h⟩:=h
  exact ai.cons (by unfold ah;rfl) h.rel
 | .str x::r,.str y::t,h=>by
  obtain⟨⟨rfl,hx⟩,h⟩:=h
  exact ai.cons (by unfold ah;exact⟨rfl,hx⟩) h.rel
 | [],_::_,h=>ae h
 | .int i::r,[],h=>ae h
 | .str i::r,[],h=>ae h
 | .int i::r,.str _::_,h=>ae h
 | .str i::r,.int _::_,h=>ae h
def z_(K:PySem.W.Frag)(mg:Str->Option adb)(x:Str):Wv->Prop
 | .int i=>∃t,mg x=some (.int i t)
 | .str y=>(∃t,mg x=some (.str y t))/\ba y=true
 | .oV ws=>∃(a:ac5)(vs:List V)(o:Obj)(its:Array adb)(n:Nat),mg x=some (.ref a)/\K.lookup a=some o/\o.cls= .type "tuple"/\o.data= .seq its n/\its.size<=ado/\Vals vs its.toList/\wk ws vs
 | _=>False
structure Rf(c:Ct)(k:Nat)(X:Cx):Prop where
 lam:∀p L,c.lam=some (p,L)->qD X.prog X.w X.K X.mg X.base k p 3 L
 vi:∀x F,c.vi.lookup x=some F->SM X.prog X.w X.K X.mg k c.lj x F
 Kp:∀x n F,c.fns.lookup x=some (n,F)->c.GK.contains x=true->∀base,jP X.K X.mg base->rM X.prog X.w X.K X.mg base c.lj x n F
 at':c.top=true->c.self∈a_->∃P,zN X c.self P
structure Good(c:Ct)(k:Nat)(X:Cx):Prop where
 N:X.N=c.N
 sc:X.env.scope.names=c.names
 nd:c.N.Nodup
 un:X.A.units+64 < cLine
 free:c.free=true->iw k X.A/\X.calm=true
 loop:c.loop=true->X.calm=true/\PassesOwn (model X.prog X.w) X.A X.env X.xe
 cst:∀x w,c.consts.lookup x=some w->z_ X.K X.mg x w
 bl:∀x,c.bl.contains x=true->X.mg x=none
 fns:∀x n F,c.fns.lookup x=some (n,F)->rM X.prog X.w X.K X.mg X.base k x n F
 stk:c.top=true->ZQ X
 fn:c.top=true->∀x,X.fn x=true
 kind:X.env.scope.kind= .function
 tab:TabOk X.K c.tb c.tt c.tc
 cls:∀x,c.clss.contains x=true->∃C,X.mg x=some (.ref C)/\DG X.K x C
 xZ:∀x,c.xZ.contains x=true->∃C,X.mg x=some (.ref C)/\ClsAt X.K x C
 x8:∀x kvs,c.x8.lookup x=some kvs->vW X.K X.w X.mg x kvs
 rm:qB k X.A
 Cf:∀x n F,c.Cf.contains x=true->c.fns.lookup x=some (n,F)->ID X.prog X.w X.K X.mg X.base k x n F
 x:Rf c k X
 fr:DQ X
 hd:MJ X
theorem uF{k:Nat}{A:ac6}(hr:iw k A):A.units+64 < cLine:=by have:=hr.un;omega
def Ct.Rg(c:Ct):Ct:={ c with loop:=false }
theorem Good.body{c:Ct}{k:Nat}{X:Cx}(G:Good c k X)(hf:c.free=true)(pn:List (ac5×Obj))(E:adb->ada->Prop):Good c.Rg k (XN X X.A true pn E) :=
 ⟨G.N,G.sc,G.nd,G.un,λ_=>⟨(G.free hf).1,rfl⟩,(λz=>by cases z),G.cst,G.bl,G.fns,λz=>⟨(G.stk z).st,(G.stk z).fr,(G.stk z).ex⟩,G.fn,G.kind,G.tab,G.cls,G.xZ,G.x8,⟨G.rm.d,G.rm.u⟩,G.Cf,⟨G.x.lam,G.x.vi,G.x.Kp,λt m=>(G.x.at' t m).imp λP L=>⟨L.code,L.qual,L.tab,L.mem,L.uniq,L.bm⟩⟩,G.fr,G.hd⟩
theorem E6:adh "ValueError"=some (.type "ValueError"):=by decide+kernel
theorem wo:adh "dict"=some (.type "dict"):=by decide+kernel
def Jf(x:Str):Option String :=
 if x="int" then some "int" else if x="str" then some "str" else if x="bool" then some "bool" else if x="tuple" then some "tuple" else if x="list" then some "list" else if x="ValueError" then some "ValueError" else if x="dict" then some "dict" else none
theorem Jg{x:Str}{T:String}(h:Jf x=some T):adh x=some (.type T):=by
 unfold Jf at h
 by_cases e:x="int"
 ·rw[if_pos e] at h;cases h;subst e;exact Dx
 rw[if_neg e] at h
 by_cases e:x="str"
 ·rw[if_pos e] at h;cases h;subst e;exact Dy
 rw[if_neg e] at h
 by_cases e:x="bool"
 ·rw[if_pos e] at h;cases h;subst e;exact Dz
 rw[if_neg e] at h
 by_cases e:x="tuple"
 ·rw[if_pos e] at h;cases h;subst e;exact vL
 rw[if_neg e] at h
 by_cases e:x="list"
 ·rw[if_pos e] at h;cases h;subst e;exact DA
 rw[if_neg e] at h
 by_cases e:x="ValueError"
 ·rw[if_pos e] at h;cases h;subst e;exact E6
 rw[if_neg e] at h
 by_cases e:x="dict"
 ·rw[if_pos e] at h;cases h;subst e;exact wo
 rw[if_neg e] at h
 cases h
section
variable {X:Cx}
def Ri:f_:=λ_ _ _=> .bad
theorem ND{f:adb->adb->Sem adb}:kM X f Ri:=⟨λ_ _ _ _=>False,λ_ _ _ _ _ _ _ _ _ _ _ _ h=>h.elim,λ_ _ _ _ _ _ _ _ _ _ _ p=>p⟩
def Rj:Operator->f_
 | .Add=>br
 | .Sub=>cV
 | .Mult=>cG
 | .FloorDiv=>fZ
 | .Mod=>oMod
 | .Pow=>qi
 | _=>Ri
theorem Jh(o:Operator):kM X (adg o) (Rj o):=by
 cases o<;>first | exact Mw | exact Mt | exact En | exact HI | exact Mu | exact Mv | exact ND
def x9:CmpOp->f_
 | .Eq=>oEq
 | .NotEq=>Mx
 | .Lt=>oLt
 | .LtE=>oLe
 | .Gt=>Ux
 | .GtE=>Uy
 | .Is=>Ql
 | .IsNot=>qj
 | .In=>rO
 | .NotIn=>uw
theorem kW(hu:X.A.units+64 < cLine)(o:CmpOp):kM X (adk o) (x9 o):=by
 cases o<;>first | exact J8 hu | exact J9 hu | exact M' hu | exact M_ hu | exact Qj | exact Qk | exact Qm | exact C_ | exact M6 | exact Bo
def E7(c:Ct)(x:Str):GE:=if okN x=true then
  match c.names.lookup x with
  | some .local=>(match j9 x c.N with | some i=>af i | none=>bC)
  | some .cell=>(match j9 x c.N with | some i=>af i | none=>bC)
  | some .free=>(match j9 x c.N with | some i=>af i | none=>bC)
  | some .globalImplicit=>(match c.consts.lookup x with
   | some w=>gC w
   | none=>if c.clss.contains x=true then gC (.cls x) else if c.xZ.contains x=true then gC (.cls x) else if c.bl.contains x=true then(match Jf x with | some T=>gC (.ty T) | none=>bC) else bC)
  | _=>bC
 else bC
theorem E8{c:Ct}{k:Nat}(G:Good c k X)(x:Str)(pos:Pos):JE X (.Name x pos) (E7 c x):=by
 unfold E7
 by_cases hx:okN x=true
 ·rw[if_pos hx]
  cases e:c.names.lookup x with
  | none=>exact aA
  | some kd=>
   have el:X.env.scope.names.lookup x=some kd:=by rw[G.sc];exact e
   cases kd with
   | «local»=>
    dsimp only
    cases e2:j9 x c.N with
    | none=>exact aA
    | some i=>exact xv i (by rw[G.N];exact fS e2) (Or.inl el) (f7 hx) (z9 hx)
   | cell=>
    dsimp only
    cases e2:j9 x c.N with
    | none=>exact aA
    | some i=>exact xv i (by rw[G.N];exact fS e2) (kL (Or.inl el)) (f7 hx) (z9 hx)
   | free=>
    dsimp only
    cases e2:j9 x c.N with
    | none=>exact aA
    | some i=>exact xv i (by rw[G.N];exact fS e2) (kL (kL el)) (f7 hx) (z9 hx)
   | globalImplicit=>
    dsimp only
    have hg:Gl X x:=el
    cases e2:c.consts.lookup x with
    | some w=>
     have q:=G.cst x w e2
     cases w with
     | int i=>obtain⟨t,q⟩:=q;exact C3 hg q (f7 hx)
     | str y=>obtain⟨⟨t,q⟩,z⟩:=q;exact C4 hg q z (f7 hx)
     | oV ws=>
      obtain⟨a,vs,o,its,n,q1,q2,q3,q4,q5,q6,q7⟩:=q
      exact JE.of (i7 (v:=.ref a) hg q1 rfl (f7 hx)) λρ st σ H m Q S R p=>p (.ref a) m H Ext.refl S (by unfold ah;exact⟨a,vs,rfl,⟨o,its,n,q2,q3,q4,q5,q6⟩,q7.rel⟩)
     | _=>exact ae q
    | none=>
     dsimp only
     by_cases e5:c.clss.contains x=true
     ·rw[if_pos e5]
      obtain⟨C,q1,q2⟩:=G.cls x e5
      exact JE.of (i7 (v:=.ref C) hg q1 rfl (f7 hx)) λρ st σ H m Q S R p=>p (.ref C) m H Ext.refl S (by unfold ah;exact⟨C,rfl,q2.cls⟩)
     rw[if_neg e5]
     by_cases e6:c.xZ.contains x=true
     ·rw[if_pos e6]
      obtain⟨C,q1,q2⟩:=G.xZ x e6
      exact JE.of (i7 (v:=.ref C) hg q1 rfl (f7 hx)) λρ st σ H m Q S R p=>p (.ref C) m H Ext.refl S (by unfold ah;exact⟨C,rfl,q2⟩)
     rw[if_neg e6]
     by_cases e3:c.bl.contains x=true
     ·rw[if_pos e3]
      cases e4:Jf x with
      | none=>exact aA
      | some T=>exact Qa hg (G.bl x e3) (Jg e4) (E5 hx) (f7 hx)
     ·rw[if_neg e3];exact aA
   | _=>exact aA
 ·rw[if_neg hx];exact aA
def E9:Const->GE
 | .none=>gC .bz
 | .bool b=>gC (.bl b)
 | .int i=>gC (.int i)
 | .str x=>if ba x=true then gC (.str x) else bC
 | _=>bC
theorem BD(k:Const)(j:Nat)(pos:Pos):JE X (.Constant k j pos) (E9 k):=by
 cases k with
 | none=>exact Me
 | bool b=>exact P_
 | int i=>exact Md
 | str x=>
  show JE X _ (if ba x=true then gC (.str x) else bC)
  by_cases h:ba x=true
  ·rw[if_pos h];exact Mf h
  ·rw[if_neg h];exact aA
 | _=>exact aA
def plain:Expr->Bool
 | .Starred .. =>false
 | _=>true
theorem aB{e:Expr}{es:List Expr}{env:Env}(h:plain e=true):adp (e::es) env=(false,eval e env)::adp es env:=by
 cases e<;>first | rfl | cases h
theorem dy{pos:Pos}{env:Env}:∀{es:List Expr},es.all plain=true->(backTo pos (adp es env)).any (·.1)=false
 | [],_=>rfl
 | e::es,h=>by
  rw[eP,cQ] at h
  rw[aB h.1]
  have q:=dy (pos:=pos) (env:=env) h.2
  unfold backTo at q ⊢
  rw[aL,iz,q]
  rfl
def hJ(f:Expr->GE):List Expr->GA
 | []=>aj
 | e::es=>aa (f e) (hJ f es)
theorem dz{f:Expr->GE}(h:∀e,JE X e (f e)):∀es:List Expr,es.all plain=true->JA X es (hJ f es)
 | [],_=>C8
 | e::es,g=>by
  rw[eP,cQ] at g
  exact zd (h e) (dz h es g.2) (aB g.1)
def SX(c:Ct)(x:Str):Option (adb×(List Wv->Hs->Re Wv)) :=
 if x="len" then some (.builtin "len",jY) else if x="isinstance" then some (.builtin "isinstance",if c.bl.contains "dict"=true then BB c.tb c.tt else nQ c.tb c.tt) else if x="tuple" then some (.type "tuple",gY) else if x="max"/\c.free=true then some (.builtin "max",jK) else if x="min"/\c.free=true then some (.builtin "min",lE) else if x="sum"/\c.free=true then some (.builtin "sum",D4) else if x="dict" then some (.type "dict",sY) else none
theorem BE:adh "max"=some (.builtin "max"):=by decide+kernel
theorem BF:adh "min"=some (.builtin "min"):=by decide+kernel
theorem BG:adh "sum"=some (.builtin "sum"):=by decide+kernel
theorem NF{c:Ct}(O:TabOk X.K c.tb c.tt c.tc):dM X (.builtin "isinstance") (if c.bl.contains "dict"=true then BB c.tb c.tt else nQ c.tb c.tt):=by
 by_cases e2:c.bl.contains "dict"=true
 ·rw[if_pos e2];exact NA O
 ·rw[if_neg e2];exact DN O
theorem NG{c:Ct}{x:Str}{v:adb}{op:List Wv->Hs->Re Wv}(O:TabOk X.K c.tb c.tt c.tc)(hc:c.free=true->X.calm=true)(h:SX c x=some (v,op)):adh x=some v/\dM X v op/\((∃id,v= .builtin id)\/∃T,v= .type T):=by
 unfold SX at h
 by_cases e:x="len"
 ·rw[if_pos e] at h;cases h;subst e;exact⟨Bf,MB,.inl ⟨_,rfl⟩⟩
 rw[if_neg e] at h
 by_cases e:x="isinstance"
 ·rw[if_pos e] at h;cases h;subst e;exact⟨Dv,NF O,.inl ⟨_,rfl⟩⟩
 rw[if_neg e] at h
 by_cases e:x="tuple"
 ·rw[if_pos e] at h;cases h;subst e;exact⟨vL,MY,.inr ⟨_,rfl⟩⟩
 rw[if_neg e] at h
 by_cases e:x="max"/\c.free=true
 ·rw[if_pos e] at h;cases h;obtain⟨rfl,e2⟩:=e;exact⟨BE,Ir (hc e2),.inl ⟨_,rfl⟩⟩
 rw[if_neg e] at h
 by_cases e:x="min"/\c.free=true
 ·rw[if_pos e] at h;cases h;obtain⟨rfl,e2⟩:=e;exact⟨BF,Iu (hc e2),.inl ⟨_,rfl⟩⟩
 rw[if_neg e] at h
 by_cases e:x="sum"/\c.free=true
 ·rw[if_pos e] at h;cases h;obtain⟨rfl,e2⟩:=e;exact⟨BG,M3 (hc e2),.inl ⟨_,rfl⟩⟩
 rw[if_neg e] at h
 by_cases e:x="dict"
 ·rw[if_pos e] at h;cases h;subst e;exact⟨wo,IZ,.inr ⟨_,rfl⟩⟩
 rw[if_neg e] at h
 cases h
def x_(c:Ct)(fE:Expr->GE)(x:Str)(es:List Expr):GE:=match c.lam,j9 x c.N with
 | some (p,L),some i=>if okN x=true/\es.all plain=true/\(c.names.lookup x=some .local\/c.names.lookup x=some .cell\/c.names.lookup x=some .free)/\c.free=true then lU p 3 L i (hJ fE es) else bC
 | _,_=>bC
theorem BH{c:Ct}{k:Nat}(G:Good c k X){fE:Expr->GE}(h:∀e,JE X e (fE e))(x:Str)(e:Expr)(es:List Expr)(p pos:Pos):JE X (.Call (.Name x p) (e::es) [] pos) (x_ c fE x (e::es)):=by
 unfold x_
 cases el:c.lam with
 | none=>exact aA
 | some pL=>
  obtain⟨pl,L⟩:=pL
  cases ei:j9 x c.N with
  | none=>exact aA
  | some i=>
   dsimp only
   by_cases g:okN x=true/\(e::es).all plain=true/\(c.names.lookup x=some .local\/c.names.lookup x=some .cell\/c.names.lookup x=some .free)/\c.free=true
   ·rw[if_pos g]
    obtain⟨g1,g2,g3,g4⟩:=g
    have gp:plain e=true/\es.all plain=true:=by rw[eP,cQ] at g2;exact g2
    refine Ep (G.x.lam pl L el) (G.free g4).1 (by rw[G.N];exact fS ei) ?_ (dz h (e::es) g2) (f7 g1) (z9 g1) (aB gp.1) (dy gp.2)
    unfold ON
    rw[G.sc]
    exact g3
   ·rw[if_neg g];exact aA
def ya(c:Ct)(fE:Expr->GE)(x:Str)(es:List Expr):GE:=if okN x=true/\es.all plain=true/\c.names.lookup x=some .globalImplicit then
   (match c.fns.lookup x with
   | some (n,F)=>if c.free=true then au n F (hJ fE es) else bC
   | none=>if c.bl.contains x=true then(match SX c x with | some (_,op)=>aU op (hJ fE es) | none=>bC) else bC)
  else x_ c fE x es
def E_(fE:Expr->GE)(o:Expr)(name:Str)(e:Expr)(apos cpos:Pos):GE:=if plain e=true/\(apos.endLine == cpos.line)=true then
   (if name="append" then sP oZ (fE o) (fE e) else if name="extend" then sP wd (fE o) (fE e) else bC)
  else bC
def uG(fE:Expr->GE)(o:Expr)(name:Str)(es:List Expr)(apos cpos:Pos):GE:=bC
theorem all_plain{pos:Pos}{env:Env}:∀{es:List Expr},es.all plain=true->(backTo pos (adp es env)).all (λx=> !x.1)=true
 | [],_=>rfl
 | e::es,h=>by
  rw[eP,cQ] at h
  rw[aB h.1]
  have q:=all_plain (pos:=pos) (env:=env) h.2
  unfold backTo at q ⊢
  rw[aL,eP,q]
  rfl
theorem nV{fE:Expr->GE}(h:∀e,JE X e (fE e))(o:Expr)(name:Str)(e:Expr)(es:List Expr)(apos cpos:Pos):JE X (.Call (.Attribute o name apos) (e::es) [] cpos) (uG fE o name (e::es) apos cpos):=by
 exact aA
def Fb(fE:Expr->GE)(o:Expr)(e f:Expr)(apos cpos:Pos):GE:=if plain e=true/\plain f=true/\(apos.endLine == cpos.line)=true then D_ (fE o) (fE e) (fE f) else bC
theorem Fc{c:Ct}{k:Nat}(G:Good c k X){fE:Expr->GE}(h:∀e,JE X e (fE e))(o:Expr)(ho:attributeBase o "get" X.env (eval o X.env)=eval o X.env)(e f:Expr)(apos cpos:Pos):JE X (.Call (.Attribute o "get" apos) [e,f] [] cpos) (Fb fE o e f apos cpos):=by
 unfold Fb
 by_cases g:plain e=true/\plain f=true/\(apos.endLine == cpos.line)=true
 ·rw[if_pos g]
  obtain⟨g1,g2,g3⟩:=g
  refine Eb (by have:=G.un;omega) (h _) (h e) (h f) ⟨ho,?_,g3,?_⟩
  ·rw[all_plain (es:=[e,f]) (by simp[g1,g2])]
   rfl
  ·rw[aB g1,aB g2]
   rfl
 ·rw[if_neg g];exact aA
def BI(c:Ct)(x:Str):Option Dc:=if okN x=true/\c.names.lookup x=some .globalImplicit then c.x8.lookup x else none
theorem Aa{c:Ct}{k:Nat}(G:Good c k X){x:Str}{kvs:Dc}(h:BI c x=some kvs):Gl X x/\(x == ("__debug__":Str))=false/\vW X.K X.w X.mg x kvs:=by
 unfold BI at h
 by_cases g:okN x=true/\c.names.lookup x=some .globalImplicit
 ·rw[if_pos g] at h
  refine⟨?_,f7 g.1,G.x8 x kvs h⟩
  show X.env.scope.names.lookup x=_
  rw[G.sc];exact g.2
 ·rw[if_neg g] at h;cases h
def Fd(c:Ct)(fE:Expr->GE)(x:Str)(p:Pos)(e:Expr)(apos cpos:Pos):GE:=if c.w6.contains x=true/\plain e=true/\(apos.endLine == cpos.line)=true then iD (fE (.Name x p)) (fE e) else bC
theorem Fe{c:Ct}{k:Nat}(G:Good c k X){fE:Expr->GE}(h:∀e,JE X e (fE e))(x:Str)(p:Pos)(e:Expr)(apos cpos:Pos):JE X (.Call (.Attribute (.Name x p) "get" apos) [e] [] cpos) (Fd c fE x p e apos cpos):=by
 unfold Fd
 by_cases g:c.w6.contains x=true/\plain e=true/\(apos.endLine == cpos.line)=true
 ·rw[if_pos g]
  obtain⟨_,g1,g3⟩:=g
  refine E3 (by have:=G.un;omega) (h _) (h e) ⟨rfl,?_,g3,?_⟩
  ·rw[all_plain (es:=[e]) (by simp[g1])]
   rfl
  ·rw[aB g1]
   rfl
 ·rw[if_neg g];exact aA
def s_(c:Ct)(fE:Expr->GE)(cpos:Pos):Expr->List Expr->List Keyword->GE
 | .Name x _,e::es,[]=>ya c fE x (e::es)
 | .Attribute (.Name x p) name apos,[e],[]=>if name="get" then Fd c fE x p e apos cpos else if name="append"\/name="extend" then E_ fE (.Name x p) name e apos cpos else uG fE (.Name x p) name [e] apos cpos
 | .Attribute (.Name x p) name apos,[e,f],[]=>if name="get" then(match BI c x with | some kvs=>(if plain e=true/\plain f=true/\(apos.endLine == cpos.line)=true then Ek kvs (fE e) (fE f) else bC) | none=>Fb fE (.Name x p) e f apos cpos) else uG fE (.Name x p) name [e,f] apos cpos
 | .Attribute o name apos,e::es,[]=>uG fE o name (e::es) apos cpos
 | .Attribute (.Name x p) name apos,[],[]=>if name="clear"/\(apos.endLine == cpos.line)=true then EW (fE (.Name x p)) else bC
 | .Attribute (.Subscript a b p) name apos,[],[]=>if name="clear"/\(apos.endLine == cpos.line)=true then EW (fE (.Subscript a b p)) else bC
 | _,_,_=>bC
theorem BJ{c:Ct}{k:Nat}(G:Good c k X){fE:Expr->GE}(h:∀e,JE X e (fE e))(x:Str)(e:Expr)(es:List Expr)(p pos:Pos):JE X (.Call (.Name x p) (e::es) [] pos) (ya c fE x (e::es)):=by
 unfold ya
 by_cases g:okN x=true/\(e::es).all plain=true/\c.names.lookup x=some .globalImplicit
 ·rw[if_pos g]
  obtain⟨g1,g2,g3⟩:=g
  have hg:Gl X x:=by
   show X.env.scope.names.lookup x=_
   rw[G.sc];exact g3
  have gp:plain e=true/\es.all plain=true:=by rw[eP,cQ] at g2;exact g2
  have ha:=dz h (e::es) g2
  cases e1:c.fns.lookup x with
  | some nF=>
   obtain⟨n,F⟩:=nF
   dsimp only
   by_cases cf:c.free=true
   ·rw[if_pos cf]
    obtain⟨a,fd,ps,G1,G2,G3,G4⟩:=G.fns x n F e1
    exact HZ G1 (G.free cf).1 G2 G3 G4 ha hg (f7 g1) (aB gp.1) (dy gp.2)
   ·rw[if_neg cf]
    exact aA
  | none=>
   dsimp only
   by_cases e3:c.bl.contains x=true
   ·rw[if_pos e3]
    cases e4:SX c x with
    | none=>exact aA
    | some io=>
     obtain⟨v,op⟩:=io
     obtain⟨b1,b2,b3⟩:=NG (X:=X) G.tab (λz=>(G.free z).2) e4
     rcases b3 with ⟨id,rfl⟩ | ⟨T,rfl⟩
     ·exact Df b2 hg (G.bl x e3) b1 ha (E5 g1) (f7 g1) (aB gp.1) (dy gp.2)
     ·exact Bb b2 hg (G.bl x e3) b1 ha (E5 g1) (f7 g1) (aB gp.1) (dy gp.2)
   ·rw[if_neg e3]
    exact aA
 ·rw[if_neg g];exact BH G h x e es p pos
theorem Ff{fE:Expr->GE}(h:∀e,JE X e (fE e))(x name:Str)(e:Expr)(p apos cpos:Pos):JE X (.Call (.Attribute (.Name x p) name apos) [e] [] cpos) (E_ fE (.Name x p) name e apos cpos):=by
 unfold E_
 by_cases g:plain e=true/\(apos.endLine == cpos.line)=true
 ·rw[if_pos g]
  by_cases n1:name="append"
  ·rw[if_pos n1]
   subst n1
   exact zj xD PySem.F.slot_list_append PySem.F.type_list_append (h _) (h e) (aB g.1) g.2
  rw[if_neg n1]
  by_cases n2:name="extend"
  ·rw[if_pos n2]
   subst n2
   exact zj IV PySem.F.slot_list_extend PySem.F.type_list_extend (h _) (h e) (aB g.1) g.2
  rw[if_neg n2]
  exact aA
 ·rw[if_neg g];exact aA
theorem Fg{c:Ct}{k:Nat}(G:Good c k X){fE:Expr->GE}(h:∀e,JE X e (fE e))(f:Expr)(as:List Expr)(ks:List Keyword)(pos:Pos):JE X (.Call f as ks pos) (s_ c fE pos f as ks):=by
 unfold s_
 split
 ·exact BJ G h _ _ _ _ _
 ·rename_i x p name apos e
  by_cases gg:name="get"
  ·rw[if_pos gg];subst gg;exact Fe G h _ _ _ _ _
  rw[if_neg gg]
  by_cases g:name="append"\/name="extend"
  ·rw[if_pos g];exact Ff h _ _ _ _ _ _
  ·rw[if_neg g]
   exact nV h _ _ _ _ _ _
 ·rename_i x p name apos e f
  by_cases g:name="get"
  ·rw[if_pos g]
   subst g
   cases ed:BI c x with
   | none=>exact Fc G h _ rfl _ _ _ _
   | some kvs=>
    dsimp only
    by_cases g:plain e=true/\plain f=true/\(apos.endLine == pos.line)=true
    ·rw[if_pos g]
     obtain⟨g1,g2,g3⟩:=g
     obtain⟨q1,q2,q3⟩:=Aa G ed
     refine El (h e) (h f) ⟨rfl,?_,g3,?_⟩ q1 q2 q3
     ·rw[all_plain (es:=[e,f]) (by simp[g1,g2])]
      rfl
     ·rw[aB g1,aB g2]
      rfl
    ·rw[if_neg g];exact aA
  ·rw[if_neg g]
   exact nV h _ _ _ _ _ _
 ·exact nV h _ _ _ _ _ _
 ·rename_i x p name apos
  by_cases g:name="clear"/\(apos.endLine == pos.line)=true
  ·rw[if_pos g];obtain⟨rfl,g2⟩:=g;exact EY (h _) ⟨rfl,g2⟩
  ·rw[if_neg g];exact aA
 ·rename_i a b p name apos
  by_cases g:name="clear"/\(apos.endLine == pos.line)=true
  ·rw[if_pos g];obtain⟨rfl,g2⟩:=g;exact EY (h _) ⟨rfl,g2⟩
  ·rw[if_neg g];exact aA
 ·exact aA
def BK:Expr->Bool
 | .Slice .. =>true
 | _=>false
def Fh(f:Expr->GE):Option Expr->GO
 | none=>jb
 | some e=>jX (f e)
theorem Ab{f:Expr->GE}(h:∀e,JE X e (f e))(o:Option Expr):JO X o (Fh f o):=by
 cases o with
 | none=>exact HQ
 | some e=>exact HR (h e)
def Ji(f:Expr->GE)(a:Expr):Expr->GE
 | .Slice lo hi none _=>fD (f a) (Fh f lo) (Fh f hi)
 | .Slice .. =>bC
 | b=>ag aS (f a) (f b)
theorem Fi{f:Expr->GE}(h:∀e,JE X e (f e))(a b:Expr)(pos:Pos):JE X (.Subscript a b pos) (Ji f a b):=by
 unfold Ji
 split
 ·exact Bn (h a) (Ab h _) (Ab h _)
 ·exact aA
 ·rename_i n1 n2
  refine Qs (h a) (h b) ?_
  intro o i
  cases b<;>first | rfl | (rename_i lo hi st p;exact(n2 _ _ _ _ rfl).elim)
def Jj(f:Expr->GE)(a:Expr):List CmpOp->List Expr->GE
 | [o],[b]=>if adf o b=false then ag (x9 o) (f a) (f b) else bC
 | [o,o'],[b,b']=>if lastMarks [o,o'] [b,b']=false then i_ (x9 o) (x9 o') (f a) (f b) (f b') else bC
 | _,_=>bC
theorem Fj(hu:X.A.units+64 < cLine){f:Expr->GE}(h:∀e,JE X e (f e))(a:Expr)(os:List CmpOp)(bs:List Expr)(pos:Pos):JE X (.Compare a os bs pos) (Jj f a os bs):=by
 unfold Jj
 split
 ·rename_i o b
  by_cases g:adf o b=false
  ·rw[if_pos g];exact xw (kW hu o) (h a) (h b) g
  ·rw[if_neg g];exact aA
 ·rename_i o o' b b'
  by_cases g:lastMarks [o,o'] [b,b']=false
  ·rw[if_pos g];exact C5 (kW hu o) (kW hu o') (h a) (h b) (h b') g
  ·rw[if_neg g];exact aA
 ·exact aA
def Jk(f:Expr->GE)(a:Expr):List CmpOp->List Expr->GT
 | [o],[b]=>if adf o b=false then cC (ag (x9 o) (f a) (f b)) else jZ
 | [o,o'],[b,b']=>if lastMarks [o,o'] [b,b']=false then cC (i_ (x9 o) (x9 o') (f a) (f b) (f b')) else jZ
 | _,_=>jZ
theorem Ac(hu:X.A.units+64 < cLine){f:Expr->GE}(h:∀e,JE X e (f e))(a:Expr)(os:List CmpOp)(bs:List Expr)(pos:Pos):JT X (.Compare a os bs pos) (Jk f a os bs):=by
 unfold Jk
 split
 ·rename_i o b
  by_cases g:adf o b=false
  ·rw[if_pos g];exact xx (kW hu o) (h a) (h b) g
  ·rw[if_neg g];exact j4
 ·rename_i o o' b b'
  by_cases g:lastMarks [o,o'] [b,b']=false
  ·rw[if_pos g];exact C6 (kW hu o) (kW hu o') (h a) (h b) (h b') g
  ·rw[if_neg g];exact j4
 ·exact j4
def U9(c:Ct):Expr->Bool
 | .Name x _=>c.w6.contains x
 | _=>false
def Jl(c:Ct):Expr->Bool
 | .Subscript (.Name x _) (.Constant (.int 0) _ _) _=>c.w6.contains (x++"[]")
 | .Subscript (.Call (.Name x _) _ _ _) (.Constant (.int 0) _ _) _=>c.w6.contains (x++"()[]")
 | .Call (.Name x _) _ _ _=>c.w6.contains (x++"()")
 | e=>U9 c e
def NH(c:Ct)(f:Expr->GE)(a:Expr)(os:List CmpOp)(bs:List Expr):GE:=if Jl c a=true then(match os,bs with
 | [.Eq],[b]=>if adf .Eq b=false then ag Bz (f a) (f b) else bC
 | [.NotEq],[b]=>if adf .NotEq b=false then ag uE (f a) (f b) else bC
 | os,bs=>Jj f a os bs) else Jj f a os bs
theorem Jm{c:Ct}{k:Nat}(G:Good c k X){f:Expr->GE}(h:∀e,JE X e (f e))(a:Expr)(os:List CmpOp)(bs:List Expr)(pos:Pos):JE X (.Compare a os bs pos) (NH c f a os bs):=by
 unfold NH
 by_cases g:Jl c a=true
 ·rw[if_pos g]
  split
  ·rename_i b
   by_cases gm:adf .Eq b=false
   ·rw[if_pos gm];exact xw (EU G.un) (h a) (h b) gm
   ·rw[if_neg gm];exact aA
  ·rename_i b
   by_cases gm:adf .NotEq b=false
   ·rw[if_pos gm];exact xw (EV G.un) (h a) (h b) gm
   ·rw[if_neg gm];exact aA
  ·exact Fj G.un h a _ _ pos
 ·rw[if_neg g];exact Fj G.un h a os bs pos
def Fl(c:Ct)(f:Expr->GE)(a:Expr)(os:List CmpOp)(bs:List Expr):GT:=if Jl c a=true then(match os,bs with
 | [.Eq],[b]=>if adf .Eq b=false then cC (ag Bz (f a) (f b)) else jZ
 | [.NotEq],[b]=>if adf .NotEq b=false then cC (ag uE (f a) (f b)) else jZ
 | os,bs=>Jk f a os bs) else Jk f a os bs
theorem Fn{c:Ct}{k:Nat}(G:Good c k X){f:Expr->GE}(h:∀e,JE X e (f e))(a:Expr)(os:List CmpOp)(bs:List Expr)(pos:Pos):JT X (.Compare a os bs pos) (Fl c f a os bs):=by
 unfold Fl
 by_cases g:Jl c a=true
 ·rw[if_pos g]
  split
  ·rename_i b
   by_cases gm:adf .Eq b=false
   ·rw[if_pos gm];exact xx (EU G.un) (h a) (h b) gm
   ·rw[if_neg gm];exact j4
  ·rename_i b
   by_cases gm:adf .NotEq b=false
   ·rw[if_pos gm];exact xx (EV G.un) (h a) (h b) gm
   ·rw[if_neg gm];exact j4
  ·exact Ac G.un h a _ _ pos
 ·rw[if_neg g];exact Ac G.un h a os bs pos
def Jn(c:Ct):Expr->Bool
 | .Name x _=>c.w6.contains x||c.Yh.contains x
 | _=>false
def NI(c:Ct)(f:Expr->GE):Expr->Expr->GE
 | .Name x p,b=>(match BI c x with | some kvs=>if BK b=false then zJ kvs (f b) else bC | none=>if Jn c (.Name x p)=true/\BK b=false then we (f (.Name x p)) (f b) else Ji f (.Name x p) b)
 | a,b=>Ji f a b
theorem Jo{c:Ct}{k:Nat}(G:Good c k X){f:Expr->GE}(h:∀e,JE X e (f e))(a b:Expr)(pos:Pos):JE X (.Subscript a b pos) (NI c f a b):=by
 unfold NI
 split
 ·rename_i x p
  cases e:BI c x with
  | none=>
   dsimp only
   by_cases g:Jn c (.Name x p)=true/\BK b=false
   ·rw[if_pos g]
    refine IX (by have:=G.un;omega) (h _) (h b) ?_
    intro o i
    cases b<;>first | rfl | cases g.2
   ·rw[if_neg g];exact Fi h _ b pos
  | some kvs=>
   dsimp only
   by_cases g:BK b=false
   ·rw[if_pos g]
    obtain⟨g1,g2,g3⟩:=Aa G e
    refine Iy (h b) ?_ g1 g2 g3
    intro o i
    cases b<;>first | rfl | cases g
   ·rw[if_neg g];exact aA
 ·exact Fi h _ b pos
def pairsOf(f:Expr->GE):List (Option Expr)->List Expr->Option (List (GE×GE))
 | [],[]=>some []
 | some k::ks,v::vs=>(match pairsOf f ks vs with | some r=>some ((f k,f v)::r) | none=>none)
 | _,_=>none
def Rk:List (Option Expr)->Bool
 | some (.Tuple ..)::_=>true
 | _=>false
def Rl(c:Ct):List (Option Expr)->Bool
 | some (.Name x _)::_=>c.w6.contains x
 | _=>false
def Fo(b:Bool)(f:Expr->GE)(ks:List (Option Expr))(vs:List Expr):GE:=if(!ks.isEmpty&&decide (ks.length<=15))=true then(match pairsOf f ks vs with | some gs=>if b=true then bC else bC | none=>bC) else bC
theorem Ad(hu:X.A.units+1 < cLine)(b:Bool){f:Expr->GE}(h:∀e,JE X e (f e))(ks:List (Option Expr))(vs:List Expr)(pos:Pos):JE X (.Dict ks vs pos) (Fo b f ks vs):=by
 unfold Fo
 by_cases g:(!ks.isEmpty&&decide (ks.length<=15))=true
 ·rw[if_pos g]
  simp only[cQ,decide_eq_true_eq] at g
  cases e:pairsOf f ks vs with
  | none=>exact aA
  | some gs=>
   dsimp only
   by_cases t:b=true
   ·rw[if_pos t];exact aA
   ·rw[if_neg t];exact aA
 ·rw[if_neg g];exact aA
def NJ(f:Expr->GE):List Expr->GE
 | []=>bC
 | [a]=>f a
 | a::b::r=>lD (f a) (NJ f (b::r))
def U_(f:Expr->GE):List Expr->GE
 | []=>bC
 | [a]=>f a
 | a::b::r=>Qc (f a) (U_ f (b::r))
theorem Ae{f:Expr->GE}(h:∀e,JE X e (f e))(pos:Pos):∀es,JE X (.BoolOp .And es pos) (NJ f es)
 | []=>aA
 | [a]=>C7 (h a)
 | a::b::r=>Mo (h a) (Ae h pos (b::r))
theorem Fp{f:Expr->GE}(h:∀e,JE X e (f e))(pos:Pos):∀es,JE X (.BoolOp .Or es pos) (U_ f es)
 | []=>aA
 | [a]=>C7 (h a)
 | a::b::r=>Qd (h a) (Fp h pos (b::r))
def NK(f:Expr->GT):List Expr->GT
 | []=>jZ
 | [a]=>f a
 | a::b::r=>HD (f a) (NK f (b::r))
def U'(f:Expr->GT):List Expr->GT
 | []=>jZ
 | [a]=>f a
 | a::b::r=>Mk (f a) (U' f (b::r))
theorem Fq{e:Expr}:JW X e jZ:=λρ st σ H m Q S R p=>ae p
theorem Af{f:Expr->GT}(h:∀e,JT X e (f e))(pos:Pos):∀es,JW X (.BoolOp .And es pos) (NK f es)
 | []=>Fq
 | [a]=>HE (h a)
 | a::b::r=>Mm (h a) (Af h pos (b::r))
theorem Fs{f:Expr->GT}(h:∀e,JT X e (f e))(pos:Pos):∀es,JW X (.BoolOp .Or es pos) (U' f es)
 | []=>Fq
 | [a]=>Ml (h a)
 | a::b::r=>Qb (h a) (Fs h pos (b::r))
def unG(f:Expr->GE):UnaryOp->Expr->GE
 | .USub,a=>HC mK (f a)
 | .Not,a=>J5 (f a)
 | _,_=>bC
def BL(f:Expr->GE)(g:GA->GE)(es:List Expr):GE:=if es.all plain=true then g (hJ f es) else bC
def isSet:Expr->Bool
 | .Set .. =>true
 | _=>false
theorem eZ{e:Expr}{env:Env}(h:isSet e=false)(x:adb):adl e env x=pure x:=by
 cases e<;>first | rfl | cases h
def dW(c:Ct)(x:Str):Bool:=decide (x="range")&&decide (c.names.lookup x=some .globalImplicit)&&c.bl.contains x&&(match c.fns.lookup x with | some _=>false | none=>true)
theorem qM{c:Ct}{k:Nat}(G:Good c k X)(y:Str)(hy:dW c y=true):y="range"/\Gl X y/\X.mg y=none:=by
 unfold dW at hy
 simp only[cQ,decide_eq_true_eq] at hy
 refine⟨hy.1.1.1,?_,G.bl y hy.1.2⟩
 show X.env.scope.names.lookup y=_
 rw[G.sc];exact hy.1.1.2
def Ag(c:Ct)(f:Expr->GE):Expr->GI
 | .Call (.Name x p) [a] [] q=>if dW c x=true then(if plain a=true then Ij (hJ f [a]) else zr) else je (f (.Call (.Name x p) [a] [] q))
 | .Call (.Name x p) [a,b] [] q=>if dW c x=true then(if plain a=true/\plain b=true then DX (hJ f [a,b]) else zr) else je (f (.Call (.Name x p) [a,b] [] q))
 | e=>if isSet e=false then je (f e) else zr
theorem uH{c:Ct}{k:Nat}(G:Good c k X){f:Expr->GE}(h:∀e,JE X e (f e))(tg e:Expr):JI X tg e (Ag c f e):=by
 unfold Ag
 split
 ·rename_i y p a q
  by_cases g:dW c y=true
  ·rw[if_pos g]
   obtain⟨rfl,g2,g3⟩:=qM G y g
   by_cases ga:plain a=true
   ·rw[if_pos ga]
    exact QM g2 g3 (dz h [a] (by simp[ga])) (aB ga)
   ·rw[if_neg ga];exact xF
  ·rw[if_neg g];exact ux (h _)
 ·rename_i y p a b q
  by_cases g:dW c y=true
  ·rw[if_pos g]
   obtain⟨rfl,g2,g3⟩:=qM G y g
   by_cases ga:plain a=true/\plain b=true
   ·rw[if_pos ga]
    exact QN g2 g3 (dz h [a,b] (by simp[ga])) (by rw[aB ga.1,aB ga.2];rfl) (by rw[aB ga.2];rfl)
   ·rw[if_neg ga];exact xF
  ·rw[if_neg g];exact ux (h _)
 ·by_cases g:isSet e=false
  ·rw[if_pos g];exact ux (h _)
  ·rw[if_neg g];exact xF
def Va(c:Ct)(x:Str):Bool:=decide (x="enumerate")&&decide (c.names.lookup x=some .globalImplicit)&&c.bl.contains x&&(match c.fns.lookup x with | some _=>false | none=>true)
def Vb(gi:GI):Ef:=λρ st=>(gi ρ st).bind λw st1=> .ok (w.1.map λl=>(l,w.2),w.2) st1
def Ft(c:Ct)(x:Str):Bool:=decide (x="zip")&&decide (c.names.lookup x=some .globalImplicit)&&c.bl.contains x
theorem Kq{c:Ct}{k:Nat}(G:Good c k X)(x:Str)(h:Ft c x=true):x="zip"/\Gl X "zip"/\X.mg "zip"=none:=by
 unfold Ft at h
 simp only[cQ,decide_eq_true_eq] at h
 obtain⟨⟨rfl,h2⟩,h3⟩:=h
 exact⟨rfl,by show X.env.scope.names.lookup _=_;rw[G.sc];exact h2,G.bl _ h3⟩
def uI(c:Ct)(f:Expr->GE):Expr->Ef
 | .Call (.Name x p) [a,b,d] [] q=>if Ft c x=true/\[a,b,d].all plain=true then sW (hJ f [a,b,d]) else Eg
 | e=>Vb (Ag c f e)
theorem qN{c:Ct}{k:Nat}(G:Good c k X){f:Expr->GE}(h:∀e,JE X e (f e))(es:List Expr)(kt:Nat)(pt:Pos)(e:Expr):Kd X (.Tuple es kt pt) e (uI c f e):=by
 unfold uI
 split
 ·rename_i y p a b d q
  by_cases g:Ft c y=true/\[a,b,d].all plain=true
  ·rw[if_pos g]
   obtain⟨g1,g2⟩:=g
   obtain⟨rfl,g3,g4⟩:=Kq G y g1
   have gp:plain a=true/\[b,d].all plain=true:=by rw[eP,cQ] at g2;exact g2
   exact IT g3 g4 (dz h [a,b,d] g2) (aB gp.1) (dy gp.2)
  ·rw[if_neg g];exact IE
 ·exact Na (uH G h _ _)
def Kr(c:Ct):Expr->Bool
 | .Call (.Name x _) [_] [] _=>Va c x
 | _=>false
def nW:List Expr->Option (List Str)
 | []=>some []
 | .Name x _::r=>(nW r).map (x::·)
 | _=>none
theorem tm:∀{es:List Expr}{xs:List Str},nW es=some xs->eW es xs
 | [],xs,h=>by cases h;exact .nil
 | e::r,xs,h=>by
  cases e with
  | Name x p=>
   unfold nW at h
   cases e1:nW r with
   | none=>rw[e1] at h;cases h
   | some ys=>
    rw[e1] at h
    cases h
    exact .cons (tm e1)
  | _=>cases h
def lF(c:Ct):List (Str×ac8)->Option dN
 | []=>some []
 | (n,.free)::r=>if c.names.lookup n=some .cell\/c.names.lookup n=some .free then(match j9 n c.N,lF c r with | some i,some l=>some ((n,i)::l) | _,_=>none) else none
 | _::r=>lF c r
theorem qO{c:Ct}:∀{ns:List (Str×ac8)}{cs:dN},lF c ns=some cs->(∀y∈ns,y.2= .free->c.names.lookup y.1=some .cell\/c.names.lookup y.1=some .free)/\∀p∈cs,(p.1,du)∈ns/\c.N[p.2]? =some p.1
 | [],cs,h=>by cases h;exact⟨(λ_ z=>by cases z),(λ_ z=>by cases z)⟩
 | (n,k)::r,cs,h=>by
  unfold lF at h
  split at h
  ·cases ‹_::_=[]›
  ·rename_i n' r' he
   cases he
   by_cases g:c.names.lookup n=some .cell\/c.names.lookup n=some .free
   ·rw[if_pos g] at h
    cases e1:j9 n c.N with
    | none=>rw[e1] at h;cases h
    | some i=>
     cases e2:lF c r with
     | none=>rw[e1,e2] at h;cases h
     | some l=>
      rw[e1,e2] at h
      cases h
      obtain⟨q1,q2⟩:=qO e2
      refine⟨λy hy e=>?_,λp hp=>?_⟩
      ·rcases List.mem_cons.mp hy with z | z
       ·subst z;exact g
       ·exact q1 y z e
      ·rcases List.mem_cons.mp hp with z | z
       ·subst z;exact⟨bu,fS e1⟩
       ·exact⟨aN _ (q2 p z).1,(q2 p z).2⟩
   ·rw[if_neg g] at h;cases h
  ·rename_i kk r' hk he
   cases he
   obtain⟨q1,q2⟩:=qO h
   refine⟨λy hy e=>?_,λp hp=>⟨aN _ (q2 p hp).1,(q2 p hp).2⟩⟩
   rcases List.mem_cons.mp hy with z | z
   ·subst z
    have e':k= .free:=e
    subst e'
    exact(hk n rfl).elim
   ·exact q1 y z e
def nX(c:Ct)(ns:List (Str×ac8)):List (Str×ac8):=ns.map λ(n,k)=>if(k == .free&&c.names.lookup n == some .cell) then(n,.cell) else(n,k)
def Kt:ScopeKind->Bool
 | .function=>true
 | _=>false
def dX(scope:Scope)(x:Str):Bool:=Kt scope.kind&&scope.names.all (λy=>decide (scope.names.lookup y.1=some y.2))&&scope.names.all (λy=>decide (y.2≠.cell))&&decide (scope.names.lookup x=some .local)
def Ct.block(c:Ct)(scope:Scope)(x:Str)(cs:dN):Ct:={ c with N:=x::cs.map (·.1),names:=nX c scope.names,loop:=false,top:=false }
def Ah(c:Ct)(sub:Ct->(Expr->GE)×(Expr->GT))(f:Expr->GE)(elt:Expr)(x:Str)(iter:Expr)(yb:Ct->GT)(scope:Scope):GE :=
 if dX scope x=true/\c.free=true/\isSet iter=false then(match lF c scope.names with
  | some cs=>if(x::cs.map (·.1)).Nodup then j7 cs (Ag c f iter) (yb (c.block scope x cs)) ((sub (c.block scope x cs)).1 elt) else bC
  | none=>bC) else bC
def Ct.qP(c:Ct)(scope:Scope)(xs:List Str)(cs:dN):Ct:={ c with N:=xs++cs.map (·.1),names:=nX c scope.names,loop:=false,top:=false }
def uJ(c:Ct)(sub:Ct->(Expr->GE)×(Expr->GT))(f:Expr->GE)(elt:Expr)(es:List Expr)(iter:Expr)(yb:Ct->GT)(scope:Scope):GE:=match nW es with
 | some (x::xr)=>if(x::xr).all (dX scope)=true/\c.free=true/\isSet iter=false then(match lF c scope.names with
  | some cs=>if((x::xr)++cs.map (·.1)).Nodup then lT (x::xr).length cs (uI c f iter) (yb (c.qP scope (x::xr) cs)) ((sub (c.qP scope (x::xr) cs)).1 elt) else bC
  | none=>bC) else bC
 | _=>bC
def SY(c:Ct)(sub:Ct->(Expr->GE)×(Expr->GT))(f:Expr->GE)(elt:Expr)(scope:Scope):List Comprehension->GE
 | [⟨.Name x _,iter,[],0⟩]=>Ah c sub f elt x iter (λ_=>λ_ st=> .ok true st) scope
 | [⟨.Tuple es _ _,iter,[],0⟩]=>uJ c sub f elt es iter (λ_=>λ_ st=> .ok true st) scope
 | _=>bC
theorem qQ{c:Ct}{k:Nat}(G:Good c k X){scope:Scope}{x:Str}{cs:dN}(hs:dX scope x=true)(nd:(x::cs.map (·.1)).Nodup)(C:ac5)(s0:ada)(H0:Hp)(fp:List ac5)(pn:List (ac5×Obj))(E:adb->ada->Prop)(hA:Bh X.A H0) :
  Good (c.block scope x cs) k (fR X scope x cs C s0 H0 fp pn E):=by
 unfold dX at hs
 simp only[cQ,decide_eq_true_eq] at hs
 have hk:scope.kind= .function:=by
  have:=hs.1.1.1
  revert this
  cases scope.kind<;>intro z<;>first | rfl | cases z
 refine⟨rfl,?_,nd,G.un,G.free,(λz=>by cases z),G.cst,G.bl,G.fns,(λz=>by cases z),(λz=>by cases z),hk,G.tab,G.cls,G.xZ,G.x8,⟨G.rm.d,G.rm.u⟩,G.Cf,⟨G.x.lam,G.x.vi,G.x.Kp,(λz=>by cases z)⟩,G.fr,hA⟩
 show(relabel scope X.env).names=nX c scope.names
 unfold relabel nX Env.kindOf
 rw[G.kind,G.sc]
 simp
theorem oP{c:Ct}{k:Nat}(G:Good c k X){scope:Scope}{x:Str}{xr:List Str}{cs:dN}(hs:dX scope x=true)(hf:c.free=true)(nd:((x::xr)++cs.map (·.1)).Nodup)(C:ac5)(s0:ada)(H0:Hp)(fp:List ac5)(pn:List (ac5×Obj)) :
  Good (c.qP scope (x::xr) cs) k (eV X scope (x::xr) cs C s0 H0 fp pn):=by
 unfold dX at hs
 simp only[cQ,decide_eq_true_eq] at hs
 have hk:scope.kind= .function:=by
  have:=hs.1.1.1
  revert this
  cases scope.kind<;>intro z<;>first | rfl | cases z
 refine⟨rfl,?_,nd,G.un,G.free,(λz=>by cases z),G.cst,G.bl,G.fns,(λz=>by cases z),(λz=>by cases z),hk,G.tab,G.cls,G.xZ,G.x8,⟨G.rm.d,G.rm.u⟩,G.Cf,⟨G.x.lam,G.x.vi,G.x.Kp,(λz=>by cases z)⟩,G.fr,.inl (G.free hf).1.hd⟩
 show(relabel scope X.env).names=nX c scope.names
 unfold relabel nX Env.kindOf
 rw[G.kind,G.sc]
 simp
theorem wq{c:Ct}{k:Nat}(G:Good c k X){scope:Scope}{x:Str}{cs:dN}(hs:dX scope x=true)(hcs:lF c scope.names=some cs)(nd:(x::cs.map (·.1)).Nodup):eD X scope x cs:=by
 unfold dX at hs
 simp only[cQ,decide_eq_true_eq,qR] at hs
 obtain⟨⟨⟨h1,h2⟩,h3⟩,h4⟩:=hs
 have hk:scope.kind= .function:=by
  revert h1
  cases scope.kind<;>intro z<;>first | rfl | cases z
 obtain⟨q1,q2⟩:=qO hcs
 refine⟨hk,h2,h3,h4,λy hy e=>?_,λp hp=>⟨by rw[G.N];exact(q2 p hp).2,h2 _ (q2 p hp).1⟩,nd⟩
 show X.env.scope.names.lookup y.1=_\/X.env.scope.names.lookup y.1=_
 rw[G.sc];exact q1 y hy e
def Ku(X:Cx)(e:Expr)(g:GE):Prop:=∀(i:Nat)(y:Str)(py spos:Pos),X.N.Nodup->X.N[i]? =some y->Loc X.env.scope y->(X.fn y=true\/X.env.scope.names.lookup y=some .local)->JS X (.Assign [.Name y py] e spos) (aY i g)
theorem BM{i:Nat}{s:Stmt}:JS X s (aY i bC):=λρ st σ H m D S R p=>ae p
theorem dA{e:Expr}:Ku X e bC:=λi y py spos _ _ _ _=>BM
theorem Ai{c:Ct}{k:Nat}(G:Good c k X){sub:Ct->(Expr->GE)×(Expr->GT)}(hb:∀c X,Good c k X->(∀e,JE X e ((sub c).1 e))/\∀e,JT X e ((sub c).2 e)){f:Expr->GE}(h:∀e,JE X e (f e))(elt:Expr)(scope:Scope)(gens:List Comprehension)(pos:Pos) :
  JE X (.ListComp elt gens scope pos) (SY c sub f elt scope gens)/\Ku X (.ListComp elt gens scope pos) (SY c sub f elt scope gens):=by
 have core:∀(x:Str)(px:Pos)(iter:Expr)(ifs:List Expr)(yb:Ct->GT),(∀c X,Good c k X->Bi X ifs (yb c))->
   JE X (.ListComp elt [⟨.Name x px,iter,ifs,0⟩] scope pos) (Ah c sub f elt x iter yb scope)/\Ku X (.ListComp elt [⟨.Name x px,iter,ifs,0⟩] scope pos) (Ah c sub f elt x iter yb scope):=by
  intro x px iter ifs yb hg
  unfold Ah
  by_cases g:dX scope x=true/\c.free=true/\isSet iter=false
  ·rw[if_pos g]
   obtain⟨g1,g2,g3⟩:=g
   cases ec:lF c scope.names with
   | none=>exact⟨aA,dA⟩
   | some cs=>
    dsimp only
    by_cases nd:(x::cs.map (·.1)).Nodup
    ·rw[if_pos nd]
     have CS:=wq G g1 ec nd
     have hE:∀C s0 H0 fp pn E,Bh X.A H0->JE (fR X scope x cs C s0 H0 fp pn E) elt ((sub (c.block scope x cs)).1 elt):=λC s0 H0 fp pn E z=>(hb _ _ (qQ G g1 nd C s0 H0 fp pn E z)).1 elt
     have hT:∀C s0 H0 fp pn E,Bh X.A H0->Bi (fR X scope x cs C s0 H0 fp pn E) ifs (yb (c.block scope x cs)):=λC s0 H0 fp pn E z=>hg _ _ (qQ G g1 nd C s0 H0 fp pn E z)
     exact⟨zu G.fr CS (vQ (G.free g2).2) G.hd (uH G h _ iter).y hE hT (eZ g3),λi y py spos hN hi hl hf=>Ik i hN G.fr CS (vQ (G.free g2).2) G.hd (uH G h _ iter).y hE hT (eZ g3) hi hl hf⟩
    ·rw[if_neg nd];exact⟨aA,dA⟩
  ·rw[if_neg g];exact⟨aA,dA⟩
 have Rm:∀(es:List Expr)(kt:Nat)(pt:Pos)(iter:Expr)(ifs:List Expr)(yb:Ct->GT),(∀c X,Good c k X->Bi X ifs (yb c))->
   JE X (.ListComp elt [⟨.Tuple es kt pt,iter,ifs,0⟩] scope pos) (uJ c sub f elt es iter yb scope)/\Ku X (.ListComp elt [⟨.Tuple es kt pt,iter,ifs,0⟩] scope pos) (uJ c sub f elt es iter yb scope):=by
  intro es kt pt iter ifs yb hg
  unfold uJ
  cases en:nW es with
  | none=>exact⟨aA,dA⟩
  | some xs=>
   cases xs with
   | nil=>exact⟨aA,dA⟩
   | cons x xr=>
    dsimp only
    by_cases g:(x::xr).all (dX scope)=true/\c.free=true/\isSet iter=false
    ·rw[if_pos g]
     obtain⟨g1,g2,g3⟩:=g
     have gx:∀y∈x::xr,dX scope y=true:=List.all_eq_true.mp g1
     cases ec:lF c scope.names with
     | none=>exact⟨aA,dA⟩
     | some cs=>
      dsimp only
      by_cases nd:((x::xr)++cs.map (·.1)).Nodup
      ·rw[if_pos nd]
       have nd1:(x::cs.map (·.1)).Nodup:=nd.sublist (List.Sublist.cons₂ x (List.sublist_append_right xr _))
       have vr:∀y∈x::xr,scope.names.lookup y=some .local:=λy hy=>by
        have q:=gx y hy
        unfold dX at q
        simp only[cQ,decide_eq_true_eq] at q
        exact q.2
       have CS:kU X scope x xr cs:=⟨wq G (gx x bu) ec nd1,vr,nd⟩
       have sl:=tm en
       have hE:∀C s0 H0 fp pn,JE (eV X scope (x::xr) cs C s0 H0 fp pn) elt ((sub (c.qP scope (x::xr) cs)).1 elt):=λC s0 H0 fp pn=>(hb _ _ (oP G (gx x bu) g2 nd C s0 H0 fp pn)).1 elt
       have hT:∀C s0 H0 fp pn,Bi (eV X scope (x::xr) cs C s0 H0 fp pn) ifs (yb (c.qP scope (x::xr) cs)):=λC s0 H0 fp pn=>hg _ _ (oP G (gx x bu) g2 nd C s0 H0 fp pn)
       exact⟨v5 CS sl (G.free g2).2 (qN G h es kt pt iter) hE hT (eZ g3),λi y py spos hN hi hl hf=>Ej i hN CS sl (G.free g2).2 (qN G h es kt pt iter) hE hT (eZ g3) hi hl hf⟩
      ·rw[if_neg nd];exact⟨aA,dA⟩
    ·rw[if_neg g];exact⟨aA,dA⟩
 unfold SY
 split
 ·exact core _ _ _ _ _ λ_ _ _=>zp
 ·exact Rm _ _ _ _ _ _ λ_ _ _=>zp
 ·exact⟨aA,dA⟩
def uK(sc:Scope)(x1 x2 x3 y:Str):Bool:=Kt sc.kind&& !sc.isCoroutine&& !sc.isGenerator&&sc.names.all (λp=>decide (p.2≠.cell))&&decide (sc.names.lookup x1=some .local)&&decide (sc.names.lookup x2=some .local)&&decide (sc.names.lookup x3=some .local)&&decide (sc.names.lookup y=some .free)&&decide ([x1,x2,x3,y].Nodup)
theorem BN{sc:Scope}{x1 x2 x3 y:Str}(h:uK sc x1 x2 x3 y=true)(hf:freeOf sc=[y]):zM sc x1 x2 x3 y:=by
 unfold uK at h
 simp only[cQ,decide_eq_true_eq,qR,Bool.not_eq_true'] at h
 obtain⟨⟨⟨⟨⟨⟨⟨⟨h1,h2⟩,h3⟩,h4⟩,h5⟩,h6⟩,h7⟩,h8⟩,h9⟩:=h
 have hk:sc.kind= .function:=by
  revert h1
  cases sc.kind<;>intro z<;>first | rfl | cases z
 exact⟨hk,h2,h3,h4,h5,h6,h7,hf,h8,h9⟩
def Ct.Kv(c:Ct)(N:List Str)(ns:List (Str×ac8)):Ct:={ c with N:=N,names:=ns,fns:=c.fns.filter (λp=>c.GK.contains p.1),Cf:=[],loop:=false,top:=false,free:=true,vi:=[],lam:=none,w6:=[],Yh:=[],self:="" }
theorem oQ{α:Type}{l:List (Str×α)}{q:Str->Bool}{x:Str}{a:α}(h:(l.filter λp=>q p.1).lookup x=some a):l.lookup x=some a/\q x=true:=by
 induction l with
 | nil=>cases h
 | cons p l ih=>
  obtain⟨y,b⟩:=p
  rw[b_]
  by_cases hq:q y=true
  ·rw[Ew (by simpa using hq),b_] at h
   cases e:x == y with
   | true=>
    rw[e] at h
    cases h
    exact⟨rfl,by rw[eq_of_beq e];exact hq⟩
   | false=>rw[e] at h;exact ih h
  ·rw[xM (by simpa using hq)] at h
   obtain⟨h1,h2⟩:=ih h
   cases e:x == y with
   | true=>rw[eq_of_beq e] at h2;exact absurd h2 hq
   | false=>exact⟨h1,h2⟩
def NL(c:Ct)(sub:Ct->(Expr->GE)×(Expr->GT))(f:Expr->GE)(x:Str)(e:Expr)(x1 x2 x3:Str)(body:Expr)(scope:Scope):GE:=match freeOf scope,c.vi.lookup x with
 | [y],some FL=>(match j9 y c.N with
  | some iy=>if okN x=true/\plain e=true/\c.names.lookup x=some .globalImplicit/\uK scope x1 x2 x3 y=true/\c.names.lookup y=some .cell/\c.top=true/\c.free=true/\a_.contains c.self=true then xO FL iy (f e) ((sub (c.Kv [x1,x2,x3,y] scope.names)).1 body) else bC
  | none=>bC)
 | _,_=>bC
theorem Jp{c:Ct}{k:Nat}(G:Good c k X){sub:Ct->(Expr->GE)×(Expr->GT)}(hb:∀k c X,Good c k X->(∀e,JE X e ((sub c).1 e))/\∀e,JT X e ((sub c).2 e)){f:Expr->GE}(h:∀e,JE X e (f e))(x:Str)(e:Expr)(x1 x2 x3:Str)(a1 a2 a3:Option Expr)(q1 q2 q3:Pos)(body:Expr)(scope:Scope)(p lz pos:Pos) :
  JE X (.Call (.Name x p) [e,.Lambda (jg x1 x2 x3 a1 a2 a3 q1 q2 q3) body scope lz] [] pos) (NL c sub f x e x1 x2 x3 body scope):=by
 unfold NL
 cases ef:freeOf scope with
 | nil=>exact aA
 | cons y r=>
  cases r with
  | cons z r=>exact aA
  | nil=>
   cases el:c.vi.lookup x with
   | none=>exact aA
   | some FL=>
    cases ei:j9 y c.N with
    | none=>dsimp only;rw[ei];exact aA
    | some iy=>
     dsimp only
     rw[ei]
     dsimp only
     by_cases g:okN x=true/\plain e=true/\c.names.lookup x=some .globalImplicit/\uK scope x1 x2 x3 y=true/\c.names.lookup y=some .cell/\c.top=true/\c.free=true/\a_.contains c.self=true
     ·rw[if_pos g]
      obtain⟨g1,g2,g3,g4,g5,g6,g7,g8⟩:=g
      have S:=BN g4 ef
      have hg:Gl X x:=by
       show X.env.scope.names.lookup x=_
       rw[G.sc];exact g3
      obtain⟨P,D⟩:=G.x.at' g6 (by simpa using g8)
      refine Ng (j:=c.lj) (P:=P) (G.x.vi x FL el) (G.free g7).1 hg (f7 g1) (h e) D S (by rw[G.N];exact fS ei) (.inl (by rw[G.sc];exact g5)) (G.fn g6 y) (λbase pl cy A outer s H E M hr=>?_) (λr=>aB g2)
      refine(hb c.lj (c.Kv [x1,x2,x3,y] scope.names) (GH X.prog X.w X.K X.mg base [x1,x2,x3,y] pl scope [(y,cy)] A outer s H E) ⟨rfl,rfl,S.nd,uF hr,λ_=>⟨hr,rfl⟩,(λz=>by cases z),G.cst,G.bl,λx n F h=>?_,(λz=>by cases z),(λz=>by cases z),S.kind,G.tab,G.cls,G.xZ,G.x8,qB.of hr,(λx n F h=>by cases h),⟨(λp L z=>by cases z),(λx F z=>by cases z),λx n F h hx=>?_,(λz=>by cases z)⟩,⟨_,_,_,rfl,rfl,rfl⟩,.inl hr.hd⟩).1 body
      ·obtain⟨h1,h2⟩:=oQ (q:=λn=>c.GK.contains n) h
       exact G.x.Kp x n F h1 h2 base M
      ·obtain⟨h1,h2⟩:=oQ (q:=λn=>c.GK.contains n) h
       exact G.x.Kp x n F h1 h2
     ·rw[if_neg g];exact aA
def NM:Expr->Option (Str×Str×Str×Expr×Scope)
 | .Lambda a b s _=>if(a.posonlyargs.isEmpty&&a.vararg.isNone&&a.kwonlyargs.isEmpty&&a.kw_defaults.isEmpty&&a.kwarg.isNone&&a.defaults.isEmpty)=true then(match a.args with | [u,v,w]=>some (u.arg,v.arg,w.arg,b,s) | _=>none) else none
 | _=>none
theorem Jq{e:Expr}{x1 x2 x3:Str}{b:Expr}{s:Scope}(h:NM e=some (x1,x2,x3,b,s)):∃a1 a2 a3 q1 q2 q3 p,e= .Lambda (jg x1 x2 x3 a1 a2 a3 q1 q2 q3) b s p:=by
 cases e with
 | Lambda a b' s' p=>
  obtain⟨po,ar,va,ko,kd,kw,df⟩:=a
  cases po with
  | cons _ _=>cases h
  | nil=>cases va with
   | some _=>cases h
   | none=>cases ko with
    | cons _ _=>cases h
    | nil=>cases kd with
     | cons _ _=>cases h
     | nil=>cases kw with
      | some _=>cases h
      | none=>cases df with
       | cons _ _=>cases h
       | nil=>
        rcases ar with _ | ⟨⟨y1,a1,q1⟩,_ | ⟨⟨y2,a2,q2⟩,_ | ⟨⟨y3,a3,q3⟩,_ | ⟨_,_⟩⟩⟩⟩<;>cases h
        exact⟨a1,a2,a3,q1,q2,q3,p,rfl⟩
 | _=>cases h
def yc(c:Ct)(sub:Ct->(Expr->GE)×(Expr->GT))(fE:Expr->GE)(pos:Pos)(f:Expr)(as:List Expr)(ks:List Keyword):GE:=match as with
 | [e,l]=>(match NM l with
  | some (x1,x2,x3,body,scope)=>(match f with
   | .Name x _=>(match ks with
    | []=>NL c sub fE x e x1 x2 x3 body scope
    | _::_=>s_ c fE pos f [e,l] ks)
   | _=>s_ c fE pos f [e,l] ks)
  | none=>s_ c fE pos f [e,l] ks)
 | _=>s_ c fE pos f as ks
theorem BO{c:Ct}{k:Nat}(G:Good c k X){sub:Ct->(Expr->GE)×(Expr->GT)}(hb:∀k c X,Good c k X->(∀e,JE X e ((sub c).1 e))/\∀e,JT X e ((sub c).2 e)){fE:Expr->GE}(h:∀e,JE X e (fE e))(f:Expr)(as:List Expr)(ks:List Keyword)(pos:Pos):JE X (.Call f as ks pos) (yc c sub fE pos f as ks):=by
 have d:=Fg G h f as ks pos
 rcases as with _ | ⟨e,_ | ⟨l,_ | ⟨l2,r⟩⟩⟩
 ·exact d
 ·exact d
 ·unfold yc
  dsimp only
  cases hl:NM l with
  | none=>exact d
  | some q=>
   obtain⟨x1,x2,x3,b,s⟩:=q
   obtain⟨a1,a2,a3,q1,q2,q3,p,rfl⟩:=Jq hl
   dsimp only
   cases f with
   | Name x px=>
    cases ks with
    | nil=>exact Jp G hb h _ _ _ _ _ _ _ _ _ _ _ _ _ _ _ _
    | cons _ _=>exact d
   | _=>exact d
 ·exact d
def wt(c:Ct)(sub:Ct->(Expr->GE)×(Expr->GT))(f:Expr->GE)(t:Expr->GT):Expr->GE
 | .Name x _=>E7 c x
 | .Constant k _ _=>E9 k
 | .BinOp a o b _=>ag (Rj o) (f a) (f b)
 | .UnaryOp o a _=>unG f o a
 | .BoolOp .And es _=>NJ f es
 | .BoolOp .Or es _=>U_ f es
 | .Compare a os bs _=>NH c f a os bs
 | .IfExp q a b _=>vH (t q) (f a) (f b)
 | .Tuple es _ _=>BL f cA es
 | .List es _=>BL f jV es
 | .Subscript a b _=>NI c f a b
 | .Dict [] [] _=>Kc
 | .Dict ks vs _=>Fo (Rk ks||Rl c ks) f ks vs
 | .Call g as ks p=>yc c sub f p g as ks
 | .ListComp elt gens scope _=>SY c sub f elt scope gens
 | _=>bC
def stepT(c:Ct)(f:Expr->GE)(t:Expr->GT):Expr->GT
 | .UnaryOp .Not a _=>ud (t a)
 | .BoolOp .And es _=>NK t es
 | .BoolOp .Or es _=>U' t es
 | .Compare a os bs _=>Fl c f a os bs
 | .Name x p=>jO (f (.Name x p))
 | .Call g as ks p=>jO (f (.Call g as ks p))
 | .Subscript a b p=>jO (f (.Subscript a b p))
 | .Constant k j p=>jO (f (.Constant k j p))
 | .BinOp a o b p=>jO (f (.BinOp a o b p))
 | _=>jZ
theorem wu{c:Ct}{k:Nat}(G:Good c k X){sub:Ct->(Expr->GE)×(Expr->GT)}(hb:∀k c X,Good c k X->(∀e,JE X e ((sub c).1 e))/\∀e,JT X e ((sub c).2 e)){f:Expr->GE}{t:Expr->GT}(h:∀e,JE X e (f e))(ht:∀e,JT X e (t e))(e:Expr):JE X e (wt c sub f t e):=by
 have hu:X.A.units+64 < cLine:=G.un
 cases e with
 | Name x p=>exact E8 G x p
 | Constant v j p=>exact BD v j p
 | BinOp a o b p=>exact Mi (Jh o) (h a) (h b)
 | UnaryOp o a p=>
  cases o with
  | USub=>exact Mj (h a)
  | Not=>exact Mq (h a)
  | _=>exact aA
 | BoolOp o es p=>
  cases o with
  | And=>exact Ae h p es
  | Or=>exact Fp h p es
 | Compare a os bs p=>exact Jm G h a os bs p
 | IfExp q a b p=>exact Qe (ht q) (h a) (h b)
 | Tuple es j p=>
  show JE X _ (BL f cA es)
  unfold BL
  by_cases g:es.all plain=true
  ·rw[if_pos g];exact Mr (dz h es g)
  ·rw[if_neg g];exact aA
 | List es p=>
  show JE X _ (BL f jV es)
  unfold BL
  by_cases g:es.all plain=true
  ·rw[if_pos g];exact Ms (dz h es g)
  ·rw[if_neg g];exact aA
 | Subscript a b p=>exact Jo G h a b p
 | Dict ks vs p=>
  cases ks with
  | cons k ks=>exact Ad (by have:=G.un;omega) _ h (k::ks) vs p
  | nil=>
   cases vs with
   | nil=>exact IA
   | cons v vs=>exact Ad (by have:=G.un;omega) (Rk []||Rl c []) h [] (v::vs) p
 | Call g as ks p=>exact BO G hb h g as ks p
 | ListComp elt gens scope p=>exact(Ai G (hb k) h elt scope gens p).1
 | _=>exact aA
def BP:Expr->Bool
 | .ListComp .. =>true
 | .SetComp .. =>true
 | .DictComp .. =>true
 | .Set .. =>true
 | _=>false
theorem pO{e:Expr}{t:Option Expr}{n:Nat}{env:Env}(h:BP e=false):swapsWith e t n env=pure false:=by
 cases e<;>first | rfl | cases h
theorem Fv{c:Ct}{k:Nat}(G:Good c k X){sub:Ct->(Expr->GE)×(Expr->GT)}(hb:∀k c X,Good c k X->(∀e,JE X e ((sub c).1 e))/\∀e,JT X e ((sub c).2 e)){f:Expr->GE}{t:Expr->GT}(h:∀e,JE X e (f e))(ht:∀e,JT X e (t e))(e:Expr):Ku X e (wt c sub f t e):=by
 by_cases g:BP e=false
 ·exact λi y py spos hN hi hl hf=>uj i hN (wu G hb h ht e) hi hl (pO g) hf
 ·cases e with
  | ListComp elt gens scope p=>exact(Ai G (hb k) h elt scope gens p).2
  | SetComp=>exact dA
  | DictComp=>exact dA
  | Set=>exact dA
  | _=>exact absurd rfl g
theorem Fw{c:Ct}{k:Nat}(G:Good c k X){f:Expr->GE}{t:Expr->GT}(h:∀e,JE X e (f e))(ht:∀e,JT X e (t e))(e:Expr):JT X e (stepT c f t e):=by
 have hu:X.A.units+64 < cLine:=G.un
 cases e with
 | UnaryOp o a p=>
  cases o with
  | Not=>exact Mn (ht a)
  | _=>exact j4
 | BoolOp o es p=>
  cases o with
  | And=>exact(Af ht p es).jt
  | Or=>exact(Fs ht p es).jt
 | Compare a os bs p=>exact Fn G h a os bs p
 | Name x p=>exact qm (h _) (λ_=>rfl)
 | Call g as ks p=>exact qm (h _) (λ_=>rfl)
 | Subscript a b p=>exact qm (h _) (λ_=>rfl)
 | Constant v j p=>exact qm (h _) (λ_=>rfl)
 | BinOp a o b p=>exact qm (h _) (λ_=>rfl)
 | _=>exact j4
end
def lG:Nat->Ct->(Expr->GE)×(Expr->GT)
 | 0,_=>(λ_=>bC,λ_=>jZ)
 | n+1,c=>(wt c (lG n) (lG n c).1 (lG n c).2,stepT c (lG n c).1 (lG n c).2)
section
variable {X:Cx}
theorem dO:∀(n:Nat)(k:Nat)(c:Ct)(X:Cx),Good c k X->(∀e,JE X e ((lG n c).1 e))/\∀e,JT X e ((lG n c).2 e)
 | 0,_,_,_,_=>⟨λ_=>aA,λ_=>j4⟩
 | n+1,k,c,X,G=>⟨λe=>wu G (λk c X G=>dO n k c X G) (dO n k c X G).1 (dO n k c X G).2 e,λe=>Fw G (dO n k c X G).1 (dO n k c X G).2 e⟩
theorem Fx{k:Nat}:∀(n:Nat)(c:Ct)(X:Cx),Good c k X->∀e,Ku X e ((lG n c).1 e)
 | 0,_,_,_,_=>dA
 | n+1,c,X,G,e=>Fv G (λk c X G=>dO n k c X G) (dO n k c X G).1 (dO n k c X G).2 e
def slot(c:Ct)(x:Str):Option Nat:=if c.names.lookup x=some .local\/(c.names.lookup x=some .cell/\c.top=true) then j9 x c.N else none
theorem uL{c:Ct}{k:Nat}(G:Good c k X){x:Str}{i:Nat}(h:slot c x=some i):X.N[i]? =some x/\(Loc X.env.scope x/\(X.fn x=true\/X.env.scope.names.lookup x=some .local)):=by
 unfold slot at h
 by_cases e:c.names.lookup x=some .local\/(c.names.lookup x=some .cell/\c.top=true)
 ·rw[if_pos e] at h
  refine⟨by rw[G.N];exact fS h,?_⟩
  rcases e with e | ⟨e,e2⟩
  ·have q:X.env.scope.names.lookup x=some .local:=by rw[G.sc];exact e
   exact⟨.inl q,.inr q⟩
  ·have q:X.env.scope.names.lookup x=some .cell:=by rw[G.sc];exact e
   exact⟨.inr q,.inl (G.fn e2 x)⟩
 ·rw[if_neg e] at h;cases h
def slots(c:Ct):List Expr->Option (List Nat)
 | []=>some []
 | .Name x _::es=>(match slot c x,slots c es with | some i,some is=>some (i::is) | _,_=>none)
 | _=>none
theorem m7{c:Ct}{k:Nat}(G:Good c k X):∀{es:List Expr}{is:List Nat},slots c es=some is->Slots X es is
 | [],is,h=>by cases h;exact .nil
 | e::es,is,h=>by
  cases e with
  | Name x p=>
   have h:(match slot c x,slots c es with | some i,some is=>some (i::is) | _,_=>none)=some is:=h
   cases e1:slot c x with
   | none=>rw[e1] at h;cases h
   | some i=>
    cases e2:slots c es with
    | none=>rw[e1,e2] at h;cases h
    | some js=>
     rw[e1,e2] at h
     cases h
     obtain⟨q1,q2⟩:=uL G e1
     exact .cons q1 q2 (m7 G e2)
  | _=>cases h
def NN:Expr->Bool
 | .Dict [] [] _=>true
 | _=>false
def NO(c:Ct)(f:Expr->GE)(v:Expr):List Expr->GS
 | [.Name x _]=>(match slot c x with | some i=>if NN v=true/\c.w6.contains x=true then aY i oK else aY i (f v) | none=>cK)
 | [.Subscript o i _]=>if BP v=false/\BK i=false then(if Jn c o=true then mW (f v) (f o) (f i) else zf (f v) (f o) (f i)) else cK
 | _=>cK
theorem NP{c:Ct}{k:Nat}(G:Good c k X){f:Expr->GE}(h:∀e,JE X e (f e))(ha:∀e,Ku X e (f e))(v:Expr)(ts:List Expr)(pos:Pos):JS X (.Assign ts v pos) (NO c f v ts):=by
 unfold NO
 split
 ·rename_i x p
  cases e:slot c x with
  | none=>exact bV
  | some i=>
   obtain⟨e1,e2⟩:=uL G e
   dsimp only
   by_cases g:NN v=true/\c.w6.contains x=true
   ·rw[if_pos g]
    have gv:=g.1
    unfold NN at gv
    split at gv
    ·exact uj i (by rw[G.N];exact G.nd) Iz e1 e2.1 rfl e2.2
    ·cases gv
   ·rw[if_neg g];exact ha v i x _ _ (by rw[G.N];exact G.nd) e1 e2.1 e2.2
 ·rename_i o i p
  by_cases g:BP v=false/\BK i=false
  ·rw[if_pos g]
   have g2:=g.2
   by_cases gd:Jn c o=true
   ·rw[if_pos gd];exact IC (by have:=G.un;omega) (h v) (h o) (h i) (pO g.1)
   rw[if_neg gd]
   refine HX (h v) (h o) (h i) (by unfold swapsWithSole;exact pO g.1) ?_ rfl ?_
   ·cases v<;>rfl
   ·intro _
    cases i<;>first | rfl | cases g2
  ·rw[if_neg g];exact bV
 ·exact bV
def NQ(c:Ct)(f:Expr->GE)(i:Nat)(gb:GS):Expr->GS
 | .Call (.Name x p) [a] [] q=>if dW c x=true then(if plain a=true then iB i (hJ f [a]) gb else cK) else DC i (f (.Call (.Name x p) [a] [] q)) gb
 | .Call (.Name x p) [a,b] [] q=>if dW c x=true then(if plain a=true/\plain b=true then um i (hJ f [a,b]) gb else cK) else DC i (f (.Call (.Name x p) [a,b] [] q)) gb
 | .Call (.Name x p) [a,b,d] [] q=>if dW c x=true then(if[a,b,d].all plain=true then qI i (hJ f [a,b,d]) gb else cK) else DC i (f (.Call (.Name x p) [a,b,d] [] q)) gb
 | e=>if isSet e=false then DC i (f e) gb else cK
theorem NR{c:Ct}{k:Nat}(G:Good c k X)(hl:c.loop=true){f:Expr->GE}(h:∀e,JE X e (f e)){x:Str}{i:Nat}(hx:slot c x=some i){body:List Stmt}{gb:GS}(hb:nz X body gb)(e:Expr)(pos pos':Pos):JS X (.For (.Name x pos') e body [] pos) (NQ c f i gb e):=by
 have nd:X.N.Nodup:=by rw[G.N];exact G.nd
 obtain⟨e1,e2⟩:=uL G hx
 have rg:=qM G
 unfold NQ
 split
 ·rename_i y p a q
  by_cases g:dW c y=true
  ·rw[if_pos g]
   obtain⟨rfl,g2,g3⟩:=rg y g
   by_cases ga:plain a=true
   ·rw[if_pos ga]
    exact DE i nd (G.loop hl).2 (G.loop hl).1 g2 g3 (dz h [a] (by simp[ga])) hb e1 e2.1 e2.2 (aB ga)
   ·rw[if_neg ga];exact bV
  ·rw[if_neg g];exact uk i nd (G.loop hl).2 (G.loop hl).1 (h _) hb e1 e2.1 e2.2 (eZ rfl)
 ·rename_i y p a b q
  by_cases g:dW c y=true
  ·rw[if_pos g]
   obtain⟨rfl,g2,g3⟩:=rg y g
   by_cases ga:plain a=true/\plain b=true
   ·rw[if_pos ga]
    exact DF i nd (G.loop hl).2 (G.loop hl).1 g2 g3 (dz h [a,b] (by simp[ga])) hb e1 e2.1 e2.2 (by rw[aB ga.1,aB ga.2];rfl) (by rw[aB ga.2];rfl)
   ·rw[if_neg ga];exact bV
  ·rw[if_neg g];exact uk i nd (G.loop hl).2 (G.loop hl).1 (h _) hb e1 e2.1 e2.2 (eZ rfl)
 ·rename_i y p a b d q
  by_cases g:dW c y=true
  ·rw[if_pos g]
   obtain⟨rfl,g2,g3⟩:=rg y g
   by_cases ga:[a,b,d].all plain=true
   ·rw[if_pos ga]
    have gp:plain a=true/\[b,d].all plain=true:=by rw[eP,cQ] at ga;exact ga
    exact EI i nd (G.loop hl).2 (G.loop hl).1 g2 g3 (dz h [a,b,d] ga) hb e1 e2.1 e2.2 (aB gp.1) (dy gp.2)
   ·rw[if_neg ga];exact bV
  ·rw[if_neg g];exact uk i nd (G.loop hl).2 (G.loop hl).1 (h _) hb e1 e2.1 e2.2 (eZ rfl)
 ·by_cases g:isSet e=false
  ·rw[if_pos g];exact uk i nd (G.loop hl).2 (G.loop hl).1 (h _) hb e1 e2.1 e2.2 (eZ g)
  ·rw[if_neg g];exact bV
def yd(c:Ct)(f:Expr->GE):Expr->GS
 | .Call (.Name x _) (e::es) [] _=>if okN x=true/\(e::es).all plain=true/\c.names.lookup x=some .globalImplicit/\c.clss.contains x=true/\c.free=true then nO x (hJ f (e::es)) else cK
 | _=>cK
theorem Fy{c:Ct}{k:Nat}(G:Good c k X){f:Expr->GE}(h:∀e,JE X e (f e))(e:Expr)(pos:Pos):JS X (.Raise (some e) none pos) (yd c f e):=by
 unfold yd
 split
 ·rename_i x p e es q
  by_cases g:okN x=true/\(e::es).all plain=true/\c.names.lookup x=some .globalImplicit/\c.clss.contains x=true/\c.free=true
  ·rw[if_pos g]
   obtain⟨g1,g2,g3,g4,g5⟩:=g
   have hg:Gl X x:=by
    show X.env.scope.names.lookup x=_
    rw[G.sc];exact g3
   have gp:plain e=true/\es.all plain=true:=by rw[eP,cQ] at g2;exact g2
   obtain⟨C,q1,q2⟩:=G.cls x g4
   exact DH (G.free g5).2 q2 hg q1 (dz h (e::es) g2) (f7 g1) (aB gp.1) (dy gp.2)
  ·rw[if_neg g];exact bV
 ·exact bV
def Jr(c:Ct):Expr->Bool
 | .Call (.Name x _) [a,b] [] _=>Ft c x&&[a,b].all plain
 | _=>false
def Kw(f:Expr->GE)(is:List Nat)(gb:GS):Expr->GS
 | .Call (.Name _ _) [a,b] [] _=>zZ is (hJ f [a,b]) gb
 | _=>cK
theorem Rp{c:Ct}{k:Nat}(G:Good c k X)(gl:c.loop=true){f:Expr->GE}(h:∀e,JE X e (f e)){es:List Expr}{is:List Nat}(e1:slots c es=some is){body:List Stmt}{gb:GS}(hb:nz X body gb)(e:Expr)(hs:∀x,adl e X.env x=pure x)(g:Jr c e=true){kk:Nat}{p q:Pos}:JS X (.For (.Tuple es kk p) e body [] q) (Kw f is gb e):=by
 unfold Jr at g
 split at g
 ·rename_i x p1 a b cpos
  rw[cQ] at g
  obtain⟨g1,g2⟩:=g
  obtain⟨rfl,g3,g4⟩:=Kq G x g1
  have gp:plain a=true/\[b].all plain=true:=by rw[eP,cQ] at g2;exact g2
  exact Je (by rw[G.N];exact G.nd) (G.loop gl).2 (G.loop gl).1 (m7 G e1) g3 g4 (dz h [a,b] g2) (aB gp.1) (dy gp.2) hb hs
 ·cases g
def Fz(c:Ct)(f:Expr->GE)(t:Expr->GT)(b:Ct->List Stmt->GS):Stmt->GS
 | .Return (some e) _=>aP (f e)
 | .Return none _=>aP (gC .bz)
 | .Expr e _=>if BP e=false then sL (f e) else cK
 | .If q x y _=>jJ (t q) (b c x) (b c y)
 | .Assign ts v _=>NO c f v ts
 | .For (.Name x _) e body [] _=>if c.loop=true then(match slot c x with | some i=>NQ c f i (b c body) e | none=>cK) else cK
 | .For (.Tuple es _ _) e body [] _=>if c.loop=true/\isSet e=false then(match slots c es with | some is=>(if Jr c e=true then Kw f is (b c body) e else if Kr c e=true then Ke is (uI c f e) (b c body) else Kb is (f e) (b c body)) | none=>cK) else cK
 | .Raise (some e) none _=>yd c f e
 | .Pass _=>bt
 | _=>cK
theorem FA{c:Ct}{k:Nat}(G:Good c k X){f:Expr->GE}{t:Expr->GT}{b:Ct->List Stmt->GS}(h:∀e,JE X e (f e))(ha:∀e,Ku X e (f e))(ht:∀e,JT X e (t e))(hb:∀c X,Good c k X->∀s,nz X s (b c s))(s:Stmt):JS X s (Fz c f t b s):=by
 unfold Fz
 split
 ·exact MD (h _)
 ·exact Ib
 ·rename_i e p
  by_cases g:BP e=false
  ·rw[if_pos g];exact HW (h _) (pO g)
  ·rw[if_neg g];exact bV
 ·exact Qu (ht _) (hb c X G _) (hb c X G _)
 ·exact NP G h ha _ _ _
 ·rename_i x p e body q
  by_cases g:c.loop=true
  ·rw[if_pos g]
   cases e1:slot c x with
   | none=>exact bV
   | some i=>exact NR G g h e1 (hb c X G body) e _ _
  ·rw[if_neg g];exact bV
 ·rename_i es kk p e body q
  by_cases g:c.loop=true/\isSet e=false
  ·rw[if_pos g]
   cases e1:slots c es with
   | none=>exact bV
   | some is=>
    dsimp only
    by_cases gz:Jr c e=true
    ·rw[if_pos gz];exact Rp G g.1 h e1 (hb c X G body) e (eZ g.2) gz
    rw[if_neg gz]
    by_cases ge:Kr c e=true
    ·rw[if_pos ge];exact IF (by rw[G.N];exact G.nd) (G.loop g.1).2 (G.loop g.1).1 (m7 G e1) (qN G h es kk p e) (hb c X G body) (eZ g.2)
    ·rw[if_neg ge]
     exact Ig (by rw[G.N];exact G.nd) (G.loop g.1).2 (G.loop g.1).1 (m7 G e1) (h e) (hb c X G body) (eZ g.2)
  ·rw[if_neg g];exact bV
 ·exact Fy G h _ _
 ·exact HV
 ·exact bV
end
def ye(f:Stmt->GS):List Stmt->GS
 | []=>bt
 | [s]=>f s
 | s::s'::r=>aD (f s) (ye f (s'::r))
theorem wx{X:Cx}{f:Stmt->GS}(h:∀s,JS X s (f s)):∀ss,nz X ss (ye f ss)
 | []=>HS
 | [s]=>HU (h s)
 | s::s'::r=>Dk (h s) (wx h (s'::r))
def aX:Nat->Ct->List Stmt->GS
 | 0,_=>λ_=>cK
 | n+1,c=>ye (Fz c (lG 40 c).1 (lG 40 c).2 (aX n))
theorem qS{k:Nat}:∀(n:Nat)(c:Ct)(X:Cx),Good c k X->∀ss:List Stmt,nz X ss (aX n c ss)
 | 0,_,_,_,_=>Bc
 | n+1,c,X,G,ss=>wx (λs=>FA G (dO 40 k c X G).1 (Fx 40 c X G) (dO 40 k c X G).2 (qS n) s) ss
structure wA(K:PySem.W.Frag)(mg:Str->Option adb)(q:Str)(P:ac5):Prop where
 tab:bD K q=some P
 code:∃c o vs file tf flags tg OZ text tt,PySem.W.tabIn K q=some (c,P)/\K.lookup c=some o/\o.cls= .type "code"/\o.data= .fields vs/\vs[11]? =some (.ref P)/\vs.getD 11 .none= .ref P/\vs.getD 18 .none= .str file tf/\
  vs.getD 7 .none= .int flags tg/\vs.getD 9 .none= .bool OZ/\vs.getD 10 .none= .int text tt/\c≠P
 mem:q∈a_
 uniq:∀q',q'∈a_->bD K q'=some P->q'=q
theorem wA.at'{X:Cx}{q:Str}{P f:ac5}{cdv:adb}(h:wA X.K X.mg q P)(M:jP X.K X.mg X.base)(hn:PySem.W.nsIn X.K adn q=some (some (.ref f)))(hc:Dt X.K f cdv)(e1:X.env.code=cdv)(e2:X.env.qual=q++".<locals>."):zN X q P:=by
 obtain⟨c,o,vs,file,tf,flags,tg,OZ,text,tt,t,l,r⟩:=h.code
 refine⟨⟨c,?_,o,vs,file,tf,flags,tg,OZ,text,tt,M.1.K9 _ _ l,r⟩,e2,h.tab,h.mem,h.uniq,M.2⟩
 ·obtain⟨of,lf,fd,d,cd⟩:=hc
  rw[e1,<-cd]
  unfold PySem.W.tabIn at t
  rw[hn] at t
  dsimp only at t
  rw[lf] at t
  obtain⟨oc,od,da,sl⟩:=of
  dsimp only at d
  subst d
  dsimp only at t
  cases q1:fd.code with
  | ref c2=>
   rw[q1] at t
   dsimp only at t
   split at t
   ·split at t
    ·cases t;rfl
    ·cases t
   ·cases t
  | _=>rw[q1] at t;cases t
structure uM(c:Ct)(k:Nat)(P:ac9)(w:ade)(K:PySem.W.Frag)(mg:Str->Option adb)(base:Heap):Prop where
 lam:∀p L,c.lam=some (p,L)->qD P w K mg base k p 3 L
 vi:∀x F,c.vi.lookup x=some F->SM P w K mg k c.lj x F
 Kp:∀x n F,c.fns.lookup x=some (n,F)->c.GK.contains x=true->∀base,jP K mg base->rM P w K mg base c.lj x n F
 at':c.self∈a_->∃P,wA K mg c.self P
theorem uM.no{c:Ct}{k:Nat}{P:ac9}{w:ade}{K:PySem.W.Frag}{mg:Str->Option adb}{base:Heap}(h1:c.lam=none)(h2:c.vi=[])(h3:c.GK=[])(h4:c.self=""):uM c k P w K mg base :=
 ⟨(λp L e=>by rw[h1] at e;cases e),(λx F e=>by rw[h2] at e;cases e),(λx n F _ e=>by rw[h3] at e;cases e),(λe=>by rw[h4] at e;exact absurd e (by decide))⟩
structure wB(c:Ct)(k:Nat)(P:ac9)(w:ade)(K:PySem.W.Frag)(mg:Str->Option adb)(base:Heap):Prop where
 cst:∀x w,c.consts.lookup x=some w->z_ K mg x w
 bl:∀x,c.bl.contains x=true->mg x=none
 fns:∀x n F,c.fns.lookup x=some (n,F)->rM P w K mg base k x n F
 tab:TabOk K c.tb c.tt c.tc
 cls:∀x,c.clss.contains x=true->∃C,mg x=some (.ref C)/\DG K x C
 xZ:∀x,c.xZ.contains x=true->∃C,mg x=some (.ref C)/\ClsAt K x C
 x8:∀x kvs,c.x8.lookup x=some kvs->vW K w mg x kvs
 Cf:∀x n F,c.Cf.contains x=true->c.fns.lookup x=some (n,F)->ID P w K mg base k x n F
 x:uM c k P w K mg base
theorem Js{P:ac9}{w:ade}{K:PySem.W.Frag}{mg:Str->Option adb}{base:Heap}{h:Heap}{k:Nat}{c:Ct}{x:Str}{st:Stmt}{ps:List Str}{g:GS}(KX:K.In h)(NS:h.Ns adn mg)(D:bj K x st)(T:wB c k P w K mg base)
  (S:FnScope c.N ps (defScope st))(hn:(defScope st).names=c.names)(hg:aX 30 c (defBody st)=g)
  (hb:∀(kV doc pm:adb)(an:Option ac5)(cdv ct:adb)(us:List adb),us.length=ps.length->bindArgs (PySem.W.fnOf x x (defArgs st) (defBody st) (defScope st) .none kV doc pm an cdv ct) ⟨us,[]⟩=pure (ps.zip us))(hM:c.self∈a_->jP K mg base/\c.self=x:=by exact λz=>absurd (show("":Str)∈a_ from z) (by decide)) :
  rM P w K mg base (k+1) x ps.length (bY c.N.length g):=by
 obtain⟨f,fd,a,F⟩:=D
 refine⟨f,fd,ps,?_,PySem.W.mg_of KX NS a,F.kp,F.binds hb⟩
 subst hg
 refine J_ F S λcdv Vc A outer s H E hr=>?_
 refine qS (k:=k) 30 c _ ⟨rfl,hn,S.nd,uF hr,λ_=>⟨hr,rfl⟩,λ_=>⟨rfl,Jt⟩,T.cst,T.bl,T.fns,λ_=>⟨rfl,rfl,rfl⟩,λ_ _=>rfl,S.kind,T.tab,T.cls,T.xZ,T.x8,qB.of hr,T.Cf,⟨T.x.lam,T.x.vi,T.x.Kp,λ_ z=>?_⟩,⟨_,_,_,rfl,rfl,rfl⟩,.inl hr.hd⟩ _
 obtain⟨P',L⟩:=T.x.at' z
 obtain⟨M,e⟩:=hM z
 exact⟨P',wA.at' L M (by rw[e];exact a) Vc rfl (by rw[e];rfl)⟩
theorem NT{P:ac9}{w:ade}{K:PySem.W.Frag}{mg:Str->Option adb}{base:Heap}{k:Nat}{c:Ct}{x:Str}{st:Stmt}{ps:List Str}{g:GS}{f:ac5}{fd:ac7}(F:LZ K x x st f fd)(T:wB c k P w K mg base)
  (S:FnScope c.N ps (defScope st))(hn:(defScope st).names=c.names)(hg:aX 30 c (defBody st)=g)(hs:c.self∉a_:=by exact(show("":Str)∉a_ by decide)):FnOk P w K mg base (CXJ P w) (k+1) f fd ps (spW K ps.length (bY c.N.length g)):=by
 subst hg
 refine J_ F S λcdv _ A outer s H E hr=>?_
 exact qS (k:=k) 30 c _ ⟨rfl,hn,S.nd,uF hr,λ_=>⟨hr,rfl⟩,λ_=>⟨rfl,Jt⟩,T.cst,T.bl,T.fns,λ_=>⟨rfl,rfl,rfl⟩,λ_ _=>rfl,S.kind,T.tab,T.cls,T.xZ,T.x8,qB.of hr,T.Cf,⟨T.x.lam,T.x.vi,T.x.Kp,λ_ z=>absurd z hs⟩,⟨_,_,_,rfl,rfl,rfl⟩,.inl hr.hd⟩ _
def AllP{α:Type}(P:α->Prop):List α->Prop
 | []=>True
 | a::l=>P a/\AllP P l
theorem AllP.look{κ β:Type}[BEq κ][LawfulBEq κ]{P:κ×β->Prop}:∀{l:List (κ×β)}{x:κ}{b:β},AllP P l->l.lookup x=some b->P (x,b)
 | [],_,_,_,h=>by cases h
 | (y,c)::l,x,b,a,h=>by
  rw[b_] at h
  cases e:x == y with
  | true=>
   rw[e] at h
   cases h
   have e':=eq_of_beq e
   subst e'
   exact a.1
  | false=>rw[e] at h;exact AllP.look a.2 h
theorem AllP.mem{P:Str->Prop}:∀{l:List Str}{x:Str},AllP P l->l.contains x=true->P x
 | [],_,_,h=>by cases h
 | y::l,x,a,h=>by
  rw[DJ,Dj] at h
  rcases h with e | h
  ·have e':=eq_of_beq e
   subst e'
   exact a.1
  ·exact AllP.mem a.2 h
theorem m8{K:PySem.W.Frag}{c:PySem.Str}{C D:ac5}(h:ClsAt K c C)(k:ClsAt K c D):C=D:=by
 unfold ClsAt at h k
 rw[h] at k
 cases k
 rfl
theorem NU{K:PySem.W.Frag}{tb:Tab}{tt:uo}{tc:Tab}(h:AllP (λp=>∃C D,ClsAt K p.1.1 C/\ClsAt K p.1.2 D/\lu K C/\PySem.W.kitOne K (.ref C) (.ref D)=some p.2) tb)
  (g:AllP (λp=>∃C,ClsAt K p.1.1 C/\lu K C/\PySem.W.kitOne K (.ref C) (.type p.1.2)=some p.2) tt)
  (f:AllP (λp=>∃C D,ClsAt K p.1.1 C/\ClsAt K p.1.2 D/\PySem.W.excIn K C Cc Cd=true/\PySem.W.excIn K D Cc Cd=true/\PySem.W.mroIn K C (.ref D)=some p.2) tc):TabOk K tb tt tc :=
 ⟨λc d b C D e hC hD=>by
  obtain⟨C',D',q1,q2,r⟩:=AllP.look h e
  cases m8 hC q1
  cases m8 hD q2
  exact r,λc d b C D e hC hD=>by
  obtain⟨C',D',q1,q2,r⟩:=AllP.look f e
  cases m8 hC q1
  cases m8 hD q2
  exact r,λc T b C e hC=>by
  obtain⟨C',q1,r⟩:=AllP.look g e
  cases m8 hC q1
  exact r⟩
theorem wC{c:Ct}{k:Nat}{P:ac9}{w:ade}{K:PySem.W.Frag}{mg:Str->Option adb}{base:Heap}(hc:AllP (λp=>z_ K mg p.1 p.2) c.consts)(hb:AllP (λx=>mg x=none) c.bl)(hf:AllP (λp=>rM P w K mg base k p.1 p.2.1 p.2.2) c.fns)
  (ht:TabOk K c.tb c.tt c.tc)(hk:AllP (λx=>∃C,mg x=some (.ref C)/\DG K x C) c.clss)(hn:AllP (λx=>∃C,mg x=some (.ref C)/\ClsAt K x C) c.xZ)(hd:AllP (λp=>vW K w mg p.1 p.2) c.x8)
  (hu:AllP (λx=>∀n F,c.fns.lookup x=some (n,F)->ID P w K mg base k x n F) c.Cf:=by exact trivial)(hx:uM c k P w K mg base:=by exact uM.no rfl rfl rfl rfl):wB c k P w K mg base :=
 ⟨λ_ _ h=>hc.look h,λ_ h=>hb.mem h,λx n F h=>hf.look (b:=(n,F)) h,ht,λ_ h=>hk.mem h,λ_ h=>hn.mem h,λx kvs h=>hd.look (b:=kvs) h,λx n F h k=>hu.mem h n F k,hx⟩
def fq(K:PySem.W.Frag):List ac5:=a_.filterMap (bD K)
def Aj(K:PySem.W.Frag)(ts:List ac5):Prop:=∀q P,q∈a_->bD K q=some P->P∈ts/\∃c o vs,K.lookup c=some o/\o.cls= .type "code"/\o.data= .fields vs/\vs[11]? =some (.ref P)
theorem qT{K:PySem.W.Frag}{P:ac5}(h:P∈fq K):∃q,q∈a_/\bD K q=some P:=by
 unfold fq at h
 obtain⟨q,hq,e⟩:=List.mem_filterMap.mp h
 exact⟨q,hq,e⟩
theorem BQ{K:PySem.W.Frag}{q:Str}{P:ac5}(h:bD K q=some P):K.lookup P=none/\∃c,PySem.W.tabIn K q=some (c,P):=by
 unfold bD at h
 cases t:PySem.W.tabIn K q with
 | none=>rw[t] at h;cases h
 | some cp=>
  obtain⟨c,P'⟩:=cp
  rw[t] at h
  dsimp only at h
  split at h
  ·rename_i z;cases h;exact⟨by simpa using z,c,rfl⟩
  ·cases h
theorem uN{K:PySem.W.Frag}{q:Str}{c P:ac5}(t:PySem.W.tabIn K q=some (c,P))(h:K.lookup P=none):bD K q=some P:=by
 unfold bD
 rw[t]
 dsimp only
 rw[h]
 rfl
theorem Ak{K:PySem.W.Frag}{mg:Str->Option adb}{q:Str}{c P:ac5}{o:Obj}{vs:Array adb}{file:Str}{tf tg tt:Tok}{flags text:Int}{OZ:Bool}(hq:q∈a_)(ht:PySem.W.tabIn K q=some (c,P))(hn:K.lookup P=none)(hc:K.lookup c=some o)(h1:o.cls= .type "code")(h2:o.data= .fields vs)
  (h3:vs[11]? =some (.ref P))(h4:vs.getD 11 .none= .ref P)(h5:vs.getD 18 .none= .str file tf)(h6:vs.getD 7 .none= .int flags tg)(h7:vs.getD 9 .none= .bool OZ)(h8:vs.getD 10 .none= .int text tt)(hne:c≠P)
  (hu:∀q',q'∈a_->bD K q'=some P->q'=q):wA K mg q P :=
 ⟨uN ht hn,⟨c,o,vs,file,tf,flags,tg,OZ,text,tt,ht,hc,h1,h2,h3,h4,h5,h6,h7,h8,hne⟩,hq,hu⟩
theorem FC{P:ac9}{w:ade}{K:PySem.W.Frag}{mg:Str->Option adb}{h:Heap}{k:Nat}{F:List Wv->Hs->Re Wv}{fa:ac5}{st:Stmt}(KX:K.In h)(NS:h.Ns adn mg)(hmg:mg "law"=some (.ref fa))(D:bj K "law" st)
  (hp:∀(kV doc pm:adb)(an:Option ac5)(cdv ct:adb)(s:ada)(u:adb),BindsTo s (PySem.W.fnOf "law" "law" (defArgs st) (defBody st) (defScope st) .none kV doc pm an cdv ct) ⟨[u],[]⟩ [("script",u)])
  (FN:∀(f:ac5)(fd:ac7),LZ K "law" "law" st f fd->∀base:Heap,jP K mg base->FnOk P w K mg base (CXJ P w) k f fd ["script"] (spW K 1 F)) :
  ∃fd:ac7,(∀(s:ada)(u:adb),BindsTo s fd ⟨[u],[]⟩ [("script",u)])/\∀base:Heap,jP K mg base->FnOk P w K mg base (CXJ P w) k fa fd ["script"] (spW K 1 F):=by
 obtain⟨f,fd,a,Fu⟩:=D
 have e:=hmg.symm.trans (PySem.W.mg_of KX NS a)
 cases e
 refine⟨fd,λs u=>?_,FN fa fd Fu⟩
 obtain⟨oc,od,kV,doc,pm,an,cdv,ct,osl,rfl,lk,hcd⟩:=Fu.ex
 exact hp kV doc pm an cdv ct s u
theorem qD.mono{P:ac9}{w:ade}{K:PySem.W.Frag}{mg:Str->Option adb}{base:Heap}{j k:Nat}{p:Lm}{n:Nat}{L:LF}(h:qD P w K mg base j p n L)(l:j<=k):qD P w K mg base k p n L:=by
 obtain⟨fd,ps,ob,G,r⟩:=h
 exact⟨fd,ps,ob,G.mono l,r⟩
theorem Al{c:Ct}{k:Nat}{P:ac9}{w:ade}{K:PySem.W.Frag}{mg:Str->Option adb}{base:Heap}(hl:c.lam=none)(hf:AllP (λq=>SM P w K mg k c.lj q.1 q.2) c.vi)
  (hj:AllP (λx=>∀n F,c.fns.lookup x=some (n,F)->∀base,jP K mg base->rM P w K mg base c.lj x n F) c.GK)(ha:c.self∈a_->∃P,wA K mg c.self P):uM c k P w K mg base :=
 ⟨(λp L e=>by rw[hl] at e;cases e),λx F e=>hf.look (b:=F) e,λx n F e h=>hj.mem h n F e,ha⟩
theorem FD{c:Ct}{k:Nat}{P:ac9}{w:ade}{K:PySem.W.Frag}{mg:Str->Option adb}{base:Heap}{p:Lm}{L:LF}(hl:c.lam=some (p,L))(H:qD P w K mg base k p 3 L)(h2:c.vi=[])(h3:c.GK=[])(h4:c.self=""):uM c k P w K mg base :=
 ⟨(λp' L' e=>by rw[hl] at e;cases e;exact H),(λx F e=>by rw[h2] at e;cases e),(λx n F _ e=>by rw[h3] at e;cases e),(λe=>by rw[h4] at e;exact absurd e (by decide))⟩
theorem BR{P:ac9}{w:ade}{K:PySem.W.Frag}{mg mb:Str->Option adb}{CX:Ca}{k:Nat}{fa a:ac5}{fd:ac7}{x:Str}{sp:Sp}{s₁:ada}{vs:List adb}{ns:List Int}{ts:List ac5}
  (KX:K.In s₁.heap)(T:Aj K ts)(TH:∀P∈ts,s₁.heap.get? P=some (PySem.W.tabObj #[]))(hbm:IL mg s₁.heap)(hns:s₁.heap.Ns adn mg)(hb:s₁.heap.Ns builtinsNs mb)(hbb:∀x:Str,x≠"__name__"->mb x=adh x)(hlim:s₁.heap.NoLimit)(hg:s₁.gens=#[])
  (ha:s₁.heap.get? a=some { cls:=.type "list",data:=.seq vs.toArray })(hi:IntsAre vs ns)(hl:ns.length<=ado)(hr:iw k callerA)
  (F:∀base:Heap,jP K mg base->FnOk P w K mg base CX k fa fd [x] sp)(hbind:∀(s:ada)(u:adb),BindsTo s fd ⟨[u],[]⟩ [(x,u)])
  (JV:∀H:Hp,zh H->jN K H a (ns.map V.int)->lO K H->sp [.ref a] H (λv _=>v= .bl true) λ_ _ _=>False)
  (Vd:∀H e s',CX [] H s₁ (λ_ _ _=>False) e s'->False) :
  adi (model P w) callerA (.call (.ref fa) ⟨[.ref a],[]⟩) (λr s'=>r= .ok (.ret (.bool true))/\OldK s₁.heap s'.heap/\s'.os=s₁.os/\AllBare s'.gens) s₁:=by
 have rv:=sE hi
 have Ve:=hi.length
 have Ju:∀b∈fq K,s₁.heap.get? b=some (PySem.W.tabObj #[]):=λb O0=>by
  obtain⟨q,hq,t⟩:=qT O0
  exact TH _ (T q b hq t).1
 have nta:a∉fq K:=λz=>by
  have e:=Ju a z
  rw[ha] at e;cases e
 have core:∀S:Option HO,(S=none\/S=some (.oS { cls:=.type "list",data:=.seq vs.toArray } (.lst (ns.map V.int))))->(S=none->jN K (λb=>if b=a then S else if b∈fq K then some (.lr #[]) else none) a (ns.map V.int))->(S≠none->K.lookup a=none)->
   adi (model P w) callerA (.call (.ref fa) ⟨[.ref a],[]⟩) (λr s'=>r= .ok (.ret (.bool true))/\OldK s₁.heap s'.heap/\s'.os=s₁.os/\AllBare s'.gens) s₁:=by
  intro S hS hS0 hK
  let H:Hp:=λb=>if b=a then S else if b∈fq K then some (.lr #[]) else none
  have Ha:H a=S:=if_pos rfl
  have Ht:∀b∈fq K,H b=some (.lr #[]):=λb O0=>by
   show(if b=a then S else _)=_
   rw[if_neg (λe=>nta (by rw[<-e];exact O0)),if_pos O0]
  have Hn:∀b,b≠a->b∉fq K->H b=none:=λb h1 h2=>by
   show(if b=a then S else _)=_
   rw[if_neg h1,if_neg h2]
  have hO:zh H:=λb=>by
   by_cases e:b=a
   ·subst e
    rw[Ha]
    rcases hS with z | z
    ·exact .inl z
    ·exact .inr (.inl ⟨_,_,z⟩)
   ·by_cases e2:b∈fq K
    ·exact .inr (.inr (Ht b e2))
    ·exact .inl (Hn b e e2)
  have hok:jQ P w H s₁.heap:=λb u z=>by
   by_cases e:b=a
   ·subst e
    rw[Ha] at z
    rcases hS with q | q
    ·rw[q] at z;cases z
    ·rw[q] at z
     cases z
     exact⟨ha,by rw[gT];exact hl,vs,_,rv,ha⟩
   ·by_cases e2:b∈fq K
    ·rw[Ht b e2] at z
     cases z
     exact Ju b e2
    ·rw[Hn b e e2] at z;cases z
  have hSq:jN K H a (ns.map V.int):=by
   rcases hS with z | z
   ·exact hS0 z
   ·exact .inl (.inr ⟨_,Ha.trans z⟩)
  have tb:lO K H:=λq P' hq e=>⟨#[],Ht _ (List.mem_filterMap.mpr ⟨q,hq,e⟩),trivial,λpos cv z=>by simp[codeAmong] at z⟩
  have Rq:∀{b:ac5}{o:Obj}{es:Array DictEntry}{ep:Nat},s₁.heap.get? b=some o->o.data= .dict es ep->H b=none:=λ{b o es ep} e d=>by
   refine Hn b (λz=>?_) (λz=>?_)
   ·rw[z,ha] at e;cases e;cases d
   ·rw[Ju b z] at e;cases e;cases d
  have Vf:∀{b:ac5}{m:Str->Option adb},s₁.heap.Ns b m->(rD s₁.heap H).Ns b m:=λ{b m} ⟨o,es,ep,e,d,r⟩=>⟨o,es,ep,ml e (Rq e d),d,r⟩
  have hKb:K.In (rD s₁.heap H):=λb o e1=>by
   have e2:b∉fq K:=λz=>by
    obtain⟨q,hq,t⟩:=qT z
    rw[(BQ t).1] at e1;cases e1
   refine ml (KX b o e1) ?_
   by_cases z:b=a
   ·subst z
    rw[Ha]
    rcases hS with q | q
    ·exact q
    ·rw[hK (by rw[q];simp)] at e1;cases e1
   ·exact Hn b z e2
  have hM:Mod K mg (rD s₁.heap H):=⟨hKb,Vf hns,⟨mb,Vf hb,hbb⟩,let ⟨mc,h1,h2⟩:=hlim;⟨mc,Vf h1,h2⟩⟩
  have e0:xi P w K mg (rD s₁.heap H) callerA [] s₁ H:=⟨rfl,hM,λb o e=>yN e,mO (sj _ _),trivial,λb z=>absurd (show b∈([]:List ac5) from z) (by simp),hok,.of_eq hg⟩
  have hB:IL mg (rD s₁.heap H):=by
   obtain⟨bm,ob,b1,b2,b3,b4,b5,b6,b7⟩:=hbm
   refine⟨bm,ob,b1,b2,b3,ml b4 (Hn bm (λz=>?_) λz=>?_),b5,b6,b7⟩
   ·rw[z,ha] at b4;cases b4;cases b7
   ·rw[Ju bm z] at b4;cases b4;cases b7
  refine codeAny_mono ((F _ ⟨hM,hB⟩).run callerA [] s₁ H ⟨[.ref a],[]⟩ [.ref a] [.ref a] _ _ hr e0 (hbind s₁ (.ref a)) (.cons rfl .nil) (JV H hO hSq tb)) λr s' h=>?_
  cases r with
  | error e=>exact(Vd H e s' h).elim
  | ok fl=>
   cases fl with
   | next=>exact ae h
   | brk=>exact ae h
   | cont=>exact ae h
   | ret u=>
    obtain⟨v,H',os,bare,un,IK,r',q⟩:=h
    have q':v= .bl true:=q
    subst q'
    obtain rfl:u=Value.bool true:=r'
    have old:∀b o,s₁.heap.get? b=some o->asItWas s₁.heap s'.heap b o:=λb o e=>by
     cases q:H b with
     | none=>exact .inl (un.keep b o e q (λz=>absurd (show b∈([]:List ac5) from z) (by simp)) (by simp))
     | some u=>
      rcases hO b with z | ⟨ob,xs,z⟩ | z
      ·rw[q] at z;cases z
      ·obtain⟨e1,_⟩:=hok b _ z
       obtain⟨e2,_⟩:=IK b _ (un.oT b ob _ z)
       rw[e] at e1;cases e1
       exact .inl e2
      ·obtain⟨more,m1⟩:=un.pR b _ z
       have e1:s₁.heap.get? b=some (PySem.W.tabObj #[]):=hok b _ z
       have e2:s'.heap.get? b=some (PySem.W.tabObj (#[]++more)):=IK b _ m1
       rw[e] at e1
       cases e1
       have O0:b∈fq K:=by
        by_cases e3:b∈fq K
        ·exact e3
        ·by_cases e4:b=a
         ·rw[e4,ha] at e;cases e
         ·rw[Hn b e4 e3] at z;cases z
       obtain⟨qq,hq,t⟩:=qT O0
       obtain⟨_,c,o2,vs2,l1,l2,l3,l4⟩:=T qq b hq t
       exact .inr (.inl ⟨⟨c,o2,vs2,KX _ _ l1,l2,l3,l4⟩,rfl,#[],more,rfl,e2⟩)
    exact⟨rfl,⟨old,λb o e=>un.there b o e (by simp)⟩,os,bare⟩
 cases hk:K.lookup a with
 | some o=>
  have e:=KX a o hk
  rw[ha] at e
  cases e
  refine core none (.inl rfl) (λ_=> .inr ⟨_,vs.toArray,_,hk,rfl,rfl,rfl,by rw[aO,Ve];exact hl,by simpa using rv⟩) (λz=>absurd rfl z)
 | none=>exact core _ (.inr rfl) (λz=>by cases z) λ_=>hk
theorem walk_ofT{l:PySem.W.OpenLaw}{n k:Nat}{q:ac9}{loose:List Str}{XP:(Str->Option adb)->Heap->Prop}{YP:ade->Heap->Prop}{d:DefRec}{K:Params->PySem.W.Frag}{CX:ade->Ca}{sp:ade->Sp}{x:Str}{ts:List ac5}
  (hn:l.most=some n)(hn2:n<=ado)(hdf:d.params.defaults=[])(hr:iw k callerA)(hY:∀(w:ade)(h:Heap),YP w h->(K w.params).In h/\∀P∈ts,h.get? P=some (PySem.W.tabObj #[]))
  (F:∀(w:ade)(mg:Str->Option adb)(fa:ac5)(h:Heap),(K w.params).In h->h.Ns adn mg->mg d.name=some (.ref fa)->Aj (K w.params) ts/\
   ∃fd:ac7,(∀(s:ada)(u:adb),BindsTo s fd ⟨[u],[]⟩ [(x,u)])/\∀base:Heap,jP (K w.params) mg base->FnOk l.prog w (K w.params) mg base (CX w) k fa fd [x] (sp w))
  (JV:∀(w:ade)(H:Hp)(a:ac5)(ns:List Int),ns.length<=n->zh H->jN (K w.params) H a (ns.map V.int)->lO (K w.params) H->sp w [.ref a] H (λv _=>v= .bl true) λ_ _ _=>False)
  (Vd:∀(w:ade)(H:Hp)(s:ada)(e:adb)(s':ada),CX w [] H s (λ_ _ _=>False) e s'->False) :
  PySem.W.WalkO q loose XP YP l.row.toRowW d [] (λf vs=>PySem.call f vs):=by
 refine Att.vz hn hdf λw s₀ s₁ mg mb fa o pm cd doc a vs ns G Y ho hd hcd hmg hobj hints hlen hg=>?_
 obtain⟨KX,TH⟩:=hY w _ Y
 obtain⟨T,fd,hb,hF⟩:=F w mg fa _ KX G.T.g hmg
 have hbm:IL mg s₁.heap:=by
  obtain⟨bm,ob,b1,b2,b3,b4,b5,b6⟩:=G.T.bmain
  refine⟨bm,ob,b1,b2,λq=>?_,b3,b4,b5,b6⟩
  obtain⟨o,es,ep,e,hd,_⟩:=G.T.g
  rw[q,e] at b3;cases b3;rw[hd] at b6;cases b6
 exact BR KX T TH hbm G.T.g G.T.b G.T.builtins G.T.nolimit hg hobj hints (bp hlen hn2) hr hF hb (λH hO hS hT=>JV w H a ns hlen hO hS hT) λH e s'=>Vd w H s₁ e s'
def Rs.sq(r:Rs)(h:GS):Rs:=match r with
 | .nx ρ st=>h ρ st
 | r=>r
section
variable {α β:Type} {ρ ρ':bH} {st:Hs} {h g ga' gb':GS} {ga gb gc:GE} {gt gu:GT} {w:Wv} {c:PySem.Str} {f:α->Hs->Re β} {k:α->Hs->Rs} {a:α} {i:Nat}
@[simp] theorem Rr:(Rs.nx ρ st).sq h=h ρ st:=rfl
@[simp] theorem Yi:(Rs.rt w st).sq h= .rt w st:=rfl
@[simp] theorem Yj:(Rs.bk ρ st).sq h= .bk ρ st:=rfl
@[simp] theorem Yk:(Rs.ct ρ st).sq h= .ct ρ st:=rfl
@[simp] theorem Vg:(Rs.err c ρ st).sq h= .err c ρ st:=rfl
@[simp] theorem Vh:Rs.bad.sq h= .bad:=rfl
@[simp] theorem Am:(Re.ok a st).bind f=f a st:=rfl
@[simp] theorem Rt:(Re.err c st).bind f= .err c st:=rfl
@[simp] theorem Ru:(Re.bad:Re α).bind f= .bad:=rfl
@[simp] theorem yf:(Re.ok a st).bo ρ k=k a st:=rfl
@[simp] theorem S6:(Re.err c st:Re α).bo ρ k= .err c ρ st:=rfl
@[simp] theorem FE:(Re.ok a st).ny= .ok a st:=rfl
@[simp] theorem S8:(Re.bad:Re α).ny= .bad:=rfl
@[simp] theorem S_:(Re.bad:Re α).bo ρ k= .bad:=rfl
@[simp] theorem Kx:aD g h ρ st=(g ρ st).sq h:=by unfold aD Rs.sq;cases g ρ st<;>rfl
@[simp] theorem e_next:bt ρ st= .nx ρ st:=rfl
@[simp] theorem Yl:aP ga ρ st=(ga ρ st).bo ρ λw st'=> .rt w st':=rfl
@[simp] theorem e_expr:sL ga ρ st=(ga ρ st).bo ρ λ_ st'=> .nx ρ st':=rfl
@[simp] theorem Rv:aY i ga ρ st=(ga ρ st).bo ρ λw st'=> .nx (ρ.set i (some w)) st':=rfl
def Vi(ga gb:GS)(ρ:bH):Bool->Hs->Rs:=λb st'=>if b=true then ga ρ st' else gb ρ st'
@[simp] theorem Ym:Vi g h ρ true st=g ρ st:=rfl
@[simp] theorem Yn:Vi g h ρ false st=h ρ st:=rfl
@[simp] theorem aaO:jJ gt g h ρ st=(gt ρ st).bo ρ (Vi g h ρ):=rfl
def Yo(o:Option (Option Wv))(st:Hs):Re Wv:=match o with
 | some (some w)=> .ok w st
 | _=> .bad
@[simp] theorem FF:Yo (some (some w)) st= .ok w st:=rfl
@[simp] theorem FG:af i ρ st=Yo ρ[i]? st:=rfl
@[simp] theorem e_c:gC w ρ st= .ok w st:=rfl
def kB(op:f_)(gb:GE)(ρ:bH):Wv->Hs->Re Wv:=λx st1=>(gb ρ st1).bind λy st2=>(op x y st2).ny
@[simp] theorem Vj{op:f_}{x:Wv}:kB op gb ρ x st=(gb ρ st).bind λy st2=>(op x y st2).ny:=rfl
@[simp] theorem Rw{op:f_}:ag op ga gb ρ st=(ga ρ st).bind (kB op gb ρ):=rfl
@[simp] theorem Yp:cC ga ρ st=(ga ρ st).bind J2:=rfl
@[simp] theorem Yq{b:Bool}:J2 (.bl b) st= .ok b st:=rfl
@[simp] theorem Yr:jO ga ρ st=(ga ρ st).bind MF:=rfl
@[simp] theorem Vk{b:Bool}:MF (.bl b) st= .ok b st:=rfl
@[simp] theorem Ys:ud gt ρ st=(gt ρ st).bind λb st1=> .ok (!b) st1:=rfl
def NV(gb:GT)(ρ:bH):Bool->Hs->Re Bool:=λb st1=>if b=true then gb ρ st1 else .ok false st1
@[simp] theorem Vl:NV gu ρ true st=gu ρ st:=rfl
@[simp] theorem Vm:NV gu ρ false st= .ok false st:=rfl
@[simp] theorem Yt:HD gt gu ρ st=(gt ρ st).bind (NV gu ρ):=rfl
def Vn(gb:GT)(ρ:bH):Bool->Hs->Re Bool:=λb st1=>if b=true then .ok true st1 else gb ρ st1
@[simp] theorem Yu:Vn gu ρ true st= .ok true st:=rfl
@[simp] theorem Yv:Vn gu ρ false st=gu ρ st:=rfl
@[simp] theorem Rx:Mk gt gu ρ st=(gt ρ st).bind (Vn gu ρ):=rfl
def FH(gb:GE)(ρ:bH):Wv->Hs->Re Wv:=λw st1=>match w with
 | .bl true=>gb ρ st1
 | .bl false=> .ok (.bl false) st1
 | _=> .bad
@[simp] theorem Ta:FH gb ρ (.bl true) st=gb ρ st:=rfl
@[simp] theorem Tb:FH gb ρ (.bl false) st= .ok (.bl false) st:=rfl
@[simp] theorem Vo:lD ga gb ρ st=(ga ρ st).bind (FH gb ρ):=rfl
def Ry:Wv->Hs->Re Wv:=λw st1=>match w with
 | .bl b=> .ok (.bl (!b)) st1
 | _=> .bad
@[simp] theorem Tc{b:Bool}:Ry (.bl b) st= .ok (.bl (!b)) st:=rfl
def NW(ga gb:GE)(ρ:bH):Bool->Hs->Re Wv:=λb st1=>if b=true then ga ρ st1 else gb ρ st1
@[simp] theorem Vp:NW ga gb ρ true st=ga ρ st:=rfl
@[simp] theorem Vq:NW ga gb ρ false st=gb ρ st:=rfl
@[simp] theorem Yw:vH gt ga gb ρ st=(gt ρ st).bind (NW ga gb ρ):=rfl
@[simp] theorem Yx:aj ρ st= .ok [] st:=rfl
def Ky(gr:GA)(ρ:bH):Wv->Hs->Re (List Wv):=λx st1=>(gr ρ st1).bind λxs st2=> .ok (x::xs) st2
@[simp] theorem Td{gr:GA}{x:Wv}:Ky gr ρ x st=(gr ρ st).bind λxs st2=> .ok (x::xs) st2:=rfl
@[simp] theorem Vr{gr:GA}:aa ga gr ρ st=(ga ρ st).bind (Ky gr ρ):=rfl
def rP:List Wv->Hs->Re Wv:=λws st1=>if ws.length<=lim then .ok (.tup ws) st1 else .bad
theorem qU{ws:List Wv}(hl:ws.length<=lim):rP ws st= .ok (.tup ws) st:=if_pos hl
@[simp] theorem Yy{gr:GA}:cA gr ρ st=(gr ρ st).bind rP:=rfl
def yg:List Wv->Hs->Re Wv:=λws st1=>if ws.length<=lim then .ok (.ref st1.length) (st1++[.lst ws]) else .bad
theorem qV{ws:List Wv}(hl:ws.length<=lim):yg ws st= .ok (.ref st.length) (st++[.lst ws]):=if_pos hl
@[simp] theorem Yz{gr:GA}:jV gr ρ st=(gr ρ st).bind yg:=rfl
section
variable {x x0 x1 x2 x3 x4 x5 x6 x7:Wv}
@[simp] theorem Vs:rP [x0] st= .ok (.tup [x0]) st:=qU (by simp[lim])
@[simp] theorem nY:rP [x0,x1] st= .ok (.tup [x0,x1]) st:=qU (by simp[lim])
@[simp] theorem Vt:rP [x0,x1,x2] st= .ok (.tup [x0,x1,x2]) st:=qU (by simp[lim])
@[simp] theorem FI:rP [x0,x1,x2,x3] st= .ok (.tup [x0,x1,x2,x3]) st:=qU (by simp[lim])
@[simp] theorem Vu:yg [] st= .ok (.ref st.length) (st++[.lst []]):=qV (by simp[lim])
@[simp] theorem Vv:yg [x0] st= .ok (.ref st.length) (st++[.lst [x0]]):=qV (by simp[lim])
@[simp] theorem Vw:yg [x0,x1] st= .ok (.ref st.length) (st++[.lst [x0,x1]]):=qV (by simp[lim])
@[simp] theorem Vx:yg [x0,x1,x2,x3] st= .ok (.ref st.length) (st++[.lst [x0,x1,x2,x3]]):=qV (by simp[lim])
@[simp] theorem Vy:yg [x0,x1,x2,x3,x4,x5,x6] st= .ok (.ref st.length) (st++[.lst [x0,x1,x2,x3,x4,x5,x6]]):=qV (by simp[lim])
end
def tq(n:Nat)(F:List Wv->Hs->Re Wv):List Wv->Hs->Re Wv:=λws st1=>if ws.length=n then F ws st1 else .bad
section
variable {F:List Wv->Hs->Re Wv} {x0 x1 x2 x3:Wv} {gr:GA}
@[simp] theorem Te:tq 1 F [x0] st=F [x0] st:=rfl
@[simp] theorem Tf:tq 2 F [x0,x1] st=F [x0,x1] st:=rfl
@[simp] theorem Tg:tq 3 F [x0,x1,x2] st=F [x0,x1,x2] st:=rfl
@[simp] theorem Th:tq 4 F [x0,x1,x2,x3] st=F [x0,x1,x2,x3] st:=rfl
@[simp] theorem Vz{n:Nat}:au n F gr ρ st=(gr ρ st).bind (tq n F):=rfl
@[simp] theorem Ti{op:List Wv->Hs->Re Wv}:aU op gr ρ st=(gr ρ st).bind λws st1=>(op ws st1).ny:=rfl
end
@[simp] theorem aaP{op:Wv->Hs->Re Wv}:HC op ga ρ st=(ga ρ st).bind op:=rfl
@[simp] theorem YA{i:Int}:mK (.int i) st= .ok (.int (-i)) st:=rfl
@[simp] theorem Rz{i j:Int}:br (.int i) (.int j) st= .ok (.int (i+j)) st:=rfl
@[simp] theorem YB{i j:Int}:cV (.int i) (.int j) st= .ok (.int (i - j)) st:=rfl
@[simp] theorem aaQ{i j:Int}:oLt (.int i) (.int j) st= .ok (.bl (decide (i < j))) st:=rfl
@[simp] theorem aaR{i j:Int}:oLe (.int i) (.int j) st= .ok (.bl (decide (i<=j))) st:=rfl
@[simp] theorem aaS{i j:Int}:Ux (.int i) (.int j) st= .ok (.bl (decide (j < i))) st:=rfl
@[simp] theorem aaT{i j:Int}:Uy (.int i) (.int j) st= .ok (.bl (decide (j<=i))) st:=rfl
@[simp] theorem aaU{i j:Int}:oEq (.int i) (.int j) st= .ok (.bl (i == j)) st:=rfl
@[simp] theorem aaV{i j:Int}:Mx (.int i) (.int j) st= .ok (.bl (!(i == j))) st:=rfl
@[simp] theorem aaW{i j:PySem.Str}:oEq (.str i) (.str j) st= .ok (.bl (i == j)) st:=rfl
@[simp] theorem aaX{i j:PySem.Str}:Mx (.str i) (.str j) st= .ok (.bl (!(i == j))) st:=rfl
@[simp] theorem aaY{i j:Bool}:oEq (.bl i) (.bl j) st= .ok (.bl (i == j)) st:=by cases i<;>cases j<;>rfl
@[simp] theorem aaZ{i j:Bool}:Mx (.bl i) (.bl j) st= .ok (.bl (!(i == j))) st:=by cases i<;>cases j<;>rfl
theorem nZ{i j:Int}(h:j≠0/\j.natAbs.log2 < 9000):fZ (.int i) (.int j) st= .ok (.int (i.fdiv j)) st:=by show(if _ then _ else _)=_;rw[if_pos h]
theorem jL{i j:Int}(h:j≠0):oMod (.int i) (.int j) st= .ok (.int (i.fmod j)) st:=by show(if _ then _ else _)=_;rw[if_pos h]
theorem An{i j:Int}(h:IntMulOk i j):cG (.int i) (.int j) st= .ok (.int (i * j)) st:=by show(if _ then _ else _)=_;rw[if_pos h]
theorem Ao{i j:Int}(h1:-(2 ^ 64) < i)(h2:i < 2 ^ 64):cG (.int i) (.int j) st= .ok (.int (i * j)) st:=An (IntMulOk.of_left (intBits_le_64 h1 h2))
theorem mul_r{i j:Int}(h1:-(2 ^ 64) < j)(h2:j < 2 ^ 64):cG (.int i) (.int j) st= .ok (.int (i * j)) st:=An (IntMulOk.of_right (intBits_le_64 h1 h2))
theorem RA{i j:Int}(h:0<=j/\j<=1000000/\i.natAbs < 2 ^ 64):qi (.int i) (.int j) st= .ok (.int (i ^ j.toNat)) st:=by show(if _ then _ else _)=_;rw[if_pos h]
theorem BS{l:Nat}{i:Int}{ws:List Wv}{v:Wv}(h:av st l=some ws)(h2:lM ws i=some v):aS (.ref l) (.int i) st= .ok v st:=by
 show(match av st l with | some ws=>(match lM ws i with | some w=>Re.ok w st | none=> .bad) | none=> .bad)=_
 rw[h]
 dsimp only
 rw[h2]
theorem j_{i:Int}{ws:List Wv}{v:Wv}(h2:lM ws i=some v):aS (.tup ws) (.int i) st= .ok v st:=by
 show(match lM ws i with | some w=>Re.ok w st | none=> .bad)=_
 rw[h2]
end
theorem m_{n:Nat}{g:GS}{ws:List Wv}{st st':Hs}{w:Wv}(h:g (ws.map some++aJ (n - ws.length) none) st= .rt w st'):bY n g ws st= .ok w st':=by unfold bY;rw[h]
section
variable {ρ:bH} {st:Hs} {ga gb gc:GE} {gl gh:GO}
def YC(gl gh:GO)(ρ:bH):Wv->Hs->Re Wv:=λx st1=>(gl ρ st1).bind λlo st2=>(gh ρ st2).bind λhi st3=>vV x lo hi st3
@[simp] theorem Tj:fD ga gl gh ρ st=(ga ρ st).bind (YC gl gh ρ):=rfl
@[simp] theorem YD{x:Wv}:YC gl gh ρ x st=(gl ρ st).bind λlo st2=>(gh ρ st2).bind λhi st3=>vV x lo hi st3:=rfl
@[simp] theorem RB:jb ρ st= .ok none st:=rfl
def Kz:Wv->Hs->Re (Option Int):=λw st1=>match w with
 | .int i=> .ok (some i) st1
 | _=> .bad
@[simp] theorem VA:jX ga ρ st=(ga ρ st).bind Kz:=rfl
@[simp] theorem To{i:Int}:Kz (.int i) st= .ok (some i) st:=rfl
theorem KA{l:Nat}{ws:List Wv}(h:av st l=some ws):jY [.ref l] st= .ok (.int ws.length) st:=by
 show(match av st l with | some ws=>Re.ok (Wv.int ws.length) st | none=> .bad)=_
 rw[h]
def FJ(op':f_)(gc:GE)(y:Wv)(ρ:bH):Wv->Hs->Re Wv:=λz st3=>match z with
 | .bl true=>(gc ρ st3).bind λu zc=>(op' y u zc).ny
 | .bl false=> .ok (.bl false) st3
 | _=> .bad
@[simp] theorem VB{op':f_}{y:Wv}:FJ op' gc y ρ (.bl true) st=(gc ρ st).bind λu zc=>(op' y u zc).ny:=rfl
@[simp] theorem VC{op':f_}{y:Wv}:FJ op' gc y ρ (.bl false) st= .ok (.bl false) st:=rfl
@[simp] theorem Tp{op op':f_}:i_ op op' ga gb gc ρ st=(ga ρ st).bind λx st1=>(gb ρ st1).bind λy st2=>(op x y st2).ny.bind (FJ op' gc y ρ):=rfl
def RC(op' BU:f_)(gc gd:GE)(y:Wv)(ρ:bH):Wv->Hs->Re Wv:=λz st3=>match z with
 | .bl true=>(gc ρ st3).bind λu zc=>(op' y u zc).ny.bind (FJ BU gd u ρ)
 | .bl false=> .ok (.bl false) st3
 | _=> .bad
@[simp] theorem VD{op' BU:f_}{gd:GE}{y:Wv}:RC op' BU gc gd y ρ (.bl true) st=(gc ρ st).bind λu zc=>(op' y u zc).ny.bind (FJ BU gd u ρ):=rfl
@[simp] theorem VE{op' BU:f_}{gd:GE}{y:Wv}:RC op' BU gc gd y ρ (.bl false) st= .ok (.bl false) st:=rfl
def KC(cat:PySem.Str->Option Bool)(gs:GS)(r:Rs):Rs:=match r with
 | .err c ρ' st'=>(match cat c with
  | some true=>(match gs ρ' st' with
   | .nx ρ2 st2=> .nx ρ2 st2
   | .rt w st2=> .rt w st2
   | _=> .bad)
  | _=> .bad)
 | r=>r
@[simp] theorem RD{cat:PySem.Str->Option Bool}{gs:GS}:KC cat gs (.nx ρ st)= .nx ρ st:=rfl
@[simp] theorem RE{cat:PySem.Str->Option Bool}{gs:GS}{w:Wv}:KC cat gs (.rt w st)= .rt w st:=rfl
end
theorem kX{st:Hs}{ws:List Wv}:av (st++[.lst ws]) st.length=some ws:=by unfold av;simp
theorem ng{st:Hs}{l:Nat}{ws:List Wv}(h:av st l=some ws):l < st.length:=by
 unfold av at h
 cases e:st[l]? with
 | none=>rw[e] at h;cases h
 | some o=>exact(List.getElem?_eq_some_iff.mp e).1
def dB(l:Nat)(st st':Hs):Prop:=st.length<=st'.length/\∀k,k < st.length->k≠l->st'[k]? =st[k]?
theorem dB.refl{l:Nat}{st:Hs}:dB l st st:=⟨aq _,λ_ _ _=>rfl⟩
theorem dB.trans{l:Nat}{a b c:Hs}(h:dB l a b)(k:dB l b c):dB l a c:=⟨bp h.1 k.1,λj h1 h2=>(k.2 j (a9 h1 h.1) h2).trans (h.2 j h1 h2)⟩
theorem dB.push{l:Nat}{st:Hs}{o:Ob}:dB l st (st++[o]):=⟨by simp,λk h _=>eO h⟩
theorem dB.set{l:Nat}{st:Hs}{o:Ob}:dB l st (st.set l o):=⟨by simp,λk _ h=>jR (λz=>h z.symm)⟩
theorem dB.lst{l:Nat}{st st':Hs}(k:dB l st st'){j:Nat}{ws:List Wv}(h:av st j=some ws)(hj:j≠l):av st' j=some ws:=by
 unfold av at h ⊢
 rw[k.2 j (ng (st:=st) (ws:=ws) (by unfold av;exact h)) hj]
 exact h
@[simp] theorem Tq{i:Nat}{ga:GA}{gb:GS}{ρ:bH}{st:Hs}:iB i ga gb ρ st=(ga ρ st).bo ρ λws st1=>match ws with
 | [.int j]=>if cg j then cZ i gb (bO 0 j.toNat) ρ st1 else .bad
 | _=> .bad:=rfl
@[simp] theorem Tr{i:Nat}{ga:GA}{gb:GS}{ρ:bH}{st:Hs}:um i ga gb ρ st=(ga ρ st).bo ρ λws st1=>match ws with
 | [.int a,.int j]=>if cg a/\cg j then cZ i gb (bO a (j - a).toNat) ρ st1 else .bad
 | _=> .bad:=rfl
@[simp] theorem Ts{c:PySem.Str}{ga:GA}{ρ:bH}{st:Hs}:nO c ga ρ st=(ga ρ st).bo ρ λws st1=>if ws.length<=lim then .err c ρ st1 else .bad:=rfl
def KD(mt:Wv->Wv->Hs->Re Wv)(ga:GE)(ρ:bH):Wv->Hs->Re Wv:=λo st1=>match o with
 | .ref l=>(match av st1 l with
  | some _=>(ga ρ st1).bind λv st2=>(mt o v st2).ny
  | none=> .bad)
 | _=> .bad
@[simp] theorem NX{mt:Wv->Wv->Hs->Re Wv}{go ga:GE}{ρ:bH}{st:Hs}:sP mt go ga ρ st=(go ρ st).bind (KD mt ga ρ):=rfl
theorem Ap{mt:Wv->Wv->Hs->Re Wv}{ga:GE}{ρ:bH}{st:Hs}{l:Nat}{ws:List Wv}(h:av st l=some ws):KD mt ga ρ (.ref l) st=(ga ρ st).bind λv st2=>(mt (.ref l) v st2).ny:=by
 show(match av st l with | some _=>(ga ρ st).bind λv st2=>(mt (.ref l) v st2).ny | none=> .bad)=_
 rw[h]
theorem FK{st:Hs}{l:Nat}{v:Wv}{ws:List Wv}(h:st[l]? =some (.lst ws))(hl:ws.length < lim):oZ (.ref l) v st= .ok .bz (st.set l (.lst (ws++[v]))):=by
 show(match st[l]? with | some (.lst ws)=>if ws.length < lim then Re.ok Wv.bz (st.set l (.lst (ws++[v]))) else .bad | _=> .bad)=_
 rw[h]
 exact if_pos hl
theorem ji{i:Nat}{gb:GS}(P:Nat->bH->Hs->Prop):∀(ws:List Wv)(k:Nat)(ρ:bH)(st:Hs),P k ρ st->
  (∀(j:Nat)(w:Wv),ws[j]? =some w->∀ρ st,P (k+j) ρ st->∃ρ' st',gb (ρ.set i (some w)) st= .nx ρ' st'/\P (k+j+1) ρ' st')->∃ρ' st',cZ i gb ws ρ st= .nx ρ' st'/\P (k+ws.length) ρ' st'
 | [],k,ρ,st,h,_=>⟨ρ,st,rfl,h⟩
 | w::r,k,ρ,st,h,step=>by
  obtain⟨ρ1,st1,e1,p1⟩:=step 0 w rfl ρ st h
  obtain⟨ρ2,st2,e2,p2⟩:=ji P r (k+1) ρ1 st1 p1 λj w hw ρ st hp=>by
   have e:k+(j+1)=k+1+j:=by omega
   have q:=step (j+1) w hw ρ st (by rw[e];exact hp)
   rw[e] at q
   exact q
  refine⟨ρ2,st2,?_,?_⟩
  ·unfold cZ
   rw[e1]
   exact e2
  ·have e:k+(w::r).length=k+1+r.length:=by simp;omega
   rw[e]
   exact p2
theorem wD{i:Nat}{gb:GS}(P:bH->Hs->Prop):∀(ws:List Wv)(ρ:bH)(st:Hs),P ρ st->
  (∀w∈ws,∀ρ st,P ρ st->∃ρ' st',gb (ρ.set i (some w)) st= .nx ρ' st'/\P ρ' st')->∃ρ' st',cZ i gb ws ρ st= .nx ρ' st'/\P ρ' st'
 | [],ρ,st,h,_=>⟨ρ,st,rfl,h⟩
 | w::r,ρ,st,h,step=>by
  obtain⟨ρ1,st1,e1,p1⟩:=step w bu ρ st h
  obtain⟨ρ2,st2,e2,p2⟩:=wD P r ρ1 st1 p1 λw hw=>step w (aN _ hw)
  refine⟨ρ2,st2,?_,p2⟩
  unfold cZ
  rw[e1]
  exact e2
@[simp] theorem VF{i:Int}{st:Hs}:QB [.int i] st=QA [.int i] st:=rfl
@[simp] theorem VG{cs:dN}{gi:GI}{gt:GT}{ge:GE}{ρ:bH}{st:Hs}:j7 cs gi gt ge ρ st=(gi ρ st).bind (dU cs gt ge ρ):=rfl
@[simp] theorem Tt{g:GE}{ρ:bH}{st:Hs}:je g ρ st=(g ρ st).bind zy:=rfl
@[simp] theorem VH{g:GA}{ρ:bH}{st:Hs}:Ij g ρ st=(g ρ st).bind vS:=rfl
@[simp] theorem VI{g:GA}{ρ:bH}{st:Hs}:DX g ρ st=(g ρ st).bind zq:=rfl
theorem NY{j:Int}{st:Hs}(h:cg j):vS [.int j] st= .ok (none,bO 0 j.toNat) st:=if_pos h
theorem NZ{i j:Int}{st:Hs}(h:cg i)(k:cg j):zq [.int i,.int j] st= .ok (none,bO i (j - i).toNat) st:=if_pos ⟨h,k⟩
@[simp] theorem VJ{st:Hs}{z:PySem.Str}:zy (.str z) st= .ok (none,iC z) st:=rfl
@[simp] theorem VL{st:Hs}{ws:List Wv}:zy (.tup ws) st= .ok (none,ws) st:=rfl
theorem uO{st:Hs}{acc:List Wv}{v:Wv}(h:acc.length < lim):oZ (.ref st.length) v (st++[.lst acc])= .ok .bz (st++[.lst (acc++[v])]):=by
 rw[FK (ws:=acc) (by simp) h]
 congr 1
 simp
theorem lZ{w:Wk}{gt:Wv->Hs->Re Bool}{ge:Wv->Hs->Re Wv}{st:Hs}{t:Wv->Bool}{f:Wv->Wv}(ck:jd w st):∀(ws acc:List Wv),(∀v∈ws,∀acc,gt v (st++[.lst acc])= .ok (t v) (st++[.lst acc]))->
  (∀v∈ws,t v=true->∀acc,ge v (st++[.lst acc])= .ok (f v) (st++[.lst acc]))->acc.length+ws.length < lim->iX (jd w) gt ge st.length ws (st++[.lst acc])=some (st++[.lst (acc++(ws.filter t).map f)])
 | [],acc,_,_,_=>by simp[iX]
 | v::r,acc,h1,h2,hl=>by
  have hl':acc.length+(r.length+1) < lim:=hl
  unfold iX
  rw[h1 v bu acc]
  cases e:t v with
  | false=>
   dsimp only
   rw[if_pos (qv ck),lZ ck r acc (λv hv=>h1 v (aN _ hv)) (λv hv=>h2 v (aN _ hv)) (by omega),xM (by simp[e])]
  | true=>
   dsimp only
   rw[h2 v bu e acc]
   dsimp only
   rw[uO (by omega)]
   dsimp only
   rw[if_pos (qv ck),lZ ck r (acc++[f v]) (λv hv=>h1 v (aN _ hv)) (λv hv=>h2 v (aN _ hv)) (by simp;omega),Ew e]
   simp
theorem BV{cs:dN}{gt:GT}{ge:GE}{ρ:bH}{w:Wk}{st:Hs}{t:Wv->Bool}{f:Wv->Wv}(ck:jd w st)(h1:∀v∈w.2,∀acc,gt (some v::eT cs ρ) (st++[.lst acc])= .ok (t v) (st++[.lst acc]))
  (h2:∀v∈w.2,t v=true->∀acc,ge (some v::eT cs ρ) (st++[.lst acc])= .ok (f v) (st++[.lst acc]))(hl:w.2.length < lim):dU cs gt ge ρ w st= .ok (.ref st.length) (st++[.lst ((w.2.filter t).map f)]):=by
 unfold dU
 rw[lZ ck w.2 [] h1 h2 (by simpa using hl)]
 simp
theorem wF{α:Type}{ws:List α}{d:Int}(h0:0<=d)(h1:d < ws.length):∃v,L2.lM ws d=some v/\v∈ws:=by
 have hk:d.toNat < ws.length:=by omega
 have ek:d=((d.toNat:Nat):Int):=by omega
 refine⟨ws[d.toNat],?_,D7 hk⟩
 have q:=L2.gU (fm hk)
 rw[<-ek] at q
 exact q
theorem jj{st:Hs}{l:Nat}{o o':Ob}(h:st[l]? =some o):(st.set l o')[l]? =some o':=pS (List.getElem?_eq_some_iff.mp h).1
theorem FO{st:Hs}{l:Nat}{o o':Ob}(h:st[l]? =some o):(st++[o'])[l]? =some o:=by rw[eO (List.getElem?_eq_some_iff.mp h).1];exact h
theorem Aq{st:Hs}{l:Nat}{ws:List Wv}(h:st[l]? =some (.lst ws)):av st l=some ws:=by unfold av;rw[h]
theorem c7{st:Hs}{l:Nat}{o:Ob}(h:st[l]? =some o):l < st.length:=(List.getElem?_eq_some_iff.mp h).1
theorem dY{st:Hs}{o:Ob}:(st++[o])[st.length]? =some o:=by simp
@[simp] theorem YE{i:Int}{st:Hs}:UA [.int i] st= .ok (.int (if i < 0 then -i else i)) st:=rfl
@[simp] theorem RF{l:Nat}{st:Hs}{ns:List Int}(h:av st l=some (ns.map Wv.int)):D4 [.ref l] st= .ok (.int ns.sum) st:=by
 show(match av st l with | some ws=>(match intsOf ws with | some ns=>Re.ok (Wv.int ns.sum) st | none=> .bad) | none=> .bad)=_
 rw[h]
 dsimp only
 rw[qx]
theorem Jv{lo:Int}{n:Nat}{w:Wv}(h:w∈bO lo n):∃k:Int,w= .int k/\lo<=k/\k < lo+n:=by
 unfold bO at h
 obtain⟨k,hk,rfl⟩:=List.mem_map.mp h
 have:=List.mem_range.mp hk
 exact⟨lo+k,rfl,by omega,by omega⟩
theorem rQ{i:Int}(h1:-1000000<=i)(h2:i<=1000000):cg i:=⟨by omega,by omega⟩
@[simp] theorem Tu{F:List Wv->Hs->Re Wv}{st:Hs}:tq 0 F [] st=F [] st:=rfl
theorem tu{w:Wk}{gt:Wv->Hs->Re Bool}{ge:Wv->Hs->Re Wv}{rr:Nat}(P:Hs->Prop)(E:Wv->Prop)(hP:∀st acc,P st->P (st.set rr (.lst acc)))(hck:∀st,P st->jd w st) :
  ∀(ws:List Wv),(∀v∈ws,∀st acc,P st->st[rr]? =some (.lst acc)->∃st1,gt v st= .ok true st1/\P st1/\st1[rr]? =some (.lst acc)/\∃u st2,ge v st1= .ok u st2/\E u/\P st2/\st2[rr]? =some (.lst acc))->
   ∀(acc:List Wv)(st:Hs),P st->st[rr]? =some (.lst acc)->acc.length+ws.length < lim->(∀a∈acc,E a)->∃st' acc',iX (jd w) gt ge rr ws st=some st'/\P st'/\st'[rr]? =some (.lst acc')/\(∀a∈acc',E a)/\acc'.length=acc.length+ws.length
 | [],_,acc,st,hp,hg,_,ha=>⟨st,acc,rfl,hp,hg,ha,rfl⟩
 | v::r,step,acc,st,hp,hg,hl,ha=>by
  obtain⟨st1,e1,p1,g1,u,st2,e2,hu,p2,g2⟩:=step v bu st acc hp hg
  have hl':acc.length+(r.length+1) < lim:=hl
  obtain⟨st3,VM,f1,f2,f3,f4,f5⟩:=tu P E hP hck r (λv hv=>step v (aN _ hv)) (acc++[u]) (st2.set rr (.lst (acc++[u]))) (hP _ _ p2) (jj g2) (by simp;omega) (by
   intro a h
   rcases List.mem_append.mp h with z | z
   ·exact ha a z
   ·simp at z;rw[z];exact hu)
  refine⟨st3,VM,?_,f2,f3,f4,?_⟩
  ·unfold iX
   rw[e1]
   dsimp only
   rw[e2]
   dsimp only
   rw[FK g2 (by omega)]
   dsimp only
   rw[if_pos (hck _ (hP _ _ p2)),f1]
  ·rw[f5];simp;omega
def Gr(st st':Hs):Prop:=st.length<=st'.length/\∀k,k < st.length->st'[k]? =st[k]?
theorem Gr.refl{st:Hs}:Gr st st:=⟨aq _,λ_ _=>rfl⟩
theorem Gr.trans{a b c:Hs}(h:Gr a b)(k:Gr b c):Gr a c:=⟨bp h.1 k.1,λj h1=>(k.2 j (a9 h1 h.1)).trans (h.2 j h1)⟩
theorem Gr.push{st:Hs}{o:Ob}:Gr st (st++[o]):=⟨by simp,λk h=>eO h⟩
theorem Gr.app{st xs:Hs}:Gr st (st++xs):=⟨by simp,λk h=>eO h⟩
theorem Gr.lst{st st':Hs}(k:Gr st st'){j:Nat}{ws:List Wv}(h:av st j=some ws):av st' j=some ws:=by
 unfold av at h ⊢
 rw[k.2 j (ng (st:=st) (ws:=ws) (by unfold av;exact h))]
 exact h
theorem Gr.get{st st':Hs}(k:Gr st st'){j:Nat}{o:Ob}(h:st[j]? =some o):st'[j]? =some o:=by rw[k.2 j (c7 h)];exact h
theorem Gr.keep{st st':Hs}{l:Nat}(k:Gr st st'):dB l st st':=⟨k.1,λj h _=>k.2 j h⟩
theorem Gr.yh{st s1 s2:Hs}{l:Nat}(h:st.length<=l)(g:Gr st s1)(k:dB l s1 s2):Gr st s2:=⟨bp g.1 k.1,λj h1=>(k.2 j (a9 h1 g.1) (by omega)).trans (g.2 j h1)⟩
theorem FP{i:Int}:bE (.int i) (.int i)=true:=by simp[bE]
theorem FQ{x:PySem.Str}:bE (.str x) (.str x)=true:=by simp[bE]
@[simp] theorem KG{i j:Int}{st:Hs}:jK [.int i,.int j] st= .ok (.int (if j > i then j else i)) st:=rfl
@[simp] theorem KH{i j:Int}{st:Hs}:lE [.int i,.int j] st= .ok (.int (if j < i then j else i)) st:=rfl
def KI(kvs:Dc):Wv->Hs->Re Wv:=λa st1=>match a with
 | .str k=>(match kvs.lookup k with | some w=> .ok w st1 | none=> .bad)
 | _=> .bad
@[simp] theorem VN{kvs:Dc}{ga:GE}{ρ:bH}{st:Hs}:zJ kvs ga ρ st=(ga ρ st).bind (KI kvs):=rfl
theorem Jw{kvs:Dc}{k:PySem.Str}{w:Wv}{st:Hs}(h:kvs.lookup k=some w):KI kvs (.str k) st= .ok w st:=by
 show(match kvs.lookup k with | some w=>Re.ok w st | none=> .bad)=_
 rw[h]
open PySem L2
theorem ln1{fd:ac7}{ps:List Str}(us:List adb)(hl:us.length=1)(h:∀a0:adb,bindArgs fd { pos:=[a0] }=pure (ps.zip [a0])):bindArgs fd { pos:=us }=pure (ps.zip us):=match us,hl with | [a0],_=>h a0
theorem ln2{fd:ac7}{ps:List Str}(us:List adb)(hl:us.length=2)(h:∀a0 a1:adb,bindArgs fd { pos:=[a0,a1] }=pure (ps.zip [a0,a1])):bindArgs fd { pos:=us }=pure (ps.zip us):=match us,hl with | [a0,a1],_=>h a0 a1
theorem VO{fd:ac7}{ps:List Str}(us:List adb)(hl:us.length=3)(h:∀a0 a1 a2:adb,bindArgs fd { pos:=[a0,a1,a2] }=pure (ps.zip [a0,a1,a2])):bindArgs fd { pos:=us }=pure (ps.zip us):=match us,hl with | [a0,a1,a2],_=>h a0 a1 a2
theorem ln4{fd:ac7}{ps:List Str}(us:List adb)(hl:us.length=4)(h:∀a0 a1 a2 a3:adb,bindArgs fd { pos:=[a0,a1,a2,a3] }=pure (ps.zip [a0,a1,a2,a3])):bindArgs fd { pos:=us }=pure (ps.zip us):=match us,hl with | [a0,a1,a2,a3],_=>h a0 a1 a2 a3
abbrev HB(P:ac9)(w:ade)(K:PySem.W.Frag)(mg:Str->Option adb)(k:Nat)(x:Str)(n:Nat)(F:List Wv->Hs->Re Wv):Prop:=∀base:Heap,jP K mg base->rM P w K mg base k x n F
theorem rM.mo{P:ac9}{w:ade}{K:PySem.W.Frag}{mg:Str->Option adb}{base:Heap}{j k:Nat}{x:Str}{n:Nat}{F:List Wv->Hs->Re Wv}(h:rM P w K mg base j x n F)(l:j<=k:=by first | decide | omega):rM P w K mg base k x n F:=h.mono l
theorem hdf{P:ac9}{w:ade}{K:PySem.W.Frag}{mg:Str->Option adb}{base:Heap}{h:Heap}{k:Nat}{c:Ct}{x:Str}{st:Stmt}{ps:List Str}{g:GS}(KX:K.In h)(NS:h.Ns adn mg)(D:bj K x st)(T:wB c k P w K mg base)
  (S:FnScope c.N ps (defScope st))(hg:aX 30 c (defBody st)=g)(hM:c.self∈a_->jP K mg base/\c.self=x:=by exact λz=>absurd (show("":Str)∈a_ from z) (by decide))(hn:(defScope st).names=c.names:=by exact rfl)
  (hb:∀(kV doc pm:adb)(an:Option ac5)(cdv ct:adb)(us:List adb),us.length=ps.length->bindArgs (PySem.W.fnOf x x (defArgs st) (defBody st) (defScope st) .none kV doc pm an cdv ct) ⟨us,[]⟩=pure (ps.zip us):=by intro _ _ _ _ _ _ us hl;first | exact ln1 us hl λ_=>rfl | exact ln2 us hl λ_ _=>rfl | exact VO us hl λ_ _ _=>rfl | exact ln4 us hl λ_ _ _ _=>rfl | exact ln5 us hl λ_ _ _ _ _=>rfl | exact ln6 us hl λ_ _ _ _ _ _=>rfl | exact ln7 us hl λ_ _ _ _ _ _ _=>rfl) :
  rM P w K mg base (k+1) x ps.length (bY c.N.length g):=Js KX NS D T S hn hg hb hM
theorem tk{c:Ct}{k:Nat}{P:ac9}{w:ade}{K:PySem.W.Frag}{mg:Str->Option adb}{base:Heap}(ht:TabOk K c.tb c.tt c.tc)(hf:AllP (λp=>rM P w K mg base k p.1 p.2.1 p.2.2) c.fns:=by exact trivial)(hc:AllP (λp=>z_ K mg p.1 p.2) c.consts:=by exact trivial)(hb:AllP (λx=>mg x=none) c.bl:=by exact trivial)
  (hk:AllP (λx=>∃C,mg x=some (.ref C)/\DG K x C) c.clss:=by exact trivial)(hn:AllP (λx=>∃C,mg x=some (.ref C)/\ClsAt K x C) c.xZ:=by exact trivial)(hd:AllP (λp=>vW K w mg p.1 p.2) c.x8:=by exact trivial)
  (hu:AllP (λx=>∀n F,c.fns.lookup x=some (n,F)->ID P w K mg base k x n F) c.Cf:=by exact trivial)(hx:uM c k P w K mg base:=by exact uM.no rfl rfl rfl rfl):wB c k P w K mg base:=wC hc hb hf ht hk hn hd hu hx
end J
namespace K59
open PySem J
open L2 (defScope defBody defArgs FnScope CX0 FnOk XK Hp)
def top (i:Nat):Stmt:=PySem.Challenge.pw_onelook_k59_blocks_copied.main.body.getD i (.Pass ⟨0,0,0,0⟩)
def lr:Tab:=[(("BadArea","BadArea"),true),(("BadArea","BadPlace"),false),(("BadArea","NoRoom"),false),(("BadPlace","BadArea"),false),(("BadPlace","BadPlace"),true),(("BadPlace","NoRoom"),false),(("NoRoom","BadArea"),false),(("NoRoom","BadPlace"),false),(("NoRoom","NoRoom"),true)]
def n5:uo:=[(("BadArea","ValueError"),true),(("BadPlace","ValueError"),true),(("NoRoom","ValueError"),true)]
def bF:Dc:=[("num",.int 0),("text",.int 0),("lost",.int 0),("at",.int 0),("minus",.int 1),("not",.int 1),("+",.int 2),("-",.int 2),("*",.int 2),("/",.int 2),("&",.int 2),("<",.int 2),("=",.int 2),("rest",.int 2),("if",.int 3),("else",.int 2),("sum",.int 0),("count",.int 0),("least",.int 0),("greatest",.int 0),("find",.int 1)]
def FR:Tab:=[]
def cB(s:Stmt)(n b:List Str)(f:List (Str×Nat×(List Wv->Hs->Re Wv))):Ct:={ N:=n,names:=(defScope s).names,consts:=[],bl:=b,fns:=f,tb:=lr,tt:=n5,tc:=FR }
theorem i6{N P:List Str}{sc:Scope}(h:sc.kind= .function/\sc.isCoroutine=false/\sc.isGenerator=false/\N.take P.length=P)(k:N.Nodup/\(∀x∈P,sc.names.lookup x=some .local\/sc.names.lookup x=some .cell)/\∀y∈sc.names,y.2≠.free):FnScope N P sc:=⟨h.1,h.2.1,h.2.2.1,k.1,h.2.2.2,k.2.1,k.2.2⟩
abbrev e_:Stmt:=top 39
def gK:GS:=(aD (jJ (cC (ag oLt (af 1) (aU jY (aa (af 0) aj)))) (aP (ag aS (af 0) (af 1))) bt)
  (aP (gC (.int 0))))
def bW:List Wv->Hs->Re Wv:=bY 2 gK
def gL:Ct:=cB e_ ["script","k"] ["len"] []
theorem qW:aX 30 (gL) (defBody e_)=gK:=by kernel_rfl
theorem pb:FnScope (gL).N ["script","k"] (defScope e_):=i6 ⟨rfl,rfl,rfl,rfl⟩ (by decide+kernel)
abbrev hR:Stmt:=top 50
def ka:GS:=(aD (aY 1 (ag fZ (au 2 bW (aa (af 0) (aa (gC (.int 0)) aj))) (gC (.int 2))))
  (aP (cA (aa (ag aS (jV (aa (gC (.int 0)) (aa (ag oMod (ag fZ (af 1) (gC (.int 4))) (gC (.int 97))) aj))) (ag oMod (af 1) (gC (.int 2)))) (aa (ag aS (jV (aa (gC (.int 0)) (aa (ag oMod (ag fZ (af 1) (gC (.int 400))) (gC (.int 23))) aj))) (ag oMod (ag fZ (af 1) (gC (.int 2))) (gC (.int 2)))) aj)))))
def cI:List Wv->Hs->Re Wv:=bY 2 ka
def kc:Ct:=cB hR ["script","first"] [] [("_law_cell_at",2,bW)]
theorem wG:aX 30 (kc) (defBody hR)=ka:=by kernel_rfl
theorem uP:FnScope (kc).N ["script"] (defScope hR):=i6 ⟨rfl,rfl,rfl,rfl⟩ (by decide+kernel)
abbrev gj:Stmt:=top 42
def jk:GS:=(aD (aY 2 (ag oMod (ag aS (af 0) (gC (.int 0))) (af 1)))
  (aD (zf (ag fZ (ag aS (af 0) (gC (.int 0))) (af 1)) (af 0) (gC (.int 0)))
  (aP (af 2))))
def ao:List Wv->Hs->Re Wv:=bY 3 jk
def jl:Ct:=cB gj ["row","many","digit"] [] []
theorem uQ:aX 30 (jl) (defBody gj)=jk:=by kernel_rfl
theorem rR:FnScope (jl).N ["row","many"] (defScope gj):=i6 ⟨rfl,rfl,rfl,rfl⟩ (by decide+kernel)
abbrev hU:Stmt:=top 44
def ke:GS:=(aD (aY 2 (au 2 ao (aa (af 0) (aa (gC (.int 3)) aj))))
  (aD (aY 3 (au 2 ao (aa (af 0) (aa (gC (.int 4)) aj))))
  (aD (aY 4 (ag br (af 2) (au 2 ao (aa (af 0) (aa (ag cV (gC (.int 3)) (af 2)) aj)))))
  (aD (aY 5 (ag br (af 3) (au 2 ao (aa (af 0) (aa (ag cV (gC (.int 4)) (af 3)) aj)))))
  (aP (cA (aa (ag br (ag aS (af 1) (gC (.int 0))) (af 2)) (aa (ag br (ag aS (af 1) (gC (.int 1))) (af 3)) (aa (ag br (ag aS (af 1) (gC (.int 0))) (af 4)) (aa (ag br (ag aS (af 1) (gC (.int 1))) (af 5)) aj))))))))))
def bI:List Wv->Hs->Re Wv:=bY 6 ke
def kf:Ct:=cB hU ["row","spot","top","left","bottom","right"] [] [("_law_digit",2,ao)]
theorem wH:aX 30 (kf) (defBody hU)=ke:=by kernel_rfl
theorem uR:FnScope (kf).N ["row","spot"] (defScope hU):=i6 ⟨rfl,rfl,rfl,rfl⟩ (by decide+kernel)
abbrev hV:Stmt:=top 45
def fX:GT:=(λ_ st=> .ok true st)
def dZ:GE:=(au 2 ao (aa (af 1) (aa (gC (.int 2)) aj)))
def kg:GS:=(aP (aU gY (aa (j7 [("row",0)] (Ij (aa (af 1) aj)) fX dZ) aj)))
def bJ:List Wv->Hs->Re Wv:=bY 2 kg
def kh:Ct:=cB hV ["row","many"] ["tuple","range"] [("_law_digit",2,ao)]
theorem wI:aX 30 (kh) (defBody hV)=kg:=by kernel_rfl
theorem uS:FnScope (kh).N ["row","many"] (defScope hV):=i6 ⟨rfl,rfl,rfl,rfl⟩ (by decide+kernel)
abbrev fF:Stmt:=top 46
def iE:GS:=(aD (jJ (cC (ag oEq (au 2 ao (aa (af 0) (aa (gC (.int 5)) aj))) (gC (.int 0)))) (aP (ag cV (ag qi (gC (.int 10)) (gC (.int 60))) (au 2 ao (aa (af 0) (aa (gC (.int 3)) aj))))) bt)
  (aP (au 2 ao (aa (af 0) (aa (gC (.int 6)) aj)))))
def dP:List Wv->Hs->Re Wv:=bY 1 iE
def iF:Ct:=cB fF ["row"] [] [("_law_digit",2,ao)]
theorem rS:aX 30 (iF) (defBody fF)=iE:=by kernel_rfl
theorem qX:FnScope (iF).N ["row"] (defScope fF):=i6 ⟨rfl,rfl,rfl,rfl⟩ (by decide+kernel)
abbrev gn:Stmt:=top 43
def jm:GS:=(aP (cA (aa (ag br (ag aS (af 1) (gC (.int 0))) (au 2 ao (aa (af 0) (aa (gC (.int 3)) aj)))) (aa (ag br (ag aS (af 1) (gC (.int 1))) (au 2 ao (aa (af 0) (aa (gC (.int 4)) aj)))) aj))))
def cL:List Wv->Hs->Re Wv:=bY 2 jm
def jn:Ct:=cB gn ["row","spot"] [] [("_law_digit",2,ao)]
theorem uT:aX 30 (jn) (defBody gn)=jm:=by kernel_rfl
theorem rT:FnScope (jn).N ["row","spot"] (defScope gn):=i6 ⟨rfl,rfl,rfl,rfl⟩ (by decide+kernel)
abbrev hX:Stmt:=top 47
def ki:GS:=(aD (aY 2 (au 2 ao (aa (af 0) (aa (gC (.int 8)) aj))))
  (aD (jJ (cC (ag oEq (af 2) (gC (.int 0)))) (aP (cA (aa (gC (.str "num")) (aa (au 1 dP (aa (af 0) aj)) aj)))) bt)
  (aD (jJ (cC (ag oEq (af 2) (gC (.int 1)))) (aP (cA (aa (gC (.str "text")) (aa (ag aS (jV (aa (gC (.str "")) (aa (gC (.str "a")) (aa (gC (.str "b7")) (aa (gC (.str "no")) aj))))) (au 2 ao (aa (af 0) (aa (gC (.int 4)) aj)))) aj)))) bt)
  (aD (jJ (HD (cC (ag oEq (af 2) (gC (.int 2)))) (cC (ag oEq (au 2 ao (aa (af 0) (aa (gC (.int 3)) aj))) (gC (.int 0))))) (aP (cA (aa (gC (.str "lost")) aj))) bt)
  (aD (jJ (cC (ag oLt (af 2) (gC (.int 6)))) (aP (cA (aa (gC (.str "at")) (aa (au 2 cL (aa (af 0) (aa (af 1) aj))) (aa (au 2 bJ (aa (af 0) (aa (gC (.int 2)) aj))) aj))))) bt)
  (aP (cA (aa (ag aS (jV (aa (gC (.str "sum")) (aa (gC (.str "count")) (aa (gC (.str "least")) (aa (gC (.str "greatest")) aj))))) (au 2 ao (aa (af 0) (aa (gC (.int 4)) aj)))) (aa (au 2 bI (aa (af 0) (aa (af 1) aj))) (aa (au 2 bJ (aa (af 0) (aa (gC (.int 4)) aj))) aj))))))))))
def eF:List Wv->Hs->Re Wv:=bY 3 ki
def kj:Ct:=cB hX ["row","spot","way"] [] [("_law_digit",2,ao),("_law_area",2,bI),("_law_pins",2,bJ),("_law_number",1,dP),("_law_place",2,cL)]
theorem wJ:aX 30 (kj) (defBody hX)=ki:=by kernel_rfl
theorem uU:FnScope (kj).N ["row","spot"] (defScope hX):=i6 ⟨rfl,rfl,rfl,rfl⟩ (by decide+kernel)
abbrev fb:Stmt:=top 48
def fc(aH:List Wv->Hs->Re Wv):GS:=(aD (jJ (cC (ag oEq (af 2) (gC (.int 0)))) (aP (au 2 eF (aa (af 0) (aa (af 1) aj)))) bt)
  (aD (aY 3 (au 2 ao (aa (af 0) (aa (gC (.int 16)) aj))))
  (aD (jJ (cC (ag oLt (af 3) (gC (.int 3)))) (aP (au 2 eF (aa (af 0) (aa (af 1) aj)))) bt)
  (aD (aY 4 (au 3 aH (aa (af 0) (aa (af 1) (aa (ag cV (af 2) (gC (.int 1))) aj)))))
  (aD (jJ (cC (ag oLt (af 3) (gC (.int 5)))) (aP (cA (aa (ag aS (jV (aa (gC (.str "minus")) (aa (gC (.str "not")) aj))) (ag cV (af 3) (gC (.int 3)))) (aa (af 4) aj)))) bt)
  (aD (jJ (cC (ag oEq (af 3) (gC (.int 5)))) (aP (cA (aa (gC (.str "find")) (aa (af 4) (aa (au 2 bI (aa (af 0) (aa (af 1) aj))) (aa (au 2 bJ (aa (af 0) (aa (gC (.int 4)) aj))) aj)))))) bt)
  (aD (aY 5 (au 3 aH (aa (af 0) (aa (af 1) (aa (ag cV (af 2) (gC (.int 1))) aj)))))
  (aD (jJ (cC (ag oLt (af 3) (gC (.int 8)))) (aP (cA (aa (gC (.str "if")) (aa (af 4) (aa (af 5) (aa (au 3 aH (aa (af 0) (aa (af 1) (aa (ag cV (af 2) (gC (.int 1))) aj)))) aj)))))) bt)
  (aD (jJ (cC (ag oEq (af 3) (gC (.int 15)))) (aP (cA (aa (ag aS (jV (aa (gC (.str "=")) (aa (gC (.str "&")) aj))) (au 2 ao (aa (af 0) (aa (gC (.int 2)) aj)))) (aa (af 4) (aa (af 5) aj))))) bt)
  (aP (cA (aa (ag aS (jV (aa (gC (.str "else")) (aa (gC (.str "rest")) (aa (gC (.str "+")) (aa (gC (.str "-")) (aa (gC (.str "*")) (aa (gC (.str "/")) (aa (gC (.str "<")) aj)))))))) (ag cV (af 3) (gC (.int 8)))) (aa (af 4) (aa (af 5) aj))))))))))))))
def kl(aH:List Wv->Hs->Re Wv):Ct where
  N:=["row","spot","deep","way","one","other"]
  names:=(defScope fb).names
  consts:=[]
  bl:=[]
  fns:=[("_law_digit",2,ao),("_law_formula",3,aH),("_law_leaf",2,eF),("_law_area",2,bI),("_law_pins",2,bJ)]
  tb:=lr
  tt:=n5
  tc:=FR
theorem qY(aH:List Wv->Hs->Re Wv):aX 30 (kl aH) (defBody fb)=fc aH:=by kernel_rfl
theorem pe(aH:List Wv->Hs->Re Wv):FnScope ["row","spot","deep","way","one","other"] ["row","spot","deep"] (defScope fb):=i6 ⟨rfl,rfl,rfl,rfl⟩ (by decide+kernel)
def jM:Nat->(List Wv->Hs->Re Wv)
  | 0=>IH
  | n+1=>bY 6 (fc ((jM n)))
def bK(n:Nat):List Wv->Hs->Re Wv:=(jM n)
theorem lA(n:Nat):bK (n+1)=bY 6 (fc (bK n)):=rfl
def aH:List Wv->Hs->Re Wv:=bK 6
abbrev fe:Stmt:=top 49
def gM:GS:=(aD (aY 3 (au 2 ao (aa (af 0) (aa (gC (.int 8)) aj))))
  (aD (jJ (cC (ag oEq (af 3) (gC (.int 0)))) (aP (gC .bz)) bt)
  (aD (jJ (cC (ag oEq (af 3) (gC (.int 1)))) (aP (ag cV (au 2 ao (aa (af 0) (aa (ag br (ag cG (gC (.int 2)) (ag qi (gC (.int 10)) (gC (.int 60)))) (gC (.int 1))) aj))) (ag qi (gC (.int 10)) (gC (.int 60))))) bt)
  (aD (jJ (cC (ag oEq (af 3) (gC (.int 2)))) (aP (ag cV (au 2 ao (aa (af 0) (aa (gC (.int 5)) aj))) (gC (.int 1)))) bt)
  (aD (jJ (cC (ag oEq (af 3) (gC (.int 3)))) (aP (ag aS (jV (aa (gC (.str "")) (aa (gC (.str "a")) (aa (gC (.str "b7")) (aa (gC (.str "no")) aj))))) (au 2 ao (aa (af 0) (aa (gC (.int 4)) aj))))) bt)
  (aP (au 3 aH (aa (af 0) (aa (af 1) (aa (af 2) aj))))))))))
def cH:List Wv->Hs->Re Wv:=bY 4 gM
def gN:Ct:=cB fe ["row","spot","deep","way"] [] [("_law_digit",2,ao),("_law_formula",3,aH)]
theorem qZ:aX 30 (gN) (defBody fe)=gM:=by kernel_rfl
theorem pf:FnScope (gN).N ["row","spot","deep"] (defScope fe):=i6 ⟨rfl,rfl,rfl,rfl⟩ (by decide+kernel)
abbrev gq:Stmt:=top 40
def jo:GS:=(aD (aY 2 (ag oMod (ag cG (ag br (ag br (ag oMod (af 0) (gC (.int 1000000007))) (ag cG (gC (.int 7919)) (af 1))) (gC (.int 1))) (gC (.int 48271))) (gC (.int 2147483647))))
  (aP (ag oMod (ag cG (ag oMod (ag cG (af 2) (af 2)) (gC (.int 2147483629))) (gC (.int 69621))) (gC (.int 2147483647)))))
def ff:List Wv->Hs->Re Wv:=bY 3 jo
def jq:Ct:=cB gq ["cell","k","stir"] [] []
theorem uV:aX 30 (jq) (defBody gq)=jo:=by kernel_rfl
theorem rV:FnScope (jq).N ["cell","k"] (defScope gq):=i6 ⟨rfl,rfl,rfl,rfl⟩ (by decide+kernel)
abbrev fG:Stmt:=top 41
def dC:GS:=(aY 4 (ag br (ag cG (af 4) (gC (.int 2147483647))) (au 2 ff (aa (ag br (af 2) (aU D4 (aa (af 0) aj))) (aa (ag br (ag cG (gC (.int 8)) (af 1)) (af 3)) aj)))))
def bU:GS:=(aY 2 (ag br (ag cG (af 2) (ag qi (gC (.int 10)) (gC (.int 60)))) (ag oMod (ag aS (af 0) (af 3)) (ag qi (gC (.int 10)) (gC (.int 60))))))
def iG:GS:=(aD (aY 2 (gC (.int 0)))
  (aD (qI 3 (aa (ag br (af 1) (gC (.int 1))) (aa (aU jY (aa (af 0) aj)) (aa (gC (.int 13)) aj))) bU)
  (aD (jJ (cC (ag oEq (ag oMod (au 2 bW (aa (af 0) (aa (gC (.int 0)) aj))) (gC (.int 2))) (gC (.int 1)))) (aP (jV (aa (af 2) aj))) bt)
  (aD (aY 4 (gC (.int 0)))
  (aD (iB 3 (aa (gC (.int 8)) aj) dC)
  (aP (jV (aa (ag fZ (af 4) (gC (.int 8))) aj))))))))
def cq:List Wv->Hs->Re Wv:=bY 5 iG
def iH:Ct:=cB fG ["script","k","cell","j","found"] ["range","len","sum"] [("_law_cell_at",2,bW),("_law_mixed",2,ff)]
theorem rW:aX 30 (iH) (defBody fG)=iG:=by kernel_rfl
theorem q8:FnScope (iH).N ["script","k"] (defScope fG):=i6 ⟨rfl,rfl,rfl,rfl⟩ (by decide+kernel)
abbrev gA:Stmt:=top 51
def d_:GS:=(aD (aY 5 (au 3 cH (aa (au 2 cq (aa (af 0) (aa (af 4) aj))) (aa (af 2) (aa (af 1) aj)))))
  (jJ (cC (ag qj (af 5) (gC .bz))) (mW (af 5) (af 3) (cA (aa (ag br (ag aS (af 2) (gC (.int 0))) (ag fZ (af 4) (gC (.int 4)))) (aa (ag br (ag aS (af 2) (gC (.int 1))) (ag oMod (af 4) (gC (.int 4)))) aj)))) bt))
def gB:GS:=(aD (aY 2 (au 1 cI (aa (af 0) aj)))
  (aD (aY 3 oK)
  (aD (iB 4 (aa (gC (.int 12)) aj) d_)
  (aP (af 3)))))
def fg:List Wv->Hs->Re Wv:=bY 6 gB
def jr:Ct:={ cB gA ["script","deep","spot","cells","k","content"] ["range"] [("_law_spot",1,cI),("_law_content",3,cH),("_law_stream",2,cq)] with w6:=["cells"] }
theorem uW:aX 30 (jr) (defBody gA)=gB:=by kernel_rfl
theorem rX:FnScope (jr).N ["script","deep"] (defScope gA):=i6 ⟨rfl,rfl,rfl,rfl⟩ (by decide+kernel)
abbrev fH:Stmt:=top 55
def bQ:GS:=(aD (aY 2 (au 2 ao (aa (af 0) (aa (gC (.int 4)) aj))))
  (aD (aY 3 (ag cV (ag aS (af 1) (gC (.int 2))) (ag aS (af 1) (gC (.int 0)))))
  (aD (aY 4 (ag cV (ag aS (af 1) (gC (.int 3))) (ag aS (af 1) (gC (.int 1)))))
  (aD (jJ (cC (ag oEq (af 2) (gC (.int 0)))) (aP (cA (aa (ag cV (gC (.int 98)) (af 3)) (aa (ag cV (gC (.int 25)) (af 4)) aj)))) bt)
  (aD (jJ (cC (ag oEq (af 2) (gC (.int 1)))) (aP (cA (aa (au 2 ao (aa (af 0) (aa (ag cV (gC (.int 99)) (af 3)) aj))) (aa (au 2 ao (aa (af 0) (aa (ag cV (gC (.int 26)) (af 4)) aj))) aj)))) bt)
  (aD (aY 5 (ag cV (ag br (ag aS (af 1) (gC (.int 0))) (au 2 ao (aa (af 0) (aa (gC (.int 5)) aj)))) (gC (.int 2))))
  (aD (aY 6 (ag cV (ag br (ag aS (af 1) (gC (.int 1))) (au 2 ao (aa (af 0) (aa (gC (.int 5)) aj)))) (gC (.int 2))))
  (aP (cA (aa (aU jK (aa (gC (.int 0)) (aa (aU lE (aa (ag cV (gC (.int 98)) (af 3)) (aa (af 5) aj))) aj))) (aa (aU jK (aa (gC (.int 0)) (aa (aU lE (aa (ag cV (gC (.int 25)) (af 4)) (aa (af 6) aj))) aj))) aj)))))))))))
def fI:List Wv->Hs->Re Wv:=bY 7 bQ
def iI:Ct:=cB fH ["row","area","way","high","wide","down","aside"] ["max","min"] [("_law_digit",2,ao)]
theorem rY:aX 30 (iI) (defBody fH)=bQ:=by kernel_rfl
theorem q9:FnScope (iI).N ["row","area"] (defScope fH):=i6 ⟨rfl,rfl,rfl,rfl⟩ (by decide+kernel)
abbrev ju:Stmt:=top 53
def dQ:GS:=(sL (sP oZ (af 4) (ag br (ag aS (af 0) (af 5)) (ag cG (ag cV (gC (.int 1)) (ag aS (af 1) (af 5))) (ag cV (ag aS (af 3) (ag oMod (af 5) (gC (.int 2)))) (ag aS (af 2) (ag oMod (af 5) (gC (.int 2)))))))))
def jv:GS:=(aD (aY 4 (jV aj))
  (aD (iB 5 (aa (aU jY (aa (af 0) aj)) aj) dQ)
  (aP (aU gY (aa (af 4) aj)))))
def ft:List Wv->Hs->Re Wv:=bY 6 jv
def l5:Ct:=cB ju ["lines","pins","here","there","found","k"] ["range","tuple","len"] []
theorem yi:aX 30 (l5) (defBody ju)=jv:=by kernel_rfl
theorem wK:FnScope (l5).N ["lines","pins","here","there"] (defScope ju):=i6 ⟨rfl,rfl,rfl,rfl⟩ (by decide+kernel)
abbrev hZ:Stmt:=top 52
def bL:GS:=(jJ (ud (cC (i_ oLe oLe (gC (.int 0)) (ag aS (af 0) (af 1)) (ag aS (jV (aa (gC (.int 98)) (aa (gC (.int 25)) aj))) (ag oMod (af 1) (gC (.int 2))))))) (aP (gC (.bl false))) bt)
def c9:GS:=(aD (iB 1 (aa (aU jY (aa (af 0) aj)) aj) bL)
  (aD (jJ (cC (ag oEq (aU jY (aa (af 0) aj)) (gC (.int 2)))) (aP (gC (.bl true))) bt)
  (aD (aY 2 (ag br (ag cV (ag aS (af 0) (gC (.int 2))) (ag aS (af 0) (gC (.int 0)))) (gC (.int 1))))
  (aP (lD (ag oLe (ag aS (af 0) (gC (.int 0))) (ag aS (af 0) (gC (.int 2)))) (lD (ag oLe (ag aS (af 0) (gC (.int 1))) (ag aS (af 0) (gC (.int 3)))) (ag oLe (ag cG (af 2) (ag br (ag cV (ag aS (af 0) (gC (.int 3))) (ag aS (af 0) (gC (.int 1)))) (gC (.int 1)))) (gC (.int 300)))))))))
def bR:List Wv->Hs->Re Wv:=bY 3 c9
def kq:Ct:=cB hZ ["lines","k","high"] ["range","len"] []
theorem wL:aX 30 (kq) (defBody hZ)=c9:=by kernel_rfl
theorem uX:FnScope (kq).N ["lines"] (defScope hZ):=i6 ⟨rfl,rfl,rfl,rfl⟩ (by decide+kernel)
abbrev fJ:Stmt:=top 54
def h_(az:List Wv->Hs->Re Wv):GT:=(λ_ st=> .ok true st)
def ic(az:List Wv->Hs->Re Wv):GE:=(au 3 az (aa (af 0) (aa (af 1) (aa (af 2) aj))))
def ie(az:List Wv->Hs->Re Wv):GT:=(λ_ st=> .ok true st)
def ig(az:List Wv->Hs->Re Wv):GE:=(au 3 az (aa (af 0) (aa (af 1) (aa (af 2) aj))))
def cu(az:List Wv->Hs->Re Wv):GS:=(aD (aY 3 (ag aS (af 0) (gC (.int 0))))
  (aD (jJ (cC (ag rO (af 3) (cA (aa (gC (.str "num")) (aa (gC (.str "text")) (aa (gC (.str "lost")) aj)))))) (aP (af 0)) bt)
  (aD (jJ (cC (ag rO (af 3) (cA (aa (gC (.str "at")) (aa (gC (.str "sum")) (aa (gC (.str "count")) (aa (gC (.str "least")) (aa (gC (.str "greatest")) (aa (gC (.str "find")) aj))))))))) (aD (aY 4 (au 4 ft (aa (ag aS (af 0) (HC mK (gC (.int 2)))) (aa (ag aS (af 0) (HC mK (gC (.int 1)))) (aa (af 1) (aa (af 2) aj))))))
    (aD (jJ (ud (jO (au 1 bR (aa (af 4) aj)))) (aP (cA (aa (gC (.str "lost")) aj))) bt)
    (aD (aY 5 (aU gY (aa (j7 [("here",1),("there",2)] (je (fD (af 0) (jX (gC (.int 1))) (jX (HC mK (gC (.int 2)))))) (ie az) (ig az)) aj)))
    (aP (ag br (ag br (cA (aa (af 3) aj)) (af 5)) (cA (aa (af 4) (aa (ag aS (af 0) (HC mK (gC (.int 1)))) aj)))))))) bt)
  (aP (ag br (cA (aa (af 3) aj)) (aU gY (aa (j7 [("here",1),("there",2)] (je (fD (af 0) (jX (gC (.int 1))) jb)) (h_ az) (ic az)) aj)))))))
def lH(az:List Wv->Hs->Re Wv):Ct where
  N:=["formula","here","there","word","lines","inner"]
  names:=(defScope fJ).names
  consts:=[]
  bl:=["tuple"]
  fns:=[("_law_led",4,ft),("_law_fits",1,bR),("_law_copied",3,az)]
  tb:=lr
  tt:=n5
  tc:=FR
theorem rZ(az:List Wv->Hs->Re Wv):aX 30 (lH az) (defBody fJ)=cu az:=by kernel_rfl
theorem q_(az:List Wv->Hs->Re Wv):FnScope ["formula","here","there","word","lines","inner"] ["formula","here","there"] (defScope fJ):=i6 ⟨rfl,rfl,rfl,rfl⟩ (by decide+kernel)
def kr:Nat->(List Wv->Hs->Re Wv)
  | 0=>IH
  | n+1=>bY 6 (cu ((kr n)))
def aC(n:Nat):List Wv->Hs->Re Wv:=(kr n)
theorem cO(n:Nat):aC (n+1)=bY 6 (cu (aC n)):=rfl
def az:List Wv->Hs->Re Wv:=aC 8
abbrev jw:Stmt:=top 56
def cT:GS:=(aD (aY 6 (cA (aa (ag br (ag aS (af 1) (gC (.int 0))) (af 4)) (aa (ag br (ag aS (af 1) (gC (.int 1))) (af 5)) aj))))
  (aD (aY 7 (cA (aa (ag br (ag aS (af 2) (gC (.int 0))) (af 4)) (aa (ag br (ag aS (af 2) (gC (.int 1))) (af 5)) aj))))
  (aD (aY 8 (iD (af 0) (af 6)))
  (aD (jJ (jO (aU (nQ lr n5) (aa (af 8) (aa (gC (.ty "tuple")) aj)))) (aY 8 (au 3 az (aa (af 8) (aa (af 6) (aa (af 7) aj))))) bt)
  (mW (af 8) (af 3) (af 7))))))
def iJ:GS:=(iB 5 (aa (ag br (ag cV (ag aS (af 1) (gC (.int 3))) (ag aS (af 1) (gC (.int 1)))) (gC (.int 1))) aj) cT)
def jy:GS:=(aD (aY 3 oK)
  (aD (iB 4 (aa (ag br (ag cV (ag aS (af 1) (gC (.int 2))) (ag aS (af 1) (gC (.int 0)))) (gC (.int 1))) aj) iJ)
  (aP (af 3))))
def jz:List Wv->Hs->Re Wv:=bY 9 jy
def l6:Ct:={ cB jw ["sheet","area","place","due","down","aside","here","there","content"] ["range","isinstance","tuple"] [("_law_copied",3,az)] with w6:=["sheet","due"] }
theorem yj:aX 30 (l6) (defBody jw)=jy:=by kernel_rfl
theorem wM:FnScope (l6).N ["sheet","area","place"] (defScope jw):=i6 ⟨rfl,rfl,rfl,rfl⟩ (by decide+kernel)
abbrev jA:Stmt:=top 9
def l7:GS:=(aP (lD (i_ oLe oLt (gC (.int 0)) (ag aS (af 0) (gC (.int 0))) (gC (.int 99))) (i_ oLe oLt (gC (.int 0)) (ag aS (af 0) (gC (.int 1))) (gC (.int 26)))))
def bX:List Wv->Hs->Re Wv:=bY 1 l7
def l8:Ct:={ cB jA ["place"] [] [] with consts:=[("ROWS",(.int 99)),("COLUMNS",(.int 26))] }
theorem yk:aX 30 (l8) (defBody jA)=l7:=by kernel_rfl
theorem wN:FnScope (l8).N ["place"] (defScope jA):=i6 ⟨rfl,rfl,rfl,rfl⟩ (by decide+kernel)
abbrev fK:Stmt:=top 15
def iK:GS:=(aD (aY 1 (lD (ag oLe (ag aS (af 0) (gC (.int 0))) (ag aS (af 0) (gC (.int 2)))) (ag oLe (ag aS (af 0) (gC (.int 1))) (ag aS (af 0) (gC (.int 3))))))
  (aP (lD (af 1) (lD (au 1 bX (aa (fD (af 0) jb (jX (gC (.int 2)))) aj)) (au 1 bX (aa (fD (af 0) (jX (gC (.int 2))) jb) aj))))))
def cz:List Wv->Hs->Re Wv:=bY 2 iK
def iL:Ct:=cB fK ["area","in_order"] [] [("is_place",1,bX)]
theorem r8:aX 30 (iL) (defBody fK)=iK:=by kernel_rfl
theorem ra:FnScope (iL).N ["area"] (defScope fK):=i6 ⟨rfl,rfl,rfl,rfl⟩ (by decide+kernel)
abbrev ij:Stmt:=top 16
def ku:GS:=(aP (ag cG (ag br (ag cV (ag aS (af 0) (gC (.int 2))) (ag aS (af 0) (gC (.int 0)))) (gC (.int 1))) (ag br (ag cV (ag aS (af 0) (gC (.int 3))) (ag aS (af 0) (gC (.int 1)))) (gC (.int 1)))))
def fT:List Wv->Hs->Re Wv:=bY 1 ku
def kx:Ct:=cB ij ["area"] [] []
theorem wO:aX 30 (kx) (defBody ij)=ku:=by kernel_rfl
theorem uY:FnScope (kx).N ["area"] (defScope ij):=i6 ⟨rfl,rfl,rfl,rfl⟩ (by decide+kernel)
abbrev kY:Stmt:=top 14
def n6:GS:=(aP (lD (au 1 cz (aa (af 0) aj)) (ag oLe (au 1 fT (aa (af 0) aj)) (gC (.int 300)))))
def fu:List Wv->Hs->Re Wv:=bY 1 n6
def n8:Ct:={ cB kY ["area"] [] [("has_corners",1,cz),("area_many",1,fT)] with consts:=[("MOST_PLACES",(.int 300))] }
theorem BW:aX 30 (n8) (defBody kY)=n6:=by kernel_rfl
theorem ym:FnScope (n8).N ["area"] (defScope kY):=i6 ⟨rfl,rfl,rfl,rfl⟩ (by decide+kernel)
abbrev ik:Stmt:=top 13
def kz:GS:=(aD (aY 4 (cA (aa (af 0) (aa (af 1) (aa (af 2) (aa (af 3) aj))))))
  (aD (jJ (ud (jO (au 1 fu (aa (af 4) aj)))) (nO "BadArea" (aa (gC (.str "corners that are none, or more than 300 places")) aj)) bt)
  (aP (af 4))))
def c_:List Wv->Hs->Re Wv:=bY 5 kz
def kA:Ct:={ cB ik ["top","left","bottom","right","area"] [] [("is_area",1,fu)] with clss:=["BadArea"] }
theorem wQ:aX 30 (kA) (defBody ik)=kz:=by kernel_rfl
theorem uZ:FnScope (kA).N ["top","left","bottom","right"] (defScope ik):=i6 ⟨rfl,rfl,rfl,rfl⟩ (by decide+kernel)
abbrev gD:Stmt:=top 10
def jB:GS:=(aD (jJ (ud (jO (au 1 bX (aa (cA (aa (af 0) (aa (af 1) aj))) aj)))) (nO "BadPlace" (aa (gC (.str "the row or the column is beyond the sheet")) aj)) bt)
  (aP (cA (aa (af 0) (aa (af 1) aj)))))
def fh:List Wv->Hs->Re Wv:=bY 2 jB
def jC:Ct:={ cB gD ["row","column"] [] [("is_place",1,bX)] with clss:=["BadPlace"] }
theorem u0:aX 30 (jC) (defBody gD)=jB:=by kernel_rfl
theorem r9:FnScope (jC).N ["row","column"] (defScope gD):=i6 ⟨rfl,rfl,rfl,rfl⟩ (by decide+kernel)
abbrev fi:Stmt:=top 37
def gO:GS:=(aD (aY 2 (au 4 c_ (aa (ag aS (af 0) (gC (.int 0))) (aa (ag aS (af 0) (gC (.int 1))) (aa (ag aS (af 0) (gC (.int 2))) (aa (ag aS (af 0) (gC (.int 3))) aj))))))
  (aD (aY 3 (au 2 fh (aa (ag aS (af 1) (gC (.int 0))) (aa (ag aS (af 1) (gC (.int 1))) aj))))
  (aD (aY 4 (ag br (af 3) (cA (aa (ag cV (ag br (ag aS (af 3) (gC (.int 0))) (ag aS (af 2) (gC (.int 2)))) (ag aS (af 2) (gC (.int 0)))) (aa (ag cV (ag br (ag aS (af 3) (gC (.int 1))) (ag aS (af 2) (gC (.int 3)))) (ag aS (af 2) (gC (.int 1)))) aj)))))
  (aD (jJ (ud (jO (au 1 cz (aa (af 4) aj)))) (nO "NoRoom" (aa (gC (.str "the block would go beyond the last row or column")) aj)) bt)
  (aP (af 4))))))
def dc:List Wv->Hs->Re Wv:=bY 5 gO
def gP:Ct:={ cB fi ["area","place","made","first","area_now"] [] [("made_area",4,c_),("made_place",2,fh),("has_corners",1,cz)] with clss:=["NoRoom"] }
theorem rb:aX 30 (gP) (defBody fi)=gO:=by kernel_rfl
theorem pg:FnScope (gP).N ["area","place"] (defScope fi):=i6 ⟨rfl,rfl,rfl,rfl⟩ (by decide+kernel)
abbrev dD:Stmt:=top 18
def de:GT:=(λ_ st=> .ok true st)
def cb:GE:=(cA (aa (af 1) (aa (af 0) aj)))
def cE:GS:=(sL (sP wd (af 1) (j7 [("row",2)] (DX (aa (ag aS (af 0) (gC (.int 1))) (aa (ag br (ag aS (af 0) (gC (.int 3))) (gC (.int 1))) aj))) de cb)))
def dE:GS:=(aD (aY 1 (jV aj))
  (aD (um 2 (aa (ag aS (af 0) (gC (.int 0))) (aa (ag br (ag aS (af 0) (gC (.int 2))) (gC (.int 1))) aj)) cE)
  (aP (af 1))))
def dF:List Wv->Hs->Re Wv:=bY 3 dE
def fz:Ct:=cB dD ["area","places","row"] ["range"] []
theorem n9:aX 30 (fz) (defBody dD)=dE:=by kernel_rfl
theorem nh:FnScope (fz).N ["area"] (defScope dD):=i6 ⟨rfl,rfl,rfl,rfl⟩ (by decide+kernel)
abbrev fL:Stmt:=top 17
def fM:GS:=(aP (au 1 dF (aa (au 4 c_ (aa (ag aS (af 0) (gC (.int 0))) (aa (ag aS (af 0) (gC (.int 1))) (aa (ag aS (af 0) (gC (.int 2))) (aa (ag aS (af 0) (gC (.int 3))) aj))))) aj)))
def dR:List Wv->Hs->Re Wv:=bY 1 fM
def iM:Ct:=cB fL ["area"] [] [("places_between",1,dF),("made_area",4,c_)]
theorem r_:aX 30 (iM) (defBody fL)=fM:=by kernel_rfl
theorem rf:FnScope (iM).N ["area"] (defScope fL):=i6 ⟨rfl,rfl,rfl,rfl⟩ (by decide+kernel)
abbrev fN:Stmt:=top 28
def iN:GS:=(aP (aU (nQ lr n5) (aa (iD (af 0) (af 1)) (aa (gC (.ty "tuple")) aj))))
def bG:List Wv->Hs->Re Wv:=bY 2 iN
def iO:Ct:={ cB fN ["sheet","place"] ["isinstance","tuple"] [] with w6:=["sheet"] }
theorem sf:aX 30 (iO) (defBody fN)=iN:=by kernel_rfl
theorem rh:FnScope (iO).N ["sheet","place"] (defScope fN):=i6 ⟨rfl,rfl,rfl,rfl⟩ (by decide+kernel)
abbrev il:Stmt:=top 22
def kC:GS:=(aP (zJ bF (af 0)))
def dh:List Wv->Hs->Re Wv:=bY 1 kC
def kD:Ct:={ cB il ["word"] [] [] with x8:=[("PART_COUNTS",bF)] }
theorem wR:aX 30 (kD) (defBody il)=kC:=by kernel_rfl
theorem u5:FnScope (kD).N ["word"] (defScope il):=i6 ⟨rfl,rfl,rfl,rfl⟩ (by decide+kernel)
abbrev kZ:Stmt:=top 25
def n_:GS:=(aP (fD (af 0) (jX (ag br (gC (.int 1)) (au 1 dh (aa (ag aS (af 0) (gC (.int 0))) aj)))) jb))
def eG:List Wv->Hs->Re Wv:=bY 1 n_
def og:Ct:=cB kZ ["formula"] [] [("part_many",1,dh)]
theorem BX:aX 30 (og) (defBody kZ)=n_:=by kernel_rfl
theorem yn:FnScope (og).N ["formula"] (defScope kZ):=i6 ⟨rfl,rfl,rfl,rfl⟩ (by decide+kernel)
abbrev jD:Stmt:=top 23
def l9:GS:=(aP (ag rO (af 0) (gC (.oV [.str "sum",.str "count",.str "least",.str "greatest",.str "find"]))))
def fA:List Wv->Hs->Re Wv:=bY 1 l9
def l_:Ct:={ cB jD ["word"] [] [] with consts:=[("AREA_WORDS",(.oV [.str "sum",.str "count",.str "least",.str "greatest",.str "find"]))] }
theorem yo:aX 30 (l_) (defBody jD)=l9:=by kernel_rfl
theorem wU:FnScope (l_).N ["word"] (defScope jD):=i6 ⟨rfl,rfl,rfl,rfl⟩ (by decide+kernel)
abbrev jE:Stmt:=top 24
def ma:GS:=(aP (fD (af 0) (jX (gC (.int 1))) (jX (ag br (gC (.int 1)) (au 1 dh (aa (ag aS (af 0) (gC (.int 0))) aj))))))
def di:List Wv->Hs->Re Wv:=bY 1 ma
def md:Ct:=cB jE ["formula"] [] [("part_many",1,dh)]
theorem yp:aX 30 (md) (defBody jE)=ma:=by kernel_rfl
theorem wV:FnScope (md).N ["formula"] (defScope jE):=i6 ⟨rfl,rfl,rfl,rfl⟩ (by decide+kernel)
abbrev gG:Stmt:=top 26
def iP(p:Lm)(L:LF)(bg:List Wv->Hs->Re Wv):GT:=(λ_ st=> .ok true st)
def fO(p:Lm)(L:LF)(bg:List Wv->Hs->Re Wv):GE:=(au 2 bg (aa (af 0) (aa (af 1) aj)))
def gH(p:Lm)(L:LF)(bg:List Wv->Hs->Re Wv):GS:=(aD (aY 2 (ag aS (af 0) (gC (.int 0))))
  (aD (aY 3 (au 1 eG (aa (af 0) aj)))
  (aD (jJ (Mk (cC (ag oEq (af 2) (gC (.str "at")))) (jO (au 1 fA (aa (af 2) aj)))) (aD (aY 4 (lU p 3 L 1 (aa (af 2) (aa (ag aS (af 3) (gC (.int 0))) (aa (ag aS (af 3) (gC (.int 1))) aj)))))
    (aD (jJ (cC (ag Ql (af 4) (gC .bz))) (aP (cA (aa (gC (.str "lost")) aj))) bt)
    (aY 3 (cA (aa (af 4) (aa (ag aS (af 3) (gC (.int 1))) aj)))))) bt)
  (aP (ag br (ag br (cA (aa (af 2) aj)) (aU gY (aa (j7 [("goes",1)] (je (au 1 di (aa (af 0) aj))) (iP p L bg) (fO p L bg)) aj))) (af 3))))))
def tw(p:Lm)(L:LF)(bg:List Wv->Hs->Re Wv):Ct where
  N:=["formula","goes","word","tail","spot"]
  names:=(defScope gG).names
  consts:=[]
  bl:=["tuple"]
  fns:=[("tail_of",1,eG),("has_area",1,fA),("rebuilt",2,bg),("parts_of",1,di)]
  tb:=lr
  tt:=n5
  tc:=FR
  lam:=some (p,L)
theorem BY(p:Lm)(L:LF)(bg:List Wv->Hs->Re Wv):aX 30 (tw p L bg) (defBody gG)=gH p L bg:=by kernel_rfl
theorem yq(p:Lm)(L:LF)(bg:List Wv->Hs->Re Wv):FnScope ["formula","goes","word","tail","spot"] ["formula","goes"] (defScope gG):=i6 ⟨rfl,rfl,rfl,rfl⟩ (by decide+kernel)
def rj(p:Lm)(L:LF):Nat->(List Wv->Hs->Re Wv)
  | 0=>IH
  | n+1=>bY 5 (gH p L ((rj p L n)))
def bw(p:Lm)(L:LF)(n:Nat):List Wv->Hs->Re Wv:=(rj p L n)
theorem gQ(p:Lm)(L:LF)(n:Nat):bw p L (n+1)=bY 5 (gH p L (bw p L n)):=rfl
def bg:OV:=λp L=>bw p L 8
abbrev k_:Stmt:=top 33
def oh:GS:=(aD (aY 1 (vH (cC (ag oEq (aU jY (aa (af 0) aj)) (gC (.int 2)))) (au 1 bX (aa (af 0) aj)) (au 1 fu (aa (af 0) aj))))
  (aP (vH (jO (af 1)) (af 0) (gC .bz))))
def iZ:List Wv->Hs->Re Wv:=bY 2 oh
def oi:Ct:=cB k_ ["spot","is_one"] ["len"] [("is_place",1,bX),("is_area",1,fu)]
theorem BZ:aX 30 (oi) (defBody k_)=oh:=by kernel_rfl
theorem yt:FnScope (oi).N ["spot"] (defScope k_):=i6 ⟨rfl,rfl,rfl,rfl⟩ (by decide+kernel)
abbrev lh:Stmt:=top 32
def cU:GT:=(λ_ st=> .ok true st)
def bS:GE:=(vH (cC (ag oEq (af 1) (gC (.int 1)))) (af 0) (ag br (af 0) (af 2)))
def om:GS:=(aP (aU gY (aa (lT 3 [] (sW (aa (af 0) (aa (af 1) (aa (ag br (af 2) (af 2)) aj)))) cU bS) aj)))
def eI:List Wv->Hs->Re Wv:=bY 3 om
def oo:Ct:=cB lh ["spot","pins","steps"] ["tuple","zip"] []
theorem B1:aX 30 (oo) (defBody lh)=om:=by kernel_rfl
theorem yu:FnScope (oo).N ["spot","pins","steps"] (defScope lh):=i6 ⟨rfl,rfl,rfl,rfl⟩ (by decide+kernel)
abbrev dG:Stmt:=top 31
def eh:GE:=(au 1 iZ (aa (au 3 eI (aa (af 1) (aa (af 2) (aa (af 3) aj)))) aj))
def jF:GS:=(aP (xO bg 1 (af 0) eh))
def fj:List Wv->Hs->Re Wv:=bY 2 jF
def jG:Ct:={ cB dG ["form","place"] [] [("spot_by",1,iZ),("stepped",3,eI)] with vi:=[("rebuilt",bg)],GK:=["spot_by","stepped"],lj:=4,self:="formula_by" }
theorem u6:aX 30 (jG) (defBody dG)=jF:=by kernel_rfl
theorem sg:FnScope (jG).N ["form","place"] (defScope dG):=i6 ⟨rfl,rfl,rfl,rfl⟩ (by decide+kernel)
abbrev gI:Stmt:=top 30
def gE:GE:=(au 3 eI (aa (af 1) (aa (af 2) (aa (af 3) aj))))
def oq:GS:=(aD (aY 2 (cA (aa (HC mK (ag aS (af 1) (gC (.int 0)))) (aa (HC mK (ag aS (af 1) (gC (.int 1)))) aj))))
  (aP (xO bg 2 (af 0) gE)))
def i5:List Wv->Hs->Re Wv:=bY 3 oq
def ou:Ct:={ cB gI ["formula","place","back"] [] [("stepped",3,eI)] with vi:=[("rebuilt",bg)],GK:=["stepped"],lj:=4,self:="form_of" }
theorem B2:aX 30 (ou) (defBody gI)=oq:=by kernel_rfl
theorem yv:FnScope (ou).N ["formula","place"] (defScope gI):=i6 ⟨rfl,rfl,rfl,rfl⟩ (by decide+kernel)
abbrev ni:Stmt:=top 35
def rl:GS:=(aP (au 2 fj (aa (au 2 i5 (aa (af 0) (aa (af 1) aj))) (aa (af 2) aj))))
def gR:List Wv->Hs->Re Wv:=bY 3 rl
def rn:Ct:=cB ni ["formula","here","there"] [] [("formula_by",2,fj),("form_of",2,i5)]
theorem FT:aX 30 (rn) (defBody ni)=rl:=by kernel_rfl
theorem B3:FnScope (rn).N ["formula","here","there"] (defScope ni):=i6 ⟨rfl,rfl,rfl,rfl⟩ (by decide+kernel)
abbrev eo:Stmt:=top 36
def cP:GS:=(mW (vH (jO (au 2 bG (aa (af 0) (aa (af 5) aj)))) (au 3 gR (aa (we (af 0) (af 5)) (aa (af 5) (aa (af 6) aj)))) (iD (af 0) (af 5))) (af 4) (af 6))
def eB:GS:=(aD (aY 3 (au 2 dc (aa (af 1) (aa (af 2) aj))))
  (aD (aY 4 oK)
  (aD (zZ [5,6] (aa (au 1 dR (aa (af 1) aj)) (aa (au 1 dR (aa (af 3) aj)) aj)) cP)
  (aP (af 4)))))
def cS:List Wv->Hs->Re Wv:=bY 7 eB
def fY:Ct:={ cB eo ["sheet","area","place","area_now","changes","here","there"] ["zip"] [("area_come_to",2,dc),("area_places",1,dR),("has_formula",2,bG),("copied",3,gR)] with w6:=["sheet","changes"] }
theorem ph:aX 30 (fY) (defBody eo)=eB:=by kernel_rfl
theorem oy:FnScope (fY).N ["sheet","area","place"] (defScope eo):=i6 ⟨rfl,rfl,rfl,rfl⟩ (by decide+kernel)
abbrev Ar:Stmt:=top 57
def nj:GS:=(aD (aY 5 (au 2 bI (aa (af 3) (aa (af 2) aj))))
  (aD (jJ (cC (ag oEq (af 4) (gC (.int 2)))) (aY 5 (cA (aa (aU jK (aa (gC (.int 0)) (aa (ag cV (ag aS (af 5) (gC (.int 0))) (gC (.int 2))) aj))) (aa (aU jK (aa (gC (.int 0)) (aa (ag cV (ag aS (af 5) (gC (.int 1))) (gC (.int 1))) aj))) (aa (aU lE (aa (gC (.int 98)) (aa (ag br (ag aS (af 5) (gC (.int 2))) (gC (.int 3))) aj))) (aa (aU lE (aa (gC (.int 25)) (aa (ag br (ag aS (af 5) (gC (.int 3))) (gC (.int 2))) aj))) aj)))))) bt)
  (aD (aY 6 (au 2 fI (aa (af 3) (aa (af 5) aj))))
  (aD (aY 7 (aU sY (aa (af 1) aj)))
  (aD (aY 8 (au 3 jz (aa (af 1) (aa (af 5) (aa (af 6) aj)))))
  (aD (aY 9 (au 3 cS (aa (af 1) (aa (af 5) (aa (af 6) aj)))))
  (aD (jJ (Mk (ud (jO (aU (BB lr n5) (aa (af 9) (aa (gC (.ty "dict")) aj))))) (Mk (cC (ag uE (af 9) (af 8))) (cC (ag uE (af 1) (af 7))))) (aP (gC (.bl false))) bt)
  (aD (sL (EW (af 9)))
  (jJ (cC (ag uE (au 3 cS (aa (af 1) (aa (af 5) (aa (af 6) aj)))) (af 8))) (aP (gC (.bl false))) bt)))))))))
def As:GS:=(aD (aY 1 (au 2 fg (aa (af 0) (aa (gC (.int 2)) aj))))
  (aD (aY 2 (au 1 cI (aa (af 0) aj)))
  (aD (aY 3 (au 2 cq (aa (af 0) (aa (gC (.int 12)) aj))))
  (aD (iB 4 (aa (gC (.int 3)) aj) nj)
  (aP (gC (.bl true)))))))
def F_law:List Wv->Hs->Re Wv:=bY 10 As
def FU:Ct:={ cB Ar ["script","sheet","spot","row","turn","area","place","kept","due","found"] ["range","dict","max","min","isinstance"] [("_law_cells",2,fg),("_law_spot",1,cI),("_law_stream",2,cq),("_law_area",2,bI),("_law_target",2,fI),("_law_due",3,jz),("block_changes",3,cS)] with w6:=["sheet","kept","due","found","block_changes()"] }
theorem RG:aX 30 (FU) (defBody Ar)=As:=by kernel_rfl
theorem N0:FnScope (FU).N ["script"] (defScope Ar):=i6 ⟨rfl,rfl,rfl,rfl⟩ (by decide+kernel)
abbrev S:=PySem.Str
def Ro(r:Nat)(st:Hs):Prop:=∃v:Int,st[r]? =some (.lst [.int v])
def Dw(r:Nat)(st st':Hs):Prop:=dB r st st'/\Ro r st'
theorem Dw.trans{r:Nat}{a b c:Hs}(h:Dw r a b)(k:Dw r b c):Dw r a c:=⟨h.1.trans k.1,k.2⟩
theorem Ro.push{r:Nat}{st:Hs}{o:Ob}(h:Ro r st):Ro r (st++[o]):=let ⟨v,e⟩:=h;⟨v,FO e⟩
theorem Ro.gr{r:Nat}{st st':Hs}(h:Ro r st)(g:Gr st st'):Ro r st':=let ⟨v,e⟩:=h;⟨v,g.get e⟩
theorem Dw.of{r:Nat}{st:Hs}(h:Ro r st):Dw r st st:=⟨dB.refl,h⟩
theorem digit{st:Hs}{l:Nat}{n many:Int}(h:st[l]? =some (.lst [.int n]))(hm:many≠0/\many.natAbs.log2 < 9000) :
  ao [.ref l,.int many] st= .ok (.int (n.fmod many)) (st.set l (.lst [.int (n.fdiv many)])):=by
 have hl:av st l=some [.int n]:=by unfold av;rw[h]
 have h0:L2.lM [Wv.int n] 0=some (.int n):=rfl
 unfold ao bY jk
 simp[BS hl h0,jL hm.1,nZ hm,zf,Qv,h,L2.Cb]
theorem dig{r:Nat}{st:Hs}{m:Int}(h:Ro r st)(h0:0 < m)(h1:m < 1000000):∃d st',ao [.ref r,.int m] st= .ok (.int d) st'/\0<=d/\d < m/\Dw r st st':=by
 obtain⟨v,e⟩:=h
 have hl:m.natAbs.log2 < 9000:=Nat.lt_trans ((Nat.log2_lt (k:=20) (by omega)).mpr (by omega)) (by decide)
 exact⟨_,_,digit e ⟨by omega,hl⟩,me _ h0,oz _ h0,dB.set,_,jj e⟩
def tI(l:List Int):Wv:=.tup (l.map Wv.int)
def dS(a b c d:Int):Prop:=0<=a/\a<=c/\c<=98/\0<=b/\b<=d/\d<=25/\(c - a+1) * (d - b+1)<=300
theorem FV{x y p q:Int}(h0:0<=x)(h1:x<=p)(k0:0<=y)(k1:y<=q):x * y<=p * q:=Int.mul_le_mul h1 k1 k0 (by omega)
theorem RH{st:Hs}{a b:Wv}:aS (.tup [a,b]) (.int 0) st= .ok a st:=rfl
theorem RI{st:Hs}{a b:Wv}:aS (.tup [a,b]) (.int 1) st= .ok b st:=rfl
theorem place{r:Nat}{st:Hs}{a b:Int}(h:Ro r st):∃c d st',cL [.ref r,tI [a,b]] st= .ok (tI [a+c,b+d]) st'/\(0<=c/\c < 3/\0<=d/\d < 4)/\Dw r st st':=by
 obtain⟨c,s1,e1,c0,c1,d1⟩:=dig (m:=3) h (by decide) (by decide)
 obtain⟨d,s2,e2,a0,a1,d2⟩:=dig (m:=4) d1.2 (by decide) (by decide)
 unfold cL bY jm
 exact⟨c,d,s2,by simp[e1,e2,tI,RH,RI],⟨c0,c1,a0,a1⟩,d1.trans d2⟩
theorem RJ{r:Nat}{st:Hs}{a b:Int}(h:Ro r st):∃t l p q st',bI [.ref r,tI [a,b]] st= .ok (tI [a+t,b+l,a+p,b+q]) st'/\(0<=t/\t<=p/\p < 3/\0<=l/\l<=q/\q < 4)/\Dw r st st':=by
 obtain⟨t,s1,e1,t0,t1,d1⟩:=dig (m:=3) h (by decide) (by decide)
 obtain⟨l,s2,e2,l0,l1,d2⟩:=dig (m:=4) d1.2 (by decide) (by decide)
 obtain⟨p,s3,e3,p0,p1,d3⟩:=dig (m:=3 - t) d2.2 (by omega) (by omega)
 obtain⟨q,s4,e4,q0,q1,d4⟩:=dig (m:=4 - l) d3.2 (by omega) (by omega)
 unfold bI bY ke
 exact⟨t,l,t+p,l+q,s4,by simp[e1,e2,e3,e4,tI,RH,RI],by omega,((d1.trans d2).trans d3).trans d4⟩
theorem pins{r:Nat}{st:Hs}(h:Ro r st){n:Nat}(hn:n<=4):∃p st',bJ [.ref r,.int n] st= .ok (tI p) st'/\p.length=n/\(∀q∈p,q=0\/q=1)/\Dw r st st':=by
 have hr:r < st.length:=let ⟨v,e⟩:=h;c7 e
 have cn:cg (n:Int):=rQ (by omega) (by omega)
 obtain⟨st',acc,e,⟨p1,p2⟩,hg,ha,hl⟩:=tu (w:=(none,bO 0 n)) (gt:=λv=>fX (some v::eT [("row",0)] [some (.ref r),some (.int (n:Int))])) (ge:=λv=>dZ (some v::eT [("row",0)] [some (.ref r),some (.int (n:Int))])) (rr:=st.length)
  (λs=>dB r st s/\Ro r s) (λu=>∃q:Int,u= .int q/\(q=0\/q=1))
  (λs acc ⟨k,v,e⟩=>⟨⟨by simpa using k.1,λj hj hne=>by rw[jR (by omega)];exact k.2 j hj hne⟩,v,by rw[jR (by omega)];exact e⟩) (λ_ _=>trivial) (bO 0 n)
  (λv hv s acc ⟨k,ro⟩ hg=>by
   obtain⟨q,s2,e2,q0,q1,k2,VP⟩:=dig (m:=2) ro (by decide) (by decide)
   refine⟨s,rfl,⟨k,ro⟩,hg,.int q,s2,?_,⟨q,rfl,by omega⟩,⟨k.trans k2,VP⟩,?_⟩
   ·unfold dZ
    simp[eT,e2]
   ·rw[k2.2 _ (c7 hg) (by omega)];exact hg)
  [] (st++[.lst []]) ⟨dB.push,h.push⟩ dY (by rw[b9];simp[lim];omega) (by simp)
 obtain⟨p,hp⟩:∃p:List Int,acc=p.map Wv.int/\∀q∈p,q=0\/q=1:=by
  clear e hg hl
  induction acc with
  | nil=>exact⟨[],rfl,by simp⟩
  | cons a t ih=>
   obtain⟨p,e1,e2⟩:=ih λu hu=>ha u (aN _ hu)
   obtain⟨q,e3,e4⟩:=ha a bu
   exact⟨q::p,by rw[e1,e3];rfl,by simpa using ⟨e4,e2⟩⟩
 obtain⟨rfl,hp⟩:=hp
 refine⟨p,st',?_,by simpa [b9] using hl,hp,p1,p2⟩
 have run:dU [("row",0)] fX dZ [some (.ref r),some (.int (n:Int))] (none,bO 0 n) st= .ok (.ref st.length) st':=by
  unfold dU
  rw[e]
 have tc:gY [.ref st.length] st'= .ok (.tup (p.map Wv.int)) st':=by
  show(match av st' st.length with | some ws=>Re.ok (Wv.tup ws) st' | none=> .bad)=_
  rw[Aq hg]
 unfold bJ bY kg
 have r1:vS [.int (n:Int)] st= .ok (none,bO 0 n) st:=by rw[NY cn];simp
 simp[r1,run,tc,tI]
theorem mixed{st:Hs}{c k:Int}(h0:0<=k)(h1:k < 1000000):∃v:Int,0<=v/\ff [.int c,.int k] st= .ok (.int v) st:=by
 have z1:cG (.int 7919) (.int k) st= .ok (.int (7919 * k)) st:=Ao (by decide) (by decide)
 have z2:∀i:Int,cG (.int i) (.int 48271) st= .ok (.int (i * 48271)) st:=λi=>mul_r (by decide) (by decide)
 have z3:∀i:Int,cG (.int i) (.int 69621) st= .ok (.int (i * 69621)) st:=λi=>mul_r (by decide) (by decide)
 generalize hs:((c.fmod 1000000007+7919 * k+1) * 48271).fmod 2147483647=s
 have s0:0<=s:=by rw[<-hs];exact me _ (by decide)
 have s1:s < 2147483647:=by rw[<-hs];exact oz _ (by decide)
 have z4:cG (.int s) (.int s) st= .ok (.int (s * s)) st:=Ao (by omega) (by omega)
 refine⟨((s * s).fmod 2147483629 * 69621).fmod 2147483647,me _ (by decide),?_⟩
 unfold ff bY jo
 simp[z1,z2,z3,z4,hs,jL]
theorem FW{ns:List Int}{k:Int}(h0:0<=k)(c:k < ns.length):L2.lM (ns.map Wv.int) k=some (.int (ns.getD k.toNat 0)):=by
 have hk:k.toNat < ns.length:=by omega
 have ek:k=((k.toNat:Nat):Int):=by omega
 have q:=L2.gU (xs:=ns.map Wv.int) (j:=k.toNat) (v:=.int (ns.getD k.toNat 0)) (by simp[hk])
 rw[<-ek] at q
 exact q
theorem Au{st:Hs}{l:Nat}{ns:List Int}(h:av st l=some (ns.map Wv.int)){k:Int}(h0:0<=k):∃v:Int,bW [.ref l,.int k] st= .ok (.int v) st:=by
 have ln:=KA h
 rw[gT] at ln
 unfold bW bY gK
 by_cases c:k < ns.length
 ·exact⟨_,by simp[ln,c,BS h (FW h0 c)];rfl⟩
 ·exact⟨0,by simp[ln,c]⟩
theorem KJ{st:Hs}:qi (.int 10) (.int 60) st= .ok (.int (10 ^ 60)) st:=RA (by decide)
theorem FX{lo c:Int}{n:Nat}{j:Nat}{w:Wv}(h:(qH lo c n)[j]? =some w):w= .int (lo+j * c)/\j < n:=by
 have hj:j < n:=by
  have:=(List.getElem?_eq_some_iff.mp h).1
  rw[mY] at this
  exact this
 rw[sX hj] at h
 exact⟨(Option.some.inj h).symm,hj⟩
theorem N1{c:Int}{k:Nat}(h0:0<=c)(h1:c < (10 ^ 60) ^ k)(hk:k<=5):IntMulOk c (10 ^ 60):=by
 have b:c.natAbs < 2 ^ 1000:=by
  have e:(10 ^ 60:Int) ^ k < 2 ^ 1000:=by
   have hk':k=0\/k=1\/k=2\/k=3\/k=4\/k=5:=by omega
   rcases hk' with rfl | rfl | rfl | rfl | rfl | rfl<;>decide+kernel
  have e2:((2 ^ 1000:Nat):Int)=2 ^ 1000:=by norm_cast
  omega
 exact IntMulOk.of_bits (bp (Jx b) (by decide)) (bp (Jx (k:=200) (by decide+kernel)) (by decide))
theorem stream{st:Hs}{l:Nat}{ns:List Int}(h:av st l=some (ns.map Wv.int))(hn:ns.length<=63){k:Int}(h0:0<=k)(h1:k<=12):∃n:Int,cq [.ref l,.int k] st= .ok (.ref st.length) (st++[.lst [.int n]]):=by
 obtain⟨v0,YF⟩:=Au h (k:=0) (xG _)
 have ln:=KA h
 rw[gT] at ln
 have sm:=RF h
 have cr:EG (k+1) ns.length 13:=⟨by omega,by omega,by omega,by omega,by decide,by decide⟩
 have sn:g_ (k+1) ns.length 13<=5:=by
  unfold g_
  split<;>omega
 have l1:∃(o3:Option Wv)(c:Int),cZ 3 bU (qH (k+1) 13 (g_ (k+1) ns.length 13)) [some (.ref l),some (.int k),some (.int 0),none,none] st= .nx [some (.ref l),some (.int k),some (.int c),o3,none] st:=by
  obtain⟨ρ,st',e,o3,c,rfl,rfl,_,_⟩:=ji (i:=3) (gb:=bU) (λi ρ st'=>∃(o3:Option Wv)(c:Int),ρ=[some (.ref l),some (.int k),some (.int c),o3,none]/\st'=st/\0<=c/\c < (10 ^ 60) ^ i) (qH (k+1) 13 (g_ (k+1) ns.length 13)) 0 [some (.ref l),some (.int k),some (.int 0),none,none] st ⟨none,0,rfl,rfl,by decide,by decide⟩ (by
   rintro j w hw _ s ⟨o3,c,rfl,rfl,c0,c1⟩
   obtain⟨rfl,hj⟩:=FX hw
   have hj5:0+j<=5:=by omega
   have jx:k+1+(j:Int) * 13 < ns.length:=by
    unfold g_ at hj
    split at hj<;>omega
   have m1:cG (.int c) (.int (10 ^ 60)) s= .ok (.int (c * 10 ^ 60)) s:=An (N1 c0 c1 hj5)
   have m2:oMod (.int (ns.getD (k+1+(j:Int) * 13).toNat 0)) (.int (10 ^ 60)) s= .ok (.int ((ns.getD (k+1+(j:Int) * 13).toNat 0).fmod (10 ^ 60))) s:=jL (by decide)
   have x1:=BS h (FW (k:=k+1+(j:Int) * 13) (by omega) jx)
   have q0:=me (ns.getD (k+1+(j:Int) * 13).toNat 0) (b:=10 ^ 60) (by decide)
   have q1:=oz (ns.getD (k+1+(j:Int) * 13).toNat 0) (b:=10 ^ 60) (by decide)
   generalize (ns.getD (k+1+(j:Int) * 13).toNat 0).fmod (10 ^ 60)=q at m2 q0 q1
   refine⟨_,_,?_,⟨some (.int (k+1+(j:Int) * 13)),c * 10 ^ 60+q,rfl,rfl,?_,?_⟩⟩
   ·unfold bU
    simp only[Rv,Rw,FG,e_c,FY,FZ,Av,Aw,FF,Am,Vj,KJ,FE,m1,x1,m2,Rz,yf]
   ·have:=Int.mul_nonneg c0 (show(0:Int)<=10 ^ 60 by decide)
    omega
   ·have e:(10 ^ 60:Int) ^ (0+j+1)=(10 ^ 60) ^ (0+j) * 10 ^ 60:=Int.pow_succ ..
    rw[e]
    have:(c+1) * 10 ^ 60<=(10 ^ 60) ^ (0+j) * 10 ^ 60:=Int.mul_le_mul_of_nonneg_right (by omega) (by decide)
    rw[Int.add_mul] at this
    omega)
  exact⟨o3,c,e⟩
 obtain⟨o3,c,e1⟩:=l1
 have l2:∃(Tv:Option Wv)(g':Int),cZ 3 dC (bO 0 8) [some (.ref l),some (.int k),some (.int c),o3,some (.int 0)] st= .nx [some (.ref l),some (.int k),some (.int c),Tv,some (.int g')] st:=by
  obtain⟨ρ,st',e,Tv,g',rfl,rfl⟩:=wD (i:=3) (gb:=dC) (λρ st'=>∃(o3:Option Wv)(g:Int),ρ=[some (.ref l),some (.int k),some (.int c),o3,some (.int g)]/\st'=st) (bO 0 8) [some (.ref l),some (.int k),some (.int c),o3,some (.int 0)] st ⟨o3,0,rfl,rfl⟩ (by
   rintro w hw _ s ⟨o3,g,rfl,rfl⟩
   obtain⟨j,rfl,j0,j1⟩:=Jv hw
   obtain⟨u,_,eu⟩:=mixed (st:=s) (c:=c+ns.sum) (k:=8 * k+j) (by omega) (by omega)
   have z1:cG (.int 8) (.int k) s= .ok (.int (8 * k)) s:=Ao (by decide) (by decide)
   have z3:cG (.int g) (.int 2147483647) s= .ok (.int (g * 2147483647)) s:=mul_r (by decide) (by decide)
   refine⟨_,_,?_,⟨some (.int j),g * 2147483647+u,rfl,rfl⟩⟩
   unfold dC
   simp[sm,z1,z3,eu])
  exact⟨Tv,g',e⟩
 obtain⟨Tv,g',e2⟩:=l2
 have f8:∀i:Int,fZ (.int i) (.int 8) st= .ok (.int (i.fdiv 8)) st:=λi=>nZ (by decide)
 have c8:cg 8:=rQ (by decide) (by decide)
 have er3:∀(ga:GA)(ρ:bH)(s s1:Hs)(a b c:Int),ga ρ s= .ok [.int a,.int b,.int c] s1->EG a b c->qI 3 ga bU ρ s=cZ 3 bU (qH a c (g_ a b c)) ρ s1:=λga ρ s s1 a b c h1 h2=>by
  unfold qI
  rw[h1]
  show(if EG a b c then _ else _)=_
  rw[if_pos h2]
 have e3:=er3 (aa (ag br (af 1) (gC (.int 1))) (aa (aU jY (aa (af 0) aj)) (aa (gC (.int 13)) aj))) [some (.ref l),some (.int k),some (.int 0),none,none] st st (k+1) ns.length 13 (by simp[ln]) cr
 rw[e1] at e3
 unfold cq bY iG
 by_cases b:v0.fmod 2=1
 ·exact⟨c,by simp[e3,YF,jL,b]⟩
 ·have b':(v0.fmod 2 == 1)=false:=beq_false_of_ne b
  exact⟨g'.fdiv 8,by simp[e3,YF,jL,b',c8,e2,f8]⟩
inductive Fm
 | lit (x:S) (ws:List Wv)
 | pt (x:S) (l p:List Int)
 | fd (a:Fm) (l p:List Int)
 | o1 (x:S) (a:Fm)
 | o2 (x:S) (a b:Fm)
 | o3 (a b c:Fm)
def Fm.v:Fm->S×List Wv
 | .lit x ws=>(x,ws)
 | .pt x l p=>(x,[tI l,tI p])
 | .fd a l p=>("find",[.tup (.str a.v.1::a.v.2),tI l,tI p])
 | .o1 x a=>(x,[.tup (.str a.v.1::a.v.2)])
 | .o2 x a b=>(x,[.tup (.str a.v.1::a.v.2),.tup (.str b.v.1::b.v.2)])
 | .o3 a b c=>("if",[.tup (.str a.v.1::a.v.2),.tup (.str b.v.1::b.v.2),.tup (.str c.v.1::c.v.2)])
def Fm.w(f:Fm):Wv:=.tup (.str f.v.1::f.v.2)
def Fm.dp:Fm->Nat
 | .lit _ _=>1
 | .pt _ _ _=>1
 | .fd a _ _=>a.dp+1
 | .o1 _ a=>a.dp+1
 | .o2 _ a b=>max a.dp b.dp+1
 | .o3 a b c=>max a.dp (max b.dp c.dp)+1
def RK(x:S)(ws:List Wv):Prop:=(x="num"/\∃i,ws=[.int i])\/(x="text"/\∃s,ws=[.str s])\/(x="lost"/\ws=[])
def w8(q:Int):Prop:=q=0\/q=1
def u7(l p:List Int):Prop:=∃a b q r,l=[a,b]/\p=[q,r]/\w8 q/\w8 r
def tD(l p:List Int):Prop:=∃a b c d q r s t,l=[a,b,c,d]/\p=[q,r,s,t]/\w8 q/\w8 r/\w8 s/\w8 t
def AW:List S:=["sum","count","least","greatest"]
def W1:List S:=["minus","not"]
def W2:List S:=["else","rest","+","-","*","/","&","<","="]
def Fm.sh:Fm->Prop
 | .lit x ws=>RK x ws
 | .pt x l p=>(x="at"/\u7 l p)\/(x∈AW/\tD l p)
 | .fd a l p=>a.sh/\tD l p
 | .o1 x a=>x∈W1/\a.sh
 | .o2 x a b=>x∈W2/\a.sh/\b.sh
 | .o3 a b c=>a.sh/\b.sh/\c.sh
def cX(a b:Int):Prop:=0<=a/\a<=98/\0<=b/\b<=25
def Fits:List Int->Prop
 | [a,b]=>cX a b
 | [a,b,c,d]=>dS a b c d
 | _=>False
def Fm.fit:Fm->Prop
 | .lit _ _=>True
 | .pt _ l _=>Fits l
 | .fd a l _=>a.fit/\Fits l
 | .o1 _ a=>a.fit
 | .o2 _ a b=>a.fit/\b.fit
 | .o3 a b c=>a.fit/\b.fit/\c.fit
def GL:Int:=10 ^ 60
theorem F0{st:Hs}:qi (.int 10) (.int 60) st= .ok (.int GL) st:=KJ
theorem pick{r:Nat}{st:Hs}{ws:List Wv}{m:Int}(h:Ro r st)(hw:(ws.length:Int)=m)(h0:0 < m)(h1:m < 1000000) :
  ∃d v st',ao [.ref r,.int m] (st++[.lst ws])= .ok (.int d) st'/\aS (.ref st.length) (.int d) st'= .ok v st'/\v∈ws/\Dw r st st':=by
 have hr:r < st.length:=let ⟨v,e⟩:=h;c7 e
 obtain⟨d,s2,e2,d0,d1,k2,VP⟩:=dig (m:=m) (h.push (o:=.lst ws)) h0 h1
 obtain⟨v,e3,e4⟩:=wF (ws:=ws) (d:=d) d0 (by omega)
 exact⟨d,v,s2,e2,BS (k2.lst kX (by omega)) e3,e4,dB.push.trans k2,VP⟩
theorem RL{r:Nat}{st:Hs}(h:Ro r st):∃q s st',bJ [.ref r,.int 2] st= .ok (tI [q,s]) st'/\w8 q/\w8 s/\Dw r st st':=by
 obtain⟨p,st',e,hl,hp,d⟩:=pins h (n:=2) (by decide)
 match p,hl with
 | [q,s],_=>exact⟨q,s,st',e,hp q (by simp),hp s (by simp),d⟩
theorem KL{r:Nat}{st:Hs}(h:Ro r st):∃q s t u st',bJ [.ref r,.int 4] st= .ok (tI [q,s,t,u]) st'/\w8 q/\w8 s/\w8 t/\w8 u/\Dw r st st':=by
 obtain⟨p,st',e,hl,hp,d⟩:=pins h (n:=4) (by decide)
 match p,hl with
 | [q,s,t,u],_=>exact⟨q,s,t,u,st',e,hp q (by simp),hp s (by simp),hp t (by simp),hp u (by simp),d⟩
theorem number{r:Nat}{st:Hs}(h:Ro r st):∃n st',dP [.ref r] st= .ok (.int n) st'/\Dw r st st':=by
 obtain⟨w,s1,e1,w0,w1,d1⟩:=dig (m:=5) h (by decide) (by decide)
 unfold dP bY iE
 by_cases c0:w=0
 ·obtain⟨d,s2,e2,a0,a1,d2⟩:=dig (m:=3) d1.2 (by decide) (by decide)
  subst c0
  exact⟨GL - d,s2,by simp[e1,e2,F0],d1.trans d2⟩
 have b0:(w == 0)=false:=beq_false_of_ne c0
 obtain⟨d,s2,e2,a0,a1,d2⟩:=dig (m:=6) d1.2 (by decide) (by decide)
 exact⟨d,s2,by simp[e1,e2,b0],d1.trans d2⟩
def mf(a b:Int):Prop:=0<=a/\a<=96/\0<=b/\b<=22
theorem N2{r:Nat}{st:Hs}{a b:Int}(h:Ro r st)(k:mf a b):∃c d st',cL [.ref r,tI [a,b]] st= .ok (tI [c,d]) st'/\Fits [c,d]/\Dw r st st':=by
 obtain⟨c,d,s1,e,hc,d1⟩:=place (a:=a) (b:=b) h
 exact⟨_,_,s1,e,by unfold mf at k;show cX _ _;unfold cX;omega,d1⟩
theorem KN{r:Nat}{st:Hs}{a b:Int}(h:Ro r st)(k:mf a b):∃c d e f st',bI [.ref r,tI [a,b]] st= .ok (tI [c,d,e,f]) st'/\Fits [c,d,e,f]/\Dw r st st':=by
 obtain⟨t,l,p,q,s1,e,hc,d1⟩:=RJ (a:=a) (b:=b) h
 refine⟨_,_,_,_,s1,e,?_,d1⟩
 unfold mf at k
 show dS _ _ _ _
 unfold dS
 have:=FV (x:=a+p - (a+t)+1) (y:=b+q - (b+l)+1) (p:=3) (q:=4) (by omega) (by omega) (by omega) (by omega)
 omega
theorem leaf{r:Nat}{st:Hs}{a b:Int}(h:Ro r st)(hs:mf a b):∃f st',eF [.ref r,tI [a,b]] st= .ok (Fm.w f) st'/\f.sh/\f.fit/\f.dp=1/\Dw r st st':=by
 obtain⟨w,s1,e1,w0,w1,d1⟩:=dig (m:=8) h (by decide) (by decide)
 unfold eF bY ki
 by_cases c0:w=0
 ·subst c0
  obtain⟨i,s2,e2,d2⟩:=number d1.2
  exact⟨.lit "num" [.int i],s2,by simp[e1,e2,Fm.w,Fm.v],.inl ⟨rfl,i,rfl⟩,trivial,rfl,d1.trans d2⟩
 have b0:(w == 0)=false:=beq_false_of_ne c0
 by_cases c1:w=1
 ·subst c1
  obtain⟨d,v,s4,e4,e5,hv,d4⟩:=pick (m:=4) (ws:=[.str "",.str "a",.str "b7",.str "no"]) d1.2 rfl (by decide) (by decide)
  obtain⟨i,rfl⟩:∃i:S,v= .str i:=by simp at hv;rcases hv with rfl | rfl | rfl | rfl<;>exact⟨_,rfl⟩
  exact⟨.lit "text" [.str i],s4,by simp[e1,e4,e5,Fm.w,Fm.v],.inr (.inl ⟨rfl,i,rfl⟩),trivial,rfl,d1.trans d4⟩
 have b1:(w == 1)=false:=beq_false_of_ne c1
 have at':∀s2,Dw r s1 s2->∃(c d q s:Int)(s4 s5:Hs),cL [.ref r,tI [a,b]] s2= .ok (tI [c,d]) s4/\bJ [.ref r,.int 2] s4= .ok (tI [q,s]) s5/\Fits [c,d]/\w8 q/\w8 s/\Dw r st s5:=λs2 d2=>by
  obtain⟨c,d,s4,e4,hf,d4⟩:=N2 d2.2 hs
  obtain⟨q,s,s5,e5,q1,q2,d5⟩:=RL d4.2
  exact⟨c,d,q,s,s4,s5,e4,e5,hf,q1,q2,((d1.trans d2).trans d4).trans d5⟩
 by_cases c2:w=2
 ·subst c2
  obtain⟨x,s2,e2,x0,x1,d2⟩:=dig (m:=3) d1.2 (by decide) (by decide)
  by_cases cx:x=0
  ·subst cx
   exact⟨.lit "lost" [],s2,by simp[e1,e2,Fm.w,Fm.v],.inr (.inr ⟨rfl,rfl⟩),trivial,rfl,d1.trans d2⟩
  ·have bx:(x == 0)=false:=beq_false_of_ne cx
   obtain⟨c,d,q,s,s4,s5,e4,e5,hf,q1,q2,d5⟩:=at' s2 d2
   exact⟨.pt "at" [c,d] [q,s],s5,by simp[e1,e2,bx,e4,e5,Fm.w,Fm.v],.inl ⟨rfl,c,d,q,s,rfl,rfl,q1,q2⟩,hf,rfl,d5⟩
 have b2:(w == 2)=false:=beq_false_of_ne c2
 by_cases c3:w < 6
 ·obtain⟨c,d,q,s,s4,s5,e4,e5,hf,q1,q2,d5⟩:=at' s1 (Dw.of d1.2)
  exact⟨.pt "at" [c,d] [q,s],s5,by simp[e1,b0,b1,b2,c3,e4,e5,Fm.w,Fm.v],.inl ⟨rfl,c,d,q,s,rfl,rfl,q1,q2⟩,hf,rfl,d5⟩
 ·obtain⟨d,v,s2,e2,e3,hv,d2⟩:=pick (m:=4) (ws:=[.str "sum",.str "count",.str "least",.str "greatest"]) d1.2 rfl (by decide) (by decide)
  obtain⟨x,rfl,hx⟩:∃x:S,v= .str x/\x∈AW:=by simp at hv;rcases hv with rfl | rfl | rfl | rfl<;>exact⟨_,rfl,by decide+kernel⟩
  obtain⟨a',b',c',d',s3,e4,har,d3⟩:=KN d2.2 hs
  obtain⟨q,s,t,u,s4,e5,q1,q2,q3,q4,d4⟩:=KL d3.2
  exact⟨.pt x [a',b',c',d'] [q,s,t,u],s4,by simp[e1,b0,b1,b2,c3,e2,e3,e4,e5,Fm.w,Fm.v],.inr ⟨hx,a',b',c',d',q,s,t,u,rfl,rfl,q1,q2,q3,q4⟩,har,rfl,((d1.trans d2).trans d3).trans d4⟩
theorem Ax{st:Hs}{ws:List Wv}{d:Int}(h0:0<=d)(h1:d < ws.length):∃v,aS (.ref st.length) (.int d) (st++[.lst ws])= .ok v (st++[.lst ws])/\v∈ws:=by
 obtain⟨v,e3,e4⟩:=wF (ws:=ws) (d:=d) h0 h1
 exact⟨v,BS kX e3,e4⟩
theorem Dw.push{r:Nat}{st:Hs}{o:Ob}(h:Ro r st):Dw r st (st++[o]):=⟨dB.push,h.push⟩
theorem pP{r:Nat}{a b:Int}(hs:mf a b):∀(n:Nat){st:Hs}{k:Nat},Ro r st->k<=n->∃f st',bK (n+1) [.ref r,tI [a,b],.int k] st= .ok (Fm.w f) st'/\f.sh/\f.fit/\f.dp<=k+1/\Dw r st st'
 | n,st,k,h,hk=>by
  rw[lA]
  unfold bY fc
  by_cases c0:k=0
  ·obtain⟨f,s2,e2,h1,h2,h3,d2⟩:=leaf h hs
   subst c0
   exact⟨f,s2,by simp[e2],h1,h2,by omega,d2⟩
  obtain⟨w,s1,e1,w0,w1,d1⟩:=dig (m:=16) h (by decide) (by decide)
  have bk:((k:Int) == 0)=false:=beq_false_of_ne (by omega)
  by_cases cw:w < 3
  ·obtain⟨f,s2,e2,h1,h2,h3,d2⟩:=leaf d1.2 hs
   exact⟨f,s2,by simp[e1,e2,bk,cw],h1,h2,by omega,d1.trans d2⟩
  obtain⟨n',rfl⟩:∃n',n=n'+1:=⟨n - 1,by omega⟩
  have ek:((k:Int) - 1)=((k - 1:Nat):Int):=by omega
  obtain⟨x,s2,e2,a1,a2,a3,d2⟩:=pP hs n' (k:=k - 1) d1.2 (by omega)
  by_cases c5:w < 5
  ·obtain⟨v,e3,hv⟩:=Ax (st:=s2) (ws:=[.str "minus",.str "not"]) (d:=w - 3) (by omega) (by simp;omega)
   obtain⟨y,rfl,hy⟩:∃y:S,v= .str y/\y∈W1:=by simp at hv;rcases hv with rfl | rfl<;>exact⟨_,rfl,by decide+kernel⟩
   refine⟨.o1 y x,s2++[.lst [.str "minus",.str "not"]],?_,⟨hy,a1⟩,a2,by simp only[Fm.dp];omega,(d1.trans d2).trans (Dw.push d2.2)⟩
   simp[e1,bk,cw,ek,e2,c5,e3]
   rfl
  by_cases c6:w=5
  ·subst c6
   obtain⟨a',b',c',d',s3,e3,har,d3⟩:=KN d2.2 hs
   obtain⟨q,s,t,u,s4,e4,q1,q2,q3,q4,d4⟩:=KL d3.2
   refine⟨.fd x [a',b',c',d'] [q,s,t,u],s4,?_,⟨a1,a',b',c',d',q,s,t,u,rfl,rfl,q1,q2,q3,q4⟩,⟨a2,har⟩,by simp only[Fm.dp];omega,((d1.trans d2).trans d3).trans d4⟩
   simp[e1,bk,ek,e2,e3,e4]
   rfl
  have b6:(w == 5)=false:=beq_false_of_ne c6
  obtain⟨y,s3,e3,b1,b2,b3,d3⟩:=pP hs n' (k:=k - 1) d2.2 (by omega)
  by_cases c8:w < 8
  ·obtain⟨z,s4,e4,z1,z2,z3,d4⟩:=pP hs n' (k:=k - 1) d3.2 (by omega)
   refine⟨.o3 x y z,s4,?_,⟨a1,b1,z1⟩,⟨a2,b2,z2⟩,by simp only[Fm.dp];omega,((d1.trans d2).trans d3).trans d4⟩
   simp[e1,bk,cw,c5,b6,ek,e2,e3,c8,e4]
   rfl
  by_cases YG:w=15
  ·subst YG
   obtain⟨d,v,s4,e4,e5,hv,d4⟩:=pick (m:=2) (ws:=[.str "=",.str "&"]) d3.2 rfl (by decide) (by decide)
   obtain⟨o,rfl,ho⟩:∃y:S,v= .str y/\y∈W2:=by simp at hv;rcases hv with rfl | rfl<;>exact⟨_,rfl,by decide+kernel⟩
   refine⟨.o2 o x y,s4,?_,⟨ho,a1,b1⟩,⟨a2,b2⟩,by simp only[Fm.dp];omega,((d1.trans d2).trans d3).trans d4⟩
   simp[e1,bk,ek,e2,e3,e4,e5]
   rfl
  have b15:(w == 15)=false:=beq_false_of_ne YG
  obtain⟨v,e4,hv⟩:=Ax (st:=s3) (ws:=[.str "else",.str "rest",.str "+",.str "-",.str "*",.str "/",.str "<"]) (d:=w - 8) (by omega) (by simp;omega)
  obtain⟨o,rfl,ho⟩:∃y:S,v= .str y/\y∈W2:=by simp at hv;rcases hv with rfl | rfl | rfl | rfl | rfl | rfl | rfl<;>exact⟨_,rfl,by decide+kernel⟩
  refine⟨.o2 o x y,s3++[.lst [.str "else",.str "rest",.str "+",.str "-",.str "*",.str "/",.str "<"]],?_,⟨ho,a1,b1⟩,⟨a2,b2⟩,by simp only[Fm.dp];omega,((d1.trans d2).trans d3).trans (Dw.push d3.2)⟩
  simp[e1,bk,cw,c5,b6,ek,e2,e3,c8,b15,e4]
  rfl
def Cn(v:Wv):Prop:=(∃i:Int,v= .int i)\/(∃x:S,v= .str x)\/∃f:Fm,v=f.w/\f.sh/\f.fit/\f.dp<=3
theorem RM:IntMulOk 2 GL:=by unfold GL;decide+kernel
theorem content{r:Nat}{st:Hs}{a b:Int}{k:Nat}(h:Ro r st)(hs:mf a b)(hk:k<=2):∃v st',cH [.ref r,tI [a,b],.int k] st= .ok v st'/\(v= .bz\/Cn v)/\Dw r st st':=by
 obtain⟨w,s1,e1,w0,w1,d1⟩:=dig (m:=8) h (by decide) (by decide)
 unfold cH bY gM
 by_cases c0:w=0
 ·subst c0
  exact⟨.bz,s1,by simp[e1],.inl rfl,d1⟩
 have b0:(w == 0)=false:=beq_false_of_ne c0
 by_cases c1:w=1
 ·subst c1
  obtain⟨v,e⟩:=id d1.2
  have e2:=digit (many:=2 * GL+1) e ⟨by unfold GL;decide+kernel,by unfold GL;decide+kernel⟩
  refine⟨.int (v.fmod (2 * GL+1) - GL),s1.set r (.lst [.int (v.fdiv (2 * GL+1))]),?_,.inr (.inl ⟨_,rfl⟩),d1.trans ⟨dB.set,_,jj e⟩⟩
  simp[e1,F0,An RM,e2]
 have b1:(w == 1)=false:=beq_false_of_ne c1
 by_cases c2:w=2
 ·subst c2
  obtain⟨d,s2,e2,_,_,d2⟩:=dig (m:=5) d1.2 (by decide) (by decide)
  exact⟨.int (d - 1),s2,by simp[e1,e2],.inr (.inl ⟨_,rfl⟩),d1.trans d2⟩
 have b2:(w == 2)=false:=beq_false_of_ne c2
 by_cases c3:w=3
 ·subst c3
  obtain⟨d,v,s4,e4,e5,hv,d4⟩:=pick (m:=4) (ws:=[.str "",.str "a",.str "b7",.str "no"]) d1.2 rfl (by decide) (by decide)
  obtain⟨i,rfl⟩:∃i:S,v= .str i:=by simp at hv;rcases hv with rfl | rfl | rfl | rfl<;>exact⟨_,rfl⟩
  exact⟨.str i,s4,by simp[e1,e4,e5],.inr (.inr (.inl ⟨i,rfl⟩)),d1.trans d4⟩
 have b3:(w == 3)=false:=beq_false_of_ne c3
 obtain⟨f,s2,e2,h1,h2,h3,d2⟩:=pP hs 5 (k:=k) d1.2 (by omega)
 have zo:aH [.ref r,tI [a,b],.int k] s1= .ok f.w s2:=e2
 exact⟨f.w,s2,by simp[e1,b0,b1,b2,b3,zo],.inr (.inr (.inr ⟨f,rfl,h1,h2,by omega⟩)),d1.trans d2⟩
theorem spot{st:Hs}{l:Nat}{ns:List Int}(h:av st l=some (ns.map Wv.int)):∃a b st',cI [.ref l] st= .ok (tI [a,b]) st'/\mf a b/\∃more,st'=st++more:=by
 obtain⟨v,e⟩:=Au h (k:=0) (by decide)
 have lg:∀j:Int,(j=2\/j=4\/j=400)->j≠0/\j.natAbs.log2 < 9000:=by rintro j (rfl | rfl | rfl)<;>decide+kernel
 let f:=v.fdiv 2
 let x:=(f.fdiv 4).fmod 97
 let y:=(f.fdiv 400).fmod 23
 have x0:0<=x:=me _ (by decide)
 have x1:x < 97:=oz _ (by decide)
 have y0:0<=y:=me _ (by decide)
 have y1:y < 23:=oz _ (by decide)
 let s1:=st++[.lst [.int 0,.int x]]
 let s2:=s1++[.lst [.int 0,.int y]]
 obtain⟨p,e2,hp⟩:=Ax (st:=st) (ws:=[.int 0,.int x]) (d:=f.fmod 2) (me _ (by decide)) (by simpa using oz f (by decide))
 obtain⟨q,e3,hq⟩:=Ax (st:=s1) (ws:=[.int 0,.int y]) (d:=(f.fdiv 2).fmod 2) (me _ (by decide)) (by simpa using oz (f.fdiv 2) (by decide))
 obtain⟨a,rfl,ha⟩:∃a:Int,p= .int a/\0<=a/\a<=96:=by
  simp at hp
  rcases hp with rfl | rfl
  ·exact⟨0,rfl,by omega⟩
  ·exact⟨x,rfl,by omega⟩
 obtain⟨b,rfl,hb⟩:∃b:Int,q= .int b/\0<=b/\b<=22:=by
  simp at hq
  rcases hq with rfl | rfl
  ·exact⟨0,rfl,by omega⟩
  ·exact⟨y,rfl,by omega⟩
 refine⟨a,b,s2,?_,⟨ha.1,ha.2,hb.1,hb.2⟩,[.lst [.int 0,.int x],.lst [.int 0,.int y]],by simp[s2,s1]⟩
 have m1:∀{i:Int}{s:Hs},oMod (.int i) (.int 97) s= .ok (.int (i.fmod 97)) s:=jL (by decide)
 have m2:∀{i:Int}{s:Hs},oMod (.int i) (.int 23) s= .ok (.int (i.fmod 23)) s:=jL (by decide)
 have m3:∀{i:Int}{s:Hs},oMod (.int i) (.int 2) s= .ok (.int (i.fmod 2)) s:=jL (by decide)
 have f2:∀{i:Int}{s:Hs},fZ (.int i) (.int 2) s= .ok (.int (i.fdiv 2)) s:=nZ (lg 2 (by simp))
 have f4:∀{i:Int}{s:Hs},fZ (.int i) (.int 4) s= .ok (.int (i.fdiv 4)) s:=nZ (lg 4 (by simp))
 have VQ:∀{i:Int}{s:Hs},fZ (.int i) (.int 400) s= .ok (.int (i.fdiv 400)) s:=nZ (lg 400 (by simp))
 unfold cI bY ka
 dsimp only[s1,x,y,f] at e2 e3 ⊢
 simp[e,m1,m2,m3,f2,f4,VQ,e2]
 simp at e3
 simp[e3,tI,s2,s1,x,y,f]
theorem N3{x:S}{ys:List S}{st:Hs}:rO (.str x) (.tup (ys.map Wv.str)) st= .ok (.bl (decide (x∈ys))) st:=by
 have e1:(ys.map Wv.str).all f6=true:=by
  rw[qR]
  intro w hw
  obtain⟨y,_,rfl⟩:=List.mem_map.mp hw
  rfl
 have e2:((ys.map Wv.str).any λz=>OS z (.str x))=decide (x∈ys):=by
  rw[List.any_map]
  induction ys with
  | nil=>rfl
  | cons y r ih=>
   rw[iz,ih (by rw[qR];intro w hw;obtain⟨y,_,rfl⟩:=List.mem_map.mp hw;rfl)]
   show((y == x)||decide (x∈r))=_
   by_cases c:y=x
   ·subst c;simp
   ·have:(y == x)=false:=beq_false_of_ne c
    rw[this]
    simp[ax c]
 show(if f6 (.str x)=true/\(ys.map Wv.str).all f6=true then Re.ok (Wv.bl ((ys.map Wv.str).any λz=>OS z (.str x))) st else .bad)=_
 rw[if_pos ⟨rfl,e1⟩,e2]
def AF:List S:=["sum","count","least","greatest","find"]
theorem wW{x:S}{st:Hs}:fA [.str x] st= .ok (.bl (decide (x∈AF))) st:=by
 have e:rO (.str x) (.oV [.str "sum",.str "count",.str "least",.str "greatest",.str "find"]) st= .ok (.bl (decide (x∈AF))) st:=N3 (ys:=AF)
 unfold fA bY l9
 simp[e]
theorem yw{x:Wv}{ws:List Wv}{st:Hs}:aS (.tup (x::ws)) (.int 0) st= .ok x st:=j_ (L2.gU (j:=0) rfl)
theorem KO{x y:Wv}{ws:List Wv}{st:Hs}:aS (.tup (x::y::ws)) (.int 1) st= .ok y st:=j_ (L2.gU (j:=1) rfl)
theorem u9{ws us:List Wv}{lo hi:Option Int}{st:Hs}(h:¬dv ws.length lo hi)(h2:rK ws lo hi=us):vV (.tup ws) lo hi st= .ok (.tup us) st:=by
 show(if dv ws.length lo hi then Re.ok (Wv.tup ws) st else OT (.tup ws) lo hi st)=_
 rw[if_neg h]
 show(if dv ws.length lo hi then Re.bad else Re.ok (Wv.tup (rK ws lo hi)) st)=_
 rw[if_neg h,h2]
theorem tE{x:S}{k:Int}{st:Hs}(h:bF.lookup x=some (.int k)):dh [.str x] st= .ok (.int k) st:=by
 unfold dh bY kC
 simp[Jw h]
theorem fU{x:S}{k:Int}{ws us:List Wv}(h:bF.lookup x=some (.int k))(n1:¬dv (ws.length+1) (some 1) (some (1+k)))(hc:rK (.str x::ws) (some 1) (some (1+k))=us)(st:Hs):di [.tup (.str x::ws)] st= .ok (.tup us) st:=by
 unfold di bY ma
 have s:=u9 (ws:=.str x::ws) (us:=us) (lo:=some 1) (hi:=some (1+k)) (st:=st) n1 hc
 simp[yw,tE h,s]
theorem iq{x:S}{k:Int}{ws us:List Wv}(h:bF.lookup x=some (.int k))(n1:¬dv (ws.length+1) (some (1+k)) none)(hc:rK (.str x::ws) (some (1+k)) none=us)(st:Hs):eG [.tup (.str x::ws)] st= .ok (.tup us) st:=by
 unfold eG bY n_
 have s:=u9 (ws:=.str x::ws) (us:=us) (lo:=some (1+k)) (hi:=none) (st:=st) n1 hc
 simp[yw,tE h,s]
def Fm.kids:Fm->List Fm
 | .lit _ _=>[]
 | .pt _ _ _=>[]
 | .fd a _ _=>[a]
 | .o1 _ a=>[a]
 | .o2 _ a b=>[a,b]
 | .o3 a b c=>[a,b,c]
def Fm.tl:Fm->List Wv
 | .lit _ ws=>ws
 | .pt _ l p=>[tI l,tI p]
 | .fd _ l p=>[tI l,tI p]
 | _=>[]
theorem YH{x:S}(h:x∈W1):bF.lookup x=some (.int 1):=by
 simp only[W1,aV,bb,or_false] at h
 rcases h with rfl | rfl<;>rfl
theorem YI{x:S}(h:x∈W2):bF.lookup x=some (.int 2):=by
 simp only[W2,aV,bb,or_false] at h
 rcases h with rfl | rfl | rfl | rfl | rfl | rfl | rfl | rfl | rfl<;>rfl
theorem lk0{x:S}(h:x∈AW):bF.lookup x=some (.int 0):=by
 simp only[AW,aV,bb,or_false] at h
 rcases h with rfl | rfl | rfl | rfl<;>rfl
theorem node{f:Fm}(h:f.sh):(∀st,di [f.w] st= .ok (.tup (f.kids.map Fm.w)) st)/\∀st,eG [f.w] st= .ok (.tup f.tl) st:=by
 cases f with
 | lit x ws=>
  rcases h with ⟨rfl,i,rfl⟩ | ⟨rfl,s,rfl⟩ | ⟨rfl,rfl⟩
  ·exact⟨fU (k:=0) rfl (by show ¬dv 2 (some 1) (some (1+0));decide+kernel) rfl,iq (k:=0) rfl (by show ¬dv 2 (some (1+0)) none;decide+kernel) rfl⟩
  ·exact⟨fU (k:=0) rfl (by show ¬dv 2 (some 1) (some (1+0));decide+kernel) rfl,iq (k:=0) rfl (by show ¬dv 2 (some (1+0)) none;decide+kernel) rfl⟩
  ·exact⟨fU (k:=0) rfl (by show ¬dv 1 (some 1) (some (1+0));decide+kernel) rfl,iq (k:=0) rfl (by show ¬dv 1 (some (1+0)) none;decide+kernel) rfl⟩
 | pt x l p=>
  have lk:bF.lookup x=some (.int 0):=by
   rcases h with ⟨rfl,_⟩ | ⟨hx,_⟩
   ·rfl
   ·exact lk0 hx
  exact⟨fU (k:=0) lk (by show ¬dv 3 (some 1) (some (1+0));decide+kernel) rfl,iq (k:=0) lk (by show ¬dv 3 (some (1+0)) none;decide+kernel) rfl⟩
 | fd a l p=>exact⟨fU (k:=1) rfl (by show ¬dv 4 (some 1) (some (1+1));decide+kernel) rfl,iq (k:=1) rfl (by show ¬dv 4 (some (1+1)) none;decide+kernel) rfl⟩
 | o1 x a=>exact⟨fU (k:=1) (YH h.1) (by show ¬dv 2 (some 1) (some (1+1));decide+kernel) rfl,iq (k:=1) (YH h.1) (by show ¬dv 2 (some (1+1)) none;decide+kernel) rfl⟩
 | o2 x a b=>exact⟨fU (k:=2) (YI h.1) (by show ¬dv 3 (some 1) (some (1+2));decide+kernel) rfl,iq (k:=2) (YI h.1) (by show ¬dv 3 (some (1+2)) none;decide+kernel) rfl⟩
 | o3 a b c=>exact⟨fU (k:=3) rfl (by show ¬dv 4 (some 1) (some (1+3));decide+kernel) rfl,iq (k:=3) rfl (by show ¬dv 4 (some (1+3)) none;decide+kernel) rfl⟩
theorem Gr.F1{base st:Hs}{rr:Nat}{o:Ob}(h:base.length<=rr)(g:Gr base st):Gr base (st.set rr o):=⟨by simpa using g.1,λj hj=>by rw[jR (by omega)];exact g.2 j hj⟩
theorem oA{α ι:Type}{ck:Hs->Prop}{gt:ι->Wv->Hs->Re Bool}{ge:ι->Wv->Hs->Re Wv}{rr:Nat}(f g:α->Wv)(hck:∀st,ck st)(ht:∀i v st,gt i v st= .ok true st) :
  ∀(ws:List α),(∀a∈ws,∀st,∃st',Gr st st'/\∀i,ge i (f a) st= .ok (g a) st')->∀(acc:List Wv)(st:Hs),st[rr]? =some (.lst acc)->acc.length+ws.length < lim->
   ∃st',st'[rr]? =some (.lst (acc++ws.map g))/\(∀base:Hs,base.length<=rr->Gr base st->Gr base st')/\∀i,iX ck (gt i) (ge i) rr (ws.map f) st=some st'
 | [],_,acc,st,hg,_=>⟨st,by simpa using hg,λ_ _ h=>h,λ_=>rfl⟩
 | a::r,h,acc,st,hg,hl=>by
  have hl':acc.length+(r.length+1) < lim:=hl
  obtain⟨s1,g1,e1⟩:=h a bu st
  have YJ:=g1.get hg
  obtain⟨s2,g2,k2,e2⟩:=oA (ck:=ck) (gt:=gt) (ge:=ge) f g hck ht r (λb hb=>h b (aN _ hb)) (acc++[g a]) (s1.set rr (.lst (acc++[g a]))) (jj YJ) (by simp;omega)
  refine⟨s2,by simpa using g2,λbase hb k=>k2 base hb (Gr.F1 hb (k.trans g1)),λi=>?_⟩
  rw[aL]
  unfold iX
  rw[ht]
  dsimp only
  rw[e1 i]
  dsimp only
  rw[FK YJ (by omega)]
  dsimp only
  rw[if_pos (hck _)]
  exact e2 i
theorem yx{l:Nat}{st:Hs}{ws:List Wv}(h:st[l]? =some (.lst ws)):gY [.ref l] st= .ok (.tup ws) st:=by
 show(match av st l with | some ws=>Re.ok (Wv.tup ws) st | none=> .bad)=_
 rw[Aq h]
theorem cat{x:Wv}{xs ys:List Wv}{st:Hs}(h:xs.length+ys.length<=100):br (.tup (x::xs)) (.tup ys) st= .ok (.tup (x::(xs++ys))) st:=by
 show(if(x::xs).length+ys.length<=lim then Re.ok (Wv.tup (x::xs++ys)) st else .bad)=_
 rw[if_pos (by simp[lim];omega)]
 rfl
section
variable {L:LF} {wy:Wv}
def Rb(L:LF)(wy:Wv)(n:Nat)(f f':Fm):Prop:=∀st:Hs,∃st',Gr st st'/\∀p:Lm,bw p L n [f.w,.fn p [wy]] st= .ok f'.w st'
theorem KP{n:Nat}{ks:List (Fm×Fm)}(h:∀q∈ks,Rb L wy n q.1 q.2)(hl:ks.length<=3)(st:Hs):∃st',Gr st st'/\st'[st.length]? =some (.lst (ks.map λq=>q.2.w))/\
  ∀(p:Lm)(ρ:bH),ρ[1]? =some (some (.fn p [wy]))->dU [("goes",1)] (iP p L (bw p L n)) (fO p L (bw p L n)) ρ (none,ks.map λq=>q.1.w) st= .ok (.ref st.length) st':=by
 obtain⟨st',g1,g2,e⟩:=oA (ι:=Lm) (ck:=jd (none,ks.map λq=>q.1.w)) (gt:=λp v=>iP p L (bw p L n) (some v::[some (.fn p [wy])])) (ge:=λp v=>fO p L (bw p L n) (some v::[some (.fn p [wy])])) (rr:=st.length) (λq:Fm×Fm=>q.1.w) (λq=>q.2.w) (λ_=>trivial) (λ_ _ _=>rfl) ks
  (λq hq s=>by
   obtain⟨s',k,e⟩:=h q hq s
   refine⟨s',k,λp=>?_⟩
   unfold fO
   simp[e p]) [] (st++[.lst []]) dY (by simp[lim];omega)
 refine⟨st',g2 st (aq _) Gr.push,by simpa using g1,λp ρ hρ=>?_⟩
 have ec:eT [("goes",1)] ρ=[some (.fn p [wy])]:=by
  unfold eT
  simp[hρ]
 unfold dU
 rw[ec]
 have:=e p
 simp only[this]
theorem Ay{n:Nat}{x:S}{ks:List (Fm×Fm)}{ws tl:List Wv}(hp:∀st,di [.tup (.str x::ws)] st= .ok (.tup (ks.map λq=>q.1.w)) st)(ht:∀st,eG [.tup (.str x::ws)] st= .ok (.tup tl) st)(hx:x≠"at")(ha:x∉AF)
  (h:∀q∈ks,Rb L wy n q.1 q.2)(hl:ks.length<=3)(hl2:tl.length<=3)(st:Hs):∃st',Gr st st'/\∀p:Lm,bw p L (n+1) [.tup (.str x::ws),.fn p [wy]] st= .ok (.tup (.str x::((ks.map λq=>q.2.w)++tl))) st':=by
 obtain⟨s1,g1,l1,e1⟩:=KP h hl st
 refine⟨s1,g1,λp=>?_⟩
 have bx:(x == ("at":S))=false:=beq_false_of_ne hx
 have c1:=cat (x:=.str x) (xs:=[]) (ys:=ks.map λq=>q.2.w) (st:=s1) (by simp;omega)
 have c2:=cat (x:=.str x) (xs:=ks.map λq=>q.2.w) (ys:=tl) (st:=s1) (by simp;omega)
 have e2:=e1 p [some (.tup (.str x::ws)),some (.fn p [wy]),some (.str x),some (.tup tl),none] rfl
 rw[gQ]
 unfold bY gH
 simp[yw,ht,bx,wW,ha,hp,e2,yx l1,c1,c2]
def oW:Option (List Int)->Wv
 | none=> .bz
 | some l=>tI l
theorem RN{p:Lm}{n i:Nat}{g:GA}{ρ:bH}{st st1:Hs}{caps ws:List Wv}(h:ρ[i]? =some (some (.fn p caps)))(h1:g ρ st= .ok ws st1)(hn:ws.length=n):lU p n L i g ρ st=L caps ws st1:=by
 unfold lU
 rw[h]
 dsimp only
 rw[if_pos rfl,h1]
 show(if ws.length=n then L caps ws st1 else .bad)=_
 rw[if_pos hn]
def B4(x:S)(us:List Wv)(p':List Int):Option (List Int)->Wv
 | none=> .tup [.str "lost"]
 | some l'=> .tup (.str x::(us++[tI l',tI p']))
theorem KQ{n:Nat}{x:S}{ks:List (Fm×Fm)}{ws:List Wv}{l p':List Int}{o:Option (List Int)}(hp:∀st,di [.tup (.str x::ws)] st= .ok (.tup (ks.map λq=>q.1.w)) st)(ht:∀st,eG [.tup (.str x::ws)] st= .ok (.tup [tI l,tI p']) st)(hx:x="at"\/x∈AF)
  (hL:∀st,∃st',Gr st st'/\L [wy] [.str x,tI l,tI p'] st= .ok (oW o) st')(h:∀q∈ks,Rb L wy n q.1 q.2)(hl:ks.length<=3)(st:Hs) :
  ∃st',Gr st st'/\∀p:Lm,bw p L (n+1) [.tup (.str x::ws),.fn p [wy]] st= .ok (B4 x (ks.map λq=>q.2.w) p' o) st':=by
 obtain⟨s0,g0,e0⟩:=hL st
 have cond:∀(p:Lm)(st:Hs),Mk (cC (ag oEq (af 2) (gC (Wv.str "at")))) (jO (au 1 fA (aa (af 2) aj))) [some (.tup (.str x::ws)),some (.fn p [wy]),some (.str x),some (.tup [tI l,tI p']),none] st= .ok true st:=λp st=>by
  by_cases c:x="at"
  ·subst c;simp
  ·have b:(x == ("at":S))=false:=beq_false_of_ne c
   have ha:x∈AF:=hx.resolve_left c
   simp[b,wW,ha]
 have cf:∀p:Lm,lU p 3 L 1 (aa (af 2) (aa (ag aS (af 3) (gC (.int 0))) (aa (ag aS (af 3) (gC (.int 1))) aj))) [some (.tup (.str x::ws)),some (.fn p [wy]),some (.str x),some (.tup [tI l,tI p']),none] st= .ok (oW o) s0:=λp=>by
  rw[RN (n:=3) (caps:=[wy]) (ws:=[.str x,tI l,tI p']) (st1:=st) rfl (by simp[yw,KO]) rfl]
  exact e0
 cases o with
 | none=>
  refine⟨s0,g0,λp=>?_⟩
  have Tw:=cf p
  have is:Ql (oW none) .bz s0= .ok (.bl true) s0:=rfl
  rw[gQ]
  unfold bY gH
  simp[yw,ht,-Rx,cond,Tw,is,B4]
 | some l'=>
  obtain⟨s1,g1,l1,e1⟩:=KP h hl s0
  refine⟨s1,g0.trans g1,λp=>?_⟩
  have Tw:=cf p
  have is:Ql (oW (some l')) .bz s0= .ok (.bl false) s0:=rfl
  have c1:=cat (x:=.str x) (xs:=[]) (ys:=ks.map λq=>q.2.w) (st:=s1) (by simp;omega)
  have c2:=cat (x:=.str x) (xs:=ks.map λq=>q.2.w) (ys:=[tI l',tI p']) (st:=s1) (by simp;omega)
  have e2:=e1 p [some (.tup (.str x::ws)),some (.fn p [wy]),some (.str x),some (.tup [tI l',tI p']),some (tI l')] rfl
  have oWs:oW (some l')=tI l':=rfl
  rw[oWs] at Tw is
  rw[gQ]
  unfold bY gH
  simp[yw,KO,ht,-Rx,cond,Tw,is,hp,e2,yx l1,c1,c2,B4]
def Fm.fP(g:S->List Int->List Int->Option (List Int)):Fm->Fm
 | .lit x ws=> .lit x ws
 | .pt x l p=>match g x l p with | none=> .lit "lost" [] | some l'=> .pt x l' p
 | .fd a l p=>match g "find" l p with | none=> .lit "lost" [] | some l'=> .fd (a.fP g) l' p
 | .o1 x a=> .o1 x (a.fP g)
 | .o2 x a b=> .o2 x (a.fP g) (b.fP g)
 | .o3 a b c=> .o3 (a.fP g) (b.fP g) (c.fP g)
theorem KR{x:S}(h:x∈W1):x≠"at"/\x∉AF:=by
 have:∀x∈W1,x≠"at"/\x∉AF:=by decide+kernel
 exact this x h
theorem KS{x:S}(h:x∈W2):x≠"at"/\x∉AF:=by
 have:∀x∈W2,x≠"at"/\x∉AF:=by decide+kernel
 exact this x h
theorem RO{x:S}(h:x∈AW):x∈AF:=by
 have:∀x∈AW,x∈AF:=by decide+kernel
 exact this x h
theorem gF{g:S->List Int->List Int->Option (List Int)}(hL:∀x l p,(u7 l p\/tD l p)->∀st,∃st',Gr st st'/\L [wy] [.str x,tI l,tI p] st= .ok (oW (g x l p)) st') :
  ∀(f:Fm)(n:Nat),f.sh->f.dp<=n->Rb L wy n f (f.fP g)
 | f,0,_,hd=>by cases f<;>simp[Fm.dp] at hd
 | .lit x ws,n+1,h,_=>λst=>by
  obtain⟨n1,n2⟩:=node (f:=.lit x ws) h
  have hx:x≠"at"/\x∉AF:=by
   rcases h with ⟨rfl,_⟩ | ⟨rfl,_⟩ | ⟨rfl,_⟩<;>decide+kernel
  have hl:ws.length<=3:=by
   rcases h with ⟨_,i,rfl⟩ | ⟨_,i,rfl⟩ | ⟨_,rfl⟩<;>simp
  exact Ay (ks:=[]) n1 n2 hx.1 hx.2 (λ_ z=>by cases z) (bq _) hl st
 | .pt x l p,n+1,h,_=>λst=>by
  obtain⟨n1,n2⟩:=node (f:=.pt x l p) h
  have hx:x="at"\/x∈AF:=h.imp (λz=>z.1) λz=>RO z.1
  have hs:u7 l p\/tD l p:=h.imp (λz=>z.2) λz=>z.2
  obtain⟨s1,g1,e1⟩:=KQ (n:=n) (x:=x) (ws:=[tI l,tI p]) (ks:=[]) (o:=g x l p) n1 n2 hx (hL x l p hs) (λ_ z=>by cases z) (bq _) st
  refine⟨s1,g1,λq=>?_⟩
  show bw q L (n+1) [.tup (.str x::[tI l,tI p]),.fn q [wy]] st=_
  rw[e1 q]
  simp only[Fm.fP]
  cases g x l p<;>rfl
 | .fd a l p,n+1,h,hd=>λst=>by
  obtain⟨n1,n2⟩:=node (f:=.fd a l p) h
  have ih:=gF hL a n h.1 (by simp[Fm.dp] at hd;omega)
  obtain⟨s1,g1,e1⟩:=KQ (n:=n) (x:="find") (ws:=[a.w,tI l,tI p]) (ks:=[(a,a.fP g)]) (o:=g "find" l p) n1 n2 (.inr (by decide+kernel)) (hL "find" l p (.inr h.2)) (λq z=>by rw[List.mem_singleton.mp z];exact ih) (by simp) st
  refine⟨s1,g1,λq=>?_⟩
  show bw q L (n+1) [.tup (.str "find"::[a.w,tI l,tI p]),.fn q [wy]] st=_
  rw[e1 q]
  simp only[Fm.fP]
  cases g "find" l p<;>rfl
 | .o1 x a,n+1,h,hd=>λst=>by
  obtain⟨n1,n2⟩:=node (f:=.o1 x a) h
  have ih:=gF hL a n h.2 (by simp[Fm.dp] at hd;omega)
  exact Ay (ks:=[(a,a.fP g)]) n1 n2 (KR h.1).1 (KR h.1).2 (λq z=>by rw[List.mem_singleton.mp z];exact ih) (by simp) (by simp[Fm.tl]) st
 | .o2 x a b,n+1,h,hd=>λst=>by
  obtain⟨n1,n2⟩:=node (f:=.o2 x a b) h
  have i1:=gF hL a n h.2.1 (by simp[Fm.dp] at hd;omega)
  have i2:=gF hL b n h.2.2 (by simp[Fm.dp] at hd;omega)
  exact Ay (ks:=[(a,a.fP g),(b,b.fP g)]) n1 n2 (KS h.1).1 (KS h.1).2 (List.forall_mem_cons.mpr ⟨i1,List.forall_mem_cons.mpr ⟨i2,λ_ z=>by cases z⟩⟩) (by simp) (by simp[Fm.tl]) st
 | .o3 a b c,n+1,h,hd=>λst=>by
  obtain⟨n1,n2⟩:=node (f:=.o3 a b c) h
  have i1:=gF hL a n h.1 (by simp[Fm.dp] at hd;omega)
  have i2:=gF hL b n h.2.1 (by simp[Fm.dp] at hd;omega)
  have i3:=gF hL c n h.2.2 (by simp[Fm.dp] at hd;omega)
  exact Ay (x:="if") (ks:=[(a,a.fP g),(b,b.fP g),(c,c.fP g)]) n1 n2 (by decide+kernel) (by decide+kernel) (List.forall_mem_cons.mpr ⟨i1,List.forall_mem_cons.mpr ⟨i2,List.forall_mem_cons.mpr ⟨i3,λ_ z=>by cases z⟩⟩⟩) (by simp) (by simp[Fm.tl]) st
end
def nx(n q s:Int):Int:=if q=1 then n else n+s
def yz(t:Int×Int×Int):Wv:=.tup [.int t.1,.int t.2.1,.int t.2.2]
theorem wt{n q s:Int}{st:Hs}:bS [some (.int n),some (.int q),some (.int s)] st= .ok (.int (nx n q s)) st:=by
 unfold bS nx
 by_cases c:q=1
 ·subst c;simp
 ·have b:(q == 1)=false:=beq_false_of_ne c
  simp[b,c]
theorem KU:∀(ts:List (Int×Int×Int))(acc:List Wv)(st:Hs),acc.length+ts.length < lim->fW (uA none) 3 (λv=>cU (v.map some++[])) (λv=>bS (v.map some++[])) st.length (ts.map yz) (st++[.lst acc])=some (st++[.lst (acc++ts.map λt=> .int (nx t.1 t.2.1 t.2.2))])
 | [],acc,st,_=>by simp[fW]
 | t::r,acc,st,hl=>by
  have hl':acc.length+(r.length+1) < lim:=hl
  rw[aL]
  unfold fW
  have e1:Eh 3 (yz t)=some [.int t.1,.int t.2.1,.int t.2.2]:=rfl
  rw[e1]
  dsimp only
  have e2:cU (List.map some [Wv.int t.1,.int t.2.1,.int t.2.2]++[]) (st++[.lst acc])= .ok true (st++[.lst acc]):=rfl
  rw[e2]
  dsimp only
  have e3:bS (List.map some [Wv.int t.1,.int t.2.1,.int t.2.2]++[]) (st++[.lst acc])= .ok (.int (nx t.1 t.2.1 t.2.2)) (st++[.lst acc]):=wt
  rw[e3]
  dsimp only
  rw[uO (by omega)]
  dsimp only
  rw[if_pos (show uA none _ from trivial),KU r (acc++[Wv.int (nx t.1 t.2.1 t.2.2)]) st (by simp;omega)]
  simp
theorem stepped{l p s:List Int}{ts:List (Int×Int×Int)}{a b:Int}(h1:l.length<=p.length/\l.length<=4)(hz:qF (l.map Wv.int) (p.map Wv.int) ([a,b,a,b].map Wv.int)=ts.map yz)(hl:ts.length<=4)(st:Hs) :
  eI [tI l,tI p,tI [a,b]] st= .ok (tI (ts.map λt=>nx t.1 t.2.1 t.2.2)) (st++[.lst (ts.map λt=> .int (nx t.1 t.2.1 t.2.2))]):=by
 have c1:br (tI [a,b]) (tI [a,b]) st= .ok (.tup [.int a,.int b,.int a,.int b]) st:=cat (x:=.int a) (xs:=[.int b]) (ys:=[.int a,.int b]) (by simp)
 have z:Nl [tI l,tI p,.tup [.int a,.int b,.int a,.int b]] st= .ok (none,ts.map yz) st:=by
  show(if(l.map Wv.int).length<=(p.map Wv.int).length/\(l.map Wv.int).length<=([a,b,a,b].map Wv.int).length then Re.ok (none,qF (l.map Wv.int) (p.map Wv.int) ([a,b,a,b].map Wv.int)) st else .bad)=_
  rw[if_pos (by simpa using h1),hz]
 have r:j8 3 [] cU bS [some (tI l),some (tI p),some (tI [a,b])] (none,ts.map yz) st= .ok (.ref st.length) (st++[.lst (ts.map λt=> .int (nx t.1 t.2.1 t.2.2))]):=by
  unfold j8
  have:=KU ts [] st (by simp[lim];omega)
  show(match fW (uA none) 3 (λv=>cU (v.map some++[])) (λv=>bS (v.map some++[])) st.length (ts.map yz) (st++[.lst []]) with | some mi=>Re.ok (Wv.ref st.length) mi | none=> .bad)=_
  rw[this]
  simp
 have gz:sW (aa (af 0) (aa (af 1) (aa (ag br (af 2) (af 2)) aj))) [some (tI l),some (tI p),some (tI [a,b])] st= .ok (none,ts.map yz) st:=by
  unfold sW
  simp[c1,z]
 have gc:lT 3 [] (sW (aa (af 0) (aa (af 1) (aa (ag br (af 2) (af 2)) aj)))) cU bS [some (tI l),some (tI p),some (tI [a,b])] st= .ok (.ref st.length) (st++[.lst (ts.map λt=> .int (nx t.1 t.2.1 t.2.2))]):=by
  unfold lT
  rw[gz]
  exact r
 have tc:gY [.ref st.length] (st++[.lst (ts.map λt=> .int (nx t.1 t.2.1 t.2.2))])= .ok (tI (ts.map λt=>nx t.1 t.2.1 t.2.2)) (st++[.lst (ts.map λt=> .int (nx t.1 t.2.1 t.2.2))]):=by
  rw[yx dY]
  unfold tI
  simp
 unfold eI bY om
 simp[gc,tc]
def stp:List Int->List Int->Int->Int->List Int
 | x::l,q::p,a,b=>nx x q a::stp l p b a
 | _,_,_,_=>[]
theorem rp{l p:List Int}{a b:Int}(h:u7 l p\/tD l p)(st:Hs):∃st',Gr st st'/\eI [tI l,tI p,tI [a,b]] st= .ok (tI (stp l p a b)) st':=by
 rcases h with ⟨x,y,q,r,rfl,rfl,_⟩ | ⟨x,y,z,w,q,r,s,t,rfl,rfl,_⟩
 ·exact⟨_,Gr.push,stepped (s:=[]) (ts:=[(x,q,a),(y,r,b)]) ⟨by simp,by simp⟩ rfl (by simp) st⟩
 ·exact⟨_,Gr.push,stepped (s:=[]) (ts:=[(x,q,a),(y,r,b),(z,s,a),(w,t,b)]) ⟨by simp,by simp⟩ rfl (by simp) st⟩
theorem F2{l p:List Int}{a b:Int}(h:u7 l p):u7 (stp l p a b) p:=by
 obtain⟨x,y,q,r,rfl,rfl,h⟩:=h
 exact⟨_,_,q,r,rfl,rfl,h⟩
theorem u_{l p:List Int}{a b:Int}(h:tD l p):tD (stp l p a b) p:=by
 obtain⟨x,y,z,w,q,r,s,t,rfl,rfl,h⟩:=h
 exact⟨_,_,_,_,q,r,s,t,rfl,rfl,h⟩
instance {a b:Int}:Decidable (cX a b):=by unfold cX;infer_instance
instance {a b c d:Int}:Decidable (dS a b c d):=by unfold dS;infer_instance
instance:∀l:List Int,Decidable (Fits l)
 | []=>isFalse (λh=>h)
 | [_]=>isFalse (λh=>h)
 | [a,b]=>inferInstanceAs (Decidable (cX a b))
 | [_,_,_]=>isFalse (λh=>h)
 | [a,b,c,d]=>inferInstanceAs (Decidable (dS a b c d))
 | _::_::_::_::_::_=>isFalse (λh=>h)
theorem nk{a b:Int}{ws:List Wv}{st:Hs}:bX [.tup (.int a:: .int b::ws)] st= .ok (.bl (decide (cX a b))) st:=by
 unfold bX bY l7
 by_cases c1:0<=a
 ·by_cases c2:a < 99
  ·by_cases c3:0<=b
   ·by_cases c4:b < 26
    ·have e:decide (cX a b)=true:=decide_eq_true ⟨c1,by omega,c3,by omega⟩
     simp[yw,KO,c1,c2,c3,c4,e]
    ·have e:decide (cX a b)=false:=decide_eq_false λh=>c4 (by have:=h.2.2.2;omega)
     simp[yw,KO,c1,c2,c3,c4,e]
   ·have e:decide (cX a b)=false:=decide_eq_false λh=>c3 h.2.2.1
    simp[yw,KO,c1,c2,c3,e]
  ·have e:decide (cX a b)=false:=decide_eq_false λh=>c2 (by have:=h.2.1;omega)
   simp[yw,KO,c1,c2,e]
 ·have e:decide (cX a b)=false:=decide_eq_false λh=>c1 h.1
  simp[yw,KO,c1,e]
theorem N4{i j:Int}{st:Hs}(h:(-1000000<=i/\i<=1000000)\/(-1000000<=j/\j<=1000000)):cG (.int i) (.int j) st= .ok (.int (i * j)) st:=by
 rcases h with h | h
 ·exact Ao (by omega) (by omega)
 ·exact mul_r (by omega) (by omega)
theorem KW{a b c d:Wv}{st:Hs}:vV (.tup [a,b,c,d]) none (some 2) st= .ok (.tup [a,b]) st:=u9 (by show ¬dv 4 none (some 2);decide+kernel) rfl
theorem KY{a b c d:Wv}{st:Hs}:vV (.tup [a,b,c,d]) (some 2) none st= .ok (.tup [c,d]) st:=u9 (by show ¬dv 4 (some 2) none;decide+kernel) rfl
def Co(a b c d:Int):Prop:=(a<=c/\b<=d)/\cX a b/\cX c d
instance {a b c d:Int}:Decidable (Co a b c d):=by unfold Co;infer_instance
theorem VR{a b c d:Wv}{st:Hs}:aS (.tup [a,b,c,d]) (.int 0) st= .ok a st/\aS (.tup [a,b,c,d]) (.int 1) st= .ok b st/\aS (.tup [a,b,c,d]) (.int 2) st= .ok c st/\aS (.tup [a,b,c,d]) (.int 3) st= .ok d st :=
 ⟨j_ (L2.gU (j:=0) rfl),j_ (L2.gU (j:=1) rfl),j_ (L2.gU (j:=2) rfl),j_ (L2.gU (j:=3) rfl)⟩
theorem kE{a b c d:Int}{st:Hs}:cz [tI [a,b,c,d]] st= .ok (.bl (decide (Co a b c d))) st:=by
 obtain⟨i0,i1,i2,i3⟩:=VR (a:=.int a) (b:=.int b) (c:=.int c) (d:=.int d) (st:=st)
 unfold cz bY iK tI
 simp only[aL,mC]
 by_cases c1:a<=c
 ·by_cases c2:b<=d
  ·by_cases c3:cX a b
   ·have e:decide (Co a b c d)=decide (cX c d):=by unfold Co;simp[c1,c2,c3]
    simp[i0,i1,i2,i3,c1,c2,KW,KY,nk,c3,e]
   ·have e:decide (Co a b c d)=false:=decide_eq_false λh=>c3 h.2.1
    simp[i0,i1,i2,i3,c1,c2,KW,KY,nk,c3,e]
  ·have e:decide (Co a b c d)=false:=decide_eq_false λh=>c2 h.1.2
   simp[i0,i1,i2,i3,c1,c2,e]
 ·have e:decide (Co a b c d)=false:=decide_eq_false λh=>c1 h.1.1
  simp[i0,i1,i2,i3,c1,e]
theorem Az{a b c d:Int}{st:Hs}:fu [tI [a,b,c,d]] st= .ok (.bl (decide (dS a b c d))) st:=by
 obtain⟨i0,i1,i2,i3⟩:=VR (a:=.int a) (b:=.int b) (c:=.int c) (d:=.int d) (st:=st)
 unfold fu bY n6
 by_cases h:Co a b c d
 ·have hm:cG (.int (c - a+1)) (.int (d - b+1)) st= .ok (.int ((c - a+1) * (d - b+1))) st:=by
   obtain⟨⟨h1,h2⟩,h3,h4⟩:=h
   exact N4 (.inl ⟨by omega,by have:=h3.1;have:=h4.2.1;omega⟩)
  have am:fT [tI [a,b,c,d]] st= .ok (.int ((c - a+1) * (d - b+1))) st:=by
   unfold fT bY ku tI
   simp only[aL,mC]
   simp[i0,i1,i2,i3,hm]
  have e:decide (dS a b c d)=decide ((c - a+1) * (d - b+1)<=300):=by
   obtain⟨⟨h1,h2⟩,h3,h4⟩:=h
   unfold cX at h3 h4
   unfold dS
   congr 1
   apply propext
   constructor
   ·exact λz=>z.2.2.2.2.2.2
   ·exact λz=>⟨h3.1,h1,h4.2.1,h3.2.2.1,h2,h4.2.2.2,z⟩
  have hc:=kE (a:=a) (b:=b) (c:=c) (d:=d) (st:=st)
  rw[decide_eq_true h] at hc
  simp[hc,am,e]
 ·have hc:=kE (a:=a) (b:=b) (c:=c) (d:=d) (st:=st)
  rw[decide_eq_false h] at hc
  have e:decide (dS a b c d)=false:=decide_eq_false λz=>h (by
   obtain⟨z1,z2,z3,z4,z5,z6,_⟩:=z
   exact⟨⟨z2,z5⟩,⟨z1,by omega,z4,by omega⟩,⟨by omega,z3,by omega,z6⟩⟩)
  simp[hc,e]
def nr(l:List Int):Option (List Int):=if Fits l then some l else none
theorem Jy{l p:List Int}(h:u7 l p\/tD l p)(st:Hs):iZ [tI l] st= .ok (oW (nr l)) st:=by
 unfold iZ bY oh nr
 rcases h with ⟨x,y,q,r,rfl,rfl,_⟩ | ⟨x,y,z,w,q,r,s,t,rfl,rfl,_⟩
 ·have ln:jY [tI [x,y]] st= .ok (.int 2) st:=rfl
  have ip:bX [tI [x,y]] st= .ok (.bl (decide (cX x y))) st:=nk (ws:=[])
  by_cases c:cX x y
  ·rw[decide_eq_true c] at ip
   rw[if_pos (show Fits [x,y] from c)]
   simp[ln,ip,oW]
  ·rw[decide_eq_false c] at ip
   rw[if_neg (show ¬Fits [x,y] from c)]
   simp[ln,ip,oW]
 ·have ln:jY [tI [x,y,z,w]] st= .ok (.int 4) st:=rfl
  have ip:=Az (a:=x) (b:=y) (c:=z) (d:=w) (st:=st)
  by_cases c:dS x y z w
  ·rw[decide_eq_true c] at ip
   rw[if_pos (show Fits [x,y,z,w] from c)]
   simp[ln,ip,oW]
  ·rw[decide_eq_false c] at ip
   rw[if_neg (show ¬Fits [x,y,z,w] from c)]
   simp[ln,ip,oW]
def g1(a b:Int):S->List Int->List Int->Option (List Int):=λ_ l p=>some (stp l p (-a) (-b))
def g2(a b:Int):S->List Int->List Int->Option (List Int):=λ_ l p=>nr (stp l p a b)
theorem jH(g:S->List Int->List Int->Option (List Int)):∀f:Fm,(f.fP g).dp<=f.dp
 | .lit _ _=>aq _
 | .pt x l p=>by simp only[Fm.fP];cases g x l p<;>simp[Fm.dp]
 | .fd a l p=>by
  have:=jH g a
  simp only[Fm.fP]
  cases g "find" l p<;>simp only[Fm.dp]<;>omega
 | .o1 x a=>by have:=jH g a;simp only[Fm.fP,Fm.dp];omega
 | .o2 x a b=>by have:=jH g a;have:=jH g b;simp only[Fm.fP,Fm.dp];omega
 | .o3 a b c=>by have:=jH g a;have:=jH g b;have:=jH g c;simp only[Fm.fP,Fm.dp];omega
theorem kF(a b:Int):∀f:Fm,f.sh->(f.fP (g1 a b)).sh
 | .lit _ _,h=>h
 | .pt x l p,h=>h.imp (λz=>⟨z.1,F2 z.2⟩) λz=>⟨z.1,u_ z.2⟩
 | .fd f l p,h=>⟨kF a b f h.1,u_ h.2⟩
 | .o1 x f,h=>⟨h.1,kF a b f h.2⟩
 | .o2 x f g,h=>⟨h.1,kF a b f h.2.1,kF a b g h.2.2⟩
 | .o3 f g k,h=>⟨kF a b f h.1,kF a b g h.2.1,kF a b k h.2.2⟩
theorem RP{FL:OV}{i:Nat}{g gb:GE}{ρ:bH}{st st1:Hs}{w wy:Wv}{r:Re Wv}(h1:g ρ st= .ok w st1)(h2:ρ[i]? =some (some wy))(h3:∀p,FL p (ly gb) [w,.fn p [wy]] st1=r):xO FL i g gb ρ st=r:=by
 unfold xO
 rw[h1]
 show(match ρ[i]? with | some (some wy)=>sV λp=>FL p (ly gb) [w,.fn p [wy]] st1 | _=> .bad)=r
 rw[h2]
 exact Ey h3
theorem Jz{f:Fm}{a b:Int}(h:f.sh)(hd:f.dp<=8)(st:Hs):∃st',Gr st st'/\i5 [f.w,tI [a,b]] st= .ok (f.fP (g1 a b)).w st':=by
 have hL:∀x l p,(u7 l p\/tD l p)->∀st,∃st',Gr st st'/\ly gE [tI [-a,-b]] [.str x,tI l,tI p] st= .ok (oW (g1 a b x l p)) st':=λx l p hs st=>by
  obtain⟨s1,k1,e1⟩:=rp (a:=-a) (b:=-b) hs st
  refine⟨s1,k1,?_⟩
  unfold ly gE
  simp[e1,g1,oW]
 obtain⟨s1,k1,e1⟩:=gF hL f 8 h hd st
 refine⟨s1,k1,?_⟩
 have gl:=RP (FL:=bg) (i:=2) (g:=af 0) (gb:=gE) (ρ:=[some f.w,some (tI [a,b]),some (tI [-a,-b])]) (st:=st) rfl rfl e1
 have i0:aS (tI [a,b]) (.int 0) st= .ok (.int a) st:=yw
 have i1:aS (tI [a,b]) (.int 1) st= .ok (.int b) st:=KO
 have t2:rP [.int (-a),.int (-b)] st= .ok (tI [-a,-b]) st:=nY
 unfold i5 bY oq
 simp[i0,i1,-nY,t2,gl]
theorem yA{f:Fm}{a b:Int}(h:f.sh)(hd:f.dp<=8)(st:Hs):∃st',Gr st st'/\fj [f.w,tI [a,b]] st= .ok (f.fP (g2 a b)).w st':=by
 have hL:∀x l p,(u7 l p\/tD l p)->∀st,∃st',Gr st st'/\ly eh [tI [a,b]] [.str x,tI l,tI p] st= .ok (oW (g2 a b x l p)) st':=λx l p hs st=>by
  obtain⟨s1,k1,e1⟩:=rp (a:=a) (b:=b) hs st
  have e2:=Jy (l:=stp l p a b) (p:=p) (hs.imp F2 u_) s1
  refine⟨s1,k1,?_⟩
  unfold ly eh
  simp[e1,e2,g2]
 obtain⟨s1,k1,e1⟩:=gF hL f 8 h hd st
 refine⟨s1,k1,?_⟩
 have gl:=RP (FL:=bg) (i:=1) (g:=af 0) (gb:=eh) (ρ:=[some f.w,some (tI [a,b])]) (st:=st) rfl rfl e1
 unfold fj bY jF
 simp[gl]
theorem N5{f:Fm}{a b c d:Int}(h:f.sh)(hd:f.dp<=8)(st:Hs):∃st',Gr st st'/\gR [f.w,tI [a,b],tI [c,d]] st= .ok ((f.fP (g1 a b)).fP (g2 c d)).w st':=by
 obtain⟨s1,k1,e1⟩:=Jz (a:=a) (b:=b) h hd st
 obtain⟨s2,k2,e2⟩:=yA (a:=c) (b:=d) (kF a b f h) (bp (jH _ f) hd) s1
 refine⟨s2,k1.trans k2,?_⟩
 unfold gR bY rl
 simp[e1,e2]
theorem made_place{a b:Int}{st:Hs}(h:cX a b):fh [.int a,.int b] st= .ok (tI [a,b]) st:=by
 unfold fh bY jB
 simp[nk,h,tI]
theorem tF{a b c d:Int}{st:Hs}(h:dS a b c d):c_ [.int a,.int b,.int c,.int d] st= .ok (tI [a,b,c,d]) st:=by
 have e:=Az (a:=a) (b:=b) (c:=c) (d:=d) (st:=st)
 simp[tI] at e
 unfold c_ bY kz
 simp[e,h,tI]
theorem RQ{a b c d:Wv}{st:Hs}:aS (.tup [a,b,c,d]) (.int 0) st= .ok a st/\aS (.tup [a,b,c,d]) (.int 1) st= .ok b st/\aS (.tup [a,b,c,d]) (.int 2) st= .ok c st/\aS (.tup [a,b,c,d]) (.int 3) st= .ok d st:=⟨rfl,rfl,rfl,rfl⟩
theorem JB{a b c d p q:Int}{st:Hs}(h:dS a b c d)(k:cX p q):dc [tI [a,b,c,d],tI [p,q]] st=if Co p q (p+c - a) (q+d - b) then .ok (tI [p,q,p+c - a,q+d - b]) st else .err "NoRoom" st:=by
 have e:=tF (st:=st) h
 have e2:=made_place (st:=st) k
 have e3:=kE (a:=p) (b:=q) (c:=p+c - a) (d:=q+d - b) (st:=st)
 have e4:=cat (x:=.int p) (xs:=[.int q]) (ys:=[.int (p+c - a),.int (q+d - b)]) (st:=st) (by simp)
 simp[tI] at e e2 e3 e4
 unfold dc bY gO
 by_cases hc:Co p q (p+c - a) (q+d - b)
 ·simp[tI,RQ,RH,RI,e,e2,e4,e3,hc]
 ·simp[tI,RQ,RH,RI,e,e2,e4,e3,hc,lim]
def ky(p q:Int):List L2.Key:=[.inl p,.inl q]
theorem VS{p q:Int}:nT (tI [p,q])=some (ky p q):=rfl
theorem N6{st:Hs}{l:Nat}{kvs:List (List L2.Key×Wv)}{p q:Int}{i j:Nat}{ρ:bH}(hi:ρ[i]? =some (some (.ref l)))(hj:ρ[j]? =some (some (tI [p,q])))(h:eX st[l]? =some kvs) :
  iD (af i) (af j) ρ st= .ok ((cD kvs (ky p q)).getD .bz) st:=by
 have e1:af i ρ st= .ok (.ref l) st:=by unfold af;rw[hi]
 have e2:af j ρ st= .ok (tI [p,q]) st:=by unfold af;rw[hj]
 unfold iD
 rw[e1]
 show(if _ then _ else _)=_
 rw[h,if_pos (show(some kvs).isSome=true from rfl),e2]
 show(match nT (tI [p,q]),eX st[l]? with | some kk,some kvs=>Re.ok ((cD kvs kk).getD .bz) st | _,_=> .bad)=_
 rw[VS,h]
def VT:Wv->Bool
 | .tup _=>true
 | _=>false
theorem isT{v:Wv}{st:Hs}(h:v= .bz\/Cn v):nQ lr n5 [v,.ty "tuple"] st= .ok (.bl (VT v)) st:=by
 rcases h with rfl | ⟨i,rfl⟩ | ⟨x,rfl⟩ | ⟨f,rfl,_⟩<;>rfl
theorem wX{st:Hs}{l:Nat}{kvs:List (List L2.Key×Wv)}{p q:Int}(h:eX st[l]? =some kvs)(hk:∀v,cD kvs (ky p q)=some v->Cn v) :
  bG [.ref l,tI [p,q]] st= .ok (.bl (VT ((cD kvs (ky p q)).getD .bz))) st:=by
 have e:=N6 (i:=0) (j:=1) (ρ:=[some (.ref l),some (tI [p,q])]) rfl rfl h
 have t:=isT (st:=st) (v:=(cD kvs (ky p q)).getD .bz) (by
  cases c:cD kvs (ky p q) with
  | none=>exact .inl rfl
  | some v=>exact .inr (hk v c))
 unfold bG bY iN
 simp[e,t]
theorem oB{st:Hs}{xs:List Ob}{ws:List Wv}:av (st++ .lst ws::xs) st.length=some ws:=by unfold av;simp
section
variable {a b c d:Int} {st:Hs}
theorem Q3:L2.lM [Wv.int a,.int b,.int c,.int d] 1=some (.int b):=rfl
theorem Kk:L2.lM [Wv.int a,.int b,.int c,.int d] 3=some (.int d):=rfl
def oC(r b:Int)(n:Nat):List Wv:=(f9 n).map λk:Nat=> .tup [.int r,.int (b+k)]
def bT(a b:Int)(m n:Nat):List Wv:=((f9 m).map λk:Nat=>oC (a+k) b n).flatten
theorem B5{m n:Nat}:(bT a b m n).length=m * n:=by
 unfold bT
 rw[List.length_flatten,hG]
 have:(nE ∘ λk:Nat=>oC (a+k) b n)=λ_=>n:=by funext k;simp[oC]
 rw[this]
 clear this
 induction m with
 | zero=>simp
 | succ m ih=>rw[AA,nu,List.sum_append,ih,pA];simp
theorem rA{m n:Nat}:bT a b (m+1) n=bT a b m n++oC (a+m) b n:=by
 unfold bT
 rw[AA,nu,List.flatten_append]
 simp
theorem F3{o:Wv}{r:Int}{st:Hs}(hb:cg b)(hd:cg (d+1))(hn:(d+1 - b).toNat<=300) :
  j7 [("row",2)] (DX (aa (ag aS (af 0) (gC (.int 1))) (aa (ag br (ag aS (af 0) (gC (.int 3))) (gC (.int 1))) aj))) de cb [some (.tup [.int a,.int b,.int c,.int d]),some o,some (.int r)] st=
   .ok (.ref st.length) (st++[.lst (oC r b (d+1 - b).toNat)]):=by
 have q:=BV (cs:=[("row",2)]) (gt:=de) (ge:=cb) (ρ:=[some (.tup [.int a,.int b,.int c,.int d]),some o,some (.int r)]) (w:=(none,bO b (d+1 - b).toNat)) (st:=st) (t:=λ_=>true) (f:=λv=> .tup [.int r,v]) trivial
  (λv _ acc=>rfl) (λv _ _ acc=>by unfold cb;simp[eT]) (by rw[show((none,bO b (d+1 - b).toNat):Wk).2=bO b (d+1 - b).toNat from rfl,b9];unfold lim;omega)
 have e:((bO b (d+1 - b).toNat).filter λ_=>true).map (λv=>Wv.tup [.int r,v])=oC r b (d+1 - b).toNat:=by
  rw[List.filter_eq_self.mpr (λ_ _=>rfl)]
  unfold bO oC
  rw[hG]
  rfl
 rw[show((none,bO b (d+1 - b).toNat):Wk).2=bO b (d+1 - b).toNat from rfl,e] at q
 simp[j_ Q3,j_ Kk,NZ hb hd,q]
theorem zx{st more:Hs}{acc row:List Wv}(h:acc.length+row.length<=lim):MK (.ref st.length) (.ref (st++ .lst acc::more).length) ((st++ .lst acc::more)++[.lst row])= .ok .bz (st++ .lst (acc++row)::(more++[.lst row])):=by
 have g1:((st++Ob.lst acc::more)++[Ob.lst row])[st.length]? =some (.lst acc):=by simp
 have g2:((st++Ob.lst acc::more)++[Ob.lst row])[(st++Ob.lst acc::more).length]? =some (.lst row):=by rw[fV (aq _),mJ];rfl
 show(match((st++Ob.lst acc::more)++[Ob.lst row])[st.length]?,((st++Ob.lst acc::more)++[Ob.lst row])[(st++Ob.lst acc::more).length]? with
  | some (.lst ws),some (.lst zs)=>if ws.length+zs.length<=lim then Re.ok Wv.bz (((st++Ob.lst acc::more)++[Ob.lst row]).set st.length (.lst (ws++zs))) else .bad
  | _,_=> .bad)=_
 rw[g1,g2]
 dsimp only
 rw[if_pos h]
 congr 1
 simp
theorem F4{st more:Hs}{acc row:List Wv}(h:acc.length+row.length<=lim):wd (.ref st.length) (.ref (st++ .lst acc::more).length) ((st++ .lst acc::more)++[.lst row])= .ok .bz (st++ .lst (acc++row)::(more++[.lst row])):=zx h
theorem B6(hb:cg b)(hd:cg (d+1))(hn:(d+1 - b).toNat<=300){m:Nat}(hm:m<=100){ρ0:Option Wv}:∃(o:Option Wv)(more:Hs),
  cZ 2 cE (bO a m) [some (.tup [.int a,.int b,.int c,.int d]),some (.ref st.length),ρ0] (st++[.lst []])= .nx [some (.tup [.int a,.int b,.int c,.int d]),some (.ref st.length),o] (st++ .lst (bT a b m (d+1 - b).toNat)::more):=by
 obtain⟨ρ1,st1,e1,o,more,rfl,rfl⟩:=ji (i:=2) (gb:=cE) (λk ρ st'=>∃(o:Option Wv)(more:Hs),ρ=[some (.tup [.int a,.int b,.int c,.int d]),some (.ref st.length),o]/\st'=st++ .lst (bT a b k (d+1 - b).toNat)::more)
  (bO a m) 0 [some (.tup [.int a,.int b,.int c,.int d]),some (.ref st.length),ρ0] (st++[.lst []]) ⟨ρ0,[],rfl,rfl⟩ (λj w hw ρ st' hP=>by
   obtain⟨o,more,rfl,rfl⟩:=hP
   have hj:j < m:=by
    have q:=(List.getElem?_eq_some_iff.mp hw).1
    rw[b9] at q
    exact q
   rw[kP hj] at hw
   cases hw
   have ln:(bT a b (0+j) (d+1 - b).toNat).length+(oC (a+j) b (d+1 - b).toNat).length<=lim:=by
    rw[B5]
    have z:(oC (a+(j:Int)) b (d+1 - b).toNat).length=(d+1 - b).toNat:=by unfold oC;simp
    rw[z]
    have:(0+j) * (d+1 - b).toNat<=100 * 300:=Nat.mul_le_mul (by omega) hn
    unfold lim
    omega
   refine⟨_,_,?_,some (.int (a+(j:Int))),more++[.lst (oC (a+j) b (d+1 - b).toNat)],rfl,rfl⟩
   have e:bT a b (0+j+1) (d+1 - b).toNat=bT a b (0+j) (d+1 - b).toNat++oC (a+j) b (d+1 - b).toNat:=by rw[fQ];exact rA
   rw[e]
   have rc:=F3 (a:=a) (c:=c) (o:=.ref st.length) (r:=a+(j:Int)) (st:=st++ .lst (bT a b (0+j) (d+1 - b).toNat)::more) hb hd hn
   have km:=λga ρ=>Ap (mt:=wd) (ga:=ga) (ρ:=ρ) (st:=st++ .lst (bT a b (0+j) (d+1 - b).toNat)::more) (l:=st.length) oB
   have em:=F4 (st:=st) (more:=more) ln
   unfold cE
   simp only[e_expr,NX,FG,Aw,Av,FZ,FY,FF,Am,km,rc,em,FE,yf])
 exact⟨o,more,by rw[e1,b9,fQ]⟩
theorem rB(h:dS a b c d):∃more:Hs,dF [tI [a,b,c,d]] st= .ok (.ref st.length) (st++ .lst (bT a b (c+1 - a).toNat (d+1 - b).toNat)::more):=by
 unfold dS at h
 obtain⟨o,more,e⟩:=B6 (a:=a) (c:=c) (st:=st) (b:=b) (d:=d) (ρ0:=none) (by unfold cg;omega) (by unfold cg;omega) (by omega) (m:=(c+1 - a).toNat) (by omega)
 have ca:cg a:=by unfold cg;omega
 have cc:cg (c+1):=by unfold cg;omega
 refine⟨more,m_ (n:=3) (g:=dE) ?_⟩
 unfold dE
 simp[tI,RQ,ca,cc]
 simp[e]
theorem oR{st:Hs}(h:dS a b c d):∃more:Hs,dR [tI [a,b,c,d]] st= .ok (.ref st.length) (st++ .lst (bT a b (c+1 - a).toNat (d+1 - b).toNat)::more):=by
 obtain⟨more,e⟩:=rB (st:=st) h
 have m:=tF (st:=st) h
 refine⟨more,m_ (n:=1) (g:=fM) ?_⟩
 unfold fM
 simp[tI] at e m
 simp[tI,RQ,m,e]
end
theorem F5{x:S}{n:Nat}{st:Hs}:aT st n (.str x)=some (.str x):=by cases n<;>rfl
theorem F6{i:Int}{n:Nat}{st:Hs}:aT st n (.int i)=some (.int i):=by cases n<;>rfl
theorem F7:∀(l:List Int)(n:Nat),∃ds:List PyData,(∀st:Hs,iA (aT st n) (l.map Wv.int)=some ds)/\lp ds ds=true
 | [],n=>⟨[],λ_=>rfl,by simp[lp]⟩
 | i::r,n=>by
  obtain⟨ds,e1,e2⟩:=F7 r n
  refine⟨.int i::ds,λst=>?_,by simp[lp,FP,e2]⟩
  rw[aL]
  unfold iA
  rw[F6,e1]
theorem vb(l:List Int)(n:Nat):∃d:PyData,(∀st:Hs,aT st (n+1) (tI l)=some d)/\bE d d=true:=by
 obtain⟨ds,e1,e2⟩:=F7 l n
 refine⟨.tuple ds,λst=>?_,by simpa [bE] using e2⟩
 show(iA (aT st n) (l.map Wv.int)).map uf=_
 rw[e1]
 rfl
theorem tG{x:S}{n:Nat}{ws:List Wv}(h:∀w∈ws,∃d:PyData,(∀st:Hs,aT st n w=some d)/\bE d d=true):∃d:PyData,(∀st:Hs,aT st (n+1) (.tup (.str x::ws))=some d)/\bE d d=true:=by
 have key:∀ws:List Wv,(∀w∈ws,∃d:PyData,(∀st:Hs,aT st n w=some d)/\bE d d=true)->∃ds:List PyData,(∀st:Hs,iA (aT st n) ws=some ds)/\lp ds ds=true:=by
  intro ws
  induction ws with
  | nil=>exact λ_=>⟨[],λ_=>rfl,by simp[lp]⟩
  | cons w r ih=>
   intro h
   obtain⟨d,d1,d2⟩:=h w bu
   obtain⟨ds,e1,e2⟩:=ih λv hv=>h v (aN _ hv)
   refine⟨d::ds,λst=>?_,by simp[lp,d2,e2]⟩
   unfold iA
   rw[d1,e1]
 obtain⟨ds,e1,e2⟩:=key ws h
 refine⟨.tuple (.str x::ds),λst=>?_,by simp[bE,lp,FQ,e2]⟩
 show(iA (aT st n) (.str x::ws)).map uf=_
 unfold iA
 rw[F5,e1]
 rfl
theorem all1{P:Wv->Prop}{a:Wv}(h:P a):∀w∈[a],P w:=List.forall_mem_cons.mpr ⟨h,λ_ z=>by cases z⟩
theorem all2{P:Wv->Prop}{a b:Wv}(h:P a)(k:P b):∀w∈[a,b],P w:=List.forall_mem_cons.mpr ⟨h,all1 k⟩
theorem RS{P:Wv->Prop}{a b c:Wv}(h:P a)(k:P b)(j:P c):∀w∈[a,b,c],P w:=List.forall_mem_cons.mpr ⟨h,all2 k j⟩
theorem dat:∀(f:Fm)(n:Nat),f.sh->f.dp<=n->∃d:PyData,(∀st:Hs,aT st (n+1) f.w=some d)/\bE d d=true
 | f,0,_,hd=>by cases f<;>simp[Fm.dp] at hd
 | .lit x ws,n+1,h,_=>by
  refine tG (ws:=ws) λw hw=>?_
  rcases h with ⟨_,i,rfl⟩ | ⟨_,s,rfl⟩ | ⟨_,rfl⟩
  ·rw[List.mem_singleton.mp hw];exact⟨.int i,λ_=>F6,FP⟩
  ·rw[List.mem_singleton.mp hw];exact⟨.str s,λ_=>F5,FQ⟩
  ·cases hw
 | .pt x l p,n+1,_,_=>tG (ws:=[tI l,tI p]) (all2 (vb l n) (vb p n))
 | .fd f l p,n+1,h,hd=>tG (ws:=[f.w,tI l,tI p]) (RS (dat f n h.1 (by simp[Fm.dp] at hd;omega)) (vb l n) (vb p n))
 | .o1 x f,n+1,h,hd=>tG (ws:=[f.w]) (all1 (dat f n h.2 (by simp[Fm.dp] at hd;omega)))
 | .o2 x f g,n+1,h,hd=>tG (ws:=[f.w,g.w]) (all2 (dat f n h.2.1 (by simp[Fm.dp] at hd;omega)) (dat g n h.2.2 (by simp[Fm.dp] at hd;omega)))
 | .o3 f g k,n+1,h,hd=>tG (ws:=[f.w,g.w,k.w]) (RS (dat f n h.1 (by simp[Fm.dp] at hd;omega)) (dat g n h.2.1 (by simp[Fm.dp] at hd;omega)) (dat k n h.2.2 (by simp[Fm.dp] at hd;omega)))
abbrev Ks:=List (List L2.Key×Wv)
abbrev Pt:=Int×Int
def KZ(p:Pt):List L2.Key:=ky p.1 p.2
def RT:List Pt:=(f9 2574).map λk=>(((k / 26:Nat):Int),((k % 26:Nat):Int))
def uq{α:Type}(f:α->Nat):List α->Nat->Bool
 | [],_=>true
 | x::r,acc=> !(acc.testBit (f x))&&uq f r (acc||| 2 ^ f x)
theorem K0{α:Type}{f:α->Nat}:∀{l:List α}{acc:Nat},uq f l acc=true->(∀x∈l,∀y∈l,f x=f y->x=y)/\∀x∈l,acc.testBit (f x)=false
 | [],_,_=>⟨λx hx=>(by cases hx),λx hx=>by cases hx⟩
 | x::r,acc,h=>by
  unfold uq at h
  rw[cQ] at h
  obtain⟨h1,h2⟩:=K0 h.2
  have no:∀y∈r,acc.testBit (f y)=false/\f x≠f y:=λy hy=>by
   have q:=h2 y hy
   rw[Nat.testBit_or,Nat.testBit_two_pow,Bool.or_eq_false_iff] at q
   exact⟨q.1,of_decide_eq_false q.2⟩
  refine⟨λa ha b hb e=>?_,λy hy=>?_⟩
  ·rcases List.mem_cons.mp ha with ea | ha'
   ·rcases List.mem_cons.mp hb with eb | hb'
    ·rw[ea,eb]
    ·rw[ea] at e
     exact absurd e (no b hb').2
   ·rcases List.mem_cons.mp hb with eb | hb'
    ·rw[eb] at e
     exact absurd e.symm (no a ha').2
    ·exact h1 a ha' b hb' e
  ·rcases List.mem_cons.mp hy with rfl | hy
   ·simpa using h.1
   ·exact(no y hy).1
def hs(p:Pt):Int:=zW [p.1,p.2]
def hm(p:Pt):Nat:=(hs p % 19291).toNat
theorem N7:uq hm RT 0=true:=by decide+kernel
theorem wY{p:Pt}(h:cX p.1 p.2):p∈RT:=by
 obtain⟨a,b⟩:=p
 obtain⟨h1,h2,h3,h4⟩:=h
 dsimp only at h1 h2 h3 h4
 refine List.mem_map.mpr ⟨a.toNat * 26+b.toNat,List.mem_range.mpr (by omega),?_⟩
 refine Prod.ext ?_ ?_
 ·show(((a.toNat * 26+b.toNat) / 26:Nat):Int)=a
  omega
 ·show(((a.toNat * 26+b.toNat) % 26:Nat):Int)=b
  omega
theorem N8{p q:Pt}(hp:cX p.1 p.2)(hq:cX q.1 q.2)(h:hs p=hs q):p=q :=
 (K0 N7).1 p (wY hp) q (wY hq) (by unfold hm;rw[h])
theorem AB:∀l:List Pt,oM (l.map KZ)=some (l.map λp=>[p.1,p.2])
 | []=>rfl
 | p::r=>by
  rw[aL,aL]
  unfold oM
  rw[AB r]
  rfl
theorem wZ:∀{l:List Pt},l.Nodup->(∀p∈l,cX p.1 p.2)->(l.map hs).Nodup
 | [],_,_=>gX
 | p::r,h,k=>by
  rw[jh] at h
  rw[aL,jh]
  refine⟨λz=>?_,wZ h.2 λq hq=>k q (aN _ hq)⟩
  obtain⟨q,hq,e⟩:=List.mem_map.mp z
  exact h.1 (N8 (k q (aN _ hq)) (k p bu) e ▸ hq)
theorem N9{kvs:Ks}{ps:List Pt}(h:kvs.map (·.1)=ps.map KZ)(hn:ps.Nodup)(hp:∀p∈ps,cX p.1 p.2):lY (kvs.map (·.1))=true:=by
 unfold lY
 rw[h,AB]
 refine decide_eq_true ?_
 rw[hG]
 exact wZ hn hp
theorem F8{a b c d:Int}(h:ky a b=ky c d):a=c/\b=d:=by
 unfold ky at h
 injection h with h1 h2
 injection h2 with h2
 injection h1 with h1
 injection h2 with h2
 exact⟨h1,h2⟩
theorem AD{kvs:Ks}{k:List L2.Key}{v:Wv}(h:k∉kvs.map (·.1)):iY kvs k v=kvs++[(k,v)]:=by
 unfold iY
 rw[if_neg]
 intro q
 obtain⟨p,hp,e⟩:=List.any_eq_true.mp q
 exact h (List.mem_map.mpr ⟨p,hp,of_decide_eq_true e⟩)
theorem yB{d:Nat}{kvs:Ks}{a b:Int}{v:Wv}{st:Hs}(h:st[d]? =some (.eQ kvs))(hl:kvs.length < 1000):putD (.ref d) (.tup [.int a,.int b]) v st=some (st.set d (.eQ (iY kvs (ky a b) v))):=by
 have hk:nT (.tup [.int a,.int b])=some (ky a b):=rfl
 unfold putD
 dsimp only
 rw[h]
 dsimp only
 rw[hk]
 dsimp only
 rw[if_pos (by unfold lim;omega)]
def gp(a b:Int)(k:Nat):Pt:=(a+((k / 4:Nat):Int),b+((k % 4:Nat):Int))
def vj(a b:Int)(n:Nat)(kvs:Ks):Prop:=∃js:List Nat,kvs.map (·.1)=js.map (λj=>KZ (gp a b j))/\js.Nodup/\(∀j∈js,j < n)/\js.length<=n/\∀kv∈kvs,Cn kv.2
theorem F9{a b:Int}{i j:Nat}(h:KZ (gp a b i)=KZ (gp a b j)):i=j:=by
 obtain⟨h1,h2⟩:=F8 h
 have h1:a+((i / 4:Nat):Int)=a+((j / 4:Nat):Int):=h1
 have h2:b+((i % 4:Nat):Int)=b+((j % 4:Nat):Int):=h2
 omega
theorem RU{a b:Int}{k:Nat}(h:mf a b)(hk:k < 12):cX (gp a b k).1 (gp a b k).2:=by
 obtain⟨h1,h2,h3,h4⟩:=h
 show cX (a+((k / 4:Nat):Int)) (b+((k % 4:Nat):Int))
 unfold cX
 omega
theorem vj.put{a b:Int}{n:Nat}{kvs:Ks}{v:Wv}(h:vj a b n kvs)(hv:Cn v):vj a b (n+1) (iY kvs (KZ (gp a b n)) v):=by
 obtain⟨js,h1,h2,h3,hl,h4⟩:=h
 have no:KZ (gp a b n)∉kvs.map (·.1):=λz=>by
  rw[h1] at z
  obtain⟨j,hj,e⟩:=List.mem_map.mp z
  have:=F9 e
  have:=h3 j hj
  omega
 rw[AD no]
 refine⟨js++[n],by rw[nu,h1,nu];rfl,?_,?_,by rw[cW];exact ug hl,?_⟩
 ·rw[List.nodup_append]
  refine⟨h2,by simp,λx hx y hy=>?_⟩
  have:=h3 x hx
  rw[List.mem_singleton.mp hy]
  omega
 ·intro j hj
  rcases List.mem_append.mp hj with z | z
  ·have:=h3 j z;omega
  ·rw[List.mem_singleton.mp z];omega
 ·intro kv hkv
  rcases List.mem_append.mp hkv with z | z
  ·exact h4 kv z
  ·rw[List.mem_singleton.mp z];exact hv
theorem vj.le{a b:Int}{n m:Nat}{kvs:Ks}(h:vj a b n kvs)(k:n<=m):vj a b m kvs:=by
 obtain⟨js,h1,h2,h3,hl,h4⟩:=h
 exact⟨js,h1,h2,λj hj=>a9 (h3 j hj) k,bp hl k,h4⟩
theorem vj.len{a b:Int}{n:Nat}{kvs:Ks}(h:vj a b n kvs):kvs.length<=n:=by
 obtain⟨js,h1,h2,h3,hl,h4⟩:=h
 have:=congrArg nE h1
 rw[gT,gT] at this
 omega
theorem vj.nil{a b:Int}:vj a b 0 []:=⟨[],rfl,gX,λj hj=>(by cases hj),aq _,λkv h=>by cases h⟩
theorem vj.hash{a b:Int}{kvs:Ks}(k:mf a b)(h:vj a b 12 kvs):lY (kvs.map (·.1))=true:=by
 obtain⟨js,h1,h2,h3,hl,h4⟩:=h
 refine N9 (ps:=js.map (gp a b)) (by rw[h1,hG];rfl) ?_ λp hp=>?_
 ·rw[List.nodup_iff_pairwise_ne,List.pairwise_map]
  exact(List.nodup_iff_pairwise_ne.mp h2).imp λhne e=>hne (F9 (by rw[e]))
 ·obtain⟨j,hj,rfl⟩:=List.mem_map.mp hp
  exact RU k (h3 j hj)
theorem vj.val{a b:Int}{n:Nat}{kvs:Ks}{k:List L2.Key}{v:Wv}(h:vj a b n kvs)(e:cD kvs k=some v):Cn v:=by
 obtain⟨js,h1,h2,h3,hl,h4⟩:=h
 exact h4 _ (m6 e)
theorem F_{v:Wv}(h:v= .bz\/Cn v):∃d:PyData,(∀st:Hs,aT st 20 v=some d)/\bE d d=true:=by
 rcases h with rfl | ⟨i,rfl⟩ | ⟨x,rfl⟩ | ⟨f,rfl,h1,_,h2⟩
 ·exact⟨.none,λ_=>rfl,by simp[bE]⟩
 ·exact⟨.int i,λ_=>F6,FP⟩
 ·exact⟨.str x,λ_=>F5,FQ⟩
 ·exact dat f 19 h1 (by omega)
theorem tH{k:List L2.Key}:∀{kvs:Ks},k∈kvs.map (·.1)->∃v,cD kvs k=some v
 | [],h=>by cases h
 | p::r,h=>by
  unfold cD
  by_cases e:p.1=k
  ·exact⟨p.2,if_pos e⟩
  ·rw[if_neg e]
   rw[aL,aV] at h
   exact tH (h.resolve_left λz=>e z.symm)
theorem same_self{kvs:Ks}{st:Hs}(h:∀kv∈kvs,∃d:PyData,(∀st:Hs,aT st 20 kv.2=some d)/\bE d d=true):nU st kvs=true/\oN st kvs kvs=true:=by
 refine⟨?_,?_⟩
 ·unfold nU
  rw[qR]
  intro kv hk
  obtain⟨d,h1,_⟩:=h kv hk
  rw[h1]
  rfl
 ·unfold oN
  rw[decide_eq_true rfl,ER,qR]
  intro k hk
  obtain⟨v,e⟩:=tH hk
  obtain⟨d,h1,h2⟩:=h _ (m6 e)
  unfold Ko
  rw[e]
  dsimp only
  rw[h1]
  simpa using h2
theorem eq_self{kvs:Ks}{l k:Nat}{st:Hs}(h1:eX st[l]? =some kvs)(h2:eX st[k]? =some kvs)(h:∀kv∈kvs,∃d:PyData,(∀st:Hs,aT st 20 kv.2=some d)/\bE d d=true):Bz (.ref l) (.ref k) st= .ok (.bl true) st/\uE (.ref l) (.ref k) st= .ok (.bl false) st:=by
 obtain⟨a,b⟩:=same_self (st:=st) h
 have d1:qL st (.ref l)=some kvs:=h1
 have d2:qL st (.ref k)=some kvs:=h2
 unfold Bz uE
 rw[d1,d2]
 dsimp only
 rw[if_pos ⟨a,a⟩,if_pos ⟨a,a⟩,b]
 exact⟨rfl,rfl⟩
theorem JC{d:Nat}{kvs:Ks}{st:Hs}(hd:eX st[d]? =some kvs)(hk:lY (kvs.map (·.1))=true):sY [.ref d] st= .ok (.ref st.length) (st++[.eQ kvs]):=by
 unfold sY
 dsimp only
 rw[hd]
 dsimp only
 rw[if_pos hk]
theorem N_{v:Wv}{st:Hs}(h:Cn v):qj v .bz st= .ok (.bl true) st:=by
 rcases h with ⟨i,rfl⟩ | ⟨x,rfl⟩ | ⟨f,rfl,_⟩<;>rfl
theorem cells{st:Hs}{l:Nat}{ns:List Int}{dp:Nat}(h:av st l=some (ns.map Wv.int))(hn:ns.length<=63)(hd:dp<=2):∃(a b:Int)(kvs:Ks)(d:Nat)(st':Hs),fg [.ref l,.int dp] st= .ok (.ref d) st'/\st'[d]? =some (.eQ kvs)/\mf a b/\vj a b 12 kvs/\Gr st st'/\(∃s,cI [.ref l] st= .ok (tI [a,b]) s):=by
 obtain⟨a,b,s0,e0,hs,more,rfl⟩:=spot h
 have g0:Gr st (st++more):=Gr.app
 generalize hs0:st++more=s0 at e0 g0
 have g1:Gr st (s0++[.eQ []]):=g0.trans Gr.push
 have f4:∀(k:Nat)(s:Hs),fZ (.int k) (.int 4) s= .ok (.int ((k / 4:Nat):Int)) s:=λk s=>by
  rw[nZ (by decide+kernel),Int.fdiv_eq_ediv_of_nonneg _ (by decide)]
  rfl
 have m4:∀(k:Nat)(s:Hs),oMod (.int k) (.int 4) s= .ok (.int ((k % 4:Nat):Int)) s:=λk s=>by
  rw[jL (by decide),Int.fmod_eq_emod_of_nonneg _ (by decide)]
  rfl
 obtain⟨ρ1,s1,e1,o4,o5,kvs,rfl,hk,hg,hsh⟩:=ji (i:=4) (gb:=d_) (λk ρ s=>∃(o4 o5:Option Wv)(kvs:Ks),ρ=[some (.ref l),some (.int dp),some (tI [a,b]),some (.ref s0.length),o4,o5]/\s[s0.length]? =some (.eQ kvs)/\Gr st s/\vj a b k kvs)
  (bO 0 12) 0 [some (.ref l),some (.int dp),some (tI [a,b]),some (.ref s0.length),none,none] (s0++[.eQ []]) ⟨none,none,[],rfl,dY,g1,vj.nil⟩ (λk w hw ρ s hP=>by
   obtain⟨o4,o5,kvs,rfl,hk,hg,hsh⟩:=hP
   have hj:k < 12:=by
    have q:=(List.getElem?_eq_some_iff.mp hw).1
    rw[b9] at q
    exact q
   rw[kP hj] at hw
   cases hw
   rw[fQ] at hsh
   obtain⟨n,es⟩:=stream (hg.lst h) hn (k:=k) (by omega) (by omega)
   have ro:Ro s.length (s++[.lst [.int n]]):=⟨n,dY⟩
   obtain⟨v,s2,e2,hv,dw⟩:=content ro hs hd
   have g2:Gr s s2:=Gr.push.yh (aq _) dw.1
   have hk2:=g2.get hk
   have lt:st.length<=s0.length:=g0.1
   rw[show((0:Int)+(k:Nat))=(k:Int) from Int.zero_add _]
   rcases hv with rfl | hv
   ·refine⟨_,_,?_,some (.int k),some .bz,kvs,rfl,hk2,hg.trans g2,hsh.le (by omega)⟩
    unfold d_
    simp[es,e2,qj]
   ·have pd:=yB (a:=a+((k / 4:Nat):Int)) (b:=b+((k % 4:Nat):Int)) (v:=v) hk2 (by have:=hsh.len;omega)
    refine⟨_,_,?_,some (.int k),some v,iY kvs (KZ (gp a b k)) v,rfl,jj hk2,Gr.F1 lt (hg.trans g2),?_⟩
    rotate_left
    ·rw[fQ]
     exact hsh.put hv
    show _=Rs.nx _ (s2.set s0.length (.eQ (iY kvs (ky (a+((k / 4:Nat):Int)) (b+((k % 4:Nat):Int))) v)))
    have YK:=f4 k s2
    have YL:=m4 k s2
    generalize ((k / 4:Nat):Int)=x at YK pd ⊢
    generalize ((k % 4:Nat):Int)=y at YL pd ⊢
    have zo:cH [.ref s.length,.tup [.int a,.int b],.int dp] (s++[.lst [.int n]])= .ok v s2:=e2
    unfold d_
    simp[es,zo,N_ hv,mW,tI,RH,RI,YK,YL,pd])
 refine⟨a,b,kvs,s0.length,s1,m_ (n:=6) (g:=gB) ?_,hk,hs,by simpa [b9] using hsh,hg,s0,e0⟩
 have c12:cg 12:=rQ (by decide) (by decide)
 unfold gB
 simp[e0,oK,c12,e1]
theorem bP{i:Nat}{gb:GS}{w:Wv}{r:List Wv}{ρ ρ':bH}{st st':Hs}(h:gb (ρ.set i (some w)) st= .nx ρ' st'):cZ i gb (w::r) ρ st=cZ i gb r ρ' st':=by
 rw[cZ,h]
theorem lq{i:Nat}{gb:GS}{w v:Wv}{r:List Wv}{ρ:bH}{st st':Hs}(h:gb (ρ.set i (some w)) st= .rt v st'):cZ i gb (w::r) ρ st= .rt v st':=by
 rw[cZ,h]
def lx(n q u v:Int):Int:=n+(1 - q) * (v - u)
theorem B7{l p h t:List Int}{k:Int}{x q u v:Int}(hx:L2.lM (l.map Wv.int) k=some (.int x))(hq:L2.lM (p.map Wv.int) k=some (.int q))(hu:L2.lM (h.map Wv.int) (k.fmod 2)=some (.int u))(hv:L2.lM (t.map Wv.int) (k.fmod 2)=some (.int v))(q01:w8 q){acc:List Wv}(ha:acc.length<=10){st:Hs}{o:Option Wv} :
  dQ ([some (tI l),some (tI p),some (tI h),some (tI t),some (.ref st.length),o].set 5 (some (.int k))) (st++[.lst acc])= .nx [some (tI l),some (tI p),some (tI h),some (tI t),some (.ref st.length),some (.int k)] (st++[.lst (acc++[.int (lx x q u v)])]):=by
 have x1:∀s:Hs,aS (tI l) (.int k) s= .ok (.int x) s:=λs=>j_ hx
 have x2:∀s:Hs,aS (tI p) (.int k) s= .ok (.int q) s:=λs=>j_ hq
 have x3:∀s:Hs,aS (tI h) (.int (k.fmod 2)) s= .ok (.int u) s:=λs=>j_ hu
 have x4:∀s:Hs,aS (tI t) (.int (k.fmod 2)) s= .ok (.int v) s:=λs=>j_ hv
 have m1:∀s:Hs,cG (.int (1 - q)) (.int (v - u)) s= .ok (.int ((1 - q) * (v - u))) s:=λs=>N4 (.inl (by rcases q01 with rfl | rfl<;>decide))
 have ap:=uO (st:=st) (acc:=acc) (v:=.int (x+(1 - q) * (v - u))) (by unfold lim;omega)
 unfold dQ lx
 simp[Ap (mt:=oZ) kX,x1,x2,x3,x4,m1,jL,ap]
def w4:List Int->List Int->Int->Int->Int->Int->List Int
 | x::l,q::p,a,b,c,d=>lx x q a c::w4 l p b a d c
 | _,_,_,_,_,_=>[]
theorem led{l p:List Int}{a b c d:Int}(h:u7 l p\/tD l p)(st:Hs):∃st',Gr st st'/\ft [tI l,tI p,tI [a,b],tI [c,d]] st= .ok (tI (w4 l p a b c d)) st':=by
 rcases h with ⟨x,y,q,r,rfl,rfl,h1,h2⟩ | ⟨x,y,z,w,q,r,s,t,rfl,rfl,h1,h2,h3,h4⟩
 ·refine⟨st++[.lst ([lx x q a c,lx y r b d].map Wv.int)],Gr.push,?_⟩
  have ln:jY [tI [x,y]] (st++[.lst []])= .ok (.int 2) (st++[.lst []]):=rfl
  have GF:bO 0 2=[.int 0,.int 1]:=rfl
  have loop:cZ 5 dQ [.int 0,.int 1] [some (tI [x,y]),some (tI [q,r]),some (tI [a,b]),some (tI [c,d]),some (.ref st.length),none] (st++[.lst []])= .nx [some (tI [x,y]),some (tI [q,r]),some (tI [a,b]),some (tI [c,d]),some (.ref st.length),some (.int 1)] (st++[.lst ([lx x q a c,lx y r b d].map Wv.int)]):=by
   rw[bP (B7 (l:=[x,y]) (p:=[q,r]) (h:=[a,b]) (t:=[c,d]) (k:=0) rfl rfl rfl rfl h1 (by simp)),bP (B7 (l:=[x,y]) (p:=[q,r]) (h:=[a,b]) (t:=[c,d]) (k:=1) rfl rfl rfl rfl h2 (by simp))]
   rfl
  have c2:cg 2:=rQ (by decide) (by decide)
  unfold ft bY jv
  have tc:gY [.ref st.length] (st++[.lst ([lx x q a c,lx y r b d].map Wv.int)])= .ok (tI (w4 [x,y] [q,r] a b c d)) (st++[.lst ([lx x q a c,lx y r b d].map Wv.int)]):=yx dY
  simp only[aL,mC] at loop tc
  simp[ln,c2,GF,loop,tc]
 ·refine⟨st++[.lst ([lx x q a c,lx y r b d,lx z s a c,lx w t b d].map Wv.int)],Gr.push,?_⟩
  have ln:jY [tI [x,y,z,w]] (st++[.lst []])= .ok (.int 4) (st++[.lst []]):=rfl
  have O4:bO 0 4=[.int 0,.int 1,.int 2,.int 3]:=rfl
  have loop:cZ 5 dQ [.int 0,.int 1,.int 2,.int 3] [some (tI [x,y,z,w]),some (tI [q,r,s,t]),some (tI [a,b]),some (tI [c,d]),some (.ref st.length),none] (st++[.lst []])= .nx [some (tI [x,y,z,w]),some (tI [q,r,s,t]),some (tI [a,b]),some (tI [c,d]),some (.ref st.length),some (.int 3)] (st++[.lst ([lx x q a c,lx y r b d,lx z s a c,lx w t b d].map Wv.int)]):=by
   rw[bP (B7 (l:=[x,y,z,w]) (p:=[q,r,s,t]) (h:=[a,b]) (t:=[c,d]) (k:=0) rfl rfl rfl rfl h1 (by simp)),bP (B7 (l:=[x,y,z,w]) (p:=[q,r,s,t]) (h:=[a,b]) (t:=[c,d]) (k:=1) rfl rfl rfl rfl h2 (by simp)),
    bP (B7 (l:=[x,y,z,w]) (p:=[q,r,s,t]) (h:=[a,b]) (t:=[c,d]) (k:=2) rfl rfl rfl rfl h3 (by simp)),bP (B7 (l:=[x,y,z,w]) (p:=[q,r,s,t]) (h:=[a,b]) (t:=[c,d]) (k:=3) rfl rfl rfl rfl h4 (by simp))]
   rfl
  have c4:cg 4:=rQ (by decide) (by decide)
  unfold ft bY jv
  have tc:gY [.ref st.length] (st++[.lst ([lx x q a c,lx y r b d,lx z s a c,lx w t b d].map Wv.int)])= .ok (tI (w4 [x,y,z,w] [q,r,s,t] a b c d)) (st++[.lst ([lx x q a c,lx y r b d,lx z s a c,lx w t b d].map Wv.int)]):=yx dY
  simp only[aL,mC] at loop tc
  simp[ln,c4,O4,loop,tc]
theorem N'{l p:List Int}{a b c d:Int}(h:u7 l p\/tD l p):u7 (w4 l p a b c d) p\/tD (w4 l p a b c d) p:=by
 rcases h with ⟨x,y,q,r,rfl,rfl,h⟩ | ⟨x,y,z,w,q,r,s,t,rfl,rfl,h⟩
 ·exact .inl ⟨_,_,q,r,rfl,rfl,h⟩
 ·exact .inr ⟨_,_,_,_,q,r,s,t,rfl,rfl,h⟩
theorem B8{l:List Int}{k x m:Int}(hx:L2.lM (l.map Wv.int) k=some (.int x))(hm:L2.lM ([98,25].map Wv.int) (k.fmod 2)=some (.int m)){o:Option Wv}(st:Hs) :
  ∃st',Gr st st'/\bL ([some (tI l),o,none].set 1 (some (.int k))) st=if 0<=x/\x<=m then .nx [some (tI l),some (.int k),none] st' else .rt (.bl false) st':=by
 have x1:aS (tI l) (.int k) st= .ok (.int x) st:=j_ hx
 have x2:aS (.ref st.length) (.int (k.fmod 2)) (st++[.lst [.int 98,.int 25]])= .ok (.int m) (st++[.lst [.int 98,.int 25]]):=BS kX hm
 unfold bL
 by_cases c1:0<=x
 ·by_cases c2:x<=m
  ·exact⟨_,Gr.push,by simp[x1,x2,c1,c2,jL];rfl⟩
  ·exact⟨_,Gr.push,by simp[x1,x2,c1,c2,jL];rfl⟩
 ·exact⟨st,Gr.refl,by simp[x1,c1]⟩
theorem F'{l p:List Int}(h:u7 l p\/tD l p)(st:Hs):∃st',Gr st st'/\bR [tI l] st= .ok (.bl (decide (Fits l))) st':=by
 rcases h with ⟨x,y,q,r,rfl,rfl,_⟩ | ⟨x,y,z,w,q,r,s,t,rfl,rfl,_⟩
 ·have ln:∀s:Hs,jY [tI [x,y]] s= .ok (.int 2) s:=λ_=>rfl
  have GF:bO 0 2=[.int 0,.int 1]:=rfl
  have c2:cg 2:=rQ (by decide) (by decide)
  obtain⟨s1,k1,e1⟩:=B8 (l:=[x,y]) (k:=0) (x:=x) (m:=98) rfl rfl (o:=none) st
  obtain⟨s2,k2,e2⟩:=B8 (l:=[x,y]) (k:=1) (x:=y) (m:=25) rfl rfl (o:=some (.int 0)) s1
  by_cases a1:0<=x/\x<=98
  ·rw[if_pos a1] at e1
   by_cases a2:0<=y/\y<=25
   ·rw[if_pos a2] at e2
    have f:decide (Fits [x,y])=true:=decide_eq_true (show cX x y from⟨a1.1,a1.2,a2.1,a2.2⟩)
    have loop:cZ 1 bL [.int 0,.int 1] [some (tI [x,y]),none,none] st= .nx [some (tI [x,y]),some (.int 1),none] s2:=by rw[bP e1,bP e2];rfl
    refine⟨s2,k1.trans k2,?_⟩
    unfold bR bY c9
    simp[ln,c2,GF,loop,f]
   ·rw[if_neg a2] at e2
    have f:decide (Fits [x,y])=false:=decide_eq_false λ(z:cX x y)=>a2 ⟨z.2.2.1,z.2.2.2⟩
    have loop:cZ 1 bL [.int 0,.int 1] [some (tI [x,y]),none,none] st= .rt (.bl false) s2:=by rw[bP e1,lq e2]
    refine⟨s2,k1.trans k2,?_⟩
    unfold bR bY c9
    simp[ln,c2,GF,loop,f]
  ·rw[if_neg a1] at e1
   have f:decide (Fits [x,y])=false:=decide_eq_false λ(z:cX x y)=>a1 ⟨z.1,z.2.1⟩
   have loop:cZ 1 bL [.int 0,.int 1] [some (tI [x,y]),none,none] st= .rt (.bl false) s1:=by rw[lq e1]
   refine⟨s1,k1,?_⟩
   unfold bR bY c9
   simp[ln,c2,GF,loop,f]
 ·have ln:∀s:Hs,jY [tI [x,y,z,w]] s= .ok (.int 4) s:=λ_=>rfl
  have O4:bO 0 4=[.int 0,.int 1,.int 2,.int 3]:=rfl
  have c4:cg 4:=rQ (by decide) (by decide)
  obtain⟨s1,k1,e1⟩:=B8 (l:=[x,y,z,w]) (k:=0) (x:=x) (m:=98) rfl rfl (o:=none) st
  obtain⟨s2,k2,e2⟩:=B8 (l:=[x,y,z,w]) (k:=1) (x:=y) (m:=25) rfl rfl (o:=some (.int 0)) s1
  obtain⟨s3,k3,e3⟩:=B8 (l:=[x,y,z,w]) (k:=2) (x:=z) (m:=98) rfl rfl (o:=some (.int 1)) s2
  obtain⟨s4,k4,e4⟩:=B8 (l:=[x,y,z,w]) (k:=3) (x:=w) (m:=25) rfl rfl (o:=some (.int 2)) s3
  have fin:∀s':Hs,cZ 1 bL [.int 0,.int 1,.int 2,.int 3] [some (tI [x,y,z,w]),none,none] st= .rt (.bl false) s'->¬Fits [x,y,z,w]->bR [tI [x,y,z,w]] st= .ok (.bl (decide (Fits [x,y,z,w]))) s':=λs' loop f=>by
   rw[decide_eq_false f]
   unfold bR bY c9
   simp[ln,c4,O4,loop]
  by_cases a1:0<=x/\x<=98
  ·rw[if_pos a1] at e1
   by_cases a2:0<=y/\y<=25
   ·rw[if_pos a2] at e2
    by_cases a3:0<=z/\z<=98
    ·rw[if_pos a3] at e3
     by_cases a4:0<=w/\w<=25
     ·rw[if_pos a4] at e4
      have loop:cZ 1 bL [.int 0,.int 1,.int 2,.int 3] [some (tI [x,y,z,w]),none,none] st= .nx [some (tI [x,y,z,w]),some (.int 3),none] s4:=by rw[bP e1,bP e2,bP e3,bP e4];rfl
      refine⟨s4,((k1.trans k2).trans k3).trans k4,?_⟩
      obtain⟨i0,i1,i2,i3⟩:=VR (a:=.int x) (b:=.int y) (c:=.int z) (d:=.int w) (st:=s4)
      have m1:cG (.int (z - x+1)) (.int (w - y+1)) s4= .ok (.int ((z - x+1) * (w - y+1))) s4:=N4 (.inl ⟨by omega,by omega⟩)
      have VU:aS (tI [x,y,z,w]) (.int 0) s4= .ok (.int x) s4:=i0
      have VV:aS (tI [x,y,z,w]) (.int 1) s4= .ok (.int y) s4:=i1
      have VW:aS (tI [x,y,z,w]) (.int 2) s4= .ok (.int z) s4:=i2
      have VX:aS (tI [x,y,z,w]) (.int 3) s4= .ok (.int w) s4:=i3
      unfold bR bY c9
      by_cases b1:x<=z
      ·by_cases b2:y<=w
       ·have f:decide (Fits [x,y,z,w])=decide ((z - x+1) * (w - y+1)<=300):=by
         congr 1
         apply propext
         exact⟨λ(q:dS x y z w)=>q.2.2.2.2.2.2,λq=>(show dS x y z w from⟨a1.1,b1,a3.2,a2.1,b2,a4.2,q⟩)⟩
        simp[ln,c4,O4,loop,VU,VV,VW,VX,b1,b2,m1,f]
       ·have f:decide (Fits [x,y,z,w])=false:=decide_eq_false λ(q:dS x y z w)=>b2 q.2.2.2.2.1
        simp[ln,c4,O4,loop,VU,VV,VW,VX,b1,b2,f]
      ·have f:decide (Fits [x,y,z,w])=false:=decide_eq_false λ(q:dS x y z w)=>b1 q.2.1
       simp[ln,c4,O4,loop,VU,VV,VW,VX,b1,f]
     ·rw[if_neg a4] at e4
      exact⟨s4,((k1.trans k2).trans k3).trans k4,fin s4 (by rw[bP e1,bP e2,bP e3,lq e4]) λ(q:dS x y z w)=>a4 ⟨qo q.2.2.2.1 q.2.2.2.2.1,q.2.2.2.2.2.1⟩⟩
    ·rw[if_neg a3] at e3
     exact⟨s3,(k1.trans k2).trans k3,fin s3 (by rw[bP e1,bP e2,lq e3]) λ(q:dS x y z w)=>a3 ⟨qo q.1 q.2.1,q.2.2.1⟩⟩
   ·rw[if_neg a2] at e2
    exact⟨s2,k1.trans k2,fin s2 (by rw[bP e1,lq e2]) λ(q:dS x y z w)=>a2 ⟨q.2.2.2.1,qo q.2.2.2.2.1 q.2.2.2.2.2.1⟩⟩
  ·rw[if_neg a1] at e1
   exact⟨s1,k1,fin s1 (by rw[lq e1]) λ(q:dS x y z w)=>a1 ⟨q.1,qo q.2.1 q.2.2.1⟩⟩
def LW:List S:=["num","text","lost"]
def RW:List S:=["at","sum","count","least","greatest","find"]
def Cp(n:Nat)(a b c d:Int)(f f':Fm):Prop:=∀st:Hs,∃st',Gr st st'/\aC n [f.w,tI [a,b],tI [c,d]] st= .ok f'.w st'
theorem K2{n:Nat}{a b c d:Int}{gt ge:GE->GE}{ks:List (Fm×Fm)}(h:∀q∈ks,Cp n a b c d q.1 q.2)(hl:ks.length<=3)(st:Hs){ct:GT}{ce:GE}(ht:∀ρ s,ct ρ s= .ok true s)(he:ce=au 3 (aC n) (aa (af 0) (aa (af 1) (aa (af 2) aj)))){ρ:bH}(h1:ρ[1]? =some (some (tI [a,b])))(h2:ρ[2]? =some (some (tI [c,d]))) :
  ∃st',Gr st st'/\st'[st.length]? =some (.lst (ks.map λq=>q.2.w))/\dU [("here",1),("there",2)] ct ce ρ (none,ks.map λq=>q.1.w) st= .ok (.ref st.length) st':=by
 subst he
 have ec:eT [("here",1),("there",2)] ρ=[some (tI [a,b]),some (tI [c,d])]:=by
  unfold eT
  simp[h1,h2]
 obtain⟨st',g1,g2,e⟩:=oA (ι:=Unit) (ck:=jd (none,ks.map λq=>q.1.w)) (gt:=λ_ v=>ct (some v::[some (tI [a,b]),some (tI [c,d])])) (ge:=λ_ v=>au 3 (aC n) (aa (af 0) (aa (af 1) (aa (af 2) aj))) (some v::[some (tI [a,b]),some (tI [c,d])])) (rr:=st.length) (λq:Fm×Fm=>q.1.w) (λq=>q.2.w) (λ_=>trivial) (λ_ _ _=>ht _ _) ks
  (λq hq s=>by
   obtain⟨s',k,e⟩:=h q hq s
   refine⟨s',k,λ_=>?_⟩
   simp[e]) [] (st++[.lst []]) dY (by simp[lim];omega)
 refine⟨st',g2 st (aq _) Gr.push,by simpa using g1,?_⟩
 unfold dU
 rw[ec]
 have:=e ()
 simp only[this]
section
variable {n:Nat} {a b c d:Int}
theorem Tz{x:S}{st:Hs}:rO (.str x) (.tup [.str "num",.str "text",.str "lost"]) st= .ok (.bl (decide (x∈LW))) st:=N3 (ys:=LW)
theorem inR{x:S}{st:Hs}:rO (.str x) (.tup [.str "at",.str "sum",.str "count",.str "least",.str "greatest",.str "find"]) st= .ok (.bl (decide (x∈RW))) st:=N3 (ys:=RW)
theorem VY{x0 x1 x2 x3 x4 x5:Wv}{st:Hs}:rP [x0,x1,x2,x3,x4,x5] st= .ok (.tup [x0,x1,x2,x3,x4,x5]) st:=qU (by simp[lim])
theorem cpL{x:S}{ws:List Wv}(hx:x∈LW)(st:Hs):aC (n+1) [.tup (.str x::ws),tI [a,b],tI [c,d]] st= .ok (.tup (.str x::ws)) st:=by
 rw[cO]
 unfold bY cu
 simp[yw,Tz,hx]
theorem VZ{x:S}{ks:List (Fm×Fm)}(hx:x∉LW)(hr:x∉RW)(h:∀q∈ks,Cp n a b c d q.1 q.2)(hl:ks.length<=3)(hs:∀st,vV (.tup (.str x::ks.map λq=>q.1.w)) (some 1) none st= .ok (.tup (ks.map λq=>q.1.w)) st)(st:Hs) :
  ∃st',Gr st st'/\aC (n+1) [.tup (.str x::ks.map λq=>q.1.w),tI [a,b],tI [c,d]] st= .ok (.tup (.str x::ks.map λq=>q.2.w)) st':=by
 obtain⟨s1,k1,l1,e1⟩:=K2 (gt:=id) (ge:=id) h hl st (ct:=h_ (aC n)) (ce:=ic (aC n)) (λ_ _=>rfl) rfl (ρ:=[some (.tup (.str x::ks.map λq=>q.1.w)),some (tI [a,b]),some (tI [c,d]),some (.str x),none,none]) rfl rfl
 have c1:=cat (x:=.str x) (xs:=[]) (ys:=ks.map λq=>q.2.w) (st:=s1) (by simp;omega)
 refine⟨s1,k1,?_⟩
 rw[cO]
 unfold bY cu
 simp[yw,Tz,inR,VY,hx,hr,hs,e1,yx l1,c1]
theorem YM{x:S}{ks:List (Fm×Fm)}{l p:List Int}(hx:x∉LW)(hr:x∈RW)(hsh:u7 l p\/tD l p)(h:∀q∈ks,Cp n a b c d q.1 q.2)(hl:ks.length<=3)
  (i2:∀st,aS (.tup (.str x::((ks.map λq=>q.1.w)++[tI l,tI p]))) (.int (-2)) st= .ok (tI l) st)(i1:∀st,aS (.tup (.str x::((ks.map λq=>q.1.w)++[tI l,tI p]))) (.int (-1)) st= .ok (tI p) st)
  (hs:∀st,vV (.tup (.str x::((ks.map λq=>q.1.w)++[tI l,tI p]))) (some 1) (some (-2)) st= .ok (.tup (ks.map λq=>q.1.w)) st)(st:Hs) :
  ∃st',Gr st st'/\aC (n+1) [.tup (.str x::((ks.map λq=>q.1.w)++[tI l,tI p])),tI [a,b],tI [c,d]] st= .ok (B4 x (ks.map λq=>q.2.w) p (nr (w4 l p a b c d))) st':=by
 obtain⟨s1,k1,e1⟩:=led (a:=a) (b:=b) (c:=c) (d:=d) hsh st
 obtain⟨s2,k2,e2⟩:=F' (N' (a:=a) (b:=b) (c:=c) (d:=d) hsh) s1
 generalize w4 l p a b c d=l' at e1 e2
 generalize hf:(.tup (.str x::((ks.map λq=>q.1.w)++[tI l,tI p])):Wv)=fw at i2 i1 hs
 have i0:∀st,aS fw (.int 0) st= .ok (.str x) st:=λst=>by rw[<-hf];exact yw
 by_cases cf:Fits l'
 ·rw[decide_eq_true cf] at e2
  obtain⟨s3,k3,l3,e3⟩:=K2 (gt:=id) (ge:=id) h hl s2 (ct:=ie (aC n)) (ce:=ig (aC n)) (λ_ _=>rfl) rfl (ρ:=[some fw,some (tI [a,b]),some (tI [c,d]),some (.str x),some (tI l'),none]) rfl rfl
  have c1:=cat (x:=.str x) (xs:=[]) (ys:=ks.map λq=>q.2.w) (st:=s3) (by simp;omega)
  have c2:=cat (x:=.str x) (xs:=ks.map λq=>q.2.w) (ys:=[tI l',tI p]) (st:=s3) (by simp;omega)
  refine⟨s3,(k1.trans k2).trans k3,?_⟩
  have fo:nr l'=some l':=by unfold nr;rw[if_pos cf]
  rw[fo,cO]
  unfold bY cu
  simp[i0,Tz,inR,VY,hx,hr,i1,i2,e1,e2,hs,e3,yx l3,c1,c2,B4]
 ·rw[decide_eq_false cf] at e2
  refine⟨s2,k1.trans k2,?_⟩
  have fo:nr l'=none:=by unfold nr;rw[if_neg cf]
  rw[fo,cO]
  unfold bY cu
  simp[i0,Tz,inR,VY,hx,hr,i1,i2,e1,e2,B4]
def g3(a b c d:Int):S->List Int->List Int->Option (List Int):=λ_ l p=>nr (w4 l p a b c d)
theorem Ga{x:S}(h:x∈W1):x∉LW/\x∉RW:=by
 have:∀x∈W1,x∉LW/\x∉RW:=by decide+kernel
 exact this x h
theorem Gb{x:S}(h:x∈W2):x∉LW/\x∉RW:=by
 have:∀x∈W2,x∉LW/\x∉RW:=by decide+kernel
 exact this x h
theorem RV{x:S}(h:x∈AW):x∉LW/\x∈RW:=by
 have:∀x∈AW,x∉LW/\x∈RW:=by decide+kernel
 exact this x h
theorem dm:∀(f:Fm)(n:Nat),f.sh->f.dp<=n->Cp n a b c d f (f.fP (g3 a b c d))
 | f,0,_,hd=>by cases f<;>simp[Fm.dp] at hd
 | .lit x ws,n+1,h,_=>λst=>by
  have hx:x∈LW:=by rcases h with ⟨rfl,_⟩ | ⟨rfl,_⟩ | ⟨rfl,_⟩<;>decide+kernel
  exact⟨st,Gr.refl,cpL hx st⟩
 | .pt x l p,n+1,h,_=>λst=>by
  have hx:x∉LW/\x∈RW:=by
   rcases h with ⟨rfl,_⟩ | ⟨hx,_⟩
   ·decide+kernel
   ·exact RV hx
  have hs:u7 l p\/tD l p:=h.imp (λz=>z.2) λz=>z.2
  obtain⟨s1,g1,e1⟩:=YM (n:=n) (a:=a) (b:=b) (c:=c) (d:=d) (x:=x) (ks:=[]) (l:=l) (p:=p) hx.1 hx.2 hs (λ_ z=>by cases z) (bq _) (λ_=>j_ rfl) (λ_=>j_ rfl) (λ_=>u9 (by show ¬dv 3 (some 1) (some (-2));decide+kernel) rfl) st
  refine⟨s1,g1,?_⟩
  show aC (n+1) [.tup (.str x::[tI l,tI p]),tI [a,b],tI [c,d]] st=_
  refine e1.trans ?_
  simp only[Fm.fP,g3]
  cases nr (w4 l p a b c d)<;>rfl
 | .fd f l p,n+1,h,hd=>λst=>by
  have ih:=dm f n h.1 (by simp[Fm.dp] at hd;omega)
  obtain⟨s1,g1,e1⟩:=YM (n:=n) (a:=a) (b:=b) (c:=c) (d:=d) (x:="find") (ks:=[(f,f.fP (g3 a b c d))]) (l:=l) (p:=p) (by decide+kernel) (by decide+kernel) (.inr h.2) (λq z=>by rw[List.mem_singleton.mp z];exact ih) (by simp) (λ_=>j_ rfl) (λ_=>j_ rfl) (λ_=>u9 (by show ¬dv 4 (some 1) (some (-2));decide+kernel) rfl) st
  refine⟨s1,g1,?_⟩
  show aC (n+1) [.tup (.str "find"::[f.w,tI l,tI p]),tI [a,b],tI [c,d]] st=_
  refine e1.trans ?_
  simp only[Fm.fP,g3]
  cases nr (w4 l p a b c d)<;>rfl
 | .o1 x f,n+1,h,hd=>λst=>by
  have i1:=dm f n h.2 (by simp[Fm.dp] at hd;omega)
  exact VZ (ks:=[(f,f.fP (g3 a b c d))]) (Ga h.1).1 (Ga h.1).2 (λq z=>by rw[List.mem_singleton.mp z];exact i1) (by simp) (λ_=>u9 (by show ¬dv 2 (some 1) none;decide+kernel) rfl) st
 | .o2 x f g,n+1,h,hd=>λst=>by
  have i1:=dm f n h.2.1 (by simp[Fm.dp] at hd;omega)
  have i2:=dm g n h.2.2 (by simp[Fm.dp] at hd;omega)
  exact VZ (ks:=[(f,f.fP (g3 a b c d)),(g,g.fP (g3 a b c d))]) (Gb h.1).1 (Gb h.1).2 (List.forall_mem_cons.mpr ⟨i1,List.forall_mem_cons.mpr ⟨i2,λ_ z=>by cases z⟩⟩) (by simp) (λ_=>u9 (by show ¬dv 3 (some 1) none;decide+kernel) rfl) st
 | .o3 f g k,n+1,h,hd=>λst=>by
  have i1:=dm f n h.1 (by simp[Fm.dp] at hd;omega)
  have i2:=dm g n h.2.1 (by simp[Fm.dp] at hd;omega)
  have i3:=dm k n h.2.2 (by simp[Fm.dp] at hd;omega)
  exact VZ (x:="if") (ks:=[(f,f.fP (g3 a b c d)),(g,g.fP (g3 a b c d)),(k,k.fP (g3 a b c d))]) (by decide+kernel) (by decide+kernel) (List.forall_mem_cons.mpr ⟨i1,List.forall_mem_cons.mpr ⟨i2,List.forall_mem_cons.mpr ⟨i3,λ_ z=>by cases z⟩⟩⟩) (by simp) (λ_=>u9 (by show ¬dv 4 (some 1) none;decide+kernel) rfl) st
end
theorem tJ{n q u v:Int}(h:w8 q):nx (nx n q (-u)) q v=lx n q u v:=by
 rcases h with rfl | rfl
 ·simp[nx,lx];omega
 ·simp[nx,lx]
theorem AE{l p:List Int}{a b c d:Int}(h:u7 l p\/tD l p):stp (stp l p (-a) (-b)) p c d=w4 l p a b c d:=by
 rcases h with ⟨x,y,q,r,rfl,rfl,h1,h2⟩ | ⟨x,y,z,w,q,r,s,t,rfl,rfl,h1,h2,h3,h4⟩
 ·simp[stp,w4,tJ h1,tJ h2]
 ·simp[stp,w4,tJ h1,tJ h2,tJ h3,tJ h4]
theorem two_one{a b c d:Int}:∀f:Fm,f.sh->(f.fP (g1 a b)).fP (g2 c d)=f.fP (g3 a b c d)
 | .lit _ _,_=>rfl
 | .pt x l p,h=>by
  have hs:u7 l p\/tD l p:=h.imp (λz=>z.2) λz=>z.2
  simp only[Fm.fP,g1,g2,g3,AE hs]
 | .fd f l p,h=>by
  have hs:u7 l p\/tD l p:=.inr h.2
  simp only[Fm.fP,g1,g2,g3,AE hs]
  rw[two_one f h.1]
 | .o1 x f,h=>by simp only[Fm.fP,two_one f h.2]
 | .o2 x f g,h=>by simp only[Fm.fP,two_one f h.2.1,two_one g h.2.2]
 | .o3 f g k,h=>by simp only[Fm.fP,two_one f h.1,two_one g h.2.1,two_one k h.2.2]
theorem ir(a b c d:Int):∀f:Fm,f.sh->(f.fP (g3 a b c d)).sh
 | .lit _ _,h=>h
 | .pt x l p,h=>by
  have hs:u7 l p\/tD l p:=h.imp (λz=>z.2) λz=>z.2
  simp only[Fm.fP,g3,nr]
  by_cases cf:Fits (w4 l p a b c d)
  ·rw[if_pos cf]
   rcases h with ⟨hx,x1,y1,q,r,rfl,rfl,h1⟩ | ⟨hx,x1,y1,z1,w1,q,r,s,t,rfl,rfl,h1⟩
   ·exact .inl ⟨hx,_,_,q,r,rfl,rfl,h1⟩
   ·exact .inr ⟨hx,_,_,_,_,q,r,s,t,rfl,rfl,h1⟩
  ·rw[if_neg cf];exact .inr (.inr ⟨rfl,rfl⟩)
 | .fd f l p,h=>by
  have ih:=ir a b c d f h.1
  simp only[Fm.fP]
  have e:g3 a b c d "find" l p=nr (w4 l p a b c d):=rfl
  rw[e]
  unfold nr
  by_cases cf:Fits (w4 l p a b c d)
  ·rw[if_pos cf]
   obtain⟨_,x1,y1,z1,w1,q,r,s,t,rfl,rfl,h1⟩:=h
   exact⟨ih,_,_,_,_,q,r,s,t,rfl,rfl,h1⟩
  ·rw[if_neg cf];exact .inr (.inr ⟨rfl,rfl⟩)
 | .o1 x f,h=>⟨h.1,ir a b c d f h.2⟩
 | .o2 x f g,h=>⟨h.1,ir a b c d f h.2.1,ir a b c d g h.2.2⟩
 | .o3 f g k,h=>⟨ir a b c d f h.1,ir a b c d g h.2.1,ir a b c d k h.2.2⟩
theorem Oa{f:Fm}{a b c d:Int}(h:f.sh)(hd:f.dp<=8)(st:Hs):∃st',Gr st st'/\gR [f.w,tI [a,b],tI [c,d]] st= .ok (f.fP (g3 a b c d)).w st':=by
 obtain⟨s1,k1,e1⟩:=N5 (a:=a) (b:=b) (c:=c) (d:=d) h hd st
 rw[two_one f h] at e1
 exact⟨s1,k1,e1⟩
theorem JD{f:Fm}{a b c d:Int}(h:f.sh)(hd:f.dp<=8)(st:Hs):∃st',Gr st st'/\az [f.w,tI [a,b],tI [c,d]] st= .ok (f.fP (g3 a b c d)).w st':=dm f 8 h hd st
theorem kG{a b:Int}{n:Nat}(hn:0 < n):∀m:Nat,bT a b m n=(f9 (m * n)).map λk=>tI [a+((k / n:Nat):Int),b+((k % n:Nat):Int)]
 | 0=>by simp[bT]
 | m+1=>by
  rw[rA,kG hn m,pA,List.range_add,nu,hG]
  congr 1
  unfold oC
  refine List.map_congr_left λj hj=>?_
  have hj:=List.mem_range.mp hj
  have e1:(m * n+j) / n=m:=by rw[pB,Nat.mul_add_div hn,zQ hj,Nat.add_zero]
  have e2:(m * n+j) % n=j:=by rw[pB,Nat.mul_add_mod,Nat.mod_eq_of_lt hj]
  show Wv.tup [.int (a+(m:Nat)),.int (b+(j:Nat))]=tI [a+(((m * n+j) / n:Nat):Int),b+(((m * n+j) % n:Nat):Int)]
  rw[e1,e2]
  rfl
theorem zip_map{α:Type}{f g:α->Wv}:∀l:List α,oO (l.map f) (l.map g)=l.map λx=> .tup [f x,g x]
 | []=>rfl
 | x::r=>by
  have:=zip_map (f:=f) (g:=g) r
  unfold oO at this ⊢
  rw[aL,aL,List.zipWith_cons_cons,this]
  rfl
theorem AG{is:List Nat}{gb:GS}{ck:Hs->Prop}(P:Nat->bH->Hs->Prop):∀(ws:List Wv)(k:Nat)(ρ:bH)(st:Hs),P k ρ st->
  (∀(j:Nat)(w:Wv),ws[j]? =some w->∀ρ st,P (k+j) ρ st->∃ρ1 ρ' st',MO is w ρ=some ρ1/\gb ρ1 st= .nx ρ' st'/\ck st'/\P (k+j+1) ρ' st')->∃ρ' st',xY is gb ck ws ρ st= .nx ρ' st'/\P (k+ws.length) ρ' st'
 | [],k,ρ,st,h,_=>⟨ρ,st,rfl,h⟩
 | w::r,k,ρ,st,h,step=>by
  obtain⟨ρ0,ρ1,st1,e0,e1,c1,p1⟩:=step 0 w rfl ρ st h
  obtain⟨ρ2,st2,e2,p2⟩:=AG P r (k+1) ρ1 st1 p1 λj w hw ρ st hp=>by
   have e:k+(j+1)=k+1+j:=by omega
   have q:=step (j+1) w hw ρ st (by rw[e];exact hp)
   rw[e] at q
   exact q
  refine⟨ρ2,st2,?_,?_⟩
  ·unfold xY
   rw[e0]
   dsimp only
   rw[e1]
   dsimp only
   rw[if_pos c1]
   exact e2
  ·have e:k+(w::r).length=k+1+r.length:=by simp;omega
   rw[e]
   exact p2
open Classical in
def Gd(v:Wv)(a b p q:Int):Wv:=if h:∃f:Fm,v=f.w/\f.sh/\f.fit/\f.dp<=3 then(h.choose.fP (g3 a b p q)).w else v
def rC(kvs:Ks)(a b p q:Int):Wv:=match cD kvs (ky a b) with
 | some v=>Gd v a b p q
 | none=> .bz
theorem RX{l:Nat}{kvs:Ks}{a b:Int}{v:Wv}{st:Hs}(h:eX st[l]? =some kvs)(e:cD kvs (ky a b)=some v):SU (.ref l) (tI [a,b]) st= .ok v st:=by
 have hk:nT (tI [a,b])=some (ky a b):=rfl
 unfold SU getD
 unfold eX at h
 split at h
 ·rename_i k' q
  cases h
  dsimp only
  rw[q,hk]
  dsimp only
  rw[e]
 ·rename_i k' q
  cases h
  dsimp only
  rw[q,hk]
  dsimp only
  rw[e]
 ·cases h
theorem Ge{l:Nat}{kvs:Ks}{a b p q:Int}{o1 o2 o3 o4:Option Wv}{st:Hs}(h:eX st[l]? =some kvs)(hC:∀v,cD kvs (ky a b)=some v->Cn v) :
  ∃st',vH (jO (au 2 bG (aa (af 0) (aa (af 5) aj)))) (au 3 gR (aa (we (af 0) (af 5)) (aa (af 5) (aa (af 6) aj)))) (iD (af 0) (af 5)) [some (.ref l),o1,o2,o3,o4,some (tI [a,b]),some (tI [p,q])] st= .ok (rC kvs a b p q) st'/\Gr st st':=by
 have hf:=wX (p:=a) (q:=b) h hC
 have dg:=N6 (i:=0) (j:=5) (p:=a) (q:=b) (ρ:=[some (.ref l),o1,o2,o3,o4,some (tI [a,b]),some (tI [p,q])]) rfl rfl h
 unfold rC
 cases e:cD kvs (ky a b) with
 | none=>
  rw[e] at hf dg
  refine⟨st,?_,Gr.refl⟩
  have hf':bG [.ref l,tI [a,b]] st= .ok (.bl false) st:=hf
  simp[hf',dg]
 | some v=>
  rw[e] at hf dg
  have cv:=hC v e
  dsimp only
  by_cases c:∃f:Fm,v=f.w/\f.sh/\f.fit/\f.dp<=3
  ·unfold Gd
   rw[dif_pos c]
   obtain⟨h1,h2,h3,h4⟩:=c.choose_spec
   generalize c.choose=f at h1 h2 h3 h4
   obtain⟨s1,k1,e1⟩:=Oa (a:=a) (b:=b) (c:=p) (d:=q) h2 (by omega) st
   have hf':bG [.ref l,tI [a,b]] st= .ok (.bl true) st:=by rw[hf,h1];rfl
   have ix:=RX h e
   rw[h1] at ix
   refine⟨s1,?_,k1⟩
   simp[hf',we,ix,e1]
  ·have hv:VT v=false:=by
    rcases cv with ⟨i,rfl⟩ | ⟨x,rfl⟩ | z
    ·rfl
    ·rfl
    ·exact absurd z c
   have hf':bG [.ref l,tI [a,b]] st= .ok (.bl false) st:=by rw[hf];simp[hv]
   unfold Gd
   rw[dif_neg c]
   refine⟨st,?_,Gr.refl⟩
   simp[hf',dg]
def vm(kvs:Ks)(a b p q:Int)(n K:Nat):Ks:=(f9 K).map λk:Nat=>(ky (p+((k / n:Nat):Int)) (q+((k % n:Nat):Int)),rC kvs (a+((k / n:Nat):Int)) (b+((k % n:Nat):Int)) (p+((k / n:Nat):Int)) (q+((k % n:Nat):Int)))
theorem AH{kvs:Ks}{a b p q:Int}{n K:Nat}:(vm kvs a b p q n K).length=K:=by unfold vm;simp
theorem AI{kvs:Ks}{a b p q:Int}{n K:Nat}:iY (vm kvs a b p q n K) (ky (p+((K / n:Nat):Int)) (q+((K % n:Nat):Int))) (rC kvs (a+((K / n:Nat):Int)) (b+((K % n:Nat):Int)) (p+((K / n:Nat):Int)) (q+((K % n:Nat):Int)))=vm kvs a b p q n (K+1):=by
 rw[AD]
 ·unfold vm
  rw[AA,nu]
  rfl
 ·unfold vm
  rw[hG]
  intro z
  obtain⟨k,hk,e⟩:=List.mem_map.mp z
  obtain⟨e1,e2⟩:=F8 e
  have e1:k / n=K / n:=by omega
  have e2:k % n=K % n:=by omega
  have q1:=Nat.div_add_mod k n
  have q2:=Nat.div_add_mod K n
  rw[e1,e2,q2] at q1
  have:=List.mem_range.mp hk
  omega
theorem Oc{a b c d p q:Int}(ha:dS a b c d)(hc:Co p q (p+c - a) (q+d - b)):dS p q (p+c - a) (q+d - b):=by
 obtain⟨h1,h2,h3,h4,h5,h6,h7⟩:=ha
 obtain⟨⟨k1,k2⟩,⟨k3,k4,k5,k6⟩,⟨k7,k8,k9,k10⟩⟩:=hc
 refine⟨k3,k1,k8,k5,k2,k10,?_⟩
 rw[show p+c - a - p+1=c - a+1 by omega,show q+d - b - q+1=d - b+1 by omega]
 exact h7
theorem block{l:Nat}{kvs:Ks}{a b c d p q:Int}{st:Hs}(h:eX st[l]? =some kvs)(hC:∀k v,cD kvs k=some v->Cn v)(ha:dS a b c d)(hp:cX p q)(hc:Co p q (p+c - a) (q+d - b)) :
  ∃(e:Nat)(st':Hs),cS [.ref l,tI [a,b,c,d],tI [p,q]] st= .ok (.ref e) st'/\st'[e]? =some (.eQ (vm kvs a b p q (d+1 - b).toNat ((c+1 - a).toNat * (d+1 - b).toNat)))/\Gr st st'/\st.length<=e:=by
 have ct:=JB (st:=st) ha hp
 rw[if_pos hc] at ct
 have hn:=Oc ha hc
 have ll:l < st.length:=by
  unfold eX at h
  split at h
  ·rename_i q;exact c7 q
  ·rename_i q;exact c7 q
  ·cases h
 obtain⟨s1,hs1⟩:∃s1,st++[Ob.eQ []]=s1:=⟨_,rfl⟩
 have g1:Gr st s1:=by rw[<-hs1];exact Gr.push
 have hd1:s1[st.length]? =some (.eQ []):=by rw[<-hs1];exact dY
 have l1:s1.length=st.length+1:=by rw[<-hs1];simp
 obtain⟨m2,e2⟩:=oR (st:=s1) ha
 have a2:=oB (st:=s1) (xs:=m2) (ws:=bT a b (c+1 - a).toNat (d+1 - b).toNat)
 have r2:(s1++ .lst (bT a b (c+1 - a).toNat (d+1 - b).toNat)::m2)[s1.length]? =some (.lst (bT a b (c+1 - a).toNat (d+1 - b).toNat)):=by simp
 have g2:Gr s1 (s1++ .lst (bT a b (c+1 - a).toNat (d+1 - b).toNat)::m2):=Gr.app
 generalize s1++ .lst (bT a b (c+1 - a).toNat (d+1 - b).toNat)::m2=s2 at e2 a2 g2 r2
 obtain⟨m3,e3⟩:=oR (st:=s2) hn
 rw[show(p+c - a+1 - p).toNat=(c+1 - a).toNat by congr 1;omega,show(q+d - b+1 - q).toNat=(d+1 - b).toNat by congr 1;omega] at e3
 have a3:=oB (st:=s2) (xs:=m3) (ws:=bT p q (c+1 - a).toNat (d+1 - b).toNat)
 have r3:(s2++ .lst (bT p q (c+1 - a).toNat (d+1 - b).toNat)::m3)[s2.length]? =some (.lst (bT p q (c+1 - a).toNat (d+1 - b).toNat)):=by simp
 have g3:Gr s2 (s2++ .lst (bT p q (c+1 - a).toNat (d+1 - b).toNat)::m3):=Gr.app
 generalize s2++ .lst (bT p q (c+1 - a).toNat (d+1 - b).toNat)::m3=s3 at e3 a3 g3 r3
 obtain⟨M,hM⟩:∃M,(c+1 - a).toNat=M:=⟨_,rfl⟩
 obtain⟨N,hN⟩:∃N,(d+1 - b).toNat=N:=⟨_,rfl⟩
 have n0:0 < N:=by have:=ha.2.2.2.2.1;omega
 have mn:M * N<=300:=by
  have:=ha.2.2.2.2.2.2
  have e1:c - a+1=(M:Int):=by have:=ha.2.1;omega
  have e2:d - b+1=(N:Int):=by have:=ha.2.2.2.2.1;omega
  rw[e1,e2] at this
  exact_mod_cast this
 rw[hM,hN] at a2 a3 r2 r3 ⊢
 have l2:s1.length < s2.length:=ng a2
 have l3:s2.length < s3.length:=ng a3
 have a2':=g3.lst a2
 obtain⟨ρ4,s4,e4,o5,o6,rfl,h4,k4⟩:=AG (is:=[5,6]) (gb:=cP) (ck:=OY s1.length (bT a b M N) s2.length (bT p q M N)) (λk ρ s=>∃(o5 o6:Option Wv),ρ=[some (.ref l),some (tI [a,b,c,d]),some (tI [p,q]),some (tI [p,q,p+c - a,q+d - b]),some (.ref st.length),o5,o6]/\s[st.length]? =some (.eQ (vm kvs a b p q N k))/\dB st.length s3 s)
  (oO (bT a b M N) (bT p q M N)) 0 [some (.ref l),some (tI [a,b,c,d]),some (tI [p,q]),some (tI [p,q,p+c - a,q+d - b]),some (.ref st.length),none,none] s3 ⟨none,none,rfl,(g2.trans g3).get hd1,dB.refl⟩ (λj w hw ρ s hP=>by
   obtain⟨o5,o6,rfl,hd,hk⟩:=hP
   rw[kG n0,kG n0,zip_map,i8] at hw
   obtain⟨j',hj',rfl⟩:=Option.map_eq_some_iff.mp hw
   obtain⟨hj,rfl⟩:j < M * N/\j'=j:=by
    have q:=List.getElem?_eq_some_iff.mp hj'
    obtain⟨q1,q2⟩:=q
    rw[List.length_range] at q1
    rw[List.getElem_range] at q2
    exact⟨q1,q2.symm⟩
   have hl:eX s[l]? =some kvs:=by
    rw[hk.2 l (by omega) (by omega),((g1.trans g2).trans g3).2 l ll]
    exact h
   obtain⟨s5,e5,g5⟩:=Ge (a:=a+((j' / N:Nat):Int)) (b:=b+((j' % N:Nat):Int)) (p:=p+((j' / N:Nat):Int)) (q:=q+((j' % N:Nat):Int)) (o1:=some (tI [a,b,c,d])) (o2:=some (tI [p,q])) (o3:=some (tI [p,q,p+c - a,q+d - b])) (o4:=some (.ref st.length)) hl (hC _)
   have O5:=g5.get hd
   have pd:=yB (a:=p+((j' / N:Nat):Int)) (b:=q+((j' % N:Nat):Int)) (v:=rC kvs (a+((j' / N:Nat):Int)) (b+((j' % N:Nat):Int)) (p+((j' / N:Nat):Int)) (q+((j' % N:Nat):Int))) O5 (by rw[AH];omega)
   rw[fQ,AI] at pd
   have kp:dB st.length s3 (s5.set st.length (.eQ (vm kvs a b p q N (j'+1)))):=(hk.trans g5.keep).trans dB.set
   refine⟨_,_,_,rfl,?_,⟨kp.lst a2' (by omega),kp.lst a3 (by omega)⟩,some (tI [a+((j' / N:Nat):Int),b+((j' % N:Nat):Int)]),some (tI [p+((j' / N:Nat):Int),q+((j' % N:Nat):Int)]),rfl,by rw[fQ];exact jj O5,kp⟩
   unfold cP mW
   dsimp only[qp,Aw,Av]
   rw[e5]
   have pd':putD (.ref st.length) (tI [p+((j' / N:Nat):Int),q+((j' % N:Nat):Int)]) (rC kvs (a+((j' / N:Nat):Int)) (b+((j' % N:Nat):Int)) (p+((j' / N:Nat):Int)) (q+((j' % N:Nat):Int))) s5=some (s5.set st.length (.eQ (vm kvs a b p q N (j'+1)))):=pd
   simp only[FG,FZ,FY,FF,yf,pd'])
 have zl:(oO (bT a b M N) (bT p q M N)).length=M * N:=by
  rw[kG n0,kG n0,zip_map,gT,List.length_range]
 rw[zl,fQ] at h4
 refine⟨st.length,s4,m_ (n:=7) (g:=eB) ?_,h4,((g1.trans g2).trans g3).yh (aq _) k4,aq _⟩
 have zs:Jd [5,6] cP [some (.ref l),some (tI [a,b,c,d]),some (tI [p,q]),some (tI [p,q,p+c - a,q+d - b]),some (.ref st.length),none,none] [.ref s1.length,.ref s2.length] s3= .nx [some (.ref l),some (tI [a,b,c,d]),some (tI [p,q]),some (tI [p,q,p+c - a,q+d - b]),some (.ref st.length),o5,o6] s4:=by
  unfold Jd
  dsimp only
  rw[g3.get r2,r3]
  exact e4
 unfold eB
 simp[ct,oK,hs1,zZ,e2,e3,zs]
theorem RY{kvs:Ks}{a b p q:Int}(hC:∀k v,cD kvs k=some v->Cn v):∃d:PyData,(∀st:Hs,aT st 20 (rC kvs a b p q)=some d)/\bE d d=true:=by
 unfold rC
 cases e:cD kvs (ky a b) with
 | none=>exact F_ (.inl rfl)
 | some v=>
  dsimp only
  unfold Gd
  by_cases c:∃f:Fm,v=f.w/\f.sh/\f.fit/\f.dp<=3
  ·rw[dif_pos c]
   obtain⟨h1,h2,h3,h4⟩:=c.choose_spec
   generalize c.choose=f at h1 h2 h3 h4
   exact dat _ 19 (ir a b p q f h2) (bp (jH _ f) (by omega))
  ·rw[dif_neg c]
   exact F_ (.inr (hC _ _ e))
theorem AJ{kvs:Ks}{a b p q:Int}{n K:Nat}(hC:∀k v,cD kvs k=some v->Cn v):∀kv∈vm kvs a b p q n K,∃d:PyData,(∀st:Hs,aT st 20 kv.2=some d)/\bE d d=true:=λkv h=>by
 unfold vm at h
 obtain⟨k,_,rfl⟩:=List.mem_map.mp h
 exact RY hC
theorem vc{a b c d:Int}{st:Hs}:aS (tI [a,b,c,d]) (.int 0) st= .ok (.int a) st/\aS (tI [a,b,c,d]) (.int 1) st= .ok (.int b) st/\aS (tI [a,b,c,d]) (.int 2) st= .ok (.int c) st/\aS (tI [a,b,c,d]) (.int 3) st= .ok (.int d) st:=⟨rfl,rfl,rfl,rfl⟩
theorem Od{a b:Int}{st:Hs}:aS (tI [a,b]) (.int 0) st= .ok (.int a) st/\aS (tI [a,b]) (.int 1) st= .ok (.int b) st:=⟨rfl,rfl⟩
theorem Oe{l e:Nat}{kvs ks:Ks}{a b c d p q:Int}{i j:Nat}{o6 o7 o8:Option Wv}{st:Hs}(h:eX st[l]? =some kvs)(hC:∀k v,cD kvs k=some v->Cn v)(he:st[e]? =some (.eQ ks))(hl:ks.length < 1000) :
  ∃(p6 p7 p8:Option Wv)(st':Hs),cT [some (.ref l),some (tI [a,b,c,d]),some (tI [p,q]),some (.ref e),some (.int (i:Nat)),some (.int (j:Nat)),o6,o7,o8] st= .nx [some (.ref l),some (tI [a,b,c,d]),some (tI [p,q]),some (.ref e),some (.int (i:Nat)),some (.int (j:Nat)),p6,p7,p8] st'/\dB e st st'/\st'[e]? =some (.eQ (iY ks (ky (p+(i:Nat)) (q+(j:Nat))) (rC kvs (a+(i:Nat)) (b+(j:Nat)) (p+(i:Nat)) (q+(j:Nat))))):=by
 generalize (i:Int)=x
 generalize (j:Int)=y
 have t2:∀{a b:Int}{st:Hs},rP [.int a,.int b] st= .ok (tI [a,b]) st:=nY
 have dg:=N6 (i:=0) (j:=6) (p:=a+x) (q:=b+y) (ρ:=[some (.ref l),some (tI [a,b,c,d]),some (tI [p,q]),some (.ref e),some (.int x),some (.int y),some (tI [a+x,b+y]),some (tI [p+x,q+y]),o8]) rfl rfl h
 have fin:∀(w:Wv)(s1:Hs),Gr st s1->mW (af 8) (af 3) (af 7) [some (.ref l),some (tI [a,b,c,d]),some (tI [p,q]),some (.ref e),some (.int x),some (.int y),some (tI [a+x,b+y]),some (tI [p+x,q+y]),some w] s1= .nx [some (.ref l),some (tI [a,b,c,d]),some (tI [p,q]),some (.ref e),some (.int x),some (.int y),some (tI [a+x,b+y]),some (tI [p+x,q+y]),some w] (s1.set e (.eQ (iY ks (ky (p+x) (q+y)) w)))/\dB e st (s1.set e (.eQ (iY ks (ky (p+x) (q+y)) w)))/\(s1.set e (.eQ (iY ks (ky (p+x) (q+y)) w)))[e]? =some (.eQ (iY ks (ky (p+x) (q+y)) w)):=λw s1 g=>by
  have pd:putD (.ref e) (tI [p+x,q+y]) w s1=some (s1.set e (.eQ (iY ks (ky (p+x) (q+y)) w))):=yB (g.get he) hl
  exact⟨by simp[mW,pd],g.keep.trans dB.set,jj (g.get he)⟩
 unfold rC
 cases ev:cD kvs (ky (a+x) (b+y)) with
 | none=>
  rw[ev] at dg
  obtain⟨f1,f2,f3⟩:=fin .bz st Gr.refl
  refine⟨some (tI [a+x,b+y]),some (tI [p+x,q+y]),some .bz,_,?_,f2,f3⟩
  have is:nQ lr n5 [.bz,.ty "tuple"] st= .ok (.bl false) st:=rfl
  have TC:iD (af 0) (af 6) [some (.ref l),some (tI [a,b,c,d]),some (tI [p,q]),some (.ref e),some (.int x),some (.int y),some (tI [a+x,b+y]),some (tI [p+x,q+y]),o8] st= .ok .bz st:=dg
  unfold cT
  simp[-nY,t2,vc,Od,TC,is,f1]
 | some v=>
  rw[ev] at dg
  have TC:iD (af 0) (af 6) [some (.ref l),some (tI [a,b,c,d]),some (tI [p,q]),some (.ref e),some (.int x),some (.int y),some (tI [a+x,b+y]),some (tI [p+x,q+y]),o8] st= .ok v st:=dg
  have cv:=hC _ v ev
  dsimp only
  unfold Gd
  by_cases cf:∃f:Fm,v=f.w/\f.sh/\f.fit/\f.dp<=3
  ·rw[dif_pos cf]
   obtain⟨h1,h2,h3,h4⟩:=cf.choose_spec
   generalize cf.choose=f at h1 h2 h3 h4
   obtain⟨s1,k1,e1⟩:=JD (a:=a+x) (b:=b+y) (c:=p+x) (d:=q+y) h2 (by omega) st
   have is:nQ lr n5 [v,.ty "tuple"] st= .ok (.bl true) st:=by rw[h1];rfl
   rw[<-h1] at e1
   obtain⟨f1,f2,f3⟩:=fin (f.fP (g3 (a+x) (b+y) (p+x) (q+y))).w s1 k1
   refine⟨some (tI [a+x,b+y]),some (tI [p+x,q+y]),some (f.fP (g3 (a+x) (b+y) (p+x) (q+y))).w,_,?_,f2,f3⟩
   unfold cT
   simp[-nY,t2,vc,Od,TC,is,e1,f1]
  ·rw[dif_neg cf]
   have is:nQ lr n5 [v,.ty "tuple"] st= .ok (.bl false) st:=by
    rcases cv with ⟨i,rfl⟩ | ⟨x,rfl⟩ | z
    ·rfl
    ·rfl
    ·exact absurd z cf
   obtain⟨f1,f2,f3⟩:=fin v st Gr.refl
   refine⟨some (tI [a+x,b+y]),some (tI [p+x,q+y]),some v,_,?_,f2,f3⟩
   unfold cT
   simp[-nY,t2,vc,Od,TC,is,f1]
theorem Gf{kvs:Ks}{a b p q:Int}{n i j:Nat}(hj:j < n):iY (vm kvs a b p q n (i * n+j)) (ky (p+(i:Nat)) (q+(j:Nat))) (rC kvs (a+(i:Nat)) (b+(j:Nat)) (p+(i:Nat)) (q+(j:Nat)))=vm kvs a b p q n (i * n+j+1):=by
 have e1:(i * n+j) / n=i:=by rw[pB,Nat.mul_add_div (by omega),zQ hj,Nat.add_zero]
 have e2:(i * n+j) % n=j:=by rw[pB,Nat.mul_add_mod,Nat.mod_eq_of_lt hj]
 have q:=AI (kvs:=kvs) (a:=a) (b:=b) (p:=p) (q:=q) (n:=n) (K:=i * n+j)
 rw[e1,e2] at q
 exact q
theorem ve{n j:Nat}{w:Wv}(h:(bO 0 n)[j]? =some w):j < n/\w= .int (j:Nat):=by
 have hj:j < n:=by
  have q:=(List.getElem?_eq_some_iff.mp h).1
  rw[b9] at q
  exact q
 rw[kP hj] at h
 cases h
 exact⟨hj,by rw[Int.zero_add]⟩
theorem JF{st:Hs}{l:Nat}{kvs:Ks}(h:eX st[l]? =some kvs):l < st.length:=by
 unfold eX at h
 split at h
 ·rename_i q;exact c7 q
 ·rename_i q;exact c7 q
 ·cases h
theorem due{l:Nat}{kvs:Ks}{a b c d p q:Int}{st:Hs}(h:eX st[l]? =some kvs)(hC:∀k v,cD kvs k=some v->Cn v)(ha:dS a b c d) :
  ∃(e:Nat)(st':Hs),jz [.ref l,tI [a,b,c,d],tI [p,q]] st= .ok (.ref e) st'/\st'[e]? =some (.eQ (vm kvs a b p q (d+1 - b).toNat ((c+1 - a).toNat * (d+1 - b).toNat)))/\Gr st st'/\st.length<=e:=by
 obtain⟨M,hM⟩:∃M,(c+1 - a).toNat=M:=⟨_,rfl⟩
 obtain⟨N,hN⟩:∃N,(d+1 - b).toNat=N:=⟨_,rfl⟩
 have eM:c - a+1=(M:Int):=by have:=ha.2.1;omega
 have eN:d - b+1=(N:Int):=by have:=ha.2.2.2.2.1;omega
 have bM:M<=99:=by have:=ha.1;have:=ha.2.2.1;omega
 have bN:N<=26:=by have:=ha.2.2.2.1;have:=ha.2.2.2.2.2.1;omega
 have mn:M * N<=300:=by
  have:=ha.2.2.2.2.2.2
  rw[eM,eN] at this
  exact_mod_cast this
 have cM:cg (M:Int):=rQ (by omega) (by omega)
 have cN:cg (N:Int):=rQ (by omega) (by omega)
 rw[hM,hN]
 have ll:=JF h
 obtain⟨ρ1,s1,e1,o4,o5,o6,o7,o8,rfl,k1,h1⟩:=ji (i:=4) (gb:=iJ) (λi ρ s=>∃o4 o5 o6 o7 o8,ρ=[some (.ref l),some (tI [a,b,c,d]),some (tI [p,q]),some (.ref st.length),o4,o5,o6,o7,o8]/\dB st.length (st++[.eQ []]) s/\s[st.length]? =some (.eQ (vm kvs a b p q N (i * N)))) (bO 0 M) 0 [some (.ref l),some (tI [a,b,c,d]),some (tI [p,q]),some (.ref st.length),none,none,none,none,none] (st++[.eQ []]) ⟨none,none,none,none,none,rfl,dB.refl,by rw[Nat.zero_mul];exact dY⟩ (λi w hw ρ s hP=>by
  obtain⟨o4,o5,o6,o7,o8,rfl,k1,h1⟩:=hP
  obtain⟨hi,rfl⟩:=ve hw
  rw[fQ] at h1 ⊢
  have bi:i * N+N<=300:=by
   have:(i+1) * N<=M * N:=Nat.mul_le_mul_right _ hi
   rw[pA] at this
   omega
  obtain⟨ρ2,s2,e2,o5',o6',o7',o8',rfl,k2,h2⟩:=ji (i:=5) (gb:=cT) (λj ρ s=>∃o5 o6 o7 o8,ρ=[some (.ref l),some (tI [a,b,c,d]),some (tI [p,q]),some (.ref st.length),some (.int (i:Nat)),o5,o6,o7,o8]/\dB st.length (st++[.eQ []]) s/\s[st.length]? =some (.eQ (vm kvs a b p q N (i * N+j)))) (bO 0 N) 0 [some (.ref l),some (tI [a,b,c,d]),some (tI [p,q]),some (.ref st.length),some (.int (i:Nat)),o5,o6,o7,o8] s ⟨o5,o6,o7,o8,rfl,k1,h1⟩ (λj w hw ρ s hP=>by
   obtain⟨o5,o6,o7,o8,rfl,k2,h2⟩:=hP
   obtain⟨hj,rfl⟩:=ve hw
   rw[fQ] at h2 ⊢
   have hl:eX s[l]? =some kvs:=by
    rw[k2.2 l (by simp;omega) (by omega),eO ll]
    exact h
   obtain⟨p6,p7,p8,s3,e3,k3,h3⟩:=Oe (a:=a) (b:=b) (c:=c) (d:=d) (p:=p) (q:=q) (i:=i) (j:=j) (o6:=o6) (o7:=o7) (o8:=o8) hl hC h2 (by rw[AH];omega)
   rw[Gf hj] at h3
   exact⟨_,s3,e3,_,p6,p7,p8,rfl,k2.trans k3,h3⟩)
  rw[b9,fQ] at h2
  refine⟨_,s2,?_,some (.int (i:Nat)),o5',o6',o7',o8',rfl,k2,by rw[pA];exact h2⟩
  unfold iJ
  simp[vc,eN,cN,e2])
 rw[b9,fQ] at h1
 refine⟨st.length,s1,m_ (n:=9) (g:=jy) ?_,h1,Gr.push.yh (aq _) k1,aq _⟩
 unfold jy
 simp[oK,vc,eM,cM,e1]
theorem AK{i j:Int}{st:Hs}:∃m,jK [.int i,.int j] st= .ok (.int m) st/\i<=m/\j<=m/\(m=i\/m=j):=by
 by_cases c:j > i
 ·exact⟨j,by simp[c],by omega,by omega,.inr rfl⟩
 ·exact⟨i,by simp[c],by omega,by omega,.inl rfl⟩
theorem AL{i j:Int}{st:Hs}:∃m,lE [.int i,.int j] st= .ok (.int m) st/\m<=i/\m<=j/\(m=i\/m=j):=by
 by_cases c:j < i
 ·exact⟨j,by simp[c],by omega,by omega,.inr rfl⟩
 ·exact⟨i,by simp[c],by omega,by omega,.inl rfl⟩
theorem target{r:Nat}{a b c d:Int}{st:Hs}(ha:dS a b c d)(h:Ro r st):∃(p q:Int)(st':Hs),fI [.ref r,tI [a,b,c,d]] st= .ok (tI [p,q]) st'/\cX p q/\Co p q (p+c - a) (q+d - b)/\Dw r st st':=by
 obtain⟨a1,a2,a3,a4,a5,a6,_⟩:=ha
 obtain⟨w,s1,e1,w0,w1,d1⟩:=dig (m:=4) h (by decide) (by decide)
 have fin:∀{p q:Int},0<=p->p<=98 - (c - a)->0<=q->q<=25 - (d - b)->cX p q/\Co p q (p+c - a) (q+d - b):=λ{p q} h1 h2 h3 h4=>by unfold Co cX;omega
 by_cases c0:w=0
 ·subst c0
  obtain⟨f1,f2⟩:=fin (p:=98 - (c - a)) (q:=25 - (d - b)) (by omega) (by omega) (by omega) (by omega)
  refine⟨98 - (c - a),25 - (d - b),s1,m_ (n:=7) (g:=bQ) ?_,f1,f2,d1⟩
  unfold bQ
  simp[e1,vc,tI]
  simp[RQ]
 have b0:(w == 0)=false:=beq_false_of_ne c0
 by_cases c1:w=1
 ·subst c1
  obtain⟨x,s2,e2,x0,x1,d2⟩:=dig (m:=99 - (c - a)) d1.2 (by omega) (by omega)
  obtain⟨y,s3,e3,y0,y1,d3⟩:=dig (m:=26 - (d - b)) d2.2 (by omega) (by omega)
  obtain⟨f1,f2⟩:=fin (p:=x) (q:=y) (by omega) (by omega) (by omega) (by omega)
  refine⟨x,y,s3,m_ (n:=7) (g:=bQ) ?_,f1,f2,(d1.trans d2).trans d3⟩
  unfold bQ
  simp[e1,vc,e2,e3]
  rfl
 have b1:(w == 1)=false:=beq_false_of_ne c1
 obtain⟨x,s2,e2,x0,x1,d2⟩:=dig (m:=5) d1.2 (by omega) (by omega)
 obtain⟨y,s3,e3,y0,y1,d3⟩:=dig (m:=5) d2.2 (by omega) (by omega)
 obtain⟨m1,n1,u1,u2,u3⟩:=AL (i:=98 - (c - a)) (j:=a+x - 2) (st:=s3)
 obtain⟨m2,n2,v1,v2,v3⟩:=AK (i:=0) (j:=m1) (st:=s3)
 obtain⟨m3,n3,t1,t2,t3⟩:=AL (i:=25 - (d - b)) (j:=b+y - 2) (st:=s3)
 obtain⟨m4,n4,r1,r2,r3⟩:=AK (i:=0) (j:=m3) (st:=s3)
 obtain⟨f1,f2⟩:=fin (p:=m2) (q:=m4) (by omega) (by omega) (by omega) (by omega)
 refine⟨m2,m4,s3,m_ (n:=7) (g:=bQ) ?_,f1,f2,(d1.trans d2).trans d3⟩
 unfold bQ
 simp[-KH,-KG,e1,b0,b1,vc,e2,e3,n1,n2,n3,n4]
 rfl
theorem V4{a b c:GS}{ρ ρ':bH}{st st':Hs}(h:aD a b ρ st= .nx ρ' st'):aD a (aD b c) ρ st=c ρ' st':=by
 rw[Kx] at h ⊢
 cases ea:a ρ st with
 | nx ρ1 s1=>rw[ea] at h;simp only[Rr] at h ⊢;rw[Kx,h];rfl
 | _=>rw[ea] at h;cases h
abbrev Rh(d r:Nat)(A B:Int)(o4 o5 o6 o7 o8 o9:Option Wv):bH:=[some (.ref 0),some (.ref d),some (tI [A,B]),some (.ref r),o4,o5,o6,o7,o8,o9]
theorem tP{d r k:Nat}{A B:Int}{o5 o6 o7 o8 o9:Option Wv}{s:Hs}(hr:Ro r s)(hs:mf A B):∃(a b c f:Int)(s':Hs),aD (aY 5 (au 2 bI (aa (af 3) (aa (af 2) aj))))
  (jJ (cC (ag oEq (af 4) (gC (.int 2)))) (aY 5 (cA (aa (aU jK (aa (gC (.int 0)) (aa (ag cV (ag aS (af 5) (gC (.int 0))) (gC (.int 2))) aj))) (aa (aU jK (aa (gC (.int 0)) (aa (ag cV (ag aS (af 5) (gC (.int 1))) (gC (.int 1))) aj))) (aa (aU lE (aa (gC (.int 98)) (aa (ag br (ag aS (af 5) (gC (.int 2))) (gC (.int 3))) aj))) (aa (aU lE (aa (gC (.int 25)) (aa (ag br (ag aS (af 5) (gC (.int 3))) (gC (.int 2))) aj))) aj)))))) bt)
   (Rh d r A B (some (.int (k:Nat))) o5 o6 o7 o8 o9) s= .nx (Rh d r A B (some (.int (k:Nat))) (some (tI [a,b,c,f])) o6 o7 o8 o9) s'/\dS a b c f/\Dw r s s':=by
 obtain⟨t,l,p,q,s1,e1,hc,d1⟩:=RJ (a:=A) (b:=B) hr
 unfold mf at hs
 by_cases c:k=2
 ·subst c
  obtain⟨m1,n1,u1,u2,u3⟩:=AK (i:=0) (j:=A+t - 2) (st:=s1)
  obtain⟨m2,n2,v1,v2,v3⟩:=AK (i:=0) (j:=B+l - 1) (st:=s1)
  obtain⟨m3,n3,w1,w2,w3⟩:=AL (i:=98) (j:=A+p+3) (st:=s1)
  obtain⟨m4,n4,x1,x2,x3⟩:=AL (i:=25) (j:=B+q+2) (st:=s1)
  refine⟨m1,m2,m3,m4,s1,?_,?_,d1⟩
  ·have t4:rP [.int m1,.int m2,.int m3,.int m4] s1= .ok (tI [m1,m2,m3,m4]) s1:=FI
   simp[-KG,-KH,-FI,e1,vc,n1,n2,n3,n4,t4]
  ·have:=FV (x:=m3 - m1+1) (y:=m4 - m2+1) (p:=8) (q:=7) (by omega) (by omega) (by omega) (by omega)
   unfold dS
   omega
 ·have c':((k:Int) == 2)=false:=beq_false_of_ne (by omega)
  refine⟨A+t,B+l,A+p,B+q,s1,?_,?_,d1⟩
  ·simp[e1,c']
  ·have:=FV (x:=A+p - (A+t)+1) (y:=B+q - (B+l)+1) (p:=3) (q:=4) (by omega) (by omega) (by omega) (by omega)
   unfold dS
   omega
theorem turn{d r k:Nat}{A B A0 B0:Int}{kvs:Ks}{o5 o6 o7 o8 o9:Option Wv}{s:Hs}(hr:Ro r s)(hs:mf A B)(hd:s[d]? =some (.eQ kvs))(hs0:mf A0 B0)(hk:vj A0 B0 12 kvs)(nd:d≠r) :
  ∃(p5 p6 p7 p8 p9:Option Wv)(s':Hs),nj (Rh d r A B (some (.int (k:Nat))) o5 o6 o7 o8 o9) s= .nx (Rh d r A B (some (.int (k:Nat))) p5 p6 p7 p8 p9) s'/\Ro r s'/\s'[d]? =some (.eQ kvs):=by
 have hC:∀k v,cD kvs k=some v->Cn v:=λk v=>hk.val
 have hdat:∀kv∈kvs,∃d:PyData,(∀st:Hs,aT st 20 kv.2=some d)/\bE d d=true:=λkv h=>by
  obtain⟨js,_,_,_,_,h4⟩:=hk
  exact F_ (.inr (h4 kv h))
 obtain⟨a,b,c,f,s1,e1,ha,d1⟩:=tP (d:=d) (k:=k) (o5:=o5) (o6:=o6) (o7:=o7) (o8:=o8) (o9:=o9) hr hs
 obtain⟨p,q,s2,e2,hp,hc,d2⟩:=target ha d1.2
 have GJ:=d1.trans d2
 have hd2:s2[d]? =some (.eQ kvs):=by rw[GJ.1.2 d (c7 hd) nd];exact hd
 have dk:=JC (d:=d) (st:=s2) (by rw[hd2];rfl) (hk.hash hs0)
 obtain⟨s3,DS⟩:∃s3,s2++[Ob.eQ kvs]=s3:=⟨_,rfl⟩
 rw[DS] at dk
 have g3:Gr s2 s3:=by rw[<-DS];exact Gr.push
 have h3:s3[s2.length]? =some (.eQ kvs):=by rw[<-DS];exact dY
 have V5:=g3.get hd2
 obtain⟨e,s4,e4,h4,g4,le4⟩:=due (p:=p) (q:=q) (by rw[V5];rfl) hC ha
 obtain⟨e',s5,e5,h5,g5,le5⟩:=block (p:=p) (q:=q) (by rw[g4.get V5];rfl) hC ha hp hc
 have O5:=(g4.trans g5).get V5
 have lt4:e < s4.length:=c7 h4
 have OU:s2.length < s3.length:=c7 h3
 have ltr:r < s2.length:=let ⟨v,e⟩:=GJ.2;c7 e
 have ltd:d < s2.length:=c7 hd2
 have l34:s3.length<=s4.length:=g4.1
 have n1:=(eq_self (l:=e') (k:=e) (st:=s5) (by rw[h5];rfl) (by rw[g5.get h4];rfl) (AJ hC)).2
 have n2:=(eq_self (l:=d) (k:=s2.length) (st:=s5) (by rw[O5];rfl) (by rw[(g4.trans g5).get h3];rfl) hdat).2
 have is:BB lr n5 [.ref e',.ty "dict"] s5= .ok (.bl true) s5:=by
  show(if("dict":String)="dict"/\(eX s5[e']?).isSome=true then Re.ok (Wv.bl true) s5 else _)=_
  rw[h5]
  exact if_pos ⟨rfl,rfl⟩
 obtain⟨s6,YN⟩:∃s6,s5.set e' (.eQ [])=s6:=⟨_,rfl⟩
 have cl:Jb (.ref e') s5= .ok .bz s6:=by
  unfold Jb
  dsimp only
  rw[h5,<-YN]
 have k6:dB e' s5 s6:=by rw[<-YN];exact dB.set
 have YO:s6[d]? =some (.eQ kvs):=by rw[k6.2 d (c7 O5) (by omega)];exact O5
 have h46:s6[e]? =some (.eQ (vm kvs a b p q (f+1 - b).toNat ((c+1 - a).toNat * (f+1 - b).toNat))):=by rw[k6.2 e (c7 (g5.get h4)) (by omega)];exact g5.get h4
 obtain⟨e7,s7,e7',h7,g7,le7⟩:=block (p:=p) (q:=q) (st:=s6) (l:=d) (by rw[YO];rfl) hC ha hp hc
 have n3:=(eq_self (l:=e7) (k:=e) (st:=s7) (by rw[h7];rfl) (by rw[g7.get h46];rfl) (AJ hC)).2
 have r6:Ro r s6:=by
  obtain⟨v,q⟩:=GJ.2.gr (g3.trans (g4.trans g5))
  exact⟨v,by rw[k6.2 r (c7 q) (by omega)];exact q⟩
 refine⟨some (tI [a,b,c,f]),some (tI [p,q]),some (.ref s2.length),some (.ref e),some (.ref e'),s7,?_,r6.gr g7,g7.get YO⟩
 unfold nj
 rw[V4 e1]
 simp[e2,dk,e4,e5,is,n1,n2,EW,cl,e7',n3]
theorem law_true:∀ns:List Int,ns.length<=63->∃st,F_law [.ref 0] [.sI ns]= .ok (.bl true) st:=by
 intro ns hn
 have l0:av [Ob.sI ns] 0=some (ns.map Wv.int):=rfl
 obtain⟨a,b,kvs,d,s1,e1,h1,hs,hk,g1,sp,esp⟩:=cells l0 hn (dp:=2) (by decide)
 obtain⟨A,B,s2,e2,hs2,more,rfl⟩:=spot (g1.lst l0)
 have g2:Gr s1 (s1++more):=Gr.app
 generalize s1++more=s2 at e2 g2
 have h2:=g2.get h1
 obtain⟨n,e3⟩:=stream ((g1.trans g2).lst l0) hn (k:=12) (by decide) (by decide)
 obtain⟨s3,DS⟩:∃s3,s2++[Ob.lst [.int n]]=s3:=⟨_,rfl⟩
 rw[DS] at e3
 have g3:Gr s2 s3:=by rw[<-DS];exact Gr.push
 have r3:Ro s2.length s3:=⟨n,by rw[<-DS];exact dY⟩
 have nd:d≠s2.length:=aR (c7 h2)
 obtain⟨ρ4,s4,e4,o4,o5,o6,o7,o8,o9,rfl,_,_⟩:=ji (i:=4) (gb:=nj) (λ_ ρ s=>∃o4 o5 o6 o7 o8 o9,ρ=Rh d s2.length A B o4 o5 o6 o7 o8 o9/\Ro s2.length s/\s[d]? =some (.eQ kvs)) (bO 0 3) 0 (Rh d s2.length A B none none none none none none) s3 ⟨_,_,_,_,_,_,rfl,r3,g3.get h2⟩ (λk w hw ρ s hP=>by
  obtain⟨o4,o5,o6,o7,o8,o9,rfl,hr,hd⟩:=hP
  obtain⟨hj,rfl⟩:=ve hw
  obtain⟨p5,p6,p7,p8,p9,s5,e5,r5,d5⟩:=turn (k:=k) (o5:=o5) (o6:=o6) (o7:=o7) (o8:=o8) (o9:=o9) hr hs2 hd hs hk nd
  exact⟨_,s5,e5,_,p5,p6,p7,p8,p9,rfl,r5,d5⟩)
 have c3:cg 3:=rQ (by decide) (by decide)
 have GG:fg [.ref 0,.int 2] [Ob.sI ns]= .ok (.ref d) s1:=e1
 refine⟨s4,m_ (n:=10) (g:=As) ?_⟩
 unfold As
 simp[GG,e2,e3,c3,e4]
end K59
namespace PySem.W.Fast
def tw15066972473576886796:=()
def tw6175894223920671747:=()
def tw13485901154395024411:=()
def tw12680588873232308256:=()
def tw11996937565882759568:=()
def tw4714364410885941917:=()
def tw826693951787245016:=()
def tw14089248545227903255:=()
def tw3126155005656236417:=()
def tw2576976242096008431:=()
def tw10559425495252539277:=()
def tw859801049424322517:=()
def tw4556873380155403477:=()
def tw2192500302580595272:=()
def tw1265549552608592539:=()
def tw16004349389115802763:=()
def tw3906950699955004030:=()
def tw10464894559221284697:=()
def tw8880155874368993840:=()
def tw13268211676082664941:=()
def tw4842680483819348779:=()
def tw3144059504339765880:=()
def tw13396934672612872472:=()
def tw2832790351585760601:=()
def tw3591901175354660936:=()
def tw3630581186686603247:=()
def tw27166344494544589:=()
def tw17097049667361361572:=()
def tw2367230402967439180:=()
def tw998917966333402086:=()
def tw7036822408348195921:=()
def tw6071081092432912685:=()
def tw15390794046095264512:=()
def tw13018255539943686459:=()
def tw6780375976565969773:=()
def tw11210150769090580291:=()
def tw3467384602138561650:=()
def tw8168963502015003047:=()
def tw2167948490116251062:=()
def tw2139714380018148881:=()
def tw3971272390429739026:=()
def tw11451943171640687805:=()
def tw2131913438036729971:=()
def tw5285700946235007457:=()
def tw9340047541022884088:=()
def tw14354702765860327686:=()
def tw5186338999440659042:=()
def tw13450527902722401658:=()
def tw11413909128568041309:=()
def tw6296835705729365313:=()
def tw11337545002116711180:=()
def tw4109207644386517097:=()
def tw17374574148490978422:=()
def tw10036928995888554362:=()
def tw699810888463261718:=()
def tw14515440485546807371:=()
def tw9578411804261653447:=()
def tw12008665592441972427:=()
def tw10911862363377107292:=()
def tw3369453557968705661:=()
def tw5879127499804012536:=()
def tw16749597477155277090:=()
def tw3987666918368550648:=()
def tw16500974981727290532:=()
def tw594881573292337816:=()
def tw12661554230551045273:=()
def tw10607565622928311796:=()
def tw4597804924469483457:=()
def tw15739817411361241227:=()
def tw15529223216158748363:=()
def tw8031648375487682296:=()
def tw7179537255113506444:=()
def tw2645638628325609481:=()
def tw2311990837326967768:=()
def tw2674750592725280785:=()
def tw2932197086139870590:=()
def tw16819347313509487370:=()
def tw6759347468907285891:=()
def tw14769800057369086274:=()
def tw14273227067590742686:=()
def tw12691872655455691241:=()
def tw15360061059039602154:=()
def tw6800226212678122278:=()
def tw14265601382741990902:=()
def tw9726430210169258104:=()
def tw11560182922384706825:=()
def tw5595796400846147724:=()
def tw9980075375141125896:=()
def tw6692583482579006123:=()
def tw2846949508420765983:=()
def tw2328817855580930610:=()
def tw3126792110660709623:=()
def tw7869233855777692061:=()
def tw3071505267175526833:=()
def tw5594965455525187032:=()
def tw13011788649653054601:=()
def tw1760022578175026826:=()
def tw6880714215959817572:=()
def tw7171537986192002335:=()
def tw13459123625373041328:=()
def tw5634805856411834749:=()
def tw17804224950886241198:=()
def tw7298481905919429330:=()
def tw8565063053800515746:=()
def tw40170654421188092:=()
def tw14718763421774477505:=()
def tw12758439645557062016:=()
def tw1933739244894934265:=()
def tw16697898586203847712:=()
def tw4781882576150418764:=()
def tw7401155348257504378:=()
def tw17428277699936719706:=()
def tw1055593089237558847:=()
def tw12061340311922101802:=()
def tw4661043040952757844:=()
def tw3641826869151270495:=()
def tw8502076948787751274:=()
def tw9147978314149749928:=()
def tw8270269112734010599:=()
def tw6325728204562735030:=()
def tw13846445942561438886:=()
def tw14524874597171052587:=()
def tw7522169343699140451:=()
def tw7174349649829830290:=()
def tw1348236247637406878:=()
def tw10838452382850224380:=()
def tw460378357272127691:=()
def tw895274099636047625:=()
def tw1008612399872697516:=()
def tw15708679695563290520:=()
def tw8042561669895397914:=()
def tw12131869075579283914:=()
def tw4194683712223040451:=()
def tw8898027181571743270:=()
def tw7122822790167171151:=()
def tw175602653739751865:=()
def tw2883799011497795520:=()
def tw11124116204151338264:=()
def tw13361976882643764129:=()
def tw16910696732470641038:=()
def tw3164819174588065089:=()
def tw9105040475980913752:=()
def tw152700197914628304:=()
def tw12981235327596038304:=()
def tw10508979101356079754:=()
def tw9622687853706345397:=()
def tw6397591329619055994:=()
def tw9630393851524432149:=()
def tw5322613806245138105:=()
def tw14999280261481473379:=()
def tw3283606025082303483:=()
def tw3171892481576563807:=()
def tw2483811697534038060:=()
def tw11912288511700919288:=()
def tw15175003832665545100:=()
def tw11446232085323734348:=()
def tw12285658041668474757:=()
def tw15281208529368846199:=()
def tw2488992439062734667:=()
def tw6953639558346817652:=()
def tw925521196954509703:=()
def tw12508472496887935902:=()
def tw3288538063136984406:=()
def tw5245774945821738873:=()
end PySem.W.Fast
namespace K59
open PySem PySem.W PyProof.Rows
set_option maxHeartbeats 0 in
open_top head for PySem.Challenge.rw_onelook_k59_blocks_copied
open PySem J
open PySem.W (nsIn kitOne findIn excIn codeIn keepIn fnOf mg_of mg_none_of tabIn)
open L2 (defScope defBody defArgs FnScope CX0 FnOk XK Hp)
set_option autoImplicit true in
theorem all_mk{l:PySem.W.OpenLaw}{w:ade}{K:PySem.W.Frag}{h:Heap}{mg:Str->Option adb}{fa:ac5}(X:K.In h)(G:h.Ns adn mg)(hfa:mg "law"=some (.ref fa))
    (d1:J.bj K "_law_cell_at" e_)
    (d2:J.bj K "_law_spot" hR)
    (d3:J.bj K "_law_digit" gj)
    (d4:J.bj K "_law_area" hU)
    (d5:J.bj K "_law_pins" hV)
    (d6:J.bj K "_law_number" fF)
    (d7:J.bj K "_law_place" gn)
    (d8:J.bj K "_law_leaf" hX)
    (d9:J.bj K "_law_formula" fb)
    (V6:J.bj K "_law_content" fe)
    (V7:J.bj K "_law_mixed" gq)
    (GJ:J.bj K "_law_stream" fG)
    (OW:J.bj K "_law_cells" gA)
    (V8:J.bj K "_law_target" fH)
    (V9:J.bj K "_law_led" ju)
    (V_:J.bj K "_law_fits" hZ)
    (TF:J.bj K "_law_copied" fJ)
    (V':J.bj K "_law_due" jw)
    (Wa:J.bj K "is_place" jA)
    (Wb:J.bj K "has_corners" fK)
    (Wc:J.bj K "area_many" ij)
    (Wd:J.bj K "is_area" kY)
    (OX:J.bj K "made_area" ik)
    (We:J.bj K "made_place" gD)
    (Wf:J.bj K "area_come_to" fi)
    (Wg:J.bj K "places_between" dD)
    (Wh:J.bj K "area_places" fL)
    (Wi:J.bj K "has_formula" fN)
    (Wj:J.bj K "part_many" il)
    (Wl:J.bj K "tail_of" kZ)
    (Wm:J.bj K "has_area" jD)
    (Wn:J.bj K "parts_of" jE)
    (O6:nsIn K adn "rebuilt"=some (some (.ref YQ)))(TJ:K.lookup YQ=some ⟨abj,abk,.func (fnOf "rebuilt" "rebuilt" (defArgs gG) (defBody gG) (defScope gG) .none abl abm abn abo Wo abp),abq⟩)(TK:codeIn K Wo "rebuilt"=true)(O7:keepIn K (.ref YQ)=true)
    (Wq:J.bj K "spot_by" k_)
    (Ws:J.bj K "stepped" lh)
    (TL:nsIn K adn "formula_by"=some (some (.ref YR)))(TM:K.lookup YR=some ⟨abr,abt,.func (fnOf "formula_by" "formula_by" (defArgs dG) (defBody dG) (defScope dG) .none abu abv abw abx (.ref JG) aby),abz⟩)(Wt:codeIn K (.ref JG) "formula_by"=true)(Wu:keepIn K (.ref YR)=true)
    (TN:nsIn K adn "form_of"=some (some (.ref YS)))(TQ:K.lookup YS=some ⟨abA,abB,.func (fnOf "form_of" "form_of" (defArgs gI) (defBody gI) (defScope gI) .none abC abD abE abF (.ref JH) abG),abH⟩)(Ww:codeIn K (.ref JH) "form_of"=true)(Wx:keepIn K (.ref YS)=true)
    (Wy:J.bj K "copied" ni)
    (Wz:J.bj K "block_changes" eo)
    (WA:J.bj K "law" Ar)
    (z0:nsIn K adn "len"=some none)
    (z1:nsIn K adn "tuple"=some none)
    (z2:nsIn K adn "range"=some none)
    (z3:nsIn K adn "sum"=some none)
    (z4:nsIn K adn "max"=some none)
    (z5:nsIn K adn "min"=some none)
    (z6:nsIn K adn "isinstance"=some none)
    (z7:nsIn K adn "zip"=some none)
    (z8:nsIn K adn "dict"=some none)
    (v0:nsIn K adn "ROWS"=some (some (.int 99 tk0)))
    (v1:nsIn K adn "COLUMNS"=some (some (.int 26 tk1)))
    (v2:nsIn K adn "MOST_PLACES"=some (some (.int 300 tk2)))
    (v3:nsIn K adn "AREA_WORDS"=some (some (.ref ca3)))(w3:K.lookup ca3=some ⟨.type "tuple",abJ,.seq #[.str "sum" YT,.str "count" YU,.str "least" YV,.str "greatest" YW,.str "find" YX] cn3,cs3⟩)
    (WB:nsIn K adn "PART_COUNTS"=some (some (.ref YY)))(WC:K.lookup YY=some ⟨.type "dict",none,.dict #[⟨RZ,.str "num" YZ,.int 0 Y0⟩,⟨R0,.str "text" Y1,.int 0 Y2⟩,⟨R1,.str "lost" Y3,.int 0 Y4⟩,⟨R4,.str "at" Y5,.int 0 Y6⟩,⟨R6,.str "minus" Y7,.int 1 Y8⟩,⟨R7,.str "not" Y9,.int 1 Y_⟩,⟨R9,.str "+" Y',.int 2 Za⟩,⟨R_,.str "-" Zb,.int 2 Zc⟩,⟨Sa,.str "*" Ze,.int 2 Zf⟩,⟨Sb,.str "/" Zg,.int 2 Zh⟩,⟨Of,.str "&" WD,.int 2 WE⟩,⟨Og,.str "<" WG,.int 2 WH⟩,⟨Oh,.str "=" WI,.int 2 WJ⟩,⟨Oi,.str "rest" WK,.int 2 WL⟩,⟨Oj,.str "if" WM,.int 3 WN⟩,⟨Ol,.str "else" WO,.int 2 WQ⟩,⟨Om,.str "sum" WR,.int 0 WS⟩,⟨Oo,.str "count" WT,.int 0 WU⟩,⟨Oq,.str "least" WV,.int 0 WW⟩,⟨Ot,.str "greatest" WX,.int 0 WY⟩,⟨Ou,.str "find" WZ,.int 1 W0⟩] de0,#[]⟩)(W3:(YY == sysModules)=false)(Gg:RZ=hashStr w "num")(Gh:R0=hashStr w "text")(Gi:R1=hashStr w "lost")(Gj:R4=hashStr w "at")(Gk:R6=hashStr w "minus")(Gm:R7=hashStr w "not")(Gn:R9=hashStr w "+")(Gp:R_=hashStr w "-")(Gq:Sa=hashStr w "*")(Gs:Sb=hashStr w "/")(yC:Of=hashStr w "&")(yD:Og=hashStr w "<")(yE:Oh=hashStr w "=")(yF:Oi=hashStr w "rest")(yG:Oj=hashStr w "if")(yH:Ol=hashStr w "else")(yI:Om=hashStr w "sum")(yJ:Oo=hashStr w "count")(yK:Oq=hashStr w "least")(yL:Ot=hashStr w "greatest")(yM:Ou=hashStr w "find")
    (Gu:nsIn K adn "BadArea"=some (some (.ref X0)))(TR:excIn K X0 Cc Cd=true)(W4:findIn K (.ref X0) "__getattribute__"=some (some (.builtin "BaseException.__getattribute__")))(W5:findIn K (.ref X0) "__getattr__"=some none)(W6:findIn K (.ref X0) "__class__"=some (some (.builtin "object.__class__")))
    (Gv:nsIn K adn "BadPlace"=some (some (.ref X1)))(TU:excIn K X1 Cc Cd=true)(W7:findIn K (.ref X1) "__getattribute__"=some (some (.builtin "BaseException.__getattribute__")))(W8:findIn K (.ref X1) "__getattr__"=some none)(W9:findIn K (.ref X1) "__class__"=some (some (.builtin "object.__class__")))
    (Gw:nsIn K adn "NoRoom"=some (some (.ref X2)))(TV:excIn K X2 Cc Cd=true)(W_:findIn K (.ref X2) "__getattribute__"=some (some (.builtin "BaseException.__getattribute__")))(W':findIn K (.ref X2) "__getattr__"=some none)(Xa:findIn K (.ref X2) "__class__"=some (some (.builtin "object.__class__")))
    (Xb:kitOne K (.ref X0) (.ref X0)=some true)
    (Xd:kitOne K (.ref X0) (.ref X1)=some false)
    (Xe:kitOne K (.ref X0) (.ref X2)=some false)
    (Xf:kitOne K (.ref X1) (.ref X0)=some false)
    (Xg:kitOne K (.ref X1) (.ref X1)=some true)
    (Xh:kitOne K (.ref X1) (.ref X2)=some false)
    (Xi:kitOne K (.ref X2) (.ref X0)=some false)
    (Xj:kitOne K (.ref X2) (.ref X1)=some false)
    (Xk:kitOne K (.ref X2) (.ref X2)=some true)
    (Xl:kitOne K (.ref X0) (.type "ValueError")=some true)
    (Xm:kitOne K (.ref X1) (.type "ValueError")=some true)
    (Xn:kitOne K (.ref X2) (.type "ValueError")=some true)
    (Gx:K.lookup JG=some ⟨.type "code",abK,.fields B9,abL⟩)(Gy:B9[11]? =some (.ref vf))(Ov:B9.getD 11 .none= .ref vf)(Ow:B9.getD 18 .none= .str abM abN)(Ox:B9.getD 7 .none= .int Zi abO)(Oy:B9.getD 9 .none= .bool abP)(Oz:B9.getD 10 .none= .int Zj abQ)(OA:JG≠vf)(JJ:K.lookup vf=none)(OB:vf∈ts)
    (Gz:K.lookup JH=some ⟨.type "code",abR,.fields B_,abS⟩)(GB:B_[11]? =some (.ref vg))(OC:B_.getD 11 .none= .ref vg)(OD:B_.getD 18 .none= .str abT abU)(OE:B_.getD 7 .none= .int Zk abV)(OF:B_.getD 9 .none= .bool abW)(OG:B_.getD 10 .none= .int Zl abX)(OH:JH≠vg)(JK:K.lookup vg=none)(OI:vg∈ts)
    (Xo:nsIn K adn "turned"=some none)
    (Xp:nsIn K adn "readied_content"=some none)
    (pQ:vf≠vg) :
    J.Aj K ts/\∃fd:ac7,(∀(s:ada)(u:adb),BindsTo s fd ⟨[u],[]⟩ [("script",u)])/\∀base:Heap,J.jP K mg base->FnOk l.prog w K mg base (CXJ l.prog w) 17 fa fd ["script"] (spW K 1 F_law):=by
  have Sd:tabIn K "formula_by"=some (JG,vf):=by
    unfold tabIn
    rw[TL]
    dsimp only
    rw[TM]
    dsimp only
    rw[Gx]
    dsimp only
    rw[Gy]
  have Se:tabIn K "form_of"=some (JH,vg):=by
    unfold tabIn
    rw[TN]
    dsimp only
    rw[TQ]
    dsimp only
    rw[Gz]
    dsimp only
    rw[GB]
  have Xq:tabIn K "turned"=none:=by
    unfold tabIn
    rw[Xo]
  have Xr:tabIn K "readied_content"=none:=by
    unfold tabIn
    rw[Xp]
  have Sf:J.bD K "formula_by"=some vf:=J.uN Sd JJ
  have Sg:J.bD K "form_of"=some vg:=J.uN Se JK
  have OJ:J.bD K "turned"=none:=by
    unfold J.bD
    rw[Xq]
  have OK:J.bD K "readied_content"=none:=by
    unfold J.bD
    rw[Xr]
  have T:J.Aj K ts:=λq P hq t=>by
    simp only[J.a_,aV,bb,or_false] at hq
    rcases hq with rfl | rfl | rfl | rfl
    · rw[Sg] at t;cases t;exact⟨OI,_,_,_,Gz,rfl,rfl,GB⟩
    · rw[Sf] at t;cases t;exact⟨OB,_,_,_,Gx,rfl,rfl,Gy⟩
    · rw[OJ] at t;cases t
    · rw[OK] at t;cases t
  have U36:∀q,q∈J.a_->J.bD K q=some vf->q="formula_by":=λq hq t=>by
    simp only[J.a_,aV,bb,or_false] at hq
    rcases hq with rfl | rfl | rfl | rfl
    · rw[Sg] at t;cases t;exact absurd rfl pQ
    · rfl
    · rw[OJ] at t;cases t
    · rw[OK] at t;cases t
  have U37:∀q,q∈J.a_->J.bD K q=some vg->q="form_of":=λq hq t=>by
    simp only[J.a_,aV,bb,or_false] at hq
    rcases hq with rfl | rfl | rfl | rfl
    · rfl
    · rw[Sf] at t;cases t;exact absurd rfl pQ
    · rw[OJ] at t;cases t
    · rw[OK] at t;cases t
  have Xs:J.wA K mg "formula_by" vf:=J.Ak (by decide) Sd JJ Gx rfl rfl Gy Ov Ow Ox Oy Oz OA U36
  have Xt:J.wA K mg "form_of" vg:=J.Ak (by decide) Se JK Gz rfl rfl GB OC OD OE OF OG OH U37
  refine⟨T,?_⟩
  refine J.FC X G hfa WA (λ_ _ _ _ _ _ s u=> .of_eq rfl) (λf fd Fu base M=>?_)
  have Z0:=mg_none_of X G z0
  have Z1:=mg_none_of X G z1
  have Z2:=mg_none_of X G z2
  have Z3:=mg_none_of X G z3
  have Z4:=mg_none_of X G z4
  have Z5:=mg_none_of X G z5
  have Z6:=mg_none_of X G z6
  have Z7:=mg_none_of X G z7
  have Z8:=mg_none_of X G z8
  have V0:=mg_of X G v0
  have V1:=mg_of X G v1
  have V2:=mg_of X G v2
  have V3:=mg_of X G v3
  have E0:J.lu K X0:=⟨TR,W4,W5,W6⟩
  have E1:J.lu K X1:=⟨TU,W7,W8,W9⟩
  have E2:J.lu K X2:=⟨TV,W_,W',Xa⟩
  have TB:TabOk K lr n5 FR:=J.NU ⟨⟨X0,X0,Gu,Gu,E0,Xb⟩,⟨X0,X1,Gu,Gv,E0,Xd⟩,⟨X0,X2,Gu,Gw,E0,Xe⟩,⟨X1,X0,Gv,Gu,E1,Xf⟩,⟨X1,X1,Gv,Gv,E1,Xg⟩,⟨X1,X2,Gv,Gw,E1,Xh⟩,⟨X2,X0,Gw,Gu,E2,Xi⟩,⟨X2,X1,Gw,Gv,E2,Xj⟩,⟨X2,X2,Gw,Gw,E2,Xk⟩,trivial⟩ ⟨⟨X0,Gu,E0,Xl⟩,⟨X1,Gv,E1,Xm⟩,⟨X2,Gw,E2,Xn⟩,trivial⟩ trivial
  have H1:J.HB l.prog w K mg 1 "_law_cell_at" 2 bW:=λbase M=>J.hdf X G d1 (J.tk (c:=gL) (k:=0) TB (hb:=⟨Z0,trivial⟩)) pb qW
  have H2:J.HB l.prog w K mg 2 "_law_spot" 1 cI:=λbase M=>J.hdf X G d2 (J.tk (c:=kc) (k:=1) TB ⟨(H1 base M).mo,trivial⟩) uP wG
  have H3:J.HB l.prog w K mg 1 "_law_digit" 2 ao:=λbase M=>J.hdf X G d3 (J.tk (c:=jl) (k:=0) TB) rR uQ
  have H4:J.HB l.prog w K mg 2 "_law_area" 2 bI:=λbase M=>J.hdf X G d4 (J.tk (c:=kf) (k:=1) TB ⟨(H3 base M).mo,trivial⟩) uR wH
  have H5:J.HB l.prog w K mg 2 "_law_pins" 2 bJ:=λbase M=>J.hdf X G d5 (J.tk (c:=kh) (k:=1) TB ⟨(H3 base M).mo,trivial⟩ (hb:=⟨Z1,Z2,trivial⟩)) uS wI
  have H6:J.HB l.prog w K mg 2 "_law_number" 1 dP:=λbase M=>J.hdf X G d6 (J.tk (c:=iF) (k:=1) TB ⟨(H3 base M).mo,trivial⟩) qX rS
  have H7:J.HB l.prog w K mg 2 "_law_place" 2 cL:=λbase M=>J.hdf X G d7 (J.tk (c:=jn) (k:=1) TB ⟨(H3 base M).mo,trivial⟩) rT uT
  have H8:J.HB l.prog w K mg 3 "_law_leaf" 2 eF:=λbase M=>J.hdf X G d8 (J.tk (c:=kj) (k:=2) TB ⟨(H3 base M).mo,(H4 base M).mo,(H5 base M).mo,(H6 base M).mo,(H7 base M).mo,trivial⟩) uU wJ
  have G9:∀base:Heap,J.jP K mg base->∀n:Nat,J.rM l.prog w K mg base (3+n) "_law_formula" 3 (bK n):=λbase M n=>by
    induction n with
    | zero=>exact J.uB (ps:=["row","spot","deep"]) X G d9 (λ_ _ _ _ _ _ us hl=>J.VO us hl λ_ _ _=>rfl)
    | succ n ih=>exact J.hdf X G d9 (J.tk (c:=(kl (bK n))) (k:=(3+n)) TB ⟨(H3 base M).mo,ih,(H8 base M).mo,(H4 base M).mo,(H5 base M).mo,trivial⟩) (pe (bK n)) (qY (bK n))
  have H9:J.HB l.prog w K mg 9 "_law_formula" 3 aH:=λbase M=>(G9 base M 6)
  have DU:J.HB l.prog w K mg 10 "_law_content" 3 cH:=λbase M=>J.hdf X G V6 (J.tk (c:=gN) (k:=9) TB ⟨(H3 base M).mo,(H9 base M).mo,trivial⟩) pf qZ
  have UO:J.HB l.prog w K mg 1 "_law_mixed" 2 ff:=λbase M=>J.hdf X G V7 (J.tk (c:=jq) (k:=0) TB) rV uV
  have Zm:J.HB l.prog w K mg 2 "_law_stream" 2 cq:=λbase M=>J.hdf X G GJ (J.tk (c:=iH) (k:=1) TB ⟨(H1 base M).mo,(UO base M).mo,trivial⟩ (hb:=⟨Z2,Z0,Z3,trivial⟩)) q8 rW
  have H13:J.HB l.prog w K mg 11 "_law_cells" 2 fg:=λbase M=>J.hdf X G OW (J.tk (c:=jr) (k:=10) TB ⟨(H2 base M).mo,(DU base M).mo,(Zm base M).mo,trivial⟩ (hb:=⟨Z2,trivial⟩)) rX uW
  have H14:J.HB l.prog w K mg 2 "_law_target" 2 fI:=λbase M=>J.hdf X G V8 (J.tk (c:=iI) (k:=1) TB ⟨(H3 base M).mo,trivial⟩ (hb:=⟨Z4,Z5,trivial⟩)) q9 rY
  have H15:J.HB l.prog w K mg 1 "_law_led" 4 ft:=λbase M=>J.hdf X G V9 (J.tk (c:=l5) (k:=0) TB (hb:=⟨Z2,Z1,Z0,trivial⟩)) wK yi
  have H16:J.HB l.prog w K mg 1 "_law_fits" 1 bR:=λbase M=>J.hdf X G V_ (J.tk (c:=kq) (k:=0) TB (hb:=⟨Z2,Z0,trivial⟩)) uX wL
  have G17:∀base:Heap,J.jP K mg base->∀n:Nat,J.rM l.prog w K mg base (1+n) "_law_copied" 3 (aC n):=λbase M n=>by
    induction n with
    | zero=>exact J.uB (ps:=["formula","here","there"]) X G TF (λ_ _ _ _ _ _ us hl=>J.VO us hl λ_ _ _=>rfl)
    | succ n ih=>exact J.hdf X G TF (J.tk (c:=(lH (aC n))) (k:=(1+n)) TB ⟨(H15 base M).mo,(H16 base M).mo,ih,trivial⟩ (hb:=⟨Z1,trivial⟩)) (q_ (aC n)) (rZ (aC n))
  have H17:J.HB l.prog w K mg 9 "_law_copied" 3 az:=λbase M=>(G17 base M 8)
  have H18:J.HB l.prog w K mg 10 "_law_due" 3 jz:=λbase M=>J.hdf X G V' (J.tk (c:=l6) (k:=9) TB ⟨(H17 base M).mo,trivial⟩ (hb:=⟨Z2,Z6,Z1,trivial⟩)) wM yj
  have Xu:J.HB l.prog w K mg 1 "is_place" 1 bX:=λbase M=>J.hdf X G Wa (J.tk (c:=l8) (k:=0) TB (hc:=⟨⟨_,V0⟩,⟨_,V1⟩,trivial⟩)) wN yk
  have Zn:J.HB l.prog w K mg 2 "has_corners" 1 cz:=λbase M=>J.hdf X G Wb (J.tk (c:=iL) (k:=1) TB ⟨(Xu base M).mo,trivial⟩) ra r8
  have H21:J.HB l.prog w K mg 1 "area_many" 1 fT:=λbase M=>J.hdf X G Wc (J.tk (c:=kx) (k:=0) TB) uY wO
  have Zo:J.HB l.prog w K mg 3 "is_area" 1 fu:=λbase M=>J.hdf X G Wd (J.tk (c:=n8) (k:=2) TB ⟨(Zn base M).mo,(H21 base M).mo,trivial⟩ (hc:=⟨⟨_,V2⟩,trivial⟩)) ym BW
  have Zp:J.HB l.prog w K mg 4 "made_area" 4 c_:=λbase M=>J.hdf X G OX (J.tk (c:=kA) (k:=3) TB ⟨(Zo base M).mo,trivial⟩ (hk:=⟨⟨X0,mg_of X G Gu,⟨Gu,TR⟩⟩,trivial⟩)) uZ wQ
  have H24:J.HB l.prog w K mg 2 "made_place" 2 fh:=λbase M=>J.hdf X G We (J.tk (c:=jC) (k:=1) TB ⟨(Xu base M).mo,trivial⟩ (hk:=⟨⟨X1,mg_of X G Gv,⟨Gv,TU⟩⟩,trivial⟩)) r9 u0
  have H25:J.HB l.prog w K mg 5 "area_come_to" 2 dc:=λbase M=>J.hdf X G Wf (J.tk (c:=gP) (k:=4) TB ⟨(Zp base M).mo,(H24 base M).mo,(Zn base M).mo,trivial⟩ (hk:=⟨⟨X2,mg_of X G Gw,⟨Gw,TV⟩⟩,trivial⟩)) pg rb
  have H26:J.HB l.prog w K mg 1 "places_between" 1 dF:=λbase M=>J.hdf X G Wg (J.tk (c:=fz) (k:=0) TB (hb:=⟨Z2,trivial⟩)) nh n9
  have H27:J.HB l.prog w K mg 5 "area_places" 1 dR:=λbase M=>J.hdf X G Wh (J.tk (c:=iM) (k:=4) TB ⟨(H26 base M).mo,(Zp base M).mo,trivial⟩) rf r_
  have H28:J.HB l.prog w K mg 1 "has_formula" 2 bG:=λbase M=>J.hdf X G Wi (J.tk (c:=iO) (k:=0) TB (hb:=⟨Z6,Z1,trivial⟩)) rh sf
  have Zq:J.HB l.prog w K mg 1 "part_many" 1 dh:=λbase M=>J.hdf X G Wj (J.tk (c:=kD) (k:=0) TB (hd:=⟨⟨_,_,_,mg_of X G WB,WC,W3,⟨⟨Gg,⟨_,rfl⟩,⟨_,rfl⟩⟩,⟨Gh,⟨_,rfl⟩,⟨_,rfl⟩⟩,⟨Gi,⟨_,rfl⟩,⟨_,rfl⟩⟩,⟨Gj,⟨_,rfl⟩,⟨_,rfl⟩⟩,⟨Gk,⟨_,rfl⟩,⟨_,rfl⟩⟩,⟨Gm,⟨_,rfl⟩,⟨_,rfl⟩⟩,⟨Gn,⟨_,rfl⟩,⟨_,rfl⟩⟩,⟨Gp,⟨_,rfl⟩,⟨_,rfl⟩⟩,⟨Gq,⟨_,rfl⟩,⟨_,rfl⟩⟩,⟨Gs,⟨_,rfl⟩,⟨_,rfl⟩⟩,⟨yC,⟨_,rfl⟩,⟨_,rfl⟩⟩,⟨yD,⟨_,rfl⟩,⟨_,rfl⟩⟩,⟨yE,⟨_,rfl⟩,⟨_,rfl⟩⟩,⟨yF,⟨_,rfl⟩,⟨_,rfl⟩⟩,⟨yG,⟨_,rfl⟩,⟨_,rfl⟩⟩,⟨yH,⟨_,rfl⟩,⟨_,rfl⟩⟩,⟨yI,⟨_,rfl⟩,⟨_,rfl⟩⟩,⟨yJ,⟨_,rfl⟩,⟨_,rfl⟩⟩,⟨yK,⟨_,rfl⟩,⟨_,rfl⟩⟩,⟨yL,⟨_,rfl⟩,⟨_,rfl⟩⟩,⟨yM,⟨_,rfl⟩,⟨_,rfl⟩⟩,trivial⟩,by decide+kernel⟩,trivial⟩)) u5 wR
  have H30:J.HB l.prog w K mg 2 "tail_of" 1 eG:=λbase M=>J.hdf X G Wl (J.tk (c:=og) (k:=1) TB ⟨(Zq base M).mo,trivial⟩) yn BX
  have H31:J.HB l.prog w K mg 1 "has_area" 1 fA:=λbase M=>J.hdf X G Wm (J.tk (c:=l_) (k:=0) TB (hc:=⟨⟨_,[.str "sum",.str "count",.str "least",.str "greatest",.str "find"],_,_,_,V3,w3,rfl,rfl,(show(5:Nat)<=ado by decide),(.cons ⟨_,rfl⟩ (.cons ⟨_,rfl⟩ (.cons ⟨_,rfl⟩ (.cons ⟨_,rfl⟩ (.cons ⟨_,rfl⟩ .nil))))),⟨⟨rfl,by decide+kernel⟩,⟨⟨rfl,by decide+kernel⟩,⟨⟨rfl,by decide+kernel⟩,⟨⟨rfl,by decide+kernel⟩,⟨⟨rfl,by decide+kernel⟩,trivial⟩⟩⟩⟩⟩⟩,trivial⟩)) wU yo
  have H32:J.HB l.prog w K mg 2 "parts_of" 1 di:=λbase M=>J.hdf X G Wn (J.tk (c:=md) (k:=1) TB ⟨(Zq base M).mo,trivial⟩) wV yp
  have Zr:∀base:Heap,J.jP K mg base->∀(p:Lm)(L:LF),J.qD l.prog w K mg base 5 p 3 L->∀n:Nat,J.rM l.prog w K mg base (5+n) "rebuilt" 2 (bw p L n):=λbase M p L HL n=>by
    induction n with
    | zero=>exact J.uB (ps:=["formula","goes"]) X G (J.lP O6 TJ TK O7) (λ_ _ _ _ _ _ us hl=>J.ln2 us hl λ_ _=>rfl)
    | succ n ih=>exact J.hdf X G (J.lP O6 TJ TK O7) (J.tk (c:=(tw p L (bw p L n))) (k:=(5+n)) TB ⟨(H30 base M).mo,(H31 base M).mo,ih,(H32 base M).mo,trivial⟩ (hb:=⟨Z1,trivial⟩) (hx:=J.FD rfl (HL.mono (by omega)) rfl rfl rfl)) (yq p L (bw p L n)) (BY p L (bw p L n))
  have Zs:J.HB l.prog w K mg 4 "spot_by" 1 iZ:=λbase M=>J.hdf X G Wq (J.tk (c:=oi) (k:=3) TB ⟨(Xu base M).mo,(Zo base M).mo,trivial⟩ (hb:=⟨Z0,trivial⟩)) yt BZ
  have TX:J.HB l.prog w K mg 1 "stepped" 3 eI:=λbase M=>J.hdf X G Ws (J.tk (c:=oo) (k:=0) TB (hb:=⟨Z1,Z7,trivial⟩)) yu B1
  have H36:J.HB l.prog w K mg 14 "formula_by" 2 fj:=λbase M=>J.hdf X G (J.lP TL TM Wt Wu) (J.tk (c:=jG) (k:=13) TB ⟨(Zs base M).mo,(TX base M).mo,trivial⟩ (hx:=J.Al rfl ⟨⟨⟨_,mg_of X G O6,O7⟩,λbase p L M HL=>(Zr base M p L HL 8).mono (by decide)⟩,trivial⟩ ⟨(λ_ _ e base M=>by cases e;exact(Zs base M).mono (by decide)),(λ_ _ e base M=>by cases e;exact(TX base M).mono (by decide)),trivial⟩ (λ_=>⟨_,Xs⟩))) sg u6 (λ_=>⟨M,rfl⟩)
  have H37:J.HB l.prog w K mg 14 "form_of" 2 i5:=λbase M=>J.hdf X G (J.lP TN TQ Ww Wx) (J.tk (c:=ou) (k:=13) TB ⟨(TX base M).mo,trivial⟩ (hx:=J.Al rfl ⟨⟨⟨_,mg_of X G O6,O7⟩,λbase p L M HL=>(Zr base M p L HL 8).mono (by decide)⟩,trivial⟩ ⟨(λ_ _ e base M=>by cases e;exact(TX base M).mono (by decide)),trivial⟩ (λ_=>⟨_,Xt⟩))) yv B2 (λ_=>⟨M,rfl⟩)
  have H38:J.HB l.prog w K mg 15 "copied" 3 gR:=λbase M=>J.hdf X G Wy (J.tk (c:=rn) (k:=14) TB ⟨(H36 base M).mo,(H37 base M).mo,trivial⟩) B3 FT
  have H39:J.HB l.prog w K mg 16 "block_changes" 3 cS:=λbase M=>J.hdf X G Wz (J.tk (c:=fY) (k:=15) TB ⟨(H25 base M).mo,(H27 base M).mo,(H28 base M).mo,(H38 base M).mo,trivial⟩ (hb:=⟨Z7,trivial⟩)) oy ph
  exact J.NT Fu (J.wC (c:=FU) (k:=16) trivial ⟨Z2,Z8,Z4,Z5,Z6,trivial⟩ ⟨(H13 base M).mono (by decide),(H2 base M).mono (by decide),(Zm base M).mono (by decide),(H4 base M).mono (by decide),(H14 base M).mono (by decide),(H18 base M).mono (by decide),(H39 base M).mono (by decide),trivial⟩ TB trivial trivial trivial) N0 rfl RG
end K59
open PySem PySem.W PyProof.Rows
set_option maxRecDepth 100000 in
set_option maxHeartbeats 0 in
theorem PySem.Challenge.cw_onelook_k59_blocks_copied_holds : PySem.Challenge.rw_onelook_k59_blocks_copied.Holds := by
  refine K59.head ?_
  k_fill
  refine J.walk_ofT (l:=PySem.Challenge.rw_onelook_k59_blocks_copied) (n:=63) (k:=17) (x:="script") (CX:=fun w => J.CXJ PySem.Challenge.rw_onelook_k59_blocks_copied.prog w) (sp:=fun w => J.spW _ 1 K59.F_law) rfl (by decide) rfl ⟨rfl,by decide,by decide⟩ (fun w h Y => ⟨PySem.W.km_in_of Y,PySem.W.km_tabs_of Y⟩) ?F (fun w H a ns hl hO hS hT => J.law_sp K59.law_true H a ns hl hO hS hT) (fun _ _ _ _ _ z => z.elim fun _ y => y.elim fun _ x => x.2)
  case F=>
    intro w mg fa h KX G hmg
    refine' K59.all_mk KX G hmg ?d1 ?d2 ?d3 ?d4 ?d5 ?d6 ?d7 ?d8 ?d9 ?V6 ?V7 ?GJ ?OW ?V8 ?V9 ?V_ ?TF ?V' ?Wa ?Wb ?Wc ?Wd ?OX ?We ?Wf ?Wg ?Wh ?Wi ?Wj ?Wl ?Wm ?Wn ?O6 ?TJ ?TK ?O7 ?Wq ?Ws ?TL ?TM ?Wt ?Wu ?TN ?TQ ?Ww ?Wx ?Wy ?Wz ?WA ?z0 ?z1 ?z2 ?z3 ?z4 ?z5 ?z6 ?z7 ?z8 ?v0 ?v1 ?v2 ?v3 ?w3 ?WB ?WC ?W3 ?Gg ?Gh ?Gi ?Gj ?Gk ?Gm ?Gn ?Gp ?Gq ?Gs ?yC ?yD ?yE ?yF ?yG ?yH ?yI ?yJ ?yK ?yL ?yM ?Gu ?TR ?W4 ?W5 ?W6 ?Gv ?TU ?W7 ?W8 ?W9 ?Gw ?TV ?W_ ?W' ?Xa ?Xb ?Xd ?Xe ?Xf ?Xg ?Xh ?Xi ?Xj ?Xk ?Xl ?Xm ?Xn ?Gx ?Gy ?Ov ?Ow ?Ox ?Oy ?Oz ?OA ?JJ ?OB ?Gz ?GB ?OC ?OD ?OE ?OF ?OG ?OH ?JK ?OI ?Xo ?Xp ?pQ
    case d1 | d2 | d3 | d4 | d5 | d6 | d7 | d8 | d9 | V6 | V7 | GJ | OW | V8 | V9 | V_ | TF | V' | Wa | Wb | Wc | Wd | OX | We | Wf | Wg | Wh | Wi | Wj | Wl | Wm | Wn=>refine' J.lP ?a ?l ?c ?k;(case a=>k_is);(case l=>k_is);(case c=>k_is);(case k=>k_is)
    case O6 | TJ | TK | O7=>k_is
    case Wq | Ws=>refine' J.lP ?a ?l ?c ?k;(case a=>k_is);(case l=>k_is);(case c=>k_is);(case k=>k_is)
    case TL | TM | Wt | Wu | TN | TQ | Ww | Wx=>k_is
    case Wy | Wz | WA=>refine' J.lP ?a ?l ?c ?k;(case a=>k_is);(case l=>k_is);(case c=>k_is);(case k=>k_is)
    case z0 | z1 | z2 | z3 | z4 | z5 | z6 | z7 | z8 | v0 | v1 | v2 | v3 | w3 | WB | WC=>k_is
    case W3 | Gg | Gh | Gi | Gj | Gk | Gm | Gn | Gp | Gq | Gs | yC | yD | yE | yF | yG | yH | yI | yJ | yK | yL | yM=>rfl
    case Gu=>k_is
    case TR=>k_exc
    case W4 | W5 | W6 | Gv=>k_is
    case TU=>k_exc
    case W7 | W8 | W9 | Gw=>k_is
    case TV=>k_exc
    case W_ | W' | Xa=>k_is
    case Xb | Xd | Xe | Xf | Xg | Xh | Xi | Xj | Xk | Xl | Xm | Xn=>kit_is
    case Gx=>k_is
    case Gy | Ov | Ow | Ox | Oy | Oz=>rfl
    case OA=>decide
    case JJ=>rfl
    case OB=>decide
    case Gz=>k_is
    case GB | OC | OD | OE | OF | OG=>rfl
    case OH=>decide
    case JK=>rfl
    case OI=>decide
    case Xo | Xp=>k_is
    case pQ=>decide
