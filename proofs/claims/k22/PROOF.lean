import PyProof.Rows.All
import Wide.All
import OpenK.AllK
import Wide.FinOn
import Lean
import PyProof.EqAt
import PyProof.EqKinds
import PyProof.TupleCall
import PySem.Challenge.RW_onelook_k22_sheets_made
open Array renaming all_eq_true_iff_forall_mem→Tw,getD→Bj,getD_eq_getD_getElem?→T7,getElem?_eq_getElem→Gg,getElem?_eq_none→T9,isEmpty→Mx,length_toList→AM
open Bool renaming and_eq_true→dZ,false_and→AN,false_eq_true→iI,false_ne_true→bt,not_false→wg,not_true→sy,or_eq_true→Fx,true_and→Ab
open PySem.Builtin.Dict renaming addKeywords→PJ,dictSlotArgs→Ac,keyAndDefault→Py,merge→PD,mergeDict→PH,noArgs→PK,readDirectly→PF,samePairs→PX,selfAndRest→PB,showsAll→vZ,takeOut→Pz,updateFrom→zY
open PySem.Builtin.Dict_items renaming ownedTupleFields→PL,ownedTupleIsFree→PN,ownsTuple→v8,pairFromOwner→PM
open PySem.Builtin.List renaming listFitsIndex→Ae,listTooLong→rG
open PySem.Builtin.Range renaming rangeSize→vp,small→Pk
open PySem.Builtin.Slice renaming sliceAdjust→EC,sliceApplied→NX,slicePlaces→zp
open PySem.Builtin.Str renaming occurrences→zi
open PySem.Builtin.Tuple renaming tupleExact→zq,tupleHashOf→PQ,tupleIsExact→O5,tupleItemsOf→NY
open PySem.Builtin renaming divisionGoesByPylong→Pl
open PySem.Calls renaming Name_function_global→Np,callWith_builtin→jH,call_function_entry→Pc,evalArgs_plain→mQ,spliced_cons→i5,spliced_nil→o_
open Classical renaming propDecidable→FQ
open PySem.EntryCells renaming newEntry→Ol
open PySem.F renaming typeOf_object_class→FV
open False renaming elim→aa
open ForInStep renaming yield→rQ
open PySem.Heap renaming MadeExcOf→E_,SameBut→fT,get?_push_of_some→aS,get?_push_size→br,get?_update_other→rD,get?_update_self→mP,lt_size→aK,size_push→GV
open PySem.Heap.SameBut renaming update→jb
open Int renaming fdiv_eq_ediv_of_nonneg→QO,fmod_eq_emod_of_nonneg→QP,fmod_lt_of_pos→nI,fmod_nonneg_of_pos→lB,le_refl→zI,toNat_natCast→zT
open List renaming all_cons→fb,all_eq_true→m7,any_cons→fU,append_assoc→kF,append_nil→mO,contains_cons→FW,drop_eq_getElem_cons→pv,drop_length→rP,drop_of_length_le→Gf,drop_sublist→Ge,drop_zero→kK,eq_nil_of_length_eq_zero→Fn,eraseIdx_cons_succ→GP,ext_getElem?→Gw,filterMap_cons→vi,filter_cons→fV,find?_cons→pf,flatten_cons→rE,foldl_cons→EH,getD_eq_getElem?_getD→OZ,getElem?_append_left→gX,getElem?_append_right→pe,getElem?_cons_succ→QF,getElem?_cons_zero→QE,getElem?_eq_getElem→cu,getElem?_eq_none→Pe,getElem?_map→dQ,getElem?_replicate→NV,getElem?_set_ne→bw,getElem?_set_self→oY,getElem?_toArray→Ku,length→b7,length_append→cS,length_cons→n_,length_drop→lN,length_filter_le→vH,length_map→bb,length_take→lM,lookup_cons→iJ,map→oV,map_append→gR,map_cons→aB,map_map→iM,mem_append_left→nR,mem_append_right→eB,mem_cons→mf,mem_cons_of_mem→aI,mem_cons_self→aQ,mem_of_getElem?→vw,nodup_append→Cb,nodup_nil→oe,not_mem_nil→oO,of_mem_zip→AO,pairwise_append→vU,pairwise_cons→vX,pairwise_iff_getElem→Be,pairwise_map→Bo,perm_append_comm→Kw,range→gq,replicate→aC,replicate_succ→gy,size_toArray→aP,take_append_drop→Bc,take_of_length_le→oB,take_sublist→AQ
open PySem.NameKind renaming cell→qS,free→dM
open Nat renaming le_add_left→Bd,le_of_eq→nX,le_of_lt→vh,le_refl→ao,le_succ→vY,le_trans→ba,lt_irrefl→cK,lt_of_lt_of_le→bC,min_le_right→AR,ne_of_lt→bh,sub_eq_zero_of_le→Kx,sub_self→vL,succ_le_succ→vO,zero_add→Cc,zero_le→bJ
open Ne renaming symm→bI
open PySem.Obj renaming data_mapDictKeys→l8,data_mapFields→qO,isFreed_of_dict→we,isFreed_of_fields→A0,mapFields→jJ,mapSeq→df
open Option renaming isNone_none→K4,isNone_some→K5,map_some→nP
open Or renaming inr→lP
open PUnit renaming unit→qX
open PySem.PassesOwn renaming leaving→LH
open Prod renaming ext→vx
open PySem.PyData renaming canLayAll0→A5,depthAll→om,eqv→aT,eqvAll→gQ,list→vP,strOk→bo,tuple→qP
open PyProof.Rows renaming callWith_type1→vq,intBits_le→LP,slot_tuple_getitem→vy,Keyed→afm,SortSt→afn
open PySem.SeqAt.EqAt renaming int_str→Jh,str_int→Ji
open PySem.Shared renaming TypeIs→l9
open Std.Legacy.Range renaming forIn_eq_forIn_range'→K7
open PySem.Str renaming ofString→jG
open Sum renaming inl→fq,inr→lD
open True renaming intro→jI
open PySem.Txt renaming slice→lZ
open PySem.Value renaming bool→qL,builtin→jM,int→nM,none→a_,ref→ax,str→lE,type→lI
open PySem renaming Addr→aeU,Around→aeV,FuncData→aeW,NameKind→aeX,Program→aeY,Shared→aeZ,Value→ae0,World→ae1,behindInMarks→ae2,binaryOp→ae3,bootBuiltins→ae4,codeAny→ae5,compPost→ae6,compareOp→ae7,foldedSetIterable→ae8,isSubtype_type→ae9,mainGlobals→afa,sizeLine→afb,starEach→afc,wpAny→afd,wpAny_bind→afe,wpAny_dictEntries→aff,wpAny_holding→afg,wpAny_mono→afh,wpAny_newList→afi,wpAny_newObj_type→afj,wpAny_pure→afk,wpAny_truthy_bool→afl
noncomputable section
set_option Elab.async false
set_option linter.all false
set_option maxRecDepth 100000
namespace L2
open PySem PySem.Spec PyProof.Rows
abbrev Key:=Sum Int Str
def uo:Key->ae0->Bool
 | .inl k,v=>Value.isInt k v
 | .inr x,v=>Value.isStrOf x v
def WU(w:ae1):Key->Int
 | .inl k=>hashInt k
 | .inr x=>hashStr w x
theorem bZ:∀{k:Key}{v:ae0},uo k v=true->(∃i t,k=fq i/\v=nM i t)\/(∃x t,k=lD x/\v=lE x t)
 | .inl i,v,h=>by
  obtain⟨t,e⟩:=Value.isInt_shape (k:=i) (v:=v) h
  exact .inl ⟨i,t,rfl,e⟩
 | .inr x,v,h=>by
  obtain⟨t,e⟩:=Value.isStrOf_shape (x:=x) (v:=v) h
  exact .inr ⟨x,t,rfl,e⟩
theorem Cv(i:Int)(t:Tok):uo (.inl i) (.int i t)=true:=by simp[uo,Value.isInt]
theorem Cw(x:Str)(t:Tok):uo (.inr x) (.str x t)=true:=by simp[uo,Value.isStrOf]
theorem Nb(a b:Int):decide ((fq a:Key)=fq b)=(a == b):=by
 by_cases e:a=b
 ·subst e;simp
 ·have h:¬(fq a:Key)=fq b:=λq=>e (Sum.inl.inj q)
  rw[decide_eq_false h]
  exact(beq_eq_false_iff_ne.mpr e).symm
theorem Nc(a b:Str):decide ((lD a:Key)=lD b)=decide (a=b):=by
 by_cases e:a=b
 ·subst e;simp
 ·have h:¬(lD a:Key)=lD b:=λq=>e (Sum.inr.inj q)
  rw[decide_eq_false h,decide_eq_false e]
theorem Nd(a:Int)(b:Str):decide ((fq a:Key)=lD b)=false:=decide_eq_false (λq=>nomatch q)
theorem Nf(a:Str)(b:Int):decide ((lD a:Key)=fq b)=false:=decide_eq_false (λq=>nomatch q)
def aR(prog:aeY)(w:ae1):PySem.KeyKind prog w Key where
 is:=uo
 hash:=WU w
 inj:=λv a b ha hb=>by
  rcases bZ ha with ⟨i,t,rfl,rfl⟩ | ⟨x,t,rfl,rfl⟩
  ·rcases bZ hb with ⟨j,u,rfl,e⟩ | ⟨y,u,rfl,e⟩
   ·injection e with e1 _;rw[e1]
   ·exact nomatch e
  ·rcases bZ hb with ⟨j,u,rfl,e⟩ | ⟨y,u,rfl,e⟩
   ·exact nomatch e
   ·injection e with e1 _;rw[e1]
 byValue:=λk v h=>by
  rcases bZ h with ⟨i,t,rfl,rfl⟩ | ⟨x,t,rfl,rfl⟩<;>rfl
 pyHash:=λhv h=>by
  rcases bZ hv with ⟨i,t,rfl,rfl⟩ | ⟨x,t,rfl,rfl⟩
  ·exact wpAny_pyHash_int h
  ·exact wpAny_pyHash_str h
 eqBool:=λhu hv h=>by
  rcases bZ hu with ⟨i,t,rfl,rfl⟩ | ⟨x,t,rfl,rfl⟩
  ·rcases bZ hv with ⟨j,u,rfl,rfl⟩ | ⟨y,u,rfl,rfl⟩
   ·rw[Nb] at h;exact wpAny_eqBool_int h
   ·rw[Nd] at h;exact Jh i t y u _ _ _ _ h
  ·rcases bZ hv with ⟨j,u,rfl,rfl⟩ | ⟨y,u,rfl,rfl⟩
   ·rw[Nf] at h;exact Ji x t j u _ _ _ _ h
   ·rw[Nc] at h;exact wpAny_eqBool_str h
 «strs»:=λk x t v h=>by
  rcases bZ h with ⟨i,u,rfl,e⟩ | ⟨y,u,rfl,e⟩
  ·exact nomatch e
  ·injection e with e1 _
   subst e1
   cases v<;>rfl
theorem xg(prog:aeY)(w:ae1)(i:Int)(t:Tok):(aR prog w).is (.inl i) (.int i t)=true:=Cv i t
theorem xh(prog:aeY)(w:ae1)(x:Str)(t:Tok):(aR prog w).is (.inr x) (.str x t)=true:=Cw x t
inductive V where
 | aZ | bl (b:Bool) | int (i:Int) | str (x:Str) | RD (b:Array UInt8) | VC (b:UInt64) | ref (a:aeU) | ty (n:String)
 deriving DecidableEq
def RelV:V->ae0->Prop
 | .aZ,u=>u=a_
 | .bl b,u=>u=qL b
 | .int i,u=>∃t,u=nM i t
 | .str x,u=>∃t,u=lE x t
 | .RD b,u=>∃t,u=Value.bytes b t
 | .VC b,u=>∃t,u=Value.float b t
 | .ref a,u=>u=ax a
 | .ty n,u=>u=lI n
abbrev Vals:List V->List ae0->Prop:=Paired RelV
theorem Vals.length{xs:List V}{us:List ae0}(r:Vals xs us):xs.length=us.length:=Paired.length r
theorem Vals.get:∀{xs:List V}{us:List ae0}{i:Nat}{x:V},Vals xs us->xs[i]? =some x->∃u,us[i]? =some u/\RelV x u
 | _,_,_,_,.nil,e=>by simp at e
 | _,_,0,_,.cons r _,e=>by simp at e;subst e;exact⟨_,rfl,r⟩
 | _,_,i+1,x,.cons _ t,e=>by
  obtain⟨u,h1,h2⟩:=Vals.get (i:=i) (x:=x) t (by simpa using e)
  exact⟨u,by simpa using h1,h2⟩
theorem Vals.set{x:V}{u:ae0}(r:RelV x u):∀{xs:List V}{us:List ae0}(i:Nat),Vals xs us->Vals (xs.set i x) (us.set i u)
 | _,_,_,.nil=> .nil
 | _,_,0,.cons _ t=> .cons r t
 | _,_,i+1,.cons q t=> .cons q (Vals.set r i t)
theorem Vals.append:∀{xs ys:List V}{us ws:List ae0},Vals xs us->Vals ys ws->Vals (xs++ys) (us++ws)
 | _,_,_,_,.nil,s=>s
 | _,_,_,_,.cons r t,s=> .cons r (Vals.append t s)
theorem Vals.take:∀{xs:List V}{us:List ae0}(n:Nat),Vals xs us->Vals (xs.take n) (us.take n)
 | _,_,0,_=> .nil
 | _,_,_+1,.nil=> .nil
 | _,_,n+1,.cons r t=> .cons r (Vals.take n t)
theorem Vals.drop:∀{xs:List V}{us:List ae0}(n:Nat),Vals xs us->Vals (xs.drop n) (us.drop n)
 | _,_,0,r=>r
 | _,_,_+1,.nil=> .nil
 | _,_,n+1,.cons _ t=>Vals.drop n t
def nN:Option V->Option ae0->Prop
 | some v,some u=>RelV v u
 | none,none=>True
 | _,_=>False
def KV{κ:Type}:List (κ×V)->List (κ×ae0)->Prop:=Paired λ(p:κ×V)(q:κ×ae0)=>p.1=q.1/\RelV p.2 q.2
def kV:Key->V
 | .inl i=> .int i
 | .inr x=> .str x
inductive HO where
  | lst (xs:List V)
  | tup (xs:List V)
  | dK (kvs:List (Key×V)) | dT (kvs:List (List Key×V))
  | set (S:Int->Bool) (n:Nat)
  | ins (C dx:aeU) (fs:List (Str×V))
  | own (x:aeU)
  | xd (fs:List (Str×V))
  | met (f x:aeU)
  | VD (lo hi:Int)
  | dY (o:Obj) (u:HO)
  | jC (ps:Array ae0)
  | ext (φ:Heap->Prop)
abbrev Hp:=aeU->Option HO
def upd(H:Hp)(a:aeU)(o:HO):Hp:=λb=>if b=a then some o else H b
theorem aF{H:Hp}{a:aeU}{o:HO}:upd H a o a=some o:=by unfold upd;rw[if_pos rfl]
theorem au{H:Hp}{a b:aeU}{o:HO}(h:b≠a):upd H a o b=H b:=by unfold upd;rw[if_neg h]
theorem AJ{H:Hp}{a b:aeU}{o u:HO}(h:H a=some o)(h':H b=some u)(d:o≠u):a≠b:=by
 intro e;subst e;rw[h] at h';exact d (Option.some.inj h')
theorem bg{H:Hp}{a b:aeU}{o:HO}(h:H a=some o)(h':H b=none):a≠b:=by
 intro e;subst e;rw[h] at h';cases h'
def ze(h:Heap)(a:aeU):Prop:=∀o,h.get? a=some o->o.dict=none
theorem ze.new(h:Heap)(us:Array ae0):ze (h.push { cls:=.type "tuple",data:=.seq us }) h.objs.size:=λo q=>by
 rw[br _ rfl] at q
 cases q
 rfl
section
variable (P:aeY) (w:ae1)
def cH(H:Hp)(h:Heap)(a:aeU):HO->Prop
 | .lst xs=>xs.length<=afb/\∃(its:List ae0)(n:Nat),Vals xs its/\h.get? a=some { cls:=.type "list",data:=.seq its.toArray n }
 | .tup xs=>xs.length<=afb/\∃its:List ae0,Vals xs its/\IsTup h a its.toArray/\ze h a
 | .dK kvs=>kvs.length<=afb/\(a == sysModules)=false/\∃vs,KV kvs vs/\h.DictOf (aR P w) a vs
 | .dT kvs=>kvs.length<=afb/\(a == sysModules)=false/\∃xs:List (List Key×aeU×ae0),
   Paired (λ(p:List Key×V)(q:List Key×aeU×ae0)=>p.1=q.1/\H q.2.1=some (.tup (p.1.map kV))/\RelV p.2 q.2.2) kvs xs/\
   ∃o es ep,h.get? a=some o/\o.ExactDict/\o.data= .dict es ep/\es.toList=xs.map (entryOfKey (tupleKind (aR P w)))/\(xs.map (·.1)).Nodup
 | .set S n=>h.SetOf (intKind P w) a S n
 | .ins C dx fs=>H dx=some (.own a)/\fs.length<=1000/\dx≠a/\h.get? a=some (PySem.W.instObj C dx)/\
   ∃mA,h.Ns1 dx mA/\(∀f,nN (fs.lookup f) (mA f))/\PySem.Within mA (fs.map (·.1))
 | .own _=>∃o,h.get? a=some o
 | .xd fs=>∃mA,h.Ns1 a mA/\∀f,nN (fs.lookup f) (mA f)
 | .VD lo hi=>∃t u v,h.get? a=some { cls:=.type "range",data:=.fields #[.int lo t,.int hi u,.int 1 v] }
 | .dY o u=>h.get? a=some o/\cH H h a u
 | .jC ps=>h.get? a=some { cls:=.none,data:=.fields ps }
 | .met f x=>h.get? a=some (PySem.W.methodObj (.ref f) (.ref x))
 | .ext φ=>φ h/\(∃o,h.get? a=some o)/\∀h1 h2:Heap,φ h1->(∀o,h1.get? a=some o->h2.get? a=some o)->φ h2
def kA(H:Hp)(h:Heap):Prop:=∀a o,H a=some o->cH P w H h a o
end
section
variable {P:aeY} {w:ae1} {H H':Hp} {h h':Heap} {a:aeU} {o:HO}
theorem cH.lt(x:cH P w H h a o):a < h.objs.size:=by
 cases o with
 | lst xs=>obtain⟨_,_,_,_,e⟩:=x;exact aK e
 | tup xs=>obtain⟨_,_,_,p,_⟩:=x;exact p.lt
 | dK kvs=>obtain⟨_,_,_,_,o,_,_,e,_⟩:=x;exact aK e
 | dT kvs=>obtain⟨_,_,_,_,o,_,_,e,_⟩:=x;exact aK e
 | set S n=>obtain⟨o,_,_,_,e,_⟩:=x;exact aK e
 | ins C dx fs=>obtain⟨_,_,_,e,_⟩:=x;exact aK e
 | own y=>obtain⟨_,e⟩:=x;exact aK e
 | xd fs=>obtain⟨_,⟨_,_,_,e,_⟩,_⟩:=x;exact aK e
 | VD lo hi=>obtain⟨_,_,_,e⟩:=x;exact aK e
 | dY ob u=>obtain⟨e,_⟩:=x;exact aK e
 | jC ps=>exact aK (show h.get? a=some _ from x)
 | met f y=>exact aK (show h.get? a=some _ from x)
 | ext φ=>obtain⟨_,⟨_,e⟩,_⟩:=x;exact aK e
theorem Paired.Ng{α β:Type}{F G:α->β->Prop}:∀{l₁:List α}{l₂:List β},Paired F l₁ l₂->(∀a b,F a b->G a b)->Paired G l₁ l₂
 | _,_,.nil,_=> .nil
 | _,_,.cons r t,f=> .cons (f _ _ r) (Paired.Ng t f)
theorem cH.stay(x:cH P w H h a o)(k:∀b u,(b=a\/H b=some (.own a))->h.get? b=some u->h'.get? b=some u)
  (ho:∀b,H b=some (.own a)->H' b=some (.own a))(ht:∀b xs,H b=some (.tup xs)->H' b=some (.tup xs)):cH P w H' h' a o:=by
 induction o with
 | lst xs=>obtain⟨z,its,n,r,e⟩:=x;exact⟨z,its,n,r,k _ _ (.inl rfl) e⟩
 | tup xs=>obtain⟨z,us,r,⟨ob,e,c⟩,nd⟩:=x;exact⟨z,us,r,⟨ob,k _ _ (.inl rfl) e,c⟩,λo q=>by rw[k _ _ (.inl rfl) e] at q;cases q;exact nd _ e⟩
 | dK kvs=>obtain⟨z,y,vs,r,ob,es,ep,e,c⟩:=x;exact⟨z,y,vs,r,ob,es,ep,k _ _ (.inl rfl) e,c⟩
 | dT kvs=>
  obtain⟨z,y,xs,r,ob,es,ep,e,c⟩:=x
  exact⟨z,y,xs,Paired.Ng r λp q z=>⟨z.1,ht _ _ z.2.1,z.2.2⟩,ob,es,ep,k _ _ (.inl rfl) e,c⟩
 | set S n=>obtain⟨ob,es,ep,t,e,c⟩:=x;exact⟨ob,es,ep,t,k _ _ (.inl rfl) e,c⟩
 | ins C dx fs=>
  obtain⟨d,z,ne,e,mA,⟨od,es,ep,e2,c⟩,r⟩:=x
  exact⟨ho _ d,z,ne,k _ _ (.inl rfl) e,mA,⟨od,es,ep,k _ _ (.inr d) e2,c⟩,r⟩
 | own y=>obtain⟨ob,e⟩:=x;exact⟨ob,k _ _ (.inl rfl) e⟩
 | xd fs=>obtain⟨mA,⟨od,es,ep,e,c⟩,r⟩:=x;exact⟨mA,⟨od,es,ep,k _ _ (.inl rfl) e,c⟩,r⟩
 | VD lo hi=>obtain⟨t,u,v,e⟩:=x;exact⟨t,u,v,k _ _ (.inl rfl) e⟩
 | dY ob u ih=>obtain⟨e,q⟩:=x;exact⟨k _ _ (.inl rfl) e,ih q⟩
 | jC ps=>
  have e:h.get? a=some { cls:=.none,data:=.fields ps }:=x
  show h'.get? a=some { cls:=.none,data:=.fields ps }
  exact k a _ (.inl rfl) e
 | met f y=>
  have e:h.get? a=some (PySem.W.methodObj (.ref f) (.ref y)):=x
  show h'.get? a=some (PySem.W.methodObj (.ref f) (.ref y))
  exact k a _ (.inl rfl) e
 | ext φ=>obtain⟨p,⟨o,e⟩,st⟩:=x;exact⟨st _ _ p λo q=>k _ _ (.inl rfl) q,⟨o,k _ _ (.inl rfl) e⟩,st⟩
theorem kA.lt(x:kA P w H h)(e:H a=some o):a < h.objs.size:=(x a o e).lt
theorem kA.fresh(x:kA P w H h)(e:h.objs.size<=a):H a=none:=by
 cases q:H a with
 | none=>rfl
 | some u=>exact absurd (bC (x.lt q) e) (cK _)
theorem kA.kept(x:kA P w H h)(k:∀b u,h.get? b=some u->h'.get? b=some u):kA P w H h':=λa o e=>
 (x a o e).stay (λb u _ q=>k b u q) (λ_ q=>q) λ_ _ q=>q
theorem kA.laid(x:kA P w H h)(k:∀b u,h.get? b=some u->h'.get? b=some u)(hp:h.objs.size<=a)(new:cH P w (upd H a o) h' a o):kA P w (upd H a o) h':=λb u e=>by
 have hn:=x.fresh hp
 by_cases hb:b=a
 ·subst hb;rw[aF] at e;cases e;exact new
 ·rw[au hb] at e
  exact(x b u e).stay (λc v _ q=>k c v q) (λc q=>by rw[au (bg q hn)];exact q) λc xs q=>by rw[au (bg q hn)];exact q
end
def Rd(H:Hp)(a:aeU)(u:HO):Prop:=H a=some u\/∃o,H a=some (.dY o u)
theorem Rd.ok{P:aeY}{w:ae1}{H:Hp}{h:Heap}{a:aeU}{u:HO}(r:Rd H a u)(x:kA P w H h):cH P w H h a u:=by
 rcases r with r | ⟨o,r⟩
 ·exact x a u r
 ·obtain⟨_,q⟩:=x a _ r
  exact q
def RW:Option HO->Prop
 | some (.lst _)=>True
 | some (.dK _)=>True
 | some (.dT _)=>True
 | some (.set _ _)=>True
 | some (.ins _ _ _)=>True
 | some (.ext _)=>True
 | _=>False
section
variable {P:aeY} {w:ae1} {H:Hp} {h h':Heap} {x e:aeU} {o':HO}
theorem kA.write(ok:kA P w H h)(mu:RW (H x))(he:e=x\/H e=some (.own x))(k:∀b u,b≠e->h.get? b=some u->h'.get? b=some u)(RE:∃u,h'.get? e=some u)
  (new:cH P w (upd H x o') h' x o'):kA P w (upd H x o') h':=λb u q=>by
 have RX:∀c y,H c=some (.own y)->c≠x:=λc y r z=>by subst z;rw[r] at mu;exact mu
 have WV:∀c xs,H c=some (.tup xs)->c≠x:=λc xs r z=>by subst z;rw[r] at mu;exact mu
 by_cases hb:b=x
 ·subst hb;rw[aF] at q;cases q;exact new
 ·rw[au hb] at q
  by_cases Nh:b=e
  ·have q':H b=some (.own x):=by
    rcases he with z | z
    ·exact absurd (Nh.trans z) hb
    ·rw[Nh];exact z
   rw[q] at q';cases q'
   obtain⟨v,hv⟩:=RE
   exact⟨v,by rw[Nh];exact hv⟩
  ·refine(ok b u q).stay (λc v hc r=>k c v ?_ r) (λc r=>by rw[au (RX c b r)];exact r) λc xs r=>by rw[au (WV c xs r)];exact r
   rcases hc with rfl | hc
   ·exact Nh
   ·rintro rfl
    rcases he with z | z
    ·exact RX c b hc z
    ·rw[hc] at z;cases z;exact hb rfl
end
structure Un(fs ex:List aeU)(H H':Hp)(h h':Heap):Prop where
 keep:∀b o,h.get? b=some o->H b=none->b∉fs->b∉ex->h'.get? b=some o
 slot:∀b o,h.get? b=some o->H b=none->b∈fs->b∉ex->∃sl,h'.get? b=some { o with slots:=sl }
 free:∀b o,h.get? b=some o->H b=none->b∉ex->H' b=none
 there:∀b o,h.get? b=some o->b∉ex->∃o',h'.get? b=some o'
 tups:∀b xs,H b=some (.tup xs)->H' b=some (.tup xs)
 nO:∀b o u,H b=some (.dY o u)->H' b=some (.dY o u)
 rl:∀b ps,H b=some (.jC ps)->∃more,H' b=some (.jC (ps++more))
section
variable {fs fs' ex ex':List aeU} {H H1 H2:Hp} {h h1 h2 h':Heap} {a x e:aeU} {o:HO}
theorem Un.any(u:Un fs ex H H1 h h1){b:aeU}{ob:Obj}(q:h.get? b=some ob)(n:H b=none)(hx:b∉ex):∃sl,h1.get? b=some { ob with slots:=sl }:=by
 by_cases hb:b∈fs
 ·exact u.slot b ob q n hb hx
 ·exact⟨ob.slots,u.keep b ob q n hb hx⟩
theorem Un.kept(k:∀b u,h.get? b=some u->h'.get? b=some u):Un fs ex H H h h' :=
 ⟨λb ob q _ _ _=>k b ob q,λb ob q _ _ _=>⟨ob.slots,k b ob q⟩,λ_ _ _ n _=>n,λb ob q _=>⟨ob,k b ob q⟩,λ_ _ q=>q,λ_ _ _ q=>q,λ_ ps q=>⟨#[],by rw[q];simp⟩⟩
theorem Un.refl:Un fs ex H H h h:=Un.kept λ_ _ q=>q
theorem Un.laid(k:∀b u,h.get? b=some u->h'.get? b=some u)(hp:h.objs.size<=a)(hn:H a=none):Un fs ex H (upd H a o) h h' where
 keep:=λb u q _ _ _=>k b u q
 slot:=λb u q _ _ _=>⟨u.slots,k b u q⟩
 free:=λb u q n _=>by rw[au (bh (bC (aK q) hp))];exact n
 there:=λb u q _=>⟨u,k b u q⟩
 tups:=λb xs q=>by rw[au (bg q hn)];exact q
 nO:=λb u xs q=>by rw[au (bg q hn)];exact q
 rl:=λb ps q=>⟨#[],by rw[au (bg q hn),q];simp⟩
theorem Un.write(mu:RW (H x))(he:e=x\/H e=some (.own x))(k:∀b u,b≠e->h.get? b=some u->h'.get? b=some u)(RE:∃u,h'.get? e=some u):Un fs ex H (upd H x o) h h':=by
 have hx:∀b,H b=none->b≠x:=λb n z=>by subst z;rw[n] at mu;exact mu
 have hb:∀b,H b=none->b≠e:=λb n z=>by
  subst z
  rcases he with r | r
  ·exact hx b n r
  ·rw[n] at r;cases r
 have hm:∀b u,H b=some u->¬RW (some u)->b≠x:=λb u q nm z=>by subst z;rw[q] at mu;exact nm mu
 refine⟨λb u q n _ _=>k b u (hb b n) q,λb u q n _ _=>⟨u.slots,k b u (hb b n) q⟩,λb u q n _=>by rw[au (hx b n)];exact n,λb u q _=>?_,
  λb xs q=>by rw[au (hm b _ q λz=>z)];exact q,λb u xs q=>by rw[au (hm b _ q λz=>z)];exact q,λb ps q=>⟨#[],by rw[au (hm b _ q λz=>z),q];simp⟩⟩
 by_cases Nh:b=e
 ·subst Nh;exact RE
 ·exact⟨u,k b u Nh q⟩
end
def VE(h:Heap)(H:Hp):List aeU:=(gq h.objs.size).filter λa=>(H a).isSome
def vf(h:Heap)(H:Hp):Heap:=PySem.W.hideAll h (VE h H)
theorem Cy(h:Heap)(H:Hp):(vf h H).objs.size=h.objs.size:=PySem.W.hideAll_size _ _
theorem Ef{h:Heap}{H:Hp}{b:aeU}{o:Obj}(e:h.get? b=some o)(n:H b=none):(vf h H).get? b=some o :=
 PySem.W.hideAll_get _ e λhm=>by
  have q:(H b).isSome=true:=(List.mem_filter.mp hm).2
  rw[n] at q;simp at q
theorem Jj{h:Heap}{H:Hp}{b:aeU}{o:Obj}(e:(vf h H).get? b=some o):h.get? b=some o/\H b=none:=by
 have e':h.get? b=some o:=PySem.W.of_hideAll (VE h H) e
 refine⟨e',?_⟩
 cases q:H b with
 | none=>rfl
 | some x=>
  have hm:b∈VE h H:=List.mem_filter.mpr ⟨List.mem_range.mpr (aK e'),by simp[q]⟩
  have z:(vf h H).get? b=none:=PySem.W.hideAll_none (VE h H) hm
  rw[z] at e;cases e
def vg(g h:Heap)(L:aeU):List (aeU×Obj):=(gq h.objs.size).filterMap λa=>if a=L\/(g.get? a).isSome=true then none else(h.get? a).map λo=>(a,o)
theorem bN{g h:Heap}{L a:aeU}{o:Obj}(h1:a≠L)(h2:g.get? a=none)(h3:h.get? a=some o):(a,o)∈vg g h L :=
 List.mem_filterMap.mpr ⟨a,List.mem_range.mpr (aK h3),by simp[h1,h2,h3]⟩
theorem rn{g h:Heap}{L:aeU}{p:aeU×Obj}(hp:p∈vg g h L):p.1≠L/\g.get? p.1=none/\h.get? p.1=some p.2:=by
 obtain⟨b,_,e⟩:=List.mem_filterMap.mp hp
 split at e
 ·cases e
 ·rename_i hn
  cases q:h.get? b with
  | none=>rw[q] at e;simp at e
  | some u=>
   rw[q] at e
   simp only[nP,Option.some.injEq] at e
   subst e
   refine⟨λz=>hn (.inl z),?_,q⟩
   show g.get? b=none
   cases r:g.get? b with
   | none=>rfl
   | some v=>exact(hn (.inr (by simp[r]))).elim
theorem nQ{g h:Heap}{L:aeU}:News g L h (vg g h L):=λp hp=>let ⟨a,b,c⟩:=rn hp;⟨c,a,b⟩
structure Mod(K:PySem.W.Frag)(mg:Str->Option ae0)(base:Heap):Prop where
 RY:K.In base
 glob:base.Ns afa mg
 blt:∃mb,base.Ns builtinsNs mb/\∀x:Str,x≠"__name__"->mb x=ae4 x
 nolimit:base.NoLimit
structure Cx where
 prog:aeY
 w:ae1
 K:PySem.W.Frag
 mg:Str->Option ae0
 base:Heap
 A:aeV
 N:List Str
 s₀:aeZ
 H₀:Hp
 env:Env
 outer:List Env
 stack:List Env
 ex:List aeU
 fn:Str->Bool
 calm:Bool
 pn:List (aeU×Obj)
 xe:ae0->aeZ->Prop
def frs(l:List Env):List aeU:=l.filterMap (·.frame)
abbrev Cx.fs(X:Cx):List aeU:=frs X.outer
def VF(sc:Scope)(x:Str):Prop:=sc.names.lookup x=some .local\/sc.names.lookup x=some .cell\/sc.names.lookup x=some .free
def Loc(sc:Scope)(x:Str):Prop:=sc.names.lookup x=some .local\/sc.names.lookup x=some .cell
def Look(env:Env)(h:Heap)(m:Str->Option ae0)(x:Str)(u:ae0):Prop :=
 (env.kindOf x=some .local/\m x=some u)\/((env.kindOf x=some .cell\/env.kindOf x=some .free)/\∃c,env.cells.lookup x=some c/\h.IsCell c (some u))
structure Cx.Ok(X:Cx):Prop where
 mod:Mod X.K X.mg X.base
 kind:X.env.scope.kind= .function
 glob:X.env.globals=afa
 blt:X.env.builtins=builtinsNs
 above:X.s₀.heap.objs.size<=X.env.locals
 inj:∀x y c,X.env.cells.lookup x=some c->X.env.cells.lookup y=some c->x=y
 has:∀x,(X.env.kindOf x=some .cell\/X.env.kindOf x=some .free)->∃c,X.env.cells.lookup x=some c
 WW:∀x c,X.fn x=true->X.env.cells.lookup x=some c->X.s₀.heap.objs.size<=c
 hd:X.calm=true->X.A.handled=none
 frames:X.A.frames=some X.stack
 stk:X.stack=X.outer\/(X.stack=X.env::X.outer/\X.env.frame=some X.env.locals)
 exf:∀b∈X.ex,b≠X.env.locals/\∀x c,X.env.cells.lookup x=some c->c≠b
 bs:∀b o,X.base.get? b=some o->X.s₀.heap.get? b=some o/\X.H₀ b=none
 RF:X.base.objs.size<=X.s₀.heap.objs.size
 Ni:∀b o,X.base.get? b=some o->b∉X.ex
 RZ:∀b∈X.ex,b∉X.fs
 tP:X.s₀.heap.FunFrames X.base X.outer
 R0:∀b∈X.fs,X.H₀ b=none
structure Inv(X:Cx)(pins:List (aeU×Obj))(σ:List (Option V))(H:Hp)(s:aeZ):Prop where
 ok:X.Ok
 os:s.os=X.s₀.os
 bare:AllBare s.gens
 base:Un X.fs X.ex X.H₀ H X.s₀.heap s.heap
 loc:∃m,s.heap.Ns X.env.locals m/\∀(i:Nat)(x:Str)(v:V),X.N[i]? =some x->σ[i]? =some (some v)->VF X.env.scope x->∃u,RelV v u/\Look X.env s.heap m x u
 cell:∀x c,X.env.cells.lookup x=some c->∃v,s.heap.IsCell c v
 free:H X.env.locals=none
 my:∀x c,X.env.cells.lookup x=some c->H c=none
 pin:∀p∈X.pn++pins,s.heap.get? p.1=some p.2/\H p.1=none/\p.1≠X.env.locals/\p.1∉X.fs/\∀v,p.2.data≠.cell v
 hok:kA X.prog X.w H s.heap
 len:σ.length=X.N.length
section
variable {X:Cx} {pins:List (aeU×Obj)} {σ:List (Option V)} {H H':Hp} {s:aeZ} {h':Heap}
theorem Cx.Ok.WX(ok:X.Ok){b:aeU}{o:Obj}(e:X.base.get? b=some o):b∉X.fs:=λhb=>by
 have:=(ok.tP.mem hb).1
 rw[e] at this;cases this
theorem Inv.bs(I:Inv X pins σ H s):∀b o,X.base.get? b=some o->s.heap.get? b=some o/\H b=none:=λb o e=>
 ⟨I.base.keep b o (I.ok.bs b o e).1 (I.ok.bs b o e).2 (I.ok.WX e) (I.ok.Ni b o e),I.base.free b o (I.ok.bs b o e).1 (I.ok.bs b o e).2 (I.ok.Ni b o e)⟩
theorem Inv.bk(I:Inv X pins σ H s):∀b o,X.base.get? b=some o->s.heap.get? b=some o:=λb o e=>(I.bs b o e).1
theorem Inv.mod(I:Inv X pins σ H s):Mod X.K X.mg X.base:=I.ok.mod
theorem Inv.AK(I:Inv X pins σ H s):X.K.In s.heap:=I.ok.mod.RY.keeps I.bk
theorem Inv.lt(I:Inv X pins σ H s):X.env.locals < s.heap.objs.size:=let ⟨_,hn,_⟩:=I.loc;hn.lt
theorem Inv.sz(I:Inv X pins σ H s):X.s₀.heap.objs.size<=s.heap.objs.size:=ba I.ok.above (vh I.lt)
theorem Inv.WY(I:Inv X pins σ H s){a:aeU}(h:s.heap.objs.size<=a):a∉X.fs:=λhb=>by
 obtain⟨_,o,ho,_⟩:=I.ok.tP.mem hb
 exact absurd (bC (aK ho) (ba I.sz h)) (cK _)
theorem Inv.Nj(I:Inv X pins σ H s):∀x c,X.env.cells.lookup x=some c->c≠X.env.locals:=λx c e z=>by
 obtain⟨v,o,ho,hd⟩:=I.cell x c e
 obtain⟨m,⟨o',es,ep,ho',hd',_⟩,_⟩:=I.loc
 rw[z,ho'] at ho;cases ho;rw[hd'] at hd;cases hd
theorem Inv.tP(I:Inv X pins σ H s):s.heap.FunFrames X.base X.outer:=by
 have all:∀(l:List Env),(∀b∈frs l,b∈X.fs)->X.s₀.heap.FunFrames X.base l->s.heap.FunFrames X.base l:=by
  intro l
  induction l with
  | nil=>intro _ _;trivial
  | cons env r ih=>
   intro hs hl
   obtain⟨hk,⟨L,o,hf,hn,ho,hd⟩,hr⟩:=hl
   have hL:L∈X.fs:=hs L (by unfold frs;rw[vi,hf];exact aQ)
   obtain⟨sl,e⟩:=I.base.slot L o ho (I.ok.R0 L hL) hL λz=>I.ok.RZ L z hL
   exact⟨hk,⟨L,_,hf,hn,e,hd⟩,ih (λb hb=>hs b (by unfold frs;rw[vi,hf];exact aI _ hb)) hr⟩
 exact all X.outer (λ_ hb=>hb) I.ok.tP
theorem Inv.stack(I:Inv X pins σ H s):s.heap.FunFrames X.base X.stack:=by
 rcases I.ok.stk with e | ⟨e,hf⟩
 ·rw[e];exact I.tP
 ·rw[e]
  obtain⟨m,hn,_⟩:=I.loc
  refine .cons (by rw[I.ok.kind];decide) hf hn ?_ I.tP
  exact Heap.get?_none_of_le (ba I.ok.RF I.ok.above)
theorem Inv.vj(I:Inv X pins σ H s):∀b∈frs X.stack,b∈X.env.locals::X.fs:=λb hb=>by
 rcases I.ok.stk with e | ⟨e,hf⟩
 ·rw[e] at hb;exact aI _ hb
 ·rw[e] at hb
  unfold frs at hb
  rw[vi,hf] at hb
  exact hb
theorem Inv.vm(I:Inv X pins σ H s):∀b∈frs X.stack,H b=none:=λb hb=>by
 rcases List.mem_cons.mp (I.vj b hb) with e | hb
 ·rw[e];exact I.free
 ·obtain⟨_,o,ho,_⟩:=I.ok.tP.mem hb
  exact I.base.free b o ho (I.ok.R0 b hb) λz=>I.ok.RZ b z hb
theorem Inv.step{g':Array GenState}{t':Nat}{d':Drawn}{ch:List aeU}(I:Inv X pins σ H s)
  (hch:∀b∈ch,(b∈X.ex\/X.s₀.heap.objs.size<=b)/\b≠X.env.locals/\(∀x c,X.env.cells.lookup x=some c->c≠b)/\∀p∈X.pn++pins,p.1≠b)
  (keep:∀b o,b≠X.env.locals->b∉X.fs->b∉ch->s.heap.get? b=some o->H b=none->h'.get? b=some o)
  (slot:∀b o,b≠X.env.locals->b∈X.fs->b∉ch->s.heap.get? b=some o->H b=none->∃sl,h'.get? b=some { o with slots:=sl })(free:∀b o,b∉ch->s.heap.get? b=some o->H b=none->H' b=none)
  (there:∀b o,b∉ch->s.heap.get? b=some o->∃o',h'.get? b=some o')
  (tups:∀b xs,H b=some (.tup xs)->H' b=some (.tup xs))(nO:∀b o u,H b=some (.dY o u)->H' b=some (.dY o u))(rl:∀b ps,H b=some (.jC ps)->∃more,H' b=some (.jC (ps++more)))
  (ns:∀m,s.heap.Ns X.env.locals m->h'.Ns X.env.locals m)(hok:kA X.prog X.w H' h')(hg:AllBare g') :
  Inv X pins σ H' { s with heap:=h',gens:=g',drawn:=d',toks:=t' }:=by
 have Eg:∀b o,X.s₀.heap.get? b=some o->b≠X.env.locals:=λb o e=>bh (bC (aK e) I.ok.above)
 have VG:∀b o,X.s₀.heap.get? b=some o->b∉X.ex->b∉ch:=λb o e hx hb=>by
  rcases(hch b hb).1 with z | z
  ·exact hx z
  ·exact absurd (bC (aK e) z) (cK _)
 have cellK:∀x c,X.env.cells.lookup x=some c->∀v,s.heap.IsCell c v->h'.IsCell c v:=λx c e v ⟨o,ho,hd⟩=>by
  have R4:c∉ch:=λz=>(hch c z).2.2.1 x c e rfl
  by_cases hc:c∈X.fs
  ·obtain⟨sl,q⟩:=slot c o (I.Nj x c e) hc R4 ho (I.my x c e)
   exact⟨_,q,hd⟩
  ·exact⟨o,keep c o (I.Nj x c e) hc R4 ho (I.my x c e),hd⟩
 refine⟨I.ok,I.os,hg,⟨λb o e n hb hx=>?_,λb o e n hb hx=>?_,λb o e n hx=>?_,λb o e hx=>?_,λb xs e=>tups b xs (I.base.tups b xs e),λb o xs e=>nO b o xs (I.base.nO b o xs e),λb ps e=>?_⟩,?_,λx c e=>?_,?_,λx c e=>?_,λp hp=>?_,hok,I.len⟩
 ·exact keep b o (Eg b o e) hb (VG b o e hx) (I.base.keep b o e n hb hx) (I.base.free b o e n hx)
 ·obtain⟨sl,e1⟩:=I.base.slot b o e n hb hx
  obtain⟨sl',e2⟩:=slot b _ (Eg b o e) hb (VG b o e hx) e1 (I.base.free b o e n hx)
  exact⟨sl',e2⟩
 ·obtain⟨o',e1⟩:=I.base.there b o e hx
  exact free b o' (VG b o e hx) e1 (I.base.free b o e n hx)
 ·obtain⟨o',e1⟩:=I.base.there b o e hx
  exact there b o' (VG b o e hx) e1
 ·obtain⟨m1,e1⟩:=I.base.rl b ps e
  obtain⟨m2,e2⟩:=rl b _ e1
  exact⟨m1++m2,by rw[e2,Array.append_assoc]⟩
 ·obtain⟨m,hn,hl⟩:=I.loc
  refine⟨m,ns m hn,λi x v e1 e2 e3=>?_⟩
  obtain⟨u,r,l⟩:=hl i x v e1 e2 e3
  refine⟨u,r,?_⟩
  rcases l with l | ⟨k,c,e,z⟩
  ·exact .inl l
  ·exact .inr ⟨k,c,e,cellK x c e _ z⟩
 ·obtain⟨v,z⟩:=I.cell x c e
  exact⟨v,cellK x c e v z⟩
 ·obtain⟨m,⟨o,_,_,ho,_⟩,_⟩:=I.loc
  exact free _ o (λz=>(hch _ z).2.1 rfl) ho I.free
 ·obtain⟨v,o,ho,hd⟩:=I.cell x c e
  exact free c o (λz=>(hch c z).2.2.1 x c e rfl) ho (I.my x c e)
 ·obtain⟨e,n,ne,nf,d⟩:=I.pin p hp
  have R4:p.1∉ch:=λz=>(hch p.1 z).2.2.2 p hp rfl
  exact⟨keep p.1 p.2 ne nf R4 e n,free p.1 p.2 R4 e n,ne,nf,d⟩
theorem Inv.un{t':Nat}(I:Inv X pins σ H s)(u:Un X.fs [] H H' s.heap h')(hok:kA X.prog X.w H' h'):Inv X pins σ H' { s with heap:=h',toks:=t' }:=by
 obtain⟨m,⟨o,es,ep,ho,r⟩,_⟩:=id I.loc
 obtain⟨sl,hL⟩:=u.any ho I.free (by simp)
 exact I.step (g':=s.gens) (d':=s.drawn) (ch:=[]) (λ_ z=>nomatch z) (λb o _ hb _ e n=>u.keep b o e n hb (by simp)) (λb o _ hb _ e n=>u.slot b o e n hb (by simp)) (λb o _ e n=>u.free b o e n (by simp)) (λb o _ e=>u.there b o e (by simp)) u.tups u.nO u.rl (λm' hm=>by
  obtain⟨o',es',Ja,ho',r'⟩:=hm
  rw[ho] at ho';cases ho'
  exact⟨_,es',Ja,hL,r'⟩) hok I.bare
theorem Inv.call{g':Array GenState}{t':Nat}{d':Drawn}{ch:List aeU}(I:Inv X pins σ H s)(u:Un (frs X.stack) ch H H' s.heap h')(hok:kA X.prog X.w H' h')(hg:AllBare g')
  (hch:∀b∈ch,(b∈X.ex\/X.s₀.heap.objs.size<=b)/\b≠X.env.locals/\(∀x c,X.env.cells.lookup x=some c->c≠b)/\∀p∈X.pn++pins,p.1≠b) :
  Inv X pins σ H' { s with heap:=h',gens:=g',drawn:=d',toks:=t' }:=by
 obtain⟨m,⟨o,es,ep,ho,r⟩,_⟩:=id I.loc
 obtain⟨sl,hL⟩:=u.any ho I.free λz=>(hch _ z).2.1 rfl
 exact I.step (ch:=ch) hch (λb o hL hb hc e n=>u.keep b o e n (λz=>(List.mem_cons.mp (I.vj b z)).elim hL hb) hc) (λb o _ _ hc e n=>u.any e n hc) (λb o hc e n=>u.free b o e n hc) (λb o hc e=>u.there b o e hc) u.tups u.nO u.rl (λm' hm=>by
  obtain⟨o',es',Ja,ho',r'⟩:=hm
  rw[ho] at ho';cases ho'
  exact⟨_,es',Ja,hL,r'⟩) hok hg
theorem Inv.turned{t':Nat}{it:aeU}(I:Inv X pins σ H s)(k:∀b o,b≠it->s.heap.get? b=some o->h'.get? b=some o)(hn:H it=none)(hL:it≠X.env.locals)
  (h1:it∈X.ex\/X.s₀.heap.objs.size<=it)(h2:∀x c,X.env.cells.lookup x=some c->c≠it)(h3:∀p∈X.pn++pins,p.1≠it):Inv X pins σ H { s with heap:=h',toks:=t' }:=by
 have nit:∀b u,H b=some u->b≠it:=λb u e z=>by rw[z,hn] at e;cases e
 refine I.step (g':=s.gens) (d':=s.drawn) (ch:=[it]) (λb hb=>?_) (λb o _ _ hc e _=>k b o (λz=>hc (by simp[z])) e) (λb o _ _ hc e _=>⟨o.slots,k b o (λz=>hc (by simp[z])) e⟩) (λ_ _ _ _ n=>n)
  (λb o hc e=>⟨o,k b o (λz=>hc (by simp[z])) e⟩) (λ_ _ e=>e) (λ_ _ _ e=>e) (λb ps e=>⟨#[],by rw[e];simp⟩) (λm hm=>?_) (λb u e=>?_) I.bare
 ·have e:b=it:=by simpa using hb
  subst e
  exact⟨h1,hL,h2,h3⟩
 ·obtain⟨o,es,ep,ho,r⟩:=hm
  exact⟨o,es,ep,k _ o (bI hL) ho,r⟩
 ·refine(I.hok b u e).stay (λc v hc q=>k c v ?_ q) (λ_ q=>q) λ_ _ q=>q
  rcases hc with z | z
  ·rw[z];exact nit b u e
  ·exact nit c _ z
theorem Inv.tok(I:Inv X pins σ H s)(t:Nat):Inv X pins σ H { s with toks:=t }:=I.un (h':=s.heap) (t':=t) Un.refl I.hok
theorem Inv.kept{t':Nat}(I:Inv X pins σ H s)(k:∀b u,s.heap.get? b=some u->h'.get? b=some u):Inv X pins σ H { s with heap:=h',toks:=t' }:=I.un (Un.kept k) (I.hok.kept k)
theorem Inv.laid{a:aeU}{o:HO}{t':Nat}(I:Inv X pins σ H s)(k:∀b u,s.heap.get? b=some u->h'.get? b=some u)(hp:s.heap.objs.size<=a)(new:cH X.prog X.w (upd H a o) h' a o) :
  Inv X pins σ (upd H a o) { s with heap:=h',toks:=t' }:=I.un (Un.laid k hp (I.hok.fresh hp)) (I.hok.laid k hp new)
theorem Inv.write{x e:aeU}{o:HO}{t':Nat}(I:Inv X pins σ H s)(mu:RW (H x))(he:e=x\/H e=some (.own x))(k:∀b u,b≠e->s.heap.get? b=some u->h'.get? b=some u)(RE:∃u,h'.get? e=some u)
  (new:cH X.prog X.w (upd H x o) h' x o):Inv X pins σ (upd H x o) { s with heap:=h',toks:=t' }:=I.un (Un.write mu he k RE) (I.hok.write mu he k RE new)
theorem Inv.AL{ur:List (aeU×Obj)}(I:Inv X pins σ H s)(h:∀p∈ur,s.heap.get? p.1=some p.2/\H p.1=none/\p.1≠X.env.locals/\p.1∉X.fs/\∀v,p.2.data≠.cell v):Inv X ur σ H s :=
 ⟨I.ok,I.os,I.bare,I.base,I.loc,I.cell,I.free,I.my,λp hp=>(List.mem_append.mp hp).elim (λz=>I.pin p (nR _ z)) (h p),I.hok,I.len⟩
theorem xi{N:List Str}(hN:N.Nodup){i j:Nat}{x:Str}(a:N[i]? =some x)(b:N[j]? =some x):i=j:=by
 obtain⟨h1,e1⟩:=List.getElem?_eq_some_iff.mp a
 obtain⟨h2,e2⟩:=List.getElem?_eq_some_iff.mp b
 exact(List.getElem_inj hN).mp (e1.trans e2.symm)
theorem uu{M:Model}{A:aeV}{E:ae0->aeZ->Prop}{i:Nat}{x:Str}{v:V}{u:ae0}{Q:Unit->aeZ->Prop}(I:Inv X pins σ H s)(hN:X.N.Nodup)(hi:X.N[i]? =some x)(hx:Loc X.env.scope x)(r:RelV v u)
  (h:∀s',Inv X pins (σ.set i (some v)) H s'->(∃a,fT a s.heap s'.heap/\(a=X.env.locals\/X.env.cells.lookup x=some a))->Q () s')(hf:X.fn x=true\/X.env.scope.names.lookup x=some .local:=by first | exact .inl rfl | exact .inr rfl | assumption):afd M A (storeName X.env x u) Q E s:=by
 obtain⟨m,hn,hl⟩:=id I.loc
 have hcls:(X.env.scope.kind == .class||(X.env.scope.kind == .module&&X.env.locals != X.env.globals))=false:=by rw[I.ok.kind];rfl
 have R6:i < σ.length:=by rw[I.len];exact(List.getElem?_eq_some_iff.mp hi).1
 have Nj:=I.Nj
 have tracked:∀{a:aeU}{h':Heap},(∃o,s.heap.get? a=some o/\H a=none)->fT a s.heap h'->kA X.prog X.w H h':=λ{a h'} ha hs b ob e=>by
  obtain⟨_,_,hfree⟩:=ha
  refine(I.hok b ob e).stay (λc w' hc q=>(hs.2 c ?_).trans q) (λ_ q=>q) λ_ _ q=>q
  rintro rfl
  rcases hc with rfl | hc
  ·rw[hfree] at e;cases e
  ·rw[hfree] at hc;cases hc
 rcases hx with hk | hk
 ·refine wpAny_storeName_local hk hn (λh' hn' hs=>?_) hcls
  obtain⟨oL,_,_,hoL,_⟩:=id hn
  refine h _ ⟨I.ok,I.os,I.bare,⟨λb o e n hb hx=>?_,λb o e n hb hx=>?_,I.base.free,λb o e hx=>?_,I.base.tups,I.base.nO,I.base.rl⟩,⟨_,hn',λj y v' e1 e2 e3=>?_⟩,λy c e=>?_,I.free,I.my,λp hp=>?_,tracked ⟨oL,hoL,I.free⟩ hs,by simpa using I.len⟩ ⟨_,hs,.inl rfl⟩
  ·exact(hs.2 b (bh (bC (aK e) I.ok.above))).trans (I.base.keep b o e n hb hx)
  ·obtain⟨sl,e1⟩:=I.base.slot b o e n hb hx
   exact⟨sl,(hs.2 b (bh (bC (aK e) I.ok.above))).trans e1⟩
  ·obtain⟨o',e1⟩:=I.base.there b o e hx
   exact⟨o',(hs.2 b (bh (bC (aK e) I.ok.above))).trans e1⟩
  ·by_cases hj:j=i
   ·subst hj
    rw[hi] at e1;cases e1
    rw[oY R6] at e2
    cases e2
    exact⟨u,r,.inl ⟨hk,by simp⟩⟩
   ·rw[bw (bI hj)] at e2
    obtain⟨u',r',q⟩:=hl j y v' e1 e2 e3
    refine⟨u',r',?_⟩
    rcases q with ⟨k,e⟩ | ⟨k,c,e,z⟩
    ·refine .inl ⟨k,?_⟩
     have:y≠x:=λe=>hj (xi hN e1 (e ▸ hi))
     simp[this,e]
    ·exact .inr ⟨k,c,e,z.sameBut hs (Nj y c e)⟩
  ·obtain⟨w',z⟩:=I.cell y c e
   exact⟨w',z.sameBut hs (Nj y c e)⟩
  ·obtain⟨e,n,ne,nf,d⟩:=I.pin p hp
   exact⟨(hs.2 p.1 ne).trans e,n,ne,nf,d⟩
 ·have hfn:X.fn x=true:=by
   rcases hf with z | z
   ·exact z
   ·rw[z] at hk;cases hk
  obtain⟨c,hc⟩:=I.ok.has x (.inl hk)
  obtain⟨w',z⟩:=I.cell x c hc
  refine wpAny_storeName_cell I.ok.kind hk hc z (λh' hc' hs=>?_)
  obtain⟨oc,hoc,WZ⟩:=id z
  refine h { s with heap:=h' } ⟨I.ok,I.os,I.bare,⟨λb o e n hb hx=>?_,λb o e n hb hx=>?_,I.base.free,λb o e hx=>?_,I.base.tups,I.base.nO,I.base.rl⟩,⟨m,hn.sameBut hs (bI (Nj x c hc)),λj y v' e1 e2 e3=>?_⟩,λy c' e=>?_,I.free,I.my,λp hp=>?_,tracked ⟨oc,hoc,I.my x c hc⟩ hs,by simpa using I.len⟩ ⟨c,hs,.inr hc⟩
  ·exact(hs.2 b (bh (bC (aK e) (I.ok.WW x c hfn hc)))).trans (I.base.keep b o e n hb hx)
  ·obtain⟨sl,e1⟩:=I.base.slot b o e n hb hx
   exact⟨sl,(hs.2 b (bh (bC (aK e) (I.ok.WW x c hfn hc)))).trans e1⟩
  ·obtain⟨o',e1⟩:=I.base.there b o e hx
   exact⟨o',(hs.2 b (bh (bC (aK e) (I.ok.WW x c hfn hc)))).trans e1⟩
  ·by_cases hj:j=i
   ·subst hj
    rw[hi] at e1;cases e1
    rw[oY R6] at e2
    cases e2
    exact⟨u,r,.inr ⟨.inl hk,c,hc,hc'⟩⟩
   ·rw[bw (bI hj)] at e2
    obtain⟨u',r',q⟩:=hl j y v' e1 e2 e3
    refine⟨u',r',?_⟩
    rcases q with q | ⟨k,c',e,z'⟩
    ·exact .inl q
    ·refine .inr ⟨k,c',e,z'.sameBut hs ?_⟩
     rintro rfl
     exact hj (xi hN e1 (I.ok.inj _ _ _ e hc ▸ hi))
  ·by_cases hcc:c'=c
   ·subst hcc;exact⟨_,hc'⟩
   ·obtain⟨w2,z2⟩:=I.cell y c' e
    exact⟨w2,z2.sameBut hs hcc⟩
  ·obtain⟨e,n,ne,nf,d⟩:=I.pin p hp
   refine⟨(hs.2 p.1 ?_).trans e,n,ne,nf,d⟩
   intro q
   rw[q,hoc] at e
   have q':oc=p.2:=Option.some.inj e
   exact d w' (by rw[<-q'];exact WZ)
theorem nT{M:Model}{A:aeV}{E:ae0->aeZ->Prop}{i:Nat}{x:Str}{v:V}{u:ae0}{Q:Unit->aeZ->Prop}(I:Inv X pins σ H s)(hN:X.N.Nodup)(hi:X.N[i]? =some x)(hx:Loc X.env.scope x)(r:RelV v u)
  (h:∀s',Inv X pins (σ.set i (some v)) H s'->Q () s')(hf:X.fn x=true\/X.env.scope.names.lookup x=some .local:=by first | exact .inl rfl | exact .inr rfl | assumption):afd M A (storeName X.env x u) Q E s :=
 uu I hN hi hx r (λs' I' _=>h s' I') hf
theorem Inv.L4{s':aeZ}{ch:List aeU}(I:Inv X pins σ H s)(ho:s'.os=s.os)(u:Un (frs X.stack) ch H H' s.heap s'.heap)(hok:kA X.prog X.w H' s'.heap)(hg:AllBare s'.gens)
  (hch:∀b∈ch,(b∈X.ex\/X.s₀.heap.objs.size<=b)/\b≠X.env.locals/\(∀x c,X.env.cells.lookup x=some c->c≠b)/\∀p∈X.pn++pins,p.1≠b):Inv X pins σ H' s':=by
 obtain⟨h',g',d',t',o'⟩:=s'
 have e:o'=s.os:=ho
 subst e
 exact I.call (g':=g') (t':=t') (d':=d') u hok hg hch
end
abbrev XK:=ae0->Option aeU->Hp->Prop
abbrev St:=List (Option V)
abbrev VK:=V->Hp->Prop
abbrev TE:=St->Hp->VK->Prop
abbrev TT:=St->Hp->(Bool->Hp->Prop)->Prop
abbrev TA:=St->Hp->(List V->Hp->Prop)->Prop
structure Ends where
 nx:St->Hp->Prop
 rt:VK
 bk:St->Hp->Prop:=λ_ _=>False
 ct:St->Hp->Prop:=λ_ _=>False
abbrev TS:=Ends->St->Hp->Prop
def EP(X:Cx)(pins:List (aeU×Obj))(σ:St)(Q:VK)(u:ae0)(s':aeZ):Prop:=∃v H',Inv X pins σ H' s'/\RelV v u/\Q v H'
def TP(X:Cx)(pins:List (aeU×Obj))(σ:St)(Q:Bool->Hp->Prop)(b:Bool)(s':aeZ):Prop:=∃H',Inv X pins σ H' s'/\Q b H'
def AP(X:Cx)(pins:List (aeU×Obj))(σ:St)(Q:List V->Hp->Prop)(us:List ae0)(s':aeZ):Prop:=∃vs H',Inv X pins σ H' s'/\Vals vs us/\Q vs H'
def SP(X:Cx)(pins:List (aeU×Obj))(D:Ends)(f:Flow)(s':aeZ):Prop :=
 match f with
 | .next=>∃σ' H',Inv X pins σ' H' s'/\D.nx σ' H'
 | .brk=>∃σ' H',Inv X pins σ' H' s'/\D.bk σ' H'
 | .cont=>∃σ' H',Inv X pins σ' H' s'/\D.ct σ' H'
 | .ret u=>∃v σ' H',Inv X pins σ' H' s'/\RelV v u/\D.rt v H'
def PE(X:Cx)(e:Expr)(t:TE):Prop :=
 ∀(pins:List (aeU×Obj))(s:aeZ)(σ:St)(H:Hp)(Q:VK),Inv X pins σ H s->t σ H Q->afd (model X.prog X.w) X.A (eval e X.env) (EP X pins σ Q) X.xe s
def PT(X:Cx)(e:Expr)(t:TT):Prop :=
 ∀(pins:List (aeU×Obj))(s:aeZ)(σ:St)(H:Hp)(Q:Bool->Hp->Prop),Inv X pins σ H s->t σ H Q->afd (model X.prog X.w) X.A (isTrue e X.env (eval e X.env)) (TP X pins σ Q) X.xe s
def PW(X:Cx)(e:Expr)(t:TT):Prop :=
 ∀(whole:Sem ae0)(pins:List (aeU×Obj))(s:aeZ)(σ:St)(H:Hp)(Q:Bool->Hp->Prop),Inv X pins σ H s->t σ H Q->afd (model X.prog X.w) X.A (isTrue e X.env whole) (TP X pins σ Q) X.xe s
def PA(X:Cx)(es:List Expr)(t:TA):Prop :=
 ∀(pos:Pos)(pins:List (aeU×Obj))(s:aeZ)(σ:St)(H:Hp)(Q:List V->Hp->Prop),Inv X pins σ H s->t σ H Q->afd (model X.prog X.w) X.A (spliced (backTo pos (afc es X.env))) (AP X pins σ Q) X.xe s
def PS(X:Cx)(st:Stmt)(t:TS):Prop :=
 ∀(pins:List (aeU×Obj))(s:aeZ)(σ:St)(H:Hp)(D:Ends),Inv X pins σ H s->t D σ H->afd (model X.prog X.w) X.A (exec st X.env) (SP X pins D) X.xe s
def D_(X:Cx)(st:List Stmt)(t:TS):Prop :=
 ∀(pins:List (aeU×Obj))(s:aeZ)(σ:St)(H:Hp)(D:Ends),Inv X pins σ H s->t D σ H->afd (model X.prog X.w) X.A (execs st X.env) (SP X pins D) X.xe s
theorem a7{α:Type}{t:Sem α}{Q Q':α->aeZ->Prop}{M:Model}{A:aeV}{E:ae0->aeZ->Prop}{s:aeZ}(h:afd M A t Q E s)(hQ:∀a s,Q a s->Q' a s):afd M A t Q' E s:=afh h hQ λ_ _ x=>x
section
variable {X:Cx}
def W0(i:Nat):TE:=λσ H Q=>∃v,σ[i]? =some (some v)/\Q v H
def tC(v:V):TE:=λ_ H Q=>Q v H
theorem Nk{i:Nat}{x:Str}{pos:Pos}(hN:X.N[i]? =some x)(hv:VF X.env.scope x)(hd:(x == ("__debug__":Str))=false:=by decide)(hcd:(x == ("__classdict__":Str))=false:=by decide):PE X (.Name x pos) (W0 i):=by
 intro pins s σ H Q I h
 obtain⟨v,e,h⟩:=h
 obtain⟨m,hn,hl⟩:=I.loc
 obtain⟨u,r,l⟩:=hl i x v hN e hv
 have fin:EP X pins σ Q u s:=⟨v,H,I,r,h⟩
 rcases l with ⟨hk,hm⟩ | ⟨hk,c,hc,hcell⟩
 ·exact wpAny_Name (wpAny_loadName_local I.ok.kind hk hn hm fin) hd
 ·rcases hk with hk | hk
  ·exact wpAny_Name (wpAny_loadName_cell I.ok.kind hk hc hcell fin) hd
  ·exact wpAny_Name (wpAny_loadName_free I.ok.kind hk hc hcell fin hcd) hd
theorem Nl{i j pos}:PE X (.Constant (.int i) j pos) (tC (.int i)):=λ_ _ _ H _ I h=>wpAny_Constant_int ⟨.int i,H,I.tok _,⟨_,rfl⟩,h⟩
theorem R7{b j pos}:PE X (.Constant (.bool b) j pos) (tC (.bl b)):=λ_ _ _ H _ I h=>Constant_bool ⟨.bl b,H,I,rfl,h⟩
theorem Nm{j pos}:PE X (.Constant .none j pos) (tC .aZ):=λ_ _ _ H _ I h=>Constant_none ⟨.aZ,H,I,rfl,h⟩
theorem Nn{x j pos}:PE X (.Constant (.str x) j pos) (tC (.str x)):=λ_ _ _ H _ I h=>Calls.Constant_str ⟨.str x,H,I.tok _,⟨_,rfl⟩,h⟩
def Gl(X:Cx)(x:Str):Prop:=X.env.kindOf x=some .globalImplicit
theorem vn{E:ae0->aeZ->Prop}{pins:List (aeU×Obj)}{s:aeZ}{σ:St}{H:Hp}{x:Str}{u:ae0}{pos:Pos}{Q:ae0->aeZ->Prop}(I:Inv X pins σ H s)(hg:Gl X x)(hm:X.mg x=some u)(h:Q u s)
  (hd:(x == ("__debug__":Str))=false:=by decide):afd (model X.prog X.w) X.A (eval (.Name x pos) X.env) Q E s :=
 Np I.ok.kind hg (Calls.loadGlobal_global (by rw[I.ok.glob];exact I.mod.glob.keeps I.bk) hm h) hd
theorem oZ{E:ae0->aeZ->Prop}{pins:List (aeU×Obj)}{s:aeZ}{σ:St}{H:Hp}{x:Str}{u:ae0}{pos:Pos}{Q:ae0->aeZ->Prop}(I:Inv X pins σ H s)(hg:Gl X x)(hm:X.mg x=none)(hv:ae4 x=some u)(h:Q u s)
  (hn:x≠"__name__":=by decide)(hd:(x == ("__debug__":Str))=false:=by decide):afd (model X.prog X.w) X.A (eval (.Name x pos) X.env) Q E s:=by
 obtain⟨mb,h1,h2⟩:=I.mod.blt
 exact Np I.ok.kind hg (Calls.loadGlobal_builtin (by rw[I.ok.glob];exact I.mod.glob.keeps I.bk) hm (by rw[I.ok.blt];exact h1.keeps I.bk) ((h2 x hn).trans hv) h) hd
theorem gw{x:Str}{v:V}{u:ae0}{pos:Pos}(hg:Gl X x)(hm:X.mg x=some u)(r:RelV v u)(hd:(x == ("__debug__":Str))=false:=by decide):PE X (.Name x pos) (tC v) :=
 λ_ _ _ H _ I h=>vn I hg hm ⟨v,H,I,r,h⟩ hd
theorem Jk{x:Str}{v:V}{u:ae0}{pos:Pos}(hg:Gl X x)(hm:X.mg x=none)(hv:ae4 x=some u)(r:RelV v u)(hn:x≠"__name__":=by decide)(hd:(x == ("__debug__":Str))=false:=by decide):PE X (.Name x pos) (tC v) :=
 λ_ _ _ H _ I h=>oZ I hg hm hv ⟨v,H,I,r,h⟩ hn hd
variable {a b:Expr} {ta tb:TE} {pos:Pos}
def PC(X:Cx)(op:CmpOp)(a b:Expr)(t:TE):Prop :=
 ∀(pins:List (aeU×Obj))(s:aeZ)(σ:St)(H:Hp)(Q:VK),Inv X pins σ H s->t σ H Q->
  afd (model X.prog X.w) X.A (eval a X.env) (λv s₁=>afd (model X.prog X.w) X.A (eval b X.env) (λu s₂=>afd (model X.prog X.w) X.A (ae7 op v u) (EP X pins σ Q) X.xe s₂) X.xe s₁) X.xe s
def tB(t:TE):TT:=λσ H Q=>t σ H λx H1=>∃c,x= .bl c/\Q c H1
theorem Eh{op:CmpOp}{t:TE}(h:PC X op a b t)(h1:ae2 op b=false:=by first | exact Ei _ (by decide) (by decide) | rfl):PE X (.Compare a [op] [b] pos) t:=λpins s σ H Q I hw=>wpAny_Compare1 (h pins s σ H Q I hw) h1
theorem Ej{op:CmpOp}{t:TE}(h:PC X op a b t)(h1:ae2 op b=false:=by first | exact Ei _ (by decide) (by decide) | rfl):PT X (.Compare a [op] [b] pos) (tB t):=by
 intro pins s σ H Q I hw
 refine wpAny_isTrue_Compare1 (a7 (h pins s σ H _ I hw) λv s1 h1=>a7 h1 λu s2 h2=>a7 h2 λc s3 ⟨x,H1,I1,r1,q1⟩=>?_) h1
 obtain⟨d,rfl,q⟩:=q1
 cases r1
 exact afl ⟨H1,I1,q⟩
variable {tA VH:TT} {rest:List Expr}
def W3(t u:TT):TT:=λσ H Q=>t σ H λc H1=>if c=true then u σ H1 Q else Q false H1
def tOr(t u:TT):TT:=λσ H Q=>t σ H λc H1=>if c=true then Q true H1 else u σ H1 Q
def W4(t:TT):TT:=λσ H Q=>t σ H λc H1=>Q (!c) H1
theorem Jl(ha:PT X a tA):PW X (.BoolOp .And [a] pos) tA:=by
 intro wh pins s σ H Q I h
 refine isTrue_and (a7 (ha pins s σ H Q I h) λc s1 e=>?_)
 cases c with
 | true=>exact isTrue_and_nil e
 | false=>exact e
theorem Nq(ha:PT X a tA):PW X (.BoolOp .Or [a] pos) tA:=by
 intro wh pins s σ H Q I h
 refine isTrue_or (a7 (ha pins s σ H Q I h) λc s1 e=>?_)
 cases c with
 | false=>exact isTrue_or_nil e
 | true=>exact e
theorem Nr(ha:PT X a tA)(hb:PW X (.BoolOp .And (b::rest) pos) VH):PW X (.BoolOp .And (a::b::rest) pos) (W3 tA VH):=by
 intro wh pins s σ H Q I h
 refine isTrue_and (a7 (ha pins s σ H _ I h) λc s1 ⟨H1,I1,q1⟩=>?_)
 cases c with
 | true=>exact hb wh pins s1 σ H1 Q I1 q1
 | false=>exact⟨H1,I1,q1⟩
theorem R9(ha:PT X a tA)(hb:PW X (.BoolOp .Or (b::rest) pos) VH):PW X (.BoolOp .Or (a::b::rest) pos) (tOr tA VH):=by
 intro wh pins s σ H Q I h
 refine isTrue_or (a7 (ha pins s σ H _ I h) λc s1 ⟨H1,I1,q1⟩=>?_)
 cases c with
 | true=>exact⟨H1,I1,q1⟩
 | false=>exact hb wh pins s1 σ H1 Q I1 q1
theorem Nt(ha:PT X a tA):PT X (.UnaryOp .Not a pos) (W4 tA):=by
 intro pins s σ H Q I h
 exact isTrue_not (ha pins s σ H (λc H1=>Q (!c) H1) I h)
def R_(ta tb:TE):TE:=λσ H Q=>ta σ H λx H1=>∃c,x= .bl c/\if c=true then tb σ H1 Q else Q (.bl false) H1
def W5(ta tb:TE):TE:=λσ H Q=>ta σ H λx H1=>∃c,x= .bl c/\if c=true then Q (.bl true) H1 else tb σ H1 Q
def Sa(ta:TE):TE:=λσ H Q=>ta σ H λx H1=>∃c,x= .bl c/\Q (.bl (!c)) H1
theorem Nu{op}{t:TE}(h:PE X a t):PE X (.BoolOp op [a] pos) t:=λpins s σ H Q I hw=>BoolOp_one (h pins s σ H Q I hw)
theorem Nv(ha:PE X a ta)(hb:PE X (.BoolOp .And (b::rest) pos) tb):PE X (.BoolOp .And (a::b::rest) pos) (R_ ta tb):=by
 intro pins s σ H Q I h
 refine BoolOp_and (a7 (ha pins s σ H _ I h) λv s1 ⟨x,H1,I1,r1,q1⟩=>?_)
 obtain⟨c,rfl,q1⟩:=q1
 cases r1
 refine afl ?_
 cases c with
 | true=>exact hb pins s1 σ H1 Q I1 q1
 | false=>exact⟨.bl false,H1,I1,rfl,q1⟩
theorem Sb(ha:PE X a ta)(hb:PE X (.BoolOp .Or (b::rest) pos) tb):PE X (.BoolOp .Or (a::b::rest) pos) (W5 ta tb):=by
 intro pins s σ H Q I h
 refine BoolOp_or (a7 (ha pins s σ H _ I h) λv s1 ⟨x,H1,I1,r1,q1⟩=>?_)
 obtain⟨c,rfl,q1⟩:=q1
 cases r1
 refine afl ?_
 cases c with
 | false=>exact hb pins s1 σ H1 Q I1 q1
 | true=>exact⟨.bl true,H1,I1,rfl,q1⟩
theorem Nw(ha:PE X a ta):PE X (.UnaryOp .Not a pos) (Sa ta):=by
 intro pins s σ H Q I h
 refine UnaryOp_ (a7 (ha pins s σ H _ I h) λv s1 ⟨x,H1,I1,r1,q1⟩=>?_)
 obtain⟨c,rfl,q1⟩:=q1
 cases r1
 exact not_of (afl ⟨.bl (!c),H1,I1,rfl,q1⟩)
def tIf(t:TT)(ta tb:TE):TE:=λσ H Q=>t σ H λc H1=>if c=true then ta σ H1 Q else tb σ H1 Q
theorem Ek{c:Expr}(hc:PT X c tA)(ha:PE X a ta)(hb:PE X b tb):PE X (.IfExp c a b pos) (tIf tA ta tb):=by
 intro pins s σ H Q I h
 refine wpAny_IfExp (a7 (hc pins s σ H _ I h) λd s1 ⟨H1,I1,q1⟩=>?_)
 cases d with
 | true=>exact ha pins s1 σ H1 Q I1 q1
 | false=>exact hb pins s1 σ H1 Q I1 q1
end
def kC(K:PySem.W.Frag)(H:Hp)(a:aeU)(xs:List V):Prop :=
 Rd H a (.lst xs)\/
  ∃(o:Obj)(its:Array ae0)(n:Nat),K.lookup a=some o/\o.cls= .type "list"/\o.dict=none/\o.data= .seq its n/\its.size<=afb/\Vals xs its.toList
def ft(K:PySem.W.Frag)(H:Hp)(a:aeU)(xs:List V):Prop :=
 Rd H a (.tup xs)\/
  ∃(o:Obj)(its:Array ae0)(n:Nat),K.lookup a=some o/\o.cls= .type "tuple"/\o.data= .seq its n/\its.size<=afb/\Vals xs its.toList
def W6:ae0->Option V
 | .none=>some .aZ
 | .bool b=>some (.bl b)
 | .int i _=>some (.int i)
 | .str x _=>some (.str x)
 | .bytes b _=>some (.RD b)
 | .float b _=>some (.VC b)
 | .ref a=>some (.ref a)
 | .type n=>some (.ty n)
 | _=>none
theorem RelV.abs{x:V}{u:ae0}(r:RelV x u):W6 u=some x:=by
 cases x with
 | aZ=>cases r;rfl
 | bl _=>cases r;rfl
 | int _=>obtain⟨t,rfl⟩:=r;rfl
 | str _=>obtain⟨t,rfl⟩:=r;rfl
 | RD _=>obtain⟨t,rfl⟩:=r;rfl
 | VC _=>obtain⟨t,rfl⟩:=r;rfl
 | ref _=>cases r;rfl
 | ty _=>cases r;rfl
theorem RelV.inj{x y:V}{u:ae0}(r:RelV x u)(q:RelV y u):x=y:=Option.some.inj (r.abs.symm.trans q.abs)
theorem Vals.inj:∀{xs ys:List V}{us:List ae0},Vals xs us->Vals ys us->xs=ys
 | _,_,_,.nil,.nil=>rfl
 | _,_,_,.cons r t,.cons r' t'=>by rw[r.inj r',Vals.inj t t']
section
variable {X:Cx} {pins:List (aeU×Obj)} {σ:St} {H:Hp} {s:aeZ} {a:aeU} {xs ys:List V}
theorem kC.of{K:PySem.W.Frag}(h:H a=some (.lst xs)):kC K H a xs:=.inl (.inl h)
theorem ft.of{K:PySem.W.Frag}(h:H a=some (.tup xs)):ft K H a xs:=.inl (.inl h)
theorem Inv.list(I:Inv X pins σ H s)(h:kC X.K H a xs):∃its:List ae0,Vals xs its/\PlainL s.heap a its.toArray/\xs.length<=afb:=by
 rcases h with h | ⟨o,its,n,hk,hc,hd,hs,hz,r⟩
 ·obtain⟨z,its,n,r,e⟩:=h.ok I.hok
  exact⟨its,r,⟨_,n,e,rfl,rfl,rfl⟩,z⟩
 ·refine⟨its.toList,r,⟨o,n,I.AK a o hk,hc,hd,by simpa using hs⟩,?_⟩
  have e:=r.length
  simp only[AM] at e
  omega
theorem Inv.tuple(I:Inv X pins σ H s)(h:ft X.K H a xs):∃its:List ae0,Vals xs its/\IsTup s.heap a its.toArray/\xs.length<=afb:=by
 rcases h with h | ⟨o,its,n,hk,hc,hs,hz,r⟩
 ·obtain⟨z,its,r,p,_⟩:=h.ok I.hok
  exact⟨its,r,p,z⟩
 ·refine⟨its.toList,r,⟨o,I.AK a o hk,hc,n,by simpa using hs⟩,?_⟩
  have e:=r.length
  simp only[AM] at e
  omega
theorem Inv.xj(I:Inv X pins σ H s)(h:kC X.K H a xs)(h':kC X.K H a ys):xs=ys:=by
 obtain⟨its,r,⟨o,n,e,_,_,d⟩,_⟩:=I.list h
 obtain⟨its',r',⟨o',n',e',_,_,d'⟩,_⟩:=I.list h'
 rw[e] at e';cases e'
 rw[d] at d'
 injection d' with d1 _
 have:its=its':=by simpa using congrArg Array.toList d1
 subst this
 exact r.inj r'
theorem Inv.Cz(I:Inv X pins σ H s)(h:ft X.K H a xs)(h':ft X.K H a ys):xs=ys:=by
 obtain⟨its,r,⟨o,e,_,n,d⟩,_⟩:=I.tuple h
 obtain⟨its',r',⟨o',e',_,n',d'⟩,_⟩:=I.tuple h'
 rw[e] at e';cases e'
 rw[d] at d'
 injection d' with d1 _
 have:its=its':=by simpa using congrArg Array.toList d1
 subst this
 exact r.inj r'
end
abbrev Cx.W7(X:Cx)(E:ae0->aeZ->Prop):Cx:={ X with xe:=E }
abbrev Cx.oW(X:Cx):Cx:=X.W7 λ_ _=>False
section
variable {X:Cx} {pins:List (aeU×Obj)} {σ:St} {H:Hp} {s:aeZ} {E:ae0->aeZ->Prop}
end
section
variable {X:Cx} {st:Stmt} {rest:List Stmt} {t u:TS} {e:Expr} {te:TE} {pos:Pos}
def L5:TS:=λD σ H=>D.nx σ H
def W8(t u:TS):TS:=λD σ H=>t { D with nx:=u D } σ H
theorem Jm:D_ X [] L5:=λ_ _ σ H _ I h=>wpAny_execs_nil ⟨σ,H,I,h⟩
theorem El(h1:PS X st t)(h2:D_ X rest u):D_ X (st::rest) (W8 t u):=by
 intro pins s σ H D I h
 refine wpAny_execs_cons (a7 (h1 pins s σ H { D with nx:=u D } I h) λf s1 q=>?_)
 cases f with
 | next=>
  obtain⟨σ',H',I',q⟩:=q
  exact h2 pins s1 σ' H' D I' q
 | ret v=>exact q
 | brk=>exact q
 | cont=>exact q
theorem Jn(h1:PS X st t):D_ X [st] t:=by
 intro pins s σ H D I h
 refine wpAny_execs_cons (a7 (h1 pins s σ H D I h) λf s1 q=>?_)
 cases f with
 | next=>exact wpAny_execs_nil q
 | ret v=>exact q
 | brk=>exact q
 | cont=>exact q
theorem Jo:PS X (.Pass pos) L5:=λ_ _ σ H _ I h=>wpAny_Pass ⟨σ,H,I,h⟩
theorem Inv.quiet{pins:List (aeU×Obj)}{σ:St}{H:Hp}{s:aeZ}(I:Inv X pins σ H s):interactive X.env=false:=by simp[interactive,I.ok.kind]
def Sd(te:TE):TS:=λD σ H=>te σ H λ_ H1=>D.nx σ H1
theorem Jp(he:PE X e te)(hs:swapsWith e none pos.line X.env=pure false:=by rfl):PS X (.Expr e pos) (Sd te):=by
 intro pins s σ H D I h
 exact wpAny_Expr_any (a7 (he pins s σ H _ I h) λv s1 ⟨x,H1,I1,r1,q1⟩=>⟨σ,H1,I1,q1⟩) I.quiet hs
def W9(te:TE):TS:=λD σ H=>te σ H D.rt
theorem Nx(he:PE X e te):PS X (.Return (some e) pos) (W9 te):=by
 intro pins s σ H D I h
 exact wpAny_Return_some (a7 (he pins s σ H _ I h) λv s1 ⟨x,H1,I1,r1,q1⟩=>⟨x,σ,H1,I1,r1,q1⟩)
def Se:TS:=λD _ H=>D.rt .aZ H
theorem Jq:PS X (.Return none pos) Se:=λ_ _ σ H _ I h=>wpAny_Return_none ⟨.aZ,σ,H,I,rfl,h⟩
def W_(c:TT)(t u:TS):TS:=λD σ H=>c σ H λb H1=>if b=true then t D σ H1 else u D σ H1
theorem Sf{c:Expr}{a b:List Stmt}{tc:TT}(hc:PT X c tc)(ha:D_ X a t)(hb:D_ X b u):PS X (.If c a b pos) (W_ tc t u):=by
 intro pins s σ H D I h
 refine wpAny_If (a7 (hc pins s σ H _ I h) λd s1 ⟨H1,I1,q1⟩=>?_)
 cases d with
 | true=>exact ha pins s1 σ H1 D I1 q1
 | false=>exact hb pins s1 σ H1 D I1 q1
def Em:TS:=λ_ _ _=>False
theorem En:PS X st Em:=λ_ _ _ _ _ _ h=>h.elim
theorem CA{sts:List Stmt}:D_ X sts Em:=λ_ _ _ _ _ _ h=>h.elim
end
abbrev TG:=V->St->Hp->(St->Hp->Prop)->Prop
abbrev L6:=List V->St->Hp->(St->Hp->Prop)->Prop
def PG(X:Cx)(target:Expr)(t:TG):Prop :=
 ∀(pins:List (aeU×Obj))(s:aeZ)(σ:St)(H:Hp)(v:V)(u:ae0)(Q:St->Hp->Prop),Inv X pins σ H s->RelV v u->t v σ H Q->
  afd (model X.prog X.w) X.A (assign target X.env u) (λ_ s'=>∃σ' H',Inv X pins σ' H' s'/\Q σ' H') X.xe s
def Sh(X:Cx)(ts:List Expr)(t:L6):Prop :=
 ∀(pins:List (aeU×Obj))(s:aeZ)(σ:St)(H:Hp)(vs:List V)(us:List ae0)(Q:St->Hp->Prop),Inv X pins σ H s->Vals vs us->t vs σ H Q->
  afd (model X.prog X.w) X.A (assignInOrder ((assignEach ts X.env).map (·.2)) us) (λ_ s'=>∃σ' H',Inv X pins σ' H' s'/\Q σ' H') X.xe s
abbrev Ny:=V->V->V->Hp->(Hp->Prop)->Prop
def Si(X:Cx)(t:Ny):Prop :=
 ∀(pins:List (aeU×Obj))(s:aeZ)(σ:St)(H:Hp)(o i v:V)(ov iv u:ae0)(Q:Hp->Prop),Inv X pins σ H s->RelV o ov->RelV i iv->RelV v u->t o i v H Q->
  afd (model X.prog X.w) X.A (setItem ov iv u) (λ_ s'=>∃H',Inv X pins σ H' s'/\Q H') X.xe s
abbrev VI:=V->V->Hp->VK->Prop
def VJ(X:Cx)(op:Operator)(t:VI):Prop :=
 ∀(pins:List (aeU×Obj))(s:aeZ)(σ:St)(H:Hp)(x y:V)(v u:ae0)(Q:VK),Inv X pins σ H s->RelV x v->RelV y u->t x y H Q->
  afd (model X.prog X.w) X.A (inplaceOp op v u) (EP X pins σ Q) X.xe s
section
variable {X:Cx} {pos:Pos}
def xk(i:Nat):TG:=λv σ H Q=>Q (σ.set i (some v)) H
theorem lJ{i:Nat}{x:Str}(hN:X.N.Nodup)(hi:X.N[i]? =some x)(hx:Loc X.env.scope x)(hf:X.fn x=true\/X.env.scope.names.lookup x=some .local:=by first | exact .inl rfl | exact .inr rfl | assumption):PG X (.Name x pos) (xk i):=by
 intro pins s σ H v u Q I r h
 exact wpAny_assign_Name (nT I hN hi hx r (λs' I'=>⟨_,H,I',h⟩) hf)
def aj:L6:=λvs σ H Q=>vs=[]/\Q σ H
def ae(t:TG)(u:L6):L6:=λvs σ H Q=>∃v r,vs=v::r/\t v σ H λσ' H'=>u r σ' H' Q
theorem Jr:Sh X [] aj:=by
 intro pins s σ H vs us Q I r h
 obtain⟨e,h⟩:=h
 subst e
 cases r
 exact assignInOrder_nil ⟨σ,H,I,h⟩
theorem Eo{e:Expr}{es:List Expr}{t:TG}{u:L6}(h1:PG X e t)(h2:Sh X es u)
  (hs:(assignEach (e::es) X.env).map (·.2)=assign e X.env::(assignEach es X.env).map (·.2):=by rfl):Sh X (e::es) (ae t u):=by
 intro pins s σ H vs us Q I r h
 obtain⟨v,vr,e1,h⟩:=h
 subst e1
 cases r with
 | cons r rr=>
  rw[hs]
  refine assignInOrder_cons (a7 (h1 pins s σ H _ _ _ I r h) λ_ s1 ⟨σ1,H1,I1,q1⟩=>?_)
  exact h2 pins s1 σ1 H1 _ _ Q I1 rr q1
def eh(K:PySem.W.Frag)(n:Nat)(t:L6):TG:=λv σ H Q=>∃a xs,v= .ref a/\ft K H a xs/\xs.length=n/\t xs σ H Q
theorem zf{es:List Expr}{k:Nat}{t:L6}{n:Nat}(hc:X.calm=true)(h:Sh X es t)
  (hn:(assignEach es X.env).length=n:=by rfl)(hst:(assignEach es X.env).findIdx? (·.1)=none:=by rfl):PG X (.Tuple es k pos) (eh X.K n t):=by
 intro pins s σ H v u Q I r hw
 obtain⟨a,xs,e1,hq,hl,hw⟩:=hw
 subst e1
 cases r
 obtain⟨its,rv,ht,hz⟩:=I.tuple hq
 refine assign_Tuple_tuple (I.ok.hd hc) ht (by simp[hn,<-hl,rv.length]) hst λh' hx=>?_
 have I1:Inv X pins σ H { s with heap:=h' }:=I.kept (t':=s.toks) λb o e=>hx b o (bh (aK e)) e
 exact h pins _ σ H xs _ Q I1 (by simpa using rv) hw
def W'(to ti:TE)(t:Ny):TG:=λv σ H Q=>to σ H λo H1=>ti σ H1 λi H2=>t o i v H2 λH3=>Q σ H3
theorem Nz{o i:Expr}{to ti:TE}{t:Ny}(ho:PE X o to)(hi:PE X i ti)(hs:Si X t)
  (ha:∀v,assign (.Subscript o i pos) X.env v=(do
   let ov <-holding [v] (eval o X.env)
   let iv <-holding [v,ov] (eval i X.env)
   standAt pos
   holding [v,ov,iv] (setItem ov iv v)
   release [v,ov,iv] []):=by intro _;rfl):PG X (.Subscript o i pos) (W' to ti t):=by
 intro pins s σ H v u Q I r h
 rw[ha]
 refine afe (afg (a7 (ho pins s σ H _ I h) λov s1 ⟨x,H1,I1,r1,q1⟩=>?_))
 refine afe (afg (a7 (hi pins s1 σ H1 _ I1 q1) λiv s2 ⟨y,H2,I2,r2,q2⟩=>?_))
 refine afe (wpAny_standAt (afe (afg (a7 (hs pins s2 σ H2 x y v ov iv u _ I2 r1 r2 r q2) λ_ s3 ⟨H3,I3,q3⟩=>?_))))
 exact wpAny_release ⟨σ,H3,I3,q3⟩
def Sj(te:TE)(g:TG):TS:=λD σ H=>te σ H λx H1=>g x σ H1 D.nx
theorem Ep{tg e:Expr}{te:TE}{g:TG}(he:PE X e te)(hg:PG X tg g)(hs:swapsWithSole [tg] e pos.line X.env=pure false:=by rfl)(hw:swappedStores [tg] e X.env=pure none:=by rfl)
  (h1:(assignEach [tg] X.env).map (·.2)=[assign tg X.env]:=by rfl):PS X (.Assign [tg] e pos) (Sj te g):=by
 intro pins s σ H D I h
 refine wpAny_Assign_stores (a7 (he pins s σ H _ I h) λv s1 ⟨x,H1,I1,r1,q1⟩=>?_) hs hw
 rw[h1]
 exact a7 (hg pins s1 σ H1 x v _ I1 r1 q1) λ_ s2 q=>q
theorem NA{i:Nat}{x:Str}{e:Expr}{te:TE}{pos':Pos}(hN:X.N.Nodup)(hi:X.N[i]? =some x)(hx:Loc X.env.scope x)(he:PE X e te)(hs:swapsWith e (some (.Name x pos')) pos.line X.env=pure false:=by rfl)(hf:X.fn x=true\/X.env.scope.names.lookup x=some .local:=by first | exact .inl rfl | exact .inr rfl | assumption) :
  PS X (.Assign [.Name x pos'] e pos) (Sj te (xk i)):=by
 intro pins s σ H D I h
 refine wpAny_Assign_Name (a7 (he pins s σ H _ I h) λv s1 ⟨y,H1,I1,r1,q1⟩=>?_) hs
 exact nT I1 hN hi hx r1 (λs2 I2=>⟨_,H1,I2,q1⟩) hf
def Xa(i:Nat)(te:TE)(ti:VI):TS:=λD σ H=>∃x,σ[i]? =some (some x)/\te σ H λy H1=>ti x y H1 λz H2=>D.nx (σ.set i (some z)) H2
theorem NB{i:Nat}{x:Str}{e:Expr}{te:TE}{op:Operator}{ti:VI}{pos':Pos}(hN:X.N.Nodup)(hi:X.N[i]? =some x)(hx:Loc X.env.scope x)(he:PE X e te)(ho:VJ X op ti)(hf:X.fn x=true\/X.env.scope.names.lookup x=some .local:=by first | exact .inl rfl | exact .inr rfl | assumption) :
  PS X (.AugAssign (.Name x pos') op e pos) (Xa i te ti):=by
 intro pins s σ H D I h
 obtain⟨v,e1,h⟩:=h
 obtain⟨m,hn,hl⟩:=I.loc
 have vis:VF X.env.scope x:=by rcases hx with k | k;exact .inl k;exact .inr (.inl k)
 obtain⟨u,r,l⟩:=hl i x v hi e1 vis
 refine wpAny_AugAssign_Name ?_
 have go:afd (model X.prog X.w) X.A (eval e X.env) (λw s₂=>afd (model X.prog X.w) X.A (inplaceOp op u w) (λr s₃=>afd (model X.prog X.w) X.A (storeName X.env x r) (λ_=>SP X pins D .next) X.xe s₃) X.xe s₂) X.xe s:=by
  refine a7 (he pins s σ H _ I h) λw s1 ⟨y,H1,I1,r1,q1⟩=>?_
  refine a7 (ho pins s1 σ H1 v y u w _ I1 r r1 q1) λz s2 ⟨zv,H2,I2,r2,q2⟩=>?_
  exact nT I2 hN hi hx r2 (λs3 I3=>⟨_,H2,I3,q2⟩) hf
 rcases l with ⟨hk,hm⟩ | ⟨hk,c,hc,hcell⟩
 ·exact wpAny_loadName_local I.ok.kind hk hn hm go
 ·rcases hk with hk | hk
  ·exact wpAny_loadName_cell I.ok.kind hk hc hcell go
  ·rcases hx with k | k
   ·have:X.env.scope.names.lookup x=some .free:=hk
    rw[k] at this;cases this
   ·have:X.env.scope.names.lookup x=some .free:=hk
    rw[k] at this;cases this
def Xb(f:Int->Int->Int):VI:=λx y H Q=>∃i j,x= .int i/\y= .int j/\Q (.int (f i j)) H
theorem NC:VJ X .Add (Xb λi j=>i+j):=by
 intro pins s σ H x y v u Q I r1 r2 h
 obtain⟨i,j,e1,e2,q⟩:=h
 subst e1;subst e2
 obtain⟨t,rfl⟩:=r1
 obtain⟨t',rfl⟩:=r2
 exact iadd_int ⟨.int _,H,I.tok _,⟨_,rfl⟩,q⟩
theorem ND:VJ X .Sub (Xb λi j=>i - j):=by
 intro pins s σ H x y v u Q I r1 r2 h
 obtain⟨i,j,e1,e2,q⟩:=h
 subst e1;subst e2
 obtain⟨t,rfl⟩:=r1
 obtain⟨t',rfl⟩:=r2
 exact isub_int ⟨.int _,H,I.tok _,⟨_,rfl⟩,q⟩
end
section
variable {X:Cx} {pos:Pos}
def NF(c:TT)(tb:TS):TS:=λD σ H=>∃W:Nat->St->Hp->Prop,(∃m,W m σ H)/\∀m σ H,W m σ H->
 c σ H λb H1=>if b=true then ∃N:St->Hp->Prop,(∀σ' H',N σ' H'->∃m',m' < m/\W m' σ' H')/\tb { D with nx:=N,ct:=N,bk:=D.nx } σ H1 else D.nx σ H1
theorem Er{c:Expr}{body:List Stmt}{tc:TT}{tb:TS}(hp:PassesOwn (model X.prog X.w) X.A X.env X.xe)(hc:PT X c tc)(hb:D_ X body tb):PS X (.While c body [] pos) (NF tc tb):=by
 intro pins s σ H D I h
 obtain⟨W,⟨m0,w0⟩,turn⟩:=h
 refine wpAny_While (codeAny_whileLoop (λn s'=>∃σ' H',Inv X pins σ' H' s'/\W n σ' H') ?_ m0 ⟨σ,H,I,w0⟩)
 rintro n s1 ⟨σ1,H1,I1,w1⟩
 refine wpAny_passesOwn hp (a7 (hc pins s1 σ1 H1 _ I1 (turn n σ1 H1 w1)) λb s2 ⟨H2,I2,q2⟩=>?_)
 cases b with
 | true=>
  obtain⟨N,hN,q2⟩:=q2
  rw[if_pos rfl]
  refine wpAny_passesOwn hp (a7 (hb pins s2 σ1 H2 _ I2 q2) λf s3 q3=>?_)
  cases f with
  | next=>
   obtain⟨σ3,H3,I3,n3⟩:=q3
   obtain⟨m',hm,w3⟩:=hN σ3 H3 n3
   exact⟨m',hm,σ3,H3,I3,w3⟩
  | cont=>
   obtain⟨σ3,H3,I3,n3⟩:=q3
   obtain⟨m',hm,w3⟩:=hN σ3 H3 n3
   exact⟨m',hm,σ3,H3,I3,w3⟩
  | brk=>exact q3
  | ret v=>exact q3
 | false=>
  rw[if_neg bt]
  exact wpAny_execs_nil ⟨σ1,H2,I2,q2⟩
end
structure It where
 go:Nat->Hp->Prop
 xl:Nat->Hp->V->Hp->Prop
 stop:Nat->Hp->Prop
def iE(X:Cx)(pins:List (aeU×Obj))(H:Hp)(b:aeU):Prop :=
 H b=none/\b≠X.env.locals/\b∉X.fs/\(b∈X.ex\/X.s₀.heap.objs.size<=b)/\(∀x c,X.env.cells.lookup x=some c->c≠b)/\∀p∈X.pn++pins,p.1≠b
theorem Inv.vo{X:Cx}{pins:List (aeU×Obj)}{σ:St}{H H':Hp}{s:aeZ}{b:aeU}(I:Inv X pins σ H s)(hb:s.heap.objs.size<=b)(hn:H' b=none):iE X pins H' b:=by
 refine⟨hn,Nat.ne_of_gt (bC I.lt hb),I.WY hb,.inr (ba I.sz hb),λx c e z=>?_,λp hp z=>?_⟩
 ·obtain⟨v,q⟩:=I.cell x c e
  exact absurd (bC q.lt (by rw[z];exact hb)) (cK _)
 ·exact absurd (bC (aK (I.pin p hp).1) (by rw[z];exact hb)) (cK _)
structure Turn(P:aeY)(w:ae1)(K:PySem.W.Frag)(tg:Expr)(J:It)(fp:List aeU)(it:aeU)(tn:Nat->Heap->Prop):Prop where
 mem:it∈fp
 obj:∀i h,tn i h->∀b∈fp,∃o,h.get? b=some o/\∀v,o.data≠.cell v
 keep:∀i h h',tn i h->(∀b∈fp,∀o,h.get? b=some o->h'.get? b=some o)->tn i h'
 item:∀(X:Cx),X.prog=P->X.w=w->X.K=K->X.calm=true->∀(i:Nat)(pins:List (aeU×Obj))(s:aeZ)(σ:St)(H:Hp)(E:ae0->aeZ->Prop),Inv X pins σ H s->(∀b∈fp,iE X pins H b)->tn i s.heap->J.go i H->
  afd (model P w) X.A (pyNext (.ref it)) (λr s1=>∃u,r=some u/\
   afd (model P w) X.A (letOwnedTupleGo tg (.ref it) u) (λ_ s2=>∃x H',Inv X pins σ H' s2/\RelV x u/\J.xl i H x H'/\tn (i+1) s2.heap/\∀b∈fp,H' b=none) E s1) E s
 done:∀(X:Cx),X.prog=P->X.w=w->X.K=K->X.calm=true->∀(i:Nat)(pins:List (aeU×Obj))(s:aeZ)(σ:St)(H:Hp)(E:ae0->aeZ->Prop),Inv X pins σ H s->(∀b∈fp,iE X pins H b)->tn i s.heap->J.stop i H->
  afd (model P w) X.A (pyNext (.ref it)) (λr s1=>r=none/\Inv X pins σ H s1) E s
 self:∀(A:aeV)(i:Nat)(s:aeZ)(Q:ae0->aeZ->Prop)(E:ae0->aeZ->Prop),tn i s.heap->Q (.ref it) s->afd (model P w) A (pyIter (.ref it)) Q E s
abbrev TI:=St->Hp->(It->Hp->Prop)->Prop
def VL(X:Cx)(pins:List (aeU×Obj))(σ:St)(tg:Expr)(R:It->Hp->Prop)(itv:ae0)(s2:aeZ):Prop :=
 ∃(it:aeU)(fp:List aeU)(tn:Nat->Heap->Prop)(J:It)(H':Hp),itv= .ref it/\Inv X pins σ H' s2/\Turn X.prog X.w X.K tg J fp it tn/\tn 0 s2.heap/\(∀b∈fp,iE X pins H' b)/\R J H'
def PI(X:Cx)(tg iter:Expr)(wi:TI):Prop :=
 ∀(pins:List (aeU×Obj))(s:aeZ)(σ:St)(H:Hp)(R:It->Hp->Prop),Inv X pins σ H s->wi σ H R->
  afd (model X.prog X.w) X.A (eval iter X.env) (λv s1=>afd (model X.prog X.w) X.A (pyIter v) (VL X pins σ tg R) X.xe s1) X.xe s
theorem qe{M:Model}{A:aeV}{E:ae0->aeZ->Prop}{s:aeZ}{tg:Expr}{it:aeU}{u:ae0}{o:Obj}{n:String}{vs:Array ae0}{Q:Unit->aeZ->Prop}(ho:s.heap.get? it=some o)(hc:o.cls= .type n)(hd:o.data= .fields vs)
    (hn:["enumerate","zip","dict_itemiterator","dict_reverseitemiterator","odict_iterator","itertools.zip_longest","itertools.pairwise"].contains n=false)(hQ:Q () s):afd M A (letOwnedTupleGo tg (.ref it) u) Q E s:=by
  unfold letOwnedTupleGo
  cases tg<;>first
    | exact afk hQ
    | (cases u<;>first
        | exact afk hQ
        | (refine afe (wpAny_load ho ?_)
           rw[hc,hd]
           show afd M A (if(["enumerate","zip","dict_itemiterator","dict_reverseitemiterator","odict_iterator","itertools.zip_longest","itertools.pairwise"].contains n&&vs[0]? == some (rawInt _))=true then _ else _) Q E s
           rw[if_neg (by intro h;rw[hn,AN] at h;cases h)]
           exact afk hQ))
def Xd(K:PySem.W.Frag)(a:aeU):It :=
 ⟨λi H=>∃xs x,kC K H a xs/\xs[i]? =some x,λi H x H'=>H'=H/\∀xs,kC K H a xs->xs[i]? =some x,λi H=>∃xs,kC K H a xs/\xs.length<=i⟩
def Itt(K:PySem.W.Frag)(a:aeU):It :=
 ⟨λi H=>∃xs x,ft K H a xs/\xs[i]? =some x,λi H x H'=>H'=H/\∀xs,ft K H a xs->xs[i]? =some x,λi H=>∃xs,ft K H a xs/\xs.length<=i⟩
def NG(lo:Int)(n:Nat):It:=⟨λi _=>i < n,λi H x H'=>H'=H/\x= .int (lo+i),λi _=>n<=i⟩
theorem uv{P:aeY}{w:ae1}{K:PySem.W.Frag}{tg:Expr}(a it:aeU):Turn P w K tg (Xd K a) [it] it (λi h=>h.IsListIter it a i) where
 mem:=by simp
 obj:=λi h st b hb=>by
  have e:b=it:=by simpa using hb
  subst e
  obtain⟨o,e,c,d⟩:=st
  exact⟨o,e,λv z=>by rw[d] at z;cases z⟩
 keep:=λi h h' st k=>st.at λo e=>k it (by simp) o e
 item:=by
  intro X hP hw hK hc i pins s σ H E I hf st hg
  subst hP hw hK
  obtain⟨xs,x,hq,hx⟩:=hg
  obtain⟨its,rv,p,hz⟩:=I.list hq
  obtain⟨u,hu,ru⟩:=rv.get hx
  obtain⟨f0,f1,f2,f3,f4,f5⟩:=hf it (by simp)
  refine wpAny_pyNext_list_item st p.isList (x:=u) (by simpa using hu) λh' st' sb=>?_
  have I1:Inv X pins σ H { s with heap:=h' }:=I.turned (t':=s.toks) (λb o hb e=>(sb.2 b hb).trans e) f0 f1 f3 f4 f5
  obtain⟨o,e,c,d⟩:=id st'
  exact⟨u,rfl,qe (s:={ s with heap:=h' }) e c d (by decide) ⟨x,H,I1,ru,⟨rfl,λys hy=>by rw[I.xj hy hq];exact hx⟩,st',λb hb=>(hf b hb).1⟩⟩
 done:=by
  intro X hP hw hK hc i pins s σ H E I hf st hg
  subst hP hw hK
  obtain⟨xs,hq,hx⟩:=hg
  obtain⟨its,rv,p,hz⟩:=I.list hq
  obtain⟨f0,f1,f2,f3,f4,f5⟩:=hf it (by simp)
  have hl:=rv.length
  exact wpAny_pyNext_list_end (I.ok.hd hc) st p.isList (by simp;omega) λh' eb=>⟨rfl,I.turned (t':=s.toks) (λb o hb e=>eb b o hb e) f0 f1 f3 f4 f5⟩
 self:=λ_ _ _ _ _ st h=>wpAny_pyIter_listiter st h
theorem zg{P:aeY}{w:ae1}{K:PySem.W.Frag}{tg:Expr}(a it:aeU):Turn P w K tg (Itt K a) [it] it (λi h=>h.IsTupleIter it a i) where
 mem:=by simp
 obj:=λi h st b hb=>by
  have e:b=it:=by simpa using hb
  subst e
  obtain⟨o,e,c,d⟩:=st
  exact⟨o,e,λv z=>by rw[d] at z;cases z⟩
 keep:=λi h h' st k=>st.at λo e=>k it (by simp) o e
 item:=by
  intro X hP hw hK hc i pins s σ H E I hf st hg
  subst hP hw hK
  obtain⟨xs,x,hq,hx⟩:=hg
  obtain⟨its,rv,p,hz⟩:=I.tuple hq
  obtain⟨u,hu,ru⟩:=rv.get hx
  obtain⟨f0,f1,f2,f3,f4,f5⟩:=hf it (by simp)
  refine wpAny_pyNext_tuple_item st (show s.heap.IsTuple a its.toArray from p) (x:=u) (by simpa using hu) λh' st' sb=>?_
  have I1:Inv X pins σ H { s with heap:=h' }:=I.turned (t':=s.toks) (λb o hb e=>(sb.2 b hb).trans e) f0 f1 f3 f4 f5
  obtain⟨o,e,c,d⟩:=id st'
  exact⟨u,rfl,qe (s:={ s with heap:=h' }) e c d (by decide) ⟨x,H,I1,ru,⟨rfl,λys hy=>by rw[I.Cz hy hq];exact hx⟩,st',λb hb=>(hf b hb).1⟩⟩
 done:=by
  intro X hP hw hK hc i pins s σ H E I hf st hg
  subst hP hw hK
  obtain⟨xs,hq,hx⟩:=hg
  obtain⟨its,rv,p,hz⟩:=I.tuple hq
  obtain⟨f0,f1,f2,f3,f4,f5⟩:=hf it (by simp)
  have hl:=rv.length
  exact wpAny_pyNext_tuple_end (I.ok.hd hc) st (show s.heap.IsTuple a its.toArray from p) (by simp;omega) λh' eb=>⟨rfl,I.turned (t':=s.toks) (λb o hb e=>eb b o hb e) f0 f1 f3 f4 f5⟩
 self:=λ_ _ _ _ _ st h=>wpAny_pyIter_tupleiter st h
theorem zh{P:aeY}{w:ae1}{K:PySem.W.Frag}{tg:Expr}(it:aeU)(lo:Int)(n:Nat):Turn P w K tg (NG lo n) [it] it (λi h=>IsRangeIter h it (lo+(i:Nat) * 1) ((n:Int) - (i:Nat)) 1) where
 mem:=by simp
 obj:=λi h st b hb=>by
  have e:b=it:=by simpa using hb
  subst e
  exact⟨_,st,λv z=>by
   have z':Data.fields _=Data.cell v:=z
   cases z'⟩
 keep:=λi h h' st k=>k it (by simp) _ st
 item:=by
  intro X hP hw hK hc i pins s σ H E I hf st hg
  subst hP hw hK
  obtain⟨f0,f1,f2,f3,f4,f5⟩:=hf it (by simp)
  have W:=Walks.range (prog:=X.prog) (w:=X.w) (I.ok.hd hc) it lo 1 n
  refine W.item i s _ _ hg st λv h' tk hv st' kk=>?_
  obtain⟨t,rfl⟩:=hv
  have I1:Inv X pins σ H { s with heap:=h',toks:=tk }:=I.turned (λb o hb e=>kk b o (by simpa using hb) e) f0 f1 f3 f4 f5
  refine⟨_,rfl,qe (s:={ s with heap:=h',toks:=tk }) (n:="range_iterator") st' rfl rfl (by decide) ⟨.int (lo+i),H,I1,⟨t,?_⟩,⟨rfl,rfl⟩,st',λb hb=>(hf b hb).1⟩⟩
  rw[Int.mul_one]
 done:=by
  intro X hP hw hK hc i pins s σ H E I hf st hg
  subst hP hw hK
  obtain⟨f0,f1,f2,f3,f4,f5⟩:=hf it (by simp)
  exact wpAny_pyNext_range_end (I.ok.hd hc) st (by have:n<=i:=hg;omega) λh' eb=>⟨rfl,I.turned (t':=s.toks) (λb o hb e=>eb b o hb e) f0 f1 f3 f4 f5⟩
 self:=λ_ _ _ _ _ st h=>wpAny_pyIter_rangeiter st h
section
variable {X:Cx} {tg:Expr}
def Sk(K:PySem.W.Frag)(tl:TE):TI:=λσ H R=>tl σ H λx H1=>∃a,x= .ref a/\(∃xs,kC K H1 a xs)/\R (Xd K a) H1
theorem Js{l:Expr}{tl:TE}(hl:PE X l tl):PI X tg l (Sk X.K tl):=by
 intro pins s σ H R I h
 refine a7 (hl pins s σ H _ I h) λv s1 ⟨x,H1,I1,r1,q1⟩=>?_
 obtain⟨a,e,⟨xs,hq⟩,q⟩:=q1
 subst e
 cases r1
 obtain⟨its,rv,p,hz⟩:=I1.list hq
 refine wpAny_pyIter_list p.isList ?_
 refine⟨s1.heap.objs.size,[s1.heap.objs.size],_,_,H1,rfl,I1.kept (t':=s1.toks) λb o e=>aS _ e,uv a _,⟨_,br _ rfl,rfl,rfl⟩,λb hb=>?_,q⟩
 have e:b=s1.heap.objs.size:=by simpa using hb
 subst e
 exact I1.vo (ao _) (I1.hok.fresh (ao _))
theorem Es{pins:List (aeU×Obj)}{σ:St}{H:Hp}{s:aeZ}{R:It->Hp->Prop}{E:ae0->aeZ->Prop}{lo hi:Int}{t u v:Tok}{tk:Nat}(I:Inv X pins σ H s)(h1:-(2 ^ 62)<=lo)(h2:lo < 2 ^ 62)(h3:-(2 ^ 62)<=hi)(h4:hi < 2 ^ 62)
  (q:R (NG lo (hi - lo).toNat) H):afd (model X.prog X.w) X.A (pyIter (.ref s.heap.objs.size)) (VL X pins σ tg R) E { s with heap:=s.heap.push { cls:=.type "range",data:=.fields #[.int lo t,.int hi u,.int 1 v] },toks:=tk }:=by
 refine wpAny_pyIter_range (IsRange.new ..) (small_one h1 h2 h3 h4) ?_
 have I1:Inv X pins σ H { s with heap:=s.heap.push { cls:=.type "range",data:=.fields #[.int lo t,.int hi u,.int 1 v] },toks:=tk }:=I.kept λb o e=>aS _ e
 refine⟨(s.heap.push { cls:=.type "range",data:=.fields #[.int lo t,.int hi u,.int 1 v] }).objs.size,[(s.heap.push { cls:=.type "range",data:=.fields #[.int lo t,.int hi u,.int 1 v] }).objs.size],_,_,H,rfl,
  I1.kept (t':=tk) λb o e=>aS _ e,zh _ lo (hi - lo).toNat,?_,λb hb=>?_,q⟩
 ·have e1:lo+((0:Nat):Int) * 1=lo:=by simp
  have e2:(((hi - lo).toNat:Nat):Int) - ((0:Nat):Int)=vp lo hi 1:=by rw[rangeSize_one];split<;>omega
  show IsRangeIter _ _ (lo+((0:Nat):Int) * 1) ((((hi - lo).toNat:Nat):Int) - ((0:Nat):Int)) 1
  rw[e1,e2]
  exact br _ rfl
 ·have e:b=(s.heap.push { cls:=.type "range",data:=.fields #[.int lo t,.int hi u,.int 1 v] }).objs.size:=by simpa using hb
  subst e
  exact I1.vo (ao _) (I1.hok.fresh (ao _))
def Sl(ta:TA):TI:=λσ H R=>ta σ H λvs H1=>∃j:Int,vs=[.int j]/\-(2 ^ 62)<=j/\j < 2 ^ 62/\R (NG 0 j.toNat) H1
theorem uw{a:Expr}{ta:TA}{p pos:Pos}(hg:Gl X "range")(hm:X.mg "range"=none)(ha:PA X [a] ta)(hs:afc [a] X.env=[(false,eval a X.env)]:=by rfl):PI X tg (.Call (.Name "range" p) [a] [] pos) (Sl ta):=by
 intro pins s σ H R I h
 refine Call_ (oZ I hg hm boot_range (vq (a7 (ha pos pins s σ H _ I h) λus s1 ⟨vs,H1,I1,r1,q1⟩=>?_) hs rfl))
 obtain⟨j,e,q1,q2,q⟩:=q1
 subst e
 cases r1 with
 | cons r rr=>
  cases rr
  obtain⟨t,rfl⟩:=r
  exact call_range_1 (Es I1 (by omega) (by omega) q1 q2 (by simpa using q))
def Xe(wi:TI)(g:TG)(tb:TS):TS:=λD σ H=>wi σ H λJ H1=>∃W:Nat->Nat->St->Hp->Prop,(∃m,W 0 m σ H1)/\∀i m σ H,W i m σ H->
 (J.stop i H/\D.nx σ H)\/(J.go i H/\∃N:St->Hp->Prop,(∀σ' H',N σ' H'->∃m',m' < m/\W (i+1) m' σ' H')/\∀x H',J.xl i H x H'->g x σ H' λσ2 H2=>tb { D with nx:=N,ct:=N,bk:=D.nx } σ2 H2)
def gW(fp:List aeU)(h:Heap):List (aeU×Obj):=fp.filterMap λb=>(h.get? b).map λo=>(b,o)
theorem jF{fp:List aeU}{h:Heap}{b:aeU}{o:Obj}(hb:b∈fp)(e:h.get? b=some o):(b,o)∈gW fp h:=List.mem_filterMap.mpr ⟨b,hb,by rw[e];rfl⟩
theorem CB{fp:List aeU}{h:Heap}{p:aeU×Obj}(hp:p∈gW fp h):p.1∈fp/\h.get? p.1=some p.2:=by
 obtain⟨b,hb,e⟩:=List.mem_filterMap.mp hp
 cases q:h.get? b with
 | none=>rw[q] at e;cases e
 | some o=>
  rw[q] at e
  have e':(b,o)=p:=Option.some.inj e
  subst e'
  exact⟨hb,q⟩
theorem Inv.pinned{pins:List (aeU×Obj)}{σ:St}{H:Hp}{s:aeZ}{fp:List aeU}(I:Inv X pins σ H s)(hf:∀b∈fp,iE X pins H b)(ho:∀b∈fp,∃o,s.heap.get? b=some o/\∀v,o.data≠.cell v):Inv X (pins++gW fp s.heap) σ H s :=
 I.AL λp hp=>(List.mem_append.mp hp).elim (λz=>I.pin p (eB _ z)) λz=>by
  obtain⟨hb,e⟩:=CB z
  obtain⟨f0,f1,f2,_⟩:=hf p.1 hb
  obtain⟨o,e',d⟩:=ho p.1 hb
  rw[e] at e';cases e'
  exact⟨e,f0,f1,f2,d⟩
theorem Inv.nU{pins pl:List (aeU×Obj)}{σ:St}{H:Hp}{s:aeZ}(I:Inv X (pins++pl) σ H s):Inv X pins σ H s:=I.AL λp hp=>I.pin p (eB _ (nR _ hp))
theorem mL{iter:Expr}{body:List Stmt}{wi:TI}{g:TG}{tb:TS}{pos:Pos}(hp:PassesOwn (model X.prog X.w) X.A X.env X.xe)(hc:X.calm=true)(hi:PI X tg iter wi)(hg:PG X tg g)(hb:D_ X body tb)
  (hs:∀x,ae8 iter X.env x=pure x:=by intro _;rfl):PS X (.For tg iter body [] pos) (Xe wi g tb):=by
 intro pins s σ H D I h
 refine wpAny_For (a7 (hi pins s σ H _ I h) λv s1 h1=>a7 h1 λitv s2 h2=>?_) hs
 obtain⟨it,fp,tn,J,H2,e,I2,T,st2,f2,W,⟨m0,w0⟩,turn⟩:=h2
 subst e
 -- what stays true of the NH objects through the loop
 have NI:∀{H':Hp},(∀b∈fp,H' b=none)->∀b∈fp,iE X pins H' b:=λhn b hb=>⟨hn b hb,(f2 b hb).2⟩
 refine codeAny_forLoop_any (λn s'=>∃i σ' H',Inv X pins σ' H' s'/\tn i s'.heap/\(∀b∈fp,H' b=none)/\W i n σ' H') ?_ m0 ⟨0,σ,H2,I2,st2,λb hb=>(f2 b hb).1,w0⟩
 rintro n s3 ⟨i,σ3,H3,I3,st3,fr3,w3⟩
 rcases turn i n σ3 H3 w3 with ⟨stop,qn⟩ | ⟨go,N,hN,step⟩
 ·refine wpAny_passesOwn hp (a7 (T.done X rfl rfl rfl hc i pins s3 σ3 H3 X.xe I3 (NI fr3) st3 stop) λr s4 ⟨hr,I4⟩=>?_)
  subst hr
  exact wpAny_execs_nil ⟨σ3,H3,I4,qn⟩
 ·refine wpAny_passesOwn hp (a7 (T.item X rfl rfl rfl hc i pins s3 σ3 H3 X.xe I3 (NI fr3) st3 go) λr s4 ⟨u,hr,h4⟩=>?_)
  subst hr
  refine wpAny_passesOwn hp (a7 h4 λ_ s5 ⟨x,H5,I5,r5,y5,Et,VM⟩=>?_)
  have I5':=I5.pinned (NI VM) (T.obj _ _ Et)
  refine wpAny_passesOwn hp (a7 (hg _ s5 σ3 H5 x u _ I5' r5 (step x H5 y5)) λ_ s6 ⟨σ6,H6,I6,q6⟩=>?_)
  refine wpAny_passesOwn hp (a7 (hb _ s6 σ6 H6 _ I6 q6) λf s7 q7=>?_)
  have again:∀{σ7:St}{H7:Hp},Inv X (pins++gW fp s5.heap) σ7 H7 s7->N σ7 H7->∃m,m < n/\∃i σ' H',Inv X pins σ' H' s7/\tn i s7.heap/\(∀b∈fp,H' b=none)/\W i m σ' H':=λ{σ7 H7} I7 n7=>by
   obtain⟨m',hm,w7⟩:=hN σ7 H7 n7
   refine⟨m',hm,i+1,σ7,H7,I7.nU,T.keep _ _ _ Et λb hb o e=>(I7.pin (b,o) (eB _ (eB _ (jF hb e)))).1,λb hb=>?_,w7⟩
   obtain⟨o,e,d⟩:=T.obj _ _ Et b hb
   exact(I7.pin (b,o) (eB _ (eB _ (jF hb e)))).2.1
  cases f with
  | next=>obtain⟨σ7,H7,I7,n7⟩:=q7;exact again I7 n7
  | cont=>obtain⟨σ7,H7,I7,n7⟩:=q7;exact again I7 n7
  | brk=>obtain⟨σ7,H7,I7,q7⟩:=q7;exact⟨σ7,H7,I7.nU,q7⟩
  | ret v=>obtain⟨x7,σ7,H7,I7,r7,q7⟩:=q7;exact⟨x7,σ7,H7,I7.nU,r7,q7⟩
end
abbrev R2:=V->V->Hp->VK->Prop
def ef(X:Cx)(f:ae0->ae0->Sem ae0)(r:R2):Prop :=
 ∀(pins:List (aeU×Obj))(s:aeZ)(σ:St)(H:Hp)(x y:V)(v u:ae0)(Q:VK),Inv X pins σ H s->RelV x v->RelV y u->r x y H Q->
  afd (model X.prog X.w) X.A (f v u) (EP X pins σ Q) X.xe s
def Xf(X:Cx)(f:ae0->Sem ae0)(r:V->Hp->VK->Prop):Prop :=
 ∀(pins:List (aeU×Obj))(s:aeZ)(σ:St)(H:Hp)(x:V)(v:ae0)(Q:VK),Inv X pins σ H s->RelV x v->r x H Q->
  afd (model X.prog X.w) X.A (f v) (EP X pins σ Q) X.xe s
def cA(X:Cx)(f:ae0)(r:List V->Hp->VK->Prop):Prop :=
 ∀(pins:List (aeU×Obj))(s:aeZ)(σ:St)(H:Hp)(xs:List V)(us:List ae0)(Q:VK),Inv X pins σ H s->Vals xs us->r xs H Q->
  afd (model X.prog X.w) X.A (call f us) (EP X pins σ Q) X.xe s
def Xg(X:Cx)(r:V->Hp->(Bool->Hp->Prop)->Prop):Prop :=
 ∀(pins:List (aeU×Obj))(s:aeZ)(σ:St)(H:Hp)(x:V)(v:ae0)(Q:Bool->Hp->Prop),Inv X pins σ H s->RelV x v->r x H Q->
  afd (model X.prog X.w) X.A (truthy v) (TP X pins σ Q) X.xe s
def Sn(r:R2)(ta tb:TE):TE:=λσ H Q=>ta σ H λx H1=>tb σ H1 λy H2=>r x y H2 Q
def tUn(r:V->Hp->VK->Prop)(ta:TE):TE:=λσ H Q=>ta σ H λx H1=>r x H1 Q
def rI(C:Int->Int->Prop)(g:Int->Int->V):R2:=λx y H Q=>∃i j,x= .int i/\y= .int j/\C i j/\Q (g i j) H
def L7(g:Int->Int->V):R2:=λx y H Q=>∃i j,x= .int i/\y= .int j/\Q (g i j) H
def rU(g:Int->V):V->Hp->VK->Prop:=λx H Q=>∃i,x= .int i/\Q (g i) H
section
variable {X:Cx} {a b c:Expr} {ta tb tc:TE} {pos:Pos}
theorem NJ(ha:PE X a ta)(hb:PE X b tb){pins:List (aeU×Obj)}{s:aeZ}{σ:St}{H:Hp}{R:V->V->Hp->Prop}(I:Inv X pins σ H s)
  (h:ta σ H λx H1=>tb σ H1 λy H2=>R x y H2){Q:ae0->aeZ->Prop}{f:ae0->ae0->Sem ae0}
  (hf:∀v u s2 x y H2,Inv X pins σ H2 s2->RelV x v->RelV y u->R x y H2->afd (model X.prog X.w) X.A (f v u) Q X.xe s2) :
  afd (model X.prog X.w) X.A (eval a X.env) (λv s₁=>afd (model X.prog X.w) X.A (eval b X.env) (λu s₂=>afd (model X.prog X.w) X.A (f v u) Q X.xe s₂) X.xe s₁) X.xe s:=by
 refine a7 (ha pins s σ H _ I h) λv s1 ⟨x,H1,I1,r1,q1⟩=>?_
 refine a7 (hb pins s1 σ H1 _ I1 q1) λu s2 ⟨y,H2,I2,r2,q2⟩=>?_
 exact hf v u s2 x y H2 I2 r1 r2 q2
theorem So{op:Operator}{r:R2}(ho:ef X (ae3 op) r)(ha:PE X a ta)(hb:PE X b tb):PE X (.BinOp a op b pos) (Sn r ta tb):=by
 intro pins s σ H Q I h
 exact wpAny_BinOp (NJ ha hb I h λv u s2 x y H2 I2 rx ry q=>ho pins s2 σ H2 x y v u Q I2 rx ry q)
theorem Sq{op:UnaryOp}{r:V->Hp->VK->Prop}(ho:Xf X (unaryOp op) r)(ha:PE X a ta):PE X (.UnaryOp op a pos) (tUn r ta):=by
 intro pins s σ H Q I h
 exact UnaryOp_ (a7 (ha pins s σ H _ I h) λv s1 ⟨x,H1,I1,r1,q1⟩=>ho pins s1 σ H1 x v Q I1 r1 q1)
theorem VN{f:ae0->ae0->Sem ae0}{C:Int->Int->Prop}{g:Int->Int->Int}
  (rule:∀(i j:Int)(t u:Tok)(s:aeZ)(Q:ae0->aeZ->Prop)(E:ae0->aeZ->Prop),C i j->Q (.int (g i j) s.toks) { s with toks:=s.toks+1 }->afd (model X.prog X.w) X.A (f (.int i t) (.int j u)) Q E s) :
  ef X f (rI C λi j=> .int (g i j)):=by
 intro pins s σ H x y v u Q I rx ry h
 obtain⟨i,j,rfl,rfl,hc,q⟩:=h
 obtain⟨t,rfl⟩:=rx
 obtain⟨t',rfl⟩:=ry
 exact rule i j t t' s _ _ hc ⟨.int (g i j),H,I.tok _,⟨_,rfl⟩,q⟩
theorem Sr{f:ae0->ae0->Sem ae0}{g:Int->Int->Int}
  (rule:∀(i j:Int)(t u:Tok)(s:aeZ)(Q:ae0->aeZ->Prop)(E:ae0->aeZ->Prop),Q (.int (g i j) s.toks) { s with toks:=s.toks+1 }->afd (model X.prog X.w) X.A (f (.int i t) (.int j u)) Q E s) :
  ef X f (L7 λi j=> .int (g i j)):=by
 intro pins s σ H x y v u Q I rx ry h
 obtain⟨i,j,rfl,rfl,q⟩:=h
 obtain⟨t,rfl⟩:=rx
 obtain⟨t',rfl⟩:=ry
 exact rule i j t t' s _ _ ⟨.int (g i j),H,I.tok _,⟨_,rfl⟩,q⟩
theorem Jt{f:ae0->ae0->Sem ae0}{g:Int->Int->Bool}
  (rule:∀(i j:Int)(t u:Tok)(s:aeZ)(Q:ae0->aeZ->Prop)(E:ae0->aeZ->Prop),Q (.bool (g i j)) s->afd (model X.prog X.w) X.A (f (.int i t) (.int j u)) Q E s) :
  ef X f (L7 λi j=> .bl (g i j)):=by
 intro pins s σ H x y v u Q I rx ry h
 obtain⟨i,j,rfl,rfl,q⟩:=h
 obtain⟨t,rfl⟩:=rx
 obtain⟨t',rfl⟩:=ry
 exact rule i j t t' s _ _ ⟨.bl (g i j),H,I,rfl,q⟩
def Xh(i j:Int):Prop:=0<=j/\j<=1000000/\i.natAbs < 2 ^ 64
theorem NK:ef X (ae3 .Add) (L7 λi j=> .int (i+j)):=Sr λ_ _ _ _ _ _ _ q=>add_int q
theorem NL:ef X (ae3 .Sub) (L7 λi j=> .int (i - j)):=Sr λ_ _ _ _ _ _ _ q=>sub_int q
theorem NM:ef X (ae3 .Pow) (rI Xh λi j=> .int (i ^ j.toNat)):=VN λ_ _ _ _ _ _ _ hc q=>pow_int_small hc.1 hc.2.1 hc.2.2 q
theorem unI{f:ae0->Sem ae0}{g:Int->Int}
  (rule:∀(i:Int)(t:Tok)(s:aeZ)(Q:ae0->aeZ->Prop)(E:ae0->aeZ->Prop),Q (.int (g i) s.toks) { s with toks:=s.toks+1 }->afd (model X.prog X.w) X.A (f (.int i t)) Q E s) :
  Xf X f (rU λi=> .int (g i)):=by
 intro pins s σ H x v Q I rx h
 obtain⟨i,rfl,q⟩:=h
 obtain⟨t,rfl⟩:=rx
 exact rule i t s _ _ ⟨.int (g i),H,I.tok _,⟨_,rfl⟩,q⟩
theorem NN:Xf X (unaryOp .USub) (rU λi=> .int (-i)):=unI λ_ _ _ _ _ q=>neg_int q
end
section
variable {X:Cx} {a b c:Expr} {ta tb tc:TE} {pos:Pos}
theorem vt{pins:List (aeU×Obj)}{σ:St}{H:Hp}{s:aeZ}{Q:VK}{k k':Bool}(I:Inv X pins σ H s)(q:Q (.bl k) H)(e:k=k'):EP X pins σ Q (.bool k') s:=by
 subst e
 exact⟨.bl k,H,I,rfl,q⟩
theorem Ss:ef X (ae7 .Lt) (L7 λi j=> .bl (decide (i < j))):=Jt λ_ _ _ _ _ _ _ q=>lt_int q
theorem Su:ef X (ae7 .LtE) (L7 λi j=> .bl (decide (i<=j))):=Jt λ_ _ _ _ _ _ _ q=>le_int q
theorem Sv:ef X (ae7 .Gt) (L7 λi j=> .bl (decide (j < i))):=Jt λ_ _ _ _ _ _ _ q=>gt_int q
theorem Sw:ef X (ae7 .GtE) (L7 λi j=> .bl (decide (j<=i))):=Jt λ_ _ _ _ _ _ _ q=>ge_int q
theorem CC:ef X (ae7 .Lt) (λx y H Q=>∃i j,x= .str i/\y= .str j/\Q (.bl (decide (i.cps.toList < j.cps.toList))) H):=by
 intro pins s σ H x y v u Q I rx ry h
 obtain⟨i,j,rfl,rfl,q⟩:=h
 obtain⟨t,rfl⟩:=rx
 obtain⟨t',rfl⟩:=ry
 exact lt_str (vt I q rfl)
theorem CD:ef X (ae7 .In) (λx y H Q=>∃i j,x= .str i/\y= .str j/\Q (.bl (!(zi j i 0 j.length 1).isEmpty)) H):=by
 intro pins s σ H x y v u Q I rx ry h
 obtain⟨i,j,rfl,rfl,q⟩:=h
 obtain⟨t,rfl⟩:=rx
 obtain⟨t',rfl⟩:=ry
 exact in_str (vt I q rfl)
theorem NO:ef X (ae7 .Is) (λx y H Q=>y= .aZ/\Q (.bl (decide (x= .aZ))) H):=by
 intro pins s σ H x y v u Q I rx ry h
 obtain⟨rfl,q⟩:=h
 cases ry
 refine is_none_gen (vt I q ?_)
 cases x<;>first
  | (cases rx;rfl)
  | (obtain⟨t,rfl⟩:=rx;rfl)
theorem Ju:ef X (ae7 .IsNot) (λx y H Q=>y= .aZ/\Q (.bl (!decide (x= .aZ))) H):=by
 intro pins s σ H x y v u Q I rx ry h
 obtain⟨rfl,q⟩:=h
 cases ry
 refine isnot_none_gen (vt I q ?_)
 cases x<;>first
  | (cases rx;rfl)
  | (obtain⟨t,rfl⟩:=rx;rfl)
theorem Jv{op:CmpOp}{r:R2}(ho:ef X (ae7 op) r)(ha:PE X a ta)(hb:PE X b tb)(hm:ae2 op b=false):PE X (.Compare a [op] [b] pos) (Sn r ta tb):=by
 intro pins s σ H Q I h
 exact wpAny_Compare1 (NJ ha hb I h λv u s2 x y H2 I2 rx ry q=>ho pins s2 σ H2 x y v u Q I2 rx ry q) hm
def L8(t:TE):TT:=λσ H Q=>t σ H λx H'=>∃k,x= .bl k/\Q k H'
theorem Jw{op:CmpOp}{r:R2}(ho:ef X (ae7 op) r)(ha:PE X a ta)(hb:PE X b tb)(hm:ae2 op b=false):PT X (.Compare a [op] [b] pos) (L8 (Sn r ta tb)):=by
 intro pins s σ H Q I h
 refine wpAny_isTrue_Compare1 (a7 (ha pins s σ H _ I h) λv s1 ⟨x,H1,I1,r1,q1⟩=>a7 (hb pins s1 σ H1 _ I1 q1) λu s2 ⟨y,H2,I2,r2,q2⟩=>
  a7 (ho pins s2 σ H2 x y v u _ I2 r1 r2 q2) λc s3 ⟨z,H3,I3,r3,k,e,q3⟩=>?_) hm
 subst e
 cases r3
 exact afl ⟨H3,I3,q3⟩
def zj(r r':R2)(ta tb tc:TE):TE:=λσ H Q=>ta σ H λx H1=>tb σ H1 λy H2=>r x y H2 λz H3=>∃k,z= .bl k/\
 (if k=true then tc σ H3 λw' H4=>r' y w' H4 Q else Q (.bl false) H3)
theorem Eu{op op':CmpOp}{r r':R2}(ho:ef X (ae7 op) r)(ho':ef X (ae7 op') r')(ha:PE X a ta)(hb:PE X b tb)(hc:PE X c tc)
  (hm:lastMarks [op,op'] [b,c]=false:=by with_unfolding_all rfl):PE X (.Compare a [op,op'] [b,c] pos) (zj r r' ta tb tc):=by
 intro pins s σ H Q I h
 refine Compare_chain (a7 (ha pins s σ H _ I h) λv s1 ⟨x,H1,I1,r1,q1⟩=>chain_link (a7 (hb pins s1 σ H1 _ I1 q1) λu s2 ⟨y,H2,I2,r2,q2⟩=>
  a7 (ho pins s2 σ H2 x y v u _ I2 r1 r2 q2) λd s3 ⟨z,H3,I3,r3,k,e,q3⟩=>?_)) hm
 subst e
 cases r3
 refine afl ?_
 cases k with
 | false=>exact ite_ff ⟨.bl false,H3,I3,rfl,q3⟩
 | true=>exact ite_tt (chain_last (a7 (hc pins s3 σ H3 _ I3 q3) λw' s4 ⟨z',H4,I4,r4,q4⟩=>ho' pins s4 σ H4 y z' u w' Q I4 r2 r4 q4))
theorem Ew{op op':CmpOp}{r r':R2}(ho:ef X (ae7 op) r)(ho':ef X (ae7 op') r')(ha:PE X a ta)(hb:PE X b tb)(hc:PE X c tc)
  (hm:lastMarks [op,op'] [b,c]=false:=by with_unfolding_all rfl):PT X (.Compare a [op,op'] [b,c] pos) (L8 (zj r r' ta tb tc)):=by
 intro pins s σ H Q I h
 refine isTrue_chain (a7 (ha pins s σ H _ I h) λv s1 ⟨x,H1,I1,r1,q1⟩=>test_link (a7 (hb pins s1 σ H1 _ I1 q1) λu s2 ⟨y,H2,I2,r2,q2⟩=>
  a7 (ho pins s2 σ H2 x y v u _ I2 r1 r2 q2) λd s3 ⟨z,H3,I3,r3,k,e,q3⟩=>?_)) hm
 subst e
 cases r3
 refine afl ?_
 cases k with
 | false=>
  obtain⟨k',e',q'⟩:=q3
  cases e'
  exact ite_ff ⟨H3,I3,q'⟩
 | true=>
  refine ite_tt (test_last (a7 (hc pins s3 σ H3 _ I3 q3) λw' s4 ⟨z',H4,I4,r4,q4⟩=>a7 (ho' pins s4 σ H4 y z' u w' _ I4 r2 r4 q4) λd' s5 ⟨z2,H5,I5,r5,k2,e2,q5⟩=>?_))
  subst e2
  cases r5
  exact afl ⟨H5,I5,q5⟩
def Sx(K:PySem.W.Frag)(x:V)(H:Hp)(k:Bool):Prop :=
 match x with
 | .aZ=>k=false
 | .bl b=>k=b
 | .int i=>k=(i != 0)
 | .str y=>y.length<=afb/\k=((y.length:Int) != 0)
 | .RD y=>y.size<=afb/\k=((y.size:Int) != 0)
 | .ref p=>(∃xs,kC K H p xs/\k= !xs.isEmpty)\/(∃xs,ft K H p xs/\k= !xs.isEmpty)\/∃kvs,H p=some (.dK kvs)/\k= !kvs.isEmpty
 | _=>False
theorem zk{κ:Type}{kvs:List (κ×V)}{vs:List (κ×ae0)}(r:KV kvs vs):(!vs.isEmpty)= !kvs.isEmpty:=by
 cases r<;>rfl
theorem rp{xs:List V}{its:List ae0}(r:Vals xs its):(!its.toArray.isEmpty)= !xs.isEmpty:=by
 cases r<;>simp
theorem mM:(afb:Nat) < 2 ^ 63:=by rw[sizeLine_eq];decide
theorem NP:Xg X (λx H Q=>∃k,Sx X.K x H k/\Q k H):=by
 intro pins s σ H x v Q I rx h
 obtain⟨k,e,q⟩:=h
 have hl:=mM
 have hs:afb=16777216:=sizeLine_eq
 cases x with
 | aZ=>
  cases rx
  have e':k=false:=e
  subst e'
  exact truthy_none ⟨H,I,q⟩
 | bl b=>
  cases rx
  have e':k=b:=e
  subst e'
  exact afl ⟨H,I,q⟩
 | int i=>
  obtain⟨t,rfl⟩:=rx
  have e':k=(i != 0):=e
  subst e'
  exact PySem.P.truthy_int ⟨H,I,q⟩
 | str y=>
  obtain⟨t,rfl⟩:=rx
  obtain⟨hy,e'⟩:y.length<=afb/\k=((y.length:Int) != 0):=e
  subst e'
  exact PySem.P.truthy_str (by omega) ⟨H,I.tok _,q⟩
 | RD y=>
  obtain⟨t,rfl⟩:=rx
  obtain⟨hy,e'⟩:y.size<=afb/\k=((y.size:Int) != 0):=e
  subst e'
  exact PySem.W.truthy_bytes (by omega) ⟨H,I.tok _,q⟩
 | ref p=>
  cases rx
  have e':(∃xs,kC X.K H p xs/\k= !xs.isEmpty)\/(∃xs,ft X.K H p xs/\k= !xs.isEmpty)\/∃kvs,H p=some (.dK kvs)/\k= !kvs.isEmpty:=e
  rcases e' with ⟨xs,hx,e'⟩ | ⟨xs,hx,e'⟩ | ⟨kvs,hx,e'⟩
  ·subst e'
   obtain⟨its,r,pl,hz⟩:=I.list hx
   have hlen:=r.length
   exact wpAny_truthy_list pl.isList (by simp only[aP];omega) ⟨H,I.tok _,by rw[rp r];exact q⟩
  ·subst e'
   obtain⟨its,r,pl,hz⟩:=I.tuple hx
   have hlen:=r.length
   exact truthy_tuple pl (by simp only[aP];omega) ⟨H,I.tok _,by rw[rp r];exact q⟩
  ·subst e'
   obtain⟨hz,hS,vs,r,m⟩:kvs.length<=afb/\(p == sysModules)=false/\∃vs,KV kvs vs/\s.heap.DictOf (aR X.prog X.w) p vs:=I.hok p _ hx
   have hlen:kvs.length=vs.length:=Paired.length r
   exact wpAny_truthy_dict hS m (by omega) ⟨H,I.tok _,by rw[zk r];exact q⟩
 | _=>exact(show False from e).elim
theorem Ex(ha:PE X a ta)(he:∀whole,isTrue a X.env whole=(do let v <-whole;standAt a.pos;holding [v] (truthy v))) :
  PT X a (λσ H Q=>ta σ H λx H'=>∃k,Sx X.K x H' k/\Q k H'):=by
 intro pins s σ H Q I h
 exact isTrue_plain (a7 (ha pins s σ H _ I h) λv s1 ⟨x,H1,I1,r1,q1⟩=>NP pins s1 σ H1 x v Q I1 r1 q1) (he _)
theorem zl:ef X (ae3 .Add) (λx y H Q=>∃i j,x= .str i/\y= .str j/\i.length+j.length<=afb/\Q (.str (i++j)) H):=by
 intro pins s σ H x y v u Q I rx ry h
 obtain⟨i,j,rfl,rfl,hz,q⟩:=h
 obtain⟨t,rfl⟩:=rx
 obtain⟨t',rfl⟩:=ry
 exact add_str (λt' tk=>⟨.str (i++j),H,I.tok _,⟨_,rfl⟩,q⟩) hz
theorem vals1{x:V}{us:List ae0}(r:Vals [x] us):∃u,us=[u]/\RelV x u:=by
 cases r with
 | cons r1 r2=>cases r2;exact⟨_,rfl,r1⟩
theorem vals2{x y:V}{us:List ae0}(r:Vals [x,y] us):∃u w',us=[u,w']/\RelV x u/\RelV y w':=by
 cases r with
 | cons r1 r2=>
  cases r2 with
  | cons r3 r4=>cases r4;exact⟨_,_,rfl,r1,r3⟩
theorem Ey:cA X (.builtin "abs") (λxs H Q=>∃i,xs=[.int i]/\Q (.int (if i < 0 then -i else i)) H):=by
 intro pins s σ H xs us Q I r h
 obtain⟨i,rfl,q⟩:=h
 obtain⟨u,rfl,t,rfl⟩:=vals1 r
 exact call_abs_int λu tk=>⟨.int (if i < 0 then -i else i),H,I.tok _,⟨_,rfl⟩,q⟩
theorem Ez:cA X (.builtin "ord") (λxs H Q=>∃x,xs=[.str x]/\x.length=1/\Q (.int (x.cps.getD 0 0:Nat)) H):=by
 intro pins s σ H xs us Q I r h
 obtain⟨x,rfl,hz,q⟩:=h
 obtain⟨u,rfl,t,rfl⟩:=vals1 r
 exact ord_of_one hz ⟨.int _,H,I.tok _,⟨_,rfl⟩,q⟩
end
section
variable {prog:aeY} {w:ae1} {A:aeV} {E:ae0->aeZ->Prop} {s:aeZ} {K:PySem.W.Frag} {x dx C f:aeU} {mA:Str->Option ae0} {name:Str} {v:ae0}
end
theorem nN.some_of{v:V}{o:Option ae0}(r:nN (some v) o):∃u,o=some u/\RelV v u:=by
 cases o with
 | none=>exact(show False from r).elim
 | some u=>exact⟨u,rfl,r⟩
section
variable {P:aeY} {w:ae1} {H H':Hp} {h h':Heap} {a C dx:aeU} {fs fs':List (Str×V)}
end
section
variable {X:Cx} {pins:List (aeU×Obj)} {σ:St} {H:Hp} {s:aeZ} {a C dx:aeU} {fs:List (Str×V)} {f:Str} {v:V} {A:aeV} {E:ae0->aeZ->Prop}
end
section
variable {X:Cx} {o e value:Expr} {f:Str} {pos pos' tpos:Pos} {ta tv:TE}
end
section
variable {X:Cx} {pins:List (aeU×Obj)} {σ:St} {H:Hp} {s:aeZ} {A:aeV} {E:ae0->aeZ->Prop} {Q:ae0->aeZ->Prop} {c:ae0} {b:Bool}
end
structure kD(k:Nat)(A:aeV):Prop where
 hd:A.handled=none
 dp:A.depth+3 * k+5 < recursionLimit
 un:A.units+16 * k+200 < cLine
theorem kD.mono{j k:Nat}{A:aeV}(r:kD k A)(h:j<=k):kD j A:=⟨r.hd,by have:=r.dp;omega,by have:=r.un;omega⟩
theorem kD.deeper{k:Nat}{A:aeV}(r:kD (k+1) A)(env:Env):kD k (A.deeper env) :=
 ⟨r.hd,by have:=r.dp;show A.depth+1+3 * k+5 < _;omega,by have:=r.un;show A.units+3+16 * k+200 < _;omega⟩
theorem kD.depth{k:Nat}{A:aeV}(r:kD k A):A.depth < recursionLimit:=by have:=r.dp;omega
def Xi:TA:=λ_ H Q=>Q [] H
def Sy(ta:TE)(tr:TA):TA:=λσ H Q=>ta σ H λx H1=>tr σ H1 λxs H2=>Q (x::xs) H2
section
variable {X:Cx} {e:Expr} {es:List Expr} {te:TE} {t:TA} {pos:Pos}
theorem NQ:PA X [] Xi:=λ_ _ _ _ H Q I h=>o_ ⟨[],H,I,.nil,h⟩
theorem Jx(ha:PE X e te)(hr:PA X es t)(hs:afc (e::es) X.env=(false,eval e X.env)::afc es X.env:=by rfl):PA X (e::es) (Sy te t):=by
 intro pos pins s σ H Q I h
 rw[hs]
 show afd _ _ (spliced ((false,eval e X.env)::backTo pos (afc es X.env))) _ _ s
 refine i5 (a7 (ha pins s σ H _ I h) λu s1 ⟨x,H1,I1,r1,q1⟩=>?_)
 exact a7 (hr pos pins s1 σ H1 _ I1 q1) λus s2 ⟨xs,H2,I2,r2,q2⟩=>⟨x::xs,H2,I2,.cons r1 r2,q2⟩
def Xj(t:TA):TE:=λσ H Q=>t σ H λxs H1=>xs.length<=afb/\∀p,H1 p=none->Q (.ref p) (upd H1 p (.tup xs))
def Xk(t:TA):TE:=λσ H Q=>t σ H λxs H1=>xs.length<=afb/\∀p,H1 p=none->Q (.ref p) (upd H1 p (.lst xs))
theorem NR{x1}(h:PA X es t):PE X (.Tuple es x1 pos) (Xj t):=by
 intro pins s σ H Q I hq
 refine wpAny_Tuple_spliced (a7 (h pos pins s σ H _ I hq) λus s1 ⟨xs,H1,I1,r,z,q⟩=>⟨by rw[<-r.length];exact z,?_⟩)
 have hf:H1 s1.heap.objs.size=none:=I1.hok.fresh (ao _)
 refine⟨.ref s1.heap.objs.size,upd H1 s1.heap.objs.size (.tup xs),I1.laid (t':=s1.toks) (λb u e=>aS _ e) (ao _) ?_,rfl,q _ hf⟩
 exact⟨z,us,r,⟨_,br _ rfl,rfl,_,rfl⟩,ze.new _ _⟩
theorem NT(h:PA X es t):PE X (.List es pos) (Xk t):=by
 intro pins s σ H Q I hq
 refine wpAny_List_spliced (a7 (h pos pins s σ H _ I hq) λus s1 ⟨xs,H1,I1,r,z,q⟩=>⟨by rw[<-r.length];exact z,?_⟩)
 have hf:H1 s1.heap.objs.size=none:=I1.hok.fresh (ao _)
 refine⟨.ref s1.heap.objs.size,upd H1 s1.heap.objs.size (.lst xs),I1.laid (t':=s1.toks) (λb u e=>aS _ e) (ao _) ?_,rfl,q _ hf⟩
 exact⟨z,us,0,r,br _ rfl⟩
end
abbrev Sp:=List V->Hp->VK->XK->Prop
abbrev Ea:=List Env->Hp->aeZ->XK->ae0->aeZ->Prop
structure EA(P:aeY)(w:ae1)(K:PySem.W.Frag)(mg:Str->Option ae0)(base:Heap)(A:aeV)(outer:List Env)(s:aeZ)(H:Hp):Prop where
 frames:A.frames=some outer
 mod:Mod K mg base
 bs:∀b o,base.get? b=some o->s.heap.get? b=some o/\H b=none
 RF:base.objs.size<=s.heap.objs.size
 tP:s.heap.FunFrames base outer
 R0:∀b∈frs outer,H b=none
 hok:kA P w H s.heap
 bare:AllBare s.gens
def CE(outer:List Env)(P:aeY)(w:ae1)(H:Hp)(s:aeZ)(Q:VK)(u:ae0)(s':aeZ):Prop :=
 ∃v H',s'.os=s.os/\AllBare s'.gens/\Un (frs outer) [] H H' s.heap s'.heap/\kA P w H' s'.heap/\RelV v u/\Q v H'
def CR(CX:Ea)(outer:List Env)(P:aeY)(w:ae1)(H:Hp)(s:aeZ)(Q:VK)(E:XK)(r:Result)(s':aeZ):Prop :=
 match r with
 | .ok (.ret u)=>CE outer P w H s Q u s'
 | .ok _=>False
 | .error e=>CX outer H s E e s'
structure FnOk(P:aeY)(w:ae1)(K:PySem.W.Frag)(mg:Str->Option ae0)(base:Heap)(CX:Ea)(k:Nat)(f:aeU)(fd:aeW)(ps:List Str)(sp:Sp):Prop where
 len:∀vs H Q E,sp vs H Q E->vs.length=ps.length
 run:∀(A:aeV)(outer:List Env)(s:aeZ)(H:Hp)(args:Args)(us:List ae0)(vs:List V)(Q:VK)(E:XK),kD k A->EA P w K mg base A outer s H->BindsTo s fd args (ps.zip us)->Vals vs us->sp vs H Q E->
  ae5 (model P w) A (.call (.ref f) args) (CR CX outer P w H s Q E) s
theorem FnOk.mono{P:aeY}{w:ae1}{K:PySem.W.Frag}{mg:Str->Option ae0}{base:Heap}{CX:Ea}{j k:Nat}{f:aeU}{fd:aeW}{ps:List Str}{sp:Sp}(F:FnOk P w K mg base CX j f fd ps sp)(h:j<=k) :
  FnOk P w K mg base CX k f fd ps sp:=⟨F.len,λA outer s H args us vs Q E hr=>F.run A outer s H args us vs Q E (hr.mono h)⟩
section
variable {X:Cx} {pins:List (aeU×Obj)} {σ:St} {H:Hp} {s s':aeZ}
theorem Inv.Xl(I:Inv X pins σ H s):EA X.prog X.w X.K X.mg X.base X.A X.stack s H :=
 ⟨I.ok.frames,I.ok.mod,I.bs,ba I.ok.RF I.sz,I.stack,I.vm,I.hok,I.bare⟩
theorem Inv.after{Q:VK}{u:ae0}(I:Inv X pins σ H s)(h:CE X.stack X.prog X.w H s Q u s'):EP X pins σ Q u s':=by
 obtain⟨v,H',os,bare,un,hok,r,q⟩:=h
 obtain⟨hh,g,d,t,os'⟩:=s'
 obtain rfl:os'=s.os:=os
 exact⟨v,H',I.call (h':=hh) (g':=g) (d':=d) (t':=t) (ch:=[]) un hok bare (λb z=>absurd z (by simp)),r,q⟩
end
def Binds(K:PySem.W.Frag)(fd:aeW)(ps:List Str)(ds:List ae0):Prop :=
 ∀(s:aeZ)(us:List ae0),K.In s.heap->(us++ds).length=ps.length->BindsTo s fd ⟨us,[]⟩ (ps.zip (us++ds))
theorem Binds.all{K:PySem.W.Frag}{fd:aeW}{ps:List Str}(h:∀us:List ae0,us.length=ps.length->bindArgs fd ⟨us,[]⟩=pure (ps.zip us)):Binds K fd ps []:=λs us _ hl=>by
 rw[mO] at hl ⊢
 exact .of_eq (h us hl)
section
variable {X:Cx} {CX:Ea} {k:Nat} {f C:aeU} {fd:aeW} {ps:List Str} {sp:Sp} {dvs:List V} {ds:List ae0} {E:XK} {x m:Str} {p pos apos:Pos} {e o:Expr} {es:List Expr} {ta:TE} {t:TA}
end
section
variable {X:Cx} {CX:Ea} {k:Nat} {f C:aeU} {fd:aeW} {ps ks:List Str} {sp:Sp} {E:XK} {x m:Str} {p pos apos kpos:Pos} {e o:Expr} {es:List Expr} {kws:List Keyword} {te ta:TE} {t tk:TA} {nm:Option Str}
variable {g:List ae0->List ae0->List ae0} {gV:List V->List V->List V}
end
structure FnScope(N P:List Str)(sc:Scope):Prop where
 kind:sc.kind= .function
 co:sc.isCoroutine=false
 gen:sc.isGenerator=false
 nd:N.Nodup
 pre:N.take P.length=P
 par:∀x∈P,sc.names.lookup x=some .local\/sc.names.lookup x=some .cell
 NU:∀y∈sc.names,y.2≠.free
theorem ux{kindOf:Str->Option aeX}{x:Str}:∀{binds:List (Str×ae0)}{m:Str->Option ae0},(∀v,(x,v)∉binds)->bindL kindOf binds m x=m x
 | [],_,_=>rfl
 | (n,v)::r,m,h=>by
  unfold bindL
  rw[ux λw hw=>h w (aI _ hw)]
  split
  ·have:x≠n:=by rintro rfl;exact h v aQ
   simp[this]
  ·rfl
theorem uy{kindOf:Str->Option aeX}{x:Str}:∀{binds:List (Str×ae0)}{m:Str->Option ae0},(∀v,(x,v)∉binds)->bindC kindOf binds m x=m x
 | [],_,_=>rfl
 | (n,v)::r,m,h=>by
  unfold bindC
  rw[uy λw hw=>h w (aI _ hw)]
  split
  ·rfl
  ·have:x≠n:=by rintro rfl;exact h v aQ
   simp[this]
theorem uz{kindOf:Str->Option aeX}{x:Str}{v:ae0}:∀{P:List Str}{vs:List ae0}{i:Nat}{m:Str->Option ae0},P.Nodup->P[i]? =some x->vs[i]? =some v->kindOf x=some .local->
  bindL kindOf (P.zip vs) m x=some v
 | [],_,_,_,_,h,_,_=>by simp at h
 | _::_,[],_,_,_,_,h,_=>by simp at h
 | p::P,w::vs,0,m,nd,h1,h2,hk=>by
  simp at h1 h2;subst h1;subst h2
  show bindL kindOf ((p,w)::P.zip vs) m p=_
  unfold bindL
  rw[ux λv hv=>(List.nodup_cons.mp nd).1 (AO hv).1,if_pos hk]
  simp
 | p::P,w::vs,i+1,m,nd,h1,h2,hk=>by
  show bindL kindOf ((p,w)::P.zip vs) m x=_
  unfold bindL
  exact uz (i:=i) (List.nodup_cons.mp nd).2 (by simpa using h1) (by simpa using h2) hk
theorem uA{kindOf:Str->Option aeX}{x:Str}{v:ae0}:∀{P:List Str}{vs:List ae0}{i:Nat}{m:Str->Option ae0},P.Nodup->P[i]? =some x->vs[i]? =some v->kindOf x≠some .local->
  bindC kindOf (P.zip vs) m x=some v
 | [],_,_,_,_,h,_,_=>by simp at h
 | _::_,[],_,_,_,_,h,_=>by simp at h
 | p::P,w::vs,0,m,nd,h1,h2,hk=>by
  simp at h1 h2;subst h1;subst h2
  show bindC kindOf ((p,w)::P.zip vs) m p=_
  unfold bindC
  rw[uy λv hv=>(List.nodup_cons.mp nd).1 (AO hv).1,if_neg hk]
  simp
 | p::P,w::vs,i+1,m,nd,h1,h2,hk=>by
  show bindC kindOf ((p,w)::P.zip vs) m x=_
  unfold bindC
  exact uA (i:=i) (List.nodup_cons.mp nd).2 (by simpa using h1) (by simpa using h2) hk
def start(N:List Str)(vs:List V):St:=vs.map some++aC (N.length - vs.length) none
def tQ(CX:Ea)(P:aeY)(w:ae1)(K:PySem.W.Frag)(mg:Str->Option ae0)(base:Heap)(N:List Str)(qual:Str)(scope:Scope)(f:aeU)(cd:ae0)(A:aeV)(outer:List Env)(s:aeZ)(H:Hp)(E:XK):Cx where
 prog:=P
 w:=w
 K:=K
 mg:=mg
 base:=base
 A:=A.deeper (envOfC qual scope s.heap.objs.size f cd)
 N:=N
 s₀:=s
 H₀:=H
 env:=envOfC qual scope s.heap.objs.size f cd
 outer:=outer
 stack:=envOfC qual scope s.heap.objs.size f cd::outer
 ex:=[]
 calm:=true
 fn:=λ_=>true
 pn:=[]
 xe:=λe s'=>afd (model P w) (A.deeper (envOfC qual scope s.heap.objs.size f cd)) (leaving (envOfC qual scope s.heap.objs.size f cd) e) (λ_ s''=>CX outer H s E e s'') (λe' s''=>CX outer H s E e' s'') s'
theorem xm{sc:Scope}{n:Nat}{x:Str}(h:sc.names.lookup x=some .cell):∃c,(cellsFrom n sc.names []).lookup x=some c:=by
 have q:=PySem.W.cellsFrom_some sc.names n [] (.inl h)
 exact Option.isSome_iff_exists.mp q
theorem CF{CX:Ea}{P:aeY}{w:ae1}{K:PySem.W.Frag}{mg:Str->Option ae0}{base:Heap}{N ps:List Str}{qual:Str}{scope:Scope}{f:aeU}{cd:ae0}{A:aeV}{outer:List Env}{s s1:aeZ}{H:Hp}{E:XK}{us:List ae0}{vs:List V}
  (S:FnScope N ps scope)(hd:A.handled=none)(e0:EA P w K mg base A outer s H)(hl:vs.length=ps.length)(r:Vals vs us)
  (x:InCallC s s.heap.objs.size (bindL (envOfC qual scope s.heap.objs.size f cd).kindOf (ps.zip us) λ_=>none) (cellsFrom (s.heap.objs.size+1) scope.names []) (bindC (envOfC qual scope s.heap.objs.size f cd).kindOf (ps.zip us) λ_=>none) s1) :
  Inv (tQ CX P w K mg base N qual scope f cd A outer s H E) [] (start N vs) H s1:=by
 have hpl:ps.length<=N.length:=by have:=congrArg b7 S.pre;rw[lM] at this;omega
 obtain⟨h1,tk,rfl,hk⟩:=x.done
 have Sz:∀b:aeU,b∉(tQ CX P w K mg base N qual scope f cd A outer s H E).ex:=λb z=>absurd (show b∈([]:List aeU) from z) (by simp)
 refine⟨⟨e0.mod,S.kind,rfl,rfl,ao _,λy z c h1 h2=>?_,λy hy=>?_,λy c _ h=>?_,λ_=>hd,Around.frames_deeper e0.frames,.inr ⟨rfl,rfl⟩,λb z=>absurd z (Sz b),e0.bs,e0.RF,λb _ _=>Sz b,λb z=>absurd z (Sz b),e0.tP,e0.R0⟩,
  rfl,e0.bare,Un.kept hk,⟨_,x.toInCall.ns,λi y v h1 h2 h3=>?_⟩,λy c h=>⟨_,x.cell y c h⟩,e0.hok.fresh (ao _),λy c h=>?_,λp hp=>absurd (show p∈([]:List (aeU×Obj)) from hp) (by simp),e0.hok.kept hk,?_⟩
 ·exact name_of_addr x.apart (PySem.mem_of_lookup h1) (PySem.mem_of_lookup h2)
 ·have hy:scope.names.lookup y=some .cell\/scope.names.lookup y=some .free:=hy
  rcases hy with hy | hy
  ·exact xm hy
  ·exact absurd rfl (S.NU _ (PySem.mem_of_lookup hy))
 ·exact vh (x.above y c (PySem.mem_of_lookup h))
 ·have hi:i < vs.length:=by
   unfold start at h2
   by_cases hi:i < vs.length
   ·exact hi
   ·rw[pe (by simpa using hi)] at h2
    rw[NV] at h2
    split at h2<;>cases h2
  have ha:vs[i]? =some v:=by
   unfold start at h2
   rw[gX (by simpa using hi),dQ] at h2
   cases e:vs[i]? with
   | none=>rw[e] at h2;cases h2
   | some a=>rw[e] at h2;cases h2;rfl
  obtain⟨u,hu,rv⟩:=r.get ha
  have hp:ps[i]? =some y:=by
   rw[<-S.pre,List.getElem?_take_of_lt (by omega)];exact h1
  have ndP:ps.Nodup:=by rw[<-S.pre];exact S.nd.sublist (AQ _ _)
  refine⟨u,rv,?_⟩
  rcases S.par y (vw hp) with k | k
  ·exact .inl ⟨k,uz ndP hp hu k⟩
  ·obtain⟨c,e⟩:=xm (n:=s.heap.objs.size+1) k
   refine .inr ⟨.inl k,c,e,?_⟩
   have q:=x.cell y c e
   rw[uA ndP hp hu (by show scope.names.lookup y≠_;rw[k];decide)] at q
   exact q
 ·exact e0.hok.fresh (vh (x.above y c (PySem.mem_of_lookup h)))
 ·unfold start
  show _=N.length
  rw[cS,bb,List.length_replicate]
  omega
theorem SD{CX:Ea}{P:aeY}{w:ae1}{K:PySem.W.Frag}{mg:Str->Option ae0}{base:Heap}{k:Nat}{f:aeU}{name qual:Str}{params:Arguments}{body:List Stmt}{scope:Scope}{dV kV doc pm cdv ct oc:ae0}{an od:Option aeU}
  {osl:Array (Option ae0)}{N ps:List Str}{sp:Sp}(lk:K.lookup f=some ⟨oc,od,.func (PySem.W.fnOf name qual params body scope dV kV doc pm an cdv ct),osl⟩)(hcd:PySem.W.codeIn K cdv qual=true)(S:FnScope N ps scope)
  (len:∀vs H Q E,sp vs H Q E->vs.length=ps.length)
  (hbody:∀(A:aeV)(outer:List Env)(s:aeZ)(H:Hp)(vs:List V)(Q:VK)(E:XK),kD k (A.deeper (envOfC qual scope s.heap.objs.size f cdv))->sp vs H Q E->
   ∃t,D_ (tQ CX P w K mg base N qual scope f cdv A outer s H E) body t/\t { nx:=λ_ H'=>Q .aZ H',rt:=Q } (start N vs) H) :
  FnOk P w K mg base CX (k+1) f (PySem.W.fnOf name qual params body scope dV kV doc pm an cdv ct) ps sp:=by
 refine⟨len,λA outer s H args us vs Q E hr e0 hb r RG=>?_⟩
 have hl:=len _ _ _ _ RG
 have KX:K.In s.heap:=e0.mod.RY.keeps λb o e=>(e0.bs b o e).1
 have lim:s.heap.NoLimit:=e0.mod.nolimit.keeps λb o e=>(e0.bs b o e).1
 have hkind:∀y∈ps.zip us,scope.names.lookup y.1=some .local\/(scope.names.lookup y.1=some .cell/\((cellsFrom (s.heap.objs.size+1) scope.names []).lookup y.1).isSome=true):=λ⟨n,v⟩ hy=>by
  rcases S.par n (AO hy).1 with q | q
  ·exact .inl q
  ·exact .inr ⟨q,PySem.W.cellsFrom_some _ _ _ (.inl q)⟩
 refine codeAny_call_function hr.depth (KX _ _ lk) rfl S.co S.gen rfl (PySem.W.codeRec_of KX hcd) (hb _ _ _ _ ?_)
 refine wpAny_newFunctionEnv_cells S.kind hkind λenv he s1 x=>?_
 subst he
 refine⟨lim.keeps x.toInCall.keep,codeAny_func ?_⟩
 obtain⟨t,ht,hq⟩:=hbody A outer s H vs Q E (hr.deeper _) RG
 have I:Inv (tQ CX P w K mg base N qual scope f cdv A outer s H E) [] (start N vs) H s1:=CF S hr.hd e0 hl r x
 refine afh (ht [] s1 (start N vs) H _ I hq) (λfl s' hs=>?_) λe s' hs=>hs
 have fin:∀{σ':St}{H':Hp}{v:V}{u:ae0},Inv (tQ CX P w K mg base N qual scope f cdv A outer s H E) [] σ' H' s'->RelV v u->Q v H'->CE outer P w H s Q u s' :=
  λ{σ' H' v u} J rv q=>⟨v,H',J.os,J.bare,J.base,J.hok,rv,q⟩
 cases fl with
 | ret u=>
  obtain⟨v,σ',H',J,rv,q⟩:=hs
  exact fin J rv q
 | next=>
  obtain⟨σ',H',J,q⟩:=hs
  exact fin (v:=V.aZ) (u:=a_) J rfl q
 | brk=>
  obtain⟨_,_,_,q⟩:=hs
  exact aa q
 | cont=>
  obtain⟨_,_,_,q⟩:=hs
  exact aa q
section
variable {X:Cx} {x:Str} {p pos:Pos} {e:Expr} {es:List Expr} {t:TA} {id T:String} {r:List V->Hp->VK->Prop}
def tCB(r:List V->Hp->VK->Prop)(t:TA):TE:=λσ H Q=>t σ H λvs H1=>r vs H1 Q
theorem EB(hc:cA X (.builtin id) r)(hg:Gl X x)(hm:X.mg x=none)(hv:ae4 x=some (.builtin id))(ha:PA X (e::es) t)(hn:x≠"__name__":=by decide)(hdb:(x == ("__debug__":Str))=false:=by decide)
  (he:afc (e::es) X.env=(false,eval e X.env)::afc es X.env:=by rfl)(hpl:(backTo pos (afc es X.env)).any (·.1)=false:=by rfl):PE X (.Call (.Name x p) (e::es) [] pos) (tCB r t):=by
 intro pins s σ H Q I h
 refine wpAny_Call_Name_kw (oZ I hg hm hv ?_ hn hdb)
 exact PyProof.Rows.callWith_builtin1 (a7 (ha pos pins s σ H _ I h) λus s1 ⟨vs,H1,I1,r1,q1⟩=>hc pins s1 σ H1 vs us Q I1 r1 q1) he hpl
theorem CG(hc:cA X (.type T) r)(hg:Gl X x)(hm:X.mg x=none)(hv:ae4 x=some (.type T))(ha:PA X (e::es) t)(hn:x≠"__name__":=by decide)(hdb:(x == ("__debug__":Str))=false:=by decide)
  (he:afc (e::es) X.env=(false,eval e X.env)::afc es X.env:=by rfl)(hpl:(backTo pos (afc es X.env)).any (·.1)=false:=by rfl):PE X (.Call (.Name x p) (e::es) [] pos) (tCB r t):=by
 intro pins s σ H Q I h
 refine wpAny_Call_Name_kw (oZ I hg hm hv ?_ hn hdb)
 exact vq (a7 (ha pos pins s σ H _ I h) λus s1 ⟨vs,H1,I1,r1,q1⟩=>hc pins s1 σ H1 vs us Q I1 r1 q1) he hpl
end
end L2
namespace HT
open PySem PyProof.Rows
section
open PySem.SeqAt
open PySem.AutoSeq1 (wpAny_loadPart')
open PySem.MeetsSeq PySem.MeetsSeq2 PySem.MeetsSeq3
end
section
variable {prog:aeY} {w:ae1} {A:aeV} {E:ae0->aeZ->Prop} {s:aeZ}
theorem Jy{t b:aeU}{vs ws:List ae0}{Q:ae0->aeZ->Prop}(ht:IsTup s.heap t vs.toArray)(hb:IsTup s.heap b ws.toArray)(hv:vs≠[])
  (h1:ws=[]->Q (.ref t) s)(h2:ws≠[]->Q (.ref s.heap.objs.size) { s with heap:=s.heap.push { cls:=.type "tuple",data:=.seq (vs++ws).toArray } })
  (hsz:vs.length+ws.length<=afb):afd (model prog w) A (ae3 .Add (.ref t) (.ref b)) Q E s:=by
 obtain⟨⟨cls,dd,data,sl⟩,ho,hc,n,hd⟩:=id ht
 obtain⟨⟨Xm,dd2,data2,sl2⟩,ho2,hc2,n2,hd2⟩:=id hb
 simp only at hc hd hc2 hd2
 subst hc hd hc2 hd2
 have e:vs.toArray++ws.toArray=(vs++ws).toArray:=by simp
 by_cases hw:ws=[]
 ·exact concat_meets ⟨_,ho,rfl⟩ ⟨_,ho2,rfl⟩ noFill_tuple_add seq_tuple_add PySem.F.slot_tuple_add PySem.F.entry_tuple_add (PySem.F.args_tuple_add_2 _ _)
   (tuple_addW1 t b vs.toArray ws.toArray n n2 dd dd2 sl sl2 (by simpa using hv) (by simp[hw])) ⟨ho,ho2,h1 hw⟩
 ·refine concat_meets ⟨_,ho,rfl⟩ ⟨_,ho2,rfl⟩ noFill_tuple_add seq_tuple_add PySem.F.slot_tuple_add PySem.F.entry_tuple_add (PySem.F.args_tuple_add_2 _ _)
   (tuple_addW2 t b vs.toArray ws.toArray n n2 dd dd2 sl sl2 (by simpa using hv) (by simpa using hw) (by rw[aP,aP];exact hsz)) ⟨ho,ho2,?_⟩
  rw[e]
  exact h2 hw
def dn(n d:Nat):Option Int->Nat
 | none=>d
 | some v=>if v < 0 then(v+(n:Int)).toNat else min v.toNat n
theorem NW(n d:Nat)(hd:d<=n)(o:Option Int):dn n d o<=n:=by
 cases o with
 | none=>exact hd
 | some v=>
  show(if v < 0 then(v+(n:Int)).toNat else min v.toNat n)<=n
  by_cases hv:v < 0
  ·rw[if_pos hv];omega
  ·rw[if_neg hv];exact AR _ _
theorem AS(v:Int)(n d:Nat):(if v < 0 then max (v+(n:Int)) 0 else min v (n:Int))=((dn n d (some v):Nat):Int):=by
 show(if v < 0 then max (v+(n:Int)) 0 else min v (n:Int))=(((if v < 0 then(v+(n:Int)).toNat else min v.toNat n):Nat):Int)
 by_cases hv:v < 0
 ·simp only[if_pos hv];omega
 ·simp only[if_neg hv];omega
theorem zm(lo hi:Option Int)(n:Nat):EC lo hi 1 (n:Int)=(((dn n 0 lo:Nat):Int),((dn n n hi:Nat):Int)):=by
 have h1:¬((1:Int) < 0):=by omega
 unfold EC
 simp only[h1,if_false]
 refine vx ?_ ?_
 ·cases lo with
  | none=>rfl
  | some v=>exact AS v n 0
 ·cases hi with
  | none=>rfl
  | some v=>exact AS v n n
theorem zo(i j:Nat):zp (i:Int) (j:Int) 1=j - i:=by
 unfold zp
 have h1:(1:Int) > 0:=by omega
 simp only[h1,if_true,Int.ediv_one]
 split<;>omega
theorem rA{v:ae0}{o:Option Int}{Q:Option Int->aeZ->Prop}(p:IsPart v o)(h:Q o s):afd (model prog w) A (Builtin.Slice.slicePartIndex v) Q E s:=by
 cases p with
 | none=>exact slicePart_none h
 | int i t=>exact slicePart_int h
theorem jo{sl:aeU}{vl vu:ae0}{lo hi:Option Int}{n:Nat}{Q:Int×Int×Nat->aeZ->Prop}(hs:s.heap.IsSliceOf sl vl vu .none)(pl:IsPart vl lo)(pu:IsPart vu hi)
  (h:Q (((dn n 0 lo:Nat):Int),1,dn n n hi - dn n 0 lo) s):afd (model prog w) A (NX (.ref sl) (pure (n:Int))) Q E s:=by
 obtain⟨os,hos,hcs,hds⟩:=id hs
 unfold NX Builtin.Slice.sliceFields
 refine afe (afe (wpAny_field hos hds (x:=vl) rfl (afe (wpAny_field hos hds (x:=vu) rfl (afe (wpAny_field hos hds (x:=.none) rfl (afk ?_)))))))
 refine afe (slicePart_none ?_)
 show afd _ _ (if((1:Int) == 0)=true then _ else _) _ _ s
 rw[if_neg (by decide)]
 refine afe (rA pl (afe (rA pu (afe (afk ?_)))))
 show afd _ _ (match EC lo hi 1 (n:Int) with | (lo,hi)=>pure (lo,(1:Int),zp lo hi 1)) _ _ s
 rw[zm lo hi n]
 show afd _ _ (pure (((dn n 0 lo:Nat):Int),(1:Int),zp ((dn n 0 lo:Nat):Int) ((dn n n hi:Nat):Int) 1)) _ _ s
 rw[zo]
 exact afk h
theorem ED(xs:Array ae0)(i k:Nat):((gq k).filterMap λ(m:Nat)=>xs[((i:Int)+(m:Int) * 1).toNat]?).toArray=((xs.toList.drop i).take k).toArray:=by
 have e:(λ(m:Nat)=>xs[((i:Int)+(m:Int) * 1).toNat]?)=λm=>xs[i+m]?:=by
  funext m
  have:((i:Int)+(m:Int) * 1).toNat=i+m:=by omega
  rw[this]
 rw[e]
 have:=pick_run xs i k
 rw[List.filterMap_map] at this
 have e2:((λx=>xs[x]?) ∘ λx=>i+x)=λm=>xs[i+m]?:=rfl
 rw[e2] at this
 rw[this]
theorem nV{t sl:aeU}{items:Array ae0}{vl vu:ae0}{lo hi:Option Int}{Q:ae0->aeZ->Prop}(ht:IsTup s.heap t items)(hs:s.heap.IsSliceOf sl vl vu .none)(pl:IsPart vl lo)(pu:IsPart vu hi)
  (hw:¬(dn items.size 0 lo=0/\dn items.size items.size hi=items.size))
  (h:Q (.ref s.heap.objs.size) { s with heap:=s.heap.push { cls:=.type "tuple",data:=.seq ((items.toList.drop (dn items.size 0 lo)).take (dn items.size items.size hi - dn items.size 0 lo)).toArray } })
  (hsz:items.size<=afb):afd (model prog w) A (getItem (.ref t) (.ref sl)) Q E s:=by
 have AU:sizeOk (.seq ((items.toList.drop (dn items.size 0 lo)).take (dn items.size items.size hi - dn items.size 0 lo)).toArray):=by
  show((items.toList.drop (dn items.size 0 lo)).take (dn items.size items.size hi - dn items.size 0 lo)).toArray.size<=afb
  rw[aP,lM,lN,AM]
  omega
 have hj:dn items.size items.size hi<=items.size:=NW _ _ (ao _) hi
 obtain⟨os,hos,hcs,hds⟩:=id hs
 have hTs:s.TypeIs (.ref sl) "slice":=⟨os,hos,hcs⟩
 unfold getItem
 try with_reducible refine afg ?_
 first | refine afe (afk ?_) | skip
 refine afe (wpAny_sequenceKey ht.typeIs (by decide) ?_)
 refine afe (wpAny_callSpecial?_slot (name:=jG "__getitem__") ht.typeIs vy
  (wpAny_call_entry vy ht.typeIs entry_tuple_getitem ?_ (args_tuple_getitem _ _)))
 show afd _ _ (NY (.ref t) >>= _) _ _ s
 refine afe (tupleItemsOf_ ht ?_)
 refine afe (wpAny_typeOf hTs ?_)
 rw[if_pos (by decide)]
 refine afe (jo hs pl pu ?_)
 have hno:¬((((dn items.size 0 lo:Nat):Int) == 0&&(1:Int) == 1&&(dn items.size items.size hi - dn items.size 0 lo) == items.size)=true):=by
  intro q
  rw[dZ,dZ] at q
  have q1:((dn items.size 0 lo:Nat):Int)=0:=eq_of_beq q.1.1
  have q2:dn items.size items.size hi - dn items.size 0 lo=items.size:=eq_of_beq q.2
  exact hw ⟨by omega,by omega⟩
 show afd _ _ (if(((dn items.size 0 lo:Nat):Int) == 0&&(1:Int) == 1&&(dn items.size items.size hi - dn items.size 0 lo) == items.size)=true then _ else _) _ _ s
 rw[if_neg hno,ED]
 first
  | exact afe (m:=zq _) (afj (afk ⟨_,rfl,afk h⟩) AU)
  | exact afe (m:=zq _) (afj (afe (afk (afk ⟨_,rfl,afk h⟩))) AU)
  | exact afe (afe (m:=zq _) (afj (afk (afk ⟨_,rfl,afk h⟩)) AU))
  | exact afe (afe (m:=zq _) (afj (afk ⟨_,rfl,afk h⟩) AU))
end
end HT
namespace L2
open PySem PySem.Spec PyProof.Rows
abbrev TO:=St->Hp->(Option Int->Hp->Prop)->Prop
def PO(X:Cx)(e:Option Expr)(t:TO):Prop :=
 ∀(pins:List (aeU×Obj))(s:aeZ)(σ:St)(H:Hp)(Q:Option Int->Hp->Prop),Inv X pins σ H s->t σ H Q->
  afd (model X.prog X.w) X.A (evalPart e X.env) (λu s'=>∃o H',Inv X pins σ H' s'/\IsPart u o/\Q o H') X.xe s
def Jz:TO:=λ_ H Q=>Q none H
def SF(t:TE):TO:=λσ H Q=>t σ H λx H1=>∃i,x= .int i/\Q (some i) H1
section
variable {X:Cx} {e:Expr} {te:TE} {lo hi:Option Expr} {tl th:TO} {pos p2:Pos}
theorem JB:PO X none Jz:=by
 intro pins s σ H Q I h
 rw[evalPart_none]
 exact afk ⟨none,H,I,.none,h⟩
theorem JC(h:PE X e te):PO X (some e) (SF te):=by
 intro pins s σ H Q I hw
 rw[evalPart_some]
 refine a7 (h pins s σ H _ I hw) λu s1 ⟨x,H1,I1,r1,q1⟩=>?_
 obtain⟨i,rfl,q⟩:=q1
 obtain⟨t,rfl⟩:=r1
 exact⟨some i,H1,I1,.int i t,q⟩
def Jb(X:Cx)(r:V->Option Int->Option Int->Hp->VK->Prop):Prop :=
 ∀(pins:List (aeU×Obj))(s:aeZ)(σ:St)(H:Hp)(x:V)(v vl vu:ae0)(lo hi:Option Int)(sl:aeU)(Q:VK),Inv X pins σ H s->RelV x v->s.heap.IsSliceOf sl vl vu .none->IsPart vl lo->IsPart vu hi->r x lo hi H Q->
  ∃T id,typeLookup (.type T) "__getitem__"=pure (some (.builtin id))/\s.TypeIs v T/\afd (model X.prog X.w) X.A (getItem v (.ref sl)) (EP X pins σ Q) X.xe s
theorem Jb.or{r r':V->Option Int->Option Int->Hp->VK->Prop}(h:Jb X r)(h':Jb X r'):Jb X (λx lo hi H Q=>r x lo hi H Q\/r' x lo hi H Q):=by
 intro pins s σ H x v vl vu lo hi sl Q I rx hs pl pu q
 rcases q with q | q
 ·exact h pins s σ H x v vl vu lo hi sl Q I rx hs pl pu q
 ·exact h' pins s σ H x v vl vu lo hi sl Q I rx hs pl pu q
def tSl(r:V->Option Int->Option Int->Hp->VK->Prop)(te:TE)(tl th:TO):TE:=λσ H Q=>te σ H λx H1=>tl σ H1 λl H2=>th σ H2 λu H3=>r x l u H3 Q
theorem rB{r:V->Option Int->Option Int->Hp->VK->Prop}(hr:Jb X r)(he:PE X e te)(hl:PO X lo tl)(hu:PO X hi th):PE X (.Subscript e (.Slice lo hi none p2) pos) (tSl r te tl th):=by
 intro pins s σ H Q I h
 refine Subscript_ (a7 (he pins s σ H _ I h) λv s1 ⟨x,H1,I1,r1,q1⟩=>?_)
 refine wpAny_Slice (a7 (hl pins s1 σ H1 _ I1 q1) λvl s2 ⟨l,H2,I2,pl,q2⟩=>a7 (hu pins s2 σ H2 _ I2 q2) λvu s3 ⟨u,H3,I3,pu,q3⟩=>?_)
 rw[evalPart_none]
 refine afk ?_
 have I4:Inv X pins σ H3 { s3 with heap:=s3.heap.push { cls:=.type "slice",data:=.fields #[vl,vu,.none] } }:=I3.kept (t':=s3.toks) λb ob q=>aS _ q
 obtain⟨T,id,hT,ht,hg⟩:=hr pins { s3 with heap:=s3.heap.push { cls:=.type "slice",data:=.fields #[vl,vu,.none] } } σ H3 x v vl vu l u s3.heap.objs.size Q I4 r1 (Heap.IsSliceOf.new ..) pl pu q3
 show afd (model X.prog X.w) X.A (subscriptTail e (.Slice lo hi none p2) v (.ref s3.heap.objs.size)) (EP X pins σ Q) X.xe { s3 with heap:=s3.heap.push { cls:=.type "slice",data:=.fields #[vl,vu,.none] } }
 exact tail_any (ops:=[.ref s3.heap.objs.size,v]) ht hT hg (by with_unfolding_all rfl)
def tR(xs:List V)(lo hi:Option Int):List V:=(xs.drop (HT.dn xs.length 0 lo)).take (HT.dn xs.length xs.length hi - HT.dn xs.length 0 lo)
theorem qf(xs:List V)(lo hi:Option Int):(tR xs lo hi).length<=xs.length:=by
 unfold tR
 rw[lM,lN]
 omega
def Xn(K:PySem.W.Frag):V->Option Int->Option Int->Hp->VK->Prop:=λx lo hi H Q=>∃a xs,x= .ref a/\ft K H a xs/\
 ¬(HT.dn xs.length 0 lo=0/\HT.dn xs.length xs.length hi=xs.length)/\∀p,H p=none->Q (.ref p) (upd H p (.tup (tR xs lo hi)))
theorem EE:Jb X (Xn X.K):=by
 intro pins s σ H x v vl vu lo hi sl Q I rx hs pl pu h
 obtain⟨a,xs,rfl,hx,hw,q⟩:=h
 cases rx
 obtain⟨its,r,ht,hz⟩:=I.tuple hx
 have hlen:its.toArray.size=xs.length:=by rw[aP];exact r.length.symm
 refine⟨"tuple",_,PyProof.Rows.slot_tuple_getitem.lookup,ht.typeIs,?_⟩
 refine HT.nV ht hs pl pu (by rw[hlen];exact hw) ?_ (by rw[hlen];exact hz)
 rw[hlen]
 refine⟨.ref s.heap.objs.size,_,I.laid (t':=s.toks) (o:=.tup (tR xs lo hi)) (λb ob q=>aS _ q) (ao _) ?_,rfl,q _ (I.hok.fresh (ao _))⟩
 exact⟨ba (qf xs lo hi) hz,_,(r.drop (HT.dn xs.length 0 lo)).take (HT.dn xs.length xs.length hi - HT.dn xs.length 0 lo),IsTup.new _ _,ze.new _ _⟩
def SG(K:PySem.W.Frag):R2:=λx y H Q=>∃a b xs ys,x= .ref a/\y= .ref b/\ft K H a xs/\ft K H b ys/\xs≠[]/\xs.length+ys.length<=afb/\
 (ys=[]->Q (.ref a) H)/\(ys≠[]->∀p,H p=none->Q (.ref p) (upd H p (.tup (xs++ys))))
theorem Vals.vz{xs:List V}{us:List ae0}(r:Vals xs us):us=[]↔xs=[]:=by
 cases r with
 | nil=>simp
 | cons _ _=>simp
theorem JD:ef X (ae3 .Add) (SG X.K):=by
 intro pins s σ H x y v u Q I rx ry h
 obtain⟨a,b,xs,ys,rfl,rfl,ha,hb,hx,hz,q1,q2⟩:=h
 cases rx
 cases ry
 obtain⟨its,r1,p1,_⟩:=I.tuple ha
 obtain⟨its2,r2,p2,_⟩:=I.tuple hb
 refine HT.Jy p1 p2 (λz=>hx (r1.vz.mp z)) (λz=>⟨.ref a,H,I,rfl,q1 (r2.vz.mp z)⟩) (λz=>?_) (by rw[<-r1.length,<-r2.length];exact hz)
 refine⟨.ref s.heap.objs.size,_,I.laid (t':=s.toks) (o:=.tup (xs++ys)) (λb ob q=>aS _ q) (ao _) ?_,rfl,q2 (λw=>z (r2.vz.mpr w)) _ (I.hok.fresh (ao _))⟩
 exact⟨by rw[cS];exact hz,_,r1.append r2,IsTup.new _ _,ze.new _ _⟩
end
def Eb(n:Nat)(i:Int):Option Nat:=if 0<=i then(if i < n then some i.toNat else none) else if -(n:Int)<=i then some (i+n).toNat else none
def rC{α:Type}(xs:List α)(i:Int):Option α:=(Eb xs.length i).bind λj=>xs[j]?
theorem AV{n:Nat}{i:Int}{j:Nat}(h:Eb n i=some j):seqIndex? i n=some j/\j < n/\-(n:Int)<=i/\i < n:=by
 unfold Eb at h
 by_cases h0:0<=i
 ·rw[if_pos h0] at h
  by_cases h1:i < n
  ·rw[if_pos h1] at h
   have e:i.toNat=j:=Option.some.inj h
   exact⟨by rw[seqIndex_of h0 h1,e],by omega,by omega,h1⟩
  ·rw[if_neg h1] at h;cases h
 ·rw[if_neg h0] at h
  by_cases h1:-(n:Int)<=i
  ·rw[if_pos h1] at h
   have e:(i+n).toNat=j:=Option.some.inj h
   exact⟨by rw[seqIndex_neg (by omega) h1,e],by omega,h1,by omega⟩
  ·rw[if_neg h1] at h;cases h
theorem qM{α:Type}{xs:List α}{i:Int}{v:α}(h:rC xs i=some v):∃j,seqIndex? i xs.length=some j/\xs[j]? =some v/\j < xs.length/\-(xs.length:Int)<=i/\i < xs.length:=by
 unfold rC at h
 cases e:Eb xs.length i with
 | none=>rw[e] at h;cases h
 | some j=>
  rw[e] at h
  obtain⟨h1,h2,h3,h4⟩:=AV e
  exact⟨j,h1,h,h2,h3,h4⟩
theorem qN{α:Type}{xs:List α}{j:Nat}{v:α}(h:xs[j]? =some v):rC xs (j:Int)=some v:=by
 have hj:j < xs.length:=(List.getElem?_eq_some_iff.mp h).1
 have e:Eb xs.length (j:Int)=some j:=by
  unfold Eb
  rw[if_pos (by omega),if_pos (by omega)];simp
 unfold rC;rw[e];exact h
def AX(b:Expr):Prop:=∀o i,subscripted b false o i=operate [o,i] (getItem o i)
def JF(X:Cx)(r:R2):Prop :=
 ∀(value slice:Expr)(pins:List (aeU×Obj))(s:aeZ)(σ:St)(H:Hp)(x y:V)(v u:ae0)(Q:VK),Inv X pins σ H s->RelV x v->RelV y u->r x y H Q->
  subscripted slice false v u=operate [v,u] (getItem v u)->afd (model X.prog X.w) X.A (subscriptTail value slice v u) (EP X pins σ Q) X.xe s
def Xo(X:Cx)(id:String)(r:V->List V->Hp->VK->Prop):Prop :=
 ∀(pins:List (aeU×Obj))(s:aeZ)(σ:St)(H:Hp)(x:V)(xs:List V)(v:ae0)(us:List ae0)(Q:VK),Inv X pins σ H s->RelV x v->Vals xs us->r x xs H Q->
  afd (model X.prog X.w) X.A (call (.builtin id) (v::us)) (EP X pins σ Q) X.xe s
section
variable {X:Cx} {a b:Expr} {ta tb:TE} {pos:Pos}
theorem JF.or{r r':R2}(h:JF X r)(h':JF X r'):JF X (λx y H Q=>r x y H Q\/r' x y H Q):=by
 intro value slice pins s σ H x y v u Q I rx ry q hs
 rcases q with q | q
 ·exact h value slice pins s σ H x y v u Q I rx ry q hs
 ·exact h' value slice pins s σ H x y v u Q I rx ry q hs
theorem SH{r:R2}(hr:JF X r)(ha:PE X a ta)(hb:PE X b tb)(hs:AX b):PE X (.Subscript a b pos) (Sn r ta tb):=by
 intro pins s σ H Q I h
 exact Subscript_ (NJ ha hb I h λv u s2 x y H2 I2 rx ry q=>hr a b pins s2 σ H2 x y v u Q I2 rx ry q (hs _ _))
def SI(K:PySem.W.Frag):R2:=λx y H Q=>∃p xs i v,x= .ref p/\y= .int i/\kC K H p xs/\rC xs i=some v/\Q v H
def SJ(K:PySem.W.Frag):R2:=λx y H Q=>∃p xs i v,x= .ref p/\y= .int i/\ft K H p xs/\rC xs i=some v/\Q v H
def SK:R2:=λx y H Q=>∃z i c,x= .str z/\y= .int i/\z.length<=afb/\rC z.cps.toList i=some c/\Q (.str ⟨#[c]⟩) H
theorem JG:JF X (SI X.K):=by
 intro value slice pins s σ H x y v u Q I rx ry h hs
 obtain⟨p,xs,i,z,rfl,rfl,hq,he,q⟩:=h
 cases rx
 obtain⟨t,rfl⟩:=ry
 obtain⟨its,r,pl,hz⟩:=I.list hq
 obtain⟨j,h1,h2,h3,h4,h5⟩:=qM he
 obtain⟨w,ew,rw'⟩:=r.get h2
 have hl:=r.length
 have hn:=mM
 have fin:EP X pins σ Q w s:=⟨z,H,I,rw',q⟩
 by_cases h0:0<=i
 ·have hj:i.toNat=j:=by
   rw[seqIndex_of h0 h5] at h1
   exact Option.some.inj h1
  exact item_listR pl.isList h0 (by omega) (by rw[hj];simpa using ew) fin hs
 ·have hj:(i+(its.toArray.size:Int)).toNat=j:=by
   rw[seqIndex_neg (by omega) h4] at h1
   rw[aP,<-hl]
   exact Option.some.inj h1
  exact subscriptTail_builtinR (x:=w) pl.isList.typeIs slot_list_getitem.lookup
   (wpAny_getItem_list_neg (Q:=λr s'=>r=w/\EP X pins σ Q r s') pl.isList (by omega) (by rw[aP]<;>omega) (by omega) (by rw[hj];simpa using ew) ⟨rfl,fin⟩) hs
theorem NZ:JF X (SJ X.K):=by
 intro value slice pins s σ H x y v u Q I rx ry h hs
 obtain⟨p,xs,i,z,rfl,rfl,hq,he,q⟩:=h
 cases rx
 obtain⟨t,rfl⟩:=ry
 obtain⟨its,r,pl,hz⟩:=I.tuple hq
 obtain⟨j,h1,h2,h3,h4,h5⟩:=qM he
 obtain⟨w,ew,rw'⟩:=r.get h2
 have hl:=r.length
 have hn:=mM
 have fin:EP X pins σ Q w s:=⟨z,H,I,rw',q⟩
 exact subscriptTail_builtinR (x:=w) pl.typeIs slot_tuple_getitem.lookup
  (getItem_tuple (j:=j) (Q:=λr s'=>r=w/\EP X pins σ Q r s') pl (by omega) (by omega) (by rw[aP,<-hl];exact h1) (by simpa using ew) ⟨rfl,fin⟩) hs
theorem N0:JF X SK:=by
 intro value slice pins s σ H x y v u Q I rx ry h hs
 obtain⟨z,i,c,rfl,rfl,hz,he,q⟩:=h
 obtain⟨t,rfl⟩:=rx
 obtain⟨t',rfl⟩:=ry
 obtain⟨j,h1,h2,h3,h4,h5⟩:=qM he
 have hl:z.cps.toList.length=z.length:=by simp[Str.length]
 rw[hl] at h1 h4 h5
 have hn:=mM
 exact tail_any (typeIs_str s z t) slot_str_getitem.lookup (getItem_str (c:=c) (by
  have e1:decide (i < -(2 ^ 63:Int))=false:=decide_eq_false (by omega)
  have e2:decide (i >= 2 ^ 63)=false:=decide_eq_false (by omega)
  rw[e1,e2,Bool.or_false]) (by rw[h1];simpa using h2) ⟨.str ⟨#[c]⟩,H,I.tok _,⟨_,rfl⟩,q⟩) hs
def rIx(K:PySem.W.Frag):R2:=λx y H Q=>SI K x y H Q\/SJ K x y H Q\/SK x y H Q
theorem N2:JF X (rIx X.K):=JG.or (NZ.or N0)
theorem zr(its:List ae0)(n j:Nat)(u:ae0):df (·.setIfInBounds j u) { cls:=.type "list",data:=.seq its.toArray n }={ cls:=.type "list",data:=.seq (its.set j u).toArray n }:=by
 simp[df]
theorem Inv.lst{pins:List (aeU×Obj)}{σ:St}{H:Hp}{s:aeZ}{p:aeU}{xs:List V}(I:Inv X pins σ H s)(h:H p=some (.lst xs)) :
  ∃(its:List ae0)(n:Nat),Vals xs its/\s.heap.get? p=some { cls:=.type "list",data:=.seq its.toArray n }/\xs.length<=afb:=by
 obtain⟨z,its,n,r,e⟩:=I.hok p _ h
 exact⟨its,n,r,e,z⟩
theorem Inv.N3{pins:List (aeU×Obj)}{σ:St}{H:Hp}{s:aeZ}{p:aeU}{xs ys:List V}{its its':List ae0}{n n':Nat}{f:Obj->Obj}(I:Inv X pins σ H s)(h:H p=some (.lst xs))
  (ho:s.heap.get? p=some { cls:=.type "list",data:=.seq its.toArray n })(hf:f { cls:=.type "list",data:=.seq its.toArray n }={ cls:=.type "list",data:=.seq its'.toArray n' })(r:Vals ys its')(hz:ys.length<=afb)(t:Nat) :
  Inv X pins σ (upd H p (.lst ys)) { s with heap:=s.heap.update p f,toks:=t }:=by
 have e:(s.heap.update p f).get? p=some { cls:=.type "list",data:=.seq its'.toArray n' }:=by
  rw[mP f ho (by rw[hf]<;>rfl),hf]
 refine I.write (x:=p) (e:=p) (by rw[h];trivial) (.inl rfl) (λb u hb q=>(rD _ _ (bI hb)).trans q) ⟨_,e⟩ ?_
 exact⟨hz,its',n',r,e⟩
def SM:V->V->V->Hp->(Hp->Prop)->Prop:=λo i v H Q=>∃p xs k j,o= .ref p/\i= .int k/\H p=some (.lst xs)/\Eb xs.length k=some j/\Q (upd H p (.lst (xs.set j v)))
theorem set_list:Si X SM:=by
 intro pins s σ H o i v ov iv u Q I ro ri rv h
 obtain⟨p,xs,k,j,rfl,rfl,hp,hj,q⟩:=h
 cases ro
 obtain⟨t,rfl⟩:=ri
 obtain⟨its,n,r,ho,hz⟩:=I.lst hp
 obtain⟨h1,h2,h3,h4⟩:=AV hj
 have hl:=r.length
 have hn:=mM
 have I':Inv X pins σ (upd H p (.lst (xs.set j v))) { s with heap:=s.heap.update p (df (·.setIfInBounds j u)) } :=
  I.N3 hp ho (zr its n j u) (r.set rv j) (by rw[List.length_set];exact hz) s.toks
 by_cases h0:0<=k
 ·have hk:k.toNat=j:=by
   rw[seqIndex_of h0 h4] at h1
   exact Option.some.inj h1
  exact PySem.W.ki_setAt ho h0 (by omega) (by rw[aP,<-hl];exact h4) (by rw[hk];exact⟨_,I',q⟩)
 ·have hk:(k+(its.toArray.size:Int)).toNat=j:=by
   rw[seqIndex_neg (by omega) h3] at h1
   rw[aP,<-hl]
   exact Option.some.inj h1
  exact PySem.W.ki_setBack ho (by omega) (by rw[aP,<-hl];exact h3) (by omega) (by rw[hk];exact⟨_,I',q⟩)
theorem vA(lo hi:Option Int)(n:Nat):(sliceBounds lo hi none n).1=((HT.dn n 0 lo:Nat):Int)/\(sliceBounds lo hi none n).2.1=((HT.dn n n hi:Nat):Int)/\(sliceBounds lo hi none n).2.2=1:=by
 refine⟨?_,?_,rfl⟩
 ·cases lo with
  | none=>simp[sliceBounds,HT.dn]
  | some i=>
   simp only[sliceBounds,HT.dn,Option.getD_none,show(1:Int) > 0 by decide,if_true]
   by_cases h:i < 0
   ·simp only[h,if_true]<;>omega
   ·simp only[h,if_false]<;>omega
 ·cases hi with
  | none=>simp[sliceBounds,HT.dn]
  | some i=>
   simp only[sliceBounds,HT.dn,Option.getD_none,show(1:Int) > 0 by decide,if_true]
   by_cases h:i < 0
   ·simp only[h,if_true]<;>omega
   ·simp only[h,if_false]<;>omega
theorem tS(its:List ae0)(lo hi:Option Int):slicePick its.toArray lo hi none=((its.drop (HT.dn its.length 0 lo)).take (HT.dn its.length its.length hi - HT.dn its.length 0 lo)).toArray:=by
 obtain⟨h1,h2,h3⟩:=vA lo hi its.toArray.size
 unfold slicePick
 rw[h1,h2,h3]
 simp only[sliceRange_one,pick_run,aP]<;>rfl
def Xp(K:PySem.W.Frag):V->Option Int->Option Int->Hp->VK->Prop:=λx lo hi H Q=>∃a xs,x= .ref a/\kC K H a xs/\∀p,H p=none->Q (.ref p) (upd H p (.lst (tR xs lo hi)))
theorem JH:Jb X (Xp X.K):=by
 intro pins s σ H x v vl vu lo hi sl Q I rx hs pl pu h
 obtain⟨a,xs,rfl,hx,q⟩:=h
 cases rx
 obtain⟨its,r,ht,hz⟩:=I.list hx
 have hlen:=r.length
 refine⟨"list",_,slot_list_getitem.lookup,ht.isList.typeIs,?_⟩
 refine wpAny_getItem_list_slice ht.isList hs pl pu .none (by simp) ?_ (by rw[aP]<;>omega)
 rw[tS,<-hlen]
 refine⟨.ref s.heap.objs.size,_,I.laid (t':=s.toks) (o:=.lst (tR xs lo hi)) (λb ob q=>aS _ q) (ao _) ?_,rfl,q _ (I.hok.fresh (ao _))⟩
 exact⟨ba (qf xs lo hi) hz,_,0,(r.drop (HT.dn xs.length 0 lo)).take (HT.dn xs.length xs.length hi - HT.dn xs.length 0 lo),br _ rfl⟩
def mz:V->Bool
 | .aZ=>true
 | .bl _=>true
 | .int _=>true
 | .str _=>true
 | _=>false
def JJ:V->V->Bool
 | .aZ,.aZ=>true
 | .bl a,.bl b=>a == b
 | .bl a,.int b=>(if a then 1 else 0) == b
 | .int a,.bl b=>a == (if b then 1 else 0)
 | .int a,.int b=>a == b
 | .str a,.str b=>a == b
 | _,_=>false
theorem N4{A:aeV}{s:aeZ}{y x:V}{u v:ae0}(ry:RelV y u)(rx:RelV x v)(fy:mz y=true)(fx:mz x=true):SeqAt.EqAt A s u v (JJ y x):=by
 cases y with
 | aZ=>
  cases ry
  cases x with
  | aZ=>cases rx;exact SeqAt.EqAt.same _
  | bl b=>cases rx;exact SeqAt.EqAt.none_bool b
  | int b=>obtain⟨t,rfl⟩:=rx;exact SeqAt.EqAt.none_int b t
  | str b=>obtain⟨t,rfl⟩:=rx;exact SeqAt.EqAt.none_str b t
  | _=>exact absurd (show false=true from fx) bt
 | bl a=>
  cases ry
  cases x with
  | aZ=>cases rx;exact SeqAt.EqAt.bool_none a
  | bl b=>cases rx;exact SeqAt.EqAt.bool_bool a b
  | int b=>obtain⟨t,rfl⟩:=rx;exact SeqAt.EqAt.bool_int a b t
  | str b=>obtain⟨t,rfl⟩:=rx;exact SeqAt.EqAt.bool_str a b t
  | _=>exact absurd (show false=true from fx) bt
 | int a=>
  obtain⟨t',rfl⟩:=ry
  cases x with
  | aZ=>cases rx;exact SeqAt.EqAt.int_none a t'
  | bl b=>cases rx;exact SeqAt.EqAt.int_bool a t' b
  | int b=>obtain⟨t,rfl⟩:=rx;exact SeqAt.EqAt.int_int a t' b t
  | str b=>obtain⟨t,rfl⟩:=rx;exact Jh a t' b t
  | _=>exact absurd (show false=true from fx) bt
 | str a=>
  obtain⟨t',rfl⟩:=ry
  cases x with
  | aZ=>cases rx;exact SeqAt.EqAt.str_none a t'
  | bl b=>cases rx;exact SeqAt.EqAt.str_bool a t' b
  | int b=>obtain⟨t,rfl⟩:=rx;exact Ji a t' b t
  | str b=>obtain⟨t,rfl⟩:=rx;exact SeqAt.EqAt.str_str a t' b t
  | _=>exact absurd (show false=true from fx) bt
 | _=>exact absurd (show false=true from fy) bt
def zt(x:V)(u:ae0):Bool:=match u with
 | .none=>JJ .aZ x
 | .bool b=>JJ (.bl b) x
 | .int i _=>JJ (.int i) x
 | .str z _=>JJ (.str z) x
 | _=>false
theorem EF{x y:V}{u:ae0}(r:RelV y u)(f:mz y=true):zt x u=JJ y x:=by
 cases y with
 | aZ=>cases r;rfl
 | bl b=>cases r;rfl
 | int i=>obtain⟨t,rfl⟩:=r;rfl
 | str z=>obtain⟨t,rfl⟩:=r;rfl
 | _=>exact absurd (show false=true from f) bt
theorem nW{x:V}:∀{xs:List V}{us:List ae0},Vals xs us->xs.all mz=true->us.any (zt x)=xs.any λy=>JJ y x
 | _,_,.nil,_=>rfl
 | y::xs,u::us,.cons r t,f=>by
  rw[fb,dZ] at f
  rw[fU,fU,EF r f.1,nW t f.2]
theorem kE{A:aeV}{s:aeZ}{x:V}{v:ae0}(rx:RelV x v)(fx:mz x=true):∀{xs:List V}{us:List ae0},Vals xs us->xs.all mz=true->∀u∈us,SeqAt.EqAt A s u v (zt x u)
 | _,_,.nil,_=>λu hu=>by cases hu
 | y::xs,u::us,.cons r t,f=>λu' hu=>by
  rw[fb,dZ] at f
  rcases List.mem_cons.mp hu with rfl | hu
  ·rw[EF r f.1];exact N4 r rx f.1 fx
  ·exact kE rx fx t f.2 u' hu
def VO(x:V)(xs:List V):Bool:=xs.any λy=>JJ y x
def rIn(K:PySem.W.Frag)(neg:Bool):R2:=λx y H Q=>∃p xs,y= .ref p/\(kC K H p xs\/ft K H p xs)/\mz x=true/\xs.all mz=true/\Q (.bl (if neg then !VO x xs else VO x xs)) H
theorem CH:ef X (ae7 .In) (rIn X.K false):=by
 intro pins s σ H x y v u Q I rx ry h
 obtain⟨p,xs,rfl,hq,fx,fs,q⟩:=h
 cases ry
 rcases hq with hq | hq
 ·obtain⟨its,r,pl,hz⟩:=I.list hq
  refine SeqAt.in_listAt (zt x) pl.isList (λw hw=>kE rx fx r fs w (by simpa using hw)) ⟨.bl _,H,I,rfl,?_⟩
  rw[show its.toArray.any (zt x)=its.any (zt x) by simp,nW r fs]
  exact q
 ·obtain⟨its,r,pl,hz⟩:=I.tuple hq
  refine SeqAt.in_tupleAt (zt x) pl (λw hw=>kE rx fx r fs w (by simpa using hw)) ⟨.bl _,H,I,rfl,?_⟩
  rw[show its.toArray.any (zt x)=its.any (zt x) by simp,nW r fs]
  exact q
theorem vB:ef X (ae7 .NotIn) (rIn X.K true):=by
 intro pins s σ H x y v u Q I rx ry h
 obtain⟨p,xs,rfl,hq,fx,fs,q⟩:=h
 cases ry
 rcases hq with hq | hq
 ·obtain⟨its,r,pl,hz⟩:=I.list hq
  refine SeqAt.notIn_listAt (zt x) pl.isList (λw hw=>kE rx fx r fs w (by simpa using hw)) ⟨.bl _,H,I,rfl,?_⟩
  rw[show its.toArray.any (zt x)=its.any (zt x) by simp,nW r fs]
  exact q
 ·obtain⟨its,r,pl,hz⟩:=I.tuple hq
  refine SeqAt.notIn_tupleAt (zt x) pl (λw hw=>kE rx fx r fs w (by simpa using hw)) ⟨.bl _,H,I,rfl,?_⟩
  rw[show its.toArray.any (zt x)=its.any (zt x) by simp,nW r fs]
  exact q
theorem vC:ef X (ae7 .NotIn) (λx y H Q=>∃i j,x= .str i/\y= .str j/\Q (.bl (!(!(zi j i 0 j.length 1).isEmpty))) H):=by
 intro pins s σ H x y v u Q I rx ry h
 obtain⟨i,j,rfl,rfl,q⟩:=h
 obtain⟨t,rfl⟩:=rx
 obtain⟨t',rfl⟩:=ry
 exact notIn_str ⟨.bl _,H,I,rfl,q⟩
theorem vD:cA X (.builtin "len") (λxs H Q=>∃p ys,xs=[.ref p]/\(kC X.K H p ys\/ft X.K H p ys)/\Q (.int ys.length) H):=by
 intro pins s σ H xs us Q I r h
 obtain⟨p,ys,rfl,hq,q⟩:=h
 obtain⟨u,rfl,rx⟩:=vals1 r
 cases rx
 have hn:=mM
 rcases hq with hq | hq
 ·obtain⟨its,r',pl,hz⟩:=I.list hq
  have hlen:=r'.length
  exact Calls.call_len_list pl.isList (by simp only[aP]<;>omega) ⟨.int ys.length,H,I.tok _,⟨s.toks+1,by rw[aP,hlen]⟩,q⟩
 ·obtain⟨its,r',pl,hz⟩:=I.tuple hq
  have hlen:=r'.length
  exact len_tuple pl (by simp only[aP]<;>omega) ⟨.int ys.length,H,I.tok _,⟨s.toks+1,by rw[aP,hlen]⟩,q⟩
theorem vE:cA X (.builtin "len") (λxs H Q=>∃z,xs=[.str z]/\z.length<=afb/\Q (.int z.length) H):=by
 intro pins s σ H xs us Q I r h
 obtain⟨z,rfl,hz,q⟩:=h
 obtain⟨u,rfl,t,rfl⟩:=vals1 r
 have hn:=mM
 exact len_str (by omega) ⟨.int z.length,H,I.tok _,⟨_,rfl⟩,q⟩
theorem cA.or{f:ae0}{r r':List V->Hp->VK->Prop}(h:cA X f r)(h':cA X f r'):cA X f (λxs H Q=>r xs H Q\/r' xs H Q):=by
 intro pins s σ H xs us Q I rs q
 rcases q with q | q
 ·exact h pins s σ H xs us Q I rs q
 ·exact h' pins s σ H xs us Q I rs q
theorem vF:cA X (.type "list") (λxs H Q=>∃p ys,xs=[.ref p]/\(kC X.K H p ys\/ft X.K H p ys)/\∀l,H l=none->Q (.ref l) (upd H l (.lst ys))):=by
 intro pins s σ H xs us Q I r h
 obtain⟨p,ys,rfl,hq,q⟩:=h
 obtain⟨u,rfl,rx⟩:=vals1 r
 cases rx
 have fin:∀(its:List ae0),Vals ys its->ys.length<=afb->∀(h':Heap)(c':Nat),(∀b o',s.heap.get? b=some o'->h'.get? b=some o')->
   h'.get? s.heap.objs.size=some { cls:=.type "list",dict:=none,data:=.seq its.toArray c',slots:=#[] }->EP X pins σ Q (.ref s.heap.objs.size) { s with heap:=h' }:=λits r' hz h' c' kp e=>
  ⟨.ref s.heap.objs.size,_,I.laid (t':=s.toks) kp (ao _) (show cH X.prog X.w _ h' _ (.lst ys) from⟨hz,its,c',r',e⟩),rfl,q _ (I.hok.fresh (ao _))⟩
 rcases hq with hq | hq
 ·obtain⟨its,r',pl,hz⟩:=I.list hq
  have hlen:=r'.length
  obtain⟨o,ho,hc,n,hd⟩:=pl.isList
  exact call_list_seq p (.inl rfl) ho hc hd (λh' c' kp e=>fin its r' hz h' c' kp e) (by simp only[aP]<;>omega)
 ·obtain⟨its,r',pl,hz⟩:=I.tuple hq
  have hlen:=r'.length
  obtain⟨o,ho,hc,n,hd⟩:=pl
  exact call_list_seq p (.inr rfl) ho hc hd (λh' c' kp e=>fin its r' hz h' c' kp e) (by simp only[aP]<;>omega)
theorem tT:cA X (.type "tuple") (λxs H Q=>∃p ys,xs=[.ref p]/\((kC X.K H p ys/\∀l,H l=none->Q (.ref l) (upd H l (.tup ys)))\/(ft X.K H p ys/\Q (.ref p) H))):=by
 intro pins s σ H xs us Q I r h
 obtain⟨p,ys,rfl,h⟩:=h
 obtain⟨u,rfl,rx⟩:=vals1 r
 cases rx
 rcases h with ⟨hq,q⟩ | ⟨hq,q⟩
 ·obtain⟨its,r',pl,hz⟩:=I.list hq
  have hlen:=r'.length
  refine call_tuple_list pl.isList (λh' kp=>?_) (by simp only[aP]<;>omega)
  have I1:Inv X pins σ H { s with heap:=h' }:=I.kept (t':=s.toks) kp
  have I2:Inv X pins σ (upd H h'.objs.size (.tup ys)) { s with heap:=h'.push { cls:=.type "tuple",data:=.seq its.toArray } } :=
   I1.laid (t':=s.toks) (λb o e=>aS _ e) (ao _) (show cH X.prog X.w _ _ _ (.tup ys) from⟨hz,its,r',IsTup.new _ _,ze.new _ _⟩)
  exact⟨.ref h'.objs.size,_,I2,rfl,q _ (I1.hok.fresh (ao _))⟩
 ·obtain⟨its,r',pl,hz⟩:=I.tuple hq
  exact call_tuple_same pl ⟨.ref p,H,I,rfl,q⟩
def VP(K:PySem.W.Frag)(T:String)(x:V)(H:Hp):Prop:=match x with
 | .str _=>T="str"
 | .int _=>T="int"
 | .ref p=>(T="list"/\∃xs,kC K H p xs)\/(T="tuple"/\((∃o,K.lookup p=some o/\o.cls= .type "tuple"/\o.dict=none)\/∃xs,H p=some (.tup xs)))\/
   (T="dict"/\((∃kvs,H p=some (.dK kvs))\/∃kvs,H p=some (.dT kvs)))\/(T="set"/\∃S n,H p=some (.set S n))
 | _=>False
theorem zu{pins:List (aeU×Obj)}{σ:St}{H:Hp}{s:aeZ}{T:String}{x:V}{v:ae0}(I:Inv X pins σ H s)(r:RelV x v)(ty:VP X.K T x H) :
  s.TypeIs v T/\∀a,v= .ref a->∃ob,s.heap.get? a=some ob/\ob.dict=none:=by
 cases x with
 | str z=>
  obtain⟨t,rfl⟩:=r
  cases (show T="str" from ty)
  exact⟨typeIs_str s z t,λ_ e=>nomatch e⟩
 | int i=>
  obtain⟨t,rfl⟩:=r
  cases (show T="int" from ty)
  exact⟨typeIs_int s i t,λ_ e=>nomatch e⟩
 | ref p=>
  cases r
  rcases ty with ⟨rfl,xs,hq⟩ | ⟨rfl,⟨o,hk,hc,hd⟩ | ⟨xs,hk⟩⟩ | ⟨rfl,hk⟩ | ⟨rfl,S,n,hk⟩
  ·obtain⟨its,_,pl,_⟩:=I.list hq
   refine⟨pl.isList.typeIs,λa e=>?_⟩
   cases e
   obtain⟨o,n,e,c,hd,_⟩:=pl
   exact⟨o,e,hd⟩
  ·refine⟨⟨o,I.AK p o hk,hc⟩,λa e=>?_⟩
   cases e
   exact⟨o,I.AK _ o hk,hd⟩
  ·obtain⟨_,_,_,⟨o,e1,e2,_⟩,nd⟩:=I.hok p _ hk
   refine⟨⟨o,e1,e2⟩,λa e=>?_⟩
   cases e
   exact⟨o,e1,nd o e1⟩
  ·have z:∃o,s.heap.get? p=some o/\o.ExactDict:=by
    rcases hk with ⟨kvs,hk⟩ | ⟨kvs,hk⟩
    ·obtain⟨_,_,_,_,o,_,_,e,ex,_⟩:=I.hok p _ hk
     exact⟨o,e,ex⟩
    ·obtain⟨_,_,_,_,o,_,_,e,ex,_⟩:=I.hok p _ hk
     exact⟨o,e,ex⟩
   obtain⟨o,e,ex⟩:=z
   refine⟨⟨o,e,ex.1⟩,λa e2=>?_⟩
   cases e2
   exact⟨o,e,ex.2.1⟩
  ·obtain⟨o,_,_,_,e,ex,_⟩:=I.hok p _ hk
   refine⟨⟨o,e,ex.1⟩,λa e2=>?_⟩
   cases e2
   exact⟨o,e,ex.2.1⟩
 | _=>exact aa ty
def tBM(K:PySem.W.Frag)(T:String)(r:V->List V->Hp->VK->Prop)(to:TE)(t:TA):TE:=λσ H Q=>to σ H λx H1=>VP K T x H1/\t σ H1 λxs H2=>r x xs H2 Q
variable {o e:Expr} {es:List Expr} {to:TE} {t:TA} {name:Str} {apos cpos:Pos} {T id:String} {r:V->List V->Hp->VK->Prop}
theorem SN(pa:PlainAttrs T)(slot:Slot T name id)(hty:typeOf (.builtin id)=pure (.type "method_descriptor"))(hm:Xo X id r)(ho:PE X o to)(ha:PA X (e::es) t)
  (hbase:attributeBase o name X.env (eval o X.env)=eval o X.env:=by rfl)
  (hfew:((backTo cpos (afc (e::es) X.env)).all (λx=> !x.1)&&(backToKw cpos (keywordEach [] X.env)).all (λx=>x.1.isSome)
   &&decide ((e::es).length+([]:List Keyword).length+(if([]:List Keyword).isEmpty then 0 else 1) < 30))=true:=by rfl)
  (hline:(apos.endLine == cpos.line)=true:=by rfl)(hs:afc (e::es) X.env=(false,eval e X.env)::afc es X.env:=by rfl)(hplain:(backTo cpos (afc es X.env)).any (·.1)=false:=by rfl) :
  PE X (.Call (.Attribute o name apos) (e::es) [] cpos) (tBM X.K T r to t):=by
 intro pins s σ H Q I h
 refine wpAny_Call_method_late hbase hfew hline rfl (a7 (ho pins s σ H _ I h) λv s1 ⟨x,H1,I1,r1,ty,q1⟩=>?_)
 obtain⟨h1,h2⟩:=zu I1 r1 ty
 refine⟨T,id,pa,slot,hty,h1,h2,?_⟩
 have hA:=ha cpos pins s1 σ H1 _ I1 q1
 rw[hs] at hA ⊢
 refine jH (by show(false||(backTo cpos (afc es X.env)).any (·.1))=false;rw[hplain]<;>rfl) (mQ ?_)
 exact a7 hA λus s2 ⟨vs,H2,I2,r2,q2⟩=>hm pins s2 σ H2 x vs v us Q I2 r1 r2 q2
/- xs.append(e),list.index on a EG tuple .. are Xo facts of 06m -/
end
def SQ(X:Cx)(id:String)(r:V->List V->Hp->VK->Prop):Prop :=
 ∀(pins:List (aeU×Obj))(s:aeZ)(σ:St)(H:Hp)(x:V)(xs:List V)(v:ae0)(us:List ae0)(Q:VK),Inv X pins σ H s->RelV x v->Vals xs us->r x xs H Q->
  afd (model X.prog X.w) X.A (call (.builtin id) (v::us)) (EP X pins σ Q) X.xe s
theorem Vals.one:∀{x:V}{us:List ae0},Vals [x] us->∃u,us=[u]/\RelV x u
 | _,_,.cons r .nil=>⟨_,rfl,r⟩
theorem Vals.zero:∀{us:List ae0},Vals [] us->us=[]
 | _,.nil=>rfl
theorem Vals.rep{xs:List V}{us:List ae0}(h:Vals xs us):∀k:Nat,Vals (aC k xs).flatten (aC k us).flatten
 | 0=> .nil
 | k+1=>by
  rw[gy,gy,rE,rE]
  exact Vals.append h (Vals.rep h k)
theorem foldl_rep(its:List ae0):∀(k:Nat)(acc:List ae0),
  List.foldl (λx1 x2=>x1++x2) acc.toArray (aC k its.toArray)=(acc++(aC k its).flatten).toArray
 | 0,acc=>by simp
 | k+1,acc=>by
  have e:acc.toArray++its.toArray=(acc++its).toArray:=by simp
  have e2:(acc++its)++(aC k its).flatten=acc++(aC (k+1) its).flatten:=by
   rw[gy,rE,kF]
  rw[<-e2,<-foldl_rep its k (acc++its),<-e,gy,EH]
section
variable {X:Cx} {pins:List (aeU×Obj)} {σ:St} {H:Hp} {s:aeZ} {l b:aeU} {xs ys zs:List V}
theorem Inv.EI{its its':List ae0}{n:Nat}{f:Array ae0->Array ae0}{t':Nat}(I:Inv X pins σ H s)(hH:H l=some (.lst xs))
  (e:s.heap.get? l=some { cls:=.type "list",data:=.seq its.toArray n })(hf:f its.toArray=its'.toArray)(hv:Vals ys its')(hz:ys.length<=afb) :
  Inv X pins σ (upd H l (.lst ys)) { s with heap:=s.heap.update l (df f),toks:=t' }:=by
 have q:=PySem.IsL.update e f
 rw[hf] at q
 refine I.write (x:=l) (e:=l) (by rw[hH];exact trivial) (.inl rfl) (λb' u hb hu=>(rD s.heap (df f) (bI hb)).trans hu) ⟨_,q⟩ ?_
 exact⟨hz,its',_,hv,q⟩
theorem Inv.N5{its:List ae0}{t':Nat}(I:Inv X pins σ H s)(hv:Vals ys its)(hz:ys.length<=afb) :
  Inv X pins σ (upd H s.heap.objs.size (.lst ys)) { s with heap:=s.heap.push { cls:=.type "list",data:=.seq its.toArray },toks:=t' } :=
 I.laid (λ_ _ q=>aS _ q) (ao _) ⟨hz,its,0,hv,br _ rfl⟩
theorem Inv.fresh(I:Inv X pins σ H s):H s.heap.objs.size=none:=I.hok.fresh (ao _)
theorem Inv.xn(I:Inv X pins σ H s)(hH:H l=some (.lst xs)):xs.length<=afb/\∃(its:List ae0)(n:Nat),Vals xs its/\xs.length=its.length/\s.heap.get? l=some { cls:=.type "list",data:=.seq its.toArray n }:=by
 obtain⟨z,its,n,r,e⟩:=I.hok l _ hH
 exact⟨z,its,n,r,r.length,e⟩
theorem rF{n:Nat}(h:n<=afb):rG n=false:=by
 unfold rG
 exact decide_eq_false (by omega)
end
section
variable {X:Cx}
def JK:V->List V->Hp->VK->Prop:=λx vs H Q=>∃l xs y,x= .ref l/\vs=[y]/\H l=some (.lst xs)/\xs.length < afb/\Q .aZ (upd H l (.lst (xs++[y])))
theorem CI:SQ X "list.append" JK:=by
 intro pins s σ H x vs v us Q I rx rv h
 obtain⟨l,xs,y,rfl,rfl,hH,hz,q⟩:=h
 cases rx
 obtain⟨u,rfl,ru⟩:=rv.one
 obtain⟨z,its,n,r,hl,e⟩:=I.xn hH
 refine call_meets F.slot_list_append ⟨_,e,rfl⟩ F.entry_list_append (F.args_list_append_2 _ _) (PySem.list_append l its.toArray n u (by rw[aP];omega)) ⟨e,?_⟩
 refine⟨.aZ,_,I.EI (its':=its++[u]) hH e (by simp) (r.append (.cons ru .nil)) ?_,rfl,q⟩
 rw[cS,List.length_singleton]
 omega
def JM:V->List V->Hp->VK->Prop:=λx vs H Q=>∃l b xs zs,x= .ref l/\vs=[.ref b]/\H l=some (.lst xs)/\H b=some (.lst zs)/\xs.length+zs.length<=afb/\Q .aZ (upd H l (.lst (xs++zs)))
theorem CJ:SQ X "list.extend" JM:=by
 intro pins s σ H x vs v us Q I rx rv h
 obtain⟨l,b,xs,zs,rfl,rfl,hH,hB,hz,q⟩:=h
 cases rx
 obtain⟨u,rfl,ru⟩:=rv.one
 cases ru
 obtain⟨z,its,n,r,hl,e⟩:=I.xn hH
 obtain⟨z2,its2,n2,r2,hl2,e2⟩:=I.xn hB
 have hsz:its.toArray.size+its2.toArray.size<=afb:=by rw[aP,aP];omega
 have xo:¬(!its.toArray.isEmpty&&rG (its.toArray.size+its2.toArray.size))=true:=by
  rw[rF hsz,Bool.and_false]
  exact bt
 refine call_meets F.slot_list_extend ⟨_,e,rfl⟩ F.entry_list_extend (F.args_list_extend_2 _ _)
  (AutoSeq1.list_extend_list_list_0 l its.toArray n b its2.toArray n2 xo (by rw[aP];omega) (by omega)) ⟨e,e2,?_⟩
 refine⟨.aZ,_,I.EI (its':=its++its2) hH e (by simp) (r.append r2) ?_,rfl,q⟩
 rw[cS]
 omega
def EJ:V->List V->Hp->VK->Prop:=λx vs H Q=>∃l xs,x= .ref l/\vs=[]/\H l=some (.lst xs)/\Q .aZ (upd H l (.lst []))
theorem EK:SQ X "list.clear" EJ:=by
 intro pins s σ H x vs v us Q I rx rv h
 obtain⟨l,xs,rfl,rfl,hH,q⟩:=h
 cases rx
 have Xq:=rv.zero
 subst Xq
 obtain⟨z,its,n,r,hl,e⟩:=I.xn hH
 refine call_meets F.slot_list_clear ⟨_,e,rfl⟩ F.entry_list_clear (F.args_list_clear_1 _) (AutoSeq1.list_clear_list_0 l its.toArray n (by rw[aP];omega)) ⟨e,?_⟩
 exact⟨.aZ,_,I.EI (its':=[]) (ys:=[]) hH e rfl .nil (bJ _),rfl,q⟩
def Xr:R2:=λx y H Q=>∃l k xs,x= .ref l/\y= .int k/\H l=some (.lst xs)/\-(2 ^ 63)<=k/\k < 2 ^ 63/\xs.length * k.toNat<=afb/\
 ∀p,H p=none->Q (.ref p) (upd H p (.lst (aC k.toNat xs).flatten))
theorem len_rep{α:Type}(xs:List α)(k:Nat):(aC k xs).flatten.length=k * xs.length:=by
 induction k with
 | zero=>simp
 | succ k ih=>rw[gy,rE,cS,ih,Nat.succ_mul,Nat.add_comm]
theorem N6:ef X (ae3 .Mult) Xr:=by
 intro pins s σ H x y v u Q I rx ry h
 obtain⟨l,k,xs,rfl,rfl,hH,h1,h2,hz,q⟩:=h
 cases rx
 obtain⟨t,rfl⟩:=ry
 obtain⟨z,its,n,r,hl,e⟩:=I.xn hH
 have hlen:its.toArray.size * k.toNat<=afb:=by rw[aP,<-hl];exact hz
 have hcap:¬its.toArray.size * k.toNat > (2 ^ 63 - 1) / 8:=by
  have:(afb:Nat)<=(2 ^ 63 - 1) / 8:=by decide
  omega
 have hfit:¬(!Builtin.List.listFitsIndex k)=true:=by
  rw[fitsIndex_both h1 h2]
  exact bt
 have xo:¬rG (its.toArray.size * k.toNat)=true:=by
  rw[rF hlen]
  exact bt
 have hnew:List.foldl (λx1 x2=>x1++x2) #[] (aC (if its.toArray.isEmpty=true then 0 else k.toNat) its.toArray)=(aC k.toNat its).flatten.toArray:=by
  have f0:∀m:Nat,List.foldl (λx1 x2=>x1++x2) #[] (aC m its.toArray)=(aC m its).flatten.toArray:=λm=>by
   have:=foldl_rep its m []
   rw[List.nil_append] at this
   exact this
  rw[f0]
  cases its with
  | nil=>simp
  | cons a r'=>rw[if_neg (by simp)]
 refine wpAny_binaryOp_repeat_ref (T:="list") (U:="int") (by decide) ⟨_,e,rfl⟩ (λs'=>typeIs_int s' k t) noFill_list_mul F.fills_int_mul F.slot_int_rmul repeat_list F.slot_int_index.lookup
  (call_meets F.slot_int_rmul (typeIs_int s k t) F.entry_int_rmul (F.args_int_rmul_2 _ _) (int___rmul___int_list k t l its.toArray n)
   ⟨e,rfl,⟨_,e,rfl⟩,call_meets F.slot_list_mul ⟨_,e,rfl⟩ F.entry_list_mul (F.args_list_mul_2 _ _) (AutoListH.list___mul___list_int_3 l its.toArray n k t hfit hcap xo) ⟨e,?_⟩⟩)
 rw[hnew]
 exact⟨.ref _,_,I.N5 (t':=s.toks) (r.rep k.toNat) (by rw[len_rep,Nat.mul_comm];exact hz),rfl,q _ I.fresh⟩
end
section
variable {prog:aeY} {w:ae1} {A:aeV} {E:ae0->aeZ->Prop} {s:aeZ}
set_option maxRecDepth 100000 in
end
section
variable {X:Cx}
end
end L2
namespace Att
open PySem PySem.W PySem.Calls PyProof.Rows
theorem qy{P:Params}{h:Heap}:∀(ns:List Int)(vs:List ae0),WellAll P h vs (ns.map WData.int)->IntsAre vs ns:=by
 intro ns
 induction ns with
 | nil=>
  intro vs w
  rw[List.map_nil] at w
  cases w
  exact .nil
 | cons n ns ih=>
  intro vs w
  rw[aB] at w
  cases w with
  | cons a b=>
   cases a
   exact .cons _ _ (ih _ b)
theorem CK{l:OpenLaw}{n:Nat}(hn:l.most=some n){P:Params}{h:Heap}{args:List WData}{vals:List ae0}
  (hpre:l.row.toRowW.claim.pre args=true)(hwl:WellAll P h vals args) :
  ∃a vs ns,vals=[ax a]/\args=[WData.list (ns.map WData.int)]/\h.get? a=some { cls:=.type "list",data:=.seq vs.toArray }/\IntsAre vs ns/\ns.length<=n:=by
 have hsh:WShape.hasAll [] args [.list .int]=true:=(pre_splitW hpre).1
 have hc:l.pre.holds [] { args:=args }=true:=(pre_splitW hpre).2
 obtain⟨d,r,rfl,h1,h2⟩:=hasAllW_cons hsh
 obtain rfl:=hasAllW_nil h2
 obtain⟨xs,rfl,h3⟩:=hasW_list h1
 obtain⟨ns,rfl⟩:=items_int h3
 have hlen:ns.length<=n:=by
  unfold OpenLaw.pre at hc
  have h4:(WTm.not (.lt (.lit (.int (n:Int))) (.len (.arg 0)))).holds [] { args:=[.list (ns.map .int)] }=true:=by
   have h4:=(holds_andW hc).1
   rw[hn] at h4
   exact h4
  have h5:=condW_of h4 (w_not (w_lt w_lit (w_len_list (w_arg rfl))))
  rw[bb] at h5
  refine Nat.le_of_not_lt λq=>?_
  have q':(n:Int) < ((ns.length:Nat):Int):=by omega
  first
   | (rw[decide_eq_true q'] at h5;exact absurd h5 (by decide))
   | (simp at h5;omega)
 cases hwl with
 | cons w1 w2=>
  cases w2
  cases w1 with
  | list ho hall=>exact⟨_,_,ns,rfl,rfl,ho,qy ns _ hall,hlen⟩
theorem CL(l:OpenLaw)(args:List WData):l.row.toRowW.claim.post args (.bool true) args=true :=
 postW_of (r:=l.row.toRowW) (X:=(true == true))
  (show WShape.has [] (.bool true) .bool=true by first | rfl | decide | simp[WShape.has,WShape.arms,WShape.armsAll])
  (show(WTm.eq .res (.lit (.bool true))).value [] { args:=args,res:=some (.bool true),after:=args }=some (.bool (true == true)) from w_eq_bool (w_res rfl) w_lit) rfl
theorem xp{l:OpenLaw}{n:Nat}{q:aeY}{loose:List Str}{XP:(Str->Option ae0)->Heap->Prop}{YP:ae1->Heap->Prop}{d:DefRec}
  (hn:l.most=some n)(hdf:d.params.defaults=[])
  (call:∀(w:ae1)(s₀ s₁:aeZ)(mg mb:Str->Option ae0)(fa:aeU)(o:Obj)(pm cd doc:ae0)(a:aeU)(vs:List ae0)(ns:List Int),
   Ground q loose [] XP w s₀ mg mb s₁.heap->YP w s₁.heap->
   s₁.heap.get? fa=some o->o.data= .func (docDef d.name d.params d.body d.scope pm cd doc)->s₁.heap.CodeRec cd d.name->mg d.name=some (.ref fa)->
   s₁.heap.get? a=some { cls:=.type "list",data:=.seq vs.toArray }->IntsAre vs ns->ns.length<=n->s₁.gens=#[]->
   ae5 (model l.prog w) callerA (.call (.ref fa) ⟨[.ref a],[]⟩) (λr s'=>r= .ok (.ret (.bool true))/\OldK s₁.heap s'.heap/\s'.os=s₁.os/\AllBare s'.gens) s₁) :
  WalkO q loose XP YP l.row.toRowW d [] (λf vs=>PySem.call f vs):=by
 intro w s₀ s₁ mg mb G Y fa o pm cd doc dV kV ho hd hcd hD hmg hg args vals as hpre hlay hrd hwl hlo
 obtain rfl:dV= .none:=Dflts.none hD hdf
 obtain rfl:kV= .none:=Dflts.noKw hD
 obtain⟨a,vs,ns,rfl,rfl,hobj,hints,hlen⟩:=CK hn hpre hwl
 refine enter_call (codeAny_mono (call w s₀ s₁ mg mb fa o pm cd doc a vs ns G Y ho (fd_plain hd) hcd hmg hobj hints hlen hg) λr s' hq=>?_)
 obtain⟨rfl,h2,h3,h4⟩:=hq
 exact⟨.inl ⟨.bool true,.bool true,[],rfl,λ_=>rfl,.bool true,CL l _,λ_=>⟨List.Pairwise.nil,λ_ hm=>(nomatch hm)⟩⟩,h2,h3,h4⟩
section
variable {prog:aeY} {w:ae1} {A:aeV} {E:ae0->aeZ->Prop} {s:aeZ} {K:Frag}
def mR(h:Heap):Heap:={ h with objs:=#[] }
theorem bQ(h:Heap)(b:aeU):(mR h).get? b=none:=by
 cases e:(mR h).get? b with
 | none=>rfl
 | some o=>exact absurd (aK e) (Nat.not_lt_zero _)
theorem vG{h:Heap}{L:aeU}{m:Str->Option ae0}(n:h.Ns L m):Fr (mR h) L h m :=
 ⟨n,λb o e=>(by rw[bQ] at e;cases e),bJ _⟩
end
end Att
namespace L2
open PySem PySem.Spec PyProof.Rows
theorem uB:∀{vs:List ae0}{ns:List Int},IntsAre vs ns->Vals (ns.map V.int) vs
 | _,_,.nil=> .nil
 | _,_,.cons n t h=> .cons ⟨t,rfl⟩ (uB h)
def JN(H:Hp):Prop:=∀b,H b=none\/∃o xs,H b=some (.dY o (.lst xs))
theorem EL{P:aeY}{w:ae1}{K:PySem.W.Frag}{mg mb:Str->Option ae0}{CX:Ea}{k:Nat}{fa a:aeU}{fd:aeW}{x:Str}{sp:Sp}{s₁:aeZ}{vs:List ae0}{ns:List Int}
  (KX:K.In s₁.heap)(hns:s₁.heap.Ns afa mg)(hb:s₁.heap.Ns builtinsNs mb)(hbb:∀x:Str,x≠"__name__"->mb x=ae4 x)(hlim:s₁.heap.NoLimit)(hg:s₁.gens=#[])
  (ha:s₁.heap.get? a=some { cls:=.type "list",data:=.seq vs.toArray })(hi:IntsAre vs ns)(hl:ns.length<=afb)(hr:kD k callerA)
  (F:∀base:Heap,K.In base->base.Ns afa mg->FnOk P w K mg base CX k fa fd [x] sp)(hbind:∀(s:aeZ)(u:ae0),BindsTo s fd ⟨[u],[]⟩ [(x,u)])
  (RG:∀H:Hp,JN H->kC K H a (ns.map V.int)->sp [.ref a] H (λv _=>v= .bl true) λ_ _ _=>False)
  (Xs:∀H e s',CX [] H s₁ (λ_ _ _=>False) e s'->False) :
  ae5 (model P w) callerA (.call (.ref fa) ⟨[.ref a],[]⟩) (λr s'=>r= .ok (.ret (.bool true))/\OldK s₁.heap s'.heap/\s'.os=s₁.os/\AllBare s'.gens) s₁:=by
 have rv:=uB hi
 have Xt:=hi.length
 -- from an abstract heap in which nothing but the script may be tracked
 have core:∀H:Hp,JN H->kC K H a (ns.map V.int)->kA P w H s₁.heap->(∀b,H b≠none->b=a)->(H a≠none->K.lookup a=none)->
   ae5 (model P w) callerA (.call (.ref fa) ⟨[.ref a],[]⟩) (λr s'=>r= .ok (.ret (.bool true))/\OldK s₁.heap s'.heap/\s'.os=s₁.os/\AllBare s'.gens) s₁:=by
  intro H hO hS hok hA hK
  have AY:∀{b:aeU}{o:Obj},s₁.heap.get? b=some o->H b=none->(vf s₁.heap H).get? b=some o:=λe n=>Ef e n
  have Sz:∀{b:aeU}{o:Obj}{es:Array DictEntry}{ep:Nat},s₁.heap.get? b=some o->o.data= .dict es ep->H b=none:=λ{b o es ep} e d=>by
   cases q:H b with
   | none=>rfl
   | some u=>
    have e':b=a:=hA b (by rw[q];simp)
    subst e'
    rw[ha] at e;cases e
    have d':Data.seq vs.toArray _=Data.dict es ep:=d
    cases d'
  have VQ:∀{b:aeU}{m:Str->Option ae0},s₁.heap.Ns b m->(vf s₁.heap H).Ns b m:=λ{b m} ⟨o,es,ep,e,d,r⟩=>⟨o,es,ep,AY e (Sz e d),d,r⟩
  have hKb:K.In (vf s₁.heap H):=λb o e=>AY (KX b o e) (by
   cases q:H b with
   | none=>rfl
   | some u=>
    have e':b=a:=hA b (by rw[q];simp)
    subst e'
    rw[hK (by rw[q];simp)] at e;cases e)
  have hM:Mod K mg (vf s₁.heap H):=⟨hKb,VQ hns,⟨mb,VQ hb,hbb⟩,let ⟨mc,h1,h2⟩:=hlim;⟨mc,VQ h1,h2⟩⟩
  have e0:EA P w K mg (vf s₁.heap H) callerA [] s₁ H:=⟨rfl,hM,λb o e=>Jj e,nX (Cy _ _),trivial,λb hb=>absurd (show b∈([]:List aeU) from hb) (by simp),hok,.of_eq hg⟩
  refine codeAny_mono ((F _ hKb (VQ hns)).run callerA [] s₁ H ⟨[.ref a],[]⟩ [.ref a] [.ref a] _ _ hr e0 (hbind s₁ (.ref a)) (.cons rfl .nil) (RG H hO hS)) λr s' h=>?_
  cases r with
  | error e=>exact(Xs H e s' h).elim
  | ok fl=>
   cases fl with
   | next=>exact aa h
   | brk=>exact aa h
   | cont=>exact aa h
   | ret u=>
    obtain⟨v,H',os,bare,un,Xu,r',q⟩:=h
    have q':v= .bl true:=q
    subst q'
    obtain rfl:u=qL true:=r'
    refine⟨rfl,OldK.of_keep λb o e=>?_,os,bare⟩
    cases q:H b with
    | none=>exact un.keep b o e q (by intro z;exact absurd (show b∈([]:List aeU) from z) (by simp)) (by simp)
    | some u=>
     rcases hO b with z | ⟨ob,xs,z⟩
     ·rw[q] at z;cases z
     ·have z2:=un.nO b ob _ z
      obtain⟨e1,_⟩:=hok b _ z
      obtain⟨e2,_⟩:=Xu b _ z2
      rw[e] at e1;cases e1
      exact e2
 cases hk:K.lookup a with
 | some o=>
  -- the script is one of the EG own objects
  have e:=KX a o hk
  rw[ha] at e
  cases e
  refine core (λ_=>none) (λ_=> .inl rfl) (.inr ⟨_,vs.toArray,_,hk,rfl,rfl,rfl,by rw[aP,Xt];exact hl,by simpa using rv⟩) (λb u z=>by have z':(none:Option HO)=some u:=z;cases z') (λb z=>absurd rfl z) λz=>absurd rfl z
 | none=>
  refine core (λb=>if b=a then some (.dY { cls:=.type "list",data:=.seq vs.toArray } (.lst (ns.map V.int))) else none) (λb=>?_) (.inl (.inr ⟨{ cls:=.type "list",data:=.seq vs.toArray },if_pos rfl⟩)) (λb u z=>?_) (λb z=>?_) λ_=>hk
  ·by_cases hb:b=a
   ·exact .inr ⟨_,_,if_pos hb⟩
   ·exact .inl (if_neg hb)
  ·by_cases hb:b=a
   ·have z':=(if_pos hb).symm.trans z
    cases z'
    subst hb
    exact⟨ha,by rw[bb];exact hl,vs,_,rv,ha⟩
   ·have z':=(if_neg hb).symm.trans z
    cases z'
  ·by_cases hb:b=a
   ·exact hb
   ·exact absurd (if_neg hb) z
abbrev KOf{K:PySem.W.Frag}{h:Heap}(_:K.In h):PySem.W.Frag:=K
theorem walk_of{l:PySem.W.OpenLaw}{n k:Nat}{q:aeY}{loose:List Str}{XP:(Str->Option ae0)->Heap->Prop}{YP:ae1->Heap->Prop}{d:DefRec}{K:Params->PySem.W.Frag}{CX:ae1->Ea}{sp:ae1->Sp}{x:Str}
  (hn:l.most=some n)(hn2:n<=afb)(hdf:d.params.defaults=[])(hr:kD k callerA)
  (hY:∀(w:ae1)(h:Heap),YP w h->(K w.params).In h)
  (F:∀(w:ae1)(mg:Str->Option ae0)(fa:aeU)(h:Heap),(K w.params).In h->h.Ns afa mg->mg d.name=some (.ref fa)->
   ∃fd:aeW,(∀(s:aeZ)(u:ae0),BindsTo s fd ⟨[u],[]⟩ [(x,u)])/\
    ∀base:Heap,(K w.params).In base->base.Ns afa mg->FnOk l.prog w (K w.params) mg base (CX w) k fa fd [x] (sp w))
  (RG:∀(w:ae1)(H:Hp)(a:aeU)(ns:List Int),ns.length<=n->JN H->kC (K w.params) H a (ns.map V.int)->sp w [.ref a] H (λv _=>v= .bl true) λ_ _ _=>False)
  (Xs:∀(w:ae1)(H:Hp)(s:aeZ)(e:ae0)(s':aeZ),CX w [] H s (λ_ _ _=>False) e s'->False) :
  PySem.W.WalkO q loose XP YP l.row.toRowW d [] (λf vs=>PySem.call f vs):=by
 refine Att.xp hn hdf λw s₀ s₁ mg mb fa o pm cd doc a vs ns G Y ho hd hcd hmg hobj hints hlen hg=>?_
 have KX:=hY w _ Y
 obtain⟨fd,hb,hF⟩:=F w mg fa _ KX G.T.g hmg
 exact EL KX G.T.g G.T.b G.T.builtins G.T.nolimit hg hobj hints (ba hlen hn2) hr hF hb (λH hO hS=>RG w H a ns hlen hO hS) λH e s'=>Xs w H s₁ e s'
end L2
/- THE aca VR (shape;LID,My.* are aaE):
   My.Adr: a structure of the addresses Xv your aaF names (classes,RH);My.Txt K t: a structure (Prop) of the equations over K;
   My.N7:{K} {implicit addresses ..} (e1:nsIn K afa "law"=some (some (.ref f))) (e2:K.lookup f=some ⟨oc,od,.func (fnOf "law" "law" params body scope dV kV doc pm an cdv ct),sl⟩) (e3:codeIn K cdv "law"=true) ..:∃t,My.Txt K t
set_option maxRecDepth 100000 in
set_option maxHeartbeats 0 in
theorem PySem.Challenge.cw_LID_holds:PySem.Challenge.rw_LID.Holds:=by
 w_on;o_law;k_head;(case hw=>w_witness2)
 k_fill
 refine L2.walk_of (l:=PySem.Challenge.rw_LID) (n:=63) (k:=40) (x:="script") (CX:=fun w => ..) (sp:=fun _ => My.sp_law) rfl (by decide) rfl ⟨rfl,by decide,by decide⟩ (fun w h Y => PySem.W.kIn_of Y) ?F ?S ?C
 case F=>
  intro w mg fa h KX G hmg
  have T:∃t,My.Txt (L2.KOf KX) t:=by
   dsimp only[L2.KOf] -- K acb stand as «<heap const> w.params» for k_is
   refine' My.N7 ?e1 ?e2 ?e3 ..
   (case e1=>PySem.W.k_is) -- in the order: a name -> its address -> its object -> its parts
   (case e2=>PySem.W.k_is)
   ..
  obtain⟨t,T⟩:=T
  have e0:=hmg.symm.trans (PySem.W.mg_of KX G T.law)
  cases e0 -- fa is the aaG own address
  exact⟨_,λs u=> .of_eq rfl,λbase kb nb=>My.N8 T kb nb⟩ -- if «.of_eq rfl» comes too early: refine' ⟨_,?b,λbase kb nb=>My.N8 T kb nb⟩;exact λs u=> .of_eq rfl
 case S=>exact λw H a ns hl hO hS=> ..
 case C=>exact ..
(the tactic k_is has no namespace: write k_is) -/
namespace L2
open PySem PySem.Spec PyProof.Rows
def defArgs(s:Stmt):Arguments:=match s with
 | .FunctionDef _ a _ _ _ _ _ _ _ _=>a
 | _=>{ posonlyargs:=[],args:=[],vararg:=none,kwonlyargs:=[],kw_defaults:=[],kwarg:=none,defaults:=[] }
def defBody(s:Stmt):List Stmt:=match s with
 | .FunctionDef _ _ b _ _ _ _ _ _ _=>b
 | _=>[]
def defScope(s:Stmt):Scope:=match s with
 | .FunctionDef _ _ _ _ _ _ sc _ _ _=>sc
 | _=>{ kind:=.function,names:=[],isGenerator:=false,isCoroutine:=false }
abbrev CX0:Ea:=λ_ _ _ _ _ _=>False
abbrev E0:XK:=λ_ _ _=>False
structure N9(K:PySem.W.Frag)(x qual:Str)(st:Stmt)(f:aeU)(fd:aeW):Prop where
 ex:∃(oc:ae0)(od:Option aeU)(kV doc pm:ae0)(an:Option aeU)(cdv ct:ae0)(osl:Array (Option ae0)),
  fd=PySem.W.fnOf x qual (defArgs st) (defBody st) (defScope st) .none kV doc pm an cdv ct/\K.lookup f=some ⟨oc,od,.func fd,osl⟩/\PySem.W.codeIn K cdv qual=true
 kp:PySem.W.keepIn K (.ref f)=true
section
variable {P:aeY} {w:ae1} {K:PySem.W.Frag} {mg:Str->Option ae0} {base:Heap}
theorem N9.binds{x qual:Str}{st:Stmt}{f:aeU}{fd:aeW}{ps:List Str}(F:N9 K x qual st f fd)
  (h:∀(kV doc pm:ae0)(an:Option aeU)(cdv ct:ae0)(us:List ae0),us.length=ps.length->bindArgs (PySem.W.fnOf x qual (defArgs st) (defBody st) (defScope st) .none kV doc pm an cdv ct) ⟨us,[]⟩=pure (ps.zip us)):Binds K fd ps []:=by
 obtain⟨oc,od,kV,doc,pm,an,cdv,ct,osl,rfl,lk,hcd⟩:=F.ex
 exact .all (h kV doc pm an cdv ct)
theorem N_{x qual:Str}{st:Stmt}{f:aeU}{oc:ae0}{od an:Option aeU}{osl:Array (Option ae0)}{kV doc pm cdv ct:ae0}(l:K.lookup f=some ⟨oc,od,.func (PySem.W.fnOf x qual (defArgs st) (defBody st) (defScope st) .none kV doc pm an cdv ct),osl⟩)
  (c:PySem.W.codeIn K cdv qual=true)(k:PySem.W.keepIn K (.ref f)=true):N9 K x qual st f (PySem.W.fnOf x qual (defArgs st) (defBody st) (defScope st) .none kV doc pm an cdv ct):=⟨⟨oc,od,kV,doc,pm,an,cdv,ct,osl,rfl,l,c⟩,k⟩
end
section
variable {X:Cx}
end
section
variable {κ : Type} [DecidableEq κ]
def iF(kvs : List (κ×V))(k : κ) : Option V := (kvs.find? λkv=>decide (kv.1=k)).map (·.2)
def putK(kvs : List (κ×V))(k : κ)(v : V) : List (κ×V) :=
 if(kvs.any λkv=>decide (kv.1=k))=true then kvs.map (λkv=>if kv.1=k then(kv.1, v) else kv) else kvs++[(k, v)]
def gY(kvs : List (κ×V))(k : κ) : List (κ×V) := kvs.filter λkv=>decide (kv.1≠k)
theorem nY{p : κ×V}{r : List (κ×V)}{k : κ}(e : p.1=k) : iF (p::r) k=some p.2 := by simp[iF, pf, e]
theorem nZ{p : κ×V}{r : List (κ×V)}{k : κ}(e : ¬p.1=k) : iF (p::r) k=iF r k := by simp[iF, pf, e]
theorem xq(k : κ) : ∀kvs : List (κ×V), (kvs.any λkv=>decide (kv.1=k))=(iF kvs k).isSome
 | []=>rfl
 | p::r=>by
  rw[fU]
  by_cases e : p.1=k
  ·simp only[nY e, decide_eq_true e, Bool.true_or, Option.isSome_some]
  ·rw[nZ e, decide_eq_false e, Bool.false_or];exact xq k r
theorem qg(kvs : List (κ×V))(k : κ)(v : V) : (putK kvs k v).length<=kvs.length+1 := by
 unfold putK
 split
 ·rw[bb];omega
 ·rw[cS, n_, List.length_nil];omega
theorem nN.uC{o : Option V}{u : Option ae0}(r : nN o u) : o.isSome=u.isSome := by
 cases o with
 | none=>cases u with
  | none=>rfl
  | some _=>exact(show False from r).elim
 | some _=>cases u with
  | none=>exact(show False from r).elim
  | some _=>rfl
theorem nN.getD{o : Option V}{u : Option ae0}{d : V}{d' : ae0}(r : nN o u)(rd : RelV d d') : RelV (o.getD d) (u.getD d') := by
 cases o with
 | none=>cases u with
  | none=>exact rd
  | some _=>exact(show False from r).elim
 | some _=>cases u with
  | none=>exact(show False from r).elim
  | some _=>exact r
theorem KV.val{kvs : List (κ×V)}{vs : List (κ×ae0)}(r : KV kvs vs)(k : κ) : nN (iF kvs k) (valueAt vs k) := by
 unfold KV at r
 induction r with
 | nil=>exact jI
 | @cons p q ps qs h t ih=>
  obtain⟨h1, h2⟩ := h
  by_cases e : p.1=k
  ·have e' : q.1=k := h1.symm.trans e
   have b : valueAt (q::qs) k=some q.2 := by simp[valueAt, pf, e']
   rw[nY e, b];exact h2
  ·have e' : ¬q.1=k := λz=>e (h1.trans z)
   have b : valueAt (q::qs) k=valueAt qs k := by simp[valueAt, pf, e']
   rw[nZ e, b];exact ih
theorem KV.any{kvs : List (κ×V)}{vs : List (κ×ae0)}(r : KV kvs vs)(k : κ) : (kvs.any λkv=>decide (kv.1=k))=vs.any λkv=>decide (kv.1=k) := by
 unfold KV at r
 induction r with
 | nil=>rfl
 | cons h t ih=>rw[fU, fU, ih, h.1]
theorem KV.repl{kvs : List (κ×V)}{vs : List (κ×ae0)}(r : KV kvs vs)(k : κ){y : V}{u : ae0}(ry : RelV y u) :
  KV (kvs.map λkv=>if kv.1=k then(kv.1, y) else kv) (vs.map λkv=>if kv.1=k then(kv.1, u) else kv) := by
 unfold KV at r ⊢
 induction r with
 | nil=>exact .nil
 | @cons p q ps qs h t ih=>
  rw[aB, aB]
  refine .cons ?_ ih
  obtain⟨h1, h2⟩ := h
  by_cases e : p.1=k
  ·rw[if_pos e, if_pos (h1.symm.trans e)];exact⟨h1, ry⟩
  ·rw[if_neg e, if_neg (λz=>e (h1.trans z))];exact⟨h1, h2⟩
theorem KV.put{kvs : List (κ×V)}{vs : List (κ×ae0)}(r : KV kvs vs)(k : κ){y : V}{u : ae0}(ry : RelV y u) : KV (putK kvs k y) (stored vs k u) := by
 unfold putK stored
 rw[r.any k]
 by_cases e : (vs.any λkv=>decide (kv.1=k))=true
 ·rw[if_pos e, if_pos e];exact r.repl k ry
 ·rw[if_neg e, if_neg e];exact Paired.snoc r ⟨rfl, ry⟩
theorem KV.length{kvs : List (κ×V)}{vs : List (κ×ae0)}(r : KV kvs vs) : kvs.length=vs.length := Paired.length r
theorem xt(kvs : List (κ×V))(k : κ) : (gY kvs k).length<=kvs.length := vH _ _
end
theorem xu{P : aeY}{w : ae1}{k : Key}{u : ae0}(r : RelV (kV k) u) : (aR P w).is k u=true := by
 cases k with
 | inl i=>obtain⟨t, e⟩ := (show ∃t, u=nM i t from r);subst e;exact xg P w i t
 | inr x=>obtain⟨t, e⟩ := (show ∃t, u=lE x t from r);subst e;exact xh P w x t
theorem uD{P : aeY}{w : ae1} : ∀{ks : List Key}{us : List ae0}, Vals (ks.map kV) us->ItemsAre (aR P w) ks us
 | [], _, r=>by rw[List.map_nil] at r;cases r;exact .nil
 | k::ks, _, r=>by
  rw[aB] at r
  cases r with
  | cons h t=>exact .cons (xu h) (uD t)
abbrev KT(H : Hp) : List (List Key×V)->List (List Key×aeU×ae0)->Prop := Paired λp q=>p.1=q.1/\H q.2.1=some (.tup (p.1.map kV))/\RelV p.2 q.2.2
theorem KT.val{H : Hp}{kvs : List (List Key×V)}{xs : List (List Key×aeU×ae0)}(r : KT H kvs xs)(k : List Key) : nN (iF kvs k) ((atKey xs k).map (·.2)) := by
 induction r with
 | nil=>exact jI
 | @cons p q ps qs h t ih=>
  obtain⟨h1, _, h2⟩ := h
  by_cases e : p.1=k
  ·have e' : q.1=k := h1.symm.trans e
   have b : atKey (q::qs) k=some q.2 := by simp[atKey, pf, e']
   rw[nY e, b];exact h2
  ·have e' : ¬q.1=k := λz=>e (h1.trans z)
   have b : atKey (q::qs) k=atKey qs k := by simp[atKey, pf, e']
   rw[nZ e, b];exact ih
theorem KT.repl{H : Hp}{kvs : List (List Key×V)}{xs : List (List Key×aeU×ae0)}(r : KT H kvs xs)(k : List Key){y : V}{u : ae0}(ry : RelV y u) :
  KT H (kvs.map λkv=>if kv.1=k then(kv.1, y) else kv) (xs.map (putAt k u)) := by
 induction r with
 | nil=>exact .nil
 | @cons p q ps qs h t ih=>
  rw[aB, aB]
  refine .cons ?_ ih
  obtain⟨h1, h2, h3⟩ := h
  unfold putAt
  by_cases e : p.1=k
  ·rw[if_pos e, if_pos (h1.symm.trans e)];exact⟨h1, h2, ry⟩
  ·rw[if_neg e, if_neg (λz=>e (h1.trans z))];exact⟨h1, h2, h3⟩
theorem KT.put{H : Hp}{kvs : List (List Key×V)}{xs : List (List Key×aeU×ae0)}(r : KT H kvs xs)(k : List Key){b : aeU}{y : V}{u : ae0}(hb : H b=some (.tup (k.map kV)))(ry : RelV y u) :
  KT H (putK kvs k y) (storedH xs k b u) := by
 have e : (kvs.any λkv=>decide (kv.1=k))=(atKey xs k).isSome := by
  rw[xq, (r.val k).uC, Option.isSome_map]
 unfold putK storedH
 rw[e]
 by_cases q : (atKey xs k).isSome=true
 ·rw[if_pos q, if_pos q];exact r.repl k ry
 ·rw[if_neg q, if_neg q];exact Paired.snoc r ⟨rfl, hb, ry⟩
theorem KT.keeps{H H' : Hp}{kvs : List (List Key×V)}{xs : List (List Key×aeU×ae0)}(r : KT H kvs xs)(ht : ∀b ys, H b=some (.tup ys)->H' b=some (.tup ys)) : KT H' kvs xs :=
 Paired.Ng r λ_ _ z=>⟨z.1, ht _ _ z.2.1, z.2.2⟩
section
variable {P : aeY} {w : ae1} {H : Hp} {h : Heap} {a : aeU}
theorem EM{u : HO}(ok : kA P w H h)(e : Rd H a u) : cH P w H h a u := e.ok ok
theorem uE{kvs : List (Key×V)}(ok : kA P w H h)(e : Rd H a (.dK kvs)) : kvs.length<=afb/\(a == sysModules)=false/\∃vs, KV kvs vs/\h.DictOf (aR P w) a vs :=
 show cH P w H h a (.dK kvs) from EM ok e
theorem SR{kvs : List (Key×V)}(ok : kA P w H h)(e : H a=some (.dK kvs)) : kvs.length<=afb/\(a == sysModules)=false/\∃vs, KV kvs vs/\h.DictOf (aR P w) a vs := uE ok (.inl e)
theorem i6{ks : List Key}(ok : kA P w H h)(e : H a=some (.tup (ks.map kV))) : (tupleKind (aR P w)).is h ks a := by
 obtain⟨_, its, r, ⟨o, h1, h2, n, h3⟩, _⟩ := (show cH P w H h a (.tup (ks.map kV)) from ok a _ e)
 exact⟨o, its.toArray, n, h1, h2, h3, by simpa using uD r⟩
theorem mB{kvs : List (List Key×V)}(ok : kA P w H h)(e : Rd H a (.dT kvs)) : kvs.length<=afb/\(a == sysModules)=false/\
  ∃xs, KT H kvs xs/\h.DictOfH (tupleKind (aR P w)) a xs := by
 obtain⟨z, y, xs, r, o, es, ep, h1, h2, h3, h4, h5⟩ := (show cH P w H h a (.dT kvs) from EM ok e)
 refine⟨z, y, xs, r, o, es, ep, h1, h2, h3, h4, λx hx=>?_, h5⟩
 have all : ∀{l : List (List Key×V)}{m : List (List Key×aeU×ae0)}, KT H l m->∀x∈m, (tupleKind (aR P w)).is h x.1 x.2.1 := by
  intro l m q
  induction q with
  | nil=>intro x hx;exact nomatch hx
  | @cons p q ps qs hq t ih=>
   intro x hx
   rcases List.mem_cons.mp hx with e | hx
   ·subst e
    exact i6 ok (by rw[<-hq.1];exact hq.2.1)
   ·exact ih x hx
 exact all r x hx
theorem xv{kvs : List (List Key×V)}(ok : kA P w H h)(e : H a=some (.dT kvs)) : kvs.length<=afb/\(a == sysModules)=false/\
  ∃xs, KT H kvs xs/\h.DictOfH (tupleKind (aR P w)) a xs := mB ok (.inl e)
end
def mS(H : Hp)(a : aeU)(y : V)(r : Option V) : Prop :=
 (∃kvs k, Rd H a (.dK kvs)/\y=kV k/\r=iF kvs k)\/∃kvs k b, Rd H a (.dT kvs)/\y= .ref b/\H b=some (.tup (k.map kV))/\r=iF kvs k
def vI(H : Hp)(a : aeU)(y v : V)(H' : Hp) : Prop :=
 (∃kvs k, H a=some (.dK kvs)/\y=kV k/\kvs.length < afb/\H'=upd H a (.dK (putK kvs k v)))\/
 ∃kvs k b, H a=some (.dT kvs)/\y= .ref b/\H b=some (.tup (k.map kV))/\kvs.length < afb/\H'=upd H a (.dT (putK kvs k v))
theorem mS.k{H : Hp}{a : aeU}{kvs : List (Key×V)}{k : Key}(e : H a=some (.dK kvs)) : mS H a (kV k) (iF kvs k) := .inl ⟨kvs, k, .inl e, rfl, rfl⟩
theorem mS.t{H : Hp}{a b : aeU}{kvs : List (List Key×V)}{k : List Key}(e : H a=some (.dT kvs))(eb : H b=some (.tup (k.map kV))) : mS H a (.ref b) (iF kvs k) := .inr ⟨kvs, k, b, .inl e, rfl, eb, rfl⟩
theorem vI.k{H : Hp}{a : aeU}{kvs : List (Key×V)}{k : Key}{v : V}(e : H a=some (.dK kvs))(hl : kvs.length < afb) : vI H a (kV k) v (upd H a (.dK (putK kvs k v))) := .inl ⟨kvs, k, e, rfl, hl, rfl⟩
theorem vI.t{H : Hp}{a b : aeU}{kvs : List (List Key×V)}{k : List Key}{v : V}(e : H a=some (.dT kvs))(eb : H b=some (.tup (k.map kV)))(hl : kvs.length < afb) :
  vI H a (.ref b) v (upd H a (.dT (putK kvs k v))) := .inr ⟨kvs, k, b, e, rfl, eb, hl, rfl⟩
section
variable {X : Cx} {pins : List (aeU×Obj)} {σ : St} {H : Hp} {s : aeZ} {a : aeU} {y v : V} {u r : ae0} {o : Option V} {A : aeV} {E : ae0->aeZ->Prop}
theorem Inv.big(I : Inv X pins σ H s) : sysModules < s.heap.objs.size := by
 have h : afa < s.heap.objs.size := (I.mod.glob.keeps I.bk).lt
 exact Nat.lt_trans (by decide) h
theorem CM{Q : ae0->aeZ->Prop}(hu : A.units+1 < cLine)(I : Inv X pins σ H s)(g : mS H a y (some v))(ry : RelV y u)(h : ∀w' s', Inv X pins σ H s'->RelV v w'->Q w' s') :
  afd (model X.prog X.w) A (getItem (.ref a) u) Q E s := by
 rcases g with ⟨kvs, k, e, ey, l⟩ | ⟨kvs, k, b, e, ey, eb, l⟩
 ·subst ey
  obtain⟨z, hd, vs, rel, dd⟩ := uE I.hok e
  obtain⟨w', hw, rw'⟩ := nN.some_of (v := v) (o := valueAt vs k) (by rw[l];exact rel.val k)
  exact wpAny_getItem_of (xu ry) dd.mapOf hw (h w' _ (I.tok _) rw')
 ·subst ey
  cases (show u=ax b from ry)
  obtain⟨z, hd, xs, rel, dd⟩ := mB I.hok e
  obtain⟨w', hw, rw'⟩ := nN.some_of (v := v) (o := (atKey xs k).map (·.2)) (by rw[l];exact rel.val k)
  obtain⟨p, hp, hp2⟩ := Option.map_eq_some_iff.mp hw
  refine wpAny_getItem_heap (tupleKind_room_in1 hu) (i6 I.hok eb) dd hp ?_
  rw[hp2]
  exact h w' _ (I.tok _) rw'
theorem lO{h' : Heap}{t' : Nat}{ob : HO}(I : Inv X pins σ H s)(mu : RW (H a))(hs : fT a s.heap h')(he : ∃q, h'.get? a=some q)(new : cH X.prog X.w (upd H a ob) h' a ob) :
  Inv X pins σ (upd H a ob) { s with heap := h', toks := t' } :=
 I.write (x := a) (e := a) mu (.inl rfl) (λb q hb z=>(hs.2 b hb).trans z) he new
theorem Oa{P : aeY}{w : ae1}{H' : Hp}{h' : Heap}{kvs : List (Key×V)}{vs : List (Key×ae0)}(z : kvs.length<=afb)(hd : (a == sysModules)=false)(rel : KV kvs vs)(dd : h'.DictOf (aR P w) a vs) :
  cH P w H' h' a (.dK kvs) :=⟨z, hd, vs, rel, dd⟩
theorem CN{H' : Hp}{Q : Unit->aeZ->Prop}(hu : A.units+1 < cLine)(I : Inv X pins σ H s)(g : vI H a y v H')(ry : RelV y u)(rv : RelV v r)(h : ∀s', Inv X pins σ H' s'->Q () s') :
  afd (model X.prog X.w) A (setItem (.ref a) u r) Q E s := by
 rcases g with ⟨kvs, k, e, ey, l, eH⟩ | ⟨kvs, k, b, e, ey, eb, l, eH⟩
 ·subst ey eH
  obtain⟨z, hd, vs, rel, dd⟩ := SR I.hok e
  have hz : vs.length<=afb := by rw[<-rel.length];exact z
  have hl : (putK kvs k v).length<=afb := by have := qg kvs k v;omega
  refine wpAny_setItem_pairs (hsz := hz) (xu ry) dd λh' EN hs=>h _ ?_
  have he : ∃q, h'.get? a=some q := let ⟨q, _, _, hq, _⟩ := EN;⟨q, hq⟩
  exact lO I (by rw[e];exact jI) hs he (Oa hl hd (rel.put k rv) EN)
 ·subst ey eH
  cases (show u=ax b from ry)
  obtain⟨z, hd, xs, rel, dd⟩ := xv I.hok e
  have hz : xs.length<=afb := by rw[<-Paired.length rel];exact z
  have hl : (putK kvs k v).length<=afb := by have := qg kvs k v;omega
  refine wpAny_setItem_heap (hsz := hz) (tupleKind_room_in1 hu) (i6 I.hok eb) dd λh' EN hs=>h _ ?_
  obtain⟨q, es, ep, hq, h2, h3, h4, _, h5⟩ := EN
  refine lO I (by rw[e];exact jI) hs ⟨q, hq⟩ ⟨hl, hd, _, (rel.put k eb rv).keeps λc ys ec=>?_, q, es, ep, hq, h2, h3, h4, h5⟩
  rw[au (AJ ec e (λz=>nomatch z))]
  exact ec
end
section
variable {X : Cx} {pins : List (aeU×Obj)} {σ : St} {H : Hp} {s : aeZ} {a : aeU} {kvs : List (Key×V)} {k : Key} {u : ae0} {A : aeV} {E : ae0->aeZ->Prop}
end
def EO(i : Expr) : Prop := ∀ov iv, subscripted i false ov iv=operate [ov, iv] (getItem ov iv)
theorem AZ{prog : aeY}{w : ae1}{A : aeV}{E : ae0->aeZ->Prop}{s : aeZ}{env : Env}{value slice : Expr}{pos : Pos}{T id : String}{Q : ae0->aeZ->Prop}
  (hl : typeLookup (.type T) "__getitem__"=pure (some (.builtin id)))(hs : EO slice)
  (h : afd (model prog w) A (eval value env) (λo s₁=>afd (model prog w) A (eval slice env) (λi s₂=>s₂.TypeIs o T/\afd (model prog w) A (getItem o i) Q E s₂) E s₁) E s) :
  afd (model prog w) A (eval (.Subscript value slice pos) env) Q E s := by
 refine Subscript_ (afh h (λo s₁ h₁=>afh h₁ (λi s₂ h₂=>?_) λ_ _ x=>x) λ_ _ x=>x)
 obtain⟨hT, h₂⟩ := h₂
 unfold subscriptTail
 refine afe ?_
 rw[getitemInPython_of_ne hT.not_modules]
 refine afe (wpAny_specialOf hT hl ?_)
 have fin : afd (model prog w) A (subscripted slice false o i) (λr s₃=>afd (model prog w) A (letTemporaryGo value o r >>= λ_=>pure r) Q E s₃) E s₂ := by
  rw[hs o i]
  exact wpAny_operating (afh h₂ (λr s₃ h₃=>afe (wpAny_letTemporaryGo (afk h₃))) λ_ _ x=>x)
 first
  | exact afk (afe fin)
  | exact afe (afk (afe fin))
  | exact afe fin
theorem xw{X : Cx}{pins : List (aeU×Obj)}{σ : St}{H : Hp}{s : aeZ}{a : aeU}{y : V}{o : Option V}(I : Inv X pins σ H s)(g : mS H a y o) : s.TypeIs (.ref a) "dict" := by
 rcases g with ⟨kvs, k, e, _, _⟩ | ⟨kvs, k, b, e, _, _, _⟩
 ·obtain⟨_, _, vs, _, dd⟩ := uE I.hok e
  exact dd.typeIs
 ·obtain⟨_, _, xs, _, dd⟩ := mB I.hok e
  exact dd.typeIs
def SU(td ty : TE) : TE := λσ H Q=>td σ H λx H1=>ty σ H1 λy H2=>∃a v, x= .ref a/\mS H2 a y (some v)/\Q v H2
def SV(td ty tv : TE) : TS := λD σ H=>tv σ H λv H1=>td σ H1 λx H2=>ty σ H2 λy H3=>∃a H4, x= .ref a/\vI H3 a y v H4/\D.nx σ H4
section
variable {X : Cx} {o i e value : Expr} {pos pos' tpos : Pos} {td ty tv : TE}
theorem JP(hu : X.A.units+1 < cLine)(ho : PE X o td)(hi : PE X i ty)(hs : EO i) : PE X (.Subscript o i pos) (SU td ty) := by
 intro pins s σ H Q I h
 refine AZ PySem.F.slot_dict_getitem.lookup hs (a7 (ho pins s σ H _ I h) λu s1 ⟨x, H1, I1, rx, q1⟩=>a7 (hi pins s1 σ H1 _ I1 q1) λiv s2 ⟨y, H2, I2, ry, a, v, ex, g, q2⟩=>?_)
 subst ex
 obtain rfl : u=ax a := rx
 exact⟨xw I2 g, CM hu I2 g ry λw' s3 I3 rw'=>⟨v, H2, I3, rw', q2⟩⟩
theorem JQ(hu : X.A.units+1 < cLine)(ho : PE X o td)(hi : PE X i ty)(hv : PE X value tv)(hs : swapsWith value (some (.Subscript o i pos')) pos.line X.env=pure false) :
  PS X (.Assign [.Subscript o i pos'] value pos) (SV td ty tv) := by
 intro pins s σ H D I h
 refine wpAny_Assign_Subscript (a7 (hv pins s σ H _ I h) λr s1 ⟨v, H1, I1, rv, q1⟩=>a7 (ho pins s1 σ H1 _ I1 q1) λu s2 ⟨x, H2, I2, rx, q2⟩=>a7 (hi pins s2 σ H2 _ I2 q2) λiv s3 ⟨y, H3, I3, ry, a, H4, ex, g, q3⟩=>?_) hs
 subst ex
 obtain rfl : u=ax a := rx
 exact CN hu I3 g ry rv λs4 I4=>⟨σ, H4, I4, q3⟩
end
theorem ER{P : aeY}{w : ae1}{H : Hp}(h : Heap)(hb : sysModules < h.objs.size) : cH P w H (h.push { cls := .type "dict", data := .dict #[] }) h.objs.size (.dK []) :=
 ⟨bJ _, beq_eq_false_iff_ne.mpr (bI (bh hb)), [], .nil, Heap.DictOf.new h⟩
theorem ES{P : aeY}{w : ae1}{H : Hp}(h : Heap)(hb : sysModules < h.objs.size) : cH P w H (h.push { cls := .type "dict", data := .dict #[] }) h.objs.size (.dT []) :=
 ⟨bJ _, beq_eq_false_iff_ne.mpr (bI (bh hb)), [], .nil, _, #[], 0, br _ rfl, ⟨rfl, rfl, rfl⟩, rfl, rfl, oe⟩
def Oc : TE := λ_ H Q=>∀p, H p=none->Q (.ref p) (upd H p (.dK []))
def Od : TE := λ_ H Q=>∀p, H p=none->Q (.ref p) (upd H p (.dT []))
section
variable {X : Cx} {pos : Pos}
theorem ET : PE X (.Dict [] [] pos) Oc := λpins s σ H Q I h=>
 wpAny_Dict_empty ⟨.ref s.heap.objs.size, _, I.laid (a := s.heap.objs.size) (o := .dK []) (t' := s.toks) (λ_ _ q=>aS _ q) (ao _) (ER s.heap I.big), rfl, h _ (I.hok.fresh (ao _))⟩
theorem EU : PE X (.Dict [] [] pos) Od := λpins s σ H Q I h=>
 wpAny_Dict_empty ⟨.ref s.heap.objs.size, _, I.laid (a := s.heap.objs.size) (o := .dT []) (t' := s.toks) (λ_ _ q=>aS _ q) (ao _) (ES s.heap I.big), rfl, h _ (I.hok.fresh (ao _))⟩
end
def Oe(kvs more : List (Key×V)) : List (Key×V) := more.foldl (λacc kv=>putK acc kv.1 kv.2) kvs
structure M1(X : Cx)(o : Expr)(m : Str)(apos : Pos)(e : Expr)(cpos : Pos) : Prop where
 base : attributeBase o m X.env (eval o X.env)=eval o X.env
 few : ((backTo cpos (afc [e] X.env)).all (λx=> !x.1)&&(backToKw cpos (keywordEach [] X.env)).all (λx=>x.1.isSome)
  &&decide (([e] : List Expr).length+([] : List Keyword).length+(if([] : List Keyword).isEmpty then 0 else 1) < 30))=true
 line : (apos.endLine == cpos.line)=true
 trees : backTo cpos (afc [e] X.env)=[(false, eval e X.env)]
structure M2(X : Cx)(o : Expr)(m : Str)(apos : Pos)(e f : Expr)(cpos : Pos) : Prop where
 base : attributeBase o m X.env (eval o X.env)=eval o X.env
 few : ((backTo cpos (afc [e, f] X.env)).all (λx=> !x.1)&&(backToKw cpos (keywordEach [] X.env)).all (λx=>x.1.isSome)
  &&decide (([e, f] : List Expr).length+([] : List Keyword).length+(if([] : List Keyword).isEmpty then 0 else 1) < 30))=true
 line : (apos.endLine == cpos.line)=true
 trees : backTo cpos (afc [e, f] X.env)=[(false, eval e X.env), (false, eval f X.env)]
def Of(H : Hp)(a : aeU) : Prop := (∃kvs, Rd H a (.dK kvs))\/∃kvs, Rd H a (.dT kvs)
theorem pg{X : Cx}{pins : List (aeU×Obj)}{σ : St}{H : Hp}{s : aeZ}{a : aeU}(I : Inv X pins σ H s)(d : Of H a) :
  s.TypeIs (.ref a) "dict"/\(∀b, ax a= .ref b->∃ob, s.heap.get? b=some ob/\ob.dict=none)/\(a == sysModules)=false := by
 rcases d with ⟨kvs, e⟩ | ⟨kvs, e⟩
 ·obtain⟨_, hd, vs, _, dd⟩ := uE I.hok e
  refine⟨dd.typeIs, λb q=>?_, hd⟩
  cases q
  obtain⟨ob, _, _, h1, h2, _⟩ := dd
  exact⟨ob, h1, h2.2.1⟩
 ·obtain⟨_, hd, xs, _, dd⟩ := mB I.hok e
  refine⟨dd.typeIs, λb q=>?_, hd⟩
  cases q
  obtain⟨ob, _, _, h1, h2, _⟩ := dd
  exact⟨ob, h1, h2.2.1⟩
section
variable {X : Cx} {pins : List (aeU×Obj)} {σ : St} {H : Hp} {s : aeZ} {a : aeU} {y d : V} {u r : ae0} {o : Option V} {A : aeV} {E : ae0->aeZ->Prop}
theorem Og{Q : ae0->aeZ->Prop}(hu : A.units+1 < cLine)(I : Inv X pins σ H s)(g : mS H a y o)(ry : RelV y u)(h : ∀w' s', Inv X pins σ H s'->RelV (o.getD .aZ) w'->Q w' s') :
  afd (model X.prog X.w) A (call (.builtin "dict.get") [.ref a, u]) Q E s := by
 rcases g with ⟨kvs, k, e, ey, l⟩ | ⟨kvs, k, b, e, ey, eb, l⟩
 ·subst ey
  obtain⟨z, hd, vs, rel, dd⟩ := uE I.hok e
  refine call_meetsIn PySem.F.slot_dict_get dd.typeIs PySem.F.entry_dict_get (PySem.F.args_dict_get_2 _ _) (meets_dict_get (aR X.prog X.w) a (xu ry) hd) ⟨_, dd.mapOf, h _ _ (I.tok _) ?_⟩
  rw[l]
  exact(rel.val k).getD rfl
 ·subst ey
  cases (show u=ax b from ry)
  obtain⟨z, hd, xs, rel, dd⟩ := mB I.hok e
  refine call_meetsIn PySem.F.slot_dict_get dd.typeIs PySem.F.entry_dict_get (PySem.F.args_dict_get_2 _ _) (meetsH_dict_get (tupleKind (aR X.prog X.w)) a b hd) ⟨tupleKind_room_in1 hu, k, xs, i6 I.hok eb, dd, h _ _ (I.tok _) ?_⟩
  rw[l]
  exact(rel.val k).getD rfl
theorem Oh{Q : ae0->aeZ->Prop}(hu : A.units+1 < cLine)(I : Inv X pins σ H s)(g : mS H a y o)(ry : RelV y u)(rd : RelV d r)(h : ∀w' s', Inv X pins σ H s'->RelV (o.getD d) w'->Q w' s') :
  afd (model X.prog X.w) A (call (.builtin "dict.get") [.ref a, u, r]) Q E s := by
 rcases g with ⟨kvs, k, e, ey, l⟩ | ⟨kvs, k, b, e, ey, eb, l⟩
 ·subst ey
  obtain⟨z, hd, vs, rel, dd⟩ := uE I.hok e
  refine call_meetsIn PySem.F.slot_dict_get dd.typeIs PySem.F.entry_dict_get (PySem.F.args_dict_get_3 _ _ _) (meets_dict_get_default (aR X.prog X.w) a (xu ry) hd r) ⟨_, dd.mapOf, h _ _ (I.tok _) ?_⟩
  rw[l]
  exact(rel.val k).getD rd
 ·subst ey
  cases (show u=ax b from ry)
  obtain⟨z, hd, xs, rel, dd⟩ := mB I.hok e
  refine call_meetsIn PySem.F.slot_dict_get dd.typeIs PySem.F.entry_dict_get (PySem.F.args_dict_get_3 _ _ _) (meetsH_dict_get_default (tupleKind (aR X.prog X.w)) a b hd r) ⟨tupleKind_room_in1 hu, k, xs, i6 I.hok eb, dd, h _ _ (I.tok _) ?_⟩
  rw[l]
  exact(rel.val k).getD rd
end
def Oi(td ty : TE) : TE := λσ H Q=>td σ H λx H1=>∃a, x= .ref a/\Of H1 a/\ty σ H1 λy H2=>∃o, mS H2 a y o/\Q (o.getD .aZ) H2
def Oj(td ty tx : TE) : TE := λσ H Q=>td σ H λx H1=>∃a, x= .ref a/\Of H1 a/\ty σ H1 λy H2=>tx σ H2 λz H3=>∃o, mS H3 a y o/\Q (o.getD z) H3
section
variable {X : Cx} {o e f : Expr} {apos cpos : Pos} {td ty tx : TE}
theorem EV(hu : X.A.units+1 < cLine)(ho : PE X o td)(he : PE X e ty)(m : M1 X o "get" apos e cpos) : PE X (.Call (.Attribute o "get" apos) [e] [] cpos) (Oi td ty) := by
 intro pins s σ H Q I h
 refine wpAny_Call_method m.base m.few m.line PySem.F.plainAttrs_dict PySem.F.slot_dict_get PySem.F.type_dict_get (a7 (ho pins s σ H _ I h) λu s1 ⟨x, H1, I1, rx, a, ex, d, q1⟩=>?_)
 subst ex
 obtain rfl : u=ax a := rx
 obtain⟨t1, t2, _⟩ := pg I1 d
 refine⟨t1, t2, ?_⟩
 rw[m.trees]
 refine jH rfl (mQ (i5 (a7 (he pins s1 σ H1 _ I1 q1) λiv s2 ⟨y, H2, I2, ry, ov, g, q2⟩=>o_ ?_)))
 exact Og hu I2 g ry λw' s3 I3 rw'=>⟨_, H2, I3, rw', q2⟩
theorem EW(hu : X.A.units+1 < cLine)(ho : PE X o td)(he : PE X e ty)(hf : PE X f tx)(m : M2 X o "get" apos e f cpos) : PE X (.Call (.Attribute o "get" apos) [e, f] [] cpos) (Oj td ty tx) := by
 intro pins s σ H Q I h
 refine wpAny_Call_method m.base m.few m.line PySem.F.plainAttrs_dict PySem.F.slot_dict_get PySem.F.type_dict_get (a7 (ho pins s σ H _ I h) λu s1 ⟨x, H1, I1, rx, a, ex, d, q1⟩=>?_)
 subst ex
 obtain rfl : u=ax a := rx
 obtain⟨t1, t2, _⟩ := pg I1 d
 refine⟨t1, t2, ?_⟩
 rw[m.trees]
 refine jH rfl (mQ (i5 (a7 (he pins s1 σ H1 _ I1 q1) λiv s2 ⟨y, H2, I2, ry, q2⟩=>
  i5 (a7 (hf pins s2 σ H2 _ I2 q2) λfv s3 ⟨z, H3, I3, rz, ov, g, q3⟩=>o_ ?_))))
 exact Oh hu I3 g ry rz λw' s4 I4 rw'=>⟨_, H3, I4, rw', q3⟩
end
section
variable {X : Cx} {pins : List (aeU×Obj)} {σ : St} {H : Hp} {s : aeZ} {a : aeU} {kvs : List (Key×V)} {A : aeV} {E : ae0->aeZ->Prop}
end
section
variable {X : Cx} {pins : List (aeU×Obj)} {σ : St} {H : Hp} {s : aeZ} {a : aeU} {y : V} {u : ae0} {A : aeV} {E : ae0->aeZ->Prop}
end
end L2
namespace Att
open PySem PySem.W PySem.Calls PyProof.Rows
end Att
namespace L2
open PySem PySem.Spec PyProof.Rows
section
variable {X : Cx}
end
section
variable {κ : Type} [DecidableEq κ]
theorem uF{p : κ×V}{r : List (κ×V)}{k : κ}(e : p.1=k) : gY (p::r) k=gY r k := by
 unfold gY
 rw[fV, if_neg (by simp[e])]
theorem uG{p : κ×V}{r : List (κ×V)}{k : κ}(e : ¬p.1=k) : gY (p::r) k=p::gY r k := by
 unfold gY
 rw[fV, if_pos (by simp[e])]
end
end L2
set_option maxHeartbeats 4000000
namespace J
open PySem PySem.Spec PyProof.Rows L2
def VS(h base:Heap)(e:aeU)(cls a0 fl:ae0):Prop :=
 ∃ox us T ot ws,h.get? e=some ox/\(ox.cls=cls/\us[2]? =some a_)/\ox.data= .fields us/\us[1]? =some (.ref T)/\base.get? T=none/\T≠e/\h.get? T=some ot/\ot.data= .fields ws/\ws[3]? =some fl
abbrev JR(base:Heap)(l:List Env)(e:aeU)(cls a0 fl:ae0)(h:Heap):Prop:=base.StaysIn h/\base.get? e=none/\h.FunFrames base l/\VS h base e cls a0 fl
def EY(base:Heap)(l:List Env)(e:aeU)(cls a0:ae0)(L:aeU)(h:Heap):Prop:=JR base l e cls a0 (rawInt L) h
def EZ(base:Heap)(l:List Env)(e:aeU)(cls a0:ae0)(h:Heap):Prop:=JR base l e cls a0 .none h
theorem EZ.first{base h:Heap}{l:List Env}{e:aeU}{cls a0:ae0}(x:EZ base l e cls a0 h):∃ox us,h.get? e=some ox/\ox.cls=cls/\ox.data= .fields us/\us[2]? =some a_ :=
 let ⟨_,_,_,ox,us,_,_,_,g1,g2,g3,_⟩:=x;⟨ox,us,g1,g2.1,g3,g2.2⟩
section
variable {M:Model} {A:aeV} {E:ae0->aeZ->Prop} {s:aeZ} {base:Heap} {env:Env} {outer l:List Env} {L e:aeU} {cls a0 nt:ae0} {Q:Unit->aeZ->Prop}
theorem zw{h h1:Heap}{S:List aeU}{ox ob:Obj}{us ws:Array ae0}(so:Heap.SlotsOnly S h h1)(hS:S=l.filterMap (·.frame))(fs:h.FunFrames base l)(g1:h.get? e=some ox)(g3:ox.data= .fields us)(st:base.StaysIn h)(ne:base.get? e=none)(sz:1 < us.size)(g2:us[2]? =some a_)
  (d:ob.data= .fields ws)(w3:ws[3]? =some nt)(nf:ob.isFreed=false) :
  JR base l e ox.cls a0 nt ((h1.push ob).update e (jJ (·.setIfInBounds 1 (.ref h1.objs.size))))/\h.UpToSlots ((h1.push ob).update e (jJ (·.setIfInBounds 1 (.ref h1.objs.size)))):=by
 have nS:e∉S:=λz=>by
  rw[hS] at z
  obtain⟨_,o2,q2,d2⟩:=fs.mem z
  rw[g1] at q2
  cases q2
  exact d2 us g3
 have q1:h1.get? e=some ox:=(so.2.1 e nS).trans g1
 have lt:e≠h1.objs.size:=bh (aK q1)
 have oth:∀b o,b≠e->h1.get? b=some o->((h1.push ob).update e (jJ (·.setIfInBounds 1 (.ref h1.objs.size)))).get? b=some o:=λb o n q=>(rD _ _ (bI n)).trans (aS _ q)
 have up:h.UpToSlots ((h1.push ob).update e (jJ (·.setIfInBounds 1 (.ref h1.objs.size)))):=λb o q n=>by
  obtain⟨sl,q2⟩:=so.2.2 b o q
  exact⟨sl,oth b _ (λz=>by rw[z,g1] at q;cases q;exact n us g3) q2⟩
 have stay:base.StaysIn h1:=λb o q=>(so.2.1 b λz=>by
  rw[hS] at z
  rw[(fs.mem z).1] at q
  cases q).trans (st b o q)
 have fresh:base.get? h1.objs.size=none:=by
  cases z:base.get? h1.objs.size with
  | none=>rfl
  | some o=>exact absurd (aK (stay _ _ z)) (cK _)
 have d1:=qO g3 (·.setIfInBounds 1 (ax h1.objs.size))
 refine⟨⟨λb o q=>oth b o (λz=>by rw[z,ne] at q;cases q) (stay b o q),ne,fs.of_keeps λb o q n=>?_,_,_,h1.objs.size,ob,ws,mP _ (aS _ q1) (A0 d1),⟨Obj.cls_mapFields _ _,?_⟩,d1,by simp[sz],fresh,bI lt,?_,d,w3⟩,up⟩
 ·obtain⟨sl,q2⟩:=up b o q n
  exact⟨_,q2,rfl⟩
 ·rw[Array.getElem?_setIfInBounds_ne (by decide)];exact g2
 ·exact(rD _ _ lt).trans (br _ nf)
theorem E4{ox:Obj}{us:Array ae0}{head:ae0}{had:Bool}(hfr:A.frames=some (env::outer))(fs:s.heap.FunFrames base (env::outer))(hf:env.frame=some L)(g1:s.heap.get? e=some ox)(st:base.StaysIn s.heap)(ne:base.get? e=none)(g3:ox.data= .fields us)(sz:1 < us.size)(g2:us[2]? =some a_)
  (k:∀h',EY base (env::outer) e ox.cls a0 L h'->s.heap.UpToSlots h'->Q () { s with heap:=h' }) :
  afd M A (do let a <-frameOf env;let pl <-entryPlaceOf L had;let b <-Ol head a .none (rawInt L) .none pl;setField (.ref e) 1 b) Q E s:=by
 refine afe (wpAny_frameOf_fun hfr fs hf λh1 so=>afe (wpAny_entryPlaceOf λpl pp=>?_))
 have nS:e∉(env::outer).filterMap (·.frame):=λz=>by
  obtain⟨_,o2,q2,d2⟩:=fs.mem z
  rw[g1] at q2
  cases q2
  exact d2 us g3
 have q1:h1.get? e=some ox:=(so.2.1 e nS).trans g1
 simp only[Ol,newFields]
 refine afe (afj (wpAny_setField (aS _ q1) g3 sz ?_) (pp.sizeOk5 _ _ _ _ _))
 obtain⟨m,up⟩:=zw (a0:=a0) (nt:=rawInt L) so rfl fs g1 g3 st ne sz g2 (ob:={ cls:=.type "traceback",dict:=none,data:=.fields ([head,.ref L,.none,rawInt L,.none]++(if pl.isEmpty then aC 6 a_ else pl)).toArray }) rfl (by first | (simp;done) | (rcases pp with rfl | ⟨_,_,_,_,_,_,_,rfl⟩<;>simp)) rfl
 exact k _ m up
theorem Om(hf:env.frame=some L)(x:VS s.heap base e cls a0 (rawInt L))(k:Q () s):afd M A (noteFrame (.ref e) env) Q E s:=by
 obtain⟨ox,us,T,ot,ws,g1,g2,g3,g4,g5,g6,g7,g8,g9⟩:=x
 unfold noteFrame
 simp only[hf]
 refine afe (wpAny_field g1 g3 g4 ?_)
 rw[if_pos (by simp)]
 refine afe (wpAny_field g7 g8 g9 ?_)
 rw[if_pos (by simp)]
 exact afk k
theorem L9(x:JR base l e cls a0 nt s.heap)(k:∀h',EZ base l e cls a0 h'->s.heap.UpToSlots h'->Q () { s with heap:=h' }):afd M A (setFlight (.ref e) none) Q E s:=by
 obtain⟨x1,x2,x3,ox,us,T,ot,ws,g1,g2,g3,g4,g5,g6,g7,g8,g9⟩:=x
 have sz:3 < ws.size:=(Array.getElem?_eq_some_iff.mp g9).1
 unfold setFlight
 refine afe (wpAny_field g1 g3 g4 ?_)
 rw[if_pos (by simp)]
 refine wpAny_setField g7 g8 sz ?_
 generalize hu:s.heap.update T _=h'
 have ap:∀b,b≠T->h'.get? b=s.heap.get? b:=λb n=>by rw[<-hu];exact rD _ _ (bI n)
 have pl:∀b o,s.heap.get? b=some o->(∀vs,o.data≠.fields vs)->h'.get? b=some o:=λb o q n=>(ap b λz=>by rw[z,g7] at q;cases q;exact n ws g8).trans q
 refine k h' ⟨λb o q=>(ap b λz=>by rw[z,g5] at q;cases q).trans (x1 b o q),x2,x3.of_keeps λb o q n=>⟨o,pl b o q n,rfl⟩,ox,us,T,jJ (·.setIfInBounds 3 .none) ot,ws.setIfInBounds 3 .none,(ap e (bI g6)).trans g1,g2,g3,g4,g5,g6,?_,qO g8 _,?_⟩ λb o q n=>⟨o.slots,pl b o q n⟩
 ·rw[<-hu];exact mP _ g7 (A0 (qO g8 _))
 ·simp[sz]
end
structure Lm where
 a:aeU
 c:aeU
 q:PySem.Str
 xs:List V
inductive Wv where
 | aZ
 | bl (b:Bool)
 | int (i:Int)
 | str (x:PySem.Str)
 | tup (ws:List Wv)
 | qh (ws:List Wv)
 | ref (l:Nat)
 | ty (n:String)
 | cls (c:PySem.Str)
 | xx (c:PySem.Str)
 | fn (p:Lm) (ws:List Wv)
inductive Ob where
 | lst (ws:List Wv)
 | rH (ns:List Int)
 | dct (kvs:List (L2.Key×Wv))
 | bu (kvs:List (List L2.Key×Wv))
 | fW (kvs:List (List L2.Key×Wv))
abbrev Hs:=List Ob
abbrev St:=L2.St
abbrev bD:=List (Option Wv)
abbrev Mp:=List aeU
def E5(a C:aeU):Heap->Prop:=λh=>∃o,h.get? a=some o/\o.cls= .ref C/\∃vs,o.data= .fields vs
def VT(a C:aeU)(u:Option HO):Prop:=∃o vs,u=some (.dY o (.ext (E5 a C)))/\o.data= .fields vs/\vs[2]? =some a_
theorem L_{P:aeY}{w:ae1}{H:Hp}{h:Heap}{a C:aeU}(ok:kA P w H h)(x:VT a C (H a)):E5 a C h:=let ⟨_,_,e,_⟩:=x;(ok a _ e).2.1
def ClsAt(K:PySem.W.Frag)(c:PySem.Str)(C:aeU):Prop:=PySem.W.nsIn K afa c=some (some (.ref C))
def E6(c:aeU)(q:PySem.Str):Heap->Prop:=λh=>h.CodeRec (.ref c) q
def cT:List PySem.Str:=["form_of","formula_by","turned","readied_content"]
def jK(K:PySem.W.Frag)(q:PySem.Str):Option aeU:=match PySem.W.tabIn K q with
 | some (_,P)=>if(K.lookup P).isNone=true then some P else none
 | none=>none
def Xw(q:PySem.Str):PySem.Str:=(q++".<locals>.")++"<lambda>"
def vJ(K:PySem.W.Frag)(H:Hp):Prop:=∀q P,q∈cT->jK K q=some P->∃ps,H P=some (.jC ps)/\TriplesOk ps.toList/\∀pos cv,codeAmong pos ps.toList=some cv->∃c,cv= .ref c/\H c=some (.ext (E6 c (Xw q)))
theorem vJ.keep{K:PySem.W.Frag}{H H':Hp}(t:vJ K H)(h1:∀a ps,H a=some (.jC ps)->H' a=some (.jC ps))(h2:∀a φ,H a=some (.ext φ)->H' a=some (.ext φ)):vJ K H':=λq P hq hP=>by
 obtain⟨ps,e1,e2,e3⟩:=t q P hq hP
 refine⟨ps,h1 _ _ e1,e2,λpos cv e=>?_⟩
 obtain⟨c,f1,f2⟩:=e3 pos cv e
 exact⟨c,f1,h2 _ _ f2⟩
def Xx(K:PySem.W.Frag)(a:aeU)(xs:List V):Prop:=∃(o:Obj)(its:Array ae0)(n:Nat),K.lookup a=some o/\o.cls= .type "tuple"/\o.data= .seq its n/\its.size<=afb/\Vals xs its.toList
mutual
def ag(K:PySem.W.Frag)(m:Mp)(H:Hp):Wv->V->Prop
 | .aZ,v=>v= .aZ
 | .bl b,v=>v= .bl b
 | .int i,v=>v= .int i
 | .str x,v=>v= .str x/\bo x=true
 | .tup ws,v=>∃a xs,v= .ref a/\H a=some (.tup xs)/\ah K m H ws xs
 | .qh ws,v=>∃a xs,v= .ref a/\Xx K a xs/\ah K m H ws xs
 | .ref l,v=>∃a,v= .ref a/\m[l]? =some a
 | .ty n,v=>v= .ty n
 | .cls c,v=>∃C,v= .ref C/\ClsAt K c C
 | .xx c,v=>∃a C,v= .ref a/\ClsAt K c C/\VT a C (H a)
 | .fn p ws,v=>v= .ref p.a/\H p.c=some (.ext (E6 p.c p.q))/\ah K m H ws p.xs
def ah(K:PySem.W.Frag)(m:Mp)(H:Hp):List Wv->List V->Prop
 | [],xs=>xs=[]
 | w::ws,xs=>∃x r,xs=x::r/\ag K m H w x/\ah K m H ws r
end
structure Ext(K:PySem.W.Frag)(m:Mp)(H:Hp)(m':Mp)(H':Hp):Prop where
 pre:∀(l:Nat)(a:aeU),m[l]? =some a->m'[l]? =some a
 tup:∀(a:aeU)(xs:List V),H a=some (.tup xs)->H' a=some (.tup xs)
 ext:∀(a:aeU)(φ:Heap->Prop),H a=some (.ext φ)->H' a=some (.ext φ)
 dY:∀(a:aeU)(o:Obj)(u:HO),H a=some (.dY o u)->H' a=some (.dY o u)
section
variable {K:PySem.W.Frag} {m m1 m2:Mp} {H H1 H2:Hp}
theorem Ext.refl:Ext K m H m H:=⟨λ_ _ h=>h,λ_ _ h=>h,λ_ _ h=>h,λ_ _ _ h=>h⟩
theorem Ext.trans(a:Ext K m H m1 H1)(b:Ext K m1 H1 m2 H2):Ext K m H m2 H2 :=
 ⟨λl x h=>b.pre l x (a.pre l x h),λx xs h=>b.tup x xs (a.tup x xs h),λx φ h=>b.ext x φ (a.ext x φ h),λx o u h=>b.dY x o u (a.dY x o u h)⟩
structure xy(K:PySem.W.Frag)(m:Mp)(H:Hp)(m':Mp)(H':Hp):Prop where
 pre:∀(l:Nat)(a:aeU),m[l]? =some a->m'[l]? =some a
 tup:∀(a:aeU)(xs:List V),H a=some (.tup xs)->H' a=some (.tup xs)
 ext:∀(a:aeU)(φ:Heap->Prop),H a=some (.ext φ)->H' a=some (.ext φ)
 fx:∀(a:aeU)(o:Obj)(φ:Heap->Prop),H a=some (.dY o (.ext φ))->H' a=some (.dY o (.ext φ))
theorem Ext.z(e:Ext K m H m1 H1):xy K m H m1 H1:=⟨e.pre,e.tup,e.ext,λa o φ h=>e.dY a o _ h⟩
mutual
theorem ag.eC(e:xy K m H m1 H1):∀(w:Wv)(v:V),ag K m H w v->ag K m1 H1 w v
 | .aZ,v,h=>by unfold ag at h ⊢;exact h
 | .bl b,v,h=>by unfold ag at h ⊢;exact h
 | .int i,v,h=>by unfold ag at h ⊢;exact h
 | .str x,v,h=>by unfold ag at h ⊢;exact h
 | .ty n,v,h=>by unfold ag at h ⊢;exact h
 | .cls c,v,h=>by unfold ag at h ⊢;exact h
 | .xx c,v,h=>by
  unfold ag at h ⊢
  obtain⟨a,C,e1,e2,o,vs,e3,e4⟩:=h
  exact⟨a,C,e1,e2,o,vs,e.fx _ _ _ e3,e4⟩
 | .ref l,v,h=>by
  unfold ag at h ⊢
  obtain⟨a,e1,e2⟩:=h
  exact⟨a,e1,e.pre _ _ e2⟩
 | .tup ws,v,h=>by
  unfold ag at h ⊢
  obtain⟨a,xs,e1,e2,e3⟩:=h
  exact⟨a,xs,e1,e.tup _ _ e2,ah.eC e ws xs e3⟩
 | .qh ws,v,h=>by
  unfold ag at h ⊢
  obtain⟨a,xs,e1,e2,e3⟩:=h
  exact⟨a,xs,e1,e2,ah.eC e ws xs e3⟩
 | .fn p ws,v,h=>by
  unfold ag at h ⊢
  obtain⟨e1,e2,e3⟩:=h
  exact⟨e1,e.ext _ _ e2,ah.eC e ws p.xs e3⟩
theorem ah.eC(e:xy K m H m1 H1):∀(ws:List Wv)(xs:List V),ah K m H ws xs->ah K m1 H1 ws xs
 | [],xs,h=>by unfold ah at h ⊢;exact h
 | w::ws,xs,h=>by
  unfold ah at h ⊢
  obtain⟨x,r,e1,e2,e3⟩:=h
  exact⟨x,r,e1,ag.eC e w x e2,ah.eC e ws r e3⟩
end
theorem ag.mono(e:Ext K m H m1 H1)(w:Wv)(v:V)(h:ag K m H w v):ag K m1 H1 w v:=ag.eC e.z w v h
theorem ah.mono(e:Ext K m H m1 H1)(ws:List Wv)(xs:List V)(h:ah K m H ws xs):ah K m1 H1 ws xs:=ah.eC e.z ws xs h
theorem ah.nil:ah K m H [] []:=by unfold ah;rfl
theorem ah.cons{w:Wv}{x:V}{ws:List Wv}{xs:List V}(h:ag K m H w x)(t:ah K m H ws xs):ah K m H (w::ws) (x::xs):=by unfold ah;exact⟨x,xs,rfl,h,t⟩
theorem ah.length:∀{ws:List Wv}{xs:List V},ah K m H ws xs->ws.length=xs.length
 | [],xs,h=>by unfold ah at h;subst h;rfl
 | w::ws,xs,h=>by
  unfold ah at h
  obtain⟨x,r,e1,_,e3⟩:=h
  subst e1
  simp[ah.length e3]
theorem ah.get:∀{ws:List Wv}{xs:List V}{i:Nat}{w:Wv},ah K m H ws xs->ws[i]? =some w->∃x,xs[i]? =some x/\ag K m H w x
 | [],_,i,w,_,e=>by simp at e
 | a::ws,xs,0,w,h,e=>by
  unfold ah at h
  obtain⟨x,r,e1,e2,_⟩:=h
  subst e1
  simp at e
  subst e
  exact⟨x,rfl,e2⟩
 | a::ws,xs,i+1,w,h,e=>by
  unfold ah at h
  obtain⟨x,r,e1,_,e3⟩:=h
  subst e1
  obtain⟨y,f1,f2⟩:=ah.get (i:=i) (w:=w) e3 (by simpa using e)
  exact⟨y,by simpa using f1,f2⟩
theorem ah.append:∀{ws zs:List Wv}{xs ys:List V},ah K m H ws xs->ah K m H zs ys->ah K m H (ws++zs) (xs++ys)
 | [],_,xs,_,h,g=>by unfold ah at h;subst h;exact g
 | w::ws,zs,xs,ys,h,g=>by
  unfold ah at h
  obtain⟨x,r,e1,e2,e3⟩:=h
  subst e1
  exact ah.cons e2 (ah.append e3 g)
theorem ah.set:∀{ws:List Wv}{xs:List V}(i:Nat){w:Wv}{x:V},ah K m H ws xs->ag K m H w x->ah K m H (ws.set i w) (xs.set i x)
 | [],xs,i,w,x,h,_=>by unfold ah at h;subst h;exact ah.nil
 | a::ws,xs,0,w,x,h,g=>by
  unfold ah at h
  obtain⟨y,r,e1,e2,e3⟩:=h
  subst e1
  exact ah.cons g e3
 | a::ws,xs,i+1,w,x,h,g=>by
  unfold ah at h
  obtain⟨y,r,e1,e2,e3⟩:=h
  subst e1
  exact ah.cons e2 (ah.set i e3 g)
theorem ah.drop:∀{ws:List Wv}{xs:List V}(i:Nat),ah K m H ws xs->ah K m H (ws.drop i) (xs.drop i)
 | ws,xs,0,h=>by simpa using h
 | [],xs,i+1,h=>by unfold ah at h;subst h;simpa using ah.nil
 | a::ws,xs,i+1,h=>by
  unfold ah at h
  obtain⟨y,r,e1,e2,e3⟩:=h
  subst e1
  simpa using ah.drop i e3
theorem ah.take:∀{ws:List Wv}{xs:List V}(i:Nat),ah K m H ws xs->ah K m H (ws.take i) (xs.take i)
 | ws,xs,0,h=>by simpa using ah.nil
 | [],xs,i+1,h=>by unfold ah at h;subst h;simpa using ah.nil
 | a::ws,xs,i+1,h=>by
  unfold ah at h
  obtain⟨y,r,e1,e2,e3⟩:=h
  subst e1
  simpa using ah.cons e2 (ah.take i e3)
theorem ah.ints:∀(ns:List Int),ah K m H (ns.map Wv.int) (ns.map V.int)
 | []=>ah.nil
 | n::ns=>ah.cons (by unfold ag;rfl) (ah.ints ns)
end
def xA(K:PySem.W.Frag)(H:Hp)(a:aeU)(ns:List Int):Prop :=
 (∃o,H a=some (.dY o (.lst (ns.map V.int))))\/
  ∃(o:Obj)(its:Array ae0)(n:Nat),K.lookup a=some o/\o.cls= .type "list"/\o.dict=none/\o.data= .seq its n/\its.size<=afb/\Vals (ns.map V.int) its.toList
def RelK{κ:Type}(K:PySem.W.Frag)(m:Mp)(H:Hp)(kvs:List (κ×Wv))(xs:List (κ×V)):Prop:=kvs.map (·.1)=xs.map (·.1)/\ah K m H (kvs.map (·.2)) (xs.map (·.2))
def tU(K:PySem.W.Frag)(m:Mp)(H:Hp)(a:aeU):Ob->Prop
 | .lst ws=>∃xs,H a=some (.lst xs)/\ah K m H ws xs
 | .rH ns=>xA K H a ns
 | .dct kvs=>∃xs,H a=some (.dK xs)/\RelK K m H kvs xs
 | .bu kvs=>∃xs,H a=some (.dT xs)/\RelK K m H kvs xs
 | .fW kvs=>∃o xs,H a=some (.dY o (.dT xs))/\RelK K m H kvs xs
def Ob.mu:Ob->Bool
 | .rH _=>false
 | _=>true
def Ob.wm:Ob->Bool
 | .rH _=>false
 | .fW _=>false
 | _=>true
theorem Ob.SX{o:Ob}(h:o.wm=true):o.mu=true:=by cases o<;>first | rfl | cases h
structure bq(K:PySem.W.Frag)(m:Mp)(st:Hs)(H:Hp):Prop where
 len:m.length=st.length
 obj:∀(l:Nat)(a:aeU)(o:Ob),m[l]? =some a->st[l]? =some o->tU K m H a o
 inj:∀(l l':Nat)(a:aeU)(o o':Ob),m[l]? =some a->m[l']? =some a->st[l]? =some o->st[l']? =some o'->o.mu=true->o'.mu=true->l=l'
 tab:vJ K H
def aq(st:Hs)(l:Nat):Option (List Wv):=match st[l]? with
 | some (.lst ws)=>some ws
 | some (.rH ns)=>some (ns.map Wv.int)
 | _=>none
section
variable {K:PySem.W.Frag} {m:Mp} {H:Hp} {st:Hs}
def Wr(u:Option HO):Prop:=u=none\/(∃ys,u=some (.lst ys))\/(∃ys,u=some (.dK ys))\/∃ys,u=some (.dT ys)
theorem Wr.ne{p a:aeU}{u:HO}(hp:Wr (H p))(e:H a=some u)(n1:∀ys,u≠.lst ys)(n2:∀ys,u≠.dK ys)(n3:∀ys,u≠.dT ys):a≠p:=λz=>by
 subst z
 rcases hp with q | ⟨ys,q⟩ | ⟨ys,q⟩ | ⟨ys,q⟩
 ·rw[q] at e;cases e
 ·rw[q] at e;cases e;exact n1 ys rfl
 ·rw[q] at e;cases e;exact n2 ys rfl
 ·rw[q] at e;cases e;exact n3 ys rfl
theorem E7{p a:aeU}{o:HO}{xs:List V}(hp:Wr (H p))(h:H a=some (.tup xs)):upd H p o a=some (.tup xs):=by
 rw[au (hp.ne h (by intro ys z;cases z) (by intro ys z;cases z) (by intro ys z;cases z))];exact h
theorem E8{p a:aeU}{o:HO}{ns:List Int}(hp:Wr (H p))(h:xA K H a ns):xA K (upd H p o) a ns:=by
 rcases h with ⟨o',h⟩ | h
 ·exact .inl ⟨o',by rw[au (hp.ne h (by intro ys z;cases z) (by intro ys z;cases z) (by intro ys z;cases z))];exact h⟩
 ·exact .inr h
theorem Wr.of{u:Option HO}(h:u=none\/∃ys,u=some (.lst ys)):Wr u:=by
 rcases h with q | q
 ·exact .inl q
 ·exact .inr (.inl q)
theorem Ext.gz{p:aeU}{o:HO}(hp:Wr (H p)):Ext K m H m (upd H p o):=⟨λ_ _ h=>h,λ_ _ h=>E7 hp h,λa φ h=>by
 rw[au (hp.ne h (by intro ys z;cases z) (by intro ys z;cases z) (by intro ys z;cases z))]
 exact h,λa o u h=>by
 rw[au (hp.ne h (by intro ys z;cases z) (by intro ys z;cases z) (by intro ys z;cases z))]
 exact h⟩
theorem Ext.upd{p:aeU}{o:HO}(hp:H p=none\/∃ys,H p=some (.lst ys)):Ext K m H m (upd H p o):=Ext.gz (Wr.of hp)
theorem RelK.mono{κ:Type}{m1:Mp}{H1:Hp}{kvs:List (κ×Wv)}{xs:List (κ×V)}(e:Ext K m H m1 H1)(h:RelK K m H kvs xs):RelK K m1 H1 kvs xs:=⟨h.1,ah.mono e _ _ h.2⟩
theorem tU.keep{m1:Mp}{b p:aeU}{u:HO}{o:Ob}(ex:Ext K m H m1 (L2.upd H p u))(hp:Wr (H p))(hb:o.mu=true->b≠p)(h:tU K m H b o):tU K m1 (L2.upd H p u) b o:=by
 cases o with
 | lst ws=>
  obtain⟨xs,e1,e2⟩:=h
  exact⟨xs,by rw[au (hb rfl)];exact e1,ah.mono ex _ _ e2⟩
 | dct kvs=>
  obtain⟨xs,e1,e2⟩:=h
  exact⟨xs,by rw[au (hb rfl)];exact e1,e2.mono ex⟩
 | bu kvs=>
  obtain⟨xs,e1,e2⟩:=h
  exact⟨xs,by rw[au (hb rfl)];exact e1,e2.mono ex⟩
 | fW kvs=>
  obtain⟨o,xs,e1,e2⟩:=h
  exact⟨o,xs,by rw[au (hb rfl)];exact e1,e2.mono ex⟩
 | rH ns=>exact E8 hp h
theorem tU.at{b:aeU}{o:Ob}(h:tU K m H b o)(hm:o.mu=true):∃u,H b=some u:=by
 cases o with
 | lst ws=>obtain⟨xs,e1,e2⟩:=h;exact⟨_,e1⟩
 | dct kvs=>obtain⟨xs,e1,e2⟩:=h;exact⟨_,e1⟩
 | bu kvs=>obtain⟨xs,e1,e2⟩:=h;exact⟨_,e1⟩
 | fW kvs=>obtain⟨o,xs,e1,e2⟩:=h;exact⟨_,e1⟩
 | rH ns=>simp[Ob.mu] at hm
theorem tU.wr{b:aeU}{o:Ob}(h:tU K m H b o)(hm:o.wm=true):Wr (H b):=by
 cases o with
 | lst ws=>obtain⟨xs,e1,e2⟩:=h;exact .inr (.inl ⟨_,e1⟩)
 | dct kvs=>obtain⟨xs,e1,e2⟩:=h;exact .inr (.inr (.inl ⟨_,e1⟩))
 | bu kvs=>obtain⟨xs,e1,e2⟩:=h;exact .inr (.inr (.inr ⟨_,e1⟩))
 | fW kvs=>cases hm
 | rH ns=>cases hm
theorem vJ.gz{p:aeU}{o:HO}(t:vJ K H)(hp:Wr (H p)):vJ K (L2.upd H p o):=t.keep
 (λa ps h=>by rw[au (hp.ne h (by intro ys z;cases z) (by intro ys z;cases z) (by intro ys z;cases z))];exact h)
 λa φ h=>by rw[au (hp.ne h (by intro ys z;cases z) (by intro ys z;cases z) (by intro ys z;cases z))];exact h
theorem Ext.more{p:aeU}:Ext K m H (m++[p]) H:=⟨λl a h=>by
 rw[gX]
 ·exact h
 ·exact(List.getElem?_eq_some_iff.mp h).1,λ_ _ h=>h,λ_ _ h=>h,λ_ _ _ h=>h⟩
theorem bq.fresh{p:aeU}{o:HO}(S:bq K m st H)(hp:H p=none):bq K m st (upd H p o) :=
 ⟨S.len,λl a ob h1 h2=>by
  have q:=S.obj l a ob h1 h2
  refine q.keep (Ext.gz (.inl hp)) (.inl hp) λhm=>?_
  obtain⟨u,e⟩:=q.at hm
  exact bg e hp,S.inj,S.tab.gz (.inl hp)⟩
theorem bq.og{l:Nat}{a:aeU}{ws:List Wv}(S:bq K m st H)(h1:m[l]? =some a)(h2:st[l]? =some (.lst ws)):∃xs,H a=some (.lst xs)/\ah K m H ws xs:=S.obj l a _ h1 h2
theorem bq.read{l:Nat}{a:aeU}{ws:List Wv}(S:bq K m st H)(h1:m[l]? =some a)(h2:aq st l=some ws):∃xs,kC K H a xs/\ah K m H ws xs:=by
 unfold aq at h2
 cases e:st[l]? with
 | none=>rw[e] at h2;cases h2
 | some o=>
  rw[e] at h2
  cases o with
  | lst zs=>
   cases h2
   obtain⟨xs,e1,e2⟩:=S.og h1 e
   exact⟨xs,kC.of e1,e2⟩
  | dct kvs=>cases h2
  | bu kvs=>cases h2
  | fW kvs=>cases h2
  | rH ns=>
   cases h2
   have q:xA K H a ns:=S.obj l a _ h1 e
   refine⟨ns.map V.int,?_,ah.ints ns⟩
   rcases q with ⟨o,q⟩ | q
   ·exact .inl (.inr ⟨o,q⟩)
   ·exact .inr q
theorem bq.vK{p:aeU}{ob:Ob}{u:HO}(S:bq K m st H)(hp:H p=none)(r:tU K (m++[p]) (L2.upd H p u) p ob):bq K (m++[p]) (st++[ob]) (L2.upd H p u):=by
 have ex:Ext K m H (m++[p]) (L2.upd H p u):=Ext.more.trans (Ext.gz (.inl hp))
 have E9:∀(l:Nat)(o:Ob),m[l]? =some p->st[l]? =some o->o.mu=true->False:=λl o h1 h2 hm=>by
  obtain⟨v,e⟩:=(S.obj l p o h1 h2).at hm
  rw[hp] at e;cases e
 have old:∀(l:Nat)(a:aeU),(m++[p])[l]? =some a->(l < m.length/\m[l]? =some a)\/(l=m.length/\a=p):=λl a h=>by
  by_cases hl:l < m.length
  ·exact .inl ⟨hl,by rw[gX hl] at h;exact h⟩
  ·have h':=h
   rw[pe (by omega)] at h'
   have z:=List.getElem?_eq_some_iff.mp h'
   have z1:l - m.length < 1:=by simpa using z.1
   refine .inr ⟨by omega,?_⟩
   have e0:l - m.length=0:=by omega
   rw[e0] at h'
   simpa using h'.symm
 have olds:∀(l:Nat)(o:Ob),l < m.length->(st++[ob])[l]? =some o->st[l]? =some o:=λl o hl h=>by
  rw[gX (by rw[<-S.len];exact hl)] at h
  exact h
 refine⟨by simp[S.len],λl a o h1 h2=>?_,λl l' a zs zs' h1 Ma h2 h2' k k'=>?_,S.tab.gz (.inl hp)⟩
 ·rcases old l a h1 with ⟨hl,h1⟩ | ⟨hl,rfl⟩
  ·have q:=S.obj l a o h1 (olds l o hl h2)
   refine q.keep ex (.inl hp) λhm=>?_
   obtain⟨v,e⟩:=q.at hm
   exact bg e hp
  ·have e:o=ob:=by
    rw[hl,S.len,pe (ao _),vL] at h2
    simpa using h2.symm
   subst e
   exact r
 ·rcases old l a h1 with ⟨hl,g1⟩ | ⟨hl,ea⟩
  ·rcases old l' a Ma with ⟨hl',Ec⟩ | ⟨hl',ea'⟩
   ·exact S.inj l l' a zs zs' g1 Ec (olds l _ hl h2) (olds l' _ hl' h2') k k'
   ·rw[ea'] at g1
    exact(E9 l zs g1 (olds l _ hl h2) k).elim
  ·rcases old l' a Ma with ⟨hl',Ec⟩ | ⟨hl',_⟩
   ·rw[ea] at Ec
    exact(E9 l' zs' Ec (olds l' _ hl' h2') k').elim
   ·omega
theorem bq.alloc{p:aeU}{ws:List Wv}{xs:List V}(S:bq K m st H)(hp:H p=none)(r:ah K m H ws xs):bq K (m++[p]) (st++[.lst ws]) (upd H p (.lst xs)) :=
 S.vK hp ⟨xs,aF,ah.mono (Ext.more.trans (Ext.gz (.inl hp))) _ _ r⟩
theorem bq.i7{l:Nat}{a:aeU}{o0 ob:Ob}{u:HO}(S:bq K m st H)(h1:m[l]? =some a)(h2:st[l]? =some o0)(hw:o0.wm=true)(r:tU K m (L2.upd H a u) a ob):bq K m (st.set l ob) (L2.upd H a u):=by
 have wr:Wr (H a):=(S.obj l a o0 h1 h2).wr hw
 have hm:=Ob.SX hw
 have ex:Ext K m H m (L2.upd H a u):=Ext.gz wr
 have hl:l < st.length:=(List.getElem?_eq_some_iff.mp h2).1
 have at':∀(k:Nat)(o:Ob),(st.set l ob)[k]? =some o->(k=l/\o=ob)\/(k≠l/\st[k]? =some o):=λk o h=>by
  by_cases e:l=k
  ·subst e
   rw[oY hl] at h
   exact .inl ⟨rfl,(Option.some.inj h).symm⟩
  ·rw[bw e] at h
   exact .inr ⟨λz=>e z.symm,h⟩
 refine⟨by simp[S.len],λk b o g1 g2=>?_,λk k' b us us' g1 Ec g2 SY q q'=>?_,S.tab.gz wr⟩
 ·rcases at' k o g2 with ⟨rfl,rfl⟩ | ⟨hk,g2⟩
  ·rw[h1] at g1;cases g1
   exact r
  ·have q:=S.obj k b o g1 g2
   refine q.keep ex wr λho z=>?_
   subst z
   exact hk (S.inj k l b o o0 g1 h1 g2 h2 ho hm)
 ·have back:∀(k:Nat)(o:Ob),(st.set l ob)[k]? =some o->o.mu=true->∃o',st[k]? =some o'/\o'.mu=true:=λk o h ho=>by
   rcases at' k _ h with ⟨rfl,_⟩ | ⟨_,h⟩
   ·exact⟨o0,h2,hm⟩
   ·exact⟨o,h,ho⟩
  obtain⟨u1,e1,f1⟩:=back k us g2 q
  obtain⟨u2,e2,f2⟩:=back k' us' SY q'
  exact S.inj k k' b u1 u2 g1 Ec e1 e2 f1 f2
theorem bq.write{l:Nat}{a:aeU}{ws zs:List Wv}{xs:List V}(S:bq K m st H)(h1:m[l]? =some a)(h2:st[l]? =some (.lst ws))(r:ah K m H zs xs):bq K m (st.set l (.lst zs)) (upd H a (.lst xs)) :=
 S.i7 h1 h2 rfl ⟨xs,aF,ah.mono (Ext.gz ((S.obj l a _ h1 h2).wr rfl)) _ _ r⟩
end
structure az(K:PySem.W.Frag)(m:Mp)(H:Hp)(ρ:bD)(σ:St):Prop where
 len:ρ.length=σ.length
 get:∀(i:Nat)(w:Wv),ρ[i]? =some (some w)->∃v,σ[i]? =some (some v)/\ag K m H w v
section
variable {K:PySem.W.Frag} {m m1:Mp} {H H1:Hp} {ρ:bD} {σ:St}
theorem az.mono(R:az K m H ρ σ)(e:Ext K m H m1 H1):az K m1 H1 ρ σ:=⟨R.len,λi w h=>let ⟨v,h1,h2⟩:=R.get i w h;⟨v,h1,ag.mono e _ _ h2⟩⟩
theorem az.set(R:az K m H ρ σ)(i:Nat){w:Wv}{v:V}(h:ag K m H w v):az K m H (ρ.set i (some w)) (σ.set i (some v)):=by
 refine⟨by simp[R.len],λj u e=>?_⟩
 by_cases hj:i=j
 ·subst hj
  have hi:i < ρ.length:=by
   have:=(List.getElem?_eq_some_iff.mp e).1
   simpa using this
  rw[oY hi] at e
  have e':w=u:=Option.some.inj (Option.some.inj e)
  subst e'
  exact⟨v,by rw[oY (by rw[<-R.len];exact hi)],h⟩
 ·rw[bw hj] at e
  obtain⟨x,h1,h2⟩:=R.get j u e
  exact⟨x,by rw[bw hj];exact h1,h2⟩
end
inductive Re(α:Type) where
 | ok (a:α) (st:Hs)
 | err (c:PySem.Str) (st:Hs)
 | bad
def Re.bind{α β:Type}(r:Re α)(f:α->Hs->Re β):Re β:=match r with
 | .ok a st=>f a st
 | .err c st=> .err c st
 | .bad=> .bad
inductive Rs where
 | nx (ρ:bD) (st:Hs)
 | rt (w:Wv) (st:Hs)
 | bk (ρ:bD) (st:Hs)
 | ct (ρ:bD) (st:Hs)
 | err (c:PySem.Str) (ρ:bD) (st:Hs)
 | bad
def Re.a7{α:Type}(ρ:bD)(r:Re α)(f:α->Hs->Rs):Rs:=match r with
 | .ok a st=>f a st
 | .err c st=> .err c ρ st
 | .bad=> .bad
def Re.oW{α:Type}(r:Re α):Re α:=match r with
 | .ok a st=> .ok a st
 | _=> .bad
abbrev GE:=bD->Hs->Re Wv
abbrev GT:=bD->Hs->Re Bool
abbrev GA:=bD->Hs->Re (List Wv)
abbrev GS:=bD->Hs->Rs
def xB(P:aeY)(w:ae1)(outer:List Env)(H:Hp)(s:aeZ)(H':Hp)(cls:ae0)(e:ae0)(s':aeZ):Prop :=
 ∃(a:aeU)(a0:ae0)(B:Heap),e= .ref a/\s'.os=s.os/\AllBare s'.gens/\Un (frs outer) [] H H' s.heap s'.heap/\kA P w H' B/\EZ B outer a cls a0 s'.heap/\
  (∀b o,s.heap.get? b=some o->b∉frs outer->∃o',B.get? b=some o'/\(H b=none->o'=o))
def ph(X:Cx)(pins:List (aeU×Obj))(H:Hp)(s:aeZ)(H':Hp)(cls:ae0)(e:ae0)(s':aeZ):Prop :=
 ∃(a:aeU)(a0 nt:ae0)(B:Heap)(ch:List aeU),e= .ref a/\s'.os=s.os/\AllBare s'.gens/\(∀b∈ch,iE X pins H b)/\Un (frs X.stack) ch H H' s.heap s'.heap/\kA X.prog X.w H' B/\
  (B.StaysIn s'.heap/\B.get? a=none/\s'.heap.FunFrames B X.stack/\VS s'.heap B a cls a0 nt)/\
  (∀b o,s.heap.get? b=some o->b∉frs X.stack->b∉ch->∃o',B.get? b=some o'/\(H b=none->o'=o))
theorem xB.any{X:Cx}{pins:List (aeU×Obj)}{H H':Hp}{s s':aeZ}{cls e:ae0}(f:xB X.prog X.w X.stack H s H' cls e s'):ph X pins H s H' cls e s' :=
 let ⟨a,a0,B,e1,e2,e3,un,hok,fl,S0⟩:=f
 ⟨a,a0,.none,B,[],e1,e2,e3,(λb z=>by cases z),un,hok,fl,λb o q hb _=>S0 b o q hb⟩
def zx(X:Cx)(σ:St)(H':Hp)(c:PySem.Str)(e:ae0)(s':aeZ):Prop :=
 ∃(C:aeU)(pins:List (aeU×Obj))(Hc:Hp)(sc:aeZ),ClsAt X.K c C/\Inv X pins σ Hc sc/\
  (ph X pins Hc sc H' (.ref C) e s'\/(H'=Hc/\∃a args,e= .ref a/\s'.os=sc.os/\s'.gens=sc.gens/\E_ sc.heap s'.heap a (.ref C) args))
def RI(X:Cx)(σ:St)(m:Mp)(H:Hp)(c:PySem.Str)(st:Hs):Prop :=
 ∀(m':Mp)(H':Hp)(e:ae0)(s':aeZ),Ext X.K m H m' H'->bq X.K m' st H'->zx X σ H' c e s'->X.xe e s'
theorem RI.mono{X:Cx}{σ:St}{m m1:Mp}{H H1:Hp}{c:PySem.Str}{st:Hs}(h:RI X σ m H c st)(e:Ext X.K m H m1 H1):RI X σ m1 H1 c st :=
 λm' H' x s' e' S r=>h m' H' x s' (e.trans e') S r
def aw{α:Type}(X:Cx)(σ:St)(m:Mp)(H:Hp)(r:Re α)(ok:α->Hs->Prop):Prop:=match r with
 | .ok a st=>ok a st
 | .err c st=>RI X σ m H c st
 | .bad=>False
def rJ{α:Type}(r:Re α)(ok:α->Hs->Prop):Prop:=match r with
 | .ok a st=>ok a st
 | _=>False
theorem aw.oW{α:Type}{X:Cx}{σ:St}{m:Mp}{H:Hp}{r:Re α}{ok:α->Hs->Prop}(h:aw X σ m H r.oW ok):rJ r ok:=by
 cases r with
 | ok a st=>exact h
 | err c st=>exact h
 | bad=>exact h
theorem aw.bind{α β:Type}{X:Cx}{σ:St}{m:Mp}{H:Hp}{r:Re α}{f:α->Hs->Re β}{ok:β->Hs->Prop}(h:aw X σ m H (r.bind f) ok):aw X σ m H r (λa st=>aw X σ m H (f a st) ok):=by
 cases r with
 | ok a st=>exact h
 | err c st=>exact h
 | bad=>exact h
theorem aw.imp{α:Type}{X:Cx}{σ:St}{m m1:Mp}{H H1:Hp}{r:Re α}{ok ok':α->Hs->Prop}(h:aw X σ m H r ok)(e:Ext X.K m H m1 H1)(k:∀a st,ok a st->ok' a st):aw X σ m1 H1 r ok':=by
 cases r with
 | ok a st=>exact k a st h
 | err c st=>exact RI.mono (c:=c) (st:=st) h e
 | bad=>exact h
theorem rJ.imp{α:Type}{r:Re α}{ok ok':α->Hs->Prop}(h:rJ r ok)(k:∀a st,ok a st->ok' a st):rJ r ok':=by
 cases r with
 | ok a st=>exact k a st h
 | err c st=>exact h
 | bad=>exact h
def RJ(K:PySem.W.Frag)(m:Mp)(H:Hp)(Q:VK)(w:Wv)(st:Hs):Prop:=∀(v:V)(m':Mp)(H':Hp),Ext K m H m' H'->bq K m' st H'->ag K m' H' w v->Q v H'
def okT(K:PySem.W.Frag)(m:Mp)(H:Hp)(Q:Bool->Hp->Prop)(b:Bool)(st:Hs):Prop:=∀(m':Mp)(H':Hp),Ext K m H m' H'->bq K m' st H'->Q b H'
def okA(K:PySem.W.Frag)(m:Mp)(H:Hp)(Q:List V->Hp->Prop)(ws:List Wv)(st:Hs):Prop:=∀(vs:List V)(m':Mp)(H':Hp),Ext K m H m' H'->bq K m' st H'->ah K m' H' ws vs->Q vs H'
abbrev eD(X:Cx)(σ:St)(m:Mp)(H:Hp)(r:Re Wv)(Q:VK):Prop:=aw X σ m H r (RJ X.K m H Q)
abbrev jq(X:Cx)(σ:St)(m:Mp)(H:Hp)(r:Re Bool)(Q:Bool->Hp->Prop):Prop:=aw X σ m H r (okT X.K m H Q)
abbrev Mb(X:Cx)(σ:St)(m:Mp)(H:Hp)(r:Re (List Wv))(Q:List V->Hp->Prop):Prop:=aw X σ m H r (okA X.K m H Q)
theorem eD.shift{X:Cx}{σ:St}{m m1:Mp}{H H1:Hp}{r:Re Wv}{Q:VK}(h:eD X σ m H r Q)(e:Ext X.K m H m1 H1):eD X σ m1 H1 r Q:=h.imp e λ_ _ k v m' H' e'=>k v m' H' (e.trans e')
theorem jq.shift{X:Cx}{σ:St}{m m1:Mp}{H H1:Hp}{r:Re Bool}{Q:Bool->Hp->Prop}(h:jq X σ m H r Q)(e:Ext X.K m H m1 H1):jq X σ m1 H1 r Q:=h.imp e λ_ _ k m' H' e'=>k m' H' (e.trans e')
abbrev cC(K:PySem.W.Frag)(m:Mp)(H:Hp)(r:Re Wv)(Q:VK):Prop:=rJ r (RJ K m H Q)
theorem cC.shift{K:PySem.W.Frag}{m m1:Mp}{H H1:Hp}{r:Re Wv}{Q:VK}(h:cC K m H r Q)(e:Ext K m H m1 H1):cC K m1 H1 r Q:=rJ.imp h λ_ _ k v m' H' e'=>k v m' H' (e.trans e')
def aA(X:Cx)(m:Mp)(H:Hp)(r:Rs)(D:Ends):Prop:=match r with
 | .nx ρ st=>∀(σ:St)(m':Mp)(H':Hp),Ext X.K m H m' H'->bq X.K m' st H'->az X.K m' H' ρ σ->D.nx σ H'
 | .rt w st=>∀(v:V)(m':Mp)(H':Hp),Ext X.K m H m' H'->bq X.K m' st H'->ag X.K m' H' w v->D.rt v H'
 | .bk ρ st=>∀(σ:St)(m':Mp)(H':Hp),Ext X.K m H m' H'->bq X.K m' st H'->az X.K m' H' ρ σ->D.bk σ H'
 | .ct ρ st=>∀(σ:St)(m':Mp)(H':Hp),Ext X.K m H m' H'->bq X.K m' st H'->az X.K m' H' ρ σ->D.ct σ H'
 | .err c ρ st=>∀(σ:St)(m':Mp)(H':Hp)(e:ae0)(s':aeZ),Ext X.K m H m' H'->bq X.K m' st H'->az X.K m' H' ρ σ->zx X σ H' c e s'->X.xe e s'
 | .bad=>False
theorem aA.shift{X:Cx}{m m1:Mp}{H H1:Hp}{r:Rs}{D:Ends}(h:aA X m H r D)(e:Ext X.K m H m1 H1):aA X m1 H1 r D:=by
 cases r with
 | nx ρ st=>exact λσ m' H' e'=>h σ m' H' (e.trans e')
 | rt w st=>exact λv m' H' e'=>h v m' H' (e.trans e')
 | bk ρ st=>exact λσ m' H' e'=>h σ m' H' (e.trans e')
 | ct ρ st=>exact λσ m' H' e'=>h σ m' H' (e.trans e')
 | err c ρ st=>exact λσ m' H' x s' e'=>h σ m' H' x s' (e.trans e')
 | bad=>exact h
theorem aA.bW{α:Type}{X:Cx}{m:Mp}{H:Hp}{ρ:bD}{σ:St}{r:Re α}{f:α->Hs->Rs}{D:Ends}(R:az X.K m H ρ σ)(h:aA X m H (r.a7 ρ f) D):aw X σ m H r (λa st=>aA X m H (f a st) D):=by
 cases r with
 | ok a st=>exact h
 | err c st=>exact λm' H' x s' e' S r=>h σ m' H' x s' e' S (R.mono e') r
 | bad=>exact h
def SE(X:Cx)(e:Expr):TE:=λσ H Q=>∀(pins:List (aeU×Obj))(s:aeZ),Inv X pins σ H s->afd (model X.prog X.w) X.A (eval e X.env) (EP X pins σ Q) X.xe s
def ST(X:Cx)(e:Expr):TT:=λσ H Q=>∀(pins:List (aeU×Obj))(s:aeZ),Inv X pins σ H s->afd (model X.prog X.w) X.A (isTrue e X.env (eval e X.env)) (TP X pins σ Q) X.xe s
def SA(X:Cx)(es:List Expr):TA:=λσ H Q=>∀(pos:Pos)(pins:List (aeU×Obj))(s:aeZ),Inv X pins σ H s->afd (model X.prog X.w) X.A (spliced (backTo pos (afc es X.env))) (AP X pins σ Q) X.xe s
def SS(X:Cx)(st:Stmt):TS:=λD σ H=>∀(pins:List (aeU×Obj))(s:aeZ),Inv X pins σ H s->afd (model X.prog X.w) X.A (exec st X.env) (SP X pins D) X.xe s
def VU(X:Cx)(st:List Stmt):TS:=λD σ H=>∀(pins:List (aeU×Obj))(s:aeZ),Inv X pins σ H s->afd (model X.prog X.w) X.A (execs st X.env) (SP X pins D) X.xe s
section
variable {X:Cx}
theorem aE{e:Expr}:PE X e (SE X e):=λpins s _ _ _ I h=>h pins s I
theorem qi{e:Expr}:PT X e (ST X e):=λpins s _ _ _ I h=>h pins s I
theorem mC{es:List Expr}:PA X es (SA X es):=λpos pins s _ _ _ I h=>h pos pins s I
theorem Mc{st:Stmt}:PS X st (SS X st):=λpins s _ _ _ I h=>h pins s I
theorem dJ{st:List Stmt}:D_ X st (VU X st):=λpins s _ _ _ I h=>h pins s I
end
def JE(X:Cx)(e:Expr)(g:GE):Prop:=∀(ρ:bD)(st:Hs)(σ:St)(H:Hp)(m:Mp)(Q:VK),bq X.K m st H->az X.K m H ρ σ->eD X σ m H (g ρ st) Q->SE X e σ H Q
def JT(X:Cx)(e:Expr)(g:GT):Prop:=∀(ρ:bD)(st:Hs)(σ:St)(H:Hp)(m:Mp)(Q:Bool->Hp->Prop),bq X.K m st H->az X.K m H ρ σ->jq X σ m H (g ρ st) Q->ST X e σ H Q
def JA(X:Cx)(es:List Expr)(g:GA):Prop:=∀(ρ:bD)(st:Hs)(σ:St)(H:Hp)(m:Mp)(Q:List V->Hp->Prop),bq X.K m st H->az X.K m H ρ σ->Mb X σ m H (g ρ st) Q->SA X es σ H Q
def JS(X:Cx)(s:Stmt)(g:GS):Prop:=∀(ρ:bD)(st:Hs)(σ:St)(H:Hp)(m:Mp)(D:Ends),bq X.K m st H->az X.K m H ρ σ->aA X m H (g ρ st) D->SS X s D σ H
def nL(X:Cx)(s:List Stmt)(g:GS):Prop:=∀(ρ:bD)(st:Hs)(σ:St)(H:Hp)(m:Mp)(D:Ends),bq X.K m st H->az X.K m H ρ σ->aA X m H (g ρ st) D->VU X s D σ H
section
variable {X:Cx}
theorem JE.of{e:Expr}{g:GE}{t:TE}(h:PE X e t)(k:∀(ρ:bD)(st:Hs)(σ:St)(H:Hp)(m:Mp)(Q:VK),bq X.K m st H->az X.K m H ρ σ->eD X σ m H (g ρ st) Q->t σ H Q):JE X e g :=
 λρ st σ H m Q S R p pins s I=>h pins s σ H Q I (k ρ st σ H m Q S R p)
theorem JT.of{e:Expr}{g:GT}{t:TT}(h:PT X e t)(k:∀(ρ:bD)(st:Hs)(σ:St)(H:Hp)(m:Mp)(Q:Bool->Hp->Prop),bq X.K m st H->az X.K m H ρ σ->jq X σ m H (g ρ st) Q->t σ H Q):JT X e g :=
 λρ st σ H m Q S R p pins s I=>h pins s σ H Q I (k ρ st σ H m Q S R p)
theorem JA.of{es:List Expr}{g:GA}{t:TA}(h:PA X es t)(k:∀(ρ:bD)(st:Hs)(σ:St)(H:Hp)(m:Mp)(Q:List V->Hp->Prop),bq X.K m st H->az X.K m H ρ σ->Mb X σ m H (g ρ st) Q->t σ H Q):JA X es g :=
 λρ st σ H m Q S R p pos pins s I=>h pos pins s σ H Q I (k ρ st σ H m Q S R p)
theorem JS.of{e:Stmt}{g:GS}{t:TS}(h:PS X e t)(k:∀(ρ:bD)(st:Hs)(σ:St)(H:Hp)(m:Mp)(D:Ends),bq X.K m st H->az X.K m H ρ σ->aA X m H (g ρ st) D->t D σ H):JS X e g :=
 λρ st σ H m D S R p pins s I=>h pins s σ H D I (k ρ st σ H m D S R p)
theorem nL.of{e:List Stmt}{g:GS}{t:TS}(h:D_ X e t)(k:∀(ρ:bD)(st:Hs)(σ:St)(H:Hp)(m:Mp)(D:Ends),bq X.K m st H->az X.K m H ρ σ->aA X m H (g ρ st) D->t D σ H):nL X e g :=
 λρ st σ H m D S R p pins s I=>h pins s σ H D I (k ρ st σ H m D S R p)
theorem JE.go{e:Expr}{g:GE}{ρ:bD}{st:Hs}{σ:St}{H:Hp}{m:Mp}{T:VK}{ok:Wv->Hs->Prop}(h:JE X e g)(S:bq X.K m st H)(R:az X.K m H ρ σ)(p:aw X σ m H (g ρ st) ok)
  (k:∀(w:Wv)(st1:Hs)(v:V)(m1:Mp)(H1:Hp),ok w st1->Ext X.K m H m1 H1->bq X.K m1 st1 H1->ag X.K m1 H1 w v->T v H1):SE X e σ H T :=
 h ρ st σ H m T S R (p.imp Ext.refl λw st1 q v m1 H1 e1 s1 r1=>k w st1 v m1 H1 q e1 s1 r1)
theorem JT.go{e:Expr}{g:GT}{ρ:bD}{st:Hs}{σ:St}{H:Hp}{m:Mp}{T:Bool->Hp->Prop}{ok:Bool->Hs->Prop}(h:JT X e g)(S:bq X.K m st H)(R:az X.K m H ρ σ)(p:aw X σ m H (g ρ st) ok)
  (k:∀(b:Bool)(st1:Hs)(m1:Mp)(H1:Hp),ok b st1->Ext X.K m H m1 H1->bq X.K m1 st1 H1->T b H1):ST X e σ H T :=
 h ρ st σ H m T S R (p.imp Ext.refl λb st1 q m1 H1 e1 s1=>k b st1 m1 H1 q e1 s1)
theorem JA.go{es:List Expr}{g:GA}{ρ:bD}{st:Hs}{σ:St}{H:Hp}{m:Mp}{T:List V->Hp->Prop}{ok:List Wv->Hs->Prop}(h:JA X es g)(S:bq X.K m st H)(R:az X.K m H ρ σ)(p:aw X σ m H (g ρ st) ok)
  (k:∀(ws:List Wv)(st1:Hs)(vs:List V)(m1:Mp)(H1:Hp),ok ws st1->Ext X.K m H m1 H1->bq X.K m1 st1 H1->ah X.K m1 H1 ws vs->T vs H1):SA X es σ H T :=
 h ρ st σ H m T S R (p.imp Ext.refl λw st1 q v m1 H1 e1 s1 r1=>k w st1 v m1 H1 q e1 s1 r1)
end
end J
namespace J
open PySem PySem.Spec PyProof.Rows L2
def lim:Nat:=1000000
theorem dR{n:Nat}(h:n<=lim):n<=afb:=ba h (by unfold lim;rw[sizeLine_eq];decide)
theorem vM{n:Nat}(h:n < lim):n < afb:=bC h (by unfold lim;rw[sizeLine_eq];decide)
def af(i:Nat):GE:=λρ st=>match ρ[i]? with
 | some (some w)=> .ok w st
 | _=> .bad
def gC(w:Wv):GE:=λ_ st=> .ok w st
section
variable {X:Cx}
theorem zy(i:Nat){x:Str}{pos:Pos}(hN:X.N[i]? =some x:=by rfl)(hv:VF X.env.scope x:=by first | exact Or.inl rfl | exact lP (Or.inl rfl) | exact lP (lP rfl))(hd:(x == ("__debug__":Str))=false:=by decide)
  (hcd:(x == ("__classdict__":Str))=false:=by decide):JE X (.Name x pos) (af i):=JE.of (Nk hN hv hd hcd) λρ st σ H m Q S R p=>by
 unfold af at p
 cases e:ρ[i]? with
 | none=>rw[e] at p;exact aa p
 | some o=>
  cases o with
  | none=>rw[e] at p;exact aa p
  | some w=>
   rw[e] at p
   obtain⟨v,h1,h2⟩:=R.get i w e
   exact⟨v,h1,p v m H Ext.refl S h2⟩
theorem Oo{i:Int}{j pos}:JE X (.Constant (.int i) j pos) (gC (.int i)):=JE.of Nl λρ st σ H m Q S R p=>p (.int i) m H Ext.refl S (by unfold ag;rfl)
theorem S6{b:Bool}{j pos}:JE X (.Constant (.bool b) j pos) (gC (.bl b)):=JE.of R7 λρ st σ H m Q S R p=>p (.bl b) m H Ext.refl S (by unfold ag;rfl)
theorem Oq{j pos}:JE X (.Constant .none j pos) (gC .aZ):=JE.of Nm λρ st σ H m Q S R p=>p .aZ m H Ext.refl S (by unfold ag;rfl)
theorem Ot{x:PySem.Str}{j pos}(hx:bo x=true:=by decide+kernel):JE X (.Constant (.str x) j pos) (gC (.str x)):=JE.of Nn λρ st σ H m Q S R p=>p (.str x) m H Ext.refl S (by unfold ag;exact⟨rfl,hx⟩)
theorem Fb{x:Str}{i:Int}{t:Tok}{pos:Pos}(hg:Gl X x)(hm:X.mg x=some (.int i t))(hd:(x == ("__debug__":Str))=false:=by decide):JE X (.Name x pos) (gC (.int i)) :=
 JE.of (gw (v:=.int i) hg hm ⟨t,rfl⟩ hd) λρ st σ H m Q S R p=>p (.int i) m H Ext.refl S (by unfold ag;rfl)
theorem Fc{x y:Str}{t:Tok}{pos:Pos}(hg:Gl X x)(hm:X.mg x=some (.str y t))(hy:bo y=true:=by decide+kernel)(hd:(x == ("__debug__":Str))=false:=by decide):JE X (.Name x pos) (gC (.str y)) :=
 JE.of (gw (v:=.str y) hg hm ⟨t,rfl⟩ hd) λρ st σ H m Q S R p=>p (.str y) m H Ext.refl S (by unfold ag;exact⟨rfl,hy⟩)
theorem S7{x:Str}{T:String}{pos:Pos}(hg:Gl X x)(hm:X.mg x=none)(hv:ae4 x=some (.type T))(hn:x≠"__name__":=by decide)(hd:(x == ("__debug__":Str))=false:=by decide):JE X (.Name x pos) (gC (.ty T)) :=
 JE.of (Jk (v:=.ty T) hg hm hv rfl hn hd) λρ st σ H m Q S R p=>p (.ty T) m H Ext.refl S (by unfold ag;rfl)
abbrev fS:=Wv->Wv->Hs->Re Wv
def ai(op:fS)(ga gb:GE):GE:=λρ st=>(ga ρ st).bind λx st1=>(gb ρ st1).bind λy st2=>(op x y st2).oW
def A1(X:Cx)(op:fS)(r:R2):Prop:=∀(x y:Wv)(a b:V)(st:Hs)(H:Hp)(m:Mp)(Q:VK),bq X.K m st H->ag X.K m H x a->ag X.K m H y b->cC X.K m H (op x y st) Q->r a b H Q
def jD(X:Cx)(f:ae0->ae0->Sem ae0)(op:fS):Prop:=∃r,ef X f r/\A1 X op r
theorem A2{a b:Expr}{ga gb:GE}{op:fS}{r:R2}(h2:A1 X op r)(ha:JE X a ga)(hb:JE X b gb){ρ:bD}{st:Hs}{σ:St}{H:Hp}{m:Mp}{Q:VK}(S:bq X.K m st H)(R:az X.K m H ρ σ)(p:eD X σ m H (ai op ga gb ρ st) Q) :
  Sn r (SE X a) (SE X b) σ H Q:=by
 refine ha.go S R (aw.bind p) λx st1 v m1 H1 p1 e1 S1 rx=>?_
 refine hb.go S1 (R.mono e1) ((aw.bind p1).imp e1 λ_ _ q=>q) λy st2 u m2 H2 p2 e2 S2 ry=>?_
 exact h2 x y v u st2 H2 m2 Q S2 (ag.mono e2 _ _ rx) ry (cC.shift (aw.oW p2) (e1.trans e2))
theorem Ou{a b:Expr}{ga gb:GE}{o:Operator}{op:fS}{pos:Pos}(ho:jD X (ae3 o) op)(ha:JE X a ga)(hb:JE X b gb):JE X (.BinOp a o b pos) (ai op ga gb):=by
 obtain⟨r,h1,h2⟩:=ho
 exact JE.of (So h1 aE aE) λρ st σ H m Q S R p=>A2 h2 ha hb S R p
theorem rK{a b:Expr}{ga gb:GE}{o:CmpOp}{op:fS}{pos:Pos}(ho:jD X (ae7 o) op)(ha:JE X a ga)(hb:JE X b gb)(hm:ae2 o b=false):JE X (.Compare a [o] [b] pos) (ai op ga gb):=by
 obtain⟨r,h1,h2⟩:=ho
 exact JE.of (Jv h1 aE aE hm) λρ st σ H m Q S R p=>A2 h2 ha hb S R p
def RK(w:Wv)(st:Hs):Re Bool:=match w with
 | .bl b=> .ok b st
 | _=> .bad
def bz(g:GE):GT:=λρ st=>(g ρ st).bind RK
theorem oh{σ:St}{m:Mp}{H:Hp}{r:Re Wv}{Q:Bool->Hp->Prop}(p:jq X σ m H (r.bind RK) Q):eD X σ m H r (λx H'=>∃k,x= .bl k/\Q k H'):=by
 cases r with
 | ok w st=>
  cases w with
  | bl b=>
   intro v m' H' e S rw'
   unfold ag at rw'
   exact⟨b,rw',p m' H' e S⟩
  | _=>exact aa p
 | err c st=>exact p
 | bad=>exact p
theorem rL{a b:Expr}{ga gb:GE}{o:CmpOp}{op:fS}{pos:Pos}(ho:jD X (ae7 o) op)(ha:JE X a ga)(hb:JE X b gb)(hm:ae2 o b=false):JT X (.Compare a [o] [b] pos) (bz (ai op ga gb)):=by
 obtain⟨r,h1,h2⟩:=ho
 exact JT.of (Jw h1 aE aE hm) λρ st σ H m Q S R p=>A2 h2 ha hb S R (oh p)
def i8(op op':fS)(ga gb gc:GE):GE:=λρ st=>(ga ρ st).bind λx st1=>(gb ρ st1).bind λy st2=>(op x y st2).oW.bind λz st3=>match z with
 | .bl true=>(gc ρ st3).bind λu A3=>(op' y u A3).oW
 | .bl false=> .ok (.bl false) st3
 | _=> .bad
theorem Md{a b c:Expr}{ga gb gc:GE}{op op':fS}{r r':R2}(h2:A1 X op r)(h2':A1 X op' r')(ha:JE X a ga)(hb:JE X b gb)(hc:JE X c gc){ρ:bD}{st:Hs}{σ:St}{H:Hp}{m:Mp}{Q:VK}
  (S:bq X.K m st H)(R:az X.K m H ρ σ)(p:eD X σ m H (i8 op op' ga gb gc ρ st) Q):zj r r' (SE X a) (SE X b) (SE X c) σ H Q:=by
 refine ha.go S R (aw.bind p) λx st1 v m1 H1 p1 e1 S1 rx=>?_
 refine hb.go S1 (R.mono e1) ((aw.bind p1).imp e1 λ_ _ q=>q) λy st2 u m2 H2 p2 e2 S2 ry=>?_
 refine h2 x y v u st2 H2 m2 _ S2 (ag.mono e2 _ _ rx) ry (rJ.imp (aw.oW (aw.bind p2)) λz st3 p3=>?_)
 intro z' m3 H3 e3 S3 rz
 cases z with
 | bl k=>
  unfold ag at rz
  refine⟨k,rz,?_⟩
  cases k with
  | true=>
   rw[if_pos rfl]
   refine hc.go S3 (R.mono (e1.trans (e2.trans e3))) ((aw.bind p3).imp (e1.trans (e2.trans e3)) λ_ _ q=>q) λq A3 u' m4 H4 p4 e4 S4 rq=>?_
   exact h2' y q u u' A3 H4 m4 Q S4 (ag.mono (e3.trans e4) _ _ ry) rq (cC.shift (aw.oW p4) (e1.trans (e2.trans (e3.trans e4))))
  | false=>
   rw[if_neg bt]
   exact p3 (.bl false) m3 H3 (e1.trans (e2.trans e3)) S3 (by unfold ag;rfl)
 | _=>exact aa p3
theorem Fd{a b c:Expr}{ga gb gc:GE}{o o':CmpOp}{op op':fS}{pos:Pos}(ho:jD X (ae7 o) op)(ho':jD X (ae7 o') op')(ha:JE X a ga)(hb:JE X b gb)(hc:JE X c gc)
  (hm:lastMarks [o,o'] [b,c]=false:=by with_unfolding_all rfl):JE X (.Compare a [o,o'] [b,c] pos) (i8 op op' ga gb gc):=by
 obtain⟨r,h1,h2⟩:=ho
 obtain⟨r',Ma,h2'⟩:=ho'
 exact JE.of (Eu h1 Ma aE aE aE hm) λρ st σ H m Q S R p=>Md h2 h2' ha hb hc S R p
theorem Fe{a b c:Expr}{ga gb gc:GE}{o o':CmpOp}{op op':fS}{pos:Pos}(ho:jD X (ae7 o) op)(ho':jD X (ae7 o') op')(ha:JE X a ga)(hb:JE X b gb)(hc:JE X c gc)
  (hm:lastMarks [o,o'] [b,c]=false:=by with_unfolding_all rfl):JT X (.Compare a [o,o'] [b,c] pos) (bz (i8 op op' ga gb gc)):=by
 obtain⟨r,h1,h2⟩:=ho
 obtain⟨r',Ma,h2'⟩:=ho'
 exact JT.of (Ew h1 Ma aE aE aE hm) λρ st σ H m Q S R p=>Md h2 h2' ha hb hc S R (oh p)
def gUn(op:Wv->Hs->Re Wv)(ga:GE):GE:=λρ st=>(ga ρ st).bind op
def Ff:Wv->Hs->Re Wv
 | .int i,st=> .ok (.int (-i)) st
 | _,_=> .bad
theorem Ov{a:Expr}{ga:GE}{pos:Pos}(ha:JE X a ga):JE X (.UnaryOp .USub a pos) (gUn Ff ga):=by
 refine JE.of (Sq NN aE) λρ st σ H m Q S R p=>?_
 refine ha.go S R (aw.bind p) λx st1 v m1 H1 p1 e1 S1 rx=>?_
 cases x with
 | int i=>
  unfold ag at rx
  exact⟨i,rx,p1 _ m1 H1 e1 S1 (by unfold ag;rfl)⟩
 | _=>exact aa p1
def SW(X:Cx)(e:Expr):TT:=λσ H Q=>∀(wh:Sem ae0)(pins:List (aeU×Obj))(s:aeZ),Inv X pins σ H s->afd (model X.prog X.w) X.A (isTrue e X.env wh) (TP X pins σ Q) X.xe s
theorem Me{e:Expr}:PW X e (SW X e):=λwh pins s _ _ _ I h=>h wh pins s I
def JW(X:Cx)(e:Expr)(g:GT):Prop:=∀(ρ:bD)(st:Hs)(σ:St)(H:Hp)(m:Mp)(Q:Bool->Hp->Prop),bq X.K m st H->az X.K m H ρ σ->jq X σ m H (g ρ st) Q->SW X e σ H Q
theorem JW.of{e:Expr}{g:GT}{t:TT}(h:PW X e t)(k:∀(ρ:bD)(st:Hs)(σ:St)(H:Hp)(m:Mp)(Q:Bool->Hp->Prop),bq X.K m st H->az X.K m H ρ σ->jq X σ m H (g ρ st) Q->t σ H Q):JW X e g :=
 λρ st σ H m Q S R p wh pins s I=>h wh pins s σ H Q I (k ρ st σ H m Q S R p)
theorem JW.jt{e:Expr}{g:GT}(h:JW X e g):JT X e g:=λρ st σ H m Q S R p pins s I=>h ρ st σ H m Q S R p _ pins s I
def Fg(ga gb:GT):GT:=λρ st=>(ga ρ st).bind λb st1=>if b=true then gb ρ st1 else .ok false st1
def CO(ga gb:GT):GT:=λρ st=>(ga ρ st).bind λb st1=>if b=true then .ok true st1 else gb ρ st1
def rM(ga:GT):GT:=λρ st=>(ga ρ st).bind λb st1=> .ok (!b) st1
theorem JU{a:Expr}{ga:GT}{pos:Pos}(ha:JT X a ga):JW X (.BoolOp .And [a] pos) ga:=JW.of (Jl qi) λρ st σ H m Q S R p=>ha ρ st σ H m Q S R p
theorem Ow{a:Expr}{ga:GT}{pos:Pos}(ha:JT X a ga):JW X (.BoolOp .Or [a] pos) ga:=JW.of (Nq qi) λρ st σ H m Q S R p=>ha ρ st σ H m Q S R p
theorem Ox{a b:Expr}{rest:List Expr}{ga gb:GT}{pos:Pos}(ha:JT X a ga)(hb:JW X (.BoolOp .And (b::rest) pos) gb):JW X (.BoolOp .And (a::b::rest) pos) (Fg ga gb):=by
 refine JW.of (Nr qi Me) λρ st σ H m Q S R p=>?_
 refine ha.go S R (aw.bind p) λc st1 m1 H1 p1 e1 S1=>?_
 cases c with
 | true=>rw[if_pos rfl] at p1 ⊢;exact hb ρ st1 σ H1 m1 Q S1 (R.mono e1) (jq.shift p1 e1)
 | false=>rw[if_neg bt] at p1 ⊢;exact p1 m1 H1 e1 S1
theorem S8{a b:Expr}{rest:List Expr}{ga gb:GT}{pos:Pos}(ha:JT X a ga)(hb:JW X (.BoolOp .Or (b::rest) pos) gb):JW X (.BoolOp .Or (a::b::rest) pos) (CO ga gb):=by
 refine JW.of (R9 qi Me) λρ st σ H m Q S R p=>?_
 refine ha.go S R (aw.bind p) λc st1 m1 H1 p1 e1 S1=>?_
 cases c with
 | true=>rw[if_pos rfl] at p1 ⊢;exact p1 m1 H1 e1 S1
 | false=>rw[if_neg bt] at p1 ⊢;exact hb ρ st1 σ H1 m1 Q S1 (R.mono e1) (jq.shift p1 e1)
theorem Oy{a:Expr}{ga:GT}{pos:Pos}(ha:JT X a ga):JT X (.UnaryOp .Not a pos) (rM ga):=by
 refine JT.of (Nt qi) λρ st σ H m Q S R p=>?_
 exact ha.go S R (aw.bind p) λc st1 m1 H1 p1 e1 S1=>p1 m1 H1 e1 S1
def cD(ga gb:GE):GE:=λρ st=>(ga ρ st).bind λw st1=>match w with
 | .bl true=>gb ρ st1
 | .bl false=> .ok (.bl false) st1
 | _=> .bad
def S_(ga gb:GE):GE:=λρ st=>(ga ρ st).bind λw st1=>match w with
 | .bl true=> .ok (.bl true) st1
 | .bl false=>gb ρ st1
 | _=> .bad
def xC(ga:GE):GE:=λρ st=>(ga ρ st).bind λw st1=>match w with
 | .bl b=> .ok (.bl (!b)) st1
 | _=> .bad
theorem Fh{op}{a:Expr}{ga:GE}{pos:Pos}(ha:JE X a ga):JE X (.BoolOp op [a] pos) ga:=JE.of (Nu aE) λρ st σ H m Q S R p=>ha ρ st σ H m Q S R p
theorem Oz{a b:Expr}{rest:List Expr}{ga gb:GE}{pos:Pos}(ha:JE X a ga)(hb:JE X (.BoolOp .And (b::rest) pos) gb):JE X (.BoolOp .And (a::b::rest) pos) (cD ga gb):=by
 refine JE.of (Nv aE aE) λρ st σ H m Q S R p=>?_
 refine ha.go S R (aw.bind p) λx st1 v m1 H1 p1 e1 S1 rx=>?_
 cases x with
 | bl c=>
  unfold ag at rx
  refine⟨c,rx,?_⟩
  cases c with
  | true=>rw[if_pos rfl];exact hb ρ st1 σ H1 m1 Q S1 (R.mono e1) (eD.shift p1 e1)
  | false=>rw[if_neg bt];exact p1 _ m1 H1 e1 S1 (by unfold ag;rfl)
 | _=>exact aa p1
theorem Te{a b:Expr}{rest:List Expr}{ga gb:GE}{pos:Pos}(ha:JE X a ga)(hb:JE X (.BoolOp .Or (b::rest) pos) gb):JE X (.BoolOp .Or (a::b::rest) pos) (S_ ga gb):=by
 refine JE.of (Sb aE aE) λρ st σ H m Q S R p=>?_
 refine ha.go S R (aw.bind p) λx st1 v m1 H1 p1 e1 S1 rx=>?_
 cases x with
 | bl c=>
  unfold ag at rx
  refine⟨c,rx,?_⟩
  cases c with
  | true=>rw[if_pos rfl];exact p1 _ m1 H1 e1 S1 (by unfold ag;rfl)
  | false=>rw[if_neg bt];exact hb ρ st1 σ H1 m1 Q S1 (R.mono e1) (eD.shift p1 e1)
 | _=>exact aa p1
theorem OA{a:Expr}{ga:GE}{pos:Pos}(ha:JE X a ga):JE X (.UnaryOp .Not a pos) (xC ga):=by
 refine JE.of (Nw aE) λρ st σ H m Q S R p=>?_
 refine ha.go S R (aw.bind p) λx st1 v m1 H1 p1 e1 S1 rx=>?_
 cases x with
 | bl c=>
  unfold ag at rx
  exact⟨c,rx,p1 _ m1 H1 e1 S1 (by unfold ag;rfl)⟩
 | _=>exact aa p1
def Tf(gt:GT)(ga gb:GE):GE:=λρ st=>(gt ρ st).bind λb st1=>if b=true then ga ρ st1 else gb ρ st1
theorem Tg{c a b:Expr}{gt:GT}{ga gb:GE}{pos:Pos}(hc:JT X c gt)(ha:JE X a ga)(hb:JE X b gb):JE X (.IfExp c a b pos) (Tf gt ga gb):=by
 refine JE.of (Ek qi aE aE) λρ st σ H m Q S R p=>?_
 refine hc.go S R (aw.bind p) λk st1 m1 H1 p1 e1 S1=>?_
 cases k with
 | true=>rw[if_pos rfl] at p1 ⊢;exact ha ρ st1 σ H1 m1 Q S1 (R.mono e1) (eD.shift p1 e1)
 | false=>rw[if_neg bt] at p1 ⊢;exact hb ρ st1 σ H1 m1 Q S1 (R.mono e1) (eD.shift p1 e1)
def aj:GA:=λ_ st=> .ok [] st
def ae(ga:GE)(gr:GA):GA:=λρ st=>(ga ρ st).bind λx st1=>(gr ρ st1).bind λxs st2=> .ok (x::xs) st2
theorem Fi:JA X [] aj:=JA.of NQ λρ st σ H m Q S R p=>p [] m H Ext.refl S ah.nil
theorem A4{e:Expr}{es:List Expr}{ga:GE}{gr:GA}(ha:JE X e ga)(hr:JA X es gr)(hs:afc (e::es) X.env=(false,eval e X.env)::afc es X.env:=by rfl):JA X (e::es) (ae ga gr):=by
 refine JA.of (Jx aE mC hs) λρ st σ H m Q S R p=>?_
 refine ha.go S R (aw.bind p) λx st1 v m1 H1 p1 e1 S1 rx=>?_
 refine hr.go S1 (R.mono e1) ((aw.bind p1).imp e1 λ_ _ q=>q) λxs st2 vs m2 H2 p2 e2 S2 rs=>?_
 exact p2 (v::vs) m2 H2 (e1.trans e2) S2 (ah.cons (ag.mono e2 _ _ rx) rs)
def eh(g:GA):GE:=λρ st=>(g ρ st).bind λws st1=>if ws.length<=lim then .ok (.tup ws) st1 else .bad
def gZ(g:GA):GE:=λρ st=>(g ρ st).bind λws st1=>if ws.length<=lim then .ok (.ref st1.length) (st1++[.lst ws]) else .bad
theorem OB{es:List Expr}{g:GA}{x1 pos}(h:JA X es g):JE X (.Tuple es x1 pos) (eh g):=by
 refine JE.of (NR mC) λρ st σ H m Q S R p=>?_
 refine h.go S R (aw.bind p) λws st1 vs m1 H1 p1 e1 S1 rs=>?_
 by_cases hl:ws.length<=lim
 ·rw[if_pos hl] at p1
  refine⟨by rw[<-rs.length];exact dR hl,λq hq=>?_⟩
  have e2:Ext X.K m1 H1 m1 (upd H1 q (.tup vs)):=Ext.upd (.inl hq)
  exact p1 (.ref q) m1 _ (e1.trans e2) (S1.fresh hq) (by unfold ag;exact⟨q,vs,rfl,aF,ah.mono e2 _ _ rs⟩)
 ·rw[if_neg hl] at p1;exact aa p1
theorem bq.newest{K:PySem.W.Frag}{m:Mp}{st:Hs}{H:Hp}(S:bq K m st H)(q:aeU)(H':Hp):ag K (m++[q]) H' (.ref st.length) (.ref q):=by
 unfold ag
 refine⟨q,rfl,?_⟩
 rw[<-S.len,pe (ao _),vL]
 rfl
theorem jr{m m1:Mp}{H H1:Hp}{st1:Hs}{ws:List Wv}{vs:List V}{Q:VK}(p1:RJ X.K m H Q (.ref st1.length) (st1++[.lst ws]))(e1:Ext X.K m H m1 H1)(S1:bq X.K m1 st1 H1)(rs:ah X.K m1 H1 ws vs)(q:aeU)(hq:H1 q=none) :
  Q (.ref q) (upd H1 q (.lst vs)) :=
 p1 (.ref q) (m1++[q]) _ (e1.trans (Ext.more.trans (Ext.upd (.inl hq)))) (S1.alloc hq rs) (S1.newest q _)
theorem OC{es:List Expr}{g:GA}{pos}(h:JA X es g):JE X (.List es pos) (gZ g):=by
 refine JE.of (NT mC) λρ st σ H m Q S R p=>?_
 refine h.go S R (aw.bind p) λws st1 vs m1 H1 p1 e1 S1 rs=>?_
 by_cases hl:ws.length<=lim
 ·rw[if_pos hl] at p1
  exact⟨by rw[<-rs.length];exact dR hl,λq hq=>jr p1 e1 S1 rs q hq⟩
 ·rw[if_neg hl] at p1;exact aa p1
end
section
variable {X:Cx}
theorem ef.or{f:ae0->ae0->Sem ae0}{r r':R2}(h:ef X f r)(h':ef X f r'):ef X f (λx y H Q=>r x y H Q\/r' x y H Q):=by
 intro pins s σ H x y v u Q I rx ry q
 rcases q with q | q
 ·exact h pins s σ H x y v u Q I rx ry q
 ·exact h' pins s σ H x y v u Q I rx ry q
theorem Fj:ef X (ae3 .FloorDiv) (rI (λ_ j=>j≠0/\j.natAbs.log2 < 9000) λi j=> .int (i.fdiv j)):=VN λi j _ _ _ _ _ hc q=>floordiv_int hc.1 q (.inl (PyProof.noPylong_of_log2 hc.2))
theorem JV:ef X (ae3 .Mod) (rI (λ_ j=>j≠0) λi j=> .int (i.fmod j)):=VN λi j _ _ _ _ _ hc q=>mod_int' hc q
theorem JX:ef X (ae3 .Mult) (rI (λi j=>IntMulOk i j) λi j=> .int (i * j)):=VN λ_ _ _ _ _ _ _ hc q=>mul_int q hc
instance Xy{a b:Int}:Decidable (IntMulOk a b):=by unfold IntMulOk;infer_instance
def mU:fS
 | .int i,.int j,st=> .ok (.int (i - j)) st
 | _,_,_=> .bad
def eE:fS
 | .int i,.int j,st=>if j≠0/\j.natAbs.log2 < 9000 then .ok (.int (i.fdiv j)) st else .bad
 | _,_,_=> .bad
def oMod:fS
 | .int i,.int j,st=>if j≠0 then .ok (.int (i.fmod j)) st else .bad
 | _,_,_=> .bad
def oj:fS
 | .int i,.int j,st=>if 0<=j/\j<=1000000/\i.natAbs < 2 ^ 64 then .ok (.int (i ^ j.toNat)) st else .bad
 | _,_,_=> .bad
def Th:fS
 | .int i,.int j,st=> .ok (.bl (decide (i < j))) st
 | .str i,.str j,st=> .ok (.bl (decide (i.cps.toList < j.cps.toList))) st
 | _,_,_=> .bad
def Ti:fS
 | .int i,.int j,st=> .ok (.bl (decide (i<=j))) st
 | _,_,_=> .bad
def OD:fS
 | .int i,.int j,st=> .ok (.bl (decide (j < i))) st
 | _,_,_=> .bad
def Xz:fS
 | .int i,.int j,st=> .ok (.bl (decide (j<=i))) st
 | _,_,_=> .bad
theorem aW{m:Mp}{H:Hp}{i:Int}{a:V}(h:ag X.K m H (.int i) a):a= .int i:=by unfold ag at h;exact h
theorem dS{m:Mp}{H:Hp}{x:PySem.Str}{a:V}(h:ag X.K m H (.str x) a):a= .str x/\bo x=true:=by unfold ag at h;exact h
theorem mkInt{m:Mp}{H:Hp}{i:Int}:ag X.K m H (.int i) (.int i):=by unfold ag;rfl
theorem g_{m:Mp}{H:Hp}{i:Bool}:ag X.K m H (.bl i) (.bl i):=by unfold ag;rfl
theorem xD{m:Mp}{H:Hp}:ag X.K m H .aZ .aZ:=by unfold ag;rfl
theorem mkStr{m:Mp}{H:Hp}{x:PySem.Str}(h:bo x=true):ag X.K m H (.str x) (.str x):=by unfold ag;exact⟨rfl,h⟩
theorem OE:jD X (ae3 .Sub) mU:=⟨_,NL,λx y a b st H m Q S rx ry p=>by
 cases x with
 | int i=>
  cases y with
  | int j=>exact⟨i,j,aW rx,aW ry,p _ m H Ext.refl S mkInt⟩
  | _=>exact aa p
 | _=>cases y<;>exact aa p⟩
theorem JY:jD X (ae3 .FloorDiv) eE:=⟨_,Fj,λx y a b st H m Q S rx ry p=>by
 cases x with
 | int i=>
  cases y with
  | int j=>
   dsimp only[eE] at p
   by_cases c:j≠0/\j.natAbs.log2 < 9000
   ·rw[if_pos c] at p;exact⟨i,j,aW rx,aW ry,c,p _ m H Ext.refl S mkInt⟩
   ·rw[if_neg c] at p;exact aa p
  | _=>exact aa p
 | _=>cases y<;>exact aa p⟩
theorem OF:jD X (ae3 .Mod) oMod:=⟨_,JV,λx y a b st H m Q S rx ry p=>by
 cases x with
 | int i=>
  cases y with
  | int j=>
   dsimp only[oMod] at p
   by_cases c:j≠0
   ·rw[if_pos c] at p;exact⟨i,j,aW rx,aW ry,c,p _ m H Ext.refl S mkInt⟩
   ·rw[if_neg c] at p;exact aa p
  | _=>exact aa p
 | _=>cases y<;>exact aa p⟩
theorem OG:jD X (ae3 .Pow) oj:=⟨_,NM,λx y a b st H m Q S rx ry p=>by
 cases x with
 | int i=>
  cases y with
  | int j=>
   dsimp only[oj] at p
   by_cases c:0<=j/\j<=1000000/\i.natAbs < 2 ^ 64
   ·rw[if_pos c] at p;exact⟨i,j,aW rx,aW ry,c,p _ m H Ext.refl S mkInt⟩
   ·rw[if_neg c] at p;exact aa p
  | _=>exact aa p
 | _=>cases y<;>exact aa p⟩
theorem Tj:jD X (ae7 .Lt) Th:=⟨_,ef.or Ss CC,λx y a b st H m Q S rx ry p=>by
 cases x with
 | int i=>
  cases y with
  | int j=>exact .inl ⟨i,j,aW rx,aW ry,p _ m H Ext.refl S g_⟩
  | _=>exact aa p
 | str i=>
  cases y with
  | str j=>exact .inr ⟨i,j,(dS rx).1,(dS ry).1,p _ m H Ext.refl S g_⟩
  | _=>exact aa p
 | _=>cases y<;>exact aa p⟩
theorem Tn:jD X (ae7 .LtE) Ti:=⟨_,Su,λx y a b st H m Q S rx ry p=>by
 cases x with
 | int i=>
  cases y with
  | int j=>exact⟨i,j,aW rx,aW ry,p _ m H Ext.refl S g_⟩
  | _=>exact aa p
 | _=>cases y<;>exact aa p⟩
theorem To:jD X (ae7 .Gt) OD:=⟨_,Sv,λx y a b st H m Q S rx ry p=>by
 cases x with
 | int i=>
  cases y with
  | int j=>exact⟨i,j,aW rx,aW ry,p _ m H Ext.refl S g_⟩
  | _=>exact aa p
 | _=>cases y<;>exact aa p⟩
theorem Tp:jD X (ae7 .GtE) Xz:=⟨_,Sw,λx y a b st H m Q S rx ry p=>by
 cases x with
 | int i=>
  cases y with
  | int j=>exact⟨i,j,aW rx,aW ry,p _ m H Ext.refl S g_⟩
  | _=>exact aa p
 | _=>cases y<;>exact aa p⟩
def Tq:fS
 | x,.aZ,st=> .ok (.bl (match x with | .aZ=>true | _=>false)) st
 | _,_,_=> .bad
def jL:fS
 | x,.aZ,st=> .ok (.bl (match x with | .aZ=>false | _=>true)) st
 | _,_,_=> .bad
theorem Mf{m:Mp}{H:Hp}{x:Wv}{a:V}(h:ag X.K m H x a):decide (a=V.aZ)=(match x with | .aZ=>true | _=>false):=by
 cases x with
 | aZ=>unfold ag at h;subst h;rfl
 | bl b=>unfold ag at h;subst h;rfl
 | int b=>unfold ag at h;subst h;rfl
 | str b=>unfold ag at h;obtain⟨h,_⟩:=h;subst h;rfl
 | tup b=>unfold ag at h;obtain⟨q,xs,h,_⟩:=h;subst h;rfl
 | qh b=>unfold ag at h;obtain⟨q,xs,h,_⟩:=h;subst h;rfl
 | ref b=>unfold ag at h;obtain⟨q,h,_⟩:=h;subst h;rfl
 | ty b=>unfold ag at h;subst h;rfl
 | cls b=>unfold ag at h;obtain⟨q,h,_⟩:=h;subst h;rfl
 | xx b=>unfold ag at h;obtain⟨q,C,h,_⟩:=h;subst h;rfl
 | fn fp b=>unfold ag at h;obtain⟨h,_⟩:=h;subst h;rfl
theorem Tr:jD X (ae7 .Is) Tq:=⟨_,NO,λx y a b st H m Q S rx ry p=>by
 cases y with
 | aZ=>
  refine⟨by unfold ag at ry;exact ry,?_⟩
  rw[Mf rx]
  cases x<;>exact p _ m H Ext.refl S g_
 | _=>cases x<;>exact aa p⟩
theorem Fl:jD X (ae7 .IsNot) jL:=⟨_,Ju,λx y a b st H m Q S rx ry p=>by
 cases y with
 | aZ=>
  refine⟨by unfold ag at ry;exact ry,?_⟩
  rw[Mf rx]
  cases x<;>exact p _ m H Ext.refl S g_
 | _=>cases x<;>exact aa p⟩
theorem vN{a b:PySem.Str}(ha:bo a=true)(hb:bo b=true):bo (a++b)=true:=by
 unfold bo at *
 show((a.cps++b.cps).all _)=true
 rw[Array.all_append,ha,hb]
 rfl
def Ts(K:PySem.W.Frag):R2:=λx y H Q=>∃l b xs zs,x= .ref l/\y= .ref b/\kC K H l xs/\kC K H b zs/\xs.length+zs.length<=afb/\∀p,H p=none->Q (.ref p) (upd H p (.lst (xs++zs)))
theorem JZ:ef X (ae3 .Add) (Ts X.K):=by
 intro pins s σ H x y v u Q I rx ry h
 obtain⟨l,b,xs,zs,rfl,rfl,hH,hB,hz,q⟩:=h
 cases rx
 cases ry
 obtain⟨its,r,pl,hs⟩:=I.list hH
 obtain⟨its2,r2,pl2,hs2⟩:=I.list hB
 have hl:=r.length
 have hl2:=r2.length
 obtain⟨⟨cls,dd,data,sl⟩,ho,hc,n,hd⟩:=id pl.isList
 obtain⟨⟨Xm,dd2,data2,sl2⟩,ho2,hc2,n2,hd2⟩:=id pl2.isList
 simp only at hc hd hc2 hd2
 subst hc hd hc2 hd2
 have e:its.toArray++its2.toArray=(its++its2).toArray:=by simp
 refine PySem.concat_meets ⟨_,ho,rfl⟩ ⟨_,ho2,rfl⟩ PySem.noFill_list_add PySem.seq_list_add PySem.F.slot_list_add PySem.F.entry_list_add (PySem.F.args_list_add_2 _ _) (list_addW l b its.toArray its2.toArray n n2 dd dd2 sl sl2 (by simp;omega)) ⟨ho,ho2,?_⟩
 rw[e]
 exact⟨.ref _,_,I.N5 (t':=s.toks) (r.append r2) (by rw[cS];omega),rfl,q _ I.fresh⟩
def Tt(K:PySem.W.Frag):R2:=λx y H Q=>∃a b ys,x= .ref a/\y= .ref b/\ft K H a []/\ft K H b ys/\Q (.ref b) H
theorem J0:ef X (ae3 .Add) (Tt X.K):=by
 intro pins s σ H x y v u Q I rx ry h
 obtain⟨a,b,ys,rfl,rfl,ha,hb,q⟩:=h
 cases rx
 cases ry
 obtain⟨its,r1,p1,_⟩:=I.tuple ha
 obtain⟨its2,r2,p2,_⟩:=I.tuple hb
 cases r1
 obtain⟨⟨c1,d1,t1,l1⟩,g1,k1,n1,j1⟩:=id p1
 obtain⟨⟨c2,d2,t2,l2⟩,g2,k2,n2,j2⟩:=id p2
 simp only at k1 j1 k2 j2
 subst k1 j1 k2 j2
 exact PySem.concat_meets ⟨_,g1,rfl⟩ ⟨_,g2,rfl⟩ PySem.noFill_tuple_add PySem.seq_tuple_add PySem.F.slot_tuple_add PySem.F.entry_tuple_add (PySem.F.args_tuple_add_2 _ _) (tuple_addW0 a b #[] its2.toArray n1 n2 d1 d2 l1 l2 (by simp)) ⟨g1,g2,⟨.ref b,H,I,rfl,q⟩⟩
def dt:fS
 | .int i,.int j,st=> .ok (.int (i+j)) st
 | .str i,.str j,st=>if i.length+j.length<=lim then .ok (.str (i++j)) st else .bad
 | .tup i,.tup j,st=>if i.length+j.length<=lim then .ok (.tup (i++j)) st else .bad
 | .ref l,.ref k,st=>match aq st l,aq st k with
  | some i,some j=>if i.length+j.length<=lim then .ok (.ref st.length) (st++[.lst (i++j)]) else .bad
  | _,_=> .bad
 | _,_,_=> .bad
instance {α:Type}{xs:List α}:Decidable (xs≠[]):=match xs with
 | []=>isFalse (λh=>h rfl)
 | _::_=>isTrue (λh=>by cases h)
theorem OH:jD X (ae3 .Add) dt:=⟨_,ef.or NK (ef.or zl (ef.or JD (ef.or JZ J0))),λx y a b st H m Q S rx ry p=>by
 cases x with
 | int i=>
  cases y with
  | int j=>exact .inl ⟨i,j,aW rx,aW ry,p _ m H Ext.refl S mkInt⟩
  | _=>exact aa p
 | str i=>
  cases y with
  | str j=>
   dsimp only[dt] at p
   by_cases c:i.length+j.length<=lim
   ·rw[if_pos c] at p
    exact .inr (.inl ⟨i,j,(dS rx).1,(dS ry).1,dR c,p _ m H Ext.refl S (mkStr (vN (dS rx).2 (dS ry).2))⟩)
   ·rw[if_neg c] at p;exact aa p
  | _=>exact aa p
 | tup i=>
  cases y with
  | tup j=>
   dsimp only[dt] at p
   by_cases c:i.length+j.length<=lim
   ·rw[if_pos c] at p
    by_cases c0:i=[]
    ·subst c0
     unfold ag at rx ry
     obtain⟨a1,xs,rfl,h1,h2⟩:=rx
     obtain⟨a2,ys,rfl,h3,h4⟩:=ry
     have l1:xs=[]:=Fn h2.length.symm
     subst l1
     exact .inr (.inr (.inr (.inr ⟨a1,a2,ys,rfl,rfl,ft.of h1,ft.of h3,p (.ref a2) m H Ext.refl S (by rw[List.nil_append];unfold ag;exact⟨a2,ys,rfl,h3,h4⟩)⟩)))
    unfold ag at rx ry
    obtain⟨a1,xs,rfl,h1,h2⟩:=rx
    obtain⟨a2,ys,rfl,h3,h4⟩:=ry
    have l1:=h2.length
    have l2:=h4.length
    have n1:xs≠[]:=λz=>by rw[z] at l1;exact c0 (Fn l1)
    refine .inr (.inr (.inl ⟨a1,a2,xs,ys,rfl,rfl,ft.of h1,ft.of h3,n1,by rw[<-l1,<-l2];exact dR c,λz=>?_,λ_ q hq=>?_⟩))
    ·rw[z] at l2
     rw[Fn l2,mO] at p
     exact p (.ref a1) m H Ext.refl S (by unfold ag;exact⟨a1,xs,rfl,h1,h2⟩)
    have e2:Ext X.K m H m (upd H q (.tup (xs++ys))):=Ext.upd (.inl hq)
    exact p (.ref q) m _ e2 (S.fresh hq) (by unfold ag;exact⟨q,xs++ys,rfl,aF,ah.mono e2 _ _ (h2.append h4)⟩)
   ·rw[if_neg c] at p;exact aa p
  | _=>exact aa p
 | ref l=>
  cases y with
  | ref k=>
   dsimp only[dt] at p
   unfold ag at rx ry
   obtain⟨a1,rfl,h1⟩:=rx
   obtain⟨a2,rfl,h2⟩:=ry
   cases e1:aq st l with
   | none=>rw[e1] at p;exact aa p
   | some i=>
    cases e2:aq st k with
    | none=>rw[e1,e2] at p;exact aa p
    | some j=>
     rw[e1,e2] at p
     by_cases c:i.length+j.length<=lim
     ·simp only[if_pos c] at p
      obtain⟨xs,q1,q2⟩:=S.read h1 e1
      obtain⟨ys,q3,q4⟩:=S.read h2 e2
      exact .inr (.inr (.inr (.inl ⟨a1,a2,xs,ys,rfl,rfl,q1,q3,by rw[<-q2.length,<-q4.length];exact dR c,λq hq=>jr p Ext.refl S (q2.append q4) q hq⟩)))
     ·simp only[if_neg c] at p;exact aa p
  | _=>exact aa p
 | _=>cases y<;>exact aa p⟩
def xE(n:Nat)(x:PySem.Str):PySem.Str:=⟨(aC n x.cps).foldl (· ++·) #[]⟩
end
open PySem PySem.Spec PySem.SeqAt PyProof.Rows L2
def fL{α β:Type}(f:α->Option β):List α->Option (List β)
 | []=>some []
 | w::ws=>match f w,fL f ws with
  | some d,some ds=>some (d::ds)
  | _,_=>none
def aM(st:Hs):Nat->Wv->Option PyData
 | 0,w=>match w with
  | .aZ=>some .none
  | .bl b=>some (.bool b)
  | .int i=>some (.int i)
  | .str x=>some (.str x)
  | _=>none
 | n+1,w=>match w with
  | .aZ=>some .none
  | .bl b=>some (.bool b)
  | .int i=>some (.int i)
  | .str x=>some (.str x)
  | .tup ws=>(fL (aM st n) ws).map .tuple
  | .qh ws=>(fL (aM st n) ws).map .tuple
  | .ref l=>match aq st l with
   | some ws=>(fL (aM st n) ws).map .list
   | none=>none
  | .ty _=>none
  | .cls _=>none
  | .xx _=>none
  | .fn _ _=>none
section
variable {X:Cx} {pins:List (aeU×Obj)} {σ:St} {H:Hp} {s:aeZ} {m:Mp} {st:Hs}
def Mi(h:Heap)(n:Nat)(u:ae0)(d:PyData):Prop:=∃as,Reads h u d as/\d.canLay0=true/\d.depth<=n
theorem lQ{n:Nat}(ih:∀(w:Wv)(a:V)(u:ae0)(d:PyData),ag X.K m H w a->RelV a u->aM st n w=some d->Mi s.heap n u d) :
  ∀(ws:List Wv)(xs:List V)(us:List ae0)(ds:List PyData),ah X.K m H ws xs->Vals xs us->fL (aM st n) ws=some ds->∃as,ReadsAll s.heap us ds as/\A5 ds=true/\om ds<=n
 | [],xs,us,ds,h,r,e=>by
  unfold ah at h
  subst h
  cases r
  cases e
  exact⟨[],.nil,rfl,bJ _⟩
 | w::ws,xs,us,ds,h,r,e=>by
  unfold ah at h
  obtain⟨x,xr,rfl,h1,h2⟩:=h
  cases r with
  | cons r1 r2=>
   unfold fL at e
   cases e1:aM st n w with
   | none=>rw[e1] at e;cases e
   | some d=>
    cases e2:fL (aM st n) ws with
    | none=>rw[e1,e2] at e;cases e
    | some dr=>
     rw[e1,e2] at e
     cases e
     obtain⟨as,q1,q2,q3⟩:=ih w x _ d h1 r1 e1
     obtain⟨bs,p1,p2,p3⟩:=lQ ih ws xr _ dr h2 r2 e2
     refine⟨as++bs,.cons q1 p1,?_,?_⟩
     ·show(PyData.canLay0 d&&A5 dr)=true
      rw[q2,p2];rfl
     ·show max d.depth (om dr)<=n
      omega
theorem dC(I:Inv X pins σ H s)(S:bq X.K m st H):∀(n:Nat)(w:Wv)(a:V)(u:ae0)(d:PyData),ag X.K m H w a->RelV a u->aM st n w=some d->Mi s.heap n u d:=by
 intro n
 induction n with
 | zero=>
  intro w a u d h r e
  cases w with
  | aZ=>unfold ag at h;subst h;cases r;cases e;exact⟨[],.none,rfl,ao _⟩
  | bl b=>unfold ag at h;subst h;cases r;cases e;exact⟨[],.bool b,rfl,ao _⟩
  | int i=>unfold ag at h;subst h;obtain⟨t,rfl⟩:=r;cases e;exact⟨[],.int i t,rfl,ao _⟩
  | str x=>unfold ag at h;obtain⟨rfl,hx⟩:=h;obtain⟨t,rfl⟩:=r;cases e;exact⟨[],.str x t,hx,ao _⟩
  | tup ws=>cases e
  | qh ws=>cases e
  | ref l=>cases e
  | ty t=>cases e
  | cls t=>cases e
  | xx t=>cases e
  | fn fp t=>cases e
 | succ n ih=>
  intro w a u d h r e
  cases w with
  | aZ=>unfold ag at h;subst h;cases r;cases e;exact⟨[],.none,rfl,bJ _⟩
  | bl b=>unfold ag at h;subst h;cases r;cases e;exact⟨[],.bool b,rfl,bJ _⟩
  | int i=>unfold ag at h;subst h;obtain⟨t,rfl⟩:=r;cases e;exact⟨[],.int i t,rfl,bJ _⟩
  | str x=>unfold ag at h;obtain⟨rfl,hx⟩:=h;obtain⟨t,rfl⟩:=r;cases e;exact⟨[],.str x t,hx,bJ _⟩
  | ty t=>cases e
  | cls t=>cases e
  | xx t=>cases e
  | fn fp t=>cases e
  | tup ws=>
   unfold ag at h
   obtain⟨p,xs,rfl,h1,h2⟩:=h
   cases r
   have e':(fL (aM st n) ws).map qP=some d:=e
   cases e2:fL (aM st n) ws with
   | none=>rw[e2] at e';cases e'
   | some ds=>
    rw[e2] at e'
    cases e'
    obtain⟨its,rv,ht,hz⟩:=I.tuple (ft.of h1)
    obtain⟨as,q1,q2,q3⟩:=lQ ih ws xs its ds h2 rv e2
    obtain⟨o,ho,hc,k,hd⟩:=ht
    exact⟨as,.tuple ho hc hd (by simpa using q1),q2,vO q3⟩
  | qh ws=>
   unfold ag at h
   obtain⟨p,xs,rfl,h1,h2⟩:=h
   cases r
   have e':(fL (aM st n) ws).map qP=some d:=e
   cases e2:fL (aM st n) ws with
   | none=>rw[e2] at e';cases e'
   | some ds=>
    rw[e2] at e'
    cases e'
    obtain⟨its,rv,ht,hz⟩:=I.tuple (.inr h1)
    obtain⟨as,q1,q2,q3⟩:=lQ ih ws xs its ds h2 rv e2
    obtain⟨o,ho,hc,k,hd⟩:=ht
    exact⟨as,.tuple ho hc hd (by simpa using q1),q2,vO q3⟩
  | ref l=>
   unfold ag at h
   obtain⟨p,rfl,h1⟩:=h
   cases r
   have e':(match aq st l with | some ws=>(fL (aM st n) ws).map vP | none=>none)=some d:=e
   cases e1:aq st l with
   | none=>rw[e1] at e';cases e'
   | some ws=>
    rw[e1] at e'
    have e'':(fL (aM st n) ws).map vP=some d:=e'
    cases e2:fL (aM st n) ws with
    | none=>rw[e2] at e'';cases e''
    | some ds=>
     rw[e2] at e''
     cases e''
     obtain⟨xs,hq,h2⟩:=S.read h1 e1
     obtain⟨its,rv,ht,hz⟩:=I.list hq
     obtain⟨as,q1,q2,q3⟩:=lQ ih ws xs its ds h2 rv e2
     obtain⟨o,ho,hc,k,hd⟩:=ht.isList
     exact⟨_,.list ho hc hd (by simpa using q1),q2,vO q3⟩
end
def oEq:fS:=λx y st=>match aM st 20 x,aM st 20 y with
 | some a,some b=> .ok (.bl (aT a b)) st
 | _,_=> .bad
def zc:fS:=λx y st=>match aM st 20 x,aM st 20 y with
 | some a,some b=> .ok (.bl (!PyData.eqv a b)) st
 | _,_=> .bad
section
variable {X:Cx}
def Tu(K:PySem.W.Frag)(neg:Bool):R2:=λa b H Q=>∃m st x y da db,bq K m st H/\ag K m H x a/\ag K m H y b/\aM st 20 x=some da/\aM st 20 y=some db/\Q (.bl (if neg then !PyData.eqv da db else aT da db)) H
theorem lV{n:Nat}{d:PyData}(hn:n<=64)(h:d.canLay0=true)(k:d.depth<=n):shaped d=true:=by
 unfold shaped
 rw[h,decide_eq_true (ba k hn)]
 rfl
theorem OI(hu:X.A.units+64 < cLine):ef X (ae7 .Eq) (Tu X.K false):=by
 intro pins s σ H a b v u Q I rx ry h
 obtain⟨m,st,x,y,da,db,S,h1,h2,e1,e2,q⟩:=h
 obtain⟨as,q1,q2,q3⟩:=dC I S 20 x a v da h1 rx e1
 obtain⟨bs,p1,p2,p3⟩:=dC I S 20 y b u db h2 ry e2
 exact eq_dataH q1 p1 (lV (by decide) q2 q3) (lV (by decide) p2 p3) hu ⟨.bl _,H,I,rfl,q⟩
theorem OJ(hu:X.A.units+64 < cLine):ef X (ae7 .NotEq) (Tu X.K true):=by
 intro pins s σ H a b v u Q I rx ry h
 obtain⟨m,st,x,y,da,db,S,h1,h2,e1,e2,q⟩:=h
 obtain⟨as,q1,q2,q3⟩:=dC I S 20 x a v da h1 rx e1
 obtain⟨bs,p1,p2,p3⟩:=dC I S 20 y b u db h2 ry e2
 exact ne_dataH q1 p1 (lV (by decide) q2 q3) (lV (by decide) p2 p3) hu ⟨.bl _,H,I,rfl,q⟩
theorem Mj(hu:X.A.units+64 < cLine):jD X (ae7 .Eq) oEq:=⟨_,OI hu,λx y a b st H m Q S rx ry p=>by
 unfold oEq at p
 cases e1:aM st 20 x with
 | none=>rw[e1] at p;exact aa p
 | some da=>
  cases e2:aM st 20 y with
  | none=>rw[e1,e2] at p;exact aa p
  | some db=>
   rw[e1,e2] at p
   exact⟨m,st,x,y,da,db,S,rx,ry,e1,e2,p _ m H Ext.refl S g_⟩⟩
theorem Mk(hu:X.A.units+64 < cLine):jD X (ae7 .NotEq) zc:=⟨_,OJ hu,λx y a b st H m Q S rx ry p=>by
 unfold zc at p
 cases e1:aM st 20 x with
 | none=>rw[e1] at p;exact aa p
 | some da=>
  cases e2:aM st 20 y with
  | none=>rw[e1,e2] at p;exact aa p
  | some db=>
   rw[e1,e2] at p
   exact⟨m,st,x,y,da,db,S,rx,ry,e1,e2,p _ m H Ext.refl S g_⟩⟩
def f7:Wv->Bool
 | .aZ=>true
 | .bl _=>true
 | .int _=>true
 | .str _=>true
 | _=>false
def RL:Wv->Wv->Bool
 | .aZ,.aZ=>true
 | .bl a,.bl b=>a == b
 | .bl a,.int b=>(if a then 1 else 0) == b
 | .int a,.bl b=>a == (if b then 1 else 0)
 | .int a,.int b=>a == b
 | .str a,.str b=>a == b
 | _,_=>false
def kG(st:Hs):Wv->Option (List Wv)
 | .tup ws=>some ws
 | .qh ws=>some ws
 | .ref l=>aq st l
 | _=>none
def XA:fS:=λx y st=>match kG st y with
 | some ws=>if f7 x=true/\ws.all f7=true then .ok (.bl (ws.any λz=>RL z x)) st else .bad
 | none=> .bad
def zA:fS:=λx y st=>match kG st y with
 | some ws=>if f7 x=true/\ws.all f7=true then .ok (.bl (!(ws.any λz=>RL z x))) st else .bad
 | none=> .bad
theorem rN{m:Mp}{H:Hp}{x:Wv}{a:V}(h:ag X.K m H x a)(f:f7 x=true):mz a=true:=by
 cases x with
 | aZ=>unfold ag at h;subst h;rfl
 | bl b=>unfold ag at h;subst h;rfl
 | int b=>unfold ag at h;subst h;rfl
 | str b=>unfold ag at h;obtain⟨h,_⟩:=h;subst h;rfl
 | _=>cases f
theorem J1{m:Mp}{H:Hp}{x y:Wv}{a b:V}(h:ag X.K m H x a)(k:ag X.K m H y b)(f:f7 x=true)(g:f7 y=true):JJ a b=RL x y:=by
 cases x with
 | aZ=>
  unfold ag at h;subst h
  cases y with
  | str j=>unfold ag at k;obtain⟨k,_⟩:=k;subst k;rfl
  | tup j=>cases g
  | qh j=>cases g
  | ref j=>cases g
  | ty j=>cases g
  | cls j=>cases g
  | xx j=>cases g
  | fn fp j=>cases g
  | _=>unfold ag at k;subst k;rfl
 | bl i=>
  unfold ag at h;subst h
  cases y with
  | str j=>unfold ag at k;obtain⟨k,_⟩:=k;subst k;rfl
  | tup j=>cases g
  | qh j=>cases g
  | ref j=>cases g
  | ty j=>cases g
  | cls j=>cases g
  | xx j=>cases g
  | fn fp j=>cases g
  | _=>unfold ag at k;subst k;rfl
 | int i=>
  unfold ag at h;subst h
  cases y with
  | str j=>unfold ag at k;obtain⟨k,_⟩:=k;subst k;rfl
  | tup j=>cases g
  | qh j=>cases g
  | ref j=>cases g
  | ty j=>cases g
  | cls j=>cases g
  | xx j=>cases g
  | fn fp j=>cases g
  | _=>unfold ag at k;subst k;rfl
 | str i=>
  unfold ag at h;obtain⟨h,_⟩:=h;subst h
  cases y with
  | str j=>unfold ag at k;obtain⟨k,_⟩:=k;subst k;rfl
  | tup j=>cases g
  | qh j=>cases g
  | ref j=>cases g
  | ty j=>cases g
  | cls j=>cases g
  | xx j=>cases g
  | fn fp j=>cases g
  | _=>unfold ag at k;subst k;rfl
 | _=>cases f
theorem pj{m:Mp}{H:Hp}{x:Wv}{a:V}(h:ag X.K m H x a)(f:f7 x=true):∀{ws:List Wv}{xs:List V},ah X.K m H ws xs->ws.all f7=true->xs.all mz=true/\VO a xs=ws.any λz=>RL z x
 | [],xs,r,_=>by unfold ah at r;subst r;exact⟨rfl,rfl⟩
 | w::ws,xs,r,g=>by
  unfold ah at r
  obtain⟨y,yr,rfl,r1,r2⟩:=r
  rw[fb,dZ] at g
  obtain⟨q1,q2⟩:=pj h f r2 g.2
  constructor
  ·rw[fb,rN r1 g.1,q1];rfl
  ·unfold VO at q2 ⊢
   rw[fU,fU,J1 r1 h g.1 f,q2]
theorem qQ{m:Mp}{H:Hp}{st:Hs}{y:Wv}{b:V}{ws:List Wv}(S:bq X.K m st H)(h:ag X.K m H y b)(e:kG st y=some ws):∃p xs,b= .ref p/\(kC X.K H p xs\/ft X.K H p xs)/\ah X.K m H ws xs:=by
 cases y with
 | tup zs=>
  cases e
  unfold ag at h
  obtain⟨p,xs,e1,e2,e3⟩:=h
  exact⟨p,xs,e1,.inr (ft.of e2),e3⟩
 | qh zs=>
  cases e
  unfold ag at h
  obtain⟨p,xs,e1,e2,e3⟩:=h
  exact⟨p,xs,e1,.inr (.inr e2),e3⟩
 | ref l=>
  unfold ag at h
  obtain⟨p,e1,e2⟩:=h
  obtain⟨xs,q1,q2⟩:=S.read e2 e
  exact⟨p,xs,e1,.inl q1,q2⟩
 | _=>cases e
theorem Tv:jD X (ae7 .In) XA:=⟨_,CH,λx y a b st H m Q S rx ry p=>by
 unfold XA at p
 cases e:kG st y with
 | none=>rw[e] at p;exact aa p
 | some ws=>
  rw[e] at p
  by_cases c:f7 x=true/\ws.all f7=true
  ·simp only[if_pos c] at p
   obtain⟨q,xs,e1,e2,e3⟩:=qQ S ry e
   obtain⟨f1,f2⟩:=pj rx c.1 e3 c.2
   refine⟨q,xs,e1,e2,rN rx c.1,f1,?_⟩
   rw[f2]
   exact p _ m H Ext.refl S g_
  ·simp only[if_neg c] at p;exact aa p⟩
theorem Fo:jD X (ae7 .NotIn) zA:=⟨_,vB,λx y a b st H m Q S rx ry p=>by
 unfold zA at p
 cases e:kG st y with
 | none=>rw[e] at p;exact aa p
 | some ws=>
  rw[e] at p
  by_cases c:f7 x=true/\ws.all f7=true
  ·simp only[if_pos c] at p
   obtain⟨q,xs,e1,e2,e3⟩:=qQ S ry e
   obtain⟨f1,f2⟩:=pj rx c.1 e3 c.2
   refine⟨q,xs,e1,e2,rN rx c.1,f1,?_⟩
   rw[f2]
   exact p _ m H Ext.refl S g_
  ·simp only[if_neg c] at p;exact aa p⟩
def cU:fS
 | .str z,.int i,st=>if z.length<=lim then(match rC z.cps.toList i with | some c=> .ok (.str ⟨#[c]⟩) st | none=> .bad) else .bad
 | x,.int i,st=>match kG st x with
  | some ws=>(match rC ws i with | some w=> .ok w st | none=> .bad)
  | none=> .bad
 | _,_,_=> .bad
theorem J2{m:Mp}{H:Hp}{ws:List Wv}{xs:List V}{i:Int}{w:Wv}(r:ah X.K m H ws xs)(h:rC ws i=some w):∃x,rC xs i=some x/\ag X.K m H w x:=by
 unfold rC at h ⊢
 rw[<-r.length]
 cases e:Eb ws.length i with
 | none=>rw[e] at h;cases h
 | some j=>rw[e] at h;exact r.get h
theorem J3{α:Type}{xs:List α}{i:Int}{v:α}(h:rC xs i=some v):v∈xs:=by
 obtain⟨j,_,h2,_⟩:=qM h
 exact vw h2
theorem CP{z:PySem.Str}{c:Nat}(h:bo z=true)(hc:c∈z.cps.toList):bo ⟨#[c]⟩=true:=by
 unfold bo at h ⊢
 rw[Tw] at h
 have q:=h c (by simpa using hc)
 simpa using q
theorem Tz{a b:Expr}{ga gb:GE}{pos:Pos}(ha:JE X a ga)(hb:JE X b gb)(hs:AX b:=by exact λ_ _=>rfl):JE X (.Subscript a b pos) (ai cU ga gb) :=
 JE.of (SH N2 aE aE hs) λρ st σ H m Q S R p=>A2 (op:=cU) (λx y a b st H m Q S rx ry p=>by
  have seqs:∀(i:Int),y= .int i->(match kG st x with | some ws=>(match rC ws i with | some w=>Re.ok w st | none=> .bad) | none=> .bad)=cU x y st->rIx X.K a b H Q:=λi hy hp=>by
   subst hy
   rw[<-hp] at p
   cases e:kG st x with
   | none=>rw[e] at p;exact aa p
   | some ws=>
    rw[e] at p
    dsimp only at p
    cases e1:rC ws i with
    | none=>rw[e1] at p;exact aa p
    | some w=>
     rw[e1] at p
     obtain⟨q,xs,e2,e3,e4⟩:=qQ S rx e
     obtain⟨v,f1,f2⟩:=J2 e4 e1
     rcases e3 with e3 | e3
     ·exact .inl ⟨q,xs,i,v,e2,aW ry,e3,f1,p v m H Ext.refl S f2⟩
     ·exact .inr (.inl ⟨q,xs,i,v,e2,aW ry,e3,f1,p v m H Ext.refl S f2⟩)
  cases y with
  | int i=>
   cases x with
   | str z=>
    dsimp only[cU] at p
    by_cases c:z.length<=lim
    ·simp only[if_pos c] at p
     cases e1:rC z.cps.toList i with
     | none=>rw[e1] at p;exact aa p
     | some ch=>
      rw[e1] at p
      exact .inr (.inr ⟨z,i,ch,(dS rx).1,aW ry,dR c,e1,p _ m H Ext.refl S (mkStr (CP (dS rx).2 (J3 e1)))⟩)
    ·simp only[if_neg c] at p;exact aa p
   | _=>exact seqs i rfl rfl
  | _=>cases x<;>exact aa p) ha hb S R p
abbrev GO:=bD->Hs->Re (Option Int)
def SO(X:Cx)(e:Option Expr):TO:=λσ H Q=>∀(pins:List (aeU×Obj))(s:aeZ),Inv X pins σ H s->afd (model X.prog X.w) X.A (evalPart e X.env) (λu s'=>∃o H',Inv X pins σ H' s'/\IsPart u o/\Q o H') X.xe s
theorem uH{e:Option Expr}:PO X e (SO X e):=λpins s _ _ _ I h=>h pins s I
def okO(K:PySem.W.Frag)(m:Mp)(H:Hp)(Q:Option Int->Hp->Prop)(o:Option Int)(st:Hs):Prop:=∀(m':Mp)(H':Hp),Ext K m H m' H'->bq K m' st H'->Q o H'
def JO(X:Cx)(e:Option Expr)(g:GO):Prop:=∀(ρ:bD)(st:Hs)(σ:St)(H:Hp)(m:Mp)(Q:Option Int->Hp->Prop),bq X.K m st H->az X.K m H ρ σ->aw X σ m H (g ρ st) (okO X.K m H Q)->SO X e σ H Q
def lW:GO:=λ_ st=> .ok none st
def qj(g:GE):GO:=λρ st=>(g ρ st).bind λw st1=>match w with
 | .int i=> .ok (some i) st1
 | _=> .bad
theorem J4:JO X none lW:=λρ st σ H m Q S R p pins s I=>JB pins s σ H Q I (p m H Ext.refl S)
theorem J5{e:Expr}{g:GE}(h:JE X e g):JO X (some e) (qj g):=λρ st σ H m Q S R p pins s I=>
 JC aE pins s σ H Q I (h.go S R (aw.bind p) λw st1 v m1 H1 p1 e1 S1 r1=>by
  cases w with
  | int i=>exact⟨i,aW r1,p1 m1 H1 e1 S1⟩
  | _=>exact aa p1)
theorem JO.go{e:Option Expr}{g:GO}{ρ:bD}{st:Hs}{σ:St}{H:Hp}{m:Mp}{T:Option Int->Hp->Prop}{ok:Option Int->Hs->Prop}(h:JO X e g)(S:bq X.K m st H)(R:az X.K m H ρ σ)(p:aw X σ m H (g ρ st) ok)
  (k:∀(b:Option Int)(st1:Hs)(m1:Mp)(H1:Hp),ok b st1->Ext X.K m H m1 H1->bq X.K m1 st1 H1->T b H1):SO X e σ H T :=
 h ρ st σ H m T S R (p.imp Ext.refl λb st1 q m1 H1 e1 s1=>k b st1 m1 H1 q e1 s1)
def tV(xs:List Wv)(lo hi:Option Int):List Wv:=(xs.drop (HT.dn xs.length 0 lo)).take (HT.dn xs.length xs.length hi - HT.dn xs.length 0 lo)
def RM(x:Wv)(lo hi:Option Int)(st:Hs):Re Wv:=match x with
 | .tup ws=>if HT.dn ws.length 0 lo=0/\HT.dn ws.length ws.length hi=ws.length then .bad else .ok (.tup (tV ws lo hi)) st
 | .ref l=>match aq st l with
  | some ws=> .ok (.ref st.length) (st++[.lst (tV ws lo hi)])
  | none=> .bad
 | _=> .bad
theorem vQ{m:Mp}{H:Hp}{ws:List Wv}{xs:List V}{lo hi:Option Int}(r:ah X.K m H ws xs):ah X.K m H (tV ws lo hi) (tR xs lo hi):=by
 unfold tV tR
 rw[<-r.length]
 exact(r.drop _).take _
def zB(ga:GE)(gl gh:GO):GE:=λρ st=>(ga ρ st).bind λx st1=>(gl ρ st1).bind λlo st2=>(gh ρ st2).bind λhi st3=>RM x lo hi st3
theorem xF{a:Expr}{lo hi:Option Expr}{ga:GE}{gl gh:GO}{pos p2:Pos}(ha:JE X a ga)(hl:JO X lo gl)(hh:JO X hi gh):JE X (.Subscript a (.Slice lo hi none p2) pos) (zB ga gl gh):=by
 refine JE.of (rB (EE.or JH) aE uH uH) λρ st σ H m Q S R p=>?_
 refine ha.go S R (aw.bind p) λx st1 v m1 H1 p1 e1 S1 rx=>?_
 refine hl.go S1 (R.mono e1) ((aw.bind p1).imp e1 λ_ _ q=>q) λl st2 m2 H2 p2 e2 S2=>?_
 refine hh.go S2 (R.mono (e1.trans e2)) ((aw.bind p2).imp (e1.trans e2) λ_ _ q=>q) λh st3 m3 H3 p3 e3 S3=>?_
 have CQ:=e1.trans (e2.trans e3)
 have VV:=ag.mono (e2.trans e3) _ _ rx
 cases x with
 | tup ws=>
  have qz:eD X σ m H (if HT.dn ws.length 0 l=0/\HT.dn ws.length ws.length h=ws.length then .bad else .ok (.tup (tV ws l h)) st3) Q:=p3
  by_cases c:HT.dn ws.length 0 l=0/\HT.dn ws.length ws.length h=ws.length
  ·rw[if_pos c] at qz;exact aa qz
  ·rw[if_neg c] at qz
   unfold ag at VV
   obtain⟨q,xs,rfl,f1,f2⟩:=VV
   refine .inl ⟨q,xs,rfl,ft.of f1,by rw[<-f2.length];exact c,λr hr=>?_⟩
   have e4:Ext X.K m3 H3 m3 (upd H3 r (.tup (tR xs l h))):=Ext.upd (.inl hr)
   exact qz (.ref r) m3 _ (CQ.trans e4) (S3.fresh hr) (by unfold ag;exact⟨r,_,rfl,aF,ah.mono e4 _ _ (vQ f2)⟩)
 | ref k=>
  have qz:eD X σ m H (match aq st3 k with | some ws=> .ok (.ref st3.length) (st3++[.lst (tV ws l h)]) | none=> .bad) Q:=p3
  unfold ag at VV
  obtain⟨q,rfl,f1⟩:=VV
  cases e:aq st3 k with
  | none=>rw[e] at qz;exact aa qz
  | some ws=>
   rw[e] at qz
   obtain⟨xs,g1,g2⟩:=S3.read f1 e
   exact .inr ⟨q,xs,rfl,g1,λr hr=>jr qz CQ S3 (vQ g2) r hr⟩
 | _=>exact aa p3
end
section
variable {X:Cx}
def cO(X:Cx)(f:ae0)(op:List Wv->Hs->Re Wv):Prop:=∃r,cA X f r/\∀(ws:List Wv)(vs:List V)(st:Hs)(H:Hp)(m:Mp)(Q:VK),bq X.K m st H->ah X.K m H ws vs->cC X.K m H (op ws st) Q->r vs H Q
def aL(op:List Wv->Hs->Re Wv)(g:GA):GE:=λρ st=>(g ρ st).bind λws st1=>(op ws st1).oW
theorem Fp{x:Str}{id:String}{p pos:Pos}{e:Expr}{es:List Expr}{g:GA}{op:List Wv->Hs->Re Wv}(hc:cO X (.builtin id) op)(hg:Gl X x)(hm:X.mg x=none)(hv:ae4 x=some (.builtin id))(ha:JA X (e::es) g)
  (hn:x≠"__name__":=by decide)(hdb:(x == ("__debug__":Str))=false:=by decide)(he:afc (e::es) X.env=(false,eval e X.env)::afc es X.env:=by rfl)(hpl:(backTo pos (afc es X.env)).any (·.1)=false:=by rfl) :
  JE X (.Call (.Name x p) (e::es) [] pos) (aL op g):=by
 obtain⟨r,h1,h2⟩:=hc
 refine JE.of (EB h1 hg hm hv mC hn hdb he hpl) λρ st σ H m Q S R p=>?_
 exact ha.go S R (aw.bind p) λws st1 vs m1 H1 p1 e1 S1 rs=>h2 ws vs st1 H1 m1 Q S1 rs (cC.shift (aw.oW p1) e1)
theorem CT{x:Str}{T:String}{p pos:Pos}{e:Expr}{es:List Expr}{g:GA}{op:List Wv->Hs->Re Wv}(hc:cO X (.type T) op)(hg:Gl X x)(hm:X.mg x=none)(hv:ae4 x=some (.type T))(ha:JA X (e::es) g)
  (hn:x≠"__name__":=by decide)(hdb:(x == ("__debug__":Str))=false:=by decide)(he:afc (e::es) X.env=(false,eval e X.env)::afc es X.env:=by rfl)(hpl:(backTo pos (afc es X.env)).any (·.1)=false:=by rfl) :
  JE X (.Call (.Name x p) (e::es) [] pos) (aL op g):=by
 obtain⟨r,h1,h2⟩:=hc
 refine JE.of (CG h1 hg hm hv mC hn hdb he hpl) λρ st σ H m Q S R p=>?_
 exact ha.go S R (aw.bind p) λws st1 vs m1 H1 p1 e1 S1 rs=>h2 ws vs st1 H1 m1 Q S1 rs (cC.shift (aw.oW p1) e1)
theorem kH{m:Mp}{H:Hp}{w:Wv}{vs:List V}(r:ah X.K m H [w] vs):∃v,vs=[v]/\ag X.K m H w v:=by
 unfold ah at r
 obtain⟨v,t,rfl,h1,h2⟩:=r
 unfold ah at h2
 subst h2
 exact⟨v,rfl,h1⟩
theorem Fq{m:Mp}{H:Hp}{w w':Wv}{vs:List V}(r:ah X.K m H [w,w'] vs):∃v v',vs=[v,v']/\ag X.K m H w v/\ag X.K m H w' v':=by
 unfold ah at r
 obtain⟨v,t,rfl,h1,h2⟩:=r
 obtain⟨v',rfl,h3⟩:=kH h2
 exact⟨v,v',rfl,h1,h3⟩
def e7:List Wv->Hs->Re Wv
 | [.str z],st=>if z.length<=lim then .ok (.int z.length) st else .bad
 | [x],st=>match kG st x with
  | some ws=> .ok (.int ws.length) st
  | none=> .bad
 | _,_=> .bad
theorem Fs:cO X (.builtin "len") e7:=⟨_,vD.or vE,λws vs st H m Q S r p=>by
 match ws,r,p with
 | [],r,p=>exact aa p
 | x::y::t,r,p=>cases x<;>exact aa p
 | [x],r,p=>
  obtain⟨v,rfl,rx⟩:=kH r
  have seqs:(match kG st x with | some ws=>Re.ok (Wv.int ws.length) st | none=> .bad)=e7 [x] st->(∃p ys,[v]=[V.ref p]/\(kC X.K H p ys\/ft X.K H p ys)/\Q (.int ys.length) H):=λhp=>by
   rw[<-hp] at p
   cases e:kG st x with
   | none=>rw[e] at p;exact aa p
   | some ws=>
    rw[e] at p
    obtain⟨q,xs,rfl,e2,e3⟩:=qQ S rx e
    refine⟨q,xs,rfl,e2,?_⟩
    rw[<-e3.length]
    exact p _ m H Ext.refl S mkInt
  cases x with
  | str z=>
   have p':cC X.K m H (if z.length<=lim then .ok (.int z.length) st else .bad) Q:=p
   by_cases c:z.length<=lim
   ·rw[if_pos c] at p'
    obtain⟨rfl,_⟩:=dS rx
    exact .inr ⟨z,rfl,dR c,p' _ m H Ext.refl S mkInt⟩
   ·rw[if_neg c] at p';exact aa p'
  | _=>exact .inl (seqs rfl)⟩
def J6:List Wv->Hs->Re Wv
 | [.int i],st=> .ok (.int (if i < 0 then -i else i)) st
 | _,_=> .bad
theorem OK:cO X (.builtin "abs") J6:=⟨_,Ey,λws vs st H m Q S r p=>by
 match ws,r,p with
 | [],r,p=>exact aa p
 | x::y::t,r,p=>cases x<;>exact aa p
 | [x],r,p=>
  obtain⟨v,rfl,rx⟩:=kH r
  cases x with
  | int i=>cases aW rx;exact⟨i,rfl,p _ m H Ext.refl S mkInt⟩
  | _=>exact aa p⟩
def TC(st:Hs)(T:String):Wv->Option Bool
 | .aZ=>some false
 | .bl _=>some (T == "bool"||T == "int")
 | .int _=>some (T == "int")
 | .str _=>some (T == "str")
 | .tup _=>some (T == "tuple")
 | .qh _=>none
 | .ref l=>(aq st l).map λ_=>T == "list"
 | .ty _=>none
 | .cls _=>none
 | .xx _=>none
 | .fn _ _=>none
def CU(T:String):Bool:=T == "int"||T == "str"||T == "bool"||T == "tuple"||T == "list"
def Ft:List Wv->Hs->Re Wv
 | [x,.ty T],st=>if CU T=true then(match TC st T x with | some b=> .ok (.bl b) st | none=> .bad) else .bad
 | _,_=> .bad
def XB(K:PySem.W.Frag):List V->Hp->VK->Prop:=λvs H Q=>∃m st x T v b,vs=[v,.ty T]/\bq K m st H/\ag K m H x v/\CU T=true/\TC st T x=some b/\Q (.bl b) H
theorem Fv:cA X (.builtin "isinstance") (XB X.K):=by
 intro pins s σ H xs us Q I r h
 obtain⟨m,st,x,T,v,b,rfl,S,rx,hT,hb,q⟩:=h
 obtain⟨u,u',rfl,r1,r2⟩:=vals2 r
 cases r2
 have fin:∀tk,EP X pins σ Q (.bool b) { s with toks:=tk }:=λtk=>⟨.bl b,H,I.tok tk,rfl,q⟩
 have Fw:EP X pins σ Q (.bool b) s:=⟨.bl b,H,I,rfl,q⟩
 unfold CU at hT
 simp only[Fx,beq_iff_eq] at hT
 cases x with
 | aZ=>
  unfold ag at rx;subst rx;cases r1
  cases hb
  rcases hT with (((rfl | rfl) | rfl) | rfl) | rfl<;>
   exact call_isinstance (isinstance_false_none (by decide) (by kernel_rfl) (by rw[ae9];kernel_rfl)) (fin _)
 | bl c=>
  unfold ag at rx;subst rx;cases r1
  rcases hT with (((rfl | rfl) | rfl) | rfl) | rfl<;>cases hb<;>first
   | exact call_isinstance_yes (Tx:="bool") rfl (by kernel_rfl) (by rw[ae9];kernel_rfl) Fw
   | exact call_isinstance (isinstance_false_bool (by decide) (by kernel_rfl) (by rw[ae9];kernel_rfl)) (fin _)
 | int c=>
  unfold ag at rx;subst rx;obtain⟨t,rfl⟩:=r1
  rcases hT with (((rfl | rfl) | rfl) | rfl) | rfl<;>cases hb<;>first
   | exact call_isinstance_yes (Tx:="int") (typeIs_int s c t) (by kernel_rfl) (by rw[ae9];kernel_rfl) Fw
   | exact call_isinstance (isinstance_false_int (by decide) (by kernel_rfl) (by rw[ae9];kernel_rfl)) (fin _)
 | str c=>
  obtain⟨rfl,_⟩:=dS rx;obtain⟨t,rfl⟩:=r1
  rcases hT with (((rfl | rfl) | rfl) | rfl) | rfl<;>cases hb<;>first
   | exact call_isinstance_yes (Tx:="str") (typeIs_str s c t) (by kernel_rfl) (by rw[ae9];kernel_rfl) Fw
   | exact call_isinstance (isinstance_false_str (by decide) (by kernel_rfl) (by rw[ae9];kernel_rfl)) (fin _)
 | qh ws=>cases hb
 | tup ws=>
  unfold ag at rx;obtain⟨a,xs,rfl,h1,h2⟩:=rx;cases r1
  obtain⟨its,rv,ht,hz⟩:=I.tuple (ft.of h1)
  have hty:=ht.typeIs
  obtain⟨o,ho,hc,k,hd⟩:=ht
  rcases hT with (((rfl | rfl) | rfl) | rfl) | rfl<;>cases hb<;>first
   | exact call_isinstance_yes (Tx:="tuple") hty (by kernel_rfl) (by rw[ae9];kernel_rfl) Fw
   | exact call_isinstance (isinstance_false_tuple (by decide) (by kernel_rfl) (by rw[ae9];kernel_rfl)) ⟨⟨o,ho,hc⟩,fin _⟩
 | ref l=>
  unfold ag at rx;obtain⟨a,rfl,h1⟩:=rx;cases r1
  have hb':(aq st l).map (λ_=>T == "list")=some b:=hb
  cases e:aq st l with
  | none=>rw[e] at hb';cases hb'
  | some ws=>
   rw[e] at hb'
   obtain⟨xs,hq,h2⟩:=S.read h1 e
   obtain⟨its,rv,ht,hz⟩:=I.list hq
   have hty:=ht.isList.typeIs
   obtain⟨o,ho,hc,k,hd⟩:=ht.isList
   rcases hT with (((rfl | rfl) | rfl) | rfl) | rfl<;>cases hb'<;>first
    | exact call_isinstance_yes (Tx:="list") hty (by kernel_rfl) (by rw[ae9];kernel_rfl) Fw
    | exact call_isinstance (isinstance_false_list (by decide) (by kernel_rfl) (by rw[ae9];kernel_rfl)) ⟨⟨o,ho,hc⟩,fin _⟩
 | ty t=>cases hb
 | cls t=>cases hb
 | xx t=>cases hb
 | fn fp t=>cases hb
theorem OL:cO X (.builtin "isinstance") Ft:=⟨_,Fv,λws vs st H m Q S r p=>by
 match ws,r,p with
 | [],r,p=>exact aa p
 | [x],r,p=>cases x<;>exact aa p
 | x::y::z::t,r,p=>cases y<;>exact aa p
 | [x,y],r,p=>
  obtain⟨v,v',rfl,rx,ry⟩:=Fq r
  cases y with
  | ty T=>
   unfold ag at ry
   subst ry
   have p':cC X.K m H (if CU T=true then(match TC st T x with | some b=> .ok (.bl b) st | none=> .bad) else .bad) Q:=p
   by_cases c:CU T=true
   ·rw[if_pos c] at p'
    cases e:TC st T x with
    | none=>rw[e] at p';exact aa p'
    | some b=>rw[e] at p';exact⟨m,st,x,T,v,b,rfl,S,rx,c,e,p' _ m H Ext.refl S g_⟩
   ·rw[if_neg c] at p';exact aa p'
  | _=>exact aa p⟩
def bp:GS:=λρ st=> .nx ρ st
def aH(g h:GS):GS:=λρ st=>match g ρ st with
 | .nx ρ' st'=>h ρ' st'
 | r=>r
theorem J7:nL X [] bp:=nL.of Jm λρ st σ H m D S R p=>p σ m H Ext.refl S R
theorem Fy{s:Stmt}{rest:List Stmt}{g h:GS}(h1:JS X s g)(h2:nL X rest h):nL X (s::rest) (aH g h) :=
 nL.of (El Mc dJ) λρ st σ H m D S R p=>h1 ρ st σ H m _ S R (by
  unfold aH at p
  cases e:g ρ st with
  | nx ρ' st'=>rw[e] at p;exact λσ' m' H' e' S' R'=>h2 ρ' st' σ' H' m' D S' R' (aA.shift p e')
  | rt w st'=>rw[e] at p;exact p
  | bk ρ' st'=>rw[e] at p;exact p
  | ct ρ' st'=>rw[e] at p;exact p
  | err c ρ' st'=>rw[e] at p;exact p
  | bad=>rw[e] at p;exact p)
theorem J8{s:Stmt}{g:GS}(h1:JS X s g):nL X [s] g:=nL.of (Jn Mc) λρ st σ H m D S R p=>h1 ρ st σ H m D S R p
def aU(g:GE):GS:=λρ st=>(g ρ st).a7 ρ λw st'=> .rt w st'
theorem OM{e:Expr}{g:GE}{pos:Pos}(h:JE X e g):JS X (.Return (some e) pos) (aU g) :=
 JS.of (Nx aE) λρ st σ H m D S R p=>h.go S R (aA.bW R p) λw st1 v m1 H1 q e1 S1 r1=>q v m1 H1 e1 S1 r1
theorem J9{pos:Pos}:JS X (.Pass pos) bp:=JS.of Jo λρ st σ H m D S R p=>p σ m H Ext.refl S R
def hG(g:GE):GS:=λρ st=>(g ρ st).a7 ρ λ_ st'=> .nx ρ st'
theorem J_{e:Expr}{g:GE}{pos:Pos}(h:JE X e g)(hs:swapsWith e none pos.line X.env=pure false:=by rfl):JS X (.Expr e pos) (hG g) :=
 JS.of (Jp aE hs) λρ st σ H m D S R p=>h.go S R (aA.bW R p) λw st1 v m1 H1 q e1 S1 r1=>q σ m1 H1 e1 S1 (R.mono e1)
def iD(gt:GT)(ga gb:GS):GS:=λρ st=>(gt ρ st).a7 ρ λb st'=>if b=true then ga ρ st' else gb ρ st'
theorem TF{c:Expr}{a b:List Stmt}{gt:GT}{ga gb:GS}{pos:Pos}(hc:JT X c gt)(ha:nL X a ga)(hb:nL X b gb):JS X (.If c a b pos) (iD gt ga gb) :=
 JS.of (Sf qi dJ dJ) λρ st σ H m D S R p=>hc.go S R (aA.bW R p) λk st1 m1 H1 q e1 S1=>by
  cases k with
  | true=>rw[if_pos rfl] at q ⊢;exact ha ρ st1 σ H1 m1 D S1 (R.mono e1) (aA.shift q e1)
  | false=>rw[if_neg bt] at q ⊢;exact hb ρ st1 σ H1 m1 D S1 (R.mono e1) (aA.shift q e1)
def bB(i:Nat)(g:GE):GS:=λρ st=>(g ρ st).a7 ρ λw st'=> .nx (ρ.set i (some w)) st'
theorem zC(i:Nat){x:Str}{e:Expr}{g:GE}{pos pos':Pos}(hN:X.N.Nodup)(h:JE X e g)(hi:X.N[i]? =some x:=by rfl)(hx:Loc X.env.scope x:=by first | exact Or.inl rfl | exact lP rfl)(hs:swapsWith e (some (.Name x pos')) pos.line X.env=pure false:=by rfl)
  (hf:X.fn x=true\/X.env.scope.names.lookup x=some .local:=by first | exact .inl rfl | exact .inr rfl | assumption):JS X (.Assign [.Name x pos'] e pos) (bB i g) :=
 JS.of (NA hN hi hx aE hs hf) λρ st σ H m D S R p=>h.go S R (aA.bW R p) λw st1 v m1 H1 q e1 S1 r1=>q _ m1 H1 e1 S1 ((R.mono e1).set i r1)
def bR:GS:=λ_ _=> .bad
theorem bA{s:Stmt}:JS X s bR:=JS.of En λρ st σ H m D S R p=>p
theorem CV{s:List Stmt}:nL X s bR:=nL.of CA λρ st σ H m D S R p=>p
def TH(o i v:Wv)(ρ:bD)(st:Hs):Rs:=match o,i with
 | .ref l,.int k=>match st[l]? with
  | some (.lst ws)=>(match Eb ws.length k with | some j=> .nx ρ (st.set l (.lst (ws.set j v))) | none=> .bad)
  | _=> .bad
 | _,_=> .bad
def A6(ge go gi:GE):GS:=λρ st=>(ge ρ st).a7 ρ λv st1=>(go ρ st1).a7 ρ λo st2=>(gi ρ st2).a7 ρ λi st3=>TH o i v ρ st3
theorem Ka{o i e:Expr}{go gi ge:GE}{pos pos':Pos}(he:JE X e ge)(ho:JE X o go)(hi:JE X i gi)(hs:swapsWithSole [.Subscript o i pos'] e pos.line X.env=pure false:=by rfl)(hw:swappedStores [.Subscript o i pos'] e X.env=pure none:=by rfl)
  (h1:(assignEach [.Subscript o i pos'] X.env).map (·.2)=[assign (.Subscript o i pos') X.env]:=by rfl)
  (ha:∀v,assign (.Subscript o i pos') X.env v=(do
   let ov <-holding [v] (eval o X.env)
   let iv <-holding [v,ov] (eval i X.env)
   standAt pos'
   holding [v,ov,iv] (setItem ov iv v)
   release [v,ov,iv] []):=by intro _;rfl):JS X (.Assign [.Subscript o i pos'] e pos) (A6 ge go gi):=by
 refine JS.of (Ep aE (Nz aE aE set_list ha) hs hw h1) λρ st σ H m D S R p=>?_
 refine he.go S R (aA.bW R p) λv st1 vv m1 H1 p1 e1 S1 rv=>?_
 refine ho.go S1 (R.mono e1) ((aA.bW (m:=m) (H:=H) R p1).imp e1 λ_ _ q=>q) λo' st2 ov m2 H2 p2 e2 S2 ro=>?_
 refine hi.go S2 (R.mono (e1.trans e2)) ((aA.bW (m:=m) (H:=H) R p2).imp (e1.trans e2) λ_ _ q=>q) λi' st3 iv m3 H3 p3 e3 S3 ri=>?_
 have CQ:=e1.trans (e2.trans e3)
 cases o' with
 | ref l=>
  cases i' with
  | int k=>
   have qz:aA X m H (match st3[l]? with | some (.lst ws)=>(match Eb ws.length k with | some j=> .nx ρ (st3.set l (.lst (ws.set j v))) | none=> .bad) | _=> .bad) D:=p3
   have ro3:=ag.mono e3 _ _ ro
   unfold ag at ro3
   obtain⟨a,rfl,f1⟩:=ro3
   cases e:st3[l]? with
   | none=>rw[e] at qz;exact aa qz
   | some ob=>
    cases ob with
    | dct kvs=>rw[e] at qz;exact aa qz
    | bu kvs=>rw[e] at qz;exact aa qz
    | fW kvs=>rw[e] at qz;exact aa qz
    | rH ns=>rw[e] at qz;exact aa qz
    | lst ws=>
     rw[e] at qz
     cases ej:Eb ws.length k with
     | none=>simp only[ej] at qz;exact aa qz
     | some j=>
      simp only[ej] at qz
      obtain⟨xs,g1,g2⟩:=S3.og f1 e
      refine⟨a,xs,k,j,rfl,aW ri,g1,by rw[<-g2.length];exact ej,?_⟩
      have rv3:=ag.mono (e2.trans e3) _ _ rv
      have e4:Ext X.K m3 H3 m3 (upd H3 a (.lst (xs.set j vv))):=Ext.upd (.inr ⟨xs,g1⟩)
      exact qz σ m3 _ (CQ.trans e4) (S3.write f1 e (g2.set j rv3)) (R.mono (CQ.trans e4))
  | _=>exact aa p3
 | _=>cases i'<;>exact aa p3
open Classical in
def forL(i:Nat)(gb:GS)(l:Nat)(all:List Wv):List Wv->bD->Hs->Rs
 | [],ρ,st=> .nx ρ st
 | w::r,ρ,st=>match gb (ρ.set i (some w)) st with
  | .nx ρ' st'=>if aq st' l=some all then forL i gb l all r ρ' st' else .bad
  | .ct ρ' st'=>if aq st' l=some all then forL i gb l all r ρ' st' else .bad
  | .bk ρ' st'=> .nx ρ' st'
  | .rt w st'=> .rt w st'
  | .err c ρ' st'=> .err c ρ' st'
  | .bad=> .bad
end
def CXJ(P:aeY)(w:ae1):Ea:=λouter H s E e s'=>∃H' C,xB P w outer H s H' (.ref C) e s'/\E (.ref C) none H'
section
variable {X:Cx} {pins:List (aeU×Obj)} {σ:St} {Hc H':Hp} {sc s':aeZ} {cls e:ae0} {E:ae0->aeZ->Prop} {Q:Unit->aeZ->Prop}
theorem old_ne(I:Inv X pins σ Hc sc){b:aeU}{o:Obj}(q:X.s₀.heap.get? b=some o):b≠X.env.locals:=λz=>by
 have h1:=aK q
 have h2:=I.ok.above
 rw[z] at h1
 exact absurd (bC h1 h2) (cK _)
theorem Kb(I:Inv X pins σ Hc sc)(hst:X.stack=X.env::X.outer)(hf:X.env.frame=some X.env.locals){b:aeU}{o:Obj}(q:X.s₀.heap.get? b=some o)(hb:b∉frs X.outer):b∉frs X.stack:=λz=>by
 rw[hst] at z
 unfold frs at z
 rw[vi,hf] at z
 rcases List.mem_cons.mp z with z | z
 ·exact old_ne I q z
 ·exact hb z
theorem Fz(hst:X.stack=X.env::X.outer)(hf:X.env.frame=some X.env.locals){b:aeU}(hb:b∈frs X.outer):b∈frs X.stack:=by
 rw[hst]
 unfold frs
 rw[vi,hf]
 exact aI _ hb
theorem FA{M:Model}{A:aeV}{E:ae0->aeZ->Prop}{s:aeZ}{base:Heap}{env:Env}{outer:List Env}{L e:aeU}{cls a0 nt:ae0}{Q:Unit->aeZ->Prop}(hfr:A.frames=some (env::outer))(hf:env.frame=some L)
  (x:base.StaysIn s.heap/\base.get? e=none/\s.heap.FunFrames base (env::outer)/\VS s.heap base e cls a0 nt)(k:∀h',EY base (env::outer) e cls a0 L h'->s.heap.UpToSlots h'->Q () { s with heap:=h' }) :
  afd M A (noteFrame (.ref e) env) Q E s:=by
 obtain⟨x1,x2,x3,x4⟩:=x
 by_cases z:nt=rawInt L
 ·subst z
  exact Om hf x4 (k s.heap ⟨x1,x2,x3,x4⟩ (Heap.UpToSlots.refl _))
 ·obtain⟨ox,us,T,ot,ws,g1,⟨g2,g3⟩,g4,g5,g6,g7,g8,g9,TJ⟩:=x4
  subst g2
  have apart:∀b,b≠T->(s.heap.update T (jJ (·.setIfInBounds 3 a_))).get? b=s.heap.get? b:=λb hb=>rD _ _ (bI hb)
  have plain:∀b o,s.heap.get? b=some o->(∀vs,o.data≠.fields vs)->b≠T:=λb o hb hd q=>by
   subst q
   rw[g8] at hb
   cases hb
   exact hd ws g9
  unfold noteFrame
  simp only[hf]
  refine afe (wpAny_field g1 g4 g5 ?_)
  rw[if_pos (show(ax T != a_)=true from by simp)]
  refine afe (wpAny_field g8 g9 TJ ?_)
  rw[if_neg (show ¬((nt == rawInt L)=true) from by simpa using z)]
  refine afe (wpAny_setField g8 g9 (Array.getElem?_eq_some_iff.mp TJ).1 ?_)
  refine E4 (a0:=a0) hfr (x3.of_keeps λb o hb hd=>⟨o,(apart b (plain b o hb hd)).trans hb,rfl⟩) hf ((apart e (bI g7)).trans g1) (λb o hb=>(apart b λq=>by rw[q,g6] at hb;cases hb).trans (x1 b o hb)) x2 g4 (Array.getElem?_eq_some_iff.mp g5).1 g3 λh' y y4=>?_
  exact k h' y λb o hb hd=>y4 b o ((apart b (plain b o hb hd)).trans hb) hd
theorem CW{M:Model}{A:aeV}{E:ae0->aeZ->Prop}{s:aeZ}{base h:Heap}{env:Env}{outer:List Env}{L a:aeU}{cls:ae0}{args:List ae0}{Q:Unit->aeZ->Prop}(hfr:A.frames=some (env::outer))(hf:env.frame=some L)
  (st:base.StaysIn h)(fs:h.FunFrames base (env::outer))(mk:E_ h s.heap a cls args)(k:∀h' a0,EY base (env::outer) a cls a0 L h'->s.heap.UpToSlots h'->Q () { s with heap:=h' }) :
  afd M A (noteFrame (.ref a) env) Q E s:=by
 obtain⟨t,e1,e2,e3⟩:=mk.there
 have fresh:∀b,h.get? b=none->base.get? b=none:=λb hb=>by
  cases q:base.get? b with
  | none=>rfl
  | some o'=>have z:=st b o' q;rw[hb] at z;cases z
 have fs':=fs.of_keeps (h':=s.heap) λb o hb _=>⟨o,mk.keeps b o hb,rfl⟩
 unfold noteFrame
 simp only[hf]
 refine afe (wpAny_field e1 rfl (x:=.none) rfl ?_)
 rw[if_neg (by decide)]
 exact E4 hfr fs' hf e1 (λb o hb=>mk.keeps b o (st b o hb)) (fresh a mk.new) rfl (by simp) (a0:=.ref t) rfl λh' l1 l4=>k h' (.ref t) l1 l4
theorem FC{ch:List aeU}(hx:X.ex=[])(hst:X.stack=X.env::X.outer)(hf:X.env.frame=some X.env.locals)(I:Inv X pins σ Hc sc){B h2:Heap}(hch:∀b∈ch,iE X pins Hc b)(un:Un (frs X.stack) ch Hc H' sc.heap s'.heap)(up:s'.heap.UpToSlots h2)(stay:B.StaysIn h2)
  (S0:∀b o,sc.heap.get? b=some o->b∉frs X.stack->b∉ch->∃o',B.get? b=some o'/\(Hc b=none->o'=o)) :
  Un (frs X.outer) [] X.H₀ H' X.s₀.heap h2/\(∀b o,X.s₀.heap.get? b=some o->b∉frs X.outer->∃o',B.get? b=some o'/\(X.H₀ b=none->o'=o)):=by
 have nx:∀b:aeU,b∉X.ex:=λb=>by rw[hx];simp
 have nc:∀b o,X.s₀.heap.get? b=some o->b∉ch:=λb o q z=>by
  rcases(hch b z).2.2.2.1 with y | y
  ·exact nx b y
  ·exact absurd (bC (aK q) y) (cK _)
 have ON:∀b o,X.s₀.heap.get? b=some o->b∉frs X.outer->∃o',B.get? b=some o'/\(X.H₀ b=none->o'=o):=λb o q hb=>by
  obtain⟨o1,q1⟩:=I.base.there b o q (nx b)
  obtain⟨o2,q2,q3⟩:=S0 b o1 q1 (Kb I hst hf q hb) (nc b o q)
  refine⟨o2,q2,λn=>?_⟩
  have q4:=I.base.keep b o q n hb (nx b)
  rw[q4] at q1
  cases q1
  exact q3 (I.base.free b o q n (nx b))
 have sl:∀b o,X.s₀.heap.get? b=some o->X.H₀ b=none->b∈frs X.outer->∃sl,h2.get? b=some { o with slots:=sl }:=λb o q n hb=>by
  obtain⟨s1,q1⟩:=I.base.slot b o q n hb (nx b)
  obtain⟨s2,q2⟩:=un.slot b _ q1 (I.base.free b o q n (nx b)) (Fz hst hf hb) (nc b o q)
  obtain⟨_,o3,q3,q4⟩:=I.ok.tP.mem hb
  rw[q] at q3
  cases q3
  obtain⟨s3,q5⟩:=up b _ q2 q4
  exact⟨s3,q5⟩
 refine⟨⟨λb o q n hb _=>?_,λb o q n hb _=>sl b o q n hb,λb o q n _=>?_,λb o q _=>?_,λb xs h=>un.tups b xs (I.base.tups b xs h),λb o u h=>un.nO b o u (I.base.nO b o u h),λb ps h=>?_⟩,ON⟩
 ·obtain⟨o2,q2,q3⟩:=ON b o q hb
  rw[q3 n] at q2
  exact stay b o q2
 ·obtain⟨o1,q1⟩:=I.base.there b o q (nx b)
  exact un.free b o1 q1 (I.base.free b o q n (nx b)) (nc b o q)
 ·by_cases hb:b∈frs X.outer
  ·obtain⟨s3,q3⟩:=sl b o q (I.ok.R0 b hb) hb
   exact⟨_,q3⟩
  ·obtain⟨o2,q2,_⟩:=ON b o q hb
   exact⟨o2,stay b o2 q2⟩
 ·obtain⟨m1,t1⟩:=I.base.rl b ps h
  obtain⟨m2,t2⟩:=un.rl b _ t1
  exact⟨m1++m2,by rw[<-Array.append_assoc];exact t2⟩
theorem xG(hx:X.ex=[])(hst:X.stack=X.env::X.outer)(hf:X.env.frame=some X.env.locals)(I:Inv X pins σ Hc sc)(F:ph X pins Hc sc H' cls e s')
  (k:∀s2,xB X.prog X.w X.outer X.H₀ X.s₀ H' cls e s2->Q () s2):afd (model X.prog X.w) X.A (leaving X.env e) Q E s':=by
 obtain⟨a,a0,nt,B,ch,rfl,os,bare,hch,un,hok,fl,S0⟩:=F
 have hfr:X.A.frames=some (X.env::X.outer):=by rw[I.ok.frames,hst]
 rw[hst] at fl
 unfold leaving
 refine afe (FA hfr hf fl λh1 hd1 up1=>?_)
 refine L9 hd1 λh2 Jc XC=>k _ ?_
 obtain⟨k1,k2,⟨_,_,k3⟩,k4⟩:=Jc
 obtain⟨u2,c2⟩:=FC hx hst hf I hch un (up1.trans XC) k1 S0
 exact⟨a,a0,B,rfl,os.trans I.os,bare,u2,hok,⟨k1,k2,k3,k4⟩,c2⟩
theorem FD{P:aeY}{w:ae1}{H:Hp}{h:Heap}{l:List aeU}(ok:kA P w H h)(fr:∀b∈l,H b=none):kA P w H (PySem.W.hideAll h l):=λa o q=>
 (ok a o q).stay (λb u hb r=>PySem.W.hideAll_get _ r λz=>by
  have n:=fr b z
  rcases hb with hb | hb
  ·rw[hb,q] at n;cases n
  ·rw[hb] at n;cases n) (λ_ r=>r) λ_ _ r=>r
theorem zD{a C:aeU}{args:List ae0}(hx:X.ex=[])(hst:X.stack=X.env::X.outer)(hf:X.env.frame=some X.env.locals)(I:Inv X pins σ Hc sc)(ho:s'.os=sc.os)(hgn:s'.gens=sc.gens)
  (M:E_ sc.heap s'.heap a (.ref C) args)(k:∀s2,xB X.prog X.w X.outer X.H₀ X.s₀ Hc (.ref C) (.ref a) s2->Q () s2):afd (model X.prog X.w) X.A (leaving X.env (.ref a)) Q E s':=by
 have hfr:X.A.frames=some (X.env::X.outer):=by rw[I.ok.frames,hst]
 have fs:sc.heap.FunFrames (PySem.W.hideAll sc.heap (frs X.stack)) (X.env::X.outer):=by
  rw[<-hst]
  exact PySem.W.funFrames_hide I.stack λenv he b hb=>List.mem_filterMap.mpr ⟨env,he,hb⟩
 unfold leaving
 refine afe (CW (base:=PySem.W.hideAll sc.heap (frs X.stack)) hfr hf (λb o q=>PySem.W.of_hideAll _ q) fs M λh1 t hd1 up1=>?_)
 refine L9 hd1 λh2 Jc XC=>k _ ?_
 have up:=up1.trans XC
 replace Jc:EZ (PySem.W.hideAll sc.heap (frs X.stack)) X.outer a (.ref C) t h2:=let ⟨k1,k2,⟨_,_,k3⟩,k4⟩:=Jc;⟨k1,k2,k3,k4⟩
 obtain⟨u2,c2⟩:=FC (H':=Hc) (s':=s') (ch:=[]) hx hst hf I (λb z=>by cases z) (Un.kept M.keeps) up Jc.1 λb o q hb _=>⟨o,PySem.W.hideAll_get _ q hb,λ_=>rfl⟩
 exact⟨a,t,_,rfl,ho.trans I.os,by rw[show({ s' with heap:=h2 }:aeZ).gens=sc.gens from hgn];exact I.bare,u2,FD I.hok I.vm,Jc,c2⟩
end
def Ml(K:PySem.W.Frag)(m:Mp)(H:Hp)(r:Re Wv)(Q:VK)(E:XK):Prop:=match r with
 | .ok w st=>RJ K m H Q w st
 | .err c st=>∀(m':Mp)(H':Hp)(C:aeU),Ext K m H m' H'->bq K m' st H'->ClsAt K c C->E (.ref C) none H'
 | .bad=>False
def spW(K:PySem.W.Frag)(n:Nat)(F:List Wv->Hs->Re Wv):Sp:=λvs H Q E=>∃m st ws,bq K m st H/\ah K m H ws vs/\ws.length=n/\Ml K m H (F ws st) Q E
def av(n:Nat)(F:List Wv->Hs->Re Wv)(g:GA):GE:=λρ st=>(g ρ st).bind λws st1=>if ws.length=n then F ws st1 else .bad
section
variable {X:Cx}
theorem Kc{k n:Nat}{f:aeU}{fd:aeW}{ps:List Str}{F:List Wv->Hs->Re Wv}{x:Str}{p pos:Pos}{e:Expr}{es:List Expr}{g:GA}
  (G:FnOk X.prog X.w X.K X.mg X.base (CXJ X.prog X.w) k f fd ps (spW X.K n F))(hr:kD k X.A)(hm:X.mg x=some (.ref f))(hk:PySem.W.keepIn X.K (.ref f)=true)(hb:Binds X.K fd ps [])(ha:JA X (e::es) g)(hg:Gl X x:=by rfl)
  (hdb:(x == ("__debug__":Str))=false:=by decide)(he:afc (e::es) X.env=(false,eval e X.env)::afc es X.env:=by rfl)(hpl:(backTo pos (afc es X.env)).any (·.1)=false:=by rfl) :
  JE X (.Call (.Name x p) (e::es) [] pos) (av n F g):=by
 intro ρ st σ H m Q S R p pins s I
 have args:=ha.go (T:=λvs H1=>∃ws st1 m1,eD X σ m H (if ws.length=n then F ws st1 else .bad) Q/\Ext X.K m H m1 H1/\bq X.K m1 st1 H1/\ah X.K m1 H1 ws vs) S R (aw.bind p)
  λws st1 vs m1 H1 p1 e1 S1 rs=>⟨ws,st1,m1,p1,e1,S1,rs⟩
 refine wpAny_Call_Name_kw (vn I hg hm ?_ hdb)
 refine PySem.W.callWith_K (h₀:=X.base) I.ok.mod.RY hk (a7 (args pos pins s I) λus s1 ⟨vs,H1,I1,r,ws,st1,m1,p1,e1,S1,rs⟩=>⟨I1.AK,?_⟩) he hpl
 by_cases c:ws.length=n
 ·rw[if_pos c] at p1
  let E:XK:=λcl _ H2=>∃c' st2 m2 C,cl= .ref C/\ClsAt X.K c' C/\F ws st1= .err c' st2/\Ext X.K m1 H1 m2 H2/\bq X.K m2 st2 H2
  have sp:spW X.K n F vs H1 Q E:=by
   refine⟨m1,st1,ws,S1,rs,c,?_⟩
   cases er:F ws st1 with
   | ok w st2=>rw[er] at p1;exact eD.shift (r:=.ok w st2) p1 e1
   | err c' st2=>exact λm2 H2 C e2 S2 hC=>⟨c',st2,m2,C,rfl,hC,er,e2,S2⟩
   | bad=>rw[er] at p1;exact aa p1
  have hl:us.length=ps.length:=by rw[<-r.length];exact G.len _ _ _ _ sp
  have bd:=hb s1 us I1.AK (by rw[mO];exact hl)
  rw[mO] at bd
  refine wpAny_call (codeAny_mono (G.run X.A X.stack s1 H1 ⟨us,[]⟩ us vs Q E hr I1.Xl bd r sp) λrr s2 hq=>?_)
  cases rr with
  | error x=>
   obtain⟨H2,C,fl,c',st2,m2,C',ec,hC,er,e2,S2⟩:=hq
   cases ec
   rw[er] at p1
   exact p1 m2 H2 x s2 (e1.trans e2) S2 ⟨C,pins,H1,s1,hC,I1,.inl fl.any⟩
  | ok fw=>
   cases fw with
   | ret u=>exact I1.after hq
   | next=>exact aa hq
   | brk=>exact aa hq
   | cont=>exact aa hq
 ·rw[if_neg c] at p1;exact aa p1
end
def bL(n:Nat)(g:GS):List Wv->Hs->Re Wv:=λws st=>match g (ws.map some++aC (n - ws.length) none) st with
 | .nx _ st'=> .ok .aZ st'
 | .rt w st'=> .ok w st'
 | .err c _ st'=> .err c st'
 | _=> .bad
theorem FE{K:PySem.W.Frag}{m:Mp}{H:Hp}{N:List Str}{ws:List Wv}{vs:List V}(r:ah K m H ws vs)(h:ws.length<=N.length):az K m H (ws.map some++aC (N.length - ws.length) none) (L2.start N vs):=by
 have hl:=r.length
 refine⟨by unfold L2.start;simp[hl],λi w e=>?_⟩
 by_cases hi:i < ws.length
 ·rw[gX (by simpa using hi),dQ] at e
  cases q:ws[i]? with
  | none=>rw[q] at e;cases e
  | some w'=>
   rw[q] at e
   cases e
   obtain⟨x,h1,h2⟩:=r.get q
   refine⟨x,?_,h2⟩
   unfold L2.start
   rw[gX (by simp;omega),dQ,h1]
   rfl
 ·rw[pe (by simpa using hi),NV] at e
  split at e<;>cases e
section
variable {P:aeY} {w:ae1} {K:PySem.W.Frag} {mg:Str->Option ae0} {base:Heap}
theorem zE{N:List Str}{qual:Str}{scope:Scope}{f:aeU}{cdv:ae0}{A:aeV}{outer:List Env}{s s':aeZ}{H H':Hp}{E:XK}{σ:St}{c:PySem.Str}{e:ae0}
  (r:zx (tQ (CXJ P w) P w K mg base N qual scope f cdv A outer s H E) σ H' c e s')(h:∀C,ClsAt K c C->E (.ref C) none H'):(tQ (CXJ P w) P w K mg base N qual scope f cdv A outer s H E).xe e s':=by
 obtain⟨C,pins,Hc,sc,hC,I,r⟩:=r
 rcases r with fl | ⟨rfl,a,args,rfl,ho,hg,M⟩
 ·exact xG (X:=tQ (CXJ P w) P w K mg base N qual scope f cdv A outer s H E) rfl rfl rfl I fl λs2 Jc=>⟨H',C,Jc,h C hC⟩
 ·exact zD (X:=tQ (CXJ P w) P w K mg base N qual scope f cdv A outer s H E) rfl rfl rfl I ho hg M λs2 Jc=>⟨H',C,Jc,h C hC⟩
def FF(K:PySem.W.Frag)(f:aeU)(cdv:ae0):Prop:=∃o,K.lookup f=some o/\∃fd,o.data= .func fd/\fd.code=cdv
theorem Mm{x qual:Str}{st:Stmt}{f:aeU}{fd:aeW}{N ps:List Str}{k:Nat}{g:GS}(F:N9 K x qual st f fd)(S:FnScope N ps (defScope st))
  (body:∀(cdv:ae0),FF K f cdv->∀(A:aeV)(outer:List Env)(s:aeZ)(H:Hp)(E:XK),kD k (A.deeper (envOfC qual (defScope st) s.heap.objs.size f cdv))->nL (tQ (CXJ P w) P w K mg base N qual (defScope st) f cdv A outer s H E) (defBody st) g) :
  FnOk P w K mg base (CXJ P w) (k+1) f fd ps (spW K ps.length (bL N.length g)):=by
 have hpl:ps.length<=N.length:=by have:=congrArg b7 S.pre;rw[lM] at this;omega
 obtain⟨oc,od,kV,doc,pm,an,cdv,ct,osl,rfl,lk,hcd⟩:=F.ex
 refine SD lk hcd S (λvs H Q E h=>?_) λA outer s H vs Q E hr h=>?_
 ·obtain⟨m,st',ws,_,r,hl,_⟩:=h
  rw[<-r.length];exact hl
 ·obtain⟨m,st',ws,S',r,hl,p⟩:=h
  refine⟨_,dJ,?_⟩
  refine body cdv ⟨_,lk,_,rfl,rfl⟩ A outer s H E hr _ st' _ H m _ S' (FE r (by omega)) ?_
  unfold bL at p
  cases e:g (ws.map some++aC (N.length - ws.length) none) st' with
  | nx ρ st2=>rw[e] at p;exact λσ m' H' e' S2 R2=>p _ m' H' e' S2 (by unfold ag;rfl)
  | rt w' st2=>rw[e] at p;exact p
  | bk ρ st2=>rw[e] at p;exact aa p
  | ct ρ st2=>rw[e] at p;exact aa p
  | err c ρ st2=>rw[e] at p;exact λσ m' H' x s' e' S2 R2 rz=>zE rz λC hC=>p m' H' C e' S2 hC
  | bad=>rw[e] at p;exact aa p
end
def OnlyT(H:Hp):Prop:=∀b,H b=none\/(∃o xs,H b=some (.dY o (.lst xs)))\/H b=some (.jC #[])
theorem OnlyT.of{H:Hp}(h:JN H):OnlyT H:=λb=>by
 rcases h b with q | q
 ·exact .inl q
 ·exact .inr (.inl q)
theorem law_sp{K:PySem.W.Frag}{F:List Wv->Hs->Re Wv}(h:∀ns:List Int,ns.length<=63->∃st,F [.ref 0] [.rH ns]= .ok (.bl true) st)(H:Hp)(a:aeU)(ns:List Int)(hl:ns.length<=63)(hO:OnlyT H)(hS:kC K H a (ns.map V.int))(hT:vJ K H) :
  spW K 1 F [.ref a] H (λv _=>v= .bl true) λ_ _ _=>False:=by
 obtain⟨st,e⟩:=h ns hl
 refine⟨[a],[.rH ns],[.ref 0],⟨rfl,λl b o h1 h2=>?_,λl l' b ws ws' _ _ h2 _ k _=>?_,hT⟩,ah.cons (by unfold ag;exact⟨a,rfl,rfl⟩) ah.nil,rfl,?_⟩
 ·cases l with
  | zero=>
   simp at h1 h2
   subst h1 h2
   show xA K H a ns
   rcases hS with (q | ⟨o',q⟩) | q
   ·rcases hO a with z | ⟨o',xs,z⟩ | z
    ·rw[z] at q;cases q
    ·rw[z] at q;cases q
    ·rw[z] at q;cases q
   ·exact .inl ⟨o',q⟩
   ·exact .inr q
  | succ l=>simp at h1
 ·cases l with
  | zero=>simp at h2;subst h2;simp[Ob.mu] at k
  | succ l=>simp at h2
 ·rw[e]
  intro v m' H' _ _ r
  unfold ag at r
  exact r
def FG(w:Wv)(st:Hs):Re Bool:=match w with
 | .aZ=> .ok false st
 | .bl b=> .ok b st
 | .int i=> .ok (i != 0) st
 | .str y=>if y.length<=lim then .ok ((y.length:Int) != 0) st else .bad
 | .tup ws=> .ok (!ws.isEmpty) st
 | .qh _=> .bad
 | .ref l=>match aq st l with
  | some ws=> .ok (!ws.isEmpty) st
  | none=> .bad
 | .ty _=> .bad
 | .cls _=> .bad
 | .xx _=> .bad
 | .fn _ _=> .bad
def iG(g:GE):GT:=λρ st=>(g ρ st).bind FG
section
variable {X:Cx}
theorem isE{m:Mp}{H:Hp}{ws:List Wv}{xs:List V}(r:ah X.K m H ws xs):(!ws.isEmpty)= !xs.isEmpty:=by
 have h:=r.length
 cases ws<;>cases xs<;>simp_all
theorem rO{e:Expr}{g:GE}(h:JE X e g)(he:∀whole,isTrue e X.env whole=(do let v <-whole;standAt e.pos;holding [v] (truthy v))):JT X e (iG g) :=
 JT.of (Ex aE he) λρ st σ H m Q S R p=>h.go S R (aw.bind p) λw st1 v m1 H1 p1 e1 S1 r1=>by
  cases w with
  | aZ=>unfold ag at r1;subst r1;exact⟨false,rfl,p1 m1 H1 e1 S1⟩
  | bl b=>unfold ag at r1;subst r1;exact⟨b,rfl,p1 m1 H1 e1 S1⟩
  | int i=>unfold ag at r1;subst r1;exact⟨_,rfl,p1 m1 H1 e1 S1⟩
  | str y=>
   obtain⟨rfl,_⟩:=dS r1
   have p2:jq X σ m H (if y.length<=lim then .ok ((y.length:Int) != 0) st1 else .bad) Q:=p1
   by_cases c:y.length<=lim
   ·rw[if_pos c] at p2;exact⟨_,⟨dR c,rfl⟩,p2 m1 H1 e1 S1⟩
   ·rw[if_neg c] at p2;exact aa p2
  | qh ws=>exact aa p1
  | tup ws=>
   unfold ag at r1
   obtain⟨a,xs,rfl,h1,h2⟩:=r1
   refine⟨!xs.isEmpty,.inr (.inl ⟨xs,ft.of h1,rfl⟩),?_⟩
   rw[<-isE h2]
   exact p1 m1 H1 e1 S1
  | ref l=>
   unfold ag at r1
   obtain⟨a,rfl,h1⟩:=r1
   have p2:jq X σ m H (match aq st1 l with | some ws=> .ok (!ws.isEmpty) st1 | none=> .bad) Q:=p1
   cases el:aq st1 l with
   | none=>rw[el] at p2;exact aa p2
   | some ws=>
    rw[el] at p2
    obtain⟨xs,hq,h2⟩:=S1.read h1 el
    refine⟨!xs.isEmpty,.inl ⟨xs,hq,rfl⟩,?_⟩
    rw[<-isE h2]
    exact p2 m1 H1 e1 S1
  | ty T=>exact aa p1
  | cls T=>exact aa p1
  | xx T=>exact aa p1
  | fn fp T=>exact aa p1
theorem xH{p:Nat->Bool}{x:Array Nat}(hx:x.all p=true):∀(n:Nat)(a:Array Nat),a.all p=true->((aC n x).foldl (· ++·) a).all p=true
 | 0,a,h=>h
 | n+1,a,h=>by
  rw[gy,EH]
  refine xH hx n _ ?_
  rw[Array.all_append,h,hx]
  rfl
theorem CY{x:PySem.Str}{n:Nat}(h:bo x=true):bo (xE n x)=true:=by
 unfold bo at h ⊢
 unfold xE
 exact xH h n #[] (by simp)
theorem uI{x:Array Nat}:∀(n:Nat)(a:Array Nat),((aC n x).foldl (· ++·) a).size=a.size+x.size * n
 | 0,a=>by simp
 | n+1,a=>by
  rw[gy,EH,uI n,Array.size_append,Nat.mul_succ]
  omega
theorem FH{x:PySem.Str}{n:Nat}:(xE n x).length=x.length * n:=by
 show((aC n x.cps).foldl (· ++·) #[]).size=x.cps.size * n
 rw[uI]
 simp
def uJ(x:PySem.Str)(n:Int):Prop:=1 < n/\n<=100000/\x.length≠0/\x.length * n.toNat<=lim
instance {x n}:Decidable (uJ x n):=by unfold uJ;infer_instance
theorem Kd:ef X (ae3 .Mult) (λx y H Q=>∃z n,x= .str z/\y= .int n/\uJ z n/\Q (.str (xE n.toNat z)) H):=by
 intro pins s σ H x y v u Q I rx ry h
 obtain⟨z,n,rfl,rfl,⟨h1,h2,h3,h4⟩,q⟩:=h
 obtain⟨t,rfl⟩:=rx
 obtain⟨t',rfl⟩:=ry
 have n1:¬n < 1:=by omega
 have hlen:z.length<=lim:=by
  refine ba ?_ h4
  exact Nat.le_mul_of_pos_right _ (by omega)
 have hne:(n == 1||z.length == 0)=false:=by
  have e1:(n == 1)=false:=by rw[beq_eq_false_iff_ne];omega
  have e2:(z.length == 0)=false:=by rw[beq_eq_false_iff_ne];exact h3
  rw[e1,e2];rfl
 have hl:PySem.Builtin.Str.tooLong (z.length * n.toNat)=false:=by
  unfold PySem.Builtin.Str.tooLong
  have q:=dR h4
  first
   | exact decide_eq_false (by omega)
   | simp only[decide_eq_false_iff_not];omega
 refine PySem.P.mul_str (by
   have e1:¬n < -(2 ^ 63:Int):=by omega
   have e2:¬n >= 2 ^ 63:=by omega
   rw[decide_eq_false e1,decide_eq_false e2];rfl) (λ_ _=>?_) (λ_ _=>hl) ?_
 ·have e:((2:Int) ^ 63 - 1) / 100000<=(2 ^ 63 - 1) / n:=by
   refine Int.le_ediv_of_mul_le (by omega) ?_
   have:((2:Int) ^ 63 - 1) / 100000 * n<=((2:Int) ^ 63 - 1) / 100000 * 100000:=Int.mul_le_mul_of_nonneg_left h2 (by decide)
   exact Int.le_trans this (by decide)
  have e':(1000000:Int)<=(2 ^ 63 - 1) / 100000:=by decide
  unfold lim at hlen
  omega
 ·rw[if_neg n1,if_neg (by rw[hne];exact bt)]
  exact⟨by show(xE n.toNat z).length<=_;rw[FH];exact dR h4,.str (xE n.toNat z),H,I.tok _,⟨_,rfl⟩,q⟩
def Mn:fS
 | .int i,.int j,st=>if IntMulOk i j then .ok (.int (i * j)) st else .bad
 | .str z,.int n,st=>if uJ z n then .ok (.str (xE n.toNat z)) st else .bad
 | _,_,_=> .bad
theorem Ke:jD X (ae3 .Mult) Mn:=⟨_,ef.or JX Kd,λx y a b st H m Q S rx ry p=>by
 cases x with
 | int i=>
  cases y with
  | int j=>
   cases aW rx;cases aW ry
   have p':cC X.K m H (if IntMulOk i j then .ok (.int (i * j)) st else .bad) Q:=p
   by_cases c:IntMulOk i j
   ·rw[if_pos c] at p';exact .inl ⟨i,j,rfl,rfl,c,p' _ m H Ext.refl S mkInt⟩
   ·rw[if_neg c] at p';exact aa p'
  | _=>exact aa p
 | str z=>
  cases y with
  | int n=>
   obtain⟨rfl,hz⟩:=dS rx
   cases aW ry
   have p':cC X.K m H (if uJ z n then .ok (.str (xE n.toNat z)) st else .bad) Q:=p
   by_cases c:uJ z n
   ·rw[if_pos c] at p';exact .inr ⟨z,n,rfl,rfl,c,p' _ m H Ext.refl S (mkStr (CY hz))⟩
   ·rw[if_neg c] at p';exact aa p'
  | _=>exact aa p
 | _=>exact aa p⟩
def bH:GE:=λ_ _=> .bad
def ju:GT:=λ_ _=> .bad
theorem aG{e:Expr}:JE X e bH:=λρ st σ H m Q S R p=>aa p
theorem i_{e:Expr}:JT X e ju:=λρ st σ H m Q S R p=>aa p
end
def eF(P:aeY)(w:ae1)(K:PySem.W.Frag)(mg:Str->Option ae0)(base:Heap)(k:Nat)(x:Str)(n:Nat)(F:List Wv->Hs->Re Wv):Prop :=
 ∃f fd ps,FnOk P w K mg base (CXJ P w) k f fd ps (spW K n F)/\mg x=some (.ref f)/\PySem.W.keepIn K (.ref f)=true/\Binds K fd ps []
theorem eF.mono{P:aeY}{w:ae1}{K:PySem.W.Frag}{mg:Str->Option ae0}{base:Heap}{j k:Nat}{x:Str}{n:Nat}{F:List Wv->Hs->Re Wv}(h:eF P w K mg base j x n F)(l:j<=k):eF P w K mg base k x n F:=by
 obtain⟨f,fd,ps,G,r⟩:=h
 exact⟨f,fd,ps,G.mono l,r⟩
def aX(K:PySem.W.Frag)(x:Str)(st:Stmt):Prop:=∃f fd,PySem.W.nsIn K afa x=some (some (.ref f))/\N9 K x x st f fd
theorem OO{K:PySem.W.Frag}{x:Str}{st:Stmt}{f:aeU}{oc:ae0}{od an:Option aeU}{osl:Array (Option ae0)}{kV doc pm cdv ct:ae0}(a:PySem.W.nsIn K afa x=some (some (.ref f)))
  (l:K.lookup f=some ⟨oc,od,.func (PySem.W.fnOf x x (defArgs st) (defBody st) (defScope st) .none kV doc pm an cdv ct),osl⟩)(c:PySem.W.codeIn K cdv x=true)(k:PySem.W.keepIn K (.ref f)=true):aX K x st:=⟨f,_,a,N_ l c k⟩
theorem FI:ae4 "isinstance"=some (.builtin "isinstance"):=by decide+kernel
theorem CZ:ae4 "abs"=some (.builtin "abs"):=by decide+kernel
theorem C0:ae4 "len"=some (.builtin "len"):=by decide+kernel
theorem FJ:ae4 "int"=some (.type "int"):=by decide+kernel
theorem FK:ae4 "str"=some (.type "str"):=by decide+kernel
theorem FO:ae4 "bool"=some (.type "bool"):=by decide+kernel
theorem xI:ae4 "tuple"=some (.type "tuple"):=by decide+kernel
theorem xJ:ae4 "list"=some (.type "list"):=by decide+kernel
def fc(i:Nat)(gb:GS):List Wv->bD->Hs->Rs
 | [],ρ,st=> .nx ρ st
 | w::r,ρ,st=>match gb (ρ.set i (some w)) st with
  | .nx ρ' st'=>fc i gb r ρ' st'
  | .ct ρ' st'=>fc i gb r ρ' st'
  | .bk ρ' st'=> .nx ρ' st'
  | .rt w st'=> .rt w st'
  | .err c ρ' st'=> .err c ρ' st'
  | .bad=> .bad
section
variable {X:Cx}
theorem jv(i:Nat){body:List Stmt}{gb:GS}(hb:nL X body gb){J':It}{ws:List Wv}{m1:Mp}{H1:Hp}{st1:Hs}{ρ:bD}{σ:St}{D:Ends}(S1:bq X.K m1 st1 H1)(R:az X.K m1 H1 ρ σ)(p1:aA X m1 H1 (fc i gb ws ρ st1) D)
  (hgo:∀(k:Nat)(H:Hp)(m':Mp),Ext X.K m1 H1 m' H->k < ws.length->J'.go k H)(hstop:∀(k:Nat)(H:Hp)(m':Mp),Ext X.K m1 H1 m' H->k=ws.length->J'.stop k H)
  (hy:∀(k:Nat)(hk:k < ws.length)(H:Hp)(x:V)(H':Hp)(m':Mp),Ext X.K m1 H1 m' H->J'.xl k H x H'->H'=H/\ag X.K m' H ws[k] x) :
  ∃W:Nat->Nat->St->Hp->Prop,(∃m,W 0 m σ H1)/\∀k n σ H,W k n σ H->
   (J'.stop k H/\D.nx σ H)\/(J'.go k H/\∃N:St->Hp->Prop,(∀σ' H',N σ' H'->∃m',m' < n/\W (k+1) m' σ' H')/\∀x H',J'.xl k H x H'->xk i x σ H' λσ2 H2=>VU X body { D with nx:=N,ct:=N,bk:=D.nx } σ2 H2):=by
 let Pv:Nat->St->Hp->Prop:=λk σ H=>∃ρ st m',Ext X.K m1 H1 m' H/\bq X.K m' st H/\az X.K m' H ρ σ/\aA X m' H (fc i gb (ws.drop k) ρ st) D
 refine⟨λk n σ H=>n=ws.length - k/\k<=ws.length/\Pv k σ H,⟨ws.length,by simp,bJ _,ρ,st1,m1,Ext.refl,S1,R,p1⟩,?_⟩
 rintro k n σ2 H2 ⟨rfl,hk,ρ2,st2,m2,e2,S2,R2,p2⟩
 by_cases hlt:k < ws.length
 ·refine .inr ⟨hgo k H2 m2 e2 hlt,Pv (k+1),λσ' H' p'=>⟨ws.length - (k+1),by omega,rfl,hlt,p'⟩,λx H' y=>?_⟩
  obtain⟨ee,pq⟩:=hy k hlt H2 x H' m2 e2 y
  subst ee
  have ed:ws.drop k=ws[k]::ws.drop (k+1):=pv hlt
  rw[ed] at p2
  refine hb _ st2 _ _ m2 _ S2 (R2.set i pq) ?_
  unfold fc at p2
  cases eg:gb (ρ2.set i (some ws[k])) st2 with
  | nx ρ3 st3=>rw[eg] at p2;exact λσ3 m3 H3 e3 S3 R3=>⟨ρ3,st3,m3,e2.trans e3,S3,R3,aA.shift p2 e3⟩
  | ct ρ3 st3=>rw[eg] at p2;exact λσ3 m3 H3 e3 S3 R3=>⟨ρ3,st3,m3,e2.trans e3,S3,R3,aA.shift p2 e3⟩
  | bk ρ3 st3=>rw[eg] at p2;exact p2
  | rt w3 st3=>rw[eg] at p2;exact p2
  | err c3 ρ3 st3=>rw[eg] at p2;exact p2
  | bad=>rw[eg] at p2;exact p2
 ·have e:k=ws.length:=by omega
  subst e
  rw[rP] at p2
  exact .inl ⟨hstop _ H2 m2 e2 rfl,p2 σ2 m2 H2 Ext.refl S2 R2⟩
def XD(K:PySem.W.Frag)(tl:TE):TI:=λσ H R=>tl σ H λx H1=>∃a,x= .ref a/\(((∃xs,kC K H1 a xs)/\R (Xd K a) H1)\/((∃xs,ft K H1 a xs)/\R (Itt K a) H1))
theorem FP{tg l:Expr}{tl:TE}(hl:PE X l tl):PI X tg l (XD X.K tl):=by
 intro pins s σ H R I h
 refine a7 (hl pins s σ H _ I h) λv s1 ⟨x,H1,I1,r1,q1⟩=>?_
 obtain⟨a,e,q1⟩:=q1
 subst e
 cases r1
 have frs:∀b∈[s1.heap.objs.size],iE X pins H1 b:=λb hb=>by
  have e:b=s1.heap.objs.size:=by simpa using hb
  subst e
  exact I1.vo (ao _) (I1.hok.fresh (ao _))
 rcases q1 with ⟨⟨xs,hq⟩,q⟩ | ⟨⟨xs,hq⟩,q⟩
 ·obtain⟨its,rv,p,hz⟩:=I1.list hq
  refine wpAny_pyIter_list p.isList ?_
  exact⟨s1.heap.objs.size,[s1.heap.objs.size],_,_,H1,rfl,I1.kept (t':=s1.toks) λb o e=>aS _ e,uv a _,⟨_,br _ rfl,rfl,rfl⟩,frs,q⟩
 ·obtain⟨its,rv,p,hz⟩:=I1.tuple hq
  refine wpAny_pyIter_tuple (show s1.heap.IsTuple a its.toArray from p) ?_
  exact⟨s1.heap.objs.size,[s1.heap.objs.size],_,_,H1,rfl,I1.kept (t':=s1.toks) λb o e=>aS _ e,zg a _,⟨_,br _ rfl,rfl,rfl⟩,frs,q⟩
def zF(i:Nat)(gi:GE)(gb:GS):GS:=λρ st=>(gi ρ st).a7 ρ λw st1=>match w with
 | .ref l=>(match aq st1 l with | some ws=>forL i gb l ws ws ρ st1 | none=> .bad)
 | .tup ws=>fc i gb ws ρ st1
 | .qh ws=>fc i gb ws ρ st1
 | _=> .bad
theorem zG(i:Nat){x:Str}{iter:Expr}{body:List Stmt}{gi:GE}{gb:GS}{pos pos':Pos}(hN:X.N.Nodup)(hp:PassesOwn (model X.prog X.w) X.A X.env X.xe)(hc:X.calm=true)(hi:JE X iter gi)(hb:nL X body gb)
  (hx:X.N[i]? =some x)(hlo:Loc X.env.scope x)(OP:X.fn x=true\/X.env.scope.names.lookup x=some .local)
  (hs:∀x,ae8 iter X.env x=pure x):JS X (.For (.Name x pos') iter body [] pos) (zF i gi gb):=by
 refine JS.of (mL hp hc (FP aE) (lJ hN hx hlo OP) dJ hs) λρ st σ H m D S R p=>?_
 refine hi.go S R (aA.bW R p) λw st1 v m1 H1 p1 e1 S1 rw'=>?_
 cases w with
 | ref l=>
  have p1':aA X m H (match aq st1 l with | some ws=>forL i gb l ws ws ρ st1 | none=> .bad) D:=p1
  unfold ag at rw'
  obtain⟨a,rfl,hla⟩:=rw'
  cases el:aq st1 l with
  | none=>rw[el] at p1';exact aa p1'
  | some ws=>
   rw[el] at p1'
   obtain⟨zd,q0,_⟩:=S1.read hla el
   refine⟨a,rfl,.inl ⟨⟨zd,q0⟩,?_⟩⟩
   let Pv:Nat->St->Hp->Prop:=λk σ H=>∃ρ st m',Ext X.K m1 H1 m' H/\bq X.K m' st H/\az X.K m' H ρ σ/\aq st l=some ws/\aA X m' H (forL i gb l ws (ws.drop k) ρ st) D
   refine⟨λk n σ H=>n=ws.length - k/\k<=ws.length/\Pv k σ H,⟨ws.length,by simp,bJ _,ρ,st1,m1,Ext.refl,S1,R.mono e1,el,aA.shift p1' e1⟩,?_⟩
   rintro k n σ2 H2 ⟨rfl,hk,ρ2,st2,m2,e2,S2,R2,l2,p2⟩
   obtain⟨xs,hq,rws⟩:=S2.read (e2.pre _ _ hla) l2
   have hlen:=rws.length
   by_cases hlt:k < ws.length
   ·have hx':k < xs.length:=by omega
    refine .inr ⟨⟨xs,xs[k],hq,by simp[hx']⟩,Pv (k+1),λσ' H' p'=>⟨ws.length - (k+1),by omega,rfl,hlt,p'⟩,λx H' y=>?_⟩
    obtain⟨ee,y⟩:=y
    subst ee
    have ey:=y xs hq
    have ed:ws.drop k=ws[k]::ws.drop (k+1):=pv hlt
    obtain⟨x',ex',pq⟩:=rws.get (i:=k) (w:=ws[k]) (cu hlt)
    rw[ey] at ex'
    cases ex'
    rw[ed] at p2
    refine hb _ st2 _ _ m2 _ S2 (R2.set i pq) ?_
    unfold forL at p2
    cases eg:gb (ρ2.set i (some ws[k])) st2 with
    | nx ρ3 st3=>
     rw[eg] at p2
     by_cases c:aq st3 l=some ws
     ·simp only[if_pos c] at p2
      exact λσ3 m3 H3 e3 S3 R3=>⟨ρ3,st3,m3,e2.trans e3,S3,R3,c,aA.shift p2 e3⟩
     ·simp only[if_neg c] at p2;exact aa p2
    | ct ρ3 st3=>
     rw[eg] at p2
     by_cases c:aq st3 l=some ws
     ·simp only[if_pos c] at p2
      exact λσ3 m3 H3 e3 S3 R3=>⟨ρ3,st3,m3,e2.trans e3,S3,R3,c,aA.shift p2 e3⟩
     ·simp only[if_neg c] at p2;exact aa p2
    | bk ρ3 st3=>rw[eg] at p2;exact p2
    | rt w3 st3=>rw[eg] at p2;exact p2
    | err c3 ρ3 st3=>rw[eg] at p2;exact p2
    | bad=>rw[eg] at p2;exact p2
   ·have e:k=ws.length:=by omega
    subst e
    rw[rP] at p2
    exact .inl ⟨⟨xs,hq,by omega⟩,p2 σ2 m2 H2 Ext.refl S2 R2⟩
 | tup ws=>
  unfold ag at rw'
  obtain⟨a,xs,rfl,hq,rws⟩:=rw'
  have hlen:=rws.length
  refine⟨a,rfl,.inr ⟨⟨xs,ft.of hq⟩,?_⟩⟩
  refine jv i hb (ws:=ws) S1 (R.mono e1) (aA.shift p1 e1) (λk H m' e hk=>?_) (λk H m' e hk=>?_) λk hk H x H' m' e y=>?_
  ·have hx':k < xs.length:=by omega
   exact⟨xs,xs[k],ft.of (e.tup _ _ hq),by simp[hx']⟩
  ·exact⟨xs,ft.of (e.tup _ _ hq),by omega⟩
  ·obtain⟨ee,y⟩:=y
   refine⟨ee,?_⟩
   obtain⟨x',ex',pq⟩:=(ah.mono e _ _ rws).get (i:=k) (w:=ws[k]) (cu hk)
   rw[y xs (ft.of (e.tup _ _ hq))] at ex'
   cases ex'
   exact pq
 | qh ws=>
  unfold ag at rw'
  obtain⟨a,xs,rfl,hq,rws⟩:=rw'
  have hlen:=rws.length
  refine⟨a,rfl,.inr ⟨⟨xs,.inr hq⟩,?_⟩⟩
  refine jv i hb (ws:=ws) S1 (R.mono e1) (aA.shift p1 e1) (λk H m' e hk=>?_) (λk H m' e hk=>?_) λk hk H x H' m' e y=>?_
  ·have hx':k < xs.length:=by omega
   exact⟨xs,xs[k],.inr hq,by simp[hx']⟩
  ·exact⟨xs,.inr hq,by omega⟩
  ·obtain⟨ee,y⟩:=y
   refine⟨ee,?_⟩
   obtain⟨x',ex',pq⟩:=(ah.mono e _ _ rws).get (i:=k) (w:=ws[k]) (cu hk)
   rw[y xs (.inr hq)] at ex'
   cases ex'
   exact pq
 | _=>exact aa p1
def dD(lo:Int)(n:Nat):List Wv:=(gq n).map λk:Nat=>Wv.int (lo+k)
theorem pz{lo:Int}{n k:Nat}(h:k < n):(dD lo n)[k]? =some (.int (lo+k)):=by
 unfold dD
 rw[dQ,List.getElem?_range h]
 rfl
theorem xK{lo:Int}{n k:Nat}(h:k < (dD lo n).length):(dD lo n)[k]= .int (lo+k):=by
 have q:=pz (lo:=lo) (n:=n) (k:=k) (by unfold dD at h;simpa using h)
 rw[cu h] at q
 exact Option.some.inj q
theorem dE{lo:Int}{n:Nat}:(dD lo n).length=n:=by unfold dD;simp
def mV(i:Int):Prop:=-(2 ^ 62)<=i/\i < 2 ^ 62
instance {i}:Decidable (mV i):=FQ _
def pA(i:Nat)(ga:GA)(gb:GS):GS:=λρ st=>(ga ρ st).a7 ρ λws st1=>match ws with
 | [.int j]=>if mV j then fc i gb (dD 0 j.toNat) ρ st1 else .bad
 | _=> .bad
theorem Kf(i:Nat){body:List Stmt}{gb:GS}(hb:nL X body gb){lo:Int}{n:Nat}{m1:Mp}{H1:Hp}{st1:Hs}{ρ:bD}{σ:St}{D:Ends}(S1:bq X.K m1 st1 H1)(R:az X.K m1 H1 ρ σ)(p1:aA X m1 H1 (fc i gb (dD lo n) ρ st1) D) :
  ∃W:Nat->Nat->St->Hp->Prop,(∃m,W 0 m σ H1)/\∀k n' σ H,W k n' σ H->
   ((NG lo n).stop k H/\D.nx σ H)\/((NG lo n).go k H/\∃N:St->Hp->Prop,(∀σ' H',N σ' H'->∃m',m' < n'/\W (k+1) m' σ' H')/\∀x H',(NG lo n).xl k H x H'->xk i x σ H' λσ2 H2=>VU X body { D with nx:=N,ct:=N,bk:=D.nx } σ2 H2) :=
 jv i hb S1 R p1 (λk H m' e hk=>by rw[dE] at hk;exact hk) (λk H m' e hk=>by rw[dE] at hk;exact nX hk.symm) λk hk H x H' m' e y=>by
  obtain⟨y1,y2⟩:=y
  refine⟨y1,?_⟩
  rw[xK,y2]
  exact mkInt
theorem FR(i:Nat){x:Str}{a:Expr}{body:List Stmt}{ga:GA}{gb:GS}{pos pos' p q:Pos}(hN:X.N.Nodup)(hp:PassesOwn (model X.prog X.w) X.A X.env X.xe)(hc:X.calm=true)(hg:Gl X "range")(hm:X.mg "range"=none)(ha:JA X [a] ga)(hb:nL X body gb)
  (hx:X.N[i]? =some x)(hlo:Loc X.env.scope x)(OP:X.fn x=true\/X.env.scope.names.lookup x=some .local)(hst:afc [a] X.env=[(false,eval a X.env)]):JS X (.For (.Name x pos') (.Call (.Name "range" p) [a] [] q) body [] pos) (pA i ga gb):=by
 refine JS.of (mL hp hc (uw hg hm mC hst) (lJ hN hx hlo OP) dJ (λ_=>rfl)) λρ st σ H m D S R p=>?_
 refine ha.go S R (aA.bW R p) λws st1 vs m1 H1 p1 e1 S1 rs=>?_
 match ws,rs,p1 with
 | [],rs,p1=>exact aa p1
 | x::y::t,rs,p1=>cases x<;>exact aa p1
 | [x],rs,p1=>
  obtain⟨v,rfl,r1⟩:=kH rs
  cases x with
  | int j=>
   cases aW r1
   have p2:aA X m H (if mV j then fc i gb (dD 0 j.toNat) ρ st1 else .bad) D:=p1
   by_cases c:mV j
   ·rw[if_pos c] at p2
    exact⟨j,rfl,c.1,c.2,Kf i hb S1 (R.mono e1) (aA.shift p2 e1)⟩
   ·rw[if_neg c] at p2;exact aa p2
  | _=>exact aa p1
theorem Kh{pos:Pos}:JS X (.Return none pos) (aU (gC .aZ)):=JS.of Jq λρ st σ H m D S R p=>p .aZ m H Ext.refl S xD
end
abbrev C2:List ae0:=[.type "ValueError",.type "Exception",.type "BaseException",.type "object"]
abbrev C3:String:="ValueError.__new__"
structure FT(K:PySem.W.Frag)(c:PySem.Str)(C:aeU):Prop where
 cls:ClsAt K c C
 exc:PySem.W.excIn K C C2 C3=true
theorem oo{K:PySem.W.Frag}{h:Heap}{C:aeU}(KX:K.In h)(q:PySem.W.excIn K C C2 C3=true) :
  ∃(bm:List ae0)(N:aeU)(nm qn:Str)(bs:List ae0)(hd:Bool)(sn:List Str)(sub:List ae0)(ab:Bool)(col:Option Bool)(dd:Option aeU)(k0 k1 k2 k3 k5:Option ae0)(mN:Str->Option ae0),
   h.get? C=some (excClassObj nm qn C N bs bm hd sn sub ab col dd k0 k1 k2 k3 k5 C3)/\h.Ns N mN/\mN "__init__"=none/\OwnTail h C2 bm/\(∀v r,PySem.W.mroIn K C v=some r->(ax C::bm).contains v=r):=by
 unfold PySem.W.excIn at q
 split at q
 ·rename_i dd cd sl lk
  split at q
  ·rename_i C1 bm k0 k1 k2 k3 n1 k5 em es
   simp only[dZ,beq_iff_eq,Bool.not_eq_true'] at q
   obtain⟨⟨⟨⟨⟨q1,q2⟩,q3⟩,q4⟩,q5⟩,q6⟩:=q
   subst q1 q2
   obtain⟨nm,bs,mro,N,qn,hd,sn,sub,ab,col,del⟩:=cd
   dsimp only at em q3 q5 q6
   subst em q3
   have esl:sl=#[k0,k1,k2,k3,some (.builtin C3),k5]:=by
    cases sl with
    | mk l=>exact congrArg Array.mk es
   subst esl
   refine⟨bm,N,nm,qn,bs,hd,sn,sub,ab,col,dd,k0,k1,k2,k3,k5,_,KX _ _ lk,.of_isNs (PySem.W.isNs_of_in KX q5),PySem.W.nsMap_none_of_in KX q5 q6,PySem.W.tail_of_in KX q4,λv r e=>?_⟩
   unfold PySem.W.mroIn PySem.W.clsIn at e
   rw[lk] at e
   first
    | exact Option.some.inj e
    | (simp at e;exact e)
  ·cases q
 ·cases q
section
variable {X:Cx}
def mW(c:PySem.Str)(ga:GA):GS:=λρ st=>(ga ρ st).a7 ρ λws st1=>if ws.length<=lim then .err c ρ st1 else .bad
theorem FU{c:Str}{C:aeU}{e:Expr}{es:List Expr}{ga:GA}{np cpos pos:Pos}(hc:X.calm=true)(O:FT X.K c C)(hg:Gl X c)(hm:X.mg c=some (.ref C))(ha:JA X (e::es) ga)(hd:(c == ("__debug__":Str))=false)
  (he:afc (e::es) X.env=(false,eval e X.env)::afc es X.env)(hpl:(backTo cpos (afc es X.env)).any (·.1)=false):JS X (.Raise (some (.Call (.Name c np) (e::es) [] cpos)) none pos) (mW c ga):=by
 intro ρ st σ H m D S R p pins s I
 have args:=ha.go (T:=λvs H1=>∃ws st1 m1,aA X m H (if ws.length<=lim then .err c ρ st1 else .bad) D/\Ext X.K m H m1 H1/\bq X.K m1 st1 H1/\ah X.K m1 H1 ws vs) S R (aA.bW R p)
  λws st1 vs m1 H1 p1 e1 S1 rs=>⟨ws,st1,m1,p1,e1,S1,rs⟩
 obtain⟨bm,N,nm,qn,bs,TK,sn,sub,ab,col,dd,k0,k1,k2,k3,k5,mN,hC,hN,hni,T,_⟩:=oo I.ok.mod.RY O.exc
 refine wpAny_Raise_call_subU (C:=C) (nm:=nm) (q:=qn) (N:=N) (bs:=bs) (bm:=bm) (hdct:=TK) (sn:=sn) (sub:=sub) (ab:=ab) (col:=col) (dd:=dd) (k0:=k0) (k1:=k1) (k2:=k2) (k3:=k3) (k5:=k5) (bmB:=C2)
  F.excBase_ValueError (by decide) F.excBase_ValueError (mN:=mN) (T.hasType F.excBase_ValueError.hasBase) (I.ok.hd hc) ?_ hni (vn I hg hm ⟨rfl,?_⟩ hd)
 ·rw[he]
  show(false||(backTo cpos (afc es X.env)).any (·.1))=false
  rw[hpl]
  rfl
 ·have go:=args cpos pins s I
  rw[he] at go ⊢
  refine mQ (a7 go λus s1 ⟨vs,H1,I1,r,ws,st1,m1,p1,e1,S1,rs⟩=>?_)
  by_cases cl:ws.length<=lim
  ·rw[if_pos cl] at p1
   refine⟨rfl,by rw[<-r.length,<-rs.length];exact dR cl,I1.bk _ _ hC,hN.keeps I1.bk,T.keeps I1.bk,λh2 a M=>?_⟩
   exact p1 σ m1 H1 _ _ e1 S1 (R.mono e1) ⟨C,pins,H1,s1,O.cls,I1,.inr ⟨rfl,a,us,rfl,rfl,rfl,M⟩⟩
  ·rw[if_neg cl] at p1;exact aa p1
end
structure kI(K:PySem.W.Frag)(C:aeU):Prop where
 exc:PySem.W.excIn K C C2 C3=true
 ga:PySem.W.findIn K (.ref C) "__getattribute__"=some (some (.builtin "BaseException.__getattribute__"))
 gx:PySem.W.findIn K (.ref C) "__getattr__"=some none
 cl:PySem.W.findIn K (.ref C) "__class__"=some (some (.builtin "object.__class__"))
section
variable {prog:aeY} {w:ae1} {A:aeV} {E:ae0->aeZ->Prop} {h:Heap} {g:Array GenState} {d:Drawn} {t:Nat} {os:OsState} {a C:aeU} {o:Obj} {K:PySem.W.Frag}
theorem OQ{R:Result->aeZ->Prop}(Y:K.In h)(Z:kI K C)(ha:h.get? a=some o)(hc:o.cls= .ref C)(k:R (.ok (.ret (.ref C))) ⟨h,g,d,t,os⟩) :
  ae5 (model prog w) A (.call (.builtin "getset_descriptor.__get__") ⟨[.builtin "object.__class__",.ref a,.ref C],[]⟩) R ⟨h,g,d,t,os⟩:=by
 obtain⟨bm,N,nm,qn,bs,TK,sn,sub,ab,col,dd,k0,k1,k2,k3,k5,mN,hC,hN,hni,T,_⟩:=oo Y Z.exc
 have ty:(⟨h,g,d,t,os⟩:aeZ).TypeIs (.builtin "object.__class__") "getset_descriptor":=FV
 have own:(ax C::bm).contains (.type (".".intercalate ("object.__class__".cutAt '.').dropLast))=true:=by
  rw[F.owner_object_class,FW,T.hasType (X:="object") (b:=true) (by decide)];rfl
 refine codeAny_call_builtin F.slot_gs_get.plain F.entry_gs_get (F.slot_gs_get.check _ _ _ _ _ _ _ _ ty (F.args_gs_get _ _ _) ?_)
 repeat (any_goals (first | assumption | (with_reducible refine wpAny_loadPart_at ha ?_;rw[hc]) | (with_reducible refine wpAny_isSubtype_exc hC ?_;rw[own]) | wp_step))
 refine⟨Code.quiet_builtin _ (by decide+kernel),codeAny_builtin F.entry_object_class ?_⟩
 repeat (any_goals (first | assumption | (with_reducible refine wpAny_loadPart_at ha ?_;rw[hc]) | wp_step))
theorem FX{tk:Tok}{Q:Fin->aeZ->Prop}(Y:K.In h)(Z:kI K C)(ha:h.get? a=some o)(hc:o.cls= .ref C)(k:Q (.done (.ret (.ref C))) ⟨h,g,d,t,os⟩) :
  afd (model prog w) A (Builtin.«object.__getattribute__» ⟨[.ref a,.str "__class__" tk],[]⟩) Q E ⟨h,g,d,t,os⟩:=by
 have ty:(⟨h,g,d,t,os⟩:aeZ).TypeIs (.builtin "object.__class__") "getset_descriptor":=FV
 have t1:=FV
 have t2:=F.slot_gs_get.lookup
 have t3:=F.slot_gs_set.lookup
 have L:=PySem.W.looks_findIn (M:=model prog w) Y Z.cl
 repeat (any_goals (first | assumption | (with_reducible refine wpAny_loadPart_at ha ?_;rw[hc]) | with_reducible refine L.at ?_ | wp_step))
 refine OQ Y Z ha hc ?_
 repeat (any_goals (first | assumption | wp_step))
theorem FY{M:Model}{nv:ae0}{Q:Unit->aeZ->Prop}(Y:K.In h)(Z:kI K C)(ha:h.get? a=some o)(hc:o.cls= .ref C)(k:Q () ⟨h,g,d,t,os⟩) :
  afd M A (checkBuiltinCall "BaseException.__getattribute__" ⟨[.ref a,nv],[]⟩) Q E ⟨h,g,d,t,os⟩:=by
 obtain⟨bm,N,nm,qn,bs,TK,sn,sub,ab,col,dd,k0,k1,k2,k3,k5,mN,hC,hN,hni,T,_⟩:=oo Y Z.exc
 have u1:builtinKind "BaseException.__getattribute__"=some .slot:=by decide+kernel
 have u2:splitId "BaseException.__getattribute__"=some ("BaseException","__getattribute__"):=by decide+kernel
 have u3:(ax C::bm).contains (.type "BaseException")=true:=by rw[FW,T.hasType (X:="BaseException") (b:=true) (by decide)];rfl
 have u4:=F.args_bexc_ga (.ref a) nv
 simp only[checkBuiltinCall,u1,u2]
 refine afe ?_
 unfold isInstance
 repeat (first | (with_reducible refine wpAny_loadPart_at ha ?_;rw[hc]) | (with_reducible refine wpAny_isSubtype_exc hC ?_;rw[u3]) | wp_step)
 exact k
theorem TL{tk:Tok}{Q:ae0->aeZ->Prop}(Y:K.In h)(Z:kI K C)(ha:h.get? a=some o)(hc:o.cls= .ref C)(k:Q (.ref C) ⟨h,g,d,t,os⟩) :
  afd (model prog w) A (getAttrBy (.ref a) (.str "__class__" tk) false) Q E ⟨h,g,d,t,os⟩:=by
 have v1:=F.excAttr_ValueError.ga.bind (.ref a)
 have v2:(jM "BaseException.__getattribute__" == jM "object.__getattribute__")=false:=by decide+kernel
 have v3:(onTheHeap (ax C)&&jM "BaseException.__getattribute__" == jM "object.__getattribute__")=false:=by rw[v2];rfl
 have v4:(false&&onTheHeap (jM "BaseException.__getattribute__"))=false:=rfl
 have L1:=PySem.W.looks_findIn (M:=model prog w) Y Z.ga
 have L2:=PySem.W.looks_findIn (M:=model prog w) Y Z.gx
 repeat (any_goals (first | assumption | (with_reducible refine wpAny_loadPart_at ha ?_;rw[hc]) | with_reducible refine L1.at ?_ | with_reducible refine L2.at ?_ | wp_step))
 refine codeAny_call_builtin F.excAttr_ValueError.ga.plain F.entry_bexc_ga (FY Y Z ha hc (FX Y Z ha hc ?_))
 repeat (any_goals (first | assumption | wp_step))
theorem Ki{Q:Option ae0->aeZ->Prop}(Y:K.In h)(Z:kI K C)(ha:h.get? a=some o)(hc:o.cls= .ref C)(k:Q (some (.ref C)) ⟨h,g,d,t+1,os⟩) :
  afd (model prog w) A (getAttr? (.ref a) "__class__") Q E ⟨h,g,d,t,os⟩:=by
 unfold getAttr? getAttrBy?
 repeat (any_goals (first | assumption | with_reducible apply TL Y Z ha hc | wp_step))
end
structure Stk(X:Cx):Prop where
 st:X.stack=X.env::X.outer
 fr:X.env.frame=some X.env.locals
 ex:X.ex=[]
theorem pB{P:aeY}{w:ae1}{H:Hp}{h:Heap}{a:aeU}{o:HO}(x:cH P w H h a o):∃u,h.get? a=some u:=by
 cases o with
 | lst xs=>obtain⟨_,_,_,_,e⟩:=x;exact⟨_,e⟩
 | tup xs=>obtain⟨_,_,_,⟨ob,e,_⟩,_⟩:=x;exact⟨_,e⟩
 | dK kvs=>obtain⟨_,_,_,_,ob,_,_,e,_⟩:=x;exact⟨_,e⟩
 | dT kvs=>obtain⟨_,_,_,_,ob,_,_,e,_⟩:=x;exact⟨_,e⟩
 | set S n=>obtain⟨ob,_,_,_,e,_⟩:=x;exact⟨_,e⟩
 | ins C dx fs=>obtain⟨_,_,_,e,_⟩:=x;exact⟨_,e⟩
 | own y=>exact x
 | xd fs=>obtain⟨_,⟨_,_,_,e,_⟩,_⟩:=x;exact⟨_,e⟩
 | VD lo hi=>obtain⟨_,_,_,e⟩:=x;exact⟨_,e⟩
 | dY ob u=>obtain⟨e,_⟩:=x;exact⟨_,e⟩
 | jC ps=>exact⟨_,x⟩
 | met f y=>exact⟨_,x⟩
 | ext φ=>exact x.2.1
def TM(o:Obj):Prop:=∃vs,o.data= .fields vs/\vs[2]? =some a_
section
variable {X:Cx} {pins:List (aeU×Obj)} {σ:St} {Hc H':Hp} {sc s':aeZ} {B h2:Heap} {a C:aeU} {a0:ae0} {ch:List aeU}
end
theorem xM{K:PySem.W.Frag}{a C:aeU}(Z:kI K C):PySem.W.KitX K (.ref a) (.ref C) (E5 a C) where
 ty:=λM h _ p=>by
  obtain⟨o,h1,h2,_⟩:=p
  rw[<-h2]
  exact(PySem.W.Looks.ld h1).andThen .now
 it:=λM h Y _=>by
  obtain⟨bm,N,nm,qn,bs,TK,sn,sub,ab,col,dd,k0,k1,k2,k3,k5,mN,hC,_⟩:=oo Y Z.exc
  intro A' Q' E' s' k q
  unfold isType loadHead
  exact afe (wpAny_loadPart (k _ _ hC) (afk q))
 ne:=λh tp dd its n sl Y e=>by
  obtain⟨bm,N,nm,qn,bs,TK,sn,sub,ab,col,EN,k0,k1,k2,k3,k5,mN,hC,_⟩:=oo Y Z.exc
  refine Bool.eq_false_iff.mpr λq=>?_
  have z:C=tp:=Value.ref.inj (beq_iff_eq.mp q)
  subst z
  rw[hC] at e
  have z2:lI "type"=lI "tuple":=congrArg Obj.cls (Option.some.inj e)
  exact absurd z2 (by decide)
 ca:=λ{prog w A E Q s} Y p k=>by
  obtain⟨o,h1,h2,_⟩:=p
  obtain⟨h,g,d,t,os⟩:=s
  exact Ki Y Z h1 h2 k
abbrev Tab:=List ((PySem.Str×PySem.Str)×Bool)
abbrev vR:=List ((PySem.Str×String)×Bool)
structure TabOk(K:PySem.W.Frag)(tb:Tab)(tt:vR)(tc:Tab):Prop where
 own:∀c d b C D,tb.lookup (c,d)=some b->ClsAt K c C->ClsAt K d D->kI K C/\PySem.W.kitOne K (.ref C) (.ref D)=some b
 cat:∀c d b C D,tc.lookup (c,d)=some b->ClsAt K c C->ClsAt K d D->PySem.W.excIn K C C2 C3=true/\PySem.W.excIn K D C2 C3=true/\PySem.W.mroIn K C (.ref D)=some b
 typ:∀c T b C,tt.lookup (c,T)=some b->ClsAt K c C->kI K C/\PySem.W.kitOne K (.ref C) (.type T)=some b
def pD(tb:Tab)(c:PySem.Str):List Wv->Option Bool
 | []=>some false
 | .cls d::r=>(match tb.lookup (c,d) with
  | some true=>some true
  | some false=>pD tb c r
  | none=>none)
 | _=>none
theorem uK{K:PySem.W.Frag}{m:Mp}{H:Hp}{tb:Tab}{tt:vR}{tc:Tab}(O:TabOk K tb tt tc){c:PySem.Str}{C:aeU}(hC:ClsAt K c C):∀{ds:List Wv}{vs:List V}{its:List ae0}{b:Bool},ah K m H ds vs->Vals vs its->pD tb c ds=some b->PySem.W.kitAny K (.ref C) its=some b
 | [],vs,its,b,r,v,e=>by
  unfold ah at r
  subst r
  cases v
  cases e
  rfl
 | w::ds,vs,its,b,r,v,e=>by
  unfold ah at r
  obtain⟨x,t,rfl,r1,r2⟩:=r
  cases v with
  | cons h1 h2=>
   cases w with
   | cls d=>
    unfold ag at r1
    obtain⟨D,rfl,hD⟩:=r1
    cases h1
    unfold pD at e
    unfold PySem.W.kitAny
    cases q:tb.lookup (c,d) with
    | none=>rw[q] at e;cases e
    | some k=>
     rw[q] at e
     obtain⟨_,z3⟩:=O.own c d k C D q hC hD
     rw[z3]
     cases k with
     | true=>cases e;rfl
     | false=>exact uK O hC r2 h2 e
   | _=>cases e
def fX(tb:Tab)(tt:vR):List Wv->Hs->Re Wv
 | [.xx c,.cls d],st=>(match tb.lookup (c,d) with | some b=> .ok (.bl b) st | none=> .bad)
 | [.xx c,.ty T],st=>(match tt.lookup (c,T) with | some b=> .ok (.bl b) st | none=> .bad)
 | [.xx c,.tup (.cls d::ds)],st=>(match pD tb c (.cls d::ds) with | some b=> .ok (.bl b) st | none=> .bad)
 | ws,st=>Ft ws st
section
variable {X:Cx}
theorem FZ:cA X (.builtin "isinstance") (λvs H Q=>∃a C v c b,vs=[.ref a,v]/\VT a C (H a)/\kI X.K C/\RelV v c/\PySem.W.kitOne X.K (.ref C) c=some b/\Q (.bl b) H):=by
 intro pins s σ H xs us Q I r h
 obtain⟨a,C,v,c,b,rfl,ha,Z,rc,e,q⟩:=h
 obtain⟨u,u',rfl,r1,r2⟩:=vals2 r
 cases r1
 have uc:u'=c:=by
  cases v with
  | int i=>obtain⟨t,rfl⟩:=rc;cases e
  | str i=>obtain⟨t,rfl⟩:=rc;cases e
  | RD i=>obtain⟨t,rfl⟩:=rc;cases e
  | VC i=>obtain⟨t,rfl⟩:=rc;cases e
  | aZ=>cases rc;cases r2;rfl
  | bl i=>cases rc;cases r2;rfl
  | ref i=>cases rc;cases r2;rfl
  | ty i=>cases rc;cases r2;rfl
 subst uc
 exact PySem.W.kia_one (xM Z) I.AK (L_ I.hok ha) e (by intro z;cases z) λtk=>⟨.bl b,H,I.tok tk,rfl,q⟩
theorem C4:cA X (.builtin "isinstance") (λvs H Q=>∃a C p xs b,vs=[.ref a,.ref p]/\VT a C (H a)/\kI X.K C/\ft X.K H p xs/\(∀its,Vals xs its->PySem.W.kitAny X.K (.ref C) its=some b)/\Q (.bl b) H):=by
 intro pins s σ H xs us Q I r h
 obtain⟨a,C,p,ys,b,rfl,ha,Z,hT,e,q⟩:=h
 obtain⟨u,u',rfl,r1,r2⟩:=vals2 r
 cases r1
 cases r2
 obtain⟨its,rv,⟨o,g1,g2,n,g3⟩,z⟩:=I.tuple hT
 obtain⟨oc,od,oda,osl⟩:=o
 cases g2
 cases g3
 exact PySem.W.kia_tup (xM Z) I.AK (L_ I.hok ha) g1 (e its rv) (by intro z;cases z) λtk=>⟨.bl b,H,I.tok tk,rfl,q⟩
theorem F0{tb:Tab}{tt:vR}{tc:Tab}(O:TabOk X.K tb tt tc):cO X (.builtin "isinstance") (fX tb tt):=by
 obtain⟨r,h1,h2⟩:=OL (X:=X)
 refine⟨_,FZ.or (C4.or h1),λws vs st H m Q S rs p=>?_⟩
 unfold fX at p
 split at p
 ·rename_i _ c d
  cases e:tb.lookup (c,d) with
  | none=>rw[e] at p;exact aa p
  | some b=>
   rw[e] at p
   obtain⟨v,v',rfl,r1,r2⟩:=Fq rs
   unfold ag at r1 r2
   obtain⟨a,C,rfl,hC,ha⟩:=r1
   obtain⟨D,rfl,hD⟩:=r2
   obtain⟨z1,z3⟩:=O.own c d b C D e hC hD
   exact .inl ⟨a,C,.ref D,.ref D,b,rfl,ha,z1,rfl,z3,p _ m H Ext.refl S g_⟩
 ·rename_i _ c T
  cases e:tt.lookup (c,T) with
  | none=>rw[e] at p;exact aa p
  | some b=>
   rw[e] at p
   obtain⟨v,v',rfl,r1,r2⟩:=Fq rs
   unfold ag at r1 r2
   obtain⟨a,C,rfl,hC,ha⟩:=r1
   subst r2
   obtain⟨z1,z3⟩:=O.typ c T b C e hC
   exact .inl ⟨a,C,.ty T,.type T,b,rfl,ha,z1,rfl,z3,p _ m H Ext.refl S g_⟩
 ·rename_i _ c d ds
  cases e:pD tb c (.cls d::ds) with
  | none=>rw[e] at p;exact aa p
  | some b=>
   rw[e] at p
   obtain⟨v,v',rfl,r1,r2⟩:=Fq rs
   unfold ag at r1
   obtain⟨a,C,rfl,hC,ha⟩:=r1
   have r2':=r2
   unfold ag at r2'
   obtain⟨t,xs,rfl,hT,rx⟩:=r2'
   have Z:kI X.K C:=by
    have pq:=rx
    unfold ah at pq
    obtain⟨x,r,_,rd,_⟩:=pq
    unfold ag at rd
    obtain⟨D,_,hD⟩:=rd
    unfold pD at e
    cases q:tb.lookup (c,d) with
    | none=>rw[q] at e;cases e
    | some k=>exact(O.own c d k C D q hC hD).1
   exact .inr (.inl ⟨a,C,t,xs,b,rfl,ha,Z,ft.of hT,λits hv=>uK O hC rx hv e,p _ m H Ext.refl S g_⟩)
 ·exact .inr (.inr (h2 ws vs st H m Q S rs p))
end
section
variable {X:Cx} {pins:List (aeU×Obj)} {σ:St} {H:Hp} {s:aeZ}
abbrev reX(X:Cx)(A':aeV)(cm:Bool)(pn:List (aeU×Obj))(E:ae0->aeZ->Prop):Cx:={ X with A:=A',calm:=cm,pn:=pn,xe:=E }
def OR(X:Cx):Prop:=X.A.handled=none\/∃a o u,X.A.handled=some (.ref a)/\TM o/\X.H₀ a=some (.dY o u)
def C5(A:aeV)(H:Hp):Prop:=A.handled=none\/∃a o u,A.handled=some (.ref a)/\TM o/\H a=some (.dY o u)
theorem OR.at(h:OR X)(I:Inv X pins σ H s):C5 X.A H:=h.imp id λ⟨a,o,u,h1,h2,h3⟩=>⟨a,o,u,h1,h2,I.base.nO _ _ _ h3⟩
end
section
variable {X:Cx}
theorem ph.er{A:aeV}{b:Bool}{E:ae0->aeZ->Prop}{pins ur:List (aeU×Obj)}{H H':Hp}{s s':aeZ}{cls e:ae0}(f:ph (reX X A b (X.pn++pins) E) ur H s H' cls e s'):ph X pins H s H' cls e s' :=
 let ⟨a,a0,nt,B,ch,e1,e2,e3,hch,r⟩:=f
 ⟨a,a0,nt,B,ch,e1,e2,e3,λb hb=>let ⟨h1,h2,h3,h4,h5,h6⟩:=hch b hb;⟨h1,h2,h3,h4,h5,λp hp=>h6 p (nR _ hp)⟩,r⟩
end
section
variable {X:Cx}
def TN:List Wv->Hs->Re Wv
 | [.int i],st=>if i.natAbs.log2 < 1920 then .ok (.str (toString i:String)) st else .bad
 | _,_=> .bad
def pE(o v:Wv)(st:Hs):Re Wv:=match o with
 | .ref l=>(match st[l]? with
  | some (.lst ws)=>if ws.length < lim then .ok .aZ (st.set l (.lst (ws++[v]))) else .bad
  | _=> .bad)
 | _=> .bad
def TQ(o v:Wv)(st:Hs):Re Wv:=match o,v with
 | .ref l,.ref k=>(match st[l]?,st[k]? with
  | some (.lst ws),some (.lst zs)=>if ws.length+zs.length<=lim then .ok .aZ (st.set l (.lst (ws++zs))) else .bad
  | _,_=> .bad)
 | _,_=> .bad
def qk(mt:Wv->Wv->Hs->Re Wv)(go ga:GE):GE:=λρ st=>(go ρ st).bind λo st1=>match o with
 | .ref l=>(match aq st1 l with
  | some _=>(ga ρ st1).bind λv st2=>(mt o v st2).oW
  | none=> .bad)
 | _=> .bad
def VW(X:Cx)(id:String)(mt:Wv->Wv->Hs->Re Wv):Prop:=∃r,Xo X id r/\∀(o w:Wv)(x v:V)(st:Hs)(H:Hp)(m:Mp)(Q:VK),bq X.K m st H->ag X.K m H o x->ag X.K m H w v->cC X.K m H (mt o w st) Q->r x [v] H Q
theorem F2:VW X "list.append" pE:=⟨_,CI,λo w x v st H m Q S ro rw' p=>by
 cases o with
 | ref l=>
  unfold ag at ro
  obtain⟨a,rfl,ha⟩:=ro
  have p':cC X.K m H (match st[l]? with | some (.lst ws)=>if ws.length < lim then .ok .aZ (st.set l (.lst (ws++[w]))) else .bad | _=> .bad) Q:=p
  cases e:st[l]? with
  | none=>rw[e] at p';exact aa p'
  | some ob=>
   cases ob with
   | dct kvs=>rw[e] at p';exact aa p'
   | bu kvs=>rw[e] at p';exact aa p'
   | fW kvs=>rw[e] at p';exact aa p'
   | rH ns=>rw[e] at p';exact aa p'
   | lst ws=>
    rw[e] at p'
    dsimp only at p'
    by_cases c:ws.length < lim
    ·rw[if_pos c] at p'
     obtain⟨xs,h1,h2⟩:=S.og ha e
     have e4:Ext X.K m H m (upd H a (.lst (xs++[v]))):=Ext.upd (.inr ⟨xs,h1⟩)
     exact⟨a,xs,v,rfl,rfl,h1,by rw[<-h2.length];exact vM c,p' _ m _ e4 (S.write ha e (h2.append (ah.cons rw' ah.nil))) xD⟩
    ·rw[if_neg c] at p';exact aa p'
 | _=>exact aa p⟩
theorem OS:VW X "list.extend" TQ:=⟨_,CJ,λo w x v st H m Q S ro rw' p=>by
 cases o with
 | ref l=>
  cases w with
  | ref k=>
   unfold ag at ro rw'
   obtain⟨a,rfl,ha⟩:=ro
   obtain⟨b,rfl,hb⟩:=rw'
   have p':cC X.K m H (match st[l]?,st[k]? with | some (.lst ws),some (.lst zs)=>if ws.length+zs.length<=lim then .ok .aZ (st.set l (.lst (ws++zs))) else .bad | _,_=> .bad) Q:=p
   cases e:st[l]? with
   | none=>rw[e] at p';exact aa p'
   | some ob=>
    cases ob with
    | dct kvs=>rw[e] at p';exact aa p'
    | bu kvs=>rw[e] at p';exact aa p'
    | fW kvs=>rw[e] at p';exact aa p'
    | rH ns=>rw[e] at p';exact aa p'
    | lst ws=>
     cases e2:st[k]? with
     | none=>rw[e,e2] at p';exact aa p'
     | some ob2=>
      cases ob2 with
      | dct kvs=>rw[e,e2] at p';exact aa p'
      | bu kvs=>rw[e,e2] at p';exact aa p'
      | fW kvs=>rw[e,e2] at p';exact aa p'
      | rH ns=>rw[e,e2] at p';exact aa p'
      | lst zs=>
       rw[e,e2] at p'
       dsimp only at p'
       by_cases c:ws.length+zs.length<=lim
       ·rw[if_pos c] at p'
        obtain⟨xs,h1,h2⟩:=S.og ha e
        obtain⟨ys,g1,g2⟩:=S.og hb e2
        have e4:Ext X.K m H m (upd H a (.lst (xs++ys))):=Ext.upd (.inr ⟨xs,h1⟩)
        exact⟨a,b,xs,ys,rfl,rfl,h1,g1,by rw[<-h2.length,<-g2.length];exact dR c,p' _ m _ e4 (S.write ha e (h2.append g2)) xD⟩
       ·rw[if_neg c] at p';exact aa p'
  | _=>exact aa p
 | _=>exact aa p⟩
theorem A7{x name:Str}{id:String}{e:Expr}{go ga:GE}{p apos cpos:Pos}{mt:Wv->Wv->Hs->Re Wv}(hm:VW X id mt)(slot:Slot "list" name id)(hty:typeOf (.builtin id)=pure (.type "method_descriptor"))(ho:JE X (.Name x p) go)(ha:JE X e ga)
  (hst:afc [e] X.env=[(false,eval e X.env)])(hline:(apos.endLine == cpos.line)=true):JE X (.Call (.Attribute (.Name x p) name apos) [e] [] cpos) (qk mt go ga):=by
 obtain⟨r,h1,h2⟩:=hm
 have hfew:((backTo cpos (afc [e] X.env)).all (λx=> !x.1)&&(backToKw cpos (keywordEach [] X.env)).all (λx=>x.1.isSome)&&decide ([e].length+([]:List Keyword).length+(if([]:List Keyword).isEmpty then 0 else 1) < 30))=true:=by
  rw[hst];rfl
 refine JE.of (SN PySem.F.plainAttrs_list slot hty h1 aE mC rfl hfew hline hst rfl) λρ st σ H m Q S R p=>?_
 refine ho.go S R (aw.bind p) λo st1 v m1 H1 p1 e1 S1 ro=>?_
 cases o with
 | ref l=>
  dsimp only at p1
  cases el:aq st1 l with
  | none=>rw[el] at p1;exact aa p1
  | some XE=>
   rw[el] at p1
   dsimp only at p1
   have ro':=ro
   unfold ag at ro'
   obtain⟨a,rfl,hla⟩:=ro'
   obtain⟨xs,hq,_⟩:=S1.read hla el
   refine⟨.inl ⟨rfl,xs,hq⟩,?_⟩
   refine(A4 ha Fi hst).go S1 (R.mono e1) (ok:=λws st2=>aw X σ m H (match ws with | [w]=>(mt (.ref l) w st2).oW | _=> .bad) (RJ X.K m H Q)) ?_ λws st2 vs m2 H2 p2 e2 S2 rs=>?_
   ·have p3:=(aw.bind p1).imp e1 (λ_ _ q=>q)
    show aw X σ m1 H1 ((ga ρ st1).bind λx st1=>(aj ρ st1).bind λxs st2=> .ok (x::xs) st2) _
    cases eg:ga ρ st1 with
    | ok w st2=>rw[eg] at p3;exact p3
    | err c st2=>rw[eg] at p3;exact p3
    | bad=>rw[eg] at p3;exact p3
   ·match ws,rs,p2 with
    | [],rs,p2=>exact aa p2
    | [w],rs,p2=>
     obtain⟨v2,rfl,rw2⟩:=kH rs
     exact h2 (.ref l) w (.ref a) v2 st2 H2 m2 Q S2 (ag.mono e2 _ _ ro) rw2 (cC.shift (aw.oW p2) (e1.trans e2))
    | _::_::_,rs,p2=>exact aa p2
 | _=>exact aa p1
end
section
variable {X:Cx}
def TR:List Wv->Hs->Re Wv
 | [.str z],st=> .ok (.str z) st
 | ws,st=>TN ws st
def XF:List Wv->Hs->Re Wv
 | [.int i,.int j],st=> .ok (.int (if j > i then j else i)) st
 | _,_=> .bad
def XG:List Wv->Hs->Re Wv
 | [.int i,.int j],st=> .ok (.int (if j < i then j else i)) st
 | _,_=> .bad
def xN:List Nat->List Wv->bD->Option bD
 | [],[],ρ=>some ρ
 | i::is,w::ws,ρ=>xN is ws (ρ.set i (some w))
 | _,_,_=>none
def RN(is:List Nat)(w:Wv)(ρ:bD):Option bD:=match w with
 | .tup ws=>xN is ws ρ
 | _=>none
def XH:List Nat->L6
 | []=>L2.aj
 | i::is=>L2.ae (xk i) (XH is)
theorem oq{m:Mp}{H:Hp}{Q:St->Hp->Prop}:∀{is:List Nat}{ws:List Wv}{xs:List V}{ρ ρ':bD}{σ:St},ah X.K m H ws xs->az X.K m H ρ σ->xN is ws ρ=some ρ'->(∀σ',az X.K m H ρ' σ'->Q σ' H)->XH is xs σ H Q
 | [],[],xs,ρ,ρ',σ,r,R,e,k=>by
  unfold ah at r
  subst r
  cases e
  exact⟨rfl,k σ R⟩
 | i::is,w::ws,xs,ρ,ρ',σ,r,R,e,k=>by
  unfold ah at r
  obtain⟨x,rr,rfl,h1,h2⟩:=r
  exact⟨x,rr,rfl,oq (is:=is) h2 (R.set i h1) e k⟩
 | [],_::_,_,_,_,_,_,_,e,_=>by cases e
 | _::_,[],_,_,_,_,_,_,e,_=>by cases e
theorem ou:∀{is:List Nat}{ws:List Wv}{ρ ρ':bD},xN is ws ρ=some ρ'->ws.length=is.length
 | [],[],_,_,_=>rfl
 | _::is,_::ws,_,_,e=>congrArg (· +1) (ou (is:=is) (ws:=ws) e)
 | [],_::_,_,_,e=>by cases e
 | _::_,[],_,_,e=>by cases e
inductive Slots(X:Cx):List Expr->List Nat->Prop
 | nil:Slots X [] []
 | cons {x:Str} {p:Pos} {i:Nat} {es:List Expr} {is:List Nat}:X.N[i]? =some x->(Loc X.env.scope x/\(X.fn x=true\/X.env.scope.names.lookup x=some .local))->Slots X es is->Slots X (.Name x p::es) (i::is)
theorem lX(hN:X.N.Nodup):∀{es:List Expr}{is:List Nat},Slots X es is->Sh X es (XH is)
 | _,_,.nil=>Jr
 | _,_,.cons h1 h2 r=>Eo (lJ hN h1 h2.1 h2.2) (lX hN r) rfl
theorem oz:∀{es:List Expr}{is:List Nat},Slots X es is->(assignEach es X.env).length=is.length
 | _,_,.nil=>rfl
 | _,_,.cons _ _ r=>congrArg (· +1) (oz r)
theorem lY:∀{es:List Expr}{is:List Nat},Slots X es is->(assignEach es X.env).findIdx? (·.1)=none
 | _,_,.nil=>rfl
 | _,_,.cons (x:=x) (p:=p) (es:=es) _ _ r=>by
  have q:=lY r
  show List.findIdx? _ ((false,assign (.Name x p) X.env)::assignEach es X.env)=none
  rw[List.findIdx?_cons]
  simp[q]
def A8(is:List Nat)(g:GE):GS:=λρ st=>(g ρ st).a7 ρ λw st'=>match RN is w ρ with
 | some ρ'=> .nx ρ' st'
 | none=> .bad
theorem Kj{es:List Expr}{is:List Nat}{k:Nat}{e:Expr}{g:GE}{pos pos':Pos}(hN:X.N.Nodup)(hc:X.calm=true)(sl:Slots X es is)(h:JE X e g)(hs:swapsWith e (some (.Tuple es k pos')) pos.line X.env=pure false)(hw:swappedStores [.Tuple es k pos'] e X.env=pure none) :
  JS X (.Assign [.Tuple es k pos'] e pos) (A8 is g) :=
 JS.of (Ep aE (zf hc (lX hN sl) (oz sl) (lY sl)) (by unfold swapsWithSole;exact hs) hw rfl) λρ st σ H m D S R p=>h.go S R (aA.bW R p) λw st1 v m1 H1 q e1 S1 r1=>by
  cases w with
  | tup ws=>
   have q':aA X m H (match xN is ws ρ with | some ρ'=> .nx ρ' st1 | none=> .bad) D:=q
   cases e2:xN is ws ρ with
   | none=>rw[e2] at q';exact aa q'
   | some ρ'=>
    rw[e2] at q'
    unfold ag at r1
    obtain⟨a,xs,rfl,f1,f2⟩:=r1
    exact⟨a,xs,rfl,ft.of f1,by rw[<-f2.length];exact ou e2,oq f2 (R.mono e1) e2 λσ' R'=>q' σ' m1 H1 e1 S1 R'⟩
  | _=>exact aa q
open Classical in
def uL(is:List Nat)(gb:GS)(l:Nat)(all:List Wv):List Wv->bD->Hs->Rs
 | [],ρ,st=> .nx ρ st
 | w::r,ρ,st=>match RN is w ρ with
  | none=> .bad
  | some ρ1=>match gb ρ1 st with
   | .nx ρ' st'=>if aq st' l=some all then uL is gb l all r ρ' st' else .bad
   | .ct ρ' st'=>if aq st' l=some all then uL is gb l all r ρ' st' else .bad
   | .bk ρ' st'=> .nx ρ' st'
   | .rt w st'=> .rt w st'
   | .err c ρ' st'=> .err c ρ' st'
   | .bad=> .bad
def Mo(is:List Nat)(gi:GE)(gb:GS):GS:=λρ st=>(gi ρ st).a7 ρ λw st1=>match w with
 | .ref l=>(match aq st1 l with | some ws=>uL is gb l ws ws ρ st1 | none=> .bad)
 | _=> .bad
theorem Kk{es:List Expr}{is:List Nat}{k:Nat}{iter:Expr}{body:List Stmt}{gi:GE}{gb:GS}{pos pos':Pos}(hN:X.N.Nodup)(hp:PassesOwn (model X.prog X.w) X.A X.env X.xe)(hc:X.calm=true)(sl:Slots X es is)(hi:JE X iter gi)(hb:nL X body gb)
  (hs:∀x,ae8 iter X.env x=pure x):JS X (.For (.Tuple es k pos') iter body [] pos) (Mo is gi gb):=by
 refine JS.of (mL hp hc (Js aE) (zf hc (lX hN sl) (oz sl) (lY sl)) dJ hs) λρ st σ H m D S R p=>?_
 refine hi.go S R (aA.bW R p) λw st1 v m1 H1 p1 e1 S1 rw'=>?_
 cases w with
 | ref l=>
  have p1':aA X m H (match aq st1 l with | some ws=>uL is gb l ws ws ρ st1 | none=> .bad) D:=p1
  unfold ag at rw'
  obtain⟨a,rfl,hla⟩:=rw'
  cases el:aq st1 l with
  | none=>rw[el] at p1';exact aa p1'
  | some ws=>
   rw[el] at p1'
   obtain⟨zd,q0,_⟩:=S1.read hla el
   refine⟨a,rfl,⟨zd,q0⟩,?_⟩
   let Pv:Nat->St->Hp->Prop:=λk σ H=>∃ρ st m',Ext X.K m1 H1 m' H/\bq X.K m' st H/\az X.K m' H ρ σ/\aq st l=some ws/\aA X m' H (uL is gb l ws (ws.drop k) ρ st) D
   refine⟨λk n σ H=>n=ws.length - k/\k<=ws.length/\Pv k σ H,⟨ws.length,by simp,bJ _,ρ,st1,m1,Ext.refl,S1,R.mono e1,el,aA.shift p1' e1⟩,?_⟩
   rintro k n σ2 H2 ⟨rfl,hk,ρ2,st2,m2,e2,S2,R2,l2,p2⟩
   obtain⟨xs,hq,rws⟩:=S2.read (e2.pre _ _ hla) l2
   have hlen:=rws.length
   by_cases hlt:k < ws.length
   ·have hx':k < xs.length:=by omega
    refine .inr ⟨⟨xs,xs[k],hq,by simp[hx']⟩,Pv (k+1),λσ' H' p'=>⟨ws.length - (k+1),by omega,rfl,hlt,p'⟩,λx H' y=>?_⟩
    obtain⟨ee,y⟩:=y
    subst ee
    have ey:=y xs hq
    have ed:ws.drop k=ws[k]::ws.drop (k+1):=pv hlt
    obtain⟨x',ex',pq⟩:=rws.get (i:=k) (w:=ws[k]) (cu hlt)
    rw[ey] at ex'
    cases ex'
    rw[ed] at p2
    unfold uL at p2
    cases eb:ws[k] with
    | tup us=>
     rw[eb] at p2 pq
     dsimp only[RN] at p2
     cases e5:xN is us ρ2 with
     | none=>rw[e5] at p2;exact aa p2
     | some ρ5=>
      rw[e5] at p2
      dsimp only at p2
      unfold ag at pq
      obtain⟨b,ys,rfl,f1,f2⟩:=pq
      refine⟨b,ys,rfl,ft.of f1,by rw[<-f2.length];exact ou e5,oq f2 R2 e5 λσ5 R5=>?_⟩
      refine hb _ st2 _ _ m2 _ S2 R5 ?_
      cases eg:gb ρ5 st2 with
      | nx ρ3 st3=>
       rw[eg] at p2
       by_cases c:aq st3 l=some ws
       ·simp only[if_pos c] at p2
        exact λσ3 m3 H3 e3 S3 R3=>⟨ρ3,st3,m3,e2.trans e3,S3,R3,c,aA.shift p2 e3⟩
       ·simp only[if_neg c] at p2;exact aa p2
      | ct ρ3 st3=>
       rw[eg] at p2
       by_cases c:aq st3 l=some ws
       ·simp only[if_pos c] at p2
        exact λσ3 m3 H3 e3 S3 R3=>⟨ρ3,st3,m3,e2.trans e3,S3,R3,c,aA.shift p2 e3⟩
       ·simp only[if_neg c] at p2;exact aa p2
      | bk ρ3 st3=>rw[eg] at p2;exact p2
      | rt w3 st3=>rw[eg] at p2;exact p2
      | err c3 ρ3 st3=>rw[eg] at p2;exact p2
      | bad=>rw[eg] at p2;exact p2
    | _=>rw[eb] at p2;exact aa p2
   ·have e:k=ws.length:=by omega
    subst e
    rw[rP] at p2
    exact .inl ⟨⟨xs,hq,by omega⟩,p2 σ2 m2 H2 Ext.refl S2 R2⟩
 | _=>exact aa p1
end
def pG(env:Env):List (Str×aeX)->List (Str×aeU)->List (Str×aeU)
 | [],acc=>acc
 | (n,k)::r,acc=>if k= .free then pG env r ((n,(env.cells.lookup n).getD 0)::acc) else pG env r acc
theorem xO(env:Env):∀(names:List (Str×aeX))(acc:List (Str×aeU)),(∀y∈names,y.2= .free->∃c,env.cells.lookup y.1=some c)->
  (forIn names acc λx r=>match x with
   | (name,kind)=>if(kind == dM)=true then do let c <-cellOf env name;pure (rQ ((name,c)::r)) else(pure (rQ r):Sem _))=pure (pG env names acc)
 | [],acc,_=>rfl
 | (n,k)::r,acc,h=>by
  have ih:=λacc=>xO env r acc λy hy=>h y (aI _ hy)
  rw[List.forIn_cons]
  by_cases hk:k= .free
  ·subst hk
   obtain⟨c,e⟩:=h (n,.free) aQ rfl
   have e':env.cells.lookup n=some c:=e
   have cc:cellOf env n=pure c:=by unfold cellOf;rw[e']
   simp only[beq_self_eq_true,if_true,cc]
   have q:pG env ((n,.free)::r) acc=pG env r ((n,c)::acc):=by
    show(if dM= .free then pG env r ((n,(env.cells.lookup n).getD 0)::acc) else _)=_
    rw[if_pos rfl,e']
    rfl
   rw[q,<-ih]
   rfl
  ·have hb:(k == dM)=false:=by simpa using hk
   simp only[hb,iI,if_false]
   have q:pG env ((n,k)::r) acc=pG env r acc:=by
    show(if k= .free then _ else pG env r acc)=_
    rw[if_neg hk]
   rw[q,<-ih]
   rfl
theorem Kl{env:Env}{scope:Scope}(h:∀y∈scope.names,y.2= .free->∃c,env.cells.lookup y.1=some c):closureFor scope env=pure (pG env scope.names []):=by
 have q:=xO env scope.names [] h
 unfold closureFor
 first
  | (rw[<-q];rfl)
  | (simp only[bind_pure];exact q)
theorem vS{env:Env}:∀{names:List (Str×aeX)}{acc:List (Str×aeU)}{y:Str}{c:aeU},(∀y∈names,y.2= .free->∃c,env.cells.lookup y.1=some c)->(∀y c,acc.lookup y=some c->env.cells.lookup y=some c)->(pG env names acc).lookup y=some c->env.cells.lookup y=some c
 | [],acc,y,c,_,ha,e=>ha y c e
 | (n,k)::r,acc,y,c,h,ha,e=>by
  unfold pG at e
  by_cases hk:k= .free
  ·rw[if_pos hk] at e
   subst hk
   obtain⟨c0,e0⟩:=h (n,.free) aQ rfl
   have e0':env.cells.lookup n=some c0:=e0
   refine vS (λy hy=>h y (aI _ hy)) (λy' c' e'=>?_) e
   rw[iJ] at e'
   cases q:y' == n with
   | true=>
    rw[q] at e'
    have q':=eq_of_beq q
    subst q'
    rw[e0'] at e' ⊢
    exact e'
   | false=>rw[q] at e';exact ha y' c' e'
  ·rw[if_neg hk] at e
   exact vS (λy hy=>h y (aI _ hy)) ha e
theorem qR{env:Env}{y:Str}:∀{names:List (Str×aeX)}{acc:List (Str×aeU)},((∃c,acc.lookup y=some c)\/(y,dM)∈names)->∃c,(pG env names acc).lookup y=some c
 | [],acc,h=>by
  rcases h with h | h
  ·exact h
  ·cases h
 | (n,k)::r,acc,h=>by
  unfold pG
  by_cases hk:k= .free
  ·rw[if_pos hk]
   refine qR ?_
   rw[iJ]
   cases q:y == n with
   | true=>exact .inl ⟨_,rfl⟩
   | false=>
    rcases h with h | h
    ·exact .inl h
    ·rcases List.mem_cons.mp h with h | h
     ·cases h;simp at q
     ·exact .inr h
  ·rw[if_neg hk]
   refine qR ?_
   rcases h with h | h
   ·exact .inl h
   ·rcases List.mem_cons.mp h with h | h
    ·cases h;exact absurd rfl hk
    ·exact .inr h
theorem lookup_mem{α β:Type}[BEq α][LawfulBEq α]{y:α}{k:β}:∀{names:List (α×β)},names.lookup y=some k->(y,k)∈names
 | [],h=>by cases h
 | (n,j)::r,h=>by
  rw[iJ] at h
  cases q:y == n with
  | true=>
   rw[q] at h
   cases h
   have q':=eq_of_beq q
   subst q'
   exact aQ
  | false=>rw[q] at h;exact aI _ (lookup_mem h)
theorem rR{env:Env}:∀{names:List (Str×aeX)}{y:Str},(names.map λ(n,k)=>if(k == dM&&env.scope.kind == .function&&env.kindOf n == some .cell) then(n,qS) else(n,k)).lookup y=
  (names.lookup y).map λk=>if(k == dM&&env.scope.kind == .function&&env.kindOf y == some .cell)=true then qS else k
 | [],y=>rfl
 | (n,k)::r,y=>by
  have ih:=rR (env:=env) (names:=r) (y:=y)
  show List.lookup y ((if(k == dM&&env.scope.kind == .function&&env.kindOf n == some .cell)=true then(n,qS) else(n,k))::_)=_
  cases q:y == n with
  | true=>
   have q':=eq_of_beq q
   subst q'
   by_cases hc:(k == dM&&env.scope.kind == .function&&env.kindOf y == some .cell)=true
   ·rw[if_pos hc]
    simp only[iJ,beq_self_eq_true,nP]
    rw[if_pos hc]
   ·rw[if_neg hc]
    simp only[iJ,beq_self_eq_true,nP]
    rw[if_neg hc]
  | false=>
   by_cases hc:(k == dM&&env.scope.kind == .function&&env.kindOf n == some .cell)=true
   ·rw[if_pos hc];simp only[iJ,q];exact ih
   ·rw[if_neg hc];simp only[iJ,q];exact ih
open Classical in
def kJ(ck:Hs->Prop)(gt:Wv->Hs->Re Bool)(ge:Wv->Hs->Re Wv)(l:Nat):List Wv->Hs->Option Hs
 | [],st=>some st
 | w::r,st=>match gt w st with
  | .ok false st1=>if ck st1 then kJ ck gt ge l r st1 else none
  | .ok true st1=>(match ge w st1 with
   | .ok v st2=>(match pE (.ref l) v st2 with
    | .ok _ st3=>if ck st3 then kJ ck gt ge l r st3 else none
    | _=>none)
   | _=>none)
  | _=>none
open Classical in
def ql(ck:Hs->Prop)(gt:Wv->Hs->Re Bool)(ge:Wv->Hs->Re Wv)(l:Nat):List Wv->Hs->Re Unit
 | [],st=> .ok () st
 | w::r,st=>match gt w st with
  | .ok false st1=>if ck st1 then ql ck gt ge l r st1 else .bad
  | .ok true st1=>(match ge w st1 with
   | .ok v st2=>(match pE (.ref l) v st2 with
    | .ok _ st3=>if ck st3 then ql ck gt ge l r st3 else .bad
    | _=> .bad)
   | .err c st2=> .err c st2
   | .bad=> .bad)
  | .err c st1=> .err c st1
  | .bad=> .bad
theorem rS{ck:Hs->Prop}{gt:Wv->Hs->Re Bool}{ge:Wv->Hs->Re Wv}{l:Nat}{A9:Hs}:∀(ws:List Wv)(st:Hs),kJ ck gt ge l ws st=some A9->ql ck gt ge l ws st= .ok () A9
 | [],st,h=>by cases h;rfl
 | w::r,st,h=>by
  unfold kJ at h
  unfold ql
  cases eg:gt w st with
  | err c st1=>rw[eg] at h;cases h
  | bad=>rw[eg] at h;cases h
  | ok b st1=>
   rw[eg] at h
   cases b with
   | false=>
    dsimp only at h ⊢
    by_cases c:ck st1
    ·rw[if_pos c] at h ⊢;exact rS r st1 h
    ·rw[if_neg c] at h;cases h
   | true=>
    dsimp only at h ⊢
    cases ee:ge w st1 with
    | err c st2=>rw[ee] at h;cases h
    | bad=>rw[ee] at h;cases h
    | ok v st2=>
     rw[ee] at h
     dsimp only at h ⊢
     cases ea:pE (.ref l) v st2 with
     | err c st3=>rw[ea] at h;cases h
     | bad=>rw[ea] at h;cases h
     | ok u st3=>
      rw[ea] at h
      dsimp only at h ⊢
      by_cases c:ck st3
      ·rw[if_pos c] at h ⊢;exact rS r st3 h
      ·rw[if_neg c] at h;cases h
abbrev gD:=List (Str×Nat)
def gE(cs:gD)(ρ:bD):bD:=cs.map λp=>(ρ[p.2]?).getD none
def vT(cs:gD)(σ:St):St:=cs.map λp=>(σ[p.2]?).getD none
theorem Km{K:PySem.W.Frag}{m:Mp}{H:Hp}{ρ:bD}{σ:St}(cs:gD)(R:az K m H ρ σ):az K m H (gE cs ρ) (vT cs σ):=by
 refine⟨by unfold gE vT;simp,λi w e=>?_⟩
 unfold gE at e
 rw[dQ] at e
 cases q:cs[i]? with
 | none=>rw[q] at e;cases e
 | some p=>
  rw[q] at e
  have e':(ρ[p.2]?).getD none=some w:=by simpa using e
  cases q2:ρ[p.2]? with
  | none=>rw[q2] at e';cases e'
  | some o=>
   rw[q2] at e'
   have e2:o=some w:=e'
   subst e2
   obtain⟨v,h1,h2⟩:=R.get _ _ q2
   refine⟨v,?_,h2⟩
   unfold vT
   rw[dQ,q]
   simp[h1]
def f9(X:Cx)(scope:Scope)(x:Str)(cs:gD)(C:aeU)(s0:aeZ)(H0:Hp)(fp:List aeU)(pn:List (aeU×Obj))(E:ae0->aeZ->Prop):Cx where
 prog:=X.prog
 w:=X.w
 K:=X.K
 mg:=X.mg
 base:=X.base
 A:=X.A
 N:=x::cs.map (·.1)
 s₀:=s0
 H₀:=H0
 env:=compEnvC scope (pG X.env scope.names []) C X.env
 outer:=X.stack
 stack:=X.stack
 ex:=fp
 fn:=λ_=>false
 calm:=X.calm
 pn:=pn
 xe:=E
structure eG(X:Cx)(scope:Scope)(x:Str)(cs:gD):Prop where
 kind:scope.kind= .function
 look:∀y∈scope.names,scope.names.lookup y.1=some y.2
 cell:∀y∈scope.names,y.2≠.cell
 var:scope.names.lookup x=some .local
 cap:∀y∈scope.names,y.2= .free->X.env.kindOf y.1=some .cell\/X.env.kindOf y.1=some .free
 at_:∀p∈cs,X.N[p.2]? =some p.1/\scope.names.lookup p.1=some .free
 nd:(x::cs.map (·.1)).Nodup
section
variable {X:Cx} {pins:List (aeU×Obj)} {σ:St} {H:Hp} {s:aeZ} {scope:Scope} {x:Str} {cs:gD}
theorem xP(I:Inv X pins σ H s){b:aeU}(f:iE X pins H b):b∉frs X.stack:=λz=>by
 rcases List.mem_cons.mp (I.vj b z) with q | q
 ·exact f.2.1 q
 ·exact f.2.2.1 q
theorem eG.has(S:eG X scope x cs)(ok:X.Ok):∀y∈scope.names,y.2= .free->∃c,X.env.cells.lookup y.1=some c:=λy hy e=>ok.has y.1 (S.cap y hy e)
theorem eG.sub(S:eG X scope x cs)(ok:X.Ok){y:Str}{c:aeU}(e:(pG X.env scope.names []).lookup y=some c):X.env.cells.lookup y=some c :=
 vS (S.has ok) (λ_ _ z=>by cases z) e
theorem eG.OT(S:eG X scope x cs)(ok:X.Ok){C:aeU}{y:Str}(h:(compEnvC scope (pG X.env scope.names []) C X.env).kindOf y=some .cell\/(compEnvC scope (pG X.env scope.names []) C X.env).kindOf y=some .free):scope.names.lookup y=some .free:=by
 have q:(compEnvC scope (pG X.env scope.names []) C X.env).kindOf y=(scope.names.lookup y).map λk=>if(k == dM&&X.env.scope.kind == .function&&X.env.kindOf y == some .cell)=true then qS else k:=rR
 rw[q] at h
 cases e:scope.names.lookup y with
 | none=>rw[e] at h;simp at h
 | some k=>
  rw[e] at h
  simp only[nP,Option.some.injEq] at h
  by_cases hk:k= .free
  ·rw[hk]
  ·have hb:(k == dM)=false:=by simpa using hk
   rw[hb] at h
   simp only[AN,iI,if_false] at h
   rcases h with h | h
   ·exact absurd h (S.cell (y,k) (lookup_mem e))
   ·exact absurd h hk
theorem eG.F3(S:eG X scope x cs){C:aeU}{y:Str}(e:scope.names.lookup y=some .free):(compEnvC scope (pG X.env scope.names []) C X.env).kindOf y=some .cell\/(compEnvC scope (pG X.env scope.names []) C X.env).kindOf y=some .free:=by
 have q:(compEnvC scope (pG X.env scope.names []) C X.env).kindOf y=(scope.names.lookup y).map λk=>if(k == dM&&X.env.scope.kind == .function&&X.env.kindOf y == some .cell)=true then qS else k:=rR
 rw[q,e]
 simp only[nP]
 split
 ·exact .inl rfl
 ·exact .inr rfl
theorem F4{fp:List aeU}{h2:Heap}{tk:Nat}{E:ae0->aeZ->Prop}(S:eG X scope x cs)(I:Inv X pins σ H s)(hf:∀b∈fp,iE X pins H b)(hl:∀b∈fp,b < s.heap.objs.size)
  (ns:h2.Ns s.heap.objs.size (λy=>([]:List (Str×ae0)).reverse.lookup y))(sb:fT s.heap.objs.size (s.heap.push { cls:=.type "dict",data:=.dict #[] }) h2) :
  Inv (f9 X scope x cs s.heap.objs.size s H fp (X.pn++pins) E) [] (none::vT cs σ) H { s with heap:=h2,toks:=tk }:=by
 have keep:∀b o,s.heap.get? b=some o->h2.get? b=some o:=λb o e=>(sb.2 b (bh (aK e))).trans (aS _ e)
 have sub:∀{y:Str}{c:aeU},(pG X.env scope.names []).lookup y=some c->X.env.cells.lookup y=some c:=λe=>S.sub I.ok e
 have cellK:∀y c,X.env.cells.lookup y=some c->∀v,s.heap.IsCell c v->h2.IsCell c v:=λy c _ v ⟨o,ho,hd⟩=>⟨o,keep c o ho,hd⟩
 refine⟨⟨I.ok.mod,S.kind,I.ok.glob,I.ok.blt,ao _,(λy z c e1 e2=>I.ok.inj y z c (sub e1) (sub e2)),λy h=>qR (.inr (lookup_mem (S.OT I.ok h))),(λy c e=>by cases e),I.ok.hd,I.ok.frames,.inl rfl,λb hb=>⟨bh (hl b hb),λy c e=>(hf b hb).2.2.2.2.1 y c (sub e)⟩,I.bs,ba I.ok.RF I.sz,λb o e hb=>?_,λb hb=>xP I (hf b hb),I.stack,I.vm⟩,rfl,I.bare,Un.kept keep,⟨_,ns,λi y v e1 e2 e3=>?_⟩,(λy c e=>?_),I.fresh,(λy c e=>I.my y c (sub e)),λp hp=>?_,I.hok.kept keep,by unfold f9 vT;simp⟩
 ·rcases(hf b hb).2.2.2.1 with z | z
  ·exact I.ok.Ni b o e z
  ·exact absurd (bC (aK e) (ba I.ok.RF z)) (cK _)
 ·cases i with
  | zero=>cases e2
  | succ i=>
   have Kn:(cs.map (·.1))[i]? =some y:=e1
   have xQ:(vT cs σ)[i]? =some (some v):=e2
   unfold vT at xQ
   rw[dQ] at Kn xQ
   cases q:cs[i]? with
   | none=>rw[q] at Kn;cases Kn
   | some p=>
    rw[q] at Kn xQ
    have y1:p.1=y:=by simpa using Kn
    have e4:(σ[p.2]?).getD none=some v:=by simpa using xQ
    have e5:σ[p.2]? =some (some v):=by
     cases q2:σ[p.2]? with
     | none=>rw[q2] at e4;cases e4
     | some o=>
      rw[q2] at e4
      have:o=some v:=e4
      rw[this]
    have hp:=S.at_ p (List.mem_iff_getElem?.mpr ⟨i,q⟩)
    rw[y1] at hp
    have kd:=S.cap (y,.free) (lookup_mem hp.2) rfl
    obtain⟨m,hn,hl'⟩:=I.loc
    obtain⟨u,r,l⟩:=hl' p.2 y v hp.1 e5 (.inr kd)
    refine⟨u,r,.inr ⟨S.F3 hp.2,?_⟩⟩
    rcases l with ⟨l,_⟩ | ⟨_,c,e,z⟩
    ·rcases kd with kd | kd
     ·have XI:X.env.kindOf y=some .cell:=kd
      rw[XI] at l;cases l
     ·have XI:X.env.kindOf y=some .free:=kd
      rw[XI] at l;cases l
    ·obtain⟨c',e'⟩:=qR (env:=X.env) (y:=y) (names:=scope.names) (acc:=[]) (.inr (lookup_mem hp.2))
     have:=sub e'
     rw[e] at this
     cases this
     exact⟨c,e',cellK y c e _ z⟩
 ·obtain⟨v,z⟩:=I.cell y c (sub e)
  exact⟨v,cellK y c (sub e) v z⟩
 ·rw[mO] at hp
  obtain⟨e,n,ne,nf,d⟩:=I.pin p hp
  refine⟨keep _ _ e,n,bh (aK e),λz=>?_,d⟩
  rcases List.mem_cons.mp (I.vj p.1 z) with q | q
  ·exact ne q
  ·exact nf q
theorem F5{fp:List aeU}{E:ae0->aeZ->Prop}{Hb He:Hp}{sb se:aeZ}{C:aeU}{σ':St}{ur:List (aeU×Obj)}(I:Inv X pins σ Hb sb)(hf:∀b∈fp,iE X pins Hb b)(J:Inv (f9 X scope x cs C sb Hb fp (X.pn++pins) E) ur σ' He se):Inv X pins σ He se:=by
 have un:Un (frs X.stack) fp Hb He sb.heap se.heap:=J.base
 exact I.L4 (ch:=fp) J.os un J.hok J.bare λb hb=>⟨(hf b hb).2.2.2.1,(hf b hb).2.1,(hf b hb).2.2.2.2.1,λp hp=>(hf b hb).2.2.2.2.2 p hp⟩
theorem uM{He:Hp}{se:aeZ}{C:aeU}{h2:Heap}(I:Inv X pins σ He se)(f:iE X pins He C)(same:fT C se.heap h2):Inv X pins σ He { se with heap:=h2 } :=
 I.turned (t':=se.toks) (it:=C) (λb o hb e=>(same.2 b hb).trans e) f.1 f.2.1 f.2.2.2.1 f.2.2.2.2.1 f.2.2.2.2.2
end
def F6(X:Cx):Prop:=∃(env:Env)(outer:List Env)(L:aeU),X.stack=env::outer/\env.frame=some L/\X.env.frame=some L
section
variable {X:Cx} {pins:List (aeU×Obj)} {σ:St} {scope:Scope} {x:Str} {cs:gD}
end
structure F7(Y:Cx->Prop)(P:aeY)(w:ae1)(K:PySem.W.Frag)(tg:Expr)(J:It)(fp:List aeU)(it:aeU)(tn:Nat->Heap->Prop):Prop where
 obj:∀i h,tn i h->∀b∈fp,∃o,h.get? b=some o/\∀v,o.data≠.cell v
 keep:∀i h h',tn i h->(∀b∈fp,∀o,h.get? b=some o->h'.get? b=some o)->tn i h'
 item:∀(X:Cx),X.prog=P->X.w=w->X.K=K->Y X->∀(i:Nat)(pins:List (aeU×Obj))(s:aeZ)(σ:St)(H:Hp)(E:ae0->aeZ->Prop),Inv X pins σ H s->(∀b∈fp,iE X pins H b)->tn i s.heap->J.go i H->afd (model P w) X.A (pyNext (.ref it)) (λr s1=>∃u,r=some u/\
  afd (model P w) X.A (letOwnedTupleGo tg (.ref it) u) (λ_ s2=>∃x H',Inv X pins σ H' s2/\RelV x u/\J.xl i H x H'/\tn (i+1) s2.heap/\∀b∈fp,H' b=none) E s1) E s
 done:∀(X:Cx),X.prog=P->X.w=w->X.K=K->Y X->∀(i:Nat)(pins:List (aeU×Obj))(s:aeZ)(σ:St)(H:Hp)(E:ae0->aeZ->Prop),Inv X pins σ H s->(∀b∈fp,iE X pins H b)->tn i s.heap->J.stop i H->afd (model P w) X.A (pyNext (.ref it)) (λr s1=>r=none/\Inv X pins σ H s1) E s
 self:∀(A:aeV)(i:Nat)(s:aeZ)(Q:ae0->aeZ->Prop)(E:ae0->aeZ->Prop),tn i s.heap->Q (.ref it) s->afd (model P w) A (pyIter (.ref it)) Q E s
abbrev Calm(X:Cx):Prop:=X.calm=true
theorem _root_.L2.Turn.y{P:aeY}{w:ae1}{K:PySem.W.Frag}{tg:Expr}{J:It}{fp:List aeU}{it:aeU}{tn:Nat->Heap->Prop}(T:Turn P w K tg J fp it tn):F7 Calm P w K tg J fp it tn:=⟨T.obj,T.keep,T.item,T.done,T.self⟩
def TU(Y:Cx->Prop)(X:Cx):Prop:=∀{pins:List (aeU×Obj)}{σ:St}{H:Hp}{s:aeZ}(scope:Scope)(x:Str)(cs:gD)(C:aeU)(s0:aeZ)(fp:List aeU)(pn:List (aeU×Obj))(E:ae0->aeZ->Prop),Inv X pins σ H s->Y (f9 X scope x cs C s0 H fp pn E)
theorem xR{X:Cx}(hc:X.calm=true):TU Calm X:=λ_ _ _ _ _ _ _ _ _=>hc
def Mq(X:Cx)(ifs:List Expr)(g:GT):Prop:=∀(ρ:bD)(st:Hs)(σ:St)(H:Hp)(m:Mp)(Q:Bool->Hp->Prop),bq X.K m st H->az X.K m H ρ σ->jq X σ m H (g ρ st) Q->∀(pins:List (aeU×Obj))(s:aeZ),Inv X pins σ H s->
 afd (model X.prog X.w) X.A (forIn ifs true λc r=>if r=true then do let ok <-isTrue c X.env (eval c X.env);pure (rQ ok) else pure (rQ r)) (TP X pins σ Q) X.xe s
section
variable {X:Cx}
theorem Ko:Mq X [] (λ_ st=> .ok true st):=λρ st σ H m Q S R p pins s I=>wpAny_tests_nil ⟨H,I,p m H Ext.refl S⟩
theorem Kp{c:Expr}{g:GT}(h:JT X c g):Mq X [c] g:=λρ st σ H m Q S R p pins s I=>wpAny_tests_one (h ρ st σ H m Q S R p pins s I)
theorem zH{pins:List (aeU×Obj)}{σ:St}{ρ:bD}{scope:Scope}{x:Str}{cs:gD}{px pos:Pos}{elt iter:Expr}{ifs:List Expr}{gt:GT}{ge:GE}{ck:Hs->Prop}{ws:List Wv}{E:ae0->aeZ->Prop}
  {use:Option (ae0->Sem Unit)}{Q:ae0->aeZ->Prop}{res:Re Unit}
  {it:aeU}{fp:List aeU}{tn:Nat->Heap->Prop}{J':It}{H2:Hp}{s2:aeZ}{m1:Mp}{st1:Hs}{Y:Cx->Prop}(fr:F6 X)(S:eG X scope x cs)(hY:TU Y X)(hH:OR X)(I2:Inv X pins σ H2 s2)(T:F7 Y X.prog X.w X.K (.Name x px) J' fp it tn)(t0:tn 0 s2.heap)(f2:∀b∈fp,iE X pins H2 b)
  (S1:bq X.K m1 st1 H2)(R:az X.K m1 H2 ρ σ)(hck:ck (st1++[.lst []]))(run:ql ck (λw=>gt (some w::gE cs ρ)) (λw=>ge (some w::gE cs ρ)) st1.length ws (st1++[.lst []])=res)(nb:res≠.bad)(hx:∀c stE,res≠.err c stE)
  (hE:∀C s0 H0 pn E,C5 X.A H0->JE (f9 X scope x cs C s0 H0 fp pn E) elt ge)(hT:∀C s0 H0 pn E,C5 X.A H0->Mq (f9 X scope x cs C s0 H0 fp pn E) ifs gt)
  (hgo:∀(k:Nat)(H:Hp)(m':Mp)(st:Hs),Ext X.K m1 H2 m' H->bq X.K m' st H->ck st->k < ws.length->J'.go k H)(hstop:∀(k:Nat)(H:Hp)(m':Mp)(st:Hs),Ext X.K m1 H2 m' H->bq X.K m' st H->ck st->k=ws.length->J'.stop k H)
  (hy:∀(k:Nat)(hk:k < ws.length)(H:Hp)(v:V)(H':Hp)(m':Mp)(st:Hs),Ext X.K m1 H2 m' H->bq X.K m' st H->ck st->J'.xl k H v H'->H'=H/\ag X.K m' H ws[k] v)
  (fin:∀(A9:Hs),res= .ok () A9->∀(D C:aeU)(mm:Str->Option ae0)(m':Mp)(H':Hp)(s':aeZ),Ext X.K m1 H2 m' H'->bq X.K m' A9 H'->m'[st1.length]? =some D->Inv X pins σ H' s'->iE X pins H' C->s'.heap.Ns C mm->(∀y c,X.env.cells.lookup y=some c->c≠C)->ae6 (model X.prog X.w) X.A X.xe use Q (.ref D) C (.ok .next) s') :
  afd (model X.prog X.w) X.A (newList []) (λacc s3=>afd (model X.prog X.w) X.A (newFunctionEnv scope X.env.globals (pG X.env scope.names []) [] X.env.qual none .none (some X.env)) (λcenv s4=>
   ae5 (model X.prog X.w) X.A (.compStart (.ListComp elt [⟨.Name x px,iter,ifs,0⟩] scope pos) 0 (.ref it) acc { cenv with scope:=relabel scope X.env }) (ae6 (model X.prog X.w) X.A X.xe use Q acc cenv.locals) s4) E s3) E s2:=by
 refine afi ?_
 have I3:Inv X pins σ (upd H2 s2.heap.objs.size (.lst [])) { s2 with heap:=s2.heap.push { cls:=.type "list",data:=.seq ([]:List ae0).toArray } }:=I2.N5 (ys:=[]) (its:=[]) (t':=s2.toks) .nil (bJ _)
 have lt2:∀b∈fp,b < s2.heap.objs.size:=λb hb=>by
  obtain⟨o,e,_⟩:=T.obj _ _ t0 b hb
  exact aK e
 have hD:H2 s2.heap.objs.size=none:=I2.fresh
 have f3:∀b∈fp,iE X pins (upd H2 s2.heap.objs.size (.lst [])) b:=λb hb=>⟨by rw[au (bh (lt2 b hb))];exact(f2 b hb).1,(f2 b hb).2⟩
 have S3:=S1.alloc (ws:=[]) (xs:=[]) hD ah.nil
 have e3:Ext X.K m1 H2 (m1++[s2.heap.objs.size]) (upd H2 s2.heap.objs.size (.lst [])):=Ext.more.trans (Ext.upd (.inl hD))
 have VX:(m1++[s2.heap.objs.size])[st1.length]? =some s2.heap.objs.size:=by
  rw[<-S1.len,pe (ao _),vL];rfl
 generalize TV:({ s2 with heap:=s2.heap.push { cls:=.type "list",data:=.seq ([]:List ae0).toArray } }:aeZ)=s3 at I3
 have k23:∀b o,s2.heap.get? b=some o->s3.heap.get? b=some o:=λb o e=>by rw[<-TV];exact aS _ e
 have lt3:∀b∈fp,b < s3.heap.objs.size:=λb hb=>by
  obtain⟨o,e,_⟩:=T.obj _ _ t0 b hb
  exact aK (k23 b o e)
 generalize hDD:s2.heap.objs.size=D at *
 generalize hH3:upd H2 D (.lst [])=H3 at *
 generalize hm3:m1++[D]=m3 at *
 have R3:az X.K m3 H3 (gE cs ρ) (vT cs σ):=(Km cs R).mono e3
 generalize hrr:gE cs ρ=ρc at *
 generalize hss:vT cs σ=σc at *
 refine wpAny_newFunctionEnv S.cell (λ_ z=>nomatch z) (λh4 ns4 sb4=>?_) S.kind
 have Ic:=λE=>F4 (E:=E) (tk:=s3.toks+([]:List (Str×ae0)).length) S I3 f3 lt3 ns4 sb4
 have k34:∀b o,s3.heap.get? b=some o->h4.get? b=some o:=λb o e=>(sb4.2 b (bh (aK e))).trans (aS _ e)
 have t4:tn 0 h4:=T.keep _ _ _ t0 λb _ o e=>k34 b o (k23 b o e)
 let EX:ae0->aeZ->Prop:=notedBy (model X.prog X.w) X.A (compEnvC scope (pG X.env scope.names []) s3.heap.objs.size X.env) λe s'=>ae6 (model X.prog X.w) X.A X.xe use Q (.ref D) s3.heap.objs.size (.error e) s'
 let Xc:=f9 X scope x cs s3.heap.objs.size s3 H3 fp (X.pn++pins) EX
 have noted:∀{σ':St}{m:Mp}{H:Hp}{c:Str}{st:Hs},Ext X.K m1 H2 m H->res= .err c st->RI Xc σ' m H c st:=λ_ er=>(hx _ _ er).elim
 have vis:Xc.env.scope.names.lookup x=some .local:=lookup_relabel_local S.var
 have XJ:∀(H':Hp),(∀b∈fp,H' b=none)->∀b∈fp,iE Xc [] H' b:=λH' hn b hb=>⟨hn b hb,bh (lt3 b hb),xP I3 (f3 b hb),.inl hb,λy c e=>(f3 b hb).2.2.2.2.1 y c (S.sub I3.ok e),λp hp=>(f2 b hb).2.2.2.2.2 p (by have VY:p∈(X.pn++pins)++[]:=hp;rw[mO] at VY;exact VY)⟩
 let Pv:Nat->aeZ->Prop:=λk s'=>∃z H' st m',Inv Xc [] (z::σc) H' s'/\tn k s'.heap/\(∀b∈fp,H' b=none)/\Ext X.K m3 H3 m' H'/\bq X.K m' st H'/\ck st/\ql ck (λw=>gt (some w::ρc)) (λw=>ge (some w::ρc)) st1.length (ws.drop k) st=res
 have loop:∀s4:aeZ,Pv 0 s4->ae5 (model X.prog X.w) X.A (.compLoop (.ListComp elt [⟨.Name x px,iter,ifs,0⟩] scope pos) 0 (.ref it) (.ref D) (compEnvC scope (pG X.env scope.names []) s3.heap.objs.size X.env)) (ae6 (model X.prog X.w) X.A X.xe use Q (.ref D) s3.heap.objs.size) s4:=λs4 p0=>by
  refine codeAny_compLoop_tests (λn s'=>∃k,n=ws.length - k/\k<=ws.length/\Pv k s') ?_ ws.length ⟨0,by simp,bJ _,p0⟩
  rintro n s5 ⟨k,rfl,hk,z5,H5,Et,m5,I5,tn5,VM,e5,S5,c5,dU⟩
  have Mr:=e3.trans e5
  by_cases hlt:k < ws.length
  ·refine a7 (T.item Xc rfl rfl rfl (hY _ _ _ _ _ _ _ _ I3) k [] s5 (z5::σc) H5 _ I5 (XJ H5 VM) tn5 (hgo k H5 m5 Et Mr S5 c5 hlt)) λr s6 h6=>?_
   obtain⟨u,rfl,h6⟩:=h6
   show afd (model X.prog X.w) X.A (pure () >>= λ_=>assign (.Name x px) Xc.env u) _ _ s6
   refine afe (a7 h6 λ_ s7 h7=>?_)
   obtain⟨v,H7,I7,rv,yl,XM,fr7⟩:=h7
   obtain⟨rfl,rw7⟩:=hy k hlt H5 v H7 m5 Et Mr S5 c5 yl
   have I7':=I7.pinned (XJ H7 fr7) (T.obj _ _ XM)
   refine wpAny_assign_Name (nT (i:=0) I7' S.nd rfl (.inl vis) rv (λs8 I8=>?_) (.inr vis))
   have I8':Inv Xc ([]++gW fp s7.heap) (some v::σc) H7 s8:=I8
   have R8:az X.K m5 H7 (some ws[k]::ρc) (some v::σc):=by
    have R5:=R3.mono e5
    refine⟨by simp[R5.len],λi w e=>?_⟩
    cases i with
    | zero=>
     cases e
     exact⟨v,rfl,rw7⟩
    | succ i=>exact R5.get i w e
   have ed:ws.drop k=ws[k]::ws.drop (k+1):=pv hlt
   rw[ed] at dU
   unfold ql at dU
   have back:∀{H':Hp}{s':aeZ}{m':Mp}{st:Hs},Inv Xc ([]++gW fp s7.heap) (some v::σc) H' s'->Ext X.K m3 H3 m' H'->bq X.K m' st H'->ck st->ql ck (λw=>gt (some w::ρc)) (λw=>ge (some w::ρc)) st1.length (ws.drop (k+1)) st=res->∃n',n' < ws.length - k/\∃k',n'=ws.length - k'/\k'<=ws.length/\Pv k' s' :=
    λ{H' s' m' st} I' e' S' c' r'=>⟨ws.length - (k+1),by omega,k+1,rfl,hlt,some v,H',st,m',I'.nU,T.keep _ _ _ XM λb hb o e=>(I'.pin (b,o) (eB _ (eB _ (jF hb e)))).1,λb hb=>by
     obtain⟨o,e,_⟩:=T.obj _ _ XM b hb
     exact(I'.pin (b,o) (eB _ (eB _ (jF hb e)))).2.1,e',S',c',r'⟩
   cases eg:gt (some ws[k]::ρc) Et with
   | err c RO=>
    rw[eg] at dU
    refine afh (hT s3.heap.objs.size s3 H3 (X.pn++pins) EX (hH.at I3) (some ws[k]::ρc) Et (some v::σc) H7 m5 (λ_ _=>False) S5 R8 (by rw[eg];exact noted Mr dU.symm) ([]++gW fp s7.heap) s8 I8') (λ_ _ h9=>?_) λ_ _ z=>z
    obtain⟨_,_,z⟩:=h9
    exact z.elim
   | bad=>rw[eg] at dU;exact absurd dU.symm nb
   | ok b RO=>
    rw[eg] at dU
    have RK:=hT s3.heap.objs.size s3 H3 (X.pn++pins) EX (hH.at I3) (some ws[k]::ρc) Et (some v::σc) H7 m5 (λb' H'=>b'=b/\∃m',Ext X.K m5 H7 m' H'/\bq X.K m' RO H') S5 R8 (by rw[eg];exact λm' H' e' S'=>⟨rfl,m',e',S'⟩) ([]++gW fp s7.heap) s8 I8'
    refine afh RK (λok s9 h9=>?_) λ_ _ z=>z
    obtain⟨H9,I9,rfl,m9,e9,S9⟩:=h9
    cases ok with
    | false=>
     dsimp only at dU
     by_cases c6:ck RO
     ·rw[if_pos c6] at dU
      rw[if_neg bt]
      exact back I9 (e5.trans e9) S9 c6 dU
     ·rw[if_neg c6] at dU;exact absurd dU.symm nb
    | true=>
     dsimp only at dU
     rw[if_pos rfl]
     cases ee:ge (some ws[k]::ρc) RO with
     | err c VZ=>
      rw[ee] at dU
      refine afh (hE s3.heap.objs.size s3 H3 (X.pn++pins) EX (hH.at I3) (some ws[k]::ρc) RO (some v::σc) H9 m9 (λ_ _=>False) S9 (R8.mono e9) (by rw[ee];exact noted (Mr.trans e9) dU.symm) ([]++gW fp s7.heap) s9 I9) (λ_ _ XN=>?_) λ_ _ z=>z
      obtain⟨_,_,_,_,z⟩:=XN
      exact z.elim
     | bad=>rw[ee] at dU;exact absurd dU.symm nb
     | ok w VZ=>
      rw[ee] at dU
      dsimp only at dU
      cases ea:pE (.ref st1.length) w VZ with
      | err c XO=>rw[ea] at dU;exact absurd dU.symm nb
      | bad=>rw[ea] at dU;exact absurd dU.symm nb
      | ok w2 XO=>
       rw[ea] at dU
       dsimp only at dU
       by_cases c8:ck XO
       ·rw[if_pos c8] at dU
        have el:=hE s3.heap.objs.size s3 H3 (X.pn++pins) EX (hH.at I3) (some ws[k]::ρc) RO (some v::σc) H9 m9 (λv' H'=>∃m',Ext X.K m9 H9 m' H'/\bq X.K m' VZ H'/\ag X.K m' H' w v') S9 (R8.mono e9) (by rw[ee];exact λv' m' H' e' S' r'=>⟨m',e',S',r'⟩) ([]++gW fp s7.heap) s9 I9
        refine afh el (λu2 mE XN=>?_) λ_ _ z=>z
        obtain⟨v2,OU,I10,r2,XQ,e10,S10,XR⟩:=XN
        obtain⟨r,h1,h2⟩:=F2 (X:=Xc)
        have eA:=(e5.trans e9).trans e10
        have ro:ag X.K XQ OU (.ref st1.length) (.ref D):=by unfold ag;exact⟨D,rfl,eA.pre _ _ VX⟩
        have rd:=h2 (.ref st1.length) w (.ref D) v2 VZ OU XQ (λ_ H'=>∃m',Ext X.K XQ OU m' H'/\bq X.K m' XO H') S10 ro XR (by rw[ea];exact λv' m' H' e' S' r'=>⟨m',e',S'⟩)
        refine afh (h1 ([]++gW fp s7.heap) mE (some v::σc) OU (.ref D) [v2] (.ref D) [u2] _ I10 rfl (.cons r2 .nil) rd) (λ_ F8 h11=>?_) λ_ _ z=>z
        obtain⟨_,H11,I11,_,m11,e11,S11⟩:=h11
        exact back I11 (eA.trans e11) S11 c8 dU
       ·rw[if_neg c8] at dU;exact absurd dU.symm nb
  ·have ek:k=ws.length:=by omega
   subst ek
   refine a7 (T.done Xc rfl rfl rfl (hY _ _ _ _ _ _ _ _ I3) _ [] s5 (z5::σc) H5 _ I5 (XJ H5 VM) tn5 (hstop _ H5 m5 Et Mr S5 c5 rfl)) λr s6 h6=>?_
   obtain⟨rfl,I6⟩:=h6
   rw[rP] at dU
   obtain⟨mm,ns6,_⟩:=id I6.loc
   have fC:=I3.vo (H':=H5) (ao _) I6.free
   exact fin Et dU.symm D _ mm m5 H5 _ Mr S5 (e5.pre _ _ VX) (F5 I3 f3 I6) fC ns6 fC.2.2.2.2.1
 have p0:Pv 0 { s3 with heap:=h4,toks:=s3.toks+([]:List (Str×ae0)).length }:=⟨none,H3,st1++[Ob.lst []],m3,hss ▸ Ic EX,t4,λb hb=>(f3 b hb).1,Ext.refl,S3,hck,by rw[kK];exact run⟩
 exact codeAny_compStart_list (loop _ p0) (T.self X.A 0 _ _ _ t4 (loop _ p0))
end
abbrev Wk:=Option Nat×List Wv
def kL(w:Wk)(st:Hs):Prop:=match w.1 with
 | some l=>aq st l=some w.2
 | none=>True
structure uN(X:Cx)(w:Wk)(m1:Mp)(H1:Hp)(J':It):Prop where
 go:∀(k:Nat)(H:Hp)(m':Mp)(st:Hs),Ext X.K m1 H1 m' H->bq X.K m' st H->kL w st->k < w.2.length->J'.go k H
 stop:∀(k:Nat)(H:Hp)(m':Mp)(st:Hs),Ext X.K m1 H1 m' H->bq X.K m' st H->kL w st->k=w.2.length->J'.stop k H
 xl:∀(k:Nat)(hk:k < w.2.length)(H:Hp)(v:V)(H':Hp)(m':Mp)(st:Hs),Ext X.K m1 H1 m' H->bq X.K m' st H->kL w st->J'.xl k H v H'->H'=H/\ag X.K m' H w.2[k] v
abbrev GI:=bD->Hs->Re Wk
def XS(Y:Cx->Prop)(X:Cx)(pins:List (aeU×Obj))(σ:St)(tg:Expr)(R:It->Hp->Prop)(itv:ae0)(s2:aeZ):Prop :=
 ∃(it:aeU)(fp:List aeU)(tn:Nat->Heap->Prop)(J:It)(H':Hp),itv= .ref it/\Inv X pins σ H' s2/\F7 Y X.prog X.w X.K tg J fp it tn/\tn 0 s2.heap/\(∀b∈fp,iE X pins H' b)/\R J H'
def PIY(Y:Cx->Prop)(X:Cx)(tg iter:Expr)(wi:TI):Prop:=∀(pins:List (aeU×Obj))(s:aeZ)(σ:St)(H:Hp)(R:It->Hp->Prop),Inv X pins σ H s->wi σ H R->
 afd (model X.prog X.w) X.A (eval iter X.env) (λv s1=>afd (model X.prog X.w) X.A (pyIter v) (XS Y X pins σ tg R) X.xe s1) X.xe s
theorem _root_.L2.PI.y{X:Cx}{tg iter:Expr}{wi:TI}(h:PI X tg iter wi):PIY Calm X tg iter wi:=λpins s σ H R I q=>a7 (h pins s σ H R I q) λ_ _ h1=>a7 h1 λ_ _ h2=>
 let ⟨it,fp,tn,J,H',e,I',T,r⟩:=h2;⟨it,fp,tn,J,H',e,I',T.y,r⟩
def V8(Y:Cx->Prop)(X:Cx)(tg iter:Expr)(gi:GI):Prop:=∃wi,PIY Y X tg iter wi/\∀(ρ:bD)(st:Hs)(σ:St)(H:Hp)(m:Mp)(R:It->Hp->Prop),bq X.K m st H->az X.K m H ρ σ->
 aw X σ m H (gi ρ st) (λw st1=>∀(m1:Mp)(H1:Hp)(J':It),Ext X.K m H m1 H1->bq X.K m1 st1 H1->kL w st1->uN X w m1 H1 J'->R J' H1)->wi σ H R
def JI(X:Cx)(tg iter:Expr)(gi:GI):Prop:=∃wi,PI X tg iter wi/\∀(ρ:bD)(st:Hs)(σ:St)(H:Hp)(m:Mp)(R:It->Hp->Prop),bq X.K m st H->az X.K m H ρ σ->
 aw X σ m H (gi ρ st) (λw st1=>∀(m1:Mp)(H1:Hp)(J':It),Ext X.K m H m1 H1->bq X.K m1 st1 H1->kL w st1->uN X w m1 H1 J'->R J' H1)->wi σ H R
theorem JI.y{X:Cx}{tg iter:Expr}{gi:GI}(h:JI X tg iter gi):V8 Calm X tg iter gi:=let ⟨wi,h1,h2⟩:=h;⟨wi,h1.y,h2⟩
def OV(w:Wv)(st:Hs):Re Wk:=match w with
 | .ref l=>(match aq st l with | some ws=> .ok (some l,ws) st | none=> .bad)
 | .tup ws=> .ok (none,ws) st
 | .qh ws=> .ok (none,ws) st
 | _=> .bad
def F9(g:GE):GI:=λρ st=>(g ρ st).bind OV
section
variable {X:Cx}
theorem OW{tg iter:Expr}{g:GE}(h:JE X iter g):JI X tg iter (F9 g):=by
 refine⟨_,FP aE,λρ st σ H m Q S R p=>?_⟩
 refine h.go S R (aw.bind p) λw st1 v m1 H1 p1 e1 S1 rw'=>?_
 cases w with
 | ref l=>
  unfold ag at rw'
  obtain⟨a,rfl,hla⟩:=rw'
  unfold OV at p1
  cases el:aq st1 l with
  | none=>simp only[el] at p1;exact aa p1
  | some ws=>
   simp only[el] at p1
   obtain⟨zd,q0,_⟩:=S1.read hla el
   refine⟨a,rfl,.inl ⟨⟨zd,q0⟩,p1 m1 H1 _ e1 S1 el ⟨λk H' m' st' e S' c hk=>?_,λk H' m' st' e S' c hk=>?_,λk hk H' v xf m' st' e S' c y=>?_⟩⟩⟩
   ·obtain⟨xs,hq,rws⟩:=S'.read (e.pre _ _ hla) c
    have hx':k < xs.length:=by rw[<-rws.length];exact hk
    exact⟨xs,xs[k],hq,by simp[hx']⟩
   ·obtain⟨xs,hq,rws⟩:=S'.read (e.pre _ _ hla) c
    exact⟨xs,hq,by rw[<-rws.length,hk];exact ao _⟩
   ·obtain⟨xs,hq,rws⟩:=S'.read (e.pre _ _ hla) c
    obtain⟨ee,y⟩:=y
    refine⟨ee,?_⟩
    obtain⟨x',ex',pq⟩:=rws.get (i:=k) (w:=ws[k]) (cu hk)
    rw[y xs hq] at ex'
    cases ex'
    exact pq
 | tup ws=>
  unfold ag at rw'
  obtain⟨a,xs,rfl,hq,rws⟩:=rw'
  refine⟨a,rfl,.inr ⟨⟨xs,ft.of hq⟩,p1 m1 H1 _ e1 S1 trivial ⟨λk H' m' st' e S' c hk=>?_,λk H' m' st' e S' c hk=>?_,λk hk H' v xf m' st' e S' c y=>?_⟩⟩⟩
  ·have hx':k < xs.length:=by rw[<-rws.length];exact hk
   exact⟨xs,xs[k],ft.of (e.tup _ _ hq),by simp[hx']⟩
  ·exact⟨xs,ft.of (e.tup _ _ hq),by rw[<-rws.length,hk];exact ao _⟩
  ·obtain⟨ee,y⟩:=y
   refine⟨ee,?_⟩
   obtain⟨x',ex',pq⟩:=(ah.mono e _ _ rws).get (i:=k) (w:=ws[k]) (cu hk)
   rw[y xs (ft.of (e.tup _ _ hq))] at ex'
   cases ex'
   exact pq
 | qh ws=>
  unfold ag at rw'
  obtain⟨a,xs,rfl,hq,rws⟩:=rw'
  refine⟨a,rfl,.inr ⟨⟨xs,.inr hq⟩,p1 m1 H1 _ e1 S1 trivial ⟨λk H' m' st' e S' c hk=>?_,λk H' m' st' e S' c hk=>?_,λk hk H' v xf m' st' e S' c y=>?_⟩⟩⟩
  ·have hx':k < xs.length:=by rw[<-rws.length];exact hk
   exact⟨xs,xs[k],.inr hq,by simp[hx']⟩
  ·exact⟨xs,.inr hq,by rw[<-rws.length,hk];exact ao _⟩
  ·obtain⟨ee,y⟩:=y
   refine⟨ee,?_⟩
   obtain⟨x',ex',pq⟩:=(ah.mono e _ _ rws).get (i:=k) (w:=ws[k]) (cu hk)
   rw[y xs (.inr hq)] at ex'
   cases ex'
   exact pq
 | _=>exact aa p1
theorem OX{lo:Int}{n:Nat}{m1:Mp}{H1:Hp}:uN X (none,dD lo n) m1 H1 (NG lo n) where
 go:=λk H m' st e S c hk=>by
  have:(dD lo n).length=n:=dE
  have hk':k < (dD lo n).length:=hk
  rw[this] at hk';exact hk'
 stop:=λk H m' st e S c hk=>by
  have:(dD lo n).length=n:=dE
  have hk':k=(dD lo n).length:=hk
  rw[this] at hk';exact nX hk'.symm
 xl:=λk hk H v H' m' st e S c y=>by
  obtain⟨y1,y2⟩:=y
  refine⟨y1,?_⟩
  have q:(dD lo n)[k]'hk= .int (lo+k):=xK hk
  show ag X.K m' H ((dD lo n)[k]'hk) v
  rw[q,y2]
  exact mkInt
def xS(ws:List Wv)(st:Hs):Re Wk:=match ws with
 | [.int j]=>if mV j then .ok (none,dD 0 j.toNat) st else .bad
 | _=> .bad
def Ms(ws:List Wv)(st:Hs):Re Wk:=match ws with
 | [.int a,.int j]=>if mV a/\mV j then .ok (none,dD a (j - a).toNat) st else .bad
 | _=> .bad
def Kq(g:GA):GI:=λρ st=>(g ρ st).bind xS
def XT(g:GA):GI:=λρ st=>(g ρ st).bind Ms
theorem TX{tg a:Expr}{ga:GA}{p q:Pos}(hg:Gl X "range")(hm:X.mg "range"=none)(ha:JA X [a] ga)(hst:afc [a] X.env=[(false,eval a X.env)]):JI X tg (.Call (.Name "range" p) [a] [] q) (Kq ga):=by
 refine⟨_,uw hg hm mC hst,λρ st σ H m Q S R p=>?_⟩
 refine ha.go S R (aw.bind p) λws st1 vs m1 H1 p1 e1 S1 rs=>?_
 match ws,rs,p1 with
 | [],rs,p1=>exact aa p1
 | x::y::t,rs,p1=>cases x<;>exact aa p1
 | [x],rs,p1=>
  obtain⟨v,rfl,r1⟩:=kH rs
  cases x with
  | int j=>
   cases aW r1
   unfold xS at p1
   by_cases c:mV j
   ·simp only[if_pos c] at p1
    exact⟨j,rfl,c.1,c.2,p1 m1 H1 _ e1 S1 trivial OX⟩
   ·simp only[if_neg c] at p1;exact aa p1
  | _=>exact aa p1
def F_:GI:=λ_ _=> .bad
theorem Ga{tg iter:Expr}:PI X tg iter (λ_ _ _=>False):=λ_ _ _ _ _ _ h=>h.elim
theorem Gb{tg iter:Expr}:JI X tg iter F_:=⟨_,Ga,λρ st σ H m Q S R p=>p⟩
def eI(cs:gD)(gt:GT)(ge:GE)(ρ:bD)(w:Wk)(st:Hs):Re Wv:=match kJ (kL w) (λv=>gt (some v::gE cs ρ)) (λv=>ge (some v::gE cs ρ)) st.length w.2 (st++[.lst []]) with
 | some A9=> .ok (.ref st.length) A9
 | none=> .bad
def hI(cs:gD)(gi:GI)(gt:GT)(ge:GE):GE:=λρ st=>(gi ρ st).bind λw st1=>eI cs gt ge ρ w st1
theorem C6{st:Hs}{l:Nat}{ws:List Wv}{more:Hs}(h:aq st l=some ws):aq (st++more) l=some ws:=by
 unfold aq at h ⊢
 cases e:st[l]? with
 | none=>rw[e] at h;cases h
 | some o=>
  have hl:=(List.getElem?_eq_some_iff.mp e).1
  rw[gX hl,e]
  rw[e] at h
  exact h
theorem rT{w:Wk}{st more:Hs}(h:kL w st):kL w (st++more):=by
 obtain⟨o,ws⟩:=w
 cases o with
 | none=>trivial
 | some l=>exact C6 h
theorem A_{scope:Scope}{x:Str}{cs:gD}{px pos:Pos}{elt iter:Expr}{ifs:List Expr}{gi:GI}{gt:GT}{ge:GE}{use:Option (ae0->Sem Unit)}{Q:ae0->aeZ->Prop}{P:Wv->Hs->Prop}
  {ρ:bD}{st:Hs}{σ:St}{H:Hp}{m:Mp}{pins:List (aeU×Obj)}{s:aeZ}{ps:Pos}
  {Y:Cx->Prop}(fr:F6 X)(CS:eG X scope x cs)(hc:TU Y X)(hH:OR X)(hi:V8 Y X (.Name x px) iter gi)(hE:∀C s0 H0 fp pn E,C5 X.A H0->JE (f9 X scope x cs C s0 H0 fp pn E) elt ge)(hT:∀C s0 H0 fp pn E,C5 X.A H0->Mq (f9 X scope x cs C s0 H0 fp pn E) ifs gt)(hs:∀x,ae8 iter X.env x=pure x)
  (S:bq X.K m st H)(R:az X.K m H ρ σ)(I:Inv X pins σ H s)(p:aw X σ m H (hI cs gi gt ge ρ st) P)
  (fin:∀(w:Wv)(A9:Hs)(v:V)(D C:aeU)(mm:Str->Option ae0)(m':Mp)(H':Hp)(s':aeZ),P w A9->Ext X.K m H m' H'->bq X.K m' A9 H'->ag X.K m' H' w v->v= .ref D->Inv X pins σ H' s'->iE X pins H' C->s'.heap.Ns C mm->ae6 (model X.prog X.w) X.A X.xe use Q (.ref D) C (.ok .next) s') :
  afd (model X.prog X.w) X.A (comprehension (.ListComp elt [⟨.Name x px,iter,ifs,0⟩] scope pos) scope X.env ps (newList []) false (eval iter X.env) use) Q X.xe s:=by
 obtain⟨wi,XU,hw⟩:=hi
 let R':It->Hp->Prop:=λJ' H1=>∃(w:Wk)(st1:Hs)(m1:Mp),aw X σ m H (eI cs gt ge ρ w st1) P/\Ext X.K m H m1 H1/\bq X.K m1 st1 H1/\kL w st1/\uN X w m1 H1 J'
 have hr:=hw ρ st σ H m R' S R ((aw.bind p).imp Ext.refl λw st1 q m1 H1 J' e1 S1 c1 C7=>⟨w,st1,m1,q,e1,S1,c1,C7⟩)
 refine wpAny_comprehension_free (g:=⟨.Name x px,iter,ifs,0⟩) (gs:=[]) (cl:=pG X.env scope.names []) rfl hs (Kl (CS.has I.ok)) CS.kind (λy hy e=>by rw[CS.look y hy,e]) (a7 (XU pins s σ H R' I hr) λv s1 h1=>a7 h1 λitv s2 h2=>?_)
 obtain⟨it,fp,tn,J',H1,rfl,I2,T,t0,f2,w,st1,m1,q,e1,S1,c1,C7⟩:=h2
 unfold eI at q
 cases run:kJ (kL w) (λv=>gt (some v::gE cs ρ)) (λv=>ge (some v::gE cs ρ)) st1.length w.2 (st1++[.lst []]) with
 | none=>
  rw[run] at q
  exact aa q
 | some A9=>
  rw[run] at q
  refine zH (use:=use) (Q:=Q) fr CS hc hH I2 T t0 f2 S1 (R.mono e1) (rT c1) (rS _ _ run) (by intro z;cases z) (λc' acE z=>by cases z) (λC s0 H0 pn E=>hE C s0 H0 fp pn E) (λC s0 H0 pn E=>hT C s0 H0 fp pn E) C7.go C7.stop C7.xl ?_
  intro acF z D C mm m' H' s' e' S' VX I' fC ns _
  cases z
  exact fin _ A9 (.ref D) D C mm m' H' s' q (e1.trans e') S' (by unfold ag;exact⟨D,rfl,VX⟩) rfl I' fC ns
theorem Ba{scope:Scope}{x:Str}{cs:gD}{px pos:Pos}{elt iter:Expr}{ifs:List Expr}{gi:GI}{gt:GT}{ge:GE}
  {Y:Cx->Prop}(fr:F6 X)(CS:eG X scope x cs)(hc:TU Y X)(hH:OR X)(hi:V8 Y X (.Name x px) iter gi)(hE:∀C s0 H0 fp pn E,C5 X.A H0->JE (f9 X scope x cs C s0 H0 fp pn E) elt ge)(hT:∀C s0 H0 fp pn E,C5 X.A H0->Mq (f9 X scope x cs C s0 H0 fp pn E) ifs gt)(hs:∀x,ae8 iter X.env x=pure x) :
  JE X (.ListComp elt [⟨.Name x px,iter,ifs,0⟩] scope pos) (hI cs gi gt ge):=λρ st σ H m Q S R p pins s I=>by
 rw[eval_ListComp]
 refine A_ (use:=none) fr CS hc hH hi hE hT hs S R I p ?_
 intro w A9 v D C mm m' H' s' q e' S' rw' ev I' fC ns
 exact⟨mm,ns,λh' same=>⟨.ref D,H',uM I' fC same,rfl,ev ▸ q v m' H' e' S' rw'⟩⟩
theorem Kr(i:Nat){scope:Scope}{x y:Str}{cs:gD}{px pos spos py:Pos}{elt iter:Expr}{ifs:List Expr}{gi:GI}{gt:GT}{ge:GE}(hN:X.N.Nodup)
  {Y:Cx->Prop}(fr:F6 X)(CS:eG X scope x cs)(hc:TU Y X)(hH:OR X)(hi:V8 Y X (.Name x px) iter gi)(hE:∀C s0 H0 fp pn E,C5 X.A H0->JE (f9 X scope x cs C s0 H0 fp pn E) elt ge)(hT:∀C s0 H0 fp pn E,C5 X.A H0->Mq (f9 X scope x cs C s0 H0 fp pn E) ifs gt)(hs:∀x,ae8 iter X.env x=pure x)
  (hx:X.N[i]? =some y)(hl:Loc X.env.scope y)(hf:X.fn y=true\/X.env.scope.names.lookup y=some .local) :
  JS X (.Assign [.Name y py] (.ListComp elt [⟨.Name x px,iter,ifs,0⟩] scope pos) spos) (bB i (hI cs gi gt ge)):=by
 have sw:∃b,swapsWith (.ListComp elt [⟨.Name x px,iter,ifs,0⟩] scope pos) (some (.Name y py)) spos.line X.env=pure b:=⟨_,rfl⟩
 obtain⟨b,sw⟩:=sw
 cases b with
 | false=>exact zC i hN (Ba fr CS hc hH hi hE hT hs) hx hl sw hf
 | true=>
  intro ρ st σ H m D S R p pins s I
  rw[exec_Assign_Name_used _ _ _ _ sw]
  refine afe (wpAny_standAt (afe ?_))
  show afd _ X.A (do let _ <-comprehension (.ListComp elt [⟨.Name x px,iter,ifs,0⟩] scope pos) scope X.env _ (newList []) false (eval iter X.env) (some (assign (.Name y py) X.env))) _ _ s
  refine afe (afh (A_ (use:=some (assign (.Name y py) X.env)) (Q:=λ_ s'=>SP X pins D .next s') fr CS hc hH hi hE hT hs S R I (aA.bW R p) ?_) (λ_ s' hq=>afk (afk hq)) λ_ _ e=>e)
  intro w A9 v D' C mm m' H' s' q e' S' rw' ev I' fC ns
  refine wpAny_assign_Name (uu (i:=i) I' hN hx hl (show RelV v (.ref D') by rw[ev];rfl) (λs2 I2 h2=>?_) hf)
  obtain⟨a,sb,ha⟩:=h2
  have hca:C≠a:=by
   rcases ha with z | z
   ·rw[z];exact fC.2.1
   ·exact bI (fC.2.2.2.2.1 y a z)
  exact⟨mm,ns.sameBut sb hca,λh' same=>⟨_,_,uM I2 fC same,q _ m' H' e' S' ((R.mono e').set i rw')⟩⟩
end
section
variable {X:Cx}
def OY(n:Nat)(k:Int):Prop:=-(2 ^ 62)<=k/\k < 2 ^ 62/\n * k.toNat<=lim
instance {n k}:Decidable (OY n k):=FQ _
def rV:fS
 | .ref l,.int n,st=>match st[l]? with
  | some (.lst ws)=>if OY ws.length n then .ok (.ref st.length) (st++[.lst (aC n.toNat ws).flatten]) else .bad
  | _=> .bad
 | x,y,st=>Mn x y st
theorem uO{K:PySem.W.Frag}{m:Mp}{H:Hp}{ws:List Wv}{xs:List V}(r:ah K m H ws xs):∀n:Nat,ah K m H (aC n ws).flatten (aC n xs).flatten
 | 0=>ah.nil
 | n+1=>by
  rw[gy,rE,gy,rE]
  exact r.append (uO r n)
theorem Kt:jD X (ae3 .Mult) rV:=by
 obtain⟨r,h1,h2⟩:=Ke (X:=X)
 refine⟨_,ef.or N6 h1,λx y a b st H m Q S rx ry p=>?_⟩
 unfold rV at p
 split at p
 ·rename_i l n
  unfold ag at rx
  obtain⟨a1,rfl,hl⟩:=rx
  cases aW ry
  cases e:st[l]? with
  | none=>rw[e] at p;exact aa p
  | some o=>
   cases o with
   | dct kvs=>rw[e] at p;exact aa p
   | bu kvs=>rw[e] at p;exact aa p
   | fW kvs=>rw[e] at p;exact aa p
   | rH ns=>rw[e] at p;exact aa p
   | lst ws=>
    rw[e] at p
    dsimp only at p
    by_cases c:OY ws.length n
    ·rw[if_pos c] at p
     obtain⟨xs,q1,q2⟩:=S.og hl e
     refine .inl ⟨a1,n,xs,rfl,rfl,q1,by have:=c.1;omega,by have:=c.2.1;omega,by rw[<-q2.length];exact dR c.2.2,λq hq=>?_⟩
     exact jr p Ext.refl S (uO q2 n.toNat) q hq
    ·rw[if_neg c] at p;exact aa p
 ·exact .inr (h2 x y a b st H m Q S rx ry p)
def oA:List Wv->Option (List Bool)
 | []=>some []
 | .bl b::r=>(match oA r with | some l=>some (b::l) | none=>none)
 | _=>none
def xT:List Wv->Hs->Re Wv
 | [.ref l],st=>match aq st l with
  | some ws=>(match oA ws with | some bs=> .ok (.bl (bs.all id)) st | none=> .bad)
  | none=> .bad
 | _,_=> .bad
theorem uP{K:PySem.W.Frag}{m:Mp}{H:Hp}:∀{ws:List Wv}{xs:List V}{bs:List Bool},ah K m H ws xs->oA ws=some bs->xs=bs.map V.bl
 | [],xs,bs,r,h=>by
  unfold ah at r
  cases h
  exact r
 | w::ws,xs,bs,r,h=>by
  unfold ah at r
  obtain⟨x,t,rfl,r1,r2⟩:=r
  cases w with
  | bl b=>
   unfold oA at h
   cases e:oA ws with
   | none=>rw[e] at h;cases h
   | some l=>
    rw[e] at h
    cases h
    unfold ag at r1
    rw[r1,uP r2 e]
    rfl
  | _=>cases h
theorem Bb:∀{bs:List Bool}{its:List ae0},Vals (bs.map V.bl) its->its=bs.map qL
 | [],its,r=>by cases r;rfl
 | b::bs,its,r=>by
  cases r with
  | cons h t=>
   cases h
   rw[aB,Bb t]
theorem all_range:∀(bs:List Bool),(gq bs.length).all (λi=>bs.getD i true)=bs.all id
 | []=>rfl
 | b::bs=>by
  rw[n_,List.range_succ_eq_map,fb,List.all_map,fb,<-all_range bs]
  rfl
theorem C8(hc:X.calm=true):cA X (.builtin "all") (λxs H Q=>∃(p:aeU)(bs:List Bool),xs=[.ref p]/\kC X.K H p (bs.map V.bl)/\Q (.bl (bs.all id)) H):=by
 intro pins s σ H xs us Q I r h
 obtain⟨p,bs,rfl,hq,q⟩:=h
 obtain⟨u,rfl,rx⟩:=vals1 r
 cases rx
 obtain⟨its,r',pl,hz⟩:=I.list hq
 have hb:=Bb r'
 subst hb
 have hl:=pl.isList
 have hlt:p < s.heap.objs.size:=by obtain⟨_,e,_⟩:=hl;exact aK e
 refine call_all_walk (wpAny_pyIter_list hl ?_)
 refine⟨_,_,_,_,_,_,λi=>bs.getD i true,rfl,Walks.list (A:=X.A.in1) (I.ok.hd hc) _ p (bh hlt) (bs.map qL).toArray,⟨⟨_,br _ rfl,rfl,rfl⟩,hl.push _⟩,?_,λh' tk hk=>?_⟩
 ·intro i v s' Q' E' hP hQ
  have TY:(bs.map qL).toArray[i]? =some v:=hP
  rw[Ku,dQ] at TY
  cases e:bs[i]? with
  | none=>rw[e] at TY;cases TY
  | some b=>
   rw[e] at TY
   cases TY
   have:(bs.getD i true)=b:=by rw[OZ,e];rfl
   dsimp only at hQ
   rw[this] at hQ
   exact afl hQ
 ·have hk':∀b o,s.heap.get? b=some o->h'.get? b=some o:=old_kept hk
  refine⟨.bl _,H,I.kept (t':=tk) hk',?_,q⟩
  rw[<-all_range bs]
  simp only[aP,bb]
  rfl
theorem O0(hc:X.calm=true):cO X (.builtin "all") xT:=⟨_,C8 hc,λws vs st H m Q S rs p=>by
 match ws,rs,p with
 | [],rs,p=>exact aa p
 | x::y::t,rs,p=>cases x<;>exact aa p
 | [x],rs,p=>
  obtain⟨v,rfl,r1⟩:=kH rs
  cases x with
  | ref l=>
   unfold xT at p
   unfold ag at r1
   obtain⟨a,rfl,hl⟩:=r1
   cases e:aq st l with
   | none=>simp only[e] at p;exact aa p
   | some ws=>
    simp only[e] at p
    cases e2:oA ws with
    | none=>simp only[e2] at p;exact aa p
    | some bs=>
     simp only[e2] at p
     obtain⟨xs,q1,q2⟩:=S.read hl e
     have q3:=uP q2 e2
     subst q3
     exact⟨a,bs,rfl,q1,p _ m H Ext.refl S g_⟩
  | _=>exact aa p⟩
def rW:List Wv->Hs->Re Wv
 | [.ref l],st=>match aq st l with
  | some ws=> .ok (.ref st.length) (st++[.lst ws])
  | none=> .bad
 | [.tup ws],st=> .ok (.ref st.length) (st++[.lst ws])
 | _,_=> .bad
theorem Kv:cO X (.type "list") rW:=⟨_,vF,λws vs st H m Q S rs p=>by
 match ws,rs,p with
 | [],rs,p=>exact aa p
 | x::y::t,rs,p=>cases x<;>exact aa p
 | [x],rs,p=>
  obtain⟨v,rfl,r1⟩:=kH rs
  cases x with
  | ref l=>
   unfold rW at p
   unfold ag at r1
   obtain⟨a,rfl,hl⟩:=r1
   cases e:aq st l with
   | none=>simp only[e] at p;exact aa p
   | some ws=>
    simp only[e] at p
    obtain⟨xs,q1,q2⟩:=S.read hl e
    exact⟨a,xs,rfl,.inl q1,λq hq=>jr p Ext.refl S q2 q hq⟩
  | tup ws=>
   unfold ag at r1
   obtain⟨a,xs,rfl,q1,q2⟩:=r1
   exact⟨a,xs,rfl,.inr (ft.of q1),λq hq=>jr p Ext.refl S q2 q hq⟩
  | _=>exact aa p⟩
def qm:List Wv->Hs->Re Wv
 | [.ref l],st=>match aq st l with
  | some ws=> .ok (.tup ws) st
  | none=> .bad
 | [.tup ws],st=> .ok (.tup ws) st
 | _,_=> .bad
theorem O1:cO X (.type "tuple") qm:=⟨_,tT,λws vs st H m Q S rs p=>by
 match ws,rs,p with
 | [],rs,p=>exact aa p
 | x::y::t,rs,p=>cases x<;>exact aa p
 | [x],rs,p=>
  obtain⟨v,rfl,r1⟩:=kH rs
  cases x with
  | ref l=>
   unfold qm at p
   unfold ag at r1
   obtain⟨a,rfl,hl⟩:=r1
   cases e:aq st l with
   | none=>simp only[e] at p;exact aa p
   | some ws=>
    simp only[e] at p
    obtain⟨xs,q1,q2⟩:=S.read hl e
    refine⟨a,xs,rfl,.inl ⟨q1,λq hq=>?_⟩⟩
    have e2:Ext X.K m H m (upd H q (.tup xs)):=Ext.upd (.inl hq)
    exact p (.ref q) m _ e2 (S.fresh hq) (by unfold ag;exact⟨q,xs,rfl,aF,ah.mono e2 _ _ q2⟩)
  | tup ws=>
   have r1':=r1
   unfold ag at r1'
   obtain⟨a,xs,rfl,q1,q2⟩:=r1'
   exact⟨a,xs,rfl,.inr ⟨ft.of q1,p _ m H Ext.refl S r1⟩⟩
  | _=>exact aa p⟩
end
end J
namespace JL
open PySem PyProof.Rows
def kn(p:afm):Int:=numOf p.1
section
variable {prog:aeY} {w:ae1} {A:aeV} {E:ae0->aeZ->Prop} {s:aeZ}
def gp(left:Bool)(key:afm)(arr:Array afm)(base i:Nat):Bool:=if left then decide (K arr (base+i) < kn key) else !decide (kn key < K arr (base+i))
end
section
variable {α:Type} {f:α->Int} {A B:List α}
structure Mg(f:α->Int)(A B out:List α)(ia ib:Nat):Prop where
 pm:out.Perm (A.take ia++B.take ib)
 so:out.Pairwise (f · <=f ·)
 la:∀p∈out,∀q∈A.drop ia,f p<=f q
 lb:∀p∈out,∀q∈B.drop ib,f p<=f q
theorem Mg.swap{out:List α}{ia ib:Nat}(h:Mg f A B out ia ib):Mg f B A out ib ia:=⟨h.pm.trans Kw,h.so,h.lb,h.la⟩
theorem Mg.Gd{out:List α}{ia ib:Nat}(h:Mg f A B out ia ib)(sa:A.Pairwise (f · <=f ·))(k:Nat)(hk:∀p∈(A.drop ia).take k,∀q∈B.drop ib,f p<=f q):Mg f A B (out++(A.drop ia).take k) (ia+k) ib:=by
 have sd:((A.drop ia).take k++(A.drop ia).drop k).Pairwise (f · <=f ·):=by rw[Bc];exact sa.sublist (Ge _ _)
 rw[vU] at sd
 have e:A.take (ia+k)=A.take ia++(A.drop ia).take k:=List.take_add
 have mT:∀p∈(A.drop ia).take k,p∈A.drop ia:=λp hp=>(AQ _ _).mem hp
 have mD:∀p∈(A.drop ia).drop k,p∈A.drop ia:=λp hp=>(Ge _ _).mem hp
 refine⟨?_,?_,?_,?_⟩
 ·rw[e]
  refine(h.pm.append_right _).trans ?_
  rw[kF,kF]
  exact List.perm_append_comm.append_left _
 ·rw[vU]
  exact⟨h.so,sd.1,λp hp q hq=>h.la p hp q (mT q hq)⟩
 ·intro p hp q hq
  rw[<-List.drop_drop] at hq
  rcases List.mem_append.mp hp with z | z
  ·exact h.la p z q (mD q hq)
  ·exact sd.2.2 p z q hq
 ·intro p hp q hq
  rcases List.mem_append.mp hp with z | z
  ·exact h.lb p z q hq
  ·exact hk p z q hq
theorem Mg.O2{out:List α}{ia ib:Nat}(h:Mg f A B out ia ib)(sb:B.Pairwise (f · <=f ·))(k:Nat)(hk:∀q∈(B.drop ib).take k,∀p∈A.drop ia,f q<=f p):Mg f A B (out++(B.drop ib).take k) ia (ib+k) :=
 (h.swap.Gd sb k hk).swap
theorem Mg.fin{out:List α}{ia ib:Nat}(h:Mg f A B out ia ib)(sa:A.Pairwise (f · <=f ·))(sb:B.Pairwise (f · <=f ·))(hk:∀p∈A.drop ia,∀q∈B.drop ib,f p<=f q):(out++A.drop ia++B.drop ib).Perm (A++B)/\(out++A.drop ia++B.drop ib).Pairwise (f · <=f ·):=by
 have tA:(A.drop ia).take A.length=A.drop ia:=oB (by rw[lN];exact Nat.sub_le _ _)
 have tB:(B.drop ib).take B.length=B.drop ib:=oB (by rw[lN];exact Nat.sub_le _ _)
 have h1:=h.Gd sa A.length (by rw[tA];exact hk)
 have nA:A.drop (ia+A.length)=[]:=Gf (by exact Bd _ _)
 have h2:=h1.O2 sb B.length (by rw[nA];intro _ _ _ z;cases z)
 rw[tA,tB] at h2
 have k1:A.take (ia+A.length)=A:=oB (by exact Bd _ _)
 have k2:B.take (ib+B.length)=B:=oB (by exact Bd _ _)
 have pm:=h2.pm
 rw[k1,k2] at pm
 exact⟨pm,h2.so⟩
end
abbrev V9(st:afn)(g:Nat):afn:=SortSt.mk' (kindOf st) (arrOf st) (pendingOf st) g (failedOf st)
def Up(l:List afm):Prop:=l.Pairwise (kn · <=kn ·)
def Fin'(a b:List afm)(r:Array afm):Prop:=r.toList.Perm (a++b)/\Up r.toList
theorem TZ{a:Array afm}{i:Nat}{p:afm}(e:a[i]? =some p):K a i=kn p:=by unfold K;rw[e];rfl
section
variable {prog:aeY} {w:ae1} {A:aeV} {E:ae0->aeZ->Prop} {s:aeZ}
structure Lo(a b out:Array afm)(ia ib:Nat):Prop where
 mg:Mg kn a.toList b.toList out.toList ia ib
 ha:ia+1 < a.size
 hb:ib < b.size
abbrev LoC:=Option (Array afm)×Array afm×Nat×Nat×Nat×Nat×Nat
def LoQ(a b:Array afm)(st:afn)(n:Nat)(r:ForInStep LoC)(st':afn):Prop :=
 (∃g,st'=V9 st g)/\match r with
 | .done c=>(∃r t,c=(some r,t)/\Fin' a.toList b.toList r)\/∃out ia ib mg ac bc,c=(none,out,ia,ib,mg,ac,bc)/\n<=ia+ib/\Lo a b out ia ib
 | .yield c=>∃out ia ib mg ac bc,c=(none,out,ia,ib,mg,ac,bc)/\n<=ia+ib/\Lo a b out ia ib
theorem LoQ.fin{a b:Array afm}{st:afn}{n g:Nat}{r:Array afm}{t:Array afm×Nat×Nat×Nat×Nat×Nat}(h:Fin' a.toList b.toList r):LoQ a b st n (.done (some r,t)) (V9 st g):=⟨⟨g,rfl⟩,.inl ⟨r,t,rfl,h⟩⟩
end
section
variable {α:Type} {f:α->Int} {A B:List α}
structure Mh(f:α->Int)(A B R:List α)(na nb:Nat):Prop where
 pm:R.Perm (A.drop na++B.drop nb)
 so:R.Pairwise (f · <=f ·)
 la:∀q∈A.take na,∀p∈R,f q<=f p
 lb:∀q∈B.take nb,∀p∈R,f q<=f p
theorem Mh.swap{R:List α}{na nb:Nat}(h:Mh f A B R na nb):Mh f B A R nb na:=⟨h.pm.trans Kw,h.so,h.lb,h.la⟩
theorem take_take{i n:Nat}(h:i<=n):A.take n=A.take i++(A.take n).drop i:=by
 have:=Bc i (A.take n)
 rw[List.take_take,Nat.min_eq_left h] at this
 exact this.symm
theorem drop_take{i n:Nat}(h:i<=n):A.drop i=(A.take n).drop i++A.drop n:=by
 have h1:=Bc n A
 have h2:=congrArg (List.drop i) h1
 rw[List.drop_append] at h2
 rw[<-h2]
 by_cases c:n<=A.length
 ·rw[lM,Nat.min_eq_left c,Kx h,kK]
 ·rw[Gf (show A.length<=n by exact Nat.le_of_not_le ‹_›),List.drop_nil]
theorem Mh.Gd{R:List α}{na nb:Nat}(h:Mh f A B R na nb)(sa:A.Pairwise (f · <=f ·))(k:Nat)(k1:k<=na)(hk:∀p∈(A.take na).drop k,∀q∈B.take nb,f q<=f p):Mh f A B ((A.take na).drop k++R) k nb:=by
 have e:=take_take (A:=A) k1
 have st:(A.take na).Pairwise (f · <=f ·):=sa.sublist (AQ _ _)
 rw[e,vU] at st
 have mT:∀p∈(A.take na).drop k,p∈A.take na:=λp hp=>(Ge _ _).mem hp
 have mD:∀p∈A.take k,p∈A.take na:=λp hp=>by rw[e];exact nR _ hp
 refine⟨?_,?_,?_,?_⟩
 ·rw[drop_take (A:=A) k1,kF]
  exact h.pm.append_left _
 ·rw[vU]
  exact⟨st.2.1,h.so,λp hp q hq=>h.la p (mT p hp) q hq⟩
 ·intro q hq p hp
  rcases List.mem_append.mp hp with z | z
  ·exact st.2.2 q hq p z
  ·exact h.la q (mD q hq) p z
 ·intro q hq p hp
  rcases List.mem_append.mp hp with z | z
  ·exact hk p z q hq
  ·exact h.lb q hq p z
theorem Mh.O2{R:List α}{na nb:Nat}(h:Mh f A B R na nb)(sb:B.Pairwise (f · <=f ·))(k:Nat)(k1:k<=nb)(hk:∀p∈(B.take nb).drop k,∀q∈A.take na,f q<=f p):Mh f A B ((B.take nb).drop k++R) na k :=
 (h.swap.Gd sb k k1 hk).swap
theorem Mh.fin{R:List α}{na nb:Nat}(h:Mh f A B R na nb)(sa:A.Pairwise (f · <=f ·))(sb:B.Pairwise (f · <=f ·))(hk:∀p∈B.take nb,∀q∈A.take na,f q<=f p):(A.take na++B.take nb++R).Perm (A++B)/\(A.take na++B.take nb++R).Pairwise (f · <=f ·):=by
 have h1:=h.O2 sb 0 (bJ _) (by rw[kK];exact hk)
 have h2:=h1.Gd sa 0 (bJ _) (by intro _ _ _ z;cases z)
 have pm:=h2.pm
 have so:=h2.so
 rw[kK,kK,<-kF] at so
 rw[kK,kK,kK,kK,<-kF] at pm
 exact⟨pm,so⟩
end
abbrev MhO(a b out:Array afm)(na nb:Nat):Prop:=Mh kn a.toList b.toList out.toList.reverse na nb
structure Hi(a b out:Array afm)(na nb:Nat):Prop where
 mg:MhO a b out na nb
 a0:1<=na
 a1:na<=a.size
 b0:2<=nb
 b1:nb<=b.size
section
variable {prog:aeY} {w:ae1} {A:aeV} {E:ae0->aeZ->Prop} {s:aeZ}
abbrev HiC:=Option (Array afm)×Nat×Nat×Array afm×Nat×Nat×Nat
def HiQ(a b:Array afm)(st:afn)(n:Nat)(r:ForInStep HiC)(st':afn):Prop :=
 (∃g,st'=V9 st g)/\match r with
 | .done c=>(∃r t,c=(some r,t)/\Fin' a.toList b.toList r)\/∃na nb out mg ac bc,c=(none,na,nb,out,mg,ac,bc)/\na+nb<=n/\Hi a b out na nb
 | .yield c=>∃na nb out mg ac bc,c=(none,na,nb,out,mg,ac,bc)/\na+nb<=n/\Hi a b out na nb
theorem HiQ.fin{a b:Array afm}{st:afn}{n g:Nat}{r:Array afm}{t:Nat×Nat×Array afm×Nat×Nat×Nat}(h:Fin' a.toList b.toList r):HiQ a b st n (.done (some r,t)) (V9 st g):=⟨⟨g,rfl⟩,.inl ⟨r,t,rfl,h⟩⟩
end
section
variable {prog:aeY} {w:ae1} {A₀:aeV} {E:ae0->aeZ->Prop} {s:aeZ}
end
def Sm(lo:Nat)(xs ys:Array afm):Prop:=ys.Perm xs/\∀i,i < lo->ys[i]? =xs[i]?
theorem Sm.refl{lo:Nat}{xs:Array afm}:Sm lo xs xs:=⟨.refl _,λ_ _=>rfl⟩
theorem Sm.trans{lo:Nat}{xs ys zs:Array afm}(h1:Sm lo xs ys)(h2:Sm lo ys zs):Sm lo xs zs:=⟨h2.1.trans h1.1,λi hi=>(h2.2 i hi).trans (h1.2 i hi)⟩
theorem Sm.size{lo:Nat}{xs ys:Array afm}(h:Sm lo xs ys):ys.size=xs.size:=h.1.size_eq
theorem Sm.mirror{lo i j:Nat}{xs:Array afm}(h:lo<=i)(hj:j<=xs.size):Sm lo xs (mirror xs i j ((j - i) / 2)) :=
 ⟨mirror_perm _ _ _ _,λk hk=>by rw[getElem?_mirror_all hj,if_neg (by omega)]⟩
def Ky(xs:Array afm)(lo n:Nat):Prop:=∀i j,i<=j->j < n->K xs (lo+i)<=K xs (lo+j)
def V_(xs:Array afm)(lo n:Nat):Prop:=∀i j,i<=j->j < n->K xs (lo+j)<=K xs (lo+i)
theorem Ky.step{xs:Array afm}{lo n:Nat}(h:Ky xs lo n)(h1:1<=n)(c:¬K xs (lo+n) < K xs (lo+n - 1)):Ky xs lo (n+1):=λi j hij hj=>by
 by_cases z:j < n
 ·exact h i j hij z
 ·have:j=n:=by omega
  subst this
  by_cases y:i=j
  ·subst y;exact zI _
  ·have:=h i (j - 1) (by omega) (by omega)
   rw[show lo+(j - 1)=lo+j - 1 by omega] at this
   omega
theorem V_.step{xs:Array afm}{lo n:Nat}(h:V_ xs lo n)(h1:1<=n)(c:K xs (lo+n)<=K xs (lo+n - 1)):V_ xs lo (n+1):=λi j hij hj=>by
 by_cases z:j < n
 ·exact h i j hij z
 ·have:j=n:=by omega
  subst this
  by_cases y:i=j
  ·subst y;exact zI _
  ·have:=h i (j - 1) (by omega) (by omega)
   rw[show lo+(j - 1)=lo+j - 1 by omega] at this
   exact Int.le_trans ‹_› ‹_›
theorem Ky.one{xs:Array afm}{lo:Nat}:Ky xs lo 1:=λi j h1 h2=>by
 have:i=j:=by omega
 subst this;exact zI _
theorem Ky.turn{xs:Array afm}{lo n:Nat}(h:V_ xs lo n)(hn:lo+n<=xs.size):Ky (mirror xs lo (lo+n) ((lo+n - lo) / 2)) lo n:=λi j h1 h2=>by
 rw[K_mirror hn,K_mirror hn,if_pos (by omega),if_pos (by omega)]
 have:=h (n - 1 - j) (n - 1 - i) (by omega) (by omega)
 rw[show lo+(lo+n) - 1 - (lo+i)=lo+(n - 1 - i) by omega,show lo+(lo+n) - 1 - (lo+j)=lo+(n - 1 - j) by omega]
 exact this
section
variable {prog:aeY} {w:ae1} {A:aeV} {E:ae0->aeZ->Prop} {s:aeZ} {P:Array (Nat×Nat×Nat)} {g:Nat}
end
section
variable {prog:aeY} {w:ae1} {A:aeV} {E:ae0->aeZ->Prop} {s:aeZ} {P:Array (Nat×Nat×Nat)} {g:Nat}
end
inductive Rn:Nat->List (Nat×Nat×Nat)->List afm->Prop
 | nil {s:Nat}:Rn s [] []
 | cons {s n p:Nat} {P:List (Nat×Nat×Nat)} {A X:List afm}:A.length=n->1<=n->Up A->Rn (s+n) P X->Rn s ((s,n,p)::P) (A++X)
theorem Rn.split:∀{pre r:List (Nat×Nat×Nat)}{s:Nat}{X:List afm},Rn s (pre++r) X->∃X1 X2,X=X1++X2/\Rn s pre X1/\Rn (s+X1.length) r X2
 | [],r,s,X,h=>⟨[],X,rfl,.nil,h⟩
 | a::pre,r,s,X,h=>by
  cases h with
  | cons h1 h2 h3 h4=>
   obtain⟨X1,X2,rfl,k1,k2⟩:=h4.split
   refine⟨_++X1,X2,(kF _ _ _).symm,.cons h1 h2 h3 k1,?_⟩
   rw[cS,h1,<-Nat.add_assoc]
   exact k2
theorem Rn.len:∀{P:List (Nat×Nat×Nat)}{s:Nat}{X:List afm},Rn s P X->P.length<=X.length
 | [],s,X,h=>bJ _
 | a::P,s,X,h=>by
  cases h with
  | cons h1 h2 h3 h4=>
   have:=h4.len
   rw[cS,n_]
   omega
theorem Rn.few{P:List (Nat×Nat×Nat)}{s:Nat}{X:List afm}(h:Rn s P X)(l:P.length<=1):Up X:=by
 cases h with
 | nil=>exact .nil
 | cons h1 h2 h3 h4=>
  cases h4 with
  | nil=>rw[mO];exact h3
  | cons _ _ _ _=>simp at l
section
variable {prog:aeY} {w:ae1} {A₀:aeV} {E:ae0->aeZ->Prop} {s:aeZ}
end
section
variable {prog:aeY} {w:ae1} {A₀:aeV} {E:ae0->aeZ->Prop} {s:aeZ}
theorem Ky.up{zs:Array afm}{lo n:Nat}(as:Ky zs lo n)(h:lo+n<=zs.size):Up ((zs.toList.drop lo).take n):=by
 unfold Up
 rw[Be]
 intro i j hi hj hij
 rw[lM,lN] at hi hj
 have hz:zs.toList.length=zs.size:=rfl
 have:=as i j (by exact vh ‹_›) (by omega)
 rw[TZ (Gg (by omega)),TZ (Gg (by omega))] at this
 simpa using this
end
section
variable {prog:aeY} {w:ae1} {A:aeV} {E:ae0->aeZ->Prop} {s:aeZ}
end
end JL
namespace J
open PySem PySem.Spec PyProof.Rows L2
section
variable {X:Cx}
def intsOf:List Wv->Option (List Int)
  | []=>some []
  | .int b::r=>(match intsOf r with | some l=>some (b::l) | none=>none)
  | _=>none
theorem rX:∀ns:List Int,intsOf (ns.map Wv.int)=some ns
  | []=>rfl
  | n::r=>by rw[aB];unfold intsOf;rw[rX r]
theorem rY{K:PySem.W.Frag}{m:Mp}{H:Hp}:∀{ws:List Wv}{xs:List V}{bs:List Int},ah K m H ws xs->intsOf ws=some bs->xs=bs.map V.int
  | [],xs,bs,r,h=>by
    unfold ah at r
    cases h
    exact r
  | w::ws,xs,bs,r,h=>by
    unfold ah at r
    obtain⟨x,t,rfl,r1,r2⟩:=r
    cases w with
    | int b=>
      unfold intsOf at h
      cases e:intsOf ws with
      | none=>rw[e] at h;cases h
      | some l=>
        rw[e] at h
        cases h
        unfold ag at r1
        rw[r1,rY r2 e]
        rfl
    | _=>cases h
theorem xU:∀{ns:List Int}{its:List ae0},Vals (ns.map V.int) its->∃xs:List (Int×Tok),its=xs.map (λp=>nM p.1 p.2)/\xs.map (·.1)=ns
  | [],its,r=>by cases r;exact⟨[],rfl,rfl⟩
  | n::ns,its,r=>by
    cases r with
    | cons h t=>
      obtain⟨tk,rfl⟩:=h
      obtain⟨xs,e1,e2⟩:=xU t
      exact⟨(n,tk)::xs,by rw[e1];rfl,by rw[<-e2];rfl⟩
theorem C9(xs:List (Int×Tok))(i:Nat):numAt xs.toArray i=(xs.map (·.1)).getD i 0:=by
  unfold numAt
  rw[Ku,OZ,dQ]
theorem rZ(xs:List (Int×Tok)):∀k,preSum (numAt xs.toArray) k=((xs.map (·.1)).take k).sum
  | 0=>by simp[preSum]
  | k+1=>by
    unfold preSum
    rw[rZ xs k,C9]
    rw[PySem.sum_take_succ]
theorem C_(hc:X.calm=true):cA X (.builtin "sum") (λxs H Q=>∃(p:aeU)(ns:List Int),xs=[.ref p]/\kC X.K H p (ns.map V.int)/\Q (.int ns.sum) H):=by
  intro pins s σ H xs us Q I r h
  obtain⟨p,ns,rfl,hq,q⟩:=h
  obtain⟨u,rfl,rx⟩:=vals1 r
  cases rx
  obtain⟨its,r',pl,hz⟩:=I.list hq
  obtain⟨xs,rfl,rfl⟩:=xU r'
  have hl:=pl.isList
  have e:(xs.map λp=>nM p.1 p.2).toArray=intItems xs.toArray:=by unfold intItems;simp
  rw[e] at hl
  refine sum_intListG (I.ok.hd hc) hl λh' tk t' hk=>⟨.int _,H,I.kept hk,⟨t',?_⟩,q⟩
  rw[rZ,oB (by simp)]
def Gh:List Wv->Hs->Re Wv
  | [.ref l],st=>match aq st l with
    | some ws=>(match intsOf ws with | some ns=> .ok (.int ns.sum) st | none=> .bad)
    | none=> .bad
  | _,_=> .bad
theorem O3(hc:X.calm=true):cO X (.builtin "sum") Gh:=⟨_,C_ hc,λws vs st H m Q S rs p=>by
  match ws,rs,p with
  | [],rs,p=>exact aa p
  | x::y::t,rs,p=>cases x<;>exact aa p
  | [x],rs,p=>
    obtain⟨v,rfl,r1⟩:=kH rs
    cases x with
    | ref l=>
      unfold Gh at p
      unfold ag at r1
      obtain⟨a,rfl,hl⟩:=r1
      cases e:aq st l with
      | none=>simp only[e] at p;exact aa p
      | some ws=>
        simp only[e] at p
        cases e2:intsOf ws with
        | none=>simp only[e2] at p;exact aa p
        | some bs=>
          simp only[e2] at p
          obtain⟨xs,q1,q2⟩:=S.read hl e
          have q3:=rY q2 e2
          subst q3
          exact⟨a,bs,rfl,q1,p _ m H Ext.refl S mkInt⟩
    | _=>exact aa p⟩
def mxI(n:Int)(r:List Int):Int:=r.foldl (λa b=>if b > a then b else a) n
def T1:List Wv->Hs->Re Wv
  | [.ref l],st=>match aq st l with
    | some ws=>(match intsOf ws with | some (n::r)=> .ok (.int (mxI n r)) st | _=> .bad)
    | none=> .bad
  | ws,st=>XF ws st
def T3:List Wv->Hs->Re Wv:=λws st=>XG ws st
theorem cO.or{f:ae0}{op op':List Wv->Hs->Re Wv}(g:List Wv->Hs->Re Wv)(h:cO X f op)(h':cO X f op')(k:∀ws st,g ws st=op ws st\/g ws st=op' ws st):cO X f g:=by
  obtain⟨r,h1,h2⟩:=h
  obtain⟨r',Ma,h2'⟩:=h'
  refine⟨_,h1.or Ma,λws vs st H m Q S rs p=>?_⟩
  rcases k ws st with e | e
  · rw[e] at p;exact .inl (h2 ws vs st H m Q S rs p)
  · rw[e] at p;exact .inr (h2' ws vs st H m Q S rs p)
end
section
variable {X:Cx}
theorem uQ{z:PySem.Str}:bo z=true↔∀c∈z.cps.toList,c < 1114112:=by
 unfold bo
 rw[Tw]
 constructor
 ·intro h c hc
  simpa using h c (Array.mem_toList_iff.mp hc)
 ·intro h c hc
  simpa using h c (Array.mem_toList_iff.mpr hc)
end
section
variable {X:Cx}
theorem O4:Jb X (λx lo hi H Q=>∃z,x= .str z/\z.length<=afb/\Q (.str (lZ z lo hi)) H):=by
 intro pins s σ H x v vl vu lo hi sl Q I rx hs pl pu h
 obtain⟨z,rfl,hz,q⟩:=h
 obtain⟨t,rfl⟩:=rx
 have fin:∀t' k,EP X pins σ Q (.str (lZ z lo hi) t') { s with toks:=k }:=λt' k=>⟨.str _,H,I.tok k,⟨t',rfl⟩,q⟩
 refine⟨"str",_,PySem.F.slot_str_getitem.lookup,typeIs_str _ _ _,?_⟩
 have hl:=ba (Txt.slice_le z lo hi) hz
 cases pl with
 | none=>
  cases pu with
  | none=>exact wpAny_getItem_str_slice (l:=none) (u:=none) (st:=none) hs rfl (post_val_or_str ⟨hl,fin⟩)
  | int j tj=>exact wpAny_getItem_str_slice (l:=none) (u:=some (j,tj)) (st:=none) hs rfl (post_val_or_str ⟨hl,fin⟩)
 | int i ti=>
  cases pu with
  | none=>exact wpAny_getItem_str_slice (l:=some (i,ti)) (u:=none) (st:=none) hs rfl (post_val_or_str ⟨hl,fin⟩)
  | int j tj=>exact wpAny_getItem_str_slice (l:=some (i,ti)) (u:=some (j,tj)) (st:=none) hs rfl (post_val_or_str ⟨hl,fin⟩)
theorem Dd{z:PySem.Str}{lo hi:Option Int}{c:Nat}(h:c∈(lZ z lo hi).cps.toList):c∈z.cps.toList:=by
 unfold lZ at h
 split at h
 ·exact h
 ·simp only[List.mem_filterMap] at h
  obtain⟨i,_,e⟩:=h
  rw[Array.getElem?_eq_some_iff] at e
  obtain⟨hi,rfl⟩:=e
  exact Array.mem_toList_iff.mpr (Array.getElem_mem hi)
theorem xV{z:PySem.Str}{lo hi:Option Int}(h:bo z=true):bo (lZ z lo hi)=true:=by
 rw[uQ] at h ⊢
 exact λc hc=>h c (Dd hc)
end
section
open HT
theorem tX{prog:aeY}{w:ae1}{A:aeV}{E:ae0->aeZ->Prop}{s:aeZ}{t sl:aeU}{us:Array ae0}{vl vu:ae0}{lo hi:Option Int}{Q:ae0->aeZ->Prop}(ht:IsTup s.heap t us)(hs:s.heap.IsSliceOf sl vl vu .none)(pl:IsPart vl lo)(pu:IsPart vu hi)
  (hw:dn us.size 0 lo=0/\dn us.size us.size hi=us.size)(h:Q (.ref t) s):afd (model prog w) A (getItem (.ref t) (.ref sl)) Q E s:=by
 obtain⟨os,o1,o2,o3⟩:=id hs
 have tys:s.TypeIs (.ref sl) "slice":=⟨os,o1,o2⟩
 unfold getItem;try with_reducible refine afg ?_
 first | refine afe (afk ?_) | skip
 refine afe (wpAny_sequenceKey ht.typeIs (by decide) ?_);refine afe (wpAny_callSpecial?_slot (name:=jG "__getitem__") ht.typeIs vy (wpAny_call_entry vy ht.typeIs entry_tuple_getitem ?_ (args_tuple_getitem _ _)))
 show afd _ _ (NY (.ref t) >>= _) _ _ _;refine afe (tupleItemsOf_ ht ?_);refine afe (wpAny_typeOf tys ?_)
 rw[if_pos (by decide)];refine afe (jo hs pl pu ?_)
 rw[hw.1,hw.2]
 have yes:((((0:Nat):Int)) == 0&&(1:Int) == 1&&(us.size - 0) == us.size)=true:=by simp
 show afd _ _ (if((((0:Nat):Int)) == 0&&(1:Int) == 1&&(us.size - 0) == us.size)=true then _ else _) _ _ s
 rw[if_pos yes]
 refine afe (m:=O5 _) ?_
 unfold O5
 refine afe (wpAny_typeOf ht.typeIs (afk ?_))
 rw[if_pos (by decide)]
 exact afe (wpAny_rule (afk ⟨_,rfl,afk h⟩))
end
section
variable {X:Cx}
def XW(K:PySem.W.Frag):V->Option Int->Option Int->Hp->VK->Prop:=λx lo hi H Q=>∃a xs,x= .ref a/\ft K H a xs/\(HT.dn xs.length 0 lo=0/\HT.dn xs.length xs.length hi=xs.length)/\Q (.ref a) H
theorem Gi:Jb X (XW X.K):=by
 intro pins s σ H x v vl vu lo hi sl Q I rx hs pl pu h
 obtain⟨a,xs,rfl,hx,hw,q⟩:=h
 cases rx
 obtain⟨its,r,ht,hz⟩:=I.tuple hx
 have n:its.toArray.size=xs.length:=by rw[aP];exact r.length.symm
 exact⟨"tuple",_,PyProof.Rows.slot_tuple_getitem.lookup,ht.typeIs,tX ht hs pl pu (by rw[n];exact hw) ⟨.ref a,H,I,rfl,q⟩⟩
def eJ(n:Nat)(lo hi:Option Int):Prop:=HT.dn n 0 lo=0/\HT.dn n n hi=n
instance {n:Nat}{lo hi:Option Int}:Decidable (eJ n lo hi):=inferInstanceAs (Decidable (HT.dn n 0 lo=0/\HT.dn n n hi=n))
def De(x:Wv)(lo hi:Option Int)(st:Hs):Re Wv:=match x with
 | .str z=>if z.length<=lim then .ok (.str (lZ z lo hi)) st else .bad
 | .tup ws=>if eJ ws.length lo hi then .ok (.tup ws) st else RM (.tup ws) lo hi st
 | x=>RM x lo hi st
def iK(ga:GE)(gl gh:GO):GE:=λρ st=>(ga ρ st).bind λx st1=>(gl ρ st1).bind λlo st2=>(gh ρ st2).bind λhi st3=>De x lo hi st3
theorem Df{a:Expr}{lo hi:Option Expr}{ga:GE}{gl gh:GO}{pos p2:Pos}(ha:JE X a ga)(hl:JO X lo gl)(hh:JO X hi gh):JE X (.Subscript a (.Slice lo hi none p2) pos) (iK ga gl gh):=by
 have hS:JE X (.Subscript a (.Slice lo hi none p2) pos) (λρ st=>(ga ρ st).bind λx st1=>(gl ρ st1).bind λlo st2=>(gh ρ st2).bind λhi st3=>match x with | .str z=>if z.length<=lim then .ok (.str (lZ z lo hi)) st3 else .bad | _=> .bad):=by
  refine JE.of (rB O4 aE uH uH) λρ st σ H m Q S R p=>?_
  refine ha.go S R (aw.bind p) λx st1 v m1 H1 p1 e1 S1 rx=>?_
  refine hl.go S1 (R.mono e1) ((aw.bind p1).imp e1 λ_ _ q=>q) λl st2 m2 H2 p2 e2 S2=>?_
  refine hh.go S2 (R.mono (e1.trans e2)) ((aw.bind p2).imp (e1.trans e2) λ_ _ q=>q) λh st3 m3 H3 p3 e3 S3=>?_
  have CQ:=e1.trans (e2.trans e3)
  cases x with
  | str z=>
   dsimp only at p3
   by_cases c:z.length<=lim
   ·rw[if_pos c] at p3
    unfold ag at rx
    obtain⟨rfl,hz⟩:=rx
    exact⟨z,rfl,dR c,p3 _ m3 H3 CQ S3 (mkStr (xV hz))⟩
   ·rw[if_neg c] at p3;exact aa p3
  | _=>exact aa p3
 have hW:JE X (.Subscript a (.Slice lo hi none p2) pos) (λρ st=>(ga ρ st).bind λx st1=>(gl ρ st1).bind λlo st2=>(gh ρ st2).bind λhi st3=>match x with | .tup ws=>if eJ ws.length lo hi then .ok (.tup ws) st3 else RM (.tup ws) lo hi st3 | _=> .bad):=by
  refine JE.of (rB (Jb.or Gi EE) aE uH uH) λρ st σ H m Q S R p=>?_
  refine ha.go S R (aw.bind p) λx st1 v m1 H1 p1 e1 S1 rx=>?_
  refine hl.go S1 (R.mono e1) ((aw.bind p1).imp e1 λ_ _ q=>q) λl st2 m2 H2 p2 e2 S2=>?_
  refine hh.go S2 (R.mono (e1.trans e2)) ((aw.bind p2).imp (e1.trans e2) λ_ _ q=>q) λh st3 m3 H3 p3 e3 S3=>?_
  have CQ:=e1.trans (e2.trans e3)
  cases x with
  | tup ws=>
   dsimp only at p3
   have pq:=ag.mono (e2.trans e3) _ _ rx
   unfold ag at pq
   obtain⟨a',xs,rfl,f1,f2⟩:=pq
   by_cases c:eJ ws.length l h
   ·rw[if_pos c] at p3
    unfold eJ at c
    rw[f2.length] at c
    exact .inl ⟨a',xs,rfl,ft.of f1,c,p3 _ m3 H3 CQ S3 (by unfold ag;exact⟨a',xs,rfl,f1,f2⟩)⟩
   ·rw[if_neg c] at p3
    unfold RM at p3
    dsimp only at p3
    unfold eJ at c
    rw[if_neg c] at p3
    rw[f2.length] at c
    refine .inr ⟨a',xs,rfl,ft.of f1,c,λq hq=>?_⟩
    have eU:Ext X.K m3 H3 m3 (L2.upd H3 q (.tup (tR xs l h))):=Ext.gz (.inl hq)
    exact p3 (.ref q) m3 _ (CQ.trans eU) (S3.fresh hq) (by unfold ag;exact⟨q,_,rfl,L2.aF,ah.mono eU _ _ (vQ f2)⟩)
  | _=>exact aa p3
 intro ρ st σ H m Q S R p
 unfold iK at p
 cases e1:ga ρ st with
 | bad=>rw[e1] at p;exact aa p
 | err c st1=>rw[e1] at p;exact xF ha hl hh ρ st σ H m Q S R (by unfold zB;rw[e1];exact p)
 | ok x st1=>
  rw[e1] at p
  cases x with
  | str z=>exact hS ρ st σ H m Q S R (by dsimp only;rw[e1];exact p)
  | tup ws=>exact hW ρ st σ H m Q S R (by dsimp only;rw[e1];exact p)
  | _=>exact xF ha hl hh ρ st σ H m Q S R (by unfold zB;rw[e1];exact p)
def xW:fS
 | .str i,.str j,st=> .ok (.bl (!(zi j i 0 j.length 1).isEmpty)) st
 | x,y,st=>XA x y st
def vV:fS
 | .str i,.str j,st=> .ok (.bl (!(!(zi j i 0 j.length 1).isEmpty))) st
 | x,y,st=>zA x y st
theorem O6:jD X (ae7 .In) xW:=by
 obtain⟨r,h1,h2⟩:=Tv (X:=X)
 refine⟨_,ef.or CD h1,λx y a b st H m Q S rx ry p=>?_⟩
 unfold xW at p
 split at p
 ·rename_i i j
  unfold ag at rx ry
  obtain⟨rfl,_⟩:=rx
  obtain⟨rfl,_⟩:=ry
  exact .inl ⟨i,j,rfl,rfl,p _ m H Ext.refl S g_⟩
 ·exact .inr (h2 x y a b st H m Q S rx ry p)
theorem Dg:jD X (ae7 .NotIn) vV:=by
 obtain⟨r,h1,h2⟩:=Fo (X:=X)
 refine⟨_,ef.or vC h1,λx y a b st H m Q S rx ry p=>?_⟩
 unfold vV at p
 split at p
 ·rename_i i j
  unfold ag at rx ry
  obtain⟨rfl,_⟩:=rx
  obtain⟨rfl,_⟩:=ry
  exact .inl ⟨i,j,rfl,rfl,p _ m H Ext.refl S g_⟩
 ·exact .inr (h2 x y a b st H m Q S rx ry p)
end
open PySem PySem.Spec PyProof.Rows L2 PySem.W
section
variable {X:Cx}
end
section
variable {X:Cx}
end
section
variable {X:Cx}
end
def T4(x:Str):It:=⟨λi _=>i < x.cps.size,λi H v H'=>H'=H/\∃c,x.cps[i]? =some c/\v= .str ⟨#[c]⟩,λi _=>x.cps.size<=i⟩
theorem zJ{P:aeY}{w:ae1}{K:PySem.W.Frag}{tg:Expr}(x:Str)(t:Tok)(it:aeU):Turn P w K tg (T4 x) [it] it (λi h=>h.IsStrIter it "str_ascii_iterator" x t i) where
 mem:=List.mem_singleton.mpr rfl
 obj:=λi h st b hb=>by
  cases List.mem_singleton.mp hb
  obtain⟨o,e,c,d⟩:=st
  exact⟨o,e,λv z=>by rw[d] at z;cases z⟩
 keep:=λi h h' st k=>let ⟨o,e,r⟩:=st;⟨o,k it (List.mem_singleton.mpr rfl) o e,r⟩
 item:=by
  intro X hP hw hK hc i pins s σ H E I hf st hg
  subst hP;subst hw;subst hK
  obtain⟨f0,f1,f2,f3,f4,f5⟩:=hf it (List.mem_singleton.mpr rfl)
  have hi:i < x.cps.size:=hg
  refine wpAny_pyNext_ascii_item st (c:=x.cps[i]) (by simp[hi]) λh' st' sb=>?_
  have I1:L2.Inv X pins σ H { s with heap:=h',toks:=s.toks+1 }:=I.turned (t':=s.toks+1) (λb o hb e=>sb.extBut b o hb e) f0 f1 f3 f4 f5
  obtain⟨o,e,c,d⟩:=id st'
  exact⟨_,rfl,qe (s:={ s with heap:=h',toks:=s.toks+1 }) e c d (by decide) ⟨.str ⟨#[x.cps[i]]⟩,H,I1,⟨_,rfl⟩,⟨rfl,_,by simp[hi],rfl⟩,st',λb hb=>(hf b hb).1⟩⟩
 done:=by
  intro X hP hw hK hc i pins s σ H E I hf st hg
  subst hP;subst hw;subst hK
  obtain⟨f0,f1,f2,f3,f4,f5⟩:=hf it (List.mem_singleton.mpr rfl)
  have hi:x.cps.size<=i:=hg
  exact wpAny_pyNext_ascii_end (I.ok.hd hc) st (by simp[hi]) λh' eb=>⟨rfl,I.turned (t':=s.toks) (λb o hb e=>eb b o hb e) f0 f1 f3 f4 f5⟩
 self:=λ_ _ _ _ _ st h=>wpAny_pyIter_striter_ascii st h
theorem Dh{P:aeY}{w:ae1}{K:PySem.W.Frag}{tg:Expr}(x:Str)(t:Tok)(it:aeU):Turn P w K tg (T4 x) [it] it (λi h=>h.IsStrIter it "str_iterator" x t i) where
 mem:=List.mem_singleton.mpr rfl
 obj:=λi h st b hb=>by
  cases List.mem_singleton.mp hb
  obtain⟨o,e,c,d⟩:=st
  exact⟨o,e,λv z=>by rw[d] at z;cases z⟩
 keep:=λi h h' st k=>let ⟨o,e,r⟩:=st;⟨o,k it (List.mem_singleton.mpr rfl) o e,r⟩
 item:=by
  intro X hP hw hK hc i pins s σ H E I hf st hg
  subst hP;subst hw;subst hK
  obtain⟨f0,f1,f2,f3,f4,f5⟩:=hf it (List.mem_singleton.mpr rfl)
  have hi:i < x.cps.size:=hg
  refine wpAny_pyNext_wide_item st (c:=x.cps[i]) (by simp[hi]) λh' st' sb=>?_
  have I1:L2.Inv X pins σ H { s with heap:=h',toks:=s.toks+1 }:=I.turned (t':=s.toks+1) (λb o hb e=>sb.extBut b o hb e) f0 f1 f3 f4 f5
  obtain⟨o,e,c,d⟩:=id st'
  exact⟨_,rfl,qe (s:={ s with heap:=h',toks:=s.toks+1 }) e c d (by decide) ⟨.str ⟨#[x.cps[i]]⟩,H,I1,⟨_,rfl⟩,⟨rfl,_,by simp[hi],rfl⟩,st',λb hb=>(hf b hb).1⟩⟩
 done:=by
  intro X hP hw hK hc i pins s σ H E I hf st hg
  subst hP;subst hw;subst hK
  obtain⟨f0,f1,f2,f3,f4,f5⟩:=hf it (List.mem_singleton.mpr rfl)
  have hi:x.cps.size<=i:=hg
  exact wpAny_pyNext_wide_end (I.ok.hd hc) st (by simp[hi]) λh' eb=>⟨rfl,I.turned (t':=s.toks) (λb o hb e=>eb b o hb e) f0 f1 f3 f4 f5⟩
 self:=λ_ _ _ _ _ st h=>wpAny_pyIter_striter_wide st h
section
variable {X:Cx}
theorem O7{tg l:Expr}{tl:TE}(hl:PE X l tl):PI X tg l (λσ H R=>tl σ H λv H1=>∃z,v= .str z/\R (T4 z) H1):=by
 intro pins s σ H R I h
 refine a7 (hl pins s σ H _ I h) λv s1 ⟨x,H1,I1,r1,z,e,q⟩=>?_
 subst e
 obtain⟨t,rfl⟩:=r1
 have frs:∀b∈[s1.heap.objs.size],iE X pins H1 b:=λb hb=>by
  cases List.mem_singleton.mp hb
  exact I1.vo (ao _) (I1.hok.fresh (ao _))
 cases ha:z.cps.all (· < 128)
 ·exact wpAny_pyIter_wide ha ⟨s1.heap.objs.size,[s1.heap.objs.size],_,_,H1,rfl,I1.kept (t':=s1.toks) λb o e=>aS _ e,Dh z t _,⟨_,br _ rfl,rfl,rfl⟩,frs,q⟩
 ·exact wpAny_pyIter_ascii ha ⟨s1.heap.objs.size,[s1.heap.objs.size],_,_,H1,rfl,I1.kept (t':=s1.toks) λb o e=>aS _ e,zJ z t _,⟨_,br _ rfl,rfl,rfl⟩,frs,q⟩
def du(z:PySem.Str):List Wv:=z.cps.toList.map λc=>Wv.str ⟨#[c]⟩
def xX(w:Wv)(st:Hs):Re Wk:=match w with
 | .str z=> .ok (none,du z) st
 | w=>OV w st
def hJ(g:GE):GI:=λρ st=>(g ρ st).bind xX
theorem O8{z:PySem.Str}{m1:Mp}{H1:Hp}(hz:bo z=true):uN X (none,du z) m1 H1 (T4 z) where
 go:=λk H m' st _ _ _ hk=>by
  have:k < z.cps.size:=by simpa [du] using hk
  exact this
 stop:=λk H m' st _ _ _ hk=>by
  have:k=z.cps.size:=by simpa [du] using hk
  exact nX this.symm
 xl:=λk hk H v H' m' st _ _ _ y=>by
  obtain⟨rfl,c,hc,rfl⟩:=y
  refine⟨rfl,?_⟩
  have hk':k < z.cps.size:=by simpa [du] using hk
  have e:∀h:k < (du z).length,(du z)[k]'h= .str ⟨#[z.cps[k]]⟩:=by intro h;simp[du]
  have hc':z.cps[k]=c:=by simpa [hk'] using hc
  show ag X.K m' H' ((du z)[k]'hk) _
  rw[e hk,hc']
  refine mkStr ?_
  rw[uQ] at hz ⊢
  intro d hd
  simp at hd
  rw[hd,<-hc']
  exact hz _ (by simp)
theorem Bf{tg iter:Expr}{g:GE}(h:JE X iter g):JI X tg iter (hJ g):=by
 obtain⟨w1,h1,k1⟩:=OW (tg:=tg) h
 refine⟨λσ H R=>w1 σ H R\/(SE X iter σ H λv H1=>∃z,v= .str z/\R (T4 z) H1),λpins s σ H R I q=>?_,λρ st σ H m R S RR p=>?_⟩
 ·rcases q with q | q
  ·exact h1 pins s σ H R I q
  ·exact O7 aE pins s σ H R I q
 ·unfold hJ at p
  cases e:g ρ st with
  | bad=>rw[e] at p;exact aa p
  | err c st'=>rw[e] at p;exact .inl (k1 ρ st σ H m R S RR (by unfold F9;rw[e];exact p))
  | ok w st'=>
   rw[e] at p
   cases w with
   | str z=>
    refine .inr ?_
    refine h.go (ok:=λw st1=>w= .str z/\st1=st') S RR (by rw[e];exact⟨rfl,rfl⟩) λw st1 v m1 H1 q e1 S1 r1=>?_
    obtain⟨rfl,rfl⟩:=q
    unfold ag at r1
    obtain⟨rfl,hz⟩:=r1
    exact⟨z,rfl,p m1 H1 _ e1 S1 trivial (O8 hz)⟩
   | _=>exact .inl (k1 ρ st σ H m R S RR (by unfold F9;rw[e];exact p))
end
section
variable {X:Cx}
end
def keyOf:Wv->Option L2.Key
 | .int i=>some (.inl i)
 | .str x=>some (.inr x)
 | _=>none
theorem l3{K:PySem.W.Frag}{m:Mp}{H:Hp}{w:Wv}{v:V}{k:L2.Key}(r:ag K m H w v)(e:keyOf w=some k):v=kV k:=by
 cases w with
 | int i=>cases e;unfold ag at r;rw[r];rfl
 | str x=>cases e;unfold ag at r;rw[r.1];rfl
 | _=>cases e
def aN{κ:Type}[DecidableEq κ](kvs:List (κ×Wv))(k:κ):Option Wv:=match kvs with
 | []=>none
 | p::r=>if p.1=k then some p.2 else aN r k
def dW{κ:Type}[DecidableEq κ](kvs:List (κ×Wv))(k:κ)(v:Wv):List (κ×Wv):=if(kvs.any λkv=>decide (kv.1=k))=true then kvs.map (λkv=>if kv.1=k then(kv.1,v) else kv) else kvs++[(k,v)]
def O9(kvs more:List (L2.Key×Wv)):List (L2.Key×Wv):=more.foldl (λacc kv=>dW acc kv.1 kv.2) kvs
section
variable {K:PySem.W.Frag} {m:Mp} {H:Hp} {κ:Type}
theorem RelK.nil:RelK (κ:=κ) K m H [] []:=⟨rfl,ah.nil⟩
theorem RelK.cons{k:κ}{w:Wv}{v:V}{kvs:List (κ×Wv)}{xs:List (κ×V)}(h:ag K m H w v)(t:RelK K m H kvs xs):RelK K m H ((k,w)::kvs) ((k,v)::xs) :=
 ⟨by simp[t.1],by simpa using ah.cons h t.2⟩
theorem RelK.nil_inv{xs:List (κ×V)}(h:RelK K m H [] xs):xs=[]:=by
 have:=h.1
 cases xs with
 | nil=>rfl
 | cons a b=>simp at this
theorem RelK.cons_inv{p:κ×Wv}{kvs:List (κ×Wv)}{xs:List (κ×V)}(h:RelK K m H (p::kvs) xs):∃v t,xs=(p.1,v)::t/\ag K m H p.2 v/\RelK K m H kvs t:=by
 obtain⟨h1,h2⟩:=h
 cases xs with
 | nil=>simp at h1
 | cons q t=>
  simp at h1 h2
  unfold ah at h2
  obtain⟨x,r,e1,e2,e3⟩:=h2
  cases e1
  exact⟨q.2,t,by rw[h1.1],e2,h1.2,e3⟩
theorem RelK.length{kvs:List (κ×Wv)}{xs:List (κ×V)}(h:RelK K m H kvs xs):kvs.length=xs.length:=by
 have:=congrArg b7 h.1
 simpa using this
variable [DecidableEq κ]
theorem RelK.val:∀{kvs:List (κ×Wv)}{xs:List (κ×V)}(k:κ),RelK K m H kvs xs->(aN kvs k=none->iF xs k=none)/\∀w,aN kvs k=some w->∃v,iF xs k=some v/\ag K m H w v
 | [],xs,k,h=>by
  rw[h.nil_inv]
  exact⟨λ_=>rfl,(λw e=>by cases e)⟩
 | p::r,xs,k,h=>by
  obtain⟨v,t,rfl,h1,h2⟩:=h.cons_inv
  obtain⟨i1,i2⟩:=RelK.val k h2
  unfold aN
  by_cases e:p.1=k
  ·rw[if_pos e,nY (by exact e)]
   exact⟨(λz=>by cases z),λw z=>⟨v,rfl,by cases z;exact h1⟩⟩
  ·rw[if_neg e,nZ (by exact e)]
   exact⟨i1,i2⟩
theorem RelK.any:∀{kvs:List (κ×Wv)}{xs:List (κ×V)}(k:κ),RelK K m H kvs xs->(kvs.any λkv=>decide (kv.1=k))=xs.any λkv=>decide (kv.1=k)
 | [],xs,k,h=>by rw[h.nil_inv];rfl
 | p::r,xs,k,h=>by
  obtain⟨v,t,rfl,h1,h2⟩:=h.cons_inv
  rw[fU,fU,RelK.any k h2]
theorem RelK.repl:∀{kvs:List (κ×Wv)}{xs:List (κ×V)}(k:κ){w:Wv}{v:V},RelK K m H kvs xs->ag K m H w v->RelK K m H (kvs.map λkv=>if kv.1=k then(kv.1,w) else kv) (xs.map λkv=>if kv.1=k then(kv.1,v) else kv)
 | [],xs,k,w,v,h,r=>by rw[h.nil_inv];exact RelK.nil
 | p::kvs,xs,k,w,v,h,r=>by
  obtain⟨u,t,rfl,h1,h2⟩:=h.cons_inv
  rw[aB,aB]
  by_cases e:p.1=k
  ·rw[if_pos e,if_pos (by exact e)]
   exact RelK.cons r (RelK.repl k h2 r)
  ·rw[if_neg e,if_neg (by exact e)]
   exact RelK.cons h1 (RelK.repl k h2 r)
theorem RelK.snoc:∀{kvs:List (κ×Wv)}{xs:List (κ×V)}(k:κ){w:Wv}{v:V},RelK K m H kvs xs->ag K m H w v->RelK K m H (kvs++[(k,w)]) (xs++[(k,v)])
 | [],xs,k,w,v,h,r=>by rw[h.nil_inv];exact RelK.cons r RelK.nil
 | p::kvs,xs,k,w,v,h,r=>by
  obtain⟨u,t,rfl,h1,h2⟩:=h.cons_inv
  exact RelK.cons h1 (RelK.snoc k h2 r)
theorem RelK.put{kvs:List (κ×Wv)}{xs:List (κ×V)}(k:κ){w:Wv}{v:V}(h:RelK K m H kvs xs)(r:ag K m H w v):RelK K m H (dW kvs k w) (putK xs k v):=by
 unfold dW putK
 rw[h.any k]
 split
 ·exact h.repl k r
 ·exact h.snoc k r
end
section
variable {K:PySem.W.Frag} {m:Mp} {H:Hp}
theorem RelK.merge:∀{more:List (L2.Key×Wv)}{ms:List (L2.Key×V)}{kvs:List (L2.Key×Wv)}{xs:List (L2.Key×V)},RelK K m H kvs xs->RelK K m H more ms->RelK K m H (O9 kvs more) (Oe xs ms)
 | [],ms,kvs,xs,h,g=>by rw[g.nil_inv];exact h
 | p::more,ms,kvs,xs,h,g=>by
  obtain⟨u,t,rfl,h1,h2⟩:=g.cons_inv
  have:=RelK.merge (more:=more) (ms:=t) (kvs:=dW kvs p.1 p.2) (xs:=putK xs p.1 u) (RelK.put p.1 h h1) h2
  exact this
end
section
variable {X:Cx}
def Bg(st:Hs)(l:Nat):Bool:=match st[l]? with
 | some (.dct _)=>true
 | _=>false
def Gj(gd gk gx:GE):GE:=λρ st=>(gd ρ st).bind λd st1=>match d with
 | .ref l=>if Bg st1 l=true then(gk ρ st1).bind λk st2=>(gx ρ st2).bind λx st3=>(match keyOf k,st3[l]? with
  | some kk,some (.dct kvs)=> .ok ((aN kvs kk).getD x) st3
  | _,_=> .bad) else .bad
 | _=> .bad
theorem Gk{m:Mp}{st:Hs}{H:Hp}{l:Nat}{a:aeU}(S:bq X.K m st H)(ha:m[l]? =some a)(h:Bg st l=true):Of H a:=by
 unfold Bg at h
 cases e:st[l]? with
 | none=>rw[e] at h;cases h
 | some o=>
  rw[e] at h
  cases o with
  | dct kvs=>
   obtain⟨xs,e1,_⟩:=(show ∃ys,H a=some (.dK ys)/\RelK X.K m H kvs ys from S.obj _ _ _ ha e)
   exact .inl ⟨xs,.inl e1⟩
  | _=>cases h
theorem Gm{o e f:Expr}{gd gk gx:GE}{apos cpos:Pos}(hu:X.A.units+1 < cLine)(ho:JE X o gd)(he:JE X e gk)(hf:JE X f gx)(M:M2 X o "get" apos e f cpos):JE X (.Call (.Attribute o "get" apos) [e,f] [] cpos) (Gj gd gk gx) :=
 JE.of (EW hu aE aE aE M) λρ st σ H m Q S R p=>by
  refine ho.go S R (aw.bind p) λd st1 v m1 H1 p1 e1 S1 r1=>?_
  cases d with
  | ref l=>
   dsimp only at p1
   by_cases hd:Bg st1 l=true
   ·rw[if_pos hd] at p1
    unfold ag at r1
    obtain⟨a,rfl,ha⟩:=r1
    refine⟨a,rfl,Gk S1 ha hd,?_⟩
    refine he.go S1 (R.mono e1) ((aw.bind p1).imp e1 λ_ _ q=>q) λk st2 y m2 H2 p2 e2 S2 r2=>?_
    refine hf.go S2 (R.mono (e1.trans e2)) ((aw.bind p2).imp (e1.trans e2) λ_ _ q=>q) λx st3 z m3 H3 p3 e3 S3 r3=>?_
    cases q1:keyOf k with
    | none=>rw[q1] at p3;exact aa p3
    | some kk=>
     cases q2:st3[l]? with
     | none=>rw[q1,q2] at p3;exact aa p3
     | some ob=>
      rw[q1,q2] at p3
      cases ob with
      | dct kvs=>
       have O_:m3[l]? =some a:=(e2.trans e3).pre _ _ ha
       obtain⟨xs,y1,y2⟩:=(show ∃ys,H3 a=some (.dK ys)/\RelK X.K m3 H3 kvs ys from S3.obj _ _ _ O_ q2)
       dsimp only at p3
       refine⟨_,by rw[l3 r2 q1];exact mS.k y1,?_⟩
       obtain⟨i1,i2⟩:=y2.val kk
       cases q3:aN kvs kk with
       | none=>
        rw[i1 q3]
        rw[q3] at p3
        exact p3 z m3 H3 (e1.trans (e2.trans e3)) S3 r3
       | some w=>
        obtain⟨u,j1,j2⟩:=i2 w q3
        rw[j1]
        rw[q3] at p3
        exact p3 u m3 H3 (e1.trans (e2.trans e3)) S3 j2
      | _=>exact aa p3
   ·rw[if_neg hd] at p1;exact aa p1
  | _=>exact aa p1
end
def Bh:Wv->ae0->Prop
 | .int i,u=>∃t,u= .int i t
 | .str x,u=>(∃t,u= .str x t)/\bo x=true
 | _,_=>False
abbrev Dc:=List (PySem.Str×Wv)
def vW(w:ae1):Dc->List DictEntry->Prop
 | [],[]=>True
 | (k,v)::r,e::t=>(e.hash=hashStr w k/\(∃tk,e.key= .str k tk)/\Bh v e.val)/\vW w r t
 | _,_=>False
def oC(K:PySem.W.Frag)(w:ae1)(mg:Str->Option ae0)(x:Str)(kvs:Dc):Prop :=
 ∃(a:aeU)(es:Array DictEntry)(ep:Nat),mg x=some (.ref a)/\K.lookup a=some ⟨.type "dict",none,.dict es ep,#[]⟩/\(a == sysModules)=false/\vW w kvs es.toList/\(kvs.map (·.1)).Nodup
theorem oD{P:aeY}{w:ae1}:∀{kvs:Dc}{l:List DictEntry},vW w kvs l->∃vs:List (PySem.Str×ae0),vs.map (·.1)=kvs.map (·.1)/\Pairs (PySem.strKind P w) l vs/\(∀e∈l,∃k,(PySem.strKind P w).is k e.key=true/\e.hash=(PySem.strKind P w).hash k)/\
  ∀k,(kvs.lookup k=none->valueAt vs k=none)/\∀v,kvs.lookup k=some v->∃u,valueAt vs k=some u/\Bh v u
 | [],[],_=>⟨[],rfl,.nil,(λ_ z=>by cases z),λk=>⟨λ_=>rfl,(λv z=>by cases z)⟩⟩
 | (k,v)::r,e::t,h=>by
  obtain⟨⟨h1,⟨tk,h2⟩,h3⟩,h4⟩:=h
  obtain⟨vs,i1,i2,i3,i4⟩:=oD (P:=P) h4
  have his:(PySem.strKind P w).is k e.key=true:=by rw[h2];exact strKind_is P w k tk
  refine⟨(k,e.val)::vs,by simp[i1],.cons his rfl i2,λe' he=>?_,λk'=>?_⟩
  ·rcases List.mem_cons.mp he with z | z
   ·subst z;exact⟨k,his,h1⟩
   ·exact i3 e' z
  ·rw[iJ]
   unfold valueAt
   rw[pf]
   by_cases ek:k=k'
   ·subst ek
    have b1:(k == k)=true:=by simp
    rw[b1]
    simp only[decide_true,nP]
    exact⟨(λz=>by cases z),λv' z=>⟨e.val,rfl,by cases z;exact h3⟩⟩
   ·have b1:(k' == k)=false:=beq_eq_false_iff_ne.mpr λz=>ek z.symm
    rw[b1]
    simp only[ek,decide_false]
    exact i4 k'
 | [],_::_,h=>aa h
 | _::_,[],h=>aa h
theorem qT{P:aeY}{w:ae1}{K:PySem.W.Frag}{h:Heap}{a:aeU}{es:Array DictEntry}{ep:Nat}{kvs:Dc}(KX:K.In h)(hl:K.lookup a=some ⟨.type "dict",none,.dict es ep,#[]⟩)(he:vW w kvs es.toList)(nd:(kvs.map (·.1)).Nodup) :
  ∃vs:List (PySem.Str×ae0),h.DictOf (PySem.strKind P w) a vs/\∀k,(kvs.lookup k=none->valueAt vs k=none)/\∀v,kvs.lookup k=some v->∃u,valueAt vs k=some u/\Bh v u:=by
 obtain⟨vs,i1,i2,i3,i4⟩:=oD (P:=P) he
 exact⟨vs,⟨_,es,ep,KX a _ hl,⟨rfl,rfl,rfl⟩,rfl,λe hm=>i3 e (by simpa using hm),i2,by rw[i1];exact nd⟩,i4⟩
section
variable {X:Cx}
def kM(neg:Bool)(kvs:Dc)(ga:GE):GE:=λρ st=>(ga ρ st).bind λa st1=>match a with
 | .str k=> .ok (.bl ((kvs.lookup k).isSome != neg)) st1
 | _=> .bad
def Bi(kvs:Dc)(ga:GE):GE:=λρ st=>(ga ρ st).bind λa st1=>match a with
 | .str k=>(match kvs.lookup k with | some w=> .ok w st1 | none=> .bad)
 | _=> .bad
def Gn(neg:Bool)(kvs:Dc)(ty:TE):TE:=λσ H Q=>ty σ H λy H1=>∃z,y= .str z/\Q (.bl ((kvs.lookup z).isSome != neg)) H1
theorem Gp{i:Expr}{ty:TE}{x:Str}{p:Pos}{kvs:Dc}(hi:PE X i ty)(hg:Gl X x)(hd:(x == ("__debug__":Str))=false)(D:oC X.K X.w X.mg x kvs):PC X .In i (.Name x p) (Gn false kvs ty):=by
 intro pins s σ H Q I h
 obtain⟨a,es,ep,g1,g2,g3,g4,g5⟩:=D
 refine a7 (hi pins s σ H _ I h) λiv s1 ⟨y,H1,I1,ry,z,ey,q1⟩=>a7 (gw (v:=.ref a) hg g1 rfl hd pins s1 σ H1 (λv H2=>v= .ref a/\H2=H1) I1 ⟨rfl,rfl⟩) λu s2 ⟨v,H2,I2,rv,ev,eH⟩=>?_
 subst ey ev eH
 obtain rfl:u=ax a:=rv
 obtain⟨t,rfl⟩:=(show ∃t,iv=lE z t from ry)
 obtain⟨vs,dd,look⟩:=qT (P:=X.prog) (w:=X.w) I2.AK g2 g4 g5
 refine wpAny_in_of (strKind_is X.prog X.w z t) g3 dd.mapOf ⟨.bl (kvs.lookup z).isSome,_,I2.tok _,?_,by simpa using q1⟩
 obtain⟨l1,l2⟩:=look z
 cases e:kvs.lookup z with
 | none=>rw[l1 e];rfl
 | some w=>obtain⟨u,e1,_⟩:=l2 w e;rw[e1];rfl
theorem uR{i:Expr}{ty:TE}{x:Str}{p:Pos}{kvs:Dc}(hi:PE X i ty)(hg:Gl X x)(hd:(x == ("__debug__":Str))=false)(D:oC X.K X.w X.mg x kvs):PC X .NotIn i (.Name x p) (Gn true kvs ty):=by
 intro pins s σ H Q I h
 obtain⟨a,es,ep,g1,g2,g3,g4,g5⟩:=D
 refine a7 (hi pins s σ H _ I h) λiv s1 ⟨y,H1,I1,ry,z,ey,q1⟩=>a7 (gw (v:=.ref a) hg g1 rfl hd pins s1 σ H1 (λv H2=>v= .ref a/\H2=H1) I1 ⟨rfl,rfl⟩) λu s2 ⟨v,H2,I2,rv,ev,eH⟩=>?_
 subst ey ev eH
 obtain rfl:u=ax a:=rv
 obtain⟨t,rfl⟩:=(show ∃t,iv=lE z t from ry)
 obtain⟨vs,dd,look⟩:=qT (P:=X.prog) (w:=X.w) I2.AK g2 g4 g5
 refine wpAny_notIn_of (strKind_is X.prog X.w z t) g3 dd.mapOf ⟨.bl (!(kvs.lookup z).isSome),_,I2.tok _,?_,by simpa using q1⟩
 obtain⟨l1,l2⟩:=look z
 cases e:kvs.lookup z with
 | none=>rw[l1 e];rfl
 | some w=>obtain⟨u,e1,_⟩:=l2 w e;rw[e1];rfl
theorem l5{a:Expr}{ga:GE}{neg:Bool}{kvs:Dc}(ha:JE X a ga){ρ:bD}{st:Hs}{σ:St}{H:Hp}{m:Mp}{Q:VK}(S:bq X.K m st H)(R:az X.K m H ρ σ)(p:eD X σ m H (kM neg kvs ga ρ st) Q):Gn neg kvs (SE X a) σ H Q:=by
 refine ha.go S R (aw.bind p) λw st1 v m1 H1 p1 e1 S1 r1=>?_
 cases w with
 | str k=>
  unfold ag at r1
  exact⟨k,r1.1,p1 _ m1 H1 e1 S1 (by unfold ag;rfl)⟩
 | _=>exact aa p1
theorem Kz{a:Expr}{ga:GE}{x:Str}{p pos:Pos}{kvs:Dc}(ha:JE X a ga)(hg:Gl X x)(hd:(x == ("__debug__":Str))=false)(D:oC X.K X.w X.mg x kvs):JE X (.Compare a [.In] [.Name x p] pos) (kM false kvs ga) :=
 JE.of (Eh (Gp aE hg hd D) rfl) λρ st σ H m Q S R p=>l5 ha S R p
theorem zK{a:Expr}{ga:GE}{x:Str}{p pos:Pos}{kvs:Dc}(ha:JE X a ga)(hg:Gl X x)(hd:(x == ("__debug__":Str))=false)(D:oC X.K X.w X.mg x kvs):JE X (.Compare a [.NotIn] [.Name x p] pos) (kM true kvs ga) :=
 JE.of (Eh (uR aE hg hd D) rfl) λρ st σ H m Q S R p=>l5 ha S R p
theorem KA{a:Expr}{ga:GE}{x:Str}{p pos:Pos}{kvs:Dc}(ha:JE X a ga)(hg:Gl X x)(hd:(x == ("__debug__":Str))=false)(D:oC X.K X.w X.mg x kvs):JT X (.Compare a [.In] [.Name x p] pos) (bz (kM false kvs ga)) :=
 JT.of (Ej (Gp aE hg hd D) rfl) λρ st σ H m Q S R p=>l5 ha S R (oh p)
theorem zL{a:Expr}{ga:GE}{x:Str}{p pos:Pos}{kvs:Dc}(ha:JE X a ga)(hg:Gl X x)(hd:(x == ("__debug__":Str))=false)(D:oC X.K X.w X.mg x kvs):JT X (.Compare a [.NotIn] [.Name x p] pos) (bz (kM true kvs ga)) :=
 JT.of (Ej (uR aE hg hd D) rfl) λρ st σ H m Q S R p=>l5 ha S R (oh p)
def T5(kvs:Dc)(ty:TE):TE:=λσ H Q=>ty σ H λy H1=>∃z w v,y= .str z/\kvs.lookup z=some w/\(∀u,Bh w u->RelV v u)/\Q v H1
theorem KC{b:Expr}{ty:TE}{x:Str}{p pos:Pos}{kvs:Dc}(hb:PE X b ty)(hs:EO b)(hg:Gl X x)(hd:(x == ("__debug__":Str))=false)(D:oC X.K X.w X.mg x kvs):PE X (.Subscript (.Name x p) b pos) (T5 kvs ty):=by
 intro pins s σ H Q I h
 obtain⟨a,es,ep,g1,g2,g3,g4,g5⟩:=D
 refine AZ PySem.F.slot_dict_getitem.lookup hs (a7 (gw (v:=.ref a) hg g1 rfl hd pins s σ H (λv H2=>v= .ref a/\H2=H) I ⟨rfl,rfl⟩) λu s1 ⟨v,H1,I1,rv,ev,eH⟩=>?_)
 subst ev eH
 obtain rfl:u=ax a:=rv
 refine a7 (hb pins s1 σ H1 _ I1 h) λiv s2 ⟨y,H2,I2,ry,z,w,v,ey,ew,ev,q⟩=>?_
 subst ey
 obtain⟨t,rfl⟩:=(show ∃t,iv=lE z t from ry)
 obtain⟨vs,dd,look⟩:=qT (P:=X.prog) (w:=X.w) I2.AK g2 g4 g5
 obtain⟨u,e1,e2⟩:=(look z).2 w ew
 exact⟨dd.typeIs,wpAny_getItem_of (strKind_is X.prog X.w z t) dd.mapOf e1 ⟨v,H2,I2.tok _,ev u e2,q⟩⟩
theorem KD{b:Expr}{gb:GE}{x:Str}{p pos:Pos}{kvs:Dc}(hb:JE X b gb)(hs:EO b)(hg:Gl X x)(hd:(x == ("__debug__":Str))=false)(D:oC X.K X.w X.mg x kvs):JE X (.Subscript (.Name x p) b pos) (Bi kvs gb) :=
 JE.of (KC aE hs hg hd D) λρ st σ H m Q S R p=>by
  refine hb.go S R (aw.bind p) λw st1 v m1 H1 p1 e1 S1 r1=>?_
  cases w with
  | str k=>
   dsimp only at p1
   cases e:kvs.lookup k with
   | none=>rw[e] at p1;exact aa p1
   | some u=>
    rw[e] at p1
    unfold ag at r1
    cases u with
    | int i=>exact⟨k,.int i,.int i,r1.1,e,λu h=>h,p1 _ m1 H1 e1 S1 (by unfold ag;rfl)⟩
    | str y=>
     by_cases hy:bo y=true
     ·exact⟨k,.str y,.str y,r1.1,e,λu h=>h.1,p1 _ m1 H1 e1 S1 (by unfold ag;exact⟨rfl,hy⟩)⟩
     ·obtain⟨a,es,ep,_,_,_,g4,_⟩:=D
      obtain⟨vs,_,_,_,i4⟩:=oD (P:=X.prog) g4
      obtain⟨u,_,e2⟩:=(i4 k).2 _ e
      exact absurd e2.2 hy
    | _=>
     obtain⟨a,es,ep,_,_,_,g4,_⟩:=D
     obtain⟨vs,_,_,_,i4⟩:=oD (P:=X.prog) g4
     obtain⟨u,_,e2⟩:=(i4 k).2 _ e
     exact aa e2
  | _=>exact aa p1
end
open PySem PySem.Spec PyProof.Rows PySem.W L2
section
variable (lt:Nat->Nat->Bool) (N:Nat)
def Kg{α:Type}:KasT α->(α->Prop)->Prop
 | .ret a,Q=>Q a
 | .ask i j k,Q=>(i < N/\j < N)/\Kg (k (lt i j)) Q
end
section
variable {lt:Nat->Nat->Bool} {N:Nat}
theorem Kg.bind{α β:Type}{f:α->KasT β}{Q:β->Prop}:∀{t:KasT α},Kg lt N t (λa=>Kg lt N (f a) Q)->Kg lt N (t.bind f) Q
 | .ret a,h=>h
 | .ask i j k,h=>⟨h.1,Kg.bind (t:=k (lt i j)) h.2⟩
theorem Kg.imp{α:Type}{Q R:α->Prop}(hq:∀a,Q a->R a):∀{t:KasT α},Kg lt N t Q->Kg lt N t R
 | .ret a,h=>hq a h
 | .ask i j k,h=>⟨h.1,Kg.imp hq (t:=k (lt i j)) h.2⟩
theorem Kg.wp{α:Type}{cmp:Nat->Nat->(Bool->aeZ->Prop)->aeZ->Prop}{P:aeZ->Prop}(hc:∀i j C s,i < N->j < N->P s->(∀s',P s'->C (lt i j) s')->cmp i j C s){G:α->aeZ->Prop} :
  ∀{t:KasT α}{s:aeZ},P s->Kg lt N t (λa=>∀s',P s'->G a s')->t.kasWp cmp G s
 | .ret a,s,hs,h=>h s hs
 | .ask i j k,s,hs,h=>hc i j _ s h.1.1 h.1.2 hs λs' hs'=>Kg.wp hc (t:=k (lt i j)) hs' h.2
structure Ord(lt:Nat->Nat->Bool):Prop where
 as:∀a b,lt a b=true->lt b a=false
 tr:∀a b c,lt a b=false->lt b c=false->lt a c=false
theorem Ord.Mt(o:Ord lt)(a:Nat):lt a a=false:=by
 cases h:lt a a with
 | false=>rfl
 | true=>have:=o.as a a h;rw[h] at this;cases this
theorem Ord.T6(o:Ord lt){a b c:Nat}(h1:lt a b=true)(h2:lt c b=false):lt a c=true:=by
 cases h:lt a c with
 | true=>rfl
 | false=>have:=o.tr a c b h h2;rw[h1] at this;cases this
abbrev at_(p:Array Nat)(i:Nat):Nat:=p.getD i 0
structure Pm(N:Nat)(p:Array Nat):Prop where
 sz:p.size=N
 pm:p.toList.Perm (gq N)
theorem Pm.bd{p:Array Nat}(h:Pm N p){i:Nat}(hi:i < N):at_ p i < N:=by
 have e:at_ p i=p[i]'(by rw[h.sz];exact hi):=by simp[at_,Bj,h.sz,hi]
 rw[e]
 have:p[i]'(by rw[h.sz];exact hi)∈p.toList:=by simp
 exact List.mem_range.mp (h.pm.mem_iff.mp this)
theorem oE{p q:Array Nat}{i j:Nat}(h:p[i]? =q[j]?):at_ p i=at_ q j:=by
 unfold at_
 rw[T7,T7,h]
theorem Pm.rev{p:Array Nat}(h:Pm N p)(i j:Nat):Pm N (kas_rev p i j):=⟨by unfold kas_rev;rw[mirror_size];exact h.sz,((Array.perm_iff_toList_perm.mp (mirror_perm _ _ _ _)).trans h.pm)⟩
theorem Pm.bub{p:Array Nat}(h:Pm N p)(k d:Nat):Pm N (bubble p k d):=⟨by rw[bubble_size];exact h.sz,((Array.perm_iff_toList_perm.mp (bubble_perm _ _ _)).trans h.pm)⟩
theorem ja{p:Array Nat}(h:Pm N p){i j:Nat}(hj:j<=N)(k:Nat):at_ (kas_rev p i j) k=if i<=k/\k < j then at_ p (i+j - 1 - k) else at_ p k:=by
 have q:=getElem?_mirror_all (xs:=p) (i:=i) (j:=j) (by rw[h.sz];exact hj) k
 unfold kas_rev
 split
 ·rename_i c;rw[if_pos c] at q;exact oE q
 ·rename_i c;rw[if_neg c] at q;exact oE q
theorem Gq{p:Array Nat}(h:Pm N p){k l:Nat}(hk:k < N)(hl:l<=k)(i:Nat):at_ (bubble p k (k - l)) i=if i=l then at_ p k else if l < i/\i<=k then at_ p (i - 1) else at_ p i:=by
 have q:=getElem?_bubble (xs:=p) (src:=k) (by rw[h.sz];exact hk) (k - l) (by omega) i
 have e:k - (k - l)=l:=by omega
 rw[e] at q
 split
 ·rename_i c;rw[if_pos c] at q;exact oE q
 ·rename_i c
  rw[if_neg c] at q
  split
  ·rename_i d;rw[if_pos d] at q;exact oE q
  ·rename_i d;rw[if_neg d] at q;exact oE q
def Up(lt:Nat->Nat->Bool)(p:Array Nat)(k:Nat):Prop:=∀i j,i<=j->j < k->lt (at_ p j) (at_ p i)=false
def Dn(lt:Nat->Nat->Bool)(p:Array Nat)(k:Nat):Prop:=∀i j,i<=j->j < k->lt (at_ p i) (at_ p j)=false
theorem Up.succ(o:Ord lt){p:Array Nat}{k:Nat}(h:Up lt p k)(hk:1<=k)(e:lt (at_ p k) (at_ p (k - 1))=false):Up lt p (k+1):=by
 intro i j hij hj
 by_cases c:j < k
 ·exact h i j hij c
 ·have:j=k:=by omega
  subst this
  by_cases c2:i=j
  ·subst c2;exact o.Mt _
  ·exact o.tr _ _ _ e (h i (j - 1) (by omega) (by omega))
theorem Dn.succ(o:Ord lt){p:Array Nat}{k:Nat}(h:Dn lt p k)(hk:1<=k)(e:lt (at_ p (k - 1)) (at_ p k)=false):Dn lt p (k+1):=by
 intro i j hij hj
 by_cases c:j < k
 ·exact h i j hij c
 ·have:j=k:=by omega
  subst this
  by_cases c2:i=j
  ·subst c2;exact o.Mt _
  ·exact o.tr _ _ _ (h i (j - 1) (by omega) (by omega)) e
theorem zM(o:Ord lt){p:Array Nat}(hp:Pm N p):∀(f n:Nat),1<=n->n+f<=N->Up lt p n->Kg lt N (kas_asc p f n) (λm=>n<=m/\m<=n+f/\Up lt p m/\(m < n+f->lt (at_ p m) (at_ p (m - 1))=true))
 | 0,n,h1,h2,h3=>⟨ao _,ao _,h3,λz=>absurd z (cK _)⟩
 | f+1,n,h1,h2,h3=>by
  refine⟨⟨hp.bd (by omega),hp.bd (by omega)⟩,?_⟩
  cases e:lt (p.getD n 0) (p.getD (n - 1) 0) with
  | true=>
   dsimp only
   rw[if_pos rfl]
   exact⟨ao _,by omega,h3,λ_=>e⟩
  | false=>
   dsimp only
   rw[if_neg (by simp)]
   refine(zM o hp f (n+1) (by omega) (by omega) (h3.succ o h1 e)).imp λm ⟨q1,q2,q3,q4⟩=>⟨by omega,by omega,q3,λz=>q4 (by omega)⟩
def Lv(lt:Nat->Nat->Bool)(p:Array Nat)(a n:Nat):Prop:=∀i j,a<=i->i < n->a<=j->j < n->lt (at_ p i) (at_ p j)=false
theorem Dn.rev(o:Ord lt){p:Array Nat}(hp:Pm N p){a n:Nat}(hn:n<=N)(ha:a<=n)(h:Dn lt p n)(hl:Lv lt p a n):Dn lt (kas_rev p a n) n:=by
 intro i j hij hj
 rw[ja hp hn,ja hp hn]
 by_cases ci:a<=i
 ·rw[if_pos ⟨ci,by omega⟩,if_pos ⟨by omega,hj⟩]
  exact hl _ _ (by omega) (by omega) (by omega) (by omega)
 ·rw[if_neg (by omega)]
  by_cases cj:a<=j
  ·rw[if_pos ⟨cj,hj⟩]
   exact h _ _ (by omega) (by omega)
  ·rw[if_neg (by omega)]
   exact h _ _ hij hj
theorem Dn.up{p:Array Nat}(hp:Pm N p){n:Nat}(hn:n<=N)(h:Dn lt p n):Up lt (kas_rev p 0 n) n:=by
 intro i j hij hj
 rw[ja hp hn,ja hp hn,if_pos ⟨by omega,hj⟩,if_pos ⟨by omega,by omega⟩]
 exact h _ _ (by omega) (by omega)
theorem qU(o:Ord lt):∀(f:Nat)(p:Array Nat)(n q:Nat),Pm N p->q+1<=n->n+f<=N->Dn lt p n->Lv lt p (n - 1 - q) n->
  Kg lt N (kas_desc f p n q) (λr=>Pm N r.1/\r.2.2+1<=r.2.1/\r.2.1<=N/\Dn lt r.1 r.2.1/\Lv lt r.1 (r.2.1 - 1 - r.2.2) r.2.1)
 | 0,p,n,q,hp,hq,hn,hd,hl=>⟨hp,hq,by omega,hd,hl⟩
 | f+1,p,n,q,hp,hq,hn,hd,hl=>by
  refine⟨⟨hp.bd (by omega),hp.bd (by omega)⟩,?_⟩
  cases e:lt (p.getD n 0) (p.getD (n - 1) 0) with
  | true=>
   dsimp only
   rw[if_pos rfl]
   have one:∀p':Array Nat,Lv lt p' (n+1 - 1 - 0) (n+1):=λp' i j h1 h2 h3 h4=>by
    have:i=j:=by omega
    subst this
    exact o.Mt _
   by_cases hq0:q > 0
   ·rw[if_pos hq0]
    have z:n - (q+1)=n - 1 - q:=by omega
    have hl2:Lv lt p (n - (q+1)) n:=by rw[z];exact hl
    refine qU o f _ (n+1) 0 (hp.rev _ _) (by omega) (by omega) (Dn.succ o (Dn.rev o hp (by omega) (by omega) hd hl2) (by omega) ?_) (one _)
    rw[ja hp (by omega),ja hp (by omega),if_pos ⟨by omega,by omega⟩,if_neg (by omega)]
    -- the last of the row stands level with the one Xv was last
    have lv:=hl (n - (q+1)+n - 1 - (n - 1)) (n - 1) (by omega) (by omega) (by omega) (by omega)
    cases z:lt (at_ p (n - (q+1)+n - 1 - (n - 1))) (at_ p n) with
    | false=>rfl
    | true=>
     have a1:=o.as _ _ e
     have:=o.tr _ _ _ lv a1
     rw[z] at this
     cases this
   ·rw[if_neg hq0]
    exact qU o f p (n+1) 0 hp (by omega) (by omega) (hd.succ o (by omega) (o.as _ _ e)) (one _)
  | false=>
   dsimp only
   rw[if_neg (by simp)]
   refine⟨⟨hp.bd (by omega),hp.bd (by omega)⟩,?_⟩
   cases e2:lt (p.getD (n - 1) 0) (p.getD n 0) with
   | true=>
    dsimp only
    rw[if_pos rfl]
    exact⟨hp,hq,by show n<=N;omega,hd,hl⟩
   | false=>
    dsimp only
    rw[if_neg (by simp)]
    refine qU o f p (n+1) (q+1) hp (by omega) (by omega) (hd.succ o (by omega) e2) ?_
    intro i j h1 h2 h3 h4
    have key:∀i,n - 1 - q<=i->i < n->lt (at_ p i) (at_ p n)=false/\lt (at_ p n) (at_ p i)=false:=λi a b=>
     ⟨o.tr _ _ _ (hl i (n - 1) a b (by omega) (by omega)) e2,o.tr _ _ _ e (hl (n - 1) i (by omega) (by omega) a b)⟩
    by_cases ci:i < n
    ·by_cases cj:j < n
     ·exact hl i j (by omega) ci (by omega) cj
     ·have:j=n:=by omega
      subst this
      exact(key i (by omega) ci).1
    ·have:i=n:=by omega
     subst this
     by_cases cj:j < i
     ·exact(key j (by omega) cj).2
     ·have:j=i:=by omega
      subst this
      exact o.Mt _
abbrev Run(lt:Nat->Nat->Bool)(N:Nat)(r:Nat×Array Nat):Prop:=Pm N r.2/\1<=r.1/\r.1<=N/\Up lt r.2 r.1
theorem Bk(o:Ord lt){p:Array Nat}{n:Nat}(hp:Pm N p)(h1:1<=n)(hn:n<=N)(hd:Dn lt p n):Kg lt N (kas_tail3 n N p) (Run lt N):=by
 unfold kas_tail3
 refine Kg.bind ((zM o (hp.rev 0 n) (N - n) n h1 (by omega) (hd.up hp hn)).imp λm ⟨q1,q2,q3,_⟩=>?_)
 exact⟨hp.rev 0 n,by show 1<=m;omega,by show m<=N;omega,q3⟩
theorem qo(o:Ord lt){p:Array Nat}{n:Nat}(hp:Pm N p)(hn:n+1<=N)(h1:1<=n)(hd:Dn lt p (n+1)):Kg lt N (kas_descPart n N p) (Run lt N):=by
 unfold kas_descPart
 have one:Lv lt p (n+1 - 1 - 0) (n+1):=λi j h1 h2 h3 h4=>by
  have:i=j:=by omega
  subst this
  exact o.Mt _
 refine Kg.bind ((qU o (N - (n+1)) p (n+1) 0 hp (by omega) (by omega) hd one).imp λr ⟨q1,q2,q3,q4,q5⟩=>?_)
 by_cases c:r.2.2 > 0
 ·rw[if_pos c]
  refine Bk o (q1.rev _ _) (by omega) q3 (Dn.rev o q1 q3 (by omega) q4 ?_)
  have z:r.2.1 - (r.2.2+1)=r.2.1 - 1 - r.2.2:=by omega
  rw[z];exact q5
 ·rw[if_neg c]
  exact Bk o q1 (by omega) q3 q4
theorem Gs(o:Ord lt){p:Array Nat}(hp:Pm N p)(h1:1<=N):Kg lt N (kas_count N p) (Run lt N):=by
 unfold kas_count
 have u1:Up lt p 1:=λi j a b=>by
  have:i=j:=by omega
  subst this
  exact o.Mt _
 refine Kg.bind ((zM o hp (N - 1) 1 (ao _) (by omega) u1).imp λn ⟨q1,q2,q3,q4⟩=>?_)
 by_cases c:n=N
 ·rw[if_pos (by simp[c])]
  exact⟨hp,by show 1<=n;omega,by show n<=N;omega,q3⟩
 ·rw[if_neg (by simp[c])]
  have hs:=q4 (by omega)
  by_cases c2:n > 1
  ·rw[if_pos c2]
   refine⟨⟨hp.bd (by omega),hp.bd (by omega)⟩,?_⟩
   cases e:lt (p.getD 0 0) (p.getD (n - 1) 0) with
   | true=>
    dsimp only
    rw[if_pos rfl]
    exact⟨hp,by show 1<=n;omega,by show n<=N;omega,q3⟩
   | false=>
    dsimp only
    rw[if_neg (by simp)]
    -- all level
    have lv:∀i j,i < n->j < n->lt (at_ p i) (at_ p j)=false:=λi j hi hj=>by
     have a1:=q3 0 i (by omega) hi
     have a2:=q3 j (n - 1) (by omega) (by omega)
     exact o.tr _ _ _ (o.tr _ _ _ a1 e) a2
    refine qo o (hp.rev 0 n) (by omega) (by omega) (Dn.succ o ?_ (by omega) ?_)
    ·intro i j hij hj
     rw[ja hp (by omega),ja hp (by omega),if_pos ⟨by omega,by omega⟩,if_pos ⟨by omega,by omega⟩]
     exact lv _ _ (by omega) (by omega)
    ·rw[ja hp (by omega),ja hp (by omega),if_pos ⟨by omega,by omega⟩,if_neg (by omega)]
     have a1:=o.as _ _ hs
     exact o.tr _ _ _ (lv _ (n - 1) (by omega) (by omega)) a1
  ·rw[if_neg c2]
   have hn:n=1:=by omega
   subst hn
   refine qo o hp (by omega) (by omega) ?_
   refine Dn.succ o (λi j a b=>by
    have:i=j:=by omega
    subst this
    exact o.Mt _) (by omega) (o.as _ _ hs)
theorem r8(o:Ord lt){p:Array Nat}(hp:Pm N p){k:Nat}(hk:k < N):∀(f l r:Nat),l<=r->r<=k->r - l<=f->Up lt p k->(∀i,i < l->lt (at_ p k) (at_ p i)=false)->(∀i,r<=i->i < k->lt (at_ p k) (at_ p i)=true)->
  Kg lt N (kas_place p k f l r) (λm=>m<=k/\(∀i,i < m->lt (at_ p k) (at_ p i)=false)/\∀i,m<=i->i < k->lt (at_ p k) (at_ p i)=true)
 | 0,l,r,h1,h2,h3,u,a,b=>⟨by omega,a,λi h=>b i (by omega)⟩
 | f+1,l,r,h1,h2,h3,u,a,b=>by
  unfold kas_place
  by_cases c:l >= r
  ·rw[if_pos c]
   exact⟨by omega,a,λi h=>b i (by omega)⟩
  ·rw[if_neg c]
   refine⟨⟨hp.bd hk,hp.bd (by omega)⟩,?_⟩
   cases e:lt (p.getD k 0) (p.getD ((l+r) / 2) 0) with
   | true=>
    dsimp only
    rw[if_pos rfl]
    refine r8 o hp hk f l ((l+r) / 2) (by omega) (by omega) (by omega) u a λi hi hk'=>?_
    exact o.T6 e (u _ _ hi hk')
   | false=>
    dsimp only
    rw[if_neg (by simp)]
    refine r8 o hp hk f ((l+r) / 2+1) r (by omega) h2 (by omega) u (λi hi=>?_) b
    exact o.tr _ _ _ e (u i ((l+r) / 2) (by omega) (by omega))
theorem Gu(o:Ord lt):∀(f:Nat)(p:Array Nat)(k:Nat),Pm N p->k+f=N->Up lt p k->Kg lt N (kas_bin f p k) (λp'=>Pm N p'/\Up lt p' N)
 | 0,p,k,hp,hk,u=>by
  have:k=N:=by omega
  subst this
  exact⟨hp,u⟩
 | f+1,p,k,hp,hk,u=>by
  unfold kas_bin
  refine Kg.bind ((r8 o hp (by omega) k 0 k (by omega) (ao _) (by omega) u (λi h=>absurd h (by omega)) (λi h1 h2=>absurd h2 (by omega))).imp λl ⟨q1,q2,q3⟩=>?_)
  refine Gu o f _ (k+1) (hp.bub _ _) (by omega) ?_
  intro i j hij hj
  have bi:=Gq hp (k:=k) (l:=l) (by omega) q1 i
  have bj:=Gq hp (k:=k) (l:=l) (by omega) q1 j
  rw[bi,bj]
  by_cases e:j=l
  ·rw[if_pos e]
   by_cases e':i=l
   ·rw[if_pos e'];exact o.Mt _
   ·rw[if_neg e',if_neg (by omega)]
    exact q2 i (by omega)
  ·rw[if_neg e]
   by_cases d:l < j/\j<=k
   ·rw[if_pos d]
    by_cases e':i=l
    ·rw[if_pos e']
     exact o.as _ _ (q3 (j - 1) (by omega) (by omega))
    ·rw[if_neg e']
     by_cases d':l < i/\i<=k
     ·rw[if_pos d']
      exact u _ _ (by omega) (by omega)
     ·rw[if_neg d']
      exact u _ _ (by omega) (by omega)
   ·rw[if_neg d,if_neg (by omega),if_neg (by omega)]
    exact u _ _ hij (by omega)
theorem Bl(o:Ord lt)(h1:1<=N):Kg lt N (kas_sort N) (λp=>Pm N p/\Up lt p N):=by
 have h0:Pm N (List.toArray (gq N)):=⟨by simp,by simp⟩
 unfold kas_sort
 refine Kg.bind ((Gs o h0 h1).imp λr ⟨q1,q2,q3,q4⟩=>?_)
 by_cases c:r.1 < N
 ·rw[if_pos c]
  have z:max r.1 1=r.1:=by omega
  rw[z]
  exact Gu o _ _ _ q1 (by omega) q4
 ·rw[if_neg c]
  have z:r.1=N:=by omega
  rw[z] at q4
  exact⟨q1,q4⟩
end
def tN(a b:Int×Int):Bool:=decide (a.1 < b.1)||(decide (a.1=b.1)&&decide (a.2 < b.2))
theorem zN{a b:Int×Int}(h:tN a b=true):tN b a=false:=by
 unfold tN at h ⊢
 simp at h ⊢
 omega
theorem zO{a b c:Int×Int}(h:tN a b=false)(k:tN b c=false):tN a c=false:=by
 unfold tN at h k ⊢
 simp at h k ⊢
 omega
theorem O'{a b:Int×Int}(h:tN a b=false)(k:tN b a=false):a=b:=by
 unfold tN at h k
 simp at h k
 exact vx (by omega) (by omega)
def zP(n:Int×Int):List (Int×Int)->List (Int×Int)
 | []=>[n]
 | a::r=>if tN a n=true then a::zP n r else n::a::r
def cV:List (Int×Int)->List (Int×Int)
 | []=>[]
 | a::r=>zP a (cV r)
theorem pH(n:Int×Int):∀l,(zP n l).Perm (n::l)
 | []=> .refl _
 | a::r=>by
  unfold zP
  split
  ·exact((pH n r).cons a).trans (.swap n a r)
  ·exact .refl _
theorem fe:∀l,(cV l).Perm l
 | []=> .nil
 | a::r=>(pH a (cV r)).trans ((fe r).cons a)
abbrev Jd(l:List (Int×Int)):Prop:=l.Pairwise λa b=>tN b a=false
theorem Bm(n:Int×Int):∀l,Jd l->Jd (zP n l)
 | [],_=>by simp[zP]
 | a::r,h=>by
  unfold zP
  rw[Jd,vX] at h
  split
  ·rename_i c
   rw[Jd,vX]
   refine⟨λb hb=>?_,Bm n r h.2⟩
   rcases List.mem_cons.mp ((pH n r).mem_iff.mp hb) with z | z
   ·rw[z];exact zN c
   ·exact h.1 b z
  ·rename_i c
   have c':tN a n=false:=by simpa using c
   rw[Jd,vX,vX]
   refine⟨λb hb=>?_,h⟩
   rcases List.mem_cons.mp hb with z | z
   ·rw[z];exact c'
   ·exact zO (h.1 b z) c'
theorem oF:∀l,Jd (cV l)
 | []=> .nil
 | a::r=>Bm a _ (oF r)
theorem r_{a b:List (Int×Int)}(h:a.Perm b)(ha:Jd a)(hb:Jd b):a=b :=
 List.Perm.eq_of_pairwise (λ_ _ _ _ h1 h2=>O' h2 h1) ha hb h
section
variable {prog:aeY} {w:ae1} {A:aeV} {E:ae0->aeZ->Prop} {s:aeZ}
theorem Bn{x y:aeU}{ox oy:Obj}{a1 a2 b1 b2:Int}{t1 t2 u1 u2:Tok}{n k:Nat}{Q:Bool->aeZ->Prop}(hx:s.heap.get? x=some ox)(dx:ox.data= .seq #[.int a1 t1,.int a2 t2] n)(hy:s.heap.get? y=some oy)(dy:oy.data= .seq #[.int b1 u1,.int b2 u2] k)
  (h:Q (tN (a1,a2) (b1,b2)) s):afd (model prog w) A (keyLt' (tuples' true) (.ref x) (.ref y)) Q E s:=by
 have hq:∀b,b=tN (a1,a2) (b1,b2)->Q b s:=λb e=>by rw[e];exact h
 refine kat_lt hx dx hy dy ?_
 refine kat_cons (wpAny_eqBool_int (kat_go (λe=>kat_yes ?_) (λe=>kat_no ?_)))
 ·refine kat_cons (wpAny_eqBool_int (kat_go (λe2=>kat_yes ?_) (λe2=>kat_no ?_)))
  ·refine kat_nil (hq _ ?_)
   have z1:a1=b1:=by simpa using e
   have z2:a2=b2:=by simpa using e2
   subst z1 z2
   simp[tN]
  ·refine kat_one _ _ (PyProof.Rows.lt_int ?_)
   show Q (decide (a2 < b2)) s
   refine hq _ ?_
   have z1:a1=b1:=by simpa using e
   subst z1
   simp[tN]
 ·refine oneLt_int (hq _ ?_)
  have z1:¬a1=b1:=by simpa using e
  simp[tN,z1]
end
theorem b8{α β:Type}{F:α->β->Prop}{a:α}{b:β}:∀{l:List α}{k:List β}{i:Nat},Paired F l k->i < k.length->F (l.getD i a) (k.getD i b)
 | _,_,0,.cons h _,_=>by simpa using h
 | _,_,i+1,.cons _ t,hi=>by simpa using b8 (i:=i) t (by simpa using hi)
theorem hU{α β:Type}{F:α->β->Prop}{f:Nat->α}{g:Nat->β}:∀{l:List Nat},(∀i∈l,F (f i) (g i))->Paired F (l.map f) (l.map g)
 | [],_=> .nil
 | i::l,h=> .cons (h i (by simp)) (hU λj hj=>h j (by simp[hj]))
def TupAt(h:Heap)(v:ae0)(q:Int×Int):Prop:=∃(a:aeU)(o:Obj)(t u:Tok)(n:Nat),v= .ref a/\h.get? a=some o/\o.cls= .type "tuple"/\o.data= .seq #[.int q.1 t,.int q.2 u] n
abbrev Gv(H:Hp):List V->List (Int×Int)->Prop:=Paired λv q=>∃a,v= .ref a/\H a=some (.tup [.int q.1,.int q.2])
theorem Di{x y:Int}{its:List ae0}(h:Vals [.int x,.int y] its):∃t u,its=[.int x t,.int y u]:=by
 cases h with
 | cons h1 h2=>
  cases h2 with
  | cons h3 h4=>
   cases h4
   obtain⟨t,rfl⟩:=h1
   obtain⟨u,rfl⟩:=h3
   exact⟨t,u,rfl⟩
section
variable {X:Cx} {pins:List (aeU×Obj)} {σ:St} {H:Hp} {s:aeZ}
theorem zQ(I:Inv X pins σ H s):∀{vs:List V}{ps:List (Int×Int)}{its:List ae0},Gv H vs ps->Vals vs its->Paired (TupAt s.heap) its ps
 | _,_,_,.nil,.nil=> .nil
 | _,_,_,.cons h t,.cons r rs=>by
  obtain⟨a,rfl,hT⟩:=h
  cases r
  obtain⟨its,rv,⟨o,g1,g2,n,g3⟩,_⟩:=I.tuple (ft.of hT)
  obtain⟨t1,u1,rfl⟩:=Di rv
  exact .cons ⟨a,o,t1,u1,n,rfl,g1,g2,g3⟩ (zQ I t rs)
end
theorem sf{h:Heap}:∀{its:List ae0}{ps:List (Int×Int)},Paired (TupAt h) its ps->∃fs:List ae0,KatTups h its fs/\fs.length=ps.length/\∀v∈fs,∃i t,v= .int i t
 | _,_,.nil=>⟨[],.nil,rfl,(λ_ z=>by cases z)⟩
 | _,_,.cons (b:=q) hd tl=>by
  obtain⟨fs,k1,k2,k3⟩:=sf tl
  obtain⟨a,o,t,u,n,rfl,g1,g2,g3⟩:=hd
  refine⟨.int q.1 t::fs,.cons g1 g2 g3 rfl k1,by simp[k2],λv hv=>?_⟩
  rcases List.mem_cons.mp hv with z | z
  ·exact⟨_,_,z⟩
  ·exact k3 v z
theorem pI{h h':Heap}(k:∀a o its n,h.get? a=some o->o.data= .seq its n->h'.get? a=some o):∀{its:List ae0}{ps:List (Int×Int)},Paired (TupAt h) its ps->Paired (TupAt h') its ps
 | _,_,.nil=> .nil
 | _,_,.cons hd tl=>by
  obtain⟨a,o,t,u,n,e,g1,g2,g3⟩:=hd
  exact .cons ⟨a,o,t,u,n,e,k a o _ _ g1 g3,g2,g3⟩ (pI k tl)
theorem zR{h h':Heap}{L:aeU}{m m':Str->Option ae0}(a:h.Ns L m)(b:h.Ns L m')(c:h'.Ns L m):h'.Ns L m':=by
 obtain⟨o,es,ep,e1,e2,_,e4⟩:=a
 obtain⟨o',es',Ja,f1,f2,_,f4⟩:=b
 rw[e1] at f1
 cases f1
 rw[e2] at f2
 cases f2
 have:m=m':=funext λx=>(e4 x).symm.trans (f4 x)
 rw[<-this]
 exact c
theorem range_getD{α:Type}{d:α}(l:List α):(gq l.length).map (λi=>l.getD i d)=l:=by
 refine List.ext_getElem (by simp) λi h1 h2=>?_
 simp[h2]
section
variable {X:Cx}
theorem Dj:cA X (.builtin "sorted") (λxs H Q=>∃(p:aeU)(vs:List V)(ps:List (Int×Int)),xs=[.ref p]/\kC X.K H p vs/\Gv H vs ps/\2<=ps.length/\ps.length < 64/\∀l vs',H l=none->Gv H vs' (cV ps)->Q (.ref l) (upd H l (.lst vs'))):=by
 intro pins s σ H xs us Q I r h
 obtain⟨p,vs,ps,rfl,hq,hp,h2,h64,q⟩:=h
 obtain⟨u,rfl,rx⟩:=vals1 r
 cases rx
 obtain⟨its,r',pl,hz⟩:=I.list hq
 have tu:=zQ I hp r'
 have l1:vs.length=its.length:=r'.length
 have l2:its.length=ps.length:=tu.length
 obtain⟨m,hn,hl⟩:=id I.loc
 obtain⟨oL,esL,epL,gL,dL,_⟩:=id hn
 refine kat_sorted (Att.vG hn) (nQ (g:=Att.mR s.heap) (h:=s.heap) (L:=X.env.locals)) pl.isList (by omega) (by omega) λD e1 h' F' N' hD=>?_
 have keep:∀b o,b≠X.env.locals->s.heap.get? b=some o->h'.get? b=some o:=λb o n e=>(N' (b,o) (aI _ (bN n (Att.bQ _ _) e))).1
 have Pa:Paired (TupAt h') its ps:=pI (λa o its n e d=>keep a o (λz=>by
  subst z
  rw[gL] at e
  cases e
  rw[dL] at d
  cases d) e) tu
 obtain⟨fs,k1,k2,k3⟩:=sf Pa
 refine kat_kind (T:=.type "int") (s:={ s with heap:=h' }) k1 (by omega) (λv hv=>by obtain⟨i,t,rfl⟩:=k3 v hv;exact Looks.of_pure rfl) (by decide) ?_
 have et:(lI "int" != lI "tuple")=true:=by decide
 rw[et,l2]
 have od:Ord λi j=>tN (ps.getD i (0,0)) (ps.getD j (0,0)):=⟨λa b h=>zN h,λa b c h k=>zO h k⟩
 refine Kg.wp (lt:=λi j=>tN (ps.getD i (0,0)) (ps.getD j (0,0))) (N:=ps.length) (P:=λs''=>s''={ s with heap:=h' }) (λi j C s'' hi hj hs hC=>?_) rfl ((Bl od (by omega)).imp λpm ⟨P1,P2⟩ s'' hs=>?_)
 ·subst hs
  obtain⟨a,o,t,u,n,e,g1,g2,g3⟩:=b8 (a:=a_) (b:=(0,0)) Pa hi
  obtain⟨a',o',t',u',n',e',Ec,SY,XX⟩:=b8 (a:=a_) (b:=(0,0)) Pa hj
  unfold kas_ask
  rw[e,e']
  exact Bn (s:={ s with heap:=h' }) g1 g3 Ec XX (hC _ rfl)
 ·subst hs
  refine KasFin.intro (s:={ s with heap:=h' }) F' N' (.head λq hq=>bh (hD q hq)) λh'' c Pb KG=>?_
  have hDL:D≠X.env.locals:=(N' (D,_) aQ).2.1
  have f_:∀b o,b≠X.env.locals->s.heap.get? b=some o->h''.get? b=some o:=λb o n e=>(KG (b,o) (aI _ (bN n (Att.bQ _ _) e))).1
  have Dk:s.heap.get? D=none:=by
   cases e:s.heap.get? D with
   | none=>rfl
   | some o=>exact absurd (hD (D,o) (bN hDL (Att.bQ _ _) e)) (cK _)
  have Ed:H D=none:=by
   cases e:H D with
   | none=>rfl
   | some ob=>
    obtain⟨z,e'⟩:=pB (I.hok D ob e)
    rw[Dk] at e'
    cases e'
  have mem:∀i∈pm.toList,i < ps.length:=λi hi=>List.mem_range.mp (P1.pm.mem_iff.mp hi)
  have hv:Vals (pm.toList.map λi=>vs.getD i .aZ) (pm.toList.map λi=>its.getD i a_):=hU λi hi=>b8 r' (by have:=mem i hi;omega)
  have XY:(pm.toList.map λi=>ps.getD i (0,0))=cV ps:=by
   refine r_ ((P1.pm.map _).trans (by rw[range_getD];exact(fe ps).symm)) ?_ (oF _)
   rw[Jd,Bo,Be]
   intro i j hi hj hij
   have z:=P2 i j (by omega) (by have:=P1.sz;simpa [this] using hj)
   have ei:at_ pm i=pm.toList[i]:=by
    have:i < pm.size:=by simpa using hi
    simp[at_,Bj,this]
   have ej:at_ pm j=pm.toList[j]:=by
    have:j < pm.size:=by simpa using hj
    simp[at_,Bj,this]
   rw[ei,ej] at z
   exact z
  have XZ:Gv H (pm.toList.map λi=>vs.getD i .aZ) (cV ps):=by
   rw[<-XY]
   exact hU λi hi=>b8 hp (mem i hi)
  have hlen:pm.toList.length=ps.length:=by have:=P1.sz;simpa using this
  have xY:∀b u,H b=some u->b≠D:=λb u e=>bg e Ed
  have Eg:∀b u,H b=some u->b≠X.env.locals:=λb u e=>bg e I.free
  have I':Inv X pins σ (upd H D (.lst (pm.toList.map λi=>vs.getD i .aZ))) { s with heap:=h'' }:=by
   refine I.step (g':=s.gens) (d':=s.drawn) (t':=s.toks) (ch:=[]) (λ_ z=>nomatch z) (λb o n _ _ e _=>f_ b o n e) (λb o n _ _ e _=>⟨o.slots,f_ b o n e⟩) (λb o _ e n=>?_) (λb o _ e=>?_) (λb xs e=>?_) (λb o u e=>?_) (λb ps e=>?_) (λm' hm=>zR hn hm Pb.ns) (λb ob e=>?_) I.bare
   ·rw[au (λz=>by subst z;rw[Dk] at e;cases e)];exact n
   ·by_cases z:b=X.env.locals
    ·subst z
     obtain⟨o',_,_,e',_⟩:=Pb.ns
     exact⟨o',e'⟩
    ·exact⟨o,f_ b o z e⟩
   ·rw[au (xY _ _ e)];exact e
   ·rw[au (xY _ _ e)];exact e
   ·exact⟨#[],by rw[au (xY _ _ e),e];simp⟩
   ·by_cases z:b=D
    ·subst z
     rw[aF] at e
     cases e
     exact⟨by rw[bb,hlen,<-l2,<-l1];exact hz,_,c,hv,(KG (b,_) aQ).1⟩
    ·rw[au z] at e
     refine(I.hok b ob e).stay (λc v hc q=>f_ c v ?_ q) (λc q=>by rw[au (xY _ _ q)];exact q) λc xs q=>by rw[au (xY _ _ q)];exact q
     rcases hc with y | y
     ·rw[y];exact Eg b ob e
     ·exact Eg c _ y
  exact⟨.ref D,_,I',rfl,q D _ Ed XZ⟩
end
section
variable {prog:aeY} {w:ae1} {A:aeV} {E:ae0->aeZ->Prop} {s:aeZ}
theorem uS{a:aeU}{its:List ae0}{n:Nat}{P:PySem.Fin->aeZ->Prop}(h2:its.length < 2)(ho:s.heap.get? a=some (seqObj "list" its.toArray n))(k:P (.done (.ret .none)) { s with heap:=sortedHeap s.heap a its its.toArray }):afd (model prog w) A (Builtin.«list.sort» ⟨[.ref a],[]⟩) P E s:=by
 obtain⟨c,hc⟩:∃c,(s.heap.update a (df λ_=>(#[]:Array ae0))).get? a=some (seqObj "list" #[] c):=⟨_,get?_update_seq ho λ_=>#[]⟩
 have big:(((s.heap.update a (df λ_=>(#[]:Array ae0))).push (seqObj "tuple" its.toArray 0)).push (seqObj "list" #[] 0)).get? a=some (seqObj "list" #[] c):=aS _ (aS _ hc)
 rw[list_sort_plain]
 refine afe (listItems_at ho rfl (afe (listUpdate_at ho rfl (afe (seqEpoch_at hc rfl (afe (wpAny_newTuple (afe (afi (afg ?_))))))))))
 show afd (model prog w) A _ P E { s with heap:=((s.heap.update a (df λ_=>(#[]:Array ae0))).push (seqObj "tuple" its.toArray 0)).push (seqObj "list" #[] 0) }
 have few:its.toArray.size < 2:=by simpa using h2
 dsimp only
 rw[if_pos few,if_pos few]
 refine afe (afk (afe ?_))
 rw[StateT.run_pure]
 refine afk ?_
 have mp:Array.map (λx:afm=>x.2) (arrOf (SortSt.mk' general' (its.toArray.zip its.toArray) #[] 7 none))=its.toArray:=by
  show Array.map (λx:afm=>x.2) (its.toArray.zip its.toArray)=its.toArray
  match its,h2 with
  | [],_=>simp
  | [v],_=>simp
 dsimp only
 simp only[mp]
 refine afe (seqEpoch_at big rfl (afe (listUpdate_at big rfl ?_)))
 simp only[bne_self_eq_false,iI,if_false]
 exact afk k
theorem zS{l:aeU}{its:List ae0}{Q:ae0->aeZ->Prop}(h2:its.length < 2)(hl:s.heap.IsList l its.toArray)(k:Q (.ref (s.heap.objs.size+1)) { s with heap:=sortedAll s.heap its its.toArray }):afd (model prog w) A (call (.builtin "sorted") [.ref l]) Q E s:=by
 have zz:((s.heap.push (seqObj "list" #[] 0)).update s.heap.objs.size (df (· ++its.toArray))).objs.size=s.heap.objs.size+1:=(Heap.size_update ..).trans (size_push' ..)
 have hh:(((s.heap.push (seqObj "list" #[] 0)).update s.heap.objs.size (df (· ++its.toArray))).push (seqObj "list" its.toArray 0)).get? (s.heap.objs.size+1)=some (seqObj "list" its.toArray 0):=zz ▸ br _ rfl
 refine Pc kind_sorted plain_sorted entry_sorted (args_sorted1 _) ?_
 unfold Builtin.«sorted»
 refine afe (m:=checkCount "sorted" 1 1 _) (afk (afe (collect_list hl (afe (afi ?_)))))
 show afd _ _ _ _ _ { s with heap:=((s.heap.push (seqObj "list" #[] 0)).update s.heap.objs.size (df (· ++its.toArray))).push (seqObj "list" its.toArray 0) }
 rw[zz]
 exact afe (afg (wpAny_call_entry slot_list_sort ⟨_,hh,rfl⟩ entry_list_sort (uS h2 hh ⟨_,rfl,afk ⟨_,rfl,k⟩⟩) (args_list_sort _)))
end
section
variable {X:Cx}
theorem Dl:cA X (.builtin "sorted") (λxs H Q=>∃(p:aeU)(vs:List V),xs=[.ref p]/\kC X.K H p vs/\vs.length < 2/\∀l,H l=none->Q (.ref l) (upd H l (.lst vs))):=by
 intro pins s σ H xs us Q I r h
 obtain⟨p,v,rfl,hq,h2,q⟩:=h
 obtain⟨u,rfl,rx⟩:=vals1 r
 cases rx
 obtain⟨its,r',pl,hz⟩:=I.list hq
 obtain⟨n,hat⟩:=sortedAll_at s.heap its its.toArray
 refine zS (by rw[<-r'.length];exact h2) pl.isList ⟨.ref (s.heap.objs.size+1),_,I.laid (t':=s.toks) (λ_ _=>sortedAll_old) (vY _) (show cH X.prog X.w _ _ _ (.lst _) from⟨hz,its,n,r',?_⟩),rfl,q _ (I.hok.fresh (vY _))⟩
 rw[hat]
def jN:List Wv->Option (List (Int×Int))
 | []=>some []
 | .tup [.int a,.int b]::r=>(match jN r with | some l=>some ((a,b)::l) | none=>none)
 | _=>none
abbrev pw(p:Int×Int):Wv:=.tup [.int p.1,.int p.2]
theorem sg:∀ps:List (Int×Int),jN (ps.map pw)=some ps
 | []=>rfl
 | p::r=>by rw[aB];unfold jN;rw[sg r]
theorem sh{K:PySem.W.Frag}{m:Mp}{H:Hp}:∀{ws:List Wv}{vs:List V}{ps:List (Int×Int)},ah K m H ws vs->jN ws=some ps->Gv H vs ps
 | [],vs,ps,r,e=>by
  unfold ah at r
  subst r
  cases e
  exact .nil
 | w::ws,vs,ps,r,e=>by
  unfold ah at r
  obtain⟨x,t,rfl,r1,r2⟩:=r
  unfold jN at e
  split at e
  ·cases ‹_::_=[]›
  ·rename_i a b r' he
   cases he
   cases q:jN ws with
   | none=>rw[q] at e;cases e
   | some l=>
    rw[q] at e
    cases e
    unfold ag at r1
    obtain⟨ad,xs,rfl,hT,rx⟩:=r1
    unfold ah at rx
    obtain⟨y1,z1,rfl,ry1,rx⟩:=rx
    unfold ah at rx
    obtain⟨y2,z2,rfl,ry2,rx⟩:=rx
    unfold ah at rx
    subst rx
    unfold ag at ry1 ry2
    subst ry1 ry2
    exact .cons ⟨ad,rfl,hT⟩ (sh r2 q)
  ·cases e
theorem mX{K:PySem.W.Frag}{m:Mp}{H:Hp}:∀{vs:List V}{ps:List (Int×Int)},Gv H vs ps->ah K m H (ps.map pw) vs
 | _,_,.nil=>ah.nil
 | _,_,.cons h t=>by
  obtain⟨a,rfl,hT⟩:=h
  refine ah.cons ?_ (mX t)
  unfold ag
  exact⟨a,_,rfl,hT,ah.cons (by unfold ag;rfl) (ah.cons (by unfold ag;rfl) ah.nil)⟩
def jw:List Wv->Hs->Re Wv
 | [.ref l],st=>match aq st l with
  | some ws=>if ws.length < 2 then .ok (.ref st.length) (st++[.lst ws]) else(match jN ws with | some ps=>if 2<=ps.length/\ps.length < 64 then .ok (.ref st.length) (st++[.lst ((cV ps).map pw)]) else .bad | none=> .bad)
  | none=> .bad
 | _,_=> .bad
theorem Bp:cO X (.builtin "sorted") jw:=by
 refine⟨_,Dl.or Dj,λws vs st H m Q S rs p=>?_⟩
 match ws,rs,p with
 | [],rs,p=>exact aa p
 | x::y::t,rs,p=>cases x<;>exact aa p
 | [x],rs,p=>
  cases x with
  | ref l=>
   obtain⟨v,rfl,r1⟩:=kH rs
   unfold jw at p
   unfold ag at r1
   obtain⟨a,rfl,hl⟩:=r1
   cases e:aq st l with
   | none=>simp only[e] at p;exact aa p
   | some ws=>
    simp only[e] at p
    obtain⟨xs,q1,q2⟩:=S.read hl e
    by_cases c0:ws.length < 2
    ·rw[if_pos c0] at p
     exact .inl ⟨a,xs,rfl,q1,q2.length ▸ c0,λk hk=>p (.ref k) (m++[k]) _ (Ext.more.trans (Ext.upd (.inl hk))) (S.alloc hk q2) (S.newest k _)⟩
    ·rw[if_neg c0] at p
     cases e2:jN ws with
     | none=>rw[e2] at p;exact aa p
     | some ps=>
      rw[e2] at p
      dsimp only at p
      by_cases c:2<=ps.length/\ps.length < 64
      ·rw[if_pos c] at p
       refine .inr ⟨a,xs,ps,rfl,q1,sh q2 e2,c.1,c.2,λk vs' hk hp=>?_⟩
       exact p (.ref k) (m++[k]) _ (Ext.more.trans (Ext.upd (.inl hk))) (S.alloc hk (mX hp)) (S.newest k _)
      ·rw[if_neg c] at p
       exact aa p
  | _=>exact aa p
end
def keysOf:List Wv->Option (List L2.Key)
 | []=>some []
 | w::r=>(match keyOf w,keysOf r with | some k,some l=>some (k::l) | _,_=>none)
def iH:Wv->Option (List L2.Key)
 | .tup ws=>keysOf ws
 | _=>none
theorem si{K:PySem.W.Frag}{m:Mp}{H:Hp}:∀{ws:List Wv}{xs:List V}{ks:List L2.Key},ah K m H ws xs->keysOf ws=some ks->xs=ks.map kV
 | [],xs,ks,r,e=>by unfold ah at r;subst r;cases e;rfl
 | w::ws,xs,ks,r,e=>by
  unfold ah at r
  obtain⟨x,t,rfl,r1,r2⟩:=r
  unfold keysOf at e
  cases e1:keyOf w with
  | none=>rw[e1] at e;cases e
  | some k=>
   cases e2:keysOf ws with
   | none=>rw[e1,e2] at e;cases e
   | some l=>
    rw[e1,e2] at e
    cases e
    rw[l3 r1 e1,si r2 e2]
    rfl
theorem hV{K:PySem.W.Frag}{m:Mp}{H:Hp}{w:Wv}{v:V}{ks:List L2.Key}(r:ag K m H w v)(e:iH w=some ks):∃b,v= .ref b/\H b=some (.tup (ks.map kV)):=by
 cases w with
 | tup ws=>
  unfold ag at r
  obtain⟨a,xs,rfl,h1,h2⟩:=r
  rw[si h2 e] at h1
  exact⟨a,rfl,h1⟩
 | _=>cases e
def hZ:GE:=λ_ st=> .ok (.ref st.length) (st++[.bu []])
def Mu:GE:=λ_ st=> .ok (.ref st.length) (st++[.dct []])
section
variable {X:Cx}
theorem Bq{pos:Pos}:JE X (.Dict [] [] pos) hZ:=JE.of EU λρ st σ H m Q S R p=>λq hq=>
 p (.ref q) (m++[q]) _ (Ext.more.trans (Ext.gz (.inl hq))) (S.vK hq ⟨[],aF,RelK.nil⟩) (S.newest q _)
theorem KH{pos:Pos}:JE X (.Dict [] [] pos) Mu:=JE.of ET λρ st σ H m Q S R p=>λq hq=>
 p (.ref q) (m++[q]) _ (Ext.more.trans (Ext.gz (.inl hq))) (S.vK hq ⟨[],aF,RelK.nil⟩) (S.newest q _)
def putD(d k v:Wv)(st:Hs):Option Hs:=match d with
 | .ref l=>(match st[l]? with
  | some (.dct kvs)=>(match keyOf k with | some kk=>if kvs.length < lim then some (st.set l (.dct (dW kvs kk v))) else none | none=>none)
  | some (.bu kvs)=>(match iH k with | some kk=>if kvs.length < lim then some (st.set l (.bu (dW kvs kk v))) else none | none=>none)
  | _=>none)
 | _=>none
def jy(gv gd gk:GE):GS:=λρ st=>(gv ρ st).a7 ρ λv st1=>(gd ρ st1).a7 ρ λd st2=>(gk ρ st2).a7 ρ λk st3=>match putD d k v st3 with
 | some A3=> .nx ρ A3
 | none=> .bad
theorem KI{m:Mp}{st st':Hs}{H:Hp}{d k v:Wv}{x y z:V}(S:bq X.K m st H)(rd:ag X.K m H d x)(rk:ag X.K m H k y)(rv:ag X.K m H v z)(e:putD d k v st=some st'):∃a H',x= .ref a/\vI H a y z H'/\Ext X.K m H m H'/\bq X.K m st' H':=by
 unfold putD at e
 cases d with
 | ref l=>
  dsimp only at e
  unfold ag at rd
  obtain⟨a,rfl,ha⟩:=rd
  cases e1:st[l]? with
  | none=>rw[e1] at e;cases e
  | some o=>
   rw[e1] at e
   cases o with
   | dct kvs=>
    dsimp only at e
    cases e2:keyOf k with
    | none=>rw[e2] at e;cases e
    | some kk=>
     rw[e2] at e
     dsimp only at e
     by_cases c:kvs.length < lim
     ·rw[if_pos c] at e
      cases e
      obtain⟨xs,h1,h2⟩:=(show ∃ys,H a=some (.dK ys)/\RelK X.K m H kvs ys from S.obj _ _ _ ha e1)
      have ex:Ext X.K m H m (upd H a (.dK (putK xs kk z))):=Ext.gz (.inr (.inr (.inl ⟨_,h1⟩)))
      refine⟨a,_,rfl,by rw[l3 rk e2];exact vI.k h1 (by rw[<-h2.length];exact vM c),ex,?_⟩
      exact S.i7 ha e1 rfl ⟨_,aF,(h2.put kk rv).mono ex⟩
     ·rw[if_neg c] at e;cases e
   | bu kvs=>
    dsimp only at e
    cases e2:iH k with
    | none=>rw[e2] at e;cases e
    | some kk=>
     rw[e2] at e
     dsimp only at e
     by_cases c:kvs.length < lim
     ·rw[if_pos c] at e
      cases e
      obtain⟨xs,h1,h2⟩:=(show ∃ys,H a=some (.dT ys)/\RelK X.K m H kvs ys from S.obj _ _ _ ha e1)
      obtain⟨b,rfl,hb⟩:=hV rk e2
      have ex:Ext X.K m H m (upd H a (.dT (putK xs kk z))):=Ext.gz (.inr (.inr (.inr ⟨_,h1⟩)))
      refine⟨a,_,rfl,vI.t h1 hb (by rw[<-h2.length];exact vM c),ex,?_⟩
      exact S.i7 ha e1 rfl ⟨_,aF,(h2.put kk rv).mono ex⟩
     ·rw[if_neg c] at e;cases e
   | _=>cases e
 | _=>cases e
theorem KJ{o i e:Expr}{go gi ge:GE}{pos pos':Pos}(hu:X.A.units+1 < cLine)(he:JE X e ge)(ho:JE X o go)(hi:JE X i gi)(hs:swapsWith e (some (.Subscript o i pos')) pos.line X.env=pure false):JS X (.Assign [.Subscript o i pos'] e pos) (jy ge go gi) :=
 JS.of (JQ hu aE aE aE hs) λρ st σ H m D S R p=>by
  refine he.go S R (aA.bW R p) λv st1 vv m1 H1 p1 e1 S1 rv=>?_
  refine ho.go S1 (R.mono e1) ((aA.bW (m:=m) (H:=H) R p1).imp e1 λ_ _ q=>q) λd st2 vd m2 H2 p2 e2 S2 rd=>?_
  refine hi.go S2 (R.mono (e1.trans e2)) ((aA.bW (m:=m) (H:=H) R p2).imp (e1.trans e2) λ_ _ q=>q) λk st3 vk m3 H3 p3 e3 S3 rk=>?_
  have CQ:=e1.trans (e2.trans e3)
  cases e4:putD d k v st3 with
  | none=>rw[e4] at p3;exact aa p3
  | some A3=>
   rw[e4] at p3
   obtain⟨a,H4,f1,f2,f3,f4⟩:=KI (X:=X) S3 (ag.mono e3 _ _ rd) rk (ag.mono (e2.trans e3) _ _ rv) e4
   exact⟨a,H4,f1,f2,p3 σ m3 H4 (CQ.trans f3) f4 (R.mono (CQ.trans f3))⟩
end
def kN(h:Heap)(d:aeU)(es:Array DictEntry)(ep:Nat):Prop:=∃o,h.get? d=some o/\o.cls= .type "dict"/\o.data= .dict es ep
section
variable {prog:aeY} {w:ae1} {A:aeV} {E:ae0->aeZ->Prop} {s:aeZ} {d it:aeU} {es:Array DictEntry} {ep i:Nat}
theorem kN.ty(x:kN s.heap d es ep):s.TypeIs (.ref d) "dict":=let ⟨o,h1,h2,_⟩:=x;⟨o,h1,h2⟩
theorem xZ{Q:ae0->aeZ->Prop}(lo:(d == sysModules)=false)(x:kN s.heap d es ep)
  (k:Q (.ref s.heap.objs.size) { s with heap:=s.heap.push { cls:=.type "dict_keyiterator",data:=.fields #[.ref d,.int 0 0,.int es.size 0,.int ep 0] } }):afd (model prog w) A (pyIter (.ref d)) Q E s:=by
 have ty:=x.ty
 obtain⟨o,g1,g2,g3⟩:=x
 refine wpAny_pyIter_slot ty PySem.F.slot_dict_iter (wpAny_call_entry PySem.F.slot_dict_iter ty PySem.F.entry_dict_iter ?_ (PySem.F.args_dict_iter_1 _))
 unfold Builtin.«dict.__iter__» Builtin.Dict.dictSlotNone
 refine afe (afe (wpAny_notOrdered_dict ty (afk ?_)))
 unfold vZ
 have nlo:¬(d == sysModules)=true:=by rw[lo];exact bt
 refine afe (show afd _ _ (pure d) _ _ s from afk (afe ?_))
 rw[if_neg nlo]
 exact afk (afe (aff g1 g3 (afe (wpAny_dictEpoch g1 g3 (afe (afj (afk ⟨_,rfl,"dict_keyiterator",_,⟨_,br _ rfl,rfl⟩,PySem.F.slot_dict_keyiterator_next.lookup,by simpa [rawInt] using k⟩)))))))
theorem x8{Q:Option ae0->aeZ->Prop}(ki:s.heap.IsKeyIter it d i es.size ep)(x:kN s.heap d es ep)(hi:i < es.size)
  (k:∀h',h'.IsKeyIter it d (i+1) es.size ep->fT it s.heap h'->Q (some es[i].key) { s with heap:=h' }):afd (model prog w) A (pyNext (.ref it)) Q E s:=by
 have ty:=ki.typeIs
 obtain⟨oi,f1,f2,f3⟩:=id ki
 obtain⟨o,g1,g2,g3⟩:=x
 have own:v8 "dict_keyiterator"=false:=by decide
 have nn:¬((ax d == a_)=true):=bt
 unfold pyNext
 refine afe (wpAny_attempt (wpAny_callSpecial?_slot (name:=jG "__next__") ty PySem.F.slot_dict_keyiterator_next (wpAny_call_entry PySem.F.slot_dict_keyiterator_next ty PySem.F.entry_dict_keyiterator_next ?_ (PySem.F.args_dict_keyiterator_next_1 _))))
 refine afe (afk (afe (afe ?_)))
 first | refine afe (wpAny_typeNameOfWhole_keyiter ty (afk (afe (wpAny_fieldsOf f1 f3 ?_)))) | refine afe (wpAny_typeNameOf_keyiter ty (afk (afe (wpAny_fieldsOf f1 f3 ?_))))
 simp only[own,iI,if_false]
 refine(show afd _ _ (if(ax d == a_)=true then _ else _) _ _ s from ?_);rw[if_neg nn]
 refine afe (afk (afe (aff g1 g3 ?_)))
 rw[if_neg (by simp)]
 refine afe (afk (afe (wpAny_dictEpoch g1 g3 ?_)))
 rw[if_neg (by simp)]
 refine afk ?_
 have n0:¬((i:Int) < 0):=by omega
 simp only[n0,if_false,zT,Gg hi]
 refine afe ?_
 first | refine afe (wpAny_typeNameOfWhole_keyiter ty (afk (afe (wpAny_isOneOf_keyiter ty ?_)))) | refine afe (wpAny_typeNameOf_keyiter ty (afk (afe (wpAny_isOneOf_keyiter ty ?_))))
 refine(show afd _ _ (setField (.ref it) 1 (rawInt ((i:Int)+1)) >>= _) _ _ s from ?_)
 have T8:(s.heap.update it (jJ (·.setIfInBounds 1 (rawInt ((i:Int)+1))))).IsKeyIter it d (i+1) es.size ep:=⟨_,mP _ f1 (A0 (qO f3 _)),(Obj.cls_mapFields ..).trans f2,by rw[qO f3];simp[rawInt]⟩
 refine afe (wpAny_setField f1 f3 (by simp) (afe (afg (afe (wpAny_isOneOf_keyiter (s:={ s with heap:=s.heap.update it (jJ (·.setIfInBounds 1 (rawInt ((i:Int)+1)))) }) T8.typeIs ?_)))))
 exact(show afd _ _ (pure es[i].key) _ _ _ from afk (afk ⟨_,rfl,afk (k _ T8 (jb ..))⟩))
theorem Br{Q:Option ae0->aeZ->Prop}(hh:A.handled=none)(ki:s.heap.IsKeyIter it d i es.size ep)(x:kN s.heap d es ep)(hi:es.size<=i)(k:∀h',Heap.ExtBut it s.heap h'->Q none { s with heap:=h' }):afd (model prog w) A (pyNext (.ref it)) Q E s:=by
 have ty:=ki.typeIs
 obtain⟨oi,f1,f2,f3⟩:=id ki
 obtain⟨o,g1,g2,g3⟩:=x
 have own:v8 "dict_keyiterator"=false:=by decide
 have nn:¬((ax d == a_)=true):=bt
 unfold pyNext
 refine afe (wpAny_attempt (wpAny_callSpecial?_slot (name:=jG "__next__") ty PySem.F.slot_dict_keyiterator_next (wpAny_call_entry PySem.F.slot_dict_keyiterator_next ty PySem.F.entry_dict_keyiterator_next ?_ (PySem.F.args_dict_keyiterator_next_1 _))))
 refine afe (afk (afe (afe ?_)))
 first | refine afe (wpAny_typeNameOfWhole_keyiter ty (afk (afe (wpAny_fieldsOf f1 f3 ?_)))) | refine afe (wpAny_typeNameOf_keyiter ty (afk (afe (wpAny_fieldsOf f1 f3 ?_))))
 simp only[own,iI,if_false]
 refine(show afd _ _ (if(ax d == a_)=true then _ else _) _ _ s from ?_);rw[if_neg nn]
 refine afe (afk (afe (aff g1 g3 ?_)))
 rw[if_neg (by simp)]
 refine afe (afk (afe (wpAny_dictEpoch g1 g3 ?_)))
 rw[if_neg (by simp)]
 refine afk ?_
 have n0:¬((i:Int) < 0):=by omega
 simp only[n0,if_false,zT,T9 hi]
 refine afe ?_
 first | refine afe (wpAny_typeNameOfWhole_keyiter ty (afk ?_)) | refine afe (wpAny_typeNameOf_keyiter ty (afk ?_))
 refine(show afd _ _ (setField (.ref it) 0 .none >>= _) _ _ s from afe (wpAny_setField f1 f3 (by simp) ?_))
 refine(show afd _ _ (newExc (.type "StopIteration") [] >>= _) _ _ _ from ?_)
 simp only[newExc,newTuple,raiseNew]
 refine afe (afe (afj (afe (m:=firstArgMember _ _) (wpAny_of_eq (a:=a_) (by first | rfl | (simp only[firstArgMember];rfl)) (afj ?_ (by size_fits)))) (by size_fits)))
 refine(afe (wpAny_handled ?_))
 rw[show A.in1.handled=none by exact hh]
 refine(afe (afk (wpAny_throw ?_)))
 refine afe (wpAny_isInstance (b:=true) (T:="StopIteration") ⟨_,br _ rfl,rfl⟩ isSubtype_stop (afk ?_))
 refine k _ ?_;exact((jb ..).extBut.push _).push _
theorem Dm(hh:A.handled=none)(I:aeU)(hne:d≠I):Walks prog w A I [I,d] [I] es.size (λi v=>∃h:i < es.size,v=es[i].key) (λi h=>h.IsKeyIter I d i es.size ep/\kN h d es ep) where
 sub:=λb hb=>List.mem_cons.mpr (.inl (List.mem_singleton.mp hb))
 frame:=λ_ _ _ st hk=>⟨st.1.at λo e=>hk I (by simp) o e,let ⟨o,e1,e2⟩:=st.2;⟨o,hk d (by simp) o e1,e2⟩⟩
 item:=λi s Q E hi st hQ=>x8 st.1 st.2 hi λh' ki sb=>hQ _ h' s.toks ⟨hi,rfl⟩ ⟨ki,let ⟨o,e1,e2⟩:=st.2;⟨o,sb.extBut d o hne e1,e2⟩⟩ λb o hb e=>sb.extBut b o (λz=>hb (by simp[z])) e
 done:=λs Q E st hQ=>Br hh st.1 st.2 (ao _) λh' eb=>hQ h' s.toks λb o hb e=>eb b o (λz=>hb (by simp[z])) e
 self:=λ_ _ _ _ st k=>wpAny_pyIter_keyiter st.1 k
theorem v9(lo:(d == sysModules)=false):KdlSrc prog w "dict" d d es.size (λi v=>∃h:i < es.size,v=es[i].key) (λh=>kN h d es ep) where
 type:=λ_ x=>x.ty
 there:=λ_ x=>let ⟨o,e,_⟩:=x;⟨aK e,aK e⟩
 keep:=λ_ _ x hk=>let ⟨o,e,r⟩:=x;⟨o,hk d (.inl rfl) o e,r⟩
 notList:=by decide
 notTuple:=by decide
 hint:=λ_ _ _ _ x hq=>kdl_hint_dict x.ty hq
 iter:=λ_ s hh x=>⟨_,_,(λ_ _ hq=>xZ lo x hq),Dm hh _ (by obtain⟨o,e,_⟩:=x;exact bh (aK e)),⟨⟨_,br _ rfl,rfl,rfl⟩,let ⟨o,e,r⟩:=x;⟨o,aS _ e,r⟩⟩⟩
end
abbrev T_(H:Hp):List V->List (List L2.Key)->Prop:=Paired λv k=>∃b,v= .ref b/\H b=some (.tup (k.map kV))
theorem qV{H:Hp}:∀{kvs:List (List L2.Key×V)}{xs:List (List L2.Key×aeU×ae0)},KT H kvs xs->T_ H (xs.map λx=>V.ref x.2.1) (kvs.map (·.1))
 | _,_,.nil=> .nil
 | _,_,.cons h t=> .cons ⟨_,rfl,h.2.1⟩ (qV t)
theorem l6{α:Type}(f:α->aeU):∀xs:List α,Vals (xs.map λx=>V.ref (f x)) (xs.map λx=>ax (f x))
 | []=> .nil
 | x::r=> .cons rfl (l6 f r)
section
variable {X:Cx}
theorem zU:cA X (.type "list") (λxs H Q=>∃(p:aeU)(kvs:List (List L2.Key×V)),xs=[.ref p]/\H p=some (.dT kvs)/\X.A.handled=none/\∀l vs',H l=none->T_ H vs' (kvs.map (·.1))->Q (.ref l) (upd H l (.lst vs'))):=by
 intro pins s σ H xs us Q I r h
 obtain⟨p,kvs,rfl,hp,hh,q⟩:=h
 obtain⟨u,rfl,rx⟩:=vals1 r
 cases rx
 obtain⟨z,lo,ys,kt,o,es,ep,g1,g2,g3,g4,g5,g6⟩:=xv I.hok hp
 have len:es.size=ys.length:=by have:=congrArg b7 g4;simpa using this
 have Pd:kvs.length=ys.length:=kt.length
 obtain⟨m,hn,hl⟩:=id I.loc
 have raw:kN s.heap p es ep:=⟨o,g1,g2.1,g3⟩
 refine kdl_N (v9 lo) hh (Att.vG hn) (nQ (g:=Att.mR s.heap) (h:=s.heap) (L:=X.env.locals)) raw (by rw[len,<-Pd];exact z) λD c h'' tk vs Pb KG hD hlen hv=>?_
 have T':vs=ys.map λx=>ax x.2.1:=by
  refine Gw λj=>?_
  cases e:vs[j]? with
  | none=>
   have hj:vs.length<=j:=by simpa using e
   rw[Pe]
   simp
   omega
  | some v=>
   obtain⟨hj,ev⟩:=hv j v e
   have hj':j < ys.length:=by omega
   have q1:es.toList[j]'(by simpa using hj)=entryOfKey (tupleKind (aR X.prog X.w)) ys[j]:=by
    have:es.toList[j]? =(ys.map (entryOfKey (tupleKind (aR X.prog X.w))))[j]?:=by rw[g4]
    rw[cu (by simpa using hj),dQ,cu hj'] at this
    simpa using this
   rw[dQ,cu hj',ev]
   have q2:es[j]=es.toList[j]'(by simpa using hj):=by simp
   rw[q2,q1]
   rfl
 subst T'
 have hDL:D≠X.env.locals:=(KG (D,_) aQ).2.1
 have f_:∀b o,b≠X.env.locals->s.heap.get? b=some o->h''.get? b=some o:=λb o n e=>(KG (b,o) (aI _ (bN n (Att.bQ _ _) e))).1
 have Dk:s.heap.get? D=none:=by
  cases e:s.heap.get? D with
  | none=>rfl
  | some o=>exact absurd (hD (D,o) (bN hDL (Att.bQ _ _) e)) (cK _)
 have Ed:H D=none:=by
  cases e:H D with
  | none=>rfl
  | some ob=>
   obtain⟨z,e'⟩:=pB (I.hok D ob e)
   rw[Dk] at e'
   cases e'
 have xY:∀b u,H b=some u->b≠D:=λb u e=>bg e Ed
 have Eg:∀b u,H b=some u->b≠X.env.locals:=λb u e=>bg e I.free
 have I':Inv X pins σ (upd H D (.lst (ys.map λx=>V.ref x.2.1))) { s with heap:=h'',toks:=tk }:=by
  refine I.step (g':=s.gens) (d':=s.drawn) (t':=tk) (ch:=[]) (λ_ z=>nomatch z) (λb o n _ _ e _=>f_ b o n e) (λb o n _ _ e _=>⟨o.slots,f_ b o n e⟩) (λb o _ e n=>?_) (λb o _ e=>?_) (λb xs e=>?_) (λb o u e=>?_) (λb ps e=>?_) (λm' hm=>zR hn hm Pb.ns) (λb ob e=>?_) I.bare
  ·rw[au (λz=>by subst z;rw[Dk] at e;cases e)];exact n
  ·by_cases z:b=X.env.locals
   ·subst z
    obtain⟨o',_,_,e',_⟩:=Pb.ns
    exact⟨o',e'⟩
   ·exact⟨o,f_ b o z e⟩
  ·rw[au (xY _ _ e)];exact e
  ·rw[au (xY _ _ e)];exact e
  ·exact⟨#[],by rw[au (xY _ _ e),e];simp⟩
  ·by_cases z':b=D
   ·subst z'
    rw[aF] at e
    cases e
    exact⟨by rw[bb,<-Pd];exact z,_,c,l6 (λx=>x.2.1) ys,(KG (b,_) aQ).1⟩
   ·rw[au z'] at e
    refine(I.hok b ob e).stay (λc v hc q=>f_ c v ?_ q) (λc q=>by rw[au (xY _ _ q)];exact q) λc xs q=>by rw[au (xY _ _ q)];exact q
    rcases hc with y | y
    ·rw[y];exact Eg b ob e
    ·exact Eg c _ y
 exact⟨.ref D,_,I',rfl,q D _ Ed (qV kt)⟩
end
def kO:List L2.Key->Option (List Int)
 | []=>some []
 | .inl i::r=>(match kO r with | some l=>some (i::l) | none=>none)
 | _=>none
theorem qW:∀{ks:List L2.Key}{ns:List Int},kO ks=some ns->ks.map kV=ns.map V.int
 | [],ns,e=>by cases e;rfl
 | .inl i::r,ns,e=>by
  unfold kO at e
  cases q:kO r with
  | none=>rw[q] at e;cases e
  | some l=>rw[q] at e;cases e;rw[aB,aB,qW q];rfl
 | .inr x::r,ns,e=>by cases e
def cW:List (List L2.Key)->Option (List Wv)
 | []=>some []
 | k::r=>(match kO k,cW r with | some ns,some l=>some (.tup (ns.map Wv.int)::l) | _,_=>none)
theorem uT{K:PySem.W.Frag}{m:Mp}{H:Hp}:∀{vs:List V}{ks:List (List L2.Key)}{ws:List Wv},T_ H vs ks->cW ks=some ws->ah K m H ws vs
 | _,_,ws,.nil,e=>by cases e;exact ah.nil
 | _,_,ws,.cons (b:=k) (l₂:=ks) h t,e=>by
  obtain⟨b,rfl,hb⟩:=h
  unfold cW at e
  cases q1:kO k with
  | none=>rw[q1] at e;cases e
  | some ns=>
   cases q2:cW ks with
   | none=>rw[q1,q2] at e;cases e
   | some l=>
    rw[q1,q2] at e
    cases e
    refine ah.cons ?_ (uT t q2)
    rw[qW q1] at hb
    unfold ag
    exact⟨b,_,rfl,hb,ah.ints ns⟩
def pJ:List Wv->Hs->Re Wv
 | [.ref l],st=>match st[l]? with
  | some (.bu kvs)=>(match cW (kvs.map (·.1)) with | some ws=> .ok (.ref st.length) (st++[.lst ws]) | none=> .bad)
  | _=>rW [.ref l] st
 | ws,st=>rW ws st
section
variable {X:Cx}
theorem x9(hc:X.calm=true):cA X (.type "list") (λxs H Q=>∃(p:aeU)(kvs:List (List L2.Key×V)),xs=[.ref p]/\H p=some (.dT kvs)/\∀l vs',H l=none->T_ H vs' (kvs.map (·.1))->Q (.ref l) (upd H l (.lst vs'))):=by
 intro pins s σ H xs us Q I r h
 obtain⟨p,kvs,e,hp,q⟩:=h
 exact zU pins s σ H xs us Q I r ⟨p,kvs,e,hp,I.ok.hd hc,q⟩
theorem Gx(hc:X.calm=true):cO X (.type "list") pJ:=by
 obtain⟨rr,h1,h2⟩:=Kv (X:=X)
 refine⟨_,(x9 hc).or h1,λws vs st H m Q S rs p=>?_⟩
 have other:cC X.K m H (rW ws st) Q->rr vs H Q:=λp=>h2 ws vs st H m Q S rs p
 match ws,rs,p,other with
 | [],rs,p,other=>exact .inr (other p)
 | x::y::t,rs,p,other=>exact .inr (other (by cases x<;>exact p))
 | [x],rs,p,other=>
  cases x with
  | ref l=>
   unfold pJ at p
   cases e:st[l]? with
   | none=>simp only[e] at p;exact .inr (other p)
   | some o=>
    simp only[e] at p
    cases o with
    | bu kvs=>
     dsimp only at p
     cases e2:cW (kvs.map (·.1)) with
     | none=>rw[e2] at p;exact aa p
     | some us=>
      rw[e2] at p
      obtain⟨v,rfl,r1⟩:=kH rs
      unfold ag at r1
      obtain⟨a,rfl,ha⟩:=r1
      obtain⟨xs,g1,g2⟩:=(show ∃ys,H a=some (.dT ys)/\RelK X.K m H kvs ys from S.obj _ _ _ ha e)
      refine .inl ⟨a,xs,rfl,g1,λk vs' hk hy=>?_⟩
      rw[<-g2.1] at hy
      exact p (.ref k) (m++[k]) _ (Ext.more.trans (Ext.upd (.inl hk))) (S.alloc hk (uT hy e2)) (S.newest k _)
    | _=>exact .inr (other p)
  | _=>exact .inr (other p)
end
open PySem L2 PyProof.Rows
section
open PySem.SeqAt PySem.MeetsSeq PySem.MeetsSeq2 PySem.MeetsSeq3
end
variable {X:Cx}
def oLe:fS:=λx y st=>Ti x y st
theorem Pf(hu:X.A.units+64 < cLine):jD X (ae7 .LtE) oLe:=Tn
def oLt:fS:=λx y st=>Th x y st
theorem Pg(hu:X.A.units+64 < cLine):jD X (ae7 .Lt) oLt:=Tj
structure uU(k:Nat)(A:aeV):Prop where
 d:A.depth+3 * k+5 < recursionLimit
 u:A.units+16 * k+200 < cLine
theorem uU.of{k:Nat}{A:aeV}(r:kD k A):uU k A:=⟨r.dp,r.un⟩
structure Ua(P:aeY)(w:ae1)(K:PySem.W.Frag)(mg:Str->Option ae0)(base:Heap)(k:Nat)(f:aeU)(fd:aeW)(ps:List Str)(sp:Sp):Prop where
 n:∀vs H Q E,sp vs H Q E->vs.length=ps.length
 go:∀(A:aeV)(outer:List Env)(s:aeZ)(H:Hp)(args:Args)(us:List ae0)(vs:List V)(Q:VK)(E:XK),uU k A->C5 A H->EA P w K mg base A outer s H->
  BindsTo s fd args (ps.zip us)->Vals vs us->sp vs H Q E->ae5 (model P w) A (.call (.ref f) args) (CR (CXJ P w) outer P w H s Q E) s
section
variable {P:aeY} {w:ae1} {K:PySem.W.Frag} {mg:Str->Option ae0} {base:Heap}
end
section
variable {X:Cx}
end
def KL(P:aeY)(w:ae1)(K:PySem.W.Frag)(mg:Str->Option ae0)(base:Heap)(k:Nat)(x:Str)(n:Nat)(F:List Wv->Hs->Re Wv):Prop :=
 ∃f fd ps,Ua P w K mg base k f fd ps (spW K n F)/\mg x=some (.ref f)/\PySem.W.keepIn K (.ref f)=true/\Binds K fd ps []
section
variable {X:Cx}
end
section
variable {X:Cx}
end
abbrev V':=Option (Nat×List Wv)×List Wv
def Ee(c:Option (Nat×List Wv))(st:Hs):Prop:=match c with
 | some (l,ws)=>aq st l=some ws
 | none=>True
structure Gy(X:Cx)(w:V')(m1:Mp)(H1:Hp)(J':It):Prop where
 go:∀(k:Nat)(H:Hp)(m':Mp)(st:Hs),Ext X.K m1 H1 m' H->bq X.K m' st H->Ee w.1 st->k < w.2.length->J'.go k H
 stop:∀(k:Nat)(H:Hp)(m':Mp)(st:Hs),Ext X.K m1 H1 m' H->bq X.K m' st H->Ee w.1 st->k=w.2.length->J'.stop k H
 xl:∀(k:Nat)(hk:k < w.2.length)(H:Hp)(v:V)(H':Hp)(m':Mp)(st:Hs),Ext X.K m1 H1 m' H->bq X.K m' st H->Ee w.1 st->J'.xl k H v H'->Ext X.K m' H m' H'/\bq X.K m' st H'/\ag X.K m' H' w.2[k] v
abbrev RP:=bD->Hs->Re V'
def Wa(X:Cx)(tg iter:Expr)(gi:RP):Prop:=∃wi,PI X tg iter wi/\∀(ρ:bD)(st:Hs)(σ:St)(H:Hp)(m:Mp)(R:It->Hp->Prop),bq X.K m st H->az X.K m H ρ σ->
 aw X σ m H (gi ρ st) (λw st1=>∀(m1:Mp)(H1:Hp)(J':It),Ext X.K m H m1 H1->bq X.K m1 st1 H1->Ee w.1 st1->Gy X w m1 H1 J'->R J' H1)->wi σ H R
section
variable {X:Cx}
theorem Ph{tg iter:Expr}{gi:GI}(h:JI X tg iter gi):Wa X tg iter (λρ st=>(gi ρ st).bind λw st1=> .ok (w.1.map λl=>(l,w.2),w.2) st1):=by
 obtain⟨wi,hp,hw⟩:=h
 refine⟨wi,hp,λρ st σ H m R S r p=>hw ρ st σ H m R S r ((aw.bind p).imp Ext.refl λw st1 q m1 H1 J' e1 S1 c1 C7=>?_)⟩
 obtain⟨o,ws⟩:=w
 have cc:∀st,Ee (o.map λl=>(l,ws)) st->kL (o,ws) st:=λst c=>by cases o<;>exact c
 have cc':kL (o,ws) st1->Ee (o.map λl=>(l,ws)) st1:=λc=>by cases o<;>exact c
 refine q m1 H1 J' e1 S1 (cc' c1) ⟨λk H2 m' st2 e S2 c=>C7.go k H2 m' st2 e S2 (cc _ c),λk H2 m' st2 e S2 c=>C7.stop k H2 m' st2 e S2 (cc _ c),λk hk H2 v H3 m' st2 e S2 c y=>?_⟩
 obtain⟨rfl,rr⟩:=C7.xl k hk H2 v H3 m' st2 e S2 (cc _ c) y
 exact⟨Ext.refl,S2,rr⟩
end
open Classical in
def qp(is:List Nat)(gb:GS)(c:Option (Nat×List Wv)):List Wv->bD->Hs->Rs
 | [],ρ,st=> .nx ρ st
 | w::r,ρ,st=>match RN is w ρ with
  | none=> .bad
  | some ρ1=>match gb ρ1 st with
   | .nx ρ' st'=>if Ee c st' then qp is gb c r ρ' st' else .bad
   | .ct ρ' st'=>if Ee c st' then qp is gb c r ρ' st' else .bad
   | .bk ρ' st'=> .nx ρ' st'
   | .rt w st'=> .rt w st'
   | .err c ρ' st'=> .err c ρ' st'
   | .bad=> .bad
def sj(is:List Nat)(gi:RP)(gb:GS):GS:=λρ st=>(gi ρ st).a7 ρ λw st1=>qp is gb w.1 w.2 ρ st1
section
variable {X:Cx}
theorem Bs{es:List Expr}{is:List Nat}{k:Nat}{iter:Expr}{body:List Stmt}{gi:RP}{gb:GS}{pos pos':Pos}(hN:X.N.Nodup)(hp:PassesOwn (model X.prog X.w) X.A X.env X.xe)(hc:X.calm=true)(sl:Slots X es is)(hi:Wa X (.Tuple es k pos') iter gi)(hb:nL X body gb)
  (hs:∀x,ae8 iter X.env x=pure x):JS X (.For (.Tuple es k pos') iter body [] pos) (sj is gi gb):=by
 obtain⟨wi,XU,hw⟩:=hi
 refine JS.of (mL hp hc XU (zf hc (lX hN sl) (oz sl) (lY sl)) dJ hs) λρ st σ H m D S R p=>?_
 refine hw ρ st σ H m _ S R ((aA.bW R p).imp Ext.refl λw st1 p1 m1 H1 J' e1 S1 c1 C7=>?_)
 obtain⟨cc,ws⟩:=w
 let Pv:Nat->St->Hp->Prop:=λk σ H=>∃ρ st m',Ext X.K m1 H1 m' H/\bq X.K m' st H/\az X.K m' H ρ σ/\Ee cc st/\aA X m' H (qp is gb cc (ws.drop k) ρ st) D
 refine⟨λk n σ H=>n=ws.length - k/\k<=ws.length/\Pv k σ H,⟨ws.length,by simp,bJ _,ρ,st1,m1,Ext.refl,S1,R.mono e1,c1,aA.shift p1 e1⟩,?_⟩
 rintro k n σ2 H2 ⟨rfl,hk,ρ2,st2,m2,e2,S2,R2,c2,p2⟩
 by_cases hlt:k < ws.length
 ·refine .inr ⟨C7.go k H2 m2 st2 e2 S2 c2 hlt,Pv (k+1),λσ' H' p'=>⟨ws.length - (k+1),by omega,rfl,hlt,p'⟩,λx H' y=>?_⟩
  obtain⟨eY,S2',pq⟩:=C7.xl k hlt H2 x H' m2 st2 e2 S2 c2 y
  have ed:ws.drop k=ws[k]::ws.drop (k+1):=pv hlt
  rw[ed] at p2
  unfold qp at p2
  replace p2:=aA.shift p2 eY
  have R2':=R2.mono eY
  have xQ:=e2.trans eY
  have X4:ag X.K m2 H' ws[k] x:=pq
  cases eb:ws[k] with
  | tup us=>
   rw[eb] at p2 X4
   dsimp only[RN] at p2
   cases e5:xN is us ρ2 with
   | none=>rw[e5] at p2;exact aa p2
   | some ρ5=>
    rw[e5] at p2
    dsimp only at p2
    unfold ag at X4
    obtain⟨b,ys,rfl,f1,f2⟩:=X4
    refine⟨b,ys,rfl,ft.of f1,by rw[<-f2.length];exact ou e5,oq f2 R2' e5 λσ5 R5=>?_⟩
    refine hb _ st2 _ _ m2 _ S2' R5 ?_
    cases eg:gb ρ5 st2 with
    | nx ρ3 st3=>
     rw[eg] at p2
     by_cases c:Ee cc st3
     ·simp only[if_pos c] at p2
      exact λσ3 m3 H3 e3 S3 R3=>⟨ρ3,st3,m3,xQ.trans e3,S3,R3,c,aA.shift p2 e3⟩
     ·simp only[if_neg c] at p2;exact aa p2
    | ct ρ3 st3=>
     rw[eg] at p2
     by_cases c:Ee cc st3
     ·simp only[if_pos c] at p2
      exact λσ3 m3 H3 e3 S3 R3=>⟨ρ3,st3,m3,xQ.trans e3,S3,R3,c,aA.shift p2 e3⟩
     ·simp only[if_neg c] at p2;exact aa p2
    | bk ρ3 st3=>rw[eg] at p2;exact p2
    | rt w3 st3=>rw[eg] at p2;exact p2
    | err c3 ρ3 st3=>rw[eg] at p2;exact p2
    | bad=>rw[eg] at p2;exact p2
  | _=>rw[eb] at p2;exact aa p2
 ·have e:k=ws.length:=by omega
  subst e
  rw[rP] at p2
  exact .inl ⟨C7.stop _ H2 m2 st2 e2 S2 c2 rfl,p2 σ2 m2 H2 Ext.refl S2 R2⟩
end
open Classical in
section
variable {X:Cx} {pins:List (aeU×Obj)} {σ:St} {H:Hp} {s:aeZ} {scope:Scope} {x:Str} {xr:List Str} {cs:gD}
end
section
variable {prog:aeY} {w:ae1} {A:aeV} {R:Result->aeZ->Prop} {s:aeZ}
end
section
variable {X:Cx}
end
section
variable {X:Cx}
end
section
open PySem.SeqAt PySem.MeetsSeq PySem.MeetsSeq2 PySem.MeetsSeq3
end
section
variable {X:Cx}
end
section
variable {X:Cx}
end
section
variable {X:Cx}
def Gz(kvs:Dc)(gk gx:GE):GE:=λρ st=>(gk ρ st).bind λk st1=>(gx ρ st1).bind λx st2=>match k with
 | .str z=> .ok ((kvs.lookup z).getD x) st2
 | _=> .bad
theorem GB{e f:Expr}{gk gx:GE}{x:Str}{p apos cpos:Pos}{kvs:Dc}(he:JE X e gk)(hf:JE X f gx)(M:M2 X (.Name x p) "get" apos e f cpos)(hg:Gl X x)(hd:(x == ("__debug__":Str))=false)(D:oC X.K X.w X.mg x kvs):JE X (.Call (.Attribute (.Name x p) "get" apos) [e,f] [] cpos) (Gz kvs gk gx):=by
 intro ρ st σ H m Q S R pp pins s I
 obtain⟨a,es,ep,g1,g2,g3,g4,g5⟩:=D
 have k1:=he.go (T:=λy H2=>∃k st1 m1,eD X σ m H ((gx ρ st1).bind λx st2=>match k with | .str z=> .ok ((kvs.lookup z).getD x) st2 | _=> .bad) Q/\Ext X.K m H m1 H2/\bq X.K m1 st1 H2/\ag X.K m1 H2 k y) S R (aw.bind pp) λw st1 v m1 H1 p1 e1 S1 rw'=>⟨w,st1,m1,p1,e1,S1,rw'⟩
 refine wpAny_Call_method M.base M.few M.line PySem.F.plainAttrs_dict PySem.F.slot_dict_get PySem.F.type_dict_get (a7 (gw (v:=.ref a) hg g1 rfl hd pins s σ H (λv H2=>v= .ref a/\H2=H) I ⟨rfl,rfl⟩) λu s1 ⟨v,H1,I1,rv,ev,eH⟩=>?_)
 subst ev
 cases eH
 obtain rfl:u=ax a:=rv
 refine⟨⟨_,I1.AK _ _ g2,rfl⟩,λa' e=>by cases e;exact⟨_,I1.AK _ _ g2,rfl⟩,?_⟩
 rw[M.trees]
 refine jH rfl (mQ (i5 (a7 (k1 pins s1 I1) λiv s2 ⟨y,H2,I2,ry,k,st1,m1,p1,e1,S1,rk⟩=>?_)))
 have k2:=hf.go (T:=λz H3=>∃x' st2 m2,eD X σ m H (match k with | .str z=> .ok ((kvs.lookup z).getD x') st2 | _=> .bad) Q/\Ext X.K m H m2 H3/\bq X.K m2 st2 H3/\ag X.K m2 H3 x' z) S1 (R.mono e1) ((aw.bind p1).imp e1 λ_ _ q=>q) λw st2 v m2 H3 p2 e2 S2 rw'=>⟨w,st2,m2,p2,e1.trans e2,S2,rw'⟩
 refine i5 (a7 (k2 pins s2 I2) λfv s3 ⟨z,H3,I3,rz,x',st2,m2,p2,e2,S2,rx⟩=>o_ ?_)
 cases k with
 | str zs=>
  obtain⟨rfl,_⟩:=dS rk
  obtain⟨t,rfl⟩:=(show ∃t,iv=lE zs t from ry)
  obtain⟨vs,dd,look⟩:=qT (P:=X.prog) (w:=X.w) I3.AK g2 g4 g5
  refine call_meetsIn PySem.F.slot_dict_get dd.typeIs PySem.F.entry_dict_get (PySem.F.args_dict_get_3 _ _ _) (meets_dict_get_default (PySem.strKind X.prog X.w) a (strKind_is X.prog X.w zs t) g3 fv) ⟨_,dd.mapOf,?_⟩
  have p2':RJ X.K m H Q ((kvs.lookup zs).getD x') st2:=p2
  cases e:kvs.lookup zs with
  | none=>
   rw[e] at p2'
   have q:=(look zs).1 e
   show EP X pins σ Q ((valueAt vs zs).getD fv) _
   rw[q]
   exact⟨z,H3,I3.tok _,rz,p2' z m2 H3 e2 S2 rx⟩
  | some u=>
   rw[e] at p2'
   obtain⟨u',q1,q2⟩:=(look zs).2 u e
   show EP X pins σ Q ((valueAt vs zs).getD fv) _
   rw[q1]
   cases u with
   | int i=>exact⟨.int i,H3,I3.tok _,q2,p2' _ m2 H3 e2 S2 (by unfold ag;rfl)⟩
   | str y=>exact⟨.str y,H3,I3.tok _,q2.1,p2' _ m2 H3 e2 S2 (by unfold ag;exact⟨rfl,q2.2⟩)⟩
   | _=>exact aa q2
 | _=>exact aa p2
end
def Ub:List Wv->Hs->Re Wv:=λ_ _=> .bad
theorem KN{P:aeY}{w:ae1}{K:PySem.W.Frag}{mg:Str->Option ae0}{base:Heap}{h:Heap}{k:Nat}{x:Str}{st:Stmt}{ps:List Str}(KX:K.In h)(NS:h.Ns afa mg)(D:aX K x st)
  (hb:∀(kV doc pm:ae0)(an:Option aeU)(cdv ct:ae0)(us:List ae0),us.length=ps.length->bindArgs (PySem.W.fnOf x x (defArgs st) (defBody st) (defScope st) .none kV doc pm an cdv ct) ⟨us,[]⟩=pure (ps.zip us)) :
  eF P w K mg base k x ps.length Ub:=by
 obtain⟨f,fd,a,F⟩:=D
 exact⟨f,fd,ps,⟨λvs H Q E ⟨_,_,_,_,_,_,p⟩=>aa p,λA outer s H args us vs Q E hr e0 hb r ⟨_,_,_,_,_,_,p⟩=>aa p⟩,PySem.W.mg_of KX NS a,F.kp,F.binds hb⟩
section
variable {X:Cx}
theorem GC:ef X (ae3 .Mult) (λx y H Q=>∃z n,x= .str z/\y= .int n/\(n=0\/n=1)/\Q (.str (if n=0 then PySem.Str.empty else z)) H):=by
 intro pins s σ H x y v u Q I rx ry h
 obtain⟨z,n,rfl,rfl,hn,q⟩:=h
 obtain⟨t,rfl⟩:=rx
 obtain⟨t',rfl⟩:=ry
 rcases hn with rfl | rfl
 ·exact PySem.P.mul_str_none (by omega) (by omega) ⟨.str PySem.Str.empty,H,I.tok _,⟨_,rfl⟩,q⟩
 ·refine PySem.P.mul_str (by decide) (λ_ h=>by cases h) (λ_ h=>by cases h) ?_
  rw[if_neg (by omega),if_pos (by rfl)]
  exact⟨.str z,H,I,⟨t,rfl⟩,q⟩
def dq:fS:=λx y st=>match x,y with
 | .str z,.int n=>if n=0\/n=1 then .ok (.str (if n=0 then PySem.Str.empty else z)) st else rV (.str z) (.int n) st
 | x,y=>rV x y st
theorem GD:jD X (ae3 .Mult) dq:=by
 obtain⟨r,h1,h2⟩:=Kt (X:=X)
 refine⟨_,ef.or GC h1,λx y a b st H m Q S rx ry p=>?_⟩
 cases x with
 | str z=>
  cases y with
  | int n=>
   have p':cC X.K m H (if n=0\/n=1 then .ok (.str (if n=0 then PySem.Str.empty else z)) st else rV (.str z) (.int n) st) Q:=p
   by_cases c:n=0\/n=1
   ·rw[if_pos c] at p'
    obtain⟨rfl,ok⟩:=dS rx
    refine .inl ⟨z,n,rfl,aW ry,c,p' _ m H Ext.refl S (mkStr ?_)⟩
    by_cases c0:n=0
    ·rw[if_pos c0];decide+kernel
    ·rw[if_neg c0];exact ok
   ·rw[if_neg c] at p'
    exact .inr (h2 _ _ _ _ st H m Q S rx ry p')
  | _=>exact .inr (h2 _ _ _ _ st H m Q S rx ry p)
 | _=>exact .inr (h2 _ _ _ _ st H m Q S rx ry p)
end
abbrev LF:=List Wv->List Wv->Hs->Re Wv
section
variable {X:Cx} {pins:List (aeU×Obj)} {σ:St} {H:Hp} {s:aeZ}
end
def spL(K:PySem.W.Frag)(n:Nat)(p:Lm)(L:LF):Sp:=λvs H Q E=>∃m st ws caps,bq K m st H/\ah K m H ws vs/\ah K m H caps p.xs/\H p.c=some (.ext (E6 p.c p.q))/\ws.length=n/\Ml K m H (L caps ws st) Q E
def Pj(P:aeY)(w:ae1)(K:PySem.W.Frag)(mg:Str->Option ae0)(base:Heap)(k:Nat)(p:Lm)(n:Nat)(L:LF):Prop :=
 ∃fd ps ob,FnOk P w K mg base (CXJ P w) k p.a fd ps (spL K n p L)/\base.get? p.a=some ob/\ob.data= .func fd/\Binds K fd ps []
open Classical in
section
variable {X:Cx}
end
section
variable {P:aeY} {w:ae1} {K:PySem.W.Frag} {mg:Str->Option ae0} {base:Heap} {p:Lm} {scope:Scope} {x1 x2 x3 y:Str} {cy:aeU}
theorem X5{m:Mp}{H:Hp}{ws:List Wv}{vs:List V}(r:ah K m H ws vs)(h:ws.length=3):∃w1 w2 w3 v1 v2 v3,ws=[w1,w2,w3]/\vs=[v1,v2,v3]/\ag K m H w1 v1/\ag K m H w2 v2/\ag K m H w3 v3:=by
 match ws,h with
 | [w1,w2,w3],_=>
  unfold ah at r
  obtain⟨v1,t1,rfl,r1,r⟩:=r
  unfold ah at r
  obtain⟨v2,t2,rfl,r2,r⟩:=r
  unfold ah at r
  obtain⟨v3,t3,rfl,r3,r⟩:=r
  unfold ah at r
  subst r
  exact⟨w1,w2,w3,v1,v2,v3,rfl,rfl,r1,r2,r3⟩
end
structure Mv(X:Cx)(q:Str)(P:aeU):Prop where
 code:∃c,X.env.code= .ref c/\PySem.W.CodeHd X.base c P
 qual:X.env.qual=q++".<locals>."
 tab:jK X.K q=some P
 mem:q∈cT
 uniq:∀q',q'∈cT->jK X.K q'=some P->q'=q
 bm:∃bm ob,X.mg "__builtins__"=some (.ref bm)/\bm≠builtinsNs/\bm≠afa/\X.base.get? bm=some ob/\ob.cls= .type "module"/\ob.dict=some builtinsNs/\ob.data= .plain
section
variable {X:Cx} {pins:List (aeU×Obj)} {σ:St} {H:Hp} {s:aeZ} {q:Str} {P:aeU}
end
abbrev FLt:=Lm->LF->List Wv->Hs->Re Wv
def X6(mg:Str->Option ae0)(base:Heap):Prop:=∃bm ob,mg "__builtins__"=some (.ref bm)/\bm≠builtinsNs/\bm≠afa/\base.get? bm=some ob/\ob.cls= .type "module"/\ob.dict=some builtinsNs/\ob.data= .plain
def Dp(K:PySem.W.Frag)(mg:Str->Option ae0)(base:Heap):Prop:=Mod K mg base/\X6 mg base
def FnL(P:aeY)(w:ae1)(K:PySem.W.Frag)(mg:Str->Option ae0)(k j:Nat)(x:Str)(FL:FLt):Prop :=
 (∃f,mg x=some (.ref f)/\PySem.W.keepIn K (.ref f)=true)/\∀(base:Heap)(p:Lm)(L:LF),Dp K mg base->Pj P w K mg base (j+1) p 3 L->eF P w K mg base k x 2 (FL p L)
section
variable {X:Cx}
end
section
variable {P:aeY} {w:ae1} {A:aeV} {E:ae0->aeZ->Prop} {s:aeZ}
end
theorem X7(a b c d:ae0):argsOk "object.__init__" ⟨[a,b,c,d],[]⟩:=by
 unfold argsOk;rw[signature?_of (id:="object.__init__") (n:=['_','_','t','i','n','i','_','_']) (o:=['t','c','e','j','b','o']) (by kernel_rfl) F.owner_object];kernel_rfl
section
variable {P:aeY} {w:ae1} {A:aeV} {E:ae0->aeZ->Prop} {s:aeZ}
end
section
variable {P:aeY} {w:ae1} {A:aeV} {E:ae0->aeZ->Prop} {s:aeZ}
end
section
variable {X:Cx}
end
def X8(lo c:Int)(n:Nat):It:=⟨λi _=>i < n,λi H v H'=>H'=H/\v= .int (lo+i * c),λi _=>n<=i⟩
theorem x_{P:aeY}{w:ae1}{K:PySem.W.Frag}{tg:Expr}(it:aeU)(lo c:Int)(n:Nat):Turn P w K tg (X8 lo c n) [it] it (λi h=>IsRangeIter h it (lo+(i:Nat) * c) ((n:Int) - (i:Nat)) c) where
 mem:=by simp
 obj:=λi h st b hb=>by
  have e:b=it:=by simpa using hb
  subst e
  exact⟨_,st,λv z=>by cases z⟩
 keep:=λi h h' st k=>k it (by simp) _ st
 item:=by
  intro X hP hw hK hc i pins s σ H E I hf st hg
  subst hP hw hK
  obtain⟨f0,f1,f2,f3,f4,f5⟩:=hf it (by simp)
  have W:=Walks.range (prog:=X.prog) (w:=X.w) (I.ok.hd hc) it lo c n
  refine W.item i s _ _ hg st λv h' tk hv st' kk=>?_
  obtain⟨t,rfl⟩:=hv
  have I1:Inv X pins σ H { s with heap:=h',toks:=tk }:=I.turned (λb o hb e=>kk b o (by simpa using hb) e) f0 f1 f3 f4 f5
  exact⟨_,rfl,qe (s:={ s with heap:=h',toks:=tk }) (n:="range_iterator") st' rfl rfl (by decide) ⟨.int (lo+i * c),H,I1,⟨t,rfl⟩,⟨rfl,rfl⟩,st',λb hb=>(hf b hb).1⟩⟩
 done:=by
  intro X hP hw hK hc i pins s σ H E I hf st hg
  subst hP hw hK
  obtain⟨f0,f1,f2,f3,f4,f5⟩:=hf it (by simp)
  exact wpAny_pyNext_range_end (I.ok.hd hc) st (by have:n<=i:=hg;omega) λh' eb=>⟨rfl,I.turned (t':=s.toks) (λb o hb e=>eb b o hb e) f0 f1 f3 f4 f5⟩
 self:=λ_ _ _ _ _ st h=>wpAny_pyIter_rangeiter st h
theorem Dq(a b c:ae0):checkTypeCall "range" ⟨[a,b,c],[]⟩=pure ():=by kernel_rfl
theorem Dr(a b c:ae0):checkBuiltinCall "range.__new__" ⟨[.type "range",a,b,c],[]⟩=pure ():=by kernel_rfl
def GF(a b c:Int):Prop:=0<=a/\a < 2 ^ 30/\0<=b/\b < 2 ^ 30/\1<=c/\c < 2 ^ 30
instance {a b c}:Decidable (GF a b c):=FQ _
def iL(a b c:Int):Nat:=(if a < b then(b - a - 1) / c+1 else 0).toNat
theorem Ds{a b c:Int}(h:GF a b c):vp a b c=iL a b c:=by
 obtain⟨h1,h2,h3,h4,h5,h6⟩:=h
 unfold vp iL
 rw[if_pos (by omega)]
 by_cases e:a < b
 ·rw[if_pos e]
  have:0<=(b - a - 1) / c:=Int.ediv_nonneg (by omega) (by omega)
  omega
 ·rw[if_neg e];rfl
theorem zV{a b c:Int}(h:GF a b c):Pk a b c=true:=by
 obtain⟨h1,h2,h3,h4,h5,h6⟩:=h
 unfold Pk vp
 have d1:0<=(b - a - 1) / c\/¬a < b:=by
  by_cases e:a < b
  ·exact .inl (Int.ediv_nonneg (by omega) (by omega))
  ·exact .inr e
 have d2:a < b->(b - a - 1) / c<=b - a - 1:=λe=>Int.ediv_le_self _ (by omega)
 simp only[Builtin.Range.rangeFitsLong,dZ,Fx,decide_eq_true_eq,beq_iff_eq,show c > 0 by omega,if_true]
 split<;>omega
theorem Uc{a b c:Int}(h:GF a b c):Pl (b - a) c=false:=by
 obtain⟨h1,h2,h3,h4,h5,h6⟩:=h
 have e0:(c == 0)=false:=by rw[beq_eq_false_iff_ne];omega
 have e1:c.natAbs.log2 < 30:=(Nat.log2_lt (by omega)).mpr (by omega)
 have e2:c.natAbs.log2 / 30=0:=Nat.div_eq_of_lt e1
 simp[Pl,e0,e2]
theorem ya{P:aeY}{w:ae1}{A:aeV}{E:ae0->aeZ->Prop}{s:aeZ}{a b c:Int}{t u v:Tok}{Q:ae0->aeZ->Prop}(h:GF a b c)
  (k:Q (.ref s.heap.objs.size) { s with heap:=s.heap.push { cls:=.type "range",data:=.fields #[.int a t,.int b u,.int c v] } }):afd (model P w) A (call (.type "range") [.int a t,.int b u,.int c v]) Q E s:=by
 refine callType_new F.called_range (by decide) (Dq _ _ _) (Dr _ _ _) (λobj=>X7 obj _ _ _) F.entry_range_new (AutoRange.range___new___type_int_int_int_1 a b c t u v F.called_range.sub ?_) ⟨Uc h,⟨_,br _ rfl,rfl⟩,k⟩
 have:c≠0:=by have:=h.2.2.2.2.1;omega
 simpa using this
section
variable {X:Cx} {tg:Expr}
def Ud(ta:TA):TI:=λσ H R=>ta σ H λvs H1=>∃a b c:Int,vs=[.int a,.int b,.int c]/\GF a b c/\R (X8 a c (iL a b c)) H1
theorem ints3{a b c:Int}{us:List ae0}(r:Vals [.int a,.int b,.int c] us):∃t u v,us=[.int a t,.int b u,.int c v]:=by
 cases r with
 | cons r1 r=>
  cases r with
  | cons r2 r=>
   cases r with
   | cons r3 r=>
    cases r
    obtain⟨t,rfl⟩:=r1
    obtain⟨u,rfl⟩:=r2
    obtain⟨v,rfl⟩:=r3
    exact⟨t,u,v,rfl⟩
theorem Dt{l:Expr}{ls:List Expr}{ta:TA}{p pos:Pos}(hg:Gl X "range")(hm:X.mg "range"=none)(ha:PA X (l::ls) ta)(hst:afc (l::ls) X.env=(false,eval l X.env)::afc ls X.env)(hpl:(backTo pos (afc ls X.env)).any (·.1)=false) :
  PI X tg (.Call (.Name "range" p) (l::ls) [] pos) (Ud ta):=by
 intro pins s σ H R I h
 refine wpAny_Call_Name_kw (oZ I hg hm boot_range ?_)
 refine vq (a7 (ha pos pins s σ H _ I h) λus s1 ⟨vs,H1,I1,r1,q1⟩=>?_) hst hpl
 obtain⟨a,b,c,rfl,hc,q⟩:=q1
 obtain⟨t,u,v,rfl⟩:=ints3 r1
 refine ya hc ?_
 refine wpAny_pyIter_range (IsRange.new ..) (zV hc) ?_
 have I2:Inv X pins σ H1 { s1 with heap:=s1.heap.push { cls:=.type "range",data:=.fields #[.int a t,.int b u,.int c v] } }:=I1.kept (t':=s1.toks) λb o e=>aS _ e
 refine⟨(s1.heap.push { cls:=.type "range",data:=.fields #[.int a t,.int b u,.int c v] }).objs.size,[(s1.heap.push { cls:=.type "range",data:=.fields #[.int a t,.int b u,.int c v] }).objs.size],_,_,H1,rfl,I2.kept (t':=s1.toks) λb o e=>aS _ e,x_ _ a c (iL a b c),?_,λy hy=>?_,q⟩
 ·have e1:a+((0:Nat):Int) * c=a:=by simp
  have e2:((iL a b c:Nat):Int) - ((0:Nat):Int)=vp a b c:=by rw[Ds hc];simp
  show IsRangeIter _ _ (a+((0:Nat):Int) * c) (((iL a b c:Nat):Int) - ((0:Nat):Int)) c
  rw[e1,e2]
  exact br _ rfl
 ·have e:y=(s1.heap.push { cls:=.type "range",data:=.fields #[.int a t,.int b u,.int c v] }).objs.size:=by simpa using hy
  subst e
  exact I2.vo (ao _) (I2.hok.fresh (ao _))
def sk(lo c:Int)(n:Nat):List Wv:=(gq n).map λk:Nat=>Wv.int (lo+k * c)
theorem oG{lo c:Int}{n:Nat}:(sk lo c n).length=n:=by unfold sk;simp
theorem uV{lo c:Int}{n k:Nat}(h:k < n):(sk lo c n)[k]? =some (.int (lo+k * c)):=by
 unfold sk
 rw[dQ,List.getElem?_range h]
 rfl
theorem GG{lo c:Int}{n k:Nat}(h:k < (sk lo c n).length):(sk lo c n)[k]= .int (lo+k * c):=by
 have q:=uV (lo:=lo) (c:=c) (n:=n) (k:=k) (by rw[oG] at h;exact h)
 rw[cu h] at q
 exact Option.some.inj q
def su(i:Nat)(ga:GA)(gb:GS):GS:=λρ st=>(ga ρ st).a7 ρ λws st1=>match ws with
 | [.int a,.int b,.int c]=>if GF a b c then fc i gb (sk a c (iL a b c)) ρ st1 else .bad
 | _=> .bad
theorem GH(i:Nat){x:Str}{l:Expr}{ls:List Expr}{body:List Stmt}{ga:GA}{gb:GS}{pos pos' p q:Pos}(hN:X.N.Nodup)(hp:PassesOwn (model X.prog X.w) X.A X.env X.xe)(hc:X.calm=true)(hg:Gl X "range")(hm:X.mg "range"=none)(ha:JA X (l::ls) ga)(hb:nL X body gb)
  (hx:X.N[i]? =some x)(hlo:Loc X.env.scope x)(OP:X.fn x=true\/X.env.scope.names.lookup x=some .local)(hst:afc (l::ls) X.env=(false,eval l X.env)::afc ls X.env)(hpl:(backTo q (afc ls X.env)).any (·.1)=false) :
  JS X (.For (.Name x pos') (.Call (.Name "range" p) (l::ls) [] q) body [] pos) (su i ga gb):=by
 refine JS.of (mL hp hc (Dt hg hm mC hst hpl) (lJ hN hx hlo OP) dJ (λ_=>rfl)) λρ st σ H m D S R p=>?_
 refine ha.go S R (aA.bW R p) λws st1 vs m1 H1 p1 e1 S1 rs=>?_
 split at p1
 ·rename_i a b c
  by_cases cc:GF a b c
  ·rw[if_pos cc] at p1
   obtain⟨w1,w2,w3,v1,v2,v3,e,rfl,r1,r2,r3⟩:=X5 rs rfl
   cases e
   cases aW r1
   cases aW r2
   cases aW r3
   refine⟨a,b,c,rfl,cc,jv (J':=X8 a c (iL a b c)) i hb S1 (R.mono e1) (aA.shift p1 e1) (λk H m' e hk=>by rw[oG] at hk;exact hk) (λk H m' e hk=>by rw[oG] at hk;exact nX hk.symm) λk hk H x H' m' e y=>?_⟩
   obtain⟨y1,y2⟩:=y
   refine⟨y1,?_⟩
   rw[GG,y2]
   exact mkInt
  ·rw[if_neg cc] at p1;exact aa p1
 ·exact aa p1
end
section
variable {X:Cx}
end
def Mw(gt:GT)(gb:GS):Nat->bD->Hs->Rs
 | 0,_,_=> .bad
 | n+1,ρ,st=>(gt ρ st).a7 ρ λb st1=>if b=true then(match gb ρ st1 with
   | .nx ρ' st'=>Mw gt gb n ρ' st'
   | .ct ρ' st'=>Mw gt gb n ρ' st'
   | .bk ρ' st'=> .nx ρ' st'
   | .rt w st'=> .rt w st'
   | .err c ρ' st'=> .err c ρ' st'
   | .bad=> .bad) else .nx ρ st1
def v_(n:Nat)(gt:GT)(gb:GS):GS:=λρ st=>Mw gt gb n ρ st
section
variable {X:Cx}
theorem GJ(n:Nat){c:Expr}{body:List Stmt}{gt:GT}{gb:GS}{pos:Pos}(hp:PassesOwn (model X.prog X.w) X.A X.env X.xe)(hc:JT X c gt)(hb:nL X body gb):JS X (.While c body [] pos) (v_ n gt gb):=by
 refine JS.of (Er hp qi dJ) λρ st σ H m D S R p=>?_
 refine⟨λk σ' H'=>∃ρ' st' m',Ext X.K m H m' H'/\bq X.K m' st' H'/\az X.K m' H' ρ' σ'/\aA X m' H' (Mw gt gb k ρ' st') D,⟨n,ρ,st,m,Ext.refl,S,R,p⟩,?_⟩
 rintro k σ1 H1 ⟨ρ1,st1,m1,e1,S1,R1,p1⟩
 cases k with
 | zero=>exact aa p1
 | succ k=>
  refine hc.go S1 R1 (aA.bW R1 p1) λb st2 m2 H2 p2 e2 S2=>?_
  cases b with
  | false=>
   rw[if_neg bt] at p2 ⊢
   exact p2 σ1 m2 H2 e2 S2 (R1.mono e2)
  | true=>
   rw[if_pos rfl] at p2 ⊢
   refine⟨λσ' H'=>∃ρ' st' m',Ext X.K m H m' H'/\bq X.K m' st' H'/\az X.K m' H' ρ' σ'/\aA X m' H' (Mw gt gb k ρ' st') D,λσ' H' q=>⟨k,Nat.lt_succ_self k,q⟩,?_⟩
   refine hb ρ1 st2 σ1 H2 m2 _ S2 (R1.mono e2) ?_
   have Wb:=e1.trans e2
   cases eg:gb ρ1 st2 with
   | nx ρ3 st3=>rw[eg] at p2;exact λσ3 m3 H3 e3 S3 R3=>⟨ρ3,st3,m3,Wb.trans e3,S3,R3,aA.shift p2 (e2.trans e3)⟩
   | ct ρ3 st3=>rw[eg] at p2;exact λσ3 m3 H3 e3 S3 R3=>⟨ρ3,st3,m3,Wb.trans e3,S3,R3,aA.shift p2 (e2.trans e3)⟩
   | bk ρ3 st3=>rw[eg] at p2;exact λσ3 m3 H3 e3 S3 R3=>p2 σ3 m3 H3 (e2.trans e3) S3 R3
   | rt w3 st3=>rw[eg] at p2;exact aA.shift (r:=.rt w3 st3) p2 e2
   | err c3 ρ3 st3=>rw[eg] at p2;exact λσ' m' H' x s' e'=>p2 σ' m' H' x s' (e2.trans e')
   | bad=>rw[eg] at p2;exact p2
def Pn:Operator->Option (Int->Int->Int)
 | .Add=>some λi j=>i+j
 | .Sub=>some λi j=>i - j
 | _=>none
def Po(f:Int->Int->Int)(i:Nat)(x y:Wv)(ρ:bD)(st:Hs):Rs:=match x,y with
 | .int a,.int b=> .nx (ρ.set i (some (.int (f a b)))) st
 | _,_=> .bad
def wa(f:Int->Int->Int)(i:Nat)(g:GE):GS:=λρ st=>match ρ[i]? with
 | some (some x)=>(g ρ st).a7 ρ λy st'=>Po f i x y ρ st'
 | _=> .bad
theorem Pp{op:Operator}{f:Int->Int->Int}(i:Nat){x:Str}{e:Expr}{g:GE}{pos pos':Pos}(ho:Pn op=some f)(hN:X.N.Nodup)(h:JE X e g)(hi:X.N[i]? =some x)(hx:Loc X.env.scope x)
  (hf:X.fn x=true\/X.env.scope.names.lookup x=some .local):JS X (.AugAssign (.Name x pos') op e pos) (wa f i g):=by
 have hip:VJ X op (Xb f):=by
  cases op<;>first | (cases ho;exact NC) | (cases ho;exact ND) | cases ho
 refine JS.of (NB hN hi hx aE hip hf) λρ st σ H m D S R p=>?_
 unfold wa at p
 cases q:ρ[i]? with
 | none=>rw[q] at p;exact aa p
 | some o=>
  cases o with
  | none=>rw[q] at p;exact aa p
  | some w=>
   rw[q] at p
   obtain⟨v,h1,h2⟩:=R.get _ _ q
   refine⟨v,h1,?_⟩
   refine h.go S R (aA.bW R p) λy st1 u m1 H1 p1 e1 S1 r1=>?_
   have h2':=ag.mono e1 _ _ h2
   cases w with
   | int a=>
    cases y with
    | int b=>
     cases aW h2'
     cases aW r1
     exact⟨a,b,rfl,rfl,p1 _ m1 H1 e1 S1 ((R.mono e1).set i mkInt)⟩
    | _=>exact aa p1
   | _=>exact aa p1
def KO:List Wv->Hs->Re Wv
 | [.str x],st=>if x.length=1 then .ok (.int (x.cps.getD 0 0:Nat)) st else .bad
 | _,_=> .bad
theorem Du:ae4 "ord"=some (.builtin "ord"):=by decide+kernel
theorem Pq:cO X (.builtin "ord") KO:=⟨_,Ez,λws vs st H m Q S r p=>by
 match ws,r,p with
 | [],r,p=>exact aa p
 | x::y::t,r,p=>cases x<;>exact aa p
 | [x],r,p=>
  obtain⟨v,rfl,rx⟩:=kH r
  cases x with
  | str z=>
   have p':cC X.K m H (if z.length=1 then .ok (.int (z.cps.getD 0 0:Nat)) st else .bad) Q:=p
   by_cases c:z.length=1
   ·rw[if_pos c] at p'
    obtain⟨rfl,_⟩:=dS rx
    exact⟨z,rfl,c,p' _ m H Ext.refl S mkInt⟩
   ·rw[if_neg c] at p';exact aa p'
  | _=>exact aa p⟩
end
theorem KP(l:aeU)(items:Array ae0)(n:Nat)(b:aeU)(items2:Array ae0)(n2:Nat)(dd:Option aeU)(sl:Array (Option ae0))(hs0:¬(!items.isEmpty&&rG (items.size+items2.size))=true)(hs1:items.size<=afb)(hs2:items.size+items2.size<=afb+1) :
  Meets (Builtin.«list.extend» ⟨[.ref l,.ref b],[]⟩) (λ_ R s=>s.heap.get? l=some { cls:=.type "list",dict:=none,data:=.seq items n,slots:=#[] }/\s.heap.get? b=some ⟨.type "tuple",dd,.seq items2 n2,sl⟩/\R (.ok (.ret a_)) { s with heap:=s.heap.update l (df λx=>x++items2),toks:=s.toks }) :=
 .of_wp λprog w A R s h=>by
  obtain⟨hp,g,d,tk,os⟩:=s;obtain⟨hl,hb,h⟩:=h;have f1:=AutoSeq1.idx_int;have f2:=AutoSeq1.sub_tuple_tuple;have f3:=AutoSeq1.sub_list_list;have f4:=AutoSeq1.sub_tuple_list;have f5:=AutoSeq1.sub_list_tuple;
  have hz':(items++items2).size<=afb+1:=by rw[Array.size_append];exact hs2
  wp_walk using (wpAny_updateSeq hl rfl (hz:=hs1) (_hz':=hz')),wpAny_loadPart' hl,wpAny_loadPart' hb;exact⟨_,rfl,h⟩
def yb(K:PySem.W.Frag):V->List V->Hp->VK->Prop:=λx vs H Q=>∃l b xs zs,x= .ref l/\vs=[.ref b]/\H l=some (.lst xs)/\ft K H b zs/\xs.length+zs.length<=afb/\Q .aZ (upd H l (.lst (xs++zs)))
section
variable {X:Cx}
theorem zW:SQ X "list.extend" (yb X.K):=by
 intro pins s σ H x vs v us Q I rx rv h
 obtain⟨l,b,xs,zs,rfl,rfl,hH,hB,hz,q⟩:=h
 cases rx
 obtain⟨u,rfl,ru⟩:=rv.one
 cases ru
 obtain⟨z,its,n,r,hl,e⟩:=I.xn hH
 obtain⟨its2,r2,⟨o,e2,oc,n2,od⟩,z2⟩:=I.tuple hB
 obtain⟨oc',dd,od',sl⟩:=o
 dsimp only at oc od
 subst oc od
 have l1:xs.length=its.length:=r.length
 have l2:zs.length=its2.length:=r2.length
 have hsz:its.toArray.size+its2.toArray.size<=afb:=by rw[aP,aP];omega
 have xo:¬(!its.toArray.isEmpty&&rG (its.toArray.size+its2.toArray.size))=true:=by
  rw[rF hsz,Bool.and_false]
  exact bt
 refine call_meets F.slot_list_extend ⟨_,e,rfl⟩ F.entry_list_extend (F.args_list_extend_2 _ _)
  (KP l its.toArray n b its2.toArray n2 dd sl xo (by rw[aP];omega) (by omega)) ⟨e,e2,?_⟩
 refine⟨.aZ,_,I.EI (its':=its++its2) hH e (by simp) (r.append r2) ?_,rfl,q⟩
 rw[cS]
 omega
def uW(o v:Wv)(st:Hs):Re Wv:=match v with
 | .tup zs=>(match o with
  | .ref l=>(match st[l]? with
   | some (.lst ws)=>if ws.length+zs.length<=lim then .ok .aZ (st.set l (.lst (ws++zs))) else .bad
   | _=> .bad)
  | _=> .bad)
 | v=>TQ o v st
theorem KQ:VW X "list.extend" uW:=by
 obtain⟨r0,m0,h0⟩:=OS (X:=X)
 refine⟨λx vs H Q=>r0 x vs H Q\/yb X.K x vs H Q,?_,λo w x v st H m Q S ro rw' p=>?_⟩
 ·intro pins s σ H x vs v us Q I rx rv h
  rcases h with h | h
  ·exact m0 pins s σ H x vs v us Q I rx rv h
  ·exact zW pins s σ H x vs v us Q I rx rv h
 ·cases w with
  | tup zs=>
   refine .inr ?_
   cases o with
   | ref l=>
    unfold ag at ro rw'
    obtain⟨a,rfl,ha⟩:=ro
    obtain⟨b,ys,rfl,hb,g2⟩:=rw'
    have p':cC X.K m H (match st[l]? with | some (.lst ws)=>if ws.length+zs.length<=lim then .ok .aZ (st.set l (.lst (ws++zs))) else .bad | _=> .bad) Q:=p
    cases e:st[l]? with
    | none=>rw[e] at p';exact aa p'
    | some ob=>
     cases ob with
     | dct kvs=>rw[e] at p';exact aa p'
     | bu kvs=>rw[e] at p';exact aa p'
     | fW kvs=>rw[e] at p';exact aa p'
     | rH ns=>rw[e] at p';exact aa p'
     | lst ws=>
      rw[e] at p'
      dsimp only at p'
      by_cases c:ws.length+zs.length<=lim
      ·rw[if_pos c] at p'
       obtain⟨xs,h1,h2⟩:=S.og ha e
       have e4:Ext X.K m H m (upd H a (.lst (xs++ys))):=Ext.upd (.inr ⟨xs,h1⟩)
       exact⟨a,b,xs,ys,rfl,rfl,h1,ft.of hb,by rw[<-h2.length,<-g2.length];exact dR c,p' _ m _ e4 (S.write ha e (h2.append g2)) xD⟩
      ·rw[if_neg c] at p';exact aa p'
   | _=>exact aa p
  | _=>exact .inl (h0 o _ x v st H m Q S ro rw' p)
end
def wb(neg:Bool):fS:=λx y st=>match aM st 20 y,aM st 20 x with
 | some (.list ds),some d=> .ok (.bl ((ds.any λz=>aT z d) != neg)) st
 | some (.tuple ds),some d=> .ok (.bl ((ds.any λz=>aT z d) != neg)) st
 | _,_=> .bad
section
variable {X:Cx}
def Pr(K:PySem.W.Frag)(neg:Bool):R2:=λa b H Q=>∃m st x y d ds c,bq K m st H/\ag K m H x a/\ag K m H y b/\aM st 20 y=some c/\(c= .list ds\/c= .tuple ds)/\aM st 20 x=some d/\Q (.bl ((ds.any λz=>aT z d) != neg)) H
theorem Bt{ds:List PyData}{c:PyData}(h:c= .list ds\/c= .tuple ds)(k:c.canLay0=true):A5 ds=true:=by
 rcases h with rfl | rfl<;>exact k
theorem GK(hu:X.A.units+64 < cLine):ef X (ae7 .In) (Pr X.K false):=by
 intro pins s σ H a b v u Q I rx ry h
 obtain⟨m,st,x,y,d,ds,c,S,h1,h2,e1,hc,e2,q⟩:=h
 obtain⟨as,q1,q2,q3⟩:=dC I S 20 x a v d h1 rx e2
 obtain⟨bs,p1,p2,p3⟩:=dC I S 20 y b u c h2 ry e1
 have hd:X.A.units+1+min (om ds) d.depth < cLine:=by
  have:=AR (om ds) d.depth
  omega
 have e:∀t:Bool,(t != false)=t:=by decide
 rw[e] at q
 have ca:=Bt hc p2
 rcases hc with rfl | rfl
 ·exact SeqAt.in_list_reads p1 q1 ca q2 hd ⟨.bl _,H,I,rfl,q⟩
 ·exact SeqAt.in_tuple_reads p1 q1 ca q2 hd ⟨.bl _,H,I,rfl,q⟩
theorem uX(hu:X.A.units+64 < cLine):ef X (ae7 .NotIn) (Pr X.K true):=by
 intro pins s σ H a b v u Q I rx ry h
 obtain⟨m,st,x,y,d,ds,c,S,h1,h2,e1,hc,e2,q⟩:=h
 obtain⟨as,q1,q2,q3⟩:=dC I S 20 x a v d h1 rx e2
 obtain⟨bs,p1,p2,p3⟩:=dC I S 20 y b u c h2 ry e1
 have hd:X.A.units+1+min (om ds) d.depth < cLine:=by
  have:=AR (om ds) d.depth
  omega
 have e:∀t:Bool,(t != true)= !t:=by decide
 rw[e] at q
 have ca:=Bt hc p2
 rcases hc with rfl | rfl
 ·exact SeqAt.notIn_list_reads p1 q1 ca q2 hd ⟨.bl _,H,I,rfl,q⟩
 ·exact SeqAt.notIn_tuple_reads p1 q1 ca q2 hd ⟨.bl _,H,I,rfl,q⟩
theorem wc{neg:Bool}{x y:Wv}{a b:V}{st:Hs}{H:Hp}{m:Mp}{Q:VK}(S:bq X.K m st H)(rx:ag X.K m H x a)(ry:ag X.K m H y b)(p:cC X.K m H (wb neg x y st) Q):Pr X.K neg a b H Q:=by
 unfold wb at p
 split at p
 ·rename_i ds d e1 e2
  exact⟨m,st,x,y,d,ds,_,S,rx,ry,e1,.inl rfl,e2,p _ m H Ext.refl S g_⟩
 ·rename_i ds d e1 e2
  exact⟨m,st,x,y,d,ds,_,S,rx,ry,e1,.inr rfl,e2,p _ m H Ext.refl S g_⟩
 ·exact aa p
theorem Pu(hu:X.A.units+64 < cLine):jD X (ae7 .In) (wb false):=⟨_,GK hu,λx y a b st H m Q S rx ry p=>wc S rx ry p⟩
theorem Dv(hu:X.A.units+64 < cLine):jD X (ae7 .NotIn) (wb true):=⟨_,uX hu,λx y a b st H m Q S rx ry p=>wc S rx ry p⟩
end
section
variable {prog:aeY} {w:ae1} {A:aeV} {E:ae0->aeZ->Prop} {s:aeZ}
end
section
variable {X:Cx} {tg:Expr}
end
section
variable {X:Cx} {a b c d:Expr} {pos:Pos}
end
section
variable {X:Cx} {pins:List (aeU×Obj)} {σ:St} {E:ae0->aeZ->Prop} {p:aeU}
end
section
variable {X:Cx} {pos:Pos}
abbrev Bu(K:PySem.W.Frag)(m:Mp)(H:Hp):List (Wv×Wv)->List (V×V)->Prop:=Paired λp q=>ag K m H p.1 q.1/\ag K m H p.2 q.2
theorem Bu.mono{K:PySem.W.Frag}{m m1:Mp}{H H1:Hp}(e:Ext K m H m1 H1):∀{a:List (Wv×Wv)}{b:List (V×V)},Bu K m H a b->Bu K m1 H1 a b
 | _,_,.nil=> .nil
 | _,_,.cons h t=> .cons ⟨ag.mono e _ _ h.1,ag.mono e _ _ h.2⟩ (Bu.mono e t)
end
def getD(d k:Wv)(st:Hs):Option Wv:=match d with
 | .ref l=>(match st[l]? with
  | some (.dct kvs)=>(match keyOf k with | some kk=>aN kvs kk | none=>none)
  | some (.bu kvs)=>(match iH k with | some kk=>aN kvs kk | none=>none)
  | some (.fW kvs)=>(match iH k with | some kk=>aN kvs kk | none=>none)
  | _=>none)
 | _=>none
def Pw(d k:Wv)(st:Hs):Re Wv:=match getD d k st with
 | some w=> .ok w st
 | none=> .bad
def f'(gd gk:GE):GE:=λρ st=>(gd ρ st).bind λd st1=>(gk ρ st1).bind λk st2=>Pw d k st2
section
variable {X:Cx}
theorem KR{m:Mp}{st:Hs}{H:Hp}{d k w:Wv}{x y:V}(S:bq X.K m st H)(rd:ag X.K m H d x)(rk:ag X.K m H k y)(e:getD d k st=some w):∃a v,x= .ref a/\mS H a y (some v)/\ag X.K m H w v:=by
 unfold getD at e
 cases d with
 | ref l=>
  dsimp only at e
  unfold ag at rd
  obtain⟨a,rfl,ha⟩:=rd
  cases e1:st[l]? with
  | none=>rw[e1] at e;cases e
  | some o=>
   rw[e1] at e
   cases o with
   | dct kvs=>
    dsimp only at e
    cases e2:keyOf k with
    | none=>rw[e2] at e;cases e
    | some kk=>
     rw[e2] at e
     obtain⟨xs,h1,h2⟩:=(show ∃ys,H a=some (.dK ys)/\RelK X.K m H kvs ys from S.obj _ _ _ ha e1)
     obtain⟨u,j1,j2⟩:=(h2.val kk).2 w e
     exact⟨a,u,rfl,by rw[l3 rk e2,<-j1];exact mS.k h1,j2⟩
   | bu kvs=>
    dsimp only at e
    cases e2:iH k with
    | none=>rw[e2] at e;cases e
    | some kk=>
     rw[e2] at e
     obtain⟨xs,h1,h2⟩:=(show ∃ys,H a=some (.dT ys)/\RelK X.K m H kvs ys from S.obj _ _ _ ha e1)
     obtain⟨b,rfl,hb⟩:=hV rk e2
     obtain⟨u,j1,j2⟩:=(h2.val kk).2 w e
     exact⟨a,u,rfl,by rw[<-j1];exact mS.t h1 hb,j2⟩
   | fW kvs=>
    dsimp only at e
    cases e2:iH k with
    | none=>rw[e2] at e;cases e
    | some kk=>
     rw[e2] at e
     obtain⟨o,xs,h1,h2⟩:=(show ∃o ys,H a=some (.dY o (.dT ys))/\RelK X.K m H kvs ys from S.obj _ _ _ ha e1)
     obtain⟨b,rfl,hb⟩:=hV rk e2
     obtain⟨u,j1,j2⟩:=(h2.val kk).2 w e
     exact⟨a,u,rfl,by rw[<-j1];exact .inr ⟨xs,kk,b,.inr ⟨o,h1⟩,rfl,hb,rfl⟩,j2⟩
   | _=>cases e
 | _=>cases e
theorem KW{o i:Expr}{go gi:GE}{pos:Pos}(hu:X.A.units+1 < cLine)(ho:JE X o go)(hi:JE X i gi)(hs:EO i):JE X (.Subscript o i pos) (f' go gi) :=
 JE.of (JP hu aE aE hs) λρ st σ H m Q S R p=>by
  refine ho.go S R (aw.bind p) λd st1 v m1 H1 p1 e1 S1 rd=>?_
  refine hi.go S1 (R.mono e1) ((aw.bind p1).imp e1 λ_ _ q=>q) λk st2 u m2 H2 p2 e2 S2 rk=>?_
  unfold Pw at p2
  cases e:getD d k st2 with
  | none=>rw[e] at p2;exact aa p2
  | some w=>
   rw[e] at p2
   obtain⟨a,v',ex,g,rw'⟩:=KR (X:=X) S2 (ag.mono e2 _ _ rd) rk e
   exact⟨a,v',ex,g,p2 v' m2 H2 (e1.trans e2) S2 rw'⟩
end
section
variable {X:Cx} {pins:List (aeU×Obj)} {σ:St} {H:Hp} {s:aeZ} {a:aeU} {xs:List (List L2.Key×V)}
theorem GL(I:Inv X pins σ H s)(e:H a=some (.dT xs)):∃o,s.heap.get? a=some o/\Inv X pins σ (upd H a (.dY o (.dT xs))) s:=by
 obtain⟨z,lo,ys,kt,o,es,ep,g1,g2,g3,g4,g5⟩:=id (I.hok a _ e)
 refine⟨o,g1,lO (t':=s.toks) (h':=s.heap) I (by rw[e];exact jI) (Heap.SameBut.refl _ _) ⟨o,g1⟩ ⟨g1,z,lo,ys,KT.keeps kt λc zs ec=>?_,o,es,ep,g1,g2,g3,g4,g5⟩⟩
 rw[au (AJ ec e (λz=>nomatch z))]
 exact ec
theorem KY{o:Obj}(I:Inv X pins σ H s)(e:H a=some (.dY o (.dT xs)))(n:∀o u,X.H₀ a≠some (.dY o u)):Inv X pins σ (upd H a (.dT xs)) s:=by
 have ne:∀{b:aeU},H b=none->b≠a:=λh z=>by rw[z,e] at h;cases h
 have g:=I.base
 have ow:∀c b,H c=some (.own b)->upd H a (.dT xs) c=some (.own b):=λc b q=>by
  rw[au (λz=>by rw[z,e] at q;cases q)];exact q
 have tu:∀c ys,H c=some (.tup ys)->upd H a (.dT xs) c=some (.tup ys):=λc ys q=>by
  rw[au (λz=>by rw[z,e] at q;cases q)];exact q
 refine⟨I.ok,I.os,I.bare,⟨g.keep,g.slot,λb ob q h hx=>?_,g.there,λb ys q=>tu b ys (g.tups b ys q),λb ob u q=>?_,λb ps q=>?_⟩,I.loc,I.cell,?_,λy c q=>?_,λp hp=>?_,λb u q=>?_,I.len⟩
 ·have h1:=g.free b ob q h hx
  rw[au (ne h1)];exact h1
 ·rw[au (λz=>n ob u (by rw[<-z];exact q))];exact g.nO b ob u q
 ·obtain⟨m,h1⟩:=g.rl b ps q
  exact⟨m,by rw[au (λz=>by rw[z,e] at h1;cases h1)];exact h1⟩
 ·rw[au (ne I.free)];exact I.free
 ·rw[au (ne (I.my y c q))];exact I.my y c q
 ·obtain⟨p1,p2,p3⟩:=I.pin p hp
  exact⟨p1,by rw[au (ne p2)];exact p2,p3⟩
 ·by_cases hb:b=a
  ·subst hb
   rw[aF] at q
   cases q
   exact cH.stay (I.hok b _ e).2 (λc v _ q=>q) (λc q=>ow c _ q) tu
  ·rw[au hb] at q
   exact(I.hok b u q).stay (λc v _ q=>q) (λc q=>ow c _ q) tu
end
section
variable {K:PySem.W.Frag} {m:Mp} {st:Hs} {H:Hp}
theorem RelK.eC{κ:Type}{m1:Mp}{H1:Hp}{kvs:List (κ×Wv)}{xs:List (κ×V)}(e:xy K m H m1 H1)(h:RelK K m H kvs xs):RelK K m1 H1 kvs xs:=⟨h.1,ah.eC e _ _ h.2⟩
theorem uY{a:aeU}{o:Obj}{xs:List (List L2.Key×V)}(e:H a=some (.dY o (.dT xs))):xy K m H m (upd H a (.dT xs)) :=
 ⟨λ_ _ h=>h,λb ys q=>by rw[au (λz=>by rw[z,e] at q;cases q)];exact q,λb φ q=>by rw[au (λz=>by rw[z,e] at q;cases q)];exact q,λb ob φ q=>by rw[au (λz=>by rw[z,e] at q;cases q)];exact q⟩
theorem bq.Px{l:Nat}{a:aeU}{o:Obj}{kvs:List (List L2.Key×Wv)}{xs:List (List L2.Key×V)}(S:bq K m st H)(h1:m[l]? =some a)(h2:st[l]? =some (.fW kvs))(e:H a=some (.dY o (.dT xs))):bq K m (st.set l (.bu kvs)) (upd H a (.dT xs)):=by
 have ez:=uY (K:=K) (m:=m) e
 have hl:l < st.length:=(List.getElem?_eq_some_iff.mp h2).1
 have at':∀(k:Nat)(ob:Ob),(st.set l (.bu kvs))[k]? =some ob->(k=l/\ob= .bu kvs)\/(k≠l/\st[k]? =some ob):=λk ob h=>by
  by_cases z:l=k
  ·subst z
   rw[oY hl] at h
   exact .inl ⟨rfl,(Option.some.inj h).symm⟩
  ·rw[bw z] at h
   exact .inr ⟨λz'=>z z'.symm,h⟩
 refine⟨by simp[S.len],λk b ob g1 g2=>?_,λk k' b us us' g1 Ec g2 SY q q'=>?_,S.tab.keep (λc ps q=>?_) ez.ext⟩
 ·rcases at' k ob g2 with ⟨rfl,rfl⟩ | ⟨hk,g2⟩
  ·rw[h1] at g1
   cases g1
   obtain⟨o',xs',r1,r2⟩:=(show ∃o' xs',H a=some (.dY o' (.dT xs'))/\RelK K m H kvs xs' from S.obj _ _ _ h1 h2)
   rw[e] at r1
   cases r1
   exact⟨xs,aF,r2.eC ez⟩
  ·have q:=S.obj k b ob g1 g2
   have nb:ob.mu=true->b≠a:=λhm z=>hk (S.inj k l b ob _ g1 (z ▸ h1) g2 h2 hm rfl)
   cases ob with
   | lst ws=>obtain⟨ys,e1,e2⟩:=q;exact⟨ys,by rw[au (nb rfl)];exact e1,ah.eC ez _ _ e2⟩
   | dct ws=>obtain⟨ys,e1,e2⟩:=q;exact⟨ys,by rw[au (nb rfl)];exact e1,e2.eC ez⟩
   | bu ws=>obtain⟨ys,e1,e2⟩:=q;exact⟨ys,by rw[au (nb rfl)];exact e1,e2.eC ez⟩
   | fW ws=>obtain⟨o',ys,e1,e2⟩:=q;exact⟨o',ys,by rw[au (nb rfl)];exact e1,e2.eC ez⟩
   | rH ns=>
    rcases q with ⟨o',q⟩ | q
    ·exact .inl ⟨o',by rw[au (λz=>by rw[z,e] at q;cases q)];exact q⟩
    ·exact .inr q
 ·have back:∀(k:Nat)(ob:Ob),(st.set l (.bu kvs))[k]? =some ob->ob.mu=true->∃o',st[k]? =some o'/\o'.mu=true:=λk ob h ho=>by
   rcases at' k _ h with ⟨rfl,_⟩ | ⟨_,h⟩
   ·exact⟨_,h2,rfl⟩
   ·exact⟨ob,h,ho⟩
  obtain⟨u1,f1,f2⟩:=back k us g2 q
  obtain⟨u2,f3,f4⟩:=back k' us' SY q'
  exact S.inj k k' b u1 u2 g1 Ec f1 f3 f2 f4
 ·rw[au (λz=>by rw[z,e] at q;cases q)];exact q
theorem az.eC{m1:Mp}{H1:Hp}{ρ:bD}{σ:St}(R:az K m H ρ σ)(e:xy K m H m1 H1):az K m1 H1 ρ σ:=⟨R.len,λi w h=>let ⟨v,h1,h2⟩:=R.get i w h;⟨v,h1,ag.eC e _ _ h2⟩⟩
theorem Ext.Px{m1:Mp}{H1:Hp}{a:aeU}{xs ys:List (List L2.Key×V)}(e:Ext K m H m1 H1)(h:H a=some (.dT xs)):Ext K m H m1 (L2.upd H1 a (.dT ys)) :=
 ⟨e.pre,λb zs q=>by rw[au (λz=>by rw[z,h] at q;cases q)];exact e.tup b zs q,λb φ q=>by rw[au (λz=>by rw[z,h] at q;cases q)];exact e.ext b φ q,λb o u q=>by rw[au (λz=>by rw[z,h] at q;cases q)];exact e.dY b o u q⟩
end
def jz(l:Nat)(st:Hs):Hs:=match st[l]? with
 | some (.fW kvs)=>st.set l (.bu kvs)
 | _=>st
def mF(w:Option (Option Wv))(st:Hs):Option Nat:=match w with
 | some (some (.ref l))=>(match st[l]? with | some (.bu _)=>some l | _=>none)
 | _=>none
def jA(i:Nat)(g:GS):GS:=λρ st=>match mF ρ[i]? st with
 | some l=>(match g ρ st with | .nx ρ' st'=> .nx ρ' (jz l st') | r=>r)
 | none=>g ρ st
def jO(i:Nat)(g:GE):GE:=λρ st=>match mF ρ[i]? st with
 | some l=>(match g ρ st with | .ok w st'=> .ok w (jz l st') | r=>r)
 | none=>g ρ st
section
variable {X:Cx}
theorem yc{ρ:bD}{st:Hs}{σ:St}{H:Hp}{m:Mp}{i l:Nat}(S:bq X.K m st H)(R:az X.K m H ρ σ)(h:mF ρ[i]? st=some l):∃a xs,m[l]? =some a/\H a=some (.dT xs):=by
 unfold mF at h
 split at h
 ·rename_i k e
  obtain⟨v,_,r⟩:=R.get i _ e
  unfold ag at r
  obtain⟨a,rfl,ha⟩:=r
  split at h
  ·rename_i kvs e1
   cases h
   obtain⟨xs,h1,_⟩:=(show ∃ys,H a=some (.dT ys)/\RelK X.K m H kvs ys from S.obj _ _ _ ha e1)
   exact⟨a,xs,ha,h1⟩
  ·cases h
 ·cases h
theorem yd{pins:List (aeU×Obj)}{s0 s':aeZ}{σ σ':St}{H H':Hp}{m m':Mp}{l:Nat}{a:aeU}{xs:List (List L2.Key×V)}{st':Hs}(I:Inv X pins σ H s0)(h0:H a=some (.dT xs))(ha:m[l]? =some a)(e:Ext X.K m H m' H')(S:bq X.K m' st' H')(I':Inv X pins σ' H' s') :
  ∃xf,Inv X pins σ' xf s'/\Ext X.K m H m' xf/\bq X.K m' (jz l st') xf/\xy X.K m' H' m' xf:=by
 unfold jz
 have same:∃xf,Inv X pins σ' xf s'/\Ext X.K m H m' xf/\bq X.K m' st' xf/\xy X.K m' H' m' xf:=⟨H',I',e,S,Ext.refl.z⟩
 split
 ·rename_i kvs e1
  obtain⟨o,ys,h1,_⟩:=(show ∃o ys,H' a=some (.dY o (.dT ys))/\RelK X.K m' H' kvs ys from S.obj _ _ _ (e.pre _ _ ha) e1)
  exact⟨_,KY I' h1 λo u q=>(by have z:=I.base.nO _ _ _ q;rw[h0] at z;cases z),e.Px h0,S.Px (e.pre _ _ ha) e1 h1,uY h1⟩
 ·exact same
theorem wd(i:Nat){stm:Stmt}{g:GS}(h:JS X stm g):JS X stm (jA i g):=by
 intro ρ st σ H m D S R p
 unfold jA at p
 cases eo:mF ρ[i]? st with
 | none=>rw[eo] at p;exact h ρ st σ H m D S R p
 | some l=>
  rw[eo] at p
  dsimp only at p
  cases eg:g ρ st with
  | nx ρ' st'=>
   rw[eg] at p
   intro pins s I
   obtain⟨a,xs,ha,h0⟩:=yc S R eo
   have go:=h ρ st σ H m { D with nx:=λσ' H'=>∃m',Ext X.K m H m' H'/\bq X.K m' st' H'/\az X.K m' H' ρ' σ' } S R (by rw[eg];exact λσ' m' H' e' S' R'=>⟨m',e',S',R'⟩) pins s I
   refine afh go (λf s' q=>?_) λ_ _ z=>z
   cases f with
   | next=>
    obtain⟨σ',H',I',m',e',S',R'⟩:=q
    obtain⟨xf,I2,e2,S2,z2⟩:=yd I h0 ha e' S' I'
    exact⟨σ',xf,I2,p σ' m' xf e2 S2 (R'.eC z2)⟩
   | brk=>exact q
   | cont=>exact q
   | ret u=>exact q
  | rt w st'=>rw[eg] at p;exact h ρ st σ H m D S R (by rw[eg];exact p)
  | bk ρ' st'=>rw[eg] at p;exact h ρ st σ H m D S R (by rw[eg];exact p)
  | ct ρ' st'=>rw[eg] at p;exact h ρ st σ H m D S R (by rw[eg];exact p)
  | err c ρ' st'=>rw[eg] at p;exact h ρ st σ H m D S R (by rw[eg];exact p)
  | bad=>rw[eg] at p;exact aa p
theorem KZ(i:Nat){e:Expr}{g:GE}(h:JE X e g):JE X e (jO i g):=by
 intro ρ st σ H m Q S R p
 unfold jO at p
 cases eo:mF ρ[i]? st with
 | none=>rw[eo] at p;exact h ρ st σ H m Q S R p
 | some l=>
  rw[eo] at p
  dsimp only at p
  cases eg:g ρ st with
  | ok w st'=>
   rw[eg] at p
   intro pins s I
   obtain⟨a,xs,ha,h0⟩:=yc S R eo
   have go:=h ρ st σ H m (λv H'=>∃m',Ext X.K m H m' H'/\bq X.K m' st' H'/\ag X.K m' H' w v) S R (by rw[eg];exact λv m' H' e' S' r'=>⟨m',e',S',r'⟩) pins s I
   refine afh go (λu s' q=>?_) λ_ _ z=>z
   obtain⟨v,H',I',rv,m',e',S',r'⟩:=q
   obtain⟨xf,I2,e2,S2,z2⟩:=yd I h0 ha e' S' I'
   exact⟨v,xf,I2,rv,p v m' xf e2 S2 (ag.eC z2 _ _ r')⟩
  | err c st'=>rw[eg] at p;exact h ρ st σ H m Q S R (by rw[eg];exact p)
  | bad=>rw[eg] at p;exact aa p
end
def GN(a:aeU)(o:Obj)(xs:List (List L2.Key×V)):It :=
 ⟨λi H=>H a=some (.dY o (.dT xs))/\i < xs.length,λi H v H'=>H'=H/\∃k b,(xs[i]?).map (·.1)=some k/\v= .ref b/\H b=some (.tup (k.map kV)),λi H=>H a=some (.dY o (.dT xs))/\xs.length<=i⟩
theorem zX{H:Hp}:∀{xs:List (List L2.Key×V)}{ys:List (List L2.Key×aeU×ae0)},KT H xs ys->∀{i:Nat}{y:List L2.Key×aeU×ae0},ys[i]? =some y->∃x,xs[i]? =some x/\x.1=y.1/\H y.2.1=some (.tup (x.1.map kV))/\RelV x.2 y.2.2
 | _,_,.nil,i,y,h=>by cases h
 | _,_,.cons h t,0,y,e=>by cases e;exact⟨_,rfl,h⟩
 | _,_,.cons h t,i+1,y,e=>zX t (i:=i) e
theorem l7{P:aeY}{w:ae1}{H:Hp}{h:Heap}{a:aeU}{o:Obj}{xs:List (List L2.Key×V)}(ok:kA P w H h)(e:H a=some (.dY o (.dT xs))) :
  ∃es ep,(a == sysModules)=false/\o.data= .dict es ep/\kN h a es ep/\es.size=xs.length/\∀(i:Nat)(hi:i < es.size),∃x b,xs[i]? =some x/\es[i].key= .ref b/\H b=some (.tup (x.1.map kV))/\RelV x.2 es[i].val:=by
 obtain⟨ho,z,lo,ys,kt,o',es,ep,g1,g2,g3,g4,g5⟩:=ok a _ e
 rw[ho] at g1
 cases g1
 have len:es.size=ys.length:=by have:=congrArg b7 g4;simpa using this
 have Pd:xs.length=ys.length:=Paired.length kt
 refine⟨es,ep,lo,g3,⟨o,ho,g2.1,g3⟩,by omega,λi hi=>?_⟩
 have hi':i < ys.length:=by omega
 have q1:es[i]=entryOfKey (tupleKind (aR P w)) ys[i]:=by
  have:es.toList[i]? =(ys.map (entryOfKey (tupleKind (aR P w))))[i]?:=by rw[g4]
  rw[cu (by simpa using hi),dQ,cu hi'] at this
  simpa using this
 obtain⟨x,e1,e2,e3,e4⟩:=zX kt (cu hi')
 exact⟨x,ys[i].2.1,e1,by rw[q1];rfl,e3,by rw[q1];exact e4⟩
theorem Dx{P:aeY}{w:ae1}{K:PySem.W.Frag}{tg:Expr}(a it:aeU)(o:Obj)(xs:List (List L2.Key×V)):Turn P w K tg (GN a o xs) [it] it (λi h=>∃es ep,o.data= .dict es ep/\h.IsKeyIter it a i es.size ep) where
 mem:=by simp
 obj:=λi h st b hb=>by
  obtain⟨es,ep,_,oi,q1,q2,q3⟩:=st
  have e:b=it:=by simpa using hb
  subst e
  exact⟨oi,q1,λv z=>by rw[q3] at z;cases z⟩
 keep:=λi h h' st k=>let ⟨es,ep,hd,ki⟩:=st;⟨es,ep,hd,ki.at λob q=>k it (by simp) ob q⟩
 self:=λ_ _ _ _ _ st h=>let ⟨_,_,_,ki⟩:=st;wpAny_pyIter_keyiter ki h
 item:=by
  intro X hP hw hK hc i pins s σ H E I hf st hg
  subst hP hw hK
  obtain⟨es,ep,hd,ki⟩:=st
  obtain⟨he,hi⟩:=hg
  obtain⟨es',Ja,lo,hd',raw,sz,keys⟩:=l7 I.hok he
  rw[hd] at hd'
  cases hd'
  obtain⟨f0,f1,f2,f3,f4,f5⟩:=hf it (by simp)
  have hi':i < es.size:=by omega
  refine x8 ki raw hi' λh' T8 sb=>?_
  obtain⟨x,b,e1,e2,e3,_⟩:=keys i hi'
  have I1:Inv X pins σ H { s with heap:=h' }:=I.turned (t':=s.toks) (λc ob hc e=>sb.extBut c ob hc e) f0 f1 f3 f4 f5
  obtain⟨oi,q1,q2,q3⟩:=id T8
  exact⟨es[i].key,rfl,qe (s:={ s with heap:=h' }) q1 q2 q3 (by decide) ⟨.ref b,H,I1,e2,⟨rfl,x.1,b,by rw[e1];rfl,rfl,e3⟩,⟨es,ep,hd,T8⟩,λc hb=>(hf c hb).1⟩⟩
 done:=by
  intro X hP hw hK hc i pins s σ H E I hf st hg
  subst hP hw hK
  obtain⟨es,ep,hd,ki⟩:=st
  obtain⟨he,hi⟩:=hg
  obtain⟨es',Ja,lo,hd',raw,sz,keys⟩:=l7 I.hok he
  rw[hd] at hd'
  cases hd'
  obtain⟨f0,f1,f2,f3,f4,f5⟩:=hf it (by simp)
  exact Br (I.ok.hd hc) ki raw (by omega) λh' eb=>⟨rfl,I.turned (t':=s.toks) (λb ob hb e=>eb b ob hb e) f0 f1 f3 f4 f5⟩
section
variable {X:Cx} {tg:Expr}
def Ue(te:TE):TI:=λσ H R=>te σ H λx H1=>∃a xs,x= .ref a/\((H1 a=some (.dT xs)/\∀o,R (GN a o xs) (upd H1 a (.dY o (.dT xs))))\/∃o,H1 a=some (.dY o (.dT xs))/\R (GN a o xs) H1)
theorem Bv{pins:List (aeU×Obj)}{σ:St}{H:Hp}{s:aeZ}{R:It->Hp->Prop}{E:ae0->aeZ->Prop}{a:aeU}{o:Obj}{xs:List (List L2.Key×V)}(I:Inv X pins σ H s)(e:H a=some (.dY o (.dT xs)))(r:R (GN a o xs) H):afd (model X.prog X.w) X.A (pyIter (.ref a)) (VL X pins σ tg R) E s:=by
 obtain⟨es,ep,lo,hd,raw,sz,keys⟩:=l7 I.hok e
 refine xZ lo raw ⟨s.heap.objs.size,[s.heap.objs.size],_,GN a o xs,H,rfl,I.kept (t':=s.toks) λb ob q=>aS _ q,Dx a _ o xs,⟨es,ep,hd,_,br _ rfl,rfl,rfl⟩,λb hb=>?_,r⟩
 rw[List.mem_singleton.mp hb]
 exact I.vo (ao _) (I.hok.fresh (ao _))
theorem Bw{e:Expr}{te:TE}(he:PE X e te):PI X tg e (Ue te):=by
 intro pins s σ H R I h
 refine a7 (he pins s σ H _ I h) λv s1 ⟨x,H1,I1,r1,a,xs,ex,q⟩=>?_
 subst ex
 cases r1
 rcases q with ⟨e1,k⟩ | ⟨o,e1,k⟩
 ·obtain⟨o,_,I2⟩:=GL I1 e1
  exact Bv I2 aF (k o)
 ·exact Bv I1 e1 k
def ye(w:Wv)(st:Hs):Re Wk:=match w with
 | .ref l=>(match st[l]? with
  | some (.bu kvs)=>(match cW (kvs.map (·.1)) with | some ws=> .ok (none,ws) (st.set l (.fW kvs)) | none=> .bad)
  | some (.fW kvs)=>(match cW (kvs.map (·.1)) with | some ws=> .ok (none,ws) st | none=> .bad)
  | _=> .bad)
 | _=> .bad
def kQ(g:GE):GI:=λρ st=>(g ρ st).bind ye
theorem uZ:∀{ks:List (List L2.Key)}{ws:List Wv},cW ks=some ws->ws.length=ks.length/\∀(i:Nat)(h:i < ws.length),∃k ns,ks[i]? =some k/\kO k=some ns/\ws[i]= .tup (ns.map Wv.int)
 | [],ws,e=>by cases e;exact⟨rfl,λi h=>by cases h⟩
 | k::ks,ws,e=>by
  unfold cW at e
  cases q1:kO k with
  | none=>rw[q1] at e;cases e
  | some ns=>
   cases q2:cW ks with
   | none=>rw[q1,q2] at e;cases e
   | some l=>
    rw[q1,q2] at e
    cases e
    obtain⟨h1,h2⟩:=uZ q2
    refine⟨by simp[h1],λi h=>?_⟩
    cases i with
    | zero=>exact⟨k,ns,rfl,q1,rfl⟩
    | succ i=>exact h2 i (by simpa using h)
theorem sv{m1:Mp}{H1:Hp}{a:aeU}{o:Obj}{kvs:List (List L2.Key×Wv)}{xs:List (List L2.Key×V)}{ws:List Wv}(e:H1 a=some (.dY o (.dT xs)))(r:RelK X.K m1 H1 kvs xs)(hk:cW (kvs.map (·.1))=some ws) :
  (∀(k:Nat)(H:Hp)(m':Mp),Ext X.K m1 H1 m' H->k < ws.length->(GN a o xs).go k H)/\(∀(k:Nat)(H:Hp)(m':Mp),Ext X.K m1 H1 m' H->k=ws.length->(GN a o xs).stop k H)/\
  ∀(k:Nat)(hk:k < ws.length)(H:Hp)(x:V)(H':Hp)(m':Mp),Ext X.K m1 H1 m' H->(GN a o xs).xl k H x H'->H'=H/\ag X.K m' H ws[k] x:=by
 obtain⟨l1,g1⟩:=uZ hk
 have l2:ws.length=xs.length:=by rw[l1,bb,r.length]
 refine⟨λk H m' e' h=>⟨e'.dY _ _ _ e,by omega⟩,λk H m' e' h=>⟨e'.dY _ _ _ e,by omega⟩,λk h H v H' m' e' y=>?_⟩
 obtain⟨rfl,kk,b,y1,rfl,y2⟩:=y
 refine⟨rfl,?_⟩
 obtain⟨k',ns,f1,f2,f3⟩:=g1 k h
 have e3:(xs[k]?).map (·.1)=some k':=by rw[<-dQ,<-r.1];exact f1
 rw[y1] at e3
 cases e3
 rw[f3]
 rw[qW f2] at y2
 unfold ag
 exact⟨b,_,rfl,y2,ah.ints ns⟩
theorem Bx{m1:Mp}{H1:Hp}{a:aeU}{o:Obj}{kvs:List (List L2.Key×Wv)}{xs:List (List L2.Key×V)}{ws:List Wv}(e:H1 a=some (.dY o (.dT xs)))(r:RelK X.K m1 H1 kvs xs)(hk:cW (kvs.map (·.1))=some ws):uN X (none,ws) m1 H1 (GN a o xs) :=
 let ⟨g1,g2,g3⟩:=sv e r hk
 ⟨λk H m' _ e' _ _ h=>g1 k H m' e' h,λk H m' _ e' _ _ h=>g2 k H m' e' h,λk h H v H' m' _ e' _ _ y=>g3 k h H v H' m' e' y⟩
theorem K0{e:Expr}{g:GE}(h:JE X e g):JI X tg e (kQ g):=by
 refine⟨_,Bw aE,λρ st σ H m Q S R p=>?_⟩
 refine h.go S R (aw.bind p) λw st1 v m1 H1 p1 e1 S1 rw'=>?_
 unfold ye at p1
 cases w with
 | ref l=>
  unfold ag at rw'
  obtain⟨a,rfl,ha⟩:=rw'
  dsimp only at p1
  cases el:st1[l]? with
  | none=>rw[el] at p1;exact aa p1
  | some ob=>
   rw[el] at p1
   cases ob with
   | bu kvs=>
    dsimp only at p1
    cases ek:cW (kvs.map (·.1)) with
    | none=>rw[ek] at p1;exact aa p1
    | some ws=>
     rw[ek] at p1
     obtain⟨xs,h1,h2⟩:=(show ∃ys,H1 a=some (.dT ys)/\RelK X.K m1 H1 kvs ys from S1.obj _ _ _ ha el)
     refine⟨a,xs,rfl,.inl ⟨h1,λo=>?_⟩⟩
     have ex:Ext X.K m1 H1 m1 (upd H1 a (.dY o (.dT xs))):=Ext.gz (.inr (.inr (.inr ⟨_,h1⟩)))
     have S2:bq X.K m1 (st1.set l (.fW kvs)) (upd H1 a (.dY o (.dT xs))):=S1.i7 ha el rfl ⟨o,xs,aF,h2.mono ex⟩
     exact p1 m1 _ _ (e1.trans ex) S2 trivial (Bx aF (h2.mono ex) ek)
   | fW kvs=>
    dsimp only at p1
    cases ek:cW (kvs.map (·.1)) with
    | none=>rw[ek] at p1;exact aa p1
    | some ws=>
     rw[ek] at p1
     obtain⟨o,xs,h1,h2⟩:=(show ∃o ys,H1 a=some (.dY o (.dT ys))/\RelK X.K m1 H1 kvs ys from S1.obj _ _ _ ha el)
     exact⟨a,xs,rfl,.inr ⟨o,h1,p1 m1 _ _ e1 S1 trivial (Bx h1 h2 ek)⟩⟩
   | _=>exact aa p1
 | _=>exact aa p1
def qr(i:Nat)(g:GE)(gb:GS):GS:=λρ st=>(kQ g ρ st).a7 ρ λw st1=>fc i gb w.2 ρ st1
theorem K1(i:Nat){x:Str}{iter:Expr}{body:List Stmt}{g:GE}{gb:GS}{pos pos':Pos}(hN:X.N.Nodup)(hp:PassesOwn (model X.prog X.w) X.A X.env X.xe)(hc:X.calm=true)(h:JE X iter g)(hb:nL X body gb)
  (hx:X.N[i]? =some x)(hlo:Loc X.env.scope x)(OP:X.fn x=true\/X.env.scope.names.lookup x=some .local)(hs:∀x,ae8 iter X.env x=pure x):JS X (.For (.Name x pos') iter body [] pos) (qr i g gb):=by
 refine JS.of (mL hp hc (Bw aE) (lJ hN hx hlo OP) dJ hs) λρ st σ H m D S R p=>?_
 refine h.go S R (aw.bind (aA.bW R p)) λw st1 v m1 H1 p1 e1 S1 rw'=>?_
 unfold ye at p1
 cases w with
 | ref l=>
  unfold ag at rw'
  obtain⟨a,rfl,ha⟩:=rw'
  dsimp only at p1
  cases el:st1[l]? with
  | none=>rw[el] at p1;exact aa p1
  | some ob=>
   rw[el] at p1
   cases ob with
   | bu kvs=>
    dsimp only at p1
    cases ek:cW (kvs.map (·.1)) with
    | none=>rw[ek] at p1;exact aa p1
    | some ws=>
     rw[ek] at p1
     obtain⟨xs,h1,h2⟩:=(show ∃ys,H1 a=some (.dT ys)/\RelK X.K m1 H1 kvs ys from S1.obj _ _ _ ha el)
     refine⟨a,xs,rfl,.inl ⟨h1,λo=>?_⟩⟩
     have ex:Ext X.K m1 H1 m1 (upd H1 a (.dY o (.dT xs))):=Ext.gz (.inr (.inr (.inr ⟨_,h1⟩)))
     have S2:bq X.K m1 (st1.set l (.fW kvs)) (upd H1 a (.dY o (.dT xs))):=S1.i7 ha el rfl ⟨o,xs,aF,h2.mono ex⟩
     obtain⟨g1,g2,g3⟩:=sv (X:=X) (o:=o) aF (h2.mono ex) ek
     exact jv (J':=GN a o xs) i hb S2 (R.mono (e1.trans ex)) (aA.shift p1 (e1.trans ex)) g1 g2 g3
   | fW kvs=>
    dsimp only at p1
    cases ek:cW (kvs.map (·.1)) with
    | none=>rw[ek] at p1;exact aa p1
    | some ws=>
     rw[ek] at p1
     obtain⟨o,xs,h1,h2⟩:=(show ∃o ys,H1 a=some (.dY o (.dT ys))/\RelK X.K m1 H1 kvs ys from S1.obj _ _ _ ha el)
     obtain⟨g1,g2,g3⟩:=sv (X:=X) h1 h2 ek
     exact⟨a,xs,rfl,.inr ⟨o,h1,jv (J':=GN a o xs) i hb S1 (R.mono e1) (aA.shift p1 e1) g1 g2 g3⟩⟩
   | _=>exact aa p1
 | _=>exact aa p1
end
section
variable {prog:aeY} {w:ae1} {A:aeV} {E:ae0->aeZ->Prop} {s:aeZ} {d:aeU} {es:Array DictEntry} {ep:Nat}
theorem K2{Q:ae0->aeZ->Prop}(lo:(d == sysModules)=false)(x:kN s.heap d es ep)(hz:es.size<=afb)(h:Q (.int es.size (s.toks+1)) { s with toks:=s.toks+1+1 }):afd (model prog w) A (call (.builtin "len") [.ref d]) Q E s:=by
 have ty:=x.ty
 obtain⟨o,g1,g2,g3⟩:=x
 refine Pc kind_len plain_len entry_len (args_len1 _) ?_
 have n0:¬((es.size:Int) < 0):=by omega
 have n1:¬((es.size:Int) >= 2 ^ 63):=by rw[sizeLine_eq] at hz;omega
 have M:MeetsIn prog w (Builtin.«dict.__len__» ⟨[.ref d],[]⟩) (λ_ R s'=>s'=s/\R (.ok (.ret (.int es.size s.toks))) { s with toks:=s.toks+1 }):=.of_wp λA R s' ⟨e,h⟩=>by
  subst e
  refine(show afd _ _ (dictSize d >>= _) _ _ s' from ?_)
  unfold dictSize
  refine afe (afe (aff g1 g3 (afk ?_)))
  exact(show afd _ _ (Builtin.Dict.pendingCount d >>= _) _ _ s' from afe (wpAny_pendingCount_other lo (wpAny_ret_mkInt (by rw[Nat.add_zero];exact h))))
 unfold Builtin.«len»
 refine afe (m:=oneArg "len" _) (afk (afe (m:=callSpecial? (.ref d) (jG "__len__")) (wpAny_callSpecial?_slot (name:=jG "__len__") ty PySem.F.slot_dict_len
  (call_meetsIn PySem.F.slot_dict_len ty PySem.F.entry_dict_len (PySem.F.args_dict_len_1 _) M ⟨rfl,?_⟩))))
 refine(show afd _ _ _ _ _ { s with toks:=s.toks+1 } from afe (afg (afk (afe (wpAny_letGo ?_)))))
 refine(show afd _ _ (if((es.size:Nat):Int) < 0 then _ else _) _ _ _ from ?_);rw[if_neg n0]
 refine(show afd _ _ (if((es.size:Nat):Int) >= 2 ^ 63 then _ else _) _ _ _ from ?_);rw[if_neg n1]
 exact afe (wpAny_mkInt (afk ⟨_,rfl,h⟩))
end
section
variable {prog:aeY} {w:ae1} {K:Type} [DecidableEq K] {knd:HeapKind prog w K} {A:aeV} {E:ae0->aeZ->Prop} {s:aeZ} {d a:aeU} {xs:List (K×aeU×ae0)} {k:K}
theorem sx:∀{xs:List (K×aeU×ae0)}{j:Nat}{k:K}{p:aeU×ae0},(xs.map (·.1)).Nodup->xs[j]? =some (k,p)->xs.eraseIdx j=xs.filter λx=>decide (x.1≠k)
 | [],j,k,p,n,h=>by cases h
 | x::r,0,k,p,n,h=>by
  cases h
  have n1:=(List.nodup_cons.mp (show(k::r.map (·.1)).Nodup from n)).1
  rw[fV,if_neg (by simp),List.eraseIdx_zero,List.tail_cons]
  refine(List.filter_eq_self.mpr λy hy=>?_).symm
  simp only[decide_eq_true_eq]
  exact λe=>n1 (List.mem_map.mpr ⟨y,hy,e⟩)
 | x::r,j+1,k,p,n,h=>by
  have n0:=List.nodup_cons.mp (show(x.1::r.map (·.1)).Nodup from n)
  have h':r[j]? =some (k,p):=h
  have ne:x.1≠k:=λe=>n0.1 (List.mem_map.mpr ⟨_,vw h',e.symm⟩)
  rw[fV,if_pos (by simp[ne]),GP,sx n0.2 h']
theorem pK{α β:Type}(f:α->β):∀(l:List α)(j:Nat),(l.eraseIdx j).map f=(l.map f).eraseIdx j
 | [],j=>rfl
 | x::r,0=>rfl
 | x::r,j+1=>by rw[GP,aB,aB,GP,pK f r j]
theorem GQ{x:ae0}{Q:ae0->aeZ->Prop}(hu:knd.room A.in1)(lo:(d == sysModules)=false)(hkey:knd.is s.heap k a)(hm:s.heap.DictOfH knd d xs)(hsz:xs.length<=afb)
  (hn:(∀(j:Nat)(p:aeU×ae0),xs[j]?≠some (k,p))->∀t,Q x { s with toks:=t })
  (hs:∀(j:Nat)(p:aeU×ae0),xs[j]? =some (k,p)->∀h' t,h'.DictOfH knd d (xs.filter λx=>decide (x.1≠k))->fT d s.heap h'->Q p.2 { s with heap:=h',toks:=t }) :
  afd (model prog w) A (call (.builtin "dict.pop") [.ref d,.ref a,x]) Q E s:=by
 have ty:s.TypeIs (.ref d) "dict":=hm.typeIs
 obtain⟨o,es,ep,ho,hc,hd,he,his,hnd⟩:=id hm
 have hes:es.size<=afb:=by have e:=size_of_entries he;omega
 have M:MeetsIn prog w (Builtin.«dict.pop» ⟨[.ref d,.ref a,x],[]⟩) (λA' R s'=>A'=A/\s'=s/\((∀(j:Nat)(p:aeU×ae0),xs[j]?≠some (k,p))->∀t,R (.ok (.ret x)) { s with toks:=t })/\
   ∀(j:Nat)(p:aeU×ae0),xs[j]? =some (k,p)->∀h' t,h'.DictOfH knd d (xs.filter λx=>decide (x.1≠k))->fT d s.heap h'->R (.ok (.ret p.2)) { s with heap:=h',toks:=t }):=.of_wp λA' R s' ⟨eA,e,h1,h2⟩=>by
  subst e eA
  unfold Builtin.«dict.pop»
  refine afe ?_
  unfold Py
  refine afe (wpAny_notOrdered_dict ty (show afd _ _ (pure (d,ax a,some x)) _ _ s' from afk ?_))
  have kp:(keyPart (ax a)).isSome=false:=rfl
  simp only[kp,iI,if_false]
  refine afe (aff ho hd (afe (afk ?_)))
  have Ug:xs=[]->∀(j:Nat)(p:aeU×ae0),xs[j]?≠some (k,p):=λz j p q=>by rw[z] at q;cases q
  by_cases em:es.isEmpty=true
  ·have xe:xs=[]:=by
    have:=size_of_entries he
    have e0:es.size=0:=by simpa [Mx] using em
    exact List.length_eq_zero_iff.mp (by omega)
   rw[if_pos em]
   refine afe (wpAny_rule (afe (afk ?_)))
   simp only[K4,if_true]
   refine afe (wpAny_missedRemoval_other lo (afe (wpAny_rule (afk ⟨x,rfl,h1 (Ug xe) _⟩))))
  ·rw[if_neg em]
   refine afe ?_
   unfold Pz
   refine afg ?_
   refine afe (knd.pyHash hu hkey (afe (wpAny_dictFind_heap (s:={ s' with toks:=s'.toks+knd.draws k }) hu hkey ho hd he his hnd (λno=>afk ?_) λj p hj=>?_)))
   ·simp only[K4,if_true]
    exact afe (wpAny_missedRemoval_other lo (afe (wpAny_rule (afk ⟨x,rfl,h1 no _⟩))))
   ·refine afe (aff (s:={ s' with toks:=s'.toks+knd.draws k }) ho hd ?_)
    rw[entry_at he j,hj]
    refine afe (wpAny_updateDictKeys (hz:=hes) (s:={ s' with toks:=s'.toks+knd.draws k }) ho hd (afk ?_))
    simp only[K5,iI,if_false]
    refine afe (wpAny_letGo (afk ⟨p.2,rfl,h2 j p hj _ _ ?_ (jb ..)⟩))
    refine⟨_,_,ep+1,mP _ ho (we (l8 hd _)),hc.mapDictKeys _,l8 hd _,?_,λy hy=>?_,?_⟩
    ·rw[<-sx hnd hj,pK,<-he]
     obtain⟨l⟩:=es
     simp
    ·exact knd.keeps (his y (List.mem_filter.mp hy).1) ho hd (jb ..)
    ·exact hnd.sublist (List.filter_sublist.map _)
 exact call_meetsIn PySem.F.slot_dict_pop ty PySem.F.entry_dict_pop (PySem.F.args_dict_pop_3 _ _ _) M ⟨rfl,rfl,hn,hs⟩
end
section
variable {prog:aeY} {w:ae1} {A:aeV} {E:ae0->aeZ->Prop} {s:aeZ}
theorem By{b:DictEntry->PUnit->Sem (ForInStep PUnit)}{Q:PUnit->aeZ->Prop}:∀{l:List DictEntry},(∀e∈l,∀Q':ForInStep PUnit->aeZ->Prop,Q' (.yield qX) s->afd (model prog w) A (b e qX) Q' E s)->Q qX s->afd (model prog w) A (forIn l qX b) Q E s
 | [],_,q=>by rw[List.forIn_nil];exact afk q
 | e::r,h,q=>by
  rw[List.forIn_cons]
  exact afe (h e (.head _) _ (By (λe' he'=>h e' (.tail _ he')) q))
theorem GR{es:List DictEntry}(n:(es.map (·.hash)).Nodup)(c:Int):(es.filter λe=>e.hash == c).length<=1:=by
 induction es with
 | nil=>simp
 | cons e r ih=>
  have n:=List.nodup_cons.mp (show(e.hash::r.map (·.hash)).Nodup from n)
  rw[fV]
  by_cases h:(e.hash == c)=true
  ·rw[if_pos h]
   have:(r.filter λe=>e.hash == c)=[]:=List.filter_eq_nil_iff.mpr λy hy q=>n.1 (List.mem_map.mpr ⟨y,hy,by rw[eq_of_beq q,eq_of_beq h]⟩)
   rw[this]
   exact ao 1
  ·rw[if_neg h];exact ih n.2
theorem qA:typeLookup (.type "tuple") "__eq__"=pure (some (.builtin "tuple.__eq__")):=PySem.F.slot_tuple_eq.lookup
theorem GU{o:aeU}{es:Array DictEntry}{ep:Nat}{Q:ae0->aeZ->Prop}(lo:(o == sysModules)=false)(x:kN s.heap o es ep)(hz:es.size<=afb)(he:es.size≠0)(hn:(es.toList.map (·.hash)).Nodup)(ht:∀e∈es,∃b,e.key= .ref b/\s.TypeIs (.ref b) "tuple")
  (h:∀h',(∃q,h'.get? s.heap.objs.size=some q/\q.cls= .type "dict"/\q.dict=none/\q.slots=#[]/\∃e',q.data= .dict es e')->fT s.heap.objs.size (s.heap.push { cls:=.type "dict",data:=.dict #[] }) h'->Q (.ref s.heap.objs.size) { s with heap:=h' }) :
  afd (model prog w) A (call (.type "dict") [.ref o]) Q E s:=by
 refine callType_codes (Q₁:=λobj s₁=>obj= .ref s.heap.objs.size/\s₁={ s with heap:=s.heap.push { cls:=.type "dict",data:=.dict #[] } }) F.kt_called_dict (F.kt_typeCall_dict_1 _) F.entry_dict_init (kt_code_dict_new _ ⟨rfl,rfl⟩) ?_
 rintro obj s₁ ⟨rfl,rfl⟩
 obtain⟨q,g1,g2,g3⟩:=x
 have hne:s.heap.objs.size≠o:=λe=>absurd (aK g1) (by rw[e];exact cK _)
 have n1:(s.heap.push { cls:=.type "dict",data:=.dict #[] }).get? s.heap.objs.size=some { cls:=.type "dict",data:=.dict #[] }:=br _ rfl
 have o1:(s.heap.push { cls:=.type "dict",data:=.dict #[] }).get? o=some q:=aS _ g1
 have tn:l9 { s with heap:=s.heap.push { cls:=.type "dict",data:=.dict #[] } } (.ref s.heap.objs.size) "dict":=⟨_,n1,rfl⟩
 have to:l9 { s with heap:=s.heap.push { cls:=.type "dict",data:=.dict #[] } } (.ref o) "dict":=⟨_,o1,g2⟩
 refine⟨tn,F.args_dict_init_2 _ _,?_⟩
 unfold Builtin.«dict.__init__»
 refine afe ?_
 unfold PB
 refine afe (wpAny_notOrdered_dict tn (show afd _ _ (pure (s.heap.objs.size,[ax o])) _ _ _ from afk ?_))
 refine(show afd _ _ (zY "dict.__init__" s.heap.objs.size (.ref o) [] .none) _ _ _ from ?_)
 unfold zY
 refine afe (wpAny_typeOf to ?_)
 rw[if_neg (by decide)]
 refine afe ?_
 unfold PD
 refine afe ?_
 unfold PF
 refine afe (wpAny_isInstance to isSubtype_dict_dict ?_)
 simp only[sy,iI,if_false]
 refine afe (wpAny_specialOf to F.slot_dict_iter.lookup (afk ?_))
 simp only[beq_self_eq_true,if_true]
 refine afe (afk ?_)
 unfold PH
 rw[if_neg (by simpa using hne)]
 unfold vZ
 rw[if_neg (by rw[lo];exact bt)]
 refine afe (afk (afe (aff o1 g3 ?_)))
 have few:(decide (es.size<=8)&&es.all λe=>(keyPart e.key).isSome)=false:=by
  rw[Bool.and_eq_false_iff]
  refine .inr ?_
  rw[<-Bool.not_eq_true,Array.all_eq_true]
  intro al
  have:=al 0 (by omega)
  obtain⟨b,e1,_⟩:=ht es[0] (by simp)
  rw[e1] at this
  cases this
 simp only[few,wg,if_true]
 refine afe (aff n1 rfl ?_)
 simp only[show(#[]:Array DictEntry).isEmpty=true from rfl,if_true]
 refine afe ?_
 unfold Builtin.Dict.entriesForEmpty
 refine afe (aff o1 g3 ?_)
 rw[<-Array.forIn_toList]
 refine afe (By (λe hm Q' q'=>?_) (afk ?_))
 ·obtain⟨b,e1,e2⟩:=ht e (Array.mem_toList_iff.mp hm)
  rw[e1]
  obtain⟨ob,f1,f2⟩:=e2
  have tb:l9 { s with heap:=s.heap.push { cls:=.type "dict",data:=.dict #[] } } (.ref b) "tuple":=⟨_,aS _ f1,f2⟩
  unfold Builtin.Dict.quietEq
  refine afe (afe (wpAny_specialOf tb qA (afk ?_)))
  have nq:(some (jM "tuple.__eq__") == some (jM "object.__eq__"))=false:=by decide
  have sz:¬(es.filter (λx=>x.hash == e.hash)).size > 1:=by
   have q1:=GR hn e.hash
   have q2:(es.filter (λx=>x.hash == e.hash)).size=(es.toList.filter (λx=>x.hash == e.hash)).length:=by rw[<-AM,Array.toList_filter]
   rw[q2]
   omega
  simp only[nq,wg,if_true,if_neg sz]
  exact afk q'
 ·have ne:es.isEmpty=false:=by simpa [Mx] using he
  simp only[ne,wg,if_true]
  refine afe (wpAny_updateDictKeysTo (hz':=by show es.size<=afb+1;omega) n1 rfl (afk ?_))
  refine(show afd _ _ (PJ s.heap.objs.size [] >>= _) _ _ _ from afe (afk (afk ⟨rfl,h _ ?_ (jb ..)⟩)))
  exact⟨_,mP _ n1 (we (l8 rfl _)),rfl,rfl,rfl,_,rfl⟩
end
section
variable {prog:aeY} {w:ae1} {A:aeV} {E:ae0->aeZ->Prop} {s:aeZ} {d it:aeU} {i:Nat} {es:Array DictEntry} {ep:Nat} {ok ov:ae0}
theorem Dy{Q:ae0->aeZ->Prop}(lo:(d == sysModules)=false)(x:kN s.heap d es ep)(h:Q (.ref s.heap.objs.size) { s with heap:=s.heap.push { cls:=.type "dict_items",data:=.fields #[.ref d] } }):afd (model prog w) A (call (.builtin "dict.items") [.ref d]) Q E s:=by
 have ty:=x.ty
 have M:MeetsIn prog w (Builtin.«dict.items» ⟨[.ref d],[]⟩) (λ_ R s'=>s'=s/\R (.ok (.ret (.ref s.heap.objs.size))) { s with heap:=s.heap.push { cls:=.type "dict_items",data:=.fields #[.ref d] } }):=.of_wp λA' R s' ⟨e,h⟩=>by
  subst e
  unfold Builtin.«dict.items»
  refine afe ?_
  unfold PK vZ
  refine afe (wpAny_notOrdered_dict ty (show afd _ _ (pure d) _ _ s' from afk ?_))
  rw[if_neg (by rw[lo];exact bt)]
  exact afe (afk (afe (afj (afk ⟨_,rfl,h⟩))))
 exact call_meetsIn PySem.F.slot_dict_items ty PySem.F.entry_dict_items (PySem.F.args_dict_items_1 _) M ⟨rfl,h⟩
theorem Dz{v:aeU}{Q:ae0->aeZ->Prop}(hv:s.heap.IsItemsView v d)(x:kN s.heap d es ep)
  (h:Q (.ref s.heap.objs.size) { s with heap:=s.heap.push { cls:=.type "dict_itemiterator",data:=.fields #[.none,.bool false,.ref d,.int 0 0,.int es.size 0,.int ep 0,.none,.none] } }):afd (model prog w) A (pyIter (.ref v)) Q E s:=by
 have ty:=hv.typeIs
 obtain⟨o1,a1,a2,a3⟩:=hv
 obtain⟨o,g1,g2,g3⟩:=x
 refine wpAny_pyIter_slot ty PySem.F.slot_dict_items_iter (wpAny_call_entry PySem.F.slot_dict_items_iter ty PySem.F.entry_dict_items_iter ?_ (PySem.F.args_dict_items_iter_1 _))
 unfold Builtin.«dict_items.__iter__»
 refine afe (afk (afe ?_))
 unfold Builtin.Dict_items.dictOf
 refine afe (wpAny_field a1 a3 (x:=.ref d) rfl (afk (afe ?_)))
 unfold Builtin.Dict_items.newIterator
 refine afe (aff g1 g3 (afe (wpAny_dictEpoch g1 g3 ?_)))
 have own:v8 "dict_itemiterator"=true:=by decide
 simp only[own,if_true]
 refine afj (afk ⟨_,rfl,"dict_itemiterator",_,⟨_,br _ rfl,rfl⟩,PySem.F.slot_dict_itemiterator_next.lookup,?_⟩) (by simp only[sizeOk,PL,aP,cS,n_,List.length_nil,sizeLine_eq];omega)
 simpa [rawInt,PL] using h
theorem DA{Q:Option ae0->aeZ->Prop}(ki:IsItemIter s.heap it d i es.size ep ok ov)(x:kN s.heap d es ep)(hi:i < es.size)
  (k:∀h',IsItemIterOut h' it d (i+1) es.size ep es[i].key es[i].val s.heap.objs.size->h'.get? s.heap.objs.size=some { cls:=.type "tuple",data:=.seq #[es[i].key,es[i].val] }->h'.objs.size=s.heap.objs.size+1->(∀b o,b≠it->s.heap.get? b=some o->h'.get? b=some o)->Q (some (.ref s.heap.objs.size)) { s with heap:=h' }):afd (model prog w) A (pyNext (.ref it)) Q E s:=by
 obtain⟨hp,g,dr,tk,os⟩:=s
 obtain⟨o,g1,g2,g3⟩:=x
 have ty:l9 ⟨hp,g,dr,tk,os⟩ (.ref it) "dict_itemiterator":=⟨_,ki,rfl⟩
 have own:v8 "dict_itemiterator"=true:=by decide
 have nn:¬((ax d == a_)=true):=bt
 have n0:¬((i:Int) < 0):=by omega
 have lt:it < hp.objs.size:=aK ki
 have gt:=Nat.ne_of_gt lt
 unfold pyNext
 refine afe (wpAny_attempt (wpAny_callSpecial?_slot (name:=jG "__next__") ty PySem.F.slot_dict_itemiterator_next (wpAny_call_entry PySem.F.slot_dict_itemiterator_next ty PySem.F.entry_dict_itemiterator_next ?_ (PySem.F.args_dict_itemiterator_next_1 _))))
 refine afe (afk (afe (afe ?_)))
 first | refine afe (wpAny_typeNameOfWhole_itemiter ty (afk (afe (wpAny_fieldsOf ki rfl ?_)))) | refine afe (wpAny_typeNameOf_itemiter ty (afk (afe (wpAny_fieldsOf ki rfl ?_))))
 simp only[own,if_true]
 refine(show afd _ _ (if(ax d == a_)=true then _ else _) _ _ _ from ?_);rw[if_neg nn]
 refine afe (afk (afe (aff g1 g3 ?_)))
 rw[if_neg (by simp)]
 refine afe (afk (afe (wpAny_dictEpoch g1 g3 ?_)))
 rw[if_neg (by simp)]
 refine afk ?_
 simp only[n0,if_false,zT,Gg hi]
 refine afe ?_
 first | refine afe (wpAny_typeNameOfWhole_itemiter ty (afk (afe (wpAny_isOneOf_itemiter ty ?_)))) | refine afe (wpAny_typeNameOf_itemiter ty (afk (afe (wpAny_isOneOf_itemiter ty ?_))))
 refine(show afd _ _ (setField (.ref it) 3 (rawInt ((i:Int)+1)) >>= _) _ _ ⟨hp,g,dr,tk,os⟩ from afe (wpAny_setField_rec ki (by simp) λh1 e1 s1=>?_))
 have z1:h1.objs.size=hp.objs.size:=s1.1
 have t1:IsItemIter h1 it d (i+1) es.size ep ok ov:=by
  have e:((i+1:Nat):Int)=(i:Int)+1:=by omega
  unfold IsItemIter;rw[e];simpa [rawInt] using e1
 have y1:l9 ⟨h1,g,dr,tk,os⟩ (.ref it) "dict_itemiterator":=⟨_,t1,rfl⟩
 refine afe (afg (afe (wpAny_isOneOf_itemiter y1 (afe (wpAny_isOneOf_itemiter y1 ?_)))))
 refine(show afd _ _ (PM (.ref it) 6 es[i].key es[i].val) _ _ ⟨h1,g,dr,tk,os⟩ from ?_)
 unfold PM
 refine afe (wpAny_newTuple ?_)
 have t2:IsItemIter (h1.push { cls:=.type "tuple",data:=.seq #[es[i].key,es[i].val] }) it d (i+1) es.size ep ok ov:=aS _ t1
 generalize e2:h1.push { cls:=.type "tuple",data:=.seq #[es[i].key,es[i].val] }=h2 at t2
 have T2:h2.get? hp.objs.size=some { cls:=.type "tuple",data:=.seq #[es[i].key,es[i].val] }:=by rw[<-e2,<-z1];exact br _ rfl
 have z2:h2.objs.size=hp.objs.size+1:=by rw[<-e2,GV,z1]
 have k2:∀b o,b≠it->hp.get? b=some o->h2.get? b=some o:=λb o hb e=>by rw[<-e2];exact aS _ (s1.extBut b o hb e)
 refine(show afd _ _ (PN (.ref it) >>= _) _ _ ⟨h2,g,dr,tk,os⟩ from afe ?_)
 rw[z1]
 unfold PN
 refine afe (wpAny_field t2 rfl (x:=.none) rfl (afk ?_))
 simp only[if_true]
 refine afe (wpAny_field t2 rfl (x:=ok) rfl (afe (wpAny_field t2 rfl (x:=ov) rfl (afe (wpAny_setField_rec t2 (by simp) λh3 t3 s3=>?_)))))
 refine afe (wpAny_setField_rec (show IsItemIter h3 it d (i+1) es.size ep es[i].key ov from t3) (by simp) λh4 t4 s4=>?_)
 refine afe (wpAny_setField_rec (show IsItemIter h4 it d (i+1) es.size ep es[i].key es[i].val from t4) (by simp) λh5 t5 s5=>?_)
 refine afe (wpAny_setField_rec (show IsItemIterOut h5 it d (i+1) es.size ep es[i].key es[i].val hp.objs.size from t5) (by simp) λh6 t6 s6=>?_)
 have sb:∀b,b≠it->∀o,h2.get? b=some o->h6.get? b=some o:=λb hb o e=>s6.extBut b o hb (s5.extBut b o hb (s4.extBut b o hb (s3.extBut b o hb e)))
 refine afe (wpAny_letGo (afk (afk ⟨_,rfl,afk (k h6 t6 (sb _ gt _ T2) ?_ λb o hb e=>sb b hb o (k2 b o hb e))⟩)))
 exact(s6.1.trans (s5.1.trans (s4.1.trans s3.1))).trans z2
theorem GW{Q:Option ae0->aeZ->Prop}(hh:A.handled=none)(ki:IsItemIter s.heap it d i es.size ep ok ov)(x:kN s.heap d es ep)(hi:es.size<=i)(k:∀h',Heap.ExtBut it s.heap h'->Q none { s with heap:=h' }):afd (model prog w) A (pyNext (.ref it)) Q E s:=by
 obtain⟨o,g1,g2,g3⟩:=x
 have ty:s.TypeIs (.ref it) "dict_itemiterator":=⟨_,ki,rfl⟩
 have own:v8 "dict_itemiterator"=true:=by decide
 have nn:¬((ax d == a_)=true):=bt
 have n0:¬((i:Int) < 0):=by omega
 unfold pyNext
 refine afe (wpAny_attempt (wpAny_callSpecial?_slot (name:=jG "__next__") ty PySem.F.slot_dict_itemiterator_next (wpAny_call_entry PySem.F.slot_dict_itemiterator_next ty PySem.F.entry_dict_itemiterator_next ?_ (PySem.F.args_dict_itemiterator_next_1 _))))
 refine afe (afk (afe (afe ?_)))
 first | refine afe (wpAny_typeNameOfWhole_itemiter ty (afk (afe (wpAny_fieldsOf ki rfl ?_)))) | refine afe (wpAny_typeNameOf_itemiter ty (afk (afe (wpAny_fieldsOf ki rfl ?_))))
 simp only[own,if_true]
 refine(show afd _ _ (if(ax d == a_)=true then _ else _) _ _ s from ?_);rw[if_neg nn]
 refine afe (afk (afe (aff g1 g3 ?_)))
 rw[if_neg (by simp)]
 refine afe (afk (afe (wpAny_dictEpoch g1 g3 ?_)))
 rw[if_neg (by simp)]
 refine afk ?_
 simp only[n0,if_false,zT,T9 hi]
 refine afe ?_
 first | refine afe (wpAny_typeNameOfWhole_itemiter ty (afk ?_)) | refine afe (wpAny_typeNameOf_itemiter ty (afk ?_))
 refine(show afd _ _ (setField (.ref it) 2 .none >>= _) _ _ s from afe (wpAny_setField ki rfl (by simp) ?_))
 refine(show afd _ _ (newExc (.type "StopIteration") [] >>= _) _ _ _ from ?_)
 simp only[newExc,newTuple,raiseNew]
 refine afe (afe (afj (afe (m:=firstArgMember _ _) (wpAny_of_eq (a:=a_) (by first | rfl | (simp only[firstArgMember];rfl)) (afj ?_ (by size_fits)))) (by size_fits)))
 refine(afe (wpAny_handled ?_))
 rw[show A.in1.handled=none by exact hh]
 refine(afe (afk (wpAny_throw ?_)))
 refine afe (wpAny_isInstance (b:=true) (T:="StopIteration") ⟨_,br _ rfl,rfl⟩ isSubtype_stop (afk ?_))
 refine k _ ?_;exact((jb ..).extBut.push _).push _
end
section
variable {X:Cx}
theorem wj{P:aeY}{w:ae1}{H:Hp}{h:Heap}{a:aeU}{xs:List (List L2.Key×V)}(ok:kA P w H h)(e:Rd H a (.dT xs)) :
  ∃es ep ys,xs.length<=afb/\(a == sysModules)=false/\kN h a es ep/\es.size=xs.length/\KT H xs ys/\es.toList=ys.map (entryOfKey (tupleKind (aR P w)))/\(ys.map (·.1)).Nodup:=by
 obtain⟨z,lo,ys,kt,o,es,ep,g1,g2,g3,g4,g5⟩:=(show cH P w H h a (.dT xs) from EM ok e)
 have len:es.size=ys.length:=by have:=congrArg b7 g4;simpa using this
 exact⟨es,ep,ys,z,lo,⟨o,g1,g2.1,g3⟩,by rw[len];exact(Paired.length kt).symm,kt,g4,g5⟩
theorem DB:cA X (.builtin "len") (λxs H Q=>∃a kvs,xs=[.ref a]/\Rd H a (.dT kvs)/\Q (.int kvs.length) H):=by
 intro pins s σ H xs us Q I rs q
 obtain⟨a,kvs,rfl,e,q⟩:=q
 cases rs with
 | cons r rr=>
  cases rr
  cases r
  obtain⟨es,ep,ys,z,lo,raw,sz,_⟩:=wj I.hok e
  refine K2 lo raw (by rw[sz];exact z) ⟨.int kvs.length,H,I.tok _,⟨_,by rw[sz]⟩,q⟩
def bX:Option Ob->Option (List (List L2.Key×Wv))
 | some (.bu kvs)=>some kvs
 | some (.fW kvs)=>some kvs
 | _=>none
theorem fu{m:Mp}{st:Hs}{H:Hp}{l:Nat}{a:aeU}{kvs:List (List L2.Key×Wv)}(S:bq X.K m st H)(ha:m[l]? =some a)(h:bX st[l]? =some kvs):∃xs,Rd H a (.dT xs)/\RelK X.K m H kvs xs:=by
 unfold bX at h
 split at h
 ·rename_i k' e
  cases h
  obtain⟨xs,h1,h2⟩:=(show ∃ys,H a=some (.dT ys)/\RelK X.K m H kvs ys from S.obj _ _ _ ha e)
  exact⟨xs,.inl h1,h2⟩
 ·rename_i k' e
  cases h
  obtain⟨o,xs,h1,h2⟩:=(show ∃o ys,H a=some (.dY o (.dT ys))/\RelK X.K m H kvs ys from S.obj _ _ _ ha e)
  exact⟨xs,.inr ⟨o,h1⟩,h2⟩
 ·cases h
def u0:List Wv->Hs->Re Wv
 | [.ref l],st=>(match bX st[l]? with | some kvs=> .ok (.int kvs.length) st | none=>e7 [.ref l] st)
 | ws,st=>e7 ws st
theorem K6:cO X (.builtin "len") u0:=by
 obtain⟨r0,c0,k0⟩:=Fs (X:=X)
 refine⟨_,DB.or c0,λws vs st H m Q S r p=>?_⟩
 have old:cC X.K m H (e7 ws st) Q->r0 vs H Q:=λp=>k0 ws vs st H m Q S r p
 unfold u0 at p
 split at p
 ·rename_i l
  cases e:bX st[l]? with
  | none=>rw[e] at p;exact .inr (old p)
  | some kvs=>
   rw[e] at p
   obtain⟨v,rfl,rx⟩:=kH r
   unfold ag at rx
   obtain⟨a,rfl,ha⟩:=rx
   obtain⟨xs,h1,h2⟩:=fu (X:=X) S ha e
   refine .inl ⟨a,xs,rfl,h1,?_⟩
   rw[<-h2.length]
   exact p _ m H Ext.refl S mkInt
 ·exact .inr (old p)
def Bz(ns:List Int):Int:=reduceHash (PQ (ns.map hashInt))
def qt:List (List L2.Key)->Option (List (List Int))
 | []=>some []
 | k::r=>(match kO k,qt r with | some ns,some l=>some (ns::l) | _,_=>none)
theorem yf:∀{ks:List L2.Key}{ns:List Int},kO ks=some ns->ks=ns.map fq
 | [],ns,e=>by cases e;rfl
 | .inl i::r,ns,e=>by
  unfold kO at e
  cases q:kO r with
  | none=>rw[q] at e;cases e
  | some l=>rw[q] at e;cases e;rw[aB,<-yf q]
theorem GX{P:aeY}{w:ae1}{ks:List L2.Key}{ns:List Int}(h:kO ks=some ns):(tupleKind (aR P w)).hash ks=Bz ns:=by
 rw[yf h]
 show reduceHash (PQ ((ns.map fq).map (aR P w).hash))=_
 rw[iM]
 rfl
theorem sA{P:aeY}{w:ae1}:∀{kss:List (List L2.Key)}{nss:List (List Int)},qt kss=some nss->kss.map (tupleKind (aR P w)).hash=nss.map Bz
 | [],nss,e=>by cases e;rfl
 | k::r,nss,e=>by
  unfold qt at e
  cases q1:kO k with
  | none=>rw[q1] at e;cases e
  | some ns=>
   cases q2:qt r with
   | none=>rw[q1,q2] at e;cases e
   | some l=>rw[q1,q2] at e;cases e;rw[aB,aB,GX q1,sA q2]
def jP(ks:List (List L2.Key)):Bool:=match qt ks with
 | some nss=>decide ((nss.map Bz).Nodup)
 | none=>false
theorem DC{prog:aeY}{w:ae1}{A:aeV}{E:ae0->aeZ->Prop}{s:aeZ}{o:aeU}{ep:Nat}{Q:ae0->aeZ->Prop}(lo:(o == sysModules)=false)(x:kN s.heap o #[] ep)(h:Q (.ref s.heap.objs.size) { s with heap:=s.heap.push { cls:=.type "dict",data:=.dict #[] } }) :
  afd (model prog w) A (call (.type "dict") [.ref o]) Q E s:=by
 refine callType_codes (Q₁:=λobj s₁=>obj= .ref s.heap.objs.size/\s₁={ s with heap:=s.heap.push { cls:=.type "dict",data:=.dict #[] } }) F.kt_called_dict (F.kt_typeCall_dict_1 _) F.entry_dict_init (kt_code_dict_new _ ⟨rfl,rfl⟩) ?_
 rintro obj s₁ ⟨rfl,rfl⟩
 obtain⟨q,g1,g2,g3⟩:=x
 have hne:s.heap.objs.size≠o:=λe=>absurd (aK g1) (by rw[e];exact cK _)
 have n1:(s.heap.push { cls:=.type "dict",data:=.dict #[] }).get? s.heap.objs.size=some { cls:=.type "dict",data:=.dict #[] }:=br _ rfl
 have o1:(s.heap.push { cls:=.type "dict",data:=.dict #[] }).get? o=some q:=aS _ g1
 have tn:l9 { s with heap:=s.heap.push { cls:=.type "dict",data:=.dict #[] } } (.ref s.heap.objs.size) "dict":=⟨_,n1,rfl⟩
 have to:l9 { s with heap:=s.heap.push { cls:=.type "dict",data:=.dict #[] } } (.ref o) "dict":=⟨_,o1,g2⟩
 refine⟨tn,F.args_dict_init_2 _ _,?_⟩
 unfold Builtin.«dict.__init__»
 refine afe ?_
 unfold PB
 refine afe (wpAny_notOrdered_dict tn (show afd _ _ (pure (s.heap.objs.size,[ax o])) _ _ _ from afk ?_))
 refine(show afd _ _ (zY "dict.__init__" s.heap.objs.size (.ref o) [] .none) _ _ _ from ?_)
 unfold zY
 refine afe (wpAny_typeOf to ?_)
 rw[if_neg (by decide)]
 refine afe ?_
 unfold PD
 refine afe ?_
 unfold PF
 refine afe (wpAny_isInstance to isSubtype_dict_dict ?_)
 simp only[sy,iI,if_false]
 refine afe (wpAny_specialOf to F.slot_dict_iter.lookup (afk ?_))
 simp only[beq_self_eq_true,if_true]
 refine afe (afk ?_)
 unfold PH
 rw[if_neg (by simpa using hne)]
 unfold vZ
 rw[if_neg (by rw[lo];exact bt)]
 refine afe (afk (afe (aff o1 g3 ?_)))
 have few:(decide ((#[]:Array DictEntry).size<=8)&&(#[]:Array DictEntry).all λe=>(keyPart e.key).isSome)=true:=by simp
 simp only[few,sy,iI,if_false]
 refine afe (wpAny_dictEpoch o1 g3 (afe (aff o1 g3 (afe ?_))))
 rw[K7]
 refine(show afd _ _ (pure qX) _ _ _ from afk (afk ?_))
 exact(show afd _ _ (PJ s.heap.objs.size [] >>= _) _ _ _ from afe (afk (afk ⟨rfl,h⟩)))
theorem zZ:cA X (.type "dict") (λxs H Q=>∃a kvs,xs=[.ref a]/\Rd H a (.dT kvs)/\((kvs.map (·.1)).map (tupleKind (aR X.prog X.w)).hash).Nodup/\∀p,H p=none->Q (.ref p) (upd H p (.dT kvs))):=by
 intro pins s σ H xs us Q I rs q
 obtain⟨a,kvs,rfl,e,hn,q⟩:=q
 cases rs with
 | cons r rr=>
  cases rr
  cases r
  obtain⟨es,ep,ys,z,lo,raw,sz,kt,g4,g5⟩:=wj I.hok e
  by_cases ne:kvs=[]
  ·subst ne
   cases kt
   have l0:es=#[]:=Array.eq_empty_of_size_eq_zero (by rw[sz];rfl)
   subst l0
   have fr:H s.heap.objs.size=none:=I.hok.fresh (ao _)
   refine DC lo raw ⟨.ref s.heap.objs.size,_,I.laid (a:=s.heap.objs.size) (o:=.dT []) (t':=s.toks) (λb ob hq=>aS _ hq) (ao _) ?_,rfl,q _ fr⟩
   exact⟨z,beq_eq_false_iff_ne.mpr (bI (bh I.big)),[],.nil,_,#[],_,br _ rfl,⟨rfl,rfl,rfl⟩,rfl,g4,g5⟩
  have keys:kvs.map (·.1)=ys.map (·.1):=by
   clear q hn ne g5 g4 e sz z
   induction kt with
   | nil=>rfl
   | cons h t ih=>rw[aB,aB,ih,h.1]
  have hs:es.toList.map (·.hash)=(kvs.map (·.1)).map (tupleKind (aR X.prog X.w)).hash:=by
   rw[g4,keys,iM,iM]
   rfl
  have ht:∀e∈es,∃b,e.key= .ref b/\s.TypeIs (.ref b) "tuple":=λe' he=>by
   have:e'∈ys.map (entryOfKey (tupleKind (aR X.prog X.w))):=by rw[<-g4];exact Array.mem_toList_iff.mpr he
   obtain⟨y,hy,rfl⟩:=List.mem_map.mp this
   obtain⟨j,hj⟩:=List.mem_iff_getElem?.mp hy
   obtain⟨x,_,_,hx,_⟩:=zX kt hj
   have kk:=i6 (P:=X.prog) (w:=X.w) I.hok hx
   obtain⟨ob,its,n,f1,f2,_⟩:=kk
   exact⟨y.2.1,rfl,ob,f1,f2⟩
  have l0:es.size≠0:=by rw[sz];exact λz0=>ne (List.length_eq_zero_iff.mp z0)
  refine GU lo raw (by rw[sz];exact z) l0 (by rw[hs];exact hn) ht λh' nw sb=>?_
  obtain⟨o',f1,f2,f3,f4,Ja,f5⟩:=nw
  have fr:H s.heap.objs.size=none:=I.hok.fresh (ao _)
  refine⟨.ref s.heap.objs.size,_,I.laid (a:=s.heap.objs.size) (o:=.dT kvs) (t':=s.toks) (λb ob hq=>(sb.2 b (bh (aK hq))).trans (aS _ hq)) (ao _) ?_,rfl,q _ fr⟩
  refine⟨z,beq_eq_false_iff_ne.mpr (bI (bh I.big)),ys,kt.keeps λc zs ec=>?_,o',es,Ja,f1,⟨f2,f3,f4⟩,f5,g4,g5⟩
  rw[au (bg ec fr)]
  exact ec
def qu:List Wv->Hs->Re Wv
 | [.ref l],st=>(match bX st[l]? with | some kvs=>if jP (kvs.map (·.1))=true then .ok (.ref st.length) (st++[.bu kvs]) else .bad | none=> .bad)
 | _,_=> .bad
theorem K8:cO X (.type "dict") qu:=⟨_,zZ,λws vs st H m Q S r p=>by
 unfold qu at p
 split at p
 ·rename_i l
  cases e:bX st[l]? with
  | none=>rw[e] at p;exact aa p
  | some kvs=>
   rw[e] at p
   dsimp only at p
   by_cases c:jP (kvs.map (·.1))=true
   ·rw[if_pos c] at p
    obtain⟨v,rfl,rx⟩:=kH r
    unfold ag at rx
    obtain⟨a,rfl,ha⟩:=rx
    obtain⟨xs,h1,h2⟩:=fu (X:=X) S ha e
    refine⟨a,xs,rfl,h1,?_,λq hq=>?_⟩
    ·have c2:=c
     unfold jP at c2
     rw[<-h2.1]
     cases ek:qt (kvs.map (·.1)) with
     | none=>rw[ek] at c2;cases c2
     | some nss=>rw[ek] at c2;rw[sA ek];exact of_decide_eq_true c2
    ·have ex:Ext X.K m H (m++[q]) (upd H q (.dT xs)):=Ext.more.trans (Ext.gz (.inl hq))
     exact p (.ref q) (m++[q]) _ ex (S.vK hq ⟨xs,aF,h2.mono ex⟩) (by unfold ag;exact⟨q,rfl,by rw[<-S.len,pe (ao _),vL];rfl⟩)
   ·rw[if_neg c] at p;exact aa p
 ·exact aa p⟩
end
theorem pL{o:Option V}(r:nN o none):o=none:=by
 cases o with
 | none=>rfl
 | some u=>exact(show False from r).elim
theorem l_{o:Option V}{u:ae0}(r:nN o (some u)):∃v,o=some v/\RelV v u:=by
 cases o with
 | none=>exact(show False from r).elim
 | some v=>exact⟨v,rfl,r⟩
def PR(td ty tx:TE):TE:=λσ H Q=>td σ H λx H1=>∃a,x= .ref a/\Of H1 a/\ty σ H1 λy H2=>tx σ H2 λz H3=>∃kvs k b,H3 a=some (.dT kvs)/\y= .ref b/\H3 b=some (.tup (k.map kV))/\
 (∀v,iF kvs k=some v->Q v (upd H3 a (.dT (gY kvs k))))/\(iF kvs k=none->Q z H3)
theorem qY{H:Hp}{k:List L2.Key}:∀{xs:List (List L2.Key×V)}{ys:List (List L2.Key×aeU×ae0)},KT H xs ys->KT H (gY xs k) (ys.filter λy=>decide (y.1≠k))
 | _,_,.nil=> .nil
 | _,_,.cons (a:=x) (b:=y) h t=>by
  by_cases e:x.1=k
  ·rw[uF e,fV,if_neg (by rw[<-h.1];simp[e])];exact qY t
  ·rw[uG e,fV,if_pos (by rw[<-h.1];simp[e])];exact .cons h (qY t)
section
variable {X:Cx} {o e f:Expr} {apos cpos:Pos} {td ty tx:TE}
theorem GY(hu:X.A.units+1 < cLine)(ho:PE X o td)(he:PE X e ty)(hf:PE X f tx)(m:M2 X o "pop" apos e f cpos):PE X (.Call (.Attribute o "pop" apos) [e,f] [] cpos) (PR td ty tx):=by
 intro pins s σ H Q I h
 refine wpAny_Call_method m.base m.few m.line PySem.F.plainAttrs_dict PySem.F.slot_dict_pop PySem.F.type_dict_pop (a7 (ho pins s σ H _ I h) λu s1 ⟨x,H1,I1,rx,a,ex,d,q1⟩=>?_)
 subst ex
 obtain rfl:u=ax a:=rx
 obtain⟨t1,t2,_⟩:=pg I1 d
 refine⟨t1,t2,?_⟩
 rw[m.trees]
 refine jH rfl (mQ (i5 (a7 (he pins s1 σ H1 _ I1 q1) λiv s2 ⟨y,H2,I2,ry,q2⟩=>
  i5 (a7 (hf pins s2 σ H2 _ I2 q2) λfv s3 ⟨z,H3,I3,rz,kvs,k,b,ea,ey,eb,q3,q4⟩=>o_ ?_))))
 subst ey
 cases (show iv=ax b from ry)
 obtain⟨zz,hd,xs,rel,dd⟩:=xv I3.hok ea
 have vl:=rel.val k
 refine GQ (tupleKind_room_in1 hu) hd (i6 I3.hok eb) dd (by rw[<-Paired.length rel];exact zz) (λno t=>?_) λj p hj h' t EN hs=>?_
 ·rw[atKey_none_of_get no] at vl
  exact⟨z,H3,I3.tok _,rz,q4 (pL vl)⟩
 ·have hnd:(xs.map (·.1)).Nodup:=let ⟨_,_,_,_,_,_,_,_,n⟩:=dd;n
  rw[atKey_of_get hnd hj] at vl
  obtain⟨v,ev,rv⟩:=l_ vl
  obtain⟨q,es,ep,hq,h2,h3,h4,_,h5⟩:=EN
  refine⟨v,_,lO (ob:=.dT (gY kvs k)) I3 (by rw[ea];exact jI) hs ⟨q,hq⟩ ⟨ba (xt kvs k) zz,hd,_,(qY rel).keeps λc ys ec=>?_,q,es,ep,hq,h2,h3,h4,h5⟩,rv,q3 v ev⟩
  rw[au (AJ ec ea (λz=>nomatch z))]
  exact ec
def gj{κ:Type}[DecidableEq κ](kvs:List (κ×Wv))(k:κ):List (κ×Wv):=kvs.filter λkv=>decide (kv.1≠k)
theorem RelK.drop{κ:Type}[DecidableEq κ]{K:PySem.W.Frag}{m:Mp}{H:Hp}(k:κ):∀{kvs:List (κ×Wv)}{xs:List (κ×V)},RelK K m H kvs xs->RelK K m H (gj kvs k) (gY xs k)
 | [],xs,h=>by rw[h.nil_inv];exact RelK.nil
 | p::r,xs,h=>by
  obtain⟨v,t,rfl,h1,h2⟩:=h.cons_inv
  by_cases e:p.1=k
  ·rw[uF e]
   unfold gj
   rw[fV,if_neg (by simp[e])]
   exact h2.drop k
  ·rw[uG e]
   unfold gj
   rw[fV,if_pos (by simp[e])]
   exact RelK.cons h1 (h2.drop k)
def K9(d k x:Wv)(st:Hs):Re Wv:=match d with
 | .ref l=>(match iH k,st[l]? with
  | some kk,some (.bu kvs)=>(match aN kvs kk with | some w=> .ok w (st.set l (.bu (gj kvs kk))) | none=> .ok x st)
  | _,_=> .bad)
 | _=> .bad
def DD(st:Hs):Wv->Bool
 | .ref l=>(bX st[l]?).isSome
 | _=>false
def BA(gd gk gx:GE):GE:=λρ st=>(gd ρ st).bind λd st1=>if DD st1 d=true then(gk ρ st1).bind λk st2=>(gx ρ st2).bind λx st3=>K9 d k x st3 else .bad
theorem K_{gd gk gx:GE}(hu:X.A.units+1 < cLine)(ho:JE X o gd)(he:JE X e gk)(hf:JE X f gx)(M:M2 X o "pop" apos e f cpos):JE X (.Call (.Attribute o "pop" apos) [e,f] [] cpos) (BA gd gk gx) :=
 JE.of (GY hu aE aE aE M) λρ st σ H m Q S R p=>by
  refine ho.go S R (aw.bind p) λd st1 v m1 H1 p1 e1 S1 r1=>?_
  by_cases hd:DD st1 d=true
  ·rw[if_pos hd] at p1
   cases d with
   | ref l=>
    unfold ag at r1
    obtain⟨a,rfl,ha⟩:=r1
    obtain⟨kv0,ek⟩:=Option.isSome_iff_exists.mp (show(bX st1[l]?).isSome=true from hd)
    obtain⟨zd,h0,_⟩:=fu (X:=X) S1 ha ek
    refine⟨a,rfl,.inr ⟨zd,h0⟩,?_⟩
    refine he.go S1 (R.mono e1) ((aw.bind p1).imp e1 λ_ _ q=>q) λk st2 y m2 H2 p2 e2 S2 r2=>?_
    refine hf.go S2 (R.mono (e1.trans e2)) ((aw.bind p2).imp (e1.trans e2) λ_ _ q=>q) λx st3 z m3 H3 p3 e3 S3 r3=>?_
    unfold K9 at p3
    dsimp only at p3
    cases q1:iH k with
    | none=>rw[q1] at p3;exact aa p3
    | some kk=>
     cases q2:st3[l]? with
     | none=>rw[q1,q2] at p3;exact aa p3
     | some ob=>
      rw[q1,q2] at p3
      cases ob with
      | bu kvs=>
       dsimp only at p3
       have O_:m3[l]? =some a:=(e2.trans e3).pre _ _ ha
       obtain⟨xs,y1,y2⟩:=(show ∃ys,H3 a=some (.dT ys)/\RelK X.K m3 H3 kvs ys from S3.obj _ _ _ O_ q2)
       obtain⟨b,rfl,hb⟩:=hV (ag.mono e3 _ _ r2) q1
       obtain⟨i1,i2⟩:=y2.val kk
       refine⟨xs,kk,b,y1,rfl,hb,λu X9=>?_,λhn=>?_⟩
       ·cases q3:aN kvs kk with
        | none=>rw[i1 q3] at X9;cases X9
        | some w=>
         rw[q3] at p3
         obtain⟨u',j1,j2⟩:=i2 w q3
         rw[X9] at j1
         cases j1
         have ex:Ext X.K m3 H3 m3 (upd H3 a (.dT (gY xs kk))):=Ext.gz (.inr (.inr (.inr ⟨_,y1⟩)))
         exact p3 u m3 _ (e1.trans (e2.trans (e3.trans ex))) (S3.i7 O_ q2 rfl ⟨_,aF,(y2.drop kk).mono ex⟩) (ag.mono ex _ _ j2)
       ·cases q3:aN kvs kk with
        | none=>rw[q3] at p3;exact p3 z m3 H3 (e1.trans (e2.trans e3)) S3 r3
        | some w=>
         obtain⟨u',j1,_⟩:=i2 w q3
         rw[hn] at j1
         cases j1
      | _=>exact aa p3
   | _=>cases hd
  ·rw[if_neg hd] at p1;exact aa p1
end
def RQ(a:aeU)(o:Obj)(xs:List (List L2.Key×V)):It :=
 ⟨λi H=>H a=some (.dY o (.dT xs))/\i < xs.length,λi H v H'=>∃p b x,v= .ref p/\H p=none/\xs[i]? =some x/\H b=some (.tup (x.1.map kV))/\H'=upd H p (.tup [.ref b,x.2]),λi H=>H a=some (.dY o (.dT xs))/\xs.length<=i⟩
theorem z_{P:aeY}{w:ae1}{K:PySem.W.Frag}{es':List Expr}{kt:Nat}{pt:Pos}(a it:aeU)(o:Obj)(xs:List (List L2.Key×V)):Turn P w K (.Tuple es' kt pt) (RQ a o xs) [it] it (λi h=>∃es ep ok ov,o.data= .dict es ep/\IsItemIter h it a i es.size ep ok ov) where
 mem:=by simp
 obj:=λi h st b hb=>by
  obtain⟨es,ep,ok,ov,_,q1⟩:=st
  have e:b=it:=by simpa using hb
  subst e
  exact⟨_,q1,λv z=>by cases z⟩
 keep:=λi h h' st k=>let ⟨es,ep,ok,ov,hd,ki⟩:=st;⟨es,ep,ok,ov,hd,k it (by simp) _ ki⟩
 self:=λ_ _ _ _ _ st h=>let ⟨_,_,_,_,_,ki⟩:=st;PySem.W.kcp_self ki h
 item:=by
  intro X hP hw hK hc i pins s σ H E I hf st hg
  subst hP hw hK
  obtain⟨es,ep,ok,ov,hd,ki⟩:=st
  obtain⟨he,hi⟩:=hg
  obtain⟨es2,ep2,lo,hd2,raw,sz,keys⟩:=l7 I.hok he
  rw[hd] at hd2
  cases hd2
  have fi:=hf it (by simp)
  have hi':i < es.size:=by omega
  obtain⟨x,b,e1,e2,e3,e4⟩:=keys i hi'
  refine DA ki raw hi' λh' ho hT hsz hk=>?_
  refine⟨.ref s.heap.objs.size,rfl,?_⟩
  refine wpAny_letOwnedTupleGo_items ho λh2 he2 sb=>?_
  have hfr:H s.heap.objs.size=none:=I.hok.fresh (ao _)
  have lt:∀b o,s.heap.get? b=some o->b≠s.heap.objs.size:=λb o q=>bh (aK q)
  have ilt:it≠s.heap.objs.size:=lt _ _ ki
  have kp:∀b o,b≠it->s.heap.get? b=some o->h2.get? b=some o:=λb o b1 q=>(sb.2 b b1).trans (hk b o b1 q)
  have kt:∀b u,H b=some u->b≠s.heap.objs.size:=λb u q=>bg q hfr
  have ke:∀b u,H b=some u->b≠it:=λb u q=>bg q fi.1
  have T2:h2.get? s.heap.objs.size=some { cls:=.type "tuple",data:=.seq #[es[i].key,es[i].val] }:=(sb.2 _ (bI ilt)).trans hT
  refine⟨.ref s.heap.objs.size,upd H s.heap.objs.size (.tup [.ref b,x.2]),?_,rfl,⟨s.heap.objs.size,b,x,rfl,hfr,e1,e3,rfl⟩,⟨es,ep,_,_,hd,he2⟩,λc hb=>?_⟩
  ·refine I.L4 (s':={ s with heap:=h2 }) (ch:=[it]) rfl ?_ ?_ I.bare (λb hb=>⟨(hf b hb).2.2.2.1,(hf b hb).2.1,(hf b hb).2.2.2.2.1,(hf b hb).2.2.2.2.2⟩)
   ·refine⟨λb o q _ _ hx=>kp b o (λz=>hx (by simp[z])) q,λb o q _ _ hx=>⟨o.slots,kp b o (λz=>hx (by simp[z])) q⟩,λb o q n _=>by rw[au (lt b o q)];exact n,λb o q hx=>⟨o,kp b o (λz=>hx (by simp[z])) q⟩,λb ys q=>by rw[au (kt b _ q)];exact q,λb o y q=>by rw[au (kt b _ q)];exact q,λb ps q=>⟨#[],by rw[au (kt b _ q),q];simp⟩⟩
   ·intro c u q
    by_cases hb:c=s.heap.objs.size
    ·subst hb
     rw[aF] at q
     cases q
     exact⟨by show 2<=afb;decide,[es[i].key,es[i].val],.cons e2 (.cons e4 .nil),⟨_,T2,rfl,0,rfl⟩,λo q=>by rw[T2] at q;cases q;rfl⟩
    ·rw[au hb] at q
     refine(I.hok c u q).stay (λc' v hc g=>?_) (λc' g=>by rw[au (kt c' _ g)];exact g) λc' ys g=>by rw[au (kt c' _ g)];exact g
     rcases hc with z | z
     ·subst z;exact kp _ _ (ke _ _ q) g
     ·exact kp _ _ (ke _ _ z) g
  ·have z:c=it:=by simpa using hb
   rw[z,au ilt];exact fi.1
 done:=by
  intro X hP hw hK hc i pins s σ H E I hf st hg
  subst hP hw hK
  obtain⟨es,ep,ok,ov,hd,ki⟩:=st
  obtain⟨he,hi⟩:=hg
  obtain⟨es2,ep2,lo,hd2,raw,sz,keys⟩:=l7 I.hok he
  rw[hd] at hd2
  cases hd2
  obtain⟨f0,f1,f2,f3,f4,f5⟩:=hf it (by simp)
  exact GW (I.ok.hd hc) ki raw (by omega) λh' eb=>⟨rfl,I.turned (t':=s.toks) (λb ob hb e=>eb b ob hb e) f0 f1 f3 f4 f5⟩
structure M0(X:Cx)(o:Expr)(m:Str)(apos cpos:Pos):Prop where
 base:attributeBase o m X.env (eval o X.env)=eval o X.env
 line:(apos.endLine == cpos.line)=true
section
variable {X:Cx} {es':List Expr} {kt:Nat} {pt:Pos}
def PU(te:TE):TI:=λσ H R=>te σ H λx H1=>∃a xs,x= .ref a/\((H1 a=some (.dT xs)/\∀o,R (RQ a o xs) (upd H1 a (.dY o (.dT xs))))\/∃o,H1 a=some (.dY o (.dT xs))/\R (RQ a o xs) H1)
theorem yg{pins:List (aeU×Obj)}{σ:St}{H:Hp}{s:aeZ}{R:It->Hp->Prop}{E:ae0->aeZ->Prop}{a:aeU}{o:Obj}{xs:List (List L2.Key×V)}(I:Inv X pins σ H s)(e:H a=some (.dY o (.dT xs)))(r:R (RQ a o xs) H) :
  afd (model X.prog X.w) X.A (call (.builtin "dict.items") [.ref a]) (λv s1=>afd (model X.prog X.w) X.A (pyIter v) (VL X pins σ (.Tuple es' kt pt) R) E s1) E s:=by
 obtain⟨es,ep,lo,hd,raw,sz,keys⟩:=l7 I.hok e
 refine Dy lo raw ?_
 obtain⟨o1,a1,a2,a3⟩:=raw
 refine Dz (es:=es) (ep:=ep) ⟨_,br _ rfl,rfl,rfl⟩ ⟨o1,aS _ a1,a2,a3⟩ ?_
 refine⟨_,[_],_,RQ a o xs,H,rfl,I.kept (t':=s.toks) λb ob q=>aS _ (aS _ q),z_ a _ o xs,⟨es,ep,_,_,hd,br _ rfl⟩,λb hb=>?_,r⟩
 rw[List.mem_singleton.mp hb]
 exact I.vo (by rw[GV];exact vY _) (I.hok.fresh (by rw[GV];exact vY _))
theorem GZ{e:Expr}{te:TE}{apos cpos:Pos}(he:PE X e te)(m:M0 X e "items" apos cpos):PI X (.Tuple es' kt pt) (.Call (.Attribute e "items" apos) [] [] cpos) (PU te):=by
 intro pins s σ H R I h
 refine wpAny_Call_method m.base rfl m.line PySem.F.plainAttrs_dict PySem.F.slot_dict_items PySem.F.type_dict_items (a7 (he pins s σ H _ I h) λu s1 ⟨x,H1,I1,rx,a,xs,ex,q⟩=>?_)
 subst ex
 obtain rfl:u=ax a:=rx
 have d:Of H1 a:=by
  rcases q with ⟨e1,_⟩ | ⟨o,e1,_⟩
  ·exact .inr ⟨xs,.inl e1⟩
  ·exact .inr ⟨xs,.inr ⟨o,e1⟩⟩
 obtain⟨t1,t2,_⟩:=pg I1 d
 refine⟨t1,t2,jH rfl (show afd _ _ (evalArgs (jM "dict.items") true [] []) _ _ _ from ?_)⟩
 refine PyProof.Rows.evalArgs_none ?_
 rcases q with ⟨e1,k⟩ | ⟨o,e1,k⟩
 ·obtain⟨o,_,I2⟩:=GL I1 e1
  exact yg I2 aF (k o)
 ·exact yg I1 e1 k
def eK:List (List L2.Key×Wv)->Option (List Wv)
 | []=>some []
 | kv::r=>(match kO kv.1,eK r with | some ns,some l=>some (.tup [.tup (ns.map Wv.int),kv.2]::l) | _,_=>none)
def Aa(w:Wv)(st:Hs):Re V':=match w with
 | .ref l=>(match st[l]? with
  | some (.bu kvs)=>(match eK kvs with | some ws=> .ok (none,ws) (st.set l (.fW kvs)) | none=> .bad)
  | some (.fW kvs)=>(match eK kvs with | some ws=> .ok (none,ws) st | none=> .bad)
  | _=> .bad)
 | _=> .bad
def jQ(g:GE):RP:=λρ st=>(g ρ st).bind Aa
theorem sC:∀{kvs:List (List L2.Key×Wv)}{ws:List Wv},eK kvs=some ws->ws.length=kvs.length/\∀(i:Nat)(h:i < ws.length),∃kv ns,kvs[i]? =some kv/\kO kv.1=some ns/\ws[i]= .tup [.tup (ns.map Wv.int),kv.2]
 | [],ws,e=>by cases e;exact⟨rfl,λi h=>by cases h⟩
 | k::ks,ws,e=>by
  unfold eK at e
  cases q1:kO k.1 with
  | none=>rw[q1] at e;cases e
  | some ns=>
   cases q2:eK ks with
   | none=>rw[q1,q2] at e;cases e
   | some l=>
    rw[q1,q2] at e
    cases e
    obtain⟨h1,h2⟩:=sC q2
    refine⟨by simp[h1],λi h=>?_⟩
    cases i with
    | zero=>exact⟨k,ns,rfl,q1,rfl⟩
    | succ i=>exact h2 i (by simpa using h)
theorem yh{κ:Type}{K:PySem.W.Frag}{m:Mp}{H:Hp}:∀{kvs:List (κ×Wv)}{xs:List (κ×V)},RelK K m H kvs xs->∀{i:Nat}{kv:κ×Wv},kvs[i]? =some kv->∃v,xs[i]? =some (kv.1,v)/\ag K m H kv.2 v
 | [],xs,h,i,kv,e=>by cases e
 | p::r,xs,h,0,kv,e=>by
  obtain⟨v,t,rfl,h1,h2⟩:=h.cons_inv
  cases e
  exact⟨v,rfl,h1⟩
 | p::r,xs,h,i+1,kv,e=>by
  obtain⟨v,t,rfl,h1,h2⟩:=h.cons_inv
  exact yh h2 (i:=i) e
theorem yi{m1:Mp}{H1:Hp}{a:aeU}{o:Obj}{kvs:List (List L2.Key×Wv)}{xs:List (List L2.Key×V)}{ws:List Wv}(e:H1 a=some (.dY o (.dT xs)))(r:RelK X.K m1 H1 kvs xs)(hk:eK kvs=some ws):Gy X (none,ws) m1 H1 (RQ a o xs):=by
 obtain⟨l1,g1⟩:=sC hk
 have l2:ws.length=xs.length:=by rw[l1,r.length]
 refine⟨λk H m' st e' S c h=>⟨e'.dY _ _ _ e,by rw[<-l2];exact h⟩,λk H m' st e' S c h=>⟨e'.dY _ _ _ e,by rw[<-l2];exact nX h.symm⟩,λk h H v H' m' st e' S c y=>?_⟩
 obtain⟨p,b,x,rfl,fr,y1,y2,rfl⟩:=y
 obtain⟨kv,ns,f1,f2,f3⟩:=g1 k h
 obtain⟨u,f4,f5⟩:=yh r f1
 rw[y1] at f4
 cases f4
 have eU:Ext X.K m' H m' (upd H p (.tup [.ref b,u])):=Ext.gz (.inl fr)
 refine⟨eU,S.fresh fr,?_⟩
 rw[f3]
 rw[qW f2] at y2
 unfold ag
 refine⟨p,_,rfl,aF,ah.cons ?_ (ah.cons (ag.mono (e'.trans eU) _ _ f5) ah.nil)⟩
 unfold ag
 exact⟨b,_,rfl,eU.tup _ _ y2,ah.ints ns⟩
theorem DE{e:Expr}{g:GE}{apos cpos:Pos}(h:JE X e g)(m:M0 X e "items" apos cpos):Wa X (.Tuple es' kt pt) (.Call (.Attribute e "items" apos) [] [] cpos) (jQ g):=by
 refine⟨_,GZ aE m,λρ st σ H m Q S R p=>?_⟩
 refine h.go S R (aw.bind p) λw st1 v m1 H1 p1 e1 S1 rw'=>?_
 unfold Aa at p1
 cases w with
 | ref l=>
  unfold ag at rw'
  obtain⟨a,rfl,ha⟩:=rw'
  dsimp only at p1
  cases el:st1[l]? with
  | none=>rw[el] at p1;exact aa p1
  | some ob=>
   rw[el] at p1
   cases ob with
   | bu kvs=>
    dsimp only at p1
    cases ek:eK kvs with
    | none=>rw[ek] at p1;exact aa p1
    | some ws=>
     rw[ek] at p1
     obtain⟨xs,h1,h2⟩:=(show ∃ys,H1 a=some (.dT ys)/\RelK X.K m1 H1 kvs ys from S1.obj _ _ _ ha el)
     refine⟨a,xs,rfl,.inl ⟨h1,λo=>?_⟩⟩
     have ex:Ext X.K m1 H1 m1 (upd H1 a (.dY o (.dT xs))):=Ext.gz (.inr (.inr (.inr ⟨_,h1⟩)))
     have S2:bq X.K m1 (st1.set l (.fW kvs)) (upd H1 a (.dY o (.dT xs))):=S1.i7 ha el rfl ⟨o,xs,aF,h2.mono ex⟩
     exact p1 m1 _ _ (e1.trans ex) S2 trivial (yi aF (h2.mono ex) ek)
   | fW kvs=>
    dsimp only at p1
    cases ek:eK kvs with
    | none=>rw[ek] at p1;exact aa p1
    | some ws=>
     rw[ek] at p1
     obtain⟨o,xs,h1,h2⟩:=(show ∃o ys,H1 a=some (.dY o (.dT ys))/\RelK X.K m1 H1 kvs ys from S1.obj _ _ _ ha el)
     exact⟨a,xs,rfl,.inr ⟨o,h1,p1 m1 _ _ e1 S1 trivial (yi h1 h2 ek)⟩⟩
   | _=>exact aa p1
 | _=>exact aa p1
end
def Itv(K:PySem.W.Frag)(a:aeU)(n:Nat):It :=
 ⟨λi H=>∃xs,kC K H a xs/\xs.length=n/\i < n,λi H x H'=>H'=H/\∀xs,kC K H a xs->xs[n - 1 - i]? =some x,λi _=>n=i⟩
theorem G0{P:aeY}{w:ae1}{K:PySem.W.Frag}{tg:Expr}(a it:aeU)(n:Nat):Turn P w K tg (Itv K a n) [it] it (λi h=>h.IsRevIter it a ((n:Int) - 1 - i)) where
 mem:=by simp
 obj:=λi h st b hb=>by
  have e:b=it:=by simpa using hb
  subst e
  obtain⟨o,e,c,d⟩:=st
  exact⟨o,e,λv z=>by rw[d] at z;cases z⟩
 keep:=λi h h' st k=>st.at λo e=>k it (by simp) o e
 item:=by
  intro X hP hw hK hc i pins s σ H E I hf st hg
  subst hP hw hK
  obtain⟨xs,hq,hn,hi⟩:=hg
  obtain⟨its,rv,p,hz⟩:=I.list hq
  have hx:xs[n - 1 - i]? =some (xs[n - 1 - i]'(by omega)):=cu (by omega)
  obtain⟨u,hu,ru⟩:=rv.get hx
  obtain⟨f0,f1,f2,f3,f4,f5⟩:=hf it (by simp)
  have ei:(n:Int) - 1 - i=((n - 1 - i:Nat):Int):=by omega
  have st2:s.heap.IsRevIter it a ((n - 1 - i:Nat):Int):=by rw[<-ei];exact st
  refine wpAny_pyNext_rev_item st2 p.isList (x:=u) (by simpa using hu) λh' st' sb=>?_
  have st3:h'.IsRevIter it a ((n:Int) - 1 - ((i+1:Nat):Int)):=by
   have e:(n:Int) - 1 - ((i+1:Nat):Int)=((n - 1 - i:Nat):Int) - 1:=by omega
   rw[e];exact st'
  have I1:Inv X pins σ H { s with heap:=h' }:=I.turned (t':=s.toks) (λb o hb e=>(sb.2 b hb).trans e) f0 f1 f3 f4 f5
  obtain⟨o,e,c,d⟩:=id st'
  exact⟨u,rfl,qe (s:={ s with heap:=h' }) e c d (by decide) ⟨_,H,I1,ru,⟨rfl,λys hy=>by rw[I.xj hy hq];exact hx⟩,st3,λb hb=>(hf b hb).1⟩⟩
 done:=by
  intro X hP hw hK hc i pins s σ H E I hf st hg
  subst hP hw hK
  have hg:n=i:=hg
  obtain⟨f0,f1,f2,f3,f4,f5⟩:=hf it (by simp)
  have st2:s.heap.IsRevIter it a (-1):=by
   have e:(n:Int) - 1 - i= -1:=by omega
   rw[<-e];exact st
  exact wpAny_pyNext_rev_end (I.ok.hd hc) st2 λh' eb=>⟨rfl,I.turned (t':=s.toks) (λb o hb e=>eb b o hb e) f0 f1 f3 f4 f5⟩
 self:=λ_ _ _ _ _ st h=>wpAny_pyIter_revIter st h
section
variable {X:Cx}
def X_(K:PySem.W.Frag)(ta:TA):TI:=λσ H R=>ta σ H λvs H1=>∃a xs,vs=[.ref a]/\kC K H1 a xs/\R (Itv K a xs.length) H1
theorem boot_reversed:ae4 "reversed"=some (.type "reversed"):=by decide+kernel
theorem PV{tg:Expr}{p q:Pos}{l:Expr}{ta:TA}(hg:Gl X "reversed")(hm:X.mg "reversed"=none)(ha:PA X [l] ta)(hst:afc [l] X.env=[(false,eval l X.env)]) :
  PI X tg (.Call (.Name "reversed" p) [l] [] q) (X_ X.K ta):=by
 intro pins s σ H R I h
 refine Call_ (oZ I hg hm boot_reversed (vq (a7 (ha q pins s σ H _ I h) λus s1 ⟨vs,H1,I1,r1,q1⟩=>?_) hst rfl))
 obtain⟨a,xs,e,hq,k⟩:=q1
 subst e
 cases r1 with
 | cons r rr=>
  cases rr
  cases r
  obtain⟨its,rv,pl,hz⟩:=I1.list hq
  have hl:=rv.length
  refine call_reversed_list pl.isList (wpAny_pyIter_revIter (l:=a) (i:=(xs.length:Int) - 1) ⟨_,br _ rfl,rfl,by simp[revObj,hl]⟩ ?_)
  refine⟨s1.heap.objs.size,[s1.heap.objs.size],_,_,H1,rfl,I1.kept (t':=s1.toks) λb o q=>aS _ q,G0 a _ xs.length,⟨_,br _ rfl,rfl,by simp[revObj,hl]⟩,λb hb=>?_,k⟩
  rw[List.mem_singleton.mp hb]
  exact I1.vo (ao _) (I1.hok.fresh (ao _))
def Mz(i:Nat)(ga:GA)(gb:GS):GS:=λρ st=>(ga ρ st).a7 ρ λws st1=>match ws with
 | [.ref l]=>(match aq st1 l with | some all=>forL i gb l all all.reverse ρ st1 | none=> .bad)
 | _=> .bad
theorem K'(i:Nat){x:Str}{l:Expr}{body:List Stmt}{ga:GA}{gb:GS}{pos pos' p q:Pos}(hN:X.N.Nodup)(hp:PassesOwn (model X.prog X.w) X.A X.env X.xe)(hc:X.calm=true)(hg:Gl X "reversed")(hm:X.mg "reversed"=none)(ha:JA X [l] ga)(hst:afc [l] X.env=[(false,eval l X.env)])(hb:nL X body gb)
  (hx:X.N[i]? =some x)(hlo:Loc X.env.scope x)(hf:X.fn x=true\/X.env.scope.names.lookup x=some .local):JS X (.For (.Name x pos') (.Call (.Name "reversed" p) [l] [] q) body [] pos) (Mz i ga gb):=by
 refine JS.of (mL hp hc (PV hg hm mC hst) (lJ hN hx hlo hf) dJ (λ_=>rfl)) λρ st σ H m D S R p=>?_
 refine ha.go S R (aA.bW R p) λws st1 vs m1 H1 p1 e1 S1 rs=>?_
 match ws,rs,p1 with
 | [],rs,p1=>exact aa p1
 | x::y::t,rs,p1=>cases x<;>exact aa p1
 | [w],rs,p1=>
  obtain⟨v,rfl,rw'⟩:=kH rs
  cases w with
  | ref l=>
   have p1':aA X m H (match aq st1 l with | some all=>forL i gb l all all.reverse ρ st1 | none=> .bad) D:=p1
   unfold ag at rw'
   obtain⟨a,rfl,hla⟩:=rw'
   cases el:aq st1 l with
   | none=>rw[el] at p1';exact aa p1'
   | some ws=>
    rw[el] at p1'
    obtain⟨zd,q0,r0⟩:=S1.read hla el
    refine⟨a,zd,rfl,q0,?_⟩
    have len0:ws.length=zd.length:=r0.length
    have lr:ws.reverse.length=ws.length:=List.length_reverse
    let Pv:Nat->St->Hp->Prop:=λk σ H=>∃ρ st m',Ext X.K m1 H1 m' H/\bq X.K m' st H/\az X.K m' H ρ σ/\aq st l=some ws/\aA X m' H (forL i gb l ws (ws.reverse.drop k) ρ st) D
    refine⟨λk n σ H=>n=ws.length - k/\k<=ws.length/\Pv k σ H,⟨ws.length,by simp,bJ _,ρ,st1,m1,Ext.refl,S1,R.mono e1,el,aA.shift p1' e1⟩,?_⟩
    rintro k n σ2 H2 ⟨rfl,hk,ρ2,st2,m2,e2,S2,R2,l2,p2⟩
    obtain⟨xs,hq,rws⟩:=S2.read (e2.pre _ _ hla) l2
    have hlen:=rws.length
    by_cases hlt:k < ws.length
    ·have hlt':k < ws.reverse.length:=by omega
     refine .inr ⟨⟨xs,hq,by omega,by omega⟩,Pv (k+1),λσ' H' p'=>⟨ws.length - (k+1),by omega,rfl,hlt,p'⟩,λx H' y=>?_⟩
     obtain⟨ee,y⟩:=y
     subst ee
     have ey:=y xs hq
     have ed:ws.reverse.drop k=ws.reverse[k]::ws.reverse.drop (k+1):=pv hlt'
     have eg0:ws.reverse[k]=ws[ws.length - 1 - k]'(by omega):=by rw[List.getElem_reverse]
     obtain⟨x',ex',pq⟩:=rws.get (i:=ws.length - 1 - k) (w:=ws[ws.length - 1 - k]'(by omega)) (cu (by omega))
     rw[<-len0,ex'] at ey
     cases ey
     rw[ed,eg0] at p2
     refine hb _ st2 _ _ m2 _ S2 (R2.set i pq) ?_
     unfold forL at p2
     cases eg:gb (ρ2.set i (some (ws[ws.length - 1 - k]'(by omega)))) st2 with
     | nx ρ3 st3=>
      rw[eg] at p2
      by_cases c:aq st3 l=some ws
      ·simp only[if_pos c] at p2
       exact λσ3 m3 H3 e3 S3 R3=>⟨ρ3,st3,m3,e2.trans e3,S3,R3,c,aA.shift p2 e3⟩
      ·simp only[if_neg c] at p2;exact aa p2
     | ct ρ3 st3=>
      rw[eg] at p2
      by_cases c:aq st3 l=some ws
      ·simp only[if_pos c] at p2
       exact λσ3 m3 H3 e3 S3 R3=>⟨ρ3,st3,m3,e2.trans e3,S3,R3,c,aA.shift p2 e3⟩
      ·simp only[if_neg c] at p2;exact aa p2
     | bk ρ3 st3=>rw[eg] at p2;exact p2
     | rt w3 st3=>rw[eg] at p2;exact p2
     | err c3 ρ3 st3=>rw[eg] at p2;exact p2
     | bad=>rw[eg] at p2;exact p2
    ·have e:k=ws.length:=by omega
     subst e
     rw[<-lr,rP] at p2
     exact .inl ⟨by show zd.length=ws.length;omega,p2 σ2 m2 H2 Ext.refl S2 R2⟩
  | _=>exact aa p1
end
section
variable {prog:aeY} {w:ae1} {K:Type} [DecidableEq K] {knd:HeapKind prog w K} {A:aeV} {E:ae0->aeZ->Prop} {s:aeZ} {a b:aeU} {xs ys:List (K×aeU×ae0)}
theorem u5{id:String}{f:K->Bool}{Q:Bool->aeZ->Prop}(hu:knd.room A)(la:(a == sysModules)=false)(lb:(b == sysModules)=false)(hA:s.heap.DictOfH knd a xs)(hB:s.heap.DictOfH knd b ys)
  (hf:∀x∈xs,∀y∈ys,x.1=y.1->∀Q:Bool->aeZ->Prop,Q (f x.1) s->afd (model prog w) A (eqBool x.2.2 y.2.2) Q E s)
  (hQ:Q (decide (xs.length=ys.length)&&xs.all λx=>(atKey ys x.1).isSome&&f x.1) s):afd (model prog w) A (PX id a b) Q E s:=by
 obtain⟨oa,ea,epa,a1,a2,a3,a4,a5,a6⟩:=hA
 obtain⟨ob,eb,epb,b1,b2,b3,b4,b5,b6⟩:=hB
 have za:ea.size=xs.length:=size_of_entries a4
 have zb:eb.size=ys.length:=size_of_entries b4
 unfold PX vZ
 rw[if_neg (by rw[la];exact bt),if_neg (by rw[lb];exact bt)]
 refine afe (afk (afe (afk (afe (aff a1 a3 (afe (aff b1 b3 ?_)))))))
 by_cases hl:xs.length=ys.length
 ·rw[if_neg (by rw[za,zb,hl];simp)]
  rw[decide_eq_true hl,Ab] at hQ
  refine afe (wpAny_dictEpoch a1 a3 (afe ?_))
  rw[K7]
  simp only[Std.Legacy.Range.size,Nat.sub_zero,Nat.add_sub_cancel,Nat.div_one]
  generalize hg:(λx:K×aeU×ae0=>(atKey ys x.1).isSome&&f x.1)=g at hQ
  refine wpAny_forIn_list _ (λrest st s'=>s'=s/\st=(none,())/\∃i,rest=List.range' i (xs.length - i)/\i<=xs.length/\xs.all g=(xs.drop i).all g) _ ?_ ?_ _ _ ⟨rfl,rfl,0,by rw[za,Nat.sub_zero],bJ _,rfl⟩
  ·rintro x rest st s' ⟨rfl,rfl,i,hr,hi,hall⟩
   have hlt:i < xs.length:=by
    rcases Nat.lt_or_ge i xs.length with h | h
    ·exact h
    ·rw[Kx h] at hr;simp at hr
   obtain⟨rfl,hrest⟩:x=i/\rest=List.range' (i+1) (xs.length - (i+1)):=by
    have e:xs.length - i=(xs.length - (i+1))+1:=by omega
    rw[e,List.range'_succ] at hr
    injection hr with h1 h2
    exact⟨h1,h2⟩
   rw[pv hlt,fb] at hall
   have hm:xs[x]∈xs:=List.getElem_mem hlt
   refine afe (aff a1 a3 ?_)
   rw[entry_at a4 x,cu hlt]
   refine afe (afg ?_)
   have next:xs.all g=(xs.drop (x+1)).all g->∀Q':ForInStep (Option Bool×Unit)->aeZ->Prop,Q' (.yield (none,())) s'->afd (model prog w) A (do
     let Ja <-dictEpoch a
     if(Ja != epa)=true then do
       (unsupported (toString id++toString ":changed-during-callback"):Sem PUnit)
       pure (rQ (none,()))
      else pure (rQ (none,()))) Q' E s':=λ_ Q' q'=>by
    refine afe (wpAny_dictEpoch a1 a3 ?_)
    rw[if_neg (by simp)]
    exact afk q'
   refine afe (wpAny_dictFind_heap (k:=xs[x].1) hu (a5 _ hm) b1 b3 b4 b5 b6 (λno=>afk ?_) λj p hj=>?_)
   ·simp only[wg,if_true]
    have gf:g xs[x]=false:=by rw[<-hg];simp only[atKey_none_of_get no];rfl
    rw[gf,AN] at hall
    rw[hall] at hQ
    exact afk (afk hQ)
   ·refine afe (aff b1 b3 ?_)
    rw[entry_at b4 j,hj]
    refine afg (hf _ hm _ (vw hj) rfl _ ?_)
    have gf:g xs[x]=f xs[x].1:=by rw[<-hg];simp only[atKey_of_get b6 hj];rfl
    cases hv:f xs[x].1 with
    | false=>
     simp only[wg,if_true]
     rw[gf,hv,AN] at hall
     rw[hall] at hQ
     exact afk (afk hQ)
    | true=>
     simp only[sy,iI,if_false]
     rw[gf,hv,Ab] at hall
     exact next hall _ ⟨rfl,rfl,x+1,hrest,hlt,hall⟩
  ·rintro st s' ⟨rfl,rfl,i,hr,hi,hall⟩
   have h0:xs.length - i=0:=by
    have:=congrArg b7 hr
    simpa using this.symm
   rw[Gf (by omega),List.all_nil] at hall
   rw[hall] at hQ
   exact afk hQ
 ·rw[if_pos (by rw[za,zb];simpa using hl)]
  rw[decide_eq_false hl,AN] at hQ
  exact afe (wpAny_rule (afk hQ))
end
section
variable {prog:aeY} {w:ae1} {K:Type} [DecidableEq K] {knd:HeapKind prog w K} {A:aeV} {E:ae0->aeZ->Prop} {s:aeZ} {a b:aeU} {xs ys:List (K×aeU×ae0)}
theorem La{f:K->Bool}{Q:ae0->aeZ->Prop}(hr:A.units < cLine)(hu:knd.room A.in1)(la:(a == sysModules)=false)(lb:(b == sysModules)=false)(hA:s.heap.DictOfH knd a xs)(hB:s.heap.DictOfH knd b ys)
  (hf:∀E:ae0->aeZ->Prop,∀x∈xs,∀y∈ys,x.1=y.1->∀Q:Bool->aeZ->Prop,Q (f x.1) s->afd (model prog w) A.in1 (eqBool x.2.2 y.2.2) Q E s)
  (hQ:Q (.bool (decide (xs.length=ys.length)&&xs.all λx=>(atKey ys x.1).isSome&&f x.1)) s):afd (model prog w) A (ae7 .Eq (.ref a) (.ref b)) Q E s:=by
 have tA:s.TypeIs (.ref a) "dict":=hA.typeIs
 have tB:s.TypeIs (.ref b) "dict":=hB.typeIs
 refine(show afd (model prog w) A (richCompare .Eq (.ref a) (.ref b)) Q E s from wpAny_richCompare_same_room tA tB PySem.F.slot_dict_eq (wpAny_call_entry PySem.F.slot_dict_eq tA PySem.F.entry_dict_eq ?_ (PySem.F.args_dict_eq_2 _ _)) hr)
 refine(show afd _ _ (Ac "__eq__" ⟨[.ref a,.ref b],[]⟩ >>= _) _ _ s from afe ?_)
 unfold Ac
 refine afe (wpAny_notOrdered_dict tA (show afd _ _ (pure (ax a,ax b)) _ _ s from afk ?_))
 refine afe (wpAny_isInstance tB isSubtype_dict_dict ?_)
 simp only[sy,iI,if_false]
 refine afe (afk (afe (afk (afe (u5 hu la lb hA hB (hf _) ?_)))))
 refine afk ⟨_,rfl,(λz=>nomatch z),?_⟩
 rw[show ∀c:Bool,(c == true)=c from by decide]
 exact hQ
theorem slot_dict_ne:Slot "dict" (cmpInfo .NotEq).2.1 "dict.__ne__" :=
 .of (owner:="dict") (n:="__ne__") (by rw[typeLookup_type,builtinLookup_eq_fast];kernel_rfl) (by decide+kernel) (by decide+kernel) (by decide+kernel) (by first | exact .inl (by decide+kernel) | exact .inr (by decide+kernel)) (by rw[ae9];kernel_rfl)
theorem entry_dict_ne:entryFor table "dict.__ne__"=some Builtin.«dict.__ne__»:=entryFor_of_tree (by kernel_rfl)
theorem args_dict_ne_2(a b:ae0):argsOk "dict.__ne__" ⟨[a,b],[]⟩:=by
 unfold argsOk;rw[signature?_of (id:="dict.__ne__") (n:=['_','_','e','n','_','_']) (o:=['t','c','i','d']) (by kernel_rfl) PySem.F.owner_dict];kernel_rfl
theorem Lb{f:K->Bool}{Q:ae0->aeZ->Prop}(hr:A.units < cLine)(hu:knd.room A.in1)(la:(a == sysModules)=false)(lb:(b == sysModules)=false)(hA:s.heap.DictOfH knd a xs)(hB:s.heap.DictOfH knd b ys)
  (hf:∀E:ae0->aeZ->Prop,∀x∈xs,∀y∈ys,x.1=y.1->∀Q:Bool->aeZ->Prop,Q (f x.1) s->afd (model prog w) A.in1 (eqBool x.2.2 y.2.2) Q E s)
  (hQ:Q (.bool (!(decide (xs.length=ys.length)&&xs.all λx=>(atKey ys x.1).isSome&&f x.1))) s):afd (model prog w) A (ae7 .NotEq (.ref a) (.ref b)) Q E s:=by
 have tA:s.TypeIs (.ref a) "dict":=hA.typeIs
 have tB:s.TypeIs (.ref b) "dict":=hB.typeIs
 refine(show afd (model prog w) A (richCompare .NotEq (.ref a) (.ref b)) Q E s from wpAny_richCompare_same_room tA tB slot_dict_ne (wpAny_call_entry slot_dict_ne tA entry_dict_ne ?_ (args_dict_ne_2 _ _)) hr)
 refine(show afd _ _ (Ac "__ne__" ⟨[.ref a,.ref b],[]⟩ >>= _) _ _ s from afe ?_)
 unfold Ac
 refine afe (wpAny_notOrdered_dict tA (show afd _ _ (pure (ax a,ax b)) _ _ s from afk ?_))
 refine afe (wpAny_isInstance tB isSubtype_dict_dict ?_)
 simp only[sy,iI,if_false]
 refine afe (afk (afe (afk (afe (u5 hu la lb hA hB (hf _) ?_)))))
 refine afk ⟨_,rfl,(λz=>nomatch z),?_⟩
 rw[show ∀c:Bool,(c == false)= !c from by decide]
 exact hQ
end
abbrev PY:=List (List L2.Key×Wv)
def pM(st:Hs)(kvs:PY):Bool:=kvs.all λkv=>(aM st 20 kv.2).isSome
def Lc(st:Hs)(k1 k2:PY)(k:List L2.Key):Bool:=match aN k1 k,aN k2 k with
 | some v,some w=>(match aM st 20 v,aM st 20 w with | some a,some b=>aT a b | _,_=>false)
 | _,_=>false
def mG(st:Hs)(k1 k2:PY):Bool:=decide (k1.length=k2.length)&&(k1.map (·.1)).all λk=>(aN k2 k).isSome&&Lc st k1 k2 k
def X'(K:PySem.W.Frag)(neg:Bool):R2:=λa b H Q=>∃m st p q k1 k2 l1 l2,bq K m st H/\a= .ref p/\b= .ref q/\Rd H p (.dT l1)/\Rd H q (.dT l2)/\RelK K m H k1 l1/\RelK K m H k2 l2/\pM st k1=true/\pM st k2=true/\Q (.bl (if neg then !mG st k1 k2 else mG st k1 k2)) H
theorem G5{H:Hp}:∀{xs:List (List L2.Key×V)}{ys:List (List L2.Key×aeU×ae0)},KT H xs ys->xs.map (·.1)=ys.map (·.1)
 | _,_,.nil=>rfl
 | _,_,.cons h t=>by rw[aB,aB,G5 t,h.1]
theorem eL{κ:Type}[DecidableEq κ]{k:κ}{w:Wv}:∀{kvs:List (κ×Wv)},aN kvs k=some w->(k,w)∈kvs
 | [],e=>by cases e
 | p::r,e=>by
  unfold aN at e
  by_cases h:p.1=k
  ·rw[if_pos h] at e
   cases e
   rw[<-h]
   exact aQ
  ·rw[if_neg h] at e
   exact aI _ (eL e)
section
variable {X:Cx}
theorem BB{m:Mp}{st:Hs}{H:Hp}{kvs:PY}{xs:List (List L2.Key×V)}{ys:List (List L2.Key×aeU×ae0)}{k:List L2.Key}{p:aeU×ae0}(r:RelK X.K m H kvs xs)(kt:KT H xs ys)(nd:(ys.map (·.1)).Nodup)(hd:pM st kvs=true)(h:(k,p)∈ys) :
  ∃w v d,aN kvs k=some w/\ag X.K m H w v/\RelV v p.2/\aM st 20 w=some d:=by
 obtain⟨j,hj⟩:=List.mem_iff_getElem?.mp h
 have ak:=atKey_of_get nd hj
 have vl:=kt.val k
 rw[ak] at vl
 obtain⟨v,ev,rv⟩:=l_ vl
 obtain⟨i1,i2⟩:=r.val k
 cases e:aN kvs k with
 | none=>rw[i1 e] at ev;cases ev
 | some w=>
  obtain⟨u,j1,j2⟩:=i2 w e
  rw[ev] at j1
  cases j1
  obtain⟨d,e2⟩:=Option.isSome_iff_exists.mp (List.all_eq_true.mp hd _ (eL e))
  exact⟨w,v,d,rfl,j2,rv,e2⟩
theorem yj{m:Mp}{st:Hs}{H:Hp}{k1 k2:PY}{l1 l2:List (List L2.Key×V)}{y1 y2:List (List L2.Key×aeU×ae0)}(r1:RelK X.K m H k1 l1)(r2:RelK X.K m H k2 l2)(t1:KT H l1 y1)(t2:KT H l2 y2) :
  (decide (y1.length=y2.length)&&y1.all λx=>(atKey y2 x.1).isSome&&Lc st k1 k2 x.1)=mG st k1 k2:=by
 have e1:y1.length=k1.length:=by rw[<-Paired.length t1,r1.length]
 have e2:y2.length=k2.length:=by rw[<-Paired.length t2,r2.length]
 have ks:k1.map (·.1)=y1.map (·.1):=by rw[r1.1,G5 t1]
 have at2:∀k,(atKey y2 k).isSome=(aN k2 k).isSome:=λk=>by
  have q:=(t2.val k).uC
  rw[Option.isSome_map] at q
  rw[<-q]
  obtain⟨i1,i2⟩:=r2.val k
  cases e:aN k2 k with
  | none=>rw[i1 e];rfl
  | some w=>obtain⟨u,j1,_⟩:=i2 w e;rw[j1];rfl
 unfold mG
 rw[e1,e2,ks,List.all_map]
 congr 1
 refine List.all_congr rfl λx=>?_
 show((atKey y2 x.1).isSome&&Lc st k1 k2 x.1)=((aN k2 x.1).isSome&&Lc st k1 k2 x.1)
 rw[at2]
theorem G6(neg:Bool)(hu:X.A.units+64 < cLine):ef X (ae7 (if neg then .NotEq else .Eq)) (X' X.K neg):=by
 intro pins s σ H a b v u Q I rx ry h
 obtain⟨m,st,p,q,k1,k2,l1,l2,S,rfl,rfl,d1,d2,r1,r2,h1,h2,hq⟩:=h
 cases rx
 cases ry
 obtain⟨z1,lo1,y1,t1,D1⟩:=mB I.hok d1
 obtain⟨z2,lo2,y2,t2,D2⟩:=mB I.hok d2
 have n1:(y1.map (·.1)).Nodup:=let ⟨_,_,_,_,_,_,_,_,n⟩:=D1;n
 have n2:(y2.map (·.1)).Nodup:=let ⟨_,_,_,_,_,_,_,_,n⟩:=D2;n
 have hf:∀E:ae0->aeZ->Prop,∀x∈y1,∀y∈y2,x.1=y.1->∀Q:Bool->aeZ->Prop,Q (Lc st k1 k2 x.1) s->afd (model X.prog X.w) X.A.in1 (eqBool x.2.2 y.2.2) Q E s:=λE x hx y hy e Q' q'=>by
  obtain⟨w,v,dw,a1,a2,a3,a4⟩:=BB (k:=x.1) (p:=x.2) (st:=st) r1 t1 n1 h1 hx
  obtain⟨w',v',Wd,b1,b2,b3,b4⟩:=BB (k:=y.1) (p:=y.2) (st:=st) r2 t2 n2 h2 hy
  rw[<-e] at b1
  obtain⟨as,q1,q2,q3⟩:=dC I S 20 w v _ dw a2 a3 a4
  obtain⟨bs,p1,p2,p3⟩:=dC I S 20 w' v' _ Wd b2 b3 b4
  have ee:Lc st k1 k2 x.1=aT dw Wd:=by unfold Lc;rw[a1,b1];dsimp only;rw[a4,b4]
  rw[ee] at q'
  exact SeqAt.eqBoolOverData X.prog X.w X.A.in1 E s _ _ dw Wd as bs Q' q1 p1 q2 p2 (by
   have:X.A.in1.units=X.A.units+1:=rfl
   have:min dw.depth Wd.depth<=dw.depth:=Nat.min_le_left _ _
   omega) q'
 cases neg with
 | false=>
  refine La (by omega) (tupleKind_room_in1 (by omega)) lo1 lo2 D1 D2 hf ?_
  rw[yj r1 r2 t1 t2]
  exact⟨.bl _,H,I,rfl,hq⟩
 | true=>
  refine Lb (by omega) (tupleKind_room_in1 (by omega)) lo1 lo2 D1 D2 hf ?_
  rw[yj r1 r2 t1 t2]
  exact⟨.bl _,H,I,rfl,hq⟩
def pN(st:Hs):Wv->Option PY
 | .ref l=>bX st[l]?
 | _=>none
def qB:fS:=λx y st=>match pN st x,pN st y with
 | some k1,some k2=>if pM st k1=true/\pM st k2=true then .ok (.bl (mG st k1 k2)) st else .bad
 | _,_=>oEq x y st
def mY:fS:=λx y st=>match pN st x,pN st y with
 | some k1,some k2=>if pM st k1=true/\pM st k2=true then .ok (.bl (!mG st k1 k2)) st else .bad
 | _,_=>zc x y st
theorem qZ{m:Mp}{st:Hs}{H:Hp}{x:Wv}{a:V}{kvs:PY}(S:bq X.K m st H)(r:ag X.K m H x a)(h:pN st x=some kvs):∃p l,a= .ref p/\Rd H p (.dT l)/\RelK X.K m H kvs l:=by
 cases x with
 | ref j=>
  unfold ag at r
  obtain⟨p,rfl,hp⟩:=r
  obtain⟨l,h1,h2⟩:=fu (X:=X) S hp h
  exact⟨p,l,rfl,h1,h2⟩
 | _=>cases h
theorem G7(hu:X.A.units+64 < cLine):jD X (ae7 .Eq) qB:=by
 obtain⟨r0,c0,k0⟩:=Mj (X:=X) hu
 refine⟨_,ef.or (G6 (X:=X) false hu) c0,λx y a b st H m Q S rx ry p=>?_⟩
 unfold qB at p
 cases e1:pN st x with
 | none=>rw[e1] at p;exact .inr (k0 x y a b st H m Q S rx ry p)
 | some k1=>
  cases e2:pN st y with
  | none=>rw[e1,e2] at p;exact .inr (k0 x y a b st H m Q S rx ry p)
  | some k2=>
   rw[e1,e2] at p
   dsimp only at p
   by_cases c:pM st k1=true/\pM st k2=true
   ·rw[if_pos c] at p
    obtain⟨p1,l1,rfl,d1,r1⟩:=qZ (X:=X) S rx e1
    obtain⟨p2,l2,rfl,d2,r2⟩:=qZ (X:=X) S ry e2
    exact .inl ⟨m,st,p1,p2,k1,k2,l1,l2,S,rfl,rfl,d1,d2,r1,r2,c.1,c.2,p _ m H Ext.refl S g_⟩
   ·rw[if_neg c] at p;exact aa p
theorem G8(hu:X.A.units+64 < cLine):jD X (ae7 .NotEq) mY:=by
 obtain⟨r0,c0,k0⟩:=Mk (X:=X) hu
 refine⟨_,ef.or (G6 (X:=X) true hu) c0,λx y a b st H m Q S rx ry p=>?_⟩
 unfold mY at p
 cases e1:pN st x with
 | none=>rw[e1] at p;exact .inr (k0 x y a b st H m Q S rx ry p)
 | some k1=>
  cases e2:pN st y with
  | none=>rw[e1,e2] at p;exact .inr (k0 x y a b st H m Q S rx ry p)
  | some k2=>
   rw[e1,e2] at p
   dsimp only at p
   by_cases c:pM st k1=true/\pM st k2=true
   ·rw[if_pos c] at p
    obtain⟨p1,l1,rfl,d1,r1⟩:=qZ (X:=X) S rx e1
    obtain⟨p2,l2,rfl,d2,r2⟩:=qZ (X:=X) S ry e2
    exact .inl ⟨m,st,p1,p2,k1,k2,l1,l2,S,rfl,rfl,d1,d2,r1,r2,c.1,c.2,p _ m H Ext.refl S g_⟩
   ·rw[if_neg c] at p;exact aa p
end
section
variable {X:Cx}
end
section
variable {prog:aeY} {w:ae1} {K:Type} [DecidableEq K] {knd:HeapKind prog w K} {A:aeV} {E:ae0->aeZ->Prop} {s:aeZ} {d:aeU} {xs:List (K×aeU×ae0)}
theorem Ad{Q:ae0->aeZ->Prop}(hm:s.heap.DictOfH knd d xs)(hsz:xs.length<=afb)(k:∀h',h'.DictOfH knd d []->fT d s.heap h'->Q .none { s with heap:=h' }) :
  afd (model prog w) A (call (.builtin "dict.clear") [.ref d]) Q E s:=by
 have ty:s.TypeIs (.ref d) "dict":=hm.typeIs
 obtain⟨o,es,ep,ho,hc,hd,he,his,hnd⟩:=id hm
 have hes:es.size<=afb:=by have e:=size_of_entries he;omega
 have M:MeetsIn prog w (Builtin.«dict.clear» ⟨[.ref d],[]⟩) (λ_ R s'=>s'=s/\∀h',h'.DictOfH knd d []->fT d s.heap h'->R (.ok (.ret .none)) { s with heap:=h' }):=.of_wp λA' R s' ⟨e,k⟩=>by
  subst e
  unfold Builtin.«dict.clear»
  refine afe ?_
  unfold PK
  refine afe (wpAny_notOrdered_dict ty (show afd _ _ (pure d) _ _ s' from afk ?_))
  refine afe (aff ho hd (afe ?_))
  unfold bearsInstanceDictMark
  refine afe (wpAny_load ho (afk ?_))
  refine afe (wpAny_updateDictKeys (hz:=hes) ho hd ?_)
  have fin:R (.ok (.ret .none)) { s' with heap:=s'.heap.update d (Obj.mapDictKeys λ_=>#[]) } :=
   k _ ⟨_,_,ep+1,mP _ ho (we (l8 hd _)),hc.mapDictKeys _,l8 hd _,rfl,(λ_ z=>by cases z),.nil⟩ (jb ..)
  split
  ·exact afe (wpAny_letGo (afk ⟨_,rfl,fin⟩))
  ·exact afk ⟨_,rfl,fin⟩
 exact call_meetsIn PySem.F.slot_dict_clear ty PySem.F.entry_dict_clear (PySem.F.args_dict_clear_1 _) M ⟨rfl,k⟩
end
section
variable {X:Cx}
def BC:V->List V->Hp->VK->Prop:=λx vs H Q=>∃l kvs,x= .ref l/\vs=[]/\H l=some (.dT kvs)/\Q .aZ (upd H l (.dT []))
theorem DF:SQ X "dict.clear" BC:=by
 intro pins s σ H x vs v us Q I rx rv h
 obtain⟨l,kvs,rfl,rfl,hH,q⟩:=h
 cases rx
 have Xq:=rv.zero
 subst Xq
 obtain⟨zz,hd,xs,rel,dd⟩:=xv I.hok hH
 refine Ad dd (by rw[<-Paired.length rel];exact zz) λh' EN hs=>?_
 obtain⟨q',es,ep,hq,h2,h3,h4,_,h5⟩:=EN
 exact⟨.aZ,_,lO (ob:=.dT []) I (by rw[hH];exact jI) hs ⟨q',hq⟩ ⟨bJ _,hd,[],.nil,q',es,ep,hq,h2,h3,h4,h5⟩,rfl,q⟩
def Ya(to:TE):TE:=λσ H Q=>to σ H λx H1=>(VP X.K "list" x H1/\EJ x [] H1 Q)\/(VP X.K "dict" x H1/\BC x [] H1 Q)
theorem PZ{o:Expr}{to:TE}{apos cpos:Pos}(ho:PE X o to)(m:M0 X o "clear" apos cpos):PE X (.Call (.Attribute o "clear" apos) [] [] cpos) (Ya (X:=X) to):=by
 intro pins s σ H Q I h
 refine wpAny_Call_method0_late m.base m.line (a7 (ho pins s σ H _ I h) λv s1 ⟨x,H1,I1,r1,z⟩=>?_)
 rcases z with ⟨ty,q1⟩ | ⟨ty,q1⟩
 ·obtain⟨h1,h2⟩:=zu I1 r1 ty
  exact⟨"list","list.clear",F.plainAttrs_list,F.slot_list_clear,F.type_list_clear,h1,h2,jH rfl (PySem.evalArgs_none (EK pins s1 σ H1 x [] v [] Q I1 r1 .nil q1))⟩
 ·obtain⟨h1,h2⟩:=zu I1 r1 ty
  exact⟨"dict","dict.clear",F.plainAttrs_dict,F.slot_dict_clear,F.type_dict_clear,h1,h2,jH rfl (PySem.evalArgs_none (DF pins s1 σ H1 x [] v [] Q I1 r1 .nil q1))⟩
def Ld(w:Wv)(st:Hs):Re Wv:=match w with
 | .ref l=>(match st[l]? with
  | some (.lst _)=> .ok .aZ (st.set l (.lst []))
  | some (.bu _)=> .ok .aZ (st.set l (.bu []))
  | _=> .bad)
 | _=> .bad
def G_(g:GE):GE:=λρ st=>(g ρ st).bind Ld
theorem Ha{o:Expr}{g:GE}{apos cpos:Pos}(h:JE X o g)(m:M0 X o "clear" apos cpos):JE X (.Call (.Attribute o "clear" apos) [] [] cpos) (G_ g) :=
 JE.of (PZ aE m) λρ st σ H m Q S R p=>by
  refine h.go S R (aw.bind p) λw st1 v m1 H1 p1 e1 S1 r1=>?_
  cases w with
  | ref l=>
   unfold ag at r1
   obtain⟨a,rfl,ha⟩:=r1
   unfold Ld at p1
   dsimp only at p1
   cases q2:st1[l]? with
   | none=>rw[q2] at p1;exact aa p1
   | some ob=>
    rw[q2] at p1
    cases ob with
    | lst ws=>
     obtain⟨xs,y1,y2⟩:=(show ∃ys,H1 a=some (.lst ys)/\ah X.K m1 H1 ws ys from S1.obj _ _ _ ha q2)
     have ex:Ext X.K m1 H1 m1 (upd H1 a (.lst [])):=Ext.gz (.inr (.inl ⟨_,y1⟩))
     exact .inl ⟨.inl ⟨rfl,xs,.inl (.inl y1)⟩,a,xs,rfl,rfl,y1,p1 .aZ m1 _ (e1.trans ex) (S1.i7 ha q2 rfl ⟨[],aF,ah.nil⟩) (by unfold ag;rfl)⟩
    | bu kvs=>
     obtain⟨xs,y1,y2⟩:=(show ∃ys,H1 a=some (.dT ys)/\RelK X.K m1 H1 kvs ys from S1.obj _ _ _ ha q2)
     have ex:Ext X.K m1 H1 m1 (upd H1 a (.dT [])):=Ext.gz (.inr (.inr (.inr ⟨_,y1⟩)))
     exact .inr ⟨.inr (.inr (.inl ⟨rfl,.inr ⟨xs,y1⟩⟩)),a,xs,rfl,rfl,y1,p1 .aZ m1 _ (e1.trans ex) (S1.i7 ha q2 rfl ⟨_,aF,RelK.nil⟩) (by unfold ag;rfl)⟩
    | _=>exact aa p1
  | _=>exact aa p1
def tY(tb:Tab)(tt:vR):List Wv->Hs->Re Wv
 | [.ref l,.ty T],st=>if T="dict"/\(bX st[l]?).isSome=true then .ok (.bl true) st else fX tb tt [.ref l,.ty T] st
 | ws,st=>fX tb tt ws st
theorem Hd:cA X (.builtin "isinstance") (λvs H Q=>∃a kvs,vs=[.ref a,.ty "dict"]/\Rd H a (.dT kvs)/\Q (.bl true) H):=by
 intro pins s σ H xs us Q I r h
 obtain⟨a,kvs,rfl,e,q⟩:=h
 obtain⟨u,u',rfl,r1,r2⟩:=vals2 r
 cases r1
 cases r2
 obtain⟨t1,_,_⟩:=pg I (.inr ⟨kvs,e⟩)
 exact call_isinstance_yes (Tx:="dict") t1 (by kernel_rfl) (by rw[ae9];kernel_rfl) ⟨.bl true,H,I,rfl,q⟩
theorem P0{tb:Tab}{tt:vR}{tc:Tab}(O:TabOk X.K tb tt tc):cO X (.builtin "isinstance") (tY tb tt):=by
 obtain⟨r0,c0,k0⟩:=F0 (X:=X) O
 refine⟨_,Hd.or c0,λws vs st H m Q S r p=>?_⟩
 have old:cC X.K m H (fX tb tt ws st) Q->r0 vs H Q:=λp=>k0 ws vs st H m Q S r p
 unfold tY at p
 split at p
 ·rename_i l T
  by_cases c:T="dict"/\(bX st[l]?).isSome=true
  ·rw[if_pos c] at p
   obtain⟨rfl,c2⟩:=c
   obtain⟨kvs,e⟩:=Option.isSome_iff_exists.mp c2
   obtain⟨v,v',rfl,r1,r2⟩:=Fq r
   unfold ag at r1 r2
   obtain⟨a,rfl,ha⟩:=r1
   subst r2
   obtain⟨xs,h1,_⟩:=fu (X:=X) S ha e
   exact .inl ⟨a,xs,rfl,h1,p _ m H Ext.refl S (by unfold ag;rfl)⟩
  ·rw[if_neg c] at p
   exact .inr (old p)
 ·exact .inr (old p)
end
def sD(gd gk:GE):GE:=λρ st=>(gd ρ st).bind λd st1=>match d with
 | .ref l=>if(bX st1[l]?).isSome=true then(gk ρ st1).bind λk st2=>(match iH k,bX st2[l]? with
  | some kk,some kvs=> .ok ((aN kvs kk).getD .aZ) st2
  | _,_=> .bad) else .bad
 | _=> .bad
section
variable {X:Cx}
theorem Hf{o e:Expr}{gd gk:GE}{apos cpos:Pos}(hu:X.A.units+1 < cLine)(ho:JE X o gd)(he:JE X e gk)(M:M1 X o "get" apos e cpos):JE X (.Call (.Attribute o "get" apos) [e] [] cpos) (sD gd gk) :=
 JE.of (EV hu aE aE M) λρ st σ H m Q S R p=>by
  refine ho.go S R (aw.bind p) λd st1 v m1 H1 p1 e1 S1 r1=>?_
  cases d with
  | ref l=>
   dsimp only at p1
   by_cases hd:(bX st1[l]?).isSome=true
   ·rw[if_pos hd] at p1
    unfold ag at r1
    obtain⟨a,rfl,ha⟩:=r1
    obtain⟨kv1,hk1⟩:=Option.isSome_iff_exists.mp hd
    obtain⟨Yb,Yc,_⟩:=fu S1 ha hk1
    refine⟨a,rfl,.inr ⟨Yb,Yc⟩,?_⟩
    refine he.go S1 (R.mono e1) ((aw.bind p1).imp e1 λ_ _ q=>q) λk st2 y m2 H2 p2 e2 S2 r2=>?_
    cases q1:iH k with
    | none=>rw[q1] at p2;exact aa p2
    | some kk=>
     cases q2:bX st2[l]? with
     | none=>rw[q1,q2] at p2;exact aa p2
     | some kvs=>
      rw[q1,q2] at p2
      have ha2:m2[l]? =some a:=e2.pre _ _ ha
      obtain⟨xs,y1,y2⟩:=fu S2 ha2 q2
      obtain⟨b,rfl,hb⟩:=hV r2 q1
      dsimp only at p2
      refine⟨_,.inr ⟨xs,kk,b,y1,rfl,hb,rfl⟩,?_⟩
      obtain⟨i1,i2⟩:=y2.val kk
      cases q3:aN kvs kk with
      | none=>
       rw[i1 q3]
       rw[q3] at p2
       exact p2 .aZ m2 H2 (e1.trans e2) S2 (by unfold ag;rfl)
      | some w=>
       obtain⟨u,j1,j2⟩:=i2 w q3
       rw[j1]
       rw[q3] at p2
       exact p2 u m2 H2 (e1.trans e2) S2 j2
   ·rw[if_neg hd] at p1;exact aa p1
  | _=>exact aa p1
end
section
variable {X:Cx}
open Classical in
end
section
variable {X:Cx}
def P4(neg:Bool):R2:=λa b H Q=>∃p c kvs k,a= .ref c/\H c=some (.tup (k.map kV))/\b= .ref p/\Rd H p (.dT kvs)/\Q (.bl ((iF kvs k).isSome != neg)) H
theorem BD{H:Hp}{kvs:List (List L2.Key×V)}{xs:List (List L2.Key×aeU×ae0)}(r:KT H kvs xs)(k:List L2.Key):(atKey xs k).isSome=(iF kvs k).isSome:=by
 have v:=r.val k
 cases e:atKey xs k with
 | none=>rw[e] at v;rw[pL v];rfl
 | some p=>rw[e] at v;obtain⟨w,ew,_⟩:=l_ v;rw[ew];rfl
theorem P5(hu:X.A.units+1 < cLine):ef X (ae7 .In) (P4 false):=by
 intro pins s σ H a b v u Q I rx ry h
 obtain⟨p,c,kvs,k,rfl,hk,rfl,hd,q⟩:=h
 cases rx
 cases ry
 obtain⟨z,lo,xs,kt,dd⟩:=mB I.hok hd
 refine wpAny_in_heap (tupleKind_room_in1 hu) (i6 I.hok hk) lo dd ⟨.bl (iF kvs k).isSome,H,I.tok _,?_,by simpa using q⟩
 rw[BD kt]
 rfl
theorem DG(hu:X.A.units+1 < cLine):ef X (ae7 .NotIn) (P4 true):=by
 intro pins s σ H a b v u Q I rx ry h
 obtain⟨p,c,kvs,k,rfl,hk,rfl,hd,q⟩:=h
 cases rx
 cases ry
 obtain⟨z,lo,xs,kt,dd⟩:=mB I.hok hd
 refine wpAny_notIn_heap (tupleKind_room_in1 hu) (i6 I.hok hk) lo dd ⟨.bl (!(iF kvs k).isSome),H,I.tok _,?_,?_⟩
 ·rw[BD kt]
  rfl
 ·have e:∀t:Bool,(t != true)= !t:=by decide
  rw[e] at q
  exact q
def sE(neg:Bool):fS:=λx y st=>match y with
 | .ref l=>(match bX st[l]?,iH x with | some kvs,some k=> .ok (.bl ((aN kvs k).isSome != neg)) st | _,_=>wb neg x y st)
 | _=>wb neg x y st
theorem Hg{neg:Bool}{x y:Wv}{a b:V}{st:Hs}{H:Hp}{m:Mp}{Q:VK}(S:bq X.K m st H)(rx:ag X.K m H x a)(ry:ag X.K m H y b)(p:cC X.K m H (sE neg x y st) Q):P4 neg a b H Q\/cC X.K m H (wb neg x y st) Q:=by
 unfold sE at p
 split at p
 ·rename_i l
  split at p
  ·rename_i kvs k e1 e2
   have ry0:=ry
   unfold ag at ry0
   obtain⟨a',rfl,ha⟩:=ry0
   obtain⟨xs,h1,h2⟩:=fu (X:=X) S ha e1
   obtain⟨c,rfl,hc⟩:=hV rx e2
   obtain⟨i1,i2⟩:=h2.val k
   have ev:(iF xs k).isSome=(aN kvs k).isSome:=by
    cases q3:aN kvs k with
    | none=>rw[i1 q3];rfl
    | some w=>obtain⟨u,j1,_⟩:=i2 w q3;rw[j1];rfl
   exact .inl ⟨a',c,xs,k,rfl,hc,rfl,h1,by rw[ev];exact p _ m H Ext.refl S g_⟩
  ·exact .inr p
 ·exact .inr p
theorem P6(hu:X.A.units+64 < cLine):jD X (ae7 .In) (sE false):=⟨_,ef.or (P5 (by omega)) (GK hu),λx y a b st H m Q S rx ry p=>(Hg S rx ry p).imp (λz=>z) λz=>wc S rx ry z⟩
theorem DH(hu:X.A.units+64 < cLine):jD X (ae7 .NotIn) (sE true):=⟨_,ef.or (DG (by omega)) (uX hu),λx y a b st H m Q S rx ry p=>(Hg S rx ry p).imp (λz=>z) λz=>wc S rx ry z⟩
end
section
variable {prog:aeY} {w:ae1} {K:Type} [DecidableEq K] {knd:HeapKind prog w K} {A:aeV} {E:ae0->aeZ->Prop} {s:aeZ} {d a:aeU} {k:K} {xs:List (K×aeU×ae0)}
theorem DI{Q:ae0->aeZ->Prop}(hu:knd.room A.in1)(hkey:knd.is s.heap k a)(hm:s.heap.DictOfH knd d xs)(hsz:xs.length<=afb)(hin:∃(j:Nat)(p:aeU×ae0),xs[j]? =some (k,p))
  (hs:∀(j:Nat)(p:aeU×ae0),xs[j]? =some (k,p)->∀h' t,h'.DictOfH knd d (xs.filter λx=>decide (x.1≠k))->fT d s.heap h'->Q p.2 { s with heap:=h',toks:=t }) :
  afd (model prog w) A (call (.builtin "dict.pop") [.ref d,.ref a]) Q E s:=by
 have ty:s.TypeIs (.ref d) "dict":=hm.typeIs
 obtain⟨o,es,ep,ho,hc,hd,he,his,hnd⟩:=id hm
 have hes:es.size<=afb:=by have e:=size_of_entries he;omega
 have M:MeetsIn prog w (Builtin.«dict.pop» ⟨[.ref d,.ref a],[]⟩) (λA' R s'=>A'=A/\s'=s/\
   ∀(j:Nat)(p:aeU×ae0),xs[j]? =some (k,p)->∀h' t,h'.DictOfH knd d (xs.filter λx=>decide (x.1≠k))->fT d s.heap h'->R (.ok (.ret p.2)) { s with heap:=h',toks:=t }):=.of_wp λA' R s' ⟨eA,e,h2⟩=>by
  subst e eA
  unfold Builtin.«dict.pop»
  refine afe ?_
  unfold Py
  refine afe (wpAny_notOrdered_dict ty (show afd _ _ (pure (d,ax a,none)) _ _ s' from afk ?_))
  have kp:(keyPart (ax a)).isSome=false:=rfl
  simp only[kp,iI,if_false]
  refine afe (aff ho hd (afe (afk ?_)))
  by_cases em:es.isEmpty=true
  ·have xe:xs=[]:=by
    have:=size_of_entries he
    have e0:es.size=0:=by simpa [Mx] using em
    exact List.length_eq_zero_iff.mp (by omega)
   obtain⟨j,p,q⟩:=hin
   rw[xe] at q
   cases q
  ·rw[if_neg em]
   refine afe ?_
   unfold Pz
   refine afg ?_
   refine afe (knd.pyHash hu hkey (afe (wpAny_dictFind_heap (s:={ s' with toks:=s'.toks+knd.draws k }) hu hkey ho hd he his hnd (λno=>absurd hin.choose_spec.choose_spec (no _ _)) λj p hj=>?_)))
   refine afe (aff (s:={ s' with toks:=s'.toks+knd.draws k }) ho hd ?_)
   rw[entry_at he j,hj]
   refine afe (wpAny_updateDictKeys (hz:=hes) (s:={ s' with toks:=s'.toks+knd.draws k }) ho hd (afk ?_))
   simp only[K5,iI,if_false]
   refine afe (wpAny_letGo (afk ⟨p.2,rfl,h2 j p hj _ _ ?_ (jb ..)⟩))
   refine⟨_,_,ep+1,mP _ ho (we (l8 hd _)),hc.mapDictKeys _,l8 hd _,?_,λy hy=>?_,?_⟩
   ·rw[<-sx hnd hj,pK,<-he]
    obtain⟨l⟩:=es
    simp
   ·exact knd.keeps (his y (List.mem_filter.mp hy).1) ho hd (jb ..)
   ·exact hnd.sublist (List.filter_sublist.map _)
 exact call_meetsIn PySem.F.slot_dict_pop ty PySem.F.entry_dict_pop (PySem.F.args_dict_pop_2 _ _) M ⟨rfl,rfl,hs⟩
end
section
variable {X:Cx} {o e:Expr} {apos cpos:Pos} {td ty:TE}
def P7(td ty:TE):TE:=λσ H Q=>td σ H λx H1=>∃a,x= .ref a/\Of H1 a/\ty σ H1 λy H2=>∃kvs k b v,H2 a=some (.dT kvs)/\y= .ref b/\H2 b=some (.tup (k.map kV))/\iF kvs k=some v/\Q v (upd H2 a (.dT (gY kvs k)))
theorem Hh(hu:X.A.units+1 < cLine)(ho:PE X o td)(he:PE X e ty)(m:M1 X o "pop" apos e cpos):PE X (.Call (.Attribute o "pop" apos) [e] [] cpos) (P7 td ty):=by
 intro pins s σ H Q I h
 refine wpAny_Call_method m.base m.few m.line PySem.F.plainAttrs_dict PySem.F.slot_dict_pop PySem.F.type_dict_pop (a7 (ho pins s σ H _ I h) λu s1 ⟨x,H1,I1,rx,a,ex,d,q1⟩=>?_)
 subst ex
 obtain rfl:u=ax a:=rx
 obtain⟨t1,t2,_⟩:=pg I1 d
 refine⟨t1,t2,?_⟩
 rw[m.trees]
 refine jH rfl (mQ (i5 (a7 (he pins s1 σ H1 _ I1 q1) λiv s2 ⟨y,H2,I2,ry,kvs,k,b,v,ea,ey,eb,ev,q3⟩=>o_ ?_)))
 subst ey
 cases (show iv=ax b from ry)
 obtain⟨zz,hd,xs,rel,dd⟩:=xv I2.hok ea
 have vl:=rel.val k
 have hin:∃(j:Nat)(p:aeU×ae0),xs[j]? =some (k,p):=Classical.byContradiction λno=>by
  rw[atKey_none_of_get (λj p q=>no ⟨j,p,q⟩)] at vl
  rw[pL vl] at ev
  cases ev
 refine DI (tupleKind_room_in1 hu) (i6 I2.hok eb) dd (by rw[<-Paired.length rel];exact zz) hin λj p hj h' t EN hs=>?_
 have hnd:(xs.map (·.1)).Nodup:=let ⟨_,_,_,_,_,_,_,_,n⟩:=dd;n
 rw[atKey_of_get hnd hj] at vl
 obtain⟨v',ev',rv⟩:=l_ vl
 rw[ev] at ev'
 cases ev'
 obtain⟨q,es,ep,hq,h2,h3,h4,_,h5⟩:=EN
 refine⟨v,_,lO (ob:=.dT (gY kvs k)) I2 (by rw[ea];exact jI) hs ⟨q,hq⟩ ⟨ba (xt kvs k) zz,hd,_,(qY rel).keeps λc ys ec=>?_,q,es,ep,hq,h2,h3,h4,h5⟩,rv,q3⟩
 rw[au (AJ ec ea (λz=>nomatch z))]
 exact ec
def BE(d k:Wv)(st:Hs):Re Wv:=match d with
 | .ref l=>(match iH k,st[l]? with
  | some kk,some (.bu kvs)=>(match aN kvs kk with | some w=> .ok w (st.set l (.bu (gj kvs kk))) | none=> .bad)
  | _,_=> .bad)
 | _=> .bad
def u6(gd gk:GE):GE:=λρ st=>(gd ρ st).bind λd st1=>if DD st1 d=true then(gk ρ st1).bind λk st2=>BE d k st2 else .bad
theorem Le{gd gk:GE}(hu:X.A.units+1 < cLine)(ho:JE X o gd)(he:JE X e gk)(M:M1 X o "pop" apos e cpos):JE X (.Call (.Attribute o "pop" apos) [e] [] cpos) (u6 gd gk) :=
 JE.of (Hh hu aE aE M) λρ st σ H m Q S R p=>by
  refine ho.go S R (aw.bind p) λd st1 v m1 H1 p1 e1 S1 r1=>?_
  by_cases hd:DD st1 d=true
  ·rw[if_pos hd] at p1
   cases d with
   | ref l=>
    unfold ag at r1
    obtain⟨a,rfl,ha⟩:=r1
    obtain⟨kv0,ek⟩:=Option.isSome_iff_exists.mp (show(bX st1[l]?).isSome=true from hd)
    obtain⟨zd,h0,_⟩:=fu (X:=X) S1 ha ek
    refine⟨a,rfl,.inr ⟨zd,h0⟩,?_⟩
    refine he.go S1 (R.mono e1) ((aw.bind p1).imp e1 λ_ _ q=>q) λk st2 y m2 H2 p2 e2 S2 r2=>?_
    unfold BE at p2
    dsimp only at p2
    cases q1:iH k with
    | none=>rw[q1] at p2;exact aa p2
    | some kk=>
     cases q2:st2[l]? with
     | none=>rw[q1,q2] at p2;exact aa p2
     | some ob=>
      rw[q1,q2] at p2
      cases ob with
      | bu kvs=>
       dsimp only at p2
       have ha2:m2[l]? =some a:=e2.pre _ _ ha
       obtain⟨xs,y1,y2⟩:=(show ∃ys,H2 a=some (.dT ys)/\RelK X.K m2 H2 kvs ys from S2.obj _ _ _ ha2 q2)
       obtain⟨b,rfl,hb⟩:=hV r2 q1
       obtain⟨i1,i2⟩:=y2.val kk
       cases q3:aN kvs kk with
       | none=>rw[q3] at p2;exact aa p2
       | some w=>
        rw[q3] at p2
        obtain⟨u',j1,j2⟩:=i2 w q3
        have ex:Ext X.K m2 H2 m2 (upd H2 a (.dT (gY xs kk))):=Ext.gz (.inr (.inr (.inr ⟨_,y1⟩)))
        exact⟨xs,kk,b,u',y1,rfl,hb,j1,p2 u' m2 _ (e1.trans (e2.trans ex)) (S2.i7 ha2 q2 rfl ⟨_,aF,(y2.drop kk).mono ex⟩) (ag.mono ex _ _ j2)⟩
      | _=>exact aa p2
   | _=>cases hd
  ·rw[if_neg hd] at p1;exact aa p1
end
def Lf(i:Int)(n:Nat):Nat:=if i < 0 then(i+n).toNat else min i.toNat n
def mZ{α:Type}(xs:List α)(i:Int)(v:α):List α:=xs.take (Lf i xs.length)++v::xs.drop (Lf i xs.length)
theorem Hj{α:Type}(xs:List α)(i:Int)(v:α):(mZ xs i v).length=xs.length+1:=by
 unfold mZ
 rw[cS,n_,lM,lN]
 omega
theorem qv{α β:Type}{F:α->β->Prop}:∀{l:List α}{k:List β}(n:Nat),Paired F l k->Paired F (l.take n) (k.take n)
 | _,_,0,_=> .nil
 | _,_,n+1,.nil=> .nil
 | _,_,n+1,.cons h t=> .cons h (qv n t)
theorem qw{α β:Type}{F:α->β->Prop}:∀{l:List α}{k:List β}(n:Nat),Paired F l k->Paired F (l.drop n) (k.drop n)
 | _,_,0,h=>h
 | _,_,n+1,.nil=> .nil
 | _,_,n+1,.cons h t=>qw n t
theorem Hk{vs:List V}{us:List ae0}{i:Int}{v:V}{u:ae0}(r:Vals vs us)(h:RelV v u):Vals (mZ vs i v) (mZ us i u):=by
 unfold mZ
 rw[r.length]
 exact Vals.append (qv _ r) (.cons h (qw _ r))
section
variable {X:Cx} {o e f:Expr} {apos cpos:Pos} {to te tf:TE}
def Yd(to te tf:TE):TE:=λσ H Q=>to σ H λx H1=>∃l zd,x= .ref l/\H1 l=some (.lst zd)/\te σ H1 λy H2=>tf σ H2 λz H3=>∃xs i,H3 l=some (.lst xs)/\y= .int i/\Ae i=true/\xs.length < afb/\Q .aZ (upd H3 l (.lst (mZ xs i z)))
theorem P8(ho:PE X o to)(he:PE X e te)(hf:PE X f tf)(m:M2 X o "insert" apos e f cpos):PE X (.Call (.Attribute o "insert" apos) [e,f] [] cpos) (Yd to te tf):=by
 intro pins s σ H Q I h
 refine wpAny_Call_method m.base m.few m.line PySem.F.plainAttrs_list PySem.F.slot_list_insert PySem.F.type_list_insert (a7 (ho pins s σ H _ I h) λu s1 ⟨x,H1,I1,rx,l,zd,ex,hl0,q1⟩=>?_)
 subst ex
 obtain rfl:u=ax l:=rx
 obtain⟨z0,acZ,n0,r0,h00,e0⟩:=I1.xn hl0
 refine⟨⟨_,e0,rfl⟩,λb q=>by cases q;exact⟨_,e0,rfl⟩,?_⟩
 rw[m.trees]
 refine jH rfl (mQ (i5 (a7 (he pins s1 σ H1 _ I1 q1) λiv s2 ⟨y,H2,I2,ry,q2⟩=>
  i5 (a7 (hf pins s2 σ H2 _ I2 q2) λfv s3 ⟨z,H3,I3,rz,xs,i,ea,ey,hi,hz,q3⟩=>o_ ?_))))
 subst ey
 obtain⟨t,rfl⟩:=(show ∃t,iv=nM i t from ry)
 obtain⟨z1,its,n,r,hl,e1⟩:=I3.xn ea
 have hl1:its.length=xs.length:=r.length.symm
 refine call_meets PySem.F.slot_list_insert ⟨_,e1,rfl⟩ PySem.F.entry_list_insert (PySem.F.args_list_insert_3 _ _ _) (AutoSeq1.list_insert_list_int_val_1 l its.toArray n i t fv (by simp[hi]) (by rw[aP];omega)) ⟨e1,?_⟩
 refine⟨.aZ,_,I3.EI (its':=mZ its i fv) ea e1 ?_ (Hk r rz) (by rw[Hj];omega),rfl,q3⟩
 unfold mZ Lf
 simp
 exact oB (by rw[lN];exact ao _)
def Lg(l:Nat)(i v:Wv)(st:Hs):Re Wv:=match i,st[l]? with
 | .int i,some (.lst ws)=>if ws.length < lim/\Ae i=true then .ok .aZ (st.set l (.lst (mZ ws i v))) else .bad
 | _,_=> .bad
def Lh:Option Ob->Bool
 | some (.lst _)=>true
 | _=>false
def Li(go ge gf:GE):GE:=λρ st=>(go ρ st).bind λo st1=>match o with
 | .ref l=>if Lh st1[l]? =true then(ge ρ st1).bind λi st2=>(gf ρ st2).bind λv st3=>Lg l i v st3 else .bad
 | _=> .bad
theorem sF{K:PySem.W.Frag}{m:Mp}{H:Hp}:∀{ws:List Wv}{xs:List V}(n:Nat),ah K m H ws xs->ah K m H (ws.take n) (xs.take n)
 | _,_,0,_=>ah.nil
 | [],xs,n+1,r=>by unfold ah at r;subst r;exact ah.nil
 | w::ws,xs,n+1,r=>by
  unfold ah at r
  obtain⟨x,t,rfl,r1,r2⟩:=r
  exact ah.cons r1 (sF n r2)
theorem sG{K:PySem.W.Frag}{m:Mp}{H:Hp}:∀{ws:List Wv}{xs:List V}(n:Nat),ah K m H ws xs->ah K m H (ws.drop n) (xs.drop n)
 | _,_,0,r=>r
 | [],xs,n+1,r=>by unfold ah at r;subst r;exact ah.nil
 | w::ws,xs,n+1,r=>by
  unfold ah at r
  obtain⟨x,t,rfl,r1,r2⟩:=r
  exact sG n r2
theorem P9{go ge gf:GE}(ho:JE X o go)(he:JE X e ge)(hf:JE X f gf)(M:M2 X o "insert" apos e f cpos):JE X (.Call (.Attribute o "insert" apos) [e,f] [] cpos) (Li go ge gf) :=
 JE.of (P8 aE aE aE M) λρ st σ H m Q S R p=>by
  refine ho.go S R (aw.bind p) λd st1 v m1 H1 p1 e1 S1 r1=>?_
  cases d with
  | ref l=>
   dsimp only at p1
   by_cases hd:Lh st1[l]? =true
   ·rw[if_pos hd] at p1
    unfold ag at r1
    obtain⟨a,rfl,ha⟩:=r1
    obtain⟨XE,hk1⟩:∃XE,st1[l]? =some (.lst XE):=by
     unfold Lh at hd
     split at hd
     ·rename_i ws q;exact⟨ws,q⟩
     ·cases hd
    obtain⟨Yb,Yc,_⟩:=S1.og ha hk1
    refine⟨a,Yb,rfl,Yc,?_⟩
    refine he.go S1 (R.mono e1) ((aw.bind p1).imp e1 λ_ _ q=>q) λk st2 y m2 H2 p2 e2 S2 r2=>?_
    refine hf.go S2 (R.mono (e1.trans e2)) ((aw.bind p2).imp (e1.trans e2) λ_ _ q=>q) λx st3 z m3 H3 p3 e3 S3 r3=>?_
    unfold Lg at p3
    split at p3
    ·rename_i i ws q2
     by_cases c:ws.length < lim/\Ae i=true
     ·rw[if_pos c] at p3
      have O_:m3[l]? =some a:=(e2.trans e3).pre _ _ ha
      obtain⟨xs,y1,y2⟩:=S3.og O_ q2
      unfold ag at r2
      subst r2
      have ex:Ext X.K m3 H3 m3 (upd H3 a (.lst (mZ xs i z))):=Ext.upd (.inr ⟨xs,y1⟩)
      have ri:ah X.K m3 H3 (mZ ws i x) (mZ xs i z):=by
       unfold mZ
       rw[y2.length]
       exact(sF _ y2).append (ah.cons r3 (sG _ y2))
      exact⟨xs,i,y1,rfl,c.2,by rw[<-y2.length];exact vM c.1,p3 _ m3 _ (e1.trans (e2.trans (e3.trans ex))) (S3.write O_ q2 ri) xD⟩
     ·rw[if_neg c] at p3;exact aa p3
    ·exact aa p3
   ·rw[if_neg hd] at p1;exact aa p1
  | _=>exact aa p1
end
section
variable {X:Cx}
abbrev kP(p:Int×Int):List L2.Key:=[fq p.1,fq p.2]
theorem wk{H:Hp}:∀{ps:List (Int×Int)}{vs:List V},T_ H vs (ps.map kP)->Gv H vs ps
 | [],_,h=>by cases h;exact .nil
 | p::r,_,h=>by
  cases h with
  | cons h t=>exact .cons h (wk t)
theorem yk{prog:aeY}{w:ae1}{es:Array DictEntry}{ys:List (List L2.Key×aeU×ae0)}{vs:List ae0}(g4:es.toList=ys.map (entryOfKey (tupleKind (aR prog w))))(hlen:vs.length=es.size)(hv:∀(j:Nat)(v:ae0),vs[j]? =some v->∃h:j < es.size,v=es[j].key):vs=ys.map λx=>ax x.2.1:=by
 have len:es.size=ys.length:=by have:=congrArg b7 g4;simpa using this
 refine Gw λj=>?_
 cases e:vs[j]? with
 | none=>
  have hj:vs.length<=j:=by simpa using e
  rw[Pe]
  simp
  omega
 | some v=>
  obtain⟨hj,ev⟩:=hv j v e
  have hj':j < ys.length:=by omega
  have q1:es.toList[j]'(by simpa using hj)=entryOfKey (tupleKind (aR prog w)) ys[j]:=by
   have:es.toList[j]? =(ys.map (entryOfKey (tupleKind (aR prog w))))[j]?:=by rw[g4]
   rw[cu (by simpa using hj),dQ,cu hj'] at this
   simpa using this
  rw[dQ,cu hj',ev]
  have q2:es[j]=es.toList[j]'(by simpa using hj):=by simp
  rw[q2,q1]
  rfl
theorem ym{pins:List (aeU×Obj)}{σ:L2.St}{H:Hp}{s:aeZ}{m:Str->Option ae0}{h'':Heap}{D:aeU}{its:List ae0}{vs:List V}{c tk:Nat}(I:Inv X pins σ H s)(hn:s.heap.Ns X.env.locals m)(f_:∀b o,b≠X.env.locals->s.heap.get? b=some o->h''.get? b=some o)(Dk:s.heap.get? D=none)
  (ns:h''.Ns X.env.locals m)(hv:Vals vs its)(hz:vs.length<=afb)(hg:h''.get? D=some (seqObj "list" its.toArray c)):H D=none/\Inv X pins σ (upd H D (.lst vs)) { s with heap:=h'',toks:=tk }:=by
 have Ed:H D=none:=by
  cases e:H D with
  | none=>rfl
  | some ob=>
   obtain⟨z,e'⟩:=pB (I.hok D ob e)
   rw[Dk] at e'
   cases e'
 refine⟨Ed,?_⟩
 have xY:∀b u,H b=some u->b≠D:=λb u e=>bg e Ed
 have Eg:∀b u,H b=some u->b≠X.env.locals:=λb u e=>bg e I.free
 refine I.step (g':=s.gens) (d':=s.drawn) (t':=tk) (ch:=[]) (λ_ z=>nomatch z) (λb o n _ _ e _=>f_ b o n e) (λb o n _ _ e _=>⟨o.slots,f_ b o n e⟩) (λb o _ e n=>?_) (λb o _ e=>?_) (λb xs e=>?_) (λb o u e=>?_) (λb ps e=>?_) (λm' hm=>zR hn hm ns) (λb ob e=>?_) I.bare
 ·rw[au (λz=>by subst z;rw[Dk] at e;cases e)];exact n
 ·by_cases z:b=X.env.locals
  ·subst z
   obtain⟨o',_,_,e',_⟩:=ns
   exact⟨o',e'⟩
  ·exact⟨o,f_ b o z e⟩
 ·rw[au (xY _ _ e)];exact e
 ·rw[au (xY _ _ e)];exact e
 ·exact⟨#[],by rw[au (xY _ _ e),e];simp⟩
 ·by_cases z:b=D
  ·subst z
   rw[aF] at e
   cases e
   exact⟨hz,its,c,hv,hg⟩
  ·rw[au z] at e
   refine(I.hok b ob e).stay (λc v hc q=>f_ c v ?_ q) (λc q=>by rw[au (xY _ _ q)];exact q) λc xs q=>by rw[au (xY _ _ q)];exact q
   rcases hc with y | y
   ·rw[y];exact Eg b ob e
   ·exact Eg c _ y
theorem DJ(hc:X.calm=true):cA X (.builtin "sorted") (λxs H Q=>∃(p:aeU)(kvs:List (List L2.Key×V))(ps:List (Int×Int)),xs=[.ref p]/\Rd H p (.dT kvs)/\kvs.map (·.1)=ps.map kP/\2<=ps.length/\ps.length < 64/\∀l vs',H l=none->Gv H vs' (cV ps)->Q (.ref l) (upd H l (.lst vs'))):=by
 intro pins s σ H xs us Q I r h
 obtain⟨p,kvs,ps,rfl,hd,hk,h2,h64,q⟩:=h
 obtain⟨u,rfl,rx⟩:=vals1 r
 cases rx
 obtain⟨es,ep,ys,z,lo,raw,sz,kt,g4,g5⟩:=wj I.hok hd
 have ky:=qV kt
 rw[hk] at ky
 have hp:=wk ky
 have r':=l6 (λx:List L2.Key×aeU×ae0=>x.2.1) ys
 have tu:=zQ I hp r'
 have lk:kvs.length=ps.length:=by have:=congrArg b7 hk;simpa using this
 obtain⟨m,hn,hl⟩:=id I.loc
 obtain⟨oL,esL,epL,gL,dL,_⟩:=id hn
 refine kdu_sorted (v9 lo) (I.ok.hd hc) (Att.vG hn) (nQ (g:=Att.mR s.heap) (h:=s.heap) (L:=X.env.locals)) raw (by rw[sz];exact z) λD h1 tk vs F1 N1 hD hlen hv=>?_
 have T':=yk g4 hlen hv
 subst T'
 have l2:(ys.map λx=>ax x.2.1).length=ps.length:=tu.length
 have l1:(ys.map λx=>V.ref x.2.1).length=(ys.map λx=>ax x.2.1).length:=r'.length
 have hz:(ys.map λx=>V.ref x.2.1).length<=afb:=by rw[l1,l2,<-lk];exact z
 generalize (ys.map λx:List L2.Key×aeU×ae0=>ax x.2.1)=its at r' tu F1 N1 hlen hv l1 l2
 generalize (ys.map λx:List L2.Key×aeU×ae0=>V.ref x.2.1)=vs at ky hp r' l1 hz
 obtain⟨RS,hDL,Lj⟩:=N1 (D,listOf its.toArray 0) aQ
 refine wpAny_call_entry slot_list_sort ⟨_,RS,rfl⟩ entry_list_sort ?_ (args_list_sort _)
 refine kat_list_sort (s:={ s with heap:=h1,toks:=tk }) F1 (λp hp=>N1 p (aI _ hp)) RS hDL Lj (λp hp=>bh (hD p hp)) (by omega) (by omega) λe1 h' F' N'=>?_
 have keep:∀b o,b≠X.env.locals->s.heap.get? b=some o->h'.get? b=some o:=λb o n e=>(N' (b,o) (aI _ (bN n (Att.bQ _ _) e))).1
 have Pa:Paired (TupAt h') its ps:=pI (λa o its n e d=>keep a o (λz=>by
  subst z
  rw[gL] at e
  cases e
  rw[dL] at d
  cases d) e) tu
 obtain⟨fs,k1,k2,k3⟩:=sf Pa
 refine kat_kind (T:=.type "int") (s:={ s with heap:=h',toks:=tk }) k1 (by omega) (λv hv=>by obtain⟨i,t,rfl⟩:=k3 v hv;exact Looks.of_pure rfl) (by decide) ?_
 have et:(lI "int" != lI "tuple")=true:=by decide
 rw[et,l2]
 have od:Ord λi j=>tN (ps.getD i (0,0)) (ps.getD j (0,0)):=⟨λa b h=>zN h,λa b c h k=>zO h k⟩
 refine Kg.wp (lt:=λi j=>tN (ps.getD i (0,0)) (ps.getD j (0,0))) (N:=ps.length) (P:=λs''=>s''={ s with heap:=h',toks:=tk }) (λi j C s'' hi hj hs hC=>?_) rfl ((Bl od (by omega)).imp λpm ⟨P1,P2⟩ s'' hs=>?_)
 ·subst hs
  obtain⟨a,o,t,u,n,e,g1,g2,g3⟩:=b8 (a:=a_) (b:=(0,0)) Pa hi
  obtain⟨a',o',t',u',n',e',Ec,SY,XX⟩:=b8 (a:=a_) (b:=(0,0)) Pa hj
  unfold kas_ask
  rw[e,e']
  exact Bn (s:={ s with heap:=h',toks:=tk }) g1 g3 Ec XX (hC _ rfl)
 ·subst hs
  refine KasFin.intro (s:={ s with heap:=h',toks:=tk }) F' N' (.head λq hq=>bh (hD q hq)) λh'' c Pb KG=>?_
  have f_:∀b o,b≠X.env.locals->s.heap.get? b=some o->h''.get? b=some o:=λb o n e=>(KG (b,o) (aI _ (bN n (Att.bQ _ _) e))).1
  have Dk:s.heap.get? D=none:=by
   cases e:s.heap.get? D with
   | none=>rfl
   | some o=>exact absurd (hD (D,o) (bN hDL (Att.bQ _ _) e)) (cK _)
  have mem:∀i∈pm.toList,i < ps.length:=λi hi=>List.mem_range.mp (P1.pm.mem_iff.mp hi)
  have hv:Vals (pm.toList.map λi=>vs.getD i .aZ) (pm.toList.map λi=>its.getD i a_):=hU λi hi=>b8 r' (by have:=mem i hi;omega)
  have XY:(pm.toList.map λi=>ps.getD i (0,0))=cV ps:=by
   refine r_ ((P1.pm.map _).trans (by rw[range_getD];exact(fe ps).symm)) ?_ (oF _)
   rw[Jd,Bo,Be]
   intro i j hi hj hij
   have z:=P2 i j (by omega) (by have:=P1.sz;simpa [this] using hj)
   have ei:at_ pm i=pm.toList[i]:=by
    have:i < pm.size:=by simpa using hi
    simp[at_,Bj,this]
   have ej:at_ pm j=pm.toList[j]:=by
    have:j < pm.size:=by simpa using hj
    simp[at_,Bj,this]
   rw[ei,ej] at z
   exact z
  have XZ:Gv H (pm.toList.map λi=>vs.getD i .aZ) (cV ps):=by
   rw[<-XY]
   exact hU λi hi=>b8 hp (mem i hi)
  have hlen:pm.toList.length=ps.length:=by have:=P1.sz;simpa using this
  obtain⟨Ed,I'⟩:=ym (tk:=tk) I hn f_ Dk Pb.ns hv (by rw[bb,hlen,<-l2,<-l1];exact hz) (KG (D,_) aQ).1
  exact⟨_,rfl,.ref D,_,I',rfl,q D _ Ed XZ⟩
theorem DK(hc:X.calm=true):cA X (.builtin "sorted") (λxs H Q=>∃(p:aeU)(kvs:List (List L2.Key×V))(ps:List (Int×Int)),xs=[.ref p]/\Rd H p (.dT kvs)/\kvs.map (·.1)=ps.map kP/\ps.length < 2/\∀l vs',H l=none->Gv H vs' ps->Q (.ref l) (upd H l (.lst vs'))):=by
 intro pins s σ H xs us Q I r h
 obtain⟨p,kvs,ps,rfl,hd,hk,h2,q⟩:=h
 obtain⟨u,rfl,rx⟩:=vals1 r
 cases rx
 obtain⟨es,ep,ys,z,lo,raw,sz,kt,g4,g5⟩:=wj I.hok hd
 have ky:=qV kt
 rw[hk] at ky
 have hp:=wk ky
 have r':=l6 (λx:List L2.Key×aeU×ae0=>x.2.1) ys
 have lk:kvs.length=ps.length:=by have:=congrArg b7 hk;simpa using this
 have ly:kvs.length=ys.length:=kt.length
 obtain⟨m,hn,hl⟩:=id I.loc
 refine kdu_sorted (v9 lo) (I.ok.hd hc) (Att.vG hn) (nQ (g:=Att.mR s.heap) (h:=s.heap) (L:=X.env.locals)) raw (by rw[sz];exact z) λD h1 tk vs F1 N1 hD hlen hv=>?_
 have T':=yk g4 hlen hv
 subst T'
 obtain⟨RS,hDL,Lj⟩:=N1 (D,listOf _ 0) aQ
 refine wpAny_call_entry slot_list_sort ⟨_,RS,rfl⟩ entry_list_sort ?_ (args_list_sort _)
 refine uS (s:={ s with heap:=h1,toks:=tk }) (by simp;omega) RS ?_
 obtain⟨c,hc'⟩:=sortedHeap_at (vs:=ys.map λx=>ax x.2.1) (out:=(ys.map λx=>ax x.2.1).toArray) RS
 have old:∀b o,b≠D->h1.get? b=some o->(sortedHeap h1 D (ys.map λx=>ax x.2.1) (ys.map λx=>ax x.2.1).toArray).get? b=some o:=λb o n e=>(sortedHeap_old n (aK e)).trans e
 have Uh:∀b o,b≠X.env.locals->s.heap.get? b=some o->h1.get? b=some o:=λb o n e=>(N1 (b,o) (aI _ (bN n (Att.bQ _ _) e))).1
 have Dk:s.heap.get? D=none:=by
  cases e:s.heap.get? D with
  | none=>rfl
  | some o=>exact absurd (hD (D,o) (bN hDL (Att.bQ _ _) e)) (cK _)
 obtain⟨Ed,I'⟩:=ym (tk:=tk) I hn (λb o n e=>old b o (λz=>by subst z;rw[Dk] at e;cases e) (Uh b o n e)) Dk (ksk_fr (((ksk_fr F1 (jb h1 D (df λ_=>#[])) hDL Lj).push (seqObj "tuple" _ 0)).push (seqObj "list" #[] 0)) (jb _ D (df λ_=>_)) hDL Lj).ns r' (by simp;rw[<-ly];exact z) hc'
 exact⟨_,rfl,.ref D,_,I',rfl,q D _ Ed hp⟩
def mH:List (List L2.Key)->Option (List (Int×Int))
 | []=>some []
 | [.inl a,.inl b]::r=>(match mH r with | some l=>some ((a,b)::l) | none=>none)
 | _=>none
theorem yn:∀{ks:List (List L2.Key)}{ps:List (Int×Int)},mH ks=some ps->ks=ps.map kP
 | [],ps,e=>by cases e;rfl
 | k::r,ps,e=>by
  unfold mH at e
  split at e
  ·cases ‹_::_=[]›
  ·rename_i a b r' he
   cases he
   cases q:mH r with
   | none=>rw[q] at e;cases e
   | some l=>rw[q] at e;cases e;rw[aB,<-yn q]
  ·cases e
def oH:List Wv->Hs->Re Wv
 | [.ref l],st=>(match bX st[l]? with
  | some kvs=>(match mH (kvs.map (·.1)) with | some ps=>if ps.length < 64 then .ok (.ref st.length) (st++[.lst ((cV ps).map pw)]) else .bad | none=> .bad)
  | none=>jw [.ref l] st)
 | ws,st=>jw ws st
theorem Lk(hc:X.calm=true):cO X (.builtin "sorted") oH:=by
 obtain⟨rr,h1,h2⟩:=Bp (X:=X)
 refine⟨_,(DK hc).or ((DJ hc).or h1),λws vs st H m Q S rs p=>?_⟩
 have other:cC X.K m H (jw ws st) Q->rr vs H Q:=λp=>h2 ws vs st H m Q S rs p
 match ws,rs,p,other with
 | [],rs,p,other=>exact .inr (.inr (other p))
 | x::y::t,rs,p,other=>exact .inr (.inr (other (by cases x<;>exact p)))
 | [x],rs,p,other=>
  cases x with
  | ref l=>
   unfold oH at p
   dsimp only at p
   cases e:bX st[l]? with
   | none=>rw[e] at p;exact .inr (.inr (other p))
   | some kvs=>
    rw[e] at p
    dsimp only at p
    cases e2:mH (kvs.map (·.1)) with
    | none=>rw[e2] at p;exact aa p
    | some ps=>
     rw[e2] at p
     dsimp only at p
     by_cases c:ps.length < 64
     ·rw[if_pos c] at p
      obtain⟨v,rfl,r1⟩:=kH rs
      unfold ag at r1
      obtain⟨a,rfl,ha⟩:=r1
      obtain⟨xs,g1,g2⟩:=fu (X:=X) S ha e
      have ek:xs.map (·.1)=ps.map kP:=by rw[<-g2.1];exact yn e2
      have fin:∀k vs',H k=none->Gv H vs' (cV ps)->Q (.ref k) (upd H k (.lst vs')):=λk vs' hk hp=>p (.ref k) (m++[k]) _ (Ext.more.trans (Ext.upd (.inl hk))) (S.alloc hk (mX hp)) (S.newest k _)
      by_cases c2:ps.length < 2
      ·refine .inl ⟨a,xs,ps,rfl,g1,ek,c2,λk vs' hk hp=>fin k vs' hk ?_⟩
       have:cV ps=ps:=by
        match ps,c2 with
        | [],_=>rfl
        | [p],_=>rfl
       rw[this]
       exact hp
      ·exact .inr (.inl ⟨a,xs,ps,rfl,g1,ek,by omega,c,fin⟩)
     ·rw[if_neg c] at p;exact aa p
  | _=>exact .inr (.inr (other p))
end
structure Ct where
 N:List Str
 names:List (Str×aeX)
 consts:List (Str×Wv)
 bl:List Str
 fns:List (Str×Nat×(List Wv->Hs->Re Wv))
 tb:Tab:=[]
 tt:vR:=[]
 clss:List Str:=[]
 DL:List Str:=[]
 tc:Tab:=[]
 BF:List (Str×Dc):=[]
 m6:List Str:=[]
 dks:List Str:=[]
 Ll:List Str:=[]
 Je:List Str:=[]
 loop:Bool:=true
 free:Bool:=true
 top:Bool:=true
 lam:Option (Lm×LF):=none
 Ln:List (Str×FLt):=[]
 Ye:List Str:=[]
 lj:Nat:=0
 self:Str:=""
def oI(x:Str):List Str->Option Nat
 | []=>none
 | y::r=>if x=y then some 0 else match oI x r with
  | some i=>some (i+1)
  | none=>none
theorem jB{x:Str}:∀{N:List Str}{i:Nat},oI x N=some i->N[i]? =some x
 | [],i,h=>by cases h
 | y::r,i,h=>by
  unfold oI at h
  by_cases e:x=y
  ·rw[if_pos e] at h;cases h;subst e;rfl
  ·rw[if_neg e] at h
   cases q:oI x r with
   | none=>rw[q] at h;cases h
   | some j=>rw[q] at h;cases h;simpa using jB q
def okN(x:Str):Bool:=!(x == ("__debug__":Str))&& !(x == ("__classdict__":Str))&& !(decide (x="__name__"))
theorem iN{x:Str}(h:okN x=true):(x == ("__debug__":Str))=false:=by unfold okN at h;revert h;cases (x == ("__debug__":Str))<;>simp
theorem Hl{x:Str}(h:okN x=true):(x == ("__classdict__":Str))=false:=by unfold okN at h;revert h;cases (x == ("__classdict__":Str))<;>simp
theorem Hm{x:Str}(h:okN x=true):x≠"__name__":=by
 intro e
 subst e
 unfold okN at h
 simp at h
def yo:List Wv->List V->Prop
 | [],[]=>True
 | .int i::r,.int j::t=>i=j/\yo r t
 | .str x::r,.str y::t=>(x=y/\bo x=true)/\yo r t
 | _,_=>False
theorem yo.rel{K:PySem.W.Frag}{m:Mp}{H:Hp}:∀{ws:List Wv}{vs:List V},yo ws vs->ah K m H ws vs
 | [],[],_=>ah.nil
 | .int i::r,.int j::t,h=>by
  obtain⟨rfl,h⟩:=h
  exact ah.cons (by unfold ag;rfl) h.rel
 | .str x::r,.str y::t,h=>by
  obtain⟨⟨rfl,hx⟩,h⟩:=h
  exact ah.cons (by unfold ag;exact⟨rfl,hx⟩) h.rel
 | [],_::_,h=>aa h
 | .int i::r,[],h=>aa h
 | .str i::r,[],h=>aa h
 | .int i::r,.str _::_,h=>aa h
 | .str i::r,.int _::_,h=>aa h
def BG(K:PySem.W.Frag)(mg:Str->Option ae0)(x:Str):Wv->Prop
 | .int i=>∃t,mg x=some (.int i t)
 | .str y=>(∃t,mg x=some (.str y t))/\bo y=true
 | .qh ws=>∃(a:aeU)(vs:List V)(o:Obj)(its:Array ae0)(n:Nat),mg x=some (.ref a)/\K.lookup a=some o/\o.cls= .type "tuple"/\o.data= .seq its n/\its.size<=afb/\Vals vs its.toList/\yo ws vs
 | _=>False
structure Ui(c:Ct)(k:Nat)(X:Cx):Prop where
 lam:∀p L,c.lam=some (p,L)->Pj X.prog X.w X.K X.mg X.base k p 3 L
 Ln:∀x F,c.Ln.lookup x=some F->FnL X.prog X.w X.K X.mg k c.lj x F
 Uj:∀x n F,c.fns.lookup x=some (n,F)->c.Ye.contains x=true->∀base,Dp X.K X.mg base->eF X.prog X.w X.K X.mg base c.lj x n F
 at':c.top=true->c.self∈cT->∃P,Mv X c.self P
structure Good(c:Ct)(k:Nat)(X:Cx):Prop where
 N:X.N=c.N
 sc:X.env.scope.names=c.names
 nd:c.N.Nodup
 un:X.A.units+64 < cLine
 free:c.free=true->kD k X.A/\X.calm=true
 loop:c.loop=true->X.calm=true/\PassesOwn (model X.prog X.w) X.A X.env X.xe
 cst:∀x w,c.consts.lookup x=some w->BG X.K X.mg x w
 bl:∀x,c.bl.contains x=true->X.mg x=none
 fns:∀x n F,c.fns.lookup x=some (n,F)->eF X.prog X.w X.K X.mg X.base k x n F
 stk:c.top=true->Stk X
 fn:c.top=true->∀x,X.fn x=true
 kind:X.env.scope.kind= .function
 tab:TabOk X.K c.tb c.tt c.tc
 cls:∀x,c.clss.contains x=true->∃C,X.mg x=some (.ref C)/\FT X.K x C
 DL:∀x,c.DL.contains x=true->∃C,X.mg x=some (.ref C)/\ClsAt X.K x C
 BF:∀x kvs,c.BF.lookup x=some kvs->oC X.K X.w X.mg x kvs
 rm:uU k X.A
 Je:∀x n F,c.Je.contains x=true->c.fns.lookup x=some (n,F)->KL X.prog X.w X.K X.mg X.base k x n F
 x:Ui c k X
 fr:F6 X
 hd:OR X
theorem BH{k:Nat}{A:aeV}(hr:kD k A):A.units+64 < cLine:=by have:=hr.un;omega
def Ct.Uk(c:Ct):Ct:={ c with loop:=false }
theorem Good.body{c:Ct}{k:Nat}{X:Cx}(G:Good c k X)(hf:c.free=true)(pn:List (aeU×Obj))(E:ae0->aeZ->Prop):Good c.Uk k (reX X X.A true pn E) :=
 ⟨G.N,G.sc,G.nd,G.un,λ_=>⟨(G.free hf).1,rfl⟩,(λz=>by cases z),G.cst,G.bl,G.fns,λz=>⟨(G.stk z).st,(G.stk z).fr,(G.stk z).ex⟩,G.fn,G.kind,G.tab,G.cls,G.DL,G.BF,⟨G.rm.d,G.rm.u⟩,G.Je,⟨G.x.lam,G.x.Ln,G.x.Uj,λt m=>(G.x.at' t m).imp λP L=>⟨L.code,L.qual,L.tab,L.mem,L.uniq,L.bm⟩⟩,G.fr,G.hd⟩
theorem Hn:ae4 "ValueError"=some (.type "ValueError"):=by decide+kernel
theorem yp:ae4 "dict"=some (.type "dict"):=by decide+kernel
def Lp(x:Str):Option String :=
 if x="int" then some "int" else if x="str" then some "str" else if x="bool" then some "bool" else if x="tuple" then some "tuple" else if x="list" then some "list" else if x="ValueError" then some "ValueError" else if x="dict" then some "dict" else none
theorem Lq{x:Str}{T:String}(h:Lp x=some T):ae4 x=some (.type T):=by
 unfold Lp at h
 by_cases e:x="int"
 ·rw[if_pos e] at h;cases h;subst e;exact FJ
 rw[if_neg e] at h
 by_cases e:x="str"
 ·rw[if_pos e] at h;cases h;subst e;exact FK
 rw[if_neg e] at h
 by_cases e:x="bool"
 ·rw[if_pos e] at h;cases h;subst e;exact FO
 rw[if_neg e] at h
 by_cases e:x="tuple"
 ·rw[if_pos e] at h;cases h;subst e;exact xI
 rw[if_neg e] at h
 by_cases e:x="list"
 ·rw[if_pos e] at h;cases h;subst e;exact xJ
 rw[if_neg e] at h
 by_cases e:x="ValueError"
 ·rw[if_pos e] at h;cases h;subst e;exact Hn
 rw[if_neg e] at h
 by_cases e:x="dict"
 ·rw[if_pos e] at h;cases h;subst e;exact yp
 rw[if_neg e] at h
 cases h
section
variable {X:Cx}
def Ul:fS:=λ_ _ _=> .bad
theorem P_{f:ae0->ae0->Sem ae0}:jD X f Ul:=⟨λ_ _ _ _=>False,λ_ _ _ _ _ _ _ _ _ _ _ _ h=>h.elim,λ_ _ _ _ _ _ _ _ _ _ _ p=>p⟩
def Um:Operator->fS
 | .Add=>dt
 | .Sub=>mU
 | .Mult=>dq
 | .FloorDiv=>eE
 | .Mod=>oMod
 | .Pow=>oj
 | _=>Ul
theorem Lr(o:Operator):jD X (ae3 o) (Um o):=by
 cases o<;>first | exact OH | exact OE | exact GD | exact JY | exact OF | exact OG | exact P_
def Af:CmpOp->fS
 | .Eq=>oEq
 | .NotEq=>zc
 | .Lt=>oLt
 | .LtE=>oLe
 | .Gt=>OD
 | .GtE=>Xz
 | .Is=>Tq
 | .IsNot=>jL
 | .In=>xW
 | .NotIn=>vV
theorem ma(hu:X.A.units+64 < cLine)(o:CmpOp):jD X (ae7 o) (Af o):=by
 cases o<;>first | exact Mj hu | exact Mk hu | exact Pg hu | exact Pf hu | exact To | exact Tp | exact Tr | exact Fl | exact O6 | exact Dg
def Ho(c:Ct)(x:Str):GE:=if okN x=true then
  match c.names.lookup x with
  | some .local=>(match oI x c.N with | some i=>af i | none=>bH)
  | some .cell=>(match oI x c.N with | some i=>af i | none=>bH)
  | some .free=>(match oI x c.N with | some i=>af i | none=>bH)
  | some .globalImplicit=>(match c.consts.lookup x with
   | some w=>gC w
   | none=>if c.clss.contains x=true then gC (.cls x) else if c.DL.contains x=true then gC (.cls x) else if c.bl.contains x=true then(match Lp x with | some T=>gC (.ty T) | none=>bH) else bH)
  | _=>bH
 else bH
theorem Hq{c:Ct}{k:Nat}(G:Good c k X)(x:Str)(pos:Pos):JE X (.Name x pos) (Ho c x):=by
 unfold Ho
 by_cases hx:okN x=true
 ·rw[if_pos hx]
  cases e:c.names.lookup x with
  | none=>exact aG
  | some kd=>
   have el:X.env.scope.names.lookup x=some kd:=by rw[G.sc];exact e
   cases kd with
   | «local»=>
    dsimp only
    cases e2:oI x c.N with
    | none=>exact aG
    | some i=>exact zy i (by rw[G.N];exact jB e2) (Or.inl el) (iN hx) (Hl hx)
   | cell=>
    dsimp only
    cases e2:oI x c.N with
    | none=>exact aG
    | some i=>exact zy i (by rw[G.N];exact jB e2) (lP (Or.inl el)) (iN hx) (Hl hx)
   | free=>
    dsimp only
    cases e2:oI x c.N with
    | none=>exact aG
    | some i=>exact zy i (by rw[G.N];exact jB e2) (lP (lP el)) (iN hx) (Hl hx)
   | globalImplicit=>
    dsimp only
    have hg:Gl X x:=el
    cases e2:c.consts.lookup x with
    | some w=>
     have q:=G.cst x w e2
     cases w with
     | int i=>obtain⟨t,q⟩:=q;exact Fb hg q (iN hx)
     | str y=>obtain⟨⟨t,q⟩,z⟩:=q;exact Fc hg q z (iN hx)
     | qh ws=>
      obtain⟨a,vs,o,its,n,q1,q2,q3,q4,q5,q6,q7⟩:=q
      exact JE.of (gw (v:=.ref a) hg q1 rfl (iN hx)) λρ st σ H m Q S R p=>p (.ref a) m H Ext.refl S (by unfold ag;exact⟨a,vs,rfl,⟨o,its,n,q2,q3,q4,q5,q6⟩,q7.rel⟩)
     | _=>exact aa q
    | none=>
     dsimp only
     by_cases e5:c.clss.contains x=true
     ·rw[if_pos e5]
      obtain⟨C,q1,q2⟩:=G.cls x e5
      exact JE.of (gw (v:=.ref C) hg q1 rfl (iN hx)) λρ st σ H m Q S R p=>p (.ref C) m H Ext.refl S (by unfold ag;exact⟨C,rfl,q2.cls⟩)
     rw[if_neg e5]
     by_cases e6:c.DL.contains x=true
     ·rw[if_pos e6]
      obtain⟨C,q1,q2⟩:=G.DL x e6
      exact JE.of (gw (v:=.ref C) hg q1 rfl (iN hx)) λρ st σ H m Q S R p=>p (.ref C) m H Ext.refl S (by unfold ag;exact⟨C,rfl,q2⟩)
     rw[if_neg e6]
     by_cases e3:c.bl.contains x=true
     ·rw[if_pos e3]
      cases e4:Lp x with
      | none=>exact aG
      | some T=>exact S7 hg (G.bl x e3) (Lq e4) (Hm hx) (iN hx)
     ·rw[if_neg e3];exact aG
   | _=>exact aG
 ·rw[if_neg hx];exact aG
def Hr:Const->GE
 | .none=>gC .aZ
 | .bool b=>gC (.bl b)
 | .int i=>gC (.int i)
 | .str x=>if bo x=true then gC (.str x) else bH
 | _=>bH
theorem DM(k:Const)(j:Nat)(pos:Pos):JE X (.Constant k j pos) (Hr k):=by
 cases k with
 | none=>exact Oq
 | bool b=>exact S6
 | int i=>exact Oo
 | str x=>
  show JE X _ (if bo x=true then gC (.str x) else bH)
  by_cases h:bo x=true
  ·rw[if_pos h];exact Ot h
  ·rw[if_neg h];exact aG
 | _=>exact aG
def plain:Expr->Bool
 | .Starred .. =>false
 | _=>true
theorem aJ{e:Expr}{es:List Expr}{env:Env}(h:plain e=true):afc (e::es) env=(false,eval e env)::afc es env:=by
 cases e<;>first | rfl | cases h
theorem gS{pos:Pos}{env:Env}:∀{es:List Expr},es.all plain=true->(backTo pos (afc es env)).any (·.1)=false
 | [],_=>rfl
 | e::es,h=>by
  rw[fb,dZ] at h
  rw[aJ h.1]
  have q:=gS (pos:=pos) (env:=env) h.2
  unfold backTo at q ⊢
  rw[aB,fU,q]
  rfl
def mI(f:Expr->GE):List Expr->GA
 | []=>aj
 | e::es=>ae (f e) (mI f es)
theorem gF{f:Expr->GE}(h:∀e,JE X e (f e)):∀es:List Expr,es.all plain=true->JA X es (mI f es)
 | [],_=>Fi
 | e::es,g=>by
  rw[fb,dZ] at g
  exact A4 (h e) (gF h es g.2) (aJ g.1)
def We(c:Ct)(x:Str):Option (ae0×(List Wv->Hs->Re Wv)) :=
 if x="len" then some (.builtin "len",if c.m6.isEmpty=true then e7 else u0) else if x="abs" then some (.builtin "abs",J6) else if x="isinstance" then some (.builtin "isinstance",if c.bl.contains "dict"=true then tY c.tb c.tt else fX c.tb c.tt) else if x="list"/\c.free=true then some (.type "list",pJ) else if x="tuple" then some (.type "tuple",qm) else if x="all"/\c.free=true then some (.builtin "all",xT) else if x="sum"/\c.free=true then some (.builtin "sum",Gh) else if x="sorted"/\c.free=true then some (.builtin "sorted",if c.m6.isEmpty=true then jw else oH) else if x="ord" then some (.builtin "ord",KO) else if x="dict" then some (.type "dict",qu) else none
theorem DN:ae4 "all"=some (.builtin "all"):=by decide+kernel
theorem DO:ae4 "sum"=some (.builtin "sum"):=by decide+kernel
theorem DP:ae4 "sorted"=some (.builtin "sorted"):=by decide+kernel
theorem Qa{c:Ct}(O:TabOk X.K c.tb c.tt c.tc):cO X (.builtin "isinstance") (if c.bl.contains "dict"=true then tY c.tb c.tt else fX c.tb c.tt):=by
 by_cases e2:c.bl.contains "dict"=true
 ·rw[if_pos e2];exact P0 O
 ·rw[if_neg e2];exact F0 O
theorem Qb(c:Ct):cO X (.builtin "len") (if c.m6.isEmpty=true then e7 else u0):=by
 by_cases e2:c.m6.isEmpty=true
 ·rw[if_pos e2];exact Fs
 ·rw[if_neg e2];exact K6
theorem Qc(c:Ct)(hc:X.calm=true):cO X (.builtin "sorted") (if c.m6.isEmpty=true then jw else oH):=by
 by_cases e2:c.m6.isEmpty=true
 ·rw[if_pos e2];exact Bp
 ·rw[if_neg e2];exact Lk hc
theorem Qd{c:Ct}{x:Str}{v:ae0}{op:List Wv->Hs->Re Wv}(O:TabOk X.K c.tb c.tt c.tc)(hc:c.free=true->X.calm=true)(h:We c x=some (v,op)):ae4 x=some v/\cO X v op/\((∃id,v= .builtin id)\/∃T,v= .type T):=by
 unfold We at h
 by_cases e:x="len"
 ·rw[if_pos e] at h;cases h;subst e;exact⟨C0,Qb c,.inl ⟨_,rfl⟩⟩
 rw[if_neg e] at h
 by_cases e:x="abs"
 ·rw[if_pos e] at h;cases h;subst e;exact⟨CZ,OK,.inl ⟨_,rfl⟩⟩
 rw[if_neg e] at h
 by_cases e:x="isinstance"
 ·rw[if_pos e] at h;cases h;subst e;exact⟨FI,Qa O,.inl ⟨_,rfl⟩⟩
 rw[if_neg e] at h
 by_cases e:x="list"/\c.free=true
 ·rw[if_pos e] at h;cases h;obtain⟨rfl,e2⟩:=e;exact⟨xJ,Gx (hc e2),.inr ⟨_,rfl⟩⟩
 rw[if_neg e] at h
 by_cases e:x="tuple"
 ·rw[if_pos e] at h;cases h;subst e;exact⟨xI,O1,.inr ⟨_,rfl⟩⟩
 rw[if_neg e] at h
 by_cases e:x="all"/\c.free=true
 ·rw[if_pos e] at h;cases h;obtain⟨rfl,e2⟩:=e;exact⟨DN,O0 (hc e2),.inl ⟨_,rfl⟩⟩
 rw[if_neg e] at h
 by_cases e:x="sum"/\c.free=true
 ·rw[if_pos e] at h;cases h;obtain⟨rfl,e2⟩:=e;exact⟨DO,O3 (hc e2),.inl ⟨_,rfl⟩⟩
 rw[if_neg e] at h
 by_cases e:x="sorted"/\c.free=true
 ·rw[if_pos e] at h;cases h;obtain⟨rfl,e2⟩:=e;exact⟨DP,Qc c (hc e2),.inl ⟨_,rfl⟩⟩
 rw[if_neg e] at h
 by_cases e:x="ord"
 ·rw[if_pos e] at h;cases h;subst e;exact⟨Du,Pq,.inl ⟨_,rfl⟩⟩
 rw[if_neg e] at h
 by_cases e:x="dict"
 ·rw[if_pos e] at h;cases h;subst e;exact⟨yp,K8,.inr ⟨_,rfl⟩⟩
 rw[if_neg e] at h
 cases h
def Ag(c:Ct)(fE:Expr->GE)(x:Str)(es:List Expr):GE:=if okN x=true/\es.all plain=true/\c.names.lookup x=some .globalImplicit then
   (match c.fns.lookup x with
   | some (n,F)=>if c.free=true then av n F (mI fE es) else bH
   | none=>if c.bl.contains x=true then(match We c x with | some (_,op)=>aL op (mI fE es) | none=>bH) else bH)
  else bH
def Ht(fE:Expr->GE)(o:Expr)(name:Str)(e:Expr)(apos cpos:Pos):GE:=if plain e=true/\(apos.endLine == cpos.line)=true then
   (if name="append" then qk pE (fE o) (fE e) else if name="extend" then qk uW (fE o) (fE e) else bH)
  else bH
def wo(fE:Expr->GE)(o:Expr)(name:Str)(es:List Expr)(apos cpos:Pos):GE:=bH
theorem all_plain{pos:Pos}{env:Env}:∀{es:List Expr},es.all plain=true->(backTo pos (afc es env)).all (λx=> !x.1)=true
 | [],_=>rfl
 | e::es,h=>by
  rw[fb,dZ] at h
  rw[aJ h.1]
  have q:=all_plain (pos:=pos) (env:=env) h.2
  unfold backTo at q ⊢
  rw[aB,fb,q]
  rfl
theorem pO{fE:Expr->GE}(h:∀e,JE X e (fE e))(o:Expr)(name:Str)(e:Expr)(es:List Expr)(apos cpos:Pos):JE X (.Call (.Attribute o name apos) (e::es) [] cpos) (wo fE o name (e::es) apos cpos):=by
 exact aG
def Hu(fE:Expr->GE)(o:Expr)(e f:Expr)(apos cpos:Pos):GE:=if plain e=true/\plain f=true/\(apos.endLine == cpos.line)=true then Gj (fE o) (fE e) (fE f) else bH
theorem Hv{c:Ct}{k:Nat}(G:Good c k X){fE:Expr->GE}(h:∀e,JE X e (fE e))(o:Expr)(ho:attributeBase o "get" X.env (eval o X.env)=eval o X.env)(e f:Expr)(apos cpos:Pos):JE X (.Call (.Attribute o "get" apos) [e,f] [] cpos) (Hu fE o e f apos cpos):=by
 unfold Hu
 by_cases g:plain e=true/\plain f=true/\(apos.endLine == cpos.line)=true
 ·rw[if_pos g]
  obtain⟨g1,g2,g3⟩:=g
  refine Gm (by have:=G.un;omega) (h _) (h e) (h f) ⟨ho,?_,g3,?_⟩
  ·rw[all_plain (es:=[e,f]) (by simp[g1,g2])]
   rfl
  ·rw[aJ g1,aJ g2]
   rfl
 ·rw[if_neg g];exact aG
def oJ(c:Ct)(x:Str):Option Dc:=if okN x=true/\c.names.lookup x=some .globalImplicit then c.BF.lookup x else none
theorem md{c:Ct}{k:Nat}(G:Good c k X){x:Str}{kvs:Dc}(h:oJ c x=some kvs):Gl X x/\(x == ("__debug__":Str))=false/\oC X.K X.w X.mg x kvs:=by
 unfold oJ at h
 by_cases g:okN x=true/\c.names.lookup x=some .globalImplicit
 ·rw[if_pos g] at h
  refine⟨?_,iN g.1,G.BF x kvs h⟩
  show X.env.scope.names.lookup x=_
  rw[G.sc];exact g.2
 ·rw[if_neg g] at h;cases h
def Hw(c:Ct)(fE:Expr->GE)(x:Str)(p:Pos)(e f:Expr)(apos cpos:Pos):GE:=if c.m6.contains x=true/\plain e=true/\plain f=true/\(apos.endLine == cpos.line)=true then BA (fE (.Name x p)) (fE e) (fE f) else bH
theorem Hx{c:Ct}{k:Nat}(G:Good c k X){fE:Expr->GE}(h:∀e,JE X e (fE e))(x:Str)(p:Pos)(e f:Expr)(apos cpos:Pos):JE X (.Call (.Attribute (.Name x p) "pop" apos) [e,f] [] cpos) (Hw c fE x p e f apos cpos):=by
 unfold Hw
 by_cases g:c.m6.contains x=true/\plain e=true/\plain f=true/\(apos.endLine == cpos.line)=true
 ·rw[if_pos g]
  obtain⟨_,g1,g2,g3⟩:=g
  refine K_ (by have:=G.un;omega) (h _) (h e) (h f) ⟨rfl,?_,g3,?_⟩
  ·rw[all_plain (es:=[e,f]) (by simp[g1,g2])]
   rfl
  ·rw[aJ g1,aJ g2]
   rfl
 ·rw[if_neg g];exact aG
def Hy(c:Ct)(fE:Expr->GE)(x:Str)(p:Pos)(e:Expr)(apos cpos:Pos):GE:=if c.m6.contains x=true/\plain e=true/\(apos.endLine == cpos.line)=true then u6 (fE (.Name x p)) (fE e) else bH
theorem Hz{c:Ct}{k:Nat}(G:Good c k X){fE:Expr->GE}(h:∀e,JE X e (fE e))(x:Str)(p:Pos)(e:Expr)(apos cpos:Pos):JE X (.Call (.Attribute (.Name x p) "pop" apos) [e] [] cpos) (Hy c fE x p e apos cpos):=by
 unfold Hy
 by_cases g:c.m6.contains x=true/\plain e=true/\(apos.endLine == cpos.line)=true
 ·rw[if_pos g]
  obtain⟨_,g1,g3⟩:=g
  refine Le (by have:=G.un;omega) (h _) (h e) ⟨rfl,?_,g3,?_⟩
  ·rw[all_plain (es:=[e]) (by simp[g1])]
   rfl
  ·rw[aJ g1]
   rfl
 ·rw[if_neg g];exact aG
def Qe(fE:Expr->GE)(x:Str)(p:Pos)(e f:Expr)(apos cpos:Pos):GE:=if plain e=true/\plain f=true/\(apos.endLine == cpos.line)=true then Li (fE (.Name x p)) (fE e) (fE f) else bH
theorem Ls{fE:Expr->GE}(h:∀e,JE X e (fE e))(x:Str)(p:Pos)(e f:Expr)(apos cpos:Pos):JE X (.Call (.Attribute (.Name x p) "insert" apos) [e,f] [] cpos) (Qe fE x p e f apos cpos):=by
 unfold Qe
 by_cases g:plain e=true/\plain f=true/\(apos.endLine == cpos.line)=true
 ·rw[if_pos g]
  obtain⟨g1,g2,g3⟩:=g
  refine P9 (h _) (h e) (h f) ⟨rfl,?_,g3,?_⟩
  ·rw[all_plain (es:=[e,f]) (by simp[g1,g2])]
   rfl
  ·rw[aJ g1,aJ g2]
   rfl
 ·rw[if_neg g];exact aG
def HA(c:Ct)(fE:Expr->GE)(x:Str)(p:Pos)(e:Expr)(apos cpos:Pos):GE:=if c.m6.contains x=true/\plain e=true/\(apos.endLine == cpos.line)=true then sD (fE (.Name x p)) (fE e) else bH
theorem HB{c:Ct}{k:Nat}(G:Good c k X){fE:Expr->GE}(h:∀e,JE X e (fE e))(x:Str)(p:Pos)(e:Expr)(apos cpos:Pos):JE X (.Call (.Attribute (.Name x p) "get" apos) [e] [] cpos) (HA c fE x p e apos cpos):=by
 unfold HA
 by_cases g:c.m6.contains x=true/\plain e=true/\(apos.endLine == cpos.line)=true
 ·rw[if_pos g]
  obtain⟨_,g1,g3⟩:=g
  refine Hf (by have:=G.un;omega) (h _) (h e) ⟨rfl,?_,g3,?_⟩
  ·rw[all_plain (es:=[e]) (by simp[g1])]
   rfl
  ·rw[aJ g1]
   rfl
 ·rw[if_neg g];exact aG
def HC(c:Ct)(fE:Expr->GE)(cpos:Pos):Expr->List Expr->List Keyword->GE
 | .Name x _,e::es,[]=>Ag c fE x (e::es)
 | .Attribute (.Name x p) name apos,[e],[]=>if name="get" then HA c fE x p e apos cpos else if name="pop" then Hy c fE x p e apos cpos else if name="append"\/name="extend" then Ht fE (.Name x p) name e apos cpos else wo fE (.Name x p) name [e] apos cpos
 | .Attribute (.Name x p) name apos,[e,f],[]=>if name="get" then(match oJ c x with | some kvs=>(if plain e=true/\plain f=true/\(apos.endLine == cpos.line)=true then Gz kvs (fE e) (fE f) else bH) | none=>Hu fE (.Name x p) e f apos cpos) else if name="pop" then Hw c fE x p e f apos cpos else if name="insert" then Qe fE x p e f apos cpos else wo fE (.Name x p) name [e,f] apos cpos
 | .Attribute o name apos,e::es,[]=>wo fE o name (e::es) apos cpos
 | .Attribute (.Name x p) name apos,[],[]=>if name="clear"/\(apos.endLine == cpos.line)=true then G_ (fE (.Name x p)) else bH
 | .Attribute (.Subscript a b p) name apos,[],[]=>if name="clear"/\(apos.endLine == cpos.line)=true then G_ (fE (.Subscript a b p)) else bH
 | _,_,_=>bH
theorem DQ{c:Ct}{k:Nat}(G:Good c k X){fE:Expr->GE}(h:∀e,JE X e (fE e))(x:Str)(e:Expr)(es:List Expr)(p pos:Pos):JE X (.Call (.Name x p) (e::es) [] pos) (Ag c fE x (e::es)):=by
 unfold Ag
 by_cases g:okN x=true/\(e::es).all plain=true/\c.names.lookup x=some .globalImplicit
 ·rw[if_pos g]
  obtain⟨g1,g2,g3⟩:=g
  have hg:Gl X x:=by
   show X.env.scope.names.lookup x=_
   rw[G.sc];exact g3
  have gp:plain e=true/\es.all plain=true:=by rw[fb,dZ] at g2;exact g2
  have ha:=gF h (e::es) g2
  cases e1:c.fns.lookup x with
  | some nF=>
   obtain⟨n,F⟩:=nF
   dsimp only
   by_cases cf:c.free=true
   ·rw[if_pos cf]
    obtain⟨a,fd,ps,G1,G2,G3,G4⟩:=G.fns x n F e1
    exact Kc G1 (G.free cf).1 G2 G3 G4 ha hg (iN g1) (aJ gp.1) (gS gp.2)
   ·rw[if_neg cf]
    exact aG
  | none=>
   dsimp only
   by_cases e3:c.bl.contains x=true
   ·rw[if_pos e3]
    cases e4:We c x with
    | none=>exact aG
    | some io=>
     obtain⟨v,op⟩:=io
     obtain⟨b1,b2,b3⟩:=Qd (X:=X) G.tab (λz=>(G.free z).2) e4
     rcases b3 with ⟨id,rfl⟩ | ⟨T,rfl⟩
     ·exact Fp b2 hg (G.bl x e3) b1 ha (Hm g1) (iN g1) (aJ gp.1) (gS gp.2)
     ·exact CT b2 hg (G.bl x e3) b1 ha (Hm g1) (iN g1) (aJ gp.1) (gS gp.2)
   ·rw[if_neg e3]
    exact aG
 ·rw[if_neg g];exact aG
theorem HD{fE:Expr->GE}(h:∀e,JE X e (fE e))(x name:Str)(e:Expr)(p apos cpos:Pos):JE X (.Call (.Attribute (.Name x p) name apos) [e] [] cpos) (Ht fE (.Name x p) name e apos cpos):=by
 unfold Ht
 by_cases g:plain e=true/\(apos.endLine == cpos.line)=true
 ·rw[if_pos g]
  by_cases n1:name="append"
  ·rw[if_pos n1]
   subst n1
   exact A7 F2 PySem.F.slot_list_append PySem.F.type_list_append (h _) (h e) (aJ g.1) g.2
  rw[if_neg n1]
  by_cases n2:name="extend"
  ·rw[if_pos n2]
   subst n2
   exact A7 KQ PySem.F.slot_list_extend PySem.F.type_list_extend (h _) (h e) (aJ g.1) g.2
  rw[if_neg n2]
  exact aG
 ·rw[if_neg g];exact aG
theorem HE{c:Ct}{k:Nat}(G:Good c k X){fE:Expr->GE}(h:∀e,JE X e (fE e))(f:Expr)(as:List Expr)(ks:List Keyword)(pos:Pos):JE X (.Call f as ks pos) (HC c fE pos f as ks):=by
 unfold HC
 split
 ·exact DQ G h _ _ _ _ _
 ·rename_i x p name apos e
  by_cases gg:name="get"
  ·rw[if_pos gg];subst gg;exact HB G h _ _ _ _ _
  rw[if_neg gg]
  by_cases gp:name="pop"
  ·rw[if_pos gp];subst gp;exact Hz G h _ _ _ _ _
  rw[if_neg gp]
  by_cases g:name="append"\/name="extend"
  ·rw[if_pos g];exact HD h _ _ _ _ _ _
  ·rw[if_neg g]
   exact pO h _ _ _ _ _ _
 ·rename_i x p name apos e f
  by_cases g:name="get"
  ·rw[if_pos g]
   subst g
   cases ed:oJ c x with
   | none=>exact Hv G h _ rfl _ _ _ _
   | some kvs=>
    dsimp only
    by_cases g:plain e=true/\plain f=true/\(apos.endLine == pos.line)=true
    ·rw[if_pos g]
     obtain⟨g1,g2,g3⟩:=g
     obtain⟨q1,q2,q3⟩:=md G ed
     refine GB (h e) (h f) ⟨rfl,?_,g3,?_⟩ q1 q2 q3
     ·rw[all_plain (es:=[e,f]) (by simp[g1,g2])]
      rfl
     ·rw[aJ g1,aJ g2]
      rfl
    ·rw[if_neg g];exact aG
  ·rw[if_neg g]
   by_cases g2:name="pop"
   ·rw[if_pos g2];subst g2;exact Hx G h _ _ _ _ _ _
   rw[if_neg g2]
   by_cases g3:name="insert"
   ·rw[if_pos g3];subst g3;exact Ls h _ _ _ _ _ _
   ·rw[if_neg g3];exact pO h _ _ _ _ _ _
 ·exact pO h _ _ _ _ _ _
 ·rename_i x p name apos
  by_cases g:name="clear"/\(apos.endLine == pos.line)=true
  ·rw[if_pos g];obtain⟨rfl,g2⟩:=g;exact Ha (h _) ⟨rfl,g2⟩
  ·rw[if_neg g];exact aG
 ·rename_i a b p name apos
  by_cases g:name="clear"/\(apos.endLine == pos.line)=true
  ·rw[if_pos g];obtain⟨rfl,g2⟩:=g;exact Ha (h _) ⟨rfl,g2⟩
  ·rw[if_neg g];exact aG
 ·exact aG
def DR:Expr->Bool
 | .Slice .. =>true
 | _=>false
def HF(f:Expr->GE):Option Expr->GO
 | none=>lW
 | some e=>qj (f e)
theorem BI{f:Expr->GE}(h:∀e,JE X e (f e))(o:Option Expr):JO X o (HF f o):=by
 cases o with
 | none=>exact J4
 | some e=>exact J5 (h e)
def Lu(f:Expr->GE)(a:Expr):Expr->GE
 | .Slice lo hi none _=>iK (f a) (HF f lo) (HF f hi)
 | .Slice .. =>bH
 | b=>ai cU (f a) (f b)
theorem HG{f:Expr->GE}(h:∀e,JE X e (f e))(a b:Expr)(pos:Pos):JE X (.Subscript a b pos) (Lu f a b):=by
 unfold Lu
 split
 ·exact Df (h a) (BI h _) (BI h _)
 ·exact aG
 ·rename_i n1 n2
  refine Tz (h a) (h b) ?_
  intro o i
  cases b<;>first | rfl | (rename_i lo hi st p;exact(n2 _ _ _ _ rfl).elim)
def HH(f:Expr->GE)(a:Expr):List CmpOp->List Expr->GE
 | [o],[b]=>if ae2 o b=false then ai (Af o) (f a) (f b) else bH
 | [o,o'],[b,b']=>if lastMarks [o,o'] [b,b']=false then i8 (Af o) (Af o') (f a) (f b) (f b') else bH
 | _,_=>bH
theorem Ah(hu:X.A.units+64 < cLine){f:Expr->GE}(h:∀e,JE X e (f e))(a:Expr)(os:List CmpOp)(bs:List Expr)(pos:Pos):JE X (.Compare a os bs pos) (HH f a os bs):=by
 unfold HH
 split
 ·rename_i o b
  by_cases g:ae2 o b=false
  ·rw[if_pos g];exact rK (ma hu o) (h a) (h b) g
  ·rw[if_neg g];exact aG
 ·rename_i o o' b b'
  by_cases g:lastMarks [o,o'] [b,b']=false
  ·rw[if_pos g];exact Fd (ma hu o) (ma hu o') (h a) (h b) (h b') g
  ·rw[if_neg g];exact aG
 ·exact aG
def HI(f:Expr->GE)(a:Expr):List CmpOp->List Expr->GT
 | [o],[b]=>if ae2 o b=false then bz (ai (Af o) (f a) (f b)) else ju
 | [o,o'],[b,b']=>if lastMarks [o,o'] [b,b']=false then bz (i8 (Af o) (Af o') (f a) (f b) (f b')) else ju
 | _,_=>ju
theorem wq(hu:X.A.units+64 < cLine){f:Expr->GE}(h:∀e,JE X e (f e))(a:Expr)(os:List CmpOp)(bs:List Expr)(pos:Pos):JT X (.Compare a os bs pos) (HI f a os bs):=by
 unfold HI
 split
 ·rename_i o b
  by_cases g:ae2 o b=false
  ·rw[if_pos g];exact rL (ma hu o) (h a) (h b) g
  ·rw[if_neg g];exact i_
 ·rename_i o o' b b'
  by_cases g:lastMarks [o,o'] [b,b']=false
  ·rw[if_pos g];exact Fe (ma hu o) (ma hu o') (h a) (h b) (h b') g
  ·rw[if_neg g];exact i_
 ·exact i_
def yq(c:Ct):Expr->Bool
 | .Name x _=>c.m6.contains x
 | _=>false
def MA(c:Ct)(x:Str)(neg:Bool):fS:=if c.m6.contains x=true then sE neg else wb neg
theorem HJ(c:Ct)(x:Str)(hu:X.A.units+64 < cLine):jD X (ae7 .In) (MA c x false):=by
 unfold MA
 split
 ·exact P6 hu
 ·exact Pu hu
theorem u7(c:Ct)(x:Str)(hu:X.A.units+64 < cLine):jD X (ae7 .NotIn) (MA c x true):=by
 unfold MA
 split
 ·exact DH hu
 ·exact Dv hu
def Lw(c:Ct)(f:Expr->GE)(a:Expr):List CmpOp->List Expr->GE
 | [.In],[.Name x p]=>(match oJ c x with | some kvs=>kM false kvs (f a) | none=>if c.Ll.contains x=true then(if ae2 .In (.Name x p)=false then ai (MA c x false) (f a) (f (.Name x p)) else bH) else HH f a [.In] [.Name x p])
 | [.NotIn],[.Name x p]=>(match oJ c x with | some kvs=>kM true kvs (f a) | none=>if c.Ll.contains x=true then(if ae2 .NotIn (.Name x p)=false then ai (MA c x true) (f a) (f (.Name x p)) else bH) else HH f a [.NotIn] [.Name x p])
 | os,bs=>HH f a os bs
theorem BJ{c:Ct}{k:Nat}(G:Good c k X){f:Expr->GE}(h:∀e,JE X e (f e))(a:Expr)(os:List CmpOp)(bs:List Expr)(pos:Pos):JE X (.Compare a os bs pos) (Lw c f a os bs):=by
 unfold Lw
 split
 ·rename_i x p
  cases e:oJ c x with
  | none=>
   dsimp only
   by_cases gd:c.Ll.contains x=true
   ·rw[if_pos gd]
    by_cases gm:ae2 .In (.Name x p)=false
    ·rw[if_pos gm];exact rK (HJ c x G.un) (h a) (h _) gm
    ·rw[if_neg gm];exact aG
   ·rw[if_neg gd];exact Ah G.un h a _ _ pos
  | some kvs=>obtain⟨g1,g2,g3⟩:=md G e;exact Kz (h a) g1 g2 g3
 ·rename_i x p
  cases e:oJ c x with
  | none=>
   dsimp only
   by_cases gd:c.Ll.contains x=true
   ·rw[if_pos gd]
    by_cases gm:ae2 .NotIn (.Name x p)=false
    ·rw[if_pos gm];exact rK (u7 c x G.un) (h a) (h _) gm
    ·rw[if_neg gm];exact aG
   ·rw[if_neg gd];exact Ah G.un h a _ _ pos
  | some kvs=>obtain⟨g1,g2,g3⟩:=md G e;exact zK (h a) g1 g2 g3
 ·exact Ah G.un h a _ _ pos
def BK(c:Ct)(f:Expr->GE)(a:Expr):List CmpOp->List Expr->GT
 | [.In],[.Name x p]=>(match oJ c x with | some kvs=>bz (kM false kvs (f a)) | none=>if c.Ll.contains x=true then(if ae2 .In (.Name x p)=false then bz (ai (MA c x false) (f a) (f (.Name x p))) else ju) else HI f a [.In] [.Name x p])
 | [.NotIn],[.Name x p]=>(match oJ c x with | some kvs=>bz (kM true kvs (f a)) | none=>if c.Ll.contains x=true then(if ae2 .NotIn (.Name x p)=false then bz (ai (MA c x true) (f a) (f (.Name x p))) else ju) else HI f a [.NotIn] [.Name x p])
 | os,bs=>HI f a os bs
theorem yt{c:Ct}{k:Nat}(G:Good c k X){f:Expr->GE}(h:∀e,JE X e (f e))(a:Expr)(os:List CmpOp)(bs:List Expr)(pos:Pos):JT X (.Compare a os bs pos) (BK c f a os bs):=by
 unfold BK
 split
 ·rename_i x p
  cases e:oJ c x with
  | none=>
   dsimp only
   by_cases gd:c.Ll.contains x=true
   ·rw[if_pos gd]
    by_cases gm:ae2 .In (.Name x p)=false
    ·rw[if_pos gm];exact rL (HJ c x G.un) (h a) (h _) gm
    ·rw[if_neg gm];exact i_
   ·rw[if_neg gd];exact wq G.un h a _ _ pos
  | some kvs=>obtain⟨g1,g2,g3⟩:=md G e;exact KA (h a) g1 g2 g3
 ·rename_i x p
  cases e:oJ c x with
  | none=>
   dsimp only
   by_cases gd:c.Ll.contains x=true
   ·rw[if_pos gd]
    by_cases gm:ae2 .NotIn (.Name x p)=false
    ·rw[if_pos gm];exact rL (u7 c x G.un) (h a) (h _) gm
    ·rw[if_neg gm];exact i_
   ·rw[if_neg gd];exact wq G.un h a _ _ pos
  | some kvs=>obtain⟨g1,g2,g3⟩:=md G e;exact zL (h a) g1 g2 g3
 ·exact wq G.un h a _ _ pos
def Lx(c:Ct):Expr->Bool
 | .Subscript (.Name x _) (.Constant (.int 0) _ _) _=>c.m6.contains (x++"[]")
 | .Subscript (.Call (.Name x _) _ _ _) (.Constant (.int 0) _ _) _=>c.m6.contains (x++"()[]")
 | .Call (.Name x _) _ _ _=>c.m6.contains (x++"()")
 | e=>yq c e
def fD(f:Expr->GE):Expr->GE
 | .Dict [] [] _=>hZ
 | e=>f e
theorem BL{f:Expr->GE}(h:∀e,JE X e (f e))(b:Expr):JE X b (fD f b):=by
 unfold fD
 split
 ·exact Bq
 ·exact h _
def Qf(c:Ct)(f:Expr->GE)(a:Expr)(os:List CmpOp)(bs:List Expr):GE:=if Lx c a=true then(match os,bs with
 | [.Eq],[b]=>if ae2 .Eq b=false then ai qB (f a) (fD f b) else bH
 | [.NotEq],[b]=>if ae2 .NotEq b=false then ai mY (f a) (fD f b) else bH
 | os,bs=>Lw c f a os bs) else Lw c f a os bs
theorem Ly{c:Ct}{k:Nat}(G:Good c k X){f:Expr->GE}(h:∀e,JE X e (f e))(a:Expr)(os:List CmpOp)(bs:List Expr)(pos:Pos):JE X (.Compare a os bs pos) (Qf c f a os bs):=by
 unfold Qf
 by_cases g:Lx c a=true
 ·rw[if_pos g]
  split
  ·rename_i b
   by_cases gm:ae2 .Eq b=false
   ·rw[if_pos gm];exact rK (G7 G.un) (h a) (BL h b) gm
   ·rw[if_neg gm];exact aG
  ·rename_i b
   by_cases gm:ae2 .NotEq b=false
   ·rw[if_pos gm];exact rK (G8 G.un) (h a) (BL h b) gm
   ·rw[if_neg gm];exact aG
  ·exact BJ G h a _ _ pos
 ·rw[if_neg g];exact BJ G h a os bs pos
def HK(c:Ct)(f:Expr->GE)(a:Expr)(os:List CmpOp)(bs:List Expr):GT:=if Lx c a=true then(match os,bs with
 | [.Eq],[b]=>if ae2 .Eq b=false then bz (ai qB (f a) (fD f b)) else ju
 | [.NotEq],[b]=>if ae2 .NotEq b=false then bz (ai mY (f a) (fD f b)) else ju
 | os,bs=>BK c f a os bs) else BK c f a os bs
theorem HL{c:Ct}{k:Nat}(G:Good c k X){f:Expr->GE}(h:∀e,JE X e (f e))(a:Expr)(os:List CmpOp)(bs:List Expr)(pos:Pos):JT X (.Compare a os bs pos) (HK c f a os bs):=by
 unfold HK
 by_cases g:Lx c a=true
 ·rw[if_pos g]
  split
  ·rename_i b
   by_cases gm:ae2 .Eq b=false
   ·rw[if_pos gm];exact rL (G7 G.un) (h a) (BL h b) gm
   ·rw[if_neg gm];exact i_
  ·rename_i b
   by_cases gm:ae2 .NotEq b=false
   ·rw[if_pos gm];exact rL (G8 G.un) (h a) (BL h b) gm
   ·rw[if_neg gm];exact i_
  ·exact yt G h a _ _ pos
 ·rw[if_neg g];exact yt G h a os bs pos
def Lz(c:Ct):Expr->Bool
 | .Name x _=>c.m6.contains x||c.dks.contains x
 | _=>false
def Qg(c:Ct)(f:Expr->GE):Expr->Expr->GE
 | .Name x p,b=>(match oJ c x with | some kvs=>if DR b=false then Bi kvs (f b) else bH | none=>if Lz c (.Name x p)=true/\DR b=false then f' (f (.Name x p)) (f b) else Lu f (.Name x p) b)
 | a,b=>Lu f a b
theorem LA{c:Ct}{k:Nat}(G:Good c k X){f:Expr->GE}(h:∀e,JE X e (f e))(a b:Expr)(pos:Pos):JE X (.Subscript a b pos) (Qg c f a b):=by
 unfold Qg
 split
 ·rename_i x p
  cases e:oJ c x with
  | none=>
   dsimp only
   by_cases g:Lz c (.Name x p)=true/\DR b=false
   ·rw[if_pos g]
    refine KW (by have:=G.un;omega) (h _) (h b) ?_
    intro o i
    cases b<;>first | rfl | cases g.2
   ·rw[if_neg g];exact HG h _ b pos
  | some kvs=>
   dsimp only
   by_cases g:DR b=false
   ·rw[if_pos g]
    obtain⟨g1,g2,g3⟩:=md G e
    refine KD (h b) ?_ g1 g2 g3
    intro o i
    cases b<;>first | rfl | cases g
   ·rw[if_neg g];exact aG
 ·exact HG h _ b pos
def pairsOf(f:Expr->GE):List (Option Expr)->List Expr->Option (List (GE×GE))
 | [],[]=>some []
 | some k::ks,v::vs=>(match pairsOf f ks vs with | some r=>some ((f k,f v)::r) | none=>none)
 | _,_=>none
def Uo:List (Option Expr)->Bool
 | some (.Tuple ..)::_=>true
 | _=>false
def Uq(c:Ct):List (Option Expr)->Bool
 | some (.Name x _)::_=>c.m6.contains x
 | _=>false
def HM(b:Bool)(f:Expr->GE)(ks:List (Option Expr))(vs:List Expr):GE:=if(!ks.isEmpty&&decide (ks.length<=15))=true then(match pairsOf f ks vs with | some gs=>if b=true then bH else bH | none=>bH) else bH
theorem BM(hu:X.A.units+1 < cLine)(b:Bool){f:Expr->GE}(h:∀e,JE X e (f e))(ks:List (Option Expr))(vs:List Expr)(pos:Pos):JE X (.Dict ks vs pos) (HM b f ks vs):=by
 unfold HM
 by_cases g:(!ks.isEmpty&&decide (ks.length<=15))=true
 ·rw[if_pos g]
  simp only[dZ,decide_eq_true_eq] at g
  cases e:pairsOf f ks vs with
  | none=>exact aG
  | some gs=>
   dsimp only
   by_cases t:b=true
   ·rw[if_pos t];exact aG
   ·rw[if_neg t];exact aG
 ·rw[if_neg g];exact aG
def Qh(f:Expr->GE):List Expr->GE
 | []=>bH
 | [a]=>f a
 | a::b::r=>cD (f a) (Qh f (b::r))
def Yf(f:Expr->GE):List Expr->GE
 | []=>bH
 | [a]=>f a
 | a::b::r=>S_ (f a) (Yf f (b::r))
theorem BN{f:Expr->GE}(h:∀e,JE X e (f e))(pos:Pos):∀es,JE X (.BoolOp .And es pos) (Qh f es)
 | []=>aG
 | [a]=>Fh (h a)
 | a::b::r=>Oz (h a) (BN h pos (b::r))
theorem HN{f:Expr->GE}(h:∀e,JE X e (f e))(pos:Pos):∀es,JE X (.BoolOp .Or es pos) (Yf f es)
 | []=>aG
 | [a]=>Fh (h a)
 | a::b::r=>Te (h a) (HN h pos (b::r))
def Qi(f:Expr->GT):List Expr->GT
 | []=>ju
 | [a]=>f a
 | a::b::r=>Fg (f a) (Qi f (b::r))
def Yg(f:Expr->GT):List Expr->GT
 | []=>ju
 | [a]=>f a
 | a::b::r=>CO (f a) (Yg f (b::r))
theorem HP{e:Expr}:JW X e ju:=λρ st σ H m Q S R p=>aa p
theorem BO{f:Expr->GT}(h:∀e,JT X e (f e))(pos:Pos):∀es,JW X (.BoolOp .And es pos) (Qi f es)
 | []=>HP
 | [a]=>JU (h a)
 | a::b::r=>Ox (h a) (BO h pos (b::r))
theorem HQ{f:Expr->GT}(h:∀e,JT X e (f e))(pos:Pos):∀es,JW X (.BoolOp .Or es pos) (Yg f es)
 | []=>HP
 | [a]=>Ow (h a)
 | a::b::r=>S8 (h a) (HQ h pos (b::r))
def unG(f:Expr->GE):UnaryOp->Expr->GE
 | .USub,a=>gUn Ff (f a)
 | .Not,a=>xC (f a)
 | _,_=>bH
def DS(f:Expr->GE)(g:GA->GE)(es:List Expr):GE:=if es.all plain=true then g (mI f es) else bH
def isSet:Expr->Bool
 | .Set .. =>true
 | _=>false
theorem jR{e:Expr}{env:Env}(h:isSet e=false)(x:ae0):ae8 e env x=pure x:=by
 cases e<;>first | rfl | cases h
def iO(c:Ct)(x:Str):Bool:=decide (x="range")&&decide (c.names.lookup x=some .globalImplicit)&&c.bl.contains x&&(match c.fns.lookup x with | some _=>false | none=>true)
theorem yu{c:Ct}{k:Nat}(G:Good c k X)(y:Str)(hy:iO c y=true):y="range"/\Gl X y/\X.mg y=none:=by
 unfold iO at hy
 simp only[dZ,decide_eq_true_eq] at hy
 refine⟨hy.1.1.1,?_,G.bl y hy.1.2⟩
 show X.env.scope.names.lookup y=_
 rw[G.sc];exact hy.1.1.2
def BP(c:Ct)(f:Expr->GE):Expr->GI
 | .Call (.Name x p) [a] [] q=>if iO c x=true then(if plain a=true then Kq (mI f [a]) else F_) else hJ (f (.Call (.Name x p) [a] [] q))
 | e=>if isSet e=false then hJ (f e) else F_
theorem BQ{c:Ct}{k:Nat}(G:Good c k X){f:Expr->GE}(h:∀e,JE X e (f e))(tg e:Expr):JI X tg e (BP c f e):=by
 unfold BP
 split
 ·rename_i y p a q
  by_cases g:iO c y=true
  ·rw[if_pos g]
   obtain⟨rfl,g2,g3⟩:=yu G y g
   by_cases ga:plain a=true
   ·rw[if_pos ga]
    exact TX g2 g3 (gF h [a] (by simp[ga])) (aJ ga)
   ·rw[if_neg ga];exact Gb
  ·rw[if_neg g];exact Bf (h _)
 ·by_cases g:isSet e=false
  ·rw[if_pos g];exact Bf (h _)
  ·rw[if_neg g];exact Gb
def Yh(c:Ct)(x:Str):Bool:=decide (x="enumerate")&&decide (c.names.lookup x=some .globalImplicit)&&c.bl.contains x&&(match c.fns.lookup x with | some _=>false | none=>true)
def Yi(gi:GI):RP:=λρ st=>(gi ρ st).bind λw st1=> .ok (w.1.map λl=>(l,w.2),w.2) st1
def Ai(c:Ct)(f:Expr->GE):Expr->RP
 | e=>Yi (BP c f e)
theorem HR{c:Ct}{k:Nat}(G:Good c k X){f:Expr->GE}(h:∀e,JE X e (f e))(es:List Expr)(kt:Nat)(pt:Pos)(e:Expr):Wa X (.Tuple es kt pt) e (Ai c f e):=by
 unfold Ai
 exact Ph (BQ G h _ _)
def MB(c:Ct):Expr->Bool
 | .Call (.Name x _) [_] [] _=>Yh c x
 | _=>false
def qx(c:Ct):List (Str×aeX)->Option gD
 | []=>some []
 | (n,.free)::r=>if c.names.lookup n=some .cell\/c.names.lookup n=some .free then(match oI n c.N,qx c r with | some i,some l=>some ((n,i)::l) | _,_=>none) else none
 | _::r=>qx c r
theorem sH{c:Ct}:∀{ns:List (Str×aeX)}{cs:gD},qx c ns=some cs->(∀y∈ns,y.2= .free->c.names.lookup y.1=some .cell\/c.names.lookup y.1=some .free)/\∀p∈cs,(p.1,dM)∈ns/\c.N[p.2]? =some p.1
 | [],cs,h=>by cases h;exact⟨(λ_ z=>by cases z),(λ_ z=>by cases z)⟩
 | (n,k)::r,cs,h=>by
  unfold qx at h
  split at h
  ·cases ‹_::_=[]›
  ·rename_i n' r' he
   cases he
   by_cases g:c.names.lookup n=some .cell\/c.names.lookup n=some .free
   ·rw[if_pos g] at h
    cases e1:oI n c.N with
    | none=>rw[e1] at h;cases h
    | some i=>
     cases e2:qx c r with
     | none=>rw[e1,e2] at h;cases h
     | some l=>
      rw[e1,e2] at h
      cases h
      obtain⟨q1,q2⟩:=sH e2
      refine⟨λy hy e=>?_,λp hp=>?_⟩
      ·rcases List.mem_cons.mp hy with z | z
       ·subst z;exact g
       ·exact q1 y z e
      ·rcases List.mem_cons.mp hp with z | z
       ·subst z;exact⟨aQ,jB e1⟩
       ·exact⟨aI _ (q2 p z).1,(q2 p z).2⟩
   ·rw[if_neg g] at h;cases h
  ·rename_i kk r' hk he
   cases he
   obtain⟨q1,q2⟩:=sH h
   refine⟨λy hy e=>?_,λp hp=>⟨aI _ (q2 p hp).1,(q2 p hp).2⟩⟩
   rcases List.mem_cons.mp hy with z | z
   ·subst z
    have e':k= .free:=e
    subst e'
    exact(hk n rfl).elim
   ·exact q1 y z e
def Aj(c:Ct)(ns:List (Str×aeX)):List (Str×aeX):=ns.map λ(n,k)=>if(k == .free&&c.names.lookup n == some .cell) then(n,.cell) else(n,k)
def Ur:ScopeKind->Bool
 | .function=>true
 | _=>false
def me(scope:Scope)(x:Str):Bool:=Ur scope.kind&&scope.names.all (λy=>decide (scope.names.lookup y.1=some y.2))&&scope.names.all (λy=>decide (y.2≠.cell))&&decide (scope.names.lookup x=some .local)
def Ct.block(c:Ct)(scope:Scope)(x:Str)(cs:gD):Ct:={ c with N:=x::cs.map (·.1),names:=Aj c scope.names,loop:=false,top:=false }
def HS(c:Ct)(f:Expr->GE)(e:Expr):GI:=if yq c e=true then kQ (f e) else BP c f e
theorem yv{c:Ct}{k:Nat}(G:Good c k X){f:Expr->GE}(h:∀e,JE X e (f e))(tg e:Expr):JI X tg e (HS c f e):=by
 unfold HS
 by_cases g:yq c e=true
 ·rw[if_pos g];exact K0 (h e)
 ·rw[if_neg g];exact BQ G h tg e
def BR(c:Ct):Expr->Option Nat
 | .Name x _=>oI x c.N
 | _=>none
def BS(c:Ct)(e:Expr)(g:GE):GE:=if yq c e=true then(match BR c e with | some j=>jO j g | none=>g) else g
def yw(c:Ct)(sub:Ct->(Expr->GE)×(Expr->GT))(f:Expr->GE)(elt:Expr)(x:Str)(iter:Expr)(Qj:Ct->GT)(scope:Scope):GE :=
 if me scope x=true/\c.free=true/\isSet iter=false then(match qx c scope.names with
  | some cs=>if(x::cs.map (·.1)).Nodup then BS c iter (hI cs (HS c f iter) (Qj (c.block scope x cs)) ((sub (c.block scope x cs)).1 elt)) else bH
  | none=>bH) else bH
def Wf(c:Ct)(sub:Ct->(Expr->GE)×(Expr->GT))(f:Expr->GE)(elt:Expr)(scope:Scope):List Comprehension->GE
 | [⟨.Name x _,iter,[],0⟩]=>yw c sub f elt x iter (λ_=>λ_ st=> .ok true st) scope
 | [⟨.Name x _,iter,[q],0⟩]=>yw c sub f elt x iter (λc'=>(sub c').2 q) scope
 | _=>bH
theorem sI{c:Ct}{k:Nat}(G:Good c k X){scope:Scope}{x:Str}{cs:gD}(hs:me scope x=true)(nd:(x::cs.map (·.1)).Nodup)(C:aeU)(s0:aeZ)(H0:Hp)(fp:List aeU)(pn:List (aeU×Obj))(E:ae0->aeZ->Prop)(hA:C5 X.A H0) :
  Good (c.block scope x cs) k (f9 X scope x cs C s0 H0 fp pn E):=by
 unfold me at hs
 simp only[dZ,decide_eq_true_eq] at hs
 have hk:scope.kind= .function:=by
  have:=hs.1.1.1
  revert this
  cases scope.kind<;>intro z<;>first | rfl | cases z
 refine⟨rfl,?_,nd,G.un,G.free,(λz=>by cases z),G.cst,G.bl,G.fns,(λz=>by cases z),(λz=>by cases z),hk,G.tab,G.cls,G.DL,G.BF,⟨G.rm.d,G.rm.u⟩,G.Je,⟨G.x.lam,G.x.Ln,G.x.Uj,(λz=>by cases z)⟩,G.fr,hA⟩
 show(relabel scope X.env).names=Aj c scope.names
 unfold relabel Aj Env.kindOf
 rw[G.kind,G.sc]
 simp
theorem HU{c:Ct}{k:Nat}(G:Good c k X){scope:Scope}{x:Str}{cs:gD}(hs:me scope x=true)(hcs:qx c scope.names=some cs)(nd:(x::cs.map (·.1)).Nodup):eG X scope x cs:=by
 unfold me at hs
 simp only[dZ,decide_eq_true_eq,m7] at hs
 obtain⟨⟨⟨h1,h2⟩,h3⟩,h4⟩:=hs
 have hk:scope.kind= .function:=by
  revert h1
  cases scope.kind<;>intro z<;>first | rfl | cases z
 obtain⟨q1,q2⟩:=sH hcs
 refine⟨hk,h2,h3,h4,λy hy e=>?_,λp hp=>⟨by rw[G.N];exact(q2 p hp).2,h2 _ (q2 p hp).1⟩,nd⟩
 show X.env.scope.names.lookup y.1=_\/X.env.scope.names.lookup y.1=_
 rw[G.sc];exact q1 y hy e
def LB(X:Cx)(e:Expr)(g:GE):Prop:=∀(i:Nat)(y:Str)(py spos:Pos),X.N.Nodup->X.N[i]? =some y->Loc X.env.scope y->(X.fn y=true\/X.env.scope.names.lookup y=some .local)->JS X (.Assign [.Name y py] e spos) (bB i g)
theorem DT{i:Nat}{s:Stmt}:JS X s (bB i bH):=λρ st σ H m D S R p=>aa p
theorem iP{e:Expr}:LB X e bH:=λi y py spos _ _ _ _=>DT
theorem HV{i j:Nat}{g:GE}:bB i (jO j g)=jA j (bB i g):=by
 funext ρ st
 show(jO j g ρ st).a7 ρ (λw st'=> .nx (ρ.set i (some w)) st')=jA j (bB i g) ρ st
 unfold jA jO
 cases mF ρ[j]? st with
 | none=>rfl
 | some l=>
  show((match g ρ st with | .ok w st'=>Re.ok w (jz l st') | r=>r).a7 ρ λw st'=> .nx (ρ.set i (some w)) st')=(match(g ρ st).a7 ρ (λw st'=> .nx (ρ.set i (some w)) st') with | .nx ρ' st'=> .nx ρ' (jz l st') | r=>r)
  cases g ρ st<;>rfl
theorem HW{c:Ct}{it e:Expr}{g:GE}(h:JE X e g/\LB X e g):JE X e (BS c it g)/\LB X e (BS c it g):=by
 unfold BS
 by_cases q:yq c it=true
 ·rw[if_pos q]
  cases BR c it with
  | none=>exact h
  | some j=>exact⟨KZ j h.1,λi y py spos hN hi hl hf=>by rw[HV];exact wd j (h.2 i y py spos hN hi hl hf)⟩
 ·rw[if_neg q];exact h
theorem BU{c:Ct}{k:Nat}(G:Good c k X){sub:Ct->(Expr->GE)×(Expr->GT)}(hb:∀c X,Good c k X->(∀e,JE X e ((sub c).1 e))/\∀e,JT X e ((sub c).2 e)){f:Expr->GE}(h:∀e,JE X e (f e))(elt:Expr)(scope:Scope)(gens:List Comprehension)(pos:Pos) :
  JE X (.ListComp elt gens scope pos) (Wf c sub f elt scope gens)/\LB X (.ListComp elt gens scope pos) (Wf c sub f elt scope gens):=by
 have core:∀(x:Str)(px:Pos)(iter:Expr)(ifs:List Expr)(Qj:Ct->GT),(∀c X,Good c k X->Mq X ifs (Qj c))->
   JE X (.ListComp elt [⟨.Name x px,iter,ifs,0⟩] scope pos) (yw c sub f elt x iter Qj scope)/\LB X (.ListComp elt [⟨.Name x px,iter,ifs,0⟩] scope pos) (yw c sub f elt x iter Qj scope):=by
  intro x px iter ifs Qj hg
  unfold yw
  by_cases g:me scope x=true/\c.free=true/\isSet iter=false
  ·rw[if_pos g]
   obtain⟨g1,g2,g3⟩:=g
   cases ec:qx c scope.names with
   | none=>exact⟨aG,iP⟩
   | some cs=>
    dsimp only
    by_cases nd:(x::cs.map (·.1)).Nodup
    ·rw[if_pos nd]
     have CS:=HU G g1 ec nd
     have hE:∀C s0 H0 fp pn E,C5 X.A H0->JE (f9 X scope x cs C s0 H0 fp pn E) elt ((sub (c.block scope x cs)).1 elt):=λC s0 H0 fp pn E z=>(hb _ _ (sI G g1 nd C s0 H0 fp pn E z)).1 elt
     have hT:∀C s0 H0 fp pn E,C5 X.A H0->Mq (f9 X scope x cs C s0 H0 fp pn E) ifs (Qj (c.block scope x cs)):=λC s0 H0 fp pn E z=>hg _ _ (sI G g1 nd C s0 H0 fp pn E z)
     refine HW ?_
     exact⟨Ba G.fr CS (xR (G.free g2).2) G.hd (yv G h _ iter).y hE hT (jR g3),λi y py spos hN hi hl hf=>Kr i hN G.fr CS (xR (G.free g2).2) G.hd (yv G h _ iter).y hE hT (jR g3) hi hl hf⟩
    ·rw[if_neg nd];exact⟨aG,iP⟩
  ·rw[if_neg g];exact⟨aG,iP⟩
 unfold Wf
 split
 ·exact core _ _ _ _ _ λ_ _ _=>Ko
 ·exact core _ _ _ _ _ λc X G'=>Kp ((hb c X G').2 _)
 ·exact⟨aG,iP⟩
def HX(c:Ct)(sub:Ct->(Expr->GE)×(Expr->GT))(f:Expr->GE)(t:Expr->GT):Expr->GE
 | .Name x _=>Ho c x
 | .Constant k _ _=>Hr k
 | .BinOp a o b _=>ai (Um o) (f a) (f b)
 | .UnaryOp o a _=>unG f o a
 | .BoolOp .And es _=>Qh f es
 | .BoolOp .Or es _=>Yf f es
 | .Compare a os bs _=>Qf c f a os bs
 | .IfExp q a b _=>Tf (t q) (f a) (f b)
 | .Tuple es _ _=>DS f eh es
 | .List es _=>DS f gZ es
 | .Subscript a b _=>Qg c f a b
 | .Dict [] [] _=>Mu
 | .Dict ks vs _=>HM (Uo ks||Uq c ks) f ks vs
 | .Call g as ks p=>HC c f p g as ks
 | .ListComp elt gens scope _=>Wf c sub f elt scope gens
 | _=>bH
def stepT(c:Ct)(f:Expr->GE)(t:Expr->GT):Expr->GT
 | .UnaryOp .Not a _=>rM (t a)
 | .BoolOp .And es _=>Qi t es
 | .BoolOp .Or es _=>Yg t es
 | .Compare a os bs _=>HK c f a os bs
 | .Name x p=>iG (f (.Name x p))
 | .Call g as ks p=>iG (f (.Call g as ks p))
 | .Subscript a b p=>iG (f (.Subscript a b p))
 | .Constant k j p=>iG (f (.Constant k j p))
 | .BinOp a o b p=>iG (f (.BinOp a o b p))
 | _=>ju
theorem yx{c:Ct}{k:Nat}(G:Good c k X){sub:Ct->(Expr->GE)×(Expr->GT)}(hb:∀k c X,Good c k X->(∀e,JE X e ((sub c).1 e))/\∀e,JT X e ((sub c).2 e)){f:Expr->GE}{t:Expr->GT}(h:∀e,JE X e (f e))(ht:∀e,JT X e (t e))(e:Expr):JE X e (HX c sub f t e):=by
 have hu:X.A.units+64 < cLine:=G.un
 cases e with
 | Name x p=>exact Hq G x p
 | Constant v j p=>exact DM v j p
 | BinOp a o b p=>exact Ou (Lr o) (h a) (h b)
 | UnaryOp o a p=>
  cases o with
  | USub=>exact Ov (h a)
  | Not=>exact OA (h a)
  | _=>exact aG
 | BoolOp o es p=>
  cases o with
  | And=>exact BN h p es
  | Or=>exact HN h p es
 | Compare a os bs p=>exact Ly G h a os bs p
 | IfExp q a b p=>exact Tg (ht q) (h a) (h b)
 | Tuple es j p=>
  show JE X _ (DS f eh es)
  unfold DS
  by_cases g:es.all plain=true
  ·rw[if_pos g];exact OB (gF h es g)
  ·rw[if_neg g];exact aG
 | List es p=>
  show JE X _ (DS f gZ es)
  unfold DS
  by_cases g:es.all plain=true
  ·rw[if_pos g];exact OC (gF h es g)
  ·rw[if_neg g];exact aG
 | Subscript a b p=>exact LA G h a b p
 | Dict ks vs p=>
  cases ks with
  | cons k ks=>exact BM (by have:=G.un;omega) _ h (k::ks) vs p
  | nil=>
   cases vs with
   | nil=>exact KH
   | cons v vs=>exact BM (by have:=G.un;omega) (Uo []||Uq c []) h [] (v::vs) p
 | Call g as ks p=>exact HE G h g as ks p
 | ListComp elt gens scope p=>exact(BU G (hb k) h elt scope gens p).1
 | _=>exact aG
def yy:Expr->Bool
 | .ListComp .. =>true
 | .SetComp .. =>true
 | .DictComp .. =>true
 | .Set .. =>true
 | _=>false
theorem oK{e:Expr}{t:Option Expr}{n:Nat}{env:Env}(h:yy e=false):swapsWith e t n env=pure false:=by
 cases e<;>first | rfl | cases h
theorem HY{c:Ct}{k:Nat}(G:Good c k X){sub:Ct->(Expr->GE)×(Expr->GT)}(hb:∀k c X,Good c k X->(∀e,JE X e ((sub c).1 e))/\∀e,JT X e ((sub c).2 e)){f:Expr->GE}{t:Expr->GT}(h:∀e,JE X e (f e))(ht:∀e,JT X e (t e))(e:Expr):LB X e (HX c sub f t e):=by
 by_cases g:yy e=false
 ·exact λi y py spos hN hi hl hf=>zC i hN (yx G hb h ht e) hi hl (oK g) hf
 ·cases e with
  | ListComp elt gens scope p=>exact(BU G (hb k) h elt scope gens p).2
  | SetComp=>exact iP
  | DictComp=>exact iP
  | Set=>exact iP
  | _=>exact absurd rfl g
theorem HZ{c:Ct}{k:Nat}(G:Good c k X){f:Expr->GE}{t:Expr->GT}(h:∀e,JE X e (f e))(ht:∀e,JT X e (t e))(e:Expr):JT X e (stepT c f t e):=by
 have hu:X.A.units+64 < cLine:=G.un
 cases e with
 | UnaryOp o a p=>
  cases o with
  | Not=>exact Oy (ht a)
  | _=>exact i_
 | BoolOp o es p=>
  cases o with
  | And=>exact(BO ht p es).jt
  | Or=>exact(HQ ht p es).jt
 | Compare a os bs p=>exact HL G h a os bs p
 | Name x p=>exact rO (h _) (λ_=>rfl)
 | Call g as ks p=>exact rO (h _) (λ_=>rfl)
 | Subscript a b p=>exact rO (h _) (λ_=>rfl)
 | Constant v j p=>exact rO (h _) (λ_=>rfl)
 | BinOp a o b p=>exact rO (h _) (λ_=>rfl)
 | _=>exact i_
end
def mJ:Nat->Ct->(Expr->GE)×(Expr->GT)
 | 0,_=>(λ_=>bH,λ_=>ju)
 | n+1,c=>(HX c (mJ n) (mJ n c).1 (mJ n c).2,stepT c (mJ n c).1 (mJ n c).2)
section
variable {X:Cx}
theorem dF:∀(n:Nat)(k:Nat)(c:Ct)(X:Cx),Good c k X->(∀e,JE X e ((mJ n c).1 e))/\∀e,JT X e ((mJ n c).2 e)
 | 0,_,_,_,_=>⟨λ_=>aG,λ_=>i_⟩
 | n+1,k,c,X,G=>⟨λe=>yx G (λk c X G=>dF n k c X G) (dF n k c X G).1 (dF n k c X G).2 e,λe=>HZ G (dF n k c X G).1 (dF n k c X G).2 e⟩
theorem H_{k:Nat}:∀(n:Nat)(c:Ct)(X:Cx),Good c k X->∀e,LB X e ((mJ n c).1 e)
 | 0,_,_,_,_=>iP
 | n+1,c,X,G,e=>HY G (λk c X G=>dF n k c X G) (dF n k c X G).1 (dF n k c X G).2 e
def slot(c:Ct)(x:Str):Option Nat:=if c.names.lookup x=some .local\/(c.names.lookup x=some .cell/\c.top=true) then oI x c.N else none
theorem oM{c:Ct}{k:Nat}(G:Good c k X){x:Str}{i:Nat}(h:slot c x=some i):X.N[i]? =some x/\(Loc X.env.scope x/\(X.fn x=true\/X.env.scope.names.lookup x=some .local)):=by
 unfold slot at h
 by_cases e:c.names.lookup x=some .local\/(c.names.lookup x=some .cell/\c.top=true)
 ·rw[if_pos e] at h
  refine⟨by rw[G.N];exact jB h,?_⟩
  rcases e with e | ⟨e,e2⟩
  ·have q:X.env.scope.names.lookup x=some .local:=by rw[G.sc];exact e
   exact⟨.inl q,.inr q⟩
  ·have q:X.env.scope.names.lookup x=some .cell:=by rw[G.sc];exact e
   exact⟨.inr q,.inl (G.fn e2 x)⟩
 ·rw[if_neg e] at h;cases h
def slots(c:Ct):List Expr->Option (List Nat)
 | []=>some []
 | .Name x _::es=>(match slot c x,slots c es with | some i,some is=>some (i::is) | _,_=>none)
 | _=>none
theorem kR{c:Ct}{k:Nat}(G:Good c k X):∀{es:List Expr}{is:List Nat},slots c es=some is->Slots X es is
 | [],is,h=>by cases h;exact .nil
 | e::es,is,h=>by
  cases e with
  | Name x p=>
   have h:(match slot c x,slots c es with | some i,some is=>some (i::is) | _,_=>none)=some is:=h
   cases e1:slot c x with
   | none=>rw[e1] at h;cases h
   | some i=>
    cases e2:slots c es with
    | none=>rw[e1,e2] at h;cases h
    | some js=>
     rw[e1,e2] at h
     cases h
     obtain⟨q1,q2⟩:=oM G e1
     exact .cons q1 q2 (kR G e2)
  | _=>cases h
def Us:Expr->Bool
 | .Tuple .. =>true
 | _=>false
def LC(es:List Expr)(v:Expr):Bool:=!Us v||decide (4<=es.length)
def Qk:Expr->Bool
 | .Dict [] [] _=>true
 | _=>false
theorem DU{es:List Expr}{k:Nat}{p:Pos}{v:Expr}(h:LC es v=true):swappedStores [.Tuple es k p] v X.env=pure none:=by
 cases v with
 | Tuple vs k2 p2=>
  have h4:4<=es.length:=by simpa [LC,Us] using h
  unfold swappedStores
  have:(!(es.length == 2||es.length == 3)||vs.length != es.length||X.env.blockKind != .function)=true:=by
   have h2:(es.length == 2)=false:=by simp;omega
   have h3:(es.length == 3)=false:=by simp;omega
   rw[h2,h3];rfl
  dsimp only
  rw[if_pos this]
 | _=>rfl
def Ql(c:Ct)(f:Expr->GE)(v:Expr):List Expr->GS
 | [.Name x _]=>(match slot c x with | some i=>if Qk v=true/\c.m6.contains x=true then bB i hZ else bB i (f v) | none=>bR)
 | [.Subscript o i _]=>if yy v=false/\DR i=false then(if Lz c o=true then jy (f v) (f o) (f i) else A6 (f v) (f o) (f i)) else bR
 | [.Tuple es _ _]=>if yy v=false/\LC es v=true/\c.free=true then(match slots c es with | some is=>A8 is (f v) | none=>bR) else bR
 | _=>bR
theorem Qm{c:Ct}{k:Nat}(G:Good c k X){f:Expr->GE}(h:∀e,JE X e (f e))(ha:∀e,LB X e (f e))(v:Expr)(ts:List Expr)(pos:Pos):JS X (.Assign ts v pos) (Ql c f v ts):=by
 unfold Ql
 split
 ·rename_i x p
  cases e:slot c x with
  | none=>exact bA
  | some i=>
   obtain⟨e1,e2⟩:=oM G e
   dsimp only
   by_cases g:Qk v=true/\c.m6.contains x=true
   ·rw[if_pos g]
    have gv:=g.1
    unfold Qk at gv
    split at gv
    ·exact zC i (by rw[G.N];exact G.nd) Bq e1 e2.1 rfl e2.2
    ·cases gv
   ·rw[if_neg g];exact ha v i x _ _ (by rw[G.N];exact G.nd) e1 e2.1 e2.2
 ·rename_i o i p
  by_cases g:yy v=false/\DR i=false
  ·rw[if_pos g]
   have g2:=g.2
   by_cases gd:Lz c o=true
   ·rw[if_pos gd];exact KJ (by have:=G.un;omega) (h v) (h o) (h i) (oK g.1)
   rw[if_neg gd]
   refine Ka (h v) (h o) (h i) (by unfold swapsWithSole;exact oK g.1) ?_ rfl ?_
   ·cases v<;>rfl
   ·intro _
    cases i<;>first | rfl | cases g2
  ·rw[if_neg g];exact bA
 ·rename_i es kk p
  by_cases g:yy v=false/\LC es v=true/\c.free=true
  ·rw[if_pos g]
   cases e1:slots c es with
   | none=>exact bA
   | some is=>
    have g2:=g.2.1
    refine Kj (by rw[G.N];exact G.nd) (G.free g.2.2).2 (kR G e1) (h v) (oK g.1) ?_
    exact DU g2
  ·rw[if_neg g];exact bA
 ·exact bA
def Qn(c:Ct)(f:Expr->GE)(i:Nat)(gb:GS):Expr->GS
 | .Call (.Name x p) [a] [] q=>if iO c x=true then(if plain a=true then pA i (mI f [a]) gb else bR) else zF i (f (.Call (.Name x p) [a] [] q)) gb
 | .Call (.Name x p) [a,b,d] [] q=>if iO c x=true then(if[a,b,d].all plain=true then su i (mI f [a,b,d]) gb else bR) else zF i (f (.Call (.Name x p) [a,b,d] [] q)) gb
 | e=>if isSet e=false then zF i (f e) gb else bR
theorem Qo{c:Ct}{k:Nat}(G:Good c k X)(hl:c.loop=true){f:Expr->GE}(h:∀e,JE X e (f e)){x:Str}{i:Nat}(hx:slot c x=some i){body:List Stmt}{gb:GS}(hb:nL X body gb)(e:Expr)(pos pos':Pos):JS X (.For (.Name x pos') e body [] pos) (Qn c f i gb e):=by
 have nd:X.N.Nodup:=by rw[G.N];exact G.nd
 obtain⟨e1,e2⟩:=oM G hx
 have rg:=yu G
 unfold Qn
 split
 ·rename_i y p a q
  by_cases g:iO c y=true
  ·rw[if_pos g]
   obtain⟨rfl,g2,g3⟩:=rg y g
   by_cases ga:plain a=true
   ·rw[if_pos ga]
    exact FR i nd (G.loop hl).2 (G.loop hl).1 g2 g3 (gF h [a] (by simp[ga])) hb e1 e2.1 e2.2 (aJ ga)
   ·rw[if_neg ga];exact bA
  ·rw[if_neg g];exact zG i nd (G.loop hl).2 (G.loop hl).1 (h _) hb e1 e2.1 e2.2 (jR rfl)
 ·rename_i y p a b d q
  by_cases g:iO c y=true
  ·rw[if_pos g]
   obtain⟨rfl,g2,g3⟩:=rg y g
   by_cases ga:[a,b,d].all plain=true
   ·rw[if_pos ga]
    have gp:plain a=true/\[b,d].all plain=true:=by rw[fb,dZ] at ga;exact ga
    exact GH i nd (G.loop hl).2 (G.loop hl).1 g2 g3 (gF h [a,b,d] ga) hb e1 e2.1 e2.2 (aJ gp.1) (gS gp.2)
   ·rw[if_neg ga];exact bA
  ·rw[if_neg g];exact zG i nd (G.loop hl).2 (G.loop hl).1 (h _) hb e1 e2.1 e2.2 (jR rfl)
 ·by_cases g:isSet e=false
  ·rw[if_pos g];exact zG i nd (G.loop hl).2 (G.loop hl).1 (h _) hb e1 e2.1 e2.2 (jR g)
  ·rw[if_neg g];exact bA
def MC(c:Ct)(x:Str):Bool:=decide (x="reversed")&&decide (c.names.lookup x=some .globalImplicit)&&c.bl.contains x
def Qp(c:Ct):Expr->Bool
 | .Call (.Name x _) [a] [] _=>MC c x&&plain a
 | _=>false
def Yj(f:Expr->GE)(i:Nat)(gb:GS):Expr->GS
 | .Call _ [a] _ _=>Mz i (mI f [a]) gb
 | _=>bR
def Ut(c:Ct)(f:Expr->GE)(i:Nat)(gb:GS)(e:Expr):GS:=match BR c e with
 | some j=>jA j (qr i (f e) gb)
 | none=>qr i (f e) gb
def Qq(c:Ct)(f:Expr->GE)(i:Nat)(gb:GS)(e:Expr):GS:=if Qp c e=true then Yj f i gb e else if yq c e=true then Ut c f i gb e else Qn c f i gb e
theorem LD{c:Ct}{k:Nat}(G:Good c k X)(hl:c.loop=true){f:Expr->GE}(h:∀e,JE X e (f e)){x:Str}{i:Nat}(hx:slot c x=some i){body:List Stmt}{gb:GS}(hb:nL X body gb)(e:Expr)(pos pos':Pos):JS X (.For (.Name x pos') e body [] pos) (Qq c f i gb e):=by
 have nd:X.N.Nodup:=by rw[G.N];exact G.nd
 obtain⟨e1,e2⟩:=oM G hx
 unfold Qq
 by_cases g:Qp c e=true
 ·rw[if_pos g]
  unfold Qp at g
  split at g
  ·rename_i y p a q
   unfold MC at g
   simp only[dZ,decide_eq_true_eq] at g
   obtain⟨⟨⟨rfl,g2⟩,g3⟩,g4⟩:=g
   exact K' i nd (G.loop hl).2 (G.loop hl).1 (by show X.env.scope.names.lookup _=_;rw[G.sc];exact g2) (G.bl _ g3) (gF h [a] (by simp[g4])) (aJ g4) hb e1 e2.1 e2.2
  ·cases g
 ·rw[if_neg g]
  by_cases g2:yq c e=true
  ·rw[if_pos g2]
   have go:JS X (.For (.Name x pos') e body [] pos) (qr i (f e) gb):=by
    refine K1 i nd (G.loop hl).2 (G.loop hl).1 (h e) hb e1 e2.1 e2.2 ?_
    unfold yq at g2
    split at g2
    ·exact λ_=>rfl
    ·cases g2
   unfold Ut
   cases BR c e with
   | none=>exact go
   | some j=>exact wd j go
  ·rw[if_neg g2];exact Qo G hl h hx hb e pos pos'
def Ak(c:Ct)(f:Expr->GE):Expr->GS
 | .Call (.Name x _) (e::es) [] _=>if okN x=true/\(e::es).all plain=true/\c.names.lookup x=some .globalImplicit/\c.clss.contains x=true/\c.free=true then mW x (mI f (e::es)) else bR
 | _=>bR
theorem Ia{c:Ct}{k:Nat}(G:Good c k X){f:Expr->GE}(h:∀e,JE X e (f e))(e:Expr)(pos:Pos):JS X (.Raise (some e) none pos) (Ak c f e):=by
 unfold Ak
 split
 ·rename_i x p e es q
  by_cases g:okN x=true/\(e::es).all plain=true/\c.names.lookup x=some .globalImplicit/\c.clss.contains x=true/\c.free=true
  ·rw[if_pos g]
   obtain⟨g1,g2,g3,g4,g5⟩:=g
   have hg:Gl X x:=by
    show X.env.scope.names.lookup x=_
    rw[G.sc];exact g3
   have gp:plain e=true/\es.all plain=true:=by rw[fb,dZ] at g2;exact g2
   obtain⟨C,q1,q2⟩:=G.cls x g4
   exact FU (G.free g5).2 q2 hg q1 (gF h (e::es) g2) (iN g1) (aJ gp.1) (gS gp.2)
  ·rw[if_neg g];exact bA
 ·exact bA
def Qr(c:Ct)(f:Expr->GE)(x:Str)(op:Operator)(e:Expr):GS:=match slot c x,Pn op with
 | some i,some o=>wa o i (f e)
 | _,_=>bR
theorem Qs{c:Ct}{k:Nat}(G:Good c k X){f:Expr->GE}(h:∀e,JE X e (f e))(x:Str)(op:Operator)(e:Expr)(p pos:Pos):JS X (.AugAssign (.Name x p) op e pos) (Qr c f x op e):=by
 unfold Qr
 cases e1:slot c x with
 | none=>exact bA
 | some i=>
  cases e2:Pn op with
  | none=>exact bA
  | some o=>
   obtain⟨q1,q2⟩:=oM G e1
   exact Pp i e2 (by rw[G.N];exact G.nd) (h e) q1 q2.1 q2.2
def q8(c:Ct):Expr->Bool
 | .Call (.Attribute (.Name x _) name apos) [] [] cpos=>decide (name="items")&&c.m6.contains x&&(apos.endLine == cpos.line)
 | _=>false
def sJ(c:Ct)(f:Expr->GE)(is:List Nat)(gb:GS):Expr->GS
 | .Call (.Attribute (.Name x p) _ _) [] [] _=>(match slot c x with | some i=>jA i (sj is (jQ (f (.Name x p))) gb) | none=>sj is (jQ (f (.Name x p))) gb)
 | _=>bR
theorem Ib{c:Ct}{k:Nat}(G:Good c k X)(gl:c.loop=true){f:Expr->GE}(h:∀e,JE X e (f e)){es:List Expr}{is:List Nat}(e1:slots c es=some is){body:List Stmt}{gb:GS}(hb:nL X body gb)(e:Expr)(g:q8 c e=true){kk:Nat}{p q:Pos}:JS X (.For (.Tuple es kk p) e body [] q) (sJ c f is gb e):=by
 unfold q8 at g
 split at g
 ·rename_i x p1 name apos cpos
  simp only[dZ,decide_eq_true_eq] at g
  obtain⟨⟨rfl,_⟩,g3⟩:=g
  have go:=Bs (pos:=q) (by rw[G.N];exact G.nd) (G.loop gl).2 (G.loop gl).1 (kR G e1) (DE (es':=es) (kt:=kk) (pt:=p) (h (.Name x p1)) ⟨rfl,g3⟩) hb (λ_=>rfl)
  unfold sJ
  dsimp only
  cases e2:slot c x with
  | none=>exact go
  | some i=>exact wd i go
 ·cases g
def pP:Nat:=100000
def Ie(c:Ct)(f:Expr->GE)(t:Expr->GT)(b:Ct->List Stmt->GS):Stmt->GS
 | .Return (some e) _=>aU (f e)
 | .Return none _=>aU (gC .aZ)
 | .Expr e _=>if yy e=false then hG (f e) else bR
 | .If q x y _=>iD (t q) (b c x) (b c y)
 | .Assign ts v _=>Ql c f v ts
 | .For (.Name x _) e body [] _=>if c.loop=true then(match slot c x with | some i=>Qq c f i (b c body) e | none=>bR) else bR
 | .For (.Tuple es _ _) e body [] _=>if c.loop=true/\isSet e=false then(match slots c es with | some is=>(if MB c e=true then sj is (Ai c f e) (b c body) else if q8 c e=true then sJ c f is (b c body) e else Mo is (f e) (b c body)) | none=>bR) else bR
 | .While q body [] _=>if c.loop=true then v_ pP (t q) (b c body) else bR
 | .AugAssign (.Name x _) op e _=>Qr c f x op e
 | .Raise (some e) none _=>Ak c f e
 | .Pass _=>bp
 | _=>bR
theorem Ig{c:Ct}{k:Nat}(G:Good c k X){f:Expr->GE}{t:Expr->GT}{b:Ct->List Stmt->GS}(h:∀e,JE X e (f e))(ha:∀e,LB X e (f e))(ht:∀e,JT X e (t e))(hb:∀c X,Good c k X->∀s,nL X s (b c s))(s:Stmt):JS X s (Ie c f t b s):=by
 unfold Ie
 split
 ·exact OM (h _)
 ·exact Kh
 ·rename_i e p
  by_cases g:yy e=false
  ·rw[if_pos g];exact J_ (h _) (oK g)
  ·rw[if_neg g];exact bA
 ·exact TF (ht _) (hb c X G _) (hb c X G _)
 ·exact Qm G h ha _ _ _
 ·rename_i x p e body q
  by_cases g:c.loop=true
  ·rw[if_pos g]
   cases e1:slot c x with
   | none=>exact bA
   | some i=>exact LD G g h e1 (hb c X G body) e _ _
  ·rw[if_neg g];exact bA
 ·rename_i es kk p e body q
  by_cases g:c.loop=true/\isSet e=false
  ·rw[if_pos g]
   cases e1:slots c es with
   | none=>exact bA
   | some is=>
    dsimp only
    by_cases ge:MB c e=true
    ·rw[if_pos ge];exact Bs (by rw[G.N];exact G.nd) (G.loop g.1).2 (G.loop g.1).1 (kR G e1) (HR G h es kk p e) (hb c X G body) (jR g.2)
    ·rw[if_neg ge]
     by_cases gi:q8 c e=true
     ·rw[if_pos gi];exact Ib G g.1 h e1 (hb c X G body) e gi
     ·rw[if_neg gi];exact Kk (by rw[G.N];exact G.nd) (G.loop g.1).2 (G.loop g.1).1 (kR G e1) (h e) (hb c X G body) (jR g.2)
  ·rw[if_neg g];exact bA
 ·rename_i q body p
  by_cases g:c.loop=true
  ·rw[if_pos g];exact GJ pP (G.loop g).2 (ht _) (hb c X G body)
  ·rw[if_neg g];exact bA
 ·exact Qs G h _ _ _ _ _
 ·exact Ia G h _ _
 ·exact J9
 ·exact bA
end
def Al(f:Stmt->GS):List Stmt->GS
 | []=>bp
 | [s]=>f s
 | s::s'::r=>aH (f s) (Al f (s'::r))
theorem yz{X:Cx}{f:Stmt->GS}(h:∀s,JS X s (f s)):∀ss,nL X ss (Al f ss)
 | []=>J7
 | [s]=>J8 (h s)
 | s::s'::r=>Fy (h s) (yz h (s'::r))
def aY:Nat->Ct->List Stmt->GS
 | 0,_=>λ_=>bR
 | n+1,c=>Al (Ie c (mJ 40 c).1 (mJ 40 c).2 (aY n))
theorem sL{k:Nat}:∀(n:Nat)(c:Ct)(X:Cx),Good c k X->∀ss:List Stmt,nL X ss (aY n c ss)
 | 0,_,_,_,_=>CV
 | n+1,c,X,G,ss=>yz (λs=>Ig G (dF 40 k c X G).1 (H_ 40 c X G) (dF 40 k c X G).2 (sL n) s) ss
structure LG(K:PySem.W.Frag)(mg:Str->Option ae0)(q:Str)(P:aeU):Prop where
 tab:jK K q=some P
 code:∃c o vs file tf flags tg Yk text tt,PySem.W.tabIn K q=some (c,P)/\K.lookup c=some o/\o.cls= .type "code"/\o.data= .fields vs/\vs[11]? =some (.ref P)/\vs.getD 11 .none= .ref P/\vs.getD 18 .none= .str file tf/\
  vs.getD 7 .none= .int flags tg/\vs.getD 9 .none= .bool Yk/\vs.getD 10 .none= .int text tt/\c≠P
 mem:q∈cT
 uniq:∀q',q'∈cT->jK K q'=some P->q'=q
theorem LG.at'{X:Cx}{q:Str}{P f:aeU}{cdv:ae0}(h:LG X.K X.mg q P)(M:Dp X.K X.mg X.base)(hn:PySem.W.nsIn X.K afa q=some (some (.ref f)))(hc:FF X.K f cdv)(e1:X.env.code=cdv)(e2:X.env.qual=q++".<locals>."):Mv X q P:=by
 obtain⟨c,o,vs,file,tf,flags,tg,Yk,text,tt,t,l,r⟩:=h.code
 refine⟨⟨c,?_,o,vs,file,tf,flags,tg,Yk,text,tt,M.1.RY _ _ l,r⟩,e2,h.tab,h.mem,h.uniq,M.2⟩
 ·obtain⟨of,lf,fd,d,cd⟩:=hc
  rw[e1,<-cd]
  unfold PySem.W.tabIn at t
  rw[hn] at t
  dsimp only at t
  rw[lf] at t
  obtain⟨oc,od,da,sl⟩:=of
  dsimp only at d
  subst d
  dsimp only at t
  cases q1:fd.code with
  | ref c2=>
   rw[q1] at t
   dsimp only at t
   split at t
   ·split at t
    ·cases t;rfl
    ·cases t
   ·cases t
  | _=>rw[q1] at t;cases t
structure Am(c:Ct)(k:Nat)(P:aeY)(w:ae1)(K:PySem.W.Frag)(mg:Str->Option ae0)(base:Heap):Prop where
 lam:∀p L,c.lam=some (p,L)->Pj P w K mg base k p 3 L
 Ln:∀x F,c.Ln.lookup x=some F->FnL P w K mg k c.lj x F
 Uj:∀x n F,c.fns.lookup x=some (n,F)->c.Ye.contains x=true->∀base,Dp K mg base->eF P w K mg base c.lj x n F
 at':c.self∈cT->∃P,LG K mg c.self P
theorem Am.no{c:Ct}{k:Nat}{P:aeY}{w:ae1}{K:PySem.W.Frag}{mg:Str->Option ae0}{base:Heap}(h1:c.lam=none)(h2:c.Ln=[])(h3:c.Ye=[])(h4:c.self=""):Am c k P w K mg base :=
 ⟨(λp L e=>by rw[h1] at e;cases e),(λx F e=>by rw[h2] at e;cases e),(λx n F _ e=>by rw[h3] at e;cases e),(λe=>by rw[h4] at e;exact absurd e (by decide))⟩
structure yA(c:Ct)(k:Nat)(P:aeY)(w:ae1)(K:PySem.W.Frag)(mg:Str->Option ae0)(base:Heap):Prop where
 cst:∀x w,c.consts.lookup x=some w->BG K mg x w
 bl:∀x,c.bl.contains x=true->mg x=none
 fns:∀x n F,c.fns.lookup x=some (n,F)->eF P w K mg base k x n F
 tab:TabOk K c.tb c.tt c.tc
 cls:∀x,c.clss.contains x=true->∃C,mg x=some (.ref C)/\FT K x C
 DL:∀x,c.DL.contains x=true->∃C,mg x=some (.ref C)/\ClsAt K x C
 BF:∀x kvs,c.BF.lookup x=some kvs->oC K w mg x kvs
 Je:∀x n F,c.Je.contains x=true->c.fns.lookup x=some (n,F)->KL P w K mg base k x n F
 x:Am c k P w K mg base
theorem aD{P:aeY}{w:ae1}{K:PySem.W.Frag}{mg:Str->Option ae0}{base:Heap}{h:Heap}{k:Nat}{c:Ct}{x:Str}{st:Stmt}{ps:List Str}{g:GS}(KX:K.In h)(NS:h.Ns afa mg)(D:aX K x st)(T:yA c k P w K mg base)
  (S:FnScope c.N ps (defScope st))(hn:(defScope st).names=c.names)(hg:aY 30 c (defBody st)=g)
  (hb:∀(kV doc pm:ae0)(an:Option aeU)(cdv ct:ae0)(us:List ae0),us.length=ps.length->bindArgs (PySem.W.fnOf x x (defArgs st) (defBody st) (defScope st) .none kV doc pm an cdv ct) ⟨us,[]⟩=pure (ps.zip us))(hM:c.self∈cT->Dp K mg base/\c.self=x:=by exact λz=>absurd (show("":Str)∈cT from z) (by decide)) :
  eF P w K mg base (k+1) x ps.length (bL c.N.length g):=by
 obtain⟨f,fd,a,F⟩:=D
 refine⟨f,fd,ps,?_,PySem.W.mg_of KX NS a,F.kp,F.binds hb⟩
 subst hg
 refine Mm F S λcdv Yl A outer s H E hr=>?_
 refine sL (k:=k) 30 c _ ⟨rfl,hn,S.nd,BH hr,λ_=>⟨hr,rfl⟩,λ_=>⟨rfl,LH⟩,T.cst,T.bl,T.fns,λ_=>⟨rfl,rfl,rfl⟩,λ_ _=>rfl,S.kind,T.tab,T.cls,T.DL,T.BF,uU.of hr,T.Je,⟨T.x.lam,T.x.Ln,T.x.Uj,λ_ z=>?_⟩,⟨_,_,_,rfl,rfl,rfl⟩,.inl hr.hd⟩ _
 obtain⟨P',L⟩:=T.x.at' z
 obtain⟨M,e⟩:=hM z
 exact⟨P',LG.at' L M (by rw[e];exact a) Yl rfl (by rw[e];rfl)⟩
theorem LI{P:aeY}{w:ae1}{K:PySem.W.Frag}{mg:Str->Option ae0}{h:Heap}{k:Nat}{F:List Wv->Hs->Re Wv}{fa:aeU}{st:Stmt}(KX:K.In h)(NS:h.Ns afa mg)(hmg:mg "law"=some (.ref fa))(D:aX K "law" st)
  (hp:∀(kV doc pm:ae0)(an:Option aeU)(cdv ct:ae0)(s:aeZ)(u:ae0),BindsTo s (PySem.W.fnOf "law" "law" (defArgs st) (defBody st) (defScope st) .none kV doc pm an cdv ct) ⟨[u],[]⟩ [("script",u)])
  (FN:∀(f:aeU)(fd:aeW),N9 K "law" "law" st f fd->∀base:Heap,K.In base->base.Ns afa mg->FnOk P w K mg base (CXJ P w) k f fd ["script"] (spW K 1 F)) :
  ∃fd:aeW,(∀(s:aeZ)(u:ae0),BindsTo s fd ⟨[u],[]⟩ [("script",u)])/\∀base:Heap,K.In base->base.Ns afa mg->FnOk P w K mg base (CXJ P w) k fa fd ["script"] (spW K 1 F):=by
 obtain⟨f,fd,a,Fu⟩:=D
 have e:=hmg.symm.trans (PySem.W.mg_of KX NS a)
 cases e
 refine⟨fd,λs u=>?_,FN fa fd Fu⟩
 obtain⟨oc,od,kV,doc,pm,an,cdv,ct,osl,rfl,lk,hcd⟩:=Fu.ex
 exact hp kV doc pm an cdv ct s u
theorem Qt{P:aeY}{w:ae1}{K:PySem.W.Frag}{mg:Str->Option ae0}{base:Heap}{k:Nat}{c:Ct}{x:Str}{st:Stmt}{ps:List Str}{g:GS}{f:aeU}{fd:aeW}(F:N9 K x x st f fd)(T:yA c k P w K mg base)
  (S:FnScope c.N ps (defScope st))(hn:(defScope st).names=c.names)(hg:aY 30 c (defBody st)=g)(hs:c.self∉cT:=by exact(show("":Str)∉cT by decide)):FnOk P w K mg base (CXJ P w) (k+1) f fd ps (spW K ps.length (bL c.N.length g)):=by
 subst hg
 refine Mm F S λcdv _ A outer s H E hr=>?_
 exact sL (k:=k) 30 c _ ⟨rfl,hn,S.nd,BH hr,λ_=>⟨hr,rfl⟩,λ_=>⟨rfl,LH⟩,T.cst,T.bl,T.fns,λ_=>⟨rfl,rfl,rfl⟩,λ_ _=>rfl,S.kind,T.tab,T.cls,T.DL,T.BF,uU.of hr,T.Je,⟨T.x.lam,T.x.Ln,T.x.Uj,λ_ z=>absurd z hs⟩,⟨_,_,_,rfl,rfl,rfl⟩,.inl hr.hd⟩ _
def AllP{α:Type}(P:α->Prop):List α->Prop
 | []=>True
 | a::l=>P a/\AllP P l
theorem AllP.look{κ β:Type}[BEq κ][LawfulBEq κ]{P:κ×β->Prop}:∀{l:List (κ×β)}{x:κ}{b:β},AllP P l->l.lookup x=some b->P (x,b)
 | [],_,_,_,h=>by cases h
 | (y,c)::l,x,b,a,h=>by
  rw[iJ] at h
  cases e:x == y with
  | true=>
   rw[e] at h
   cases h
   have e':=eq_of_beq e
   subst e'
   exact a.1
  | false=>rw[e] at h;exact AllP.look a.2 h
theorem AllP.mem{P:Str->Prop}:∀{l:List Str}{x:Str},AllP P l->l.contains x=true->P x
 | [],_,_,h=>by cases h
 | y::l,x,a,h=>by
  rw[FW,Fx] at h
  rcases h with e | h
  ·have e':=eq_of_beq e
   subst e'
   exact a.1
  ·exact AllP.mem a.2 h
theorem oN{K:PySem.W.Frag}{c:PySem.Str}{C D:aeU}(h:ClsAt K c C)(k:ClsAt K c D):C=D:=by
 unfold ClsAt at h k
 rw[h] at k
 cases k
 rfl
theorem Qu{K:PySem.W.Frag}{tb:Tab}{tt:vR}{tc:Tab}(h:AllP (λp=>∃C D,ClsAt K p.1.1 C/\ClsAt K p.1.2 D/\kI K C/\PySem.W.kitOne K (.ref C) (.ref D)=some p.2) tb)
  (g:AllP (λp=>∃C,ClsAt K p.1.1 C/\kI K C/\PySem.W.kitOne K (.ref C) (.type p.1.2)=some p.2) tt)
  (f:AllP (λp=>∃C D,ClsAt K p.1.1 C/\ClsAt K p.1.2 D/\PySem.W.excIn K C C2 C3=true/\PySem.W.excIn K D C2 C3=true/\PySem.W.mroIn K C (.ref D)=some p.2) tc):TabOk K tb tt tc :=
 ⟨λc d b C D e hC hD=>by
  obtain⟨C',D',q1,q2,r⟩:=AllP.look h e
  cases oN hC q1
  cases oN hD q2
  exact r,λc d b C D e hC hD=>by
  obtain⟨C',D',q1,q2,r⟩:=AllP.look f e
  cases oN hC q1
  cases oN hD q2
  exact r,λc T b C e hC=>by
  obtain⟨C',q1,r⟩:=AllP.look g e
  cases oN hC q1
  exact r⟩
theorem ay{c:Ct}{k:Nat}{P:aeY}{w:ae1}{K:PySem.W.Frag}{mg:Str->Option ae0}{base:Heap}(hc:AllP (λp=>BG K mg p.1 p.2) c.consts)(hb:AllP (λx=>mg x=none) c.bl)(hf:AllP (λp=>eF P w K mg base k p.1 p.2.1 p.2.2) c.fns)
  (ht:TabOk K c.tb c.tt c.tc)(hk:AllP (λx=>∃C,mg x=some (.ref C)/\FT K x C) c.clss)(hn:AllP (λx=>∃C,mg x=some (.ref C)/\ClsAt K x C) c.DL)(hd:AllP (λp=>oC K w mg p.1 p.2) c.BF)
  (hu:AllP (λx=>∀n F,c.fns.lookup x=some (n,F)->KL P w K mg base k x n F) c.Je:=by exact trivial)(hx:Am c k P w K mg base:=by exact Am.no rfl rfl rfl rfl):yA c k P w K mg base :=
 ⟨λ_ _ h=>hc.look h,λ_ h=>hb.mem h,λx n F h=>hf.look (b:=(n,F)) h,ht,λ_ h=>hk.mem h,λ_ h=>hn.mem h,λx kvs h=>hd.look (b:=kvs) h,λx n F h k=>hu.mem h n F k,hx⟩
def Rs.sq(r:Rs)(h:GS):Rs:=match r with
 | .nx ρ st=>h ρ st
 | r=>r
section
variable {α β:Type} {ρ ρ':bD} {st:Hs} {h g ga' gb':GS} {ga gb gc:GE} {gt gu:GT} {w:Wv} {c:PySem.Str} {f:α->Hs->Re β} {k:α->Hs->Rs} {a:α} {i:Nat}
@[simp] theorem aa6:(Rs.nx ρ st).sq h=h ρ st:=rfl
@[simp] theorem aa7:(Rs.rt w st).sq h= .rt w st:=rfl
@[simp] theorem aa8:(Rs.bk ρ st).sq h= .bk ρ st:=rfl
@[simp] theorem aa9:(Rs.ct ρ st).sq h= .ct ρ st:=rfl
@[simp] theorem Ym:(Rs.err c ρ st).sq h= .err c ρ st:=rfl
@[simp] theorem Yn:Rs.bad.sq h= .bad:=rfl
@[simp] theorem iQ:(Re.ok a st).bind f=f a st:=rfl
@[simp] theorem Uu:(Re.err c st).bind f= .err c st:=rfl
@[simp] theorem Uv:(Re.bad:Re α).bind f= .bad:=rfl
@[simp] theorem wt:(Re.ok a st).a7 ρ k=k a st:=rfl
@[simp] theorem Wg:(Re.err c st:Re α).a7 ρ k= .err c ρ st:=rfl
@[simp] theorem Ih:(Re.ok a st).oW= .ok a st:=rfl
@[simp] theorem Wh:(Re.bad:Re α).oW= .bad:=rfl
@[simp] theorem Wi:(Re.bad:Re α).a7 ρ k= .bad:=rfl
@[simp] theorem Uw:aH g h ρ st=(g ρ st).sq h:=by unfold aH Rs.sq;cases g ρ st<;>rfl
@[simp] theorem e_next:bp ρ st= .nx ρ st:=rfl
@[simp] theorem Ux:aU ga ρ st=(ga ρ st).a7 ρ λw st'=> .rt w st':=rfl
@[simp] theorem e_expr:hG ga ρ st=(ga ρ st).a7 ρ λ_ st'=> .nx ρ st':=rfl
@[simp] theorem MD:bB i ga ρ st=(ga ρ st).a7 ρ λw st'=> .nx (ρ.set i (some w)) st':=rfl
def Yo(ga gb:GS)(ρ:bD):Bool->Hs->Rs:=λb st'=>if b=true then ga ρ st' else gb ρ st'
@[simp] theorem Uy:Yo g h ρ true st=g ρ st:=rfl
@[simp] theorem aba:Yo g h ρ false st=h ρ st:=rfl
@[simp] theorem Yp:iD gt g h ρ st=(gt ρ st).a7 ρ (Yo g h ρ):=rfl
def rdV(o:Option (Option Wv))(st:Hs):Re Wv:=match o with
 | some (some w)=> .ok w st
 | _=> .bad
@[simp] theorem ME:rdV (some (some w)) st= .ok w st:=rfl
@[simp] theorem MF:af i ρ st=rdV ρ[i]? st:=rfl
@[simp] theorem e_c:gC w ρ st= .ok w st:=rfl
def kB(op:fS)(gb:GE)(ρ:bD):Wv->Hs->Re Wv:=λx st1=>(gb ρ st1).bind λy st2=>(op x y st2).oW
@[simp] theorem Uz{op:fS}{x:Wv}:kB op gb ρ x st=(gb ρ st).bind λy st2=>(op x y st2).oW:=rfl
@[simp] theorem MG{op:fS}:ai op ga gb ρ st=(ga ρ st).bind (kB op gb ρ):=rfl
@[simp] theorem abc:bz ga ρ st=(ga ρ st).bind RK:=rfl
@[simp] theorem abd{b:Bool}:RK (.bl b) st= .ok b st:=rfl
@[simp] theorem UA:iG ga ρ st=(ga ρ st).bind FG:=rfl
@[simp] theorem Yq{b:Bool}:FG (.bl b) st= .ok b st:=rfl
@[simp] theorem abe:rM gt ρ st=(gt ρ st).bind λb st1=> .ok (!b) st1:=rfl
def Qv(gb:GT)(ρ:bD):Bool->Hs->Re Bool:=λb st1=>if b=true then gb ρ st1 else .ok false st1
@[simp] theorem Yr:Qv gu ρ true st=gu ρ st:=rfl
@[simp] theorem Ys:Qv gu ρ false st= .ok false st:=rfl
@[simp] theorem abf:Fg gt gu ρ st=(gt ρ st).bind (Qv gu ρ):=rfl
def Yt(gb:GT)(ρ:bD):Bool->Hs->Re Bool:=λb st1=>if b=true then .ok true st1 else gb ρ st1
@[simp] theorem abg:Yt gu ρ true st= .ok true st:=rfl
@[simp] theorem abh:Yt gu ρ false st=gu ρ st:=rfl
@[simp] theorem ac2:CO gt gu ρ st=(gt ρ st).bind (Yt gu ρ):=rfl
def Ii(gb:GE)(ρ:bD):Wv->Hs->Re Wv:=λw st1=>match w with
 | .bl true=>gb ρ st1
 | .bl false=> .ok (.bl false) st1
 | _=> .bad
@[simp] theorem Wj:Ii gb ρ (.bl true) st=gb ρ st:=rfl
@[simp] theorem Wl:Ii gb ρ (.bl false) st= .ok (.bl false) st:=rfl
@[simp] theorem Yu:cD ga gb ρ st=(ga ρ st).bind (Ii gb ρ):=rfl
def MH:Wv->Hs->Re Wv:=λw st1=>match w with
 | .bl b=> .ok (.bl (!b)) st1
 | _=> .bad
@[simp] theorem Wm{b:Bool}:MH (.bl b) st= .ok (.bl (!b)) st:=rfl
@[simp] theorem Yv:xC ga ρ st=(ga ρ st).bind MH:=rfl
@[simp] theorem MI:aj ρ st= .ok [] st:=rfl
def MJ(gr:GA)(ρ:bD):Wv->Hs->Re (List Wv):=λx st1=>(gr ρ st1).bind λxs st2=> .ok (x::xs) st2
@[simp] theorem LJ{gr:GA}{x:Wv}:MJ gr ρ x st=(gr ρ st).bind λxs st2=> .ok (x::xs) st2:=rfl
@[simp] theorem Qw{gr:GA}:ae ga gr ρ st=(ga ρ st).bind (MJ gr ρ):=rfl
def tZ:List Wv->Hs->Re Wv:=λws st1=>if ws.length<=lim then .ok (.tup ws) st1 else .bad
theorem wu{ws:List Wv}(hl:ws.length<=lim):tZ ws st= .ok (.tup ws) st:=if_pos hl
@[simp] theorem abi{gr:GA}:eh gr ρ st=(gr ρ st).bind tZ:=rfl
def t7:List Wv->Hs->Re Wv:=λws st1=>if ws.length<=lim then .ok (.ref st1.length) (st1++[.lst ws]) else .bad
theorem sM{ws:List Wv}(hl:ws.length<=lim):t7 ws st= .ok (.ref st.length) (st++[.lst ws]):=if_pos hl
@[simp] theorem UB{gr:GA}:gZ gr ρ st=(gr ρ st).bind t7:=rfl
section
variable {x x0 x1 x2 x3 x4 x5 x6 x7:Wv}
@[simp] theorem Yw:tZ [x0] st= .ok (.tup [x0]) st:=wu (by simp[lim])
@[simp] theorem kS:tZ [x0,x1] st= .ok (.tup [x0,x1]) st:=wu (by simp[lim])
@[simp] theorem Yx:tZ [x0,x1,x2] st= .ok (.tup [x0,x1,x2]) st:=wu (by simp[lim])
@[simp] theorem Yy:tZ [x0,x1,x2,x3] st= .ok (.tup [x0,x1,x2,x3]) st:=wu (by simp[lim])
@[simp] theorem An:t7 [] st= .ok (.ref st.length) (st++[.lst []]):=sM (by simp[lim])
@[simp] theorem Yz:t7 [x0] st= .ok (.ref st.length) (st++[.lst [x0]]):=sM (by simp[lim])
@[simp] theorem YA:t7 [x0,x1] st= .ok (.ref st.length) (st++[.lst [x0,x1]]):=sM (by simp[lim])
@[simp] theorem YB:t7 [x0,x1,x2,x3] st= .ok (.ref st.length) (st++[.lst [x0,x1,x2,x3]]):=sM (by simp[lim])
@[simp] theorem YC:t7 [x0,x1,x2,x3,x4,x5,x6] st= .ok (.ref st.length) (st++[.lst [x0,x1,x2,x3,x4,x5,x6]]):=sM (by simp[lim])
end
def u9(n:Nat)(F:List Wv->Hs->Re Wv):List Wv->Hs->Re Wv:=λws st1=>if ws.length=n then F ws st1 else .bad
section
variable {F:List Wv->Hs->Re Wv} {x0 x1 x2 x3:Wv} {gr:GA}
@[simp] theorem LK:u9 1 F [x0] st=F [x0] st:=rfl
@[simp] theorem Wn:u9 2 F [x0,x1] st=F [x0,x1] st:=rfl
@[simp] theorem Wo:u9 3 F [x0,x1,x2] st=F [x0,x1,x2] st:=rfl
@[simp] theorem Wq:u9 4 F [x0,x1,x2,x3] st=F [x0,x1,x2,x3] st:=rfl
@[simp] theorem Qx{n:Nat}:av n F gr ρ st=(gr ρ st).bind (u9 n F):=rfl
@[simp] theorem Ws{op:List Wv->Hs->Re Wv}:aL op gr ρ st=(gr ρ st).bind λws st1=>(op ws st1).oW:=rfl
end
@[simp] theorem abj{i:Int}:Ff (.int i) st= .ok (.int (-i)) st:=rfl
@[simp] theorem UC{i j:Int}:dt (.int i) (.int j) st= .ok (.int (i+j)) st:=rfl
@[simp] theorem abk{i j:Int}:mU (.int i) (.int j) st= .ok (.int (i - j)) st:=rfl
@[simp] theorem ac3{i j:Int}:oLt (.int i) (.int j) st= .ok (.bl (decide (i < j))) st:=rfl
@[simp] theorem ac4{i j:Int}:oLe (.int i) (.int j) st= .ok (.bl (decide (i<=j))) st:=rfl
@[simp] theorem ac5{i j:Int}:OD (.int i) (.int j) st= .ok (.bl (decide (j < i))) st:=rfl
@[simp] theorem ac6{i j:Int}:Xz (.int i) (.int j) st= .ok (.bl (decide (j<=i))) st:=rfl
@[simp] theorem ac7{i j:Int}:oEq (.int i) (.int j) st= .ok (.bl (i == j)) st:=rfl
@[simp] theorem Qy{i j:Int}:zc (.int i) (.int j) st= .ok (.bl (!(i == j))) st:=rfl
@[simp] theorem ac8{i j:PySem.Str}:oEq (.str i) (.str j) st= .ok (.bl (i == j)) st:=rfl
@[simp] theorem ac9{i j:PySem.Str}:zc (.str i) (.str j) st= .ok (.bl (!(i == j))) st:=rfl
@[simp] theorem ada{i j:Bool}:oEq (.bl i) (.bl j) st= .ok (.bl (i == j)) st:=by cases i<;>cases j<;>rfl
@[simp] theorem adb{i j:Bool}:zc (.bl i) (.bl j) st= .ok (.bl (!(i == j))) st:=by cases i<;>cases j<;>rfl
theorem m8{i j:Int}(h:j≠0/\j.natAbs.log2 < 9000):eE (.int i) (.int j) st= .ok (.int (i.fdiv j)) st:=by show(if _ then _ else _)=_;rw[if_pos h]
theorem mK{i j:Int}(h:j≠0):oMod (.int i) (.int j) st= .ok (.int (i.fmod j)) st:=by show(if _ then _ else _)=_;rw[if_pos h]
theorem BV{i j:Int}(h:IntMulOk i j):dq (.int i) (.int j) st= .ok (.int (i * j)) st:=by show(if _ then _ else _)=_;rw[if_pos h]
theorem BW{i j:Int}(h1:-(2 ^ 64) < i)(h2:i < 2 ^ 64):dq (.int i) (.int j) st= .ok (.int (i * j)) st:=BV (IntMulOk.of_left (intBits_le_64 h1 h2))
theorem mul_r{i j:Int}(h1:-(2 ^ 64) < j)(h2:j < 2 ^ 64):dq (.int i) (.int j) st= .ok (.int (i * j)) st:=BV (IntMulOk.of_right (intBits_le_64 h1 h2))
theorem UD{i j:Int}(h:0<=j/\j<=1000000/\i.natAbs < 2 ^ 64):oj (.int i) (.int j) st= .ok (.int (i ^ j.toNat)) st:=by show(if _ then _ else _)=_;rw[if_pos h]
theorem Ij{l:Nat}{i:Int}{ws:List Wv}{v:Wv}(h:aq st l=some ws)(h2:rC ws i=some v):cU (.ref l) (.int i) st= .ok v st:=by
 show(match aq st l with | some ws=>(match rC ws i with | some w=>Re.ok w st | none=> .bad) | none=> .bad)=_
 rw[h]
 dsimp only
 rw[h2]
theorem yB{i:Int}{ws:List Wv}{v:Wv}(h2:rC ws i=some v):cU (.tup ws) (.int i) st= .ok v st:=by
 show(match rC ws i with | some w=>Re.ok w st | none=> .bad)=_
 rw[h2]
end
theorem MK{n:Nat}{g:GS}{ws:List Wv}{st st':Hs}{w:Wv}(h:g (ws.map some++aC (n - ws.length) none) st= .rt w st'):bL n g ws st= .ok w st':=by unfold bL;rw[h]
section
variable {ρ:bD} {st:Hs} {ga gb gc:GE} {gl gh:GO}
def kSl(gl gh:GO)(ρ:bD):Wv->Hs->Re Wv:=λx st1=>(gl ρ st1).bind λlo st2=>(gh ρ st2).bind λhi st3=>De x lo hi st3
@[simp] theorem Wt:iK ga gl gh ρ st=(ga ρ st).bind (kSl gl gh ρ):=rfl
@[simp] theorem abm{x:Wv}:kSl gl gh ρ x st=(gl ρ st).bind λlo st2=>(gh ρ st2).bind λhi st3=>De x lo hi st3:=rfl
@[simp] theorem UE:lW ρ st= .ok none st:=rfl
def ML:Wv->Hs->Re (Option Int):=λw st1=>match w with
 | .int i=> .ok (some i) st1
 | _=> .bad
@[simp] theorem YD:qj ga ρ st=(ga ρ st).bind ML:=rfl
@[simp] theorem Wu{i:Int}:ML (.int i) st= .ok (some i) st:=rfl
theorem Ik{l:Nat}{ws:List Wv}(h:aq st l=some ws):e7 [.ref l] st= .ok (.int ws.length) st:=by
 show(match aq st l with | some ws=>Re.ok (Wv.int ws.length) st | none=> .bad)=_
 rw[h]
def Il(op':fS)(gc:GE)(y:Wv)(ρ:bD):Wv->Hs->Re Wv:=λz st3=>match z with
 | .bl true=>(gc ρ st3).bind λu A3=>(op' y u A3).oW
 | .bl false=> .ok (.bl false) st3
 | _=> .bad
@[simp] theorem YE{op':fS}{y:Wv}:Il op' gc y ρ (.bl true) st=(gc ρ st).bind λu A3=>(op' y u A3).oW:=rfl
@[simp] theorem YF{op':fS}{y:Wv}:Il op' gc y ρ (.bl false) st= .ok (.bl false) st:=rfl
@[simp] theorem Ww{op op':fS}:i8 op op' ga gb gc ρ st=(ga ρ st).bind λx st1=>(gb ρ st1).bind λy st2=>(op x y st2).oW.bind (Il op' gc y ρ):=rfl
def UG(op' DV:fS)(gc gd:GE)(y:Wv)(ρ:bD):Wv->Hs->Re Wv:=λz st3=>match z with
 | .bl true=>(gc ρ st3).bind λu A3=>(op' y u A3).oW.bind (Il DV gd u ρ)
 | .bl false=> .ok (.bl false) st3
 | _=> .bad
@[simp] theorem YG{op' DV:fS}{gd:GE}{y:Wv}:UG op' DV gc gd y ρ (.bl true) st=(gc ρ st).bind λu A3=>(op' y u A3).oW.bind (Il DV gd u ρ):=rfl
@[simp] theorem YH{op' DV:fS}{gd:GE}{y:Wv}:UG op' DV gc gd y ρ (.bl false) st= .ok (.bl false) st:=rfl
def MM(cat:PySem.Str->Option Bool)(gs:GS)(r:Rs):Rs:=match r with
 | .err c ρ' st'=>(match cat c with
  | some true=>(match gs ρ' st' with
   | .nx ρ2 st2=> .nx ρ2 st2
   | .rt w st2=> .rt w st2
   | _=> .bad)
  | _=> .bad)
 | r=>r
@[simp] theorem UH{cat:PySem.Str->Option Bool}{gs:GS}:MM cat gs (.nx ρ st)= .nx ρ st:=rfl
@[simp] theorem UI{cat:PySem.Str->Option Bool}{gs:GS}{w:Wv}:MM cat gs (.rt w st)= .rt w st:=rfl
end
theorem cQ{st:Hs}{ws:List Wv}:aq (st++[.lst ws]) st.length=some ws:=by unfold aq;simp
theorem DW{st:Hs}{o:Ob}{l:Nat}{ws:List Wv}(h:aq st l=some ws):aq (st++[o]) l=some ws:=by
 have hl:l < st.length:=by
  unfold aq at h
  cases e:st[l]? with
  | none=>rw[e] at h;cases h
  | some o=>exact(List.getElem?_eq_some_iff.mp e).1
 unfold aq at h ⊢
 rw[gX hl]
 exact h
theorem sN{st:Hs}{l:Nat}{ws:List Wv}(h:aq st l=some ws):l < st.length:=by
 unfold aq at h
 cases e:st[l]? with
 | none=>rw[e] at h;cases h
 | some o=>exact(List.getElem?_eq_some_iff.mp e).1
def cP(l:Nat)(st st':Hs):Prop:=st.length<=st'.length/\∀k,k < st.length->k≠l->st'[k]? =st[k]?
theorem cP.refl{l:Nat}{st:Hs}:cP l st st:=⟨ao _,λ_ _ _=>rfl⟩
theorem cP.trans{l:Nat}{a b c:Hs}(h:cP l a b)(k:cP l b c):cP l a c:=⟨ba h.1 k.1,λj h1 h2=>(k.2 j (bC h1 h.1) h2).trans (h.2 j h1 h2)⟩
theorem cP.push{l:Nat}{st:Hs}{o:Ob}:cP l st (st++[o]):=⟨by simp,λk h _=>gX h⟩
theorem cP.set{l:Nat}{st:Hs}{o:Ob}:cP l st (st.set l o):=⟨by simp,λk _ h=>bw (λz=>h z.symm)⟩
theorem cP.lst{l:Nat}{st st':Hs}(k:cP l st st'){j:Nat}{ws:List Wv}(h:aq st j=some ws)(hj:j≠l):aq st' j=some ws:=by
 unfold aq at h ⊢
 rw[k.2 j (sN (st:=st) (ws:=ws) (by unfold aq;exact h)) hj]
 exact h
@[simp] theorem Wx{i:Nat}{ga:GA}{gb:GS}{ρ:bD}{st:Hs}:pA i ga gb ρ st=(ga ρ st).a7 ρ λws st1=>match ws with
 | [.int j]=>if mV j then fc i gb (dD 0 j.toNat) ρ st1 else .bad
 | _=> .bad:=rfl
@[simp] theorem Wy{c:PySem.Str}{ga:GA}{ρ:bD}{st:Hs}:mW c ga ρ st=(ga ρ st).a7 ρ λws st1=>if ws.length<=lim then .err c ρ st1 else .bad:=rfl
def MN(mt:Wv->Wv->Hs->Re Wv)(ga:GE)(ρ:bD):Wv->Hs->Re Wv:=λo st1=>match o with
 | .ref l=>(match aq st1 l with
  | some _=>(ga ρ st1).bind λv st2=>(mt o v st2).oW
  | none=> .bad)
 | _=> .bad
@[simp] theorem YI{mt:Wv->Wv->Hs->Re Wv}{go ga:GE}{ρ:bD}{st:Hs}:qk mt go ga ρ st=(go ρ st).bind (MN mt ga ρ):=rfl
theorem wx{mt:Wv->Wv->Hs->Re Wv}{ga:GE}{ρ:bD}{st:Hs}{l:Nat}{ws:List Wv}(h:aq st l=some ws):MN mt ga ρ (.ref l) st=(ga ρ st).bind λv st2=>(mt (.ref l) v st2).oW:=by
 show(match aq st l with | some _=>(ga ρ st).bind λv st2=>(mt (.ref l) v st2).oW | none=> .bad)=_
 rw[h]
theorem BX{st:Hs}{l:Nat}{v:Wv}{ws:List Wv}(h:st[l]? =some (.lst ws))(hl:ws.length < lim):pE (.ref l) v st= .ok .aZ (st.set l (.lst (ws++[v]))):=by
 show(match st[l]? with | some (.lst ws)=>if ws.length < lim then Re.ok Wv.aZ (st.set l (.lst (ws++[v]))) else .bad | _=> .bad)=_
 rw[h]
 exact if_pos hl
def kFor(i:Nat)(gb:GS)(ρ:bD):Wv->Hs->Rs:=λw st1=>match w with
 | .ref l=>(match aq st1 l with | some ws=>forL i gb l ws ws ρ st1 | none=> .bad)
 | .tup ws=>fc i gb ws ρ st1
 | .qh ws=>fc i gb ws ρ st1
 | _=> .bad
@[simp] theorem abn{i:Nat}{ga:GE}{gb:GS}{ρ:bD}{st:Hs}:zF i ga gb ρ st=(ga ρ st).a7 ρ (kFor i gb ρ):=rfl
theorem Im{i:Nat}{gb:GS}{ρ:bD}{st:Hs}{l:Nat}{ws:List Wv}(h:aq st l=some ws):kFor i gb ρ (.ref l) st=forL i gb l ws ws ρ st:=by
 show(match aq st l with | some ws=>forL i gb l ws ws ρ st | none=> .bad)=_
 rw[h]
@[simp] theorem YJ{i:Nat}{gb:GS}{ρ:bD}{st:Hs}{ws:List Wv}:kFor i gb ρ (.tup ws) st=fc i gb ws ρ st:=rfl
theorem q_{i:Nat}{gb:GS}(P:Nat->bD->Hs->Prop):∀(ws:List Wv)(k:Nat)(ρ:bD)(st:Hs),P k ρ st->
  (∀(j:Nat)(w:Wv),ws[j]? =some w->∀ρ st,P (k+j) ρ st->∃ρ' st',gb (ρ.set i (some w)) st= .nx ρ' st'/\P (k+j+1) ρ' st')->∃ρ' st',fc i gb ws ρ st= .nx ρ' st'/\P (k+ws.length) ρ' st'
 | [],k,ρ,st,h,_=>⟨ρ,st,rfl,h⟩
 | w::r,k,ρ,st,h,step=>by
  obtain⟨ρ1,st1,e1,p1⟩:=step 0 w rfl ρ st h
  obtain⟨ρ2,st2,e2,p2⟩:=q_ P r (k+1) ρ1 st1 p1 λj w hw ρ st hp=>by
   have e:k+(j+1)=k+1+j:=by omega
   have q:=step (j+1) w hw ρ st (by rw[e];exact hp)
   rw[e] at q
   exact q
  refine⟨ρ2,st2,?_,?_⟩
  ·unfold fc
   rw[e1]
   exact e2
  ·have e:k+(w::r).length=k+1+r.length:=by simp;omega
   rw[e]
   exact p2
theorem yC{i:Nat}{gb:GS}(P:bD->Hs->Prop):∀(ws:List Wv)(ρ:bD)(st:Hs),P ρ st->
  (∀w∈ws,∀ρ st,P ρ st->∃ρ' st',gb (ρ.set i (some w)) st= .nx ρ' st'/\P ρ' st')->∃ρ' st',fc i gb ws ρ st= .nx ρ' st'/\P ρ' st'
 | [],ρ,st,h,_=>⟨ρ,st,rfl,h⟩
 | w::r,ρ,st,h,step=>by
  obtain⟨ρ1,st1,e1,p1⟩:=step w aQ ρ st h
  obtain⟨ρ2,st2,e2,p2⟩:=yC P r ρ1 st1 p1 λw hw=>step w (aI _ hw)
  refine⟨ρ2,st2,?_,p2⟩
  unfold fc
  rw[e1]
  exact e2
@[simp] theorem YK{i:Int}{st:Hs}:TR [.int i] st=TN [.int i] st:=rfl
@[simp] theorem YL{cs:gD}{gi:GI}{gt:GT}{ge:GE}{ρ:bD}{st:Hs}:hI cs gi gt ge ρ st=(gi ρ st).bind (eI cs gt ge ρ):=rfl
@[simp] theorem Wz{g:GE}{ρ:bD}{st:Hs}:hJ g ρ st=(g ρ st).bind xX:=rfl
@[simp] theorem YM{g:GA}{ρ:bD}{st:Hs}:Kq g ρ st=(g ρ st).bind xS:=rfl
@[simp] theorem YN{g:GA}{ρ:bD}{st:Hs}:XT g ρ st=(g ρ st).bind Ms:=rfl
theorem Qz{j:Int}{st:Hs}(h:mV j):xS [.int j] st= .ok (none,dD 0 j.toNat) st:=if_pos h
theorem Io{l:Nat}{st:Hs}{ws:List Wv}(h:aq st l=some ws):xX (.ref l) st= .ok (some l,ws) st:=by
 show(match aq st l with | some ws=>Re.ok (some l,ws) st | none=> .bad)=_
 rw[h]
@[simp] theorem YO{st:Hs}{z:PySem.Str}:xX (.str z) st= .ok (none,du z) st:=rfl
@[simp] theorem YQ{st:Hs}{ws:List Wv}:xX (.tup ws) st= .ok (none,ws) st:=rfl
theorem LL{st:Hs}{acc:List Wv}{v:Wv}(h:acc.length < lim):pE (.ref st.length) v (st++[.lst acc])= .ok .aZ (st++[.lst (acc++[v])]):=by
 rw[BX (ws:=acc) (by simp) h]
 congr 1
 simp
theorem m_{w:Wk}{gt:Wv->Hs->Re Bool}{ge:Wv->Hs->Re Wv}{st:Hs}{t:Wv->Bool}{f:Wv->Wv}(ck:kL w st):∀(ws acc:List Wv),(∀v∈ws,∀acc,gt v (st++[.lst acc])= .ok (t v) (st++[.lst acc]))->
  (∀v∈ws,t v=true->∀acc,ge v (st++[.lst acc])= .ok (f v) (st++[.lst acc]))->acc.length+ws.length < lim->kJ (kL w) gt ge st.length ws (st++[.lst acc])=some (st++[.lst (acc++(ws.filter t).map f)])
 | [],acc,_,_,_=>by simp[kJ]
 | v::r,acc,h1,h2,hl=>by
  have hl':acc.length+(r.length+1) < lim:=hl
  unfold kJ
  rw[h1 v aQ acc]
  cases e:t v with
  | false=>
   dsimp only
   rw[if_pos (rT ck),m_ ck r acc (λv hv=>h1 v (aI _ hv)) (λv hv=>h2 v (aI _ hv)) (by omega),List.filter_cons_of_neg (by simp[e])]
  | true=>
   dsimp only
   rw[h2 v aQ e acc]
   dsimp only
   rw[LL (by omega)]
   dsimp only
   rw[if_pos (rT ck),m_ ck r (acc++[f v]) (λv hv=>h1 v (aI _ hv)) (λv hv=>h2 v (aI _ hv)) (by simp;omega),List.filter_cons_of_pos e]
   simp
theorem pQ{cs:gD}{gt:GT}{ge:GE}{ρ:bD}{w:Wk}{st:Hs}{t:Wv->Bool}{f:Wv->Wv}(ck:kL w st)(h1:∀v∈w.2,∀acc,gt (some v::gE cs ρ) (st++[.lst acc])= .ok (t v) (st++[.lst acc]))
  (h2:∀v∈w.2,t v=true->∀acc,ge (some v::gE cs ρ) (st++[.lst acc])= .ok (f v) (st++[.lst acc]))(hl:w.2.length < lim):eI cs gt ge ρ w st= .ok (.ref st.length) (st++[.lst ((w.2.filter t).map f)]):=by
 unfold eI
 rw[m_ ck w.2 [] h1 h2 (by simpa using hl)]
 simp
theorem yD{α:Type}{ws:List α}{d:Int}(h0:0<=d)(h1:d < ws.length):∃v,L2.rC ws d=some v/\v∈ws:=by
 have hk:d.toNat < ws.length:=by omega
 have ek:d=((d.toNat:Nat):Int):=by omega
 refine⟨ws[d.toNat],?_,List.getElem_mem hk⟩
 have q:=L2.qN (cu hk)
 rw[<-ek] at q
 exact q
theorem b9{st:Hs}{l:Nat}{o o':Ob}(h:st[l]? =some o):(st.set l o')[l]? =some o':=oY (List.getElem?_eq_some_iff.mp h).1
theorem fM{st:Hs}{l:Nat}{o o':Ob}(h:st[l]? =some o):(st++[o'])[l]? =some o:=by rw[gX (List.getElem?_eq_some_iff.mp h).1];exact h
theorem cL{st:Hs}{l:Nat}{ws:List Wv}(h:st[l]? =some (.lst ws)):aq st l=some ws:=by unfold aq;rw[h]
theorem bM{st:Hs}{l:Nat}{o:Ob}(h:st[l]? =some o):l < st.length:=(List.getElem?_eq_some_iff.mp h).1
theorem bV{st:Hs}{o:Ob}:(st++[o])[st.length]? =some o:=by simp
theorem UJ{z:PySem.Str}{st:Hs}(h:z.length<=lim):e7 [.str z] st= .ok (.int z.length) st:=by
 show(if z.length<=lim then Re.ok (Wv.int z.length) st else .bad)=_
 rw[if_pos h]
@[simp] theorem abo{i:Int}{st:Hs}:J6 [.int i] st= .ok (.int (if i < 0 then -i else i)) st:=rfl
@[simp] theorem UK{l:Nat}{st:Hs}{ns:List Int}(h:aq st l=some (ns.map Wv.int)):Gh [.ref l] st= .ok (.int ns.sum) st:=by
 show(match aq st l with | some ws=>(match intsOf ws with | some ns=>Re.ok (Wv.int ns.sum) st | none=> .bad) | none=> .bad)=_
 rw[h]
 dsimp only
 rw[rX]
theorem LM{lo:Int}{n:Nat}{w:Wv}(h:w∈dD lo n):∃k:Int,w= .int k/\lo<=k/\k < lo+n:=by
 unfold dD at h
 obtain⟨k,hk,rfl⟩:=List.mem_map.mp h
 have:=List.mem_range.mp hk
 exact⟨lo+k,rfl,by omega,by omega⟩
theorem LN{i:Int}(h1:-1000000<=i)(h2:i<=1000000):mV i:=⟨by omega,by omega⟩
@[simp] theorem WA{F:List Wv->Hs->Re Wv}{st:Hs}:u9 0 F [] st=F [] st:=rfl
theorem pR{w:Wk}{gt:Wv->Hs->Re Bool}{ge:Wv->Hs->Re Wv}{rr:Nat}(P:Hs->Prop)(E:Wv->Prop)(hP:∀st acc,P st->P (st.set rr (.lst acc)))(hck:∀st,P st->kL w st) :
  ∀(ws:List Wv),(∀v∈ws,∀st acc,P st->st[rr]? =some (.lst acc)->∃st1,gt v st= .ok true st1/\P st1/\st1[rr]? =some (.lst acc)/\∃u st2,ge v st1= .ok u st2/\E u/\P st2/\st2[rr]? =some (.lst acc))->
   ∀(acc:List Wv)(st:Hs),P st->st[rr]? =some (.lst acc)->acc.length+ws.length < lim->(∀a∈acc,E a)->∃st' acc',kJ (kL w) gt ge rr ws st=some st'/\P st'/\st'[rr]? =some (.lst acc')/\(∀a∈acc',E a)/\acc'.length=acc.length+ws.length
 | [],_,acc,st,hp,hg,_,ha=>⟨st,acc,rfl,hp,hg,ha,rfl⟩
 | v::r,step,acc,st,hp,hg,hl,ha=>by
  obtain⟨st1,e1,p1,g1,u,st2,e2,hu,p2,g2⟩:=step v aQ st acc hp hg
  have hl':acc.length+(r.length+1) < lim:=hl
  obtain⟨st3,YR,f1,f2,f3,f4,f5⟩:=pR P E hP hck r (λv hv=>step v (aI _ hv)) (acc++[u]) (st2.set rr (.lst (acc++[u]))) (hP _ _ p2) (b9 g2) (by simp;omega) (by
   intro a h
   rcases List.mem_append.mp h with z | z
   ·exact ha a z
   ·simp at z;rw[z];exact hu)
  refine⟨st3,YR,?_,f2,f3,f4,?_⟩
  ·unfold kJ
   rw[e1]
   dsimp only
   rw[e2]
   dsimp only
   rw[BX g2 (by omega)]
   dsimp only
   rw[if_pos (hck _ (hP _ _ p2)),f1]
  ·rw[f5];simp;omega
def Gr(st st':Hs):Prop:=st.length<=st'.length/\∀k,k < st.length->st'[k]? =st[k]?
theorem Gr.refl{st:Hs}:Gr st st:=⟨ao _,λ_ _=>rfl⟩
theorem Gr.trans{a b c:Hs}(h:Gr a b)(k:Gr b c):Gr a c:=⟨ba h.1 k.1,λj h1=>(k.2 j (bC h1 h.1)).trans (h.2 j h1)⟩
theorem Gr.push{st:Hs}{o:Ob}:Gr st (st++[o]):=⟨by simp,λk h=>gX h⟩
theorem Gr.app{st xs:Hs}:Gr st (st++xs):=⟨by simp,λk h=>gX h⟩
theorem Gr.lst{st st':Hs}(k:Gr st st'){j:Nat}{ws:List Wv}(h:aq st j=some ws):aq st' j=some ws:=by
 unfold aq at h ⊢
 rw[k.2 j (sN (st:=st) (ws:=ws) (by unfold aq;exact h))]
 exact h
theorem Gr.get{st st':Hs}(k:Gr st st'){j:Nat}{o:Ob}(h:st[j]? =some o):st'[j]? =some o:=by rw[k.2 j (bM h)];exact h
theorem Gr.keep{st st':Hs}{l:Nat}(k:Gr st st'):cP l st st':=⟨k.1,λj h _=>k.2 j h⟩
theorem Gr.sO{st s1 s2:Hs}{l:Nat}(h:st.length<=l)(g:Gr st s1)(k:cP l s1 s2):Gr st s2:=⟨ba g.1 k.1,λj h1=>(k.2 j (bC h1 g.1) (by omega)).trans (g.2 j h1)⟩
theorem yE{α:Type}(f:α->Wv){i:Nat}{gb:GS}{l:Nat}{all:List Wv}(full:List α)(P:List α->bD->Hs->Prop)
  (step:∀a pre post ρ st,full=pre++a::post->P pre ρ st->aq st l=some all->∃ρ' st',gb (ρ.set i (some (f a))) st= .nx ρ' st'/\aq st' l=some all/\P (pre++[a]) ρ' st') :
  ∀(post pre:List α)(ρ:bD)(st:Hs),full=pre++post->P pre ρ st->aq st l=some all->∃ρ' st',forL i gb l all (post.map f) ρ st= .nx ρ' st'/\P full ρ' st'/\aq st' l=some all
 | [],pre,ρ,st,hf,h,hl=>⟨ρ,st,rfl,by rw[hf];simpa using h,hl⟩
 | a::r,pre,ρ,st,hf,h,hl=>by
  obtain⟨ρ1,st1,e1,l1,p1⟩:=step a pre r ρ st hf h hl
  obtain⟨ρ2,st2,e2,p2,l2⟩:=yE f full P step r (pre++[a]) ρ1 st1 (by rw[hf];simp) p1 l1
  refine⟨ρ2,st2,?_,p2,l2⟩
  rw[aB]
  unfold forL
  rw[e1]
  simp only[if_pos l1]
  exact e2
theorem sP{α:Type}(f:α->Wv){i:Nat}{gb:GS}(full:List α)(P:List α->bD->Hs->Prop)
  (step:∀a pre post ρ st,full=pre++a::post->P pre ρ st->∃ρ' st',gb (ρ.set i (some (f a))) st= .nx ρ' st'/\P (pre++[a]) ρ' st') :
  ∀(post pre:List α)(ρ:bD)(st:Hs),full=pre++post->P pre ρ st->∃ρ' st',fc i gb (post.map f) ρ st= .nx ρ' st'/\P full ρ' st'
 | [],pre,ρ,st,hf,h=>⟨ρ,st,rfl,by rw[hf];simpa using h⟩
 | a::r,pre,ρ,st,hf,h=>by
  obtain⟨ρ1,st1,e1,p1⟩:=step a pre r ρ st hf h
  obtain⟨ρ2,st2,e2,p2⟩:=sP f full P step r (pre++[a]) ρ1 st1 (by rw[hf];simp) p1
  refine⟨ρ2,st2,?_,p2⟩
  rw[aB]
  unfold fc
  rw[e1]
  exact e2
theorem BY{i:Int}:aT (.int i) (.int i)=true:=by simp[aT]
theorem BZ{x:PySem.Str}:aT (.str x) (.str x)=true:=by simp[aT]
theorem QA{st:Hs}{x y:Wv}{d:PyData}(h1:aM st 20 x=some d)(h2:aM st 20 y=some d)(h:aT d d=true):zc x y st= .ok (.bl false) st:=by
 unfold zc
 rw[h1,h2]
 show Re.ok (Wv.bl (!PyData.eqv d d)) st=_
 rw[h]
 rfl
theorem MO{st:Hs}{n l:Nat}{ws:List Wv}(h:aq st l=some ws):aM st (n+1) (.ref l)=(fL (aM st n) ws).map vP:=by
 show(match aq st l with | some ws=>(fL (aM st n) ws).map vP | none=>none)=_
 rw[h]
@[simp] theorem abp{i j:Int}{st:Hs}:T1 [.int i,.int j] st= .ok (.int (if j > i then j else i)) st:=rfl
@[simp] theorem abq{i j:Int}{st:Hs}:T3 [.int i,.int j] st= .ok (.int (if j < i then j else i)) st:=rfl
def MP(neg:Bool)(kvs:Dc):Wv->Hs->Re Wv:=λa st1=>match a with
 | .str k=> .ok (.bl ((kvs.lookup k).isSome != neg)) st1
 | _=> .bad
@[simp] theorem YS{neg:Bool}{kvs:Dc}{ga:GE}{ρ:bD}{st:Hs}:kM neg kvs ga ρ st=(ga ρ st).bind (MP neg kvs):=rfl
@[simp] theorem WB{neg:Bool}{kvs:Dc}{k:PySem.Str}{st:Hs}:MP neg kvs (.str k) st= .ok (.bl ((kvs.lookup k).isSome != neg)) st:=rfl
def MQ(kvs:Dc):Wv->Hs->Re Wv:=λa st1=>match a with
 | .str k=>(match kvs.lookup k with | some w=> .ok w st1 | none=> .bad)
 | _=> .bad
@[simp] theorem YT{kvs:Dc}{ga:GE}{ρ:bD}{st:Hs}:Bi kvs ga ρ st=(ga ρ st).bind (MQ kvs):=rfl
theorem LO{kvs:Dc}{k:PySem.Str}{w:Wv}{st:Hs}(h:kvs.lookup k=some w):MQ kvs (.str k) st= .ok w st:=by
 show(match kvs.lookup k with | some w=>Re.ok w st | none=> .bad)=_
 rw[h]
theorem UL{l:Nat}{st:Hs}{ps:List (Int×Int)}(h:aq st l=some (ps.map pw))(hn:ps.length < 64):jw [.ref l] st= .ok (.ref st.length) (st++[.lst ((cV ps).map pw)]):=by
 match ps,h,hn with
 | [],h,_=>
  unfold jw
  simp only[h]
  rfl
 | [p],h,_=>
  unfold jw
  simp only[h]
  rfl
 | p::q::r,h,hn=>
  have e:jN ((p::q::r).map pw)=some (p::q::r):=sg _
  unfold jw
  simp only[h]
  rw[if_neg (by simp),e]
  dsimp only
  rw[if_pos ⟨by simp,hn⟩]
open PySem L2
theorem tb_none{K:PySem.W.Frag}{H:Hp}(h1:PySem.W.nsIn K afa "form_of"=some none)(h2:PySem.W.nsIn K afa "formula_by"=some none)(h3:PySem.W.nsIn K afa "turned"=some none)(h4:PySem.W.nsIn K afa "readied_content"=some none):vJ K H:=λq P hq e=>by
 have no:∀q,PySem.W.nsIn K afa q=some none->jK K q=none:=λq h=>by
  unfold jK PySem.W.tabIn
  rw[h]
 simp only[cT,mf,oO,or_false] at hq
 rcases hq with rfl | rfl | rfl | rfl
 ·rw[no _ h1] at e;cases e
 ·rw[no _ h2] at e;cases e
 ·rw[no _ h3] at e;cases e
 ·rw[no _ h4] at e;cases e
theorem ra{fd:aeW}{ps:List Str}(us:List ae0)(hl:us.length=1)(h:∀a0:ae0,bindArgs fd { pos:=[a0] }=pure (ps.zip [a0])):bindArgs fd { pos:=us }=pure (ps.zip us):=match us,hl with | [a0],_=>h a0
theorem ln2{fd:aeW}{ps:List Str}(us:List ae0)(hl:us.length=2)(h:∀a0 a1:ae0,bindArgs fd { pos:=[a0,a1] }=pure (ps.zip [a0,a1])):bindArgs fd { pos:=us }=pure (ps.zip us):=match us,hl with | [a0,a1],_=>h a0 a1
theorem WC{fd:aeW}{ps:List Str}(us:List ae0)(hl:us.length=3)(h:∀a0 a1 a2:ae0,bindArgs fd { pos:=[a0,a1,a2] }=pure (ps.zip [a0,a1,a2])):bindArgs fd { pos:=us }=pure (ps.zip us):=match us,hl with | [a0,a1,a2],_=>h a0 a1 a2
theorem eF.mo{P:aeY}{w:ae1}{K:PySem.W.Frag}{mg:Str->Option ae0}{base:Heap}{j k:Nat}{x:Str}{n:Nat}{F:List Wv->Hs->Re Wv}(h:eF P w K mg base j x n F)(l:j<=k:=by first | decide | omega):eF P w K mg base k x n F:=h.mono l
theorem hdf{P:aeY}{w:ae1}{K:PySem.W.Frag}{mg:Str->Option ae0}{base:Heap}{h:Heap}{k:Nat}{c:Ct}{x:Str}{st:Stmt}{ps:List Str}{g:GS}(KX:K.In h)(NS:h.Ns afa mg)(D:aX K x st)(T:yA c k P w K mg base)
  (S:FnScope c.N ps (defScope st))(hg:aY 30 c (defBody st)=g)(hM:c.self∈cT->Dp K mg base/\c.self=x:=by exact λz=>absurd (show("":Str)∈cT from z) (by decide))(hn:(defScope st).names=c.names:=by exact rfl)
  (hb:∀(kV doc pm:ae0)(an:Option aeU)(cdv ct:ae0)(us:List ae0),us.length=ps.length->bindArgs (PySem.W.fnOf x x (defArgs st) (defBody st) (defScope st) .none kV doc pm an cdv ct) ⟨us,[]⟩=pure (ps.zip us):=by intro _ _ _ _ _ _ us hl;first | exact ra us hl λ_=>rfl | exact ln2 us hl λ_ _=>rfl | exact WC us hl λ_ _ _=>rfl | exact ln4 us hl λ_ _ _ _=>rfl | exact ln5 us hl λ_ _ _ _ _=>rfl | exact ln6 us hl λ_ _ _ _ _ _=>rfl | exact ln7 us hl λ_ _ _ _ _ _ _=>rfl) :
  eF P w K mg base (k+1) x ps.length (bL c.N.length g):=aD KX NS D T S hn hg hb hM
theorem tk{c:Ct}{k:Nat}{P:aeY}{w:ae1}{K:PySem.W.Frag}{mg:Str->Option ae0}{base:Heap}(ht:TabOk K c.tb c.tt c.tc)(hf:AllP (λp=>eF P w K mg base k p.1 p.2.1 p.2.2) c.fns:=by exact trivial)(hc:AllP (λp=>BG K mg p.1 p.2) c.consts:=by exact trivial)(hb:AllP (λx=>mg x=none) c.bl:=by exact trivial)
  (hk:AllP (λx=>∃C,mg x=some (.ref C)/\FT K x C) c.clss:=by exact trivial)(hn:AllP (λx=>∃C,mg x=some (.ref C)/\ClsAt K x C) c.DL:=by exact trivial)(hd:AllP (λp=>oC K w mg p.1 p.2) c.BF:=by exact trivial)
  (hu:AllP (λx=>∀n F,c.fns.lookup x=some (n,F)->KL P w K mg base k x n F) c.Je:=by exact trivial)(hx:Am c k P w K mg base:=by exact Am.no rfl rfl rfl rfl):yA c k P w K mg base:=ay hc hb hf ht hk hn hd hu hx
end J
namespace K22
open PySem J
open L2 (defScope defBody defArgs FnScope CX0 FnOk XK Hp)
def top (i:Nat):Stmt:=PySem.Challenge.pw_onelook_k22_sheets_made.main.body.getD i (.Pass ⟨0,0,0,0⟩)
def jC:Tab:=[(("Full","Full"),true),(("Full","BadPlace"),false),(("Full","BadFormula"),false),(("Full","BadContent"),false),(("BadPlace","Full"),false),(("BadPlace","BadPlace"),true),(("BadPlace","BadFormula"),false),(("BadPlace","BadContent"),false),(("BadFormula","Full"),false),(("BadFormula","BadPlace"),false),(("BadFormula","BadFormula"),true),(("BadFormula","BadContent"),false),(("BadContent","Full"),false),(("BadContent","BadPlace"),false),(("BadContent","BadFormula"),false),(("BadContent","BadContent"),true)]
def ff:vR:=[(("Full","ValueError"),true),(("BadPlace","ValueError"),true),(("BadFormula","ValueError"),true),(("BadContent","ValueError"),true)]
def a8:Dc:=[("num",.int 0),("text",.int 0),("lost",.int 0),("at",.int 0),("minus",.int 1),("not",.int 1),("+",.int 2),("-",.int 2),("*",.int 2),("/",.int 2),("&",.int 2),("<",.int 2),("=",.int 2),("rest",.int 2),("if",.int 3),("else",.int 2),("sum",.int 0),("count",.int 0),("least",.int 0),("greatest",.int 0),("find",.int 1)]
def QB:Tab:=[]
def cB(s:Stmt)(n b:List Str)(f:List (Str×Nat×(List Wv->Hs->Re Wv))):Ct:={ N:=n,names:=(defScope s).names,consts:=[],bl:=b,fns:=f,tb:=jC,tt:=ff,tc:=QB }
theorem jc{N P:List Str}{sc:Scope}(h:sc.kind= .function/\sc.isCoroutine=false/\sc.isGenerator=false/\N.take P.length=P)(k:N.Nodup/\(∀x∈P,sc.names.lookup x=some .local\/sc.names.lookup x=some .cell)/\∀y∈sc.names,y.2≠.free):FnScope N P sc:=⟨h.1,h.2.1,h.2.2.1,k.1,h.2.2.2,k.2.1,k.2.2⟩
abbrev eM:Stmt:=top 51
def h_:GS:=(aH (iD (bz (ai oLt (af 1) (aL e7 (ae (af 0) aj)))) (aU (ai cU (af 0) (af 1))) bp)
  (aU (gC (.int 0))))
def bS:List Wv->Hs->Re Wv:=bL 2 h_
def ic:Ct:=cB eM ["script","k"] ["len"] []
theorem sQ:aY 30 (ic) (defBody eM)=h_:=by kernel_rfl
theorem qC:FnScope (ic).N ["script","k"] (defScope eM):=jc ⟨rfl,rfl,rfl,rfl⟩ (by decide+kernel)
abbrev iR:Stmt:=top 62
def kT:GS:=(aH (bB 1 (ai eE (av 2 bS (ae (af 0) (ae (gC (.int 0)) aj))) (gC (.int 2))))
  (aH (bB 2 (ai cU (gZ (ae (gC (.int 0)) (ae (ai oMod (ai eE (af 1) (gC (.int 4))) (gC (.int 97))) aj))) (ai oMod (af 1) (gC (.int 2)))))
  (aU (eh (ae (af 2) (ae (ai cU (gZ (ae (gC (.int 0)) (ae (ai oMod (ai eE (af 1) (gC (.int 400))) (gC (.int 23))) aj))) (ai oMod (ai eE (af 1) (gC (.int 2))) (gC (.int 2)))) aj))))))
def cI:List Wv->Hs->Re Wv:=bL 3 kT
def kU:Ct:=cB iR ["script","first","down"] [] [("_law_cell_at",2,bS)]
theorem yF:aY 30 (kU) (defBody iR)=kT:=by kernel_rfl
theorem wy:FnScope (kU).N ["script"] (defScope iR):=jc ⟨rfl,rfl,rfl,rfl⟩ (by decide+kernel)
abbrev gG:Stmt:=top 54
def jS:GS:=(aH (bB 2 (ai oMod (ai cU (af 0) (gC (.int 0))) (af 1)))
  (aH (A6 (ai eE (ai cU (af 0) (gC (.int 0))) (af 1)) (af 0) (gC (.int 0)))
  (aU (af 2))))
def ar:List Wv->Hs->Re Wv:=bL 3 jS
def jT:Ct:=cB gG ["row","many","digit"] [] []
theorem wz:aY 30 (jT) (defBody gG)=jS:=by kernel_rfl
theorem t8:FnScope (jT).N ["row","many"] (defScope gG):=jc ⟨rfl,rfl,rfl,rfl⟩ (by decide+kernel)
abbrev iS:Stmt:=top 56
def kW:GS:=(aH (bB 2 (av 2 ar (ae (af 0) (ae (gC (.int 3)) aj))))
  (aH (bB 3 (av 2 ar (ae (af 0) (ae (gC (.int 4)) aj))))
  (aH (bB 4 (ai dt (af 2) (av 2 ar (ae (af 0) (ae (ai mU (gC (.int 3)) (af 2)) aj)))))
  (aH (bB 5 (ai dt (af 3) (av 2 ar (ae (af 0) (ae (ai mU (gC (.int 4)) (af 3)) aj)))))
  (aH (A8 [6,7] (af 1))
  (aU (eh (ae (ai dt (af 6) (af 2)) (ae (ai dt (af 7) (af 3)) (ae (ai dt (af 6) (af 4)) (ae (ai dt (af 7) (af 5)) aj)))))))))))
def cJ:List Wv->Hs->Re Wv:=bL 8 kW
def kX:Ct:=cB iS ["row","spot","top","left","bottom","right","down","across"] [] [("_law_digit",2,ar)]
theorem yG:aY 30 (kX) (defBody iS)=kW:=by kernel_rfl
theorem wA:FnScope (kX).N ["row","spot"] (defScope iS):=jc ⟨rfl,rfl,rfl,rfl⟩ (by decide+kernel)
abbrev iT:Stmt:=top 57
def fY:GT:=(λ_ st=> .ok true st)
def dN:GE:=(av 2 ar (ae (af 1) (ae (gC (.int 2)) aj)))
def kY:GS:=(aU (aL qm (ae (hI [("row",0)] (Kq (ae (af 1) aj)) fY dN) aj)))
def bE:List Wv->Hs->Re Wv:=bL 2 kY
def kZ:Ct:=cB iT ["row","many"] ["tuple","range"] [("_law_digit",2,ar)]
theorem yH:aY 30 (kZ) (defBody iT)=kY:=by kernel_rfl
theorem wB:FnScope (kZ).N ["row","many"] (defScope iT):=jc ⟨rfl,rfl,rfl,rfl⟩ (by decide+kernel)
abbrev fA:Stmt:=top 58
def jd:GS:=(aH (iD (bz (ai oEq (av 2 ar (ae (af 0) (ae (gC (.int 5)) aj))) (gC (.int 0)))) (aU (ai mU (ai oj (gC (.int 10)) (gC (.int 60))) (av 2 ar (ae (af 0) (ae (gC (.int 3)) aj))))) bp)
  (aU (av 2 ar (ae (af 0) (ae (gC (.int 6)) aj)))))
def dG:List Wv->Hs->Re Wv:=bL 1 jd
def je:Ct:=cB fA ["row"] [] [("_law_digit",2,ar)]
theorem t9:aY 30 (je) (defBody fA)=jd:=by kernel_rfl
theorem sR:FnScope (je).N ["row"] (defScope fA):=jc ⟨rfl,rfl,rfl,rfl⟩ (by decide+kernel)
abbrev gH:Stmt:=top 55
def jU:GS:=(aU (eh (ae (ai dt (ai cU (af 1) (gC (.int 0))) (av 2 ar (ae (af 0) (ae (gC (.int 3)) aj)))) (ae (ai dt (ai cU (af 1) (gC (.int 1))) (av 2 ar (ae (af 0) (ae (gC (.int 4)) aj)))) aj))))
def cM:List Wv->Hs->Re Wv:=bL 2 jU
def jV:Ct:=cB gH ["row","spot"] [] [("_law_digit",2,ar)]
theorem wC:aY 30 (jV) (defBody gH)=jU:=by kernel_rfl
theorem t_:FnScope (jV).N ["row","spot"] (defScope gH):=jc ⟨rfl,rfl,rfl,rfl⟩ (by decide+kernel)
abbrev iU:Stmt:=top 59
def k6:GS:=(aH (bB 2 (av 2 ar (ae (af 0) (ae (gC (.int 8)) aj))))
  (aH (iD (bz (ai oEq (af 2) (gC (.int 0)))) (aU (eh (ae (gC (.str "num")) (ae (av 1 dG (ae (af 0) aj)) aj)))) bp)
  (aH (iD (bz (ai oEq (af 2) (gC (.int 1)))) (aU (eh (ae (gC (.str "text")) (ae (ai cU (gZ (ae (gC (.str "")) (ae (gC (.str "a")) (ae (gC (.str "b7")) (ae (gC (.str "no")) aj))))) (av 2 ar (ae (af 0) (ae (gC (.int 4)) aj)))) aj)))) bp)
  (aH (iD (Fg (bz (ai oEq (af 2) (gC (.int 2)))) (bz (ai oEq (av 2 ar (ae (af 0) (ae (gC (.int 3)) aj))) (gC (.int 0))))) (aU (eh (ae (gC (.str "lost")) aj))) bp)
  (aH (iD (bz (ai oLt (af 2) (gC (.int 6)))) (aU (eh (ae (gC (.str "at")) (ae (av 2 cM (ae (af 0) (ae (af 1) aj))) (ae (av 2 bE (ae (af 0) (ae (gC (.int 2)) aj))) aj))))) bp)
  (aH (bB 3 (ai cU (gZ (ae (gC (.str "sum")) (ae (gC (.str "count")) (ae (gC (.str "least")) (ae (gC (.str "greatest")) aj))))) (av 2 ar (ae (af 0) (ae (gC (.int 4)) aj)))))
  (aH (bB 4 (av 2 cJ (ae (af 0) (ae (af 1) aj))))
  (aU (eh (ae (af 3) (ae (af 4) (ae (av 2 bE (ae (af 0) (ae (gC (.int 4)) aj))) aj))))))))))))
def d_:List Wv->Hs->Re Wv:=bL 5 k6
def k7:Ct:=cB iU ["row","spot","way","word","area"] [] [("_law_digit",2,ar),("_law_area",2,cJ),("_law_pins",2,bE),("_law_number",1,dG),("_law_place",2,cM)]
theorem yI:aY 30 (k7) (defBody iU)=k6:=by kernel_rfl
theorem wD:FnScope (k7).N ["row","spot"] (defScope iU):=jc ⟨rfl,rfl,rfl,rfl⟩ (by decide+kernel)
abbrev eN:Stmt:=top 60
def eO(aO:List Wv->Hs->Re Wv):GS:=(aH (iD (bz (ai oEq (af 2) (gC (.int 0)))) (aU (av 2 d_ (ae (af 0) (ae (af 1) aj)))) bp)
  (aH (bB 3 (av 2 ar (ae (af 0) (ae (gC (.int 16)) aj))))
  (aH (iD (bz (ai oLt (af 3) (gC (.int 3)))) (aU (av 2 d_ (ae (af 0) (ae (af 1) aj)))) bp)
  (aH (bB 4 (av 3 aO (ae (af 0) (ae (af 1) (ae (ai mU (af 2) (gC (.int 1))) aj)))))
  (aH (iD (bz (ai oLt (af 3) (gC (.int 5)))) (aU (eh (ae (ai cU (gZ (ae (gC (.str "minus")) (ae (gC (.str "not")) aj))) (ai mU (af 3) (gC (.int 3)))) (ae (af 4) aj)))) bp)
  (aH (iD (bz (ai oEq (af 3) (gC (.int 5)))) (aU (eh (ae (gC (.str "find")) (ae (af 4) (ae (av 2 cJ (ae (af 0) (ae (af 1) aj))) (ae (av 2 bE (ae (af 0) (ae (gC (.int 4)) aj))) aj)))))) bp)
  (aH (bB 5 (av 3 aO (ae (af 0) (ae (af 1) (ae (ai mU (af 2) (gC (.int 1))) aj)))))
  (aH (iD (bz (ai oLt (af 3) (gC (.int 8)))) (aU (eh (ae (gC (.str "if")) (ae (af 4) (ae (af 5) (ae (av 3 aO (ae (af 0) (ae (af 1) (ae (ai mU (af 2) (gC (.int 1))) aj)))) aj)))))) bp)
  (aH (iD (bz (ai oEq (af 3) (gC (.int 15)))) (aU (eh (ae (ai cU (gZ (ae (gC (.str "=")) (ae (gC (.str "&")) aj))) (av 2 ar (ae (af 0) (ae (gC (.int 2)) aj)))) (ae (af 4) (ae (af 5) aj))))) bp)
  (aU (eh (ae (ai cU (gZ (ae (gC (.str "else")) (ae (gC (.str "rest")) (ae (gC (.str "+")) (ae (gC (.str "-")) (ae (gC (.str "*")) (ae (gC (.str "/")) (ae (gC (.str "<")) aj)))))))) (ai mU (af 3) (gC (.int 8)))) (ae (af 4) (ae (af 5) aj))))))))))))))
def k8(aO:List Wv->Hs->Re Wv):Ct where
  N:=["row","spot","deep","way","one","other"]
  names:=(defScope eN).names
  consts:=[]
  bl:=[]
  fns:=[("_law_digit",2,ar),("_law_formula",3,aO),("_law_leaf",2,d_),("_law_area",2,cJ),("_law_pins",2,bE)]
  tb:=jC
  tt:=ff
  tc:=QB
theorem sS(aO:List Wv->Hs->Re Wv):aY 30 (k8 aO) (defBody eN)=eO aO:=by kernel_rfl
theorem qD(aO:List Wv->Hs->Re Wv):FnScope ["row","spot","deep","way","one","other"] ["row","spot","deep"] (defScope eN):=jc ⟨rfl,rfl,rfl,rfl⟩ (by decide+kernel)
def ko:Nat->(List Wv->Hs->Re Wv)
  | 0=>Ub
  | n+1=>bL 6 (eO ((ko n)))
def bF(n:Nat):List Wv->Hs->Re Wv:=(ko n)
theorem mx(n:Nat):bF (n+1)=bL 6 (eO (bF n)):=rfl
def aO:List Wv->Hs->Re Wv:=bF 6
abbrev eP:Stmt:=top 61
def ie:GS:=(aH (bB 3 (av 2 ar (ae (af 0) (ae (gC (.int 8)) aj))))
  (aH (iD (bz (ai oEq (af 3) (gC (.int 0)))) (aU (gC .aZ)) bp)
  (aH (iD (bz (ai oEq (af 3) (gC (.int 1)))) (aU (ai mU (av 2 ar (ae (af 0) (ae (ai dt (ai dq (gC (.int 2)) (ai oj (gC (.int 10)) (gC (.int 60)))) (gC (.int 1))) aj))) (ai oj (gC (.int 10)) (gC (.int 60))))) bp)
  (aH (iD (bz (ai oEq (af 3) (gC (.int 2)))) (aU (ai mU (av 2 ar (ae (af 0) (ae (gC (.int 5)) aj))) (gC (.int 1)))) bp)
  (aH (iD (bz (ai oEq (af 3) (gC (.int 3)))) (aU (ai cU (gZ (ae (gC (.str "")) (ae (gC (.str "a")) (ae (gC (.str "b7")) (ae (gC (.str "no")) aj))))) (av 2 ar (ae (af 0) (ae (gC (.int 4)) aj))))) bp)
  (aU (av 3 aO (ae (af 0) (ae (af 1) (ae (af 2) aj))))))))))
def aV:List Wv->Hs->Re Wv:=bL 4 ie
def ig:Ct:=cB eP ["row","spot","deep","way"] [] [("_law_digit",2,ar),("_law_formula",3,aO)]
theorem sU:aY 30 (ig) (defBody eP)=ie:=by kernel_rfl
theorem qE:FnScope (ig).N ["row","spot","deep"] (defScope eP):=jc ⟨rfl,rfl,rfl,rfl⟩ (by decide+kernel)
abbrev gI:Stmt:=top 52
def jW:GS:=(aH (bB 2 (ai oMod (ai dq (ai dt (ai dt (ai oMod (af 0) (gC (.int 1000000007))) (ai dq (gC (.int 7919)) (af 1))) (gC (.int 1))) (gC (.int 48271))) (gC (.int 2147483647))))
  (aU (ai oMod (ai dq (ai oMod (ai dq (af 2) (af 2)) (gC (.int 2147483629))) (gC (.int 69621))) (gC (.int 2147483647)))))
def eQ:List Wv->Hs->Re Wv:=bL 3 jW
def jX:Ct:=cB gI ["cell","k","stir"] [] []
theorem wF:aY 30 (jX) (defBody gI)=jW:=by kernel_rfl
theorem ua:FnScope (jX).N ["cell","k"] (defScope gI):=jc ⟨rfl,rfl,rfl,rfl⟩ (by decide+kernel)
abbrev fB:Stmt:=top 53
def dg:GS:=(aH (bB 5 (av 2 eQ (ae (ai dt (af 2) (aL Gh (ae (af 0) aj))) (ae (ai dt (ai dq (gC (.int 8)) (af 1)) (af 3)) aj))))
  (bB 4 (ai dt (ai dq (af 4) (gC (.int 2147483647))) (af 5))))
def bP:GS:=(bB 2 (ai dt (ai dq (af 2) (ai oj (gC (.int 10)) (gC (.int 60)))) (ai oMod (ai cU (af 0) (af 3)) (ai oj (gC (.int 10)) (gC (.int 60))))))
def jf:GS:=(aH (bB 2 (gC (.int 0)))
  (aH (su 3 (ae (ai dt (af 1) (gC (.int 1))) (ae (aL e7 (ae (af 0) aj)) (ae (gC (.int 13)) aj))) bP)
  (aH (iD (bz (ai oEq (ai oMod (av 2 bS (ae (af 0) (ae (gC (.int 0)) aj))) (gC (.int 2))) (gC (.int 1)))) (aU (gZ (ae (af 2) aj))) bp)
  (aH (bB 4 (gC (.int 0)))
  (aH (pA 3 (ae (gC (.int 8)) aj) dg)
  (aU (gZ (ae (ai eE (af 4) (gC (.int 8))) aj))))))))
def cz:List Wv->Hs->Re Wv:=bL 6 jf
def jg:Ct:=cB fB ["script","k","cell","j","found","drawn"] ["range","len","sum"] [("_law_mixed",2,eQ),("_law_cell_at",2,bS)]
theorem ub:aY 30 (jg) (defBody fB)=jf:=by kernel_rfl
theorem sV:FnScope (jg).N ["script","k"] (defScope fB):=jc ⟨rfl,rfl,rfl,rfl⟩ (by decide+kernel)
abbrev gJ:Stmt:=top 63
def dO:GS:=(aH (bB 5 (av 3 aV (ae (av 2 cz (ae (af 0) (ae (af 4) aj))) (ae (af 2) (ae (af 1) aj)))))
  (iD (bz (ai jL (af 5) (gC .aZ))) (jy (af 5) (af 3) (eh (ae (ai dt (ai cU (af 2) (gC (.int 0))) (ai eE (af 4) (gC (.int 4)))) (ae (ai dt (ai cU (af 2) (gC (.int 1))) (ai oMod (af 4) (gC (.int 4)))) aj)))) bp))
def gK:GS:=(aH (bB 2 (av 1 cI (ae (af 0) aj)))
  (aH (bB 3 hZ)
  (aH (pA 4 (ae (gC (.int 12)) aj) dO)
  (aU (af 3)))))
def eR:List Wv->Hs->Re Wv:=bL 6 gK
def jY:Ct:={ cB gJ ["script","deep","spot","cells","k","content"] ["range"] [("_law_spot",1,cI),("_law_content",3,aV),("_law_stream",2,cz)] with m6:=["cells"] }
theorem wG:aY 30 (jY) (defBody gJ)=gK:=by kernel_rfl
theorem ud:FnScope (jY).N ["script","deep"] (defScope gJ):=jc ⟨rfl,rfl,rfl,rfl⟩ (by decide+kernel)
abbrev iV:Stmt:=top 47
def k9:GS:=(aH (iD (bz (ai OD (aL u0 (ae (af 0) aj)) (gC (.int 200)))) (mW "Full" (ae (gC (.str "more than 200 filled cells")) aj)) bp)
  (aU (af 0)))
def cX:List Wv->Hs->Re Wv:=bL 1 k9
def k_:Ct:={ cB iV ["sheet"] ["len"] [] with consts:=[("MOST_CELLS",(.int 200))],clss:=["Full"],m6:=["sheet"] }
theorem yJ:aY 30 (k_) (defBody iV)=k9:=by kernel_rfl
theorem wH:FnScope (k_).N ["sheet"] (defScope iV):=jc ⟨rfl,rfl,rfl,rfl⟩ (by decide+kernel)
abbrev jZ:Stmt:=top 10
def ng:GS:=(aU (cD (i8 oLe oLt (gC (.int 0)) (ai cU (af 0) (gC (.int 0))) (gC (.int 99))) (i8 oLe oLt (gC (.int 0)) (ai cU (af 0) (gC (.int 1))) (gC (.int 26)))))
def bT:List Wv->Hs->Re Wv:=bL 1 ng
def nh:Ct:={ cB jZ ["place"] [] [] with consts:=[("ROWS",(.int 99)),("COLUMNS",(.int 26))] }
theorem Ao:aY 30 (nh) (defBody jZ)=ng:=by kernel_rfl
theorem yK:FnScope (nh).N ["place"] (defScope jZ):=jc ⟨rfl,rfl,rfl,rfl⟩ (by decide+kernel)
abbrev gM:Stmt:=top 11
def j6:GS:=(aH (iD (rM (iG (av 1 bT (ae (eh (ae (af 0) (ae (af 1) aj))) aj)))) (mW "BadPlace" (ae (gC (.str "the row or the column is beyond the sheet")) aj)) bp)
  (aU (eh (ae (af 0) (ae (af 1) aj)))))
def eS:List Wv->Hs->Re Wv:=bL 2 j6
def j7:Ct:={ cB gM ["row","column"] [] [("is_place",1,bT)] with clss:=["BadPlace"] }
theorem wI:aY 30 (j7) (defBody gM)=j6:=by kernel_rfl
theorem ue:FnScope (j7).N ["row","column"] (defScope gM):=jc ⟨rfl,rfl,rfl,rfl⟩ (by decide+kernel)
abbrev iW:Stmt:=top 23
def lh:GS:=(aU (Bi a8 (af 0)))
def b_:List Wv->Hs->Re Wv:=bL 1 lh
def ll:Ct:={ cB iW ["word"] [] [] with BF:=[("PART_COUNTS",a8)] }
theorem yL:aY 30 (ll) (defBody iW)=lh:=by kernel_rfl
theorem wJ:FnScope (ll).N ["word"] (defScope iW):=jc ⟨rfl,rfl,rfl,rfl⟩ (by decide+kernel)
abbrev j8:Stmt:=top 25
def ni:GS:=(aU (iK (af 0) (qj (gC (.int 1))) (qj (ai dt (gC (.int 1)) (av 1 b_ (ae (ai cU (af 0) (gC (.int 0))) aj))))))
def cY:List Wv->Hs->Re Wv:=bL 1 ni
def nj:Ct:=cB j8 ["formula"] [] [("part_many",1,b_)]
theorem Ap:aY 30 (nj) (defBody j8)=ni:=by kernel_rfl
theorem yM:FnScope (nj).N ["formula"] (defScope j8):=jc ⟨rfl,rfl,rfl,rfl⟩ (by decide+kernel)
abbrev fF:Stmt:=top 36
def cE:GS:=(hG (qk uW (af 1) (av 1 cY (ae (af 2) aj))))
def jh:GS:=(aH (bB 1 (gZ aj))
  (aH (zF 2 (af 0) cE)
  (aU (af 1))))
def dH:List Wv->Hs->Re Wv:=bL 3 jh
def ji:Ct:=cB fF ["level","parts","piece"] [] [("parts_of",1,cY)]
theorem uf:aY 30 (ji) (defBody fF)=jh:=by kernel_rfl
theorem sW:FnScope (ji).N ["level"] (defScope fF):=jc ⟨rfl,rfl,rfl,rfl⟩ (by decide+kernel)
abbrev j9:Stmt:=top 24
def nk:GS:=(aU (ai xW (af 0) (gC (.qh [.str "sum",.str "count",.str "least",.str "greatest",.str "find"]))))
def ij:List Wv->Hs->Re Wv:=bL 1 nk
def nr:Ct:={ cB j9 ["word"] [] [] with consts:=[("AREA_WORDS",(.qh [.str "sum",.str "count",.str "least",.str "greatest",.str "find"]))] }
theorem Aq:aY 30 (nr) (defBody j9)=nk:=by kernel_rfl
theorem yN:FnScope (nr).N ["word"] (defScope j9):=jc ⟨rfl,rfl,rfl,rfl⟩ (by decide+kernel)
abbrev j_:Stmt:=top 27
def nu:GS:=(aU (cD (aL (fX jC ff) (ae (af 0) (ae (gC (.ty "int")) aj))) (xC (aL (fX jC ff) (ae (af 0) (ae (gC (.ty "bool")) aj))))))
def cN:List Wv->Hs->Re Wv:=bL 1 nu
def ny:Ct:=cB j_ ["thing"] ["isinstance","int","bool"] []
theorem Ar:aY 30 (ny) (defBody j_)=nu:=by kernel_rfl
theorem yO:FnScope (ny).N ["thing"] (defScope j_):=jc ⟨rfl,rfl,rfl,rfl⟩ (by decide+kernel)
abbrev eT:Stmt:=top 30
def ik:GS:=(aU (cD (i8 oLe oLe (gC (.int 32)) (af 0) (gC (.int 126))) (cD (ai zc (af 0) (gC (.int 34))) (ai zc (af 0) (gC (.int 37))))))
def cZ:List Wv->Hs->Re Wv:=bL 1 ik
def il:Ct:=cB eT ["number"] [] []
theorem sX:aY 30 (il) (defBody eT)=ik:=by kernel_rfl
theorem qF:FnScope (il).N ["number"] (defScope eT):=jc ⟨rfl,rfl,rfl,rfl⟩ (by decide+kernel)
abbrev dh:Stmt:=top 29
def fN:GT:=(λ_ st=> .ok true st)
def c4:GE:=(av 1 cZ (ae (aL KO (ae (af 0) aj)) aj))
def fg:GS:=(aU (aL xT (ae (hI [] (hJ (af 0)) fN c4) aj)))
def cF:List Wv->Hs->Re Wv:=bL 1 fg
def fh:Ct:=cB dh ["text"] ["all","ord"] [("is_text_sign",1,cZ)]
theorem pT:aY 30 (fh) (defBody dh)=fg:=by kernel_rfl
theorem oP:FnScope (fh).N ["text"] (defScope dh):=jc ⟨rfl,rfl,rfl,rfl⟩ (by decide+kernel)
abbrev mh:Stmt:=top 28
def mi:GS:=(aU (cD (aL (fX jC ff) (ae (af 0) (ae (gC (.ty "str")) aj))) (cD (ai oLe (aL e7 (ae (af 0) aj)) (gC (.int 40))) (av 1 cF (ae (af 0) aj)))))
def di:List Wv->Hs->Re Wv:=bL 1 mi
def pV:Ct:={ cB mh ["thing"] ["isinstance","str","len"] [("has_text_signs",1,cF)] with consts:=[("MOST_SIGNS",(.int 40))] }
theorem DX:aY 30 (pV) (defBody mh)=mi:=by kernel_rfl
theorem As:FnScope (pV).N ["thing"] (defScope mh):=jc ⟨rfl,rfl,rfl,rfl⟩ (by decide+kernel)
abbrev dP:Stmt:=top 31
def gn:GT:=(λ_ st=> .ok true st)
def dz:GE:=(av 1 cN (ae (af 0) aj))
def fZ:GS:=(aU (cD (aL (fX jC ff) (ae (af 0) (ae (gC (.ty "tuple")) aj))) (cD (ai oEq (aL e7 (ae (af 0) aj)) (af 1)) (aL xT (ae (hI [] (hJ (af 0)) gn dz) aj)))))
def a9:List Wv->Hs->Re Wv:=bL 2 fZ
def f6:Ct:=cB dP ["thing","many"] ["isinstance","tuple","all","len"] [("is_whole",1,cN)]
theorem qG:aY 30 (f6) (defBody dP)=fZ:=by kernel_rfl
theorem pW:FnScope (f6).N ["thing","many"] (defScope dP):=jc ⟨rfl,rfl,rfl,rfl⟩ (by decide+kernel)
abbrev ka:Stmt:=top 32
def lp:GT:=(λ_ st=> .ok true st)
def ip:GE:=(ai xW (af 0) (eh (ae (gC (.int 0)) (ae (gC (.int 1)) aj))))
def nB:GS:=(aU (cD (av 2 a9 (ae (af 0) (ae (af 1) aj))) (aL xT (ae (hI [] (hJ (af 0)) lp ip) aj))))
def c7:List Wv->Hs->Re Wv:=bL 2 nB
def nC:Ct:=cB ka ["thing","many"] ["all"] [("is_number_row",2,a9)]
theorem Au:aY 30 (nC) (defBody ka)=nB:=by kernel_rfl
theorem yP:FnScope (nC).N ["thing","many"] (defScope ka):=jc ⟨rfl,rfl,rfl,rfl⟩ (by decide+kernel)
abbrev fG:Stmt:=top 15
def jj:GS:=(aH (bB 1 (cD (ai oLe (ai cU (af 0) (gC (.int 0))) (ai cU (af 0) (gC (.int 2)))) (ai oLe (ai cU (af 0) (gC (.int 1))) (ai cU (af 0) (gC (.int 3))))))
  (aU (cD (af 1) (cD (av 1 bT (ae (iK (af 0) lW (qj (gC (.int 2)))) aj)) (av 1 bT (ae (iK (af 0) (qj (gC (.int 2))) lW) aj))))))
def dI:List Wv->Hs->Re Wv:=bL 2 jj
def jk:Ct:=cB fG ["area","in_order"] [] [("is_place",1,bT)]
theorem ug:aY 30 (jk) (defBody fG)=jj:=by kernel_rfl
theorem sY:FnScope (jk).N ["area"] (defScope fG):=jc ⟨rfl,rfl,rfl,rfl⟩ (by decide+kernel)
abbrev iX:Stmt:=top 16
def lq:GS:=(aU (ai dq (ai dt (ai mU (ai cU (af 0) (gC (.int 2))) (ai cU (af 0) (gC (.int 0)))) (gC (.int 1))) (ai dt (ai mU (ai cU (af 0) (gC (.int 3))) (ai cU (af 0) (gC (.int 1)))) (gC (.int 1)))))
def fO:List Wv->Hs->Re Wv:=bL 1 lq
def lu:Ct:=cB iX ["area"] [] []
theorem yQ:aY 30 (lu) (defBody iX)=lq:=by kernel_rfl
theorem wK:FnScope (lu).N ["area"] (defScope iX):=jc ⟨rfl,rfl,rfl,rfl⟩ (by decide+kernel)
abbrev mj:Stmt:=top 14
def pX:GS:=(aU (cD (av 1 dI (ae (af 0) aj)) (ai oLe (av 1 fO (ae (af 0) aj)) (gC (.int 300)))))
def gT:List Wv->Hs->Re Wv:=bL 1 pX
def pY:Ct:={ cB mj ["area"] [] [("has_corners",1,dI),("area_many",1,fO)] with consts:=[("MOST_PLACES",(.int 300))] }
theorem DY:aY 30 (pY) (defBody mj)=pX:=by kernel_rfl
theorem Av:FnScope (pY).N ["area"] (defScope mj):=jc ⟨rfl,rfl,rfl,rfl⟩ (by decide+kernel)
abbrev ml:Stmt:=top 33
def fj:GS:=(aH (iD (bz (ai oEq (af 0) (gC (.str "num")))) (aU (cD (ai oEq (aL e7 (ae (af 1) aj)) (gC (.int 1))) (cD (av 1 cN (ae (ai cU (af 1) (gC (.int 0))) aj)) (i8 oLe oLe (gC (.int 0)) (ai cU (af 1) (gC (.int 0))) (ai oj (gC (.int 10)) (gC (.int 60))))))) bp)
  (aH (iD (bz (ai oEq (af 0) (gC (.str "text")))) (aU (cD (ai oEq (aL e7 (ae (af 1) aj)) (gC (.int 1))) (av 1 di (ae (ai cU (af 1) (gC (.int 0))) aj)))) bp)
  (aH (iD (bz (ai oEq (af 0) (gC (.str "at")))) (aU (cD (ai oEq (aL e7 (ae (af 1) aj)) (gC (.int 2))) (cD (av 2 a9 (ae (ai cU (af 1) (gC (.int 0))) (ae (gC (.int 2)) aj))) (cD (av 1 bT (ae (ai cU (af 1) (gC (.int 0))) aj)) (av 2 c7 (ae (ai cU (af 1) (gC (.int 1))) (ae (gC (.int 2)) aj))))))) bp)
  (aH (iD (iG (av 1 ij (ae (af 0) aj))) (aU (cD (ai oEq (aL e7 (ae (af 1) aj)) (gC (.int 2))) (cD (av 2 a9 (ae (ai cU (af 1) (gC (.int 0))) (ae (gC (.int 4)) aj))) (cD (av 1 gT (ae (ai cU (af 1) (gC (.int 0))) aj)) (av 2 c7 (ae (ai cU (af 1) (gC (.int 1))) (ae (gC (.int 4)) aj))))))) bp)
  (aU (ai oEq (aL e7 (ae (af 1) aj)) (gC (.int 0))))))))
def bK:List Wv->Hs->Re Wv:=bL 2 fj
def pZ:Ct:=cB ml ["word","tail"] ["len"] [("has_area",1,ij),("is_whole",1,cN),("is_text",1,di),("is_number_row",2,a9),("is_place",1,bT),("are_pins",2,c7),("is_area",1,gT)]
theorem DZ:aY 30 (pZ) (defBody ml)=fj:=by kernel_rfl
theorem Aw:FnScope (pZ).N ["word","tail"] (defScope ml):=jc ⟨rfl,rfl,rfl,rfl⟩ (by decide+kernel)
abbrev mr:Stmt:=top 26
def p5:GS:=(aU (iK (af 0) (qj (ai dt (gC (.int 1)) (av 1 b_ (ae (ai cU (af 0) (gC (.int 0))) aj)))) lW))
def gU:List Wv->Hs->Re Wv:=bL 1 p5
def p7:Ct:=cB mr ["formula"] [] [("part_many",1,b_)]
theorem D0:aY 30 (p7) (defBody mr)=p5:=by kernel_rfl
theorem Ax:FnScope (p7).N ["formula"] (defScope mr):=jc ⟨rfl,rfl,rfl,rfl⟩ (by decide+kernel)
abbrev kc:Stmt:=top 34
def nD:GS:=(aH (iD (CO (rM (iG (aL (fX jC ff) (ae (af 0) (ae (gC (.ty "tuple")) aj))))) (bz (ai oEq (aL e7 (ae (af 0) aj)) (gC (.int 0))))) (aU (gC (.bl false))) bp)
  (aH (bB 1 (ai cU (af 0) (gC (.int 0))))
  (aH (iD (CO (rM (iG (aL (fX jC ff) (ae (af 1) (ae (gC (.ty "str")) aj))))) (bz (kM true a8 (af 1)))) (aU (gC (.bl false))) bp)
  (aU (cD (ai oEq (aL e7 (ae (av 1 cY (ae (af 0) aj)) aj)) (av 1 b_ (ae (af 1) aj))) (av 2 bK (ae (af 1) (ae (av 1 gU (ae (af 0) aj)) aj))))))))
def iq:List Wv->Hs->Re Wv:=bL 2 nD
def nE:Ct:={ cB kc ["thing","word"] ["isinstance","tuple","len","str"] [("is_tail",2,bK),("part_many",1,b_),("tail_of",1,gU),("parts_of",1,cY)] with BF:=[("PART_COUNTS",a8)] }
theorem Ay:aY 30 (nE) (defBody kc)=nD:=by kernel_rfl
theorem yR:FnScope (nE).N ["thing"] (defScope kc):=jc ⟨rfl,rfl,rfl,rfl⟩ (by decide+kernel)
abbrev eV:Stmt:=top 35
def ir:GT:=(λ_ st=> .ok true st)
def dX:GE:=(av 1 iq (ae (af 0) aj))
def cb:GS:=(aH (wa (λi j=>i+j) 2 (aL e7 (ae (af 1) aj)))
  (aH (wa (λi j=>i+j) 3 (gC (.int 1)))
  (aH (iD (CO (bz (ai OD (af 2) (gC (.int 60)))) (CO (bz (ai OD (af 3) (gC (.int 12)))) (rM (iG (aL xT (ae (hI [] (hJ (af 1)) ir dX) aj)))))) (mW "BadFormula" (ae (gC (.str "no formula")) aj)) bp)
  (bB 1 (av 1 dH (ae (af 1) aj))))))
def iu:GS:=(aH (bB 1 (gZ (ae (af 0) aj)))
  (aH (bB 2 (gC (.int 0)))
  (aH (bB 3 (gC (.int 0)))
  (aH (v_ pP (iG (af 1)) cb)
  (aU (af 0))))))
def c9:List Wv->Hs->Re Wv:=bL 4 iu
def iy:Ct:={ cB eV ["formula","level","pieces","deep"] ["len","all"] [("level_below",1,dH),("is_piece",1,iq)] with consts:=[("MOST_PIECES",(.int 60)),("MOST_DEEP",(.int 12))],clss:=["BadFormula"] }
theorem sZ:aY 30 (iy) (defBody eV)=iu:=by kernel_rfl
theorem qH:FnScope (iy).N ["formula"] (defScope eV):=jc ⟨rfl,rfl,rfl,rfl⟩ (by decide+kernel)
abbrev kf:Stmt:=top 38
def nG:GS:=(aU (ai OD (aL J6 (ae (af 0) aj)) (ai oj (gC (.int 10)) (gC (.int 60)))))
def iz:List Wv->Hs->Re Wv:=bL 1 nG
def nH:Ct:=cB kf ["number"] ["abs"] []
theorem Az:aY 30 (nH) (defBody kf)=nG:=by kernel_rfl
theorem yS:FnScope (nH).N ["number"] (defScope kf):=jc ⟨rfl,rfl,rfl,rfl⟩ (by decide+kernel)
abbrev iY:Stmt:=top 46
def lx:GS:=(aU (cD (av 1 cN (ae (af 0) aj)) (xC (av 1 iz (ae (af 0) aj)))))
def fP:List Wv->Hs->Re Wv:=bL 1 lx
def lz:Ct:=cB iY ["content"] [] [("is_whole",1,cN),("is_great",1,iz)]
theorem yT:aY 30 (lz) (defBody iY)=lx:=by kernel_rfl
theorem wL:FnScope (lz).N ["content"] (defScope iY):=jc ⟨rfl,rfl,rfl,rfl⟩ (by decide+kernel)
abbrev eW:Stmt:=top 45
def c_:GS:=(aH (iD (iG (aL (fX jC ff) (ae (af 0) (ae (gC (.ty "tuple")) aj)))) (aU (av 1 c9 (ae (af 0) aj))) bp)
  (aH (iD (Fg (rM (iG (av 1 di (ae (af 0) aj)))) (rM (iG (av 1 fP (ae (af 0) aj))))) (mW "BadContent" (ae (gC (.str "a number or a text beyond the bounds")) aj)) bp)
  (aU (af 0))))
def bU:List Wv->Hs->Re Wv:=bL 1 c_
def iA:Ct:={ cB eW ["content"] ["isinstance","tuple"] [("made_formula",1,c9),("is_text",1,di),("is_number",1,fP)] with clss:=["BadContent"] }
theorem s_:aY 30 (iA) (defBody eW)=c_:=by kernel_rfl
theorem qI:FnScope (iA).N ["content"] (defScope eW):=jc ⟨rfl,rfl,rfl,rfl⟩ (by decide+kernel)
abbrev fH:Stmt:=top 44
def fI:GS:=(aH (bB 3 (av 2 eS (ae (ai cU (af 1) (gC (.int 0))) (ae (ai cU (af 1) (gC (.int 1))) aj))))
  (iD (bz (ai Tq (af 2) (gC .aZ))) (hG (BA (af 0) (af 3) (gC .aZ))) (jy (av 1 bU (ae (af 2) aj)) (af 0) (af 3))))
def bO:List Wv->Hs->Re Wv:=bL 4 fI
def jl:Ct:={ cB fH ["sheet","place","content","made"] [] [("made_place",2,eS),("made_content",1,bU)] with m6:=["sheet"] }
theorem uh:aY 30 (jl) (defBody fH)=fI:=by kernel_rfl
theorem tm:FnScope (jl).N ["sheet","place","content"] (defScope fH):=jc ⟨rfl,rfl,rfl,rfl⟩ (by decide+kernel)
abbrev gN:Stmt:=top 41
def bY:GS:=(hG (av 3 bO (ae (af 1) (ae (ai cU (af 2) (gC (.int 0))) (ae (ai cU (af 2) (gC (.int 1))) aj)))))
def gO:GS:=(aH (bB 1 hZ)
  (aH (zF 2 (af 0) bY)
  (aU (av 1 cX (ae (af 1) aj)))))
def bf:List Wv->Hs->Re Wv:=bL 3 gO
def kg:Ct:={ cB gN ["cells","sheet","cell"] [] [("with_room",1,cX),("put_content",3,bO)] with m6:=["sheet"] }
theorem wM:aY 30 (kg) (defBody gN)=gO:=by kernel_rfl
theorem ui:FnScope (kg).N ["cells"] (defScope gN):=jc ⟨rfl,rfl,rfl,rfl⟩ (by decide+kernel)
abbrev eZ:Stmt:=top 43
def cg:GS:=(hG (av 3 bO (ae (af 2) (ae (af 3) (ae (af 4) aj)))))
def iB:GS:=(aH (bB 2 (aL qu (ae (af 0) aj)))
  (aH (jA 1 (sj [3,4] (jQ (af 1)) cg))
  (aU (af 2))))
def de:List Wv->Hs->Re Wv:=bL 5 iB
def iC:Ct:={ cB eZ ["sheet","changes","turned","place","content"] ["dict"] [("put_content",3,bO)] with m6:=["sheet","turned","changes"] }
theorem tD:aY 30 (iC) (defBody eZ)=iB:=by kernel_rfl
theorem qJ:FnScope (iC).N ["sheet","changes"] (defScope eZ):=jc ⟨rfl,rfl,rfl,rfl⟩ (by decide+kernel)
abbrev gP:Stmt:=top 42
def kh:GS:=(aU (av 1 cX (ae (av 2 de (ae (af 0) (ae (af 1) aj))) aj)))
def dj:List Wv->Hs->Re Wv:=bL 2 kh
def kj:Ct:={ cB gP ["sheet","changes"] [] [("with_room",1,cX),("with_changes",2,de)] with m6:=["sheet","changes"] }
theorem wN:aY 30 (kj) (defBody gP)=kh:=by kernel_rfl
theorem uj:FnScope (kj).N ["sheet","changes"] (defScope gP):=jc ⟨rfl,rfl,rfl,rfl⟩ (by decide+kernel)
abbrev fJ:Stmt:=top 48
def jm:GS:=(aU (aL (fX jC ff) (ae (sD (af 0) (af 1)) (ae (gC (.ty "tuple")) aj))))
def cR:List Wv->Hs->Re Wv:=bL 2 jm
def jn:Ct:={ cB fJ ["sheet","place"] ["isinstance","tuple"] [] with m6:=["sheet"] }
theorem uk:aY 30 (jn) (defBody fJ)=jm:=by kernel_rfl
theorem tE:FnScope (jn).N ["sheet","place"] (defScope fJ):=jc ⟨rfl,rfl,rfl,rfl⟩ (by decide+kernel)
abbrev dm:Stmt:=top 49
def bG:GT:=(iG (av 2 cR (ae (af 1) (ae (af 0) aj))))
def cq:GE:=(af 0)
def fk:GS:=(aU (aL oH (ae (jO 0 (hI [("sheet",0)] (kQ (af 0)) bG cq)) aj)))
def cG:List Wv->Hs->Re Wv:=bL 1 fk
def fm:Ct:={ cB dm ["sheet"] ["sorted"] [("has_formula",2,cR)] with m6:=["sheet"] }
theorem p8:aY 30 (fm) (defBody dm)=fk:=by kernel_rfl
theorem oQ:FnScope (fm).N ["sheet"] (defScope dm):=jc ⟨rfl,rfl,rfl,rfl⟩ (by decide+kernel)
abbrev B0:Stmt:=top 64
def mv:GT:=(iG (aL (tY jC ff) (ae (f' (af 1) (af 0)) (ae (gC (.ty "tuple")) aj))))
def p_:GE:=(af 0)
def lA:GS:=(aH (bB 5 (eh (ae (ai dt (ai cU (af 1) (gC (.int 0))) (ai eE (af 10) (gC (.int 4)))) (ae (ai dt (ai cU (af 1) (gC (.int 1))) (ai oMod (af 10) (gC (.int 4)))) aj))))
  (iD (bz (ai oEq (av 2 ar (ae (af 3) (ae (gC (.int 3)) aj))) (gC (.int 0)))) (aH (jy (av 3 aV (ae (af 3) (ae (af 1) (ae (gC (.int 1)) aj)))) (af 8) (af 5))
    (iD (bz (ai jL (f' (af 8) (af 5)) (gC .aZ))) (jy (f' (af 8) (af 5)) (af 9) (af 5)) (iD (bz (ai (sE false) (af 5) (af 9))) (hG (u6 (af 9) (af 5))) bp))) bp))
def fQ:GS:=(aH (iD (bz (ai oEq (av 2 ar (ae (af 3) (ae (gC (.int 3)) aj))) (gC (.int 0)))) (hG (Li (af 4) (gC (.int 0)) (eh (ae (af 5) (ae (av 3 aV (ae (af 3) (ae (af 1) (ae (gC (.int 0)) aj)))) aj))))) bp)
  (hG (qk pE (af 4) (eh (ae (af 5) (ae (f' (af 2) (af 5)) aj))))))
def yU:GS:=(aH (bB 1 (av 1 cI (ae (af 0) aj)))
  (aH (bB 2 (av 2 eR (ae (af 0) (ae (gC (.int 2)) aj))))
  (aH (bB 3 (av 2 cz (ae (af 0) (ae (gC (.int 7)) aj))))
  (aH (bB 4 (gZ aj))
  (aH (jA 2 (qr 5 (af 2) fQ))
  (aH (bB 6 (aL pJ (ae (af 4) aj)))
  (aH (bB 7 (av 1 bf (ae (af 6) aj)))
  (aH (iD (bz (ai mY (av 1 bf (ae (aL qm (ae (af 4) aj)) aj)) (af 2))) (aU (gC (.bl false))) bp)
  (aH (iD (CO (rM (iG (aL (tY jC ff) (ae (af 7) (ae (gC (.ty "dict")) aj))))) (CO (bz (ai mY (af 7) (af 2))) (bz (ai zc (af 6) (af 4))))) (aU (gC (.bl false))) bp)
  (aH (bB 8 hZ)
  (aH (bB 9 (aL qu (ae (af 2) aj)))
  (aH (pA 10 (ae (gC (.int 12)) aj) lA)
  (aH (bB 11 (aL qu (ae (af 8) aj)))
  (aH (bB 12 (av 2 dj (ae (af 7) (ae (af 11) aj))))
  (aH (iD (CO (bz (ai mY (af 12) (af 9))) (CO (bz (ai mY (af 7) (af 2))) (bz (ai mY (af 11) (af 8))))) (aU (gC (.bl false))) bp)
  (aH (bB 13 (av 1 cG (ae (af 12) aj)))
  (aH (bB 14 (hI [("due",9)] (hJ (aL oH (ae (af 9) aj))) mv p_))
  (aH (iD (CO (rM (iG (aL (tY jC ff) (ae (af 13) (ae (gC (.ty "list")) aj))))) (bz (ai zc (af 13) (af 14)))) (aU (gC (.bl false))) bp)
  (aH (hG (G_ (af 12)))
  (aH (hG (qk pE (af 13) (eh (ae (gC (.int 0)) (ae (gC (.int 0)) aj)))))
  (aH (iD (CO (bz (ai mY (av 2 dj (ae (af 7) (ae (af 8) aj))) (af 9))) (bz (ai mY (af 7) (af 2)))) (aU (gC (.bl false))) bp)
  (aU (ai qB (av 1 bf (ae (gZ aj) aj)) hZ)))))))))))))))))))))))
def F_law:List Wv->Hs->Re Wv:=bL 15 yU
def Ip:Ct:={ cB B0 ["script","spot","cells","row","pairs","place","handed","sheet","changes","due","k","given","found","told","filled"] ["list","dict","range","tuple","isinstance","sorted"] [("_law_spot",1,cI),("_law_cells",2,eR),("_law_stream",2,cz),("made_sheet",1,bf),("with_cells",2,dj),("formula_places",1,cG),("_law_digit",2,ar),("_law_content",3,aV)] with m6:=["cells","changes","due","given","sheet","found","made_sheet()","with_cells()"],Ll:=["due"] }
theorem UM:aY 30 (Ip) (defBody B0)=yU:=by kernel_rfl
theorem QC:FnScope (Ip).N ["script"] (defScope B0):=jc ⟨rfl,rfl,rfl,rfl⟩ (by decide+kernel)
abbrev S:=PySem.Str
def tI(l:List Int):Wv:=.tup (l.map Wv.int)
inductive Fm
 | lit (x:S) (ws:List Wv)
 | pt (x:S) (l p:List Int)
 | fd (a:Fm) (l p:List Int)
 | o1 (x:S) (a:Fm)
 | o2 (x:S) (a b:Fm)
 | o3 (a b c:Fm)
def Fm.v:Fm->S×List Wv
 | .lit x ws=>(x,ws)
 | .pt x l p=>(x,[tI l,tI p])
 | .fd a l p=>("find",[.tup (.str a.v.1::a.v.2),tI l,tI p])
 | .o1 x a=>(x,[.tup (.str a.v.1::a.v.2)])
 | .o2 x a b=>(x,[.tup (.str a.v.1::a.v.2),.tup (.str b.v.1::b.v.2)])
 | .o3 a b c=>("if",[.tup (.str a.v.1::a.v.2),.tup (.str b.v.1::b.v.2),.tup (.str c.v.1::c.v.2)])
def Fm.w(f:Fm):Wv:=.tup (.str f.v.1::f.v.2)
def Fm.dp:Fm->Nat
 | .lit _ _=>1
 | .pt _ _ _=>1
 | .fd a _ _=>a.dp+1
 | .o1 _ a=>a.dp+1
 | .o2 _ a b=>max a.dp b.dp+1
 | .o3 a b c=>max a.dp (max b.dp c.dp)+1
def Fm.sz:Fm->Nat
 | .lit _ _=>1
 | .pt _ _ _=>1
 | .fd a _ _=>a.sz+1
 | .o1 _ a=>a.sz+1
 | .o2 _ a b=>a.sz+b.sz+1
 | .o3 a b c=>a.sz+b.sz+c.sz+1
def tO:Int:=10 ^ 60
def Sg(c:Nat):Prop:=32<=c/\c<=126/\c≠34/\c≠37
def Iq(s:S):Prop:=s.length<=40/\∀c∈s.cps.toList,Sg c
def UN(x:S)(ws:List Wv):Prop:=(x="num"/\∃i,ws=[.int i]/\0<=i/\i<=tO)\/(x="text"/\∃s,ws=[.str s]/\Iq s)\/(x="lost"/\ws=[])
def AA(q:Int):Prop:=q=0\/q=1
def kz(a b:Int):Prop:=0<=a/\a < 99/\0<=b/\b < 26
def Ir(a b c d:Int):Prop:=0<=a/\a<=c/\c < 99/\0<=b/\b<=d/\d < 26/\(c - a+1) * (d - b+1)<=300
def Sh2(l p:List Int):Prop:=∃a b q r,l=[a,b]/\p=[q,r]/\kz a b/\AA q/\AA r
def YU(l p:List Int):Prop:=∃a b c d q r s t,l=[a,b,c,d]/\p=[q,r,s,t]/\Ir a b c d/\AA q/\AA r/\AA s/\AA t
def AW:List S:=["sum","count","least","greatest"]
def W1:List S:=["minus","not"]
def W2:List S:=["else","rest","+","-","*","/","&","<","="]
def Fm.ok:Fm->Prop
 | .lit x ws=>UN x ws
 | .pt x l p=>(x="at"/\Sh2 l p)\/(x∈AW/\YU l p)
 | .fd a l p=>a.ok/\YU l p
 | .o1 x a=>x∈W1/\a.ok
 | .o2 x a b=>x∈W2/\a.ok/\b.ok
 | .o3 a b c=>a.ok/\b.ok/\c.ok
def Ro(r:Nat)(st:Hs):Prop:=∃v:Int,st[r]? =some (.lst [.int v])
def Dw(r:Nat)(st st':Hs):Prop:=cP r st st'/\Ro r st'
theorem Dw.trans{r:Nat}{a b c:Hs}(h:Dw r a b)(k:Dw r b c):Dw r a c:=⟨h.1.trans k.1,k.2⟩
theorem Ro.push{r:Nat}{st:Hs}{o:Ob}(h:Ro r st):Ro r (st++[o]):=let ⟨v,e⟩:=h;⟨v,fM e⟩
theorem Ro.gr{r:Nat}{st st':Hs}(h:Ro r st)(g:Gr st st'):Ro r st':=let ⟨v,e⟩:=h;⟨v,g.get e⟩
theorem Dw.of{r:Nat}{st:Hs}(h:Ro r st):Dw r st st:=⟨cP.refl,h⟩
theorem digit{st:Hs}{l:Nat}{n many:Int}(h:st[l]? =some (.lst [.int n]))(hm:many≠0/\many.natAbs.log2 < 9000) :
  ar [.ref l,.int many] st= .ok (.int (n.fmod many)) (st.set l (.lst [.int (n.fdiv many)])):=by
 have hl:aq st l=some [.int n]:=by unfold aq;rw[h]
 have h0:L2.rC [Wv.int n] 0=some (.int n):=rfl
 unfold ar bL jS
 simp[Ij hl h0,mK hm.1,m8 hm,A6,TH,h,L2.Eb]
theorem dig{r:Nat}{st:Hs}{m:Int}(h:Ro r st)(h0:0 < m)(h1:m < 1000000):∃d st',ar [.ref r,.int m] st= .ok (.int d) st'/\0<=d/\d < m/\Dw r st st':=by
 obtain⟨v,e⟩:=h
 have hl:m.natAbs.log2 < 9000:=Nat.lt_trans ((Nat.log2_lt (k:=20) (by omega)).mpr (by omega)) (by decide)
 exact⟨_,_,digit e ⟨by omega,hl⟩,lB _ h0,nI _ h0,cP.set,_,b9 e⟩
theorem UO{x y p q:Int}(h0:0<=x)(h1:x<=p)(k0:0<=y)(k1:y<=q):x * y<=p * q:=Int.mul_le_mul h1 k1 k0 (by omega)
theorem jx0{st:Hs}{a b:Wv}:cU (.tup [a,b]) (.int 0) st= .ok a st:=rfl
theorem jx1{st:Hs}{a b:Wv}:cU (.tup [a,b]) (.int 1) st= .ok b st:=rfl
theorem place{r:Nat}{st:Hs}{a b:Int}(h:Ro r st):∃c d st',cM [.ref r,tI [a,b]] st= .ok (tI [a+c,b+d]) st'/\(0<=c/\c < 3/\0<=d/\d < 4)/\Dw r st st':=by
 obtain⟨c,s1,e1,c0,c1,d1⟩:=dig (m:=3) h (by decide) (by decide)
 obtain⟨d,s2,e2,a0,a1,d2⟩:=dig (m:=4) d1.2 (by decide) (by decide)
 unfold cM bL jU
 exact⟨c,d,s2,by simp[e1,e2,tI,jx0,jx1],⟨c0,c1,a0,a1⟩,d1.trans d2⟩
theorem YV{r:Nat}{st:Hs}{a b:Int}(h:Ro r st):∃t l p q st',cJ [.ref r,tI [a,b]] st= .ok (tI [a+t,b+l,a+p,b+q]) st'/\(0<=t/\t<=p/\p < 3/\0<=l/\l<=q/\q < 4)/\Dw r st st':=by
 obtain⟨t,s1,e1,t0,t1,d1⟩:=dig (m:=3) h (by decide) (by decide)
 obtain⟨l,s2,e2,l0,l1,d2⟩:=dig (m:=4) d1.2 (by decide) (by decide)
 obtain⟨p,s3,e3,p0,p1,d3⟩:=dig (m:=3 - t) d2.2 (by omega) (by omega)
 obtain⟨q,s4,e4,q0,q1,d4⟩:=dig (m:=4 - l) d3.2 (by omega) (by omega)
 have sT:A8 [6,7] (af 1) [some (.ref r),some (tI [a,b]),some (.int t),some (.int l),some (.int (t+p)),some (.int (l+q)),none,none] s4= .nx [some (.ref r),some (tI [a,b]),some (.int t),some (.int l),some (.int (t+p)),some (.int (l+q)),some (.int a),some (.int b)] s4:=rfl
 refine⟨t,l,t+p,l+q,s4,?_,by omega,((d1.trans d2).trans d3).trans d4⟩
 unfold cJ bL kW
 simp[e1,e2,e3,e4,sT]
 rfl
theorem pins{r:Nat}{st:Hs}(h:Ro r st){n:Nat}(hn:n<=4):∃p st',bE [.ref r,.int n] st= .ok (tI p) st'/\p.length=n/\(∀q∈p,q=0\/q=1)/\Dw r st st':=by
 have hr:r < st.length:=let ⟨v,e⟩:=h;bM e
 have cn:mV (n:Int):=LN (by omega) (by omega)
 obtain⟨st',acc,e,⟨p1,p2⟩,hg,ha,hl⟩:=pR (w:=(none,dD 0 n)) (gt:=λv=>fY (some v::gE [("row",0)] [some (.ref r),some (.int (n:Int))])) (ge:=λv=>dN (some v::gE [("row",0)] [some (.ref r),some (.int (n:Int))])) (rr:=st.length)
  (λs=>cP r st s/\Ro r s) (λu=>∃q:Int,u= .int q/\(q=0\/q=1))
  (λs acc ⟨k,v,e⟩=>⟨⟨by simpa using k.1,λj hj hne=>by rw[bw (by omega)];exact k.2 j hj hne⟩,v,by rw[bw (by omega)];exact e⟩) (λ_ _=>trivial) (dD 0 n)
  (λv hv s acc ⟨k,ro⟩ hg=>by
   obtain⟨q,s2,e2,q0,q1,k2,YW⟩:=dig (m:=2) ro (by decide) (by decide)
   refine⟨s,rfl,⟨k,ro⟩,hg,.int q,s2,?_,⟨q,rfl,by omega⟩,⟨k.trans k2,YW⟩,?_⟩
   ·unfold dN
    simp[gE,e2]
   ·rw[k2.2 _ (bM hg) (by omega)];exact hg)
  [] (st++[.lst []]) ⟨cP.push,h.push⟩ bV (by rw[dE];simp[lim];omega) (by simp)
 obtain⟨p,hp⟩:∃p:List Int,acc=p.map Wv.int/\∀q∈p,q=0\/q=1:=by
  clear e hg hl
  induction acc with
  | nil=>exact⟨[],rfl,by simp⟩
  | cons a t ih=>
   obtain⟨p,e1,e2⟩:=ih λu hu=>ha u (aI _ hu)
   obtain⟨q,e3,e4⟩:=ha a aQ
   exact⟨q::p,by rw[e1,e3];rfl,by simpa using ⟨e4,e2⟩⟩
 obtain⟨rfl,hp⟩:=hp
 refine⟨p,st',?_,by simpa [dE] using hl,hp,p1,p2⟩
 have run:eI [("row",0)] fY dN [some (.ref r),some (.int (n:Int))] (none,dD 0 n) st= .ok (.ref st.length) st':=by
  unfold eI
  rw[e]
 have tc:qm [.ref st.length] st'= .ok (.tup (p.map Wv.int)) st':=by
  show(match aq st' st.length with | some ws=>Re.ok (Wv.tup ws) st' | none=> .bad)=_
  rw[cL hg]
 unfold bE bL kY
 have r1:xS [.int (n:Int)] st= .ok (none,dD 0 n) st:=by rw[Qz cn];simp
 simp[r1,run,tc,tI]
theorem mixed{st:Hs}{c k:Int}(h0:0<=k)(h1:k < 1000000):∃v:Int,0<=v/\eQ [.int c,.int k] st= .ok (.int v) st:=by
 have z1:dq (.int 7919) (.int k) st= .ok (.int (7919 * k)) st:=BW (by decide) (by decide)
 have z2:∀i:Int,dq (.int i) (.int 48271) st= .ok (.int (i * 48271)) st:=λi=>mul_r (by decide) (by decide)
 have z3:∀i:Int,dq (.int i) (.int 69621) st= .ok (.int (i * 69621)) st:=λi=>mul_r (by decide) (by decide)
 generalize hs:((c.fmod 1000000007+7919 * k+1) * 48271).fmod 2147483647=s
 have s0:0<=s:=by rw[<-hs];exact lB _ (by decide)
 have s1:s < 2147483647:=by rw[<-hs];exact nI _ (by decide)
 have z4:dq (.int s) (.int s) st= .ok (.int (s * s)) st:=BW (by omega) (by omega)
 refine⟨((s * s).fmod 2147483629 * 69621).fmod 2147483647,lB _ (by decide),?_⟩
 unfold eQ bL jW
 simp[z1,z2,z3,z4,hs,mK]
theorem Iu{ns:List Int}{k:Int}(h0:0<=k)(c:k < ns.length):L2.rC (ns.map Wv.int) k=some (.int (ns.getD k.toNat 0)):=by
 have hk:k.toNat < ns.length:=by omega
 have ek:k=((k.toNat:Nat):Int):=by omega
 have q:=L2.qN (xs:=ns.map Wv.int) (j:=k.toNat) (v:=.int (ns.getD k.toNat 0)) (by simp[hk])
 rw[<-ek] at q
 exact q
theorem B1{st:Hs}{l:Nat}{ns:List Int}(h:aq st l=some (ns.map Wv.int)){k:Int}(h0:0<=k):∃v:Int,bS [.ref l,.int k] st= .ok (.int v) st:=by
 have ln:=Ik h
 rw[bb] at ln
 unfold bS bL h_
 by_cases c:k < ns.length
 ·exact⟨_,by simp[ln,c,Ij h (Iu h0 c)];rfl⟩
 ·exact⟨0,by simp[ln,c]⟩
theorem Iv{st:Hs}:oj (.int 10) (.int 60) st= .ok (.int (10 ^ 60)) st:=UD (by decide)
theorem Iw{lo c:Int}{n:Nat}{j:Nat}{w:Wv}(h:(sk lo c n)[j]? =some w):w= .int (lo+j * c)/\j < n:=by
 have hj:j < n:=by
  have:=(List.getElem?_eq_some_iff.mp h).1
  rw[oG] at this
  exact this
 rw[uV hj] at h
 exact⟨(Option.some.inj h).symm,hj⟩
theorem QD{c:Int}{k:Nat}(h0:0<=c)(h1:c < (10 ^ 60) ^ k)(hk:k<=5):IntMulOk c (10 ^ 60):=by
 have b:c.natAbs < 2 ^ 1000:=by
  have e:(10 ^ 60:Int) ^ k < 2 ^ 1000:=by
   have hk':k=0\/k=1\/k=2\/k=3\/k=4\/k=5:=by omega
   rcases hk' with rfl | rfl | rfl | rfl | rfl | rfl<;>decide+kernel
  have e2:((2 ^ 1000:Nat):Int)=2 ^ 1000:=by norm_cast
  omega
 exact IntMulOk.of_bits (ba (LP b) (by decide)) (ba (LP (k:=200) (by decide+kernel)) (by decide))
theorem stream{st:Hs}{l:Nat}{ns:List Int}(h:aq st l=some (ns.map Wv.int))(hn:ns.length<=63){k:Int}(h0:0<=k)(h1:k<=12):∃n:Int,cz [.ref l,.int k] st= .ok (.ref st.length) (st++[.lst [.int n]]):=by
 obtain⟨v0,ev0⟩:=B1 h (k:=0) (zI _)
 have ln:=Ik h
 rw[bb] at ln
 have sm:=UK h
 have cr:GF (k+1) ns.length 13:=⟨by omega,by omega,by omega,by omega,by decide,by decide⟩
 have sn:iL (k+1) ns.length 13<=5:=by
  unfold iL
  split<;>omega
 have l1:∃(o3:Option Wv)(c:Int),fc 3 bP (sk (k+1) 13 (iL (k+1) ns.length 13)) [some (.ref l),some (.int k),some (.int 0),none,none,none] st= .nx [some (.ref l),some (.int k),some (.int c),o3,none,none] st:=by
  obtain⟨ρ,st',e,o3,c,rfl,rfl,_,_⟩:=q_ (i:=3) (gb:=bP) (λi ρ st'=>∃(o3:Option Wv)(c:Int),ρ=[some (.ref l),some (.int k),some (.int c),o3,none,none]/\st'=st/\0<=c/\c < (10 ^ 60) ^ i) (sk (k+1) 13 (iL (k+1) ns.length 13)) 0 [some (.ref l),some (.int k),some (.int 0),none,none,none] st ⟨none,0,rfl,rfl,by decide,by decide⟩ (by
   rintro j w hw _ s ⟨o3,c,rfl,rfl,c0,c1⟩
   obtain⟨rfl,hj⟩:=Iw hw
   have hj5:0+j<=5:=by omega
   have jx:k+1+(j:Int) * 13 < ns.length:=by
    unfold iL at hj
    split at hj<;>omega
   have m1:dq (.int c) (.int (10 ^ 60)) s= .ok (.int (c * 10 ^ 60)) s:=BV (QD c0 c1 hj5)
   have m2:oMod (.int (ns.getD (k+1+(j:Int) * 13).toNat 0)) (.int (10 ^ 60)) s= .ok (.int ((ns.getD (k+1+(j:Int) * 13).toNat 0).fmod (10 ^ 60))) s:=mK (by decide)
   have x1:=Ij h (Iu (k:=k+1+(j:Int) * 13) (by omega) jx)
   have q0:=lB (ns.getD (k+1+(j:Int) * 13).toNat 0) (b:=10 ^ 60) (by decide)
   have q1:=nI (ns.getD (k+1+(j:Int) * 13).toNat 0) (b:=10 ^ 60) (by decide)
   generalize (ns.getD (k+1+(j:Int) * 13).toNat 0).fmod (10 ^ 60)=q at m2 q0 q1
   refine⟨_,_,?_,⟨some (.int (k+1+(j:Int) * 13)),c * 10 ^ 60+q,rfl,rfl,?_,?_⟩⟩
   ·unfold bP
    simp only[MD,MG,MF,e_c,QE,QF,List.set_cons_zero,List.set_cons_succ,ME,iQ,Uz,Iv,Ih,m1,x1,m2,UC,wt]
   ·have:=Int.mul_nonneg c0 (show(0:Int)<=10 ^ 60 by decide)
    omega
   ·have e:(10 ^ 60:Int) ^ (0+j+1)=(10 ^ 60) ^ (0+j) * 10 ^ 60:=Int.pow_succ ..
    rw[e]
    have:(c+1) * 10 ^ 60<=(10 ^ 60) ^ (0+j) * 10 ^ 60:=Int.mul_le_mul_of_nonneg_right (by omega) (by decide)
    rw[Int.add_mul] at this
    omega)
  exact⟨o3,c,e⟩
 obtain⟨o3,c,e1⟩:=l1
 have l2:∃(MR rb:Option Wv)(g':Int),fc 3 dg (dD 0 8) [some (.ref l),some (.int k),some (.int c),o3,some (.int 0),none] st= .nx [some (.ref l),some (.int k),some (.int c),MR,some (.int g'),rb] st:=by
  obtain⟨ρ,st',e,MR,rb,g',rfl,rfl⟩:=yC (i:=3) (gb:=dg) (λρ st'=>∃(o3 o5:Option Wv)(g:Int),ρ=[some (.ref l),some (.int k),some (.int c),o3,some (.int g),o5]/\st'=st) (dD 0 8) [some (.ref l),some (.int k),some (.int c),o3,some (.int 0),none] st ⟨o3,none,0,rfl,rfl⟩ (by
   rintro w hw _ s ⟨o3,o5,g,rfl,rfl⟩
   obtain⟨j,rfl,j0,j1⟩:=LM hw
   obtain⟨u,_,eu⟩:=mixed (st:=s) (c:=c+ns.sum) (k:=8 * k+j) (by omega) (by omega)
   have z1:dq (.int 8) (.int k) s= .ok (.int (8 * k)) s:=BW (by decide) (by decide)
   have z3:dq (.int g) (.int 2147483647) s= .ok (.int (g * 2147483647)) s:=mul_r (by decide) (by decide)
   refine⟨_,_,?_,⟨some (.int j),some (.int u),g * 2147483647+u,rfl,rfl⟩⟩
   unfold dg
   simp[sm,z1,z3,eu])
  exact⟨MR,rb,g',e⟩
 obtain⟨MR,rb,g',e2⟩:=l2
 have f8:∀i:Int,eE (.int i) (.int 8) st= .ok (.int (i.fdiv 8)) st:=λi=>m8 (by decide)
 have c8:mV 8:=LN (by decide) (by decide)
 have er3:∀(ga:GA)(ρ:bD)(s s1:Hs)(a b c:Int),ga ρ s= .ok [.int a,.int b,.int c] s1->GF a b c->su 3 ga bP ρ s=fc 3 bP (sk a c (iL a b c)) ρ s1:=λga ρ s s1 a b c h1 h2=>by
  unfold su
  rw[h1]
  show(if GF a b c then _ else _)=_
  rw[if_pos h2]
 have e3:=er3 (ae (ai dt (af 1) (gC (.int 1))) (ae (aL e7 (ae (af 0) aj)) (ae (gC (.int 13)) aj))) [some (.ref l),some (.int k),some (.int 0),none,none,none] st st (k+1) ns.length 13 (by simp[ln]) cr
 rw[e1] at e3
 unfold cz bL jf
 by_cases b:v0.fmod 2=1
 ·exact⟨c,by simp[e3,ev0,mK,b]⟩
 ·have b':(v0.fmod 2 == 1)=false:=beq_false_of_ne b
  exact⟨g'.fdiv 8,by simp[e3,ev0,mK,b',c8,e2,f8]⟩
def Fits:List Int->Prop
 | [a,b]=>kz a b
 | [a,b,c,d]=>Ir a b c d
 | _=>False
theorem AB{st:Hs}:oj (.int 10) (.int 60) st= .ok (.int tO) st:=Iv
theorem p60{st:Hs}:oj (.int 10) (.int 60) st= .ok (.int tO) st:=Iv
theorem UP:(1000:Int) < tO:=by unfold tO;decide+kernel
theorem pick{r:Nat}{st:Hs}{ws:List Wv}{m:Int}(h:Ro r st)(hw:(ws.length:Int)=m)(h0:0 < m)(h1:m < 1000000) :
  ∃d v st',ar [.ref r,.int m] (st++[.lst ws])= .ok (.int d) st'/\cU (.ref st.length) (.int d) st'= .ok v st'/\v∈ws/\Dw r st st':=by
 have hr:r < st.length:=let ⟨v,e⟩:=h;bM e
 obtain⟨d,s2,e2,d0,d1,k2,YW⟩:=dig (m:=m) (h.push (o:=.lst ws)) h0 h1
 obtain⟨v,e3,e4⟩:=yD (ws:=ws) (d:=d) d0 (by omega)
 exact⟨d,v,s2,e2,Ij (k2.lst cQ (by omega)) e3,e4,cP.push.trans k2,YW⟩
theorem UQ{r:Nat}{st:Hs}(h:Ro r st):∃q s st',bE [.ref r,.int 2] st= .ok (tI [q,s]) st'/\AA q/\AA s/\Dw r st st':=by
 obtain⟨p,st',e,hl,hp,d⟩:=pins h (n:=2) (by decide)
 match p,hl with
 | [q,s],_=>exact⟨q,s,st',e,hp q (by simp),hp s (by simp),d⟩
theorem MS{r:Nat}{st:Hs}(h:Ro r st):∃q s t u st',bE [.ref r,.int 4] st= .ok (tI [q,s,t,u]) st'/\AA q/\AA s/\AA t/\AA u/\Dw r st st':=by
 obtain⟨p,st',e,hl,hp,d⟩:=pins h (n:=4) (by decide)
 match p,hl with
 | [q,s,t,u],_=>exact⟨q,s,t,u,st',e,hp q (by simp),hp s (by simp),hp t (by simp),hp u (by simp),d⟩
theorem number{r:Nat}{st:Hs}(h:Ro r st):∃n st',dG [.ref r] st= .ok (.int n) st'/\0<=n/\n<=tO/\Dw r st st':=by
 have pb:=UP
 obtain⟨w,s1,e1,w0,w1,d1⟩:=dig (m:=5) h (by decide) (by decide)
 unfold dG bL jd
 by_cases c0:w=0
 ·obtain⟨d,s2,e2,a0,a1,d2⟩:=dig (m:=3) d1.2 (by decide) (by decide)
  subst c0
  exact⟨tO - d,s2,by simp[e1,e2,AB],by omega,by omega,d1.trans d2⟩
 have b0:(w == 0)=false:=beq_false_of_ne c0
 obtain⟨d,s2,e2,a0,a1,d2⟩:=dig (m:=6) d1.2 (by decide) (by decide)
 exact⟨d,s2,by simp[e1,e2,b0],by omega,by omega,d1.trans d2⟩
def oR(a b:Int):Prop:=0<=a/\a<=96/\0<=b/\b<=22
theorem QG{r:Nat}{st:Hs}{a b:Int}(h:Ro r st)(k:oR a b):∃c d st',cM [.ref r,tI [a,b]] st= .ok (tI [c,d]) st'/\Fits [c,d]/\Dw r st st':=by
 obtain⟨c,d,s1,e,hc,d1⟩:=place (a:=a) (b:=b) h
 exact⟨_,_,s1,e,by unfold oR at k;show kz _ _;unfold kz;omega,d1⟩
theorem MT{r:Nat}{st:Hs}{a b:Int}(h:Ro r st)(k:oR a b):∃c d e f st',cJ [.ref r,tI [a,b]] st= .ok (tI [c,d,e,f]) st'/\Fits [c,d,e,f]/\Dw r st st':=by
 obtain⟨t,l,p,q,s1,e,hc,d1⟩:=YV (a:=a) (b:=b) h
 refine⟨_,_,_,_,s1,e,?_,d1⟩
 unfold oR at k
 show Ir _ _ _ _
 unfold Ir
 have:=UO (x:=a+p - (a+t)+1) (y:=b+q - (b+l)+1) (p:=3) (q:=4) (by omega) (by omega) (by omega) (by omega)
 omega
theorem UR{x:S}(h:(decide (x.length<=40)&&x.cps.toList.all λc=>decide (32<=c/\c<=126/\c≠34/\c≠37))=true):Iq x:=by
 rw[dZ,m7] at h
 exact⟨of_decide_eq_true h.1,λc hc=>(show 32<=c/\c<=126/\c≠34/\c≠37 from of_decide_eq_true (h.2 c hc))⟩
theorem B2{v:Wv}(hv:v∈[Wv.str "",.str "a",.str "b7",.str "no"]):∃i:S,v= .str i/\Iq i:=by
 simp at hv
 rcases hv with rfl | rfl | rfl | rfl<;>exact⟨_,rfl,UR (by decide+kernel)⟩
theorem leaf{r:Nat}{st:Hs}{a b:Int}(h:Ro r st)(hs:oR a b):∃f st',d_ [.ref r,tI [a,b]] st= .ok (Fm.w f) st'/\f.ok/\f.sz=1/\f.dp=1/\Dw r st st':=by
 obtain⟨w,s1,e1,w0,w1,d1⟩:=dig (m:=8) h (by decide) (by decide)
 unfold d_ bL k6
 by_cases c0:w=0
 ·subst c0
  obtain⟨i,s2,e2,i0,i1,d2⟩:=number d1.2
  exact⟨.lit "num" [.int i],s2,by simp[e1,e2,Fm.w,Fm.v],.inl ⟨rfl,i,rfl,i0,i1⟩,rfl,rfl,d1.trans d2⟩
 have b0:(w == 0)=false:=beq_false_of_ne c0
 by_cases c1:w=1
 ·subst c1
  obtain⟨d,v,s4,e4,e5,hv,d4⟩:=pick (m:=4) (ws:=[.str "",.str "a",.str "b7",.str "no"]) d1.2 rfl (by decide) (by decide)
  obtain⟨i,rfl,ht⟩:=B2 hv
  exact⟨.lit "text" [.str i],s4,by simp[e1,e4,e5,Fm.w,Fm.v],.inr (.inl ⟨rfl,i,rfl,ht⟩),rfl,rfl,d1.trans d4⟩
 have b1:(w == 1)=false:=beq_false_of_ne c1
 have at':∀s2,Dw r s1 s2->∃(c d q s:Int)(s4 s5:Hs),cM [.ref r,tI [a,b]] s2= .ok (tI [c,d]) s4/\bE [.ref r,.int 2] s4= .ok (tI [q,s]) s5/\Fits [c,d]/\AA q/\AA s/\Dw r st s5:=λs2 d2=>by
  obtain⟨c,d,s4,e4,hf,d4⟩:=QG d2.2 hs
  obtain⟨q,s,s5,e5,q1,q2,d5⟩:=UQ d4.2
  exact⟨c,d,q,s,s4,s5,e4,e5,hf,q1,q2,((d1.trans d2).trans d4).trans d5⟩
 by_cases c2:w=2
 ·subst c2
  obtain⟨x,s2,e2,x0,x1,d2⟩:=dig (m:=3) d1.2 (by decide) (by decide)
  by_cases cx:x=0
  ·subst cx
   exact⟨.lit "lost" [],s2,by simp[e1,e2,Fm.w,Fm.v],.inr (.inr ⟨rfl,rfl⟩),rfl,rfl,d1.trans d2⟩
  ·have bx:(x == 0)=false:=beq_false_of_ne cx
   obtain⟨c,d,q,s,s4,s5,e4,e5,hf,q1,q2,d5⟩:=at' s2 d2
   exact⟨.pt "at" [c,d] [q,s],s5,by simp[e1,e2,bx,e4,e5,Fm.w,Fm.v],.inl ⟨rfl,c,d,q,s,rfl,rfl,hf,q1,q2⟩,rfl,rfl,d5⟩
 have b2:(w == 2)=false:=beq_false_of_ne c2
 by_cases c3:w < 6
 ·obtain⟨c,d,q,s,s4,s5,e4,e5,hf,q1,q2,d5⟩:=at' s1 (Dw.of d1.2)
  exact⟨.pt "at" [c,d] [q,s],s5,by simp[e1,b0,b1,b2,c3,e4,e5,Fm.w,Fm.v],.inl ⟨rfl,c,d,q,s,rfl,rfl,hf,q1,q2⟩,rfl,rfl,d5⟩
 ·obtain⟨d,v,s2,e2,e3,hv,d2⟩:=pick (m:=4) (ws:=[.str "sum",.str "count",.str "least",.str "greatest"]) d1.2 rfl (by decide) (by decide)
  obtain⟨x,rfl,hx⟩:∃x:S,v= .str x/\x∈AW:=by simp at hv;rcases hv with rfl | rfl | rfl | rfl<;>exact⟨_,rfl,by decide+kernel⟩
  obtain⟨a',b',c',d',s3,e4,har,d3⟩:=MT d2.2 hs
  obtain⟨q,s,t,u,s4,e5,q1,q2,q3,q4,d4⟩:=MS d3.2
  exact⟨.pt x [a',b',c',d'] [q,s,t,u],s4,by simp[e1,b0,b1,b2,c3,e2,e3,e4,e5,Fm.w,Fm.v],.inr ⟨hx,a',b',c',d',q,s,t,u,rfl,rfl,har,q1,q2,q3,q4⟩,rfl,rfl,((d1.trans d2).trans d3).trans d4⟩
theorem B3{st:Hs}{ws:List Wv}{d:Int}(h0:0<=d)(h1:d < ws.length):∃v,cU (.ref st.length) (.int d) (st++[.lst ws])= .ok v (st++[.lst ws])/\v∈ws:=by
 obtain⟨v,e3,e4⟩:=yD (ws:=ws) (d:=d) h0 h1
 exact⟨v,Ij cQ e3,e4⟩
theorem Dw.push{r:Nat}{st:Hs}{o:Ob}(h:Ro r st):Dw r st (st++[o]):=⟨cP.push,h.push⟩
def sq:Nat->Nat
 | 0=>1
 | k+1=>3 * sq k+1
theorem YX{k:Nat}(h:¬k=0):sq k=3 * sq (k - 1)+1:=by
 obtain⟨j,rfl⟩:∃j,k=j+1:=⟨k - 1,by omega⟩
 rfl
theorem YY(k:Nat):1<=sq k:=by cases k<;>simp[sq]
theorem rf{r:Nat}{a b:Int}(hs:oR a b):∀(n:Nat){st:Hs}{k:Nat},Ro r st->k<=n->∃f st',bF (n+1) [.ref r,tI [a,b],.int k] st= .ok (Fm.w f) st'/\f.ok/\f.sz<=sq k/\f.dp<=k+1/\Dw r st st'
 | n,st,k,h,hk=>by
  have WD:=YY k
  rw[mx]
  unfold bL eO
  by_cases c0:k=0
  ·obtain⟨f,s2,e2,h1,h2,h3,d2⟩:=leaf h hs
   subst c0
   exact⟨f,s2,by simp[e2],h1,by omega,by omega,d2⟩
  have hq:=YX c0
  obtain⟨w,s1,e1,w0,w1,d1⟩:=dig (m:=16) h (by decide) (by decide)
  have bk:((k:Int) == 0)=false:=beq_false_of_ne (by omega)
  by_cases cw:w < 3
  ·obtain⟨f,s2,e2,h1,h2,h3,d2⟩:=leaf d1.2 hs
   exact⟨f,s2,by simp[e1,e2,bk,cw],h1,by omega,by omega,d1.trans d2⟩
  obtain⟨n',rfl⟩:∃n',n=n'+1:=⟨n - 1,by omega⟩
  have ek:((k:Int) - 1)=((k - 1:Nat):Int):=by omega
  obtain⟨x,s2,e2,a1,a2,a3,d2⟩:=rf hs n' (k:=k - 1) d1.2 (by omega)
  by_cases c5:w < 5
  ·obtain⟨v,e3,hv⟩:=B3 (st:=s2) (ws:=[.str "minus",.str "not"]) (d:=w - 3) (by omega) (by simp;omega)
   obtain⟨y,rfl,hy⟩:∃y:S,v= .str y/\y∈W1:=by simp at hv;rcases hv with rfl | rfl<;>exact⟨_,rfl,by decide+kernel⟩
   refine⟨.o1 y x,s2++[.lst [.str "minus",.str "not"]],?_,⟨hy,a1⟩,by simp only[Fm.sz];omega,by simp only[Fm.dp];omega,(d1.trans d2).trans (Dw.push d2.2)⟩
   simp[e1,bk,cw,ek,e2,c5,e3]
   rfl
  by_cases c6:w=5
  ·subst c6
   obtain⟨a',b',c',d',s3,e3,har,d3⟩:=MT d2.2 hs
   obtain⟨q,s,t,u,s4,e4,q1,q2,q3,q4,d4⟩:=MS d3.2
   refine⟨.fd x [a',b',c',d'] [q,s,t,u],s4,?_,⟨a1,a',b',c',d',q,s,t,u,rfl,rfl,har,q1,q2,q3,q4⟩,by simp only[Fm.sz];omega,by simp only[Fm.dp];omega,((d1.trans d2).trans d3).trans d4⟩
   simp[e1,bk,ek,e2,e3,e4]
   rfl
  have b6:(w == 5)=false:=beq_false_of_ne c6
  obtain⟨y,s3,e3,b1,b2,b3,d3⟩:=rf hs n' (k:=k - 1) d2.2 (by omega)
  by_cases c8:w < 8
  ·obtain⟨z,s4,e4,z1,z2,z3,d4⟩:=rf hs n' (k:=k - 1) d3.2 (by omega)
   refine⟨.o3 x y z,s4,?_,⟨a1,b1,z1⟩,by simp only[Fm.sz];omega,by simp only[Fm.dp];omega,((d1.trans d2).trans d3).trans d4⟩
   simp[e1,bk,cw,c5,b6,ek,e2,e3,c8,e4]
   rfl
  by_cases c15:w=15
  ·subst c15
   obtain⟨d,v,s4,e4,e5,hv,d4⟩:=pick (m:=2) (ws:=[.str "=",.str "&"]) d3.2 rfl (by decide) (by decide)
   obtain⟨o,rfl,ho⟩:∃y:S,v= .str y/\y∈W2:=by simp at hv;rcases hv with rfl | rfl<;>exact⟨_,rfl,by decide+kernel⟩
   refine⟨.o2 o x y,s4,?_,⟨ho,a1,b1⟩,by simp only[Fm.sz];omega,by simp only[Fm.dp];omega,((d1.trans d2).trans d3).trans d4⟩
   simp[e1,bk,ek,e2,e3,e4,e5]
   rfl
  have b15:(w == 15)=false:=beq_false_of_ne c15
  obtain⟨v,e4,hv⟩:=B3 (st:=s3) (ws:=[.str "else",.str "rest",.str "+",.str "-",.str "*",.str "/",.str "<"]) (d:=w - 8) (by omega) (by simp;omega)
  obtain⟨o,rfl,ho⟩:∃y:S,v= .str y/\y∈W2:=by simp at hv;rcases hv with rfl | rfl | rfl | rfl | rfl | rfl | rfl<;>exact⟨_,rfl,by decide+kernel⟩
  refine⟨.o2 o x y,s3++[.lst [.str "else",.str "rest",.str "+",.str "-",.str "*",.str "/",.str "<"]],?_,⟨ho,a1,b1⟩,by simp only[Fm.sz];omega,by simp only[Fm.dp];omega,((d1.trans d2).trans d3).trans (Dw.push d3.2)⟩
  simp[e1,bk,cw,c5,b6,ek,e2,e3,c8,b15,e4]
  rfl
def Cn(v:Wv):Prop:=(∃i:Int,v= .int i/\-tO<=i/\i<=tO)\/(∃x:S,v= .str x/\Iq x)\/∃f:Fm,v=f.w/\f.ok/\f.sz<=13/\f.dp<=3
theorem US:IntMulOk 2 tO:=by unfold tO;decide+kernel
theorem YZ{k:Nat}(h:k<=2):sq k<=13:=by
 have:k=0\/k=1\/k=2:=by omega
 rcases this with rfl | rfl | rfl<;>decide
theorem content{r:Nat}{st:Hs}{a b:Int}{k:Nat}(h:Ro r st)(hs:oR a b)(hk:k<=2):∃v st',aV [.ref r,tI [a,b],.int k] st= .ok v st'/\(v= .aZ\/Cn v)/\Dw r st st':=by
 have pb:=UP
 obtain⟨w,s1,e1,w0,w1,d1⟩:=dig (m:=8) h (by decide) (by decide)
 unfold aV bL ie
 by_cases c0:w=0
 ·subst c0
  exact⟨.aZ,s1,by simp[e1],.inl rfl,d1⟩
 have b0:(w == 0)=false:=beq_false_of_ne c0
 by_cases c1:w=1
 ·subst c1
  obtain⟨v,e⟩:=id d1.2
  have f0:=lB v (b:=2 * tO+1) (by omega)
  have f1:=nI v (b:=2 * tO+1) (by omega)
  have e2:=digit (many:=2 * tO+1) e ⟨by unfold tO;decide+kernel,by unfold tO;decide+kernel⟩
  refine⟨.int (v.fmod (2 * tO+1) - tO),s1.set r (.lst [.int (v.fdiv (2 * tO+1))]),?_,.inr (.inl ⟨_,rfl,by omega,by omega⟩),d1.trans ⟨cP.set,_,b9 e⟩⟩
  simp[e1,AB,BV US,e2]
 have b1:(w == 1)=false:=beq_false_of_ne c1
 by_cases c2:w=2
 ·subst c2
  obtain⟨d,s2,e2,d0',d1',d2⟩:=dig (m:=5) d1.2 (by decide) (by decide)
  exact⟨.int (d - 1),s2,by simp[e1,e2],.inr (.inl ⟨_,rfl,by omega,by omega⟩),d1.trans d2⟩
 have b2:(w == 2)=false:=beq_false_of_ne c2
 by_cases c3:w=3
 ·subst c3
  obtain⟨d,v,s4,e4,e5,hv,d4⟩:=pick (m:=4) (ws:=[.str "",.str "a",.str "b7",.str "no"]) d1.2 rfl (by decide) (by decide)
  obtain⟨i,rfl,ht⟩:=B2 hv
  exact⟨.str i,s4,by simp[e1,e4,e5],.inr (.inr (.inl ⟨i,rfl,ht⟩)),d1.trans d4⟩
 have b3:(w == 3)=false:=beq_false_of_ne c3
 obtain⟨f,s2,e2,h1,h2,h3,d2⟩:=rf hs 5 (k:=k) d1.2 (by omega)
 have xQ:aO [.ref r,tI [a,b],.int k] s1= .ok f.w s2:=e2
 exact⟨f.w,s2,by simp[e1,b0,b1,b2,b3,xQ],.inr (.inr (.inr ⟨f,rfl,h1,ba h2 (YZ hk),by omega⟩)),d1.trans d2⟩
theorem spot{st:Hs}{l:Nat}{ns:List Int}(h:aq st l=some (ns.map Wv.int)):∃a b st',cI [.ref l] st= .ok (tI [a,b]) st'/\oR a b/\∃more,st'=st++more:=by
 obtain⟨v,e⟩:=B1 h (k:=0) (by decide)
 have lg:∀j:Int,(j=2\/j=4\/j=400)->j≠0/\j.natAbs.log2 < 9000:=by rintro j (rfl | rfl | rfl)<;>decide+kernel
 let f:=v.fdiv 2
 let x:=(f.fdiv 4).fmod 97
 let y:=(f.fdiv 400).fmod 23
 have x0:0<=x:=lB _ (by decide)
 have x1:x < 97:=nI _ (by decide)
 have y0:0<=y:=lB _ (by decide)
 have y1:y < 23:=nI _ (by decide)
 let s1:=st++[.lst [.int 0,.int x]]
 let s2:=s1++[.lst [.int 0,.int y]]
 obtain⟨p,e2,hp⟩:=B3 (st:=st) (ws:=[.int 0,.int x]) (d:=f.fmod 2) (lB _ (by decide)) (by simpa using nI f (by decide))
 obtain⟨q,e3,hq⟩:=B3 (st:=s1) (ws:=[.int 0,.int y]) (d:=(f.fdiv 2).fmod 2) (lB _ (by decide)) (by simpa using nI (f.fdiv 2) (by decide))
 obtain⟨a,rfl,ha⟩:∃a:Int,p= .int a/\0<=a/\a<=96:=by
  simp at hp
  rcases hp with rfl | rfl
  ·exact⟨0,rfl,by omega⟩
  ·exact⟨x,rfl,by omega⟩
 obtain⟨b,rfl,hb⟩:∃b:Int,q= .int b/\0<=b/\b<=22:=by
  simp at hq
  rcases hq with rfl | rfl
  ·exact⟨0,rfl,by omega⟩
  ·exact⟨y,rfl,by omega⟩
 refine⟨a,b,s2,?_,⟨ha.1,ha.2,hb.1,hb.2⟩,[.lst [.int 0,.int x],.lst [.int 0,.int y]],by simp[s2,s1]⟩
 have m1:∀{i:Int}{s:Hs},oMod (.int i) (.int 97) s= .ok (.int (i.fmod 97)) s:=mK (by decide)
 have m2:∀{i:Int}{s:Hs},oMod (.int i) (.int 23) s= .ok (.int (i.fmod 23)) s:=mK (by decide)
 have m3:∀{i:Int}{s:Hs},oMod (.int i) (.int 2) s= .ok (.int (i.fmod 2)) s:=mK (by decide)
 have f2:∀{i:Int}{s:Hs},eE (.int i) (.int 2) s= .ok (.int (i.fdiv 2)) s:=m8 (lg 2 (by simp))
 have f4:∀{i:Int}{s:Hs},eE (.int i) (.int 4) s= .ok (.int (i.fdiv 4)) s:=m8 (lg 4 (by simp))
 have Y0:∀{i:Int}{s:Hs},eE (.int i) (.int 400) s= .ok (.int (i.fdiv 400)) s:=m8 (lg 400 (by simp))
 unfold cI bL kT
 dsimp only[s1,x,y,f] at e2 e3 ⊢
 simp[e,m1,m2,m3,f2,f4,Y0,e2]
 simp at e3
 simp[e3,tI,s2,s1,x,y,f]
theorem Y1{x:S}{ys:List S}{st:Hs}:xW (.str x) (.tup (ys.map Wv.str)) st= .ok (.bl (decide (x∈ys))) st:=by
 have e1:(ys.map Wv.str).all f7=true:=by
  rw[m7]
  intro w hw
  obtain⟨y,_,rfl⟩:=List.mem_map.mp hw
  rfl
 have e2:((ys.map Wv.str).any λz=>RL z (.str x))=decide (x∈ys):=by
  rw[List.any_map]
  induction ys with
  | nil=>rfl
  | cons y r ih=>
   rw[fU,ih (by rw[m7];intro w hw;obtain⟨y,_,rfl⟩:=List.mem_map.mp hw;rfl)]
   show((y == x)||decide (x∈r))=_
   by_cases c:y=x
   ·subst c;simp
   ·have:(y == x)=false:=beq_false_of_ne c
    rw[this]
    simp[bI c]
 show(if f7 (.str x)=true/\(ys.map Wv.str).all f7=true then Re.ok (Wv.bl ((ys.map Wv.str).any λz=>RL z (.str x))) st else .bad)=_
 rw[if_pos ⟨rfl,e1⟩,e2]
def AF:List S:=["sum","count","least","greatest","find"]
theorem yV{x:S}{st:Hs}:ij [.str x] st= .ok (.bl (decide (x∈AF))) st:=by
 have e:xW (.str x) (.qh [.str "sum",.str "count",.str "least",.str "greatest",.str "find"]) st= .ok (.bl (decide (x∈AF))) st:=Y1 (ys:=AF)
 unfold ij bL nk
 simp[e]
theorem QH{x:Wv}{ws:List Wv}{st:Hs}:cU (.tup (x::ws)) (.int 0) st= .ok x st:=yB (L2.qN (j:=0) rfl)
theorem ix1{x y:Wv}{ws:List Wv}{st:Hs}:cU (.tup (x::y::ws)) (.int 1) st= .ok y st:=yB (L2.qN (j:=1) rfl)
theorem LQ{ws us:List Wv}{lo hi:Option Int}{st:Hs}(h:¬eJ ws.length lo hi)(h2:tV ws lo hi=us):De (.tup ws) lo hi st= .ok (.tup us) st:=by
 show(if eJ ws.length lo hi then Re.ok (Wv.tup ws) st else RM (.tup ws) lo hi st)=_
 rw[if_neg h]
 show(if eJ ws.length lo hi then Re.bad else Re.ok (Wv.tup (tV ws lo hi)) st)=_
 rw[if_neg h,h2]
theorem qa{x:S}{k:Int}{st:Hs}(h:a8.lookup x=some (.int k)):b_ [.str x] st= .ok (.int k) st:=by
 unfold b_ bL lh
 simp[LO h]
theorem fR{x:S}{k:Int}{ws us:List Wv}(h:a8.lookup x=some (.int k))(n1:¬eJ (ws.length+1) (some 1) (some (1+k)))(hc:tV (.str x::ws) (some 1) (some (1+k))=us)(st:Hs):cY [.tup (.str x::ws)] st= .ok (.tup us) st:=by
 unfold cY bL ni
 have s:=LQ (ws:=.str x::ws) (us:=us) (lo:=some 1) (hi:=some (1+k)) (st:=st) n1 hc
 simp[QH,qa h,s]
theorem iZ{x:S}{k:Int}{ws us:List Wv}(h:a8.lookup x=some (.int k))(n1:¬eJ (ws.length+1) (some (1+k)) none)(hc:tV (.str x::ws) (some (1+k)) none=us)(st:Hs):gU [.tup (.str x::ws)] st= .ok (.tup us) st:=by
 unfold gU bL p5
 have s:=LQ (ws:=.str x::ws) (us:=us) (lo:=some (1+k)) (hi:=none) (st:=st) n1 hc
 simp[QH,qa h,s]
def Fm.kids:Fm->List Fm
 | .lit _ _=>[]
 | .pt _ _ _=>[]
 | .fd a _ _=>[a]
 | .o1 _ a=>[a]
 | .o2 _ a b=>[a,b]
 | .o3 a b c=>[a,b,c]
def Fm.tl:Fm->List Wv
 | .lit _ ws=>ws
 | .pt _ l p=>[tI l,tI p]
 | .fd _ l p=>[tI l,tI p]
 | _=>[]
theorem Y2{x:S}(h:x∈W1):a8.lookup x=some (.int 1):=by
 simp only[W1,mf,oO,or_false] at h
 rcases h with rfl | rfl<;>rfl
theorem Y3{x:S}(h:x∈W2):a8.lookup x=some (.int 2):=by
 simp only[W2,mf,oO,or_false] at h
 rcases h with rfl | rfl | rfl | rfl | rfl | rfl | rfl | rfl | rfl<;>rfl
theorem lk0{x:S}(h:x∈AW):a8.lookup x=some (.int 0):=by
 simp only[AW,mf,oO,or_false] at h
 rcases h with rfl | rfl | rfl | rfl<;>rfl
theorem node{f:Fm}(h:f.ok):(∀st,cY [f.w] st= .ok (.tup (f.kids.map Fm.w)) st)/\∀st,gU [f.w] st= .ok (.tup f.tl) st:=by
 cases f with
 | lit x ws=>
  rcases h with ⟨rfl,i,rfl,_⟩ | ⟨rfl,s,rfl,_⟩ | ⟨rfl,rfl⟩
  ·exact⟨fR (k:=0) rfl (by show ¬eJ 2 (some 1) (some (1+0));decide+kernel) rfl,iZ (k:=0) rfl (by show ¬eJ 2 (some (1+0)) none;decide+kernel) rfl⟩
  ·exact⟨fR (k:=0) rfl (by show ¬eJ 2 (some 1) (some (1+0));decide+kernel) rfl,iZ (k:=0) rfl (by show ¬eJ 2 (some (1+0)) none;decide+kernel) rfl⟩
  ·exact⟨fR (k:=0) rfl (by show ¬eJ 1 (some 1) (some (1+0));decide+kernel) rfl,iZ (k:=0) rfl (by show ¬eJ 1 (some (1+0)) none;decide+kernel) rfl⟩
 | pt x l p=>
  have lk:a8.lookup x=some (.int 0):=by
   rcases h with ⟨rfl,_⟩ | ⟨hx,_⟩
   ·rfl
   ·exact lk0 hx
  exact⟨fR (k:=0) lk (by show ¬eJ 3 (some 1) (some (1+0));decide+kernel) rfl,iZ (k:=0) lk (by show ¬eJ 3 (some (1+0)) none;decide+kernel) rfl⟩
 | fd a l p=>exact⟨fR (k:=1) rfl (by show ¬eJ 4 (some 1) (some (1+1));decide+kernel) rfl,iZ (k:=1) rfl (by show ¬eJ 4 (some (1+1)) none;decide+kernel) rfl⟩
 | o1 x a=>exact⟨fR (k:=1) (Y2 h.1) (by show ¬eJ 2 (some 1) (some (1+1));decide+kernel) rfl,iZ (k:=1) (Y2 h.1) (by show ¬eJ 2 (some (1+1)) none;decide+kernel) rfl⟩
 | o2 x a b=>exact⟨fR (k:=2) (Y3 h.1) (by show ¬eJ 3 (some 1) (some (1+2));decide+kernel) rfl,iZ (k:=2) (Y3 h.1) (by show ¬eJ 3 (some (1+2)) none;decide+kernel) rfl⟩
 | o3 a b c=>exact⟨fR (k:=3) rfl (by show ¬eJ 4 (some 1) (some (1+3));decide+kernel) rfl,iZ (k:=3) rfl (by show ¬eJ 4 (some (1+3)) none;decide+kernel) rfl⟩
theorem Gr.QI{base st:Hs}{rr:Nat}{o:Ob}(h:base.length<=rr)(g:Gr base st):Gr base (st.set rr o):=⟨by simpa using g.1,λj hj=>by rw[bw (by omega)];exact g.2 j hj⟩
theorem Y4{l:Nat}{st:Hs}{ws:List Wv}(h:st[l]? =some (.lst ws)):qm [.ref l] st= .ok (.tup ws) st:=by
 show(match aq st l with | some ws=>Re.ok (Wv.tup ws) st | none=> .bad)=_
 rw[cL h]
theorem B4:∀n:Nat,oA (aC n (.bl true))=some (aC n true)
 | 0=>rfl
 | n+1=>by
  rw[gy]
  unfold oA
  rw[B4 n]
  rfl
theorem rh{l n:Nat}{st:Hs}(h:aq st l=some (aC n (.bl true))):xT [.ref l] st= .ok (.bl true) st:=by
 show(match aq st l with | some ws=>(match oA ws with | some bs=>Re.ok (Wv.bl (bs.all id)) st | none=> .bad) | none=> .bad)=_
 rw[h]
 dsimp only
 rw[B4]
 dsimp only
 congr 2
 rw[m7]
 intro x hx
 exact(List.mem_replicate.mp hx).2
theorem qb{cs:gD}{gt:GT}{ge:GE}{ρ:bD}{ws:List Wv}{st:Hs}(h1:∀v∈ws,∀s,gt (some v::gE cs ρ) s= .ok true s)(h2:∀v∈ws,∀s,ge (some v::gE cs ρ) s= .ok (.bl true) s)(hl:ws.length < lim) :
  eI cs gt ge ρ (none,ws) st= .ok (.ref st.length) (st++[.lst (aC ws.length (.bl true))]):=by
 rw[pQ (w:=(none,ws)) (t:=λ_=>true) (f:=λ_=> .bl true) trivial (λv hv acc=>h1 v hv _) (λv hv _ acc=>h2 v hv _) hl]
 have e:((ws.filter λ_=>true).map λ_=>Wv.bl true)=aC ws.length (Wv.bl true):=by
  rw[List.filter_eq_self.mpr (λ_ _=>rfl),List.map_const']
 show Re.ok _ (st++[.lst ((ws.filter λ_=>true).map λ_=>Wv.bl true)])=_
 rw[e]
theorem tup_is{ws:List Wv}{st:Hs}:fX jC ff [.tup ws,.ty "tuple"] st= .ok (.bl true) st:=rfl
theorem str_is{x:S}{st:Hs}:fX jC ff [.str x,.ty "str"] st= .ok (.bl true) st:=rfl
theorem int_is{i:Int}{st:Hs}:fX jC ff [.int i,.ty "int"] st= .ok (.bl true) st:=rfl
theorem QJ{i:Int}{st:Hs}:fX jC ff [.int i,.ty "bool"] st= .ok (.bl false) st:=rfl
theorem tF{ws:List Wv}{st:Hs}:e7 [.tup ws] st= .ok (.int ws.length) st:=rfl
theorem tG{i:Int}{st:Hs}:cN [.int i] st= .ok (.bl true) st:=by
 unfold cN bL nu
 simp[int_is,QJ]
theorem nJ{l:List Int}{n:Nat}(hn:l.length=n)(hl:n<=10)(st:Hs):a9 [tI l,.int (n:Nat)] st= .ok (.bl true) (st++[.lst (aC n (.bl true))]):=by
 subst hn
 have c:=qb (cs:=[]) (gt:=gn) (ge:=dz) (ρ:=[some (tI l),some (.int (l.length:Nat))]) (ws:=l.map Wv.int) (st:=st) (λ_ _ _=>rfl) (λv hv s=>by
  obtain⟨i,_,rfl⟩:=List.mem_map.mp hv
  unfold dz
  simp[tG]) (by rw[bb];unfold lim;omega)
 rw[bb] at c
 have q:=rh (st:=st++[.lst (aC l.length (.bl true))]) (l:=st.length) cQ
 unfold a9 bL fZ
 unfold tI at c ⊢
 simp[tup_is,tF,c,q]
theorem yW{l:List Int}{n:Nat}(hn:l.length=n)(hl:n<=10)(h:∀q∈l,AA q)(st:Hs):∃st',c7 [tI l,.int (n:Nat)] st= .ok (.bl true) st'/\Gr st st':=by
 have r:=nJ hn hl st
 subst hn
 have g1:Gr st (st++[.lst (aC l.length (.bl true))]):=Gr.push
 generalize st++[.lst (aC l.length (.bl true))]=s1 at r g1
 have c:=qb (cs:=[]) (gt:=lp) (ge:=ip) (ρ:=[some (tI l),some (.int (l.length:Nat))]) (ws:=l.map Wv.int) (st:=s1) (λ_ _ _=>rfl) (λv hv s=>by
  obtain⟨i,hi,rfl⟩:=List.mem_map.mp hv
  have e:xW (.int i) (.tup [.int 0,.int 1]) s= .ok (.bl true) s:=by
   rcases h i hi with rfl | rfl<;>rfl
  unfold ip
  simp[e]) (by rw[bb];unfold lim;omega)
 rw[bb] at c
 have q:=rh (st:=s1++[.lst (aC l.length (.bl true))]) (l:=s1.length) cQ
 refine⟨_,?_,g1.trans (Gr.push (o:=.lst (aC l.length (.bl true))))⟩
 unfold c7 bL nB
 unfold tI at r c ⊢
 simp[r,c,q]
theorem oS{a b:Int}{st:Hs}(h:kz a b):bT [.tup [.int a,.int b]] st= .ok (.bl true) st:=by
 obtain⟨h1,h2,h3,h4⟩:=h
 have a0:cU (.tup [.int a,.int b]) (.int 0) st= .ok (.int a) st:=yB rfl
 have a1:cU (.tup [.int a,.int b]) (.int 1) st= .ok (.int b) st:=yB rfl
 unfold bT bL ng
 simp[a0,a1,h1,h2,h3,h4]
theorem LR{a b c d:Int}{st:Hs}(h:Ir a b c d):gT [.tup [.int a,.int b,.int c,.int d]] st= .ok (.bl true) st:=by
 obtain⟨h1,h2,h3,h4,h5,h6,h7⟩:=h
 have x0:cU (.tup [.int a,.int b,.int c,.int d]) (.int 0) st= .ok (.int a) st:=yB rfl
 have x1:cU (.tup [.int a,.int b,.int c,.int d]) (.int 1) st= .ok (.int b) st:=yB rfl
 have x2:cU (.tup [.int a,.int b,.int c,.int d]) (.int 2) st= .ok (.int c) st:=yB rfl
 have x3:cU (.tup [.int a,.int b,.int c,.int d]) (.int 3) st= .ok (.int d) st:=yB rfl
 have s1:De (.tup [.int a,.int b,.int c,.int d]) none (some 2) st= .ok (.tup [.int a,.int b]) st:=LQ (by show ¬eJ 4 none (some 2);decide+kernel) rfl
 have s2:De (.tup [.int a,.int b,.int c,.int d]) (some 2) none st= .ok (.tup [.int c,.int d]) st:=LQ (by show ¬eJ 4 (some 2) none;decide+kernel) rfl
 have p1:=oS (a:=a) (b:=b) (st:=st) ⟨h1,by omega,h4,by omega⟩
 have p2:=oS (a:=c) (b:=d) (st:=st) ⟨by omega,h3,by omega,h6⟩
 have hc:dI [.tup [.int a,.int b,.int c,.int d]] st= .ok (.bl true) st:=by
  unfold dI bL jj
  simp[x0,x1,x2,x3,h2,h5,s1,s2,p1,p2]
 have m:dq (.int (c - a+1)) (.int (d - b+1)) st= .ok (.int ((c - a+1) * (d - b+1))) st:=BW (by omega) (by omega)
 have hm:fO [.tup [.int a,.int b,.int c,.int d]] st= .ok (.int ((c - a+1) * (d - b+1))) st:=by
  unfold fO bL lq
  simp[x0,x1,x2,x3,m]
 unfold gT bL pX
 simp[hc,hm,h7]
theorem D3{c:Nat}{st:Hs}(h:Sg c):cZ [.int (c:Nat)] st= .ok (.bl true) st:=by
 obtain⟨h1,h2,h3,h4⟩:=h
 have n1:zc (.int (c:Nat)) (.int 34) st= .ok (.bl true) st:=by rw[Qy];congr 2;simp;omega
 have n2:zc (.int (c:Nat)) (.int 37) st= .ok (.bl true) st:=by rw[Qy];congr 2;simp;omega
 have l1:(32:Int)<=(c:Nat):=by omega
 have l2:((c:Nat):Int)<=126:=by omega
 unfold cZ bL ik
 simp[-Qy,l1,l2,n1,n2]
theorem B5{x:S}(h:Iq x)(st:Hs):∃st',di [.str x] st= .ok (.bl true) st'/\Gr st st':=by
 have c:=qb (cs:=[]) (gt:=fN) (ge:=c4) (ρ:=[some (.str x)]) (ws:=du x) (st:=st) (λ_ _ _=>rfl) (λv hv s=>by
  unfold du at hv
  obtain⟨i,hi,rfl⟩:=List.mem_map.mp hv
  have o:KO [.str ⟨#[i]⟩] s= .ok (.int (i:Nat)) s:=rfl
  unfold c4
  simp[o,D3 (h.2 i hi)]) (by
   have:=h.1
   unfold du lim
   rw[bb]
   show x.cps.toList.length < _
   rw[AM]
   exact Nat.lt_of_le_of_lt (h.1:x.cps.size<=40) (by decide))
 have q:=rh (st:=st++[.lst (aC (du x).length (.bl true))]) (l:=st.length) cQ
 have g1:Gr st (st++[.lst (aC (du x).length (.bl true))]):=Gr.push
 generalize st++[.lst (aC (du x).length (.bl true))]=s1 at c q g1
 have ht:cF [.str x] st= .ok (.bl true) s1:=by
  unfold cF bL fg
  simp[c,q]
 have ln:e7 [.str x] st= .ok (.int x.length) st:=UJ (ba h.1 (by decide))
 have l40:(x.length:Int)<=40:=by have:=h.1;omega
 refine⟨s1,?_,g1⟩
 unfold di bL mi
 simp[str_is,ln,l40,ht]
theorem LS{f:Fm}(h:f.ok)(st:Hs):∃st',bK [.str f.v.1,.tup f.tl] st= .ok (.bl true) st'/\Gr st st':=by
 have UT:∀{x:S}{l p:List Int},((x == "num")=false/\(x == "text")=false/\(x == "at")=false)->x∈AF->YU l p->∃st',bK [.str x,.tup [tI l,tI p]] st= .ok (.bl true) st'/\Gr st st':=by
  rintro x l p ⟨n1,n2,n3⟩ ha ⟨a,b,c,d,q,r,s,t,rfl,rfl,ho,q1,q2,q3,q4⟩
  have r1:=nJ (l:=[a,b,c,d]) (n:=4) rfl (by decide) st
  have g1:Gr st (st++[.lst (aC 4 (.bl true))]):=Gr.push
  generalize st++[.lst (aC 4 (.bl true))]=s1 at r1 g1
  obtain⟨s2,e2,g2⟩:=yW (l:=[q,r,s,t]) (n:=4) rfl (by decide) (by simp[q1,q2,q3,q4]) s1
  have i:=LR (st:=s1) ho
  refine⟨s2,?_,g1.trans g2⟩
  have hr:a9 [tI [a,b,c,d],.int 4] st= .ok (.bl true) s1:=r1
  have hp:c7 [tI [q,r,s,t],.int 4] s1= .ok (.bl true) s2:=e2
  have i':gT [tI [a,b,c,d]] s1= .ok (.bl true) s1:=i
  unfold bK bL fj
  simp[n1,n2,n3,yV,ha,tF,QH,ix1,hr,i',hp]
 have LU:∀{x:S},((x == "num")=false/\(x == "text")=false/\(x == "at")=false)->x∉AF->∃st',bK [.str x,.tup []] st= .ok (.bl true) st'/\Gr st st':=by
  rintro x ⟨n1,n2,n3⟩ ha
  refine⟨st,?_,Gr.refl⟩
  unfold bK bL fj
  simp[n1,n2,n3,yV,ha,tF]
 cases f with
 | lit x ws=>
  rcases h with ⟨rfl,i,rfl,h0,h1⟩ | ⟨rfl,s,rfl,ht⟩ | ⟨rfl,rfl⟩
  ·refine⟨st,?_,Gr.refl⟩
   show bK [.str "num",.tup [.int i]] st=_
   unfold bK bL fj
   simp[tF,QH,tG,p60,h0,h1]
  ·obtain⟨s1,e1,g1⟩:=B5 ht st
   refine⟨s1,?_,g1⟩
   show bK [.str "text",.tup [.str s]] st=_
   have n1:(("text":S) == "num")=false:=by decide+kernel
   unfold bK bL fj
   simp[n1,tF,QH,e1]
  ·exact LU (x:="lost") (by decide+kernel) (by decide+kernel)
 | pt x l p=>
  rcases h with ⟨rfl,a,b,q,r,rfl,rfl,ho,q1,q2⟩ | ⟨hx,hs⟩
  ·have r1:=nJ (l:=[a,b]) (n:=2) rfl (by decide) st
   have g1:Gr st (st++[.lst (aC 2 (.bl true))]):=Gr.push
   generalize st++[.lst (aC 2 (.bl true))]=s1 at r1 g1
   obtain⟨s2,e2,g2⟩:=yW (l:=[q,r]) (n:=2) rfl (by decide) (by simp[q1,q2]) s1
   have i:bT [tI [a,b]] s1= .ok (.bl true) s1:=oS ho
   refine⟨s2,?_,g1.trans g2⟩
   have hr:a9 [tI [a,b],.int 2] st= .ok (.bl true) s1:=r1
   have hp:c7 [tI [q,r],.int 2] s1= .ok (.bl true) s2:=e2
   have n1:(("at":S) == "num")=false:=by decide+kernel
   have n2:(("at":S) == "text")=false:=by decide+kernel
   show bK [.str "at",.tup [tI [a,b],tI [q,r]]] st=_
   unfold bK bL fj
   simp[n1,n2,tF,QH,ix1,hr,i,hp]
  ·have q:∀x∈AW,((x == "num")=false/\(x == "text")=false/\(x == "at")=false)/\x∈AF:=by decide+kernel
   exact UT (q x hx).1 (q x hx).2 hs
 | fd a l p=>exact UT (x:="find") (by decide+kernel) (by decide+kernel) h.2
 | o1 x a=>
  have q:∀x∈W1,((x == "num")=false/\(x == "text")=false/\(x == "at")=false)/\x∉AF:=by decide+kernel
  exact LU (q x h.1).1 (q x h.1).2
 | o2 x a b=>
  have q:∀x∈W2,((x == "num")=false/\(x == "text")=false/\(x == "at")=false)/\x∉AF:=by decide+kernel
  exact LU (q x h.1).1 (q x h.1).2
 | o3 a b c=>exact LU (x:="if") (by decide+kernel) (by decide+kernel)
theorem LV{f:Fm}(h:f.ok):a8.lookup f.v.1=some (.int f.kids.length):=by
 cases f with
 | lit x ws=>
  rcases h with ⟨rfl,_⟩ | ⟨rfl,_⟩ | ⟨rfl,_⟩<;>rfl
 | pt x l p=>
  rcases h with ⟨rfl,_⟩ | ⟨hx,_⟩
  ·rfl
  ·exact lk0 hx
 | fd a l p=>rfl
 | o1 x a=>exact Y2 h.1
 | o2 x a b=>exact Y3 h.1
 | o3 a b c=>rfl
theorem Iy{f:Fm}(h:f.ok)(st:Hs):∃st',iq [f.w] st= .ok (.bl true) st'/\Gr st st':=by
 obtain⟨n1,n2⟩:=node h
 obtain⟨s1,e1,g1⟩:=LS h st
 have lk:=LV h
 refine⟨s1,?_,g1⟩
 have w0:∀st:Hs,cU f.w (.int 0) st= .ok (.str f.v.1) st:=λ_=>QH
 have t0:∀st:Hs,fX jC ff [f.w,.ty "tuple"] st= .ok (.bl true) st:=λ_=>rfl
 obtain⟨n,l0,b0'⟩:∃n:Int,(∀st:Hs,e7 [f.w] st= .ok (.int n) st)/\(n == 0)=false:=⟨((f.v.2.length+1:Nat):Int),λ_=>rfl,beq_false_of_ne (by omega)⟩
 have pm:=λst:Hs=>qa (st:=st) lk
 unfold iq bL nD
 simp[t0,l0,b0',w0,str_is,lk,n1,tF,pm,n2,e1]
def B6(fs:List Fm):Nat:=(fs.map Fm.sz).sum
theorem UU{l:Nat}{ws:List Wv}{st:Hs}(h:aq st l=some ws):FG (.ref l) st= .ok (!ws.isEmpty) st:=by
 unfold FG
 simp only[h]
theorem QK{st:Hs}{l:Nat}{ws zs:List Wv}(h:st[l]? =some (.lst ws))(hl:ws.length+zs.length<=lim):uW (.ref l) (.tup zs) st= .ok .aZ (st.set l (.lst (ws++zs))):=by
 unfold uW
 simp only[h]
 rw[if_pos hl]
theorem UW(f:Fm):f.kids.length<=3:=by cases f<;>simp[Fm.kids]
theorem LW{f:Fm}(h:f.ok):∀g∈f.kids,g.ok:=by
 cases f with
 | lit x ws=>intro g z;cases z
 | pt x l p=>intro g z;cases z
 | fd a l p=>intro g z;rw[List.mem_singleton.mp z];exact h.1
 | o1 x a=>intro g z;rw[List.mem_singleton.mp z];exact h.2
 | o2 x a b=>
  intro g z
  simp only[Fm.kids,mf,oO,or_false] at z
  rcases z with rfl | rfl
  ·exact h.2.1
  ·exact h.2.2
 | o3 a b c=>
  intro g z
  simp only[Fm.kids,mf,oO,or_false] at z
  rcases z with rfl | rfl | rfl
  ·exact h.1
  ·exact h.2.1
  ·exact h.2.2
def below(fs:List Fm):List Fm:=fs.flatMap Fm.kids
def D:List Fm->Nat
 | []=>0
 | f::r=>max f.dp (D r)
theorem MU:∀a b:List Fm,D (a++b)=max (D a) (D b)
 | [],b=>by simp[D]
 | f::a,b=>by
  show max f.dp (D (a++b))=max (max f.dp (D a)) (D b)
  rw[MU a b]
  omega
theorem B7(f:Fm):f.dp=D f.kids+1:=by
 cases f<;>simp[Fm.dp,Fm.kids,D]
theorem B8:∀{fs:List Fm},fs≠[]->D fs=D (below fs)+1
 | [],h=>absurd rfl h
 | [f],_=>by
  have:=B7 f
  simp[D,below]
  exact this
 | f::g::r,_=>by
  have ih:=B8 (fs:=g::r) (by simp)
  have:=B7 f
  show max f.dp (D (g::r))=D (f.kids++below (g::r))+1
  rw[MU,ih]
  omega
theorem LX(f:Fm):f.sz=B6 f.kids+1:=by
 cases f<;>simp[Fm.sz,Fm.kids,B6]<;>omega
theorem u_:∀fs:List Fm,B6 fs=B6 (below fs)+fs.length
 | []=>rfl
 | f::r=>by
  have ih:=u_ r
  have:=LX f
  have e1:B6 (f::r)=f.sz+B6 r:=by simp[B6]
  have e2:B6 (below (f::r))=B6 f.kids+B6 (below r):=by simp[B6,below]
  rw[e1,e2,n_]
  omega
theorem Iz{fs:List Fm}(h:∀f∈fs,f.ok):∀g∈below fs,g.ok:=λg hg=>by
 obtain⟨f,hf,hk⟩:=List.mem_flatMap.mp hg
 exact LW (h f hf) g hk
theorem tH{L A:Nat}{all:List Wv}(hne:L≠A):∀(fs:List Fm)(acc:List Wv)(o2:Option Wv)(st:Hs),(∀f∈fs,f.ok)->st[A]? =some (.lst acc)->aq st L=some all->acc.length+3 * fs.length<=1000->
  ∃Y5 st',forL 2 cE L all (fs.map Fm.w) [some (.ref L),some (.ref A),o2] st= .nx [some (.ref L),some (.ref A),Y5] st'/\cP A st st'/\st'[A]? =some (.lst (acc++(below fs).map Fm.w))
 | [],acc,o2,st,_,hA,_,_=>⟨o2,st,rfl,cP.refl,by simpa [below] using hA⟩
 | f::r,acc,o2,st,ho,hA,hL,hl=>by
  have hl':acc.length+3 * (r.length+1)<=1000:=hl
  have k3:=UW f
  obtain⟨n1,_⟩:=node (ho f aQ)
  have ex:=QK (zs:=f.kids.map Fm.w) hA (by rw[bb];unfold lim;omega)
  have kk:cP A st (st.set A (.lst (acc++f.kids.map Fm.w))):=cP.set
  have hA2:=b9 (o':=.lst (acc++f.kids.map Fm.w)) hA
  have Y6:=kk.lst hL hne
  generalize st.set A (.lst (acc++f.kids.map Fm.w))=s1 at ex kk hA2 Y6
  have e1:cE ([some (.ref L),some (.ref A),o2].set 2 (some f.w)) st= .nx [some (.ref L),some (.ref A),some f.w] s1:=by
   have km:=λga=>wx (mt:=uW) (ga:=ga) (ρ:=[some (.ref L),some (.ref A),some f.w]) (cL hA)
   unfold cE
   simp[km,n1,ex]
  obtain⟨Y5,s2,e2,k2,h2⟩:=tH hne r (acc++f.kids.map Fm.w) (some f.w) s1 (λg hg=>ho g (aI _ hg)) hA2 Y6 (by rw[cS,bb];omega)
  refine⟨Y5,s2,?_,kk.trans k2,by rw[h2];simp[below]⟩
  rw[aB]
  unfold forL
  rw[e1]
  simp only[if_pos Y6]
  exact e2
theorem yX{fs:List Fm}{L:Nat}{st:Hs}(ho:∀f∈fs,f.ok)(hl:fs.length<=300)(h:st[L]? =some (.lst (fs.map Fm.w))) :
  ∃st',dH [.ref L] st= .ok (.ref st.length) st'/\Gr st st'/\st'[st.length]? =some (.lst ((below fs).map Fm.w)):=by
 have hL:L < st.length:=bM h
 have h1:aq (st++[.lst []]) L=some (fs.map Fm.w):=cL (fM h)
 obtain⟨o2,s1,e1,k1,g1⟩:=tH (L:=L) (A:=st.length) (all:=fs.map Fm.w) (by omega) fs [] none (st++[.lst []]) ho bV h1 (by simp;omega)
 have Kn:kFor 2 cE [some (.ref L),some (.ref st.length),none] (.ref L) (st++[.lst []])= .nx [some (.ref L),some (.ref st.length),o2] s1:=by rw[Im h1];exact e1
 refine⟨s1,?_,Gr.sO (ao _) Gr.push k1,by simpa using g1⟩
 unfold dH bL jh
 simp[Kn]
theorem D4{cs:gD}{gt:GT}{ge:GE}{ρ:bD}{k:Nat}{ws:List Wv}{st:Hs}(h0:aq st k=some ws)(h1:∀v∈ws,∀s,gt (some v::gE cs ρ) s= .ok true s)
  (h2:∀v∈ws,∀s,∃s',ge (some v::gE cs ρ) s= .ok (.bl true) s'/\Gr s s')(hl:ws.length < lim):∃st',eI cs gt ge ρ (some k,ws) st= .ok (.ref st.length) st'/\Gr st st'/\aq st' st.length=some (aC ws.length (.bl true)):=by
 obtain⟨st',acc,e,p,g,he,hlen⟩:=pR (w:=(some k,ws)) (gt:=λv=>gt (some v::gE cs ρ)) (ge:=λv=>ge (some v::gE cs ρ)) (rr:=st.length) (λs=>Gr st s) (λu=>u= .bl true)
  (λs acc h=>Gr.sO (ao _) h cP.set) (λs h=>h.lst h0) ws (λv hv s acc hp hg=>by
   obtain⟨s',e',g'⟩:=h2 v hv s
   exact⟨s,h1 v hv s,hp,hg,_,s',e',rfl,hp.trans g',g'.get hg⟩) [] (st++[.lst []]) Gr.push bV (by simpa using hl) (λ_ z=>by cases z)
 refine⟨st',?_,p,?_⟩
 ·unfold eI
  dsimp only
  rw[e]
 ·rw[cL g]
  congr 1
  have:acc.length=ws.length:=by simpa using hlen
  rw[<-this]
  exact List.eq_replicate_iff.mpr ⟨rfl,he⟩
theorem va{F:Wv}:∀(N:Nat)(fs:List Fm)(p d:Int)(k:Nat)(st:Hs),D fs < N->(∀f∈fs,f.ok)->st[k]? =some (.lst (fs.map Fm.w))->p+B6 fs<=60->0<=p->d+D fs<=12->0<=d->
  ∃o1 o2 o3 st',Mw (iG (af 1)) cb N [some F,some (.ref k),some (.int p),some (.int d)] st= .nx [some F,o1,o2,o3] st'/\Gr st st'
 | 0,_,_,_,_,_,h,_,_,_,_,_,_=>by omega
 | N+1,fs,p,d,k,st,hN,ho,hk,hp,p0,hd,d0=>by
  have tl:=UU (cL hk)
  have z:=u_ fs
  by_cases hf:fs=[]
  ·subst hf
   refine⟨some (.ref k),some (.int p),some (.int d),st,?_,Gr.refl⟩
   unfold Mw
   simp[tl]
  have db:=B8 hf
  have ne:(!(fs.map Fm.w).isEmpty)=true:=by cases fs with | nil=>exact absurd rfl hf | cons _ _=>rfl
  rw[ne] at tl
  have hlen:fs.length<=60:=by omega
  obtain⟨s1,e1,g1,l1⟩:=D4 (cs:=[]) (gt:=ir) (ge:=dX) (ρ:=[some F,some (.ref k),some (.int (p+fs.length)),some (.int (d+1))]) (cL hk) (λ_ _ _=>rfl) (λv hv s=>by
   obtain⟨f,hf,rfl⟩:=List.mem_map.mp hv
   obtain⟨s',e',g'⟩:=Iy (ho f hf) s
   refine⟨s',?_,g'⟩
   unfold dX
   simp[e']) (by rw[bb];unfold lim;omega)
  have al:=rh l1
  have hk1:=g1.get hk
  obtain⟨s2,e2,g2,h2⟩:=yX ho (by omega) hk1
  obtain⟨o1,o2,o3,s3,e3,g3⟩:=va (F:=F) N (below fs) (p+fs.length) (d+1) s1.length s2 (by omega) (Iz ho) h2 (by omega) (by omega) (by omega) (by omega)
  refine⟨o1,o2,o3,s3,?_,g1.trans (g2.trans g3)⟩
  have ln:e7 [.ref k] st= .ok (.int (fs.length:Nat)) st:=by rw[Ik (cL hk),bb]
  have c1:¬60 < p+(fs.length:Int):=by omega
  have c2:¬12 < d+1:=by omega
  have a1:wa (λi j=>i+j) 2 (aL e7 (ae (af 1) aj)) [some F,some (.ref k),some (.int p),some (.int d)] st= .nx [some F,some (.ref k),some (.int (p+fs.length)),some (.int d)] st:=by
   unfold wa
   simp[ln,Po]
  have a2:wa (λi j=>i+j) 3 (gC (.int 1)) [some F,some (.ref k),some (.int (p+fs.length)),some (.int d)] st= .nx [some F,some (.ref k),some (.int (p+fs.length)),some (.int (d+1))] st:=by
   unfold wa
   simp[Po]
  have body:cb [some F,some (.ref k),some (.int p),some (.int d)] st= .nx [some F,some (.ref s1.length),some (.int (p+fs.length)),some (.int (d+1))] s2:=by
   unfold cb
   simp[a1,a2,c1,c2,Io (cL hk),e1,al,e2]
  unfold Mw
  simp only[UA,MF,ME,QE,QF,iQ,tl,wt,if_pos,body]
  exact e3
theorem made{f:Fm}(h:f.ok)(hz:f.sz<=60)(hd:f.dp<=12)(st:Hs):∃st',c9 [f.w] st= .ok f.w st'/\Gr st st':=by
 have hD:D [f]=f.dp:=by simp[D]
 have hS:B6 [f]=f.sz:=by simp[B6]
 obtain⟨o1,o2,o3,s1,e1,g1⟩:=va (F:=f.w) pP [f] 0 0 st.length (st++[.lst [f.w]]) (by rw[hD];unfold pP;omega) (λg hg=>by rw[List.mem_singleton.mp hg];exact h) bV (by rw[hS];omega) (by decide) (by rw[hD];omega) (by decide)
 refine⟨s1,?_,Gr.push.trans g1⟩
 have Kn:v_ pP (iG (af 1)) cb [some f.w,some (.ref st.length),some (.int 0),some (.int 0)] (st++[.lst [f.w]])= .nx [some f.w,o1,o2,o3] s1:=e1
 unfold c9 bL iu
 simp[Kn]
def ky(p q:Int):List L2.Key:=[.inl p,.inl q]
theorem Y7{p q:Int}:iH (tI [p,q])=some (ky p q):=rfl
theorem Y8{st:Hs}{l:Nat}{kvs:List (List L2.Key×Wv)}{p q:Int}{i j:Nat}{ρ:bD}(hi:ρ[i]? =some (some (.ref l)))(hj:ρ[j]? =some (some (tI [p,q])))(h:bX st[l]? =some kvs) :
  sD (af i) (af j) ρ st= .ok ((aN kvs (ky p q)).getD .aZ) st:=by
 have e1:af i ρ st= .ok (.ref l) st:=by unfold af;rw[hi]
 have e2:af j ρ st= .ok (tI [p,q]) st:=by unfold af;rw[hj]
 unfold sD
 rw[e1]
 show(if _ then _ else _)=_
 rw[h,if_pos (show(some kvs).isSome=true from rfl),e2]
 show(match iH (tI [p,q]),bX st[l]? with | some kk,some kvs=>Re.ok ((aN kvs kk).getD .aZ) st | _,_=> .bad)=_
 rw[Y7,h]
def UX:Wv->Bool
 | .tup _=>true
 | _=>false
theorem isT{v:Wv}{st:Hs}(h:v= .aZ\/Cn v):fX jC ff [v,.ty "tuple"] st= .ok (.bl (UX v)) st:=by
 rcases h with rfl | ⟨i,rfl,_⟩ | ⟨x,rfl,_⟩ | ⟨f,rfl,_⟩<;>rfl
theorem yY{st:Hs}{l:Nat}{kvs:List (List L2.Key×Wv)}{p q:Int}(h:bX st[l]? =some kvs)(hk:∀v,aN kvs (ky p q)=some v->Cn v) :
  cR [.ref l,tI [p,q]] st= .ok (.bl (UX ((aN kvs (ky p q)).getD .aZ))) st:=by
 have e:=Y8 (i:=0) (j:=1) (ρ:=[some (.ref l),some (tI [p,q])]) rfl rfl h
 have t:=isT (st:=st) (v:=(aN kvs (ky p q)).getD .aZ) (by
  cases c:aN kvs (ky p q) with
  | none=>exact .inl rfl
  | some v=>exact .inr (hk v c))
 unfold cR bL jm
 simp[e,t]
theorem B9{x:S}{n:Nat}{st:Hs}:aM st n (.str x)=some (.str x):=by cases n<;>rfl
theorem B_{i:Int}{n:Nat}{st:Hs}:aM st n (.int i)=some (.int i):=by cases n<;>rfl
theorem IA:∀(l:List Int)(n:Nat),∃ds:List PyData,(∀st:Hs,fL (aM st n) (l.map Wv.int)=some ds)/\gQ ds ds=true
 | [],n=>⟨[],λ_=>rfl,by simp[gQ]⟩
 | i::r,n=>by
  obtain⟨ds,e1,e2⟩:=IA r n
  refine⟨.int i::ds,λst=>?_,by simp[gQ,BY,e2]⟩
  rw[aB]
  unfold fL
  rw[B_,e1]
theorem qc(l:List Int)(n:Nat):∃d:PyData,(∀st:Hs,aM st (n+1) (tI l)=some d)/\aT d d=true:=by
 obtain⟨ds,e1,e2⟩:=IA l n
 refine⟨.tuple ds,λst=>?_,by simpa [aT] using e2⟩
 show(fL (aM st n) (l.map Wv.int)).map qP=_
 rw[e1]
 rfl
theorem vb{x:S}{n:Nat}{ws:List Wv}(h:∀w∈ws,∃d:PyData,(∀st:Hs,aM st n w=some d)/\aT d d=true):∃d:PyData,(∀st:Hs,aM st (n+1) (.tup (.str x::ws))=some d)/\aT d d=true:=by
 have key:∀ws:List Wv,(∀w∈ws,∃d:PyData,(∀st:Hs,aM st n w=some d)/\aT d d=true)->∃ds:List PyData,(∀st:Hs,fL (aM st n) ws=some ds)/\gQ ds ds=true:=by
  intro ws
  induction ws with
  | nil=>exact λ_=>⟨[],λ_=>rfl,by simp[gQ]⟩
  | cons w r ih=>
   intro h
   obtain⟨d,d1,d2⟩:=h w aQ
   obtain⟨ds,e1,e2⟩:=ih λv hv=>h v (aI _ hv)
   refine⟨d::ds,λst=>?_,by simp[gQ,d2,e2]⟩
   unfold fL
   rw[d1,e1]
 obtain⟨ds,e1,e2⟩:=key ws h
 refine⟨.tuple (.str x::ds),λst=>?_,by simp[aT,gQ,BZ,e2]⟩
 show(fL (aM st n) (.str x::ws)).map qP=_
 unfold fL
 rw[B9,e1]
 rfl
theorem all1{P:Wv->Prop}{a:Wv}(h:P a):∀w∈[a],P w:=List.forall_mem_cons.mpr ⟨h,λ_ z=>by cases z⟩
theorem all2{P:Wv->Prop}{a b:Wv}(h:P a)(k:P b):∀w∈[a,b],P w:=List.forall_mem_cons.mpr ⟨h,all1 k⟩
theorem UY{P:Wv->Prop}{a b c:Wv}(h:P a)(k:P b)(j:P c):∀w∈[a,b,c],P w:=List.forall_mem_cons.mpr ⟨h,all2 k j⟩
theorem dat:∀(f:Fm)(n:Nat),f.ok->f.dp<=n->∃d:PyData,(∀st:Hs,aM st (n+1) f.w=some d)/\aT d d=true
 | f,0,_,hd=>by cases f<;>simp[Fm.dp] at hd
 | .lit x ws,n+1,h,_=>by
  refine vb (ws:=ws) λw hw=>?_
  rcases h with ⟨_,i,rfl,_⟩ | ⟨_,s,rfl,_⟩ | ⟨_,rfl⟩
  ·rw[List.mem_singleton.mp hw];exact⟨.int i,λ_=>B_,BY⟩
  ·rw[List.mem_singleton.mp hw];exact⟨.str s,λ_=>B9,BZ⟩
  ·cases hw
 | .pt x l p,n+1,_,_=>vb (ws:=[tI l,tI p]) (all2 (qc l n) (qc p n))
 | .fd f l p,n+1,h,hd=>vb (ws:=[f.w,tI l,tI p]) (UY (dat f n h.1 (by simp[Fm.dp] at hd;omega)) (qc l n) (qc p n))
 | .o1 x f,n+1,h,hd=>vb (ws:=[f.w]) (all1 (dat f n h.2 (by simp[Fm.dp] at hd;omega)))
 | .o2 x f g,n+1,h,hd=>vb (ws:=[f.w,g.w]) (all2 (dat f n h.2.1 (by simp[Fm.dp] at hd;omega)) (dat g n h.2.2 (by simp[Fm.dp] at hd;omega)))
 | .o3 f g k,n+1,h,hd=>vb (ws:=[f.w,g.w,k.w]) (UY (dat f n h.1 (by simp[Fm.dp] at hd;omega)) (dat g n h.2.1 (by simp[Fm.dp] at hd;omega)) (dat k n h.2.2 (by simp[Fm.dp] at hd;omega)))
abbrev Ks:=List (List L2.Key×Wv)
abbrev Pt:=Int×Int
def e_(p:Pt):List L2.Key:=ky p.1 p.2
def UZ:List Pt:=(gq 2574).map λk=>(((k / 26:Nat):Int),((k % 26:Nat):Int))
def uq{α:Type}(f:α->Nat):List α->Nat->Bool
 | [],_=>true
 | x::r,acc=> !(acc.testBit (f x))&&uq f r (acc||| 2 ^ f x)
theorem MV{α:Type}{f:α->Nat}:∀{l:List α}{acc:Nat},uq f l acc=true->(∀x∈l,∀y∈l,f x=f y->x=y)/\∀x∈l,acc.testBit (f x)=false
 | [],_,_=>⟨λx hx=>(by cases hx),λx hx=>by cases hx⟩
 | x::r,acc,h=>by
  unfold uq at h
  rw[dZ] at h
  obtain⟨h1,h2⟩:=MV h.2
  have no:∀y∈r,acc.testBit (f y)=false/\f x≠f y:=λy hy=>by
   have q:=h2 y hy
   rw[Nat.testBit_or,Nat.testBit_two_pow,Bool.or_eq_false_iff] at q
   exact⟨q.1,of_decide_eq_false q.2⟩
  refine⟨λa ha b hb e=>?_,λy hy=>?_⟩
  ·rcases List.mem_cons.mp ha with ea | ha'
   ·rcases List.mem_cons.mp hb with eb | hb'
    ·rw[ea,eb]
    ·rw[ea] at e
     exact absurd e (no b hb').2
   ·rcases List.mem_cons.mp hb with eb | hb'
    ·rw[eb] at e
     exact absurd e.symm (no a ha').2
    ·exact h1 a ha' b hb' e
  ·rcases List.mem_cons.mp hy with rfl | hy
   ·simpa using h.1
   ·exact(no y hy).1
def hs(p:Pt):Int:=Bz [p.1,p.2]
def hm(p:Pt):Nat:=(hs p % 19291).toNat
theorem QL:uq hm UZ 0=true:=by decide+kernel
theorem yZ{p:Pt}(h:kz p.1 p.2):p∈UZ:=by
 obtain⟨a,b⟩:=p
 obtain⟨h1,h2,h3,h4⟩:=h
 dsimp only at h1 h2 h3 h4
 refine List.mem_map.mpr ⟨a.toNat * 26+b.toNat,List.mem_range.mpr (by omega),?_⟩
 refine vx ?_ ?_
 ·show(((a.toNat * 26+b.toNat) / 26:Nat):Int)=a
  omega
 ·show(((a.toNat * 26+b.toNat) % 26:Nat):Int)=b
  omega
theorem QM{p q:Pt}(hp:kz p.1 p.2)(hq:kz q.1 q.2)(h:hs p=hs q):p=q :=
 (MV QL).1 p (yZ hp) q (yZ hq) (by unfold hm;rw[h])
theorem B':∀l:List Pt,qt (l.map e_)=some (l.map λp=>[p.1,p.2])
 | []=>rfl
 | p::r=>by
  rw[aB,aB]
  unfold qt
  rw[B' r]
  rfl
theorem y3:∀{l:List Pt},l.Nodup->(∀p∈l,kz p.1 p.2)->(l.map hs).Nodup
 | [],_,_=>oe
 | p::r,h,k=>by
  rw[List.nodup_cons] at h
  rw[aB,List.nodup_cons]
  refine⟨λz=>?_,y3 h.2 λq hq=>k q (aI _ hq)⟩
  obtain⟨q,hq,e⟩:=List.mem_map.mp z
  exact h.1 (QM (k q (aI _ hq)) (k p aQ) e ▸ hq)
theorem QN{kvs:Ks}{ps:List Pt}(h:kvs.map (·.1)=ps.map e_)(hn:ps.Nodup)(hp:∀p∈ps,kz p.1 p.2):jP (kvs.map (·.1))=true:=by
 unfold jP
 rw[h,B']
 refine decide_eq_true ?_
 rw[iM]
 exact y3 hn hp
theorem AD{a b c d:Int}(h:ky a b=ky c d):a=c/\b=d:=by
 unfold ky at h
 injection h with h1 h2
 injection h2 with h2
 injection h1 with h1
 injection h2 with h2
 exact⟨h1,h2⟩
theorem Ca{kvs:Ks}{k:List L2.Key}{v:Wv}(h:k∉kvs.map (·.1)):dW kvs k v=kvs++[(k,v)]:=by
 unfold dW
 rw[if_neg]
 intro q
 obtain⟨p,hp,e⟩:=List.any_eq_true.mp q
 exact h (List.mem_map.mpr ⟨p,hp,of_decide_eq_true e⟩)
theorem wO{d:Nat}{kvs:Ks}{a b:Int}{v:Wv}{st:Hs}(h:st[d]? =some (.bu kvs))(hl:kvs.length < 1000):putD (.ref d) (.tup [.int a,.int b]) v st=some (st.set d (.bu (dW kvs (ky a b) v))):=by
 have hk:iH (.tup [.int a,.int b])=some (ky a b):=rfl
 unfold putD
 dsimp only
 rw[h]
 dsimp only
 rw[hk]
 dsimp only
 rw[if_pos (by unfold lim;omega)]
def gp(a b:Int)(k:Nat):Pt:=(a+((k / 4:Nat):Int),b+((k % 4:Nat):Int))
def AE(a b:Int)(n:Nat)(kvs:Ks):Prop:=∃js:List Nat,kvs.map (·.1)=js.map (λj=>e_ (gp a b j))/\js.Nodup/\(∀j∈js,j < n)/\js.length<=n/\∀kv∈kvs,Cn kv.2
theorem wQ{a b:Int}{i j:Nat}(h:e_ (gp a b i)=e_ (gp a b j)):i=j:=by
 obtain⟨h1,h2⟩:=AD h
 have h1:a+((i / 4:Nat):Int)=a+((j / 4:Nat):Int):=h1
 have h2:b+((i % 4:Nat):Int)=b+((j % 4:Nat):Int):=h2
 omega
theorem MW{a b:Int}{k:Nat}(h:oR a b)(hk:k < 12):kz (gp a b k).1 (gp a b k).2:=by
 obtain⟨h1,h2,h3,h4⟩:=h
 show kz (a+((k / 4:Nat):Int)) (b+((k % 4:Nat):Int))
 unfold kz
 omega
theorem AE.put{a b:Int}{n:Nat}{kvs:Ks}{v:Wv}(h:AE a b n kvs)(hv:Cn v):AE a b (n+1) (dW kvs (e_ (gp a b n)) v):=by
 obtain⟨js,h1,h2,h3,hl,h4⟩:=h
 have no:e_ (gp a b n)∉kvs.map (·.1):=λz=>by
  rw[h1] at z
  obtain⟨j,hj,e⟩:=List.mem_map.mp z
  have:=wQ e
  have:=h3 j hj
  omega
 rw[Ca no]
 refine⟨js++[n],by rw[gR,h1,gR];rfl,?_,?_,by rw[cS];exact vO hl,?_⟩
 ·rw[Cb]
  refine⟨h2,by simp,λx hx y hy=>?_⟩
  have:=h3 x hx
  rw[List.mem_singleton.mp hy]
  omega
 ·intro j hj
  rcases List.mem_append.mp hj with z | z
  ·have:=h3 j z;omega
  ·rw[List.mem_singleton.mp z];omega
 ·intro kv hkv
  rcases List.mem_append.mp hkv with z | z
  ·exact h4 kv z
  ·rw[List.mem_singleton.mp z];exact hv
theorem AE.le{a b:Int}{n m:Nat}{kvs:Ks}(h:AE a b n kvs)(k:n<=m):AE a b m kvs:=by
 obtain⟨js,h1,h2,h3,hl,h4⟩:=h
 exact⟨js,h1,h2,λj hj=>bC (h3 j hj) k,ba hl k,h4⟩
theorem AE.len{a b:Int}{n:Nat}{kvs:Ks}(h:AE a b n kvs):kvs.length<=n:=by
 obtain⟨js,h1,h2,h3,hl,h4⟩:=h
 have:=congrArg b7 h1
 rw[bb,bb] at this
 omega
theorem AE.nil{a b:Int}:AE a b 0 []:=⟨[],rfl,oe,λj hj=>(by cases hj),ao _,λkv h=>by cases h⟩
theorem AE.val{a b:Int}{n:Nat}{kvs:Ks}{k:List L2.Key}{v:Wv}(h:AE a b n kvs)(e:aN kvs k=some v):Cn v:=by
 obtain⟨js,h1,h2,h3,hl,h4⟩:=h
 exact h4 _ (eL e)
theorem U0{v:Wv}(h:v= .aZ\/Cn v):∃d:PyData,(∀st:Hs,aM st 20 v=some d)/\aT d d=true:=by
 rcases h with rfl | ⟨i,rfl,_⟩ | ⟨x,rfl,_⟩ | ⟨f,rfl,h1,_,h2⟩
 ·exact⟨.none,λ_=>rfl,by simp[aT]⟩
 ·exact⟨.int i,λ_=>B_,BY⟩
 ·exact⟨.str x,λ_=>B9,BZ⟩
 ·exact dat f 19 h1 (by omega)
theorem fo{k:List L2.Key}:∀{kvs:Ks},k∈kvs.map (·.1)->∃v,aN kvs k=some v
 | [],h=>by cases h
 | p::r,h=>by
  unfold aN
  by_cases e:p.1=k
  ·exact⟨p.2,if_pos e⟩
  ·rw[if_neg e]
   rw[aB,mf] at h
   exact fo (h.resolve_left λz=>e z.symm)
theorem same_self{kvs:Ks}{st:Hs}(h:∀kv∈kvs,∃d:PyData,(∀st:Hs,aM st 20 kv.2=some d)/\aT d d=true):pM st kvs=true/\mG st kvs kvs=true:=by
 refine⟨?_,?_⟩
 ·unfold pM
  rw[m7]
  intro kv hk
  obtain⟨d,h1,_⟩:=h kv hk
  rw[h1]
  rfl
 ·unfold mG
  rw[decide_eq_true rfl,Ab,m7]
  intro k hk
  obtain⟨v,e⟩:=fo hk
  obtain⟨d,h1,h2⟩:=h _ (eL e)
  unfold Lc
  rw[e]
  dsimp only
  rw[h1]
  simpa using h2
theorem eq_self{kvs:Ks}{l k:Nat}{st:Hs}(h1:bX st[l]? =some kvs)(h2:bX st[k]? =some kvs)(h:∀kv∈kvs,∃d:PyData,(∀st:Hs,aM st 20 kv.2=some d)/\aT d d=true):qB (.ref l) (.ref k) st= .ok (.bl true) st/\mY (.ref l) (.ref k) st= .ok (.bl false) st:=by
 obtain⟨a,b⟩:=same_self (st:=st) h
 have d1:pN st (.ref l)=some kvs:=h1
 have d2:pN st (.ref k)=some kvs:=h2
 unfold qB mY
 rw[d1,d2]
 dsimp only
 rw[if_pos ⟨a,a⟩,if_pos ⟨a,a⟩,b]
 exact⟨rfl,rfl⟩
theorem wR{d:Nat}{kvs:Ks}{st:Hs}(hd:bX st[d]? =some kvs)(hk:jP (kvs.map (·.1))=true):qu [.ref d] st= .ok (.ref st.length) (st++[.bu kvs]):=by
 unfold qu
 dsimp only
 rw[hd]
 dsimp only
 rw[if_pos hk]
theorem IB{v:Wv}{st:Hs}(h:Cn v):jL v .aZ st= .ok (.bl true) st:=by
 rcases h with ⟨i,rfl,_⟩ | ⟨x,rfl,_⟩ | ⟨f,rfl,_⟩<;>rfl
theorem cells{st:Hs}{l:Nat}{ns:List Int}{dp:Nat}(h:aq st l=some (ns.map Wv.int))(hn:ns.length<=63)(hd:dp<=2):∃(a b:Int)(kvs:Ks)(d:Nat)(st':Hs),eR [.ref l,.int dp] st= .ok (.ref d) st'/\st'[d]? =some (.bu kvs)/\oR a b/\AE a b 12 kvs/\Gr st st'/\(∃s,cI [.ref l] st= .ok (tI [a,b]) s):=by
 obtain⟨a,b,s0,e0,hs,more,rfl⟩:=spot h
 have g0:Gr st (st++more):=Gr.app
 generalize hs0:st++more=s0 at e0 g0
 have g1:Gr st (s0++[.bu []]):=g0.trans Gr.push
 have f4:∀(k:Nat)(s:Hs),eE (.int k) (.int 4) s= .ok (.int ((k / 4:Nat):Int)) s:=λk s=>by
  rw[m8 (by decide+kernel),QO _ (by decide)]
  rfl
 have m4:∀(k:Nat)(s:Hs),oMod (.int k) (.int 4) s= .ok (.int ((k % 4:Nat):Int)) s:=λk s=>by
  rw[mK (by decide),QP _ (by decide)]
  rfl
 obtain⟨ρ1,s1,e1,o4,o5,kvs,rfl,hk,hg,hsh⟩:=q_ (i:=4) (gb:=dO) (λk ρ s=>∃(o4 o5:Option Wv)(kvs:Ks),ρ=[some (.ref l),some (.int dp),some (tI [a,b]),some (.ref s0.length),o4,o5]/\s[s0.length]? =some (.bu kvs)/\Gr st s/\AE a b k kvs)
  (dD 0 12) 0 [some (.ref l),some (.int dp),some (tI [a,b]),some (.ref s0.length),none,none] (s0++[.bu []]) ⟨none,none,[],rfl,bV,g1,AE.nil⟩ (λk w hw ρ s hP=>by
   obtain⟨o4,o5,kvs,rfl,hk,hg,hsh⟩:=hP
   have hj:k < 12:=by
    have q:=(List.getElem?_eq_some_iff.mp hw).1
    rw[dE] at q
    exact q
   rw[pz hj] at hw
   cases hw
   rw[Cc] at hsh
   obtain⟨n,es⟩:=stream (hg.lst h) hn (k:=k) (by omega) (by omega)
   have ro:Ro s.length (s++[.lst [.int n]]):=⟨n,bV⟩
   obtain⟨v,s2,e2,hv,dw⟩:=content ro hs hd
   have g2:Gr s s2:=Gr.push.sO (ao _) dw.1
   have hk2:=g2.get hk
   have lt:st.length<=s0.length:=g0.1
   rw[show((0:Int)+(k:Nat))=(k:Int) from Int.zero_add _]
   rcases hv with rfl | hv
   ·refine⟨_,_,?_,some (.int k),some .aZ,kvs,rfl,hk2,hg.trans g2,hsh.le (by omega)⟩
    unfold dO
    simp[es,e2,jL]
   ·have pd:=wO (a:=a+((k / 4:Nat):Int)) (b:=b+((k % 4:Nat):Int)) (v:=v) hk2 (by have:=hsh.len;omega)
    refine⟨_,_,?_,some (.int k),some v,dW kvs (e_ (gp a b k)) v,rfl,b9 hk2,Gr.QI lt (hg.trans g2),?_⟩
    rotate_left
    ·rw[Cc]
     exact hsh.put hv
    show _=Rs.nx _ (s2.set s0.length (.bu (dW kvs (ky (a+((k / 4:Nat):Int)) (b+((k % 4:Nat):Int))) v)))
    have f4':=f4 k s2
    have m4':=m4 k s2
    generalize ((k / 4:Nat):Int)=x at f4' pd ⊢
    generalize ((k % 4:Nat):Int)=y at m4' pd ⊢
    have xQ:aV [.ref s.length,.tup [.int a,.int b],.int dp] (s++[.lst [.int n]])= .ok v s2:=e2
    unfold dO
    simp[es,xQ,IB hv,jy,tI,jx0,jx1,f4',m4',pd])
 refine⟨a,b,kvs,s0.length,s1,MK (n:=6) (g:=gK) ?_,hk,hs,by simpa [dE] using hsh,hg,s0,e0⟩
 have c12:mV 12:=LN (by decide) (by decide)
 unfold gK
 simp[e0,hZ,c12,e1]
theorem QQ{x:S}{st:Hs}:fX jC ff [.str x,.ty "tuple"] st= .ok (.bl false) st:=rfl
theorem QR{i:Int}{st:Hs}:fX jC ff [.int i,.ty "tuple"] st= .ok (.bl false) st:=rfl
theorem QS{i:Int}{st:Hs}:fX jC ff [.int i,.ty "str"] st= .ok (.bl false) st:=rfl
theorem U1{i:Int}{st:Hs}:di [.int i] st= .ok (.bl false) st:=by
 unfold di bL mi
 simp[QS]
theorem LY{i:Int}{st:Hs}(h1:-tO<=i)(h2:i<=tO):fP [.int i] st= .ok (.bl true) st:=by
 have c:¬tO < (if i < 0 then -i else i):=by split<;>omega
 have g:iz [.int i] st= .ok (.bl false) st:=by
  unfold iz bL nG
  simp[AB,c]
 unfold fP bL lx
 simp[tG,g]
theorem AG{v:Wv}(h:Cn v)(st:Hs):∃st',bU [v] st= .ok v st'/\Gr st st':=by
 rcases h with ⟨i,rfl,h1,h2⟩ | ⟨x,rfl,ht⟩ | ⟨f,rfl,ho,hz,hd⟩
 ·refine⟨st,?_,Gr.refl⟩
  unfold bU bL c_
  simp[QR,U1,LY h1 h2]
 ·obtain⟨s1,e1,g1⟩:=B5 ht st
  refine⟨s1,?_,g1⟩
  unfold bU bL c_
  simp[QQ,e1]
 ·obtain⟨s1,e1,g1⟩:=made ho (by omega) (by omega) st
  have is:fX jC ff [f.w,.ty "tuple"] st= .ok (.bl true) st:=rfl
  refine⟨s1,?_,g1⟩
  unfold bU bL c_
  simp[is,e1]
theorem made_place{a b:Int}{st:Hs}(h:kz a b):eS [.int a,.int b] st= .ok (tI [a,b]) st:=by
 unfold eS bL j6
 simp[oS h,tI]
abbrev Cl:=Pt×Wv
def cw(x:Cl):Wv:=.tup [tI [x.1.1,x.1.2],x.2]
def oT(x:Cl):Prop:=kz x.1.1 x.1.2/\(x.2= .aZ\/Cn x.2)
def up(kvs:Ks)(x:Cl):Ks:=match x.2 with
 | .aZ=>gj kvs (e_ x.1)
 | v=>dW kvs (e_ x.1) v
def ups(kvs:Ks)(cs:List Cl):Ks:=cs.foldl up kvs
theorem AH{kvs:Ks}{p:Pt}:up kvs (p,.aZ)=gj kvs (e_ p):=rfl
theorem y6{kvs:Ks}{p:Pt}{v:Wv}(h:Cn v):up kvs (p,v)=dW kvs (e_ p) v:=by
 rcases h with ⟨i,rfl,_⟩ | ⟨x,rfl,_⟩ | ⟨f,rfl,_⟩<;>rfl
theorem IC(kvs:Ks)(k:List L2.Key)(v:Wv):(dW kvs k v).length<=kvs.length+1:=by
 unfold dW
 split<;>simp
theorem ID{kvs:Ks}{x:Cl}(h:oT x):(up kvs x).length<=kvs.length+1:=by
 obtain⟨p,v⟩:=x
 rcases h.2 with z | z
 ·have z:v= .aZ:=z
  subst z
  rw[AH]
  exact ba (vH _ _) (by omega)
 ·rw[y6 z]
  exact IC _ _ _
theorem fK:∀{cs:List Cl}(kvs:Ks),(∀x∈cs,oT x)->(ups kvs cs).length<=kvs.length+cs.length
 | [],kvs,_=>ao _
 | x::r,kvs,h=>by
  have h1:=fK (cs:=r) (up kvs x) λy hy=>h y (aI _ hy)
  have h2:=ID (kvs:=kvs) (h x aQ)
  show(ups (up kvs x) r).length<=kvs.length+(r.length+1)
  omega
theorem oU{kvs:Ks}{cs:List Cl}{x:Cl}:ups kvs (cs++[x])=up (ups kvs cs) x:=by unfold ups;rw[List.foldl_append];rfl
theorem wU{k:List L2.Key}:∀{kvs:Ks},aN kvs k=none->gj kvs k=kvs
 | [],_=>rfl
 | p::r,h=>by
  unfold aN at h
  by_cases e:p.1=k
  ·rw[if_pos e] at h;cases h
  ·rw[if_neg e] at h
   unfold gj
   rw[fV,if_pos (by simp[e])]
   exact congrArg (p::·) (wU h)
theorem set_same{st:Hs}{l:Nat}{o:Ob}(h:st[l]? =some o):st.set l o=st:=Gw λj=>by
 by_cases e:l=j
 ·subst e;rw[b9 h,h]
 ·rw[bw e]
theorem QT{d:Nat}{kvs:Ks}{p:Pt}{st:Hs}(h:st[d]? =some (.bu kvs)):∃w,K9 (.ref d) (tI [p.1,p.2]) .aZ st= .ok w (st.set d (.bu (gj kvs (e_ p)))):=by
 have hk:iH (tI [p.1,p.2])=some (e_ p):=rfl
 unfold K9
 dsimp only
 rw[h,hk]
 dsimp only
 cases e:aN kvs (e_ p) with
 | some w=>exact⟨w,rfl⟩
 | none=>exact⟨.aZ,by rw[wU e,set_same h]⟩
theorem U2{v:Wv}{st:Hs}(h:Cn v):Tq v .aZ st= .ok (.bl false) st:=by
 rcases h with ⟨i,rfl,_⟩ | ⟨x,rfl,_⟩ | ⟨f,rfl,_⟩<;>rfl
theorem IE{d:Nat}{kvs:Ks}{x:Cl}{st:Hs}(h:st[d]? =some (.bu kvs))(hx:oT x)(hl:kvs.length < 1000):∃st',bO [.ref d,tI [x.1.1,x.1.2],x.2] st= .ok .aZ st'/\cP d st st'/\st'[d]? =some (.bu (up kvs x)):=by
 obtain⟨p,v⟩:=x
 obtain⟨h1,h2⟩:=hx
 dsimp only at h1 h2 ⊢
 have mp:=λst:Hs=>made_place (st:=st) h1
 have i0:∀st:Hs,cU (tI [p.1,p.2]) (.int 0) st= .ok (.int p.1) st:=λ_=>rfl
 have i1:∀st:Hs,cU (tI [p.1,p.2]) (.int 1) st= .ok (.int p.2) st:=λ_=>rfl
 rcases h2 with rfl | h2
 ·obtain⟨w,e⟩:=QT (p:=p) h
  have dv:DD st (.ref d)=true:=by show(bX st[d]?).isSome=true;rw[h];rfl
  have is:Tq .aZ .aZ st= .ok (.bl true) st:=rfl
  refine⟨_,?_,cP.set,by rw[AH];exact b9 h⟩
  unfold bO bL fI
  simp[i0,i1,mp,is,BA,dv,e]
 ·obtain⟨s1,e1,g1⟩:=AG h2 st
  have pd:putD (.ref d) (tI [p.1,p.2]) v s1=some (s1.set d (.bu (dW kvs (e_ p) v))):=wO (g1.get h) hl
  refine⟨_,?_,g1.keep.trans cP.set,by rw[y6 h2];exact b9 (g1.get h)⟩
  unfold bO bL fI
  simp[i0,i1,mp,U2 h2,jy,e1,pd]
theorem y7{C:Wv}{d:Nat}{o2:Option Wv}{x:Cl}{kvs:Ks}{st:Hs}(h:st[d]? =some (.bu kvs))(hx:oT x)(hl:kvs.length < 1000):∃st',bY ([some C,some (.ref d),o2].set 2 (some (cw x))) st= .nx [some C,some (.ref d),some (cw x)] st'/\cP d st st'/\st'[d]? =some (.bu (up kvs x)):=by
 obtain⟨s1,e1,k1,h1⟩:=IE h hx hl
 have a0:cU (cw x) (.int 0) st= .ok (tI [x.1.1,x.1.2]) st:=rfl
 have a1:cU (cw x) (.int 1) st= .ok x.2 st:=rfl
 refine⟨s1,?_,k1,h1⟩
 unfold bY
 simp[a0,a1,e1]
theorem QU{d:Nat}{kvs:Ks}{st:Hs}(h:bX st[d]? =some kvs):u0 [.ref d] st= .ok (.int kvs.length) st:=by
 show(match bX st[d]? with | some kvs=>Re.ok (Wv.int kvs.length) st | none=>e7 [.ref d] st)=_
 rw[h]
theorem room{d:Nat}{kvs:Ks}{st:Hs}(h:st[d]? =some (.bu kvs))(c:kvs.length<=200):cX [.ref d] st= .ok (.ref d) st:=by
 have ln:=QU (d:=d) (kvs:=kvs) (st:=st) (by rw[h];rfl)
 have c':¬(200:Int) < (kvs.length:Nat):=by omega
 unfold cX bL k9
 simp[ln,c']
theorem vc{L:Nat}{cs:List Cl}{st:Hs}(hL:aq st L=some (cs.map cw))(hc:∀x∈cs,oT x)(hl:cs.length<=200):∃st',bf [.ref L] st= .ok (.ref st.length) st'/\Gr st st'/\st'[st.length]? =some (.bu (ups [] cs)):=by
 have lt:=sN hL
 have h1:aq (st++[.bu []]) L=some (cs.map cw):=DW hL
 obtain⟨ρ,s1,e1,⟨o2,rfl,k1,g1⟩,_⟩:=yE (f:=cw) (i:=2) (gb:=bY) (l:=L) (all:=cs.map cw) cs (λpre ρ s=>∃o2,ρ=[some (.ref L),some (.ref st.length),o2]/\cP st.length (st++[.bu []]) s/\s[st.length]? =some (.bu (ups [] pre)))
  (λa pre post ρ s hf hP hL'=>by
   obtain⟨o2,rfl,k1,g1⟩:=hP
   have hpre:∀x∈pre,oT x:=λx hx=>hc x (by rw[hf];exact nR _ hx)
   have ul:=fK [] hpre
   have pl:pre.length<=200:=by have:=congrArg b7 hf;simp at this;omega
   obtain⟨s2,e2,k2,h2⟩:=y7 (C:=.ref L) (o2:=o2) g1 (hc a (by rw[hf];simp)) (by simp at ul;omega)
   exact⟨_,s2,e2,k2.lst hL' (by omega),_,rfl,k1.trans k2,by rw[oU];exact h2⟩) cs [] [some (.ref L),some (.ref st.length),none] (st++[.bu []]) rfl ⟨none,rfl,cP.refl,bV⟩ h1
 have ul:=fK [] hc
 have rm:=room g1 (by simp at ul;omega)
 have e':kFor 2 bY [some (.ref L),some (.ref st.length),none] (.ref L) (st++[.bu []])= .nx [some (.ref L),some (.ref st.length),o2] s1:=by rw[Im h1];exact e1
 refine⟨s1,?_,Gr.push.sO (ao _) k1,g1⟩
 unfold bf bL gO
 simp[hZ,e',rm]
theorem IF{cs:List Cl}{st:Hs}(hc:∀x∈cs,oT x)(hl:cs.length<=200):∃st',bf [.tup (cs.map cw)] st= .ok (.ref st.length) st'/\Gr st st'/\st'[st.length]? =some (.bu (ups [] cs)):=by
 obtain⟨ρ,s1,e1,o2,rfl,k1,g1⟩:=sP (f:=cw) (i:=2) (gb:=bY) cs (λpre ρ s=>∃o2,ρ=[some (.tup (cs.map cw)),some (.ref st.length),o2]/\cP st.length (st++[.bu []]) s/\s[st.length]? =some (.bu (ups [] pre)))
  (λa pre post ρ s hf hP=>by
   obtain⟨o2,rfl,k1,g1⟩:=hP
   have hpre:∀x∈pre,oT x:=λx hx=>hc x (by rw[hf];exact nR _ hx)
   have ul:=fK [] hpre
   have pl:pre.length<=200:=by have:=congrArg b7 hf;simp at this;omega
   obtain⟨s2,e2,k2,h2⟩:=y7 (C:=.tup (cs.map cw)) (o2:=o2) g1 (hc a (by rw[hf];simp)) (by simp at ul;omega)
   exact⟨_,s2,e2,_,rfl,k1.trans k2,by rw[oU];exact h2⟩) cs [] [some (.tup (cs.map cw)),some (.ref st.length),none] (st++[.bu []]) rfl ⟨none,rfl,cP.refl,bV⟩
 have ul:=fK [] hc
 have rm:=room g1 (by simp at ul;omega)
 refine⟨s1,?_,Gr.push.sO (ao _) k1,g1⟩
 unfold bf bL gO
 simp[hZ,e1,rm]
def oX(cs:List Cl):Ks:=cs.map λx=>(e_ x.1,x.2)
theorem ve:∀cs:List Cl,eK (oX cs)=some (cs.map cw)
 | []=>rfl
 | x::r=>by
  have ih:=ve r
  unfold oX at ih ⊢
  rw[aB,aB]
  unfold eK
  rw[ih]
  rfl
theorem QV{d e t:Nat}{o3 o4:Option Wv}{x:Cl}{kvs:Ks}{st:Hs}(h:st[t]? =some (.bu kvs))(hx:oT x)(hl:kvs.length < 1000):∃st',cg [some (.ref d),some (.ref e),some (.ref t),some (tI [x.1.1,x.1.2]),some x.2] st= .nx [some (.ref d),some (.ref e),some (.ref t),some (tI [x.1.1,x.1.2]),some x.2] st'/\cP t st st'/\st'[t]? =some (.bu (up kvs x)):=by
 obtain⟨s1,e1,k1,h1⟩:=IE h hx hl
 refine⟨s1,?_,k1,h1⟩
 unfold cg
 simp[e1]
theorem MX{d e t:Nat}:∀(cs:List Cl)(kvs:Ks)(o3 o4:Option Wv)(st:Hs),(∀x∈cs,oT x)->st[t]? =some (.bu kvs)->kvs.length+cs.length<=900->
  ∃MR Y9 st',qp [3,4] cg none (cs.map cw) [some (.ref d),some (.ref e),some (.ref t),o3,o4] st= .nx [some (.ref d),some (.ref e),some (.ref t),MR,Y9] st'/\cP t st st'/\st'[t]? =some (.bu (ups kvs cs))
 | [],kvs,o3,o4,st,_,h,_=>⟨o3,o4,st,rfl,cP.refl,h⟩
 | x::r,kvs,o3,o4,st,hc,h,hl=>by
  have hl':kvs.length+(r.length+1)<=900:=hl
  obtain⟨s1,e1,k1,h1⟩:=QV (d:=d) (e:=e) (o3:=o3) (o4:=o4) h (hc x aQ) (by omega)
  have ul:=ID (kvs:=kvs) (hc x aQ)
  obtain⟨MR,Y9,s2,e2,k2,h2⟩:=MX (d:=d) (e:=e) r (up kvs x) (some (tI [x.1.1,x.1.2])) (some x.2) s1 (λy hy=>hc y (aI _ hy)) h1 (by omega)
  refine⟨MR,Y9,s2,?_,k1.trans k2,h2⟩
  rw[aB,qp]
  have bd:RN [3,4] (cw x) [some (.ref d),some (.ref e),some (.ref t),o3,o4]=some [some (.ref d),some (.ref e),some (.ref t),some (tI [x.1.1,x.1.2]),some x.2]:=rfl
  rw[bd]
  dsimp only
  rw[e1]
  dsimp only
  rw[if_pos (show Ee none s1 from trivial)]
  exact e2
theorem LZ{d e t:Nat}{es:Ks}{ws:List Wv}{gb:GS}{s:Hs}(he:s[e]? =some (.bu es))(hi:eK es=some ws) :
  jA 1 (sj [3,4] (jQ (af 1)) gb) [some (.ref d),some (.ref e),some (.ref t),none,none] s=(match qp [3,4] gb none ws [some (.ref d),some (.ref e),some (.ref t),none,none] (s.set e (.fW es)) with | .nx ρ' st'=> .nx ρ' (jz e st') | r=>r):=by
 have i1:Aa (.ref e) s= .ok (none,ws) (s.set e (.fW es)):=by
  show(match s[e]? with
   | some (.bu kvs)=>(match eK kvs with | some ws=>Re.ok ((none,ws):V') (s.set e (.fW kvs)) | none=> .bad)
   | some (.fW kvs)=>(match eK kvs with | some ws=> .ok (none,ws) s | none=> .bad)
   | _=> .bad)=_
  rw[he]
  dsimp only
  rw[hi]
 have g1:jQ (af 1) [some (.ref d),some (.ref e),some (.ref t),none,none] s= .ok (none,ws) (s.set e (.fW es)):=by
  unfold jQ
  simp[i1]
 have o1:mF ([some (Wv.ref d),some (.ref e),some (.ref t),none,none]:bD)[1]? s=some e:=by
  show(match s[e]? with | some (.bu _)=>some e | _=>none)=_
  rw[he]
 unfold jA
 rw[o1]
 dsimp only
 unfold sj
 rw[g1]
 rfl
theorem changed{d e:Nat}{kvs:Ks}{cs:List Cl}{st:Hs}(hd:bX st[d]? =some kvs)(he:st[e]? =some (.bu (oX cs)))(hk:jP (kvs.map (·.1))=true)(hc:∀x∈cs,oT x)(hl:kvs.length+cs.length<=900) :
  ∃st',de [.ref d,.ref e] st= .ok (.ref st.length) st'/\Gr st st'/\st'[st.length]? =some (.bu (ups kvs cs)):=by
 have lt:=bM he
 have en:e≠st.length:=by omega
 have dc:=wR hd hk
 have WE:(st++[.bu kvs])[e]? =some (.bu (oX cs)):=fM he
 have ht1:(st++[.bu kvs])[st.length]? =some (.bu kvs):=bV
 have g1:Gr st (st++[.bu kvs]):=Gr.push
 generalize st++[.bu kvs]=s1 at dc WE ht1 g1
 have th:=LZ (d:=d) (t:=st.length) (gb:=cg) WE (ve cs)
 have ht2:(s1.set e (.fW (oX cs)))[st.length]? =some (.bu kvs):=by rw[bw en];exact ht1
 obtain⟨o3,o4,s2,f,k2,h2⟩:=MX (d:=d) (e:=e) (t:=st.length) cs kvs none none _ hc ht2 hl
 rw[f] at th
 dsimp only at th
 have fz:s2[e]? =some (.fW (oX cs)):=by rw[k2.2 e (by simpa using bM WE) en];exact b9 WE
 have tw:jz e s2=s2.set e (.bu (oX cs)):=by unfold jz;rw[fz]
 rw[tw] at th
 have l1:st.length<=s1.length:=g1.1
 have l2:s1.length<=s2.length:=by simpa using k2.1
 refine⟨s2.set e (.bu (oX cs)),?_,⟨by simp;omega,λj hj=>?_⟩,?_⟩
 rotate_left
 ·by_cases q:j=e
  ·subst q
   rw[b9 fz,he]
  ·rw[bw (λz=>q z.symm),k2.2 j (by simp;omega) (by omega),bw (λz=>q z.symm)]
   exact g1.2 j hj
 ·rw[bw en]
  exact h2
 ·unfold de bL iB
  simp[dc,th]
theorem tJ{d e:Nat}{kvs:Ks}{cs:List Cl}{st:Hs}(hd:bX st[d]? =some kvs)(he:st[e]? =some (.bu (oX cs)))(hk:jP (kvs.map (·.1))=true)(hc:∀x∈cs,oT x)(hl:kvs.length+cs.length<=200) :
  ∃st',dj [.ref d,.ref e] st= .ok (.ref st.length) st'/\Gr st st'/\st'[st.length]? =some (.bu (ups kvs cs)):=by
 obtain⟨s1,e1,g1,h1⟩:=changed hd he hk hc (by omega)
 have rm:=room h1 (ba (fK kvs hc) hl)
 refine⟨s1,?_,g1,h1⟩
 unfold dj bL kh
 simp[e1,rm]
theorem Cd{kvs:Ks}{k k':List L2.Key}{v:Wv}:aN (dW kvs k v) k'=if k=k' then some v else aN kvs k':=by
 unfold dW
 by_cases h:(kvs.any λkv=>decide (kv.1=k))=true
 ·rw[if_pos h]
  induction kvs with
  | nil=>cases h
  | cons p r ih=>
   rw[aB]
   by_cases e:p.1=k
   ·rw[if_pos e]
    by_cases c:k=k'
    ·unfold aN
     rw[if_pos (by rw[e];exact c),if_pos c]
    ·have c2:¬p.1=k':=by rw[e];exact c
     unfold aN
     rw[if_neg (by exact c2),if_neg c,if_neg c2]
     by_cases hr:(r.any λkv=>decide (kv.1=k))=true
     ·rw[ih hr,if_neg c]
     ·congr 1
      refine(List.map_congr_left (g:=id) λq hq=>?_).trans (List.map_id _)
      rw[if_neg]
      ·rfl
      ·intro z
       exact hr (List.any_eq_true.mpr ⟨q,hq,decide_eq_true z⟩)
   ·rw[if_neg e]
    have hr:(r.any λkv=>decide (kv.1=k))=true:=by
     rw[fU,decide_eq_false e,Bool.false_or] at h
     exact h
    unfold aN
    by_cases c2:p.1=k'
    ·rw[if_pos c2,if_pos c2,if_neg (λz=>e (by rw[c2,z]))]
    ·rw[if_neg c2,if_neg c2]
     exact ih hr
 ·rw[if_neg h]
  have no:aN kvs k=none:=by
   cases q:aN kvs k with
   | none=>rfl
   | some w=>exact absurd (List.any_eq_true.mpr ⟨_,eL q,decide_eq_true rfl⟩) h
  induction kvs with
  | nil=>
   show aN [(k,v)] k'=_
   unfold aN
   rfl
  | cons p r ih=>
   have e:¬p.1=k:=λz=>by unfold aN at no;rw[if_pos z] at no;cases no
   have no':aN r k=none:=by unfold aN at no;rw[if_neg e] at no;exact no
   rw[List.cons_append]
   unfold aN
   by_cases c2:p.1=k'
   ·rw[if_pos c2,if_pos c2,if_neg (λz=>e (by rw[c2,z]))]
   ·rw[if_neg c2,if_neg c2]
    refine ih ?_ no'
    intro z
    exact h (by rw[fU,z,Bool.or_true])
theorem IG{kvs:Ks}{k k':List L2.Key}:aN (gj kvs k) k'=if k=k' then none else aN kvs k':=by
 unfold gj
 induction kvs with
 | nil=>split<;>rfl
 | cons p r ih=>
  rw[fV]
  by_cases e:p.1=k
  ·rw[if_neg (by simp[e]),ih]
   by_cases c:k=k'
   ·rw[if_pos c,if_pos c]
   ·rw[if_neg c,if_neg c]
    unfold aN
    rw[if_neg (by rw[e];exact c)]
    cases r<;>rfl
  ·rw[if_pos (by simp[e])]
   unfold aN
   by_cases c2:p.1=k'
   ·rw[if_pos c2,if_pos c2,if_neg (λz=>e (by rw[c2,z]))]
   ·rw[if_neg c2,if_neg c2]
    exact ih
def nz:Wv->Option Wv
 | .aZ=>none
 | v=>some v
theorem IH{v:Wv}(h:Cn v):nz v=some v:=by
 rcases h with ⟨i,rfl,_⟩ | ⟨x,rfl,_⟩ | ⟨f,rfl,_⟩<;>rfl
theorem tK{kvs:Ks}{x:Cl}(h:oT x)(k:List L2.Key):aN (up kvs x) k=if e_ x.1=k then nz x.2 else aN kvs k:=by
 obtain⟨p,v⟩:=x
 rcases h.2 with z | z
 ·have z:v= .aZ:=z
  subst z
  rw[AH,IG]
  rfl
 ·rw[y6 z,Cd]
  dsimp only
  rw[IH z]
def Jf(A B:Ks):Prop:=∀k,aN A k=aN B k
theorem Jf.ups{A B:Ks}:∀{cs:List Cl},(∀x∈cs,oT x)->Jf A B->Jf (ups A cs) (ups B cs)
 | [],_,h=>h
 | x::r,hc,h=>Jf.ups (A:=up A x) (B:=up B x) (cs:=r) (λy hy=>hc y (aI _ hy)) λk=>by
  rw[tK (hc x aQ),tK (hc x aQ),h k]
def nK(kvs:Ks)(ps:List Pt):Prop:=kvs.map (·.1)=ps.map e_/\ps.Nodup/\(∀p∈ps,kz p.1 p.2)/\∀kv∈kvs,kv.2= .aZ\/Cn kv.2
theorem rj{p q:Pt}(h:e_ p=e_ q):p=q:=vx (AD h).1 (AD h).2
open Classical in
theorem y8{kvs:Ks}{k:List L2.Key}{v:Wv}:(dW kvs k v).map (·.1)=if k∈kvs.map (·.1) then kvs.map (·.1) else kvs.map (·.1)++[k]:=by
 unfold dW
 by_cases h:(kvs.any λkv=>decide (kv.1=k))=true
 ·rw[if_pos h]
  obtain⟨p,hp,e⟩:=List.any_eq_true.mp h
  rw[if_pos (List.mem_map.mpr ⟨p,hp,of_decide_eq_true e⟩),iM]
  refine List.map_congr_left λq _=>?_
  show(if q.1=k then(q.1,v) else q).1=q.1
  split<;>rfl
 ·rw[if_neg h,if_neg,gR]
  ·rfl
  ·intro z
   obtain⟨p,hp,e⟩:=List.mem_map.mp z
   exact h (List.any_eq_true.mpr ⟨p,hp,decide_eq_true e⟩)
theorem II{kvs:Ks}{k:List L2.Key}{v:Wv}{kv:List L2.Key×Wv}(h:kv∈dW kvs k v):kv.2=v\/kv∈kvs:=by
 unfold dW at h
 split at h
 ·obtain⟨q,hq,rfl⟩:=List.mem_map.mp h
  by_cases c:q.1=k
  ·rw[if_pos c];exact .inl rfl
  ·rw[if_neg c];exact .inr hq
 ·rcases List.mem_append.mp h with z | z
  ·exact .inr z
  ·rw[List.mem_singleton.mp z];exact .inl rfl
theorem nK.put{kvs:Ks}{ps:List Pt}{p:Pt}{v:Wv}(h:nK kvs ps)(hp:kz p.1 p.2)(hv:v= .aZ\/Cn v):∃qs,nK (dW kvs (e_ p) v) qs:=by
 obtain⟨h1,h2,h3,h4⟩:=h
 have hv':∀kv∈dW kvs (e_ p) v,kv.2= .aZ\/Cn kv.2:=λkv hk=>by
  rcases II hk with z | z
  ·rw[z];exact hv
  ·exact h4 kv z
 by_cases c:e_ p∈kvs.map (·.1)
 ·exact⟨ps,by rw[y8,if_pos c];exact h1,h2,h3,hv'⟩
 ·refine⟨ps++[p],by rw[y8,if_neg c,h1,gR];rfl,?_,?_,hv'⟩
  ·rw[Cb]
   refine⟨h2,by simp,λx hx y hy=>?_⟩
   rw[List.mem_singleton.mp hy]
   intro z
   exact c (by rw[h1];exact List.mem_map.mpr ⟨x,hx,by rw[z]⟩)
  ·intro q hq
   rcases List.mem_append.mp hq with z | z
   ·exact h3 q z
   ·rw[List.mem_singleton.mp z];exact hp
theorem nK.drop{kvs:Ks}{ps:List Pt}{p:Pt}(h:nK kvs ps):∃qs,nK (gj kvs (e_ p)) qs:=by
 obtain⟨h1,h2,h3,h4⟩:=h
 refine⟨ps.filter λq=>decide (q≠p),?_,h2.sublist List.filter_sublist,λq hq=>h3 q (List.mem_filter.mp hq).1,λkv hk=>h4 kv (List.mem_filter.mp hk).1⟩
 clear h2 h3 h4
 unfold gj
 induction kvs generalizing ps with
 | nil=>cases ps with
  | nil=>rfl
  | cons q r=>cases h1
 | cons x r ih=>cases ps with
  | nil=>cases h1
  | cons q t=>
   rw[aB,aB] at h1
   injection h1 with a1 a2
   rw[fV,fV]
   by_cases c:q=p
   ·rw[if_neg (by simp[a1,c]),if_neg (by simp[c])]
    exact ih a2
   ·have:¬x.1=e_ p:=λz=>c (rj (by rw[<-a1];exact z))
    rw[if_pos (by simp[this]),if_pos (by simp[c]),aB,aB,ih a2,a1]
theorem nK.ups{kvs:Ks}{ps:List Pt}(h:nK kvs ps):∀{cs:List Cl},(∀x∈cs,oT x)->∃qs,nK (ups kvs cs) qs:=λ{cs}=>by
 induction cs generalizing kvs ps with
 | nil=>exact λ_=>⟨ps,h⟩
 | cons x r ih=>
  intro hc
  obtain⟨p,v⟩:=x
  have hx:=hc (p,v) aQ
  have:∃qs,nK (up kvs (p,v)) qs:=by
   rcases hx.2 with z | z
   ·have z:v= .aZ:=z
    subst z
    exact h.drop
   ·rw[y6 z]
    exact h.put hx.1 (.inr z)
  obtain⟨qs,hq⟩:=this
  exact ih hq λy hy=>hc y (aI _ hy)
theorem nK.hash{kvs:Ks}{ps:List Pt}(h:nK kvs ps):jP (kvs.map (·.1))=true:=QN h.1 h.2.1 h.2.2.1
theorem nK.dat{kvs:Ks}{ps:List Pt}(h:nK kvs ps):∀kv∈kvs,∃d:PyData,(∀st:Hs,aM st 20 kv.2=some d)/\aT d d=true:=λkv hk=>U0 (h.2.2.2 kv hk)
theorem L0{kvs:Ks}{k:List L2.Key}:(aN kvs k).isSome=true↔k∈kvs.map (·.1):=by
 constructor
 ·intro h
  obtain⟨v,e⟩:=Option.isSome_iff_exists.mp h
  exact List.mem_map.mpr ⟨_,eL e,rfl⟩
 ·intro h
  obtain⟨v,e⟩:=fo h
  rw[e]
  rfl
theorem Jf.perm{A B:Ks}{ps qs:List Pt}(h:Jf A B)(ha:nK A ps)(hb:nK B qs):ps.Perm qs:=by
 refine(List.perm_ext_iff_of_nodup ha.2.1 hb.2.1).mpr λp=>?_
 have e:∀{kvs:Ks}{ps:List Pt},nK kvs ps->(p∈ps↔(aN kvs (e_ p)).isSome=true):=λ{kvs ps} h=>by
  rw[L0,h.1]
  exact⟨λz=>List.mem_map.mpr ⟨p,z,rfl⟩,λz=>by obtain⟨q,hq,e⟩:=List.mem_map.mp z;exact rj e ▸ hq⟩
 rw[e ha,e hb,h]
theorem qd{A B:Ks}{ps qs:List Pt}{l k:Nat}{st:Hs}(h:Jf A B)(ha:nK A ps)(hb:nK B qs)(h1:bX st[l]? =some A)(h2:bX st[k]? =some B):qB (.ref l) (.ref k) st= .ok (.bl true) st/\mY (.ref l) (.ref k) st= .ok (.bl false) st:=by
 have dA:=(same_self (st:=st) ha.dat).1
 have dB:=(same_self (st:=st) hb.dat).1
 have len:A.length=B.length:=by
  have e1:=congrArg b7 ha.1
  have e2:=congrArg b7 hb.1
  have:=(h.perm ha hb).length_eq
  simp at e1 e2
  omega
 have sm:mG st A B=true:=by
  unfold mG
  rw[decide_eq_true len,Ab,m7]
  intro k hk
  obtain⟨v,e⟩:=fo hk
  obtain⟨d,d1,d2⟩:=ha.dat _ (eL e)
  unfold Lc
  rw[<-h k,e]
  dsimp only
  rw[d1]
  simpa using d2
 have d1:pN st (.ref l)=some A:=h1
 have d2:pN st (.ref k)=some B:=h2
 unfold qB mY
 rw[d1,d2]
 dsimp only
 rw[if_pos ⟨dA,dB⟩,if_pos ⟨dA,dB⟩,sm]
 exact⟨rfl,rfl⟩
theorem IJ{l:Nat}{kvs:Ks}{a b:Int}{v:Wv}{st:Hs}(h:bX st[l]? =some kvs)(e:aN kvs (ky a b)=some v):Pw (.ref l) (tI [a,b]) st= .ok v st:=by
 have hk:iH (tI [a,b])=some (ky a b):=rfl
 unfold Pw getD
 unfold bX at h
 split at h
 ·rename_i k' q
  cases h
  dsimp only
  rw[q,hk]
  dsimp only
  rw[e]
 ·rename_i k' q
  cases h
  dsimp only
  rw[q,hk]
  dsimp only
  rw[e]
 ·cases h
def tp(kvs:Ks)(p:Pt):Bool:=UX ((aN kvs (e_ p)).getD .aZ)
theorem wV:∀ps:List Pt,cW (ps.map e_)=some (ps.map pw)
 | []=>rfl
 | p::r=>by
  rw[aB,aB]
  unfold cW
  rw[wV r]
  rfl
theorem Ce:∀ps:List Pt,mH (ps.map e_)=some ps
 | []=>rfl
 | p::r=>by
  rw[aB]
  show(match mH (r.map e_) with | some l=>some ((p.1,p.2)::l) | none=>none)=_
  rw[Ce r]
theorem D5{d:Nat}{kvs:Ks}{o:Ob}{st:Hs}(h:st[d]? =some (.bu kvs)):jz d (st.set d (.fW kvs)++[o])=st++[o]:=by
 have lt:=bM h
 have e:(st.set d (.fW kvs)++[o])[d]? =some (.fW kvs):=fM (b9 h)
 unfold jz
 rw[e]
 dsimp only
 rw[List.set_append_left _ _ (by simpa using lt),List.set_set,set_same h]
def tW(kvs:Ks):Wv->Bool
 | .tup [.int a,.int b]=>tp kvs (a,b)
 | _=>false
theorem Cf{kvs:Ks}{ps:List Pt}:((ps.map pw).filter (tW kvs)).map id=(ps.filter (tp kvs)).map pw:=by
 rw[List.map_id,List.filter_map]
 rfl
theorem tL{d:Nat}{kvs:Ks}{ps:List Pt}{st:Hs}(h:st[d]? =some (.bu kvs))(hk:nK kvs ps)(hC:∀k v,aN kvs k=some v->Cn v)(hl:ps.length < 64) :
  ∃(l:Nat)(st':Hs),cG [.ref d] st= .ok (.ref l) st'/\Gr st st'/\aq st' l=some ((cV (ps.filter (tp kvs))).map pw)/\st'[l]? =some (.lst ((cV (ps.filter (tp kvs))).map pw))/\st.length<=l:=by
 have kw:ye (.ref d) st= .ok (none,ps.map pw) (st.set d (.fW kvs)):=by
  show(match st[d]? with
   | some (.bu kvs)=>(match cW (oV (λx:List L2.Key×Wv=>x.1) kvs) with | some ws=>Re.ok ((none,ws):Wk) (st.set d (.fW kvs)) | none=> .bad)
   | some (.fW kvs)=>(match cW (oV (λx:List L2.Key×Wv=>x.1) kvs) with | some ws=> .ok (none,ws) st | none=> .bad)
   | _=> .bad)=_
  rw[h]
  dsimp only
  rw[hk.1,wV]
 have o1:mF ([some (Wv.ref d)]:bD)[0]? st=some d:=by
  show(match st[d]? with | some (.bu _)=>some d | _=>none)=_
  rw[h]
 have hf:∀(acc:List Wv),bX (st.set d (.fW kvs)++[.lst acc])[d]? =some kvs:=λacc=>by rw[fM (b9 h)];rfl
 have cp:=pQ (cs:=[("sheet",0)]) (gt:=bG) (ge:=cq) (ρ:=[some (.ref d)]) (w:=(none,ps.map pw)) (st:=st.set d (.fW kvs)) (t:=tW kvs) (f:=id) trivial
  (λv hv acc=>by
   obtain⟨p,_,rfl⟩:=List.mem_map.mp hv
   have e:=yY (p:=p.1) (q:=p.2) (hf acc) (hC _)
   have e':cR [.ref d,pw p] (st.set d (.fW kvs)++[.lst acc])= .ok (.bl (tW kvs (pw p))) (st.set d (.fW kvs)++[.lst acc]):=e
   generalize tW kvs (pw p)=b at e' ⊢
   unfold bG
   simp[gE,e'])
  (λv hv _ acc=>rfl) (by rw[bb];unfold lim;omega)
 rw[show((none,ps.map pw):Wk).2=ps.map pw from rfl,Cf] at cp
 have te:jO 0 (hI [("sheet",0)] (kQ (af 0)) bG cq) [some (.ref d)] st= .ok (.ref st.length) (st++[.lst ((ps.filter (tp kvs)).map pw)]):=by
  have gk:hI [("sheet",0)] (kQ (af 0)) bG cq [some (.ref d)] st= .ok (.ref st.length) (st.set d (.fW kvs)++[.lst ((ps.filter (tp kvs)).map pw)]):=by
   rw[List.length_set] at cp
   simp[kQ,kw,cp]
  unfold jO
  rw[o1]
  dsimp only
  rw[gk]
  dsimp only
  rw[D5 h]
 have l1:aq (st++[.lst ((ps.filter (tp kvs)).map pw)]) st.length=some ((ps.filter (tp kvs)).map pw):=cQ
 have g1:Gr st (st++[.lst ((ps.filter (tp kvs)).map pw)]):=Gr.push
 have n1:bX (st++[.lst ((ps.filter (tp kvs)).map pw)])[st.length]? =none:=by rw[bV];rfl
 have z1:st.length < (st++[Ob.lst ((ps.filter (tp kvs)).map pw)]).length:=by simp
 generalize st++[.lst ((ps.filter (tp kvs)).map pw)]=s1 at te l1 g1 n1 z1
 have sr:oH [.ref st.length] s1= .ok (.ref s1.length) (s1++[.lst ((cV (ps.filter (tp kvs))).map pw)]):=by
  show(match bX s1[st.length]? with
   | some kvs=>(match mH (oV (λx:List L2.Key×Wv=>x.1) kvs) with | some ps=>if ps.length < 64 then Re.ok (Wv.ref s1.length) (s1++[Ob.lst ((cV ps).map pw)]) else .bad | none=> .bad)
   | none=>jw [.ref st.length] s1)=_
  rw[n1]
  exact UL l1 (Nat.lt_of_le_of_lt (vH _ _) hl)
 refine⟨s1.length,_,?_,g1.trans Gr.push,cQ,bV,by omega⟩
 unfold cG bL fk
 simp[te,sr]
theorem filled{u:Nat}{kvs:Ks}{ps:List Pt}{ρ:bD}{st:Hs}(hρ:ρ[9]? =some (some (.ref u)))(h:st[u]? =some (.bu kvs))(hk:nK kvs ps)(hC:∀k v,aN kvs k=some v->Cn v)(hl:ps.length < 64) :
  ∃(l:Nat)(st':Hs),hI [("due",9)] (hJ (aL oH (ae (af 9) aj))) mv p_ ρ st= .ok (.ref l) st'/\Gr st st'/\aq st' l=some (((cV ps).filter (tp kvs)).map pw):=by
 have dw:bX st[u]? =some kvs:=by rw[h];rfl
 have sr:oH [.ref u] st= .ok (.ref st.length) (st++[.lst ((cV ps).map pw)]):=by
  show(match bX st[u]? with
   | some kvs=>(match mH (oV (λx:List L2.Key×Wv=>x.1) kvs) with | some ps=>if ps.length < 64 then Re.ok (Wv.ref st.length) (st++[Ob.lst ((cV ps).map pw)]) else .bad | none=> .bad)
   | none=>jw [.ref u] st)=_
  rw[dw]
  dsimp only
  rw[hk.1,Ce]
  dsimp only
  rw[if_pos hl]
 have l1:aq (st++[.lst ((cV ps).map pw)]) st.length=some ((cV ps).map pw):=cQ
 have g1:Gr st (st++[.lst ((cV ps).map pw)]):=Gr.push
 have h1:(st++[.lst ((cV ps).map pw)])[u]? =some (.bu kvs):=fM h
 generalize st++[.lst ((cV ps).map pw)]=s1 at sr l1 g1 h1
 have pm:=fe ps
 have cp:=pQ (cs:=[("due",9)]) (gt:=mv) (ge:=p_) (ρ:=ρ) (w:=(some st.length,(cV ps).map pw)) (st:=s1) (t:=tW kvs) (f:=id) l1
  (λv hv acc=>by
   obtain⟨p,hp,rfl⟩:=List.mem_map.mp hv
   have VY:e_ p∈kvs.map (·.1):=by rw[hk.1];exact List.mem_map.mpr ⟨p,pm.mem_iff.mp hp,rfl⟩
   obtain⟨w,ew⟩:=fo VY
   have dw1:bX (s1++[.lst acc])[u]? =some kvs:=by rw[fM h1];rfl
   have ix:Pw (.ref u) (pw p) (s1++[.lst acc])= .ok w (s1++[.lst acc]):=IJ (a:=p.1) (b:=p.2) dw1 ew
   have is:tY jC ff [w,.ty "tuple"] (s1++[.lst acc])= .ok (.bl (tW kvs (pw p))) (s1++[.lst acc]):=by
    have e:tW kvs (pw p)=UX w:=by show UX ((aN kvs (e_ p)).getD .aZ)=_;rw[ew];rfl
    rw[e]
    rcases hC _ w ew with ⟨i,rfl,_⟩ | ⟨x,rfl,_⟩ | ⟨f,rfl,_⟩<;>rfl
   unfold mv
   simp[gE,hρ,f',ix,is])
  (λv hv _ acc=>rfl) (by rw[show((some st.length,(cV ps).map pw):Wk).2=(cV ps).map pw from rfl,bb,pm.length_eq];unfold lim;omega)
 rw[show((some st.length,(cV ps).map pw):Wk).2=(cV ps).map pw from rfl,Cf] at cp
 refine⟨s1.length,_,?_,g1.trans Gr.push,cQ⟩
 have sq:=Io l1
 have gv:af 9 ρ st= .ok (.ref u) st:=by unfold af;rw[hρ]
 simp[hρ,sr,sq,cp]
theorem y9{A B:Ks}{ps qs:List Pt}(h:Jf A B)(ha:nK A ps)(hb:nK B qs):cV (ps.filter (tp A))=(cV qs).filter (tp B):=by
 have e:tp A=tp B:=by funext p;unfold tp;rw[h]
 refine r_ ?_ (oF _) ((oF qs).sublist List.filter_sublist)
 rw[e]
 exact(fe _).trans (((h.perm ha hb).filter _).trans ((fe qs).symm.filter _))
theorem tM{n:Nat}:∀{ws:List Wv},(∀w∈ws,∃d:PyData,(∀st:Hs,aM st n w=some d)/\aT d d=true)->∃ds:List PyData,(∀st:Hs,fL (aM st n) ws=some ds)/\gQ ds ds=true
 | [],_=>⟨[],λ_=>rfl,by simp[gQ]⟩
 | w::r,h=>by
  obtain⟨d,d1,d2⟩:=h w aQ
  obtain⟨ds,e1,e2⟩:=tM (ws:=r) λv hv=>h v (aI _ hv)
  refine⟨d::ds,λst=>?_,by simp[gQ,d2,e2]⟩
  unfold fL
  rw[d1,e1]
theorem y_{l k:Nat}{ws:List Wv}{st:Hs}(h1:aq st l=some ws)(h2:aq st k=some ws)(h:∀w∈ws,∃d:PyData,(∀st:Hs,aM st 19 w=some d)/\aT d d=true):zc (.ref l) (.ref k) st= .ok (.bl false) st:=by
 obtain⟨ds,e1,e2⟩:=tM h
 refine QA (d:=.list ds) ?_ ?_ (by simpa [aT] using e2)
 ·rw[MO h1,e1];rfl
 ·rw[MO h2,e1];rfl
theorem QW{v:Wv}(h:v= .aZ\/Cn v):∃d:PyData,(∀st:Hs,aM st 18 v=some d)/\aT d d=true:=by
 rcases h with rfl | ⟨i,rfl,_⟩ | ⟨x,rfl,_⟩ | ⟨f,rfl,h1,_,h2⟩
 ·exact⟨.none,λ_=>rfl,by simp[aT]⟩
 ·exact⟨.int i,λ_=>B_,BY⟩
 ·exact⟨.str x,λ_=>B9,BZ⟩
 ·exact dat f 17 h1 (by omega)
theorem QX{x:Cl}(h:oT x):∃d:PyData,(∀st:Hs,aM st 19 (cw x)=some d)/\aT d d=true:=by
 obtain⟨ds,e1,e2⟩:=tM (n:=18) (ws:=[tI [x.1.1,x.1.2],x.2]) (all2 (qc _ 17) (QW h.2))
 refine⟨.tuple ds,λst=>?_,by simpa [aT] using e2⟩
 show(fL (aM st 18) [tI [x.1.1,x.1.2],x.2]).map qP=_
 rw[e1]
 rfl
theorem QY(p:Pt):∃d:PyData,(∀st:Hs,aM st 19 (pw p)=some d)/\aT d d=true:=qc [p.1,p.2] 18
abbrev Rh(d r P:Nat)(A B:Int)(o5 o6 o7 o8 o9 jE kq kr ku kx:Option Wv):bD:=[some (.ref 0),some (tI [A,B]),some (.ref d),some (.ref r),some (.ref P),o5,o6,o7,o8,o9,jE,kq,kr,ku,kx]
def mn(kvs:Ks)(p:Pt):Cl:=(p,(aN kvs (e_ p)).getD .aZ)
theorem Y_{ws:List Wv}{v:Wv}:mZ ws 0 v=v::ws:=by unfold mZ Lf;simp
structure Wp(d r P:Nat)(kvs:Ks)(L:List Cl)(s:Hs):Prop where
 hd:s[d]? =some (.fW kvs)
 hr:Ro r s
 hp:s[P]? =some (.lst (L.map cw))
 n1:d≠r
 n2:d≠P
 n3:r≠P
theorem Wp.dw{d r P:Nat}{kvs:Ks}{L:List Cl}{s s':Hs}(w:Wp d r P kvs L s)(g:Dw r s s'):Wp d r P kvs L s' :=
 ⟨by rw[g.1.2 d (bM w.hd) w.n1];exact w.hd,g.2,by rw[g.1.2 P (bM w.hp) w.n3.symm];exact w.hp,w.n1,w.n2,w.n3⟩
theorem Wp.list{d r P:Nat}{kvs:Ks}{L L':List Cl}{s:Hs}(w:Wp d r P kvs L s):Wp d r P kvs L' (s.set P (.lst (L'.map cw))):=by
 obtain⟨v,e⟩:=w.hr
 exact⟨by rw[bw w.n2.symm];exact w.hd,⟨v,by rw[bw w.n3.symm];exact e⟩,b9 w.hp,w.n1,w.n2,w.n3⟩
theorem qK{a b:GS}{ρ ρ':bD}{st st':Hs}(h:a ρ st= .nx ρ' st'):aH a b ρ st=b ρ' st':=by rw[Uw,h];rfl
theorem U3:Ae 0=true:=by decide+kernel
theorem L2'{d r P:Nat}{A B:Int}{kvs:Ks}{L:List Cl}{p:Pt}{o6 o7 o8 o9 jE kq kr ku kx:Option Wv}{s:Hs}(w:Wp d r P kvs L s)(hs:oR A B)(hp:e_ p∈kvs.map (·.1))(hok:kz p.1 p.2)(hl:L.length<=100) :
  ∃(R:List Cl)(s':Hs),fQ (Rh d r P A B (some (pw p)) o6 o7 o8 o9 jE kq kr ku kx) s= .nx (Rh d r P A B (some (pw p)) o6 o7 o8 o9 jE kq kr ku kx) s'/\Wp d r P kvs (R++L++[mn kvs p]) s'/\R.length<=1/\∀x∈R,x.1=p/\oT x:=by
 obtain⟨x,s1,e1,x0,x1,d1⟩:=dig (m:=3) w.hr (by decide) (by decide)
 have w1:=w.dw d1
 obtain⟨u,eu⟩:=fo hp
 have fin:∀(R:List Cl)(s3:Hs),Wp d r P kvs (R++L) s3->R.length<=1->hG (qk pE (af 4) (eh (ae (af 5) (ae (f' (af 2) (af 5)) aj)))) (Rh d r P A B (some (pw p)) o6 o7 o8 o9 jE kq kr ku kx) s3= .nx (Rh d r P A B (some (pw p)) o6 o7 o8 o9 jE kq kr ku kx) (s3.set P (.lst ((R++L++[mn kvs p]).map cw))):=λR s3 w3 hR=>by
  have km:=λga=>wx (mt:=pE) (ga:=ga) (ρ:=Rh d r P A B (some (pw p)) o6 o7 o8 o9 jE kq kr ku kx) (cL w3.hp)
  have ix:Pw (.ref d) (pw p) s3= .ok u s3:=IJ (a:=p.1) (b:=p.2) (by rw[w3.hd];rfl) eu
  have t2:tZ [pw p,u] s3= .ok (cw (mn kvs p)) s3:=by
   have:cw (mn kvs p)= .tup [pw p,u]:=by unfold mn;rw[eu];rfl
   rw[this];exact kS
  have ap:=BX (v:=cw (mn kvs p)) w3.hp (by rw[bb,cS];unfold lim;omega)
  rw[show((R++L++[mn kvs p]).map cw)=(R++L).map cw++[cw (mn kvs p)] from by rw[gR];rfl]
  simp[-kS,-gR,km,f',ix,t2,ap]
 by_cases c:x=0
 ·subst c
  obtain⟨v,s2,e2,hv,d2⟩:=content (k:=0) w1.hr hs (by decide)
  have w2:=w1.dw d2
  have xQ:aV [.ref r,tI [A,B],.int 0] s1= .ok v s2:=e2
  have ls:Lh s1[P]? =true:=by rw[w1.hp];rfl
  have t2:tZ [pw p,v] s2= .ok (cw (p,v)) s2:=kS
  have iw:Lg P (.int 0) (cw (p,v)) s2= .ok .aZ (s2.set P (.lst (((p,v)::L).map cw))):=by
   unfold Lg
   rw[w2.hp]
   dsimp only
   rw[if_pos ⟨by rw[bb];unfold lim;omega,U3⟩,Y_]
   rfl
  have w3:Wp d r P kvs ([(p,v)]++L) (s2.set P (.lst (((p,v)::L).map cw))):=w2.list (L':=(p,v)::L)
  have f:=fin [(p,v)] _ w3 (ao _)
  refine⟨[(p,v)],_,?_,w3.list,ao _,λy hy=>?_⟩
  ·generalize (s2.set P (.lst (((p,v)::L).map cw)))=s3 at iw f
   unfold fQ
   refine(qK (ρ':=Rh d r P A B (some (pw p)) o6 o7 o8 o9 jE kq kr ku kx) (st':=s3) ?_).trans f
   simp[-kS,e1,Li,ls,xQ,t2,iw]
  ·rw[List.mem_singleton.mp hy]
   exact⟨rfl,hok,hv⟩
 ·have c':(x == 0)=false:=beq_false_of_ne c
  have f:=fin [] s1 w1 (by decide)
  refine⟨[],_,?_,w1.list,by decide,λy hy=>by cases hy⟩
  unfold fQ
  refine(qK (ρ':=Rh d r P A B (some (pw p)) o6 o7 o8 o9 jE kq kr ku kx) (st':=s1) ?_).trans f
  simp[e1,c']
theorem pairs{d r P:Nat}{A B:Int}{kvs:Ks}{ps:List Pt}{o6 o7 o8 o9 jE kq kr ku kx:Option Wv}{s:Hs}(w:Wp d r P kvs [] s)(hs:oR A B)(hk:nK kvs ps)(hl:ps.length<=12) :
  ∃(o5:Option Wv)(R:List Cl)(s':Hs),fc 5 fQ (ps.map pw) (Rh d r P A B none o6 o7 o8 o9 jE kq kr ku kx) s= .nx (Rh d r P A B o5 o6 o7 o8 o9 jE kq kr ku kx) s'/\Wp d r P kvs (R++ps.map (mn kvs)) s'/\R.length<=12/\∀x∈R,x.1∈ps/\oT x:=by
 obtain⟨ρ,s1,e1,o5,R,rfl,w1,lR,hR⟩:=sP (f:=pw) (i:=5) (gb:=fQ) ps (λpre ρ s=>∃o5 R,ρ=Rh d r P A B o5 o6 o7 o8 o9 jE kq kr ku kx/\Wp d r P kvs (R++pre.map (mn kvs)) s/\R.length<=pre.length/\∀x∈R,x.1∈ps/\oT x)
  (λp pre post ρ s hf hP=>by
   obtain⟨o5,R,rfl,w1,lR,hR⟩:=hP
   have hp:p∈ps:=by rw[hf];simp
   have pl:pre.length<=12:=by have:=congrArg b7 hf;simp at this;omega
   obtain⟨R',s2,e2,w2,l2,h2⟩:=L2' (o6:=o6) (o7:=o7) (o8:=o8) (o9:=o9) (jE:=jE) (kq:=kq) (kr:=kr) (ku:=ku) (kx:=kx) w1 hs (p:=p) (by rw[hk.1];exact List.mem_map.mpr ⟨p,hp,rfl⟩) (hk.2.2.1 p hp) (by simp;omega)
   refine⟨_,s2,e2,_,R'++R,rfl,by rw[gR,<-kF,kF R'];exact w2,by simp;omega,λx hx=>?_⟩
   rcases List.mem_append.mp hx with z | z
   ·exact⟨by rw[(h2 x z).1];exact hp,(h2 x z).2⟩
   ·exact hR x z) ps [] (Rh d r P A B none o6 o7 o8 o9 jE kq kr ku kx) s rfl ⟨none,[],rfl,w,ao _,λx hx=>by cases hx⟩
 exact⟨o5,R,s1,e1,w1,by omega,hR⟩
theorem Cg{kvs:Ks}{a b:List Cl}:ups kvs (a++b)=ups (ups kvs a) b:=by unfold ups;rw[List.foldl_append]
theorem mw{k:List L2.Key}:∀{cs:List Cl}{kvs:Ks},(∀x∈cs,oT x)->(∀x∈cs,e_ x.1≠k)->aN (ups kvs cs) k=aN kvs k
 | [],_,_,_=>rfl
 | x::r,kvs,h,n=>by
  show aN (ups (up kvs x) r) k=_
  rw[mw (λy hy=>h y (aI _ hy)) λy hy=>n y (aI _ hy),tK (h x aQ),if_neg (n x aQ)]
theorem MY{kvs:Ks}{ps:List Pt}(hk:nK kvs ps):∀x∈ps.map (mn kvs),oT x:=λx hx=>by
 obtain⟨p,hp,rfl⟩:=List.mem_map.mp hx
 refine⟨hk.2.2.1 p hp,?_⟩
 show(aN kvs (e_ p)).getD .aZ= .aZ\/Cn ((aN kvs (e_ p)).getD .aZ)
 cases e:aN kvs (e_ p) with
 | none=>exact .inl rfl
 | some v=>exact hk.2.2.2 _ (eL e)
theorem IK{kvs:Ks}{ps:List Pt}{R:List Cl}(hk:nK kvs ps)(hC:∀k v,aN kvs k=some v->Cn v)(hR:∀x∈R,x.1∈ps/\oT x):Jf (ups [] (R++ps.map (mn kvs))) kvs:=λk=>by
 have hm:=MY hk
 rw[Cg]
 by_cases c:k∈kvs.map (·.1)
 ·obtain⟨v,ev⟩:=fo c
  rw[hk.1] at c
  obtain⟨p,hp,rfl⟩:=List.mem_map.mp c
  obtain⟨a,b,hab⟩:=List.append_of_mem hp
  have nd:=hk.2.1
  rw[hab] at nd
  have nb:p∉b:=(List.nodup_cons.mp (List.nodup_append.mp nd).2.1).1
  rw[hab,gR,aB] at hm ⊢
  rw[Cg]
  show aN (ups (up (ups (ups [] R) (a.map (mn kvs))) (mn kvs p)) (b.map (mn kvs))) (e_ p)=_
  rw[mw (λx hx=>hm x (eB _ (aI _ hx))) (λx hx=>by
   obtain⟨q,hq,rfl⟩:=List.mem_map.mp hx
   intro z
   exact nb (rj z ▸ hq)),tK (hm _ (eB _ aQ)),if_pos (show e_ (mn kvs p).1=e_ p from rfl),ev]
  show nz ((aN kvs (e_ p)).getD .aZ)=_
  rw[ev]
  exact IH (hC _ v ev)
 ·have no:aN kvs k=none:=by
   cases e:aN kvs k with
   | none=>rfl
   | some v=>exact absurd (List.mem_map.mpr ⟨_,eL e,rfl⟩) c
  rw[hk.1] at c
  rw[mw hm (λx hx=>by
   obtain⟨q,hq,rfl⟩:=List.mem_map.mp hx
   intro z
   exact c (List.mem_map.mpr ⟨q,hq,z⟩)),mw (λx hx=>(hR x hx).2) (λx hx z=>c (List.mem_map.mpr ⟨x.1,(hR x hx).1,z⟩)),no]
  rfl
def K3(r c u:Nat)(s0 s:Hs):Prop:=s0.length<=s.length/\∀j,j < s0.length->j≠r->j≠c->j≠u->s[j]? =s0[j]?
theorem K3.refl{r c u:Nat}{s:Hs}:K3 r c u s s:=⟨ao _,λ_ _ _ _ _=>rfl⟩
theorem K3.trans{r c u:Nat}{a b d:Hs}(h:K3 r c u a b)(k:K3 r c u b d):K3 r c u a d:=⟨ba h.1 k.1,λj hj n1 n2 n3=>(k.2 j (bC hj h.1) n1 n2 n3).trans (h.2 j hj n1 n2 n3)⟩
theorem K3.dw{r c u:Nat}{s s':Hs}(h:Dw r s s'):K3 r c u s s':=⟨h.1.1,λj hj n1 _ _=>h.1.2 j hj n1⟩
theorem K3.setC{r c u:Nat}{s:Hs}{o:Ob}:K3 r c u s (s.set c o):=⟨by simp,λj _ _ n _=>bw (λz=>n z.symm)⟩
theorem K3.U4{r c u:Nat}{s:Hs}{o:Ob}:K3 r c u s (s.set u o):=⟨by simp,λj _ _ _ n=>bw (λz=>n z.symm)⟩
structure Wc(r c u:Nat)(kvs:Ks)(cs:List Cl)(s:Hs):Prop where
 hr:Ro r s
 hc:s[c]? =some (.bu (oX cs))
 hu:s[u]? =some (.bu (ups kvs cs))
 n1:r≠c
 n2:r≠u
 n3:c≠u
theorem Wc.dw{r c u:Nat}{kvs:Ks}{cs:List Cl}{s s':Hs}(w:Wc r c u kvs cs s)(g:Dw r s s'):Wc r c u kvs cs s' :=
 ⟨g.2,by rw[g.1.2 c (bM w.hc) w.n1.symm];exact w.hc,by rw[g.1.2 u (bM w.hu) w.n2.symm];exact w.hu,w.n1,w.n2,w.n3⟩
theorem IL{cs:List Cl}{p:Pt}{v:Wv}(h:p∉cs.map (·.1)):dW (oX cs) (e_ p) v=oX (cs++[(p,v)]):=by
 rw[Ca]
 ·unfold oX
  rw[gR]
  rfl
 ·unfold oX
  rw[iM]
  intro z
  obtain⟨x,hx,e⟩:=List.mem_map.mp z
  exact h (List.mem_map.mpr ⟨x,hx,rj e⟩)
theorem IM{r c u:Nat}{A B:Int}{kvs:Ks}{cs:List Cl}{p:Pt}{v:Wv}{d P:Nat}{o6 o7 jE kq kr ku kx:Option Wv}{s:Hs}(hr:Ro r s)(hc:s[c]? =some (.bu (dW (oX cs) (e_ p) v)))(hu:s[u]? =some (.bu (ups kvs cs)))(n1:r≠c)(n2:r≠u)(n3:c≠u)(hnew:p∉cs.map (·.1))(hv:v= .aZ\/Cn v)(hl:(ups kvs cs).length < 1000) :
  ∃s',iD (bz (ai jL (f' (af 8) (af 5)) (gC .aZ))) (jy (f' (af 8) (af 5)) (af 9) (af 5)) (iD (bz (ai (sE false) (af 5) (af 9))) (hG (u6 (af 9) (af 5))) bp) (Rh d r P A B (some (pw p)) o6 o7 (some (.ref c)) (some (.ref u)) jE kq kr ku kx) s= .nx (Rh d r P A B (some (pw p)) o6 o7 (some (.ref c)) (some (.ref u)) jE kq kr ku kx) s'/\Wc r c u kvs (cs++[(p,v)]) s'/\K3 r c u s s':=by
 have ix:Pw (.ref c) (pw p) s= .ok v s:=IJ (a:=p.1) (b:=p.2) (by rw[hc];rfl) (by show aN _ (e_ p)=_;rw[Cd,if_pos rfl])
 have hc':=hc
 rw[IL hnew] at hc'
 have U5:∀X:Ks,X=ups kvs (cs++[(p,v)])->Wc r c u kvs (cs++[(p,v)]) (s.set u (.bu X)):=λX hX=>by
  obtain⟨w,e⟩:=hr
  exact⟨⟨w,by rw[bw n2.symm];exact e⟩,by rw[bw n3.symm];exact hc',by rw[<-hX];exact b9 hu,n1,n2,n3⟩
 rcases hv with rfl | hv
 ·have q0:jL .aZ .aZ s= .ok (.bl false) s:=rfl
  have q1:sE false (pw p) (.ref u) s= .ok (.bl (aN (ups kvs cs) (e_ p)).isSome) s:=by
   have hk:iH (pw p)=some (e_ p):=rfl
   have dw:bX s[u]? =some (ups kvs cs):=by rw[hu];rfl
   show(match bX s[u]?,iH (pw p) with | some kvs,some k=>Re.ok (Wv.bl ((aN kvs k).isSome != false)) s | _,_=>wb false (pw p) (.ref u) s)=_
   rw[dw,hk]
   simp
  have eX:gj (ups kvs cs) (e_ p)=ups kvs (cs++[(p,.aZ)]):=by rw[oU];rfl
  cases e:aN (ups kvs cs) (e_ p) with
  | none=>
   rw[e] at q1
   have WD:sE false (pw p) (.ref u) s= .ok (.bl false) s:=q1
   refine⟨s,?_,?_,K3.refl⟩
   ·simp[f',ix,q0,WD]
   ·exact⟨hr,hc',by rw[<-eX,wU e];exact hu,n1,n2,n3⟩
  | some w=>
   rw[e] at q1
   have WD:sE false (pw p) (.ref u) s= .ok (.bl true) s:=q1
   have dv:DD s (.ref u)=true:=by show(bX s[u]?).isSome=true;rw[hu];rfl
   have pd:BE (.ref u) (pw p) s= .ok w (s.set u (.bu (gj (ups kvs cs) (e_ p)))):=by
    have hk:iH (pw p)=some (e_ p):=rfl
    unfold BE
    dsimp only
    rw[hu,hk]
    dsimp only
    rw[e]
   refine⟨_,?_,U5 _ eX,K3.U4⟩
   simp[f',ix,q0,WD,u6,dv,pd]
 ·have q0:=IB (st:=s) hv
  have pd:putD (.ref u) (pw p) v s=some (s.set u (.bu (dW (ups kvs cs) (e_ p) v))):=wO (a:=p.1) (b:=p.2) hu hl
  refine⟨_,?_,U5 _ (by rw[oU,y6 hv]),K3.U4⟩
  simp[f',ix,q0,jy,pd]
theorem L1'{r c u d P k:Nat}{A B:Int}{kvs:Ks}{cs:List Cl}{o5 o6 o7 kq kr ku kx:Option Wv}{s:Hs}(w:Wc r c u kvs cs s)(hs:oR A B)(hk:k < 12)(hok:∀x∈cs,oT x)(hcs:∀x∈cs,∃j,j < k/\x.1=gp A B j)(lk:kvs.length<=100)(lc:cs.length<=k) :
  ∃(rb:Option Wv)(cs':List Cl)(s':Hs),lA (Rh d r P A B o5 o6 o7 (some (.ref c)) (some (.ref u)) (some (.int (k:Nat))) kq kr ku kx) s= .nx (Rh d r P A B rb o6 o7 (some (.ref c)) (some (.ref u)) (some (.int (k:Nat))) kq kr ku kx) s'/\Wc r c u kvs (cs++cs') s'/\K3 r c u s s'/\cs'.length<=1/\∀x∈cs',x.1=gp A B k/\oT x:=by
 have f4:eE (.int k) (.int 4) s= .ok (.int ((k / 4:Nat):Int)) s:=by
  rw[m8 (by decide+kernel),QO _ (by decide)]
  rfl
 have m4:oMod (.int k) (.int 4) s= .ok (.int ((k % 4:Nat):Int)) s:=by
  rw[mK (by decide),QP _ (by decide)]
  rfl
 have pl:=MW hs hk
 have tg:tZ [.int (A+((k / 4:Nat):Int)),.int (B+((k % 4:Nat):Int))] s= .ok (pw (gp A B k)) s:=kS
 obtain⟨x,s1,e1,x0,x1,d1⟩:=dig (m:=3) w.hr (by decide) (by decide)
 have w1:=w.dw d1
 have a0:cU (tI [A,B]) (.int 0) s= .ok (.int A) s:=rfl
 have a1:cU (tI [A,B]) (.int 1) s= .ok (.int B) s:=rfl
 have h5:bB 5 (eh (ae (ai dt (ai cU (af 1) (gC (.int 0))) (ai eE (af 10) (gC (.int 4)))) (ae (ai dt (ai cU (af 1) (gC (.int 1))) (ai oMod (af 10) (gC (.int 4)))) aj))) (Rh d r P A B o5 o6 o7 (some (.ref c)) (some (.ref u)) (some (.int (k:Nat))) kq kr ku kx) s= .nx (Rh d r P A B (some (pw (gp A B k))) o6 o7 (some (.ref c)) (some (.ref u)) (some (.int (k:Nat))) kq kr ku kx) s:=by
  generalize ((k / 4:Nat):Int)=y at f4 tg
  generalize ((k % 4:Nat):Int)=z at m4 tg
  simp[-kS,a0,a1,f4,m4,tg]
 generalize hp:gp A B k=p at h5 pl ⊢
 unfold lA
 rw[qK h5]
 by_cases cx:x=0
 ·subst cx
  obtain⟨v,s2,e2,hv,d2⟩:=content (k:=1) w1.hr hs (by decide)
  have w2:=w1.dw d2
  have xQ:aV [.ref r,tI [A,B],.int 1] s1= .ok v s2:=e2
  have hnew:p∉cs.map (·.1):=λz=>by
   obtain⟨y,hy,ey⟩:=List.mem_map.mp z
   obtain⟨j,hj,ej⟩:=hcs y hy
   have:=wQ (a:=A) (b:=B) (i:=j) (j:=k) (by rw[<-ej,ey,hp])
   omega
  have ul:=fK kvs hok
  have cl:(oX cs).length=cs.length:=by unfold oX;simp
  have pd:putD (.ref c) (pw p) v s2=some (s2.set c (.bu (dW (oX cs) (e_ p) v))):=wO (a:=p.1) (b:=p.2) w2.hc (by omega)
  obtain⟨rv,er⟩:=w2.hr
  obtain⟨s3,e3,w3,k3⟩:=IM (A:=A) (B:=B) (d:=d) (P:=P) (o6:=o6) (o7:=o7) (jE:=some (.int (k:Nat))) (kq:=kq) (kr:=kr) (ku:=ku) (kx:=kx) (s:=s2.set c (.bu (dW (oX cs) (e_ p) v))) ⟨rv,by rw[bw w2.n1.symm];exact er⟩ (b9 w2.hc) (by rw[bw w2.n3];exact w2.hu) w2.n1 w2.n2 w2.n3 hnew hv (by omega)
  refine⟨some (pw p),[(p,v)],s3,?_,w3,((K3.dw d1).trans (K3.dw d2)).trans (K3.setC.trans k3),ao _,λy hy=>by rw[List.mem_singleton.mp hy];exact⟨rfl,pl,hv⟩⟩
  have hA:jy (av 3 aV (ae (af 3) (ae (af 1) (ae (gC (.int 1)) aj)))) (af 8) (af 5) (Rh d r P A B (some (pw p)) o6 o7 (some (.ref c)) (some (.ref u)) (some (.int (k:Nat))) kq kr ku kx) s1= .nx (Rh d r P A B (some (pw p)) o6 o7 (some (.ref c)) (some (.ref u)) (some (.int (k:Nat))) kq kr ku kx) (s2.set c (.bu (dW (oX cs) (e_ p) v))):=by
   simp[jy,xQ,pd]
  have hB:=(qK (b:=iD (bz (ai jL (f' (af 8) (af 5)) (gC .aZ))) (jy (f' (af 8) (af 5)) (af 9) (af 5)) (iD (bz (ai (sE false) (af 5) (af 9))) (hG (u6 (af 9) (af 5))) bp)) hA).trans e3
  have tq:bz (ai oEq (av 2 ar (ae (af 3) (ae (gC (.int 3)) aj))) (gC (.int 0))) (Rh d r P A B (some (pw p)) o6 o7 (some (.ref c)) (some (.ref u)) (some (.int (k:Nat))) kq kr ku kx) s= .ok true s1:=by simp[e1]
  rw[Yp,tq,wt,Uy]
  exact hB
 ·have c':(x == 0)=false:=beq_false_of_ne cx
  refine⟨some (pw p),[],s1,?_,by rw[mO];exact w1,K3.dw d1,by decide,λy hy=>by cases hy⟩
  simp[e1,c']
theorem changes{r c u d P:Nat}{A B:Int}{kvs:Ks}{o5 o6 o7 kq kr ku kx:Option Wv}{s:Hs}(w:Wc r c u kvs [] s)(hs:oR A B)(lk:kvs.length<=100) :
  ∃(rb jE:Option Wv)(cs:List Cl)(s':Hs),fc 10 lA (dD 0 12) (Rh d r P A B o5 o6 o7 (some (.ref c)) (some (.ref u)) none kq kr ku kx) s= .nx (Rh d r P A B rb o6 o7 (some (.ref c)) (some (.ref u)) jE kq kr ku kx) s'/\Wc r c u kvs cs s'/\K3 r c u s s'/\cs.length<=12/\(∀x∈cs,oT x)/\(cs.map (·.1)).Nodup:=by
 obtain⟨ρ,s1,e1,rb,jE,cs,rfl,w1,k1,l1,h1,h2,h3⟩:=q_ (i:=10) (gb:=lA) (λk ρ s'=>∃o5 jE cs,ρ=Rh d r P A B o5 o6 o7 (some (.ref c)) (some (.ref u)) jE kq kr ku kx/\Wc r c u kvs cs s'/\K3 r c u s s'/\cs.length<=k/\(∀x∈cs,oT x)/\(∀x∈cs,∃j,j < k/\x.1=gp A B j)/\(cs.map (·.1)).Nodup)
  (dD 0 12) 0 (Rh d r P A B o5 o6 o7 (some (.ref c)) (some (.ref u)) none kq kr ku kx) s ⟨o5,none,[],rfl,w,K3.refl,ao _,(λx hx=>by cases hx),(λx hx=>by cases hx),oe⟩ (λk v hv ρ s' hP=>by
   obtain⟨o5,jE,cs,rfl,w1,k1,l1,h1,h2,h3⟩:=hP
   obtain⟨hk,rfl⟩:k < 12/\v= .int (k:Nat):=by
    have hk:k < 12:=by
     have q:=(List.getElem?_eq_some_iff.mp hv).1
     rw[dE] at q
     exact q
    rw[pz hk] at hv
    cases hv
    exact⟨hk,by rw[Int.zero_add]⟩
   rw[Cc] at l1 h2 ⊢
   obtain⟨rb,cs',s2,e2,w2,k2,l2,q2⟩:=L1' (d:=d) (P:=P) (o5:=o5) (o6:=o6) (o7:=o7) (kq:=kq) (kr:=kr) (ku:=ku) (kx:=kx) w1 hs hk h1 h2 lk l1
   refine⟨_,s2,e2,rb,_,cs++cs',rfl,w2,k1.trans k2,by simp;omega,λx hx=>?_,λx hx=>?_,?_⟩
   ·rcases List.mem_append.mp hx with z | z
    ·exact h1 x z
    ·exact(q2 x z).2
   ·rcases List.mem_append.mp hx with z | z
    ·obtain⟨j,hj,e⟩:=h2 x z
     exact⟨j,by omega,e⟩
    ·exact⟨k,by omega,(q2 x z).1⟩
   ·rw[gR,Cb]
    refine⟨h3,?_,λa ha b hb=>?_⟩
    ·match cs',l2 with
     | [],_=>exact oe
     | [y],_=>simp
    ·obtain⟨x,hx,rfl⟩:=List.mem_map.mp ha
     obtain⟨y,hy,rfl⟩:=List.mem_map.mp hb
     obtain⟨j,hj,e⟩:=h2 x hx
     rw[e,(q2 y hy).1]
     intro z
     have:=wQ (a:=A) (b:=B) (i:=j) (j:=k) (by rw[z])
     omega)
 exact⟨rb,jE,cs,s1,e1,w1,k1,by simpa [dE] using l1,h1,h3⟩
theorem nK.oX{cs:List Cl}(h:∀x∈cs,oT x)(nd:(cs.map (·.1)).Nodup):nK (oX cs) (cs.map (·.1)):=by
 refine⟨by unfold K22.oX;rw[iM,iM];rfl,nd,λp hp=>?_,λkv hk=>?_⟩
 ·obtain⟨x,hx,rfl⟩:=List.mem_map.mp hp
  exact(h x hx).1
 ·unfold K22.oX at hk
  obtain⟨x,hx,rfl⟩:=List.mem_map.mp hk
  exact(h x hx).2
theorem MZ{l:Nat}{ws:List Wv}{st:Hs}(h:aq st l=some ws):tY jC ff [.ref l,.ty "list"] st= .ok (.bl true) st:=by
 have e:Ft [.ref l,.ty "list"] st= .ok (.bl true) st:=by
  unfold Ft
  dsimp only
  rw[if_pos (show CU "list"=true from rfl)]
  have e0:TC st "list" (.ref l)=some true:=by
   show(aq st l).map _=_
   rw[h]
   rfl
  rw[e0]
 show(if "list"="dict"/\(bX st[l]?).isSome=true then Re.ok (Wv.bl true) st else Ft [.ref l,.ty "list"] st)=_
 rw[if_neg (λz=>absurd z.1 (by decide)),e]
theorem U6{e:Nat}{kvs:Ks}{st:Hs}(h:st[e]? =some (.bu kvs)):tY jC ff [.ref e,.ty "dict"] st= .ok (.bl true) st:=by
 show(if("dict":String)="dict"/\(bX st[e]?).isSome=true then Re.ok (Wv.bl true) st else _)=_
 rw[h]
 exact if_pos ⟨rfl,rfl⟩
theorem AI{k:List L2.Key}{v:Wv}:∀{cs:List Cl}{kvs:Ks},(∀x∈cs,oT x)->(∀k v,aN kvs k=some v->Cn v)->aN (ups kvs cs) k=some v->Cn v
 | [],_,_,hC,h=>hC _ _ h
 | x::r,kvs,hc,hC,h=>AI (cs:=r) (kvs:=up kvs x) (λy hy=>hc y (aI _ hy)) (λk v e=>by
  have hx:=hc x aQ
  rw[tK hx] at e
  by_cases c:e_ x.1=k
  ·rw[if_pos c] at e
   rcases hx.2 with z | z
   ·rw[z] at e;cases e
   ·rw[IH z] at e;cases e;exact z
  ·rw[if_neg c] at e
   exact hC _ _ e) h
theorem IP{ρ:bD}{a b c d:Hs}{l k:Nat}(h1:t7 [] a= .ok (.ref a.length) b)(h2:bf [.ref a.length] b= .ok (.ref l) c)(h3:hZ ρ c= .ok (.ref k) d)(h4:qB (.ref l) (.ref k) d= .ok (.bl true) d):aU (ai qB (av 1 bf (ae (gZ aj) aj)) hZ) ρ a= .rt (.bl true) d:=by
 have a1:gZ aj ρ a= .ok (.ref a.length) b:=by rw[UB,MI,iQ,h1]
 have a2:ae (gZ aj) aj ρ a= .ok [.ref a.length] b:=by rw[Qw,a1,iQ,LJ,MI,iQ]
 have a3:av 1 bf (ae (gZ aj) aj) ρ a= .ok (.ref l) c:=by rw[Qx,a2,iQ,LK,h2]
 have a4:ai qB (av 1 bf (ae (gZ aj) aj)) hZ ρ a= .ok (.bl true) d:=by rw[MG,a3,iQ,Uz,h3,iQ,h4,Ih]
 rw[Ux,a4,wt]
theorem law_true:∀ns:List Int,ns.length<=63->∃st,F_law [.ref 0] [.rH ns]= .ok (.bl true) st:=by
 intro ns hn
 have l0:aq [Ob.rH ns] 0=some (ns.map Wv.int):=rfl
 obtain⟨A,B,s1,e1,hs,more,rfl⟩:=spot l0
 have g1:Gr [Ob.rH ns] ([Ob.rH ns]++more):=Gr.app
 generalize [Ob.rH ns]++more=s1 at e1 g1
 obtain⟨a,b,kvs,d,s2,e2,h2,hs',hk,g2,_⟩:=cells (g1.lst l0) hn (dp:=2) (by decide)
 have xQ:eR [.ref 0,.int 2] s1= .ok (.ref d) s2:=e2
 have hC:∀k v,aN kvs k=some v->Cn v:=λk v=>hk.val
 obtain⟨js,j1,j2,j3,j4,j5⟩:=id hk
 have pk:nK kvs (js.map (gp a b)):=by
  refine⟨by rw[j1,iM];rfl,?_,λp hp=>?_,λkv h=> .inr (j5 kv h)⟩
  ·rw[List.nodup_iff_pairwise_ne,Bo]
   exact(List.nodup_iff_pairwise_ne.mp j2).imp λhne e=>hne (wQ (by rw[e]))
  ·obtain⟨j,hj,rfl⟩:=List.mem_map.mp hp
   exact MW hs' (j3 j hj)
 have pl:(js.map (gp a b)).length<=12:=by rw[bb];exact j4
 generalize js.map (gp a b)=ps at pk pl
 have kl:kvs.length<=12:=hk.len
 obtain⟨n,e3⟩:=stream ((g1.trans g2).lst l0) hn (k:=7) (by decide) (by decide)
 obtain⟨s3,TV⟩:∃s3,s2++[Ob.lst [.int n]]=s3:=⟨_,rfl⟩
 rw[TV] at e3
 have g3:Gr s2 s3:=by rw[<-TV];exact Gr.push
 have r3:Ro s2.length s3:=⟨n,by rw[<-TV];exact bV⟩
 have h3:=g3.get h2
 obtain⟨s4,Y'⟩:∃s4,s3++[Ob.lst []]=s4:=⟨_,rfl⟩
 have g4:Gr s3 s4:=by rw[<-Y'];exact Gr.push
 have h4:=g4.get h3
 have p4:s4[s3.length]? =some (.lst []):=by rw[<-Y'];exact bV
 have k4:t7 [] s3= .ok (.ref s3.length) s4:=by rw[<-Y'];exact An
 have ltd:d < s2.length:=bM h2
 have lr3:s2.length < s3.length:=let ⟨v,e⟩:=r3;bM e
 have lp4:s3.length < s4.length:=bM p4
 -- the walk over the cells
 have kw:ye (.ref d) s4= .ok (none,ps.map pw) (s4.set d (.fW kvs)):=by
  show(match s4[d]? with
   | some (.bu kvs)=>(match cW (oV (λx:List L2.Key×Wv=>x.1) kvs) with | some ws=>Re.ok ((none,ws):Wk) (s4.set d (.fW kvs)) | none=> .bad)
   | some (.fW kvs)=>(match cW (oV (λx:List L2.Key×Wv=>x.1) kvs) with | some ws=> .ok (none,ws) s4 | none=> .bad)
   | _=> .bad)=_
  rw[h4]
  dsimp only
  rw[pk.1,wV]
 obtain⟨rv,er⟩:=r3.gr g4
 have w4:Wp d s2.length s3.length kvs [] (s4.set d (.fW kvs)):=⟨b9 h4,⟨rv,by rw[bw (by omega)];exact er⟩,by rw[bw (by omega)];exact p4,by omega,by omega,by omega⟩
 obtain⟨o5,R,s5,e5,w5,lR,hR⟩:=pairs (o6:=none) (o7:=none) (o8:=none) (o9:=none) (jE:=none) (kq:=none) (kr:=none) (ku:=none) (kx:=none) w4 hs pk pl
 have hL:∀x∈R++ps.map (mn kvs),oT x:=λx hx=>by
  rcases List.mem_append.mp hx with z | z
  ·exact(hR x z).2
  ·exact MY pk x z
 have lL:(R++ps.map (mn kvs)).length<=24:=by simp;omega
 have mq:=IK pk hC hR
 generalize R++ps.map (mn kvs)=L at w5 hL lL mq
 obtain⟨s6,WG⟩:∃s6,s5.set d (.bu kvs)=s6:=⟨_,rfl⟩
 have d6:s6[d]? =some (.bu kvs):=by rw[<-WG];exact b9 w5.hd
 have p6:s6[s3.length]? =some (.lst (L.map cw)):=by rw[<-WG,bw (by omega)];exact w5.hp
 have r6:Ro s2.length s6:=by
  obtain⟨v,e⟩:=w5.hr
  exact⟨v,by rw[<-WG,bw (by omega)];exact e⟩
 have th:jA 2 (qr 5 (af 2) fQ) (Rh d s2.length s3.length A B none none none none none none none none none none) s4= .nx (Rh d s2.length s3.length A B o5 none none none none none none none none none) s6:=by
  have o1:mF (Rh d s2.length s3.length A B none none none none none none none none none none)[2]? s4=some d:=by
   show(match s4[d]? with | some (.bu _)=>some d | _=>none)=_
   rw[h4]
  have tw:jz d s5=s6:=by unfold jz;rw[w5.hd,<-WG]
  have gf:qr 5 (af 2) fQ (Rh d s2.length s3.length A B none none none none none none none none none none) s4= .nx (Rh d s2.length s3.length A B o5 none none none none none none none none none) s5:=by
   unfold qr
   simp[kQ,kw,e5]
  unfold jA
  rw[o1]
  dsimp only
  rw[gf]
  dsimp only
  rw[tw]
 have lp6:s3.length < s6.length:=bM p6
 -- handed,the two Za
 have ld:pJ [.ref s3.length] s6= .ok (.ref s6.length) (s6++[.lst (L.map cw)]):=by
  unfold pJ
  dsimp only
  rw[p6]
  show(match aq s6 s3.length with | some ws=>Re.ok (Wv.ref s6.length) (s6++[Ob.lst ws]) | none=> .bad)=_
  rw[cL p6]
 obtain⟨s7,Zb⟩:∃s7,s6++[Ob.lst (L.map cw)]=s7:=⟨_,rfl⟩
 rw[Zb] at ld
 have g7:Gr s6 s7:=by rw[<-Zb];exact Gr.push
 have q7:s7[s6.length]? =some (.lst (L.map cw)):=by rw[<-Zb];exact bV
 obtain⟨s8,e8,g8,h8⟩:=vc (cL q7) hL (by omega)
 have lS:s7.length < s8.length:=bM h8
 have lH:s6.length < s7.length:=bM q7
 have tc:qm [.ref s3.length] s8= .ok (.tup (L.map cw)) s8:=Y4 ((g7.trans g8).get p6)
 obtain⟨s9,e9,g9,h9⟩:=IF (st:=s8) hL (by omega)
 have lT:s8.length < s9.length:=bM h9
 have S9:=g9.get h8
 have d9:=((g7.trans g8).trans g9).get d6
 have p9:=((g7.trans g8).trans g9).get p6
 have q9:=(g8.trans g9).get q7
 have r9:=r6.gr ((g7.trans g8).trans g9)
 have pkn:nK [] []:=⟨rfl,oe,(λ_ h=>by cases h),(λ_ h=>by cases h)⟩
 obtain⟨qs,pS⟩:=pkn.ups hL
 have lK:=fK [] hL
 have lK':(ups [] L).length<=24:=by simp at lK;omega
 generalize ups [] L=KS at h8 h9 S9 pS lK lK' mq
 have n1:=(qd (l:=s8.length) (k:=d) (st:=s9) mq pS pk (by rw[h9];rfl) (by rw[d9];rfl)).2
 have n2:=(qd (l:=s7.length) (k:=d) (st:=s9) mq pS pk (by rw[S9];rfl) (by rw[d9];rfl)).2
 have n3:=y_ (st:=s9) (cL q9) (cL p9) λw hw=>by
  obtain⟨x,hx,rfl⟩:=List.mem_map.mp hw
  exact QX (hL x hx)
 have i9:=U6 S9
 -- changes,due
 obtain⟨mE,QZ⟩:∃mE,s9++[Ob.bu []]=mE:=⟨_,rfl⟩
 have TJ:Gr s9 mE:=by rw[<-QZ];exact Gr.push
 have c10:mE[s9.length]? =some (.bu []):=by rw[<-QZ];exact bV
 have nt:∀ρ:bD,hZ ρ s9= .ok (.ref s9.length) mE:=λρ=>by rw[<-QZ];rfl
 have lC:s9.length < mE.length:=bM c10
 have dk:=wR (d:=d) (st:=mE) (by rw[TJ.get d9];rfl) pk.hash
 obtain⟨F8,Q0⟩:∃F8,mE++[Ob.bu kvs]=F8:=⟨_,rfl⟩
 rw[Q0] at dk
 have g11:Gr mE F8:=by rw[<-Q0];exact Gr.push
 have u11:F8[mE.length]? =some (.bu kvs):=by rw[<-Q0];exact bV
 have lU:mE.length < F8.length:=bM u11
 have gA:=TJ.trans g11
 have w11:Wc s2.length s9.length mE.length kvs [] F8:=⟨r9.gr gA,g11.get c10,u11,by omega,by omega,by omega⟩
 obtain⟨rb,jE,cs,s12,Wb,Zc,k12,lcs,hcs,ncs⟩:=changes (d:=d) (P:=s3.length) (o5:=o5) (o6:=some (.ref s6.length)) (o7:=some (.ref s7.length)) (kq:=none) (kr:=none) (ku:=none) (kx:=none) w11 hs (by omega)
 have kp:∀j,j < F8.length->j≠s2.length->j≠s9.length->j≠mE.length->s12[j]? =F8[j]?:=k12.2
 have RT:s12[d]? =some (.bu kvs):=by rw[kp d (by omega) (by omega) (by omega) (by omega)];exact gA.get d9
 have Zd:s12[s7.length]? =some (.bu KS):=by rw[kp _ (by omega) (by omega) (by omega) (by omega)];exact gA.get S9
 have pC:=nK.oX hcs ncs
 have dk2:=wR (d:=s9.length) (st:=s12) (by rw[Zc.hc];rfl) pC.hash
 obtain⟨um,Q1⟩:∃um,s12++[Ob.bu (oX cs)]=um:=⟨_,rfl⟩
 rw[Q1] at dk2
 have g13:Gr s12 um:=by rw[<-Q1];exact Gr.push
 have Ze:um[s12.length]? =some (.bu (oX cs)):=by rw[<-Q1];exact bV
 have lG:s12.length < um.length:=bM Ze
 have l12:F8.length<=s12.length:=k12.1
 obtain⟨RU,e14,g14,WH⟩:=tJ (d:=s7.length) (e:=s12.length) (st:=um) (by rw[g13.get Zd];rfl) Ze pS.hash hcs (by omega)
 have lF:um.length < RU.length:=bM WH
 have WI:=Zc.hu
 have C12:=Zc.hc
 have gB:=g13.trans g14
 obtain⟨us,pU⟩:=pk.ups hcs
 obtain⟨fs,pF⟩:=pS.ups hcs
 have WJ:=Jf.ups hcs mq
 have lU':=fK kvs hcs
 have lF':=fK KS hcs
 have hCU:∀k v,aN (ups kvs cs) k=some v->Cn v:=λk v h=>AI hcs hC h
 have hCF:∀k v,aN (ups KS cs) k=some v->Cn v:=λk v h=>AI hcs (λk v h=>hC k v (by rw[<-mq k];exact h)) h
 have lus:us.length<=60:=by have:=congrArg b7 pU.1;simp at this;omega
 have lfs:fs.length<=60:=by have:=congrArg b7 pF.1;simp at this;omega
 generalize ups kvs cs=KU at WI pU WJ lU' hCU
 have n4:=(qd (l:=um.length) (k:=mE.length) (st:=RU) WJ pF pU (by rw[WH];rfl) (by rw[gB.get WI];rfl)).2
 have n5:=(qd (l:=s7.length) (k:=d) (st:=RU) mq pS pk (by rw[gB.get Zd];rfl) (by rw[gB.get RT];rfl)).2
 have n6:=(eq_self (l:=s12.length) (k:=s9.length) (st:=RU) (by rw[g14.get Ze];rfl) (by rw[gB.get C12];rfl) pC.dat).2
 -- the places with U7
 obtain⟨t,s15,Mr,Zf,WK,h15,adA⟩:=tL WH pF hCF (by omega)
 have i15:=MZ WK
 obtain⟨f,Q2,e16,U8,Zg⟩:=filled (u:=mE.length) (ρ:=Rh d s2.length s3.length A B rb (some (.ref s6.length)) (some (.ref s7.length)) (some (.ref s9.length)) (some (.ref mE.length)) jE (some (.ref s12.length)) (some (.ref um.length)) (some (.ref t)) none) (st:=s15) rfl ((gB.trans Zf).get WI) pU hCU (by omega)
 rw[<-y9 WJ pF pU] at Zg
 have i16:=MZ (U8.lst WK)
 have n7:=y_ (st:=Q2) (U8.lst WK) Zg λw hw=>by
  obtain⟨p,_,rfl⟩:=List.mem_map.mp hw
  exact QY p
 generalize hq:cV (fs.filter (tp (ups KS cs)))=qq at WK h15 Zg n7
 have lqq:qq.length<=60:=by rw[<-hq,(fe _).length_eq];exact ba (vH _ _) lfs
 -- cleared,U9
 have F16:=(Zf.trans U8).get WH
 have t16:=U8.get h15
 have ltt:t < Q2.length:=bM t16
 obtain⟨RV,Q3⟩:∃RV,Q2.set um.length (.bu [])=RV:=⟨_,rfl⟩
 have cl:Ld (.ref um.length) Q2= .ok .aZ RV:=by
  unfold Ld
  dsimp only
  rw[F16,<-Q3]
 have t17:RV[t]? =some (.lst (qq.map pw)):=by rw[<-Q3,bw (by omega)];exact t16
 obtain⟨Jg,U_⟩:∃Jg,RV.set t (.lst (qq.map pw++[pw (0,0)]))=Jg:=⟨_,rfl⟩
 have ap:=BX (v:=pw (0,0)) t17 (by rw[bb];unfold lim;omega)
 rw[U_] at ap
 have km:=λga ρ=>wx (mt:=pE) (ga:=ga) (ρ:=ρ) (cL t17)
 have L3:∀j,j≠um.length->j≠t->Jg[j]? =Q2[j]?:=λj a b=>by rw[<-U_,bw (bI b),<-Q3,bw (bI a)]
 have gC:=gB.trans (Zf.trans U8)
 have S18:Jg[s7.length]? =some (.bu KS):=by rw[L3 _ (by omega) (by omega)];exact gC.get Zd
 have C18:Jg[s9.length]? =some (.bu (oX cs)):=by rw[L3 _ (by omega) (by omega)];exact gC.get C12
 have U18:Jg[mE.length]? =some (.bu KU):=by rw[L3 _ (by omega) (by omega)];exact gC.get WI
 have U':Jg[d]? =some (.bu kvs):=by rw[L3 _ (by omega) (by omega)];exact gC.get RT
 obtain⟨Q4,e19,Zh,h19⟩:=tJ (d:=s7.length) (e:=s9.length) (st:=Jg) (by rw[S18];rfl) C18 pS.hash hcs (by omega)
 have n8:=(qd (l:=Jg.length) (k:=mE.length) (st:=Q4) WJ pF pU (by rw[h19];rfl) (by rw[Zh.get U18];rfl)).2
 have n9:=(qd (l:=s7.length) (k:=d) (st:=Q4) mq pS pk (by rw[Zh.get S18];rfl) (by rw[Zh.get U'];rfl)).2
 -- an empty abP
 obtain⟨Va,Vb⟩:∃Va,Q4++[Ob.lst []]=Va:=⟨_,rfl⟩
 have k20:t7 [] Q4= .ok (.ref Q4.length) Va:=by rw[<-Vb];exact An
 have l20:aq Va Q4.length=some (([]:List Cl).map cw):=by rw[<-Vb];exact cQ
 obtain⟨WL,e21,g21,h21⟩:=vc l20 (λx hx=>by cases hx) (by decide)
 obtain⟨Vc,Q5⟩:∃Vc,WL++[Ob.bu []]=Vc:=⟨_,rfl⟩
 have nt2:∀ρ:bD,hZ ρ WL= .ok (.ref WL.length) Vc:=λρ=>by rw[<-Q5];rfl
 have n10:=(eq_self (l:=Va.length) (k:=WL.length) (st:=Vc) (kvs:=[]) (by rw[<-Q5,fM h21];rfl) (by rw[<-Q5,bV];rfl) λ_ h=>by cases h).1
 have c12:mV 12:=LN (by decide) (by decide)
 have t00:∀st:Hs,tZ [.int 0,.int 0] st= .ok (pw (0,0)) st:=λst=>kS
 refine⟨Vc,MK (n:=15) (g:=yU) ?_⟩
 show yU [some (.ref 0),none,none,none,none,none,none,none,none,none,none,none,none,none,none] [Ob.rH ns]=_
 unfold yU
 refine(qK (ρ':=[some (.ref 0),some (tI [A,B]),none,none,none,none,none,none,none,none,none,none,none,none,none]) (st':=s1) ?_).trans ?_
 ·simp[e1]
 refine(qK (ρ':=[some (.ref 0),some (tI [A,B]),some (.ref d),none,none,none,none,none,none,none,none,none,none,none,none]) (st':=s2) ?_).trans ?_
 ·simp[xQ]
 refine(qK (ρ':=[some (.ref 0),some (tI [A,B]),some (.ref d),some (.ref s2.length),none,none,none,none,none,none,none,none,none,none,none]) (st':=s3) ?_).trans ?_
 ·simp[e3]
 refine(qK (ρ':=(Rh d s2.length s3.length A B none none none none none none none none none none)) (st':=s4) ?_).trans ?_
 ·simp[-An,k4]
 refine(qK (ρ':=(Rh d s2.length s3.length A B o5 none none none none none none none none none)) (st':=s6) ?_).trans ?_
 ·exact th
 refine(qK (ρ':=(Rh d s2.length s3.length A B o5 (some (.ref s6.length)) none none none none none none none none)) (st':=s7) ?_).trans ?_
 ·simp[ld]
 refine(qK (ρ':=(Rh d s2.length s3.length A B o5 (some (.ref s6.length)) (some (.ref s7.length)) none none none none none none none)) (st':=s8) ?_).trans ?_
 ·simp[e8]
 refine(qK (ρ':=(Rh d s2.length s3.length A B o5 (some (.ref s6.length)) (some (.ref s7.length)) none none none none none none none)) (st':=s9) ?_).trans ?_
 ·simp[tc,e9,n1]
 refine(qK (ρ':=(Rh d s2.length s3.length A B o5 (some (.ref s6.length)) (some (.ref s7.length)) none none none none none none none)) (st':=s9) ?_).trans ?_
 ·simp[i9,n2,n3]
 refine(qK (ρ':=(Rh d s2.length s3.length A B o5 (some (.ref s6.length)) (some (.ref s7.length)) (some (.ref s9.length)) none none none none none none)) (st':=mE) ?_).trans ?_
 ·simp[nt]
 refine(qK (ρ':=(Rh d s2.length s3.length A B o5 (some (.ref s6.length)) (some (.ref s7.length)) (some (.ref s9.length)) (some (.ref mE.length)) none none none none none)) (st':=F8) ?_).trans ?_
 ·simp[dk]
 refine(qK (ρ':=(Rh d s2.length s3.length A B rb (some (.ref s6.length)) (some (.ref s7.length)) (some (.ref s9.length)) (some (.ref mE.length)) jE none none none none)) (st':=s12) ?_).trans ?_
 ·simp[c12,Wb]
 refine(qK (ρ':=(Rh d s2.length s3.length A B rb (some (.ref s6.length)) (some (.ref s7.length)) (some (.ref s9.length)) (some (.ref mE.length)) jE (some (.ref s12.length)) none none none)) (st':=um) ?_).trans ?_
 ·simp[dk2]
 refine(qK (ρ':=(Rh d s2.length s3.length A B rb (some (.ref s6.length)) (some (.ref s7.length)) (some (.ref s9.length)) (some (.ref mE.length)) jE (some (.ref s12.length)) (some (.ref um.length)) none none)) (st':=RU) ?_).trans ?_
 ·simp[e14]
 refine(qK (ρ':=(Rh d s2.length s3.length A B rb (some (.ref s6.length)) (some (.ref s7.length)) (some (.ref s9.length)) (some (.ref mE.length)) jE (some (.ref s12.length)) (some (.ref um.length)) none none)) (st':=RU) ?_).trans ?_
 ·simp[n4,n5,n6]
 refine(qK (ρ':=(Rh d s2.length s3.length A B rb (some (.ref s6.length)) (some (.ref s7.length)) (some (.ref s9.length)) (some (.ref mE.length)) jE (some (.ref s12.length)) (some (.ref um.length)) (some (.ref t)) none)) (st':=s15) ?_).trans ?_
 ·simp[Mr]
 refine(qK (ρ':=(Rh d s2.length s3.length A B rb (some (.ref s6.length)) (some (.ref s7.length)) (some (.ref s9.length)) (some (.ref mE.length)) jE (some (.ref s12.length)) (some (.ref um.length)) (some (.ref t)) (some (.ref f)))) (st':=Q2) ?_).trans ?_
 ·rw[MD,e16]
  rfl
 refine(qK (ρ':=(Rh d s2.length s3.length A B rb (some (.ref s6.length)) (some (.ref s7.length)) (some (.ref s9.length)) (some (.ref mE.length)) jE (some (.ref s12.length)) (some (.ref um.length)) (some (.ref t)) (some (.ref f)))) (st':=Q2) ?_).trans ?_
 ·simp[i16,n7]
 refine(qK (ρ':=(Rh d s2.length s3.length A B rb (some (.ref s6.length)) (some (.ref s7.length)) (some (.ref s9.length)) (some (.ref mE.length)) jE (some (.ref s12.length)) (some (.ref um.length)) (some (.ref t)) (some (.ref f)))) (st':=RV) ?_).trans ?_
 ·simp[G_,cl]
 refine(qK (ρ':=(Rh d s2.length s3.length A B rb (some (.ref s6.length)) (some (.ref s7.length)) (some (.ref s9.length)) (some (.ref mE.length)) jE (some (.ref s12.length)) (some (.ref um.length)) (some (.ref t)) (some (.ref f)))) (st':=Jg) ?_).trans ?_
 ·simp[-kS,km,t00,ap]
 refine(qK (ρ':=(Rh d s2.length s3.length A B rb (some (.ref s6.length)) (some (.ref s7.length)) (some (.ref s9.length)) (some (.ref mE.length)) jE (some (.ref s12.length)) (some (.ref um.length)) (some (.ref t)) (some (.ref f)))) (st':=Q4) ?_).trans ?_
 ·simp[e19,n8,n9]
 exact IP k20 e21 (nt2 _) n10
end K22
namespace PySem.W.Fast
def tw2283575576371819467:=()
def tw11326077470685517379:=()
def tw13718949001358532015:=()
def tw8339251844587993938:=()
def tw6907655516619646036:=()
def tw8027417877416363613:=()
def tw4083123652686449854:=()
def tw982808138365002380:=()
def tw7269052992383170904:=()
def tw8604798946012751382:=()
def tw1538747366043945776:=()
def tw16615885187659712034:=()
def tw10156864007092001642:=()
def tw15015247884770364855:=()
def tw16591126615750365703:=()
def tw9225847776746456249:=()
def tw10562126390780876452:=()
def tw6351253423094491261:=()
def tw2750260889015619326:=()
def tw17479128615824455231:=()
def tw4336657665526740611:=()
def tw9650542695185910055:=()
def tw18160066657346091533:=()
def tw5802682091988485871:=()
def tw11855681668382774672:=()
def tw823537460794123184:=()
def tw15559501049860037239:=()
def tw17485493570721767712:=()
def tw4911728606675887530:=()
def tw8500436691091536878:=()
def tw11486600458738529457:=()
def tw434258576542676320:=()
def tw15724038382184129070:=()
def tw5772647534208939275:=()
def tw12577668736623369073:=()
def tw11483884136820972117:=()
def tw11312789014192050739:=()
def tw1202818241359310599:=()
def tw7844402261897283275:=()
def tw1884713349750518325:=()
def tw2397842360345868940:=()
def tw13256595202757295291:=()
def tw6298273150697051723:=()
def tw13987392071309153102:=()
def tw12036917686252593719:=()
def tw7490027283725795583:=()
def tw9090422905165891784:=()
def tw9892245515675546202:=()
def tw9251343448939565547:=()
def tw8713580050280264472:=()
def tw6234322784339122274:=()
def tw6379391507928868055:=()
def tw2679810080059809266:=()
def tw6076773739857462341:=()
def tw10071802925851298864:=()
def tw11434015881488225355:=()
def tw18046448895169838609:=()
def tw7012828290153530966:=()
def tw11359331605327072808:=()
def tw6256064199408597296:=()
def tw17497434426188803767:=()
def tw16035752709300432844:=()
def tw13630439349363269844:=()
def tw14771314804651914468:=()
def tw5818561833274941649:=()
def tw9719473264720895902:=()
def tw12311176704612813102:=()
def tw4479882150395102116:=()
def tw12640116777253063846:=()
def tw10547147918110318298:=()
def tw12195963881729959351:=()
def tw1045960685511215214:=()
def tw3197553549618151302:=()
def tw15049563097142635528:=()
def tw2183980165071632836:=()
def tw11263866371405664200:=()
def tw14164262625066245527:=()
def tw17833751441569875904:=()
def tw5139344167112947104:=()
def tw9462935518210253206:=()
def tw3253068114698168873:=()
def tw17538640841164866895:=()
def tw17945707437877408570:=()
def tw2549727113176427960:=()
def tw8053836948503076244:=()
def tw4795227268626919319:=()
def tw15844554020737003435:=()
def tw7518773107454012326:=()
def tw9105000265512193750:=()
def tw4796353763331630558:=()
def tw13267952539731474281:=()
def tw13841554640392966728:=()
def tw10948652498160874978:=()
def tw9730797348216666539:=()
def tw7901275672360138630:=()
def tw10620109095076500686:=()
def tw17413358081277324302:=()
def tw5894941440153957890:=()
def tw2862927365411777522:=()
def tw15031146913455868603:=()
def tw6487637039033371485:=()
def tw12349485479728487448:=()
def tw16869123463333718694:=()
def tw17198055771348597891:=()
def tw5017571537763859475:=()
def tw5639631866901404860:=()
def tw560845475943674295:=()
def tw44588909386865951:=()
def tw1493364528806124363:=()
def tw1638590320784006486:=()
def tw7721996905764930446:=()
def tw15725972301161723323:=()
def tw11090730052803088956:=()
def tw16582795253338869370:=()
def tw8677536689136428229:=()
def tw10155077985502303199:=()
def tw2807655466465144075:=()
def tw12922453580815220629:=()
def tw16371008916647559532:=()
def tw3052370607717408711:=()
def tw9913759606619227087:=()
def tw2399467944856798368:=()
def tw15574354468060831499:=()
def tw17538677614850420755:=()
def tw6846684530880866216:=()
def tw3871211699994510951:=()
def tw15917401257512030497:=()
def tw9427196782979016812:=()
def tw411103433733340580:=()
def tw10757607745195685905:=()
def tw2345875372769048268:=()
def tw1567721248042455538:=()
def tw17124955167332841849:=()
def tw840499705773089855:=()
def tw8258308098087675677:=()
def tw14439144334133043697:=()
def tw9115198837978829068:=()
def tw13664012855191870878:=()
def tw15306964052851069627:=()
def tw16927450659837226503:=()
def tw11970209043867429420:=()
def tw1397313133302331576:=()
def tw18298686008655625776:=()
def tw18190142677776052740:=()
def tw7898981801142874873:=()
def tw13908426020554725777:=()
def tw4619578059838076631:=()
def tw2384165476736764047:=()
def tw9167843453717978647:=()
def tw12241658148268912272:=()
def tw16564646973886302286:=()
def tw11598868191504613759:=()
def tw6375184485052854838:=()
def tw16275475994901268950:=()
def tw12778827942780094522:=()
def tw11862610548620671210:=()
def tw2638959962855519327:=()
def tw5604687793932212784:=()
def tw1178764122859697570:=()
def tw16400873109680868203:=()
def tw435548841742327878:=()
def tw14284181640220141643:=()
def tw14386844498185547179:=()
def tw7601208229854722542:=()
def tw3466433870358393559:=()
end PySem.W.Fast
namespace K22
open PySem PySem.W PyProof.Rows
set_option maxHeartbeats 0 in
open_top head for PySem.Challenge.rw_onelook_k22_sheets_made
open PySem J
open PySem.W (nsIn kitOne findIn excIn mg_of mg_none_of)
open L2 (defScope defBody defArgs FnScope CX0 FnOk XK Hp)
set_option autoImplicit true in
theorem all_mk {l:PySem.W.OpenLaw} {w:World} {K:PySem.W.Frag} {h:Heap} {mg:Str → Option Value} {fa:Addr} (X:K.In h) (G:h.Ns mainGlobals mg) (hfa:mg "law" = some (.ref fa))
        {tk0 tk1 tk2 Vd Ve Vf Vg Vh tk4 tk5 tk6 tk7:Tok} {ca3:aeU} {Zi:Option aeU} {cn3:Nat} {cs3:Array (Option ae0)} {Zj:aeU} {de0:Nat} {M3 M4 M5 M6 M7 M8 M9 M_ M' Na IQ IS IT IU IV IW IX IY IZ I0 I_:Int} {Vi Vj Vk Vl Vm Vn Vo Vp Vq Vr Q6 Q7 Q8 Q9 Q_ Ra Rb Rc Rf Rg Ri Vs Vt Vu Vv Vw Vx Vy Vz VA VB Rj Rk Rl Rm Rp Rq Rr Rt Ru Rv Rw:Tok} {X0 X1 X2 X3:aeU}
    (d1:J.aX K "_law_cell_at" eM)
    (d2:J.aX K "_law_spot" iR)
    (d3:J.aX K "_law_digit" gG)
    (d4:J.aX K "_law_area" iS)
    (d5:J.aX K "_law_pins" iT)
    (d6:J.aX K "_law_number" fA)
    (d7:J.aX K "_law_place" gH)
    (d8:J.aX K "_law_leaf" iU)
    (d9:J.aX K "_law_formula" eN)
    (Zk:J.aX K "_law_content" eP)
    (Zl:J.aX K "_law_mixed" gI)
    (RT:J.aX K "_law_stream" fB)
    (Zm:J.aX K "_law_cells" gJ)
    (Zn:J.aX K "with_room" iV)
    (Zo:J.aX K "is_place" jZ)
    (Zp:J.aX K "made_place" gM)
    (Zq:J.aX K "part_many" iW)
    (U':J.aX K "parts_of" j8)
    (Zr:J.aX K "level_below" fF)
    (Zs:J.aX K "has_area" j9)
    (Zt:J.aX K "is_whole" j_)
    (Zu:J.aX K "is_text_sign" eT)
    (Zv:J.aX K "has_text_signs" dh)
    (Zw:J.aX K "is_text" mh)
    (Zx:J.aX K "is_number_row" dP)
    (Zy:J.aX K "are_pins" ka)
    (Zz:J.aX K "has_corners" fG)
    (ZA:J.aX K "area_many" iX)
    (ZC:J.aX K "is_area" mj)
    (ZD:J.aX K "is_tail" ml)
    (ZE:J.aX K "tail_of" mr)
    (ZF:J.aX K "is_piece" kc)
    (ZG:J.aX K "made_formula" eV)
    (ZH:J.aX K "is_great" kf)
    (ZI:J.aX K "is_number" iY)
    (ZJ:J.aX K "made_content" eW)
    (ZK:J.aX K "put_content" fH)
    (ZL:J.aX K "made_sheet" gN)
    (ZM:J.aX K "with_changes" eZ)
    (ZN:J.aX K "with_cells" gP)
    (ZO:J.aX K "has_formula" fJ)
    (ZP:J.aX K "formula_places" dm)
    (ZQ:J.aX K "law" B0)
    (z0:nsIn K afa "len"=some none)
    (z1:nsIn K afa "tuple"=some none)
    (z2:nsIn K afa "range"=some none)
    (z3:nsIn K afa "sum"=some none)
    (z4:nsIn K afa "isinstance"=some none)
    (z5:nsIn K afa "int"=some none)
    (z6:nsIn K afa "bool"=some none)
    (z7:nsIn K afa "all"=some none)
    (z8:nsIn K afa "ord"=some none)
    (z9:nsIn K afa "str"=some none)
    (ZR:nsIn K afa "abs"=some none)
    (ZS:nsIn K afa "dict"=some none)
    (ZT:nsIn K afa "sorted"=some none)
    (ZU:nsIn K afa "list"=some none)
    (v0:nsIn K afa "MOST_CELLS"=some (some (.int 200 tk0)))
    (v1:nsIn K afa "ROWS"=some (some (.int 99 tk1)))
    (v2:nsIn K afa "COLUMNS"=some (some (.int 26 tk2)))
    (v3:nsIn K afa "AREA_WORDS"=some (some (.ref ca3))) (w3:K.lookup ca3=some ⟨.type "tuple",Zi,.seq #[.str "sum" Vd,.str "count" Ve,.str "least" Vf,.str "greatest" Vg,.str "find" Vh] cn3,cs3⟩)
    (v4:nsIn K afa "MOST_SIGNS"=some (some (.int 40 tk4)))
    (v5:nsIn K afa "MOST_PLACES"=some (some (.int 300 tk5)))
    (v6:nsIn K afa "MOST_PIECES"=some (some (.int 60 tk6)))
    (v7:nsIn K afa "MOST_DEEP"=some (some (.int 12 tk7)))
    (WM:nsIn K afa "PART_COUNTS"=some (some (.ref Zj))) (WN:K.lookup Zj=some ⟨.type "dict",none,.dict #[⟨M3,.str "num" Vi,.int 0 Vs⟩,⟨M4,.str "text" Vj,.int 0 Vt⟩,⟨M5,.str "lost" Vk,.int 0 Vu⟩,⟨M6,.str "at" Vl,.int 0 Vv⟩,⟨M7,.str "minus" Vm,.int 1 Vw⟩,⟨M8,.str "not" Vn,.int 1 Vx⟩,⟨M9,.str "+" Vo,.int 2 Vy⟩,⟨M_,.str "-" Vp,.int 2 Vz⟩,⟨M',.str "*" Vq,.int 2 VA⟩,⟨Na,.str "/" Vr,.int 2 VB⟩,⟨IQ,.str "&" Q6,.int 2 Rj⟩,⟨IS,.str "<" Q7,.int 2 Rk⟩,⟨IT,.str "=" Q8,.int 2 Rl⟩,⟨IU,.str "rest" Q9,.int 2 Rm⟩,⟨IV,.str "if" Q_,.int 3 Rp⟩,⟨IW,.str "else" Ra,.int 2 Rq⟩,⟨IX,.str "sum" Rb,.int 0 Rr⟩,⟨IY,.str "count" Rc,.int 0 Rt⟩,⟨IZ,.str "least" Rf,.int 0 Ru⟩,⟨I0,.str "greatest" Rg,.int 0 Rv⟩,⟨I_,.str "find" Ri,.int 1 Rw⟩] de0,#[]⟩) (WO:(Zj == sysModules)=false) (Ci:M3=hashStr w "num") (Cj:M4=hashStr w "text") (Ck:M5=hashStr w "lost") (Cm:M6=hashStr w "at") (Co:M7=hashStr w "minus") (Cp:M8=hashStr w "not") (Cq:M9=hashStr w "+") (Cr:M_=hashStr w "-") (Cs:M'=hashStr w "*") (Cu:Na=hashStr w "/") (wW:IQ=hashStr w "&") (wX:IS=hashStr w "<") (wY:IT=hashStr w "=") (wZ:IU=hashStr w "rest") (w6:IV=hashStr w "if") (w8:IW=hashStr w "else") (w9:IX=hashStr w "sum") (w_:IY=hashStr w "count") (xa:IZ=hashStr w "least") (xb:I0=hashStr w "greatest") (xc:I_=hashStr w "find")
    (D6:nsIn K afa "Full"=some (some (.ref X0))) (WQ:excIn K X0 C2 C3=true) (ZV:findIn K (.ref X0) "__getattribute__"=some (some (.builtin "BaseException.__getattribute__"))) (ZW:findIn K (.ref X0) "__getattr__"=some none) (ZX:findIn K (.ref X0) "__class__"=some (some (.builtin "object.__class__")))
    (D7:nsIn K afa "BadPlace"=some (some (.ref X1))) (WR:excIn K X1 C2 C3=true) (ZY:findIn K (.ref X1) "__getattribute__"=some (some (.builtin "BaseException.__getattribute__"))) (ZZ:findIn K (.ref X1) "__getattr__"=some none) (Z_:findIn K (.ref X1) "__class__"=some (some (.builtin "object.__class__")))
    (D8:nsIn K afa "BadFormula"=some (some (.ref X2))) (WS:excIn K X2 C2 C3=true) (Z':findIn K (.ref X2) "__getattribute__"=some (some (.builtin "BaseException.__getattribute__"))) (xx2:findIn K (.ref X2) "__getattr__"=some none) (xc2:findIn K (.ref X2) "__class__"=some (some (.builtin "object.__class__")))
    (D9:nsIn K afa "BadContent"=some (some (.ref X3))) (WT:excIn K X3 C2 C3=true) (xg3:findIn K (.ref X3) "__getattribute__"=some (some (.builtin "BaseException.__getattribute__"))) (xx3:findIn K (.ref X3) "__getattr__"=some none) (xc3:findIn K (.ref X3) "__class__"=some (some (.builtin "object.__class__")))
    (pk0:kitOne K (.ref X0) (.ref X0)=some true)
    (pk1:kitOne K (.ref X0) (.ref X1)=some false)
    (pk2:kitOne K (.ref X0) (.ref X2)=some false)
    (pk3:kitOne K (.ref X0) (.ref X3)=some false)
    (pk4:kitOne K (.ref X1) (.ref X0)=some false)
    (pk5:kitOne K (.ref X1) (.ref X1)=some true)
    (pk6:kitOne K (.ref X1) (.ref X2)=some false)
    (pk7:kitOne K (.ref X1) (.ref X3)=some false)
    (pk8:kitOne K (.ref X2) (.ref X0)=some false)
    (pk9:kitOne K (.ref X2) (.ref X1)=some false)
    (Rx:kitOne K (.ref X2) (.ref X2)=some true)
    (Ry:kitOne K (.ref X2) (.ref X3)=some false)
    (Rz:kitOne K (.ref X3) (.ref X0)=some false)
    (RA:kitOne K (.ref X3) (.ref X1)=some false)
    (RB:kitOne K (.ref X3) (.ref X2)=some false)
    (RC:kitOne K (.ref X3) (.ref X3)=some true)
    (pt0:kitOne K (.ref X0) (.type "ValueError")=some true)
    (pt1:kitOne K (.ref X1) (.type "ValueError")=some true)
    (pt2:kitOne K (.ref X2) (.type "ValueError")=some true)
    (pt3:kitOne K (.ref X3) (.type "ValueError")=some true)
     :
    ∃fd:aeW,(∀(s:aeZ)(u:ae0),BindsTo s fd ⟨[u],[]⟩ [("script",u)])/\∀base:Heap,K.In base->base.Ns afa mg->FnOk l.prog w K mg base (CXJ l.prog w) 12 fa fd ["script"] (spW K 1 F_law):=by
  refine J.LI X G hfa ZQ (λ_ _ _ _ _ _ s u=> .of_eq rfl) (λf fd Fu base kb nb=>?_)
  have Z0:=mg_none_of kb nb z0
  have Z1:=mg_none_of kb nb z1
  have Z2:=mg_none_of kb nb z2
  have Z3:=mg_none_of kb nb z3
  have Z4:=mg_none_of kb nb z4
  have Z5:=mg_none_of kb nb z5
  have Z6:=mg_none_of kb nb z6
  have Z7:=mg_none_of kb nb z7
  have Z8:=mg_none_of kb nb z8
  have Z9:=mg_none_of kb nb z9
  have Z10:=mg_none_of kb nb ZR
  have Z11:=mg_none_of kb nb ZS
  have Z12:=mg_none_of kb nb ZT
  have Z13:=mg_none_of kb nb ZU
  have V0:=mg_of kb nb v0
  have V1:=mg_of kb nb v1
  have V2:=mg_of kb nb v2
  have V3:=mg_of kb nb v3
  have V4:=mg_of kb nb v4
  have V5:=mg_of kb nb v5
  have V6:=mg_of kb nb v6
  have V7:=mg_of kb nb v7
  have E0:J.kI K X0:=⟨WQ,ZV,ZW,ZX⟩
  have E1:J.kI K X1:=⟨WR,ZY,ZZ,Z_⟩
  have E2:J.kI K X2:=⟨WS,Z',xx2,xc2⟩
  have E3:J.kI K X3:=⟨WT,xg3,xx3,xc3⟩
  have TB:TabOk K jC ff QB:=J.Qu ⟨⟨X0,X0,D6,D6,E0,pk0⟩,⟨X0,X1,D6,D7,E0,pk1⟩,⟨X0,X2,D6,D8,E0,pk2⟩,⟨X0,X3,D6,D9,E0,pk3⟩,⟨X1,X0,D7,D6,E1,pk4⟩,⟨X1,X1,D7,D7,E1,pk5⟩,⟨X1,X2,D7,D8,E1,pk6⟩,⟨X1,X3,D7,D9,E1,pk7⟩,⟨X2,X0,D8,D6,E2,pk8⟩,⟨X2,X1,D8,D7,E2,pk9⟩,⟨X2,X2,D8,D8,E2,Rx⟩,⟨X2,X3,D8,D9,E2,Ry⟩,⟨X3,X0,D9,D6,E3,Rz⟩,⟨X3,X1,D9,D7,E3,RA⟩,⟨X3,X2,D9,D8,E3,RB⟩,⟨X3,X3,D9,D9,E3,RC⟩,trivial⟩ ⟨⟨X0,D6,E0,pt0⟩,⟨X1,D7,E1,pt1⟩,⟨X2,D8,E2,pt2⟩,⟨X3,D9,E3,pt3⟩,trivial⟩ trivial
  have H1:J.eF l.prog w K mg base 1 "_law_cell_at" 2 bS:=J.aD (ps:=["script","k"]) kb nb d1 (J.ay (c:=ic) (k:=0) trivial ⟨Z0,trivial⟩ trivial TB trivial trivial trivial) qC rfl sQ (λ_ _ _ _ _ _ us hl=>J.ln2 us hl λ_ _=>rfl)
  have H2:J.eF l.prog w K mg base 2 "_law_spot" 1 cI:=J.aD (ps:=["script"]) kb nb d2 (J.ay (c:=kU) (k:=1) trivial trivial ⟨H1.mono (by decide),trivial⟩ TB trivial trivial trivial) wy rfl yF (λ_ _ _ _ _ _ us hl=>J.ra us hl λ_=>rfl)
  have H3:J.eF l.prog w K mg base 1 "_law_digit" 2 ar:=J.aD (ps:=["row","many"]) kb nb d3 (J.ay (c:=jT) (k:=0) trivial trivial trivial TB trivial trivial trivial) t8 rfl wz (λ_ _ _ _ _ _ us hl=>J.ln2 us hl λ_ _=>rfl)
  have H4:J.eF l.prog w K mg base 2 "_law_area" 2 cJ:=J.aD (ps:=["row","spot"]) kb nb d4 (J.ay (c:=kX) (k:=1) trivial trivial ⟨H3.mono (by decide),trivial⟩ TB trivial trivial trivial) wA rfl yG (λ_ _ _ _ _ _ us hl=>J.ln2 us hl λ_ _=>rfl)
  have H5:J.eF l.prog w K mg base 2 "_law_pins" 2 bE:=J.aD (ps:=["row","many"]) kb nb d5 (J.ay (c:=kZ) (k:=1) trivial ⟨Z1,Z2,trivial⟩ ⟨H3.mono (by decide),trivial⟩ TB trivial trivial trivial) wB rfl yH (λ_ _ _ _ _ _ us hl=>J.ln2 us hl λ_ _=>rfl)
  have H6:J.eF l.prog w K mg base 2 "_law_number" 1 dG:=J.aD (ps:=["row"]) kb nb d6 (J.ay (c:=je) (k:=1) trivial trivial ⟨H3.mono (by decide),trivial⟩ TB trivial trivial trivial) sR rfl t9 (λ_ _ _ _ _ _ us hl=>J.ra us hl λ_=>rfl)
  have H7:J.eF l.prog w K mg base 2 "_law_place" 2 cM:=J.aD (ps:=["row","spot"]) kb nb d7 (J.ay (c:=jV) (k:=1) trivial trivial ⟨H3.mono (by decide),trivial⟩ TB trivial trivial trivial) t_ rfl wC (λ_ _ _ _ _ _ us hl=>J.ln2 us hl λ_ _=>rfl)
  have H8:J.eF l.prog w K mg base 3 "_law_leaf" 2 d_:=J.aD (ps:=["row","spot"]) kb nb d8 (J.ay (c:=k7) (k:=2) trivial trivial ⟨H3.mono (by decide),H4.mono (by decide),H5.mono (by decide),H6.mono (by decide),H7.mono (by decide),trivial⟩ TB trivial trivial trivial) wD rfl yI (λ_ _ _ _ _ _ us hl=>J.ln2 us hl λ_ _=>rfl)
  have G9:∀n:Nat,J.eF l.prog w K mg base (3+n) "_law_formula" 3 (bF n):=λn=>by
    induction n with
    | zero=>exact J.KN (ps:=["row","spot","deep"]) kb nb d9 (λ_ _ _ _ _ _ us hl=>J.WC us hl λ_ _ _=>rfl)
    | succ n ih=>exact J.hdf kb nb d9 (J.tk (c:=(k8 (bF n))) (k:=(3+n)) TB ⟨H3.mo,ih,H8.mo,H4.mo,H5.mo,trivial⟩) (qD (bF n)) (sS (bF n))
  have H9:J.eF l.prog w K mg base 9 "_law_formula" 3 aO:=(G9 6)
  have OU:J.eF l.prog w K mg base 10 "_law_content" 3 aV:=J.aD (ps:=["row","spot","deep"]) kb nb Zk (J.ay (c:=ig) (k:=9) trivial trivial ⟨H3.mono (by decide),H9.mono (by decide),trivial⟩ TB trivial trivial trivial) qE rfl sU (λ_ _ _ _ _ _ us hl=>J.WC us hl λ_ _ _=>rfl)
  have H11:J.eF l.prog w K mg base 1 "_law_mixed" 2 eQ:=J.aD (ps:=["cell","k"]) kb nb Zl (J.ay (c:=jX) (k:=0) trivial trivial trivial TB trivial trivial trivial) ua rfl wF (λ_ _ _ _ _ _ us hl=>J.ln2 us hl λ_ _=>rfl)
  have H12:J.eF l.prog w K mg base 2 "_law_stream" 2 cz:=J.aD (ps:=["script","k"]) kb nb RT (J.ay (c:=jg) (k:=1) trivial ⟨Z2,Z0,Z3,trivial⟩ ⟨H11.mono (by decide),H1.mono (by decide),trivial⟩ TB trivial trivial trivial) sV rfl ub (λ_ _ _ _ _ _ us hl=>J.ln2 us hl λ_ _=>rfl)
  have H13:J.eF l.prog w K mg base 11 "_law_cells" 2 eR:=J.aD (ps:=["script","deep"]) kb nb Zm (J.ay (c:=jY) (k:=10) trivial ⟨Z2,trivial⟩ ⟨H2.mono (by decide),OU.mono (by decide),H12.mono (by decide),trivial⟩ TB trivial trivial trivial) ud rfl wG (λ_ _ _ _ _ _ us hl=>J.ln2 us hl λ_ _=>rfl)
  have H14:J.eF l.prog w K mg base 1 "with_room" 1 cX:=J.aD (ps:=["sheet"]) kb nb Zn (J.ay (c:=k_) (k:=0) ⟨⟨_,V0⟩,trivial⟩ ⟨Z0,trivial⟩ trivial TB ⟨⟨X0,mg_of kb nb D6,⟨D6,WQ⟩⟩,trivial⟩ trivial trivial) wH rfl yJ (λ_ _ _ _ _ _ us hl=>J.ra us hl λ_=>rfl)
  have H15:J.eF l.prog w K mg base 1 "is_place" 1 bT:=J.aD (ps:=["place"]) kb nb Zo (J.ay (c:=nh) (k:=0) ⟨⟨_,V1⟩,⟨_,V2⟩,trivial⟩ trivial trivial TB trivial trivial trivial) yK rfl Ao (λ_ _ _ _ _ _ us hl=>J.ra us hl λ_=>rfl)
  have H16:J.eF l.prog w K mg base 2 "made_place" 2 eS:=J.aD (ps:=["row","column"]) kb nb Zp (J.ay (c:=j7) (k:=1) trivial trivial ⟨H15.mono (by decide),trivial⟩ TB ⟨⟨X1,mg_of kb nb D7,⟨D7,WR⟩⟩,trivial⟩ trivial trivial) ue rfl wI (λ_ _ _ _ _ _ us hl=>J.ln2 us hl λ_ _=>rfl)
  have H17:J.eF l.prog w K mg base 1 "part_many" 1 b_:=J.aD (ps:=["word"]) kb nb Zq (J.ay (c:=ll) (k:=0) trivial trivial trivial TB trivial trivial ⟨⟨_,_,_,mg_of kb nb WM,WN,WO,⟨⟨Ci,⟨_,rfl⟩,⟨_,rfl⟩⟩,⟨Cj,⟨_,rfl⟩,⟨_,rfl⟩⟩,⟨Ck,⟨_,rfl⟩,⟨_,rfl⟩⟩,⟨Cm,⟨_,rfl⟩,⟨_,rfl⟩⟩,⟨Co,⟨_,rfl⟩,⟨_,rfl⟩⟩,⟨Cp,⟨_,rfl⟩,⟨_,rfl⟩⟩,⟨Cq,⟨_,rfl⟩,⟨_,rfl⟩⟩,⟨Cr,⟨_,rfl⟩,⟨_,rfl⟩⟩,⟨Cs,⟨_,rfl⟩,⟨_,rfl⟩⟩,⟨Cu,⟨_,rfl⟩,⟨_,rfl⟩⟩,⟨wW,⟨_,rfl⟩,⟨_,rfl⟩⟩,⟨wX,⟨_,rfl⟩,⟨_,rfl⟩⟩,⟨wY,⟨_,rfl⟩,⟨_,rfl⟩⟩,⟨wZ,⟨_,rfl⟩,⟨_,rfl⟩⟩,⟨w6,⟨_,rfl⟩,⟨_,rfl⟩⟩,⟨w8,⟨_,rfl⟩,⟨_,rfl⟩⟩,⟨w9,⟨_,rfl⟩,⟨_,rfl⟩⟩,⟨w_,⟨_,rfl⟩,⟨_,rfl⟩⟩,⟨xa,⟨_,rfl⟩,⟨_,rfl⟩⟩,⟨xb,⟨_,rfl⟩,⟨_,rfl⟩⟩,⟨xc,⟨_,rfl⟩,⟨_,rfl⟩⟩,trivial⟩,by decide+kernel⟩,trivial⟩) wJ rfl yL (λ_ _ _ _ _ _ us hl=>J.ra us hl λ_=>rfl)
  have H18:J.eF l.prog w K mg base 2 "parts_of" 1 cY:=J.aD (ps:=["formula"]) kb nb U' (J.ay (c:=nj) (k:=1) trivial trivial ⟨H17.mono (by decide),trivial⟩ TB trivial trivial trivial) yM rfl Ap (λ_ _ _ _ _ _ us hl=>J.ra us hl λ_=>rfl)
  have H19:J.eF l.prog w K mg base 3 "level_below" 1 dH:=J.aD (ps:=["level"]) kb nb Zr (J.ay (c:=ji) (k:=2) trivial trivial ⟨H18.mono (by decide),trivial⟩ TB trivial trivial trivial) sW rfl uf (λ_ _ _ _ _ _ us hl=>J.ra us hl λ_=>rfl)
  have H20:J.eF l.prog w K mg base 1 "has_area" 1 ij:=J.aD (ps:=["word"]) kb nb Zs (J.ay (c:=nr) (k:=0) ⟨⟨_,[.str "sum",.str "count",.str "least",.str "greatest",.str "find"],_,_,_,V3,w3,rfl,rfl,(show(5:Nat)<=afb by decide),(.cons ⟨_,rfl⟩ (.cons ⟨_,rfl⟩ (.cons ⟨_,rfl⟩ (.cons ⟨_,rfl⟩ (.cons ⟨_,rfl⟩ .nil))))),⟨⟨rfl,by decide+kernel⟩,⟨⟨rfl,by decide+kernel⟩,⟨⟨rfl,by decide+kernel⟩,⟨⟨rfl,by decide+kernel⟩,⟨⟨rfl,by decide+kernel⟩,trivial⟩⟩⟩⟩⟩⟩,trivial⟩ trivial trivial TB trivial trivial trivial) yN rfl Aq (λ_ _ _ _ _ _ us hl=>J.ra us hl λ_=>rfl)
  have H21:J.eF l.prog w K mg base 1 "is_whole" 1 cN:=J.aD (ps:=["thing"]) kb nb Zt (J.ay (c:=ny) (k:=0) trivial ⟨Z4,Z5,Z6,trivial⟩ trivial TB trivial trivial trivial) yO rfl Ar (λ_ _ _ _ _ _ us hl=>J.ra us hl λ_=>rfl)
  have H22:J.eF l.prog w K mg base 1 "is_text_sign" 1 cZ:=J.aD (ps:=["number"]) kb nb Zu (J.ay (c:=il) (k:=0) trivial trivial trivial TB trivial trivial trivial) qF rfl sX (λ_ _ _ _ _ _ us hl=>J.ra us hl λ_=>rfl)
  have H23:J.eF l.prog w K mg base 2 "has_text_signs" 1 cF:=J.aD (ps:=["text"]) kb nb Zv (J.ay (c:=fh) (k:=1) trivial ⟨Z7,Z8,trivial⟩ ⟨H22.mono (by decide),trivial⟩ TB trivial trivial trivial) oP rfl pT (λ_ _ _ _ _ _ us hl=>J.ra us hl λ_=>rfl)
  have H24:J.eF l.prog w K mg base 3 "is_text" 1 di:=J.aD (ps:=["thing"]) kb nb Zw (J.ay (c:=pV) (k:=2) ⟨⟨_,V4⟩,trivial⟩ ⟨Z4,Z9,Z0,trivial⟩ ⟨H23.mono (by decide),trivial⟩ TB trivial trivial trivial) As rfl DX (λ_ _ _ _ _ _ us hl=>J.ra us hl λ_=>rfl)
  have H25:J.eF l.prog w K mg base 2 "is_number_row" 2 a9:=J.aD (ps:=["thing","many"]) kb nb Zx (J.ay (c:=f6) (k:=1) trivial ⟨Z4,Z1,Z7,Z0,trivial⟩ ⟨H21.mono (by decide),trivial⟩ TB trivial trivial trivial) pW rfl qG (λ_ _ _ _ _ _ us hl=>J.ln2 us hl λ_ _=>rfl)
  have H26:J.eF l.prog w K mg base 3 "are_pins" 2 c7:=J.aD (ps:=["thing","many"]) kb nb Zy (J.ay (c:=nC) (k:=2) trivial ⟨Z7,trivial⟩ ⟨H25.mono (by decide),trivial⟩ TB trivial trivial trivial) yP rfl Au (λ_ _ _ _ _ _ us hl=>J.ln2 us hl λ_ _=>rfl)
  have H27:J.eF l.prog w K mg base 2 "has_corners" 1 dI:=J.aD (ps:=["area"]) kb nb Zz (J.ay (c:=jk) (k:=1) trivial trivial ⟨H15.mono (by decide),trivial⟩ TB trivial trivial trivial) sY rfl ug (λ_ _ _ _ _ _ us hl=>J.ra us hl λ_=>rfl)
  have H28:J.eF l.prog w K mg base 1 "area_many" 1 fO:=J.aD (ps:=["area"]) kb nb ZA (J.ay (c:=lu) (k:=0) trivial trivial trivial TB trivial trivial trivial) wK rfl yQ (λ_ _ _ _ _ _ us hl=>J.ra us hl λ_=>rfl)
  have H29:J.eF l.prog w K mg base 3 "is_area" 1 gT:=J.aD (ps:=["area"]) kb nb ZC (J.ay (c:=pY) (k:=2) ⟨⟨_,V5⟩,trivial⟩ trivial ⟨H27.mono (by decide),H28.mono (by decide),trivial⟩ TB trivial trivial trivial) Av rfl DY (λ_ _ _ _ _ _ us hl=>J.ra us hl λ_=>rfl)
  have H30:J.eF l.prog w K mg base 4 "is_tail" 2 bK:=J.aD (ps:=["word","tail"]) kb nb ZD (J.ay (c:=pZ) (k:=3) trivial ⟨Z0,trivial⟩ ⟨H20.mono (by decide),H21.mono (by decide),H24.mono (by decide),H25.mono (by decide),H15.mono (by decide),H26.mono (by decide),H29.mono (by decide),trivial⟩ TB trivial trivial trivial) Aw rfl DZ (λ_ _ _ _ _ _ us hl=>J.ln2 us hl λ_ _=>rfl)
  have H31:J.eF l.prog w K mg base 2 "tail_of" 1 gU:=J.aD (ps:=["formula"]) kb nb ZE (J.ay (c:=p7) (k:=1) trivial trivial ⟨H17.mono (by decide),trivial⟩ TB trivial trivial trivial) Ax rfl D0 (λ_ _ _ _ _ _ us hl=>J.ra us hl λ_=>rfl)
  have H32:J.eF l.prog w K mg base 5 "is_piece" 1 iq:=J.aD (ps:=["thing"]) kb nb ZF (J.ay (c:=nE) (k:=4) trivial ⟨Z4,Z1,Z0,Z9,trivial⟩ ⟨H30.mono (by decide),H17.mono (by decide),H31.mono (by decide),H18.mono (by decide),trivial⟩ TB trivial trivial ⟨⟨_,_,_,mg_of kb nb WM,WN,WO,⟨⟨Ci,⟨_,rfl⟩,⟨_,rfl⟩⟩,⟨Cj,⟨_,rfl⟩,⟨_,rfl⟩⟩,⟨Ck,⟨_,rfl⟩,⟨_,rfl⟩⟩,⟨Cm,⟨_,rfl⟩,⟨_,rfl⟩⟩,⟨Co,⟨_,rfl⟩,⟨_,rfl⟩⟩,⟨Cp,⟨_,rfl⟩,⟨_,rfl⟩⟩,⟨Cq,⟨_,rfl⟩,⟨_,rfl⟩⟩,⟨Cr,⟨_,rfl⟩,⟨_,rfl⟩⟩,⟨Cs,⟨_,rfl⟩,⟨_,rfl⟩⟩,⟨Cu,⟨_,rfl⟩,⟨_,rfl⟩⟩,⟨wW,⟨_,rfl⟩,⟨_,rfl⟩⟩,⟨wX,⟨_,rfl⟩,⟨_,rfl⟩⟩,⟨wY,⟨_,rfl⟩,⟨_,rfl⟩⟩,⟨wZ,⟨_,rfl⟩,⟨_,rfl⟩⟩,⟨w6,⟨_,rfl⟩,⟨_,rfl⟩⟩,⟨w8,⟨_,rfl⟩,⟨_,rfl⟩⟩,⟨w9,⟨_,rfl⟩,⟨_,rfl⟩⟩,⟨w_,⟨_,rfl⟩,⟨_,rfl⟩⟩,⟨xa,⟨_,rfl⟩,⟨_,rfl⟩⟩,⟨xb,⟨_,rfl⟩,⟨_,rfl⟩⟩,⟨xc,⟨_,rfl⟩,⟨_,rfl⟩⟩,trivial⟩,by decide+kernel⟩,trivial⟩) yR rfl Ay (λ_ _ _ _ _ _ us hl=>J.ra us hl λ_=>rfl)
  have H33:J.eF l.prog w K mg base 6 "made_formula" 1 c9:=J.aD (ps:=["formula"]) kb nb ZG (J.ay (c:=iy) (k:=5) ⟨⟨_,V6⟩,⟨_,V7⟩,trivial⟩ ⟨Z0,Z7,trivial⟩ ⟨H19.mono (by decide),H32.mono (by decide),trivial⟩ TB ⟨⟨X2,mg_of kb nb D8,⟨D8,WS⟩⟩,trivial⟩ trivial trivial) qH rfl sZ (λ_ _ _ _ _ _ us hl=>J.ra us hl λ_=>rfl)
  have H34:J.eF l.prog w K mg base 1 "is_great" 1 iz:=J.aD (ps:=["number"]) kb nb ZH (J.ay (c:=nH) (k:=0) trivial ⟨Z10,trivial⟩ trivial TB trivial trivial trivial) yS rfl Az (λ_ _ _ _ _ _ us hl=>J.ra us hl λ_=>rfl)
  have H35:J.eF l.prog w K mg base 2 "is_number" 1 fP:=J.aD (ps:=["content"]) kb nb ZI (J.ay (c:=lz) (k:=1) trivial trivial ⟨H21.mono (by decide),H34.mono (by decide),trivial⟩ TB trivial trivial trivial) wL rfl yT (λ_ _ _ _ _ _ us hl=>J.ra us hl λ_=>rfl)
  have H36:J.eF l.prog w K mg base 7 "made_content" 1 bU:=J.aD (ps:=["content"]) kb nb ZJ (J.ay (c:=iA) (k:=6) trivial ⟨Z4,Z1,trivial⟩ ⟨H33.mono (by decide),H24.mono (by decide),H35.mono (by decide),trivial⟩ TB ⟨⟨X3,mg_of kb nb D9,⟨D9,WT⟩⟩,trivial⟩ trivial trivial) qI rfl s_ (λ_ _ _ _ _ _ us hl=>J.ra us hl λ_=>rfl)
  have H37:J.eF l.prog w K mg base 8 "put_content" 3 bO:=J.aD (ps:=["sheet","place","content"]) kb nb ZK (J.ay (c:=jl) (k:=7) trivial trivial ⟨H16.mono (by decide),H36.mono (by decide),trivial⟩ TB trivial trivial trivial) tm rfl uh (λ_ _ _ _ _ _ us hl=>J.WC us hl λ_ _ _=>rfl)
  have H38:J.eF l.prog w K mg base 9 "made_sheet" 1 bf:=J.aD (ps:=["cells"]) kb nb ZL (J.ay (c:=kg) (k:=8) trivial trivial ⟨H14.mono (by decide),H37.mono (by decide),trivial⟩ TB trivial trivial trivial) ui rfl wM (λ_ _ _ _ _ _ us hl=>J.ra us hl λ_=>rfl)
  have H39:J.eF l.prog w K mg base 9 "with_changes" 2 de:=J.aD (ps:=["sheet","changes"]) kb nb ZM (J.ay (c:=iC) (k:=8) trivial ⟨Z11,trivial⟩ ⟨H37.mono (by decide),trivial⟩ TB trivial trivial trivial) qJ rfl tD (λ_ _ _ _ _ _ us hl=>J.ln2 us hl λ_ _=>rfl)
  have H40:J.eF l.prog w K mg base 10 "with_cells" 2 dj:=J.aD (ps:=["sheet","changes"]) kb nb ZN (J.ay (c:=kj) (k:=9) trivial trivial ⟨H14.mono (by decide),H39.mono (by decide),trivial⟩ TB trivial trivial trivial) uj rfl wN (λ_ _ _ _ _ _ us hl=>J.ln2 us hl λ_ _=>rfl)
  have H41:J.eF l.prog w K mg base 1 "has_formula" 2 cR:=J.aD (ps:=["sheet","place"]) kb nb ZO (J.ay (c:=jn) (k:=0) trivial ⟨Z4,Z1,trivial⟩ trivial TB trivial trivial trivial) tE rfl uk (λ_ _ _ _ _ _ us hl=>J.ln2 us hl λ_ _=>rfl)
  have H42:J.eF l.prog w K mg base 2 "formula_places" 1 cG:=J.aD (ps:=["sheet"]) kb nb ZP (J.ay (c:=fm) (k:=1) trivial ⟨Z12,trivial⟩ ⟨H41.mono (by decide),trivial⟩ TB trivial trivial trivial) oQ rfl p8 (λ_ _ _ _ _ _ us hl=>J.ra us hl λ_=>rfl)
  exact J.Qt Fu (J.ay (c:=Ip) (k:=11) trivial ⟨Z13,Z11,Z2,Z1,Z4,Z12,trivial⟩ ⟨H2.mono (by decide),H13.mono (by decide),H12.mono (by decide),H38.mono (by decide),H40.mono (by decide),H42.mono (by decide),H3.mono (by decide),OU.mono (by decide),trivial⟩ TB trivial trivial trivial) QC rfl UM
end K22
open PySem PySem.W PyProof.Rows
set_option maxRecDepth 100000 in
set_option maxHeartbeats 0 in
theorem PySem.Challenge.cw_onelook_k22_sheets_made_holds : PySem.Challenge.rw_onelook_k22_sheets_made.Holds := by
  refine K22.head ?_
  k_fill
  refine L2.walk_of (l:=PySem.Challenge.rw_onelook_k22_sheets_made) (n:=63) (k:=12) (x:="script") (CX:=fun w => J.CXJ PySem.Challenge.rw_onelook_k22_sheets_made.prog w) (sp:=fun w => J.spW _ 1 K22.F_law) rfl (by decide) rfl ⟨rfl,by decide,by decide⟩ (fun w h Y => PySem.W.kIn_of Y) ?F (fun w H a ns hl hO hS => J.law_sp K22.law_true H a ns hl (J.OnlyT.of hO) hS (J.tb_none ?Ta ?Tb ?Tc ?Td)) (fun _ _ _ _ _ z => z.elim fun _ y => y.elim fun _ x => x.2)
  case F=>
    intro w mg fa h KX G hmg
    refine' K22.all_mk KX G hmg ?d1 ?d2 ?d3 ?d4 ?d5 ?d6 ?d7 ?d8 ?d9 ?Zk ?Zl ?RT ?Zm ?Zn ?Zo ?Zp ?Zq ?U' ?Zr ?Zs ?Zt ?Zu ?Zv ?Zw ?Zx ?Zy ?Zz ?ZA ?ZC ?ZD ?ZE ?ZF ?ZG ?ZH ?ZI ?ZJ ?ZK ?ZL ?ZM ?ZN ?ZO ?ZP ?ZQ ?z0 ?z1 ?z2 ?z3 ?z4 ?z5 ?z6 ?z7 ?z8 ?z9 ?ZR ?ZS ?ZT ?ZU ?v0 ?v1 ?v2 ?v3 ?w3 ?v4 ?v5 ?v6 ?v7 ?WM ?WN ?WO ?Ci ?Cj ?Ck ?Cm ?Co ?Cp ?Cq ?Cr ?Cs ?Cu ?wW ?wX ?wY ?wZ ?w6 ?w8 ?w9 ?w_ ?xa ?xb ?xc ?D6 ?WQ ?ZV ?ZW ?ZX ?D7 ?WR ?ZY ?ZZ ?Z_ ?D8 ?WS ?Z' ?xx2 ?xc2 ?D9 ?WT ?xg3 ?xx3 ?xc3 ?pk0 ?pk1 ?pk2 ?pk3 ?pk4 ?pk5 ?pk6 ?pk7 ?pk8 ?pk9 ?Rx ?Ry ?Rz ?RA ?RB ?RC ?pt0 ?pt1 ?pt2 ?pt3
    case d1 | d2 | d3 | d4 | d5 | d6 | d7 | d8 | d9 | Zk | Zl | RT | Zm | Zn | Zo | Zp | Zq | U' | Zr | Zs | Zt | Zu | Zv | Zw | Zx | Zy | Zz | ZA | ZC | ZD | ZE | ZF | ZG | ZH | ZI | ZJ | ZK | ZL | ZM | ZN | ZO | ZP | ZQ=>refine' J.OO ?a ?l ?c ?k;(case a=>k_is);(case l=>k_is);(case c=>k_is);(case k=>k_is)
    case z0 | z1 | z2 | z3 | z4 | z5 | z6 | z7 | z8 | z9 | ZR | ZS | ZT | ZU | v0 | v1 | v2 | v3 | w3 | v4 | v5 | v6 | v7 | WM | WN=>k_is
    case WO | Ci | Cj | Ck | Cm | Co | Cp | Cq | Cr | Cs | Cu | wW | wX | wY | wZ | w6 | w8 | w9 | w_ | xa | xb | xc=>rfl
    case D6=>k_is
    case WQ=>k_exc
    case ZV | ZW | ZX | D7=>k_is
    case WR=>k_exc
    case ZY | ZZ | Z_ | D8=>k_is
    case WS=>k_exc
    case Z' | xx2 | xc2 | D9=>k_is
    case WT=>k_exc
    case xg3 | xx3 | xc3=>k_is
    case pk0 | pk1 | pk2 | pk3 | pk4 | pk5 | pk6 | pk7 | pk8 | pk9 | Rx | Ry | Rz | RA | RB | RC | pt0 | pt1 | pt2 | pt3=>kit_is
  (case Ta=>k_is)
  (case Tb=>k_is)
  (case Tc=>k_is)
  (case Td=>k_is)
