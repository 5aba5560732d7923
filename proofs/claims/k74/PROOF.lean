import PyProof.Rows.All
import Wide.All
import OpenK.AllK
import Wide.FinOn
import Lean
import PyProof.EqAt
import PyProof.EqKinds
import PyProof.TupleCall
import PySem.Challenge.RW_onelook_k74_rows_taken_and_put
open PySem.Around renaming under_plainId→RX
open Array renaming all_eq_true_iff_forall_mem→Le,forIn_toList→AA,getElem?_eq_getElem→RO,getElem?_eq_none→RP,length_toList→wK,toList_extract→RJ
open Bool renaming and_eq_true→cz,false_and→AH,false_eq_true→fU,false_ne_true→bD,not_false→vK,not_true→mF,true_and→zP
open PySem.Builtin.Dict renaming addKeywords→FC,dictSlotArgs→zQ,merge→NW,mergeDict→NY,readDirectly→NX,samePairs→N4,selfAndRest→FA,showsAll→vF,updateFrom→rD
open PySem.Builtin.Dict_items renaming ownedTupleFields→NZ,ownedTupleIsFree→N1,ownsTuple→vG,pairFromOwner→N0
open PySem.Builtin.List renaming listFitsIndex→vM,listTooLong→qI
open PySem.Builtin.Range renaming rangeSize→Md
open PySem.Builtin.Slice renaming sliceAdjust→DT,sliceApplied→Mu,slicePlaces→yX
open PySem.Builtin.SmallTypes renaming nextOf→zT,ownedTupleIsFree→zR
open PySem.Builtin.Str renaming occurrences→Ml
open PySem.Builtin.Tuple renaming tupleExact→yY,tupleHashOf→yJ,tupleIsExact→NC,tupleItemsOf→yK
open PySem.Calls renaming Name_function_global→L5,callWith_builtin→y3,evalArgs_plain→y6,spliced_cons→qB,spliced_nil→yT
open Classical renaming propDecidable→EC
open PySem.EntryCells renaming newEntry→ML
open PySem.F renaming args_dict_init_2→Fz,entry_dict_init→Fy,kt_called_dict→Fw,kt_typeCall_dict_1→Fx,slot_int_rmul→y8,slot_zip_next→zU,typeOf_object_class→EG
open False renaming elim→aa
open ForInStep renaming yield→oJ
open PySem.Heap renaming ExtBut→Ff,MadeExcOf→vf,SameBut→kK,get?_push_of_some→aL,get?_push_size→bz,get?_update_other→oM,get?_update_self→oK,lt_size→aC,size_push→vz
open PySem.Heap.SameBut renaming update→rB
open PySem.Heap.UpToSlots renaming refl→M'
open Int renaming natCast_add→Ho,toNat_natCast→vH
open PyProof.Rows.IsTup renaming new→yZ
open List renaming all_cons→dh,all_eq_true→oT,all_map→E_,any_cons→fY,append_assoc→cJ,append_nil→jO,contains_cons→zm,drop_eq_getElem_cons→qU,drop_length→vo,drop_of_length_le→Fb,drop_zero→EZ,eq_nil_of_length_eq_zero→zh,eraseIdx_cons_succ→Fq,extract_eq_take_drop→Nz,filterMap_cons→uO,filter_cons→hI,filter_cons_of_neg→ES,filter_cons_of_pos→ER,filter_eq_nil_iff→O',find?_cons→u6,flatten_cons→jP,foldl→qG,foldl_append→FY,foldl_cons→DZ,forIn_cons→uI,forIn_nil→zt,getD_eq_getElem?_getD→mM,getElem?_append_left→fX,getElem?_append_right→mI,getElem?_eq_getElem→cK,getElem?_eq_none→n8,getElem?_map→fg,getElem?_replicate→Iq,getElem?_set_ne→cC,getElem?_set_self→iV,getElem?_toArray→Jx,getElem_mem→qh,length→dq,length_append→cY,length_cons→gD,length_drop→nJ,length_filter_le→u9,length_map→aB,length_nil→u7,length_replicate→AI,length_take→dt,lookup_cons→fq,map_append→cq,map_congr_left→mf,map_cons→ay,map_drop→vY,map_map→aW,map_nil→lL,map_replicate→BV,map_take→lW,mem_append_left→lG,mem_append_right→ip,mem_cons→cZ,mem_cons_of_mem→aN,mem_cons_self→aR,mem_of_getElem?→uS,mem_of_mem_take→vN,nil_append→lK,nodup_append→BL,nodup_cons→BF,nodup_nil→qc,not_mem_nil→dC,of_mem_zip→uR,range→ig,range_succ_eq_map→vB,replicate→ar,replicate_succ→fk,set_cons_succ→wy,set_cons_zero→wz,size_toArray→aM,take_append_drop→Jz,take_of_length_le→JB
open PySem.NameKind renaming cell→eT,free→eS
open Nat renaming add_comm→AN,add_lt_add_left→Bn,le_add_right→jZ,le_of_eq→p_,le_of_lt→AE,le_refl→au,le_succ→nY,le_trans→bg,lt_irrefl→cX,lt_of_lt_of_le→bt,mul_comm→u0,mul_le_mul→BC,ne_of_gt→lI,ne_of_lt→bu,not_lt_of_le→Bm,sub_eq_zero_of_le→A_,sub_self→qe,succ_le_succ→uL,succ_mul→lJ,zero_add→wx,zero_le→bY
open Ne renaming symm→bZ
open PySem.Obj renaming data_mapDictKeys→Bg,data_mapFields→qd,isFreed_of_fields→AR,mapFields→jQ,mapSeq→nK
open Option renaming isNone_none→Bf,isSome_some→IJ,map_some→nr
open Or renaming inr→lM
open PUnit renaming unit→nk
open PySem.PassesOwn renaming leaving→Ku
open PySem.PyData renaming canLayAll0→uJ,depthAll→uK,eqv→bf,eqvAll→eR,int→qr,list→vj,strOk→aZ,tuple→AZ
open PyProof.Rows renaming callWith_type1→nG,slot_tuple_getitem→uT,Keyed→acT
open PySem.SeqAt.EqAt renaming int_none→HH,int_str→HG,none_int→HK,none_str→HL,same→HM,str_int→HI,str_none→HJ
open PySem.SeqAt renaming eqBoolOverData→HQ
open PySem.Shared renaming TypeIs→ir
open Std.Legacy.Range renaming forIn_eq_forIn_range'→J0
open PySem.Str renaming ofString→fh
open Subtype renaming ext→AD
open True renaming intro→qa
open PySem.Txt renaming slice→lS
open PySem.Value renaming bool→pZ,builtin→iX,int→lF,none→bp,ref→aE,str→uH,type→iU
open PySem renaming Addr→acr,Around→acs,FuncData→acu,NameKind→acv,Program→acw,Shared→acx,Value→acy,World→acz,behindInMarks→acA,binaryOp→acB,bootBuiltins→acC,codeAny→acD,compPost→acE,compareOp→acF,foldedSetIterable→acG,isSubtype_type→acH,mainGlobals→acI,sizeLine→acJ,starEach→acK,wpAny→acL,wpAny_bind→acM,wpAny_dictEntries→acN,wpAny_holding→acO,wpAny_mono→acP,wpAny_newObj_type→acQ,wpAny_pure→acR,wpAny_truthy_bool→acS
noncomputable section
set_option Elab.async false
set_option linter.all false
set_option maxRecDepth 100000
namespace L2
open PySem PySem.Spec PyProof.Rows
inductive Key where
 | inl (i:Int) | inr (x:Str) | aI
 deriving DecidableEq
def qu:Key->acy->Bool
 | .inl k,v=>Value.isInt k v
 | .inr x,v=>Value.isStrOf x v
 | .aI,v=>(match v with | .none=>true | _=>false)
def HF(w:acz):Key->Int
 | .inl k=>hashInt k
 | .inr x=>hashStr w x
 | .aI=>reduceHash 4238894112
theorem dE:∀{k:Key}{v:acy},qu k v=true->(∃i t,k=Key.inl i/\v=lF i t)\/(∃x t,k=Key.inr x/\v=uH x t)\/(k=Key.aI/\v=bp)
 | .inl i,v,h=>by
  obtain⟨t,e⟩:=Value.isInt_shape (k:=i) (v:=v) h
  exact .inl ⟨i,t,rfl,e⟩
 | .inr x,v,h=>by
  obtain⟨t,e⟩:=Value.isStrOf_shape (x:=x) (v:=v) h
  exact .inr (.inl ⟨x,t,rfl,e⟩)
 | .aI,v,h=>by
  cases v<;>first | exact .inr (.inr ⟨rfl,rfl⟩) | (unfold qu at h;cases h)
theorem BW(i:Int)(t:Tok):qu (.inl i) (.int i t)=true:=by simp[qu,Value.isInt]
theorem BX(x:Str)(t:Tok):qu (.inr x) (.str x t)=true:=by simp[qu,Value.isStrOf]
theorem LR(a b:Int):decide ((Key.inl a:Key)=Key.inl b)=(a == b):=by
 by_cases e:a=b
 ·subst e;simp
 ·have h:¬(Key.inl a:Key)=Key.inl b:=λq=>e (Key.inl.inj q)
  rw[decide_eq_false h]
  exact(beq_eq_false_iff_ne.mpr e).symm
theorem LS(a b:Str):decide ((Key.inr a:Key)=Key.inr b)=decide (a=b):=by
 by_cases e:a=b
 ·subst e;simp
 ·have h:¬(Key.inr a:Key)=Key.inr b:=λq=>e (Key.inr.inj q)
  rw[decide_eq_false h,decide_eq_false e]
theorem qv{prog:acw}{w:acz}{A:acs}{E:acy->acx->Prop}{s:acx}{Q:Int->acx->Prop}(h:Q (reduceHash 4238894112) { s with toks:=s.toks+1 }):acL (model prog w) A (PySem.pyHash .none) Q E s :=
 PySem.W.pyHash_slot (T:="NoneType") rfl F.slot_NoneType_hash F.entry_NoneType_hash (F.args_NoneType_hash_1 _) (beq_builtin_none _) (.inl rfl) (acM (acR (acM (wpAny_mkInt (acR ⟨_,_,rfl,h⟩)))))
def bq(prog:acw)(w:acz):PySem.KeyKind prog w Key where
 is:=qu
 hash:=HF w
 inj:=λv a b ha hb=>by
  rcases dE ha with ⟨i,t,rfl,rfl⟩ | ⟨x,t,rfl,rfl⟩ | ⟨rfl,rfl⟩<;>rcases dE hb with ⟨j,u,rfl,e⟩ | ⟨y,u,rfl,e⟩ | ⟨rfl,e⟩<;>cases e<;>rfl
 byValue:=λk v h=>by
  rcases dE h with ⟨i,t,rfl,rfl⟩ | ⟨x,t,rfl,rfl⟩ | ⟨rfl,rfl⟩<;>rfl
 pyHash:=λhv h=>by
  rcases dE hv with ⟨i,t,rfl,rfl⟩ | ⟨x,t,rfl,rfl⟩ | ⟨rfl,rfl⟩
  ·exact wpAny_pyHash_int h
  ·exact wpAny_pyHash_str h
  ·exact qv h
 eqBool:=λ{A E s a b u v Q} hu hv h=>by
  have no:a≠b->Q false s:=λn=>by rw[decide_eq_false n] at h;exact h
  rcases dE hu with ⟨i,t,rfl,rfl⟩ | ⟨x,t,rfl,rfl⟩ | ⟨rfl,rfl⟩<;>rcases dE hv with ⟨j,u,rfl,rfl⟩ | ⟨y,u,rfl,rfl⟩ | ⟨rfl,rfl⟩
  ·rw[LR] at h;exact wpAny_eqBool_int h
  ·exact HG i t y u _ _ _ _ (no nofun)
  ·exact HH i t _ _ _ _ (no nofun)
  ·exact HI x t j u _ _ _ _ (no nofun)
  ·rw[LS] at h;exact wpAny_eqBool_str h
  ·exact HJ x t _ _ _ _ (no nofun)
  ·exact HK j u _ _ _ _ (no nofun)
  ·exact HL y u _ _ _ _ (no nofun)
  ·exact HM .none _ _ _ _ (by simpa using h)
 «strs»:=λk x t v h=>by
  rcases dE h with ⟨i,u,rfl,e⟩ | ⟨y,u,rfl,e⟩ | ⟨rfl,e⟩<;>cases e
  cases v<;>rfl
theorem wH(prog:acw)(w:acz)(i:Int)(t:Tok):(bq prog w).is (.inl i) (.int i t)=true:=BW i t
theorem wI(prog:acw)(w:acz)(x:Str)(t:Tok):(bq prog w).is (.inr x) (.str x t)=true:=BX x t
end L2
namespace NK
open PySem L2
def kd:Nat->PyData->Bool
 | _,.none=>true
 | _,.int _=>true
 | _,.str x=>aZ x
 | n+1,.tuple xs=>xs.all (kd n)
 | _,_=>false
def kh(w:acz):Nat->PyData->Int
 | _,.none=>HF w .aI
 | _,.int i=>HF w (.inl i)
 | _,.str x=>HF w (.inr x)
 | n+1,.tuple xs=>reduceHash (yJ (xs.map (kh w n)))
 | _,_=>0
def Qu:Nat->PyData->Nat
 | n+1,.tuple xs=>(xs.map (Qu n)).sum+1
 | _,_=>1
def Rd(h:Heap)(v:acy)(d:PyData):Prop:=∃as,Reads h v d as
inductive BY(h:Heap):List acy->List PyData->Prop
 | nil:BY h [] []
 | cons {v:acy} {d:PyData} {vs:List acy} {ds:List PyData}:Rd h v d->BY h vs ds->BY h (v::vs) (d::ds)
theorem BY.of{h:Heap}:∀{vs:List acy}{ds:List PyData}{as:List acr},ReadsAll h vs ds as->BY h vs ds
 | _,_,_,.nil=> .nil
 | _,_,_,.cons r rs=> .cons ⟨_,r⟩ (BY.of rs)
theorem BY.all{h:Heap}{vs:List acy}{ds:List PyData}(r:BY h vs ds):∃as,ReadsAll h vs ds as:=by
 induction r with
 | nil=>exact⟨_,.nil⟩
 | cons a _ ih=>
  obtain⟨as,ra⟩:=a
  obtain⟨bs,rb⟩:=ih
  exact⟨_,.cons ra rb⟩
theorem Rd.tup{h:Heap}{v:acy}{xs:List PyData}(r:Rd h v (.tuple xs)):∃a o vs n,v= .ref a/\h.get? a=some o/\o.cls= .type "tuple"/\o.data= .seq vs n/\BY h vs.toList xs:=by
 obtain⟨as,r⟩:=r
 cases r with
 | tuple h1 h2 h3 h4=>exact⟨_,_,_,_,rfl,h1,h2,h3,.of h4⟩
section
variable {prog:acw} {w:acz} {E:acy->acx->Prop}
theorem s_{n:Nat}(ih:∀(d:PyData)(v:acy)(A:acs)(s:acx)(Q:Int->acx->Prop),kd n d=true->Rd s.heap v d->A.units+n < cLine->Q (kh w n d) { s with toks:=s.toks+Qu n d }->acL (model prog w) A (pyHash v) Q E s) :
  ∀(xs:List PyData)(vs:List acy)(A:acs)(s:acx)(b:Array Int)(Q:Array Int->acx->Prop),xs.all (kd n)=true->BY s.heap vs xs->A.units+n < cLine->
  (∀b':Array Int,b'.toList=b.toList++xs.map (kh w n)->Q b' { s with toks:=s.toks+(xs.map (Qu n)).sum })->
  acL (model prog w) A (forIn vs b λx r=>do let h <-pyHash x;pure nk;pure (oJ (r.push h))) Q E s
 | [],_,A,s,b,Q,_,x,_,h=>by cases x;exact acR (h b (by simp))
 | k::xs,_,A,s,b,Q,hk,x,hu,h=>by
  cases x with
  | cons x1 x2=>
   rw[dh,cz] at hk
   rw[uI]
   refine acM (acM (ih k _ A s _ hk.1 x1 hu ?_))
   refine acM (acR (acR ?_))
   exact s_ ih xs _ A _ _ Q hk.2 x2 hu λb' hb=>by
    have:=h b' (by rw[hb];simp)
    rw[ay,List.sum_cons,<-Nat.add_assoc] at this
    exact this
theorem LU:∀(n:Nat)(d:PyData)(v:acy)(A:acs)(s:acx)(Q:Int->acx->Prop),kd n d=true->Rd s.heap v d->A.units+n < cLine->Q (kh w n d) { s with toks:=s.toks+Qu n d }->acL (model prog w) A (pyHash v) Q E s:=by
 intro n
 induction n with
 | zero=>
  intro d v A s Q hk r hu h
  obtain⟨as,r⟩:=r
  cases r with
  | none=>exact qv h
  | int i t=>exact wpAny_pyHash_int h
  | str x t=>exact wpAny_pyHash_str h
  | _=>simp[kd] at hk
 | succ n ih=>
  intro d v A s Q hk r hu h
  cases d with
  | tuple xs=>
   obtain⟨a,o,vs,m,rfl,h1,h2,h3,h4⟩:=r.tup
   refine PySem.W.pyHash_slot (T:="tuple") ⟨o,h1,h2⟩ F.slot_tuple_hash F.entry_tuple_hash (F.args_tuple_hash_1 _) (beq_builtin_none _) (.inr (by omega)) ?_
   show acL _ _ (yK (.ref a) >>= _) _ _ s
   refine acM (wpAny_tupleItemsOf h1 h3 ?_)
   refine acM ?_
   rw[<-AA]
   refine s_ ih xs vs.toList A.in1 s #[] _ hk h4 (by simp only[Around.in1_units];omega) λb hb=>?_
   show acL _ _ (retInt (yJ b.toList)) _ _ _
   rw[hb]
   exact acM (wpAny_mkInt (acR ⟨_,_,rfl,h⟩))
  | none=>obtain⟨as,r⟩:=r;cases r;exact qv h
  | int i=>obtain⟨as,r⟩:=r;cases r;exact wpAny_pyHash_int h
  | str x=>obtain⟨as,r⟩:=r;cases r;exact wpAny_pyHash_str h
  | _=>simp[kd] at hk
end
theorem yL:∀(n:Nat)(d:PyData),kd n d=true->d.canLay0=true/\d.depth<=n:=by
 intro n
 induction n with
 | zero=>
  intro d h
  cases d with
  | none=>exact⟨rfl,au _⟩
  | int i=>exact⟨rfl,au _⟩
  | str x=>exact⟨h,au _⟩
  | _=>simp[kd] at h
 | succ n ih=>
  intro d h
  cases d with
  | none=>exact⟨rfl,bY _⟩
  | int i=>exact⟨rfl,bY _⟩
  | str x=>exact⟨h,bY _⟩
  | tuple xs=>
   have hx:xs.all (kd n)=true:=h
   have key:∀xs:List PyData,xs.all (kd n)=true->uJ xs=true/\uK xs<=n:=by
    intro xs
    induction xs with
    | nil=>intro _;exact⟨rfl,bY _⟩
    | cons x r ihr=>
     intro h
     rw[dh,cz] at h
     obtain⟨a,b⟩:=ih x h.1
     obtain⟨c,e⟩:=ihr h.2
     refine⟨?_,?_⟩
     ·show(PyData.canLay0 x&&uJ r)=true
      rw[a,c];rfl
     ·show max x.depth (uK r)<=n
      omega
   obtain⟨a,b⟩:=key xs hx
   exact⟨a,uL b⟩
  | _=>simp[kd] at h
theorem AB:∀(n:Nat)(d e:PyData),kd n d=true->kd n e=true->(bf d e=true↔d=e):=by
 intro n
 induction n with
 | zero=>
  intro d e h k
  cases d<;>cases e<;>first | (simp[kd] at h;done) | (simp[kd] at k;done) | simp[bf]
 | succ n ih=>
  intro d e h k
  cases d with
  | tuple xs=>
   cases e with
   | tuple ys=>
    have key:∀xs ys:List PyData,xs.all (kd n)=true->ys.all (kd n)=true->(eR xs ys=true↔xs=ys):=by
     intro xs
     induction xs with
     | nil=>intro ys _ _;cases ys<;>simp[eR]
     | cons x r ihr=>
      intro ys h k
      cases ys with
      | nil=>simp[eR]
      | cons y t=>
       rw[dh,cz] at h k
       show(bf x y&&eR r t)=true↔_
       rw[cz,ih x y h.1 k.1,ihr t h.2 k.2,List.cons.injEq]
    show eR xs ys=true↔_
    rw[key xs ys h k,PyData.tuple.injEq]
   | _=>first | (simp[kd] at k;done) | simp[bf]
  | _=>cases e<;>first | (simp[kd] at h;done) | (simp[kd] at k;done) | simp[bf]
def Zx:PyData->Bool
 | .tuple _=>true
 | _=>false
def KD:Type:={ d:PyData // kd 8 d=true/\Zx d=true }
instance:DecidableEq KD:=λx y=>decidable_of_iff (bf x.1 y.1=true) ((AB 8 x.1 y.1 x.2.1 y.2.1).trans ⟨AD,λh=>by rw[h]⟩)
theorem KD.eqv{x y:KD}:bf x.1 y.1=decide (x=y):=by
 rw[Bool.eq_iff_iff,AB 8 x.1 y.1 x.2.1 y.2.1,decide_eq_true_eq]
 exact⟨AD,λh=>by rw[h]⟩
theorem HN{h h':Heap}{d0:acr}{o:Obj}{es ep}(ho:h.get? d0=some o)(hd:o.data= .dict es ep)(hs:kK d0 h h'):∀(n:Nat)(d:PyData)(v:acy),kd n d=true->Rd h v d->Rd h' v d:=by
 intro n
 induction n with
 | zero=>
  intro d v hk r
  obtain⟨as,r⟩:=r
  cases r with
  | none=>exact⟨_,.none⟩
  | int i t=>exact⟨_,.int i t⟩
  | str x t=>exact⟨_,.str x t⟩
  | _=>simp[kd] at hk
 | succ n ih=>
  intro d v hk r
  cases d with
  | tuple xs=>
   obtain⟨a,o',vs,m,rfl,h1,h2,h3,h4⟩:=r.tup
   have ne:a≠d0:=λz=>by
    subst z
    rw[h1] at ho
    cases ho
    rw[h3] at hd
    cases hd
   have key:∀(vs:List acy)(xs:List PyData),xs.all (kd n)=true->BY h vs xs->BY h' vs xs:=by
    intro vs xs hx r
    induction r with
    | nil=>exact .nil
    | cons a _ ihr=>
     rw[dh,cz] at hx
     exact .cons (ih _ _ hx.1 a) (ihr hx.2)
   obtain⟨as,ra⟩:=(key _ _ hk h4).all
   exact⟨_,.tuple ((hs.2 a ne).trans h1) h2 h3 ra⟩
  | none=>obtain⟨as,r⟩:=r;cases r;exact⟨_,.none⟩
  | int i=>obtain⟨as,r⟩:=r;cases r;exact⟨_,.int _ _⟩
  | str x=>obtain⟨as,r⟩:=r;cases r;exact⟨_,.str _ _⟩
  | _=>simp[kd] at hk
section
variable {prog:acw} {w:acz} {A:acs} {E:acy->acx->Prop} {s:acx}
theorem HP:∀(n:Nat)(d:PyData)(v:acy)(Q:Bool->acx->Prop),kd n d=true->Rd s.heap v d->Q true s->acL (model prog w) A (eqIsQuiet n v) Q E s:=by
 intro n
 induction n with
 | zero=>
  intro d v Q hk r h
  obtain⟨as,r⟩:=r
  cases r with
  | none=>rw[eqIsQuiet_byValue 0 rfl];exact acR h
  | int i t=>rw[eqIsQuiet_byValue 0 rfl];exact acR h
  | str x t=>rw[eqIsQuiet_byValue 0 rfl];exact acR h
  | _=>simp[kd] at hk
 | succ n ih=>
  intro d v Q hk r h
  cases d with
  | tuple xs=>
   obtain⟨a,o,vs,m,rfl,h1,h2,h3,h4⟩:=r.tup
   have hT:s.TypeIs (.ref a) "tuple":=⟨o,h1,h2⟩
   unfold eqIsQuiet
   refine acM (wpAny_specialOf hT F.slot_tuple_eq.lookup ?_)
   show acL _ _ (isInstance (.ref a) (.type "tuple") >>= _) _ _ s
   refine acM (wpAny_isInstance hT isSubtype_tuple_tuple ?_)
   simp only[mF,fU,if_false]
   refine acM (wpAny_seqItems h1 h3 ?_)
   refine acM ?_
   show acL _ _ (forIn vs _ _) _ _ s
   rw[<-AA]
   refine wpAny_forIn_list _ (λrest r s'=>r.1=none/\s'=s/\∃ds,ds.all (kd n)=true/\BY s.heap rest ds) _ ?_ ?_ _ _ ⟨rfl,rfl,xs,hk,h4⟩
   ·rintro v rest r s' ⟨hr,rfl,ds,hds,hall⟩
    cases hall with
    | cons ra rr=>
     rw[dh,cz] at hds
     refine acM (ih _ _ _ hds.1 ra ?_)
     simp only[mF,fU,if_false]
     exact acR ⟨rfl,rfl,_,hds.2,rr⟩
   ·rintro⟨r1,r2⟩ s' ⟨hr,rfl,_⟩
    simp only at hr
    subst hr
    exact acR h
  | none=>obtain⟨as,r⟩:=r;cases r;rw[eqIsQuiet_byValue _ rfl];exact acR h
  | int i=>obtain⟨as,r⟩:=r;cases r;rw[eqIsQuiet_byValue _ rfl];exact acR h
  | str x=>obtain⟨as,r⟩:=r;cases r;rw[eqIsQuiet_byValue _ rfl];exact acR h
  | _=>simp[kd] at hk
end
def Dx(prog:acw)(w:acz):HeapKind prog w KD where
 is:=λh k a=>Rd h (.ref a) k.1
 hash:=λk=>kh w 8 k.1
 draws:=λk=>Qu 8 k.1
 room:=λA=>A.units+8 < cLine
 inj:=λ{h a x y} hx hy=>by
  obtain⟨as,hx⟩:=hx
  obtain⟨bs,hy⟩:=hy
  exact AD (SeqAt.Reads.unique _ _ _ _ _ (yL 8 _ x.2.1).1 hx hy)
 keeps:=λ{h h' k a d o es ep} x ho hd hs=>HN ho hd hs 8 _ _ k.2.1 x
 pyHash:=λ{A E s k a Q} hu hk h=>LU 8 _ _ A s Q k.2.1 hk hu h
 eqBool:=λ{A E s x y a b Q} hu hx hy h=>by
  obtain⟨as,hx⟩:=hx
  obtain⟨bs,hy⟩:=hy
  obtain⟨l1,d1⟩:=yL 8 _ x.2.1
  obtain⟨l2,d2⟩:=yL 8 _ y.2.1
  refine HQ prog w A E s _ _ _ _ as bs Q hx hy l1 l2 ?_ ?_
  ·have:min x.1.depth y.1.depth<=8:=by omega
   have Tg:A.units+8 < cLine:=hu
   omega
  ·rw[KD.eqv];exact h
 quiet:=λ{A E s k a Q} hk h=>HP 8 _ _ Q k.2.1 hk h
end NK
namespace L2
open PySem PySem.Spec PyProof.Rows
inductive V where
 | aI | bl (b:Bool) | int (i:Int) | str (x:Str) | Qb (b:Array UInt8) | Th (b:UInt64) | ref (a:acr) | ty (n:String)
 deriving DecidableEq
def RelV:V->acy->Prop
 | .aI,u=>u=bp
 | .bl b,u=>u=pZ b
 | .int i,u=>∃t,u=lF i t
 | .str x,u=>∃t,u=uH x t
 | .Qb b,u=>∃t,u=Value.bytes b t
 | .Th b,u=>∃t,u=Value.float b t
 | .ref a,u=>u=aE a
 | .ty n,u=>u=iU n
abbrev Vals:List V->List acy->Prop:=Paired RelV
theorem Vals.length{xs:List V}{us:List acy}(r:Vals xs us):xs.length=us.length:=Paired.length r
theorem Vals.get:∀{xs:List V}{us:List acy}{i:Nat}{x:V},Vals xs us->xs[i]? =some x->∃u,us[i]? =some u/\RelV x u
 | _,_,_,_,.nil,e=>by simp at e
 | _,_,0,_,.cons r _,e=>by simp at e;subst e;exact⟨_,rfl,r⟩
 | _,_,i+1,x,.cons _ t,e=>by
  obtain⟨u,h1,h2⟩:=Vals.get (i:=i) (x:=x) t (by simpa using e)
  exact⟨u,by simpa using h1,h2⟩
theorem Vals.set{x:V}{u:acy}(r:RelV x u):∀{xs:List V}{us:List acy}(i:Nat),Vals xs us->Vals (xs.set i x) (us.set i u)
 | _,_,_,.nil=> .nil
 | _,_,0,.cons _ t=> .cons r t
 | _,_,i+1,.cons q t=> .cons q (Vals.set r i t)
theorem Vals.append:∀{xs ys:List V}{us ws:List acy},Vals xs us->Vals ys ws->Vals (xs++ys) (us++ws)
 | _,_,_,_,.nil,s=>s
 | _,_,_,_,.cons r t,s=> .cons r (Vals.append t s)
theorem Vals.take:∀{xs:List V}{us:List acy}(n:Nat),Vals xs us->Vals (xs.take n) (us.take n)
 | _,_,0,_=> .nil
 | _,_,_+1,.nil=> .nil
 | _,_,n+1,.cons r t=> .cons r (Vals.take n t)
theorem Vals.drop:∀{xs:List V}{us:List acy}(n:Nat),Vals xs us->Vals (xs.drop n) (us.drop n)
 | _,_,0,r=>r
 | _,_,_+1,.nil=> .nil
 | _,_,n+1,.cons _ t=>Vals.drop n t
def yM:Option V->Option acy->Prop
 | some v,some u=>RelV v u
 | none,none=>True
 | _,_=>False
def KV{κ:Type}:List (κ×V)->List (κ×acy)->Prop:=Paired λ(p:κ×V)(q:κ×acy)=>p.1=q.1/\RelV p.2 q.2
def kV:Key->V
 | .inl i=> .int i
 | .inr x=> .str x
 | .aI=> .aI
inductive HO where
 | dN (kvs:List (NK.KD×V))
  | lst (xs:List V)
  | tup (xs:List V)
  | dK (kvs:List (Key×V)) | dT (kvs:List (List Key×V))
  | set (S:Int->Bool) (n:Nat)
  | ins (C dx:acr) (fs:List (Str×V))
  | own (x:acr)
  | xd (fs:List (Str×V))
  | met (f x:acr)
  | Ti (lo hi:Int)
  | eL (o:Obj) (u:HO)
  | jf (ps:Array acy)
  | ext (φ:Heap->Prop)
abbrev Hp:=acr->Option HO
def upd(H:Hp)(a:acr)(o:HO):Hp:=λb=>if b=a then some o else H b
theorem aH{H:Hp}{a:acr}{o:HO}:upd H a o a=some o:=by unfold upd;rw[if_pos rfl]
theorem av{H:Hp}{a b:acr}{o:HO}(h:b≠a):upd H a o b=H b:=by unfold upd;rw[if_neg h]
theorem Dy{H:Hp}{a b:acr}{o u:HO}(h:H a=some o)(h':H b=some u)(d:o≠u):a≠b:=by
 intro e;subst e;rw[h] at h';exact d (Option.some.inj h')
theorem bC{H:Hp}{a b:acr}{o:HO}(h:H a=some o)(h':H b=none):a≠b:=by
 intro e;subst e;rw[h] at h';cases h'
def wJ(h:Heap)(a:acr):Prop:=∀o,h.get? a=some o->o.dict=none
theorem wJ.new(h:Heap)(us:Array acy):wJ (h.push { cls:=.type "tuple",data:=.seq us }) h.objs.size:=λo q=>by
 rw[bz _ rfl] at q
 cases q
 rfl
def KA(H:Hp):Nat->V->PyData->Prop
 | _,.aI,.none=>True
 | _,.int i,.int j=>i=j
 | _,.str x,.str y=>x=y
 | n+1,.ref a,.tuple ds=>∃vs,H a=some (.tup vs)/\Paired (KA H n) vs ds
 | _,_,_=>False
section
variable (P:acw) (w:acz)
def dm(H:Hp)(h:Heap)(a:acr):HO->Prop
 | .lst xs=>xs.length<=acJ/\∃(its:List acy)(n:Nat),Vals xs its/\h.get? a=some { cls:=.type "list",data:=.seq its.toArray n }
 | .tup xs=>xs.length<=acJ/\∃its:List acy,Vals xs its/\IsTup h a its.toArray/\wJ h a
 | .dN kvs=>kvs.length<=acJ/\(a == sysModules)=false/\∃xs:List (NK.KD×acr×acy),
   Paired (λ(p:NK.KD×V)(q:NK.KD×acr×acy)=>p.1=q.1/\KA H 8 (.ref q.2.1) p.1.1/\RelV p.2 q.2.2) kvs xs/\
   ∃o es ep,h.get? a=some o/\o.ExactDict/\o.data= .dict es ep/\es.toList=xs.map (entryOfKey (NK.Dx P w))/\(xs.map (·.1)).Nodup
 | .dK kvs=>kvs.length<=acJ/\(a == sysModules)=false/\∃vs,KV kvs vs/\h.DictOf (bq P w) a vs
 | .dT kvs=>kvs.length<=acJ/\(a == sysModules)=false/\∃xs:List (List Key×acr×acy),
   Paired (λ(p:List Key×V)(q:List Key×acr×acy)=>p.1=q.1/\H q.2.1=some (.tup (p.1.map kV))/\RelV p.2 q.2.2) kvs xs/\
   ∃o es ep,h.get? a=some o/\o.ExactDict/\o.data= .dict es ep/\es.toList=xs.map (entryOfKey (tupleKind (bq P w)))/\(xs.map (·.1)).Nodup
 | .set S n=>h.SetOf (intKind P w) a S n
 | .ins C dx fs=>H dx=some (.own a)/\fs.length<=1000/\dx≠a/\h.get? a=some (PySem.W.instObj C dx)/\
   ∃mA,h.Ns1 dx mA/\(∀f,yM (fs.lookup f) (mA f))/\PySem.Within mA (fs.map (·.1))
 | .own _=>∃o,h.get? a=some o
 | .xd fs=>∃mA,h.Ns1 a mA/\∀f,yM (fs.lookup f) (mA f)
 | .Ti lo hi=>∃t u v,h.get? a=some { cls:=.type "range",data:=.fields #[.int lo t,.int hi u,.int 1 v] }
 | .eL o u=>h.get? a=some o/\dm H h a u
 | .jf ps=>h.get? a=some { cls:=.none,data:=.fields ps }
 | .met f x=>h.get? a=some (PySem.W.methodObj (.ref f) (.ref x))
 | .ext φ=>φ h/\(∃o,h.get? a=some o)/\∀h1 h2:Heap,φ h1->(∀o,h1.get? a=some o->h2.get? a=some o)->φ h2
def ko(H:Hp)(h:Heap):Prop:=∀a o,H a=some o->dm P w H h a o
end
section
variable {P:acw} {w:acz} {H H':Hp} {h h':Heap} {a:acr} {o:HO}
theorem dm.lt(x:dm P w H h a o):a < h.objs.size:=by
 cases o with
 | lst xs=>obtain⟨_,_,_,_,e⟩:=x;exact aC e
 | tup xs=>obtain⟨_,_,_,p,_⟩:=x;exact p.lt
 | dK kvs=>obtain⟨_,_,_,_,o,_,_,e,_⟩:=x;exact aC e
 | dT kvs=>obtain⟨_,_,_,_,o,_,_,e,_⟩:=x;exact aC e
 | dN kvs=>obtain⟨_,_,_,_,o,_,_,e,_⟩:=x;exact aC e
 | set S n=>obtain⟨o,_,_,_,e,_⟩:=x;exact aC e
 | ins C dx fs=>obtain⟨_,_,_,e,_⟩:=x;exact aC e
 | own y=>obtain⟨_,e⟩:=x;exact aC e
 | xd fs=>obtain⟨_,⟨_,_,_,e,_⟩,_⟩:=x;exact aC e
 | Ti lo hi=>obtain⟨_,_,_,e⟩:=x;exact aC e
 | eL ob u=>obtain⟨e,_⟩:=x;exact aC e
 | jf ps=>exact aC (show h.get? a=some _ from x)
 | met f y=>exact aC (show h.get? a=some _ from x)
 | ext φ=>obtain⟨_,⟨_,e⟩,_⟩:=x;exact aC e
theorem Paired.Dz{α β:Type}{F G:α->β->Prop}:∀{l₁:List α}{l₂:List β},Paired F l₁ l₂->(∀a b,F a b->G a b)->Paired G l₁ l₂
 | _,_,.nil,_=> .nil
 | _,_,.cons r t,f=> .cons (f _ _ r) (Paired.Dz t f)
theorem KA.stay(ht:∀b xs,H b=some (.tup xs)->H' b=some (.tup xs)):∀(n:Nat)(v:V)(d:PyData),KA H n v d->KA H' n v d:=by
 intro n
 induction n with
 | zero=>intro v d x;cases v<;>cases d<;>first | exact x | exact aa x
 | succ n ih=>
  intro v d x
  cases v with
  | ref a=>
   cases d with
   | tuple ds=>
    obtain⟨vs,e,p⟩:=x
    exact⟨vs,ht _ _ e,Paired.Dz p λv d=>ih v d⟩
   | _=>exact aa x
  | _=>cases d<;>first | exact x | exact aa x
theorem dm.stay(x:dm P w H h a o)(k:∀b u,(b=a\/H b=some (.own a))->h.get? b=some u->h'.get? b=some u)
  (ho:∀b,H b=some (.own a)->H' b=some (.own a))(ht:∀b xs,H b=some (.tup xs)->H' b=some (.tup xs)):dm P w H' h' a o:=by
 induction o with
 | lst xs=>obtain⟨z,its,n,r,e⟩:=x;exact⟨z,its,n,r,k _ _ (.inl rfl) e⟩
 | tup xs=>obtain⟨z,us,r,⟨ob,e,c⟩,nd⟩:=x;exact⟨z,us,r,⟨ob,k _ _ (.inl rfl) e,c⟩,λo q=>by rw[k _ _ (.inl rfl) e] at q;cases q;exact nd _ e⟩
 | dK kvs=>obtain⟨z,y,vs,r,ob,es,ep,e,c⟩:=x;exact⟨z,y,vs,r,ob,es,ep,k _ _ (.inl rfl) e,c⟩
 | dT kvs=>
  obtain⟨z,y,xs,r,ob,es,ep,e,c⟩:=x
  exact⟨z,y,xs,Paired.Dz r λp q z=>⟨z.1,ht _ _ z.2.1,z.2.2⟩,ob,es,ep,k _ _ (.inl rfl) e,c⟩
 | dN kvs=>
  obtain⟨z,y,xs,r,ob,es,ep,e,c⟩:=x
  exact⟨z,y,xs,Paired.Dz r λp q z=>⟨z.1,KA.stay ht _ _ _ z.2.1,z.2.2⟩,ob,es,ep,k _ _ (.inl rfl) e,c⟩
 | set S n=>obtain⟨ob,es,ep,t,e,c⟩:=x;exact⟨ob,es,ep,t,k _ _ (.inl rfl) e,c⟩
 | ins C dx fs=>
  obtain⟨d,z,ne,e,mA,⟨od,es,ep,e2,c⟩,r⟩:=x
  exact⟨ho _ d,z,ne,k _ _ (.inl rfl) e,mA,⟨od,es,ep,k _ _ (.inr d) e2,c⟩,r⟩
 | own y=>obtain⟨ob,e⟩:=x;exact⟨ob,k _ _ (.inl rfl) e⟩
 | xd fs=>obtain⟨mA,⟨od,es,ep,e,c⟩,r⟩:=x;exact⟨mA,⟨od,es,ep,k _ _ (.inl rfl) e,c⟩,r⟩
 | Ti lo hi=>obtain⟨t,u,v,e⟩:=x;exact⟨t,u,v,k _ _ (.inl rfl) e⟩
 | eL ob u ih=>obtain⟨e,q⟩:=x;exact⟨k _ _ (.inl rfl) e,ih q⟩
 | jf ps=>
  have e:h.get? a=some { cls:=.none,data:=.fields ps }:=x
  show h'.get? a=some { cls:=.none,data:=.fields ps }
  exact k a _ (.inl rfl) e
 | met f y=>
  have e:h.get? a=some (PySem.W.methodObj (.ref f) (.ref y)):=x
  show h'.get? a=some (PySem.W.methodObj (.ref f) (.ref y))
  exact k a _ (.inl rfl) e
 | ext φ=>obtain⟨p,⟨o,e⟩,st⟩:=x;exact⟨st _ _ p λo q=>k _ _ (.inl rfl) q,⟨o,k _ _ (.inl rfl) e⟩,st⟩
theorem ko.lt(x:ko P w H h)(e:H a=some o):a < h.objs.size:=(x a o e).lt
theorem ko.fresh(x:ko P w H h)(e:h.objs.size<=a):H a=none:=by
 cases q:H a with
 | none=>rfl
 | some u=>exact absurd (bt (x.lt q) e) (cX _)
theorem ko.kept(x:ko P w H h)(k:∀b u,h.get? b=some u->h'.get? b=some u):ko P w H h':=λa o e=>
 (x a o e).stay (λb u _ q=>k b u q) (λ_ q=>q) λ_ _ q=>q
theorem ko.laid(x:ko P w H h)(k:∀b u,h.get? b=some u->h'.get? b=some u)(hp:h.objs.size<=a)(new:dm P w (upd H a o) h' a o):ko P w (upd H a o) h':=λb u e=>by
 have hn:=x.fresh hp
 by_cases hb:b=a
 ·subst hb;rw[aH] at e;cases e;exact new
 ·rw[av hb] at e
  exact(x b u e).stay (λc v _ q=>k c v q) (λc q=>by rw[av (bC q hn)];exact q) λc xs q=>by rw[av (bC q hn)];exact q
end
def Rd(H:Hp)(a:acr)(u:HO):Prop:=H a=some u\/∃o,H a=some (.eL o u)
theorem Rd.ok{P:acw}{w:acz}{H:Hp}{h:Heap}{a:acr}{u:HO}(r:Rd H a u)(x:ko P w H h):dm P w H h a u:=by
 rcases r with r | ⟨o,r⟩
 ·exact x a u r
 ·obtain⟨_,q⟩:=x a _ r
  exact q
def Qv:Option HO->Prop
 | some (.lst _)=>True
 | some (.dK _)=>True
 | some (.dT _)=>True
 | some (.dN _)=>True
 | some (.set _ _)=>True
 | some (.ins _ _ _)=>True
 | some (.ext _)=>True
 | _=>False
section
variable {P:acw} {w:acz} {H:Hp} {h h':Heap} {x e:acr} {o':HO}
theorem ko.write(ok:ko P w H h)(mu:Qv (H x))(he:e=x\/H e=some (.own x))(k:∀b u,b≠e->h.get? b=some u->h'.get? b=some u)(Qc:∃u,h'.get? e=some u)
  (new:dm P w (upd H x o') h' x o'):ko P w (upd H x o') h':=λb u q=>by
 have Qw:∀c y,H c=some (.own y)->c≠x:=λc y r z=>by subst z;rw[r] at mu;exact mu
 have Uq:∀c xs,H c=some (.tup xs)->c≠x:=λc xs r z=>by subst z;rw[r] at mu;exact mu
 by_cases hb:b=x
 ·subst hb;rw[aH] at q;cases q;exact new
 ·rw[av hb] at q
  by_cases LV:b=e
  ·have q':H b=some (.own x):=by
    rcases he with z | z
    ·exact absurd (LV.trans z) hb
    ·rw[LV];exact z
   rw[q] at q';cases q'
   obtain⟨v,hv⟩:=Qc
   exact⟨v,by rw[LV];exact hv⟩
  ·refine(ok b u q).stay (λc v hc r=>k c v ?_ r) (λc r=>by rw[av (Qw c b r)];exact r) λc xs r=>by rw[av (Uq c xs r)];exact r
   rcases hc with rfl | hc
   ·exact LV
   ·rintro rfl
    rcases he with z | z
    ·exact Qw c b hc z
    ·rw[hc] at z;cases z;exact hb rfl
end
structure Un(fs ex:List acr)(H H':Hp)(h h':Heap):Prop where
 keep:∀b o,h.get? b=some o->H b=none->b∉fs->b∉ex->h'.get? b=some o
 slot:∀b o,h.get? b=some o->H b=none->b∈fs->b∉ex->∃sl,h'.get? b=some { o with slots:=sl }
 free:∀b o,h.get? b=some o->H b=none->b∉ex->H' b=none
 there:∀b o,h.get? b=some o->b∉ex->∃o',h'.get? b=some o'
 tups:∀b xs,H b=some (.tup xs)->H' b=some (.tup xs)
 ju:∀b o u,H b=some (.eL o u)->H' b=some (.eL o u)
 kL:∀b ps,H b=some (.jf ps)->∃more,H' b=some (.jf (ps++more))
section
variable {fs fs' ex ex':List acr} {H H1 H2:Hp} {h h1 h2 h':Heap} {a x e:acr} {o:HO}
theorem Un.any(u:Un fs ex H H1 h h1){b:acr}{ob:Obj}(q:h.get? b=some ob)(n:H b=none)(hx:b∉ex):∃sl,h1.get? b=some { ob with slots:=sl }:=by
 by_cases hb:b∈fs
 ·exact u.slot b ob q n hb hx
 ·exact⟨ob.slots,u.keep b ob q n hb hx⟩
theorem Un.kept(k:∀b u,h.get? b=some u->h'.get? b=some u):Un fs ex H H h h' :=
 ⟨λb ob q _ _ _=>k b ob q,λb ob q _ _ _=>⟨ob.slots,k b ob q⟩,λ_ _ _ n _=>n,λb ob q _=>⟨ob,k b ob q⟩,λ_ _ q=>q,λ_ _ _ q=>q,λ_ ps q=>⟨#[],by rw[q];simp⟩⟩
theorem Un.refl:Un fs ex H H h h:=Un.kept λ_ _ q=>q
theorem Un.laid(k:∀b u,h.get? b=some u->h'.get? b=some u)(hp:h.objs.size<=a)(hn:H a=none):Un fs ex H (upd H a o) h h' where
 keep:=λb u q _ _ _=>k b u q
 slot:=λb u q _ _ _=>⟨u.slots,k b u q⟩
 free:=λb u q n _=>by rw[av (bu (bt (aC q) hp))];exact n
 there:=λb u q _=>⟨u,k b u q⟩
 tups:=λb xs q=>by rw[av (bC q hn)];exact q
 ju:=λb u xs q=>by rw[av (bC q hn)];exact q
 kL:=λb ps q=>⟨#[],by rw[av (bC q hn),q];simp⟩
theorem Un.write(mu:Qv (H x))(he:e=x\/H e=some (.own x))(k:∀b u,b≠e->h.get? b=some u->h'.get? b=some u)(Qc:∃u,h'.get? e=some u):Un fs ex H (upd H x o) h h':=by
 have hx:∀b,H b=none->b≠x:=λb n z=>by subst z;rw[n] at mu;exact mu
 have hb:∀b,H b=none->b≠e:=λb n z=>by
  subst z
  rcases he with r | r
  ·exact hx b n r
  ·rw[n] at r;cases r
 have hm:∀b u,H b=some u->¬Qv (some u)->b≠x:=λb u q nm z=>by subst z;rw[q] at mu;exact nm mu
 refine⟨λb u q n _ _=>k b u (hb b n) q,λb u q n _ _=>⟨u.slots,k b u (hb b n) q⟩,λb u q n _=>by rw[av (hx b n)];exact n,λb u q _=>?_,
  λb xs q=>by rw[av (hm b _ q λz=>z)];exact q,λb u xs q=>by rw[av (hm b _ q λz=>z)];exact q,λb ps q=>⟨#[],by rw[av (hm b _ q λz=>z),q];simp⟩⟩
 by_cases LV:b=e
 ·subst LV;exact Qc
 ·exact⟨u,k b u LV q⟩
end
def Tj(h:Heap)(H:Hp):List acr:=(ig h.objs.size).filter λa=>(H a).isSome
def uM(h:Heap)(H:Hp):Heap:=PySem.W.hideAll h (Tj h H)
theorem BZ(h:Heap)(H:Hp):(uM h H).objs.size=h.objs.size:=PySem.W.hideAll_size _ _
theorem DA{h:Heap}{H:Hp}{b:acr}{o:Obj}(e:h.get? b=some o)(n:H b=none):(uM h H).get? b=some o :=
 PySem.W.hideAll_get _ e λhm=>by
  have q:(H b).isSome=true:=(List.mem_filter.mp hm).2
  rw[n] at q;simp at q
theorem HR{h:Heap}{H:Hp}{b:acr}{o:Obj}(e:(uM h H).get? b=some o):h.get? b=some o/\H b=none:=by
 have e':h.get? b=some o:=PySem.W.of_hideAll (Tj h H) e
 refine⟨e',?_⟩
 cases q:H b with
 | none=>rfl
 | some x=>
  have hm:b∈Tj h H:=List.mem_filter.mpr ⟨List.mem_range.mpr (aC e'),by simp[q]⟩
  have z:(uM h H).get? b=none:=PySem.W.hideAll_none (Tj h H) hm
  rw[z] at e;cases e
def uN(g h:Heap)(L:acr):List (acr×Obj):=(ig h.objs.size).filterMap λa=>if a=L\/(g.get? a).isSome=true then none else(h.get? a).map λo=>(a,o)
theorem pj{g h:Heap}{L a:acr}{o:Obj}(h1:a≠L)(h2:g.get? a=none)(h3:h.get? a=some o):(a,o)∈uN g h L :=
 List.mem_filterMap.mpr ⟨a,List.mem_range.mpr (aC h3),by simp[h1,h2,h3]⟩
theorem qw{g h:Heap}{L:acr}{p:acr×Obj}(hp:p∈uN g h L):p.1≠L/\g.get? p.1=none/\h.get? p.1=some p.2:=by
 obtain⟨b,_,e⟩:=List.mem_filterMap.mp hp
 split at e
 ·cases e
 ·rename_i hn
  cases q:h.get? b with
  | none=>rw[q] at e;simp at e
  | some u=>
   rw[q] at e
   simp only[nr,Option.some.injEq] at e
   subst e
   refine⟨λz=>hn (.inl z),?_,q⟩
   show g.get? b=none
   cases r:g.get? b with
   | none=>rfl
   | some v=>exact(hn (.inr (by simp[r]))).elim
theorem DB{g h:Heap}{L:acr}:News g L h (uN g h L):=λp hp=>let ⟨a,b,c⟩:=qw hp;⟨c,a,b⟩
structure Mod(K:PySem.W.Frag)(mg:Str->Option acy)(base:Heap):Prop where
 LW:K.In base
 glob:base.Ns acI mg
 blt:∃mb,base.Ns builtinsNs mb/\∀x:Str,x≠"__name__"->mb x=acC x
 nolimit:base.NoLimit
structure Cx where
 prog:acw
 w:acz
 K:PySem.W.Frag
 mg:Str->Option acy
 base:Heap
 A:acs
 N:List Str
 s₀:acx
 H₀:Hp
 env:Env
 outer:List Env
 stack:List Env
 ex:List acr
 fn:Str->Bool
 calm:Bool
 pn:List (acr×Obj)
 xe:acy->acx->Prop
def frs(l:List Env):List acr:=l.filterMap (·.frame)
abbrev Cx.fs(X:Cx):List acr:=frs X.outer
def Ur(sc:Scope)(x:Str):Prop:=sc.names.lookup x=some .local\/sc.names.lookup x=some .cell\/sc.names.lookup x=some .free
def Loc(sc:Scope)(x:Str):Prop:=sc.names.lookup x=some .local\/sc.names.lookup x=some .cell
def Look(env:Env)(h:Heap)(m:Str->Option acy)(x:Str)(u:acy):Prop :=
 (env.kindOf x=some .local/\m x=some u)\/((env.kindOf x=some .cell\/env.kindOf x=some .free)/\∃c,env.cells.lookup x=some c/\h.IsCell c (some u))
structure Cx.Ok(X:Cx):Prop where
 mod:Mod X.K X.mg X.base
 kind:X.env.scope.kind= .function
 glob:X.env.globals=acI
 blt:X.env.builtins=builtinsNs
 above:X.s₀.heap.objs.size<=X.env.locals
 inj:∀x y c,X.env.cells.lookup x=some c->X.env.cells.lookup y=some c->x=y
 has:∀x,(X.env.kindOf x=some .cell\/X.env.kindOf x=some .free)->∃c,X.env.cells.lookup x=some c
 Qd:∀x c,X.fn x=true->X.env.cells.lookup x=some c->X.s₀.heap.objs.size<=c
 hd:X.calm=true->X.A.handled=none
 frames:X.A.frames=some X.stack
 stk:X.stack=X.outer\/(X.stack=X.env::X.outer/\X.env.frame=some X.env.locals)
 Us:∀b∈X.ex,b≠X.env.locals/\∀x c,X.env.cells.lookup x=some c->c≠b
 bs:∀b o,X.base.get? b=some o->X.s₀.heap.get? b=some o/\X.H₀ b=none
 Hy:X.base.objs.size<=X.s₀.heap.objs.size
 B0:∀b o,X.base.get? b=some o->b∉X.ex
 DC:∀b∈X.ex,b∉X.fs
 mG:X.s₀.heap.FunFrames X.base X.outer
 HS:∀b∈X.fs,X.H₀ b=none
structure Inv(X:Cx)(pins:List (acr×Obj))(σ:List (Option V))(H:Hp)(s:acx):Prop where
 ok:X.Ok
 os:s.os=X.s₀.os
 bare:AllBare s.gens
 base:Un X.fs X.ex X.H₀ H X.s₀.heap s.heap
 loc:∃m,s.heap.Ns X.env.locals m/\∀(i:Nat)(x:Str)(v:V),X.N[i]? =some x->σ[i]? =some (some v)->Ur X.env.scope x->∃u,RelV v u/\Look X.env s.heap m x u
 cell:∀x c,X.env.cells.lookup x=some c->∃v,s.heap.IsCell c v
 free:H X.env.locals=none
 hV:∀x c,X.env.cells.lookup x=some c->H c=none
 pin:∀p∈X.pn++pins,s.heap.get? p.1=some p.2/\H p.1=none/\p.1≠X.env.locals/\p.1∉X.fs/\∀v,p.2.data≠.cell v
 hok:ko X.prog X.w H s.heap
 len:σ.length=X.N.length
section
variable {X:Cx} {pins:List (acr×Obj)} {σ:List (Option V)} {H H':Hp} {s:acx} {h':Heap}
theorem Cx.Ok.Ut(ok:X.Ok){b:acr}{o:Obj}(e:X.base.get? b=some o):b∉X.fs:=λhb=>by
 have:=(ok.mG.mem hb).1
 rw[e] at this;cases this
theorem Inv.bs(I:Inv X pins σ H s):∀b o,X.base.get? b=some o->s.heap.get? b=some o/\H b=none:=λb o e=>
 ⟨I.base.keep b o (I.ok.bs b o e).1 (I.ok.bs b o e).2 (I.ok.Ut e) (I.ok.B0 b o e),I.base.free b o (I.ok.bs b o e).1 (I.ok.bs b o e).2 (I.ok.B0 b o e)⟩
theorem Inv.bk(I:Inv X pins σ H s):∀b o,X.base.get? b=some o->s.heap.get? b=some o:=λb o e=>(I.bs b o e).1
theorem Inv.mod(I:Inv X pins σ H s):Mod X.K X.mg X.base:=I.ok.mod
theorem Inv.Dq(I:Inv X pins σ H s):X.K.In s.heap:=I.ok.mod.LW.keeps I.bk
theorem Inv.lt(I:Inv X pins σ H s):X.env.locals < s.heap.objs.size:=let ⟨_,hn,_⟩:=I.loc;hn.lt
theorem Inv.sz(I:Inv X pins σ H s):X.s₀.heap.objs.size<=s.heap.objs.size:=bg I.ok.above (AE I.lt)
theorem Inv.Uu(I:Inv X pins σ H s){a:acr}(h:s.heap.objs.size<=a):a∉X.fs:=λhb=>by
 obtain⟨_,o,ho,_⟩:=I.ok.mG.mem hb
 exact absurd (bt (aC ho) (bg I.sz h)) (cX _)
theorem Inv.HU(I:Inv X pins σ H s):∀x c,X.env.cells.lookup x=some c->c≠X.env.locals:=λx c e z=>by
 obtain⟨v,o,ho,hd⟩:=I.cell x c e
 obtain⟨m,⟨o',es,ep,ho',hd',_⟩,_⟩:=I.loc
 rw[z,ho'] at ho;cases ho;rw[hd'] at hd;cases hd
theorem Inv.mG(I:Inv X pins σ H s):s.heap.FunFrames X.base X.outer:=by
 have all:∀(l:List Env),(∀b∈frs l,b∈X.fs)->X.s₀.heap.FunFrames X.base l->s.heap.FunFrames X.base l:=by
  intro l
  induction l with
  | nil=>intro _ _;trivial
  | cons env r ih=>
   intro hs hl
   obtain⟨hk,⟨L,o,hf,hn,ho,hd⟩,hr⟩:=hl
   have hL:L∈X.fs:=hs L (by unfold frs;rw[uO,hf];exact aR)
   obtain⟨sl,e⟩:=I.base.slot L o ho (I.ok.HS L hL) hL λz=>I.ok.DC L z hL
   exact⟨hk,⟨L,_,hf,hn,e,hd⟩,ih (λb hb=>hs b (by unfold frs;rw[uO,hf];exact aN _ hb)) hr⟩
 exact all X.outer (λ_ hb=>hb) I.ok.mG
theorem Inv.stack(I:Inv X pins σ H s):s.heap.FunFrames X.base X.stack:=by
 rcases I.ok.stk with e | ⟨e,hf⟩
 ·rw[e];exact I.mG
 ·rw[e]
  obtain⟨m,hn,_⟩:=I.loc
  refine .cons (by rw[I.ok.kind];decide) hf hn ?_ I.mG
  exact Heap.get?_none_of_le (bg I.ok.Hy I.ok.above)
theorem Inv.qx(I:Inv X pins σ H s):∀b∈frs X.stack,b∈X.env.locals::X.fs:=λb hb=>by
 rcases I.ok.stk with e | ⟨e,hf⟩
 ·rw[e] at hb;exact aN _ hb
 ·rw[e] at hb
  unfold frs at hb
  rw[uO,hf] at hb
  exact hb
theorem Inv.nu(I:Inv X pins σ H s):∀b∈frs X.stack,H b=none:=λb hb=>by
 rcases List.mem_cons.mp (I.qx b hb) with e | hb
 ·rw[e];exact I.free
 ·obtain⟨_,o,ho,_⟩:=I.ok.mG.mem hb
  exact I.base.free b o ho (I.ok.HS b hb) λz=>I.ok.DC b z hb
theorem Inv.step{g':Array GenState}{t':Nat}{d':Drawn}{ch:List acr}(I:Inv X pins σ H s)
  (hch:∀b∈ch,(b∈X.ex\/X.s₀.heap.objs.size<=b)/\b≠X.env.locals/\(∀x c,X.env.cells.lookup x=some c->c≠b)/\∀p∈X.pn++pins,p.1≠b)
  (keep:∀b o,b≠X.env.locals->b∉X.fs->b∉ch->s.heap.get? b=some o->H b=none->h'.get? b=some o)
  (slot:∀b o,b≠X.env.locals->b∈X.fs->b∉ch->s.heap.get? b=some o->H b=none->∃sl,h'.get? b=some { o with slots:=sl })(free:∀b o,b∉ch->s.heap.get? b=some o->H b=none->H' b=none)
  (there:∀b o,b∉ch->s.heap.get? b=some o->∃o',h'.get? b=some o')
  (tups:∀b xs,H b=some (.tup xs)->H' b=some (.tup xs))(ju:∀b o u,H b=some (.eL o u)->H' b=some (.eL o u))(kL:∀b ps,H b=some (.jf ps)->∃more,H' b=some (.jf (ps++more)))
  (ns:∀m,s.heap.Ns X.env.locals m->h'.Ns X.env.locals m)(hok:ko X.prog X.w H' h')(hg:AllBare g') :
  Inv X pins σ H' { s with heap:=h',gens:=g',drawn:=d',toks:=t' }:=by
 have Qx:∀b o,X.s₀.heap.get? b=some o->b≠X.env.locals:=λb o e=>bu (bt (aC e) I.ok.above)
 have Tn:∀b o,X.s₀.heap.get? b=some o->b∉X.ex->b∉ch:=λb o e hx hb=>by
  rcases(hch b hb).1 with z | z
  ·exact hx z
  ·exact absurd (bt (aC e) z) (cX _)
 have cellK:∀x c,X.env.cells.lookup x=some c->∀v,s.heap.IsCell c v->h'.IsCell c v:=λx c e v ⟨o,ho,hd⟩=>by
  have LX:c∉ch:=λz=>(hch c z).2.2.1 x c e rfl
  by_cases hc:c∈X.fs
  ·obtain⟨sl,q⟩:=slot c o (I.HU x c e) hc LX ho (I.hV x c e)
   exact⟨_,q,hd⟩
  ·exact⟨o,keep c o (I.HU x c e) hc LX ho (I.hV x c e),hd⟩
 refine⟨I.ok,I.os,hg,⟨λb o e n hb hx=>?_,λb o e n hb hx=>?_,λb o e n hx=>?_,λb o e hx=>?_,λb xs e=>tups b xs (I.base.tups b xs e),λb o xs e=>ju b o xs (I.base.ju b o xs e),λb ps e=>?_⟩,?_,λx c e=>?_,?_,λx c e=>?_,λp hp=>?_,hok,I.len⟩
 ·exact keep b o (Qx b o e) hb (Tn b o e hx) (I.base.keep b o e n hb hx) (I.base.free b o e n hx)
 ·obtain⟨sl,e1⟩:=I.base.slot b o e n hb hx
  obtain⟨Zy,e2⟩:=slot b _ (Qx b o e) hb (Tn b o e hx) e1 (I.base.free b o e n hx)
  exact⟨Zy,e2⟩
 ·obtain⟨o',e1⟩:=I.base.there b o e hx
  exact free b o' (Tn b o e hx) e1 (I.base.free b o e n hx)
 ·obtain⟨o',e1⟩:=I.base.there b o e hx
  exact there b o' (Tn b o e hx) e1
 ·obtain⟨m1,e1⟩:=I.base.kL b ps e
  obtain⟨m2,e2⟩:=kL b _ e1
  exact⟨m1++m2,by rw[e2,Array.append_assoc]⟩
 ·obtain⟨m,hn,hl⟩:=I.loc
  refine⟨m,ns m hn,λi x v e1 e2 e3=>?_⟩
  obtain⟨u,r,l⟩:=hl i x v e1 e2 e3
  refine⟨u,r,?_⟩
  rcases l with l | ⟨k,c,e,z⟩
  ·exact .inl l
  ·exact .inr ⟨k,c,e,cellK x c e _ z⟩
 ·obtain⟨v,z⟩:=I.cell x c e
  exact⟨v,cellK x c e v z⟩
 ·obtain⟨m,⟨o,_,_,ho,_⟩,_⟩:=I.loc
  exact free _ o (λz=>(hch _ z).2.1 rfl) ho I.free
 ·obtain⟨v,o,ho,hd⟩:=I.cell x c e
  exact free c o (λz=>(hch c z).2.2.1 x c e rfl) ho (I.hV x c e)
 ·obtain⟨e,n,ne,nf,d⟩:=I.pin p hp
  have LX:p.1∉ch:=λz=>(hch p.1 z).2.2.2 p hp rfl
  exact⟨keep p.1 p.2 ne nf LX e n,free p.1 p.2 LX e n,ne,nf,d⟩
theorem Inv.un{t':Nat}(I:Inv X pins σ H s)(u:Un X.fs [] H H' s.heap h')(hok:ko X.prog X.w H' h'):Inv X pins σ H' { s with heap:=h',toks:=t' }:=by
 obtain⟨m,⟨o,es,ep,ho,r⟩,_⟩:=id I.loc
 obtain⟨sl,hL⟩:=u.any ho I.free (by simp)
 exact I.step (g':=s.gens) (d':=s.drawn) (ch:=[]) (λ_ z=>nomatch z) (λb o _ hb _ e n=>u.keep b o e n hb (by simp)) (λb o _ hb _ e n=>u.slot b o e n hb (by simp)) (λb o _ e n=>u.free b o e n (by simp)) (λb o _ e=>u.there b o e (by simp)) u.tups u.ju u.kL (λm' hm=>by
  obtain⟨o',es',AF,ho',r'⟩:=hm
  rw[ho] at ho';cases ho'
  exact⟨_,es',AF,hL,r'⟩) hok I.bare
theorem Inv.call{g':Array GenState}{t':Nat}{d':Drawn}{ch:List acr}(I:Inv X pins σ H s)(u:Un (frs X.stack) ch H H' s.heap h')(hok:ko X.prog X.w H' h')(hg:AllBare g')
  (hch:∀b∈ch,(b∈X.ex\/X.s₀.heap.objs.size<=b)/\b≠X.env.locals/\(∀x c,X.env.cells.lookup x=some c->c≠b)/\∀p∈X.pn++pins,p.1≠b) :
  Inv X pins σ H' { s with heap:=h',gens:=g',drawn:=d',toks:=t' }:=by
 obtain⟨m,⟨o,es,ep,ho,r⟩,_⟩:=id I.loc
 obtain⟨sl,hL⟩:=u.any ho I.free λz=>(hch _ z).2.1 rfl
 exact I.step (ch:=ch) hch (λb o hL hb hc e n=>u.keep b o e n (λz=>(List.mem_cons.mp (I.qx b z)).elim hL hb) hc) (λb o _ _ hc e n=>u.any e n hc) (λb o hc e n=>u.free b o e n hc) (λb o hc e=>u.there b o e hc) u.tups u.ju u.kL (λm' hm=>by
  obtain⟨o',es',AF,ho',r'⟩:=hm
  rw[ho] at ho';cases ho'
  exact⟨_,es',AF,hL,r'⟩) hok hg
theorem Inv.turned{t':Nat}{it:acr}(I:Inv X pins σ H s)(k:∀b o,b≠it->s.heap.get? b=some o->h'.get? b=some o)(hn:H it=none)(hL:it≠X.env.locals)
  (h1:it∈X.ex\/X.s₀.heap.objs.size<=it)(h2:∀x c,X.env.cells.lookup x=some c->c≠it)(h3:∀p∈X.pn++pins,p.1≠it):Inv X pins σ H { s with heap:=h',toks:=t' }:=by
 have Yc:∀b u,H b=some u->b≠it:=λb u e z=>by rw[z,hn] at e;cases e
 refine I.step (g':=s.gens) (d':=s.drawn) (ch:=[it]) (λb hb=>?_) (λb o _ _ hc e _=>k b o (λz=>hc (by simp[z])) e) (λb o _ _ hc e _=>⟨o.slots,k b o (λz=>hc (by simp[z])) e⟩) (λ_ _ _ _ n=>n)
  (λb o hc e=>⟨o,k b o (λz=>hc (by simp[z])) e⟩) (λ_ _ e=>e) (λ_ _ _ e=>e) (λb ps e=>⟨#[],by rw[e];simp⟩) (λm hm=>?_) (λb u e=>?_) I.bare
 ·have e:b=it:=by simpa using hb
  subst e
  exact⟨h1,hL,h2,h3⟩
 ·obtain⟨o,es,ep,ho,r⟩:=hm
  exact⟨o,es,ep,k _ o (bZ hL) ho,r⟩
 ·refine(I.hok b u e).stay (λc v hc q=>k c v ?_ q) (λ_ q=>q) λ_ _ q=>q
  rcases hc with z | z
  ·rw[z];exact Yc b u e
  ·exact Yc c _ z
theorem Inv.tok(I:Inv X pins σ H s)(t:Nat):Inv X pins σ H { s with toks:=t }:=I.un (h':=s.heap) (t':=t) Un.refl I.hok
theorem Inv.kept{t':Nat}(I:Inv X pins σ H s)(k:∀b u,s.heap.get? b=some u->h'.get? b=some u):Inv X pins σ H { s with heap:=h',toks:=t' }:=I.un (Un.kept k) (I.hok.kept k)
theorem Inv.laid{a:acr}{o:HO}{t':Nat}(I:Inv X pins σ H s)(k:∀b u,s.heap.get? b=some u->h'.get? b=some u)(hp:s.heap.objs.size<=a)(new:dm X.prog X.w (upd H a o) h' a o) :
  Inv X pins σ (upd H a o) { s with heap:=h',toks:=t' }:=I.un (Un.laid k hp (I.hok.fresh hp)) (I.hok.laid k hp new)
theorem Inv.write{x e:acr}{o:HO}{t':Nat}(I:Inv X pins σ H s)(mu:Qv (H x))(he:e=x\/H e=some (.own x))(k:∀b u,b≠e->s.heap.get? b=some u->h'.get? b=some u)(Qc:∃u,h'.get? e=some u)
  (new:dm X.prog X.w (upd H x o) h' x o):Inv X pins σ (upd H x o) { s with heap:=h',toks:=t' }:=I.un (Un.write mu he k Qc) (I.hok.write mu he k Qc new)
theorem Inv.AG{kM:List (acr×Obj)}(I:Inv X pins σ H s)(h:∀p∈kM,s.heap.get? p.1=some p.2/\H p.1=none/\p.1≠X.env.locals/\p.1∉X.fs/\∀v,p.2.data≠.cell v):Inv X kM σ H s :=
 ⟨I.ok,I.os,I.bare,I.base,I.loc,I.cell,I.free,I.hV,λp hp=>(List.mem_append.mp hp).elim (λz=>I.pin p (lG _ z)) (h p),I.hok,I.len⟩
theorem qy{N:List Str}(hN:N.Nodup){i j:Nat}{x:Str}(a:N[i]? =some x)(b:N[j]? =some x):i=j:=by
 obtain⟨h1,e1⟩:=List.getElem?_eq_some_iff.mp a
 obtain⟨h2,e2⟩:=List.getElem?_eq_some_iff.mp b
 exact(List.getElem_inj hN).mp (e1.trans e2.symm)
theorem tm{M:Model}{A:acs}{E:acy->acx->Prop}{i:Nat}{x:Str}{v:V}{u:acy}{Q:Unit->acx->Prop}(I:Inv X pins σ H s)(hN:X.N.Nodup)(hi:X.N[i]? =some x)(hx:Loc X.env.scope x)(r:RelV v u)
  (h:∀s',Inv X pins (σ.set i (some v)) H s'->(∃a,kK a s.heap s'.heap/\(a=X.env.locals\/X.env.cells.lookup x=some a))->Q () s')(hf:X.fn x=true\/X.env.scope.names.lookup x=some .local:=by first | exact .inl rfl | exact .inr rfl | assumption):acL M A (storeName X.env x u) Q E s:=by
 obtain⟨m,hn,hl⟩:=id I.loc
 have hcls:(X.env.scope.kind == .class||(X.env.scope.kind == .module&&X.env.locals != X.env.globals))=false:=by rw[I.ok.kind];rfl
 have Qy:i < σ.length:=by rw[I.len];exact(List.getElem?_eq_some_iff.mp hi).1
 have HU:=I.HU
 have tracked:∀{a:acr}{h':Heap},(∃o,s.heap.get? a=some o/\H a=none)->kK a s.heap h'->ko X.prog X.w H h':=λ{a h'} ha hs b ob e=>by
  obtain⟨_,_,hfree⟩:=ha
  refine(I.hok b ob e).stay (λc w' hc q=>(hs.2 c ?_).trans q) (λ_ q=>q) λ_ _ q=>q
  rintro rfl
  rcases hc with rfl | hc
  ·rw[hfree] at e;cases e
  ·rw[hfree] at hc;cases hc
 rcases hx with hk | hk
 ·refine wpAny_storeName_local hk hn (λh' hn' hs=>?_) hcls
  obtain⟨oL,_,_,Yd,_⟩:=id hn
  refine h _ ⟨I.ok,I.os,I.bare,⟨λb o e n hb hx=>?_,λb o e n hb hx=>?_,I.base.free,λb o e hx=>?_,I.base.tups,I.base.ju,I.base.kL⟩,⟨_,hn',λj y v' e1 e2 e3=>?_⟩,λy c e=>?_,I.free,I.hV,λp hp=>?_,tracked ⟨oL,Yd,I.free⟩ hs,by simpa using I.len⟩ ⟨_,hs,.inl rfl⟩
  ·exact(hs.2 b (bu (bt (aC e) I.ok.above))).trans (I.base.keep b o e n hb hx)
  ·obtain⟨sl,e1⟩:=I.base.slot b o e n hb hx
   exact⟨sl,(hs.2 b (bu (bt (aC e) I.ok.above))).trans e1⟩
  ·obtain⟨o',e1⟩:=I.base.there b o e hx
   exact⟨o',(hs.2 b (bu (bt (aC e) I.ok.above))).trans e1⟩
  ·by_cases hj:j=i
   ·subst hj
    rw[hi] at e1;cases e1
    rw[iV Qy] at e2
    cases e2
    exact⟨u,r,.inl ⟨hk,by simp⟩⟩
   ·rw[cC (bZ hj)] at e2
    obtain⟨u',r',q⟩:=hl j y v' e1 e2 e3
    refine⟨u',r',?_⟩
    rcases q with ⟨k,e⟩ | ⟨k,c,e,z⟩
    ·refine .inl ⟨k,?_⟩
     have:y≠x:=λe=>hj (qy hN e1 (e ▸ hi))
     simp[this,e]
    ·exact .inr ⟨k,c,e,z.sameBut hs (HU y c e)⟩
  ·obtain⟨w',z⟩:=I.cell y c e
   exact⟨w',z.sameBut hs (HU y c e)⟩
  ·obtain⟨e,n,ne,nf,d⟩:=I.pin p hp
   exact⟨(hs.2 p.1 ne).trans e,n,ne,nf,d⟩
 ·have hfn:X.fn x=true:=by
   rcases hf with z | z
   ·exact z
   ·rw[z] at hk;cases hk
  obtain⟨c,hc⟩:=I.ok.has x (.inl hk)
  obtain⟨w',z⟩:=I.cell x c hc
  refine wpAny_storeName_cell I.ok.kind hk hc z (λh' hc' hs=>?_)
  obtain⟨oc,hoc,Uv⟩:=id z
  refine h { s with heap:=h' } ⟨I.ok,I.os,I.bare,⟨λb o e n hb hx=>?_,λb o e n hb hx=>?_,I.base.free,λb o e hx=>?_,I.base.tups,I.base.ju,I.base.kL⟩,⟨m,hn.sameBut hs (bZ (HU x c hc)),λj y v' e1 e2 e3=>?_⟩,λy c' e=>?_,I.free,I.hV,λp hp=>?_,tracked ⟨oc,hoc,I.hV x c hc⟩ hs,by simpa using I.len⟩ ⟨c,hs,.inr hc⟩
  ·exact(hs.2 b (bu (bt (aC e) (I.ok.Qd x c hfn hc)))).trans (I.base.keep b o e n hb hx)
  ·obtain⟨sl,e1⟩:=I.base.slot b o e n hb hx
   exact⟨sl,(hs.2 b (bu (bt (aC e) (I.ok.Qd x c hfn hc)))).trans e1⟩
  ·obtain⟨o',e1⟩:=I.base.there b o e hx
   exact⟨o',(hs.2 b (bu (bt (aC e) (I.ok.Qd x c hfn hc)))).trans e1⟩
  ·by_cases hj:j=i
   ·subst hj
    rw[hi] at e1;cases e1
    rw[iV Qy] at e2
    cases e2
    exact⟨u,r,.inr ⟨.inl hk,c,hc,hc'⟩⟩
   ·rw[cC (bZ hj)] at e2
    obtain⟨u',r',q⟩:=hl j y v' e1 e2 e3
    refine⟨u',r',?_⟩
    rcases q with q | ⟨k,c',e,z'⟩
    ·exact .inl q
    ·refine .inr ⟨k,c',e,z'.sameBut hs ?_⟩
     rintro rfl
     exact hj (qy hN e1 (I.ok.inj _ _ _ e hc ▸ hi))
  ·by_cases hcc:c'=c
   ·subst hcc;exact⟨_,hc'⟩
   ·obtain⟨w2,z2⟩:=I.cell y c' e
    exact⟨w2,z2.sameBut hs hcc⟩
  ·obtain⟨e,n,ne,nf,d⟩:=I.pin p hp
   refine⟨(hs.2 p.1 ?_).trans e,n,ne,nf,d⟩
   intro q
   rw[q,hoc] at e
   have q':oc=p.2:=Option.some.inj e
   exact d w' (by rw[<-q'];exact Uv)
theorem ny{M:Model}{A:acs}{E:acy->acx->Prop}{i:Nat}{x:Str}{v:V}{u:acy}{Q:Unit->acx->Prop}(I:Inv X pins σ H s)(hN:X.N.Nodup)(hi:X.N[i]? =some x)(hx:Loc X.env.scope x)(r:RelV v u)
  (h:∀s',Inv X pins (σ.set i (some v)) H s'->Q () s')(hf:X.fn x=true\/X.env.scope.names.lookup x=some .local:=by first | exact .inl rfl | exact .inr rfl | assumption):acL M A (storeName X.env x u) Q E s :=
 tm I hN hi hx r (λs' I' _=>h s' I') hf
theorem Inv.DD{s':acx}{ch:List acr}(I:Inv X pins σ H s)(ho:s'.os=s.os)(u:Un (frs X.stack) ch H H' s.heap s'.heap)(hok:ko X.prog X.w H' s'.heap)(hg:AllBare s'.gens)
  (hch:∀b∈ch,(b∈X.ex\/X.s₀.heap.objs.size<=b)/\b≠X.env.locals/\(∀x c,X.env.cells.lookup x=some c->c≠b)/\∀p∈X.pn++pins,p.1≠b):Inv X pins σ H' s':=by
 obtain⟨h',g',d',t',o'⟩:=s'
 have e:o'=s.os:=ho
 subst e
 exact I.call (g':=g') (t':=t') (d':=d') u hok hg hch
end
abbrev XK:=acy->Option acr->Hp->Prop
abbrev St:=List (Option V)
abbrev VK:=V->Hp->Prop
abbrev TE:=St->Hp->VK->Prop
abbrev TT:=St->Hp->(Bool->Hp->Prop)->Prop
abbrev TA:=St->Hp->(List V->Hp->Prop)->Prop
structure Ends where
 nx:St->Hp->Prop
 rt:VK
 bk:St->Hp->Prop:=λ_ _=>False
 ct:St->Hp->Prop:=λ_ _=>False
abbrev TS:=Ends->St->Hp->Prop
def EP(X:Cx)(pins:List (acr×Obj))(σ:St)(Q:VK)(u:acy)(s':acx):Prop:=∃v H',Inv X pins σ H' s'/\RelV v u/\Q v H'
def TP(X:Cx)(pins:List (acr×Obj))(σ:St)(Q:Bool->Hp->Prop)(b:Bool)(s':acx):Prop:=∃H',Inv X pins σ H' s'/\Q b H'
def AP(X:Cx)(pins:List (acr×Obj))(σ:St)(Q:List V->Hp->Prop)(us:List acy)(s':acx):Prop:=∃vs H',Inv X pins σ H' s'/\Vals vs us/\Q vs H'
def SP(X:Cx)(pins:List (acr×Obj))(D:Ends)(f:Flow)(s':acx):Prop :=
 match f with
 | .next=>∃σ' H',Inv X pins σ' H' s'/\D.nx σ' H'
 | .brk=>∃σ' H',Inv X pins σ' H' s'/\D.bk σ' H'
 | .cont=>∃σ' H',Inv X pins σ' H' s'/\D.ct σ' H'
 | .ret u=>∃v σ' H',Inv X pins σ' H' s'/\RelV v u/\D.rt v H'
def PE(X:Cx)(e:Expr)(t:TE):Prop :=
 ∀(pins:List (acr×Obj))(s:acx)(σ:St)(H:Hp)(Q:VK),Inv X pins σ H s->t σ H Q->acL (model X.prog X.w) X.A (eval e X.env) (EP X pins σ Q) X.xe s
def PT(X:Cx)(e:Expr)(t:TT):Prop :=
 ∀(pins:List (acr×Obj))(s:acx)(σ:St)(H:Hp)(Q:Bool->Hp->Prop),Inv X pins σ H s->t σ H Q->acL (model X.prog X.w) X.A (isTrue e X.env (eval e X.env)) (TP X pins σ Q) X.xe s
def PW(X:Cx)(e:Expr)(t:TT):Prop :=
 ∀(whole:Sem acy)(pins:List (acr×Obj))(s:acx)(σ:St)(H:Hp)(Q:Bool->Hp->Prop),Inv X pins σ H s->t σ H Q->acL (model X.prog X.w) X.A (isTrue e X.env whole) (TP X pins σ Q) X.xe s
def PA(X:Cx)(es:List Expr)(t:TA):Prop :=
 ∀(pos:Pos)(pins:List (acr×Obj))(s:acx)(σ:St)(H:Hp)(Q:List V->Hp->Prop),Inv X pins σ H s->t σ H Q->acL (model X.prog X.w) X.A (spliced (backTo pos (acK es X.env))) (AP X pins σ Q) X.xe s
def PS(X:Cx)(st:Stmt)(t:TS):Prop :=
 ∀(pins:List (acr×Obj))(s:acx)(σ:St)(H:Hp)(D:Ends),Inv X pins σ H s->t D σ H->acL (model X.prog X.w) X.A (exec st X.env) (SP X pins D) X.xe s
def DE(X:Cx)(st:List Stmt)(t:TS):Prop :=
 ∀(pins:List (acr×Obj))(s:acx)(σ:St)(H:Hp)(D:Ends),Inv X pins σ H s->t D σ H->acL (model X.prog X.w) X.A (execs st X.env) (SP X pins D) X.xe s
theorem bJ{α:Type}{t:Sem α}{Q Q':α->acx->Prop}{M:Model}{A:acs}{E:acy->acx->Prop}{s:acx}(h:acL M A t Q E s)(hQ:∀a s,Q a s->Q' a s):acL M A t Q' E s:=acP h hQ λ_ _ x=>x
section
variable {X:Cx}
def Uw(i:Nat):TE:=λσ H Q=>∃v,σ[i]? =some (some v)/\Q v H
def tC(v:V):TE:=λ_ H Q=>Q v H
theorem LY{i:Nat}{x:Str}{pos:Pos}(hN:X.N[i]? =some x)(hv:Ur X.env.scope x)(hd:(x == ("__debug__":Str))=false:=by decide)(hcd:(x == ("__classdict__":Str))=false:=by decide):PE X (.Name x pos) (Uw i):=by
 intro pins s σ H Q I h
 obtain⟨v,e,h⟩:=h
 obtain⟨m,hn,hl⟩:=I.loc
 obtain⟨u,r,l⟩:=hl i x v hN e hv
 have fin:EP X pins σ Q u s:=⟨v,H,I,r,h⟩
 rcases l with ⟨hk,hm⟩ | ⟨hk,c,hc,hcell⟩
 ·exact wpAny_Name (wpAny_loadName_local I.ok.kind hk hn hm fin) hd
 ·rcases hk with hk | hk
  ·exact wpAny_Name (wpAny_loadName_cell I.ok.kind hk hc hcell fin) hd
  ·exact wpAny_Name (wpAny_loadName_free I.ok.kind hk hc hcell fin hcd) hd
theorem LZ{i j pos}:PE X (.Constant (.int i) j pos) (tC (.int i)):=λ_ _ _ H _ I h=>wpAny_Constant_int ⟨.int i,H,I.tok _,⟨_,rfl⟩,h⟩
theorem Qz{b j pos}:PE X (.Constant (.bool b) j pos) (tC (.bl b)):=λ_ _ _ H _ I h=>Constant_bool ⟨.bl b,H,I,rfl,h⟩
theorem L0{j pos}:PE X (.Constant .none j pos) (tC .aI):=λ_ _ _ H _ I h=>Constant_none ⟨.aI,H,I,rfl,h⟩
theorem L3{x j pos}:PE X (.Constant (.str x) j pos) (tC (.str x)):=λ_ _ _ H _ I h=>Calls.Constant_str ⟨.str x,H,I.tok _,⟨_,rfl⟩,h⟩
def Gl(X:Cx)(x:Str):Prop:=X.env.kindOf x=some .globalImplicit
theorem nE{E:acy->acx->Prop}{pins:List (acr×Obj)}{s:acx}{σ:St}{H:Hp}{x:Str}{u:acy}{pos:Pos}{Q:acy->acx->Prop}(I:Inv X pins σ H s)(hg:Gl X x)(hm:X.mg x=some u)(h:Q u s)
  (hd:(x == ("__debug__":Str))=false:=by decide):acL (model X.prog X.w) X.A (eval (.Name x pos) X.env) Q E s :=
 L5 I.ok.kind hg (Calls.loadGlobal_global (by rw[I.ok.glob];exact I.mod.glob.keeps I.bk) hm h) hd
theorem kN{E:acy->acx->Prop}{pins:List (acr×Obj)}{s:acx}{σ:St}{H:Hp}{x:Str}{u:acy}{pos:Pos}{Q:acy->acx->Prop}(I:Inv X pins σ H s)(hg:Gl X x)(hm:X.mg x=none)(hv:acC x=some u)(h:Q u s)
  (hn:x≠"__name__":=by decide)(hd:(x == ("__debug__":Str))=false:=by decide):acL (model X.prog X.w) X.A (eval (.Name x pos) X.env) Q E s:=by
 obtain⟨mb,h1,h2⟩:=I.mod.blt
 exact L5 I.ok.kind hg (Calls.loadGlobal_builtin (by rw[I.ok.glob];exact I.mod.glob.keeps I.bk) hm (by rw[I.ok.blt];exact h1.keeps I.bk) ((h2 x hn).trans hv) h) hd
theorem lH{x:Str}{v:V}{u:acy}{pos:Pos}(hg:Gl X x)(hm:X.mg x=some u)(r:RelV v u)(hd:(x == ("__debug__":Str))=false:=by decide):PE X (.Name x pos) (tC v) :=
 λ_ _ _ H _ I h=>nE I hg hm ⟨v,H,I,r,h⟩ hd
theorem HV{x:Str}{v:V}{u:acy}{pos:Pos}(hg:Gl X x)(hm:X.mg x=none)(hv:acC x=some u)(r:RelV v u)(hn:x≠"__name__":=by decide)(hd:(x == ("__debug__":Str))=false:=by decide):PE X (.Name x pos) (tC v) :=
 λ_ _ _ H _ I h=>kN I hg hm hv ⟨v,H,I,r,h⟩ hn hd
variable {a b:Expr} {ta tb:TE} {pos:Pos}
variable {tA To:TT} {rest:List Expr}
def Ux(t u:TT):TT:=λσ H Q=>t σ H λc H1=>if c=true then u σ H1 Q else Q false H1
def Zz(t u:TT):TT:=λσ H Q=>t σ H λc H1=>if c=true then Q true H1 else u σ H1 Q
def Uy(t:TT):TT:=λσ H Q=>t σ H λc H1=>Q (!c) H1
theorem HW(ha:PT X a tA):PW X (.BoolOp .And [a] pos) tA:=by
 intro wh pins s σ H Q I h
 refine isTrue_and (bJ (ha pins s σ H Q I h) λc s1 e=>?_)
 cases c with
 | true=>exact isTrue_and_nil e
 | false=>exact e
theorem L6(ha:PT X a tA):PW X (.BoolOp .Or [a] pos) tA:=by
 intro wh pins s σ H Q I h
 refine isTrue_or (bJ (ha pins s σ H Q I h) λc s1 e=>?_)
 cases c with
 | false=>exact isTrue_or_nil e
 | true=>exact e
theorem L7(ha:PT X a tA)(hb:PW X (.BoolOp .And (b::rest) pos) To):PW X (.BoolOp .And (a::b::rest) pos) (Ux tA To):=by
 intro wh pins s σ H Q I h
 refine isTrue_and (bJ (ha pins s σ H _ I h) λc s1 ⟨H1,I1,q1⟩=>?_)
 cases c with
 | true=>exact hb wh pins s1 σ H1 Q I1 q1
 | false=>exact⟨H1,I1,q1⟩
theorem QA(ha:PT X a tA)(hb:PW X (.BoolOp .Or (b::rest) pos) To):PW X (.BoolOp .Or (a::b::rest) pos) (Zz tA To):=by
 intro wh pins s σ H Q I h
 refine isTrue_or (bJ (ha pins s σ H _ I h) λc s1 ⟨H1,I1,q1⟩=>?_)
 cases c with
 | true=>exact⟨H1,I1,q1⟩
 | false=>exact hb wh pins s1 σ H1 Q I1 q1
theorem L8(ha:PT X a tA):PT X (.UnaryOp .Not a pos) (Uy tA):=by
 intro pins s σ H Q I h
 exact isTrue_not (ha pins s σ H (λc H1=>Q (!c) H1) I h)
def QB(ta tb:TE):TE:=λσ H Q=>ta σ H λx H1=>∃c,x= .bl c/\if c=true then tb σ H1 Q else Q (.bl false) H1
def QC(ta:TE):TE:=λσ H Q=>ta σ H λx H1=>∃c,x= .bl c/\Q (.bl (!c)) H1
theorem L9{op}{t:TE}(h:PE X a t):PE X (.BoolOp op [a] pos) t:=λpins s σ H Q I hw=>BoolOp_one (h pins s σ H Q I hw)
theorem L_(ha:PE X a ta)(hb:PE X (.BoolOp .And (b::rest) pos) tb):PE X (.BoolOp .And (a::b::rest) pos) (QB ta tb):=by
 intro pins s σ H Q I h
 refine BoolOp_and (bJ (ha pins s σ H _ I h) λv s1 ⟨x,H1,I1,r1,q1⟩=>?_)
 obtain⟨c,rfl,q1⟩:=q1
 cases r1
 refine acS ?_
 cases c with
 | true=>exact hb pins s1 σ H1 Q I1 q1
 | false=>exact⟨.bl false,H1,I1,rfl,q1⟩
theorem L'(ha:PE X a ta):PE X (.UnaryOp .Not a pos) (QC ta):=by
 intro pins s σ H Q I h
 refine UnaryOp_ (bJ (ha pins s σ H _ I h) λv s1 ⟨x,H1,I1,r1,q1⟩=>?_)
 obtain⟨c,rfl,q1⟩:=q1
 cases r1
 exact not_of (acS ⟨.bl (!c),H1,I1,rfl,q1⟩)
def ZA(t:TT)(ta tb:TE):TE:=λσ H Q=>t σ H λc H1=>if c=true then ta σ H1 Q else tb σ H1 Q
theorem DF{c:Expr}(hc:PT X c tA)(ha:PE X a ta)(hb:PE X b tb):PE X (.IfExp c a b pos) (ZA tA ta tb):=by
 intro pins s σ H Q I h
 refine wpAny_IfExp (bJ (hc pins s σ H _ I h) λd s1 ⟨H1,I1,q1⟩=>?_)
 cases d with
 | true=>exact ha pins s1 σ H1 Q I1 q1
 | false=>exact hb pins s1 σ H1 Q I1 q1
end
def mj(K:PySem.W.Frag)(H:Hp)(a:acr)(xs:List V):Prop :=
 Rd H a (.lst xs)\/
  ∃(o:Obj)(its:Array acy)(n:Nat),K.lookup a=some o/\o.cls= .type "list"/\o.dict=none/\o.data= .seq its n/\its.size<=acJ/\Vals xs its.toList
def fV(K:PySem.W.Frag)(H:Hp)(a:acr)(xs:List V):Prop :=
 Rd H a (.tup xs)\/
  ∃(o:Obj)(its:Array acy)(n:Nat),K.lookup a=some o/\o.cls= .type "tuple"/\o.data= .seq its n/\its.size<=acJ/\Vals xs its.toList
def Uz:acy->Option V
 | .none=>some .aI
 | .bool b=>some (.bl b)
 | .int i _=>some (.int i)
 | .str x _=>some (.str x)
 | .bytes b _=>some (.Qb b)
 | .float b _=>some (.Th b)
 | .ref a=>some (.ref a)
 | .type n=>some (.ty n)
 | _=>none
theorem RelV.abs{x:V}{u:acy}(r:RelV x u):Uz u=some x:=by
 cases x with
 | aI=>cases r;rfl
 | bl _=>cases r;rfl
 | int _=>obtain⟨t,rfl⟩:=r;rfl
 | str _=>obtain⟨t,rfl⟩:=r;rfl
 | Qb _=>obtain⟨t,rfl⟩:=r;rfl
 | Th _=>obtain⟨t,rfl⟩:=r;rfl
 | ref _=>cases r;rfl
 | ty _=>cases r;rfl
theorem RelV.inj{x y:V}{u:acy}(r:RelV x u)(q:RelV y u):x=y:=Option.some.inj (r.abs.symm.trans q.abs)
theorem Vals.inj:∀{xs ys:List V}{us:List acy},Vals xs us->Vals ys us->xs=ys
 | _,_,_,.nil,.nil=>rfl
 | _,_,_,.cons r t,.cons r' t'=>by rw[r.inj r',Vals.inj t t']
section
variable {X:Cx} {pins:List (acr×Obj)} {σ:St} {H:Hp} {s:acx} {a:acr} {xs ys:List V}
theorem mj.of{K:PySem.W.Frag}(h:H a=some (.lst xs)):mj K H a xs:=.inl (.inl h)
theorem fV.of{K:PySem.W.Frag}(h:H a=some (.tup xs)):fV K H a xs:=.inl (.inl h)
theorem Inv.list(I:Inv X pins σ H s)(h:mj X.K H a xs):∃its:List acy,Vals xs its/\PlainL s.heap a its.toArray/\xs.length<=acJ:=by
 rcases h with h | ⟨o,its,n,hk,hc,hd,hs,hz,r⟩
 ·obtain⟨z,its,n,r,e⟩:=h.ok I.hok
  exact⟨its,r,⟨_,n,e,rfl,rfl,rfl⟩,z⟩
 ·refine⟨its.toList,r,⟨o,n,I.Dq a o hk,hc,hd,by simpa using hs⟩,?_⟩
  have e:=r.length
  simp only[wK] at e
  omega
theorem Inv.tuple(I:Inv X pins σ H s)(h:fV X.K H a xs):∃its:List acy,Vals xs its/\IsTup s.heap a its.toArray/\xs.length<=acJ:=by
 rcases h with h | ⟨o,its,n,hk,hc,hs,hz,r⟩
 ·obtain⟨z,its,r,p,_⟩:=h.ok I.hok
  exact⟨its,r,p,z⟩
 ·refine⟨its.toList,r,⟨o,I.Dq a o hk,hc,n,by simpa using hs⟩,?_⟩
  have e:=r.length
  simp only[wK] at e
  omega
theorem Inv.DG(I:Inv X pins σ H s)(h:mj X.K H a xs)(h':mj X.K H a ys):xs=ys:=by
 obtain⟨its,r,⟨o,n,e,_,_,d⟩,_⟩:=I.list h
 obtain⟨its',r',⟨o',n',e',_,_,d'⟩,_⟩:=I.list h'
 rw[e] at e';cases e'
 rw[d] at d'
 injection d' with d1 _
 have:its=its':=by simpa using congrArg Array.toList d1
 subst this
 exact r.inj r'
theorem Inv.B1(I:Inv X pins σ H s)(h:fV X.K H a xs)(h':fV X.K H a ys):xs=ys:=by
 obtain⟨its,r,⟨o,e,_,n,d⟩,_⟩:=I.tuple h
 obtain⟨its',r',⟨o',e',_,n',d'⟩,_⟩:=I.tuple h'
 rw[e] at e';cases e'
 rw[d] at d'
 injection d' with d1 _
 have:its=its':=by simpa using congrArg Array.toList d1
 subst this
 exact r.inj r'
end
section
variable {X:Cx} {pins:List (acr×Obj)} {σ:St} {H:Hp} {s:acx} {E:acy->acx->Prop}
end
section
variable {X:Cx} {st:Stmt} {rest:List Stmt} {t u:TS} {e:Expr} {te:TE} {pos:Pos}
def KU:TS:=λD σ H=>D.nx σ H
def UA(t u:TS):TS:=λD σ H=>t { D with nx:=u D } σ H
theorem HX:DE X [] KU:=λ_ _ σ H _ I h=>wpAny_execs_nil ⟨σ,H,I,h⟩
theorem DH(h1:PS X st t)(h2:DE X rest u):DE X (st::rest) (UA t u):=by
 intro pins s σ H D I h
 refine wpAny_execs_cons (bJ (h1 pins s σ H { D with nx:=u D } I h) λf s1 q=>?_)
 cases f with
 | next=>
  obtain⟨σ',H',I',q⟩:=q
  exact h2 pins s1 σ' H' D I' q
 | ret v=>exact q
 | brk=>exact q
 | cont=>exact q
theorem HY(h1:PS X st t):DE X [st] t:=by
 intro pins s σ H D I h
 refine wpAny_execs_cons (bJ (h1 pins s σ H D I h) λf s1 q=>?_)
 cases f with
 | next=>exact wpAny_execs_nil q
 | ret v=>exact q
 | brk=>exact q
 | cont=>exact q
theorem HZ:PS X (.Pass pos) KU:=λ_ _ σ H _ I h=>wpAny_Pass ⟨σ,H,I,h⟩
theorem Inv.quiet{pins:List (acr×Obj)}{σ:St}{H:Hp}{s:acx}(I:Inv X pins σ H s):interactive X.env=false:=by simp[interactive,I.ok.kind]
def QD(te:TE):TS:=λD σ H=>te σ H λ_ H1=>D.nx σ H1
theorem H_(he:PE X e te)(hs:swapsWith e none pos.line X.env=pure false:=by rfl):PS X (.Expr e pos) (QD te):=by
 intro pins s σ H D I h
 exact wpAny_Expr_any (bJ (he pins s σ H _ I h) λv s1 ⟨x,H1,I1,r1,q1⟩=>⟨σ,H1,I1,q1⟩) I.quiet hs
def UB(te:TE):TS:=λD σ H=>te σ H D.rt
theorem Ma(he:PE X e te):PS X (.Return (some e) pos) (UB te):=by
 intro pins s σ H D I h
 exact wpAny_Return_some (bJ (he pins s σ H _ I h) λv s1 ⟨x,H1,I1,r1,q1⟩=>⟨x,σ,H1,I1,r1,q1⟩)
def QE:TS:=λD _ H=>D.rt .aI H
theorem Ia:PS X (.Return none pos) QE:=λ_ _ σ H _ I h=>wpAny_Return_none ⟨.aI,σ,H,I,rfl,h⟩
def UC(c:TT)(t u:TS):TS:=λD σ H=>c σ H λb H1=>if b=true then t D σ H1 else u D σ H1
theorem QF{c:Expr}{a b:List Stmt}{tc:TT}(hc:PT X c tc)(ha:DE X a t)(hb:DE X b u):PS X (.If c a b pos) (UC tc t u):=by
 intro pins s σ H D I h
 refine wpAny_If (bJ (hc pins s σ H _ I h) λd s1 ⟨H1,I1,q1⟩=>?_)
 cases d with
 | true=>exact ha pins s1 σ H1 D I1 q1
 | false=>exact hb pins s1 σ H1 D I1 q1
def DI:TS:=λ_ _ _=>False
theorem DJ:PS X st DI:=λ_ _ _ _ _ _ h=>h.elim
theorem B2{sts:List Stmt}:DE X sts DI:=λ_ _ _ _ _ _ h=>h.elim
end
abbrev TG:=V->St->Hp->(St->Hp->Prop)->Prop
abbrev KW:=List V->St->Hp->(St->Hp->Prop)->Prop
def PG(X:Cx)(target:Expr)(t:TG):Prop :=
 ∀(pins:List (acr×Obj))(s:acx)(σ:St)(H:Hp)(v:V)(u:acy)(Q:St->Hp->Prop),Inv X pins σ H s->RelV v u->t v σ H Q->
  acL (model X.prog X.w) X.A (assign target X.env u) (λ_ s'=>∃σ' H',Inv X pins σ' H' s'/\Q σ' H') X.xe s
def QG(X:Cx)(ts:List Expr)(t:KW):Prop :=
 ∀(pins:List (acr×Obj))(s:acx)(σ:St)(H:Hp)(vs:List V)(us:List acy)(Q:St->Hp->Prop),Inv X pins σ H s->Vals vs us->t vs σ H Q->
  acL (model X.prog X.w) X.A (assignInOrder ((assignEach ts X.env).map (·.2)) us) (λ_ s'=>∃σ' H',Inv X pins σ' H' s'/\Q σ' H') X.xe s
abbrev Ie:=V->V->V->Hp->(Hp->Prop)->Prop
def QH(X:Cx)(t:Ie):Prop :=
 ∀(pins:List (acr×Obj))(s:acx)(σ:St)(H:Hp)(o i v:V)(ov iv u:acy)(Q:Hp->Prop),Inv X pins σ H s->RelV o ov->RelV i iv->RelV v u->t o i v H Q->
  acL (model X.prog X.w) X.A (setItem ov iv u) (λ_ s'=>∃H',Inv X pins σ H' s'/\Q H') X.xe s
section
variable {X:Cx} {pos:Pos}
def wL(i:Nat):TG:=λv σ H Q=>Q (σ.set i (some v)) H
theorem p8{i:Nat}{x:Str}(hN:X.N.Nodup)(hi:X.N[i]? =some x)(hx:Loc X.env.scope x)(hf:X.fn x=true\/X.env.scope.names.lookup x=some .local:=by first | exact .inl rfl | exact .inr rfl | assumption):PG X (.Name x pos) (wL i):=by
 intro pins s σ H v u Q I r h
 exact wpAny_assign_Name (ny I hN hi hx r (λs' I'=>⟨_,H,I',h⟩) hf)
def aq:KW:=λvs σ H Q=>vs=[]/\Q σ H
def ae(t:TG)(u:KW):KW:=λvs σ H Q=>∃v r,vs=v::r/\t v σ H λσ' H'=>u r σ' H' Q
theorem Ig:QG X [] aq:=by
 intro pins s σ H vs us Q I r h
 obtain⟨e,h⟩:=h
 subst e
 cases r
 exact assignInOrder_nil ⟨σ,H,I,h⟩
theorem DK{e:Expr}{es:List Expr}{t:TG}{u:KW}(h1:PG X e t)(h2:QG X es u)
  (hs:(assignEach (e::es) X.env).map (·.2)=assign e X.env::(assignEach es X.env).map (·.2):=by rfl):QG X (e::es) (ae t u):=by
 intro pins s σ H vs us Q I r h
 obtain⟨v,vr,e1,h⟩:=h
 subst e1
 cases r with
 | cons r rr=>
  rw[hs]
  refine assignInOrder_cons (bJ (h1 pins s σ H _ _ _ I r h) λ_ s1 ⟨σ1,H1,I1,q1⟩=>?_)
  exact h2 pins s1 σ1 H1 _ _ Q I1 rr q1
def bO(K:PySem.W.Frag)(n:Nat)(t:KW):TG:=λv σ H Q=>∃a xs,v= .ref a/\fV K H a xs/\xs.length=n/\t xs σ H Q
theorem yN{es:List Expr}{k:Nat}{t:KW}{n:Nat}(hc:X.calm=true)(h:QG X es t)
  (hn:(assignEach es X.env).length=n:=by rfl)(hst:(assignEach es X.env).findIdx? (·.1)=none:=by rfl):PG X (.Tuple es k pos) (bO X.K n t):=by
 intro pins s σ H v u Q I r hw
 obtain⟨a,xs,e1,hq,hl,hw⟩:=hw
 subst e1
 cases r
 obtain⟨its,rv,ht,hz⟩:=I.tuple hq
 refine assign_Tuple_tuple (I.ok.hd hc) ht (by simp[hn,<-hl,rv.length]) hst λh' hx=>?_
 have I1:Inv X pins σ H { s with heap:=h' }:=I.kept (t':=s.toks) λb o e=>hx b o (bu (aC e)) e
 exact h pins _ σ H xs _ Q I1 (by simpa using rv) hw
def UD(to ti:TE)(t:Ie):TG:=λv σ H Q=>to σ H λo H1=>ti σ H1 λi H2=>t o i v H2 λH3=>Q σ H3
theorem Mb{o i:Expr}{to ti:TE}{t:Ie}(ho:PE X o to)(hi:PE X i ti)(hs:QH X t)
  (ha:∀v,assign (.Subscript o i pos) X.env v=(do
   let ov <-holding [v] (eval o X.env)
   let iv <-holding [v,ov] (eval i X.env)
   standAt pos
   holding [v,ov,iv] (setItem ov iv v)
   release [v,ov,iv] []):=by intro _;rfl):PG X (.Subscript o i pos) (UD to ti t):=by
 intro pins s σ H v u Q I r h
 rw[ha]
 refine acM (acO (bJ (ho pins s σ H _ I h) λov s1 ⟨x,H1,I1,r1,q1⟩=>?_))
 refine acM (acO (bJ (hi pins s1 σ H1 _ I1 q1) λiv s2 ⟨y,H2,I2,r2,q2⟩=>?_))
 refine acM (wpAny_standAt (acM (acO (bJ (hs pins s2 σ H2 x y v ov iv u _ I2 r1 r2 r q2) λ_ s3 ⟨H3,I3,q3⟩=>?_))))
 exact wpAny_release ⟨σ,H3,I3,q3⟩
def QI(te:TE)(g:TG):TS:=λD σ H=>te σ H λx H1=>g x σ H1 D.nx
theorem DL{tg e:Expr}{te:TE}{g:TG}(he:PE X e te)(hg:PG X tg g)(hs:swapsWithSole [tg] e pos.line X.env=pure false:=by rfl)(hw:swappedStores [tg] e X.env=pure none:=by rfl)
  (h1:(assignEach [tg] X.env).map (·.2)=[assign tg X.env]:=by rfl):PS X (.Assign [tg] e pos) (QI te g):=by
 intro pins s σ H D I h
 refine wpAny_Assign_stores (bJ (he pins s σ H _ I h) λv s1 ⟨x,H1,I1,r1,q1⟩=>?_) hs hw
 rw[h1]
 exact bJ (hg pins s1 σ H1 x v _ I1 r1 q1) λ_ s2 q=>q
theorem Mc{i:Nat}{x:Str}{e:Expr}{te:TE}{pos':Pos}(hN:X.N.Nodup)(hi:X.N[i]? =some x)(hx:Loc X.env.scope x)(he:PE X e te)(hs:swapsWith e (some (.Name x pos')) pos.line X.env=pure false:=by rfl)(hf:X.fn x=true\/X.env.scope.names.lookup x=some .local:=by first | exact .inl rfl | exact .inr rfl | assumption) :
  PS X (.Assign [.Name x pos'] e pos) (QI te (wL i)):=by
 intro pins s σ H D I h
 refine wpAny_Assign_Name (bJ (he pins s σ H _ I h) λv s1 ⟨y,H1,I1,r1,q1⟩=>?_) hs
 exact ny I1 hN hi hx r1 (λs2 I2=>⟨_,H1,I2,q1⟩) hf
end
section
variable {X:Cx} {pos:Pos}
end
structure It where
 go:Nat->Hp->Prop
 yF:Nat->Hp->V->Hp->Prop
 stop:Nat->Hp->Prop
def ij(X:Cx)(pins:List (acr×Obj))(H:Hp)(b:acr):Prop :=
 H b=none/\b≠X.env.locals/\b∉X.fs/\(b∈X.ex\/X.s₀.heap.objs.size<=b)/\(∀x c,X.env.cells.lookup x=some c->c≠b)/\∀p∈X.pn++pins,p.1≠b
theorem Inv.yO{X:Cx}{pins:List (acr×Obj)}{σ:St}{H H':Hp}{s:acx}{b:acr}(I:Inv X pins σ H s)(hb:s.heap.objs.size<=b)(hn:H' b=none):ij X pins H' b:=by
 refine⟨hn,lI (bt I.lt hb),I.Uu hb,.inr (bg I.sz hb),λx c e z=>?_,λp hp z=>?_⟩
 ·obtain⟨v,q⟩:=I.cell x c e
  exact absurd (bt q.lt (by rw[z];exact hb)) (cX _)
 ·exact absurd (bt (aC (I.pin p hp).1) (by rw[z];exact hb)) (cX _)
structure Turn(P:acw)(w:acz)(K:PySem.W.Frag)(tg:Expr)(J:It)(fp:List acr)(it:acr)(tn:Nat->Heap->Prop):Prop where
 mem:it∈fp
 obj:∀i h,tn i h->∀b∈fp,∃o,h.get? b=some o/\∀v,o.data≠.cell v
 keep:∀i h h',tn i h->(∀b∈fp,∀o,h.get? b=some o->h'.get? b=some o)->tn i h'
 item:∀(X:Cx),X.prog=P->X.w=w->X.K=K->X.calm=true->∀(i:Nat)(pins:List (acr×Obj))(s:acx)(σ:St)(H:Hp)(E:acy->acx->Prop),Inv X pins σ H s->(∀b∈fp,ij X pins H b)->tn i s.heap->J.go i H->
  acL (model P w) X.A (pyNext (.ref it)) (λr s1=>∃u,r=some u/\
   acL (model P w) X.A (letOwnedTupleGo tg (.ref it) u) (λ_ s2=>∃x H',Inv X pins σ H' s2/\RelV x u/\J.yF i H x H'/\tn (i+1) s2.heap/\∀b∈fp,H' b=none) E s1) E s
 done:∀(X:Cx),X.prog=P->X.w=w->X.K=K->X.calm=true->∀(i:Nat)(pins:List (acr×Obj))(s:acx)(σ:St)(H:Hp)(E:acy->acx->Prop),Inv X pins σ H s->(∀b∈fp,ij X pins H b)->tn i s.heap->J.stop i H->
  acL (model P w) X.A (pyNext (.ref it)) (λr s1=>r=none/\Inv X pins σ H s1) E s
 self:∀(A:acs)(i:Nat)(s:acx)(Q:acy->acx->Prop)(E:acy->acx->Prop),tn i s.heap->Q (.ref it) s->acL (model P w) A (pyIter (.ref it)) Q E s
abbrev TI:=St->Hp->(It->Hp->Prop)->Prop
def UE(X:Cx)(pins:List (acr×Obj))(σ:St)(tg:Expr)(R:It->Hp->Prop)(itv:acy)(s2:acx):Prop :=
 ∃(it:acr)(fp:List acr)(tn:Nat->Heap->Prop)(J:It)(H':Hp),itv= .ref it/\Inv X pins σ H' s2/\Turn X.prog X.w X.K tg J fp it tn/\tn 0 s2.heap/\(∀b∈fp,ij X pins H' b)/\R J H'
def PI(X:Cx)(tg iter:Expr)(wi:TI):Prop :=
 ∀(pins:List (acr×Obj))(s:acx)(σ:St)(H:Hp)(R:It->Hp->Prop),Inv X pins σ H s->wi σ H R->
  acL (model X.prog X.w) X.A (eval iter X.env) (λv s1=>acL (model X.prog X.w) X.A (pyIter v) (UE X pins σ tg R) X.xe s1) X.xe s
theorem tq{M:Model}{A:acs}{E:acy->acx->Prop}{s:acx}{tg:Expr}{it:acr}{u:acy}{o:Obj}{n:String}{vs:Array acy}{Q:Unit->acx->Prop}(ho:s.heap.get? it=some o)(hc:o.cls= .type n)(hd:o.data= .fields vs)
    (hn:["enumerate","zip","dict_itemiterator","dict_reverseitemiterator","odict_iterator","itertools.zip_longest","itertools.pairwise"].contains n=false)(hQ:Q () s):acL M A (letOwnedTupleGo tg (.ref it) u) Q E s:=by
  unfold letOwnedTupleGo
  cases tg<;>first
    | exact acR hQ
    | (cases u<;>first
        | exact acR hQ
        | (refine acM (wpAny_load ho ?_)
           rw[hc,hd]
           show acL M A (if(["enumerate","zip","dict_itemiterator","dict_reverseitemiterator","odict_iterator","itertools.zip_longest","itertools.pairwise"].contains n&&vs[0]? == some (rawInt _))=true then _ else _) Q E s
           rw[if_neg (by intro h;rw[hn,AH] at h;cases h)]
           exact acR hQ))
def UG(K:PySem.W.Frag)(a:acr):It :=
 ⟨λi H=>∃xs x,mj K H a xs/\xs[i]? =some x,λi H x H'=>H'=H/\∀xs,mj K H a xs->xs[i]? =some x,λi H=>∃xs,mj K H a xs/\xs.length<=i⟩
def Ye(K:PySem.W.Frag)(a:acr):It :=
 ⟨λi H=>∃xs x,fV K H a xs/\xs[i]? =some x,λi H x H'=>H'=H/\∀xs,fV K H a xs->xs[i]? =some x,λi H=>∃xs,fV K H a xs/\xs.length<=i⟩
def Hz(lo:Int)(n:Nat):It:=⟨λi _=>i < n,λi H x H'=>H'=H/\x= .int (lo+i),λi _=>n<=i⟩
theorem tD{P:acw}{w:acz}{K:PySem.W.Frag}{tg:Expr}(a it:acr):Turn P w K tg (UG K a) [it] it (λi h=>h.IsListIter it a i) where
 mem:=by simp
 obj:=λi h st b hb=>by
  have e:b=it:=by simpa using hb
  subst e
  obtain⟨o,e,c,d⟩:=st
  exact⟨o,e,λv z=>by rw[d] at z;cases z⟩
 keep:=λi h h' st k=>st.at λo e=>k it (by simp) o e
 item:=by
  intro X hP hw hK hc i pins s σ H E I hf st hg
  subst hP hw hK
  obtain⟨xs,x,hq,hx⟩:=hg
  obtain⟨its,rv,p,hz⟩:=I.list hq
  obtain⟨u,hu,ru⟩:=rv.get hx
  obtain⟨f0,f1,f2,f3,f4,f5⟩:=hf it (by simp)
  refine wpAny_pyNext_list_item st p.isList (x:=u) (by simpa using hu) λh' st' sb=>?_
  have I1:Inv X pins σ H { s with heap:=h' }:=I.turned (t':=s.toks) (λb o hb e=>(sb.2 b hb).trans e) f0 f1 f3 f4 f5
  obtain⟨o,e,c,d⟩:=id st'
  exact⟨u,rfl,tq (s:={ s with heap:=h' }) e c d (by decide) ⟨x,H,I1,ru,⟨rfl,λys hy=>by rw[I.DG hy hq];exact hx⟩,st',λb hb=>(hf b hb).1⟩⟩
 done:=by
  intro X hP hw hK hc i pins s σ H E I hf st hg
  subst hP hw hK
  obtain⟨xs,hq,hx⟩:=hg
  obtain⟨its,rv,p,hz⟩:=I.list hq
  obtain⟨f0,f1,f2,f3,f4,f5⟩:=hf it (by simp)
  have hl:=rv.length
  exact wpAny_pyNext_list_end (I.ok.hd hc) st p.isList (by simp;omega) λh' eb=>⟨rfl,I.turned (t':=s.toks) (λb o hb e=>eb b o hb e) f0 f1 f3 f4 f5⟩
 self:=λ_ _ _ _ _ st h=>wpAny_pyIter_listiter st h
theorem yP{P:acw}{w:acz}{K:PySem.W.Frag}{tg:Expr}(a it:acr):Turn P w K tg (Ye K a) [it] it (λi h=>h.IsTupleIter it a i) where
 mem:=by simp
 obj:=λi h st b hb=>by
  have e:b=it:=by simpa using hb
  subst e
  obtain⟨o,e,c,d⟩:=st
  exact⟨o,e,λv z=>by rw[d] at z;cases z⟩
 keep:=λi h h' st k=>st.at λo e=>k it (by simp) o e
 item:=by
  intro X hP hw hK hc i pins s σ H E I hf st hg
  subst hP hw hK
  obtain⟨xs,x,hq,hx⟩:=hg
  obtain⟨its,rv,p,hz⟩:=I.tuple hq
  obtain⟨u,hu,ru⟩:=rv.get hx
  obtain⟨f0,f1,f2,f3,f4,f5⟩:=hf it (by simp)
  refine wpAny_pyNext_tuple_item st (show s.heap.IsTuple a its.toArray from p) (x:=u) (by simpa using hu) λh' st' sb=>?_
  have I1:Inv X pins σ H { s with heap:=h' }:=I.turned (t':=s.toks) (λb o hb e=>(sb.2 b hb).trans e) f0 f1 f3 f4 f5
  obtain⟨o,e,c,d⟩:=id st'
  exact⟨u,rfl,tq (s:={ s with heap:=h' }) e c d (by decide) ⟨x,H,I1,ru,⟨rfl,λys hy=>by rw[I.B1 hy hq];exact hx⟩,st',λb hb=>(hf b hb).1⟩⟩
 done:=by
  intro X hP hw hK hc i pins s σ H E I hf st hg
  subst hP hw hK
  obtain⟨xs,hq,hx⟩:=hg
  obtain⟨its,rv,p,hz⟩:=I.tuple hq
  obtain⟨f0,f1,f2,f3,f4,f5⟩:=hf it (by simp)
  have hl:=rv.length
  exact wpAny_pyNext_tuple_end (I.ok.hd hc) st (show s.heap.IsTuple a its.toArray from p) (by simp;omega) λh' eb=>⟨rfl,I.turned (t':=s.toks) (λb o hb e=>eb b o hb e) f0 f1 f3 f4 f5⟩
 self:=λ_ _ _ _ _ st h=>wpAny_pyIter_tupleiter st h
theorem jM{P:acw}{w:acz}{K:PySem.W.Frag}{tg:Expr}(it:acr)(lo:Int)(n:Nat):Turn P w K tg (Hz lo n) [it] it (λi h=>IsRangeIter h it (lo+(i:Nat) * 1) ((n:Int) - (i:Nat)) 1) where
 mem:=by simp
 obj:=λi h st b hb=>by
  have e:b=it:=by simpa using hb
  subst e
  exact⟨_,st,λv z=>by
   have z':Data.fields _=Data.cell v:=z
   cases z'⟩
 keep:=λi h h' st k=>k it (by simp) _ st
 item:=by
  intro X hP hw hK hc i pins s σ H E I hf st hg
  subst hP hw hK
  obtain⟨f0,f1,f2,f3,f4,f5⟩:=hf it (by simp)
  have W:=Walks.range (prog:=X.prog) (w:=X.w) (I.ok.hd hc) it lo 1 n
  refine W.item i s _ _ hg st λv h' tk hv st' kk=>?_
  obtain⟨t,rfl⟩:=hv
  have I1:Inv X pins σ H { s with heap:=h',toks:=tk }:=I.turned (λb o hb e=>kk b o (by simpa using hb) e) f0 f1 f3 f4 f5
  refine⟨_,rfl,tq (s:={ s with heap:=h',toks:=tk }) (n:="range_iterator") st' rfl rfl (by decide) ⟨.int (lo+i),H,I1,⟨t,?_⟩,⟨rfl,rfl⟩,st',λb hb=>(hf b hb).1⟩⟩
  rw[Int.mul_one]
 done:=by
  intro X hP hw hK hc i pins s σ H E I hf st hg
  subst hP hw hK
  obtain⟨f0,f1,f2,f3,f4,f5⟩:=hf it (by simp)
  exact wpAny_pyNext_range_end (I.ok.hd hc) st (by have:n<=i:=hg;omega) λh' eb=>⟨rfl,I.turned (t':=s.toks) (λb o hb e=>eb b o hb e) f0 f1 f3 f4 f5⟩
 self:=λ_ _ _ _ _ st h=>wpAny_pyIter_rangeiter st h
section
variable {X:Cx} {tg:Expr}
def QJ(K:PySem.W.Frag)(tl:TE):TI:=λσ H R=>tl σ H λx H1=>∃a,x= .ref a/\(∃xs,mj K H1 a xs)/\R (UG K a) H1
theorem Ih{l:Expr}{tl:TE}(hl:PE X l tl):PI X tg l (QJ X.K tl):=by
 intro pins s σ H R I h
 refine bJ (hl pins s σ H _ I h) λv s1 ⟨x,H1,I1,r1,q1⟩=>?_
 obtain⟨a,e,⟨xs,hq⟩,q⟩:=q1
 subst e
 cases r1
 obtain⟨its,rv,p,hz⟩:=I1.list hq
 refine wpAny_pyIter_list p.isList ?_
 refine⟨s1.heap.objs.size,[s1.heap.objs.size],_,_,H1,rfl,I1.kept (t':=s1.toks) λb o e=>aL _ e,tD a _,⟨_,bz _ rfl,rfl,rfl⟩,λb hb=>?_,q⟩
 have e:b=s1.heap.objs.size:=by simpa using hb
 subst e
 exact I1.yO (au _) (I1.hok.fresh (au _))
theorem wM{pins:List (acr×Obj)}{σ:St}{H:Hp}{s:acx}{R:It->Hp->Prop}{E:acy->acx->Prop}{lo hi:Int}{t u v:Tok}{tk:Nat}(I:Inv X pins σ H s)(h1:-(2 ^ 62)<=lo)(h2:lo < 2 ^ 62)(h3:-(2 ^ 62)<=hi)(h4:hi < 2 ^ 62)
  (q:R (Hz lo (hi - lo).toNat) H):acL (model X.prog X.w) X.A (pyIter (.ref s.heap.objs.size)) (UE X pins σ tg R) E { s with heap:=s.heap.push { cls:=.type "range",data:=.fields #[.int lo t,.int hi u,.int 1 v] },toks:=tk }:=by
 refine wpAny_pyIter_range (IsRange.new ..) (small_one h1 h2 h3 h4) ?_
 have I1:Inv X pins σ H { s with heap:=s.heap.push { cls:=.type "range",data:=.fields #[.int lo t,.int hi u,.int 1 v] },toks:=tk }:=I.kept λb o e=>aL _ e
 refine⟨(s.heap.push { cls:=.type "range",data:=.fields #[.int lo t,.int hi u,.int 1 v] }).objs.size,[(s.heap.push { cls:=.type "range",data:=.fields #[.int lo t,.int hi u,.int 1 v] }).objs.size],_,_,H,rfl,
  I1.kept (t':=tk) λb o e=>aL _ e,jM _ lo (hi - lo).toNat,?_,λb hb=>?_,q⟩
 ·have e1:lo+((0:Nat):Int) * 1=lo:=by simp
  have e2:(((hi - lo).toNat:Nat):Int) - ((0:Nat):Int)=Md lo hi 1:=by rw[rangeSize_one];split<;>omega
  show IsRangeIter _ _ (lo+((0:Nat):Int) * 1) ((((hi - lo).toNat:Nat):Int) - ((0:Nat):Int)) 1
  rw[e1,e2]
  exact bz _ rfl
 ·have e:b=(s.heap.push { cls:=.type "range",data:=.fields #[.int lo t,.int hi u,.int 1 v] }).objs.size:=by simpa using hb
  subst e
  exact I1.yO (au _) (I1.hok.fresh (au _))
def KY(ta:TA):TI:=λσ H R=>ta σ H λvs H1=>∃j:Int,vs=[.int j]/\-(2 ^ 62)<=j/\j < 2 ^ 62/\R (Hz 0 j.toNat) H1
def QK(ta:TA):TI:=λσ H R=>ta σ H λvs H1=>∃i j:Int,vs=[.int i,.int j]/\(-(2 ^ 62)<=i/\i < 2 ^ 62/\-(2 ^ 62)<=j/\j < 2 ^ 62)/\R (Hz i (j - i).toNat) H1
theorem tE{a:Expr}{ta:TA}{p pos:Pos}(hg:Gl X "range")(hm:X.mg "range"=none)(ha:PA X [a] ta)(hs:acK [a] X.env=[(false,eval a X.env)]:=by rfl):PI X tg (.Call (.Name "range" p) [a] [] pos) (KY ta):=by
 intro pins s σ H R I h
 refine Call_ (kN I hg hm boot_range (nG (bJ (ha pos pins s σ H _ I h) λus s1 ⟨vs,H1,I1,r1,q1⟩=>?_) hs rfl))
 obtain⟨j,e,q1,q2,q⟩:=q1
 subst e
 cases r1 with
 | cons r rr=>
  cases rr
  obtain⟨t,rfl⟩:=r
  exact call_range_1 (wM I1 (by omega) (by omega) q1 q2 (by simpa using q))
theorem tF{a b:Expr}{ta:TA}{p pos:Pos}(hg:Gl X "range")(hm:X.mg "range"=none)(ha:PA X [a,b] ta)(hs:acK [a,b] X.env=[(false,eval a X.env),(false,eval b X.env)]:=by rfl)(hs2:acK [b] X.env=[(false,eval b X.env)]:=by rfl) :
  PI X tg (.Call (.Name "range" p) [a,b] [] pos) (QK ta):=by
 intro pins s σ H R I h
 refine Call_ (kN I hg hm boot_range (nG (bJ (ha pos pins s σ H _ I h) λus s1 ⟨vs,H1,I1,r1,q1⟩=>?_) (by rw[hs,hs2]) (by rw[hs2];rfl)))
 obtain⟨i,j,e,⟨q1,q2,q3,q4⟩,q⟩:=q1
 subst e
 cases r1 with
 | cons r rr=>
  cases rr with
  | cons r' rr=>
   cases rr
   obtain⟨t,rfl⟩:=r
   obtain⟨t',rfl⟩:=r'
   exact call_range_2 (wM I1 q1 q2 q3 q4 q)
def UH(wi:TI)(g:TG)(tb:TS):TS:=λD σ H=>wi σ H λJ H1=>∃W:Nat->Nat->St->Hp->Prop,(∃m,W 0 m σ H1)/\∀i m σ H,W i m σ H->
 (J.stop i H/\D.nx σ H)\/(J.go i H/\∃N:St->Hp->Prop,(∀σ' H',N σ' H'->∃m',m' < m/\W (i+1) m' σ' H')/\∀x H',J.yF i H x H'->g x σ H' λσ2 H2=>tb { D with nx:=N,ct:=N,bk:=D.nx } σ2 H2)
def iI(fp:List acr)(h:Heap):List (acr×Obj):=fp.filterMap λb=>(h.get? b).map λo=>(b,o)
theorem jN{fp:List acr}{h:Heap}{b:acr}{o:Obj}(hb:b∈fp)(e:h.get? b=some o):(b,o)∈iI fp h:=List.mem_filterMap.mpr ⟨b,hb,by rw[e];rfl⟩
theorem B3{fp:List acr}{h:Heap}{p:acr×Obj}(hp:p∈iI fp h):p.1∈fp/\h.get? p.1=some p.2:=by
 obtain⟨b,hb,e⟩:=List.mem_filterMap.mp hp
 cases q:h.get? b with
 | none=>rw[q] at e;cases e
 | some o=>
  rw[q] at e
  have e':(b,o)=p:=Option.some.inj e
  subst e'
  exact⟨hb,q⟩
theorem Inv.pinned{pins:List (acr×Obj)}{σ:St}{H:Hp}{s:acx}{fp:List acr}(I:Inv X pins σ H s)(hf:∀b∈fp,ij X pins H b)(ho:∀b∈fp,∃o,s.heap.get? b=some o/\∀v,o.data≠.cell v):Inv X (pins++iI fp s.heap) σ H s :=
 I.AG λp hp=>(List.mem_append.mp hp).elim (λz=>I.pin p (ip _ z)) λz=>by
  obtain⟨hb,e⟩:=B3 z
  obtain⟨f0,f1,f2,_⟩:=hf p.1 hb
  obtain⟨o,e',d⟩:=ho p.1 hb
  rw[e] at e';cases e'
  exact⟨e,f0,f1,f2,d⟩
theorem Inv.nH{pins pl:List (acr×Obj)}{σ:St}{H:Hp}{s:acx}(I:Inv X (pins++pl) σ H s):Inv X pins σ H s:=I.AG λp hp=>I.pin p (ip _ (lG _ hp))
theorem qz{iter:Expr}{body:List Stmt}{wi:TI}{g:TG}{tb:TS}{pos:Pos}(hp:PassesOwn (model X.prog X.w) X.A X.env X.xe)(hc:X.calm=true)(hi:PI X tg iter wi)(hg:PG X tg g)(hb:DE X body tb)
  (hs:∀x,acG iter X.env x=pure x:=by intro _;rfl):PS X (.For tg iter body [] pos) (UH wi g tb):=by
 intro pins s σ H D I h
 refine wpAny_For (bJ (hi pins s σ H _ I h) λv s1 h1=>bJ h1 λitv s2 h2=>?_) hs
 obtain⟨it,fp,tn,J,H2,e,I2,T,st2,f2,W,⟨m0,w0⟩,turn⟩:=h2
 subst e
 -- what stays true of the Me objects through the loop
 have Mf:∀{H':Hp},(∀b∈fp,H' b=none)->∀b∈fp,ij X pins H' b:=λhn b hb=>⟨hn b hb,(f2 b hb).2⟩
 refine codeAny_forLoop_any (λn s'=>∃i σ' H',Inv X pins σ' H' s'/\tn i s'.heap/\(∀b∈fp,H' b=none)/\W i n σ' H') ?_ m0 ⟨0,σ,H2,I2,st2,λb hb=>(f2 b hb).1,w0⟩
 rintro n s3 ⟨i,σ3,H3,I3,st3,Yf,w3⟩
 rcases turn i n σ3 H3 w3 with ⟨stop,qn⟩ | ⟨go,N,hN,step⟩
 ·refine wpAny_passesOwn hp (bJ (T.done X rfl rfl rfl hc i pins s3 σ3 H3 X.xe I3 (Mf Yf) st3 stop) λr s4 ⟨hr,I4⟩=>?_)
  subst hr
  exact wpAny_execs_nil ⟨σ3,H3,I4,qn⟩
 ·refine wpAny_passesOwn hp (bJ (T.item X rfl rfl rfl hc i pins s3 σ3 H3 X.xe I3 (Mf Yf) st3 go) λr s4 ⟨u,hr,h4⟩=>?_)
  subst hr
  refine wpAny_passesOwn hp (bJ h4 λ_ s5 ⟨x,H5,I5,r5,y5,DM,Tp⟩=>?_)
  have ZE:=I5.pinned (Mf Tp) (T.obj _ _ DM)
  refine wpAny_passesOwn hp (bJ (hg _ s5 σ3 H5 x u _ ZE r5 (step x H5 y5)) λ_ s6 ⟨σ6,H6,I6,q6⟩=>?_)
  refine wpAny_passesOwn hp (bJ (hb _ s6 σ6 H6 _ I6 q6) λf s7 q7=>?_)
  have again:∀{σ7:St}{H7:Hp},Inv X (pins++iI fp s5.heap) σ7 H7 s7->N σ7 H7->∃m,m < n/\∃i σ' H',Inv X pins σ' H' s7/\tn i s7.heap/\(∀b∈fp,H' b=none)/\W i m σ' H':=λ{σ7 H7} I7 n7=>by
   obtain⟨m',hm,w7⟩:=hN σ7 H7 n7
   refine⟨m',hm,i+1,σ7,H7,I7.nH,T.keep _ _ _ DM λb hb o e=>(I7.pin (b,o) (ip _ (ip _ (jN hb e)))).1,λb hb=>?_,w7⟩
   obtain⟨o,e,d⟩:=T.obj _ _ DM b hb
   exact(I7.pin (b,o) (ip _ (ip _ (jN hb e)))).2.1
  cases f with
  | next=>obtain⟨σ7,H7,I7,n7⟩:=q7;exact again I7 n7
  | cont=>obtain⟨σ7,H7,I7,n7⟩:=q7;exact again I7 n7
  | brk=>obtain⟨σ7,H7,I7,q7⟩:=q7;exact⟨σ7,H7,I7.nH,q7⟩
  | ret v=>obtain⟨x7,σ7,H7,I7,r7,q7⟩:=q7;exact⟨x7,σ7,H7,I7.nH,r7,q7⟩
end
abbrev R2:=V->V->Hp->VK->Prop
def fW(X:Cx)(f:acy->acy->Sem acy)(r:R2):Prop :=
 ∀(pins:List (acr×Obj))(s:acx)(σ:St)(H:Hp)(x y:V)(v u:acy)(Q:VK),Inv X pins σ H s->RelV x v->RelV y u->r x y H Q->
  acL (model X.prog X.w) X.A (f v u) (EP X pins σ Q) X.xe s
def UI(X:Cx)(f:acy->Sem acy)(r:V->Hp->VK->Prop):Prop :=
 ∀(pins:List (acr×Obj))(s:acx)(σ:St)(H:Hp)(x:V)(v:acy)(Q:VK),Inv X pins σ H s->RelV x v->r x H Q->
  acL (model X.prog X.w) X.A (f v) (EP X pins σ Q) X.xe s
def cV(X:Cx)(f:acy)(r:List V->Hp->VK->Prop):Prop :=
 ∀(pins:List (acr×Obj))(s:acx)(σ:St)(H:Hp)(xs:List V)(us:List acy)(Q:VK),Inv X pins σ H s->Vals xs us->r xs H Q->
  acL (model X.prog X.w) X.A (call f us) (EP X pins σ Q) X.xe s
def UJ(X:Cx)(r:V->Hp->(Bool->Hp->Prop)->Prop):Prop :=
 ∀(pins:List (acr×Obj))(s:acx)(σ:St)(H:Hp)(x:V)(v:acy)(Q:Bool->Hp->Prop),Inv X pins σ H s->RelV x v->r x H Q->
  acL (model X.prog X.w) X.A (truthy v) (TP X pins σ Q) X.xe s
def QL(r:R2)(ta tb:TE):TE:=λσ H Q=>ta σ H λx H1=>tb σ H1 λy H2=>r x y H2 Q
def ZF(r:V->Hp->VK->Prop)(ta:TE):TE:=λσ H Q=>ta σ H λx H1=>r x H1 Q
def rI(C:Int->Int->Prop)(g:Int->Int->V):R2:=λx y H Q=>∃i j,x= .int i/\y= .int j/\C i j/\Q (g i j) H
def KZ(g:Int->Int->V):R2:=λx y H Q=>∃i j,x= .int i/\y= .int j/\Q (g i j) H
def rU(g:Int->V):V->Hp->VK->Prop:=λx H Q=>∃i,x= .int i/\Q (g i) H
section
variable {X:Cx} {a b c:Expr} {ta tb tc:TE} {pos:Pos}
theorem Mg(ha:PE X a ta)(hb:PE X b tb){pins:List (acr×Obj)}{s:acx}{σ:St}{H:Hp}{R:V->V->Hp->Prop}(I:Inv X pins σ H s)
  (h:ta σ H λx H1=>tb σ H1 λy H2=>R x y H2){Q:acy->acx->Prop}{f:acy->acy->Sem acy}
  (hf:∀v u s2 x y H2,Inv X pins σ H2 s2->RelV x v->RelV y u->R x y H2->acL (model X.prog X.w) X.A (f v u) Q X.xe s2) :
  acL (model X.prog X.w) X.A (eval a X.env) (λv s₁=>acL (model X.prog X.w) X.A (eval b X.env) (λu s₂=>acL (model X.prog X.w) X.A (f v u) Q X.xe s₂) X.xe s₁) X.xe s:=by
 refine bJ (ha pins s σ H _ I h) λv s1 ⟨x,H1,I1,r1,q1⟩=>?_
 refine bJ (hb pins s1 σ H1 _ I1 q1) λu s2 ⟨y,H2,I2,r2,q2⟩=>?_
 exact hf v u s2 x y H2 I2 r1 r2 q2
theorem QM{op:Operator}{r:R2}(ho:fW X (acB op) r)(ha:PE X a ta)(hb:PE X b tb):PE X (.BinOp a op b pos) (QL r ta tb):=by
 intro pins s σ H Q I h
 exact wpAny_BinOp (Mg ha hb I h λv u s2 x y H2 I2 rx ry q=>ho pins s2 σ H2 x y v u Q I2 rx ry q)
theorem QN{op:UnaryOp}{r:V->Hp->VK->Prop}(ho:UI X (unaryOp op) r)(ha:PE X a ta):PE X (.UnaryOp op a pos) (ZF r ta):=by
 intro pins s σ H Q I h
 exact UnaryOp_ (bJ (ha pins s σ H _ I h) λv s1 ⟨x,H1,I1,r1,q1⟩=>ho pins s1 σ H1 x v Q I1 r1 q1)
theorem Tq{f:acy->acy->Sem acy}{C:Int->Int->Prop}{g:Int->Int->Int}
  (rule:∀(i j:Int)(t u:Tok)(s:acx)(Q:acy->acx->Prop)(E:acy->acx->Prop),C i j->Q (.int (g i j) s.toks) { s with toks:=s.toks+1 }->acL (model X.prog X.w) X.A (f (.int i t) (.int j u)) Q E s) :
  fW X f (rI C λi j=> .int (g i j)):=by
 intro pins s σ H x y v u Q I rx ry h
 obtain⟨i,j,rfl,rfl,hc,q⟩:=h
 obtain⟨t,rfl⟩:=rx
 obtain⟨t',rfl⟩:=ry
 exact rule i j t t' s _ _ hc ⟨.int (g i j),H,I.tok _,⟨_,rfl⟩,q⟩
theorem QO{f:acy->acy->Sem acy}{g:Int->Int->Int}
  (rule:∀(i j:Int)(t u:Tok)(s:acx)(Q:acy->acx->Prop)(E:acy->acx->Prop),Q (.int (g i j) s.toks) { s with toks:=s.toks+1 }->acL (model X.prog X.w) X.A (f (.int i t) (.int j u)) Q E s) :
  fW X f (KZ λi j=> .int (g i j)):=by
 intro pins s σ H x y v u Q I rx ry h
 obtain⟨i,j,rfl,rfl,q⟩:=h
 obtain⟨t,rfl⟩:=rx
 obtain⟨t',rfl⟩:=ry
 exact rule i j t t' s _ _ ⟨.int (g i j),H,I.tok _,⟨_,rfl⟩,q⟩
theorem Ii{f:acy->acy->Sem acy}{g:Int->Int->Bool}
  (rule:∀(i j:Int)(t u:Tok)(s:acx)(Q:acy->acx->Prop)(E:acy->acx->Prop),Q (.bool (g i j)) s->acL (model X.prog X.w) X.A (f (.int i t) (.int j u)) Q E s) :
  fW X f (KZ λi j=> .bl (g i j)):=by
 intro pins s σ H x y v u Q I rx ry h
 obtain⟨i,j,rfl,rfl,q⟩:=h
 obtain⟨t,rfl⟩:=rx
 obtain⟨t',rfl⟩:=ry
 exact rule i j t t' s _ _ ⟨.bl (g i j),H,I,rfl,q⟩
def UK(i j:Int):Prop:=0<=j/\j<=1000000/\i.natAbs < 2 ^ 64
theorem Mh:fW X (acB .Add) (KZ λi j=> .int (i+j)):=QO λ_ _ _ _ _ _ _ q=>add_int q
theorem Mi:fW X (acB .Sub) (KZ λi j=> .int (i - j)):=QO λ_ _ _ _ _ _ _ q=>sub_int q
theorem Mj:fW X (acB .Pow) (rI UK λi j=> .int (i ^ j.toNat)):=Tq λ_ _ _ _ _ _ _ hc q=>pow_int_small hc.1 hc.2.1 hc.2.2 q
theorem ZG{f:acy->Sem acy}{g:Int->Int}
  (rule:∀(i:Int)(t:Tok)(s:acx)(Q:acy->acx->Prop)(E:acy->acx->Prop),Q (.int (g i) s.toks) { s with toks:=s.toks+1 }->acL (model X.prog X.w) X.A (f (.int i t)) Q E s) :
  UI X f (rU λi=> .int (g i)):=by
 intro pins s σ H x v Q I rx h
 obtain⟨i,rfl,q⟩:=h
 obtain⟨t,rfl⟩:=rx
 exact rule i t s _ _ ⟨.int (g i),H,I.tok _,⟨_,rfl⟩,q⟩
theorem Mk:UI X (unaryOp .USub) (rU λi=> .int (-i)):=ZG λ_ _ _ _ _ q=>neg_int q
end
section
variable {X:Cx} {a b c:Expr} {ta tb tc:TE} {pos:Pos}
theorem uP{pins:List (acr×Obj)}{σ:St}{H:Hp}{s:acx}{Q:VK}{k k':Bool}(I:Inv X pins σ H s)(q:Q (.bl k) H)(e:k=k'):EP X pins σ Q (.bool k') s:=by
 subst e
 exact⟨.bl k,H,I,rfl,q⟩
theorem QP:fW X (acF .Lt) (KZ λi j=> .bl (decide (i < j))):=Ii λ_ _ _ _ _ _ _ q=>lt_int q
theorem QQ:fW X (acF .LtE) (KZ λi j=> .bl (decide (i<=j))):=Ii λ_ _ _ _ _ _ _ q=>le_int q
theorem QR:fW X (acF .Gt) (KZ λi j=> .bl (decide (j < i))):=Ii λ_ _ _ _ _ _ _ q=>gt_int q
theorem QS:fW X (acF .GtE) (KZ λi j=> .bl (decide (j<=i))):=Ii λ_ _ _ _ _ _ _ q=>ge_int q
theorem B4:fW X (acF .Lt) (λx y H Q=>∃i j,x= .str i/\y= .str j/\Q (.bl (decide (i.cps.toList < j.cps.toList))) H):=by
 intro pins s σ H x y v u Q I rx ry h
 obtain⟨i,j,rfl,rfl,q⟩:=h
 obtain⟨t,rfl⟩:=rx
 obtain⟨t',rfl⟩:=ry
 exact lt_str (uP I q rfl)
theorem B5:fW X (acF .In) (λx y H Q=>∃i j,x= .str i/\y= .str j/\Q (.bl (!(Ml j i 0 j.length 1).isEmpty)) H):=by
 intro pins s σ H x y v u Q I rx ry h
 obtain⟨i,j,rfl,rfl,q⟩:=h
 obtain⟨t,rfl⟩:=rx
 obtain⟨t',rfl⟩:=ry
 exact in_str (uP I q rfl)
theorem Mm:fW X (acF .Is) (λx y H Q=>y= .aI/\Q (.bl (decide (x= .aI))) H):=by
 intro pins s σ H x y v u Q I rx ry h
 obtain⟨rfl,q⟩:=h
 cases ry
 refine is_none_gen (uP I q ?_)
 cases x<;>first
  | (cases rx;rfl)
  | (obtain⟨t,rfl⟩:=rx;rfl)
theorem Ij:fW X (acF .IsNot) (λx y H Q=>y= .aI/\Q (.bl (!decide (x= .aI))) H):=by
 intro pins s σ H x y v u Q I rx ry h
 obtain⟨rfl,q⟩:=h
 cases ry
 refine isnot_none_gen (uP I q ?_)
 cases x<;>first
  | (cases rx;rfl)
  | (obtain⟨t,rfl⟩:=rx;rfl)
theorem Il{op:CmpOp}{r:R2}(ho:fW X (acF op) r)(ha:PE X a ta)(hb:PE X b tb)(hm:acA op b=false):PE X (.Compare a [op] [b] pos) (QL r ta tb):=by
 intro pins s σ H Q I h
 exact wpAny_Compare1 (Mg ha hb I h λv u s2 x y H2 I2 rx ry q=>ho pins s2 σ H2 x y v u Q I2 rx ry q) hm
def K1(t:TE):TT:=λσ H Q=>t σ H λx H'=>∃k,x= .bl k/\Q k H'
theorem Io{op:CmpOp}{r:R2}(ho:fW X (acF op) r)(ha:PE X a ta)(hb:PE X b tb)(hm:acA op b=false):PT X (.Compare a [op] [b] pos) (K1 (QL r ta tb)):=by
 intro pins s σ H Q I h
 refine wpAny_isTrue_Compare1 (bJ (ha pins s σ H _ I h) λv s1 ⟨x,H1,I1,r1,q1⟩=>bJ (hb pins s1 σ H1 _ I1 q1) λu s2 ⟨y,H2,I2,r2,q2⟩=>
  bJ (ho pins s2 σ H2 x y v u _ I2 r1 r2 q2) λc s3 ⟨z,H3,I3,r3,k,e,q3⟩=>?_) hm
 subst e
 cases r3
 exact acS ⟨H3,I3,q3⟩
def yQ(r r':R2)(ta tb tc:TE):TE:=λσ H Q=>ta σ H λx H1=>tb σ H1 λy H2=>r x y H2 λz H3=>∃k,z= .bl k/\
 (if k=true then tc σ H3 λw' H4=>r' y w' H4 Q else Q (.bl false) H3)
theorem DN{op op':CmpOp}{r r':R2}(ho:fW X (acF op) r)(ho':fW X (acF op') r')(ha:PE X a ta)(hb:PE X b tb)(hc:PE X c tc)
  (hm:lastMarks [op,op'] [b,c]=false:=by with_unfolding_all rfl):PE X (.Compare a [op,op'] [b,c] pos) (yQ r r' ta tb tc):=by
 intro pins s σ H Q I h
 refine Compare_chain (bJ (ha pins s σ H _ I h) λv s1 ⟨x,H1,I1,r1,q1⟩=>chain_link (bJ (hb pins s1 σ H1 _ I1 q1) λu s2 ⟨y,H2,I2,r2,q2⟩=>
  bJ (ho pins s2 σ H2 x y v u _ I2 r1 r2 q2) λd s3 ⟨z,H3,I3,r3,k,e,q3⟩=>?_)) hm
 subst e
 cases r3
 refine acS ?_
 cases k with
 | false=>exact ite_ff ⟨.bl false,H3,I3,rfl,q3⟩
 | true=>exact ite_tt (chain_last (bJ (hc pins s3 σ H3 _ I3 q3) λw' s4 ⟨z',H4,I4,r4,q4⟩=>ho' pins s4 σ H4 y z' u w' Q I4 r2 r4 q4))
theorem DO{op op':CmpOp}{r r':R2}(ho:fW X (acF op) r)(ho':fW X (acF op') r')(ha:PE X a ta)(hb:PE X b tb)(hc:PE X c tc)
  (hm:lastMarks [op,op'] [b,c]=false:=by with_unfolding_all rfl):PT X (.Compare a [op,op'] [b,c] pos) (K1 (yQ r r' ta tb tc)):=by
 intro pins s σ H Q I h
 refine isTrue_chain (bJ (ha pins s σ H _ I h) λv s1 ⟨x,H1,I1,r1,q1⟩=>test_link (bJ (hb pins s1 σ H1 _ I1 q1) λu s2 ⟨y,H2,I2,r2,q2⟩=>
  bJ (ho pins s2 σ H2 x y v u _ I2 r1 r2 q2) λd s3 ⟨z,H3,I3,r3,k,e,q3⟩=>?_)) hm
 subst e
 cases r3
 refine acS ?_
 cases k with
 | false=>
  obtain⟨k',e',q'⟩:=q3
  cases e'
  exact ite_ff ⟨H3,I3,q'⟩
 | true=>
  refine ite_tt (test_last (bJ (hc pins s3 σ H3 _ I3 q3) λw' s4 ⟨z',H4,I4,r4,q4⟩=>bJ (ho' pins s4 σ H4 y z' u w' _ I4 r2 r4 q4) λd' s5 ⟨z2,H5,I5,r5,k2,e2,q5⟩=>?_))
  subst e2
  cases r5
  exact acS ⟨H5,I5,q5⟩
def QT(K:PySem.W.Frag)(x:V)(H:Hp)(k:Bool):Prop :=
 match x with
 | .aI=>k=false
 | .bl b=>k=b
 | .int i=>k=(i != 0)
 | .str y=>y.length<=acJ/\k=((y.length:Int) != 0)
 | .Qb y=>y.size<=acJ/\k=((y.size:Int) != 0)
 | .ref p=>(∃xs,mj K H p xs/\k= !xs.isEmpty)\/(∃xs,fV K H p xs/\k= !xs.isEmpty)\/∃kvs,H p=some (.dK kvs)/\k= !kvs.isEmpty
 | _=>False
theorem yR{κ:Type}{kvs:List (κ×V)}{vs:List (κ×acy)}(r:KV kvs vs):(!vs.isEmpty)= !kvs.isEmpty:=by
 cases r<;>rfl
theorem qA{xs:List V}{its:List acy}(r:Vals xs its):(!its.toArray.isEmpty)= !xs.isEmpty:=by
 cases r<;>simp
theorem mH:(acJ:Nat) < 2 ^ 63:=by rw[sizeLine_eq];decide
theorem Mn:UJ X (λx H Q=>∃k,QT X.K x H k/\Q k H):=by
 intro pins s σ H x v Q I rx h
 obtain⟨k,e,q⟩:=h
 have hl:=mH
 have hs:acJ=16777216:=sizeLine_eq
 cases x with
 | aI=>
  cases rx
  have e':k=false:=e
  subst e'
  exact truthy_none ⟨H,I,q⟩
 | bl b=>
  cases rx
  have e':k=b:=e
  subst e'
  exact acS ⟨H,I,q⟩
 | int i=>
  obtain⟨t,rfl⟩:=rx
  have e':k=(i != 0):=e
  subst e'
  exact PySem.P.truthy_int ⟨H,I,q⟩
 | str y=>
  obtain⟨t,rfl⟩:=rx
  obtain⟨hy,e'⟩:y.length<=acJ/\k=((y.length:Int) != 0):=e
  subst e'
  exact PySem.P.truthy_str (by omega) ⟨H,I.tok _,q⟩
 | Qb y=>
  obtain⟨t,rfl⟩:=rx
  obtain⟨hy,e'⟩:y.size<=acJ/\k=((y.size:Int) != 0):=e
  subst e'
  exact PySem.W.truthy_bytes (by omega) ⟨H,I.tok _,q⟩
 | ref p=>
  cases rx
  have e':(∃xs,mj X.K H p xs/\k= !xs.isEmpty)\/(∃xs,fV X.K H p xs/\k= !xs.isEmpty)\/∃kvs,H p=some (.dK kvs)/\k= !kvs.isEmpty:=e
  rcases e' with ⟨xs,hx,e'⟩ | ⟨xs,hx,e'⟩ | ⟨kvs,hx,e'⟩
  ·subst e'
   obtain⟨its,r,pl,hz⟩:=I.list hx
   have hlen:=r.length
   exact wpAny_truthy_list pl.isList (by simp only[aM];omega) ⟨H,I.tok _,by rw[qA r];exact q⟩
  ·subst e'
   obtain⟨its,r,pl,hz⟩:=I.tuple hx
   have hlen:=r.length
   exact truthy_tuple pl (by simp only[aM];omega) ⟨H,I.tok _,by rw[qA r];exact q⟩
  ·subst e'
   obtain⟨hz,hS,vs,r,m⟩:kvs.length<=acJ/\(p == sysModules)=false/\∃vs,KV kvs vs/\s.heap.DictOf (bq X.prog X.w) p vs:=I.hok p _ hx
   have hlen:kvs.length=vs.length:=Paired.length r
   exact wpAny_truthy_dict hS m (by omega) ⟨H,I.tok _,by rw[yR r];exact q⟩
 | _=>exact(show False from e).elim
theorem DP(ha:PE X a ta)(he:∀whole,isTrue a X.env whole=(do let v <-whole;standAt a.pos;holding [v] (truthy v))) :
  PT X a (λσ H Q=>ta σ H λx H'=>∃k,QT X.K x H' k/\Q k H'):=by
 intro pins s σ H Q I h
 exact isTrue_plain (bJ (ha pins s σ H _ I h) λv s1 ⟨x,H1,I1,r1,q1⟩=>Mn pins s1 σ H1 x v Q I1 r1 q1) (he _)
theorem yS:fW X (acB .Add) (λx y H Q=>∃i j,x= .str i/\y= .str j/\i.length+j.length<=acJ/\Q (.str (i++j)) H):=by
 intro pins s σ H x y v u Q I rx ry h
 obtain⟨i,j,rfl,rfl,hz,q⟩:=h
 obtain⟨t,rfl⟩:=rx
 obtain⟨t',rfl⟩:=ry
 exact add_str (λt' tk=>⟨.str (i++j),H,I.tok _,⟨_,rfl⟩,q⟩) hz
theorem vals1{x:V}{us:List acy}(r:Vals [x] us):∃u,us=[u]/\RelV x u:=by
 cases r with
 | cons r1 r2=>cases r2;exact⟨_,rfl,r1⟩
theorem vals2{x y:V}{us:List acy}(r:Vals [x,y] us):∃u w',us=[u,w']/\RelV x u/\RelV y w':=by
 cases r with
 | cons r1 r2=>
  cases r2 with
  | cons r3 r4=>cases r4;exact⟨_,_,rfl,r1,r3⟩
theorem DQ:cV X (.builtin "abs") (λxs H Q=>∃i,xs=[.int i]/\Q (.int (if i < 0 then -i else i)) H):=by
 intro pins s σ H xs us Q I r h
 obtain⟨i,rfl,q⟩:=h
 obtain⟨u,rfl,t,rfl⟩:=vals1 r
 exact call_abs_int λu tk=>⟨.int (if i < 0 then -i else i),H,I.tok _,⟨_,rfl⟩,q⟩
theorem B6:cV X (.type "int") (λxs H Q=>(∃i,xs=[.int i]/\Q (.int i) H)\/∃k,xs=[.bl k]/\Q (.int (if k then 1 else 0)) H):=by
 intro pins s σ H xs us Q I r h
 rcases h with ⟨i,rfl,q⟩ | ⟨k,rfl,q⟩
 ·obtain⟨u,rfl,t,rfl⟩:=vals1 r
  exact call_int_int ⟨.int i,H,I,⟨_,rfl⟩,q⟩
 ·obtain⟨u,rfl,r1⟩:=vals1 r
  cases r1
  exact call_int_bool ⟨.int (if k then 1 else 0),H,I.tok _,⟨_,rfl⟩,q⟩
theorem uQ:cV X (.type "str") (λxs H Q=>∃i,xs=[.int i]/\i.natAbs.log2 < 1920/\Q (.str (toString i)) H):=by
 intro pins s σ H xs us Q I r h
 obtain⟨i,rfl,hz,q⟩:=h
 obtain⟨u,rfl,t,rfl⟩:=vals1 r
 exact PySem.P.str_of_int hz ⟨.str _,H,I.tok _,⟨_,rfl⟩,q⟩
theorem DR:cV X (.builtin "ord") (λxs H Q=>∃x,xs=[.str x]/\x.length=1/\Q (.int (x.cps.getD 0 0:Nat)) H):=by
 intro pins s σ H xs us Q I r h
 obtain⟨x,rfl,hz,q⟩:=h
 obtain⟨u,rfl,t,rfl⟩:=vals1 r
 exact ord_of_one hz ⟨.int _,H,I.tok _,⟨_,rfl⟩,q⟩
end
section
variable {prog:acw} {w:acz} {A:acs} {E:acy->acx->Prop} {s:acx} {K:PySem.W.Frag} {x dx C f:acr} {mA:Str->Option acy} {name:Str} {v:acy}
end
section
variable {P:acw} {w:acz} {H H':Hp} {h h':Heap} {a C dx:acr} {fs fs':List (Str×V)}
end
section
variable {X:Cx} {pins:List (acr×Obj)} {σ:St} {H:Hp} {s:acx} {a C dx:acr} {fs:List (Str×V)} {f:Str} {v:V} {A:acs} {E:acy->acx->Prop}
end
section
variable {X:Cx} {o e value:Expr} {f:Str} {pos pos' tpos:Pos} {ta tv:TE}
end
section
variable {X:Cx} {pins:List (acr×Obj)} {σ:St} {H:Hp} {s:acx} {A:acs} {E:acy->acx->Prop} {Q:acy->acx->Prop} {c:acy} {b:Bool}
end
structure kO(k:Nat)(A:acs):Prop where
 hd:A.handled=none
 dp:A.depth+3 * k+5 < recursionLimit
 un:A.units+16 * k+200 < cLine
theorem kO.mono{j k:Nat}{A:acs}(r:kO k A)(h:j<=k):kO j A:=⟨r.hd,by have:=r.dp;omega,by have:=r.un;omega⟩
theorem kO.deeper{k:Nat}{A:acs}(r:kO (k+1) A)(env:Env):kO k (A.deeper env) :=
 ⟨r.hd,by have:=r.dp;show A.depth+1+3 * k+5 < _;omega,by have:=r.un;show A.units+3+16 * k+200 < _;omega⟩
theorem kO.depth{k:Nat}{A:acs}(r:kO k A):A.depth < recursionLimit:=by have:=r.dp;omega
def UL:TA:=λ_ H Q=>Q [] H
def QU(ta:TE)(tr:TA):TA:=λσ H Q=>ta σ H λx H1=>tr σ H1 λxs H2=>Q (x::xs) H2
section
variable {X:Cx} {e:Expr} {es:List Expr} {te:TE} {t:TA} {pos:Pos}
theorem Mo:PA X [] UL:=λ_ _ _ _ H Q I h=>yT ⟨[],H,I,.nil,h⟩
theorem Ip(ha:PE X e te)(hr:PA X es t)(hs:acK (e::es) X.env=(false,eval e X.env)::acK es X.env:=by rfl):PA X (e::es) (QU te t):=by
 intro pos pins s σ H Q I h
 rw[hs]
 show acL _ _ (spliced ((false,eval e X.env)::backTo pos (acK es X.env))) _ _ s
 refine qB (bJ (ha pins s σ H _ I h) λu s1 ⟨x,H1,I1,r1,q1⟩=>?_)
 exact bJ (hr pos pins s1 σ H1 _ I1 q1) λus s2 ⟨xs,H2,I2,r2,q2⟩=>⟨x::xs,H2,I2,.cons r1 r2,q2⟩
def UM(t:TA):TE:=λσ H Q=>t σ H λxs H1=>xs.length<=acJ/\∀p,H1 p=none->Q (.ref p) (upd H1 p (.tup xs))
def UN(t:TA):TE:=λσ H Q=>t σ H λxs H1=>xs.length<=acJ/\∀p,H1 p=none->Q (.ref p) (upd H1 p (.lst xs))
theorem Mq{x1}(h:PA X es t):PE X (.Tuple es x1 pos) (UM t):=by
 intro pins s σ H Q I hq
 refine wpAny_Tuple_spliced (bJ (h pos pins s σ H _ I hq) λus s1 ⟨xs,H1,I1,r,z,q⟩=>⟨by rw[<-r.length];exact z,?_⟩)
 have hf:H1 s1.heap.objs.size=none:=I1.hok.fresh (au _)
 refine⟨.ref s1.heap.objs.size,upd H1 s1.heap.objs.size (.tup xs),I1.laid (t':=s1.toks) (λb u e=>aL _ e) (au _) ?_,rfl,q _ hf⟩
 exact⟨z,us,r,⟨_,bz _ rfl,rfl,_,rfl⟩,wJ.new _ _⟩
theorem Mr(h:PA X es t):PE X (.List es pos) (UN t):=by
 intro pins s σ H Q I hq
 refine wpAny_List_spliced (bJ (h pos pins s σ H _ I hq) λus s1 ⟨xs,H1,I1,r,z,q⟩=>⟨by rw[<-r.length];exact z,?_⟩)
 have hf:H1 s1.heap.objs.size=none:=I1.hok.fresh (au _)
 refine⟨.ref s1.heap.objs.size,upd H1 s1.heap.objs.size (.lst xs),I1.laid (t':=s1.toks) (λb u e=>aL _ e) (au _) ?_,rfl,q _ hf⟩
 exact⟨z,us,0,r,bz _ rfl⟩
end
abbrev Sp:=List V->Hp->VK->XK->Prop
abbrev Dr:=List Env->Hp->acx->XK->acy->acx->Prop
structure yU(P:acw)(w:acz)(K:PySem.W.Frag)(mg:Str->Option acy)(base:Heap)(A:acs)(outer:List Env)(s:acx)(H:Hp):Prop where
 frames:A.frames=some outer
 mod:Mod K mg base
 bs:∀b o,base.get? b=some o->s.heap.get? b=some o/\H b=none
 Hy:base.objs.size<=s.heap.objs.size
 mG:s.heap.FunFrames base outer
 HS:∀b∈frs outer,H b=none
 hok:ko P w H s.heap
 bare:AllBare s.gens
def CE(outer:List Env)(P:acw)(w:acz)(H:Hp)(s:acx)(Q:VK)(u:acy)(s':acx):Prop :=
 ∃v H',s'.os=s.os/\AllBare s'.gens/\Un (frs outer) [] H H' s.heap s'.heap/\ko P w H' s'.heap/\RelV v u/\Q v H'
def CR(CX:Dr)(outer:List Env)(P:acw)(w:acz)(H:Hp)(s:acx)(Q:VK)(E:XK)(r:Result)(s':acx):Prop :=
 match r with
 | .ok (.ret u)=>CE outer P w H s Q u s'
 | .ok _=>False
 | .error e=>CX outer H s E e s'
structure FnOk(P:acw)(w:acz)(K:PySem.W.Frag)(mg:Str->Option acy)(base:Heap)(CX:Dr)(k:Nat)(f:acr)(fd:acu)(ps:List Str)(sp:Sp):Prop where
 len:∀vs H Q E,sp vs H Q E->vs.length=ps.length
 run:∀(A:acs)(outer:List Env)(s:acx)(H:Hp)(args:Args)(us:List acy)(vs:List V)(Q:VK)(E:XK),kO k A->yU P w K mg base A outer s H->BindsTo s fd args (ps.zip us)->Vals vs us->sp vs H Q E->
  acD (model P w) A (.call (.ref f) args) (CR CX outer P w H s Q E) s
theorem FnOk.mono{P:acw}{w:acz}{K:PySem.W.Frag}{mg:Str->Option acy}{base:Heap}{CX:Dr}{j k:Nat}{f:acr}{fd:acu}{ps:List Str}{sp:Sp}(F:FnOk P w K mg base CX j f fd ps sp)(h:j<=k) :
  FnOk P w K mg base CX k f fd ps sp:=⟨F.len,λA outer s H args us vs Q E hr=>F.run A outer s H args us vs Q E (hr.mono h)⟩
section
variable {X:Cx} {pins:List (acr×Obj)} {σ:St} {H:Hp} {s s':acx}
theorem Inv.QV(I:Inv X pins σ H s):yU X.prog X.w X.K X.mg X.base X.A X.stack s H :=
 ⟨I.ok.frames,I.ok.mod,I.bs,bg I.ok.Hy I.sz,I.stack,I.nu,I.hok,I.bare⟩
theorem Inv.after{Q:VK}{u:acy}(I:Inv X pins σ H s)(h:CE X.stack X.prog X.w H s Q u s'):EP X pins σ Q u s':=by
 obtain⟨v,H',os,bare,un,hok,r,q⟩:=h
 obtain⟨hh,g,d,t,os'⟩:=s'
 obtain rfl:os'=s.os:=os
 exact⟨v,H',I.call (h':=hh) (g':=g) (d':=d) (t':=t) (ch:=[]) un hok bare (λb z=>absurd z (by simp)),r,q⟩
end
def Binds(K:PySem.W.Frag)(fd:acu)(ps:List Str)(ds:List acy):Prop :=
 ∀(s:acx)(us:List acy),K.In s.heap->(us++ds).length=ps.length->BindsTo s fd ⟨us,[]⟩ (ps.zip (us++ds))
theorem Binds.all{K:PySem.W.Frag}{fd:acu}{ps:List Str}(h:∀us:List acy,us.length=ps.length->bindArgs fd ⟨us,[]⟩=pure (ps.zip us)):Binds K fd ps []:=λs us _ hl=>by
 rw[jO] at hl ⊢
 exact .of_eq (h us hl)
section
variable {X:Cx} {CX:Dr} {k:Nat} {f C:acr} {fd:acu} {ps:List Str} {sp:Sp} {dvs:List V} {ds:List acy} {E:XK} {x m:Str} {p pos apos:Pos} {e o:Expr} {es:List Expr} {ta:TE} {t:TA}
end
section
variable {X:Cx} {CX:Dr} {k:Nat} {f C:acr} {fd:acu} {ps ks:List Str} {sp:Sp} {E:XK} {x m:Str} {p pos apos kpos:Pos} {e o:Expr} {es:List Expr} {kws:List Keyword} {te ta:TE} {t tk:TA} {nm:Option Str}
variable {g:List acy->List acy->List acy} {gV:List V->List V->List V}
end
structure FnScope(N P:List Str)(sc:Scope):Prop where
 kind:sc.kind= .function
 co:sc.isCoroutine=false
 gen:sc.isGenerator=false
 nd:N.Nodup
 pre:N.take P.length=P
 par:∀x∈P,sc.names.lookup x=some .local\/sc.names.lookup x=some .cell
 Ms:∀y∈sc.names,y.2≠.free
theorem tG{kindOf:Str->Option acv}{x:Str}:∀{binds:List (Str×acy)}{m:Str->Option acy},(∀v,(x,v)∉binds)->bindL kindOf binds m x=m x
 | [],_,_=>rfl
 | (n,v)::r,m,h=>by
  unfold bindL
  rw[tG λw hw=>h w (aN _ hw)]
  split
  ·have:x≠n:=by rintro rfl;exact h v aR
   simp[this]
  ·rfl
theorem tH{kindOf:Str->Option acv}{x:Str}:∀{binds:List (Str×acy)}{m:Str->Option acy},(∀v,(x,v)∉binds)->bindC kindOf binds m x=m x
 | [],_,_=>rfl
 | (n,v)::r,m,h=>by
  unfold bindC
  rw[tH λw hw=>h w (aN _ hw)]
  split
  ·rfl
  ·have:x≠n:=by rintro rfl;exact h v aR
   simp[this]
theorem tJ{kindOf:Str->Option acv}{x:Str}{v:acy}:∀{P:List Str}{vs:List acy}{i:Nat}{m:Str->Option acy},P.Nodup->P[i]? =some x->vs[i]? =some v->kindOf x=some .local->
  bindL kindOf (P.zip vs) m x=some v
 | [],_,_,_,_,h,_,_=>by simp at h
 | _::_,[],_,_,_,_,h,_=>by simp at h
 | p::P,w::vs,0,m,nd,h1,h2,hk=>by
  simp at h1 h2;subst h1;subst h2
  show bindL kindOf ((p,w)::P.zip vs) m p=_
  unfold bindL
  rw[tG λv hv=>(List.nodup_cons.mp nd).1 (uR hv).1,if_pos hk]
  simp
 | p::P,w::vs,i+1,m,nd,h1,h2,hk=>by
  show bindL kindOf ((p,w)::P.zip vs) m x=_
  unfold bindL
  exact tJ (i:=i) (List.nodup_cons.mp nd).2 (by simpa using h1) (by simpa using h2) hk
theorem tL{kindOf:Str->Option acv}{x:Str}{v:acy}:∀{P:List Str}{vs:List acy}{i:Nat}{m:Str->Option acy},P.Nodup->P[i]? =some x->vs[i]? =some v->kindOf x≠some .local->
  bindC kindOf (P.zip vs) m x=some v
 | [],_,_,_,_,h,_,_=>by simp at h
 | _::_,[],_,_,_,_,h,_=>by simp at h
 | p::P,w::vs,0,m,nd,h1,h2,hk=>by
  simp at h1 h2;subst h1;subst h2
  show bindC kindOf ((p,w)::P.zip vs) m p=_
  unfold bindC
  rw[tH λv hv=>(List.nodup_cons.mp nd).1 (uR hv).1,if_neg hk]
  simp
 | p::P,w::vs,i+1,m,nd,h1,h2,hk=>by
  show bindC kindOf ((p,w)::P.zip vs) m x=_
  unfold bindC
  exact tL (i:=i) (List.nodup_cons.mp nd).2 (by simpa using h1) (by simpa using h2) hk
def start(N:List Str)(vs:List V):St:=vs.map some++ar (N.length - vs.length) none
def qC(CX:Dr)(P:acw)(w:acz)(K:PySem.W.Frag)(mg:Str->Option acy)(base:Heap)(N:List Str)(qual:Str)(scope:Scope)(f:acr)(cd:acy)(A:acs)(outer:List Env)(s:acx)(H:Hp)(E:XK):Cx where
 prog:=P
 w:=w
 K:=K
 mg:=mg
 base:=base
 A:=A.deeper (envOfC qual scope s.heap.objs.size f cd)
 N:=N
 s₀:=s
 H₀:=H
 env:=envOfC qual scope s.heap.objs.size f cd
 outer:=outer
 stack:=envOfC qual scope s.heap.objs.size f cd::outer
 ex:=[]
 calm:=true
 fn:=λ_=>true
 pn:=[]
 xe:=λe s'=>acL (model P w) (A.deeper (envOfC qual scope s.heap.objs.size f cd)) (leaving (envOfC qual scope s.heap.objs.size f cd) e) (λ_ s''=>CX outer H s E e s'') (λe' s''=>CX outer H s E e' s'') s'
theorem wN{sc:Scope}{n:Nat}{x:Str}(h:sc.names.lookup x=some .cell):∃c,(cellsFrom n sc.names []).lookup x=some c:=by
 have q:=PySem.W.cellsFrom_some sc.names n [] (.inl h)
 exact Option.isSome_iff_exists.mp q
theorem tM{CX:Dr}{P:acw}{w:acz}{K:PySem.W.Frag}{mg:Str->Option acy}{base:Heap}{N ps:List Str}{qual:Str}{scope:Scope}{f:acr}{cd:acy}{A:acs}{outer:List Env}{s s1:acx}{H:Hp}{E:XK}{us:List acy}{vs:List V}
  (S:FnScope N ps scope)(hd:A.handled=none)(e0:yU P w K mg base A outer s H)(hl:vs.length=ps.length)(r:Vals vs us)
  (x:InCallC s s.heap.objs.size (bindL (envOfC qual scope s.heap.objs.size f cd).kindOf (ps.zip us) λ_=>none) (cellsFrom (s.heap.objs.size+1) scope.names []) (bindC (envOfC qual scope s.heap.objs.size f cd).kindOf (ps.zip us) λ_=>none) s1) :
  Inv (qC CX P w K mg base N qual scope f cd A outer s H E) [] (start N vs) H s1:=by
 have hpl:ps.length<=N.length:=by have:=congrArg dq S.pre;rw[dt] at this;omega
 obtain⟨h1,tk,rfl,hk⟩:=x.done
 have QW:∀b:acr,b∉(qC CX P w K mg base N qual scope f cd A outer s H E).ex:=λb z=>absurd (show b∈([]:List acr) from z) (by simp)
 refine⟨⟨e0.mod,S.kind,rfl,rfl,au _,λy z c h1 h2=>?_,λy hy=>?_,λy c _ h=>?_,λ_=>hd,Around.frames_deeper e0.frames,.inr ⟨rfl,rfl⟩,λb z=>absurd z (QW b),e0.bs,e0.Hy,λb _ _=>QW b,λb z=>absurd z (QW b),e0.mG,e0.HS⟩,
  rfl,e0.bare,Un.kept hk,⟨_,x.toInCall.ns,λi y v h1 h2 h3=>?_⟩,λy c h=>⟨_,x.cell y c h⟩,e0.hok.fresh (au _),λy c h=>?_,λp hp=>absurd (show p∈([]:List (acr×Obj)) from hp) (by simp),e0.hok.kept hk,?_⟩
 ·exact name_of_addr x.apart (PySem.mem_of_lookup h1) (PySem.mem_of_lookup h2)
 ·have hy:scope.names.lookup y=some .cell\/scope.names.lookup y=some .free:=hy
  rcases hy with hy | hy
  ·exact wN hy
  ·exact absurd rfl (S.Ms _ (PySem.mem_of_lookup hy))
 ·exact AE (x.above y c (PySem.mem_of_lookup h))
 ·have hi:i < vs.length:=by
   unfold start at h2
   by_cases hi:i < vs.length
   ·exact hi
   ·rw[mI (by simpa using hi)] at h2
    rw[Iq] at h2
    split at h2<;>cases h2
  have ha:vs[i]? =some v:=by
   unfold start at h2
   rw[fX (by simpa using hi),fg] at h2
   cases e:vs[i]? with
   | none=>rw[e] at h2;cases h2
   | some a=>rw[e] at h2;cases h2;rfl
  obtain⟨u,hu,rv⟩:=r.get ha
  have hp:ps[i]? =some y:=by
   rw[<-S.pre,List.getElem?_take_of_lt (by omega)];exact h1
  have Yg:ps.Nodup:=by rw[<-S.pre];exact S.nd.sublist (List.take_sublist _ _)
  refine⟨u,rv,?_⟩
  rcases S.par y (uS hp) with k | k
  ·exact .inl ⟨k,tJ Yg hp hu k⟩
  ·obtain⟨c,e⟩:=wN (n:=s.heap.objs.size+1) k
   refine .inr ⟨.inl k,c,e,?_⟩
   have q:=x.cell y c e
   rw[tL Yg hp hu (by show scope.names.lookup y≠_;rw[k];decide)] at q
   exact q
 ·exact e0.hok.fresh (AE (x.above y c (PySem.mem_of_lookup h)))
 ·unfold start
  show _=N.length
  rw[cY,aB,AI]
  omega
theorem QX{CX:Dr}{P:acw}{w:acz}{K:PySem.W.Frag}{mg:Str->Option acy}{base:Heap}{k:Nat}{f:acr}{name qual:Str}{params:Arguments}{body:List Stmt}{scope:Scope}{dV kV doc pm cdv ct oc:acy}{an od:Option acr}
  {osl:Array (Option acy)}{N ps:List Str}{sp:Sp}(lk:K.lookup f=some ⟨oc,od,.func (PySem.W.fnOf name qual params body scope dV kV doc pm an cdv ct),osl⟩)(hcd:PySem.W.codeIn K cdv qual=true)(S:FnScope N ps scope)
  (len:∀vs H Q E,sp vs H Q E->vs.length=ps.length)
  (hbody:∀(A:acs)(outer:List Env)(s:acx)(H:Hp)(vs:List V)(Q:VK)(E:XK),kO k (A.deeper (envOfC qual scope s.heap.objs.size f cdv))->sp vs H Q E->
   ∃t,DE (qC CX P w K mg base N qual scope f cdv A outer s H E) body t/\t { nx:=λ_ H'=>Q .aI H',rt:=Q } (start N vs) H) :
  FnOk P w K mg base CX (k+1) f (PySem.W.fnOf name qual params body scope dV kV doc pm an cdv ct) ps sp:=by
 refine⟨len,λA outer s H args us vs Q E hr e0 hb r Ir=>?_⟩
 have hl:=len _ _ _ _ Ir
 have KX:K.In s.heap:=e0.mod.LW.keeps λb o e=>(e0.bs b o e).1
 have lim:s.heap.NoLimit:=e0.mod.nolimit.keeps λb o e=>(e0.bs b o e).1
 have hkind:∀y∈ps.zip us,scope.names.lookup y.1=some .local\/(scope.names.lookup y.1=some .cell/\((cellsFrom (s.heap.objs.size+1) scope.names []).lookup y.1).isSome=true):=λ⟨n,v⟩ hy=>by
  rcases S.par n (uR hy).1 with q | q
  ·exact .inl q
  ·exact .inr ⟨q,PySem.W.cellsFrom_some _ _ _ (.inl q)⟩
 refine codeAny_call_function hr.depth (KX _ _ lk) rfl S.co S.gen rfl (PySem.W.codeRec_of KX hcd) (hb _ _ _ _ ?_)
 refine wpAny_newFunctionEnv_cells S.kind hkind λenv he s1 x=>?_
 subst he
 refine⟨lim.keeps x.toInCall.keep,codeAny_func ?_⟩
 obtain⟨t,ht,hq⟩:=hbody A outer s H vs Q E (hr.deeper _) Ir
 have I:Inv (qC CX P w K mg base N qual scope f cdv A outer s H E) [] (start N vs) H s1:=tM S hr.hd e0 hl r x
 refine acP (ht [] s1 (start N vs) H _ I hq) (λfl s' hs=>?_) λe s' hs=>hs
 have fin:∀{σ':St}{H':Hp}{v:V}{u:acy},Inv (qC CX P w K mg base N qual scope f cdv A outer s H E) [] σ' H' s'->RelV v u->Q v H'->CE outer P w H s Q u s' :=
  λ{σ' H' v u} J rv q=>⟨v,H',J.os,J.bare,J.base,J.hok,rv,q⟩
 cases fl with
 | ret u=>
  obtain⟨v,σ',H',J,rv,q⟩:=hs
  exact fin J rv q
 | next=>
  obtain⟨σ',H',J,q⟩:=hs
  exact fin (v:=V.aI) (u:=bp) J rfl q
 | brk=>
  obtain⟨_,_,_,q⟩:=hs
  exact aa q
 | cont=>
  obtain⟨_,_,_,q⟩:=hs
  exact aa q
section
variable {X:Cx} {x:Str} {p pos:Pos} {e:Expr} {es:List Expr} {t:TA} {id T:String} {r:List V->Hp->VK->Prop}
def Yh(r:List V->Hp->VK->Prop)(t:TA):TE:=λσ H Q=>t σ H λvs H1=>r vs H1 Q
theorem DS(hc:cV X (.builtin id) r)(hg:Gl X x)(hm:X.mg x=none)(hv:acC x=some (.builtin id))(ha:PA X (e::es) t)(hn:x≠"__name__":=by decide)(hdb:(x == ("__debug__":Str))=false:=by decide)
  (he:acK (e::es) X.env=(false,eval e X.env)::acK es X.env:=by rfl)(hpl:(backTo pos (acK es X.env)).any (·.1)=false:=by rfl):PE X (.Call (.Name x p) (e::es) [] pos) (Yh r t):=by
 intro pins s σ H Q I h
 refine wpAny_Call_Name_kw (kN I hg hm hv ?_ hn hdb)
 exact PyProof.Rows.callWith_builtin1 (bJ (ha pos pins s σ H _ I h) λus s1 ⟨vs,H1,I1,r1,q1⟩=>hc pins s1 σ H1 vs us Q I1 r1 q1) he hpl
theorem B7(hc:cV X (.type T) r)(hg:Gl X x)(hm:X.mg x=none)(hv:acC x=some (.type T))(ha:PA X (e::es) t)(hn:x≠"__name__":=by decide)(hdb:(x == ("__debug__":Str))=false:=by decide)
  (he:acK (e::es) X.env=(false,eval e X.env)::acK es X.env:=by rfl)(hpl:(backTo pos (acK es X.env)).any (·.1)=false:=by rfl):PE X (.Call (.Name x p) (e::es) [] pos) (Yh r t):=by
 intro pins s σ H Q I h
 refine wpAny_Call_Name_kw (kN I hg hm hv ?_ hn hdb)
 exact nG (bJ (ha pos pins s σ H _ I h) λus s1 ⟨vs,H1,I1,r1,q1⟩=>hc pins s1 σ H1 vs us Q I1 r1 q1) he hpl
end
end L2
namespace HT
open PySem PyProof.Rows
section
open PySem.SeqAt
open PySem.AutoSeq1 (wpAny_loadPart')
open PySem.MeetsSeq PySem.MeetsSeq2 PySem.MeetsSeq3
end
section
variable {prog:acw} {w:acz} {A:acs} {E:acy->acx->Prop} {s:acx}
theorem Iu{t b:acr}{vs ws:List acy}{Q:acy->acx->Prop}(ht:IsTup s.heap t vs.toArray)(hb:IsTup s.heap b ws.toArray)(hv:vs≠[])
  (h1:ws=[]->Q (.ref t) s)(h2:ws≠[]->Q (.ref s.heap.objs.size) { s with heap:=s.heap.push { cls:=.type "tuple",data:=.seq (vs++ws).toArray } })
  (hsz:vs.length+ws.length<=acJ):acL (model prog w) A (acB .Add (.ref t) (.ref b)) Q E s:=by
 obtain⟨⟨cls,dd,data,sl⟩,ho,hc,n,hd⟩:=id ht
 obtain⟨⟨UO,dd2,data2,sl2⟩,ho2,hc2,n2,hd2⟩:=id hb
 simp only at hc hd hc2 hd2
 subst hc hd hc2 hd2
 have e:vs.toArray++ws.toArray=(vs++ws).toArray:=by simp
 by_cases hw:ws=[]
 ·exact concat_meets ⟨_,ho,rfl⟩ ⟨_,ho2,rfl⟩ noFill_tuple_add seq_tuple_add PySem.F.slot_tuple_add PySem.F.entry_tuple_add (PySem.F.args_tuple_add_2 _ _)
   (tuple_addW1 t b vs.toArray ws.toArray n n2 dd dd2 sl sl2 (by simpa using hv) (by simp[hw])) ⟨ho,ho2,h1 hw⟩
 ·refine concat_meets ⟨_,ho,rfl⟩ ⟨_,ho2,rfl⟩ noFill_tuple_add seq_tuple_add PySem.F.slot_tuple_add PySem.F.entry_tuple_add (PySem.F.args_tuple_add_2 _ _)
   (tuple_addW2 t b vs.toArray ws.toArray n n2 dd dd2 sl sl2 (by simpa using hv) (by simpa using hw) (by rw[aM,aM];exact hsz)) ⟨ho,ho2,?_⟩
  rw[e]
  exact h2 hw
def dD(n d:Nat):Option Int->Nat
 | none=>d
 | some v=>if v < 0 then(v+(n:Int)).toNat else min v.toNat n
theorem Mt(n d:Nat)(hd:d<=n)(o:Option Int):dD n d o<=n:=by
 cases o with
 | none=>exact hd
 | some v=>
  show(if v < 0 then(v+(n:Int)).toNat else min v.toNat n)<=n
  by_cases hv:v < 0
  ·rw[if_pos hv];omega
  ·rw[if_neg hv];exact Nat.min_le_right _ _
theorem AJ(v:Int)(n d:Nat):(if v < 0 then max (v+(n:Int)) 0 else min v (n:Int))=((dD n d (some v):Nat):Int):=by
 show(if v < 0 then max (v+(n:Int)) 0 else min v (n:Int))=(((if v < 0 then(v+(n:Int)).toNat else min v.toNat n):Nat):Int)
 by_cases hv:v < 0
 ·simp only[if_pos hv];omega
 ·simp only[if_neg hv];omega
theorem yV(lo hi:Option Int)(n:Nat):DT lo hi 1 (n:Int)=(((dD n 0 lo:Nat):Int),((dD n n hi:Nat):Int)):=by
 have h1:¬((1:Int) < 0):=by omega
 unfold DT
 simp only[h1,if_false]
 refine Prod.ext ?_ ?_
 ·cases lo with
  | none=>rfl
  | some v=>exact AJ v n 0
 ·cases hi with
  | none=>rfl
  | some v=>exact AJ v n n
theorem yW(i j:Nat):yX (i:Int) (j:Int) 1=j - i:=by
 unfold yX
 have h1:(1:Int) > 0:=by omega
 simp only[h1,if_true,Int.ediv_one]
 split<;>omega
theorem qD{v:acy}{o:Option Int}{Q:Option Int->acx->Prop}(p:IsPart v o)(h:Q o s):acL (model prog w) A (Builtin.Slice.slicePartIndex v) Q E s:=by
 cases p with
 | none=>exact slicePart_none h
 | int i t=>exact slicePart_int h
theorem jv{sl:acr}{vl vu:acy}{lo hi:Option Int}{n:Nat}{Q:Int×Int×Nat->acx->Prop}(hs:s.heap.IsSliceOf sl vl vu .none)(pl:IsPart vl lo)(pu:IsPart vu hi)
  (h:Q (((dD n 0 lo:Nat):Int),1,dD n n hi - dD n 0 lo) s):acL (model prog w) A (Mu (.ref sl) (pure (n:Int))) Q E s:=by
 obtain⟨os,hos,hcs,hds⟩:=id hs
 unfold Mu Builtin.Slice.sliceFields
 refine acM (acM (wpAny_field hos hds (x:=vl) rfl (acM (wpAny_field hos hds (x:=vu) rfl (acM (wpAny_field hos hds (x:=.none) rfl (acR ?_)))))))
 refine acM (slicePart_none ?_)
 show acL _ _ (if((1:Int) == 0)=true then _ else _) _ _ s
 rw[if_neg (by decide)]
 refine acM (qD pl (acM (qD pu (acM (acR ?_)))))
 show acL _ _ (match DT lo hi 1 (n:Int) with | (lo,hi)=>pure (lo,(1:Int),yX lo hi 1)) _ _ s
 rw[yV lo hi n]
 show acL _ _ (pure (((dD n 0 lo:Nat):Int),(1:Int),yX ((dD n 0 lo:Nat):Int) ((dD n n hi:Nat):Int) 1)) _ _ s
 rw[yW]
 exact acR h
theorem DU(xs:Array acy)(i k:Nat):((ig k).filterMap λ(m:Nat)=>xs[((i:Int)+(m:Int) * 1).toNat]?).toArray=((xs.toList.drop i).take k).toArray:=by
 have e:(λ(m:Nat)=>xs[((i:Int)+(m:Int) * 1).toNat]?)=λm=>xs[i+m]?:=by
  funext m
  have:((i:Int)+(m:Int) * 1).toNat=i+m:=by omega
  rw[this]
 rw[e]
 have:=pick_run xs i k
 rw[List.filterMap_map] at this
 have e2:((λx=>xs[x]?) ∘ λx=>i+x)=λm=>xs[i+m]?:=rfl
 rw[e2] at this
 rw[this]
theorem nI{t sl:acr}{items:Array acy}{vl vu:acy}{lo hi:Option Int}{Q:acy->acx->Prop}(ht:IsTup s.heap t items)(hs:s.heap.IsSliceOf sl vl vu .none)(pl:IsPart vl lo)(pu:IsPart vu hi)
  (hw:¬(dD items.size 0 lo=0/\dD items.size items.size hi=items.size))
  (h:Q (.ref s.heap.objs.size) { s with heap:=s.heap.push { cls:=.type "tuple",data:=.seq ((items.toList.drop (dD items.size 0 lo)).take (dD items.size items.size hi - dD items.size 0 lo)).toArray } })
  (hsz:items.size<=acJ):acL (model prog w) A (getItem (.ref t) (.ref sl)) Q E s:=by
 have AK:sizeOk (.seq ((items.toList.drop (dD items.size 0 lo)).take (dD items.size items.size hi - dD items.size 0 lo)).toArray):=by
  show((items.toList.drop (dD items.size 0 lo)).take (dD items.size items.size hi - dD items.size 0 lo)).toArray.size<=acJ
  rw[aM,dt,nJ,wK]
  omega
 have hj:dD items.size items.size hi<=items.size:=Mt _ _ (au _) hi
 obtain⟨os,hos,hcs,hds⟩:=id hs
 have ZH:s.TypeIs (.ref sl) "slice":=⟨os,hos,hcs⟩
 unfold getItem
 try with_reducible refine acO ?_
 first | refine acM (acR ?_) | skip
 refine acM (wpAny_sequenceKey ht.typeIs (by decide) ?_)
 refine acM (wpAny_callSpecial?_slot (name:=fh "__getitem__") ht.typeIs uT
  (wpAny_call_entry uT ht.typeIs entry_tuple_getitem ?_ (args_tuple_getitem _ _)))
 show acL _ _ (yK (.ref t) >>= _) _ _ s
 refine acM (tupleItemsOf_ ht ?_)
 refine acM (wpAny_typeOf ZH ?_)
 rw[if_pos (by decide)]
 refine acM (jv hs pl pu ?_)
 have hno:¬((((dD items.size 0 lo:Nat):Int) == 0&&(1:Int) == 1&&(dD items.size items.size hi - dD items.size 0 lo) == items.size)=true):=by
  intro q
  rw[cz,cz] at q
  have q1:((dD items.size 0 lo:Nat):Int)=0:=eq_of_beq q.1.1
  have q2:dD items.size items.size hi - dD items.size 0 lo=items.size:=eq_of_beq q.2
  exact hw ⟨by omega,by omega⟩
 show acL _ _ (if(((dD items.size 0 lo:Nat):Int) == 0&&(1:Int) == 1&&(dD items.size items.size hi - dD items.size 0 lo) == items.size)=true then _ else _) _ _ s
 rw[if_neg hno,DU]
 first
  | exact acM (m:=yY _) (acQ (acR ⟨_,rfl,acR h⟩) AK)
  | exact acM (m:=yY _) (acQ (acM (acR (acR ⟨_,rfl,acR h⟩))) AK)
  | exact acM (acM (m:=yY _) (acQ (acR (acR ⟨_,rfl,acR h⟩)) AK))
  | exact acM (acM (m:=yY _) (acQ (acR ⟨_,rfl,acR h⟩) AK))
end
end HT
namespace L2
open PySem PySem.Spec PyProof.Rows
abbrev TO:=St->Hp->(Option Int->Hp->Prop)->Prop
def PO(X:Cx)(e:Option Expr)(t:TO):Prop :=
 ∀(pins:List (acr×Obj))(s:acx)(σ:St)(H:Hp)(Q:Option Int->Hp->Prop),Inv X pins σ H s->t σ H Q->
  acL (model X.prog X.w) X.A (evalPart e X.env) (λu s'=>∃o H',Inv X pins σ H' s'/\IsPart u o/\Q o H') X.xe s
def Iv:TO:=λ_ H Q=>Q none H
def QY(t:TE):TO:=λσ H Q=>t σ H λx H1=>∃i,x= .int i/\Q (some i) H1
section
variable {X:Cx} {e:Expr} {te:TE} {lo hi:Option Expr} {tl th:TO} {pos p2:Pos}
theorem Iw:PO X none Iv:=by
 intro pins s σ H Q I h
 rw[evalPart_none]
 exact acR ⟨none,H,I,.none,h⟩
theorem Iy(h:PE X e te):PO X (some e) (QY te):=by
 intro pins s σ H Q I hw
 rw[evalPart_some]
 refine bJ (h pins s σ H _ I hw) λu s1 ⟨x,H1,I1,r1,q1⟩=>?_
 obtain⟨i,rfl,q⟩:=q1
 obtain⟨t,rfl⟩:=r1
 exact⟨some i,H1,I1,.int i t,q⟩
def HB(X:Cx)(r:V->Option Int->Option Int->Hp->VK->Prop):Prop :=
 ∀(pins:List (acr×Obj))(s:acx)(σ:St)(H:Hp)(x:V)(v vl vu:acy)(lo hi:Option Int)(sl:acr)(Q:VK),Inv X pins σ H s->RelV x v->s.heap.IsSliceOf sl vl vu .none->IsPart vl lo->IsPart vu hi->r x lo hi H Q->
  ∃T id,typeLookup (.type T) "__getitem__"=pure (some (.builtin id))/\s.TypeIs v T/\acL (model X.prog X.w) X.A (getItem v (.ref sl)) (EP X pins σ Q) X.xe s
theorem HB.or{r r':V->Option Int->Option Int->Hp->VK->Prop}(h:HB X r)(h':HB X r'):HB X (λx lo hi H Q=>r x lo hi H Q\/r' x lo hi H Q):=by
 intro pins s σ H x v vl vu lo hi sl Q I rx hs pl pu q
 rcases q with q | q
 ·exact h pins s σ H x v vl vu lo hi sl Q I rx hs pl pu q
 ·exact h' pins s σ H x v vl vu lo hi sl Q I rx hs pl pu q
def ZI(r:V->Option Int->Option Int->Hp->VK->Prop)(te:TE)(tl th:TO):TE:=λσ H Q=>te σ H λx H1=>tl σ H1 λl H2=>th σ H2 λu H3=>r x l u H3 Q
theorem qE{r:V->Option Int->Option Int->Hp->VK->Prop}(hr:HB X r)(he:PE X e te)(hl:PO X lo tl)(hu:PO X hi th):PE X (.Subscript e (.Slice lo hi none p2) pos) (ZI r te tl th):=by
 intro pins s σ H Q I h
 refine Subscript_ (bJ (he pins s σ H _ I h) λv s1 ⟨x,H1,I1,r1,q1⟩=>?_)
 refine wpAny_Slice (bJ (hl pins s1 σ H1 _ I1 q1) λvl s2 ⟨l,H2,I2,pl,q2⟩=>bJ (hu pins s2 σ H2 _ I2 q2) λvu s3 ⟨u,H3,I3,pu,q3⟩=>?_)
 rw[evalPart_none]
 refine acR ?_
 have I4:Inv X pins σ H3 { s3 with heap:=s3.heap.push { cls:=.type "slice",data:=.fields #[vl,vu,.none] } }:=I3.kept (t':=s3.toks) λb ob q=>aL _ q
 obtain⟨T,id,hT,ht,hg⟩:=hr pins { s3 with heap:=s3.heap.push { cls:=.type "slice",data:=.fields #[vl,vu,.none] } } σ H3 x v vl vu l u s3.heap.objs.size Q I4 r1 (Heap.IsSliceOf.new ..) pl pu q3
 show acL (model X.prog X.w) X.A (subscriptTail e (.Slice lo hi none p2) v (.ref s3.heap.objs.size)) (EP X pins σ Q) X.xe { s3 with heap:=s3.heap.push { cls:=.type "slice",data:=.fields #[vl,vu,.none] } }
 exact tail_any (ops:=[.ref s3.heap.objs.size,v]) ht hT hg (by with_unfolding_all rfl)
def sy(xs:List V)(lo hi:Option Int):List V:=(xs.drop (HT.dD xs.length 0 lo)).take (HT.dD xs.length xs.length hi - HT.dD xs.length 0 lo)
theorem pk(xs:List V)(lo hi:Option Int):(sy xs lo hi).length<=xs.length:=by
 unfold sy
 rw[dt,nJ]
 omega
def UP(K:PySem.W.Frag):V->Option Int->Option Int->Hp->VK->Prop:=λx lo hi H Q=>∃a xs,x= .ref a/\fV K H a xs/\
 ¬(HT.dD xs.length 0 lo=0/\HT.dD xs.length xs.length hi=xs.length)/\∀p,H p=none->Q (.ref p) (upd H p (.tup (sy xs lo hi)))
theorem DV:HB X (UP X.K):=by
 intro pins s σ H x v vl vu lo hi sl Q I rx hs pl pu h
 obtain⟨a,xs,rfl,hx,hw,q⟩:=h
 cases rx
 obtain⟨its,r,ht,hz⟩:=I.tuple hx
 have hlen:its.toArray.size=xs.length:=by rw[aM];exact r.length.symm
 refine⟨"tuple",_,PyProof.Rows.slot_tuple_getitem.lookup,ht.typeIs,?_⟩
 refine HT.nI ht hs pl pu (by rw[hlen];exact hw) ?_ (by rw[hlen];exact hz)
 rw[hlen]
 refine⟨.ref s.heap.objs.size,_,I.laid (t':=s.toks) (o:=.tup (sy xs lo hi)) (λb ob q=>aL _ q) (au _) ?_,rfl,q _ (I.hok.fresh (au _))⟩
 exact⟨bg (pk xs lo hi) hz,_,(r.drop (HT.dD xs.length 0 lo)).take (HT.dD xs.length xs.length hi - HT.dD xs.length 0 lo),yZ _ _,wJ.new _ _⟩
def QZ(K:PySem.W.Frag):R2:=λx y H Q=>∃a b xs ys,x= .ref a/\y= .ref b/\fV K H a xs/\fV K H b ys/\xs≠[]/\xs.length+ys.length<=acJ/\
 (ys=[]->Q (.ref a) H)/\(ys≠[]->∀p,H p=none->Q (.ref p) (upd H p (.tup (xs++ys))))
theorem Vals.uU{xs:List V}{us:List acy}(r:Vals xs us):us=[]↔xs=[]:=by
 cases r with
 | nil=>simp
 | cons _ _=>simp
theorem Iz:fW X (acB .Add) (QZ X.K):=by
 intro pins s σ H x y v u Q I rx ry h
 obtain⟨a,b,xs,ys,rfl,rfl,ha,hb,hx,hz,q1,q2⟩:=h
 cases rx
 cases ry
 obtain⟨its,r1,p1,_⟩:=I.tuple ha
 obtain⟨its2,r2,p2,_⟩:=I.tuple hb
 refine HT.Iu p1 p2 (λz=>hx (r1.uU.mp z)) (λz=>⟨.ref a,H,I,rfl,q1 (r2.uU.mp z)⟩) (λz=>?_) (by rw[<-r1.length,<-r2.length];exact hz)
 refine⟨.ref s.heap.objs.size,_,I.laid (t':=s.toks) (o:=.tup (xs++ys)) (λb ob q=>aL _ q) (au _) ?_,rfl,q2 (λw=>z (r2.uU.mpr w)) _ (I.hok.fresh (au _))⟩
 exact⟨by rw[cY];exact hz,_,r1.append r2,yZ _ _,wJ.new _ _⟩
end
def DW(n:Nat)(i:Int):Option Nat:=if 0<=i then(if i < n then some i.toNat else none) else if -(n:Int)<=i then some (i+n).toNat else none
def mv{α:Type}(xs:List α)(i:Int):Option α:=(DW xs.length i).bind λj=>xs[j]?
theorem AL{n:Nat}{i:Int}{j:Nat}(h:DW n i=some j):seqIndex? i n=some j/\j < n/\-(n:Int)<=i/\i < n:=by
 unfold DW at h
 by_cases h0:0<=i
 ·rw[if_pos h0] at h
  by_cases h1:i < n
  ·rw[if_pos h1] at h
   have e:i.toNat=j:=Option.some.inj h
   exact⟨by rw[seqIndex_of h0 h1,e],by omega,by omega,h1⟩
  ·rw[if_neg h1] at h;cases h
 ·rw[if_neg h0] at h
  by_cases h1:-(n:Int)<=i
  ·rw[if_pos h1] at h
   have e:(i+n).toNat=j:=Option.some.inj h
   exact⟨by rw[seqIndex_neg (by omega) h1,e],by omega,h1,by omega⟩
  ·rw[if_neg h1] at h;cases h
theorem p9{α:Type}{xs:List α}{i:Int}{v:α}(h:mv xs i=some v):∃j,seqIndex? i xs.length=some j/\xs[j]? =some v/\j < xs.length/\-(xs.length:Int)<=i/\i < xs.length:=by
 unfold mv at h
 cases e:DW xs.length i with
 | none=>rw[e] at h;cases h
 | some j=>
  rw[e] at h
  obtain⟨h1,h2,h3,h4⟩:=AL e
  exact⟨j,h1,h,h2,h3,h4⟩
theorem fj{α:Type}{xs:List α}{j:Nat}{v:α}(h:xs[j]? =some v):mv xs (j:Int)=some v:=by
 have hj:j < xs.length:=(List.getElem?_eq_some_iff.mp h).1
 have e:DW xs.length (j:Int)=some j:=by
  unfold DW
  rw[if_pos (by omega),if_pos (by omega)];simp
 unfold mv;rw[e];exact h
def AM(b:Expr):Prop:=∀o i,subscripted b false o i=operate [o,i] (getItem o i)
def IA(X:Cx)(r:R2):Prop :=
 ∀(value slice:Expr)(pins:List (acr×Obj))(s:acx)(σ:St)(H:Hp)(x y:V)(v u:acy)(Q:VK),Inv X pins σ H s->RelV x v->RelV y u->r x y H Q->
  subscripted slice false v u=operate [v,u] (getItem v u)->acL (model X.prog X.w) X.A (subscriptTail value slice v u) (EP X pins σ Q) X.xe s
def UQ(X:Cx)(id:String)(r:V->List V->Hp->VK->Prop):Prop :=
 ∀(pins:List (acr×Obj))(s:acx)(σ:St)(H:Hp)(x:V)(xs:List V)(v:acy)(us:List acy)(Q:VK),Inv X pins σ H s->RelV x v->Vals xs us->r x xs H Q->
  acL (model X.prog X.w) X.A (call (.builtin id) (v::us)) (EP X pins σ Q) X.xe s
section
variable {X:Cx} {a b:Expr} {ta tb:TE} {pos:Pos}
theorem IA.or{r r':R2}(h:IA X r)(h':IA X r'):IA X (λx y H Q=>r x y H Q\/r' x y H Q):=by
 intro value slice pins s σ H x y v u Q I rx ry q hs
 rcases q with q | q
 ·exact h value slice pins s σ H x y v u Q I rx ry q hs
 ·exact h' value slice pins s σ H x y v u Q I rx ry q hs
theorem Q0{r:R2}(hr:IA X r)(ha:PE X a ta)(hb:PE X b tb)(hs:AM b):PE X (.Subscript a b pos) (QL r ta tb):=by
 intro pins s σ H Q I h
 exact Subscript_ (Mg ha hb I h λv u s2 x y H2 I2 rx ry q=>hr a b pins s2 σ H2 x y v u Q I2 rx ry q (hs _ _))
def Q1(K:PySem.W.Frag):R2:=λx y H Q=>∃p xs i v,x= .ref p/\y= .int i/\mj K H p xs/\mv xs i=some v/\Q v H
def Q2(K:PySem.W.Frag):R2:=λx y H Q=>∃p xs i v,x= .ref p/\y= .int i/\fV K H p xs/\mv xs i=some v/\Q v H
def Q3:R2:=λx y H Q=>∃z i c,x= .str z/\y= .int i/\z.length<=acJ/\mv z.cps.toList i=some c/\Q (.str ⟨#[c]⟩) H
theorem IB:IA X (Q1 X.K):=by
 intro value slice pins s σ H x y v u Q I rx ry h hs
 obtain⟨p,xs,i,z,rfl,rfl,hq,he,q⟩:=h
 cases rx
 obtain⟨t,rfl⟩:=ry
 obtain⟨its,r,pl,hz⟩:=I.list hq
 obtain⟨j,h1,h2,h3,h4,h5⟩:=p9 he
 obtain⟨w,ew,rw'⟩:=r.get h2
 have hl:=r.length
 have hn:=mH
 have fin:EP X pins σ Q w s:=⟨z,H,I,rw',q⟩
 by_cases h0:0<=i
 ·have hj:i.toNat=j:=by
   rw[seqIndex_of h0 h5] at h1
   exact Option.some.inj h1
  exact item_listR pl.isList h0 (by omega) (by rw[hj];simpa using ew) fin hs
 ·have hj:(i+(its.toArray.size:Int)).toNat=j:=by
   rw[seqIndex_neg (by omega) h4] at h1
   rw[aM,<-hl]
   exact Option.some.inj h1
  exact subscriptTail_builtinR (x:=w) pl.isList.typeIs slot_list_getitem.lookup
   (wpAny_getItem_list_neg (Q:=λr s'=>r=w/\EP X pins σ Q r s') pl.isList (by omega) (by rw[aM]<;>omega) (by omega) (by rw[hj];simpa using ew) ⟨rfl,fin⟩) hs
theorem Mv:IA X (Q2 X.K):=by
 intro value slice pins s σ H x y v u Q I rx ry h hs
 obtain⟨p,xs,i,z,rfl,rfl,hq,he,q⟩:=h
 cases rx
 obtain⟨t,rfl⟩:=ry
 obtain⟨its,r,pl,hz⟩:=I.tuple hq
 obtain⟨j,h1,h2,h3,h4,h5⟩:=p9 he
 obtain⟨w,ew,rw'⟩:=r.get h2
 have hl:=r.length
 have hn:=mH
 have fin:EP X pins σ Q w s:=⟨z,H,I,rw',q⟩
 exact subscriptTail_builtinR (x:=w) pl.typeIs slot_tuple_getitem.lookup
  (getItem_tuple (j:=j) (Q:=λr s'=>r=w/\EP X pins σ Q r s') pl (by omega) (by omega) (by rw[aM,<-hl];exact h1) (by simpa using ew) ⟨rfl,fin⟩) hs
theorem Mw:IA X Q3:=by
 intro value slice pins s σ H x y v u Q I rx ry h hs
 obtain⟨z,i,c,rfl,rfl,hz,he,q⟩:=h
 obtain⟨t,rfl⟩:=rx
 obtain⟨t',rfl⟩:=ry
 obtain⟨j,h1,h2,h3,h4,h5⟩:=p9 he
 have hl:z.cps.toList.length=z.length:=by simp[Str.length]
 rw[hl] at h1 h4 h5
 have hn:=mH
 exact tail_any (typeIs_str s z t) slot_str_getitem.lookup (getItem_str (c:=c) (by
  have e1:decide (i < -(2 ^ 63:Int))=false:=decide_eq_false (by omega)
  have e2:decide (i >= 2 ^ 63)=false:=decide_eq_false (by omega)
  rw[e1,e2,Bool.or_false]) (by rw[h1];simpa using h2) ⟨.str ⟨#[c]⟩,H,I.tok _,⟨_,rfl⟩,q⟩) hs
def Yi(K:PySem.W.Frag):R2:=λx y H Q=>Q1 K x y H Q\/Q2 K x y H Q\/Q3 x y H Q
theorem Mx:IA X (Yi X.K):=IB.or (Mv.or Mw)
theorem y0(its:List acy)(n j:Nat)(u:acy):nK (·.setIfInBounds j u) { cls:=.type "list",data:=.seq its.toArray n }={ cls:=.type "list",data:=.seq (its.set j u).toArray n }:=by
 simp[nK]
theorem Inv.lst{pins:List (acr×Obj)}{σ:St}{H:Hp}{s:acx}{p:acr}{xs:List V}(I:Inv X pins σ H s)(h:H p=some (.lst xs)) :
  ∃(its:List acy)(n:Nat),Vals xs its/\s.heap.get? p=some { cls:=.type "list",data:=.seq its.toArray n }/\xs.length<=acJ:=by
 obtain⟨z,its,n,r,e⟩:=I.hok p _ h
 exact⟨its,n,r,e,z⟩
theorem Inv.Mz{pins:List (acr×Obj)}{σ:St}{H:Hp}{s:acx}{p:acr}{xs ys:List V}{its its':List acy}{n n':Nat}{f:Obj->Obj}(I:Inv X pins σ H s)(h:H p=some (.lst xs))
  (ho:s.heap.get? p=some { cls:=.type "list",data:=.seq its.toArray n })(hf:f { cls:=.type "list",data:=.seq its.toArray n }={ cls:=.type "list",data:=.seq its'.toArray n' })(r:Vals ys its')(hz:ys.length<=acJ)(t:Nat) :
  Inv X pins σ (upd H p (.lst ys)) { s with heap:=s.heap.update p f,toks:=t }:=by
 have e:(s.heap.update p f).get? p=some { cls:=.type "list",data:=.seq its'.toArray n' }:=by
  rw[oK f ho (by rw[hf]<;>rfl),hf]
 refine I.write (x:=p) (e:=p) (by rw[h];trivial) (.inl rfl) (λb u hb q=>(oM _ _ (bZ hb)).trans q) ⟨_,e⟩ ?_
 exact⟨hz,its',n',r,e⟩
def Q4:V->V->V->Hp->(Hp->Prop)->Prop:=λo i v H Q=>∃p xs k j,o= .ref p/\i= .int k/\H p=some (.lst xs)/\DW xs.length k=some j/\Q (upd H p (.lst (xs.set j v)))
theorem set_list:QH X Q4:=by
 intro pins s σ H o i v ov iv u Q I ro ri rv h
 obtain⟨p,xs,k,j,rfl,rfl,hp,hj,q⟩:=h
 cases ro
 obtain⟨t,rfl⟩:=ri
 obtain⟨its,n,r,ho,hz⟩:=I.lst hp
 obtain⟨h1,h2,h3,h4⟩:=AL hj
 have hl:=r.length
 have hn:=mH
 have I':Inv X pins σ (upd H p (.lst (xs.set j v))) { s with heap:=s.heap.update p (nK (·.setIfInBounds j u)) } :=
  I.Mz hp ho (y0 its n j u) (r.set rv j) (by rw[List.length_set];exact hz) s.toks
 by_cases h0:0<=k
 ·have hk:k.toNat=j:=by
   rw[seqIndex_of h0 h4] at h1
   exact Option.some.inj h1
  exact PySem.W.ki_setAt ho h0 (by omega) (by rw[aM,<-hl];exact h4) (by rw[hk];exact⟨_,I',q⟩)
 ·have hk:(k+(its.toArray.size:Int)).toNat=j:=by
   rw[seqIndex_neg (by omega) h3] at h1
   rw[aM,<-hl]
   exact Option.some.inj h1
  exact PySem.W.ki_setBack ho (by omega) (by rw[aM,<-hl];exact h3) (by omega) (by rw[hk];exact⟨_,I',q⟩)
theorem uV(lo hi:Option Int)(n:Nat):(sliceBounds lo hi none n).1=((HT.dD n 0 lo:Nat):Int)/\(sliceBounds lo hi none n).2.1=((HT.dD n n hi:Nat):Int)/\(sliceBounds lo hi none n).2.2=1:=by
 refine⟨?_,?_,rfl⟩
 ·cases lo with
  | none=>simp[sliceBounds,HT.dD]
  | some i=>
   simp only[sliceBounds,HT.dD,Option.getD_none,show(1:Int) > 0 by decide,if_true]
   by_cases h:i < 0
   ·simp only[h,if_true]<;>omega
   ·simp only[h,if_false]<;>omega
 ·cases hi with
  | none=>simp[sliceBounds,HT.dD]
  | some i=>
   simp only[sliceBounds,HT.dD,Option.getD_none,show(1:Int) > 0 by decide,if_true]
   by_cases h:i < 0
   ·simp only[h,if_true]<;>omega
   ·simp only[h,if_false]<;>omega
theorem sA(its:List acy)(lo hi:Option Int):slicePick its.toArray lo hi none=((its.drop (HT.dD its.length 0 lo)).take (HT.dD its.length its.length hi - HT.dD its.length 0 lo)).toArray:=by
 obtain⟨h1,h2,h3⟩:=uV lo hi its.toArray.size
 unfold slicePick
 rw[h1,h2,h3]
 simp only[sliceRange_one,pick_run,aM]<;>rfl
def UR(K:PySem.W.Frag):V->Option Int->Option Int->Hp->VK->Prop:=λx lo hi H Q=>∃a xs,x= .ref a/\mj K H a xs/\∀p,H p=none->Q (.ref p) (upd H p (.lst (sy xs lo hi)))
theorem IC:HB X (UR X.K):=by
 intro pins s σ H x v vl vu lo hi sl Q I rx hs pl pu h
 obtain⟨a,xs,rfl,hx,q⟩:=h
 cases rx
 obtain⟨its,r,ht,hz⟩:=I.list hx
 have hlen:=r.length
 refine⟨"list",_,slot_list_getitem.lookup,ht.isList.typeIs,?_⟩
 refine wpAny_getItem_list_slice ht.isList hs pl pu .none (by simp) ?_ (by rw[aM]<;>omega)
 rw[sA,<-hlen]
 refine⟨.ref s.heap.objs.size,_,I.laid (t':=s.toks) (o:=.lst (sy xs lo hi)) (λb ob q=>aL _ q) (au _) ?_,rfl,q _ (I.hok.fresh (au _))⟩
 exact⟨bg (pk xs lo hi) hz,_,0,(r.drop (HT.dD xs.length 0 lo)).take (HT.dD xs.length xs.length hi - HT.dD xs.length 0 lo),bz _ rfl⟩
def my:V->Bool
 | .aI=>true
 | .bl _=>true
 | .int _=>true
 | .str _=>true
 | _=>false
def ID:V->V->Bool
 | .aI,.aI=>true
 | .bl a,.bl b=>a == b
 | .bl a,.int b=>(if a then 1 else 0) == b
 | .int a,.bl b=>a == (if b then 1 else 0)
 | .int a,.int b=>a == b
 | .str a,.str b=>a == b
 | _,_=>false
theorem MA{A:acs}{s:acx}{y x:V}{u v:acy}(ry:RelV y u)(rx:RelV x v)(fy:my y=true)(fx:my x=true):SeqAt.EqAt A s u v (ID y x):=by
 cases y with
 | aI=>
  cases ry
  cases x with
  | aI=>cases rx;exact HM _
  | bl b=>cases rx;exact SeqAt.EqAt.none_bool b
  | int b=>obtain⟨t,rfl⟩:=rx;exact HK b t
  | str b=>obtain⟨t,rfl⟩:=rx;exact HL b t
  | _=>exact absurd (show false=true from fx) bD
 | bl a=>
  cases ry
  cases x with
  | aI=>cases rx;exact SeqAt.EqAt.bool_none a
  | bl b=>cases rx;exact SeqAt.EqAt.bool_bool a b
  | int b=>obtain⟨t,rfl⟩:=rx;exact SeqAt.EqAt.bool_int a b t
  | str b=>obtain⟨t,rfl⟩:=rx;exact SeqAt.EqAt.bool_str a b t
  | _=>exact absurd (show false=true from fx) bD
 | int a=>
  obtain⟨t',rfl⟩:=ry
  cases x with
  | aI=>cases rx;exact HH a t'
  | bl b=>cases rx;exact SeqAt.EqAt.int_bool a t' b
  | int b=>obtain⟨t,rfl⟩:=rx;exact SeqAt.EqAt.int_int a t' b t
  | str b=>obtain⟨t,rfl⟩:=rx;exact HG a t' b t
  | _=>exact absurd (show false=true from fx) bD
 | str a=>
  obtain⟨t',rfl⟩:=ry
  cases x with
  | aI=>cases rx;exact HJ a t'
  | bl b=>cases rx;exact SeqAt.EqAt.str_bool a t' b
  | int b=>obtain⟨t,rfl⟩:=rx;exact HI a t' b t
  | str b=>obtain⟨t,rfl⟩:=rx;exact SeqAt.EqAt.str_str a t' b t
  | _=>exact absurd (show false=true from fx) bD
 | _=>exact absurd (show false=true from fy) bD
def IE(x:V)(u:acy):Bool:=match u with
 | .none=>ID .aI x
 | .bool b=>ID (.bl b) x
 | .int i _=>ID (.int i) x
 | .str z _=>ID (.str z) x
 | _=>false
theorem DX{x y:V}{u:acy}(r:RelV y u)(f:my y=true):IE x u=ID y x:=by
 cases y with
 | aI=>cases r;rfl
 | bl b=>cases r;rfl
 | int i=>obtain⟨t,rfl⟩:=r;rfl
 | str z=>obtain⟨t,rfl⟩:=r;rfl
 | _=>exact absurd (show false=true from f) bD
theorem uW{x:V}:∀{xs:List V}{us:List acy},Vals xs us->xs.all my=true->us.any (IE x)=xs.any λy=>ID y x
 | _,_,.nil,_=>rfl
 | y::xs,u::us,.cons r t,f=>by
  rw[dh,cz] at f
  rw[fY,fY,DX r f.1,uW t f.2]
theorem qF{A:acs}{s:acx}{x:V}{v:acy}(rx:RelV x v)(fx:my x=true):∀{xs:List V}{us:List acy},Vals xs us->xs.all my=true->∀u∈us,SeqAt.EqAt A s u v (IE x u)
 | _,_,.nil,_=>λu hu=>by cases hu
 | y::xs,u::us,.cons r t,f=>λu' hu=>by
  rw[dh,cz] at f
  rcases List.mem_cons.mp hu with rfl | hu
  ·rw[DX r f.1];exact MA r rx f.1 fx
  ·exact qF rx fx t f.2 u' hu
def Tr(x:V)(xs:List V):Bool:=xs.any λy=>ID y x
def ZJ(K:PySem.W.Frag)(neg:Bool):R2:=λx y H Q=>∃p xs,y= .ref p/\(mj K H p xs\/fV K H p xs)/\my x=true/\xs.all my=true/\Q (.bl (if neg then !Tr x xs else Tr x xs)) H
theorem B8:fW X (acF .In) (ZJ X.K false):=by
 intro pins s σ H x y v u Q I rx ry h
 obtain⟨p,xs,rfl,hq,fx,fs,q⟩:=h
 cases ry
 rcases hq with hq | hq
 ·obtain⟨its,r,pl,hz⟩:=I.list hq
  refine SeqAt.in_listAt (IE x) pl.isList (λw hw=>qF rx fx r fs w (by simpa using hw)) ⟨.bl _,H,I,rfl,?_⟩
  rw[show its.toArray.any (IE x)=its.any (IE x) by simp,uW r fs]
  exact q
 ·obtain⟨its,r,pl,hz⟩:=I.tuple hq
  refine SeqAt.in_tupleAt (IE x) pl (λw hw=>qF rx fx r fs w (by simpa using hw)) ⟨.bl _,H,I,rfl,?_⟩
  rw[show its.toArray.any (IE x)=its.any (IE x) by simp,uW r fs]
  exact q
theorem uX:cV X (.builtin "len") (λxs H Q=>∃p ys,xs=[.ref p]/\(mj X.K H p ys\/fV X.K H p ys)/\Q (.int ys.length) H):=by
 intro pins s σ H xs us Q I r h
 obtain⟨p,ys,rfl,hq,q⟩:=h
 obtain⟨u,rfl,rx⟩:=vals1 r
 cases rx
 have hn:=mH
 rcases hq with hq | hq
 ·obtain⟨its,r',pl,hz⟩:=I.list hq
  have hlen:=r'.length
  exact Calls.call_len_list pl.isList (by simp only[aM]<;>omega) ⟨.int ys.length,H,I.tok _,⟨s.toks+1,by rw[aM,hlen]⟩,q⟩
 ·obtain⟨its,r',pl,hz⟩:=I.tuple hq
  have hlen:=r'.length
  exact len_tuple pl (by simp only[aM]<;>omega) ⟨.int ys.length,H,I.tok _,⟨s.toks+1,by rw[aM,hlen]⟩,q⟩
theorem uY:cV X (.builtin "len") (λxs H Q=>∃z,xs=[.str z]/\z.length<=acJ/\Q (.int z.length) H):=by
 intro pins s σ H xs us Q I r h
 obtain⟨z,rfl,hz,q⟩:=h
 obtain⟨u,rfl,t,rfl⟩:=vals1 r
 have hn:=mH
 exact len_str (by omega) ⟨.int z.length,H,I.tok _,⟨_,rfl⟩,q⟩
theorem cV.or{f:acy}{r r':List V->Hp->VK->Prop}(h:cV X f r)(h':cV X f r'):cV X f (λxs H Q=>r xs H Q\/r' xs H Q):=by
 intro pins s σ H xs us Q I rs q
 rcases q with q | q
 ·exact h pins s σ H xs us Q I rs q
 ·exact h' pins s σ H xs us Q I rs q
theorem uZ:cV X (.type "list") (λxs H Q=>∃p ys,xs=[.ref p]/\(mj X.K H p ys\/fV X.K H p ys)/\∀l,H l=none->Q (.ref l) (upd H l (.lst ys))):=by
 intro pins s σ H xs us Q I r h
 obtain⟨p,ys,rfl,hq,q⟩:=h
 obtain⟨u,rfl,rx⟩:=vals1 r
 cases rx
 have fin:∀(its:List acy),Vals ys its->ys.length<=acJ->∀(h':Heap)(c':Nat),(∀b o',s.heap.get? b=some o'->h'.get? b=some o')->
   h'.get? s.heap.objs.size=some { cls:=.type "list",dict:=none,data:=.seq its.toArray c',slots:=#[] }->EP X pins σ Q (.ref s.heap.objs.size) { s with heap:=h' }:=λits r' hz h' c' kp e=>
  ⟨.ref s.heap.objs.size,_,I.laid (t':=s.toks) kp (au _) (show dm X.prog X.w _ h' _ (.lst ys) from⟨hz,its,c',r',e⟩),rfl,q _ (I.hok.fresh (au _))⟩
 rcases hq with hq | hq
 ·obtain⟨its,r',pl,hz⟩:=I.list hq
  have hlen:=r'.length
  obtain⟨o,ho,hc,n,hd⟩:=pl.isList
  exact call_list_seq p (.inl rfl) ho hc hd (λh' c' kp e=>fin its r' hz h' c' kp e) (by simp only[aM]<;>omega)
 ·obtain⟨its,r',pl,hz⟩:=I.tuple hq
  have hlen:=r'.length
  obtain⟨o,ho,hc,n,hd⟩:=pl
  exact call_list_seq p (.inr rfl) ho hc hd (λh' c' kp e=>fin its r' hz h' c' kp e) (by simp only[aM]<;>omega)
theorem sC:cV X (.type "tuple") (λxs H Q=>∃p ys,xs=[.ref p]/\((mj X.K H p ys/\∀l,H l=none->Q (.ref l) (upd H l (.tup ys)))\/(fV X.K H p ys/\Q (.ref p) H))):=by
 intro pins s σ H xs us Q I r h
 obtain⟨p,ys,rfl,h⟩:=h
 obtain⟨u,rfl,rx⟩:=vals1 r
 cases rx
 rcases h with ⟨hq,q⟩ | ⟨hq,q⟩
 ·obtain⟨its,r',pl,hz⟩:=I.list hq
  have hlen:=r'.length
  refine call_tuple_list pl.isList (λh' kp=>?_) (by simp only[aM]<;>omega)
  have I1:Inv X pins σ H { s with heap:=h' }:=I.kept (t':=s.toks) kp
  have I2:Inv X pins σ (upd H h'.objs.size (.tup ys)) { s with heap:=h'.push { cls:=.type "tuple",data:=.seq its.toArray } } :=
   I1.laid (t':=s.toks) (λb o e=>aL _ e) (au _) (show dm X.prog X.w _ _ _ (.tup ys) from⟨hz,its,r',yZ _ _,wJ.new _ _⟩)
  exact⟨.ref h'.objs.size,_,I2,rfl,q _ (I1.hok.fresh (au _))⟩
 ·obtain⟨its,r',pl,hz⟩:=I.tuple hq
  exact call_tuple_same pl ⟨.ref p,H,I,rfl,q⟩
def Yj(K:PySem.W.Frag)(T:String)(x:V)(H:Hp):Prop:=match x with
 | .str _=>T="str"
 | .int _=>T="int"
 | .ref p=>(T="list"/\∃xs,mj K H p xs)\/(T="tuple"/\((∃o,K.lookup p=some o/\o.cls= .type "tuple"/\o.dict=none)\/∃xs,H p=some (.tup xs)))\/
   (T="dict"/\((∃kvs,H p=some (.dK kvs))\/∃kvs,H p=some (.dT kvs)))\/(T="set"/\∃S n,H p=some (.set S n))\/(T="dict"/\∃kvs,H p=some (.dN kvs))
 | _=>False
theorem MB{pins:List (acr×Obj)}{σ:St}{H:Hp}{s:acx}{T:String}{x:V}{v:acy}(I:Inv X pins σ H s)(r:RelV x v)(ty:Yj X.K T x H) :
  s.TypeIs v T/\∀a,v= .ref a->∃ob,s.heap.get? a=some ob/\ob.dict=none:=by
 cases x with
 | str z=>
  obtain⟨t,rfl⟩:=r
  cases (show T="str" from ty)
  exact⟨typeIs_str s z t,λ_ e=>nomatch e⟩
 | int i=>
  obtain⟨t,rfl⟩:=r
  cases (show T="int" from ty)
  exact⟨typeIs_int s i t,λ_ e=>nomatch e⟩
 | ref p=>
  cases r
  rcases ty with ⟨rfl,xs,hq⟩ | ⟨rfl,⟨o,hk,hc,hd⟩ | ⟨xs,hk⟩⟩ | ⟨rfl,hk⟩ | ⟨rfl,S,n,hk⟩ | ⟨rfl,kvs,hk⟩
  ·obtain⟨its,_,pl,_⟩:=I.list hq
   refine⟨pl.isList.typeIs,λa e=>?_⟩
   cases e
   obtain⟨o,n,e,c,hd,_⟩:=pl
   exact⟨o,e,hd⟩
  ·refine⟨⟨o,I.Dq p o hk,hc⟩,λa e=>?_⟩
   cases e
   exact⟨o,I.Dq _ o hk,hd⟩
  ·obtain⟨_,_,_,⟨o,e1,e2,_⟩,nd⟩:=I.hok p _ hk
   refine⟨⟨o,e1,e2⟩,λa e=>?_⟩
   cases e
   exact⟨o,e1,nd o e1⟩
  ·have z:∃o,s.heap.get? p=some o/\o.ExactDict:=by
    rcases hk with ⟨kvs,hk⟩ | ⟨kvs,hk⟩
    ·obtain⟨_,_,_,_,o,_,_,e,ex,_⟩:=I.hok p _ hk
     exact⟨o,e,ex⟩
    ·obtain⟨_,_,_,_,o,_,_,e,ex,_⟩:=I.hok p _ hk
     exact⟨o,e,ex⟩
   obtain⟨o,e,ex⟩:=z
   refine⟨⟨o,e,ex.1⟩,λa e2=>?_⟩
   cases e2
   exact⟨o,e,ex.2.1⟩
  ·obtain⟨o,_,_,_,e,ex,_⟩:=I.hok p _ hk
   refine⟨⟨o,e,ex.1⟩,λa e2=>?_⟩
   cases e2
   exact⟨o,e,ex.2.1⟩
  ·obtain⟨_,_,_,_,o,_,_,e,ex,_⟩:=I.hok p _ hk
   refine⟨⟨o,e,ex.1⟩,λa e2=>?_⟩
   cases e2
   exact⟨o,e,ex.2.1⟩
 | _=>exact aa ty
def ZK(K:PySem.W.Frag)(T:String)(r:V->List V->Hp->VK->Prop)(to:TE)(t:TA):TE:=λσ H Q=>to σ H λx H1=>Yj K T x H1/\t σ H1 λxs H2=>r x xs H2 Q
variable {o e:Expr} {es:List Expr} {to:TE} {t:TA} {name:Str} {apos cpos:Pos} {T id:String} {r:V->List V->Hp->VK->Prop}
theorem Q5(pa:PlainAttrs T)(slot:Slot T name id)(hty:typeOf (.builtin id)=pure (.type "method_descriptor"))(hm:UQ X id r)(ho:PE X o to)(ha:PA X (e::es) t)
  (hbase:attributeBase o name X.env (eval o X.env)=eval o X.env:=by rfl)
  (hfew:((backTo cpos (acK (e::es) X.env)).all (λx=> !x.1)&&(backToKw cpos (keywordEach [] X.env)).all (λx=>x.1.isSome)
   &&decide ((e::es).length+([]:List Keyword).length+(if([]:List Keyword).isEmpty then 0 else 1) < 30))=true:=by rfl)
  (hline:(apos.endLine == cpos.line)=true:=by rfl)(hs:acK (e::es) X.env=(false,eval e X.env)::acK es X.env:=by rfl)(hplain:(backTo cpos (acK es X.env)).any (·.1)=false:=by rfl) :
  PE X (.Call (.Attribute o name apos) (e::es) [] cpos) (ZK X.K T r to t):=by
 intro pins s σ H Q I h
 refine wpAny_Call_method_late hbase hfew hline rfl (bJ (ho pins s σ H _ I h) λv s1 ⟨x,H1,I1,r1,ty,q1⟩=>?_)
 obtain⟨h1,h2⟩:=MB I1 r1 ty
 refine⟨T,id,pa,slot,hty,h1,h2,?_⟩
 have hA:=ha cpos pins s1 σ H1 _ I1 q1
 rw[hs] at hA ⊢
 refine y3 (by show(false||(backTo cpos (acK es X.env)).any (·.1))=false;rw[hplain]<;>rfl) (y6 ?_)
 exact bJ hA λus s2 ⟨vs,H2,I2,r2,q2⟩=>hm pins s2 σ H2 x vs v us Q I2 r1 r2 q2
/- xs.append(e),list.index on a DY tuple .. are UQ facts of 06m -/
end
def US(X:Cx)(id:String)(r:V->List V->Hp->VK->Prop):Prop :=
 ∀(pins:List (acr×Obj))(s:acx)(σ:St)(H:Hp)(x:V)(xs:List V)(v:acy)(us:List acy)(Q:VK),Inv X pins σ H s->RelV x v->Vals xs us->r x xs H Q->
  acL (model X.prog X.w) X.A (call (.builtin id) (v::us)) (EP X pins σ Q) X.xe s
theorem Vals.one:∀{x:V}{us:List acy},Vals [x] us->∃u,us=[u]/\RelV x u
 | _,_,.cons r .nil=>⟨_,rfl,r⟩
theorem Vals.rep{xs:List V}{us:List acy}(h:Vals xs us):∀k:Nat,Vals (ar k xs).flatten (ar k us).flatten
 | 0=> .nil
 | k+1=>by
  rw[fk,fk,jP,jP]
  exact Vals.append h (Vals.rep h k)
theorem foldl_rep(its:List acy):∀(k:Nat)(acc:List acy),
  qG (λx1 x2=>x1++x2) acc.toArray (ar k its.toArray)=(acc++(ar k its).flatten).toArray
 | 0,acc=>by simp
 | k+1,acc=>by
  have e:acc.toArray++its.toArray=(acc++its).toArray:=by simp
  have e2:(acc++its)++(ar k its).flatten=acc++(ar (k+1) its).flatten:=by
   rw[fk,jP,cJ]
  rw[<-e2,<-foldl_rep its k (acc++its),<-e,fk,DZ]
section
variable {X:Cx} {pins:List (acr×Obj)} {σ:St} {H:Hp} {s:acx} {l b:acr} {xs ys zs:List V}
theorem Inv.IF{its its':List acy}{n:Nat}{f:Array acy->Array acy}{t':Nat}(I:Inv X pins σ H s)(hH:H l=some (.lst xs))
  (e:s.heap.get? l=some { cls:=.type "list",data:=.seq its.toArray n })(hf:f its.toArray=its'.toArray)(hv:Vals ys its')(hz:ys.length<=acJ) :
  Inv X pins σ (upd H l (.lst ys)) { s with heap:=s.heap.update l (nK f),toks:=t' }:=by
 have q:=PySem.IsL.update e f
 rw[hf] at q
 refine I.write (x:=l) (e:=l) (by rw[hH];exact trivial) (.inl rfl) (λb' u hb hu=>(oM s.heap (nK f) (bZ hb)).trans hu) ⟨_,q⟩ ?_
 exact⟨hz,its',_,hv,q⟩
theorem Inv.MC{its:List acy}{t':Nat}(I:Inv X pins σ H s)(hv:Vals ys its)(hz:ys.length<=acJ) :
  Inv X pins σ (upd H s.heap.objs.size (.lst ys)) { s with heap:=s.heap.push { cls:=.type "list",data:=.seq its.toArray },toks:=t' } :=
 I.laid (λ_ _ q=>aL _ q) (au _) ⟨hz,its,0,hv,bz _ rfl⟩
theorem Inv.fresh(I:Inv X pins σ H s):H s.heap.objs.size=none:=I.hok.fresh (au _)
theorem Inv.y7(I:Inv X pins σ H s)(hH:H l=some (.lst xs)):xs.length<=acJ/\∃(its:List acy)(n:Nat),Vals xs its/\xs.length=its.length/\s.heap.get? l=some { cls:=.type "list",data:=.seq its.toArray n }:=by
 obtain⟨z,its,n,r,e⟩:=I.hok l _ hH
 exact⟨z,its,n,r,r.length,e⟩
theorem qH{n:Nat}(h:n<=acJ):qI n=false:=by
 unfold qI
 exact decide_eq_false (by omega)
end
section
variable {X:Cx}
def IG:V->List V->Hp->VK->Prop:=λx vs H Q=>∃l xs y,x= .ref l/\vs=[y]/\H l=some (.lst xs)/\xs.length < acJ/\Q .aI (upd H l (.lst (xs++[y])))
theorem B9:US X "list.append" IG:=by
 intro pins s σ H x vs v us Q I rx rv h
 obtain⟨l,xs,y,rfl,rfl,hH,hz,q⟩:=h
 cases rx
 obtain⟨u,rfl,ru⟩:=rv.one
 obtain⟨z,its,n,r,hl,e⟩:=I.y7 hH
 refine call_meets F.slot_list_append ⟨_,e,rfl⟩ F.entry_list_append (F.args_list_append_2 _ _) (PySem.list_append l its.toArray n u (by rw[aM];omega)) ⟨e,?_⟩
 refine⟨.aI,_,I.IF (its':=its++[u]) hH e (by simp) (r.append (.cons ru .nil)) ?_,rfl,q⟩
 rw[cY,List.length_singleton]
 omega
def IH:V->List V->Hp->VK->Prop:=λx vs H Q=>∃l b xs zs,x= .ref l/\vs=[.ref b]/\H l=some (.lst xs)/\H b=some (.lst zs)/\xs.length+zs.length<=acJ/\Q .aI (upd H l (.lst (xs++zs)))
theorem B_:US X "list.extend" IH:=by
 intro pins s σ H x vs v us Q I rx rv h
 obtain⟨l,b,xs,zs,rfl,rfl,hH,hB,hz,q⟩:=h
 cases rx
 obtain⟨u,rfl,ru⟩:=rv.one
 cases ru
 obtain⟨z,its,n,r,hl,e⟩:=I.y7 hH
 obtain⟨z2,its2,n2,r2,hl2,e2⟩:=I.y7 hB
 have hsz:its.toArray.size+its2.toArray.size<=acJ:=by rw[aM,aM];omega
 have wO:¬(!its.toArray.isEmpty&&qI (its.toArray.size+its2.toArray.size))=true:=by
  rw[qH hsz,Bool.and_false]
  exact bD
 refine call_meets F.slot_list_extend ⟨_,e,rfl⟩ F.entry_list_extend (F.args_list_extend_2 _ _)
  (AutoSeq1.list_extend_list_list_0 l its.toArray n b its2.toArray n2 wO (by rw[aM];omega) (by omega)) ⟨e,e2,?_⟩
 refine⟨.aI,_,I.IF (its':=its++its2) hH e (by simp) (r.append r2) ?_,rfl,q⟩
 rw[cY]
 omega
def UT:R2:=λx y H Q=>∃l k xs,x= .ref l/\y= .int k/\H l=some (.lst xs)/\-(2 ^ 63)<=k/\k < 2 ^ 63/\xs.length * k.toNat<=acJ/\
 ∀p,H p=none->Q (.ref p) (upd H p (.lst (ar k.toNat xs).flatten))
theorem len_rep{α:Type}(xs:List α)(k:Nat):(ar k xs).flatten.length=k * xs.length:=by
 induction k with
 | zero=>simp
 | succ k ih=>rw[fk,jP,cY,ih,lJ,AN]
theorem MD:fW X (acB .Mult) UT:=by
 intro pins s σ H x y v u Q I rx ry h
 obtain⟨l,k,xs,rfl,rfl,hH,h1,h2,hz,q⟩:=h
 cases rx
 obtain⟨t,rfl⟩:=ry
 obtain⟨z,its,n,r,hl,e⟩:=I.y7 hH
 have hlen:its.toArray.size * k.toNat<=acJ:=by rw[aM,<-hl];exact hz
 have hcap:¬its.toArray.size * k.toNat > (2 ^ 63 - 1) / 8:=by
  have:(acJ:Nat)<=(2 ^ 63 - 1) / 8:=by decide
  omega
 have hfit:¬(!Builtin.List.listFitsIndex k)=true:=by
  rw[fitsIndex_both h1 h2]
  exact bD
 have wO:¬qI (its.toArray.size * k.toNat)=true:=by
  rw[qH hlen]
  exact bD
 have hnew:qG (λx1 x2=>x1++x2) #[] (ar (if its.toArray.isEmpty=true then 0 else k.toNat) its.toArray)=(ar k.toNat its).flatten.toArray:=by
  have f0:∀m:Nat,qG (λx1 x2=>x1++x2) #[] (ar m its.toArray)=(ar m its).flatten.toArray:=λm=>by
   have:=foldl_rep its m []
   rw[lK] at this
   exact this
  rw[f0]
  cases its with
  | nil=>simp
  | cons a r'=>rw[if_neg (by simp)]
 refine wpAny_binaryOp_repeat_ref (T:="list") (U:="int") (by decide) ⟨_,e,rfl⟩ (λs'=>typeIs_int s' k t) noFill_list_mul F.fills_int_mul y8 repeat_list F.slot_int_index.lookup
  (call_meets y8 (typeIs_int s k t) F.entry_int_rmul (F.args_int_rmul_2 _ _) (int___rmul___int_list k t l its.toArray n)
   ⟨e,rfl,⟨_,e,rfl⟩,call_meets F.slot_list_mul ⟨_,e,rfl⟩ F.entry_list_mul (F.args_list_mul_2 _ _) (AutoListH.list___mul___list_int_3 l its.toArray n k t hfit hcap wO) ⟨e,?_⟩⟩)
 rw[hnew]
 exact⟨.ref _,_,I.MC (t':=s.toks) (r.rep k.toNat) (by rw[len_rep,u0];exact hz),rfl,q _ I.fresh⟩
end
section
variable {prog:acw} {w:acz} {A:acs} {E:acy->acx->Prop} {s:acx}
set_option maxRecDepth 100000 in
end
section
variable {X:Cx}
end
end L2
namespace Att
open PySem PySem.W PySem.Calls PyProof.Rows
theorem pJ{P:Params}{h:Heap}:∀(ns:List Int)(vs:List acy),WellAll P h vs (ns.map WData.int)->IntsAre vs ns:=by
 intro ns
 induction ns with
 | nil=>
  intro vs w
  rw[lL] at w
  cases w
  exact .nil
 | cons n ns ih=>
  intro vs w
  rw[ay] at w
  cases w with
  | cons a b=>
   cases a
   exact .cons _ _ (ih _ b)
theorem B'{l:OpenLaw}{n:Nat}(hn:l.most=some n){P:Params}{h:Heap}{args:List WData}{vals:List acy}
  (hpre:l.row.toRowW.claim.pre args=true)(hwl:WellAll P h vals args) :
  ∃a vs ns,vals=[aE a]/\args=[WData.list (ns.map WData.int)]/\h.get? a=some { cls:=.type "list",data:=.seq vs.toArray }/\IntsAre vs ns/\ns.length<=n:=by
 have hsh:WShape.hasAll [] args [.list .int]=true:=(pre_splitW hpre).1
 have hc:l.pre.holds [] { args:=args }=true:=(pre_splitW hpre).2
 obtain⟨d,r,rfl,h1,h2⟩:=hasAllW_cons hsh
 obtain rfl:=hasAllW_nil h2
 obtain⟨xs,rfl,h3⟩:=hasW_list h1
 obtain⟨ns,rfl⟩:=items_int h3
 have hlen:ns.length<=n:=by
  unfold OpenLaw.pre at hc
  have h4:(WTm.not (.lt (.lit (.int (n:Int))) (.len (.arg 0)))).holds [] { args:=[.list (ns.map .int)] }=true:=by
   have h4:=(holds_andW hc).1
   rw[hn] at h4
   exact h4
  have h5:=condW_of h4 (w_not (w_lt w_lit (w_len_list (w_arg rfl))))
  rw[aB] at h5
  refine Nat.le_of_not_lt λq=>?_
  have q':(n:Int) < ((ns.length:Nat):Int):=by omega
  first
   | (rw[decide_eq_true q'] at h5;exact absurd h5 (by decide))
   | (simp at h5;omega)
 cases hwl with
 | cons w1 w2=>
  cases w2
  cases w1 with
  | list ho hall=>exact⟨_,_,ns,rfl,rfl,ho,pJ ns _ hall,hlen⟩
theorem Ca(l:OpenLaw)(args:List WData):l.row.toRowW.claim.post args (.bool true) args=true :=
 postW_of (r:=l.row.toRowW) (X:=(true == true))
  (show WShape.has [] (.bool true) .bool=true by first | rfl | decide | simp[WShape.has,WShape.arms,WShape.armsAll])
  (show(WTm.eq .res (.lit (.bool true))).value [] { args:=args,res:=some (.bool true),after:=args }=some (.bool (true == true)) from w_eq_bool (w_res rfl) w_lit) rfl
theorem wQ{l:OpenLaw}{n:Nat}{q:acw}{loose:List Str}{XP:(Str->Option acy)->Heap->Prop}{YP:acz->Heap->Prop}{d:DefRec}
  (hn:l.most=some n)(hdf:d.params.defaults=[])
  (call:∀(w:acz)(s₀ s₁:acx)(mg mb:Str->Option acy)(fa:acr)(o:Obj)(pm cd doc:acy)(a:acr)(vs:List acy)(ns:List Int),
   Ground q loose [] XP w s₀ mg mb s₁.heap->YP w s₁.heap->
   s₁.heap.get? fa=some o->o.data= .func (docDef d.name d.params d.body d.scope pm cd doc)->s₁.heap.CodeRec cd d.name->mg d.name=some (.ref fa)->
   s₁.heap.get? a=some { cls:=.type "list",data:=.seq vs.toArray }->IntsAre vs ns->ns.length<=n->s₁.gens=#[]->
   acD (model l.prog w) callerA (.call (.ref fa) ⟨[.ref a],[]⟩) (λr s'=>r= .ok (.ret (.bool true))/\OldK s₁.heap s'.heap/\s'.os=s₁.os/\AllBare s'.gens) s₁) :
  WalkO q loose XP YP l.row.toRowW d [] (λf vs=>PySem.call f vs):=by
 intro w s₀ s₁ mg mb G Y fa o pm cd doc dV kV ho hd hcd hD hmg hg args vals as hpre hlay hrd hwl hlo
 obtain rfl:dV= .none:=Dflts.none hD hdf
 obtain rfl:kV= .none:=Dflts.noKw hD
 obtain⟨a,vs,ns,rfl,rfl,hobj,hints,hlen⟩:=B' hn hpre hwl
 refine enter_call (codeAny_mono (call w s₀ s₁ mg mb fa o pm cd doc a vs ns G Y ho (fd_plain hd) hcd hmg hobj hints hlen hg) λr s' hq=>?_)
 obtain⟨rfl,h2,h3,h4⟩:=hq
 exact⟨.inl ⟨.bool true,.bool true,[],rfl,λ_=>rfl,.bool true,Ca l _,λ_=>⟨List.Pairwise.nil,λ_ hm=>(nomatch hm)⟩⟩,h2,h3,h4⟩
section
variable {prog:acw} {w:acz} {A:acs} {E:acy->acx->Prop} {s:acx} {K:Frag}
def u5(h:Heap):Heap:={ h with objs:=#[] }
theorem mJ(h:Heap)(b:acr):(u5 h).get? b=none:=by
 cases e:(u5 h).get? b with
 | none=>rfl
 | some o=>exact absurd (aC e) (Nat.not_lt_zero _)
theorem ME{h:Heap}{L:acr}{m:Str->Option acy}(n:h.Ns L m):Fr (u5 h) L h m :=
 ⟨n,λb o e=>(by rw[mJ] at e;cases e),bY _⟩
end
end Att
namespace L2
open PySem PySem.Spec PyProof.Rows
theorem tN:∀{vs:List acy}{ns:List Int},IntsAre vs ns->Vals (ns.map V.int) vs
 | _,_,.nil=> .nil
 | _,_,.cons n t h=> .cons ⟨t,rfl⟩ (tN h)
def II(H:Hp):Prop:=∀b,H b=none\/∃o xs,H b=some (.eL o (.lst xs))
theorem D3{P:acw}{w:acz}{K:PySem.W.Frag}{mg mb:Str->Option acy}{CX:Dr}{k:Nat}{fa a:acr}{fd:acu}{x:Str}{sp:Sp}{s₁:acx}{vs:List acy}{ns:List Int}
  (KX:K.In s₁.heap)(hns:s₁.heap.Ns acI mg)(hb:s₁.heap.Ns builtinsNs mb)(ZL:∀x:Str,x≠"__name__"->mb x=acC x)(hlim:s₁.heap.NoLimit)(hg:s₁.gens=#[])
  (ha:s₁.heap.get? a=some { cls:=.type "list",data:=.seq vs.toArray })(hi:IntsAre vs ns)(hl:ns.length<=acJ)(hr:kO k callerA)
  (F:∀base:Heap,K.In base->base.Ns acI mg->FnOk P w K mg base CX k fa fd [x] sp)(hbind:∀(s:acx)(u:acy),BindsTo s fd ⟨[u],[]⟩ [(x,u)])
  (Ir:∀H:Hp,II H->mj K H a (ns.map V.int)->sp [.ref a] H (λv _=>v= .bl true) λ_ _ _=>False)
  (UU:∀H e s',CX [] H s₁ (λ_ _ _=>False) e s'->False) :
  acD (model P w) callerA (.call (.ref fa) ⟨[.ref a],[]⟩) (λr s'=>r= .ok (.ret (.bool true))/\OldK s₁.heap s'.heap/\s'.os=s₁.os/\AllBare s'.gens) s₁:=by
 have rv:=tN hi
 have UW:=hi.length
 -- from an abstract heap in which nothing but the script may be tracked
 have core:∀H:Hp,II H->mj K H a (ns.map V.int)->ko P w H s₁.heap->(∀b,H b≠none->b=a)->(H a≠none->K.lookup a=none)->
   acD (model P w) callerA (.call (.ref fa) ⟨[.ref a],[]⟩) (λr s'=>r= .ok (.ret (.bool true))/\OldK s₁.heap s'.heap/\s'.os=s₁.os/\AllBare s'.gens) s₁:=by
  intro H hO hS hok hA hK
  have AO:∀{b:acr}{o:Obj},s₁.heap.get? b=some o->H b=none->(uM s₁.heap H).get? b=some o:=λe n=>DA e n
  have QW:∀{b:acr}{o:Obj}{es:Array DictEntry}{ep:Nat},s₁.heap.get? b=some o->o.data= .dict es ep->H b=none:=λ{b o es ep} e d=>by
   cases q:H b with
   | none=>rfl
   | some u=>
    have e':b=a:=hA b (by rw[q];simp)
    subst e'
    rw[ha] at e;cases e
    have d':Data.seq vs.toArray _=Data.dict es ep:=d
    cases d'
  have Ts:∀{b:acr}{m:Str->Option acy},s₁.heap.Ns b m->(uM s₁.heap H).Ns b m:=λ{b m} ⟨o,es,ep,e,d,r⟩=>⟨o,es,ep,AO e (QW e d),d,r⟩
  have Yk:K.In (uM s₁.heap H):=λb o e=>AO (KX b o e) (by
   cases q:H b with
   | none=>rfl
   | some u=>
    have e':b=a:=hA b (by rw[q];simp)
    subst e'
    rw[hK (by rw[q];simp)] at e;cases e)
  have hM:Mod K mg (uM s₁.heap H):=⟨Yk,Ts hns,⟨mb,Ts hb,ZL⟩,let ⟨mc,h1,h2⟩:=hlim;⟨mc,Ts h1,h2⟩⟩
  have e0:yU P w K mg (uM s₁.heap H) callerA [] s₁ H:=⟨rfl,hM,λb o e=>HR e,p_ (BZ _ _),trivial,λb hb=>absurd (show b∈([]:List acr) from hb) (by simp),hok,.of_eq hg⟩
  refine codeAny_mono ((F _ Yk (Ts hns)).run callerA [] s₁ H ⟨[.ref a],[]⟩ [.ref a] [.ref a] _ _ hr e0 (hbind s₁ (.ref a)) (.cons rfl .nil) (Ir H hO hS)) λr s' h=>?_
  cases r with
  | error e=>exact(UU H e s' h).elim
  | ok fl=>
   cases fl with
   | next=>exact aa h
   | brk=>exact aa h
   | cont=>exact aa h
   | ret u=>
    obtain⟨v,H',os,bare,un,UX,r',q⟩:=h
    have q':v= .bl true:=q
    subst q'
    obtain rfl:u=pZ true:=r'
    refine⟨rfl,OldK.of_keep λb o e=>?_,os,bare⟩
    cases q:H b with
    | none=>exact un.keep b o e q (by intro z;exact absurd (show b∈([]:List acr) from z) (by simp)) (by simp)
    | some u=>
     rcases hO b with z | ⟨ob,xs,z⟩
     ·rw[q] at z;cases z
     ·have z2:=un.ju b ob _ z
      obtain⟨e1,_⟩:=hok b _ z
      obtain⟨e2,_⟩:=UX b _ z2
      rw[e] at e1;cases e1
      exact e2
 cases hk:K.lookup a with
 | some o=>
  -- the script is one of the DY own objects
  have e:=KX a o hk
  rw[ha] at e
  cases e
  refine core (λ_=>none) (λ_=> .inl rfl) (.inr ⟨_,vs.toArray,_,hk,rfl,rfl,rfl,by rw[aM,UW];exact hl,by simpa using rv⟩) (λb u z=>by have z':(none:Option HO)=some u:=z;cases z') (λb z=>absurd rfl z) λz=>absurd rfl z
 | none=>
  refine core (λb=>if b=a then some (.eL { cls:=.type "list",data:=.seq vs.toArray } (.lst (ns.map V.int))) else none) (λb=>?_) (.inl (.inr ⟨{ cls:=.type "list",data:=.seq vs.toArray },if_pos rfl⟩)) (λb u z=>?_) (λb z=>?_) λ_=>hk
  ·by_cases hb:b=a
   ·exact .inr ⟨_,_,if_pos hb⟩
   ·exact .inl (if_neg hb)
  ·by_cases hb:b=a
   ·have z':=(if_pos hb).symm.trans z
    cases z'
    subst hb
    exact⟨ha,by rw[aB];exact hl,vs,_,rv,ha⟩
   ·have z':=(if_neg hb).symm.trans z
    cases z'
  ·by_cases hb:b=a
   ·exact hb
   ·exact absurd (if_neg hb) z
abbrev KOf{K:PySem.W.Frag}{h:Heap}(_:K.In h):PySem.W.Frag:=K
theorem walk_of{l:PySem.W.OpenLaw}{n k:Nat}{q:acw}{loose:List Str}{XP:(Str->Option acy)->Heap->Prop}{YP:acz->Heap->Prop}{d:DefRec}{K:Params->PySem.W.Frag}{CX:acz->Dr}{sp:acz->Sp}{x:Str}
  (hn:l.most=some n)(hn2:n<=acJ)(hdf:d.params.defaults=[])(hr:kO k callerA)
  (hY:∀(w:acz)(h:Heap),YP w h->(K w.params).In h)
  (F:∀(w:acz)(mg:Str->Option acy)(fa:acr)(h:Heap),(K w.params).In h->h.Ns acI mg->mg d.name=some (.ref fa)->
   ∃fd:acu,(∀(s:acx)(u:acy),BindsTo s fd ⟨[u],[]⟩ [(x,u)])/\
    ∀base:Heap,(K w.params).In base->base.Ns acI mg->FnOk l.prog w (K w.params) mg base (CX w) k fa fd [x] (sp w))
  (Ir:∀(w:acz)(H:Hp)(a:acr)(ns:List Int),ns.length<=n->II H->mj (K w.params) H a (ns.map V.int)->sp w [.ref a] H (λv _=>v= .bl true) λ_ _ _=>False)
  (UU:∀(w:acz)(H:Hp)(s:acx)(e:acy)(s':acx),CX w [] H s (λ_ _ _=>False) e s'->False) :
  PySem.W.WalkO q loose XP YP l.row.toRowW d [] (λf vs=>PySem.call f vs):=by
 refine Att.wQ hn hdf λw s₀ s₁ mg mb fa o pm cd doc a vs ns G Y ho hd hcd hmg hobj hints hlen hg=>?_
 have KX:=hY w _ Y
 obtain⟨fd,hb,hF⟩:=F w mg fa _ KX G.T.g hmg
 exact D3 KX G.T.g G.T.b G.T.builtins G.T.nolimit hg hobj hints (bg hlen hn2) hr hF hb (λH hO hS=>Ir w H a ns hlen hO hS) λH e s'=>UU w H s₁ e s'
end L2
/- THE ZM Tt (shape;LID,My.* are Yl):
   My.Adr: a structure of the addresses ZN your Ym names (classes,Qe);My.Txt K t: a structure (Prop) of the equations over K;
   My.MF:{K} {implicit addresses ..} (e1:nsIn K acI "law"=some (some (.ref f))) (e2:K.lookup f=some ⟨oc,od,.func (fnOf "law" "law" params body scope dV kV doc pm an cdv ct),sl⟩) (e3:codeIn K cdv "law"=true) ..:∃t,My.Txt K t
set_option maxRecDepth 100000 in
set_option maxHeartbeats 0 in
theorem PySem.Challenge.cw_LID_holds:PySem.Challenge.rw_LID.Holds:=by
 w_on;o_law;k_head;(case hw=>w_witness2)
 k_fill
 refine L2.walk_of (l:=PySem.Challenge.rw_LID) (n:=63) (k:=40) (x:="script") (CX:=fun w => ..) (sp:=fun _ => My.sp_law) rfl (by decide) rfl ⟨rfl,by decide,by decide⟩ (fun w h Y => PySem.W.kIn_of Y) ?F ?S ?C
 case F=>
  intro w mg fa h KX G hmg
  have T:∃t,My.Txt (L2.KOf KX) t:=by
   dsimp only[L2.KOf] -- K ZO stand as «<heap const> w.params» for k_is
   refine' My.MF ?e1 ?e2 ?e3 ..
   (case e1=>PySem.W.k_is) -- in the order: a name -> its address -> its object -> its parts
   (case e2=>PySem.W.k_is)
   ..
  obtain⟨t,T⟩:=T
  have e0:=hmg.symm.trans (PySem.W.mg_of KX G T.law)
  cases e0 -- fa is the Yn own address
  exact⟨_,λs u=> .of_eq rfl,λbase kb nb=>My.MG T kb nb⟩ -- if «.of_eq rfl» comes too early: refine' ⟨_,?b,λbase kb nb=>My.MG T kb nb⟩;exact λs u=> .of_eq rfl
 case S=>exact λw H a ns hl hO hS=> ..
 case C=>exact ..
(the tactic k_is has no namespace: write k_is) -/
namespace L2
open PySem PySem.Spec PyProof.Rows
def defArgs(s:Stmt):Arguments:=match s with
 | .FunctionDef _ a _ _ _ _ _ _ _ _=>a
 | _=>{ posonlyargs:=[],args:=[],vararg:=none,kwonlyargs:=[],kw_defaults:=[],kwarg:=none,defaults:=[] }
def defBody(s:Stmt):List Stmt:=match s with
 | .FunctionDef _ _ b _ _ _ _ _ _ _=>b
 | _=>[]
def defScope(s:Stmt):Scope:=match s with
 | .FunctionDef _ _ _ _ _ _ sc _ _ _=>sc
 | _=>{ kind:=.function,names:=[],isGenerator:=false,isCoroutine:=false }
abbrev CX0:Dr:=λ_ _ _ _ _ _=>False
abbrev E0:XK:=λ_ _ _=>False
structure K2(K:PySem.W.Frag)(x qual:Str)(st:Stmt)(f:acr)(fd:acu):Prop where
 ex:∃(oc:acy)(od:Option acr)(kV doc pm:acy)(an:Option acr)(cdv ct:acy)(osl:Array (Option acy)),
  fd=PySem.W.fnOf x qual (defArgs st) (defBody st) (defScope st) .none kV doc pm an cdv ct/\K.lookup f=some ⟨oc,od,.func fd,osl⟩/\PySem.W.codeIn K cdv qual=true
 kp:PySem.W.keepIn K (.ref f)=true
section
variable {P:acw} {w:acz} {K:PySem.W.Frag} {mg:Str->Option acy} {base:Heap}
theorem K2.binds{x qual:Str}{st:Stmt}{f:acr}{fd:acu}{ps:List Str}(F:K2 K x qual st f fd)
  (h:∀(kV doc pm:acy)(an:Option acr)(cdv ct:acy)(us:List acy),us.length=ps.length->bindArgs (PySem.W.fnOf x qual (defArgs st) (defBody st) (defScope st) .none kV doc pm an cdv ct) ⟨us,[]⟩=pure (ps.zip us)):Binds K fd ps []:=by
 obtain⟨oc,od,kV,doc,pm,an,cdv,ct,osl,rfl,lk,hcd⟩:=F.ex
 exact .all (h kV doc pm an cdv ct)
theorem MH{x qual:Str}{st:Stmt}{f:acr}{oc:acy}{od an:Option acr}{osl:Array (Option acy)}{kV doc pm cdv ct:acy}(l:K.lookup f=some ⟨oc,od,.func (PySem.W.fnOf x qual (defArgs st) (defBody st) (defScope st) .none kV doc pm an cdv ct),osl⟩)
  (c:PySem.W.codeIn K cdv qual=true)(k:PySem.W.keepIn K (.ref f)=true):K2 K x qual st f (PySem.W.fnOf x qual (defArgs st) (defBody st) (defScope st) .none kV doc pm an cdv ct):=⟨⟨oc,od,kV,doc,pm,an,cdv,ct,osl,rfl,l,c⟩,k⟩
end
section
variable {X:Cx}
end
section
variable {κ : Type} [DecidableEq κ]
def qJ(kvs : List (κ×V))(k : κ) : Option V := (kvs.find? λkv=>decide (kv.1=k)).map (·.2)
def putK(kvs : List (κ×V))(k : κ)(v : V) : List (κ×V) :=
 if(kvs.any λkv=>decide (kv.1=k))=true then kvs.map (λkv=>if kv.1=k then(kv.1, v) else kv) else kvs++[(k, v)]
def kq(kvs : List (κ×V))(k : κ) : List (κ×V) := kvs.filter λkv=>decide (kv.1≠k)
theorem qK{p : κ×V}{r : List (κ×V)}{k : κ}(e : p.1=k) : qJ (p::r) k=some p.2 := by simp[qJ, u6, e]
theorem qL{p : κ×V}{r : List (κ×V)}{k : κ}(e : ¬p.1=k) : qJ (p::r) k=qJ r k := by simp[qJ, u6, e]
theorem wR(k : κ) : ∀kvs : List (κ×V), (kvs.any λkv=>decide (kv.1=k))=(qJ kvs k).isSome
 | []=>rfl
 | p::r=>by
  rw[fY]
  by_cases e : p.1=k
  ·simp only[qK e, decide_eq_true e, Bool.true_or, IJ]
  ·rw[qL e, decide_eq_false e, Bool.false_or];exact wR k r
theorem pq(kvs : List (κ×V))(k : κ)(v : V) : (putK kvs k v).length<=kvs.length+1 := by
 unfold putK
 split
 ·rw[aB];omega
 ·rw[cY, gD, u7];omega
theorem yM.tO{o : Option V}{u : Option acy}(r : yM o u) : o.isSome=u.isSome := by
 cases o with
 | none=>cases u with
  | none=>rfl
  | some _=>exact(show False from r).elim
 | some _=>cases u with
  | none=>exact(show False from r).elim
  | some _=>rfl
theorem KV.any{kvs : List (κ×V)}{vs : List (κ×acy)}(r : KV kvs vs)(k : κ) : (kvs.any λkv=>decide (kv.1=k))=vs.any λkv=>decide (kv.1=k) := by
 unfold KV at r
 induction r with
 | nil=>rfl
 | cons h t ih=>rw[fY, fY, ih, h.1]
theorem KV.repl{kvs : List (κ×V)}{vs : List (κ×acy)}(r : KV kvs vs)(k : κ){y : V}{u : acy}(ry : RelV y u) :
  KV (kvs.map λkv=>if kv.1=k then(kv.1, y) else kv) (vs.map λkv=>if kv.1=k then(kv.1, u) else kv) := by
 unfold KV at r ⊢
 induction r with
 | nil=>exact .nil
 | @cons p q ps qs h t ih=>
  rw[ay, ay]
  refine .cons ?_ ih
  obtain⟨h1, h2⟩ := h
  by_cases e : p.1=k
  ·rw[if_pos e, if_pos (h1.symm.trans e)];exact⟨h1, ry⟩
  ·rw[if_neg e, if_neg (λz=>e (h1.trans z))];exact⟨h1, h2⟩
theorem KV.put{kvs : List (κ×V)}{vs : List (κ×acy)}(r : KV kvs vs)(k : κ){y : V}{u : acy}(ry : RelV y u) : KV (putK kvs k y) (stored vs k u) := by
 unfold putK stored
 rw[r.any k]
 by_cases e : (vs.any λkv=>decide (kv.1=k))=true
 ·rw[if_pos e, if_pos e];exact r.repl k ry
 ·rw[if_neg e, if_neg e];exact Paired.snoc r ⟨rfl, ry⟩
theorem KV.length{kvs : List (κ×V)}{vs : List (κ×acy)}(r : KV kvs vs) : kvs.length=vs.length := Paired.length r
theorem D4(kvs : List (κ×V))(k : κ) : (kq kvs k).length<=kvs.length := u9 _ _
end
theorem K3{P : acw}{w : acz}{k : Key}{u : acy}(r : RelV (kV k) u) : (bq P w).is k u=true := by
 cases k with
 | inl i=>obtain⟨t, e⟩ := (show ∃t, u=lF i t from r);subst e;exact wH P w i t
 | inr x=>obtain⟨t, e⟩ := (show ∃t, u=uH x t from r);subst e;exact wI P w x t
 | aI=>rw[show u=bp from r];rfl
theorem tQ{P : acw}{w : acz} : ∀{ks : List Key}{us : List acy}, Vals (ks.map kV) us->ItemsAre (bq P w) ks us
 | [], _, r=>by rw[lL] at r;cases r;exact .nil
 | k::ks, _, r=>by
  rw[ay] at r
  cases r with
  | cons h t=>exact .cons (K3 h) (tQ t)
abbrev KT(H : Hp) : List (List Key×V)->List (List Key×acr×acy)->Prop := Paired λp q=>p.1=q.1/\H q.2.1=some (.tup (p.1.map kV))/\RelV p.2 q.2.2
theorem KT.val{H : Hp}{kvs : List (List Key×V)}{xs : List (List Key×acr×acy)}(r : KT H kvs xs)(k : List Key) : yM (qJ kvs k) ((atKey xs k).map (·.2)) := by
 induction r with
 | nil=>exact qa
 | @cons p q ps qs h t ih=>
  obtain⟨h1, _, h2⟩ := h
  by_cases e : p.1=k
  ·have e' : q.1=k := h1.symm.trans e
   have b : atKey (q::qs) k=some q.2 := by simp[atKey, u6, e']
   rw[qK e, b];exact h2
  ·have e' : ¬q.1=k := λz=>e (h1.trans z)
   have b : atKey (q::qs) k=atKey qs k := by simp[atKey, u6, e']
   rw[qL e, b];exact ih
theorem KT.repl{H : Hp}{kvs : List (List Key×V)}{xs : List (List Key×acr×acy)}(r : KT H kvs xs)(k : List Key){y : V}{u : acy}(ry : RelV y u) :
  KT H (kvs.map λkv=>if kv.1=k then(kv.1, y) else kv) (xs.map (putAt k u)) := by
 induction r with
 | nil=>exact .nil
 | @cons p q ps qs h t ih=>
  rw[ay, ay]
  refine .cons ?_ ih
  obtain⟨h1, h2, h3⟩ := h
  unfold putAt
  by_cases e : p.1=k
  ·rw[if_pos e, if_pos (h1.symm.trans e)];exact⟨h1, h2, ry⟩
  ·rw[if_neg e, if_neg (λz=>e (h1.trans z))];exact⟨h1, h2, h3⟩
theorem KT.put{H : Hp}{kvs : List (List Key×V)}{xs : List (List Key×acr×acy)}(r : KT H kvs xs)(k : List Key){b : acr}{y : V}{u : acy}(hb : H b=some (.tup (k.map kV)))(ry : RelV y u) :
  KT H (putK kvs k y) (storedH xs k b u) := by
 have e : (kvs.any λkv=>decide (kv.1=k))=(atKey xs k).isSome := by
  rw[wR, (r.val k).tO, Option.isSome_map]
 unfold putK storedH
 rw[e]
 by_cases q : (atKey xs k).isSome=true
 ·rw[if_pos q, if_pos q];exact r.repl k ry
 ·rw[if_neg q, if_neg q];exact Paired.snoc r ⟨rfl, hb, ry⟩
theorem KT.keeps{H H' : Hp}{kvs : List (List Key×V)}{xs : List (List Key×acr×acy)}(r : KT H kvs xs)(ht : ∀b ys, H b=some (.tup ys)->H' b=some (.tup ys)) : KT H' kvs xs :=
 Paired.Dz r λ_ _ z=>⟨z.1, ht _ _ z.2.1, z.2.2⟩
section
variable {P : acw} {w : acz} {H : Hp} {h : Heap} {a : acr}
theorem D5{u : HO}(ok : ko P w H h)(e : Rd H a u) : dm P w H h a u := e.ok ok
theorem K4{kvs : List (Key×V)}(ok : ko P w H h)(e : Rd H a (.dK kvs)) : kvs.length<=acJ/\(a == sysModules)=false/\∃vs, KV kvs vs/\h.DictOf (bq P w) a vs :=
 show dm P w H h a (.dK kvs) from D5 ok e
theorem Q6{kvs : List (Key×V)}(ok : ko P w H h)(e : H a=some (.dK kvs)) : kvs.length<=acJ/\(a == sysModules)=false/\∃vs, KV kvs vs/\h.DictOf (bq P w) a vs := K4 ok (.inl e)
theorem qM{ks : List Key}(ok : ko P w H h)(e : H a=some (.tup (ks.map kV))) : (tupleKind (bq P w)).is h ks a := by
 obtain⟨_, its, r, ⟨o, h1, h2, n, h3⟩, _⟩ := (show dm P w H h a (.tup (ks.map kV)) from ok a _ e)
 exact⟨o, its.toArray, n, h1, h2, h3, by simpa using tQ r⟩
theorem AQ{kvs : List (List Key×V)}(ok : ko P w H h)(e : Rd H a (.dT kvs)) : kvs.length<=acJ/\(a == sysModules)=false/\
  ∃xs, KT H kvs xs/\h.DictOfH (tupleKind (bq P w)) a xs := by
 obtain⟨z, y, xs, r, o, es, ep, h1, h2, h3, h4, h5⟩ := (show dm P w H h a (.dT kvs) from D5 ok e)
 refine⟨z, y, xs, r, o, es, ep, h1, h2, h3, h4, λx hx=>?_, h5⟩
 have all : ∀{l : List (List Key×V)}{m : List (List Key×acr×acy)}, KT H l m->∀x∈m, (tupleKind (bq P w)).is h x.1 x.2.1 := by
  intro l m q
  induction q with
  | nil=>intro x hx;exact nomatch hx
  | @cons p q ps qs hq t ih=>
   intro x hx
   rcases List.mem_cons.mp hx with e | hx
   ·subst e
    exact qM ok (by rw[<-hq.1];exact hq.2.1)
   ·exact ih x hx
 exact all r x hx
theorem D6{kvs : List (List Key×V)}(ok : ko P w H h)(e : H a=some (.dT kvs)) : kvs.length<=acJ/\(a == sysModules)=false/\
  ∃xs, KT H kvs xs/\h.DictOfH (tupleKind (bq P w)) a xs := AQ ok (.inl e)
end
def u_(H : Hp)(a : acr)(y v : V)(H' : Hp) : Prop :=
 (∃kvs k, H a=some (.dK kvs)/\y=kV k/\kvs.length < acJ/\H'=upd H a (.dK (putK kvs k v)))\/
 ∃kvs k b, H a=some (.dT kvs)/\y= .ref b/\H b=some (.tup (k.map kV))/\kvs.length < acJ/\H'=upd H a (.dT (putK kvs k v))
theorem u_.k{H : Hp}{a : acr}{kvs : List (Key×V)}{k : Key}{v : V}(e : H a=some (.dK kvs))(hl : kvs.length < acJ) : u_ H a (kV k) v (upd H a (.dK (putK kvs k v))) := .inl ⟨kvs, k, e, rfl, hl, rfl⟩
theorem u_.t{H : Hp}{a b : acr}{kvs : List (List Key×V)}{k : List Key}{v : V}(e : H a=some (.dT kvs))(eb : H b=some (.tup (k.map kV)))(hl : kvs.length < acJ) :
  u_ H a (.ref b) v (upd H a (.dT (putK kvs k v))) := .inr ⟨kvs, k, b, e, rfl, eb, hl, rfl⟩
section
variable {X : Cx} {pins : List (acr×Obj)} {σ : St} {H : Hp} {s : acx} {a : acr} {y v : V} {u r : acy} {o : Option V} {A : acs} {E : acy->acx->Prop}
theorem Inv.big(I : Inv X pins σ H s) : sysModules < s.heap.objs.size := by
 have h : acI < s.heap.objs.size := (I.mod.glob.keeps I.bk).lt
 exact Nat.lt_trans (by decide) h
theorem qb{h' : Heap}{t' : Nat}{ob : HO}(I : Inv X pins σ H s)(mu : Qv (H a))(hs : kK a s.heap h')(he : ∃q, h'.get? a=some q)(new : dm X.prog X.w (upd H a ob) h' a ob) :
  Inv X pins σ (upd H a ob) { s with heap := h', toks := t' } :=
 I.write (x := a) (e := a) mu (.inl rfl) (λb q hb z=>(hs.2 b hb).trans z) he new
theorem MI{P : acw}{w : acz}{H' : Hp}{h' : Heap}{kvs : List (Key×V)}{vs : List (Key×acy)}(z : kvs.length<=acJ)(hd : (a == sysModules)=false)(rel : KV kvs vs)(dd : h'.DictOf (bq P w) a vs) :
  dm P w H' h' a (.dK kvs) :=⟨z, hd, vs, rel, dd⟩
theorem Cb{H' : Hp}{Q : Unit->acx->Prop}(hu : A.units+1 < cLine)(I : Inv X pins σ H s)(g : u_ H a y v H')(ry : RelV y u)(rv : RelV v r)(h : ∀s', Inv X pins σ H' s'->Q () s') :
  acL (model X.prog X.w) A (setItem (.ref a) u r) Q E s := by
 rcases g with ⟨kvs, k, e, ey, l, eH⟩ | ⟨kvs, k, b, e, ey, eb, l, eH⟩
 ·subst ey eH
  obtain⟨z, hd, vs, rel, dd⟩ := Q6 I.hok e
  have hz : vs.length<=acJ := by rw[<-rel.length];exact z
  have hl : (putK kvs k v).length<=acJ := by have := pq kvs k v;omega
  refine wpAny_setItem_pairs (hsz := hz) (K3 ry) dd λh' K5 hs=>h _ ?_
  have he : ∃q, h'.get? a=some q := let ⟨q, _, _, hq, _⟩ := K5;⟨q, hq⟩
  exact qb I (by rw[e];exact qa) hs he (MI hl hd (rel.put k rv) K5)
 ·subst ey eH
  cases (show u=aE b from ry)
  obtain⟨z, hd, xs, rel, dd⟩ := D6 I.hok e
  have hz : xs.length<=acJ := by rw[<-Paired.length rel];exact z
  have hl : (putK kvs k v).length<=acJ := by have := pq kvs k v;omega
  refine wpAny_setItem_heap (hsz := hz) (tupleKind_room_in1 hu) (qM I.hok eb) dd λh' K5 hs=>h _ ?_
  obtain⟨q, es, ep, hq, h2, h3, h4, _, h5⟩ := K5
  refine qb I (by rw[e];exact qa) hs ⟨q, hq⟩ ⟨hl, hd, _, (rel.put k eb rv).keeps λc ys ec=>?_, q, es, ep, hq, h2, h3, h4, h5⟩
  rw[av (Dy ec e (λz=>nomatch z))]
  exact ec
end
section
variable {X : Cx} {pins : List (acr×Obj)} {σ : St} {H : Hp} {s : acx} {a : acr} {kvs : List (Key×V)} {k : Key} {u : acy} {A : acs} {E : acy->acx->Prop}
end
def MJ(i : Expr) : Prop := ∀ov iv, subscripted i false ov iv=operate [ov, iv] (getItem ov iv)
theorem IK{prog : acw}{w : acz}{A : acs}{E : acy->acx->Prop}{s : acx}{env : Env}{value slice : Expr}{pos : Pos}{T id : String}{Q : acy->acx->Prop}
  (hl : typeLookup (.type T) "__getitem__"=pure (some (.builtin id)))(hs : MJ slice)
  (h : acL (model prog w) A (eval value env) (λo s₁=>acL (model prog w) A (eval slice env) (λi s₂=>s₂.TypeIs o T/\acL (model prog w) A (getItem o i) Q E s₂) E s₁) E s) :
  acL (model prog w) A (eval (.Subscript value slice pos) env) Q E s := by
 refine Subscript_ (acP h (λo s₁ h₁=>acP h₁ (λi s₂ h₂=>?_) λ_ _ x=>x) λ_ _ x=>x)
 obtain⟨hT, h₂⟩ := h₂
 unfold subscriptTail
 refine acM ?_
 rw[getitemInPython_of_ne hT.not_modules]
 refine acM (wpAny_specialOf hT hl ?_)
 have fin : acL (model prog w) A (subscripted slice false o i) (λr s₃=>acL (model prog w) A (letTemporaryGo value o r >>= λ_=>pure r) Q E s₃) E s₂ := by
  rw[hs o i]
  exact wpAny_operating (acP h₂ (λr s₃ h₃=>acM (wpAny_letTemporaryGo (acR h₃))) λ_ _ x=>x)
 first
  | exact acR (acM fin)
  | exact acM (acR (acM fin))
  | exact acM fin
def Q7(td ty tv : TE) : TS := λD σ H=>tv σ H λv H1=>td σ H1 λx H2=>ty σ H2 λy H3=>∃a H4, x= .ref a/\u_ H3 a y v H4/\D.nx σ H4
section
variable {X : Cx} {o i e value : Expr} {pos pos' tpos : Pos} {td ty tv : TE}
theorem IL(hu : X.A.units+1 < cLine)(ho : PE X o td)(hi : PE X i ty)(hv : PE X value tv)(hs : swapsWith value (some (.Subscript o i pos')) pos.line X.env=pure false) :
  PS X (.Assign [.Subscript o i pos'] value pos) (Q7 td ty tv) := by
 intro pins s σ H D I h
 refine wpAny_Assign_Subscript (bJ (hv pins s σ H _ I h) λr s1 ⟨v, H1, I1, rv, q1⟩=>bJ (ho pins s1 σ H1 _ I1 q1) λu s2 ⟨x, H2, I2, rx, q2⟩=>bJ (hi pins s2 σ H2 _ I2 q2) λiv s3 ⟨y, H3, I3, ry, a, H4, ex, g, q3⟩=>?_) hs
 subst ex
 obtain rfl : u=aE a := rx
 exact Cb hu I3 g ry rv λs4 I4=>⟨σ, H4, I4, q3⟩
end
theorem D7{P : acw}{w : acz}{H : Hp}(h : Heap)(hb : sysModules < h.objs.size) : dm P w H (h.push { cls := .type "dict", data := .dict #[] }) h.objs.size (.dT []) :=
 ⟨bY _, beq_eq_false_iff_ne.mpr (bZ (bu hb)), [], .nil, _, #[], 0, bz _ rfl, ⟨rfl, rfl, rfl⟩, rfl, rfl, qc⟩
def MK : TE := λ_ H Q=>∀p, H p=none->Q (.ref p) (upd H p (.dT []))
section
variable {X : Cx} {pos : Pos}
theorem D8 : PE X (.Dict [] [] pos) MK := λpins s σ H Q I h=>
 wpAny_Dict_empty ⟨.ref s.heap.objs.size, _, I.laid (a := s.heap.objs.size) (o := .dT []) (t' := s.toks) (λ_ _ q=>aL _ q) (au _) (D7 s.heap I.big), rfl, h _ (I.hok.fresh (au _))⟩
end
structure M2(X : Cx)(o : Expr)(m : Str)(apos : Pos)(e f : Expr)(cpos : Pos) : Prop where
 base : attributeBase o m X.env (eval o X.env)=eval o X.env
 few : ((backTo cpos (acK [e, f] X.env)).all (λx=> !x.1)&&(backToKw cpos (keywordEach [] X.env)).all (λx=>x.1.isSome)
  &&decide (([e, f] : List Expr).length+([] : List Keyword).length+(if([] : List Keyword).isEmpty then 0 else 1) < 30))=true
 line : (apos.endLine == cpos.line)=true
 trees : backTo cpos (acK [e, f] X.env)=[(false, eval e X.env), (false, eval f X.env)]
def UY(H : Hp)(a : acr) : Prop := (∃kvs, Rd H a (.dK kvs))\/∃kvs, Rd H a (.dT kvs)
theorem y9{X : Cx}{pins : List (acr×Obj)}{σ : St}{H : Hp}{s : acx}{a : acr}(I : Inv X pins σ H s)(d : UY H a) :
  s.TypeIs (.ref a) "dict"/\(∀b, aE a= .ref b->∃ob, s.heap.get? b=some ob/\ob.dict=none)/\(a == sysModules)=false := by
 rcases d with ⟨kvs, e⟩ | ⟨kvs, e⟩
 ·obtain⟨_, hd, vs, _, dd⟩ := K4 I.hok e
  refine⟨dd.typeIs, λb q=>?_, hd⟩
  cases q
  obtain⟨ob, _, _, h1, h2, _⟩ := dd
  exact⟨ob, h1, h2.2.1⟩
 ·obtain⟨_, hd, xs, _, dd⟩ := AQ I.hok e
  refine⟨dd.typeIs, λb q=>?_, hd⟩
  cases q
  obtain⟨ob, _, _, h1, h2, _⟩ := dd
  exact⟨ob, h1, h2.2.1⟩
section
variable {X : Cx} {pins : List (acr×Obj)} {σ : St} {H : Hp} {s : acx} {a : acr} {y d : V} {u r : acy} {o : Option V} {A : acs} {E : acy->acx->Prop}
end
section
variable {X : Cx} {o e f : Expr} {apos cpos : Pos} {td ty tx : TE}
end
section
variable {X : Cx} {pins : List (acr×Obj)} {σ : St} {H : Hp} {s : acx} {a : acr} {kvs : List (Key×V)} {A : acs} {E : acy->acx->Prop}
end
section
variable {X : Cx} {pins : List (acr×Obj)} {σ : St} {H : Hp} {s : acx} {a : acr} {y : V} {u : acy} {A : acs} {E : acy->acx->Prop}
end
end L2
namespace Att
open PySem PySem.W PySem.Calls PyProof.Rows
end Att
namespace L2
open PySem PySem.Spec PyProof.Rows
section
variable {X : Cx}
end
section
variable {κ : Type} [DecidableEq κ]
theorem tR{p : κ×V}{r : List (κ×V)}{k : κ}(e : p.1=k) : kq (p::r) k=kq r k := by
 unfold kq
 rw[hI, if_neg (by simp[e])]
theorem tS{p : κ×V}{r : List (κ×V)}{k : κ}(e : ¬p.1=k) : kq (p::r) k=p::kq r k := by
 unfold kq
 rw[hI, if_pos (by simp[e])]
end
end L2
set_option maxHeartbeats 4000000
namespace J
open PySem PySem.Spec PyProof.Rows L2
def Tu(h base:Heap)(e:acr)(cls a0 fl:acy):Prop :=
 ∃ox us T ot ws,h.get? e=some ox/\(ox.cls=cls/\us[2]? =some bp)/\ox.data= .fields us/\us[1]? =some (.ref T)/\base.get? T=none/\T≠e/\h.get? T=some ot/\ot.data= .fields ws/\ws[3]? =some fl
abbrev IM(base:Heap)(l:List Env)(e:acr)(cls a0 fl:acy)(h:Heap):Prop:=base.StaysIn h/\base.get? e=none/\h.FunFrames base l/\Tu h base e cls a0 fl
def D9(base:Heap)(l:List Env)(e:acr)(cls a0:acy)(L:acr)(h:Heap):Prop:=IM base l e cls a0 (rawInt L) h
def va(base:Heap)(l:List Env)(e:acr)(cls a0:acy)(h:Heap):Prop:=IM base l e cls a0 .none h
theorem va.first{base h:Heap}{l:List Env}{e:acr}{cls a0:acy}(x:va base l e cls a0 h):∃ox us,h.get? e=some ox/\ox.cls=cls/\ox.data= .fields us/\us[2]? =some bp :=
 let ⟨_,_,_,ox,us,_,_,_,g1,g2,g3,_⟩:=x;⟨ox,us,g1,g2.1,g3,g2.2⟩
section
variable {M:Model} {A:acs} {E:acy->acx->Prop} {s:acx} {base:Heap} {env:Env} {outer l:List Env} {L e:acr} {cls a0 nt:acy} {Q:Unit->acx->Prop}
theorem y_{h h1:Heap}{S:List acr}{ox ob:Obj}{us ws:Array acy}(so:Heap.SlotsOnly S h h1)(hS:S=l.filterMap (·.frame))(fs:h.FunFrames base l)(g1:h.get? e=some ox)(g3:ox.data= .fields us)(st:base.StaysIn h)(ne:base.get? e=none)(sz:1 < us.size)(g2:us[2]? =some bp)
  (d:ob.data= .fields ws)(w3:ws[3]? =some nt)(nf:ob.isFreed=false) :
  IM base l e ox.cls a0 nt ((h1.push ob).update e (jQ (·.setIfInBounds 1 (.ref h1.objs.size))))/\h.UpToSlots ((h1.push ob).update e (jQ (·.setIfInBounds 1 (.ref h1.objs.size)))):=by
 have nS:e∉S:=λz=>by
  rw[hS] at z
  obtain⟨_,o2,q2,d2⟩:=fs.mem z
  rw[g1] at q2
  cases q2
  exact d2 us g3
 have q1:h1.get? e=some ox:=(so.2.1 e nS).trans g1
 have lt:e≠h1.objs.size:=bu (aC q1)
 have Yo:∀b o,b≠e->h1.get? b=some o->((h1.push ob).update e (jQ (·.setIfInBounds 1 (.ref h1.objs.size)))).get? b=some o:=λb o n q=>(oM _ _ (bZ n)).trans (aL _ q)
 have up:h.UpToSlots ((h1.push ob).update e (jQ (·.setIfInBounds 1 (.ref h1.objs.size)))):=λb o q n=>by
  obtain⟨sl,q2⟩:=so.2.2 b o q
  exact⟨sl,Yo b _ (λz=>by rw[z,g1] at q;cases q;exact n us g3) q2⟩
 have stay:base.StaysIn h1:=λb o q=>(so.2.1 b λz=>by
  rw[hS] at z
  rw[(fs.mem z).1] at q
  cases q).trans (st b o q)
 have fresh:base.get? h1.objs.size=none:=by
  cases z:base.get? h1.objs.size with
  | none=>rfl
  | some o=>exact absurd (aC (stay _ _ z)) (cX _)
 have d1:=qd g3 (·.setIfInBounds 1 (aE h1.objs.size))
 refine⟨⟨λb o q=>Yo b o (λz=>by rw[z,ne] at q;cases q) (stay b o q),ne,fs.of_keeps λb o q n=>?_,_,_,h1.objs.size,ob,ws,oK _ (aL _ q1) (AR d1),⟨Obj.cls_mapFields _ _,?_⟩,d1,by simp[sz],fresh,bZ lt,?_,d,w3⟩,up⟩
 ·obtain⟨sl,q2⟩:=up b o q n
  exact⟨_,q2,rfl⟩
 ·rw[Array.getElem?_setIfInBounds_ne (by decide)];exact g2
 ·exact(oM _ _ lt).trans (bz _ nf)
theorem D_{ox:Obj}{us:Array acy}{head:acy}{had:Bool}(hfr:A.frames=some (env::outer))(fs:s.heap.FunFrames base (env::outer))(hf:env.frame=some L)(g1:s.heap.get? e=some ox)(st:base.StaysIn s.heap)(ne:base.get? e=none)(g3:ox.data= .fields us)(sz:1 < us.size)(g2:us[2]? =some bp)
  (k:∀h',D9 base (env::outer) e ox.cls a0 L h'->s.heap.UpToSlots h'->Q () { s with heap:=h' }) :
  acL M A (do let a <-frameOf env;let pl <-entryPlaceOf L had;let b <-ML head a .none (rawInt L) .none pl;setField (.ref e) 1 b) Q E s:=by
 refine acM (wpAny_frameOf_fun hfr fs hf λh1 so=>acM (wpAny_entryPlaceOf λpl pp=>?_))
 have nS:e∉(env::outer).filterMap (·.frame):=λz=>by
  obtain⟨_,o2,q2,d2⟩:=fs.mem z
  rw[g1] at q2
  cases q2
  exact d2 us g3
 have q1:h1.get? e=some ox:=(so.2.1 e nS).trans g1
 simp only[ML,newFields]
 refine acM (acQ (wpAny_setField (aL _ q1) g3 sz ?_) (pp.sizeOk5 _ _ _ _ _))
 obtain⟨m,up⟩:=y_ (a0:=a0) (nt:=rawInt L) so rfl fs g1 g3 st ne sz g2 (ob:={ cls:=.type "traceback",dict:=none,data:=.fields ([head,.ref L,.none,rawInt L,.none]++(if pl.isEmpty then ar 6 bp else pl)).toArray }) rfl (by first | (simp;done) | (rcases pp with rfl | ⟨_,_,_,_,_,_,_,rfl⟩<;>simp)) rfl
 exact k _ m up
theorem MM(hf:env.frame=some L)(x:Tu s.heap base e cls a0 (rawInt L))(k:Q () s):acL M A (noteFrame (.ref e) env) Q E s:=by
 obtain⟨ox,us,T,ot,ws,g1,g2,g3,g4,g5,g6,g7,g8,g9⟩:=x
 unfold noteFrame
 simp only[hf]
 refine acM (wpAny_field g1 g3 g4 ?_)
 rw[if_pos (by simp)]
 refine acM (wpAny_field g7 g8 g9 ?_)
 rw[if_pos (by simp)]
 exact acR k
theorem wU(x:IM base l e cls a0 nt s.heap)(k:∀h',va base l e cls a0 h'->s.heap.UpToSlots h'->Q () { s with heap:=h' }):acL M A (setFlight (.ref e) none) Q E s:=by
 obtain⟨x1,x2,x3,ox,us,T,ot,ws,g1,g2,g3,g4,g5,g6,g7,g8,g9⟩:=x
 have sz:3 < ws.size:=(Array.getElem?_eq_some_iff.mp g9).1
 unfold setFlight
 refine acM (wpAny_field g1 g3 g4 ?_)
 rw[if_pos (by simp)]
 refine wpAny_setField g7 g8 sz ?_
 generalize hu:s.heap.update T _=h'
 have ap:∀b,b≠T->h'.get? b=s.heap.get? b:=λb n=>by rw[<-hu];exact oM _ _ (bZ n)
 have pl:∀b o,s.heap.get? b=some o->(∀vs,o.data≠.fields vs)->h'.get? b=some o:=λb o q n=>(ap b λz=>by rw[z,g7] at q;cases q;exact n ws g8).trans q
 refine k h' ⟨λb o q=>(ap b λz=>by rw[z,g5] at q;cases q).trans (x1 b o q),x2,x3.of_keeps λb o q n=>⟨o,pl b o q n,rfl⟩,ox,us,T,jQ (·.setIfInBounds 3 .none) ot,ws.setIfInBounds 3 .none,(ap e (bZ g6)).trans g1,g2,g3,g4,g5,g6,?_,qd g8 _,?_⟩ λb o q n=>⟨o.slots,pl b o q n⟩
 ·rw[<-hu];exact oK _ g7 (AR (qd g8 _))
 ·simp[sz]
end
structure Lm where
 a:acr
 c:acr
 q:PySem.Str
 xs:List V
inductive Wv where
 | aI
 | bl (b:Bool)
 | int (i:Int)
 | str (x:PySem.Str)
 | tup (ws:List Wv)
 | qN (ws:List Wv)
 | ref (l:Nat)
 | ty (n:String)
 | cls (c:PySem.Str)
 | mK (c:PySem.Str)
 | fn (p:Lm) (ws:List Wv)
inductive Ob where
 | lst (ws:List Wv)
 | sv (ns:List Int)
 | dct (kvs:List (L2.Key×Wv))
 | bX (kvs:List (List L2.Key×Wv))
 | nL (kvs:List (List L2.Key×Wv))
 | Cc (kvs:List (L2.Key×Wv))
 | Ds (kvs:List (NK.KD×Wv))
abbrev Hs:=List Ob
abbrev St:=L2.St
abbrev b9:=List (Option Wv)
abbrev Mp:=List acr
def kR(a C:acr):Heap->Prop:=λh=>∃o,h.get? a=some o/\o.cls= .ref C/\∃vs,o.data= .fields vs
def Tv(a C:acr)(u:Option HO):Prop:=∃o vs,u=some (.eL o (.ext (kR a C)))/\o.data= .fields vs/\vs[2]? =some bp
theorem K6{P:acw}{w:acz}{H:Hp}{h:Heap}{a C:acr}(ok:ko P w H h)(x:Tv a C (H a)):kR a C h:=let ⟨_,_,e,_⟩:=x;(ok a _ e).2.1
def ClsAt(K:PySem.W.Frag)(c:PySem.Str)(C:acr):Prop:=PySem.W.nsIn K acI c=some (some (.ref C))
def Ea(c:acr)(q:PySem.Str):Heap->Prop:=λh=>h.CodeRec (.ref c) q
def du:List PySem.Str:=["form_of","formula_by","turned","readied_content","ordered"]
def jR(K:PySem.W.Frag)(q:PySem.Str):Option acr:=match PySem.W.tabIn K q with
 | some (_,P)=>if(K.lookup P).isNone=true then some P else none
 | none=>none
def UZ(q:PySem.Str):PySem.Str:=(q++".<locals>.")++"<lambda>"
def vb(K:PySem.W.Frag)(H:Hp):Prop:=∀q P,q∈du->jR K q=some P->∃ps,H P=some (.jf ps)/\TriplesOk ps.toList/\∀pos cv,codeAmong pos ps.toList=some cv->∃c,cv= .ref c/\H c=some (.ext (Ea c (UZ q)))
theorem vb.keep{K:PySem.W.Frag}{H H':Hp}(t:vb K H)(h1:∀a ps,H a=some (.jf ps)->H' a=some (.jf ps))(h2:∀a φ,H a=some (.ext φ)->H' a=some (.ext φ)):vb K H':=λq P hq hP=>by
 obtain⟨ps,e1,e2,e3⟩:=t q P hq hP
 refine⟨ps,h1 _ _ e1,e2,λpos cv e=>?_⟩
 obtain⟨c,f1,f2⟩:=e3 pos cv e
 exact⟨c,f1,h2 _ _ f2⟩
def U0(K:PySem.W.Frag)(a:acr)(xs:List V):Prop:=∃(o:Obj)(its:Array acy)(n:Nat),K.lookup a=some o/\o.cls= .type "tuple"/\o.data= .seq its n/\its.size<=acJ/\Vals xs its.toList
mutual
def aj(K:PySem.W.Frag)(m:Mp)(H:Hp):Wv->V->Prop
 | .aI,v=>v= .aI
 | .bl b,v=>v= .bl b
 | .int i,v=>v= .int i
 | .str x,v=>v= .str x/\aZ x=true
 | .tup ws,v=>∃a xs,v= .ref a/\H a=some (.tup xs)/\ai K m H ws xs
 | .qN ws,v=>∃a xs,v= .ref a/\U0 K a xs/\ai K m H ws xs
 | .ref l,v=>∃a,v= .ref a/\m[l]? =some a
 | .ty n,v=>v= .ty n
 | .cls c,v=>∃C,v= .ref C/\ClsAt K c C
 | .mK c,v=>∃a C,v= .ref a/\ClsAt K c C/\Tv a C (H a)
 | .fn p ws,v=>v= .ref p.a/\H p.c=some (.ext (Ea p.c p.q))/\ai K m H ws p.xs
def ai(K:PySem.W.Frag)(m:Mp)(H:Hp):List Wv->List V->Prop
 | [],xs=>xs=[]
 | w::ws,xs=>∃x r,xs=x::r/\aj K m H w x/\ai K m H ws r
end
structure Ext(K:PySem.W.Frag)(m:Mp)(H:Hp)(m':Mp)(H':Hp):Prop where
 pre:∀(l:Nat)(a:acr),m[l]? =some a->m'[l]? =some a
 tup:∀(a:acr)(xs:List V),H a=some (.tup xs)->H' a=some (.tup xs)
 ext:∀(a:acr)(φ:Heap->Prop),H a=some (.ext φ)->H' a=some (.ext φ)
 eL:∀(a:acr)(o:Obj)(u:HO),H a=some (.eL o u)->H' a=some (.eL o u)
section
variable {K:PySem.W.Frag} {m m1 m2:Mp} {H H1 H2:Hp}
theorem Ext.refl:Ext K m H m H:=⟨λ_ _ h=>h,λ_ _ h=>h,λ_ _ h=>h,λ_ _ _ h=>h⟩
theorem Ext.trans(a:Ext K m H m1 H1)(b:Ext K m1 H1 m2 H2):Ext K m H m2 H2 :=
 ⟨λl x h=>b.pre l x (a.pre l x h),λx xs h=>b.tup x xs (a.tup x xs h),λx φ h=>b.ext x φ (a.ext x φ h),λx o u h=>b.eL x o u (a.eL x o u h)⟩
structure wV(K:PySem.W.Frag)(m:Mp)(H:Hp)(m':Mp)(H':Hp):Prop where
 pre:∀(l:Nat)(a:acr),m[l]? =some a->m'[l]? =some a
 tup:∀(a:acr)(xs:List V),H a=some (.tup xs)->H' a=some (.tup xs)
 ext:∀(a:acr)(φ:Heap->Prop),H a=some (.ext φ)->H' a=some (.ext φ)
 fx:∀(a:acr)(o:Obj)(φ:Heap->Prop),H a=some (.eL o (.ext φ))->H' a=some (.eL o (.ext φ))
theorem Ext.z(e:Ext K m H m1 H1):wV K m H m1 H1:=⟨e.pre,e.tup,e.ext,λa o φ h=>e.eL a o _ h⟩
mutual
theorem aj.fc(e:wV K m H m1 H1):∀(w:Wv)(v:V),aj K m H w v->aj K m1 H1 w v
 | .aI,v,h=>by unfold aj at h ⊢;exact h
 | .bl b,v,h=>by unfold aj at h ⊢;exact h
 | .int i,v,h=>by unfold aj at h ⊢;exact h
 | .str x,v,h=>by unfold aj at h ⊢;exact h
 | .ty n,v,h=>by unfold aj at h ⊢;exact h
 | .cls c,v,h=>by unfold aj at h ⊢;exact h
 | .mK c,v,h=>by
  unfold aj at h ⊢
  obtain⟨a,C,e1,e2,o,vs,e3,e4⟩:=h
  exact⟨a,C,e1,e2,o,vs,e.fx _ _ _ e3,e4⟩
 | .ref l,v,h=>by
  unfold aj at h ⊢
  obtain⟨a,e1,e2⟩:=h
  exact⟨a,e1,e.pre _ _ e2⟩
 | .tup ws,v,h=>by
  unfold aj at h ⊢
  obtain⟨a,xs,e1,e2,e3⟩:=h
  exact⟨a,xs,e1,e.tup _ _ e2,ai.fc e ws xs e3⟩
 | .qN ws,v,h=>by
  unfold aj at h ⊢
  obtain⟨a,xs,e1,e2,e3⟩:=h
  exact⟨a,xs,e1,e2,ai.fc e ws xs e3⟩
 | .fn p ws,v,h=>by
  unfold aj at h ⊢
  obtain⟨e1,e2,e3⟩:=h
  exact⟨e1,e.ext _ _ e2,ai.fc e ws p.xs e3⟩
theorem ai.fc(e:wV K m H m1 H1):∀(ws:List Wv)(xs:List V),ai K m H ws xs->ai K m1 H1 ws xs
 | [],xs,h=>by unfold ai at h ⊢;exact h
 | w::ws,xs,h=>by
  unfold ai at h ⊢
  obtain⟨x,r,e1,e2,e3⟩:=h
  exact⟨x,r,e1,aj.fc e w x e2,ai.fc e ws r e3⟩
end
theorem aj.mono(e:Ext K m H m1 H1)(w:Wv)(v:V)(h:aj K m H w v):aj K m1 H1 w v:=aj.fc e.z w v h
theorem ai.mono(e:Ext K m H m1 H1)(ws:List Wv)(xs:List V)(h:ai K m H ws xs):ai K m1 H1 ws xs:=ai.fc e.z ws xs h
theorem ai.nil:ai K m H [] []:=by unfold ai;rfl
theorem ai.cons{w:Wv}{x:V}{ws:List Wv}{xs:List V}(h:aj K m H w x)(t:ai K m H ws xs):ai K m H (w::ws) (x::xs):=by unfold ai;exact⟨x,xs,rfl,h,t⟩
theorem ai.length:∀{ws:List Wv}{xs:List V},ai K m H ws xs->ws.length=xs.length
 | [],xs,h=>by unfold ai at h;subst h;rfl
 | w::ws,xs,h=>by
  unfold ai at h
  obtain⟨x,r,e1,_,e3⟩:=h
  subst e1
  simp[ai.length e3]
theorem ai.get:∀{ws:List Wv}{xs:List V}{i:Nat}{w:Wv},ai K m H ws xs->ws[i]? =some w->∃x,xs[i]? =some x/\aj K m H w x
 | [],_,i,w,_,e=>by simp at e
 | a::ws,xs,0,w,h,e=>by
  unfold ai at h
  obtain⟨x,r,e1,e2,_⟩:=h
  subst e1
  simp at e
  subst e
  exact⟨x,rfl,e2⟩
 | a::ws,xs,i+1,w,h,e=>by
  unfold ai at h
  obtain⟨x,r,e1,_,e3⟩:=h
  subst e1
  obtain⟨y,f1,f2⟩:=ai.get (i:=i) (w:=w) e3 (by simpa using e)
  exact⟨y,by simpa using f1,f2⟩
theorem ai.append:∀{ws zs:List Wv}{xs ys:List V},ai K m H ws xs->ai K m H zs ys->ai K m H (ws++zs) (xs++ys)
 | [],_,xs,_,h,g=>by unfold ai at h;subst h;exact g
 | w::ws,zs,xs,ys,h,g=>by
  unfold ai at h
  obtain⟨x,r,e1,e2,e3⟩:=h
  subst e1
  exact ai.cons e2 (ai.append e3 g)
theorem ai.set:∀{ws:List Wv}{xs:List V}(i:Nat){w:Wv}{x:V},ai K m H ws xs->aj K m H w x->ai K m H (ws.set i w) (xs.set i x)
 | [],xs,i,w,x,h,_=>by unfold ai at h;subst h;exact ai.nil
 | a::ws,xs,0,w,x,h,g=>by
  unfold ai at h
  obtain⟨y,r,e1,e2,e3⟩:=h
  subst e1
  exact ai.cons g e3
 | a::ws,xs,i+1,w,x,h,g=>by
  unfold ai at h
  obtain⟨y,r,e1,e2,e3⟩:=h
  subst e1
  exact ai.cons e2 (ai.set i e3 g)
theorem ai.drop:∀{ws:List Wv}{xs:List V}(i:Nat),ai K m H ws xs->ai K m H (ws.drop i) (xs.drop i)
 | ws,xs,0,h=>by simpa using h
 | [],xs,i+1,h=>by unfold ai at h;subst h;simpa using ai.nil
 | a::ws,xs,i+1,h=>by
  unfold ai at h
  obtain⟨y,r,e1,e2,e3⟩:=h
  subst e1
  simpa using ai.drop i e3
theorem ai.take:∀{ws:List Wv}{xs:List V}(i:Nat),ai K m H ws xs->ai K m H (ws.take i) (xs.take i)
 | ws,xs,0,h=>by simpa using ai.nil
 | [],xs,i+1,h=>by unfold ai at h;subst h;simpa using ai.nil
 | a::ws,xs,i+1,h=>by
  unfold ai at h
  obtain⟨y,r,e1,e2,e3⟩:=h
  subst e1
  simpa using ai.cons e2 (ai.take i e3)
theorem ai.ints:∀(ns:List Int),ai K m H (ns.map Wv.int) (ns.map V.int)
 | []=>ai.nil
 | n::ns=>ai.cons (by unfold aj;rfl) (ai.ints ns)
end
def wW(K:PySem.W.Frag)(H:Hp)(a:acr)(ns:List Int):Prop :=
 (∃o,H a=some (.eL o (.lst (ns.map V.int))))\/
  ∃(o:Obj)(its:Array acy)(n:Nat),K.lookup a=some o/\o.cls= .type "list"/\o.dict=none/\o.data= .seq its n/\its.size<=acJ/\Vals (ns.map V.int) its.toList
def RelK{κ:Type}(K:PySem.W.Frag)(m:Mp)(H:Hp)(kvs:List (κ×Wv))(xs:List (κ×V)):Prop:=kvs.map (·.1)=xs.map (·.1)/\ai K m H (kvs.map (·.2)) (xs.map (·.2))
def sD(K:PySem.W.Frag)(m:Mp)(H:Hp)(a:acr):Ob->Prop
 | .lst ws=>∃xs,H a=some (.lst xs)/\ai K m H ws xs
 | .sv ns=>wW K H a ns
 | .dct kvs=>∃xs,H a=some (.dK xs)/\RelK K m H kvs xs
 | .bX kvs=>∃xs,H a=some (.dT xs)/\RelK K m H kvs xs
 | .nL kvs=>∃o xs,H a=some (.eL o (.dT xs))/\RelK K m H kvs xs
 | .Cc kvs=>∃o xs,H a=some (.eL o (.dK xs))/\RelK K m H kvs xs
 | .Ds kvs=>∃xs,H a=some (.dN xs)/\RelK K m H kvs xs
def Ob.mu:Ob->Bool
 | .sv _=>false
 | _=>true
def Ob.wm:Ob->Bool
 | .sv _=>false
 | .nL _=>false
 | .Cc _=>false
 | _=>true
theorem Ob.Q8{o:Ob}(h:o.wm=true):o.mu=true:=by cases o<;>first | rfl | cases h
structure bG(K:PySem.W.Frag)(m:Mp)(st:Hs)(H:Hp):Prop where
 len:m.length=st.length
 obj:∀(l:Nat)(a:acr)(o:Ob),m[l]? =some a->st[l]? =some o->sD K m H a o
 inj:∀(l l':Nat)(a:acr)(o o':Ob),m[l]? =some a->m[l']? =some a->st[l]? =some o->st[l']? =some o'->o.mu=true->o'.mu=true->l=l'
 tab:vb K H
def ao(st:Hs)(l:Nat):Option (List Wv):=match st[l]? with
 | some (.lst ws)=>some ws
 | some (.sv ns)=>some (ns.map Wv.int)
 | _=>none
section
variable {K:PySem.W.Frag} {m:Mp} {H:Hp} {st:Hs}
def Wr(u:Option HO):Prop:=u=none\/(∃ys,u=some (.lst ys))\/(∃ys,u=some (.dK ys))\/(∃ys,u=some (.dT ys))\/∃ys,u=some (.dN ys)
theorem Wr.ne{p a:acr}{u:HO}(hp:Wr (H p))(e:H a=some u)(n1:∀ys,u≠.lst ys)(n2:∀ys,u≠.dK ys)(n3:∀ys,u≠.dT ys)(n4:∀ys,u≠.dN ys):a≠p:=λz=>by
 subst z
 rcases hp with q | ⟨ys,q⟩ | ⟨ys,q⟩ | ⟨ys,q⟩ | ⟨ys,q⟩
 ·rw[q] at e;cases e
 ·rw[q] at e;cases e;exact n1 ys rfl
 ·rw[q] at e;cases e;exact n2 ys rfl
 ·rw[q] at e;cases e;exact n3 ys rfl
 ·rw[q] at e;cases e;exact n4 ys rfl
theorem Eb{p a:acr}{o:HO}{xs:List V}(hp:Wr (H p))(h:H a=some (.tup xs)):upd H p o a=some (.tup xs):=by
 rw[av (hp.ne h nofun nofun nofun nofun)];exact h
theorem Ec{p a:acr}{o:HO}{ns:List Int}(hp:Wr (H p))(h:wW K H a ns):wW K (upd H p o) a ns:=by
 rcases h with ⟨o',h⟩ | h
 ·exact .inl ⟨o',by rw[av (hp.ne h nofun nofun nofun nofun)];exact h⟩
 ·exact .inr h
theorem Wr.of{u:Option HO}(h:u=none\/∃ys,u=some (.lst ys)):Wr u:=by
 rcases h with q | q
 ·exact .inl q
 ·exact .inr (.inl q)
theorem Ext.jw{p:acr}{o:HO}(hp:Wr (H p)):Ext K m H m (upd H p o):=⟨λ_ _ h=>h,λ_ _ h=>Eb hp h,λa φ h=>by
 rw[av (hp.ne h nofun nofun nofun nofun)]
 exact h,λa o u h=>by
 rw[av (hp.ne h nofun nofun nofun nofun)]
 exact h⟩
theorem Ext.upd{p:acr}{o:HO}(hp:H p=none\/∃ys,H p=some (.lst ys)):Ext K m H m (upd H p o):=Ext.jw (Wr.of hp)
theorem RelK.mono{κ:Type}{m1:Mp}{H1:Hp}{kvs:List (κ×Wv)}{xs:List (κ×V)}(e:Ext K m H m1 H1)(h:RelK K m H kvs xs):RelK K m1 H1 kvs xs:=⟨h.1,ai.mono e _ _ h.2⟩
theorem sD.keep{m1:Mp}{b p:acr}{u:HO}{o:Ob}(ex:Ext K m H m1 (L2.upd H p u))(hp:Wr (H p))(hb:o.mu=true->b≠p)(h:sD K m H b o):sD K m1 (L2.upd H p u) b o:=by
 cases o with
 | lst ws=>
  obtain⟨xs,e1,e2⟩:=h
  exact⟨xs,by rw[av (hb rfl)];exact e1,ai.mono ex _ _ e2⟩
 | dct kvs=>
  obtain⟨xs,e1,e2⟩:=h
  exact⟨xs,by rw[av (hb rfl)];exact e1,e2.mono ex⟩
 | bX kvs=>
  obtain⟨xs,e1,e2⟩:=h
  exact⟨xs,by rw[av (hb rfl)];exact e1,e2.mono ex⟩
 | nL kvs=>
  obtain⟨o,xs,e1,e2⟩:=h
  exact⟨o,xs,by rw[av (hb rfl)];exact e1,e2.mono ex⟩
 | Cc kvs=>
  obtain⟨o,xs,e1,e2⟩:=h
  exact⟨o,xs,by rw[av (hb rfl)];exact e1,e2.mono ex⟩
 | Ds kvs=>
  obtain⟨xs,e1,e2⟩:=h
  exact⟨xs,by rw[av (hb rfl)];exact e1,e2.mono ex⟩
 | sv ns=>exact Ec hp h
theorem sD.at{b:acr}{o:Ob}(h:sD K m H b o)(hm:o.mu=true):∃u,H b=some u:=by
 cases o with
 | lst ws=>obtain⟨xs,e1,e2⟩:=h;exact⟨_,e1⟩
 | dct kvs=>obtain⟨xs,e1,e2⟩:=h;exact⟨_,e1⟩
 | bX kvs=>obtain⟨xs,e1,e2⟩:=h;exact⟨_,e1⟩
 | nL kvs=>obtain⟨o,xs,e1,e2⟩:=h;exact⟨_,e1⟩
 | Cc kvs=>obtain⟨o,xs,e1,e2⟩:=h;exact⟨_,e1⟩
 | Ds kvs=>obtain⟨xs,e1,e2⟩:=h;exact⟨_,e1⟩
 | sv ns=>simp[Ob.mu] at hm
theorem sD.wr{b:acr}{o:Ob}(h:sD K m H b o)(hm:o.wm=true):Wr (H b):=by
 cases o with
 | lst ws=>obtain⟨xs,e1,e2⟩:=h;exact .inr (.inl ⟨_,e1⟩)
 | dct kvs=>obtain⟨xs,e1,e2⟩:=h;exact .inr (.inr (.inl ⟨_,e1⟩))
 | bX kvs=>obtain⟨xs,e1,e2⟩:=h;exact .inr (.inr (.inr (.inl ⟨_,e1⟩)))
 | Ds kvs=>obtain⟨xs,e1,e2⟩:=h;exact .inr (.inr (.inr (.inr ⟨_,e1⟩)))
 | nL kvs=>cases hm
 | Cc kvs=>cases hm
 | sv ns=>cases hm
theorem vb.jw{p:acr}{o:HO}(t:vb K H)(hp:Wr (H p)):vb K (L2.upd H p o):=t.keep
 (λa ps h=>by rw[av (hp.ne h nofun nofun nofun nofun)];exact h)
 λa φ h=>by rw[av (hp.ne h nofun nofun nofun nofun)];exact h
theorem Ext.more{p:acr}:Ext K m H (m++[p]) H:=⟨λl a h=>by
 rw[fX]
 ·exact h
 ·exact(List.getElem?_eq_some_iff.mp h).1,λ_ _ h=>h,λ_ _ h=>h,λ_ _ _ h=>h⟩
theorem bG.fresh{p:acr}{o:HO}(S:bG K m st H)(hp:H p=none):bG K m st (upd H p o) :=
 ⟨S.len,λl a ob h1 h2=>by
  have q:=S.obj l a ob h1 h2
  refine q.keep (Ext.jw (.inl hp)) (.inl hp) λhm=>?_
  obtain⟨u,e⟩:=q.at hm
  exact bC e hp,S.inj,S.tab.jw (.inl hp)⟩
theorem bG.nM{l:Nat}{a:acr}{ws:List Wv}(S:bG K m st H)(h1:m[l]? =some a)(h2:st[l]? =some (.lst ws)):∃xs,H a=some (.lst xs)/\ai K m H ws xs:=S.obj l a _ h1 h2
theorem bG.read{l:Nat}{a:acr}{ws:List Wv}(S:bG K m st H)(h1:m[l]? =some a)(h2:ao st l=some ws):∃xs,mj K H a xs/\ai K m H ws xs:=by
 unfold ao at h2
 cases e:st[l]? with
 | none=>rw[e] at h2;cases h2
 | some o=>
  rw[e] at h2
  cases o with
  | lst zs=>
   cases h2
   obtain⟨xs,e1,e2⟩:=S.nM h1 e
   exact⟨xs,mj.of e1,e2⟩
  | dct kvs=>cases h2
  | bX kvs=>cases h2
  | nL kvs=>cases h2
  | Cc kvs=>cases h2
  | Ds kvs=>cases h2
  | sv ns=>
   cases h2
   have q:wW K H a ns:=S.obj l a _ h1 e
   refine⟨ns.map V.int,?_,ai.ints ns⟩
   rcases q with ⟨o,q⟩ | q
   ·exact .inl (.inr ⟨o,q⟩)
   ·exact .inr q
theorem bG.vc{p:acr}{ob:Ob}{u:HO}(S:bG K m st H)(hp:H p=none)(r:sD K (m++[p]) (L2.upd H p u) p ob):bG K (m++[p]) (st++[ob]) (L2.upd H p u):=by
 have ex:Ext K m H (m++[p]) (L2.upd H p u):=Ext.more.trans (Ext.jw (.inl hp))
 have Ed:∀(l:Nat)(o:Ob),m[l]? =some p->st[l]? =some o->o.mu=true->False:=λl o h1 h2 hm=>by
  obtain⟨v,e⟩:=(S.obj l p o h1 h2).at hm
  rw[hp] at e;cases e
 have old:∀(l:Nat)(a:acr),(m++[p])[l]? =some a->(l < m.length/\m[l]? =some a)\/(l=m.length/\a=p):=λl a h=>by
  by_cases hl:l < m.length
  ·exact .inl ⟨hl,by rw[fX hl] at h;exact h⟩
  ·have h':=h
   rw[mI (by omega)] at h'
   have z:=List.getElem?_eq_some_iff.mp h'
   have z1:l - m.length < 1:=by simpa using z.1
   refine .inr ⟨by omega,?_⟩
   have e0:l - m.length=0:=by omega
   rw[e0] at h'
   simpa using h'.symm
 have olds:∀(l:Nat)(o:Ob),l < m.length->(st++[ob])[l]? =some o->st[l]? =some o:=λl o hl h=>by
  rw[fX (by rw[<-S.len];exact hl)] at h
  exact h
 refine⟨by simp[S.len],λl a o h1 h2=>?_,λl l' a zs zs' h1 Qf h2 h2' k k'=>?_,S.tab.jw (.inl hp)⟩
 ·rcases old l a h1 with ⟨hl,h1⟩ | ⟨hl,rfl⟩
  ·have q:=S.obj l a o h1 (olds l o hl h2)
   refine q.keep ex (.inl hp) λhm=>?_
   obtain⟨v,e⟩:=q.at hm
   exact bC e hp
  ·have e:o=ob:=by
    rw[hl,S.len,mI (au _),qe] at h2
    simpa using h2.symm
   subst e
   exact r
 ·rcases old l a h1 with ⟨hl,g1⟩ | ⟨hl,ea⟩
  ·rcases old l' a Qf with ⟨hl',K7⟩ | ⟨hl',ea'⟩
   ·exact S.inj l l' a zs zs' g1 K7 (olds l _ hl h2) (olds l' _ hl' h2') k k'
   ·rw[ea'] at g1
    exact(Ed l zs g1 (olds l _ hl h2) k).elim
  ·rcases old l' a Qf with ⟨hl',K7⟩ | ⟨hl',_⟩
   ·rw[ea] at K7
    exact(Ed l' zs' K7 (olds l' _ hl' h2') k').elim
   ·omega
theorem bG.alloc{p:acr}{ws:List Wv}{xs:List V}(S:bG K m st H)(hp:H p=none)(r:ai K m H ws xs):bG K (m++[p]) (st++[.lst ws]) (upd H p (.lst xs)) :=
 S.vc hp ⟨xs,aH,ai.mono (Ext.more.trans (Ext.jw (.inl hp))) _ _ r⟩
theorem bG.qO{l:Nat}{a:acr}{o0 ob:Ob}{u:HO}(S:bG K m st H)(h1:m[l]? =some a)(h2:st[l]? =some o0)(hw:o0.wm=true)(r:sD K m (L2.upd H a u) a ob):bG K m (st.set l ob) (L2.upd H a u):=by
 have wr:Wr (H a):=(S.obj l a o0 h1 h2).wr hw
 have hm:=Ob.Q8 hw
 have ex:Ext K m H m (L2.upd H a u):=Ext.jw wr
 have hl:l < st.length:=(List.getElem?_eq_some_iff.mp h2).1
 have at':∀(k:Nat)(o:Ob),(st.set l ob)[k]? =some o->(k=l/\o=ob)\/(k≠l/\st[k]? =some o):=λk o h=>by
  by_cases e:l=k
  ·subst e
   rw[iV hl] at h
   exact .inl ⟨rfl,(Option.some.inj h).symm⟩
  ·rw[cC e] at h
   exact .inr ⟨λz=>e z.symm,h⟩
 refine⟨by simp[S.len],λk b o g1 g2=>?_,λk k' b us us' g1 K7 g2 U1 q q'=>?_,S.tab.jw wr⟩
 ·rcases at' k o g2 with ⟨rfl,rfl⟩ | ⟨hk,g2⟩
  ·rw[h1] at g1;cases g1
   exact r
  ·have q:=S.obj k b o g1 g2
   refine q.keep ex wr λho z=>?_
   subst z
   exact hk (S.inj k l b o o0 g1 h1 g2 h2 ho hm)
 ·have back:∀(k:Nat)(o:Ob),(st.set l ob)[k]? =some o->o.mu=true->∃o',st[k]? =some o'/\o'.mu=true:=λk o h ho=>by
   rcases at' k _ h with ⟨rfl,_⟩ | ⟨_,h⟩
   ·exact⟨o0,h2,hm⟩
   ·exact⟨o,h,ho⟩
  obtain⟨u1,e1,f1⟩:=back k us g2 q
  obtain⟨u2,e2,f2⟩:=back k' us' U1 q'
  exact S.inj k k' b u1 u2 g1 K7 e1 e2 f1 f2
theorem bG.write{l:Nat}{a:acr}{ws zs:List Wv}{xs:List V}(S:bG K m st H)(h1:m[l]? =some a)(h2:st[l]? =some (.lst ws))(r:ai K m H zs xs):bG K m (st.set l (.lst zs)) (upd H a (.lst xs)) :=
 S.qO h1 h2 rfl ⟨xs,aH,ai.mono (Ext.jw ((S.obj l a _ h1 h2).wr rfl)) _ _ r⟩
end
structure aA(K:PySem.W.Frag)(m:Mp)(H:Hp)(ρ:b9)(σ:St):Prop where
 len:ρ.length=σ.length
 get:∀(i:Nat)(w:Wv),ρ[i]? =some (some w)->∃v,σ[i]? =some (some v)/\aj K m H w v
section
variable {K:PySem.W.Frag} {m m1:Mp} {H H1:Hp} {ρ:b9} {σ:St}
theorem aA.mono(R:aA K m H ρ σ)(e:Ext K m H m1 H1):aA K m1 H1 ρ σ:=⟨R.len,λi w h=>let ⟨v,h1,h2⟩:=R.get i w h;⟨v,h1,aj.mono e _ _ h2⟩⟩
theorem aA.set(R:aA K m H ρ σ)(i:Nat){w:Wv}{v:V}(h:aj K m H w v):aA K m H (ρ.set i (some w)) (σ.set i (some v)):=by
 refine⟨by simp[R.len],λj u e=>?_⟩
 by_cases hj:i=j
 ·subst hj
  have hi:i < ρ.length:=by
   have:=(List.getElem?_eq_some_iff.mp e).1
   simpa using this
  rw[iV hi] at e
  have e':w=u:=Option.some.inj (Option.some.inj e)
  subst e'
  exact⟨v,by rw[iV (by rw[<-R.len];exact hi)],h⟩
 ·rw[cC hj] at e
  obtain⟨x,h1,h2⟩:=R.get j u e
  exact⟨x,by rw[cC hj];exact h1,h2⟩
end
inductive Re(α:Type) where
 | ok (a:α) (st:Hs)
 | err (c:PySem.Str) (st:Hs)
 | bad
def Re.bind{α β:Type}(r:Re α)(f:α->Hs->Re β):Re β:=match r with
 | .ok a st=>f a st
 | .err c st=> .err c st
 | .bad=> .bad
inductive Rs where
 | nx (ρ:b9) (st:Hs)
 | rt (w:Wv) (st:Hs)
 | bk (ρ:b9) (st:Hs)
 | ct (ρ:b9) (st:Hs)
 | err (c:PySem.Str) (ρ:b9) (st:Hs)
 | bad
def Re.bJ{α:Type}(ρ:b9)(r:Re α)(f:α->Hs->Rs):Rs:=match r with
 | .ok a st=>f a st
 | .err c st=> .err c ρ st
 | .bad=> .bad
def Re.oH{α:Type}(r:Re α):Re α:=match r with
 | .ok a st=> .ok a st
 | _=> .bad
abbrev GE:=b9->Hs->Re Wv
abbrev GT:=b9->Hs->Re Bool
abbrev GA:=b9->Hs->Re (List Wv)
abbrev GS:=b9->Hs->Rs
def wX(P:acw)(w:acz)(outer:List Env)(H:Hp)(s:acx)(H':Hp)(cls:acy)(e:acy)(s':acx):Prop :=
 ∃(a:acr)(a0:acy)(B:Heap),e= .ref a/\s'.os=s.os/\AllBare s'.gens/\Un (frs outer) [] H H' s.heap s'.heap/\ko P w H' B/\va B outer a cls a0 s'.heap/\
  (∀b o,s.heap.get? b=some o->b∉frs outer->∃o',B.get? b=some o'/\(H b=none->o'=o))
def kT(X:Cx)(pins:List (acr×Obj))(H:Hp)(s:acx)(H':Hp)(cls:acy)(e:acy)(s':acx):Prop :=
 ∃(a:acr)(a0 nt:acy)(B:Heap)(ch:List acr),e= .ref a/\s'.os=s.os/\AllBare s'.gens/\(∀b∈ch,ij X pins H b)/\Un (frs X.stack) ch H H' s.heap s'.heap/\ko X.prog X.w H' B/\
  (B.StaysIn s'.heap/\B.get? a=none/\s'.heap.FunFrames B X.stack/\Tu s'.heap B a cls a0 nt)/\
  (∀b o,s.heap.get? b=some o->b∉frs X.stack->b∉ch->∃o',B.get? b=some o'/\(H b=none->o'=o))
theorem wX.any{X:Cx}{pins:List (acr×Obj)}{H H':Hp}{s s':acx}{cls e:acy}(f:wX X.prog X.w X.stack H s H' cls e s'):kT X pins H s H' cls e s' :=
 let ⟨a,a0,B,e1,e2,e3,un,hok,fl,wY⟩:=f
 ⟨a,a0,.none,B,[],e1,e2,e3,(λb z=>by cases z),un,hok,fl,λb o q hb _=>wY b o q hb⟩
def ve(X:Cx)(σ:St)(H':Hp)(c:PySem.Str)(e:acy)(s':acx):Prop :=
 ∃(C:acr)(pins:List (acr×Obj))(Hc:Hp)(sc:acx),ClsAt X.K c C/\Inv X pins σ Hc sc/\
  (kT X pins Hc sc H' (.ref C) e s'\/(H'=Hc/\∃a args,e= .ref a/\s'.os=sc.os/\s'.gens=sc.gens/\vf sc.heap s'.heap a (.ref C) args))
def Qg(X:Cx)(σ:St)(m:Mp)(H:Hp)(c:PySem.Str)(st:Hs):Prop :=
 ∀(m':Mp)(H':Hp)(e:acy)(s':acx),Ext X.K m H m' H'->bG X.K m' st H'->ve X σ H' c e s'->X.xe e s'
theorem Qg.mono{X:Cx}{σ:St}{m m1:Mp}{H H1:Hp}{c:PySem.Str}{st:Hs}(h:Qg X σ m H c st)(e:Ext X.K m H m1 H1):Qg X σ m1 H1 c st :=
 λm' H' x s' e' S r=>h m' H' x s' (e.trans e') S r
def az{α:Type}(X:Cx)(σ:St)(m:Mp)(H:Hp)(r:Re α)(ok:α->Hs->Prop):Prop:=match r with
 | .ok a st=>ok a st
 | .err c st=>Qg X σ m H c st
 | .bad=>False
def qP{α:Type}(r:Re α)(ok:α->Hs->Prop):Prop:=match r with
 | .ok a st=>ok a st
 | _=>False
theorem az.oH{α:Type}{X:Cx}{σ:St}{m:Mp}{H:Hp}{r:Re α}{ok:α->Hs->Prop}(h:az X σ m H r.oH ok):qP r ok:=by
 cases r with
 | ok a st=>exact h
 | err c st=>exact h
 | bad=>exact h
theorem az.bind{α β:Type}{X:Cx}{σ:St}{m:Mp}{H:Hp}{r:Re α}{f:α->Hs->Re β}{ok:β->Hs->Prop}(h:az X σ m H (r.bind f) ok):az X σ m H r (λa st=>az X σ m H (f a st) ok):=by
 cases r with
 | ok a st=>exact h
 | err c st=>exact h
 | bad=>exact h
theorem az.imp{α:Type}{X:Cx}{σ:St}{m m1:Mp}{H H1:Hp}{r:Re α}{ok ok':α->Hs->Prop}(h:az X σ m H r ok)(e:Ext X.K m H m1 H1)(k:∀a st,ok a st->ok' a st):az X σ m1 H1 r ok':=by
 cases r with
 | ok a st=>exact k a st h
 | err c st=>exact Qg.mono (c:=c) (st:=st) h e
 | bad=>exact h
theorem qP.imp{α:Type}{r:Re α}{ok ok':α->Hs->Prop}(h:qP r ok)(k:∀a st,ok a st->ok' a st):qP r ok':=by
 cases r with
 | ok a st=>exact k a st h
 | err c st=>exact h
 | bad=>exact h
def Q9(K:PySem.W.Frag)(m:Mp)(H:Hp)(Q:VK)(w:Wv)(st:Hs):Prop:=∀(v:V)(m':Mp)(H':Hp),Ext K m H m' H'->bG K m' st H'->aj K m' H' w v->Q v H'
def ZP(K:PySem.W.Frag)(m:Mp)(H:Hp)(Q:Bool->Hp->Prop)(b:Bool)(st:Hs):Prop:=∀(m':Mp)(H':Hp),Ext K m H m' H'->bG K m' st H'->Q b H'
def ZQ(K:PySem.W.Frag)(m:Mp)(H:Hp)(Q:List V->Hp->Prop)(ws:List Wv)(st:Hs):Prop:=∀(vs:List V)(m':Mp)(H':Hp),Ext K m H m' H'->bG K m' st H'->ai K m' H' ws vs->Q vs H'
abbrev gR(X:Cx)(σ:St)(m:Mp)(H:Hp)(r:Re Wv)(Q:VK):Prop:=az X σ m H r (Q9 X.K m H Q)
abbrev jx(X:Cx)(σ:St)(m:Mp)(H:Hp)(r:Re Bool)(Q:Bool->Hp->Prop):Prop:=az X σ m H r (ZP X.K m H Q)
abbrev K8(X:Cx)(σ:St)(m:Mp)(H:Hp)(r:Re (List Wv))(Q:List V->Hp->Prop):Prop:=az X σ m H r (ZQ X.K m H Q)
theorem gR.shift{X:Cx}{σ:St}{m m1:Mp}{H H1:Hp}{r:Re Wv}{Q:VK}(h:gR X σ m H r Q)(e:Ext X.K m H m1 H1):gR X σ m1 H1 r Q:=h.imp e λ_ _ k v m' H' e'=>k v m' H' (e.trans e')
theorem jx.shift{X:Cx}{σ:St}{m m1:Mp}{H H1:Hp}{r:Re Bool}{Q:Bool->Hp->Prop}(h:jx X σ m H r Q)(e:Ext X.K m H m1 H1):jx X σ m1 H1 r Q:=h.imp e λ_ _ k m' H' e'=>k m' H' (e.trans e')
abbrev cW(K:PySem.W.Frag)(m:Mp)(H:Hp)(r:Re Wv)(Q:VK):Prop:=qP r (Q9 K m H Q)
theorem cW.shift{K:PySem.W.Frag}{m m1:Mp}{H H1:Hp}{r:Re Wv}{Q:VK}(h:cW K m H r Q)(e:Ext K m H m1 H1):cW K m1 H1 r Q:=qP.imp h λ_ _ k v m' H' e'=>k v m' H' (e.trans e')
def aJ(X:Cx)(m:Mp)(H:Hp)(r:Rs)(D:Ends):Prop:=match r with
 | .nx ρ st=>∀(σ:St)(m':Mp)(H':Hp),Ext X.K m H m' H'->bG X.K m' st H'->aA X.K m' H' ρ σ->D.nx σ H'
 | .rt w st=>∀(v:V)(m':Mp)(H':Hp),Ext X.K m H m' H'->bG X.K m' st H'->aj X.K m' H' w v->D.rt v H'
 | .bk ρ st=>∀(σ:St)(m':Mp)(H':Hp),Ext X.K m H m' H'->bG X.K m' st H'->aA X.K m' H' ρ σ->D.bk σ H'
 | .ct ρ st=>∀(σ:St)(m':Mp)(H':Hp),Ext X.K m H m' H'->bG X.K m' st H'->aA X.K m' H' ρ σ->D.ct σ H'
 | .err c ρ st=>∀(σ:St)(m':Mp)(H':Hp)(e:acy)(s':acx),Ext X.K m H m' H'->bG X.K m' st H'->aA X.K m' H' ρ σ->ve X σ H' c e s'->X.xe e s'
 | .bad=>False
theorem aJ.shift{X:Cx}{m m1:Mp}{H H1:Hp}{r:Rs}{D:Ends}(h:aJ X m H r D)(e:Ext X.K m H m1 H1):aJ X m1 H1 r D:=by
 cases r with
 | nx ρ st=>exact λσ m' H' e'=>h σ m' H' (e.trans e')
 | rt w st=>exact λv m' H' e'=>h v m' H' (e.trans e')
 | bk ρ st=>exact λσ m' H' e'=>h σ m' H' (e.trans e')
 | ct ρ st=>exact λσ m' H' e'=>h σ m' H' (e.trans e')
 | err c ρ st=>exact λσ m' H' x s' e'=>h σ m' H' x s' (e.trans e')
 | bad=>exact h
theorem aJ.di{α:Type}{X:Cx}{m:Mp}{H:Hp}{ρ:b9}{σ:St}{r:Re α}{f:α->Hs->Rs}{D:Ends}(R:aA X.K m H ρ σ)(h:aJ X m H (r.bJ ρ f) D):az X σ m H r (λa st=>aJ X m H (f a st) D):=by
 cases r with
 | ok a st=>exact h
 | err c st=>exact λm' H' x s' e' S r=>h σ m' H' x s' e' S (R.mono e') r
 | bad=>exact h
def SE(X:Cx)(e:Expr):TE:=λσ H Q=>∀(pins:List (acr×Obj))(s:acx),Inv X pins σ H s->acL (model X.prog X.w) X.A (eval e X.env) (EP X pins σ Q) X.xe s
def ST(X:Cx)(e:Expr):TT:=λσ H Q=>∀(pins:List (acr×Obj))(s:acx),Inv X pins σ H s->acL (model X.prog X.w) X.A (isTrue e X.env (eval e X.env)) (TP X pins σ Q) X.xe s
def SA(X:Cx)(es:List Expr):TA:=λσ H Q=>∀(pos:Pos)(pins:List (acr×Obj))(s:acx),Inv X pins σ H s->acL (model X.prog X.w) X.A (spliced (backTo pos (acK es X.env))) (AP X pins σ Q) X.xe s
def SS(X:Cx)(st:Stmt):TS:=λD σ H=>∀(pins:List (acr×Obj))(s:acx),Inv X pins σ H s->acL (model X.prog X.w) X.A (exec st X.env) (SP X pins D) X.xe s
def Q_(X:Cx)(st:List Stmt):TS:=λD σ H=>∀(pins:List (acr×Obj))(s:acx),Inv X pins σ H s->acL (model X.prog X.w) X.A (execs st X.env) (SP X pins D) X.xe s
section
variable {X:Cx}
theorem aY{e:Expr}:PE X e (SE X e):=λpins s _ _ _ I h=>h pins s I
theorem qQ{e:Expr}:PT X e (ST X e):=λpins s _ _ _ I h=>h pins s I
theorem ku{es:List Expr}:PA X es (SA X es):=λpos pins s _ _ _ I h=>h pos pins s I
theorem K9{st:Stmt}:PS X st (SS X st):=λpins s _ _ _ I h=>h pins s I
theorem gE{st:List Stmt}:DE X st (Q_ X st):=λpins s _ _ _ I h=>h pins s I
end
def JE(X:Cx)(e:Expr)(g:GE):Prop:=∀(ρ:b9)(st:Hs)(σ:St)(H:Hp)(m:Mp)(Q:VK),bG X.K m st H->aA X.K m H ρ σ->gR X σ m H (g ρ st) Q->SE X e σ H Q
def JT(X:Cx)(e:Expr)(g:GT):Prop:=∀(ρ:b9)(st:Hs)(σ:St)(H:Hp)(m:Mp)(Q:Bool->Hp->Prop),bG X.K m st H->aA X.K m H ρ σ->jx X σ m H (g ρ st) Q->ST X e σ H Q
def JA(X:Cx)(es:List Expr)(g:GA):Prop:=∀(ρ:b9)(st:Hs)(σ:St)(H:Hp)(m:Mp)(Q:List V->Hp->Prop),bG X.K m st H->aA X.K m H ρ σ->K8 X σ m H (g ρ st) Q->SA X es σ H Q
def JS(X:Cx)(s:Stmt)(g:GS):Prop:=∀(ρ:b9)(st:Hs)(σ:St)(H:Hp)(m:Mp)(D:Ends),bG X.K m st H->aA X.K m H ρ σ->aJ X m H (g ρ st) D->SS X s D σ H
def nj(X:Cx)(s:List Stmt)(g:GS):Prop:=∀(ρ:b9)(st:Hs)(σ:St)(H:Hp)(m:Mp)(D:Ends),bG X.K m st H->aA X.K m H ρ σ->aJ X m H (g ρ st) D->Q_ X s D σ H
section
variable {X:Cx}
theorem JE.of{e:Expr}{g:GE}{t:TE}(h:PE X e t)(k:∀(ρ:b9)(st:Hs)(σ:St)(H:Hp)(m:Mp)(Q:VK),bG X.K m st H->aA X.K m H ρ σ->gR X σ m H (g ρ st) Q->t σ H Q):JE X e g :=
 λρ st σ H m Q S R p pins s I=>h pins s σ H Q I (k ρ st σ H m Q S R p)
theorem JT.of{e:Expr}{g:GT}{t:TT}(h:PT X e t)(k:∀(ρ:b9)(st:Hs)(σ:St)(H:Hp)(m:Mp)(Q:Bool->Hp->Prop),bG X.K m st H->aA X.K m H ρ σ->jx X σ m H (g ρ st) Q->t σ H Q):JT X e g :=
 λρ st σ H m Q S R p pins s I=>h pins s σ H Q I (k ρ st σ H m Q S R p)
theorem JA.of{es:List Expr}{g:GA}{t:TA}(h:PA X es t)(k:∀(ρ:b9)(st:Hs)(σ:St)(H:Hp)(m:Mp)(Q:List V->Hp->Prop),bG X.K m st H->aA X.K m H ρ σ->K8 X σ m H (g ρ st) Q->t σ H Q):JA X es g :=
 λρ st σ H m Q S R p pos pins s I=>h pos pins s σ H Q I (k ρ st σ H m Q S R p)
theorem JS.of{e:Stmt}{g:GS}{t:TS}(h:PS X e t)(k:∀(ρ:b9)(st:Hs)(σ:St)(H:Hp)(m:Mp)(D:Ends),bG X.K m st H->aA X.K m H ρ σ->aJ X m H (g ρ st) D->t D σ H):JS X e g :=
 λρ st σ H m D S R p pins s I=>h pins s σ H D I (k ρ st σ H m D S R p)
theorem nj.of{e:List Stmt}{g:GS}{t:TS}(h:DE X e t)(k:∀(ρ:b9)(st:Hs)(σ:St)(H:Hp)(m:Mp)(D:Ends),bG X.K m st H->aA X.K m H ρ σ->aJ X m H (g ρ st) D->t D σ H):nj X e g :=
 λρ st σ H m D S R p pins s I=>h pins s σ H D I (k ρ st σ H m D S R p)
theorem JE.go{e:Expr}{g:GE}{ρ:b9}{st:Hs}{σ:St}{H:Hp}{m:Mp}{T:VK}{ok:Wv->Hs->Prop}(h:JE X e g)(S:bG X.K m st H)(R:aA X.K m H ρ σ)(p:az X σ m H (g ρ st) ok)
  (k:∀(w:Wv)(st1:Hs)(v:V)(m1:Mp)(H1:Hp),ok w st1->Ext X.K m H m1 H1->bG X.K m1 st1 H1->aj X.K m1 H1 w v->T v H1):SE X e σ H T :=
 h ρ st σ H m T S R (p.imp Ext.refl λw st1 q v m1 H1 e1 s1 r1=>k w st1 v m1 H1 q e1 s1 r1)
theorem JT.go{e:Expr}{g:GT}{ρ:b9}{st:Hs}{σ:St}{H:Hp}{m:Mp}{T:Bool->Hp->Prop}{ok:Bool->Hs->Prop}(h:JT X e g)(S:bG X.K m st H)(R:aA X.K m H ρ σ)(p:az X σ m H (g ρ st) ok)
  (k:∀(b:Bool)(st1:Hs)(m1:Mp)(H1:Hp),ok b st1->Ext X.K m H m1 H1->bG X.K m1 st1 H1->T b H1):ST X e σ H T :=
 h ρ st σ H m T S R (p.imp Ext.refl λb st1 q m1 H1 e1 s1=>k b st1 m1 H1 q e1 s1)
theorem JA.go{es:List Expr}{g:GA}{ρ:b9}{st:Hs}{σ:St}{H:Hp}{m:Mp}{T:List V->Hp->Prop}{ok:List Wv->Hs->Prop}(h:JA X es g)(S:bG X.K m st H)(R:aA X.K m H ρ σ)(p:az X σ m H (g ρ st) ok)
  (k:∀(ws:List Wv)(st1:Hs)(vs:List V)(m1:Mp)(H1:Hp),ok ws st1->Ext X.K m H m1 H1->bG X.K m1 st1 H1->ai X.K m1 H1 ws vs->T vs H1):SA X es σ H T :=
 h ρ st σ H m T S R (p.imp Ext.refl λw st1 q v m1 H1 e1 s1 r1=>k w st1 v m1 H1 q e1 s1 r1)
end
end J
namespace J
open PySem PySem.Spec PyProof.Rows L2
def lim:Nat:=1000000
theorem eI{n:Nat}(h:n<=lim):n<=acJ:=bg h (by unfold lim;rw[sizeLine_eq];decide)
theorem vg{n:Nat}(h:n < lim):n < acJ:=bt h (by unfold lim;rw[sizeLine_eq];decide)
def af(i:Nat):GE:=λρ st=>match ρ[i]? with
 | some (some w)=> .ok w st
 | _=> .bad
def gC(w:Wv):GE:=λ_ st=> .ok w st
section
variable {X:Cx}
theorem zc(i:Nat){x:Str}{pos:Pos}(hN:X.N[i]? =some x:=by rfl)(hv:Ur X.env.scope x:=by first | exact Or.inl rfl | exact lM (Or.inl rfl) | exact lM (lM rfl))(hd:(x == ("__debug__":Str))=false:=by decide)
  (hcd:(x == ("__classdict__":Str))=false:=by decide):JE X (.Name x pos) (af i):=JE.of (LY hN hv hd hcd) λρ st σ H m Q S R p=>by
 unfold af at p
 cases e:ρ[i]? with
 | none=>rw[e] at p;exact aa p
 | some o=>
  cases o with
  | none=>rw[e] at p;exact aa p
  | some w=>
   rw[e] at p
   obtain⟨v,h1,h2⟩:=R.get i w e
   exact⟨v,h1,p v m H Ext.refl S h2⟩
theorem MN{i:Int}{j pos}:JE X (.Constant (.int i) j pos) (gC (.int i)):=JE.of LZ λρ st σ H m Q S R p=>p (.int i) m H Ext.refl S (by unfold aj;rfl)
theorem Ra{b:Bool}{j pos}:JE X (.Constant (.bool b) j pos) (gC (.bl b)):=JE.of Qz λρ st σ H m Q S R p=>p (.bl b) m H Ext.refl S (by unfold aj;rfl)
theorem MO{j pos}:JE X (.Constant .none j pos) (gC .aI):=JE.of L0 λρ st σ H m Q S R p=>p .aI m H Ext.refl S (by unfold aj;rfl)
theorem MP{x:PySem.Str}{j pos}(hx:aZ x=true:=by decide+kernel):JE X (.Constant (.str x) j pos) (gC (.str x)):=JE.of L3 λρ st σ H m Q S R p=>p (.str x) m H Ext.refl S (by unfold aj;exact⟨rfl,hx⟩)
theorem Ee{x:Str}{i:Int}{t:Tok}{pos:Pos}(hg:Gl X x)(hm:X.mg x=some (.int i t))(hd:(x == ("__debug__":Str))=false:=by decide):JE X (.Name x pos) (gC (.int i)) :=
 JE.of (lH (v:=.int i) hg hm ⟨t,rfl⟩ hd) λρ st σ H m Q S R p=>p (.int i) m H Ext.refl S (by unfold aj;rfl)
theorem Ef{x y:Str}{t:Tok}{pos:Pos}(hg:Gl X x)(hm:X.mg x=some (.str y t))(hy:aZ y=true:=by decide+kernel)(hd:(x == ("__debug__":Str))=false:=by decide):JE X (.Name x pos) (gC (.str y)) :=
 JE.of (lH (v:=.str y) hg hm ⟨t,rfl⟩ hd) λρ st σ H m Q S R p=>p (.str y) m H Ext.refl S (by unfold aj;exact⟨rfl,hy⟩)
theorem Rb{x:Str}{T:String}{pos:Pos}(hg:Gl X x)(hm:X.mg x=none)(hv:acC x=some (.type T))(hn:x≠"__name__":=by decide)(hd:(x == ("__debug__":Str))=false:=by decide):JE X (.Name x pos) (gC (.ty T)) :=
 JE.of (HV (v:=.ty T) hg hm hv rfl hn hd) λρ st σ H m Q S R p=>p (.ty T) m H Ext.refl S (by unfold aj;rfl)
abbrev hX:=Wv->Wv->Hs->Re Wv
def ag(op:hX)(ga gb:GE):GE:=λρ st=>(ga ρ st).bind λx st1=>(gb ρ st1).bind λy st2=>(op x y st2).oH
def AS(X:Cx)(op:hX)(r:R2):Prop:=∀(x y:Wv)(a b:V)(st:Hs)(H:Hp)(m:Mp)(Q:VK),bG X.K m st H->aj X.K m H x a->aj X.K m H y b->cW X.K m H (op x y st) Q->r a b H Q
def kU(X:Cx)(f:acy->acy->Sem acy)(op:hX):Prop:=∃r,fW X f r/\AS X op r
theorem AU{a b:Expr}{ga gb:GE}{op:hX}{r:R2}(h2:AS X op r)(ha:JE X a ga)(hb:JE X b gb){ρ:b9}{st:Hs}{σ:St}{H:Hp}{m:Mp}{Q:VK}(S:bG X.K m st H)(R:aA X.K m H ρ σ)(p:gR X σ m H (ag op ga gb ρ st) Q) :
  QL r (SE X a) (SE X b) σ H Q:=by
 refine ha.go S R (az.bind p) λx st1 v m1 H1 p1 e1 S1 rx=>?_
 refine hb.go S1 (R.mono e1) ((az.bind p1).imp e1 λ_ _ q=>q) λy st2 u m2 H2 p2 e2 S2 ry=>?_
 exact h2 x y v u st2 H2 m2 Q S2 (aj.mono e2 _ _ rx) ry (cW.shift (az.oH p2) (e1.trans e2))
theorem MQ{a b:Expr}{ga gb:GE}{o:Operator}{op:hX}{pos:Pos}(ho:kU X (acB o) op)(ha:JE X a ga)(hb:JE X b gb):JE X (.BinOp a o b pos) (ag op ga gb):=by
 obtain⟨r,h1,h2⟩:=ho
 exact JE.of (QM h1 aY aY) λρ st σ H m Q S R p=>AU h2 ha hb S R p
theorem zd{a b:Expr}{ga gb:GE}{o:CmpOp}{op:hX}{pos:Pos}(ho:kU X (acF o) op)(ha:JE X a ga)(hb:JE X b gb)(hm:acA o b=false):JE X (.Compare a [o] [b] pos) (ag op ga gb):=by
 obtain⟨r,h1,h2⟩:=ho
 exact JE.of (Il h1 aY aY hm) λρ st σ H m Q S R p=>AU h2 ha hb S R p
def Qh(w:Wv)(st:Hs):Re Bool:=match w with
 | .bl b=> .ok b st
 | _=> .bad
def cU(g:GE):GT:=λρ st=>(g ρ st).bind Qh
theorem wZ{σ:St}{m:Mp}{H:Hp}{r:Re Wv}{Q:Bool->Hp->Prop}(p:jx X σ m H (r.bind Qh) Q):gR X σ m H r (λx H'=>∃k,x= .bl k/\Q k H'):=by
 cases r with
 | ok w st=>
  cases w with
  | bl b=>
   intro v m' H' e S rw'
   unfold aj at rw'
   exact⟨b,rw',p m' H' e S⟩
  | _=>exact aa p
 | err c st=>exact p
 | bad=>exact p
theorem ze{a b:Expr}{ga gb:GE}{o:CmpOp}{op:hX}{pos:Pos}(ho:kU X (acF o) op)(ha:JE X a ga)(hb:JE X b gb)(hm:acA o b=false):JT X (.Compare a [o] [b] pos) (cU (ag op ga gb)):=by
 obtain⟨r,h1,h2⟩:=ho
 exact JT.of (Io h1 aY aY hm) λρ st σ H m Q S R p=>AU h2 ha hb S R (wZ p)
def jg(op op':hX)(ga gb gc:GE):GE:=λρ st=>(ga ρ st).bind λx st1=>(gb ρ st1).bind λy st2=>(op x y st2).oH.bind λz st3=>match z with
 | .bl true=>(gc ρ st3).bind λu AV=>(op' y u AV).oH
 | .bl false=> .ok (.bl false) st3
 | _=> .bad
theorem K_{a b c:Expr}{ga gb gc:GE}{op op':hX}{r r':R2}(h2:AS X op r)(h2':AS X op' r')(ha:JE X a ga)(hb:JE X b gb)(hc:JE X c gc){ρ:b9}{st:Hs}{σ:St}{H:Hp}{m:Mp}{Q:VK}
  (S:bG X.K m st H)(R:aA X.K m H ρ σ)(p:gR X σ m H (jg op op' ga gb gc ρ st) Q):yQ r r' (SE X a) (SE X b) (SE X c) σ H Q:=by
 refine ha.go S R (az.bind p) λx st1 v m1 H1 p1 e1 S1 rx=>?_
 refine hb.go S1 (R.mono e1) ((az.bind p1).imp e1 λ_ _ q=>q) λy st2 u m2 H2 p2 e2 S2 ry=>?_
 refine h2 x y v u st2 H2 m2 _ S2 (aj.mono e2 _ _ rx) ry (qP.imp (az.oH (az.bind p2)) λz st3 p3=>?_)
 intro z' m3 H3 e3 S3 rz
 cases z with
 | bl k=>
  unfold aj at rz
  refine⟨k,rz,?_⟩
  cases k with
  | true=>
   rw[if_pos rfl]
   refine hc.go S3 (R.mono (e1.trans (e2.trans e3))) ((az.bind p3).imp (e1.trans (e2.trans e3)) λ_ _ q=>q) λq AV u' m4 H4 p4 e4 S4 rq=>?_
   exact h2' y q u u' AV H4 m4 Q S4 (aj.mono (e3.trans e4) _ _ ry) rq (cW.shift (az.oH p4) (e1.trans (e2.trans (e3.trans e4))))
  | false=>
   rw[if_neg bD]
   exact p3 (.bl false) m3 H3 (e1.trans (e2.trans e3)) S3 (by unfold aj;rfl)
 | _=>exact aa p3
theorem Eg{a b c:Expr}{ga gb gc:GE}{o o':CmpOp}{op op':hX}{pos:Pos}(ho:kU X (acF o) op)(ho':kU X (acF o') op')(ha:JE X a ga)(hb:JE X b gb)(hc:JE X c gc)
  (hm:lastMarks [o,o'] [b,c]=false:=by with_unfolding_all rfl):JE X (.Compare a [o,o'] [b,c] pos) (jg op op' ga gb gc):=by
 obtain⟨r,h1,h2⟩:=ho
 obtain⟨r',Qf,h2'⟩:=ho'
 exact JE.of (DN h1 Qf aY aY aY hm) λρ st σ H m Q S R p=>K_ h2 h2' ha hb hc S R p
theorem Eh{a b c:Expr}{ga gb gc:GE}{o o':CmpOp}{op op':hX}{pos:Pos}(ho:kU X (acF o) op)(ho':kU X (acF o') op')(ha:JE X a ga)(hb:JE X b gb)(hc:JE X c gc)
  (hm:lastMarks [o,o'] [b,c]=false:=by with_unfolding_all rfl):JT X (.Compare a [o,o'] [b,c] pos) (cU (jg op op' ga gb gc)):=by
 obtain⟨r,h1,h2⟩:=ho
 obtain⟨r',Qf,h2'⟩:=ho'
 exact JT.of (DO h1 Qf aY aY aY hm) λρ st σ H m Q S R p=>K_ h2 h2' ha hb hc S R (wZ p)
def AW(op:Wv->Hs->Re Wv)(ga:GE):GE:=λρ st=>(ga ρ st).bind op
def h_:Wv->Hs->Re Wv
 | .int i,st=> .ok (.int (-i)) st
 | _,_=> .bad
theorem MR{a:Expr}{ga:GE}{pos:Pos}(ha:JE X a ga):JE X (.UnaryOp .USub a pos) (AW h_ ga):=by
 refine JE.of (QN Mk aY) λρ st σ H m Q S R p=>?_
 refine ha.go S R (az.bind p) λx st1 v m1 H1 p1 e1 S1 rx=>?_
 cases x with
 | int i=>
  unfold aj at rx
  exact⟨i,rx,p1 _ m1 H1 e1 S1 (by unfold aj;rfl)⟩
 | _=>exact aa p1
def SW(X:Cx)(e:Expr):TT:=λσ H Q=>∀(wh:Sem acy)(pins:List (acr×Obj))(s:acx),Inv X pins σ H s->acL (model X.prog X.w) X.A (isTrue e X.env wh) (TP X pins σ Q) X.xe s
theorem K'{e:Expr}:PW X e (SW X e):=λwh pins s _ _ _ I h=>h wh pins s I
def JW(X:Cx)(e:Expr)(g:GT):Prop:=∀(ρ:b9)(st:Hs)(σ:St)(H:Hp)(m:Mp)(Q:Bool->Hp->Prop),bG X.K m st H->aA X.K m H ρ σ->jx X σ m H (g ρ st) Q->SW X e σ H Q
theorem JW.of{e:Expr}{g:GT}{t:TT}(h:PW X e t)(k:∀(ρ:b9)(st:Hs)(σ:St)(H:Hp)(m:Mp)(Q:Bool->Hp->Prop),bG X.K m st H->aA X.K m H ρ σ->jx X σ m H (g ρ st) Q->t σ H Q):JW X e g :=
 λρ st σ H m Q S R p wh pins s I=>h wh pins s σ H Q I (k ρ st σ H m Q S R p)
theorem JW.jt{e:Expr}{g:GT}(h:JW X e g):JT X e g:=λρ st σ H m Q S R p pins s I=>h ρ st σ H m Q S R p _ pins s I
def Ei(ga gb:GT):GT:=λρ st=>(ga ρ st).bind λb st1=>if b=true then gb ρ st1 else .ok false st1
def AX(ga gb:GT):GT:=λρ st=>(ga ρ st).bind λb st1=>if b=true then .ok true st1 else gb ρ st1
def vh(ga:GT):GT:=λρ st=>(ga ρ st).bind λb st1=> .ok (!b) st1
theorem IP{a:Expr}{ga:GT}{pos:Pos}(ha:JT X a ga):JW X (.BoolOp .And [a] pos) ga:=JW.of (HW qQ) λρ st σ H m Q S R p=>ha ρ st σ H m Q S R p
theorem MS{a:Expr}{ga:GT}{pos:Pos}(ha:JT X a ga):JW X (.BoolOp .Or [a] pos) ga:=JW.of (L6 qQ) λρ st σ H m Q S R p=>ha ρ st σ H m Q S R p
theorem MT{a b:Expr}{rest:List Expr}{ga gb:GT}{pos:Pos}(ha:JT X a ga)(hb:JW X (.BoolOp .And (b::rest) pos) gb):JW X (.BoolOp .And (a::b::rest) pos) (Ei ga gb):=by
 refine JW.of (L7 qQ K') λρ st σ H m Q S R p=>?_
 refine ha.go S R (az.bind p) λc st1 m1 H1 p1 e1 S1=>?_
 cases c with
 | true=>rw[if_pos rfl] at p1 ⊢;exact hb ρ st1 σ H1 m1 Q S1 (R.mono e1) (jx.shift p1 e1)
 | false=>rw[if_neg bD] at p1 ⊢;exact p1 m1 H1 e1 S1
theorem Rc{a b:Expr}{rest:List Expr}{ga gb:GT}{pos:Pos}(ha:JT X a ga)(hb:JW X (.BoolOp .Or (b::rest) pos) gb):JW X (.BoolOp .Or (a::b::rest) pos) (AX ga gb):=by
 refine JW.of (QA qQ K') λρ st σ H m Q S R p=>?_
 refine ha.go S R (az.bind p) λc st1 m1 H1 p1 e1 S1=>?_
 cases c with
 | true=>rw[if_pos rfl] at p1 ⊢;exact p1 m1 H1 e1 S1
 | false=>rw[if_neg bD] at p1 ⊢;exact hb ρ st1 σ H1 m1 Q S1 (R.mono e1) (jx.shift p1 e1)
theorem MU{a:Expr}{ga:GT}{pos:Pos}(ha:JT X a ga):JT X (.UnaryOp .Not a pos) (vh ga):=by
 refine JT.of (L8 qQ) λρ st σ H m Q S R p=>?_
 exact ha.go S R (az.bind p) λc st1 m1 H1 p1 e1 S1=>p1 m1 H1 e1 S1
def iW(ga gb:GE):GE:=λρ st=>(ga ρ st).bind λw st1=>match w with
 | .bl true=>gb ρ st1
 | .bl false=> .ok (.bl false) st1
 | _=> .bad
def w4(ga:GE):GE:=λρ st=>(ga ρ st).bind λw st1=>match w with
 | .bl b=> .ok (.bl (!b)) st1
 | _=> .bad
theorem MV{op}{a:Expr}{ga:GE}{pos:Pos}(ha:JE X a ga):JE X (.BoolOp op [a] pos) ga:=JE.of (L9 aY) λρ st σ H m Q S R p=>ha ρ st σ H m Q S R p
theorem MW{a b:Expr}{rest:List Expr}{ga gb:GE}{pos:Pos}(ha:JE X a ga)(hb:JE X (.BoolOp .And (b::rest) pos) gb):JE X (.BoolOp .And (a::b::rest) pos) (iW ga gb):=by
 refine JE.of (L_ aY aY) λρ st σ H m Q S R p=>?_
 refine ha.go S R (az.bind p) λx st1 v m1 H1 p1 e1 S1 rx=>?_
 cases x with
 | bl c=>
  unfold aj at rx
  refine⟨c,rx,?_⟩
  cases c with
  | true=>rw[if_pos rfl];exact hb ρ st1 σ H1 m1 Q S1 (R.mono e1) (gR.shift p1 e1)
  | false=>rw[if_neg bD];exact p1 _ m1 H1 e1 S1 (by unfold aj;rfl)
 | _=>exact aa p1
theorem MX{a:Expr}{ga:GE}{pos:Pos}(ha:JE X a ga):JE X (.UnaryOp .Not a pos) (w4 ga):=by
 refine JE.of (L' aY) λρ st σ H m Q S R p=>?_
 refine ha.go S R (az.bind p) λx st1 v m1 H1 p1 e1 S1 rx=>?_
 cases x with
 | bl c=>
  unfold aj at rx
  exact⟨c,rx,p1 _ m1 H1 e1 S1 (by unfold aj;rfl)⟩
 | _=>exact aa p1
def Rf(gt:GT)(ga gb:GE):GE:=λρ st=>(gt ρ st).bind λb st1=>if b=true then ga ρ st1 else gb ρ st1
theorem Rg{c a b:Expr}{gt:GT}{ga gb:GE}{pos:Pos}(hc:JT X c gt)(ha:JE X a ga)(hb:JE X b gb):JE X (.IfExp c a b pos) (Rf gt ga gb):=by
 refine JE.of (DF qQ aY aY) λρ st σ H m Q S R p=>?_
 refine hc.go S R (az.bind p) λk st1 m1 H1 p1 e1 S1=>?_
 cases k with
 | true=>rw[if_pos rfl] at p1 ⊢;exact ha ρ st1 σ H1 m1 Q S1 (R.mono e1) (gR.shift p1 e1)
 | false=>rw[if_neg bD] at p1 ⊢;exact hb ρ st1 σ H1 m1 Q S1 (R.mono e1) (gR.shift p1 e1)
def aq:GA:=λ_ st=> .ok [] st
def ae(ga:GE)(gr:GA):GA:=λρ st=>(ga ρ st).bind λx st1=>(gr ρ st1).bind λxs st2=> .ok (x::xs) st2
theorem Ej:JA X [] aq:=JA.of Mo λρ st σ H m Q S R p=>p [] m H Ext.refl S ai.nil
theorem AY{e:Expr}{es:List Expr}{ga:GE}{gr:GA}(ha:JE X e ga)(hr:JA X es gr)(hs:acK (e::es) X.env=(false,eval e X.env)::acK es X.env:=by rfl):JA X (e::es) (ae ga gr):=by
 refine JA.of (Ip aY ku hs) λρ st σ H m Q S R p=>?_
 refine ha.go S R (az.bind p) λx st1 v m1 H1 p1 e1 S1 rx=>?_
 refine hr.go S1 (R.mono e1) ((az.bind p1).imp e1 λ_ _ q=>q) λxs st2 vs m2 H2 p2 e2 S2 rs=>?_
 exact p2 (v::vs) m2 H2 (e1.trans e2) S2 (ai.cons (aj.mono e2 _ _ rx) rs)
def bO(g:GA):GE:=λρ st=>(g ρ st).bind λws st1=>if ws.length<=lim then .ok (.tup ws) st1 else .bad
def eJ(g:GA):GE:=λρ st=>(g ρ st).bind λws st1=>if ws.length<=lim then .ok (.ref st1.length) (st1++[.lst ws]) else .bad
theorem MY{es:List Expr}{g:GA}{x1 pos}(h:JA X es g):JE X (.Tuple es x1 pos) (bO g):=by
 refine JE.of (Mq ku) λρ st σ H m Q S R p=>?_
 refine h.go S R (az.bind p) λws st1 vs m1 H1 p1 e1 S1 rs=>?_
 by_cases hl:ws.length<=lim
 ·rw[if_pos hl] at p1
  refine⟨by rw[<-rs.length];exact eI hl,λq hq=>?_⟩
  have e2:Ext X.K m1 H1 m1 (upd H1 q (.tup vs)):=Ext.upd (.inl hq)
  exact p1 (.ref q) m1 _ (e1.trans e2) (S1.fresh hq) (by unfold aj;exact⟨q,vs,rfl,aH,ai.mono e2 _ _ rs⟩)
 ·rw[if_neg hl] at p1;exact aa p1
theorem bG.newest{K:PySem.W.Frag}{m:Mp}{st:Hs}{H:Hp}(S:bG K m st H)(q:acr)(H':Hp):aj K (m++[q]) H' (.ref st.length) (.ref q):=by
 unfold aj
 refine⟨q,rfl,?_⟩
 rw[<-S.len,mI (au _),qe]
 rfl
theorem jy{m m1:Mp}{H H1:Hp}{st1:Hs}{ws:List Wv}{vs:List V}{Q:VK}(p1:Q9 X.K m H Q (.ref st1.length) (st1++[.lst ws]))(e1:Ext X.K m H m1 H1)(S1:bG X.K m1 st1 H1)(rs:ai X.K m1 H1 ws vs)(q:acr)(hq:H1 q=none) :
  Q (.ref q) (upd H1 q (.lst vs)) :=
 p1 (.ref q) (m1++[q]) _ (e1.trans (Ext.more.trans (Ext.upd (.inl hq)))) (S1.alloc hq rs) (S1.newest q _)
theorem MZ{es:List Expr}{g:GA}{pos}(h:JA X es g):JE X (.List es pos) (eJ g):=by
 refine JE.of (Mr ku) λρ st σ H m Q S R p=>?_
 refine h.go S R (az.bind p) λws st1 vs m1 H1 p1 e1 S1 rs=>?_
 by_cases hl:ws.length<=lim
 ·rw[if_pos hl] at p1
  exact⟨by rw[<-rs.length];exact eI hl,λq hq=>jy p1 e1 S1 rs q hq⟩
 ·rw[if_neg hl] at p1;exact aa p1
end
section
variable {X:Cx}
theorem fW.or{f:acy->acy->Sem acy}{r r':R2}(h:fW X f r)(h':fW X f r'):fW X f (λx y H Q=>r x y H Q\/r' x y H Q):=by
 intro pins s σ H x y v u Q I rx ry q
 rcases q with q | q
 ·exact h pins s σ H x y v u Q I rx ry q
 ·exact h' pins s σ H x y v u Q I rx ry q
theorem Ek:fW X (acB .FloorDiv) (rI (λ_ j=>j≠0/\j.natAbs.log2 < 9000) λi j=> .int (i.fdiv j)):=Tq λi j _ _ _ _ _ hc q=>floordiv_int hc.1 q (.inl (PyProof.noPylong_of_log2 hc.2))
theorem IQ:fW X (acB .Mod) (rI (λ_ j=>j≠0) λi j=> .int (i.fmod j)):=Tq λi j _ _ _ _ _ hc q=>mod_int' hc q
theorem IS:fW X (acB .Mult) (rI (λi j=>IntMulOk i j) λi j=> .int (i * j)):=Tq λ_ _ _ _ _ _ _ hc q=>mul_int q hc
instance U2{a b:Int}:Decidable (IntMulOk a b):=by unfold IntMulOk;infer_instance
def jS:hX
 | .int i,.int j,st=> .ok (.int (i - j)) st
 | _,_,_=> .bad
def cA:hX
 | .int i,.int j,st=>if j≠0/\j.natAbs.log2 < 9000 then .ok (.int (i.fdiv j)) st else .bad
 | _,_,_=> .bad
def oMod:hX
 | .int i,.int j,st=>if j≠0 then .ok (.int (i.fmod j)) st else .bad
 | _,_,_=> .bad
def kF:hX
 | .int i,.int j,st=>if 0<=j/\j<=1000000/\i.natAbs < 2 ^ 64 then .ok (.int (i ^ j.toNat)) st else .bad
 | _,_,_=> .bad
def Rh:hX
 | .int i,.int j,st=> .ok (.bl (decide (i < j))) st
 | .str i,.str j,st=> .ok (.bl (decide (i.cps.toList < j.cps.toList))) st
 | _,_,_=> .bad
def Ri:hX
 | .int i,.int j,st=> .ok (.bl (decide (i<=j))) st
 | _,_,_=> .bad
def zg:hX
 | .int i,.int j,st=> .ok (.bl (decide (j < i))) st
 | _,_,_=> .bad
def Tw:hX
 | .int i,.int j,st=> .ok (.bl (decide (j<=i))) st
 | _,_,_=> .bad
theorem aS{m:Mp}{H:Hp}{i:Int}{a:V}(h:aj X.K m H (.int i) a):a= .int i:=by unfold aj at h;exact h
theorem Rj{m:Mp}{H:Hp}{b:Bool}{a:V}(h:aj X.K m H (.bl b) a):a= .bl b:=by unfold aj at h;exact h
theorem eX{m:Mp}{H:Hp}{x:PySem.Str}{a:V}(h:aj X.K m H (.str x) a):a= .str x/\aZ x=true:=by unfold aj at h;exact h
theorem mkInt{m:Mp}{H:Hp}{i:Int}:aj X.K m H (.int i) (.int i):=by unfold aj;rfl
theorem jT{m:Mp}{H:Hp}{i:Bool}:aj X.K m H (.bl i) (.bl i):=by unfold aj;rfl
theorem w5{m:Mp}{H:Hp}:aj X.K m H .aI .aI:=by unfold aj;rfl
theorem mkStr{m:Mp}{H:Hp}{x:PySem.Str}(h:aZ x=true):aj X.K m H (.str x) (.str x):=by unfold aj;exact⟨rfl,h⟩
theorem M1:kU X (acB .Sub) jS:=⟨_,Mi,λx y a b st H m Q S rx ry p=>by
 cases x with
 | int i=>
  cases y with
  | int j=>exact⟨i,j,aS rx,aS ry,p _ m H Ext.refl S mkInt⟩
  | _=>exact aa p
 | _=>cases y<;>exact aa p⟩
theorem IT:kU X (acB .FloorDiv) cA:=⟨_,Ek,λx y a b st H m Q S rx ry p=>by
 cases x with
 | int i=>
  cases y with
  | int j=>
   dsimp only[cA] at p
   by_cases c:j≠0/\j.natAbs.log2 < 9000
   ·rw[if_pos c] at p;exact⟨i,j,aS rx,aS ry,c,p _ m H Ext.refl S mkInt⟩
   ·rw[if_neg c] at p;exact aa p
  | _=>exact aa p
 | _=>cases y<;>exact aa p⟩
theorem M3:kU X (acB .Mod) oMod:=⟨_,IQ,λx y a b st H m Q S rx ry p=>by
 cases x with
 | int i=>
  cases y with
  | int j=>
   dsimp only[oMod] at p
   by_cases c:j≠0
   ·rw[if_pos c] at p;exact⟨i,j,aS rx,aS ry,c,p _ m H Ext.refl S mkInt⟩
   ·rw[if_neg c] at p;exact aa p
  | _=>exact aa p
 | _=>cases y<;>exact aa p⟩
theorem M4:kU X (acB .Pow) kF:=⟨_,Mj,λx y a b st H m Q S rx ry p=>by
 cases x with
 | int i=>
  cases y with
  | int j=>
   dsimp only[kF] at p
   by_cases c:0<=j/\j<=1000000/\i.natAbs < 2 ^ 64
   ·rw[if_pos c] at p;exact⟨i,j,aS rx,aS ry,c,p _ m H Ext.refl S mkInt⟩
   ·rw[if_neg c] at p;exact aa p
  | _=>exact aa p
 | _=>cases y<;>exact aa p⟩
theorem Rk:kU X (acF .Lt) Rh:=⟨_,fW.or QP B4,λx y a b st H m Q S rx ry p=>by
 cases x with
 | int i=>
  cases y with
  | int j=>exact .inl ⟨i,j,aS rx,aS ry,p _ m H Ext.refl S jT⟩
  | _=>exact aa p
 | str i=>
  cases y with
  | str j=>exact .inr ⟨i,j,(eX rx).1,(eX ry).1,p _ m H Ext.refl S jT⟩
  | _=>exact aa p
 | _=>cases y<;>exact aa p⟩
theorem Rl:kU X (acF .LtE) Ri:=⟨_,QQ,λx y a b st H m Q S rx ry p=>by
 cases x with
 | int i=>
  cases y with
  | int j=>exact⟨i,j,aS rx,aS ry,p _ m H Ext.refl S jT⟩
  | _=>exact aa p
 | _=>cases y<;>exact aa p⟩
theorem Rm:kU X (acF .Gt) zg:=⟨_,QR,λx y a b st H m Q S rx ry p=>by
 cases x with
 | int i=>
  cases y with
  | int j=>exact⟨i,j,aS rx,aS ry,p _ m H Ext.refl S jT⟩
  | _=>exact aa p
 | _=>cases y<;>exact aa p⟩
theorem Rn:kU X (acF .GtE) Tw:=⟨_,QS,λx y a b st H m Q S rx ry p=>by
 cases x with
 | int i=>
  cases y with
  | int j=>exact⟨i,j,aS rx,aS ry,p _ m H Ext.refl S jT⟩
  | _=>exact aa p
 | _=>cases y<;>exact aa p⟩
def Qi:hX
 | x,.aI,st=> .ok (.bl (match x with | .aI=>true | _=>false)) st
 | _,_,_=> .bad
def El:hX
 | x,.aI,st=> .ok (.bl (match x with | .aI=>false | _=>true)) st
 | _,_,_=> .bad
theorem La{m:Mp}{H:Hp}{x:Wv}{a:V}(h:aj X.K m H x a):decide (a=V.aI)=(match x with | .aI=>true | _=>false):=by
 cases x with
 | aI=>unfold aj at h;subst h;rfl
 | bl b=>unfold aj at h;subst h;rfl
 | int b=>unfold aj at h;subst h;rfl
 | str b=>unfold aj at h;obtain⟨h,_⟩:=h;subst h;rfl
 | tup b=>unfold aj at h;obtain⟨q,xs,h,_⟩:=h;subst h;rfl
 | qN b=>unfold aj at h;obtain⟨q,xs,h,_⟩:=h;subst h;rfl
 | ref b=>unfold aj at h;obtain⟨q,h,_⟩:=h;subst h;rfl
 | ty b=>unfold aj at h;subst h;rfl
 | cls b=>unfold aj at h;obtain⟨q,h,_⟩:=h;subst h;rfl
 | mK b=>unfold aj at h;obtain⟨q,C,h,_⟩:=h;subst h;rfl
 | fn fp b=>unfold aj at h;obtain⟨h,_⟩:=h;subst h;rfl
theorem Ro:kU X (acF .Is) Qi:=⟨_,Mm,λx y a b st H m Q S rx ry p=>by
 cases y with
 | aI=>
  refine⟨by unfold aj at ry;exact ry,?_⟩
  rw[La rx]
  cases x<;>exact p _ m H Ext.refl S jT
 | _=>cases x<;>exact aa p⟩
theorem Em:kU X (acF .IsNot) El:=⟨_,Ij,λx y a b st H m Q S rx ry p=>by
 cases y with
 | aI=>
  refine⟨by unfold aj at ry;exact ry,?_⟩
  rw[La rx]
  cases x<;>exact p _ m H Ext.refl S jT
 | _=>cases x<;>exact aa p⟩
theorem vi{a b:PySem.Str}(ha:aZ a=true)(hb:aZ b=true):aZ (a++b)=true:=by
 unfold aZ at *
 show((a.cps++b.cps).all _)=true
 rw[Array.all_append,ha,hb]
 rfl
def Rp(K:PySem.W.Frag):R2:=λx y H Q=>∃l b xs zs,x= .ref l/\y= .ref b/\mj K H l xs/\mj K H b zs/\xs.length+zs.length<=acJ/\∀p,H p=none->Q (.ref p) (upd H p (.lst (xs++zs)))
theorem IU:fW X (acB .Add) (Rp X.K):=by
 intro pins s σ H x y v u Q I rx ry h
 obtain⟨l,b,xs,zs,rfl,rfl,hH,hB,hz,q⟩:=h
 cases rx
 cases ry
 obtain⟨its,r,pl,hs⟩:=I.list hH
 obtain⟨its2,r2,U3,hs2⟩:=I.list hB
 have hl:=r.length
 have hl2:=r2.length
 obtain⟨⟨cls,dd,data,sl⟩,ho,hc,n,hd⟩:=id pl.isList
 obtain⟨⟨UO,dd2,data2,sl2⟩,ho2,hc2,n2,hd2⟩:=id U3.isList
 simp only at hc hd hc2 hd2
 subst hc hd hc2 hd2
 have e:its.toArray++its2.toArray=(its++its2).toArray:=by simp
 refine PySem.concat_meets ⟨_,ho,rfl⟩ ⟨_,ho2,rfl⟩ PySem.noFill_list_add PySem.seq_list_add PySem.F.slot_list_add PySem.F.entry_list_add (PySem.F.args_list_add_2 _ _) (list_addW l b its.toArray its2.toArray n n2 dd dd2 sl sl2 (by simp;omega)) ⟨ho,ho2,?_⟩
 rw[e]
 exact⟨.ref _,_,I.MC (t':=s.toks) (r.append r2) (by rw[cY];omega),rfl,q _ I.fresh⟩
def Rq(K:PySem.W.Frag):R2:=λx y H Q=>∃a b ys,x= .ref a/\y= .ref b/\fV K H a []/\fV K H b ys/\Q (.ref b) H
theorem IV:fW X (acB .Add) (Rq X.K):=by
 intro pins s σ H x y v u Q I rx ry h
 obtain⟨a,b,ys,rfl,rfl,ha,hb,q⟩:=h
 cases rx
 cases ry
 obtain⟨its,r1,p1,_⟩:=I.tuple ha
 obtain⟨its2,r2,p2,_⟩:=I.tuple hb
 cases r1
 obtain⟨⟨c1,d1,t1,l1⟩,g1,k1,n1,j1⟩:=id p1
 obtain⟨⟨c2,d2,t2,l2⟩,g2,k2,n2,j2⟩:=id p2
 simp only at k1 j1 k2 j2
 subst k1 j1 k2 j2
 exact PySem.concat_meets ⟨_,g1,rfl⟩ ⟨_,g2,rfl⟩ PySem.noFill_tuple_add PySem.seq_tuple_add PySem.F.slot_tuple_add PySem.F.entry_tuple_add (PySem.F.args_tuple_add_2 _ _) (tuple_addW0 a b #[] its2.toArray n1 n2 d1 d2 l1 l2 (by simp)) ⟨g1,g2,⟨.ref b,H,I,rfl,q⟩⟩
def bQ:hX
 | .int i,.int j,st=> .ok (.int (i+j)) st
 | .str i,.str j,st=>if i.length+j.length<=lim then .ok (.str (i++j)) st else .bad
 | .tup i,.tup j,st=>if i.length+j.length<=lim then .ok (.tup (i++j)) st else .bad
 | .ref l,.ref k,st=>match ao st l,ao st k with
  | some i,some j=>if i.length+j.length<=lim then .ok (.ref st.length) (st++[.lst (i++j)]) else .bad
  | _,_=> .bad
 | _,_,_=> .bad
instance {α:Type}{xs:List α}:Decidable (xs≠[]):=match xs with
 | []=>isFalse (λh=>h rfl)
 | _::_=>isTrue (λh=>by cases h)
theorem M5:kU X (acB .Add) bQ:=⟨_,fW.or Mh (fW.or yS (fW.or Iz (fW.or IU IV))),λx y a b st H m Q S rx ry p=>by
 cases x with
 | int i=>
  cases y with
  | int j=>exact .inl ⟨i,j,aS rx,aS ry,p _ m H Ext.refl S mkInt⟩
  | _=>exact aa p
 | str i=>
  cases y with
  | str j=>
   dsimp only[bQ] at p
   by_cases c:i.length+j.length<=lim
   ·rw[if_pos c] at p
    exact .inr (.inl ⟨i,j,(eX rx).1,(eX ry).1,eI c,p _ m H Ext.refl S (mkStr (vi (eX rx).2 (eX ry).2))⟩)
   ·rw[if_neg c] at p;exact aa p
  | _=>exact aa p
 | tup i=>
  cases y with
  | tup j=>
   dsimp only[bQ] at p
   by_cases c:i.length+j.length<=lim
   ·rw[if_pos c] at p
    by_cases c0:i=[]
    ·subst c0
     unfold aj at rx ry
     obtain⟨a1,xs,rfl,h1,h2⟩:=rx
     obtain⟨a2,ys,rfl,h3,h4⟩:=ry
     have l1:xs=[]:=zh h2.length.symm
     subst l1
     exact .inr (.inr (.inr (.inr ⟨a1,a2,ys,rfl,rfl,fV.of h1,fV.of h3,p (.ref a2) m H Ext.refl S (by rw[lK];unfold aj;exact⟨a2,ys,rfl,h3,h4⟩)⟩)))
    unfold aj at rx ry
    obtain⟨a1,xs,rfl,h1,h2⟩:=rx
    obtain⟨a2,ys,rfl,h3,h4⟩:=ry
    have l1:=h2.length
    have l2:=h4.length
    have n1:xs≠[]:=λz=>by rw[z] at l1;exact c0 (zh l1)
    refine .inr (.inr (.inl ⟨a1,a2,xs,ys,rfl,rfl,fV.of h1,fV.of h3,n1,by rw[<-l1,<-l2];exact eI c,λz=>?_,λ_ q hq=>?_⟩))
    ·rw[z] at l2
     rw[zh l2,jO] at p
     exact p (.ref a1) m H Ext.refl S (by unfold aj;exact⟨a1,xs,rfl,h1,h2⟩)
    have e2:Ext X.K m H m (upd H q (.tup (xs++ys))):=Ext.upd (.inl hq)
    exact p (.ref q) m _ e2 (S.fresh hq) (by unfold aj;exact⟨q,xs++ys,rfl,aH,ai.mono e2 _ _ (h2.append h4)⟩)
   ·rw[if_neg c] at p;exact aa p
  | _=>exact aa p
 | ref l=>
  cases y with
  | ref k=>
   dsimp only[bQ] at p
   unfold aj at rx ry
   obtain⟨a1,rfl,h1⟩:=rx
   obtain⟨a2,rfl,h2⟩:=ry
   cases e1:ao st l with
   | none=>rw[e1] at p;exact aa p
   | some i=>
    cases e2:ao st k with
    | none=>rw[e1,e2] at p;exact aa p
    | some j=>
     rw[e1,e2] at p
     by_cases c:i.length+j.length<=lim
     ·simp only[if_pos c] at p
      obtain⟨xs,q1,q2⟩:=S.read h1 e1
      obtain⟨ys,q3,q4⟩:=S.read h2 e2
      exact .inr (.inr (.inr (.inl ⟨a1,a2,xs,ys,rfl,rfl,q1,q3,by rw[<-q2.length,<-q4.length];exact eI c,λq hq=>jy p Ext.refl S (q2.append q4) q hq⟩)))
     ·simp only[if_neg c] at p;exact aa p
  | _=>exact aa p
 | _=>cases y<;>exact aa p⟩
def sE(n:Nat)(x:PySem.Str):PySem.Str:=⟨(ar n x.cps).foldl (· ++·) #[]⟩
end
open PySem PySem.Spec PySem.SeqAt PyProof.Rows L2
def fm{α β:Type}(f:α->Option β):List α->Option (List β)
 | []=>some []
 | w::ws=>match f w,fm f ws with
  | some d,some ds=>some (d::ds)
  | _,_=>none
def a8(st:Hs):Nat->Wv->Option PyData
 | 0,w=>match w with
  | .aI=>some .none
  | .bl b=>some (.bool b)
  | .int i=>some (.int i)
  | .str x=>some (.str x)
  | _=>none
 | n+1,w=>match w with
  | .aI=>some .none
  | .bl b=>some (.bool b)
  | .int i=>some (.int i)
  | .str x=>some (.str x)
  | .tup ws=>(fm (a8 st n) ws).map .tuple
  | .qN ws=>(fm (a8 st n) ws).map .tuple
  | .ref l=>match ao st l with
   | some ws=>(fm (a8 st n) ws).map .list
   | none=>none
  | .ty _=>none
  | .cls _=>none
  | .mK _=>none
  | .fn _ _=>none
section
variable {X:Cx} {pins:List (acr×Obj)} {σ:St} {H:Hp} {s:acx} {m:Mp} {st:Hs}
def Lb(h:Heap)(n:Nat)(u:acy)(d:PyData):Prop:=∃as,Reads h u d as/\d.canLay0=true/\d.depth<=n
theorem lN{n:Nat}(ih:∀(w:Wv)(a:V)(u:acy)(d:PyData),aj X.K m H w a->RelV a u->a8 st n w=some d->Lb s.heap n u d) :
  ∀(ws:List Wv)(xs:List V)(us:List acy)(ds:List PyData),ai X.K m H ws xs->Vals xs us->fm (a8 st n) ws=some ds->∃as,ReadsAll s.heap us ds as/\uJ ds=true/\uK ds<=n
 | [],xs,us,ds,h,r,e=>by
  unfold ai at h
  subst h
  cases r
  cases e
  exact⟨[],.nil,rfl,bY _⟩
 | w::ws,xs,us,ds,h,r,e=>by
  unfold ai at h
  obtain⟨x,xr,rfl,h1,h2⟩:=h
  cases r with
  | cons r1 r2=>
   unfold fm at e
   cases e1:a8 st n w with
   | none=>rw[e1] at e;cases e
   | some d=>
    cases e2:fm (a8 st n) ws with
    | none=>rw[e1,e2] at e;cases e
    | some dr=>
     rw[e1,e2] at e
     cases e
     obtain⟨as,q1,q2,q3⟩:=ih w x _ d h1 r1 e1
     obtain⟨bs,p1,p2,p3⟩:=lN ih ws xr _ dr h2 r2 e2
     refine⟨as++bs,.cons q1 p1,?_,?_⟩
     ·show(PyData.canLay0 d&&uJ dr)=true
      rw[q2,p2];rfl
     ·show max d.depth (uK dr)<=n
      omega
theorem jz(I:Inv X pins σ H s)(S:bG X.K m st H):∀(n:Nat)(w:Wv)(a:V)(u:acy)(d:PyData),aj X.K m H w a->RelV a u->a8 st n w=some d->Lb s.heap n u d:=by
 intro n
 induction n with
 | zero=>
  intro w a u d h r e
  cases w with
  | aI=>unfold aj at h;subst h;cases r;cases e;exact⟨[],.none,rfl,au _⟩
  | bl b=>unfold aj at h;subst h;cases r;cases e;exact⟨[],.bool b,rfl,au _⟩
  | int i=>unfold aj at h;subst h;obtain⟨t,rfl⟩:=r;cases e;exact⟨[],.int i t,rfl,au _⟩
  | str x=>unfold aj at h;obtain⟨rfl,hx⟩:=h;obtain⟨t,rfl⟩:=r;cases e;exact⟨[],.str x t,hx,au _⟩
  | tup ws=>cases e
  | qN ws=>cases e
  | ref l=>cases e
  | ty t=>cases e
  | cls t=>cases e
  | mK t=>cases e
  | fn fp t=>cases e
 | succ n ih=>
  intro w a u d h r e
  cases w with
  | aI=>unfold aj at h;subst h;cases r;cases e;exact⟨[],.none,rfl,bY _⟩
  | bl b=>unfold aj at h;subst h;cases r;cases e;exact⟨[],.bool b,rfl,bY _⟩
  | int i=>unfold aj at h;subst h;obtain⟨t,rfl⟩:=r;cases e;exact⟨[],.int i t,rfl,bY _⟩
  | str x=>unfold aj at h;obtain⟨rfl,hx⟩:=h;obtain⟨t,rfl⟩:=r;cases e;exact⟨[],.str x t,hx,bY _⟩
  | ty t=>cases e
  | cls t=>cases e
  | mK t=>cases e
  | fn fp t=>cases e
  | tup ws=>
   unfold aj at h
   obtain⟨p,xs,rfl,h1,h2⟩:=h
   cases r
   have e':(fm (a8 st n) ws).map AZ=some d:=e
   cases e2:fm (a8 st n) ws with
   | none=>rw[e2] at e';cases e'
   | some ds=>
    rw[e2] at e'
    cases e'
    obtain⟨its,rv,ht,hz⟩:=I.tuple (fV.of h1)
    obtain⟨as,q1,q2,q3⟩:=lN ih ws xs its ds h2 rv e2
    obtain⟨o,ho,hc,k,hd⟩:=ht
    exact⟨as,.tuple ho hc hd (by simpa using q1),q2,uL q3⟩
  | qN ws=>
   unfold aj at h
   obtain⟨p,xs,rfl,h1,h2⟩:=h
   cases r
   have e':(fm (a8 st n) ws).map AZ=some d:=e
   cases e2:fm (a8 st n) ws with
   | none=>rw[e2] at e';cases e'
   | some ds=>
    rw[e2] at e'
    cases e'
    obtain⟨its,rv,ht,hz⟩:=I.tuple (.inr h1)
    obtain⟨as,q1,q2,q3⟩:=lN ih ws xs its ds h2 rv e2
    obtain⟨o,ho,hc,k,hd⟩:=ht
    exact⟨as,.tuple ho hc hd (by simpa using q1),q2,uL q3⟩
  | ref l=>
   unfold aj at h
   obtain⟨p,rfl,h1⟩:=h
   cases r
   have e':(match ao st l with | some ws=>(fm (a8 st n) ws).map vj | none=>none)=some d:=e
   cases e1:ao st l with
   | none=>rw[e1] at e';cases e'
   | some ws=>
    rw[e1] at e'
    have e'':(fm (a8 st n) ws).map vj=some d:=e'
    cases e2:fm (a8 st n) ws with
    | none=>rw[e2] at e'';cases e''
    | some ds=>
     rw[e2] at e''
     cases e''
     obtain⟨xs,hq,h2⟩:=S.read h1 e1
     obtain⟨its,rv,ht,hz⟩:=I.list hq
     obtain⟨as,q1,q2,q3⟩:=lN ih ws xs its ds h2 rv e2
     obtain⟨o,ho,hc,k,hd⟩:=ht.isList
     exact⟨_,.list ho hc hd (by simpa using q1),q2,uL q3⟩
end
def oEq:hX:=λx y st=>match a8 st 20 x,a8 st 20 y with
 | some a,some b=> .ok (.bl (bf a b)) st
 | _,_=> .bad
def oI:hX:=λx y st=>match a8 st 20 x,a8 st 20 y with
 | some a,some b=> .ok (.bl (!PyData.eqv a b)) st
 | _,_=> .bad
section
variable {X:Cx}
def Rr(K:PySem.W.Frag)(neg:Bool):R2:=λa b H Q=>∃m st x y da db,bG K m st H/\aj K m H x a/\aj K m H y b/\a8 st 20 x=some da/\a8 st 20 y=some db/\Q (.bl (if neg then !PyData.eqv da db else bf da db)) H
theorem lO{n:Nat}{d:PyData}(hn:n<=64)(h:d.canLay0=true)(k:d.depth<=n):shaped d=true:=by
 unfold shaped
 rw[h,decide_eq_true (bg k hn)]
 rfl
theorem M6(hu:X.A.units+64 < cLine):fW X (acF .Eq) (Rr X.K false):=by
 intro pins s σ H a b v u Q I rx ry h
 obtain⟨m,st,x,y,da,db,S,h1,h2,e1,e2,q⟩:=h
 obtain⟨as,q1,q2,q3⟩:=jz I S 20 x a v da h1 rx e1
 obtain⟨bs,p1,p2,p3⟩:=jz I S 20 y b u db h2 ry e2
 exact eq_dataH q1 p1 (lO (by decide) q2 q3) (lO (by decide) p2 p3) hu ⟨.bl _,H,I,rfl,q⟩
theorem M7(hu:X.A.units+64 < cLine):fW X (acF .NotEq) (Rr X.K true):=by
 intro pins s σ H a b v u Q I rx ry h
 obtain⟨m,st,x,y,da,db,S,h1,h2,e1,e2,q⟩:=h
 obtain⟨as,q1,q2,q3⟩:=jz I S 20 x a v da h1 rx e1
 obtain⟨bs,p1,p2,p3⟩:=jz I S 20 y b u db h2 ry e2
 exact ne_dataH q1 p1 (lO (by decide) q2 q3) (lO (by decide) p2 p3) hu ⟨.bl _,H,I,rfl,q⟩
theorem Lc(hu:X.A.units+64 < cLine):kU X (acF .Eq) oEq:=⟨_,M6 hu,λx y a b st H m Q S rx ry p=>by
 unfold oEq at p
 cases e1:a8 st 20 x with
 | none=>rw[e1] at p;exact aa p
 | some da=>
  cases e2:a8 st 20 y with
  | none=>rw[e1,e2] at p;exact aa p
  | some db=>
   rw[e1,e2] at p
   exact⟨m,st,x,y,da,db,S,rx,ry,e1,e2,p _ m H Ext.refl S jT⟩⟩
theorem Ld(hu:X.A.units+64 < cLine):kU X (acF .NotEq) oI:=⟨_,M7 hu,λx y a b st H m Q S rx ry p=>by
 unfold oI at p
 cases e1:a8 st 20 x with
 | none=>rw[e1] at p;exact aa p
 | some da=>
  cases e2:a8 st 20 y with
  | none=>rw[e1,e2] at p;exact aa p
  | some db=>
   rw[e1,e2] at p
   exact⟨m,st,x,y,da,db,S,rx,ry,e1,e2,p _ m H Ext.refl S jT⟩⟩
def nN:Wv->Bool
 | .aI=>true
 | .bl _=>true
 | .int _=>true
 | .str _=>true
 | _=>false
def U4:Wv->Wv->Bool
 | .aI,.aI=>true
 | .bl a,.bl b=>a == b
 | .bl a,.int b=>(if a then 1 else 0) == b
 | .int a,.bl b=>a == (if b then 1 else 0)
 | .int a,.int b=>a == b
 | .str a,.str b=>a == b
 | _,_=>false
def nO(st:Hs):Wv->Option (List Wv)
 | .tup ws=>some ws
 | .qN ws=>some ws
 | .ref l=>ao st l
 | _=>none
def U5:hX:=λx y st=>match nO st y with
 | some ws=>if nN x=true/\ws.all nN=true then .ok (.bl (ws.any λz=>U4 z x)) st else .bad
 | none=> .bad
theorem w6{m:Mp}{H:Hp}{x:Wv}{a:V}(h:aj X.K m H x a)(f:nN x=true):my a=true:=by
 cases x with
 | aI=>unfold aj at h;subst h;rfl
 | bl b=>unfold aj at h;subst h;rfl
 | int b=>unfold aj at h;subst h;rfl
 | str b=>unfold aj at h;obtain⟨h,_⟩:=h;subst h;rfl
 | _=>cases f
theorem IW{m:Mp}{H:Hp}{x y:Wv}{a b:V}(h:aj X.K m H x a)(k:aj X.K m H y b)(f:nN x=true)(g:nN y=true):ID a b=U4 x y:=by
 cases x with
 | aI=>
  unfold aj at h;subst h
  cases y with
  | str j=>unfold aj at k;obtain⟨k,_⟩:=k;subst k;rfl
  | tup j=>cases g
  | qN j=>cases g
  | ref j=>cases g
  | ty j=>cases g
  | cls j=>cases g
  | mK j=>cases g
  | fn fp j=>cases g
  | _=>unfold aj at k;subst k;rfl
 | bl i=>
  unfold aj at h;subst h
  cases y with
  | str j=>unfold aj at k;obtain⟨k,_⟩:=k;subst k;rfl
  | tup j=>cases g
  | qN j=>cases g
  | ref j=>cases g
  | ty j=>cases g
  | cls j=>cases g
  | mK j=>cases g
  | fn fp j=>cases g
  | _=>unfold aj at k;subst k;rfl
 | int i=>
  unfold aj at h;subst h
  cases y with
  | str j=>unfold aj at k;obtain⟨k,_⟩:=k;subst k;rfl
  | tup j=>cases g
  | qN j=>cases g
  | ref j=>cases g
  | ty j=>cases g
  | cls j=>cases g
  | mK j=>cases g
  | fn fp j=>cases g
  | _=>unfold aj at k;subst k;rfl
 | str i=>
  unfold aj at h;obtain⟨h,_⟩:=h;subst h
  cases y with
  | str j=>unfold aj at k;obtain⟨k,_⟩:=k;subst k;rfl
  | tup j=>cases g
  | qN j=>cases g
  | ref j=>cases g
  | ty j=>cases g
  | cls j=>cases g
  | mK j=>cases g
  | fn fp j=>cases g
  | _=>unfold aj at k;subst k;rfl
 | _=>cases f
theorem tT{m:Mp}{H:Hp}{x:Wv}{a:V}(h:aj X.K m H x a)(f:nN x=true):∀{ws:List Wv}{xs:List V},ai X.K m H ws xs->ws.all nN=true->xs.all my=true/\Tr a xs=ws.any λz=>U4 z x
 | [],xs,r,_=>by unfold ai at r;subst r;exact⟨rfl,rfl⟩
 | w::ws,xs,r,g=>by
  unfold ai at r
  obtain⟨y,yr,rfl,r1,r2⟩:=r
  rw[dh,cz] at g
  obtain⟨q1,q2⟩:=tT h f r2 g.2
  constructor
  ·rw[dh,w6 r1 g.1,q1];rfl
  ·unfold Tr at q2 ⊢
   rw[fY,fY,IW r1 h g.1 f,q2]
theorem vm{m:Mp}{H:Hp}{st:Hs}{y:Wv}{b:V}{ws:List Wv}(S:bG X.K m st H)(h:aj X.K m H y b)(e:nO st y=some ws):∃p xs,b= .ref p/\(mj X.K H p xs\/fV X.K H p xs)/\ai X.K m H ws xs:=by
 cases y with
 | tup zs=>
  cases e
  unfold aj at h
  obtain⟨p,xs,e1,e2,e3⟩:=h
  exact⟨p,xs,e1,.inr (fV.of e2),e3⟩
 | qN zs=>
  cases e
  unfold aj at h
  obtain⟨p,xs,e1,e2,e3⟩:=h
  exact⟨p,xs,e1,.inr (.inr e2),e3⟩
 | ref l=>
  unfold aj at h
  obtain⟨p,e1,e2⟩:=h
  obtain⟨xs,q1,q2⟩:=S.read e2 e
  exact⟨p,xs,e1,.inl q1,q2⟩
 | _=>cases e
theorem Rt:kU X (acF .In) U5:=⟨_,B8,λx y a b st H m Q S rx ry p=>by
 unfold U5 at p
 cases e:nO st y with
 | none=>rw[e] at p;exact aa p
 | some ws=>
  rw[e] at p
  by_cases c:nN x=true/\ws.all nN=true
  ·simp only[if_pos c] at p
   obtain⟨q,xs,e1,e2,e3⟩:=vm S ry e
   obtain⟨f1,f2⟩:=tT rx c.1 e3 c.2
   refine⟨q,xs,e1,e2,w6 rx c.1,f1,?_⟩
   rw[f2]
   exact p _ m H Ext.refl S jT
  ·simp only[if_neg c] at p;exact aa p⟩
def bU:hX
 | .str z,.int i,st=>if z.length<=lim then(match mv z.cps.toList i with | some c=> .ok (.str ⟨#[c]⟩) st | none=> .bad) else .bad
 | x,.int i,st=>match nO st x with
  | some ws=>(match mv ws i with | some w=> .ok w st | none=> .bad)
  | none=> .bad
 | _,_,_=> .bad
theorem IX{m:Mp}{H:Hp}{ws:List Wv}{xs:List V}{i:Int}{w:Wv}(r:ai X.K m H ws xs)(h:mv ws i=some w):∃x,mv xs i=some x/\aj X.K m H w x:=by
 unfold mv at h ⊢
 rw[<-r.length]
 cases e:DW ws.length i with
 | none=>rw[e] at h;cases h
 | some j=>rw[e] at h;exact r.get h
theorem IY{α:Type}{xs:List α}{i:Int}{v:α}(h:mv xs i=some v):v∈xs:=by
 obtain⟨j,_,h2,_⟩:=p9 h
 exact uS h2
theorem Cd{z:PySem.Str}{c:Nat}(h:aZ z=true)(hc:c∈z.cps.toList):aZ ⟨#[c]⟩=true:=by
 unfold aZ at h ⊢
 rw[Le] at h
 have q:=h c (by simpa using hc)
 simpa using q
theorem Ru{a b:Expr}{ga gb:GE}{pos:Pos}(ha:JE X a ga)(hb:JE X b gb)(hs:AM b:=by exact λ_ _=>rfl):JE X (.Subscript a b pos) (ag bU ga gb) :=
 JE.of (Q0 Mx aY aY hs) λρ st σ H m Q S R p=>AU (op:=bU) (λx y a b st H m Q S rx ry p=>by
  have seqs:∀(i:Int),y= .int i->(match nO st x with | some ws=>(match mv ws i with | some w=>Re.ok w st | none=> .bad) | none=> .bad)=bU x y st->Yi X.K a b H Q:=λi hy hp=>by
   subst hy
   rw[<-hp] at p
   cases e:nO st x with
   | none=>rw[e] at p;exact aa p
   | some ws=>
    rw[e] at p
    dsimp only at p
    cases e1:mv ws i with
    | none=>rw[e1] at p;exact aa p
    | some w=>
     rw[e1] at p
     obtain⟨q,xs,e2,e3,e4⟩:=vm S rx e
     obtain⟨v,f1,f2⟩:=IX e4 e1
     rcases e3 with e3 | e3
     ·exact .inl ⟨q,xs,i,v,e2,aS ry,e3,f1,p v m H Ext.refl S f2⟩
     ·exact .inr (.inl ⟨q,xs,i,v,e2,aS ry,e3,f1,p v m H Ext.refl S f2⟩)
  cases y with
  | int i=>
   cases x with
   | str z=>
    dsimp only[bU] at p
    by_cases c:z.length<=lim
    ·simp only[if_pos c] at p
     cases e1:mv z.cps.toList i with
     | none=>rw[e1] at p;exact aa p
     | some ch=>
      rw[e1] at p
      exact .inr (.inr ⟨z,i,ch,(eX rx).1,aS ry,eI c,e1,p _ m H Ext.refl S (mkStr (Cd (eX rx).2 (IY e1)))⟩)
    ·simp only[if_neg c] at p;exact aa p
   | _=>exact seqs i rfl rfl
  | _=>cases x<;>exact aa p) ha hb S R p
abbrev GO:=b9->Hs->Re (Option Int)
def SO(X:Cx)(e:Option Expr):TO:=λσ H Q=>∀(pins:List (acr×Obj))(s:acx),Inv X pins σ H s->acL (model X.prog X.w) X.A (evalPart e X.env) (λu s'=>∃o H',Inv X pins σ H' s'/\IsPart u o/\Q o H') X.xe s
theorem tU{e:Option Expr}:PO X e (SO X e):=λpins s _ _ _ I h=>h pins s I
def ZR(K:PySem.W.Frag)(m:Mp)(H:Hp)(Q:Option Int->Hp->Prop)(o:Option Int)(st:Hs):Prop:=∀(m':Mp)(H':Hp),Ext K m H m' H'->bG K m' st H'->Q o H'
def JO(X:Cx)(e:Option Expr)(g:GO):Prop:=∀(ρ:b9)(st:Hs)(σ:St)(H:Hp)(m:Mp)(Q:Option Int->Hp->Prop),bG X.K m st H->aA X.K m H ρ σ->az X σ m H (g ρ st) (ZR X.K m H Q)->SO X e σ H Q
def fo:GO:=λ_ st=> .ok none st
def jA(g:GE):GO:=λρ st=>(g ρ st).bind λw st1=>match w with
 | .int i=> .ok (some i) st1
 | _=> .bad
theorem IZ:JO X none fo:=λρ st σ H m Q S R p pins s I=>Iw pins s σ H Q I (p m H Ext.refl S)
theorem I0{e:Expr}{g:GE}(h:JE X e g):JO X (some e) (jA g):=λρ st σ H m Q S R p pins s I=>
 Iy aY pins s σ H Q I (h.go S R (az.bind p) λw st1 v m1 H1 p1 e1 S1 r1=>by
  cases w with
  | int i=>exact⟨i,aS r1,p1 m1 H1 e1 S1⟩
  | _=>exact aa p1)
theorem JO.go{e:Option Expr}{g:GO}{ρ:b9}{st:Hs}{σ:St}{H:Hp}{m:Mp}{T:Option Int->Hp->Prop}{ok:Option Int->Hs->Prop}(h:JO X e g)(S:bG X.K m st H)(R:aA X.K m H ρ σ)(p:az X σ m H (g ρ st) ok)
  (k:∀(b:Option Int)(st1:Hs)(m1:Mp)(H1:Hp),ok b st1->Ext X.K m H m1 H1->bG X.K m1 st1 H1->T b H1):SO X e σ H T :=
 h ρ st σ H m T S R (p.imp Ext.refl λb st1 q m1 H1 e1 s1=>k b st1 m1 H1 q e1 s1)
def ml(xs:List Wv)(lo hi:Option Int):List Wv:=(xs.drop (HT.dD xs.length 0 lo)).take (HT.dD xs.length xs.length hi - HT.dD xs.length 0 lo)
def Qj(x:Wv)(lo hi:Option Int)(st:Hs):Re Wv:=match x with
 | .tup ws=>if HT.dD ws.length 0 lo=0/\HT.dD ws.length ws.length hi=ws.length then .bad else .ok (.tup (ml ws lo hi)) st
 | .ref l=>match ao st l with
  | some ws=> .ok (.ref st.length) (st++[.lst (ml ws lo hi)])
  | none=> .bad
 | _=> .bad
theorem vn{m:Mp}{H:Hp}{ws:List Wv}{xs:List V}{lo hi:Option Int}(r:ai X.K m H ws xs):ai X.K m H (ml ws lo hi) (sy xs lo hi):=by
 unfold ml sy
 rw[<-r.length]
 exact(r.drop _).take _
def zi(ga:GE)(gl gh:GO):GE:=λρ st=>(ga ρ st).bind λx st1=>(gl ρ st1).bind λlo st2=>(gh ρ st2).bind λhi st3=>Qj x lo hi st3
theorem w8{a:Expr}{lo hi:Option Expr}{ga:GE}{gl gh:GO}{pos p2:Pos}(ha:JE X a ga)(hl:JO X lo gl)(hh:JO X hi gh):JE X (.Subscript a (.Slice lo hi none p2) pos) (zi ga gl gh):=by
 refine JE.of (qE (DV.or IC) aY tU tU) λρ st σ H m Q S R p=>?_
 refine ha.go S R (az.bind p) λx st1 v m1 H1 p1 e1 S1 rx=>?_
 refine hl.go S1 (R.mono e1) ((az.bind p1).imp e1 λ_ _ q=>q) λl st2 m2 H2 p2 e2 S2=>?_
 refine hh.go S2 (R.mono (e1.trans e2)) ((az.bind p2).imp (e1.trans e2) λ_ _ q=>q) λh st3 m3 H3 p3 e3 S3=>?_
 have Ce:=e1.trans (e2.trans e3)
 have Tz:=aj.mono (e2.trans e3) _ _ rx
 cases x with
 | tup ws=>
  have nR:gR X σ m H (if HT.dD ws.length 0 l=0/\HT.dD ws.length ws.length h=ws.length then .bad else .ok (.tup (ml ws l h)) st3) Q:=p3
  by_cases c:HT.dD ws.length 0 l=0/\HT.dD ws.length ws.length h=ws.length
  ·rw[if_pos c] at nR;exact aa nR
  ·rw[if_neg c] at nR
   unfold aj at Tz
   obtain⟨q,xs,rfl,f1,f2⟩:=Tz
   refine .inl ⟨q,xs,rfl,fV.of f1,by rw[<-f2.length];exact c,λr hr=>?_⟩
   have e4:Ext X.K m3 H3 m3 (upd H3 r (.tup (sy xs l h))):=Ext.upd (.inl hr)
   exact nR (.ref r) m3 _ (Ce.trans e4) (S3.fresh hr) (by unfold aj;exact⟨r,_,rfl,aH,ai.mono e4 _ _ (vn f2)⟩)
 | ref k=>
  have nR:gR X σ m H (match ao st3 k with | some ws=> .ok (.ref st3.length) (st3++[.lst (ml ws l h)]) | none=> .bad) Q:=p3
  unfold aj at Tz
  obtain⟨q,rfl,f1⟩:=Tz
  cases e:ao st3 k with
  | none=>rw[e] at nR;exact aa nR
  | some ws=>
   rw[e] at nR
   obtain⟨xs,g1,g2⟩:=S3.read f1 e
   exact .inr ⟨q,xs,rfl,g1,λr hr=>jy nR Ce S3 (vn g2) r hr⟩
 | _=>exact aa p3
end
section
variable {X:Cx}
def eG(X:Cx)(f:acy)(op:List Wv->Hs->Re Wv):Prop:=∃r,cV X f r/\∀(ws:List Wv)(vs:List V)(st:Hs)(H:Hp)(m:Mp)(Q:VK),bG X.K m st H->ai X.K m H ws vs->cW X.K m H (op ws st) Q->r vs H Q
def aw(op:List Wv->Hs->Re Wv)(g:GA):GE:=λρ st=>(g ρ st).bind λws st1=>(op ws st1).oH
theorem En{x:Str}{id:String}{p pos:Pos}{e:Expr}{es:List Expr}{g:GA}{op:List Wv->Hs->Re Wv}(hc:eG X (.builtin id) op)(hg:Gl X x)(hm:X.mg x=none)(hv:acC x=some (.builtin id))(ha:JA X (e::es) g)
  (hn:x≠"__name__":=by decide)(hdb:(x == ("__debug__":Str))=false:=by decide)(he:acK (e::es) X.env=(false,eval e X.env)::acK es X.env:=by rfl)(hpl:(backTo pos (acK es X.env)).any (·.1)=false:=by rfl) :
  JE X (.Call (.Name x p) (e::es) [] pos) (aw op g):=by
 obtain⟨r,h1,h2⟩:=hc
 refine JE.of (DS h1 hg hm hv ku hn hdb he hpl) λρ st σ H m Q S R p=>?_
 exact ha.go S R (az.bind p) λws st1 vs m1 H1 p1 e1 S1 rs=>h2 ws vs st1 H1 m1 Q S1 rs (cW.shift (az.oH p1) e1)
theorem Cf{x:Str}{T:String}{p pos:Pos}{e:Expr}{es:List Expr}{g:GA}{op:List Wv->Hs->Re Wv}(hc:eG X (.type T) op)(hg:Gl X x)(hm:X.mg x=none)(hv:acC x=some (.type T))(ha:JA X (e::es) g)
  (hn:x≠"__name__":=by decide)(hdb:(x == ("__debug__":Str))=false:=by decide)(he:acK (e::es) X.env=(false,eval e X.env)::acK es X.env:=by rfl)(hpl:(backTo pos (acK es X.env)).any (·.1)=false:=by rfl) :
  JE X (.Call (.Name x p) (e::es) [] pos) (aw op g):=by
 obtain⟨r,h1,h2⟩:=hc
 refine JE.of (B7 h1 hg hm hv ku hn hdb he hpl) λρ st σ H m Q S R p=>?_
 exact ha.go S R (az.bind p) λws st1 vs m1 H1 p1 e1 S1 rs=>h2 ws vs st1 H1 m1 Q S1 rs (cW.shift (az.oH p1) e1)
theorem kG{m:Mp}{H:Hp}{w:Wv}{vs:List V}(r:ai X.K m H [w] vs):∃v,vs=[v]/\aj X.K m H w v:=by
 unfold ai at r
 obtain⟨v,t,rfl,h1,h2⟩:=r
 unfold ai at h2
 subst h2
 exact⟨v,rfl,h1⟩
theorem w9{m:Mp}{H:Hp}{w w':Wv}{vs:List V}(r:ai X.K m H [w,w'] vs):∃v v',vs=[v,v']/\aj X.K m H w v/\aj X.K m H w' v':=by
 unfold ai at r
 obtain⟨v,t,rfl,h1,h2⟩:=r
 obtain⟨v',rfl,h3⟩:=kG h2
 exact⟨v,v',rfl,h1,h3⟩
def gS:List Wv->Hs->Re Wv
 | [.str z],st=>if z.length<=lim then .ok (.int z.length) st else .bad
 | [x],st=>match nO st x with
  | some ws=> .ok (.int ws.length) st
  | none=> .bad
 | _,_=> .bad
theorem Eo:eG X (.builtin "len") gS:=⟨_,uX.or uY,λws vs st H m Q S r p=>by
 match ws,r,p with
 | [],r,p=>exact aa p
 | x::y::t,r,p=>cases x<;>exact aa p
 | [x],r,p=>
  obtain⟨v,rfl,rx⟩:=kG r
  have seqs:(match nO st x with | some ws=>Re.ok (Wv.int ws.length) st | none=> .bad)=gS [x] st->(∃p ys,[v]=[V.ref p]/\(mj X.K H p ys\/fV X.K H p ys)/\Q (.int ys.length) H):=λhp=>by
   rw[<-hp] at p
   cases e:nO st x with
   | none=>rw[e] at p;exact aa p
   | some ws=>
    rw[e] at p
    obtain⟨q,xs,rfl,e2,e3⟩:=vm S rx e
    refine⟨q,xs,rfl,e2,?_⟩
    rw[<-e3.length]
    exact p _ m H Ext.refl S mkInt
  cases x with
  | str z=>
   have p':cW X.K m H (if z.length<=lim then .ok (.int z.length) st else .bad) Q:=p
   by_cases c:z.length<=lim
   ·rw[if_pos c] at p'
    obtain⟨rfl,_⟩:=eX rx
    exact .inr ⟨z,rfl,eI c,p' _ m H Ext.refl S mkInt⟩
   ·rw[if_neg c] at p';exact aa p'
  | _=>exact .inl (seqs rfl)⟩
def I_:List Wv->Hs->Re Wv
 | [.int i],st=> .ok (.int (if i < 0 then -i else i)) st
 | _,_=> .bad
theorem M8:eG X (.builtin "abs") I_:=⟨_,DQ,λws vs st H m Q S r p=>by
 match ws,r,p with
 | [],r,p=>exact aa p
 | x::y::t,r,p=>cases x<;>exact aa p
 | [x],r,p=>
  obtain⟨v,rfl,rx⟩:=kG r
  cases x with
  | int i=>cases aS rx;exact⟨i,rfl,p _ m H Ext.refl S mkInt⟩
  | _=>exact aa p⟩
def TC(st:Hs)(T:String):Wv->Option Bool
 | .aI=>some false
 | .bl _=>some (T == "bool"||T == "int")
 | .int _=>some (T == "int")
 | .str _=>some (T == "str")
 | .tup _=>some (T == "tuple")
 | .qN _=>none
 | .ref l=>(ao st l).map λ_=>T == "list"
 | .ty _=>none
 | .cls _=>none
 | .mK _=>none
 | .fn _ _=>none
def Ep(T:String):Bool:=T == "int"||T == "str"||T == "bool"||T == "tuple"||T == "list"
def Rv:List Wv->Hs->Re Wv
 | [x,.ty T],st=>if Ep T=true then(match TC st T x with | some b=> .ok (.bl b) st | none=> .bad) else .bad
 | _,_=> .bad
def U7(K:PySem.W.Frag):List V->Hp->VK->Prop:=λvs H Q=>∃m st x T v b,vs=[v,.ty T]/\bG K m st H/\aj K m H x v/\Ep T=true/\TC st T x=some b/\Q (.bl b) H
theorem Er:cV X (.builtin "isinstance") (U7 X.K):=by
 intro pins s σ H xs us Q I r h
 obtain⟨m,st,x,T,v,b,rfl,S,rx,hT,hb,q⟩:=h
 obtain⟨u,u',rfl,r1,r2⟩:=vals2 r
 cases r2
 have fin:∀tk,EP X pins σ Q (.bool b) { s with toks:=tk }:=λtk=>⟨.bl b,H,I.tok tk,rfl,q⟩
 have Es:EP X pins σ Q (.bool b) s:=⟨.bl b,H,I,rfl,q⟩
 unfold Ep at hT
 simp only[Bool.or_eq_true,beq_iff_eq] at hT
 cases x with
 | aI=>
  unfold aj at rx;subst rx;cases r1
  cases hb
  rcases hT with (((rfl | rfl) | rfl) | rfl) | rfl<;>
   exact call_isinstance (isinstance_false_none (by decide) (by kernel_rfl) (by rw[acH];kernel_rfl)) (fin _)
 | bl c=>
  unfold aj at rx;subst rx;cases r1
  rcases hT with (((rfl | rfl) | rfl) | rfl) | rfl<;>cases hb<;>first
   | exact call_isinstance_yes (Tx:="bool") rfl (by kernel_rfl) (by rw[acH];kernel_rfl) Es
   | exact call_isinstance (isinstance_false_bool (by decide) (by kernel_rfl) (by rw[acH];kernel_rfl)) (fin _)
 | int c=>
  unfold aj at rx;subst rx;obtain⟨t,rfl⟩:=r1
  rcases hT with (((rfl | rfl) | rfl) | rfl) | rfl<;>cases hb<;>first
   | exact call_isinstance_yes (Tx:="int") (typeIs_int s c t) (by kernel_rfl) (by rw[acH];kernel_rfl) Es
   | exact call_isinstance (isinstance_false_int (by decide) (by kernel_rfl) (by rw[acH];kernel_rfl)) (fin _)
 | str c=>
  obtain⟨rfl,_⟩:=eX rx;obtain⟨t,rfl⟩:=r1
  rcases hT with (((rfl | rfl) | rfl) | rfl) | rfl<;>cases hb<;>first
   | exact call_isinstance_yes (Tx:="str") (typeIs_str s c t) (by kernel_rfl) (by rw[acH];kernel_rfl) Es
   | exact call_isinstance (isinstance_false_str (by decide) (by kernel_rfl) (by rw[acH];kernel_rfl)) (fin _)
 | qN ws=>cases hb
 | tup ws=>
  unfold aj at rx;obtain⟨a,xs,rfl,h1,h2⟩:=rx;cases r1
  obtain⟨its,rv,ht,hz⟩:=I.tuple (fV.of h1)
  have hty:=ht.typeIs
  obtain⟨o,ho,hc,k,hd⟩:=ht
  rcases hT with (((rfl | rfl) | rfl) | rfl) | rfl<;>cases hb<;>first
   | exact call_isinstance_yes (Tx:="tuple") hty (by kernel_rfl) (by rw[acH];kernel_rfl) Es
   | exact call_isinstance (isinstance_false_tuple (by decide) (by kernel_rfl) (by rw[acH];kernel_rfl)) ⟨⟨o,ho,hc⟩,fin _⟩
 | ref l=>
  unfold aj at rx;obtain⟨a,rfl,h1⟩:=rx;cases r1
  have hb':(ao st l).map (λ_=>T == "list")=some b:=hb
  cases e:ao st l with
  | none=>rw[e] at hb';cases hb'
  | some ws=>
   rw[e] at hb'
   obtain⟨xs,hq,h2⟩:=S.read h1 e
   obtain⟨its,rv,ht,hz⟩:=I.list hq
   have hty:=ht.isList.typeIs
   obtain⟨o,ho,hc,k,hd⟩:=ht.isList
   rcases hT with (((rfl | rfl) | rfl) | rfl) | rfl<;>cases hb'<;>first
    | exact call_isinstance_yes (Tx:="list") hty (by kernel_rfl) (by rw[acH];kernel_rfl) Es
    | exact call_isinstance (isinstance_false_list (by decide) (by kernel_rfl) (by rw[acH];kernel_rfl)) ⟨⟨o,ho,hc⟩,fin _⟩
 | ty t=>cases hb
 | cls t=>cases hb
 | mK t=>cases hb
 | fn fp t=>cases hb
theorem M9:eG X (.builtin "isinstance") Rv:=⟨_,Er,λws vs st H m Q S r p=>by
 match ws,r,p with
 | [],r,p=>exact aa p
 | [x],r,p=>cases x<;>exact aa p
 | x::y::z::t,r,p=>cases y<;>exact aa p
 | [x,y],r,p=>
  obtain⟨v,v',rfl,rx,ry⟩:=w9 r
  cases y with
  | ty T=>
   unfold aj at ry
   subst ry
   have p':cW X.K m H (if Ep T=true then(match TC st T x with | some b=> .ok (.bl b) st | none=> .bad) else .bad) Q:=p
   by_cases c:Ep T=true
   ·rw[if_pos c] at p'
    cases e:TC st T x with
    | none=>rw[e] at p';exact aa p'
    | some b=>rw[e] at p';exact⟨m,st,x,T,v,b,rfl,S,rx,c,e,p' _ m H Ext.refl S jT⟩
   ·rw[if_neg c] at p';exact aa p'
  | _=>exact aa p⟩
def bK:GS:=λρ st=> .nx ρ st
def aF(g h:GS):GS:=λρ st=>match g ρ st with
 | .nx ρ' st'=>h ρ' st'
 | r=>r
theorem Ja:nj X [] bK:=nj.of HX λρ st σ H m D S R p=>p σ m H Ext.refl S R
theorem Et{s:Stmt}{rest:List Stmt}{g h:GS}(h1:JS X s g)(h2:nj X rest h):nj X (s::rest) (aF g h) :=
 nj.of (DH K9 gE) λρ st σ H m D S R p=>h1 ρ st σ H m _ S R (by
  unfold aF at p
  cases e:g ρ st with
  | nx ρ' st'=>rw[e] at p;exact λσ' m' H' e' S' R'=>h2 ρ' st' σ' H' m' D S' R' (aJ.shift p e')
  | rt w st'=>rw[e] at p;exact p
  | bk ρ' st'=>rw[e] at p;exact p
  | ct ρ' st'=>rw[e] at p;exact p
  | err c ρ' st'=>rw[e] at p;exact p
  | bad=>rw[e] at p;exact p)
theorem Jb{s:Stmt}{g:GS}(h1:JS X s g):nj X [s] g:=nj.of (HY K9) λρ st σ H m D S R p=>h1 ρ st σ H m D S R p
def bR(g:GE):GS:=λρ st=>(g ρ st).bJ ρ λw st'=> .rt w st'
theorem M_{e:Expr}{g:GE}{pos:Pos}(h:JE X e g):JS X (.Return (some e) pos) (bR g) :=
 JS.of (Ma aY) λρ st σ H m D S R p=>h.go S R (aJ.di R p) λw st1 v m1 H1 q e1 S1 r1=>q v m1 H1 e1 S1 r1
theorem Jc{pos:Pos}:JS X (.Pass pos) bK:=JS.of HZ λρ st σ H m D S R p=>p σ m H Ext.refl S R
def fe(g:GE):GS:=λρ st=>(g ρ st).bJ ρ λ_ st'=> .nx ρ st'
theorem Jd{e:Expr}{g:GE}{pos:Pos}(h:JE X e g)(hs:swapsWith e none pos.line X.env=pure false:=by rfl):JS X (.Expr e pos) (fe g) :=
 JS.of (H_ aY hs) λρ st σ H m D S R p=>h.go S R (aJ.di R p) λw st1 v m1 H1 q e1 S1 r1=>q σ m1 H1 e1 S1 (R.mono e1)
def kH(gt:GT)(ga gb:GS):GS:=λρ st=>(gt ρ st).bJ ρ λb st'=>if b=true then ga ρ st' else gb ρ st'
theorem Rw{c:Expr}{a b:List Stmt}{gt:GT}{ga gb:GS}{pos:Pos}(hc:JT X c gt)(ha:nj X a ga)(hb:nj X b gb):JS X (.If c a b pos) (kH gt ga gb) :=
 JS.of (QF qQ gE gE) λρ st σ H m D S R p=>hc.go S R (aJ.di R p) λk st1 m1 H1 q e1 S1=>by
  cases k with
  | true=>rw[if_pos rfl] at q ⊢;exact ha ρ st1 σ H1 m1 D S1 (R.mono e1) (aJ.shift q e1)
  | false=>rw[if_neg bD] at q ⊢;exact hb ρ st1 σ H1 m1 D S1 (R.mono e1) (aJ.shift q e1)
def a_(i:Nat)(g:GE):GS:=λρ st=>(g ρ st).bJ ρ λw st'=> .nx (ρ.set i (some w)) st'
theorem zj(i:Nat){x:Str}{e:Expr}{g:GE}{pos pos':Pos}(hN:X.N.Nodup)(h:JE X e g)(hi:X.N[i]? =some x:=by rfl)(hx:Loc X.env.scope x:=by first | exact Or.inl rfl | exact lM rfl)(hs:swapsWith e (some (.Name x pos')) pos.line X.env=pure false:=by rfl)
  (hf:X.fn x=true\/X.env.scope.names.lookup x=some .local:=by first | exact .inl rfl | exact .inr rfl | assumption):JS X (.Assign [.Name x pos'] e pos) (a_ i g) :=
 JS.of (Mc hN hi hx aY hs hf) λρ st σ H m D S R p=>h.go S R (aJ.di R p) λw st1 v m1 H1 q e1 S1 r1=>q _ m1 H1 e1 S1 ((R.mono e1).set i r1)
def b_:GS:=λ_ _=> .bad
theorem bE{s:Stmt}:JS X s b_:=JS.of DJ λρ st σ H m D S R p=>p
theorem Cg{s:List Stmt}:nj X s b_:=nj.of B2 λρ st σ H m D S R p=>p
def U8(o i v:Wv)(ρ:b9)(st:Hs):Rs:=match o,i with
 | .ref l,.int k=>match st[l]? with
  | some (.lst ws)=>(match DW ws.length k with | some j=> .nx ρ (st.set l (.lst (ws.set j v))) | none=> .bad)
  | _=> .bad
 | _,_=> .bad
def Lf(ge go gi:GE):GS:=λρ st=>(ge ρ st).bJ ρ λv st1=>(go ρ st1).bJ ρ λo st2=>(gi ρ st2).bJ ρ λi st3=>U8 o i v ρ st3
theorem Je{o i e:Expr}{go gi ge:GE}{pos pos':Pos}(he:JE X e ge)(ho:JE X o go)(hi:JE X i gi)(hs:swapsWithSole [.Subscript o i pos'] e pos.line X.env=pure false:=by rfl)(hw:swappedStores [.Subscript o i pos'] e X.env=pure none:=by rfl)
  (h1:(assignEach [.Subscript o i pos'] X.env).map (·.2)=[assign (.Subscript o i pos') X.env]:=by rfl)
  (ha:∀v,assign (.Subscript o i pos') X.env v=(do
   let ov <-holding [v] (eval o X.env)
   let iv <-holding [v,ov] (eval i X.env)
   standAt pos'
   holding [v,ov,iv] (setItem ov iv v)
   release [v,ov,iv] []):=by intro _;rfl):JS X (.Assign [.Subscript o i pos'] e pos) (Lf ge go gi):=by
 refine JS.of (DL aY (Mb aY aY set_list ha) hs hw h1) λρ st σ H m D S R p=>?_
 refine he.go S R (aJ.di R p) λv st1 vv m1 H1 p1 e1 S1 rv=>?_
 refine ho.go S1 (R.mono e1) ((aJ.di (m:=m) (H:=H) R p1).imp e1 λ_ _ q=>q) λo' st2 ov m2 H2 p2 e2 S2 ro=>?_
 refine hi.go S2 (R.mono (e1.trans e2)) ((aJ.di (m:=m) (H:=H) R p2).imp (e1.trans e2) λ_ _ q=>q) λi' st3 iv m3 H3 p3 e3 S3 ri=>?_
 have Ce:=e1.trans (e2.trans e3)
 cases o' with
 | ref l=>
  cases i' with
  | int k=>
   have nR:aJ X m H (match st3[l]? with | some (.lst ws)=>(match DW ws.length k with | some j=> .nx ρ (st3.set l (.lst (ws.set j v))) | none=> .bad) | _=> .bad) D:=p3
   have Yp:=aj.mono e3 _ _ ro
   unfold aj at Yp
   obtain⟨a,rfl,f1⟩:=Yp
   cases e:st3[l]? with
   | none=>rw[e] at nR;exact aa nR
   | some ob=>
    cases ob with
    | dct kvs=>rw[e] at nR;exact aa nR
    | bX kvs=>rw[e] at nR;exact aa nR
    | nL kvs=>rw[e] at nR;exact aa nR
    | Cc kvs=>rw[e] at nR;exact aa nR
    | Ds kvs=>rw[e] at nR;exact aa nR
    | sv ns=>rw[e] at nR;exact aa nR
    | lst ws=>
     rw[e] at nR
     cases ej:DW ws.length k with
     | none=>simp only[ej] at nR;exact aa nR
     | some j=>
      simp only[ej] at nR
      obtain⟨xs,g1,g2⟩:=S3.nM f1 e
      refine⟨a,xs,k,j,rfl,aS ri,g1,by rw[<-g2.length];exact ej,?_⟩
      have ZS:=aj.mono (e2.trans e3) _ _ rv
      have e4:Ext X.K m3 H3 m3 (upd H3 a (.lst (xs.set j vv))):=Ext.upd (.inr ⟨xs,g1⟩)
      exact nR σ m3 _ (Ce.trans e4) (S3.write f1 e (g2.set j ZS)) (R.mono (Ce.trans e4))
  | _=>exact aa p3
 | _=>cases i'<;>exact aa p3
open Classical in
def forL(i:Nat)(gb:GS)(l:Nat)(all:List Wv):List Wv->b9->Hs->Rs
 | [],ρ,st=> .nx ρ st
 | w::r,ρ,st=>match gb (ρ.set i (some w)) st with
  | .nx ρ' st'=>if ao st' l=some all then forL i gb l all r ρ' st' else .bad
  | .ct ρ' st'=>if ao st' l=some all then forL i gb l all r ρ' st' else .bad
  | .bk ρ' st'=> .nx ρ' st'
  | .rt w st'=> .rt w st'
  | .err c ρ' st'=> .err c ρ' st'
  | .bad=> .bad
end
def CXJ(P:acw)(w:acz):Dr:=λouter H s E e s'=>∃H' C,wX P w outer H s H' (.ref C) e s'/\E (.ref C) none H'
section
variable {X:Cx} {pins:List (acr×Obj)} {σ:St} {Hc H':Hp} {sc s':acx} {cls e:acy} {E:acy->acx->Prop} {Q:Unit->acx->Prop}
theorem old_ne(I:Inv X pins σ Hc sc){b:acr}{o:Obj}(q:X.s₀.heap.get? b=some o):b≠X.env.locals:=λz=>by
 have h1:=aC q
 have h2:=I.ok.above
 rw[z] at h1
 exact absurd (bt h1 h2) (cX _)
theorem Jf(I:Inv X pins σ Hc sc)(hst:X.stack=X.env::X.outer)(hf:X.env.frame=some X.env.locals){b:acr}{o:Obj}(q:X.s₀.heap.get? b=some o)(hb:b∉frs X.outer):b∉frs X.stack:=λz=>by
 rw[hst] at z
 unfold frs at z
 rw[uO,hf] at z
 rcases List.mem_cons.mp z with z | z
 ·exact old_ne I q z
 ·exact hb z
theorem Eu(hst:X.stack=X.env::X.outer)(hf:X.env.frame=some X.env.locals){b:acr}(hb:b∈frs X.outer):b∈frs X.stack:=by
 rw[hst]
 unfold frs
 rw[uO,hf]
 exact aN _ hb
theorem w_{M:Model}{A:acs}{E:acy->acx->Prop}{s:acx}{base:Heap}{env:Env}{outer:List Env}{L e:acr}{cls a0 nt:acy}{Q:Unit->acx->Prop}(hfr:A.frames=some (env::outer))(hf:env.frame=some L)
  (x:base.StaysIn s.heap/\base.get? e=none/\s.heap.FunFrames base (env::outer)/\Tu s.heap base e cls a0 nt)(k:∀h',D9 base (env::outer) e cls a0 L h'->s.heap.UpToSlots h'->Q () { s with heap:=h' }) :
  acL M A (noteFrame (.ref e) env) Q E s:=by
 obtain⟨x1,x2,x3,x4⟩:=x
 by_cases z:nt=rawInt L
 ·subst z
  exact MM hf x4 (k s.heap ⟨x1,x2,x3,x4⟩ (M' _))
 ·obtain⟨ox,us,T,ot,ws,g1,⟨g2,g3⟩,g4,g5,g6,g7,g8,g9,Yq⟩:=x4
  subst g2
  have apart:∀b,b≠T->(s.heap.update T (jQ (·.setIfInBounds 3 bp))).get? b=s.heap.get? b:=λb hb=>oM _ _ (bZ hb)
  have plain:∀b o,s.heap.get? b=some o->(∀vs,o.data≠.fields vs)->b≠T:=λb o hb hd q=>by
   subst q
   rw[g8] at hb
   cases hb
   exact hd ws g9
  unfold noteFrame
  simp only[hf]
  refine acM (wpAny_field g1 g4 g5 ?_)
  rw[if_pos (show(aE T != bp)=true from by simp)]
  refine acM (wpAny_field g8 g9 Yq ?_)
  rw[if_neg (show ¬((nt == rawInt L)=true) from by simpa using z)]
  refine acM (wpAny_setField g8 g9 (Array.getElem?_eq_some_iff.mp Yq).1 ?_)
  refine D_ (a0:=a0) hfr (x3.of_keeps λb o hb hd=>⟨o,(apart b (plain b o hb hd)).trans hb,rfl⟩) hf ((apart e (bZ g7)).trans g1) (λb o hb=>(apart b λq=>by rw[q,g6] at hb;cases hb).trans (x1 b o hb)) x2 g4 (Array.getElem?_eq_some_iff.mp g5).1 g3 λh' y y4=>?_
  exact k h' y λb o hb hd=>y4 b o ((apart b (plain b o hb hd)).trans hb) hd
theorem tV{M:Model}{A:acs}{E:acy->acx->Prop}{s:acx}{base h:Heap}{env:Env}{outer:List Env}{L a:acr}{cls:acy}{args:List acy}{Q:Unit->acx->Prop}(hfr:A.frames=some (env::outer))(hf:env.frame=some L)
  (st:base.StaysIn h)(fs:h.FunFrames base (env::outer))(mk:vf h s.heap a cls args)(k:∀h' a0,D9 base (env::outer) a cls a0 L h'->s.heap.UpToSlots h'->Q () { s with heap:=h' }) :
  acL M A (noteFrame (.ref a) env) Q E s:=by
 obtain⟨t,e1,e2,e3⟩:=mk.there
 have fresh:∀b,h.get? b=none->base.get? b=none:=λb hb=>by
  cases q:base.get? b with
  | none=>rfl
  | some o'=>have z:=st b o' q;rw[hb] at z;cases z
 have fs':=fs.of_keeps (h':=s.heap) λb o hb _=>⟨o,mk.keeps b o hb,rfl⟩
 unfold noteFrame
 simp only[hf]
 refine acM (wpAny_field e1 rfl (x:=.none) rfl ?_)
 rw[if_neg (by decide)]
 exact D_ hfr fs' hf e1 (λb o hb=>mk.keeps b o (st b o hb)) (fresh a mk.new) rfl (by simp) (a0:=.ref t) rfl λh' l1 l4=>k h' (.ref t) l1 l4
theorem Ew{ch:List acr}(hx:X.ex=[])(hst:X.stack=X.env::X.outer)(hf:X.env.frame=some X.env.locals)(I:Inv X pins σ Hc sc){B h2:Heap}(hch:∀b∈ch,ij X pins Hc b)(un:Un (frs X.stack) ch Hc H' sc.heap s'.heap)(up:s'.heap.UpToSlots h2)(stay:B.StaysIn h2)
  (wY:∀b o,sc.heap.get? b=some o->b∉frs X.stack->b∉ch->∃o',B.get? b=some o'/\(Hc b=none->o'=o)) :
  Un (frs X.outer) [] X.H₀ H' X.s₀.heap h2/\(∀b o,X.s₀.heap.get? b=some o->b∉frs X.outer->∃o',B.get? b=some o'/\(X.H₀ b=none->o'=o)):=by
 have nx:∀b:acr,b∉X.ex:=λb=>by rw[hx];simp
 have nc:∀b o,X.s₀.heap.get? b=some o->b∉ch:=λb o q z=>by
  rcases(hch b z).2.2.2.1 with y | y
  ·exact nx b y
  ·exact absurd (bt (aC q) y) (cX _)
 have Na:∀b o,X.s₀.heap.get? b=some o->b∉frs X.outer->∃o',B.get? b=some o'/\(X.H₀ b=none->o'=o):=λb o q hb=>by
  obtain⟨o1,q1⟩:=I.base.there b o q (nx b)
  obtain⟨o2,q2,q3⟩:=wY b o1 q1 (Jf I hst hf q hb) (nc b o q)
  refine⟨o2,q2,λn=>?_⟩
  have q4:=I.base.keep b o q n hb (nx b)
  rw[q4] at q1
  cases q1
  exact q3 (I.base.free b o q n (nx b))
 have sl:∀b o,X.s₀.heap.get? b=some o->X.H₀ b=none->b∈frs X.outer->∃sl,h2.get? b=some { o with slots:=sl }:=λb o q n hb=>by
  obtain⟨s1,q1⟩:=I.base.slot b o q n hb (nx b)
  obtain⟨s2,q2⟩:=un.slot b _ q1 (I.base.free b o q n (nx b)) (Eu hst hf hb) (nc b o q)
  obtain⟨_,o3,q3,q4⟩:=I.ok.mG.mem hb
  rw[q] at q3
  cases q3
  obtain⟨s3,q5⟩:=up b _ q2 q4
  exact⟨s3,q5⟩
 refine⟨⟨λb o q n hb _=>?_,λb o q n hb _=>sl b o q n hb,λb o q n _=>?_,λb o q _=>?_,λb xs h=>un.tups b xs (I.base.tups b xs h),λb o u h=>un.ju b o u (I.base.ju b o u h),λb ps h=>?_⟩,Na⟩
 ·obtain⟨o2,q2,q3⟩:=Na b o q hb
  rw[q3 n] at q2
  exact stay b o q2
 ·obtain⟨o1,q1⟩:=I.base.there b o q (nx b)
  exact un.free b o1 q1 (I.base.free b o q n (nx b)) (nc b o q)
 ·by_cases hb:b∈frs X.outer
  ·obtain⟨s3,q3⟩:=sl b o q (I.ok.HS b hb) hb
   exact⟨_,q3⟩
  ·obtain⟨o2,q2,_⟩:=Na b o q hb
   exact⟨o2,stay b o2 q2⟩
 ·obtain⟨m1,t1⟩:=I.base.kL b ps h
  obtain⟨m2,t2⟩:=un.kL b _ t1
  exact⟨m1++m2,by rw[<-Array.append_assoc];exact t2⟩
theorem pv(hx:X.ex=[])(hst:X.stack=X.env::X.outer)(hf:X.env.frame=some X.env.locals)(I:Inv X pins σ Hc sc)(F:kT X pins Hc sc H' cls e s')
  (k:∀s2,wX X.prog X.w X.outer X.H₀ X.s₀ H' cls e s2->Q () s2):acL (model X.prog X.w) X.A (leaving X.env e) Q E s':=by
 obtain⟨a,a0,nt,B,ch,rfl,os,bare,hch,un,hok,fl,wY⟩:=F
 have hfr:X.A.frames=some (X.env::X.outer):=by rw[I.ok.frames,hst]
 rw[hst] at fl
 unfold leaving
 refine acM (w_ hfr hf fl λh1 hd1 up1=>?_)
 refine wU hd1 λh2 yG Rx=>k _ ?_
 obtain⟨k1,k2,⟨_,_,k3⟩,k4⟩:=yG
 obtain⟨u2,c2⟩:=Ew hx hst hf I hch un (up1.trans Rx) k1 wY
 exact⟨a,a0,B,rfl,os.trans I.os,bare,u2,hok,⟨k1,k2,k3,k4⟩,c2⟩
theorem xa{P:acw}{w:acz}{H:Hp}{h:Heap}{l:List acr}(ok:ko P w H h)(fr:∀b∈l,H b=none):ko P w H (PySem.W.hideAll h l):=λa o q=>
 (ok a o q).stay (λb u hb r=>PySem.W.hideAll_get _ r λz=>by
  have n:=fr b z
  rcases hb with hb | hb
  ·rw[hb,q] at n;cases n
  ·rw[hb] at n;cases n) (λ_ r=>r) λ_ _ r=>r
theorem qR{a C:acr}{args:List acy}(hx:X.ex=[])(hst:X.stack=X.env::X.outer)(hf:X.env.frame=some X.env.locals)(I:Inv X pins σ Hc sc)(ho:s'.os=sc.os)(ZT:s'.gens=sc.gens)
  (M:vf sc.heap s'.heap a (.ref C) args)(k:∀s2,wX X.prog X.w X.outer X.H₀ X.s₀ Hc (.ref C) (.ref a) s2->Q () s2):acL (model X.prog X.w) X.A (leaving X.env (.ref a)) Q E s':=by
 have hfr:X.A.frames=some (X.env::X.outer):=by rw[I.ok.frames,hst]
 have fs:sc.heap.FunFrames (PySem.W.hideAll sc.heap (frs X.stack)) (X.env::X.outer):=by
  rw[<-hst]
  exact PySem.W.funFrames_hide I.stack λenv he b hb=>List.mem_filterMap.mpr ⟨env,he,hb⟩
 unfold leaving
 refine acM (tV (base:=PySem.W.hideAll sc.heap (frs X.stack)) hfr hf (λb o q=>PySem.W.of_hideAll _ q) fs M λh1 t hd1 up1=>?_)
 refine wU hd1 λh2 yG Rx=>k _ ?_
 have up:=up1.trans Rx
 replace yG:va (PySem.W.hideAll sc.heap (frs X.stack)) X.outer a (.ref C) t h2:=let ⟨k1,k2,⟨_,_,k3⟩,k4⟩:=yG;⟨k1,k2,k3,k4⟩
 obtain⟨u2,c2⟩:=Ew (H':=Hc) (s':=s') (ch:=[]) hx hst hf I (λb z=>by cases z) (Un.kept M.keeps) up yG.1 λb o q hb _=>⟨o,PySem.W.hideAll_get _ q hb,λ_=>rfl⟩
 exact⟨a,t,_,rfl,ho.trans I.os,by rw[show({ s' with heap:=h2 }:acx).gens=sc.gens from ZT];exact I.bare,u2,xa I.hok I.nu,yG,c2⟩
end
def Lg(K:PySem.W.Frag)(m:Mp)(H:Hp)(r:Re Wv)(Q:VK)(E:XK):Prop:=match r with
 | .ok w st=>Q9 K m H Q w st
 | .err c st=>∀(m':Mp)(H':Hp)(C:acr),Ext K m H m' H'->bG K m' st H'->ClsAt K c C->E (.ref C) none H'
 | .bad=>False
def spW(K:PySem.W.Frag)(n:Nat)(F:List Wv->Hs->Re Wv):Sp:=λvs H Q E=>∃m st ws,bG K m st H/\ai K m H ws vs/\ws.length=n/\Lg K m H (F ws st) Q E
def aK(n:Nat)(F:List Wv->Hs->Re Wv)(g:GA):GE:=λρ st=>(g ρ st).bind λws st1=>if ws.length=n then F ws st1 else .bad
section
variable {X:Cx}
theorem Jg{k n:Nat}{f:acr}{fd:acu}{ps:List Str}{F:List Wv->Hs->Re Wv}{x:Str}{p pos:Pos}{e:Expr}{es:List Expr}{g:GA}
  (G:FnOk X.prog X.w X.K X.mg X.base (CXJ X.prog X.w) k f fd ps (spW X.K n F))(hr:kO k X.A)(hm:X.mg x=some (.ref f))(hk:PySem.W.keepIn X.K (.ref f)=true)(hb:Binds X.K fd ps [])(ha:JA X (e::es) g)(hg:Gl X x:=by rfl)
  (hdb:(x == ("__debug__":Str))=false:=by decide)(he:acK (e::es) X.env=(false,eval e X.env)::acK es X.env:=by rfl)(hpl:(backTo pos (acK es X.env)).any (·.1)=false:=by rfl) :
  JE X (.Call (.Name x p) (e::es) [] pos) (aK n F g):=by
 intro ρ st σ H m Q S R p pins s I
 have args:=ha.go (T:=λvs H1=>∃ws st1 m1,gR X σ m H (if ws.length=n then F ws st1 else .bad) Q/\Ext X.K m H m1 H1/\bG X.K m1 st1 H1/\ai X.K m1 H1 ws vs) S R (az.bind p)
  λws st1 vs m1 H1 p1 e1 S1 rs=>⟨ws,st1,m1,p1,e1,S1,rs⟩
 refine wpAny_Call_Name_kw (nE I hg hm ?_ hdb)
 refine PySem.W.callWith_K (h₀:=X.base) I.ok.mod.LW hk (bJ (args pos pins s I) λus s1 ⟨vs,H1,I1,r,ws,st1,m1,p1,e1,S1,rs⟩=>⟨I1.Dq,?_⟩) he hpl
 by_cases c:ws.length=n
 ·rw[if_pos c] at p1
  let E:XK:=λcl _ H2=>∃c' st2 m2 C,cl= .ref C/\ClsAt X.K c' C/\F ws st1= .err c' st2/\Ext X.K m1 H1 m2 H2/\bG X.K m2 st2 H2
  have sp:spW X.K n F vs H1 Q E:=by
   refine⟨m1,st1,ws,S1,rs,c,?_⟩
   cases er:F ws st1 with
   | ok w st2=>rw[er] at p1;exact gR.shift (r:=.ok w st2) p1 e1
   | err c' st2=>exact λm2 H2 C e2 S2 hC=>⟨c',st2,m2,C,rfl,hC,er,e2,S2⟩
   | bad=>rw[er] at p1;exact aa p1
  have hl:us.length=ps.length:=by rw[<-r.length];exact G.len _ _ _ _ sp
  have bd:=hb s1 us I1.Dq (by rw[jO];exact hl)
  rw[jO] at bd
  refine wpAny_call (codeAny_mono (G.run X.A X.stack s1 H1 ⟨us,[]⟩ us vs Q E hr I1.QV bd r sp) λrr s2 hq=>?_)
  cases rr with
  | error x=>
   obtain⟨H2,C,fl,c',st2,m2,C',ec,hC,er,e2,S2⟩:=hq
   cases ec
   rw[er] at p1
   exact p1 m2 H2 x s2 (e1.trans e2) S2 ⟨C,pins,H1,s1,hC,I1,.inl fl.any⟩
  | ok fw=>
   cases fw with
   | ret u=>exact I1.after hq
   | next=>exact aa hq
   | brk=>exact aa hq
   | cont=>exact aa hq
 ·rw[if_neg c] at p1;exact aa p1
end
def cN(n:Nat)(g:GS):List Wv->Hs->Re Wv:=λws st=>match g (ws.map some++ar (n - ws.length) none) st with
 | .nx _ st'=> .ok .aI st'
 | .rt w st'=> .ok w st'
 | .err c _ st'=> .err c st'
 | _=> .bad
theorem xb{K:PySem.W.Frag}{m:Mp}{H:Hp}{N:List Str}{ws:List Wv}{vs:List V}(r:ai K m H ws vs)(h:ws.length<=N.length):aA K m H (ws.map some++ar (N.length - ws.length) none) (L2.start N vs):=by
 have hl:=r.length
 refine⟨by unfold L2.start;simp[hl],λi w e=>?_⟩
 by_cases hi:i < ws.length
 ·rw[fX (by simpa using hi),fg] at e
  cases q:ws[i]? with
  | none=>rw[q] at e;cases e
  | some w'=>
   rw[q] at e
   cases e
   obtain⟨x,h1,h2⟩:=r.get q
   refine⟨x,?_,h2⟩
   unfold L2.start
   rw[fX (by simp;omega),fg,h1]
   rfl
 ·rw[mI (by simpa using hi),Iq] at e
  split at e<;>cases e
section
variable {P:acw} {w:acz} {K:PySem.W.Frag} {mg:Str->Option acy} {base:Heap}
theorem zk{N:List Str}{qual:Str}{scope:Scope}{f:acr}{cdv:acy}{A:acs}{outer:List Env}{s s':acx}{H H':Hp}{E:XK}{σ:St}{c:PySem.Str}{e:acy}
  (r:ve (qC (CXJ P w) P w K mg base N qual scope f cdv A outer s H E) σ H' c e s')(h:∀C,ClsAt K c C->E (.ref C) none H'):(qC (CXJ P w) P w K mg base N qual scope f cdv A outer s H E).xe e s':=by
 obtain⟨C,pins,Hc,sc,hC,I,r⟩:=r
 rcases r with fl | ⟨rfl,a,args,rfl,ho,hg,M⟩
 ·exact pv (X:=qC (CXJ P w) P w K mg base N qual scope f cdv A outer s H E) rfl rfl rfl I fl λs2 yG=>⟨H',C,yG,h C hC⟩
 ·exact qR (X:=qC (CXJ P w) P w K mg base N qual scope f cdv A outer s H E) rfl rfl rfl I ho hg M λs2 yG=>⟨H',C,yG,h C hC⟩
def Ex(K:PySem.W.Frag)(f:acr)(cdv:acy):Prop:=∃o,K.lookup f=some o/\∃fd,o.data= .func fd/\fd.code=cdv
theorem Lh{x qual:Str}{st:Stmt}{f:acr}{fd:acu}{N ps:List Str}{k:Nat}{g:GS}(F:K2 K x qual st f fd)(S:FnScope N ps (defScope st))
  (body:∀(cdv:acy),Ex K f cdv->∀(A:acs)(outer:List Env)(s:acx)(H:Hp)(E:XK),kO k (A.deeper (envOfC qual (defScope st) s.heap.objs.size f cdv))->nj (qC (CXJ P w) P w K mg base N qual (defScope st) f cdv A outer s H E) (defBody st) g) :
  FnOk P w K mg base (CXJ P w) (k+1) f fd ps (spW K ps.length (cN N.length g)):=by
 have hpl:ps.length<=N.length:=by have:=congrArg dq S.pre;rw[dt] at this;omega
 obtain⟨oc,od,kV,doc,pm,an,cdv,ct,osl,rfl,lk,hcd⟩:=F.ex
 refine QX lk hcd S (λvs H Q E h=>?_) λA outer s H vs Q E hr h=>?_
 ·obtain⟨m,st',ws,_,r,hl,_⟩:=h
  rw[<-r.length];exact hl
 ·obtain⟨m,st',ws,S',r,hl,p⟩:=h
  refine⟨_,gE,?_⟩
  refine body cdv ⟨_,lk,_,rfl,rfl⟩ A outer s H E hr _ st' _ H m _ S' (xb r (by omega)) ?_
  unfold cN at p
  cases e:g (ws.map some++ar (N.length - ws.length) none) st' with
  | nx ρ st2=>rw[e] at p;exact λσ m' H' e' S2 R2=>p _ m' H' e' S2 (by unfold aj;rfl)
  | rt w' st2=>rw[e] at p;exact p
  | bk ρ st2=>rw[e] at p;exact aa p
  | ct ρ st2=>rw[e] at p;exact aa p
  | err c ρ st2=>rw[e] at p;exact λσ m' H' x s' e' S2 R2 rz=>zk rz λC hC=>p m' H' C e' S2 hC
  | bad=>rw[e] at p;exact aa p
end
def OnlyT(H:Hp):Prop:=∀b,H b=none\/(∃o xs,H b=some (.eL o (.lst xs)))\/H b=some (.jf #[])
theorem OnlyT.of{H:Hp}(h:II H):OnlyT H:=λb=>by
 rcases h b with q | q
 ·exact .inl q
 ·exact .inr (.inl q)
theorem law_sp{K:PySem.W.Frag}{F:List Wv->Hs->Re Wv}(h:∀ns:List Int,ns.length<=63->∃st,F [.ref 0] [.sv ns]= .ok (.bl true) st)(H:Hp)(a:acr)(ns:List Int)(hl:ns.length<=63)(hO:OnlyT H)(hS:mj K H a (ns.map V.int))(hT:vb K H) :
  spW K 1 F [.ref a] H (λv _=>v= .bl true) λ_ _ _=>False:=by
 obtain⟨st,e⟩:=h ns hl
 refine⟨[a],[.sv ns],[.ref 0],⟨rfl,λl b o h1 h2=>?_,λl l' b ws ws' _ _ h2 _ k _=>?_,hT⟩,ai.cons (by unfold aj;exact⟨a,rfl,rfl⟩) ai.nil,rfl,?_⟩
 ·cases l with
  | zero=>
   simp at h1 h2
   subst h1 h2
   show wW K H a ns
   rcases hS with (q | ⟨o',q⟩) | q
   ·rcases hO a with z | ⟨o',xs,z⟩ | z
    ·rw[z] at q;cases q
    ·rw[z] at q;cases q
    ·rw[z] at q;cases q
   ·exact .inl ⟨o',q⟩
   ·exact .inr q
  | succ l=>simp at h1
 ·cases l with
  | zero=>simp at h2;subst h2;simp[Ob.mu] at k
  | succ l=>simp at h2
 ·rw[e]
  intro v m' H' _ _ r
  unfold aj at r
  exact r
def Nb(w:Wv)(st:Hs):Re Bool:=match w with
 | .aI=> .ok false st
 | .bl b=> .ok b st
 | .int i=> .ok (i != 0) st
 | .str y=>if y.length<=lim then .ok ((y.length:Int) != 0) st else .bad
 | .tup ws=> .ok (!ws.isEmpty) st
 | .qN _=> .bad
 | .ref l=>match ao st l with
  | some ws=> .ok (!ws.isEmpty) st
  | none=> .bad
 | .ty _=> .bad
 | .cls _=> .bad
 | .mK _=> .bad
 | .fn _ _=> .bad
def iJ(g:GE):GT:=λρ st=>(g ρ st).bind Nb
section
variable {X:Cx}
theorem Jh{m:Mp}{H:Hp}{ws:List Wv}{xs:List V}(r:ai X.K m H ws xs):(!ws.isEmpty)= !xs.isEmpty:=by
 have h:=r.length
 cases ws<;>cases xs<;>simp_all
theorem qS{e:Expr}{g:GE}(h:JE X e g)(he:∀whole,isTrue e X.env whole=(do let v <-whole;standAt e.pos;holding [v] (truthy v))):JT X e (iJ g) :=
 JT.of (DP aY he) λρ st σ H m Q S R p=>h.go S R (az.bind p) λw st1 v m1 H1 p1 e1 S1 r1=>by
  cases w with
  | aI=>unfold aj at r1;subst r1;exact⟨false,rfl,p1 m1 H1 e1 S1⟩
  | bl b=>unfold aj at r1;subst r1;exact⟨b,rfl,p1 m1 H1 e1 S1⟩
  | int i=>unfold aj at r1;subst r1;exact⟨_,rfl,p1 m1 H1 e1 S1⟩
  | str y=>
   obtain⟨rfl,_⟩:=eX r1
   have p2:jx X σ m H (if y.length<=lim then .ok ((y.length:Int) != 0) st1 else .bad) Q:=p1
   by_cases c:y.length<=lim
   ·rw[if_pos c] at p2;exact⟨_,⟨eI c,rfl⟩,p2 m1 H1 e1 S1⟩
   ·rw[if_neg c] at p2;exact aa p2
  | qN ws=>exact aa p1
  | tup ws=>
   unfold aj at r1
   obtain⟨a,xs,rfl,h1,h2⟩:=r1
   refine⟨!xs.isEmpty,.inr (.inl ⟨xs,fV.of h1,rfl⟩),?_⟩
   rw[<-Jh h2]
   exact p1 m1 H1 e1 S1
  | ref l=>
   unfold aj at r1
   obtain⟨a,rfl,h1⟩:=r1
   have p2:jx X σ m H (match ao st1 l with | some ws=> .ok (!ws.isEmpty) st1 | none=> .bad) Q:=p1
   cases el:ao st1 l with
   | none=>rw[el] at p2;exact aa p2
   | some ws=>
    rw[el] at p2
    obtain⟨xs,hq,h2⟩:=S1.read h1 el
    refine⟨!xs.isEmpty,.inl ⟨xs,hq,rfl⟩,?_⟩
    rw[<-Jh h2]
    exact p2 m1 H1 e1 S1
  | ty T=>exact aa p1
  | cls T=>exact aa p1
  | mK T=>exact aa p1
  | fn fp T=>exact aa p1
theorem xc{p:Nat->Bool}{x:Array Nat}(hx:x.all p=true):∀(n:Nat)(a:Array Nat),a.all p=true->((ar n x).foldl (· ++·) a).all p=true
 | 0,a,h=>h
 | n+1,a,h=>by
  rw[fk,DZ]
  refine xc hx n _ ?_
  rw[Array.all_append,h,hx]
  rfl
theorem Ci{x:PySem.Str}{n:Nat}(h:aZ x=true):aZ (sE n x)=true:=by
 unfold aZ at h ⊢
 unfold sE
 exact xc h n #[] (by simp)
theorem tW{x:Array Nat}:∀(n:Nat)(a:Array Nat),((ar n x).foldl (· ++·) a).size=a.size+x.size * n
 | 0,a=>by simp
 | n+1,a=>by
  rw[fk,DZ,tW n,Array.size_append,Nat.mul_succ]
  omega
theorem Ey{x:PySem.Str}{n:Nat}:(sE n x).length=x.length * n:=by
 show((ar n x.cps).foldl (· ++·) #[]).size=x.cps.size * n
 rw[tW]
 simp
def pw(x:PySem.Str)(n:Int):Prop:=1 < n/\n<=100000/\x.length≠0/\x.length * n.toNat<=lim
instance {x n}:Decidable (pw x n):=by unfold pw;infer_instance
theorem Ji:fW X (acB .Mult) (λx y H Q=>∃z n,x= .str z/\y= .int n/\pw z n/\Q (.str (sE n.toNat z)) H):=by
 intro pins s σ H x y v u Q I rx ry h
 obtain⟨z,n,rfl,rfl,⟨h1,h2,h3,h4⟩,q⟩:=h
 obtain⟨t,rfl⟩:=rx
 obtain⟨t',rfl⟩:=ry
 have n1:¬n < 1:=by omega
 have hlen:z.length<=lim:=by
  refine bg ?_ h4
  exact Nat.le_mul_of_pos_right _ (by omega)
 have hne:(n == 1||z.length == 0)=false:=by
  have e1:(n == 1)=false:=by rw[beq_eq_false_iff_ne];omega
  have e2:(z.length == 0)=false:=by rw[beq_eq_false_iff_ne];exact h3
  rw[e1,e2];rfl
 have hl:PySem.Builtin.Str.tooLong (z.length * n.toNat)=false:=by
  unfold PySem.Builtin.Str.tooLong
  have q:=eI h4
  first
   | exact decide_eq_false (by omega)
   | simp only[decide_eq_false_iff_not];omega
 refine PySem.P.mul_str (by
   have e1:¬n < -(2 ^ 63:Int):=by omega
   have e2:¬n >= 2 ^ 63:=by omega
   rw[decide_eq_false e1,decide_eq_false e2];rfl) (λ_ _=>?_) (λ_ _=>hl) ?_
 ·have e:((2:Int) ^ 63 - 1) / 100000<=(2 ^ 63 - 1) / n:=by
   refine Int.le_ediv_of_mul_le (by omega) ?_
   have:((2:Int) ^ 63 - 1) / 100000 * n<=((2:Int) ^ 63 - 1) / 100000 * 100000:=Int.mul_le_mul_of_nonneg_left h2 (by decide)
   exact Int.le_trans this (by decide)
  have e':(1000000:Int)<=(2 ^ 63 - 1) / 100000:=by decide
  unfold lim at hlen
  omega
 ·rw[if_neg n1,if_neg (by rw[hne];exact bD)]
  exact⟨by show(sE n.toNat z).length<=_;rw[Ey];exact eI h4,.str (sE n.toNat z),H,I.tok _,⟨_,rfl⟩,q⟩
def Li:hX
 | .int i,.int j,st=>if IntMulOk i j then .ok (.int (i * j)) st else .bad
 | .str z,.int n,st=>if pw z n then .ok (.str (sE n.toNat z)) st else .bad
 | _,_,_=> .bad
theorem Jj:kU X (acB .Mult) Li:=⟨_,fW.or IS Ji,λx y a b st H m Q S rx ry p=>by
 cases x with
 | int i=>
  cases y with
  | int j=>
   cases aS rx;cases aS ry
   have p':cW X.K m H (if IntMulOk i j then .ok (.int (i * j)) st else .bad) Q:=p
   by_cases c:IntMulOk i j
   ·rw[if_pos c] at p';exact .inl ⟨i,j,rfl,rfl,c,p' _ m H Ext.refl S mkInt⟩
   ·rw[if_neg c] at p';exact aa p'
  | _=>exact aa p
 | str z=>
  cases y with
  | int n=>
   obtain⟨rfl,hz⟩:=eX rx
   cases aS ry
   have p':cW X.K m H (if pw z n then .ok (.str (sE n.toNat z)) st else .bad) Q:=p
   by_cases c:pw z n
   ·rw[if_pos c] at p';exact .inr ⟨z,n,rfl,rfl,c,p' _ m H Ext.refl S (mkStr (Ci hz))⟩
   ·rw[if_neg c] at p';exact aa p'
  | _=>exact aa p
 | _=>exact aa p⟩
def cO:GE:=λ_ _=> .bad
def kW:GT:=λ_ _=> .bad
theorem aT{e:Expr}:JE X e cO:=λρ st σ H m Q S R p=>aa p
theorem kX{e:Expr}:JT X e kW:=λρ st σ H m Q S R p=>aa p
end
def iS(P:acw)(w:acz)(K:PySem.W.Frag)(mg:Str->Option acy)(base:Heap)(k:Nat)(x:Str)(n:Nat)(F:List Wv->Hs->Re Wv):Prop :=
 ∃f fd ps,FnOk P w K mg base (CXJ P w) k f fd ps (spW K n F)/\mg x=some (.ref f)/\PySem.W.keepIn K (.ref f)=true/\Binds K fd ps []
theorem iS.mono{P:acw}{w:acz}{K:PySem.W.Frag}{mg:Str->Option acy}{base:Heap}{j k:Nat}{x:Str}{n:Nat}{F:List Wv->Hs->Re Wv}(h:iS P w K mg base j x n F)(l:j<=k):iS P w K mg base k x n F:=by
 obtain⟨f,fd,ps,G,r⟩:=h
 exact⟨f,fd,ps,G.mono l,r⟩
def bH(K:PySem.W.Frag)(x:Str)(st:Stmt):Prop:=∃f fd,PySem.W.nsIn K acI x=some (some (.ref f))/\K2 K x x st f fd
theorem Nc{K:PySem.W.Frag}{x:Str}{st:Stmt}{f:acr}{oc:acy}{od an:Option acr}{osl:Array (Option acy)}{kV doc pm cdv ct:acy}(a:PySem.W.nsIn K acI x=some (some (.ref f)))
  (l:K.lookup f=some ⟨oc,od,.func (PySem.W.fnOf x x (defArgs st) (defBody st) (defScope st) .none kV doc pm an cdv ct),osl⟩)(c:PySem.W.codeIn K cdv x=true)(k:PySem.W.keepIn K (.ref f)=true):bH K x st:=⟨f,_,a,MH l c k⟩
theorem Ez:acC "isinstance"=some (.builtin "isinstance"):=by decide+kernel
theorem Cj:acC "abs"=some (.builtin "abs"):=by decide+kernel
theorem Ck:acC "len"=some (.builtin "len"):=by decide+kernel
theorem xf:acC "int"=some (.type "int"):=by decide+kernel
theorem xg:acC "str"=some (.type "str"):=by decide+kernel
theorem EA:acC "bool"=some (.type "bool"):=by decide+kernel
theorem xh:acC "tuple"=some (.type "tuple"):=by decide+kernel
theorem xi:acC "list"=some (.type "list"):=by decide+kernel
def fZ(i:Nat)(gb:GS):List Wv->b9->Hs->Rs
 | [],ρ,st=> .nx ρ st
 | w::r,ρ,st=>match gb (ρ.set i (some w)) st with
  | .nx ρ' st'=>fZ i gb r ρ' st'
  | .ct ρ' st'=>fZ i gb r ρ' st'
  | .bk ρ' st'=> .nx ρ' st'
  | .rt w st'=> .rt w st'
  | .err c ρ' st'=> .err c ρ' st'
  | .bad=> .bad
section
variable {X:Cx}
theorem qT(i:Nat){body:List Stmt}{gb:GS}(hb:nj X body gb){J':It}{ws:List Wv}{m1:Mp}{H1:Hp}{st1:Hs}{ρ:b9}{σ:St}{D:Ends}(S1:bG X.K m1 st1 H1)(R:aA X.K m1 H1 ρ σ)(p1:aJ X m1 H1 (fZ i gb ws ρ st1) D)
  (hgo:∀(k:Nat)(H:Hp)(m':Mp),Ext X.K m1 H1 m' H->k < ws.length->J'.go k H)(hstop:∀(k:Nat)(H:Hp)(m':Mp),Ext X.K m1 H1 m' H->k=ws.length->J'.stop k H)
  (hy:∀(k:Nat)(hk:k < ws.length)(H:Hp)(x:V)(H':Hp)(m':Mp),Ext X.K m1 H1 m' H->J'.yF k H x H'->H'=H/\aj X.K m' H ws[k] x) :
  ∃W:Nat->Nat->St->Hp->Prop,(∃m,W 0 m σ H1)/\∀k n σ H,W k n σ H->
   (J'.stop k H/\D.nx σ H)\/(J'.go k H/\∃N:St->Hp->Prop,(∀σ' H',N σ' H'->∃m',m' < n/\W (k+1) m' σ' H')/\∀x H',J'.yF k H x H'->wL i x σ H' λσ2 H2=>Q_ X body { D with nx:=N,ct:=N,bk:=D.nx } σ2 H2):=by
 let Pv:Nat->St->Hp->Prop:=λk σ H=>∃ρ st m',Ext X.K m1 H1 m' H/\bG X.K m' st H/\aA X.K m' H ρ σ/\aJ X m' H (fZ i gb (ws.drop k) ρ st) D
 refine⟨λk n σ H=>n=ws.length - k/\k<=ws.length/\Pv k σ H,⟨ws.length,by simp,bY _,ρ,st1,m1,Ext.refl,S1,R,p1⟩,?_⟩
 rintro k n σ2 H2 ⟨rfl,hk,ρ2,st2,m2,e2,S2,R2,p2⟩
 by_cases hlt:k < ws.length
 ·refine .inr ⟨hgo k H2 m2 e2 hlt,Pv (k+1),λσ' H' p'=>⟨ws.length - (k+1),by omega,rfl,hlt,p'⟩,λx H' y=>?_⟩
  obtain⟨ee,pK⟩:=hy k hlt H2 x H' m2 e2 y
  subst ee
  have ed:ws.drop k=ws[k]::ws.drop (k+1):=qU hlt
  rw[ed] at p2
  refine hb _ st2 _ _ m2 _ S2 (R2.set i pK) ?_
  unfold fZ at p2
  cases eg:gb (ρ2.set i (some ws[k])) st2 with
  | nx ρ3 st3=>rw[eg] at p2;exact λσ3 m3 H3 e3 S3 R3=>⟨ρ3,st3,m3,e2.trans e3,S3,R3,aJ.shift p2 e3⟩
  | ct ρ3 st3=>rw[eg] at p2;exact λσ3 m3 H3 e3 S3 R3=>⟨ρ3,st3,m3,e2.trans e3,S3,R3,aJ.shift p2 e3⟩
  | bk ρ3 st3=>rw[eg] at p2;exact p2
  | rt w3 st3=>rw[eg] at p2;exact p2
  | err c3 ρ3 st3=>rw[eg] at p2;exact p2
  | bad=>rw[eg] at p2;exact p2
 ·have e:k=ws.length:=by omega
  subst e
  rw[vo] at p2
  exact .inl ⟨hstop _ H2 m2 e2 rfl,p2 σ2 m2 H2 Ext.refl S2 R2⟩
def U9(K:PySem.W.Frag)(tl:TE):TI:=λσ H R=>tl σ H λx H1=>∃a,x= .ref a/\(((∃xs,mj K H1 a xs)/\R (UG K a) H1)\/((∃xs,fV K H1 a xs)/\R (Ye K a) H1))
theorem EB{tg l:Expr}{tl:TE}(hl:PE X l tl):PI X tg l (U9 X.K tl):=by
 intro pins s σ H R I h
 refine bJ (hl pins s σ H _ I h) λv s1 ⟨x,H1,I1,r1,q1⟩=>?_
 obtain⟨a,e,q1⟩:=q1
 subst e
 cases r1
 have frs:∀b∈[s1.heap.objs.size],ij X pins H1 b:=λb hb=>by
  have e:b=s1.heap.objs.size:=by simpa using hb
  subst e
  exact I1.yO (au _) (I1.hok.fresh (au _))
 rcases q1 with ⟨⟨xs,hq⟩,q⟩ | ⟨⟨xs,hq⟩,q⟩
 ·obtain⟨its,rv,p,hz⟩:=I1.list hq
  refine wpAny_pyIter_list p.isList ?_
  exact⟨s1.heap.objs.size,[s1.heap.objs.size],_,_,H1,rfl,I1.kept (t':=s1.toks) λb o e=>aL _ e,tD a _,⟨_,bz _ rfl,rfl,rfl⟩,frs,q⟩
 ·obtain⟨its,rv,p,hz⟩:=I1.tuple hq
  refine wpAny_pyIter_tuple (show s1.heap.IsTuple a its.toArray from p) ?_
  exact⟨s1.heap.objs.size,[s1.heap.objs.size],_,_,H1,rfl,I1.kept (t':=s1.toks) λb o e=>aL _ e,yP a _,⟨_,bz _ rfl,rfl,rfl⟩,frs,q⟩
def qV(i:Nat)(gi:GE)(gb:GS):GS:=λρ st=>(gi ρ st).bJ ρ λw st1=>match w with
 | .ref l=>(match ao st1 l with | some ws=>forL i gb l ws ws ρ st1 | none=> .bad)
 | .tup ws=>fZ i gb ws ρ st1
 | .qN ws=>fZ i gb ws ρ st1
 | _=> .bad
theorem zl(i:Nat){x:Str}{iter:Expr}{body:List Stmt}{gi:GE}{gb:GS}{pos pos':Pos}(hN:X.N.Nodup)(hp:PassesOwn (model X.prog X.w) X.A X.env X.xe)(hc:X.calm=true)(hi:JE X iter gi)(hb:nj X body gb)
  (hx:X.N[i]? =some x)(hlo:Loc X.env.scope x)(Ry:X.fn x=true\/X.env.scope.names.lookup x=some .local)
  (hs:∀x,acG iter X.env x=pure x):JS X (.For (.Name x pos') iter body [] pos) (qV i gi gb):=by
 refine JS.of (qz hp hc (EB aY) (p8 hN hx hlo Ry) gE hs) λρ st σ H m D S R p=>?_
 refine hi.go S R (aJ.di R p) λw st1 v m1 H1 p1 e1 S1 rw'=>?_
 cases w with
 | ref l=>
  have p1':aJ X m H (match ao st1 l with | some ws=>forL i gb l ws ws ρ st1 | none=> .bad) D:=p1
  unfold aj at rw'
  obtain⟨a,rfl,hla⟩:=rw'
  cases el:ao st1 l with
  | none=>rw[el] at p1';exact aa p1'
  | some ws=>
   rw[el] at p1'
   obtain⟨HC,q0,_⟩:=S1.read hla el
   refine⟨a,rfl,.inl ⟨⟨HC,q0⟩,?_⟩⟩
   let Pv:Nat->St->Hp->Prop:=λk σ H=>∃ρ st m',Ext X.K m1 H1 m' H/\bG X.K m' st H/\aA X.K m' H ρ σ/\ao st l=some ws/\aJ X m' H (forL i gb l ws (ws.drop k) ρ st) D
   refine⟨λk n σ H=>n=ws.length - k/\k<=ws.length/\Pv k σ H,⟨ws.length,by simp,bY _,ρ,st1,m1,Ext.refl,S1,R.mono e1,el,aJ.shift p1' e1⟩,?_⟩
   rintro k n σ2 H2 ⟨rfl,hk,ρ2,st2,m2,e2,S2,R2,l2,p2⟩
   obtain⟨xs,hq,rws⟩:=S2.read (e2.pre _ _ hla) l2
   have hlen:=rws.length
   by_cases hlt:k < ws.length
   ·have hx':k < xs.length:=by omega
    refine .inr ⟨⟨xs,xs[k],hq,by simp[hx']⟩,Pv (k+1),λσ' H' p'=>⟨ws.length - (k+1),by omega,rfl,hlt,p'⟩,λx H' y=>?_⟩
    obtain⟨ee,y⟩:=y
    subst ee
    have ey:=y xs hq
    have ed:ws.drop k=ws[k]::ws.drop (k+1):=qU hlt
    obtain⟨x',ex',pK⟩:=rws.get (i:=k) (w:=ws[k]) (cK hlt)
    rw[ey] at ex'
    cases ex'
    rw[ed] at p2
    refine hb _ st2 _ _ m2 _ S2 (R2.set i pK) ?_
    unfold forL at p2
    cases eg:gb (ρ2.set i (some ws[k])) st2 with
    | nx ρ3 st3=>
     rw[eg] at p2
     by_cases c:ao st3 l=some ws
     ·simp only[if_pos c] at p2
      exact λσ3 m3 H3 e3 S3 R3=>⟨ρ3,st3,m3,e2.trans e3,S3,R3,c,aJ.shift p2 e3⟩
     ·simp only[if_neg c] at p2;exact aa p2
    | ct ρ3 st3=>
     rw[eg] at p2
     by_cases c:ao st3 l=some ws
     ·simp only[if_pos c] at p2
      exact λσ3 m3 H3 e3 S3 R3=>⟨ρ3,st3,m3,e2.trans e3,S3,R3,c,aJ.shift p2 e3⟩
     ·simp only[if_neg c] at p2;exact aa p2
    | bk ρ3 st3=>rw[eg] at p2;exact p2
    | rt w3 st3=>rw[eg] at p2;exact p2
    | err c3 ρ3 st3=>rw[eg] at p2;exact p2
    | bad=>rw[eg] at p2;exact p2
   ·have e:k=ws.length:=by omega
    subst e
    rw[vo] at p2
    exact .inl ⟨⟨xs,hq,by omega⟩,p2 σ2 m2 H2 Ext.refl S2 R2⟩
 | tup ws=>
  unfold aj at rw'
  obtain⟨a,xs,rfl,hq,rws⟩:=rw'
  have hlen:=rws.length
  refine⟨a,rfl,.inr ⟨⟨xs,fV.of hq⟩,?_⟩⟩
  refine qT i hb (ws:=ws) S1 (R.mono e1) (aJ.shift p1 e1) (λk H m' e hk=>?_) (λk H m' e hk=>?_) λk hk H x H' m' e y=>?_
  ·have hx':k < xs.length:=by omega
   exact⟨xs,xs[k],fV.of (e.tup _ _ hq),by simp[hx']⟩
  ·exact⟨xs,fV.of (e.tup _ _ hq),by omega⟩
  ·obtain⟨ee,y⟩:=y
   refine⟨ee,?_⟩
   obtain⟨x',ex',pK⟩:=(ai.mono e _ _ rws).get (i:=k) (w:=ws[k]) (cK hk)
   rw[y xs (fV.of (e.tup _ _ hq))] at ex'
   cases ex'
   exact pK
 | qN ws=>
  unfold aj at rw'
  obtain⟨a,xs,rfl,hq,rws⟩:=rw'
  have hlen:=rws.length
  refine⟨a,rfl,.inr ⟨⟨xs,.inr hq⟩,?_⟩⟩
  refine qT i hb (ws:=ws) S1 (R.mono e1) (aJ.shift p1 e1) (λk H m' e hk=>?_) (λk H m' e hk=>?_) λk hk H x H' m' e y=>?_
  ·have hx':k < xs.length:=by omega
   exact⟨xs,xs[k],.inr hq,by simp[hx']⟩
  ·exact⟨xs,.inr hq,by omega⟩
  ·obtain⟨ee,y⟩:=y
   refine⟨ee,?_⟩
   obtain⟨x',ex',pK⟩:=(ai.mono e _ _ rws).get (i:=k) (w:=ws[k]) (cK hk)
   rw[y xs (.inr hq)] at ex'
   cases ex'
   exact pK
 | _=>exact aa p1
def bo(lo:Int)(n:Nat):List Wv:=(ig n).map λk:Nat=>Wv.int (lo+k)
theorem oN{lo:Int}{n k:Nat}(h:k < n):(bo lo n)[k]? =some (.int (lo+k)):=by
 unfold bo
 rw[fg,List.getElem?_range h]
 rfl
theorem xj{lo:Int}{n k:Nat}(h:k < (bo lo n).length):(bo lo n)[k]= .int (lo+k):=by
 have q:=oN (lo:=lo) (n:=n) (k:=k) (by unfold bo at h;simpa using h)
 rw[cK h] at q
 exact Option.some.inj q
theorem bL{lo:Int}{n:Nat}:(bo lo n).length=n:=by unfold bo;simp
def cP(i:Int):Prop:=-(2 ^ 62)<=i/\i < 2 ^ 62
instance {i}:Decidable (cP i):=EC _
def mL(i:Nat)(ga:GA)(gb:GS):GS:=λρ st=>(ga ρ st).bJ ρ λws st1=>match ws with
 | [.int j]=>if cP j then fZ i gb (bo 0 j.toNat) ρ st1 else .bad
 | _=> .bad
def vp(i:Nat)(ga:GA)(gb:GS):GS:=λρ st=>(ga ρ st).bJ ρ λws st1=>match ws with
 | [.int a,.int j]=>if cP a/\cP j then fZ i gb (bo a (j - a).toNat) ρ st1 else .bad
 | _=> .bad
theorem A0(i:Nat){body:List Stmt}{gb:GS}(hb:nj X body gb){lo:Int}{n:Nat}{m1:Mp}{H1:Hp}{st1:Hs}{ρ:b9}{σ:St}{D:Ends}(S1:bG X.K m1 st1 H1)(R:aA X.K m1 H1 ρ σ)(p1:aJ X m1 H1 (fZ i gb (bo lo n) ρ st1) D) :
  ∃W:Nat->Nat->St->Hp->Prop,(∃m,W 0 m σ H1)/\∀k n' σ H,W k n' σ H->
   ((Hz lo n).stop k H/\D.nx σ H)\/((Hz lo n).go k H/\∃N:St->Hp->Prop,(∀σ' H',N σ' H'->∃m',m' < n'/\W (k+1) m' σ' H')/\∀x H',(Hz lo n).yF k H x H'->wL i x σ H' λσ2 H2=>Q_ X body { D with nx:=N,ct:=N,bk:=D.nx } σ2 H2) :=
 qT i hb S1 R p1 (λk H m' e hk=>by rw[bL] at hk;exact hk) (λk H m' e hk=>by rw[bL] at hk;exact p_ hk.symm) λk hk H x H' m' e y=>by
  obtain⟨y1,y2⟩:=y
  refine⟨y1,?_⟩
  rw[xj,y2]
  exact mkInt
theorem ED(i:Nat){x:Str}{a:Expr}{body:List Stmt}{ga:GA}{gb:GS}{pos pos' p q:Pos}(hN:X.N.Nodup)(hp:PassesOwn (model X.prog X.w) X.A X.env X.xe)(hc:X.calm=true)(hg:Gl X "range")(hm:X.mg "range"=none)(ha:JA X [a] ga)(hb:nj X body gb)
  (hx:X.N[i]? =some x)(hlo:Loc X.env.scope x)(Ry:X.fn x=true\/X.env.scope.names.lookup x=some .local)(hst:acK [a] X.env=[(false,eval a X.env)]):JS X (.For (.Name x pos') (.Call (.Name "range" p) [a] [] q) body [] pos) (mL i ga gb):=by
 refine JS.of (qz hp hc (tE hg hm ku hst) (p8 hN hx hlo Ry) gE (λ_=>rfl)) λρ st σ H m D S R p=>?_
 refine ha.go S R (aJ.di R p) λws st1 vs m1 H1 p1 e1 S1 rs=>?_
 match ws,rs,p1 with
 | [],rs,p1=>exact aa p1
 | x::y::t,rs,p1=>cases x<;>exact aa p1
 | [x],rs,p1=>
  obtain⟨v,rfl,r1⟩:=kG rs
  cases x with
  | int j=>
   cases aS r1
   have p2:aJ X m H (if cP j then fZ i gb (bo 0 j.toNat) ρ st1 else .bad) D:=p1
   by_cases c:cP j
   ·rw[if_pos c] at p2
    exact⟨j,rfl,c.1,c.2,A0 i hb S1 (R.mono e1) (aJ.shift p2 e1)⟩
   ·rw[if_neg c] at p2;exact aa p2
  | _=>exact aa p1
theorem EE(i:Nat){x:Str}{a b:Expr}{body:List Stmt}{ga:GA}{gb:GS}{pos pos' p q:Pos}(hN:X.N.Nodup)(hp:PassesOwn (model X.prog X.w) X.A X.env X.xe)(hc:X.calm=true)(hg:Gl X "range")(hm:X.mg "range"=none)(ha:JA X [a,b] ga)(hb:nj X body gb)
  (hx:X.N[i]? =some x)(hlo:Loc X.env.scope x)(Ry:X.fn x=true\/X.env.scope.names.lookup x=some .local)(hst:acK [a,b] X.env=[(false,eval a X.env),(false,eval b X.env)])(Nd:acK [b] X.env=[(false,eval b X.env)]):JS X (.For (.Name x pos') (.Call (.Name "range" p) [a,b] [] q) body [] pos) (vp i ga gb):=by
 refine JS.of (qz hp hc (tF hg hm ku hst Nd) (p8 hN hx hlo Ry) gE (λ_=>rfl)) λρ st σ H m D S R p=>?_
 refine ha.go S R (aJ.di R p) λws st1 vs m1 H1 p1 e1 S1 rs=>?_
 match ws,rs,p1 with
 | [],rs,p1=>exact aa p1
 | [x],rs,p1=>cases x<;>exact aa p1
 | x::y::z::t,rs,p1=>cases x<;>cases y<;>exact aa p1
 | [x,y],rs,p1=>
  obtain⟨v,v',rfl,r1,r2⟩:=w9 rs
  cases x with
  | int a=>
   cases y with
   | int j=>
    cases aS r1;cases aS r2
    have p2:aJ X m H (if cP a/\cP j then fZ i gb (bo a (j - a).toNat) ρ st1 else .bad) D:=p1
    by_cases c:cP a/\cP j
    ·rw[if_pos c] at p2
     exact⟨a,j,rfl,⟨c.1.1,c.1.2,c.2.1,c.2.2⟩,A0 i hb S1 (R.mono e1) (aJ.shift p2 e1)⟩
    ·rw[if_neg c] at p2;exact aa p2
   | _=>exact aa p1
  | _=>cases y<;>exact aa p1
theorem Jk{pos:Pos}:JS X (.Return none pos) (bR (gC .aI)):=JS.of Ia λρ st σ H m D S R p=>p .aI m H Ext.refl S w5
end
abbrev vq:List acy:=[.type "ValueError",.type "Exception",.type "BaseException",.type "object"]
abbrev vt:String:="ValueError.__new__"
structure Jl(K:PySem.W.Frag)(c:PySem.Str)(C:acr):Prop where
 cls:ClsAt K c C
 exc:PySem.W.excIn K C vq vt=true
theorem jU{K:PySem.W.Frag}{h:Heap}{C:acr}(KX:K.In h)(q:PySem.W.excIn K C vq vt=true) :
  ∃(bm:List acy)(N:acr)(nm qn:Str)(bs:List acy)(hd:Bool)(sn:List Str)(sub:List acy)(ab:Bool)(col:Option Bool)(dd:Option acr)(k0 k1 k2 k3 k5:Option acy)(mN:Str->Option acy),
   h.get? C=some (excClassObj nm qn C N bs bm hd sn sub ab col dd k0 k1 k2 k3 k5 vt)/\h.Ns N mN/\mN "__init__"=none/\OwnTail h vq bm/\(∀v r,PySem.W.mroIn K C v=some r->(aE C::bm).contains v=r):=by
 unfold PySem.W.excIn at q
 split at q
 ·rename_i dd cd sl lk
  split at q
  ·rename_i C1 bm k0 k1 k2 k3 n1 k5 em es
   simp only[cz,beq_iff_eq,Bool.not_eq_true'] at q
   obtain⟨⟨⟨⟨⟨q1,q2⟩,q3⟩,q4⟩,q5⟩,q6⟩:=q
   subst q1 q2
   obtain⟨nm,bs,mro,N,qn,hd,sn,sub,ab,col,del⟩:=cd
   dsimp only at em q3 q5 q6
   subst em q3
   have ZU:sl=#[k0,k1,k2,k3,some (.builtin vt),k5]:=by
    cases sl with
    | mk l=>exact congrArg Array.mk es
   subst ZU
   refine⟨bm,N,nm,qn,bs,hd,sn,sub,ab,col,dd,k0,k1,k2,k3,k5,_,KX _ _ lk,.of_isNs (PySem.W.isNs_of_in KX q5),PySem.W.nsMap_none_of_in KX q5 q6,PySem.W.tail_of_in KX q4,λv r e=>?_⟩
   unfold PySem.W.mroIn PySem.W.clsIn at e
   rw[lk] at e
   first
    | exact Option.some.inj e
    | (simp at e;exact e)
  ·cases q
 ·cases q
section
variable {X:Cx}
def jh(c:PySem.Str)(ga:GA):GS:=λρ st=>(ga ρ st).bJ ρ λws st1=>if ws.length<=lim then .err c ρ st1 else .bad
theorem EF{c:Str}{C:acr}{e:Expr}{es:List Expr}{ga:GA}{np cpos pos:Pos}(hc:X.calm=true)(O:Jl X.K c C)(hg:Gl X c)(hm:X.mg c=some (.ref C))(ha:JA X (e::es) ga)(hd:(c == ("__debug__":Str))=false)
  (he:acK (e::es) X.env=(false,eval e X.env)::acK es X.env)(hpl:(backTo cpos (acK es X.env)).any (·.1)=false):JS X (.Raise (some (.Call (.Name c np) (e::es) [] cpos)) none pos) (jh c ga):=by
 intro ρ st σ H m D S R p pins s I
 have args:=ha.go (T:=λvs H1=>∃ws st1 m1,aJ X m H (if ws.length<=lim then .err c ρ st1 else .bad) D/\Ext X.K m H m1 H1/\bG X.K m1 st1 H1/\ai X.K m1 H1 ws vs) S R (aJ.di R p)
  λws st1 vs m1 H1 p1 e1 S1 rs=>⟨ws,st1,m1,p1,e1,S1,rs⟩
 obtain⟨bm,N,nm,qn,bs,Qk,sn,sub,ab,col,dd,k0,k1,k2,k3,k5,mN,hC,hN,hni,T,_⟩:=jU I.ok.mod.LW O.exc
 refine wpAny_Raise_call_subU (C:=C) (nm:=nm) (q:=qn) (N:=N) (bs:=bs) (bm:=bm) (hdct:=Qk) (sn:=sn) (sub:=sub) (ab:=ab) (col:=col) (dd:=dd) (k0:=k0) (k1:=k1) (k2:=k2) (k3:=k3) (k5:=k5) (bmB:=vq)
  F.excBase_ValueError (by decide) F.excBase_ValueError (mN:=mN) (T.hasType F.excBase_ValueError.hasBase) (I.ok.hd hc) ?_ hni (nE I hg hm ⟨rfl,?_⟩ hd)
 ·rw[he]
  show(false||(backTo cpos (acK es X.env)).any (·.1))=false
  rw[hpl]
  rfl
 ·have go:=args cpos pins s I
  rw[he] at go ⊢
  refine y6 (bJ go λus s1 ⟨vs,H1,I1,r,ws,st1,m1,p1,e1,S1,rs⟩=>?_)
  by_cases cl:ws.length<=lim
  ·rw[if_pos cl] at p1
   refine⟨rfl,by rw[<-r.length,<-rs.length];exact eI cl,I1.bk _ _ hC,hN.keeps I1.bk,T.keeps I1.bk,λh2 a M=>?_⟩
   exact p1 σ m1 H1 _ _ e1 S1 (R.mono e1) ⟨C,pins,H1,s1,O.cls,I1,.inr ⟨rfl,a,us,rfl,rfl,rfl,M⟩⟩
  ·rw[if_neg cl] at p1;exact aa p1
end
structure jB(K:PySem.W.Frag)(C:acr):Prop where
 exc:PySem.W.excIn K C vq vt=true
 ga:PySem.W.findIn K (.ref C) "__getattribute__"=some (some (.builtin "BaseException.__getattribute__"))
 gx:PySem.W.findIn K (.ref C) "__getattr__"=some none
 cl:PySem.W.findIn K (.ref C) "__class__"=some (some (.builtin "object.__class__"))
section
variable {prog:acw} {w:acz} {A:acs} {E:acy->acx->Prop} {h:Heap} {g:Array GenState} {d:Drawn} {t:Nat} {os:OsState} {a C:acr} {o:Obj} {K:PySem.W.Frag}
theorem Nf{R:Result->acx->Prop}(Y:K.In h)(Z:jB K C)(ha:h.get? a=some o)(hc:o.cls= .ref C)(k:R (.ok (.ret (.ref C))) ⟨h,g,d,t,os⟩) :
  acD (model prog w) A (.call (.builtin "getset_descriptor.__get__") ⟨[.builtin "object.__class__",.ref a,.ref C],[]⟩) R ⟨h,g,d,t,os⟩:=by
 obtain⟨bm,N,nm,qn,bs,Qk,sn,sub,ab,col,dd,k0,k1,k2,k3,k5,mN,hC,hN,hni,T,_⟩:=jU Y Z.exc
 have ty:(⟨h,g,d,t,os⟩:acx).TypeIs (.builtin "object.__class__") "getset_descriptor":=EG
 have own:(aE C::bm).contains (.type (".".intercalate ("object.__class__".cutAt '.').dropLast))=true:=by
  rw[F.owner_object_class,zm,T.hasType (X:="object") (b:=true) (by decide)];rfl
 refine codeAny_call_builtin F.slot_gs_get.plain F.entry_gs_get (F.slot_gs_get.check _ _ _ _ _ _ _ _ ty (F.args_gs_get _ _ _) ?_)
 repeat (any_goals (first | assumption | (with_reducible refine wpAny_loadPart_at ha ?_;rw[hc]) | (with_reducible refine wpAny_isSubtype_exc hC ?_;rw[own]) | wp_step))
 refine⟨Code.quiet_builtin _ (by decide+kernel),codeAny_builtin F.entry_object_class ?_⟩
 repeat (any_goals (first | assumption | (with_reducible refine wpAny_loadPart_at ha ?_;rw[hc]) | wp_step))
theorem EH{tk:Tok}{Q:Fin->acx->Prop}(Y:K.In h)(Z:jB K C)(ha:h.get? a=some o)(hc:o.cls= .ref C)(k:Q (.done (.ret (.ref C))) ⟨h,g,d,t,os⟩) :
  acL (model prog w) A (Builtin.«object.__getattribute__» ⟨[.ref a,.str "__class__" tk],[]⟩) Q E ⟨h,g,d,t,os⟩:=by
 have ty:(⟨h,g,d,t,os⟩:acx).TypeIs (.builtin "object.__class__") "getset_descriptor":=EG
 have t1:=EG
 have t2:=F.slot_gs_get.lookup
 have t3:=F.slot_gs_set.lookup
 have L:=PySem.W.looks_findIn (M:=model prog w) Y Z.cl
 repeat (any_goals (first | assumption | (with_reducible refine wpAny_loadPart_at ha ?_;rw[hc]) | with_reducible refine L.at ?_ | wp_step))
 refine Nf Y Z ha hc ?_
 repeat (any_goals (first | assumption | wp_step))
theorem EI{M:Model}{nv:acy}{Q:Unit->acx->Prop}(Y:K.In h)(Z:jB K C)(ha:h.get? a=some o)(hc:o.cls= .ref C)(k:Q () ⟨h,g,d,t,os⟩) :
  acL M A (checkBuiltinCall "BaseException.__getattribute__" ⟨[.ref a,nv],[]⟩) Q E ⟨h,g,d,t,os⟩:=by
 obtain⟨bm,N,nm,qn,bs,Qk,sn,sub,ab,col,dd,k0,k1,k2,k3,k5,mN,hC,hN,hni,T,_⟩:=jU Y Z.exc
 have u1:builtinKind "BaseException.__getattribute__"=some .slot:=by decide+kernel
 have u2:splitId "BaseException.__getattribute__"=some ("BaseException","__getattribute__"):=by decide+kernel
 have u3:(aE C::bm).contains (.type "BaseException")=true:=by rw[zm,T.hasType (X:="BaseException") (b:=true) (by decide)];rfl
 have u4:=F.args_bexc_ga (.ref a) nv
 simp only[checkBuiltinCall,u1,u2]
 refine acM ?_
 unfold isInstance
 repeat (first | (with_reducible refine wpAny_loadPart_at ha ?_;rw[hc]) | (with_reducible refine wpAny_isSubtype_exc hC ?_;rw[u3]) | wp_step)
 exact k
theorem Rz{tk:Tok}{Q:acy->acx->Prop}(Y:K.In h)(Z:jB K C)(ha:h.get? a=some o)(hc:o.cls= .ref C)(k:Q (.ref C) ⟨h,g,d,t,os⟩) :
  acL (model prog w) A (getAttrBy (.ref a) (.str "__class__" tk) false) Q E ⟨h,g,d,t,os⟩:=by
 have v1:=F.excAttr_ValueError.ga.bind (.ref a)
 have v2:(iX "BaseException.__getattribute__" == iX "object.__getattribute__")=false:=by decide+kernel
 have v3:(onTheHeap (aE C)&&iX "BaseException.__getattribute__" == iX "object.__getattribute__")=false:=by rw[v2];rfl
 have v4:(false&&onTheHeap (iX "BaseException.__getattribute__"))=false:=rfl
 have L1:=PySem.W.looks_findIn (M:=model prog w) Y Z.ga
 have L2:=PySem.W.looks_findIn (M:=model prog w) Y Z.gx
 repeat (any_goals (first | assumption | (with_reducible refine wpAny_loadPart_at ha ?_;rw[hc]) | with_reducible refine L1.at ?_ | with_reducible refine L2.at ?_ | wp_step))
 refine codeAny_call_builtin F.excAttr_ValueError.ga.plain F.entry_bexc_ga (EI Y Z ha hc (EH Y Z ha hc ?_))
 repeat (any_goals (first | assumption | wp_step))
theorem Jm{Q:Option acy->acx->Prop}(Y:K.In h)(Z:jB K C)(ha:h.get? a=some o)(hc:o.cls= .ref C)(k:Q (some (.ref C)) ⟨h,g,d,t+1,os⟩) :
  acL (model prog w) A (getAttr? (.ref a) "__class__") Q E ⟨h,g,d,t,os⟩:=by
 unfold getAttr? getAttrBy?
 repeat (any_goals (first | assumption | with_reducible apply Rz Y Z ha hc | wp_step))
end
structure U_(X:Cx):Prop where
 st:X.stack=X.env::X.outer
 fr:X.env.frame=some X.env.locals
 ex:X.ex=[]
theorem tX{P:acw}{w:acz}{H:Hp}{h:Heap}{a:acr}{o:HO}(x:dm P w H h a o):∃u,h.get? a=some u:=by
 cases o with
 | lst xs=>obtain⟨_,_,_,_,e⟩:=x;exact⟨_,e⟩
 | tup xs=>obtain⟨_,_,_,⟨ob,e,_⟩,_⟩:=x;exact⟨_,e⟩
 | dK kvs=>obtain⟨_,_,_,_,ob,_,_,e,_⟩:=x;exact⟨_,e⟩
 | dT kvs=>obtain⟨_,_,_,_,ob,_,_,e,_⟩:=x;exact⟨_,e⟩
 | dN kvs=>obtain⟨_,_,_,_,ob,_,_,e,_⟩:=x;exact⟨_,e⟩
 | set S n=>obtain⟨ob,_,_,_,e,_⟩:=x;exact⟨_,e⟩
 | ins C dx fs=>obtain⟨_,_,_,e,_⟩:=x;exact⟨_,e⟩
 | own y=>exact x
 | xd fs=>obtain⟨_,⟨_,_,_,e,_⟩,_⟩:=x;exact⟨_,e⟩
 | Ti lo hi=>obtain⟨_,_,_,e⟩:=x;exact⟨_,e⟩
 | eL ob u=>obtain⟨e,_⟩:=x;exact⟨_,e⟩
 | jf ps=>exact⟨_,x⟩
 | met f y=>exact⟨_,x⟩
 | ext φ=>exact x.2.1
def Ng(X:Cx)(a:acr):Prop:=X.s₀.heap.get? a=none/\(∀xs,X.H₀ a≠some (.tup xs))/\(∀o u,X.H₀ a≠some (.eL o u))/\∀ps,X.H₀ a≠some (.jf ps)
def Cm(o:Obj):Prop:=∃vs,o.data= .fields vs/\vs[2]? =some bp
section
variable {X:Cx} {pins:List (acr×Obj)} {σ:St} {Hc H':Hp} {sc s':acx} {B h2:Heap} {a C:acr} {a0:acy} {ch:List acr}
theorem lP(I:Inv X pins σ Hc sc)(os:s'.os=sc.os)(bare:AllBare s'.gens)(hch:∀b∈ch,ij X pins Hc b)(un:Un (frs X.stack) ch Hc H' sc.heap s'.heap)(hok:ko X.prog X.w H' B)(fl:va B X.stack a (.ref C) a0 h2)(up:s'.heap.UpToSlots h2)
  (wY:∀b o,sc.heap.get? b=some o->b∉frs X.stack->b∉ch->∃o',B.get? b=some o'/\(Hc b=none->o'=o)){tk:Nat} :
  (∃o,Cm o/\Inv X pins σ (upd H' a (.eL o (.ext (kR a C)))) { s' with heap:=h2,toks:=tk })/\H' a=none/\(X.ex=[]->Ng X a):=by
 have stay:=fl.1
 obtain⟨oe,vs,TF,hcl,hda,ZV⟩:=fl.first
 have ZW:kR a C h2:=⟨oe,TF,hcl,vs,hda⟩
 have ha:H' a=none:=by
  cases q:H' a with
  | none=>rfl
  | some u=>
   obtain⟨z,e⟩:=tX (hok a u q)
   rw[fl.2.1] at e
   cases e
 have ZX:a∉frs X.stack:=λz=>by
  obtain⟨_,o1,e1,d1⟩:=fl.2.2.1.mem z
  rw[TF] at e1
  cases e1
  exact d1 vs hda
 have LX:∀b∈frs X.stack,b∉ch:=λb hb z=>by
  rcases List.mem_cons.mp (I.qx b hb) with q | q
  ·exact(hch b z).2.1 q
  ·exact(hch b z).2.2.1 q
 have new:a∉ch->∀o,sc.heap.get? a≠some o:=λhx o e=>by
  obtain⟨o1,e1,_⟩:=wY a o e ZX hx
  rw[fl.2.1] at e1
  cases e1
 have ne:∀b u,H' b=some u->b≠a:=λb u e=>bC e ha
 have sl:∀b o,sc.heap.get? b=some o->Hc b=none->b∈frs X.stack->∃sl,h2.get? b=some { o with slots:=sl }:=λb o e n hb=>by
  obtain⟨s1,e1⟩:=un.slot b o e n hb (LX b hb)
  obtain⟨_,o1,e2,d1⟩:=I.stack.mem hb
  rw[e] at e2
  cases e2
  obtain⟨s2,e3⟩:=up b _ e1 d1
  exact⟨s2,e3⟩
 refine⟨⟨oe,⟨vs,hda,ZV⟩,?_⟩,ha,λhex=>?_⟩
 rotate_left
 ·refine⟨?_,λxs q=>?_,λo u q=>?_,λps q=>?_⟩
  rotate_left
  ·have z:=un.tups _ _ (I.base.tups _ _ q)
   rw[ha] at z;cases z
  ·have z:=un.ju _ _ _ (I.base.ju _ _ _ q)
   rw[ha] at z;cases z
  ·obtain⟨_,z⟩:=I.base.kL _ _ q
   obtain⟨_,z⟩:=un.kL _ _ z
   rw[ha] at z;cases z
  cases q:X.s₀.heap.get? a with
  | none=>rfl
  | some o0=>
   obtain⟨o1,q1⟩:=I.base.there a o0 q (by rw[hex];simp)
   refine absurd q1 (new (λz=>?_) o1)
   rcases(hch a z).2.2.2.1 with y | y
   ·rw[hex] at y;cases y
   ·exact absurd (bt (aC q) y) (cX _)
 refine I.DD (s':={ s' with heap:=h2,toks:=tk }) (ch:=ch) os ?_ ?_ bare (λb z=>⟨(hch b z).2.2.2.1,(hch b z).2.1,(hch b z).2.2.2.2.1,(hch b z).2.2.2.2.2⟩)
 ·refine⟨λb o e n hb hx=>?_,λb o e n hb _=>sl b o e n hb,λb o e n hx=>?_,λb o e hx=>?_,λb xs h=>?_,λb o u h=>?_,λb ps h=>?_⟩
  ·obtain⟨o1,e1,e2⟩:=wY b o e hb hx
   rw[e2 n] at e1
   exact stay b o e1
  ·have ba:b≠a:=λz=>by subst z;exact new hx o e
   rw[av ba]
   exact un.free b o e n hx
  ·by_cases hb:b∈frs X.stack
   ·obtain⟨s2,e2⟩:=sl b o e (I.nu b hb) hb
    exact⟨_,e2⟩
   ·obtain⟨o1,e1,_⟩:=wY b o e hb hx
    exact⟨o1,stay b o1 e1⟩
  ·have q:=un.tups b xs h
   rw[av (ne b _ q)]
   exact q
  ·have q:=un.ju b o u h
   rw[av (ne b _ q)]
   exact q
  ·obtain⟨m1,q⟩:=un.kL b ps h
   refine⟨m1,?_⟩
   rw[av (ne b _ q)]
   exact q
 ·intro b u e
  by_cases hb:b=a
  ·subst hb
   rw[aH] at e
   cases e
   exact⟨TF,ZW,⟨oe,TF⟩,λh3 h4 p k=>let ⟨o1,q1,q2,q3⟩:=p;⟨o1,k o1 q1,q2,q3⟩⟩
  ·rw[av hb] at e
   exact(hok b u e).stay (λc v _ q=>stay c v q) (λc q=>by rw[av (ne c _ q)];exact q) λc xs q=>by rw[av (ne c _ q)];exact q
end
theorem Cp{M:Model}{A:acs}{E:acy->acx->Prop}{s:acx}{K:PySem.W.Frag}{a C D:acr}{o:Obj}{b:Bool}{Q:Bool->acx->Prop}(Y:K.In s.heap)(ZC:PySem.W.excIn K C vq vt=true)(ZD:PySem.W.excIn K D vq vt=true)
  (hm:PySem.W.mroIn K C (.ref D)=some b)(ha:s.heap.get? a=some o)(hc:o.cls= .ref C)(k:Q b s):acL M A (excMatches (.ref a) (.ref D)) Q E s:=by
 obtain⟨h,g,d,t,os⟩:=s
 obtain⟨bm,N,nm,qn,bs,Qk,sn,sub,ab,col,dd,k0,k1,k2,k3,k5,mN,hC,hN,hni,T,mr⟩:=jU Y ZC
 obtain⟨bm',N',nm',qn',bs',ZY,sn',sub',ab',col',K5,k0',zo,k2',k3',k5',mN',hD,hN',ZZ,T',mr'⟩:=jU Y ZD
 have e1:(aE C::bm).contains (.ref D)=b:=mr _ _ hm
 have e2:(aE D::bm').contains (.type "BaseException")=true:=by rw[zm,T'.hasType (X:="BaseException") (b:=true) (by decide)];rfl
 have f:=tc_notTuple
 unfold excMatches
 repeat (first | (with_reducible refine wpAny_loadPart_at ha ?_;rw[hc]) | with_reducible refine wpAny_loadPart_at hD ?_ | (with_reducible refine wpAny_isSubtype_exc hD ?_;rw[e2]) | (with_reducible refine wpAny_isSubtype_exc hC ?_;rw[e1]) | wp_step)
 cases b<;>(wp_walk;exact k)
theorem xk{K:PySem.W.Frag}{a C:acr}(Z:jB K C):PySem.W.KitX K (.ref a) (.ref C) (kR a C) where
 ty:=λM h _ p=>by
  obtain⟨o,h1,h2,_⟩:=p
  rw[<-h2]
  exact(PySem.W.Looks.ld h1).andThen .now
 it:=λM h Y _=>by
  obtain⟨bm,N,nm,qn,bs,Qk,sn,sub,ab,col,dd,k0,k1,k2,k3,k5,mN,hC,_⟩:=jU Y Z.exc
  intro A' Q' E' s' k q
  unfold isType loadHead
  exact acM (wpAny_loadPart (k _ _ hC) (acR q))
 ne:=λh tp dd its n sl Y e=>by
  obtain⟨bm,N,nm,qn,bs,Qk,sn,sub,ab,col,K5,k0,k1,k2,k3,k5,mN,hC,_⟩:=jU Y Z.exc
  refine Bool.eq_false_iff.mpr λq=>?_
  have z:C=tp:=Value.ref.inj (beq_iff_eq.mp q)
  subst z
  rw[hC] at e
  have z2:iU "type"=iU "tuple":=congrArg Obj.cls (Option.some.inj e)
  exact absurd z2 (by decide)
 ca:=λ{prog w A E Q s} Y p k=>by
  obtain⟨o,h1,h2,_⟩:=p
  obtain⟨h,g,d,t,os⟩:=s
  exact Jm Y Z h1 h2 k
abbrev Tab:=List ((PySem.Str×PySem.Str)×Bool)
abbrev sF:=List ((PySem.Str×String)×Bool)
structure TabOk(K:PySem.W.Frag)(tb:Tab)(tt:sF)(tc:Tab):Prop where
 own:∀c d b C D,tb.lookup (c,d)=some b->ClsAt K c C->ClsAt K d D->jB K C/\PySem.W.kitOne K (.ref C) (.ref D)=some b
 cat:∀c d b C D,tc.lookup (c,d)=some b->ClsAt K c C->ClsAt K d D->PySem.W.excIn K C vq vt=true/\PySem.W.excIn K D vq vt=true/\PySem.W.mroIn K C (.ref D)=some b
 typ:∀c T b C,tt.lookup (c,T)=some b->ClsAt K c C->jB K C/\PySem.W.kitOne K (.ref C) (.type T)=some b
def oO(tb:Tab)(c:PySem.Str):List Wv->Option Bool
 | []=>some false
 | .cls d::r=>(match tb.lookup (c,d) with
  | some true=>some true
  | some false=>oO tb c r
  | none=>none)
 | _=>none
theorem tY{K:PySem.W.Frag}{m:Mp}{H:Hp}{tb:Tab}{tt:sF}{tc:Tab}(O:TabOk K tb tt tc){c:PySem.Str}{C:acr}(hC:ClsAt K c C):∀{ds:List Wv}{vs:List V}{its:List acy}{b:Bool},ai K m H ds vs->Vals vs its->oO tb c ds=some b->PySem.W.kitAny K (.ref C) its=some b
 | [],vs,its,b,r,v,e=>by
  unfold ai at r
  subst r
  cases v
  cases e
  rfl
 | w::ds,vs,its,b,r,v,e=>by
  unfold ai at r
  obtain⟨x,t,rfl,r1,r2⟩:=r
  cases v with
  | cons h1 h2=>
   cases w with
   | cls d=>
    unfold aj at r1
    obtain⟨D,rfl,hD⟩:=r1
    cases h1
    unfold oO at e
    unfold PySem.W.kitAny
    cases q:tb.lookup (c,d) with
    | none=>rw[q] at e;cases e
    | some k=>
     rw[q] at e
     obtain⟨_,z3⟩:=O.own c d k C D q hC hD
     rw[z3]
     cases k with
     | true=>cases e;rfl
     | false=>exact tY O hC r2 h2 e
   | _=>cases e
def hJ(tb:Tab)(tt:sF):List Wv->Hs->Re Wv
 | [.mK c,.cls d],st=>(match tb.lookup (c,d) with | some b=> .ok (.bl b) st | none=> .bad)
 | [.mK c,.ty T],st=>(match tt.lookup (c,T) with | some b=> .ok (.bl b) st | none=> .bad)
 | [.mK c,.tup (.cls d::ds)],st=>(match oO tb c (.cls d::ds) with | some b=> .ok (.bl b) st | none=> .bad)
 | ws,st=>Rv ws st
section
variable {X:Cx}
theorem EJ:cV X (.builtin "isinstance") (λvs H Q=>∃a C v c b,vs=[.ref a,v]/\Tv a C (H a)/\jB X.K C/\RelV v c/\PySem.W.kitOne X.K (.ref C) c=some b/\Q (.bl b) H):=by
 intro pins s σ H xs us Q I r h
 obtain⟨a,C,v,c,b,rfl,ha,Z,rc,e,q⟩:=h
 obtain⟨u,u',rfl,r1,r2⟩:=vals2 r
 cases r1
 have uc:u'=c:=by
  cases v with
  | int i=>obtain⟨t,rfl⟩:=rc;cases e
  | str i=>obtain⟨t,rfl⟩:=rc;cases e
  | Qb i=>obtain⟨t,rfl⟩:=rc;cases e
  | Th i=>obtain⟨t,rfl⟩:=rc;cases e
  | aI=>cases rc;cases r2;rfl
  | bl i=>cases rc;cases r2;rfl
  | ref i=>cases rc;cases r2;rfl
  | ty i=>cases rc;cases r2;rfl
 subst uc
 exact PySem.W.kia_one (xk Z) I.Dq (K6 I.hok ha) e (by intro z;cases z) λtk=>⟨.bl b,H,I.tok tk,rfl,q⟩
theorem Cq:cV X (.builtin "isinstance") (λvs H Q=>∃a C p xs b,vs=[.ref a,.ref p]/\Tv a C (H a)/\jB X.K C/\fV X.K H p xs/\(∀its,Vals xs its->PySem.W.kitAny X.K (.ref C) its=some b)/\Q (.bl b) H):=by
 intro pins s σ H xs us Q I r h
 obtain⟨a,C,p,ys,b,rfl,ha,Z,hT,e,q⟩:=h
 obtain⟨u,u',rfl,r1,r2⟩:=vals2 r
 cases r1
 cases r2
 obtain⟨its,rv,⟨o,g1,g2,n,g3⟩,z⟩:=I.tuple hT
 obtain⟨oc,od,oda,osl⟩:=o
 cases g2
 cases g3
 exact PySem.W.kia_tup (xk Z) I.Dq (K6 I.hok ha) g1 (e its rv) (by intro z;cases z) λtk=>⟨.bl b,H,I.tok tk,rfl,q⟩
theorem EK{tb:Tab}{tt:sF}{tc:Tab}(O:TabOk X.K tb tt tc):eG X (.builtin "isinstance") (hJ tb tt):=by
 obtain⟨r,h1,h2⟩:=M9 (X:=X)
 refine⟨_,EJ.or (Cq.or h1),λws vs st H m Q S rs p=>?_⟩
 unfold hJ at p
 split at p
 ·rename_i _ c d
  cases e:tb.lookup (c,d) with
  | none=>rw[e] at p;exact aa p
  | some b=>
   rw[e] at p
   obtain⟨v,v',rfl,r1,r2⟩:=w9 rs
   unfold aj at r1 r2
   obtain⟨a,C,rfl,hC,ha⟩:=r1
   obtain⟨D,rfl,hD⟩:=r2
   obtain⟨z1,z3⟩:=O.own c d b C D e hC hD
   exact .inl ⟨a,C,.ref D,.ref D,b,rfl,ha,z1,rfl,z3,p _ m H Ext.refl S jT⟩
 ·rename_i _ c T
  cases e:tt.lookup (c,T) with
  | none=>rw[e] at p;exact aa p
  | some b=>
   rw[e] at p
   obtain⟨v,v',rfl,r1,r2⟩:=w9 rs
   unfold aj at r1 r2
   obtain⟨a,C,rfl,hC,ha⟩:=r1
   subst r2
   obtain⟨z1,z3⟩:=O.typ c T b C e hC
   exact .inl ⟨a,C,.ty T,.type T,b,rfl,ha,z1,rfl,z3,p _ m H Ext.refl S jT⟩
 ·rename_i _ c d ds
  cases e:oO tb c (.cls d::ds) with
  | none=>rw[e] at p;exact aa p
  | some b=>
   rw[e] at p
   obtain⟨v,v',rfl,r1,r2⟩:=w9 rs
   unfold aj at r1
   obtain⟨a,C,rfl,hC,ha⟩:=r1
   have r2':=r2
   unfold aj at r2'
   obtain⟨t,xs,rfl,hT,rx⟩:=r2'
   have Z:jB X.K C:=by
    have pK:=rx
    unfold ai at pK
    obtain⟨x,r,_,rd,_⟩:=pK
    unfold aj at rd
    obtain⟨D,_,hD⟩:=rd
    unfold oO at e
    cases q:tb.lookup (c,d) with
    | none=>rw[q] at e;cases e
    | some k=>exact(O.own c d k C D q hC hD).1
   exact .inr (.inl ⟨a,C,t,xs,b,rfl,ha,Z,fV.of hT,λits hv=>tY O hC rx hv e,p _ m H Ext.refl S jT⟩)
 ·exact .inr (.inr (h2 ws vs st H m Q S rs p))
end
section
variable {X:Cx} {pins:List (acr×Obj)} {σ:St} {H:Hp} {s:acx}
abbrev Jn(X:Cx)(A':acs)(cm:Bool)(pn:List (acr×Obj))(E:acy->acx->Prop):Cx:={ X with A:=A',calm:=cm,pn:=pn,xe:=E }
theorem RA{A':acs}{cm:Bool}{pn:List (acr×Obj)}{E:acy->acx->Prop}(ok:X.Ok)(hf:A'.frames=X.A.frames)(hd:cm=true->A'.handled=none):(Jn X A' cm pn E).Ok :=
 ⟨ok.mod,ok.kind,ok.glob,ok.blt,ok.above,ok.inj,ok.has,ok.Qd,hd,hf.trans ok.frames,ok.stk,ok.Us,ok.bs,ok.Hy,ok.B0,ok.DC,ok.mG,ok.HS⟩
theorem EL{A':acs}{cm:Bool}{E:acy->acx->Prop}(I:Inv X pins σ H s)(hf:A'.frames=X.A.frames)(hd:cm=true->A'.handled=none):Inv (Jn X A' cm (X.pn++pins) E) [] σ H s :=
 ⟨RA I.ok hf hd,I.os,I.bare,I.base,I.loc,I.cell,I.free,I.hV,λp hp=>I.pin p (by simpa using hp),I.hok,I.len⟩
theorem qW{A':acs}{cm:Bool}{E:acy->acx->Prop}{kM:List (acr×Obj)}(ok:X.Ok)(I:Inv (Jn X A' cm (X.pn++pins) E) kM σ H s):Inv X pins σ H s :=
 ⟨ok,I.os,I.bare,I.base,I.loc,I.cell,I.free,I.hV,λp hp=>I.pin p (lG _ hp),I.hok,I.len⟩
abbrev RB(X:Cx)(a:acr)(u:HO)(pn:List (acr×Obj))(E:acy->acx->Prop):Cx:={ X with A:=X.A.mark (some (.ref a)),calm:=false,pn:=pn,xe:=E,H₀:=upd X.H₀ a u }
theorem Nh{a:acr}{o:Obj}{u:HO}{E:acy->acx->Prop}(I:Inv X pins σ H s)(e:H a=some (.eL o u))(n:X.s₀.heap.get? a=none):Inv (RB X a (.eL o u) (X.pn++pins) E) [] σ H s:=by
 have k:=I.ok
 have ne:∀b o,X.s₀.heap.get? b=some o->b≠a:=λb o q z=>by rw[z,n] at q;cases q
 have nf:∀b∈X.fs,b≠a:=λb hb=>let ⟨_,o,q,_⟩:=k.mG.mem hb;ne b o q
 have up:∀b,b≠a->upd X.H₀ a (.eL o u) b=X.H₀ b:=λb h=>av h
 have dn:∀{b:acr}{w:Option HO},upd X.H₀ a (.eL o u) b=w->w≠some (.eL o u)->X.H₀ b=w:=λ{b w} q h=>by
  by_cases z:b=a
  ·rw[z,aH] at q;exact absurd q.symm h
  ·rw[up b z] at q;exact q
 have nn:∀{b:acr},upd X.H₀ a (.eL o u) b=none->X.H₀ b=none:=λq=>dn q (by intro z;cases z)
 refine⟨⟨k.mod,k.kind,k.glob,k.blt,k.above,k.inj,k.has,k.Qd,(λz=>by cases z),k.frames,k.stk,k.Us,λb ob q=>⟨(k.bs b ob q).1,(up b (ne b ob (k.bs b ob q).1)).trans (k.bs b ob q).2⟩,k.Hy,k.B0,k.DC,k.mG,λb hb=>(up b (nf b hb)).trans (k.HS b hb)⟩,I.os,I.bare,?_,I.loc,I.cell,I.free,I.hV,λp hp=>I.pin p (by simpa using hp),I.hok,I.len⟩
 have g:=I.base
 exact⟨λb ob q h=>g.keep b ob q (nn h),λb ob q h=>g.slot b ob q (nn h),λb ob q h=>g.free b ob q (nn h),g.there,λb xs q=>g.tups b xs (dn q (by intro z;cases z)),λb ob v q=>by
  by_cases z:b=a
  ·subst z
   have q':upd X.H₀ b (.eL o u) b=some (.eL ob v):=q
   rw[aH] at q'
   cases q'
   exact e
  ·exact g.ju b ob v ((up b z).symm.trans q),λb ps q=>g.kL b ps (dn q (by intro z;cases z))⟩
theorem EM{a:acr}{o:Obj}{u:HO}{E:acy->acx->Prop}{kM:List (acr×Obj)}(ok:X.Ok)(n:Ng X a)(I:Inv (RB X a (.eL o u) (X.pn++pins) E) kM σ H s):Inv X pins σ H s:=by
 have ne:∀b o,X.s₀.heap.get? b=some o->b≠a:=λb o q z=>by rw[z,n.1] at q;cases q
 have up:∀b,b≠a->(RB X a (.eL o u) (X.pn++pins) E).H₀ b=X.H₀ b:=λb h=>av h
 have g:=I.base
 exact⟨ok,I.os,I.bare,⟨λb ob q h=>g.keep b ob q ((up b (ne b ob q)).trans h),λb ob q h=>g.slot b ob q ((up b (ne b ob q)).trans h),λb ob q h=>g.free b ob q ((up b (ne b ob q)).trans h),g.there,λb xs q=>g.tups b xs ((up b λz=>n.2.1 xs (z ▸ q)).trans q),λb ob v q=>g.ju b ob v ((up b λz=>n.2.2.1 ob v (z ▸ q)).trans q),λb ps q=>g.kL b ps ((up b λz=>n.2.2.2 ps (z ▸ q)).trans q)⟩,I.loc,I.cell,I.free,I.hV,λp hp=>I.pin p (lG _ hp),I.hok,I.len⟩
def zp(X:Cx):Prop:=X.A.handled=none\/∃a o u,X.A.handled=some (.ref a)/\Cm o/\X.H₀ a=some (.eL o u)
def Cr(A:acs)(H:Hp):Prop:=A.handled=none\/∃a o u,A.handled=some (.ref a)/\Cm o/\H a=some (.eL o u)
theorem zp.at(h:zp X)(I:Inv X pins σ H s):Cr X.A H:=h.imp id λ⟨a,o,u,h1,h2,h3⟩=>⟨a,o,u,h1,h2,I.base.ju _ _ _ h3⟩
theorem RC{A':acs}{cm:Bool}{E:acy->acx->Prop}{D:Ends}{f:Flow}(ok:X.Ok)(h:SP (Jn X A' cm (X.pn++pins) E) [] D f s):SP X pins D f s:=by
 cases f with
 | next=>obtain⟨σ',H',I,q⟩:=h;exact⟨σ',H',qW ok I,q⟩
 | brk=>obtain⟨σ',H',I,q⟩:=h;exact⟨σ',H',qW ok I,q⟩
 | cont=>obtain⟨σ',H',I,q⟩:=h;exact⟨σ',H',qW ok I,q⟩
 | ret u=>obtain⟨v,σ',H',I,r,q⟩:=h;exact⟨v,σ',H',qW ok I,r,q⟩
end
theorem tZ{X:Cx}{pins:List (acr×Obj)}{σ:St}{H:Hp}{s:acx}{M:Model}{A:acs}{E:acy->acx->Prop}{i:Nat}{n:Str}{pos:Pos}{Q:Unit->acx->Prop}(I:Inv X pins σ H s)(hN:X.N.Nodup)(hi:X.N[i]? =some n)(hx:X.env.scope.names.lookup n=some .local)
  (k:∀s',Inv X pins (σ.set i none) H s'->Q () s'):acL M A (do bindName X.env n .none;unbindBehindTheSuite X.env n pos) Q E s:=by
 obtain⟨m,ns,lk⟩:=id I.loc
 have pl:(X.env.scope.kind == .class||(X.env.scope.kind == .module&&X.env.locals != X.env.globals))=false:=by rw[I.ok.kind];rfl
 have up:∀b o,X.s₀.heap.get? b=some o->b≠X.env.locals:=λb o e=>old_ne I e
 refine wpAny_nameGoes_keeps hx ns pl λh2 v Z_ sb=>k _ ?_
 obtain⟨oL,_,_,Yd,_⟩:=id ns
 refine⟨I.ok,I.os,I.bare,⟨λb o e f hb hx=>(sb.2 b (up b o e)).trans (I.base.keep b o e f hb hx),λb o e f hb hx=>?_,I.base.free,λb o e hx=>?_,I.base.tups,I.base.ju,I.base.kL⟩,⟨_,Z_,λj y w e1 e2 e3=>?_⟩,λy c e=>?_,I.free,I.hV,λp hp=>?_,λb u e=>?_,by simpa using I.len⟩
 ·obtain⟨sl,e1⟩:=I.base.slot b o e f hb hx
  exact⟨sl,(sb.2 b (up b o e)).trans e1⟩
 ·obtain⟨o1,e1⟩:=I.base.there b o e hx
  exact⟨o1,(sb.2 b (up b o e)).trans e1⟩
 ·have ji:j≠i:=λz=>by
   subst z
   have:j < σ.length:=by have q:=(List.getElem?_eq_some_iff.mp e2).1;simpa using q
   rw[iV this] at e2
   cases e2
  rw[cC (bZ ji)] at e2
  obtain⟨u,r,q⟩:=lk j y w e1 e2 e3
  refine⟨u,r,?_⟩
  rcases q with ⟨q1,q2⟩ | ⟨q1,c,q2,z⟩
  ·have yn:y≠n:=λz=>ji (qy hN e1 (z ▸ hi))
   exact .inl ⟨q1,by simp[yn,q2]⟩
  ·exact .inr ⟨q1,c,q2,z.sameBut sb (I.HU y c q2)⟩
 ·obtain⟨w,z⟩:=I.cell y c e
  exact⟨w,z.sameBut sb (I.HU y c e)⟩
 ·obtain⟨e,f,ne,nf,d⟩:=I.pin p hp
  exact⟨(sb.2 p.1 ne).trans e,f,ne,nf,d⟩
 ·refine(I.hok b u e).stay (λc w hc q=>(sb.2 c λz=>?_).trans q) (λ_ q=>q) λ_ _ q=>q
  have fr:=I.free
  rcases hc with hc | hc
  ·rw[<-z,hc,e] at fr;cases fr
  ·rw[<-z,hc] at fr;cases fr
def zq(cat:PySem.Str->Option Bool)(i:Nat)(gb gs:GS):GS:=λρ st=>match gb ρ st with
 | .err c ρ' st'=>(match cat c with
  | some true=>(match gs (ρ'.set i (some (.mK c))) st' with
   | .nx ρ2 st2=> .nx (ρ2.set i none) st2
   | .rt w st2=> .rt w st2
   | _=> .bad)
  | _=> .bad)
 | r=>r
theorem aA.unset{K:PySem.W.Frag}{m:Mp}{H:Hp}{ρ:b9}{σ:St}(R:aA K m H ρ σ)(i:Nat):aA K m H (ρ.set i none) (σ.set i none):=by
 refine⟨by simp[R.len],λj w e=>?_⟩
 have ji:i≠j:=λz=>by
  subst z
  have:i < ρ.length:=by have q:=(List.getElem?_eq_some_iff.mp e).1;simpa using q
  rw[iV this] at e
  cases e
 rw[cC ji] at e ⊢
 exact R.get j w e
section
variable {X:Cx}
theorem Cs{M:Model}{A:acs}{E:acy->acx->Prop}{s:acx}{base h:Heap}{env:Env}{outer:List Env}{L a:acr}{cls:acy}{args:List acy}{Q:Unit->acx->Prop}(hfr:A.frames=some (env::outer))(hf:env.frame=some L)
  (st:base.StaysIn h)(fs:h.FunFrames base (env::outer))(mk:vf h s.heap a cls args)(k:∀h' a0,va base (env::outer) a cls a0 h'->s.heap.UpToSlots h'->Q () { s with heap:=h' }) :
  acL M A (noteFrame (.ref a) env) (λ_ s2=>acL M A (setFlight (.ref a) none) Q E s2) E s:=by
 exact tV hfr hf st fs mk λh1 t hd1 up1=>wU hd1 λh2 yG Rx=>k h2 t yG (up1.trans Rx)
theorem kT.er{A:acs}{b:Bool}{E:acy->acx->Prop}{pins kM:List (acr×Obj)}{H H':Hp}{s s':acx}{cls e:acy}(f:kT (Jn X A b (X.pn++pins) E) kM H s H' cls e s'):kT X pins H s H' cls e s' :=
 let ⟨a,a0,nt,B,ch,e1,e2,e3,hch,r⟩:=f
 ⟨a,a0,nt,B,ch,e1,e2,e3,λb hb=>let ⟨h1,h2,h3,h4,h5,h6⟩:=hch b hb;⟨h1,h2,h3,h4,h5,λp hp=>h6 p (lG _ hp)⟩,r⟩
theorem land{pins:List (acr×Obj)}{σ:St}{Hc H':Hp}{sc s':acx}{C:acr}{e:acy}{E:acy->acx->Prop}{Q:Unit->acx->Prop}(K0:U_ X)(I:Inv X pins σ Hc sc)
  (r:kT X pins Hc sc H' (.ref C) e s'\/(H'=Hc/\∃a args,e= .ref a/\s'.os=sc.os/\s'.gens=sc.gens/\vf sc.heap s'.heap a (.ref C) args))
  (k:∀(a:acr)(a0:acy)(B h5:Heap),e= .ref a->va B X.stack a (.ref C) a0 h5->(∀h6 tk,va B X.stack a (.ref C) a0 h6->h5.UpToSlots h6->∃o,Cm o/\Inv X pins σ (upd H' a (.eL o (.ext (kR a C)))) { s' with heap:=h6,toks:=tk })->H' a=none->Ng X a->Q () { s' with heap:=h5 }) :
  acL (model X.prog X.w) X.A (noteFrame e X.env) (λ_ s2=>acL (model X.prog X.w) X.A (setFlight e none) Q E s2) E s':=by
 have hfr:X.A.frames=some (X.env::X.outer):=by rw[I.ok.frames,K0.st]
 rcases r with ⟨a,a0,nt,B,ch,rfl,os,bare,hch,un,hok,fl,wY⟩ | ⟨rfl,a,args,rfl,ho,hg,M⟩
 ·rw[K0.st] at fl
  refine w_ hfr K0.fr fl λh4 Z' U'=>?_
  refine wU Z' λh5 Dt Ni=>?_
  rw[<-K0.st] at Dt
  exact k a a0 B h5 rfl Dt (λh6 tk RD RE=>(lP I os bare hch un hok RD ((U'.trans Ni).trans RE) wY).1) (lP (tk:=0) I os bare hch un hok Dt (U'.trans Ni) wY).2.1 ((lP (tk:=0) I os bare hch un hok Dt (U'.trans Ni) wY).2.2 K0.ex)
 ·have fs:sc.heap.FunFrames (PySem.W.hideAll sc.heap (frs X.stack)) (X.env::X.outer):=by
   rw[<-K0.st]
   exact PySem.W.funFrames_hide I.stack λenv he b hb=>List.mem_filterMap.mpr ⟨env,he,hb⟩
  refine Cs (base:=PySem.W.hideAll sc.heap (frs X.stack)) hfr K0.fr (λb o q=>PySem.W.of_hideAll _ q) fs M λh5 a0 Dt Ni=>?_
  rw[<-K0.st] at Dt
  have bare:AllBare s'.gens:=by rw[hg];exact I.bare
  have hok:ko X.prog X.w H' (PySem.W.hideAll sc.heap (frs X.stack)):=xa I.hok I.nu
  have wY:∀b o,sc.heap.get? b=some o->b∉frs X.stack->b∉([]:List acr)->∃o',(PySem.W.hideAll sc.heap (frs X.stack)).get? b=some o'/\(H' b=none->o'=o):=λb o q hb _=>⟨o,PySem.W.hideAll_get _ q hb,λ_=>rfl⟩
  have nil:∀b∈([]:List acr),ij X pins H' b:=λb z=>by cases z
  exact k a a0 _ h5 rfl Dt (λh6 tk RD RE=>(lP I ho bare nil (Un.kept M.keeps) hok RD (Ni.trans RE) wY).1) (lP (tk:=0) I ho bare nil (Un.kept M.keeps) hok Dt Ni wY).2.1 ((lP (tk:=0) I ho bare nil (Un.kept M.keeps) hok Dt Ni wY).2.2 K0.ex)
theorem Nj{x n:Str}{D:acr}{i:Nat}{body suite:List Stmt}{b₀:Stmt}{gb gs:GS}{np hp pos:Pos}{tb:Tab}{tt:sF}{tc:Tab}(K0:U_ X)(hN:X.N.Nodup)(hi:X.N[i]? =some n)(hx:X.env.scope.names.lookup n=some .local)(hc:X.calm=true)(O:TabOk X.K tb tt tc)
  (hg:Gl X x)(hm:X.mg x=some (.ref D))(hD:ClsAt X.K x D)(hd:(x == ("__debug__":Str))=false)
  (hb:∀(pn:List (acr×Obj))(E:acy->acx->Prop),nj (Jn X X.A true pn E) body gb)(hs:∀(a:acr)(o:Obj)(u:HO)(pn:List (acr×Obj))(E:acy->acx->Prop),Cm o->nj (RB X a (.eL o u) pn E) (b₀::suite) gs) :
  JS X (.Try body [.ExceptHandler (some (.Name x np)) (some n) (b₀::suite) hp] [] [] pos) (zq (λc=>tc.lookup (c,x)) i gb gs):=by
 intro ρ st σ H m D' S R p pins s I
 refine wpAny_Try_except ?_
 let hx':acy->acx->Prop:=λe s1=>acL (model X.prog X.w) X.A (noteFrame e X.env) (λ_ s2=>acL (model X.prog X.w) X.A (setFlight e none) (λ_ s3=>
  acL (model X.prog X.w) X.A (handleBy e X.env [.ExceptHandler (some (.Name x np)) (some n) (b₀::suite) hp]) (SP X pins D') X.xe s3) X.xe s2) X.xe s1
 have hA:X.A.handled=none:=I.ok.hd hc
 have Ib:Inv (Jn X X.A true (X.pn++pins) hx') [] σ H s:=EL I rfl λ_=>hA
 have post:aJ (Jn X X.A true (X.pn++pins) hx') m H (gb ρ st) D':=by
  unfold zq at p
  cases eb:gb ρ st with
  | nx ρ1 st1=>rw[eb] at p;exact p
  | rt w1 st1=>rw[eb] at p;exact p
  | bk ρ1 st1=>rw[eb] at p;exact p
  | ct ρ1 st1=>rw[eb] at p;exact p
  | bad=>rw[eb] at p;exact p
  | err c ρ1 st1=>
   rw[eb] at p
   dsimp only at p
   cases ec:tc.lookup (c,x) with
   | none=>rw[ec] at p;exact aa p
   | some bc=>
    cases bc with
    | false=>rw[ec] at p;exact aa p
    | true=>
     rw[ec] at p
     dsimp only at p
     intro σ1 m1 H1 e s1 e1 S1 R1 rz
     obtain⟨C,kM,Hc,sc,hC,Ic,rz⟩:=rz
     obtain⟨zC,zD,Va⟩:=O.cat c x true C D ec hC hD
     refine land K0 (qW I.ok Ic) (rz.imp kT.er id) λa a0 B h5 ea Dt inv hn hnew=>?_
     subst ea
     obtain⟨ox,_,I5⟩:=inv h5 s1.toks Dt (M' _)
     obtain⟨o5,ho5,hc5,_⟩:=(I5.hok a _ aH).2.1
     have Im:=EL (A':=X.A.mark (some (.ref a))) (cm:=false) (E:=λ_ _=>False) I5 rfl (λz=>by cases z)
     refine wpAny_handleBy_cons (codeAny_handlers_test (nE Im hg hm ?_ hd)) (by intro q;cases q)
     refine Cp (b:=true) Im.Dq zC zD Va ho5 hc5 ?_
     refine codeAny_handlers_suite_as ?_
     refine wU Dt λh6 RD RE=>?_
     obtain⟨oy,nx,I6⟩:=inv h6 s1.toks RD RE
     have e6:Ext X.K m1 H1 m1 (upd H1 a (.eL oy (.ext (kR a C)))):=Ext.upd (.inl hn)
     have S6:bG X.K m1 st1 (upd H1 a (.eL oy (.ext (kR a C)))):=S1.fresh hn
     have rv:aj X.K m1 (upd H1 a (.eL oy (.ext (kR a C)))) (.mK c) (.ref a):=by unfold aj;obtain⟨vs,d1,d2⟩:=nx;exact⟨a,C,rfl,hC,oy,vs,aH,d1,d2⟩
     refine ny (v:=.ref a) I6 hN hi (.inl hx) rfl (λs7 I7=>?_) (.inr hx)
     have TH:=Nh (E:=λ_ _=>False) I7 aH hnew.1
     cases es:gs (ρ1.set i (some (.mK c))) st1 with
     | nx ρ2 st2=>
      rw[es] at p
      let D2:Ends:={ nx:=λσ' H'=>D'.nx (σ'.set i none) H',rt:=λ_ _=>False,bk:=λ_ _=>False,ct:=λ_ _=>False }
      have go:=hs a oy (.ext (kR a C)) (X.pn++pins) (λ_ _=>False) nx (ρ1.set i (some (.mK c))) st1 (σ1.set i (some (.ref a))) _ m1 D2 S6 ((R1.mono e6).set i rv) (by
       rw[es]
       exact λσ' m' H' e' S' R'=>p (σ'.set i none) m' H' (e1.trans (e6.trans e')) S' (aA.unset R' i)) [] s7 TH
      refine acP go (λf s8 h8=>?_) λ_ _ z=>z.elim
      cases f with
      | next=>
       obtain⟨σ8,H8,I8,q8⟩:=h8
       exact tZ (EM I.ok hnew I8) hN hi hx λs9 I9=>⟨_,H8,I9,q8⟩
      | brk=>obtain⟨_,_,_,q8⟩:=h8;exact q8.elim
      | cont=>obtain⟨_,_,_,q8⟩:=h8;exact q8.elim
      | ret u=>obtain⟨_,_,_,_,_,q8⟩:=h8;exact q8.elim
     | rt w2 st2=>
      rw[es] at p
      let D2:Ends:={ nx:=λ_ _=>False,rt:=D'.rt,bk:=λ_ _=>False,ct:=λ_ _=>False }
      have go:=hs a oy (.ext (kR a C)) (X.pn++pins) (λ_ _=>False) nx (ρ1.set i (some (.mK c))) st1 (σ1.set i (some (.ref a))) _ m1 D2 S6 ((R1.mono e6).set i rv) (by
       rw[es]
       exact λv' m' H' e' S' R'=>p v' m' H' (e1.trans (e6.trans e')) S' R') [] s7 TH
      refine acP go (λf s8 h8=>?_) λ_ _ z=>z.elim
      cases f with
      | next=>obtain⟨_,_,_,q8⟩:=h8;exact q8.elim
      | brk=>obtain⟨_,_,_,q8⟩:=h8;exact q8.elim
      | cont=>obtain⟨_,_,_,q8⟩:=h8;exact q8.elim
      | ret u=>
       obtain⟨v8,σ8,H8,I8,r8,q8⟩:=h8
       exact tZ (EM I.ok hnew I8) hN hi hx λs9 I9=>⟨v8,_,H8,I9,r8,q8⟩
     | bk ρ2 st2=>rw[es] at p;exact aa p
     | ct ρ2 st2=>rw[es] at p;exact aa p
     | err c2 ρ2 st2=>rw[es] at p;exact aa p
     | bad=>rw[es] at p;exact aa p
 refine acP (hb (X.pn++pins) hx' ρ st σ H m D' S R post [] s Ib) (λf s1 h1=>?_) λe s1 h1=>h1
 have h2:=RC I.ok h1
 cases f with
 | next=>exact wpAny_execs_nil h2
 | brk=>exact h2
 | cont=>exact h2
 | ret u=>exact h2
end
theorem EN(x:String):aZ (fh x)=true:=by
 unfold aZ
 rw[Le]
 intro c hc
 have:∃ch:Char,c=ch.toNat:=by
  rw[Str.ofString_eq_toList] at hc
  simp at hc
  obtain⟨ch,_,e⟩:=hc
  exact⟨ch,e.symm⟩
 obtain⟨ch,rfl⟩:=this
 have h:=ch.valid
 simp only[decide_eq_true_eq]
 rcases h with h | ⟨_,h⟩
 ·exact Nat.lt_trans h (by decide)
 ·exact h
section
variable {X:Cx}
def Nk:List Wv->Hs->Re Wv
 | [.int i],st=>if i.natAbs.log2 < 1920 then .ok (.str (toString i:String)) st else .bad
 | _,_=> .bad
theorem Nl:eG X (.type "str") Nk:=⟨_,uQ,λws vs st H m Q S r p=>by
 match ws,r,p with
 | [],r,p=>exact aa p
 | x::y::t,r,p=>cases x<;>exact aa p
 | [x],r,p=>
  obtain⟨v,rfl,rx⟩:=kG r
  cases x with
  | int i=>
   cases aS rx
   have p':cW X.K m H (if i.natAbs.log2 < 1920 then .ok (.str (toString i:String)) st else .bad) Q:=p
   by_cases c:i.natAbs.log2 < 1920
   ·rw[if_pos c] at p'
    exact⟨i,rfl,c,p' _ m H Ext.refl S (mkStr (EN _))⟩
   ·rw[if_neg c] at p';exact aa p'
  | _=>exact aa p⟩
def jV(o v:Wv)(st:Hs):Re Wv:=match o with
 | .ref l=>(match st[l]? with
  | some (.lst ws)=>if ws.length < lim then .ok .aI (st.set l (.lst (ws++[v]))) else .bad
  | _=> .bad)
 | _=> .bad
def Nm(o v:Wv)(st:Hs):Re Wv:=match o,v with
 | .ref l,.ref k=>(match st[l]?,st[k]? with
  | some (.lst ws),some (.lst zs)=>if ws.length+zs.length<=lim then .ok .aI (st.set l (.lst (ws++zs))) else .bad
  | _,_=> .bad)
 | _,_=> .bad
def iY(mt:Wv->Wv->Hs->Re Wv)(go ga:GE):GE:=λρ st=>(go ρ st).bind λo st1=>match o with
 | .ref l=>(match ao st1 l with
  | some _=>(ga ρ st1).bind λv st2=>(mt o v st2).oH
  | none=> .bad)
 | _=> .bad
def TJ(X:Cx)(id:String)(mt:Wv->Wv->Hs->Re Wv):Prop:=∃r,UQ X id r/\∀(o w:Wv)(x v:V)(st:Hs)(H:Hp)(m:Mp)(Q:VK),bG X.K m st H->aj X.K m H o x->aj X.K m H w v->cW X.K m H (mt o w st) Q->r x [v] H Q
theorem EO:TJ X "list.append" jV:=⟨_,B9,λo w x v st H m Q S ro rw' p=>by
 cases o with
 | ref l=>
  unfold aj at ro
  obtain⟨a,rfl,ha⟩:=ro
  have p':cW X.K m H (match st[l]? with | some (.lst ws)=>if ws.length < lim then .ok .aI (st.set l (.lst (ws++[w]))) else .bad | _=> .bad) Q:=p
  cases e:st[l]? with
  | none=>rw[e] at p';exact aa p'
  | some ob=>
   cases ob with
   | dct kvs=>rw[e] at p';exact aa p'
   | bX kvs=>rw[e] at p';exact aa p'
   | nL kvs=>rw[e] at p';exact aa p'
   | Cc kvs=>rw[e] at p';exact aa p'
   | Ds kvs=>rw[e] at p';exact aa p'
   | sv ns=>rw[e] at p';exact aa p'
   | lst ws=>
    rw[e] at p'
    dsimp only at p'
    by_cases c:ws.length < lim
    ·rw[if_pos c] at p'
     obtain⟨xs,h1,h2⟩:=S.nM ha e
     have e4:Ext X.K m H m (upd H a (.lst (xs++[v]))):=Ext.upd (.inr ⟨xs,h1⟩)
     exact⟨a,xs,v,rfl,rfl,h1,by rw[<-h2.length];exact vg c,p' _ m _ e4 (S.write ha e (h2.append (ai.cons rw' ai.nil))) w5⟩
    ·rw[if_neg c] at p';exact aa p'
 | _=>exact aa p⟩
theorem Nn:TJ X "list.extend" Nm:=⟨_,B_,λo w x v st H m Q S ro rw' p=>by
 cases o with
 | ref l=>
  cases w with
  | ref k=>
   unfold aj at ro rw'
   obtain⟨a,rfl,ha⟩:=ro
   obtain⟨b,rfl,hb⟩:=rw'
   have p':cW X.K m H (match st[l]?,st[k]? with | some (.lst ws),some (.lst zs)=>if ws.length+zs.length<=lim then .ok .aI (st.set l (.lst (ws++zs))) else .bad | _,_=> .bad) Q:=p
   cases e:st[l]? with
   | none=>rw[e] at p';exact aa p'
   | some ob=>
    cases ob with
    | dct kvs=>rw[e] at p';exact aa p'
    | bX kvs=>rw[e] at p';exact aa p'
    | nL kvs=>rw[e] at p';exact aa p'
    | Cc kvs=>rw[e] at p';exact aa p'
    | Ds kvs=>rw[e] at p';exact aa p'
    | sv ns=>rw[e] at p';exact aa p'
    | lst ws=>
     cases e2:st[k]? with
     | none=>rw[e,e2] at p';exact aa p'
     | some ob2=>
      cases ob2 with
      | dct kvs=>rw[e,e2] at p';exact aa p'
      | bX kvs=>rw[e,e2] at p';exact aa p'
      | nL kvs=>rw[e,e2] at p';exact aa p'
      | Cc kvs=>rw[e,e2] at p';exact aa p'
      | Ds kvs=>rw[e,e2] at p';exact aa p'
      | sv ns=>rw[e,e2] at p';exact aa p'
      | lst zs=>
       rw[e,e2] at p'
       dsimp only at p'
       by_cases c:ws.length+zs.length<=lim
       ·rw[if_pos c] at p'
        obtain⟨xs,h1,h2⟩:=S.nM ha e
        obtain⟨ys,g1,g2⟩:=S.nM hb e2
        have e4:Ext X.K m H m (upd H a (.lst (xs++ys))):=Ext.upd (.inr ⟨xs,h1⟩)
        exact⟨a,b,xs,ys,rfl,rfl,h1,g1,by rw[<-h2.length,<-g2.length];exact eI c,p' _ m _ e4 (S.write ha e (h2.append g2)) w5⟩
       ·rw[if_neg c] at p';exact aa p'
  | _=>exact aa p
 | _=>exact aa p⟩
theorem A1{x name:Str}{id:String}{e:Expr}{go ga:GE}{p apos cpos:Pos}{mt:Wv->Wv->Hs->Re Wv}(hm:TJ X id mt)(slot:Slot "list" name id)(hty:typeOf (.builtin id)=pure (.type "method_descriptor"))(ho:JE X (.Name x p) go)(ha:JE X e ga)
  (hst:acK [e] X.env=[(false,eval e X.env)])(hline:(apos.endLine == cpos.line)=true):JE X (.Call (.Attribute (.Name x p) name apos) [e] [] cpos) (iY mt go ga):=by
 obtain⟨r,h1,h2⟩:=hm
 have hfew:((backTo cpos (acK [e] X.env)).all (λx=> !x.1)&&(backToKw cpos (keywordEach [] X.env)).all (λx=>x.1.isSome)&&decide ([e].length+([]:List Keyword).length+(if([]:List Keyword).isEmpty then 0 else 1) < 30))=true:=by
  rw[hst];rfl
 refine JE.of (Q5 PySem.F.plainAttrs_list slot hty h1 aY ku rfl hfew hline hst rfl) λρ st σ H m Q S R p=>?_
 refine ho.go S R (az.bind p) λo st1 v m1 H1 p1 e1 S1 ro=>?_
 cases o with
 | ref l=>
  dsimp only at p1
  cases el:ao st1 l with
  | none=>rw[el] at p1;exact aa p1
  | some Vb=>
   rw[el] at p1
   dsimp only at p1
   have Yr:=ro
   unfold aj at Yr
   obtain⟨a,rfl,hla⟩:=Yr
   obtain⟨xs,hq,_⟩:=S1.read hla el
   refine⟨.inl ⟨rfl,xs,hq⟩,?_⟩
   refine(AY ha Ej hst).go S1 (R.mono e1) (ok:=λws st2=>az X σ m H (match ws with | [w]=>(mt (.ref l) w st2).oH | _=> .bad) (Q9 X.K m H Q)) ?_ λws st2 vs m2 H2 p2 e2 S2 rs=>?_
   ·have p3:=(az.bind p1).imp e1 (λ_ _ q=>q)
    show az X σ m1 H1 ((ga ρ st1).bind λx st1=>(aq ρ st1).bind λxs st2=> .ok (x::xs) st2) _
    cases eg:ga ρ st1 with
    | ok w st2=>rw[eg] at p3;exact p3
    | err c st2=>rw[eg] at p3;exact p3
    | bad=>rw[eg] at p3;exact p3
   ·match ws,rs,p2 with
    | [],rs,p2=>exact aa p2
    | [w],rs,p2=>
     obtain⟨v2,rfl,rw2⟩:=kG rs
     exact h2 (.ref l) w (.ref a) v2 st2 H2 m2 Q S2 (aj.mono e2 _ _ ro) rw2 (cW.shift (az.oH p2) (e1.trans e2))
    | _::_::_,rs,p2=>exact aa p2
 | _=>exact aa p1
end
section
variable {X:Cx}
def t7:List Wv->Hs->Re Wv
 | [.str z],st=> .ok (.str z) st
 | ws,st=>Nk ws st
theorem zr:cV X (.type "str") (λxs H Q=>∃z,xs=[.str z]/\Q (.str z) H):=by
 intro pins s σ H xs us Q I r h
 obtain⟨z,rfl,q⟩:=h
 obtain⟨u,rfl,t,rfl⟩:=vals1 r
 exact PySem.P.str_of_str ⟨.str z,H,I,⟨t,rfl⟩,q⟩
theorem Jo:eG X (.type "str") t7:=by
 obtain⟨r,h1,h2⟩:=Nl (X:=X)
 refine⟨_,zr.or h1,λws vs st H m Q S rs p=>?_⟩
 unfold t7 at p
 split at p
 ·obtain⟨v,rfl,r1⟩:=kG rs
  obtain⟨rfl,hz⟩:=eX r1
  exact .inl ⟨_,rfl,p _ m H Ext.refl S (mkStr hz)⟩
 ·exact .inr (h2 ws vs st H m Q S rs p)
def RF:List Wv->Hs->Re Wv
 | [.int i],st=> .ok (.int i) st
 | [.bl b],st=> .ok (.int (if b then 1 else 0)) st
 | _,_=> .bad
theorem Np:eG X (.type "int") RF:=⟨_,B6,λws vs st H m Q S rs p=>by
 match ws,rs,p with
 | [],rs,p=>exact aa p
 | x::y::t,rs,p=>cases x<;>exact aa p
 | [x],rs,p=>
  obtain⟨v,rfl,r1⟩:=kG rs
  cases x with
  | int i=>cases aS r1;exact .inl ⟨i,rfl,p _ m H Ext.refl S mkInt⟩
  | bl b=>cases Rj r1;exact .inr ⟨b,rfl,p _ m H Ext.refl S mkInt⟩
  | _=>exact aa p⟩
def Vc:List Wv->Hs->Re Wv
 | [.int i,.int j],st=> .ok (.int (if j > i then j else i)) st
 | _,_=> .bad
def Vd:List Wv->Hs->Re Wv
 | [.int i,.int j],st=> .ok (.int (if j < i then j else i)) st
 | _,_=> .bad
def xl:List Nat->List Wv->b9->Option b9
 | [],[],ρ=>some ρ
 | i::is,w::ws,ρ=>xl is ws (ρ.set i (some w))
 | _,_,_=>none
def Nq(is:List Nat)(w:Wv)(ρ:b9):Option b9:=match w with
 | .tup ws=>xl is ws ρ
 | _=>none
def Ve:List Nat->KW
 | []=>L2.aq
 | i::is=>L2.ae (wL i) (Ve is)
theorem nT{m:Mp}{H:Hp}{Q:St->Hp->Prop}:∀{is:List Nat}{ws:List Wv}{xs:List V}{ρ ρ':b9}{σ:St},ai X.K m H ws xs->aA X.K m H ρ σ->xl is ws ρ=some ρ'->(∀σ',aA X.K m H ρ' σ'->Q σ' H)->Ve is xs σ H Q
 | [],[],xs,ρ,ρ',σ,r,R,e,k=>by
  unfold ai at r
  subst r
  cases e
  exact⟨rfl,k σ R⟩
 | i::is,w::ws,xs,ρ,ρ',σ,r,R,e,k=>by
  unfold ai at r
  obtain⟨x,rr,rfl,h1,h2⟩:=r
  exact⟨x,rr,rfl,nT (is:=is) h2 (R.set i h1) e k⟩
 | [],_::_,_,_,_,_,_,_,e,_=>by cases e
 | _::_,[],_,_,_,_,_,_,e,_=>by cases e
theorem nU:∀{is:List Nat}{ws:List Wv}{ρ ρ':b9},xl is ws ρ=some ρ'->ws.length=is.length
 | [],[],_,_,_=>rfl
 | _::is,_::ws,_,_,e=>congrArg (· +1) (nU (is:=is) (ws:=ws) e)
 | [],_::_,_,_,e=>by cases e
 | _::_,[],_,_,e=>by cases e
inductive Slots(X:Cx):List Expr->List Nat->Prop
 | nil:Slots X [] []
 | cons {x:Str} {p:Pos} {i:Nat} {es:List Expr} {is:List Nat}:X.N[i]? =some x->(Loc X.env.scope x/\(X.fn x=true\/X.env.scope.names.lookup x=some .local))->Slots X es is->Slots X (.Name x p::es) (i::is)
theorem lQ(hN:X.N.Nodup):∀{es:List Expr}{is:List Nat},Slots X es is->QG X es (Ve is)
 | _,_,.nil=>Ig
 | _,_,.cons h1 h2 r=>DK (p8 hN h1 h2.1 h2.2) (lQ hN r) rfl
theorem nV:∀{es:List Expr}{is:List Nat},Slots X es is->(assignEach es X.env).length=is.length
 | _,_,.nil=>rfl
 | _,_,.cons _ _ r=>congrArg (· +1) (nV r)
theorem lR:∀{es:List Expr}{is:List Nat},Slots X es is->(assignEach es X.env).findIdx? (·.1)=none
 | _,_,.nil=>rfl
 | _,_,.cons (x:=x) (p:=p) (es:=es) _ _ r=>by
  have q:=lR r
  show List.findIdx? _ ((false,assign (.Name x p) X.env)::assignEach es X.env)=none
  rw[List.findIdx?_cons]
  simp[q]
def t8(is:List Nat)(g:GE):GS:=λρ st=>(g ρ st).bJ ρ λw st'=>match Nq is w ρ with
 | some ρ'=> .nx ρ' st'
 | none=> .bad
theorem Jp{es:List Expr}{is:List Nat}{k:Nat}{e:Expr}{g:GE}{pos pos':Pos}(hN:X.N.Nodup)(hc:X.calm=true)(sl:Slots X es is)(h:JE X e g)(hs:swapsWith e (some (.Tuple es k pos')) pos.line X.env=pure false)(hw:swappedStores [.Tuple es k pos'] e X.env=pure none) :
  JS X (.Assign [.Tuple es k pos'] e pos) (t8 is g) :=
 JS.of (DL aY (yN hc (lQ hN sl) (nV sl) (lR sl)) (by unfold swapsWithSole;exact hs) hw rfl) λρ st σ H m D S R p=>h.go S R (aJ.di R p) λw st1 v m1 H1 q e1 S1 r1=>by
  cases w with
  | tup ws=>
   have q':aJ X m H (match xl is ws ρ with | some ρ'=> .nx ρ' st1 | none=> .bad) D:=q
   cases e2:xl is ws ρ with
   | none=>rw[e2] at q';exact aa q'
   | some ρ'=>
    rw[e2] at q'
    unfold aj at r1
    obtain⟨a,xs,rfl,f1,f2⟩:=r1
    exact⟨a,xs,rfl,fV.of f1,by rw[<-f2.length];exact nU e2,nT f2 (R.mono e1) e2 λσ' R'=>q' σ' m1 H1 e1 S1 R'⟩
  | _=>exact aa q
open Classical in
def t9(is:List Nat)(gb:GS)(l:Nat)(all:List Wv):List Wv->b9->Hs->Rs
 | [],ρ,st=> .nx ρ st
 | w::r,ρ,st=>match Nq is w ρ with
  | none=> .bad
  | some ρ1=>match gb ρ1 st with
   | .nx ρ' st'=>if ao st' l=some all then t9 is gb l all r ρ' st' else .bad
   | .ct ρ' st'=>if ao st' l=some all then t9 is gb l all r ρ' st' else .bad
   | .bk ρ' st'=> .nx ρ' st'
   | .rt w st'=> .rt w st'
   | .err c ρ' st'=> .err c ρ' st'
   | .bad=> .bad
def Lj(is:List Nat)(gi:GE)(gb:GS):GS:=λρ st=>(gi ρ st).bJ ρ λw st1=>match w with
 | .ref l=>(match ao st1 l with | some ws=>t9 is gb l ws ws ρ st1 | none=> .bad)
 | _=> .bad
theorem Jq{es:List Expr}{is:List Nat}{k:Nat}{iter:Expr}{body:List Stmt}{gi:GE}{gb:GS}{pos pos':Pos}(hN:X.N.Nodup)(hp:PassesOwn (model X.prog X.w) X.A X.env X.xe)(hc:X.calm=true)(sl:Slots X es is)(hi:JE X iter gi)(hb:nj X body gb)
  (hs:∀x,acG iter X.env x=pure x):JS X (.For (.Tuple es k pos') iter body [] pos) (Lj is gi gb):=by
 refine JS.of (qz hp hc (Ih aY) (yN hc (lQ hN sl) (nV sl) (lR sl)) gE hs) λρ st σ H m D S R p=>?_
 refine hi.go S R (aJ.di R p) λw st1 v m1 H1 p1 e1 S1 rw'=>?_
 cases w with
 | ref l=>
  have p1':aJ X m H (match ao st1 l with | some ws=>t9 is gb l ws ws ρ st1 | none=> .bad) D:=p1
  unfold aj at rw'
  obtain⟨a,rfl,hla⟩:=rw'
  cases el:ao st1 l with
  | none=>rw[el] at p1';exact aa p1'
  | some ws=>
   rw[el] at p1'
   obtain⟨HC,q0,_⟩:=S1.read hla el
   refine⟨a,rfl,⟨HC,q0⟩,?_⟩
   let Pv:Nat->St->Hp->Prop:=λk σ H=>∃ρ st m',Ext X.K m1 H1 m' H/\bG X.K m' st H/\aA X.K m' H ρ σ/\ao st l=some ws/\aJ X m' H (t9 is gb l ws (ws.drop k) ρ st) D
   refine⟨λk n σ H=>n=ws.length - k/\k<=ws.length/\Pv k σ H,⟨ws.length,by simp,bY _,ρ,st1,m1,Ext.refl,S1,R.mono e1,el,aJ.shift p1' e1⟩,?_⟩
   rintro k n σ2 H2 ⟨rfl,hk,ρ2,st2,m2,e2,S2,R2,l2,p2⟩
   obtain⟨xs,hq,rws⟩:=S2.read (e2.pre _ _ hla) l2
   have hlen:=rws.length
   by_cases hlt:k < ws.length
   ·have hx':k < xs.length:=by omega
    refine .inr ⟨⟨xs,xs[k],hq,by simp[hx']⟩,Pv (k+1),λσ' H' p'=>⟨ws.length - (k+1),by omega,rfl,hlt,p'⟩,λx H' y=>?_⟩
    obtain⟨ee,y⟩:=y
    subst ee
    have ey:=y xs hq
    have ed:ws.drop k=ws[k]::ws.drop (k+1):=qU hlt
    obtain⟨x',ex',pK⟩:=rws.get (i:=k) (w:=ws[k]) (cK hlt)
    rw[ey] at ex'
    cases ex'
    rw[ed] at p2
    unfold t9 at p2
    cases eb:ws[k] with
    | tup us=>
     rw[eb] at p2 pK
     dsimp only[Nq] at p2
     cases e5:xl is us ρ2 with
     | none=>rw[e5] at p2;exact aa p2
     | some ρ5=>
      rw[e5] at p2
      dsimp only at p2
      unfold aj at pK
      obtain⟨b,ys,rfl,f1,f2⟩:=pK
      refine⟨b,ys,rfl,fV.of f1,by rw[<-f2.length];exact nU e5,nT f2 R2 e5 λσ5 R5=>?_⟩
      refine hb _ st2 _ _ m2 _ S2 R5 ?_
      cases eg:gb ρ5 st2 with
      | nx ρ3 st3=>
       rw[eg] at p2
       by_cases c:ao st3 l=some ws
       ·simp only[if_pos c] at p2
        exact λσ3 m3 H3 e3 S3 R3=>⟨ρ3,st3,m3,e2.trans e3,S3,R3,c,aJ.shift p2 e3⟩
       ·simp only[if_neg c] at p2;exact aa p2
      | ct ρ3 st3=>
       rw[eg] at p2
       by_cases c:ao st3 l=some ws
       ·simp only[if_pos c] at p2
        exact λσ3 m3 H3 e3 S3 R3=>⟨ρ3,st3,m3,e2.trans e3,S3,R3,c,aJ.shift p2 e3⟩
       ·simp only[if_neg c] at p2;exact aa p2
      | bk ρ3 st3=>rw[eg] at p2;exact p2
      | rt w3 st3=>rw[eg] at p2;exact p2
      | err c3 ρ3 st3=>rw[eg] at p2;exact p2
      | bad=>rw[eg] at p2;exact p2
    | _=>rw[eb] at p2;exact aa p2
   ·have e:k=ws.length:=by omega
    subst e
    rw[vo] at p2
    exact .inl ⟨⟨xs,hq,by omega⟩,p2 σ2 m2 H2 Ext.refl S2 R2⟩
 | _=>exact aa p1
end
def vw(env:Env):List (Str×acv)->List (Str×acr)->List (Str×acr)
 | [],acc=>acc
 | (n,k)::r,acc=>if k= .free then vw env r ((n,(env.cells.lookup n).getD 0)::acc) else vw env r acc
theorem xm(env:Env):∀(names:List (Str×acv))(acc:List (Str×acr)),(∀y∈names,y.2= .free->∃c,env.cells.lookup y.1=some c)->
  (forIn names acc λx r=>match x with
   | (name,kind)=>if(kind == eS)=true then do let c <-cellOf env name;pure (oJ ((name,c)::r)) else(pure (oJ r):Sem _))=pure (vw env names acc)
 | [],acc,_=>rfl
 | (n,k)::r,acc,h=>by
  have ih:=λacc=>xm env r acc λy hy=>h y (aN _ hy)
  rw[uI]
  by_cases hk:k= .free
  ·subst hk
   obtain⟨c,e⟩:=h (n,.free) aR rfl
   have e':env.cells.lookup n=some c:=e
   have cc:cellOf env n=pure c:=by unfold cellOf;rw[e']
   simp only[beq_self_eq_true,if_true,cc]
   have q:vw env ((n,.free)::r) acc=vw env r ((n,c)::acc):=by
    show(if eS= .free then vw env r ((n,(env.cells.lookup n).getD 0)::acc) else _)=_
    rw[if_pos rfl,e']
    rfl
   rw[q,<-ih]
   rfl
  ·have hb:(k == eS)=false:=by simpa using hk
   simp only[hb,fU,if_false]
   have q:vw env ((n,k)::r) acc=vw env r acc:=by
    show(if k= .free then _ else vw env r acc)=_
    rw[if_neg hk]
   rw[q,<-ih]
   rfl
theorem Jr{env:Env}{scope:Scope}(h:∀y∈scope.names,y.2= .free->∃c,env.cells.lookup y.1=some c):closureFor scope env=pure (vw env scope.names []):=by
 have q:=xm env scope.names [] h
 unfold closureFor
 first
  | (rw[<-q];rfl)
  | (simp only[bind_pure];exact q)
theorem vx{env:Env}:∀{names:List (Str×acv)}{acc:List (Str×acr)}{y:Str}{c:acr},(∀y∈names,y.2= .free->∃c,env.cells.lookup y.1=some c)->(∀y c,acc.lookup y=some c->env.cells.lookup y=some c)->(vw env names acc).lookup y=some c->env.cells.lookup y=some c
 | [],acc,y,c,_,ha,e=>ha y c e
 | (n,k)::r,acc,y,c,h,ha,e=>by
  unfold vw at e
  by_cases hk:k= .free
  ·rw[if_pos hk] at e
   subst hk
   obtain⟨c0,e0⟩:=h (n,.free) aR rfl
   have e0':env.cells.lookup n=some c0:=e0
   refine vx (λy hy=>h y (aN _ hy)) (λy' c' e'=>?_) e
   rw[fq] at e'
   cases q:y' == n with
   | true=>
    rw[q] at e'
    have q':=eq_of_beq q
    subst q'
    rw[e0'] at e' ⊢
    exact e'
   | false=>rw[q] at e';exact ha y' c' e'
  ·rw[if_neg hk] at e
   exact vx (λy hy=>h y (aN _ hy)) ha e
theorem qf{env:Env}{y:Str}:∀{names:List (Str×acv)}{acc:List (Str×acr)},((∃c,acc.lookup y=some c)\/(y,eS)∈names)->∃c,(vw env names acc).lookup y=some c
 | [],acc,h=>by
  rcases h with h | h
  ·exact h
  ·cases h
 | (n,k)::r,acc,h=>by
  unfold vw
  by_cases hk:k= .free
  ·rw[if_pos hk]
   refine qf ?_
   rw[fq]
   cases q:y == n with
   | true=>exact .inl ⟨_,rfl⟩
   | false=>
    rcases h with h | h
    ·exact .inl h
    ·rcases List.mem_cons.mp h with h | h
     ·cases h;simp at q
     ·exact .inr h
  ·rw[if_neg hk]
   refine qf ?_
   rcases h with h | h
   ·exact .inl h
   ·rcases List.mem_cons.mp h with h | h
    ·cases h;exact absurd rfl hk
    ·exact .inr h
theorem lookup_mem{α β:Type}[BEq α][LawfulBEq α]{y:α}{k:β}:∀{names:List (α×β)},names.lookup y=some k->(y,k)∈names
 | [],h=>by cases h
 | (n,j)::r,h=>by
  rw[fq] at h
  cases q:y == n with
  | true=>
   rw[q] at h
   cases h
   have q':=eq_of_beq q
   subst q'
   exact aR
  | false=>rw[q] at h;exact aN _ (lookup_mem h)
theorem nW{env:Env}:∀{names:List (Str×acv)}{y:Str},(names.map λ(n,k)=>if(k == eS&&env.scope.kind == .function&&env.kindOf n == some .cell) then(n,eT) else(n,k)).lookup y=
  (names.lookup y).map λk=>if(k == eS&&env.scope.kind == .function&&env.kindOf y == some .cell)=true then eT else k
 | [],y=>rfl
 | (n,k)::r,y=>by
  have ih:=nW (env:=env) (names:=r) (y:=y)
  show List.lookup y ((if(k == eS&&env.scope.kind == .function&&env.kindOf n == some .cell)=true then(n,eT) else(n,k))::_)=_
  cases q:y == n with
  | true=>
   have q':=eq_of_beq q
   subst q'
   by_cases hc:(k == eS&&env.scope.kind == .function&&env.kindOf y == some .cell)=true
   ·rw[if_pos hc]
    simp only[fq,beq_self_eq_true,nr]
    rw[if_pos hc]
   ·rw[if_neg hc]
    simp only[fq,beq_self_eq_true,nr]
    rw[if_neg hc]
  | false=>
   by_cases hc:(k == eS&&env.scope.kind == .function&&env.kindOf n == some .cell)=true
   ·rw[if_pos hc];simp only[fq,q];exact ih
   ·rw[if_neg hc];simp only[fq,q];exact ih
open Classical in
def kY(ck:Hs->Prop)(gt:Wv->Hs->Re Bool)(ge:Wv->Hs->Re Wv)(l:Nat):List Wv->Hs->Option Hs
 | [],st=>some st
 | w::r,st=>match gt w st with
  | .ok false st1=>if ck st1 then kY ck gt ge l r st1 else none
  | .ok true st1=>(match ge w st1 with
   | .ok v st2=>(match jV (.ref l) v st2 with
    | .ok _ st3=>if ck st3 then kY ck gt ge l r st3 else none
    | _=>none)
   | _=>none)
  | _=>none
open Classical in
def pz(ck:Hs->Prop)(gt:Wv->Hs->Re Bool)(ge:Wv->Hs->Re Wv)(l:Nat):List Wv->Hs->Re Unit
 | [],st=> .ok () st
 | w::r,st=>match gt w st with
  | .ok false st1=>if ck st1 then pz ck gt ge l r st1 else .bad
  | .ok true st1=>(match ge w st1 with
   | .ok v st2=>(match jV (.ref l) v st2 with
    | .ok _ st3=>if ck st3 then pz ck gt ge l r st3 else .bad
    | _=> .bad)
   | .err c st2=> .err c st2
   | .bad=> .bad)
  | .err c st1=> .err c st1
  | .bad=> .bad
theorem qX{ck:Hs->Prop}{gt:Wv->Hs->Re Bool}{ge:Wv->Hs->Re Wv}{l:Nat}{A2:Hs}:∀(ws:List Wv)(st:Hs),kY ck gt ge l ws st=some A2->pz ck gt ge l ws st= .ok () A2
 | [],st,h=>by cases h;rfl
 | w::r,st,h=>by
  unfold kY at h
  unfold pz
  cases eg:gt w st with
  | err c st1=>rw[eg] at h;cases h
  | bad=>rw[eg] at h;cases h
  | ok b st1=>
   rw[eg] at h
   cases b with
   | false=>
    dsimp only at h ⊢
    by_cases c:ck st1
    ·rw[if_pos c] at h ⊢;exact qX r st1 h
    ·rw[if_neg c] at h;cases h
   | true=>
    dsimp only at h ⊢
    cases ee:ge w st1 with
    | err c st2=>rw[ee] at h;cases h
    | bad=>rw[ee] at h;cases h
    | ok v st2=>
     rw[ee] at h
     dsimp only at h ⊢
     cases ea:jV (.ref l) v st2 with
     | err c st3=>rw[ea] at h;cases h
     | bad=>rw[ea] at h;cases h
     | ok u st3=>
      rw[ea] at h
      dsimp only at h ⊢
      by_cases c:ck st3
      ·rw[if_pos c] at h ⊢;exact qX r st3 h
      ·rw[if_neg c] at h;cases h
abbrev iK:=List (Str×Nat)
def dX(cs:iK)(ρ:b9):b9:=cs.map λp=>(ρ[p.2]?).getD none
def vy(cs:iK)(σ:St):St:=cs.map λp=>(σ[p.2]?).getD none
theorem Js{K:PySem.W.Frag}{m:Mp}{H:Hp}{ρ:b9}{σ:St}(cs:iK)(R:aA K m H ρ σ):aA K m H (dX cs ρ) (vy cs σ):=by
 refine⟨by unfold dX vy;simp,λi w e=>?_⟩
 unfold dX at e
 rw[fg] at e
 cases q:cs[i]? with
 | none=>rw[q] at e;cases e
 | some p=>
  rw[q] at e
  have e':(ρ[p.2]?).getD none=some w:=by simpa using e
  cases q2:ρ[p.2]? with
  | none=>rw[q2] at e';cases e'
  | some o=>
   rw[q2] at e'
   have e2:o=some w:=e'
   subst e2
   obtain⟨v,h1,h2⟩:=R.get _ _ q2
   refine⟨v,?_,h2⟩
   unfold vy
   rw[fg,q]
   simp[h1]
def yH(X:Cx)(scope:Scope)(C:acr):List (Str×acr):=cellsFrom (C+1) scope.names (vw X.env scope.names [])
theorem nX:∀{names:List (Str×acv)}(n:Nat)(acc:List (Str×acr))(h:Heap),(names.filter λy=>y.2 == .cell)=[]->cellsFrom n names acc=acc/\pushCells h names=h
 | [],_,_,_,_=>⟨rfl,rfl⟩
 | (y,k)::r,n,acc,h,e=>by
  cases q:(k == eT) with
  | true=>rw[ER (by exact q)] at e;cases e
  | false=>
   rw[ES (by show ¬(k == eT)=true;rw[q];exact bD)] at e
   unfold cellsFrom pushCells
   rw[q]
   exact nX n acc h e
theorem jC{x:Str}:∀{names:List (Str×acv)}(n:Nat)(acc:List (Str×acr))(h:Heap),(names.filter λy=>y.2 == .cell)=[(x,.cell)]->cellsFrom n names acc=(x,n)::acc/\pushCells h names=h.push { cls:=.type "cell",data:=.cell none }
 | [],_,_,_,e=>by cases e
 | (y,k)::r,n,acc,h,e=>by
  cases q:(k == eT) with
  | true=>
   rw[ER (by exact q)] at e
   have e1:=(List.cons.inj e).1
   have e2:=(List.cons.inj e).2
   cases e1
   unfold cellsFrom pushCells
   rw[q]
   exact nX _ _ _ e2
  | false=>
   rw[ES (by show ¬(k == eT)=true;rw[q];exact bD)] at e
   unfold cellsFrom pushCells
   rw[q]
   exact jC n acc h e
theorem qY{M:Model}{A:acs}{E:acy->acx->Prop}{s:acx}{scope:Scope}{globals:acr}{closure:List (Str×acr)}{qual:Str}{env:Env}{Q:Env->acx->Prop}
  (hQ:Q (newEnv scope s.heap.objs.size globals (cellsFrom (s.heap.objs.size+1) scope.names closure) qual none .none (some env) builtinsNs) { s with heap:=pushCells (s.heap.push { cls:=.type "dict",data:=.dict #[] }) scope.names }) :
  acL M A (newFunctionEnv scope globals closure [] qual none .none (some env)) Q E s:=by
 simp only[newFunctionEnv,IJ,if_true]
 refine acM (wpAny_alloc ?_)
 refine acM (wpAny_layCells _ (λname kind cells=>by cases hkc:kind == eT<;>simp[hkc]) _ _ _ _ ?_)
 rw[show({ s with heap:=s.heap.push { cls:=.type "dict",data:=.dict #[] } }:acx).heap.objs.size=s.heap.objs.size+1 from vz ..]
 rw[zt]
 exact acM (acR (acR hQ))
def ib(X:Cx)(scope:Scope)(x:Str)(cs:iK)(C:acr)(s0:acx)(H0:Hp)(fp:List acr)(pn:List (acr×Obj))(E:acy->acx->Prop):Cx where
 prog:=X.prog
 w:=X.w
 K:=X.K
 mg:=X.mg
 base:=X.base
 A:=X.A
 N:=x::cs.map (·.1)
 s₀:=s0
 H₀:=H0
 env:=compEnvC scope (yH X scope C) C X.env
 outer:=X.stack
 stack:=X.stack
 ex:=fp
 fn:=λy=>scope.names.lookup y == some .cell
 calm:=X.calm
 pn:=pn
 xe:=E
structure dj(X:Cx)(scope:Scope)(x:Str)(cs:iK):Prop where
 kind:scope.kind= .function
 look:∀y∈scope.names,scope.names.lookup y.1=some y.2
 own:(scope.names.filter λy=>y.2 == .cell)=[]\/(scope.names.filter λy=>y.2 == .cell)=[(x,.cell)]
 var:scope.names.lookup x=some .local\/scope.names.lookup x=some .cell
 cap:∀y∈scope.names,y.2= .free->X.env.kindOf y.1=some .cell\/X.env.kindOf y.1=some .free
 at_:∀p∈cs,X.N[p.2]? =some p.1/\scope.names.lookup p.1=some .free
 nd:(x::cs.map (·.1)).Nodup
section
variable {X:Cx} {pins:List (acr×Obj)} {σ:St} {H:Hp} {s:acx} {scope:Scope} {x:Str} {cs:iK}
theorem xn(I:Inv X pins σ H s){b:acr}(f:ij X pins H b):b∉frs X.stack:=λz=>by
 rcases List.mem_cons.mp (I.qx b z) with q | q
 ·exact f.2.1 q
 ·exact f.2.2.1 q
theorem dj.has(S:dj X scope x cs)(ok:X.Ok):∀y∈scope.names,y.2= .free->∃c,X.env.cells.lookup y.1=some c:=λy hy e=>ok.has y.1 (S.cap y hy e)
theorem dj.ET(S:dj X scope x cs){y:Str}(e:scope.names.lookup y=some .cell):y=x/\(scope.names.filter λy=>y.2 == .cell)=[(x,.cell)]:=by
 have h:(y,eT)∈scope.names.filter λy=>y.2 == .cell:=List.mem_filter.mpr ⟨lookup_mem e,rfl⟩
 rcases S.own with z | z
 ·rw[z] at h;cases h
 ·rw[z] at h
  have:=List.mem_singleton.mp h
  cases this
  exact⟨rfl,z⟩
theorem dj.sub(S:dj X scope x cs)(ok:X.Ok){C:acr}{y:Str}{c:acr}(e:(yH X scope C).lookup y=some c):(c=C+1/\y=x/\(scope.names.filter λy=>y.2 == .cell)=[(x,.cell)])\/(X.env.cells.lookup y=some c/\scope.names.lookup y≠some .cell):=by
 have old:∀{y:Str}{c:acr},(vw X.env scope.names []).lookup y=some c->X.env.cells.lookup y=some c:=λe=>vx (S.has ok) (λ_ _ z=>by cases z) e
 unfold yH at e
 rcases S.own with z | z
 ·rw[(nX _ _ X.base z).1] at e
  refine .inr ⟨old e,λq=>?_⟩
  rw[(S.ET q).2] at z
  cases z
 ·rw[(jC _ _ X.base z).1,fq] at e
  cases q:(y == x) with
  | true=>
   rw[q] at e
   cases e
   exact .inl ⟨rfl,eq_of_beq q,z⟩
  | false=>
   rw[q] at e
   exact .inr ⟨old e,λw=>by rw[(S.ET w).1] at q;simp at q⟩
theorem dj.to(S:dj X scope x cs){C:acr}{y:Str}{c:acr}(e:(vw X.env scope.names []).lookup y=some c)(n:scope.names.lookup y≠some .cell):(yH X scope C).lookup y=some c:=by
 unfold yH
 rcases S.own with z | z
 ·rw[(nX _ _ X.base z).1];exact e
 ·rw[(jC _ _ X.base z).1,fq]
  have hx:scope.names.lookup x=some .cell:=by
   have hm:(x,eT)∈scope.names.filter λy=>y.2 == .cell:=by rw[z];exact aR
   exact S.look _ (List.mem_filter.mp hm).1
  cases q:(y == x) with
  | true=>exact absurd (by rw[eq_of_beq q];exact hx) n
  | false=>exact e
theorem dj.Nr(S:dj X scope x cs){C:acr}{y:Str}(h:(compEnvC scope (yH X scope C) C X.env).kindOf y=some .cell\/(compEnvC scope (yH X scope C) C X.env).kindOf y=some .free):scope.names.lookup y=some .free\/scope.names.lookup y=some .cell:=by
 have q:(compEnvC scope (yH X scope C) C X.env).kindOf y=(scope.names.lookup y).map λk=>if(k == eS&&X.env.scope.kind == .function&&X.env.kindOf y == some .cell)=true then eT else k:=nW
 rw[q] at h
 cases e:scope.names.lookup y with
 | none=>rw[e] at h;simp at h
 | some k=>
  rw[e] at h
  simp only[nr,Option.some.injEq] at h
  by_cases hk:k= .free
  ·rw[hk];exact .inl rfl
  ·have hb:(k == eS)=false:=by simpa using hk
   rw[hb] at h
   simp only[AH,fU,if_false] at h
   rcases h with h | h
   ·rw[h];exact .inr rfl
   ·exact absurd h hk
theorem dj.EU(S:dj X scope x cs){C:acr}{y:Str}(e:scope.names.lookup y=some .free):(compEnvC scope (yH X scope C) C X.env).kindOf y=some .cell\/(compEnvC scope (yH X scope C) C X.env).kindOf y=some .free:=by
 have q:(compEnvC scope (yH X scope C) C X.env).kindOf y=(scope.names.lookup y).map λk=>if(k == eS&&X.env.scope.kind == .function&&X.env.kindOf y == some .cell)=true then eT else k:=nW
 rw[q,e]
 simp only[nr]
 split
 ·exact .inl rfl
 ·exact .inr rfl
theorem EV{fp:List acr}{tk:Nat}{E:acy->acx->Prop}(S:dj X scope x cs)(I:Inv X pins σ H s)(hf:∀b∈fp,ij X pins H b)(hl:∀b∈fp,b < s.heap.objs.size) :
  Inv (ib X scope x cs s.heap.objs.size s H fp (X.pn++pins) E) [] (none::vy cs σ) H { s with heap:=pushCells (s.heap.push { cls:=.type "dict",data:=.dict #[] }) scope.names,toks:=tk }:=by
 have keep:∀b o,s.heap.get? b=some o->(pushCells (s.heap.push { cls:=.type "dict",data:=.dict #[] }) scope.names).get? b=some o:=λb o e=>pushCells_keeps _ _ b o (aL _ e)
 have ns:(pushCells (s.heap.push { cls:=.type "dict",data:=.dict #[] }) scope.names).Ns s.heap.objs.size λ_=>none:=(Heap.Ns.new s.heap (.type "dict")).keeps (pushCells_keeps _ _)
 have own:(scope.names.filter λy=>y.2 == .cell)=[(x,.cell)]->(pushCells (s.heap.push { cls:=.type "dict",data:=.dict #[] }) scope.names).IsCell (s.heap.objs.size+1) none:=λz=>by
  rw[(jC 0 [] _ z).2]
  have:=bz (s.heap.push { cls:=.type "dict",data:=.dict #[] }) (o:={ cls:=.type "cell",data:=.cell none }) rfl
  rw[vz] at this
  exact⟨_,this,rfl⟩
 generalize (pushCells (s.heap.push { cls:=.type "dict",data:=.dict #[] }) scope.names)=h2 at keep ns own ⊢
 have sub:=λ{y:Str}{c:acr}(e:(yH X scope s.heap.objs.size).lookup y=some c)=>S.sub I.ok e
 have cellK:∀y c,X.env.cells.lookup y=some c->∀v,s.heap.IsCell c v->h2.IsCell c v:=λy c _ v ⟨o,ho,hd⟩=>⟨o,keep c o ho,hd⟩
 have lt:∀{y:Str}{c:acr},X.env.cells.lookup y=some c->c < s.heap.objs.size:=λ{y c} e=>by
  obtain⟨v,z⟩:=I.cell y c e
  exact z.lt
 refine⟨⟨I.ok.mod,S.kind,I.ok.glob,I.ok.blt,au _,(λy z c e1 e2=>?_),λy h=>?_,(λy c e1 e2=>?_),I.ok.hd,I.ok.frames,.inl rfl,λb hb=>⟨bu (hl b hb),λy c e=>?_⟩,I.bs,bg I.ok.Hy I.sz,λb o e hb=>?_,λb hb=>xn I (hf b hb),I.stack,I.nu⟩,rfl,I.bare,Un.kept keep,⟨_,ns,λi y v e1 e2 e3=>?_⟩,(λy c e=>?_),I.fresh,(λy c e=>?_),λp hp=>?_,I.hok.kept keep,by unfold ib vy;simp⟩
 ·rcases sub e1 with ⟨q1,q2,_⟩ | ⟨q1,_⟩<;>rcases sub e2 with ⟨q3,q4,_⟩ | ⟨q3,_⟩
  ·rw[q2,q4]
  ·exact absurd (lt q3) (by rw[q1];exact Nat.not_lt.mpr (nY _))
  ·exact absurd (lt q1) (by rw[q3];exact Nat.not_lt.mpr (nY _))
  ·exact I.ok.inj y z c q1 q3
 ·rcases S.Nr h with k | k
  ·obtain⟨c,e⟩:=qf (env:=X.env) (y:=y) (names:=scope.names) (acc:=[]) (.inr (lookup_mem k))
   exact⟨c,S.to e (by rw[k];decide)⟩
  ·obtain⟨rfl,z⟩:=S.ET k
   refine⟨s.heap.objs.size+1,?_⟩
   show(yH X scope s.heap.objs.size).lookup y=_
   unfold yH
   rw[(jC _ _ s.heap z).1,fq,beq_self_eq_true]
 ·rcases sub e2 with ⟨q1,_,_⟩ | ⟨_,q2⟩
  ·rw[q1];exact nY _
  ·exact absurd (eq_of_beq e1) q2
 ·rcases sub e with ⟨q1,_,_⟩ | ⟨q1,_⟩
  ·rw[q1];exact lI (Nat.lt_succ_of_lt (hl b hb))
  ·exact(hf b hb).2.2.2.2.1 y c q1
 ·rcases(hf b hb).2.2.2.1 with z | z
  ·exact I.ok.B0 b o e z
  ·exact absurd (bt (aC e) (bg I.ok.Hy z)) (cX _)
 ·cases i with
  | zero=>cases e2
  | succ i=>
   have A3:(cs.map (·.1))[i]? =some y:=e1
   have Cu:(vy cs σ)[i]? =some (some v):=e2
   unfold vy at Cu
   rw[fg] at A3 Cu
   cases q:cs[i]? with
   | none=>rw[q] at A3;cases A3
   | some p=>
    rw[q] at A3 Cu
    have y1:p.1=y:=by simpa using A3
    have e4:(σ[p.2]?).getD none=some v:=by simpa using Cu
    have e5:σ[p.2]? =some (some v):=by
     cases q2:σ[p.2]? with
     | none=>rw[q2] at e4;cases e4
     | some o=>
      rw[q2] at e4
      have:o=some v:=e4
      rw[this]
    have hp:=S.at_ p (List.mem_iff_getElem?.mpr ⟨i,q⟩)
    rw[y1] at hp
    have kd:=S.cap (y,.free) (lookup_mem hp.2) rfl
    obtain⟨m,hn,hl'⟩:=I.loc
    obtain⟨u,r,l⟩:=hl' p.2 y v hp.1 e5 (.inr kd)
    refine⟨u,r,.inr ⟨S.EU hp.2,?_⟩⟩
    rcases l with ⟨l,_⟩ | ⟨_,c,e,z⟩
    ·rcases kd with kd | kd
     ·have Vf:X.env.kindOf y=some .cell:=kd
      rw[Vf] at l;cases l
     ·have Vf:X.env.kindOf y=some .free:=kd
      rw[Vf] at l;cases l
    ·obtain⟨c',e'⟩:=qf (env:=X.env) (y:=y) (names:=scope.names) (acc:=[]) (.inr (lookup_mem hp.2))
     have e6:=S.to (C:=s.heap.objs.size) e' (by rw[hp.2];decide)
     rcases sub e6 with ⟨_,w1,w2⟩ | ⟨w1,_⟩
     ·have hm:(x,eT)∈scope.names.filter λy=>y.2 == .cell:=by rw[w2];exact aR
      have:=S.look _ (List.mem_filter.mp hm).1
      rw[<-w1,hp.2] at this
      cases this
     ·rw[e] at w1
      cases w1
      exact⟨c,e6,cellK y c e _ z⟩
 ·rcases sub e with ⟨rfl,_,q2⟩ | ⟨q1,_⟩
  ·exact⟨none,own q2⟩
  ·obtain⟨v,z⟩:=I.cell y c q1
   exact⟨v,cellK y c q1 v z⟩
 ·rcases sub e with ⟨rfl,_,_⟩ | ⟨q1,_⟩
  ·exact I.hok.fresh (nY _)
  ·exact I.hV y c q1
 ·rw[jO] at hp
  obtain⟨e,n,ne,nf,d⟩:=I.pin p hp
  refine⟨keep _ _ e,n,bu (aC e),λz=>?_,d⟩
  rcases List.mem_cons.mp (I.qx p.1 z) with q | q
  ·exact ne q
  ·exact nf q
theorem EW{fp:List acr}{E:acy->acx->Prop}{Hb He:Hp}{sb se:acx}{C:acr}{σ':St}{kM:List (acr×Obj)}(I:Inv X pins σ Hb sb)(hf:∀b∈fp,ij X pins Hb b)(J:Inv (ib X scope x cs C sb Hb fp (X.pn++pins) E) kM σ' He se):Inv X pins σ He se:=by
 have un:Un (frs X.stack) fp Hb He sb.heap se.heap:=J.base
 exact I.DD (ch:=fp) J.os un J.hok J.bare λb hb=>⟨(hf b hb).2.2.2.1,(hf b hb).2.1,(hf b hb).2.2.2.2.1,λp hp=>(hf b hb).2.2.2.2.2 p hp⟩
theorem t_{He:Hp}{se:acx}{C:acr}{h2:Heap}(I:Inv X pins σ He se)(f:ij X pins He C)(same:kK C se.heap h2):Inv X pins σ He { se with heap:=h2 } :=
 I.turned (t':=se.toks) (it:=C) (λb o hb e=>(same.2 b hb).trans e) f.1 f.2.1 f.2.2.2.1 f.2.2.2.2.1 f.2.2.2.2.2
end
def EY(X:Cx):Prop:=∃(env:Env)(outer:List Env)(L:acr),X.stack=env::outer/\env.frame=some L/\X.env.frame=some L
section
variable {X:Cx} {pins:List (acr×Obj)} {σ:St} {scope:Scope} {x:Str} {cs:iK}
end
structure A4(Y:Cx->Prop)(P:acw)(w:acz)(K:PySem.W.Frag)(tg:Expr)(J:It)(fp:List acr)(it:acr)(tn:Nat->Heap->Prop):Prop where
 obj:∀i h,tn i h->∀b∈fp,∃o,h.get? b=some o/\∀v,o.data≠.cell v
 keep:∀i h h',tn i h->(∀b∈fp,∀o,h.get? b=some o->h'.get? b=some o)->tn i h'
 item:∀(X:Cx),X.prog=P->X.w=w->X.K=K->Y X->∀(i:Nat)(pins:List (acr×Obj))(s:acx)(σ:St)(H:Hp)(E:acy->acx->Prop),Inv X pins σ H s->(∀b∈fp,ij X pins H b)->tn i s.heap->J.go i H->acL (model P w) X.A (pyNext (.ref it)) (λr s1=>∃u,r=some u/\
  acL (model P w) X.A (letOwnedTupleGo tg (.ref it) u) (λ_ s2=>∃x H',Inv X pins σ H' s2/\RelV x u/\J.yF i H x H'/\tn (i+1) s2.heap/\∀b∈fp,H' b=none) E s1) E s
 done:∀(X:Cx),X.prog=P->X.w=w->X.K=K->Y X->∀(i:Nat)(pins:List (acr×Obj))(s:acx)(σ:St)(H:Hp)(E:acy->acx->Prop),Inv X pins σ H s->(∀b∈fp,ij X pins H b)->tn i s.heap->J.stop i H->acL (model P w) X.A (pyNext (.ref it)) (λr s1=>r=none/\Inv X pins σ H s1) E s
 self:∀(A:acs)(i:Nat)(s:acx)(Q:acy->acx->Prop)(E:acy->acx->Prop),tn i s.heap->Q (.ref it) s->acL (model P w) A (pyIter (.ref it)) Q E s
abbrev Calm(X:Cx):Prop:=X.calm=true
theorem _root_.L2.Turn.y{P:acw}{w:acz}{K:PySem.W.Frag}{tg:Expr}{J:It}{fp:List acr}{it:acr}{tn:Nat->Heap->Prop}(T:Turn P w K tg J fp it tn):A4 Calm P w K tg J fp it tn:=⟨T.obj,T.keep,T.item,T.done,T.self⟩
def Ql(Y:Cx->Prop)(X:Cx):Prop:=∀{pins:List (acr×Obj)}{σ:St}{H:Hp}{s:acx}(scope:Scope)(x:Str)(cs:iK)(C:acr)(s0:acx)(fp:List acr)(pn:List (acr×Obj))(E:acy->acx->Prop),Inv X pins σ H s->Y (ib X scope x cs C s0 H fp pn E)
theorem xo{X:Cx}(hc:X.calm=true):Ql Calm X:=λ_ _ _ _ _ _ _ _ _=>hc
def Lk(X:Cx)(ifs:List Expr)(g:GT):Prop:=∀(ρ:b9)(st:Hs)(σ:St)(H:Hp)(m:Mp)(Q:Bool->Hp->Prop),bG X.K m st H->aA X.K m H ρ σ->jx X σ m H (g ρ st) Q->∀(pins:List (acr×Obj))(s:acx),Inv X pins σ H s->
 acL (model X.prog X.w) X.A (forIn ifs true λc r=>if r=true then do let ok <-isTrue c X.env (eval c X.env);pure (oJ ok) else pure (oJ r)) (TP X pins σ Q) X.xe s
section
variable {X:Cx}
theorem Jt:Lk X [] (λ_ st=> .ok true st):=λρ st σ H m Q S R p pins s I=>wpAny_tests_nil ⟨H,I,p m H Ext.refl S⟩
theorem Ju{c:Expr}{g:GT}(h:JT X c g):Lk X [c] g:=λρ st σ H m Q S R p pins s I=>wpAny_tests_one (h ρ st σ H m Q S R p pins s I)
theorem zu{pins:List (acr×Obj)}{σ:St}{ρ:b9}{scope:Scope}{x:Str}{cs:iK}{px pos:Pos}{elt iter:Expr}{ifs:List Expr}{gt:GT}{ge:GE}{ck:Hs->Prop}{ws:List Wv}{E:acy->acx->Prop}
  {use:Option (acy->Sem Unit)}{Q:acy->acx->Prop}{res:Re Unit}
  {it:acr}{fp:List acr}{tn:Nat->Heap->Prop}{J':It}{H2:Hp}{s2:acx}{m1:Mp}{st1:Hs}{Y:Cx->Prop}(fr:EY X)(S:dj X scope x cs)(hY:Ql Y X)(hH:zp X)(I2:Inv X pins σ H2 s2)(T:A4 Y X.prog X.w X.K (.Name x px) J' fp it tn)(t0:tn 0 s2.heap)(f2:∀b∈fp,ij X pins H2 b)
  (S1:bG X.K m1 st1 H2)(R:aA X.K m1 H2 ρ σ)(hck:ck (st1++[.lst []]))(run:pz ck (λw=>gt (some w::dX cs ρ)) (λw=>ge (some w::dX cs ρ)) st1.length ws (st1++[.lst []])=res)(nb:res≠.bad)(hx:∀c stE,res≠.err c stE)
  (hE:∀C s0 H0 pn E,Cr X.A H0->JE (ib X scope x cs C s0 H0 fp pn E) elt ge)(hT:∀C s0 H0 pn E,Cr X.A H0->Lk (ib X scope x cs C s0 H0 fp pn E) ifs gt)
  (hgo:∀(k:Nat)(H:Hp)(m':Mp)(st:Hs),Ext X.K m1 H2 m' H->bG X.K m' st H->ck st->k < ws.length->J'.go k H)(hstop:∀(k:Nat)(H:Hp)(m':Mp)(st:Hs),Ext X.K m1 H2 m' H->bG X.K m' st H->ck st->k=ws.length->J'.stop k H)
  (hy:∀(k:Nat)(hk:k < ws.length)(H:Hp)(v:V)(H':Hp)(m':Mp)(st:Hs),Ext X.K m1 H2 m' H->bG X.K m' st H->ck st->J'.yF k H v H'->H'=H/\aj X.K m' H ws[k] v)
  (fin:∀(A2:Hs),res= .ok () A2->∀(D C:acr)(mm:Str->Option acy)(m':Mp)(H':Hp)(s':acx),Ext X.K m1 H2 m' H'->bG X.K m' A2 H'->m'[st1.length]? =some D->Inv X pins σ H' s'->ij X pins H' C->s'.heap.Ns C mm->(∀y c,X.env.cells.lookup y=some c->c≠C)->acE (model X.prog X.w) X.A X.xe use Q (.ref D) C (.ok .next) s') :
  acL (model X.prog X.w) X.A (newList []) (λacc s3=>acL (model X.prog X.w) X.A (newFunctionEnv scope X.env.globals (vw X.env scope.names []) [] X.env.qual none .none (some X.env)) (λcenv s4=>
   acD (model X.prog X.w) X.A (.compStart (.ListComp elt [⟨.Name x px,iter,ifs,0⟩] scope pos) 0 (.ref it) acc { cenv with scope:=relabel scope X.env }) (acE (model X.prog X.w) X.A X.xe use Q acc cenv.locals) s4) E s3) E s2:=by
 refine wpAny_newList ?_
 have I3:Inv X pins σ (upd H2 s2.heap.objs.size (.lst [])) { s2 with heap:=s2.heap.push { cls:=.type "list",data:=.seq ([]:List acy).toArray } }:=I2.MC (ys:=[]) (its:=[]) (t':=s2.toks) .nil (bY _)
 have TK:∀b∈fp,b < s2.heap.objs.size:=λb hb=>by
  obtain⟨o,e,_⟩:=T.obj _ _ t0 b hb
  exact aC e
 have hD:H2 s2.heap.objs.size=none:=I2.fresh
 have f3:∀b∈fp,ij X pins (upd H2 s2.heap.objs.size (.lst [])) b:=λb hb=>⟨by rw[av (bu (TK b hb))];exact(f2 b hb).1,(f2 b hb).2⟩
 have S3:=S1.alloc (ws:=[]) (xs:=[]) hD ai.nil
 have e3:Ext X.K m1 H2 (m1++[s2.heap.objs.size]) (upd H2 s2.heap.objs.size (.lst [])):=Ext.more.trans (Ext.upd (.inl hD))
 have TL:(m1++[s2.heap.objs.size])[st1.length]? =some s2.heap.objs.size:=by
  rw[<-S1.len,mI (au _),qe];rfl
 generalize qg:({ s2 with heap:=s2.heap.push { cls:=.type "list",data:=.seq ([]:List acy).toArray } }:acx)=s3 at I3
 have Ys:∀b o,s2.heap.get? b=some o->s3.heap.get? b=some o:=λb o e=>by rw[<-qg];exact aL _ e
 have Vg:∀b∈fp,b < s3.heap.objs.size:=λb hb=>by
  obtain⟨o,e,_⟩:=T.obj _ _ t0 b hb
  exact aC (Ys b o e)
 generalize hDD:s2.heap.objs.size=D at *
 generalize hH3:upd H2 D (.lst [])=H3 at *
 generalize hm3:m1++[D]=m3 at *
 have R3:aA X.K m3 H3 (dX cs ρ) (vy cs σ):=(Js cs R).mono e3
 generalize hrr:dX cs ρ=ρc at *
 generalize hss:vy cs σ=σc at *
 refine qY ?_
 have Ic:=λE=>EV (E:=E) (tk:=s3.toks) S I3 f3 Vg
 have Yt:∀b o,s3.heap.get? b=some o->(pushCells (s3.heap.push { cls:=.type "dict",data:=.dict #[] }) scope.names).get? b=some o:=λb o e=>pushCells_keeps _ _ b o (aL _ e)
 generalize (pushCells (s3.heap.push { cls:=.type "dict",data:=.dict #[] }) scope.names)=h4 at Ic Yt ⊢
 have t4:tn 0 h4:=T.keep _ _ _ t0 λb _ o e=>Yt b o (Ys b o e)
 let EX:acy->acx->Prop:=notedBy (model X.prog X.w) X.A (compEnvC scope (yH X scope s3.heap.objs.size) s3.heap.objs.size X.env) λe s'=>acE (model X.prog X.w) X.A X.xe use Q (.ref D) s3.heap.objs.size (.error e) s'
 let Xc:=ib X scope x cs s3.heap.objs.size s3 H3 fp (X.pn++pins) EX
 have noted:∀{σ':St}{m:Mp}{H:Hp}{c:Str}{st:Hs},Ext X.K m1 H2 m H->res= .err c st->Qg Xc σ' m H c st:=λ_ er=>(hx _ _ er).elim
 have vis:Loc Xc.env.scope x/\(Xc.fn x=true\/Xc.env.scope.names.lookup x=some .local):=by
  rcases S.var with v | v
  ·exact⟨.inl (lookup_relabel_local v),.inr (lookup_relabel_local v)⟩
  ·have q:Xc.env.scope.names.lookup x=some .cell:=by
    show(scope.names.map _).lookup x=_
    rw[nW,v]
    rfl
   exact⟨.inr q,.inl (by show(scope.names.lookup x == some .cell)=true;rw[v];rfl)⟩
 have Vh:∀(H':Hp),(∀b∈fp,H' b=none)->∀b∈fp,ij Xc [] H' b:=λH' hn b hb=>⟨hn b hb,bu (Vg b hb),xn I3 (f3 b hb),.inl hb,λy c e=>(by
  rcases S.sub I3.ok e with ⟨q1,_,_⟩ | ⟨q1,_⟩
  ·rw[q1];exact lI (Nat.lt_succ_of_lt (Vg b hb))
  ·exact(f3 b hb).2.2.2.2.1 y c q1),λp hp=>(f2 b hb).2.2.2.2.2 p (by have RG:p∈(X.pn++pins)++[]:=hp;rw[jO] at RG;exact RG)⟩
 let Pv:Nat->acx->Prop:=λk s'=>∃z H' st m',Inv Xc [] (z::σc) H' s'/\tn k s'.heap/\(∀b∈fp,H' b=none)/\Ext X.K m3 H3 m' H'/\bG X.K m' st H'/\ck st/\pz ck (λw=>gt (some w::ρc)) (λw=>ge (some w::ρc)) st1.length (ws.drop k) st=res
 have loop:∀s4:acx,Pv 0 s4->acD (model X.prog X.w) X.A (.compLoop (.ListComp elt [⟨.Name x px,iter,ifs,0⟩] scope pos) 0 (.ref it) (.ref D) (compEnvC scope (yH X scope s3.heap.objs.size) s3.heap.objs.size X.env)) (acE (model X.prog X.w) X.A X.xe use Q (.ref D) s3.heap.objs.size) s4:=λs4 p0=>by
  refine codeAny_compLoop_tests (λn s'=>∃k,n=ws.length - k/\k<=ws.length/\Pv k s') ?_ ws.length ⟨0,by simp,bY _,p0⟩
  rintro n s5 ⟨k,rfl,hk,z5,H5,DM,m5,I5,Yu,Tp,e5,S5,c5,eZ⟩
  have Qm:=e3.trans e5
  by_cases hlt:k < ws.length
  ·refine bJ (T.item Xc rfl rfl rfl (hY _ _ _ _ _ _ _ _ I3) k [] s5 (z5::σc) H5 _ I5 (Vh H5 Tp) Yu (hgo k H5 m5 DM Qm S5 c5 hlt)) λr s6 h6=>?_
   obtain⟨u,rfl,h6⟩:=h6
   show acL (model X.prog X.w) X.A (pure () >>= λ_=>assign (.Name x px) Xc.env u) _ _ s6
   refine acM (bJ h6 λ_ s7 h7=>?_)
   obtain⟨v,H7,I7,rv,yl,Vi,fr7⟩:=h7
   obtain⟨rfl,rw7⟩:=hy k hlt H5 v H7 m5 DM Qm S5 c5 yl
   have TH:=I7.pinned (Vh H7 fr7) (T.obj _ _ Vi)
   refine wpAny_assign_Name (ny (i:=0) TH S.nd rfl vis.1 rv (λs8 I8=>?_) vis.2)
   have Yv:Inv Xc ([]++iI fp s7.heap) (some v::σc) H7 s8:=I8
   have R8:aA X.K m5 H7 (some ws[k]::ρc) (some v::σc):=by
    have R5:=R3.mono e5
    refine⟨by simp[R5.len],λi w e=>?_⟩
    cases i with
    | zero=>
     cases e
     exact⟨v,rfl,rw7⟩
    | succ i=>exact R5.get i w e
   have ed:ws.drop k=ws[k]::ws.drop (k+1):=qU hlt
   rw[ed] at eZ
   unfold pz at eZ
   have back:∀{H':Hp}{s':acx}{m':Mp}{st:Hs},Inv Xc ([]++iI fp s7.heap) (some v::σc) H' s'->Ext X.K m3 H3 m' H'->bG X.K m' st H'->ck st->pz ck (λw=>gt (some w::ρc)) (λw=>ge (some w::ρc)) st1.length (ws.drop (k+1)) st=res->∃n',n' < ws.length - k/\∃k',n'=ws.length - k'/\k'<=ws.length/\Pv k' s' :=
    λ{H' s' m' st} I' e' S' c' r'=>⟨ws.length - (k+1),by omega,k+1,rfl,hlt,some v,H',st,m',I'.nH,T.keep _ _ _ Vi λb hb o e=>(I'.pin (b,o) (ip _ (ip _ (jN hb e)))).1,λb hb=>by
     obtain⟨o,e,_⟩:=T.obj _ _ Vi b hb
     exact(I'.pin (b,o) (ip _ (ip _ (jN hb e)))).2.1,e',S',c',r'⟩
   cases eg:gt (some ws[k]::ρc) DM with
   | err c Qn=>
    rw[eg] at eZ
    refine acP (hT s3.heap.objs.size s3 H3 (X.pn++pins) EX (hH.at I3) (some ws[k]::ρc) DM (some v::σc) H7 m5 (λ_ _=>False) S5 R8 (by rw[eg];exact noted Qm eZ.symm) ([]++iI fp s7.heap) s8 Yv) (λ_ _ h9=>?_) λ_ _ z=>z
    obtain⟨_,_,z⟩:=h9
    exact z.elim
   | bad=>rw[eg] at eZ;exact absurd eZ.symm nb
   | ok b Qn=>
    rw[eg] at eZ
    have Qh:=hT s3.heap.objs.size s3 H3 (X.pn++pins) EX (hH.at I3) (some ws[k]::ρc) DM (some v::σc) H7 m5 (λb' H'=>b'=b/\∃m',Ext X.K m5 H7 m' H'/\bG X.K m' Qn H') S5 R8 (by rw[eg];exact λm' H' e' S'=>⟨rfl,m',e',S'⟩) ([]++iI fp s7.heap) s8 Yv
    refine acP Qh (λok s9 h9=>?_) λ_ _ z=>z
    obtain⟨H9,I9,rfl,m9,e9,S9⟩:=h9
    cases ok with
    | false=>
     dsimp only at eZ
     by_cases c6:ck Qn
     ·rw[if_pos c6] at eZ
      rw[if_neg bD]
      exact back I9 (e5.trans e9) S9 c6 eZ
     ·rw[if_neg c6] at eZ;exact absurd eZ.symm nb
    | true=>
     dsimp only at eZ
     rw[if_pos rfl]
     cases ee:ge (some ws[k]::ρc) Qn with
     | err c TM=>
      rw[ee] at eZ
      refine acP (hE s3.heap.objs.size s3 H3 (X.pn++pins) EX (hH.at I3) (some ws[k]::ρc) Qn (some v::σc) H9 m9 (λ_ _=>False) S9 (R8.mono e9) (by rw[ee];exact noted (Qm.trans e9) eZ.symm) ([]++iI fp s7.heap) s9 I9) (λ_ _ Vj=>?_) λ_ _ z=>z
      obtain⟨_,_,_,_,z⟩:=Vj
      exact z.elim
     | bad=>rw[ee] at eZ;exact absurd eZ.symm nb
     | ok w TM=>
      rw[ee] at eZ
      dsimp only at eZ
      cases ea:jV (.ref st1.length) w TM with
      | err c Vk=>rw[ea] at eZ;exact absurd eZ.symm nb
      | bad=>rw[ea] at eZ;exact absurd eZ.symm nb
      | ok w2 Vk=>
       rw[ea] at eZ
       dsimp only at eZ
       by_cases c8:ck Vk
       ·rw[if_pos c8] at eZ
        have el:=hE s3.heap.objs.size s3 H3 (X.pn++pins) EX (hH.at I3) (some ws[k]::ρc) Qn (some v::σc) H9 m9 (λv' H'=>∃m',Ext X.K m9 H9 m' H'/\bG X.K m' TM H'/\aj X.K m' H' w v') S9 (R8.mono e9) (by rw[ee];exact λv' m' H' e' S' r'=>⟨m',e',S',r'⟩) ([]++iI fp s7.heap) s9 I9
        refine acP el (λu2 Jv Vj=>?_) λ_ _ z=>z
        obtain⟨v2,Nt,I10,r2,Vl,TN,S10,Vm⟩:=Vj
        obtain⟨r,h1,h2⟩:=EO (X:=Xc)
        have eA:=(e5.trans e9).trans TN
        have ro:aj X.K Vl Nt (.ref st1.length) (.ref D):=by unfold aj;exact⟨D,rfl,eA.pre _ _ TL⟩
        have rd:=h2 (.ref st1.length) w (.ref D) v2 TM Nt Vl (λ_ H'=>∃m',Ext X.K Vl Nt m' H'/\bG X.K m' Vk H') S10 ro Vm (by rw[ea];exact λv' m' H' e' S' r'=>⟨m',e',S'⟩)
        refine acP (h1 ([]++iI fp s7.heap) Jv (some v::σc) Nt (.ref D) [v2] (.ref D) [u2] _ I10 rfl (.cons r2 .nil) rd) (λ_ Vn h11=>?_) λ_ _ z=>z
        obtain⟨_,Yw,I11,_,m11,e11,S11⟩:=h11
        exact back I11 (eA.trans e11) S11 c8 eZ
       ·rw[if_neg c8] at eZ;exact absurd eZ.symm nb
  ·have ek:k=ws.length:=by omega
   subst ek
   refine bJ (T.done Xc rfl rfl rfl (hY _ _ _ _ _ _ _ _ I3) _ [] s5 (z5::σc) H5 _ I5 (Vh H5 Tp) Yu (hstop _ H5 m5 DM Qm S5 c5 rfl)) λr s6 h6=>?_
   obtain⟨rfl,I6⟩:=h6
   rw[vo] at eZ
   obtain⟨mm,ns6,_⟩:=id I6.loc
   have fC:=I3.yO (H':=H5) (au _) I6.free
   exact fin DM eZ.symm D _ mm m5 H5 _ Qm S5 (e5.pre _ _ TL) (EW I3 f3 I6) fC ns6 fC.2.2.2.2.1
 have p0:Pv 0 { s3 with heap:=h4,toks:=s3.toks }:=⟨none,H3,st1++[Ob.lst []],m3,hss ▸ Ic EX,t4,λb hb=>(f3 b hb).1,Ext.refl,S3,hck,by rw[EZ];exact run⟩
 exact codeAny_compStart_list (loop _ p0) (T.self X.A 0 _ _ _ t4 (loop _ p0))
end
abbrev Wk:=Option Nat×List Wv
def kZ(w:Wk)(st:Hs):Prop:=match w.1 with
 | some l=>ao st l=some w.2
 | none=>True
structure xp(X:Cx)(w:Wk)(m1:Mp)(H1:Hp)(J':It):Prop where
 go:∀(k:Nat)(H:Hp)(m':Mp)(st:Hs),Ext X.K m1 H1 m' H->bG X.K m' st H->kZ w st->k < w.2.length->J'.go k H
 stop:∀(k:Nat)(H:Hp)(m':Mp)(st:Hs),Ext X.K m1 H1 m' H->bG X.K m' st H->kZ w st->k=w.2.length->J'.stop k H
 yF:∀(k:Nat)(hk:k < w.2.length)(H:Hp)(v:V)(H':Hp)(m':Mp)(st:Hs),Ext X.K m1 H1 m' H->bG X.K m' st H->kZ w st->J'.yF k H v H'->H'=H/\aj X.K m' H w.2[k] v
abbrev GI:=b9->Hs->Re Wk
def Vo(Y:Cx->Prop)(X:Cx)(pins:List (acr×Obj))(σ:St)(tg:Expr)(R:It->Hp->Prop)(itv:acy)(s2:acx):Prop :=
 ∃(it:acr)(fp:List acr)(tn:Nat->Heap->Prop)(J:It)(H':Hp),itv= .ref it/\Inv X pins σ H' s2/\A4 Y X.prog X.w X.K tg J fp it tn/\tn 0 s2.heap/\(∀b∈fp,ij X pins H' b)/\R J H'
def Vp(Y:Cx->Prop)(X:Cx)(tg iter:Expr)(wi:TI):Prop:=∀(pins:List (acr×Obj))(s:acx)(σ:St)(H:Hp)(R:It->Hp->Prop),Inv X pins σ H s->wi σ H R->
 acL (model X.prog X.w) X.A (eval iter X.env) (λv s1=>acL (model X.prog X.w) X.A (pyIter v) (Vo Y X pins σ tg R) X.xe s1) X.xe s
theorem _root_.L2.PI.y{X:Cx}{tg iter:Expr}{wi:TI}(h:PI X tg iter wi):Vp Calm X tg iter wi:=λpins s σ H R I q=>bJ (h pins s σ H R I q) λ_ _ h1=>bJ h1 λ_ _ h2=>
 let ⟨it,fp,tn,J,H',e,I',T,r⟩:=h2;⟨it,fp,tn,J,H',e,I',T.y,r⟩
def Qo(Y:Cx->Prop)(X:Cx)(tg iter:Expr)(gi:GI):Prop:=∃wi,Vp Y X tg iter wi/\∀(ρ:b9)(st:Hs)(σ:St)(H:Hp)(m:Mp)(R:It->Hp->Prop),bG X.K m st H->aA X.K m H ρ σ->
 az X σ m H (gi ρ st) (λw st1=>∀(m1:Mp)(H1:Hp)(J':It),Ext X.K m H m1 H1->bG X.K m1 st1 H1->kZ w st1->xp X w m1 H1 J'->R J' H1)->wi σ H R
def JI(X:Cx)(tg iter:Expr)(gi:GI):Prop:=∃wi,PI X tg iter wi/\∀(ρ:b9)(st:Hs)(σ:St)(H:Hp)(m:Mp)(R:It->Hp->Prop),bG X.K m st H->aA X.K m H ρ σ->
 az X σ m H (gi ρ st) (λw st1=>∀(m1:Mp)(H1:Hp)(J':It),Ext X.K m H m1 H1->bG X.K m1 st1 H1->kZ w st1->xp X w m1 H1 J'->R J' H1)->wi σ H R
theorem JI.y{X:Cx}{tg iter:Expr}{gi:GI}(h:JI X tg iter gi):Qo Calm X tg iter gi:=let ⟨wi,h1,h2⟩:=h;⟨wi,h1.y,h2⟩
def Nu(w:Wv)(st:Hs):Re Wk:=match w with
 | .ref l=>(match ao st l with | some ws=> .ok (some l,ws) st | none=> .bad)
 | .tup ws=> .ok (none,ws) st
 | .qN ws=> .ok (none,ws) st
 | _=> .bad
def E6(g:GE):GI:=λρ st=>(g ρ st).bind Nu
section
variable {X:Cx}
theorem Nv{tg iter:Expr}{g:GE}(h:JE X iter g):JI X tg iter (E6 g):=by
 refine⟨_,EB aY,λρ st σ H m Q S R p=>?_⟩
 refine h.go S R (az.bind p) λw st1 v m1 H1 p1 e1 S1 rw'=>?_
 cases w with
 | ref l=>
  unfold aj at rw'
  obtain⟨a,rfl,hla⟩:=rw'
  unfold Nu at p1
  cases el:ao st1 l with
  | none=>simp only[el] at p1;exact aa p1
  | some ws=>
   simp only[el] at p1
   obtain⟨HC,q0,_⟩:=S1.read hla el
   refine⟨a,rfl,.inl ⟨⟨HC,q0⟩,p1 m1 H1 _ e1 S1 el ⟨λk H' m' st' e S' c hk=>?_,λk H' m' st' e S' c hk=>?_,λk hk H' v zv m' st' e S' c y=>?_⟩⟩⟩
   ·obtain⟨xs,hq,rws⟩:=S'.read (e.pre _ _ hla) c
    have hx':k < xs.length:=by rw[<-rws.length];exact hk
    exact⟨xs,xs[k],hq,by simp[hx']⟩
   ·obtain⟨xs,hq,rws⟩:=S'.read (e.pre _ _ hla) c
    exact⟨xs,hq,by rw[<-rws.length,hk];exact au _⟩
   ·obtain⟨xs,hq,rws⟩:=S'.read (e.pre _ _ hla) c
    obtain⟨ee,y⟩:=y
    refine⟨ee,?_⟩
    obtain⟨x',ex',pK⟩:=rws.get (i:=k) (w:=ws[k]) (cK hk)
    rw[y xs hq] at ex'
    cases ex'
    exact pK
 | tup ws=>
  unfold aj at rw'
  obtain⟨a,xs,rfl,hq,rws⟩:=rw'
  refine⟨a,rfl,.inr ⟨⟨xs,fV.of hq⟩,p1 m1 H1 _ e1 S1 trivial ⟨λk H' m' st' e S' c hk=>?_,λk H' m' st' e S' c hk=>?_,λk hk H' v zv m' st' e S' c y=>?_⟩⟩⟩
  ·have hx':k < xs.length:=by rw[<-rws.length];exact hk
   exact⟨xs,xs[k],fV.of (e.tup _ _ hq),by simp[hx']⟩
  ·exact⟨xs,fV.of (e.tup _ _ hq),by rw[<-rws.length,hk];exact au _⟩
  ·obtain⟨ee,y⟩:=y
   refine⟨ee,?_⟩
   obtain⟨x',ex',pK⟩:=(ai.mono e _ _ rws).get (i:=k) (w:=ws[k]) (cK hk)
   rw[y xs (fV.of (e.tup _ _ hq))] at ex'
   cases ex'
   exact pK
 | qN ws=>
  unfold aj at rw'
  obtain⟨a,xs,rfl,hq,rws⟩:=rw'
  refine⟨a,rfl,.inr ⟨⟨xs,.inr hq⟩,p1 m1 H1 _ e1 S1 trivial ⟨λk H' m' st' e S' c hk=>?_,λk H' m' st' e S' c hk=>?_,λk hk H' v zv m' st' e S' c y=>?_⟩⟩⟩
  ·have hx':k < xs.length:=by rw[<-rws.length];exact hk
   exact⟨xs,xs[k],.inr hq,by simp[hx']⟩
  ·exact⟨xs,.inr hq,by rw[<-rws.length,hk];exact au _⟩
  ·obtain⟨ee,y⟩:=y
   refine⟨ee,?_⟩
   obtain⟨x',ex',pK⟩:=(ai.mono e _ _ rws).get (i:=k) (w:=ws[k]) (cK hk)
   rw[y xs (.inr hq)] at ex'
   cases ex'
   exact pK
 | _=>exact aa p1
theorem zw{lo:Int}{n:Nat}{m1:Mp}{H1:Hp}:xp X (none,bo lo n) m1 H1 (Hz lo n) where
 go:=λk H m' st e S c hk=>by
  have:(bo lo n).length=n:=bL
  have hk':k < (bo lo n).length:=hk
  rw[this] at hk';exact hk'
 stop:=λk H m' st e S c hk=>by
  have:(bo lo n).length=n:=bL
  have hk':k=(bo lo n).length:=hk
  rw[this] at hk';exact p_ hk'.symm
 yF:=λk hk H v H' m' st e S c y=>by
  obtain⟨y1,y2⟩:=y
  refine⟨y1,?_⟩
  have q:(bo lo n)[k]'hk= .int (lo+k):=xj hk
  show aj X.K m' H ((bo lo n)[k]'hk) v
  rw[q,y2]
  exact mkInt
def xq(ws:List Wv)(st:Hs):Re Wk:=match ws with
 | [.int j]=>if cP j then .ok (none,bo 0 j.toNat) st else .bad
 | _=> .bad
def A5(ws:List Wv)(st:Hs):Re Wk:=match ws with
 | [.int a,.int j]=>if cP a/\cP j then .ok (none,bo a (j - a).toNat) st else .bad
 | _=> .bad
def sG(g:GA):GI:=λρ st=>(g ρ st).bind xq
def E8(g:GA):GI:=λρ st=>(g ρ st).bind A5
theorem RH{tg a:Expr}{ga:GA}{p q:Pos}(hg:Gl X "range")(hm:X.mg "range"=none)(ha:JA X [a] ga)(hst:acK [a] X.env=[(false,eval a X.env)]):JI X tg (.Call (.Name "range" p) [a] [] q) (sG ga):=by
 refine⟨_,tE hg hm ku hst,λρ st σ H m Q S R p=>?_⟩
 refine ha.go S R (az.bind p) λws st1 vs m1 H1 p1 e1 S1 rs=>?_
 match ws,rs,p1 with
 | [],rs,p1=>exact aa p1
 | x::y::t,rs,p1=>cases x<;>exact aa p1
 | [x],rs,p1=>
  obtain⟨v,rfl,r1⟩:=kG rs
  cases x with
  | int j=>
   cases aS r1
   unfold xq at p1
   by_cases c:cP j
   ·simp only[if_pos c] at p1
    exact⟨j,rfl,c.1,c.2,p1 m1 H1 _ e1 S1 trivial zw⟩
   ·simp only[if_neg c] at p1;exact aa p1
  | _=>exact aa p1
theorem RI{tg a b:Expr}{ga:GA}{p q:Pos}(hg:Gl X "range")(hm:X.mg "range"=none)(ha:JA X [a,b] ga)(hst:acK [a,b] X.env=[(false,eval a X.env),(false,eval b X.env)])(Nd:acK [b] X.env=[(false,eval b X.env)]):JI X tg (.Call (.Name "range" p) [a,b] [] q) (E8 ga):=by
 refine⟨_,tF hg hm ku hst Nd,λρ st σ H m Q S R p=>?_⟩
 refine ha.go S R (az.bind p) λws st1 vs m1 H1 p1 e1 S1 rs=>?_
 match ws,rs,p1 with
 | [],rs,p1=>exact aa p1
 | [x],rs,p1=>cases x<;>exact aa p1
 | x::y::z::t,rs,p1=>cases x<;>cases y<;>exact aa p1
 | [x,y],rs,p1=>
  obtain⟨v,v',rfl,r1,r2⟩:=w9 rs
  cases x with
  | int a=>
   cases y with
   | int j=>
    cases aS r1;cases aS r2
    unfold A5 at p1
    by_cases c:cP a/\cP j
    ·simp only[if_pos c] at p1
     exact⟨a,j,rfl,⟨c.1.1,c.1.2,c.2.1,c.2.2⟩,p1 m1 H1 _ e1 S1 trivial zw⟩
    ·simp only[if_neg c] at p1;exact aa p1
   | _=>exact aa p1
  | _=>cases y<;>exact aa p1
def A6:GI:=λ_ _=> .bad
theorem E9{tg iter:Expr}:PI X tg iter (λ_ _ _=>False):=λ_ _ _ _ _ _ h=>h.elim
theorem zx{tg iter:Expr}:JI X tg iter A6:=⟨_,E9,λρ st σ H m Q S R p=>p⟩
def iq(cs:iK)(gt:GT)(ge:GE)(ρ:b9)(w:Wk)(st:Hs):Re Wv:=match kY (kZ w) (λv=>gt (some v::dX cs ρ)) (λv=>ge (some v::dX cs ρ)) st.length w.2 (st++[.lst []]) with
 | some A2=> .ok (.ref st.length) A2
 | none=> .bad
def eM(cs:iK)(gi:GI)(gt:GT)(ge:GE):GE:=λρ st=>(gi ρ st).bind λw st1=>iq cs gt ge ρ w st1
theorem Cv{st:Hs}{l:Nat}{ws:List Wv}{more:Hs}(h:ao st l=some ws):ao (st++more) l=some ws:=by
 unfold ao at h ⊢
 cases e:st[l]? with
 | none=>rw[e] at h;cases h
 | some o=>
  have hl:=(List.getElem?_eq_some_iff.mp e).1
  rw[fX hl,e]
  rw[e] at h
  exact h
theorem qZ{w:Wk}{st more:Hs}(h:kZ w st):kZ w (st++more):=by
 obtain⟨o,ws⟩:=w
 cases o with
 | none=>trivial
 | some l=>exact Cv h
theorem A7{scope:Scope}{x:Str}{cs:iK}{px pos:Pos}{elt iter:Expr}{ifs:List Expr}{gi:GI}{gt:GT}{ge:GE}{use:Option (acy->Sem Unit)}{Q:acy->acx->Prop}{P:Wv->Hs->Prop}
  {ρ:b9}{st:Hs}{σ:St}{H:Hp}{m:Mp}{pins:List (acr×Obj)}{s:acx}{ps:Pos}
  {Y:Cx->Prop}(fr:EY X)(CS:dj X scope x cs)(hc:Ql Y X)(hH:zp X)(hi:Qo Y X (.Name x px) iter gi)(hE:∀C s0 H0 fp pn E,Cr X.A H0->JE (ib X scope x cs C s0 H0 fp pn E) elt ge)(hT:∀C s0 H0 fp pn E,Cr X.A H0->Lk (ib X scope x cs C s0 H0 fp pn E) ifs gt)(hs:∀x,acG iter X.env x=pure x)
  (S:bG X.K m st H)(R:aA X.K m H ρ σ)(I:Inv X pins σ H s)(p:az X σ m H (eM cs gi gt ge ρ st) P)
  (fin:∀(w:Wv)(A2:Hs)(v:V)(D C:acr)(mm:Str->Option acy)(m':Mp)(H':Hp)(s':acx),P w A2->Ext X.K m H m' H'->bG X.K m' A2 H'->aj X.K m' H' w v->v= .ref D->Inv X pins σ H' s'->ij X pins H' C->s'.heap.Ns C mm->acE (model X.prog X.w) X.A X.xe use Q (.ref D) C (.ok .next) s') :
  acL (model X.prog X.w) X.A (comprehension (.ListComp elt [⟨.Name x px,iter,ifs,0⟩] scope pos) scope X.env ps (newList []) false (eval iter X.env) use) Q X.xe s:=by
 obtain⟨wi,Vq,hw⟩:=hi
 let R':It->Hp->Prop:=λJ' H1=>∃(w:Wk)(st1:Hs)(m1:Mp),az X σ m H (iq cs gt ge ρ w st1) P/\Ext X.K m H m1 H1/\bG X.K m1 st1 H1/\kZ w st1/\xp X w m1 H1 J'
 have hr:=hw ρ st σ H m R' S R ((az.bind p).imp Ext.refl λw st1 q m1 H1 J' e1 S1 c1 Cy=>⟨w,st1,m1,q,e1,S1,c1,Cy⟩)
 refine wpAny_comprehension_free (g:=⟨.Name x px,iter,ifs,0⟩) (gs:=[]) (cl:=vw X.env scope.names []) rfl hs (Jr (CS.has I.ok)) CS.kind (λy hy e=>by rw[CS.look y hy,e]) (bJ (Vq pins s σ H R' I hr) λv s1 h1=>bJ h1 λitv s2 h2=>?_)
 obtain⟨it,fp,tn,J',H1,rfl,I2,T,t0,f2,w,st1,m1,q,e1,S1,c1,Cy⟩:=h2
 unfold iq at q
 cases run:kY (kZ w) (λv=>gt (some v::dX cs ρ)) (λv=>ge (some v::dX cs ρ)) st1.length w.2 (st1++[.lst []]) with
 | none=>
  rw[run] at q
  exact aa q
 | some A2=>
  rw[run] at q
  refine zu (use:=use) (Q:=Q) fr CS hc hH I2 T t0 f2 S1 (R.mono e1) (qZ c1) (qX _ _ run) (by intro z;cases z) (λc' aan z=>by cases z) (λC s0 H0 pn E=>hE C s0 H0 fp pn E) (λC s0 H0 pn E=>hT C s0 H0 fp pn E) Cy.go Cy.stop Cy.yF ?_
  intro aao z D C mm m' H' s' e' S' TL I' fC ns _
  cases z
  exact fin _ A2 (.ref D) D C mm m' H' s' q (e1.trans e') S' (by unfold aj;exact⟨D,rfl,TL⟩) rfl I' fC ns
theorem vA{scope:Scope}{x:Str}{cs:iK}{px pos:Pos}{elt iter:Expr}{ifs:List Expr}{gi:GI}{gt:GT}{ge:GE}
  {Y:Cx->Prop}(fr:EY X)(CS:dj X scope x cs)(hc:Ql Y X)(hH:zp X)(hi:Qo Y X (.Name x px) iter gi)(hE:∀C s0 H0 fp pn E,Cr X.A H0->JE (ib X scope x cs C s0 H0 fp pn E) elt ge)(hT:∀C s0 H0 fp pn E,Cr X.A H0->Lk (ib X scope x cs C s0 H0 fp pn E) ifs gt)(hs:∀x,acG iter X.env x=pure x) :
  JE X (.ListComp elt [⟨.Name x px,iter,ifs,0⟩] scope pos) (eM cs gi gt ge):=λρ st σ H m Q S R p pins s I=>by
 rw[eval_ListComp]
 refine A7 (use:=none) fr CS hc hH hi hE hT hs S R I p ?_
 intro w A2 v D C mm m' H' s' q e' S' rw' ev I' fC ns
 exact⟨mm,ns,λh' same=>⟨.ref D,H',t_ I' fC same,rfl,ev ▸ q v m' H' e' S' rw'⟩⟩
theorem A8(i:Nat){scope:Scope}{x y:Str}{cs:iK}{px pos spos py:Pos}{elt iter:Expr}{ifs:List Expr}{gi:GI}{gt:GT}{ge:GE}(hN:X.N.Nodup)
  {Y:Cx->Prop}(fr:EY X)(CS:dj X scope x cs)(hc:Ql Y X)(hH:zp X)(hi:Qo Y X (.Name x px) iter gi)(hE:∀C s0 H0 fp pn E,Cr X.A H0->JE (ib X scope x cs C s0 H0 fp pn E) elt ge)(hT:∀C s0 H0 fp pn E,Cr X.A H0->Lk (ib X scope x cs C s0 H0 fp pn E) ifs gt)(hs:∀x,acG iter X.env x=pure x)
  (hx:X.N[i]? =some y)(hl:Loc X.env.scope y)(hf:X.fn y=true\/X.env.scope.names.lookup y=some .local) :
  JS X (.Assign [.Name y py] (.ListComp elt [⟨.Name x px,iter,ifs,0⟩] scope pos) spos) (a_ i (eM cs gi gt ge)):=by
 have sw:∃b,swapsWith (.ListComp elt [⟨.Name x px,iter,ifs,0⟩] scope pos) (some (.Name y py)) spos.line X.env=pure b:=⟨_,rfl⟩
 obtain⟨b,sw⟩:=sw
 cases b with
 | false=>exact zj i hN (vA fr CS hc hH hi hE hT hs) hx hl sw hf
 | true=>
  intro ρ st σ H m D S R p pins s I
  rw[exec_Assign_Name_used _ _ _ _ sw]
  refine acM (wpAny_standAt (acM ?_))
  show acL _ X.A (do let _ <-comprehension (.ListComp elt [⟨.Name x px,iter,ifs,0⟩] scope pos) scope X.env _ (newList []) false (eval iter X.env) (some (assign (.Name y py) X.env))) _ _ s
  refine acM (acP (A7 (use:=some (assign (.Name y py) X.env)) (Q:=λ_ s'=>SP X pins D .next s') fr CS hc hH hi hE hT hs S R I (aJ.di R p) ?_) (λ_ s' hq=>acR (acR hq)) λ_ _ e=>e)
  intro w A2 v D' C mm m' H' s' q e' S' rw' ev I' fC ns
  refine wpAny_assign_Name (tm (i:=i) I' hN hx hl (show RelV v (.ref D') by rw[ev];rfl) (λs2 I2 h2=>?_) hf)
  obtain⟨a,sb,ha⟩:=h2
  have hca:C≠a:=by
   rcases ha with z | z
   ·rw[z];exact fC.2.1
   ·exact bZ (fC.2.2.2.2.1 y a z)
  exact⟨mm,ns.sameBut sb hca,λh' same=>⟨_,_,t_ I2 fC same,q _ m' H' e' S' ((R.mono e').set i rw')⟩⟩
end
section
variable {X:Cx}
def Cz(n:Nat)(k:Int):Prop:=-(2 ^ 62)<=k/\k < 2 ^ 62/\n * k.toNat<=lim
instance {n k}:Decidable (Cz n k):=EC _
def q9:hX
 | .ref l,.int n,st=>match st[l]? with
  | some (.lst ws)=>if Cz ws.length n then .ok (.ref st.length) (st++[.lst (ar n.toNat ws).flatten]) else .bad
  | _=> .bad
 | x,y,st=>Li x y st
theorem oP{K:PySem.W.Frag}{m:Mp}{H:Hp}{ws:List Wv}{xs:List V}(r:ai K m H ws xs):∀n:Nat,ai K m H (ar n ws).flatten (ar n xs).flatten
 | 0=>ai.nil
 | n+1=>by
  rw[fk,jP,fk,jP]
  exact r.append (oP r n)
theorem Jw:kU X (acB .Mult) q9:=by
 obtain⟨r,h1,h2⟩:=Jj (X:=X)
 refine⟨_,fW.or MD h1,λx y a b st H m Q S rx ry p=>?_⟩
 unfold q9 at p
 split at p
 ·rename_i l n
  unfold aj at rx
  obtain⟨a1,rfl,hl⟩:=rx
  cases aS ry
  cases e:st[l]? with
  | none=>rw[e] at p;exact aa p
  | some o=>
   cases o with
   | dct kvs=>rw[e] at p;exact aa p
   | bX kvs=>rw[e] at p;exact aa p
   | nL kvs=>rw[e] at p;exact aa p
   | Cc kvs=>rw[e] at p;exact aa p
   | Ds kvs=>rw[e] at p;exact aa p
   | sv ns=>rw[e] at p;exact aa p
   | lst ws=>
    rw[e] at p
    dsimp only at p
    by_cases c:Cz ws.length n
    ·rw[if_pos c] at p
     obtain⟨xs,q1,q2⟩:=S.nM hl e
     refine .inl ⟨a1,n,xs,rfl,rfl,q1,by have:=c.1;omega,by have:=c.2.1;omega,by rw[<-q2.length];exact eI c.2.2,λq hq=>?_⟩
     exact jy p Ext.refl S (oP q2 n.toNat) q hq
    ·rw[if_neg c] at p;exact aa p
 ·exact .inr (h2 x y a b st H m Q S rx ry p)
def kD:List Wv->Option (List Bool)
 | []=>some []
 | .bl b::r=>(match kD r with | some l=>some (b::l) | none=>none)
 | _=>none
def zy:List Wv->Hs->Re Wv
 | [.ref l],st=>match ao st l with
  | some ws=>(match kD ws with | some bs=> .ok (.bl (bs.all id)) st | none=> .bad)
  | none=> .bad
 | _,_=> .bad
theorem ua{K:PySem.W.Frag}{m:Mp}{H:Hp}:∀{ws:List Wv}{xs:List V}{bs:List Bool},ai K m H ws xs->kD ws=some bs->xs=bs.map V.bl
 | [],xs,bs,r,h=>by
  unfold ai at r
  cases h
  exact r
 | w::ws,xs,bs,r,h=>by
  unfold ai at r
  obtain⟨x,t,rfl,r1,r2⟩:=r
  cases w with
  | bl b=>
   unfold kD at h
   cases e:kD ws with
   | none=>rw[e] at h;cases h
   | some l=>
    rw[e] at h
    cases h
    unfold aj at r1
    rw[r1,ua r2 e]
    rfl
  | _=>cases h
theorem A9:∀{bs:List Bool}{its:List acy},Vals (bs.map V.bl) its->its=bs.map pZ
 | [],its,r=>by cases r;rfl
 | b::bs,its,r=>by
  cases r with
  | cons h t=>
   cases h
   rw[ay,A9 t]
theorem all_range:∀(bs:List Bool),(ig bs.length).all (λi=>bs.getD i true)=bs.all id
 | []=>rfl
 | b::bs=>by
  rw[gD,vB,dh,E_,dh,<-all_range bs]
  rfl
theorem CA(hc:X.calm=true):cV X (.builtin "all") (λxs H Q=>∃(p:acr)(bs:List Bool),xs=[.ref p]/\mj X.K H p (bs.map V.bl)/\Q (.bl (bs.all id)) H):=by
 intro pins s σ H xs us Q I r h
 obtain⟨p,bs,rfl,hq,q⟩:=h
 obtain⟨u,rfl,rx⟩:=vals1 r
 cases rx
 obtain⟨its,r',pl,hz⟩:=I.list hq
 have hb:=A9 r'
 subst hb
 have hl:=pl.isList
 have hlt:p < s.heap.objs.size:=by obtain⟨_,e,_⟩:=hl;exact aC e
 refine call_all_walk (wpAny_pyIter_list hl ?_)
 refine⟨_,_,_,_,_,_,λi=>bs.getD i true,rfl,Walks.list (A:=X.A.in1) (I.ok.hd hc) _ p (bu hlt) (bs.map pZ).toArray,⟨⟨_,bz _ rfl,rfl,rfl⟩,hl.push _⟩,?_,λh' tk hk=>?_⟩
 ·intro i v s' Q' E' hP hQ
  have Nw:(bs.map pZ).toArray[i]? =some v:=hP
  rw[Jx,fg] at Nw
  cases e:bs[i]? with
  | none=>rw[e] at Nw;cases Nw
  | some b=>
   rw[e] at Nw
   cases Nw
   have:(bs.getD i true)=b:=by rw[mM,e];rfl
   dsimp only at hQ
   rw[this] at hQ
   exact acS hQ
 ·have hk':∀b o,s.heap.get? b=some o->h'.get? b=some o:=old_kept hk
  refine⟨.bl _,H,I.kept (t':=tk) hk',?_,q⟩
  rw[<-all_range bs]
  simp only[aM,aB]
  rfl
theorem Nx(hc:X.calm=true):eG X (.builtin "all") zy:=⟨_,CA hc,λws vs st H m Q S rs p=>by
 match ws,rs,p with
 | [],rs,p=>exact aa p
 | x::y::t,rs,p=>cases x<;>exact aa p
 | [x],rs,p=>
  obtain⟨v,rfl,r1⟩:=kG rs
  cases x with
  | ref l=>
   unfold zy at p
   unfold aj at r1
   obtain⟨a,rfl,hl⟩:=r1
   cases e:ao st l with
   | none=>simp only[e] at p;exact aa p
   | some ws=>
    simp only[e] at p
    cases e2:kD ws with
    | none=>simp only[e2] at p;exact aa p
    | some bs=>
     simp only[e2] at p
     obtain⟨xs,q1,q2⟩:=S.read hl e
     have q3:=ua q2 e2
     subst q3
     exact⟨a,bs,rfl,q1,p _ m H Ext.refl S jT⟩
  | _=>exact aa p⟩
def q_:List Wv->Hs->Re Wv
 | [.ref l],st=>match ao st l with
  | some ws=> .ok (.ref st.length) (st++[.lst ws])
  | none=> .bad
 | [.tup ws],st=> .ok (.ref st.length) (st++[.lst ws])
 | _,_=> .bad
theorem Jy:eG X (.type "list") q_:=⟨_,uZ,λws vs st H m Q S rs p=>by
 match ws,rs,p with
 | [],rs,p=>exact aa p
 | x::y::t,rs,p=>cases x<;>exact aa p
 | [x],rs,p=>
  obtain⟨v,rfl,r1⟩:=kG rs
  cases x with
  | ref l=>
   unfold q_ at p
   unfold aj at r1
   obtain⟨a,rfl,hl⟩:=r1
   cases e:ao st l with
   | none=>simp only[e] at p;exact aa p
   | some ws=>
    simp only[e] at p
    obtain⟨xs,q1,q2⟩:=S.read hl e
    exact⟨a,xs,rfl,.inl q1,λq hq=>jy p Ext.refl S q2 q hq⟩
  | tup ws=>
   unfold aj at r1
   obtain⟨a,xs,rfl,q1,q2⟩:=r1
   exact⟨a,xs,rfl,.inr (fV.of q1),λq hq=>jy p Ext.refl S q2 q hq⟩
  | _=>exact aa p⟩
def mB:List Wv->Hs->Re Wv
 | [.ref l],st=>match ao st l with
  | some ws=> .ok (.tup ws) st
  | none=> .bad
 | [.tup ws],st=> .ok (.tup ws) st
 | _,_=> .bad
theorem Ny:eG X (.type "tuple") mB:=⟨_,sC,λws vs st H m Q S rs p=>by
 match ws,rs,p with
 | [],rs,p=>exact aa p
 | x::y::t,rs,p=>cases x<;>exact aa p
 | [x],rs,p=>
  obtain⟨v,rfl,r1⟩:=kG rs
  cases x with
  | ref l=>
   unfold mB at p
   unfold aj at r1
   obtain⟨a,rfl,hl⟩:=r1
   cases e:ao st l with
   | none=>simp only[e] at p;exact aa p
   | some ws=>
    simp only[e] at p
    obtain⟨xs,q1,q2⟩:=S.read hl e
    refine⟨a,xs,rfl,.inl ⟨q1,λq hq=>?_⟩⟩
    have e2:Ext X.K m H m (upd H q (.tup xs)):=Ext.upd (.inl hq)
    exact p (.ref q) m _ e2 (S.fresh hq) (by unfold aj;exact⟨q,xs,rfl,aH,ai.mono e2 _ _ q2⟩)
  | tup ws=>
   have r1':=r1
   unfold aj at r1'
   obtain⟨a,xs,rfl,q1,q2⟩:=r1'
   exact⟨a,xs,rfl,.inr ⟨fV.of q1,p _ m H Ext.refl S r1⟩⟩
  | _=>exact aa p⟩
end
end J
namespace JL
open PySem PyProof.Rows
def Ik(p:acT):Prop:=∃n t,p.1=lF n t
def kn(p:acT):Int:=numOf p.1
section
variable {prog:acw} {w:acz} {A:acs} {E:acy->acx->Prop} {s:acx}
def gp(left:Bool)(key:acT)(arr:Array acT)(base i:Nat):Bool:=if left then decide (K arr (base+i) < kn key) else !decide (kn key < K arr (base+i))
end
section
variable {α:Type} {f:α->Int} {A B:List α}
end
section
variable {prog:acw} {w:acz} {A:acs} {E:acy->acx->Prop} {s:acx}
end
section
variable {α:Type} {f:α->Int} {A B:List α}
theorem drop_take{i n:Nat}(h:i<=n):A.drop i=(A.take n).drop i++A.drop n:=by
 have h1:=Jz n A
 have h2:=congrArg (List.drop i) h1
 rw[List.drop_append] at h2
 rw[<-h2]
 by_cases c:n<=A.length
 ·rw[dt,Nat.min_eq_left c,A_ h,EZ]
 ·rw[Fb (show A.length<=n by exact Nat.le_of_not_le ‹_›),List.drop_nil]
end
theorem vC{a:Array acT}(i n:Nat):(a.extract i n).toList=(a.toList.take n).drop i:=by
 rw[RJ,Nz,List.drop_take]
section
variable {prog:acw} {w:acz} {A:acs} {E:acy->acx->Prop} {s:acx}
end
section
variable {prog:acw} {w:acz} {A₀:acs} {E:acy->acx->Prop} {s:acx}
end
section
variable {prog:acw} {w:acz} {A:acs} {E:acy->acx->Prop} {s:acx} {P:Array (Nat×Nat×Nat)} {g:Nat}
end
section
variable {prog:acw} {w:acz} {A:acs} {E:acy->acx->Prop} {s:acx} {P:Array (Nat×Nat×Nat)} {g:Nat}
end
section
variable {prog:acw} {w:acz} {A₀:acs} {E:acy->acx->Prop} {s:acx}
end
section
variable {prog:acw} {w:acz} {A₀:acs} {E:acy->acx->Prop} {s:acx}
end
section
variable {prog:acw} {w:acz} {A:acs} {E:acy->acx->Prop} {s:acx}
end
end JL
namespace J
open PySem PySem.Spec PyProof.Rows L2
section
variable {X:Cx}
def intsOf:List Wv->Option (List Int)
  | []=>some []
  | .int b::r=>(match intsOf r with | some l=>some (b::l) | none=>none)
  | _=>none
theorem rf:∀ns:List Int,intsOf (ns.map Wv.int)=some ns
  | []=>rfl
  | n::r=>by rw[ay];unfold intsOf;rw[rf r]
theorem rh{K:PySem.W.Frag}{m:Mp}{H:Hp}:∀{ws:List Wv}{xs:List V}{bs:List Int},ai K m H ws xs->intsOf ws=some bs->xs=bs.map V.int
  | [],xs,bs,r,h=>by
    unfold ai at r
    cases h
    exact r
  | w::ws,xs,bs,r,h=>by
    unfold ai at r
    obtain⟨x,t,rfl,r1,r2⟩:=r
    cases w with
    | int b=>
      unfold intsOf at h
      cases e:intsOf ws with
      | none=>rw[e] at h;cases h
      | some l=>
        rw[e] at h
        cases h
        unfold aj at r1
        rw[r1,rh r2 e]
        rfl
    | _=>cases h
theorem xt:∀{ns:List Int}{its:List acy},Vals (ns.map V.int) its->∃xs:List (Int×Tok),its=xs.map (λp=>lF p.1 p.2)/\xs.map (·.1)=ns
  | [],its,r=>by cases r;exact⟨[],rfl,rfl⟩
  | n::ns,its,r=>by
    cases r with
    | cons h t=>
      obtain⟨tk,rfl⟩:=h
      obtain⟨xs,e1,e2⟩:=xt t
      exact⟨(n,tk)::xs,by rw[e1];rfl,by rw[<-e2];rfl⟩
theorem CB(xs:List (Int×Tok))(i:Nat):numAt xs.toArray i=(xs.map (·.1)).getD i 0:=by
  unfold numAt
  rw[Jx,mM,fg]
theorem rj(xs:List (Int×Tok)):∀k,preSum (numAt xs.toArray) k=((xs.map (·.1)).take k).sum
  | 0=>by simp[preSum]
  | k+1=>by
    unfold preSum
    rw[rj xs k,CB]
    rw[PySem.sum_take_succ]
theorem CC(hc:X.calm=true):cV X (.builtin "sum") (λxs H Q=>∃(p:acr)(ns:List Int),xs=[.ref p]/\mj X.K H p (ns.map V.int)/\Q (.int ns.sum) H):=by
  intro pins s σ H xs us Q I r h
  obtain⟨p,ns,rfl,hq,q⟩:=h
  obtain⟨u,rfl,rx⟩:=vals1 r
  cases rx
  obtain⟨its,r',pl,hz⟩:=I.list hq
  obtain⟨xs,rfl,rfl⟩:=xt r'
  have hl:=pl.isList
  have e:(xs.map λp=>lF p.1 p.2).toArray=intItems xs.toArray:=by unfold intItems;simp
  rw[e] at hl
  refine sum_intListG (I.ok.hd hc) hl λh' tk t' hk=>⟨.int _,H,I.kept hk,⟨t',?_⟩,q⟩
  rw[rj,JB (by simp)]
def zE:List Wv->Hs->Re Wv
  | [.ref l],st=>match ao st l with
    | some ws=>(match intsOf ws with | some ns=> .ok (.int ns.sum) st | none=> .bad)
    | none=> .bad
  | _,_=> .bad
theorem NA(hc:X.calm=true):eG X (.builtin "sum") zE:=⟨_,CC hc,λws vs st H m Q S rs p=>by
  match ws,rs,p with
  | [],rs,p=>exact aa p
  | x::y::t,rs,p=>cases x<;>exact aa p
  | [x],rs,p=>
    obtain⟨v,rfl,r1⟩:=kG rs
    cases x with
    | ref l=>
      unfold zE at p
      unfold aj at r1
      obtain⟨a,rfl,hl⟩:=r1
      cases e:ao st l with
      | none=>simp only[e] at p;exact aa p
      | some ws=>
        simp only[e] at p
        cases e2:intsOf ws with
        | none=>simp only[e2] at p;exact aa p
        | some bs=>
          simp only[e2] at p
          obtain⟨xs,q1,q2⟩:=S.read hl e
          have q3:=rh q2 e2
          subst q3
          exact⟨a,bs,rfl,q1,p _ m H Ext.refl S mkInt⟩
    | _=>exact aa p⟩
def mxI(n:Int)(r:List Int):Int:=r.foldl (λa b=>if b > a then b else a) n
def RK:List Wv->Hs->Re Wv
  | [.ref l],st=>match ao st l with
    | some ws=>(match intsOf ws with | some (n::r)=> .ok (.int (mxI n r)) st | _=> .bad)
    | none=> .bad
  | ws,st=>Vc ws st
def RL:List Wv->Hs->Re Wv:=λws st=>Vd ws st
end
section
variable {X:Cx}
theorem ub{z:PySem.Str}:aZ z=true↔∀c∈z.cps.toList,c < 1114112:=by
 unfold aZ
 rw[Le]
 constructor
 ·intro h c hc
  simpa using h c (Array.mem_toList_iff.mp hc)
 ·intro h c hc
  simpa using h c (Array.mem_toList_iff.mpr hc)
end
section
variable {X:Cx}
theorem NB:HB X (λx lo hi H Q=>∃z,x= .str z/\z.length<=acJ/\Q (.str (lS z lo hi)) H):=by
 intro pins s σ H x v vl vu lo hi sl Q I rx hs pl pu h
 obtain⟨z,rfl,hz,q⟩:=h
 obtain⟨t,rfl⟩:=rx
 have fin:∀t' k,EP X pins σ Q (.str (lS z lo hi) t') { s with toks:=k }:=λt' k=>⟨.str _,H,I.tok k,⟨t',rfl⟩,q⟩
 refine⟨"str",_,PySem.F.slot_str_getitem.lookup,typeIs_str _ _ _,?_⟩
 have hl:=bg (Txt.slice_le z lo hi) hz
 cases pl with
 | none=>
  cases pu with
  | none=>exact wpAny_getItem_str_slice (l:=none) (u:=none) (st:=none) hs rfl (post_val_or_str ⟨hl,fin⟩)
  | int j tj=>exact wpAny_getItem_str_slice (l:=none) (u:=some (j,tj)) (st:=none) hs rfl (post_val_or_str ⟨hl,fin⟩)
 | int i ti=>
  cases pu with
  | none=>exact wpAny_getItem_str_slice (l:=some (i,ti)) (u:=none) (st:=none) hs rfl (post_val_or_str ⟨hl,fin⟩)
  | int j tj=>exact wpAny_getItem_str_slice (l:=some (i,ti)) (u:=some (j,tj)) (st:=none) hs rfl (post_val_or_str ⟨hl,fin⟩)
theorem CD{z:PySem.Str}{lo hi:Option Int}{c:Nat}(h:c∈(lS z lo hi).cps.toList):c∈z.cps.toList:=by
 unfold lS at h
 split at h
 ·exact h
 ·simp only[List.mem_filterMap] at h
  obtain⟨i,_,e⟩:=h
  rw[Array.getElem?_eq_some_iff] at e
  obtain⟨hi,rfl⟩:=e
  exact Array.mem_toList_iff.mpr (Array.getElem_mem hi)
theorem xu{z:PySem.Str}{lo hi:Option Int}(h:aZ z=true):aZ (lS z lo hi)=true:=by
 rw[ub] at h ⊢
 exact λc hc=>h c (CD hc)
end
section
open HT
theorem sH{prog:acw}{w:acz}{A:acs}{E:acy->acx->Prop}{s:acx}{t sl:acr}{us:Array acy}{vl vu:acy}{lo hi:Option Int}{Q:acy->acx->Prop}(ht:IsTup s.heap t us)(hs:s.heap.IsSliceOf sl vl vu .none)(pl:IsPart vl lo)(pu:IsPart vu hi)
  (hw:dD us.size 0 lo=0/\dD us.size us.size hi=us.size)(h:Q (.ref t) s):acL (model prog w) A (getItem (.ref t) (.ref sl)) Q E s:=by
 obtain⟨os,o1,o2,o3⟩:=id hs
 have tys:s.TypeIs (.ref sl) "slice":=⟨os,o1,o2⟩
 unfold getItem;try with_reducible refine acO ?_
 first | refine acM (acR ?_) | skip
 refine acM (wpAny_sequenceKey ht.typeIs (by decide) ?_);refine acM (wpAny_callSpecial?_slot (name:=fh "__getitem__") ht.typeIs uT (wpAny_call_entry uT ht.typeIs entry_tuple_getitem ?_ (args_tuple_getitem _ _)))
 show acL _ _ (yK (.ref t) >>= _) _ _ _;refine acM (tupleItemsOf_ ht ?_);refine acM (wpAny_typeOf tys ?_)
 rw[if_pos (by decide)];refine acM (jv hs pl pu ?_)
 rw[hw.1,hw.2]
 have yes:((((0:Nat):Int)) == 0&&(1:Int) == 1&&(us.size - 0) == us.size)=true:=by simp
 show acL _ _ (if((((0:Nat):Int)) == 0&&(1:Int) == 1&&(us.size - 0) == us.size)=true then _ else _) _ _ s
 rw[if_pos yes]
 refine acM (m:=NC _) ?_
 unfold NC
 refine acM (wpAny_typeOf ht.typeIs (acR ?_))
 rw[if_pos (by decide)]
 exact acM (wpAny_rule (acR ⟨_,rfl,acR h⟩))
end
section
variable {X:Cx}
def Vr(K:PySem.W.Frag):V->Option Int->Option Int->Hp->VK->Prop:=λx lo hi H Q=>∃a xs,x= .ref a/\fV K H a xs/\(HT.dD xs.length 0 lo=0/\HT.dD xs.length xs.length hi=xs.length)/\Q (.ref a) H
theorem Fc:HB X (Vr X.K):=by
 intro pins s σ H x v vl vu lo hi sl Q I rx hs pl pu h
 obtain⟨a,xs,rfl,hx,hw,q⟩:=h
 cases rx
 obtain⟨its,r,ht,hz⟩:=I.tuple hx
 have n:its.toArray.size=xs.length:=by rw[aM];exact r.length.symm
 exact⟨"tuple",_,PyProof.Rows.slot_tuple_getitem.lookup,ht.typeIs,sH ht hs pl pu (by rw[n];exact hw) ⟨.ref a,H,I,rfl,q⟩⟩
def rl(n:Nat)(lo hi:Option Int):Prop:=HT.dD n 0 lo=0/\HT.dD n n hi=n
instance {n:Nat}{lo hi:Option Int}:Decidable (rl n lo hi):=inferInstanceAs (Decidable (HT.dD n 0 lo=0/\HT.dD n n hi=n))
def sI(x:Wv)(lo hi:Option Int)(st:Hs):Re Wv:=match x with
 | .str z=>if z.length<=lim then .ok (.str (lS z lo hi)) st else .bad
 | .tup ws=>if rl ws.length lo hi then .ok (.tup ws) st else Qj (.tup ws) lo hi st
 | x=>Qj x lo hi st
def dY(ga:GE)(gl gh:GO):GE:=λρ st=>(ga ρ st).bind λx st1=>(gl ρ st1).bind λlo st2=>(gh ρ st2).bind λhi st3=>sI x lo hi st3
theorem CF{a:Expr}{lo hi:Option Expr}{ga:GE}{gl gh:GO}{pos p2:Pos}(ha:JE X a ga)(hl:JO X lo gl)(hh:JO X hi gh):JE X (.Subscript a (.Slice lo hi none p2) pos) (dY ga gl gh):=by
 have hS:JE X (.Subscript a (.Slice lo hi none p2) pos) (λρ st=>(ga ρ st).bind λx st1=>(gl ρ st1).bind λlo st2=>(gh ρ st2).bind λhi st3=>match x with | .str z=>if z.length<=lim then .ok (.str (lS z lo hi)) st3 else .bad | _=> .bad):=by
  refine JE.of (qE NB aY tU tU) λρ st σ H m Q S R p=>?_
  refine ha.go S R (az.bind p) λx st1 v m1 H1 p1 e1 S1 rx=>?_
  refine hl.go S1 (R.mono e1) ((az.bind p1).imp e1 λ_ _ q=>q) λl st2 m2 H2 p2 e2 S2=>?_
  refine hh.go S2 (R.mono (e1.trans e2)) ((az.bind p2).imp (e1.trans e2) λ_ _ q=>q) λh st3 m3 H3 p3 e3 S3=>?_
  have Ce:=e1.trans (e2.trans e3)
  cases x with
  | str z=>
   dsimp only at p3
   by_cases c:z.length<=lim
   ·rw[if_pos c] at p3
    unfold aj at rx
    obtain⟨rfl,hz⟩:=rx
    exact⟨z,rfl,eI c,p3 _ m3 H3 Ce S3 (mkStr (xu hz))⟩
   ·rw[if_neg c] at p3;exact aa p3
  | _=>exact aa p3
 have hW:JE X (.Subscript a (.Slice lo hi none p2) pos) (λρ st=>(ga ρ st).bind λx st1=>(gl ρ st1).bind λlo st2=>(gh ρ st2).bind λhi st3=>match x with | .tup ws=>if rl ws.length lo hi then .ok (.tup ws) st3 else Qj (.tup ws) lo hi st3 | _=> .bad):=by
  refine JE.of (qE (HB.or Fc DV) aY tU tU) λρ st σ H m Q S R p=>?_
  refine ha.go S R (az.bind p) λx st1 v m1 H1 p1 e1 S1 rx=>?_
  refine hl.go S1 (R.mono e1) ((az.bind p1).imp e1 λ_ _ q=>q) λl st2 m2 H2 p2 e2 S2=>?_
  refine hh.go S2 (R.mono (e1.trans e2)) ((az.bind p2).imp (e1.trans e2) λ_ _ q=>q) λh st3 m3 H3 p3 e3 S3=>?_
  have Ce:=e1.trans (e2.trans e3)
  cases x with
  | tup ws=>
   dsimp only at p3
   have pK:=aj.mono (e2.trans e3) _ _ rx
   unfold aj at pK
   obtain⟨a',xs,rfl,f1,f2⟩:=pK
   by_cases c:rl ws.length l h
   ·rw[if_pos c] at p3
    unfold rl at c
    rw[f2.length] at c
    exact .inl ⟨a',xs,rfl,fV.of f1,c,p3 _ m3 H3 Ce S3 (by unfold aj;exact⟨a',xs,rfl,f1,f2⟩)⟩
   ·rw[if_neg c] at p3
    unfold Qj at p3
    dsimp only at p3
    unfold rl at c
    rw[if_neg c] at p3
    rw[f2.length] at c
    refine .inr ⟨a',xs,rfl,fV.of f1,c,λq hq=>?_⟩
    have eU:Ext X.K m3 H3 m3 (L2.upd H3 q (.tup (sy xs l h))):=Ext.jw (.inl hq)
    exact p3 (.ref q) m3 _ (Ce.trans eU) (S3.fresh hq) (by unfold aj;exact⟨q,_,rfl,L2.aH,ai.mono eU _ _ (vn f2)⟩)
  | _=>exact aa p3
 intro ρ st σ H m Q S R p
 unfold dY at p
 cases e1:ga ρ st with
 | bad=>rw[e1] at p;exact aa p
 | err c st1=>rw[e1] at p;exact w8 ha hl hh ρ st σ H m Q S R (by unfold zi;rw[e1];exact p)
 | ok x st1=>
  rw[e1] at p
  cases x with
  | str z=>exact hS ρ st σ H m Q S R (by dsimp only;rw[e1];exact p)
  | tup ws=>exact hW ρ st σ H m Q S R (by dsimp only;rw[e1];exact p)
  | _=>exact w8 ha hl hh ρ st σ H m Q S R (by unfold zi;rw[e1];exact p)
def ND:hX
 | .str i,.str j,st=> .ok (.bl (!(Ml j i 0 j.length 1).isEmpty)) st
 | x,y,st=>U5 x y st
theorem NF:kU X (acF .In) ND:=by
 obtain⟨r,h1,h2⟩:=Rt (X:=X)
 refine⟨_,fW.or B5 h1,λx y a b st H m Q S rx ry p=>?_⟩
 unfold ND at p
 split at p
 ·rename_i i j
  unfold aj at rx ry
  obtain⟨rfl,_⟩:=rx
  obtain⟨rfl,_⟩:=ry
  exact .inl ⟨i,j,rfl,rfl,p _ m H Ext.refl S jT⟩
 ·exact .inr (h2 x y a b st H m Q S rx ry p)
end
open PySem PySem.Spec PyProof.Rows L2 PySem.W
section
variable {X:Cx}
end
section
variable {X:Cx}
end
section
variable {X:Cx}
end
def RM(x:Str):It:=⟨λi _=>i < x.cps.size,λi H v H'=>H'=H/\∃c,x.cps[i]? =some c/\v= .str ⟨#[c]⟩,λi _=>x.cps.size<=i⟩
theorem zF{P:acw}{w:acz}{K:PySem.W.Frag}{tg:Expr}(x:Str)(t:Tok)(it:acr):Turn P w K tg (RM x) [it] it (λi h=>h.IsStrIter it "str_ascii_iterator" x t i) where
 mem:=List.mem_singleton.mpr rfl
 obj:=λi h st b hb=>by
  cases List.mem_singleton.mp hb
  obtain⟨o,e,c,d⟩:=st
  exact⟨o,e,λv z=>by rw[d] at z;cases z⟩
 keep:=λi h h' st k=>let ⟨o,e,r⟩:=st;⟨o,k it (List.mem_singleton.mpr rfl) o e,r⟩
 item:=by
  intro X hP hw hK hc i pins s σ H E I hf st hg
  subst hP;subst hw;subst hK
  obtain⟨f0,f1,f2,f3,f4,f5⟩:=hf it (List.mem_singleton.mpr rfl)
  have hi:i < x.cps.size:=hg
  refine wpAny_pyNext_ascii_item st (c:=x.cps[i]) (by simp[hi]) λh' st' sb=>?_
  have I1:L2.Inv X pins σ H { s with heap:=h',toks:=s.toks+1 }:=I.turned (t':=s.toks+1) (λb o hb e=>sb.extBut b o hb e) f0 f1 f3 f4 f5
  obtain⟨o,e,c,d⟩:=id st'
  exact⟨_,rfl,tq (s:={ s with heap:=h',toks:=s.toks+1 }) e c d (by decide) ⟨.str ⟨#[x.cps[i]]⟩,H,I1,⟨_,rfl⟩,⟨rfl,_,by simp[hi],rfl⟩,st',λb hb=>(hf b hb).1⟩⟩
 done:=by
  intro X hP hw hK hc i pins s σ H E I hf st hg
  subst hP;subst hw;subst hK
  obtain⟨f0,f1,f2,f3,f4,f5⟩:=hf it (List.mem_singleton.mpr rfl)
  have hi:x.cps.size<=i:=hg
  exact wpAny_pyNext_ascii_end (I.ok.hd hc) st (by simp[hi]) λh' eb=>⟨rfl,I.turned (t':=s.toks) (λb o hb e=>eb b o hb e) f0 f1 f3 f4 f5⟩
 self:=λ_ _ _ _ _ st h=>wpAny_pyIter_striter_ascii st h
theorem CG{P:acw}{w:acz}{K:PySem.W.Frag}{tg:Expr}(x:Str)(t:Tok)(it:acr):Turn P w K tg (RM x) [it] it (λi h=>h.IsStrIter it "str_iterator" x t i) where
 mem:=List.mem_singleton.mpr rfl
 obj:=λi h st b hb=>by
  cases List.mem_singleton.mp hb
  obtain⟨o,e,c,d⟩:=st
  exact⟨o,e,λv z=>by rw[d] at z;cases z⟩
 keep:=λi h h' st k=>let ⟨o,e,r⟩:=st;⟨o,k it (List.mem_singleton.mpr rfl) o e,r⟩
 item:=by
  intro X hP hw hK hc i pins s σ H E I hf st hg
  subst hP;subst hw;subst hK
  obtain⟨f0,f1,f2,f3,f4,f5⟩:=hf it (List.mem_singleton.mpr rfl)
  have hi:i < x.cps.size:=hg
  refine wpAny_pyNext_wide_item st (c:=x.cps[i]) (by simp[hi]) λh' st' sb=>?_
  have I1:L2.Inv X pins σ H { s with heap:=h',toks:=s.toks+1 }:=I.turned (t':=s.toks+1) (λb o hb e=>sb.extBut b o hb e) f0 f1 f3 f4 f5
  obtain⟨o,e,c,d⟩:=id st'
  exact⟨_,rfl,tq (s:={ s with heap:=h',toks:=s.toks+1 }) e c d (by decide) ⟨.str ⟨#[x.cps[i]]⟩,H,I1,⟨_,rfl⟩,⟨rfl,_,by simp[hi],rfl⟩,st',λb hb=>(hf b hb).1⟩⟩
 done:=by
  intro X hP hw hK hc i pins s σ H E I hf st hg
  subst hP;subst hw;subst hK
  obtain⟨f0,f1,f2,f3,f4,f5⟩:=hf it (List.mem_singleton.mpr rfl)
  have hi:x.cps.size<=i:=hg
  exact wpAny_pyNext_wide_end (I.ok.hd hc) st (by simp[hi]) λh' eb=>⟨rfl,I.turned (t':=s.toks) (λb o hb e=>eb b o hb e) f0 f1 f3 f4 f5⟩
 self:=λ_ _ _ _ _ st h=>wpAny_pyIter_striter_wide st h
section
variable {X:Cx}
theorem NG{tg l:Expr}{tl:TE}(hl:PE X l tl):PI X tg l (λσ H R=>tl σ H λv H1=>∃z,v= .str z/\R (RM z) H1):=by
 intro pins s σ H R I h
 refine bJ (hl pins s σ H _ I h) λv s1 ⟨x,H1,I1,r1,z,e,q⟩=>?_
 subst e
 obtain⟨t,rfl⟩:=r1
 have frs:∀b∈[s1.heap.objs.size],ij X pins H1 b:=λb hb=>by
  cases List.mem_singleton.mp hb
  exact I1.yO (au _) (I1.hok.fresh (au _))
 cases ha:z.cps.all (· < 128)
 ·exact wpAny_pyIter_wide ha ⟨s1.heap.objs.size,[s1.heap.objs.size],_,_,H1,rfl,I1.kept (t':=s1.toks) λb o e=>aL _ e,CG z t _,⟨_,bz _ rfl,rfl,rfl⟩,frs,q⟩
 ·exact wpAny_pyIter_ascii ha ⟨s1.heap.objs.size,[s1.heap.objs.size],_,_,H1,rfl,I1.kept (t':=s1.toks) λb o e=>aL _ e,zF z t _,⟨_,bz _ rfl,rfl,rfl⟩,frs,q⟩
def eK(z:PySem.Str):List Wv:=z.cps.toList.map λc=>Wv.str ⟨#[c]⟩
def xv(w:Wv)(st:Hs):Re Wk:=match w with
 | .str z=> .ok (none,eK z) st
 | w=>Nu w st
def ft(g:GE):GI:=λρ st=>(g ρ st).bind xv
theorem NH{z:PySem.Str}{m1:Mp}{H1:Hp}(hz:aZ z=true):xp X (none,eK z) m1 H1 (RM z) where
 go:=λk H m' st _ _ _ hk=>by
  have:k < z.cps.size:=by simpa [eK] using hk
  exact this
 stop:=λk H m' st _ _ _ hk=>by
  have:k=z.cps.size:=by simpa [eK] using hk
  exact p_ this.symm
 yF:=λk hk H v H' m' st _ _ _ y=>by
  obtain⟨rfl,c,hc,rfl⟩:=y
  refine⟨rfl,?_⟩
  have hk':k < z.cps.size:=by simpa [eK] using hk
  have e:∀h:k < (eK z).length,(eK z)[k]'h= .str ⟨#[z.cps[k]]⟩:=by intro h;simp[eK]
  have hc':z.cps[k]=c:=by simpa [hk'] using hc
  show aj X.K m' H' ((eK z)[k]'hk) _
  rw[e hk,hc']
  refine mkStr ?_
  rw[ub] at hz ⊢
  intro d hd
  simp at hd
  rw[hd,<-hc']
  exact hz _ (by simp)
theorem vD{tg iter:Expr}{g:GE}(h:JE X iter g):JI X tg iter (ft g):=by
 obtain⟨w1,h1,k1⟩:=Nv (tg:=tg) h
 refine⟨λσ H R=>w1 σ H R\/(SE X iter σ H λv H1=>∃z,v= .str z/\R (RM z) H1),λpins s σ H R I q=>?_,λρ st σ H m R S RR p=>?_⟩
 ·rcases q with q | q
  ·exact h1 pins s σ H R I q
  ·exact NG aY pins s σ H R I q
 ·unfold ft at p
  cases e:g ρ st with
  | bad=>rw[e] at p;exact aa p
  | err c st'=>rw[e] at p;exact .inl (k1 ρ st σ H m R S RR (by unfold E6;rw[e];exact p))
  | ok w st'=>
   rw[e] at p
   cases w with
   | str z=>
    refine .inr ?_
    refine h.go (ok:=λw st1=>w= .str z/\st1=st') S RR (by rw[e];exact⟨rfl,rfl⟩) λw st1 v m1 H1 q e1 S1 r1=>?_
    obtain⟨rfl,rfl⟩:=q
    unfold aj at r1
    obtain⟨rfl,hz⟩:=r1
    exact⟨z,rfl,p m1 H1 _ e1 S1 trivial (NH hz)⟩
   | _=>exact .inl (k1 ρ st σ H m R S RR (by unfold E6;rw[e];exact p))
def nZ:List Wv->Hs->Re Wv:=λws st=>RF ws st
theorem JC:eG X (.type "int") nZ:=Np
end
section
variable {X:Cx}
end
def keyOf:Wv->Option L2.Key
 | .int i=>some (.inl i)
 | .str x=>some (.inr x)
 | .aI=>some .aI
 | _=>none
theorem ud{K:PySem.W.Frag}{m:Mp}{H:Hp}{w:Wv}{v:V}{k:L2.Key}(r:aj K m H w v)(e:keyOf w=some k):v=kV k:=by
 cases w with
 | int i=>cases e;unfold aj at r;rw[r];rfl
 | str x=>cases e;unfold aj at r;rw[r.1];rfl
 | aI=>cases e;unfold aj at r;rw[r];rfl
 | _=>cases e
def bS{κ:Type}[DecidableEq κ](kvs:List (κ×Wv))(k:κ):Option Wv:=match kvs with
 | []=>none
 | p::r=>if p.1=k then some p.2 else bS r k
def gT{κ:Type}[DecidableEq κ](kvs:List (κ×Wv))(k:κ)(v:Wv):List (κ×Wv):=if(kvs.any λkv=>decide (kv.1=k))=true then kvs.map (λkv=>if kv.1=k then(kv.1,v) else kv) else kvs++[(k,v)]
section
variable {K:PySem.W.Frag} {m:Mp} {H:Hp} {κ:Type}
theorem RelK.nil:RelK (κ:=κ) K m H [] []:=⟨rfl,ai.nil⟩
theorem RelK.cons{k:κ}{w:Wv}{v:V}{kvs:List (κ×Wv)}{xs:List (κ×V)}(h:aj K m H w v)(t:RelK K m H kvs xs):RelK K m H ((k,w)::kvs) ((k,v)::xs) :=
 ⟨by simp[t.1],by simpa using ai.cons h t.2⟩
theorem RelK.nil_inv{xs:List (κ×V)}(h:RelK K m H [] xs):xs=[]:=by
 have:=h.1
 cases xs with
 | nil=>rfl
 | cons a b=>simp at this
theorem RelK.cons_inv{p:κ×Wv}{kvs:List (κ×Wv)}{xs:List (κ×V)}(h:RelK K m H (p::kvs) xs):∃v t,xs=(p.1,v)::t/\aj K m H p.2 v/\RelK K m H kvs t:=by
 obtain⟨h1,h2⟩:=h
 cases xs with
 | nil=>simp at h1
 | cons q t=>
  simp at h1 h2
  unfold ai at h2
  obtain⟨x,r,e1,e2,e3⟩:=h2
  cases e1
  exact⟨q.2,t,by rw[h1.1],e2,h1.2,e3⟩
theorem RelK.length{kvs:List (κ×Wv)}{xs:List (κ×V)}(h:RelK K m H kvs xs):kvs.length=xs.length:=by
 have:=congrArg dq h.1
 simpa using this
variable [DecidableEq κ]
theorem RelK.val:∀{kvs:List (κ×Wv)}{xs:List (κ×V)}(k:κ),RelK K m H kvs xs->(bS kvs k=none->qJ xs k=none)/\∀w,bS kvs k=some w->∃v,qJ xs k=some v/\aj K m H w v
 | [],xs,k,h=>by
  rw[h.nil_inv]
  exact⟨λ_=>rfl,(λw e=>by cases e)⟩
 | p::r,xs,k,h=>by
  obtain⟨v,t,rfl,h1,h2⟩:=h.cons_inv
  obtain⟨i1,i2⟩:=RelK.val k h2
  unfold bS
  by_cases e:p.1=k
  ·rw[if_pos e,qK (by exact e)]
   exact⟨(λz=>by cases z),λw z=>⟨v,rfl,by cases z;exact h1⟩⟩
  ·rw[if_neg e,qL (by exact e)]
   exact⟨i1,i2⟩
theorem RelK.any:∀{kvs:List (κ×Wv)}{xs:List (κ×V)}(k:κ),RelK K m H kvs xs->(kvs.any λkv=>decide (kv.1=k))=xs.any λkv=>decide (kv.1=k)
 | [],xs,k,h=>by rw[h.nil_inv];rfl
 | p::r,xs,k,h=>by
  obtain⟨v,t,rfl,h1,h2⟩:=h.cons_inv
  rw[fY,fY,RelK.any k h2]
theorem RelK.repl:∀{kvs:List (κ×Wv)}{xs:List (κ×V)}(k:κ){w:Wv}{v:V},RelK K m H kvs xs->aj K m H w v->RelK K m H (kvs.map λkv=>if kv.1=k then(kv.1,w) else kv) (xs.map λkv=>if kv.1=k then(kv.1,v) else kv)
 | [],xs,k,w,v,h,r=>by rw[h.nil_inv];exact RelK.nil
 | p::kvs,xs,k,w,v,h,r=>by
  obtain⟨u,t,rfl,h1,h2⟩:=h.cons_inv
  rw[ay,ay]
  by_cases e:p.1=k
  ·rw[if_pos e,if_pos (by exact e)]
   exact RelK.cons r (RelK.repl k h2 r)
  ·rw[if_neg e,if_neg (by exact e)]
   exact RelK.cons h1 (RelK.repl k h2 r)
theorem RelK.snoc:∀{kvs:List (κ×Wv)}{xs:List (κ×V)}(k:κ){w:Wv}{v:V},RelK K m H kvs xs->aj K m H w v->RelK K m H (kvs++[(k,w)]) (xs++[(k,v)])
 | [],xs,k,w,v,h,r=>by rw[h.nil_inv];exact RelK.cons r RelK.nil
 | p::kvs,xs,k,w,v,h,r=>by
  obtain⟨u,t,rfl,h1,h2⟩:=h.cons_inv
  exact RelK.cons h1 (RelK.snoc k h2 r)
theorem RelK.put{kvs:List (κ×Wv)}{xs:List (κ×V)}(k:κ){w:Wv}{v:V}(h:RelK K m H kvs xs)(r:aj K m H w v):RelK K m H (gT kvs k w) (putK xs k v):=by
 unfold gT putK
 rw[h.any k]
 split
 ·exact h.repl k r
 ·exact h.snoc k r
end
section
variable {K:PySem.W.Frag} {m:Mp} {H:Hp}
end
section
variable {X:Cx}
end
def Ba:Wv->acy->Prop
 | .int i,u=>∃t,u= .int i t
 | .str x,u=>(∃t,u= .str x t)/\aZ x=true
 | _,_=>False
abbrev Dc:=List (PySem.Str×Wv)
def vE(w:acz):Dc->List DictEntry->Prop
 | [],[]=>True
 | (k,v)::r,e::t=>(e.hash=hashStr w k/\(∃tk,e.key= .str k tk)/\Ba v e.val)/\vE w r t
 | _,_=>False
def CH(K:PySem.W.Frag)(w:acz)(mg:Str->Option acy)(x:Str)(kvs:Dc):Prop :=
 ∃(a:acr)(es:Array DictEntry)(ep:Nat),mg x=some (.ref a)/\K.lookup a=some ⟨.type "dict",none,.dict es ep,#[]⟩/\(a == sysModules)=false/\vE w kvs es.toList/\(kvs.map (·.1)).Nodup
theorem n6{P:acw}{w:acz}:∀{kvs:Dc}{l:List DictEntry},vE w kvs l->∃vs:List (PySem.Str×acy),vs.map (·.1)=kvs.map (·.1)/\Pairs (PySem.strKind P w) l vs/\(∀e∈l,∃k,(PySem.strKind P w).is k e.key=true/\e.hash=(PySem.strKind P w).hash k)/\
  ∀k,(kvs.lookup k=none->valueAt vs k=none)/\∀v,kvs.lookup k=some v->∃u,valueAt vs k=some u/\Ba v u
 | [],[],_=>⟨[],rfl,.nil,(λ_ z=>by cases z),λk=>⟨λ_=>rfl,(λv z=>by cases z)⟩⟩
 | (k,v)::r,e::t,h=>by
  obtain⟨⟨h1,⟨tk,h2⟩,h3⟩,h4⟩:=h
  obtain⟨vs,i1,i2,i3,i4⟩:=n6 (P:=P) h4
  have his:(PySem.strKind P w).is k e.key=true:=by rw[h2];exact strKind_is P w k tk
  refine⟨(k,e.val)::vs,by simp[i1],.cons his rfl i2,λe' he=>?_,λk'=>?_⟩
  ·rcases List.mem_cons.mp he with z | z
   ·subst z;exact⟨k,his,h1⟩
   ·exact i3 e' z
  ·rw[fq]
   unfold valueAt
   rw[u6]
   by_cases ek:k=k'
   ·subst ek
    have b1:(k == k)=true:=by simp
    rw[b1]
    simp only[decide_true,nr]
    exact⟨(λz=>by cases z),λv' z=>⟨e.val,rfl,by cases z;exact h3⟩⟩
   ·have b1:(k' == k)=false:=beq_eq_false_iff_ne.mpr λz=>ek z.symm
    rw[b1]
    simp only[ek,decide_false]
    exact i4 k'
 | [],_::_,h=>aa h
 | _::_,[],h=>aa h
theorem JD{P:acw}{w:acz}{K:PySem.W.Frag}{h:Heap}{a:acr}{es:Array DictEntry}{ep:Nat}{kvs:Dc}(KX:K.In h)(hl:K.lookup a=some ⟨.type "dict",none,.dict es ep,#[]⟩)(he:vE w kvs es.toList)(nd:(kvs.map (·.1)).Nodup) :
  ∃vs:List (PySem.Str×acy),h.DictOf (PySem.strKind P w) a vs/\∀k,(kvs.lookup k=none->valueAt vs k=none)/\∀v,kvs.lookup k=some v->∃u,valueAt vs k=some u/\Ba v u:=by
 obtain⟨vs,i1,i2,i3,i4⟩:=n6 (P:=P) he
 exact⟨vs,⟨_,es,ep,KX a _ hl,⟨rfl,rfl,rfl⟩,rfl,λe hm=>i3 e (by simpa using hm),i2,by rw[i1];exact nd⟩,i4⟩
section
variable {X:Cx}
def Ll(kvs:Dc)(ga:GE):GE:=λρ st=>(ga ρ st).bind λa st1=>match a with
 | .str k=>(match kvs.lookup k with | some w=> .ok w st1 | none=> .bad)
 | _=> .bad
def RN(kvs:Dc)(ty:TE):TE:=λσ H Q=>ty σ H λy H1=>∃z w v,y= .str z/\kvs.lookup z=some w/\(∀u,Ba w u->RelV v u)/\Q v H1
theorem JF{b:Expr}{ty:TE}{x:Str}{p pos:Pos}{kvs:Dc}(hb:PE X b ty)(hs:MJ b)(hg:Gl X x)(hd:(x == ("__debug__":Str))=false)(D:CH X.K X.w X.mg x kvs):PE X (.Subscript (.Name x p) b pos) (RN kvs ty):=by
 intro pins s σ H Q I h
 obtain⟨a,es,ep,g1,g2,g3,g4,g5⟩:=D
 refine IK PySem.F.slot_dict_getitem.lookup hs (bJ (lH (v:=.ref a) hg g1 rfl hd pins s σ H (λv H2=>v= .ref a/\H2=H) I ⟨rfl,rfl⟩) λu s1 ⟨v,H1,I1,rv,ev,eH⟩=>?_)
 subst ev eH
 obtain rfl:u=aE a:=rv
 refine bJ (hb pins s1 σ H1 _ I1 h) λiv s2 ⟨y,H2,I2,ry,z,w,v,ey,ew,ev,q⟩=>?_
 subst ey
 obtain⟨t,rfl⟩:=(show ∃t,iv=uH z t from ry)
 obtain⟨vs,dd,look⟩:=JD (P:=X.prog) (w:=X.w) I2.Dq g2 g4 g5
 obtain⟨u,e1,e2⟩:=(look z).2 w ew
 exact⟨dd.typeIs,wpAny_getItem_of (strKind_is X.prog X.w z t) dd.mapOf e1 ⟨v,H2,I2.tok _,ev u e2,q⟩⟩
theorem JG{b:Expr}{gb:GE}{x:Str}{p pos:Pos}{kvs:Dc}(hb:JE X b gb)(hs:MJ b)(hg:Gl X x)(hd:(x == ("__debug__":Str))=false)(D:CH X.K X.w X.mg x kvs):JE X (.Subscript (.Name x p) b pos) (Ll kvs gb) :=
 JE.of (JF aY hs hg hd D) λρ st σ H m Q S R p=>by
  refine hb.go S R (az.bind p) λw st1 v m1 H1 p1 e1 S1 r1=>?_
  cases w with
  | str k=>
   dsimp only at p1
   cases e:kvs.lookup k with
   | none=>rw[e] at p1;exact aa p1
   | some u=>
    rw[e] at p1
    unfold aj at r1
    cases u with
    | int i=>exact⟨k,.int i,.int i,r1.1,e,λu h=>h,p1 _ m1 H1 e1 S1 (by unfold aj;rfl)⟩
    | str y=>
     by_cases hy:aZ y=true
     ·exact⟨k,.str y,.str y,r1.1,e,λu h=>h.1,p1 _ m1 H1 e1 S1 (by unfold aj;exact⟨rfl,hy⟩)⟩
     ·obtain⟨a,es,ep,_,_,_,g4,_⟩:=D
      obtain⟨vs,_,_,_,i4⟩:=n6 (P:=X.prog) g4
      obtain⟨u,_,e2⟩:=(i4 k).2 _ e
      exact absurd e2.2 hy
    | _=>
     obtain⟨a,es,ep,_,_,_,g4,_⟩:=D
     obtain⟨vs,_,_,_,i4⟩:=n6 (P:=X.prog) g4
     obtain⟨u,_,e2⟩:=(i4 k).2 _ e
     exact aa e2
  | _=>exact aa p1
end
open PySem PySem.Spec PyProof.Rows PySem.W L2
section
variable (lt:Nat->Nat->Bool) (N:Nat)
end
section
variable {lt:Nat->Nat->Bool} {N:Nat}
abbrev at_(p:Array Nat)(i:Nat):Nat:=p.getD i 0
end
section
variable {prog:acw} {w:acz} {A:acs} {E:acy->acx->Prop} {s:acx}
end
section
variable {X:Cx} {pins:List (acr×Obj)} {σ:St} {H:Hp} {s:acx}
end
theorem NI{h h':Heap}{L:acr}{m m':Str->Option acy}(a:h.Ns L m)(b:h.Ns L m')(c:h'.Ns L m):h'.Ns L m':=by
 obtain⟨o,es,ep,e1,e2,_,e4⟩:=a
 obtain⟨o',es',AF,f1,f2,_,f4⟩:=b
 rw[e1] at f1
 cases f1
 rw[e2] at f2
 cases f2
 have:m=m':=funext λx=>(e4 x).symm.trans (f4 x)
 rw[<-this]
 exact c
section
variable {X:Cx}
end
section
variable {prog:acw} {w:acz} {A:acs} {E:acy->acx->Prop} {s:acx}
end
section
variable {X:Cx}
end
def keysOf:List Wv->Option (List L2.Key)
 | []=>some []
 | w::r=>(match keyOf w,keysOf r with | some k,some l=>some (k::l) | _,_=>none)
def mn:Wv->Option (List L2.Key)
 | .tup ws=>keysOf ws
 | _=>none
theorem rp{K:PySem.W.Frag}{m:Mp}{H:Hp}:∀{ws:List Wv}{xs:List V}{ks:List L2.Key},ai K m H ws xs->keysOf ws=some ks->xs=ks.map kV
 | [],xs,ks,r,e=>by unfold ai at r;subst r;cases e;rfl
 | w::ws,xs,ks,r,e=>by
  unfold ai at r
  obtain⟨x,t,rfl,r1,r2⟩:=r
  unfold keysOf at e
  cases e1:keyOf w with
  | none=>rw[e1] at e;cases e
  | some k=>
   cases e2:keysOf ws with
   | none=>rw[e1,e2] at e;cases e
   | some l=>
    rw[e1,e2] at e
    cases e
    rw[ud r1 e1,rp r2 e2]
    rfl
theorem rA{K:PySem.W.Frag}{m:Mp}{H:Hp}{w:Wv}{v:V}{ks:List L2.Key}(r:aj K m H w v)(e:mn w=some ks):∃b,v= .ref b/\H b=some (.tup (ks.map kV)):=by
 cases w with
 | tup ws=>
  unfold aj at r
  obtain⟨a,xs,rfl,h1,h2⟩:=r
  rw[rp h2 e] at h1
  exact⟨a,rfl,h1⟩
 | _=>cases e
def xw:GE:=λ_ st=> .ok (.ref st.length) (st++[.bX []])
section
variable {X:Cx}
theorem Bb{pos:Pos}:JE X (.Dict [] [] pos) xw:=JE.of D8 λρ st σ H m Q S R p=>λq hq=>
 p (.ref q) (m++[q]) _ (Ext.more.trans (Ext.jw (.inl hq))) (S.vc hq ⟨[],aH,RelK.nil⟩) (S.newest q _)
def putD(d k v:Wv)(st:Hs):Option Hs:=match d with
 | .ref l=>(match st[l]? with
  | some (.dct kvs)=>(match keyOf k with | some kk=>if kvs.length < lim then some (st.set l (.dct (gT kvs kk v))) else none | none=>none)
  | some (.bX kvs)=>(match mn k with | some kk=>if kvs.length < lim then some (st.set l (.bX (gT kvs kk v))) else none | none=>none)
  | _=>none)
 | _=>none
def pA(gv gd gk:GE):GS:=λρ st=>(gv ρ st).bJ ρ λv st1=>(gd ρ st1).bJ ρ λd st2=>(gk ρ st2).bJ ρ λk st3=>match putD d k v st3 with
 | some AV=> .nx ρ AV
 | none=> .bad
theorem JH{m:Mp}{st st':Hs}{H:Hp}{d k v:Wv}{x y z:V}(S:bG X.K m st H)(rd:aj X.K m H d x)(rk:aj X.K m H k y)(rv:aj X.K m H v z)(e:putD d k v st=some st'):∃a H',x= .ref a/\u_ H a y z H'/\Ext X.K m H m H'/\bG X.K m st' H':=by
 unfold putD at e
 cases d with
 | ref l=>
  dsimp only at e
  unfold aj at rd
  obtain⟨a,rfl,ha⟩:=rd
  cases e1:st[l]? with
  | none=>rw[e1] at e;cases e
  | some o=>
   rw[e1] at e
   cases o with
   | dct kvs=>
    dsimp only at e
    cases e2:keyOf k with
    | none=>rw[e2] at e;cases e
    | some kk=>
     rw[e2] at e
     dsimp only at e
     by_cases c:kvs.length < lim
     ·rw[if_pos c] at e
      cases e
      obtain⟨xs,h1,h2⟩:=(show ∃ys,H a=some (.dK ys)/\RelK X.K m H kvs ys from S.obj _ _ _ ha e1)
      have ex:Ext X.K m H m (upd H a (.dK (putK xs kk z))):=Ext.jw (.inr (.inr (.inl ⟨_,h1⟩)))
      refine⟨a,_,rfl,by rw[ud rk e2];exact u_.k h1 (by rw[<-h2.length];exact vg c),ex,?_⟩
      exact S.qO ha e1 rfl ⟨_,aH,(h2.put kk rv).mono ex⟩
     ·rw[if_neg c] at e;cases e
   | bX kvs=>
    dsimp only at e
    cases e2:mn k with
    | none=>rw[e2] at e;cases e
    | some kk=>
     rw[e2] at e
     dsimp only at e
     by_cases c:kvs.length < lim
     ·rw[if_pos c] at e
      cases e
      obtain⟨xs,h1,h2⟩:=(show ∃ys,H a=some (.dT ys)/\RelK X.K m H kvs ys from S.obj _ _ _ ha e1)
      obtain⟨b,rfl,hb⟩:=rA rk e2
      have ex:Ext X.K m H m (upd H a (.dT (putK xs kk z))):=Ext.jw (.inr (.inr (.inr (.inl ⟨_,h1⟩))))
      refine⟨a,_,rfl,u_.t h1 hb (by rw[<-h2.length];exact vg c),ex,?_⟩
      exact S.qO ha e1 rfl ⟨_,aH,(h2.put kk rv).mono ex⟩
     ·rw[if_neg c] at e;cases e
   | _=>cases e
 | _=>cases e
theorem JJ{o i e:Expr}{go gi ge:GE}{pos pos':Pos}(hu:X.A.units+1 < cLine)(he:JE X e ge)(ho:JE X o go)(hi:JE X i gi)(hs:swapsWith e (some (.Subscript o i pos')) pos.line X.env=pure false):JS X (.Assign [.Subscript o i pos'] e pos) (pA ge go gi) :=
 JS.of (IL hu aY aY aY hs) λρ st σ H m D S R p=>by
  refine he.go S R (aJ.di R p) λv st1 vv m1 H1 p1 e1 S1 rv=>?_
  refine ho.go S1 (R.mono e1) ((aJ.di (m:=m) (H:=H) R p1).imp e1 λ_ _ q=>q) λd st2 vd m2 H2 p2 e2 S2 rd=>?_
  refine hi.go S2 (R.mono (e1.trans e2)) ((aJ.di (m:=m) (H:=H) R p2).imp (e1.trans e2) λ_ _ q=>q) λk st3 vk m3 H3 p3 e3 S3 rk=>?_
  have Ce:=e1.trans (e2.trans e3)
  cases e4:putD d k v st3 with
  | none=>rw[e4] at p3;exact aa p3
  | some AV=>
   rw[e4] at p3
   obtain⟨a,H4,f1,f2,f3,f4⟩:=JH (X:=X) S3 (aj.mono e3 _ _ rd) rk (aj.mono (e2.trans e3) _ _ rv) e4
   exact⟨a,H4,f1,f2,p3 σ m3 H4 (Ce.trans f3) f4 (R.mono (Ce.trans f3))⟩
end
def k_(h:Heap)(d:acr)(es:Array DictEntry)(ep:Nat):Prop:=∃o,h.get? d=some o/\o.cls= .type "dict"/\o.data= .dict es ep
section
variable {prog:acw} {w:acz} {A:acs} {E:acy->acx->Prop} {s:acx} {d it:acr} {es:Array DictEntry} {ep i:Nat}
theorem k_.ty(x:k_ s.heap d es ep):s.TypeIs (.ref d) "dict":=let ⟨o,h1,h2,_⟩:=x;⟨o,h1,h2⟩
theorem Fd{Q:acy->acx->Prop}(lo:(d == sysModules)=false)(x:k_ s.heap d es ep)
  (k:Q (.ref s.heap.objs.size) { s with heap:=s.heap.push { cls:=.type "dict_keyiterator",data:=.fields #[.ref d,.int 0 0,.int es.size 0,.int ep 0] } }):acL (model prog w) A (pyIter (.ref d)) Q E s:=by
 have ty:=x.ty
 obtain⟨o,g1,g2,g3⟩:=x
 refine wpAny_pyIter_slot ty PySem.F.slot_dict_iter (wpAny_call_entry PySem.F.slot_dict_iter ty PySem.F.entry_dict_iter ?_ (PySem.F.args_dict_iter_1 _))
 unfold Builtin.«dict.__iter__» Builtin.Dict.dictSlotNone
 refine acM (acM (wpAny_notOrdered_dict ty (acR ?_)))
 unfold vF
 have nlo:¬(d == sysModules)=true:=by rw[lo];exact bD
 refine acM (show acL _ _ (pure d) _ _ s from acR (acM ?_))
 rw[if_neg nlo]
 exact acR (acM (acN g1 g3 (acM (wpAny_dictEpoch g1 g3 (acM (acQ (acR ⟨_,rfl,"dict_keyiterator",_,⟨_,bz _ rfl,rfl⟩,PySem.F.slot_dict_keyiterator_next.lookup,by simpa [rawInt] using k⟩)))))))
theorem Fe{Q:Option acy->acx->Prop}(ki:s.heap.IsKeyIter it d i es.size ep)(x:k_ s.heap d es ep)(hi:i < es.size)
  (k:∀h',h'.IsKeyIter it d (i+1) es.size ep->kK it s.heap h'->Q (some es[i].key) { s with heap:=h' }):acL (model prog w) A (pyNext (.ref it)) Q E s:=by
 have ty:=ki.typeIs
 obtain⟨oi,f1,f2,f3⟩:=id ki
 obtain⟨o,g1,g2,g3⟩:=x
 have own:vG "dict_keyiterator"=false:=by decide
 have nn:¬((aE d == bp)=true):=bD
 unfold pyNext
 refine acM (wpAny_attempt (wpAny_callSpecial?_slot (name:=fh "__next__") ty PySem.F.slot_dict_keyiterator_next (wpAny_call_entry PySem.F.slot_dict_keyiterator_next ty PySem.F.entry_dict_keyiterator_next ?_ (PySem.F.args_dict_keyiterator_next_1 _))))
 refine acM (acR (acM (acM ?_)))
 first | refine acM (wpAny_typeNameOfWhole_keyiter ty (acR (acM (wpAny_fieldsOf f1 f3 ?_)))) | refine acM (wpAny_typeNameOf_keyiter ty (acR (acM (wpAny_fieldsOf f1 f3 ?_))))
 simp only[own,fU,if_false]
 refine(show acL _ _ (if(aE d == bp)=true then _ else _) _ _ s from ?_);rw[if_neg nn]
 refine acM (acR (acM (acN g1 g3 ?_)))
 rw[if_neg (by simp)]
 refine acM (acR (acM (wpAny_dictEpoch g1 g3 ?_)))
 rw[if_neg (by simp)]
 refine acR ?_
 have n0:¬((i:Int) < 0):=by omega
 simp only[n0,if_false,vH,RO hi]
 refine acM ?_
 first | refine acM (wpAny_typeNameOfWhole_keyiter ty (acR (acM (wpAny_isOneOf_keyiter ty ?_)))) | refine acM (wpAny_typeNameOf_keyiter ty (acR (acM (wpAny_isOneOf_keyiter ty ?_))))
 refine(show acL _ _ (setField (.ref it) 1 (rawInt ((i:Int)+1)) >>= _) _ _ s from ?_)
 have Yx:(s.heap.update it (jQ (·.setIfInBounds 1 (rawInt ((i:Int)+1))))).IsKeyIter it d (i+1) es.size ep:=⟨_,oK _ f1 (AR (qd f3 _)),(Obj.cls_mapFields ..).trans f2,by rw[qd f3];simp[rawInt]⟩
 refine acM (wpAny_setField f1 f3 (by simp) (acM (acO (acM (wpAny_isOneOf_keyiter (s:={ s with heap:=s.heap.update it (jQ (·.setIfInBounds 1 (rawInt ((i:Int)+1)))) }) Yx.typeIs ?_)))))
 exact(show acL _ _ (pure es[i].key) _ _ _ from acR (acR ⟨_,rfl,acR (k _ Yx (rB ..))⟩))
theorem JK{Q:Option acy->acx->Prop}(hh:A.handled=none)(ki:s.heap.IsKeyIter it d i es.size ep)(x:k_ s.heap d es ep)(hi:es.size<=i)(k:∀h',Ff it s.heap h'->Q none { s with heap:=h' }):acL (model prog w) A (pyNext (.ref it)) Q E s:=by
 have ty:=ki.typeIs
 obtain⟨oi,f1,f2,f3⟩:=id ki
 obtain⟨o,g1,g2,g3⟩:=x
 have own:vG "dict_keyiterator"=false:=by decide
 have nn:¬((aE d == bp)=true):=bD
 unfold pyNext
 refine acM (wpAny_attempt (wpAny_callSpecial?_slot (name:=fh "__next__") ty PySem.F.slot_dict_keyiterator_next (wpAny_call_entry PySem.F.slot_dict_keyiterator_next ty PySem.F.entry_dict_keyiterator_next ?_ (PySem.F.args_dict_keyiterator_next_1 _))))
 refine acM (acR (acM (acM ?_)))
 first | refine acM (wpAny_typeNameOfWhole_keyiter ty (acR (acM (wpAny_fieldsOf f1 f3 ?_)))) | refine acM (wpAny_typeNameOf_keyiter ty (acR (acM (wpAny_fieldsOf f1 f3 ?_))))
 simp only[own,fU,if_false]
 refine(show acL _ _ (if(aE d == bp)=true then _ else _) _ _ s from ?_);rw[if_neg nn]
 refine acM (acR (acM (acN g1 g3 ?_)))
 rw[if_neg (by simp)]
 refine acM (acR (acM (wpAny_dictEpoch g1 g3 ?_)))
 rw[if_neg (by simp)]
 refine acR ?_
 have n0:¬((i:Int) < 0):=by omega
 simp only[n0,if_false,vH,RP hi]
 refine acM ?_
 first | refine acM (wpAny_typeNameOfWhole_keyiter ty (acR ?_)) | refine acM (wpAny_typeNameOf_keyiter ty (acR ?_))
 refine(show acL _ _ (setField (.ref it) 0 .none >>= _) _ _ s from acM (wpAny_setField f1 f3 (by simp) ?_))
 refine(show acL _ _ (newExc (.type "StopIteration") [] >>= _) _ _ _ from ?_)
 simp only[newExc,newTuple,raiseNew]
 refine acM (acM (acQ (acM (m:=firstArgMember _ _) (wpAny_of_eq (a:=bp) (by first | rfl | (simp only[firstArgMember];rfl)) (acQ ?_ (by size_fits)))) (by size_fits)))
 refine(acM (wpAny_handled ?_))
 rw[show A.in1.handled=none by exact hh]
 refine(acM (acR (wpAny_throw ?_)))
 refine acM (wpAny_isInstance (b:=true) (T:="StopIteration") ⟨_,bz _ rfl,rfl⟩ isSubtype_stop (acR ?_))
 refine k _ ?_;exact((rB ..).extBut.push _).push _
theorem CI(hh:A.handled=none)(I:acr)(hne:d≠I):Walks prog w A I [I,d] [I] es.size (λi v=>∃h:i < es.size,v=es[i].key) (λi h=>h.IsKeyIter I d i es.size ep/\k_ h d es ep) where
 sub:=λb hb=>List.mem_cons.mpr (.inl (List.mem_singleton.mp hb))
 frame:=λ_ _ _ st hk=>⟨st.1.at λo e=>hk I (by simp) o e,let ⟨o,e1,e2⟩:=st.2;⟨o,hk d (by simp) o e1,e2⟩⟩
 item:=λi s Q E hi st hQ=>Fe st.1 st.2 hi λh' ki sb=>hQ _ h' s.toks ⟨hi,rfl⟩ ⟨ki,let ⟨o,e1,e2⟩:=st.2;⟨o,sb.extBut d o hne e1,e2⟩⟩ λb o hb e=>sb.extBut b o (λz=>hb (by simp[z])) e
 done:=λs Q E st hQ=>JK hh st.1 st.2 (au _) λh' eb=>hQ h' s.toks λb o hb e=>eb b o (λz=>hb (by simp[z])) e
 self:=λ_ _ _ _ st k=>wpAny_pyIter_keyiter st.1 k
theorem JM(lo:(d == sysModules)=false):KdlSrc prog w "dict" d d es.size (λi v=>∃h:i < es.size,v=es[i].key) (λh=>k_ h d es ep) where
 type:=λ_ x=>x.ty
 there:=λ_ x=>let ⟨o,e,_⟩:=x;⟨aC e,aC e⟩
 keep:=λ_ _ x hk=>let ⟨o,e,r⟩:=x;⟨o,hk d (.inl rfl) o e,r⟩
 notList:=by decide
 notTuple:=by decide
 hint:=λ_ _ _ _ x hq=>kdl_hint_dict x.ty hq
 iter:=λ_ s hh x=>⟨_,_,(λ_ _ hq=>Fd lo x hq),CI hh _ (by obtain⟨o,e,_⟩:=x;exact bu (aC e)),⟨⟨_,bz _ rfl,rfl,rfl⟩,let ⟨o,e,r⟩:=x;⟨o,aL _ e,r⟩⟩⟩
end
abbrev NJ(H:Hp):List V->List (List L2.Key)->Prop:=Paired λv k=>∃b,v= .ref b/\H b=some (.tup (k.map kV))
theorem Bc{H:Hp}:∀{kvs:List (List L2.Key×V)}{xs:List (List L2.Key×acr×acy)},KT H kvs xs->NJ H (xs.map λx=>V.ref x.2.1) (kvs.map (·.1))
 | _,_,.nil=> .nil
 | _,_,.cons h t=> .cons ⟨_,rfl,h.2.1⟩ (Bc t)
theorem ue{α:Type}(f:α->acr):∀xs:List α,Vals (xs.map λx=>V.ref (f x)) (xs.map λx=>aE (f x))
 | []=> .nil
 | x::r=> .cons rfl (ue f r)
section
variable {X:Cx}
theorem zG:cV X (.type "list") (λxs H Q=>∃(p:acr)(kvs:List (List L2.Key×V)),xs=[.ref p]/\H p=some (.dT kvs)/\X.A.handled=none/\∀l vs',H l=none->NJ H vs' (kvs.map (·.1))->Q (.ref l) (upd H l (.lst vs'))):=by
 intro pins s σ H xs us Q I r h
 obtain⟨p,kvs,rfl,hp,hh,q⟩:=h
 obtain⟨u,rfl,rx⟩:=vals1 r
 cases rx
 obtain⟨z,lo,ys,kt,o,es,ep,g1,g2,g3,g4,g5,g6⟩:=D6 I.hok hp
 have len:es.size=ys.length:=by have:=congrArg dq g4;simpa using this
 have NL:kvs.length=ys.length:=kt.length
 obtain⟨m,hn,hl⟩:=id I.loc
 have raw:k_ s.heap p es ep:=⟨o,g1,g2.1,g3⟩
 refine kdl_N (JM lo) hh (Att.ME hn) (DB (g:=Att.u5 s.heap) (h:=s.heap) (L:=X.env.locals)) raw (by rw[len,<-NL];exact z) λD c h'' tk vs Yy Vs hD hlen hv=>?_
 have evs:vs=ys.map λx=>aE x.2.1:=by
  refine List.ext_getElem? λj=>?_
  cases e:vs[j]? with
  | none=>
   have hj:vs.length<=j:=by simpa using e
   rw[n8]
   simp
   omega
  | some v=>
   obtain⟨hj,ev⟩:=hv j v e
   have hj':j < ys.length:=by omega
   have q1:es.toList[j]'(by simpa using hj)=entryOfKey (tupleKind (bq X.prog X.w)) ys[j]:=by
    have:es.toList[j]? =(ys.map (entryOfKey (tupleKind (bq X.prog X.w))))[j]?:=by rw[g4]
    rw[cK (by simpa using hj),fg,cK hj'] at this
    simpa using this
   rw[fg,cK hj',ev]
   have q2:es[j]=es.toList[j]'(by simpa using hj):=by simp
   rw[q2,q1]
   rfl
 subst evs
 have hDL:D≠X.env.locals:=(Vs (D,_) aR).2.1
 have Bd:∀b o,b≠X.env.locals->s.heap.get? b=some o->h''.get? b=some o:=λb o n e=>(Vs (b,o) (aN _ (pj n (Att.mJ _ _) e))).1
 have Yz:s.heap.get? D=none:=by
  cases e:s.heap.get? D with
  | none=>rfl
  | some o=>exact absurd (hD (D,o) (pj hDL (Att.mJ _ _) e)) (cX _)
 have YA:H D=none:=by
  cases e:H D with
  | none=>rfl
  | some ob=>
   obtain⟨z,e'⟩:=tX (I.hok D ob e)
   rw[Yz] at e'
   cases e'
 have RQ:∀b u,H b=some u->b≠D:=λb u e=>bC e YA
 have Qx:∀b u,H b=some u->b≠X.env.locals:=λb u e=>bC e I.free
 have I':Inv X pins σ (upd H D (.lst (ys.map λx=>V.ref x.2.1))) { s with heap:=h'',toks:=tk }:=by
  refine I.step (g':=s.gens) (d':=s.drawn) (t':=tk) (ch:=[]) (λ_ z=>nomatch z) (λb o n _ _ e _=>Bd b o n e) (λb o n _ _ e _=>⟨o.slots,Bd b o n e⟩) (λb o _ e n=>?_) (λb o _ e=>?_) (λb xs e=>?_) (λb o u e=>?_) (λb ps e=>?_) (λm' hm=>NI hn hm Yy.ns) (λb ob e=>?_) I.bare
  ·rw[av (λz=>by subst z;rw[Yz] at e;cases e)];exact n
  ·by_cases z:b=X.env.locals
   ·subst z
    obtain⟨o',_,_,e',_⟩:=Yy.ns
    exact⟨o',e'⟩
   ·exact⟨o,Bd b o z e⟩
  ·rw[av (RQ _ _ e)];exact e
  ·rw[av (RQ _ _ e)];exact e
  ·exact⟨#[],by rw[av (RQ _ _ e),e];simp⟩
  ·by_cases z':b=D
   ·subst z'
    rw[aH] at e
    cases e
    exact⟨by rw[aB,<-NL];exact z,_,c,ue (λx=>x.2.1) ys,(Vs (b,_) aR).1⟩
   ·rw[av z'] at e
    refine(I.hok b ob e).stay (λc v hc q=>Bd c v ?_ q) (λc q=>by rw[av (RQ _ _ q)];exact q) λc xs q=>by rw[av (RQ _ _ q)];exact q
    rcases hc with y | y
    ·rw[y];exact Qx b ob e
    ·exact Qx c _ y
 exact⟨.ref D,_,I',rfl,q D _ YA (Bc kt)⟩
end
def mO:List L2.Key->Option (List Int)
 | []=>some []
 | .inl i::r=>(match mO r with | some l=>some (i::l) | none=>none)
 | _=>none
theorem vI:∀{ks:List L2.Key}{ns:List Int},mO ks=some ns->ks.map kV=ns.map V.int
 | [],ns,e=>by cases e;rfl
 | .inl i::r,ns,e=>by
  unfold mO at e
  cases q:mO r with
  | none=>rw[q] at e;cases e
  | some l=>rw[q] at e;cases e;rw[ay,ay,vI q];rfl
 | .inr x::r,ns,e=>by cases e
 | .aI::r,ns,e=>by cases e
def uf:List (List L2.Key)->Option (List Wv)
 | []=>some []
 | k::r=>(match mO k,uf r with | some ns,some l=>some (.tup (ns.map Wv.int)::l) | _,_=>none)
theorem ug{K:PySem.W.Frag}{m:Mp}{H:Hp}:∀{vs:List V}{ks:List (List L2.Key)}{ws:List Wv},NJ H vs ks->uf ks=some ws->ai K m H ws vs
 | _,_,ws,.nil,e=>by cases e;exact ai.nil
 | _,_,ws,.cons (b:=k) (l₂:=ks) h t,e=>by
  obtain⟨b,rfl,hb⟩:=h
  unfold uf at e
  cases q1:mO k with
  | none=>rw[q1] at e;cases e
  | some ns=>
   cases q2:uf ks with
   | none=>rw[q1,q2] at e;cases e
   | some l=>
    rw[q1,q2] at e
    cases e
    refine ai.cons ?_ (ug t q2)
    rw[vI q1] at hb
    unfold aj
    exact⟨b,_,rfl,hb,ai.ints ns⟩
def jj:List Wv->Hs->Re Wv
 | [.ref l],st=>match st[l]? with
  | some (.bX kvs)=>(match uf (kvs.map (·.1)) with | some ws=> .ok (.ref st.length) (st++[.lst ws]) | none=> .bad)
  | _=>q_ [.ref l] st
 | ws,st=>q_ ws st
section
variable {X:Cx}
theorem xx(hc:X.calm=true):cV X (.type "list") (λxs H Q=>∃(p:acr)(kvs:List (List L2.Key×V)),xs=[.ref p]/\H p=some (.dT kvs)/\∀l vs',H l=none->NJ H vs' (kvs.map (·.1))->Q (.ref l) (upd H l (.lst vs'))):=by
 intro pins s σ H xs us Q I r h
 obtain⟨p,kvs,e,hp,q⟩:=h
 exact zG pins s σ H xs us Q I r ⟨p,kvs,e,hp,I.ok.hd hc,q⟩
theorem Fg(hc:X.calm=true):eG X (.type "list") jj:=by
 obtain⟨rr,h1,h2⟩:=Jy (X:=X)
 refine⟨_,(xx hc).or h1,λws vs st H m Q S rs p=>?_⟩
 have other:cW X.K m H (q_ ws st) Q->rr vs H Q:=λp=>h2 ws vs st H m Q S rs p
 match ws,rs,p,other with
 | [],rs,p,other=>exact .inr (other p)
 | x::y::t,rs,p,other=>exact .inr (other (by cases x<;>exact p))
 | [x],rs,p,other=>
  cases x with
  | ref l=>
   unfold jj at p
   cases e:st[l]? with
   | none=>simp only[e] at p;exact .inr (other p)
   | some o=>
    simp only[e] at p
    cases o with
    | bX kvs=>
     dsimp only at p
     cases e2:uf (kvs.map (·.1)) with
     | none=>rw[e2] at p;exact aa p
     | some us=>
      rw[e2] at p
      obtain⟨v,rfl,r1⟩:=kG rs
      unfold aj at r1
      obtain⟨a,rfl,ha⟩:=r1
      obtain⟨xs,g1,g2⟩:=(show ∃ys,H a=some (.dT ys)/\RelK X.K m H kvs ys from S.obj _ _ _ ha e)
      refine .inl ⟨a,xs,rfl,g1,λk vs' hk hy=>?_⟩
      rw[<-g2.1] at hy
      exact p (.ref k) (m++[k]) _ (Ext.more.trans (Ext.upd (.inl hk))) (S.alloc hk (ug hy e2)) (S.newest k _)
    | _=>exact .inr (other p)
  | _=>exact .inr (other p)
end
open PySem L2 PyProof.Rows
section
open PySem.SeqAt PySem.MeetsSeq PySem.MeetsSeq2 PySem.MeetsSeq3
end
variable {X:Cx}
def oLe:hX:=λx y st=>Ri x y st
theorem NM(hu:X.A.units+64 < cLine):kU X (acF .LtE) oLe:=Rl
def RS:hX:=λx y st=>Rh x y st
theorem NN(hu:X.A.units+64 < cLine):kU X (acF .Lt) RS:=Rk
structure ic(k:Nat)(A:acs):Prop where
 d:A.depth+3 * k+5 < recursionLimit
 u:A.units+16 * k+200 < cLine
theorem ic.of{k:Nat}{A:acs}(r:kO k A):ic k A:=⟨r.dp,r.un⟩
theorem ic.less{j k:Nat}{A:acs}(r:ic k A)(h:j<=k):ic j A:=⟨by have:=r.d;omega,by have:=r.u;omega⟩
theorem ic.down{k:Nat}{A:acs}(r:ic (k+1) A)(env:Env):ic k (A.deeper env) :=
 ⟨by have q:=r.d;show A.depth+1+3 * k+5 < _;omega,by have q:=r.u;show A.units+3+16 * k+200 < _;omega⟩
theorem ic.u64{k:Nat}{A:acs}(r:ic k A):A.units+64 < cLine:=by have:=r.u;omega
structure Fh(P:acw)(w:acz)(K:PySem.W.Frag)(mg:Str->Option acy)(base:Heap)(k:Nat)(f:acr)(fd:acu)(ps:List Str)(sp:Sp):Prop where
 n:∀vs H Q E,sp vs H Q E->vs.length=ps.length
 go:∀(A:acs)(outer:List Env)(s:acx)(H:Hp)(args:Args)(us:List acy)(vs:List V)(Q:VK)(E:XK),ic k A->Cr A H->yU P w K mg base A outer s H->
  BindsTo s fd args (ps.zip us)->Vals vs us->sp vs H Q E->acD (model P w) A (.call (.ref f) args) (CR (CXJ P w) outer P w H s Q E) s
section
variable {P:acw} {w:acz} {K:PySem.W.Frag} {mg:Str->Option acy} {base:Heap}
def JN(P:acw)(w:acz)(K:PySem.W.Frag)(mg:Str->Option acy)(base:Heap)(N:List Str)(qual:Str)(scope:Scope)(f:acr)(cd:acy)(A:acs)(outer:List Env)(s:acx)(H:Hp)(E:XK):Cx :=
 { qC (CXJ P w) P w K mg base N qual scope f cd A outer s H E with calm:=false }
theorem NO{N ps:List Str}{qual:Str}{scope:Scope}{f:acr}{cd:acy}{A:acs}{outer:List Env}{s s1:acx}{H:Hp}{E:XK}{us:List acy}{vs:List V}(S:FnScope N ps scope)(z:yU P w K mg base A outer s H)(ln:vs.length=ps.length)(r:Vals vs us)
  (x:InCallC s s.heap.objs.size (bindL (envOfC qual scope s.heap.objs.size f cd).kindOf (ps.zip us) λ_=>none) (cellsFrom (s.heap.objs.size+1) scope.names []) (bindC (envOfC qual scope s.heap.objs.size f cd).kindOf (ps.zip us) λ_=>none) s1) :
  Inv (JN P w K mg base N qual scope f cd A outer s H E) [] (start N vs) H s1:=by
 have z':yU P w K mg base { A with handled:=none } outer s H:=⟨z.frames,z.mod,z.bs,z.Hy,z.mG,z.HS,z.hok,z.bare⟩
 have I:=tM (CX:=CXJ P w) (E:=E) (cd:=cd) (A:={ A with handled:=none }) S rfl z' ln r x
 have o:=I.ok
 exact⟨⟨o.mod,o.kind,o.glob,o.blt,o.above,o.inj,o.has,o.Qd,(λh=>by cases h),o.frames,o.stk,o.Us,o.bs,o.Hy,o.B0,o.DC,o.mG,o.HS⟩,I.os,I.bare,I.base,I.loc,I.cell,I.free,I.hV,I.pin,I.hok,I.len⟩
theorem RT{N:List Str}{qual:Str}{scope:Scope}{f:acr}{cdv:acy}{A:acs}{outer:List Env}{s s':acx}{H H':Hp}{E:XK}{σ:St}{c:PySem.Str}{e:acy}
  (r:ve (JN P w K mg base N qual scope f cdv A outer s H E) σ H' c e s')(h:∀C,ClsAt K c C->E (.ref C) none H'):(JN P w K mg base N qual scope f cdv A outer s H E).xe e s':=by
 obtain⟨C,pins,Hc,sc,hC,I,r⟩:=r
 rcases r with fl | ⟨rfl,a,args,rfl,ho,hg,M⟩
 ·exact pv (X:=JN P w K mg base N qual scope f cdv A outer s H E) rfl rfl rfl I fl λs2 yG=>⟨H',C,yG,h C hC⟩
 ·exact qR (X:=JN P w K mg base N qual scope f cdv A outer s H E) rfl rfl rfl I ho hg M λs2 yG=>⟨H',C,yG,h C hC⟩
theorem Vt{x qual:Str}{st:Stmt}{f:acr}{fd:acu}{N ps:List Str}{k:Nat}{g:GS}(F:K2 K x qual st f fd)(S:FnScope N ps (defScope st))
  (body:∀(cdv:acy)(A:acs)(outer:List Env)(s:acx)(H:Hp)(E:XK),ic k (A.deeper (envOfC qual (defScope st) s.heap.objs.size f cdv))->zp (JN P w K mg base N qual (defScope st) f cdv A outer s H E)->nj (JN P w K mg base N qual (defScope st) f cdv A outer s H E) (defBody st) g) :
  Fh P w K mg base (k+1) f fd ps (spW K ps.length (cN N.length g)):=by
 have hpl:ps.length<=N.length:=by have:=congrArg dq S.pre;rw[dt] at this;omega
 obtain⟨oc,od,kV,doc,pm,an,cdv,ct,osl,rfl,lk,hcd⟩:=F.ex
 have len:∀vs H Q E,spW K ps.length (cN N.length g) vs H Q E->vs.length=ps.length:=λvs H Q E h=>by
  obtain⟨m,st',ws,_,r,hl,_⟩:=h
  rw[<-r.length];exact hl
 refine⟨len,λA outer s H args us vs Q E hr ha z hb r Ir=>?_⟩
 have ln:=len _ _ _ _ Ir
 have kx:K.In s.heap:=z.mod.LW.keeps λb o q=>(z.bs b o q).1
 have nl:s.heap.NoLimit:=z.mod.nolimit.keeps λb o q=>(z.bs b o q).1
 have kinds:∀y∈ps.zip us,(defScope st).names.lookup y.1=some .local\/((defScope st).names.lookup y.1=some .cell/\((cellsFrom (s.heap.objs.size+1) (defScope st).names []).lookup y.1).isSome=true):=λy hy=>by
  rcases S.par y.1 (uR hy).1 with t | t
  ·exact .inl t
  ·exact .inr ⟨t,PySem.W.cellsFrom_some _ _ _ (.inl t)⟩
 refine codeAny_call_function (by have:=hr.d;omega) (kx _ _ lk) rfl S.co S.gen rfl (PySem.W.codeRec_of kx hcd) (hb _ _ _ _ ?_)
 refine wpAny_newFunctionEnv_cells S.kind kinds λenv he s1 y=>?_
 subst he
 refine⟨nl.keeps y.toInCall.keep,codeAny_func ?_⟩
 obtain⟨m,st',ws,S',rs,hl,p⟩:=Ir
 have I:=NO (E:=E) (cd:=cdv) S z ln r y
 have go:Q_ (JN P w K mg base N qual (defScope st) f cdv A outer s H E) (defBody st) { nx:=λ_ H'=>Q .aI H',rt:=Q } (start N vs) H:=by
  refine body cdv A outer s H E (hr.down _) ha _ st' _ H m _ S' (xb rs (by omega)) ?_
  unfold cN at p
  cases e:g (ws.map some++ar (N.length - ws.length) none) st' with
  | nx ρ st2=>rw[e] at p;exact λσ m' H' e' S2 R2=>p _ m' H' e' S2 (by unfold aj;rfl)
  | rt w' st2=>rw[e] at p;exact p
  | bk ρ st2=>rw[e] at p;exact aa p
  | ct ρ st2=>rw[e] at p;exact aa p
  | err c ρ st2=>rw[e] at p;exact λσ m' H' x s' e' S2 R2 rz=>RT rz λC hC=>p m' H' C e' S2 hC
  | bad=>rw[e] at p;exact aa p
 refine acP (gE [] s1 (start N vs) H _ I go) (λfl s' hs=>?_) λe s' hs=>hs
 cases fl with
 | ret u=>obtain⟨v,σ',H',I',rv,q⟩:=hs;exact⟨v,H',I'.os,I'.bare,I'.base,I'.hok,rv,q⟩
 | next=>obtain⟨σ',H',I',q⟩:=hs;exact⟨.aI,H',I'.os,I'.bare,I'.base,I'.hok,rfl,q⟩
 | brk=>obtain⟨_,_,_,q⟩:=hs;exact aa q
 | cont=>obtain⟨_,_,_,q⟩:=hs;exact aa q
end
section
variable {X:Cx}
theorem Fi{k n:Nat}{f:acr}{fd:acu}{ps:List Str}{F:List Wv->Hs->Re Wv}{x:Str}{p pos:Pos}{e:Expr}{es:List Expr}{g:GA}
  (G:Fh X.prog X.w X.K X.mg X.base k f fd ps (spW X.K n F))(hr:ic k X.A)(hH:zp X)(hm:X.mg x=some (.ref f))(hk:PySem.W.keepIn X.K (.ref f)=true)(hb:Binds X.K fd ps [])(ha:JA X (e::es) g)(hg:Gl X x)
  (hdb:(x == ("__debug__":Str))=false)(he:acK (e::es) X.env=(false,eval e X.env)::acK es X.env)(hpl:(backTo pos (acK es X.env)).any (·.1)=false) :
  JE X (.Call (.Name x p) (e::es) [] pos) (aK n F g):=by
 intro ρ st σ H m Q S R p pins s I
 have args:=ha.go (T:=λvs H1=>∃ws st1 m1,gR X σ m H (if ws.length=n then F ws st1 else .bad) Q/\Ext X.K m H m1 H1/\bG X.K m1 st1 H1/\ai X.K m1 H1 ws vs) S R (az.bind p)
  λws st1 vs m1 H1 p1 e1 S1 rs=>⟨ws,st1,m1,p1,e1,S1,rs⟩
 refine wpAny_Call_Name_kw (nE I hg hm ?_ hdb)
 refine PySem.W.callWith_K (h₀:=X.base) I.ok.mod.LW hk (bJ (args pos pins s I) λus s1 ⟨vs,H1,I1,r,ws,st1,m1,p1,e1,S1,rs⟩=>⟨I1.Dq,?_⟩) he hpl
 by_cases c:ws.length=n
 ·rw[if_pos c] at p1
  let E:XK:=λcl _ H2=>∃c' st2 m2 C,cl= .ref C/\ClsAt X.K c' C/\F ws st1= .err c' st2/\Ext X.K m1 H1 m2 H2/\bG X.K m2 st2 H2
  have sp:spW X.K n F vs H1 Q E:=by
   refine⟨m1,st1,ws,S1,rs,c,?_⟩
   cases er:F ws st1 with
   | ok w st2=>rw[er] at p1;exact gR.shift (r:=.ok w st2) p1 e1
   | err c' st2=>exact λm2 H2 C e2 S2 hC=>⟨c',st2,m2,C,rfl,hC,er,e2,S2⟩
   | bad=>rw[er] at p1;exact aa p1
  have hl:us.length=ps.length:=by rw[<-r.length];exact G.n _ _ _ _ sp
  have bd:=hb s1 us I1.Dq (by rw[jO];exact hl)
  rw[jO] at bd
  refine wpAny_call (codeAny_mono (G.go X.A X.stack s1 H1 ⟨us,[]⟩ us vs Q E hr (hH.at I1) I1.QV bd r sp) λrr s2 hq=>?_)
  cases rr with
  | error x=>
   obtain⟨H2,C,fl,c',st2,m2,C',ec,hC,er,e2,S2⟩:=hq
   cases ec
   rw[er] at p1
   exact p1 m2 H2 x s2 (e1.trans e2) S2 ⟨C,pins,H1,s1,hC,I1,.inl fl.any⟩
  | ok fw=>
   cases fw with
   | ret u=>exact I1.after hq
   | next=>exact aa hq
   | brk=>exact aa hq
   | cont=>exact aa hq
 ·rw[if_neg c] at p1;exact aa p1
end
def xy(P:acw)(w:acz)(K:PySem.W.Frag)(mg:Str->Option acy)(base:Heap)(k:Nat)(x:Str)(n:Nat)(F:List Wv->Hs->Re Wv):Prop :=
 ∃f fd ps,Fh P w K mg base k f fd ps (spW K n F)/\mg x=some (.ref f)/\PySem.W.keepIn K (.ref f)=true/\Binds K fd ps []
theorem xy.mono{P:acw}{w:acz}{K:PySem.W.Frag}{mg:Str->Option acy}{base:Heap}{j k:Nat}{x:Str}{n:Nat}{F:List Wv->Hs->Re Wv}(h:xy P w K mg base j x n F)(l:j<=k):xy P w K mg base k x n F:=by
 obtain⟨f,fd,ps,G,r⟩:=h
 exact⟨f,fd,ps,⟨G.n,λA outer s H args us vs Q E hr=>G.go A outer s H args us vs Q E (hr.less l)⟩,r⟩
section
variable {X:Cx}
end
section
variable {X:Cx}
end
abbrev TQ:=Option (Nat×List Wv)×List Wv
def CJ(c:Option (Nat×List Wv))(st:Hs):Prop:=match c with
 | some (l,ws)=>ao st l=some ws
 | none=>True
structure Fj(X:Cx)(w:TQ)(m1:Mp)(H1:Hp)(J':It):Prop where
 go:∀(k:Nat)(H:Hp)(m':Mp)(st:Hs),Ext X.K m1 H1 m' H->bG X.K m' st H->CJ w.1 st->k < w.2.length->J'.go k H
 stop:∀(k:Nat)(H:Hp)(m':Mp)(st:Hs),Ext X.K m1 H1 m' H->bG X.K m' st H->CJ w.1 st->k=w.2.length->J'.stop k H
 yF:∀(k:Nat)(hk:k < w.2.length)(H:Hp)(v:V)(H':Hp)(m':Mp)(st:Hs),Ext X.K m1 H1 m' H->bG X.K m' st H->CJ w.1 st->J'.yF k H v H'->Ext X.K m' H m' H'/\bG X.K m' st H'/\aj X.K m' H' w.2[k] v
abbrev Qp:=b9->Hs->Re TQ
def TR(X:Cx)(tg iter:Expr)(gi:Qp):Prop:=∃wi,PI X tg iter wi/\∀(ρ:b9)(st:Hs)(σ:St)(H:Hp)(m:Mp)(R:It->Hp->Prop),bG X.K m st H->aA X.K m H ρ σ->
 az X σ m H (gi ρ st) (λw st1=>∀(m1:Mp)(H1:Hp)(J':It),Ext X.K m H m1 H1->bG X.K m1 st1 H1->CJ w.1 st1->Fj X w m1 H1 J'->R J' H1)->wi σ H R
section
variable {X:Cx}
theorem NP{tg iter:Expr}{gi:GI}(h:JI X tg iter gi):TR X tg iter (λρ st=>(gi ρ st).bind λw st1=> .ok (w.1.map λl=>(l,w.2),w.2) st1):=by
 obtain⟨wi,hp,hw⟩:=h
 refine⟨wi,hp,λρ st σ H m R S r p=>hw ρ st σ H m R S r ((az.bind p).imp Ext.refl λw st1 q m1 H1 J' e1 S1 c1 Cy=>?_)⟩
 obtain⟨o,ws⟩:=w
 have cc:∀st,CJ (o.map λl=>(l,ws)) st->kZ (o,ws) st:=λst c=>by cases o<;>exact c
 have cc':kZ (o,ws) st1->CJ (o.map λl=>(l,ws)) st1:=λc=>by cases o<;>exact c
 refine q m1 H1 J' e1 S1 (cc' c1) ⟨λk H2 m' st2 e S2 c=>Cy.go k H2 m' st2 e S2 (cc _ c),λk H2 m' st2 e S2 c=>Cy.stop k H2 m' st2 e S2 (cc _ c),λk hk H2 v H3 m' st2 e S2 c y=>?_⟩
 obtain⟨rfl,rr⟩:=Cy.yF k hk H2 v H3 m' st2 e S2 (cc _ c) y
 exact⟨Ext.refl,S2,rr⟩
end
open Classical in
def mC(is:List Nat)(gb:GS)(c:Option (Nat×List Wv)):List Wv->b9->Hs->Rs
 | [],ρ,st=> .nx ρ st
 | w::r,ρ,st=>match Nq is w ρ with
  | none=> .bad
  | some ρ1=>match gb ρ1 st with
   | .nx ρ' st'=>if CJ c st' then mC is gb c r ρ' st' else .bad
   | .ct ρ' st'=>if CJ c st' then mC is gb c r ρ' st' else .bad
   | .bk ρ' st'=> .nx ρ' st'
   | .rt w st'=> .rt w st'
   | .err c ρ' st'=> .err c ρ' st'
   | .bad=> .bad
def rC(is:List Nat)(gi:Qp)(gb:GS):GS:=λρ st=>(gi ρ st).bJ ρ λw st1=>mC is gb w.1 w.2 ρ st1
section
variable {X:Cx}
theorem Be{es:List Expr}{is:List Nat}{k:Nat}{iter:Expr}{body:List Stmt}{gi:Qp}{gb:GS}{pos pos':Pos}(hN:X.N.Nodup)(hp:PassesOwn (model X.prog X.w) X.A X.env X.xe)(hc:X.calm=true)(sl:Slots X es is)(hi:TR X (.Tuple es k pos') iter gi)(hb:nj X body gb)
  (hs:∀x,acG iter X.env x=pure x):JS X (.For (.Tuple es k pos') iter body [] pos) (rC is gi gb):=by
 obtain⟨wi,Vq,hw⟩:=hi
 refine JS.of (qz hp hc Vq (yN hc (lQ hN sl) (nV sl) (lR sl)) gE hs) λρ st σ H m D S R p=>?_
 refine hw ρ st σ H m _ S R ((aJ.di R p).imp Ext.refl λw st1 p1 m1 H1 J' e1 S1 c1 Cy=>?_)
 obtain⟨cc,ws⟩:=w
 let Pv:Nat->St->Hp->Prop:=λk σ H=>∃ρ st m',Ext X.K m1 H1 m' H/\bG X.K m' st H/\aA X.K m' H ρ σ/\CJ cc st/\aJ X m' H (mC is gb cc (ws.drop k) ρ st) D
 refine⟨λk n σ H=>n=ws.length - k/\k<=ws.length/\Pv k σ H,⟨ws.length,by simp,bY _,ρ,st1,m1,Ext.refl,S1,R.mono e1,c1,aJ.shift p1 e1⟩,?_⟩
 rintro k n σ2 H2 ⟨rfl,hk,ρ2,st2,m2,e2,S2,R2,c2,p2⟩
 by_cases hlt:k < ws.length
 ·refine .inr ⟨Cy.go k H2 m2 st2 e2 S2 c2 hlt,Pv (k+1),λσ' H' p'=>⟨ws.length - (k+1),by omega,rfl,hlt,p'⟩,λx H' y=>?_⟩
  obtain⟨eY,S2',pK⟩:=Cy.yF k hlt H2 x H' m2 st2 e2 S2 c2 y
  have ed:ws.drop k=ws[k]::ws.drop (k+1):=qU hlt
  rw[ed] at p2
  unfold mC at p2
  replace p2:=aJ.shift p2 eY
  have R2':=R2.mono eY
  have Cu:=e2.trans eY
  have Vu:aj X.K m2 H' ws[k] x:=pK
  cases eb:ws[k] with
  | tup us=>
   rw[eb] at p2 Vu
   dsimp only[Nq] at p2
   cases e5:xl is us ρ2 with
   | none=>rw[e5] at p2;exact aa p2
   | some ρ5=>
    rw[e5] at p2
    dsimp only at p2
    unfold aj at Vu
    obtain⟨b,ys,rfl,f1,f2⟩:=Vu
    refine⟨b,ys,rfl,fV.of f1,by rw[<-f2.length];exact nU e5,nT f2 R2' e5 λσ5 R5=>?_⟩
    refine hb _ st2 _ _ m2 _ S2' R5 ?_
    cases eg:gb ρ5 st2 with
    | nx ρ3 st3=>
     rw[eg] at p2
     by_cases c:CJ cc st3
     ·simp only[if_pos c] at p2
      exact λσ3 m3 H3 e3 S3 R3=>⟨ρ3,st3,m3,Cu.trans e3,S3,R3,c,aJ.shift p2 e3⟩
     ·simp only[if_neg c] at p2;exact aa p2
    | ct ρ3 st3=>
     rw[eg] at p2
     by_cases c:CJ cc st3
     ·simp only[if_pos c] at p2
      exact λσ3 m3 H3 e3 S3 R3=>⟨ρ3,st3,m3,Cu.trans e3,S3,R3,c,aJ.shift p2 e3⟩
     ·simp only[if_neg c] at p2;exact aa p2
    | bk ρ3 st3=>rw[eg] at p2;exact p2
    | rt w3 st3=>rw[eg] at p2;exact p2
    | err c3 ρ3 st3=>rw[eg] at p2;exact p2
    | bad=>rw[eg] at p2;exact p2
  | _=>rw[eb] at p2;exact aa p2
 ·have e:k=ws.length:=by omega
  subst e
  rw[vo] at p2
  exact .inl ⟨Cy.stop _ H2 m2 st2 e2 S2 c2 rfl,p2 σ2 m2 H2 Ext.refl S2 R2⟩
end
open Classical in
section
variable {X:Cx} {pins:List (acr×Obj)} {σ:St} {H:Hp} {s:acx} {scope:Scope} {x:Str} {xr:List Str} {cs:iK}
end
section
variable {prog:acw} {w:acz} {A:acs} {R:Result->acx->Prop} {s:acx}
end
section
variable {X:Cx}
end
section
variable {X:Cx}
end
section
open PySem.SeqAt PySem.MeetsSeq PySem.MeetsSeq2 PySem.MeetsSeq3
end
section
variable {X:Cx}
end
section
variable {X:Cx}
end
section
variable {X:Cx}
end
section
variable {X:Cx}
theorem Fl:fW X (acB .Mult) (λx y H Q=>∃z n,x= .str z/\y= .int n/\(n=0\/n=1)/\Q (.str (if n=0 then PySem.Str.empty else z)) H):=by
 intro pins s σ H x y v u Q I rx ry h
 obtain⟨z,n,rfl,rfl,hn,q⟩:=h
 obtain⟨t,rfl⟩:=rx
 obtain⟨t',rfl⟩:=ry
 rcases hn with rfl | rfl
 ·exact PySem.P.mul_str_none (by omega) (by omega) ⟨.str PySem.Str.empty,H,I.tok _,⟨_,rfl⟩,q⟩
 ·refine PySem.P.mul_str (by decide) (λ_ h=>by cases h) (λ_ h=>by cases h) ?_
  rw[if_neg (by omega),if_pos (by rfl)]
  exact⟨.str z,H,I,⟨t,rfl⟩,q⟩
def Ln:hX:=λx y st=>match x,y with
 | .str z,.int n=>if n=0\/n=1 then .ok (.str (if n=0 then PySem.Str.empty else z)) st else q9 (.str z) (.int n) st
 | x,y=>q9 x y st
theorem JP:kU X (acB .Mult) Ln:=by
 obtain⟨r,h1,h2⟩:=Jw (X:=X)
 refine⟨_,fW.or Fl h1,λx y a b st H m Q S rx ry p=>?_⟩
 cases x with
 | str z=>
  cases y with
  | int n=>
   have p':cW X.K m H (if n=0\/n=1 then .ok (.str (if n=0 then PySem.Str.empty else z)) st else q9 (.str z) (.int n) st) Q:=p
   by_cases c:n=0\/n=1
   ·rw[if_pos c] at p'
    obtain⟨rfl,ok⟩:=eX rx
    refine .inl ⟨z,n,rfl,aS ry,c,p' _ m H Ext.refl S (mkStr ?_)⟩
    by_cases c0:n=0
    ·rw[if_pos c0];decide+kernel
    ·rw[if_neg c0];exact ok
   ·rw[if_neg c] at p'
    exact .inr (h2 _ _ _ _ st H m Q S rx ry p')
  | _=>exact .inr (h2 _ _ _ _ st H m Q S rx ry p)
 | _=>exact .inr (h2 _ _ _ _ st H m Q S rx ry p)
end
abbrev LF:=List Wv->List Wv->Hs->Re Wv
section
variable {X:Cx} {pins:List (acr×Obj)} {σ:St} {H:Hp} {s:acx}
end
def spL(K:PySem.W.Frag)(n:Nat)(p:Lm)(L:LF):Sp:=λvs H Q E=>∃m st ws caps,bG K m st H/\ai K m H ws vs/\ai K m H caps p.xs/\H p.c=some (.ext (Ea p.c p.q))/\ws.length=n/\Lg K m H (L caps ws st) Q E
def NQ(P:acw)(w:acz)(K:PySem.W.Frag)(mg:Str->Option acy)(base:Heap)(k:Nat)(p:Lm)(n:Nat)(L:LF):Prop :=
 ∃fd ps ob,FnOk P w K mg base (CXJ P w) k p.a fd ps (spL K n p L)/\base.get? p.a=some ob/\ob.data= .func fd/\Binds K fd ps []
open Classical in
section
variable {X:Cx}
end
section
variable {P:acw} {w:acz} {K:PySem.W.Frag} {mg:Str->Option acy} {base:Heap} {p:Lm} {scope:Scope} {x1 x2 x3 y:Str} {cy:acr}
end
structure Lo(X:Cx)(q:Str)(P:acr):Prop where
 code:∃c,X.env.code= .ref c/\PySem.W.CodeHd X.base c P
 qual:X.env.qual=q++".<locals>."
 tab:jR X.K q=some P
 mem:q∈du
 uniq:∀q',q'∈du->jR X.K q'=some P->q'=q
 bm:∃bm ob,X.mg "__builtins__"=some (.ref bm)/\bm≠builtinsNs/\bm≠acI/\X.base.get? bm=some ob/\ob.cls= .type "module"/\ob.dict=some builtinsNs/\ob.data= .plain
section
variable {X:Cx} {pins:List (acr×Obj)} {σ:St} {H:Hp} {s:acx} {q:Str} {P:acr}
end
abbrev YB:=Lm->LF->List Wv->Hs->Re Wv
def Vv(mg:Str->Option acy)(base:Heap):Prop:=∃bm ob,mg "__builtins__"=some (.ref bm)/\bm≠builtinsNs/\bm≠acI/\base.get? bm=some ob/\ob.cls= .type "module"/\ob.dict=some builtinsNs/\ob.data= .plain
def Fm(K:PySem.W.Frag)(mg:Str->Option acy)(base:Heap):Prop:=Mod K mg base/\Vv mg base
def YC(P:acw)(w:acz)(K:PySem.W.Frag)(mg:Str->Option acy)(k j:Nat)(x:Str)(FL:YB):Prop :=
 (∃f,mg x=some (.ref f)/\PySem.W.keepIn K (.ref f)=true)/\∀(base:Heap)(p:Lm)(L:LF),Fm K mg base->NQ P w K mg base (j+1) p 3 L->iS P w K mg base k x 2 (FL p L)
section
variable {X:Cx}
end
section
variable {P:acw} {w:acz} {A:acs} {E:acy->acx->Prop} {s:acx}
end
theorem boot_zip:acC "zip"=some (.type "zip"):=by decide+kernel
abbrev zA(h:Heap)(t1:acr):Heap:=h.push { cls:=.type "tuple_iterator",data:=.fields #[.ref t1,.int 0 0] }
abbrev zB(h:Heap)(t1 t2:acr):Heap:=zA (zA h t1) t2
abbrev zC(h:Heap)(t1 t2 t3:acr):Heap:=zA (zB h t1 t2) t3
abbrev zD(h:Heap)(t1 t2 t3:acr):Heap:=(zC h t1 t2 t3).push { cls:=.type "tuple",data:=.seq #[.ref h.objs.size,.ref (zA h t1).objs.size,.ref (zB h t1 t2).objs.size] }
section
variable {P:acw} {w:acz} {A:acs} {E:acy->acx->Prop} {s:acx}
end
section
variable {P:acw} {w:acz} {A:acs} {E:acy->acx->Prop} {s:acx}
end
section
variable {X:Cx}
end
def YD(a b c:Int):Prop:=0<=a/\a < 2 ^ 30/\0<=b/\b < 2 ^ 30/\1<=c/\c < 2 ^ 30
instance {a b c}:Decidable (YD a b c):=EC _
def RU(a b c:Int):Nat:=(if a < b then(b - a - 1) / c+1 else 0).toNat
section
variable {X:Cx} {tg:Expr}
def Vw(lo c:Int)(n:Nat):List Wv:=(ig n).map λk:Nat=>Wv.int (lo+k * c)
end
section
variable {X:Cx}
end
section
variable {X:Cx}
def JQ:List Wv->Hs->Re Wv
 | [.str x],st=>if x.length=1 then .ok (.int (x.cps.getD 0 0:Nat)) st else .bad
 | _,_=> .bad
theorem CK:acC "ord"=some (.builtin "ord"):=by decide+kernel
theorem NR:eG X (.builtin "ord") JQ:=⟨_,DR,λws vs st H m Q S r p=>by
 match ws,r,p with
 | [],r,p=>exact aa p
 | x::y::t,r,p=>cases x<;>exact aa p
 | [x],r,p=>
  obtain⟨v,rfl,rx⟩:=kG r
  cases x with
  | str z=>
   have p':cW X.K m H (if z.length=1 then .ok (.int (z.cps.getD 0 0:Nat)) st else .bad) Q:=p
   by_cases c:z.length=1
   ·rw[if_pos c] at p'
    obtain⟨rfl,_⟩:=eX rx
    exact⟨z,rfl,c,p' _ m H Ext.refl S mkInt⟩
   ·rw[if_neg c] at p';exact aa p'
  | _=>exact aa p⟩
end
theorem JR(l:acr)(items:Array acy)(n:Nat)(b:acr)(items2:Array acy)(n2:Nat)(dd:Option acr)(sl:Array (Option acy))(hs0:¬(!items.isEmpty&&qI (items.size+items2.size))=true)(hs1:items.size<=acJ)(hs2:items.size+items2.size<=acJ+1) :
  Meets (Builtin.«list.extend» ⟨[.ref l,.ref b],[]⟩) (λ_ R s=>s.heap.get? l=some { cls:=.type "list",dict:=none,data:=.seq items n,slots:=#[] }/\s.heap.get? b=some ⟨.type "tuple",dd,.seq items2 n2,sl⟩/\R (.ok (.ret bp)) { s with heap:=s.heap.update l (nK λx=>x++items2),toks:=s.toks }) :=
 .of_wp λprog w A R s h=>by
  obtain⟨hp,g,d,tk,os⟩:=s;obtain⟨hl,hb,h⟩:=h;have f1:=AutoSeq1.idx_int;have f2:=AutoSeq1.sub_tuple_tuple;have f3:=AutoSeq1.sub_list_list;have f4:=AutoSeq1.sub_tuple_list;have f5:=AutoSeq1.sub_list_tuple;
  have hz':(items++items2).size<=acJ+1:=by rw[Array.size_append];exact hs2
  wp_walk using (wpAny_updateSeq hl rfl (hz:=hs1) (_hz':=hz')),wpAny_loadPart' hl,wpAny_loadPart' hb;exact⟨_,rfl,h⟩
def xA(K:PySem.W.Frag):V->List V->Hp->VK->Prop:=λx vs H Q=>∃l b xs zs,x= .ref l/\vs=[.ref b]/\H l=some (.lst xs)/\fV K H b zs/\xs.length+zs.length<=acJ/\Q .aI (upd H l (.lst (xs++zs)))
section
variable {X:Cx}
theorem zH:US X "list.extend" (xA X.K):=by
 intro pins s σ H x vs v us Q I rx rv h
 obtain⟨l,b,xs,zs,rfl,rfl,hH,hB,hz,q⟩:=h
 cases rx
 obtain⟨u,rfl,ru⟩:=rv.one
 cases ru
 obtain⟨z,its,n,r,hl,e⟩:=I.y7 hH
 obtain⟨its2,r2,⟨o,e2,oc,n2,od⟩,z2⟩:=I.tuple hB
 obtain⟨oc',dd,od',sl⟩:=o
 dsimp only at oc od
 subst oc od
 have l1:xs.length=its.length:=r.length
 have l2:zs.length=its2.length:=r2.length
 have hsz:its.toArray.size+its2.toArray.size<=acJ:=by rw[aM,aM];omega
 have wO:¬(!its.toArray.isEmpty&&qI (its.toArray.size+its2.toArray.size))=true:=by
  rw[qH hsz,Bool.and_false]
  exact bD
 refine call_meets F.slot_list_extend ⟨_,e,rfl⟩ F.entry_list_extend (F.args_list_extend_2 _ _)
  (JR l its.toArray n b its2.toArray n2 dd sl wO (by rw[aM];omega) (by omega)) ⟨e,e2,?_⟩
 refine⟨.aI,_,I.IF (its':=its++its2) hH e (by simp) (r.append r2) ?_,rfl,q⟩
 rw[cY]
 omega
def pB(o v:Wv)(st:Hs):Re Wv:=match v with
 | .tup zs=>(match o with
  | .ref l=>(match st[l]? with
   | some (.lst ws)=>if ws.length+zs.length<=lim then .ok .aI (st.set l (.lst (ws++zs))) else .bad
   | _=> .bad)
  | _=> .bad)
 | v=>Nm o v st
theorem JU:TJ X "list.extend" pB:=by
 obtain⟨r0,m0,h0⟩:=Nn (X:=X)
 refine⟨λx vs H Q=>r0 x vs H Q\/xA X.K x vs H Q,?_,λo w x v st H m Q S ro rw' p=>?_⟩
 ·intro pins s σ H x vs v us Q I rx rv h
  rcases h with h | h
  ·exact m0 pins s σ H x vs v us Q I rx rv h
  ·exact zH pins s σ H x vs v us Q I rx rv h
 ·cases w with
  | tup zs=>
   refine .inr ?_
   cases o with
   | ref l=>
    unfold aj at ro rw'
    obtain⟨a,rfl,ha⟩:=ro
    obtain⟨b,ys,rfl,hb,g2⟩:=rw'
    have p':cW X.K m H (match st[l]? with | some (.lst ws)=>if ws.length+zs.length<=lim then .ok .aI (st.set l (.lst (ws++zs))) else .bad | _=> .bad) Q:=p
    cases e:st[l]? with
    | none=>rw[e] at p';exact aa p'
    | some ob=>
     cases ob with
     | dct kvs=>rw[e] at p';exact aa p'
     | bX kvs=>rw[e] at p';exact aa p'
     | nL kvs=>rw[e] at p';exact aa p'
     | Cc kvs=>rw[e] at p';exact aa p'
     | Ds kvs=>rw[e] at p';exact aa p'
     | sv ns=>rw[e] at p';exact aa p'
     | lst ws=>
      rw[e] at p'
      dsimp only at p'
      by_cases c:ws.length+zs.length<=lim
      ·rw[if_pos c] at p'
       obtain⟨xs,h1,h2⟩:=S.nM ha e
       have e4:Ext X.K m H m (upd H a (.lst (xs++ys))):=Ext.upd (.inr ⟨xs,h1⟩)
       exact⟨a,b,xs,ys,rfl,rfl,h1,fV.of hb,by rw[<-h2.length,<-g2.length];exact eI c,p' _ m _ e4 (S.write ha e (h2.append g2)) w5⟩
      ·rw[if_neg c] at p';exact aa p'
   | _=>exact aa p
  | _=>exact .inl (h0 o _ x v st H m Q S ro rw' p)
end
section
variable {X:Cx}
end
theorem sJ:entryFor table "proto.unchain"=some Builtin.«proto.unchain»:=entryFor_of_fast (by kernel_rfl)
section
variable {prog:acw} {w:acz} {A:acs} {E:acy->acx->Prop} {s:acx}
theorem zI{b:acr}{o:Obj}{vs:Array acy}{e:acy}{Q:acy->acx->Prop}(h1:s.heap.get? b=some o)(h2:o.data= .fields vs)(h3:vs[2]? =some bp)(k:Q .none s) :
  acL (model prog w) A (runValue (.builtin "proto.unchain" ⟨[e,.ref b,.ref b,.bool false],[]⟩)) Q E s:=by
 refine wpAny_runValue (codeAny_builtin sJ ?_)
 unfold Builtin.«proto.unchain»
 refine(show acL _ _ (field (.ref b) 2 >>= _) _ _ s from acM (wpAny_field h1 h2 h3 ?_))
 rw[if_pos (by rfl)]
 exact acR k
theorem zJ{it b:acr}{o:Obj}{vs:Array acy}{x left step:Int}{Q:Option acy->acx->Prop}(hh:A.handled=some (.ref b))(h1:s.heap.get? b=some o)(h2:o.data= .fields vs)(h3:vs[2]? =some bp)(hit:IsRangeIter s.heap it x left step)(hl:left<=0)
  (k:∀h',Ff it s.heap h'->Q none { s with heap:=h' }):acL (model prog w) A (pyNext (.ref it)) Q E s:=by
 have ty:s.TypeIs (.ref it) "range_iterator":=⟨_,hit,rfl⟩
 unfold pyNext
 refine acM (wpAny_attempt (wpAny_callSpecial?_slot (name:=fh "__next__") ty PySem.F.slot_range_iterator_next (wpAny_call_entry PySem.F.slot_range_iterator_next ty PySem.F.entry_range_iterator_next ?_ (PySem.F.args_range_iterator_next_1 _))))
 refine(show acL _ _ (field (.ref it) 0 >>= _) _ _ s from acM (wpAny_field hit rfl (x:=rawInt x) rfl ?_))
 refine(show acL _ _ (field (.ref it) 1 >>= _) _ _ s from acM (wpAny_field hit rfl (x:=rawInt left) rfl ?_))
 refine(show acL _ _ (field (.ref it) 2 >>= _) _ _ s from acM (wpAny_field hit rfl (x:=rawInt step) rfl ?_))
 refine(show acL _ _ (if left<=0 then _ else _) _ _ s from ?_)
 rw[if_pos hl]
 refine acM (wpAny_rule (acM ?_))
 refine(show acL _ _ (newExc (.type "StopIteration") [] >>= _) _ _ _ from ?_)
 simp only[newExc,newTuple,raiseNew]
 refine acM (acM (acQ (acM (m:=firstArgMember _ _) (wpAny_of_eq (a:=bp) (by first | rfl | (simp only[firstArgMember];rfl)) (acQ ?_ (by size_fits)))) (by size_fits)))
 refine(acM (wpAny_handled ?_))
 rw[show A.in1.handled=some (.ref b) from hh]
 dsimp only
 have lt:b≠(s.heap.push { cls:=.type "tuple",data:=.seq #[] }).objs.size:=λz=>by
  have q:=aC (aL (h:=s.heap) { cls:=.type "tuple",data:=.seq #[] } h1)
  rw[<-z] at q
  exact cX _ q
 rw[if_pos (by simpa using lt)]
 refine acM (acO (zI (aL _ (aL _ h1)) h2 h3 ?_))
 refine acM ((show acL (model prog w) A.in1 (setField (.ref (s.heap.push { cls:=.type "tuple",data:=.seq #[] }).objs.size) 2 (.ref b)) _ _ _ from wpAny_setField (bz _ rfl) rfl (by simp[ownMembersOf]) (wpAny_throw ?_)))
 refine acM (wpAny_isInstance (b:=true) (T:="StopIteration") ⟨_,oK _ (bz _ rfl) rfl,rfl⟩ isSubtype_stop (acR ?_))
 refine k _ λc q hc e=>?_
 have e':((s.heap.push { cls:=.type "tuple",data:=.seq #[] }).push { cls:=iU "StopIteration",data:=.fields (#[.ref s.heap.objs.size,.none,.none,.none,.bool false,.none]++ownMembersOf (.type "StopIteration") []) }).get? c=some q:=(((Heap.ExtBut.refl it s.heap).push _).push _) c q hc e
 have ne:c≠(s.heap.push { cls:=.type "tuple",data:=.seq #[] }).objs.size:=λz=>by
  have q':=aC (aL (h:=s.heap) { cls:=.type "tuple",data:=.seq #[] } e)
  rw[<-z] at q'
  exact cX _ q'
 exact(oM _ _ (bZ ne)).trans e'
end
theorem Fn{X:Cx}(h:zp X):Ql zp X:=λ_ _ _ _ _ _ _ _ I=>h.at I
theorem xB{P:acw}{w:acz}{K:PySem.W.Frag}{tg:Expr}(it:acr)(lo:Int)(n:Nat):A4 zp P w K tg (Hz lo n) [it] it (λi h=>IsRangeIter h it (lo+(i:Nat) * 1) ((n:Int) - (i:Nat)) 1) where
 obj:=(jM (P:=P) (w:=w) (K:=K) (tg:=tg) it lo n).obj
 keep:=(jM (P:=P) (w:=w) (K:=K) (tg:=tg) it lo n).keep
 self:=(jM (P:=P) (w:=w) (K:=K) (tg:=tg) it lo n).self
 item:=by
  intro X hP hw hK hc i pins s σ H E I hf st hg
  subst hP hw hK
  have hg':i < n:=hg
  obtain⟨f0,f1,f2,f3,f4,f5⟩:=hf it (by simp)
  refine wpAny_pyNext_range_item st (by omega) λh' st' sb=>?_
  have st2:IsRangeIter h' it (lo+((i+1:Nat):Int) * 1) ((n:Int) - ((i+1:Nat):Int)) 1:=by
   have e1:lo+((i+1:Nat):Int) * 1=lo+(i:Int) * 1+1:=by push_cast;omega
   have e2:(n:Int) - ((i+1:Nat):Int)=(n:Int) - (i:Int) - 1:=by push_cast;omega
   rw[e1,e2];exact st'
  have I1:Inv X pins σ H { s with heap:=h',toks:=s.toks+1 }:=I.turned (λb o hb e=>sb.extBut b o hb e) f0 f1 f3 f4 f5
  exact⟨_,rfl,tq (s:={ s with heap:=h',toks:=s.toks+1 }) (n:="range_iterator") st2 rfl rfl (by decide) ⟨.int (lo+i),H,I1,⟨s.toks,by rw[Int.mul_one]⟩,⟨rfl,rfl⟩,st2,λb hb=>(hf b hb).1⟩⟩
 done:=by
  intro X hP hw hK hc i pins s σ H E I hf st hg
  subst hP hw hK
  have hg':n<=i:=hg
  obtain⟨f0,f1,f2,f3,f4,f5⟩:=hf it (by simp)
  rcases hc.at I with h0 | ⟨b,o,u,h1,⟨vs,d1,d2⟩,h3⟩
  ·exact wpAny_pyNext_range_end h0 st (by omega) λh' eb=>⟨rfl,I.turned (t':=s.toks) (λb o hb e=>eb b o hb e) f0 f1 f3 f4 f5⟩
  exact zJ h1 (I.hok _ _ h3).1 d1 d2 st (by omega) λh' eb=>⟨rfl,I.turned (t':=s.toks) (λb o hb e=>eb b o hb e) f0 f1 f3 f4 f5⟩
section
variable {X:Cx} {tg:Expr}
theorem zK{a:Expr}{ta:TA}{p pos:Pos}(hg:Gl X "range")(hm:X.mg "range"=none)(ha:PA X [a] ta)(hs:acK [a] X.env=[(false,eval a X.env)]):Vp zp X tg (.Call (.Name "range" p) [a] [] pos) (KY ta):=by
 intro pins s σ H R I h
 refine Call_ (kN I hg hm boot_range (nG (bJ (ha pos pins s σ H _ I h) λus s1 ⟨vs,H1,I1,r1,j,e,q1,q2,q⟩=>?_) hs rfl))
 subst e
 obtain⟨u,rfl,t,rfl⟩:=vals1 r1
 refine call_range_1 (wpAny_pyIter_range (IsRange.new ..) (small_one (by omega) (by omega) q1 q2) ?_)
 generalize hh:s1.heap.push { cls:=.type "range",data:=.fields _ }=h2
 have I2:∀tk,Inv X pins σ H1 { s1 with heap:=h2,toks:=tk }:=λtk=>I1.kept λb o e=>by rw[<-hh];exact aL _ e
 refine⟨h2.objs.size,[h2.objs.size],_,Hz 0 j.toNat,H1,rfl,(I2 _).kept (t':=_) λb o e=>aL _ e,xB _ 0 j.toNat,?_,λb hb=>?_,q⟩
 ·have e2:((j.toNat:Nat):Int) - ((0:Nat):Int)=Md 0 j 1:=by rw[rangeSize_one];split<;>omega
  refine(show IsRangeIter _ _ ((0:Int)+((0:Nat):Int) * 1) (((j.toNat:Nat):Int) - ((0:Nat):Int)) 1 from ?_)
  rw[e2]
  exact bz _ rfl
 ·rw[List.mem_singleton.mp hb]
  exact(I2 s1.toks).yO (au _) ((I2 s1.toks).hok.fresh (au _))
theorem NT{a:Expr}{ga:GA}{p q:Pos}(hg:Gl X "range")(hm:X.mg "range"=none)(ha:JA X [a] ga)(hst:acK [a] X.env=[(false,eval a X.env)]):Qo zp X tg (.Call (.Name "range" p) [a] [] q) (sG ga):=by
 refine⟨_,zK hg hm ku hst,λρ st σ H m Q S R p=>?_⟩
 refine ha.go S R (az.bind p) λws st1 vs m1 H1 p1 e1 S1 rs=>?_
 match ws,rs,p1 with
 | [],rs,p1=>exact aa p1
 | x::y::t,rs,p1=>cases x<;>exact aa p1
 | [x],rs,p1=>
  obtain⟨v,rfl,r1⟩:=kG rs
  cases x with
  | int j=>
   cases aS r1
   unfold xq at p1
   by_cases c:cP j
   ·simp only[if_pos c] at p1
    exact⟨j,rfl,c.1,c.2,p1 m1 H1 _ e1 S1 trivial zw⟩
   ·simp only[if_neg c] at p1;exact aa p1
  | _=>exact aa p1
end
section
variable {X:Cx} {a b c d:Expr} {pos:Pos}
end
section
variable {X:Cx} {pins:List (acr×Obj)} {σ:St} {E:acy->acx->Prop} {p:acr}
end
section
variable {X:Cx} {pos:Pos}
end
def getD(d k:Wv)(st:Hs):Option Wv:=match d with
 | .ref l=>(match st[l]? with
  | some (.dct kvs)=>(match keyOf k with | some kk=>bS kvs kk | none=>none)
  | some (.bX kvs)=>(match mn k with | some kk=>bS kvs kk | none=>none)
  | some (.nL kvs)=>(match mn k with | some kk=>bS kvs kk | none=>none)
  | _=>none)
 | _=>none
section
variable {X:Cx}
end
section
variable {X:Cx} {pins:List (acr×Obj)} {σ:St} {H:Hp} {s:acx} {a:acr} {xs:List (List L2.Key×V)}
theorem NU(I:Inv X pins σ H s)(e:H a=some (.dT xs)):∃o,s.heap.get? a=some o/\Inv X pins σ (upd H a (.eL o (.dT xs))) s:=by
 obtain⟨z,lo,ys,kt,o,es,ep,g1,g2,g3,g4,g5⟩:=id (I.hok a _ e)
 refine⟨o,g1,qb (t':=s.toks) (h':=s.heap) I (by rw[e];exact qa) (Heap.SameBut.refl _ _) ⟨o,g1⟩ ⟨g1,z,lo,ys,KT.keeps kt λc zs ec=>?_,o,es,ep,g1,g2,g3,g4,g5⟩⟩
 rw[av (Dy ec e (λz=>nomatch z))]
 exact ec
theorem JV{o:Obj}(I:Inv X pins σ H s)(e:H a=some (.eL o (.dT xs)))(n:∀o u,X.H₀ a≠some (.eL o u)):Inv X pins σ (upd H a (.dT xs)) s:=by
 have ne:∀{b:acr},H b=none->b≠a:=λh z=>by rw[z,e] at h;cases h
 have g:=I.base
 have ow:∀c b,H c=some (.own b)->upd H a (.dT xs) c=some (.own b):=λc b q=>by
  rw[av (λz=>by rw[z,e] at q;cases q)];exact q
 have tu:∀c ys,H c=some (.tup ys)->upd H a (.dT xs) c=some (.tup ys):=λc ys q=>by
  rw[av (λz=>by rw[z,e] at q;cases q)];exact q
 refine⟨I.ok,I.os,I.bare,⟨g.keep,g.slot,λb ob q h hx=>?_,g.there,λb ys q=>tu b ys (g.tups b ys q),λb ob u q=>?_,λb ps q=>?_⟩,I.loc,I.cell,?_,λy c q=>?_,λp hp=>?_,λb u q=>?_,I.len⟩
 ·have h1:=g.free b ob q h hx
  rw[av (ne h1)];exact h1
 ·rw[av (λz=>n ob u (by rw[<-z];exact q))];exact g.ju b ob u q
 ·obtain⟨m,h1⟩:=g.kL b ps q
  exact⟨m,by rw[av (λz=>by rw[z,e] at h1;cases h1)];exact h1⟩
 ·rw[av (ne I.free)];exact I.free
 ·rw[av (ne (I.hV y c q))];exact I.hV y c q
 ·obtain⟨p1,p2,p3⟩:=I.pin p hp
  exact⟨p1,by rw[av (ne p2)];exact p2,p3⟩
 ·by_cases hb:b=a
  ·subst hb
   rw[aH] at q
   cases q
   exact dm.stay (I.hok b _ e).2 (λc v _ q=>q) (λc q=>ow c _ q) tu
  ·rw[av hb] at q
   exact(I.hok b u q).stay (λc v _ q=>q) (λc q=>ow c _ q) tu
end
section
variable {K:PySem.W.Frag} {m:Mp} {st:Hs} {H:Hp}
theorem RelK.fc{κ:Type}{m1:Mp}{H1:Hp}{kvs:List (κ×Wv)}{xs:List (κ×V)}(e:wV K m H m1 H1)(h:RelK K m H kvs xs):RelK K m1 H1 kvs xs:=⟨h.1,ai.fc e _ _ h.2⟩
theorem uh{a:acr}{o:Obj}{xs:List (List L2.Key×V)}(e:H a=some (.eL o (.dT xs))):wV K m H m (upd H a (.dT xs)) :=
 ⟨λ_ _ h=>h,λb ys q=>by rw[av (λz=>by rw[z,e] at q;cases q)];exact q,λb φ q=>by rw[av (λz=>by rw[z,e] at q;cases q)];exact q,λb ob φ q=>by rw[av (λz=>by rw[z,e] at q;cases q)];exact q⟩
theorem bG.NV{l:Nat}{a:acr}{o:Obj}{kvs:List (List L2.Key×Wv)}{xs:List (List L2.Key×V)}(S:bG K m st H)(h1:m[l]? =some a)(h2:st[l]? =some (.nL kvs))(e:H a=some (.eL o (.dT xs))):bG K m (st.set l (.bX kvs)) (upd H a (.dT xs)):=by
 have ez:=uh (K:=K) (m:=m) e
 have hl:l < st.length:=(List.getElem?_eq_some_iff.mp h2).1
 have at':∀(k:Nat)(ob:Ob),(st.set l (.bX kvs))[k]? =some ob->(k=l/\ob= .bX kvs)\/(k≠l/\st[k]? =some ob):=λk ob h=>by
  by_cases z:l=k
  ·subst z
   rw[iV hl] at h
   exact .inl ⟨rfl,(Option.some.inj h).symm⟩
  ·rw[cC z] at h
   exact .inr ⟨λz'=>z z'.symm,h⟩
 refine⟨by simp[S.len],λk b ob g1 g2=>?_,λk k' b us us' g1 K7 g2 U1 q q'=>?_,S.tab.keep (λc ps q=>?_) ez.ext⟩
 ·rcases at' k ob g2 with ⟨rfl,rfl⟩ | ⟨hk,g2⟩
  ·rw[h1] at g1
   cases g1
   obtain⟨o',xs',r1,r2⟩:=(show ∃o' xs',H a=some (.eL o' (.dT xs'))/\RelK K m H kvs xs' from S.obj _ _ _ h1 h2)
   rw[e] at r1
   cases r1
   exact⟨xs,aH,r2.fc ez⟩
  ·have q:=S.obj k b ob g1 g2
   have nb:ob.mu=true->b≠a:=λhm z=>hk (S.inj k l b ob _ g1 (z ▸ h1) g2 h2 hm rfl)
   cases ob with
   | lst ws=>obtain⟨ys,e1,e2⟩:=q;exact⟨ys,by rw[av (nb rfl)];exact e1,ai.fc ez _ _ e2⟩
   | dct ws=>obtain⟨ys,e1,e2⟩:=q;exact⟨ys,by rw[av (nb rfl)];exact e1,e2.fc ez⟩
   | bX ws=>obtain⟨ys,e1,e2⟩:=q;exact⟨ys,by rw[av (nb rfl)];exact e1,e2.fc ez⟩
   | Ds ws=>obtain⟨ys,e1,e2⟩:=q;exact⟨ys,by rw[av (nb rfl)];exact e1,e2.fc ez⟩
   | nL ws=>obtain⟨o',ys,e1,e2⟩:=q;exact⟨o',ys,by rw[av (nb rfl)];exact e1,e2.fc ez⟩
   | Cc ws=>obtain⟨o',ys,e1,e2⟩:=q;exact⟨o',ys,by rw[av (nb rfl)];exact e1,e2.fc ez⟩
   | sv ns=>
    rcases q with ⟨o',q⟩ | q
    ·exact .inl ⟨o',by rw[av (λz=>by rw[z,e] at q;cases q)];exact q⟩
    ·exact .inr q
 ·have back:∀(k:Nat)(ob:Ob),(st.set l (.bX kvs))[k]? =some ob->ob.mu=true->∃o',st[k]? =some o'/\o'.mu=true:=λk ob h ho=>by
   rcases at' k _ h with ⟨rfl,_⟩ | ⟨_,h⟩
   ·exact⟨_,h2,rfl⟩
   ·exact⟨ob,h,ho⟩
  obtain⟨u1,f1,f2⟩:=back k us g2 q
  obtain⟨u2,f3,f4⟩:=back k' us' U1 q'
  exact S.inj k k' b u1 u2 g1 K7 f1 f3 f2 f4
 ·rw[av (λz=>by rw[z,e] at q;cases q)];exact q
theorem aA.fc{m1:Mp}{H1:Hp}{ρ:b9}{σ:St}(R:aA K m H ρ σ)(e:wV K m H m1 H1):aA K m1 H1 ρ σ:=⟨R.len,λi w h=>let ⟨v,h1,h2⟩:=R.get i w h;⟨v,h1,aj.fc e _ _ h2⟩⟩
theorem Ext.NV{m1:Mp}{H1:Hp}{a:acr}{xs ys:List (List L2.Key×V)}(e:Ext K m H m1 H1)(h:H a=some (.dT xs)):Ext K m H m1 (L2.upd H1 a (.dT ys)) :=
 ⟨e.pre,λb zs q=>by rw[av (λz=>by rw[z,h] at q;cases q)];exact e.tup b zs q,λb φ q=>by rw[av (λz=>by rw[z,h] at q;cases q)];exact e.ext b φ q,λb o u q=>by rw[av (λz=>by rw[z,h] at q;cases q)];exact e.eL b o u q⟩
end
def ui(l:Nat)(st:Hs):Hs:=match st[l]? with
 | some (.nL kvs)=>st.set l (.bX kvs)
 | _=>st
def xC(w:Option (Option Wv))(st:Hs):Option Nat:=match w with
 | some (some (.ref l))=>(match st[l]? with | some (.bX _)=>some l | _=>none)
 | _=>none
def uj(i:Nat)(g:GS):GS:=λρ st=>match xC ρ[i]? st with
 | some l=>(match g ρ st with | .nx ρ' st'=> .nx ρ' (ui l st') | r=>r)
 | none=>g ρ st
section
variable {X:Cx}
theorem Fo{ρ:b9}{st:Hs}{σ:St}{H:Hp}{m:Mp}{i l:Nat}(S:bG X.K m st H)(R:aA X.K m H ρ σ)(h:xC ρ[i]? st=some l):∃a xs,m[l]? =some a/\H a=some (.dT xs):=by
 unfold xC at h
 split at h
 ·rename_i k e
  obtain⟨v,_,r⟩:=R.get i _ e
  unfold aj at r
  obtain⟨a,rfl,ha⟩:=r
  split at h
  ·rename_i kvs e1
   cases h
   obtain⟨xs,h1,_⟩:=(show ∃ys,H a=some (.dT ys)/\RelK X.K m H kvs ys from S.obj _ _ _ ha e1)
   exact⟨a,xs,ha,h1⟩
  ·cases h
 ·cases h
theorem Fp{pins:List (acr×Obj)}{s0 s':acx}{σ σ':St}{H H':Hp}{m m':Mp}{l:Nat}{a:acr}{xs:List (List L2.Key×V)}{st':Hs}(I:Inv X pins σ H s0)(h0:H a=some (.dT xs))(ha:m[l]? =some a)(e:Ext X.K m H m' H')(S:bG X.K m' st' H')(I':Inv X pins σ' H' s') :
  ∃zv,Inv X pins σ' zv s'/\Ext X.K m H m' zv/\bG X.K m' (ui l st') zv/\wV X.K m' H' m' zv:=by
 unfold ui
 have same:∃zv,Inv X pins σ' zv s'/\Ext X.K m H m' zv/\bG X.K m' st' zv/\wV X.K m' H' m' zv:=⟨H',I',e,S,Ext.refl.z⟩
 split
 ·rename_i kvs e1
  obtain⟨o,ys,h1,_⟩:=(show ∃o ys,H' a=some (.eL o (.dT ys))/\RelK X.K m' H' kvs ys from S.obj _ _ _ (e.pre _ _ ha) e1)
  exact⟨_,JV I' h1 λo u q=>(by have z:=I.base.ju _ _ _ q;rw[h0] at z;cases z),e.NV h0,S.NV (e.pre _ _ ha) e1 h1,uh h1⟩
 ·exact same
theorem JX(i:Nat){YE:Stmt}{g:GS}(h:JS X YE g):JS X YE (uj i g):=by
 intro ρ st σ H m D S R p
 unfold uj at p
 cases eo:xC ρ[i]? st with
 | none=>rw[eo] at p;exact h ρ st σ H m D S R p
 | some l=>
  rw[eo] at p
  dsimp only at p
  cases eg:g ρ st with
  | nx ρ' st'=>
   rw[eg] at p
   intro pins s I
   obtain⟨a,xs,ha,h0⟩:=Fo S R eo
   have go:=h ρ st σ H m { D with nx:=λσ' H'=>∃m',Ext X.K m H m' H'/\bG X.K m' st' H'/\aA X.K m' H' ρ' σ' } S R (by rw[eg];exact λσ' m' H' e' S' R'=>⟨m',e',S',R'⟩) pins s I
   refine acP go (λf s' q=>?_) λ_ _ z=>z
   cases f with
   | next=>
    obtain⟨σ',H',I',m',e',S',R'⟩:=q
    obtain⟨zv,I2,e2,S2,z2⟩:=Fp I h0 ha e' S' I'
    exact⟨σ',zv,I2,p σ' m' zv e2 S2 (R'.fc z2)⟩
   | brk=>exact q
   | cont=>exact q
   | ret u=>exact q
  | rt w st'=>rw[eg] at p;exact h ρ st σ H m D S R (by rw[eg];exact p)
  | bk ρ' st'=>rw[eg] at p;exact h ρ st σ H m D S R (by rw[eg];exact p)
  | ct ρ' st'=>rw[eg] at p;exact h ρ st σ H m D S R (by rw[eg];exact p)
  | err c ρ' st'=>rw[eg] at p;exact h ρ st σ H m D S R (by rw[eg];exact p)
  | bad=>rw[eg] at p;exact aa p
end
theorem zL{H:Hp}:∀{xs:List (List L2.Key×V)}{ys:List (List L2.Key×acr×acy)},KT H xs ys->∀{i:Nat}{y:List L2.Key×acr×acy},ys[i]? =some y->∃x,xs[i]? =some x/\x.1=y.1/\H y.2.1=some (.tup (x.1.map kV))/\RelV x.2 y.2.2
 | _,_,.nil,i,y,h=>by cases h
 | _,_,.cons h t,0,y,e=>by cases e;exact⟨_,rfl,h⟩
 | _,_,.cons h t,i+1,y,e=>zL t (i:=i) e
theorem vJ{P:acw}{w:acz}{H:Hp}{h:Heap}{a:acr}{o:Obj}{xs:List (List L2.Key×V)}(ok:ko P w H h)(e:H a=some (.eL o (.dT xs))) :
  ∃es ep,(a == sysModules)=false/\o.data= .dict es ep/\k_ h a es ep/\es.size=xs.length/\∀(i:Nat)(hi:i < es.size),∃x b,xs[i]? =some x/\es[i].key= .ref b/\H b=some (.tup (x.1.map kV))/\RelV x.2 es[i].val:=by
 obtain⟨ho,z,lo,ys,kt,o',es,ep,g1,g2,g3,g4,g5⟩:=ok a _ e
 rw[ho] at g1
 cases g1
 have len:es.size=ys.length:=by have:=congrArg dq g4;simpa using this
 have NL:xs.length=ys.length:=Paired.length kt
 refine⟨es,ep,lo,g3,⟨o,ho,g2.1,g3⟩,by omega,λi hi=>?_⟩
 have hi':i < ys.length:=by omega
 have q1:es[i]=entryOfKey (tupleKind (bq P w)) ys[i]:=by
  have:es.toList[i]? =(ys.map (entryOfKey (tupleKind (bq P w))))[i]?:=by rw[g4]
  rw[cK (by simpa using hi),fg,cK hi'] at this
  simpa using this
 obtain⟨x,e1,e2,e3,e4⟩:=zL kt (cK hi')
 exact⟨x,ys[i].2.1,e1,by rw[q1];rfl,e3,by rw[q1];exact e4⟩
section
variable {X:Cx} {tg:Expr}
end
section
variable {prog:acw} {w:acz} {A:acs} {E:acy->acx->Prop} {s:acx} {d:acr} {es:Array DictEntry} {ep:Nat}
theorem JY{Q:acy->acx->Prop}(lo:(d == sysModules)=false)(x:k_ s.heap d es ep)(hz:es.size<=acJ)(h:Q (.int es.size (s.toks+1)) { s with toks:=s.toks+1+1 }):acL (model prog w) A (call (.builtin "len") [.ref d]) Q E s:=by
 have ty:=x.ty
 obtain⟨o,g1,g2,g3⟩:=x
 refine Calls.call_function_entry kind_len plain_len entry_len (args_len1 _) ?_
 have n0:¬((es.size:Int) < 0):=by omega
 have n1:¬((es.size:Int) >= 2 ^ 63):=by rw[sizeLine_eq] at hz;omega
 have M:MeetsIn prog w (Builtin.«dict.__len__» ⟨[.ref d],[]⟩) (λ_ R s'=>s'=s/\R (.ok (.ret (.int es.size s.toks))) { s with toks:=s.toks+1 }):=.of_wp λA R s' ⟨e,h⟩=>by
  subst e
  refine(show acL _ _ (dictSize d >>= _) _ _ s' from ?_)
  unfold dictSize
  refine acM (acM (acN g1 g3 (acR ?_)))
  exact(show acL _ _ (Builtin.Dict.pendingCount d >>= _) _ _ s' from acM (wpAny_pendingCount_other lo (wpAny_ret_mkInt (by rw[Nat.add_zero];exact h))))
 unfold Builtin.«len»
 refine acM (m:=oneArg "len" _) (acR (acM (m:=callSpecial? (.ref d) (fh "__len__")) (wpAny_callSpecial?_slot (name:=fh "__len__") ty PySem.F.slot_dict_len
  (call_meetsIn PySem.F.slot_dict_len ty PySem.F.entry_dict_len (PySem.F.args_dict_len_1 _) M ⟨rfl,?_⟩))))
 refine(show acL _ _ _ _ _ { s with toks:=s.toks+1 } from acM (acO (acR (acM (wpAny_letGo ?_)))))
 refine(show acL _ _ (if((es.size:Nat):Int) < 0 then _ else _) _ _ _ from ?_);rw[if_neg n0]
 refine(show acL _ _ (if((es.size:Nat):Int) >= 2 ^ 63 then _ else _) _ _ _ from ?_);rw[if_neg n1]
 exact acM (wpAny_mkInt (acR ⟨_,rfl,h⟩))
end
section
variable {prog:acw} {w:acz} {K:Type} [DecidableEq K] {knd:HeapKind prog w K} {A:acs} {E:acy->acx->Prop} {s:acx} {d a:acr} {xs:List (K×acr×acy)} {k:K}
theorem xD:∀{xs:List (K×acr×acy)}{j:Nat}{k:K}{p:acr×acy},(xs.map (·.1)).Nodup->xs[j]? =some (k,p)->xs.eraseIdx j=xs.filter λx=>decide (x.1≠k)
 | [],j,k,p,n,h=>by cases h
 | x::r,0,k,p,n,h=>by
  cases h
  have n1:=(List.nodup_cons.mp (show(k::r.map (·.1)).Nodup from n)).1
  rw[hI,if_neg (by simp),List.eraseIdx_zero,List.tail_cons]
  refine(List.filter_eq_self.mpr λy hy=>?_).symm
  simp only[decide_eq_true_eq]
  exact λe=>n1 (List.mem_map.mpr ⟨y,hy,e⟩)
 | x::r,j+1,k,p,n,h=>by
  have n0:=List.nodup_cons.mp (show(x.1::r.map (·.1)).Nodup from n)
  have h':r[j]? =some (k,p):=h
  have ne:x.1≠k:=λe=>n0.1 (List.mem_map.mpr ⟨_,uS h',e.symm⟩)
  rw[hI,if_pos (by simp[ne]),Fq,xD n0.2 h']
theorem uk{α β:Type}(f:α->β):∀(l:List α)(j:Nat),(l.eraseIdx j).map f=(l.map f).eraseIdx j
 | [],j=>rfl
 | x::r,0=>rfl
 | x::r,j+1=>by rw[Fq,ay,ay,Fq,uk f r j]
theorem Fs{x:acy}{Q:acy->acx->Prop}(hu:knd.room A.in1)(lo:(d == sysModules)=false)(hkey:knd.is s.heap k a)(hm:s.heap.DictOfH knd d xs)(hsz:xs.length<=acJ)
  (hn:(∀(j:Nat)(p:acr×acy),xs[j]?≠some (k,p))->∀t,Q x { s with toks:=t })
  (hs:∀(j:Nat)(p:acr×acy),xs[j]? =some (k,p)->∀h' t,h'.DictOfH knd d (xs.filter λx=>decide (x.1≠k))->kK d s.heap h'->Q p.2 { s with heap:=h',toks:=t }) :
  acL (model prog w) A (call (.builtin "dict.pop") [.ref d,.ref a,x]) Q E s:=by
 have ty:s.TypeIs (.ref d) "dict":=hm.typeIs
 obtain⟨o,es,ep,ho,hc,hd,he,his,hnd⟩:=id hm
 have hes:es.size<=acJ:=by have e:=size_of_entries he;omega
 have M:MeetsIn prog w (Builtin.«dict.pop» ⟨[.ref d,.ref a,x],[]⟩) (λA' R s'=>A'=A/\s'=s/\((∀(j:Nat)(p:acr×acy),xs[j]?≠some (k,p))->∀t,R (.ok (.ret x)) { s with toks:=t })/\
   ∀(j:Nat)(p:acr×acy),xs[j]? =some (k,p)->∀h' t,h'.DictOfH knd d (xs.filter λx=>decide (x.1≠k))->kK d s.heap h'->R (.ok (.ret p.2)) { s with heap:=h',toks:=t }):=.of_wp λA' R s' ⟨eA,e,h1,h2⟩=>by
  subst e eA
  unfold Builtin.«dict.pop»
  refine acM ?_
  unfold Builtin.Dict.keyAndDefault
  refine acM (wpAny_notOrdered_dict ty (show acL _ _ (pure (d,aE a,some x)) _ _ s' from acR ?_))
  have kp:(keyPart (aE a)).isSome=false:=rfl
  simp only[kp,fU,if_false]
  refine acM (acN ho hd (acM (acR ?_)))
  have RV:xs=[]->∀(j:Nat)(p:acr×acy),xs[j]?≠some (k,p):=λz j p q=>by rw[z] at q;cases q
  by_cases em:es.isEmpty=true
  ·have xe:xs=[]:=by
    have:=size_of_entries he
    have e0:es.size=0:=by simpa [Array.isEmpty] using em
    exact List.length_eq_zero_iff.mp (by omega)
   rw[if_pos em]
   refine acM (wpAny_rule (acM (acR ?_)))
   simp only[Bf,if_true]
   refine acM (wpAny_missedRemoval_other lo (acM (wpAny_rule (acR ⟨x,rfl,h1 (RV xe) _⟩))))
  ·rw[if_neg em]
   refine acM ?_
   unfold Builtin.Dict.takeOut
   refine acO ?_
   refine acM (knd.pyHash hu hkey (acM (wpAny_dictFind_heap (s:={ s' with toks:=s'.toks+knd.draws k }) hu hkey ho hd he his hnd (λno=>acR ?_) λj p hj=>?_)))
   ·simp only[Bf,if_true]
    exact acM (wpAny_missedRemoval_other lo (acM (wpAny_rule (acR ⟨x,rfl,h1 no _⟩))))
   ·refine acM (acN (s:={ s' with toks:=s'.toks+knd.draws k }) ho hd ?_)
    rw[entry_at he j,hj]
    refine acM (wpAny_updateDictKeys (hz:=hes) (s:={ s' with toks:=s'.toks+knd.draws k }) ho hd (acR ?_))
    simp only[Option.isNone_some,fU,if_false]
    refine acM (wpAny_letGo (acR ⟨p.2,rfl,h2 j p hj _ _ ?_ (rB ..)⟩))
    refine⟨_,_,ep+1,oK _ ho (Obj.isFreed_of_dict (Bg hd _)),hc.mapDictKeys _,Bg hd _,?_,λy hy=>?_,?_⟩
    ·rw[<-xD hnd hj,uk,<-he]
     obtain⟨l⟩:=es
     simp
    ·exact knd.keeps (his y (List.mem_filter.mp hy).1) ho hd (rB ..)
    ·exact hnd.sublist (List.filter_sublist.map _)
 exact call_meetsIn PySem.F.slot_dict_pop ty PySem.F.entry_dict_pop (PySem.F.args_dict_pop_3 _ _ _) M ⟨rfl,rfl,hn,hs⟩
end
section
variable {prog:acw} {w:acz} {A:acs} {E:acy->acx->Prop} {s:acx}
theorem Bh{b:DictEntry->PUnit->Sem (ForInStep PUnit)}{Q:PUnit->acx->Prop}:∀{l:List DictEntry},(∀e∈l,∀Q':ForInStep PUnit->acx->Prop,Q' (.yield nk) s->acL (model prog w) A (b e nk) Q' E s)->Q nk s->acL (model prog w) A (forIn l nk b) Q E s
 | [],_,q=>by rw[zt];exact acR q
 | e::r,h,q=>by
  rw[uI]
  exact acM (h e (.head _) _ (Bh (λe' he'=>h e' (.tail _ he')) q))
theorem Ft{es:List DictEntry}(n:(es.map (·.hash)).Nodup)(c:Int):(es.filter λe=>e.hash == c).length<=1:=by
 induction es with
 | nil=>simp
 | cons e r ih=>
  have n:=List.nodup_cons.mp (show(e.hash::r.map (·.hash)).Nodup from n)
  rw[hI]
  by_cases h:(e.hash == c)=true
  ·rw[if_pos h]
   have:(r.filter λe=>e.hash == c)=[]:=List.filter_eq_nil_iff.mpr λy hy q=>n.1 (List.mem_map.mpr ⟨y,hy,by rw[eq_of_beq q,eq_of_beq h]⟩)
   rw[this]
   exact au 1
  ·rw[if_neg h];exact ih n.2
theorem pL:typeLookup (.type "tuple") "__eq__"=pure (some (.builtin "tuple.__eq__")):=PySem.F.slot_tuple_eq.lookup
theorem Fv{o:acr}{es:Array DictEntry}{ep:Nat}{Q:acy->acx->Prop}(lo:(o == sysModules)=false)(x:k_ s.heap o es ep)(hz:es.size<=acJ)(he:es.size≠0)(hn:(es.toList.map (·.hash)).Nodup)(ht:∀e∈es,∃b,e.key= .ref b/\s.TypeIs (.ref b) "tuple")
  (h:∀h',(∃q,h'.get? s.heap.objs.size=some q/\q.cls= .type "dict"/\q.dict=none/\q.slots=#[]/\∃e',q.data= .dict es e')->kK s.heap.objs.size (s.heap.push { cls:=.type "dict",data:=.dict #[] }) h'->Q (.ref s.heap.objs.size) { s with heap:=h' }) :
  acL (model prog w) A (call (.type "dict") [.ref o]) Q E s:=by
 refine callType_codes (Q₁:=λobj s₁=>obj= .ref s.heap.objs.size/\s₁={ s with heap:=s.heap.push { cls:=.type "dict",data:=.dict #[] } }) Fw (Fx _) Fy (kt_code_dict_new _ ⟨rfl,rfl⟩) ?_
 rintro obj s₁ ⟨rfl,rfl⟩
 obtain⟨q,g1,g2,g3⟩:=x
 have hne:s.heap.objs.size≠o:=λe=>absurd (aC g1) (by rw[e];exact cX _)
 have n1:(s.heap.push { cls:=.type "dict",data:=.dict #[] }).get? s.heap.objs.size=some { cls:=.type "dict",data:=.dict #[] }:=bz _ rfl
 have o1:(s.heap.push { cls:=.type "dict",data:=.dict #[] }).get? o=some q:=aL _ g1
 have tn:ir { s with heap:=s.heap.push { cls:=.type "dict",data:=.dict #[] } } (.ref s.heap.objs.size) "dict":=⟨_,n1,rfl⟩
 have to:ir { s with heap:=s.heap.push { cls:=.type "dict",data:=.dict #[] } } (.ref o) "dict":=⟨_,o1,g2⟩
 refine⟨tn,Fz _ _,?_⟩
 unfold Builtin.«dict.__init__»
 refine acM ?_
 unfold FA
 refine acM (wpAny_notOrdered_dict tn (show acL _ _ (pure (s.heap.objs.size,[aE o])) _ _ _ from acR ?_))
 refine(show acL _ _ (rD "dict.__init__" s.heap.objs.size (.ref o) [] .none) _ _ _ from ?_)
 unfold rD
 refine acM (wpAny_typeOf to ?_)
 rw[if_neg (by decide)]
 refine acM ?_
 unfold NW
 refine acM ?_
 unfold NX
 refine acM (wpAny_isInstance to isSubtype_dict_dict ?_)
 simp only[mF,fU,if_false]
 refine acM (wpAny_specialOf to F.slot_dict_iter.lookup (acR ?_))
 simp only[beq_self_eq_true,if_true]
 refine acM (acR ?_)
 unfold NY
 rw[if_neg (by simpa using hne)]
 unfold vF
 rw[if_neg (by rw[lo];exact bD)]
 refine acM (acR (acM (acN o1 g3 ?_)))
 have few:(decide (es.size<=8)&&es.all λe=>(keyPart e.key).isSome)=false:=by
  rw[Bool.and_eq_false_iff]
  refine .inr ?_
  rw[<-Bool.not_eq_true,Array.all_eq_true]
  intro al
  have:=al 0 (by omega)
  obtain⟨b,e1,_⟩:=ht es[0] (by simp)
  rw[e1] at this
  cases this
 simp only[few,vK,if_true]
 refine acM (acN n1 rfl ?_)
 simp only[show(#[]:Array DictEntry).isEmpty=true from rfl,if_true]
 refine acM ?_
 unfold Builtin.Dict.entriesForEmpty
 refine acM (acN o1 g3 ?_)
 rw[<-AA]
 refine acM (Bh (λe hm Q' q'=>?_) (acR ?_))
 ·obtain⟨b,e1,e2⟩:=ht e (Array.mem_toList_iff.mp hm)
  rw[e1]
  obtain⟨ob,f1,f2⟩:=e2
  have tb:ir { s with heap:=s.heap.push { cls:=.type "dict",data:=.dict #[] } } (.ref b) "tuple":=⟨_,aL _ f1,f2⟩
  unfold Builtin.Dict.quietEq
  refine acM (acM (wpAny_specialOf tb pL (acR ?_)))
  have nq:(some (iX "tuple.__eq__") == some (iX "object.__eq__"))=false:=by decide
  have sz:¬(es.filter (λx=>x.hash == e.hash)).size > 1:=by
   have q1:=Ft hn e.hash
   have q2:(es.filter (λx=>x.hash == e.hash)).size=(es.toList.filter (λx=>x.hash == e.hash)).length:=by rw[<-wK,Array.toList_filter]
   rw[q2]
   omega
  simp only[nq,vK,if_true,if_neg sz]
  exact acR q'
 ·have ne:es.isEmpty=false:=by simpa [Array.isEmpty] using he
  simp only[ne,vK,if_true]
  refine acM (wpAny_updateDictKeysTo (hz':=by show es.size<=acJ+1;omega) n1 rfl (acR ?_))
  refine(show acL _ _ (FC s.heap.objs.size [] >>= _) _ _ _ from acM (acR (acR ⟨rfl,h _ ?_ (rB ..)⟩)))
  exact⟨_,oK _ n1 (Obj.isFreed_of_dict (Bg rfl _)),rfl,rfl,rfl,_,rfl⟩
end
section
variable {prog:acw} {w:acz} {A:acs} {E:acy->acx->Prop} {s:acx} {d it:acr} {i:Nat} {es:Array DictEntry} {ep:Nat} {ok ov:acy}
theorem CL{Q:acy->acx->Prop}(lo:(d == sysModules)=false)(x:k_ s.heap d es ep)(h:Q (.ref s.heap.objs.size) { s with heap:=s.heap.push { cls:=.type "dict_items",data:=.fields #[.ref d] } }):acL (model prog w) A (call (.builtin "dict.items") [.ref d]) Q E s:=by
 have ty:=x.ty
 have M:MeetsIn prog w (Builtin.«dict.items» ⟨[.ref d],[]⟩) (λ_ R s'=>s'=s/\R (.ok (.ret (.ref s.heap.objs.size))) { s with heap:=s.heap.push { cls:=.type "dict_items",data:=.fields #[.ref d] } }):=.of_wp λA' R s' ⟨e,h⟩=>by
  subst e
  unfold Builtin.«dict.items»
  refine acM ?_
  unfold Builtin.Dict.noArgs vF
  refine acM (wpAny_notOrdered_dict ty (show acL _ _ (pure d) _ _ s' from acR ?_))
  rw[if_neg (by rw[lo];exact bD)]
  exact acM (acR (acM (acQ (acR ⟨_,rfl,h⟩))))
 exact call_meetsIn PySem.F.slot_dict_items ty PySem.F.entry_dict_items (PySem.F.args_dict_items_1 _) M ⟨rfl,h⟩
theorem CM{v:acr}{Q:acy->acx->Prop}(hv:s.heap.IsItemsView v d)(x:k_ s.heap d es ep)
  (h:Q (.ref s.heap.objs.size) { s with heap:=s.heap.push { cls:=.type "dict_itemiterator",data:=.fields #[.none,.bool false,.ref d,.int 0 0,.int es.size 0,.int ep 0,.none,.none] } }):acL (model prog w) A (pyIter (.ref v)) Q E s:=by
 have ty:=hv.typeIs
 obtain⟨o1,a1,a2,a3⟩:=hv
 obtain⟨o,g1,g2,g3⟩:=x
 refine wpAny_pyIter_slot ty PySem.F.slot_dict_items_iter (wpAny_call_entry PySem.F.slot_dict_items_iter ty PySem.F.entry_dict_items_iter ?_ (PySem.F.args_dict_items_iter_1 _))
 unfold Builtin.«dict_items.__iter__»
 refine acM (acR (acM ?_))
 unfold Builtin.Dict_items.dictOf
 refine acM (wpAny_field a1 a3 (x:=.ref d) rfl (acR (acM ?_)))
 unfold Builtin.Dict_items.newIterator
 refine acM (acN g1 g3 (acM (wpAny_dictEpoch g1 g3 ?_)))
 have own:vG "dict_itemiterator"=true:=by decide
 simp only[own,if_true]
 refine acQ (acR ⟨_,rfl,"dict_itemiterator",_,⟨_,bz _ rfl,rfl⟩,PySem.F.slot_dict_itemiterator_next.lookup,?_⟩) (by simp only[sizeOk,NZ,aM,cY,gD,u7,sizeLine_eq];omega)
 simpa [rawInt,NZ] using h
theorem CN{Q:Option acy->acx->Prop}(ki:IsItemIter s.heap it d i es.size ep ok ov)(x:k_ s.heap d es ep)(hi:i < es.size)
  (k:∀h',IsItemIterOut h' it d (i+1) es.size ep es[i].key es[i].val s.heap.objs.size->h'.get? s.heap.objs.size=some { cls:=.type "tuple",data:=.seq #[es[i].key,es[i].val] }->h'.objs.size=s.heap.objs.size+1->(∀b o,b≠it->s.heap.get? b=some o->h'.get? b=some o)->Q (some (.ref s.heap.objs.size)) { s with heap:=h' }):acL (model prog w) A (pyNext (.ref it)) Q E s:=by
 obtain⟨hp,g,dr,tk,os⟩:=s
 obtain⟨o,g1,g2,g3⟩:=x
 have ty:ir ⟨hp,g,dr,tk,os⟩ (.ref it) "dict_itemiterator":=⟨_,ki,rfl⟩
 have own:vG "dict_itemiterator"=true:=by decide
 have nn:¬((aE d == bp)=true):=bD
 have n0:¬((i:Int) < 0):=by omega
 have lt:it < hp.objs.size:=aC ki
 have gt:=lI lt
 unfold pyNext
 refine acM (wpAny_attempt (wpAny_callSpecial?_slot (name:=fh "__next__") ty PySem.F.slot_dict_itemiterator_next (wpAny_call_entry PySem.F.slot_dict_itemiterator_next ty PySem.F.entry_dict_itemiterator_next ?_ (PySem.F.args_dict_itemiterator_next_1 _))))
 refine acM (acR (acM (acM ?_)))
 first | refine acM (wpAny_typeNameOfWhole_itemiter ty (acR (acM (wpAny_fieldsOf ki rfl ?_)))) | refine acM (wpAny_typeNameOf_itemiter ty (acR (acM (wpAny_fieldsOf ki rfl ?_))))
 simp only[own,if_true]
 refine(show acL _ _ (if(aE d == bp)=true then _ else _) _ _ _ from ?_);rw[if_neg nn]
 refine acM (acR (acM (acN g1 g3 ?_)))
 rw[if_neg (by simp)]
 refine acM (acR (acM (wpAny_dictEpoch g1 g3 ?_)))
 rw[if_neg (by simp)]
 refine acR ?_
 simp only[n0,if_false,vH,RO hi]
 refine acM ?_
 first | refine acM (wpAny_typeNameOfWhole_itemiter ty (acR (acM (wpAny_isOneOf_itemiter ty ?_)))) | refine acM (wpAny_typeNameOf_itemiter ty (acR (acM (wpAny_isOneOf_itemiter ty ?_))))
 refine(show acL _ _ (setField (.ref it) 3 (rawInt ((i:Int)+1)) >>= _) _ _ ⟨hp,g,dr,tk,os⟩ from acM (wpAny_setField_rec ki (by simp) λh1 e1 s1=>?_))
 have z1:h1.objs.size=hp.objs.size:=s1.1
 have t1:IsItemIter h1 it d (i+1) es.size ep ok ov:=by
  have e:((i+1:Nat):Int)=(i:Int)+1:=by omega
  unfold IsItemIter;rw[e];simpa [rawInt] using e1
 have y1:ir ⟨h1,g,dr,tk,os⟩ (.ref it) "dict_itemiterator":=⟨_,t1,rfl⟩
 refine acM (acO (acM (wpAny_isOneOf_itemiter y1 (acM (wpAny_isOneOf_itemiter y1 ?_)))))
 refine(show acL _ _ (N0 (.ref it) 6 es[i].key es[i].val) _ _ ⟨h1,g,dr,tk,os⟩ from ?_)
 unfold N0
 refine acM (wpAny_newTuple ?_)
 have t2:IsItemIter (h1.push { cls:=.type "tuple",data:=.seq #[es[i].key,es[i].val] }) it d (i+1) es.size ep ok ov:=aL _ t1
 generalize e2:h1.push { cls:=.type "tuple",data:=.seq #[es[i].key,es[i].val] }=h2 at t2
 have T2:h2.get? hp.objs.size=some { cls:=.type "tuple",data:=.seq #[es[i].key,es[i].val] }:=by rw[<-e2,<-z1];exact bz _ rfl
 have z2:h2.objs.size=hp.objs.size+1:=by rw[<-e2,vz,z1]
 have k2:∀b o,b≠it->hp.get? b=some o->h2.get? b=some o:=λb o hb e=>by rw[<-e2];exact aL _ (s1.extBut b o hb e)
 refine(show acL _ _ (N1 (.ref it) >>= _) _ _ ⟨h2,g,dr,tk,os⟩ from acM ?_)
 rw[z1]
 unfold N1
 refine acM (wpAny_field t2 rfl (x:=.none) rfl (acR ?_))
 simp only[if_true]
 refine acM (wpAny_field t2 rfl (x:=ok) rfl (acM (wpAny_field t2 rfl (x:=ov) rfl (acM (wpAny_setField_rec t2 (by simp) λh3 t3 s3=>?_)))))
 refine acM (wpAny_setField_rec (show IsItemIter h3 it d (i+1) es.size ep es[i].key ov from t3) (by simp) λh4 t4 s4=>?_)
 refine acM (wpAny_setField_rec (show IsItemIter h4 it d (i+1) es.size ep es[i].key es[i].val from t4) (by simp) λh5 t5 s5=>?_)
 refine acM (wpAny_setField_rec (show IsItemIterOut h5 it d (i+1) es.size ep es[i].key es[i].val hp.objs.size from t5) (by simp) λh6 t6 s6=>?_)
 have sb:∀b,b≠it->∀o,h2.get? b=some o->h6.get? b=some o:=λb hb o e=>s6.extBut b o hb (s5.extBut b o hb (s4.extBut b o hb (s3.extBut b o hb e)))
 refine acM (wpAny_letGo (acR (acR ⟨_,rfl,acR (k h6 t6 (sb _ gt _ T2) ?_ λb o hb e=>sb b hb o (k2 b o hb e))⟩)))
 exact(s6.1.trans (s5.1.trans (s4.1.trans s3.1))).trans z2
theorem FD{Q:Option acy->acx->Prop}(hh:A.handled=none)(ki:IsItemIter s.heap it d i es.size ep ok ov)(x:k_ s.heap d es ep)(hi:es.size<=i)(k:∀h',Ff it s.heap h'->Q none { s with heap:=h' }):acL (model prog w) A (pyNext (.ref it)) Q E s:=by
 obtain⟨o,g1,g2,g3⟩:=x
 have ty:s.TypeIs (.ref it) "dict_itemiterator":=⟨_,ki,rfl⟩
 have own:vG "dict_itemiterator"=true:=by decide
 have nn:¬((aE d == bp)=true):=bD
 have n0:¬((i:Int) < 0):=by omega
 unfold pyNext
 refine acM (wpAny_attempt (wpAny_callSpecial?_slot (name:=fh "__next__") ty PySem.F.slot_dict_itemiterator_next (wpAny_call_entry PySem.F.slot_dict_itemiterator_next ty PySem.F.entry_dict_itemiterator_next ?_ (PySem.F.args_dict_itemiterator_next_1 _))))
 refine acM (acR (acM (acM ?_)))
 first | refine acM (wpAny_typeNameOfWhole_itemiter ty (acR (acM (wpAny_fieldsOf ki rfl ?_)))) | refine acM (wpAny_typeNameOf_itemiter ty (acR (acM (wpAny_fieldsOf ki rfl ?_))))
 simp only[own,if_true]
 refine(show acL _ _ (if(aE d == bp)=true then _ else _) _ _ s from ?_);rw[if_neg nn]
 refine acM (acR (acM (acN g1 g3 ?_)))
 rw[if_neg (by simp)]
 refine acM (acR (acM (wpAny_dictEpoch g1 g3 ?_)))
 rw[if_neg (by simp)]
 refine acR ?_
 simp only[n0,if_false,vH,RP hi]
 refine acM ?_
 first | refine acM (wpAny_typeNameOfWhole_itemiter ty (acR ?_)) | refine acM (wpAny_typeNameOf_itemiter ty (acR ?_))
 refine(show acL _ _ (setField (.ref it) 2 .none >>= _) _ _ s from acM (wpAny_setField ki rfl (by simp) ?_))
 refine(show acL _ _ (newExc (.type "StopIteration") [] >>= _) _ _ _ from ?_)
 simp only[newExc,newTuple,raiseNew]
 refine acM (acM (acQ (acM (m:=firstArgMember _ _) (wpAny_of_eq (a:=bp) (by first | rfl | (simp only[firstArgMember];rfl)) (acQ ?_ (by size_fits)))) (by size_fits)))
 refine(acM (wpAny_handled ?_))
 rw[show A.in1.handled=none by exact hh]
 refine(acM (acR (wpAny_throw ?_)))
 refine acM (wpAny_isInstance (b:=true) (T:="StopIteration") ⟨_,bz _ rfl,rfl⟩ isSubtype_stop (acR ?_))
 refine k _ ?_;exact((rB ..).extBut.push _).push _
end
section
variable {X:Cx}
theorem FE{P:acw}{w:acz}{H:Hp}{h:Heap}{a:acr}{xs:List (List L2.Key×V)}(ok:ko P w H h)(e:Rd H a (.dT xs)) :
  ∃es ep ys,xs.length<=acJ/\(a == sysModules)=false/\k_ h a es ep/\es.size=xs.length/\KT H xs ys/\es.toList=ys.map (entryOfKey (tupleKind (bq P w)))/\(ys.map (·.1)).Nodup:=by
 obtain⟨z,lo,ys,kt,o,es,ep,g1,g2,g3,g4,g5⟩:=(show dm P w H h a (.dT xs) from D5 ok e)
 have len:es.size=ys.length:=by have:=congrArg dq g4;simpa using this
 exact⟨es,ep,ys,z,lo,⟨o,g1,g2.1,g3⟩,by rw[len];exact(Paired.length kt).symm,kt,g4,g5⟩
theorem CO:cV X (.builtin "len") (λxs H Q=>∃a kvs,xs=[.ref a]/\Rd H a (.dT kvs)/\Q (.int kvs.length) H):=by
 intro pins s σ H xs us Q I rs q
 obtain⟨a,kvs,rfl,e,q⟩:=q
 cases rs with
 | cons r rr=>
  cases rr
  cases r
  obtain⟨es,ep,ys,z,lo,raw,sz,_⟩:=FE I.hok e
  refine JY lo raw (by rw[sz];exact z) ⟨.int kvs.length,H,I.tok _,⟨_,by rw[sz]⟩,q⟩
def cQ:Option Ob->Option (List (List L2.Key×Wv))
 | some (.bX kvs)=>some kvs
 | some (.nL kvs)=>some kvs
 | _=>none
theorem n9{m:Mp}{st:Hs}{H:Hp}{l:Nat}{a:acr}{kvs:List (List L2.Key×Wv)}(S:bG X.K m st H)(ha:m[l]? =some a)(h:cQ st[l]? =some kvs):∃xs,Rd H a (.dT xs)/\RelK X.K m H kvs xs:=by
 unfold cQ at h
 split at h
 ·rename_i k' e
  cases h
  obtain⟨xs,h1,h2⟩:=(show ∃ys,H a=some (.dT ys)/\RelK X.K m H kvs ys from S.obj _ _ _ ha e)
  exact⟨xs,.inl h1,h2⟩
 ·rename_i k' e
  cases h
  obtain⟨o,xs,h1,h2⟩:=(show ∃o ys,H a=some (.eL o (.dT ys))/\RelK X.K m H kvs ys from S.obj _ _ _ ha e)
  exact⟨xs,.inr ⟨o,h1⟩,h2⟩
 ·cases h
def bI:List Wv->Hs->Re Wv
 | [.ref l],st=>(match cQ st[l]? with | some kvs=> .ok (.int kvs.length) st | none=>gS [.ref l] st)
 | ws,st=>gS ws st
theorem JZ:eG X (.builtin "len") bI:=by
 obtain⟨r0,c0,k0⟩:=Eo (X:=X)
 refine⟨_,CO.or c0,λws vs st H m Q S r p=>?_⟩
 have old:cW X.K m H (gS ws st) Q->r0 vs H Q:=λp=>k0 ws vs st H m Q S r p
 unfold bI at p
 split at p
 ·rename_i l
  cases e:cQ st[l]? with
  | none=>rw[e] at p;exact .inr (old p)
  | some kvs=>
   rw[e] at p
   obtain⟨v,rfl,rx⟩:=kG r
   unfold aj at rx
   obtain⟨a,rfl,ha⟩:=rx
   obtain⟨xs,h1,h2⟩:=n9 (X:=X) S ha e
   refine .inl ⟨a,xs,rfl,h1,?_⟩
   rw[<-h2.length]
   exact p _ m H Ext.refl S mkInt
 ·exact .inr (old p)
def Bi(ns:List Int):Int:=reduceHash (yJ (ns.map hashInt))
def pC:List (List L2.Key)->Option (List (List Int))
 | []=>some []
 | k::r=>(match mO k,pC r with | some ns,some l=>some (ns::l) | _,_=>none)
theorem xE:∀{ks:List L2.Key}{ns:List Int},mO ks=some ns->ks=ns.map L2.Key.inl
 | [],ns,e=>by cases e;rfl
 | .inl i::r,ns,e=>by
  unfold mO at e
  cases q:mO r with
  | none=>rw[q] at e;cases e
  | some l=>rw[q] at e;cases e;rw[ay,<-xE q]
theorem FF{P:acw}{w:acz}{ks:List L2.Key}{ns:List Int}(h:mO ks=some ns):(tupleKind (bq P w)).hash ks=Bi ns:=by
 rw[xE h]
 show reduceHash (yJ ((ns.map L2.Key.inl).map (bq P w).hash))=_
 rw[aW]
 rfl
theorem rE{P:acw}{w:acz}:∀{YF:List (List L2.Key)}{nss:List (List Int)},pC YF=some nss->YF.map (tupleKind (bq P w)).hash=nss.map Bi
 | [],nss,e=>by cases e;rfl
 | k::r,nss,e=>by
  unfold pC at e
  cases q1:mO k with
  | none=>rw[q1] at e;cases e
  | some ns=>
   cases q2:pC r with
   | none=>rw[q1,q2] at e;cases e
   | some l=>rw[q1,q2] at e;cases e;rw[ay,ay,FF q1,rE q2]
def jW(ks:List (List L2.Key)):Bool:=match pC ks with
 | some nss=>decide ((nss.map Bi).Nodup)
 | none=>false
theorem CP{prog:acw}{w:acz}{A:acs}{E:acy->acx->Prop}{s:acx}{o:acr}{ep:Nat}{Q:acy->acx->Prop}(lo:(o == sysModules)=false)(x:k_ s.heap o #[] ep)(h:Q (.ref s.heap.objs.size) { s with heap:=s.heap.push { cls:=.type "dict",data:=.dict #[] } }) :
  acL (model prog w) A (call (.type "dict") [.ref o]) Q E s:=by
 refine callType_codes (Q₁:=λobj s₁=>obj= .ref s.heap.objs.size/\s₁={ s with heap:=s.heap.push { cls:=.type "dict",data:=.dict #[] } }) Fw (Fx _) Fy (kt_code_dict_new _ ⟨rfl,rfl⟩) ?_
 rintro obj s₁ ⟨rfl,rfl⟩
 obtain⟨q,g1,g2,g3⟩:=x
 have hne:s.heap.objs.size≠o:=λe=>absurd (aC g1) (by rw[e];exact cX _)
 have n1:(s.heap.push { cls:=.type "dict",data:=.dict #[] }).get? s.heap.objs.size=some { cls:=.type "dict",data:=.dict #[] }:=bz _ rfl
 have o1:(s.heap.push { cls:=.type "dict",data:=.dict #[] }).get? o=some q:=aL _ g1
 have tn:ir { s with heap:=s.heap.push { cls:=.type "dict",data:=.dict #[] } } (.ref s.heap.objs.size) "dict":=⟨_,n1,rfl⟩
 have to:ir { s with heap:=s.heap.push { cls:=.type "dict",data:=.dict #[] } } (.ref o) "dict":=⟨_,o1,g2⟩
 refine⟨tn,Fz _ _,?_⟩
 unfold Builtin.«dict.__init__»
 refine acM ?_
 unfold FA
 refine acM (wpAny_notOrdered_dict tn (show acL _ _ (pure (s.heap.objs.size,[aE o])) _ _ _ from acR ?_))
 refine(show acL _ _ (rD "dict.__init__" s.heap.objs.size (.ref o) [] .none) _ _ _ from ?_)
 unfold rD
 refine acM (wpAny_typeOf to ?_)
 rw[if_neg (by decide)]
 refine acM ?_
 unfold NW
 refine acM ?_
 unfold NX
 refine acM (wpAny_isInstance to isSubtype_dict_dict ?_)
 simp only[mF,fU,if_false]
 refine acM (wpAny_specialOf to F.slot_dict_iter.lookup (acR ?_))
 simp only[beq_self_eq_true,if_true]
 refine acM (acR ?_)
 unfold NY
 rw[if_neg (by simpa using hne)]
 unfold vF
 rw[if_neg (by rw[lo];exact bD)]
 refine acM (acR (acM (acN o1 g3 ?_)))
 have few:(decide ((#[]:Array DictEntry).size<=8)&&(#[]:Array DictEntry).all λe=>(keyPart e.key).isSome)=true:=by simp
 simp only[few,mF,fU,if_false]
 refine acM (wpAny_dictEpoch o1 g3 (acM (acN o1 g3 (acM ?_))))
 rw[J0]
 refine(show acL _ _ (pure nk) _ _ _ from acR (acR ?_))
 exact(show acL _ _ (FC s.heap.objs.size [] >>= _) _ _ _ from acM (acR (acR ⟨rfl,h⟩)))
theorem zM:cV X (.type "dict") (λxs H Q=>∃a kvs,xs=[.ref a]/\Rd H a (.dT kvs)/\((kvs.map (·.1)).map (tupleKind (bq X.prog X.w)).hash).Nodup/\∀p,H p=none->Q (.ref p) (upd H p (.dT kvs))):=by
 intro pins s σ H xs us Q I rs q
 obtain⟨a,kvs,rfl,e,hn,q⟩:=q
 cases rs with
 | cons r rr=>
  cases rr
  cases r
  obtain⟨es,ep,ys,z,lo,raw,sz,kt,g4,g5⟩:=FE I.hok e
  by_cases ne:kvs=[]
  ·subst ne
   cases kt
   have l0:es=#[]:=Array.eq_empty_of_size_eq_zero (by rw[sz];rfl)
   subst l0
   have fr:H s.heap.objs.size=none:=I.hok.fresh (au _)
   refine CP lo raw ⟨.ref s.heap.objs.size,_,I.laid (a:=s.heap.objs.size) (o:=.dT []) (t':=s.toks) (λb ob hq=>aL _ hq) (au _) ?_,rfl,q _ fr⟩
   exact⟨z,beq_eq_false_iff_ne.mpr (bZ (bu I.big)),[],.nil,_,#[],_,bz _ rfl,⟨rfl,rfl,rfl⟩,rfl,g4,g5⟩
  have keys:kvs.map (·.1)=ys.map (·.1):=by
   clear q hn ne g5 g4 e sz z
   induction kt with
   | nil=>rfl
   | cons h t ih=>rw[ay,ay,ih,h.1]
  have hs:es.toList.map (·.hash)=(kvs.map (·.1)).map (tupleKind (bq X.prog X.w)).hash:=by
   rw[g4,keys,aW,aW]
   rfl
  have ht:∀e∈es,∃b,e.key= .ref b/\s.TypeIs (.ref b) "tuple":=λe' he=>by
   have:e'∈ys.map (entryOfKey (tupleKind (bq X.prog X.w))):=by rw[<-g4];exact Array.mem_toList_iff.mpr he
   obtain⟨y,hy,rfl⟩:=List.mem_map.mp this
   obtain⟨j,hj⟩:=List.mem_iff_getElem?.mp hy
   obtain⟨x,_,_,hx,_⟩:=zL kt hj
   have kk:=qM (P:=X.prog) (w:=X.w) I.hok hx
   obtain⟨ob,its,n,f1,f2,_⟩:=kk
   exact⟨y.2.1,rfl,ob,f1,f2⟩
  have l0:es.size≠0:=by rw[sz];exact λz0=>ne (List.length_eq_zero_iff.mp z0)
  refine Fv lo raw (by rw[sz];exact z) l0 (by rw[hs];exact hn) ht λh' nw sb=>?_
  obtain⟨o',f1,f2,f3,f4,AF,f5⟩:=nw
  have fr:H s.heap.objs.size=none:=I.hok.fresh (au _)
  refine⟨.ref s.heap.objs.size,_,I.laid (a:=s.heap.objs.size) (o:=.dT kvs) (t':=s.toks) (λb ob hq=>(sb.2 b (bu (aC hq))).trans (aL _ hq)) (au _) ?_,rfl,q _ fr⟩
  refine⟨z,beq_eq_false_iff_ne.mpr (bZ (bu I.big)),ys,kt.keeps λc zs ec=>?_,o',es,AF,f1,⟨f2,f3,f4⟩,f5,g4,g5⟩
  rw[av (bC ec fr)]
  exact ec
def n_:List Wv->Hs->Re Wv
 | [.ref l],st=>(match cQ st[l]? with | some kvs=>if jW (kvs.map (·.1))=true then .ok (.ref st.length) (st++[.bX kvs]) else .bad | none=> .bad)
 | _,_=> .bad
theorem J1:eG X (.type "dict") n_:=⟨_,zM,λws vs st H m Q S r p=>by
 unfold n_ at p
 split at p
 ·rename_i l
  cases e:cQ st[l]? with
  | none=>rw[e] at p;exact aa p
  | some kvs=>
   rw[e] at p
   dsimp only at p
   by_cases c:jW (kvs.map (·.1))=true
   ·rw[if_pos c] at p
    obtain⟨v,rfl,rx⟩:=kG r
    unfold aj at rx
    obtain⟨a,rfl,ha⟩:=rx
    obtain⟨xs,h1,h2⟩:=n9 (X:=X) S ha e
    refine⟨a,xs,rfl,h1,?_,λq hq=>?_⟩
    ·have c2:=c
     unfold jW at c2
     rw[<-h2.1]
     cases ek:pC (kvs.map (·.1)) with
     | none=>rw[ek] at c2;cases c2
     | some nss=>rw[ek] at c2;rw[rE ek];exact of_decide_eq_true c2
    ·have ex:Ext X.K m H (m++[q]) (upd H q (.dT xs)):=Ext.more.trans (Ext.jw (.inl hq))
     exact p (.ref q) (m++[q]) _ ex (S.vc hq ⟨xs,aH,h2.mono ex⟩) (by unfold aj;exact⟨q,rfl,by rw[<-S.len,mI (au _),qe];rfl⟩)
   ·rw[if_neg c] at p;exact aa p
 ·exact aa p⟩
end
theorem CQ{o:Option V}(r:yM o none):o=none:=by
 cases o with
 | none=>rfl
 | some u=>exact(show False from r).elim
theorem um{o:Option V}{u:acy}(r:yM o (some u)):∃v,o=some v/\RelV v u:=by
 cases o with
 | none=>exact(show False from r).elim
 | some v=>exact⟨v,rfl,r⟩
def N2(td ty tx:TE):TE:=λσ H Q=>td σ H λx H1=>∃a,x= .ref a/\UY H1 a/\ty σ H1 λy H2=>tx σ H2 λz H3=>∃kvs k b,H3 a=some (.dT kvs)/\y= .ref b/\H3 b=some (.tup (k.map kV))/\
 (∀v,qJ kvs k=some v->Q v (upd H3 a (.dT (kq kvs k))))/\(qJ kvs k=none->Q z H3)
theorem vL{H:Hp}{k:List L2.Key}:∀{xs:List (List L2.Key×V)}{ys:List (List L2.Key×acr×acy)},KT H xs ys->KT H (kq xs k) (ys.filter λy=>decide (y.1≠k))
 | _,_,.nil=> .nil
 | _,_,.cons (a:=x) (b:=y) h t=>by
  by_cases e:x.1=k
  ·rw[tR e,hI,if_neg (by rw[<-h.1];simp[e])];exact vL t
  ·rw[tS e,hI,if_pos (by rw[<-h.1];simp[e])];exact .cons h (vL t)
section
variable {X:Cx} {o e f:Expr} {apos cpos:Pos} {td ty tx:TE}
theorem FG(hu:X.A.units+1 < cLine)(ho:PE X o td)(he:PE X e ty)(hf:PE X f tx)(m:M2 X o "pop" apos e f cpos):PE X (.Call (.Attribute o "pop" apos) [e,f] [] cpos) (N2 td ty tx):=by
 intro pins s σ H Q I h
 refine wpAny_Call_method m.base m.few m.line PySem.F.plainAttrs_dict PySem.F.slot_dict_pop PySem.F.type_dict_pop (bJ (ho pins s σ H _ I h) λu s1 ⟨x,H1,I1,rx,a,ex,d,q1⟩=>?_)
 subst ex
 obtain rfl:u=aE a:=rx
 obtain⟨t1,t2,_⟩:=y9 I1 d
 refine⟨t1,t2,?_⟩
 rw[m.trees]
 refine y3 rfl (y6 (qB (bJ (he pins s1 σ H1 _ I1 q1) λiv s2 ⟨y,H2,I2,ry,q2⟩=>
  qB (bJ (hf pins s2 σ H2 _ I2 q2) λfv s3 ⟨z,H3,I3,rz,kvs,k,b,ea,ey,eb,q3,q4⟩=>yT ?_))))
 subst ey
 cases (show iv=aE b from ry)
 obtain⟨zz,hd,xs,rel,dd⟩:=D6 I3.hok ea
 have vl:=rel.val k
 refine Fs (tupleKind_room_in1 hu) hd (qM I3.hok eb) dd (by rw[<-Paired.length rel];exact zz) (λno t=>?_) λj p hj h' t K5 hs=>?_
 ·rw[atKey_none_of_get no] at vl
  exact⟨z,H3,I3.tok _,rz,q4 (CQ vl)⟩
 ·have hnd:(xs.map (·.1)).Nodup:=let ⟨_,_,_,_,_,_,_,_,n⟩:=dd;n
  rw[atKey_of_get hnd hj] at vl
  obtain⟨v,ev,rv⟩:=um vl
  obtain⟨q,es,ep,hq,h2,h3,h4,_,h5⟩:=K5
  refine⟨v,_,qb (ob:=.dT (kq kvs k)) I3 (by rw[ea];exact qa) hs ⟨q,hq⟩ ⟨bg (D4 kvs k) zz,hd,_,(vL rel).keeps λc ys ec=>?_,q,es,ep,hq,h2,h3,h4,h5⟩,rv,q3 v ev⟩
  rw[av (Dy ec ea (λz=>nomatch z))]
  exact ec
def dy{κ:Type}[DecidableEq κ](kvs:List (κ×Wv))(k:κ):List (κ×Wv):=kvs.filter λkv=>decide (kv.1≠k)
theorem RelK.drop{κ:Type}[DecidableEq κ]{K:PySem.W.Frag}{m:Mp}{H:Hp}(k:κ):∀{kvs:List (κ×Wv)}{xs:List (κ×V)},RelK K m H kvs xs->RelK K m H (dy kvs k) (kq xs k)
 | [],xs,h=>by rw[h.nil_inv];exact RelK.nil
 | p::r,xs,h=>by
  obtain⟨v,t,rfl,h1,h2⟩:=h.cons_inv
  by_cases e:p.1=k
  ·rw[tR e]
   unfold dy
   rw[hI,if_neg (by simp[e])]
   exact h2.drop k
  ·rw[tS e]
   unfold dy
   rw[hI,if_pos (by simp[e])]
   exact RelK.cons h1 (h2.drop k)
def FH(d k x:Wv)(st:Hs):Re Wv:=match d with
 | .ref l=>(match mn k,st[l]? with
  | some kk,some (.bX kvs)=>(match bS kvs kk with | some w=> .ok w (st.set l (.bX (dy kvs kk))) | none=> .ok x st)
  | _,_=> .bad)
 | _=> .bad
def J2(st:Hs):Wv->Bool
 | .ref l=>(cQ st[l]?).isSome
 | _=>false
def og(gd gk gx:GE):GE:=λρ st=>(gd ρ st).bind λd st1=>if J2 st1 d=true then(gk ρ st1).bind λk st2=>(gx ρ st2).bind λx st3=>FH d k x st3 else .bad
theorem J3{gd gk gx:GE}(hu:X.A.units+1 < cLine)(ho:JE X o gd)(he:JE X e gk)(hf:JE X f gx)(M:M2 X o "pop" apos e f cpos):JE X (.Call (.Attribute o "pop" apos) [e,f] [] cpos) (og gd gk gx) :=
 JE.of (FG hu aY aY aY M) λρ st σ H m Q S R p=>by
  refine ho.go S R (az.bind p) λd st1 v m1 H1 p1 e1 S1 r1=>?_
  by_cases hd:J2 st1 d=true
  ·rw[if_pos hd] at p1
   cases d with
   | ref l=>
    unfold aj at r1
    obtain⟨a,rfl,ha⟩:=r1
    obtain⟨kv0,ek⟩:=Option.isSome_iff_exists.mp (show(cQ st1[l]?).isSome=true from hd)
    obtain⟨HC,h0,_⟩:=n9 (X:=X) S1 ha ek
    refine⟨a,rfl,.inr ⟨HC,h0⟩,?_⟩
    refine he.go S1 (R.mono e1) ((az.bind p1).imp e1 λ_ _ q=>q) λk st2 y m2 H2 p2 e2 S2 r2=>?_
    refine hf.go S2 (R.mono (e1.trans e2)) ((az.bind p2).imp (e1.trans e2) λ_ _ q=>q) λx st3 z m3 H3 p3 e3 S3 r3=>?_
    unfold FH at p3
    dsimp only at p3
    cases q1:mn k with
    | none=>rw[q1] at p3;exact aa p3
    | some kk=>
     cases q2:st3[l]? with
     | none=>rw[q1,q2] at p3;exact aa p3
     | some ob=>
      rw[q1,q2] at p3
      cases ob with
      | bX kvs=>
       dsimp only at p3
       have RW:m3[l]? =some a:=(e2.trans e3).pre _ _ ha
       obtain⟨xs,y1,y2⟩:=(show ∃ys,H3 a=some (.dT ys)/\RelK X.K m3 H3 kvs ys from S3.obj _ _ _ RW q2)
       obtain⟨b,rfl,hb⟩:=rA (aj.mono e3 _ _ r2) q1
       obtain⟨i1,i2⟩:=y2.val kk
       refine⟨xs,kk,b,y1,rfl,hb,λu Tg=>?_,λhn=>?_⟩
       ·cases q3:bS kvs kk with
        | none=>rw[i1 q3] at Tg;cases Tg
        | some w=>
         rw[q3] at p3
         obtain⟨u',j1,j2⟩:=i2 w q3
         rw[Tg] at j1
         cases j1
         have ex:Ext X.K m3 H3 m3 (upd H3 a (.dT (kq xs kk))):=Ext.jw (.inr (.inr (.inr (.inl ⟨_,y1⟩))))
         exact p3 u m3 _ (e1.trans (e2.trans (e3.trans ex))) (S3.qO RW q2 rfl ⟨_,aH,(y2.drop kk).mono ex⟩) (aj.mono ex _ _ j2)
       ·cases q3:bS kvs kk with
        | none=>rw[q3] at p3;exact p3 z m3 H3 (e1.trans (e2.trans e3)) S3 r3
        | some w=>
         obtain⟨u',j1,_⟩:=i2 w q3
         rw[hn] at j1
         cases j1
      | _=>exact aa p3
   | _=>cases hd
  ·rw[if_neg hd] at p1;exact aa p1
end
def Qq(a:acr)(o:Obj)(xs:List (List L2.Key×V)):It :=
 ⟨λi H=>H a=some (.eL o (.dT xs))/\i < xs.length,λi H v H'=>∃p b x,v= .ref p/\H p=none/\xs[i]? =some x/\H b=some (.tup (x.1.map kV))/\H'=upd H p (.tup [.ref b,x.2]),λi H=>H a=some (.eL o (.dT xs))/\xs.length<=i⟩
theorem zN{P:acw}{w:acz}{K:PySem.W.Frag}{es':List Expr}{kt:Nat}{pt:Pos}(a it:acr)(o:Obj)(xs:List (List L2.Key×V)):Turn P w K (.Tuple es' kt pt) (Qq a o xs) [it] it (λi h=>∃es ep ok ov,o.data= .dict es ep/\IsItemIter h it a i es.size ep ok ov) where
 mem:=by simp
 obj:=λi h st b hb=>by
  obtain⟨es,ep,ok,ov,_,q1⟩:=st
  have e:b=it:=by simpa using hb
  subst e
  exact⟨_,q1,λv z=>by cases z⟩
 keep:=λi h h' st k=>let ⟨es,ep,ok,ov,hd,ki⟩:=st;⟨es,ep,ok,ov,hd,k it (by simp) _ ki⟩
 self:=λ_ _ _ _ _ st h=>let ⟨_,_,_,_,_,ki⟩:=st;PySem.W.kcp_self ki h
 item:=by
  intro X hP hw hK hc i pins s σ H E I hf st hg
  subst hP hw hK
  obtain⟨es,ep,ok,ov,hd,ki⟩:=st
  obtain⟨he,hi⟩:=hg
  obtain⟨es2,ep2,lo,hd2,raw,sz,keys⟩:=vJ I.hok he
  rw[hd] at hd2
  cases hd2
  have fi:=hf it (by simp)
  have hi':i < es.size:=by omega
  obtain⟨x,b,e1,e2,e3,e4⟩:=keys i hi'
  refine CN ki raw hi' λh' ho hT hsz hk=>?_
  refine⟨.ref s.heap.objs.size,rfl,?_⟩
  refine wpAny_letOwnedTupleGo_items ho λh2 Vx sb=>?_
  have hfr:H s.heap.objs.size=none:=I.hok.fresh (au _)
  have lt:∀b o,s.heap.get? b=some o->b≠s.heap.objs.size:=λb o q=>bu (aC q)
  have YG:it≠s.heap.objs.size:=lt _ _ ki
  have kp:∀b o,b≠it->s.heap.get? b=some o->h2.get? b=some o:=λb o b1 q=>(sb.2 b b1).trans (hk b o b1 q)
  have kt:∀b u,H b=some u->b≠s.heap.objs.size:=λb u q=>bC q hfr
  have ke:∀b u,H b=some u->b≠it:=λb u q=>bC q fi.1
  have T2:h2.get? s.heap.objs.size=some { cls:=.type "tuple",data:=.seq #[es[i].key,es[i].val] }:=(sb.2 _ (bZ YG)).trans hT
  refine⟨.ref s.heap.objs.size,upd H s.heap.objs.size (.tup [.ref b,x.2]),?_,rfl,⟨s.heap.objs.size,b,x,rfl,hfr,e1,e3,rfl⟩,⟨es,ep,_,_,hd,Vx⟩,λc hb=>?_⟩
  ·refine I.DD (s':={ s with heap:=h2 }) (ch:=[it]) rfl ?_ ?_ I.bare (λb hb=>⟨(hf b hb).2.2.2.1,(hf b hb).2.1,(hf b hb).2.2.2.2.1,(hf b hb).2.2.2.2.2⟩)
   ·refine⟨λb o q _ _ hx=>kp b o (λz=>hx (by simp[z])) q,λb o q _ _ hx=>⟨o.slots,kp b o (λz=>hx (by simp[z])) q⟩,λb o q n _=>by rw[av (lt b o q)];exact n,λb o q hx=>⟨o,kp b o (λz=>hx (by simp[z])) q⟩,λb ys q=>by rw[av (kt b _ q)];exact q,λb o y q=>by rw[av (kt b _ q)];exact q,λb ps q=>⟨#[],by rw[av (kt b _ q),q];simp⟩⟩
   ·intro c u q
    by_cases hb:c=s.heap.objs.size
    ·subst hb
     rw[aH] at q
     cases q
     exact⟨by show 2<=acJ;decide,[es[i].key,es[i].val],.cons e2 (.cons e4 .nil),⟨_,T2,rfl,0,rfl⟩,λo q=>by rw[T2] at q;cases q;rfl⟩
    ·rw[av hb] at q
     refine(I.hok c u q).stay (λc' v hc g=>?_) (λc' g=>by rw[av (kt c' _ g)];exact g) λc' ys g=>by rw[av (kt c' _ g)];exact g
     rcases hc with z | z
     ·subst z;exact kp _ _ (ke _ _ q) g
     ·exact kp _ _ (ke _ _ z) g
  ·have z:c=it:=by simpa using hb
   rw[z,av YG];exact fi.1
 done:=by
  intro X hP hw hK hc i pins s σ H E I hf st hg
  subst hP hw hK
  obtain⟨es,ep,ok,ov,hd,ki⟩:=st
  obtain⟨he,hi⟩:=hg
  obtain⟨es2,ep2,lo,hd2,raw,sz,keys⟩:=vJ I.hok he
  rw[hd] at hd2
  cases hd2
  obtain⟨f0,f1,f2,f3,f4,f5⟩:=hf it (by simp)
  exact FD (I.ok.hd hc) ki raw (by omega) λh' eb=>⟨rfl,I.turned (t':=s.toks) (λb ob hb e=>eb b ob hb e) f0 f1 f3 f4 f5⟩
structure M0(X:Cx)(o:Expr)(m:Str)(apos cpos:Pos):Prop where
 base:attributeBase o m X.env (eval o X.env)=eval o X.env
 line:(apos.endLine == cpos.line)=true
section
variable {X:Cx} {es':List Expr} {kt:Nat} {pt:Pos}
def N3(te:TE):TI:=λσ H R=>te σ H λx H1=>∃a xs,x= .ref a/\((H1 a=some (.dT xs)/\∀o,R (Qq a o xs) (upd H1 a (.eL o (.dT xs))))\/∃o,H1 a=some (.eL o (.dT xs))/\R (Qq a o xs) H1)
theorem xF{pins:List (acr×Obj)}{σ:St}{H:Hp}{s:acx}{R:It->Hp->Prop}{E:acy->acx->Prop}{a:acr}{o:Obj}{xs:List (List L2.Key×V)}(I:Inv X pins σ H s)(e:H a=some (.eL o (.dT xs)))(r:R (Qq a o xs) H) :
  acL (model X.prog X.w) X.A (call (.builtin "dict.items") [.ref a]) (λv s1=>acL (model X.prog X.w) X.A (pyIter v) (UE X pins σ (.Tuple es' kt pt) R) E s1) E s:=by
 obtain⟨es,ep,lo,hd,raw,sz,keys⟩:=vJ I.hok e
 refine CL lo raw ?_
 obtain⟨o1,a1,a2,a3⟩:=raw
 refine CM (es:=es) (ep:=ep) ⟨_,bz _ rfl,rfl,rfl⟩ ⟨o1,aL _ a1,a2,a3⟩ ?_
 refine⟨_,[_],_,Qq a o xs,H,rfl,I.kept (t':=s.toks) λb ob q=>aL _ (aL _ q),zN a _ o xs,⟨es,ep,_,_,hd,bz _ rfl⟩,λb hb=>?_,r⟩
 rw[List.mem_singleton.mp hb]
 exact I.yO (by rw[vz];exact nY _) (I.hok.fresh (by rw[vz];exact nY _))
theorem FI{e:Expr}{te:TE}{apos cpos:Pos}(he:PE X e te)(m:M0 X e "items" apos cpos):PI X (.Tuple es' kt pt) (.Call (.Attribute e "items" apos) [] [] cpos) (N3 te):=by
 intro pins s σ H R I h
 refine wpAny_Call_method m.base rfl m.line PySem.F.plainAttrs_dict PySem.F.slot_dict_items PySem.F.type_dict_items (bJ (he pins s σ H _ I h) λu s1 ⟨x,H1,I1,rx,a,xs,ex,q⟩=>?_)
 subst ex
 obtain rfl:u=aE a:=rx
 have d:UY H1 a:=by
  rcases q with ⟨e1,_⟩ | ⟨o,e1,_⟩
  ·exact .inr ⟨xs,.inl e1⟩
  ·exact .inr ⟨xs,.inr ⟨o,e1⟩⟩
 obtain⟨t1,t2,_⟩:=y9 I1 d
 refine⟨t1,t2,y3 rfl (show acL _ _ (evalArgs (iX "dict.items") true [] []) _ _ _ from ?_)⟩
 refine PyProof.Rows.evalArgs_none ?_
 rcases q with ⟨e1,k⟩ | ⟨o,e1,k⟩
 ·obtain⟨o,_,I2⟩:=NU I1 e1
  exact xF I2 aH (k o)
 ·exact xF I1 e1 k
def fu:List (List L2.Key×Wv)->Option (List Wv)
 | []=>some []
 | kv::r=>(match mO kv.1,fu r with | some ns,some l=>some (.tup [.tup (ns.map Wv.int),kv.2]::l) | _,_=>none)
def zO(w:Wv)(st:Hs):Re TQ:=match w with
 | .ref l=>(match st[l]? with
  | some (.bX kvs)=>(match fu kvs with | some ws=> .ok (none,ws) (st.set l (.nL kvs)) | none=> .bad)
  | some (.nL kvs)=>(match fu kvs with | some ws=> .ok (none,ws) st | none=> .bad)
  | _=> .bad)
 | _=> .bad
def jX(g:GE):Qp:=λρ st=>(g ρ st).bind zO
theorem rF:∀{kvs:List (List L2.Key×Wv)}{ws:List Wv},fu kvs=some ws->ws.length=kvs.length/\∀(i:Nat)(h:i < ws.length),∃kv ns,kvs[i]? =some kv/\mO kv.1=some ns/\ws[i]= .tup [.tup (ns.map Wv.int),kv.2]
 | [],ws,e=>by cases e;exact⟨rfl,λi h=>by cases h⟩
 | k::ks,ws,e=>by
  unfold fu at e
  cases q1:mO k.1 with
  | none=>rw[q1] at e;cases e
  | some ns=>
   cases q2:fu ks with
   | none=>rw[q1,q2] at e;cases e
   | some l=>
    rw[q1,q2] at e
    cases e
    obtain⟨h1,h2⟩:=rF q2
    refine⟨by simp[h1],λi h=>?_⟩
    cases i with
    | zero=>exact⟨k,ns,rfl,q1,rfl⟩
    | succ i=>exact h2 i (by simpa using h)
theorem xG{κ:Type}{K:PySem.W.Frag}{m:Mp}{H:Hp}:∀{kvs:List (κ×Wv)}{xs:List (κ×V)},RelK K m H kvs xs->∀{i:Nat}{kv:κ×Wv},kvs[i]? =some kv->∃v,xs[i]? =some (kv.1,v)/\aj K m H kv.2 v
 | [],xs,h,i,kv,e=>by cases e
 | p::r,xs,h,0,kv,e=>by
  obtain⟨v,t,rfl,h1,h2⟩:=h.cons_inv
  cases e
  exact⟨v,rfl,h1⟩
 | p::r,xs,h,i+1,kv,e=>by
  obtain⟨v,t,rfl,h1,h2⟩:=h.cons_inv
  exact xG h2 (i:=i) e
theorem xH{m1:Mp}{H1:Hp}{a:acr}{o:Obj}{kvs:List (List L2.Key×Wv)}{xs:List (List L2.Key×V)}{ws:List Wv}(e:H1 a=some (.eL o (.dT xs)))(r:RelK X.K m1 H1 kvs xs)(hk:fu kvs=some ws):Fj X (none,ws) m1 H1 (Qq a o xs):=by
 obtain⟨l1,g1⟩:=rF hk
 have l2:ws.length=xs.length:=by rw[l1,r.length]
 refine⟨λk H m' st e' S c h=>⟨e'.eL _ _ _ e,by rw[<-l2];exact h⟩,λk H m' st e' S c h=>⟨e'.eL _ _ _ e,by rw[<-l2];exact p_ h.symm⟩,λk h H v H' m' st e' S c y=>?_⟩
 obtain⟨p,b,x,rfl,fr,y1,y2,rfl⟩:=y
 obtain⟨kv,ns,f1,f2,f3⟩:=g1 k h
 obtain⟨u,f4,f5⟩:=xG r f1
 rw[y1] at f4
 cases f4
 have eU:Ext X.K m' H m' (upd H p (.tup [.ref b,u])):=Ext.jw (.inl fr)
 refine⟨eU,S.fresh fr,?_⟩
 rw[f3]
 rw[vI f2] at y2
 unfold aj
 refine⟨p,_,rfl,aH,ai.cons ?_ (ai.cons (aj.mono (e'.trans eU) _ _ f5) ai.nil)⟩
 unfold aj
 exact⟨b,_,rfl,eU.tup _ _ y2,ai.ints ns⟩
theorem CT{e:Expr}{g:GE}{apos cpos:Pos}(h:JE X e g)(m:M0 X e "items" apos cpos):TR X (.Tuple es' kt pt) (.Call (.Attribute e "items" apos) [] [] cpos) (jX g):=by
 refine⟨_,FI aY m,λρ st σ H m Q S R p=>?_⟩
 refine h.go S R (az.bind p) λw st1 v m1 H1 p1 e1 S1 rw'=>?_
 unfold zO at p1
 cases w with
 | ref l=>
  unfold aj at rw'
  obtain⟨a,rfl,ha⟩:=rw'
  dsimp only at p1
  cases el:st1[l]? with
  | none=>rw[el] at p1;exact aa p1
  | some ob=>
   rw[el] at p1
   cases ob with
   | bX kvs=>
    dsimp only at p1
    cases ek:fu kvs with
    | none=>rw[ek] at p1;exact aa p1
    | some ws=>
     rw[ek] at p1
     obtain⟨xs,h1,h2⟩:=(show ∃ys,H1 a=some (.dT ys)/\RelK X.K m1 H1 kvs ys from S1.obj _ _ _ ha el)
     refine⟨a,xs,rfl,.inl ⟨h1,λo=>?_⟩⟩
     have ex:Ext X.K m1 H1 m1 (upd H1 a (.eL o (.dT xs))):=Ext.jw (.inr (.inr (.inr (.inl ⟨_,h1⟩))))
     have S2:bG X.K m1 (st1.set l (.nL kvs)) (upd H1 a (.eL o (.dT xs))):=S1.qO ha el rfl ⟨o,xs,aH,h2.mono ex⟩
     exact p1 m1 _ _ (e1.trans ex) S2 trivial (xH aH (h2.mono ex) ek)
   | nL kvs=>
    dsimp only at p1
    cases ek:fu kvs with
    | none=>rw[ek] at p1;exact aa p1
    | some ws=>
     rw[ek] at p1
     obtain⟨o,xs,h1,h2⟩:=(show ∃o ys,H1 a=some (.eL o (.dT ys))/\RelK X.K m1 H1 kvs ys from S1.obj _ _ _ ha el)
     exact⟨a,xs,rfl,.inr ⟨o,h1,p1 m1 _ _ e1 S1 trivial (xH h1 h2 ek)⟩⟩
   | _=>exact aa p1
 | _=>exact aa p1
end
section
variable {X:Cx}
end
section
variable {prog:acw} {w:acz} {K:Type} [DecidableEq K] {knd:HeapKind prog w K} {A:acs} {E:acy->acx->Prop} {s:acx} {a b:acr} {xs ys:List (K×acr×acy)}
theorem uo{id:String}{f:K->Bool}{Q:Bool->acx->Prop}(hu:knd.room A)(la:(a == sysModules)=false)(lb:(b == sysModules)=false)(hA:s.heap.DictOfH knd a xs)(hB:s.heap.DictOfH knd b ys)
  (hf:∀x∈xs,∀y∈ys,x.1=y.1->∀Q:Bool->acx->Prop,Q (f x.1) s->acL (model prog w) A (eqBool x.2.2 y.2.2) Q E s)
  (hQ:Q (decide (xs.length=ys.length)&&xs.all λx=>(atKey ys x.1).isSome&&f x.1) s):acL (model prog w) A (N4 id a b) Q E s:=by
 obtain⟨oa,ea,epa,a1,a2,a3,a4,a5,a6⟩:=hA
 obtain⟨ob,eb,epb,b1,b2,b3,b4,b5,b6⟩:=hB
 have za:ea.size=xs.length:=size_of_entries a4
 have zb:eb.size=ys.length:=size_of_entries b4
 unfold N4 vF
 rw[if_neg (by rw[la];exact bD),if_neg (by rw[lb];exact bD)]
 refine acM (acR (acM (acR (acM (acN a1 a3 (acM (acN b1 b3 ?_)))))))
 by_cases hl:xs.length=ys.length
 ·rw[if_neg (by rw[za,zb,hl];simp)]
  rw[decide_eq_true hl,zP] at hQ
  refine acM (wpAny_dictEpoch a1 a3 (acM ?_))
  rw[J0]
  simp only[Std.Legacy.Range.size,Nat.sub_zero,Nat.add_sub_cancel,Nat.div_one]
  generalize hg:(λx:K×acr×acy=>(atKey ys x.1).isSome&&f x.1)=g at hQ
  refine wpAny_forIn_list _ (λrest st s'=>s'=s/\st=(none,())/\∃i,rest=List.range' i (xs.length - i)/\i<=xs.length/\xs.all g=(xs.drop i).all g) _ ?_ ?_ _ _ ⟨rfl,rfl,0,by rw[za,Nat.sub_zero],bY _,rfl⟩
  ·rintro x rest st s' ⟨rfl,rfl,i,hr,hi,hall⟩
   have hlt:i < xs.length:=by
    rcases Nat.lt_or_ge i xs.length with h | h
    ·exact h
    ·rw[A_ h] at hr;simp at hr
   obtain⟨rfl,hrest⟩:x=i/\rest=List.range' (i+1) (xs.length - (i+1)):=by
    have e:xs.length - i=(xs.length - (i+1))+1:=by omega
    rw[e,List.range'_succ] at hr
    injection hr with h1 h2
    exact⟨h1,h2⟩
   rw[qU hlt,dh] at hall
   have hm:xs[x]∈xs:=qh hlt
   refine acM (acN a1 a3 ?_)
   rw[entry_at a4 x,cK hlt]
   refine acM (acO ?_)
   have next:xs.all g=(xs.drop (x+1)).all g->∀Q':ForInStep (Option Bool×Unit)->acx->Prop,Q' (.yield (none,())) s'->acL (model prog w) A (do
     let AF <-dictEpoch a
     if(AF != epa)=true then do
       (unsupported (toString id++toString ":changed-during-callback"):Sem PUnit)
       pure (oJ (none,()))
      else pure (oJ (none,()))) Q' E s':=λ_ Q' q'=>by
    refine acM (wpAny_dictEpoch a1 a3 ?_)
    rw[if_neg (by simp)]
    exact acR q'
   refine acM (wpAny_dictFind_heap (k:=xs[x].1) hu (a5 _ hm) b1 b3 b4 b5 b6 (λno=>acR ?_) λj p hj=>?_)
   ·simp only[vK,if_true]
    have gf:g xs[x]=false:=by rw[<-hg];simp only[atKey_none_of_get no];rfl
    rw[gf,AH] at hall
    rw[hall] at hQ
    exact acR (acR hQ)
   ·refine acM (acN b1 b3 ?_)
    rw[entry_at b4 j,hj]
    refine acO (hf _ hm _ (uS hj) rfl _ ?_)
    have gf:g xs[x]=f xs[x].1:=by rw[<-hg];simp only[atKey_of_get b6 hj];rfl
    cases hv:f xs[x].1 with
    | false=>
     simp only[vK,if_true]
     rw[gf,hv,AH] at hall
     rw[hall] at hQ
     exact acR (acR hQ)
    | true=>
     simp only[mF,fU,if_false]
     rw[gf,hv,zP] at hall
     exact next hall _ ⟨rfl,rfl,x+1,hrest,hlt,hall⟩
  ·rintro st s' ⟨rfl,rfl,i,hr,hi,hall⟩
   have h0:xs.length - i=0:=by
    have:=congrArg dq hr
    simpa using this.symm
   rw[Fb (by omega),List.all_nil] at hall
   rw[hall] at hQ
   exact acR hQ
 ·rw[if_pos (by rw[za,zb];simpa using hl)]
  rw[decide_eq_false hl,AH] at hQ
  exact acM (wpAny_rule (acR hQ))
end
section
variable {prog:acw} {w:acz} {K:Type} [DecidableEq K] {knd:HeapKind prog w K} {A:acs} {E:acy->acx->Prop} {s:acx} {a b:acr} {xs ys:List (K×acr×acy)}
theorem J4{f:K->Bool}{Q:acy->acx->Prop}(hr:A.units < cLine)(hu:knd.room A.in1)(la:(a == sysModules)=false)(lb:(b == sysModules)=false)(hA:s.heap.DictOfH knd a xs)(hB:s.heap.DictOfH knd b ys)
  (hf:∀E:acy->acx->Prop,∀x∈xs,∀y∈ys,x.1=y.1->∀Q:Bool->acx->Prop,Q (f x.1) s->acL (model prog w) A.in1 (eqBool x.2.2 y.2.2) Q E s)
  (hQ:Q (.bool (decide (xs.length=ys.length)&&xs.all λx=>(atKey ys x.1).isSome&&f x.1)) s):acL (model prog w) A (acF .Eq (.ref a) (.ref b)) Q E s:=by
 have tA:s.TypeIs (.ref a) "dict":=hA.typeIs
 have tB:s.TypeIs (.ref b) "dict":=hB.typeIs
 refine(show acL (model prog w) A (richCompare .Eq (.ref a) (.ref b)) Q E s from wpAny_richCompare_same_room tA tB PySem.F.slot_dict_eq (wpAny_call_entry PySem.F.slot_dict_eq tA PySem.F.entry_dict_eq ?_ (PySem.F.args_dict_eq_2 _ _)) hr)
 refine(show acL _ _ (zQ "__eq__" ⟨[.ref a,.ref b],[]⟩ >>= _) _ _ s from acM ?_)
 unfold zQ
 refine acM (wpAny_notOrdered_dict tA (show acL _ _ (pure (aE a,aE b)) _ _ s from acR ?_))
 refine acM (wpAny_isInstance tB isSubtype_dict_dict ?_)
 simp only[mF,fU,if_false]
 refine acM (acR (acM (acR (acM (uo hu la lb hA hB (hf _) ?_)))))
 refine acR ⟨_,rfl,(λz=>nomatch z),?_⟩
 rw[show ∀c:Bool,(c == true)=c from by decide]
 exact hQ
theorem slot_dict_ne:Slot "dict" (cmpInfo .NotEq).2.1 "dict.__ne__" :=
 .of (owner:="dict") (n:="__ne__") (by rw[typeLookup_type,builtinLookup_eq_fast];kernel_rfl) (by decide+kernel) (by decide+kernel) (by decide+kernel) (by first | exact .inl (by decide+kernel) | exact .inr (by decide+kernel)) (by rw[acH];kernel_rfl)
theorem entry_dict_ne:entryFor table "dict.__ne__"=some Builtin.«dict.__ne__»:=entryFor_of_tree (by kernel_rfl)
theorem args_dict_ne_2(a b:acy):argsOk "dict.__ne__" ⟨[a,b],[]⟩:=by
 unfold argsOk;rw[signature?_of (id:="dict.__ne__") (n:=['_','_','e','n','_','_']) (o:=['t','c','i','d']) (by kernel_rfl) PySem.F.owner_dict];kernel_rfl
theorem J5{f:K->Bool}{Q:acy->acx->Prop}(hr:A.units < cLine)(hu:knd.room A.in1)(la:(a == sysModules)=false)(lb:(b == sysModules)=false)(hA:s.heap.DictOfH knd a xs)(hB:s.heap.DictOfH knd b ys)
  (hf:∀E:acy->acx->Prop,∀x∈xs,∀y∈ys,x.1=y.1->∀Q:Bool->acx->Prop,Q (f x.1) s->acL (model prog w) A.in1 (eqBool x.2.2 y.2.2) Q E s)
  (hQ:Q (.bool (!(decide (xs.length=ys.length)&&xs.all λx=>(atKey ys x.1).isSome&&f x.1))) s):acL (model prog w) A (acF .NotEq (.ref a) (.ref b)) Q E s:=by
 have tA:s.TypeIs (.ref a) "dict":=hA.typeIs
 have tB:s.TypeIs (.ref b) "dict":=hB.typeIs
 refine(show acL (model prog w) A (richCompare .NotEq (.ref a) (.ref b)) Q E s from wpAny_richCompare_same_room tA tB slot_dict_ne (wpAny_call_entry slot_dict_ne tA entry_dict_ne ?_ (args_dict_ne_2 _ _)) hr)
 refine(show acL _ _ (zQ "__ne__" ⟨[.ref a,.ref b],[]⟩ >>= _) _ _ s from acM ?_)
 unfold zQ
 refine acM (wpAny_notOrdered_dict tA (show acL _ _ (pure (aE a,aE b)) _ _ s from acR ?_))
 refine acM (wpAny_isInstance tB isSubtype_dict_dict ?_)
 simp only[mF,fU,if_false]
 refine acM (acR (acM (acR (acM (uo hu la lb hA hB (hf _) ?_)))))
 refine acR ⟨_,rfl,(λz=>nomatch z),?_⟩
 rw[show ∀c:Bool,(c == false)= !c from by decide]
 exact hQ
end
abbrev N5:=List (List L2.Key×Wv)
def oQ(st:Hs)(kvs:N5):Bool:=kvs.all λkv=>(a8 st 20 kv.2).isSome
def J6(st:Hs)(k1 k2:N5)(k:List L2.Key):Bool:=match bS k1 k,bS k2 k with
 | some v,some w=>(match a8 st 20 v,a8 st 20 w with | some a,some b=>bf a b | _,_=>false)
 | _,_=>false
def mD(st:Hs)(k1 k2:N5):Bool:=decide (k1.length=k2.length)&&(k1.map (·.1)).all λk=>(bS k2 k).isSome&&J6 st k1 k2 k
def Vy(K:PySem.W.Frag)(neg:Bool):R2:=λa b H Q=>∃m st p q k1 k2 l1 l2,bG K m st H/\a= .ref p/\b= .ref q/\Rd H p (.dT l1)/\Rd H q (.dT l2)/\RelK K m H k1 l1/\RelK K m H k2 l2/\oQ st k1=true/\oQ st k2=true/\Q (.bl (if neg then !mD st k1 k2 else mD st k1 k2)) H
theorem FJ{H:Hp}:∀{xs:List (List L2.Key×V)}{ys:List (List L2.Key×acr×acy)},KT H xs ys->xs.map (·.1)=ys.map (·.1)
 | _,_,.nil=>rfl
 | _,_,.cons h t=>by rw[ay,ay,FJ t,h.1]
theorem jD{κ:Type}[DecidableEq κ]{k:κ}{w:Wv}:∀{kvs:List (κ×Wv)},bS kvs k=some w->(k,w)∈kvs
 | [],e=>by cases e
 | p::r,e=>by
  unfold bS at e
  by_cases h:p.1=k
  ·rw[if_pos h] at e
   cases e
   rw[<-h]
   exact aR
  ·rw[if_neg h] at e
   exact aN _ (jD e)
section
variable {X:Cx}
theorem Bj{m:Mp}{st:Hs}{H:Hp}{kvs:N5}{xs:List (List L2.Key×V)}{ys:List (List L2.Key×acr×acy)}{k:List L2.Key}{p:acr×acy}(r:RelK X.K m H kvs xs)(kt:KT H xs ys)(nd:(ys.map (·.1)).Nodup)(hd:oQ st kvs=true)(h:(k,p)∈ys) :
  ∃w v d,bS kvs k=some w/\aj X.K m H w v/\RelV v p.2/\a8 st 20 w=some d:=by
 obtain⟨j,hj⟩:=List.mem_iff_getElem?.mp h
 have ak:=atKey_of_get nd hj
 have vl:=kt.val k
 rw[ak] at vl
 obtain⟨v,ev,rv⟩:=um vl
 obtain⟨i1,i2⟩:=r.val k
 cases e:bS kvs k with
 | none=>rw[i1 e] at ev;cases ev
 | some w=>
  obtain⟨u,j1,j2⟩:=i2 w e
  rw[ev] at j1
  cases j1
  obtain⟨d,e2⟩:=Option.isSome_iff_exists.mp (List.all_eq_true.mp hd _ (jD e))
  exact⟨w,v,d,rfl,j2,rv,e2⟩
theorem xI{m:Mp}{st:Hs}{H:Hp}{k1 k2:N5}{l1 l2:List (List L2.Key×V)}{y1 y2:List (List L2.Key×acr×acy)}(r1:RelK X.K m H k1 l1)(r2:RelK X.K m H k2 l2)(t1:KT H l1 y1)(t2:KT H l2 y2) :
  (decide (y1.length=y2.length)&&y1.all λx=>(atKey y2 x.1).isSome&&J6 st k1 k2 x.1)=mD st k1 k2:=by
 have e1:y1.length=k1.length:=by rw[<-Paired.length t1,r1.length]
 have e2:y2.length=k2.length:=by rw[<-Paired.length t2,r2.length]
 have ks:k1.map (·.1)=y1.map (·.1):=by rw[r1.1,FJ t1]
 have at2:∀k,(atKey y2 k).isSome=(bS k2 k).isSome:=λk=>by
  have q:=(t2.val k).tO
  rw[Option.isSome_map] at q
  rw[<-q]
  obtain⟨i1,i2⟩:=r2.val k
  cases e:bS k2 k with
  | none=>rw[i1 e];rfl
  | some w=>obtain⟨u,j1,_⟩:=i2 w e;rw[j1];rfl
 unfold mD
 rw[e1,e2,ks,E_]
 congr 1
 refine List.all_congr rfl λx=>?_
 show((atKey y2 x.1).isSome&&J6 st k1 k2 x.1)=((bS k2 x.1).isSome&&J6 st k1 k2 x.1)
 rw[at2]
theorem FK(neg:Bool)(hu:X.A.units+64 < cLine):fW X (acF (if neg then .NotEq else .Eq)) (Vy X.K neg):=by
 intro pins s σ H a b v u Q I rx ry h
 obtain⟨m,st,p,q,k1,k2,l1,l2,S,rfl,rfl,d1,d2,r1,r2,h1,h2,hq⟩:=h
 cases rx
 cases ry
 obtain⟨z1,lo1,y1,t1,D1⟩:=AQ I.hok d1
 obtain⟨z2,lo2,y2,t2,D2⟩:=AQ I.hok d2
 have n1:(y1.map (·.1)).Nodup:=let ⟨_,_,_,_,_,_,_,_,n⟩:=D1;n
 have n2:(y2.map (·.1)).Nodup:=let ⟨_,_,_,_,_,_,_,_,n⟩:=D2;n
 have hf:∀E:acy->acx->Prop,∀x∈y1,∀y∈y2,x.1=y.1->∀Q:Bool->acx->Prop,Q (J6 st k1 k2 x.1) s->acL (model X.prog X.w) X.A.in1 (eqBool x.2.2 y.2.2) Q E s:=λE x hx y hy e Q' q'=>by
  obtain⟨w,v,dw,a1,a2,a3,a4⟩:=Bj (k:=x.1) (p:=x.2) (st:=st) r1 t1 n1 h1 hx
  obtain⟨w',v',TU,b1,b2,b3,b4⟩:=Bj (k:=y.1) (p:=y.2) (st:=st) r2 t2 n2 h2 hy
  rw[<-e] at b1
  obtain⟨as,q1,q2,q3⟩:=jz I S 20 w v _ dw a2 a3 a4
  obtain⟨bs,p1,p2,p3⟩:=jz I S 20 w' v' _ TU b2 b3 b4
  have ee:J6 st k1 k2 x.1=bf dw TU:=by unfold J6;rw[a1,b1];dsimp only;rw[a4,b4]
  rw[ee] at q'
  exact HQ X.prog X.w X.A.in1 E s _ _ dw TU as bs Q' q1 p1 q2 p2 (by
   have:X.A.in1.units=X.A.units+1:=rfl
   have:min dw.depth TU.depth<=dw.depth:=Nat.min_le_left _ _
   omega) q'
 cases neg with
 | false=>
  refine J4 (by omega) (tupleKind_room_in1 (by omega)) lo1 lo2 D1 D2 hf ?_
  rw[xI r1 r2 t1 t2]
  exact⟨.bl _,H,I,rfl,hq⟩
 | true=>
  refine J5 (by omega) (tupleKind_room_in1 (by omega)) lo1 lo2 D1 D2 hf ?_
  rw[xI r1 r2 t1 t2]
  exact⟨.bl _,H,I,rfl,hq⟩
def rG(st:Hs):Wv->Option N5
 | .ref l=>cQ st[l]?
 | _=>none
def CU:hX:=λx y st=>match rG st x,rG st y with
 | some k1,some k2=>if oQ st k1=true/\oQ st k2=true then .ok (.bl (mD st k1 k2)) st else .bad
 | _,_=>oEq x y st
def sL:hX:=λx y st=>match rG st x,rG st y with
 | some k1,some k2=>if oQ st k1=true/\oQ st k2=true then .ok (.bl (!mD st k1 k2)) st else .bad
 | _,_=>oI x y st
theorem qi{m:Mp}{st:Hs}{H:Hp}{x:Wv}{a:V}{kvs:N5}(S:bG X.K m st H)(r:aj X.K m H x a)(h:rG st x=some kvs):∃p l,a= .ref p/\Rd H p (.dT l)/\RelK X.K m H kvs l:=by
 cases x with
 | ref j=>
  unfold aj at r
  obtain⟨p,rfl,hp⟩:=r
  obtain⟨l,h1,h2⟩:=n9 (X:=X) S hp h
  exact⟨p,l,rfl,h1,h2⟩
 | _=>cases h
theorem FO(hu:X.A.units+64 < cLine):kU X (acF .Eq) CU:=by
 obtain⟨r0,c0,k0⟩:=Lc (X:=X) hu
 refine⟨_,fW.or (FK (X:=X) false hu) c0,λx y a b st H m Q S rx ry p=>?_⟩
 unfold CU at p
 cases e1:rG st x with
 | none=>rw[e1] at p;exact .inr (k0 x y a b st H m Q S rx ry p)
 | some k1=>
  cases e2:rG st y with
  | none=>rw[e1,e2] at p;exact .inr (k0 x y a b st H m Q S rx ry p)
  | some k2=>
   rw[e1,e2] at p
   dsimp only at p
   by_cases c:oQ st k1=true/\oQ st k2=true
   ·rw[if_pos c] at p
    obtain⟨p1,l1,rfl,d1,r1⟩:=qi (X:=X) S rx e1
    obtain⟨p2,l2,rfl,d2,r2⟩:=qi (X:=X) S ry e2
    exact .inl ⟨m,st,p1,p2,k1,k2,l1,l2,S,rfl,rfl,d1,d2,r1,r2,c.1,c.2,p _ m H Ext.refl S jT⟩
   ·rw[if_neg c] at p;exact aa p
theorem FP(hu:X.A.units+64 < cLine):kU X (acF .NotEq) sL:=by
 obtain⟨r0,c0,k0⟩:=Ld (X:=X) hu
 refine⟨_,fW.or (FK (X:=X) true hu) c0,λx y a b st H m Q S rx ry p=>?_⟩
 unfold sL at p
 cases e1:rG st x with
 | none=>rw[e1] at p;exact .inr (k0 x y a b st H m Q S rx ry p)
 | some k1=>
  cases e2:rG st y with
  | none=>rw[e1,e2] at p;exact .inr (k0 x y a b st H m Q S rx ry p)
  | some k2=>
   rw[e1,e2] at p
   dsimp only at p
   by_cases c:oQ st k1=true/\oQ st k2=true
   ·rw[if_pos c] at p
    obtain⟨p1,l1,rfl,d1,r1⟩:=qi (X:=X) S rx e1
    obtain⟨p2,l2,rfl,d2,r2⟩:=qi (X:=X) S ry e2
    exact .inl ⟨m,st,p1,p2,k1,k2,l1,l2,S,rfl,rfl,d1,d2,r1,r2,c.1,c.2,p _ m H Ext.refl S jT⟩
   ·rw[if_neg c] at p;exact aa p
end
section
variable {X:Cx}
end
section
variable {prog:acw} {w:acz} {K:Type} [DecidableEq K] {knd:HeapKind prog w K} {A:acs} {E:acy->acx->Prop} {s:acx} {d:acr} {xs:List (K×acr×acy)}
end
section
variable {X:Cx}
def pM(tb:Tab)(tt:sF):List Wv->Hs->Re Wv
 | [.ref l,.ty T],st=>if T="dict"/\(cQ st[l]?).isSome=true then .ok (.bl true) st else hJ tb tt [.ref l,.ty T] st
 | ws,st=>hJ tb tt ws st
theorem FQ:cV X (.builtin "isinstance") (λvs H Q=>∃a kvs,vs=[.ref a,.ty "dict"]/\Rd H a (.dT kvs)/\Q (.bl true) H):=by
 intro pins s σ H xs us Q I r h
 obtain⟨a,kvs,rfl,e,q⟩:=h
 obtain⟨u,u',rfl,r1,r2⟩:=vals2 r
 cases r1
 cases r2
 obtain⟨t1,_,_⟩:=y9 I (.inr ⟨kvs,e⟩)
 exact call_isinstance_yes (Tx:="dict") t1 (by kernel_rfl) (by rw[acH];kernel_rfl) ⟨.bl true,H,I,rfl,q⟩
theorem N6{tb:Tab}{tt:sF}{tc:Tab}(O:TabOk X.K tb tt tc):eG X (.builtin "isinstance") (pM tb tt):=by
 obtain⟨r0,c0,k0⟩:=EK (X:=X) O
 refine⟨_,FQ.or c0,λws vs st H m Q S r p=>?_⟩
 have old:cW X.K m H (hJ tb tt ws st) Q->r0 vs H Q:=λp=>k0 ws vs st H m Q S r p
 unfold pM at p
 split at p
 ·rename_i l T
  by_cases c:T="dict"/\(cQ st[l]?).isSome=true
  ·rw[if_pos c] at p
   obtain⟨rfl,c2⟩:=c
   obtain⟨kvs,e⟩:=Option.isSome_iff_exists.mp c2
   obtain⟨v,v',rfl,r1,r2⟩:=w9 r
   unfold aj at r1 r2
   obtain⟨a,rfl,ha⟩:=r1
   subst r2
   obtain⟨xs,h1,_⟩:=n9 (X:=X) S ha e
   exact .inl ⟨a,xs,rfl,h1,p _ m H Ext.refl S (by unfold aj;rfl)⟩
  ·rw[if_neg c] at p
   exact .inr (old p)
 ·exact .inr (old p)
end
section
variable {X:Cx}
end
theorem FR{I l1 l2:Nat}(h1:l1 < I)(h2:l2 < I):ZipApart (I+4) (I+2) (I+3) I (I+1) l1 l2:=by
 constructor<;>first | exact bu (by omega) | exact lI (by omega)
section
variable {X:Cx}
open Classical in
end
section
variable {X:Cx}
end
section
variable {prog:acw} {w:acz} {K:Type} [DecidableEq K] {knd:HeapKind prog w K} {A:acs} {E:acy->acx->Prop} {s:acx} {d a:acr} {k:K} {xs:List (K×acr×acy)}
end
section
variable {X:Cx} {o e:Expr} {apos cpos:Pos} {td ty:TE}
end
def N7(i:Int)(n:Nat):Nat:=if i < 0 then(i+n).toNat else min i.toNat n
def jY{α:Type}(xs:List α)(i:Int)(v:α):List α:=xs.take (N7 i xs.length)++v::xs.drop (N7 i xs.length)
theorem xJ{α:Type}(xs:List α)(i:Int)(v:α):(jY xs i v).length=xs.length+1:=by
 unfold jY
 rw[cY,gD,dt,nJ]
 omega
theorem pD{α β:Type}{F:α->β->Prop}:∀{l:List α}{k:List β}(n:Nat),Paired F l k->Paired F (l.take n) (k.take n)
 | _,_,0,_=> .nil
 | _,_,n+1,.nil=> .nil
 | _,_,n+1,.cons h t=> .cons h (pD n t)
theorem pE{α β:Type}{F:α->β->Prop}:∀{l:List α}{k:List β}(n:Nat),Paired F l k->Paired F (l.drop n) (k.drop n)
 | _,_,0,h=>h
 | _,_,n+1,.nil=> .nil
 | _,_,n+1,.cons h t=>pE n t
theorem FT{vs:List V}{us:List acy}{i:Int}{v:V}{u:acy}(r:Vals vs us)(h:RelV v u):Vals (jY vs i v) (jY us i u):=by
 unfold jY
 rw[r.length]
 exact Vals.append (pD _ r) (.cons h (pE _ r))
section
variable {X:Cx} {o e f:Expr} {apos cpos:Pos} {to te tf:TE}
def Vz(to te tf:TE):TE:=λσ H Q=>to σ H λx H1=>∃l HC,x= .ref l/\H1 l=some (.lst HC)/\te σ H1 λy H2=>tf σ H2 λz H3=>∃xs i,H3 l=some (.lst xs)/\y= .int i/\vM i=true/\xs.length < acJ/\Q .aI (upd H3 l (.lst (jY xs i z)))
theorem N8(ho:PE X o to)(he:PE X e te)(hf:PE X f tf)(m:M2 X o "insert" apos e f cpos):PE X (.Call (.Attribute o "insert" apos) [e,f] [] cpos) (Vz to te tf):=by
 intro pins s σ H Q I h
 refine wpAny_Call_method m.base m.few m.line PySem.F.plainAttrs_list PySem.F.slot_list_insert PySem.F.type_list_insert (bJ (ho pins s σ H _ I h) λu s1 ⟨x,H1,I1,rx,l,HC,ex,hl0,q1⟩=>?_)
 subst ex
 obtain rfl:u=aE l:=rx
 obtain⟨z0,aaA,n0,r0,h00,e0⟩:=I1.y7 hl0
 refine⟨⟨_,e0,rfl⟩,λb q=>by cases q;exact⟨_,e0,rfl⟩,?_⟩
 rw[m.trees]
 refine y3 rfl (y6 (qB (bJ (he pins s1 σ H1 _ I1 q1) λiv s2 ⟨y,H2,I2,ry,q2⟩=>
  qB (bJ (hf pins s2 σ H2 _ I2 q2) λfv s3 ⟨z,H3,I3,rz,xs,i,ea,ey,hi,hz,q3⟩=>yT ?_))))
 subst ey
 obtain⟨t,rfl⟩:=(show ∃t,iv=lF i t from ry)
 obtain⟨z1,its,n,r,hl,e1⟩:=I3.y7 ea
 have hl1:its.length=xs.length:=r.length.symm
 refine call_meets PySem.F.slot_list_insert ⟨_,e1,rfl⟩ PySem.F.entry_list_insert (PySem.F.args_list_insert_3 _ _ _) (AutoSeq1.list_insert_list_int_val_1 l its.toArray n i t fv (by simp[hi]) (by rw[aM];omega)) ⟨e1,?_⟩
 refine⟨.aI,_,I3.IF (its':=jY its i fv) ea e1 ?_ (FT r rz) (by rw[xJ];omega),rfl,q3⟩
 unfold jY N7
 simp
 exact JB (by rw[nJ];exact au _)
def J7(l:Nat)(i v:Wv)(st:Hs):Re Wv:=match i,st[l]? with
 | .int i,some (.lst ws)=>if ws.length < lim/\vM i=true then .ok .aI (st.set l (.lst (jY ws i v))) else .bad
 | _,_=> .bad
def J8:Option Ob->Bool
 | some (.lst _)=>true
 | _=>false
def CV(go ge gf:GE):GE:=λρ st=>(go ρ st).bind λo st1=>match o with
 | .ref l=>if J8 st1[l]? =true then(ge ρ st1).bind λi st2=>(gf ρ st2).bind λv st3=>J7 l i v st3 else .bad
 | _=> .bad
theorem rH{K:PySem.W.Frag}{m:Mp}{H:Hp}:∀{ws:List Wv}{xs:List V}(n:Nat),ai K m H ws xs->ai K m H (ws.take n) (xs.take n)
 | _,_,0,_=>ai.nil
 | [],xs,n+1,r=>by unfold ai at r;subst r;exact ai.nil
 | w::ws,xs,n+1,r=>by
  unfold ai at r
  obtain⟨x,t,rfl,r1,r2⟩:=r
  exact ai.cons r1 (rH n r2)
theorem rJ{K:PySem.W.Frag}{m:Mp}{H:Hp}:∀{ws:List Wv}{xs:List V}(n:Nat),ai K m H ws xs->ai K m H (ws.drop n) (xs.drop n)
 | _,_,0,r=>r
 | [],xs,n+1,r=>by unfold ai at r;subst r;exact ai.nil
 | w::ws,xs,n+1,r=>by
  unfold ai at r
  obtain⟨x,t,rfl,r1,r2⟩:=r
  exact rJ n r2
theorem N9{go ge gf:GE}(ho:JE X o go)(he:JE X e ge)(hf:JE X f gf)(M:M2 X o "insert" apos e f cpos):JE X (.Call (.Attribute o "insert" apos) [e,f] [] cpos) (CV go ge gf) :=
 JE.of (N8 aY aY aY M) λρ st σ H m Q S R p=>by
  refine ho.go S R (az.bind p) λd st1 v m1 H1 p1 e1 S1 r1=>?_
  cases d with
  | ref l=>
   dsimp only at p1
   by_cases hd:J8 st1[l]? =true
   ·rw[if_pos hd] at p1
    unfold aj at r1
    obtain⟨a,rfl,ha⟩:=r1
    obtain⟨Vb,hk1⟩:∃Vb,st1[l]? =some (.lst Vb):=by
     unfold J8 at hd
     split at hd
     ·rename_i ws q;exact⟨ws,q⟩
     ·cases hd
    obtain⟨xs1,rd1,_⟩:=S1.nM ha hk1
    refine⟨a,xs1,rfl,rd1,?_⟩
    refine he.go S1 (R.mono e1) ((az.bind p1).imp e1 λ_ _ q=>q) λk st2 y m2 H2 p2 e2 S2 r2=>?_
    refine hf.go S2 (R.mono (e1.trans e2)) ((az.bind p2).imp (e1.trans e2) λ_ _ q=>q) λx st3 z m3 H3 p3 e3 S3 r3=>?_
    unfold J7 at p3
    split at p3
    ·rename_i i ws q2
     by_cases c:ws.length < lim/\vM i=true
     ·rw[if_pos c] at p3
      have RW:m3[l]? =some a:=(e2.trans e3).pre _ _ ha
      obtain⟨xs,y1,y2⟩:=S3.nM RW q2
      unfold aj at r2
      subst r2
      have ex:Ext X.K m3 H3 m3 (upd H3 a (.lst (jY xs i z))):=Ext.upd (.inr ⟨xs,y1⟩)
      have ri:ai X.K m3 H3 (jY ws i x) (jY xs i z):=by
       unfold jY
       rw[y2.length]
       exact(rH _ y2).append (ai.cons r3 (rJ _ y2))
      exact⟨xs,i,y1,rfl,c.2,by rw[<-y2.length];exact vg c.1,p3 _ m3 _ (e1.trans (e2.trans (e3.trans ex))) (S3.write RW q2 ri) w5⟩
     ·rw[if_neg c] at p3;exact aa p3
    ·exact aa p3
   ·rw[if_neg hd] at p1;exact aa p1
  | _=>exact aa p1
end
section
variable {X:Cx}
abbrev kP(p:Int×Int):List L2.Key:=[L2.Key.inl p.1,L2.Key.inl p.2]
end
section
variable {prog:acw} {w:acz} {A:acs} {E:acy->acx->Prop} {s:acx}
end
section
variable {X:Cx}
end
section
variable {X:Cx}
def Lp(ws:List Wv)(st:Hs):Re Wk:=match ws with
 | [.int a,.int b,.int c]=>if YD a b c then .ok (none,Vw a c (RU a b c)) st else .bad
 | _=> .bad
def VA(g:GA):GI:=λρ st=>(g ρ st).bind Lp
end
section
variable {prog:acw} {w:acz} {A:acs} {R:Result->acx->Prop} {I:acr} {fp wr:List acr} {n:Nat} {P:Nat->acy->Prop} {St:Nat->Heap->Prop}
end
section
variable {prog:acw} {w:acz} {A:acs} {E:acy->acx->Prop} {s:acx}
end
section
variable {X:Cx}
end
section
variable {lt:Nat->Nat->Bool} {N:Nat}
end
section
variable {P:acw} {w:acz} {K:PySem.W.Frag} {mg:Str->Option acy} {base:Heap} {p:Lm} {scope:Scope} {x y:Str} {cy:acr}
end
abbrev Kw:=Int×(Int ⊕ Str)
section
variable {prog:acw} {w:acz} {A:acs} {E:acy->acx->Prop} {s:acx}
end
section
variable {X:Cx} {pins:List (acr×Obj)} {σ:L2.St} {H:Hp} {s:acx} {m:Mp}
end
def kd:Kw:=(0,.inl 0)
section
variable {X:Cx} {pins:List (acr×Obj)} {σ:L2.St} {base:Heap} {m0 m m':Mp} {H0 H H':Hp} {st:Hs} {D kS:acr} {e1:Nat} {s s':acx}
end
section
variable {X:Cx} {pins:List (acr×Obj)} {σ:L2.St} {base:Heap} {m0 m m':Mp} {H0 H H':Hp} {st:Hs} {D kS:acr} {e1:Nat} {s s':acx}
end
section
variable {X:Cx} {pins:List (acr×Obj)} {σ:L2.St} {base:Heap} {m:Mp} {H:Hp} {st:Hs} {s:acx}
end
open Classical in
section
variable {X:Cx}
end
section
variable {X:Cx}
end
section
variable {X:Cx}
end
section
variable {prog:acw} {w:acz} {A:acs} {E:acy->acx->Prop} {s:acx}
end
section
variable {X:Cx}
end
section
variable {X:Cx}
end
section
open PySem.SeqAt PySem.MeetsSeq PySem.MeetsSeq2 PySem.MeetsSeq3
end
variable {X:Cx}
def oLt:hX:=λx y st=>RS x y st
theorem N_(hu:X.A.units+64 < cLine):kU X (acF .Lt) oLt:=NN hu
section
variable {X:Cx}
theorem J9:fW X (acF .IsNot) (λx y H Q=>∃a b,x= .bl a/\y= .bl b/\Q (.bl (a != b)) H):=by
 intro pins s σ H x y v u Q I rx ry h
 obtain⟨a,b,rfl,rfl,q⟩:=h
 cases rx
 cases ry
 exact isnot_bool ⟨.bl (a != b),H,I,rfl,q⟩
def ur:hX:=λx y st=>match x,y with
 | .bl a,.bl b=> .ok (.bl (a != b)) st
 | x,y=>El x y st
theorem J_:kU X (acF .IsNot) ur:=by
 obtain⟨r,h1,h2⟩:=Em (X:=X)
 refine⟨_,fW.or h1 J9,λx y a b st H m Q S rx ry p=>?_⟩
 cases x with
 | bl c=>
  cases y with
  | bl d=>
   have e1:a= .bl c:=by unfold aj at rx;exact rx
   have e2:b= .bl d:=by unfold aj at ry;exact ry
   exact .inr ⟨c,d,e1,e2,p _ m H Ext.refl S jT⟩
  | _=>exact .inl (h2 _ _ _ _ st H m Q S rx ry p)
 | _=>exact .inl (h2 _ _ _ _ st H m Q S rx ry p)
end
section
variable {X:Cx} {o e f:Expr} {apos cpos:Pos} {td ty tx:TE}
end
section
variable {X:Cx} {pins:List (acr×Obj)} {σ:L2.St} {m:Mp} {H:Hp} {st:Hs} {s:acx}
end
section
variable {X:Cx}
end
section
variable {X:Cx} {es':List Expr} {kt:Nat} {pt:Pos}
end
theorem lg:entryFor table "dict.update.loop"=some Builtin.«dict.update.loop»:=entryFor_of_tree (by kernel_rfl)
theorem fA:plainId "dict.update.loop"=true:=by decide+kernel
section
variable {prog:acw} {w:acz} {A:acs}
end
section
variable {X:Cx}
end
section
variable {X:Cx}
end
section
variable {X:Cx}
end
section
variable {prog:acw} {w:acz} {A:acs} {E:acy->acx->Prop} {s:acx} {d it:acr} {es:Array DictEntry} {ep i:Nat}
end
section
variable {X:Cx} {o e f:Expr} {pos apos cpos:Pos} {td ty tx:TE}
end
section
variable {X:Cx}
end
section
variable {X:Cx} {o e f:Expr} {apos cpos:Pos}
end
section
variable {X:Cx}
end
end J
namespace TB
open PySem PySem.SetTable
section
variable {t:SetTable} {hashAt:Nat->Int} {h:Int}
end
def Ie(h:Heap)(a:acr)(l:List (Int×acy)):Prop:=∃o es ep t,h.get? a=some o/\o.ExactSet/\o.data= .set es ep t/\es.toList.Perm l/\t.place.size=es.size/\t.dummies=#[]/\(t.mask=7\/t.mask=31\/t.mask=127\/t.mask=511)/\es.size * 5 < t.mask * 3
section
variable {prog:acw} {w:acz} {A:acs} {E:acy->acx->Prop} {s:acx}
end
end TB
namespace J
open PySem PySem.Spec PyProof.Rows L2 TB
section
variable {prog:acw} {w:acz} {A:acs} {R:Result->acx->Prop} {I:acr} {fp wr:List acr} {n:Nat} {P:Nat->acy->Prop} {St:Nat->Heap->Prop}
end
section
variable {prog:acw} {w:acz} {A:acs} {E:acy->acx->Prop} {s:acx}
end
section
variable {prog:acw} {w:acz} {A:acs} {E:acy->acx->Prop} {s:acx}
end
section
variable {X:Cx}
theorem FU{K:PySem.W.Frag}{m:Mp}{H:Hp}:∀{ws:List Wv}{xs:List V}{ks:List (List L2.Key)},ai K m H ws xs->fm mn ws=some ks->NJ H xs ks
 | [],xs,ks,r,h=>by
  unfold ai at r
  subst r
  cases h
  exact .nil
 | w::ws,xs,ks,r,h=>by
  unfold ai at r
  obtain⟨x,t,rfl,r1,r2⟩:=r
  unfold fm at h
  cases e1:mn w with
  | none=>rw[e1] at h;cases h
  | some k=>
   cases e2:fm mn ws with
   | none=>rw[e1,e2] at h;cases h
   | some kr=>
    rw[e1,e2] at h
    cases h
    exact .cons (rA r1 e1) (FU r2 e2)
end
end J
namespace JT
open PySem PyProof.Rows
class Od where
 kd:SortKind
 ik:acT->Prop
 kn:acT->Int
abbrev Kd[Od]:SortKind:=Od.kd
abbrev Ik[Od](p:acT):Prop:=Od.ik p
def kn[Od](p:acT):Int:=Od.kn p
def K[Od](xs:Array acT)(i:Nat):Int:=match xs[i]? with
 | some p=>kn p
 | none=>0
class Oa [Od] (prog:acw) (w:acz) (A:acs) (E:acy->acx->Prop) (s:acx):Prop where
 lt:∀{st:SortSt}{x y:acT}{Q:Option Bool->SortSt->Prop},kindOf st=Kd->Ik x->Ik y->Q (some (decide (kn x < kn y))) st->wpS (model prog w) A E s (lt' x y) Q st
section
variable [Od] {prog:acw} {w:acz} {A:acs} {E:acy->acx->Prop} {s:acx} [Oa prog w A E s]
def gp(left:Bool)(key:acT)(arr:Array acT)(base i:Nat):Bool:=if left then decide (K arr (base+i) < kn key) else !decide (kn key < K arr (base+i))
end
section
variable {α:Type} {f:α->Int} {A B:List α}
end
section
variable [Od]
section
variable [Od] {prog:acw} {w:acz} {A:acs} {E:acy->acx->Prop} {s:acx} [Oa prog w A E s]
end
section
variable {α:Type} {f:α->Int} {A B:List α}
theorem drop_take{i n:Nat}(h:i<=n):A.drop i=(A.take n).drop i++A.drop n:=by
 have h1:=Jz n A
 have h2:=congrArg (List.drop i) h1
 rw[List.drop_append] at h2
 rw[<-h2]
 by_cases c:n<=A.length
 ·rw[dt,Nat.min_eq_left c,A_ h,EZ]
 ·rw[Fb (show A.length<=n by exact Nat.le_of_not_le ‹_›),List.drop_nil]
end
theorem vC{a:Array acT}(i n:Nat):(a.extract i n).toList=(a.toList.take n).drop i:=by
 rw[RJ,Nz,List.drop_take]
section
variable [Od] {prog:acw} {w:acz} {A:acs} {E:acy->acx->Prop} {s:acx} [Oa prog w A E s]
end
section
variable [Od] {prog:acw} {w:acz} {A₀:acs} {E:acy->acx->Prop} {s:acx} [Oa prog w A₀ E s]
end
section
variable [Od] {prog:acw} {w:acz} {A:acs} {E:acy->acx->Prop} {s:acx} [Oa prog w A E s] {P:Array (Nat×Nat×Nat)} {g:Nat}
end
section
variable [Od] {prog:acw} {w:acz} {A:acs} {E:acy->acx->Prop} {s:acx} [Oa prog w A E s] {P:Array (Nat×Nat×Nat)} {g:Nat}
end
section
variable [Od] {prog:acw} {w:acz} {A₀:acs} {E:acy->acx->Prop} {s:acx} [Oa prog w A₀ E s]
end
section
variable [Od] {prog:acw} {w:acz} {A₀:acs} {E:acy->acx->Prop} {s:acx} [Oa prog w A₀ E s]
end
end
section
variable {prog:acw} {w:acz} {A:acs} {E:acy->acx->Prop} {s:acx}
end
end JT
namespace J
open PySem PySem.Spec PyProof.Rows PySem.W L2
section
variable {prog:acw} {w:acz} {A:acs} {E:acy->acx->Prop} {s:acx}
end
section
variable {X:Cx}
end
open PySem PySem.Spec PyProof.Rows L2
section
variable {X:Cx}
end
abbrev mP(h:Heap)(z TI TO a0:acr)(b:Bool):Prop :=
 h.get? z=some { cls:=.type "zip",dict:=none,data:=.fields #[rawInt a0,.bool b,.bool false,.ref TI,.ref TO],slots:=#[] }
section
variable {prog:acw} {w:acz} {A:acs} {E:acy->acx->Prop} {s:acx}
theorem xK{a:acr}{Q:Option Obj->acx->Prop}(h:Q (s.heap.get? a) s):acL (model prog w) A (loadIfAlive a) Q E s:=λ_ _ _=>by
 unfold loadIfAlive
 rw[Sem.wp_loadIfAlive,Sem.wp_pure]
 exact h
theorem Bk{z TI TO a0:acr}{b:Bool}{oa:Obj}{Q:Bool->acx->Prop}(hz:mP s.heap z TI TO a0 b)(ha:s.heap.get? a0=some oa)
  (h:∀h',mP h' z TI TO a0 true->(∀c o,c≠z->s.heap.get? c=some o->h'.get? c=some o)->h'.objs.size=s.heap.objs.size->Q false { s with heap:=h' }):acL (model prog w) A (zR (.ref z)) Q E s:=by
 unfold zR
 refine acM (wpAny_field hz rfl (x:=rawInt a0) rfl ?_)
 show acL _ _ (loadIfAlive (Int.toNat (a0:Int)) >>= _) _ _ _
 refine acM (xK ?_)
 rw[vH,ha]
 refine acM (wpAny_field hz rfl (x:=.bool b) rfl ?_)
 cases b
 ·rw[if_pos (by decide)]
  refine acM (wpAny_setField_rec hz (by simp) λh' hz' hs=>acR (h h' hz' (λc o hc e=>hs.extBut _ _ hc e) hs.1))
 ·rw[if_neg (by decide)]
  exact acR (h _ hz (λ_ _ _ e=>e) rfl)
theorem zS{z TI TO i1 i2 l1 l2 a0:acr}{b:Bool}{oa:Obj}{k1 k2:Nat}{xs ys:Array acy}{x y:acy}{Q:acy->acx->Prop}(D:ZipApart z TI TO i1 i2 l1 l2)
  (hz:mP s.heap z TI TO a0 b)(ha:s.heap.get? a0=some oa)(hTI:IsPair s.heap TI (.ref i1) (.ref i2))
  (h1:s.heap.IsListIter i1 l1 k1)(h2:s.heap.IsListIter i2 l2 k2)(hl1:s.heap.IsList l1 xs)(hl2:s.heap.IsList l2 ys)(hx:xs[k1]? =some x)(hy:ys[k2]? =some y)
  (hQ:∀h',mP h' z TI TO a0 true->h'.IsListIter i1 l1 (k1+1)->h'.IsListIter i2 l2 (k2+1)->IsPair h' s.heap.objs.size x y->
   (∀c o,c≠z->c≠i1->c≠i2->s.heap.get? c=some o->h'.get? c=some o)->Q (.ref s.heap.objs.size) { s with heap:=h' }) :
  acL (model prog w) A (Builtin.«zip.__next__» ⟨[.ref z],[]⟩) (λfin s'=>∃v,fin= .done (.ret v)/\Q v s') E s:=by
 show acL _ _ (field (.ref z) 2 >>= _) _ _ _
 refine acM (wpAny_field hz rfl (x:=.bool false) rfl ?_)
 show acL _ _ (field (.ref z) 3 >>= _) _ _ _
 refine acM (wpAny_field hz rfl (x:=.ref TI) rfl ?_)
 refine acM (wpAny_seqItems hTI rfl ?_)
 show acL _ _ (zR (.ref z) >>= _) _ _ _
 refine acM (Bk hz ha λg hz1 zo e1=>?_)
 simp only[fU,if_false]
 rw[<-AA]
 simp only[uI,zt]
 refine acM (acM (acM (acO ?_)))
 show acL _ _ (zT (.ref i1) >>= _) _ _ _
 refine acM (wpAny_nextOf_list_item (h1.at λo e=>zo _ o D.i1z e) (hl1.at λo e=>zo _ o D.l1z e) hx λg2 h12 hs2=>acR (acR ?_))
 refine acM (acM (acO ?_))
 show acL _ _ (zT (.ref i2) >>= _) _ _ _
 refine acM (wpAny_nextOf_list_item (h2.at λo e=>hs2.extBut _ _ D.i12.symm (zo _ o D.i2z e)) (hl2.at λo e=>hs2.extBut _ _ D.l2i1 (zo _ o D.l2z e)) hy λg3 h23 qg=>acR (acR (acR ?_)))
 refine acM (wpAny_newTuple (acR ⟨_,rfl,?_⟩) (hsz:=by show 2<=acJ;decide))
 have hsz:g3.objs.size=s.heap.objs.size:=by rw[qg.1,hs2.1,e1]
 show Q (.ref g3.objs.size) { s with heap:=g3.push { cls:=.type "tuple",data:=.seq #[x,y] } }
 have zlt:mP g3 z TI TO a0 true:=qg.extBut _ _ D.i2z.symm (hs2.extBut _ _ D.i1z.symm hz1)
 have k3:∀c o,c≠z->c≠i1->c≠i2->s.heap.get? c=some o->g3.get? c=some o:=λc o c1 c2 c3 e=>qg.extBut _ _ c3 (hs2.extBut _ _ c2 (zo c o c1 e))
 have hT:IsPair (g3.push { cls:=.type "tuple",data:=.seq #[x,y] }) g3.objs.size x y:=bz _ rfl
 have q:=hQ (g3.push { cls:=.type "tuple",data:=.seq #[x,y] }) (aL _ zlt) (h12.at λo e=>aL _ (qg.extBut _ _ D.i12 e)) (h23.at λo e=>aL _ e) (by rw[hsz] at hT;exact hT) λc o c1 c2 c3 e=>aL _ (k3 c o c1 c2 c3 e)
 rw[hsz]
 exact q
theorem CW{z TI TO i1 i2 l1 l2 a0:acr}{b:Bool}{oa:Obj}{k1 k2:Nat}{xs ys:Array acy}{Q:Fin->acx->Prop}(hh:A.handled=none)(D:ZipApart z TI TO i1 i2 l1 l2)
  (hz:mP s.heap z TI TO a0 b)(ha:s.heap.get? a0=some oa)(hTI:IsPair s.heap TI (.ref i1) (.ref i2))
  (h1:s.heap.IsListIter i1 l1 k1)(h2:s.heap.IsListIter i2 l2 k2)(hl1:s.heap.IsList l1 xs)(hl2:s.heap.IsList l2 ys)(hend:xs[k1]? =none\/ys[k2]? =none)
  (hE:∀h' e,(∀c o,c≠z->c≠i1->c≠i2->s.heap.get? c=some o->h'.get? c=some o)->(∃o,h'.get? e=some o/\o.cls= .type "StopIteration")->E (.ref e) { s with heap:=h' }) :
  acL (model prog w) A (Builtin.«zip.__next__» ⟨[.ref z],[]⟩) Q E s:=by
 show acL _ _ (field (.ref z) 2 >>= _) _ _ _
 refine acM (wpAny_field hz rfl (x:=.bool false) rfl ?_)
 show acL _ _ (field (.ref z) 3 >>= _) _ _ _
 refine acM (wpAny_field hz rfl (x:=.ref TI) rfl ?_)
 refine acM (wpAny_seqItems hTI rfl ?_)
 show acL _ _ (zR (.ref z) >>= _) _ _ _
 refine acM (Bk hz ha λg hz1 zo e1=>?_)
 simp only[fU,if_false]
 rw[<-AA]
 simp only[uI,zt]
 refine acM (acM (acM (acO ?_)))
 show acL _ _ (zT (.ref i1) >>= _) _ _ _
 cases hx:xs[k1]? with
 | none=>exact acM (wpAny_nextOf_list_end hh (h1.at λo e=>zo _ o D.i1z e) (hl1.at λo e=>zo _ o D.l1z e) hx λg2 e hs2 he=>hE g2 e (λc o c1 c2 _ q=>hs2 _ _ c2 (zo c o c1 q)) he)
 | some x=>
  have hy:ys[k2]? =none:=by rcases hend with h | h;rw[hx] at h;cases h;exact h
  refine acM (wpAny_nextOf_list_item (h1.at λo e=>zo _ o D.i1z e) (hl1.at λo e=>zo _ o D.l1z e) hx λg2 h12 hs2=>acR (acR ?_))
  refine acM (acM (acO ?_))
  show acL _ _ (zT (.ref i2) >>= _) _ _ _
  exact acM (wpAny_nextOf_list_end hh (h2.at λo e=>hs2.extBut _ _ D.i12.symm (zo _ o D.i2z e)) (hl2.at λo e=>hs2.extBut _ _ D.l2i1 (zo _ o D.l2z e)) hy λg3 e qg he=>hE g3 e (λc o c1 c2 c3 q=>qg _ _ c3 (hs2.extBut _ _ c2 (zo c o c1 q))) he)
def Qr(z TI TO j1 j2 l1 l2:acr)(D:acr)(i:Nat)(h:Heap):Prop:=IsPair h TI (.ref j1) (.ref j2)/\(∃a b,IsPair h TO a b)/\h.IsListIter j1 l1 i/\h.IsListIter j2 l2 i/\
 (IsZip h z TI TO .none\/∃a0 b oa,h.get? a0=some oa/\a0≠z/\a0≠j1/\a0≠j2/\a0≠TO/\a0≠D/\mP h z TI TO a0 b)
theorem FV{z TI TO j1 j2 l1 l2 D:acr}{i:Nat}{h h':Heap}(st:Qr z TI TO j1 j2 l1 l2 D i h)(hD:∀b,b∈[z,TI,TO,j1,j2]->b≠D)(k:∀b o,b≠D->h.get? b=some o->h'.get? b=some o):Qr z TI TO j1 j2 l1 l2 D i h':=by
 obtain⟨a1,⟨a,b,a2⟩,⟨o1,q1,r1⟩,⟨o2,q2,r2⟩,a5⟩:=st
 refine⟨k _ _ (hD _ (by simp)) a1,⟨a,b,k _ _ (hD _ (by simp)) a2⟩,⟨o1,k _ _ (hD _ (by simp)) q1,r1⟩,⟨o2,k _ _ (hD _ (by simp)) q2,r2⟩,?_⟩
 rcases a5 with a5 | ⟨a0,b,oa,g1,g2,g3,g4,g5,g6,g7⟩
 ·exact .inl (k _ _ (hD _ (by simp)) a5)
 ·exact .inr ⟨a0,b,oa,k _ _ g6 g1,g2,g3,g4,g5,g6,k _ _ (hD _ (by simp)) g7⟩
theorem FW{z TI TO i1 i2 l1 l2 d:acr}{i:Nat}{xs ys:Array acy}{x y:acy}{Q:Option acy->acx->Prop}(D:ZipApart z TI TO i1 i2 l1 l2)(hd:d < s.heap.objs.size)
  (st:Qr z TI TO i1 i2 l1 l2 d i s.heap)(hl1:s.heap.IsList l1 xs)(hl2:s.heap.IsList l2 ys)(hx:xs[i]? =some x)(hy:ys[i]? =some y)
  (hQ:∀h',Qr z TI TO i1 i2 l1 l2 d (i+1) h'->IsPair h' s.heap.objs.size x y->(∀c o,c≠z->c≠TO->c≠i1->c≠i2->s.heap.get? c=some o->h'.get? c=some o)->Q (some (.ref s.heap.objs.size)) { s with heap:=h' }) :
  acL (model prog w) A (pyNext (.ref z)) Q E s:=by
 obtain⟨a1,⟨a,b,a2⟩,a3,a4,a5⟩:=st
 have lt:∀b o,s.heap.get? b=some o->s.heap.objs.size≠b:=λb o q=>lI (aC q)
 have n3:s.heap.objs.size≠i1:=by obtain⟨o,q,_⟩:=a3;exact lt _ _ q
 have n4:s.heap.objs.size≠i2:=by obtain⟨o,q,_⟩:=a4;exact lt _ _ q
 rcases a5 with hz | ⟨a0,b',oa,g1,g2,g3,g4,g5,g6,hz⟩
 ·refine wpAny_pyNext_zip_item D hz a1 a2 a3 a4 hl1 hl2 hx hy λh' c1 c2 c3 c4 c5 c6 c7=>hQ h' ⟨c7 _ _ D.TIz D.TITO D.TIi1 D.TIi2 a1,⟨_,_,c2⟩,c3,c4,.inr ⟨s.heap.objs.size,false,_,c5,lt _ _ hz,n3,n4,lt _ _ a2,lI hd,c1⟩⟩ c5 c7
 ·have hT:s.TypeIs (.ref z) "zip":=⟨_,hz,rfl⟩
  unfold pyNext
  refine acM (wpAny_attempt (wpAny_callSpecial?_slot (name:=fh "__next__") hT zU
   (wpAny_call_entry zU hT F.entry_zip_next
    (zS D hz g1 a1 a3 a4 hl1 hl2 hx hy λh' c1 c3 c4 c5 c7=>acR ?_) (F.args_zip_next_1 _))))
  exact hQ h' ⟨c7 _ _ D.TIz D.TIi1 D.TIi2 a1,⟨_,_,c7 _ _ D.TOz D.TOi1 D.TOi2 a2⟩,c3,c4,.inr ⟨a0,true,oa,c7 _ _ g2 g3 g4 g1,g2,g3,g4,g5,g6,c1⟩⟩ c5 λc o e1 _ e3 e4 q=>c7 c o e1 e3 e4 q
theorem Ka{z TI TO i1 i2 l1 l2 d:acr}{i:Nat}{xs ys:Array acy}{Q:Option acy->acx->Prop}(hh:A.handled=none)(D:ZipApart z TI TO i1 i2 l1 l2)
  (st:Qr z TI TO i1 i2 l1 l2 d i s.heap)(hl1:s.heap.IsList l1 xs)(hl2:s.heap.IsList l2 ys)(hend:xs[i]? =none\/ys[i]? =none)
  (hQ:∀h',(∀c o,c≠z->c≠TO->c≠i1->c≠i2->s.heap.get? c=some o->h'.get? c=some o)->Q none { s with heap:=h' }) :
  acL (model prog w) A (pyNext (.ref z)) Q E s:=by
 obtain⟨a1,⟨a,b,a2⟩,a3,a4,a5⟩:=st
 rcases a5 with hz | ⟨a0,b',oa,g1,g2,g3,g4,g5,g6,hz⟩
 ·exact wpAny_pyNext_zip_end hh D hz a1 a2 a3 a4 hl1 hl2 hend hQ
 ·have hT:s.TypeIs (.ref z) "zip":=⟨_,hz,rfl⟩
  unfold pyNext
  refine acM (wpAny_attempt (wpAny_callSpecial?_slot (name:=fh "__next__") hT zU
   (wpAny_call_entry zU hT F.entry_zip_next (CW hh D hz g1 a1 a3 a4 hl1 hl2 hend λh' e hk he=>?_) (F.args_zip_next_1 _))))
  obtain⟨o,ho,hc⟩:=he
  refine acM (wpAny_isInstance (T:="StopIteration") (b:=true) ⟨o,ho,hc⟩ isSubtype_stop ?_)
  exact acR (hQ _ λc o e1 _ e3 e4 q=>hk c o e1 e3 e4 q)
def f6(kvs more:List (List L2.Key×acr×acy)):List (List L2.Key×acr×acy):=more.foldl (λacc x=>storedH acc x.1 x.2.1 x.2.2) kvs
theorem xM(xs:List (List L2.Key×acr×acy))(k:List L2.Key)(a:acr)(v:acy):(storedH xs k a v).length<=xs.length+1:=by
 unfold storedH
 split<;>simp
theorem mQ:∀(more kvs:List (List L2.Key×acr×acy)),(f6 kvs more).length<=kvs.length+more.length
 | [],kvs=>au _
 | kv::r,kvs=>by
  have h1:=mQ r (storedH kvs kv.1 kv.2.1 kv.2.2)
  have h2:=xM kvs kv.1 kv.2.1 kv.2.2
  show(f6 (storedH kvs kv.1 kv.2.1 kv.2.2) r).length<=_
  simp only[gD]
  omega
theorem xN{xs:List (List L2.Key×acr×acy)}{k:List L2.Key}{a:acr}{v:acy}{x:List L2.Key×acr×acy}(h:x∈storedH xs k a v):(x.1=k/\x.2.1=a)\/∃y∈xs,x.1=y.1/\x.2.1=y.2.1:=by
 cases e:atKey xs k with
 | none=>
  rw[storedH_new e] at h
  rcases List.mem_append.mp h with h | h
  ·exact .inr ⟨x,h,rfl,rfl⟩
  ·simp only[List.mem_singleton] at h
   subst h
   exact .inl ⟨rfl,rfl⟩
 | some p=>
  rw[storedH_old e] at h
  obtain⟨y,hy,rfl⟩:=List.mem_map.mp h
  refine .inr ⟨y,hy,?_⟩
  unfold putAt
  split<;>exact⟨rfl,rfl⟩
theorem mR:∀(more kvs:List (List L2.Key×acr×acy)){x:List L2.Key×acr×acy},x∈f6 kvs more->∃y∈kvs++more,x.1=y.1/\x.2.1=y.2.1
 | [],kvs,x,h=>⟨x,by rw[jO];exact h,rfl,rfl⟩
 | kv::r,kvs,x,h=>by
  obtain⟨y,hy,e1,e2⟩:=mR r (storedH kvs kv.1 kv.2.1 kv.2.2) h
  rcases List.mem_append.mp hy with hy | hy
  ·rcases xN hy with ⟨q1,q2⟩ | ⟨y',hy',q1,q2⟩
   ·exact⟨kv,by simp,e1.trans q1,e2.trans q2⟩
   ·exact⟨y',by simp[hy'],e1.trans q1,e2.trans q2⟩
  ·exact⟨y,by simp[hy],e1,e2⟩
abbrev tK(prog:acw)(w:acz):=tupleKind (bq prog w)
theorem Bl{h h':Heap}{k:List L2.Key}{a:acr}(q:(tK prog w).is h k a)(kp:∀o,h.get? a=some o->h'.get? a=some o):(tK prog w).is h' k a:=by
 obtain⟨o,its,n,h1,h2⟩:=q
 exact⟨o,its,n,kp o h1,h2⟩
theorem FX{h h':Heap}{d:acr}{xs:List (List L2.Key×acr×acy)}(m:h.DictOfH (tK prog w) d xs)(kd:∀o,h.get? d=some o->h'.get? d=some o)(kk:∀x∈xs,(tK prog w).is h' x.1 x.2.1):h'.DictOfH (tK prog w) d xs:=by
 obtain⟨o,es,ep,h1,h2,h3,h4,_,h5⟩:=m
 exact⟨o,es,ep,kd o h1,h2,h3,h4,kk,h5⟩
theorem uu{R:Result->acx->Prop}(hh:A.handled=none)(hu:A.units+1 < cLine)(z TI TO j1 j2 l1 l2 D:acr)(Z:ZipApart z TI TO j1 j2 l1 l2)(hD:∀b,b∈[z,TI,TO,j1,j2,l1,l2]->b≠D)(xs ys:Array acy)(kvs:List (List L2.Key×acr×acy))(n:Nat)(hn:kvs.length=n)(hz:n<=acJ)
  (hget:∀(i:Nat)(x:List L2.Key×acr×acy),kvs[i]? =some x->xs[i]? =some (aE x.2.1)/\ys[i]? =some x.2.2)(hend:xs[n]? =none\/ys[n]? =none)(hoff:∀x∈kvs,x.2.1≠D/\x.2.1∉[z,TO,j1,j2]) :
  ∀(k i:Nat)(s:acx),n - i=k->i<=n->Qr z TI TO j1 j2 l1 l2 D i s.heap->s.heap.IsList l1 xs->s.heap.IsList l2 ys->s.heap.DictOfH (tK prog w) D (f6 [] (kvs.take i))->(∀x∈kvs,(tK prog w).is s.heap x.1 x.2.1)->
   (∀h' tk,(∀b o,b≠D->b∉[z,TO,j1,j2]->s.heap.get? b=some o->h'.get? b=some o)->h'.DictOfH (tK prog w) D (f6 [] kvs)->R (.ok (.ret .none)) { s with heap:=h',toks:=tk })->
   acD (model prog w) A (.builtin "dict.update.loop" ⟨[.ref D,.ref z,rawInt i,.none],[]⟩) R s
 | 0,i,s,hk,hi,st,q1,q2,dd,ks,q=>by
  have e:i=n:=by omega
  subst e
  refine codeAny_builtin lg ?_
  rw[RX fA _]
  refine acM (m:=pyNext (.ref z)) (Ka (by simp[hh]) Z st q1 q2 hend λh' kp=>?_)
  refine(show acL _ _ (FC D [] >>= _) _ _ _ from acM (acR (acR (q h' _ (λb o n1 n2 eo=>?_) ?_))))
  ·simp only[cZ,dC,or_false,not_or] at n2
   exact kp b o n2.1 n2.2.1 n2.2.2.1 n2.2.2.2 eo
  ·rw[<-hn,List.take_length] at dd
   refine FX dd (λo eo=>kp D o ?_ ?_ ?_ ?_ eo) λx hx=>?_
   ·exact(hD z (by simp)).symm
   ·exact(hD TO (by simp)).symm
   ·exact(hD j1 (by simp)).symm
   ·exact(hD j2 (by simp)).symm
   ·obtain⟨y,hy,e1,e2⟩:=mR _ _ hx
    rw[lK] at hy
    have o1:=(hoff y hy).2
    simp only[cZ,dC,or_false,not_or] at o1
    rw[e1,e2]
    exact Bl (ks y hy) λo eo=>kp _ o o1.1 o1.2.1 o1.2.2.1 o1.2.2.2 eo
 | k+1,i,s,hk,hi,st,q1,q2,dd,ks,q=>by
  have hlt:i < kvs.length:=by omega
  obtain⟨g1,g2⟩:=hget i kvs[i] (cK hlt)
  have ltD:D < s.heap.objs.size:=by obtain⟨o,_,_,e,_⟩:=dd;exact aC e
  refine codeAny_builtin lg ?_
  rw[RX fA _]
  refine acM (m:=pyNext (.ref z)) (FW Z ltD st q1 q2 g1 g2 λh1 st1 pr kp=>?_)
  have Oc:∀b o,b∉[z,TO,j1,j2]->s.heap.get? b=some o->h1.get? b=some o:=λb o nb eo=>by
   simp only[cZ,dC,or_false,not_or] at nb
   exact kp b o nb.1 nb.2.1 nb.2.2.1 nb.2.2.2 eo
  have VB:∀x∈kvs,(tK prog w).is h1 x.1 x.2.1:=λx hx=>Bl (ks x hx) λo eo=>Oc _ o (hoff x hx).2 eo
  have nD:D∉[z,TO,j1,j2]:=by
   simp only[cZ,dC,or_false,not_or]
   exact⟨(hD z (by simp)).symm,(hD TO (by simp)).symm,(hD j1 (by simp)).symm,(hD j2 (by simp)).symm⟩
  have dd1:h1.DictOfH (tK prog w) D (f6 [] (kvs.take i)):=FX dd (λo eo=>Oc D o nD eo) λx hx=>by
   obtain⟨y,hy,e1,e2⟩:=mR _ _ hx
   rw[lK] at hy
   rw[e1,e2]
   exact VB y (vN hy)
  have hl1:(f6 [] (kvs.take i)).length<=acJ:=by
   have:=mQ (kvs.take i) []
   simp only[dt,u7] at this
   omega
  have hm:kvs[i]∈kvs:=qh hlt
  refine acM (m:=holding [aE s.heap.objs.size] _) (acO (acM (wpAny_tryCatch ?_)))
  unfold Builtin.Dict.pairItems
  refine acM (wpAny_typeOf (show ir { s with heap:=h1 } (.ref s.heap.objs.size) "tuple" from⟨_,pr,rfl⟩) ?_)
  have ct:(iU "tuple" == iU "list"||iU "tuple" == iU "tuple")=true:=by decide
  rw[if_pos ct]
  refine acM (wpAny_seqItems (s:={ s with heap:=h1 }) pr rfl (acR ?_))
  refine(show acL _ _ (holding [aE kvs[i].2.1,kvs[i].2.2] (dictSet D (.ref kvs[i].2.1) kvs[i].2.2)) _ _ _ from acO (wpAny_dictSet_heap (s:={ s with heap:=h1 }) (knd:=tK prog w) (hsz:=hl1) ?_ (VB _ hm) dd1 λh2 z2 sb=>?_))
  ·exact hu
  refine acR ⟨plainId_quiet fA _,?_⟩
  have e2:f6 [] (kvs.take (i+1))=storedH (f6 [] (kvs.take i)) kvs[i].1 kvs[i].2.1 kvs[i].2.2:=by
   unfold f6
   rw[List.take_add_one,cK hlt,Option.toList_some,FY]
   rfl
  have RY:∀b o,b≠D->h1.get? b=some o->h2.get? b=some o:=λb o nb eo=>(sb.2 b nb).trans eo
  have nl:∀l,l=l1\/l=l2->l∉[z,TO,j1,j2]:=λl hl=>by
   simp only[cZ,dC,or_false,not_or]
   rcases hl with rfl | rfl
   ·exact⟨Z.l1z,Z.l1TO,Z.l1i1,Z.l1i2⟩
   ·exact⟨Z.l2z,Z.l2TO,Z.l2i1,Z.l2i2⟩
  refine uu hh hu z TI TO j1 j2 l1 l2 D Z hD xs ys kvs n hn hz hget hend hoff k (i+1) _ (by omega) (by omega) (FV st1 (λb hb=>hD b (by simp at hb ⊢;rcases hb with h | h | h | h | h<;>simp[h])) RY) (q1.at λo eo=>RY _ o (hD l1 (by simp)) (Oc _ o (nl l1 (.inl rfl)) eo)) (q2.at λo eo=>RY _ o (hD l2 (by simp)) (Oc _ o (nl l2 (.inr rfl)) eo)) (by rw[e2];exact z2) (λx hx=>Bl (VB x hx) λo eo=>RY _ o (hoff x hx).1 eo) λh' tk' kpz z'=>q h' tk' (λb o m1 m2 eo=>kpz b o m1 m2 (RY b o m1 (Oc b o m2 eo))) z'
theorem oR:typeLookup (.type "zip") "__getattr__"=pure none:=by rw[typeLookup_type,builtinLookup_eq_fast];kernel_rfl
theorem vO:entryFor table "zip.__getattribute__"=some Builtin.«object.__getattribute__» :=
 entryFor_alias (id':="object.__getattribute__") (by kernel_rfl) (by decide+kernel) (by decide+kernel) (by kernel_rfl)
theorem zV:typeLookup (.type "zip") "keys"=pure none:=am_miss_of_fast (by decide+kernel)
theorem xO(a:acr)(vs:Array acy)(u:Tok) :
  Meets (Builtin.«object.__getattribute__» ⟨[.ref a,.str "keys" u],[]⟩) (λA R s=>s.heap.get? a=some { cls:=.type "zip",dict:=none,data:=.fields vs,slots:=#[] }/\raisesAttr (.ref a) "keys" A R s) :=
 Meets.of_wp λprog w A R s hs=>by
  obtain⟨hp,g,d,tk,os⟩:=s
  obtain⟨hx,hs⟩:=hs
  have hT:(⟨hp,g,d,tk,os⟩:acx).TypeIs (.ref a) "zip":=⟨_,hx,rfl⟩
  have hmiss:=zV
  have hname:(["__module__","__name__","__qualname__","__doc__","__annotations__"]:List Str).contains "keys"=false:=by decide+kernel
  unfold Builtin.«object.__getattribute__»
  repeat (any_goals (first | assumption | wp_step))
  repeat (any_goals (first | assumption | wp_step))
  exact wpAny_raiseAttrError hs.1 hs.2 (attrMsg_fits (by decide+kernel) (by decide+kernel))
theorem zW{a:acr}{vs:Array acy}{Q:Option acy->acx->Prop}
  (hx:s.heap.get? a=some { cls:=.type "zip",dict:=none,data:=.fields vs,slots:=#[] })(hA:A.handled=none)
  (h:∀h' tk,(∀b ob,s.heap.get? b=some ob->h'.get? b=some ob)->Q none { s with heap:=h',toks:=tk }):acL (model prog w) A (getAttr? (.ref a) "keys") Q E s:=by
 obtain⟨hp,g,d,tk,os⟩:=s
 have hT:∀tk',(⟨hp,g,d,tk',os⟩:acx).TypeIs (.ref a) "zip":=λ_=>⟨_,hx,rfl⟩
 have f1:=sub_AttributeError
 have f3:=F.slot_zip_getattribute.lookup
 have f4:=F.slot_zip_getattribute.bind (.ref a)
 have f5:=oR
 unfold getAttr? getAttrBy? getAttrBy
 repeat (any_goals (first | assumption | exact hT _ | ((with_reducible show acL _ _ (call (iX "zip.__getattribute__") _ _) _ _ _);refine call_meets F.slot_zip_getattribute (hT _) vO (F.args_zip_getattribute_2 _ _) (xO a vs _) ⟨hx,hA,λh' tk e hx'=>?_⟩) | wp_step))
 obtain⟨t',u',he⟩:=hx'.there
 show acL _ _ (getattributeRaised _ _ _ _ _ _ _) _ _ _
 unfold getattributeRaised
 repeat (any_goals (first | assumption | wp_step))
 exact h _ _ hx'.keeps
theorem RZ{a n:acr}(h:a < n):a∉[n+4,n+3,n,n+1]:=by
 intro hb
 simp only[cZ,dC,or_false] at hb
 rcases hb with e | e | e | e
 ·exact absurd h (by rw[e];exact Bm (jZ _ _))
 ·exact absurd h (by rw[e];exact Bm (jZ _ _))
 ·exact absurd h (by rw[e];exact cX _)
 ·exact absurd h (by rw[e];exact Bm (jZ _ _))
theorem xP{l1 l2:acr}{xs ys:Array acy}{kvs:List (List L2.Key×acr×acy)}{Q:acy->acx->Prop}(hh:A.handled=none)(hu:A.units+3 < cLine)(q1:s.heap.IsList l1 xs)(q2:s.heap.IsList l2 ys)(hz:kvs.length<=acJ)
  (hget:∀(i:Nat)(x:List L2.Key×acr×acy),kvs[i]? =some x->xs[i]? =some (aE x.2.1)/\ys[i]? =some x.2.2)(hend:xs[kvs.length]? =none\/ys[kvs.length]? =none)(ks:∀x∈kvs,(tK prog w).is s.heap x.1 x.2.1)
  (h:∀d h' tk,s.heap.objs.size<=d->h'.DictOfH (tK prog w) d (f6 [] kvs)->(∀b o,s.heap.get? b=some o->h'.get? b=some o)->Q (.ref d) { s with heap:=h',toks:=tk }) :
  acL (model prog w) A (call (.type "zip") [.ref l1,.ref l2]) (λv s1=>acL (model prog w) A (call (.type "dict") [v]) Q E s1) E s:=by
 refine call_zip_2 q1 q2 λg b1 b2 b3 b4 b5 b6 kp=>?_
 refine callType_codes (Q₁:=λobj s₁=>obj= .ref g.objs.size/\s₁={ s with heap:=g.push { cls:=.type "dict",data:=.dict #[] } }) Fw (Fx _) Fy (kt_code_dict_new _ ⟨rfl,rfl⟩) ?_
 rintro obj s₁ ⟨rfl,rfl⟩
 have n1:(g.push { cls:=.type "dict",data:=.dict #[] }).get? g.objs.size=some { cls:=.type "dict",data:=.dict #[] }:=bz _ rfl
 have tn:ir { s with heap:=g.push { cls:=.type "dict",data:=.dict #[] } } (.ref g.objs.size) "dict":=⟨_,n1,rfl⟩
 have YH:(g.push { cls:=.type "dict",data:=.dict #[] }).get? (s.heap.objs.size+4)=some { cls:=.type "zip",dict:=none,data:=.fields #[.none,.bool false,.bool false,.ref (s.heap.objs.size+2),.ref (s.heap.objs.size+3)],slots:=#[] }:=aL _ b1
 have to:ir { s with heap:=g.push { cls:=.type "dict",data:=.dict #[] } } (.ref (s.heap.objs.size+4)) "zip":=⟨_,YH,rfl⟩
 refine⟨tn,Fz _ _,?_⟩
 unfold Builtin.«dict.__init__»
 refine acM ?_
 unfold FA
 refine acM (wpAny_notOrdered_dict tn (show acL _ _ (pure (g.objs.size,[aE (s.heap.objs.size+4)])) _ _ _ from acR ?_))
 refine(show acL _ _ (rD "dict.__init__" g.objs.size (.ref (s.heap.objs.size+4)) [] .none) _ _ _ from ?_)
 unfold rD
 refine acM (wpAny_typeOf to ?_)
 rw[if_pos (by decide)]
 refine acM (zW (A:=A.in1.in1) (s:={ s with heap:=g.push { cls:=.type "dict",data:=.dict #[] } }) YH (by simp[hh]) λh1 tk YI=>?_)
 simp only[Bf,if_true]
 have up:∀b o,g.get? b=some o->h1.get? b=some o:=λb o eo=>YI b o (aL _ eo)
 have D0:(g.push { cls:=.type "dict",data:=.dict #[] }).DictOfH (tK prog w) g.objs.size []:=Heap.DictOfH.new g
 have D1:h1.DictOfH (tK prog w) g.objs.size []:=FX D0 (λo eo=>YI _ o eo) λx hx=>by cases hx
 refine acM (wpAny_rule (acM (wpAny_pyIter_zip (s:={ s with heap:=h1,toks:=tk }) (up _ _ b1) (acR ⟨plainId_quiet fA _,?_⟩))))
 obtain⟨o1,ho1,_⟩:=id q1
 obtain⟨o2,ho2,_⟩:=id q2
 have YJ:l1 < s.heap.objs.size:=aC ho1
 have TK:l2 < s.heap.objs.size:=aC ho2
 have hof:∀x∈kvs,x.2.1 < s.heap.objs.size:=λx hx=>by obtain⟨o,_,_,e,_⟩:=ks x hx;exact aC e
 refine uu (by simp[hh]) (by simp only[Around.in1_units];omega) (s.heap.objs.size+4) (s.heap.objs.size+2) (s.heap.objs.size+3) s.heap.objs.size (s.heap.objs.size+1) l1 l2 g.objs.size (FR YJ TK) (λb hb=>?_) xs ys kvs kvs.length rfl hz hget hend (λx hx=>?_) (kvs.length - 0) 0 _ rfl (bY _) ⟨up _ _ b2,⟨_,_,up _ _ b3⟩,b4.at λo eo=>up _ o eo,b5.at λo eo=>up _ o eo,.inl (up _ _ b1)⟩ (q1.at λo eo=>up _ o (kp _ o eo)) (q2.at λo eo=>up _ o (kp _ o eo)) D1 (λx hx=>Bl (ks x hx) λo eo=>up _ o (kp _ o eo)) λh' tk' Oc z=>⟨rfl,h g.objs.size h' tk' (by rw[b6];exact jZ _ _) z λb o eo=>?_⟩
 ·refine bu ?_
  rw[b6]
  simp only[cZ,dC,or_false] at hb
  rcases hb with e | e | e | e | e | e | e<;>rw[e]
  ·exact Nat.lt_succ_self _
  ·exact Bn (by decide) _
  ·exact Bn (by decide) _
  ·exact Nat.lt_add_of_pos_right (by decide)
  ·exact Bn (by decide) _
  ·exact bt YJ (jZ _ _)
  ·exact bt TK (jZ _ _)
 ·have hx:=hof x hx
  exact⟨bu (by rw[b6];exact bt hx (jZ _ _)),RZ hx⟩
 ·have lt:b < s.heap.objs.size:=aC eo
  exact Oc b o (bu (by rw[b6];exact bt lt (jZ _ _))) (RZ lt) (up b o (kp b o eo))
end
def mS(kvs more:List (List L2.Key×V)):List (List L2.Key×V):=more.foldl (λacc p=>putK acc p.1 p.2) kvs
theorem xQ{H:Hp}:∀{more:List (List L2.Key×V)}{ms:List (List L2.Key×acr×acy)}{kvs:List (List L2.Key×V)}{xs:List (List L2.Key×acr×acy)},KT H kvs xs->KT H more ms->KT H (mS kvs more) (f6 xs ms)
 | _,_,kvs,xs,h,.nil=>h
 | _,_,kvs,xs,h,.cons (a:=p) (b:=q) g t=>by
  refine xQ (kvs:=putK kvs p.1 p.2) (xs:=storedH xs q.1 q.2.1 q.2.2) ?_ t
  rw[<-g.1]
  exact h.put p.1 g.2.1 g.2.2
theorem kz{H:Hp}:∀{us:List V}{ks:List (List L2.Key)}{ws:List V}{its:List acy},NJ H us ks->Vals ws its->us.length=ws.length->
  ∃kvs:List (List L2.Key×acr×acy),KT H (ks.zip ws) kvs/\kvs.length=its.length/\(∀(i:Nat)(x:List L2.Key×acr×acy),kvs[i]? =some x->us[i]? =some (V.ref x.2.1)/\its[i]? =some x.2.2)/\∀x∈kvs,H x.2.1=some (.tup (x.1.map kV))
 | _,_,_,_,.nil,.nil,_=>⟨[],.nil,rfl,λi x e=>by simp at e,λx e=>by cases e⟩
 | _,_,_,_,.nil,.cons _ _,h=>by simp at h
 | _,_,_,_,.cons _ _,.nil,h=>by simp at h
 | _,_,_,_,.cons (a:=u) (b:=k) h t,.cons (a:=w) (b:=v) r rs,hl=>by
  obtain⟨kvs,i1,i2,i3,i4⟩:=kz t rs (by simpa using hl)
  obtain⟨b,rfl,hb⟩:=h
  refine⟨(k,b,v)::kvs,.cons ⟨rfl,hb,r⟩ i1,by simp[i2],λi x e=>?_,λx hx=>?_⟩
  ·cases i with
   | zero=>cases e;exact⟨rfl,rfl⟩
   | succ i=>exact i3 i x e
  ·rcases List.mem_cons.mp hx with rfl | hx
   ·exact hb
   ·exact i4 x hx
section
variable {X:Cx}
def Oe(X:Cx)(t:TA):TE:=λσ H Q=>t σ H λvs H1=>∃(a b:acr)(us ws:List V)(ks:List (List L2.Key)),vs=[.ref a,.ref b]/\mj X.K H1 a us/\mj X.K H1 b ws/\NJ H1 us ks/\us.length=ws.length/\∀p,H1 p=none->Q (.ref p) (upd H1 p (.dT (mS [] (ks.zip ws))))
theorem FZ{l:Expr}{ls:List Expr}{t:TA}{p1 q1 p2 q2:Pos}(hu:X.A.units+64 < cLine)(hc:X.calm=true)(VC:Gl X "dict")(hm1:X.mg "dict"=none)(F0:Gl X "zip")(hm2:X.mg "zip"=none)(ha:PA X (l::ls) t)(hst:acK (l::ls) X.env=(false,eval l X.env)::acK ls X.env)(hpl:(backTo q2 (acK ls X.env)).any (·.1)=false) :
  PE X (.Call (.Name "dict" p1) [.Call (.Name "zip" p2) (l::ls) [] q2] [] q1) (Oe X t):=by
 intro pins s σ H Q I h
 refine wpAny_Call_Name_kw (kN I VC hm1 PySem.Pv.boot_dict ?_ (by decide) (by decide))
 refine nG ?_ rfl rfl
 show acL _ _ (spliced ((false,eval (.Call (.Name "zip" p2) (l::ls) [] q2) X.env)::[])) _ _ s
 refine qB (wpAny_Call_Name_kw (kN I F0 hm2 boot_zip ?_ (by decide) (by decide)))
 refine nG (bJ (ha q2 pins s σ H _ I h) λus s1 ⟨vs,H1,I1,r1,a,b,xs,ys,ks,ev,hq1,hq2,ky,hl,q⟩=>?_) hst hpl
 subst ev
 obtain⟨u1,u2,rfl,rx,ry⟩:=vals2 r1
 cases rx
 cases ry
 obtain⟨aaI,v1,pl1,hz1⟩:=I1.list hq1
 obtain⟨its2,v2,U3,hz2⟩:=I1.list hq2
 obtain⟨kvs,i1,i2,i3,i4⟩:=kz ky v2 hl
 have l1:=v1.length
 have l2:=v2.length
 have hzz:kvs.length<=acJ:=by omega
 refine acP (xP (A:=X.A) (kvs:=kvs) (Q:=λv s'=>∃x H',Inv X pins σ H' s'/\RelV x v/\Q x H') (I1.ok.hd hc) (by omega) pl1.isList U3.isList hzz (λi x e=>?_) ?_ (λx hx=>qM I1.hok (i4 x hx)) λd h' tk hd dd kp=>?_) (λv s2 hh=>yT hh) λ_ _ e=>e
 ·obtain⟨g1,g2⟩:=i3 i x e
  obtain⟨u,e1,e2⟩:=v1.get g1
  cases e2
  exact⟨by simpa using e1,by simpa using g2⟩
 ·left
  simp
  omega
 ·have rel:KT H1 (mS [] (ks.zip ys)) (f6 [] kvs):=xQ .nil i1
  have hln:(mS [] (ks.zip ys)).length<=acJ:=by
   have h1:=Paired.length rel
   have h2:=mQ kvs []
   simp only[u7] at h2
   omega
  obtain⟨o,es,ep,h1,h2,h3,h4,_,h5⟩:=dd
  have fr:H1 d=none:=I1.hok.fresh hd
  refine⟨.ref d,_,I1.laid (a:=d) (o:=.dT (mS [] (ks.zip ys))) (t':=tk) kp hd ⟨hln,beq_eq_false_iff_ne.mpr (bZ (bu (bt I1.big hd))),_,rel.keeps λc zs ec=>?_,o,es,ep,h1,h2,h3,h4,h5⟩,rfl,q d fr⟩
  rw[av (bC ec fr)]
  exact ec
def lT(kvs more:List (List L2.Key×Wv)):List (List L2.Key×Wv):=more.foldl (λacc p=>gT acc p.1 p.2) kvs
theorem pF{K:PySem.W.Frag}{m:Mp}{H:Hp}:∀{more:List (List L2.Key×Wv)}{ms:List (List L2.Key×V)}{kvs:List (List L2.Key×Wv)}{xs:List (List L2.Key×V)},RelK K m H kvs xs->RelK K m H more ms->RelK K m H (lT kvs more) (mS xs ms)
 | [],ms,kvs,xs,h,g=>by rw[g.nil_inv];exact h
 | p::more,ms,kvs,xs,h,g=>by
  obtain⟨u,t,rfl,h1,h2⟩:=g.cons_inv
  exact pF (more:=more) (ms:=t) (kvs:=gT kvs p.1 p.2) (xs:=putK xs p.1 u) (RelK.put p.1 h h1) h2
theorem xR{K:PySem.W.Frag}{m:Mp}{H:Hp}:∀{ks:List (List L2.Key)}{ws:List Wv}{vs:List V},ai K m H ws vs->RelK K m H (ks.zip ws) (ks.zip vs)
 | [],ws,vs,r=>by rw[List.zip_nil_left,List.zip_nil_left];exact RelK.nil
 | k::ks,[],vs,r=>by unfold ai at r;subst r;exact RelK.nil
 | k::ks,w::ws,vs,r=>by
  unfold ai at r
  obtain⟨x,t,rfl,r1,r2⟩:=r
  exact RelK.cons r1 (xR r2)
def rK:List Wv->Hs->Re Wv
 | [.ref i,.ref j],st=>(match ao st i,ao st j with
  | some us,some ws=>(match fm mn us with | some ks=>if us.length=ws.length then .ok (.ref st.length) (st++[.bX (lT [] (ks.zip ws))]) else .bad | none=> .bad)
  | _,_=> .bad)
 | _,_=> .bad
theorem F1{l:Expr}{ls:List Expr}{g:GA}{p1 q1 p2 q2:Pos}(hu:X.A.units+64 < cLine)(hc:X.calm=true)(VC:Gl X "dict")(hm1:X.mg "dict"=none)(F0:Gl X "zip")(hm2:X.mg "zip"=none)(ha:JA X (l::ls) g)(hst:acK (l::ls) X.env=(false,eval l X.env)::acK ls X.env)(hpl:(backTo q2 (acK ls X.env)).any (·.1)=false) :
  JE X (.Call (.Name "dict" p1) [.Call (.Name "zip" p2) (l::ls) [] q2] [] q1) (aw rK g):=by
 refine JE.of (FZ hu hc VC hm1 F0 hm2 ku hst hpl) λρ st σ H m Q S R p=>?_
 refine ha.go S R (az.bind p) λws st1 vs m1 H1 p1 e1 S1 rs=>?_
 have p2:=cW.shift (az.oH p1) e1
 unfold rK at p2
 split at p2
 ·rename_i i j
  obtain⟨v1,v2,rfl,r1,r2⟩:=w9 rs
  unfold aj at r1 r2
  obtain⟨a,rfl,ha⟩:=r1
  obtain⟨b,rfl,hb⟩:=r2
  cases e1:ao st1 i with
  | none=>rw[e1] at p2;exact aa p2
  | some us=>
   cases e2:ao st1 j with
   | none=>rw[e1,e2] at p2;exact aa p2
   | some ws=>
    rw[e1,e2] at p2
    dsimp only at p2
    cases e3:fm mn us with
    | none=>rw[e3] at p2;exact aa p2
    | some ks=>
     rw[e3] at p2
     dsimp only at p2
     by_cases c:us.length=ws.length
     ·rw[if_pos c] at p2
      obtain⟨xs,hq1,rx⟩:=S1.read ha e1
      obtain⟨ys,hq2,ry⟩:=S1.read hb e2
      have l1:=rx.length
      have l2:=ry.length
      refine⟨a,b,xs,ys,ks,rfl,hq1,hq2,FU rx e3,by omega,λq hq=>?_⟩
      have ex:Ext X.K m1 H1 (m1++[q]) (upd H1 q (.dT (mS [] (ks.zip ys)))):=Ext.more.trans (Ext.jw (.inl hq))
      exact p2 (.ref q) (m1++[q]) _ ex (S1.vc hq ⟨_,aH,(pF RelK.nil (xR ry)).mono ex⟩) (S1.newest q _)
     ·rw[if_neg c] at p2;exact aa p2
 ·exact aa p2
end
theorem oS:fillsNumberSlot (.type "tuple") "mul"=pure false :=
 PySem.fillsNumberSlot_seq (id:="tuple.__mul__") (r:=some (.builtin "tuple.__rmul__")) F.slot_tuple_mul.lookup (by decide+kernel) F.slot_tuple_rmul.lookup (by decide+kernel)
theorem vP:seqRepeat? (.type "tuple")=pure (some (.builtin "tuple.__mul__")):=by
 unfold seqRepeat?
 rw[PySem.seqSlot_of (T:="tuple") (name:="__mul__") (id:="tuple.__mul__") F.slot_tuple_mul.lookup (by decide+kernel),PySem.seqSlot_of (T:="tuple") (name:="__rmul__") (id:="tuple.__rmul__") F.slot_tuple_rmul.lookup (by decide+kernel)]
 rfl
theorem vQ(a:Int)(t:Tok)(l:acr)(o:Obj)(its:Array acy)(n:Nat) :
  Meets (Builtin.«int.__rmul__» ⟨[.int a t,.ref l],[]⟩) (λ_ R s=>s.heap.get? l=some o/\o.cls= .type "tuple"/\o.data= .seq its n/\R (.ok (.ret Value.notImplemented)) s) :=
 .of_wp λprog w A R s h=>by
  obtain⟨hp,g,d,tk,os⟩:=s;obtain⟨hl,hc,hd,h⟩:=h
  have hT:(⟨hp,g,d,tk,os⟩:acx).TypeIs (.ref l) "tuple":=⟨o,hl,hc⟩
  wp_walk
  rw[hd]
  refine acR ?_
  wp_walk
  exact⟨_,rfl,h⟩
theorem CY(l:acr)(o:Obj)(its:Array acy)(n:Nat)(x:Int)(u:Tok)(h0:its.isEmpty=false)(h1:2<=x)(h2:x < 2 ^ 63)(h3:its.size * x.toNat<=acJ) :
  Meets (Builtin.«tuple.__mul__» ⟨[.ref l,.int x u],[]⟩) (λ_ R s=>s.heap.get? l=some o/\o.cls= .type "tuple"/\o.data= .seq its n/\R (.ok (.ret (aE s.heap.objs.size))) { s with heap:=s.heap.push { cls:=iU "tuple",data:=Data.seq (qG (λx1 x2=>x1++x2) #[] (ar x.toNat its)) } }) :=
 .of_wp λprog w A R s h=>by
  obtain⟨hl,hc,hd,h⟩:=h
  show acL _ _ (asIndex (.int x u) >>= _) _ _ _
  have hT:s.TypeIs (.ref l) "tuple":=⟨o,hl,hc⟩
  have c1:(decide (x < -(2 ^ 63))||decide (x >= 2 ^ 63))=false:=by simp;omega
  have c2:(decide (x<=0)||its.isEmpty)=false:=by rw[h0];simp;omega
  have c3:(its.isEmpty||x == 1)=false:=by rw[h0];simp;omega
  have hm:(its.size:Int) * x<=acJ:=by
   have e:x=(x.toNat:Int):=by omega
   rw[e]
   exact_mod_cast h3
  have c4:¬(its.size:Int) * x > (2 ^ 63 - 1) / 8:=by
   have:(acJ:Int)<=(2 ^ 63 - 1) / 8:=by decide
   omega
  have c5:Builtin.Tuple.tupleTooMany ((its.size:Int) * x)=false:=decide_eq_false (by omega)
  refine acM (show acL _ _ (asIndex (.int x u)) _ _ _ from acR ?_)
  rw[c1]
  refine(show acL _ _ (yK (.ref l) >>= _) _ _ _ from acM (wpAny_tupleItemsOf hl hd ?_))
  rw[c3]
  simp only[fU,if_false]
  rw[c2]
  simp only[fU,if_false]
  rw[if_neg c4,c5]
  simp only[fU,if_false]
  refine acM (show acL _ _ (newObj (.type "tuple") (.seq _)) _ _ _ from acQ (acR ⟨_,rfl,h⟩) ?_)
  show(qG (λx1 x2=>x1++x2) #[] (ar x.toNat its)).size<=acJ
  have f0:=foldl_rep its.toList x.toNat []
  rw[lK] at f0
  have f1:its.toList.toArray=its:=by simp
  rw[f1] at f0
  rw[f0,aM,len_rep,wK,u0]
  exact h3
section
variable {X:Cx}
def R0(K:PySem.W.Frag):R2:=λx y H Q=>∃a k xs,x= .ref a/\y= .int k/\fV K H a xs/\xs≠[]/\2<=k/\k < 2 ^ 63/\xs.length * k.toNat<=acJ/\∀p,H p=none->Q (.ref p) (upd H p (.tup (ar k.toNat xs).flatten))
theorem Kb:fW X (acB .Mult) (R0 X.K):=by
 intro pins s σ H x y v u Q I rx ry h
 obtain⟨a,k,xs,rfl,rfl,hH,h0,h1,h2,hz,q⟩:=h
 cases rx
 obtain⟨t,rfl⟩:=ry
 obtain⟨its,r,⟨o,g1,g2,n,g3⟩,_⟩:=I.tuple hH
 have hl:=r.length
 have hlen:its.toArray.size * k.toNat<=acJ:=by rw[aM,<-hl];exact hz
 have hne:its.toArray.isEmpty=false:=by
  cases r with
  | nil=>exact absurd rfl h0
  | cons _ _=>rfl
 have hnew:qG (λx1 x2=>x1++x2) #[] (ar k.toNat its.toArray)=(ar k.toNat its).flatten.toArray:=by
  have:=foldl_rep its k.toNat []
  rw[lK] at this
  exact this
 refine wpAny_binaryOp_repeat_ref (T:="tuple") (U:="int") (by decide) ⟨o,g1,g2⟩ (λs'=>typeIs_int s' k t) oS F.fills_int_mul y8 vP F.slot_int_index.lookup
  (call_meets y8 (typeIs_int s k t) F.entry_int_rmul (F.args_int_rmul_2 _ _) (vQ k t a o its.toArray n)
   ⟨g1,g2,g3,rfl,⟨o,g1,g2⟩,call_meets F.slot_tuple_mul ⟨o,g1,g2⟩ F.entry_tuple_mul (F.args_tuple_mul_2 _ _) (CY a o its.toArray n k t hne h1 h2 hlen) ⟨g1,g2,g3,?_⟩⟩)
 rw[hnew]
 refine⟨.ref s.heap.objs.size,_,I.laid (t':=s.toks) (o:=.tup (ar k.toNat xs).flatten) (λb ob q=>aL _ q) (au _) ?_,rfl,q _ (I.hok.fresh (au _))⟩
 exact⟨by rw[len_rep,u0];exact hz,_,r.rep k.toNat,yZ _ _,wJ.new _ _⟩
def bM:hX:=λx y st=>match x,y with
 | .tup ws,.int n=>if ws≠[]/\2<=n/\n < 2 ^ 62/\ws.length * n.toNat<=lim then .ok (.tup (ar n.toNat ws).flatten) st else .bad
 | x,y=>Ln x y st
theorem F2:kU X (acB .Mult) bM:=by
 obtain⟨r,h1,h2⟩:=JP (X:=X)
 refine⟨_,fW.or Kb h1,λx y a b st H m Q S rx ry p=>?_⟩
 cases x with
 | tup ws=>
  cases y with
  | int n=>
   have p':cW X.K m H (if ws≠[]/\2<=n/\n < 2 ^ 62/\ws.length * n.toNat<=lim then .ok (.tup (ar n.toNat ws).flatten) st else .bad) Q:=p
   by_cases c:ws≠[]/\2<=n/\n < 2 ^ 62/\ws.length * n.toNat<=lim
   ·rw[if_pos c] at p'
    cases aS ry
    unfold aj at rx
    obtain⟨d,xs,rfl,hd,rs⟩:=rx
    refine .inl ⟨d,n,xs,rfl,rfl,fV.of hd,λe=>?_,c.2.1,by have:=c.2.2.1;omega,by rw[<-rs.length];exact eI c.2.2.2,λq hq=>?_⟩
    ·subst e
     exact c.1 (zh rs.length)
    ·have eY:Ext X.K m H m (upd H q (.tup (ar n.toNat xs).flatten)):=Ext.jw (.inl hq)
     refine p' (.ref q) m _ eY (S.fresh hq) ?_
     unfold aj
     exact⟨q,_,rfl,aH,(oP rs n.toNat).mono eY⟩
   ·rw[if_neg c] at p';exact aa p'
  | _=>exact .inr (h2 _ _ _ _ st H m Q S rx ry p)
 | _=>exact .inr (h2 _ _ _ _ st H m Q S rx ry p)
end
structure Ct where
 N:List Str
 names:List (Str×acv)
 consts:List (Str×Wv)
 bl:List Str
 fns:List (Str×Nat×(List Wv->Hs->Re Wv))
 tb:Tab:=[]
 tt:sF:=[]
 clss:List Str:=[]
 zX:List Str:=[]
 tc:Tab:=[]
 CZ:List (Str×Dc):=[]
 rL:List Str:=[]
 dks:List Str:=[]
 dis:List Str:=[]
 yI:List Str:=[]
 loop:Bool:=true
 free:Bool:=true
 top:Bool:=true
 lam:Option (Lm×LF):=none
 F3:List (Str×YB):=[]
 VD:List Str:=[]
 lj:Nat:=0
 sk:Nat:=0
 VE:List Str:=[]
 self:Str:=""
def oh(x:Str):List Str->Option Nat
 | []=>none
 | y::r=>if x=y then some 0 else match oh x r with
  | some i=>some (i+1)
  | none=>none
theorem iL{x:Str}:∀{N:List Str}{i:Nat},oh x N=some i->N[i]? =some x
 | [],i,h=>by cases h
 | y::r,i,h=>by
  unfold oh at h
  by_cases e:x=y
  ·rw[if_pos e] at h;cases h;subst e;rfl
  ·rw[if_neg e] at h
   cases q:oh x r with
   | none=>rw[q] at h;cases h
   | some j=>rw[q] at h;cases h;simpa using iL q
def okN(x:Str):Bool:=!(x == ("__debug__":Str))&& !(x == ("__classdict__":Str))&& !(decide (x="__name__"))
theorem ie{x:Str}(h:okN x=true):(x == ("__debug__":Str))=false:=by unfold okN at h;revert h;cases (x == ("__debug__":Str))<;>simp
theorem F4{x:Str}(h:okN x=true):(x == ("__classdict__":Str))=false:=by unfold okN at h;revert h;cases (x == ("__classdict__":Str))<;>simp
theorem F5{x:Str}(h:okN x=true):x≠"__name__":=by
 intro e
 subst e
 unfold okN at h
 simp at h
def xT:List Wv->List V->Prop
 | [],[]=>True
 | .int i::r,.int j::t=>i=j/\xT r t
 | .str x::r,.str y::t=>(x=y/\aZ x=true)/\xT r t
 | _,_=>False
theorem xT.rel{K:PySem.W.Frag}{m:Mp}{H:Hp}:∀{ws:List Wv}{vs:List V},xT ws vs->ai K m H ws vs
 | [],[],_=>ai.nil
 | .int i::r,.int j::t,h=>by
  obtain⟨rfl,h⟩:=h
  exact ai.cons (by unfold aj;rfl) h.rel
 | .str x::r,.str y::t,h=>by
  obtain⟨⟨rfl,hx⟩,h⟩:=h
  exact ai.cons (by unfold aj;exact⟨rfl,hx⟩) h.rel
 | [],_::_,h=>aa h
 | .int i::r,[],h=>aa h
 | .str i::r,[],h=>aa h
 | .int i::r,.str _::_,h=>aa h
 | .str i::r,.int _::_,h=>aa h
def F6(K:PySem.W.Frag)(mg:Str->Option acy)(x:Str):Wv->Prop
 | .int i=>∃t,mg x=some (.int i t)
 | .str y=>(∃t,mg x=some (.str y t))/\aZ y=true
 | .qN ws=>∃(a:acr)(vs:List V)(o:Obj)(its:Array acy)(n:Nat),mg x=some (.ref a)/\K.lookup a=some o/\o.cls= .type "tuple"/\o.data= .seq its n/\its.size<=acJ/\Vals vs its.toList/\xT ws vs
 | _=>False
structure R4(c:Ct)(k:Nat)(X:Cx):Prop where
 lam:∀p L,c.lam=some (p,L)->NQ X.prog X.w X.K X.mg X.base k p 3 L
 F3:∀x F,c.F3.lookup x=some F->YC X.prog X.w X.K X.mg k c.lj x F
 Of:∀x n F,c.fns.lookup x=some (n,F)->c.VD.contains x=true->∀base,Fm X.K X.mg base->iS X.prog X.w X.K X.mg base c.lj x n F
 at':c.top=true->c.self∈du->∃P,Lo X c.self P
 sk:c.sk<=k
 Og:∀x n F,c.fns.lookup x=some (n,F)->c.VE.contains x=true->iS X.prog X.w X.K X.mg X.base c.lj x n F
structure Good(c:Ct)(k:Nat)(X:Cx):Prop where
 N:X.N=c.N
 sc:X.env.scope.names=c.names
 nd:c.N.Nodup
 un:X.A.units+64 < cLine
 free:c.free=true->kO k X.A/\X.calm=true
 loop:c.loop=true->X.calm=true/\PassesOwn (model X.prog X.w) X.A X.env X.xe
 cst:∀x w,c.consts.lookup x=some w->F6 X.K X.mg x w
 bl:∀x,c.bl.contains x=true->X.mg x=none
 fns:∀x n F,c.fns.lookup x=some (n,F)->iS X.prog X.w X.K X.mg X.base k x n F
 stk:c.top=true->U_ X
 fn:c.top=true->∀x,X.fn x=true
 kind:X.env.scope.kind= .function
 tab:TabOk X.K c.tb c.tt c.tc
 cls:∀x,c.clss.contains x=true->∃C,X.mg x=some (.ref C)/\Jl X.K x C
 zX:∀x,c.zX.contains x=true->∃C,X.mg x=some (.ref C)/\ClsAt X.K x C
 CZ:∀x kvs,c.CZ.lookup x=some kvs->CH X.K X.w X.mg x kvs
 rm:ic k X.A
 yI:∀x n F,c.yI.contains x=true->c.fns.lookup x=some (n,F)->xy X.prog X.w X.K X.mg X.base k x n F
 x:R4 c k X
 fr:EY X
 hd:zp X
theorem Bo{k:Nat}{A:acs}(hr:kO k A):A.units+64 < cLine:=by have:=hr.un;omega
def Ct.Lq(c:Ct):Ct:={ c with loop:=false }
def Ct.vR(c:Ct):Ct:={ c with loop:=false,free:=false }
abbrev Ct.un(c:Ct):Ct:=c.vR
theorem Good.body{c:Ct}{k:Nat}{X:Cx}(G:Good c k X)(hf:c.free=true)(pn:List (acr×Obj))(E:acy->acx->Prop):Good c.Lq k (Jn X X.A true pn E) :=
 ⟨G.N,G.sc,G.nd,G.un,λ_=>⟨(G.free hf).1,rfl⟩,(λz=>by cases z),G.cst,G.bl,G.fns,λz=>⟨(G.stk z).st,(G.stk z).fr,(G.stk z).ex⟩,G.fn,G.kind,G.tab,G.cls,G.zX,G.CZ,⟨G.rm.d,G.rm.u⟩,G.yI,⟨G.x.lam,G.x.F3,G.x.Of,λt m=>(G.x.at' t m).imp λP L=>⟨L.code,L.qual,L.tab,L.mem,L.uniq,L.bm⟩,G.x.sk,G.x.Og⟩,G.fr,G.hd⟩
theorem Good.suite{c:Ct}{k:Nat}{X:Cx}(G:Good c k X){a:acr}{o:Obj}{u:HO}(nx:Cm o)(pn:List (acr×Obj))(E:acy->acx->Prop):Good c.vR k (RB X a (.eL o u) pn E) :=
 ⟨G.N,G.sc,G.nd,G.un,(λz=>by cases z),(λz=>by cases z),G.cst,G.bl,G.fns,λz=>⟨(G.stk z).st,(G.stk z).fr,(G.stk z).ex⟩,G.fn,G.kind,G.tab,G.cls,G.zX,G.CZ,⟨G.rm.d,G.rm.u⟩,G.yI,⟨G.x.lam,G.x.F3,G.x.Of,λt m=>(G.x.at' t m).imp λP L=>⟨L.code,L.qual,L.tab,L.mem,L.uniq,L.bm⟩,G.x.sk,G.x.Og⟩,G.fr,.inr ⟨a,o,u,rfl,nx,aH⟩⟩
theorem F7:acC "ValueError"=some (.type "ValueError"):=by decide+kernel
theorem xU:acC "dict"=some (.type "dict"):=by decide+kernel
def Kc(x:Str):Option String :=
 if x="int" then some "int" else if x="str" then some "str" else if x="bool" then some "bool" else if x="tuple" then some "tuple" else if x="list" then some "list" else if x="ValueError" then some "ValueError" else if x="dict" then some "dict" else none
theorem Ke{x:Str}{T:String}(h:Kc x=some T):acC x=some (.type T):=by
 unfold Kc at h
 by_cases e:x="int"
 ·rw[if_pos e] at h;cases h;subst e;exact xf
 rw[if_neg e] at h
 by_cases e:x="str"
 ·rw[if_pos e] at h;cases h;subst e;exact xg
 rw[if_neg e] at h
 by_cases e:x="bool"
 ·rw[if_pos e] at h;cases h;subst e;exact EA
 rw[if_neg e] at h
 by_cases e:x="tuple"
 ·rw[if_pos e] at h;cases h;subst e;exact xh
 rw[if_neg e] at h
 by_cases e:x="list"
 ·rw[if_pos e] at h;cases h;subst e;exact xi
 rw[if_neg e] at h
 by_cases e:x="ValueError"
 ·rw[if_pos e] at h;cases h;subst e;exact F7
 rw[if_neg e] at h
 by_cases e:x="dict"
 ·rw[if_pos e] at h;cases h;subst e;exact xU
 rw[if_neg e] at h
 cases h
section
variable {X:Cx}
def Oh:hX:=λ_ _ _=> .bad
theorem F8{f:acy->acy->Sem acy}:kU X f Oh:=⟨λ_ _ _ _=>False,λ_ _ _ _ _ _ _ _ _ _ _ _ h=>h.elim,λ_ _ _ _ _ _ _ _ _ _ _ p=>p⟩
def R6:Operator->hX
 | .Add=>bQ
 | .Sub=>jS
 | .Mult=>bM
 | .FloorDiv=>cA
 | .Mod=>oMod
 | .Pow=>kF
 | _=>Oh
theorem Kf(o:Operator):kU X (acB o) (R6 o):=by
 cases o<;>first | exact M5 | exact M1 | exact F2 | exact IT | exact M3 | exact M4 | exact F8
def zY:CmpOp->hX
 | .Eq=>oEq
 | .NotEq=>oI
 | .Lt=>oLt
 | .LtE=>oLe
 | .Gt=>zg
 | .GtE=>Tw
 | .Is=>Qi
 | .IsNot=>ur
 | .In=>ND
 | .NotIn=>Oh
theorem lU(hu:X.A.units+64 < cLine)(o:CmpOp):kU X (acF o) (zY o):=by
 cases o<;>first | exact Lc hu | exact Ld hu | exact N_ hu | exact NM hu | exact Rm | exact Rn | exact Ro | exact J_ | exact NF | exact F8
def F9(c:Ct)(x:Str):GE:=if okN x=true then
  match c.names.lookup x with
  | some .local=>(match oh x c.N with | some i=>af i | none=>cO)
  | some .cell=>(match oh x c.N with | some i=>af i | none=>cO)
  | some .free=>(match oh x c.N with | some i=>af i | none=>cO)
  | some .globalImplicit=>(match c.consts.lookup x with
   | some w=>gC w
   | none=>if c.clss.contains x=true then gC (.cls x) else if c.zX.contains x=true then gC (.cls x) else if c.bl.contains x=true then(match Kc x with | some T=>gC (.ty T) | none=>cO) else cO)
  | _=>cO
 else cO
theorem F_{c:Ct}{k:Nat}(G:Good c k X)(x:Str)(pos:Pos):JE X (.Name x pos) (F9 c x):=by
 unfold F9
 by_cases hx:okN x=true
 ·rw[if_pos hx]
  cases e:c.names.lookup x with
  | none=>exact aT
  | some kd=>
   have el:X.env.scope.names.lookup x=some kd:=by rw[G.sc];exact e
   cases kd with
   | «local»=>
    dsimp only
    cases e2:oh x c.N with
    | none=>exact aT
    | some i=>exact zc i (by rw[G.N];exact iL e2) (Or.inl el) (ie hx) (F4 hx)
   | cell=>
    dsimp only
    cases e2:oh x c.N with
    | none=>exact aT
    | some i=>exact zc i (by rw[G.N];exact iL e2) (lM (Or.inl el)) (ie hx) (F4 hx)
   | free=>
    dsimp only
    cases e2:oh x c.N with
    | none=>exact aT
    | some i=>exact zc i (by rw[G.N];exact iL e2) (lM (lM el)) (ie hx) (F4 hx)
   | globalImplicit=>
    dsimp only
    have hg:Gl X x:=el
    cases e2:c.consts.lookup x with
    | some w=>
     have q:=G.cst x w e2
     cases w with
     | int i=>obtain⟨t,q⟩:=q;exact Ee hg q (ie hx)
     | str y=>obtain⟨⟨t,q⟩,z⟩:=q;exact Ef hg q z (ie hx)
     | qN ws=>
      obtain⟨a,vs,o,its,n,q1,q2,q3,q4,q5,q6,q7⟩:=q
      exact JE.of (lH (v:=.ref a) hg q1 rfl (ie hx)) λρ st σ H m Q S R p=>p (.ref a) m H Ext.refl S (by unfold aj;exact⟨a,vs,rfl,⟨o,its,n,q2,q3,q4,q5,q6⟩,q7.rel⟩)
     | _=>exact aa q
    | none=>
     dsimp only
     by_cases e5:c.clss.contains x=true
     ·rw[if_pos e5]
      obtain⟨C,q1,q2⟩:=G.cls x e5
      exact JE.of (lH (v:=.ref C) hg q1 rfl (ie hx)) λρ st σ H m Q S R p=>p (.ref C) m H Ext.refl S (by unfold aj;exact⟨C,rfl,q2.cls⟩)
     rw[if_neg e5]
     by_cases e6:c.zX.contains x=true
     ·rw[if_pos e6]
      obtain⟨C,q1,q2⟩:=G.zX x e6
      exact JE.of (lH (v:=.ref C) hg q1 rfl (ie hx)) λρ st σ H m Q S R p=>p (.ref C) m H Ext.refl S (by unfold aj;exact⟨C,rfl,q2⟩)
     rw[if_neg e6]
     by_cases e3:c.bl.contains x=true
     ·rw[if_pos e3]
      cases e4:Kc x with
      | none=>exact aT
      | some T=>exact Rb hg (G.bl x e3) (Ke e4) (F5 hx) (ie hx)
     ·rw[if_neg e3];exact aT
   | _=>exact aT
 ·rw[if_neg hx];exact aT
def F':Const->GE
 | .none=>gC .aI
 | .bool b=>gC (.bl b)
 | .int i=>gC (.int i)
 | .str x=>if aZ x=true then gC (.str x) else cO
 | _=>cO
theorem C0(k:Const)(j:Nat)(pos:Pos):JE X (.Constant k j pos) (F' k):=by
 cases k with
 | none=>exact MO
 | bool b=>exact Ra
 | int i=>exact MN
 | str x=>
  show JE X _ (if aZ x=true then gC (.str x) else cO)
  by_cases h:aZ x=true
  ·rw[if_pos h];exact MP h
  ·rw[if_neg h];exact aT
 | _=>exact aT
def plain:Expr->Bool
 | .Starred .. =>false
 | _=>true
theorem aG{e:Expr}{es:List Expr}{env:Env}(h:plain e=true):acK (e::es) env=(false,eval e env)::acK es env:=by
 cases e<;>first | rfl | cases h
theorem f7{pos:Pos}{env:Env}:∀{es:List Expr},es.all plain=true->(backTo pos (acK es env)).any (·.1)=false
 | [],_=>rfl
 | e::es,h=>by
  rw[dh,cz] at h
  rw[aG h.1]
  have q:=f7 (pos:=pos) (env:=env) h.2
  unfold backTo at q ⊢
  rw[ay,fY,q]
  rfl
def kE(f:Expr->GE):List Expr->GA
 | []=>aq
 | e::es=>ae (f e) (kE f es)
theorem fB{f:Expr->GE}(h:∀e,JE X e (f e)):∀es:List Expr,es.all plain=true->JA X es (kE f es)
 | [],_=>Ej
 | e::es,g=>by
  rw[dh,cz] at g
  exact AY (h e) (fB h es g.2) (aG g.1)
def TV(c:Ct)(x:Str):Option (acy×(List Wv->Hs->Re Wv)) :=
 if x="len" then some (.builtin "len",if c.rL.isEmpty=true then gS else bI) else if x="abs" then some (.builtin "abs",I_) else if x="isinstance" then some (.builtin "isinstance",if c.bl.contains "dict"=true then pM c.tb c.tt else hJ c.tb c.tt) else if x="str" then some (.type "str",t7) else if x="int" then some (.type "int",nZ) else if x="list"/\c.free=true then some (.type "list",jj) else if x="tuple" then some (.type "tuple",mB) else if x="all"/\c.free=true then some (.builtin "all",zy) else if x="sum"/\c.free=true then some (.builtin "sum",zE) else if x="ord" then some (.builtin "ord",JQ) else if x="dict"/\c.free=true then some (.type "dict",n_) else none
theorem C2:acC "all"=some (.builtin "all"):=by decide+kernel
theorem C3:acC "sum"=some (.builtin "sum"):=by decide+kernel
theorem Oi{c:Ct}(O:TabOk X.K c.tb c.tt c.tc):eG X (.builtin "isinstance") (if c.bl.contains "dict"=true then pM c.tb c.tt else hJ c.tb c.tt):=by
 by_cases e2:c.bl.contains "dict"=true
 ·rw[if_pos e2];exact N6 O
 ·rw[if_neg e2];exact EK O
theorem Oj(c:Ct):eG X (.builtin "len") (if c.rL.isEmpty=true then gS else bI):=by
 by_cases e2:c.rL.isEmpty=true
 ·rw[if_pos e2];exact Eo
 ·rw[if_neg e2];exact JZ
theorem Ol{c:Ct}{x:Str}{v:acy}{op:List Wv->Hs->Re Wv}(O:TabOk X.K c.tb c.tt c.tc)(hc:c.free=true->X.calm=true)(h:TV c x=some (v,op)):acC x=some v/\eG X v op/\((∃id,v= .builtin id)\/∃T,v= .type T):=by
 unfold TV at h
 by_cases e:x="len"
 ·rw[if_pos e] at h;cases h;subst e;exact⟨Ck,Oj c,.inl ⟨_,rfl⟩⟩
 rw[if_neg e] at h
 by_cases e:x="abs"
 ·rw[if_pos e] at h;cases h;subst e;exact⟨Cj,M8,.inl ⟨_,rfl⟩⟩
 rw[if_neg e] at h
 by_cases e:x="isinstance"
 ·rw[if_pos e] at h;cases h;subst e;exact⟨Ez,Oi O,.inl ⟨_,rfl⟩⟩
 rw[if_neg e] at h
 by_cases e:x="str"
 ·rw[if_pos e] at h;cases h;subst e;exact⟨xg,Jo,.inr ⟨_,rfl⟩⟩
 rw[if_neg e] at h
 by_cases e:x="int"
 ·rw[if_pos e] at h;cases h;subst e;exact⟨xf,JC,.inr ⟨_,rfl⟩⟩
 rw[if_neg e] at h
 by_cases e:x="list"/\c.free=true
 ·rw[if_pos e] at h;cases h;obtain⟨rfl,e2⟩:=e;exact⟨xi,Fg (hc e2),.inr ⟨_,rfl⟩⟩
 rw[if_neg e] at h
 by_cases e:x="tuple"
 ·rw[if_pos e] at h;cases h;subst e;exact⟨xh,Ny,.inr ⟨_,rfl⟩⟩
 rw[if_neg e] at h
 by_cases e:x="all"/\c.free=true
 ·rw[if_pos e] at h;cases h;obtain⟨rfl,e2⟩:=e;exact⟨C2,Nx (hc e2),.inl ⟨_,rfl⟩⟩
 rw[if_neg e] at h
 by_cases e:x="sum"/\c.free=true
 ·rw[if_pos e] at h;cases h;obtain⟨rfl,e2⟩:=e;exact⟨C3,NA (hc e2),.inl ⟨_,rfl⟩⟩
 rw[if_neg e] at h
 by_cases e:x="ord"
 ·rw[if_pos e] at h;cases h;subst e;exact⟨CK,NR,.inl ⟨_,rfl⟩⟩
 rw[if_neg e] at h
 by_cases e:x="dict"/\c.free=true
 ·rw[if_pos e] at h;cases h;obtain⟨rfl,e2⟩:=e;exact⟨xU,J1,.inr ⟨_,rfl⟩⟩
 rw[if_neg e] at h
 cases h
def vS(c:Ct)(fE:Expr->GE)(x:Str)(es:List Expr):GE:=if okN x=true/\es.all plain=true/\c.names.lookup x=some .globalImplicit then
   (match c.fns.lookup x with
   | some (n,F)=>if c.free=true then aK n F (kE fE es) else if c.yI.contains x=true then aK n F (kE fE es) else cO
   | none=>if c.bl.contains x=true then(match TV c x with | some (_,op)=>aw op (kE fE es) | none=>cO) else cO)
  else cO
def Bp:List Expr->Option (Str×Expr×Expr×Pos×Pos)
 | [.Call (.Name y p) [a,b] [] q]=>some (y,a,b,p,q)
 | _=>none
theorem Ga{es:List Expr}{y:Str}{a b:Expr}{p q:Pos}(h:Bp es=some (y,a,b,p,q)):es=[.Call (.Name y p) [a,b] [] q]:=by
 unfold Bp at h
 split at h
 ·cases h;rfl
 ·cases h
def zZ(c:Ct)(fE:Expr->GE)(x:Str)(es:List Expr):GE:=match Bp es with
 | some (y,a,b,_)=>if x="dict"/\y="zip"/\[a,b].all plain=true/\c.names.lookup x=some .globalImplicit/\c.names.lookup y=some .globalImplicit/\c.bl.contains x=true/\c.bl.contains y=true/\c.free=true then aw rK (kE fE [a,b]) else vS c fE x es
 | none=>vS c fE x es
def Gb(fE:Expr->GE)(o:Expr)(name:Str)(e:Expr)(apos cpos:Pos):GE:=if plain e=true/\(apos.endLine == cpos.line)=true then
   (if name="append" then iY jV (fE o) (fE e) else if name="extend" then iY pB (fE o) (fE e) else cO)
  else cO
theorem all_plain{pos:Pos}{env:Env}:∀{es:List Expr},es.all plain=true->(backTo pos (acK es env)).all (λx=> !x.1)=true
 | [],_=>rfl
 | e::es,h=>by
  rw[dh,cz] at h
  rw[aG h.1]
  have q:=all_plain (pos:=pos) (env:=env) h.2
  unfold backTo at q ⊢
  rw[ay,dh,q]
  rfl
def Kg(c:Ct)(x:Str):Option Dc:=if okN x=true/\c.names.lookup x=some .globalImplicit then c.CZ.lookup x else none
theorem Kh{c:Ct}{k:Nat}(G:Good c k X){x:Str}{kvs:Dc}(h:Kg c x=some kvs):Gl X x/\(x == ("__debug__":Str))=false/\CH X.K X.w X.mg x kvs:=by
 unfold Kg at h
 by_cases g:okN x=true/\c.names.lookup x=some .globalImplicit
 ·rw[if_pos g] at h
  refine⟨?_,ie g.1,G.CZ x kvs h⟩
  show X.env.scope.names.lookup x=_
  rw[G.sc];exact g.2
 ·rw[if_neg g] at h;cases h
def Gd(c:Ct)(fE:Expr->GE)(x:Str)(p:Pos)(e f:Expr)(apos cpos:Pos):GE:=if c.rL.contains x=true/\plain e=true/\plain f=true/\(apos.endLine == cpos.line)=true then og (fE (.Name x p)) (fE e) (fE f) else cO
theorem Ge{c:Ct}{k:Nat}(G:Good c k X){fE:Expr->GE}(h:∀e,JE X e (fE e))(x:Str)(p:Pos)(e f:Expr)(apos cpos:Pos):JE X (.Call (.Attribute (.Name x p) "pop" apos) [e,f] [] cpos) (Gd c fE x p e f apos cpos):=by
 unfold Gd
 by_cases g:c.rL.contains x=true/\plain e=true/\plain f=true/\(apos.endLine == cpos.line)=true
 ·rw[if_pos g]
  obtain⟨_,g1,g2,g3⟩:=g
  refine J3 (by have:=G.un;omega) (h _) (h e) (h f) ⟨rfl,?_,g3,?_⟩
  ·rw[all_plain (es:=[e,f]) (by simp[g1,g2])]
   rfl
  ·rw[aG g1,aG g2]
   rfl
 ·rw[if_neg g];exact aT
def Om(fE:Expr->GE)(x:Str)(p:Pos)(e f:Expr)(apos cpos:Pos):GE:=if plain e=true/\plain f=true/\(apos.endLine == cpos.line)=true then CV (fE (.Name x p)) (fE e) (fE f) else cO
theorem Ki{fE:Expr->GE}(h:∀e,JE X e (fE e))(x:Str)(p:Pos)(e f:Expr)(apos cpos:Pos):JE X (.Call (.Attribute (.Name x p) "insert" apos) [e,f] [] cpos) (Om fE x p e f apos cpos):=by
 unfold Om
 by_cases g:plain e=true/\plain f=true/\(apos.endLine == cpos.line)=true
 ·rw[if_pos g]
  obtain⟨g1,g2,g3⟩:=g
  refine N9 (h _) (h e) (h f) ⟨rfl,?_,g3,?_⟩
  ·rw[all_plain (es:=[e,f]) (by simp[g1,g2])]
   rfl
  ·rw[aG g1,aG g2]
   rfl
 ·rw[if_neg g];exact aT
def Gf(c:Ct)(fE:Expr->GE)(cpos:Pos):Expr->List Expr->List Keyword->GE
 | .Name x _,e::es,[]=>zZ c fE x (e::es)
 | .Attribute (.Name x p) name apos,[e],[]=>if name="append"\/name="extend" then Gb fE (.Name x p) name e apos cpos else cO
 | .Attribute (.Name x p) name apos,[e,f],[]=>if name="pop" then Gd c fE x p e f apos cpos else if name="insert" then Om fE x p e f apos cpos else cO
 | _,_,_=>cO
theorem uv{c:Ct}{k:Nat}(G:Good c k X){fE:Expr->GE}(h:∀e,JE X e (fE e))(x:Str)(e:Expr)(es:List Expr)(p pos:Pos):JE X (.Call (.Name x p) (e::es) [] pos) (vS c fE x (e::es)):=by
 unfold vS
 by_cases g:okN x=true/\(e::es).all plain=true/\c.names.lookup x=some .globalImplicit
 ·rw[if_pos g]
  obtain⟨g1,g2,g3⟩:=g
  have hg:Gl X x:=by
   show X.env.scope.names.lookup x=_
   rw[G.sc];exact g3
  have gp:plain e=true/\es.all plain=true:=by rw[dh,cz] at g2;exact g2
  have ha:=fB h (e::es) g2
  cases e1:c.fns.lookup x with
  | some nF=>
   obtain⟨n,F⟩:=nF
   dsimp only
   by_cases cf:c.free=true
   ·rw[if_pos cf]
    obtain⟨a,fd,ps,G1,G2,G3,G4⟩:=G.fns x n F e1
    exact Jg G1 (G.free cf).1 G2 G3 G4 ha hg (ie g1) (aG gp.1) (f7 gp.2)
   ·rw[if_neg cf]
    by_cases cu:c.yI.contains x=true
    ·rw[if_pos cu]
     obtain⟨a,fd,ps,G1,G2,G3,G4⟩:=G.yI x n F cu e1
     exact Fi G1 G.rm G.hd G2 G3 G4 ha hg (ie g1) (aG gp.1) (f7 gp.2)
    ·rw[if_neg cu];exact aT
  | none=>
   dsimp only
   by_cases e3:c.bl.contains x=true
   ·rw[if_pos e3]
    cases e4:TV c x with
    | none=>exact aT
    | some io=>
     obtain⟨v,op⟩:=io
     obtain⟨b1,b2,b3⟩:=Ol (X:=X) G.tab (λz=>(G.free z).2) e4
     rcases b3 with ⟨id,rfl⟩ | ⟨T,rfl⟩
     ·exact En b2 hg (G.bl x e3) b1 ha (F5 g1) (ie g1) (aG gp.1) (f7 gp.2)
     ·exact Cf b2 hg (G.bl x e3) b1 ha (F5 g1) (ie g1) (aG gp.1) (f7 gp.2)
   ·rw[if_neg e3]
    exact aT
 ·rw[if_neg g];exact aT
theorem C4{c:Ct}{k:Nat}(G:Good c k X){fE:Expr->GE}(h:∀e,JE X e (fE e))(x:Str)(e:Expr)(es:List Expr)(p pos:Pos):JE X (.Call (.Name x p) (e::es) [] pos) (zZ c fE x (e::es)):=by
 unfold zZ
 cases q:Bp (e::es) with
 | none=>exact uv G h _ _ _ _ _
 | some t=>
  obtain⟨y,a,b,p1,q1⟩:=t
  dsimp only
  by_cases g:x="dict"/\y="zip"/\[a,b].all plain=true/\c.names.lookup x=some .globalImplicit/\c.names.lookup y=some .globalImplicit/\c.bl.contains x=true/\c.bl.contains y=true/\c.free=true
  ·rw[if_pos g]
   obtain⟨rfl,rfl,g3,g4,g5,g6,g7,g8⟩:=g
   rw[Ga q]
   have gp:plain a=true/\[b].all plain=true:=by rw[dh,cz] at g3;exact g3
   exact F1 G.un (G.free g8).2 (by show X.env.scope.names.lookup _=_;rw[G.sc];exact g4) (G.bl _ g6) (by show X.env.scope.names.lookup _=_;rw[G.sc];exact g5) (G.bl _ g7) (fB h [a,b] g3) (aG gp.1) (f7 gp.2)
  ·rw[if_neg g];exact uv G h _ _ _ _ _
theorem Gg{fE:Expr->GE}(h:∀e,JE X e (fE e))(x name:Str)(e:Expr)(p apos cpos:Pos):JE X (.Call (.Attribute (.Name x p) name apos) [e] [] cpos) (Gb fE (.Name x p) name e apos cpos):=by
 unfold Gb
 by_cases g:plain e=true/\(apos.endLine == cpos.line)=true
 ·rw[if_pos g]
  by_cases n1:name="append"
  ·rw[if_pos n1]
   subst n1
   exact A1 EO PySem.F.slot_list_append PySem.F.type_list_append (h _) (h e) (aG g.1) g.2
  rw[if_neg n1]
  by_cases n2:name="extend"
  ·rw[if_pos n2]
   subst n2
   exact A1 JU PySem.F.slot_list_extend PySem.F.type_list_extend (h _) (h e) (aG g.1) g.2
  rw[if_neg n2]
  exact aT
 ·rw[if_neg g];exact aT
theorem Gh{c:Ct}{k:Nat}(G:Good c k X){fE:Expr->GE}(h:∀e,JE X e (fE e))(f:Expr)(as:List Expr)(ks:List Keyword)(pos:Pos):JE X (.Call f as ks pos) (Gf c fE pos f as ks):=by
 unfold Gf
 split
 ·exact C4 G h _ _ _ _ _
 ·rename_i x p name apos e
  by_cases g:name="append"\/name="extend"
  ·rw[if_pos g];exact Gg h _ _ _ _ _ _
  ·rw[if_neg g]
   exact aT
 ·rename_i x p name apos e f
  ·by_cases g2:name="pop"
   ·rw[if_pos g2];subst g2;exact Ge G h _ _ _ _ _ _
   rw[if_neg g2]
   by_cases g3:name="insert"
   ·rw[if_pos g3];subst g3;exact Ki h _ _ _ _ _ _
   ·rw[if_neg g3];exact aT
 ·exact aT
def Kj:Expr->Bool
 | .Slice .. =>true
 | _=>false
def Gi(f:Expr->GE):Option Expr->GO
 | none=>fo
 | some e=>jA (f e)
theorem Bq{f:Expr->GE}(h:∀e,JE X e (f e))(o:Option Expr):JO X o (Gi f o):=by
 cases o with
 | none=>exact IZ
 | some e=>exact I0 (h e)
def Kk(f:Expr->GE)(a:Expr):Expr->GE
 | .Slice lo hi none _=>dY (f a) (Gi f lo) (Gi f hi)
 | .Slice .. =>cO
 | b=>ag bU (f a) (f b)
theorem Gj{f:Expr->GE}(h:∀e,JE X e (f e))(a b:Expr)(pos:Pos):JE X (.Subscript a b pos) (Kk f a b):=by
 unfold Kk
 split
 ·exact CF (h a) (Bq h _) (Bq h _)
 ·exact aT
 ·rename_i n1 n2
  refine Ru (h a) (h b) ?_
  intro o i
  cases b<;>first | rfl | (rename_i lo hi st p;exact(n2 _ _ _ _ rfl).elim)
def Kl(f:Expr->GE)(a:Expr):List CmpOp->List Expr->GE
 | [o],[b]=>if acA o b=false then ag (zY o) (f a) (f b) else cO
 | [o,o'],[b,b']=>if lastMarks [o,o'] [b,b']=false then jg (zY o) (zY o') (f a) (f b) (f b') else cO
 | _,_=>cO
theorem Gk(hu:X.A.units+64 < cLine){f:Expr->GE}(h:∀e,JE X e (f e))(a:Expr)(os:List CmpOp)(bs:List Expr)(pos:Pos):JE X (.Compare a os bs pos) (Kl f a os bs):=by
 unfold Kl
 split
 ·rename_i o b
  by_cases g:acA o b=false
  ·rw[if_pos g];exact zd (lU hu o) (h a) (h b) g
  ·rw[if_neg g];exact aT
 ·rename_i o o' b b'
  by_cases g:lastMarks [o,o'] [b,b']=false
  ·rw[if_pos g];exact Eg (lU hu o) (lU hu o') (h a) (h b) (h b') g
  ·rw[if_neg g];exact aT
 ·exact aT
def Km(f:Expr->GE)(a:Expr):List CmpOp->List Expr->GT
 | [o],[b]=>if acA o b=false then cU (ag (zY o) (f a) (f b)) else kW
 | [o,o'],[b,b']=>if lastMarks [o,o'] [b,b']=false then cU (jg (zY o) (zY o') (f a) (f b) (f b')) else kW
 | _,_=>kW
theorem Br(hu:X.A.units+64 < cLine){f:Expr->GE}(h:∀e,JE X e (f e))(a:Expr)(os:List CmpOp)(bs:List Expr)(pos:Pos):JT X (.Compare a os bs pos) (Km f a os bs):=by
 unfold Km
 split
 ·rename_i o b
  by_cases g:acA o b=false
  ·rw[if_pos g];exact ze (lU hu o) (h a) (h b) g
  ·rw[if_neg g];exact kX
 ·rename_i o o' b b'
  by_cases g:lastMarks [o,o'] [b,b']=false
  ·rw[if_pos g];exact Eh (lU hu o) (lU hu o') (h a) (h b) (h b') g
  ·rw[if_neg g];exact kX
 ·exact kX
def VF(c:Ct):Expr->Bool
 | .Name x _=>c.rL.contains x
 | _=>false
def Kn(c:Ct):Expr->Bool
 | .Subscript (.Name x _) (.Constant (.int 0) _ _) _=>c.rL.contains (x++"[]")
 | .Subscript (.Call (.Name x _) _ _ _) (.Constant (.int 0) _ _) _=>c.rL.contains (x++"()[]")
 | .Call (.Name x _) _ _ _=>c.rL.contains (x++"()")
 | e=>VF c e
def fD(f:Expr->GE):Expr->GE
 | .Dict [] [] _=>xw
 | e=>f e
theorem Bs{f:Expr->GE}(h:∀e,JE X e (f e))(b:Expr):JE X b (fD f b):=by
 unfold fD
 split
 ·exact Bb
 ·exact h _
def Oo(c:Ct)(f:Expr->GE)(a:Expr)(os:List CmpOp)(bs:List Expr):GE:=if Kn c a=true then(match os,bs with
 | [.Eq],[b]=>if acA .Eq b=false then ag CU (f a) (fD f b) else cO
 | [.NotEq],[b]=>if acA .NotEq b=false then ag sL (f a) (fD f b) else cO
 | os,bs=>Kl f a os bs) else Kl f a os bs
theorem Ko{c:Ct}{k:Nat}(G:Good c k X){f:Expr->GE}(h:∀e,JE X e (f e))(a:Expr)(os:List CmpOp)(bs:List Expr)(pos:Pos):JE X (.Compare a os bs pos) (Oo c f a os bs):=by
 unfold Oo
 by_cases g:Kn c a=true
 ·rw[if_pos g]
  split
  ·rename_i b
   by_cases gm:acA .Eq b=false
   ·rw[if_pos gm];exact zd (FO G.un) (h a) (Bs h b) gm
   ·rw[if_neg gm];exact aT
  ·rename_i b
   by_cases gm:acA .NotEq b=false
   ·rw[if_pos gm];exact zd (FP G.un) (h a) (Bs h b) gm
   ·rw[if_neg gm];exact aT
  ·exact Gk G.un h a _ _ pos
 ·rw[if_neg g];exact Gk G.un h a os bs pos
def Gm(c:Ct)(f:Expr->GE)(a:Expr)(os:List CmpOp)(bs:List Expr):GT:=if Kn c a=true then(match os,bs with
 | [.Eq],[b]=>if acA .Eq b=false then cU (ag CU (f a) (fD f b)) else kW
 | [.NotEq],[b]=>if acA .NotEq b=false then cU (ag sL (f a) (fD f b)) else kW
 | os,bs=>Km f a os bs) else Km f a os bs
theorem Gn{c:Ct}{k:Nat}(G:Good c k X){f:Expr->GE}(h:∀e,JE X e (f e))(a:Expr)(os:List CmpOp)(bs:List Expr)(pos:Pos):JT X (.Compare a os bs pos) (Gm c f a os bs):=by
 unfold Gm
 by_cases g:Kn c a=true
 ·rw[if_pos g]
  split
  ·rename_i b
   by_cases gm:acA .Eq b=false
   ·rw[if_pos gm];exact ze (FO G.un) (h a) (Bs h b) gm
   ·rw[if_neg gm];exact kX
  ·rename_i b
   by_cases gm:acA .NotEq b=false
   ·rw[if_pos gm];exact ze (FP G.un) (h a) (Bs h b) gm
   ·rw[if_neg gm];exact kX
  ·exact Br G.un h a _ _ pos
 ·rw[if_neg g];exact Br G.un h a os bs pos
def R7(c:Ct):Expr->Bool
 | .Name x _=>c.rL.contains x||c.dks.contains x
 | _=>false
def Oq(c:Ct)(f:Expr->GE):Expr->Expr->GE
 | .Name x p,b=>(match Kg c x with | some kvs=>if Kj b=false then Ll kvs (f b) else cO | none=>Kk f (.Name x p) b)
 | a,b=>Kk f a b
theorem Kp{c:Ct}{k:Nat}(G:Good c k X){f:Expr->GE}(h:∀e,JE X e (f e))(a b:Expr)(pos:Pos):JE X (.Subscript a b pos) (Oq c f a b):=by
 unfold Oq
 split
 ·rename_i x p
  cases e:Kg c x with
  | none=>
   dsimp only
   exact Gj h _ b pos
  | some kvs=>
   dsimp only
   by_cases g:Kj b=false
   ·rw[if_pos g]
    obtain⟨g1,g2,g3⟩:=Kh G e
    refine JG (h b) ?_ g1 g2 g3
    intro o i
    cases b<;>first | rfl | cases g
   ·rw[if_neg g];exact aT
 ·exact Gj h _ b pos
def Ot(f:Expr->GE):List Expr->GE
 | []=>cO
 | [a]=>f a
 | a::b::r=>iW (f a) (Ot f (b::r))
theorem Bt{f:Expr->GE}(h:∀e,JE X e (f e))(pos:Pos):∀es,JE X (.BoolOp .And es pos) (Ot f es)
 | []=>aT
 | [a]=>MV (h a)
 | a::b::r=>MW (h a) (Bt h pos (b::r))
def Ou(f:Expr->GT):List Expr->GT
 | []=>kW
 | [a]=>f a
 | a::b::r=>Ei (f a) (Ou f (b::r))
def VG(f:Expr->GT):List Expr->GT
 | []=>kW
 | [a]=>f a
 | a::b::r=>AX (f a) (VG f (b::r))
theorem Gp{e:Expr}:JW X e kW:=λρ st σ H m Q S R p=>aa p
theorem Bu{f:Expr->GT}(h:∀e,JT X e (f e))(pos:Pos):∀es,JW X (.BoolOp .And es pos) (Ou f es)
 | []=>Gp
 | [a]=>IP (h a)
 | a::b::r=>MT (h a) (Bu h pos (b::r))
theorem Gq{f:Expr->GT}(h:∀e,JT X e (f e))(pos:Pos):∀es,JW X (.BoolOp .Or es pos) (VG f es)
 | []=>Gp
 | [a]=>MS (h a)
 | a::b::r=>Rc (h a) (Gq h pos (b::r))
def unG(f:Expr->GE):UnaryOp->Expr->GE
 | .USub,a=>AW h_ (f a)
 | .Not,a=>w4 (f a)
 | _,_=>cO
def C5(f:Expr->GE)(g:GA->GE)(es:List Expr):GE:=if es.all plain=true then g (kE f es) else cO
def isSet:Expr->Bool
 | .Set .. =>true
 | _=>false
theorem iu{e:Expr}{env:Env}(h:isSet e=false)(x:acy):acG e env x=pure x:=by
 cases e<;>first | rfl | cases h
def fF(c:Ct)(x:Str):Bool:=decide (x="range")&&decide (c.names.lookup x=some .globalImplicit)&&c.bl.contains x&&(match c.fns.lookup x with | some _=>false | none=>true)
theorem oj{c:Ct}{k:Nat}(G:Good c k X)(y:Str)(hy:fF c y=true):y="range"/\Gl X y/\X.mg y=none:=by
 unfold fF at hy
 simp only[cz,decide_eq_true_eq] at hy
 refine⟨hy.1.1.1,?_,G.bl y hy.1.2⟩
 show X.env.scope.names.lookup y=_
 rw[G.sc];exact hy.1.1.2
def uw(c:Ct)(f:Expr->GE):Expr->GI
 | .Call (.Name x p) [a] [] q=>if fF c x=true then(if plain a=true then sG (kE f [a]) else A6) else ft (f (.Call (.Name x p) [a] [] q))
 | .Call (.Name x p) [a,b] [] q=>if fF c x=true then(if plain a=true/\plain b=true then E8 (kE f [a,b]) else A6) else ft (f (.Call (.Name x p) [a,b] [] q))
 | e=>if isSet e=false then ft (f e) else A6
theorem vT{c:Ct}{k:Nat}(G:Good c k X){f:Expr->GE}(h:∀e,JE X e (f e))(tg e:Expr):JI X tg e (uw c f e):=by
 unfold uw
 split
 ·rename_i y p a q
  by_cases g:fF c y=true
  ·rw[if_pos g]
   obtain⟨rfl,g2,g3⟩:=oj G y g
   by_cases ga:plain a=true
   ·rw[if_pos ga]
    exact RH g2 g3 (fB h [a] (by simp[ga])) (aG ga)
   ·rw[if_neg ga];exact zx
  ·rw[if_neg g];exact vD (h _)
 ·rename_i y p a b q
  by_cases g:fF c y=true
  ·rw[if_pos g]
   obtain⟨rfl,g2,g3⟩:=oj G y g
   by_cases ga:plain a=true/\plain b=true
   ·rw[if_pos ga]
    exact RI g2 g3 (fB h [a,b] (by simp[ga])) (by rw[aG ga.1,aG ga.2];rfl) (by rw[aG ga.2];rfl)
   ·rw[if_neg ga];exact zx
  ·rw[if_neg g];exact vD (h _)
 ·by_cases g:isSet e=false
  ·rw[if_pos g];exact vD (h _)
  ·rw[if_neg g];exact zx
def Kq(c:Ct):Expr->Bool
 | .Call (.Name x _) [a] [] _=>fF c x&&plain a
 | _=>false
theorem xV{c:Ct}{k:Nat}(G:Good c k X){f:Expr->GE}(h:∀e,JE X e (f e))(tg e:Expr)(g:Kq c e=true):Qo zp X tg e (uw c f e):=by
 unfold Kq at g
 split at g
 ·rename_i y p a q
  simp only[cz] at g
  obtain⟨rfl,g2,g3⟩:=oj G y g.1
  unfold uw
  dsimp only
  rw[if_pos g.1,if_pos g.2]
  exact NT g2 g3 (fB h [a] (by simp[g.2])) (aG g.2)
 ·cases g
def VH(c:Ct)(x:Str):Bool:=decide (x="enumerate")&&decide (c.names.lookup x=some .globalImplicit)&&c.bl.contains x&&(match c.fns.lookup x with | some _=>false | none=>true)
def VI(gi:GI):Qp:=λρ st=>(gi ρ st).bind λw st1=> .ok (w.1.map λl=>(l,w.2),w.2) st1
def z_(c:Ct)(f:Expr->GE):Expr->Qp
 | e=>VI (uw c f e)
theorem Gs{c:Ct}{k:Nat}(G:Good c k X){f:Expr->GE}(h:∀e,JE X e (f e))(es:List Expr)(kt:Nat)(pt:Pos)(e:Expr):TR X (.Tuple es kt pt) e (z_ c f e):=by
 unfold z_
 exact NP (vT G h _ _)
def Lr(c:Ct):Expr->Bool
 | .Call (.Name x _) [_] [] _=>VH c x
 | _=>false
def pG(c:Ct):List (Str×acv)->Option iK
 | []=>some []
 | (n,.free)::r=>if c.names.lookup n=some .cell\/c.names.lookup n=some .free then(match oh n c.N,pG c r with | some i,some l=>some ((n,i)::l) | _,_=>none) else none
 | _::r=>pG c r
theorem rM{c:Ct}:∀{ns:List (Str×acv)}{cs:iK},pG c ns=some cs->(∀y∈ns,y.2= .free->c.names.lookup y.1=some .cell\/c.names.lookup y.1=some .free)/\∀p∈cs,(p.1,eS)∈ns/\c.N[p.2]? =some p.1
 | [],cs,h=>by cases h;exact⟨(λ_ z=>by cases z),(λ_ z=>by cases z)⟩
 | (n,k)::r,cs,h=>by
  unfold pG at h
  split at h
  ·cases ‹_::_=[]›
  ·rename_i n' r' he
   cases he
   by_cases g:c.names.lookup n=some .cell\/c.names.lookup n=some .free
   ·rw[if_pos g] at h
    cases e1:oh n c.N with
    | none=>rw[e1] at h;cases h
    | some i=>
     cases e2:pG c r with
     | none=>rw[e1,e2] at h;cases h
     | some l=>
      rw[e1,e2] at h
      cases h
      obtain⟨q1,q2⟩:=rM e2
      refine⟨λy hy e=>?_,λp hp=>?_⟩
      ·rcases List.mem_cons.mp hy with z | z
       ·subst z;exact g
       ·exact q1 y z e
      ·rcases List.mem_cons.mp hp with z | z
       ·subst z;exact⟨aR,iL e1⟩
       ·exact⟨aN _ (q2 p z).1,(q2 p z).2⟩
   ·rw[if_neg g] at h;cases h
  ·rename_i kk r' hk he
   cases he
   obtain⟨q1,q2⟩:=rM h
   refine⟨λy hy e=>?_,λp hp=>⟨aN _ (q2 p hp).1,(q2 p hp).2⟩⟩
   rcases List.mem_cons.mp hy with z | z
   ·subst z
    have e':k= .free:=e
    subst e'
    exact(hk n rfl).elim
   ·exact q1 y z e
def Aa(c:Ct)(ns:List (Str×acv)):List (Str×acv):=ns.map λ(n,k)=>if(k == .free&&c.names.lookup n == some .cell) then(n,.cell) else(n,k)
def Gu:ScopeKind->Bool
 | .function=>true
 | _=>false
def lV(scope:Scope)(x:Str):Bool:=Gu scope.kind&&scope.names.all (λy=>decide (scope.names.lookup y.1=some y.2))&&scope.names.all (λy=>decide (y.2≠.cell))&&decide (scope.names.lookup x=some .local)
def Ct.block(c:Ct)(scope:Scope)(x:Str)(cs:iK):Ct:={ c with N:=x::cs.map (·.1),names:=Aa c scope.names,loop:=false,top:=false }
def xW(c:Ct)(sub:Ct->(Expr->GE)×(Expr->GT))(f:Expr->GE)(elt:Expr)(x:Str)(iter:Expr)(Ov:Ct->GT)(scope:Scope):GE :=
 if lV scope x=true/\(c.free=true\/Kq c iter=true)/\isSet iter=false then(match pG c scope.names with
  | some cs=>if(x::cs.map (·.1)).Nodup then eM cs (uw c f iter) (Ov (c.block scope x cs)) ((sub (c.block scope x cs)).1 elt) else cO
  | none=>cO) else cO
def TX(c:Ct)(sub:Ct->(Expr->GE)×(Expr->GT))(f:Expr->GE)(elt:Expr)(scope:Scope):List Comprehension->GE
 | [⟨.Name x _,iter,[],0⟩]=>xW c sub f elt x iter (λ_=>λ_ st=> .ok true st) scope
 | [⟨.Name x _,iter,[q],0⟩]=>xW c sub f elt x iter (λc'=>(sub c').2 q) scope
 | _=>cO
theorem rN{c:Ct}{k:Nat}(G:Good c k X){scope:Scope}{x:Str}{cs:iK}(hs:lV scope x=true)(nd:(x::cs.map (·.1)).Nodup)(C:acr)(s0:acx)(H0:Hp)(fp:List acr)(pn:List (acr×Obj))(E:acy->acx->Prop)(hA:Cr X.A H0) :
  Good (c.block scope x cs) k (ib X scope x cs C s0 H0 fp pn E):=by
 have hk:scope.kind= .function:=by
  have:Gu scope.kind=true:=by
   unfold lV at hs
   simp only[cz] at hs
   exact hs.1.1.1
  revert this
  cases scope.kind<;>intro z<;>first | rfl | cases z
 refine⟨rfl,?_,nd,G.un,G.free,(λz=>by cases z),G.cst,G.bl,G.fns,(λz=>by cases z),(λz=>by cases z),hk,G.tab,G.cls,G.zX,G.CZ,⟨G.rm.d,G.rm.u⟩,G.yI,⟨G.x.lam,G.x.F3,G.x.Of,(λz=>by cases z),G.x.sk,G.x.Og⟩,G.fr,hA⟩
 show(relabel scope X.env).names=Aa c scope.names
 unfold relabel Aa Env.kindOf
 rw[G.kind,G.sc]
 simp
theorem Gv{c:Ct}{k:Nat}(G:Good c k X){scope:Scope}{x:Str}{cs:iK}(hs:lV scope x=true)(hcs:pG c scope.names=some cs)(nd:(x::cs.map (·.1)).Nodup):dj X scope x cs:=by
 have hs:(Gu scope.kind=true/\∀y∈scope.names,scope.names.lookup y.1=some y.2)/\((scope.names.filter λy=>y.2 == .cell)=[]\/(scope.names.filter λy=>y.2 == .cell)=[(x,.cell)])/\(scope.names.lookup x=some .local\/scope.names.lookup x=some .cell):=by
  unfold lV at hs
  simp only[cz,decide_eq_true_eq,oT] at hs
  exact⟨hs.1.1,.inl (List.filter_eq_nil_iff.mpr λy hy=>by simpa using hs.1.2 y hy),.inl hs.2⟩
 obtain⟨⟨h1,h2⟩,h3,h4⟩:=hs
 have hk:scope.kind= .function:=by
  revert h1
  cases scope.kind<;>intro z<;>first | rfl | cases z
 obtain⟨q1,q2⟩:=rM hcs
 refine⟨hk,h2,h3,h4,λy hy e=>?_,λp hp=>⟨by rw[G.N];exact(q2 p hp).2,h2 _ (q2 p hp).1⟩,nd⟩
 show X.env.scope.names.lookup y.1=_\/X.env.scope.names.lookup y.1=_
 rw[G.sc];exact q1 y hy e
def Ow(X:Cx)(e:Expr)(g:GE):Prop:=∀(i:Nat)(y:Str)(py spos:Pos),X.N.Nodup->X.N[i]? =some y->Loc X.env.scope y->(X.fn y=true\/X.env.scope.names.lookup y=some .local)->JS X (.Assign [.Name y py] e spos) (a_ i g)
theorem C6{i:Nat}{s:Stmt}:JS X s (a_ i cO):=λρ st σ H m D S R p=>aa p
theorem iZ{e:Expr}:Ow X e cO:=λi y py spos _ _ _ _=>C6
theorem Bv{c:Ct}{k:Nat}(G:Good c k X){sub:Ct->(Expr->GE)×(Expr->GT)}(hb:∀c X,Good c k X->(∀e,JE X e ((sub c).1 e))/\∀e,JT X e ((sub c).2 e)){f:Expr->GE}(h:∀e,JE X e (f e))(elt:Expr)(scope:Scope)(gens:List Comprehension)(pos:Pos) :
  JE X (.ListComp elt gens scope pos) (TX c sub f elt scope gens)/\Ow X (.ListComp elt gens scope pos) (TX c sub f elt scope gens):=by
 have core:∀(x:Str)(px:Pos)(iter:Expr)(ifs:List Expr)(Ov:Ct->GT),(∀c X,Good c k X->Lk X ifs (Ov c))->
   JE X (.ListComp elt [⟨.Name x px,iter,ifs,0⟩] scope pos) (xW c sub f elt x iter Ov scope)/\Ow X (.ListComp elt [⟨.Name x px,iter,ifs,0⟩] scope pos) (xW c sub f elt x iter Ov scope):=by
  intro x px iter ifs Ov hg
  unfold xW
  by_cases g:lV scope x=true/\(c.free=true\/Kq c iter=true)/\isSet iter=false
  ·rw[if_pos g]
   obtain⟨g1,g2,g3⟩:=g
   cases ec:pG c scope.names with
   | none=>exact⟨aT,iZ⟩
   | some cs=>
    dsimp only
    by_cases nd:(x::cs.map (·.1)).Nodup
    ·rw[if_pos nd]
     have CS:=Gv G g1 ec nd
     have hE:∀C s0 H0 fp pn E,Cr X.A H0->JE (ib X scope x cs C s0 H0 fp pn E) elt ((sub (c.block scope x cs)).1 elt):=λC s0 H0 fp pn E z=>(hb _ _ (rN G g1 nd C s0 H0 fp pn E z)).1 elt
     have hT:∀C s0 H0 fp pn E,Cr X.A H0->Lk (ib X scope x cs C s0 H0 fp pn E) ifs (Ov (c.block scope x cs)):=λC s0 H0 fp pn E z=>hg _ _ (rN G g1 nd C s0 H0 fp pn E z)
     rcases g2 with g2 | g2
     ·exact⟨vA G.fr CS (xo (G.free g2).2) G.hd (vT G h _ iter).y hE hT (iu g3),λi y py spos hN hi hl hf=>A8 i hN G.fr CS (xo (G.free g2).2) G.hd (vT G h _ iter).y hE hT (iu g3) hi hl hf⟩
     ·exact⟨vA G.fr CS (Fn G.hd) G.hd (xV G h _ iter g2) hE hT (iu g3),λi y py spos hN hi hl hf=>A8 i hN G.fr CS (Fn G.hd) G.hd (xV G h _ iter g2) hE hT (iu g3) hi hl hf⟩
    ·rw[if_neg nd];exact⟨aT,iZ⟩
  ·rw[if_neg g];exact⟨aT,iZ⟩
 unfold TX
 split
 ·exact core _ _ _ _ _ λ_ _ _=>Jt
 ·exact core _ _ _ _ _ λc X G'=>Ju ((hb c X G').2 _)
 ·exact⟨aT,iZ⟩
def Gw(c:Ct)(sub:Ct->(Expr->GE)×(Expr->GT))(f:Expr->GE)(t:Expr->GT):Expr->GE
 | .Name x _=>F9 c x
 | .Constant k _ _=>F' k
 | .BinOp a o b _=>ag (R6 o) (f a) (f b)
 | .UnaryOp o a _=>unG f o a
 | .BoolOp .And es _=>Ot f es
 | .Compare a os bs _=>Oo c f a os bs
 | .IfExp q a b _=>Rf (t q) (f a) (f b)
 | .Tuple es _ _=>C5 f bO es
 | .List es _=>C5 f eJ es
 | .Subscript a b _=>Oq c f a b
 | .Call g as ks p=>Gf c f p g as ks
 | .ListComp elt gens scope _=>TX c sub f elt scope gens
 | _=>cO
def stepT(c:Ct)(f:Expr->GE)(t:Expr->GT):Expr->GT
 | .UnaryOp .Not a _=>vh (t a)
 | .BoolOp .And es _=>Ou t es
 | .BoolOp .Or es _=>VG t es
 | .Compare a os bs _=>Gm c f a os bs
 | .Name x p=>iJ (f (.Name x p))
 | .Call g as ks p=>iJ (f (.Call g as ks p))
 | .Subscript a b p=>iJ (f (.Subscript a b p))
 | .Constant k j p=>iJ (f (.Constant k j p))
 | .BinOp a o b p=>iJ (f (.BinOp a o b p))
 | _=>kW
theorem xX{c:Ct}{k:Nat}(G:Good c k X){sub:Ct->(Expr->GE)×(Expr->GT)}(hb:∀k c X,Good c k X->(∀e,JE X e ((sub c).1 e))/\∀e,JT X e ((sub c).2 e)){f:Expr->GE}{t:Expr->GT}(h:∀e,JE X e (f e))(ht:∀e,JT X e (t e))(e:Expr):JE X e (Gw c sub f t e):=by
 have hu:X.A.units+64 < cLine:=G.un
 cases e with
 | Name x p=>exact F_ G x p
 | Constant v j p=>exact C0 v j p
 | BinOp a o b p=>exact MQ (Kf o) (h a) (h b)
 | UnaryOp o a p=>
  cases o with
  | USub=>exact MR (h a)
  | Not=>exact MX (h a)
  | _=>exact aT
 | BoolOp o es p=>
  cases o with
  | And=>exact Bt h p es
  | Or=>exact aT
 | Compare a os bs p=>exact Ko G h a os bs p
 | IfExp q a b p=>exact Rg (ht q) (h a) (h b)
 | Tuple es j p=>
  show JE X _ (C5 f bO es)
  unfold C5
  by_cases g:es.all plain=true
  ·rw[if_pos g];exact MY (fB h es g)
  ·rw[if_neg g];exact aT
 | List es p=>
  show JE X _ (C5 f eJ es)
  unfold C5
  by_cases g:es.all plain=true
  ·rw[if_pos g];exact MZ (fB h es g)
  ·rw[if_neg g];exact aT
 | Subscript a b p=>exact Kp G h a b p
 | Call g as ks p=>exact Gh G h g as ks p
 | ListComp elt gens scope p=>exact(Bv G (hb k) h elt scope gens p).1
 | _=>exact aT
def C7:Expr->Bool
 | .ListComp .. =>true
 | .SetComp .. =>true
 | .DictComp .. =>true
 | .Set .. =>true
 | _=>false
theorem vU{e:Expr}{t:Option Expr}{n:Nat}{env:Env}(h:C7 e=false):swapsWith e t n env=pure false:=by
 cases e<;>first | rfl | cases h
theorem xY{e o i:Expr}{p:Pos}{n:Nat}{env:Env}:swapsWith e (some (.Subscript o i p)) n env=pure false:=by
 cases e<;>rfl
theorem Gx{c:Ct}{k:Nat}(G:Good c k X){sub:Ct->(Expr->GE)×(Expr->GT)}(hb:∀k c X,Good c k X->(∀e,JE X e ((sub c).1 e))/\∀e,JT X e ((sub c).2 e)){f:Expr->GE}{t:Expr->GT}(h:∀e,JE X e (f e))(ht:∀e,JT X e (t e))(e:Expr):Ow X e (Gw c sub f t e):=by
 by_cases g:C7 e=false
 ·exact λi y py spos hN hi hl hf=>zj i hN (xX G hb h ht e) hi hl (vU g) hf
 ·cases e with
  | ListComp elt gens scope p=>exact(Bv G (hb k) h elt scope gens p).2
  | SetComp=>exact iZ
  | DictComp=>exact iZ
  | Set=>exact iZ
  | _=>exact absurd rfl g
theorem Gy{c:Ct}{k:Nat}(G:Good c k X){f:Expr->GE}{t:Expr->GT}(h:∀e,JE X e (f e))(ht:∀e,JT X e (t e))(e:Expr):JT X e (stepT c f t e):=by
 have hu:X.A.units+64 < cLine:=G.un
 cases e with
 | UnaryOp o a p=>
  cases o with
  | Not=>exact MU (ht a)
  | _=>exact kX
 | BoolOp o es p=>
  cases o with
  | And=>exact(Bu ht p es).jt
  | Or=>exact(Gq ht p es).jt
 | Compare a os bs p=>exact Gn G h a os bs p
 | Name x p=>exact qS (h _) (λ_=>rfl)
 | Call g as ks p=>exact qS (h _) (λ_=>rfl)
 | Subscript a b p=>exact qS (h _) (λ_=>rfl)
 | Constant v j p=>exact qS (h _) (λ_=>rfl)
 | BinOp a o b p=>exact qS (h _) (λ_=>rfl)
 | _=>exact kX
end
def mE:Nat->Ct->(Expr->GE)×(Expr->GT)
 | 0,_=>(λ_=>cO,λ_=>kW)
 | n+1,c=>(Gw c (mE n) (mE n c).1 (mE n c).2,stepT c (mE n c).1 (mE n c).2)
section
variable {X:Cx}
theorem eN:∀(n:Nat)(k:Nat)(c:Ct)(X:Cx),Good c k X->(∀e,JE X e ((mE n c).1 e))/\∀e,JT X e ((mE n c).2 e)
 | 0,_,_,_,_=>⟨λ_=>aT,λ_=>kX⟩
 | n+1,k,c,X,G=>⟨λe=>xX G (λk c X G=>eN n k c X G) (eN n k c X G).1 (eN n k c X G).2 e,λe=>Gy G (eN n k c X G).1 (eN n k c X G).2 e⟩
theorem Gz{k:Nat}:∀(n:Nat)(c:Ct)(X:Cx),Good c k X->∀e,Ow X e ((mE n c).1 e)
 | 0,_,_,_,_=>iZ
 | n+1,c,X,G,e=>Gx G (λk c X G=>eN n k c X G) (eN n k c X G).1 (eN n k c X G).2 e
def slot(c:Ct)(x:Str):Option Nat:=if c.names.lookup x=some .local\/(c.names.lookup x=some .cell/\c.top=true) then oh x c.N else none
def Bw(c:Ct)(x:Str):Option Nat:=if c.names.lookup x=some .local then oh x c.N else none
theorem GB{c:Ct}{k:Nat}(G:Good c k X){x:Str}{i:Nat}(h:Bw c x=some i):X.N[i]? =some x/\X.env.scope.names.lookup x=some .local:=by
 unfold Bw at h
 by_cases e:c.names.lookup x=some .local
 ·rw[if_pos e] at h
  exact⟨by rw[G.N];exact iL h,by rw[G.sc];exact e⟩
 ·rw[if_neg e] at h;cases h
theorem vV{c:Ct}{k:Nat}(G:Good c k X){x:Str}{i:Nat}(h:slot c x=some i):X.N[i]? =some x/\(Loc X.env.scope x/\(X.fn x=true\/X.env.scope.names.lookup x=some .local)):=by
 unfold slot at h
 by_cases e:c.names.lookup x=some .local\/(c.names.lookup x=some .cell/\c.top=true)
 ·rw[if_pos e] at h
  refine⟨by rw[G.N];exact iL h,?_⟩
  rcases e with e | ⟨e,e2⟩
  ·have q:X.env.scope.names.lookup x=some .local:=by rw[G.sc];exact e
   exact⟨.inl q,.inr q⟩
  ·have q:X.env.scope.names.lookup x=some .cell:=by rw[G.sc];exact e
   exact⟨.inr q,.inl (G.fn e2 x)⟩
 ·rw[if_neg e] at h;cases h
def slots(c:Ct):List Expr->Option (List Nat)
 | []=>some []
 | .Name x _::es=>(match slot c x,slots c es with | some i,some is=>some (i::is) | _,_=>none)
 | _=>none
theorem lh{c:Ct}{k:Nat}(G:Good c k X):∀{es:List Expr}{is:List Nat},slots c es=some is->Slots X es is
 | [],is,h=>by cases h;exact .nil
 | e::es,is,h=>by
  cases e with
  | Name x p=>
   have h:(match slot c x,slots c es with | some i,some is=>some (i::is) | _,_=>none)=some is:=h
   cases e1:slot c x with
   | none=>rw[e1] at h;cases h
   | some i=>
    cases e2:slots c es with
    | none=>rw[e1,e2] at h;cases h
    | some js=>
     rw[e1,e2] at h
     cases h
     obtain⟨q1,q2⟩:=vV G e1
     exact .cons q1 q2 (lh G e2)
  | _=>cases h
def R9:Expr->Bool
 | .Tuple .. =>true
 | _=>false
def Kr(es:List Expr)(v:Expr):Bool:=!R9 v||decide (4<=es.length)
def Ox:Expr->Bool
 | .Dict [] [] _=>true
 | _=>false
theorem C8{es:List Expr}{k:Nat}{p:Pos}{v:Expr}(h:Kr es v=true):swappedStores [.Tuple es k p] v X.env=pure none:=by
 cases v with
 | Tuple vs k2 p2=>
  have h4:4<=es.length:=by simpa [Kr,R9] using h
  unfold swappedStores
  have:(!(es.length == 2||es.length == 3)||vs.length != es.length||X.env.blockKind != .function)=true:=by
   have h2:(es.length == 2)=false:=by simp;omega
   have h3:(es.length == 3)=false:=by simp;omega
   rw[h2,h3];rfl
  dsimp only
  rw[if_pos this]
 | _=>rfl
def Oy(c:Ct)(f:Expr->GE)(v:Expr):List Expr->GS
 | [.Name x _]=>(match slot c x with | some i=>if Ox v=true/\c.rL.contains x=true then a_ i xw else a_ i (f v) | none=>b_)
 | [.Subscript o i _]=>if Kj i=false then(if R7 c o=true then pA (f v) (f o) (f i) else Lf (f v) (f o) (f i)) else b_
 | [.Tuple es _ _]=>if C7 v=false/\Kr es v=true/\c.free=true then(match slots c es with | some is=>t8 is (f v) | none=>b_) else b_
 | _=>b_
theorem Oz{c:Ct}{k:Nat}(G:Good c k X){f:Expr->GE}(h:∀e,JE X e (f e))(ha:∀e,Ow X e (f e))(v:Expr)(ts:List Expr)(pos:Pos):JS X (.Assign ts v pos) (Oy c f v ts):=by
 unfold Oy
 split
 ·rename_i x p
  cases e:slot c x with
  | none=>exact bE
  | some i=>
   obtain⟨e1,e2⟩:=vV G e
   dsimp only
   by_cases g:Ox v=true/\c.rL.contains x=true
   ·rw[if_pos g]
    have gv:=g.1
    unfold Ox at gv
    split at gv
    ·exact zj i (by rw[G.N];exact G.nd) Bb e1 e2.1 rfl e2.2
    ·cases gv
   ·rw[if_neg g];exact ha v i x _ _ (by rw[G.N];exact G.nd) e1 e2.1 e2.2
 ·rename_i o i p
  by_cases g2:Kj i=false
  ·rw[if_pos g2]
   by_cases gd:R7 c o=true
   ·rw[if_pos gd];exact JJ (by have:=G.un;omega) (h v) (h o) (h i) xY
   rw[if_neg gd]
   refine Je (h v) (h o) (h i) (by unfold swapsWithSole;exact xY) ?_ rfl ?_
   ·cases v<;>rfl
   ·intro _
    cases i<;>first | rfl | cases g2
  ·rw[if_neg g2];exact bE
 ·rename_i es kk p
  by_cases g:C7 v=false/\Kr es v=true/\c.free=true
  ·rw[if_pos g]
   cases e1:slots c es with
   | none=>exact bE
   | some is=>
    have g2:=g.2.1
    refine Jp (by rw[G.N];exact G.nd) (G.free g.2.2).2 (lh G e1) (h v) (vU g.1) ?_
    exact C8 g2
  ·rw[if_neg g];exact bE
 ·exact bE
def OA(c:Ct)(f:Expr->GE)(i:Nat)(gb:GS):Expr->GS
 | .Call (.Name x p) [a] [] q=>if fF c x=true then(if plain a=true then mL i (kE f [a]) gb else b_) else qV i (f (.Call (.Name x p) [a] [] q)) gb
 | .Call (.Name x p) [a,b] [] q=>if fF c x=true then(if plain a=true/\plain b=true then vp i (kE f [a,b]) gb else b_) else qV i (f (.Call (.Name x p) [a,b] [] q)) gb
 | e=>if isSet e=false then qV i (f e) gb else b_
theorem OB{c:Ct}{k:Nat}(G:Good c k X)(hl:c.loop=true){f:Expr->GE}(h:∀e,JE X e (f e)){x:Str}{i:Nat}(hx:slot c x=some i){body:List Stmt}{gb:GS}(hb:nj X body gb)(e:Expr)(pos pos':Pos):JS X (.For (.Name x pos') e body [] pos) (OA c f i gb e):=by
 have nd:X.N.Nodup:=by rw[G.N];exact G.nd
 obtain⟨e1,e2⟩:=vV G hx
 have rg:=oj G
 unfold OA
 split
 ·rename_i y p a q
  by_cases g:fF c y=true
  ·rw[if_pos g]
   obtain⟨rfl,g2,g3⟩:=rg y g
   by_cases ga:plain a=true
   ·rw[if_pos ga]
    exact ED i nd (G.loop hl).2 (G.loop hl).1 g2 g3 (fB h [a] (by simp[ga])) hb e1 e2.1 e2.2 (aG ga)
   ·rw[if_neg ga];exact bE
  ·rw[if_neg g];exact zl i nd (G.loop hl).2 (G.loop hl).1 (h _) hb e1 e2.1 e2.2 (iu rfl)
 ·rename_i y p a b q
  by_cases g:fF c y=true
  ·rw[if_pos g]
   obtain⟨rfl,g2,g3⟩:=rg y g
   by_cases ga:plain a=true/\plain b=true
   ·rw[if_pos ga]
    exact EE i nd (G.loop hl).2 (G.loop hl).1 g2 g3 (fB h [a,b] (by simp[ga])) hb e1 e2.1 e2.2 (by rw[aG ga.1,aG ga.2];rfl) (by rw[aG ga.2];rfl)
   ·rw[if_neg ga];exact bE
  ·rw[if_neg g];exact zl i nd (G.loop hl).2 (G.loop hl).1 (h _) hb e1 e2.1 e2.2 (iu rfl)
 ·by_cases g:isSet e=false
  ·rw[if_pos g];exact zl i nd (G.loop hl).2 (G.loop hl).1 (h _) hb e1 e2.1 e2.2 (iu g)
  ·rw[if_neg g];exact bE
def Ab(c:Ct)(f:Expr->GE):Expr->GS
 | .Call (.Name x _) (e::es) [] _=>if okN x=true/\(e::es).all plain=true/\c.names.lookup x=some .globalImplicit/\c.clss.contains x=true/\c.free=true then jh x (kE f (e::es)) else b_
 | _=>b_
theorem GC{c:Ct}{k:Nat}(G:Good c k X){f:Expr->GE}(h:∀e,JE X e (f e))(e:Expr)(pos:Pos):JS X (.Raise (some e) none pos) (Ab c f e):=by
 unfold Ab
 split
 ·rename_i x p e es q
  by_cases g:okN x=true/\(e::es).all plain=true/\c.names.lookup x=some .globalImplicit/\c.clss.contains x=true/\c.free=true
  ·rw[if_pos g]
   obtain⟨g1,g2,g3,g4,g5⟩:=g
   have hg:Gl X x:=by
    show X.env.scope.names.lookup x=_
    rw[G.sc];exact g3
   have gp:plain e=true/\es.all plain=true:=by rw[dh,cz] at g2;exact g2
   obtain⟨C,q1,q2⟩:=G.cls x g4
   exact EF (G.free g5).2 q2 hg q1 (fB h (e::es) g2) (ie g1) (aG gp.1) (f7 gp.2)
  ·rw[if_neg g];exact bE
 ·exact bE
def OC(c:Ct)(b:Ct->List Stmt->GS)(body:List Stmt):List ExceptHandler->GS
 | [.ExceptHandler (some (.Name x _)) (some n) (b0::suite) _]=>if okN x=true/\c.names.lookup x=some .globalImplicit/\c.clss.contains x=true/\c.free=true/\c.top=true then
   (match Bw c n with
   | some i=>zq (λy=>c.tc.lookup (y,x)) i (b c.Lq body) (b c.vR (b0::suite))
   | none=>b_) else b_
 | _=>b_
theorem OD{c:Ct}{k:Nat}(G:Good c k X){b:Ct->List Stmt->GS}(hb:∀c X,Good c k X->∀s,nj X s (b c s))(body:List Stmt)(hs:List ExceptHandler)(pos:Pos):JS X (.Try body hs [] [] pos) (OC c b body hs):=by
 unfold OC
 split
 ·rename_i x p n b0 suite q
  by_cases g:okN x=true/\c.names.lookup x=some .globalImplicit/\c.clss.contains x=true/\c.free=true/\c.top=true
  ·rw[if_pos g]
   obtain⟨g1,g3,g4,g5,g6⟩:=g
   have hg:Gl X x:=by
    show X.env.scope.names.lookup x=_
    rw[G.sc];exact g3
   obtain⟨D,q1,q2⟩:=G.cls x g4
   cases e1:Bw c n with
   | none=>exact bE
   | some i=>
    obtain⟨e2,e3⟩:=GB G e1
    exact Nj (G.stk g6) (by rw[G.N];exact G.nd) e2 e3 (G.free g5).2 G.tab hg q1 q2.cls (ie g1) (λpn E=>hb _ _ (G.body g5 pn E) _) λa o u pn E nx=>hb _ _ (G.suite nx pn E) _
  ·rw[if_neg g];exact bE
 ·exact bE
def qj(c:Ct):Expr->Bool
 | .Call (.Attribute (.Name x _) name apos) [] [] cpos=>decide (name="items")&&c.rL.contains x&&(apos.endLine == cpos.line)
 | _=>false
def rO(c:Ct)(f:Expr->GE)(is:List Nat)(gb:GS):Expr->GS
 | .Call (.Attribute (.Name x p) _ _) [] [] _=>(match slot c x with | some i=>uj i (rC is (jX (f (.Name x p))) gb) | none=>rC is (jX (f (.Name x p))) gb)
 | _=>b_
theorem GD{c:Ct}{k:Nat}(G:Good c k X)(gl:c.loop=true){f:Expr->GE}(h:∀e,JE X e (f e)){es:List Expr}{is:List Nat}(e1:slots c es=some is){body:List Stmt}{gb:GS}(hb:nj X body gb)(e:Expr)(g:qj c e=true){kk:Nat}{p q:Pos}:JS X (.For (.Tuple es kk p) e body [] q) (rO c f is gb e):=by
 unfold qj at g
 split at g
 ·rename_i x p1 name apos cpos
  simp only[cz,decide_eq_true_eq] at g
  obtain⟨⟨rfl,_⟩,g3⟩:=g
  have go:=Be (pos:=q) (by rw[G.N];exact G.nd) (G.loop gl).2 (G.loop gl).1 (lh G e1) (CT (es':=es) (kt:=kk) (pt:=p) (h (.Name x p1)) ⟨rfl,g3⟩) hb (λ_=>rfl)
  unfold rO
  dsimp only
  cases e2:slot c x with
  | none=>exact go
  | some i=>exact JX i go
 ·cases g
def GF(c:Ct)(f:Expr->GE)(t:Expr->GT)(b:Ct->List Stmt->GS):Stmt->GS
 | .Return (some e) _=>bR (f e)
 | .Return none _=>bR (gC .aI)
 | .Expr e _=>if C7 e=false then fe (f e) else b_
 | .If q x y _=>kH (t q) (b c x) (b c y)
 | .Assign ts v _=>Oy c f v ts
 | .For (.Name x _) e body [] _=>if c.loop=true then(match slot c x with | some i=>OA c f i (b c body) e | none=>b_) else b_
 | .For (.Tuple es _ _) e body [] _=>if c.loop=true/\isSet e=false then(match slots c es with | some is=>(if Lr c e=true then rC is (z_ c f e) (b c body) else if qj c e=true then rO c f is (b c body) e else Lj is (f e) (b c body)) | none=>b_) else b_
 | .Raise (some e) none _=>Ab c f e
 | .Try body hs [] [] _=>OC c b body hs
 | .Pass _=>bK
 | _=>b_
theorem GG{c:Ct}{k:Nat}(G:Good c k X){f:Expr->GE}{t:Expr->GT}{b:Ct->List Stmt->GS}(h:∀e,JE X e (f e))(ha:∀e,Ow X e (f e))(ht:∀e,JT X e (t e))(hb:∀c X,Good c k X->∀s,nj X s (b c s))(s:Stmt):JS X s (GF c f t b s):=by
 unfold GF
 split
 ·exact M_ (h _)
 ·exact Jk
 ·rename_i e p
  by_cases g:C7 e=false
  ·rw[if_pos g];exact Jd (h _) (vU g)
  ·rw[if_neg g];exact bE
 ·exact Rw (ht _) (hb c X G _) (hb c X G _)
 ·exact Oz G h ha _ _ _
 ·rename_i x p e body q
  by_cases g:c.loop=true
  ·rw[if_pos g]
   cases e1:slot c x with
   | none=>exact bE
   | some i=>exact OB G g h e1 (hb c X G body) e _ _
  ·rw[if_neg g];exact bE
 ·rename_i es kk p e body q
  by_cases g:c.loop=true/\isSet e=false
  ·rw[if_pos g]
   cases e1:slots c es with
   | none=>exact bE
   | some is=>
    dsimp only
    by_cases ge:Lr c e=true
    ·rw[if_pos ge];exact Be (by rw[G.N];exact G.nd) (G.loop g.1).2 (G.loop g.1).1 (lh G e1) (Gs G h es kk p e) (hb c X G body) (iu g.2)
    ·rw[if_neg ge]
     by_cases gi:qj c e=true
     ·rw[if_pos gi];exact GD G g.1 h e1 (hb c X G body) e gi
     ·rw[if_neg gi];exact Jq (by rw[G.N];exact G.nd) (G.loop g.1).2 (G.loop g.1).1 (lh G e1) (h e) (hb c X G body) (iu g.2)
  ·rw[if_neg g];exact bE
 ·exact GC G h _ _
 ·exact OD G hb _ _ _
 ·exact Jc
 ·exact bE
end
def Ac(f:Stmt->GS):List Stmt->GS
 | []=>bK
 | [s]=>f s
 | s::s'::r=>aF (f s) (Ac f (s'::r))
theorem xZ{X:Cx}{f:Stmt->GS}(h:∀s,JS X s (f s)):∀ss,nj X ss (Ac f ss)
 | []=>Ja
 | [s]=>Jb (h s)
 | s::s'::r=>Et (h s) (xZ h (s'::r))
def bA:Nat->Ct->List Stmt->GS
 | 0,_=>λ_=>b_
 | n+1,c=>Ac (GF c (mE 40 c).1 (mE 40 c).2 (bA n))
theorem om{k:Nat}:∀(n:Nat)(c:Ct)(X:Cx),Good c k X->∀ss:List Stmt,nj X ss (bA n c ss)
 | 0,_,_,_,_=>Cg
 | n+1,c,X,G,ss=>xZ (λs=>GG G (eN 40 k c X G).1 (Gz 40 c X G) (eN 40 k c X G).2 (om n) s) ss
structure Kt(K:PySem.W.Frag)(mg:Str->Option acy)(q:Str)(P:acr):Prop where
 tab:jR K q=some P
 code:∃c o vs file tf flags tg VJ text tt,PySem.W.tabIn K q=some (c,P)/\K.lookup c=some o/\o.cls= .type "code"/\o.data= .fields vs/\vs[11]? =some (.ref P)/\vs.getD 11 .none= .ref P/\vs.getD 18 .none= .str file tf/\
  vs.getD 7 .none= .int flags tg/\vs.getD 9 .none= .bool VJ/\vs.getD 10 .none= .int text tt/\c≠P
 mem:q∈du
 uniq:∀q',q'∈du->jR K q'=some P->q'=q
theorem Kt.at'{X:Cx}{q:Str}{P f:acr}{cdv:acy}(h:Kt X.K X.mg q P)(M:Fm X.K X.mg X.base)(hn:PySem.W.nsIn X.K acI q=some (some (.ref f)))(hc:Ex X.K f cdv)(e1:X.env.code=cdv)(e2:X.env.qual=q++".<locals>."):Lo X q P:=by
 obtain⟨c,o,vs,file,tf,flags,tg,VJ,text,tt,t,l,r⟩:=h.code
 refine⟨⟨c,?_,o,vs,file,tf,flags,tg,VJ,text,tt,M.1.LW _ _ l,r⟩,e2,h.tab,h.mem,h.uniq,M.2⟩
 ·obtain⟨of,lf,fd,d,cd⟩:=hc
  rw[e1,<-cd]
  unfold PySem.W.tabIn at t
  rw[hn] at t
  dsimp only at t
  rw[lf] at t
  obtain⟨oc,od,da,sl⟩:=of
  dsimp only at d
  subst d
  dsimp only at t
  cases q1:fd.code with
  | ref c2=>
   rw[q1] at t
   dsimp only at t
   split at t
   ·split at t
    ·cases t;rfl
    ·cases t
   ·cases t
  | _=>rw[q1] at t;cases t
structure GH(c:Ct)(k:Nat)(P:acw)(w:acz)(K:PySem.W.Frag)(mg:Str->Option acy)(base:Heap):Prop where
 lam:∀p L,c.lam=some (p,L)->NQ P w K mg base k p 3 L
 F3:∀x F,c.F3.lookup x=some F->YC P w K mg k c.lj x F
 Of:∀x n F,c.fns.lookup x=some (n,F)->c.VD.contains x=true->∀base,Fm K mg base->iS P w K mg base c.lj x n F
 at':c.self∈du->∃P,Kt K mg c.self P
 sk:c.sk<=k
 Og:∀x n F,c.fns.lookup x=some (n,F)->c.VE.contains x=true->iS P w K mg base c.lj x n F
theorem GH.no{c:Ct}{k:Nat}{P:acw}{w:acz}{K:PySem.W.Frag}{mg:Str->Option acy}{base:Heap}(h1:c.lam=none)(h2:c.F3=[])(h3:c.VD=[])(h4:c.self="")(h5:c.sk=0:=by rfl)(h6:c.VE=[]:=by rfl):GH c k P w K mg base :=
 ⟨(λp L e=>by rw[h1] at e;cases e),(λx F e=>by rw[h2] at e;cases e),(λx n F _ e=>by rw[h3] at e;cases e),(λe=>by rw[h4] at e;exact absurd e (by decide)),by rw[h5];exact bY _,(λx n F _ e=>by rw[h6] at e;cases e)⟩
structure Bx(c:Ct)(k:Nat)(P:acw)(w:acz)(K:PySem.W.Frag)(mg:Str->Option acy)(base:Heap):Prop where
 cst:∀x w,c.consts.lookup x=some w->F6 K mg x w
 bl:∀x,c.bl.contains x=true->mg x=none
 fns:∀x n F,c.fns.lookup x=some (n,F)->iS P w K mg base k x n F
 tab:TabOk K c.tb c.tt c.tc
 cls:∀x,c.clss.contains x=true->∃C,mg x=some (.ref C)/\Jl K x C
 zX:∀x,c.zX.contains x=true->∃C,mg x=some (.ref C)/\ClsAt K x C
 CZ:∀x kvs,c.CZ.lookup x=some kvs->CH K w mg x kvs
 yI:∀x n F,c.yI.contains x=true->c.fns.lookup x=some (n,F)->xy P w K mg base k x n F
 x:GH c k P w K mg base
theorem aO{P:acw}{w:acz}{K:PySem.W.Frag}{mg:Str->Option acy}{base:Heap}{h:Heap}{k:Nat}{c:Ct}{x:Str}{st:Stmt}{ps:List Str}{g:GS}(KX:K.In h)(NS:h.Ns acI mg)(D:bH K x st)(T:Bx c k P w K mg base)
  (S:FnScope c.N ps (defScope st))(hn:(defScope st).names=c.names)(hg:bA 30 c (defBody st)=g)
  (hb:∀(kV doc pm:acy)(an:Option acr)(cdv ct:acy)(us:List acy),us.length=ps.length->bindArgs (PySem.W.fnOf x x (defArgs st) (defBody st) (defScope st) .none kV doc pm an cdv ct) ⟨us,[]⟩=pure (ps.zip us))(hM:c.self∈du->Fm K mg base/\c.self=x:=by exact λz=>absurd (show("":Str)∈du from z) (by decide)) :
  iS P w K mg base (k+1) x ps.length (cN c.N.length g):=by
 obtain⟨f,fd,a,F⟩:=D
 refine⟨f,fd,ps,?_,PySem.W.mg_of KX NS a,F.kp,F.binds hb⟩
 subst hg
 refine Lh F S λcdv VL A outer s H E hr=>?_
 refine om (k:=k) 30 c _ ⟨rfl,hn,S.nd,Bo hr,λ_=>⟨hr,rfl⟩,λ_=>⟨rfl,Ku⟩,T.cst,T.bl,T.fns,λ_=>⟨rfl,rfl,rfl⟩,λ_ _=>rfl,S.kind,T.tab,T.cls,T.zX,T.CZ,ic.of hr,T.yI,⟨T.x.lam,T.x.F3,T.x.Of,λ_ z=>?_,T.x.sk,T.x.Og⟩,⟨_,_,_,rfl,rfl,rfl⟩,.inl hr.hd⟩ _
 obtain⟨P',L⟩:=T.x.at' z
 obtain⟨M,e⟩:=hM z
 exact⟨P',Kt.at' L M (by rw[e];exact a) VL rfl (by rw[e];rfl)⟩
theorem GJ{P:acw}{w:acz}{K:PySem.W.Frag}{mg:Str->Option acy}{base:Heap}{h:Heap}{k:Nat}{c:Ct}{x:Str}{st:Stmt}{ps:List Str}{g:GS}(KX:K.In h)(NS:h.Ns acI mg)(D:bH K x st)(T:Bx c k P w K mg base)
  (S:FnScope c.N ps (defScope st))(hn:(defScope st).names=c.names)(hg:bA 30 c.un (defBody st)=g)
  (hb:∀(kV doc pm:acy)(an:Option acr)(cdv ct:acy)(us:List acy),us.length=ps.length->bindArgs (PySem.W.fnOf x x (defArgs st) (defBody st) (defScope st) .none kV doc pm an cdv ct) ⟨us,[]⟩=pure (ps.zip us))(hs:c.self∉du:=by exact(show("":Str)∉du by decide)) :
  xy P w K mg base (k+1) x ps.length (cN c.N.length g):=by
 obtain⟨f,fd,a,F⟩:=D
 refine⟨f,fd,ps,?_,PySem.W.mg_of KX NS a,F.kp,F.binds hb⟩
 subst hg
 refine Vt F S λcdv A outer s H E hr hz=>?_
 exact om (k:=k) 30 c.un (JN P w K mg base c.N x (defScope st) f cdv A outer s H E) ⟨rfl,hn,S.nd,hr.u64,(λz=>by cases z),(λz=>by cases z),T.cst,T.bl,T.fns,λ_=>⟨rfl,rfl,rfl⟩,λ_ _=>rfl,S.kind,T.tab,T.cls,T.zX,T.CZ,hr,T.yI,⟨T.x.lam,T.x.F3,T.x.Of,λ_ z=>absurd z hs,T.x.sk,T.x.Og⟩,⟨_,_,_,rfl,rfl,rfl⟩,hz⟩ _
theorem Kv{P:acw}{w:acz}{K:PySem.W.Frag}{mg:Str->Option acy}{h:Heap}{k:Nat}{F:List Wv->Hs->Re Wv}{fa:acr}{st:Stmt}(KX:K.In h)(NS:h.Ns acI mg)(hmg:mg "law"=some (.ref fa))(D:bH K "law" st)
  (hp:∀(kV doc pm:acy)(an:Option acr)(cdv ct:acy)(s:acx)(u:acy),BindsTo s (PySem.W.fnOf "law" "law" (defArgs st) (defBody st) (defScope st) .none kV doc pm an cdv ct) ⟨[u],[]⟩ [("script",u)])
  (FN:∀(f:acr)(fd:acu),K2 K "law" "law" st f fd->∀base:Heap,K.In base->base.Ns acI mg->FnOk P w K mg base (CXJ P w) k f fd ["script"] (spW K 1 F)) :
  ∃fd:acu,(∀(s:acx)(u:acy),BindsTo s fd ⟨[u],[]⟩ [("script",u)])/\∀base:Heap,K.In base->base.Ns acI mg->FnOk P w K mg base (CXJ P w) k fa fd ["script"] (spW K 1 F):=by
 obtain⟨f,fd,a,Fu⟩:=D
 have e:=hmg.symm.trans (PySem.W.mg_of KX NS a)
 cases e
 refine⟨fd,λs u=>?_,FN fa fd Fu⟩
 obtain⟨oc,od,kV,doc,pm,an,cdv,ct,osl,rfl,lk,hcd⟩:=Fu.ex
 exact hp kV doc pm an cdv ct s u
theorem OE{P:acw}{w:acz}{K:PySem.W.Frag}{mg:Str->Option acy}{base:Heap}{k:Nat}{c:Ct}{x:Str}{st:Stmt}{ps:List Str}{g:GS}{f:acr}{fd:acu}(F:K2 K x x st f fd)(T:Bx c k P w K mg base)
  (S:FnScope c.N ps (defScope st))(hn:(defScope st).names=c.names)(hg:bA 30 c (defBody st)=g)(hs:c.self∉du:=by exact(show("":Str)∉du by decide)):FnOk P w K mg base (CXJ P w) (k+1) f fd ps (spW K ps.length (cN c.N.length g)):=by
 subst hg
 refine Lh F S λcdv _ A outer s H E hr=>?_
 exact om (k:=k) 30 c _ ⟨rfl,hn,S.nd,Bo hr,λ_=>⟨hr,rfl⟩,λ_=>⟨rfl,Ku⟩,T.cst,T.bl,T.fns,λ_=>⟨rfl,rfl,rfl⟩,λ_ _=>rfl,S.kind,T.tab,T.cls,T.zX,T.CZ,ic.of hr,T.yI,⟨T.x.lam,T.x.F3,T.x.Of,λ_ z=>absurd z hs,T.x.sk,T.x.Og⟩,⟨_,_,_,rfl,rfl,rfl⟩,.inl hr.hd⟩ _
def AllP{α:Type}(P:α->Prop):List α->Prop
 | []=>True
 | a::l=>P a/\AllP P l
theorem AllP.look{κ β:Type}[BEq κ][LawfulBEq κ]{P:κ×β->Prop}:∀{l:List (κ×β)}{x:κ}{b:β},AllP P l->l.lookup x=some b->P (x,b)
 | [],_,_,_,h=>by cases h
 | (y,c)::l,x,b,a,h=>by
  rw[fq] at h
  cases e:x == y with
  | true=>
   rw[e] at h
   cases h
   have e':=eq_of_beq e
   subst e'
   exact a.1
  | false=>rw[e] at h;exact AllP.look a.2 h
theorem AllP.mem{P:Str->Prop}:∀{l:List Str}{x:Str},AllP P l->l.contains x=true->P x
 | [],_,_,h=>by cases h
 | y::l,x,a,h=>by
  rw[zm,Bool.or_eq_true] at h
  rcases h with e | h
  ·have e':=eq_of_beq e
   subst e'
   exact a.1
  ·exact AllP.mem a.2 h
theorem oo{K:PySem.W.Frag}{c:PySem.Str}{C D:acr}(h:ClsAt K c C)(k:ClsAt K c D):C=D:=by
 unfold ClsAt at h k
 rw[h] at k
 cases k
 rfl
theorem OF{K:PySem.W.Frag}{tb:Tab}{tt:sF}{tc:Tab}(h:AllP (λp=>∃C D,ClsAt K p.1.1 C/\ClsAt K p.1.2 D/\jB K C/\PySem.W.kitOne K (.ref C) (.ref D)=some p.2) tb)
  (g:AllP (λp=>∃C,ClsAt K p.1.1 C/\jB K C/\PySem.W.kitOne K (.ref C) (.type p.1.2)=some p.2) tt)
  (f:AllP (λp=>∃C D,ClsAt K p.1.1 C/\ClsAt K p.1.2 D/\PySem.W.excIn K C vq vt=true/\PySem.W.excIn K D vq vt=true/\PySem.W.mroIn K C (.ref D)=some p.2) tc):TabOk K tb tt tc :=
 ⟨λc d b C D e hC hD=>by
  obtain⟨C',D',q1,q2,r⟩:=AllP.look h e
  cases oo hC q1
  cases oo hD q2
  exact r,λc d b C D e hC hD=>by
  obtain⟨C',D',q1,q2,r⟩:=AllP.look f e
  cases oo hC q1
  cases oo hD q2
  exact r,λc T b C e hC=>by
  obtain⟨C',q1,r⟩:=AllP.look g e
  cases oo hC q1
  exact r⟩
theorem aD{c:Ct}{k:Nat}{P:acw}{w:acz}{K:PySem.W.Frag}{mg:Str->Option acy}{base:Heap}(hc:AllP (λp=>F6 K mg p.1 p.2) c.consts)(hb:AllP (λx=>mg x=none) c.bl)(hf:AllP (λp=>iS P w K mg base k p.1 p.2.1 p.2.2) c.fns)
  (ht:TabOk K c.tb c.tt c.tc)(hk:AllP (λx=>∃C,mg x=some (.ref C)/\Jl K x C) c.clss)(hn:AllP (λx=>∃C,mg x=some (.ref C)/\ClsAt K x C) c.zX)(hd:AllP (λp=>CH K w mg p.1 p.2) c.CZ)
  (hu:AllP (λx=>∀n F,c.fns.lookup x=some (n,F)->xy P w K mg base k x n F) c.yI:=by exact trivial)(hx:GH c k P w K mg base:=by exact GH.no rfl rfl rfl rfl):Bx c k P w K mg base :=
 ⟨λ_ _ h=>hc.look h,λ_ h=>hb.mem h,λx n F h=>hf.look (b:=(n,F)) h,ht,λ_ h=>hk.mem h,λ_ h=>hn.mem h,λx kvs h=>hd.look (b:=kvs) h,λx n F h k=>hu.mem h n F k,hx⟩
def Rs.sq(r:Rs)(h:GS):Rs:=match r with
 | .nx ρ st=>h ρ st
 | r=>r
section
variable {α β:Type} {ρ ρ':b9} {st:Hs} {h g ga' gb':GS} {ga gb gc:GE} {gt gu:GT} {w:Wv} {c:PySem.Str} {f:α->Hs->Re β} {k:α->Hs->Rs} {a:α} {i:Nat}
@[simp] theorem YK:(Rs.nx ρ st).sq h=h ρ st:=rfl
@[simp] theorem YL:(Rs.rt w st).sq h= .rt w st:=rfl
@[simp] theorem YM:(Rs.bk ρ st).sq h= .bk ρ st:=rfl
@[simp] theorem YN:(Rs.ct ρ st).sq h= .ct ρ st:=rfl
@[simp] theorem VM:(Rs.err c ρ st).sq h= .err c ρ st:=rfl
@[simp] theorem VN:Rs.bad.sq h= .bad:=rfl
@[simp] theorem Kx:(Re.ok a st).bind f=f a st:=rfl
@[simp] theorem R_:(Re.err c st).bind f= .err c st:=rfl
@[simp] theorem Sa:(Re.bad:Re α).bind f= .bad:=rfl
@[simp] theorem OG:(Re.ok a st).bJ ρ k=k a st:=rfl
@[simp] theorem TY:(Re.err c st:Re α).bJ ρ k= .err c ρ st:=rfl
@[simp] theorem OH:(Re.ok a st).oH= .ok a st:=rfl
@[simp] theorem TZ:(Re.bad:Re α).oH= .bad:=rfl
@[simp] theorem T1:(Re.bad:Re α).bJ ρ k= .bad:=rfl
@[simp] theorem YO:aF g h ρ st=(g ρ st).sq h:=by unfold aF Rs.sq;cases g ρ st<;>rfl
@[simp] theorem e_next:bK ρ st= .nx ρ st:=rfl
@[simp] theorem YQ:bR ga ρ st=(ga ρ st).bJ ρ λw st'=> .rt w st':=rfl
@[simp] theorem e_expr:fe ga ρ st=(ga ρ st).bJ ρ λ_ st'=> .nx ρ st':=rfl
@[simp] theorem YR:a_ i ga ρ st=(ga ρ st).bJ ρ λw st'=> .nx (ρ.set i (some w)) st':=rfl
def VO(ga gb:GS)(ρ:b9):Bool->Hs->Rs:=λb st'=>if b=true then ga ρ st' else gb ρ st'
@[simp] theorem YS:VO g h ρ true st=g ρ st:=rfl
@[simp] theorem YT:VO g h ρ false st=h ρ st:=rfl
@[simp] theorem Sb:kH gt g h ρ st=(gt ρ st).bJ ρ (VO g h ρ):=rfl
def YU(o:Option (Option Wv))(st:Hs):Re Wv:=match o with
 | some (some w)=> .ok w st
 | _=> .bad
@[simp] theorem Sd:YU (some (some w)) st= .ok w st:=rfl
@[simp] theorem Se:af i ρ st=YU ρ[i]? st:=rfl
@[simp] theorem e_c:gC w ρ st= .ok w st:=rfl
def kB(op:hX)(gb:GE)(ρ:b9):Wv->Hs->Re Wv:=λx st1=>(gb ρ st1).bind λy st2=>(op x y st2).oH
@[simp] theorem aaO{op:hX}{x:Wv}:kB op gb ρ x st=(gb ρ st).bind λy st2=>(op x y st2).oH:=rfl
@[simp] theorem YV{op:hX}:ag op ga gb ρ st=(ga ρ st).bind (kB op gb ρ):=rfl
@[simp] theorem YW:cU ga ρ st=(ga ρ st).bind Qh:=rfl
@[simp] theorem YX{b:Bool}:Qh (.bl b) st= .ok b st:=rfl
@[simp] theorem YY:iJ ga ρ st=(ga ρ st).bind Nb:=rfl
@[simp] theorem VP{b:Bool}:Nb (.bl b) st= .ok b st:=rfl
@[simp] theorem YZ:vh gt ρ st=(gt ρ st).bind λb st1=> .ok (!b) st1:=rfl
def OI(gb:GT)(ρ:b9):Bool->Hs->Re Bool:=λb st1=>if b=true then gb ρ st1 else .ok false st1
@[simp] theorem VQ:OI gu ρ true st=gu ρ st:=rfl
@[simp] theorem VR:OI gu ρ false st= .ok false st:=rfl
@[simp] theorem Y0:Ei gt gu ρ st=(gt ρ st).bind (OI gu ρ):=rfl
def VS(gb:GT)(ρ:b9):Bool->Hs->Re Bool:=λb st1=>if b=true then .ok true st1 else gb ρ st1
@[simp] theorem Y1:VS gu ρ true st= .ok true st:=rfl
@[simp] theorem Y2:VS gu ρ false st=gu ρ st:=rfl
@[simp] theorem aaP:AX gt gu ρ st=(gt ρ st).bind (VS gu ρ):=rfl
def GK(gb:GE)(ρ:b9):Wv->Hs->Re Wv:=λw st1=>match w with
 | .bl true=>gb ρ st1
 | .bl false=> .ok (.bl false) st1
 | _=> .bad
@[simp] theorem T3:GK gb ρ (.bl true) st=gb ρ st:=rfl
@[simp] theorem T4:GK gb ρ (.bl false) st= .ok (.bl false) st:=rfl
@[simp] theorem VT:iW ga gb ρ st=(ga ρ st).bind (GK gb ρ):=rfl
def Ls:Wv->Hs->Re Wv:=λw st1=>match w with
 | .bl b=> .ok (.bl (!b)) st1
 | _=> .bad
@[simp] theorem T5{b:Bool}:Ls (.bl b) st= .ok (.bl (!b)) st:=rfl
@[simp] theorem VU:w4 ga ρ st=(ga ρ st).bind Ls:=rfl
@[simp] theorem Y3:aq ρ st= .ok [] st:=rfl
def Lu(gr:GA)(ρ:b9):Wv->Hs->Re (List Wv):=λx st1=>(gr ρ st1).bind λxs st2=> .ok (x::xs) st2
@[simp] theorem T6{gr:GA}{x:Wv}:Lu gr ρ x st=(gr ρ st).bind λxs st2=> .ok (x::xs) st2:=rfl
@[simp] theorem VV{gr:GA}:ae ga gr ρ st=(ga ρ st).bind (Lu gr ρ):=rfl
def C9:List Wv->Hs->Re Wv:=λws st1=>if ws.length<=lim then .ok (.tup ws) st1 else .bad
theorem vW{ws:List Wv}(hl:ws.length<=lim):C9 ws st= .ok (.tup ws) st:=if_pos hl
@[simp] theorem Y4{gr:GA}:bO gr ρ st=(gr ρ st).bind C9:=rfl
def jE:List Wv->Hs->Re Wv:=λws st1=>if ws.length<=lim then .ok (.ref st1.length) (st1++[.lst ws]) else .bad
theorem dk{ws:List Wv}(hl:ws.length<=lim):jE ws st= .ok (.ref st.length) (st++[.lst ws]):=if_pos hl
@[simp] theorem Y5{gr:GA}:eJ gr ρ st=(gr ρ st).bind jE:=rfl
section
variable {x x0 x1 x2 x3 x4 x5 x6 x7:Wv}
@[simp] theorem VW:C9 [] st= .ok (.tup []) st:=vW (by simp[lim])
@[simp] theorem VX:C9 [x0] st= .ok (.tup [x0]) st:=vW (by simp[lim])
@[simp] theorem VY:C9 [x0,x1] st= .ok (.tup [x0,x1]) st:=vW (by simp[lim])
@[simp] theorem VZ:C9 [x0,x1,x2,x3] st= .ok (.tup [x0,x1,x2,x3]) st:=vW (by simp[lim])
@[simp] theorem V6:jE [] st= .ok (.ref st.length) (st++[.lst []]):=dk (by simp[lim])
@[simp] theorem V7:jE [x0] st= .ok (.ref st.length) (st++[.lst [x0]]):=dk (by simp[lim])
@[simp] theorem Ad:jE [x0,x1] st= .ok (.ref st.length) (st++[.lst [x0,x1]]):=dk (by simp[lim])
@[simp] theorem Ae:jE [x0,x1,x2,x3] st= .ok (.ref st.length) (st++[.lst [x0,x1,x2,x3]]):=dk (by simp[lim])
@[simp] theorem OJ:jE [x0,x1,x2,x3,x4] st= .ok (.ref st.length) (st++[.lst [x0,x1,x2,x3,x4]]):=dk (by simp[lim])
end
def ux(n:Nat)(F:List Wv->Hs->Re Wv):List Wv->Hs->Re Wv:=λws st1=>if ws.length=n then F ws st1 else .bad
section
variable {F:List Wv->Hs->Re Wv} {x0 x1 x2 x3:Wv} {gr:GA}
@[simp] theorem T7:ux 1 F [x0] st=F [x0] st:=rfl
@[simp] theorem T8:ux 2 F [x0,x1] st=F [x0,x1] st:=rfl
@[simp] theorem T9:ux 3 F [x0,x1,x2] st=F [x0,x1,x2] st:=rfl
@[simp] theorem T_:ux 4 F [x0,x1,x2,x3] st=F [x0,x1,x2,x3] st:=rfl
@[simp] theorem V8{n:Nat}:aK n F gr ρ st=(gr ρ st).bind (ux n F):=rfl
@[simp] theorem Ua{op:List Wv->Hs->Re Wv}:aw op gr ρ st=(gr ρ st).bind λws st1=>(op ws st1).oH:=rfl
end
@[simp] theorem aaQ{op:Wv->Hs->Re Wv}:AW op ga ρ st=(ga ρ st).bind op:=rfl
@[simp] theorem Y6{i:Int}:h_ (.int i) st= .ok (.int (-i)) st:=rfl
@[simp] theorem Y7{i j:Int}:bQ (.int i) (.int j) st= .ok (.int (i+j)) st:=rfl
@[simp] theorem Y8{i j:Int}:jS (.int i) (.int j) st= .ok (.int (i - j)) st:=rfl
@[simp] theorem aaR{i j:Int}:oLt (.int i) (.int j) st= .ok (.bl (decide (i < j))) st:=rfl
@[simp] theorem aaS{i j:Int}:oLe (.int i) (.int j) st= .ok (.bl (decide (i<=j))) st:=rfl
@[simp] theorem aaT{i j:Int}:zg (.int i) (.int j) st= .ok (.bl (decide (j < i))) st:=rfl
@[simp] theorem aaU{i j:Int}:Tw (.int i) (.int j) st= .ok (.bl (decide (j<=i))) st:=rfl
@[simp] theorem aaV{i j:Int}:oEq (.int i) (.int j) st= .ok (.bl (i == j)) st:=rfl
@[simp] theorem OK{i j:Int}:oI (.int i) (.int j) st= .ok (.bl (!(i == j))) st:=rfl
@[simp] theorem aaW{i j:PySem.Str}:oEq (.str i) (.str j) st= .ok (.bl (i == j)) st:=rfl
@[simp] theorem aaX{i j:PySem.Str}:oI (.str i) (.str j) st= .ok (.bl (!(i == j))) st:=rfl
@[simp] theorem aaY{i j:Bool}:oEq (.bl i) (.bl j) st= .ok (.bl (i == j)) st:=by cases i<;>cases j<;>rfl
@[simp] theorem aaZ{i j:Bool}:oI (.bl i) (.bl j) st= .ok (.bl (!(i == j))) st:=by cases i<;>cases j<;>rfl
theorem e_{i j:Int}(h:j≠0/\j.natAbs.log2 < 9000):cA (.int i) (.int j) st= .ok (.int (i.fdiv j)) st:=by show(if _ then _ else _)=_;rw[if_pos h]
theorem c_{i j:Int}(h:j≠0):oMod (.int i) (.int j) st= .ok (.int (i.fmod j)) st:=by show(if _ then _ else _)=_;rw[if_pos h]
theorem Lv{i j:Int}(h:IntMulOk i j):bM (.int i) (.int j) st= .ok (.int (i * j)) st:=by show(if _ then _ else _)=_;rw[if_pos h]
theorem pH{i j:Int}(h1:-(2 ^ 64) < i)(h2:i < 2 ^ 64):bM (.int i) (.int j) st= .ok (.int (i * j)) st:=Lv (IntMulOk.of_left (intBits_le_64 h1 h2))
theorem mul_r{i j:Int}(h1:-(2 ^ 64) < j)(h2:j < 2 ^ 64):bM (.int i) (.int j) st= .ok (.int (i * j)) st:=Lv (IntMulOk.of_right (intBits_le_64 h1 h2))
theorem GL{i j:Int}(h:0<=j/\j<=1000000/\i.natAbs < 2 ^ 64):kF (.int i) (.int j) st= .ok (.int (i ^ j.toNat)) st:=by show(if _ then _ else _)=_;rw[if_pos h]
theorem x8{l:Nat}{i:Int}{ws:List Wv}{v:Wv}(h:ao st l=some ws)(h2:mv ws i=some v):bU (.ref l) (.int i) st= .ok v st:=by
 show(match ao st l with | some ws=>(match mv ws i with | some w=>Re.ok w st | none=> .bad) | none=> .bad)=_
 rw[h]
 dsimp only
 rw[h2]
theorem add_l{l k:Nat}{xs ys:List Wv}(h1:ao st l=some xs)(h2:ao st k=some ys)(hl:xs.length+ys.length<=lim):bQ (.ref l) (.ref k) st= .ok (.ref st.length) (st++[.lst (xs++ys)]):=by
 show(match ao st l,ao st k with | some i,some j=>if i.length+j.length<=lim then Re.ok (Wv.ref st.length) (st++[Ob.lst (i++j)]) else .bad | _,_=> .bad)=_
 rw[h1,h2]
 exact if_pos hl
theorem oU{i:Int}{ws:List Wv}{v:Wv}(h2:mv ws i=some v):bU (.tup ws) (.int i) st= .ok v st:=by
 show(match mv ws i with | some w=>Re.ok w st | none=> .bad)=_
 rw[h2]
end
theorem dF{n:Nat}{g:GS}{ws:List Wv}{st st':Hs}{w:Wv}(h:g (ws.map some++ar (n - ws.length) none) st= .rt w st'):cN n g ws st= .ok w st':=by unfold cN;rw[h]
section
variable {ρ:b9} {st:Hs} {ga gb gc:GE} {gl gh:GO}
def Y9(gl gh:GO)(ρ:b9):Wv->Hs->Re Wv:=λx st1=>(gl ρ st1).bind λlo st2=>(gh ρ st2).bind λhi st3=>sI x lo hi st3
@[simp] theorem Ub:dY ga gl gh ρ st=(ga ρ st).bind (Y9 gl gh ρ):=rfl
@[simp] theorem Y_{x:Wv}:Y9 gl gh ρ x st=(gl ρ st).bind λlo st2=>(gh ρ st2).bind λhi st3=>sI x lo hi st3:=rfl
@[simp] theorem Sf:fo ρ st= .ok none st:=rfl
def Lw:Wv->Hs->Re (Option Int):=λw st1=>match w with
 | .int i=> .ok (some i) st1
 | _=> .bad
@[simp] theorem V9:jA ga ρ st=(ga ρ st).bind Lw:=rfl
@[simp] theorem Uc{i:Int}:Lw (.int i) st= .ok (some i) st:=rfl
theorem Ky{l:Nat}{ws:List Wv}{lo hi:Option Int}(h:ao st l=some ws):sI (.ref l) lo hi st= .ok (.ref st.length) (st++[.lst (ml ws lo hi)]):=by
 show(match ao st l with | some ws=>Re.ok (Wv.ref st.length) (st++[Ob.lst (ml ws lo hi)]) | none=> .bad)=_
 rw[h]
theorem By{l:Nat}{ws:List Wv}(h:ao st l=some ws):gS [.ref l] st= .ok (.int ws.length) st:=by
 show(match ao st l with | some ws=>Re.ok (Wv.int ws.length) st | none=> .bad)=_
 rw[h]
def GN(op':hX)(gc:GE)(y:Wv)(ρ:b9):Wv->Hs->Re Wv:=λz st3=>match z with
 | .bl true=>(gc ρ st3).bind λu AV=>(op' y u AV).oH
 | .bl false=> .ok (.bl false) st3
 | _=> .bad
@[simp] theorem V_{op':hX}{y:Wv}:GN op' gc y ρ (.bl true) st=(gc ρ st).bind λu AV=>(op' y u AV).oH:=rfl
@[simp] theorem V'{op':hX}{y:Wv}:GN op' gc y ρ (.bl false) st= .ok (.bl false) st:=rfl
@[simp] theorem Ud{op op':hX}:jg op op' ga gb gc ρ st=(ga ρ st).bind λx st1=>(gb ρ st1).bind λy st2=>(op x y st2).oH.bind (GN op' gc y ρ):=rfl
def Sh(op' C_:hX)(gc gd:GE)(y:Wv)(ρ:b9):Wv->Hs->Re Wv:=λz st3=>match z with
 | .bl true=>(gc ρ st3).bind λu AV=>(op' y u AV).oH.bind (GN C_ gd u ρ)
 | .bl false=> .ok (.bl false) st3
 | _=> .bad
@[simp] theorem Wa{op' C_:hX}{gd:GE}{y:Wv}:Sh op' C_ gc gd y ρ (.bl true) st=(gc ρ st).bind λu AV=>(op' y u AV).oH.bind (GN C_ gd u ρ):=rfl
@[simp] theorem Wb{op' C_:hX}{gd:GE}{y:Wv}:Sh op' C_ gc gd y ρ (.bl false) st= .ok (.bl false) st:=rfl
def Dd(cat:PySem.Str->Option Bool)(i:Nat)(gs:GS)(r:Rs):Rs:=match r with
 | .err c ρ' st'=>(match cat c with
  | some true=>(match gs (ρ'.set i (some (.mK c))) st' with
   | .nx ρ2 st2=> .nx (ρ2.set i none) st2
   | .rt w st2=> .rt w st2
   | _=> .bad)
  | _=> .bad)
 | r=>r
@[simp] theorem Y'{cat:PySem.Str->Option Bool}{i:Nat}{g gs:GS}:zq cat i g gs ρ st=Dd cat i gs (g ρ st):=by
 unfold zq Dd
 cases g ρ st<;>rfl
@[simp] theorem Ue{cat:PySem.Str->Option Bool}{i:Nat}{gs:GS}:Dd cat i gs (.nx ρ st)= .nx ρ st:=rfl
@[simp] theorem Ug{cat:PySem.Str->Option Bool}{i:Nat}{gs:GS}{w:Wv}:Dd cat i gs (.rt w st)= .rt w st:=rfl
def Lx(cat:PySem.Str->Option Bool)(gs:GS)(r:Rs):Rs:=match r with
 | .err c ρ' st'=>(match cat c with
  | some true=>(match gs ρ' st' with
   | .nx ρ2 st2=> .nx ρ2 st2
   | .rt w st2=> .rt w st2
   | _=> .bad)
  | _=> .bad)
 | r=>r
@[simp] theorem Si{cat:PySem.Str->Option Bool}{gs:GS}:Lx cat gs (.nx ρ st)= .nx ρ st:=rfl
@[simp] theorem Sj{cat:PySem.Str->Option Bool}{gs:GS}{w:Wv}:Lx cat gs (.rt w st)= .rt w st:=rfl
theorem x9{cat:PySem.Str->Option Bool}{i:Nat}{gs:GS}{c:PySem.Str}{ρ2:b9}{st2:Hs}(h:cat c=some true)(k:gs (ρ.set i (some (.mK c))) st= .nx ρ2 st2):Dd cat i gs (.err c ρ st)= .nx (ρ2.set i none) st2:=by
 unfold Dd
 simp only[h,k]
end
theorem ax{st:Hs}{ws:List Wv}:ao (st++[.lst ws]) st.length=some ws:=by unfold ao;simp
theorem dZ{st:Hs}{o:Ob}{l:Nat}{ws:List Wv}(h:ao st l=some ws):ao (st++[o]) l=some ws:=by
 have hl:l < st.length:=by
  unfold ao at h
  cases e:st[l]? with
  | none=>rw[e] at h;cases h
  | some o=>exact(List.getElem?_eq_some_iff.mp e).1
 unfold ao at h ⊢
 rw[fX hl]
 exact h
theorem oq{st:Hs}{l:Nat}{ws:List Wv}(h:ao st l=some ws):l < st.length:=by
 unfold ao at h
 cases e:st[l]? with
 | none=>rw[e] at h;cases h
 | some o=>exact(List.getElem?_eq_some_iff.mp e).1
def cx(l:Nat)(st st':Hs):Prop:=st.length<=st'.length/\∀k,k < st.length->k≠l->st'[k]? =st[k]?
theorem cx.refl{l:Nat}{st:Hs}:cx l st st:=⟨au _,λ_ _ _=>rfl⟩
theorem cx.trans{l:Nat}{a b c:Hs}(h:cx l a b)(k:cx l b c):cx l a c:=⟨bg h.1 k.1,λj h1 h2=>(k.2 j (bt h1 h.1) h2).trans (h.2 j h1 h2)⟩
theorem cx.push{l:Nat}{st:Hs}{o:Ob}:cx l st (st++[o]):=⟨by simp,λk h _=>fX h⟩
theorem cx.set{l:Nat}{st:Hs}{o:Ob}:cx l st (st.set l o):=⟨by simp,λk _ h=>cC (λz=>h z.symm)⟩
theorem cx.lst{l:Nat}{st st':Hs}(k:cx l st st'){j:Nat}{ws:List Wv}(h:ao st j=some ws)(hj:j≠l):ao st' j=some ws:=by
 unfold ao at h ⊢
 rw[k.2 j (oq (st:=st) (ws:=ws) (by unfold ao;exact h)) hj]
 exact h
@[simp] theorem Uh{i:Nat}{ga:GA}{gb:GS}{ρ:b9}{st:Hs}:mL i ga gb ρ st=(ga ρ st).bJ ρ λws st1=>match ws with
 | [.int j]=>if cP j then fZ i gb (bo 0 j.toNat) ρ st1 else .bad
 | _=> .bad:=rfl
@[simp] theorem Ui{i:Nat}{ga:GA}{gb:GS}{ρ:b9}{st:Hs}:vp i ga gb ρ st=(ga ρ st).bJ ρ λws st1=>match ws with
 | [.int a,.int j]=>if cP a/\cP j then fZ i gb (bo a (j - a).toNat) ρ st1 else .bad
 | _=> .bad:=rfl
@[simp] theorem Uj{c:PySem.Str}{ga:GA}{ρ:b9}{st:Hs}:jh c ga ρ st=(ga ρ st).bJ ρ λws st1=>if ws.length<=lim then .err c ρ st1 else .bad:=rfl
def Ly(mt:Wv->Wv->Hs->Re Wv)(ga:GE)(ρ:b9):Wv->Hs->Re Wv:=λo st1=>match o with
 | .ref l=>(match ao st1 l with
  | some _=>(ga ρ st1).bind λv st2=>(mt o v st2).oH
  | none=> .bad)
 | _=> .bad
@[simp] theorem OL{mt:Wv->Wv->Hs->Re Wv}{go ga:GE}{ρ:b9}{st:Hs}:iY mt go ga ρ st=(go ρ st).bind (Ly mt ga ρ):=rfl
theorem ou{mt:Wv->Wv->Hs->Re Wv}{ga:GE}{ρ:b9}{st:Hs}{l:Nat}{ws:List Wv}(h:ao st l=some ws):Ly mt ga ρ (.ref l) st=(ga ρ st).bind λv st2=>(mt (.ref l) v st2).oH:=by
 show(match ao st l with | some _=>(ga ρ st).bind λv st2=>(mt (.ref l) v st2).oH | none=> .bad)=_
 rw[h]
theorem GP{st:Hs}{l:Nat}{v:Wv}{ws:List Wv}(h:st[l]? =some (.lst ws))(hl:ws.length < lim):jV (.ref l) v st= .ok .aI (st.set l (.lst (ws++[v]))):=by
 show(match st[l]? with | some (.lst ws)=>if ws.length < lim then Re.ok Wv.aI (st.set l (.lst (ws++[v]))) else .bad | _=> .bad)=_
 rw[h]
 exact if_pos hl
def kFor(i:Nat)(gb:GS)(ρ:b9):Wv->Hs->Rs:=λw st1=>match w with
 | .ref l=>(match ao st1 l with | some ws=>forL i gb l ws ws ρ st1 | none=> .bad)
 | .tup ws=>fZ i gb ws ρ st1
 | .qN ws=>fZ i gb ws ρ st1
 | _=> .bad
@[simp] theorem Za{i:Nat}{ga:GE}{gb:GS}{ρ:b9}{st:Hs}:qV i ga gb ρ st=(ga ρ st).bJ ρ (kFor i gb ρ):=rfl
theorem rP{i:Nat}{gb:GS}{ρ:b9}{st:Hs}{l:Nat}{ws:List Wv}(h:ao st l=some ws):kFor i gb ρ (.ref l) st=forL i gb l ws ws ρ st:=by
 show(match ao st l with | some ws=>forL i gb l ws ws ρ st | none=> .bad)=_
 rw[h]
@[simp] theorem Wc{i:Nat}{gb:GS}{ρ:b9}{st:Hs}{ws:List Wv}:kFor i gb ρ (.tup ws) st=fZ i gb ws ρ st:=rfl
theorem qk{i:Nat}{gb:GS}(P:Nat->b9->Hs->Prop):∀(ws:List Wv)(k:Nat)(ρ:b9)(st:Hs),P k ρ st->
  (∀(j:Nat)(w:Wv),ws[j]? =some w->∀ρ st,P (k+j) ρ st->∃ρ' st',gb (ρ.set i (some w)) st= .nx ρ' st'/\P (k+j+1) ρ' st')->∃ρ' st',fZ i gb ws ρ st= .nx ρ' st'/\P (k+ws.length) ρ' st'
 | [],k,ρ,st,h,_=>⟨ρ,st,rfl,h⟩
 | w::r,k,ρ,st,h,step=>by
  obtain⟨ρ1,st1,e1,p1⟩:=step 0 w rfl ρ st h
  obtain⟨ρ2,st2,e2,p2⟩:=qk P r (k+1) ρ1 st1 p1 λj w hw ρ st hp=>by
   have e:k+(j+1)=k+1+j:=by omega
   have q:=step (j+1) w hw ρ st (by rw[e];exact hp)
   rw[e] at q
   exact q
  refine⟨ρ2,st2,?_,?_⟩
  ·unfold fZ
   rw[e1]
   exact e2
  ·have e:k+(w::r).length=k+1+r.length:=by simp;omega
   rw[e]
   exact p2
@[simp] theorem Wd{i:Int}{st:Hs}:t7 [.int i] st=Nk [.int i] st:=rfl
@[simp] theorem OM{cs:iK}{gi:GI}{gt:GT}{ge:GE}{ρ:b9}{st:Hs}:eM cs gi gt ge ρ st=(gi ρ st).bind (iq cs gt ge ρ):=rfl
@[simp] theorem Uk{g:GE}{ρ:b9}{st:Hs}:ft g ρ st=(g ρ st).bind xv:=rfl
@[simp] theorem We{g:GA}{ρ:b9}{st:Hs}:sG g ρ st=(g ρ st).bind xq:=rfl
@[simp] theorem Wf{g:GA}{ρ:b9}{st:Hs}:E8 g ρ st=(g ρ st).bind A5:=rfl
@[simp] theorem Wg{g:GA}{ρ:b9}{st:Hs}:VA g ρ st=(g ρ st).bind Lp:=rfl
theorem rQ{j:Int}{st:Hs}(h:cP j):xq [.int j] st= .ok (none,bo 0 j.toNat) st:=if_pos h
theorem ON{i j:Int}{st:Hs}(h:cP i)(k:cP j):A5 [.int i,.int j] st= .ok (none,bo i (j - i).toNat) st:=if_pos ⟨h,k⟩
theorem jk{l:Nat}{st:Hs}{ws:List Wv}(h:ao st l=some ws):xv (.ref l) st= .ok (some l,ws) st:=by
 show(match ao st l with | some ws=>Re.ok (some l,ws) st | none=> .bad)=_
 rw[h]
@[simp] theorem Wh{st:Hs}{z:PySem.Str}:xv (.str z) st= .ok (none,eK z) st:=rfl
@[simp] theorem Wi{st:Hs}{ws:List Wv}:xv (.tup ws) st= .ok (none,ws) st:=rfl
theorem vX{st:Hs}{acc:List Wv}{v:Wv}(h:acc.length < lim):jV (.ref st.length) v (st++[.lst acc])= .ok .aI (st++[.lst (acc++[v])]):=by
 rw[GP (ws:=acc) (by simp) h]
 congr 1
 simp
theorem mT{w:Wk}{gt:Wv->Hs->Re Bool}{ge:Wv->Hs->Re Wv}{st:Hs}{t:Wv->Bool}{f:Wv->Wv}(ck:kZ w st):∀(ws acc:List Wv),(∀v∈ws,∀acc,gt v (st++[.lst acc])= .ok (t v) (st++[.lst acc]))->
  (∀v∈ws,t v=true->∀acc,ge v (st++[.lst acc])= .ok (f v) (st++[.lst acc]))->acc.length+ws.length < lim->kY (kZ w) gt ge st.length ws (st++[.lst acc])=some (st++[.lst (acc++(ws.filter t).map f)])
 | [],acc,_,_,_=>by simp[kY]
 | v::r,acc,h1,h2,hl=>by
  have hl':acc.length+(r.length+1) < lim:=hl
  unfold kY
  rw[h1 v aR acc]
  cases e:t v with
  | false=>
   dsimp only
   rw[if_pos (qZ ck),mT ck r acc (λv hv=>h1 v (aN _ hv)) (λv hv=>h2 v (aN _ hv)) (by omega),ES (by simp[e])]
  | true=>
   dsimp only
   rw[h2 v aR e acc]
   dsimp only
   rw[vX (by omega)]
   dsimp only
   rw[if_pos (qZ ck),mT ck r (acc++[f v]) (λv hv=>h1 v (aN _ hv)) (λv hv=>h2 v (aN _ hv)) (by simp;omega),ER e]
   simp
theorem cR{cs:iK}{gt:GT}{ge:GE}{ρ:b9}{w:Wk}{st:Hs}{t:Wv->Bool}{f:Wv->Wv}(ck:kZ w st)(h1:∀v∈w.2,∀acc,gt (some v::dX cs ρ) (st++[.lst acc])= .ok (t v) (st++[.lst acc]))
  (h2:∀v∈w.2,t v=true->∀acc,ge (some v::dX cs ρ) (st++[.lst acc])= .ok (f v) (st++[.lst acc]))(hl:w.2.length < lim):iq cs gt ge ρ w st= .ok (.ref st.length) (st++[.lst ((w.2.filter t).map f)]):=by
 unfold iq
 rw[mT ck w.2 [] h1 h2 (by simpa using hl)]
 simp
theorem lp{α:Type}{ws:List α}{d:Int}(h0:0<=d)(h1:d < ws.length):∃v,L2.mv ws d=some v/\v∈ws:=by
 have hk:d.toNat < ws.length:=by omega
 have ek:d=((d.toNat:Nat):Int):=by omega
 refine⟨ws[d.toNat],?_,qh hk⟩
 have q:=L2.fj (cK hk)
 rw[<-ek] at q
 exact q
theorem fG{st:Hs}{l:Nat}{o o':Ob}(h:st[l]? =some o):(st.set l o')[l]? =some o':=iV (List.getElem?_eq_some_iff.mp h).1
theorem lq{st:Hs}{l:Nat}{o o':Ob}(h:st[l]? =some o):(st++[o'])[l]? =some o:=by rw[fX (List.getElem?_eq_some_iff.mp h).1];exact h
theorem fH{st:Hs}{l:Nat}{ws:List Wv}(h:st[l]? =some (.lst ws)):ao st l=some ws:=by unfold ao;rw[h]
theorem rR{st:Hs}{l:Nat}{o:Ob}(h:st[l]? =some o):l < st.length:=(List.getElem?_eq_some_iff.mp h).1
theorem eV{st:Hs}{o:Ob}:(st++[o])[st.length]? =some o:=by simp
theorem Bz{z:PySem.Str}{st:Hs}(h:z.length<=lim):gS [.str z] st= .ok (.int z.length) st:=by
 show(if z.length<=lim then Re.ok (Wv.int z.length) st else .bad)=_
 rw[if_pos h]
@[simp] theorem Zb{i:Int}{st:Hs}:I_ [.int i] st= .ok (.int (if i < 0 then -i else i)) st:=rfl
@[simp] theorem Lz{l:Nat}{st:Hs}{ns:List Int}(h:ao st l=some (ns.map Wv.int)):zE [.ref l] st= .ok (.int ns.sum) st:=by
 show(match ao st l with | some ws=>(match intsOf ws with | some ns=>Re.ok (Wv.int ns.sum) st | none=> .bad) | none=> .bad)=_
 rw[h]
 dsimp only
 rw[rf]
theorem ql{lo:Int}{n:Nat}{w:Wv}(h:w∈bo lo n):∃k:Int,w= .int k/\lo<=k/\k < lo+n:=by
 unfold bo at h
 obtain⟨k,hk,rfl⟩:=List.mem_map.mp h
 have:=List.mem_range.mp hk
 exact⟨lo+k,rfl,by omega,by omega⟩
theorem Af{i:Int}(h1:-1000000<=i)(h2:i<=1000000):cP i:=⟨by omega,by omega⟩
@[simp] theorem Ul{F:List Wv->Hs->Re Wv}{st:Hs}:ux 0 F [] st=F [] st:=rfl
theorem uy{w:Wk}{gt:Wv->Hs->Re Bool}{ge:Wv->Hs->Re Wv}{rr:Nat}(P:Hs->Prop)(E:Wv->Prop)(hP:∀st acc,P st->P (st.set rr (.lst acc)))(hck:∀st,P st->kZ w st) :
  ∀(ws:List Wv),(∀v∈ws,∀st acc,P st->st[rr]? =some (.lst acc)->∃st1,gt v st= .ok true st1/\P st1/\st1[rr]? =some (.lst acc)/\∃u st2,ge v st1= .ok u st2/\E u/\P st2/\st2[rr]? =some (.lst acc))->
   ∀(acc:List Wv)(st:Hs),P st->st[rr]? =some (.lst acc)->acc.length+ws.length < lim->(∀a∈acc,E a)->∃st' acc',kY (kZ w) gt ge rr ws st=some st'/\P st'/\st'[rr]? =some (.lst acc')/\(∀a∈acc',E a)/\acc'.length=acc.length+ws.length
 | [],_,acc,st,hp,hg,_,ha=>⟨st,acc,rfl,hp,hg,ha,rfl⟩
 | v::r,step,acc,st,hp,hg,hl,ha=>by
  obtain⟨st1,e1,p1,g1,u,st2,e2,hu,p2,g2⟩:=step v aR st acc hp hg
  have hl':acc.length+(r.length+1) < lim:=hl
  obtain⟨st3,Wj,f1,f2,f3,f4,f5⟩:=uy P E hP hck r (λv hv=>step v (aN _ hv)) (acc++[u]) (st2.set rr (.lst (acc++[u]))) (hP _ _ p2) (fG g2) (by simp;omega) (by
   intro a h
   rcases List.mem_append.mp h with z | z
   ·exact ha a z
   ·simp at z;rw[z];exact hu)
  refine⟨st3,Wj,?_,f2,f3,f4,?_⟩
  ·unfold kY
   rw[e1]
   dsimp only
   rw[e2]
   dsimp only
   rw[GP g2 (by omega)]
   dsimp only
   rw[if_pos (hck _ (hP _ _ p2)),f1]
  ·rw[f5];simp;omega
def Gr(st st':Hs):Prop:=st.length<=st'.length/\∀k,k < st.length->st'[k]? =st[k]?
theorem Gr.refl{st:Hs}:Gr st st:=⟨au _,λ_ _=>rfl⟩
theorem Gr.trans{a b c:Hs}(h:Gr a b)(k:Gr b c):Gr a c:=⟨bg h.1 k.1,λj h1=>(k.2 j (bt h1 h.1)).trans (h.2 j h1)⟩
theorem Gr.push{st:Hs}{o:Ob}:Gr st (st++[o]):=⟨by simp,λk h=>fX h⟩
theorem Gr.app{st xs:Hs}:Gr st (st++xs):=⟨by simp,λk h=>fX h⟩
theorem Gr.lst{st st':Hs}(k:Gr st st'){j:Nat}{ws:List Wv}(h:ao st j=some ws):ao st' j=some ws:=by
 unfold ao at h ⊢
 rw[k.2 j (oq (st:=st) (ws:=ws) (by unfold ao;exact h))]
 exact h
theorem Gr.get{st st':Hs}(k:Gr st st'){j:Nat}{o:Ob}(h:st[j]? =some o):st'[j]? =some o:=by rw[k.2 j (rR h)];exact h
theorem Gr.keep{st st':Hs}{l:Nat}(k:Gr st st'):cx l st st':=⟨k.1,λj h _=>k.2 j h⟩
theorem Gr.mU{st s1 s2:Hs}{l:Nat}(h:st.length<=l)(g:Gr st s1)(k:cx l s1 s2):Gr st s2:=⟨bg g.1 k.1,λj h1=>(k.2 j (bt h1 g.1) (by omega)).trans (g.2 j h1)⟩
theorem jF{α:Type}(f:α->Wv){i:Nat}{gb:GS}{l:Nat}{all:List Wv}(full:List α)(P:List α->b9->Hs->Prop)
  (step:∀a pre post ρ st,full=pre++a::post->P pre ρ st->ao st l=some all->∃ρ' st',gb (ρ.set i (some (f a))) st= .nx ρ' st'/\ao st' l=some all/\P (pre++[a]) ρ' st') :
  ∀(post pre:List α)(ρ:b9)(st:Hs),full=pre++post->P pre ρ st->ao st l=some all->∃ρ' st',forL i gb l all (post.map f) ρ st= .nx ρ' st'/\P full ρ' st'/\ao st' l=some all
 | [],pre,ρ,st,hf,h,hl=>⟨ρ,st,rfl,by rw[hf];simpa using h,hl⟩
 | a::r,pre,ρ,st,hf,h,hl=>by
  obtain⟨ρ1,st1,e1,l1,p1⟩:=step a pre r ρ st hf h hl
  obtain⟨ρ2,st2,e2,p2,l2⟩:=jF f full P step r (pre++[a]) ρ1 st1 (by rw[hf];simp) p1 l1
  refine⟨ρ2,st2,?_,p2,l2⟩
  rw[ay]
  unfold forL
  rw[e1]
  simp only[if_pos l1]
  exact e2
theorem LA{i:Int}:bf (.int i) (.int i)=true:=by simp[bf]
theorem BA{x:PySem.Str}:bf (.str x) (.str x)=true:=by simp[bf]
theorem Ag{st:Hs}{x y:Wv}{d:PyData}(h1:a8 st 20 x=some d)(h2:a8 st 20 y=some d)(h:bf d d=true):oI x y st= .ok (.bl false) st:=by
 unfold oI
 rw[h1,h2]
 show Re.ok (Wv.bl (!PyData.eqv d d)) st=_
 rw[h]
 rfl
theorem LB{st:Hs}{n l:Nat}{ws:List Wv}(h:ao st l=some ws):a8 st (n+1) (.ref l)=(fm (a8 st n) ws).map vj:=by
 show(match ao st l with | some ws=>(fm (a8 st n) ws).map vj | none=>none)=_
 rw[h]
theorem De{α:Type}{f:α->Wv}{xs:List α}{lo hi:Option Int}:∃ys:List α,ml (xs.map f) lo hi=ys.map f/\ys.length<=xs.length:=by
 unfold ml
 rw[<-vY,<-lW]
 exact⟨_,rfl,by simp;omega⟩
@[simp] theorem Zc{i j:Int}{st:Hs}:RK [.int i,.int j] st= .ok (.int (if j > i then j else i)) st:=rfl
@[simp] theorem Zd{i j:Int}{st:Hs}:RL [.int i,.int j] st= .ok (.int (if j < i then j else i)) st:=rfl
open PySem L2
theorem tb_none{K:PySem.W.Frag}{H:Hp}(h1:PySem.W.nsIn K acI "form_of"=some none)(h2:PySem.W.nsIn K acI "formula_by"=some none)(h3:PySem.W.nsIn K acI "turned"=some none)(h4:PySem.W.nsIn K acI "readied_content"=some none)(h5:PySem.W.nsIn K acI "ordered"=some none):vb K H:=λq P hq e=>by
 have no:∀q,PySem.W.nsIn K acI q=some none->jR K q=none:=λq h=>by
  unfold jR PySem.W.tabIn
  rw[h]
 simp only[du,cZ,dC,or_false] at hq
 rcases hq with rfl | rfl | rfl | rfl | rfl
 ·rw[no _ h1] at e;cases e
 ·rw[no _ h2] at e;cases e
 ·rw[no _ h3] at e;cases e
 ·rw[no _ h4] at e;cases e
 ·rw[no _ h5] at e;cases e
theorem vZ{fd:acu}{ps:List Str}(us:List acy)(hl:us.length=1)(h:∀a0:acy,bindArgs fd { pos:=[a0] }=pure (ps.zip [a0])):bindArgs fd { pos:=us }=pure (ps.zip us):=match us,hl with | [a0],_=>h a0
theorem ln2{fd:acu}{ps:List Str}(us:List acy)(hl:us.length=2)(h:∀a0 a1:acy,bindArgs fd { pos:=[a0,a1] }=pure (ps.zip [a0,a1])):bindArgs fd { pos:=us }=pure (ps.zip us):=match us,hl with | [a0,a1],_=>h a0 a1
theorem Qs{fd:acu}{ps:List Str}(us:List acy)(hl:us.length=3)(h:∀a0 a1 a2:acy,bindArgs fd { pos:=[a0,a1,a2] }=pure (ps.zip [a0,a1,a2])):bindArgs fd { pos:=us }=pure (ps.zip us):=match us,hl with | [a0,a1,a2],_=>h a0 a1 a2
theorem ln4{fd:acu}{ps:List Str}(us:List acy)(hl:us.length=4)(h:∀a0 a1 a2 a3:acy,bindArgs fd { pos:=[a0,a1,a2,a3] }=pure (ps.zip [a0,a1,a2,a3])):bindArgs fd { pos:=us }=pure (ps.zip us):=match us,hl with | [a0,a1,a2,a3],_=>h a0 a1 a2 a3
end J
namespace K74
open PySem J
open L2 (defScope defBody defArgs FnScope CX0 FnOk XK Hp)
def top (i:Nat):Stmt:=PySem.Challenge.pw_onelook_k74_rows_taken_and_put.main.body.getD i (.Pass ⟨0,0,0,0⟩)
def jf:Tab:=(("BadCount","BadCount"),true)::(("BadCount","BadTable"),false)::(("BadCount","BadPlace"),false)::(("BadCount","NoRoom"),false)::(("BadCount","BadContent"),false)::(("BadCount","Full"),false)::(("BadCount","SheetError"),true)::(("BadCount","BadArea"),false)::(("BadTable","BadCount"),false)::(("BadTable","BadTable"),true)::(("BadTable","BadPlace"),false)::(("BadTable","NoRoom"),false)::(("BadTable","BadContent"),false)::(("BadTable","Full"),false)::(("BadTable","SheetError"),true)::(("BadTable","BadArea"),false)::(("Full","BadCount"),false)::(("Full","BadTable"),false)::(("Full","BadPlace"),false)::(("Full","NoRoom"),false)::(("Full","BadContent"),false)::(("Full","Full"),true)::(("Full","SheetError"),true)::(("Full","BadArea"),false)::(("BadPlace","BadCount"),false)::(("BadPlace","BadTable"),false)::(("BadPlace","BadPlace"),true)::(("BadPlace","NoRoom"),false)::(("BadPlace","BadContent"),false)::(("BadPlace","Full"),false)::(("BadPlace","SheetError"),true)::(("BadPlace","BadArea"),false)::(("BadContent","BadCount"),false)::(("BadContent","BadTable"),false)::(("BadContent","BadPlace"),false)::(("BadContent","NoRoom"),false)::(("BadContent","BadContent"),true)::(("BadContent","Full"),false)::(("BadContent","SheetError"),true)::(("BadContent","BadArea"),false)::(("BadArea","BadCount"),false)::(("BadArea","BadTable"),false)::(("BadArea","BadPlace"),false)::(("BadArea","NoRoom"),false)::(("BadArea","BadContent"),false)::(("BadArea","Full"),false)::(("BadArea","SheetError"),true)::(("BadArea","BadArea"),true)::(("NoRoom","BadCount"),false)::(("NoRoom","BadTable"),false)::(("NoRoom","BadPlace"),false)::(("NoRoom","NoRoom"),true)::(("NoRoom","BadContent"),false)::(("NoRoom","Full"),false)::(("NoRoom","SheetError"),true)::(("NoRoom","BadArea"),false)::[]
def fT:sF:=[(("BadCount","ValueError"),true),(("BadTable","ValueError"),true),(("Full","ValueError"),true),(("BadPlace","ValueError"),true),(("BadContent","ValueError"),true),(("BadArea","ValueError"),true),(("NoRoom","ValueError"),true)]
def Ah:Tab:=[(("BadCount","SheetError"),true),(("BadTable","SheetError"),true),(("Full","SheetError"),true),(("BadPlace","SheetError"),true),(("BadContent","SheetError"),true),(("BadArea","SheetError"),true),(("NoRoom","SheetError"),true)]
def cB(s:Stmt)(n b:List Str)(f:List (Str×Nat×(List Wv->Hs->Re Wv))):Ct:={ N:=n,names:=(defScope s).names,consts:=[],bl:=b,fns:=f,tb:=jf,tt:=fT,tc:=Ah }
theorem lX{N P:List Str}{sc:Scope}(h:sc.kind= .function/\sc.isCoroutine=false/\sc.isGenerator=false/\N.take P.length=P)(k:N.Nodup/\(∀x∈P,sc.names.lookup x=some .local\/sc.names.lookup x=some .cell)/\∀y∈sc.names,y.2≠.free):FnScope N P sc:=⟨h.1,h.2.1,h.2.2.1,k.1,h.2.2.2,k.2.1,k.2.2⟩
abbrev j0:Stmt:=top 60
def j3:GS:=(aF (a_ 2 (ag oMod (ag bQ (ag bM (ag oMod (af 0) (gC (.int 1000000007))) (gC (.int 48271))) (ag bM (ag bM (ag bQ (af 1) (gC (.int 1))) (ag bQ (af 1) (gC (.int 1)))) (gC (.int 69621)))) (gC (.int 2147483647))))
  (bR (ag cA (ag oMod (ag bM (af 2) (af 2)) (gC (.int 2147483629))) (gC (.int 8)))))
def bN:List Wv->Hs->Re Wv:=cN 3 j3
def mV:Ct:=cB j0 ["cell","k","m"] [] []
theorem Ai:bA 30 (mV) (defBody j0)=j3:=by kernel_rfl
theorem x_:FnScope (mV).N ["cell","k"] (defScope j0):=lX ⟨rfl,rfl,rfl,rfl⟩ (by decide+kernel)
abbrev gF:Stmt:=top 61
def f9:GS:=(aF (fe (iY jV (af 3) (ag oMod (af 4) (af 1))))
  (a_ 4 (ag cA (af 4) (af 1))))
def i5:GT:=(λ_ st=> .ok true st)
def fI:GE:=(ag oMod (aK 2 bN (ae (af 1) (ae (af 0) aq))) (af 2))
def dg:GS:=(aF (a_ 3 (eJ aq))
  (aF (kH (cU (ag oEq (ag oMod (af 0) (gC (.int 2))) (gC (.int 1)))) (aF (a_ 4 (ag cA (af 0) (gC (.int 2))))
    (mL 5 (ae (af 2) aq) f9)) (a_ 3 (eM [("cell",0),("size",1)] (sG (ae (af 2) aq)) i5 fI)))
  (bR (af 3))))
def gG:List Wv->Hs->Re Wv:=cN 6 dg
def jl:Ct:=cB gF ["cell","size","many","found","rest","k"] ["range"] [("_law_mix",2,bN)]
theorem sM:bA 30 (jl) (defBody gF)=dg:=by kernel_rfl
theorem rS:FnScope (jl).N ["cell","size","many"] (defScope gF):=lX ⟨rfl,rfl,rfl,rfl⟩ (by decide+kernel)
abbrev gH:Stmt:=top 62
def i6:GT:=(λ_ st=> .ok true st)
def fJ:GE:=(ag bU (af 1) (af 0))
def gI:GS:=(aF (a_ 2 (eJ (ae (gC .aI) (ae (gC (.int 0)) (ae (gC (.int 1)) (ae (gC (.int 2)) (ae (AW h_ (gC (.int 1))) (ae (gC (.str "a")) (ae (gC (.str "b")) (ae (gC (.str "ab")) (ae (gC (.str "")) (ae (ag kF (gC (.int 10)) (gC (.int 60))) (ae (AW h_ (ag kF (gC (.int 10)) (gC (.int 60)))) (ae (gC (.str "1")) (ae (ag bM (gC (.str "x")) (gC (.int 200))) aq)))))))))))))))
  (bR (eM [("some",2)] (ft (aK 3 gG (ae (af 0) (ae (aw gS (ae (af 2) aq)) (ae (af 1) aq))))) i6 fJ)))
def gJ:List Wv->Hs->Re Wv:=cN 3 gI
def jm:Ct:=cB gH ["cell","many","some"] ["len"] [("_law_digits",3,gG)]
theorem sN:bA 30 (jm) (defBody gH)=gI:=by kernel_rfl
theorem rT:FnScope (jm).N ["cell","many"] (defScope gH):=lX ⟨rfl,rfl,rfl,rfl⟩ (by decide+kernel)
abbrev iy:Stmt:=top 63
def f_:GT:=(λ_ st=> .ok true st)
def d_:GE:=(aw mB (ae (dY (af 1) (jA (ag bM (af 0) (af 2))) (jA (ag bQ (ag bM (af 0) (af 2)) (af 2)))) aq))
def iz:GS:=(aF (a_ 3 (ag bU (ag bQ (af 0) (ag bM (eJ (ae (gC (.int 0)) aq)) (gC (.int 4)))) (af 1)))
  (aF (a_ 4 (ag bQ (gC (.int 1)) (ag oMod (af 3) (gC (.int 4)))))
  (aF (a_ 5 (ag oMod (ag cA (af 3) (gC (.int 4))) (ag bQ (af 2) (gC (.int 1)))))
  (aF (a_ 6 (dY (aw mB (ae (ag bQ (dY (eJ (ae (gC (.str "b")) (ae (gC (.str "a")) (ae (gC (.str "ab")) (ae (gC (.str "c")) aq))))) (jA (ag oMod (ag cA (af 3) (gC (.int 64))) (gC (.int 4)))) fo) (dY (eJ (ae (gC (.str "b")) (ae (gC (.str "a")) (ae (gC (.str "ab")) (ae (gC (.str "c")) aq))))) fo (jA (ag oMod (ag cA (af 3) (gC (.int 64))) (gC (.int 4)))))) aq)) fo (jA (af 4))))
  (aF (a_ 7 (aK 2 gJ (ae (aw zE (ae (dY (af 0) (jA (ag bQ (af 1) (gC (.int 1)))) fo) aq)) (ae (ag bM (af 4) (af 5)) aq))))
  (aF (a_ 8 (aw mB (ae (eM [("worths",7),("wide",4)] (sG (ae (af 5) aq)) f_ d_) aq)))
  (bR (bO (ae (af 6) (ae (af 8) aq))))))))))
def ef:List Wv->Hs->Re Wv:=cN 9 iz
def j4:Ct:=cB iy ["script","at","rows_most","cell","wide","high","heads","worths","rows"] ["tuple","sum","range"] [("_law_worths",2,gJ)]
theorem v7:bA 30 (j4) (defBody iy)=iz:=by kernel_rfl
theorem sO:FnScope (j4).N ["script","at","rows_most"] (defScope iy):=lX ⟨rfl,rfl,rfl,rfl⟩ (by decide+kernel)
abbrev iA:Stmt:=top 57
def jG:GT:=(λ_ st=> .ok true st)
def gg:GE:=(ag bU (af 1) (af 0))
def jH:GT:=(λ_ st=> .ok true st)
def gj:GE:=(jg oLe oLt (gC (.int 0)) (af 0) (aw gS (ae (af 1) aq)))
def fK:GS:=(aF (a_ 2 (ag bU (af 0) (gC (.int 1))))
  (aF (kH (vh (iJ (aw zy (ae (eM [("rows",2)] (ft (af 1)) jH gj) aq)))) (jh "BadCount" (ae (gC (.str "no number of a row")) aq)) bK)
  (aF (kH (cU (ag zg (aw gS (ae (af 1) aq)) (gC (.int 98)))) (jh "BadTable" (ae (gC (.str "more than 98 rows")) aq)) bK)
  (bR (bO (ae (ag bU (af 0) (gC (.int 0))) (ae (aw mB (ae (eM [("rows",2)] (ft (af 1)) jG gg) aq)) aq)))))))
def bF:List Wv->Hs->Re Wv:=cN 3 fK
def j5:Ct:={ cB iA ["table","numbers","rows"] ["all","len","tuple"] [] with consts:=[("MOST_ROWS",(.int 98))],clss:=["BadCount","BadTable"] }
theorem v9:bA 30 (j5) (defBody iA)=fK:=by kernel_rfl
theorem sP:FnScope (j5).N ["table","numbers"] (defScope iA):=lX ⟨rfl,rfl,rfl,rfl⟩ (by decide+kernel)
abbrev gU:Stmt:=top 64
def i7:GS:=(aF (a_ 1 (eJ aq))
  (aF (kH (iJ (aw (hJ jf fT) (ae (af 0) (ae (gC (.cls "BadCount")) aq)))) (fe (iY jV (af 1) (gC (.str "count")))) bK)
  (aF (kH (iJ (aw (hJ jf fT) (ae (af 0) (ae (gC (.cls "BadTable")) aq)))) (fe (iY jV (af 1) (gC (.str "table")))) bK)
  (aF (kH (iJ (aw (hJ jf fT) (ae (af 0) (ae (gC (.cls "BadPlace")) aq)))) (fe (iY jV (af 1) (gC (.str "place")))) bK)
  (aF (kH (iJ (aw (hJ jf fT) (ae (af 0) (ae (gC (.cls "NoRoom")) aq)))) (fe (iY jV (af 1) (gC (.str "room")))) bK)
  (aF (kH (iJ (aw (hJ jf fT) (ae (af 0) (ae (gC (.cls "BadContent")) aq)))) (fe (iY jV (af 1) (gC (.str "content")))) bK)
  (aF (kH (iJ (aw (hJ jf fT) (ae (af 0) (ae (gC (.cls "Full")) aq)))) (fe (iY jV (af 1) (gC (.str "full")))) bK)
  (bR (ag bQ (ag bU (ag bQ (af 1) (eJ (ae (gC (.str "other")) aq))) (gC (.int 0))) (aw t7 (ae (aw gS (ae (af 1) aq)) aq)))))))))))
def cD:List Wv->Hs->Re Wv:=cN 2 i7
def gW:Ct:={ cB gU ["e","marks"] ["isinstance","str","len"] [] with zX:=["BadCount","BadTable","BadPlace","NoRoom","BadContent","Full"] }
theorem ya:bA 30 (gW) (defBody gU)=i7:=by kernel_rfl
theorem v_:bA 30 (gW).un (defBody gU)=i7:=by kernel_rfl
theorem oz:FnScope (gW).N ["e"] (defScope gU):=lX ⟨rfl,rfl,rfl,rfl⟩ (by decide+kernel)
abbrev iB:Stmt:=top 65
def de:GS:=(a_ 2 (aK 2 bF (ae (af 0) (ae (af 1) aq))))
def eW:GS:=(a_ 2 (aK 1 cD (ae (af 3) aq)))
def eh:GS:=(aF (a_ 2 (gC .aI))
  (aF (zq (λy=>Ah.lookup (y,("SheetError":PySem.Str))) 3 de eW)
  (bR (af 2))))
def c9:List Wv->Hs->Re Wv:=cN 4 eh
def j6:Ct:={ cB iB ["table","numbers","told","e"] [] [("rows_taken",2,bF),("_law_word",1,cD)] with clss:=["SheetError"],yI:=["_law_word"] }
theorem wa:bA 30 (j6) (defBody iB)=eh:=by kernel_rfl
theorem sQ:FnScope (j6).N ["table","numbers"] (defScope iB):=lX ⟨rfl,rfl,rfl,rfl⟩ (by decide+kernel)
abbrev i8:Stmt:=top 54
def i9:GS:=(aF (kH (cU (ag zg (aw bI (ae (af 0) aq)) (gC (.int 200)))) (jh "Full" (ae (gC (.str "more than 200 filled cells")) aq)) bK)
  (bR (af 0)))
def cE:List Wv->Hs->Re Wv:=cN 1 i9
def lu:Ct:={ cB i8 ["sheet"] ["len"] [] with consts:=[("MOST_CELLS",(.int 200))],clss:=["Full"],rL:=["sheet"] }
theorem yb:bA 30 (lu) (defBody i8)=i9:=by kernel_rfl
theorem wb:FnScope (lu).N ["sheet"] (defScope i8):=lX ⟨rfl,rfl,rfl,rfl⟩ (by decide+kernel)
abbrev j7:Stmt:=top 14
def mW:GS:=(bR (iW (jg oLe oLt (gC (.int 0)) (ag bU (af 0) (gC (.int 0))) (gC (.int 99))) (jg oLe oLt (gC (.int 0)) (ag bU (af 0) (gC (.int 1))) (gC (.int 26)))))
def dG:List Wv->Hs->Re Wv:=cN 1 mW
def mX:Ct:={ cB j7 ["place"] [] [] with consts:=[("ROWS",(.int 99)),("COLUMNS",(.int 26))] }
theorem Aj:bA 30 (mX) (defBody j7)=mW:=by kernel_rfl
theorem yc:FnScope (mX).N ["place"] (defScope j7):=lX ⟨rfl,rfl,rfl,rfl⟩ (by decide+kernel)
abbrev iC:Stmt:=top 15
def iD:GS:=(aF (kH (vh (iJ (aK 1 dG (ae (bO (ae (af 0) (ae (af 1) aq))) aq)))) (jh "BadPlace" (ae (gC (.str "the row or the column is beyond the sheet")) aq)) bK)
  (bR (bO (ae (af 0) (ae (af 1) aq)))))
def b7:List Wv->Hs->Re Wv:=cN 2 iD
def j8:Ct:={ cB iC ["row","column"] [] [("is_place",1,dG)] with clss:=["BadPlace"] }
theorem wc:bA 30 (j8) (defBody iC)=iD:=by kernel_rfl
theorem sR:FnScope (j8).N ["row","column"] (defScope iC):=lX ⟨rfl,rfl,rfl,rfl⟩ (by decide+kernel)
abbrev fL:Stmt:=top 37
def iM:GS:=(bR (iW (jg oLe oLe (gC (.int 32)) (af 0) (gC (.int 126))) (iW (ag oI (af 0) (gC (.int 34))) (ag oI (af 0) (gC (.int 37))))))
def dH:List Wv->Hs->Re Wv:=cN 1 iM
def iN:Ct:=cB fL ["number"] [] []
theorem rV:bA 30 (iN) (defBody fL)=iM:=by kernel_rfl
theorem pN:FnScope (iN).N ["number"] (defScope fL):=lX ⟨rfl,rfl,rfl,rfl⟩ (by decide+kernel)
abbrev ei:Stmt:=top 36
def gX:GT:=(λ_ st=> .ok true st)
def dI:GE:=(aK 1 dH (ae (aw JQ (ae (af 0) aq)) aq))
def gn:GS:=(bR (aw zy (ae (eM [] (ft (af 0)) gX dI) aq)))
def cS:List Wv->Hs->Re Wv:=cN 1 gn
def gq:Ct:=cB ei ["text"] ["all","ord"] [("is_text_sign",1,dH)]
theorem oV:bA 30 (gq) (defBody ei)=gn:=by kernel_rfl
theorem oA:FnScope (gq).N ["text"] (defScope ei):=lX ⟨rfl,rfl,rfl,rfl⟩ (by decide+kernel)
abbrev lY:Stmt:=top 35
def jI:GS:=(bR (iW (aw (hJ jf fT) (ae (af 0) (ae (gC (.ty "str")) aq))) (iW (ag oLe (aw gS (ae (af 0) aq)) (gC (.int 40))) (aK 1 cS (ae (af 0) aq)))))
def et:List Wv->Hs->Re Wv:=cN 1 jI
def oW:Ct:={ cB lY ["thing"] ["isinstance","str","len"] [("has_text_signs",1,cS)] with consts:=[("MOST_SIGNS",(.int 40))] }
theorem Df:bA 30 (oW) (defBody lY)=jI:=by kernel_rfl
theorem Ak:FnScope (oW).N ["thing"] (defScope lY):=lX ⟨rfl,rfl,rfl,rfl⟩ (by decide+kernel)
abbrev j9:Stmt:=top 34
def j_:GS:=(bR (iW (aw (hJ jf fT) (ae (af 0) (ae (gC (.ty "int")) aq))) (w4 (aw (hJ jf fT) (ae (af 0) (ae (gC (.ty "bool")) aq))))))
def fb:List Wv->Hs->Re Wv:=cN 1 j_
def mY:Ct:=cB j9 ["thing"] ["isinstance","int","bool"] []
theorem Al:bA 30 (mY) (defBody j9)=j_:=by kernel_rfl
theorem yd:FnScope (mY).N ["thing"] (defScope j9):=lX ⟨rfl,rfl,rfl,rfl⟩ (by decide+kernel)
abbrev j':Stmt:=top 45
def mZ:GS:=(bR (ag zg (aw I_ (ae (af 0) aq)) (ag kF (gC (.int 10)) (gC (.int 60)))))
def iO:List Wv->Hs->Re Wv:=cN 1 mZ
def m8:Ct:=cB j' ["number"] ["abs"] []
theorem Am:bA 30 (m8) (defBody j')=mZ:=by kernel_rfl
theorem ye:FnScope (m8).N ["number"] (defScope j'):=lX ⟨rfl,rfl,rfl,rfl⟩ (by decide+kernel)
abbrev i_:Stmt:=top 53
def ja:GS:=(bR (iW (aK 1 fb (ae (af 0) aq)) (w4 (aK 1 iO (ae (af 0) aq)))))
def dJ:List Wv->Hs->Re Wv:=cN 1 ja
def lx:Ct:=cB i_ ["content"] [] [("is_whole",1,fb),("is_great",1,iO)]
theorem yf:bA 30 (lx) (defBody i_)=ja:=by kernel_rfl
theorem we:FnScope (lx).N ["content"] (defScope i_):=lX ⟨rfl,rfl,rfl,rfl⟩ (by decide+kernel)
abbrev fM:Stmt:=top 52
def dM:GS:=(aF (kH (iJ (aw (hJ jf fT) (ae (af 0) (ae (gC (.ty "tuple")) aq)))) (bR cO) bK)
  (aF (kH (Ei (vh (iJ (aK 1 et (ae (af 0) aq)))) (vh (iJ (aK 1 dJ (ae (af 0) aq))))) (jh "BadContent" (ae (gC (.str "a number or a text beyond the bounds")) aq)) bK)
  (bR (af 0))))
def bP:List Wv->Hs->Re Wv:=cN 1 dM
def iP:Ct:={ cB fM ["content"] ["isinstance","tuple"] [("is_text",1,et),("is_number",1,dJ)] with clss:=["BadContent"] }
theorem rW:bA 30 (iP) (defBody fM)=dM:=by kernel_rfl
theorem pO:FnScope (iP).N ["content"] (defScope fM):=lX ⟨rfl,rfl,rfl,rfl⟩ (by decide+kernel)
abbrev gK:Stmt:=top 51
def eO:GS:=(aF (a_ 3 (aK 2 b7 (ae (ag bU (af 1) (gC (.int 0))) (ae (ag bU (af 1) (gC (.int 1))) aq))))
  (kH (cU (ag Qi (af 2) (gC .aI))) (fe (og (af 0) (af 3) (gC .aI))) (pA (aK 1 bP (ae (af 2) aq)) (af 0) (af 3))))
def bB:List Wv->Hs->Re Wv:=cN 4 eO
def jn:Ct:={ cB gK ["sheet","place","content","made"] [] [("made_place",2,b7),("made_content",1,bP)] with rL:=["sheet"] }
theorem sS:bA 30 (jn) (defBody gK)=eO:=by kernel_rfl
theorem rX:FnScope (jn).N ["sheet","place","content"] (defScope gK):=lX ⟨rfl,rfl,rfl,rfl⟩ (by decide+kernel)
abbrev iE:Stmt:=top 48
def df:GS:=(fe (aK 3 bB (ae (af 1) (ae (ag bU (af 2) (gC (.int 0))) (ae (ag bU (af 2) (gC (.int 1))) aq)))))
def ka:GS:=(aF (a_ 1 xw)
  (aF (qV 2 (af 0) df)
  (bR (aK 1 cE (ae (af 1) aq)))))
def fN:List Wv->Hs->Re Wv:=cN 3 ka
def kc:Ct:={ cB iE ["cells","sheet","cell"] [] [("with_room",1,cE),("put_content",3,bB)] with rL:=["sheet"] }
theorem wg:bA 30 (kc) (defBody iE)=ka:=by kernel_rfl
theorem sU:FnScope (kc).N ["cells"] (defScope iE):=lX ⟨rfl,rfl,rfl,rfl⟩ (by decide+kernel)
abbrev iF:Stmt:=top 69
def hR:GS:=(fe (iY jV (af 1) (bO (ae (bO (ae (ag oMod (ag bQ (aK 2 bN (ae (af 0) (ae (gC (.int 3)) aq))) (af 3)) (gC (.int 99))) (ae (ag oMod (ag bQ (aK 2 bN (ae (af 0) (ae (gC (.int 4)) aq))) (ag cA (af 3) (gC (.int 99)))) (gC (.int 26))) aq))) (ae (ag bU (eJ (ae (af 3) (ae (gC (.str "t")) (ae (AW h_ (af 3)) aq)))) (ag oMod (af 3) (gC (.int 3)))) aq)))))
def iG:GS:=(aF (a_ 1 (eJ aq))
  (aF (a_ 2 (ag bU (eJ (ae (ag oMod (af 0) (gC (.int 13))) (ae (ag bQ (gC (.int 190)) (ag oMod (ag cA (af 0) (gC (.int 16))) (gC (.int 11)))) aq))) (aw nZ (ae (ag oEq (ag oMod (ag cA (af 0) (gC (.int 13))) (gC (.int 4))) (gC (.int 1))) aq))))
  (aF (mL 3 (ae (af 2) aq) hR)
  (bR (aK 1 fN (ae (af 1) aq))))))
def fO:List Wv->Hs->Re Wv:=cN 4 iG
def kf:Ct:=cB iF ["cell","pairs","many","k"] ["range","int"] [("made_sheet",1,fN),("_law_mix",2,bN)]
theorem wj:bA 30 (kf) (defBody iF)=iG:=by kernel_rfl
theorem sV:FnScope (kf).N ["cell"] (defScope iF):=lX ⟨rfl,rfl,rfl,rfl⟩ (by decide+kernel)
abbrev fP:Stmt:=top 50
def aP:GS:=(fe (aK 3 bB (ae (af 2) (ae (af 3) (ae (af 4) aq)))))
def fQ:GS:=(aF (a_ 2 (aw n_ (ae (af 0) aq)))
  (aF (uj 1 (rC [3,4] (jX (af 1)) aP))
  (bR (af 2))))
def cg:List Wv->Hs->Re Wv:=cN 5 fQ
def iQ:Ct:={ cB fP ["sheet","changes","turned","place","content"] ["dict"] [("put_content",3,bB)] with rL:=["sheet","turned","changes"] }
theorem rY:bA 30 (iQ) (defBody fP)=fQ:=by kernel_rfl
theorem pP:FnScope (iQ).N ["sheet","changes"] (defScope fP):=lX ⟨rfl,rfl,rfl,rfl⟩ (by decide+kernel)
abbrev iH:Stmt:=top 49
def fR:GS:=(bR (aK 1 cE (ae (aK 2 cg (ae (af 0) (ae (af 1) aq))) aq)))
def b8:List Wv->Hs->Re Wv:=cN 2 fR
def kg:Ct:={ cB iH ["sheet","changes"] [] [("with_room",1,cE),("with_changes",2,cg)] with rL:=["sheet","changes"] }
theorem wk:bA 30 (kg) (defBody iH)=fR:=by kernel_rfl
theorem sW:FnScope (kg).N ["sheet","changes"] (defScope iH):=lX ⟨rfl,rfl,rfl,rfl⟩ (by decide+kernel)
abbrev gL:Stmt:=top 20
def jo:GS:=(aF (a_ 1 (iW (ag oLe (ag bU (af 0) (gC (.int 0))) (ag bU (af 0) (gC (.int 2)))) (ag oLe (ag bU (af 0) (gC (.int 1))) (ag bU (af 0) (gC (.int 3))))))
  (bR (iW (af 1) (iW (aK 1 dG (ae (dY (af 0) fo (jA (gC (.int 2)))) aq)) (aK 1 dG (ae (dY (af 0) (jA (gC (.int 2))) fo) aq))))))
def eP:List Wv->Hs->Re Wv:=cN 2 jo
def jq:Ct:=cB gL ["area","in_order"] [] [("is_place",1,dG)]
theorem sX:bA 30 (jq) (defBody gL)=jo:=by kernel_rfl
theorem rZ:FnScope (jq).N ["area"] (defScope gL):=lX ⟨rfl,rfl,rfl,rfl⟩ (by decide+kernel)
abbrev jb:Stmt:=top 21
def ly:GS:=(bR (ag bM (ag bQ (ag jS (ag bU (af 0) (gC (.int 2))) (ag bU (af 0) (gC (.int 0)))) (gC (.int 1))) (ag bQ (ag jS (ag bU (af 0) (gC (.int 3))) (ag bU (af 0) (gC (.int 1)))) (gC (.int 1)))))
def gY:List Wv->Hs->Re Wv:=cN 1 ly
def lz:Ct:=cB jb ["area"] [] []
theorem yg:bA 30 (lz) (defBody jb)=ly:=by kernel_rfl
theorem wo:FnScope (lz).N ["area"] (defScope jb):=lX ⟨rfl,rfl,rfl,rfl⟩ (by decide+kernel)
abbrev lZ:Stmt:=top 19
def oX:GS:=(bR (iW (aK 1 eP (ae (af 0) aq)) (ag oLe (aK 1 gY (ae (af 0) aq)) (gC (.int 300)))))
def gw:List Wv->Hs->Re Wv:=cN 1 oX
def oY:Ct:={ cB lZ ["area"] [] [("has_corners",1,eP),("area_many",1,gY)] with consts:=[("MOST_PLACES",(.int 300))] }
theorem Dg:bA 30 (oY) (defBody lZ)=oX:=by kernel_rfl
theorem An:FnScope (oY).N ["area"] (defScope lZ):=lX ⟨rfl,rfl,rfl,rfl⟩ (by decide+kernel)
abbrev eu:Stmt:=top 23
def dO:GT:=(λ_ st=> .ok true st)
def cF:GE:=(bO (ae (af 1) (ae (af 0) aq)))
def cM:GS:=(fe (iY pB (af 1) (eM [("row",2)] (E8 (ae (ag bU (af 0) (gC (.int 1))) (ae (ag bQ (ag bU (af 0) (gC (.int 3))) (gC (.int 1))) aq))) dO cF)))
def eB:GS:=(aF (a_ 1 (eJ aq))
  (aF (vp 2 (ae (ag bU (af 0) (gC (.int 0))) (ae (ag bQ (ag bU (af 0) (gC (.int 2))) (gC (.int 1))) aq)) cM)
  (bR (af 1))))
def eC:List Wv->Hs->Re Wv:=cN 3 eB
def gy:Ct:=cB eu ["area","places","row"] ["range"] []
theorem oZ:bA 30 (gy) (defBody eu)=eB:=by kernel_rfl
theorem oB:FnScope (gy).N ["area"] (defScope eu):=lX ⟨rfl,rfl,rfl,rfl⟩ (by decide+kernel)
abbrev jc:Stmt:=top 18
def lA:GS:=(aF (a_ 4 (bO (ae (af 0) (ae (af 1) (ae (af 2) (ae (af 3) aq))))))
  (aF (kH (vh (iJ (aK 1 gw (ae (af 4) aq)))) (jh "BadArea" (ae (gC (.str "corners that are none, or more than 300 places")) aq)) bK)
  (bR (af 4))))
def gZ:List Wv->Hs->Re Wv:=cN 5 lA
def lB:Ct:={ cB jc ["top","left","bottom","right","area"] [] [("is_area",1,gw)] with clss:=["BadArea"] }
theorem yh:bA 30 (lB) (defBody jc)=lA:=by kernel_rfl
theorem wq:FnScope (lB).N ["top","left","bottom","right"] (defScope jc):=lX ⟨rfl,rfl,rfl,rfl⟩ (by decide+kernel)
abbrev gM:Stmt:=top 22
def gN:GS:=(bR (aK 1 eC (ae (aK 4 gZ (ae (ag bU (af 0) (gC (.int 0))) (ae (ag bU (af 0) (gC (.int 1))) (ae (ag bU (af 0) (gC (.int 2))) (ae (ag bU (af 0) (gC (.int 3))) aq))))) aq)))
def gO:List Wv->Hs->Re Wv:=cN 1 gN
def jr:Ct:=cB gM ["area"] [] [("places_between",1,eC),("made_area",4,gZ)]
theorem sY:bA 30 (jr) (defBody gM)=gN:=by kernel_rfl
theorem r9:FnScope (jr).N ["area"] (defScope gM):=lX ⟨rfl,rfl,rfl,rfl⟩ (by decide+kernel)
abbrev jd:Stmt:=top 58
def dP:GS:=(fe (iY pB (af 6) (af 7)))
def ff:GS:=(aF (a_ 3 (aK 2 b7 (ae (ag bU (af 1) (gC (.int 0))) (ae (ag bU (af 1) (gC (.int 1))) aq))))
  (aF (a_ 4 (ag bQ (eJ (ae (ag bU (af 2) (gC (.int 0))) aq)) (aw jj (ae (ag bU (af 2) (gC (.int 1))) aq))))
  (aF (a_ 5 (bO (ae (ag bU (af 3) (gC (.int 0))) (ae (ag bU (af 3) (gC (.int 1))) (ae (ag jS (ag bQ (ag bU (af 3) (gC (.int 0))) (aw bI (ae (af 4) aq))) (gC (.int 1))) (ae (ag jS (ag bQ (ag bU (af 3) (gC (.int 1))) (aw bI (ae (ag bU (af 2) (gC (.int 0))) aq))) (gC (.int 1))) aq))))))
  (aF (kH (vh (iJ (aK 1 gw (ae (af 5) aq)))) (jh "NoRoom" (ae (gC (.str "the table would go beyond the sheet, or has more than 300 places")) aq)) bK)
  (aF (a_ 6 (eJ aq))
  (aF (qV 7 (af 4) dP)
  (bR (aK 2 b8 (ae (af 0) (ae (aw rK (ae (aK 1 gO (ae (af 5) aq)) (ae (af 6) aq))) aq))))))))))
def bb:List Wv->Hs->Re Wv:=cN 8 ff
def lC:Ct:={ cB jd ["sheet","place","table","made","lines","area","worths","line"] ["list","dict","zip","len"] [("made_place",2,b7),("with_cells",2,b8),("is_area",1,gw),("area_places",1,gO)] with clss:=["NoRoom"],rL:=["sheet"] }
theorem yi:bA 30 (lC) (defBody jd)=ff:=by kernel_rfl
theorem wt:FnScope (lC).N ["sheet","place","table"] (defScope jd):=lX ⟨rfl,rfl,rfl,rfl⟩ (by decide+kernel)
abbrev kj:Stmt:=top 66
def eQ:GS:=(a_ 3 (aK 3 bb (ae (af 0) (ae (af 1) (ae (af 2) aq)))))
def gP:GS:=(a_ 3 (aK 1 cD (ae (af 4) aq)))
def gz:GS:=(aF (a_ 3 (gC .aI))
  (aF (zq (λy=>Ah.lookup (y,("SheetError":PySem.Str))) 4 eQ gP)
  (bR (af 3))))
def cj:List Wv->Hs->Re Wv:=cN 5 gz
def m_:Ct:={ cB kj ["sheet","place","table","told","e"] [] [("put_table",3,bb),("_law_word",1,cD)] with clss:=["SheetError"],rL:=["sheet"],yI:=["_law_word"] }
theorem Ao:bA 30 (m_) (defBody kj)=gz:=by kernel_rfl
theorem yj:FnScope (m_).N ["sheet","place","table"] (defScope kj):=lX ⟨rfl,rfl,rfl,rfl⟩ (by decide+kernel)
abbrev fS:Stmt:=top 68
def aQ:GS:=(aF (a_ 10 (ag bU (ag bU (af 5) (af 8)) (af 9)))
  (aF (fe (og (af 7) (bO (ae (ag bQ (af 3) (af 8)) (ae (ag bQ (af 4) (af 9)) aq))) (gC .aI)))
  (aF (kH (Ei (iJ (aw (pM jf fT) (ae (af 10) (ae (gC (.ty "str")) aq)))) (cU (ag zg (aw bI (ae (af 10) aq)) (gC (.int 40))))) (bR (gC (.str "content1"))) bK)
  (kH (cU (ag ur (af 10) (gC .aI))) (pA (af 10) (af 7) (bO (ae (ag bQ (af 3) (af 8)) (ae (ag bQ (af 4) (af 9)) aq)))) bK))))
def cG:GS:=(mL 9 (ae (af 6) aq) aQ)
def aU:GS:=(aF (t8 [3,4] (af 1))
  (aF (kH (AX (cU (ag oLt (af 3) (gC (.int 0)))) (AX (cU (ag zg (af 3) (gC (.int 98)))) (AX (cU (ag oLt (af 4) (gC (.int 0)))) (cU (ag zg (af 4) (gC (.int 25))))))) (bR (gC (.str "place1"))) bK)
  (aF (a_ 5 (ag bQ (eJ (ae (ag bU (af 2) (gC (.int 0))) aq)) (aw jj (ae (ag bU (af 2) (gC (.int 1))) aq))))
  (aF (a_ 6 (aw bI (ae (ag bU (af 2) (gC (.int 0))) aq)))
  (aF (kH (AX (cU (ag zg (ag bQ (af 3) (aw bI (ae (af 5) aq))) (gC (.int 99)))) (AX (cU (ag zg (ag bQ (af 4) (af 6)) (gC (.int 26)))) (cU (ag zg (ag bM (aw bI (ae (af 5) aq)) (af 6)) (gC (.int 300)))))) (bR (gC (.str "room1"))) bK)
  (aF (a_ 7 (aw n_ (ae (af 0) aq)))
  (aF (mL 8 (ae (aw bI (ae (af 5) aq)) aq) cG)
  (aF (kH (cU (ag zg (aw bI (ae (af 7) aq)) (gC (.int 200)))) (bR (gC (.str "full1"))) bK)
  (bR (af 7))))))))))
def aV:List Wv->Hs->Re Wv:=cN 11 aU
def iR:Ct:={ cB fS ["sheet","place","table","row","column","lines","wide","made","down","across","worth"] ["len","dict","range","list","isinstance","str"] [] with rL:=["sheet","made"] }
theorem r_:bA 30 (iR) (defBody fS)=aU:=by kernel_rfl
theorem pQ:FnScope (iR).N ["sheet","place","table"] (defScope fS):=lX ⟨rfl,rfl,rfl,rfl⟩ (by decide+kernel)
abbrev eD:Stmt:=top 70
def bV:GS:=(kH (cU (ag sL (aK 3 cj (ae (af 0) (ae (af 4) (ae (af 3) aq)))) (aK 3 aV (ae (af 0) (ae (af 4) (ae (af 3) aq)))))) (bR (gC (.bl false))) bK)
def bW:GS:=(qV 4 (eJ (ae (bO (ae (gC (.int 0)) (ae (gC (.int 0)) aq))) (ae (bO (ae (gC (.int 0)) (ae (gC (.int 1)) aq))) (ae (bO (ae (gC (.int 1)) (ae (gC (.int 0)) aq))) (ae (bO (ae (gC (.int 24)) (ae (gC (.int 22)) aq))) aq))))) bV)
def dQ:GT:=(λ_ st=> .ok true st)
def cH:GE:=(bO (ae (dY (af 1) fo (jA (gC (.int 4)))) (ae (ag bM (bO (ae (ag bM (bO (ae (gC .aI) aq)) (gC (.int 4))) aq)) (af 0)) aq)))
def dR:GT:=(λ_ st=> .ok true st)
def cI:GE:=(ag bU (gC (.str "abcdefghijklmnopqrstuvwxyz")) (af 0))
def eE:GS:=(aF (a_ 1 (aw mB (ae (eM [] (sG (ae (gC (.int 26)) aq)) dR cI) aq)))
  (aF (a_ 2 (ag bQ (eM [("heads",1)] (ft (eJ (ae (gC (.int 74)) (ae (gC (.int 75)) aq)))) dQ cH) (eJ (ae (bO (ae (af 1) (ae (bO aq) aq))) (ae (bO (ae (af 1) (ae (ag bM (bO (ae (ag bM (bO (ae (gC .aI) aq)) (gC (.int 26))) aq)) (gC (.int 10))) aq))) aq)))))
  (aF (qV 3 (ag bQ (af 2) (eJ (ae (bO (ae (af 1) (ae (ag bM (bO (ae (ag bM (bO (ae (gC (.int 1)) aq)) (gC (.int 26))) aq)) (gC (.int 11))) aq))) (ae (bO (ae (dY (af 1) fo (jA (gC (.int 1)))) (ae (ag bM (bO (ae (bO (ae (gC .aI) aq)) aq)) (gC (.int 98))) aq))) aq)))) bW)
  (bR (gC (.bl true))))))
def cT:List Wv->Hs->Re Wv:=cN 5 eE
def gA:Ct:={ cB eD ["sheet","heads","tables","table","place"] ["tuple","range"] [("_law_put",3,cj),("_law_put_due",3,aV)] with rL:=["sheet","_law_put()"] }
theorem o6:bA 30 (gA) (defBody eD)=eE:=by kernel_rfl
theorem oC:FnScope (gA).N ["sheet"] (defScope eD):=lX ⟨rfl,rfl,rfl,rfl⟩ (by decide+kernel)
abbrev eF:Stmt:=top 67
def g0:GT:=(λ_ st=> .ok true st)
def dS:GE:=(ag bU (ag bU (af 1) (gC (.int 1))) (af 0))
def dU:GT:=(AX (cU (ag oLt (af 0) (gC (.int 0)))) (cU (ag Tw (af 0) (aw gS (ae (ag bU (af 1) (gC (.int 1))) aq)))))
def dW:GE:=(af 0)
def bx:GS:=(aF (kH (cU (ag oI (eM [("table",0)] (ft (af 1)) dU dW) (eJ aq))) (bR (gC (.str "count1"))) bK)
  (aF (kH (cU (ag zg (aw gS (ae (af 1) aq)) (gC (.int 98)))) (bR (gC (.str "table1"))) bK)
  (bR (bO (ae (ag bU (af 0) (gC (.int 0))) (ae (aw mB (ae (eM [("table",0)] (ft (af 1)) g0 dS) aq)) aq))))))
def aX:List Wv->Hs->Re Wv:=cN 2 bx
def gB:Ct:=cB eF ["table","numbers"] ["len","tuple"] []
theorem o_:bA 30 (gB) (defBody eF)=bx:=by kernel_rfl
theorem oD:FnScope (gB).N ["table","numbers"] (defScope eF):=lX ⟨rfl,rfl,rfl,rfl⟩ (by decide+kernel)
abbrev BB:Stmt:=top 71
def jJ:GS:=(kH (AX (cU (ag sL (aK 3 cj (ae (af 9) (ae (af 13) (ae (af 8) aq)))) (aK 3 aV (ae (af 10) (ae (af 13) (ae (af 8) aq)))))) (cU (ag sL (af 9) (af 10)))) (bR (gC (.bl false))) bK)
def l8:GT:=(cU (ag zg (af 1) (gC (.int 0))))
def l9:GE:=(ag oMod (aK 2 bN (ae (af 2) (ae (ag bQ (gC (.int 10)) (af 0)) aq))) (ag bQ (af 1) (aw nZ (ae (ag oEq (ag oMod (ag cA (af 2) (gC (.int 200))) (gC (.int 3))) (gC (.int 0))) aq))))
def yk:GS:=(aF (a_ 1 (aK 3 ef (ae (af 0) (ae (gC (.int 0)) (ae (gC (.int 8)) aq)))))
  (aF (a_ 2 (aK 2 bN (ae (aw zE (ae (af 0) aq)) (ae (gC (.int 6)) aq))))
  (aF (a_ 3 (ag bU (eJ (ae (ag oMod (af 2) (gC (.int 12))) (ae (ag bQ (gC (.int 97)) (ag oMod (ag cA (af 2) (gC (.int 12))) (gC (.int 4)))) aq))) (aw nZ (ae (ag oEq (ag oMod (ag cA (af 2) (gC (.int 48))) (gC (.int 4))) (gC (.int 1))) aq))))
  (aF (a_ 4 (aw bI (ae (ag bU (af 1) (gC (.int 1))) aq)))
  (aF (a_ 5 (eM [("high",4),("n",2)] (sG (ae (af 3) aq)) l8 l9))
  (aF (kH (cU (ag oEq (ag oMod (ag cA (af 2) (gC (.int 600))) (gC (.int 5))) (gC (.int 0)))) (fe (CV (af 5) (ag oMod (ag cA (af 2) (gC (.int 3000))) (ag bQ (aw bI (ae (af 5) aq)) (gC (.int 1)))) (ag bU (eJ (ae (AW h_ (gC (.int 1))) (ae (af 4) (ae (ag bQ (af 4) (ag kF (gC (.int 10)) (gC (.int 20)))) (ae (AW h_ (ag kF (gC (.int 10)) (gC (.int 20)))) aq))))) (ag oMod (ag cA (af 2) (gC (.int 30))) (gC (.int 4)))))) bK)
  (aF (a_ 6 (aw jj (ae (af 5) aq)))
  (aF (a_ 7 (aK 2 c9 (ae (af 1) (ae (af 6) aq))))
  (aF (kH (AX (cU (ag oI (af 7) (aK 2 aX (ae (af 1) (ae (af 5) aq))))) (cU (ag oI (af 6) (af 5)))) (bR (gC (.bl false))) bK)
  (aF (a_ 8 (af 1))
  (aF (kH (iJ (aw (pM jf fT) (ae (af 7) (ae (gC (.ty "tuple")) aq)))) (a_ 8 (af 7)) bK)
  (aF (a_ 9 (aK 1 fO (ae (aK 2 bN (ae (af 2) (ae (gC (.int 7)) aq))) aq)))
  (aF (a_ 10 (aw n_ (ae (af 9) aq)))
  (aF (a_ 11 (aw bI (ae (ag bU (af 1) (gC (.int 0))) aq)))
  (aF (a_ 12 (eJ (ae (bO (ae (ag oMod (af 2) (gC (.int 99))) (ae (ag oMod (ag cA (af 2) (gC (.int 99))) (gC (.int 26))) aq))) (ae (bO (ae (ag jS (gC (.int 98)) (aw bI (ae (ag bU (af 8) (gC (.int 1))) aq))) (ae (ag jS (gC (.int 26)) (af 11)) aq))) (ae (bO (ae (ag jS (gC (.int 99)) (aw bI (ae (ag bU (af 8) (gC (.int 1))) aq))) (ae (ag jS (gC (.int 26)) (af 11)) aq))) (ae (bO (ae (gC (.int 99)) (ae (gC (.int 0)) aq))) aq))))))
  (aF (qV 13 (ag bQ (af 12) (eJ (ae (bO (ae (ag jS (gC (.int 98)) (aw bI (ae (ag bU (af 8) (gC (.int 1))) aq))) (ae (ag jS (gC (.int 27)) (af 11)) aq))) (ae (bO (ae (gC (.int 0)) (ae (gC (.int 0)) aq))) (ae (bO (ae (AW h_ (gC (.int 1))) (ae (gC (.int 3)) aq))) (ae (bO (ae (gC (.int 3)) (ae (gC (.int 26)) aq))) (ae (bO (ae (ag bM (af 2) (ag kF (gC (.int 10)) (gC (.int 30)))) (ae (gC (.int 0)) aq))) aq))))))) jJ)
  (bR (aK 1 cT (ae (af 9) aq)))))))))))))))))))
def F_law:List Wv->Hs->Re Wv:=cN 14 yk
def GQ:Ct:={ cB BB ["script","table","n","many","high","numbers","handed","found","some","sheet","before","wide","places","place"] ["len","list","isinstance","tuple","dict","sum","int","range"] [("_law_table",3,ef),("_law_mix",2,bN),("_law_taken",2,c9),("_law_sheet",1,fO),("_law_at_bounds",1,cT),("_law_taken_due",2,aX),("_law_put",3,cj),("_law_put_due",3,aV)] with rL:=["sheet","before","_law_put()"] }
theorem Sk:bA 30 (GQ) (defBody BB)=yk:=by kernel_rfl
theorem OO:FnScope (GQ).N ["script"] (defScope BB):=lX ⟨rfl,rfl,rfl,rfl⟩ (by decide+kernel)
abbrev S:=PySem.Str
def tI(l:List Int):Wv:=.tup (l.map Wv.int)
def Sg(c:Nat):Prop:=32<=c/\c<=126/\c≠34/\c≠37
def Ap(s:S):Prop:=s.length<=40/\∀c∈s.cps.toList,Sg c
abbrev LC:Int:=1000000000000000000000000000000000000000000000000000000000000
def cL(a b:Int):Prop:=0<=a/\a<=98/\0<=b/\b<=25
def iT(a b c d:Int):Prop:=0<=a/\a<=c/\c<=98/\0<=b/\b<=d/\d<=25/\(c - a+1) * (d - b+1)<=300
theorem Sl{x:Wv}{ws:List Wv}{st:Hs}:bU (.tup (x::ws)) (.int 0) st= .ok x st:=oU (L2.fj (j:=0) rfl)
theorem Sm{x y:Wv}{ws:List Wv}{st:Hs}:bU (.tup (x::y::ws)) (.int 1) st= .ok y st:=oU (L2.fj (j:=1) rfl)
theorem Sn{ws us:List Wv}{lo hi:Option Int}{st:Hs}(h:¬rl ws.length lo hi)(h2:ml ws lo hi=us):sI (.tup ws) lo hi st= .ok (.tup us) st:=by
 show(if rl ws.length lo hi then Re.ok (Wv.tup ws) st else Qj (.tup ws) lo hi st)=_
 rw[if_neg h]
 show(if rl ws.length lo hi then Re.bad else Re.ok (Wv.tup (ml ws lo hi)) st)=_
 rw[if_neg h,h2]
instance {a b:Int}:Decidable (cL a b):=by unfold cL;infer_instance
instance {a b c d:Int}:Decidable (iT a b c d):=by unfold iT;infer_instance
theorem oE{a b:Int}{ws:List Wv}{st:Hs}:dG [.tup (.int a:: .int b::ws)] st= .ok (.bl (decide (cL a b))) st:=by
 unfold dG cN mW
 by_cases c1:0<=a
 ·by_cases c2:a < 99
  ·by_cases c3:0<=b
   ·by_cases c4:b < 26
    ·have e:decide (cL a b)=true:=decide_eq_true ⟨c1,by omega,c3,by omega⟩
     simp[Sl,Sm,c1,c2,c3,c4,e]
    ·have e:decide (cL a b)=false:=decide_eq_false λh=>c4 (by have:=h.2.2.2;omega)
     simp[Sl,Sm,c1,c2,c3,c4,e]
   ·have e:decide (cL a b)=false:=decide_eq_false λh=>c3 h.2.2.1
    simp[Sl,Sm,c1,c2,c3,e]
  ·have e:decide (cL a b)=false:=decide_eq_false λh=>c2 (by have:=h.2.1;omega)
   simp[Sl,Sm,c1,c2,e]
 ·have e:decide (cL a b)=false:=decide_eq_false λh=>c1 h.1
  simp[Sl,Sm,c1,e]
theorem OP{i j:Int}{st:Hs}(h:(-1000000<=i/\i<=1000000)\/(-1000000<=j/\j<=1000000)):bM (.int i) (.int j) st= .ok (.int (i * j)) st:=by
 rcases h with h | h
 ·exact pH (by omega) (by omega)
 ·exact mul_r (by omega) (by omega)
theorem LD{a b c d:Wv}{st:Hs}:sI (.tup [a,b,c,d]) none (some 2) st= .ok (.tup [a,b]) st:=Sn (by show ¬rl 4 none (some 2);decide+kernel) rfl
theorem LG{a b c d:Wv}{st:Hs}:sI (.tup [a,b,c,d]) (some 2) none st= .ok (.tup [c,d]) st:=Sn (by show ¬rl 4 (some 2) none;decide+kernel) rfl
def Co(a b c d:Int):Prop:=(a<=c/\b<=d)/\cL a b/\cL c d
instance {a b c d:Int}:Decidable (Co a b c d):=by unfold Co;infer_instance
theorem Ze{a b c d:Wv}{st:Hs}:bU (.tup [a,b,c,d]) (.int 0) st= .ok a st/\bU (.tup [a,b,c,d]) (.int 1) st= .ok b st/\bU (.tup [a,b,c,d]) (.int 2) st= .ok c st/\bU (.tup [a,b,c,d]) (.int 3) st= .ok d st :=
 ⟨oU (L2.fj (j:=0) rfl),oU (L2.fj (j:=1) rfl),oU (L2.fj (j:=2) rfl),oU (L2.fj (j:=3) rfl)⟩
theorem pI{a b c d:Int}{st:Hs}:eP [tI [a,b,c,d]] st= .ok (.bl (decide (Co a b c d))) st:=by
 obtain⟨i0,i1,i2,i3⟩:=Ze (a:=.int a) (b:=.int b) (c:=.int c) (d:=.int d) (st:=st)
 unfold eP cN jo tI
 simp only[ay,lL]
 by_cases c1:a<=c
 ·by_cases c2:b<=d
  ·by_cases c3:cL a b
   ·have e:decide (Co a b c d)=decide (cL c d):=by unfold Co;simp[c1,c2,c3]
    simp[i0,i1,i2,i3,c1,c2,LD,LG,oE,c3,e]
   ·have e:decide (Co a b c d)=false:=decide_eq_false λh=>c3 h.2.1
    simp[i0,i1,i2,i3,c1,c2,LD,LG,oE,c3,e]
  ·have e:decide (Co a b c d)=false:=decide_eq_false λh=>c2 h.1.2
   simp[i0,i1,i2,i3,c1,c2,e]
 ·have e:decide (Co a b c d)=false:=decide_eq_false λh=>c1 h.1.1
  simp[i0,i1,i2,i3,c1,e]
theorem wu{a b c d:Int}{st:Hs}:gw [tI [a,b,c,d]] st= .ok (.bl (decide (iT a b c d))) st:=by
 obtain⟨i0,i1,i2,i3⟩:=Ze (a:=.int a) (b:=.int b) (c:=.int c) (d:=.int d) (st:=st)
 unfold gw cN oX
 by_cases h:Co a b c d
 ·have hm:bM (.int (c - a+1)) (.int (d - b+1)) st= .ok (.int ((c - a+1) * (d - b+1))) st:=by
   obtain⟨⟨h1,h2⟩,h3,h4⟩:=h
   exact OP (.inl ⟨by omega,by have:=h3.1;have:=h4.2.1;omega⟩)
  have am:gY [tI [a,b,c,d]] st= .ok (.int ((c - a+1) * (d - b+1))) st:=by
   unfold gY cN ly tI
   simp only[ay,lL]
   simp[i0,i1,i2,i3,hm]
  have e:decide (iT a b c d)=decide ((c - a+1) * (d - b+1)<=300):=by
   obtain⟨⟨h1,h2⟩,h3,h4⟩:=h
   unfold cL at h3 h4
   unfold iT
   congr 1
   apply propext
   constructor
   ·exact λz=>z.2.2.2.2.2.2
   ·exact λz=>⟨h3.1,h1,h4.2.1,h3.2.2.1,h2,h4.2.2.2,z⟩
  have hc:=pI (a:=a) (b:=b) (c:=c) (d:=d) (st:=st)
  rw[decide_eq_true h] at hc
  simp[hc,am,e]
 ·have hc:=pI (a:=a) (b:=b) (c:=c) (d:=d) (st:=st)
  rw[decide_eq_false h] at hc
  have e:decide (iT a b c d)=false:=decide_eq_false λz=>h (by
   obtain⟨z1,z2,z3,z4,z5,z6,_⟩:=z
   exact⟨⟨z2,z5⟩,⟨z1,by omega,z4,by omega⟩,⟨by omega,z3,by omega,z6⟩⟩)
  simp[hc,e]
theorem made_place{a b:Int}{st:Hs}(h:cL a b):b7 [.int a,.int b] st= .ok (tI [a,b]) st:=by
 unfold b7 cN iD
 simp[oE,h,tI]
theorem ym{a b:Int}{st:Hs}(h:¬cL a b):b7 [.int a,.int b] st= .err "BadPlace" st:=by
 unfold b7 cN iD
 simp[oE,h,lim]
theorem Dh{a b c d:Int}{st:Hs}(h:iT a b c d):gZ [.int a,.int b,.int c,.int d] st= .ok (tI [a,b,c,d]) st:=by
 have e:=wu (a:=a) (b:=b) (c:=c) (d:=d) (st:=st)
 simp[tI] at e
 unfold gZ cN lA
 simp[e,h,tI]
theorem Zf{a b c d:Wv}{st:Hs}:bU (.tup [a,b,c,d]) (.int 0) st= .ok a st/\bU (.tup [a,b,c,d]) (.int 1) st= .ok b st/\bU (.tup [a,b,c,d]) (.int 2) st= .ok c st/\bU (.tup [a,b,c,d]) (.int 3) st= .ok d st:=⟨rfl,rfl,rfl,rfl⟩
theorem uz{st:Hs}{xs:List Ob}{ws:List Wv}:ao (st++ .lst ws::xs) st.length=some ws:=by unfold ao;simp
section
variable {a b c d:Int} {st:Hs}
theorem at1:L2.mv [Wv.int a,.int b,.int c,.int d] 1=some (.int b):=rfl
theorem at3:L2.mv [Wv.int a,.int b,.int c,.int d] 3=some (.int d):=rfl
def mq(r b:Int)(n:Nat):List Wv:=(ig n).map λk:Nat=> .tup [.int r,.int (b+k)]
def g_(a b:Int)(m n:Nat):List Wv:=((ig m).map λk:Nat=>mq (a+k) b n).flatten
theorem Di{m n:Nat}:(g_ a b m n).length=m * n:=by
 unfold g_
 rw[List.length_flatten,aW]
 have:(dq ∘ λk:Nat=>mq (a+k) b n)=λ_=>n:=by funext k;simp[mq]
 rw[this]
 clear this
 induction m with
 | zero=>simp
 | succ m ih=>rw[List.range_succ,cq,List.sum_append,ih,lJ];simp
theorem Aq{m n:Nat}:g_ a b (m+1) n=g_ a b m n++mq (a+m) b n:=by
 unfold g_
 rw[List.range_succ,cq,List.flatten_append]
 simp
theorem GR{o:Wv}{r:Int}{st:Hs}(hb:cP b)(hd:cP (d+1))(hn:(d+1 - b).toNat<=300) :
  eM [("row",2)] (E8 (ae (ag bU (af 0) (gC (.int 1))) (ae (ag bQ (ag bU (af 0) (gC (.int 3))) (gC (.int 1))) aq))) dO cF [some (.tup [.int a,.int b,.int c,.int d]),some o,some (.int r)] st=
   .ok (.ref st.length) (st++[.lst (mq r b (d+1 - b).toNat)]):=by
 have q:=cR (cs:=[("row",2)]) (gt:=dO) (ge:=cF) (ρ:=[some (.tup [.int a,.int b,.int c,.int d]),some o,some (.int r)]) (w:=(none,bo b (d+1 - b).toNat)) (st:=st) (t:=λ_=>true) (f:=λv=> .tup [.int r,v]) trivial
  (λv _ acc=>rfl) (λv _ _ acc=>by unfold cF;simp[dX]) (by rw[show((none,bo b (d+1 - b).toNat):Wk).2=bo b (d+1 - b).toNat from rfl,bL];unfold lim;omega)
 have e:((bo b (d+1 - b).toNat).filter λ_=>true).map (λv=>Wv.tup [.int r,v])=mq r b (d+1 - b).toNat:=by
  rw[List.filter_eq_self.mpr (λ_ _=>rfl)]
  unfold bo mq
  rw[aW]
  rfl
 rw[show((none,bo b (d+1 - b).toNat):Wk).2=bo b (d+1 - b).toNat from rfl,e] at q
 simp[oU at1,oU at3,ON hb hd,q]
theorem vC{st more:Hs}{acc row:List Wv}(h:acc.length+row.length<=lim):Nm (.ref st.length) (.ref (st++ .lst acc::more).length) ((st++ .lst acc::more)++[.lst row])= .ok .aI (st++ .lst (acc++row)::(more++[.lst row])):=by
 have g1:((st++Ob.lst acc::more)++[Ob.lst row])[st.length]? =some (.lst acc):=by simp
 have g2:((st++Ob.lst acc::more)++[Ob.lst row])[(st++Ob.lst acc::more).length]? =some (.lst row):=by rw[mI (au _),qe];rfl
 show(match((st++Ob.lst acc::more)++[Ob.lst row])[st.length]?,((st++Ob.lst acc::more)++[Ob.lst row])[(st++Ob.lst acc::more).length]? with
  | some (.lst ws),some (.lst zs)=>if ws.length+zs.length<=lim then Re.ok Wv.aI (((st++Ob.lst acc::more)++[Ob.lst row]).set st.length (.lst (ws++zs))) else .bad
  | _,_=> .bad)=_
 rw[g1,g2]
 dsimp only
 rw[if_pos h]
 congr 1
 simp
theorem GU{st more:Hs}{acc row:List Wv}(h:acc.length+row.length<=lim):pB (.ref st.length) (.ref (st++ .lst acc::more).length) ((st++ .lst acc::more)++[.lst row])= .ok .aI (st++ .lst (acc++row)::(more++[.lst row])):=vC h
theorem Dj(hb:cP b)(hd:cP (d+1))(hn:(d+1 - b).toNat<=300){m:Nat}(hm:m<=100){ρ0:Option Wv}:∃(o:Option Wv)(more:Hs),
  fZ 2 cM (bo a m) [some (.tup [.int a,.int b,.int c,.int d]),some (.ref st.length),ρ0] (st++[.lst []])= .nx [some (.tup [.int a,.int b,.int c,.int d]),some (.ref st.length),o] (st++ .lst (g_ a b m (d+1 - b).toNat)::more):=by
 obtain⟨ρ1,st1,e1,o,more,rfl,rfl⟩:=qk (i:=2) (gb:=cM) (λk ρ st'=>∃(o:Option Wv)(more:Hs),ρ=[some (.tup [.int a,.int b,.int c,.int d]),some (.ref st.length),o]/\st'=st++ .lst (g_ a b k (d+1 - b).toNat)::more)
  (bo a m) 0 [some (.tup [.int a,.int b,.int c,.int d]),some (.ref st.length),ρ0] (st++[.lst []]) ⟨ρ0,[],rfl,rfl⟩ (λj w hw ρ st' hP=>by
   obtain⟨o,more,rfl,rfl⟩:=hP
   have hj:j < m:=by
    have q:=(List.getElem?_eq_some_iff.mp hw).1
    rw[bL] at q
    exact q
   rw[oN hj] at hw
   cases hw
   have ln:(g_ a b (0+j) (d+1 - b).toNat).length+(mq (a+j) b (d+1 - b).toNat).length<=lim:=by
    rw[Di]
    have z:(mq (a+(j:Int)) b (d+1 - b).toNat).length=(d+1 - b).toNat:=by unfold mq;simp
    rw[z]
    have:(0+j) * (d+1 - b).toNat<=100 * 300:=BC (by omega) hn
    unfold lim
    omega
   refine⟨_,_,?_,some (.int (a+(j:Int))),more++[.lst (mq (a+j) b (d+1 - b).toNat)],rfl,rfl⟩
   have e:g_ a b (0+j+1) (d+1 - b).toNat=g_ a b (0+j) (d+1 - b).toNat++mq (a+j) b (d+1 - b).toNat:=by rw[wx];exact Aq
   rw[e]
   have rc:=GR (a:=a) (c:=c) (o:=.ref st.length) (r:=a+(j:Int)) (st:=st++ .lst (g_ a b (0+j) (d+1 - b).toNat)::more) hb hd hn
   have km:=λga ρ=>ou (mt:=pB) (ga:=ga) (ρ:=ρ) (st:=st++ .lst (g_ a b (0+j) (d+1 - b).toNat)::more) (l:=st.length) uz
   have em:=GU (st:=st) (more:=more) ln
   unfold cM
   simp only[e_expr,OL,Se,wy,wz,List.getElem?_cons_succ,List.getElem?_cons_zero,Sd,Kx,km,rc,em,OH,OG])
 exact⟨o,more,by rw[e1,bL,wx]⟩
theorem sd(h:iT a b c d):∃more:Hs,eC [tI [a,b,c,d]] st= .ok (.ref st.length) (st++ .lst (g_ a b (c+1 - a).toNat (d+1 - b).toNat)::more):=by
 unfold iT at h
 obtain⟨o,more,e⟩:=Dj (a:=a) (c:=c) (st:=st) (b:=b) (d:=d) (ρ0:=none) (by unfold cP;omega) (by unfold cP;omega) (by omega) (m:=(c+1 - a).toNat) (by omega)
 have ca:cP a:=by unfold cP;omega
 have cc:cP (c+1):=by unfold cP;omega
 refine⟨more,dF (n:=3) (g:=eB) ?_⟩
 unfold eB
 simp[tI,Zf,ca,cc]
 simp[e]
theorem yo{st:Hs}(h:iT a b c d):∃more:Hs,gO [tI [a,b,c,d]] st= .ok (.ref st.length) (st++ .lst (g_ a b (c+1 - a).toNat (d+1 - b).toNat)::more):=by
 obtain⟨more,e⟩:=sd (st:=st) h
 have m:=Dh (st:=st) h
 refine⟨more,dF (n:=1) (g:=gN) ?_⟩
 unfold gN
 simp[tI] at e m
 simp[tI,Zf,m,e]
end
inductive Wo
 | aI
 | int (i:Int)
 | str (z:PySem.Str)
 deriving DecidableEq
def Wo.w:Wo->Wv
 | .aI=> .aI
 | .int i=> .int i
 | .str z=> .str z
def a9(r:List Wo):Wv:=.tup (r.map Wo.w)
def bj(hs:List PySem.Str)(rows:List (List Wo)):Wv:=.tup [.tup (hs.map Wv.str),.tup (rows.map a9)]
def Wo.ok:Wo->Bool
 | .aI=>true
 | .int i=>decide (-LC<=i)&&decide (i<=LC)
 | .str x=>decide (x.length<=200)&&x.cps.toList.all λc=>decide (32<=c/\c<=126/\c≠34/\c≠37)
structure Tb(hs:List PySem.Str)(rows:List (List Wo)):Prop where
 lo:1<=hs.length
 hi:hs.length<=26
 of:∀h∈hs,Ap h
 rw':rows.length<=98
 wd:∀r∈rows,r.length=hs.length
 ok:∀r∈rows,∀w∈r,w.ok=true
section
variable {hs:List PySem.Str} {rows:List (List Wo)} {st:Hs}
theorem Du:bU (bj hs rows) (.int 0) st= .ok (.tup (hs.map Wv.str)) st:=oU rfl
theorem wF:bU (bj hs rows) (.int 1) st= .ok (.tup (rows.map a9)) st:=oU rfl
end
section
variable {st:Hs}
theorem OQ{l k:Nat}{c:List Wo}(h:ao st l=some (c.map Wo.w))(hk:k < c.length):bU (.ref l) (.int (k:Int)) st= .ok (c.getD k .aI).w st:=by
 refine x8 h ?_
 rw[L2.fj (v:=(c.map Wo.w)[k]'(by simpa using hk)) (cK _)]
 simp[hk]
theorem So{l:Nat}{c:List Wo}(h:ao st l=some (c.map Wo.w)):gS [.ref l] st= .ok (.int (c.length:Int)) st:=by
 have:gS [.ref l] st= .ok (.int ((c.map Wo.w).length:Int)) st:=by
  show(match ao st l with | some ws=>Re.ok (Wv.int ws.length) st | none=> .bad)=_
  rw[h]
 rw[this,aB]
end
section
variable {st:Hs}
theorem kI{x m:Int}(h:0 < m):0<=x.fmod m/\x.fmod m < m:=⟨Int.fmod_nonneg_of_pos x h,Int.fmod_lt_of_pos x h⟩
def nh(c k:Int):Int:=(c.fmod 1000000007 * 48271+(k+1) * (k+1) * 69621).fmod 2147483647
def hU(c k:Int):Int:=((nh c k * nh c k).fmod 2147483629).fdiv 8
theorem mix{c k:Int}(h0:0<=k)(h1:k<=200):bN [.int c,.int k] st= .ok (.int (hU c k)) st:=by
 have b1:=kI (x:=c) (m:=1000000007) (by omega)
 have b2:=kI (x:=c.fmod 1000000007 * 48271+(k+1) * (k+1) * 69621) (m:=2147483647) (by omega)
 have k1:(k+1) * (k+1)<=201 * 201:=Int.mul_le_mul (by omega) (by omega) (by omega) (by omega)
 have k2:0<=(k+1) * (k+1):=Int.mul_nonneg (by omega) (by omega)
 have m1:=pH (st:=st) (i:=c.fmod 1000000007) (j:=48271) (by omega) (by omega)
 have m2:=pH (st:=st) (i:=k+1) (j:=k+1) (by omega) (by omega)
 have m3:=pH (st:=st) (i:=(k+1) * (k+1)) (j:=69621) (by omega) (by omega)
 have m4:=pH (st:=st) (i:=nh c k) (j:=nh c k) (by unfold nh;omega) (by unfold nh;omega)
 have a1:=c_ (st:=st) (i:=c) (j:=1000000007) (by decide)
 have a2:oMod (.int (c.fmod 1000000007 * 48271+(k+1) * (k+1) * 69621)) (.int 2147483647) st= .ok (.int (nh c k)) st:=c_ (by decide)
 have a3:=c_ (st:=st) (i:=nh c k * nh c k) (j:=2147483629) (by decide)
 have a4:=e_ (st:=st) (i:=(nh c k * nh c k).fmod 2147483629) (j:=8) ⟨by decide,by decide⟩
 refine dF (n:=3) (g:=j3) ?_
 unfold j3
 simp[a1,m1,m2,m3,a2,m4,a3,a4,hU]
def l_:Wv->Int
 | .int i=>i
 | _=>0
theorem digits{c:Int}{many:Nat}(hm:many<=60):∃(l:Nat)(st':Hs)(ds:List Int),gG [.int c,.int 13,.int (many:Int)] st= .ok (.ref l) st'/\ao st' l=some (ds.map Wv.int)/\ds.length=many/\(∀d∈ds,0<=d/\d < 13)/\Gr st st':=by
 have cr:cP (many:Int):=Af (by omega) (by omega)
 have Wl:(13:Int)≠0/\(13:Int).natAbs.log2 < 9000:=⟨by decide,by decide⟩
 have md:=c_ (st:=st++[.lst []]) (i:=c) (j:=2) (by decide)
 have fd:=e_ (st:=st++[.lst []]) (i:=c) (j:=2) ⟨by decide,by decide⟩
 by_cases odd:c.fmod 2=1
 ·obtain⟨ρ',s1,e1,rest,o5,ds,rfl,rfl,hl,hb⟩:=qk (i:=5) (gb:=f9) (λk ρ st'=>∃(rest:Int)(o5:Option Wv)(ds:List Int),ρ=[some (.int c),some (.int 13),some (.int (many:Int)),some (.ref st.length),some (.int rest),o5]/\st'=st++[.lst (ds.map Wv.int)]/\ds.length=k/\∀d∈ds,0<=d/\d < 13)
   (bo 0 many) 0 [some (.int c),some (.int 13),some (.int (many:Int)),some (.ref st.length),some (.int (c.fdiv 2)),none] (st++[.lst []]) ⟨_,_,[],rfl,rfl,rfl,λd h=>by cases h⟩ (λj w hw ρ st' hP=>by
    obtain⟨rest,o5,ds,rfl,rfl,hl,hb⟩:=hP
    have hj:j < many:=by
     have q:=(List.getElem?_eq_some_iff.mp hw).1
     rw[bL] at q
     exact q
    have km:=λga ρ=>ou (mt:=jV) (ga:=ga) (ρ:=ρ) (st:=st++[.lst (ds.map Wv.int)]) ax
    have ap:=vX (st:=st) (acc:=ds.map Wv.int) (v:=.int (rest.fmod 13)) (by rw[aB];unfold lim;omega)
    have ed:ds.map Wv.int++[.int (rest.fmod 13)]=(ds++[rest.fmod 13]).map Wv.int:=by simp
    rw[ed] at ap
    refine⟨[some (.int c),some (.int 13),some (.int (many:Int)),some (.ref st.length),some (.int (rest.fdiv 13)),some w],st++[.lst ((ds++[rest.fmod 13]).map Wv.int)],?_,_,_,ds++[rest.fmod 13],rfl,rfl,by simp[hl],λd hd=>?_⟩
    ·unfold f9
     simp[-cq,km,c_ Wl.1,ap,e_ Wl]
    ·rcases List.mem_append.mp hd with z | z
     ·exact hb d z
     ·simp at z
      rw[z]
      exact kI (by omega))
  rw[bL,wx] at hl
  refine⟨st.length,st++[.lst (ds.map Wv.int)],ds,?_,ax,hl,hb,Gr.push⟩
  refine dF (n:=6) (g:=dg) ?_
  unfold dg
  simp[md,odd,fd,cr,e1]
 ·have zf:(c.fmod 2 == 1)=false:=by simpa using odd
  have q:=cR (cs:=[("cell",0),("size",1)]) (gt:=i5) (ge:=fI) (ρ:=[some (.int c),some (.int 13),some (.int (many:Int)),some (.ref st.length),none,none]) (w:=(none,bo 0 many)) (st:=st++[.lst []]) (t:=λ_=>true) (f:=λv=> .int ((hU c (l_ v)).fmod 13)) trivial
   (λv _ acc=>rfl) (λv hv _ acc=>by
    obtain⟨k,rfl,h0,h1⟩:=ql hv
    unfold fI
    simp[dX,mix (c:=c) (k:=k) (by omega) (by omega),c_ Wl.1,l_])
   (by show(bo 0 many).length < lim;rw[bL];unfold lim;omega)
  rw[show((none,bo 0 many):Wk).2=bo 0 many from rfl,List.filter_eq_self.mpr (λ_ _=>rfl)] at q
  have e2:(bo 0 many).map (λv=>Wv.int ((hU c (l_ v)).fmod 13))=((bo 0 many).map λv=>(hU c (l_ v)).fmod 13).map Wv.int:=by rw[aW];rfl
  rw[e2] at q
  refine⟨(st++[Ob.lst []]).length,(st++[.lst []])++[.lst (((bo 0 many).map λv=>(hU c (l_ v)).fmod 13).map Wv.int)],_,?_,ax,by rw[aB,bL],λd hd=>?_,Gr.push.trans Gr.push⟩
  ·refine dF (n:=6) (g:=dg) ?_
   unfold dg
   simp[-cJ,-cY,-aW,md,zf,rQ cr,q]
  ·obtain⟨v,_,rfl⟩:=List.mem_map.mp hd
   exact kI (by omega)
def xS:PySem.Str:=sE 200 "x"
def SM:List Wo:=[.aI,.int 0,.int 1,.int 2,.int (-1),.str "a",.str "b",.str "ab",.str "",.int 1000000000000000000000000000000000000000000000000000000000000,.int (-1000000000000000000000000000000000000000000000000000000000000),.str "1",.str xS]
theorem Wm:bM (.str "x") (.int 200) st= .ok (.str xS) st:=by
 show(if pw "x" 200 then Re.ok (Wv.str (sE (200:Int).toNat "x")) st else .bad)=_
 rw[if_pos (by unfold pw lim;decide)]
 rfl
theorem Zg:kF (.int 10) (.int 60) st= .ok (.int 1000000000000000000000000000000000000000000000000000000000000) st:=GL (i:=10) (j:=60) (st:=st) (by decide)
theorem Sq:∀i:Fin 13,(SM.getD i.1 .aI).ok=true:=by decide+kernel
theorem GV{c:Int}{many:Nat}(hm:many<=60):∃(l:Nat)(st':Hs)(ws:List Wo),gJ [.int c,.int (many:Int)] st= .ok (.ref l) st'/\ao st' l=some (ws.map Wo.w)/\ws.length=many/\Gr st st'/\∀w∈ws,w.ok=true:=by
 have Zh:jE [.aI,.int 0,.int 1,.int 2,.int (-1),.str "a",.str "b",.str "ab",.str "",.int 1000000000000000000000000000000000000000000000000000000000000,.int (-1000000000000000000000000000000000000000000000000000000000000),.str "1",.str xS] st= .ok (.ref st.length) (st++[.lst (SM.map Wo.w)]):=dk (by simp[lim])
 obtain⟨s0,hs0⟩:∃s0,st++[Ob.lst (SM.map Wo.w)]=s0:=⟨_,rfl⟩
 rw[hs0] at Zh
 have ls:ao s0 st.length=some (SM.map Wo.w):=by rw[<-hs0];exact ax
 have ln:gS [.ref st.length] s0= .ok (.int 13) s0:=So ls
 obtain⟨l,s1,ds,e1,l1,n1,b1,g1⟩:=digits (c:=c) (many:=many) hm (st:=s0)
 have ls1:=g1.lst ls
 have q:=cR (cs:=[("some",2)]) (gt:=i6) (ge:=fJ) (ρ:=[some (.int c),some (.int (many:Int)),some (.ref st.length)]) (w:=(some l,ds.map Wv.int)) (st:=s1) (t:=λ_=>true) (f:=λv=>(SM.getD (l_ v).toNat .aI).w) l1
  (λv _ acc=>rfl) (λv hv _ acc=>by
   obtain⟨d,hd,rfl⟩:=List.mem_map.mp hv
   have b:=b1 d hd
   have ix:=OQ (st:=s1++[.lst acc]) (k:=d.toNat) (dZ ls1) (show d.toNat < 13 by omega)
   rw[show((d.toNat:Nat):Int)=d by omega] at ix
   unfold fJ
   simp[-mM,dX,ix,l_])
  (by show(ds.map Wv.int).length < lim;rw[aB];unfold lim;omega)
 rw[show((some l,ds.map Wv.int):Wk).2=ds.map Wv.int from rfl,List.filter_eq_self.mpr (λ_ _=>rfl)] at q
 have e2:(ds.map Wv.int).map (λv=>(SM.getD (l_ v).toNat .aI).w)=(ds.map λd=>SM.getD d.toNat .aI).map Wo.w:=by rw[aW,aW];rfl
 rw[e2] at q
 refine⟨s1.length,s1++[.lst ((ds.map λd=>SM.getD d.toNat .aI).map Wo.w)],_,?_,ax,by rw[aB];exact n1,by rw[<-hs0] at g1;exact Gr.push.trans (g1.trans Gr.push),λw hw=>by
  obtain⟨d,hd,rfl⟩:=List.mem_map.mp hw
  have b:=b1 d hd
  exact Sq ⟨d.toNat,by show d.toNat < 13;omega⟩⟩
 refine dF (n:=3) (g:=gI) ?_
 unfold gI
 simp[-mM,-aW,Zg,Wm,Zh,ln,e1,jk l1,q]
end
section
variable {st:Hs}
def HA:List PySem.Str:=["b","a","ab","c"]
def Dv(r:Nat):List PySem.Str:=HA.drop r++HA.take r
theorem OR{l:Nat}{n:Int}{ws:List Wv}(h:st[l]? =some (.lst ws))(hc:Cz ws.length n):bM (.ref l) (.int n) st= .ok (.ref st.length) (st++[.lst (ar n.toNat ws).flatten]):=by
 show(match st[l]? with | some (.lst ws)=>if Cz ws.length n then Re.ok (Wv.ref st.length) (st++[Ob.lst (ar n.toNat ws).flatten]) else .bad | _=> .bad)=_
 rw[h]
 exact if_pos hc
theorem uA{l:Nat}{ws:List Wv}(h:ao st l=some ws):mB [.ref l] st= .ok (.tup ws) st:=by
 show(match ao st l with | some ws=>Re.ok (Wv.tup ws) st | none=> .bad)=_
 rw[h]
theorem Wn:∀r:Fin 4,ml (HA.map Wv.str) (some (r.1:Int)) none=(HA.drop r.1).map Wv.str:=λr=>by
 obtain⟨r,h⟩:=r
 match r,h with
 | 0,_=>rfl
 | 1,_=>rfl
 | 2,_=>rfl
 | 3,_=>rfl
theorem Wq:∀r:Fin 4,ml (HA.map Wv.str) none (some (r.1:Int))=(HA.take r.1).map Wv.str:=λr=>by
 obtain⟨r,h⟩:=r
 match r,h with
 | 0,_=>rfl
 | 1,_=>rfl
 | 2,_=>rfl
 | 3,_=>rfl
theorem Ws{r w:Nat}(hr:r < 4)(h1:1<=w)(h4:w<=4):sI (.tup ((Dv r).map Wv.str)) none (some (w:Int)) st= .ok (.tup (((Dv r).take w).map Wv.str)) st:=by
 match r,hr with
 | 0,_=>match w,h1,h4 with
  | 1,_,_=>rfl
  | 2,_,_=>rfl
  | 3,_,_=>rfl
  | 4,_,_=>rfl
 | 1,_=>match w,h1,h4 with
  | 1,_,_=>rfl
  | 2,_,_=>rfl
  | 3,_,_=>rfl
  | 4,_,_=>rfl
 | 2,_=>match w,h1,h4 with
  | 1,_,_=>rfl
  | 2,_,_=>rfl
  | 3,_,_=>rfl
  | 4,_,_=>rfl
 | 3,_=>match w,h1,h4 with
  | 1,_,_=>rfl
  | 2,_,_=>rfl
  | 3,_,_=>rfl
  | 4,_,_=>rfl
theorem Kz:∀r:Fin 4,(Dv r.1).length=4:=by decide
theorem OS:∀r:Fin 4,∀h∈Dv r.1,h="b"\/h="a"\/h="ab"\/h="c":=by decide
theorem Sr{ws:List Wo}{a n:Nat}(h:a+n<=ws.length):ml (ws.map Wo.w) (some (a:Int)) (some ((a:Int)+(n:Int)))=((ws.drop a).take n).map Wo.w:=by
 have i1:HT.dD (ws.map Wo.w).length 0 (some (a:Int))=a:=by
  unfold HT.dD
  simp
  rw[if_neg (by omega)]
  omega
 have i2:HT.dD (ws.map Wo.w).length (ws.map Wo.w).length (some ((a:Int)+(n:Int)))=a+n:=by
  unfold HT.dD
  simp
  rw[if_neg (by omega)]
  omega
 unfold ml
 rw[i1,i2,<-vY,<-lW,Nat.add_sub_cancel_left]
theorem BD{w:Nat}:∀{us:List Wv},(∀u∈us,∃r:List Wo,(r.length=w/\∀z∈r,z.ok=true)/\u=a9 r)->∃rows:List (List Wo),us=rows.map a9/\∀r∈rows,r.length=w/\∀z∈r,z.ok=true
 | [],_=>⟨[],rfl,λ_ h=>by cases h⟩
 | u::t,h=>by
  obtain⟨r,hr,rfl⟩:=h u aR
  obtain⟨rows,rfl,k⟩:=BD (us:=t) λu hu=>h u (aN _ hu)
  refine⟨r::rows,rfl,λx hx=>?_⟩
  rcases List.mem_cons.mp hx with z | z
  ·rw[z];exact hr
  ·exact k x z
theorem cells{at':Nat}{ns:List Int}(h:at' < 4):∃c:Int,L2.mv ((ns.map Wv.int)++[.int 0,.int 0,.int 0,.int 0]) (at':Int)=some (.int c):=by
 have hl:at' < ((ns.map Wv.int)++[Wv.int 0,.int 0,.int 0,.int 0]).length:=by simp;omega
 obtain⟨v,e,hv⟩:=lp (ws:=(ns.map Wv.int)++[Wv.int 0,.int 0,.int 0,.int 0]) (d:=(at':Int)) (by omega) (by omega)
 rcases List.mem_append.mp hv with z | z
 ·obtain⟨c,_,rfl⟩:=List.mem_map.mp z
  exact⟨c,e⟩
 ·simp at z
  exact⟨0,by rw[e,z]⟩
theorem OT:∀r:Fin 4,∀h∈Dv r.1,Ap h:=λr h hm=>by
 rcases OS r h hm with z | z | z | z<;>(rw[z];exact⟨by decide+kernel,by unfold Sg;decide+kernel⟩)
theorem table{ns:List Int}{at' most:Nat}(hs:st[0]? =some (.sv ns))(hn:ns.length<=63)(ha:at' < 4)(hm:most<=12):∃(hs':List PySem.Str)(rows:List (List Wo))(st':Hs),ef [.ref 0,.int (at':Int),.int (most:Int)] st= .ok (bj hs' rows) st'/\Tb hs' rows/\(hs'.length<=4/\rows.length<=most)/\Gr st st':=by
 have l0:ao st 0=some (ns.map Wv.int):=by unfold ao;rw[hs]
 have b0:=rR hs
 obtain⟨s1,hs1⟩:∃s1,st++[Ob.lst [.int 0]]=s1:=⟨_,rfl⟩
 have g1:s1[st.length]? =some (.lst [.int 0]):=by rw[<-hs1];exact eV
 have G1:Gr st s1:=by rw[<-hs1];exact Gr.push
 have mu:bM (.ref st.length) (.int 4) s1= .ok (.ref s1.length) (s1++[.lst [.int 0,.int 0,.int 0,.int 0]]):=OR g1 (by unfold Cz lim;simp)
 obtain⟨s2,hs2⟩:∃s2,s1++[Ob.lst [.int 0,.int 0,.int 0,.int 0]]=s2:=⟨_,rfl⟩
 rw[hs2] at mu
 have G2:Gr s1 s2:=by rw[<-hs2];exact Gr.push
 have k2:ao s2 s1.length=some [.int 0,.int 0,.int 0,.int 0]:=by rw[<-hs2];exact ax
 have ad:=add_l (st:=s2) ((G1.trans G2).lst l0) k2 (by simp;unfold lim;omega)
 obtain⟨s3,qg⟩:∃s3,s2++[Ob.lst ((ns.map Wv.int)++[.int 0,.int 0,.int 0,.int 0])]=s3:=⟨_,rfl⟩
 rw[qg] at ad
 have G3:Gr s2 s3:=by rw[<-qg];exact Gr.push
 have k3:ao s3 s2.length=some ((ns.map Wv.int)++[.int 0,.int 0,.int 0,.int 0]):=by rw[<-qg];exact ax
 obtain⟨c,ec⟩:=cells (ns:=ns) ha
 have ix:=x8 k3 ec
 have w1:=c_ (st:=s3) (i:=c) (j:=4) (by decide)
 have bw:=kI (x:=c) (m:=4) (by omega)
 obtain⟨w,hw⟩:∃w:Nat,(1+c.fmod 4)=(w:Int):=⟨(1+c.fmod 4).toNat,by omega⟩
 have f1:=e_ (st:=s3) (i:=c) (j:=4) ⟨by decide,by decide⟩
 have h1:=c_ (st:=s3) (i:=c.fdiv 4) (j:=(most:Int)+1) (by omega)
 have bh:=kI (x:=c.fdiv 4) (m:=(most:Int)+1) (by omega)
 obtain⟨hg,hh⟩:∃hg:Nat,(c.fdiv 4).fmod ((most:Int)+1)=(hg:Int):=⟨((c.fdiv 4).fmod ((most:Int)+1)).toNat,by omega⟩
 rw[hh] at h1 bh
 obtain⟨r,hr⟩:∃r:Nat,(c.fdiv 64).fmod 4=(r:Int):=⟨((c.fdiv 64).fmod 4).toNat,by have:=kI (x:=c.fdiv 64) (m:=4) (by omega);omega⟩
 have br:r < 4:=by have:=kI (x:=c.fdiv 64) (m:=4) (by omega);omega
 have fr:∀st:Hs,cA (.int c) (.int 64) st= .ok (.int (c.fdiv 64)) st:=λst=>e_ ⟨by decide,by decide⟩
 have mr:∀st:Hs,oMod (.int (c.fdiv 64)) (.int 4) st= .ok (.int (r:Int)) st:=λst=>by rw[<-hr];exact c_ (by decide)
 -- the heads
 obtain⟨s4,Ar⟩:∃s4,s3++[Ob.lst (HA.map Wv.str)]=s4:=⟨_,rfl⟩
 have k4:ao s4 s3.length=some (HA.map Wv.str):=by rw[<-Ar];exact ax
 have sa:=Ky (lo:=some (r:Int)) (hi:=none) k4
 rw[Wn ⟨r,br⟩] at sa
 obtain⟨s5,wG⟩:∃s5,s4++[Ob.lst ((HA.drop r).map Wv.str)]=s5:=⟨_,rfl⟩
 rw[wG] at sa
 have k5:ao s5 s4.length=some ((HA.drop r).map Wv.str):=by rw[<-wG];exact ax
 obtain⟨s6,OU⟩:∃s6,s5++[Ob.lst (HA.map Wv.str)]=s6:=⟨_,rfl⟩
 have k6:ao s6 s5.length=some (HA.map Wv.str):=by rw[<-OU];exact ax
 have sb:=Ky (lo:=none) (hi:=some (r:Int)) k6
 rw[Wq ⟨r,br⟩] at sb
 obtain⟨s7,OV⟩:∃s7,s6++[Ob.lst ((HA.take r).map Wv.str)]=s7:=⟨_,rfl⟩
 rw[OV] at sb
 have k7:ao s7 s6.length=some ((HA.take r).map Wv.str):=by rw[<-OV];exact ax
 have G4:Gr s3 s4:=by rw[<-Ar];exact Gr.push
 have G5:Gr s4 s5:=by rw[<-wG];exact Gr.push
 have G6:Gr s5 s6:=by rw[<-OU];exact Gr.push
 have G7:Gr s6 s7:=by rw[<-OV];exact Gr.push
 have ah:=add_l (st:=s7) ((G6.trans G7).lst k5) k7 (by rw[aB,aB,nJ,dt];unfold lim HA;simp;omega)
 have er:(HA.drop r).map Wv.str++(HA.take r).map Wv.str=(Dv r).map Wv.str:=by unfold Dv;rw[cq]
 rw[er] at ah
 obtain⟨s8,Wt⟩:∃s8,s7++[Ob.lst ((Dv r).map Wv.str)]=s8:=⟨_,rfl⟩
 rw[Wt] at ah
 have G8:Gr s7 s8:=by rw[<-Wt];exact Gr.push
 have k8:ao s8 s7.length=some ((Dv r).map Wv.str):=by rw[<-Wt];exact ax
 have tc:=uA k8
 have ch:=Ws (st:=s8) br (show 1<=w by omega) (show w<=4 by omega)
 -- the GV
 have Zi:Gr st s8:=G1.trans (G2.trans (G3.trans (G4.trans (G5.trans (G6.trans (G7.trans G8))))))
 have sc:=Ky (lo:=some ((at':Int)+1)) (hi:=none) (Zi.lst l0)
 obtain⟨ys,ey,_⟩:=De (f:=Wv.int) (xs:=ns) (lo:=some ((at':Int)+1)) (hi:=none)
 rw[ey] at sc
 obtain⟨s9,Wu⟩:∃s9,s8++[Ob.lst (ys.map Wv.int)]=s9:=⟨_,rfl⟩
 rw[Wu] at sc
 have G9:Gr s8 s9:=by rw[<-Wu];exact Gr.push
 have k9:ao s9 s8.length=some (ys.map Wv.int):=by rw[<-Wu];exact ax
 have su:=Lz k9
 have wh:((w:Int) * (hg:Int))=((w * hg:Nat):Int):=by push_cast;rfl
 have wh2:w * hg<=60:=bg (BC (show w<=4 by omega) (show hg<=12 by omega)) (by omega)
 have mw:=pH (st:=s9) (i:=(w:Int)) (j:=(hg:Int)) (by omega) (by omega)
 obtain⟨lw,Jv,ws,TN,Zj,n10,G10,okw⟩:=GV (c:=ys.sum) (many:=w * hg) wh2 (st:=s9)
 rw[<-wh] at TN
 -- the rows
 have cr:cP (hg:Int):=Af (by omega) (by omega)
 obtain⟨ρ,hρ⟩:∃ρ:b9,[some (.ref 0),some (.int (at':Int)),some (.int (most:Int)),some (.int c),some (.int (w:Int)),some (.int (hg:Int)),some (.tup (((Dv r).take w).map Wv.str)),some (.ref lw),none]=ρ:=⟨_,rfl⟩
 have bl:=oq Zj
 obtain⟨Vn,us,c11,Zk,g11,w11,Zl⟩:=uy (w:=(none,bo 0 hg)) (gt:=λv=>f_ (some v::dX [("worths",7),("wide",4)] ρ)) (ge:=λv=>d_ (some v::dX [("worths",7),("wide",4)] ρ)) (rr:=Jv.length)
  (λst=>ao st lw=some (ws.map Wo.w)/\Jv.length < st.length/\∀k,k < Jv.length->st[k]? =Jv[k]?) (λu=>∃r:List Wo,(r.length=w/\∀z∈r,z.ok=true)/\u=a9 r)
  (λst acc h=>by
   refine⟨?_,by rw[List.length_set];exact h.2.1,λk hk=>by rw[cC (by omega)];exact h.2.2 k hk⟩
   have q:=h.1
   unfold ao at q ⊢
   rw[cC (by omega)]
   exact q)
  (λst h=>trivial) (bo 0 hg)
  (λv hv st acc hp hg'=>by
   obtain⟨k,rfl,h0,h1⟩:=ql hv
   refine⟨st,rfl,hp,hg',?_⟩
   obtain⟨kn,rfl⟩:∃kn:Nat,k=(kn:Int):=⟨k.toNat,by omega⟩
   have m1:=pH (st:=st) (i:=(kn:Int)) (j:=(w:Int)) (by omega) (by omega)
   have em:(kn:Int) * (w:Int)=((kn * w:Nat):Int):=by push_cast;rfl
   have le:kn * w+w<=ws.length:=by
    rw[n10]
    have:(kn+1) * w<=hg * w:=Nat.mul_le_mul_right w (by omega)
    rw[lJ] at this
    rw[u0 w hg]
    exact this
   have sl:=Ky (lo:=some ((kn * w:Nat):Int)) (hi:=some (((kn * w:Nat):Int)+(w:Int))) hp.1
   rw[Sr le] at sl
   rw[<-em] at sl
   have tt:=uA (st:=st++[.lst (((ws.drop (kn * w)).take w).map Wo.w)]) ax
   refine⟨a9 ((ws.drop (kn * w)).take w),st++[.lst (((ws.drop (kn * w)).take w).map Wo.w)],?_,⟨_,⟨by rw[dt,nJ];omega,λz hz=>okw z (List.mem_of_mem_drop (vN hz))⟩,rfl⟩,⟨dZ hp.1,by rw[cY];have:=hp.2.1;omega,λk hk=>by rw[fX (by have:=hp.2.1;omega)];exact hp.2.2 k hk⟩,lq hg'⟩
   rw[<-hρ]
   unfold d_
   simp[-lW,-vY,dX,m1,sl,tt,a9])
  [] (Jv++[.lst []]) ⟨dZ Zj,by simp,λk hk=>fX hk⟩ eV (by rw[bL];simp;unfold lim;omega) (λa h=>by cases h)
 obtain⟨rows,rfl,wd⟩:=BD w11
 rw[aB,bL] at Zl
 simp at Zl
 have Ss:iq [("worths",7),("wide",4)] f_ d_ ρ (none,bo 0 hg) Jv= .ok (.ref Jv.length) Vn:=by
  unfold iq
  rw[show((none,bo 0 hg):Wk).2=bo 0 hg from rfl,c11]
 have tr:=uA (fH g11)
 have lt4:((Dv r).take w).length=w:=by rw[dt,Kz ⟨r,br⟩];omega
 refine⟨(Dv r).take w,rows,Vn,?_,⟨by omega,by omega,λh hm=>OT ⟨r,br⟩ h (vN hm),by omega,λx hx=>by rw[lt4];exact(wd x hx).1,λx hx=>(wd x hx).2⟩,⟨by omega,by omega⟩,?_⟩
 ·refine dF (n:=9) (g:=iz) ?_
  have kA:∀st:Hs,jE [.str "b",.str "a",.str "ab",.str "c"] st= .ok (.ref st.length) (st++[.lst (HA.map Wv.str)]):=λst=>dk (by simp[lim])
  rw[<-hρ] at Ss
  unfold iz
  simp[-cJ,-cY,-lW,-Ae,kA,hs1,mu,ad,ix,w1,hw,f1,h1,fr,mr,Ar,sa,OU,sb,ah,tc,ch,sc,su,mw,TN,rQ cr,Ss,tr,bj]
 ·have G09:=Zi.trans (G9.trans G10)
  exact G09.trans ⟨by have:=Zk.2.1;omega,Zk.2.2⟩
end
def Cn(v:Wv):Prop:=(∃i:Int,v= .int i/\-LC<=i/\i<=LC)\/∃x:S,v= .str x/\Ap x
def ky(a b:Int):List L2.Key:=[.inl a,.inl b]
theorem LH{x:S}{n:Nat}{st:Hs}:a8 st n (.str x)=some (.str x):=by cases n<;>rfl
theorem LI{i:Int}{n:Nat}{st:Hs}:a8 st n (.int i)=some (.int i):=by cases n<;>rfl
abbrev Ks:=List (List L2.Key×Wv)
abbrev Pt:=Int×Int
def je(p:Pt):List L2.Key:=ky p.1 p.2
def Su:List Pt:=(ig 2574).map λk=>(((k / 26:Nat):Int),((k % 26:Nat):Int))
def uq{α:Type}(f:α->Nat):List α->Nat->Bool
 | [],_=>true
 | x::r,acc=> !(acc.testBit (f x))&&uq f r (acc||| 2 ^ f x)
theorem LJ{α:Type}{f:α->Nat}:∀{l:List α}{acc:Nat},uq f l acc=true->(∀x∈l,∀y∈l,f x=f y->x=y)/\∀x∈l,acc.testBit (f x)=false
 | [],_,_=>⟨λx hx=>(by cases hx),λx hx=>by cases hx⟩
 | x::r,acc,h=>by
  unfold uq at h
  rw[cz] at h
  obtain⟨h1,h2⟩:=LJ h.2
  have no:∀y∈r,acc.testBit (f y)=false/\f x≠f y:=λy hy=>by
   have q:=h2 y hy
   rw[Nat.testBit_or,Nat.testBit_two_pow,Bool.or_eq_false_iff] at q
   exact⟨q.1,of_decide_eq_false q.2⟩
  refine⟨λa ha b hb e=>?_,λy hy=>?_⟩
  ·rcases List.mem_cons.mp ha with ea | ha'
   ·rcases List.mem_cons.mp hb with eb | hb'
    ·rw[ea,eb]
    ·rw[ea] at e
     exact absurd e (no b hb').2
   ·rcases List.mem_cons.mp hb with eb | hb'
    ·rw[eb] at e
     exact absurd e.symm (no a ha').2
    ·exact h1 a ha' b hb' e
  ·rcases List.mem_cons.mp hy with rfl | hy
   ·simpa using h.1
   ·exact(no y hy).1
def hs(p:Pt):Int:=Bi [p.1,p.2]
def hm(p:Pt):Nat:=(hs p % 19291).toNat
theorem OW:uq hm Su 0=true:=by decide+kernel
theorem yp{p:Pt}(h:cL p.1 p.2):p∈Su:=by
 obtain⟨a,b⟩:=p
 obtain⟨h1,h2,h3,h4⟩:=h
 dsimp only at h1 h2 h3 h4
 refine List.mem_map.mpr ⟨a.toNat * 26+b.toNat,List.mem_range.mpr (by omega),?_⟩
 refine Prod.ext ?_ ?_
 ·show(((a.toNat * 26+b.toNat) / 26:Nat):Int)=a
  omega
 ·show(((a.toNat * 26+b.toNat) % 26:Nat):Int)=b
  omega
theorem OX{p q:Pt}(hp:cL p.1 p.2)(hq:cL q.1 q.2)(h:hs p=hs q):p=q :=
 (LJ OW).1 p (yp hp) q (yp hq) (by unfold hm;rw[h])
theorem BE:∀l:List Pt,pC (l.map je)=some (l.map λp=>[p.1,p.2])
 | []=>rfl
 | p::r=>by
  rw[ay,ay]
  unfold pC
  rw[BE r]
  rfl
theorem yq:∀{l:List Pt},l.Nodup->(∀p∈l,cL p.1 p.2)->(l.map hs).Nodup
 | [],_,_=>qc
 | p::r,h,k=>by
  rw[BF] at h
  rw[ay,BF]
  refine⟨λz=>?_,yq h.2 λq hq=>k q (aN _ hq)⟩
  obtain⟨q,hq,e⟩:=List.mem_map.mp z
  exact h.1 (OX (k q (aN _ hq)) (k p aR) e ▸ hq)
theorem OY{kvs:Ks}{ps:List Pt}(h:kvs.map (·.1)=ps.map je)(hn:ps.Nodup)(hp:∀p∈ps,cL p.1 p.2):jW (kvs.map (·.1))=true:=by
 unfold jW
 rw[h,BE]
 refine decide_eq_true ?_
 rw[aW]
 exact yq hn hp
theorem GW{a b c d:Int}(h:ky a b=ky c d):a=c/\b=d:=by
 unfold ky at h
 injection h with h1 h2
 injection h2 with h2
 injection h1 with h1
 injection h2 with h2
 exact⟨h1,h2⟩
theorem KC{kvs:Ks}{k:List L2.Key}{v:Wv}(h:k∉kvs.map (·.1)):gT kvs k v=kvs++[(k,v)]:=by
 unfold gT
 rw[if_neg]
 intro q
 obtain⟨p,hp,e⟩:=List.any_eq_true.mp q
 exact h (List.mem_map.mpr ⟨p,hp,of_decide_eq_true e⟩)
theorem GX{d:Nat}{kvs:Ks}{a b:Int}{v:Wv}{st:Hs}(h:st[d]? =some (.bX kvs))(hl:kvs.length < 1000):putD (.ref d) (.tup [.int a,.int b]) v st=some (st.set d (.bX (gT kvs (ky a b) v))):=by
 have hk:mn (.tup [.int a,.int b])=some (ky a b):=rfl
 unfold putD
 dsimp only
 rw[h]
 dsimp only
 rw[hk]
 dsimp only
 rw[if_pos (by unfold lim;omega)]
theorem Sv{v:Wv}(h:v= .aI\/Cn v):∃d:PyData,(∀st:Hs,a8 st 20 v=some d)/\bf d d=true:=by
 rcases h with rfl | ⟨i,rfl,_⟩ | ⟨x,rfl,_⟩
 ·exact⟨.none,λ_=>rfl,by simp[bf]⟩
 ·exact⟨.int i,λ_=>LI,LA⟩
 ·exact⟨.str x,λ_=>LH,BA⟩
theorem ma{k:List L2.Key}:∀{kvs:Ks},k∈kvs.map (·.1)->∃v,bS kvs k=some v
 | [],h=>by cases h
 | p::r,h=>by
  unfold bS
  by_cases e:p.1=k
  ·exact⟨p.2,if_pos e⟩
  ·rw[if_neg e]
   rw[ay,cZ] at h
   exact ma (h.resolve_left λz=>e z.symm)
theorem same_self{kvs:Ks}{st:Hs}(h:∀kv∈kvs,∃d:PyData,(∀st:Hs,a8 st 20 kv.2=some d)/\bf d d=true):oQ st kvs=true/\mD st kvs kvs=true:=by
 refine⟨?_,?_⟩
 ·unfold oQ
  rw[oT]
  intro kv hk
  obtain⟨d,h1,_⟩:=h kv hk
  rw[h1]
  rfl
 ·unfold mD
  rw[decide_eq_true rfl,zP,oT]
  intro k hk
  obtain⟨v,e⟩:=ma hk
  obtain⟨d,h1,h2⟩:=h _ (jD e)
  unfold J6
  rw[e]
  dsimp only
  rw[h1]
  simpa using h2
theorem qm{d:Nat}{kvs:Ks}{st:Hs}(hd:cQ st[d]? =some kvs)(hk:jW (kvs.map (·.1))=true):n_ [.ref d] st= .ok (.ref st.length) (st++[.bX kvs]):=by
 unfold n_
 dsimp only
 rw[hd]
 dsimp only
 rw[if_pos hk]
theorem BG:∀n:Nat,kD (ar n (.bl true))=some (ar n true)
 | 0=>rfl
 | n+1=>by
  rw[fk]
  unfold kD
  rw[BG n]
  rfl
theorem KG{l n:Nat}{st:Hs}(h:ao st l=some (ar n (.bl true))):zy [.ref l] st= .ok (.bl true) st:=by
 show(match ao st l with | some ws=>(match kD ws with | some bs=>Re.ok (Wv.bl (bs.all id)) st | none=> .bad) | none=> .bad)=_
 rw[h]
 dsimp only
 rw[BG]
 dsimp only
 congr 2
 rw[oT]
 intro x hx
 exact(List.mem_replicate.mp hx).2
theorem Dk{cs:iK}{gt:GT}{ge:GE}{ρ:b9}{ws:List Wv}{st:Hs}(h1:∀v∈ws,∀s,gt (some v::dX cs ρ) s= .ok true s)(h2:∀v∈ws,∀s,ge (some v::dX cs ρ) s= .ok (.bl true) s)(hl:ws.length < lim) :
  iq cs gt ge ρ (none,ws) st= .ok (.ref st.length) (st++[.lst (ar ws.length (.bl true))]):=by
 rw[cR (w:=(none,ws)) (t:=λ_=>true) (f:=λ_=> .bl true) trivial (λv hv acc=>h1 v hv _) (λv hv _ acc=>h2 v hv _) hl]
 have e:((ws.filter λ_=>true).map λ_=>Wv.bl true)=ar ws.length (Wv.bl true):=by
  rw[List.filter_eq_self.mpr (λ_ _=>rfl),List.map_const']
 show Re.ok _ (st++[.lst ((ws.filter λ_=>true).map λ_=>Wv.bl true)])=_
 rw[e]
theorem str_is{x:S}{st:Hs}:hJ jf fT [.str x,.ty "str"] st= .ok (.bl true) st:=rfl
theorem int_is{i:Int}{st:Hs}:hJ jf fT [.int i,.ty "int"] st= .ok (.bl true) st:=rfl
theorem OZ{i:Int}{st:Hs}:hJ jf fT [.int i,.ty "bool"] st= .ok (.bl false) st:=rfl
theorem GY{i:Int}{st:Hs}:fb [.int i] st= .ok (.bl true) st:=by
 unfold fb cN j_
 simp[int_is,OZ]
theorem Dl{c:Nat}{st:Hs}(h:Sg c):dH [.int (c:Nat)] st= .ok (.bl true) st:=by
 obtain⟨h1,h2,h3,h4⟩:=h
 have n1:oI (.int (c:Nat)) (.int 34) st= .ok (.bl true) st:=by rw[OK];congr 2;simp;omega
 have n2:oI (.int (c:Nat)) (.int 37) st= .ok (.bl true) st:=by rw[OK];congr 2;simp;omega
 have l1:(32:Int)<=(c:Nat):=by omega
 have l2:((c:Nat):Int)<=126:=by omega
 unfold dH cN iM
 simp[-OK,l1,l2,n1,n2]
theorem KH{x:S}(h:Ap x)(st:Hs):∃st',et [.str x] st= .ok (.bl true) st'/\Gr st st':=by
 have c:=Dk (cs:=[]) (gt:=gX) (ge:=dI) (ρ:=[some (.str x)]) (ws:=eK x) (st:=st) (λ_ _ _=>rfl) (λv hv s=>by
  unfold eK at hv
  obtain⟨i,hi,rfl⟩:=List.mem_map.mp hv
  have o:JQ [.str ⟨#[i]⟩] s= .ok (.int (i:Nat)) s:=rfl
  unfold dI
  simp[o,Dl (h.2 i hi)]) (by
   have:=h.1
   unfold eK lim
   rw[aB]
   show x.cps.toList.length < _
   rw[wK]
   exact Nat.lt_of_le_of_lt (h.1:x.cps.size<=40) (by decide))
 have q:=KG (st:=st++[.lst (ar (eK x).length (.bl true))]) (l:=st.length) ax
 have g1:Gr st (st++[.lst (ar (eK x).length (.bl true))]):=Gr.push
 generalize st++[.lst (ar (eK x).length (.bl true))]=s1 at c q g1
 have ht:cS [.str x] st= .ok (.bl true) s1:=by
  unfold cS cN gn
  simp[c,q]
 have ln:gS [.str x] st= .ok (.int x.length) st:=Bz (bg h.1 (by decide))
 have l40:(x.length:Int)<=40:=by have:=h.1;omega
 refine⟨s1,?_,g1⟩
 unfold et cN jI
 simp[str_is,ln,l40,ht]
theorem GZ{x:S}{st:Hs}:hJ jf fT [.str x,.ty "tuple"] st= .ok (.bl false) st:=rfl
theorem O0{i:Int}{st:Hs}:hJ jf fT [.int i,.ty "tuple"] st= .ok (.bl false) st:=rfl
theorem O1{i:Int}{st:Hs}:hJ jf fT [.int i,.ty "str"] st= .ok (.bl false) st:=rfl
theorem Sw{i:Int}{st:Hs}:et [.int i] st= .ok (.bl false) st:=by
 unfold et cN jI
 simp[O1]
theorem KI{i:Int}{st:Hs}(h1:-LC<=i)(h2:i<=LC):dJ [.int i] st= .ok (.bl true) st:=by
 have c:¬LC < (if i < 0 then -i else i):=by split<;>omega
 have g:iO [.int i] st= .ok (.bl false) st:=by
  unfold iO cN mZ
  simp[Zg,c]
 unfold dJ cN ja
 simp[GY,g]
theorem As{v:Wv}(h:Cn v)(st:Hs):∃st',bP [v] st= .ok v st'/\Gr st st':=by
 rcases h with ⟨i,rfl,h1,h2⟩ | ⟨x,rfl,ht⟩
 ·refine⟨st,?_,Gr.refl⟩
  unfold bP cN dM
  simp[O0,Sw,KI h1 h2]
 ·obtain⟨s1,e1,g1⟩:=KH ht st
  refine⟨s1,?_,g1⟩
  unfold bP cN dM
  simp[GZ,e1]
abbrev Cl:=Pt×Wv
def cw(x:Cl):Wv:=.tup [tI [x.1.1,x.1.2],x.2]
def sx(x:Cl):Prop:=cL x.1.1 x.1.2/\(x.2= .aI\/Cn x.2)
def up(kvs:Ks)(x:Cl):Ks:=match x.2 with
 | .aI=>dy kvs (je x.1)
 | v=>gT kvs (je x.1) v
def ups(kvs:Ks)(cs:List Cl):Ks:=cs.foldl up kvs
theorem Au{kvs:Ks}{p:Pt}:up kvs (p,.aI)=dy kvs (je p):=rfl
theorem BH{kvs:Ks}{p:Pt}{v:Wv}(h:Cn v):up kvs (p,v)=gT kvs (je p) v:=by
 rcases h with ⟨i,rfl,_⟩ | ⟨x,rfl,_⟩<;>rfl
theorem yt(kvs:Ks)(k:List L2.Key)(v:Wv):(gT kvs k v).length<=kvs.length+1:=by
 unfold gT
 split<;>simp
theorem Av{kvs:Ks}{x:Cl}(h:sx x):(up kvs x).length<=kvs.length+1:=by
 obtain⟨p,v⟩:=x
 rcases h.2 with z | z
 ·have z:v= .aI:=z
  subst z
  rw[Au]
  exact bg (u9 _ _) (by omega)
 ·rw[BH z]
  exact yt _ _ _
theorem qo:∀{cs:List Cl}(kvs:Ks),(∀x∈cs,sx x)->(ups kvs cs).length<=kvs.length+cs.length
 | [],kvs,_=>au _
 | x::r,kvs,h=>by
  have h1:=qo (cs:=r) (up kvs x) λy hy=>h y (aN _ hy)
  have h2:=Av (kvs:=kvs) (h x aR)
  show(ups (up kvs x) r).length<=kvs.length+(r.length+1)
  omega
theorem G0{kvs:Ks}{cs:List Cl}{x:Cl}:ups kvs (cs++[x])=up (ups kvs cs) x:=by unfold ups;rw[FY];rfl
theorem BI{k:List L2.Key}:∀{kvs:Ks},bS kvs k=none->dy kvs k=kvs
 | [],_=>rfl
 | p::r,h=>by
  unfold bS at h
  by_cases e:p.1=k
  ·rw[if_pos e] at h;cases h
  ·rw[if_neg e] at h
   unfold dy
   rw[hI,if_pos (by simp[e])]
   exact congrArg (p::·) (BI h)
theorem set_same{st:Hs}{l:Nat}{o:Ob}(h:st[l]? =some o):st.set l o=st:=List.ext_getElem? λj=>by
 by_cases e:l=j
 ·subst e;rw[fG h,h]
 ·rw[cC e]
theorem G_{d:Nat}{kvs:Ks}{p:Pt}{st:Hs}(h:st[d]? =some (.bX kvs)):∃w,FH (.ref d) (tI [p.1,p.2]) .aI st= .ok w (st.set d (.bX (dy kvs (je p)))):=by
 have hk:mn (tI [p.1,p.2])=some (je p):=rfl
 unfold FH
 dsimp only
 rw[h,hk]
 dsimp only
 cases e:bS kvs (je p) with
 | some w=>exact⟨w,rfl⟩
 | none=>exact⟨.aI,by rw[BI e,set_same h]⟩
theorem Sx{v:Wv}{st:Hs}(h:Cn v):Qi v .aI st= .ok (.bl false) st:=by
 rcases h with ⟨i,rfl,_⟩ | ⟨x,rfl,_⟩<;>rfl
theorem Ha{d:Nat}{kvs:Ks}{x:Cl}{st:Hs}(h:st[d]? =some (.bX kvs))(hx:sx x)(hl:kvs.length < 1000):∃st',bB [.ref d,tI [x.1.1,x.1.2],x.2] st= .ok .aI st'/\cx d st st'/\st'[d]? =some (.bX (up kvs x)):=by
 obtain⟨p,v⟩:=x
 obtain⟨h1,h2⟩:=hx
 dsimp only at h1 h2 ⊢
 have mp:=λst:Hs=>made_place (st:=st) h1
 have i0:∀st:Hs,bU (tI [p.1,p.2]) (.int 0) st= .ok (.int p.1) st:=λ_=>rfl
 have i1:∀st:Hs,bU (tI [p.1,p.2]) (.int 1) st= .ok (.int p.2) st:=λ_=>rfl
 rcases h2 with rfl | h2
 ·obtain⟨w,e⟩:=G_ (p:=p) h
  have dv:J2 st (.ref d)=true:=by show(cQ st[d]?).isSome=true;rw[h];rfl
  have is:Qi .aI .aI st= .ok (.bl true) st:=rfl
  refine⟨_,?_,cx.set,by rw[Au];exact fG h⟩
  unfold bB cN eO
  simp[i0,i1,mp,is,og,dv,e]
 ·obtain⟨s1,e1,g1⟩:=As h2 st
  have pd:putD (.ref d) (tI [p.1,p.2]) v s1=some (s1.set d (.bX (gT kvs (je p) v))):=GX (g1.get h) hl
  refine⟨_,?_,g1.keep.trans cx.set,by rw[BH h2];exact fG (g1.get h)⟩
  unfold bB cN eO
  simp[i0,i1,mp,Sx h2,pA,e1,pd]
theorem Hd{C:Wv}{d:Nat}{o2:Option Wv}{x:Cl}{kvs:Ks}{st:Hs}(h:st[d]? =some (.bX kvs))(hx:sx x)(hl:kvs.length < 1000):∃st',df ([some C,some (.ref d),o2].set 2 (some (cw x))) st= .nx [some C,some (.ref d),some (cw x)] st'/\cx d st st'/\st'[d]? =some (.bX (up kvs x)):=by
 obtain⟨s1,e1,k1,h1⟩:=Ha h hx hl
 have a0:bU (cw x) (.int 0) st= .ok (tI [x.1.1,x.1.2]) st:=rfl
 have a1:bU (cw x) (.int 1) st= .ok x.2 st:=rfl
 refine⟨s1,?_,k1,h1⟩
 unfold df
 simp[a0,a1,e1]
theorem Aw{d:Nat}{kvs:Ks}{st:Hs}(h:cQ st[d]? =some kvs):bI [.ref d] st= .ok (.int kvs.length) st:=by
 show(match cQ st[d]? with | some kvs=>Re.ok (Wv.int kvs.length) st | none=>gS [.ref d] st)=_
 rw[h]
theorem room{d:Nat}{kvs:Ks}{st:Hs}(h:st[d]? =some (.bX kvs))(c:kvs.length<=200):cE [.ref d] st= .ok (.ref d) st:=by
 have ln:=Aw (d:=d) (kvs:=kvs) (st:=st) (by rw[h];rfl)
 have c':¬(200:Int) < (kvs.length:Nat):=by omega
 unfold cE cN i9
 simp[ln,c']
theorem Dm{L:Nat}{cs:List Cl}{st:Hs}(hL:ao st L=some (cs.map cw))(hc:∀x∈cs,sx x)(hl:cs.length<=200):∃st',fN [.ref L] st= .ok (.ref st.length) st'/\Gr st st'/\st'[st.length]? =some (.bX (ups [] cs)):=by
 have lt:=oq hL
 have h1:ao (st++[.bX []]) L=some (cs.map cw):=dZ hL
 obtain⟨ρ,s1,e1,⟨o2,rfl,k1,g1⟩,_⟩:=jF (f:=cw) (i:=2) (gb:=df) (l:=L) (all:=cs.map cw) cs (λpre ρ s=>∃o2,ρ=[some (.ref L),some (.ref st.length),o2]/\cx st.length (st++[.bX []]) s/\s[st.length]? =some (.bX (ups [] pre)))
  (λa pre post ρ s hf hP hL'=>by
   obtain⟨o2,rfl,k1,g1⟩:=hP
   have hpre:∀x∈pre,sx x:=λx hx=>hc x (by rw[hf];exact lG _ hx)
   have ul:=qo [] hpre
   have pl:pre.length<=200:=by have:=congrArg dq hf;simp at this;omega
   obtain⟨s2,e2,k2,h2⟩:=Hd (C:=.ref L) (o2:=o2) g1 (hc a (by rw[hf];simp)) (by simp at ul;omega)
   exact⟨_,s2,e2,k2.lst hL' (by omega),_,rfl,k1.trans k2,by rw[G0];exact h2⟩) cs [] [some (.ref L),some (.ref st.length),none] (st++[.bX []]) rfl ⟨none,rfl,cx.refl,eV⟩ h1
 have ul:=qo [] hc
 have rm:=room g1 (by simp at ul;omega)
 have e':kFor 2 df [some (.ref L),some (.ref st.length),none] (.ref L) (st++[.bX []])= .nx [some (.ref L),some (.ref st.length),o2] s1:=by rw[rP h1];exact e1
 refine⟨s1,?_,Gr.push.mU (au _) k1,g1⟩
 unfold fN cN ka
 simp[xw,e',rm]
def wA(cs:List Cl):Ks:=cs.map λx=>(je x.1,x.2)
theorem pe:∀cs:List Cl,fu (wA cs)=some (cs.map cw)
 | []=>rfl
 | x::r=>by
  have ih:=pe r
  unfold wA at ih ⊢
  rw[ay,ay]
  unfold fu
  rw[ih]
  rfl
theorem Hf{d e t:Nat}{o3 o4:Option Wv}{x:Cl}{kvs:Ks}{st:Hs}(h:st[t]? =some (.bX kvs))(hx:sx x)(hl:kvs.length < 1000):∃st',aP [some (.ref d),some (.ref e),some (.ref t),some (tI [x.1.1,x.1.2]),some x.2] st= .nx [some (.ref d),some (.ref e),some (.ref t),some (tI [x.1.1,x.1.2]),some x.2] st'/\cx t st st'/\st'[t]? =some (.bX (up kvs x)):=by
 obtain⟨s1,e1,k1,h1⟩:=Ha h hx hl
 refine⟨s1,?_,k1,h1⟩
 unfold aP
 simp[e1]
theorem LK{d e t:Nat}:∀(cs:List Cl)(kvs:Ks)(o3 o4:Option Wv)(st:Hs),(∀x∈cs,sx x)->st[t]? =some (.bX kvs)->kvs.length+cs.length<=900->
  ∃Ww Dw st',mC [3,4] aP none (cs.map cw) [some (.ref d),some (.ref e),some (.ref t),o3,o4] st= .nx [some (.ref d),some (.ref e),some (.ref t),Ww,Dw] st'/\cx t st st'/\st'[t]? =some (.bX (ups kvs cs))
 | [],kvs,o3,o4,st,_,h,_=>⟨o3,o4,st,rfl,cx.refl,h⟩
 | x::r,kvs,o3,o4,st,hc,h,hl=>by
  have hl':kvs.length+(r.length+1)<=900:=hl
  obtain⟨s1,e1,k1,h1⟩:=Hf (d:=d) (e:=e) (o3:=o3) (o4:=o4) h (hc x aR) (by omega)
  have ul:=Av (kvs:=kvs) (hc x aR)
  obtain⟨Ww,Dw,s2,e2,k2,h2⟩:=LK (d:=d) (e:=e) r (up kvs x) (some (tI [x.1.1,x.1.2])) (some x.2) s1 (λy hy=>hc y (aN _ hy)) h1 (by omega)
  refine⟨Ww,Dw,s2,?_,k1.trans k2,h2⟩
  rw[ay,mC]
  have bd:Nq [3,4] (cw x) [some (.ref d),some (.ref e),some (.ref t),o3,o4]=some [some (.ref d),some (.ref e),some (.ref t),some (tI [x.1.1,x.1.2]),some x.2]:=rfl
  rw[bd]
  dsimp only
  rw[e1]
  dsimp only
  rw[if_pos (show CJ none s1 from trivial)]
  exact e2
theorem BJ{d e t:Nat}{es:Ks}{ws:List Wv}{gb:GS}{s:Hs}(he:s[e]? =some (.bX es))(hi:fu es=some ws) :
  uj 1 (rC [3,4] (jX (af 1)) gb) [some (.ref d),some (.ref e),some (.ref t),none,none] s=(match mC [3,4] gb none ws [some (.ref d),some (.ref e),some (.ref t),none,none] (s.set e (.nL es)) with | .nx ρ' st'=> .nx ρ' (ui e st') | r=>r):=by
 have i1:zO (.ref e) s= .ok (none,ws) (s.set e (.nL es)):=by
  show(match s[e]? with
   | some (.bX kvs)=>(match fu kvs with | some ws=>Re.ok ((none,ws):TQ) (s.set e (.nL kvs)) | none=> .bad)
   | some (.nL kvs)=>(match fu kvs with | some ws=> .ok (none,ws) s | none=> .bad)
   | _=> .bad)=_
  rw[he]
  dsimp only
  rw[hi]
 have g1:jX (af 1) [some (.ref d),some (.ref e),some (.ref t),none,none] s= .ok (none,ws) (s.set e (.nL es)):=by
  unfold jX
  simp[i1]
 have o1:xC ([some (Wv.ref d),some (.ref e),some (.ref t),none,none]:b9)[1]? s=some e:=by
  show(match s[e]? with | some (.bX _)=>some e | _=>none)=_
  rw[he]
 unfold uj
 rw[o1]
 dsimp only
 unfold rC
 rw[g1]
 rfl
theorem changed{d e:Nat}{kvs:Ks}{cs:List Cl}{st:Hs}(hd:cQ st[d]? =some kvs)(he:st[e]? =some (.bX (wA cs)))(hk:jW (kvs.map (·.1))=true)(hc:∀x∈cs,sx x)(hl:kvs.length+cs.length<=900) :
  ∃st',cg [.ref d,.ref e] st= .ok (.ref st.length) st'/\Gr st st'/\st'[st.length]? =some (.bX (ups kvs cs)):=by
 have lt:=rR he
 have en:e≠st.length:=by omega
 have dc:=qm hd hk
 have KJ:(st++[.bX kvs])[e]? =some (.bX (wA cs)):=lq he
 have ht1:(st++[.bX kvs])[st.length]? =some (.bX kvs):=eV
 have g1:Gr st (st++[.bX kvs]):=Gr.push
 generalize st++[.bX kvs]=s1 at dc KJ ht1 g1
 have th:=BJ (d:=d) (t:=st.length) (gb:=aP) KJ (pe cs)
 have Wx:(s1.set e (.nL (wA cs)))[st.length]? =some (.bX kvs):=by rw[cC en];exact ht1
 obtain⟨o3,o4,s2,f,k2,h2⟩:=LK (d:=d) (e:=e) (t:=st.length) cs kvs none none _ hc Wx hl
 rw[f] at th
 dsimp only at th
 have fz:s2[e]? =some (.nL (wA cs)):=by rw[k2.2 e (by simpa using rR KJ) en];exact fG KJ
 have tw:ui e s2=s2.set e (.bX (wA cs)):=by unfold ui;rw[fz]
 rw[tw] at th
 have l1:st.length<=s1.length:=g1.1
 have l2:s1.length<=s2.length:=by simpa using k2.1
 refine⟨s2.set e (.bX (wA cs)),?_,⟨by simp;omega,λj hj=>?_⟩,?_⟩
 rotate_left
 ·by_cases q:j=e
  ·subst q
   rw[fG fz,he]
  ·rw[cC (λz=>q z.symm),k2.2 j (by simp;omega) (by omega),cC (λz=>q z.symm)]
   exact g1.2 j hj
 ·rw[cC en]
  exact h2
 ·unfold cg cN fQ
  simp[dc,th]
theorem BK{kvs:Ks}{k k':List L2.Key}{v:Wv}:bS (gT kvs k v) k'=if k=k' then some v else bS kvs k':=by
 unfold gT
 by_cases h:(kvs.any λkv=>decide (kv.1=k))=true
 ·rw[if_pos h]
  induction kvs with
  | nil=>cases h
  | cons p r ih=>
   rw[ay]
   by_cases e:p.1=k
   ·rw[if_pos e]
    by_cases c:k=k'
    ·unfold bS
     rw[if_pos (by rw[e];exact c),if_pos c]
    ·have c2:¬p.1=k':=by rw[e];exact c
     unfold bS
     rw[if_neg (by exact c2),if_neg c,if_neg c2]
     by_cases hr:(r.any λkv=>decide (kv.1=k))=true
     ·rw[ih hr,if_neg c]
     ·congr 1
      refine(mf (g:=id) λq hq=>?_).trans (List.map_id _)
      rw[if_neg]
      ·rfl
      ·intro z
       exact hr (List.any_eq_true.mpr ⟨q,hq,decide_eq_true z⟩)
   ·rw[if_neg e]
    have hr:(r.any λkv=>decide (kv.1=k))=true:=by
     rw[fY,decide_eq_false e,Bool.false_or] at h
     exact h
    unfold bS
    by_cases c2:p.1=k'
    ·rw[if_pos c2,if_pos c2,if_neg (λz=>e (by rw[c2,z]))]
    ·rw[if_neg c2,if_neg c2]
     exact ih hr
 ·rw[if_neg h]
  have no:bS kvs k=none:=by
   cases q:bS kvs k with
   | none=>rfl
   | some w=>exact absurd (List.any_eq_true.mpr ⟨_,jD q,decide_eq_true rfl⟩) h
  induction kvs with
  | nil=>
   show bS [(k,v)] k'=_
   unfold bS
   rfl
  | cons p r ih=>
   have e:¬p.1=k:=λz=>by unfold bS at no;rw[if_pos z] at no;cases no
   have no':bS r k=none:=by unfold bS at no;rw[if_neg e] at no;exact no
   rw[List.cons_append]
   unfold bS
   by_cases c2:p.1=k'
   ·rw[if_pos c2,if_pos c2,if_neg (λz=>e (by rw[c2,z]))]
   ·rw[if_neg c2,if_neg c2]
    refine ih ?_ no'
    intro z
    exact h (by rw[fY,z,Bool.or_true])
theorem sf{kvs:Ks}{k k':List L2.Key}:bS (dy kvs k) k'=if k=k' then none else bS kvs k':=by
 unfold dy
 induction kvs with
 | nil=>split<;>rfl
 | cons p r ih=>
  rw[hI]
  by_cases e:p.1=k
  ·rw[if_neg (by simp[e]),ih]
   by_cases c:k=k'
   ·rw[if_pos c,if_pos c]
   ·rw[if_neg c,if_neg c]
    unfold bS
    rw[if_neg (by rw[e];exact c)]
    cases r<;>rfl
  ·rw[if_pos (by simp[e])]
   unfold bS
   by_cases c2:p.1=k'
   ·rw[if_pos c2,if_pos c2,if_neg (λz=>e (by rw[c2,z]))]
   ·rw[if_neg c2,if_neg c2]
    exact ih
def nz:Wv->Option Wv
 | .aI=>none
 | v=>some v
theorem LL{v:Wv}(h:Cn v):nz v=some v:=by
 rcases h with ⟨i,rfl,_⟩ | ⟨x,rfl,_⟩<;>rfl
theorem O2{kvs:Ks}{x:Cl}(h:sx x)(k:List L2.Key):bS (up kvs x) k=if je x.1=k then nz x.2 else bS kvs k:=by
 obtain⟨p,v⟩:=x
 rcases h.2 with z | z
 ·have z:v= .aI:=z
  subst z
  rw[Au,sf]
  rfl
 ·rw[BH z,BK]
  dsimp only
  rw[LL z]
def O3(A B:Ks):Prop:=∀k,bS A k=bS B k
def kJ(kvs:Ks)(ps:List Pt):Prop:=kvs.map (·.1)=ps.map je/\ps.Nodup/\(∀p∈ps,cL p.1 p.2)/\∀kv∈kvs,kv.2= .aI\/Cn kv.2
theorem wB{p q:Pt}(h:je p=je q):p=q:=Prod.ext (GW h).1 (GW h).2
open Classical in
theorem yu{kvs:Ks}{k:List L2.Key}{v:Wv}:(gT kvs k v).map (·.1)=if k∈kvs.map (·.1) then kvs.map (·.1) else kvs.map (·.1)++[k]:=by
 unfold gT
 by_cases h:(kvs.any λkv=>decide (kv.1=k))=true
 ·rw[if_pos h]
  obtain⟨p,hp,e⟩:=List.any_eq_true.mp h
  rw[if_pos (List.mem_map.mpr ⟨p,hp,of_decide_eq_true e⟩),aW]
  refine mf λq _=>?_
  show(if q.1=k then(q.1,v) else q).1=q.1
  split<;>rfl
 ·rw[if_neg h,if_neg,cq]
  ·rfl
  ·intro z
   obtain⟨p,hp,e⟩:=List.mem_map.mp z
   exact h (List.any_eq_true.mpr ⟨p,hp,decide_eq_true e⟩)
theorem Hg{kvs:Ks}{k:List L2.Key}{v:Wv}{kv:List L2.Key×Wv}(h:kv∈gT kvs k v):kv.2=v\/kv∈kvs:=by
 unfold gT at h
 split at h
 ·obtain⟨q,hq,rfl⟩:=List.mem_map.mp h
  by_cases c:q.1=k
  ·rw[if_pos c];exact .inl rfl
  ·rw[if_neg c];exact .inr hq
 ·rcases List.mem_append.mp h with z | z
  ·exact .inr z
  ·rw[List.mem_singleton.mp z];exact .inl rfl
theorem kJ.put{kvs:Ks}{ps:List Pt}{p:Pt}{v:Wv}(h:kJ kvs ps)(hp:cL p.1 p.2)(hv:v= .aI\/Cn v):∃qs,kJ (gT kvs (je p) v) qs:=by
 obtain⟨h1,h2,h3,h4⟩:=h
 have hv':∀kv∈gT kvs (je p) v,kv.2= .aI\/Cn kv.2:=λkv hk=>by
  rcases Hg hk with z | z
  ·rw[z];exact hv
  ·exact h4 kv z
 by_cases c:je p∈kvs.map (·.1)
 ·exact⟨ps,by rw[yu,if_pos c];exact h1,h2,h3,hv'⟩
 ·refine⟨ps++[p],by rw[yu,if_neg c,h1,cq];rfl,?_,?_,hv'⟩
  ·rw[BL]
   refine⟨h2,by simp,λx hx y hy=>?_⟩
   rw[List.mem_singleton.mp hy]
   intro z
   exact c (by rw[h1];exact List.mem_map.mpr ⟨x,hx,by rw[z]⟩)
  ·intro q hq
   rcases List.mem_append.mp hq with z | z
   ·exact h3 q z
   ·rw[List.mem_singleton.mp z];exact hp
theorem kJ.drop{kvs:Ks}{ps:List Pt}{p:Pt}(h:kJ kvs ps):∃qs,kJ (dy kvs (je p)) qs:=by
 obtain⟨h1,h2,h3,h4⟩:=h
 refine⟨ps.filter λq=>decide (q≠p),?_,h2.sublist List.filter_sublist,λq hq=>h3 q (List.mem_filter.mp hq).1,λkv hk=>h4 kv (List.mem_filter.mp hk).1⟩
 clear h2 h3 h4
 unfold dy
 induction kvs generalizing ps with
 | nil=>cases ps with
  | nil=>rfl
  | cons q r=>cases h1
 | cons x r ih=>cases ps with
  | nil=>cases h1
  | cons q t=>
   rw[ay,ay] at h1
   injection h1 with a1 a2
   rw[hI,hI]
   by_cases c:q=p
   ·rw[if_neg (by simp[a1,c]),if_neg (by simp[c])]
    exact ih a2
   ·have:¬x.1=je p:=λz=>c (wB (by rw[<-a1];exact z))
    rw[if_pos (by simp[this]),if_pos (by simp[c]),ay,ay,ih a2,a1]
theorem kJ.ups{kvs:Ks}{ps:List Pt}(h:kJ kvs ps):∀{cs:List Cl},(∀x∈cs,sx x)->∃qs,kJ (ups kvs cs) qs:=λ{cs}=>by
 induction cs generalizing kvs ps with
 | nil=>exact λ_=>⟨ps,h⟩
 | cons x r ih=>
  intro hc
  obtain⟨p,v⟩:=x
  have hx:=hc (p,v) aR
  have:∃qs,kJ (up kvs (p,v)) qs:=by
   rcases hx.2 with z | z
   ·have z:v= .aI:=z
    subst z
    exact h.drop
   ·rw[BH z]
    exact h.put hx.1 (.inr z)
  obtain⟨qs,hq⟩:=this
  exact ih hq λy hy=>hc y (aN _ hy)
theorem kJ.hash{kvs:Ks}{ps:List Pt}(h:kJ kvs ps):jW (kvs.map (·.1))=true:=OY h.1 h.2.1 h.2.2.1
theorem kJ.dat{kvs:Ks}{ps:List Pt}(h:kJ kvs ps):∀kv∈kvs,∃d:PyData,(∀st:Hs,a8 st 20 kv.2=some d)/\bf d d=true:=λkv hk=>Sv (h.2.2.2 kv hk)
theorem KL{kvs:Ks}{k:List L2.Key}:(bS kvs k).isSome=true↔k∈kvs.map (·.1):=by
 constructor
 ·intro h
  obtain⟨v,e⟩:=Option.isSome_iff_exists.mp h
  exact List.mem_map.mpr ⟨_,jD e,rfl⟩
 ·intro h
  obtain⟨v,e⟩:=ma h
  rw[e]
  rfl
theorem O3.perm{A B:Ks}{ps qs:List Pt}(h:O3 A B)(ha:kJ A ps)(hb:kJ B qs):ps.Perm qs:=by
 refine(List.perm_ext_iff_of_nodup ha.2.1 hb.2.1).mpr λp=>?_
 have e:∀{kvs:Ks}{ps:List Pt},kJ kvs ps->(p∈ps↔(bS kvs (je p)).isSome=true):=λ{kvs ps} h=>by
  rw[KL,h.1]
  exact⟨λz=>List.mem_map.mpr ⟨p,z,rfl⟩,λz=>by obtain⟨q,hq,e⟩:=List.mem_map.mp z;exact wB e ▸ hq⟩
 rw[e ha,e hb,h]
theorem Hh{A B:Ks}{ps qs:List Pt}{l k:Nat}{st:Hs}(h:O3 A B)(ha:kJ A ps)(hb:kJ B qs)(h1:cQ st[l]? =some A)(h2:cQ st[k]? =some B):CU (.ref l) (.ref k) st= .ok (.bl true) st/\sL (.ref l) (.ref k) st= .ok (.bl false) st:=by
 have dA:=(same_self (st:=st) ha.dat).1
 have dB:=(same_self (st:=st) hb.dat).1
 have len:A.length=B.length:=by
  have e1:=congrArg dq ha.1
  have e2:=congrArg dq hb.1
  have:=(h.perm ha hb).length_eq
  simp at e1 e2
  omega
 have sm:mD st A B=true:=by
  unfold mD
  rw[decide_eq_true len,zP,oT]
  intro k hk
  obtain⟨v,e⟩:=ma hk
  obtain⟨d,d1,d2⟩:=ha.dat _ (jD e)
  unfold J6
  rw[<-h k,e]
  dsimp only
  rw[d1]
  simpa using d2
 have d1:rG st (.ref l)=some A:=h1
 have d2:rG st (.ref k)=some B:=h2
 unfold CU sL
 rw[d1,d2]
 dsimp only
 rw[if_pos ⟨dA,dB⟩,if_pos ⟨dA,dB⟩,sm]
 exact⟨rfl,rfl⟩
abbrev Cw:=Pt×Wo
def jK(r b:Int):List Wo->List Cw
 | []=>[]
 | w::t=>((r,b),w)::jK r (b+1) t
def oF(r b:Int):List (List Wo)->List Cw
 | []=>[]
 | l::t=>jK r b l++oF (r+1) b t
def toC(x:Cw):Cl:=(x.1,x.2.w)
def pW(x:Cw):Wv:=.tup [.int x.1.1,.int x.1.2]
def bT(hs:List S)(rows:List (List Wo)):List (List Wo):=hs.map Wo.str::rows
theorem sg(r b:Int):∀l:List Wo,(jK r b l).length=l.length
 | []=>rfl
 | w::t=>by simp[jK,sg r (b+1) t]
theorem lD{r:Int}:∀{l:List Wo}{b:Int}{x:Cw},x∈jK r b l->x.1.1=r/\b<=x.1.2/\x.1.2 < b+l.length/\x.2∈l
 | [],b,x,h=>by cases h
 | w::t,b,x,h=>by
  rcases List.mem_cons.mp h with rfl | h
  ·exact⟨rfl,by simp,by simp;omega,by simp⟩
  ·obtain⟨h1,h2,h3,h4⟩:=lD h
   exact⟨h1,by omega,by simp;omega,by simp[h4]⟩
theorem sh{b:Int}{n:Nat}:∀{ls:List (List Wo)}{r:Int}{x:Cw},(∀l∈ls,l.length=n)->x∈oF r b ls->r<=x.1.1/\x.1.1 < r+ls.length/\b<=x.1.2/\x.1.2 < b+n/\∃l∈ls,x.2∈l
 | [],r,x,_,h=>by cases h
 | l::t,r,x,hn,h=>by
  rcases List.mem_append.mp h with h | h
  ·obtain⟨h1,h2,h3,h4⟩:=lD h
   have:=hn l aR
   exact⟨by omega,by simp;omega,h2,by omega,l,aR,h4⟩
  ·obtain⟨h1,h2,h3,h4,m,hm,hx⟩:=sh (λl hl=>hn l (aN _ hl)) h
   exact⟨by omega,by simp;omega,h3,h4,m,aN _ hm,hx⟩
theorem BM{r:Int}:∀{l:List Wo}{b:Int},((jK r b l).map (·.1)).Nodup
 | [],b=>qc
 | w::t,b=>by
  show(((r,b):Pt)::(jK r (b+1) t).map (·.1)).Nodup
  rw[BF]
  refine⟨λh=>?_,BM⟩
  obtain⟨x,hx,e⟩:=List.mem_map.mp h
  have:=(lD hx).2.1
  rw[e] at this
  have:b+1<=b:=this
  omega
theorem BN{b:Int}{n:Nat}:∀{ls:List (List Wo)}{r:Int},(∀l∈ls,l.length=n)->((oF r b ls).map (·.1)).Nodup
 | [],r,_=>qc
 | l::t,r,hn=>by
  show((jK r b l++oF (r+1) b t).map (·.1)).Nodup
  rw[cq,BL]
  have hn':∀l∈t,l.length=n:=λl hl=>hn l (aN _ hl)
  refine⟨BM,BN hn',λp hp q hq e=>?_⟩
  obtain⟨x,hx,e1⟩:=List.mem_map.mp hp
  obtain⟨y,hy,e2⟩:=List.mem_map.mp hq
  have h1:=(lD hx).1
  have h2:=(sh hn' hy).1
  rw[e1,e] at h1
  rw[e2] at h2
  omega
theorem yv{b:Int}{n:Nat}:∀{ls:List (List Wo)}{r:Int},(∀l∈ls,l.length=n)->(oF r b ls).length=ls.length * n
 | [],r,_=>by simp[oF]
 | l::t,r,hn=>by
  show(jK r b l++oF (r+1) b t).length=_
  rw[cY,sg,hn l aR,yv λl hl=>hn l (aN _ hl),gD,lJ,AN]
theorem Hi{r:Int}:∀(l:List Wo)(b:Int),(jK r b l).map pW=mq r b l.length
 | [],b=>rfl
 | w::t,b=>by
  show pW ((r,b),w)::(jK r (b+1) t).map pW=_
  rw[Hi t (b+1)]
  unfold mq
  rw[gD,vB,ay,aW]
  congr 1
  ·show Wv.tup [.int r,.int b]= .tup [.int r,.int (b+(0:Nat))]
   simp
  ·refine mf λk _=>?_
   show Wv.tup [.int r,.int (b+1+(k:Nat))]= .tup [.int r,.int (b+((k+1:Nat):Int))]
   congr 3
   rw[show b+1+(k:Int)=b+((k+1:Nat):Int) by omega]
theorem Hj{b:Int}{n:Nat}:∀(ls:List (List Wo))(r:Int),(∀l∈ls,l.length=n)->(oF r b ls).map pW=g_ r b ls.length n
 | [],r,_=>rfl
 | l::t,r,hn=>by
  show(jK r b l++oF (r+1) b t).map pW=_
  rw[cq,Hi,hn l aR,Hj t (r+1) λl hl=>hn l (aN _ hl)]
  unfold g_
  rw[gD,vB,ay,jP,aW]
  congr 1
  ·simp
  ·congr 1
   refine mf λk _=>?_
   show mq (r+1+(k:Int)) b n=mq (r+((k+1:Nat):Int)) b n
   rw[show r+1+(k:Int)=r+((k+1:Nat):Int) by omega]
theorem Hk{r:Int}:∀(l:List Wo)(b:Int),(jK r b l).map (·.2)=l
 | [],b=>rfl
 | w::t,b=>by
  show w::(jK r (b+1) t).map (·.2)=_
  rw[Hk t]
theorem Ax{b:Int}:∀(ls:List (List Wo))(r:Int),(oF r b ls).map (·.2)=ls.flatten
 | [],r=>rfl
 | l::t,r=>by
  show(jK r b l++oF (r+1) b t).map (·.2)=_
  rw[cq,Hk,Ax t,jP]
theorem Hl:∀cs:List Cw,fm mn (cs.map pW)=some (cs.map λx=>je x.1)
 | []=>rfl
 | x::r=>by
  rw[ay,ay]
  unfold fm
  rw[Hl r]
  rfl
theorem uB:∀(l acc:Ks),((acc++l).map (·.1)).Nodup->lT acc l=acc++l
 | [],acc,_=>by rw[jO];rfl
 | p::r,acc,h=>by
  have hn:p.1∉acc.map (·.1):=λz=>by
   rw[cq,BL] at h
   exact h.2.2 p.1 z p.1 (by simp) rfl
  show lT (gT acc p.1 p.2) r=_
  rw[KC hn,uB r (acc++[(p.1,p.2)]) (by simpa using h)]
  simp
theorem O4{ps:List Pt}(h:ps.Nodup):(ps.map je).Nodup:=by
 rw[List.nodup_iff_pairwise_ne,List.pairwise_map]
 exact(List.nodup_iff_pairwise_ne.mp h).imp λhne e=>hne (wB e)
theorem Sy{i j:Nat}{cs:List Cw}{st:Hs}(hi:ao st i=some (cs.map pW))(hj:ao st j=some (cs.map λx=>x.2.w))(hn:(cs.map (·.1)).Nodup):rK [.ref i,.ref j] st= .ok (.ref st.length) (st++[.bX (wA (cs.map toC))]):=by
 have e:lT [] ((cs.map λx=>je x.1).zip (cs.map λx=>x.2.w))=wA (cs.map toC):=by
  have z:(cs.map λx=>je x.1).zip (cs.map λx=>x.2.w)=wA (cs.map toC):=by
   unfold wA
   rw[aW,List.zip_map',mf]
   intro x _
   rfl
  rw[z,uB _ [] ?_]
  ·rfl
  ·rw[lK]
   have:(wA (cs.map toC)).map (·.1)=(cs.map (·.1)).map je:=by
    unfold wA
    rw[aW,aW,aW]
    rfl
   rw[this]
   exact O4 hn
 show(match ao st i,ao st j with
  | some us,some ws=>(match fm mn us with | some ks=>if us.length=ws.length then Re.ok (Wv.ref st.length) (st++[Ob.bX (lT [] (ks.zip ws))]) else .bad | none=> .bad)
  | _,_=> .bad)=_
 rw[hi,hj]
 dsimp only
 rw[Hl]
 dsimp only
 rw[if_pos (by simp),e]
def pR:Wo->Bool
 | .str x=>decide (40 < x.length)
 | _=>false
theorem uC{w:Wo}(h:w.ok=true)(k:pR w=false):w.w= .aI\/Cn w.w:=by
 cases w with
 | aI=>exact .inl rfl
 | int i=>
  unfold Wo.ok at h
  rw[cz] at h
  exact .inr (.inl ⟨i,rfl,of_decide_eq_true h.1,of_decide_eq_true h.2⟩)
 | str x=>
  unfold Wo.ok at h
  rw[cz,oT] at h
  refine .inr (.inr ⟨x,rfl,?_,λc hc=>(show 32<=c/\c<=126/\c≠34/\c≠37 from of_decide_eq_true (h.2 c hc))⟩)
  have:=of_decide_eq_false k
  omega
theorem BO{w:Wo}(h:w.ok=true)(k:pR w=true):∃x:S,w= .str x/\40 < x.length/\x.length<=200:=by
 cases w with
 | str x=>
  unfold Wo.ok at h
  rw[cz] at h
  exact⟨x,rfl,of_decide_eq_true k,of_decide_eq_true h.1⟩
 | _=>cases k
theorem yw{x:S}{st:Hs}(h:40 < x.length)(k:x.length<=200):bP [.str x] st= .err "BadContent" st:=by
 have ln:gS [.str x] st= .ok (.int x.length) st:=Bz (bg k (by decide))
 have c:¬(x.length:Int)<=40:=by omega
 have t:et [.str x] st= .ok (.bl false) st:=by
  unfold et cN jI
  simp[str_is,ln,c]
 have si:hJ jf fT [.str x,.ty "int"] st= .ok (.bl false) st:=rfl
 have w:fb [.str x] st= .ok (.bl false) st:=by
  unfold fb cN j_
  simp[si]
 have n:dJ [.str x] st= .ok (.bl false) st:=by
  unfold dJ cN ja
  simp[w]
 unfold bP cN dM
 simp[GZ,t,n,lim]
theorem KN{d:Nat}{p:Pt}{x:S}{st:Hs}(hp:cL p.1 p.2)(h:40 < x.length)(k:x.length<=200):bB [.ref d,tI [p.1,p.2],.str x] st= .err "BadContent" st:=by
 have i0:bU (tI [p.1,p.2]) (.int 0) st= .ok (.int p.1) st:=rfl
 have i1:bU (tI [p.1,p.2]) (.int 1) st= .ok (.int p.2) st:=rfl
 have is:Qi (.str x) .aI st= .ok (.bl false) st:=rfl
 unfold bB cN eO
 simp[i0,i1,made_place hp,is,pA,yw h k]
theorem LM{d e t:Nat}:∀(cs:List Cw)(kvs:Ks)(o3 o4:Option Wv)(st:Hs),(∀x∈cs,cL x.1.1 x.1.2/\x.2.ok=true)->(∃x∈cs,pR x.2=true)->st[t]? =some (.bX kvs)->kvs.length+cs.length<=900->
  ∃ρ st',mC [3,4] aP none ((cs.map toC).map cw) [some (.ref d),some (.ref e),some (.ref t),o3,o4] st= .err "BadContent" ρ st'/\cx t st st'
 | [],kvs,o3,o4,st,_,h,_,_=>by obtain⟨x,hx,_⟩:=h;cases hx
 | x::r,kvs,o3,o4,st,hc,hb,h,hl=>by
  have hl':kvs.length+(r.length+1)<=900:=hl
  obtain⟨hp,ho⟩:=hc x aR
  have bd:Nq [3,4] (cw (toC x)) [some (.ref d),some (.ref e),some (.ref t),o3,o4]=some [some (.ref d),some (.ref e),some (.ref t),some (tI [x.1.1,x.1.2]),some x.2.w]:=rfl
  rw[ay,ay,mC,bd]
  dsimp only
  cases hg:pR x.2 with
  | true=>
   obtain⟨z,hz,z1,z2⟩:=BO ho hg
   have pb:=KN (d:=t) (p:=x.1) (x:=z) (st:=st) hp z1 z2
   refine⟨[some (.ref d),some (.ref e),some (.ref t),some (tI [x.1.1,x.1.2]),some x.2.w],st,?_,cx.refl⟩
   have g:aP [some (.ref d),some (.ref e),some (.ref t),some (tI [x.1.1,x.1.2]),some x.2.w] st= .err "BadContent" [some (.ref d),some (.ref e),some (.ref t),some (tI [x.1.1,x.1.2]),some x.2.w] st:=by
    rw[hz]
    unfold aP
    simp[Wo.w,pb]
   rw[g]
  | false=>
   have hx:sx (toC x):=⟨hp,uC ho hg⟩
   obtain⟨s1,e1,k1,h1⟩:=Hf (d:=d) (e:=e) (o3:=o3) (o4:=o4) h hx (by omega)
   have ul:=Av (kvs:=kvs) hx
   have hb':∃y∈r,pR y.2=true:=by
    obtain⟨y,hy,hg'⟩:=hb
    rcases List.mem_cons.mp hy with rfl | hy
    ·rw[hg] at hg';cases hg'
    ·exact⟨y,hy,hg'⟩
   obtain⟨ρ,s2,e2,k2⟩:=LM (d:=d) (e:=e) r (up kvs (toC x)) (some (tI [x.1.1,x.1.2])) (some x.2.w) s1 (λy hy=>hc y (aN _ hy)) hb' h1 (by omega)
   refine⟨ρ,s2,?_,k1.trans k2⟩
   have A3:aP [some (.ref d),some (.ref e),some (.ref t),some (tI [x.1.1,x.1.2]),some x.2.w] st= .nx [some (.ref d),some (.ref e),some (.ref t),some (tI [x.1.1,x.1.2]),some x.2.w] s1:=e1
   rw[A3]
   dsimp only
   rw[if_pos (show CJ none s1 from trivial)]
   exact e2
theorem Hm{d e:Nat}{kvs:Ks}{cs:List Cw}{st:Hs}(hd:cQ st[d]? =some kvs)(he:st[e]? =some (.bX (wA (cs.map toC))))(hk:jW (kvs.map (·.1))=true)(hc:∀x∈cs,cL x.1.1 x.1.2/\x.2.ok=true)(hb:∃x∈cs,pR x.2=true)(hl:kvs.length+cs.length<=900) :
  ∃st',b8 [.ref d,.ref e] st= .err "BadContent" st'/\cx e st st':=by
 have lt:=rR he
 have en:e≠st.length:=by omega
 have dc:=qm hd hk
 have KJ:(st++[.bX kvs])[e]? =some (.bX (wA (cs.map toC))):=lq he
 have ht1:(st++[.bX kvs])[st.length]? =some (.bX kvs):=eV
 have g1:Gr st (st++[.bX kvs]):=Gr.push
 generalize st++[.bX kvs]=s1 at dc KJ ht1 g1
 have th:=BJ (d:=d) (t:=st.length) (gb:=aP) KJ (pe (cs.map toC))
 have Wx:(s1.set e (.nL (wA (cs.map toC))))[st.length]? =some (.bX kvs):=by rw[cC en];exact ht1
 obtain⟨ρ,s2,f,k2⟩:=LM (d:=d) (e:=e) (t:=st.length) cs kvs none none _ hc hb Wx hl
 rw[f] at th
 dsimp only at th
 have w:cg [.ref d,.ref e] st= .err "BadContent" s2:=by
  unfold cg cN fQ
  simp[dc,th]
 refine⟨s2,?_,⟨?_,λj hj hje=>?_⟩⟩
 ·unfold b8 cN fR
  simp[w]
 ·have:=k2.1
  have:=g1.1
  simp at *
  omega
 ·rw[k2.2 j (by simp;have:=g1.1;omega) (by omega),cC (λz=>hje z.symm)]
  exact g1.2 j hj
theorem roomF{d:Nat}{kvs:Ks}{st:Hs}(h:st[d]? =some (.bX kvs))(c:200 < kvs.length):cE [.ref d] st= .err "Full" st:=by
 have ln:=Aw (d:=d) (kvs:=kvs) (st:=st) (by rw[h];rfl)
 have c':(200:Int) < (kvs.length:Nat):=by omega
 unfold cE cN i9
 simp[ln,c',lim]
theorem pf{l:Nat}{ws:List Wv}{st:Hs}(h:st[l]? =some (.lst ws)):bI [.ref l] st= .ok (.int ws.length) st:=by
 show(match cQ st[l]? with | some kvs=>Re.ok (Wv.int kvs.length) st | none=>gS [.ref l] st)=_
 rw[h]
 exact By (fH h)
theorem ni{ws:List Wv}{st:Hs}:bI [.tup ws] st= .ok (.int ws.length) st:=rfl
theorem O5(hs:List S):a9 (hs.map Wo.str)= .tup (hs.map Wv.str):=by
 unfold a9
 rw[aW]
 rfl
theorem Hn{L W:Nat}{ls:List (List Wo)}{n:Nat}{r0 r1 r2 r3 r5:Option Wv}{st:Hs}(hL:ao st L=some (ls.map a9))(hW:st[W]? =some (.lst []))(hne:L≠W)(hn:∀l∈ls,l.length=n)(hl:ls.length * n<=300) :
  ∃o7 st',forL 7 dP L (ls.map a9) (ls.map a9) [r0,r1,r2,r3,some (.ref L),r5,some (.ref W),none] st= .nx [r0,r1,r2,r3,some (.ref L),r5,some (.ref W),o7] st'/\cx W st st'/\st'[W]? =some (.lst (ls.flatten.map Wo.w)):=by
 obtain⟨ρ,s1,e1,⟨o7,rfl,k1,g1⟩,_⟩:=jF (f:=a9) (i:=7) (gb:=dP) (l:=L) (all:=ls.map a9) ls (λpre ρ s=>∃o7,ρ=[r0,r1,r2,r3,some (.ref L),r5,some (.ref W),o7]/\cx W st s/\s[W]? =some (.lst (pre.flatten.map Wo.w)))
  (λa pre post ρ s hf hP hL'=>by
   obtain⟨o7,rfl,k1,g1⟩:=hP
   have ha:a.length=n:=hn a (by rw[hf];simp)
   have pl:pre.flatten.length=pre.length * n:=by
    have:∀ls:List (List Wo),(∀l∈ls,l.length=n)->ls.flatten.length=ls.length * n:=λls h=>by
     induction ls with
     | nil=>simp
     | cons l t ih=>rw[jP,cY,h l aR,ih λl hl=>h l (aN _ hl),gD,lJ,AN]
    exact this pre λl h=>hn l (by rw[hf];exact lG _ h)
   have pb:(pre.length+1) * n<=300:=bg (Nat.mul_le_mul_right n (by have:=congrArg dq hf;simp at this;omega)) hl
   rw[lJ] at pb
   have ex:pB (.ref W) (a9 a) s= .ok .aI (s.set W (.lst ((pre++[a]).flatten.map Wo.w))):=by
    show(match s[W]? with | some (.lst ws)=>if ws.length+(a.map Wo.w).length<=lim then Re.ok Wv.aI (s.set W (.lst (ws++a.map Wo.w))) else .bad | _=> .bad)=_
    rw[g1]
    dsimp only
    rw[if_pos (by rw[aB,aB];unfold lim;omega)]
    congr 3
    rw[List.flatten_append,cq]
    simp
   have km:=λga ρ=>ou (mt:=pB) (ga:=ga) (ρ:=ρ) (st:=s) (l:=W) (fH g1)
   refine⟨[r0,r1,r2,r3,some (.ref L),r5,some (.ref W),some (a9 a)],_,?_,cx.set.lst hL' hne,_,rfl,k1.trans cx.set,fG g1⟩
   unfold dP
   simp[km,ex]) ls [] [r0,r1,r2,r3,some (.ref L),r5,some (.ref W),none] st rfl ⟨none,rfl,cx.refl,by simpa using hW⟩ hL
 exact⟨o7,s1,e1,k1,g1⟩
theorem mh{hs:List S}{rows:List (List Wo)}(T:Tb hs rows):∀l∈bT hs rows,l.length=hs.length:=λl hl=>by
 rcases List.mem_cons.mp hl with rfl | hl
 ·simp
 ·exact T.wd l hl
theorem Sz{x:S}(h:Ap x):(Wo.str x).ok=true/\pR (.str x)=false:=by
 refine⟨?_,decide_eq_false (by have:=h.1;omega)⟩
 show(decide (x.length<=200)&&x.cps.toList.all λc=>decide (32<=c/\c<=126/\c≠34/\c≠37))=true
 rw[cz,oT]
 exact⟨decide_eq_true (by have:=h.1;omega),λc hc=>decide_eq_true (show Sg c from h.2 c hc)⟩
theorem LN{hs:List S}{rows:List (List Wo)}(T:Tb hs rows):∀l∈bT hs rows,∀w∈l,w.ok=true:=λl hl w hw=>by
 rcases List.mem_cons.mp hl with rfl | hl
 ·obtain⟨h,hh,rfl⟩:=List.mem_map.mp hw
  exact(Sz (T.of h hh)).1
 ·exact T.ok l hl w hw
theorem qp{hs:List S}{rows:List (List Wo)}(T:Tb hs rows){g:GA}{ρ:b9}{st:Hs}:∃(L:Nat)(s:Hs),Gr st s/\st.length < L/\L+1=s.length/\s[L]? =some (.lst ((bT hs rows).map a9))/\
  jj [.tup (rows.map a9)] (st++[.lst [.tup (hs.map Wv.str)]])= .ok (.ref (st.length+1)) ((st++[.lst [.tup (hs.map Wv.str)]])++[.lst (rows.map a9)])/\
  bQ (.ref st.length) (.ref (st.length+1)) ((st++[.lst [.tup (hs.map Wv.str)]])++[.lst (rows.map a9)])= .ok (.ref L) s:=by
 obtain⟨s1,hs1⟩:∃s1,st++[Ob.lst [.tup (hs.map Wv.str)]]=s1:=⟨_,rfl⟩
 have n1:s1.length=st.length+1:=by rw[<-hs1];simp
 have l1:ao s1 st.length=some [.tup (hs.map Wv.str)]:=by rw[<-hs1];exact ax
 rw[hs1]
 have l2:ao (s1++[.lst (rows.map a9)]) (st.length+1)=some (rows.map a9):=by rw[<-n1];exact ax
 have ad:=add_l (st:=s1++[.lst (rows.map a9)]) (dZ l1) l2 (by rw[aB];have:=T.rw';simp;unfold lim;omega)
 refine⟨_,_,?_,?_,?_,?_,?_,ad⟩
 ·have:Gr st s1:=by rw[<-hs1];exact Gr.push
  exact this.trans (Gr.push.trans Gr.push)
 ·simp;omega
 ·simp
 ·rw[eV]
  congr 2
  show _=a9 (hs.map Wo.str)::rows.map a9
  rw[O5]
  rfl
 ·rw[show st.length+1=s1.length from n1.symm]
  rfl
def mi(a b:Int)(hs:List S)(rows:List (List Wo)):List Cw:=oF a b (bT hs rows)
theorem wC{a b:Int}{m n:Nat}(hm:1<=m)(hn:1<=n)(hm':m<=99)(hn':n<=26):iT a b (a+m - 1) (b+n - 1)↔cL a b/\a+m<=99/\b+n<=26/\(m:Int) * n<=300:=by
 have e:(a+m - 1 - a+1) * (b+n - 1 - b+1)=(m:Int) * n:=by congr 1<;>omega
 unfold iT cL
 rw[e]
 constructor
 ·rintro⟨h1,h2,h3,h4,h5,h6,h7⟩
  exact⟨⟨h1,by omega,h4,by omega⟩,by omega,by omega,h7⟩
 ·rintro⟨⟨h1,h2,h3,h4⟩,h5,h6,h7⟩
  exact⟨h1,by omega,by omega,h3,by omega,by omega,h7⟩
theorem putN{a b:Int}{d:Nat}{t:Wv}{st:Hs}(h:¬cL a b):bb [.ref d,tI [a,b],t] st= .err "BadPlace" st:=by
 have i0:bU (tI [a,b]) (.int 0) st= .ok (.int a) st:=rfl
 have i1:bU (tI [a,b]) (.int 1) st= .ok (.int b) st:=rfl
 unfold bb cN ff
 simp[i0,i1,ym h]
theorem Wy{a b:Int}{d:Nat}{hs:List S}{rows:List (List Wo)}{st:Hs}(T:Tb hs rows)(h:cL a b)(k:¬iT a b (a+(rows.length+1:Nat) - 1) (b+hs.length - 1)):∃st',bb [.ref d,tI [a,b],bj hs rows] st= .err "NoRoom" st'/\Gr st st':=by
 obtain⟨L,s1,g1,_,_,hL,e1,e2⟩:=qp T (g:=aq) (ρ:=[]) (st:=st)
 have i0:∀st:Hs,bU (tI [a,b]) (.int 0) st= .ok (.int a) st:=λ_=>rfl
 have i1:∀st:Hs,bU (tI [a,b]) (.int 1) st= .ok (.int b) st:=λ_=>rfl
 have ln:=pf hL
 rw[show((bT hs rows).map a9).length=rows.length+1 by simp[bT]] at ln
 have lt:∀st:Hs,bI [.tup (hs.map Wv.str)] st= .ok (.int hs.length) st:=λst=>by rw[ni,aB]
 have ia:=wu (a:=a) (b:=b) (c:=a+(rows.length+1:Nat) - 1) (d:=b+hs.length - 1) (st:=s1)
 rw[decide_eq_false k] at ia
 unfold tI at ia
 simp only[ay,lL] at ia
 refine⟨s1,?_,g1⟩
 unfold bb cN ff
 simp[-cJ,-Ho,i0,i1,made_place h,Du,wF,e1,e2,ln,lt,ia,lim]
theorem O6{a b:Int}{d:Nat}{hs:List S}{rows:List (List Wo)}{st:Hs}(T:Tb hs rows)(hA:iT a b (a+(rows.length+1:Nat) - 1) (b+hs.length - 1)):∃(e:Nat)(s:Hs),Gr st s/\st.length<=e/\s[e]? =some (.bX (wA ((mi a b hs rows).map toC)))/\
  (∀v s',b8 [.ref d,.ref e] s= .ok v s'->bb [.ref d,tI [a,b],bj hs rows] st= .ok v s')/\∀c s',b8 [.ref d,.ref e] s= .err c s'->bb [.ref d,tI [a,b],bj hs rows] st= .err c s':=by
 obtain⟨⟨p1,p2,p3,p4⟩,p5,p6,p7⟩:=(wC (m:=rows.length+1) (n:=hs.length) (by omega) T.lo (by have:=T.rw';omega) T.hi).mp hA
 obtain⟨L,s1,g1,_,n1,hL,e1,e2⟩:=qp T (g:=aq) (ρ:=[]) (st:=st)
 have i0:∀st:Hs,bU (tI [a,b]) (.int 0) st= .ok (.int a) st:=λ_=>rfl
 have i1:∀st:Hs,bU (tI [a,b]) (.int 1) st= .ok (.int b) st:=λ_=>rfl
 have ln:=pf hL
 have nl:(bT hs rows).length=rows.length+1:=by simp[bT]
 rw[show((bT hs rows).map a9).length=rows.length+1 by simp[bT]] at ln
 have lt:∀st:Hs,bI [.tup (hs.map Wv.str)] st= .ok (.int hs.length) st:=λst=>by rw[ni,aB]
 have ia:=wu (a:=a) (b:=b) (c:=a+(rows.length+1:Nat) - 1) (d:=b+hs.length - 1) (st:=s1)
 rw[decide_eq_true hA] at ia
 unfold tI at ia
 simp only[ay,lL] at ia
 have hm:(rows.length+1) * hs.length<=300:=by exact_mod_cast p7
 obtain⟨s2,hs2⟩:∃s2,s1++[Ob.lst []]=s2:=⟨_,rfl⟩
 have W2:s2[s1.length]? =some (.lst []):=by rw[<-hs2];exact eV
 have g2:Gr s1 s2:=by rw[<-hs2];exact Gr.push
 obtain⟨o7,s3,e3,k3,W3⟩:=Hn (L:=L) (W:=s1.length) (ls:=bT hs rows) (n:=hs.length) (r0:=some (.ref d)) (r1:=some (tI [a,b])) (r2:=some (bj hs rows)) (r3:=some (tI [a,b])) (r5:=some (.tup [.int a,.int b,.int (a+(rows.length+1:Nat) - 1),.int (b+hs.length - 1)])) (st:=s2) (g2.lst (fH hL)) W2 (by omega) (mh T) (by rw[nl];exact hm)
 have Zm:kFor 7 dP [some (.ref d),some (tI [a,b]),some (bj hs rows),some (tI [a,b]),some (.ref L),some (.tup [.int a,.int b,.int (a+(rows.length+1:Nat) - 1),.int (b+hs.length - 1)]),some (.ref s1.length),none] (.ref L) s2= .nx [some (.ref d),some (tI [a,b]),some (bj hs rows),some (tI [a,b]),some (.ref L),some (.tup [.int a,.int b,.int (a+(rows.length+1:Nat) - 1),.int (b+hs.length - 1)]),some (.ref s1.length),o7] s3:=by
  rw[rP (g2.lst (fH hL))];exact e3
 obtain⟨more,e4⟩:=yo (st:=s3) hA
 unfold tI at e4
 simp only[ay,lL] at e4
 have ea:g_ a b (a+(rows.length+1:Nat) - 1+1 - a).toNat (b+hs.length - 1+1 - b).toNat=(mi a b hs rows).map pW:=by
  unfold mi
  rw[Hj _ _ (mh T),nl]
  congr 1<;>omega
 rw[ea] at e4
 have ev:(bT hs rows).flatten.map Wo.w=(mi a b hs rows).map λx=>x.2.w:=by
  unfold mi
  rw[<-Ax (b:=b) (bT hs rows) a,aW]
  rfl
 rw[ev] at W3
 obtain⟨s4,Ar⟩:∃s4,s3++Ob.lst ((mi a b hs rows).map pW)::more=s4:=⟨_,rfl⟩
 have g4:Gr s3 s4:=by rw[<-Ar];exact Gr.app
 have L4:ao s4 s3.length=some ((mi a b hs rows).map pW):=by rw[<-Ar];exact uz
 rw[Ar] at e4
 have dz:=Sy L4 (g4.lst (fH W3)) (BN (mh T))
 have g13:Gr s1 s3:=g2.mU (au _) k3
 have n2:s1.length < s2.length:=by rw[<-hs2];simp
 have n3:=k3.1
 have n4:=g4.1
 have n0:=g1.1
 refine⟨s4.length,s4++[.bX (wA ((mi a b hs rows).map toC))],g1.trans (g13.trans (g4.trans Gr.push)),by omega,eV,λv s' hw=>?_,λc s' hw=>?_⟩
 ·unfold bb cN ff
  simp[-cJ,-Ho,i0,i1,made_place (st:=st) ⟨p1,p2,p3,p4⟩,Du,wF,e1,e2,ln,lt,ia,hs2,Zm,e4,dz,hw]
 ·unfold bb cN ff
  simp[-cJ,-Ho,i0,i1,made_place (st:=st) ⟨p1,p2,p3,p4⟩,Du,wF,e1,e2,ln,lt,ia,hs2,Zm,e4,dz,hw]
theorem yx{a b:Int}{hs:List S}{rows:List (List Wo)}(T:Tb hs rows)(hA:iT a b (a+(rows.length+1:Nat) - 1) (b+hs.length - 1)):(∀x∈mi a b hs rows,cL x.1.1 x.1.2/\x.2.ok=true)/\(mi a b hs rows).length<=300:=by
 obtain⟨⟨p1,p2,p3,p4⟩,p5,p6,p7⟩:=(wC (m:=rows.length+1) (n:=hs.length) (by omega) T.lo (by have:=T.rw';omega) T.hi).mp hA
 have nl:(bT hs rows).length=rows.length+1:=by simp[bT]
 refine⟨λx hx=>?_,?_⟩
 ·obtain⟨h1,h2,h3,h4,l,hl,hw⟩:=sh (mh T) hx
  rw[nl] at h2
  exact⟨⟨by omega,by omega,by omega,by omega⟩,LN T l hl _ hw⟩
 ·unfold mi
  rw[yv (mh T),nl]
  exact_mod_cast p7
def res(kvs:Ks)(cs:List Cw):Sum S Ks:=if(cs.any λx=>pR x.2)=true then .inl "BadContent" else if 200 < (ups kvs (cs.map toC)).length then .inl "Full" else .inr (ups kvs (cs.map toC))
theorem KO{a b:Int}{d:Nat}{kvs:Ks}{ps:List Pt}{hs:List S}{rows:List (List Wo)}{st:Hs}(T:Tb hs rows)(hA:iT a b (a+(rows.length+1:Nat) - 1) (b+hs.length - 1))(hd:cQ st[d]? =some kvs)(hk:kJ kvs ps)(hl:kvs.length<=200):∃st',Gr st st'/\
  match res kvs (mi a b hs rows) with
  | .inl c=>bb [.ref d,tI [a,b],bj hs rows] st= .err c st'
  | .inr m=>∃k,bb [.ref d,tI [a,b],bj hs rows] st= .ok (.ref k) st'/\st'[k]? =some (.bX m):=by
 obtain⟨e,s,g,le,he,f1,f2⟩:=O6 (d:=d) (st:=st) T hA
 obtain⟨hc,hn⟩:=yx T hA
 have hd':cQ s[d]? =some kvs:=by
  have lt:d < st.length:=by
   by_cases q:d < st.length
   ·exact q
   ·rw[n8 (by omega)] at hd;cases hd
  rw[g.2 d lt];exact hd
 unfold res
 by_cases hb:((mi a b hs rows).any λx=>pR x.2)=true
 ·rw[if_pos hb]
  obtain⟨s2,e2,k2⟩:=Hm hd' he hk.hash hc (List.any_eq_true.mp hb) (by omega)
  exact⟨s2,g.mU le k2,f2 _ _ e2⟩
 ·rw[if_neg hb]
  have hc':∀x∈(mi a b hs rows).map toC,sx x:=λx hx=>by
   obtain⟨y,hy,rfl⟩:=List.mem_map.mp hx
   refine⟨(hc y hy).1,uC (hc y hy).2 ?_⟩
   cases q:pR y.2 with
   | false=>rfl
   | true=>exact absurd (List.any_eq_true.mpr ⟨y,hy,q⟩) hb
  obtain⟨s2,e2,g2,h2⟩:=changed hd' he hk.hash hc' (by rw[aB];omega)
  by_cases hf:200 < (ups kvs ((mi a b hs rows).map toC)).length
  ·rw[if_pos hf]
   refine⟨s2,g.trans g2,f2 _ _ ?_⟩
   unfold b8 cN fR
   simp[e2,roomF h2 hf]
  ·rw[if_neg hf]
   refine⟨s2,g.trans g2,s.length,f1 _ _ ?_,h2⟩
   unfold b8 cN fR
   simp[e2,room h2 (by omega)]
def LO(c d:S):Option Bool:=jf.lookup (c,d)
theorem Jh{c d:S}{b:Bool}(h:LO c d=some b)(st:Hs):hJ jf fT [.mK c,.cls d] st= .ok (.bl b) st:=by
 show(match LO c d with | some b=>Re.ok (Wv.bl b) st | none=> .bad)=_
 rw[h]
def wordOf:List (S×S):=[("BadCount","count1"),("BadTable","table1"),("BadPlace","place1"),("NoRoom","room1"),("BadContent","content1"),("Full","full1")]
theorem kw{x:S}{b0 b1 b2 b3 b4 b5:Bool}{w:S}{c:S}{st:Hs}(t0:LO c "BadCount"=some b0)(t1:LO c "BadTable"=some b1)(t2:LO c "BadPlace"=some b2)(t3:LO c "NoRoom"=some b3)(t4:LO c "BadContent"=some b4)(t5:LO c "Full"=some b5)
  (hb:(b0,b1,b2,b3,b4,b5,x)∈[(true,false,false,false,false,false,("count":S)),(false,true,false,false,false,false,"table"),(false,false,true,false,false,false,"place"),(false,false,false,true,false,false,"room"),(false,false,false,false,true,false,"content"),(false,false,false,false,false,true,"full")])
  (hx:x.length<=10)(hw:x++("1":S)=w):cD [.mK c] st= .ok (.str w) ((st++[.lst [.str x]])++[.lst [.str "other"]]++[.lst [.str x,.str "other"]]):=by
 have km:=λga ρ=>ou (mt:=jV) (ga:=ga) (ρ:=ρ) (st:=st++[.lst []]) ax
 have ap:=λv:Wv=>vX (st:=st) (acc:=[]) (v:=v) (by simp[lim])
 obtain⟨s1,hs1⟩:∃s1,st++[Ob.lst [.str x]]=s1:=⟨_,rfl⟩
 have n1:s1.length=st.length+1:=by rw[<-hs1];simp
 have l1:ao s1 st.length=some [.str x]:=by rw[<-hs1];exact ax
 have k1:∀st:Hs,jE [.str "other"] st= .ok (.ref st.length) (st++[.lst [.str "other"]]):=λst=>dk (by simp[lim])
 have ad:=add_l (st:=s1++[.lst [.str "other"]]) (dZ l1) ax (by simp[lim])
 obtain⟨s2,hs2⟩:∃s2,s1++[Ob.lst [.str "other"]]=s2:=⟨_,rfl⟩
 rw[hs2] at ad
 have ix:=x8 (st:=s2++[.lst ([.str x]++[.str "other"])]) (l:=s2.length) (i:=0) ax rfl
 have l3:ao (s2++[.lst ([.str x]++[.str "other"])]) st.length=some [.str x]:=dZ (by rw[<-hs2];exact dZ l1)
 have ln:=By l3
 have so:∀st:Hs,t7 [.int 1] st= .ok (.str "1") st:=λst=>rfl
 have cs:∀st:Hs,bQ (.str x) (.str "1") st= .ok (.str w) st:=λst=>by
  rw[<-hw]
  show(if x.length+("1":S).length<=lim then Re.ok (Wv.str (x++"1")) st else .bad)=_
  rw[if_pos]
  have:("1":S).length=1:=by decide+kernel
  unfold lim
  omega
 rw[hs1,hs2]
 unfold cD cN i7
 simp only[cZ,dC,or_false,Prod.mk.injEq] at hb
 rcases hb with ⟨rfl,rfl,rfl,rfl,rfl,rfl,rfl⟩ | ⟨rfl,rfl,rfl,rfl,rfl,rfl,rfl⟩ | ⟨rfl,rfl,rfl,rfl,rfl,rfl,rfl⟩ | ⟨rfl,rfl,rfl,rfl,rfl,rfl,rfl⟩ | ⟨rfl,rfl,rfl,rfl,rfl,rfl,rfl⟩ | ⟨rfl,rfl,rfl,rfl,rfl,rfl,rfl⟩<;>
 (simp[-cJ,Jh t0,Jh t1,Jh t2,Jh t3,Jh t4,Jh t5,km,ap,hs1,k1,hs2,ad]
  simp at ix ln
  simp[-cJ,ix,ln,so,cs])
theorem word{c w:S}(h:(c,w)∈wordOf)(st:Hs):Ah.lookup (c,("SheetError":S))=some true/\∃st',cD [.mK c] st= .ok (.str w) st'/\Gr st st':=by
 have g:∀x y z:Ob,Gr st ((st++[x])++[y]++[z]):=λx y z=>Gr.push.trans (Gr.push.trans Gr.push)
 unfold wordOf at h
 simp only[cZ,dC,or_false,Prod.mk.injEq] at h
 rcases h with ⟨rfl,rfl⟩ | ⟨rfl,rfl⟩ | ⟨rfl,rfl⟩ | ⟨rfl,rfl⟩ | ⟨rfl,rfl⟩ | ⟨rfl,rfl⟩
 ·exact⟨by decide+kernel,_,kw (x:="count") (b0:=true) (b1:=false) (b2:=false) (b3:=false) (b4:=false) (b5:=false) (by decide+kernel) (by decide+kernel) (by decide+kernel) (by decide+kernel) (by decide+kernel) (by decide+kernel) (by simp) (by decide+kernel) (by decide+kernel),g _ _ _⟩
 ·exact⟨by decide+kernel,_,kw (x:="table") (b0:=false) (b1:=true) (b2:=false) (b3:=false) (b4:=false) (b5:=false) (by decide+kernel) (by decide+kernel) (by decide+kernel) (by decide+kernel) (by decide+kernel) (by decide+kernel) (by simp) (by decide+kernel) (by decide+kernel),g _ _ _⟩
 ·exact⟨by decide+kernel,_,kw (x:="place") (b0:=false) (b1:=false) (b2:=true) (b3:=false) (b4:=false) (b5:=false) (by decide+kernel) (by decide+kernel) (by decide+kernel) (by decide+kernel) (by decide+kernel) (by decide+kernel) (by simp) (by decide+kernel) (by decide+kernel),g _ _ _⟩
 ·exact⟨by decide+kernel,_,kw (x:="room") (b0:=false) (b1:=false) (b2:=false) (b3:=true) (b4:=false) (b5:=false) (by decide+kernel) (by decide+kernel) (by decide+kernel) (by decide+kernel) (by decide+kernel) (by decide+kernel) (by simp) (by decide+kernel) (by decide+kernel),g _ _ _⟩
 ·exact⟨by decide+kernel,_,kw (x:="content") (b0:=false) (b1:=false) (b2:=false) (b3:=false) (b4:=true) (b5:=false) (by decide+kernel) (by decide+kernel) (by decide+kernel) (by decide+kernel) (by decide+kernel) (by decide+kernel) (by simp) (by decide+kernel) (by decide+kernel),g _ _ _⟩
 ·exact⟨by decide+kernel,_,kw (x:="full") (b0:=false) (b1:=false) (b2:=false) (b3:=false) (b4:=false) (b5:=true) (by decide+kernel) (by decide+kernel) (by decide+kernel) (by decide+kernel) (by decide+kernel) (by decide+kernel) (by simp) (by decide+kernel) (by decide+kernel),g _ _ _⟩
theorem qq{c w:S}{d:Nat}{p t:Wv}{st s1:Hs}(h:(c,w)∈wordOf)(e:bb [.ref d,p,t] st= .err c s1)(g1:Gr st s1):∃st',cj [.ref d,p,t] st= .ok (.str w) st'/\Gr st st':=by
 obtain⟨hc,s2,e2,g2⟩:=word h s1
 have bd:eQ [some (.ref d),some p,some t,some .aI,none] st= .err c [some (.ref d),some p,some t,some .aI,none] s1:=by
  unfold eQ
  simp[e]
 have su:gP [some (.ref d),some p,some t,some .aI,some (.mK c)] s1= .nx [some (.ref d),some p,some t,some (.str w),some (.mK c)] s2:=by
  unfold gP
  simp[e2]
 have tr:=x9 (cat:=λy=>Ah.lookup (y,("SheetError":PySem.Str))) (i:=4) (gs:=gP) (ρ:=[some (.ref d),some p,some t,some .aI,none]) (st:=s1) hc su
 refine⟨s2,dF (n:=5) (g:=gz) ?_,g1.trans g2⟩
 unfold gz
 simp[bd,tr]
theorem Hq{d k:Nat}{p t:Wv}{st s1:Hs}(e:bb [.ref d,p,t] st= .ok (.ref k) s1):cj [.ref d,p,t] st= .ok (.ref k) s1:=by
 have bd:eQ [some (.ref d),some p,some t,some .aI,none] st= .nx [some (.ref d),some p,some t,some (.ref k),none] s1:=by
  unfold eQ
  simp[e]
 refine dF (n:=5) (g:=gz) ?_
 unfold gz
 simp[bd]
def SD:Sum S Ks->Sum S Ks
 | .inl c=> .inl ((wordOf.lookup c).getD "")
 | .inr m=> .inr m
def Ans(st:Hs)(v:Wv):Sum S Ks->Prop
 | .inl w=>v= .str w
 | .inr m=>∃k,v= .ref k/\cQ st[k]? =some m
def due(a b:Int)(hs:List S)(rows:List (List Wo))(kvs:Ks):Sum S Ks:=if cL a b then(if iT a b (a+(rows.length+1:Nat) - 1) (b+hs.length - 1) then SD (res kvs (mi a b hs rows)) else .inl "room1") else .inl "place1"
theorem KP{a b:Int}{d:Nat}{kvs:Ks}{ps:List Pt}{hs:List S}{rows:List (List Wo)}{st:Hs}(T:Tb hs rows)(hd:cQ st[d]? =some kvs)(hk:kJ kvs ps)(hl:kvs.length<=200):∃v st',cj [.ref d,tI [a,b],bj hs rows] st= .ok v st'/\Gr st st'/\Ans st' v (due a b hs rows kvs):=by
 unfold due
 by_cases h1:cL a b
 ·rw[if_pos h1]
  by_cases h2:iT a b (a+(rows.length+1:Nat) - 1) (b+hs.length - 1)
  ·rw[if_pos h2]
   obtain⟨s1,g1,e1⟩:=KO T h2 hd hk hl
   generalize hr:res kvs (mi a b hs rows)=r at e1
   cases r with
   | inr m=>
    obtain⟨k,e,hk'⟩:=e1
    exact⟨_,s1,Hq e,g1,k,rfl,by rw[hk'];rfl⟩
   | inl c=>
    have hc:c="BadContent"\/c="Full":=by
     unfold res at hr
     split at hr
     ·cases hr;exact .inl rfl
     ·split at hr
      ·cases hr;exact .inr rfl
      ·cases hr
    rcases hc with rfl | rfl
    ·obtain⟨s2,e2,g2⟩:=qq (w:="content1") (by decide+kernel) e1 g1
     exact⟨_,s2,e2,g2,congrArg Wv.str (show("content1":S)=(wordOf.lookup ("BadContent":S)).getD "" by decide+kernel)⟩
    ·obtain⟨s2,e2,g2⟩:=qq (w:="full1") (by decide+kernel) e1 g1
     exact⟨_,s2,e2,g2,congrArg Wv.str (show("full1":S)=(wordOf.lookup ("Full":S)).getD "" by decide+kernel)⟩
  ·rw[if_neg h2]
   obtain⟨s1,e1,g1⟩:=Wy (d:=d) (st:=st) T h1 h2
   obtain⟨s2,e2,g2⟩:=qq (w:="room1") (by decide+kernel) e1 g1
   exact⟨_,s2,e2,g2,rfl⟩
 ·rw[if_neg h1]
  obtain⟨s2,e2,g2⟩:=qq (w:="place1") (t:=bj hs rows) (by decide+kernel) (putN h1) (Gr.refl (st:=st))
  exact⟨_,s2,e2,g2,rfl⟩
def HE(kvs:Ks)(x:Cl):Ks:=match x.2 with
 | .aI=>dy kvs (je x.1)
 | v=>gT (dy kvs (je x.1)) (je x.1) v
def jL(kvs:Ks)(cs:List Cl):Ks:=cs.foldl HE kvs
theorem wD{kvs:Ks}{p:Pt}{v:Wv}(h:Cn v):HE kvs (p,v)=gT (dy kvs (je p)) (je p) v:=by
 rcases h with ⟨i,rfl,_⟩ | ⟨x,rfl,_⟩<;>rfl
theorem yy(kvs:Ks)(k:List L2.Key):(dy kvs k).length<=kvs.length:=u9 _ _
theorem BP{kvs:Ks}{x:Cl}(h:sx x):(HE kvs x).length<=kvs.length+1:=by
 obtain⟨p,v⟩:=x
 have dl:=yy kvs (je p)
 rcases h.2 with z | z
 ·have z:v= .aI:=z
  subst z
  show(dy kvs (je p)).length<=_
  omega
 ·have z:Cn v:=z
  rw[wD z]
  exact bg (yt (dy kvs (je p)) (je p) v) (by omega)
theorem KQ{kvs:Ks}{x:Cl}(h:sx x)(k:List L2.Key):bS (HE kvs x) k=if je x.1=k then nz x.2 else bS kvs k:=by
 obtain⟨p,v⟩:=x
 rcases h.2 with z | z
 ·have z:v= .aI:=z
  subst z
  show bS (dy kvs (je p)) k=_
  rw[sf]
  rfl
 ·rw[wD z,BK,sf]
  dsimp only
  rw[LL z]
  by_cases c:je p=k
  ·rw[if_pos c,if_pos c]
  ·rw[if_neg c,if_neg c,if_neg c]
theorem BQ{A B:Ks}:∀{cs:List Cl},(∀x∈cs,sx x)->O3 A B->O3 (ups A cs) (jL B cs)
 | [],_,h=>h
 | x::r,hc,h=>BQ (A:=up A x) (B:=HE B x) (cs:=r) (λy hy=>hc y (aN _ hy)) λk=>by
  rw[O2 (hc x aR),KQ (hc x aR),h k]
theorem kJ.jL{kvs:Ks}{ps:List Pt}(h:kJ kvs ps):∀{cs:List Cl},(∀x∈cs,sx x)->∃qs,kJ (jL kvs cs) qs:=λ{cs}=>by
 induction cs generalizing kvs ps with
 | nil=>exact λ_=>⟨ps,h⟩
 | cons x r ih=>
  intro hc
  obtain⟨p,v⟩:=x
  have hx:=hc (p,v) aR
  have:∃qs,kJ (HE kvs (p,v)) qs:=by
   rcases hx.2 with z | z
   ·have z:v= .aI:=z
    subst z
    exact h.drop
   ·rw[wD z]
    obtain⟨qs,hq⟩:=h.drop (p:=p)
    exact hq.put hx.1 (.inr z)
  obtain⟨qs,hq⟩:=this
  exact ih hq λy hy=>hc y (aN _ hy)
theorem LP{x:S}{st:Hs}:pM jf fT [.str x,.ty "str"] st= .ok (.bl true) st:=rfl
theorem SF{i:Int}{st:Hs}:pM jf fT [.int i,.ty "str"] st= .ok (.bl false) st:=rfl
theorem SG{st:Hs}:pM jf fT [.aI,.ty "str"] st= .ok (.bl false) st:=rfl
theorem O7{r0 r1 r2:Option Wv}{a b i j:Int}{L D:Nat}{n:Wv}{uD:Option Wv}{w:Wo}{us:List Wv}{kvs:Ks}{st:Hs}(hD:st[D]? =some (.bX kvs))(hl:kvs.length < 900)(hL:ao st L=some us){row:List Wo}(hr:L2.mv us i=some (a9 row))(hw:L2.mv (row.map Wo.w) j=some w.w)(hp:cL (a+i) (b+j))(ho:w.ok=true) :
  (pR w=true/\∃st',aQ [r0,r1,r2,some (.int a),some (.int b),some (.ref L),some n,some (.ref D),some (.int i),some (.int j),uD] st= .rt (.str "content1") st'/\cx D st st')\/
  (pR w=false/\∃st',aQ [r0,r1,r2,some (.int a),some (.int b),some (.ref L),some n,some (.ref D),some (.int i),some (.int j),uD] st= .nx [r0,r1,r2,some (.int a),some (.int b),some (.ref L),some n,some (.ref D),some (.int i),some (.int j),some w.w] st'/\cx D st st'/\st'[D]? =some (.bX (HE kvs ((a+i,b+j),w.w)))):=by
 have x1:=x8 (st:=st) hL hr
 have x2:bU (a9 row) (.int j) st= .ok w.w st:=oU hw
 obtain⟨z,ep⟩:=G_ (p:=(a+i,b+j)) hD
 have AF:FH (.ref D) (.tup [.int (a+i),.int (b+j)]) .aI st= .ok z (st.set D (.bX (dy kvs (je (a+i,b+j))))):=ep
 have dv:J2 st (.ref D)=true:=by show(cQ st[D]?).isSome=true;rw[hD];rfl
 obtain⟨s1,hs1⟩:∃s1,st.set D (.bX (dy kvs (je (a+i,b+j))))=s1:=⟨_,rfl⟩
 have k1:cx D st s1:=by rw[<-hs1];exact cx.set
 have h1:s1[D]? =some (.bX (dy kvs (je (a+i,b+j)))):=by rw[<-hs1];exact fG hD
 rw[hs1] at AF
 have dl:=yy kvs (je (a+i,b+j))
 cases hg:pR w with
 | true=>
  obtain⟨x,rfl,x3,x4⟩:=BO ho hg
  refine .inl ⟨rfl,s1,?_,k1⟩
  have ln:bI [.str x] s1= .ok (.int x.length) s1:=by
   show gS [.str x] s1=_
   exact Bz (bg x4 (by decide))
  have c:(40:Int) < x.length:=by omega
  unfold aQ
  simp[x1,x2,og,dv,AF,Wo.w,LP,ln,c]
 | false=>
  refine .inr ⟨rfl,?_⟩
  rcases uC ho hg with hn | hn
  ·refine⟨s1,?_,k1,by rw[hn];exact h1⟩
   have nb:ur .aI .aI s1= .ok (.bl false) s1:=rfl
   rw[hn] at x2
   unfold aQ
   simp[x1,x2,og,dv,AF,hn,SG,nb]
  ·have pd:putD (.ref D) (.tup [.int (a+i),.int (b+j)]) w.w s1=some (s1.set D (.bX (gT (dy kvs (je (a+i,b+j))) (je (a+i,b+j)) w.w))):=GX h1 (by omega)
   refine⟨_,?_,k1.trans cx.set,by rw[wD hn];exact fG h1⟩
   rcases hn with ⟨k,hk,_⟩ | ⟨x,hk,ht⟩
   ·have nb:ur (.int k) .aI s1= .ok (.bl true) s1:=rfl
    rw[hk] at x2 pd ⊢
    unfold aQ
    simp[x1,x2,og,dv,AF,SF,nb,pA,pd]
   ·have nb:ur (.str x) .aI s1= .ok (.bl true) s1:=rfl
    have ln:bI [.str x] s1= .ok (.int x.length) s1:=by
     show gS [.str x] s1=_
     exact Bz (bg ht.1 (by decide))
    have c:¬(40:Int) < x.length:=by have:=ht.1;omega
    rw[hk] at x2 pd ⊢
    unfold aQ
    simp[x1,x2,og,dv,AF,LP,ln,c,nb,pA,pd]
theorem uE{a:Int}{n:Nat}:bo a (n+1)= .int a::bo (a+1) n:=by
 unfold bo
 rw[vB,ay,aW]
 congr 1
 ·simp
 ·refine mf λk _=>?_
  show Wv.int (a+((k+1:Nat):Int))=Wv.int (a+1+(k:Nat))
  congr 1
  omega
theorem Hr{us vs:List Wv}{x:Wv}:L2.mv (us++x::vs) (us.length:Int)=some x:=L2.fj (j:=us.length) (by simp)
theorem BR{r0 r1 r2:Option Wv}{a b i:Int}{L D:Nat}{n:Wv}{us:List Wv}{row:List Wo}(hr:L2.mv us i=some (a9 row))(hok:∀w∈row,w.ok=true)(hne:L≠D)(hp:∀j:Nat,j < row.length->cL (a+i) (b+j)):∀(l pre:List Wo)(kvs:Ks)(o9 uD:Option Wv)(st:Hs),row=pre++l->st[D]? =some (.bX kvs)->kvs.length+l.length < 900->ao st L=some us->
  ((l.any pR)=true/\∃st',fZ 9 aQ (bo (pre.length:Int) l.length) [r0,r1,r2,some (.int a),some (.int b),some (.ref L),some n,some (.ref D),some (.int i),o9,uD] st= .rt (.str "content1") st'/\cx D st st')\/
  ((l.any pR)=false/\∃O8 Ay st',fZ 9 aQ (bo (pre.length:Int) l.length) [r0,r1,r2,some (.int a),some (.int b),some (.ref L),some n,some (.ref D),some (.int i),o9,uD] st= .nx [r0,r1,r2,some (.int a),some (.int b),some (.ref L),some n,some (.ref D),some (.int i),O8,Ay] st'/\cx D st st'/\st'[D]? =some (.bX (jL kvs ((jK (a+i) (b+pre.length) l).map toC))))
 | [],pre,kvs,o9,uD,st,hf,hD,_,_=> .inr ⟨rfl,o9,uD,st,rfl,cx.refl,hD⟩
 | w::t,pre,kvs,o9,uD,st,hf,hD,hl,hL=>by
  have hw:L2.mv (row.map Wo.w) (pre.length:Int)=some w.w:=by
   rw[hf,cq,ay,show(pre.length:Int)=((pre.map Wo.w).length:Int) by simp]
   exact Hr
  have hl':kvs.length+(t.length+1) < 900:=hl
  have ho:w.ok=true:=hok w (by rw[hf];simp)
  have Zn:=hp pre.length (by rw[hf];simp)
  rw[gD,uE]
  unfold fZ
  rcases O7 (r0:=r0) (r1:=r1) (r2:=r2) (n:=n) (uD:=uD) hD (by omega) hL hr hw Zn ho with ⟨hg,s1,e1,k1⟩ | ⟨hg,s1,e1,k1,h1⟩
  ·refine .inl ⟨by simp[hg],s1,?_,k1⟩
   simp only[wy,wz]
   rw[e1]
  ·have ul:=BP (kvs:=kvs) (x:=((a+i,b+(pre.length:Int)),w.w)) ⟨Zn,uC ho hg⟩
   have e2:(pre.length:Int)+1=((pre++[w]).length:Int):=by simp
   simp only[wy,wz]
   rw[e1]
   dsimp only
   rw[e2]
   have ih:=BR (r0:=r0) (r1:=r1) (r2:=r2) (n:=n) hr hok hne hp t (pre++[w]) (HE kvs ((a+i,b+(pre.length:Int)),w.w)) (some (.int (pre.length:Int))) (some w.w) s1 (by rw[hf];simp) h1 (by omega) (k1.lst hL hne)
   rcases ih with ⟨F0,s2,e3,k2⟩ | ⟨F0,O8,Ay,s2,e3,k2,h2⟩
   ·exact .inl ⟨by simp[hg,F0],s2,e3,k1.trans k2⟩
   ·refine .inr ⟨by simp[hg,F0],O8,Ay,s2,e3,k1.trans k2,?_⟩
    rw[h2,show b+((pre++[w]).length:Int)=b+pre.length+1 by simp;omega]
    rfl
theorem yz{r0 r1 r2:Option Wv}{a b:Int}{L D n:Nat}{all:List (List Wo)}(Zo:∀l∈all,l.length=n)(hok:∀l∈all,∀w∈l,w.ok=true)(hn:n<=26)(hne:L≠D)(hp:∀i j:Nat,i < all.length->j < n->cL (a+i) (b+j)):∀(ls pre:List (List Wo))(kvs:Ks)(o8 o9 uD:Option Wv)(st:Hs),all=pre++ls->st[D]? =some (.bX kvs)->kvs.length+ls.length * n < 900->ao st L=some (all.map a9)->
  ((ls.any λl=>l.any pR)=true/\∃st',fZ 8 cG (bo (pre.length:Int) ls.length) [r0,r1,r2,some (.int a),some (.int b),some (.ref L),some (.int (n:Int)),some (.ref D),o8,o9,uD] st= .rt (.str "content1") st'/\cx D st st')\/
  ((ls.any λl=>l.any pR)=false/\∃Wz O8 Ay st',fZ 8 cG (bo (pre.length:Int) ls.length) [r0,r1,r2,some (.int a),some (.int b),some (.ref L),some (.int (n:Int)),some (.ref D),o8,o9,uD] st= .nx [r0,r1,r2,some (.int a),some (.int b),some (.ref L),some (.int (n:Int)),some (.ref D),Wz,O8,Ay] st'/\cx D st st'/\st'[D]? =some (.bX (jL kvs ((oF (a+pre.length) b ls).map toC))))
 | [],pre,kvs,o8,o9,uD,st,hf,hD,_,_=> .inr ⟨rfl,o8,o9,uD,st,rfl,cx.refl,hD⟩
 | l::t,pre,kvs,o8,o9,uD,st,hf,hD,hl,hL=>by
  have hr:L2.mv (all.map a9) (pre.length:Int)=some (a9 l):=by
   rw[hf,cq,ay,show(pre.length:Int)=((pre.map a9).length:Int) by simp]
   exact Hr
  have ll:l.length=n:=Zo l (by rw[hf];simp)
  have hl':kvs.length+(t.length * n+n) < 900:=by rw[<-lJ];exact hl
  have RG:∀j:Nat,j < l.length->cL (a+(pre.length:Int)) (b+j):=λj hj=>hp pre.length j (by rw[hf];simp) (by omega)
  have cr:cP (n:Int):=Af (by omega) (by omega)
  rw[gD,uE]
  unfold fZ
  simp only[wy,wz]
  have q:=BR (r0:=r0) (r1:=r1) (r2:=r2) (n:=.int (n:Int)) hr (hok l (by rw[hf];simp)) hne RG l [] kvs o9 uD st rfl hD (by omega) hL
  rw[ll] at q
  have q0:((([]:List Wo).length:Nat):Int)=0:=rfl
  rw[q0] at q
  have g1:cG [r0,r1,r2,some (.int a),some (.int b),some (.ref L),some (.int (n:Int)),some (.ref D),some (.int (pre.length:Int)),o9,uD] st=fZ 9 aQ (bo 0 n) [r0,r1,r2,some (.int a),some (.int b),some (.ref L),some (.int (n:Int)),some (.ref D),some (.int (pre.length:Int)),o9,uD] st:=by
   unfold cG
   simp[cr]
  rw[g1]
  rcases q with ⟨hg,s1,e1,k1⟩ | ⟨hg,O8,Ay,s1,e1,k1,h1⟩
  ·refine .inl ⟨by simp[hg],s1,?_,k1⟩
   rw[e1]
  ·have hc:∀x∈(jK (a+(pre.length:Int)) (b+0) l).map toC,sx x:=λx hx=>by
    obtain⟨y,hy,rfl⟩:=List.mem_map.mp hx
    obtain⟨m1,m2,m3,m4⟩:=lD hy
    have hq:=RG (y.1.2 - b).toNat (by omega)
    refine⟨?_,uC (hok l (by rw[hf];simp) _ m4) ?_⟩
    ·show cL y.1.1 y.1.2
     rw[m1]
     rw[show b+(((y.1.2 - b).toNat:Nat):Int)=y.1.2 by omega] at hq
     exact hq
    ·cases z:pR y.2 with
     | false=>rfl
     | true=>rw[List.any_eq_false] at hg;exact absurd z (hg _ m4)
   have ul:(jL kvs ((jK (a+(pre.length:Int)) (b+0) l).map toC)).length<=kvs.length+n:=by
    have key:∀(cs:List Cl)(kvs:Ks),(∀x∈cs,sx x)->(jL kvs cs).length<=kvs.length+cs.length:=λcs=>by
     induction cs with
     | nil=>exact λkvs _=>au _
     | cons x r ih=>
      intro kvs h
      have h1:=ih (HE kvs x) λy hy=>h y (aN _ hy)
      have h2:=BP (kvs:=kvs) (h x aR)
      show(jL (HE kvs x) r).length<=kvs.length+(r.length+1)
      omega
    have:=key _ kvs hc
    rw[aB,sg,ll] at this
    exact this
   have e2:(pre.length:Int)+1=((pre++[l]).length:Int):=by simp
   rw[e1]
   dsimp only
   rw[e2]
   have ih:=yz (r0:=r0) (r1:=r1) (r2:=r2) Zo hok hn hne hp t (pre++[l]) _ (some (.int (pre.length:Int))) O8 Ay s1 (by rw[hf];simp) h1 (by omega) (k1.lst hL hne)
   rcases ih with ⟨F0,s2,e3,k2⟩ | ⟨F0,Wz,WA,SH,s2,e3,k2,h2⟩
   ·exact .inl ⟨by rw[fY,F0,Bool.or_true],s2,e3,k1.trans k2⟩
   ·refine .inr ⟨by rw[fY,F0,hg];rfl,Wz,WA,SH,s2,e3,k1.trans k2,?_⟩
    rw[h2,show a+((pre++[l]).length:Int)=a+pre.length+1 by simp;omega]
    show some (Ob.bX (jL (jL kvs ((jK (a+(pre.length:Int)) (b+0) l).map toC)) _))=some (Ob.bX (jL kvs ((jK (a+pre.length) b l++oF (a+pre.length+1) b t).map toC)))
    rw[cq,Int.add_zero]
    unfold jL
    rw[FY]
def SI(st:Hs)(v:Wv):Sum S Ks->Prop
 | .inl w=>v= .str w
 | .inr m=>∃k m',v= .ref k/\cQ st[k]? =some m'/\O3 m m'/\∃qs,kJ m' qs
theorem Ht{a b:Int}{hs:List S}{rows:List (List Wo)}:((mi a b hs rows).any λx=>pR x.2)=(bT hs rows).any λl=>l.any pR:=by
 have e:((mi a b hs rows).any λx=>pR x.2)=((mi a b hs rows).map (·.2)).any pR:=by rw[List.any_map];rfl
 rw[e]
 unfold mi
 rw[Ax,List.any_flatten]
theorem WB{a b:Int}{d:Nat}{t:Wv}{st:Hs}(h:¬cL a b):aV [.ref d,tI [a,b],t] st= .ok (.str "place1") st:=by
 refine dF (n:=11) (g:=aU) ?_
 have sT:t8 [3,4] (af 1) [some (.ref d),some (tI [a,b]),some t,none,none,none,none,none,none,none,none] st= .nx [some (.ref d),some (tI [a,b]),some t,some (.int a),some (.int b),none,none,none,none,none,none] st:=rfl
 unfold aU
 by_cases c1:a < 0
 ·simp[sT,c1]
 ·by_cases c2:98 < a
  ·simp[sT,c1,c2]
  ·by_cases c3:b < 0
   ·simp[sT,c1,c2,c3]
   ·by_cases c4:25 < b
    ·simp[sT,c1,c2,c3,c4]
    ·exact absurd ⟨by omega,by omega,by omega,by omega⟩ h
theorem WC{a b:Int}{d:Nat}{hs:List S}{rows:List (List Wo)}{st:Hs}(T:Tb hs rows)(h:cL a b)(k:¬iT a b (a+(rows.length+1:Nat) - 1) (b+hs.length - 1)):∃st',aV [.ref d,tI [a,b],bj hs rows] st= .ok (.str "room1") st'/\Gr st st':=by
 obtain⟨L,s1,g1,_,_,hL,e1,e2⟩:=qp T (g:=aq) (ρ:=[]) (st:=st)
 have ln:=pf hL
 rw[show((bT hs rows).map a9).length=rows.length+1 by simp[bT]] at ln
 have lt:∀st:Hs,bI [.tup (hs.map Wv.str)] st= .ok (.int hs.length) st:=λst=>by rw[ni,aB]
 have sT:t8 [3,4] (af 1) [some (.ref d),some (tI [a,b]),some (bj hs rows),none,none,none,none,none,none,none,none] st= .nx [some (.ref d),some (tI [a,b]),some (bj hs rows),some (.int a),some (.int b),none,none,none,none,none,none] st:=rfl
 have no:¬(cL a b/\a+((rows.length+1:Nat):Int)<=99/\b+(hs.length:Int)<=26/\((rows.length+1:Nat):Int) * (hs.length:Int)<=300):=λz=>k ((wC (by omega) T.lo (by have:=T.rw';omega) T.hi).mpr z)
 have hr:=T.rw'
 have mu:=OP (i:=((rows.length+1:Nat):Int)) (j:=(hs.length:Int)) (st:=s1) (.inl ⟨by omega,by omega⟩)
 obtain⟨h1,h2,h3,h4⟩:=h
 have c1:¬a < 0:=by omega
 have c2:¬98 < a:=by omega
 have c3:¬b < 0:=by omega
 have c4:¬25 < b:=by omega
 generalize ((rows.length+1:Nat):Int)=m at ln no mu
 refine⟨s1,dF (n:=11) (g:=aU) ?_,g1⟩
 unfold aU
 by_cases d1:99 < a+m
 ·simp[-cJ,sT,c1,c2,c3,c4,Du,wF,e1,e2,ln,lt,d1]
 ·by_cases d2:26 < b+(hs.length:Int)
  ·simp[-cJ,sT,c1,c2,c3,c4,Du,wF,e1,e2,ln,lt,d1,d2]
  ·have d3:300 < m * (hs.length:Int):=by
    have:¬m * (hs.length:Int)<=300:=λz=>no ⟨⟨h1,h2,h3,h4⟩,by omega,by omega,z⟩
    omega
   simp[-cJ,sT,c1,c2,c3,c4,Du,wF,e1,e2,ln,lt,d1,d2,mu,d3]
theorem uF{a b:Int}{hs:List S}{rows:List (List Wo)}(T:Tb hs rows)(hA:iT a b (a+(rows.length+1:Nat) - 1) (b+hs.length - 1))(hb:((mi a b hs rows).any λx=>pR x.2)=false):∀x∈(mi a b hs rows).map toC,sx x:=λx hx=>by
 obtain⟨y,hy,rfl⟩:=List.mem_map.mp hx
 obtain⟨h1,h2⟩:=(yx T hA).1 y hy
 refine⟨h1,uC h2 ?_⟩
 rw[List.any_eq_false] at hb
 cases q:pR y.2 with
 | false=>rfl
 | true=>exact absurd q (hb y hy)
theorem WD{a b:Int}{d:Nat}{kvs:Ks}{ps:List Pt}{hs:List S}{rows:List (List Wo)}{st:Hs}(T:Tb hs rows)(hA:iT a b (a+(rows.length+1:Nat) - 1) (b+hs.length - 1))(hd:cQ st[d]? =some kvs)(hk:kJ kvs ps)(hl:kvs.length<=200):∃v st',aV [.ref d,tI [a,b],bj hs rows] st= .ok v st'/\Gr st st'/\SI st' v (SD (res kvs (mi a b hs rows))):=by
 obtain⟨⟨p1,p2,p3,p4⟩,p5,p6,p7⟩:=(wC (m:=rows.length+1) (n:=hs.length) (by omega) T.lo (by have:=T.rw';omega) T.hi).mp hA
 obtain⟨L,s1,g1,_,n1,hL,e1,e2⟩:=qp T (g:=aq) (ρ:=[]) (st:=st)
 have ln:=pf hL
 have nl:(bT hs rows).length=rows.length+1:=by simp[bT]
 rw[show((bT hs rows).map a9).length=rows.length+1 by simp[bT]] at ln
 have lt:∀st:Hs,bI [.tup (hs.map Wv.str)] st= .ok (.int hs.length) st:=λst=>by rw[ni,aB]
 have sT:t8 [3,4] (af 1) [some (.ref d),some (tI [a,b]),some (bj hs rows),none,none,none,none,none,none,none,none] st= .nx [some (.ref d),some (tI [a,b]),some (bj hs rows),some (.int a),some (.int b),none,none,none,none,none,none] st:=rfl
 have hr:=T.rw'
 have hm:(rows.length+1) * hs.length<=300:=by exact_mod_cast p7
 have mu:=OP (i:=((rows.length+1:Nat):Int)) (j:=(hs.length:Int)) (st:=s1) (.inl ⟨by omega,by omega⟩)
 have dlt:d < st.length:=by
  by_cases q:d < st.length
  ·exact q
  ·rw[n8 (by omega)] at hd;cases hd
 have hd1:cQ s1[d]? =some kvs:=by rw[g1.2 d dlt];exact hd
 have dc:=qm hd1 hk.hash
 obtain⟨s2,hs2⟩:∃s2,s1++[Ob.bX kvs]=s2:=⟨_,rfl⟩
 rw[hs2] at dc
 have h2:s2[s1.length]? =some (.bX kvs):=by rw[<-hs2];exact eV
 have g2:Gr s1 s2:=by rw[<-hs2];exact Gr.push
 have Zp:=g2.get hL
 have ln2:=pf Zp
 rw[show((bT hs rows).map a9).length=rows.length+1 by simp[bT]] at ln2
 have q:=yz (r0:=some (.ref d)) (r1:=some (tI [a,b])) (r2:=some (bj hs rows)) (a:=a) (b:=b) (L:=L) (D:=s1.length) (mh T) (LN T) T.hi (by omega) (λi j hi hj=>by
  rw[nl] at hi
  exact⟨by omega,by omega,by omega,by omega⟩) (bT hs rows) [] kvs none none none s2 rfl h2 (by rw[nl];omega) (fH Zp)
 rw[nl] at q
 have q0:((([]:List (List Wo)).length:Nat):Int)=0:=rfl
 rw[q0,Int.add_zero] at q
 have cr:cP ((rows.length+1:Nat):Int):=Af (by omega) (by omega)
 have cn:((rows.length+1:Nat):Int).toNat=rows.length+1:=by omega
 have c1:¬a < 0:=by omega
 have c2:¬98 < a:=by omega
 have c3:¬b < 0:=by omega
 have c4:¬25 < b:=by omega
 have d1:¬99 < a+((rows.length+1:Nat):Int):=by omega
 have d2:¬26 < b+(hs.length:Int):=by omega
 have d3:¬300 < ((rows.length+1:Nat):Int) * (hs.length:Int):=by omega
 have O9:=g1.trans g2
 unfold res
 rw[Ht]
 rcases q with ⟨hg,s3,e3,k3⟩ | ⟨hg,o8,o9,uD,s3,e3,k3,h3⟩
 ·rw[if_pos hg]
  refine⟨.str "content1",s3,dF (n:=11) (g:=aU) ?_,g1.trans (g2.mU (au _) k3),congrArg Wv.str (show("content1":S)=(wordOf.lookup ("BadContent":S)).getD "" by decide+kernel)⟩
  unfold aU
  generalize ((rows.length+1:Nat):Int)=m at *
  rw[<-cn] at e3
  simp[-cJ,sT,c1,c2,c3,c4,Du,wF,e1,e2,ln,lt,d1,d2,mu,d3,dc,ln2,cr,e3]
 ·rw[if_neg (by rw[hg];decide)]
  have hb:((mi a b hs rows).any λx=>pR x.2)=false:=by rw[Ht];exact hg
  have hc:=uF T hA hb
  have me:O3 (ups kvs ((mi a b hs rows).map toC)) (jL kvs ((mi a b hs rows).map toC)):=BQ hc λ_=>rfl
  obtain⟨q1,hq1⟩:=hk.ups hc
  obtain⟨q2,hq2⟩:=hk.jL hc
  have len:(ups kvs ((mi a b hs rows).map toC)).length=(jL kvs ((mi a b hs rows).map toC)).length:=by
   have z1:=congrArg dq hq1.1
   have z2:=congrArg dq hq2.1
   have:=(me.perm hq1 hq2).length_eq
   simp at z1 z2
   omega
  rw[len]
  have h3':s3[s1.length]? =some (.bX (jL kvs ((mi a b hs rows).map toC))):=h3
  have ld:=Aw (d:=s1.length) (st:=s3) (kvs:=jL kvs ((mi a b hs rows).map toC)) (by rw[h3'];rfl)
  by_cases hf:200 < (jL kvs ((mi a b hs rows).map toC)).length
  ·rw[if_pos hf]
   refine⟨.str "full1",s3,dF (n:=11) (g:=aU) ?_,g1.trans (g2.mU (au _) k3),congrArg Wv.str (show("full1":S)=(wordOf.lookup ("Full":S)).getD "" by decide+kernel)⟩
   have f':(200:Int) < ((jL kvs ((mi a b hs rows).map toC)).length:Nat):=by omega
   unfold aU
   generalize ((rows.length+1:Nat):Int)=m at *
   rw[<-cn] at e3
   simp[-cJ,-aW,sT,c1,c2,c3,c4,Du,wF,e1,e2,ln,lt,d1,d2,mu,d3,dc,ln2,cr,e3,ld,f']
  ·rw[if_neg hf]
   refine⟨.ref s1.length,s3,dF (n:=11) (g:=aU) ?_,g1.trans (g2.mU (au _) k3),s1.length,_,rfl,by rw[h3'];rfl,me,q2,hq2⟩
   have f':¬(200:Int) < ((jL kvs ((mi a b hs rows).map toC)).length:Nat):=by omega
   unfold aU
   generalize ((rows.length+1:Nat):Int)=m at *
   rw[<-cn] at e3
   simp[-cJ,-aW,sT,c1,c2,c3,c4,Du,wF,e1,e2,ln,lt,d1,d2,mu,d3,dc,ln2,cr,e3,ld,f']
theorem KR{a b:Int}{d:Nat}{kvs:Ks}{ps:List Pt}{hs:List S}{rows:List (List Wo)}{st:Hs}(T:Tb hs rows)(hd:cQ st[d]? =some kvs)(hk:kJ kvs ps)(hl:kvs.length<=200):∃v st',aV [.ref d,tI [a,b],bj hs rows] st= .ok v st'/\Gr st st'/\SI st' v (due a b hs rows kvs):=by
 unfold due
 by_cases h1:cL a b
 ·rw[if_pos h1]
  by_cases h2:iT a b (a+(rows.length+1:Nat) - 1) (b+hs.length - 1)
  ·rw[if_pos h2]
   exact WD T h2 hd hk hl
  ·rw[if_neg h2]
   obtain⟨s1,e1,g1⟩:=WC (d:=d) (st:=st) T h1 h2
   exact⟨_,s1,e1,g1,rfl⟩
 ·rw[if_neg h1]
  exact⟨_,st,WB h1,Gr.refl,rfl⟩
theorem yA{a b:Int}{d e:Nat}{kvs:Ks}{ps:List Pt}{hs:List S}{rows:List (List Wo)}{st:Hs}(T:Tb hs rows)(hd:cQ st[d]? =some kvs)(he:cQ st[e]? =some kvs)(hk:kJ kvs ps)(hl:kvs.length<=200) :
  ∃v1 s1 v2 s2,cj [.ref d,tI [a,b],bj hs rows] st= .ok v1 s1/\aV [.ref e,tI [a,b],bj hs rows] s1= .ok v2 s2/\Gr st s2/\sL v1 v2 s2= .ok (.bl false) s2:=by
 obtain⟨v1,s1,e1,g1,a1⟩:=KP (a:=a) (b:=b) T hd hk hl
 have elt:e < st.length:=by
  by_cases q:e < st.length
  ·exact q
  ·rw[n8 (by omega)] at he;cases he
 have KJ:cQ s1[e]? =some kvs:=by rw[g1.2 e elt];exact he
 obtain⟨v2,s2,e2,g2,a2⟩:=KR (a:=a) (b:=b) T KJ hk hl
 refine⟨v1,s1,v2,s2,e1,e2,g1.trans g2,?_⟩
 have WE:∀m,due a b hs rows kvs= .inr m->∃qs,kJ m qs:=λm hm=>by
  unfold due at hm
  split at hm
  ·split at hm
   ·rename_i h1 h2
    unfold res at hm
    split at hm
    ·cases hm
    ·rename_i h3
     split at hm
     ·cases hm
     ·cases hm
      exact hk.ups (uF T h2 (by simpa using h3))
   ·cases hm
  ·cases hm
 cases hr:due a b hs rows kvs with
 | inl w=>
  rw[hr] at a1 a2
  rw[show v1= .str w from a1,show v2= .str w from a2]
  show oI (.str w) (.str w) s2=_
  exact Ag rfl rfl BA
 | inr m=>
  obtain⟨qs,hq⟩:=WE m hr
  rw[hr] at a1 a2
  obtain⟨k,rfl,hk1⟩:=a1
  obtain⟨k2,m',rfl,hk2,me,qs',hq'⟩:=a2
  have klt:k < s1.length:=by
   by_cases q:k < s1.length
   ·exact q
   ·rw[n8 (by omega)] at hk1;cases hk1
  exact(Hh me hq hq' (by rw[g2.2 k klt];exact hk1) hk2).2
theorem sj{st:Hs}{n:Nat}:∀l:List Int,fm (a8 st (n+1)) (l.map Wv.int)=some (l.map qr)
 | []=>rfl
 | i::r=>by
  rw[ay]
  unfold fm
  rw[sj r]
  rfl
theorem sr:∀a b:List Int,eR (a.map qr) (b.map qr)=decide (a=b)
 | [],[]=>by simp[eR]
 | [],_::_=>by simp[eR]
 | _::_,[]=>by simp[eR]
 | i::a,j::b=>by
  have ih:=sr a b
  simp only[ay,eR,ih]
  rw[Bool.eq_iff_iff]
  simp[bf]
theorem BS{st:Hs}{a b:Nat}{xs ys:List Int}(h:ao st a=some (xs.map Wv.int))(k:ao st b=some (ys.map Wv.int)):oI (.ref a) (.ref b) st= .ok (.bl (!decide (xs=ys))) st:=by
 have d1:a8 st 20 (.ref a)=some (.list (xs.map qr)):=by rw[LB (n:=19) h,sj];rfl
 have d2:a8 st 20 (.ref b)=some (.list (ys.map qr)):=by rw[LB (n:=19) k,sj];rfl
 unfold oI
 rw[d1,d2]
 dsimp only
 congr 3
 simp[bf,sr]
theorem yB{n:Nat}:∀{ws:List Wv},(∀w∈ws,∃d:PyData,(∀st:Hs,a8 st n w=some d)/\bf d d=true)->∃ds:List PyData,(∀st:Hs,fm (a8 st n) ws=some ds)/\eR ds ds=true
 | [],_=>⟨[],λ_=>rfl,by simp[eR]⟩
 | w::r,h=>by
  obtain⟨d,d1,d2⟩:=h w aR
  obtain⟨ds,e1,e2⟩:=yB (ws:=r) λv hv=>h v (aN _ hv)
  refine⟨d::ds,λst=>?_,by simp[eR,d2,e2]⟩
  unfold fm
  rw[d1,e1]
theorem WG:Ap ("t":S):=⟨by decide+kernel,by unfold Sg;decide+kernel⟩
theorem SJ{c:Int}{st:Hs}:∃(d:Nat)(kvs:Ks)(ps:List Pt)(st':Hs),fO [.int c] st= .ok (.ref d) st'/\st'[d]? =some (.bX kvs)/\kJ kvs ps/\kvs.length<=200/\Gr st st':=by
 have pb:(1000:Int) < LC:=by decide
 have b1:=kI (x:=c) (m:=13) (by omega)
 have b2:=kI (x:=c.fdiv 16) (m:=11) (by omega)
 have a1:=λst:Hs=>c_ (st:=st) (i:=c) (j:=13) (by decide)
 have a2:=λst:Hs=>e_ (st:=st) (i:=c) (j:=16) ⟨by decide,by decide⟩
 have a3:=λst:Hs=>c_ (st:=st) (i:=c.fdiv 16) (j:=11) (by decide)
 have a4:=λst:Hs=>e_ (st:=st) (i:=c) (j:=13) ⟨by decide,by decide⟩
 have a5:=λst:Hs=>c_ (st:=st) (i:=c.fdiv 13) (j:=4) (by decide)
 obtain⟨s1,hs1⟩:∃s1,st++[Ob.lst []]=s1:=⟨_,rfl⟩
 have g1:Gr st s1:=by rw[<-hs1];exact Gr.push
 have h1:s1[st.length]? =some (.lst []):=by rw[<-hs1];exact eV
 have k2:∀st:Hs,jE [.int (c.fmod 13),.int (190+(c.fdiv 16).fmod 11)] st= .ok (.ref st.length) (st++[.lst [.int (c.fmod 13),.int (190+(c.fdiv 16).fmod 11)]]):=λst=>dk (by simp[lim])
 obtain⟨s2,hs2⟩:∃s2,s1++[Ob.lst [.int (c.fmod 13),.int (190+(c.fdiv 16).fmod 11)]]=s2:=⟨_,rfl⟩
 have g2:Gr s1 s2:=by rw[<-hs2];exact Gr.push
 have l2:ao s2 s1.length=some [.int (c.fmod 13),.int (190+(c.fdiv 16).fmod 11)]:=by rw[<-hs2];exact ax
 obtain⟨r,hr,hr0,hr1⟩:∃r:Int,(∀st:Hs,nZ [.bl ((c.fdiv 13).fmod 4 == 1)] st= .ok (.int r) st)/\0<=r/\r < 2:=by
  cases ((c.fdiv 13).fmod 4 == 1)
  ·exact⟨0,λ_=>rfl,by omega,by omega⟩
  ·exact⟨1,λ_=>rfl,by omega,by omega⟩
 obtain⟨v,ev,hv⟩:=lp (ws:=[Wv.int (c.fmod 13),.int (190+(c.fdiv 16).fmod 11)]) (d:=r) hr0 (by simpa using hr1)
 obtain⟨n,rfl,hn⟩:∃n:Nat,v= .int (n:Int)/\n<=200:=by
  simp only[cZ,dC,or_false] at hv
  rcases hv with rfl | rfl
  ·exact⟨(c.fmod 13).toNat,by congr 1;omega,by omega⟩
  ·exact⟨(190+(c.fdiv 16).fmod 11).toNat,by congr 1;omega,by omega⟩
 have ix:=x8 l2 ev
 have cr:cP (n:Int):=Af (by omega) (by omega)
 have h2:=g2.get h1
 have m3:=λst:Hs=>mix (st:=st) (c:=c) (k:=3) (by omega) (by omega)
 have m4:=λst:Hs=>mix (st:=st) (c:=c) (k:=4) (by omega) (by omega)
 obtain⟨ρ',s3,e3,o3,cs,rfl,k3,h3,n3,hc⟩:=qk (i:=3) (gb:=hR) (λk ρ s=>∃(o3:Option Wv)(cs:List Cl),ρ=[some (.int c),some (.ref st.length),some (.int (n:Int)),o3]/\cx st.length s2 s/\s[st.length]? =some (.lst (cs.map cw))/\cs.length=k/\∀x∈cs,sx x)
  (bo 0 n) 0 [some (.int c),some (.ref st.length),some (.int (n:Int)),none] s2 ⟨none,[],rfl,cx.refl,h2,rfl,λx h=>by cases h⟩ (λj w hw ρ s hP=>by
   obtain⟨o3,cs,rfl,k3,h3,n3,hc⟩:=hP
   have hj:j < n:=by
    have q:=(List.getElem?_eq_some_iff.mp hw).1
    rw[bL] at q
    exact q
   rw[oN hj,Int.zero_add] at hw
   cases hw
   have q1:=λst:Hs=>c_ (st:=st) (i:=hU c 3+(j:Int)) (j:=99) (by decide)
   have q2:=λst:Hs=>e_ (st:=st) (i:=(j:Int)) (j:=99) ⟨by decide,by decide⟩
   have q3:=λst:Hs=>c_ (st:=st) (i:=hU c 4+(j:Int).fdiv 99) (j:=26) (by decide)
   have q4:=λst:Hs=>c_ (st:=st) (i:=(j:Int)) (j:=3) (by decide)
   have kl:∀st:Hs,jE [.int (j:Int),.str "t",.int (-(j:Int))] st= .ok (.ref st.length) (st++[.lst [.int (j:Int),.str "t",.int (-(j:Int))]]):=λst=>dk (by simp[lim])
   have b3:=kI (x:=(j:Int)) (m:=3) (by omega)
   obtain⟨v,ev,hv⟩:=lp (ws:=[Wv.int (j:Int),.str "t",.int (-(j:Int))]) (d:=(j:Int).fmod 3) b3.1 (by simpa using b3.2)
   have ix:=x8 (st:=s++[.lst [.int (j:Int),.str "t",.int (-(j:Int))]]) ax ev
   have hcn:Cn v:=by
    simp only[cZ,dC,or_false] at hv
    rcases hv with rfl | rfl | rfl
    ·exact .inl ⟨_,rfl,by omega,by omega⟩
    ·exact .inr ⟨_,rfl,WG⟩
    ·exact .inl ⟨_,rfl,by omega,by omega⟩
   have km:=λga ρ=>ou (mt:=jV) (ga:=ga) (ρ:=ρ) (st:=s) (l:=st.length) (fH h3)
   have h4:(s++[Ob.lst [.int (j:Int),.str "t",.int (-(j:Int))]])[st.length]? =some (.lst (cs.map cw)):=lq h3
   have x:∃x:Cl,cw x= .tup [.tup [.int ((hU c 3+(j:Int)).fmod 99),.int ((hU c 4+(j:Int).fdiv 99).fmod 26)],v]/\sx x:=by
    have p1:=kI (x:=hU c 3+(j:Int)) (m:=99) (by omega)
    have p2:=kI (x:=hU c 4+(j:Int).fdiv 99) (m:=26) (by omega)
    exact⟨(((hU c 3+(j:Int)).fmod 99,(hU c 4+(j:Int).fdiv 99).fmod 26),v),rfl,(show cL ((hU c 3+(j:Int)).fmod 99) ((hU c 4+(j:Int).fdiv 99).fmod 26) from⟨by omega,by omega,by omega,by omega⟩),.inr hcn⟩
   obtain⟨x,hx,ok⟩:=x
   have ap:=GP (v:=cw x) h4 (by rw[aB];unfold lim;omega)
   rw[show cs.map cw++[cw x]=(cs++[x]).map cw by simp] at ap
   refine⟨_,_,?_,some (.int (j:Int)),cs++[x],rfl,k3.trans (cx.push.trans cx.set),fG h4,by simp[n3],λy hy=>?_⟩
   rotate_left
   ·rcases List.mem_append.mp hy with z | z
    ·exact hc y z
    ·rw[List.mem_singleton.mp z];exact ok
   ·rw[hx] at ap
    unfold hR
    simp[-cq,km,m3,q1,m4,q2,q3,kl,q4,ix,ap])
 rw[bL,wx] at n3
 obtain⟨s4,e4,g4,h4⟩:=Dm (fH h3) hc (by omega)
 have P0:kJ [] []:=⟨rfl,qc,λp h=>(by cases h),λkv h=>by cases h⟩
 obtain⟨ps,hps⟩:=P0.ups hc
 have ul:=qo [] hc
 have n2:=g2.1
 have nn:=g1.1
 refine⟨s3.length,_,ps,s4,dF (n:=4) (g:=iG) ?_,h4,hps,by simp at ul;omega,((g1.trans g2).mU (au _) k3).trans g4⟩
 unfold iG
 simp[-cJ,hs1,a1,a2,a3,a4,a5,k2,hs2,hr,ix,cr,e3,e4]
theorem BU(f:Int->Bool):∀l:List Int,kD (l.map λi=>Wv.bl (f i))=some (l.map f)
 | []=>rfl
 | i::r=>by
  rw[ay,ay]
  unfold kD
  rw[BU f r]
theorem all_map{l:Nat}{st:Hs}{f:Int->Bool}{ns:List Int}(h:ao st l=some (ns.map λi=>Wv.bl (f i))):zy [.ref l] st= .ok (.bl (ns.all f)) st:=by
 show(match ao st l with | some ws=>(match kD ws with | some bs=>Re.ok (Wv.bl (bs.all id)) st | none=> .bad) | none=> .bad)=_
 rw[h]
 dsimp only
 rw[BU]
 dsimp only
 rw[E_]
 rfl
def inR(n:Nat)(i:Int):Bool:=decide (0<=i)&&decide (i < (n:Int))
def lE(rows:List (List Wo))(ns:List Int):List (List Wo):=ns.map λi=>rows.getD i.toNat []
theorem Hu{rows:List (List Wo)}{i:Int}(h:inR rows.length i=true):L2.mv (rows.map a9) i=some (a9 (rows.getD i.toNat [])):=by
 unfold inR at h
 rw[cz] at h
 have h0:=of_decide_eq_true h.1
 have h1:=of_decide_eq_true h.2
 have hl:i.toNat < rows.length:=by omega
 have q:=L2.fj (xs:=rows.map a9) (j:=i.toNat) (v:=(rows.map a9)[i.toNat]'(by simpa using hl)) (cK _)
 rw[show((i.toNat:Nat):Int)=i by omega] at q
 rw[q]
 simp[hl]
theorem qt{n:Nat}{ws:List Wv}(h:∀w∈ws,∃d:PyData,(∀st:Hs,a8 st n w=some d)/\bf d d=true):∃d:PyData,(∀st:Hs,a8 st (n+1) (.tup ws)=some d)/\bf d d=true:=by
 obtain⟨ds,e1,e2⟩:=yB h
 refine⟨.tuple ds,λst=>?_,by simpa [bf] using e2⟩
 show(fm (a8 st n) ws).map AZ=_
 rw[e1]
 rfl
theorem LQ(w:Wo)(n:Nat):∃d:PyData,(∀st:Hs,a8 st n w.w=some d)/\bf d d=true:=by
 cases w with
 | aI=>exact⟨.none,λ_=>by cases n<;>rfl,by simp[bf]⟩
 | int i=>exact⟨.int i,λ_=>LI,LA⟩
 | str x=>exact⟨.str x,λ_=>LH,BA⟩
theorem O_{hs:List S}{rows:List (List Wo)}{st:Hs}:oI (bj hs rows) (bj hs rows) st= .ok (.bl false) st:=by
 obtain⟨d,d1,d2⟩:=qt (n:=19) (ws:=[.tup (hs.map Wv.str),.tup (rows.map a9)]) λw hw=>by
  simp only[cZ,dC,or_false] at hw
  rcases hw with rfl | rfl
  ·refine qt (n:=18) λw hw=>?_
   obtain⟨h,_,rfl⟩:=List.mem_map.mp hw
   exact LQ (.str h) 18
  ·refine qt (n:=18) λw hw=>?_
   obtain⟨r,_,rfl⟩:=List.mem_map.mp hw
   refine qt (n:=17) λw hw=>?_
   obtain⟨z,_,rfl⟩:=List.mem_map.mp hw
   exact LQ z 17
 exact Ag (d1 st) (d1 st) d2
section
variable {hs:List S} {rows:List (List Wo)} {ns:List Int}
theorem Hv{st:Hs}:gS [.tup (rows.map a9)] st= .ok (.int rows.length) st:=by
 show Re.ok (Wv.int ((rows.map a9).length:Nat)) st=_
 rw[aB]
theorem Az{l:Nat}{st:Hs}(hl:ao st l=some (ns.map Wv.int))(hn:ns.length<=200) :
  (ns.all (inR rows.length)=false/\∃st',bF [bj hs rows,.ref l] st= .err "BadCount" st'/\Gr st st')\/
  (ns.all (inR rows.length)=true/\98 < ns.length/\∃st',bF [bj hs rows,.ref l] st= .err "BadTable" st'/\Gr st st')\/
  (ns.all (inR rows.length)=true/\ns.length<=98/\∃st',bF [bj hs rows,.ref l] st= .ok (bj hs (lE rows ns)) st'/\Gr st st'):=by
 have q:=cR (cs:=[("rows",2)]) (gt:=jH) (ge:=gj) (ρ:=[some (bj hs rows),some (.ref l),some (.tup (rows.map a9))]) (w:=(some l,ns.map Wv.int)) (st:=st) (t:=λ_=>true) (f:=λv=> .bl (inR rows.length (l_ v))) hl
  (λv _ acc=>rfl) (λv hv _ acc=>by
   obtain⟨i,hi,rfl⟩:=List.mem_map.mp hv
   unfold gj
   by_cases c1:0<=i
   ·by_cases c2:i < (rows.length:Int)<;>simp[dX,l_,inR,Hv,c1,c2]
   ·simp[dX,l_,inR,c1])
  (by show(ns.map Wv.int).length < lim;rw[aB];unfold lim;omega)
 rw[show((some l,ns.map Wv.int):Wk).2=ns.map Wv.int from rfl,List.filter_eq_self.mpr (λ_ _=>rfl),aW] at q
 have e1:(ns.map ((λv=>Wv.bl (inR rows.length (l_ v))) ∘ Wv.int))=ns.map λi=>Wv.bl (inR rows.length i):=rfl
 rw[e1] at q
 obtain⟨s1,hs1⟩:∃s1,st++[Ob.lst (ns.map λi=>Wv.bl (inR rows.length i))]=s1:=⟨_,rfl⟩
 rw[hs1] at q
 have g1:Gr st s1:=by rw[<-hs1];exact Gr.push
 have al:=all_map (st:=s1) (l:=st.length) (f:=inR rows.length) (ns:=ns) (by rw[<-hs1];exact ax)
 have ln:=By (g1.lst hl)
 rw[aB] at ln
 cases ha:ns.all (inR rows.length) with
 | false=>
  rw[ha] at al
  refine .inl ⟨rfl,s1,?_,g1⟩
  unfold bF cN fK
  simp[wF,jk hl,q,al,lim]
 | true=>
  rw[ha] at al
  by_cases c:98 < ns.length
  ·have c':(98:Int) < (ns.length:Nat):=by omega
   refine .inr (.inl ⟨rfl,c,s1,?_,g1⟩)
   unfold bF cN fK
   simp[wF,jk hl,q,al,ln,c',lim]
  ·have c':¬(98:Int) < (ns.length:Nat):=by omega
   have q2:=cR (cs:=[("rows",2)]) (gt:=jG) (ge:=gg) (ρ:=[some (bj hs rows),some (.ref l),some (.tup (rows.map a9))]) (w:=(some l,ns.map Wv.int)) (st:=s1) (t:=λ_=>true) (f:=λv=>a9 (rows.getD (l_ v).toNat [])) (g1.lst hl)
    (λv _ acc=>rfl) (λv hv _ acc=>by
     obtain⟨i,hi,rfl⟩:=List.mem_map.mp hv
     have ix:=λst:Hs=>oU (st:=st) (Hu (List.all_eq_true.mp ha i hi))
     unfold gg
     simp[-mM,dX,l_,ix])
    (by show(ns.map Wv.int).length < lim;rw[aB];unfold lim;omega)
   rw[show((some l,ns.map Wv.int):Wk).2=ns.map Wv.int from rfl,List.filter_eq_self.mpr (λ_ _=>rfl),aW] at q2
   have e2:(ns.map ((λv=>a9 (rows.getD (l_ v).toNat [])) ∘ Wv.int))=(lE rows ns).map a9:=by unfold lE;rw[aW];rfl
   rw[e2] at q2
   have tc:=uA (st:=s1++[.lst ((lE rows ns).map a9)]) ax
   refine .inr (.inr ⟨rfl,by omega,s1++[.lst ((lE rows ns).map a9)],?_,g1.trans Gr.push⟩)
   unfold bF cN fK
   simp[Du,wF,jk hl,q,al,ln,c',jk (g1.lst hl),q2,tc]
   rfl
theorem pg{l:Nat}{st:Hs}(hl:ao st l=some (ns.map Wv.int))(hn:ns.length<=200) :
  (ns.all (inR rows.length)=false/\∃st',aX [bj hs rows,.ref l] st= .ok (.str "count1") st'/\Gr st st')\/
  (ns.all (inR rows.length)=true/\98 < ns.length/\∃st',aX [bj hs rows,.ref l] st= .ok (.str "table1") st'/\Gr st st')\/
  (ns.all (inR rows.length)=true/\ns.length<=98/\∃st',aX [bj hs rows,.ref l] st= .ok (bj hs (lE rows ns)) st'/\Gr st st'):=by
 have q:=cR (cs:=[("table",0)]) (gt:=dU) (ge:=dW) (ρ:=[some (bj hs rows),some (.ref l)]) (w:=(some l,ns.map Wv.int)) (st:=st) (t:=λv=> !(inR rows.length (l_ v))) (f:=id) hl
  (λv hv acc=>by
   obtain⟨i,hi,rfl⟩:=List.mem_map.mp hv
   unfold dU
   by_cases c1:i < 0
   ·have:¬0<=i:=by omega
    simp[dX,l_,inR,c1,this]
   ·have z0:0<=i:=by omega
    by_cases c2:i < (rows.length:Int)
    ·have z1:¬(rows.length:Int)<=i:=by omega
     simp[dX,l_,inR,wF,Hv,c1,z0,c2,z1]
    ·have z1:(rows.length:Int)<=i:=by omega
     simp[dX,l_,inR,wF,Hv,c1,z0,c2,z1]) (λv hv _ acc=>by
   unfold dW
   simp[dX])
  (by show(ns.map Wv.int).length < lim;rw[aB];unfold lim;omega)
 have e1:((((some l,ns.map Wv.int):Wk).2.filter λv=> !(inR rows.length (l_ v))).map id)=(ns.filter λi=> !(inR rows.length i)).map Wv.int:=by
  rw[List.map_id,show((some l,ns.map Wv.int):Wk).2=ns.map Wv.int from rfl,List.filter_map]
  rfl
 rw[e1] at q
 obtain⟨s1,hs1⟩:∃s1,st++[Ob.lst ((ns.filter λi=> !(inR rows.length i)).map Wv.int)]=s1:=⟨_,rfl⟩
 rw[hs1] at q
 have g1:Gr st s1:=by rw[<-hs1];exact Gr.push
 have l1:ao s1 st.length=some ((ns.filter λi=> !(inR rows.length i)).map Wv.int):=by rw[<-hs1];exact ax
 obtain⟨s2,hs2⟩:∃s2,s1++[Ob.lst []]=s2:=⟨_,rfl⟩
 have g2:Gr s1 s2:=by rw[<-hs2];exact Gr.push
 have ne:=BS (st:=s2) (ys:=[]) (g2.lst l1) (by rw[<-hs2];exact ax)
 have O9:=g1.trans g2
 have ln:=By (O9.lst hl)
 rw[aB] at ln
 cases ha:ns.all (inR rows.length) with
 | false=>
  have nf:¬(ns.filter λi=> !(inR rows.length i))=[]:=λz=>by
   rw[O'] at z
   rw[List.all_eq_false] at ha
   obtain⟨i,hi,hh⟩:=ha
   exact z i hi (by simpa using hh)
  rw[decide_eq_false nf] at ne
  refine .inl ⟨rfl,s2,dF (n:=2) (g:=bx) ?_,O9⟩
  unfold bx
  simp[-cJ,jk hl,q,hs2,ne]
 | true=>
  have nf:(ns.filter λi=> !(inR rows.length i))=[]:=by
   rw[O']
   intro i hi
   rw[List.all_eq_true.mp ha i hi]
   decide
  rw[decide_eq_true nf] at ne
  by_cases c:98 < ns.length
  ·have c':(98:Int) < (ns.length:Nat):=by omega
   refine .inr (.inl ⟨rfl,c,s2,dF (n:=2) (g:=bx) ?_,O9⟩)
   unfold bx
   simp[-cJ,jk hl,q,hs2,ne,ln,c']
  ·have c':¬(98:Int) < (ns.length:Nat):=by omega
   have q2:=cR (cs:=[("table",0)]) (gt:=g0) (ge:=dS) (ρ:=[some (bj hs rows),some (.ref l)]) (w:=(some l,ns.map Wv.int)) (st:=s2) (t:=λ_=>true) (f:=λv=>a9 (rows.getD (l_ v).toNat [])) (O9.lst hl)
    (λv _ acc=>rfl) (λv hv _ acc=>by
     obtain⟨i,hi,rfl⟩:=List.mem_map.mp hv
     have ix:=λst:Hs=>oU (st:=st) (Hu (List.all_eq_true.mp ha i hi))
     unfold dS
     simp[-mM,dX,l_,wF,ix])
    (by show(ns.map Wv.int).length < lim;rw[aB];unfold lim;omega)
   rw[show((some l,ns.map Wv.int):Wk).2=ns.map Wv.int from rfl,List.filter_eq_self.mpr (λ_ _=>rfl),aW] at q2
   have e2:(ns.map ((λv=>a9 (rows.getD (l_ v).toNat [])) ∘ Wv.int))=(lE rows ns).map a9:=by unfold lE;rw[aW];rfl
   rw[e2] at q2
   have tc:=uA (st:=s2++[.lst ((lE rows ns).map a9)]) ax
   refine .inr (.inr ⟨rfl,by omega,s2++[.lst ((lE rows ns).map a9)],dF (n:=2) (g:=bx) ?_,O9.trans Gr.push⟩)
   unfold bx
   simp[-cJ,jk hl,q,hs2,ne,ln,c',Du,jk (O9.lst hl),q2,tc]
   rfl
end
theorem yC{c w:S}{t:Wv}{l:Nat}{st s1:Hs}(h:(c,w)∈wordOf)(e:bF [t,.ref l] st= .err c s1)(g1:Gr st s1):∃st',c9 [t,.ref l] st= .ok (.str w) st'/\Gr st st':=by
 obtain⟨hc,s2,e2,g2⟩:=word h s1
 have bd:de [some t,some (.ref l),some .aI,none] st= .err c [some t,some (.ref l),some .aI,none] s1:=by
  unfold de
  simp[e]
 have su:eW [some t,some (.ref l),some .aI,some (.mK c)] s1= .nx [some t,some (.ref l),some (.str w),some (.mK c)] s2:=by
  unfold eW
  simp[e2]
 have tr:=x9 (cat:=λy=>Ah.lookup (y,("SheetError":PySem.Str))) (i:=3) (gs:=eW) (ρ:=[some t,some (.ref l),some .aI,none]) (st:=s1) hc su
 refine⟨s2,dF (n:=4) (g:=eh) ?_,g1.trans g2⟩
 unfold eh
 simp[bd,tr]
theorem Dn{t v:Wv}{l:Nat}{st s1:Hs}(e:bF [t,.ref l] st= .ok v s1):c9 [t,.ref l] st= .ok v s1:=by
 have bd:de [some t,some (.ref l),some .aI,none] st= .nx [some t,some (.ref l),some v,none] s1:=by
  unfold de
  simp[e]
 refine dF (n:=4) (g:=eh) ?_
 unfold eh
 simp[bd]
theorem Dp{hs:List S}{rows:List (List Wo)}{ns:List Int}{l k:Nat}{st:Hs}(T:Tb hs rows)(hl:ao st l=some (ns.map Wv.int))(hk:ao st k=some (ns.map Wv.int))(hn:ns.length<=200) :
  ∃v s1 s2,c9 [bj hs rows,.ref l] st= .ok v s1/\aX [bj hs rows,.ref k] s1= .ok v s2/\Gr st s1/\Gr s1 s2/\(∀st:Hs,oI v v st= .ok (.bl false) st)/\((∃w,v= .str w)\/∃rows',v=bj hs rows'/\Tb hs rows'):=by
 have nw:∀w:S,∀st:Hs,oI (.str w) (.str w) st= .ok (.bl false) st:=λw st=>Ag rfl rfl BA
 rcases Az (hs:=hs) (rows:=rows) hl hn with ⟨h1,s1,e1,g1⟩ | ⟨h1,h2,s1,e1,g1⟩ | ⟨h1,h2,s1,e1,g1⟩
 ·obtain⟨s2,e2,g2⟩:=yC (w:="count1") (by decide+kernel) e1 g1
  rcases pg (hs:=hs) (rows:=rows) (g2.lst hk) hn with ⟨_,s3,e3,g3⟩ | ⟨z,_⟩ | ⟨z,_⟩
  ·exact⟨_,s2,s3,e2,e3,g2,g3,nw _,.inl ⟨_,rfl⟩⟩
  ·rw[h1] at z;cases z
  ·rw[h1] at z;cases z
 ·obtain⟨s2,e2,g2⟩:=yC (w:="table1") (by decide+kernel) e1 g1
  rcases pg (hs:=hs) (rows:=rows) (g2.lst hk) hn with ⟨z,_⟩ | ⟨_,_,s3,e3,g3⟩ | ⟨_,z,_⟩
  ·rw[h1] at z;cases z
  ·exact⟨_,s2,s3,e2,e3,g2,g3,nw _,.inl ⟨_,rfl⟩⟩
  ·omega
 ·rcases pg (hs:=hs) (rows:=rows) (g1.lst hk) hn with ⟨z,_⟩ | ⟨_,z,_⟩ | ⟨_,_,s3,e3,g3⟩
  ·rw[h1] at z;cases z
  ·omega
  ·refine⟨_,s1,s3,Dn e1,e3,g1,g3,λst=>O_,.inr ⟨_,rfl,T.lo,T.hi,T.of,by unfold lE;simpa using h2,?_,?_⟩⟩
   ·intro r hr
    obtain⟨i,hi,rfl⟩:=List.mem_map.mp hr
    have:=List.all_eq_true.mp h1 i hi
    unfold inR at this
    rw[cz] at this
    have a0:=of_decide_eq_true this.1
    have a1:=of_decide_eq_true this.2
    have lt:i.toNat < rows.length:=by omega
    rw[mM,cK lt,Option.getD_some]
    exact T.wd _ (qh lt)
   ·intro r hr
    obtain⟨i,hi,rfl⟩:=List.mem_map.mp hr
    have:=List.all_eq_true.mp h1 i hi
    unfold inR at this
    rw[cz] at this
    have a0:=of_decide_eq_true this.1
    have a1:=of_decide_eq_true this.2
    have lt:i.toNat < rows.length:=by omega
    rw[mM,cK lt,Option.getD_some]
    exact T.ok _ (qh lt)
def Um:S:="abcdefghijklmnopqrstuvwxyz"
theorem SK:∀c:Fin 26,Um.cps.toList[c.val]? =some (97+c.val):=by decide+kernel
theorem Pa{c:Nat}(h:c < 26)(st:Hs):bU (.str Um) (.int (c:Nat)) st= .ok (.str ⟨#[97+c]⟩) st:=by
 have e:=L2.fj (SK ⟨c,h⟩)
 show(if Um.length<=lim then(match L2.mv Um.cps.toList (c:Int) with | some c=>Re.ok (Wv.str ⟨#[c]⟩) st | none=> .bad) else .bad)=_
 rw[if_pos (by decide+kernel),e]
def HD:List S:=(ig 26).map λk=>⟨#[97+k]⟩
theorem SN:∀h∈HD,Ap h:=λh hh=>by
 obtain⟨k,hk,rfl⟩:=List.mem_map.mp hh
 have:=List.mem_range.mp hk
 refine⟨by show 1<=40;decide,λc hc=>?_⟩
 have:c=97+k:=by simpa using hc
 subst this
 unfold Sg
 omega
theorem WH{ws:List Wv}{n:Int}{st:Hs}(h0:ws≠[])(h1:2<=n)(h2:n < 1000)(h3:ws.length<=30):bM (.tup ws) (.int n) st= .ok (.tup (ar n.toNat ws).flatten) st:=by
 show(if ws≠[]/\2<=n/\n < 2 ^ 62/\ws.length * n.toNat<=lim then Re.ok (Wv.tup (ar n.toNat ws).flatten) st else .bad)=_
 have c:ws.length * n.toNat<=lim:=bg (BC h3 (show n.toNat<=1000 by omega)) (by decide)
 rw[if_pos ⟨h0,h1,by omega,c⟩]
theorem rep1{w:Wv}{n:Int}{k:Nat}{st:Hs}(hk:n.toNat=k)(h1:2<=n)(h2:n < 1000):bM (.tup [w]) (.int n) st= .ok (.tup (ar k w)) st:=by
 rw[WH (by simp) h1 h2 (by simp),hk]
 have e:∀k:Nat,(ar k [w]).flatten=ar k w:=λk=>by
  induction k with
  | zero=>rfl
  | succ k ih=>rw[fk,jP,ih,fk];rfl
 rw[e]
def hG(n:Nat)(w:Wo):List Wo:=ar n w
theorem KS{k:Nat}{r:List Wo}:Wv.tup (ar k (a9 r))= .tup ((ar k r).map a9):=by rw[BV]
abbrev TT:=List S×List (List Wo)
def oG(x:TT):Wv:=bj x.1 x.2
def TS:List TT:=[(HD.take 4,ar 74 (hG 4 .aI)),(HD.take 4,ar 75 (hG 4 .aI)),(HD,[]),(HD,ar 10 (hG 26 .aI)),(HD,ar 11 (hG 26 (.int 1))),(HD.take 1,ar 98 (hG 1 .aI))]
theorem ph{n k:Nat}{w:Wo}(h1:1<=n)(h2:n<=26)(hk:k<=98)(hw:w.ok=true):Tb (HD.take n) (ar k (hG n w)) where
 lo:=by rw[dt];show 1<=min n 26;omega
 hi:=by rw[dt];show min n 26<=26;omega
 of:=λh hh=>SN h (vN hh)
 rw':=by rw[AI];exact hk
 wd:=λr hr=>by rw[(List.mem_replicate.mp hr).2,dt];show(ar n w).length=min n 26;rw[AI];omega
 ok:=λr hr z hz=>by rw[(List.mem_replicate.mp hr).2] at hz;rw[(List.mem_replicate.mp hz).2];exact hw
theorem SQ:∀x∈TS,Tb x.1 x.2:=λx hx=>by
 have e26:HD=HD.take 26:=rfl
 unfold TS at hx
 simp only[cZ,dC,or_false] at hx
 rcases hx with rfl | rfl | rfl | rfl | rfl | rfl
 ·exact ph (by omega) (by omega) (by omega) rfl
 ·exact ph (by omega) (by omega) (by omega) rfl
 ·exact ph (n:=26) (k:=0) (w:=.aI) (by omega) (by omega) (by omega) rfl
 ·exact ph (n:=26) (by omega) (by omega) (by omega) rfl
 ·exact ph (n:=26) (by omega) (by omega) (by omega) (by decide)
 ·exact ph (by omega) (by omega) (by omega) rfl
def tP(p:Pt):Wv:=tI [p.1,p.2]
section
variable {d:Nat} {kvs:Ks} {ps:List Pt}
theorem SR{x:TT}{p:Pt}{st:Hs}{r1 r2:Option Wv}(T:Tb x.1 x.2)(hd:cQ st[d]? =some kvs)(hk:kJ kvs ps)(hl:kvs.length<=200):∃st',bV [some (.ref d),r1,r2,some (oG x),some (tP p)] st= .nx [some (.ref d),r1,r2,some (oG x),some (tP p)] st'/\Gr st st':=by
 obtain⟨v1,s1,v2,s2,e1,e2,g,ne⟩:=yA (a:=p.1) (b:=p.2) T hd hd hk hl
 have A3:cj [.ref d,tP p,oG x] st= .ok v1 s1:=e1
 have Cu:aV [.ref d,tP p,oG x] s1= .ok v2 s2:=e2
 refine⟨s2,?_,g⟩
 unfold bV
 simp[A3,Cu,ne]
theorem gQ{st st':Hs}(hd:cQ st[d]? =some kvs)(g:Gr st st'):cQ st'[d]? =some kvs:=by
 have lt:d < st.length:=by
  by_cases q:d < st.length
  ·exact q
  ·rw[n8 (by omega)] at hd;cases hd
 rw[g.2 d lt]
 exact hd
theorem SU{x:TT}{st:Hs}{r1 r2 o4:Option Wv}(T:Tb x.1 x.2)(hd:cQ st[d]? =some kvs)(hk:kJ kvs ps)(hl:kvs.length<=200):∃Dw st',bW [some (.ref d),r1,r2,some (oG x),o4] st= .nx [some (.ref d),r1,r2,some (oG x),Dw] st'/\Gr st st':=by
 have kl:jE [.tup [.int 0,.int 0],.tup [.int 0,.int 1],.tup [.int 1,.int 0],.tup [.int 24,.int 22]] st= .ok (.ref st.length) (st++[.lst (([(0,0),(0,1),(1,0),(24,22)]:List Pt).map tP)]):=dk (by simp[lim])
 obtain⟨s1,hs1⟩:∃s1,st++[Ob.lst (([(0,0),(0,1),(1,0),(24,22)]:List Pt).map tP)]=s1:=⟨_,rfl⟩
 rw[hs1] at kl
 have g1:Gr st s1:=by rw[<-hs1];exact Gr.push
 have l1:ao s1 st.length=some (([(0,0),(0,1),(1,0),(24,22)]:List Pt).map tP):=by rw[<-hs1];exact ax
 obtain⟨ρ,s2,e2,⟨Dw,rfl,g2⟩,_⟩:=jF (f:=tP) (i:=4) (gb:=bV) (l:=st.length) (all:=([(0,0),(0,1),(1,0),(24,22)]:List Pt).map tP) [(0,0),(0,1),(1,0),(24,22)] (λ_ ρ s=>∃Dw,ρ=[some (.ref d),r1,r2,some (oG x),Dw]/\Gr s1 s)
  (λp pre post ρ s _ hP hL=>by
   obtain⟨Dw,rfl,g⟩:=hP
   obtain⟨s2,e2,g2⟩:=SR (p:=p) (r1:=r1) (r2:=r2) T (gQ (gQ hd g1) g) hk hl
   exact⟨_,s2,e2,g2.lst hL,_,rfl,g.trans g2⟩) _ [] [some (.ref d),r1,r2,some (oG x),o4] s1 rfl ⟨o4,rfl,Gr.refl⟩ l1
 have Cu:kFor 4 bV [some (.ref d),r1,r2,some (oG x),o4] (.ref st.length) s1= .nx [some (.ref d),r1,r2,some (oG x),Dw] s2:=by rw[rP l1];exact e2
 refine⟨Dw,s2,?_,g1.trans g2⟩
 unfold bW
 simp[kl,Cu]
theorem heads{st:Hs}{ρ:b9}:eM [] (sG (ae (gC (.int 26)) aq)) dR cI ρ st= .ok (.ref st.length) (st++[.lst (HD.map Wv.str)]):=by
 have cr:cP 26:=Af (by omega) (by omega)
 have q:=cR (cs:=[]) (gt:=dR) (ge:=cI) (ρ:=ρ) (w:=(none,bo 0 26)) (st:=st) (t:=λ_=>true) (f:=λv=> .str ⟨#[97+(l_ v).toNat]⟩) trivial
  (λv _ acc=>rfl) (λv hv _ acc=>by
   obtain⟨k,rfl,h0,h1⟩:=ql hv
   have ix:=Pa (c:=k.toNat) (by omega) (st++[.lst acc])
   rw[show((k.toNat:Nat):Int)=k by omega] at ix
   have ix':bU (.str "abcdefghijklmnopqrstuvwxyz") (.int k) (st++[.lst acc])= .ok (.str ⟨#[97+k.toNat]⟩) (st++[.lst acc]):=ix
   unfold cI
   simp[dX,l_,ix'])
  (by show(bo 0 26).length < lim;rw[bL];decide)
 rw[show((none,bo 0 26):Wk).2=bo 0 26 from rfl,List.filter_eq_self.mpr (λ_ _=>rfl)] at q
 have e:(bo 0 26).map (λv=>Wv.str ⟨#[97+(l_ v).toNat]⟩)=HD.map Wv.str:=by
  unfold bo HD
  rw[aW,aW]
  refine mf λk _=>?_
  show Wv.str ⟨#[97+((0:Int)+(k:Nat)).toNat]⟩=Wv.str ⟨#[97+k]⟩
  rw[show((0:Int)+(k:Nat)).toNat=k by omega]
 rw[e] at q
 have t26:(26:Int).toNat=26:=rfl
 simp[rQ cr,t26,q]
theorem SV{st:Hs}:sI (.tup (HD.map Wv.str)) none (some 4) st= .ok (.tup ((HD.take 4).map Wv.str)) st:=rfl
theorem WI{st:Hs}:sI (.tup (HD.map Wv.str)) none (some 1) st= .ok (.tup ((HD.take 1).map Wv.str)) st:=rfl
theorem bounds{st:Hs}(hd:cQ st[d]? =some kvs)(hk:kJ kvs ps)(hl:kvs.length<=200):∃st',cT [.ref d] st= .ok (.bl true) st':=by
 obtain⟨s1,hs1⟩:∃s1,st++[Ob.lst (HD.map Wv.str)]=s1:=⟨_,rfl⟩
 have hc:=heads (st:=st) (ρ:=[some (.ref d),none,none,none,none])
 rw[hs1] at hc
 have g1:Gr st s1:=by rw[<-hs1];exact Gr.push
 have tc:=uA (st:=s1) (l:=st.length) (ws:=HD.map Wv.str) (by rw[<-hs1];exact ax)
 have r4:∀st:Hs,bM (.tup [.aI]) (.int 4) st= .ok (a9 (hG 4 .aI)) st:=λst=>by rw[rep1 (k:=4) rfl (by omega) (by omega)];rfl
 have r26:∀st:Hs,bM (.tup [.aI]) (.int 26) st= .ok (a9 (hG 26 .aI)) st:=λst=>by rw[rep1 (k:=26) rfl (by omega) (by omega)];rfl
 have r1:∀st:Hs,bM (.tup [.int 1]) (.int 26) st= .ok (a9 (hG 26 (.int 1))) st:=λst=>by rw[rep1 (k:=26) rfl (by omega) (by omega)];rfl
 have rr:∀(r:List Wo)(n:Int)(k:Nat)(st:Hs),n.toNat=k->2<=n->n < 1000->bM (.tup [a9 r]) (.int n) st= .ok (.tup ((ar k r).map a9)) st:=λr n k st h1 h2 h3=>by rw[rep1 h1 h2 h3,KS]
 have kl:∀st:Hs,jE [.int 74,.int 75] st= .ok (.ref st.length) (st++[.lst [.int 74,.int 75]]):=λst=>dk (by simp[lim])
 obtain⟨s2,hs2⟩:∃s2,s1++[Ob.lst [.int 74,.int 75]]=s2:=⟨_,rfl⟩
 have g2:Gr s1 s2:=by rw[<-hs2];exact Gr.push
 have l2:ao s2 s1.length=some [.int 74,.int 75]:=by rw[<-hs2];exact ax
 have q:=cR (cs:=[("heads",1)]) (gt:=dQ) (ge:=cH) (ρ:=[some (.ref d),some (.tup (HD.map Wv.str)),none,none,none]) (w:=(some s1.length,[.int 74,.int 75])) (st:=s2) (t:=λ_=>true) (f:=λv=>bj (HD.take 4) (ar (l_ v).toNat (hG 4 .aI))) l2
  (λv _ acc=>rfl) (λv hv _ acc=>by
   have hv':v= .int 74\/v= .int 75:=by simpa using hv
   unfold cH
   rcases hv' with rfl | rfl
   ·simp[-lW,-BV,dX,l_,SV,r4,rr _ 74 74 _ rfl (by omega) (by omega),bj]
   ·simp[-lW,-BV,dX,l_,SV,r4,rr _ 75 75 _ rfl (by omega) (by omega),bj])
  (by show 2 < lim;decide)
 obtain⟨A,hA⟩:∃A:List TT,[((HD.take 4,ar 74 (hG 4 .aI)):TT),(HD.take 4,ar 75 (hG 4 .aI))]=A:=⟨_,rfl⟩
 obtain⟨B,hB⟩:∃B:List TT,[((HD,[]):TT),(HD,ar 10 (hG 26 .aI))]=B:=⟨_,rfl⟩
 obtain⟨C,hC⟩:∃C:List TT,[((HD,ar 11 (hG 26 (.int 1))):TT),(HD.take 1,ar 98 (hG 1 .aI))]=C:=⟨_,rfl⟩
 have nA:A.length=2:=by rw[<-hA];rfl
 have nB:B.length=2:=by rw[<-hB];rfl
 have nC:C.length=2:=by rw[<-hC];rfl
 have eA:(((some s1.length,[.int 74,.int 75]):Wk).2.filter λ_=>true).map (λv=>bj (HD.take 4) (ar (l_ v).toNat (hG 4 .aI)))=A.map oG:=by rw[<-hA];rfl
 rw[eA] at q
 obtain⟨s3,qg⟩:∃s3,s2++[Ob.lst (A.map oG)]=s3:=⟨_,rfl⟩
 rw[qg] at q
 have g3:Gr s2 s3:=by rw[<-qg];exact Gr.push
 have l3:ao s3 s2.length=some (A.map oG):=by rw[<-qg];exact ax
 have kB:jE [.tup [.tup (HD.map Wv.str),.tup []],.tup [.tup (HD.map Wv.str),.tup ((ar 10 (hG 26 .aI)).map a9)]] s3= .ok (.ref s3.length) (s3++[.lst (B.map oG)]):=by rw[<-hB];exact dk (by simp[lim])
 obtain⟨s4,Ar⟩:∃s4,s3++[Ob.lst (B.map oG)]=s4:=⟨_,rfl⟩
 rw[Ar] at kB
 have g4:Gr s3 s4:=by rw[<-Ar];exact Gr.push
 have l4:ao s4 s3.length=some (B.map oG):=by rw[<-Ar];exact ax
 have a5:=add_l (g4.lst l3) l4 (by rw[aB,aB];unfold lim;omega)
 rw[<-cq] at a5
 obtain⟨s5,wG⟩:∃s5,s4++[Ob.lst ((A++B).map oG)]=s5:=⟨_,rfl⟩
 rw[wG] at a5
 have g5:Gr s4 s5:=by rw[<-wG];exact Gr.push
 have l5:ao s5 s4.length=some ((A++B).map oG):=by rw[<-wG];exact ax
 have kC:jE [.tup [.tup (HD.map Wv.str),.tup ((ar 11 (hG 26 (.int 1))).map a9)],.tup [.tup ((HD.take 1).map Wv.str),.tup ((ar 98 (hG 1 .aI)).map a9)]] s5= .ok (.ref s5.length) (s5++[.lst (C.map oG)]):=by rw[<-hC];exact dk (by simp[lim])
 obtain⟨s6,OU⟩:∃s6,s5++[Ob.lst (C.map oG)]=s6:=⟨_,rfl⟩
 rw[OU] at kC
 have g6:Gr s5 s6:=by rw[<-OU];exact Gr.push
 have l6:ao s6 s5.length=some (C.map oG):=by rw[<-OU];exact ax
 have a7:=add_l (g6.lst l5) l6 (by rw[aB,aB,cY];unfold lim;omega)
 rw[<-cq] at a7
 obtain⟨s7,OV⟩:∃s7,s6++[Ob.lst ((A++B++C).map oG)]=s7:=⟨_,rfl⟩
 rw[OV] at a7
 have g7:Gr s6 s7:=by rw[<-OV];exact Gr.push
 have l7:ao s7 s6.length=some ((A++B++C).map oG):=by rw[<-OV];exact ax
 have g07:Gr st s7:=g1.trans (g2.trans (g3.trans (g4.trans (g5.trans (g6.trans g7)))))
 have all:∀x∈A++B++C,Tb x.1 x.2:=by
  have:A++B++C=TS:=by rw[<-hA,<-hB,<-hC];rfl
  rw[this]
  exact SQ
 obtain⟨ρ,s8,e8,⟨o3,o4,rfl,g8⟩,_⟩:=jF (f:=oG) (i:=3) (gb:=bW) (l:=s6.length) (all:=(A++B++C).map oG) (A++B++C) (λ_ ρ s=>∃o3 o4,ρ=[some (.ref d),some (.tup (HD.map Wv.str)),some (.ref s4.length),o3,o4]/\Gr s7 s)
  (λx pre post ρ s hf hP hL=>by
   obtain⟨o3,o4,rfl,g⟩:=hP
   obtain⟨Dw,s2,e2,g2⟩:=SU (r1:=some (.tup (HD.map Wv.str))) (r2:=some (.ref s4.length)) (o4:=o4) (all x (by rw[hf];simp)) (gQ (gQ hd g07) g) hk hl
   exact⟨_,s2,e2,g2.lst hL,_,_,rfl,g.trans g2⟩) _ [] [some (.ref d),some (.tup (HD.map Wv.str)),some (.ref s4.length),none,none] s7 rfl ⟨none,none,rfl,Gr.refl⟩ l7
 have e8':kFor 3 bW [some (.ref d),some (.tup (HD.map Wv.str)),some (.ref s4.length),none,none] (.ref s6.length) s7= .nx [some (.ref d),some (.tup (HD.map Wv.str)),some (.ref s4.length),o3,o4] s8:=by rw[rP l7];exact e8
 refine⟨s8,dF (n:=5) (g:=eE) ?_⟩
 have rn:∀st:Hs,bM (.tup [.tup [.aI]]) (.int 98) st= .ok (.tup ((ar 98 (hG 1 .aI)).map a9)) st:=λst=>rr (hG 1 .aI) 98 98 st rfl (by omega) (by omega)
 have c2:eM [("heads",1)] (ft (eJ (ae (gC (.int 74)) (ae (gC (.int 75)) aq)))) dQ cH [some (.ref d),some (.tup (HD.map Wv.str)),none,none,none] s1= .ok (.ref s2.length) s3:=by
  simp[kl,hs2,jk l2,q]
 have Zq:=λst:Hs=>rr (hG 26 .aI) 10 10 st rfl (by omega) (by omega)
 have Qt:=λst:Hs=>rr (hG 26 (.int 1)) 11 11 st rfl (by omega) (by omega)
 generalize Wv.tup ((ar 10 (hG 26 .aI)).map a9)=R10 at kB Zq
 generalize Wv.tup ((ar 11 (hG 26 (.int 1))).map a9)=R11 at kC Qt
 generalize Wv.tup ((ar 98 (hG 1 .aI)).map a9)=R98 at kC rn
 have cu:=λst:Hs=>WI (st:=st)
 generalize Wv.tup ((HD.take 1).map Wv.str)=H1 at kC cu
 unfold eE
 simp[-Ad,-cJ,-OM,hc,tc,c2,r26,Zq,kB,a5,r1,Qt,cu,rn,kC,a7,e8']
end
theorem fits{d:Nat}(h:d < 1000):vM (d:Int)=true:=by
 unfold vM
 simp
 omega
theorem ins_map{xs:List Int}{i k:Int}:jY (xs.map Wv.int) i (.int k)=(jY xs i k).map Wv.int:=by
 unfold jY
 rw[aB,<-lW,<-vY,cq,ay]
theorem Pb{d e:Nat}{kvs:Ks}{ps:List Pt}{p:Pt}{x:TT}{st:Hs}{r0 r1 r2 r3 r4 r5 r6 r7 Qt WJ:Option Wv}(T:Tb x.1 x.2)(hd:cQ st[d]? =some kvs)(he:cQ st[e]? =some kvs)(hk:kJ kvs ps)(hl:kvs.length<=200) :
  ∃st',jJ [r0,r1,r2,r3,r4,r5,r6,r7,some (oG x),some (.ref d),some (.ref e),Qt,WJ,some (tP p)] st= .nx [r0,r1,r2,r3,r4,r5,r6,r7,some (oG x),some (.ref d),some (.ref e),Qt,WJ,some (tP p)] st'/\Gr st st':=by
 obtain⟨v1,s1,v2,s2,e1,e2,g,ne⟩:=yA (a:=p.1) (b:=p.2) T hd he hk hl
 have A3:cj [.ref d,tP p,oG x] st= .ok v1 s1:=e1
 have Cu:aV [.ref e,tP p,oG x] s1= .ok v2 s2:=e2
 have ne2:=(Hh (λ_=>rfl) hk hk (gQ hd g) (gQ he g)).2
 refine⟨s2,?_,g⟩
 unfold jJ
 simp[A3,Cu,ne,ne2]
theorem Pc{c k:Int}:0<=hU c k/\hU c k < 300000000:=by
 unfold hU
 have b:=kI (x:=nh c k * nh c k) (m:=2147483629) (by omega)
 generalize (nh c k * nh c k).fmod 2147483629=y at b
 rw[Int.fdiv_eq_ediv_of_nonneg _ (by decide)]
 omega
def Hw:GS:=(aF (a_ 9 (aK 1 fO (ae (aK 2 bN (ae (af 2) (ae (gC (.int 7)) aq))) aq)))
 (aF (a_ 10 (aw n_ (ae (af 9) aq)))
 (aF (a_ 11 (aw bI (ae (ag bU (af 1) (gC (.int 0))) aq)))
 (aF (a_ 12 (eJ (ae (bO (ae (ag oMod (af 2) (gC (.int 99))) (ae (ag oMod (ag cA (af 2) (gC (.int 99))) (gC (.int 26))) aq))) (ae (bO (ae (ag jS (gC (.int 98)) (aw bI (ae (ag bU (af 8) (gC (.int 1))) aq))) (ae (ag jS (gC (.int 26)) (af 11)) aq))) (ae (bO (ae (ag jS (gC (.int 99)) (aw bI (ae (ag bU (af 8) (gC (.int 1))) aq))) (ae (ag jS (gC (.int 26)) (af 11)) aq))) (ae (bO (ae (gC (.int 99)) (ae (gC (.int 0)) aq))) aq))))))
 (aF (qV 13 (ag bQ (af 12) (eJ (ae (bO (ae (ag jS (gC (.int 98)) (aw bI (ae (ag bU (af 8) (gC (.int 1))) aq))) (ae (ag jS (gC (.int 27)) (af 11)) aq))) (ae (bO (ae (gC (.int 0)) (ae (gC (.int 0)) aq))) (ae (bO (ae (AW h_ (gC (.int 1))) (ae (gC (.int 3)) aq))) (ae (bO (ae (gC (.int 3)) (ae (gC (.int 26)) aq))) (ae (bO (ae (ag bM (af 2) (ag kF (gC (.int 10)) (gC (.int 30)))) (ae (gC (.int 0)) aq))) aq))))))) jJ)
 (bR (aK 1 cT (ae (af 9) aq))))))))
theorem yD{n:Int}{hs:List S}{rows rows':List (List Wo)}{st:Hs}{r0 r3 r4 r5 r6 r7:Option Wv}(hn:0<=n/\n < 300000000)(T':Tb hs rows'):∃st',Hw [r0,some (bj hs rows),some (.int n),r3,r4,r5,r6,r7,some (bj hs rows'),none,none,none,none,none] st= .rt (.bl true) st':=by
 have m7:=mix (st:=st) (c:=n) (k:=7) (by omega) (by omega)
 obtain⟨d,kvs,ps,s1,e1,h1,hk,hl,g1⟩:=SJ (c:=hU n 7) (st:=st)
 have hd1:cQ s1[d]? =some kvs:=by rw[h1];rfl
 have dc:=qm hd1 hk.hash
 obtain⟨s2,hs2⟩:∃s2,s1++[Ob.bX kvs]=s2:=⟨_,rfl⟩
 rw[hs2] at dc
 have g2:Gr s1 s2:=by rw[<-hs2];exact Gr.push
 have Vx:cQ s2[s1.length]? =some kvs:=by rw[<-hs2,eV];rfl
 have hd2:=gQ hd1 g2
 have lt:∀st:Hs,bI [.tup (hs.map Wv.str)] st= .ok (.int hs.length) st:=λst=>by rw[ni,aB]
 have lr:∀st:Hs,bI [.tup (rows'.map a9)] st= .ok (.int rows'.length) st:=λst=>by rw[ni,aB]
 have a1:=λst:Hs=>c_ (st:=st) (i:=n) (j:=99) (by decide)
 have a2:=λst:Hs=>e_ (st:=st) (i:=n) (j:=99) ⟨by decide,by decide⟩
 have a3:=λst:Hs=>c_ (st:=st) (i:=n.fdiv 99) (j:=26) (by decide)
 obtain⟨P,hP⟩:∃P:List Pt,[((n.fmod 99,(n.fdiv 99).fmod 26):Pt),(98 - (rows'.length:Int),26 - (hs.length:Int)),(99 - (rows'.length:Int),26 - (hs.length:Int)),(99,0)]=P:=⟨_,rfl⟩
 obtain⟨Z,hZ,hz⟩:∃Z:Int,(∀st:Hs,kF (.int 10) (.int 30) st= .ok (.int Z) st)/\True:=⟨_,λst=>GL (i:=10) (j:=30) (st:=st) (by decide),trivial⟩
 have mz:=λst:Hs=>pH (st:=st) (i:=n) (j:=Z) (by omega) (by omega)
 obtain⟨Q,hQ⟩:∃Q:List Pt,[((98 - (rows'.length:Int),27 - (hs.length:Int)):Pt),(0,0),(-1,3),(3,26),(n * Z,0)]=Q:=⟨_,rfl⟩
 have nP:P.length=4:=by rw[<-hP];rfl
 have nQ:Q.length=5:=by rw[<-hQ];rfl
 have kP:jE [.tup [.int (n.fmod 99),.int ((n.fdiv 99).fmod 26)],.tup [.int (98 - (rows'.length:Int)),.int (26 - (hs.length:Int))],.tup [.int (99 - (rows'.length:Int)),.int (26 - (hs.length:Int))],.tup [.int 99,.int 0]] s2= .ok (.ref s2.length) (s2++[.lst (P.map tP)]):=by rw[<-hP];exact dk (by simp[lim])
 obtain⟨s3,qg⟩:∃s3,s2++[Ob.lst (P.map tP)]=s3:=⟨_,rfl⟩
 rw[qg] at kP
 have g3:Gr s2 s3:=by rw[<-qg];exact Gr.push
 have l3:ao s3 s2.length=some (P.map tP):=by rw[<-qg];exact ax
 have kQ:jE [.tup [.int (98 - (rows'.length:Int)),.int (27 - (hs.length:Int))],.tup [.int 0,.int 0],.tup [.int (-1),.int 3],.tup [.int 3,.int 26],.tup [.int (n * Z),.int 0]] s3= .ok (.ref s3.length) (s3++[.lst (Q.map tP)]):=by rw[<-hQ];exact dk (by simp[lim])
 obtain⟨s4,Ar⟩:∃s4,s3++[Ob.lst (Q.map tP)]=s4:=⟨_,rfl⟩
 rw[Ar] at kQ
 have g4:Gr s3 s4:=by rw[<-Ar];exact Gr.push
 have l4:ao s4 s3.length=some (Q.map tP):=by rw[<-Ar];exact ax
 have ad:=add_l (g4.lst l3) l4 (by rw[aB,aB];unfold lim;omega)
 rw[<-cq] at ad
 obtain⟨s5,wG⟩:∃s5,s4++[Ob.lst ((P++Q).map tP)]=s5:=⟨_,rfl⟩
 rw[wG] at ad
 have g5:Gr s4 s5:=by rw[<-wG];exact Gr.push
 have l5:ao s5 s4.length=some ((P++Q).map tP):=by rw[<-wG];exact ax
 have WK:Gr s2 s5:=g3.trans (g4.trans g5)
 obtain⟨ρ,s6,e6,⟨Uo,rfl,g6⟩,_⟩:=jF (f:=tP) (i:=13) (gb:=jJ) (l:=s4.length) (all:=(P++Q).map tP) (P++Q) (λ_ ρ s=>∃Uo,ρ=[r0,some (bj hs rows),some (.int n),r3,r4,r5,r6,r7,some (bj hs rows'),some (.ref d),some (.ref s1.length),some (.int (hs.length:Int)),some (.ref s2.length),Uo]/\Gr s5 s)
  (λp pre post ρ s _ Nw hL=>by
   obtain⟨Uo,rfl,g⟩:=Nw
   obtain⟨s',e',g'⟩:=Pb (x:=(hs,rows')) (p:=p) (r0:=r0) (r1:=some (bj hs rows)) (r2:=some (.int n)) (r3:=r3) (r4:=r4) (r5:=r5) (r6:=r6) (r7:=r7) (Qt:=some (.int (hs.length:Int))) (WJ:=some (.ref s2.length)) T' (gQ hd2 (WK.trans g)) (gQ Vx (WK.trans g)) hk hl
   exact⟨_,s',e',g'.lst hL,_,rfl,g.trans g'⟩) _ [] [r0,some (bj hs rows),some (.int n),r3,r4,r5,r6,r7,some (bj hs rows'),some (.ref d),some (.ref s1.length),some (.int (hs.length:Int)),some (.ref s2.length),none] s5 rfl ⟨none,rfl,Gr.refl⟩ l5
 have e6':kFor 13 jJ [r0,some (bj hs rows),some (.int n),r3,r4,r5,r6,r7,some (bj hs rows'),some (.ref d),some (.ref s1.length),some (.int (hs.length:Int)),some (.ref s2.length),none] (.ref s4.length) s5= .nx [r0,some (bj hs rows),some (.int n),r3,r4,r5,r6,r7,some (bj hs rows'),some (.ref d),some (.ref s1.length),some (.int (hs.length:Int)),some (.ref s2.length),Uo] s6:=by rw[rP l5];exact e6
 obtain⟨s7,e7⟩:=bounds (gQ hd2 (WK.trans g6)) hk hl
 refine⟨s7,?_⟩
 have ng:∀st:Hs,h_ (.int 1) st= .ok (.int (-1)) st:=λst=>rfl
 unfold Hw
 simp[-Ae,-OJ,-cJ,m7,e1,dc,Du,wF,lt,lr,a1,a2,a3,kP,hZ,mz,kQ,ad,e6',e7]
theorem yE:yk=(aF (a_ 1 (aK 3 ef (ae (af 0) (ae (gC (.int 0)) (ae (gC (.int 8)) aq)))))
 (aF (a_ 2 (aK 2 bN (ae (aw zE (ae (af 0) aq)) (ae (gC (.int 6)) aq))))
 (aF (a_ 3 (ag bU (eJ (ae (ag oMod (af 2) (gC (.int 12))) (ae (ag bQ (gC (.int 97)) (ag oMod (ag cA (af 2) (gC (.int 12))) (gC (.int 4)))) aq))) (aw nZ (ae (ag oEq (ag oMod (ag cA (af 2) (gC (.int 48))) (gC (.int 4))) (gC (.int 1))) aq))))
 (aF (a_ 4 (aw bI (ae (ag bU (af 1) (gC (.int 1))) aq)))
 (aF (a_ 5 (eM [("high",4),("n",2)] (sG (ae (af 3) aq)) l8 l9))
 (aF (kH (cU (ag oEq (ag oMod (ag cA (af 2) (gC (.int 600))) (gC (.int 5))) (gC (.int 0)))) (fe (CV (af 5) (ag oMod (ag cA (af 2) (gC (.int 3000))) (ag bQ (aw bI (ae (af 5) aq)) (gC (.int 1)))) (ag bU (eJ (ae (AW h_ (gC (.int 1))) (ae (af 4) (ae (ag bQ (af 4) (ag kF (gC (.int 10)) (gC (.int 20)))) (ae (AW h_ (ag kF (gC (.int 10)) (gC (.int 20)))) aq))))) (ag oMod (ag cA (af 2) (gC (.int 30))) (gC (.int 4)))))) bK)
 (aF (a_ 6 (aw jj (ae (af 5) aq)))
 (aF (a_ 7 (aK 2 c9 (ae (af 1) (ae (af 6) aq))))
 (aF (kH (AX (cU (ag oI (af 7) (aK 2 aX (ae (af 1) (ae (af 5) aq))))) (cU (ag oI (af 6) (af 5)))) (bR (gC (.bl false))) bK)
 (aF (a_ 8 (af 1))
 (aF (kH (iJ (aw (pM jf fT) (ae (af 7) (ae (gC (.ty "tuple")) aq)))) (a_ 8 (af 7)) bK)
 Hw))))))))))):=rfl
theorem law_true(ns:List Int)(hn:ns.length<=63):∃st,F_law [.ref 0] [.sv ns]= .ok (.bl true) st:=by
 obtain⟨hs,rows,s1,e1,T,⟨h4,h8⟩,G1⟩:=table (st:=[.sv ns]) (ns:=ns) (at':=0) (most:=8) rfl hn (by omega) (by omega)
 have A3:ef [.ref 0,.int 0,.int 8] [.sv ns]= .ok (bj hs rows) s1:=e1
 have l0:ao s1 0=some (ns.map Wv.int):=G1.lst (st:=[.sv ns]) rfl
 have su:=Lz l0
 have m6:=mix (st:=s1) (c:=ns.sum) (k:=6) (by omega) (by omega)
 obtain⟨n,hnn⟩:∃n,hU ns.sum 6=n:=⟨_,rfl⟩
 have hn0:0<=n/\n < 300000000:=by rw[<-hnn];exact Pc
 rw[hnn] at m6
 -- how many
 have a1:=λst:Hs=>c_ (st:=st) (i:=n) (j:=12) (by decide)
 have a2:=λst:Hs=>e_ (st:=st) (i:=n) (j:=12) ⟨by decide,by decide⟩
 have a3:=λst:Hs=>c_ (st:=st) (i:=n.fdiv 12) (j:=4) (by decide)
 have a4:=λst:Hs=>e_ (st:=st) (i:=n) (j:=48) ⟨by decide,by decide⟩
 have a5:=λst:Hs=>c_ (st:=st) (i:=n.fdiv 48) (j:=4) (by decide)
 have b1:=kI (x:=n) (m:=12) (by omega)
 have b2:=kI (x:=n.fdiv 12) (m:=4) (by omega)
 have k2:jE [.int (n.fmod 12),.int (97+(n.fdiv 12).fmod 4)] s1= .ok (.ref s1.length) (s1++[.lst [.int (n.fmod 12),.int (97+(n.fdiv 12).fmod 4)]]):=dk (by simp[lim])
 obtain⟨s2,hs2⟩:∃s2,s1++[Ob.lst [.int (n.fmod 12),.int (97+(n.fdiv 12).fmod 4)]]=s2:=⟨_,rfl⟩
 rw[hs2] at k2
 have l2:ao s2 s1.length=some [.int (n.fmod 12),.int (97+(n.fdiv 12).fmod 4)]:=by rw[<-hs2];exact ax
 obtain⟨r,hr,hr0,hr1⟩:∃r:Int,(∀st:Hs,nZ [.bl ((n.fdiv 48).fmod 4 == 1)] st= .ok (.int r) st)/\0<=r/\r < 2:=by
  cases ((n.fdiv 48).fmod 4 == 1)
  ·exact⟨0,λ_=>rfl,by omega,by omega⟩
  ·exact⟨1,λ_=>rfl,by omega,by omega⟩
 obtain⟨v,ev,hv⟩:=lp (ws:=[Wv.int (n.fmod 12),.int (97+(n.fdiv 12).fmod 4)]) (d:=r) hr0 (by simpa using hr1)
 obtain⟨many,rfl,hm⟩:∃m:Nat,v= .int (m:Int)/\m<=100:=by
  simp only[cZ,dC,or_false] at hv
  rcases hv with rfl | rfl
  ·exact⟨(n.fmod 12).toNat,by congr 1;omega,by omega⟩
  ·exact⟨(97+(n.fdiv 12).fmod 4).toNat,by congr 1;omega,by omega⟩
 have Zr:=x8 l2 ev
 have lr:∀st:Hs,bI [.tup (rows.map a9)] st= .ok (.int rows.length) st:=λst=>by rw[ni,aB]
 -- the numbers
 obtain⟨q,hq,hq0,hq1⟩:∃q:Int,(∀st:Hs,nZ [.bl ((n.fdiv 200).fmod 3 == 0)] st= .ok (.int q) st)/\0<=q/\q < 2:=by
  cases ((n.fdiv 200).fmod 3 == 0)
  ·exact⟨0,λ_=>rfl,by omega,by omega⟩
  ·exact⟨1,λ_=>rfl,by omega,by omega⟩
 have cr:cP (many:Int):=Af (by omega) (by omega)
 have cp:=cR (cs:=[("high",4),("n",2)]) (gt:=l8) (ge:=l9) (ρ:=[some (.ref 0),some (bj hs rows),some (.int n),some (.int (many:Int)),some (.int (rows.length:Int)),none,none,none,none,none,none,none,none,none]) (w:=(none,bo 0 many)) (st:=s2) (t:=λ_=>decide (0 < (rows.length:Int))) (f:=λv=> .int ((hU n (10+l_ v)).fmod ((rows.length:Int)+q))) trivial
  (λv _ acc=>by unfold l8;simp[dX]) (λv hv ht acc=>by
   obtain⟨k,rfl,h0,h1⟩:=ql hv
   have hpos:=of_decide_eq_true ht
   have mx:=mix (st:=s2++[.lst acc]) (c:=n) (k:=10+k) (by omega) (by omega)
   have f1:=e_ (st:=s2++[.lst acc]) (i:=n) (j:=200) ⟨by decide,by decide⟩
   have f2:=c_ (st:=s2++[.lst acc]) (i:=n.fdiv 200) (j:=3) (by decide)
   have f3:=c_ (st:=s2++[.lst acc]) (i:=hU n (10+k)) (j:=(rows.length:Int)+q) (by omega)
   unfold l9
   simp[dX,l_,mx,f1,f2,hq,f3])
  (by show(bo 0 many).length < lim;rw[bL];unfold lim;omega)
 obtain⟨xs,hxs,hxl⟩:∃xs:List Int,((((none,bo 0 many):Wk).2.filter λ_=>decide (0 < (rows.length:Int))).map λv=>Wv.int ((hU n (10+l_ v)).fmod ((rows.length:Int)+q)))=xs.map Wv.int/\xs.length<=100:=by
  refine⟨((bo 0 many).filter λ_=>decide (0 < (rows.length:Int))).map λv=>(hU n (10+l_ v)).fmod ((rows.length:Int)+q),by rw[aW];rfl,?_⟩
  rw[aB]
  exact bg (u9 _ _) (by rw[bL];exact hm)
 rw[hxs] at cp
 obtain⟨s3,qg⟩:∃s3,s2++[Ob.lst (xs.map Wv.int)]=s3:=⟨_,rfl⟩
 rw[qg] at cp
 have h3:s3[s2.length]? =some (.lst (xs.map Wv.int)):=by rw[<-qg];exact eV
 have n3:s3.length=s2.length+1:=by rw[<-qg];simp
 -- one put in
 have c1:=λst:Hs=>e_ (st:=st) (i:=n) (j:=600) ⟨by decide,by decide⟩
 have c2:=λst:Hs=>c_ (st:=st) (i:=n.fdiv 600) (j:=5) (by decide)
 obtain⟨ys,s4,e4,WL,hyl,n4⟩:∃(ys:List Int)(s4:Hs),(kH (cU (ag oEq (ag oMod (ag cA (af 2) (gC (.int 600))) (gC (.int 5))) (gC (.int 0)))) (fe (CV (af 5) (ag oMod (ag cA (af 2) (gC (.int 3000))) (ag bQ (aw bI (ae (af 5) aq)) (gC (.int 1)))) (ag bU (eJ (ae (AW h_ (gC (.int 1))) (ae (af 4) (ae (ag bQ (af 4) (ag kF (gC (.int 10)) (gC (.int 20)))) (ae (AW h_ (ag kF (gC (.int 10)) (gC (.int 20)))) aq))))) (ag oMod (ag cA (af 2) (gC (.int 30))) (gC (.int 4)))))) bK) [some (.ref 0),some (bj hs rows),some (.int n),some (.int (many:Int)),some (.int (rows.length:Int)),some (.ref s2.length),none,none,none,none,none,none,none,none] s3= .nx [some (.ref 0),some (bj hs rows),some (.int n),some (.int (many:Int)),some (.int (rows.length:Int)),some (.ref s2.length),none,none,none,none,none,none,none,none] s4/\s4[s2.length]? =some (.lst (ys.map Wv.int))/\ys.length<=101/\s2.length < s4.length:=by
  by_cases c:(n.fdiv 600).fmod 5=0
  ·have f1:=λst:Hs=>e_ (st:=st) (i:=n) (j:=3000) ⟨by decide,by decide⟩
   have f2:=λst:Hs=>e_ (st:=st) (i:=n) (j:=30) ⟨by decide,by decide⟩
   have f3:=λst:Hs=>c_ (st:=st) (i:=n.fdiv 30) (j:=4) (by decide)
   have f4:=λst:Hs=>c_ (st:=st) (i:=n.fdiv 3000) (j:=(xs.length:Int)+1) (by omega)
   have b4:=kI (x:=n.fdiv 3000) (m:=(xs.length:Int)+1) (by omega)
   have b5:=kI (x:=n.fdiv 30) (m:=4) (by omega)
   obtain⟨Z,hZ⟩:∃Z:Int,∀st:Hs,kF (.int 10) (.int 20) st= .ok (.int Z) st:=⟨_,λst=>GL (i:=10) (j:=20) (st:=st) (by decide)⟩
   have ln:=pf h3
   rw[aB] at ln
   have kl:jE [.int (-1),.int (rows.length:Int),.int ((rows.length:Int)+Z),.int (-Z)] s3= .ok (.ref s3.length) (s3++[.lst (([-1,(rows.length:Int),(rows.length:Int)+Z,-Z]:List Int).map Wv.int)]):=dk (by simp[lim])
   obtain⟨v,ev,hv⟩:=lp (ws:=([-1,(rows.length:Int),(rows.length:Int)+Z,-Z]:List Int).map Wv.int) (d:=(n.fdiv 30).fmod 4) b5.1 (by simpa using b5.2)
   obtain⟨k,_,rfl⟩:=List.mem_map.mp hv
   have ix:=x8 (st:=s3++[.lst (([-1,(rows.length:Int),(rows.length:Int)+Z,-Z]:List Int).map Wv.int)]) ax ev
   obtain⟨i,hi⟩:∃i:Nat,(n.fdiv 3000).fmod ((xs.length:Int)+1)=(i:Int):=⟨((n.fdiv 3000).fmod ((xs.length:Int)+1)).toNat,by omega⟩
   have h4:(s3++[Ob.lst (([-1,(rows.length:Int),(rows.length:Int)+Z,-Z]:List Int).map Wv.int)])[s2.length]? =some (.lst (xs.map Wv.int)):=lq h3
   obtain⟨s5,wG⟩:∃s5,s3++[Ob.lst (([-1,(rows.length:Int),(rows.length:Int)+Z,-Z]:List Int).map Wv.int)]=s5:=⟨_,rfl⟩
   rw[wG] at kl ix h4
   have iw:J7 s2.length (.int (i:Int)) (.int k) s5= .ok .aI (s5.set s2.length (.lst ((jY xs (i:Int) k).map Wv.int))):=by
    unfold J7
    rw[h4]
    dsimp only
    rw[if_pos ⟨by rw[aB];unfold lim;omega,fits (by omega)⟩,ins_map]
   have il:J8 s3[s2.length]? =true:=by rw[h3];rfl
   have n5:s3.length<=s5.length:=by rw[<-wG];simp
   refine⟨jY xs (i:Int) k,s5.set s2.length (.lst ((jY xs (i:Int) k).map Wv.int)),?_,fG h4,by rw[xJ];omega,by simp;omega⟩
   have ng1:∀st:Hs,h_ (.int 1) st= .ok (.int (-1)) st:=λst=>rfl
   rw[hi] at f4
   simp[-Ae,c1,c2,c,CV,il,f1,ln,f4,hZ,kl,f2,f3,ix,iw]
  ·have cb:((n.fdiv 600).fmod 5 == 0)=false:=by simpa using c
   exact⟨xs,s3,by simp[c1,c2,cb],h3,by omega,by omega⟩
 -- handed
 have ll:jj [.ref s2.length] s4= .ok (.ref s4.length) (s4++[.lst (ys.map Wv.int)]):=by
  have z:=fH WL
  unfold jj
  dsimp only
  rw[WL]
  show(match ao s4 s2.length with | some ws=>Re.ok (Wv.ref s4.length) (s4++[Ob.lst ws]) | none=> .bad)=_
  rw[z]
 obtain⟨s5,wG⟩:∃s5,s4++[Ob.lst (ys.map Wv.int)]=s5:=⟨_,rfl⟩
 rw[wG] at ll
 have l5:ao s5 s4.length=some (ys.map Wv.int):=by rw[<-wG];exact ax
 have Zs:ao s5 s2.length=some (ys.map Wv.int):=by rw[<-wG];exact dZ (fH WL)
 obtain⟨w,s6,s7,e6,e7,g6,g7,ne,hw⟩:=Dp T l5 Zs (by omega)
 have ne2:=BS ((g6.trans g7).lst l5) ((g6.trans g7).lst Zs)
 rw[decide_eq_true rfl] at ne2
 -- the rest
 rcases hw with ⟨x,rfl⟩ | ⟨rows',rfl,T'⟩
 ·obtain⟨s8,e8⟩:=yD (n:=n) (hs:=hs) (rows:=rows) (rows':=rows) (st:=s7) (r0:=some (.ref 0)) (r3:=some (.int (many:Int))) (r4:=some (.int (rows.length:Int))) (r5:=some (.ref s2.length)) (r6:=some (.ref s4.length)) (r7:=some (.str x)) hn0 T
  refine⟨s8,dF (n:=14) (g:=yk) ?_⟩
  have i1:kH (AX (cU (ag oI (af 7) (aK 2 aX (ae (af 1) (ae (af 5) aq))))) (cU (ag oI (af 6) (af 5)))) (bR (gC (.bl false))) bK [some (.ref 0),some (bj hs rows),some (.int n),some (.int (many:Int)),some (.int (rows.length:Int)),some (.ref s2.length),some (.ref s4.length),some (.str x),none,none,none,none,none,none] s6= .nx [some (.ref 0),some (bj hs rows),some (.int n),some (.int (many:Int)),some (.int (rows.length:Int)),some (.ref s2.length),some (.ref s4.length),some (.str x),none,none,none,none,none,none] s7:=by
   simp[e7,ne,ne2]
  have is:pM jf fT [.str x,.ty "tuple"] s7= .ok (.bl false) s7:=rfl
  rw[yE]
  simp[-Ad,-cJ,-Sb,A3,su,m6,a1,a2,a3,k2,a4,a5,hr,Zr,wF,lr,rQ cr,cp,e4,ll,e6,i1]
  simp[is,e8]
 ·obtain⟨s8,e8⟩:=yD (n:=n) (hs:=hs) (rows:=rows) (rows':=rows') (st:=s7) (r0:=some (.ref 0)) (r3:=some (.int (many:Int))) (r4:=some (.int (rows.length:Int))) (r5:=some (.ref s2.length)) (r6:=some (.ref s4.length)) (r7:=some (bj hs rows')) hn0 T'
  refine⟨s8,dF (n:=14) (g:=yk) ?_⟩
  have i1:kH (AX (cU (ag oI (af 7) (aK 2 aX (ae (af 1) (ae (af 5) aq))))) (cU (ag oI (af 6) (af 5)))) (bR (gC (.bl false))) bK [some (.ref 0),some (bj hs rows),some (.int n),some (.int (many:Int)),some (.int (rows.length:Int)),some (.ref s2.length),some (.ref s4.length),some (bj hs rows'),none,none,none,none,none,none] s6= .nx [some (.ref 0),some (bj hs rows),some (.int n),some (.int (many:Int)),some (.int (rows.length:Int)),some (.ref s2.length),some (.ref s4.length),some (bj hs rows'),none,none,none,none,none,none] s7:=by
   simp[e7,ne,ne2]
  have is:pM jf fT [bj hs rows',.ty "tuple"] s7= .ok (.bl true) s7:=rfl
  rw[yE]
  simp[-Ad,-cJ,-Sb,A3,su,m6,a1,a2,a3,k2,a4,a5,hr,Zr,wF,lr,rQ cr,cp,e4,ll,e6,i1]
  simp[is,e8]
end K74
namespace PySem.W.Fast
def tw6807953363313770152:=()
def tw3879184648183433248:=()
def tw16033102824238614709:=()
def tw14045820604145912383:=()
def tw6289250775505106031:=()
def tw8153094572981919866:=()
def tw2364294415011780946:=()
def tw8713026650073525710:=()
def tw1218110408903521538:=()
def tw8293273034161019693:=()
def tw15462496724366363227:=()
def tw17684512733021512971:=()
def tw1332171555237493701:=()
def tw10939255660904222109:=()
def tw17260505413879579443:=()
def tw14404400230578993233:=()
def tw5665098495364173241:=()
def tw8519106822534879761:=()
def tw15508323025808876972:=()
def tw4962645800458451159:=()
def tw3445164274856679318:=()
def tw2361021147394820631:=()
def tw13561763040939533541:=()
def tw18057859223944820631:=()
def tw17168595184348302579:=()
def tw9498855430828353163:=()
def tw11449581963400672872:=()
def tw8477947752764835985:=()
def tw11938363634061677674:=()
def tw16834026951262216587:=()
def tw712856301178965058:=()
def tw12746483389259818143:=()
def tw14976525188915380291:=()
def tw8974606163219055691:=()
def tw13996939416787540913:=()
def tw17673513913739674516:=()
def tw914019096428054209:=()
def tw2745667601334750241:=()
def tw5140691993193586803:=()
def tw6562137447388011445:=()
def tw4376336926550820989:=()
def tw17796250367104323322:=()
def tw2698921932947345652:=()
def tw12249341765693190704:=()
def tw10993842295778727133:=()
def tw1129308917861873563:=()
def tw5311030159283932167:=()
def tw13980817819058754016:=()
def tw13317274888989436427:=()
def tw5089098159678627961:=()
def tw2039612441546847720:=()
def tw2919344377264771164:=()
def tw17593833779631772583:=()
def tw8922302225365410494:=()
def tw14049684958427346036:=()
def tw13823482606418474561:=()
def tw8560954372548504624:=()
def tw9514814527736881207:=()
def tw1547957717576746213:=()
def tw11426343537349245513:=()
def tw4960592285000235078:=()
def tw4330691364352494201:=()
def tw2295820853440204863:=()
def tw15313365789431334273:=()
def tw3924720797283933274:=()
def tw16050668920575788868:=()
def tw14193148662884198571:=()
def tw5735336594019824903:=()
def tw5539937894983291879:=()
def tw6728069255977150435:=()
def tw16947258506336158738:=()
def tw11987338014340504558:=()
def tw10342463495109445057:=()
def tw5590729709258175087:=()
def tw7057103234766878080:=()
def tw6271646757010961629:=()
def tw12078126810994098489:=()
def tw9070977809087912139:=()
def tw8960634182350610781:=()
def tw11491675871821671484:=()
def tw3703607138000699101:=()
def tw9230961175627321276:=()
def tw1838913041962722492:=()
def tw6387660584788650100:=()
def tw12794700469582549502:=()
def tw4485080451669136604:=()
def tw18338403369829014358:=()
def tw5485404520013209828:=()
def tw18113619496773663207:=()
def tw2049982827399385549:=()
def tw3540820153095657444:=()
def tw4803330808659190754:=()
def tw16767730067079755060:=()
def tw16497542108859081644:=()
def tw11930452112846346997:=()
def tw4733431333362883939:=()
def tw12782973815023210684:=()
def tw7889948007272373026:=()
def tw7070217019690054554:=()
def tw9405457433714725665:=()
def tw14830756216394808579:=()
def tw7540151620721830413:=()
def tw18387374767332434846:=()
def tw5193307152988858547:=()
def tw4839661605346488365:=()
def tw5999169815237811047:=()
def tw10830137681795693286:=()
def tw17568795270136886348:=()
def tw15004756956396733527:=()
def tw2443923723225764966:=()
def tw12956702701508678094:=()
def tw11162484016162685410:=()
def tw13890493982447323543:=()
def tw10830194350633583166:=()
def tw63338286918031825:=()
def tw14738667234437527834:=()
def tw6992176618534894277:=()
def tw9495874982037208420:=()
def tw6444431313253736367:=()
def tw2709595167865783115:=()
def tw11484856864802972053:=()
def tw2341786323613166249:=()
def tw16107918036253331643:=()
def tw15133525380526268865:=()
def tw14875867208291039837:=()
def tw3872163544106286264:=()
def tw14970924713884365002:=()
def tw12639192890982127436:=()
def tw2447175596105251328:=()
def tw9939510685483256222:=()
def tw9155387037501710201:=()
def tw9239456128665716052:=()
def tw12090809937817337541:=()
def tw13311916023550902632:=()
def tw1097105666129312388:=()
def tw5679552882832285212:=()
def tw5904812302979426322:=()
def tw9799362224746417858:=()
def tw3967012733638487302:=()
def tw369935088581441934:=()
def tw17026696405812917505:=()
def tw18008531993009332994:=()
def tw14282058935878202216:=()
def tw5453428093127570704:=()
def tw1797164268382599619:=()
def tw17380008165248240605:=()
def tw4710101476368063164:=()
def tw15223267444475208033:=()
def tw15376433649792325644:=()
def tw7644807303830634834:=()
def tw11184901213882310471:=()
def tw877979184848467947:=()
def tw1652425099893750721:=()
def tw2228102663725587465:=()
def tw2801273641461762943:=()
def tw12956044949343512162:=()
def tw9038422150447300542:=()
def tw1957469956706965415:=()
def tw16422634084875955376:=()
def tw14808860128434040317:=()
def tw7004430953524672778:=()
def tw1846031444540590116:=()
def tw12608005929094949341:=()
def tw17391477601818443111:=()
def tw8348774799505254828:=()
def tw17682687261287323734:=()
def tw3647040746785686556:=()
def tw7233083980699234232:=()
def tw2330504544294269558:=()
end PySem.W.Fast
namespace K74
open PySem PySem.W PyProof.Rows
set_option maxHeartbeats 0 in
open_top head for PySem.Challenge.rw_onelook_k74_rows_taken_and_put
open PySem J
open PySem.W (nsIn kitOne findIn excIn mroIn mg_of mg_none_of)
open L2 (defScope defBody defArgs FnScope CX0 FnOk XK Hp)
set_option autoImplicit true in
theorem all_mk {l:PySem.W.OpenLaw} {w:World} {K:PySem.W.Frag} {h:Heap} {mg:Str → Option Value} {fa:Addr} (X:K.In h) (G:h.Ns mainGlobals mg) (hfa:mg "law" = some (.ref fa))
        {tk0 tk1 tk2 tk3 tk4 tk5:Tok} {X0 X1 X2 X3 X4 X5 X6 X7:acr}
    (d1:J.bH K "_law_mix" j0)
    (d2:J.bH K "_law_digits" gF)
    (d3:J.bH K "_law_worths" gH)
    (d4:J.bH K "_law_table" iy)
    (d5:J.bH K "rows_taken" iA)
    (d6:J.bH K "_law_word" gU)
    (d7:J.bH K "_law_taken" iB)
    (d8:J.bH K "with_room" i8)
    (d9:J.bH K "is_place" j7)
    (WM:J.bH K "made_place" iC)
    (WN:J.bH K "is_text_sign" fL)
    (WO:J.bH K "has_text_signs" ei)
    (WQ:J.bH K "is_text" lY)
    (WR:J.bH K "is_whole" j9)
    (WS:J.bH K "is_great" j')
    (WT:J.bH K "is_number" i_)
    (WU:J.bH K "made_content" fM)
    (WV:J.bH K "put_content" gK)
    (WW:J.bH K "made_sheet" iE)
    (WX:J.bH K "_law_sheet" iF)
    (WY:J.bH K "with_changes" fP)
    (WZ:J.bH K "with_cells" iH)
    (W0:J.bH K "has_corners" gL)
    (W4:J.bH K "area_many" jb)
    (W5:J.bH K "is_area" lZ)
    (W6:J.bH K "places_between" eu)
    (W7:J.bH K "made_area" jc)
    (W8:J.bH K "area_places" gM)
    (W9:J.bH K "put_table" jd)
    (W_:J.bH K "_law_put" kj)
    (W':J.bH K "_law_put_due" fS)
    (Xa:J.bH K "_law_at_bounds" eD)
    (Xb:J.bH K "_law_taken_due" eF)
    (Xd:J.bH K "law" BB)
    (z0:nsIn K acI "range"=some none)
    (z1:nsIn K acI "len"=some none)
    (z2:nsIn K acI "tuple"=some none)
    (z3:nsIn K acI "sum"=some none)
    (z4:nsIn K acI "all"=some none)
    (z5:nsIn K acI "isinstance"=some none)
    (z6:nsIn K acI "str"=some none)
    (z7:nsIn K acI "ord"=some none)
    (z8:nsIn K acI "int"=some none)
    (z9:nsIn K acI "bool"=some none)
    (Xe:nsIn K acI "abs"=some none)
    (Xf:nsIn K acI "dict"=some none)
    (Xg:nsIn K acI "list"=some none)
    (Xh:nsIn K acI "zip"=some none)
    (v0:nsIn K acI "MOST_ROWS"=some (some (.int 98 tk0)))
    (v1:nsIn K acI "MOST_CELLS"=some (some (.int 200 tk1)))
    (v2:nsIn K acI "ROWS"=some (some (.int 99 tk2)))
    (v3:nsIn K acI "COLUMNS"=some (some (.int 26 tk3)))
    (v4:nsIn K acI "MOST_SIGNS"=some (some (.int 40 tk4)))
    (v5:nsIn K acI "MOST_PLACES"=some (some (.int 300 tk5)))
    (pS:nsIn K acI "BadCount"=some (some (.ref X0))) (SX:excIn K X0 vq vt=true) (Xi:findIn K (.ref X0) "__getattribute__"=some (some (.builtin "BaseException.__getattribute__"))) (Xj:findIn K (.ref X0) "__getattr__"=some none) (Xk:findIn K (.ref X0) "__class__"=some (some (.builtin "object.__class__")))
    (pT:nsIn K acI "BadTable"=some (some (.ref X1))) (SY:excIn K X1 vq vt=true) (Xl:findIn K (.ref X1) "__getattribute__"=some (some (.builtin "BaseException.__getattribute__"))) (Xm:findIn K (.ref X1) "__getattr__"=some none) (Xn:findIn K (.ref X1) "__class__"=some (some (.builtin "object.__class__")))
    (pU:nsIn K acI "BadPlace"=some (some (.ref X2))) (S0:excIn K X2 vq vt=true) (Xo:findIn K (.ref X2) "__getattribute__"=some (some (.builtin "BaseException.__getattribute__"))) (Xp:findIn K (.ref X2) "__getattr__"=some none) (Xq:findIn K (.ref X2) "__class__"=some (some (.builtin "object.__class__")))
    (pV:nsIn K acI "NoRoom"=some (some (.ref X3))) (S7:excIn K X3 vq vt=true) (Xr:findIn K (.ref X3) "__getattribute__"=some (some (.builtin "BaseException.__getattribute__"))) (Xs:findIn K (.ref X3) "__getattr__"=some none) (Xt:findIn K (.ref X3) "__class__"=some (some (.builtin "object.__class__")))
    (pX:nsIn K acI "BadContent"=some (some (.ref X4))) (S8:excIn K X4 vq vt=true) (Xu:findIn K (.ref X4) "__getattribute__"=some (some (.builtin "BaseException.__getattribute__"))) (Xv:findIn K (.ref X4) "__getattr__"=some none) (Xw:findIn K (.ref X4) "__class__"=some (some (.builtin "object.__class__")))
    (pY:nsIn K acI "Full"=some (some (.ref X5))) (S_:excIn K X5 vq vt=true) (Xx:findIn K (.ref X5) "__getattribute__"=some (some (.builtin "BaseException.__getattribute__"))) (Xy:findIn K (.ref X5) "__getattr__"=some none) (Xz:findIn K (.ref X5) "__class__"=some (some (.builtin "object.__class__")))
    (uG:nsIn K acI "SheetError"=some (some (.ref X6))) (Hx:excIn K X6 vq vt=true)
    (sZ:nsIn K acI "BadArea"=some (some (.ref X7))) (Tf:excIn K X7 vq vt=true) (XA:findIn K (.ref X7) "__getattribute__"=some (some (.builtin "BaseException.__getattribute__"))) (XB:findIn K (.ref X7) "__getattr__"=some none) (XC:findIn K (.ref X7) "__class__"=some (some (.builtin "object.__class__")))
    (XD:kitOne K (.ref X0) (.ref X0)=some true)
    (XE:kitOne K (.ref X0) (.ref X1)=some false)
    (XF:kitOne K (.ref X0) (.ref X2)=some false)
    (XG:kitOne K (.ref X0) (.ref X3)=some false)
    (XH:kitOne K (.ref X0) (.ref X4)=some false)
    (XI:kitOne K (.ref X0) (.ref X5)=some false)
    (XJ:kitOne K (.ref X0) (.ref X6)=some true)
    (XM:kitOne K (.ref X0) (.ref X7)=some false)
    (XN:kitOne K (.ref X1) (.ref X0)=some false)
    (XO:kitOne K (.ref X1) (.ref X1)=some true)
    (Pd:kitOne K (.ref X1) (.ref X2)=some false)
    (Pe:kitOne K (.ref X1) (.ref X3)=some false)
    (Pf:kitOne K (.ref X1) (.ref X4)=some false)
    (Pg:kitOne K (.ref X1) (.ref X5)=some false)
    (Ph:kitOne K (.ref X1) (.ref X6)=some true)
    (Pj:kitOne K (.ref X1) (.ref X7)=some false)
    (Pk:kitOne K (.ref X5) (.ref X0)=some false)
    (Pl:kitOne K (.ref X5) (.ref X1)=some false)
    (Pm:kitOne K (.ref X5) (.ref X2)=some false)
    (Pn:kitOne K (.ref X5) (.ref X3)=some false)
    (Po:kitOne K (.ref X5) (.ref X4)=some false)
    (Pp:kitOne K (.ref X5) (.ref X5)=some true)
    (Pq:kitOne K (.ref X5) (.ref X6)=some true)
    (Pr:kitOne K (.ref X5) (.ref X7)=some false)
    (Pu:kitOne K (.ref X2) (.ref X0)=some false)
    (Pw:kitOne K (.ref X2) (.ref X1)=some false)
    (Px:kitOne K (.ref X2) (.ref X2)=some true)
    (Py:kitOne K (.ref X2) (.ref X3)=some false)
    (Pz:kitOne K (.ref X2) (.ref X4)=some false)
    (PB:kitOne K (.ref X2) (.ref X5)=some false)
    (PC:kitOne K (.ref X2) (.ref X6)=some true)
    (PD:kitOne K (.ref X2) (.ref X7)=some false)
    (PF:kitOne K (.ref X4) (.ref X0)=some false)
    (PH:kitOne K (.ref X4) (.ref X1)=some false)
    (PJ:kitOne K (.ref X4) (.ref X2)=some false)
    (PK:kitOne K (.ref X4) (.ref X3)=some false)
    (PL:kitOne K (.ref X4) (.ref X4)=some true)
    (PM:kitOne K (.ref X4) (.ref X5)=some false)
    (PN:kitOne K (.ref X4) (.ref X6)=some true)
    (PQ:kitOne K (.ref X4) (.ref X7)=some false)
    (PR:kitOne K (.ref X7) (.ref X0)=some false)
    (PU:kitOne K (.ref X7) (.ref X1)=some false)
    (PV:kitOne K (.ref X7) (.ref X2)=some false)
    (PX:kitOne K (.ref X7) (.ref X3)=some false)
    (PY:kitOne K (.ref X7) (.ref X4)=some false)
    (PZ:kitOne K (.ref X7) (.ref X5)=some false)
    (P1:kitOne K (.ref X7) (.ref X6)=some true)
    (P2:kitOne K (.ref X7) (.ref X7)=some true)
    (P4:kitOne K (.ref X3) (.ref X0)=some false)
    (P5:kitOne K (.ref X3) (.ref X1)=some false)
    (P6:kitOne K (.ref X3) (.ref X2)=some false)
    (P7:kitOne K (.ref X3) (.ref X3)=some true)
    (P8:kitOne K (.ref X3) (.ref X4)=some false)
    (P9:kitOne K (.ref X3) (.ref X5)=some false)
    (P_:kitOne K (.ref X3) (.ref X6)=some true)
    (Qa:kitOne K (.ref X3) (.ref X7)=some false)
    (XQ:mroIn K X0 (.ref X6)=some true)
    (XR:mroIn K X1 (.ref X6)=some true)
    (XS:mroIn K X5 (.ref X6)=some true)
    (XT:mroIn K X2 (.ref X6)=some true)
    (XU:mroIn K X4 (.ref X6)=some true)
    (XW:mroIn K X7 (.ref X6)=some true)
    (XX:mroIn K X3 (.ref X6)=some true)
    (XY:kitOne K (.ref X0) (.type "ValueError")=some true)
    (XZ:kitOne K (.ref X1) (.type "ValueError")=some true)
    (X8:kitOne K (.ref X5) (.type "ValueError")=some true)
    (X9:kitOne K (.ref X2) (.type "ValueError")=some true)
    (X_:kitOne K (.ref X4) (.type "ValueError")=some true)
    (X':kitOne K (.ref X7) (.type "ValueError")=some true)
    (Ya:kitOne K (.ref X3) (.type "ValueError")=some true)
     :
    ∃fd:acu,(∀(s:acx)(u:acy),BindsTo s fd ⟨[u],[]⟩ [("script",u)])/\∀base:Heap,K.In base->base.Ns acI mg->FnOk l.prog w K mg base (CXJ l.prog w) 11 fa fd ["script"] (spW K 1 F_law):=by
  refine J.Kv X G hfa Xd (λ_ _ _ _ _ _ s u=> .of_eq rfl) (λf fd Fu base kb nb=>?_)
  have Z0:=mg_none_of kb nb z0
  have Z1:=mg_none_of kb nb z1
  have Z2:=mg_none_of kb nb z2
  have Z3:=mg_none_of kb nb z3
  have Z4:=mg_none_of kb nb z4
  have Z5:=mg_none_of kb nb z5
  have Z6:=mg_none_of kb nb z6
  have Z7:=mg_none_of kb nb z7
  have Z8:=mg_none_of kb nb z8
  have Z9:=mg_none_of kb nb z9
  have Z10:=mg_none_of kb nb Xe
  have Up:=mg_none_of kb nb Xf
  have Yb:=mg_none_of kb nb Xg
  have Z13:=mg_none_of kb nb Xh
  have V0:=mg_of kb nb v0
  have V1:=mg_of kb nb v1
  have V2:=mg_of kb nb v2
  have V3:=mg_of kb nb v3
  have V4:=mg_of kb nb v4
  have V5:=mg_of kb nb v5
  have E0:J.jB K X0:=⟨SX,Xi,Xj,Xk⟩
  have E1:J.jB K X1:=⟨SY,Xl,Xm,Xn⟩
  have E2:J.jB K X2:=⟨S0,Xo,Xp,Xq⟩
  have E3:J.jB K X3:=⟨S7,Xr,Xs,Xt⟩
  have E4:J.jB K X4:=⟨S8,Xu,Xv,Xw⟩
  have E5:J.jB K X5:=⟨S_,Xx,Xy,Xz⟩
  have E7:J.jB K X7:=⟨Tf,XA,XB,XC⟩
  have TB:TabOk K jf fT Ah:=J.OF ⟨⟨X0,X0,pS,pS,E0,XD⟩,⟨X0,X1,pS,pT,E0,XE⟩,⟨X0,X2,pS,pU,E0,XF⟩,⟨X0,X3,pS,pV,E0,XG⟩,⟨X0,X4,pS,pX,E0,XH⟩,⟨X0,X5,pS,pY,E0,XI⟩,⟨X0,X6,pS,uG,E0,XJ⟩,⟨X0,X7,pS,sZ,E0,XM⟩,⟨X1,X0,pT,pS,E1,XN⟩,⟨X1,X1,pT,pT,E1,XO⟩,⟨X1,X2,pT,pU,E1,Pd⟩,⟨X1,X3,pT,pV,E1,Pe⟩,⟨X1,X4,pT,pX,E1,Pf⟩,⟨X1,X5,pT,pY,E1,Pg⟩,⟨X1,X6,pT,uG,E1,Ph⟩,⟨X1,X7,pT,sZ,E1,Pj⟩,⟨X5,X0,pY,pS,E5,Pk⟩,⟨X5,X1,pY,pT,E5,Pl⟩,⟨X5,X2,pY,pU,E5,Pm⟩,⟨X5,X3,pY,pV,E5,Pn⟩,⟨X5,X4,pY,pX,E5,Po⟩,⟨X5,X5,pY,pY,E5,Pp⟩,⟨X5,X6,pY,uG,E5,Pq⟩,⟨X5,X7,pY,sZ,E5,Pr⟩,⟨X2,X0,pU,pS,E2,Pu⟩,⟨X2,X1,pU,pT,E2,Pw⟩,⟨X2,X2,pU,pU,E2,Px⟩,⟨X2,X3,pU,pV,E2,Py⟩,⟨X2,X4,pU,pX,E2,Pz⟩,⟨X2,X5,pU,pY,E2,PB⟩,⟨X2,X6,pU,uG,E2,PC⟩,⟨X2,X7,pU,sZ,E2,PD⟩,⟨X4,X0,pX,pS,E4,PF⟩,⟨X4,X1,pX,pT,E4,PH⟩,⟨X4,X2,pX,pU,E4,PJ⟩,⟨X4,X3,pX,pV,E4,PK⟩,⟨X4,X4,pX,pX,E4,PL⟩,⟨X4,X5,pX,pY,E4,PM⟩,⟨X4,X6,pX,uG,E4,PN⟩,⟨X4,X7,pX,sZ,E4,PQ⟩,⟨X7,X0,sZ,pS,E7,PR⟩,⟨X7,X1,sZ,pT,E7,PU⟩,⟨X7,X2,sZ,pU,E7,PV⟩,⟨X7,X3,sZ,pV,E7,PX⟩,⟨X7,X4,sZ,pX,E7,PY⟩,⟨X7,X5,sZ,pY,E7,PZ⟩,⟨X7,X6,sZ,uG,E7,P1⟩,⟨X7,X7,sZ,sZ,E7,P2⟩,⟨X3,X0,pV,pS,E3,P4⟩,⟨X3,X1,pV,pT,E3,P5⟩,⟨X3,X2,pV,pU,E3,P6⟩,⟨X3,X3,pV,pV,E3,P7⟩,⟨X3,X4,pV,pX,E3,P8⟩,⟨X3,X5,pV,pY,E3,P9⟩,⟨X3,X6,pV,uG,E3,P_⟩,⟨X3,X7,pV,sZ,E3,Qa⟩,trivial⟩ ⟨⟨X0,pS,E0,XY⟩,⟨X1,pT,E1,XZ⟩,⟨X5,pY,E5,X8⟩,⟨X2,pU,E2,X9⟩,⟨X4,pX,E4,X_⟩,⟨X7,sZ,E7,X'⟩,⟨X3,pV,E3,Ya⟩,trivial⟩ ⟨⟨X0,X6,pS,uG,SX,Hx,XQ⟩,⟨X1,X6,pT,uG,SY,Hx,XR⟩,⟨X5,X6,pY,uG,S_,Hx,XS⟩,⟨X2,X6,pU,uG,S0,Hx,XT⟩,⟨X4,X6,pX,uG,S8,Hx,XU⟩,⟨X7,X6,sZ,uG,Tf,Hx,XW⟩,⟨X3,X6,pV,uG,S7,Hx,XX⟩,trivial⟩
  have H1:J.iS l.prog w K mg base 1 "_law_mix" 2 bN:=J.aO (ps:=["cell","k"]) kb nb d1 (J.aD (c:=mV) (k:=0) trivial trivial trivial TB trivial trivial trivial) x_ rfl Ai (λ_ _ _ _ _ _ us hl=>J.ln2 us hl λ_ _=>rfl)
  have H2:J.iS l.prog w K mg base 2 "_law_digits" 3 gG:=J.aO (ps:=["cell","size","many"]) kb nb d2 (J.aD (c:=jl) (k:=1) trivial ⟨Z0,trivial⟩ ⟨H1.mono (by decide),trivial⟩ TB trivial trivial trivial) rS rfl sM (λ_ _ _ _ _ _ us hl=>J.Qs us hl λ_ _ _=>rfl)
  have H3:J.iS l.prog w K mg base 3 "_law_worths" 2 gJ:=J.aO (ps:=["cell","many"]) kb nb d3 (J.aD (c:=jm) (k:=2) trivial ⟨Z1,trivial⟩ ⟨H2.mono (by decide),trivial⟩ TB trivial trivial trivial) rT rfl sN (λ_ _ _ _ _ _ us hl=>J.ln2 us hl λ_ _=>rfl)
  have H4:J.iS l.prog w K mg base 4 "_law_table" 3 ef:=J.aO (ps:=["script","at","rows_most"]) kb nb d4 (J.aD (c:=j4) (k:=3) trivial ⟨Z2,Z3,Z0,trivial⟩ ⟨H3.mono (by decide),trivial⟩ TB trivial trivial trivial) sO rfl v7 (λ_ _ _ _ _ _ us hl=>J.Qs us hl λ_ _ _=>rfl)
  have H5:J.iS l.prog w K mg base 1 "rows_taken" 2 bF:=J.aO (ps:=["table","numbers"]) kb nb d5 (J.aD (c:=j5) (k:=0) ⟨⟨_,V0⟩,trivial⟩ ⟨Z4,Z1,Z2,trivial⟩ trivial TB ⟨⟨X0,mg_of kb nb pS,⟨pS,SX⟩⟩,⟨X1,mg_of kb nb pT,⟨pT,SY⟩⟩,trivial⟩ trivial trivial) sP rfl v9 (λ_ _ _ _ _ _ us hl=>J.ln2 us hl λ_ _=>rfl)
  have H6:J.iS l.prog w K mg base 1 "_law_word" 1 cD:=J.aO (ps:=["e"]) kb nb d6 (J.aD (c:=gW) (k:=0) trivial ⟨Z5,Z6,Z1,trivial⟩ trivial TB trivial ⟨⟨X0,mg_of kb nb pS,pS⟩,⟨X1,mg_of kb nb pT,pT⟩,⟨X2,mg_of kb nb pU,pU⟩,⟨X3,mg_of kb nb pV,pV⟩,⟨X4,mg_of kb nb pX,pX⟩,⟨X5,mg_of kb nb pY,pY⟩,trivial⟩ trivial) oz rfl ya (λ_ _ _ _ _ _ us hl=>J.vZ us hl λ_=>rfl)
  have U6:J.xy l.prog w K mg base 1 "_law_word" 1 cD:=J.GJ (ps:=["e"]) kb nb d6 (J.aD (c:=gW) (k:=0) trivial ⟨Z5,Z6,Z1,trivial⟩ trivial TB trivial ⟨⟨X0,mg_of kb nb pS,pS⟩,⟨X1,mg_of kb nb pT,pT⟩,⟨X2,mg_of kb nb pU,pU⟩,⟨X3,mg_of kb nb pV,pV⟩,⟨X4,mg_of kb nb pX,pX⟩,⟨X5,mg_of kb nb pY,pY⟩,trivial⟩ trivial) oz rfl v_ (λ_ _ _ _ _ _ us hl=>J.vZ us hl λ_=>rfl)
  have H7:J.iS l.prog w K mg base 2 "_law_taken" 2 c9:=J.aO (ps:=["table","numbers"]) kb nb d7 (J.aD (c:=j6) (k:=1) trivial trivial ⟨H5.mono (by decide),H6.mono (by decide),trivial⟩ TB ⟨⟨X6,mg_of kb nb uG,⟨uG,Hx⟩⟩,trivial⟩ trivial trivial ⟨(λ_ _ h=>by cases h;exact U6.mono (by decide)),trivial⟩) sQ rfl wa (λ_ _ _ _ _ _ us hl=>J.ln2 us hl λ_ _=>rfl)
  have H8:J.iS l.prog w K mg base 1 "with_room" 1 cE:=J.aO (ps:=["sheet"]) kb nb d8 (J.aD (c:=lu) (k:=0) ⟨⟨_,V1⟩,trivial⟩ ⟨Z1,trivial⟩ trivial TB ⟨⟨X5,mg_of kb nb pY,⟨pY,S_⟩⟩,trivial⟩ trivial trivial) wb rfl yb (λ_ _ _ _ _ _ us hl=>J.vZ us hl λ_=>rfl)
  have H9:J.iS l.prog w K mg base 1 "is_place" 1 dG:=J.aO (ps:=["place"]) kb nb d9 (J.aD (c:=mX) (k:=0) ⟨⟨_,V2⟩,⟨_,V3⟩,trivial⟩ trivial trivial TB trivial trivial trivial) yc rfl Aj (λ_ _ _ _ _ _ us hl=>J.vZ us hl λ_=>rfl)
  have Nt:J.iS l.prog w K mg base 2 "made_place" 2 b7:=J.aO (ps:=["row","column"]) kb nb WM (J.aD (c:=j8) (k:=1) trivial trivial ⟨H9.mono (by decide),trivial⟩ TB ⟨⟨X2,mg_of kb nb pU,⟨pU,S0⟩⟩,trivial⟩ trivial trivial) sR rfl wc (λ_ _ _ _ _ _ us hl=>J.ln2 us hl λ_ _=>rfl)
  have Yw:J.iS l.prog w K mg base 1 "is_text_sign" 1 dH:=J.aO (ps:=["number"]) kb nb WN (J.aD (c:=iN) (k:=0) trivial trivial trivial TB trivial trivial trivial) pN rfl rV (λ_ _ _ _ _ _ us hl=>J.vZ us hl λ_=>rfl)
  have H12:J.iS l.prog w K mg base 2 "has_text_signs" 1 cS:=J.aO (ps:=["text"]) kb nb WO (J.aD (c:=gq) (k:=1) trivial ⟨Z4,Z7,trivial⟩ ⟨Yw.mono (by decide),trivial⟩ TB trivial trivial trivial) oA rfl oV (λ_ _ _ _ _ _ us hl=>J.vZ us hl λ_=>rfl)
  have H13:J.iS l.prog w K mg base 3 "is_text" 1 et:=J.aO (ps:=["thing"]) kb nb WQ (J.aD (c:=oW) (k:=2) ⟨⟨_,V4⟩,trivial⟩ ⟨Z5,Z6,Z1,trivial⟩ ⟨H12.mono (by decide),trivial⟩ TB trivial trivial trivial) Ak rfl Df (λ_ _ _ _ _ _ us hl=>J.vZ us hl λ_=>rfl)
  have H14:J.iS l.prog w K mg base 1 "is_whole" 1 fb:=J.aO (ps:=["thing"]) kb nb WR (J.aD (c:=mY) (k:=0) trivial ⟨Z5,Z8,Z9,trivial⟩ trivial TB trivial trivial trivial) yd rfl Al (λ_ _ _ _ _ _ us hl=>J.vZ us hl λ_=>rfl)
  have H15:J.iS l.prog w K mg base 1 "is_great" 1 iO:=J.aO (ps:=["number"]) kb nb WS (J.aD (c:=m8) (k:=0) trivial ⟨Z10,trivial⟩ trivial TB trivial trivial trivial) ye rfl Am (λ_ _ _ _ _ _ us hl=>J.vZ us hl λ_=>rfl)
  have H16:J.iS l.prog w K mg base 2 "is_number" 1 dJ:=J.aO (ps:=["content"]) kb nb WT (J.aD (c:=lx) (k:=1) trivial trivial ⟨H14.mono (by decide),H15.mono (by decide),trivial⟩ TB trivial trivial trivial) we rfl yf (λ_ _ _ _ _ _ us hl=>J.vZ us hl λ_=>rfl)
  have H17:J.iS l.prog w K mg base 4 "made_content" 1 bP:=J.aO (ps:=["content"]) kb nb WU (J.aD (c:=iP) (k:=3) trivial ⟨Z5,Z2,trivial⟩ ⟨H13.mono (by decide),H16.mono (by decide),trivial⟩ TB ⟨⟨X4,mg_of kb nb pX,⟨pX,S8⟩⟩,trivial⟩ trivial trivial) pO rfl rW (λ_ _ _ _ _ _ us hl=>J.vZ us hl λ_=>rfl)
  have Zt:J.iS l.prog w K mg base 5 "put_content" 3 bB:=J.aO (ps:=["sheet","place","content"]) kb nb WV (J.aD (c:=jn) (k:=4) trivial trivial ⟨Nt.mono (by decide),H17.mono (by decide),trivial⟩ TB trivial trivial trivial) rX rfl sS (λ_ _ _ _ _ _ us hl=>J.Qs us hl λ_ _ _=>rfl)
  have H19:J.iS l.prog w K mg base 6 "made_sheet" 1 fN:=J.aO (ps:=["cells"]) kb nb WW (J.aD (c:=kc) (k:=5) trivial trivial ⟨H8.mono (by decide),Zt.mono (by decide),trivial⟩ TB trivial trivial trivial) sU rfl wg (λ_ _ _ _ _ _ us hl=>J.vZ us hl λ_=>rfl)
  have H20:J.iS l.prog w K mg base 7 "_law_sheet" 1 fO:=J.aO (ps:=["cell"]) kb nb WX (J.aD (c:=kf) (k:=6) trivial ⟨Z0,Z8,trivial⟩ ⟨H19.mono (by decide),H1.mono (by decide),trivial⟩ TB trivial trivial trivial) sV rfl wj (λ_ _ _ _ _ _ us hl=>J.vZ us hl λ_=>rfl)
  have H21:J.iS l.prog w K mg base 6 "with_changes" 2 cg:=J.aO (ps:=["sheet","changes"]) kb nb WY (J.aD (c:=iQ) (k:=5) trivial ⟨Up,trivial⟩ ⟨Zt.mono (by decide),trivial⟩ TB trivial trivial trivial) pP rfl rY (λ_ _ _ _ _ _ us hl=>J.ln2 us hl λ_ _=>rfl)
  have H22:J.iS l.prog w K mg base 7 "with_cells" 2 b8:=J.aO (ps:=["sheet","changes"]) kb nb WZ (J.aD (c:=kg) (k:=6) trivial trivial ⟨H8.mono (by decide),H21.mono (by decide),trivial⟩ TB trivial trivial trivial) sW rfl wk (λ_ _ _ _ _ _ us hl=>J.ln2 us hl λ_ _=>rfl)
  have H23:J.iS l.prog w K mg base 2 "has_corners" 1 eP:=J.aO (ps:=["area"]) kb nb W0 (J.aD (c:=jq) (k:=1) trivial trivial ⟨H9.mono (by decide),trivial⟩ TB trivial trivial trivial) rZ rfl sX (λ_ _ _ _ _ _ us hl=>J.vZ us hl λ_=>rfl)
  have H24:J.iS l.prog w K mg base 1 "area_many" 1 gY:=J.aO (ps:=["area"]) kb nb W4 (J.aD (c:=lz) (k:=0) trivial trivial trivial TB trivial trivial trivial) wo rfl yg (λ_ _ _ _ _ _ us hl=>J.vZ us hl λ_=>rfl)
  have Zu:J.iS l.prog w K mg base 3 "is_area" 1 gw:=J.aO (ps:=["area"]) kb nb W5 (J.aD (c:=oY) (k:=2) ⟨⟨_,V5⟩,trivial⟩ trivial ⟨H23.mono (by decide),H24.mono (by decide),trivial⟩ TB trivial trivial trivial) An rfl Dg (λ_ _ _ _ _ _ us hl=>J.vZ us hl λ_=>rfl)
  have H26:J.iS l.prog w K mg base 1 "places_between" 1 eC:=J.aO (ps:=["area"]) kb nb W6 (J.aD (c:=gy) (k:=0) trivial ⟨Z0,trivial⟩ trivial TB trivial trivial trivial) oB rfl oZ (λ_ _ _ _ _ _ us hl=>J.vZ us hl λ_=>rfl)
  have H27:J.iS l.prog w K mg base 4 "made_area" 4 gZ:=J.aO (ps:=["top","left","bottom","right"]) kb nb W7 (J.aD (c:=lB) (k:=3) trivial trivial ⟨Zu.mono (by decide),trivial⟩ TB ⟨⟨X7,mg_of kb nb sZ,⟨sZ,Tf⟩⟩,trivial⟩ trivial trivial) wq rfl yh (λ_ _ _ _ _ _ us hl=>J.ln4 us hl λ_ _ _ _=>rfl)
  have H28:J.iS l.prog w K mg base 5 "area_places" 1 gO:=J.aO (ps:=["area"]) kb nb W8 (J.aD (c:=jr) (k:=4) trivial trivial ⟨H26.mono (by decide),H27.mono (by decide),trivial⟩ TB trivial trivial trivial) r9 rfl sY (λ_ _ _ _ _ _ us hl=>J.vZ us hl λ_=>rfl)
  have H29:J.iS l.prog w K mg base 8 "put_table" 3 bb:=J.aO (ps:=["sheet","place","table"]) kb nb W9 (J.aD (c:=lC) (k:=7) trivial ⟨Yb,Up,Z13,Z1,trivial⟩ ⟨Nt.mono (by decide),H22.mono (by decide),Zu.mono (by decide),H28.mono (by decide),trivial⟩ TB ⟨⟨X3,mg_of kb nb pV,⟨pV,S7⟩⟩,trivial⟩ trivial trivial) wt rfl yi (λ_ _ _ _ _ _ us hl=>J.Qs us hl λ_ _ _=>rfl)
  have Zv:J.iS l.prog w K mg base 9 "_law_put" 3 cj:=J.aO (ps:=["sheet","place","table"]) kb nb W_ (J.aD (c:=m_) (k:=8) trivial trivial ⟨H29.mono (by decide),H6.mono (by decide),trivial⟩ TB ⟨⟨X6,mg_of kb nb uG,⟨uG,Hx⟩⟩,trivial⟩ trivial trivial ⟨(λ_ _ h=>by cases h;exact U6.mono (by decide)),trivial⟩) yj rfl Ao (λ_ _ _ _ _ _ us hl=>J.Qs us hl λ_ _ _=>rfl)
  have Zw:J.iS l.prog w K mg base 1 "_law_put_due" 3 aV:=J.aO (ps:=["sheet","place","table"]) kb nb W' (J.aD (c:=iR) (k:=0) trivial ⟨Z1,Up,Z0,Yb,Z5,Z6,trivial⟩ trivial TB trivial trivial trivial) pQ rfl r_ (λ_ _ _ _ _ _ us hl=>J.Qs us hl λ_ _ _=>rfl)
  have H32:J.iS l.prog w K mg base 10 "_law_at_bounds" 1 cT:=J.aO (ps:=["sheet"]) kb nb Xa (J.aD (c:=gA) (k:=9) trivial ⟨Z2,Z0,trivial⟩ ⟨Zv.mono (by decide),Zw.mono (by decide),trivial⟩ TB trivial trivial trivial) oC rfl o6 (λ_ _ _ _ _ _ us hl=>J.vZ us hl λ_=>rfl)
  have H33:J.iS l.prog w K mg base 1 "_law_taken_due" 2 aX:=J.aO (ps:=["table","numbers"]) kb nb Xb (J.aD (c:=gB) (k:=0) trivial ⟨Z1,Z2,trivial⟩ trivial TB trivial trivial trivial) oD rfl o_ (λ_ _ _ _ _ _ us hl=>J.ln2 us hl λ_ _=>rfl)
  exact J.OE Fu (J.aD (c:=GQ) (k:=10) trivial ⟨Z1,Yb,Z5,Z2,Up,Z3,Z8,Z0,trivial⟩ ⟨H4.mono (by decide),H1.mono (by decide),H7.mono (by decide),H20.mono (by decide),H32.mono (by decide),H33.mono (by decide),Zv.mono (by decide),Zw.mono (by decide),trivial⟩ TB trivial trivial trivial) OO rfl Sk
end K74
open PySem PySem.W PyProof.Rows
set_option maxRecDepth 100000 in
set_option maxHeartbeats 0 in
theorem PySem.Challenge.cw_onelook_k74_rows_taken_and_put_holds : PySem.Challenge.rw_onelook_k74_rows_taken_and_put.Holds := by
  refine K74.head ?_
  k_fill
  refine L2.walk_of (l:=PySem.Challenge.rw_onelook_k74_rows_taken_and_put) (n:=63) (k:=11) (x:="script") (CX:=fun w => J.CXJ PySem.Challenge.rw_onelook_k74_rows_taken_and_put.prog w) (sp:=fun w => J.spW _ 1 K74.F_law) rfl (by decide) rfl ⟨rfl,by decide,by decide⟩ (fun w h Y => PySem.W.kIn_of Y) ?F (fun w H a ns hl hO hS => J.law_sp K74.law_true H a ns hl (J.OnlyT.of hO) hS (J.tb_none ?Ta ?Tb ?Tc ?Td ?Te)) (fun _ _ _ _ _ z => z.elim fun _ y => y.elim fun _ x => x.2)
  case F=>
    intro w mg fa h KX G hmg
    refine' K74.all_mk KX G hmg ?d1 ?d2 ?d3 ?d4 ?d5 ?d6 ?d7 ?d8 ?d9 ?WM ?WN ?WO ?WQ ?WR ?WS ?WT ?WU ?WV ?WW ?WX ?WY ?WZ ?W0 ?W4 ?W5 ?W6 ?W7 ?W8 ?W9 ?W_ ?W' ?Xa ?Xb ?Xd ?z0 ?z1 ?z2 ?z3 ?z4 ?z5 ?z6 ?z7 ?z8 ?z9 ?Xe ?Xf ?Xg ?Xh ?v0 ?v1 ?v2 ?v3 ?v4 ?v5 ?pS ?SX ?Xi ?Xj ?Xk ?pT ?SY ?Xl ?Xm ?Xn ?pU ?S0 ?Xo ?Xp ?Xq ?pV ?S7 ?Xr ?Xs ?Xt ?pX ?S8 ?Xu ?Xv ?Xw ?pY ?S_ ?Xx ?Xy ?Xz ?uG ?Hx ?sZ ?Tf ?XA ?XB ?XC ?XD ?XE ?XF ?XG ?XH ?XI ?XJ ?XM ?XN ?XO ?Pd ?Pe ?Pf ?Pg ?Ph ?Pj ?Pk ?Pl ?Pm ?Pn ?Po ?Pp ?Pq ?Pr ?Pu ?Pw ?Px ?Py ?Pz ?PB ?PC ?PD ?PF ?PH ?PJ ?PK ?PL ?PM ?PN ?PQ ?PR ?PU ?PV ?PX ?PY ?PZ ?P1 ?P2 ?P4 ?P5 ?P6 ?P7 ?P8 ?P9 ?P_ ?Qa ?XQ ?XR ?XS ?XT ?XU ?XW ?XX ?XY ?XZ ?X8 ?X9 ?X_ ?X' ?Ya
    case d1 | d2 | d3 | d4 | d5 | d6 | d7 | d8 | d9 | WM | WN | WO | WQ | WR | WS | WT | WU | WV | WW | WX | WY | WZ | W0 | W4 | W5 | W6 | W7 | W8 | W9 | W_ | W' | Xa | Xb | Xd=>refine' J.Nc ?a ?l ?c ?k;(case a=>k_is);(case l=>k_is);(case c=>k_is);(case k=>k_is)
    case z0 | z1 | z2 | z3 | z4 | z5 | z6 | z7 | z8 | z9 | Xe | Xf | Xg | Xh | v0 | v1 | v2 | v3 | v4 | v5 | pS=>k_is
    case SX=>k_exc
    case Xi | Xj | Xk | pT=>k_is
    case SY=>k_exc
    case Xl | Xm | Xn | pU=>k_is
    case S0=>k_exc
    case Xo | Xp | Xq | pV=>k_is
    case S7=>k_exc
    case Xr | Xs | Xt | pX=>k_is
    case S8=>k_exc
    case Xu | Xv | Xw | pY=>k_is
    case S_=>k_exc
    case Xx | Xy | Xz | uG=>k_is
    case Hx=>k_exc
    case sZ=>k_is
    case Tf=>k_exc
    case XA | XB | XC=>k_is
    case XD | XE | XF | XG | XH | XI | XJ | XM | XN | XO | Pd | Pe | Pf | Pg | Ph | Pj | Pk | Pl | Pm | Pn | Po | Pp | Pq | Pr | Pu | Pw | Px | Py | Pz | PB | PC | PD | PF | PH | PJ | PK | PL | PM | PN | PQ | PR | PU | PV | PX | PY | PZ | P1 | P2 | P4 | P5 | P6 | P7 | P8 | P9 | P_ | Qa=>kit_is
    case XQ | XR | XS | XT | XU | XW | XX=>k_is
    case XY | XZ | X8 | X9 | X_ | X' | Ya=>kit_is
  (case Ta=>k_is)
  (case Tb=>k_is)
  (case Tc=>k_is)
  (case Td=>k_is)
  (case Te=>k_is)
